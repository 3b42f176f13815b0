import PyProof.Rows.All
import Wide.All
import OpenK.AllK
import Wide.FinOn
import Lean
import PyProof.EqAt
import PyProof.EqKinds
import PyProof.TupleCall
import PyProof.AttrMissHeap
import PyProof.Rows.RegFStrParts
import KE.KIntText
import PySem.Challenge.RW_noteboard_k18_at_the_bounds
set_option compiler.extract_closed false
set_option Elab.async false
set_option linter.all false
set_option maxRecDepth 100000
open Nat renaming le_of_ble_eq_true -> Aa, ne_of_beq_eq_false -> Ab, le_trans -> An, le_refl -> Av, ne_of_lt -> Bf, lt_of_lt_of_le -> Bn, zero_le -> Bx, lt_succ_of_lt -> Dr, ne_of_gt -> D0, lt_of_le_of_lt -> Fm, lt_irrefl -> Fs, le_of_lt -> F6, le_succ -> Gr, lt_succ_self -> G4
open PySem renaming wpAny_bind -> Ad, Value -> Af, PyData -> Ah, Shared -> Ai, wpAny_pure -> Aj, sizeLine -> Ao, starEach -> Au, wpAny -> Az, model -> Bg, Program -> Bj, World -> Bu, Around -> B3, wpAny_callSpecial?_slot -> B4, compareOp -> B8, bootBuiltins -> B9, wpAny_newObj_type -> Ce, wpAny_call_entry -> Co, wpAny_mono -> Cq, FuncData -> Cw, wpAny_field -> C4, backTo -> C5, wpAny_seqItems -> C9, wpAny_holding -> Dd, rawInt -> Dh, wpAny_setField -> Dv, behindInMarks -> D6, Builtin -> D9, mainGlobals -> Ea, wpAny_truthy_bool -> Ec, strKind -> Ef, wpAny_setEntries_of -> Ei, wpAny_attempt -> Ek, sizeLine_eq -> El, attributeBase -> Em, wpAny_setField_rec -> Ep, wpAny_pyIter_tuple -> Er, IsPair -> Es, wpAny_loadPart_at -> E2, excClassObj -> E4, binaryOp -> E5, pyNext -> E7, assignEach -> E8, Scope -> Fb, swapsWith -> Fi, firstArgMember -> Fj, SetTable -> Fk, keywordEach -> Fq, wpAny_setState_of -> Fz, Keyword -> F2, mem_of_lookup -> F4, isSubtype_type -> Gc, codeAny_call_builtin -> Gd, call_meets -> Ge, wpAny_isInstance -> Gh, codeAny_mono -> Gi, codeAny_builtin -> Gt, wpAny_Call_Name_kw -> Gu, wpAny_typeOf -> Gz, wpAny_pyIter_enum -> G0, wpAny_fieldsOf -> G1, foldedSetIterable -> G2, Params -> G3, wpAny_rule -> Ha, wpAny_standAt -> Hb, wpAny_onRaise -> Hd, sliceBounds -> He, wpAny_passesOwn -> Hh, wpAny_isSubtype_exc -> Hi
open PySem.Heap renaming get?_push_of_some -> Ae, lt_size -> Ar, get?_push_size -> Ay, get?_update_self -> Bz, size_push -> Ct, get?_update_other -> Dq, SameBut -> Dz, get?_none_of_le -> G7
open PySem.W renaming Frag -> Ag, mg_of -> B6, keepIn -> Cf, findIn -> Cr, kia_one -> Dk, fnOf -> Eb, kas_rev -> E3, hideAll -> Ga, codeIn -> Gj
open Bool renaming false_ne_true -> Ak, false_eq_true -> Cb, and_eq_true -> Cy, true_and -> C3, false_and -> E6, eq_false_iff -> Fw, eq_iff_iff -> G9
open List renaming mem_cons_of_mem -> Al, mem_cons_self -> Am, length_map -> Ap, map_cons -> Aq, getElem?_eq_getElem -> As, size_toArray -> Aw, replicate -> Ax, length_append -> A0, mem_cons -> A5, mem_singleton -> A6, map_nil -> A7, not_mem_nil -> A9, mem_append_right -> Bb, getElem?_cons_zero -> Bc, length_cons -> Bd, getElem?_map -> Be, set -> Bh, mem_append -> Bi, getElem?_cons_succ -> Bo, map_append -> Br, getElem?_eq_some_iff -> Bs, set_cons_zero -> Bw, length_singleton -> B5, set_cons_succ -> Ca, append_nil -> Cc, mem_append_left -> Cg, getElem?_set_ne -> Ci, append_assoc -> Cj, range -> Cs, flatMap_append -> Cu, all_eq_true -> C8, mem_map -> Dc, length_set -> Df, mem_flatMap -> Dg, replicate_succ -> Dj, toArray -> Dp, eq_nil_of_length_eq_zero -> D2, getElem?_replicate -> D7, flatten_cons -> D8, mem_of_getElem? -> Et, map -> Eu, getElem?_set_self -> Fg, nodup_cons -> Fn, nil_append -> Fo, length_replicate -> Ft, getElem?_eq_none -> Fu, drop_eq_getElem_cons -> F7, lookup -> Gm, length -> Gn, getElem?_set_self' -> Gp, take_length -> Gx, getElem_mem -> Gy, getElem?_zipIdx -> G6, mem_filterMap -> Hf, getLast?_eq_none_iff -> Hj
open PySem.PyData renaming strOk -> A8, str -> C7, canLay0 -> De, depth -> Dl, showable -> D5, intsShort -> Eg, canLayAll0 -> En, depthAll -> Ff, intsShortAll -> F0, weight -> Gb, showableAll -> Gg, tuple -> Gq, weightAll -> Gv
open PySem.Txt renaming split -> Ba
open PyProof.Rows.KTD renaming datumAt -> Bm
open Option.some renaming inj -> Bp
open PySem.Value renaming ref -> Bq, none -> Bv, type -> Dn, str -> D4
open PySem.Heap.SameBut renaming update -> Bt
open And renaming intro -> By
open PySem.Str renaming ofString -> B7, cps_append -> E9
open Int renaming toNat_natCast -> Ck, emod_lt_of_pos -> Dx, emod_nonneg -> Ew
open PySem.Obj renaming data_mapFields -> Cm, mapSeq -> Da, isFreed_of_fields -> Dw, putSet -> Ez, cls_mapFields -> Fx
open PySem.Builtin.SmallTypes renaming nextOf -> Cp, ownedTupleIsFree -> Cz, ownedTupleHandOut -> Hg
open Array renaming length_toList -> C2, getElem?_eq_getElem -> Du, toList_append -> F9
open Option renaming bind -> C6, map -> Di
open PyProof.Rows renaming seqObj -> Dm, envOfC -> Dy, callWith_type1 -> D1, slot_tuple_getitem -> Ej
open PySem.Builtin.List renaming listTooLong -> Dt, listExtendWith -> D3, listSameRef -> G8
open Or renaming inr -> Eh, inl -> F1
open PySem.SetTable renaming grown -> Ex, below -> Ey
open List.cons renaming inj -> Fd
open ToString renaming toString -> Fh
open PySem.Builtin.Slice renaming slicePlaces -> Fp, sliceAdjust -> G5
open PySem.Builtin.Tuple renaming tupleExact -> Fv, tupleItemsOf -> Gw
open PySem.Around renaming under_plainId -> Fy
open PySem.AutoSeq1 renaming wpAny_loadPart' -> F3
open PySem.F renaming args_tuple_add_2 -> F5, slot_tuple_iterator_next -> F8, entry_tuple_add -> Gf, slot_tuple_add -> Gk, slot_zip_next -> Gs, plainAttrs_list -> Hk
open Option renaming some -> ae, none -> af
open Bool renaming true -> ah, false -> ai
noncomputable section
local macro_rules|`(tactic|omega)=>`(tactic|lia)
local macro_rules|`(⋯)=>`(by omega)
local macro_rules|`(∅)=>`(by decide +kernel)
local macro_rules|`(∎)=>`(by decide)
set_option maxHeartbeats 4000000
namespace L2
open PySem PySem.Spec PyProof.Rows
def ko(s:Stmt):Arguments:=match s with
 |.FunctionDef _ a _ _ _ _ _ _ _ _=>a
 |_=>{ posonlyargs:=[],args:=[],vararg:=af,kwonlyargs:=[],kw_defaults:=[],kwarg:=af,defaults:=[]}
def fH(s:Stmt):List Stmt:=match s with
 |.FunctionDef _ _ b _ _ _ _ _ _ _=>b
 |_=>[]
def cK(s:Stmt):Fb:=match s with
 |.FunctionDef _ _ _ _ _ _ sc _ _ _=>sc
 |_=>{ kind:=.function,names:=[],isGenerator:=ai,isCoroutine:=ai}
end L2
namespace Nb
open PySem L2
def cR(i:Nat):Stmt:=PySem.Challenge.pw_noteboard_k18_at_the_bounds.main.body.getD i (.Pass ⟨0,0,0,0⟩)
abbrev GX:Stmt:=cR 66
abbrev Ly:Stmt:=cR 72
abbrev K9:Stmt:=cR 73
abbrev qi:Stmt:=cR 77
abbrev FW:Stmt:=Ly
abbrev CI:Stmt:=K9
abbrev oT(t:String)(d:Data):Obj:=⟨.type t,af,d,#[]⟩
structure Ds where
 i:Nat
 x:Str
 t:Nat
 l:Nat
 n:Nat
 r:Nat
 b:Bool
 v:Nat
 m:Nat
abbrev Ds.c(d:Ds):Nat:=if d.b then d.r+5 else d.r+3
abbrev Ds.f(d:Ds):Nat:=if d.b then d.r+6 else d.r+4
abbrev Ml(m:Nat):Af:=[(.str "noteboard.values" 187),(.str "noteboard.patterns" 253),(.str "noteboard.acts" 320),(.str "noteboard.fieldtexts" 379),(.str "noteboard.programs" 450),(.str "noteboard.plantexts" 515),(.str "law_noteboard_k18_at_the_bounds" 669)].getD m .none
abbrev lp(d:Ds):Cw:=Eb d.x d.x (ko (cR d.i)) (fH (cR d.i)) (cK (cR d.i)) .none .none .none (Ml d.m) af (.ref d.c) .none
abbrev oF(d:Ds):Obj:=oT "function" (.func (lp d))
abbrev oC(d:Ds):Obj:=oT "code" (.fields #[.str d.x d.t,.str d.x (d.t+1),.str "/claim/cut.py" (d.t+2),.int d.l 0,.int d.n 0,.int 0 0,.int 0 0,.int 3 0,.ref d.r,.bool ah,.int 181 0,.ref (d.r+1),.none,if d.b then .ref (d.r+2)else .none,if d.b then .ref (d.r+3)else .none,.ref (if d.b then d.r+4 else d.r+2),.int d.v 0,.int d.l 0,.str "/claim/cut.py" (d.v+1)])
abbrev y2:List Af:=[.type "ValueError",.type "Exception",.type "BaseException",.type "object"]
abbrev oX(x:Str)(C N:Addr)(bs bm sub:List Af)(k a b:Nat):Obj:=E4 x x C N bs bm ah [] sub ai af af (ae (.ref k)) af (ae (.str x a)) (ae (.str x b)) (ae (.bool ah)) "ValueError.__new__"
def QL(s:Stmt):Stmt:=match s with
 |.ClassDef _ _ _ (b::_) _ _ _ _ _ _ _=>b
 |s=>s
abbrev vI:Stmt:=QL (cR 31)
abbrev tJ:Cw:=Eb "__init__" "NoLine.__init__" (ko vI) (fH vI) (cK vI) .none .none .none (.str "noteboard.errors" 332) af (.ref 154) .none
abbrev eN(P:G3)(x:Str)(t:Nat)(v:Af):DictEntry:=⟨PyData.keyHash P x,.str x t,v⟩
abbrev en(P:G3)(d:Ds):DictEntry:=eN P d.x (d.v+2) (.ref d.f)
def dL:List Ds:=[⟨6,"is_whole",199,7,1,15,ah,203,0⟩,⟨7,"is_letters",206,9,2,22,ai,209,0⟩,⟨8,"is_word",212,13,1,27,ah,216,0⟩,⟨9,"is_number",219,15,1,34,ah,223,0⟩,⟨10,"is_value",226,17,1,41,ah,230,0⟩,⟨11,"is_name",233,19,1,48,ah,237,0⟩,⟨12,"is_row",240,21,1,55,ai,243,0⟩,⟨13,"is_age",246,25,1,60,ah,250,0⟩,⟨16,"is_headed",257,29,3,67,ah,263,1⟩,⟨17,"is_named",266,31,2,74,ah,271,1⟩,⟨18,"is_term",274,33,1,81,ah,278,1⟩,⟨19,"is_pattern_field",281,37,1,88,ah,285,1⟩,⟨20,"is_template_field",288,41,1,95,ah,292,1⟩,⟨21,"has_field_count",295,43,1,102,ah,299,1⟩,⟨22,"is_pattern",302,45,1,109,ai,305,1⟩,⟨23,"is_template",308,47,1,114,ai,311,1⟩,⟨24,"binds",314,49,1,119,ai,317,1⟩,⟨28,"is_wanted",326,54,1,124,ai,329,2⟩,⟨37,"is_figures",405,74,1,163,ai,408,3⟩,⟨38,"number_read",411,76,1,168,ah,416,3⟩,⟨39,"value_read",419,81,1,175,ah,423,3⟩,⟨40,"field_read",426,83,1,182,ah,432,3⟩,⟨41,"age_read",435,92,1,189,ah,440,3⟩,⟨42,"block_read",443,95,1,196,ah,447,3⟩,⟨49,"known_at",466,103,3,205,ah,476,4⟩,⟨50,"fields_of",479,111,1,212,ah,483,4⟩,⟨51,"first_unknown",486,115,2,219,ah,493,4⟩,⟨52,"can_lead",496,120,3,226,ai,499,4⟩,⟨53,"wrong_word",502,122,3,231,ah,512,4⟩,⟨58,"can_stand",555,136,3,241,ah,561,5⟩,⟨59,"lacks_block",564,146,1,248,ah,568,5⟩,⟨60,"part_read",571,148,2,255,ah,576,5⟩,⟨61,"can_begin",579,152,2,262,ai,582,5⟩,⟨62,"parts_read",585,162,1,267,ah,592,5⟩,⟨63,"tail_read",595,170,2,274,ah,601,5⟩,⟨64,"line_made",604,177,3,281,ah,610,5⟩,⟨65,"line_read",613,187,2,288,ah,623,5⟩,⟨66,"put_line",626,196,4,295,ah,633,5⟩,⟨67,"program_made",636,205,1,302,ai,639,5⟩,⟨68,"refuse_wrong_block",642,207,3,307,ah,650,5⟩,⟨69,"refuse_wrong",653,214,1,314,ah,660,5⟩,⟨70,"read_plan",663,221,1,321,ai,666,5⟩,⟨72,"_law_tape",671,235,1,326,ah,675,6⟩,⟨73,"_law_draw",678,237,2,333,ah,687,6⟩,⟨74,"_law_told",690,252,1,340,ah,696,6⟩,⟨75,"_law_word",699,259,2,347,ai,702,6⟩,⟨76,"_law_rows",705,261,1,352,ai,708,6⟩,⟨77,"law",711,298,1,357,ah,719,6⟩]
def KK(P:G3):Ag:=let e:=eN P
 (3,oT "dict" (.dict ([e "__name__" 165 (.str "law_noteboard_k18_at_the_bounds" 669),e "__doc__" 166 .none,e "__package__" 167 .none,e "__loader__" 168 (.builtin "__main__.__loader__#opaque"),e "__spec__" 169 .none,e "__annotations__" 170 (.ref 6),e "__builtins__" 171 (.ref 4),e "__file__" 173 (.str "/claim/cut.py" 172),e "__cached__" 174 .none,e "LONGEST_WORD" 190 (.int 8 189),e "LONGEST_NAME" 192 (.int 4 191),e "LONGEST_ROW" 194 (.int 4 193),e "GREATEST_NUMBER" 196 (.int 99 195),e "GREATEST_AGE" 198 (.int 20 197)]++((dL.drop 0).take 8).map (en P)++[e "MOST_FIELDS" 256 (.int 4 255)]++((dL.drop 8).take 9).map (en P)++[e "MOST_WANTED" 323 (.int 4 322),e "MOST_ACTS" 325 (.int 8 324)]++((dL.drop 17).take 1).map (en P)++[e "BoardError" 351 (.ref 138),e "NoLine" 378 (.ref 158),e "BARE_SIGNS" 390 (.ref 161),e "NAME_SIGNS" 400 (.ref 162),e "AGE_SIGN" 402 (.str "@" 401),e "BLOCK_SIGN" 404 (.str ">" 403)]++((dL.drop 18).take 6).map (en P)++[e "MOST_BLOCKS" 453 (.int 6 452),e "MOST_PROGRAMS" 455 (.int 5 454),e "MOST_NOTES" 457 (.int 12 456),e "GETTING" 461 (.ref 203),e "LEADING" 465 (.ref 204)]++((dL.drop 24).take 5).map (en P)++[e "ACT_HEADS" 523 (.ref 238),e "AGED" 526 (.ref 239),e "LEAST_PARTS" 554 (.ref 240)]++((dL.drop 29).take 19).map (en P)).toArray 79))::(dL.flatMap λd=>[(d.c,oC d),(d.f,oF d)])++[(203,oT "tuple" (.seq #[(.str "take" 458),(.str "read" 459),(.str "look" 460)] 0)),(204,oT "tuple" (.seq #[(.str "look" 462),(.str "same" 463),(.str "go" 464)] 0)),(238,oT "tuple" (.seq #[(.str "lay" 517),(.str "take" 518),(.str "read" 519),(.str "look" 520),(.str "same" 521),(.str "go" 522)] 0)),(239,oT "tuple" (.seq #[(.str "note" 524),(.str "lay" 525)] 0)),(161,oT "dict" (.dict #[(e "any" 381 (.str "?" 382)),(e "word" 383 (.str "$" 384)),(e "number" 385 (.str "#" 386))] 3)),(162,oT "dict" (.dict #[(e "bind" 391 (.str "?" 392)),(e "as" 393 (.str "=" 394)),(e "next" 395 (.str "+" 396))] 3)),(240,oT "dict" (.dict #[(e "note" 527 (.int 1 528)),(e "hand" 529 (.int 0 530)),(e "block" 531 (.int 0 532)),(e "lay" 533 (.int 1 534)),(e "take" 535 (.int 1 536)),(e "read" 537 (.int 1 538)),(e "look" 539 (.int 1 540)),(e "same" 541 (.int 2 542)),(e "go" 543 (.int 0 544))] 9)),(2,⟨.none,af,.dict #[] 0,#[]⟩),(137,oT "dict" (.dict #[(e "__module__" 341 (.str "noteboard.errors" 332)),(e "__firstlineno__" 345 (.int 61 344)),(e "__static_attributes__" 346 (.ref 136)),(e "__weakref__" 348 (.ref 139)),(e "__doc__" 349 .none)] 3)),(138,oX "BoardError" 138 137 [.type "ValueError"] y2 [.ref 158] 129 334 342),(154,oT "code" (.fields #[.str "__init__" 364,.str "NoLine.__init__" 365,.str "/claim/cut.py" 366,.int 65 0,.int 3 0,.int 0 0,.int 0 0,.int 3 0,.ref 149,.bool ah,.int 181 0,.ref 150,.none,.ref 151,.ref 152,.ref 153,.int 370 0,.int 65 0,.str "/claim/cut.py" 371])),(155,oT "function" (.func tJ)),(157,oT "dict" (.dict #[(e "__module__" 359 (.str "noteboard.errors" 332)),(e "__firstlineno__" 363 (.int 63 362)),(e "__init__" 372 (.ref 155)),(e "__static_attributes__" 375 (.ref 156)),(e "__doc__" 376 .none)] 2)),(158,oX "NoLine" 158 157 [.ref 138] (.ref 138::y2) [] 142 352 360)]
def aS:List Addr:=3::(dL.flatMap λd=>[d.c,d.f])++[203,204,238,239,161,162,240,2,137,138,154,155,157,158]
abbrev pp:Bj:=PySem.Challenge.pw_noteboard_k18_at_the_bounds
abbrev qq:Bj:=PySem.W.view pp [77]
def lO:List Str:=(["LONGEST_WORD","LONGEST_NAME","LONGEST_ROW","GREATEST_NUMBER","GREATEST_AGE","is_whole","is_letters","is_word","is_number","is_value","is_name","is_row","is_age","MOST_FIELDS","is_headed","is_named","is_term","is_pattern_field","is_template_field","has_field_count","is_pattern","is_template","binds","MOST_WANTED","MOST_ACTS","is_wanted","BoardError","NoLine","BARE_SIGNS","NAME_SIGNS","AGE_SIGN","BLOCK_SIGN","is_figures","number_read","value_read","field_read","age_read","block_read","MOST_BLOCKS","MOST_PROGRAMS","MOST_NOTES","GETTING","LEADING","known_at","fields_of","first_unknown","can_lead","wrong_word","ACT_HEADS","AGED","LEAST_PARTS","can_stand","lacks_block","part_read","can_begin","parts_read","tail_read","line_made","line_read","put_line","program_made","refuse_wrong_block","refuse_wrong","read_plan","_law_tape","_law_draw","_law_told","_law_word","_law_rows"]:List String).map B7
abbrev xT:Ai->Bool:=λs=>PySem.W.xlAt qq [] s&&PySem.W.recOk (PySem.W.RowW.records PySem.Challenge.rw_noteboard_k18_at_the_bounds.row.toRowW) s
theorem said_:PySem.Challenge.rw_noteboard_k18_at_the_bounds.wellSaid=ah:=by kernel_rfl
theorem aK:∀P,aS=(KK P).map (·.1):=λP=>by kernel_rfl
abbrev hK:PySem.W.Hook:=PySem.W.kHook KK aS aK
theorem uz{α β:Type}{o:Option α}{f g:α->Option β}{a b:β}(h:o.bind f=ae a)(h':o.bind g=ae b):o.map (λs=>(f s,g s))=ae (ae a,ae b):=by
 cases o with
 |none=>cases h
 |some s=>exact congrArg ae (Prod.ext h h')
theorem ID(w:Bu):(PySem.W.fencedOpening PySem.treeTable pp w 6000).bind (λs₀=>(PySem.W.topFrom PySem.treeTable pp (w.withFollow "special-get-raises" ai) 6000 s₀).map λs=>(PySem.W.openSeen qq lO (importedModules pp.main.body) xT ah s,hK.obs s))=ae (PySem.W.openGood qq lO,hK.val (w.withFollow "special-get-raises" ai)):=by kernel_rfl
theorem RB(w:Bu):(PySem.W.fencedOpening PySem.treeTable pp w 6000).bind (λs₀=>(PySem.W.topFrom PySem.treeTable pp (w.withFollow "special-get-raises" ah) 6000 s₀).map λs=>(PySem.W.openSeen qq lO (importedModules pp.main.body) xT ah s,hK.obs s))=ae (PySem.W.openGood qq lO,hK.val (w.withFollow "special-get-raises" ah)):=by kernel_rfl
theorem left_:PySem.W.LeftO pp qq lO xT hK.obs hK.val 6000:=PySem.W.LeftO.of_split "special-get-raises" λw=>uz (ID w) (RB w)
def NQ(s:Stmt):Pos:=match s with
 |.FunctionDef _ _ _ _ _ _ _ _ _ p=>p
 |_=>⟨0,0,0,0⟩
def dW:DefRec:=⟨"law",ko qi,fH qi,cK qi,NQ qi⟩
theorem Ii(P:G3):(dL.map λd=>(PySem.W.nsIn (KK P) Ea d.x,(KK P).lookup d.f,Gj (KK P) (.ref d.c) d.x))=dL.map λd=>(ae (ae (.ref d.f)),ae (oF d),ah):=by kernel_rfl
theorem zF{α β:Type}{f g:α->β}{l:List α}(h:l.map f=l.map g){j:Nat}{a:α}(e:l[j]?=ae a):f a=g a:=by
 have:=congrArg (λl=>l[j]?) h;simp only[Be,e,Option.map_some]at this;exact Bp this
end Nb
namespace L2
open PySem PySem.Spec PyProof.Rows
abbrev b9:=Sum Int Str
def qY:b9->Af->Bool
 |.inl k,v=>Value.isInt k v
 |.inr x,v=>Value.isStrOf x v
def uI(w:Bu):b9->Int
 |.inl k=>hashInt k
 |.inr x=>hashStr w x
theorem jd:∀{k:b9}{v:Af},qY k v=ah->(∃i t,k=Sum.inl i/\v=Value.int i t)\/(∃x t,k=Sum.inr x/\v=D4 x t)
 |.inl i,v,h=>by
  obtain⟨t,e⟩:=Value.isInt_shape (k:=i) (v:=v) h;exact .inl ⟨i,t,rfl,e⟩
 |.inr x,v,h=>by
  obtain⟨t,e⟩:=Value.isStrOf_shape (x:=x) (v:=v) h;exact .inr ⟨x,t,rfl,e⟩
theorem yI(x:Str)(t:Tok):qY (.inr x) (.str x t)=ah:=by simp[qY,Value.isStrOf]
theorem Qw(a b:Int):decide ((Sum.inl a:b9)=Sum.inl b)=(a==b):=by
 by_cases e:a=b
 ·subst e;simp
 ·have h:¬(Sum.inl a:b9)=Sum.inl b:=λq=>e (Sum.inl.inj q);rw[decide_eq_false h];exact(beq_eq_false_iff_ne.mpr e).symm
theorem Oo(a b:Str):decide ((Sum.inr a:b9)=Sum.inr b)=decide (a=b):=by
 by_cases e:a=b
 ·subst e;simp
 ·have h:¬(Sum.inr a:b9)=Sum.inr b:=λq=>e (Sum.inr.inj q);rw[decide_eq_false h,decide_eq_false e]
theorem Nl(a:Int)(b:Str):decide ((Sum.inl a:b9)=Sum.inr b)=ai:=decide_eq_false (λq=>nomatch q)
theorem Rf(a:Str)(b:Int):decide ((Sum.inr a:b9)=Sum.inl b)=ai:=decide_eq_false (λq=>nomatch q)
def kB(prog:Bj)(w:Bu):PySem.KeyKind prog w b9 where
 is:=qY
 hash:=uI w
 inj:=λv a b ha hb=>by
  rcases jd ha with⟨i,t,rfl,rfl⟩|⟨x,t,rfl,rfl⟩
  ·rcases jd hb with⟨j,u,rfl,e⟩|⟨y,u,rfl,e⟩
   ·injection e with e1 _;rw[e1]
   ·exact nomatch e
  ·rcases jd hb with⟨j,u,rfl,e⟩|⟨y,u,rfl,e⟩
   ·exact nomatch e
   ·injection e with e1 _;rw[e1]
 byValue:=λk v h=>by
  rcases jd h with⟨i,t,rfl,rfl⟩|⟨x,t,rfl,rfl⟩<;>rfl
 pyHash:=λhv h=>by
  rcases jd hv with⟨i,t,rfl,rfl⟩|⟨x,t,rfl,rfl⟩
  ·exact wpAny_pyHash_int h
  ·exact wpAny_pyHash_str h
 eqBool:=λhu hv h=>by
  rcases jd hu with⟨i,t,rfl,rfl⟩|⟨x,t,rfl,rfl⟩
  ·rcases jd hv with⟨j,u,rfl,rfl⟩|⟨y,u,rfl,rfl⟩
   ·rw[Qw]at h;exact wpAny_eqBool_int h
   ·rw[Nl]at h;exact SeqAt.EqAt.int_str i t y u _ _ _ _ h
  ·rcases jd hv with⟨j,u,rfl,rfl⟩|⟨y,u,rfl,rfl⟩
   ·rw[Rf]at h;exact SeqAt.EqAt.str_int x t j u _ _ _ _ h
   ·rw[Oo]at h;exact wpAny_eqBool_str h
 «strs»:=λk x t v h=>by
  rcases jd h with⟨i,u,rfl,e⟩|⟨y,u,rfl,e⟩
  ·exact nomatch e
  ·injection e with e1 _;subst e1;cases v<;>rfl
inductive V where
 |non|bl (b:Bool)|int (i:Int)|str (x:Str)|byt (b:Array UInt8)|flt (b:UInt64)|ref (a:Addr)|ty (n:String)
 deriving DecidableEq
def RelV:V->Af->Prop
 |.non,u=>u=Bv
 |.bl b,u=>u=Value.bool b
 |.int i,u=>∃t,u=Value.int i t
 |.str x,u=>∃t,u=D4 x t
 |.byt b,u=>∃t,u=Value.bytes b t
 |.flt b,u=>∃t,u=Value.float b t
 |.ref a,u=>u=Bq a
 |.ty n,u=>u=Dn n
abbrev Vals:List V->List Af->Prop:=Paired RelV
theorem Vals.length{xs:List V}{us:List Af}(r:Vals xs us):xs.length=us.length:=Paired.length r
theorem Vals.get:∀{xs:List V}{us:List Af}{i:Nat}{x:V},Vals xs us->xs[i]?=ae x->∃u,us[i]?=ae u/\RelV x u
 |_,_,_,_,.nil,e=>by simp at e
 |_,_,0,_,.cons r _,e=>by simp at e;subst e;exact⟨_,rfl,r⟩
 |_,_,i+1,x,.cons _ t,e=>by
  obtain⟨u,h1,h2⟩:=Vals.get (i:=i) (x:=x) t (by simpa using e);exact⟨u,by simpa using h1,h2⟩
theorem Vals.set{x:V}{u:Af}(r:RelV x u):∀{xs:List V}{us:List Af}(i:Nat),Vals xs us->Vals (xs.set i x) (us.set i u)
 |_,_,_,.nil=>.nil
 |_,_,0,.cons _ t=>.cons r t
 |_,_,i+1,.cons q t=>.cons q (Vals.set r i t)
theorem Vals.append:∀{xs ys:List V}{us ws:List Af},Vals xs us->Vals ys ws->Vals (xs++ys) (us++ws)
 |_,_,_,_,.nil,s=>s
 |_,_,_,_,.cons r t,s=>.cons r (Vals.append t s)
theorem Vals.take:∀{xs:List V}{us:List Af}(n:Nat),Vals xs us->Vals (xs.take n) (us.take n)
 |_,_,0,_=>.nil
 |_,_,_+1,.nil=>.nil
 |_,_,n+1,.cons r t=>.cons r (Vals.take n t)
theorem Vals.drop:∀{xs:List V}{us:List Af}(n:Nat),Vals xs us->Vals (xs.drop n) (us.drop n)
 |_,_,0,r=>r
 |_,_,_+1,.nil=>.nil
 |_,_,n+1,.cons _ t=>Vals.drop n t
def RelO:Option V->Option Af->Prop
 |some v,ae u=>RelV v u
 |none,af=>True
 |_,_=>False
def KV{κ:Type}:List (κ×V)->List (κ×Af)->Prop:=Paired λ(p:κ×V)(q:κ×Af)=>p.1=q.1/\RelV p.2 q.2
def kV:b9->V
 |.inl i=>.int i
 |.inr x=>.str x
inductive HO where
 |lst (xs:List V)
 |tup (xs:List V)
 |dK (kvs:List (b9×V))|dT (kvs:List (List b9×V))
 |set (S:Int->Bool) (n:Nat)
 |ins (C dx:Addr) (fs:List (Str×V))
 |own (x:Addr)
 |xd (fs:List (Str×V))
 |met (f x:Addr)
 |rng (lo hi:Int)
 |frz (o:Obj) (u:HO)
 |tbl (ps:Array Af)
 |ext (φ:Heap->Prop)
abbrev Hp:=Addr->Option HO
def upd(H:Hp)(a:Addr)(o:HO):Hp:=λb=>if b=a then ae o else H b
theorem bw{H:Hp}{a:Addr}{o:HO}:upd H a o a=ae o:=by unfold upd;rw[if_pos rfl]
theorem aM{H:Hp}{a b:Addr}{o:HO}(h:b≠a):upd H a o b=H b:=by unfold upd;rw[if_neg h]
theorem NV{H:Hp}{a:Addr}{o u:HO}:upd (upd H a o) a u=upd H a u:=by
 funext b;unfold upd;split<;>rfl
theorem MS{H:Hp}{a b:Addr}{o u:HO}(h:H a=ae o)(h':H b=ae u)(d:o≠u):a≠b:=by
 intro e;subst e;rw[h]at h';exact d (Bp h')
theorem bQ{H:Hp}{a b:Addr}{o:HO}(h:H a=ae o)(h':H b=af):a≠b:=by
 intro e;subst e;rw[h]at h';cases h'
def IsTupP(h:Heap)(a:Addr)(items:Array Af):Prop:=∃o,h.get? a=ae o/\o.cls=.type "tuple"/\(∃n,o.data=.seq items n)/\o.dict=af
theorem IsTupP.tup{h:Heap}{a:Addr}{items:Array Af}(x:IsTupP h a items):IsTup h a items:=let⟨o,e,c,d,_⟩:=x;⟨o,e,c,d⟩
theorem IsTupP.lt{h:Heap}{a:Addr}{items:Array Af}(x:IsTupP h a items):a < h.objs.size:=let⟨_,e,_⟩:=x;Ar e
theorem IsTupP.new(h:Heap)(items:Array Af):IsTupP (h.push {cls:=.type "tuple",data:=.seq items}) h.objs.size items:=⟨_,Ay _ rfl,rfl,⟨_,rfl⟩,rfl⟩
section
variable(P:Bj)(w:Bu)
def ObjOk(H:Hp)(h:Heap)(a:Addr):HO->Prop
 |.lst xs=>xs.length<=Ao/\∃(its:List Af)(n:Nat),Vals xs its/\h.get? a=ae {cls:=.type "list",data:=.seq its.toArray n}
 |.tup xs=>xs.length<=Ao/\∃its:List Af,Vals xs its/\IsTupP h a its.toArray
 |.dK kvs=>kvs.length<=Ao/\(a==sysModules)=ai/\∃vs,KV kvs vs/\h.DictOf (kB P w) a vs
 |.dT kvs=>kvs.length<=Ao/\(a==sysModules)=ai/\∃xs:List (List b9×Addr×Af),
   Paired (λ(p:List b9×V)(q:List b9×Addr×Af)=>p.1=q.1/\H q.2.1=ae (.tup (p.1.map kV))/\RelV p.2 q.2.2) kvs xs /\
   ∃o es ep,h.get? a=ae o/\o.ExactDict/\o.data=.dict es ep/\es.toList=xs.map (entryOfKey (tupleKind (kB P w)))/\(xs.map (·.1)).Nodup
 |.set S n=>h.SetOf (intKind P w) a S n
 |.ins C dx fs=>H dx=ae (.own a)/\fs.length<=1000/\dx≠a/\h.get? a=ae (PySem.W.instObj C dx) /\
   ∃mA,h.Ns1 dx mA/\(∀f,RelO (fs.lookup f) (mA f))/\PySem.Within mA (fs.map (·.1))
 |.own _=>∃o,h.get? a=ae o
 |.xd fs=>∃mA,h.Ns1 a mA/\∀f,RelO (fs.lookup f) (mA f)
 |.rng lo hi=>∃t u v,h.get? a=ae {cls:=.type "range",data:=.fields #[.int lo t,.int hi u,.int 1 v]}
 |.frz o u=>h.get? a=ae o/\ObjOk H h a u
 |.tbl ps=>h.get? a=ae {cls:=.none,data:=.fields ps}
 |.met f x=>h.get? a=ae (PySem.W.methodObj (.ref f) (.ref x))
 |.ext φ=>φ h/\(∃o,h.get? a=ae o)/\∀h1 h2:Heap,φ h1->(∀o,h1.get? a=ae o->h2.get? a=ae o)->φ h2
def HOk(H:Hp)(h:Heap):Prop:=∀a o,H a=ae o->ObjOk P w H h a o
end
section
variable{P:Bj}{w:Bu}{H H':Hp}{h h':Heap}{a:Addr}{o:HO}
theorem ObjOk.lt(x:ObjOk P w H h a o):a < h.objs.size:=by
 cases o with
 |lst xs=>obtain⟨_,_,_,_,e⟩:=x;exact Ar e
 |tup xs=>obtain⟨_,_,_,p⟩:=x;exact p.lt
 |dK kvs=>obtain⟨_,_,_,_,o,_,_,e,_⟩:=x;exact Ar e
 |dT kvs=>obtain⟨_,_,_,_,o,_,_,e,_⟩:=x;exact Ar e
 |set S n=>obtain⟨o,_,_,_,e,_⟩:=x;exact Ar e
 |ins C dx fs=>obtain⟨_,_,_,e,_⟩:=x;exact Ar e
 |own y=>obtain⟨_,e⟩:=x;exact Ar e
 |xd fs=>obtain⟨_,⟨_,_,_,e,_⟩,_⟩:=x;exact Ar e
 |rng lo hi=>obtain⟨_,_,_,e⟩:=x;exact Ar e
 |frz ob u=>obtain⟨e,_⟩:=x;exact Ar e
 |tbl ps=>exact Ar (show h.get? a=ae _ from x)
 |met f y=>exact Ar (show h.get? a=ae _ from x)
 |ext φ=>obtain⟨_,⟨_,e⟩,_⟩:=x;exact Ar e
theorem Paired.mapP{α β:Type}{F G:α->β->Prop}:∀{l₁:List α}{l₂:List β},Paired F l₁ l₂->(∀a b,F a b->G a b)->Paired G l₁ l₂
 |_,_,.nil,_=>.nil
 |_,_,.cons r t,f=>.cons (f _ _ r) (Paired.mapP t f)
theorem ObjOk.stay(x:ObjOk P w H h a o)(k:∀b u,(b=a\/H b=ae (.own a))->h.get? b=ae u->h'.get? b=ae u)
  (ho:∀b,H b=ae (.own a)->H' b=ae (.own a)) (ht:∀b xs,H b=ae (.tup xs)->H' b=ae (.tup xs)):ObjOk P w H' h' a o:=by
 induction o with
 |lst xs=>obtain⟨z,its,n,r,e⟩:=x;exact⟨z,its,n,r,k _ _ (.inl rfl) e⟩
 |tup xs=>obtain⟨z,its,r,ob,e,c⟩:=x;exact⟨z,its,r,ob,k _ _ (.inl rfl) e,c⟩
 |dK kvs=>obtain⟨z,y,vs,r,ob,es,ep,e,c⟩:=x;exact⟨z,y,vs,r,ob,es,ep,k _ _ (.inl rfl) e,c⟩
 |dT kvs=>
  obtain⟨z,y,xs,r,ob,es,ep,e,c⟩:=x;exact⟨z,y,xs,Paired.mapP r λp q z=>⟨z.1,ht _ _ z.2.1,z.2.2⟩,ob,es,ep,k _ _ (.inl rfl) e,c⟩
 |set S n=>obtain⟨ob,es,ep,t,e,c⟩:=x;exact⟨ob,es,ep,t,k _ _ (.inl rfl) e,c⟩
 |ins C dx fs=>
  obtain⟨d,z,ne,e,mA,⟨od,es,ep,e2,c⟩,r⟩:=x;exact⟨ho _ d,z,ne,k _ _ (.inl rfl) e,mA,⟨od,es,ep,k _ _ (.inr d) e2,c⟩,r⟩
 |own y=>obtain⟨ob,e⟩:=x;exact⟨ob,k _ _ (.inl rfl) e⟩
 |xd fs=>obtain⟨mA,⟨od,es,ep,e,c⟩,r⟩:=x;exact⟨mA,⟨od,es,ep,k _ _ (.inl rfl) e,c⟩,r⟩
 |rng lo hi=>obtain⟨t,u,v,e⟩:=x;exact⟨t,u,v,k _ _ (.inl rfl) e⟩
 |frz ob u ih=>obtain⟨e,q⟩:=x;exact⟨k _ _ (.inl rfl) e,ih q⟩
 |tbl ps=>
  have e:h.get? a=ae {cls:=.none,data:=.fields ps}:=x;show h'.get? a=ae {cls:=.none,data:=.fields ps};exact k a _ (.inl rfl) e
 |met f y=>
  have e:h.get? a=ae (PySem.W.methodObj (.ref f) (.ref y)):=x;show h'.get? a=ae (PySem.W.methodObj (.ref f) (.ref y));exact k a _ (.inl rfl) e
 |ext φ=>obtain⟨p,⟨o,e⟩,st⟩:=x;exact⟨st _ _ p λo q=>k _ _ (.inl rfl) q,⟨o,k _ _ (.inl rfl) e⟩,st⟩
theorem HOk.lt(x:HOk P w H h)(e:H a=ae o):a < h.objs.size:=(x a o e).lt
theorem HOk.fresh(x:HOk P w H h)(e:h.objs.size<=a):H a=af:=by
 cases q:H a with
 |none=>rfl
 |some u=>exact absurd (Bn (x.lt q) e) (Fs _)
theorem HOk.kept(x:HOk P w H h)(k:∀b u,h.get? b=ae u->h'.get? b=ae u):HOk P w H h':=λa o e=>
 (x a o e).stay (λb u _ q=>k b u q) (λ_ q=>q) λ_ _ q=>q
theorem HOk.laid(x:HOk P w H h)(k:∀b u,h.get? b=ae u->h'.get? b=ae u)(hp:h.objs.size<=a)(new:ObjOk P w (upd H a o) h' a o):HOk P w (upd H a o) h':=λb u e=>by
 have hn:=x.fresh hp;by_cases hb:b=a
 ·subst hb;rw[bw]at e;cases e;exact new
 ·rw[aM hb]at e;exact(x b u e).stay (λc v _ q=>k c v q) (λc q=>by rw[aM (bQ q hn)];exact q) λc xs q=>by rw[aM (bQ q hn)];exact q
end
def Rd(H:Hp)(a:Addr)(u:HO):Prop:=H a=ae u\/∃o,H a=ae (.frz o u)
theorem Rd.ok{P:Bj}{w:Bu}{H:Hp}{h:Heap}{a:Addr}{u:HO}(r:Rd H a u)(x:HOk P w H h):ObjOk P w H h a u:=by
 rcases r with r|⟨o,r⟩
 ·exact x a u r
 ·obtain⟨_,q⟩:=x a _ r;exact q
def pH:Option HO->Prop
 |some (.lst _)=>True
 |some (.dK _)=>True
 |some (.dT _)=>True
 |some (.set _ _)=>True
 |some (.ins _ _ _)=>True
 |some (.ext _)=>True
 |_=>False
section
variable{P:Bj}{w:Bu}{H:Hp}{h h':Heap}{x e:Addr}{o':HO}
theorem HOk.write(ok:HOk P w H h)(mu:pH (H x))(he:e=x\/H e=ae (.own x))(k:∀b u,b≠e->h.get? b=ae u->h'.get? b=ae u)(heo:∃u,h'.get? e=ae u)
  (new:ObjOk P w (upd H x o') h' x o'):HOk P w (upd H x o') h':=λb u q=>by
 have nown:∀c y,H c=ae (.own y)->c≠x:=λc y r z=>by subst z;rw[r]at mu;exact mu
 have ntup:∀c xs,H c=ae (.tup xs)->c≠x:=λc xs r z=>by subst z;rw[r]at mu;exact mu
 by_cases hb:b=x
 ·subst hb;rw[bw]at q;cases q;exact new
 ·rw[aM hb]at q;by_cases hbe:b=e
  ·have q':H b=ae (.own x):=by
    rcases he with z|z
    ·exact absurd (hbe.trans z) hb
    ·rw[hbe];exact z
   rw[q]at q';cases q';obtain⟨v,hv⟩:=heo;exact⟨v,by rw[hbe];exact hv⟩
  ·refine(ok b u q).stay (λc v hc r=>k c v ?_ r) (λc r=>by rw[aM (nown c b r)];exact r) λc xs r=>by rw[aM (ntup c xs r)];exact r
   rcases hc with rfl|hc
   ·exact hbe
   ·rintro rfl
    rcases he with z|z
    ·exact nown c b hc z
    ·rw[hc]at z;cases z;exact hb rfl
end
structure Un(fs ex:List Addr)(H H':Hp)(h h':Heap):Prop where
 keep:∀b o,h.get? b=ae o->H b=af->b∉fs->b∉ex->h'.get? b=ae o
 slot:∀b o,h.get? b=ae o->H b=af->b∈fs->b∉ex->∃sl,h'.get? b=ae {o with slots:=sl}
 free:∀b o,h.get? b=ae o->H b=af->b∉ex->H' b=af
 there:∀b o,h.get? b=ae o->b∉ex->∃o',h'.get? b=ae o'
 tups:∀b xs,H b=ae (.tup xs)->H' b=ae (.tup xs)
 frzs:∀b o u,H b=ae (.frz o u)->H' b=ae (.frz o u)
 tbls:∀b ps,H b=ae (.tbl ps)->∃more,H' b=ae (.tbl (ps++more))
section
variable{fs fs' ex ex':List Addr}{H H1 H2:Hp}{h h1 h2 h':Heap}{a x e:Addr}{o:HO}
theorem Un.any(u:Un fs ex H H1 h h1){b:Addr}{ob:Obj}(q:h.get? b=ae ob)(n:H b=af)(hx:b∉ex):∃sl,h1.get? b=ae {ob with slots:=sl}:=by
 by_cases hb:b∈fs
 ·exact u.slot b ob q n hb hx
 ·exact⟨ob.slots,u.keep b ob q n hb hx⟩
theorem Un.kept(k:∀b u,h.get? b=ae u->h'.get? b=ae u):Un fs ex H H h h':=
 ⟨λb ob q _ _ _=>k b ob q,λb ob q _ _ _=>⟨ob.slots,k b ob q⟩,λ_ _ _ n _=>n,λb ob q _=>⟨ob,k b ob q⟩,λ_ _ q=>q,λ_ _ _ q=>q,λ_ ps q=>⟨#[],by rw[q];simp⟩⟩
theorem Un.refl:Un fs ex H H h h:=Un.kept λ_ _ q=>q
theorem Un.laid(k:∀b u,h.get? b=ae u->h'.get? b=ae u)(hp:h.objs.size<=a)(hn:H a=af):Un fs ex H (upd H a o) h h' where
 keep:=λb u q _ _ _=>k b u q
 slot:=λb u q _ _ _=>⟨u.slots,k b u q⟩
 free:=λb u q n _=>by rw[aM (Bf (Bn (Ar q) hp))];exact n
 there:=λb u q _=>⟨u,k b u q⟩
 tups:=λb xs q=>by rw[aM (bQ q hn)];exact q
 frzs:=λb u xs q=>by rw[aM (bQ q hn)];exact q
 tbls:=λb ps q=>⟨#[],by rw[aM (bQ q hn),q];simp⟩
theorem Un.write(mu:pH (H x))(he:e=x\/H e=ae (.own x))(k:∀b u,b≠e->h.get? b=ae u->h'.get? b=ae u)(heo:∃u,h'.get? e=ae u):Un fs ex H (upd H x o) h h':=by
 have hx:∀b,H b=af->b≠x:=λb n z=>by subst z;rw[n]at mu;exact mu
 have hb:∀b,H b=af->b≠e:=λb n z=>by
  subst z;rcases he with r|r
  ·exact hx b n r
  ·rw[n]at r;cases r
 have hm:∀b u,H b=ae u->¬pH (ae u)->b≠x:=λb u q nm z=>by subst z;rw[q]at mu;exact nm mu
 refine⟨λb u q n _ _=>k b u (hb b n) q,λb u q n _ _=>⟨u.slots,k b u (hb b n) q⟩,λb u q n _=>by rw[aM (hx b n)];exact n,λb u q _=>?_,
  λb xs q=>by rw[aM (hm b _ q λz=>z)];exact q,λb u xs q=>by rw[aM (hm b _ q λz=>z)];exact q,λb ps q=>⟨#[],by rw[aM (hm b _ q λz=>z),q];simp⟩⟩
 by_cases hbe:b=e
 ·subst hbe;exact heo
 ·exact⟨u,k b u hbe q⟩
end
def trk(h:Heap)(H:Hp):List Addr:=(Cs h.objs.size).filter λa=>(H a).isSome
def fv(h:Heap)(H:Hp):Heap:=Ga h (trk h H)
theorem Pb(h:Heap)(H:Hp):(fv h H).objs.size=h.objs.size:=PySem.W.hideAll_size _ _
theorem Kc{h:Heap}{H:Hp}{b:Addr}{o:Obj}(e:h.get? b=ae o)(n:H b=af):(fv h H).get? b=ae o:=
 PySem.W.hideAll_get _ e λhm=>by
  have q:(H b).isSome=ah:=(List.mem_filter.mp hm).2;rw[n]at q;simp at q
theorem O9{h:Heap}{H:Hp}{b:Addr}{o:Obj}(e:(fv h H).get? b=ae o):h.get? b=ae o/\H b=af:=by
 have e':h.get? b=ae o:=PySem.W.of_hideAll (trk h H) e;refine⟨e',?_⟩;cases q:H b with
 |none=>rfl
 |some x=>
  have hm:b∈trk h H:=List.mem_filter.mpr ⟨List.mem_range.mpr (Ar e'),by simp[q]⟩;have z:(fv h H).get? b=af:=PySem.W.hideAll_none (trk h H) hm;rw[z]at e;cases e
def Qy(g h:Heap)(L:Addr):List (Addr×Obj):=(Cs h.objs.size).filterMap λa=>if a=L\/(g.get? a).isSome=ah then af else(h.get? a).map λo=>(a,o)
def rest(g h:Heap)(L d:Addr):List (Addr×Obj):=(Qy g h L).filter λp=>decide (p.1≠d)
structure Mod(K:Ag)(mg:Str->Option Af)(base:Heap):Prop where
 kin:K.In base
 glob:base.Ns Ea mg
 blt:∃mb,base.Ns builtinsNs mb/\∀x:Str,x≠"__name__"->mb x=B9 x
 nolimit:base.NoLimit
structure Cx where
 prog:Bj
 w:Bu
 K:Ag
 mg:Str->Option Af
 base:Heap
 A:B3
 N:List Str
 s₀:Ai
 H₀:Hp
 env:Env
 outer:List Env
 stack:List Env
 ex:List Addr
 fn:Str->Bool
 calm:Bool
 pn:List (Addr×Obj)
 xe:Af->Ai->Prop
def cH(l:List Env):List Addr:=l.filterMap (·.frame)
abbrev Cx.fs(X:Cx):List Addr:=cH X.outer
def ic(sc:Fb)(x:Str):Prop:=sc.names.lookup x=ae .local\/sc.names.lookup x=ae .cell\/sc.names.lookup x=ae .free
def jq(sc:Fb)(x:Str):Prop:=sc.names.lookup x=ae .local\/sc.names.lookup x=ae .cell
def uU(env:Env)(h:Heap)(m:Str->Option Af)(x:Str)(u:Af):Prop:=
 (env.kindOf x=ae .local/\m x=ae u)\/((env.kindOf x=ae .cell\/env.kindOf x=ae .free)/\∃c,env.cells.lookup x=ae c/\h.IsCell c (ae u))
structure Cx.Ok(X:Cx):Prop where
 mod:Mod X.K X.mg X.base
 kind:X.env.scope.kind=.function
 glob:X.env.globals=Ea
 blt:X.env.builtins=builtinsNs
 above:X.s₀.heap.objs.size<=X.env.locals
 inj:∀x y c,X.env.cells.lookup x=ae c->X.env.cells.lookup y=ae c->x=y
 has:∀x,(X.env.kindOf x=ae .cell\/X.env.kindOf x=ae .free)->∃c,X.env.cells.lookup x=ae c
 cab:∀x c,X.fn x=ah->X.env.cells.lookup x=ae c->X.s₀.heap.objs.size<=c
 hd:X.calm=ah->X.A.handled=af
 frames:X.A.frames=ae X.stack
 stk:X.stack=X.outer\/(X.stack=X.env::X.outer/\X.env.frame=ae X.env.locals)
 exf:∀b∈X.ex,b≠X.env.locals/\∀x c,X.env.cells.lookup x=ae c->c≠b
 bs:∀b o,X.base.get? b=ae o->X.s₀.heap.get? b=ae o/\X.H₀ b=af
 bsz:X.base.objs.size<=X.s₀.heap.objs.size
 noex:∀b o,X.base.get? b=ae o->b∉X.ex
 exfs:∀b∈X.ex,b∉X.fs
 funs:X.s₀.heap.FunFrames X.base X.outer
 frf:∀b∈X.fs,X.H₀ b=af
structure Inv(X:Cx)(pins:List (Addr×Obj))(σ:List (Option V))(H:Hp)(s:Ai):Prop where
 ok:X.Ok
 os:s.os=X.s₀.os
 bare:AllBare s.gens
 base:Un X.fs X.ex X.H₀ H X.s₀.heap s.heap
 loc:∃m,s.heap.Ns X.env.locals m/\∀(i:Nat)(x:Str)(v:V),X.N[i]?=ae x->σ[i]?=ae (ae v)->ic X.env.scope x->∃u,RelV v u/\uU X.env s.heap m x u
 cell:∀x c,X.env.cells.lookup x=ae c->∃v,s.heap.IsCell c v
 free:H X.env.locals=af
 freeC:∀x c,X.env.cells.lookup x=ae c->H c=af
 pin:∀p∈X.pn++pins,s.heap.get? p.1=ae p.2/\H p.1=af/\p.1≠X.env.locals/\p.1∉X.fs/\∀v,p.2.data≠.cell v
 hok:HOk X.prog X.w H s.heap
 len:σ.length=X.N.length
section
variable{X:Cx}{pins:List (Addr×Obj)}{σ:List (Option V)}{H H':Hp}{s:Ai}{h':Heap}
theorem Cx.Ok.nofr(ok:X.Ok){b:Addr}{o:Obj}(e:X.base.get? b=ae o):b∉X.fs:=λhb=>by
 have:=(ok.funs.mem hb).1;rw[e]at this;cases this
theorem Inv.bs(I:Inv X pins σ H s):∀b o,X.base.get? b=ae o->s.heap.get? b=ae o/\H b=af:=λb o e=>
 ⟨I.base.keep b o (I.ok.bs b o e).1 (I.ok.bs b o e).2 (I.ok.nofr e) (I.ok.noex b o e),I.base.free b o (I.ok.bs b o e).1 (I.ok.bs b o e).2 (I.ok.noex b o e)⟩
theorem Inv.bk(I:Inv X pins σ H s):∀b o,X.base.get? b=ae o->s.heap.get? b=ae o:=λb o e=>(I.bs b o e).1
theorem Inv.mod(I:Inv X pins σ H s):Mod X.K X.mg X.base:=I.ok.mod
theorem Inv.kIn(I:Inv X pins σ H s):X.K.In s.heap:=I.ok.mod.kin.keeps I.bk
theorem Inv.lt(I:Inv X pins σ H s):X.env.locals < s.heap.objs.size:=let⟨_,hn,_⟩:=I.loc;hn.lt
theorem Inv.sz(I:Inv X pins σ H s):X.s₀.heap.objs.size<=s.heap.objs.size:=An I.ok.above (F6 I.lt)
theorem Inv.nofs(I:Inv X pins σ H s){a:Addr}(h:s.heap.objs.size<=a):a∉X.fs:=λhb=>by
 obtain⟨_,o,ho,_⟩:=I.ok.funs.mem hb;exact absurd (Bn (Ar ho) (An I.sz h)) (Fs _)
theorem Inv.cne(I:Inv X pins σ H s):∀x c,X.env.cells.lookup x=ae c->c≠X.env.locals:=λx c e z=>by
 obtain⟨v,o,ho,hd⟩:=I.cell x c e;obtain⟨m,⟨o',es,ep,ho',hd',_⟩,_⟩:=I.loc;rw[z,ho']at ho;cases ho;rw[hd']at hd;cases hd
theorem Inv.funs(I:Inv X pins σ H s):s.heap.FunFrames X.base X.outer:=by
 have all:∀(l:List Env),(∀b∈cH l,b∈X.fs)->X.s₀.heap.FunFrames X.base l->s.heap.FunFrames X.base l:=by
  intro l
  induction l with
  |nil=>intro _ _;trivial
  |cons env r ih=>
   intro hs hl;obtain⟨hk,⟨L,o,hf,hn,ho,hd⟩,hr⟩:=hl;have hL:L∈X.fs:=hs L (by unfold cH;rw[List.filterMap_cons,hf];exact Am);obtain⟨sl,e⟩:=I.base.slot L o ho (I.ok.frf L hL) hL λz=>I.ok.exfs L z hL;exact⟨hk,⟨L,_,hf,hn,e,hd⟩,ih (λb hb=>hs b (by unfold cH;rw[List.filterMap_cons,hf];exact Al _ hb)) hr⟩
 exact all X.outer (λ_ hb=>hb) I.ok.funs
theorem Inv.stack(I:Inv X pins σ H s):s.heap.FunFrames X.base X.stack:=by
 rcases I.ok.stk with e|⟨e,hf⟩
 ·rw[e];exact I.funs
 ·rw[e];obtain⟨m,hn,_⟩:=I.loc;refine .cons (by rw[I.ok.kind];decide) hf hn ?_ I.funs;exact G7 (An I.ok.bsz I.ok.above)
theorem Inv.stkSub(I:Inv X pins σ H s):∀b∈cH X.stack,b∈X.env.locals::X.fs:=λb hb=>by
 rcases I.ok.stk with e|⟨e,hf⟩
 ·rw[e]at hb;exact Al _ hb
 ·rw[e]at hb;unfold cH at hb;rw[List.filterMap_cons,hf]at hb;exact hb
theorem Inv.stkFree(I:Inv X pins σ H s):∀b∈cH X.stack,H b=af:=λb hb=>by
 rcases A5.mp (I.stkSub b hb)with e|hb
 ·rw[e];exact I.free
 ·obtain⟨_,o,ho,_⟩:=I.ok.funs.mem hb;exact I.base.free b o ho (I.ok.frf b hb) λz=>I.ok.exfs b z hb
theorem Inv.step{g':Array GenState}{t':Nat}{d':Drawn}{ch:List Addr}(I:Inv X pins σ H s)
  (hch:∀b∈ch,(b∈X.ex\/X.s₀.heap.objs.size<=b)/\b≠X.env.locals/\(∀x c,X.env.cells.lookup x=ae c->c≠b)/\∀p∈X.pn++pins,p.1≠b)
  (keep:∀b o,b≠X.env.locals->b∉X.fs->b∉ch->s.heap.get? b=ae o->H b=af->h'.get? b=ae o)
  (slot:∀b o,b≠X.env.locals->b∈X.fs->b∉ch->s.heap.get? b=ae o->H b=af->∃sl,h'.get? b=ae {o with slots:=sl}) (free:∀b o,b∉ch->s.heap.get? b=ae o->H b=af->H' b=af)
  (there:∀b o,b∉ch->s.heap.get? b=ae o->∃o',h'.get? b=ae o')
  (tups:∀b xs,H b=ae (.tup xs)->H' b=ae (.tup xs)) (frzs:∀b o u,H b=ae (.frz o u)->H' b=ae (.frz o u)) (tbls:∀b ps,H b=ae (.tbl ps)->∃more,H' b=ae (.tbl (ps++more)))
  (ns:∀m,s.heap.Ns X.env.locals m->h'.Ns X.env.locals m) (hok:HOk X.prog X.w H' h') (hg:AllBare g'):
  Inv X pins σ H' {s with heap:=h',gens:=g',drawn:=d',toks:=t'}:=by
 have neL:∀b o,X.s₀.heap.get? b=ae o->b≠X.env.locals:=λb o e=>Bf (Bn (Ar e) I.ok.above);have neC:∀b o,X.s₀.heap.get? b=ae o->b∉X.ex->b∉ch:=λb o e hx hb=>by
  rcases(hch b hb).1 with z|z
  ·exact hx z
  ·exact absurd (Bn (Ar e) z) (Fs _)
 have cellK:∀x c,X.env.cells.lookup x=ae c->∀v,s.heap.IsCell c v->h'.IsCell c v:=λx c e v ⟨o,ho,hd⟩=>by
  have nch:c∉ch:=λz=>(hch c z).2.2.1 x c e rfl;by_cases hc:c∈X.fs
  ·obtain⟨sl,q⟩:=slot c o (I.cne x c e) hc nch ho (I.freeC x c e);exact⟨_,q,hd⟩
  ·exact⟨o,keep c o (I.cne x c e) hc nch ho (I.freeC x c e),hd⟩
 refine⟨I.ok,I.os,hg,⟨λb o e n hb hx=>?_,λb o e n hb hx=>?_,λb o e n hx=>?_,λb o e hx=>?_,λb xs e=>tups b xs (I.base.tups b xs e),λb o xs e=>frzs b o xs (I.base.frzs b o xs e),λb ps e=>?_⟩,?_,λx c e=>?_,?_,λx c e=>?_,λp hp=>?_,hok,I.len⟩
 ·exact keep b o (neL b o e) hb (neC b o e hx) (I.base.keep b o e n hb hx) (I.base.free b o e n hx)
 ·obtain⟨sl,e1⟩:=I.base.slot b o e n hb hx;obtain⟨sl',e2⟩:=slot b _ (neL b o e) hb (neC b o e hx) e1 (I.base.free b o e n hx);exact⟨sl',e2⟩
 ·obtain⟨o',e1⟩:=I.base.there b o e hx;exact free b o' (neC b o e hx) e1 (I.base.free b o e n hx)
 ·obtain⟨o',e1⟩:=I.base.there b o e hx;exact there b o' (neC b o e hx) e1
 ·obtain⟨m1,e1⟩:=I.base.tbls b ps e;obtain⟨m2,e2⟩:=tbls b _ e1;exact⟨m1++m2,by rw[e2,Array.append_assoc]⟩
 ·obtain⟨m,hn,hl⟩:=I.loc;refine⟨m,ns m hn,λi x v e1 e2 e3=>?_⟩;obtain⟨u,r,l⟩:=hl i x v e1 e2 e3;refine⟨u,r,?_⟩;rcases l with l|⟨k,c,e,z⟩
  ·exact .inl l
  ·exact .inr ⟨k,c,e,cellK x c e _ z⟩
 ·obtain⟨v,z⟩:=I.cell x c e;exact⟨v,cellK x c e v z⟩
 ·obtain⟨m,⟨o,_,_,ho,_⟩,_⟩:=I.loc;exact free _ o (λz=>(hch _ z).2.1 rfl) ho I.free
 ·obtain⟨v,o,ho,hd⟩:=I.cell x c e;exact free c o (λz=>(hch c z).2.2.1 x c e rfl) ho (I.freeC x c e)
 ·obtain⟨e,n,ne,nf,d⟩:=I.pin p hp;have nch:p.1∉ch:=λz=>(hch p.1 z).2.2.2 p hp rfl;exact⟨keep p.1 p.2 ne nf nch e n,free p.1 p.2 nch e n,ne,nf,d⟩
theorem Inv.un{t':Nat}(I:Inv X pins σ H s)(u:Un X.fs [] H H' s.heap h')(hok:HOk X.prog X.w H' h'):Inv X pins σ H' {s with heap:=h',toks:=t'}:=by
 obtain⟨m,⟨o,es,ep,ho,r⟩,_⟩:=id I.loc;obtain⟨sl,hL⟩:=u.any ho I.free (by simp);exact I.step (g':=s.gens) (d':=s.drawn) (ch:=[]) (λ_ z=>nomatch z) (λb o _ hb _ e n=>u.keep b o e n hb (by simp)) (λb o _ hb _ e n=>u.slot b o e n hb (by simp)) (λb o _ e n=>u.free b o e n (by simp)) (λb o _ e=>u.there b o e (by simp)) u.tups u.frzs u.tbls (λm' hm=>by
  obtain⟨o',es',ep',ho',r'⟩:=hm;rw[ho]at ho';cases ho';exact⟨_,es',ep',hL,r'⟩) hok I.bare
theorem Inv.call{g':Array GenState}{t':Nat}{d':Drawn}{ch:List Addr}(I:Inv X pins σ H s)(u:Un (cH X.stack) ch H H' s.heap h')(hok:HOk X.prog X.w H' h')(hg:AllBare g')
  (hch:∀b∈ch,(b∈X.ex\/X.s₀.heap.objs.size<=b)/\b≠X.env.locals/\(∀x c,X.env.cells.lookup x=ae c->c≠b)/\∀p∈X.pn++pins,p.1≠b):
  Inv X pins σ H' {s with heap:=h',gens:=g',drawn:=d',toks:=t'}:=by
 obtain⟨m,⟨o,es,ep,ho,r⟩,_⟩:=id I.loc;obtain⟨sl,hL⟩:=u.any ho I.free λz=>(hch _ z).2.1 rfl;exact I.step (ch:=ch) hch (λb o hL hb hc e n=>u.keep b o e n (λz=>(A5.mp (I.stkSub b z)).elim hL hb) hc) (λb o _ _ hc e n=>u.any e n hc) (λb o hc e n=>u.free b o e n hc) (λb o hc e=>u.there b o e hc) u.tups u.frzs u.tbls (λm' hm=>by
  obtain⟨o',es',ep',ho',r'⟩:=hm;rw[ho]at ho';cases ho';exact⟨_,es',ep',hL,r'⟩) hok hg
theorem Inv.turned{t':Nat}{it:Addr}(I:Inv X pins σ H s)(k:∀b o,b≠it->s.heap.get? b=ae o->h'.get? b=ae o)(hn:H it=af)(hL:it≠X.env.locals)
  (h1:it∈X.ex\/X.s₀.heap.objs.size<=it) (h2:∀x c,X.env.cells.lookup x=ae c->c≠it) (h3:∀p∈X.pn++pins,p.1≠it):Inv X pins σ H {s with heap:=h',toks:=t'}:=by
 have nit:∀b u,H b=ae u->b≠it:=λb u e z=>by rw[z,hn]at e;cases e
 refine I.step (g':=s.gens) (d':=s.drawn) (ch:=[it]) (λb hb=>?_) (λb o _ _ hc e _=>k b o (λz=>hc (by simp[z])) e) (λb o _ _ hc e _=>⟨o.slots,k b o (λz=>hc (by simp[z])) e⟩) (λ_ _ _ _ n=>n)
  (λb o hc e=>⟨o,k b o (λz=>hc (by simp[z])) e⟩) (λ_ _ e=>e) (λ_ _ _ e=>e) (λb ps e=>⟨#[],by rw[e];simp⟩) (λm hm=>?_) (λb u e=>?_) I.bare
 ·have e:b=it:=by simpa using hb
  subst e;exact⟨h1,hL,h2,h3⟩
 ·obtain⟨o,es,ep,ho,r⟩:=hm;exact⟨o,es,ep,k _ o (Ne.symm hL) ho,r⟩
 ·refine(I.hok b u e).stay (λc v hc q=>k c v ?_ q) (λ_ q=>q) λ_ _ q=>q;rcases hc with z|z
  ·rw[z];exact nit b u e
  ·exact nit c _ z
theorem Inv.tok(I:Inv X pins σ H s)(t:Nat):Inv X pins σ H {s with toks:=t}:=I.un (h':=s.heap) (t':=t) Un.refl I.hok
theorem Inv.kept{t':Nat}(I:Inv X pins σ H s)(k:∀b u,s.heap.get? b=ae u->h'.get? b=ae u):Inv X pins σ H {s with heap:=h',toks:=t'}:=I.un (Un.kept k) (I.hok.kept k)
theorem Inv.laid{a:Addr}{o:HO}{t':Nat}(I:Inv X pins σ H s)(k:∀b u,s.heap.get? b=ae u->h'.get? b=ae u)(hp:s.heap.objs.size<=a)(new:ObjOk X.prog X.w (upd H a o) h' a o):
  Inv X pins σ (upd H a o) {s with heap:=h',toks:=t'}:=I.un (Un.laid k hp (I.hok.fresh hp)) (I.hok.laid k hp new)
theorem Inv.write{x e:Addr}{o:HO}{t':Nat}(I:Inv X pins σ H s)(mu:pH (H x))(he:e=x\/H e=ae (.own x))(k:∀b u,b≠e->s.heap.get? b=ae u->h'.get? b=ae u)(heo:∃u,h'.get? e=ae u)
  (new:ObjOk X.prog X.w (upd H x o) h' x o):Inv X pins σ (upd H x o) {s with heap:=h',toks:=t'}:=I.un (Un.write mu he k heo) (I.hok.write mu he k heo new)
theorem Inv.pins_of{pins':List (Addr×Obj)}(I:Inv X pins σ H s)(h:∀p∈pins',s.heap.get? p.1=ae p.2/\H p.1=af/\p.1≠X.env.locals/\p.1∉X.fs/\∀v,p.2.data≠.cell v):Inv X pins' σ H s:=
 ⟨I.ok,I.os,I.bare,I.base,I.loc,I.cell,I.free,I.freeC,λp hp=>(Bi.mp hp).elim (λz=>I.pin p (Cg _ z)) (h p),I.hok,I.len⟩
theorem vd{N:List Str}(hN:N.Nodup){i j:Nat}{x:Str}(a:N[i]?=ae x)(b:N[j]?=ae x):i=j:=by
 obtain⟨h1,e1⟩:=Bs.mp a;obtain⟨h2,e2⟩:=Bs.mp b;exact(List.getElem_inj hN).mp (e1.trans e2.symm)
theorem TV{M:Model}{A:B3}{E:Af->Ai->Prop}{i:Nat}{x:Str}{v:V}{u:Af}{Q:Unit->Ai->Prop}(I:Inv X pins σ H s)(hN:X.N.Nodup)(hi:X.N[i]?=ae x)(hx:jq X.env.scope x)(r:RelV v u)
  (h:∀s',Inv X pins (σ.set i (ae v)) H s'->(∃a,Dz a s.heap s'.heap/\(a=X.env.locals\/X.env.cells.lookup x=ae a))->Q () s') (hf:X.fn x=ah\/X.env.scope.names.lookup x=ae .local:=by first|exact .inl rfl|exact .inr rfl|assumption):Az M A (storeName X.env x u) Q E s:=by
 obtain⟨m,hn,hl⟩:=id I.loc;have hcls:(X.env.scope.kind==.class || (X.env.scope.kind==.module&&X.env.locals != X.env.globals))=ai:=by rw[I.ok.kind];rfl
 have hiσ:i < σ.length:=by rw[I.len];exact(Bs.mp hi).1
 have cne:=I.cne;have tracked:∀{a:Addr}{h':Heap},(∃o,s.heap.get? a=ae o/\H a=af)->Dz a s.heap h'->HOk X.prog X.w H h':=λ{a h'} ha hs b ob e=>by
  obtain⟨_,_,hfree⟩:=ha;refine(I.hok b ob e).stay (λc w' hc q=>(hs.2 c ?_).trans q) (λ_ q=>q) λ_ _ q=>q
  rintro rfl
  rcases hc with rfl|hc
  ·rw[hfree]at e;cases e
  ·rw[hfree]at hc;cases hc
 rcases hx with hk|hk
 ·refine wpAny_storeName_local hk hn (λh' hn' hs=>?_) hcls;obtain⟨oL,_,_,hoL,_⟩:=id hn;refine h _ ⟨I.ok,I.os,I.bare,⟨λb o e n hb hx=>?_,λb o e n hb hx=>?_,I.base.free,λb o e hx=>?_,I.base.tups,I.base.frzs,I.base.tbls⟩,⟨_,hn',λj y v' e1 e2 e3=>?_⟩,λy c e=>?_,I.free,I.freeC,λp hp=>?_,tracked ⟨oL,hoL,I.free⟩ hs,by simpa using I.len⟩ ⟨_,hs,.inl rfl⟩
  ·exact(hs.2 b (Bf (Bn (Ar e) I.ok.above))).trans (I.base.keep b o e n hb hx)
  ·obtain⟨sl,e1⟩:=I.base.slot b o e n hb hx;exact⟨sl,(hs.2 b (Bf (Bn (Ar e) I.ok.above))).trans e1⟩
  ·obtain⟨o',e1⟩:=I.base.there b o e hx;exact⟨o',(hs.2 b (Bf (Bn (Ar e) I.ok.above))).trans e1⟩
  ·by_cases hj:j=i
   ·subst hj;rw[hi]at e1;cases e1;rw[Fg hiσ]at e2;cases e2;exact⟨u,r,.inl ⟨hk,by simp⟩⟩
   ·rw[Ci (Ne.symm hj)]at e2;obtain⟨u',r',q⟩:=hl j y v' e1 e2 e3;refine⟨u',r',?_⟩;rcases q with⟨k,e⟩|⟨k,c,e,z⟩
    ·refine .inl ⟨k,?_⟩;have:y≠x:=λe=>hj (vd hN e1 (e▸hi));simp[this,e]
    ·exact .inr ⟨k,c,e,z.sameBut hs (cne y c e)⟩
  ·obtain⟨w',z⟩:=I.cell y c e;exact⟨w',z.sameBut hs (cne y c e)⟩
  ·obtain⟨e,n,ne,nf,d⟩:=I.pin p hp;exact⟨(hs.2 p.1 ne).trans e,n,ne,nf,d⟩
 ·have hfn:X.fn x=ah:=by
   rcases hf with z|z
   ·exact z
   ·rw[z]at hk;cases hk
  obtain⟨c,hc⟩:=I.ok.has x (.inl hk);obtain⟨w',z⟩:=I.cell x c hc;refine wpAny_storeName_cell I.ok.kind hk hc z (λh' hc' hs=>?_);obtain⟨oc,hoc,hocd⟩:=id z;refine h {s with heap:=h'} ⟨I.ok,I.os,I.bare,⟨λb o e n hb hx=>?_,λb o e n hb hx=>?_,I.base.free,λb o e hx=>?_,I.base.tups,I.base.frzs,I.base.tbls⟩,⟨m,hn.sameBut hs (Ne.symm (cne x c hc)),λj y v' e1 e2 e3=>?_⟩,λy c' e=>?_,I.free,I.freeC,λp hp=>?_,tracked ⟨oc,hoc,I.freeC x c hc⟩ hs,by simpa using I.len⟩ ⟨c,hs,.inr hc⟩
  ·exact(hs.2 b (Bf (Bn (Ar e) (I.ok.cab x c hfn hc)))).trans (I.base.keep b o e n hb hx)
  ·obtain⟨sl,e1⟩:=I.base.slot b o e n hb hx;exact⟨sl,(hs.2 b (Bf (Bn (Ar e) (I.ok.cab x c hfn hc)))).trans e1⟩
  ·obtain⟨o',e1⟩:=I.base.there b o e hx;exact⟨o',(hs.2 b (Bf (Bn (Ar e) (I.ok.cab x c hfn hc)))).trans e1⟩
  ·by_cases hj:j=i
   ·subst hj;rw[hi]at e1;cases e1;rw[Fg hiσ]at e2;cases e2;exact⟨u,r,.inr ⟨.inl hk,c,hc,hc'⟩⟩
   ·rw[Ci (Ne.symm hj)]at e2;obtain⟨u',r',q⟩:=hl j y v' e1 e2 e3;refine⟨u',r',?_⟩;rcases q with q|⟨k,c',e,z'⟩
    ·exact .inl q
    ·refine .inr ⟨k,c',e,z'.sameBut hs ?_⟩
     rintro rfl
     exact hj (vd hN e1 (I.ok.inj _ _ _ e hc▸hi))
  ·by_cases hcc:c'=c
   ·subst hcc;exact⟨_,hc'⟩
   ·obtain⟨w2,z2⟩:=I.cell y c' e;exact⟨w2,z2.sameBut hs hcc⟩
  ·obtain⟨e,n,ne,nf,d⟩:=I.pin p hp;refine⟨(hs.2 p.1 ?_).trans e,n,ne,nf,d⟩;intro q;rw[q,hoc]at e;have q':oc=p.2:=Bp e;exact d w' (by rw[<-q'];exact hocd)
theorem mZ{M:Model}{A:B3}{E:Af->Ai->Prop}{i:Nat}{x:Str}{v:V}{u:Af}{Q:Unit->Ai->Prop}(I:Inv X pins σ H s)(hN:X.N.Nodup)(hi:X.N[i]?=ae x)(hx:jq X.env.scope x)(r:RelV v u)
  (h:∀s',Inv X pins (σ.set i (ae v)) H s'->Q () s') (hf:X.fn x=ah\/X.env.scope.names.lookup x=ae .local:=by first|exact .inl rfl|exact .inr rfl|assumption):Az M A (storeName X.env x u) Q E s:=
 TV I hN hi hx r (λs' I' _=>h s' I') hf
theorem Inv.call'{s':Ai}{ch:List Addr}(I:Inv X pins σ H s)(ho:s'.os=s.os)(u:Un (cH X.stack) ch H H' s.heap s'.heap)(hok:HOk X.prog X.w H' s'.heap)(hg:AllBare s'.gens)
  (hch:∀b∈ch,(b∈X.ex\/X.s₀.heap.objs.size<=b)/\b≠X.env.locals/\(∀x c,X.env.cells.lookup x=ae c->c≠b)/\∀p∈X.pn++pins,p.1≠b):Inv X pins σ H' s':=by
 obtain⟨h',g',d',t',o'⟩:=s';have e:o'=s.os:=ho;subst e;exact I.call (g':=g') (t':=t') (d':=d') u hok hg hch
end
abbrev XK:=Af->Option Addr->Hp->Prop
abbrev St:=List (Option V)
abbrev VK:=V->Hp->Prop
abbrev TE:=St->Hp->VK->Prop
abbrev TT:=St->Hp->(Bool->Hp->Prop)->Prop
abbrev TA:=St->Hp->(List V->Hp->Prop)->Prop
structure Ends where
 nx:St->Hp->Prop
 rt:VK
 bk:St->Hp->Prop:=λ_ _=>False
 ct:St->Hp->Prop:=λ_ _=>False
abbrev TS:=Ends->St->Hp->Prop
def EP(X:Cx)(pins:List (Addr×Obj))(σ:St)(Q:VK)(u:Af)(s':Ai):Prop:=∃v H',Inv X pins σ H' s'/\RelV v u/\Q v H'
def TP(X:Cx)(pins:List (Addr×Obj))(σ:St)(Q:Bool->Hp->Prop)(b:Bool)(s':Ai):Prop:=∃H',Inv X pins σ H' s'/\Q b H'
def AP(X:Cx)(pins:List (Addr×Obj))(σ:St)(Q:List V->Hp->Prop)(us:List Af)(s':Ai):Prop:=∃vs H',Inv X pins σ H' s'/\Vals vs us/\Q vs H'
def SP(X:Cx)(pins:List (Addr×Obj))(D:Ends)(f:Flow)(s':Ai):Prop:=
 match f with
 |.next=>∃σ' H',Inv X pins σ' H' s'/\D.nx σ' H'
 |.brk=>∃σ' H',Inv X pins σ' H' s'/\D.bk σ' H'
 |.cont=>∃σ' H',Inv X pins σ' H' s'/\D.ct σ' H'
 |.ret u=>∃v σ' H',Inv X pins σ' H' s'/\RelV v u/\D.rt v H'
def PE(X:Cx)(e:Expr)(t:TE):Prop:=
 ∀(pins:List (Addr×Obj))(s:Ai)(σ:St)(H:Hp)(Q:VK),Inv X pins σ H s->t σ H Q->Az (Bg X.prog X.w) X.A (eval e X.env) (EP X pins σ Q) X.xe s
def PT(X:Cx)(e:Expr)(t:TT):Prop:=
 ∀(pins:List (Addr×Obj))(s:Ai)(σ:St)(H:Hp)(Q:Bool->Hp->Prop),Inv X pins σ H s->t σ H Q->Az (Bg X.prog X.w) X.A (isTrue e X.env (eval e X.env)) (TP X pins σ Q) X.xe s
def PW(X:Cx)(e:Expr)(t:TT):Prop:=
 ∀(whole:Sem Af)(pins:List (Addr×Obj))(s:Ai)(σ:St)(H:Hp)(Q:Bool->Hp->Prop),Inv X pins σ H s->t σ H Q->Az (Bg X.prog X.w) X.A (isTrue e X.env whole) (TP X pins σ Q) X.xe s
theorem PW.pt{X:Cx}{e:Expr}{t:TT}(h:PW X e t):PT X e t:=h _
def PA(X:Cx)(es:List Expr)(t:TA):Prop:=
 ∀(pos:Pos)(pins:List (Addr×Obj))(s:Ai)(σ:St)(H:Hp)(Q:List V->Hp->Prop),Inv X pins σ H s->t σ H Q->Az (Bg X.prog X.w) X.A (spliced (C5 pos (Au es X.env))) (AP X pins σ Q) X.xe s
def PS(X:Cx)(st:Stmt)(t:TS):Prop:=
 ∀(pins:List (Addr×Obj))(s:Ai)(σ:St)(H:Hp)(D:Ends),Inv X pins σ H s->t D σ H->Az (Bg X.prog X.w) X.A (exec st X.env) (SP X pins D) X.xe s
def PSs(X:Cx)(st:List Stmt)(t:TS):Prop:=
 ∀(pins:List (Addr×Obj))(s:Ai)(σ:St)(H:Hp)(D:Ends),Inv X pins σ H s->t D σ H->Az (Bg X.prog X.w) X.A (execs st X.env) (SP X pins D) X.xe s
theorem bj{α:Type}{t:Sem α}{Q Q':α->Ai->Prop}{M:Model}{A:B3}{E:Af->Ai->Prop}{s:Ai}(h:Az M A t Q E s)(hQ:∀a s,Q a s->Q' a s):Az M A t Q' E s:=Cq h hQ λ_ _ x=>x
section
variable{X:Cx}
theorem UD{a b:Expr}{ta tb:TE}(ha:PE X a ta)(hb:PE X b tb){pins:List (Addr×Obj)}{s:Ai}{σ:St}{H:Hp}{R:V->V->Hp->Prop}(I:Inv X pins σ H s)(h:ta σ H λx H1=>tb σ H1 λy H2=>R x y H2)
  {α:Type} {Q:α->Ai->Prop} {f:Af->Af->Sem α}
  (hf:∀v u s2 x y H2,Inv X pins σ H2 s2->RelV x v->RelV y u->R x y H2->Az (Bg X.prog X.w) X.A (f v u) Q X.xe s2):
  Az (Bg X.prog X.w) X.A (eval a X.env) (λv s₁=>Az (Bg X.prog X.w) X.A (eval b X.env) (λu s₂=>Az (Bg X.prog X.w) X.A (f v u) Q X.xe s₂) X.xe s₁) X.xe s:=by
 refine bj (ha pins s σ H _ I h) λv s1 ⟨x,H1,I1,r1,q1⟩=>?_;refine bj (hb pins s1 σ H1 _ I1 q1) λu s2 ⟨y,H2,I2,r2,q2⟩=>?_;exact hf v u s2 x y H2 I2 r1 r2 q2
def cn(i:Nat):TE:=λσ H Q=>∃v,σ[i]?=ae (ae v)/\Q v H
def tC(v:V):TE:=λ_ H Q=>Q v H
theorem ik{i:Nat}{x:Str}{pos:Pos}(hN:X.N[i]?=ae x)(hv:ic X.env.scope x)(hd:(x==("__debug__":Str))=ai:=by decide)(hcd:(x==("__classdict__":Str))=ai:=by decide):PE X (.Name x pos) (cn i):=by
 intro pins s σ H Q I h;obtain⟨v,e,h⟩:=h;obtain⟨m,hn,hl⟩:=I.loc;obtain⟨u,r,l⟩:=hl i x v hN e hv;have fin:EP X pins σ Q u s:=⟨v,H,I,r,h⟩;rcases l with⟨hk,hm⟩|⟨hk,c,hc,hcell⟩
 ·exact wpAny_Name (wpAny_loadName_local I.ok.kind hk hn hm fin) hd
 ·rcases hk with hk|hk
  ·exact wpAny_Name (wpAny_loadName_cell I.ok.kind hk hc hcell fin) hd
  ·exact wpAny_Name (wpAny_loadName_free I.ok.kind hk hc hcell fin hcd) hd
theorem cP{i j pos}:PE X (.Constant (.int i) j pos) (tC (.int i)):=λ_ _ _ H _ I h=>wpAny_Constant_int ⟨.int i,H,I.tok _,⟨_,rfl⟩,h⟩
theorem LU{b j pos}:PE X (.Constant (.bool b) j pos) (tC (.bl b)):=λ_ _ _ H _ I h=>Constant_bool ⟨.bl b,H,I,rfl,h⟩
theorem Ks{j pos}:PE X (.Constant .none j pos) (tC .non):=λ_ _ _ H _ I h=>Constant_none ⟨.non,H,I,rfl,h⟩
theorem px{x j pos}:PE X (.Constant (.str x) j pos) (tC (.str x)):=λ_ _ _ H _ I h=>Calls.Constant_str ⟨.str x,H,I.tok _,⟨_,rfl⟩,h⟩
def Gl(X:Cx)(x:Str):Prop:=X.env.kindOf x=ae .globalImplicit
theorem ma{E:Af->Ai->Prop}{pins:List (Addr×Obj)}{s:Ai}{σ:St}{H:Hp}{x:Str}{u:Af}{pos:Pos}{Q:Af->Ai->Prop}(I:Inv X pins σ H s)(hg:Gl X x)(hm:X.mg x=ae u)(h:Q u s)
  (hd:(x==("__debug__":Str))=ai:=by decide):Az (Bg X.prog X.w) X.A (eval (.Name x pos) X.env) Q E s:=
 Calls.Name_function_global I.ok.kind hg (Calls.loadGlobal_global (by rw[I.ok.glob];exact I.mod.glob.keeps I.bk) hm h) hd
theorem lM{E:Af->Ai->Prop}{pins:List (Addr×Obj)}{s:Ai}{σ:St}{H:Hp}{x:Str}{u:Af}{pos:Pos}{Q:Af->Ai->Prop}(I:Inv X pins σ H s)(hg:Gl X x)(hm:X.mg x=af)(hv:B9 x=ae u)(h:Q u s)
  (hn:x≠"__name__":=by decide) (hd:(x==("__debug__":Str))=ai:=by decide):Az (Bg X.prog X.w) X.A (eval (.Name x pos) X.env) Q E s:=by
 obtain⟨mb,h1,h2⟩:=I.mod.blt;exact Calls.Name_function_global I.ok.kind hg (Calls.loadGlobal_builtin (by rw[I.ok.glob];exact I.mod.glob.keeps I.bk) hm (by rw[I.ok.blt];exact h1.keeps I.bk) ((h2 x hn).trans hv) h) hd
theorem lI{x:Str}{v:V}{u:Af}{pos:Pos}(hg:Gl X x)(hm:X.mg x=ae u)(r:RelV v u)(hd:(x==("__debug__":Str))=ai:=by decide):PE X (.Name x pos) (tC v):=
 λ_ _ _ H _ I h=>ma I hg hm ⟨v,H,I,r,h⟩ hd
theorem La{x:Str}{v:V}{u:Af}{pos:Pos}(hg:Gl X x)(hm:X.mg x=af)(hv:B9 x=ae u)(r:RelV v u)(hn:x≠"__name__":=by decide)(hd:(x==("__debug__":Str))=ai:=by decide):PE X (.Name x pos) (tC v):=
 λ_ _ _ H _ I h=>lM I hg hm hv ⟨v,H,I,r,h⟩ hn hd
variable{a b:Expr}{ta tb:TE}{pos:Pos}
def PC(X:Cx)(op:CmpOp)(a b:Expr)(t:TE):Prop:=
 ∀(pins:List (Addr×Obj))(s:Ai)(σ:St)(H:Hp)(Q:VK),Inv X pins σ H s->t σ H Q->
  Az (Bg X.prog X.w) X.A (eval a X.env) (λv s₁=>Az (Bg X.prog X.w) X.A (eval b X.env) (λu s₂=>Az (Bg X.prog X.w) X.A (B8 op v u) (EP X pins σ Q) X.xe s₂) X.xe s₁) X.xe s
theorem QS(b:Expr){op:CmpOp}(h:op≠.In)(h2:op≠.NotIn):D6 op b=ai:=by
 have e1:(op==CmpOp.In)=ai:=by cases op<;>first|rfl|exact absurd rfl h
 have e2:(op==CmpOp.NotIn)=ai:=by cases op<;>first|rfl|exact absurd rfl h2
 cases b<;>simp[D6,e1,e2]
def tB(t:TE):TT:=λσ H Q=>t σ H λx H1=>∃c,x=.bl c/\Q c H1
theorem UE{op:CmpOp}{t:TE}(h:PC X op a b t)(h1:D6 op b=ai:=by first|exact QS _ ∎ ∎|rfl):PT X (.Compare a [op] [b] pos) (tB t):=by
 intro pins s σ H Q I hw;refine wpAny_isTrue_Compare1 (bj (h pins s σ H _ I hw) λv s1 h1=>bj h1 λu s2 h2=>bj h2 λc s3 ⟨x,H1,I1,r1,q1⟩=>?_) h1;obtain⟨d,rfl,q⟩:=q1;cases r1;exact Ec ⟨H1,I1,q⟩
theorem DW{e:Expr}{t:TE}(h:PE X e t)(he:∀whole,isTrue e X.env whole=(do let v <-whole;standAt e.pos;holding [v] (truthy v)):=by intro _;rfl):PT X e (tB t):=by
 intro pins s σ H Q I hw;refine isTrue_plain (bj (h pins s σ H _ I hw) λv s1 ⟨x,H1,I1,r1,q1⟩=>?_) (he _);obtain⟨d,rfl,q⟩:=q1;cases r1;exact Ec ⟨H1,I1,q⟩
variable{tA tB':TT}{rest:List Expr}
def nE(t u:TT):TT:=λσ H Q=>t σ H λc H1=>if c=ah then u σ H1 Q else Q ai H1
def AD(t u:TT):TT:=λσ H Q=>t σ H λc H1=>if c=ah then Q ah H1 else u σ H1 Q
def lF(t:TT):TT:=λσ H Q=>t σ H λc H1=>Q (!c) H1
theorem CV(ha:PT X a tA):PW X (.BoolOp .And [a] pos) tA:=by
 intro wh pins s σ H Q I h;refine isTrue_and (bj (ha pins s σ H Q I h) λc s1 e=>?_);cases c with
 |true=>exact isTrue_and_nil e
 |false=>exact e
theorem Tv(ha:PT X a tA):PW X (.BoolOp .Or [a] pos) tA:=by
 intro wh pins s σ H Q I h;refine isTrue_or (bj (ha pins s σ H Q I h) λc s1 e=>?_);cases c with
 |false=>exact isTrue_or_nil e
 |true=>exact e
theorem CT(ha:PT X a tA)(hb:PW X (.BoolOp .And (b::rest) pos) tB'):PW X (.BoolOp .And (a::b::rest) pos) (nE tA tB'):=by
 intro wh pins s σ H Q I h;refine isTrue_and (bj (ha pins s σ H _ I h) λc s1 ⟨H1,I1,q1⟩=>?_);cases c with
 |true=>exact hb wh pins s1 σ H1 Q I1 q1
 |false=>exact⟨H1,I1,q1⟩
theorem SX(ha:PT X a tA)(hb:PW X (.BoolOp .Or (b::rest) pos) tB'):PW X (.BoolOp .Or (a::b::rest) pos) (AD tA tB'):=by
 intro wh pins s σ H Q I h;refine isTrue_or (bj (ha pins s σ H _ I h) λc s1 ⟨H1,I1,q1⟩=>?_);cases c with
 |true=>exact⟨H1,I1,q1⟩
 |false=>exact hb wh pins s1 σ H1 Q I1 q1
theorem DO(ha:PT X a tA):PT X (.UnaryOp .Not a pos) (lF tA):=by
 intro pins s σ H Q I h;exact isTrue_not (ha pins s σ H (λc H1=>Q (!c) H1) I h)
def FA(ta tb:TE):TE:=λσ H Q=>ta σ H λx H1=>∃c,x=.bl c/\if c=ah then tb σ H1 Q else Q (.bl ai) H1
def mH(ta tb:TE):TE:=λσ H Q=>ta σ H λx H1=>∃c,x=.bl c/\if c=ah then Q (.bl ah) H1 else tb σ H1 Q
def EI(ta:TE):TE:=λσ H Q=>ta σ H λx H1=>∃c,x=.bl c/\Q (.bl (!c)) H1
theorem J7{op}{t:TE}(h:PE X a t):PE X (.BoolOp op [a] pos) t:=λpins s σ H Q I hw=>BoolOp_one (h pins s σ H Q I hw)
theorem II(ha:PE X a ta)(hb:PE X (.BoolOp .And (b::rest) pos) tb):PE X (.BoolOp .And (a::b::rest) pos) (FA ta tb):=by
 intro pins s σ H Q I h;refine BoolOp_and (bj (ha pins s σ H _ I h) λv s1 ⟨x,H1,I1,r1,q1⟩=>?_);obtain⟨c,rfl,q1⟩:=q1;cases r1;refine Ec ?_;cases c with
 |true=>exact hb pins s1 σ H1 Q I1 q1
 |false=>exact⟨.bl ai,H1,I1,rfl,q1⟩
theorem HU(ha:PE X a ta)(hb:PE X (.BoolOp .Or (b::rest) pos) tb):PE X (.BoolOp .Or (a::b::rest) pos) (mH ta tb):=by
 intro pins s σ H Q I h;refine BoolOp_or (bj (ha pins s σ H _ I h) λv s1 ⟨x,H1,I1,r1,q1⟩=>?_);obtain⟨c,rfl,q1⟩:=q1;cases r1;refine Ec ?_;cases c with
 |false=>exact hb pins s1 σ H1 Q I1 q1
 |true=>exact⟨.bl ah,H1,I1,rfl,q1⟩
theorem RT(ha:PE X a ta):PE X (.UnaryOp .Not a pos) (EI ta):=by
 intro pins s σ H Q I h;refine UnaryOp_ (bj (ha pins s σ H _ I h) λv s1 ⟨x,H1,I1,r1,q1⟩=>?_);obtain⟨c,rfl,q1⟩:=q1;cases r1;exact not_of (Ec ⟨.bl (!c),H1,I1,rfl,q1⟩)
def EZ(t:TT)(ta tb:TE):TE:=λσ H Q=>t σ H λc H1=>if c=ah then ta σ H1 Q else tb σ H1 Q
theorem Q7{c:Expr}(hc:PT X c tA)(ha:PE X a ta)(hb:PE X b tb):PE X (.IfExp c a b pos) (EZ tA ta tb):=by
 intro pins s σ H Q I h;refine wpAny_IfExp (bj (hc pins s σ H _ I h) λd s1 ⟨H1,I1,q1⟩=>?_);cases d with
 |true=>exact ha pins s1 σ H1 Q I1 q1
 |false=>exact hb pins s1 σ H1 Q I1 q1
end
def SqL(K:Ag)(H:Hp)(a:Addr)(xs:List V):Prop:=
 Rd H a (.lst xs) \/
  ∃(o:Obj)(its:Array Af)(n:Nat),K.lookup a=ae o/\o.cls=.type "list"/\o.dict=af/\o.data=.seq its n/\its.size<=Ao/\Vals xs its.toList
def SqT(K:Ag)(H:Hp)(a:Addr)(xs:List V):Prop:=
 Rd H a (.tup xs) \/
  ∃(o:Obj)(its:Array Af)(n:Nat),K.lookup a=ae o/\o.cls=.type "tuple"/\o.data=.seq its n/\its.size<=Ao/\Vals xs its.toList
def wj:Af->Option V
 |.none=>ae .non
 |.bool b=>ae (.bl b)
 |.int i _=>ae (.int i)
 |.str x _=>ae (.str x)
 |.bytes b _=>ae (.byt b)
 |.float b _=>ae (.flt b)
 |.ref a=>ae (.ref a)
 |.type n=>ae (.ty n)
 |_=>af
theorem RelV.abs{x:V}{u:Af}(r:RelV x u):wj u=ae x:=by
 cases x with
 |non=>cases r;rfl
 |bl _=>cases r;rfl
 |int _=>obtain⟨t,rfl⟩:=r;rfl
 |str _=>obtain⟨t,rfl⟩:=r;rfl
 |byt _=>obtain⟨t,rfl⟩:=r;rfl
 |flt _=>obtain⟨t,rfl⟩:=r;rfl
 |ref _=>cases r;rfl
 |ty _=>cases r;rfl
theorem RelV.inj{x y:V}{u:Af}(r:RelV x u)(q:RelV y u):x=y:=Bp (r.abs.symm.trans q.abs)
theorem Vals.inj:∀{xs ys:List V}{us:List Af},Vals xs us->Vals ys us->xs=ys
 |_,_,_,.nil,.nil=>rfl
 |_,_,_,.cons r t,.cons r' t'=>by rw[r.inj r',Vals.inj t t']
section
variable{X:Cx}{pins:List (Addr×Obj)}{σ:St}{H:Hp}{s:Ai}{a:Addr}{xs ys:List V}
theorem SqL.of{K:Ag}(h:H a=ae (.lst xs)):SqL K H a xs:=.inl (.inl h)
theorem SqT.of{K:Ag}(h:H a=ae (.tup xs)):SqT K H a xs:=.inl (.inl h)
theorem Inv.list(I:Inv X pins σ H s)(h:SqL X.K H a xs):∃its:List Af,Vals xs its/\PlainL s.heap a its.toArray/\xs.length<=Ao:=by
 rcases h with h|⟨o,its,n,hk,hc,hd,hs,hz,r⟩
 ·obtain⟨z,its,n,r,e⟩:=h.ok I.hok;exact⟨its,r,⟨_,n,e,rfl,rfl,rfl⟩,z⟩
 ·refine⟨its.toList,r,⟨o,n,I.kIn a o hk,hc,hd,by simpa using hs⟩,?_⟩;have e:=r.length;simp only[C2]at e;omega
theorem Inv.tuple(I:Inv X pins σ H s)(h:SqT X.K H a xs):∃its:List Af,Vals xs its/\IsTup s.heap a its.toArray/\xs.length<=Ao:=by
 rcases h with h|⟨o,its,n,hk,hc,hs,hz,r⟩
 ·obtain⟨z,its,r,p⟩:=h.ok I.hok;exact⟨its,r,p.tup,z⟩
 ·refine⟨its.toList,r,⟨o,I.kIn a o hk,hc,n,by simpa using hs⟩,?_⟩;have e:=r.length;simp only[C2]at e;omega
theorem Inv.list_inj(I:Inv X pins σ H s)(h:SqL X.K H a xs)(h':SqL X.K H a ys):xs=ys:=by
 obtain⟨its,r,⟨o,n,e,_,_,d⟩,_⟩:=I.list h;obtain⟨its',r',⟨o',n',e',_,_,d'⟩,_⟩:=I.list h';rw[e]at e';cases e';rw[d]at d';injection d' with d1 _;have:its=its':=by simpa using congrArg Array.toList d1
 subst this;exact r.inj r'
theorem Inv.tuple_inj(I:Inv X pins σ H s)(h:SqT X.K H a xs)(h':SqT X.K H a ys):xs=ys:=by
 obtain⟨its,r,⟨o,e,_,n,d⟩,_⟩:=I.tuple h;obtain⟨its',r',⟨o',e',_,n',d'⟩,_⟩:=I.tuple h';rw[e]at e';cases e';rw[d]at d';injection d' with d1 _;have:its=its':=by simpa using congrArg Array.toList d1
 subst this;exact r.inj r'
end
abbrev Cx.wish(X:Cx)(E:Af->Ai->Prop):Cx:={ X with xe:=E}
abbrev Cx.nox(X:Cx):Cx:=X.wish λ_ _=>False
theorem Cx.Ok.wish{X:Cx}(ok:X.Ok)(E:Af->Ai->Prop):(X.wish E).Ok:=
 ⟨ok.mod,ok.kind,ok.glob,ok.blt,ok.above,ok.inj,ok.has,ok.cab,ok.hd,ok.frames,ok.stk,ok.exf,ok.bs,ok.bsz,ok.noex,ok.exfs,ok.funs,ok.frf⟩
theorem Cx.Ok.unwish{X:Cx}{E:Af->Ai->Prop}(ok:(X.wish E).Ok):X.Ok:=
 ⟨ok.mod,ok.kind,ok.glob,ok.blt,ok.above,ok.inj,ok.has,ok.cab,ok.hd,ok.frames,ok.stk,ok.exf,ok.bs,ok.bsz,ok.noex,ok.exfs,ok.funs,ok.frf⟩
section
variable{X:Cx}{pins:List (Addr×Obj)}{σ:St}{H:Hp}{s:Ai}{E:Af->Ai->Prop}
theorem Inv.wish(I:Inv X pins σ H s)(E:Af->Ai->Prop):Inv (X.wish E) pins σ H s:=⟨I.ok.wish E,I.os,I.bare,I.base,I.loc,I.cell,I.free,I.freeC,I.pin,I.hok,I.len⟩
theorem Inv.unwish(I:Inv (X.wish E) pins σ H s):Inv X pins σ H s:=⟨I.ok.unwish,I.os,I.bare,I.base,I.loc,I.cell,I.free,I.freeC,I.pin,I.hok,I.len⟩
theorem SP.unwish{D:Ends}{f:Flow}{s':Ai}(h:SP (X.wish E) pins D f s'):SP X pins D f s':=by
 cases f with
 |next=>obtain⟨σ',H',I,q⟩:=h;exact⟨σ',H',I.unwish,q⟩
 |brk=>obtain⟨σ',H',I,q⟩:=h;exact⟨σ',H',I.unwish,q⟩
 |cont=>obtain⟨σ',H',I,q⟩:=h;exact⟨σ',H',I.unwish,q⟩
 |ret u=>obtain⟨v,σ',H',I,r,q⟩:=h;exact⟨v,σ',H',I.unwish,r,q⟩
theorem PSs.nox{st:List Stmt}{t:TS}(h:PSs X.nox st t):PSs X st t:=λpins s σ H D I hw=>
 Cq (h pins s σ H D (I.wish _) hw) (λ_ _ q=>q.unwish) λ_ _ z=>False.elim z
end
section
variable{X:Cx}{st:Stmt}{rest:List Stmt}{t u:TS}{e:Expr}{te:TE}{pos:Pos}
def wz:TS:=λD σ H=>D.nx σ H
def fV(t u:TS):TS:=λD σ H=>t {D with nx:=u D} σ H
theorem og:PSs X [] wz:=λ_ _ σ H _ I h=>wpAny_execs_nil ⟨σ,H,I,h⟩
theorem fi(h1:PS X st t)(h2:PSs X rest u):PSs X (st::rest) (fV t u):=by
 intro pins s σ H D I h;refine wpAny_execs_cons (bj (h1 pins s σ H {D with nx:=u D} I h) λf s1 q=>?_);cases f with
 |next=>
  obtain⟨σ',H',I',q⟩:=q;exact h2 pins s1 σ' H' D I' q
 |ret v=>exact q
 |brk=>exact q
 |cont=>exact q
theorem fm(h1:PS X st t):PSs X [st] t:=by
 intro pins s σ H D I h;refine wpAny_execs_cons (bj (h1 pins s σ H D I h) λf s1 q=>?_);cases f with
 |next=>exact wpAny_execs_nil q
 |ret v=>exact q
 |brk=>exact q
 |cont=>exact q
theorem Inv.quiet{pins:List (Addr×Obj)}{σ:St}{H:Hp}{s:Ai}(I:Inv X pins σ H s):interactive X.env=ai:=by simp[interactive,I.ok.kind]
def mj(te:TE):TS:=λD σ H=>te σ H λ_ H1=>D.nx σ H1
theorem jX(he:PE X e te)(hs:Fi e af pos.line X.env=pure ai:=by rfl):PS X (.Expr e pos) (mj te):=by
 intro pins s σ H D I h;exact wpAny_Expr_any (bj (he pins s σ H _ I h) λv s1 ⟨x,H1,I1,r1,q1⟩=>⟨σ,H1,I1,q1⟩) I.quiet hs
def m7(te:TE):TS:=λD σ H=>te σ H D.rt
theorem oN(he:PE X e te):PS X (.Return (ae e) pos) (m7 te):=by
 intro pins s σ H D I h;exact wpAny_Return_some (bj (he pins s σ H _ I h) λv s1 ⟨x,H1,I1,r1,q1⟩=>⟨x,σ,H1,I1,r1,q1⟩)
def jN(c:TT)(t u:TS):TS:=λD σ H=>c σ H λb H1=>if b=ah then t D σ H1 else u D σ H1
theorem jk{c:Expr}{a b:List Stmt}{tc:TT}(hc:PT X c tc)(ha:PSs X a t)(hb:PSs X b u):PS X (.If c a b pos) (jN tc t u):=by
 intro pins s σ H D I h;refine wpAny_If (bj (hc pins s σ H _ I h) λd s1 ⟨H1,I1,q1⟩=>?_);cases d with
 |true=>exact ha pins s1 σ H1 D I1 q1
 |false=>exact hb pins s1 σ H1 D I1 q1
end
abbrev TG:=V->St->Hp->(St->Hp->Prop)->Prop
abbrev il:=List V->St->Hp->(St->Hp->Prop)->Prop
def PG(X:Cx)(target:Expr)(t:TG):Prop:=
 ∀(pins:List (Addr×Obj))(s:Ai)(σ:St)(H:Hp)(v:V)(u:Af)(Q:St->Hp->Prop),Inv X pins σ H s->RelV v u->t v σ H Q->
  Az (Bg X.prog X.w) X.A (assign target X.env u) (λ_ s'=>∃σ' H',Inv X pins σ' H' s'/\Q σ' H') X.xe s
def mP(X:Cx)(ts:List Expr)(t:il):Prop:=
 ∀(pins:List (Addr×Obj))(s:Ai)(σ:St)(H:Hp)(vs:List V)(us:List Af)(Q:St->Hp->Prop),Inv X pins σ H s->Vals vs us->t vs σ H Q->
  Az (Bg X.prog X.w) X.A (assignInOrder ((E8 ts X.env).map (·.2)) us) (λ_ s'=>∃σ' H',Inv X pins σ' H' s'/\Q σ' H') X.xe s
abbrev lN:=V->V->V->Hp->(Hp->Prop)->Prop
def mG(X:Cx)(t:lN):Prop:=
 ∀(pins:List (Addr×Obj))(s:Ai)(σ:St)(H:Hp)(o i v:V)(ov iv u:Af)(Q:Hp->Prop),Inv X pins σ H s->RelV o ov->RelV i iv->RelV v u->t o i v H Q->
  Az (Bg X.prog X.w) X.A (setItem ov iv u) (λ_ s'=>∃H',Inv X pins σ H' s'/\Q H') X.xe s
abbrev pF:=V->V->Hp->VK->Prop
def AA(X:Cx)(op:Operator)(t:pF):Prop:=
 ∀(pins:List (Addr×Obj))(s:Ai)(σ:St)(H:Hp)(x y:V)(v u:Af)(Q:VK),Inv X pins σ H s->RelV x v->RelV y u->t x y H Q->
  Az (Bg X.prog X.w) X.A (inplaceOp op v u) (EP X pins σ Q) X.xe s
section
variable{X:Cx}{pos:Pos}
def gp(i:Nat):TG:=λv σ H Q=>Q (σ.set i (ae v)) H
theorem TC{i:Nat}{x:Str}(hN:X.N.Nodup)(hi:X.N[i]?=ae x)(hx:jq X.env.scope x)(hf:X.fn x=ah\/X.env.scope.names.lookup x=ae .local:=by first|exact .inl rfl|exact .inr rfl|assumption):PG X (.Name x pos) (gp i):=by
 intro pins s σ H v u Q I r h;exact wpAny_assign_Name (mZ I hN hi hx r (λs' I'=>⟨_,H,I',h⟩) hf)
def jI:il:=λvs σ H Q=>vs=[]/\Q σ H
def me(t:TG)(u:il):il:=λvs σ H Q=>∃v r,vs=v::r/\t v σ H λσ' H'=>u r σ' H' Q
theorem RZ:mP X [] jI:=by
 intro pins s σ H vs us Q I r h;obtain⟨e,h⟩:=h;subst e;cases r;exact assignInOrder_nil ⟨σ,H,I,h⟩
theorem RP{e:Expr}{es:List Expr}{t:TG}{u:il}(h1:PG X e t)(h2:mP X es u)
  (hs:(E8 (e::es) X.env).map (·.2)=assign e X.env::(E8 es X.env).map (·.2):=by rfl):mP X (e::es) (me t u):=by
 intro pins s σ H vs us Q I r h;obtain⟨v,vr,e1,h⟩:=h;subst e1;cases r with
 |cons r rr=>
  rw[hs];refine assignInOrder_cons (bj (h1 pins s σ H _ _ _ I r h) λ_ s1 ⟨σ1,H1,I1,q1⟩=>?_);exact h2 pins s1 σ1 H1 _ _ Q I1 rr q1
def iJ(K:Ag)(n:Nat)(t:il):TG:=λv σ H Q=>∃a xs,v=.ref a/\SqT K H a xs/\xs.length=n/\t xs σ H Q
theorem Lj{es:List Expr}{k:Nat}{t:il}{n:Nat}(hc:X.calm=ah)(h:mP X es t)
  (hn:(E8 es X.env).length=n:=by rfl) (hst:(E8 es X.env).findIdx? (·.1)=af:=by rfl):PG X (.Tuple es k pos) (iJ X.K n t):=by
 intro pins s σ H v u Q I r hw;obtain⟨a,xs,e1,hq,hl,hw⟩:=hw;subst e1;cases r;obtain⟨its,rv,ht,hz⟩:=I.tuple hq;refine assign_Tuple_tuple (I.ok.hd hc) ht (by simp[hn,<-hl,rv.length]) hst λh' hx=>?_;have I1:Inv X pins σ H {s with heap:=h'}:=I.kept (t':=s.toks) λb o e=>hx b o (Bf (Ar e)) e;exact h pins _ σ H xs _ Q I1 (by simpa using rv) hw
def uP(to ti:TE)(t:lN):TG:=λv σ H Q=>to σ H λo H1=>ti σ H1 λi H2=>t o i v H2 λH3=>Q σ H3
theorem vy{o i:Expr}{to ti:TE}{t:lN}(ho:PE X o to)(hi:PE X i ti)(hs:mG X t)
  (ha:∀v,assign (.Subscript o i pos) X.env v=(do
   let ov <-holding [v] (eval o X.env)
   let iv <-holding [v,ov] (eval i X.env)
   standAt pos
   holding [v,ov,iv] (setItem ov iv v)
   release [v,ov,iv] []):=by intro _;rfl):PG X (.Subscript o i pos) (uP to ti t):=by
 intro pins s σ H v u Q I r h;rw[ha];refine Ad (Dd (bj (ho pins s σ H _ I h) λov s1 ⟨x,H1,I1,r1,q1⟩=>?_));refine Ad (Dd (bj (hi pins s1 σ H1 _ I1 q1) λiv s2 ⟨y,H2,I2,r2,q2⟩=>?_));refine Ad (Hb (Ad (Dd (bj (hs pins s2 σ H2 x y v ov iv u _ I2 r1 r2 r q2) λ_ s3 ⟨H3,I3,q3⟩=>?_))));exact wpAny_release ⟨σ,H3,I3,q3⟩
def eM(te:TE)(g:TG):TS:=λD σ H=>te σ H λx H1=>g x σ H1 D.nx
theorem wF{tg e:Expr}{te:TE}{g:TG}(he:PE X e te)(hg:PG X tg g)(hs:swapsWithSole [tg] e pos.line X.env=pure ai:=by rfl)(hw:swappedStores [tg] e X.env=pure af:=by rfl)
  (h1:(E8 [tg] X.env).map (·.2)=[assign tg X.env]:=by rfl):PS X (.Assign [tg] e pos) (eM te g):=by
 intro pins s σ H D I h;refine wpAny_Assign_stores (bj (he pins s σ H _ I h) λv s1 ⟨x,H1,I1,r1,q1⟩=>?_) hs hw;rw[h1];exact bj (hg pins s1 σ H1 x v _ I1 r1 q1) λ_ s2 q=>q
theorem hG{i:Nat}{x:Str}{e:Expr}{te:TE}{pos':Pos}(hN:X.N.Nodup)(hi:X.N[i]?=ae x)(hx:jq X.env.scope x)(he:PE X e te)(hs:Fi e (ae (.Name x pos')) pos.line X.env=pure ai:=by rfl)(hf:X.fn x=ah\/X.env.scope.names.lookup x=ae .local:=by first|exact .inl rfl|exact .inr rfl|assumption):
  PS X (.Assign [.Name x pos'] e pos) (eM te (gp i)):=by
 intro pins s σ H D I h;refine wpAny_Assign_Name (bj (he pins s σ H _ I h) λv s1 ⟨y,H1,I1,r1,q1⟩=>?_) hs;exact mZ I1 hN hi hx r1 (λs2 I2=>⟨_,H1,I2,q1⟩) hf
def oG(i:Nat)(te:TE)(ti:pF):TS:=λD σ H=>∃x,σ[i]?=ae (ae x)/\te σ H λy H1=>ti x y H1 λz H2=>D.nx (σ.set i (ae z)) H2
theorem Mk{i:Nat}{x:Str}{e:Expr}{te:TE}{op:Operator}{ti:pF}{pos':Pos}(hN:X.N.Nodup)(hi:X.N[i]?=ae x)(hx:jq X.env.scope x)(he:PE X e te)(ho:AA X op ti)(hf:X.fn x=ah\/X.env.scope.names.lookup x=ae .local:=by first|exact .inl rfl|exact .inr rfl|assumption):
  PS X (.AugAssign (.Name x pos') op e pos) (oG i te ti):=by
 intro pins s σ H D I h;obtain⟨v,e1,h⟩:=h;obtain⟨m,hn,hl⟩:=I.loc;have vis:ic X.env.scope x:=by rcases hx with k|k;exact .inl k;exact .inr (.inl k)
 obtain⟨u,r,l⟩:=hl i x v hi e1 vis;refine wpAny_AugAssign_Name ?_;have go:Az (Bg X.prog X.w) X.A (eval e X.env) (λw s₂=>Az (Bg X.prog X.w) X.A (inplaceOp op u w) (λr s₃=>Az (Bg X.prog X.w) X.A (storeName X.env x r) (λ_=>SP X pins D .next) X.xe s₃) X.xe s₂) X.xe s:=by
  refine bj (he pins s σ H _ I h) λw s1 ⟨y,H1,I1,r1,q1⟩=>?_;refine bj (ho pins s1 σ H1 v y u w _ I1 r r1 q1) λz s2 ⟨zv,H2,I2,r2,q2⟩=>?_;exact mZ I2 hN hi hx r2 (λs3 I3=>⟨_,H2,I3,q2⟩) hf
 rcases l with⟨hk,hm⟩|⟨hk,c,hc,hcell⟩
 ·exact wpAny_loadName_local I.ok.kind hk hn hm go
 ·rcases hk with hk|hk
  ·exact wpAny_loadName_cell I.ok.kind hk hc hcell go
  ·rcases hx with k|k
   ·have:X.env.scope.names.lookup x=ae .free:=hk;rw[k]at this;cases this
   ·have:X.env.scope.names.lookup x=ae .free:=hk;rw[k]at this;cases this
def BE(f:Int->Int->Int):pF:=λx y H Q=>∃i j,x=.int i/\y=.int j/\Q (.int (f i j)) H
theorem RQ:AA X .Add (BE λi j=>i+j):=by
 intro pins s σ H x y v u Q I r1 r2 h;obtain⟨i,j,e1,e2,q⟩:=h;subst e1;subst e2;obtain⟨t,rfl⟩:=r1;obtain⟨t',rfl⟩:=r2;exact iadd_int ⟨.int _,H,I.tok _,⟨_,rfl⟩,q⟩
end
structure It where
 go:Nat->Hp->Prop
 yld:Nat->Hp->V->Hp->Prop
 stop:Nat->Hp->Prop
def dh(X:Cx)(pins:List (Addr×Obj))(H:Hp)(b:Addr):Prop:=
 H b=af/\b≠X.env.locals/\b∉X.fs/\(b∈X.ex\/X.s₀.heap.objs.size<=b)/\(∀x c,X.env.cells.lookup x=ae c->c≠b)/\∀p∈X.pn++pins,p.1≠b
theorem Inv.fpOk{X:Cx}{pins:List (Addr×Obj)}{σ:St}{H H':Hp}{s:Ai}{b:Addr}(I:Inv X pins σ H s)(hb:s.heap.objs.size<=b)(hn:H' b=af):dh X pins H' b:=by
 refine⟨hn,D0 (Bn I.lt hb),I.nofs hb,.inr (An I.sz hb),λx c e z=>?_,λp hp z=>?_⟩
 ·obtain⟨v,q⟩:=I.cell x c e;exact absurd (Bn q.lt (by rw[z];exact hb)) (Fs _)
 ·exact absurd (Bn (Ar (I.pin p hp).1) (by rw[z];exact hb)) (Fs _)
structure Turn(P:Bj)(w:Bu)(K:Ag)(tg:Expr)(J:It)(fp:List Addr)(it:Addr)(tn:Nat->Heap->Prop):Prop where
 mem:it∈fp
 obj:∀i h,tn i h->∀b∈fp,∃o,h.get? b=ae o/\∀v,o.data≠.cell v
 keep:∀i h h',tn i h->(∀b∈fp,∀o,h.get? b=ae o->h'.get? b=ae o)->tn i h'
 item:∀(X:Cx),X.prog=P->X.w=w->X.K=K->X.calm=ah->∀(i:Nat)(pins:List (Addr×Obj))(s:Ai)(σ:St)(H:Hp)(E:Af->Ai->Prop),Inv X pins σ H s->(∀b∈fp,dh X pins H b)->tn i s.heap->J.go i H->
  Az (Bg P w) X.A (E7 (.ref it)) (λr s1=>∃u,r=ae u /\
   Az (Bg P w) X.A (letOwnedTupleGo tg (.ref it) u) (λ_ s2=>∃x H',Inv X pins σ H' s2/\RelV x u/\J.yld i H x H'/\tn (i+1) s2.heap/\∀b∈fp,H' b=af) E s1) E s
 done:∀(X:Cx),X.prog=P->X.w=w->X.K=K->X.calm=ah->∀(i:Nat)(pins:List (Addr×Obj))(s:Ai)(σ:St)(H:Hp)(E:Af->Ai->Prop),Inv X pins σ H s->(∀b∈fp,dh X pins H b)->tn i s.heap->J.stop i H->
  Az (Bg P w) X.A (E7 (.ref it)) (λr s1=>r=af/\Inv X pins σ H s1) E s
 self:∀(A:B3)(i:Nat)(s:Ai)(Q:Af->Ai->Prop)(E:Af->Ai->Prop),tn i s.heap->Q (.ref it) s->Az (Bg P w) A (pyIter (.ref it)) Q E s
abbrev TI:=St->Hp->(It->Hp->Prop)->Prop
def zV(X:Cx)(pins:List (Addr×Obj))(σ:St)(tg:Expr)(R:It->Hp->Prop)(itv:Af)(s2:Ai):Prop:=
 ∃(it:Addr)(fp:List Addr)(tn:Nat->Heap->Prop)(J:It)(H':Hp),itv=.ref it/\Inv X pins σ H' s2/\Turn X.prog X.w X.K tg J fp it tn/\tn 0 s2.heap/\(∀b∈fp,dh X pins H' b)/\R J H'
def PI(X:Cx)(tg iter:Expr)(wi:TI):Prop:=
 ∀(pins:List (Addr×Obj))(s:Ai)(σ:St)(H:Hp)(R:It->Hp->Prop),Inv X pins σ H s->wi σ H R->
  Az (Bg X.prog X.w) X.A (eval iter X.env) (λv s1=>Az (Bg X.prog X.w) X.A (pyIter v) (zV X pins σ tg R) X.xe s1) X.xe s
theorem mK{M:Model}{A:B3}{E:Af->Ai->Prop}{s:Ai}{tg:Expr}{it:Addr}{u:Af}{o:Obj}{n:String}{vs:Array Af}{Q:Unit->Ai->Prop}(ho:s.heap.get? it=ae o)(hc:o.cls=.type n)(hd:o.data=.fields vs)
  (hn:["enumerate","zip","dict_itemiterator","dict_reverseitemiterator","odict_iterator","itertools.zip_longest","itertools.pairwise"].contains n=ai) (hQ:Q () s):Az M A (letOwnedTupleGo tg (.ref it) u) Q E s:=by
 unfold letOwnedTupleGo;cases tg<;>first
  |exact Aj hQ
  | (cases u<;>first
    |exact Aj hQ
    | (refine Ad (wpAny_load ho ?_)
       rw[hc,hd];show Az M A (if (["enumerate","zip","dict_itemiterator","dict_reverseitemiterator","odict_iterator","itertools.zip_longest","itertools.pairwise"].contains n&&vs[0]?==ae (Dh _))=ah then _ else _) Q E s;rw[if_neg (by intro h;rw[hn,E6]at h;cases h)];exact Aj hQ))
def yV(K:Ag)(a:Addr):It:=
 ⟨λi H=>∃xs x,SqL K H a xs/\xs[i]?=ae x,λi H x H'=>H'=H/\∀xs,SqL K H a xs->xs[i]?=ae x,λi H=>∃xs,SqL K H a xs/\xs.length<=i⟩
def FR(K:Ag)(a:Addr):It:=
 ⟨λi H=>∃xs x,SqT K H a xs/\xs[i]?=ae x,λi H x H'=>H'=H/\∀xs,SqT K H a xs->xs[i]?=ae x,λi H=>∃xs,SqT K H a xs/\xs.length<=i⟩
def oV(lo:Int)(n:Nat):It:=⟨λi _=>i < n,λi H x H'=>H'=H/\x=.int (lo+i),λi _=>n<=i⟩
theorem Rx{P:Bj}{w:Bu}{K:Ag}{tg:Expr}(a it:Addr):Turn P w K tg (yV K a) [it] it (λi h=>h.IsListIter it a i) where
 mem:=by simp
 obj:=λi h st b hb=>by
  have e:b=it:=by simpa using hb
  subst e;obtain⟨o,e,c,d⟩:=st;exact⟨o,e,λv z=>by rw[d]at z;cases z⟩
 keep:=λi h h' st k=>st.at λo e=>k it (by simp) o e
 item:=by
  intro X hP hw hK hc i pins s σ H E I hf st hg;subst hP hw hK;obtain⟨xs,x,hq,hx⟩:=hg;obtain⟨its,rv,p,hz⟩:=I.list hq;obtain⟨u,hu,ru⟩:=rv.get hx;obtain⟨f0,f1,f2,f3,f4,f5⟩:=hf it (by simp);refine wpAny_pyNext_list_item st p.isList (x:=u) (by simpa using hu) λh' st' sb=>?_;have I1:Inv X pins σ H {s with heap:=h'}:=I.turned (t':=s.toks) (λb o hb e=>(sb.2 b hb).trans e) f0 f1 f3 f4 f5;obtain⟨o,e,c,d⟩:=id st';exact⟨u,rfl,mK (s:={ s with heap:=h'}) e c d ∎ ⟨x,H,I1,ru,⟨rfl,λys hy=>by rw[I.list_inj hy hq];exact hx⟩,st',λb hb=>(hf b hb).1⟩⟩
 done:=by
  intro X hP hw hK hc i pins s σ H E I hf st hg;subst hP hw hK;obtain⟨xs,hq,hx⟩:=hg;obtain⟨its,rv,p,hz⟩:=I.list hq;obtain⟨f0,f1,f2,f3,f4,f5⟩:=hf it (by simp);have hl:=rv.length;exact wpAny_pyNext_list_end (I.ok.hd hc) st p.isList (by simp;omega) λh' eb=>⟨rfl,I.turned (t':=s.toks) (λb o hb e=>eb b o hb e) f0 f1 f3 f4 f5⟩
 self:=λ_ _ _ _ _ st h=>wpAny_pyIter_listiter st h
theorem QB{P:Bj}{w:Bu}{K:Ag}{tg:Expr}(a it:Addr):Turn P w K tg (FR K a) [it] it (λi h=>h.IsTupleIter it a i) where
 mem:=by simp
 obj:=λi h st b hb=>by
  have e:b=it:=by simpa using hb
  subst e;obtain⟨o,e,c,d⟩:=st;exact⟨o,e,λv z=>by rw[d]at z;cases z⟩
 keep:=λi h h' st k=>st.at λo e=>k it (by simp) o e
 item:=by
  intro X hP hw hK hc i pins s σ H E I hf st hg;subst hP hw hK;obtain⟨xs,x,hq,hx⟩:=hg;obtain⟨its,rv,p,hz⟩:=I.tuple hq;obtain⟨u,hu,ru⟩:=rv.get hx;obtain⟨f0,f1,f2,f3,f4,f5⟩:=hf it (by simp);refine wpAny_pyNext_tuple_item st (show s.heap.IsTuple a its.toArray from p) (x:=u) (by simpa using hu) λh' st' sb=>?_;have I1:Inv X pins σ H {s with heap:=h'}:=I.turned (t':=s.toks) (λb o hb e=>(sb.2 b hb).trans e) f0 f1 f3 f4 f5;obtain⟨o,e,c,d⟩:=id st';exact⟨u,rfl,mK (s:={ s with heap:=h'}) e c d ∎ ⟨x,H,I1,ru,⟨rfl,λys hy=>by rw[I.tuple_inj hy hq];exact hx⟩,st',λb hb=>(hf b hb).1⟩⟩
 done:=by
  intro X hP hw hK hc i pins s σ H E I hf st hg;subst hP hw hK;obtain⟨xs,hq,hx⟩:=hg;obtain⟨its,rv,p,hz⟩:=I.tuple hq;obtain⟨f0,f1,f2,f3,f4,f5⟩:=hf it (by simp);have hl:=rv.length;exact wpAny_pyNext_tuple_end (I.ok.hd hc) st (show s.heap.IsTuple a its.toArray from p) (by simp;omega) λh' eb=>⟨rfl,I.turned (t':=s.toks) (λb o hb e=>eb b o hb e) f0 f1 f3 f4 f5⟩
 self:=λ_ _ _ _ _ st h=>wpAny_pyIter_tupleiter st h
theorem LW{P:Bj}{w:Bu}{K:Ag}{tg:Expr}(it:Addr)(lo:Int)(n:Nat):Turn P w K tg (oV lo n) [it] it (λi h=>IsRangeIter h it (lo+(i:Nat)*1) ((n:Int)-(i:Nat)) 1) where
 mem:=by simp
 obj:=λi h st b hb=>by
  have e:b=it:=by simpa using hb
  subst e;exact⟨_,st,λv z=>by
   have z':Data.fields _=Data.cell v:=z;cases z'⟩
 keep:=λi h h' st k=>k it (by simp) _ st
 item:=by
  intro X hP hw hK hc i pins s σ H E I hf st hg;subst hP hw hK;obtain⟨f0,f1,f2,f3,f4,f5⟩:=hf it (by simp);have W:=Walks.range (prog:=X.prog) (w:=X.w) (I.ok.hd hc) it lo 1 n;refine W.item i s _ _ hg st λv h' tk hv st' kk=>?_;obtain⟨t,rfl⟩:=hv;have I1:Inv X pins σ H {s with heap:=h',toks:=tk}:=I.turned (λb o hb e=>kk b o (by simpa using hb) e) f0 f1 f3 f4 f5;refine⟨_,rfl,mK (s:={ s with heap:=h',toks:=tk}) (n:="range_iterator") st' rfl rfl ∎ ⟨.int (lo+i),H,I1,⟨t,?_⟩,⟨rfl,rfl⟩,st',λb hb=>(hf b hb).1⟩⟩;rw[Int.mul_one]
 done:=by
  intro X hP hw hK hc i pins s σ H E I hf st hg;subst hP hw hK;obtain⟨f0,f1,f2,f3,f4,f5⟩:=hf it (by simp);exact wpAny_pyNext_range_end (I.ok.hd hc) st (by have:n<=i:=hg;omega) λh' eb=>⟨rfl,I.turned (t':=s.toks) (λb o hb e=>eb b o hb e) f0 f1 f3 f4 f5⟩
 self:=λ_ _ _ _ _ st h=>wpAny_pyIter_rangeiter st h
section
variable{X:Cx}{tg:Expr}
def vR(K:Ag)(tl:TE):TI:=λσ H R=>tl σ H λx H1=>∃a,x=.ref a/\(∃xs,SqL K H1 a xs)/\R (yV K a) H1
def kA(K:Ag)(tl:TE):TI:=λσ H R=>tl σ H λx H1=>∃a,x=.ref a/\(∃xs,SqT K H1 a xs)/\R (FR K a) H1
theorem Jx{l:Expr}{tl:TE}(hl:PE X l tl):PI X tg l (vR X.K tl):=by
 intro pins s σ H R I h;refine bj (hl pins s σ H _ I h) λv s1 ⟨x,H1,I1,r1,q1⟩=>?_;obtain⟨a,e,⟨xs,hq⟩,q⟩:=q1;subst e;cases r1;obtain⟨its,rv,p,hz⟩:=I1.list hq;refine wpAny_pyIter_list p.isList ?_;refine⟨s1.heap.objs.size,[s1.heap.objs.size],_,_,H1,rfl,I1.kept (t':=s1.toks) λb o e=>Ae _ e,Rx a _,⟨_,Ay _ rfl,rfl,rfl⟩,λb hb=>?_,q⟩;have e:b=s1.heap.objs.size:=by simpa using hb
 subst e;exact I1.fpOk (Av _) (I1.hok.fresh (Av _))
theorem Qx{l:Expr}{tl:TE}(hl:PE X l tl):PI X tg l (kA X.K tl):=by
 intro pins s σ H R I h;refine bj (hl pins s σ H _ I h) λv s1 ⟨x,H1,I1,r1,q1⟩=>?_;obtain⟨a,e,⟨xs,hq⟩,q⟩:=q1;subst e;cases r1;obtain⟨its,rv,p,hz⟩:=I1.tuple hq;refine Er (show s1.heap.IsTuple a its.toArray from p) ?_;refine⟨s1.heap.objs.size,[s1.heap.objs.size],_,_,H1,rfl,I1.kept (t':=s1.toks) λb o e=>Ae _ e,QB a _,⟨_,Ay _ rfl,rfl,rfl⟩,λb hb=>?_,q⟩;have e:b=s1.heap.objs.size:=by simpa using hb
 subst e;exact I1.fpOk (Av _) (I1.hok.fresh (Av _))
theorem LL{pins:List (Addr×Obj)}{σ:St}{H:Hp}{s:Ai}{R:It->Hp->Prop}{E:Af->Ai->Prop}{lo hi:Int}{t u v:Tok}{tk:Nat}(I:Inv X pins σ H s)(h1:-(2 ^ 62)<=lo)(h2:lo < 2 ^ 62)(h3:-(2 ^ 62)<=hi)(h4:hi < 2 ^ 62)
  (q:R (oV lo (hi-lo).toNat) H):Az (Bg X.prog X.w) X.A (pyIter (.ref s.heap.objs.size)) (zV X pins σ tg R) E {s with heap:=s.heap.push {cls:=.type "range",data:=.fields #[.int lo t,.int hi u,.int 1 v]},toks:=tk}:=by
 refine wpAny_pyIter_range (IsRange.new ..) (small_one h1 h2 h3 h4) ?_;have I1:Inv X pins σ H {s with heap:=s.heap.push {cls:=.type "range",data:=.fields #[.int lo t,.int hi u,.int 1 v]},toks:=tk}:=I.kept λb o e=>Ae _ e;refine⟨(s.heap.push {cls:=.type "range",data:=.fields #[.int lo t,.int hi u,.int 1 v]}).objs.size,[(s.heap.push {cls:=.type "range",data:=.fields #[.int lo t,.int hi u,.int 1 v]}).objs.size],_,_,H,rfl,
  I1.kept (t':=tk) λb o e=>Ae _ e,LW _ lo (hi-lo).toNat,?_,λb hb=>?_,q⟩
 ·have e1:lo+((0:Nat):Int)*1=lo:=by simp
  have e2:(((hi-lo).toNat:Nat):Int)-((0:Nat):Int)=Builtin.Range.rangeSize lo hi 1:=by rw[rangeSize_one];split<;>omega
  show IsRangeIter _ _ (lo+((0:Nat):Int)*1) ((((hi-lo).toNat:Nat):Int)-((0:Nat):Int)) 1;rw[e1,e2];exact Ay _ rfl
 ·have e:b=(s.heap.push {cls:=.type "range",data:=.fields #[.int lo t,.int hi u,.int 1 v]}).objs.size:=by simpa using hb
  subst e;exact I1.fpOk (Av _) (I1.hok.fresh (Av _))
def xZ(ta:TA):TI:=λσ H R=>ta σ H λvs H1=>∃j:Int,vs=[.int j]/\-(2 ^ 62)<=j/\j < 2 ^ 62/\R (oV 0 j.toNat) H1
theorem Om{a:Expr}{ta:TA}{p pos:Pos}(hg:Gl X "range")(hm:X.mg "range"=af)(ha:PA X [a] ta)(hs:Au [a] X.env=[(ai,eval a X.env)]:=by rfl):PI X tg (.Call (.Name "range" p) [a] [] pos) (xZ ta):=by
 intro pins s σ H R I h;refine Call_ (lM I hg hm boot_range (D1 (bj (ha pos pins s σ H _ I h) λus s1 ⟨vs,H1,I1,r1,q1⟩=>?_) hs rfl));obtain⟨j,e,q1,q2,q⟩:=q1;subst e;cases r1 with
 |cons r rr=>
  cases rr;obtain⟨t,rfl⟩:=r;exact call_range_1 (LL I1 ⋯ ⋯ q1 q2 (by simpa using q))
def iU(wi:TI)(g:TG)(tb:TS):TS:=λD σ H=>wi σ H λJ H1=>∃W:Nat->Nat->St->Hp->Prop,(∃m,W 0 m σ H1)/\∀i m σ H,W i m σ H->
 (J.stop i H/\D.nx σ H)\/(J.go i H/\∃N:St->Hp->Prop,(∀σ' H',N σ' H'->∃m',m' < m/\W (i+1) m' σ' H')/\∀x H',J.yld i H x H'->g x σ H' λσ2 H2=>tb {D with nx:=N,ct:=N,bk:=D.nx} σ2 H2)
def oi(fp:List Addr)(h:Heap):List (Addr×Obj):=fp.filterMap λb=>(h.get? b).map λo=>(b,o)
theorem qy{fp:List Addr}{h:Heap}{b:Addr}{o:Obj}(hb:b∈fp)(e:h.get? b=ae o):(b,o)∈oi fp h:=Hf.mpr ⟨b,hb,by rw[e];rfl⟩
theorem KJ{fp:List Addr}{h:Heap}{p:Addr×Obj}(hp:p∈oi fp h):p.1∈fp/\h.get? p.1=ae p.2:=by
 obtain⟨b,hb,e⟩:=Hf.mp hp;cases q:h.get? b with
 |none=>rw[q]at e;cases e
 |some o=>
  rw[q]at e;have e':(b,o)=p:=Bp e;subst e';exact⟨hb,q⟩
theorem Inv.pinned{pins:List (Addr×Obj)}{σ:St}{H:Hp}{s:Ai}{fp:List Addr}(I:Inv X pins σ H s)(hf:∀b∈fp,dh X pins H b)(ho:∀b∈fp,∃o,s.heap.get? b=ae o/\∀v,o.data≠.cell v):Inv X (pins++oi fp s.heap) σ H s:=
 I.pins_of λp hp=>(Bi.mp hp).elim (λz=>I.pin p (Bb _ z)) λz=>by
  obtain⟨hb,e⟩:=KJ z;obtain⟨f0,f1,f2,_⟩:=hf p.1 hb;obtain⟨o,e',d⟩:=ho p.1 hb;rw[e]at e';cases e';exact⟨e,f0,f1,f2,d⟩
theorem Inv.unpinned{pins pl:List (Addr×Obj)}{σ:St}{H:Hp}{s:Ai}(I:Inv X (pins++pl) σ H s):Inv X pins σ H s:=I.pins_of λp hp=>I.pin p (Bb _ (Cg _ hp))
theorem rH{iter:Expr}{body:List Stmt}{wi:TI}{g:TG}{tb:TS}{pos:Pos}(hp:PassesOwn (Bg X.prog X.w) X.A X.env X.xe)(hc:X.calm=ah)(hi:PI X tg iter wi)(hg:PG X tg g)(hb:PSs X body tb)
  (hs:∀x,G2 iter X.env x=pure x:=by intro _;rfl):PS X (.For tg iter body [] pos) (iU wi g tb):=by
 intro pins s σ H D I h;refine wpAny_For (bj (hi pins s σ H _ I h) λv s1 h1=>bj h1 λitv s2 h2=>?_) hs;obtain⟨it,fp,tn,J,H2,e,I2,T,st2,f2,W,⟨m0,w0⟩,turn⟩:=h2;subst e
 have stat:∀{H':Hp},(∀b∈fp,H' b=af)->∀b∈fp,dh X pins H' b:=λhn b hb=>⟨hn b hb,(f2 b hb).2⟩;refine codeAny_forLoop_any (λn s'=>∃i σ' H',Inv X pins σ' H' s'/\tn i s'.heap/\(∀b∈fp,H' b=af)/\W i n σ' H') ?_ m0 ⟨0,σ,H2,I2,st2,λb hb=>(f2 b hb).1,w0⟩
 rintro n s3 ⟨i,σ3,H3,I3,st3,fr3,w3⟩
 rcases turn i n σ3 H3 w3 with⟨stop,qn⟩|⟨go,N,hN,step⟩
 ·refine Hh hp (bj (T.done X rfl rfl rfl hc i pins s3 σ3 H3 X.xe I3 (stat fr3) st3 stop) λr s4 ⟨hr,I4⟩=>?_);subst hr;exact wpAny_execs_nil ⟨σ3,H3,I4,qn⟩
 ·refine Hh hp (bj (T.item X rfl rfl rfl hc i pins s3 σ3 H3 X.xe I3 (stat fr3) st3 go) λr s4 ⟨u,hr,h4⟩=>?_);subst hr;refine Hh hp (bj h4 λ_ s5 ⟨x,H5,I5,r5,y5,st5,fr5⟩=>?_);have I5':=I5.pinned (stat fr5) (T.obj _ _ st5);refine Hh hp (bj (hg _ s5 σ3 H5 x u _ I5' r5 (step x H5 y5)) λ_ s6 ⟨σ6,H6,I6,q6⟩=>?_);refine Hh hp (bj (hb _ s6 σ6 H6 _ I6 q6) λf s7 q7=>?_);have again:∀{σ7:St}{H7:Hp},Inv X (pins++oi fp s5.heap) σ7 H7 s7->N σ7 H7->∃m,m < n/\∃i σ' H',Inv X pins σ' H' s7/\tn i s7.heap/\(∀b∈fp,H' b=af)/\W i m σ' H':=λ{σ7 H7} I7 n7=>by
   obtain⟨m',hm,w7⟩:=hN σ7 H7 n7;refine⟨m',hm,i+1,σ7,H7,I7.unpinned,T.keep _ _ _ st5 λb hb o e=>(I7.pin (b,o) (Bb _ (Bb _ (qy hb e)))).1,λb hb=>?_,w7⟩;obtain⟨o,e,d⟩:=T.obj _ _ st5 b hb;exact(I7.pin (b,o) (Bb _ (Bb _ (qy hb e)))).2.1
  cases f with
  |next=>obtain⟨σ7,H7,I7,n7⟩:=q7;exact again I7 n7
  |cont=>obtain⟨σ7,H7,I7,n7⟩:=q7;exact again I7 n7
  |brk=>obtain⟨σ7,H7,I7,q7⟩:=q7;exact⟨σ7,H7,I7.unpinned,q7⟩
  |ret v=>obtain⟨x7,σ7,H7,I7,r7,q7⟩:=q7;exact⟨x7,σ7,H7,I7.unpinned,r7,q7⟩
end
abbrev R2:=V->V->Hp->VK->Prop
def OpR(X:Cx)(f:Af->Af->Sem Af)(r:R2):Prop:=
 ∀(pins:List (Addr×Obj))(s:Ai)(σ:St)(H:Hp)(x y:V)(v u:Af)(Q:VK),Inv X pins σ H s->RelV x v->RelV y u->r x y H Q->
  Az (Bg X.prog X.w) X.A (f v u) (EP X pins σ Q) X.xe s
def sI(X:Cx)(f:Af->Sem Af)(r:V->Hp->VK->Prop):Prop:=
 ∀(pins:List (Addr×Obj))(s:Ai)(σ:St)(H:Hp)(x:V)(v:Af)(Q:VK),Inv X pins σ H s->RelV x v->r x H Q->
  Az (Bg X.prog X.w) X.A (f v) (EP X pins σ Q) X.xe s
def CallR(X:Cx)(f:Af)(r:List V->Hp->VK->Prop):Prop:=
 ∀(pins:List (Addr×Obj))(s:Ai)(σ:St)(H:Hp)(xs:List V)(us:List Af)(Q:VK),Inv X pins σ H s->Vals xs us->r xs H Q->
  Az (Bg X.prog X.w) X.A (call f us) (EP X pins σ Q) X.xe s
def eJ(r:R2)(ta tb:TE):TE:=λσ H Q=>ta σ H λx H1=>tb σ H1 λy H2=>r x y H2 Q
def FJ(r:V->Hp->VK->Prop)(ta:TE):TE:=λσ H Q=>ta σ H λx H1=>r x H1 Q
def rI(C:Int->Int->Prop)(g:Int->Int->V):R2:=λx y H Q=>∃i j,x=.int i/\y=.int j/\C i j/\Q (g i j) H
def gV(g:Int->Int->V):R2:=λx y H Q=>∃i j,x=.int i/\y=.int j/\Q (g i j) H
def rU(g:Int->V):V->Hp->VK->Prop:=λx H Q=>∃i,x=.int i/\Q (g i) H
section
variable{X:Cx}{a b c:Expr}{ta tb tc:TE}{pos:Pos}
theorem k7(ha:PE X a ta)(hb:PE X b tb){pins:List (Addr×Obj)}{s:Ai}{σ:St}{H:Hp}{R:V->V->Hp->Prop}(I:Inv X pins σ H s)
  (h:ta σ H λx H1=>tb σ H1 λy H2=>R x y H2) {Q:Af->Ai->Prop} {f:Af->Af->Sem Af}
  (hf:∀v u s2 x y H2,Inv X pins σ H2 s2->RelV x v->RelV y u->R x y H2->Az (Bg X.prog X.w) X.A (f v u) Q X.xe s2):
  Az (Bg X.prog X.w) X.A (eval a X.env) (λv s₁=>Az (Bg X.prog X.w) X.A (eval b X.env) (λu s₂=>Az (Bg X.prog X.w) X.A (f v u) Q X.xe s₂) X.xe s₁) X.xe s:=by
 refine bj (ha pins s σ H _ I h) λv s1 ⟨x,H1,I1,r1,q1⟩=>?_;refine bj (hb pins s1 σ H1 _ I1 q1) λu s2 ⟨y,H2,I2,r2,q2⟩=>?_;exact hf v u s2 x y H2 I2 r1 r2 q2
theorem ek{op:Operator}{r:R2}(ho:OpR X (E5 op) r)(ha:PE X a ta)(hb:PE X b tb):PE X (.BinOp a op b pos) (eJ r ta tb):=by
 intro pins s σ H Q I h;exact wpAny_BinOp (k7 ha hb I h λv u s2 x y H2 I2 rx ry q=>ho pins s2 σ H2 x y v u Q I2 rx ry q)
theorem qB{op:UnaryOp}{r:V->Hp->VK->Prop}(ho:sI X (unaryOp op) r)(ha:PE X a ta):PE X (.UnaryOp op a pos) (FJ r ta):=by
 intro pins s σ H Q I h;exact UnaryOp_ (bj (ha pins s σ H _ I h) λv s1 ⟨x,H1,I1,r1,q1⟩=>ho pins s1 σ H1 x v Q I1 r1 q1)
theorem qV{f:Af->Af->Sem Af}{C:Int->Int->Prop}{g:Int->Int->Int}
  (rule:∀(i j:Int)(t u:Tok)(s:Ai)(Q:Af->Ai->Prop)(E:Af->Ai->Prop),C i j->Q (.int (g i j) s.toks) {s with toks:=s.toks+1}->Az (Bg X.prog X.w) X.A (f (.int i t) (.int j u)) Q E s):
  OpR X f (rI C λi j=>.int (g i j)):=by
 intro pins s σ H x y v u Q I rx ry h;obtain⟨i,j,rfl,rfl,hc,q⟩:=h;obtain⟨t,rfl⟩:=rx;obtain⟨t',rfl⟩:=ry;exact rule i j t t' s _ _ hc ⟨.int (g i j),H,I.tok _,⟨_,rfl⟩,q⟩
theorem uT{f:Af->Af->Sem Af}{g:Int->Int->Int}
  (rule:∀(i j:Int)(t u:Tok)(s:Ai)(Q:Af->Ai->Prop)(E:Af->Ai->Prop),Q (.int (g i j) s.toks) {s with toks:=s.toks+1}->Az (Bg X.prog X.w) X.A (f (.int i t) (.int j u)) Q E s):
  OpR X f (gV λi j=>.int (g i j)):=by
 intro pins s σ H x y v u Q I rx ry h;obtain⟨i,j,rfl,rfl,q⟩:=h;obtain⟨t,rfl⟩:=rx;obtain⟨t',rfl⟩:=ry;exact rule i j t t' s _ _ ⟨.int (g i j),H,I.tok _,⟨_,rfl⟩,q⟩
theorem jj{f:Af->Af->Sem Af}{g:Int->Int->Bool}
  (rule:∀(i j:Int)(t u:Tok)(s:Ai)(Q:Af->Ai->Prop)(E:Af->Ai->Prop),Q (.bool (g i j)) s->Az (Bg X.prog X.w) X.A (f (.int i t) (.int j u)) Q E s):
  OpR X f (gV λi j=>.bl (g i j)):=by
 intro pins s σ H x y v u Q I rx ry h;obtain⟨i,j,rfl,rfl,q⟩:=h;obtain⟨t,rfl⟩:=rx;obtain⟨t',rfl⟩:=ry;exact rule i j t t' s _ _ ⟨.bl (g i j),H,I,rfl,q⟩
def rD(i j:Int):Prop:=0 < j/\j < 1073741824
def uD(i j:Int):Prop:=0<=j/\j<=1000000/\i.natAbs < 2 ^ 64
def CMul(i j:Int):Prop:=(-(2 ^ 64) < i/\i < 2 ^ 64)\/(-(2 ^ 64) < j/\j < 2 ^ 64)
theorem CMul.ok{i j:Int}(h:CMul i j):IntMulOk i j:=by
 rcases h with⟨h1,h2⟩|⟨h1,h2⟩
 ·exact .of_left (intBits_le_64 h1 h2)
 ·exact .of_right (intBits_le_64 h1 h2)
theorem op_add:OpR X (E5 .Add) (gV λi j=>.int (i+j)):=uT λ_ _ _ _ _ _ _ q=>add_int q
theorem lS:OpR X (E5 .Mult) (rI CMul λi j=>.int (i*j)):=qV λ_ _ _ _ _ _ _ hc q=>mul_int q hc.ok
theorem yu:OpR X (E5 .FloorDiv) (rI rD λi j=>.int (i / j)):=qV λi j _ _ _ _ _ hc q=>by
 have h1:(0:Int) < j:=hc.1;have h2:j < 1073741824:=hc.2;exact floordiv_int ⋯ (by rw[Int.fdiv_eq_ediv_of_nonneg i ⋯];exact q) (.inl (PyProof.noPylong_small ⋯))
theorem jy:OpR X (E5 .Mod) (rI (λ_ j=>0 < j) λi j=>.int (i % j)):=qV λi j _ _ _ _ _ hc q=>by
 have h1:(0:Int) < j:=hc;exact mod_int' ⋯ (by rw[Int.fmod_eq_emod_of_nonneg i ⋯];exact q)
theorem Uv:OpR X (E5 .Pow) (rI uD λi j=>.int (i ^ j.toNat)):=qV λ_ _ _ _ _ _ _ hc q=>pow_int_small hc.1 hc.2.1 hc.2.2 q
theorem Pz{f:Af->Sem Af}{g:Int->Int}
  (rule:∀(i:Int)(t:Tok)(s:Ai)(Q:Af->Ai->Prop)(E:Af->Ai->Prop),Q (.int (g i) s.toks) {s with toks:=s.toks+1}->Az (Bg X.prog X.w) X.A (f (.int i t)) Q E s):
  sI X f (rU λi=>.int (g i)):=by
 intro pins s σ H x v Q I rx h;obtain⟨i,rfl,q⟩:=h;obtain⟨t,rfl⟩:=rx;exact rule i t s _ _ ⟨.int (g i),H,I.tok _,⟨_,rfl⟩,q⟩
theorem pA:sI X (unaryOp .USub) (rU λi=>.int (-i)):=Pz λ_ _ _ _ _ q=>neg_int q
end
def nN:V->V->Bool
 |.non,.non=>ah|.non,.int _=>ah|.int _,.non=>ah|.non,.bl _=>ah|.bl _,.non=>ah|.non,.str _=>ah|.str _,.non=>ah
 |.int _,.int _=>ah|.bl _,.bl _=>ah|.str _,.str _=>ah|.byt _,.byt _=>ah
 |.int _,.str _=>ah|.str _,.int _=>ah|.bl _,.str _=>ah|.str _,.bl _=>ah
 |_,_=>ai
def qr:R2:=λx y H Q=>nN x y=ah/\Q (.bl (decide (x=y))) H
def EH:R2:=λx y H Q=>nN x y=ah/\Q (.bl (!decide (x=y))) H
theorem CO{i j:Int}:decide (V.int i=V.int j)=(i==j):=by
 rw[G9];simp
theorem yY{i j:Bool}:decide (V.bl i=V.bl j)=(i==j):=by
 rw[G9];simp
theorem FQ{i j:Str}:decide (V.str i=V.str j)=(i==j):=by
 rw[G9];simp
theorem zW{i j:Array UInt8}:decide (V.byt i=V.byt j)=(i.toList==j.toList):=by
 rw[G9];cases i;cases j;simp
section
variable{X:Cx}{a b c:Expr}{ta tb tc:TE}{pos:Pos}
theorem cM{pins:List (Addr×Obj)}{σ:St}{H:Hp}{s:Ai}{Q:VK}{k k':Bool}(I:Inv X pins σ H s)(q:Q (.bl k) H)(e:k=k'):EP X pins σ Q (.bool k') s:=by
 subst e;exact⟨.bl k,H,I,rfl,q⟩
theorem op_eq:OpR X (B8 .Eq) qr:=by
 intro pins s σ H x y v u Q I rx ry h;obtain⟨hs,q⟩:=h;cases x with
 |non=>
  cases rx;cases y with
  |non=>cases ry;exact PySem.EqNone.eq_none_none (cM I q (by simp))
  |bl j=>cases ry;exact PySem.EqNone.eq_none_bool (cM I q (by simp))
  |int j=>obtain⟨t',rfl⟩:=ry;exact PySem.EqNone.eq_none_int (cM I q (by simp))
  |str j=>obtain⟨t',rfl⟩:=ry;exact PySem.EqNone.eq_none_str (cM I q (by simp))
  |_=>exact absurd (show ai=ah from hs) Ak
 |bl i=>
  cases rx;cases y with
  |non=>cases ry;exact PySem.EqNone.eq_bool_none (cM I q (by simp))
  |bl j=>cases ry;exact eq_bool (cM I q yY)
  |str j=>obtain⟨t',rfl⟩:=ry;exact PySem.EqMixed.eq_bool_str (cM I q (by simp))
  |_=>exact absurd (show ai=ah from hs) Ak
 |int i=>
  obtain⟨t,rfl⟩:=rx;cases y with
  |non=>cases ry;exact PySem.EqNone.eq_int_none (cM I q (by simp))
  |int j=>obtain⟨t',rfl⟩:=ry;exact eq_int (cM I q CO)
  |str j=>obtain⟨t',rfl⟩:=ry;exact PySem.EqMixed.eq_int_str (cM I q (by simp))
  |_=>exact absurd (show ai=ah from hs) Ak
 |str i=>
  obtain⟨t,rfl⟩:=rx;cases y with
  |non=>cases ry;exact PySem.EqNone.eq_str_none (cM I q (by simp))
  |bl j=>cases ry;exact PySem.EqMixed.eq_str_bool (cM I q (by simp))
  |int j=>obtain⟨t',rfl⟩:=ry;exact PySem.EqMixed.eq_str_int (cM I q (by simp))
  |str j=>obtain⟨t',rfl⟩:=ry;exact eq_str (cM I q FQ)
  |_=>exact absurd (show ai=ah from hs) Ak
 |byt i=>
  obtain⟨t,rfl⟩:=rx;cases y with
  |byt j=>obtain⟨t',rfl⟩:=ry;exact PySem.W.eq_bytes (cM I q zW)
  |_=>exact absurd (show ai=ah from hs) Ak
 |_=>cases y<;>exact absurd (show ai=ah from hs) Ak
theorem EM:OpR X (B8 .NotEq) EH:=by
 intro pins s σ H x y v u Q I rx ry h;obtain⟨hs,q⟩:=h;cases x with
 |non=>
  cases rx;cases y with
  |non=>cases ry;exact PySem.EqNone.ne_none_none (cM I q (by simp))
  |bl j=>cases ry;exact PySem.EqNone.ne_none_bool (cM I q (by simp))
  |int j=>obtain⟨t',rfl⟩:=ry;exact PySem.EqNone.ne_none_int (cM I q (by simp))
  |str j=>obtain⟨t',rfl⟩:=ry;exact PySem.EqNone.ne_none_str (cM I q (by simp))
  |_=>exact absurd (show ai=ah from hs) Ak
 |bl i=>
  cases rx;cases y with
  |non=>cases ry;exact PySem.EqNone.ne_bool_none (cM I q (by simp))
  |bl j=>cases ry;exact ne_bool (cM I q (congrArg not yY))
  |str j=>obtain⟨t',rfl⟩:=ry;exact PySem.EqMixed.ne_bool_str (cM I q (by simp))
  |_=>exact absurd (show ai=ah from hs) Ak
 |int i=>
  obtain⟨t,rfl⟩:=rx;cases y with
  |non=>cases ry;exact PySem.EqNone.ne_int_none (cM I q (by simp))
  |int j=>obtain⟨t',rfl⟩:=ry;exact ne_int (cM I q (congrArg not CO))
  |str j=>obtain⟨t',rfl⟩:=ry;exact PySem.EqMixed.ne_int_str (cM I q (by simp))
  |_=>exact absurd (show ai=ah from hs) Ak
 |str i=>
  obtain⟨t,rfl⟩:=rx;cases y with
  |non=>cases ry;exact PySem.EqNone.ne_str_none (cM I q (by simp))
  |bl j=>cases ry;exact PySem.EqMixed.ne_str_bool (cM I q (by simp))
  |int j=>obtain⟨t',rfl⟩:=ry;exact PySem.EqMixed.ne_str_int (cM I q (by simp))
  |str j=>obtain⟨t',rfl⟩:=ry;exact ne_str (cM I q (congrArg not FQ))
  |_=>exact absurd (show ai=ah from hs) Ak
 |byt i=>
  obtain⟨t,rfl⟩:=rx;cases y with
  |byt j=>obtain⟨t',rfl⟩:=ry;exact PySem.W.ne_bytes (cM I q (congrArg not zW))
  |_=>exact absurd (show ai=ah from hs) Ak
 |_=>cases y<;>exact absurd (show ai=ah from hs) Ak
theorem op_lt:OpR X (B8 .Lt) (gV λi j=>.bl (decide (i < j))):=jj λ_ _ _ _ _ _ _ q=>lt_int q
theorem op_le:OpR X (B8 .LtE) (gV λi j=>.bl (decide (i<=j))):=jj λ_ _ _ _ _ _ _ q=>le_int q
theorem op_gt:OpR X (B8 .Gt) (gV λi j=>.bl (decide (j < i))):=jj λ_ _ _ _ _ _ _ q=>gt_int q
theorem NK:OpR X (B8 .GtE) (gV λi j=>.bl (decide (j<=i))):=jj λ_ _ _ _ _ _ _ q=>ge_int q
theorem Ro:OpR X (B8 .Lt) (λx y H Q=>∃i j,x=.str i/\y=.str j/\Q (.bl (decide (i.cps.toList < j.cps.toList))) H):=by
 intro pins s σ H x y v u Q I rx ry h;obtain⟨i,j,rfl,rfl,q⟩:=h;obtain⟨t,rfl⟩:=rx;obtain⟨t',rfl⟩:=ry;exact lt_str (cM I q rfl)
theorem w6:OpR X (B8 .Is) (λx y H Q=>y=.non/\Q (.bl (decide (x=.non))) H):=by
 intro pins s σ H x y v u Q I rx ry h;obtain⟨rfl,q⟩:=h;cases ry;refine is_none_gen (cM I q ?_);cases x<;>first
  | (cases rx;rfl)
  | (obtain⟨t,rfl⟩:=rx;rfl)
theorem JR:OpR X (B8 .IsNot) (λx y H Q=>y=.non/\Q (.bl (!decide (x=.non))) H):=by
 intro pins s σ H x y v u Q I rx ry h;obtain⟨rfl,q⟩:=h;cases ry;refine isnot_none_gen (cM I q ?_);cases x<;>first
  | (cases rx;rfl)
  | (obtain⟨t,rfl⟩:=rx;rfl)
theorem OpR.or{f:Af->Af->Sem Af}{r r':R2}(h:OpR X f r)(h':OpR X f r'):OpR X f (λx y H Q=>r x y H Q\/r' x y H Q):=by
 intro pins s σ H x y v u Q I rx ry q;rcases q with q|q
 ·exact h pins s σ H x y v u Q I rx ry q
 ·exact h' pins s σ H x y v u Q I rx ry q
theorem kg(b:Expr){op:CmpOp}(h:op≠.In:=by decide)(h2:op≠.NotIn:=by decide):D6 op b=ai:=by
 have e1:(op==CmpOp.In)=ai:=by cases op<;>first|rfl|exact absurd rfl h
 have e2:(op==CmpOp.NotIn)=ai:=by cases op<;>first|rfl|exact absurd rfl h2
 cases b<;>simp[D6,e1,e2]
theorem CZ{op:CmpOp}{r:R2}(ho:OpR X (B8 op) r)(ha:PE X a ta)(hb:PE X b tb)(hm:D6 op b=ai):PE X (.Compare a [op] [b] pos) (eJ r ta tb):=by
 intro pins s σ H Q I h;exact wpAny_Compare1 (k7 ha hb I h λv u s2 x y H2 I2 rx ry q=>ho pins s2 σ H2 x y v u Q I2 rx ry q) hm
def m6(t:TE):TT:=λσ H Q=>t σ H λx H'=>∃k,x=.bl k/\Q k H'
theorem jt{op:CmpOp}{r:R2}(ho:OpR X (B8 op) r)(ha:PE X a ta)(hb:PE X b tb)(hm:D6 op b=ai):PT X (.Compare a [op] [b] pos) (m6 (eJ r ta tb)):=by
 intro pins s σ H Q I h;refine wpAny_isTrue_Compare1 (bj (ha pins s σ H _ I h) λv s1 ⟨x,H1,I1,r1,q1⟩=>bj (hb pins s1 σ H1 _ I1 q1) λu s2 ⟨y,H2,I2,r2,q2⟩=>
  bj (ho pins s2 σ H2 x y v u _ I2 r1 r2 q2) λc s3 ⟨z,H3,I3,r3,k,e,q3⟩=>?_) hm
 subst e;cases r3;exact Ec ⟨H3,I3,q3⟩
def t8(r r':R2)(ta tb tc:TE):TE:=λσ H Q=>ta σ H λx H1=>tb σ H1 λy H2=>r x y H2 λz H3=>∃k,z=.bl k /\
 (if k=ah then tc σ H3 λw' H4=>r' y w' H4 Q else Q (.bl ai) H3)
theorem Kk{op op':CmpOp}{r r':R2}(ho:OpR X (B8 op) r)(ho':OpR X (B8 op') r')(ha:PE X a ta)(hb:PE X b tb)(hc:PE X c tc)
  (hm:lastMarks [op,op'] [b,c]=ai:=by with_unfolding_all rfl):PE X (.Compare a [op,op'] [b,c] pos) (t8 r r' ta tb tc):=by
 intro pins s σ H Q I h;refine Compare_chain (bj (ha pins s σ H _ I h) λv s1 ⟨x,H1,I1,r1,q1⟩=>chain_link (bj (hb pins s1 σ H1 _ I1 q1) λu s2 ⟨y,H2,I2,r2,q2⟩=>
  bj (ho pins s2 σ H2 x y v u _ I2 r1 r2 q2) λd s3 ⟨z,H3,I3,r3,k,e,q3⟩=>?_)) hm
 subst e;cases r3;refine Ec ?_;cases k with
 |false=>exact ite_ff ⟨.bl ai,H3,I3,rfl,q3⟩
 |true=>exact ite_tt (chain_last (bj (hc pins s3 σ H3 _ I3 q3) λw' s4 ⟨z',H4,I4,r4,q4⟩=>ho' pins s4 σ H4 y z' u w' Q I4 r2 r4 q4))
theorem md:(Ao:Nat) < 2 ^ 63:=by rw[El];decide
theorem op_add_str:OpR X (E5 .Add) (λx y H Q=>∃i j,x=.str i/\y=.str j/\i.length+j.length<=Ao/\Q (.str (i++j)) H):=by
 intro pins s σ H x y v u Q I rx ry h;obtain⟨i,j,rfl,rfl,hz,q⟩:=h;obtain⟨t,rfl⟩:=rx;obtain⟨t',rfl⟩:=ry;exact add_str (λt' tk=>⟨.str (i++j),H,I.tok _,⟨_,rfl⟩,q⟩) hz
theorem iO{x:V}{us:List Af}(r:Vals [x] us):∃u,us=[u]/\RelV x u:=by
 cases r with
 |cons r1 r2=>cases r2;exact⟨_,rfl,r1⟩
theorem EO{x y:V}{us:List Af}(r:Vals [x,y] us):∃u w',us=[u,w']/\RelV x u/\RelV y w':=by
 cases r with
 |cons r1 r2=>
  cases r2 with
  |cons r3 r4=>cases r4;exact⟨_,_,rfl,r1,r3⟩
theorem ME:CallR X (.type "str") (λxs H Q=>∃i,xs=[.int i]/\i.natAbs.log2 < 1920/\Q (.str (Fh i)) H):=by
 intro pins s σ H xs us Q I r h;obtain⟨i,rfl,hz,q⟩:=h;obtain⟨u,rfl,t,rfl⟩:=iO r;exact PySem.P.str_of_int hz ⟨.str _,H,I.tok _,⟨_,rfl⟩,q⟩
end
structure ObjM(h:Heap)(x dx C:Addr)(mA:Str->Option Af):Prop where
 obj:h.get? x=ae (PySem.W.instObj C dx)
 ns:h.Ns1 dx mA
 ne:dx≠x
theorem ER{h:Heap}{dx:Addr}{mA:Str->Option Af}(n:h.Ns1 dx mA):∃od,h.get? dx=ae od/\∀name,PySem.W.lookIn name od=ae (mA name):=by
 obtain⟨o,es,ep,ho,hd,hk,_,hm⟩:=n;refine⟨o,ho,λname=>?_⟩;have e:=hm name;unfold nsFind findBy at e;rw[<-Array.find?_toList]at e;unfold PySem.W.lookIn;rw[hd];dsimp only
 split
 ·rename_i y q;rw[q]at e;exact congrArg ae e
 ·rename_i q;rw[q]at e;have a:es.toList.any (·.refKey)=ai:=by
   rw[List.any_eq_false];intro y hy;obtain⟨z,t,hkey⟩:=hk y (Array.mem_toList_iff.mp hy);simp[DictEntry.refKey,hkey]
  have a':¬es.toList.any (·.refKey)=ah:=by rw[a];exact Ak
  rw[if_neg a'];exact congrArg ae e
theorem ObjM.look{h:Heap}{x dx C:Addr}{mA:Str->Option Af}(I:ObjM h x dx C mA):∃od,PySem.W.InstAt h x (PySem.W.instObj C dx) C (ae od)/\∀name,PySem.W.lookIn name od=ae (mA name):=
 let⟨od,ho,hl⟩:=ER I.ns
 ⟨od,⟨I.obj,rfl,rfl,ho⟩,hl⟩
theorem RelO.some_of{v:V}{o:Option Af}(r:RelO (ae v) o):∃u,o=ae u/\RelV v u:=by
 cases o with
 |none=>exact(show False from r).elim
 |some u=>exact⟨u,rfl,r⟩
theorem J9{v:V}{u:Af}(r:RelV v u):PySem.W.handedIn u=ah:=by
 cases v with
 |non=>cases(show u=Bv from r);rfl
 |bl b=>cases(show u=Value.bool b from r);rfl
 |int i=>obtain⟨t,e⟩:=(show ∃t,u=Value.int i t from r);cases e;rfl
 |str x=>obtain⟨t,e⟩:=(show ∃t,u=D4 x t from r);cases e;rfl
 |byt b=>obtain⟨t,e⟩:=(show ∃t,u=Value.bytes b t from r);cases e;rfl
 |flt b=>obtain⟨t,e⟩:=(show ∃t,u=Value.float b t from r);cases e;rfl
 |ref a=>cases(show u=Bq a from r);rfl
 |ty n=>cases(show u=Dn n from r);rfl
section
variable{P:Bj}{w:Bu}{H H':Hp}{h h':Heap}{a C dx:Addr}{fs fs':List (Str×V)}
theorem JU(hok:HOk P w H h)(e:H a=ae (.ins C dx fs)):∃mA,ObjM h a dx C mA/\(∀f,RelO (fs.lookup f) (mA f))/\PySem.Within mA (fs.map (·.1))/\fs.length<=1000/\H dx=ae (.own a):=by
 obtain⟨d,z,ne,ob,mA,n,r,q⟩:=(show ObjOk P w H h a (.ins C dx fs)from hok a _ e);exact⟨mA,⟨ob,n,ne⟩,r,q,z,d⟩
end
structure Cls(K:Ag)(C:Addr):Prop where
 pg:PySem.W.plainGet K C Str.empty=ah
 hd:PySem.W.hasDictIn K C=ah
 po:PySem.W.plainOver K C=ah
 sa:Cr K (.ref C) "__setattr__"=ae (ae (.builtin "object.__setattr__"))
theorem Cls.get{K:Ag}{C:Addr}(c:Cls K C)(f:Str):PySem.W.plainGet K C f=ah:=c.pg
section
variable{X:Cx}{pins:List (Addr×Obj)}{σ:St}{H:Hp}{s:Ai}{a C dx:Addr}{fs:List (Str×V)}{f:Str}{v:V}{A:B3}{E:Af->Ai->Prop}
theorem OI{prog:Bj}{w:Bu}{env:Env}{e:Expr}{f:Str}{pos:Pos}{s:Ai}{Q:Af->Ai->Prop}(hb:Em e f env (eval e env)=eval e env)
  (h:Az (Bg prog w) A (eval e env) (λo s₁=>Az (Bg prog w) A (getAttr o f ah) Q E s₁) E s):Az (Bg prog w) A (eval (.Attribute e f pos) env) Q E s:=
 Attribute_any_ h (by rw[arm_eval_Attribute,hb])
end
section
variable{X:Cx}{pins:List (Addr×Obj)}{σ:St}{H:Hp}{s:Ai}{A:B3}{E:Af->Ai->Prop}{Q:Af->Ai->Prop}{c:Af}{b:Bool}
inductive TyOf(K:Ag)(H:Hp):V->Af->Prop where
 |non:TyOf K H .non (.type "NoneType")
 |bl (x:Bool):TyOf K H (.bl x) (.type "bool")
 |int (i:Int):TyOf K H (.int i) (.type "int")
 |str (x:Str):TyOf K H (.str x) (.type "str")
 |flt (x:UInt64):TyOf K H (.flt x) (.type "float")
 |lst {a:Addr} {xs:List V} (e:H a=ae (.lst xs)):TyOf K H (.ref a) (.type "list")
 |frz {a:Addr} {o:Obj} {xs:List V} (e:H a=ae (.frz o (.lst xs))):TyOf K H (.ref a) (.type "list")
 |tup {a:Addr} {xs:List V} (e:H a=ae (.tup xs)):TyOf K H (.ref a) (.type "tuple")
 |dK {a:Addr} {kvs:List (b9×V)} (e:H a=ae (.dK kvs)):TyOf K H (.ref a) (.type "dict")
 |dT {a:Addr} {kvs:List (List b9×V)} (e:H a=ae (.dT kvs)):TyOf K H (.ref a) (.type "dict")
 |ins {a C dx:Addr} {fs:List (Str×V)} (e:H a=ae (.ins C dx fs)) (cl:Cls K C) (ha:Cr K (.ref C) "__class__"=ae (ae (.builtin "object.__class__")))
   (hn:PySem.W.specialIn K (.builtin "object.__class__") "__get__"=ae (ae (.builtin "getset_descriptor.__get__"))) (htk:PySem.W.takesIn K (.builtin "object.__class__")=ae ah)
   (hm:PySem.W.mroIn K C (.type "object")=ae ah):TyOf K H (.ref a) (.ref C)
theorem NZ{x:V}{u t:Af}(I:Inv X pins σ H s)(rx:RelV x u)(ty:TyOf X.K H x t)(e:PySem.W.kitOne X.K t c=ae b)(h:∀tk,Q (.bool b) {s with toks:=tk}):
  Az (Bg X.prog X.w) A (call (.builtin "isinstance") [u,c]) Q E s:=by
 cases ty with
 |non=>cases(show u=Bv from rx);exact Dk PySem.W.kitx_none I.kIn True.intro e (λz=>nomatch z) h
 |bl y=>cases(show u=Value.bool y from rx);exact Dk PySem.W.kitx_bool I.kIn True.intro e (λz=>nomatch z) h
 |int i=>obtain⟨t,q⟩:=(show ∃t,u=Value.int i t from rx);cases q;exact Dk PySem.W.kitx_int I.kIn True.intro e (λz=>nomatch z) h
 |str y=>obtain⟨t,q⟩:=(show ∃t,u=D4 y t from rx);cases q;exact Dk PySem.W.kitx_str I.kIn True.intro e (λz=>nomatch z) h
 |flt y=>obtain⟨t,q⟩:=(show ∃t,u=Value.float y t from rx);cases q;exact Dk PySem.W.kitx_float I.kIn True.intro e (λz=>nomatch z) h
 |@lst a xs ea=>
  cases(show u=Bq a from rx);obtain⟨_,_,n,_,h1⟩:=(show ObjOk X.prog X.w H s.heap a (.lst xs)from I.hok a _ ea);exact Dk PySem.W.kitx_list I.kIn ⟨_,h1,rfl⟩ e (λz=>nomatch z) h
 |@frz a ob xs ea=>
  cases(show u=Bq a from rx);obtain⟨_,_,_,n,_,h1⟩:=(show ObjOk X.prog X.w H s.heap a (.frz ob (.lst xs))from I.hok a _ ea);exact Dk PySem.W.kitx_list I.kIn ⟨_,h1,rfl⟩ e (λz=>nomatch z) h
 |@tup a xs ea=>
  cases(show u=Bq a from rx);obtain⟨_,_,_,p⟩:=(show ObjOk X.prog X.w H s.heap a (.tup xs)from I.hok a _ ea);obtain⟨o,h1,h2,_⟩:=p;exact Dk PySem.W.kitx_tuple I.kIn ⟨o,h1,h2⟩ e (λz=>nomatch z) h
 |@dK a kvs ea=>
  cases(show u=Bq a from rx);obtain⟨_,_,vs,_,p⟩:=(show ObjOk X.prog X.w H s.heap a (.dK kvs)from I.hok a _ ea);obtain⟨o,es,ep,h1,h2,_⟩:=p;exact Dk PySem.W.kitx_dict I.kIn ⟨o,h1,h2.1⟩ e (λz=>nomatch z) h
 |@dT a kvs ea=>
  cases(show u=Bq a from rx);obtain⟨_,_,xs,_,o,es,ep,h1,h2,_⟩:=(show ObjOk X.prog X.w H s.heap a (.dT kvs)from I.hok a _ ea);exact Dk PySem.W.kitx_dict I.kIn ⟨o,h1,h2.1⟩ e (λz=>nomatch z) h
 |@ins a C dx fs ea cl ha hn htk hm=>
  cases(show u=Bq a from rx);obtain⟨mA,O,_⟩:=JU I.hok ea;obtain⟨od,J,_⟩:=O.look;exact Dk (PySem.W.kitx_own (cl.get _) cl.hd ha hn htk hm) I.kIn J e (λz=>nomatch z) h
end
structure Room(k:Nat)(A:B3):Prop where
 hd:A.handled=af
 dp:A.depth+3*k+5 < recursionLimit
 un:A.units+16*k+200 < cLine
 gd:A.guards=ae []
theorem Room.mono{j k:Nat}{A:B3}(r:Room k A)(h:j<=k):Room j A:=⟨r.hd,by have:=r.dp;omega,by have:=r.un;omega,r.gd⟩
theorem Room.deeper{k:Nat}{A:B3}(r:Room (k+1) A)(env:Env):Room k (A.deeper env):=
 ⟨r.hd,by have:=r.dp;show A.depth+1+3*k+5 < _;omega,by have:=r.un;show A.units+3+16*k+200 < _;omega,r.gd⟩
theorem Pj{A:B3}{C:Addr}{us:List Af}{kw:List (Str×Af)}:(A.under (.builtin "type.__call__" ⟨.ref C::us,kw⟩)).depth=A.depth+1:=by
 first|rfl|simp[Around.under,Code.weight,Code.isCreation,Code.isGuard,Code.isCaller,Code.frames,Code.isFrame,guardIds]
theorem NH{A:B3}{C:Addr}{us:List Af}{kw:List (Str×Af)}:(A.under (.builtin "type.__call__" ⟨.ref C::us,kw⟩)).units=A.units+1:=by
 first|rfl|simp[Around.under,Code.cUnits,Code.frames,Code.isFrame]
theorem P1{A:B3}{C:Addr}{us:List Af}{kw:List (Str×Af)}:(A.under (.builtin "type.__call__" ⟨.ref C::us,kw⟩)).guards=A.guards:=by
 first|rfl|simp[Around.under,Code.weight,Code.isCreation,Code.isGuard,Code.isCaller,Code.frames,Code.isFrame,guardIds,Code.guards,pushGuards]
theorem Room.make{k:Nat}{A:B3}(r:Room (k+1) A)(C:Addr)(us:List Af)(kw:List (Str×Af)):Room k (A.under (.builtin "type.__call__" ⟨.ref C::us,kw⟩)):=
 ⟨r.hd,by have:=r.dp;rw[Pj];omega,by have:=r.un;rw[NH];omega,by rw[P1];exact r.gd⟩
theorem Room.depth{k:Nat}{A:B3}(r:Room k A):A.depth < recursionLimit:=by have:=r.dp;omega
theorem Room.units{k:Nat}{A:B3}(r:Room k A):A.units+64 < cLine:=by have:=r.un;omega
theorem Room.units0{k:Nat}{A:B3}(r:Room k A):A.units < cLine:=by have:=r.un;omega
def bG:TA:=λ_ H Q=>Q [] H
def cE(ta:TE)(tr:TA):TA:=λσ H Q=>ta σ H λx H1=>tr σ H1 λxs H2=>Q (x::xs) H2
section
variable{X:Cx}{e:Expr}{es:List Expr}{te:TE}{t:TA}{pos:Pos}
theorem c9:PA X [] bG:=λ_ _ _ _ H Q I h=>Calls.spliced_nil ⟨[],H,I,.nil,h⟩
theorem cy(ha:PE X e te)(hr:PA X es t)(hs:Au (e::es) X.env=(ai,eval e X.env)::Au es X.env:=by rfl):PA X (e::es) (cE te t):=by
 intro pos pins s σ H Q I h;rw[hs];show Az _ _ (spliced ((ai,eval e X.env)::C5 pos (Au es X.env))) _ _ s;refine Calls.spliced_cons (bj (ha pins s σ H _ I h) λu s1 ⟨x,H1,I1,r1,q1⟩=>?_);exact bj (hr pos pins s1 σ H1 _ I1 q1) λus s2 ⟨xs,H2,I2,r2,q2⟩=>⟨x::xs,H2,I2,.cons r1 r2,q2⟩
def nq(t:TA):TE:=λσ H Q=>t σ H λxs H1=>xs.length<=Ao/\∀p,H1 p=af->Q (.ref p) (upd H1 p (.tup xs))
def jH(t:TA):TE:=λσ H Q=>t σ H λxs H1=>xs.length<=Ao/\∀p,H1 p=af->Q (.ref p) (upd H1 p (.lst xs))
theorem zX{x1}(h:PA X es t):PE X (.Tuple es x1 pos) (nq t):=by
 intro pins s σ H Q I hq;refine wpAny_Tuple_spliced (bj (h pos pins s σ H _ I hq) λus s1 ⟨xs,H1,I1,r,z,q⟩=>⟨by rw[<-r.length];exact z,?_⟩);have hf:H1 s1.heap.objs.size=af:=I1.hok.fresh (Av _);refine⟨.ref s1.heap.objs.size,upd H1 s1.heap.objs.size (.tup xs),I1.laid (t':=s1.toks) (λb u e=>Ae _ e) (Av _) ?_,rfl,q _ hf⟩;exact⟨z,us,r,IsTupP.new _ _⟩
theorem kY(h:PA X es t):PE X (.List es pos) (jH t):=by
 intro pins s σ H Q I hq;refine wpAny_List_spliced (bj (h pos pins s σ H _ I hq) λus s1 ⟨xs,H1,I1,r,z,q⟩=>⟨by rw[<-r.length];exact z,?_⟩);have hf:H1 s1.heap.objs.size=af:=I1.hok.fresh (Av _);refine⟨.ref s1.heap.objs.size,upd H1 s1.heap.objs.size (.lst xs),I1.laid (t':=s1.toks) (λb u e=>Ae _ e) (Av _) ?_,rfl,q _ hf⟩;exact⟨z,us,0,r,Ay _ rfl⟩
end
abbrev Sp:=List V->Hp->VK->XK->Prop
abbrev gq:=List Env->Hp->Ai->XK->Af->Ai->Prop
structure Env0(P:Bj)(w:Bu)(K:Ag)(mg:Str->Option Af)(base:Heap)(A:B3)(outer:List Env)(s:Ai)(H:Hp):Prop where
 frames:A.frames=ae outer
 mod:Mod K mg base
 bs:∀b o,base.get? b=ae o->s.heap.get? b=ae o/\H b=af
 bsz:base.objs.size<=s.heap.objs.size
 funs:s.heap.FunFrames base outer
 frf:∀b∈cH outer,H b=af
 hok:HOk P w H s.heap
 bare:AllBare s.gens
def CE(outer:List Env)(P:Bj)(w:Bu)(H:Hp)(s:Ai)(Q:VK)(u:Af)(s':Ai):Prop:=
 ∃v H',s'.os=s.os/\AllBare s'.gens/\Un (cH outer) [] H H' s.heap s'.heap/\HOk P w H' s'.heap/\RelV v u/\Q v H'
def CR(CX:gq)(outer:List Env)(P:Bj)(w:Bu)(H:Hp)(s:Ai)(Q:VK)(E:XK)(r:Result)(s':Ai):Prop:=
 match r with
 |.ok (.ret u)=>CE outer P w H s Q u s'
 |.ok _=>False
 |.error e=>CX outer H s E e s'
structure FnOk(P:Bj)(w:Bu)(K:Ag)(mg:Str->Option Af)(base:Heap)(CX:gq)(k:Nat)(f:Addr)(fd:Cw)(ps:List Str)(sp:Sp):Prop where
 len:∀vs H Q E,sp vs H Q E->vs.length=ps.length
 run:∀(A:B3)(outer:List Env)(s:Ai)(H:Hp)(args:Args)(us:List Af)(vs:List V)(Q:VK)(E:XK),Room k A->Env0 P w K mg base A outer s H->BindsTo s fd args (ps.zip us)->Vals vs us->sp vs H Q E->
  codeAny (Bg P w) A (.call (.ref f) args) (CR CX outer P w H s Q E) s
theorem FnOk.imp{P:Bj}{w:Bu}{K:Ag}{mg:Str->Option Af}{base:Heap}{CX:gq}{k:Nat}{f:Addr}{fd:Cw}{ps:List Str}{sp sp':Sp}(F:FnOk P w K mg base CX k f fd ps sp)
  (h:∀vs H Q E,sp' vs H Q E->sp vs H Q E):FnOk P w K mg base CX k f fd ps sp':=
 ⟨λvs H Q E q=>F.len vs H Q E (h _ _ _ _ q),λA outer s H args us vs Q E hr he hb hv hs=>F.run A outer s H args us vs Q E hr he hb hv (h _ _ _ _ hs)⟩
theorem Env0.make{P:Bj}{w:Bu}{K:Ag}{mg:Str->Option Af}{base:Heap}{A:B3}{outer:List Env}{s:Ai}{H:Hp}(e:Env0 P w K mg base A outer s H)(C:Addr)(us:List Af)(kw:List (Str×Af)):
  Env0 P w K mg base (A.under (.builtin "type.__call__" ⟨.ref C::us,kw⟩)) outer s H:=⟨by first|exact e.frames|(simpa[Around.under,Code.envs,Code.isFrame,pushEnvs]using e.frames),e.mod,e.bs,e.bsz,e.funs,e.frf,e.hok,e.bare⟩
section
variable{X:Cx}{pins:List (Addr×Obj)}{σ:St}{H:Hp}{s s':Ai}
theorem Inv.env0(I:Inv X pins σ H s):Env0 X.prog X.w X.K X.mg X.base X.A X.stack s H:=
 ⟨I.ok.frames,I.ok.mod,I.bs,An I.ok.bsz I.sz,I.stack,I.stkFree,I.hok,I.bare⟩
theorem Inv.after{Q:VK}{u:Af}(I:Inv X pins σ H s)(h:CE X.stack X.prog X.w H s Q u s'):EP X pins σ Q u s':=by
 obtain⟨v,H',os,bare,un,hok,r,q⟩:=h;obtain⟨hh,g,d,t,os'⟩:=s';obtain rfl:os'=s.os:=os;exact⟨v,H',I.call (h':=hh) (g':=g) (d':=d) (t':=t) (ch:=[]) un hok bare (λb z=>absurd z (by simp)),r,q⟩
end
def jr(sp:Sp)(dvs:List V)(E:XK)(t:TA):TE:=λσ H Q=>t σ H λvs H1=>sp (vs++dvs) H1 Q E
def Binds(K:Ag)(fd:Cw)(ps:List Str)(ds:List Af):Prop:=
 ∀(s:Ai)(us:List Af),K.In s.heap->(us++ds).length=ps.length->BindsTo s fd ⟨us,[]⟩ (ps.zip (us++ds))
theorem Binds.all{K:Ag}{fd:Cw}{ps:List Str}(h:∀us:List Af,us.length=ps.length->bindArgs fd ⟨us,[]⟩=pure (ps.zip us)):Binds K fd ps []:=λs us _ hl=>by
 rw[Cc]at hl ⊢;exact .of_eq (h us hl)
def uc(CX:gq)(X:Cx)(E:XK):Prop:=∀(pins:List (Addr×Obj))(σ:St)(H:Hp)(s:Ai)(e:Af)(s':Ai),Inv X pins σ H s->CX X.stack H s E e s'->X.xe e s'
section
variable{X:Cx}{CX:gq}{k:Nat}{f C:Addr}{fd:Cw}{ps:List Str}{sp:Sp}{dvs:List V}{ds:List Af}{E:XK}{x m:Str}{p pos apos:Pos}{e o:Expr}{es:List Expr}{ta:TE}{t:TA}
theorem P4{pins:List (Addr×Obj)}{σ:St}{H:Hp}{s:Ai}{Q:VK}{us:List Af}{vs:List V}(F:FnOk X.prog X.w X.K X.mg X.base CX k f fd ps sp)(hr:Room k X.A)(hb:Binds X.K fd ps ds)(hd:Vals dvs ds)(hx:uc CX X E)
  (I:Inv X pins σ H s) (r:Vals vs us) (h:sp (vs++dvs) H Q E):Az (Bg X.prog X.w) X.A (call (.ref f) us) (EP X pins σ Q) X.xe s:=by
 have r2:Vals (vs++dvs) (us++ds):=r.append hd;have hl:(us++ds).length=ps.length:=by rw[<-r2.length];exact F.len _ _ _ _ h
 refine wpAny_call (Gi (F.run X.A X.stack s H ⟨us,[]⟩ (us++ds) (vs++dvs) Q E hr I.env0 (hb s us I.kIn hl) r2 h) λr s' hq=>?_);cases r with
 |error e=>exact hx pins σ H s e s' I hq
 |ok fl=>
  cases fl with
  |ret u=>exact I.after hq
  |next=>exact False.elim hq
  |brk=>exact False.elim hq
  |cont=>exact False.elim hq
theorem rK(F:FnOk X.prog X.w X.K X.mg X.base CX k f fd ps sp)(hr:Room k X.A)(hg:Gl X x)(hm:X.mg x=ae (.ref f))(hk:Cf X.K (.ref f)=ah)(hb:Binds X.K fd ps ds)(hd:Vals dvs ds)(hx:uc CX X E)
  (ha:PA X (e::es) t) (hdb:(x==("__debug__":Str))=ai:=by decide) (he:Au (e::es) X.env=(ai,eval e X.env)::Au es X.env:=by rfl) (hpl:(C5 pos (Au es X.env)).any (·.1)=ai:=by rfl):
  PE X (.Call (.Name x p) (e::es) [] pos) (jr sp dvs E t):=by
 intro pins s σ H Q I h;refine Gu (ma I hg hm ?_ hdb);refine PySem.W.callWith_K (h₀:=X.base) I.ok.mod.kin hk (bj (ha pos pins s σ H _ I h) λus s1 ⟨vs,H1,I1,r,q⟩=>⟨I1.kIn,?_⟩) he hpl;exact P4 F hr hb hd hx I1 r q
end
structure FnScope(N P:List Str)(sc:Fb):Prop where
 kind:sc.kind=.function
 co:sc.isCoroutine=ai
 gen:sc.isGenerator=ai
 nd:N.Nodup
 pre:N.take P.length=P
 par:∀x∈P,sc.names.lookup x=ae .local\/sc.names.lookup x=ae .cell
 nofree:∀y∈sc.names,y.2≠.free
theorem Hq{kindOf:Str->Option NameKind}{x:Str}:∀{binds:List (Str×Af)}{m:Str->Option Af},(∀v,(x,v)∉binds)->bindL kindOf binds m x=m x
 |[],_,_=>rfl
 | (n,v)::r,m,h=>by
  unfold bindL;rw[Hq λw hw=>h w (Al _ hw)]
  split
  ·have:x≠n:=by rintro rfl;exact h v Am
   simp[this]
  ·rfl
theorem xu{kindOf:Str->Option NameKind}{x:Str}:∀{binds:List (Str×Af)}{m:Str->Option Af},(∀v,(x,v)∉binds)->bindC kindOf binds m x=m x
 |[],_,_=>rfl
 | (n,v)::r,m,h=>by
  unfold bindC;rw[xu λw hw=>h w (Al _ hw)]
  split
  ·rfl
  ·have:x≠n:=by rintro rfl;exact h v Am
   simp[this]
theorem yc{kindOf:Str->Option NameKind}{x:Str}{v:Af}:∀{P:List Str}{vs:List Af}{i:Nat}{m:Str->Option Af},P.Nodup->P[i]?=ae x->vs[i]?=ae v->kindOf x=ae .local->
  bindL kindOf (P.zip vs) m x=ae v
 |[],_,_,_,_,h,_,_=>by simp at h
 |_::_,[],_,_,_,_,h,_=>by simp at h
 |p::P,w::vs,0,m,nd,h1,h2,hk=>by
  simp at h1 h2;subst h1;subst h2;show bindL kindOf ((p,w)::P.zip vs) m p=_;unfold bindL;rw[Hq λv hv=>(Fn.mp nd).1 (List.of_mem_zip hv).1,if_pos hk];simp
 |p::P,w::vs,i+1,m,nd,h1,h2,hk=>by
  show bindL kindOf ((p,w)::P.zip vs) m x=_;unfold bindL;exact yc (i:=i) (Fn.mp nd).2 (by simpa using h1) (by simpa using h2) hk
theorem yo{kindOf:Str->Option NameKind}{x:Str}{v:Af}:∀{P:List Str}{vs:List Af}{i:Nat}{m:Str->Option Af},P.Nodup->P[i]?=ae x->vs[i]?=ae v->kindOf x≠ae .local->
  bindC kindOf (P.zip vs) m x=ae v
 |[],_,_,_,_,h,_,_=>by simp at h
 |_::_,[],_,_,_,_,h,_=>by simp at h
 |p::P,w::vs,0,m,nd,h1,h2,hk=>by
  simp at h1 h2;subst h1;subst h2;show bindC kindOf ((p,w)::P.zip vs) m p=_;unfold bindC;rw[xu λv hv=>(Fn.mp nd).1 (List.of_mem_zip hv).1,if_neg hk];simp
 |p::P,w::vs,i+1,m,nd,h1,h2,hk=>by
  show bindC kindOf ((p,w)::P.zip vs) m x=_;unfold bindC;exact yo (i:=i) (Fn.mp nd).2 (by simpa using h1) (by simpa using h2) hk
def start(N:List Str)(vs:List V):St:=vs.map ae++Ax (N.length-vs.length) af
def b8(CX:gq)(P:Bj)(w:Bu)(K:Ag)(mg:Str->Option Af)(base:Heap)(N:List Str)(qual:Str)(scope:Fb)(f:Addr)(cd:Af)(A:B3)(outer:List Env)(s:Ai)(H:Hp)(E:XK):Cx where
 prog:=P
 w:=w
 K:=K
 mg:=mg
 base:=base
 A:=A.deeper (Dy qual scope s.heap.objs.size f cd)
 N:=N
 s₀:=s
 H₀:=H
 env:=Dy qual scope s.heap.objs.size f cd
 outer:=outer
 stack:=Dy qual scope s.heap.objs.size f cd::outer
 ex:=[]
 calm:=ah
 fn:=λ_=>ah
 pn:=[]
 xe:=λe s'=>Az (Bg P w) (A.deeper (Dy qual scope s.heap.objs.size f cd)) (leaving (Dy qual scope s.heap.objs.size f cd) e) (λ_ s''=>CX outer H s E e s'') (λe' s''=>CX outer H s E e' s'') s'
theorem GD{sc:Fb}{n:Nat}{x:Str}(h:sc.names.lookup x=ae .cell):∃c,(cellsFrom n sc.names []).lookup x=ae c:=by
 have q:=PySem.W.cellsFrom_some sc.names n [] (.inl h);exact Option.isSome_iff_exists.mp q
theorem Iy{CX:gq}{P:Bj}{w:Bu}{K:Ag}{mg:Str->Option Af}{base:Heap}{N ps:List Str}{qual:Str}{scope:Fb}{f:Addr}{cd:Af}{A:B3}{outer:List Env}{s s1:Ai}{H:Hp}{E:XK}{us:List Af}{vs:List V}
  (S:FnScope N ps scope) (hd:A.handled=af) (e0:Env0 P w K mg base A outer s H) (hl:vs.length=ps.length) (r:Vals vs us)
  (x:InCallC s s.heap.objs.size (bindL (Dy qual scope s.heap.objs.size f cd).kindOf (ps.zip us) λ_=>af) (cellsFrom (s.heap.objs.size+1) scope.names []) (bindC (Dy qual scope s.heap.objs.size f cd).kindOf (ps.zip us) λ_=>af) s1):
  Inv (b8 CX P w K mg base N qual scope f cd A outer s H E) [] (start N vs) H s1:=by
 have hpl:ps.length<=N.length:=by have:=congrArg Gn S.pre;rw[List.length_take]at this;omega
 obtain⟨h1,tk,rfl,hk⟩:=x.done;have noA:∀b:Addr,b∉(b8 CX P w K mg base N qual scope f cd A outer s H E).ex:=λb z=>absurd (show b∈([]:List Addr)from z) (by simp);refine⟨⟨e0.mod,S.kind,rfl,rfl,Av _,λy z c h1 h2=>?_,λy hy=>?_,λy c _ h=>?_,λ_=>hd,Around.frames_deeper e0.frames,.inr ⟨rfl,rfl⟩,λb z=>absurd z (noA b),e0.bs,e0.bsz,λb _ _=>noA b,λb z=>absurd z (noA b),e0.funs,e0.frf⟩,
  rfl,e0.bare,Un.kept hk,⟨_,x.toInCall.ns,λi y v h1 h2 h3=>?_⟩,λy c h=>⟨_,x.cell y c h⟩,e0.hok.fresh (Av _),λy c h=>?_,λp hp=>absurd (show p∈([]:List (Addr×Obj))from hp) (by simp),e0.hok.kept hk,?_⟩
 ·exact name_of_addr x.apart (F4 h1) (F4 h2)
 ·have hy:scope.names.lookup y=ae .cell\/scope.names.lookup y=ae .free:=hy;rcases hy with hy|hy
  ·exact GD hy
  ·exact absurd rfl (S.nofree _ (F4 hy))
 ·exact F6 (x.above y c (F4 h))
 ·have hi:i < vs.length:=by
   unfold start at h2;by_cases hi:i < vs.length
   ·exact hi
   ·rw[List.getElem?_append_right (by simpa using hi)]at h2;rw[D7]at h2
    split at h2<;>cases h2
  have ha:vs[i]?=ae v:=by
   unfold start at h2;rw[List.getElem?_append_left (by simpa using hi),Be]at h2;cases e:vs[i]? with
   |none=>rw[e]at h2;cases h2
   |some a=>rw[e]at h2;cases h2;rfl
  obtain⟨u,hu,rv⟩:=r.get ha;have hp:ps[i]?=ae y:=by
   rw[<-S.pre,List.getElem?_take_of_lt ⋯];exact h1
  have ndP:ps.Nodup:=by rw[<-S.pre];exact S.nd.sublist (List.take_sublist _ _)
  refine⟨u,rv,?_⟩;rcases S.par y (Et hp)with k|k
  ·exact .inl ⟨k,yc ndP hp hu k⟩
  ·obtain⟨c,e⟩:=GD (n:=s.heap.objs.size+1) k;refine .inr ⟨.inl k,c,e,?_⟩;have q:=x.cell y c e;rw[yo ndP hp hu (by show scope.names.lookup y≠_;rw[k];decide)]at q;exact q
 ·exact e0.hok.fresh (F6 (x.above y c (F4 h)))
 ·unfold start;show _=N.length;rw[A0,Ap,Ft];omega
theorem tU{CX:gq}{P:Bj}{w:Bu}{K:Ag}{mg:Str->Option Af}{base:Heap}{k:Nat}{f:Addr}{name qual:Str}{params:Arguments}{body:List Stmt}{scope:Fb}{dV kV doc pm cdv ct oc:Af}{an od:Option Addr}
  {osl:Array (Option Af)} {N ps:List Str} {sp:Sp} (lk:K.lookup f=ae ⟨oc,od,.func (Eb name qual params body scope dV kV doc pm an cdv ct),osl⟩) (hcd:Gj K cdv qual=ah) (S:FnScope N ps scope)
  (len:∀vs H Q E,sp vs H Q E->vs.length=ps.length)
  (hbody:∀(A:B3)(outer:List Env)(s:Ai)(H:Hp)(vs:List V)(Q:VK)(E:XK),Room k (A.deeper (Dy qual scope s.heap.objs.size f cdv))->sp vs H Q E->
   ∃t,PSs (b8 CX P w K mg base N qual scope f cdv A outer s H E) body t/\t {nx:=λ_ H'=>Q .non H',rt:=Q} (start N vs) H):
  FnOk P w K mg base CX (k+1) f (Eb name qual params body scope dV kV doc pm an cdv ct) ps sp:=by
 refine⟨len,λA outer s H args us vs Q E hr e0 hb r hsp=>?_⟩;have hl:=len _ _ _ _ hsp;have KX:K.In s.heap:=e0.mod.kin.keeps λb o e=>(e0.bs b o e).1;have lim:s.heap.NoLimit:=e0.mod.nolimit.keeps λb o e=>(e0.bs b o e).1;have hkind:∀y∈ps.zip us,scope.names.lookup y.1=ae .local\/(scope.names.lookup y.1=ae .cell/\((cellsFrom (s.heap.objs.size+1) scope.names []).lookup y.1).isSome=ah):=λ⟨n,v⟩ hy=>by
  rcases S.par n (List.of_mem_zip hy).1 with q|q
  ·exact .inl q
  ·exact .inr ⟨q,PySem.W.cellsFrom_some _ _ _ (.inl q)⟩
 refine codeAny_call_function hr.depth (KX _ _ lk) rfl S.co S.gen rfl (PySem.W.codeRec_of KX hcd) (hb _ _ _ _ ?_);refine wpAny_newFunctionEnv_cells S.kind hkind λenv he s1 x=>?_;subst he;refine⟨lim.keeps x.toInCall.keep,codeAny_func ?_⟩;obtain⟨t,ht,hq⟩:=hbody A outer s H vs Q E (hr.deeper _) hsp;have I:Inv (b8 CX P w K mg base N qual scope f cdv A outer s H E) [] (start N vs) H s1:=Iy S hr.hd e0 hl r x;refine Cq (ht [] s1 (start N vs) H _ I hq) (λfl s' hs=>?_) λe s' hs=>hs;have fin:∀{σ':St}{H':Hp}{v:V}{u:Af},Inv (b8 CX P w K mg base N qual scope f cdv A outer s H E) [] σ' H' s'->RelV v u->Q v H'->CE outer P w H s Q u s':=
  λ{σ' H' v u} J rv q=>⟨v,H',J.os,J.bare,J.base,J.hok,rv,q⟩
 cases fl with
 |ret u=>
  obtain⟨v,σ',H',J,rv,q⟩:=hs;exact fin J rv q
 |next=>
  obtain⟨σ',H',J,q⟩:=hs;exact fin (v:=V.non) (u:=Bv) J rfl q
 |brk=>
  obtain⟨_,_,_,q⟩:=hs;exact False.elim q
 |cont=>
  obtain⟨_,_,_,q⟩:=hs;exact False.elim q
section
variable{X:Cx}{x:Str}{p pos:Pos}{e:Expr}{es:List Expr}{t:TA}{id T:String}{r:List V->Hp->VK->Prop}
def iS(r:List V->Hp->VK->Prop)(t:TA):TE:=λσ H Q=>t σ H λvs H1=>r vs H1 Q
theorem l6(hc:CallR X (.builtin id) r)(hg:Gl X x)(hm:X.mg x=af)(hv:B9 x=ae (.builtin id))(ha:PA X (e::es) t)(hn:x≠"__name__":=by decide)(hdb:(x==("__debug__":Str))=ai:=by decide)
  (he:Au (e::es) X.env=(ai,eval e X.env)::Au es X.env:=by rfl) (hpl:(C5 pos (Au es X.env)).any (·.1)=ai:=by rfl):PE X (.Call (.Name x p) (e::es) [] pos) (iS r t):=by
 intro pins s σ H Q I h;refine Gu (lM I hg hm hv ?_ hn hdb);exact PyProof.Rows.callWith_builtin1 (bj (ha pos pins s σ H _ I h) λus s1 ⟨vs,H1,I1,r1,q1⟩=>hc pins s1 σ H1 vs us Q I1 r1 q1) he hpl
theorem wQ(hc:CallR X (.type T) r)(hg:Gl X x)(hm:X.mg x=af)(hv:B9 x=ae (.type T))(ha:PA X (e::es) t)(hn:x≠"__name__":=by decide)(hdb:(x==("__debug__":Str))=ai:=by decide)
  (he:Au (e::es) X.env=(ai,eval e X.env)::Au es X.env:=by rfl) (hpl:(C5 pos (Au es X.env)).any (·.1)=ai:=by rfl):PE X (.Call (.Name x p) (e::es) [] pos) (iS r t):=by
 intro pins s σ H Q I h;refine Gu (lM I hg hm hv ?_ hn hdb);exact D1 (bj (ha pos pins s σ H _ I h) λus s1 ⟨vs,H1,I1,r1,q1⟩=>hc pins s1 σ H1 vs us Q I1 r1 q1) he hpl
end
end L2
namespace HT
open PySem PyProof.Rows
section
variable{prog:Bj}{w:Bu}{A:B3}{E:Af->Ai->Prop}{s:Ai}
theorem cat_tup{t b:Addr}{vs ws:List Af}{Q:Af->Ai->Prop}(ht:IsTup s.heap t vs.toArray)(hb:IsTup s.heap b ws.toArray)(hv:vs≠[])
  (h1:ws=[]->Q (.ref t) s) (h2:ws≠[]->Q (.ref s.heap.objs.size) {s with heap:=s.heap.push {cls:=.type "tuple",data:=.seq (vs++ws).toArray}})
  (hsz:vs.length+ws.length<=Ao):Az (Bg prog w) A (E5 .Add (.ref t) (.ref b)) Q E s:=by
 obtain⟨⟨cls,dd,data,sl⟩,ho,hc,n,hd⟩:=id ht;obtain⟨⟨cls2,dd2,data2,sl2⟩,ho2,hc2,n2,hd2⟩:=id hb;simp only at hc hd hc2 hd2;subst hc hd hc2 hd2;have e:vs.toArray++ws.toArray=(vs++ws).toArray:=by simp
 by_cases hw:ws=[]
 ·exact concat_meets ⟨_,ho,rfl⟩ ⟨_,ho2,rfl⟩ noFill_tuple_add seq_tuple_add Gk Gf (F5 _ _)
   (tuple_addW1 t b vs.toArray ws.toArray n n2 dd dd2 sl sl2 (by simpa using hv) (by simp[hw])) ⟨ho,ho2,h1 hw⟩
 ·refine concat_meets ⟨_,ho,rfl⟩ ⟨_,ho2,rfl⟩ noFill_tuple_add seq_tuple_add Gk Gf (F5 _ _)
   (tuple_addW2 t b vs.toArray ws.toArray n n2 dd dd2 sl sl2 (by simpa using hv) (by simpa using hw) (by rw[Aw,Aw];exact hsz)) ⟨ho,ho2,?_⟩
  rw[e];exact h2 hw
def sIx(n d:Nat):Option Int->Nat
 |none=>d
 |some v=>if v < 0 then(v+(n:Int)).toNat else min v.toNat n
theorem sIx_nat(n d k:Nat):sIx n d (ae (k:Int))=min k n:=by
 show(if (k:Int) < 0 then((k:Int)+(n:Int)).toNat else min (k:Int).toNat n)=min k n;rw[if_neg ⋯,Ck]
theorem Ms(n d:Nat)(hd:d<=n)(o:Option Int):sIx n d o<=n:=by
 cases o with
 |none=>exact hd
 |some v=>
  show(if v < 0 then(v+(n:Int)).toNat else min v.toNat n)<=n;by_cases hv:v < 0
  ·rw[if_pos hv];omega
  ·rw[if_neg hv];exact Nat.min_le_right _ _
theorem yK(v:Int)(n d:Nat):(if v < 0 then max (v+(n:Int)) 0 else min v (n:Int))=((sIx n d (ae v):Nat):Int):=by
 show(if v < 0 then max (v+(n:Int)) 0 else min v (n:Int))=(((if v < 0 then(v+(n:Int)).toNat else min v.toNat n):Nat):Int);by_cases hv:v < 0
 ·simp only[if_pos hv];omega
 ·simp only[if_neg hv];omega
theorem Jo(lo hi:Option Int)(n:Nat):G5 lo hi 1 (n:Int)=(((sIx n 0 lo:Nat):Int),((sIx n n hi:Nat):Int)):=by
 have h1:¬((1:Int) < 0):=by omega
 unfold G5;simp only[h1,if_false];refine Prod.ext ?_ ?_
 ·cases lo with
  |none=>rfl
  |some v=>exact yK v n 0
 ·cases hi with
  |none=>rfl
  |some v=>exact yK v n n
theorem MX(i j:Nat):Fp (i:Int) (j:Int) 1=j-i:=by
 unfold Fp;have h1:(1:Int) > 0:=by omega
 simp only[h1,if_true,Int.ediv_one]
 split<;>omega
theorem zO{v:Af}{o:Option Int}{Q:Option Int->Ai->Prop}(p:IsPart v o)(h:Q o s):Az (Bg prog w) A (Builtin.Slice.slicePartIndex v) Q E s:=by
 cases p with
 |none=>exact slicePart_none h
 |int i t=>exact slicePart_int h
theorem yF{sl:Addr}{vl vu:Af}{lo hi:Option Int}{n:Nat}{Q:Int×Int×Nat->Ai->Prop}(hs:s.heap.IsSliceOf sl vl vu .none)(pl:IsPart vl lo)(pu:IsPart vu hi)
  (h:Q (((sIx n 0 lo:Nat):Int),1,sIx n n hi-sIx n 0 lo) s):Az (Bg prog w) A (Builtin.Slice.sliceApplied (.ref sl) (pure (n:Int))) Q E s:=by
 obtain⟨os,hos,hcs,hds⟩:=id hs;unfold Builtin.Slice.sliceApplied Builtin.Slice.sliceFields;refine Ad (Ad (C4 hos hds (x:=vl) rfl (Ad (C4 hos hds (x:=vu) rfl (Ad (C4 hos hds (x:=.none) rfl (Aj ?_)))))));refine Ad (slicePart_none ?_);show Az _ _ (if ((1:Int)==0)=ah then _ else _) _ _ s;rw[if_neg ∎];refine Ad (zO pl (Ad (zO pu (Ad (Aj ?_)))));show Az _ _ (match G5 lo hi 1 (n:Int)with|(lo,hi)=>pure (lo,(1:Int),Fp lo hi 1)) _ _ s;rw[Jo lo hi n];show Az _ _ (pure (((sIx n 0 lo:Nat):Int),(1:Int),Fp ((sIx n 0 lo:Nat):Int) ((sIx n n hi:Nat):Int) 1)) _ _ s;rw[MX];exact Aj h
theorem NW(xs:Array Af)(i k:Nat):((Cs k).filterMap λ(m:Nat)=>xs[((i:Int)+(m:Int)*1).toNat]?).toArray=((xs.toList.drop i).take k).toArray:=by
 have e:(λ(m:Nat)=>xs[((i:Int)+(m:Int)*1).toNat]?)=λm=>xs[i+m]?:=by
  funext m
  have:((i:Int)+(m:Int)*1).toNat=i+m:=by omega
  rw[this]
 rw[e];have:=pick_run xs i k;rw[List.filterMap_map]at this;have e2:((λx=>xs[x]?) ∘ λx=>i+x)=λm=>xs[i+m]?:=rfl;rw[e2]at this;rw[this]
theorem getItem_tuple_cut{t sl:Addr}{items:Array Af}{vl vu:Af}{lo hi:Option Int}{Q:Af->Ai->Prop}(ht:IsTup s.heap t items)(hs:s.heap.IsSliceOf sl vl vu .none)(pl:IsPart vl lo)(pu:IsPart vu hi)
  (hw:¬(sIx items.size 0 lo=0/\sIx items.size items.size hi=items.size))
  (h:Q (.ref s.heap.objs.size) {s with heap:=s.heap.push {cls:=.type "tuple",data:=.seq ((items.toList.drop (sIx items.size 0 lo)).take (sIx items.size items.size hi-sIx items.size 0 lo)).toArray}})
  (hsz:items.size<=Ao):Az (Bg prog w) A (getItem (.ref t) (.ref sl)) Q E s:=by
 have htake:sizeOk (.seq ((items.toList.drop (sIx items.size 0 lo)).take (sIx items.size items.size hi-sIx items.size 0 lo)).toArray):=by
  show((items.toList.drop (sIx items.size 0 lo)).take (sIx items.size items.size hi-sIx items.size 0 lo)).toArray.size<=Ao;rw[Aw,List.length_take,List.length_drop,C2];omega
 have hj:sIx items.size items.size hi<=items.size:=Ms _ _ (Av _) hi;obtain⟨os,hos,hcs,hds⟩:=id hs;have hTs:s.TypeIs (.ref sl) "slice":=⟨os,hos,hcs⟩;unfold getItem
 try with_reducible refine Dd ?_
 first|refine Ad (Aj ?_)|skip
 refine Ad (wpAny_sequenceKey ht.typeIs ∎ ?_);refine Ad (B4 (name:=B7 "__getitem__") ht.typeIs Ej
  (Co Ej ht.typeIs entry_tuple_getitem ?_ (args_tuple_getitem _ _)))
 show Az _ _ (Gw (.ref t)>>=_) _ _ s;refine Ad (tupleItemsOf_ ht ?_);refine Ad (Gz hTs ?_);rw[if_pos ∎];refine Ad (yF hs pl pu ?_);have hno:¬((((sIx items.size 0 lo:Nat):Int)==0&&(1:Int)==1&&(sIx items.size items.size hi-sIx items.size 0 lo)==items.size)=ah):=by
  intro q;rw[Cy,Cy]at q;have q1:((sIx items.size 0 lo:Nat):Int)=0:=eq_of_beq q.1.1;have q2:sIx items.size items.size hi-sIx items.size 0 lo=items.size:=eq_of_beq q.2;exact hw ⟨by omega,by omega⟩
 show Az _ _ (if (((sIx items.size 0 lo:Nat):Int)==0&&(1:Int)==1&&(sIx items.size items.size hi-sIx items.size 0 lo)==items.size)=ah then _ else _) _ _ s;rw[if_neg hno,NW]
 first
  |exact Ad (m:=Fv _) (Ce (Aj ⟨_,rfl,Aj h⟩) htake)
  |exact Ad (m:=Fv _) (Ce (Ad (Aj (Aj ⟨_,rfl,Aj h⟩))) htake)
  |exact Ad (Ad (m:=Fv _) (Ce (Aj (Aj ⟨_,rfl,Aj h⟩)) htake))
  |exact Ad (Ad (m:=Fv _) (Ce (Aj ⟨_,rfl,Aj h⟩) htake))
end
end HT
namespace L2
open PySem PySem.Spec PyProof.Rows
abbrev TO:=St->Hp->(Option Int->Hp->Prop)->Prop
def PO(X:Cx)(e:Option Expr)(t:TO):Prop:=
 ∀(pins:List (Addr×Obj))(s:Ai)(σ:St)(H:Hp)(Q:Option Int->Hp->Prop),Inv X pins σ H s->t σ H Q->
  Az (Bg X.prog X.w) X.A (evalPart e X.env) (λu s'=>∃o H',Inv X pins σ H' s'/\IsPart u o/\Q o H') X.xe s
def wJ:TO:=λ_ H Q=>Q af H
def uw(t:TE):TO:=λσ H Q=>t σ H λx H1=>∃i,x=.int i/\Q (ae i) H1
section
variable{X:Cx}{e:Expr}{te:TE}{lo hi:Option Expr}{tl th:TO}{pos p2:Pos}
theorem uM:PO X af wJ:=by
 intro pins s σ H Q I h;rw[evalPart_none];exact Aj ⟨af,H,I,.none,h⟩
theorem uZ(h:PE X e te):PO X (ae e) (uw te):=by
 intro pins s σ H Q I hw;rw[evalPart_some];refine bj (h pins s σ H _ I hw) λu s1 ⟨x,H1,I1,r1,q1⟩=>?_;obtain⟨i,rfl,q⟩:=q1;obtain⟨t,rfl⟩:=r1;exact⟨ae i,H1,I1,.int i t,q⟩
def SlR(X:Cx)(r:V->Option Int->Option Int->Hp->VK->Prop):Prop:=
 ∀(pins:List (Addr×Obj))(s:Ai)(σ:St)(H:Hp)(x:V)(v vl vu:Af)(lo hi:Option Int)(sl:Addr)(Q:VK),Inv X pins σ H s->RelV x v->s.heap.IsSliceOf sl vl vu .none->IsPart vl lo->IsPart vu hi->r x lo hi H Q->
  ∃T id,typeLookup (.type T) "__getitem__"=pure (ae (.builtin id))/\s.TypeIs v T/\Az (Bg X.prog X.w) X.A (getItem v (.ref sl)) (EP X pins σ Q) X.xe s
theorem SlR.or{r r':V->Option Int->Option Int->Hp->VK->Prop}(h:SlR X r)(h':SlR X r'):SlR X (λx lo hi H Q=>r x lo hi H Q\/r' x lo hi H Q):=by
 intro pins s σ H x v vl vu lo hi sl Q I rx hs pl pu q;rcases q with q|q
 ·exact h pins s σ H x v vl vu lo hi sl Q I rx hs pl pu q
 ·exact h' pins s σ H x v vl vu lo hi sl Q I rx hs pl pu q
def pC(r:V->Option Int->Option Int->Hp->VK->Prop)(te:TE)(tl th:TO):TE:=λσ H Q=>te σ H λx H1=>tl σ H1 λl H2=>th σ H2 λu H3=>r x l u H3 Q
theorem qf{r:V->Option Int->Option Int->Hp->VK->Prop}(hr:SlR X r)(he:PE X e te)(hl:PO X lo tl)(hu:PO X hi th):PE X (.Subscript e (.Slice lo hi af p2) pos) (pC r te tl th):=by
 intro pins s σ H Q I h;refine Subscript_ (bj (he pins s σ H _ I h) λv s1 ⟨x,H1,I1,r1,q1⟩=>?_);refine wpAny_Slice (bj (hl pins s1 σ H1 _ I1 q1) λvl s2 ⟨l,H2,I2,pl,q2⟩=>bj (hu pins s2 σ H2 _ I2 q2) λvu s3 ⟨u,H3,I3,pu,q3⟩=>?_);rw[evalPart_none];refine Aj ?_;have I4:Inv X pins σ H3 {s3 with heap:=s3.heap.push {cls:=.type "slice",data:=.fields #[vl,vu,.none]}}:=I3.kept (t':=s3.toks) λb ob q=>Ae _ q;obtain⟨T,id,hT,ht,hg⟩:=hr pins {s3 with heap:=s3.heap.push {cls:=.type "slice",data:=.fields #[vl,vu,.none]}} σ H3 x v vl vu l u s3.heap.objs.size Q I4 r1 (Heap.IsSliceOf.new ..) pl pu q3;show Az (Bg X.prog X.w) X.A (subscriptTail e (.Slice lo hi af p2) v (.ref s3.heap.objs.size)) (EP X pins σ Q) X.xe {s3 with heap:=s3.heap.push {cls:=.type "slice",data:=.fields #[vl,vu,.none]}};exact tail_any (ops:=[.ref s3.heap.objs.size,v]) ht hT hg (by with_unfolding_all rfl)
def eY(xs:List V)(lo hi:Option Int):List V:=(xs.drop (HT.sIx xs.length 0 lo)).take (HT.sIx xs.length xs.length hi-HT.sIx xs.length 0 lo)
theorem qg(xs:List V)(lo hi:Option Int):(eY xs lo hi).length<=xs.length:=by
 unfold eY;rw[List.length_take,List.length_drop];omega
def nG(K:Ag):V->Option Int->Option Int->Hp->VK->Prop:=λx lo hi H Q=>∃a xs,x=.ref a/\SqT K H a xs /\
 ¬(HT.sIx xs.length 0 lo=0/\HT.sIx xs.length xs.length hi=xs.length)/\∀p,H p=af->Q (.ref p) (upd H p (.tup (eY xs lo hi)))
theorem sl_tup:SlR X (nG X.K):=by
 intro pins s σ H x v vl vu lo hi sl Q I rx hs pl pu h;obtain⟨a,xs,rfl,hx,hw,q⟩:=h;cases rx;obtain⟨its,r,ht,hz⟩:=I.tuple hx;have hlen:its.toArray.size=xs.length:=by rw[Aw];exact r.length.symm
 refine⟨"tuple",_,PyProof.Rows.slot_tuple_getitem.lookup,ht.typeIs,?_⟩;refine HT.getItem_tuple_cut ht hs pl pu (by rw[hlen];exact hw) ?_ (by rw[hlen];exact hz);rw[hlen];refine⟨.ref s.heap.objs.size,_,I.laid (t':=s.toks) (o:=.tup (eY xs lo hi)) (λb ob q=>Ae _ q) (Av _) ?_,rfl,q _ (I.hok.fresh (Av _))⟩;exact⟨An (qg xs lo hi) hz,_,(r.drop (HT.sIx xs.length 0 lo)).take (HT.sIx xs.length xs.length hi-HT.sIx xs.length 0 lo),IsTupP.new _ _⟩
def yM(K:Ag):R2:=λx y H Q=>∃a b xs ys,x=.ref a/\y=.ref b/\SqT K H a xs/\SqT K H b ys/\xs≠[]/\xs.length+ys.length<=Ao /\
 (ys=[]->Q (.ref a) H)/\(ys≠[]->∀p,H p=af->Q (.ref p) (upd H p (.tup (xs++ys))))
theorem Vals.nil_iff{xs:List V}{us:List Af}(r:Vals xs us):us=[]↔xs=[]:=by
 cases r with
 |nil=>simp
 |cons _ _=>simp
theorem op_catT:OpR X (E5 .Add) (yM X.K):=by
 intro pins s σ H x y v u Q I rx ry h;obtain⟨a,b,xs,ys,rfl,rfl,ha,hb,hx,hz,q1,q2⟩:=h;cases rx;cases ry;obtain⟨its,r1,p1,_⟩:=I.tuple ha;obtain⟨its2,r2,p2,_⟩:=I.tuple hb;refine HT.cat_tup p1 p2 (λz=>hx (r1.nil_iff.mp z)) (λz=>⟨.ref a,H,I,rfl,q1 (r2.nil_iff.mp z)⟩) (λz=>?_) (by rw[<-r1.length,<-r2.length];exact hz);refine⟨.ref s.heap.objs.size,_,I.laid (t':=s.toks) (o:=.tup (xs++ys)) (λb ob q=>Ae _ q) (Av _) ?_,rfl,q2 (λw=>z (r2.nil_iff.mpr w)) _ (I.hok.fresh (Av _))⟩;exact⟨by rw[A0];exact hz,_,r1.append r2,IsTupP.new _ _⟩
end
def jJ(n:Nat)(i:Int):Option Nat:=if 0<=i then(if i < n then ae i.toNat else af)else if -(n:Int)<=i then ae (i+n).toNat else af
def dB{α:Type}(xs:List α)(i:Int):Option α:=(jJ xs.length i).bind λj=>xs[j]?
theorem xi{n:Nat}{i:Int}{j:Nat}(h:jJ n i=ae j):seqIndex? i n=ae j/\j < n/\-(n:Int)<=i/\i < n:=by
 unfold jJ at h;by_cases h0:0<=i
 ·rw[if_pos h0]at h;by_cases h1:i < n
  ·rw[if_pos h1]at h;have e:i.toNat=j:=Bp h;exact⟨by rw[seqIndex_of h0 h1,e],by omega,by omega,h1⟩
  ·rw[if_neg h1]at h;cases h
 ·rw[if_neg h0]at h;by_cases h1:-(n:Int)<=i
  ·rw[if_pos h1]at h;have e:(i+n).toNat=j:=Bp h;exact⟨by rw[seqIndex_neg ⋯ h1,e],by omega,h1,by omega⟩
  ·rw[if_neg h1]at h;cases h
theorem um{α:Type}{xs:List α}{i:Int}{v:α}(h:dB xs i=ae v):∃j,seqIndex? i xs.length=ae j/\xs[j]?=ae v/\j < xs.length/\-(xs.length:Int)<=i/\i < xs.length:=by
 unfold dB at h;cases e:jJ xs.length i with
 |none=>rw[e]at h;cases h
 |some j=>
  rw[e]at h;obtain⟨h1,h2,h3,h4⟩:=xi e;exact⟨j,h1,h,h2,h3,h4⟩
theorem gh{α:Type}{xs:List α}{j:Nat}{v:α}(h:xs[j]?=ae v):dB xs (j:Int)=ae v:=by
 have hj:j < xs.length:=(Bs.mp h).1;have e:jJ xs.length (j:Int)=ae j:=by
  unfold jJ;rw[if_pos ⋯,if_pos ⋯];simp
 unfold dB;rw[e];exact h
def nK(b:Expr):Prop:=∀o i,subscripted b ai o i=operate [o,i] (getItem o i)
def IxR(X:Cx)(r:R2):Prop:=
 ∀(value slice:Expr)(pins:List (Addr×Obj))(s:Ai)(σ:St)(H:Hp)(x y:V)(v u:Af)(Q:VK),Inv X pins σ H s->RelV x v->RelV y u->r x y H Q->
  subscripted slice ai v u=operate [v,u] (getItem v u)->Az (Bg X.prog X.w) X.A (subscriptTail value slice v u) (EP X pins σ Q) X.xe s
def pL(X:Cx)(id:String)(r:V->List V->Hp->VK->Prop):Prop:=
 ∀(pins:List (Addr×Obj))(s:Ai)(σ:St)(H:Hp)(x:V)(xs:List V)(v:Af)(us:List Af)(Q:VK),Inv X pins σ H s->RelV x v->Vals xs us->r x xs H Q->
  Az (Bg X.prog X.w) X.A (call (.builtin id) (v::us)) (EP X pins σ Q) X.xe s
section
variable{X:Cx}{a b:Expr}{ta tb:TE}{pos:Pos}
theorem IxR.or{r r':R2}(h:IxR X r)(h':IxR X r'):IxR X (λx y H Q=>r x y H Q\/r' x y H Q):=by
 intro value slice pins s σ H x y v u Q I rx ry q hs;rcases q with q|q
 ·exact h value slice pins s σ H x y v u Q I rx ry q hs
 ·exact h' value slice pins s σ H x y v u Q I rx ry q hs
theorem gf{r:R2}(hr:IxR X r)(ha:PE X a ta)(hb:PE X b tb)(hs:nK b):PE X (.Subscript a b pos) (eJ r ta tb):=by
 intro pins s σ H Q I h;exact Subscript_ (k7 ha hb I h λv u s2 x y H2 I2 rx ry q=>hr a b pins s2 σ H2 x y v u Q I2 rx ry q (hs _ _))
def nU(K:Ag):R2:=λx y H Q=>∃p xs i v,x=.ref p/\y=.int i/\SqL K H p xs/\dB xs i=ae v/\Q v H
def m4(K:Ag):R2:=λx y H Q=>∃p xs i v,x=.ref p/\y=.int i/\SqT K H p xs/\dB xs i=ae v/\Q v H
def m3:R2:=λx y H Q=>∃z i c,x=.str z/\y=.int i/\z.length<=Ao/\dB z.cps.toList i=ae c/\Q (.str ⟨#[c]⟩) H
theorem ix_list:IxR X (nU X.K):=by
 intro value slice pins s σ H x y v u Q I rx ry h hs;obtain⟨p,xs,i,z,rfl,rfl,hq,he,q⟩:=h;cases rx;obtain⟨t,rfl⟩:=ry;obtain⟨its,r,pl,hz⟩:=I.list hq;obtain⟨j,h1,h2,h3,h4,h5⟩:=um he;obtain⟨w,ew,rw'⟩:=r.get h2;have hl:=r.length;have hn:=md;have fin:EP X pins σ Q w s:=⟨z,H,I,rw',q⟩;by_cases h0:0<=i
 ·have hj:i.toNat=j:=by
   rw[seqIndex_of h0 h5]at h1;exact Bp h1
  exact item_listR pl.isList h0 ⋯ (by rw[hj];simpa using ew) fin hs
 ·have hj:(i+(its.toArray.size:Int)).toNat=j:=by
   rw[seqIndex_neg ⋯ h4]at h1;rw[Aw,<-hl];exact Bp h1
  exact subscriptTail_builtinR (x:=w) pl.isList.typeIs slot_list_getitem.lookup
   (wpAny_getItem_list_neg (Q:=λr s'=>r=w/\EP X pins σ Q r s') pl.isList ⋯ (by rw[Aw]<;>omega) ⋯ (by rw[hj];simpa using ew) ⟨rfl,fin⟩) hs
theorem ix_tup:IxR X (m4 X.K):=by
 intro value slice pins s σ H x y v u Q I rx ry h hs;obtain⟨p,xs,i,z,rfl,rfl,hq,he,q⟩:=h;cases rx;obtain⟨t,rfl⟩:=ry;obtain⟨its,r,pl,hz⟩:=I.tuple hq;obtain⟨j,h1,h2,h3,h4,h5⟩:=um he;obtain⟨w,ew,rw'⟩:=r.get h2;have hl:=r.length;have hn:=md;have fin:EP X pins σ Q w s:=⟨z,H,I,rw',q⟩;exact subscriptTail_builtinR (x:=w) pl.typeIs slot_tuple_getitem.lookup
  (getItem_tuple (j:=j) (Q:=λr s'=>r=w/\EP X pins σ Q r s') pl ⋯ ⋯ (by rw[Aw,<-hl];exact h1) (by simpa using ew) ⟨rfl,fin⟩) hs
theorem Jj:IxR X m3:=by
 intro value slice pins s σ H x y v u Q I rx ry h hs;obtain⟨z,i,c,rfl,rfl,hz,he,q⟩:=h;obtain⟨t,rfl⟩:=rx;obtain⟨t',rfl⟩:=ry;obtain⟨j,h1,h2,h3,h4,h5⟩:=um he;have hl:z.cps.toList.length=z.length:=by simp[Str.length]
 rw[hl]at h1 h4 h5;have hn:=md;exact tail_any (typeIs_str s z t) slot_str_getitem.lookup (getItem_str (c:=c) (by
  have e1:decide (i < -(2 ^ 63:Int))=ai:=decide_eq_false ⋯;have e2:decide (i ≥ 2 ^ 63)=ai:=decide_eq_false ⋯;rw[e1,e2,Bool.or_false]) (by rw[h1];simpa using h2) ⟨.str ⟨#[c]⟩,H,I.tok _,⟨_,rfl⟩,q⟩) hs
def kM(K:Ag):R2:=λx y H Q=>nU K x y H Q\/m4 K x y H Q\/m3 x y H Q
theorem mQ:IxR X (kM X.K):=ix_list.or (ix_tup.or Jj)
theorem Qr(its:List Af)(n j:Nat)(u:Af):Da (·.setIfInBounds j u) {cls:=.type "list",data:=.seq its.toArray n}={ cls:=.type "list",data:=.seq (its.set j u).toArray n}:=by
 simp[Da]
theorem Inv.lst{pins:List (Addr×Obj)}{σ:St}{H:Hp}{s:Ai}{p:Addr}{xs:List V}(I:Inv X pins σ H s)(h:H p=ae (.lst xs)):
  ∃(its:List Af)(n:Nat),Vals xs its/\s.heap.get? p=ae {cls:=.type "list",data:=.seq its.toArray n}/\xs.length<=Ao:=by
 obtain⟨z,its,n,r,e⟩:=I.hok p _ h;exact⟨its,n,r,e,z⟩
theorem Inv.lstUpd{pins:List (Addr×Obj)}{σ:St}{H:Hp}{s:Ai}{p:Addr}{xs ys:List V}{its its':List Af}{n n':Nat}{f:Obj->Obj}(I:Inv X pins σ H s)(h:H p=ae (.lst xs))
  (ho:s.heap.get? p=ae {cls:=.type "list",data:=.seq its.toArray n}) (hf:f {cls:=.type "list",data:=.seq its.toArray n}={ cls:=.type "list",data:=.seq its'.toArray n'}) (r:Vals ys its') (hz:ys.length<=Ao) (t:Nat):
  Inv X pins σ (upd H p (.lst ys)) {s with heap:=s.heap.update p f,toks:=t}:=by
 have e:(s.heap.update p f).get? p=ae {cls:=.type "list",data:=.seq its'.toArray n'}:=by
  rw[Bz f ho (by rw[hf]<;>rfl),hf]
 refine I.write (x:=p) (e:=p) (by rw[h];trivial) (.inl rfl) (λb u hb q=>(Dq _ _ (Ne.symm hb)).trans q) ⟨_,e⟩ ?_;exact⟨hz,its',n',r,e⟩
def IC:V->V->V->Hp->(Hp->Prop)->Prop:=λo i v H Q=>∃p xs k j,o=.ref p/\i=.int k/\H p=ae (.lst xs)/\jJ xs.length k=ae j/\Q (upd H p (.lst (xs.set j v)))
theorem sR:mG X IC:=by
 intro pins s σ H o i v ov iv u Q I ro ri rv h;obtain⟨p,xs,k,j,rfl,rfl,hp,hj,q⟩:=h;cases ro;obtain⟨t,rfl⟩:=ri;obtain⟨its,n,r,ho,hz⟩:=I.lst hp;obtain⟨h1,h2,h3,h4⟩:=xi hj;have hl:=r.length;have hn:=md;have I':Inv X pins σ (upd H p (.lst (xs.set j v))) {s with heap:=s.heap.update p (Da (·.setIfInBounds j u))}:=
  I.lstUpd hp ho (Qr its n j u) (r.set rv j) (by rw[Df];exact hz) s.toks
 by_cases h0:0<=k
 ·have hk:k.toNat=j:=by
   rw[seqIndex_of h0 h4]at h1;exact Bp h1
  exact PySem.W.ki_setAt ho h0 ⋯ (by rw[Aw,<-hl];exact h4) (by rw[hk];exact⟨_,I',q⟩)
 ·have hk:(k+(its.toArray.size:Int)).toNat=j:=by
   rw[seqIndex_neg ⋯ h3]at h1;rw[Aw,<-hl];exact Bp h1
  exact PySem.W.ki_setBack ho ⋯ (by rw[Aw,<-hl];exact h3) ⋯ (by rw[hk];exact⟨_,I',q⟩)
theorem Ru(lo hi:Option Int)(n:Nat):(He lo hi af n).1=((HT.sIx n 0 lo:Nat):Int)/\(He lo hi af n).2.1=((HT.sIx n n hi:Nat):Int)/\(He lo hi af n).2.2=1:=by
 refine⟨?_,?_,rfl⟩
 ·cases lo with
  |none=>simp[He,HT.sIx]
  |some i=>
   simp only[He,HT.sIx,Option.getD_none,show(1:Int) > 0 by decide,if_true];by_cases h:i < 0
   ·simp only[h,if_true]<;>omega
   ·simp only[h,if_false]<;>omega
 ·cases hi with
  |none=>simp[He,HT.sIx]
  |some i=>
   simp only[He,HT.sIx,Option.getD_none,show(1:Int) > 0 by decide,if_true];by_cases h:i < 0
   ·simp only[h,if_true]<;>omega
   ·simp only[h,if_false]<;>omega
theorem Ik(its:List Af)(lo hi:Option Int):slicePick its.toArray lo hi af=((its.drop (HT.sIx its.length 0 lo)).take (HT.sIx its.length its.length hi-HT.sIx its.length 0 lo)).toArray:=by
 obtain⟨h1,h2,h3⟩:=Ru lo hi its.toArray.size;unfold slicePick;rw[h1,h2,h3];simp only[sliceRange_one,pick_run,Aw]<;>rfl
def oA(K:Ag):V->Option Int->Option Int->Hp->VK->Prop:=λx lo hi H Q=>∃a xs,x=.ref a/\SqL K H a xs/\∀p,H p=af->Q (.ref p) (upd H p (.lst (eY xs lo hi)))
theorem BQ:SlR X (oA X.K):=by
 intro pins s σ H x v vl vu lo hi sl Q I rx hs pl pu h;obtain⟨a,xs,rfl,hx,q⟩:=h;cases rx;obtain⟨its,r,ht,hz⟩:=I.list hx;have hlen:=r.length;refine⟨"list",_,slot_list_getitem.lookup,ht.isList.typeIs,?_⟩;refine wpAny_getItem_list_slice ht.isList hs pl pu .none (by simp) ?_ (by rw[Aw]<;>omega);rw[Ik,<-hlen];refine⟨.ref s.heap.objs.size,_,I.laid (t':=s.toks) (o:=.lst (eY xs lo hi)) (λb ob q=>Ae _ q) (Av _) ?_,rfl,q _ (I.hok.fresh (Av _))⟩;exact⟨An (qg xs lo hi) hz,_,0,(r.drop (HT.sIx xs.length 0 lo)).take (HT.sIx xs.length xs.length hi-HT.sIx xs.length 0 lo),Ay _ rfl⟩
def jf:V->Bool
 |.non=>ah
 |.bl _=>ah
 |.int _=>ah
 |.str _=>ah
 |_=>ai
def jA:V->V->Bool
 |.non,.non=>ah
 |.bl a,.bl b=>a==b
 |.bl a,.int b=>(if a then 1 else 0)==b
 |.int a,.bl b=>a==(if b then 1 else 0)
 |.int a,.int b=>a==b
 |.str a,.str b=>a==b
 |_,_=>ai
theorem LP{A:B3}{s:Ai}{y x:V}{u v:Af}(ry:RelV y u)(rx:RelV x v)(fy:jf y=ah)(fx:jf x=ah):SeqAt.EqAt A s u v (jA y x):=by
 cases y with
 |non=>
  cases ry;cases x with
  |non=>cases rx;exact SeqAt.EqAt.same _
  |bl b=>cases rx;exact SeqAt.EqAt.none_bool b
  |int b=>obtain⟨t,rfl⟩:=rx;exact SeqAt.EqAt.none_int b t
  |str b=>obtain⟨t,rfl⟩:=rx;exact SeqAt.EqAt.none_str b t
  |_=>exact absurd (show ai=ah from fx) Ak
 |bl a=>
  cases ry;cases x with
  |non=>cases rx;exact SeqAt.EqAt.bool_none a
  |bl b=>cases rx;exact SeqAt.EqAt.bool_bool a b
  |int b=>obtain⟨t,rfl⟩:=rx;exact SeqAt.EqAt.bool_int a b t
  |str b=>obtain⟨t,rfl⟩:=rx;exact SeqAt.EqAt.bool_str a b t
  |_=>exact absurd (show ai=ah from fx) Ak
 |int a=>
  obtain⟨t',rfl⟩:=ry;cases x with
  |non=>cases rx;exact SeqAt.EqAt.int_none a t'
  |bl b=>cases rx;exact SeqAt.EqAt.int_bool a t' b
  |int b=>obtain⟨t,rfl⟩:=rx;exact SeqAt.EqAt.int_int a t' b t
  |str b=>obtain⟨t,rfl⟩:=rx;exact SeqAt.EqAt.int_str a t' b t
  |_=>exact absurd (show ai=ah from fx) Ak
 |str a=>
  obtain⟨t',rfl⟩:=ry;cases x with
  |non=>cases rx;exact SeqAt.EqAt.str_none a t'
  |bl b=>cases rx;exact SeqAt.EqAt.str_bool a t' b
  |int b=>obtain⟨t,rfl⟩:=rx;exact SeqAt.EqAt.str_int a t' b t
  |str b=>obtain⟨t,rfl⟩:=rx;exact SeqAt.EqAt.str_str a t' b t
  |_=>exact absurd (show ai=ah from fx) Ak
 |_=>exact absurd (show ai=ah from fy) Ak
def gA(x:V)(u:Af):Bool:=match u with
 |.none=>jA .non x
 |.bool b=>jA (.bl b) x
 |.int i _=>jA (.int i) x
 |.str z _=>jA (.str z) x
 |_=>ai
theorem yT{x y:V}{u:Af}(r:RelV y u)(f:jf y=ah):gA x u=jA y x:=by
 cases y with
 |non=>cases r;rfl
 |bl b=>cases r;rfl
 |int i=>obtain⟨t,rfl⟩:=r;rfl
 |str z=>obtain⟨t,rfl⟩:=r;rfl
 |_=>exact absurd (show ai=ah from f) Ak
theorem oO{x:V}:∀{xs:List V}{us:List Af},Vals xs us->xs.all jf=ah->us.any (gA x)=xs.any λy=>jA y x
 |_,_,.nil,_=>rfl
 |y::xs,u::us,.cons r t,f=>by
  rw[List.all_cons,Cy]at f;rw[List.any_cons,List.any_cons,yT r f.1,oO t f.2]
theorem nP{A:B3}{s:Ai}{x:V}{v:Af}(rx:RelV x v)(fx:jf x=ah):∀{xs:List V}{us:List Af},Vals xs us->xs.all jf=ah->∀u∈us,SeqAt.EqAt A s u v (gA x u)
 |_,_,.nil,_=>λu hu=>by cases hu
 |y::xs,u::us,.cons r t,f=>λu' hu=>by
  rw[List.all_cons,Cy]at f;rcases A5.mp hu with rfl|hu
  ·rw[yT r f.1];exact LP r rx f.1 fx
  ·exact nP rx fx t f.2 u' hu
def qM(x:V)(xs:List V):Bool:=xs.any λy=>jA y x
def kz(K:Ag)(neg:Bool):R2:=λx y H Q=>∃p xs,y=.ref p/\(SqL K H p xs\/SqT K H p xs)/\jf x=ah/\xs.all jf=ah/\Q (.bl (if neg then !qM x xs else qM x xs)) H
theorem PK:OpR X (B8 .In) (kz X.K ai):=by
 intro pins s σ H x y v u Q I rx ry h;obtain⟨p,xs,rfl,hq,fx,fs,q⟩:=h;cases ry;rcases hq with hq|hq
 ·obtain⟨its,r,pl,hz⟩:=I.list hq;refine SeqAt.in_listAt (gA x) pl.isList (λw hw=>nP rx fx r fs w (by simpa using hw)) ⟨.bl _,H,I,rfl,?_⟩;rw[show its.toArray.any (gA x)=its.any (gA x) by simp,oO r fs];exact q
 ·obtain⟨its,r,pl,hz⟩:=I.tuple hq;refine SeqAt.in_tupleAt (gA x) pl (λw hw=>nP rx fx r fs w (by simpa using hw)) ⟨.bl _,H,I,rfl,?_⟩;rw[show its.toArray.any (gA x)=its.any (gA x) by simp,oO r fs];exact q
theorem Ur:OpR X (B8 .NotIn) (kz X.K ah):=by
 intro pins s σ H x y v u Q I rx ry h;obtain⟨p,xs,rfl,hq,fx,fs,q⟩:=h;cases ry;rcases hq with hq|hq
 ·obtain⟨its,r,pl,hz⟩:=I.list hq;refine SeqAt.notIn_listAt (gA x) pl.isList (λw hw=>nP rx fx r fs w (by simpa using hw)) ⟨.bl _,H,I,rfl,?_⟩;rw[show its.toArray.any (gA x)=its.any (gA x) by simp,oO r fs];exact q
 ·obtain⟨its,r,pl,hz⟩:=I.tuple hq;refine SeqAt.notIn_tupleAt (gA x) pl (λw hw=>nP rx fx r fs w (by simpa using hw)) ⟨.bl _,H,I,rfl,?_⟩;rw[show its.toArray.any (gA x)=its.any (gA x) by simp,oO r fs];exact q
theorem qD:CallR X (.builtin "len") (λxs H Q=>∃p ys,xs=[.ref p]/\(SqL X.K H p ys\/SqT X.K H p ys)/\Q (.int ys.length) H):=by
 intro pins s σ H xs us Q I r h;obtain⟨p,ys,rfl,hq,q⟩:=h;obtain⟨u,rfl,rx⟩:=iO r;cases rx;have hn:=md;rcases hq with hq|hq
 ·obtain⟨its,r',pl,hz⟩:=I.list hq;have hlen:=r'.length;exact Calls.call_len_list pl.isList (by simp only[Aw]<;>omega) ⟨.int ys.length,H,I.tok _,⟨s.toks+1,by rw[Aw,hlen]⟩,q⟩
 ·obtain⟨its,r',pl,hz⟩:=I.tuple hq;have hlen:=r'.length;exact len_tuple pl (by simp only[Aw]<;>omega) ⟨.int ys.length,H,I.tok _,⟨s.toks+1,by rw[Aw,hlen]⟩,q⟩
theorem call_len_str:CallR X (.builtin "len") (λxs H Q=>∃z,xs=[.str z]/\z.length<=Ao/\Q (.int z.length) H):=by
 intro pins s σ H xs us Q I r h;obtain⟨z,rfl,hz,q⟩:=h;obtain⟨u,rfl,t,rfl⟩:=iO r;have hn:=md;exact len_str ⋯ ⟨.int z.length,H,I.tok _,⟨_,rfl⟩,q⟩
theorem CallR.or{f:Af}{r r':List V->Hp->VK->Prop}(h:CallR X f r)(h':CallR X f r'):CallR X f (λxs H Q=>r xs H Q\/r' xs H Q):=by
 intro pins s σ H xs us Q I rs q;rcases q with q|q
 ·exact h pins s σ H xs us Q I rs q
 ·exact h' pins s σ H xs us Q I rs q
theorem NO:CallR X (.type "list") (λxs H Q=>∃p ys,xs=[.ref p]/\(SqL X.K H p ys\/SqT X.K H p ys)/\∀l,H l=af->Q (.ref l) (upd H l (.lst ys))):=by
 intro pins s σ H xs us Q I r h;obtain⟨p,ys,rfl,hq,q⟩:=h;obtain⟨u,rfl,rx⟩:=iO r;cases rx;have fin:∀(its:List Af),Vals ys its->ys.length<=Ao->∀(h':Heap)(c':Nat),(∀b o',s.heap.get? b=ae o'->h'.get? b=ae o')->
   h'.get? s.heap.objs.size=ae {cls:=.type "list",dict:=af,data:=.seq its.toArray c',slots:=#[]}->EP X pins σ Q (.ref s.heap.objs.size) {s with heap:=h'}:=λits r' hz h' c' kp e=>
  ⟨.ref s.heap.objs.size,_,I.laid (t':=s.toks) kp (Av _) (show ObjOk X.prog X.w _ h' _ (.lst ys)from⟨hz,its,c',r',e⟩),rfl,q _ (I.hok.fresh (Av _))⟩
 rcases hq with hq|hq
 ·obtain⟨its,r',pl,hz⟩:=I.list hq;have hlen:=r'.length;obtain⟨o,ho,hc,n,hd⟩:=pl.isList;exact call_list_seq p (.inl rfl) ho hc hd (λh' c' kp e=>fin its r' hz h' c' kp e) (by simp only[Aw]<;>omega)
 ·obtain⟨its,r',pl,hz⟩:=I.tuple hq;have hlen:=r'.length;obtain⟨o,ho,hc,n,hd⟩:=pl;exact call_list_seq p (.inr rfl) ho hc hd (λh' c' kp e=>fin its r' hz h' c' kp e) (by simp only[Aw]<;>omega)
theorem KW:CallR X (.type "tuple") (λxs H Q=>∃p ys,xs=[.ref p]/\((SqL X.K H p ys/\∀l,H l=af->Q (.ref l) (upd H l (.tup ys)))\/(SqT X.K H p ys/\Q (.ref p) H))):=by
 intro pins s σ H xs us Q I r h;obtain⟨p,ys,rfl,h⟩:=h;obtain⟨u,rfl,rx⟩:=iO r;cases rx;rcases h with⟨hq,q⟩|⟨hq,q⟩
 ·obtain⟨its,r',pl,hz⟩:=I.list hq;have hlen:=r'.length;refine call_tuple_list pl.isList (λh' kp=>?_) (by simp only[Aw]<;>omega);have I1:Inv X pins σ H {s with heap:=h'}:=I.kept (t':=s.toks) kp;have I2:Inv X pins σ (upd H h'.objs.size (.tup ys)) {s with heap:=h'.push {cls:=.type "tuple",data:=.seq its.toArray}}:=
   I1.laid (t':=s.toks) (λb o e=>Ae _ e) (Av _) (show ObjOk X.prog X.w _ _ _ (.tup ys)from⟨hz,its,r',IsTupP.new _ _⟩)
  exact⟨.ref h'.objs.size,_,I2,rfl,q _ (I1.hok.fresh (Av _))⟩
 ·obtain⟨its,r',pl,hz⟩:=I.tuple hq;exact call_tuple_same pl ⟨.ref p,H,I,rfl,q⟩
def xy(K:Ag)(T:String)(x:V)(H:Hp):Prop:=match x with
 |.str _=>T="str"
 |.int _=>T="int"
 |.ref p=>(T="list"/\∃xs,SqL K H p xs)\/(T="tuple"/\∃o,K.lookup p=ae o/\o.cls=.type "tuple"/\o.dict=af) \/
   (T="dict"/\((∃kvs,H p=ae (.dK kvs))\/∃kvs,H p=ae (.dT kvs)))\/(T="set"/\∃S n,H p=ae (.set S n))
 |_=>False
theorem Rg{pins:List (Addr×Obj)}{σ:St}{H:Hp}{s:Ai}{T:String}{x:V}{v:Af}(I:Inv X pins σ H s)(r:RelV x v)(ty:xy X.K T x H):
  s.TypeIs v T/\∀a,v=.ref a->∃ob,s.heap.get? a=ae ob/\ob.dict=af:=by
 cases x with
 |str z=>
  obtain⟨t,rfl⟩:=r;cases(show T="str" from ty);exact⟨typeIs_str s z t,λ_ e=>nomatch e⟩
 |int i=>
  obtain⟨t,rfl⟩:=r;cases(show T="int" from ty);exact⟨typeIs_int s i t,λ_ e=>nomatch e⟩
 |ref p=>
  cases r;rcases ty with⟨rfl,xs,hq⟩|⟨rfl,o,hk,hc,hd⟩|⟨rfl,hk⟩|⟨rfl,S,n,hk⟩
  ·obtain⟨its,_,pl,_⟩:=I.list hq;refine⟨pl.isList.typeIs,λa e=>?_⟩;cases e;obtain⟨o,n,e,c,hd,_⟩:=pl;exact⟨o,e,hd⟩
  ·refine⟨⟨o,I.kIn p o hk,hc⟩,λa e=>?_⟩;cases e;exact⟨o,I.kIn _ o hk,hd⟩
  ·have z:∃o,s.heap.get? p=ae o/\o.ExactDict:=by
    rcases hk with⟨kvs,hk⟩|⟨kvs,hk⟩
    ·obtain⟨_,_,_,_,o,_,_,e,ex,_⟩:=I.hok p _ hk;exact⟨o,e,ex⟩
    ·obtain⟨_,_,_,_,o,_,_,e,ex,_⟩:=I.hok p _ hk;exact⟨o,e,ex⟩
   obtain⟨o,e,ex⟩:=z;refine⟨⟨o,e,ex.1⟩,λa e2=>?_⟩;cases e2;exact⟨o,e,ex.2.1⟩
  ·obtain⟨o,_,_,_,e,ex,_⟩:=I.hok p _ hk;refine⟨⟨o,e,ex.1⟩,λa e2=>?_⟩;cases e2;exact⟨o,e,ex.2.1⟩
 |_=>exact False.elim ty
def jv(K:Ag)(T:String)(r:V->List V->Hp->VK->Prop)(to:TE)(t:TA):TE:=λσ H Q=>to σ H λx H1=>xy K T x H1/\t σ H1 λxs H2=>r x xs H2 Q
variable{o e:Expr}{es:List Expr}{to:TE}{t:TA}{name:Str}{apos cpos:Pos}{T id:String}{r:V->List V->Hp->VK->Prop}
theorem mD(pa:PlainAttrs T)(slot:Slot T name id)(hty:typeOf (.builtin id)=pure (.type "method_descriptor"))(hm:pL X id r)(ho:PE X o to)(ha:PA X (e::es) t)
  (hbase:Em o name X.env (eval o X.env)=eval o X.env:=by rfl)
  (hfew:((C5 cpos (Au (e::es) X.env)).all (λx=>!x.1)&&(backToKw cpos (Fq [] X.env)).all (λx=>x.1.isSome)
   && decide ((e::es).length+([]:List F2).length+(if ([]:List F2).isEmpty then 0 else 1) < 30))=ah:=by rfl)
  (hline:(apos.endLine==cpos.line)=ah:=by rfl) (hs:Au (e::es) X.env=(ai,eval e X.env)::Au es X.env:=by rfl) (hplain:(C5 cpos (Au es X.env)).any (·.1)=ai:=by rfl):
  PE X (.Call (.Attribute o name apos) (e::es) [] cpos) (jv X.K T r to t):=by
 intro pins s σ H Q I h;refine wpAny_Call_method_late hbase hfew hline rfl (bj (ho pins s σ H _ I h) λv s1 ⟨x,H1,I1,r1,ty,q1⟩=>?_);obtain⟨h1,h2⟩:=Rg I1 r1 ty;refine⟨T,id,pa,slot,hty,h1,h2,?_⟩;have hA:=ha cpos pins s1 σ H1 _ I1 q1;rw[hs]at hA ⊢;refine Calls.callWith_builtin (by show(ai || (C5 cpos (Au es X.env)).any (·.1))=ai;rw[hplain]<;>rfl) (Calls.evalArgs_plain ?_);exact bj hA λus s2 ⟨vs,H2,I2,r2,q2⟩=>hm pins s2 σ H2 x vs v us Q I2 r1 r2 q2
end
def sC(X:Cx)(id:String)(r:V->List V->Hp->VK->Prop):Prop:=
 ∀(pins:List (Addr×Obj))(s:Ai)(σ:St)(H:Hp)(x:V)(xs:List V)(v:Af)(us:List Af)(Q:VK),Inv X pins σ H s->RelV x v->Vals xs us->r x xs H Q->
  Az (Bg X.prog X.w) X.A (call (.builtin id) (v::us)) (EP X pins σ Q) X.xe s
theorem Vals.one:∀{x:V}{us:List Af},Vals [x] us->∃u,us=[u]/\RelV x u
 |_,_,.cons r .nil=>⟨_,rfl,r⟩
theorem Vals.zero:∀{us:List Af},Vals [] us->us=[]
 |_,.nil=>rfl
theorem Vals.rep{xs:List V}{us:List Af}(h:Vals xs us):∀k:Nat,Vals (Ax k xs).flatten (Ax k us).flatten
 |0=>.nil
 |k+1=>by
  rw[Dj,Dj,D8,D8];exact Vals.append h (Vals.rep h k)
theorem uu(its:List Af):∀(k:Nat)(acc:List Af),
  List.foldl (λx1 x2=>x1++x2) acc.toArray (Ax k its.toArray)=(acc++(Ax k its).flatten).toArray
 |0,acc=>by simp
 |k+1,acc=>by
  have e:acc.toArray++its.toArray=(acc++its).toArray:=by simp
  have e2:(acc++its)++(Ax k its).flatten=acc++(Ax (k+1) its).flatten:=by
   rw[Dj,D8,Cj]
  rw[<-e2,<-uu its k (acc++its),<-e,Dj,List.foldl_cons]
section
variable{X:Cx}{pins:List (Addr×Obj)}{σ:St}{H:Hp}{s:Ai}{l b:Addr}{xs ys zs:List V}
theorem Inv.lset{its its':List Af}{n:Nat}{f:Array Af->Array Af}{t':Nat}(I:Inv X pins σ H s)(hH:H l=ae (.lst xs))
  (e:s.heap.get? l=ae {cls:=.type "list",data:=.seq its.toArray n}) (hf:f its.toArray=its'.toArray) (hv:Vals ys its') (hz:ys.length<=Ao):
  Inv X pins σ (upd H l (.lst ys)) {s with heap:=s.heap.update l (Da f),toks:=t'}:=by
 have q:=PySem.IsL.update e f;rw[hf]at q;refine I.write (x:=l) (e:=l) (by rw[hH];exact trivial) (.inl rfl) (λb' u hb hu=>(Dq s.heap (Da f) (Ne.symm hb)).trans hu) ⟨_,q⟩ ?_;exact⟨hz,its',_,hv,q⟩
theorem Inv.lnew{its:List Af}{t':Nat}(I:Inv X pins σ H s)(hv:Vals ys its)(hz:ys.length<=Ao):
  Inv X pins σ (upd H s.heap.objs.size (.lst ys)) {s with heap:=s.heap.push {cls:=.type "list",data:=.seq its.toArray},toks:=t'}:=
 I.laid (λ_ _ q=>Ae _ q) (Av _) ⟨hz,its,0,hv,Ay _ rfl⟩
theorem Inv.fresh(I:Inv X pins σ H s):H s.heap.objs.size=af:=I.hok.fresh (Av _)
theorem Inv.lstM(I:Inv X pins σ H s)(hH:H l=ae (.lst xs)):xs.length<=Ao/\∃(its:List Af)(n:Nat),Vals xs its/\xs.length=its.length/\s.heap.get? l=ae {cls:=.type "list",data:=.seq its.toArray n}:=by
 obtain⟨z,its,n,r,e⟩:=I.hok l _ hH;exact⟨z,its,n,r,r.length,e⟩
theorem wI{n:Nat}(h:n<=Ao):Dt n=ai:=by
 unfold Dt;exact decide_eq_false ⋯
end
section
variable{X:Cx}
def wq:V->List V->Hp->VK->Prop:=λx vs H Q=>∃l xs y,x=.ref l/\vs=[y]/\H l=ae (.lst xs)/\xs.length < Ao/\Q .non (upd H l (.lst (xs++[y])))
theorem wk:sC X "list.append" wq:=by
 intro pins s σ H x vs v us Q I rx rv h;obtain⟨l,xs,y,rfl,rfl,hH,hz,q⟩:=h;cases rx;obtain⟨u,rfl,ru⟩:=rv.one;obtain⟨z,its,n,r,hl,e⟩:=I.lstM hH;refine Ge F.slot_list_append ⟨_,e,rfl⟩ F.entry_list_append (F.args_list_append_2 _ _) (PySem.list_append l its.toArray n u (by rw[Aw];omega)) ⟨e,?_⟩;refine⟨.non,_,I.lset (its':=its++[u]) hH e (by simp) (r.append (.cons ru .nil)) ?_,rfl,q⟩;rw[A0,B5];omega
def Nz:V->List V->Hp->VK->Prop:=λx vs H Q=>∃l b xs zs,x=.ref l/\vs=[.ref b]/\H l=ae (.lst xs)/\H b=ae (.lst zs)/\xs.length+zs.length<=Ao/\Q .non (upd H l (.lst (xs++zs)))
theorem UG:sC X "list.extend" Nz:=by
 intro pins s σ H x vs v us Q I rx rv h;obtain⟨l,b,xs,zs,rfl,rfl,hH,hB,hz,q⟩:=h;cases rx;obtain⟨u,rfl,ru⟩:=rv.one;cases ru;obtain⟨z,its,n,r,hl,e⟩:=I.lstM hH;obtain⟨z2,its2,n2,r2,hl2,e2⟩:=I.lstM hB;have hsz:its.toArray.size+its2.toArray.size<=Ao:=by rw[Aw,Aw];omega
 have hlong:¬(!its.toArray.isEmpty&&Dt (its.toArray.size+its2.toArray.size))=ah:=by
  rw[wI hsz,Bool.and_false];exact Ak
 refine Ge F.slot_list_extend ⟨_,e,rfl⟩ F.entry_list_extend (F.args_list_extend_2 _ _)
  (AutoSeq1.list_extend_list_list_0 l its.toArray n b its2.toArray n2 hlong (by rw[Aw];omega) ⋯) ⟨e,e2,?_⟩
 refine⟨.non,_,I.lset (its':=its++its2) hH e (by simp) (r.append r2) ?_,rfl,q⟩;rw[A0];omega
def nW:R2:=λx y H Q=>∃l b xs zs,x=.ref l/\y=.ref b/\H l=ae (.lst xs)/\H b=ae (.lst zs)/\xs.length+zs.length<=Ao/\∀p,H p=af->Q (.ref p) (upd H p (.lst (xs++zs)))
theorem Ir:OpR X (E5 .Add) nW:=by
 intro pins s σ H x y v u Q I rx ry h;obtain⟨l,b,xs,zs,rfl,rfl,hH,hB,hz,q⟩:=h;cases rx;cases ry;obtain⟨z,its,n,r,hl,e⟩:=I.lstM hH;obtain⟨z2,its2,n2,r2,hl2,e2⟩:=I.lstM hB;refine PySem.P.add_list e e2 ?_ (by rw[Aw,Aw];omega);have ea:its.toArray++its2.toArray=(its++its2).toArray:=by simp
 rw[ea];exact⟨.ref _,_,I.lnew (t':=s.toks) (r.append r2) (by rw[A0];omega),rfl,q _ I.fresh⟩
def oq:R2:=λx y H Q=>∃l k xs,x=.ref l/\y=.int k/\H l=ae (.lst xs)/\-(2 ^ 63)<=k/\k < 2 ^ 63/\xs.length*k.toNat<=Ao /\
 ∀p,H p=af->Q (.ref p) (upd H p (.lst (Ax k.toNat xs).flatten))
theorem nL{α:Type}(xs:List α)(k:Nat):(Ax k xs).flatten.length=k*xs.length:=by
 induction k with
 |zero=>simp
 |succ k ih=>rw[Dj,D8,A0,ih,Nat.succ_mul,Nat.add_comm]
theorem Oi:OpR X (E5 .Mult) oq:=by
 intro pins s σ H x y v u Q I rx ry h;obtain⟨l,k,xs,rfl,rfl,hH,h1,h2,hz,q⟩:=h;cases rx;obtain⟨t,rfl⟩:=ry;obtain⟨z,its,n,r,hl,e⟩:=I.lstM hH;have hlen:its.toArray.size*k.toNat<=Ao:=by rw[Aw,<-hl];exact hz
 have hcap:¬its.toArray.size*k.toNat > (2 ^ 63-1) / 8:=by
  have:(Ao:Nat)<=(2 ^ 63-1) / 8:=by decide
  omega
 have hfit:¬(!Builtin.List.listFitsIndex k)=ah:=by
  rw[fitsIndex_both h1 h2];exact Ak
 have hlong:¬Dt (its.toArray.size*k.toNat)=ah:=by
  rw[wI hlen];exact Ak
 have hnew:List.foldl (λx1 x2=>x1++x2) #[] (Ax (if its.toArray.isEmpty=ah then 0 else k.toNat) its.toArray)=(Ax k.toNat its).flatten.toArray:=by
  have f0:∀m:Nat,List.foldl (λx1 x2=>x1++x2) #[] (Ax m its.toArray)=(Ax m its).flatten.toArray:=λm=>by
   have:=uu its m [];rw[Fo]at this;exact this
  rw[f0];cases its with
  |nil=>simp
  |cons a r'=>rw[if_neg (by simp)]
 refine wpAny_binaryOp_repeat_ref (T:="list") (U:="int") ∎ ⟨_,e,rfl⟩ (λs'=>typeIs_int s' k t) noFill_list_mul F.fills_int_mul F.slot_int_rmul repeat_list F.slot_int_index.lookup
  (Ge F.slot_int_rmul (typeIs_int s k t) F.entry_int_rmul (F.args_int_rmul_2 _ _) (int___rmul___int_list k t l its.toArray n)
   ⟨e,rfl,⟨_,e,rfl⟩,Ge F.slot_list_mul ⟨_,e,rfl⟩ F.entry_list_mul (F.args_list_mul_2 _ _) (AutoListH.list___mul___list_int_3 l its.toArray n k t hfit hcap hlong) ⟨e,?_⟩⟩)
 rw[hnew];exact⟨.ref _,_,I.lnew (t':=s.toks) (r.rep k.toNat) (by rw[nL,Nat.mul_comm];exact hz),rfl,q _ I.fresh⟩
end
end L2
namespace Att
open PySem PySem.W PySem.Calls PyProof.Rows
theorem Kj{P:G3}{h:Heap}:∀(ns:List Int)(vs:List Af),WellAll P h vs (ns.map WData.int)->IntsAre vs ns:=by
 intro ns
 induction ns with
 |nil=>
  intro vs w;rw[A7]at w;cases w;exact .nil
 |cons n ns ih=>
  intro vs w;rw[Aq]at w;cases w with
  |cons a b=>
   cases a;exact .cons _ _ (ih _ b)
theorem Q6{l:OpenLaw}{n:Nat}(hn:l.most=ae n){P:G3}{h:Heap}{args:List WData}{vals:List Af}
  (hpre:l.row.toRowW.claim.pre args=ah) (hwl:WellAll P h vals args):
  ∃a vs ns,vals=[Bq a]/\args=[WData.list (ns.map WData.int)]/\h.get? a=ae {cls:=.type "list",data:=.seq vs.toArray}/\IntsAre vs ns/\ns.length<=n:=by
 have hsh:WShape.hasAll [] args [.list .int]=ah:=(pre_splitW hpre).1;have hc:l.pre.holds [] {args:=args}=ah:=(pre_splitW hpre).2;obtain⟨d,r,rfl,h1,h2⟩:=hasAllW_cons hsh;obtain rfl:=hasAllW_nil h2;obtain⟨xs,rfl,h3⟩:=hasW_list h1;obtain⟨ns,rfl⟩:=items_int h3;have hlen:ns.length<=n:=by
  unfold OpenLaw.pre at hc;have h4:(WTm.not (.lt (.lit (.int (n:Int))) (.len (.arg 0)))).holds [] {args:=[.list (ns.map .int)]}=ah:=by
   have h4:=(holds_andW hc).1;rw[hn]at h4;exact h4
  have h5:=condW_of h4 (w_not (w_lt w_lit (w_len_list (w_arg rfl))));rw[Ap]at h5;refine Nat.le_of_not_lt λq=>?_;have q':(n:Int) < ((ns.length:Nat):Int):=by omega
  first
   | (rw[decide_eq_true q']at h5;exact absurd h5 ∎)
   | (simp at h5;omega)
 cases hwl with
 |cons w1 w2=>
  cases w2;cases w1 with
  |list ho hall=>exact⟨_,_,ns,rfl,rfl,ho,Kj ns _ hall,hlen⟩
theorem TX(l:OpenLaw)(args:List WData):l.row.toRowW.claim.post args (.bool ah) args=ah:=
 postW_of (r:=l.row.toRowW) (X:=(ah==ah))
  (show WShape.has [] (.bool ah) .bool=ah by first|rfl|decide|simp[WShape.has,WShape.arms,WShape.armsAll])
  (show(WTm.eq .res (.lit (.bool ah))).value [] {args:=args,res:=ae (.bool ah),after:=args}=ae (.bool (ah==ah))from w_eq_bool (w_res rfl) w_lit) rfl
theorem attach_call{l:OpenLaw}{n:Nat}{q:Bj}{loose:List Str}{XP:(Str->Option Af)->Heap->Prop}{YP:Bu->Heap->Prop}{d:DefRec}
  (hn:l.most=ae n) (hdf:d.params.defaults=[])
  (call:∀(w:Bu)(s₀ s₁:Ai)(mg mb:Str->Option Af)(fa:Addr)(o:Obj)(pm cd doc:Af)(a:Addr)(vs:List Af)(ns:List Int),
   Ground q loose [] XP w s₀ mg mb s₁.heap->YP w s₁.heap->
   s₁.heap.get? fa=ae o->o.data=.func (docDef d.name d.params d.body d.scope pm cd doc)->s₁.heap.CodeRec cd d.name->mg d.name=ae (.ref fa)->
   s₁.heap.get? a=ae {cls:=.type "list",data:=.seq vs.toArray}->IntsAre vs ns->ns.length<=n->s₁.gens=#[]->
   codeAny (Bg l.prog w) callerA (.call (.ref fa) ⟨[.ref a],[]⟩) (λr s'=>r=.ok (.ret (.bool ah))/\OldK s₁.heap s'.heap/\s'.os=s₁.os/\AllBare s'.gens) s₁):
  WalkO q loose XP YP l.row.toRowW d [] (λf vs=>PySem.call f vs):=by
 intro w s₀ s₁ mg mb G Y fa o pm cd doc dV kV ho hd hcd hD hmg hg args vals as hpre hlay hrd hwl hlo;obtain rfl:dV=.none:=Dflts.none hD hdf;obtain rfl:kV=.none:=Dflts.noKw hD;obtain⟨a,vs,ns,rfl,rfl,hobj,hints,hlen⟩:=Q6 hn hpre hwl;refine enter_call (Gi (call w s₀ s₁ mg mb fa o pm cd doc a vs ns G Y ho (fd_plain hd) hcd hmg hobj hints hlen hg) λr s' hq=>?_);obtain⟨rfl,h2,h3,h4⟩:=hq;exact⟨.inl ⟨.bool ah,.bool ah,[],rfl,λ_=>rfl,.bool ah,TX l _,λ_=>⟨List.Pairwise.nil,λ_ hm=>(nomatch hm)⟩⟩,h2,h3,h4⟩
end Att
namespace L2
open PySem PySem.Spec PyProof.Rows
theorem zT:∀{vs:List Af}{ns:List Int},IntsAre vs ns->Vals (ns.map V.int) vs
 |_,_,.nil=>.nil
 |_,_,.cons n t h=>.cons ⟨t,rfl⟩ (zT h)
def kU(H:Hp):Prop:=∀b,H b=af\/∃o xs,H b=ae (.frz o (.lst xs))
theorem Mb{P:Bj}{w:Bu}{K:Ag}{mg mb:Str->Option Af}{CX:gq}{k:Nat}{fa a:Addr}{fd:Cw}{x:Str}{sp:Sp}{s₁:Ai}{vs:List Af}{ns:List Int}
  (KX:K.In s₁.heap) (hns:s₁.heap.Ns Ea mg) (hb:s₁.heap.Ns builtinsNs mb) (hbb:∀x:Str,x≠"__name__"->mb x=B9 x) (hlim:s₁.heap.NoLimit) (hg:s₁.gens=#[])
  (ha:s₁.heap.get? a=ae {cls:=.type "list",data:=.seq vs.toArray}) (hi:IntsAre vs ns) (hl:ns.length<=Ao) (hr:Room k callerA)
  (F:∀base:Heap,K.In base->base.Ns Ea mg->FnOk P w K mg base CX k fa fd [x] sp) (hbind:∀(s:Ai)(u:Af),BindsTo s fd ⟨[u],[]⟩ [(x,u)])
  (hsp:∀H:Hp,kU H->SqL K H a (ns.map V.int)->sp [.ref a] H (λv _=>v=.bl ah) λ_ _ _=>False)
  (hCX:∀H e s',CX [] H s₁ (λ_ _ _=>False) e s'->False):
  codeAny (Bg P w) callerA (.call (.ref fa) ⟨[.ref a],[]⟩) (λr s'=>r=.ok (.ret (.bool ah))/\OldK s₁.heap s'.heap/\s'.os=s₁.os/\AllBare s'.gens) s₁:=by
 have rv:=zT hi;have lenV:=hi.length
 have core:∀H:Hp,kU H->SqL K H a (ns.map V.int)->HOk P w H s₁.heap->(∀b,H b≠af->b=a)->(H a≠af->K.lookup a=af)->
   codeAny (Bg P w) callerA (.call (.ref fa) ⟨[.ref a],[]⟩) (λr s'=>r=.ok (.ret (.bool ah))/\OldK s₁.heap s'.heap/\s'.os=s₁.os/\AllBare s'.gens) s₁:=by
  intro H hO hS hok hA hK;have base_of:∀{b:Addr}{o:Obj},s₁.heap.get? b=ae o->H b=af->(fv s₁.heap H).get? b=ae o:=λe n=>Kc e n;have noA:∀{b:Addr}{o:Obj}{es:Array DictEntry}{ep:Nat},s₁.heap.get? b=ae o->o.data=.dict es ep->H b=af:=λ{b o es ep} e d=>by
   cases q:H b with
   |none=>rfl
   |some u=>
    have e':b=a:=hA b (by rw[q];simp);subst e';rw[ha]at e;cases e;have d':Data.seq vs.toArray _=Data.dict es ep:=d;cases d'
  have nsK:∀{b:Addr}{m:Str->Option Af},s₁.heap.Ns b m->(fv s₁.heap H).Ns b m:=λ{b m} ⟨o,es,ep,e,d,r⟩=>⟨o,es,ep,base_of e (noA e d),d,r⟩;have hKb:K.In (fv s₁.heap H):=λb o e=>base_of (KX b o e) (by
   cases q:H b with
   |none=>rfl
   |some u=>
    have e':b=a:=hA b (by rw[q];simp);subst e';rw[hK (by rw[q];simp)]at e;cases e)
  have hM:Mod K mg (fv s₁.heap H):=⟨hKb,nsK hns,⟨mb,nsK hb,hbb⟩,let⟨mc,h1,h2⟩:=hlim;⟨mc,nsK h1,h2⟩⟩;have e0:Env0 P w K mg (fv s₁.heap H) callerA [] s₁ H:=⟨rfl,hM,λb o e=>O9 e,Nat.le_of_eq (Pb _ _),trivial,λb hb=>absurd (show b∈([]:List Addr)from hb) (by simp),hok,.of_eq hg⟩;refine Gi ((F _ hKb (nsK hns)).run callerA [] s₁ H ⟨[.ref a],[]⟩ [.ref a] [.ref a] _ _ hr e0 (hbind s₁ (.ref a)) (.cons rfl .nil) (hsp H hO hS)) λr s' h=>?_;cases r with
  |error e=>exact(hCX H e s' h).elim
  |ok fl=>
   cases fl with
   |next=>exact False.elim h
   |brk=>exact False.elim h
   |cont=>exact False.elim h
   |ret u=>
    obtain⟨v,H',os,bare,un,hok',r',q⟩:=h;have q':v=.bl ah:=q;subst q';obtain rfl:u=Value.bool ah:=r';refine⟨rfl,OldK.of_keep λb o e=>?_,os,bare⟩;cases q:H b with
    |none=>exact un.keep b o e q (by intro z;exact absurd (show b∈([]:List Addr)from z) (by simp)) (by simp)
    |some u=>
     rcases hO b with z|⟨ob,xs,z⟩
     ·rw[q]at z;cases z
     ·have z2:=un.frzs b ob _ z;obtain⟨e1,_⟩:=hok b _ z;obtain⟨e2,_⟩:=hok' b _ z2;rw[e]at e1;cases e1;exact e2
 cases hk:K.lookup a with
 |some o=>
  have e:=KX a o hk;rw[ha]at e;cases e;refine core (λ_=>af) (λ_=>.inl rfl) (.inr ⟨_,vs.toArray,_,hk,rfl,rfl,rfl,by rw[Aw,lenV];exact hl,by simpa using rv⟩) (λb u z=>by have z':(af:Option HO)=ae u:=z;cases z') (λb z=>absurd rfl z) λz=>absurd rfl z
 |none=>
  refine core (λb=>if b=a then ae (.frz {cls:=.type "list",data:=.seq vs.toArray} (.lst (ns.map V.int)))else af) (λb=>?_) (.inl (.inr ⟨{cls:=.type "list",data:=.seq vs.toArray},if_pos rfl⟩)) (λb u z=>?_) (λb z=>?_) λ_=>hk
  ·by_cases hb:b=a
   ·exact .inr ⟨_,_,if_pos hb⟩
   ·exact .inl (if_neg hb)
  ·by_cases hb:b=a
   ·have z':=(if_pos hb).symm.trans z;cases z';subst hb;exact⟨ha,by rw[Ap];exact hl,vs,_,rv,ha⟩
   ·have z':=(if_neg hb).symm.trans z;cases z'
  ·by_cases hb:b=a
   ·exact hb
   ·exact absurd (if_neg hb) z
theorem walk_of{l:PySem.W.OpenLaw}{n k:Nat}{q:Bj}{loose:List Str}{XP:(Str->Option Af)->Heap->Prop}{YP:Bu->Heap->Prop}{d:DefRec}{K:G3->Ag}{CX:Bu->gq}{sp:Bu->Sp}{x:Str}
  (hn:l.most=ae n) (hn2:n<=Ao) (hdf:d.params.defaults=[]) (hr:Room k callerA)
  (hY:∀(w:Bu)(h:Heap),YP w h->(K w.params).In h)
  (F:∀(w:Bu)(mg:Str->Option Af)(fa:Addr)(h:Heap),(K w.params).In h->h.Ns Ea mg->mg d.name=ae (.ref fa)->
   ∃fd:Cw,(∀(s:Ai)(u:Af),BindsTo s fd ⟨[u],[]⟩ [(x,u)]) /\
    ∀base:Heap,(K w.params).In base->base.Ns Ea mg->FnOk l.prog w (K w.params) mg base (CX w) k fa fd [x] (sp w))
  (hsp:∀(w:Bu)(H:Hp)(a:Addr)(ns:List Int),ns.length<=n->kU H->SqL (K w.params) H a (ns.map V.int)->sp w [.ref a] H (λv _=>v=.bl ah) λ_ _ _=>False)
  (hCX:∀(w:Bu)(H:Hp)(s:Ai)(e:Af)(s':Ai),CX w [] H s (λ_ _ _=>False) e s'->False):
  PySem.W.WalkO q loose XP YP l.row.toRowW d [] (λf vs=>PySem.call f vs):=by
 refine Att.attach_call hn hdf λw s₀ s₁ mg mb fa o pm cd doc a vs ns G Y ho hd hcd hmg hobj hints hlen hg=>?_;have KX:=hY w _ Y;obtain⟨fd,hb,hF⟩:=F w mg fa _ KX G.T.g hmg;exact Mb KX G.T.g G.T.b G.T.builtins G.T.nolimit hg hobj hints (An hlen hn2) hr hF hb (λH hO hS=>hsp w H a ns hlen hO hS) λH e s'=>hCX w H s₁ e s'
abbrev dv:gq:=λ_ _ _ _ _ _=>False
abbrev E0:XK:=λ_ _ _=>False
theorem vp{X:Cx}:uc dv X E0:=λ_ _ _ _ _ _ _ h=>h.elim
structure Fun(K:Ag)(x qual:Str)(st:Stmt)(f:Addr)(fd:Cw):Prop where
 ex:∃(oc:Af)(od:Option Addr)(kV doc pm:Af)(an:Option Addr)(cdv ct:Af)(osl:Array (Option Af)),
  fd=Eb x qual (ko st) (fH st) (cK st) .none kV doc pm an cdv ct/\K.lookup f=ae ⟨oc,od,.func fd,osl⟩/\Gj K cdv qual=ah
 kp:Cf K (.ref f)=ah
section
variable{P:Bj}{w:Bu}{K:Ag}{mg:Str->Option Af}{base:Heap}
theorem Fun.ok{x qual:Str}{st:Stmt}{f:Addr}{fd:Cw}{N ps:List Str}{k:Nat}{sp:Sp}(F:Fun K x qual st f fd)(S:FnScope N ps (cK st))(len:∀vs H Q E,sp vs H Q E->vs.length=ps.length)
  (hbody:∀(cdv:Af)(A:B3)(outer:List Env)(s:Ai)(H:Hp)(vs:List V)(Q:VK)(E:XK),Room k (A.deeper (Dy qual (cK st) s.heap.objs.size f cdv))->sp vs H Q E->
   ∃t,PSs (b8 dv P w K mg base N qual (cK st) f cdv A outer s H E).nox (fH st) t/\t {nx:=λ_ H'=>Q .non H',rt:=Q} (start N vs) H):FnOk P w K mg base dv (k+1) f fd ps sp:=by
 obtain⟨oc,od,kV,doc,pm,an,cdv,ct,osl,rfl,lk,hcd⟩:=F.ex;refine tU lk hcd S len λA outer s H vs Q E hr hsp=>?_;obtain⟨t,h,q⟩:=hbody cdv A outer s H vs Q E hr hsp;exact⟨t,h.nox,q⟩
theorem Fun.binds{x qual:Str}{st:Stmt}{f:Addr}{fd:Cw}{ps:List Str}(F:Fun K x qual st f fd)
  (h:∀(kV doc pm:Af)(an:Option Addr)(cdv ct:Af)(us:List Af),us.length=ps.length->bindArgs (Eb x qual (ko st) (fH st) (cK st) .none kV doc pm an cdv ct) ⟨us,[]⟩=pure (ps.zip us)):Binds K fd ps []:=by
 obtain⟨oc,od,kV,doc,pm,an,cdv,ct,osl,rfl,lk,hcd⟩:=F.ex;exact .all (h kV doc pm an cdv ct)
theorem zG{x qual:Str}{st:Stmt}{f:Addr}{oc:Af}{od an:Option Addr}{osl:Array (Option Af)}{kV doc pm cdv ct:Af}(l:K.lookup f=ae ⟨oc,od,.func (Eb x qual (ko st) (fH st) (cK st) .none kV doc pm an cdv ct),osl⟩)
  (c:Gj K cdv qual=ah) (k:Cf K (.ref f)=ah):Fun K x qual st f (Eb x qual (ko st) (fH st) (cK st) .none kV doc pm an cdv ct):=⟨⟨oc,od,kV,doc,pm,an,cdv,ct,osl,rfl,l,c⟩,k⟩
end
theorem AN{n:Nat}(h:n<=1000):n < Ao:=Fm h ∎
section
variable{X:Cx}
theorem pv(i:Nat){x:Str}{pos:Pos}(hN:X.N[i]?=ae x:=by rfl)(hv:ic X.env.scope x:=by first|exact F1 rfl|exact Eh (F1 rfl)|exact Eh (Eh rfl))(hd:(x==("__debug__":Str))=ai:=by decide)
  (hcd:(x==("__classdict__":Str))=ai:=by decide):PE X (.Name x pos) (cn i):=ik hN hv hd hcd
end
theorem oE{A B:Prop}(h:B):if ai=ah then A else B:=by
 rw[if_neg Ak];exact h
theorem hV{c A B:Prop}[Decidable c](h1:c->A)(h2:¬c->B):if c then A else B:=by
 by_cases h:c
 ·rw[if_pos h];exact h1 h
 ·rw[if_neg h];exact h2 h
def n9(H H':Hp):Prop:=∀b o,H b=ae o->H' b=ae o
end L2
namespace L2
open PySem PySem.Spec PyProof.Rows
section
variable{prog:Bj}{w:Bu}{A:B3}{R:Result->Ai->Prop}{s:Ai}
theorem Uj{elt target iter:Expr}{ifs:List Expr}{scope:Fb}{pos:Pos}{it acc:Af}{env:Env}(I:Nat->Ai->Prop)
  (turn:∀n s,I n s->Az (Bg prog w) A (E7 it) (λr s₁=>match r with
   |none=>R (.ok .next) s₁
   |some v=>Az (Bg prog w) A (letOwnedTupleGo target it v) (λ_ s₁'=>Az (Bg prog w) A (assign target env v) (λ_ s₂=>
     Az (Bg prog w) A (forIn ifs ah λc r=>if r=ah then do let ok <-isTrue c env (eval c env);pure (ForInStep.yield ok)else pure (ForInStep.yield r)) (λok s₃=>
      if ok=ah then Az (Bg prog w) A (eval elt env) (λx s₄=>
       Az (Bg prog w) A (call (.builtin "list.append") [acc,x]) (λ_ s₅=>∃m,m < n/\I m s₅) (λ_ _=>False) s₄) (λ_ _=>False) s₃
      else ∃m,m < n/\I m s₃) (λ_ _=>False) s₂) (λ_ _=>False) s₁') (λ_ _=>False) s₁) (λ_ _=>False) s)
  (n:Nat) (h:I n s):codeAny (Bg prog w) A (.compLoop (.ListComp elt [⟨target,iter,ifs,0⟩] scope pos) 0 it acc env) R s:=by
 refine codeAny_loop rfl I (λn s hI=>?_) n h;show Az _ A ((compTurn (.ListComp elt [⟨target,iter,ifs,0⟩] scope pos) 0 it acc env).onRaise (λx=>do noteFrame x env;theTreesLotGoes x)) _ _ s;refine wpAny_noted ?_;rw[compTurn_list];refine Ad (Hb (Ad (Cq (turn n s hI) (λr s₁ h₁=>?_) λ_ _ f=>f.elim)));cases r with
 |none=>exact Aj h₁
 |some v=>
  refine Ad (Cq h₁ (λ_ s₁' h₁'=>?_) λ_ _ f=>f.elim);refine Ad (Cq h₁' (λ_ s₂ h₂=>Ad (Cq h₂ (λok s₃ h₃=>?_) λ_ _ f=>f.elim)) λ_ _ f=>f.elim);cases ok with
  |false=>exact Aj ⟨rfl,h₃⟩
  |true=>
   exact Ad (Ad (Cq h₃ (λx s₄ h₄=>Ad (Cq h₄ (λ_ s₅ h₅=>Aj (Aj ⟨rfl,h₅⟩)) λ_ _ f=>f.elim)) λ_ _ f=>f.elim))
end
def fK(X:Cx)(N:List Str)(scope:Fb)(cl:List (Str×Addr))(s:Ai)(H:Hp)(fp:List Addr):Cx:=
 { X with N:=N,s₀:=s,H₀:=H,env:=compEnvC scope cl s.heap.objs.size X.env,outer:=X.stack,ex:=fp,fn:=λ_=>ai,pn:=[],xe:=λ_ _=>False}
structure CompSc(X:Cx)(N:List Str)(scope:Fb)(cl:List (Str×Addr))(fr:List (Option Nat)):Prop where
 clos:closureFor scope X.env=pure cl
 kind:scope.kind=.function
 nocell:∀y∈scope.names,y.2≠.cell
 names:∀y∈scope.names,y.2=.local->scope.names.lookup y.1=ae .local
 sub:∀x c,cl.lookup x=ae c->X.env.cells.lookup x=ae c
 has:∀x,((relabel scope X.env).names.lookup x=ae .cell\/(relabel scope X.env).names.lookup x=ae .free)->∃c,cl.lookup x=ae c
 len:fr.length=N.length
 fre:∀(j i:Nat),fr[j]?=ae (ae i)->∃x,N[j]?=ae x/\X.N[i]?=ae x/\ic X.env.scope x/\(X.env.kindOf x=ae .cell\/X.env.kindOf x=ae .free) /\
  ((relabel scope X.env).names.lookup x=ae .cell\/(relabel scope X.env).names.lookup x=ae .free)/\cl.lookup x=X.env.cells.lookup x
theorem pW{κ:Type}:∀{l:List (Str×κ)}{x:Str}{k:κ},l.lookup x=ae k->(x,k)∈l
 |[],_,_,h=>nomatch h
 | (y,k')::r,x,k,h=>by
  rw[List.lookup_cons]at h;cases e:x==y with
  |true=>
   rw[e]at h;have e':x=y:=by simpa using e
   have h':k'=k:=Bp h;rw[e',h'];exact Am
  |false=>
   rw[e]at h;exact Al _ (pW h)
theorem xI{κ:Type}:∀{l:List (Str×κ)}{x:Str},x∈l.map (·.1)->∃k,l.lookup x=ae k
 |[],_,h=>absurd h (by simp)
 | (y,k')::r,x,h=>by
  rw[List.lookup_cons];cases e:x==y with
  |true=>exact⟨k',rfl⟩
  |false=>
   have ne:¬x=y:=λz=>by rw[z]at e;simp at e
   have h':x∈y::r.map (·.1):=h;rcases A5.mp h' with z|z
   ·exact absurd z ne
   ·exact xI z
theorem OQ{X:Cx}{scope:Fb}{cl:List (Str×Addr)}(nm:List (Str×NameKind))(ks:List Str)(hrel:(relabel scope X.env).names=nm)(hks:cl.map (·.1)=ks)(h3:∀y∈nm,(y.2=.cell\/y.2=.free)->y.1∈ks):
  ∀x,((relabel scope X.env).names.lookup x=ae .cell\/(relabel scope X.env).names.lookup x=ae .free)->∃c,cl.lookup x=ae c:=by
 intro x h;rw[hrel]at h;refine xI ?_;rw[hks];rcases h with h|h
 ·exact h3 _ (pW h) (.inl rfl)
 ·exact h3 _ (pW h) (.inr rfl)
def dX(fr:List (Option Nat))(σ:St):St:=fr.map λo=>o.bind λi=>(σ[i]?).bind id
theorem Lv{fr:List (Option Nat)}{σ:St}{j:Nat}{v:V}(h:(dX fr σ)[j]?=ae (ae v)):∃i,fr[j]?=ae (ae i)/\σ[i]?=ae (ae v):=by
 unfold dX at h;rw[Be]at h;cases e:fr[j]? with
 |none=>rw[e]at h;cases h
 |some o=>
  rw[e]at h;cases o with
  |none=>cases h
  |some i=>
   refine⟨i,rfl,?_⟩;have h':(σ[i]?).bind id=ae v:=Bp h;cases e2:σ[i]? with
   |none=>rw[e2]at h';cases h'
   |some o2=>
    rw[e2]at h';have h2:o2=ae v:=h';rw[h2]
def pQ(X:Cx)(ifs:List Expr)(tt:TT):Prop:=
 ∀(pins:List (Addr×Obj))(s:Ai)(σ:St)(H:Hp)(Q:Bool->Hp->Prop),Inv X pins σ H s->tt σ H Q->
  Az (Bg X.prog X.w) X.A (forIn ifs ah λc r=>if r=ah then do let ok <-isTrue c X.env (eval c X.env);pure (ForInStep.yield ok)else pure (ForInStep.yield r)) (TP X pins σ Q) X.xe s
def xg:TT:=λ_ H Q=>Q ah H
theorem OW{X:Cx}:pQ X [] xg:=λ_ _ _ H _ I h=>wpAny_tests_nil ⟨H,I,h⟩
theorem IU{X:Cx}{c:Expr}{tt:TT}(h:PT X c tt):pQ X [c] tt:=λpins s σ H Q I q=>wpAny_tests_one (h pins s σ H Q I q)
def FG(fr:List (Option Nat))(wi:TI)(g:TG)(tt:TT)(te:TE):TE:=λσ H Q=>wi σ H λJ H1=>∀D,H1 D=af->
 ∃W:Nat->Nat->List V->St->Hp->Prop,(∃m,W 0 m [] (dX fr σ) (upd H1 D (.lst [])))/\∀i m ys τ H,W i m ys τ H->
  ((J.stop i H/\Q (.ref D) H)\/(J.go i H/\ys.length < Ao/\∀x H',J.yld i H x H'->g x τ H' λτ2 H2=>tt τ2 H2 λb H3=>
   if b=ah then te τ2 H3 (λy H4=>H4 D=ae (.lst ys)/\∃m',m' < m/\W (i+1) m' (ys++[y]) τ2 (upd H4 D (.lst (ys++[y]))))else ∃m',m' < m/\W (i+1) m' ys τ2 H3))
section
variable{X:Cx}{N:List Str}{scope:Fb}{cl:List (Str×Addr)}{fr:List (Option Nat)}{pins:List (Addr×Obj)}{σ:St}{H:Hp}{s:Ai}{fp:List Addr}
theorem JB(S:CompSc X N scope cl fr)(I:Inv X pins σ H s)(hf:∀b∈fp,dh X pins H b)(hlt:∀b∈fp,b < s.heap.objs.size):(fK X N scope cl s H fp).Ok where
 mod:=I.ok.mod
 kind:=S.kind
 glob:=I.ok.glob
 blt:=I.ok.blt
 above:=Av _
 inj:=λx y c a b=>I.ok.inj x y c (S.sub x c a) (S.sub y c b)
 has:=λx h=>S.has x h
 cab:=λx c h=>nomatch h
 hd:=I.ok.hd
 frames:=I.ok.frames
 stk:=.inl rfl
 exf:=λb hb=>⟨Bf (hlt b hb),λx c e=>(hf b hb).2.2.2.2.1 x c (S.sub x c e)⟩
 bs:=I.bs
 bsz:=An I.ok.bsz I.sz
 noex:=λb o e hb=>by
  rcases(hf b hb).2.2.2.1 with z|z
  ·exact I.ok.noex b o e z
  ·exact absurd (Bn (Ar (I.ok.bs b o e).1) z) (Fs _)
 exfs:=λb hb z=>by
  rcases A5.mp (I.stkSub b z)with e|e
  ·exact(hf b hb).2.1 e
  ·exact(hf b hb).2.2.1 e
 funs:=I.stack
 frf:=I.stkFree
theorem JY{h₁:Heap}{t':Nat}(S:CompSc X N scope cl fr)(I:Inv X pins σ H s)(hf:∀b∈fp,dh X pins H b)(hlt:∀b∈fp,b < s.heap.objs.size)
  {ob:Obj} (hsb:Dz s.heap.objs.size (s.heap.push ob) h₁) {m:Str->Option Af} (hn:h₁.Ns s.heap.objs.size m):
  Inv (fK X N scope cl s H fp) [] (dX fr σ) H {s with heap:=h₁,toks:=t'}:=by
 have old:∀b o,s.heap.get? b=ae o->h₁.get? b=ae o:=λb o e=>(hsb.2 b (Bf (Ar e))).trans (Ae _ e);refine⟨JB S I hf hlt,rfl,I.bare,Un.kept old,⟨m,hn,λj x v e1 e2 e3=>?_⟩,λx c e=>?_,I.fresh,λx c e=>I.freeC x c (S.sub x c e),λp hp=>?_,I.hok.kept old,?_⟩
 ·obtain⟨i,f1,f2⟩:=Lv e2;obtain⟨y,g1,g2,g3,g4,g5,g6⟩:=S.fre j i f1;have e1':N[j]?=ae x:=e1;rw[g1]at e1';have exy:y=x:=Bp e1';subst exy;obtain⟨m0,hn0,hl⟩:=I.loc;obtain⟨u,r,l⟩:=hl i y v g2 f2 g3;refine⟨u,r,.inr ⟨g5,?_⟩⟩;rcases l with⟨k,_⟩|⟨k,c,e,z⟩
  ·rcases g4 with q|q
   ·rw[q]at k;cases k
   ·rw[q]at k;cases k
  ·exact⟨c,g6.trans e,z.keeps old⟩
 ·obtain⟨v,z⟩:=I.cell x c (S.sub x c e);exact⟨v,z.keeps old⟩
 ·exact absurd hp (by simp[fK])
 ·show(dX fr σ).length=N.length;unfold dX;rw[Ap,S.len]
theorem KL{H':Hp}{τ:St}{s0 s':Ai}{h':Heap}(I:Inv X pins σ H s0)(hf:∀b∈fp,dh X pins H b)(I':Inv (fK X N scope cl s0 H fp) [] τ H' s')(hs:Dz s0.heap.objs.size s'.heap h'):
  Inv X pins σ H' {s' with heap:=h'}:=by
 have hC:H' s0.heap.objs.size=af:=I'.free;have u:Un (cH X.stack) fp H H' s0.heap s'.heap:=I'.base;have ne:∀b o,s0.heap.get? b=ae o->b≠s0.heap.objs.size:=λb o e=>Bf (Ar e);have hok':HOk X.prog X.w H' h':=λb o e=>by
  have q:ObjOk X.prog X.w H' s'.heap b o:=I'.hok b o e;refine q.stay (λc v hc z=>(hs.2 c ?_).trans z) (λ_ z=>z) λ_ _ z=>z
  rintro rfl
  rcases hc with z|z
  ·rw[<-z,hC]at e;cases e
  ·rw[hC]at z;cases z
 refine I.call' (s':={ s' with heap:=h'}) (ch:=fp) I'.os ?_ hok' I'.bare λb hb=>?_
 ·refine⟨λb o e n h1 h2=>(hs.2 b (ne b o e)).trans (u.keep b o e n h1 h2),λb o e n h1 h2=>?_,u.free,λb o e h2=>?_,u.tups,u.frzs,u.tbls⟩
  ·obtain⟨sl,z⟩:=u.slot b o e n h1 h2;exact⟨sl,(hs.2 b (ne b o e)).trans z⟩
  ·obtain⟨o',z⟩:=u.there b o e h2;exact⟨o',(hs.2 b (ne b o e)).trans z⟩
 ·obtain⟨_,f1,_,f3,f4,f5⟩:=hf b hb;exact⟨f3,f1,f4,f5⟩
end
theorem Mg{X:Cx}{elt tg iter:Expr}{ifs:List Expr}{scope:Fb}{cl:List (Str×Addr)}{pos:Pos}{N:List Str}{fr:List (Option Nat)}{wi:TI}{g:TG}{tt:TT}{te:TE}
  (hc:X.calm=ah) (S:CompSc X N scope cl fr) (hi:PI X tg iter wi) (hg:∀s H fp,PG (fK X N scope cl s H fp) tg g) (ht:∀s H fp,pQ (fK X N scope cl s H fp) ifs tt)
  (he:∀s H fp,PE (fK X N scope cl s H fp) elt te) (hs:∀x,G2 iter X.env x=pure x:=by intro _;rfl):
  PE X (.ListComp elt [⟨tg,iter,ifs,0⟩] scope pos) (FG fr wi g tt te):=by
 intro pins s σ H Q I h;rw[eval_ListComp];refine wpAny_comprehension_free (use:=af) (cl:=cl) rfl hs S.clos S.kind S.names (bj (hi pins s σ H _ I h) λv s1 h1=>bj h1 λitv s2 h2=>?_);obtain⟨it,fp,tn,J,H2,e,I2,T,st2,f2,q⟩:=h2;subst e;refine Ce (wpAny_newFunctionEnv S.nocell (by intro y hy;simp at hy) (λh₁ hn hsb=>?_) S.kind);dsimp only at hn hsb ⊢;obtain⟨W,⟨m0,w0⟩,turn⟩:=q s2.heap.objs.size I2.fresh
 have I3:Inv X pins σ (upd H2 s2.heap.objs.size (.lst [])) {s2 with heap:=s2.heap.push {cls:=.type "list",dict:=af,data:=.seq ([]:List Af).toArray}}:=I2.lnew (its:=[]) (t':=s2.toks) .nil (Bx _);have key:∀s3:Ai,s3={ s2 with heap:=s2.heap.push {cls:=.type "list",dict:=af,data:=.seq ([]:List Af).toArray}}->Inv X pins σ (upd H2 s2.heap.objs.size (.lst [])) s3->
   ∀(ob:Obj)(mm:Str->Option Af),Dz s3.heap.objs.size (s3.heap.push ob) h₁->h₁.Ns s3.heap.objs.size mm->
   codeAny (Bg X.prog X.w) X.A (.compStart (.ListComp elt [⟨tg,iter,ifs,0⟩] scope pos) 0 (.ref it) (.ref s2.heap.objs.size) (compEnvC scope cl s3.heap.objs.size X.env))
    (compPost (Bg X.prog X.w) X.A X.xe af (EP X pins σ Q) (.ref s2.heap.objs.size) s3.heap.objs.size) {s3 with heap:=h₁,toks:=s3.toks+([]:List (Str×Af)).length}:=?key
 ·exact key _ rfl I3 _ _ hsb hn
 clear I3 hn hsb;intro s3 hs3 I3 ob mm hsb hn;have hfp:∀b∈fp,∃o,s2.heap.get? b=ae o:=λb hb=>let⟨o,e,_⟩:=T.obj _ _ st2 b hb;⟨o,e⟩;have up:∀b o,s2.heap.get? b=ae o->s3.heap.get? b=ae o:=λb o e=>by rw[hs3];exact Ae _ e
 have f3:∀b∈fp,dh X pins (upd H2 s2.heap.objs.size (.lst [])) b:=λb hb=>by
  obtain⟨o,e⟩:=hfp b hb;obtain⟨g0,gr⟩:=f2 b hb;exact⟨by rw[aM (Bf (Ar e))];exact g0,gr⟩
 have hlt:∀b∈fp,b < s3.heap.objs.size:=λb hb=>let⟨o,e⟩:=hfp b hb;Ar (up b o e);generalize hH3:upd H2 s2.heap.objs.size (.lst [])=H3 at I3 f3 w0;have I4:=JY (t':=s3.toks+([]:List (Str×Af)).length) S I3 f3 hlt hsb hn;have st4:tn 0 h₁:=T.keep _ _ _ st2 λb hb o e=>(hsb.2 b (Bf (Ar (up b o e)))).trans (Ae _ (up b o e));have stat:∀{H':Hp},(∀b∈fp,H' b=af)->∀b∈fp,dh (fK X N scope cl s3 H3 fp) [] H' b:=λhn b hb=>by
  obtain⟨_,k1,k2,k3,k4,k5⟩:=f3 b hb;refine⟨hn b hb,Bf (hlt b hb),λz=>?_,.inl hb,λx c e=>k4 x c (S.sub x c e),λp hp=>absurd hp (by simp[fK])⟩;rcases A5.mp (I3.stkSub b z)with e|e
  ·exact k1 e
  ·exact k2 e
 have loop:codeAny (Bg X.prog X.w) X.A (.compLoop (.ListComp elt [⟨tg,iter,ifs,0⟩] scope pos) 0 (.ref it) (.ref s2.heap.objs.size) (compEnvC scope cl s3.heap.objs.size X.env))
   (compPost (Bg X.prog X.w) X.A X.xe af (EP X pins σ Q) (.ref s2.heap.objs.size) s3.heap.objs.size) {s3 with heap:=h₁,toks:=s3.toks+([]:List (Str×Af)).length}:=by
  refine Uj (λn s'=>∃i ys τ Hc,Inv (fK X N scope cl s3 H3 fp) [] τ Hc s'/\tn i s'.heap/\(∀b∈fp,Hc b=af)/\W i n ys τ Hc) ?_ m0 ⟨0,[],dX fr σ,H3,I4,st4,λb hb=>(f3 b hb).1,w0⟩
  rintro n s5 ⟨i,ys,τ,Hc,I5,st5,fr5,w5⟩
  rcases turn i n ys τ Hc w5 with⟨stop,qn⟩|⟨go,hz,step⟩
  ·refine bj (T.done (fK X N scope cl s3 H3 fp) rfl rfl rfl hc i [] s5 τ Hc (λ_ _=>False) I5 (stat fr5) st5 stop) λr s6 ⟨hr,I6⟩=>?_;subst hr;obtain⟨mm,hm,_⟩:=I6.loc;exact⟨mm,hm,λh' hs'=>⟨.ref s2.heap.objs.size,Hc,KL I3 f3 I6 hs',rfl,qn⟩⟩
  ·refine bj (T.item (fK X N scope cl s3 H3 fp) rfl rfl rfl hc i [] s5 τ Hc (λ_ _=>False) I5 (stat fr5) st5 go) λr s6 ⟨u,hr,h6⟩=>?_;subst hr;refine bj h6 λ_ s7 ⟨x,H7,I7,r7,y7,st7,fr7⟩=>?_;have I7':=I7.pinned (stat fr7) (T.obj _ _ st7);refine bj (hg s3 H3 fp _ s7 τ H7 x u _ I7' r7 (step x H7 y7)) λ_ s8 ⟨τ8,H8,I8,q8⟩=>?_;refine bj (ht s3 H3 fp _ s8 τ8 H8 _ I8 q8) λok s9 ⟨H9,I9,q9⟩=>?_;have keep:∀{st:Ai}{τ':St}{H':Hp},Inv (fK X N scope cl s3 H3 fp) ([]++oi fp s7.heap) τ' H' st->tn (i+1) st.heap/\∀b∈fp,H' b=af:=λ{st τ' H'} Ix=>by
    refine⟨T.keep _ _ _ st7 λb hb o e=>(Ix.pin (b,o) (Bb _ (Bb _ (qy hb e)))).1,λb hb=>?_⟩;obtain⟨o,e,d⟩:=T.obj _ _ st7 b hb;exact(Ix.pin (b,o) (Bb _ (Bb _ (qy hb e)))).2.1
   cases ok with
   |false=>
    rw[if_neg Ak]at q9 ⊢;obtain⟨m',hm,w9⟩:=q9;obtain⟨k1,k2⟩:=keep I9;exact⟨m',hm,i+1,ys,τ8,H9,I9.unpinned,k1,k2,w9⟩
   |true=>
    rw[if_pos rfl]at q9 ⊢;refine bj (he s3 H3 fp _ s9 τ8 H9 _ I9 q9) λxv s10 ⟨y,H10,I10,r10,hD,m',hm,w10⟩=>?_;refine bj (wk _ s10 τ8 H10 (.ref s2.heap.objs.size) [y] (.ref s2.heap.objs.size) [xv] (λz H'=>∃m',m' < n/\W (i+1) m' (ys++[y]) τ8 H') I10 rfl (.cons r10 .nil) ⟨_,ys,y,rfl,rfl,hD,hz,m',hm,w10⟩) λz s11 ⟨z',H11,I11,_,m'',hm',w11⟩=>?_;obtain⟨k1,k2⟩:=keep I11;exact⟨m'',hm',i+1,ys++[y],τ8,H11,I11.unpinned,k1,k2,w11⟩
 exact codeAny_compStart_list loop (T.self _ 0 _ _ _ st4 loop)
mutual
inductive RdD(K:Ag)(H:Hp):V->Ah->Prop
 |non:RdD K H .non .none
 |bl (b:Bool):RdD K H (.bl b) (.bool b)
 |int (i:Int):RdD K H (.int i) (.int i)
 |str (x:Str):RdD K H (.str x) (.str x)
 |lst {a:Addr} {xs:List V} {ds:List Ah}:SqL K H a xs->RdAll K H xs ds->RdD K H (.ref a) (.list ds)
 |tup {a:Addr} {xs:List V} {ds:List Ah}:SqT K H a xs->RdAll K H xs ds->RdD K H (.ref a) (.tuple ds)
inductive RdAll(K:Ag)(H:Hp):List V->List Ah->Prop
 |nil:RdAll K H [] []
 |cons {x:V} {xs:List V} {d:Ah} {ds:List Ah}:RdD K H x d->RdAll K H xs ds->RdAll K H (x::xs) (d::ds)
end
section
variable{X:Cx}{pins:List (Addr×Obj)}{σ:St}{H:Hp}{s:Ai}
mutual
theorem RdD.reads(I:Inv X pins σ H s):∀{v:V}{d:Ah}{u:Af},RdD X.K H v d->RelV v u->∃as,Reads s.heap u d as
 |_,_,u,.non,r=>by
  cases(show u=Bv from r);exact⟨_,.none⟩
 |_,_,u,.bl b,r=>by
  cases(show u=Value.bool b from r);exact⟨_,.bool b⟩
 |_,_,u,.int i,r=>by
  obtain⟨t,rfl⟩:=(show ∃t,u=Value.int i t from r);exact⟨_,.int i t⟩
 |_,_,u,.str x,r=>by
  obtain⟨t,rfl⟩:=(show ∃t,u=D4 x t from r);exact⟨_,.str x t⟩
 |_,_,u,.lst (a:=a) h1 h2,r=>by
  cases(show u=Bq a from r);obtain⟨its,rv,⟨o,n,e,c,_,d⟩,_⟩:=I.list h1;obtain⟨as,ha⟩:=RdAll.reads I h2 rv;exact⟨_,.list e c d (by simpa using ha)⟩
 |_,_,u,.tup (a:=a) h1 h2,r=>by
  cases(show u=Bq a from r);obtain⟨its,rv,⟨o,e,c,n,d⟩,_⟩:=I.tuple h1;obtain⟨as,ha⟩:=RdAll.reads I h2 rv;exact⟨_,.tuple e c d (by simpa using ha)⟩
theorem RdAll.reads(I:Inv X pins σ H s):∀{vs:List V}{ds:List Ah}{us:List Af},RdAll X.K H vs ds->Vals vs us->∃as,ReadsAll s.heap us ds as
 |_,_,_,.nil,.nil=>⟨_,.nil⟩
 |_,_,_,.cons h1 h2,.cons r1 r2=>by
  obtain⟨as,ha⟩:=RdD.reads I h1 r1;obtain⟨bs,hb⟩:=RdAll.reads I h2 r2;exact⟨_,.cons ha hb⟩
end
end
def Small(d:Ah):Prop:=De d=ah/\Dl d<=20/\Gb d<=2 ^ 20/\Eg 13 d=ah/\D5 d=ah
theorem Small.len{d:Ah}(h:Small d):d.shown.length<=Ao:=by
 have hl:PyData.layable0 d=ah:=by
  unfold PyData.layable0;rw[h.1,decide_eq_true (show Dl d<=64 by have:=h.2.1;omega),decide_eq_true h.2.2.1];rfl
 have:=shown_le13 hl h.2.2.2.1;rw[El];omega
def pq(K:Ag):R2:=λx y H Q=>∃a b xs,x=.ref a/\y=.ref b/\SqL K H a xs/\SqL K H b []/\Q (.bl xs.isEmpty) H
theorem MO{X:Cx}(hu:X.A.units < cLine):OpR X (B8 .Eq) (pq X.K):=by
 intro pins s σ H x y v u Q I rx ry h;obtain⟨a,b,xs,rfl,rfl,ha,hb,q⟩:=h;cases(show v=Bq a from rx);cases(show u=Bq b from ry);obtain⟨its,r1,p1,_⟩:=I.list ha;obtain⟨its2,r2,p2,_⟩:=I.list hb;have e2:its2=[]:=Vals.zero r2;subst e2;cases r1 with
 |nil=>exact PySem.SeqAt.eq_listAt (e:=λ_=>ah) p1.isList p2.isList rfl hu (λj h1=>absurd h1 (by simp)) ⟨.bl ah,H,I,(by rfl),q⟩
 |cons r1 r3=>exact PySem.SeqAt.eq_list_lengthsAt p1.isList p2.isList (by simp) hu ⟨.bl ai,H,I,rfl,q⟩
def CL(K:Ag):R2:=λx y H Q=>∃a b xs ys,x=.ref a/\y=.ref b/\SqT K H a xs/\SqT K H b ys/\ys≠[]/\xs.length+ys.length<=Ao /\
 (xs=[]->Q (.ref b) H)/\(xs≠[]->∀p,H p=af->Q (.ref p) (upd H p (.tup (xs++ys))))
theorem op_catA{X:Cx}:OpR X (E5 .Add) (CL X.K):=by
 intro pins s σ H x y v u Q I rx ry h;obtain⟨a,b,xs,ys,rfl,rfl,ha,hb,hy,hz,q0,q2⟩:=h;by_cases hx:xs=[]
 ·cases(show v=Bq a from rx);cases(show u=Bq b from ry);obtain⟨its,r1,p1,_⟩:=I.tuple ha;obtain⟨its2,r2,p2,_⟩:=I.tuple hb;obtain⟨⟨cls,dd,data,sl⟩,ho,hc,n,hd⟩:=id p1;obtain⟨⟨cls2,dd2,data2,sl2⟩,ho2,hc2,n2,hd2⟩:=id p2;simp only at hc hd hc2 hd2;subst hc hd hc2 hd2;have hi:its=[]:=r1.nil_iff.mpr hx;exact concat_meets ⟨_,ho,rfl⟩ ⟨_,ho2,rfl⟩ noFill_tuple_add seq_tuple_add Gk Gf (F5 _ _)
   (tuple_addW0 a b its.toArray its2.toArray n n2 dd dd2 sl sl2 (by simp[hi])) ⟨ho,ho2,⟨.ref b,H,I,rfl,q0 hx⟩⟩
 ·exact op_catT pins s σ H (.ref a) (.ref b) v u Q I rx ry ⟨a,b,xs,ys,rfl,rfl,ha,hb,hx,hz,λe=>absurd e hy,λ_=>q2 hx⟩
theorem K4{X:Cx}{T:String}:CallR X (.builtin "isinstance") (λxs H Q=>∃x t b,xs=[x,.ty T]/\TyOf X.K H x t/\PySem.W.kitOne X.K t (.type T)=ae b/\Q (.bl b) H):=by
 intro pins s σ H xs us Q I r h;obtain⟨x,t,b,rfl,ty,e,q⟩:=h;obtain⟨u,u',rfl,ru,ru'⟩:=EO r;cases(show u'=Dn T from ru');exact NZ I ru ty e λtk=>⟨.bl b,H,I.tok tk,rfl,q⟩
section
variable{X:Cx}{pins:List (Addr×Obj)}{σ:St}{A:B3}{R:Result->Ai->Prop}
theorem lX{n:Nat}(h:n<=1000):n<=Ao:=F6 (AN h)
end
def zS(x:Str):It:=⟨λi _=>i < x.cps.size,λi H y H'=>H'=H/\∃c,x.cps[i]?=ae c/\y=.str ⟨#[c]⟩,λi _=>i=x.cps.size⟩
theorem GH{P:Bj}{w:Bu}{K:Ag}{tg:Expr}{T:String}{x:Str}{t:Tok}(it:Addr)
  (hn:["enumerate","zip","dict_itemiterator","dict_reverseitemiterator","odict_iterator","itertools.zip_longest","itertools.pairwise"].contains T=ai)
  (hW:∀A:B3,A.handled=af->Walks P w A it [it] [it] x.cps.size (SignAt x) (λi h=>h.IsStrIter it T x t i))
  (hS:∀(A:B3)(i:Nat)(s:Ai)(Q:Af->Ai->Prop)(E:Af->Ai->Prop),s.heap.IsStrIter it T x t i->Q (.ref it) s->Az (Bg P w) A (pyIter (.ref it)) Q E s):
  Turn P w K tg (zS x) [it] it (λi h=>h.IsStrIter it T x t i) where
 mem:=by simp
 obj:=λi h st b hb=>by
  have e:b=it:=by simpa using hb
  subst e;obtain⟨o,e,c,d⟩:=st;exact⟨o,e,λv z=>by rw[d]at z;cases z⟩
 keep:=λi h h' st k=>let⟨o,ho,r⟩:=st;⟨o,k it (by simp) o ho,r⟩
 item:=by
  intro X hP hw hK hc i pins s σ H E I hf st hg;subst hP hw hK;obtain⟨f0,f1,f2,f3,f4,f5⟩:=hf it (by simp);refine(hW X.A (I.ok.hd hc)).item i s _ _ hg st λv h' tk hv st' kk=>?_;obtain⟨c,u,hcu,rfl⟩:=hv;have I1:Inv X pins σ H {s with heap:=h',toks:=tk}:=I.turned (λb o hb e=>kk b o (by simpa using hb) e) f0 f1 f3 f4 f5;obtain⟨o,e,cc,d⟩:=id st';exact⟨_,rfl,mK (s:={ s with heap:=h',toks:=tk}) e cc d hn ⟨.str ⟨#[c]⟩,H,I1,⟨u,rfl⟩,⟨rfl,c,hcu,rfl⟩,st',λb hb=>(hf b hb).1⟩⟩
 done:=by
  intro X hP hw hK hc i pins s σ H E I hf st hg;subst hP hw hK;obtain⟨f0,f1,f2,f3,f4,f5⟩:=hf it (by simp);have hi:i=x.cps.size:=hg;subst hi;exact(hW X.A (I.ok.hd hc)).done s _ _ st λh' tk kk=>⟨rfl,I.turned (λb o hb e=>kk b o (by simpa using hb) e) f0 f1 f3 f4 f5⟩
 self:=λA i s Q E st h=>hS A i s Q E st h
def mR(tl:TE):TI:=λσ H R=>tl σ H λv H1=>∃x,v=.str x/\R (zS x) H1
theorem Tj{X:Cx}{tg l:Expr}{tl:TE}(hl:PE X l tl):PI X tg l (mR tl):=by
 intro pins s σ H R I h;refine bj (hl pins s σ H _ I h) λv s1 ⟨y,H1,I1,r1,q1⟩=>?_;obtain⟨x,e,q⟩:=q1;subst e;obtain⟨t,rfl⟩:=(show ∃t,v=D4 x t from r1);have fp:∀(o:Obj)(b:Addr),b∈[s1.heap.objs.size]->dh X pins H1 b:=λo b hb=>by
  have e:b=s1.heap.objs.size:=by simpa using hb
  subst e;exact I1.fpOk (Av _) (I1.hok.fresh (Av _))
 cases ha:x.cps.all (· < 128)
 ·refine wpAny_pyIter_wide ha ?_;exact⟨s1.heap.objs.size,[s1.heap.objs.size],_,_,H1,rfl,I1.kept (t':=s1.toks) λb o e=>Ae _ e,
   GH (T:="str_iterator") (t:=t) _ ∎ (λA hA=>Walks.strWide hA _ x t) (λ_ _ _ _ _ st h=>wpAny_pyIter_striter_wide st h),⟨_,Ay _ rfl,rfl,rfl⟩,fp default,q⟩
 ·refine wpAny_pyIter_ascii ha ?_;exact⟨s1.heap.objs.size,[s1.heap.objs.size],_,_,H1,rfl,I1.kept (t':=s1.toks) λb o e=>Ae _ e,
   GH (T:="str_ascii_iterator") (t:=t) _ ∎ (λA hA=>Walks.strAscii hA _ x t) (λ_ _ _ _ _ st h=>wpAny_pyIter_striter_ascii st h),⟨_,Ay _ rfl,rfl,rfl⟩,fp default,q⟩
theorem JG(bs:List Bool):((Cs bs.length).all λi=>(bs[i]?).getD ah)=bs.all id:=by
 rw[G9,C8,C8]
 constructor
 ·intro h b hb;obtain⟨i,hi,rfl⟩:=List.mem_iff_getElem.mp hb;have:=h i (List.mem_range.mpr hi);rw[As hi]at this;exact this
 ·intro h i hi;have hi':=List.mem_range.mp hi;rw[As hi'];exact h _ (Gy hi')
theorem IY{X:Cx}(hh:X.A.handled=af):CallR X (.builtin "all") (λxs H Q=>∃(p:Addr)(bs:List Bool),xs=[.ref p]/\H p=ae (.lst (bs.map V.bl))/\Q (.bl (bs.all id)) H):=by
 intro pins s σ H xs us Q I r h;obtain⟨p,bs,rfl,hp,q⟩:=h;obtain⟨u,rfl,ru⟩:=iO r;cases(show u=Bq p from ru);obtain⟨its,rv,pl,_⟩:=I.list (SqL.of (K:=X.K) hp);have hl:s.heap.IsList p its.toArray:=pl.isList;have hlt:p < s.heap.objs.size:=by obtain⟨_,e,_⟩:=hl;exact Ar e
 have hlen:bs.length=its.length:=by have:=rv.length;rwa [Ap]at this
 refine call_all_walk (wpAny_pyIter_list hl ?_);refine⟨s.heap.objs.size,[s.heap.objs.size,p],[s.heap.objs.size],its.toArray.size,_,_,λi=>(bs[i]?).getD ah,rfl,Walks.list (A:=X.A.in1) hh _ p (Bf hlt) its.toArray,
  ⟨⟨_,Ay _ rfl,rfl,rfl⟩,hl.push _⟩,λi v s' Q' E' hP hQ=>?_,λh' tk hk=>?_⟩
 ·have hi:its[i]?=ae v:=by simpa using hP
  have hib:i < bs.length:=by rw[hlen];exact(Bs.mp hi).1
  have hx:(bs.map V.bl)[i]?=ae (V.bl bs[i]):=by simp[hib]
  obtain⟨u,hu,ru⟩:=rv.get hx;rw[hi]at hu;cases(Bp hu);cases(show v=Value.bool bs[i]from ru);dsimp only at hQ;rw[As hib,Option.getD_some]at hQ;exact Ec hQ
 ·have e:((Cs its.toArray.size).all λi=>(bs[i]?).getD ah)=bs.all id:=by
   rw[Aw,<-hlen];exact JG bs
  rw[e];refine⟨.bl (bs.all id),H,I.kept λb x e=>hk b x (λhm=>?_) (Ae _ e),rfl,q⟩;rw[A6.mp hm]at e;exact Fs _ (Ar e)
theorem MW{X:Cx}:OpR X (B8 .LtE) (λx y H Q=>∃i j,x=.str i/\y=.str j/\Q (.bl (!decide (j.cps.toList < i.cps.toList))) H):=by
 intro pins s σ H x y v u Q I rx ry h;obtain⟨i,j,rfl,rfl,q⟩:=h;obtain⟨t,rfl⟩:=rx;obtain⟨t',rfl⟩:=ry;exact P.le_str (cM I q rfl)
theorem J8{X:Cx}:OpR X (B8 .Gt) (λx y H Q=>∃i j,x=.str i/\y=.str j/\Q (.bl (decide (j.cps.toList < i.cps.toList))) H):=by
 intro pins s σ H x y v u Q I rx ry h;obtain⟨i,j,rfl,rfl,q⟩:=h;obtain⟨t,rfl⟩:=rx;obtain⟨t',rfl⟩:=ry;exact P.gt_str (cM I q rfl)
def oW:Ah->String
 |.none=>"NoneType"
 |.bool _=>"bool"
 |.int _=>"int"
 |.str _=>"str"
 |.list _=>"list"
 |.tuple _=>"tuple"
 |.dict _=>"dict"
def fS(T:String)(d:Ah):Bool:=oW d==T || (T=="int"&&oW d=="bool")
def cz(h:Str):Ah->Bool
 |.str x=>decide (x=h)
 |_=>ai
end L2
namespace Nb
open PySem L2
def mW:Bool:=ai
def FE:List V:=[]
end Nb
set_option Elab.async false
set_option maxRecDepth 100000
namespace Nb
open PySem L2
def Kp(t:Addr)(H H':Hp):Prop:=∀b o,H b=ae o->b≠t->H' b=ae o
theorem Kp.refl(t:Addr)(H:Hp):Kp t H H:=λ_ _ h _=>h
theorem Kp.trans{t:Addr}{H H1 H2:Hp}(a:Kp t H H1)(b:Kp t H1 H2):Kp t H H2:=λc o h n=>b c o (a c o h n) n
theorem Kp.new{t p:Addr}{H:Hp}{o:HO}(h:H p=af):Kp t H (upd H p o):=λc o' e _=>by
 rw[aM (bQ e h)];exact e
theorem Kp.tape{t:Addr}{H:Hp}{o:HO}:Kp t H (upd H t o):=λc o' e n=>by
 rw[aM n];exact e
structure TL where
 s:Addr
 g:Addr
def ju(l:TL):List V:=if mW=ah then[.ref l.g]else[]
structure Tp(H:Hp)(t:Addr)(l:TL)(ns:List Int)(n:Int):Prop where
 ob:∃a b:Int,H t=ae (.lst (.ref l.s::.int a::.int b::ju l))/\0<=a/\a<=n
 ls:H l.s=ae (.lst (ns.map V.int))
 len:ns.length<=63
 ag:mW=ah->H l.g=ae (.lst FE)
 gne:l.g≠t
theorem Tp.ne{H:Hp}{t:Addr}{l:TL}{ns:List Int}{n:Int}(T:Tp H t l ns n):t≠l.s:=by
 obtain⟨a,b,h,_⟩:=T.ob;refine MS h T.ls λz=>?_;have z':(.ref l.s::.int a::.int b::ju l:List V)=ns.map V.int:=HO.lst.inj z;cases ns with
 |nil=>cases z'
 |cons m r=>
  rw[Aq]at z';have:=(Fd z').1;cases this
theorem Tp.other{H:Hp}{t p:Addr}{l:TL}{ns:List Int}{n:Int}{o:HO}(T:Tp H t l ns n)(h1:t≠p)(h2:l.s≠p)(h3:mW=ah->l.g≠p):Tp (upd H p o) t l ns n:=by
 obtain⟨a,b,e,h⟩:=T.ob;exact⟨⟨a,b,by rw[aM h1];exact e,h⟩,by rw[aM h2];exact T.ls,T.len,λz=>by rw[aM (h3 z)];exact T.ag z,T.gne⟩
theorem Tp.new{H:Hp}{t p:Addr}{l:TL}{ns:List Int}{n:Int}{o:HO}(T:Tp H t l ns n)(h:H p=af):Tp (upd H p o) t l ns n:=by
 obtain⟨a,b,e,_⟩:=T.ob;exact T.other (bQ e h) (bQ T.ls h) λz=>bQ (T.ag z) h
theorem RW{xs:List V}{r:Int}(h0:0<=r)(h1:r < xs.length):∃v,dB xs r=ae v/\v∈xs:=by
 obtain⟨j,rfl⟩:=Int.eq_ofNat_of_zero_le h0;have hj:j < xs.length:=by omega
 exact⟨xs[j],gh (As hj),Gy hj⟩
theorem small{n:Nat}(h:n<=1000):n<=Ao:=F6 (AN h)
theorem RN:B9 "tuple"=ae (.type "tuple"):=by decide +kernel
theorem SW:B9 "int"=ae (.type "int"):=by decide +kernel
theorem Po:B9 "str"=ae (.type "str"):=by decide +kernel
theorem JZ:B9 "repr"=ae (.builtin "repr"):=by decide +kernel
theorem EA:B9 "isinstance"=ae (.builtin "isinstance"):=by decide +kernel
theorem Tu:B9 "all"=ae (.builtin "all"):=by decide +kernel
theorem wV:B9 "list"=ae (.type "list"):=by decide +kernel
theorem Ih:B9 "bool"=ae (.type "bool"):=by decide +kernel
theorem Ka{xs:List V}(h:xs.length<=63):eY xs af (ae 63)=xs:=by
 unfold eY;have e1:HT.sIx xs.length 0 af=0:=rfl;have e2:HT.sIx xs.length xs.length (ae 63)=xs.length:=by
  have e:=HT.sIx_nat xs.length xs.length 63;rw[show((63:Nat):Int)=63 from rfl]at e;rw[e];omega
 rw[e1,e2,List.drop_zero,Nat.sub_zero,Gx]
def mM(K:Ag):Sp:=λvs H Q _=>∃(a:Addr)(ns:List Int),vs=[.ref a]/\SqL K H a (ns.map V.int)/\ns.length<=63 /\
 ∀(t:Addr)(l:TL)(H':Hp),Tp H' t l ns 0->(∀b o,H b=ae o->H' b=ae o)->Q (.ref t) H'
def FH:Sp:=λvs H Q _=>∃(t:Addr)(l:TL)(ns:List Int)(n many:Int),vs=[.ref t,.int many]/\Tp H t l ns n/\n < 2 ^ 40/\0 < many/\many < 1073741824 /\
 ∀(r:Int)(H':Hp),0<=r->r < many->Tp H' t l ns (n+1)->Kp t H H'->Q (.int r) H'
end Nb
namespace DL
open PySem L2 Nb
abbrev D:=Ah
mutual
inductive RdX(H:Hp)(B:Addr->Prop):V->Ah->Prop
 |non:RdX H B .non .none
 |bl (b:Bool):RdX H B (.bl b) (.bool b)
 |int (i:Int):RdX H B (.int i) (.int i)
 |str (x:Str) (h:x.length<=Ao):RdX H B (.str x) (.str x)
 |lst {a:Addr} {xs:List V} {ds:List Ah}:H a=ae (.lst xs)->¬B a->xs.length<=Ao->RdXs H B xs ds->RdX H B (.ref a) (.list ds)
 |tup {a:Addr} {xs:List V} {ds:List Ah}:H a=ae (.tup xs)->¬B a->xs.length<=Ao->RdXs H B xs ds->RdX H B (.ref a) (.tuple ds)
inductive RdXs(H:Hp)(B:Addr->Prop):List V->List Ah->Prop
 |nil:RdXs H B [] []
 |cons {x:V} {xs:List V} {d:Ah} {ds:List Ah}:RdX H B x d->RdXs H B xs ds->RdXs H B (x::xs) (d::ds)
end
mutual
theorem RdX.move{H H':Hp}{B B':Addr->Prop}(k:∀b o,H b=ae o->¬B b->H' b=ae o/\¬B' b):∀{v:V}{d:Ah},RdX H B v d->RdX H' B' v d
 |_,_,.non=>.non
 |_,_,.bl b=>.bl b
 |_,_,.int i=>.int i
 |_,_,.str x h=>.str x h
 |_,_,.lst h1 h2 h3 h4=>.lst (k _ _ h1 h2).1 (k _ _ h1 h2).2 h3 (RdXs.move k h4)
 |_,_,.tup h1 h2 h3 h4=>.tup (k _ _ h1 h2).1 (k _ _ h1 h2).2 h3 (RdXs.move k h4)
theorem RdXs.move{H H':Hp}{B B':Addr->Prop}(k:∀b o,H b=ae o->¬B b->H' b=ae o/\¬B' b):∀{vs:List V}{ds:List Ah},RdXs H B vs ds->RdXs H' B' vs ds
 |_,_,.nil=>.nil
 |_,_,.cons h1 h2=>.cons (RdX.move k h1) (RdXs.move k h2)
end
section
variable{H H':Hp}{B B':Addr->Prop}{v:V}{d:Ah}{vs ws:List V}{ds es:List Ah}{t:Addr}
theorem RdX.kp(k:Kp t H H')(ht:B t)(h:RdX H B v d):RdX H' B v d:=h.move λb o e n=>⟨k b o e λz=>n (z▸ht),n⟩
theorem RdXs.kp(k:Kp t H H')(ht:B t)(h:RdXs H B vs ds):RdXs H' B vs ds:=h.move λb o e n=>⟨k b o e λz=>n (z▸ht),n⟩
theorem RdX.less(k:∀b,B' b->B b)(h:RdX H B v d):RdX H B' v d:=h.move λb o e n=>⟨e,λz=>n (k b z)⟩
theorem RdXs.less(k:∀b,B' b->B b)(h:RdXs H B vs ds):RdXs H B' vs ds:=h.move λb o e n=>⟨e,λz=>n (k b z)⟩
theorem RdXs.keep(k:∀b o,H b=ae o->¬B b->H' b=ae o)(h:RdXs H B vs ds):RdXs H' B vs ds:=h.move λb o e n=>⟨k b o e n,n⟩
theorem RdXs.len:∀{vs:List V}{ds:List Ah},RdXs H B vs ds->vs.length=ds.length
 |_,_,.nil=>rfl
 |_,_,.cons _ t=>by rw[Bd,Bd,RdXs.len t]
theorem RdXs.getD:∀{vs:List V}{ds:List Ah}{i:Nat}{d:Ah},RdXs H B vs ds->ds[i]?=ae d->∃v,vs[i]?=ae v/\RdX H B v d
 |_,_,_,_,.nil,e=>by simp at e
 |_,_,0,_,.cons h _,e=>by
  simp at e;subst e;exact⟨_,rfl,h⟩
 |_,_,i+1,d,.cons _ t,e=>by
  obtain⟨v,h1,h2⟩:=RdXs.getD (i:=i) (d:=d) t (by simpa using e);exact⟨v,by simpa using h1,h2⟩
theorem RdXs.append:∀{vs ws:List V}{ds es:List Ah},RdXs H B vs ds->RdXs H B ws es->RdXs H B (vs++ws) (ds++es)
 |_,_,_,_,.nil,h=>h
 |_,_,_,_,.cons h1 h2,h=>.cons h1 (RdXs.append h2 h)
theorem RdXs.take:∀{vs:List V}{ds:List Ah}(n:Nat),RdXs H B vs ds->RdXs H B (vs.take n) (ds.take n)
 |_,_,0,_=>.nil
 |_,_,_+1,.nil=>.nil
 |_,_,n+1,.cons r t=>.cons r (RdXs.take n t)
theorem RdXs.drop:∀{vs:List V}{ds:List Ah}(n:Nat),RdXs H B vs ds->RdXs H B (vs.drop n) (ds.drop n)
 |_,_,0,r=>r
 |_,_,_+1,.nil=>.nil
 |_,_,n+1,.cons _ t=>RdXs.drop n t
end
mutual
theorem RdX.rd{K:Ag}{H:Hp}{B:Addr->Prop}:∀{v:V}{d:Ah},RdX H B v d->RdD K H v d
 |_,_,.non=>.non
 |_,_,.bl b=>.bl b
 |_,_,.int i=>.int i
 |_,_,.str x h=>.str x
 |_,_,.lst h1 h2 h3 h4=>.lst (SqL.of h1) (RdXs.rd h4)
 |_,_,.tup h1 h2 h3 h4=>.tup (SqT.of h1) (RdXs.rd h4)
theorem RdXs.rd{K:Ag}{H:Hp}{B:Addr->Prop}:∀{vs:List V}{ds:List Ah},RdXs H B vs ds->RdAll K H vs ds
 |_,_,.nil=>.nil
 |_,_,.cons h1 h2=>.cons (RdX.rd h1) (RdXs.rd h2)
end
inductive Ob where
 |o|p (d:Ah)|k (m:List (b9×Ah))|q (d:Ah) (m:List (b9×Ah))
inductive Wv where
 |d (x:Ah)|tp|dk (kvs:List (b9×Ah))|ln (ds:List Ah)|ob (o:Ob)
def Wv.lent:Wv->Bool
 |.dk _=>ah
 |.ln _=>ah
 |_=>ai
inductive SV where
 |w (x:Wv)|own (ds:List Ah)|odk (kvs:List (b9×Ah))|odt (kvs:List (List b9×Ah))
abbrev Sl:=List (Option SV)
def RdK(H:Hp)(B:Addr->Prop):List (b9×V)->List (b9×Ah)->Prop:=Paired λp q=>p.1=q.1/\RdX H B p.2 q.2
theorem RdK.move{H H':Hp}{B B':Addr->Prop}(k:∀b o,H b=ae o->¬B b->H' b=ae o/\¬B' b){l:List (b9×V)}{m:List (b9×Ah)}(h:RdK H B l m):RdK H' B' l m:=
 Paired.mapP h λ_ _ z=>⟨z.1,z.2.move k⟩
def RdT(H:Hp)(B:Addr->Prop):List (List b9×V)->List (List b9×Ah)->Prop:=Paired λp q=>p.1=q.1/\RdX H B p.2 q.2
theorem RdT.move{H H':Hp}{B B':Addr->Prop}(k:∀b o,H b=ae o->¬B b->H' b=ae o/\¬B' b){l:List (List b9×V)}{m:List (List b9×Ah)}(h:RdT H B l m):RdT H' B' l m:=
 Paired.mapP h λ_ _ z=>⟨z.1,z.2.move k⟩
def ORel(H:Hp)(B:Addr->Prop)(v:V):Ob->Prop
 |.o=>∃a,v=.ref a
 |.p d=>∃a x y,v=.ref a/\H a=ae (.tup [x,y])/\¬B a/\RdX H B x d
 |.k m=>∃a l,v=.ref a/\H a=ae (.dK l)/\¬B a/\RdK H B l m
 |.q d m=>∃a x b l,v=.ref a/\H a=ae (.tup [x,.ref b])/\¬B a/\RdX H B x d/\H b=ae (.dK l)/\¬B b/\RdK H B l m
theorem ORel.move{H H':Hp}{B B':Addr->Prop}(k:∀b o,H b=ae o->¬B b->H' b=ae o/\¬B' b){v:V}{o:Ob}(h:ORel H B v o):ORel H' B' v o:=by
 cases o with
 |o=>exact h
 |p d=>
  obtain⟨a,x,y,e,h1,h2,h3⟩:=h;exact⟨a,x,y,e,(k _ _ h1 h2).1,(k _ _ h1 h2).2,h3.move k⟩
 |k m=>
  obtain⟨a,l,e,h1,h2,h3⟩:=h;exact⟨a,l,e,(k _ _ h1 h2).1,(k _ _ h1 h2).2,h3.move k⟩
 |q d m=>
  obtain⟨a,x,b,l,e,h1,h2,h3,h4,h5,h6⟩:=h;exact⟨a,x,b,l,e,(k _ _ h1 h2).1,(k _ _ h1 h2).2,h3.move k,(k _ _ h4 h5).1,(k _ _ h4 h5).2,h6.move k⟩
def WRel(H:Hp)(B:Addr->Prop)(t:Addr)(v:V):Wv->Prop
 |.d x=>RdX H B v x
 |.tp=>v=.ref t
 |.dk kvs=>∃a l,v=.ref a/\H a=ae (.dK l)/\a≠t/\RdK H B l kvs
 |.ln ds=>∃a xs,v=.ref a/\H a=ae (.lst xs)/\a≠t/\xs.length<=Ao/\RdXs H B xs ds
 |.ob o=>ORel H B v o
def SRel(H0:Hp)(H:Hp)(B:Addr->Prop)(t:Addr)(v:V):SV->Prop
 |.w x=>WRel H B t v x/\(x.lent=ah->∃a,v=.ref a/\H0 a≠af)
 |.own ds=>∃a xs,v=.ref a/\H a=ae (.lst xs)/\B a/\H0 a=af/\xs.length<=Ao/\RdXs H B xs ds
 |.odk kvs=>∃a l,v=.ref a/\H a=ae (.dK l)/\B a/\H0 a=af/\l.length<=1000/\RdK H B l kvs
 |.odt kvs=>∃a l,v=.ref a/\H a=ae (.dT l)/\B a/\H0 a=af/\l.length<=1000/\RdT H B l kvs
def SV.isOwn:SV->Bool
 |.w _=>ai
 |_=>ah
structure Ctx where
 t:Addr
 l:TL
 ns:List Int
 H0:Hp
 B0:Addr->Prop
 fz:Hp
structure Rel(C:Ctx)(H:Hp)(B:Addr->Prop)(σ:St)(δ:Sl)(n:Int):Prop where
 tp:Tp H C.t C.l C.ns n
 kp:Kp C.t C.H0 H
 t0:C.H0 C.t≠af
 l0:C.H0 C.l.s≠af
 g0:mW=ah->C.H0 C.l.g≠af
 fz:∀b o,C.fz b=ae o->H b=ae o/\¬B b
 bt:B C.t
 b0:∀b,C.B0 b->B b
 ba:∀b,B b->H b≠af
 a0:∀b,C.B0 b->C.H0 b≠af
 sl:∀(i:Nat)(x:SV),δ[i]?=ae (ae x)->∃v,σ[i]?=ae (ae v)/\SRel C.H0 H B C.t v x
 ow:∀(i j:Nat)(x y:SV)(v:V),δ[i]?=ae (ae x)->δ[j]?=ae (ae y)->x.isOwn=ah->y.isOwn=ah->σ[i]?=ae (ae v)->σ[j]?=ae (ae v)->i=j
 len:σ.length=δ.length
theorem WRel.kp{H H':Hp}{B:Addr->Prop}{t:Addr}{v:V}{x:Wv}(k:Kp t H H')(ht:B t)(h:WRel H B t v x):WRel H' B t v x:=by
 cases x with
 |d x=>exact RdX.kp k ht h
 |tp=>exact h
 |dk kvs=>
  obtain⟨a,l,e,h1,h2,h3⟩:=h;exact⟨a,l,e,k _ _ h1 h2,h2,h3.move λb o e n=>⟨k b o e λz=>n (z▸ht),n⟩⟩
 |ln ds=>
  obtain⟨a,l,e,h1,h2,h3,h4⟩:=h;exact⟨a,l,e,k _ _ h1 h2,h2,h3,h4.kp k ht⟩
 |ob o=>exact ORel.move (λb o e n=>⟨k b o e λz=>n (z▸ht),n⟩) h
theorem WRel.less{H:Hp}{B B':Addr->Prop}{t:Addr}{v:V}{x:Wv}(k:∀b,B' b->B b)(h:WRel H B t v x):WRel H B' t v x:=by
 cases x with
 |d x=>exact RdX.less k h
 |tp=>exact h
 |dk kvs=>
  obtain⟨a,l,e,h1,h2,h3⟩:=h;exact⟨a,l,e,h1,h2,h3.move λb o e n=>⟨e,λz=>n (k b z)⟩⟩
 |ln ds=>
  obtain⟨a,l,e,h1,h2,h3,h4⟩:=h;exact⟨a,l,e,h1,h2,h3,h4.less k⟩
 |ob o=>exact ORel.move (λb o e n=>⟨e,λz=>n (k b z)⟩) h
theorem SRel.kp{H0 H H':Hp}{B:Addr->Prop}{t:Addr}{v:V}{x:SV}(k:Kp t H H')(ht:B t)(t0:H0 t≠af)(h:SRel H0 H B t v x):SRel H0 H' B t v x:=by
 cases x with
 |w x=>exact⟨h.1.kp k ht,h.2⟩
 |own ds=>
  obtain⟨a,xs,e,h1,h2,h3,h4,h5⟩:=h;exact⟨a,xs,e,k _ _ h1 (λz=>t0 (z▸h3)),h2,h3,h4,h5.kp k ht⟩
 |odk kvs=>
  obtain⟨a,l,e,h1,h2,h3,h4,h5⟩:=h;exact⟨a,l,e,k _ _ h1 (λz=>t0 (z▸h3)),h2,h3,h4,h5.move λb o e n=>⟨k b o e λz=>n (z▸ht),n⟩⟩
 |odt kvs=>
  obtain⟨a,l,e,h1,h2,h3,h4,h5⟩:=h;exact⟨a,l,e,k _ _ h1 (λz=>t0 (z▸h3)),h2,h3,h4,h5.move λb o e n=>⟨k b o e λz=>n (z▸ht),n⟩⟩
theorem Rel.step{C:Ctx}{H H':Hp}{B:Addr->Prop}{σ:St}{δ:Sl}{n n':Int}(R:Rel C H B σ δ n)(T:Tp H' C.t C.l C.ns n')(k:Kp C.t H H'):Rel C H' B σ δ n' where
 tp:=T
 kp:=R.kp.trans k
 t0:=R.t0
 l0:=R.l0
 g0:=R.g0
 fz:=λb o e=>⟨k b o (R.fz b o e).1 λz=>(R.fz b o e).2 (z▸R.bt),(R.fz b o e).2⟩
 bt:=R.bt
 b0:=R.b0
 ba:=λb hb e=>by
  by_cases z:b=C.t
  ·subst z;obtain⟨x,y,h,_⟩:=T.ob;rw[h]at e;cases e
  ·cases q:H b with
   |none=>exact R.ba b hb q
   |some o=>rw[k b o q z]at e;cases e
 a0:=R.a0
 sl:=λi x e=>by
  obtain⟨v,h1,h2⟩:=R.sl i x e;exact⟨v,h1,h2.kp k R.bt R.t0⟩
 ow:=R.ow
 len:=R.len
theorem Rel.new{C:Ctx}{H:Hp}{B:Addr->Prop}{σ:St}{δ:Sl}{n:Int}{p:Addr}{o:HO}(R:Rel C H B σ δ n)(h:H p=af):Rel C (upd H p o) B σ δ n:=R.step (R.tp.new h) (Kp.new h)
theorem Rel.nb{C:Ctx}{H:Hp}{B:Addr->Prop}{σ:St}{δ:Sl}{n:Int}{p:Addr}(R:Rel C H B σ δ n)(h:H p=af):¬B p:=λz=>R.ba p z h
theorem gO{α:Type}{l:List (Option α)}{i j:Nat}{x y:α}(h:(l.set i (ae x))[j]?=ae (ae y)):(j=i/\y=x)\/(j≠i/\l[j]?=ae (ae y)):=by
 by_cases e:i=j
 ·subst e;rw[Gp]at h;cases q:l[i]? with
  |none=>rw[q]at h;cases h
  |some z=>
   rw[q]at h;exact .inl ⟨rfl,(Bp (Bp h)).symm⟩
 ·rw[Ci e]at h;exact .inr ⟨λz=>e z.symm,h⟩
theorem o3{α:Type}{l:List (Option α)}{i:Nat}{x y:Option α}(h:(l.set i x)[i]?=ae y):i < l.length:=by
 have:=(Bs.mp h).1;rwa [Df]at this
theorem o5{α:Type}{l:List (Option α)}{i:Nat}{x:α}(h:i < l.length):(l.set i (ae x))[i]?=ae (ae x):=by simp[h]
theorem j6{α:Type}{l:List (Option α)}{i j:Nat}{x:α}(h:j≠i):(l.set i (ae x))[j]?=l[j]?:=Ci (λz=>h z.symm)
theorem Rel.set{C:Ctx}{H:Hp}{B:Addr->Prop}{σ:St}{δ:Sl}{n:Int}{i:Nat}{v:V}{x:Wv}(R:Rel C H B σ δ n)(h:WRel H B C.t v x)(hx:x.lent=ai):Rel C H B (σ.set i (ae v)) (δ.set i (ae (.w x))) n where
 tp:=R.tp
 kp:=R.kp
 t0:=R.t0
 l0:=R.l0
 g0:=R.g0
 fz:=R.fz
 bt:=R.bt
 b0:=R.b0
 ba:=R.ba
 a0:=R.a0
 sl:=λj y e=>by
  rcases gO e with⟨rfl,rfl⟩|⟨ne,e'⟩
  ·exact⟨v,o5 (by rw[R.len];exact o3 e),h,λz=>by rw[hx]at z;cases z⟩
  ·obtain⟨u,h1,h2⟩:=R.sl j y e';exact⟨u,by rw[j6 ne];exact h1,h2⟩
 ow:=λj k y z u e1 e2 o1 o2 f1 f2=>by
  rcases gO e1 with⟨rfl,rfl⟩|⟨ne1,e1'⟩
  ·cases o1
  ·rcases gO e2 with⟨rfl,rfl⟩|⟨ne2,e2'⟩
   ·cases o2
   ·rw[j6 ne1]at f1;rw[j6 ne2]at f2;exact R.ow j k y z u e1' e2' o1 o2 f1 f2
 len:=by rw[Df,Df];exact R.len
theorem Rel.mut{C:Ctx}{H:Hp}{B:Addr->Prop}{σ:St}{δ:Sl}{n:Int}{a:Addr}{o:HO}(R:Rel C H B σ δ n)(hb:B a)(h0:C.H0 a=af)
  (ho:∀(i:Nat)(x:SV),δ[i]?=ae (ae x)->x.isOwn=ah->σ[i]?≠ae (ae (.ref a))):Rel C (upd H a o) B σ δ n where
 tp:=R.tp.other (λz=>R.t0 (z▸h0)) (λz=>R.l0 (z▸h0)) (λe z=>R.g0 e (z▸h0))
 kp:=λb o' e ne=>by
  rw[aM (bQ e h0)];exact R.kp b o' e ne
 t0:=R.t0
 l0:=R.l0
 g0:=R.g0
 fz:=λb o' e=>⟨by rw[aM λ(z:b=a)=>(R.fz b o' e).2 (z▸hb)];exact(R.fz b o' e).1,(R.fz b o' e).2⟩
 bt:=R.bt
 b0:=R.b0
 ba:=λb hb' e=>by
  by_cases z:b=a
  ·rw[z,bw]at e;cases e
  ·rw[aM z]at e;exact R.ba b hb' e
 a0:=R.a0
 sl:=λi x e=>by
  obtain⟨v,h1,h2⟩:=R.sl i x e;have mv:∀b o',H b=ae o'->¬B b->upd H a o b=ae o'/\¬B b:=λb o' e n=>⟨by rw[aM λ(z:b=a)=>n (z▸hb)];exact e,n⟩;refine⟨v,h1,?_⟩;cases x with
  |w x=>
   refine⟨?_,h2.2⟩;cases x with
   |d x=>exact h2.1.move mv
   |tp=>exact h2.1
   |dk kvs=>
    obtain⟨a',l,e1,e2,e3,e4⟩:=h2.1;obtain⟨a'',f1,f2⟩:=h2.2 rfl;rw[e1]at f1;cases f1;exact⟨a',l,e1,by rw[aM λ(z:a'=a)=>f2 (z▸h0)];exact e2,e3,e4.move mv⟩
   |ln ds=>
    obtain⟨a',l,e1,e2,e3,e4,e5⟩:=h2.1;obtain⟨a'',f1,f2⟩:=h2.2 rfl;rw[e1]at f1;cases f1;exact⟨a',l,e1,by rw[aM λ(z:a'=a)=>f2 (z▸h0)];exact e2,e3,e4,e5.move mv⟩
   |ob o=>exact ORel.move mv h2.1
  |own ds=>
   obtain⟨a',xs,e1,e2,e3,e4,e5,e6⟩:=h2;have ne:a'≠a:=λz=>ho i _ e rfl (by rw[h1,e1,z]);exact⟨a',xs,e1,by rw[aM ne];exact e2,e3,e4,e5,e6.move mv⟩
  |odk kvs=>
   obtain⟨a',xs,e1,e2,e3,e4,e5,e6⟩:=h2;have ne:a'≠a:=λz=>ho i _ e rfl (by rw[h1,e1,z]);exact⟨a',xs,e1,by rw[aM ne];exact e2,e3,e4,e5,e6.move mv⟩
  |odt kvs=>
   obtain⟨a',xs,e1,e2,e3,e4,e5,e6⟩:=h2;have ne:a'≠a:=λz=>ho i _ e rfl (by rw[h1,e1,z]);exact⟨a',xs,e1,by rw[aM ne];exact e2,e3,e4,e5,e6.move mv⟩
 ow:=R.ow
 len:=R.len
theorem Rel.mutOwn{C:Ctx}{H:Hp}{B:Addr->Prop}{σ:St}{δ:Sl}{n:Int}{i:Nat}{x x':SV}{a:Addr}{o:HO}(R:Rel C H B σ δ n)(hi:δ[i]?=ae (ae x))(hx:x.isOwn=ah)(hσ:σ[i]?=ae (ae (.ref a)))(hb:B a)(h0:C.H0 a=af)
  (h:SRel C.H0 (upd H a o) B C.t (.ref a) x') (hx':x'.isOwn=ah):Rel C (upd H a o) B σ (δ.set i (ae x')) n:=by
 have R1:Rel C H B σ (δ.set i af) n:={
  tp:=R.tp,kp:=R.kp,t0:=R.t0,l0:=R.l0,g0:=R.g0,fz:=R.fz,bt:=R.bt,b0:=R.b0,ba:=R.ba,a0:=R.a0
  sl:=λj y e=>by
   by_cases z:i=j
   ·subst z;rw[Gp]at e;rw[hi]at e;cases e
   ·rw[Ci z]at e;exact R.sl j y e
  ow:=λj k y z u e1 e2 o1 o2 f1 f2=>by
   have g:∀{m:Nat}{w:SV},(δ.set i af)[m]?=ae (ae w)->δ[m]?=ae (ae w):=λ{m w} e=>by
    by_cases q:i=m
    ·subst q;rw[Gp,hi]at e;cases e
    ·rwa [Ci q]at e
   exact R.ow j k y z u (g e1) (g e2) o1 o2 f1 f2
  len:=by rw[Df];exact R.len}
 have R2:Rel C (upd H a o) B σ (δ.set i af) n:=R1.mut hb h0 λj y e oy f=>by
  by_cases z:i=j
  ·subst z;rw[Gp,hi]at e;cases e
  ·rw[Ci z]at e;exact z (R.ow i j x y _ hi e hx oy hσ f)
 have hlt:i < δ.length:=(Bs.mp hi).1;exact{
  tp:=R2.tp,kp:=R2.kp,t0:=R2.t0,l0:=R2.l0,g0:=R2.g0,fz:=R2.fz,bt:=R2.bt,b0:=R2.b0,ba:=R2.ba,a0:=R2.a0
  sl:=λj y e=>by
   rcases gO e with⟨rfl,rfl⟩|⟨ne,e'⟩
   ·exact⟨_,hσ,h⟩
   ·exact R2.sl j y (by rw[Ci λz=>ne z.symm];exact e')
  ow:=λj k y z u e1 e2 o1 o2 f1 f2=>by
   rcases gO e1 with⟨rfl,rfl⟩|⟨ne1,e1'⟩
   ·rcases gO e2 with⟨rfl,rfl⟩|⟨ne2,e2'⟩
    ·rfl
    ·exact R.ow _ _ x z u hi e2' hx o2 f1 f2
   ·rcases gO e2 with⟨rfl,rfl⟩|⟨ne2,e2'⟩
    ·exact R.ow _ _ y x u e1' hi o1 hx f1 f2
    ·exact R.ow j k y z u e1' e2' o1 o2 f1 f2
  len:=by rw[Df];exact R.len}
theorem Rel.own{C:Ctx}{H H':Hp}{B:Addr->Prop}{σ:St}{δ:Sl}{n n':Int}{i:Nat}{a:Addr}{x:SV}(R:Rel C H B σ δ n)(R':Rel C H' B σ δ n')(k:Kp C.t H H')(h0:H a=af)(h1:H' a≠af)(hx:x.isOwn=ah)
  (h:SRel C.H0 H' (λb=>B b\/b=a) C.t (.ref a) x):Rel C H' (λb=>B b\/b=a) (σ.set i (ae (.ref a))) (δ.set i (ae x)) n' where
 tp:=R'.tp
 kp:=R'.kp
 t0:=R'.t0
 l0:=R'.l0
 g0:=R'.g0
 fz:=λb o e=>⟨(R'.fz b o e).1,λz=>z.elim (R'.fz b o e).2 λq=>bQ (R.fz b o e).1 h0 q⟩
 bt:=.inl R.bt
 b0:=λb z=>.inl (R.b0 b z)
 ba:=λb z=>z.elim (R'.ba b) λq=>q▸h1
 a0:=R.a0
 sl:=λj y e=>by
  have hta:C.t≠a:=λz=>by
   obtain⟨_,_,q,_⟩:=R.tp.ob;rw[z,h0]at q;cases q
  have mv:∀b o',H b=ae o'->¬B b->H' b=ae o'/\¬(B b\/b=a):=λb o' e n=>⟨k b o' e λz=>n (z▸R.bt),λz=>z.elim n λq=>bQ e h0 q⟩;rcases gO e with⟨rfl,rfl⟩|⟨ne,e'⟩
  ·exact⟨_,o5 (by rw[R.len];exact o3 e),h⟩
  ·obtain⟨v,f1,f2⟩:=R.sl j y e';refine⟨v,by rw[j6 ne];exact f1,?_⟩;cases y with
   |w y=>
    refine⟨?_,f2.2⟩;cases y with
    |d y=>exact f2.1.move mv
    |tp=>exact f2.1
    |dk kvs=>
     obtain⟨a',l,e1,e2,e3,e4⟩:=f2.1;exact⟨a',l,e1,k _ _ e2 e3,e3,e4.move mv⟩
    |ln ds=>
     obtain⟨a',l,e1,e2,e3,e4,e5⟩:=f2.1;exact⟨a',l,e1,k _ _ e2 e3,e3,e4,e5.move mv⟩
    |ob o=>exact ORel.move mv f2.1
   |own ds=>
    obtain⟨a',xs,e1,e2,e3,e4,e5,e6⟩:=f2;exact⟨a',xs,e1,k _ _ e2 (λz=>R.t0 (z▸e4)),.inl e3,e4,e5,e6.move mv⟩
   |odk kvs=>
    obtain⟨a',xs,e1,e2,e3,e4,e5,e6⟩:=f2;exact⟨a',xs,e1,k _ _ e2 (λz=>R.t0 (z▸e4)),.inl e3,e4,e5,e6.move mv⟩
   |odt kvs=>
    obtain⟨a',xs,e1,e2,e3,e4,e5,e6⟩:=f2;exact⟨a',xs,e1,k _ _ e2 (λz=>R.t0 (z▸e4)),.inl e3,e4,e5,e6.move mv⟩
 ow:=λj m y z u e1 e2 o1 o2 f1 f2=>by
  have out:∀{p:Nat}{w:SV},δ[p]?=ae (ae w)->w.isOwn=ah->σ[p]?=ae (ae (.ref a))->False:=λ{p w} e ow f=>by
   obtain⟨v,g1,g2⟩:=R.sl p w e;rw[f]at g1;cases g1;cases w with
   |w _=>cases ow
   |own ds=>
    obtain⟨a',xs,e1,e2,_⟩:=g2;cases e1;rw[h0]at e2;cases e2
   |odk ds=>
    obtain⟨a',xs,e1,e2,_⟩:=g2;cases e1;rw[h0]at e2;cases e2
   |odt ds=>
    obtain⟨a',xs,e1,e2,_⟩:=g2;cases e1;rw[h0]at e2;cases e2
  rcases gO e1 with⟨rfl,rfl⟩|⟨ne1,e1'⟩
  ·rcases gO e2 with⟨rfl,rfl⟩|⟨ne2,e2'⟩
   ·rfl
   ·rw[o5 (by rw[R.len];exact o3 e1)]at f1;rw[j6 ne2]at f2;cases f1;exact(out e2' o2 f2).elim
  ·rcases gO e2 with⟨rfl,rfl⟩|⟨ne2,e2'⟩
   ·rw[o5 (by rw[R.len];exact o3 e2)]at f2;rw[j6 ne1]at f1;cases f2;exact(out e1' o1 f1).elim
   ·rw[j6 ne1]at f1;rw[j6 ne2]at f2;exact R.ow j m y z u e1' e2' o1 o2 f1 f2
 len:=by rw[Df,Df];exact R.len
theorem Rel.give{C:Ctx}{H:Hp}{B:Addr->Prop}{σ:St}{δ:Sl}{n:Int}{i:Nat}{x:SV}{y:Wv}{a:Addr}(R:Rel C H B σ δ n)(hi:δ[i]?=ae (ae x))(ox:x.isOwn=ah)(hv:σ[i]?=ae (ae (.ref a)))(e4:C.H0 a=af)(hy:WRel H (λb=>B b/\b≠a) C.t (.ref a) y)(hl:y.lent=ai):Rel C H (λb=>B b/\b≠a) σ (δ.set i (ae (.w y))) n:=by
 have less:∀b,(B b/\b≠a)->B b:=λb z=>z.1;exact{
  tp:=R.tp,kp:=R.kp,t0:=R.t0,l0:=R.l0,g0:=R.g0
  fz:=λb o e=>⟨(R.fz b o e).1,λz=>(R.fz b o e).2 z.1⟩
  bt:=⟨R.bt,λz=>R.t0 (z▸e4)⟩
  b0:=λb z=>⟨R.b0 b z,λq=>R.a0 b z (q▸e4)⟩
  ba:=λb z=>R.ba b z.1
  a0:=R.a0
  sl:=λj y' e=>by
   rcases gO e with⟨rfl,rfl⟩|⟨ne,e'⟩
   ·exact⟨_,hv,hy,λz=>by rw[hl]at z;cases z⟩
   ·obtain⟨u,f1,f2⟩:=R.sl j y' e';refine⟨u,f1,?_⟩;cases y' with
    |w y=>exact⟨f2.1.less less,f2.2⟩
    |own ds'=>
     obtain⟨a',xs',g1,g2,g3,g4,g5,g6⟩:=f2;refine⟨a',xs',g1,g2,⟨g3,λz=>?_⟩,g4,g5,g6.less less⟩;exact ne (R.ow j i _ _ _ e' hi rfl ox f1 (by rw[hv,g1,z]))
    |odk ds'=>
     obtain⟨a',xs',g1,g2,g3,g4,g5,g6⟩:=f2;refine⟨a',xs',g1,g2,⟨g3,λz=>?_⟩,g4,g5,g6.move λb o e n=>⟨e,λz=>n z.1⟩⟩;exact ne (R.ow j i _ _ _ e' hi rfl ox f1 (by rw[hv,g1,z]))
    |odt ds'=>
     obtain⟨a',xs',g1,g2,g3,g4,g5,g6⟩:=f2;refine⟨a',xs',g1,g2,⟨g3,λz=>?_⟩,g4,g5,g6.move λb o e n=>⟨e,λz=>n z.1⟩⟩;exact ne (R.ow j i _ _ _ e' hi rfl ox f1 (by rw[hv,g1,z]))
  ow:=λj k y z u e1 e2 o1 o2 f1 f2=>by
   rcases gO e1 with⟨rfl,rfl⟩|⟨ne1,e1'⟩
   ·cases o1
   ·rcases gO e2 with⟨rfl,rfl⟩|⟨ne2,e2'⟩
    ·cases o2
    ·exact R.ow j k y z u e1' e2' o1 o2 f1 f2
  len:=by rw[Df];exact R.len}
theorem Rel.frz{C:Ctx}{H:Hp}{B:Addr->Prop}{σ:St}{δ:Sl}{n:Int}{i:Nat}{ds:List Ah}(R:Rel C H B σ δ n)(hi:δ[i]?=ae (ae (.own ds))):∃B',Rel C H B' σ (δ.set i (ae (.w (.d (.list ds))))) n:=by
 obtain⟨v,hv,a,xs,rfl,e2,e3,e4,e5,e6⟩:=R.sl i _ hi;exact⟨_,R.give hi rfl hv e4 (show RdX H _ (.ref a) (.list ds)from .lst e2 (λz=>z.2 rfl) e5 (e6.less λb z=>z.1)) rfl⟩
theorem Rel.frzK{C:Ctx}{H:Hp}{B:Addr->Prop}{σ:St}{δ:Sl}{n:Int}{i:Nat}{m:List (b9×Ah)}(R:Rel C H B σ δ n)(hi:δ[i]?=ae (ae (.odk m))):∃B',Rel C H B' σ (δ.set i (ae (.w (.ob (.k m))))) n:=by
 obtain⟨v,hv,a,xs,rfl,e2,e3,e4,e5,e6⟩:=R.sl i _ hi;exact⟨_,R.give hi rfl hv e4 ⟨a,xs,rfl,e2,λz=>z.2 rfl,e6.move λb o e n=>⟨e,λz=>n z.1⟩⟩ rfl⟩
abbrev DQ:=Wv->Int->Prop
abbrev DT:=Sl->Int->DQ->Prop
abbrev cU:=Sl->Int->(Bool->Int->Prop)->Prop
abbrev eO:=Sl->Int->(List Wv->Int->Prop)->Prop
inductive ARel(H:Hp)(B:Addr->Prop)(t:Addr):List V->List Wv->Prop
 |nil:ARel H B t [] []
 |cons {v:V} {vs:List V} {x:Wv} {xs:List Wv}:WRel H B t v x->ARel H B t vs xs->ARel H B t (v::vs) (x::xs)
theorem ARel.kp{H H':Hp}{B:Addr->Prop}{t:Addr}(k:Kp t H H')(ht:B t):∀{vs:List V}{xs:List Wv},ARel H B t vs xs->ARel H' B t vs xs
 |_,_,.nil=>.nil
 |_,_,.cons a b=>.cons (a.kp k ht) (ARel.kp k ht b)
theorem ARel.len{H:Hp}{B:Addr->Prop}{t:Addr}:∀{vs:List V}{xs:List Wv},ARel H B t vs xs->vs.length=xs.length
 |_,_,.nil=>rfl
 |_,_,.cons _ b=>by rw[Bd,Bd,ARel.len b]
def fR(t:TE)(w:DT):Prop:=∀(C:Ctx)(H:Hp)(B:Addr->Prop)(σ:St)(δ:Sl)(n:Int)(Q:DQ)(Q':VK),Rel C H B σ δ n->w δ n Q->
 (∀v x H' n',Rel C H' B σ δ n'->Kp C.t H H'->WRel H' B C.t v x->Q x n'->Q' v H')->t σ H Q'
def jz(t:TT)(w:cU):Prop:=∀(C:Ctx)(H:Hp)(B:Addr->Prop)(σ:St)(δ:Sl)(n:Int)(Q:Bool->Int->Prop)(Q':Bool->Hp->Prop),Rel C H B σ δ n->w δ n Q->
 (∀b H' n',Rel C H' B σ δ n'->Kp C.t H H'->Q b n'->Q' b H')->t σ H Q'
def iP(t:TA)(w:eO):Prop:=∀(C:Ctx)(H:Hp)(B:Addr->Prop)(σ:St)(δ:Sl)(n:Int)(Q:List Wv->Int->Prop)(Q':List V->Hp->Prop),Rel C H B σ δ n->w δ n Q->
 (∀vs xs H' n',Rel C H' B σ δ n'->Kp C.t H H'->ARel H' B C.t vs xs->Q xs n'->Q' vs H')->t σ H Q'
abbrev gv:=Sl->Int->(List Ah->Int->Prop)->Prop
def oo(t:TE)(w:gv):Prop:=∀(C:Ctx)(H:Hp)(B:Addr->Prop)(σ:St)(δ:Sl)(n:Int)(Q:List Ah->Int->Prop)(Q':VK),Rel C H B σ δ n->w δ n Q->
 (∀a xs ds H' n',Rel C H' B σ δ n'->Kp C.t H H'->H a=af->H' a=ae (.lst xs)->xs.length<=Ao->RdXs H' (λb=>B b\/b=a) xs ds->Q ds n'->Q' (.ref a) H')->t σ H Q'
structure DE(X:Cx)(e:Expr)(t:TE)(w:DT):Prop where
 pe:PE X e t
 sd:fR t w
structure DC(X:Cx)(e:Expr)(t:TT)(w:cU):Prop where
 pt:PT X e t
 sd:jz t w
structure DCW(X:Cx)(e:Expr)(t:TT)(w:cU):Prop where
 pw:PW X e t
 sd:jz t w
structure DA(X:Cx)(es:List Expr)(t:TA)(w:eO):Prop where
 pa:PA X es t
 sd:iP t w
structure DF(X:Cx)(e:Expr)(t:TE)(w:gv):Prop where
 pe:PE X e t
 sd:oo t w
variable{X:Cx}{a b c e:Expr}{ta tb tc te:TE}{wa wb wc we:DT}{pos:Pos}
def ak(i:Nat):DT:=λδ n Q=>match δ[i]? with
 |some (ae (.w x))=>Q x n
 |_=>False
theorem gy(i:Nat){x:Str}{p:Pos}(hN:X.N[i]?=ae x:=by rfl)(hv:ic X.env.scope x:=by first|exact F1 rfl|exact Eh (F1 rfl)|exact Eh (Eh rfl))(hd:(x==("__debug__":Str))=ai:=by decide)
  (hcd:(x==("__classdict__":Str))=ai:=by decide):DE X (.Name x p) (cn i) (ak i):=⟨ik hN hv hd hcd,λC H B σ δ n Q Q' R h k=>by
 unfold ak at h
 split at h
 ·rename_i x e;obtain⟨v,h1,h2⟩:=R.sl i _ e;exact⟨v,h1,k v x H n R (Kp.refl _ _) h2.1 h⟩
 ·exact h.elim⟩
def wC(d:Ah):DT:=λ_ n Q=>Q (.d d) n
theorem l3{v:V}{d:Ah}(h:∀H B,RdX H B v d):fR (tC v) (wC d):=λC H B σ δ n Q Q' R q k=>k v (.d d) H n R (Kp.refl _ _) (h H B) q
theorem d_int{i j p}:DE X (.Constant (.int i) j p) (tC (.int i)) (wC (.int i)):=⟨cP,l3 λ_ _=>.int i⟩
theorem vb{i j p}:DE X (.Constant (.bool i) j p) (tC (.bl i)) (wC (.bool i)):=⟨LU,l3 λ_ _=>.bl i⟩
theorem yJ{j p}:DE X (.Constant .none j p) (tC .non) (wC .none):=⟨Ks,l3 λ_ _=>.non⟩
theorem zw{x j p}(h:Str.length x<=Ao:=by decide +kernel):DE X (.Constant (.str x) j p) (tC (.str x)) (wC (.str x)):=⟨px,l3 λ_ _=>.str x h⟩
theorem Pu{x:Str}{i:Int}{tk:Tok}{p:Pos}(hg:Gl X x)(hm:X.mg x=ae (.int i tk))(hd:(x==("__debug__":Str))=ai:=by decide):DE X (.Name x p) (tC (.int i)) (wC (.int i)):=⟨lI hg hm ⟨tk,rfl⟩ hd,l3 λ_ _=>.int i⟩
def w2(wa wb:DT)(g:Wv->Wv->Int->DQ->Prop):DT:=λδ n Q=>wa δ n λx n1=>wb δ n1 λy n2=>g x y n2 Q
def bS(r:R2)(g:Wv->Wv->Int->DQ->Prop):Prop:=∀(C:Ctx)(H:Hp)(B:Addr->Prop)(σ:St)(δ:Sl)(n:Int)(x y:V)(p q:Wv)(Q:DQ)(Q':VK),Rel C H B σ δ n->WRel H B C.t x p->WRel H B C.t y q->g p q n Q->
 (∀v x H' n',Rel C H' B σ δ n'->Kp C.t H H'->WRel H' B C.t v x->Q x n'->Q' v H')->r x y H Q'
theorem qS{r:R2}{g:Wv->Wv->Int->DQ->Prop}(hr:bS r g)(ha:fR ta wa)(hb:fR tb wb):fR (eJ r ta tb) (w2 wa wb g):=λC H B σ δ n Q Q' R h k=>
 ha C H B σ δ n _ _ R h λv x H1 n1 R1 k1 r1 q1=>hb C H1 B σ δ n1 _ _ R1 q1 λu y H2 n2 R2 k2 r2 q2=>
  hr C H2 B σ δ n2 v u x y Q Q' R2 (r1.kp k2 R1.bt) r2 q2 λz p H3 n3 R3 k3 r3 q3=>k z p H3 n3 R3 ((k1.trans k2).trans k3) r3 q3
theorem js{op:Operator}{r:R2}{g:Wv->Wv->Int->DQ->Prop}(ho:OpR X (E5 op) r)(hr:bS r g)(ha:DE X a ta wa)(hb:DE X b tb wb):DE X (.BinOp a op b pos) (eJ r ta tb) (w2 wa wb g):=
 ⟨ek ho ha.pe hb.pe,qS hr ha.sd hb.sd⟩
theorem lr{op:CmpOp}{r:R2}{g:Wv->Wv->Int->DQ->Prop}(ho:OpR X (B8 op) r)(hr:bS r g)(ha:DE X a ta wa)(hb:DE X b tb wb)(hm:D6 op b=ai):DE X (.Compare a [op] [b] pos) (eJ r ta tb) (w2 wa wb g):=
 ⟨CZ ho ha.pe hb.pe hm,qS hr ha.sd hb.sd⟩
def cT(w:DT):cU:=λδ n Q=>w δ n λx n'=>match x with
 |.d (.bool k)=>Q k n'
 |_=>False
theorem wd{H:Hp}{B:Addr->Prop}{t:Addr}{v:V}{d:Ah}(h:RdX H B v d):WRel H B t v (.d d):=h
theorem uJ{t:TE}{w:DT}(h:fR t w):jz (m6 t) (cT w):=λC H B σ δ n Q Q' R q k=>
 h C H B σ δ n _ _ R q λv x H' n' R' k' r' q'=>by
  split at q'
  ·rename_i b;cases(show RdX H' B v (.bool b)from r');exact⟨b,rfl,k b H' n' R' k' q'⟩
  ·exact q'.elim
theorem i7{op:CmpOp}{r:R2}{g:Wv->Wv->Int->DQ->Prop}(ho:OpR X (B8 op) r)(hr:bS r g)(ha:DE X a ta wa)(hb:DE X b tb wb)(hm:D6 op b=ai):DC X (.Compare a [op] [b] pos) (m6 (eJ r ta tb)) (cT (w2 wa wb g)):=
 ⟨jt ho ha.pe hb.pe hm,uJ (qS hr ha.sd hb.sd)⟩
theorem Ku{t:TE}{w:DT}(h:DE X e t w)(he:∀whole,isTrue e X.env whole=(do let v <-whole;standAt e.pos;holding [v] (truthy v)):=by intro _;rfl):DC X e (m6 t) (cT w):=⟨DW h.pe he,uJ h.sd⟩
def iy(x:Wv)(A B:Prop):Prop:=match x with
 |.d (.bool ah)=>A
 |.d (.bool ai)=>B
 |_=>False
theorem fg(b:Bool)(A B:Prop):iy (.d (.bool b)) A B=if b=ah then A else B:=by cases b<;>simp[iy]
def df(g g':Wv->Wv->Int->DQ->Prop)(wa wb wc:DT):DT:=λδ n Q=>wa δ n λx n1=>wb δ n1 λy n2=>g x y n2 λz n3=>iy z (wc δ n3 λu n4=>g' y u n4 Q) (Q (.d (.bool ai)) n3)
theorem JS{r r':R2}{g g':Wv->Wv->Int->DQ->Prop}(hr:bS r g)(hr':bS r' g')(ha:fR ta wa)(hb:fR tb wb)(hc:fR tc wc):fR (t8 r r' ta tb tc) (df g g' wa wb wc):=λC H B σ δ n Q Q' R h k=>
 ha C H B σ δ n _ _ R h λv x H1 n1 R1 k1 r1 q1=>hb C H1 B σ δ n1 _ _ R1 q1 λu y H2 n2 R2 k2 r2 q2=>
  hr C H2 B σ δ n2 v u x y _ _ R2 (r1.kp k2 R1.bt) r2 q2 λz p H3 n3 R3 k3 r3 q3=>by
   have k13:=(k1.trans k2).trans k3;unfold iy at q3
   split at q3
   ·cases(show RdX H3 B z (.bool ah)from r3);refine⟨ah,rfl,?_⟩;rw[if_pos rfl];exact hc C H3 B σ δ n3 _ _ R3 q3 λw0 x0 H4 n4 R4 k4 r4 q4=>hr' C H4 B σ δ n4 u w0 y x0 Q Q' R4 ((r2.kp k3 R2.bt).kp k4 R3.bt) r4 q4 λz p H5 n5 R5 k5 r5 q5=>k z p H5 n5 R5 ((k13.trans k4).trans k5) r5 q5
   ·cases(show RdX H3 B z (.bool ai)from r3);refine⟨ai,rfl,?_⟩;rw[if_neg Ak];exact k _ _ H3 n3 R3 k13 (wd (.bl ai)) q3
   ·exact q3.elim
theorem NB{op op':CmpOp}{r r':R2}{g g':Wv->Wv->Int->DQ->Prop}(ho:OpR X (B8 op) r)(hr:bS r g)(ho':OpR X (B8 op') r')(hr':bS r' g')(ha:DE X a ta wa)(hb:DE X b tb wb)(hc:DE X c tc wc)
  (hm:lastMarks [op,op'] [b,c]=ai:=by with_unfolding_all rfl):DE X (.Compare a [op,op'] [b,c] pos) (t8 r r' ta tb tc) (df g g' wa wb wc):=⟨Kk ho ho' ha.pe hb.pe hc.pe hm,JS hr hr' ha.sd hb.sd hc.sd⟩
variable{tA tB':TT}{cA cB:cU}{rest:List Expr}
def d3(u v:cU):cU:=λδ n Q=>u δ n λb n1=>if b=ah then v δ n1 Q else Q ai n1
def dE(u v:cU):cU:=λδ n Q=>u δ n λb n1=>if b=ah then Q ah n1 else v δ n1 Q
def bV(u:cU):cU:=λδ n Q=>u δ n λb n1=>Q (!b) n1
theorem cw_and1(h:DC X a tA cA):DCW X (.BoolOp .And [a] pos) tA cA:=⟨CV h.pt,h.sd⟩
theorem cw_or1(h:DC X a tA cA):DCW X (.BoolOp .Or [a] pos) tA cA:=⟨Tv h.pt,h.sd⟩
theorem cw_and(h:DC X a tA cA)(h2:DCW X (.BoolOp .And (b::rest) pos) tB' cB):DCW X (.BoolOp .And (a::b::rest) pos) (nE tA tB') (d3 cA cB):=⟨CT h.pt h2.pw,λC H B σ δ n Q Q' R q k=>
 h.sd C H B σ δ n _ _ R q λb H1 n1 R1 k1 q1=>by
  cases b with
  |true=>
   rw[if_pos rfl]at q1 ⊢;exact h2.sd C H1 B σ δ n1 _ _ R1 q1 λb H2 n2 R2 k2 q2=>k b H2 n2 R2 (k1.trans k2) q2
  |false=>
   rw[if_neg Ak]at q1 ⊢;exact k ai H1 n1 R1 k1 q1⟩
theorem cw_or(h:DC X a tA cA)(h2:DCW X (.BoolOp .Or (b::rest) pos) tB' cB):DCW X (.BoolOp .Or (a::b::rest) pos) (AD tA tB') (dE cA cB):=⟨SX h.pt h2.pw,λC H B σ δ n Q Q' R q k=>
 h.sd C H B σ δ n _ _ R q λb H1 n1 R1 k1 q1=>by
  cases b with
  |true=>
   rw[if_pos rfl]at q1 ⊢;exact k ah H1 n1 R1 k1 q1
  |false=>
   rw[if_neg Ak]at q1 ⊢;exact h2.sd C H1 B σ δ n1 _ _ R1 q1 λb H2 n2 R2 k2 q2=>k b H2 n2 R2 (k1.trans k2) q2⟩
theorem DCW.cc(h:DCW X a tA cA):DC X a tA cA:=⟨h.pw.pt,h.sd⟩
theorem Oq(h:DC X a tA cA):DC X (.UnaryOp .Not a pos) (lF tA) (bV cA):=⟨DO h.pt,λC H B σ δ n Q Q' R q k=>h.sd C H B σ δ n _ _ R q λb H1 n1 R1 k1 q1=>k (!b) H1 n1 R1 k1 q1⟩
def a9(u v:DT):DT:=λδ n Q=>u δ n λx n1=>iy x (v δ n1 Q) (Q (.d (.bool ai)) n1)
def eK(u v:DT):DT:=λδ n Q=>u δ n λx n1=>iy x (Q (.d (.bool ah)) n1) (v δ n1 Q)
def cD(u:DT):DT:=λδ n Q=>u δ n λx n1=>match x with
 |.d (.bool b)=>Q (.d (.bool !b)) n1
 |_=>False
theorem LD{op}(h:DE X a ta wa):DE X (.BoolOp op [a] pos) ta wa:=⟨J7 h.pe,h.sd⟩
theorem Q8(h:DE X a ta wa)(h2:DE X (.BoolOp .And (b::rest) pos) tb wb):DE X (.BoolOp .And (a::b::rest) pos) (FA ta tb) (a9 wa wb):=⟨II h.pe h2.pe,λC H B σ δ n Q Q' R q k=>
 h.sd C H B σ δ n _ _ R q λv x H1 n1 R1 k1 r1 q1=>by
  unfold iy at q1
  split at q1
  ·cases(show RdX H1 B v (.bool ah)from r1);refine⟨ah,rfl,?_⟩;rw[if_pos rfl];exact h2.sd C H1 B σ δ n1 _ _ R1 q1 λv x H2 n2 R2 k2 r2 q2=>k v x H2 n2 R2 (k1.trans k2) r2 q2
  ·cases(show RdX H1 B v (.bool ai)from r1);refine⟨ai,rfl,?_⟩;rw[if_neg Ak];exact k _ _ H1 n1 R1 k1 (wd (.bl ai)) q1
  ·exact q1.elim⟩
theorem vf(h:DE X a ta wa)(h2:DE X (.BoolOp .Or (b::rest) pos) tb wb):DE X (.BoolOp .Or (a::b::rest) pos) (mH ta tb) (eK wa wb):=⟨HU h.pe h2.pe,λC H B σ δ n Q Q' R q k=>
 h.sd C H B σ δ n _ _ R q λv x H1 n1 R1 k1 r1 q1=>by
  unfold iy at q1
  split at q1
  ·cases(show RdX H1 B v (.bool ah)from r1);refine⟨ah,rfl,?_⟩;rw[if_pos rfl];exact k _ _ H1 n1 R1 k1 (wd (.bl ah)) q1
  ·cases(show RdX H1 B v (.bool ai)from r1);refine⟨ai,rfl,?_⟩;rw[if_neg Ak];exact h2.sd C H1 B σ δ n1 _ _ R1 q1 λv x H2 n2 R2 k2 r2 q2=>k v x H2 n2 R2 (k1.trans k2) r2 q2
  ·exact q1.elim⟩
theorem M4(h:DE X a ta wa):DE X (.UnaryOp .Not a pos) (EI ta) (cD wa):=⟨RT h.pe,λC H B σ δ n Q Q' R q k=>
 h.sd C H B σ δ n _ _ R q λv x H1 n1 R1 k1 r1 q1=>by
  split at q1
  ·rename_i b;cases(show RdX H1 B v (.bool b)from r1);exact⟨b,rfl,k _ _ H1 n1 R1 k1 (wd (.bl _)) q1⟩
  ·exact q1.elim⟩
def gT(u:cU)(v w:DT):DT:=λδ n Q=>u δ n λb n1=>if b=ah then v δ n1 Q else w δ n1 Q
theorem M5(h:DC X c tA cA)(h1:DE X a ta wa)(h2:DE X b tb wb):DE X (.IfExp c a b pos) (EZ tA ta tb) (gT cA wa wb):=⟨Q7 h.pt h1.pe h2.pe,λC H B σ δ n Q Q' R q k=>
 h.sd C H B σ δ n _ _ R q λb H1 n1 R1 k1 q1=>by
  cases b with
  |true=>
   rw[if_pos rfl]at q1 ⊢;exact h1.sd C H1 B σ δ n1 _ _ R1 q1 λv x H2 n2 R2 k2 r2 q2=>k v x H2 n2 R2 (k1.trans k2) r2 q2
  |false=>
   rw[if_neg Ak]at q1 ⊢;exact h2.sd C H1 B σ δ n1 _ _ R1 q1 λv x H2 n2 R2 k2 r2 q2=>k v x H2 n2 R2 (k1.trans k2) r2 q2⟩
variable{es:List Expr}{tR:TA}{wR:eO}
def aj:eO:=λ_ n Q=>Q [] n
def ao(w:DT)(r:eO):eO:=λδ n Q=>w δ n λx n1=>r δ n1 λxs n2=>Q (x::xs) n2
theorem rM:DA X [] bG aj:=⟨c9,λC H B σ δ n Q Q' R q k=>k [] [] H n R (Kp.refl _ _) .nil q⟩
theorem oh(h:DE X e te we)(hr:DA X es tR wR)(hs:Au (e::es) X.env=(ai,eval e X.env)::Au es X.env:=by rfl):DA X (e::es) (cE te tR) (ao we wR):=⟨cy h.pe hr.pa hs,λC H B σ δ n Q Q' R q k=>
 h.sd C H B σ δ n _ _ R q λv x H1 n1 R1 k1 r1 q1=>hr.sd C H1 B σ δ n1 _ _ R1 q1 λvs xs H2 n2 R2 k2 r2 q2=>k (v::vs) (x::xs) H2 n2 R2 (k1.trans k2) (.cons (r1.kp k2 R1.bt) r2) q2⟩
def dm:List Wv->Option (List Ah)
 |[]=>ae []
 |.d x::r=>(dm r).map (x::·)
 |_::_=>af
theorem ARel.plain{H:Hp}{B:Addr->Prop}{t:Addr}:∀{vs:List V}{xs:List Wv}{ds:List Ah},ARel H B t vs xs->dm xs=ae ds->RdXs H B vs ds
 |_,_,_,.nil,h=>by
  cases h;exact .nil
 |_,_,ds,.cons (x:=x) (xs:=xs) a b,h=>by
  cases x with
  |d x=>
   have h':(dm xs).map (x::·)=ae ds:=h;cases e:dm xs with
   |none=>rw[e]at h';cases h'
   |some es=>
    rw[e]at h';cases h';exact .cons a (ARel.plain b e)
  |tp=>cases h
  |dk _=>cases h
  |ln _=>cases h
  |ob _=>cases h
theorem RdXs.fresh{H:Hp}{B:Addr->Prop}{vs:List V}{ds:List Ah}{p:Addr}{o:HO}(h:RdXs H B vs ds)(hp:H p=af):RdXs (upd H p o) (λb=>B b\/b=p) vs ds:=
 h.move λb o' e n=>⟨by rw[aM (bQ e hp)];exact e,λz=>z.elim n λq=>bQ e hp q⟩
def aq(w:eO):DT:=λδ n Q=>w δ n λxs n1=>match dm xs with
 |some ds=>ds.length<=1000/\Q (.d (.tuple ds)) n1
 |none=>False
theorem J6{x1}(h:DA X es tR wR):DE X (.Tuple es x1 pos) (nq tR) (aq wR):=⟨zX h.pa,λC H B σ δ n Q Q' R q k=>
 h.sd C H B σ δ n _ _ R q λvs xs H1 n1 R1 k1 r1 q1=>by
  split at q1
  ·rename_i ds e;have r:=r1.plain e;have hl:vs.length<=Ao:=by rw[r.len];exact small q1.1
   refine⟨hl,λp hp=>k _ _ _ n1 (R1.new hp) (k1.trans (Kp.new hp)) (wd (show RdX _ B (.ref p) (.tuple ds)from ?_)) q1.2⟩;exact .tup bw (R1.nb hp) hl ((r.fresh hp).less λb z=>.inl z)
  ·exact q1.elim⟩
def aA(w:eO):gv:=λδ n Q=>w δ n λxs n1=>match dm xs with
 |some ds=>ds.length<=1000/\Q ds n1
 |none=>False
theorem SH(h:DA X es tR wR):DF X (.List es pos) (jH tR) (aA wR):=⟨kY h.pa,λC H B σ δ n Q Q' R q k=>
 h.sd C H B σ δ n _ _ R q λvs xs H1 n1 R1 k1 r1 q1=>by
  split at q1
  ·rename_i ds e;have r:=r1.plain e;have hl:vs.length<=Ao:=by rw[r.len];exact small q1.1
   have hn:∀p,H1 p=af->H p=af:=λp hp=>by
    cases q:H p with
    |none=>rfl
    |some o=>
     by_cases z:p=C.t
     ·subst z;obtain⟨_,_,h,_⟩:=R1.tp.ob;rw[h]at hp;cases hp
     ·rw[k1 p o q z]at hp;cases hp
   exact⟨hl,λp hp=>k p vs ds _ n1 (R1.new hp) (k1.trans (Kp.new hp)) (hn p hp) bw hl (r.fresh hp) q1.2⟩
  ·exact q1.elim⟩
def aJ(w:gv):DT:=λδ n Q=>w δ n λds n1=>Q (.d (.list ds)) n1
theorem Nk{t:TE}{w:gv}(h:oo t w):fR t (aJ w):=λC H B σ δ n Q Q' R q k=>
 h C H B σ δ n _ _ R q λa xs ds H' n' R' k' h0 h1 h2 h3 q'=>k _ _ H' n' R' k' (wd (show RdX H' B (.ref a) (.list ds)from .lst h1 (R.nb h0) h2 (h3.less λb z=>.inl z))) q'
theorem DF.d{w:gv}{t:TE}(h:DF X e t w):DE X e t (aJ w):=⟨h.pe,Nk h.sd⟩
theorem Rel.was{C:Ctx}{H H1:Hp}{B:Addr->Prop}{σ:St}{δ:Sl}{n1:Int}(R1:Rel C H1 B σ δ n1)(k1:Kp C.t H H1){p:Addr}(hp:H1 p=af):H p=af:=by
 cases q:H p with
 |none=>rfl
 |some o=>
  by_cases z:p=C.t
  ·subst z;obtain⟨_,_,h,_⟩:=R1.tp.ob;rw[h]at hp;cases hp
  ·rw[k1 p o q z]at hp;cases hp
abbrev ck:=List Wv->Int->DQ->Prop
def fe(S:ck):Sp:=λvs H Q _=>∃(t:Addr)(l:TL)(ns:List Int)(B:Addr->Prop)(ws:List Wv)(n:Int)(Q0:DQ),Tp H t l ns n/\B t/\(∀b,B b->H b≠af)/\ARel H B t vs ws/\S ws n Q0 /\
 ∀w n',Q0 w n'->∀v H',Tp H' t l ns n'->Kp t H H'->WRel H' B t v w->Q v H'
section
variable{X:Cx}{e:Expr}{es:List Expr}{pos p:Pos}{tR:TA}{wR:eO}
def aT(S:ck)(w:eO):DT:=λδ n Q=>w δ n λxs n1=>S xs n1 Q
theorem PB{S:ck}{t:TA}{w:eO}(h:iP t w):fR (jr (fe S) [] E0 t) (aT S w):=λC H B σ δ n Q Q' R q k=>
 h C H B σ δ n _ _ R q λvs xs H1 n1 R1 k1 r1 q1=>by
  refine⟨C.t,C.l,C.ns,B,xs,n1,Q,R1.tp,R1.bt,R1.ba,by rw[Cc];exact r1,q1,λw n' q2 v H' T' k' r'=>?_⟩;exact k v w H' n' (R1.step T' k') (k1.trans k') r' q2
theorem PJ{k:Nat}{f:Addr}{fd:Cw}{ps:List Str}{S:ck}{x:Str}(F:FnOk X.prog X.w X.K X.mg X.base dv k f fd ps (fe S))(hr:Room k X.A)(hg:Gl X x)(hm:X.mg x=ae (.ref f))(hk:Cf X.K (.ref f)=ah)(hb:Binds X.K fd ps [])
  (ha:DA X (e::es) tR wR) (hdb:(x==("__debug__":Str))=ai:=by decide) (he:Au (e::es) X.env=(ai,eval e X.env)::Au es X.env:=by rfl) (hpl:(C5 pos (Au es X.env)).any (·.1)=ai:=by rfl):
  DE X (.Call (.Name x p) (e::es) [] pos) (jr (fe S) [] E0 tR) (aT S wR):=⟨rK F hr hg hm hk hb .nil vp ha.pa hdb he hpl,PB ha.sd⟩
def dH(r:List V->Hp->VK->Prop)(g:List Wv->Int->DQ->Prop):Prop:=∀(C:Ctx)(H:Hp)(B:Addr->Prop)(σ:St)(δ:Sl)(n:Int)(vs:List V)(xs:List Wv)(Q:DQ)(Q':VK),Rel C H B σ δ n->ARel H B C.t vs xs->g xs n Q->
 (∀v x H' n',Rel C H' B σ δ n'->Kp C.t H H'->WRel H' B C.t v x->Q x n'->Q' v H')->r vs H Q'
def wB(g:List Wv->Int->DQ->Prop)(w:eO):DT:=λδ n Q=>w δ n λxs n1=>g xs n1 Q
theorem GO{r:List V->Hp->VK->Prop}{g:List Wv->Int->DQ->Prop}{t:TA}{w:eO}(hr:dH r g)(h:iP t w):fR (iS r t) (wB g w):=λC H B σ δ n Q Q' R q k=>
 h C H B σ δ n _ _ R q λvs xs H1 n1 R1 k1 r1 q1=>hr C H1 B σ δ n1 vs xs Q Q' R1 r1 q1 λv x H2 n2 R2 k2 r2 q2=>k v x H2 n2 R2 (k1.trans k2) r2 q2
theorem rP{id:String}{x:Str}{r:List V->Hp->VK->Prop}{g:List Wv->Int->DQ->Prop}(hc:CallR X (.builtin id) r)(hr:dH r g)(hg:Gl X x)(hm:X.mg x=af)(hv:B9 x=ae (.builtin id))(ha:DA X (e::es) tR wR)(hn:x≠"__name__":=by decide)(hdb:(x==("__debug__":Str))=ai:=by decide)
  (he:Au (e::es) X.env=(ai,eval e X.env)::Au es X.env:=by rfl) (hpl:(C5 pos (Au es X.env)).any (·.1)=ai:=by rfl):DE X (.Call (.Name x p) (e::es) [] pos) (iS r tR) (wB g wR):=⟨l6 hc hg hm hv ha.pa hn hdb he hpl,GO hr ha.sd⟩
theorem qx{T:String}{x:Str}{r:List V->Hp->VK->Prop}{g:List Wv->Int->DQ->Prop}(hc:CallR X (.type T) r)(hr:dH r g)(hg:Gl X x)(hm:X.mg x=af)(hv:B9 x=ae (.type T))(ha:DA X (e::es) tR wR)(hn:x≠"__name__":=by decide)(hdb:(x==("__debug__":Str))=ai:=by decide)
  (he:Au (e::es) X.env=(ai,eval e X.env)::Au es X.env:=by rfl) (hpl:(C5 pos (Au es X.env)).any (·.1)=ai:=by rfl):DE X (.Call (.Name x p) (e::es) [] pos) (iS r tR) (wB g wR):=⟨wQ hc hg hm hv ha.pa hn hdb he hpl,GO hr ha.sd⟩
end
structure DEnds where
 nx:Sl->Int->Prop
 rt:DQ
 bk:Sl->Int->Prop:=λ_ _=>False
 ct:Sl->Int->Prop:=λ_ _=>False
 rn:List Ah->Int->Prop:=λ_ _=>False
abbrev aW:=Sl->Int->DEnds->Prop
structure EndsOk(C:Ctx)(K:DEnds)(D:Ends):Prop where
 nx:∀H B σ δ n,Rel C H B σ δ n->K.nx δ n->D.nx σ H
 rt:∀H B σ δ n v w,Rel C H B σ δ n->WRel H B C.t v w->K.rt w n->D.rt v H
 bk:∀H B σ δ n,Rel C H B σ δ n->K.bk δ n->D.bk σ H
 ct:∀H B σ δ n,Rel C H B σ δ n->K.ct δ n->D.ct σ H
 rn:∀H B σ δ n a xs ds,Rel C H B σ δ n->C.H0 a=af->H a=ae (.lst xs)->xs.length<=Ao->RdXs H (λb=>B b\/b=a) xs ds->K.rn ds n->D.rt (.ref a) H
def lq(T:TS)(W:aW):Prop:=∀(C:Ctx)(H:Hp)(B:Addr->Prop)(σ:St)(δ:Sl)(n:Int)(K:DEnds)(D:Ends),Rel C H B σ δ n->W δ n K->EndsOk C K D->T D σ H
structure DS(X:Cx)(st:Stmt)(T:TS)(W:aW):Prop where
 ps:PS X st T
 sd:lq T W
structure DSs(X:Cx)(st:List Stmt)(T:TS)(W:aW):Prop where
 ps:PSs X st T
 sd:lq T W
section
variable{X:Cx}{st:Stmt}{rest:List Stmt}{T U:TS}{W V':aW}{e:Expr}{te:TE}{we:DT}{pos:Pos}
def a8:aW:=λδ n K=>K.nx δ n
def aw(W V:aW):aW:=λδ n K=>W δ n {K with nx:=λδ n=>V δ n K}
theorem ML:DSs X [] wz a8:=⟨og,λC H B σ δ n K D R h E=>E.nx H B σ δ n R h⟩
theorem uK(h:DS X st T W)(h2:DSs X rest U V'):DSs X (st::rest) (fV T U) (aw W V'):=⟨fi h.ps h2.ps,λC H B σ δ n K D R q E=>
 h.sd C H B σ δ n _ _ R q ⟨λH B σ δ n R q=>h2.sd C H B σ δ n K D R q E,E.rt,E.bk,E.ct,E.rn⟩⟩
theorem DM(h:DS X st T W):DSs X [st] T W:=⟨fm h.ps,h.sd⟩
def aC(w:DT):aW:=λδ n K=>w δ n K.rt
theorem ES(h:DE X e te we):DS X (.Return (ae e) pos) (m7 te) (aC we):=⟨oN h.pe,λC H B σ δ n K D R q E=>
 h.sd C H B σ δ n _ _ R q λv x H' n' R' _ r' q'=>E.rt H' B σ δ n' v x R' r' q'⟩
def bB(c:cU)(W V:aW):aW:=λδ n K=>c δ n λb n1=>if b=ah then W δ n1 K else V δ n1 K
theorem uh{c:Expr}{a b:List Stmt}{tc:TT}{cc:cU}(hc:DC X c tc cc)(ha:DSs X a T W)(hb:DSs X b U V'):DS X (.If c a b pos) (jN tc T U) (bB cc W V'):=⟨jk hc.pt ha.ps hb.ps,λC H B σ δ n K D R q E=>
 hc.sd C H B σ δ n _ _ R q λb H1 n1 R1 _ q1=>by
  cases b with
  |true=>
   rw[if_pos rfl]at q1 ⊢;exact ha.sd C H1 B σ δ n1 K D R1 q1 E
  |false=>
   rw[if_neg Ak]at q1 ⊢;exact hb.sd C H1 B σ δ n1 K D R1 q1 E⟩
def bb(i:Nat)(w:DT):aW:=λδ n K=>w δ n λx n1=>match x with
 |.d d=>K.nx (δ.set i (ae (.w (.d d)))) n1
 |.tp=>K.nx (δ.set i (ae (.w .tp))) n1
 |.dk _=>False
 |.ln _=>False
 |.ob o=>K.nx (δ.set i (ae (.w (.ob o)))) n1
theorem EU{i:Nat}{x:Str}{pos':Pos}(hN:X.N.Nodup)(hi:X.N[i]?=ae x)(hx:jq X.env.scope x)(he:DE X e te we)(hs:Fi e (ae (.Name x pos')) pos.line X.env=pure ai:=by rfl)(hf:X.fn x=ah\/X.env.scope.names.lookup x=ae .local:=by first|exact .inl rfl|exact .inr rfl|assumption):
  DS X (.Assign [.Name x pos'] e pos) (eM te (gp i)) (bb i we):=⟨hG hN hi hx he.pe hs hf,λC H B σ δ n K D R q E=>
 he.sd C H B σ δ n _ _ R q λv x H1 n1 R1 _ r1 q1=>by
  cases x with
  |d d=>exact E.nx _ _ _ _ _ (R1.set r1 rfl) q1
  |tp=>exact E.nx _ _ _ _ _ (R1.set r1 rfl) q1
  |dk _=>exact q1.elim
  |ln _=>exact q1.elim
  |ob o=>exact E.nx _ _ _ _ _ (R1.set r1 rfl) q1⟩
def gN(i:Nat)(w:gv):aW:=λδ n K=>w δ n λds n1=>K.nx (δ.set i (ae (.own ds))) n1
theorem Rel.h0{C:Ctx}{H:Hp}{B:Addr->Prop}{σ:St}{δ:Sl}{n:Int}{a:Addr}(R:Rel C H B σ δ n)(h:H a=af):C.H0 a=af:=R.was R.kp h
theorem QQ{i:Nat}{x:Str}{pos':Pos}{w:gv}(hN:X.N.Nodup)(hi:X.N[i]?=ae x)(hx:jq X.env.scope x)(he:DF X e te w)(hs:Fi e (ae (.Name x pos')) pos.line X.env=pure ai:=by rfl)(hf:X.fn x=ah\/X.env.scope.names.lookup x=ae .local:=by first|exact .inl rfl|exact .inr rfl|assumption):
  DS X (.Assign [.Name x pos'] e pos) (eM te (gp i)) (gN i w):=⟨hG hN hi hx he.pe hs hf,λC H B σ δ n K D R q E=>
 he.sd C H B σ δ n _ _ R q λa xs ds H1 n1 R1 k1 h0 h1 h2 h3 q1=>by
  refine E.nx _ _ _ _ _ (R.own R1 k1 h0 (by rw[h1];exact λz=>nomatch z) rfl ?_) q1;exact⟨a,xs,rfl,h1,.inr rfl,R.h0 h0,h2,h3⟩⟩
def fj(i:Nat)(W:aW):aW:=λδ n K=>match δ[i]? with
 |some (ae (.own ds))=>W (δ.set i (ae (.w (.d (.list ds))))) n K
 |some (ae (.odk m))=>W (δ.set i (ae (.w (.ob (.k m))))) n K
 |_=>W δ n K
theorem RO(i:Nat){sts:List Stmt}(h:DSs X sts T W):DSs X sts T (fj i W):=⟨h.ps,λC H B σ δ n K D R q E=>by
 unfold fj at q
 split at q
 ·rename_i ds e;obtain⟨B',R'⟩:=R.frz e;exact h.sd C H B' σ _ n K D R' q E
 ·rename_i m e;obtain⟨B',R'⟩:=R.frzK e;exact h.sd C H B' σ _ n K D R' q E
 ·exact h.sd C H B σ δ n K D R q E⟩
def bu(i:Nat)(w:DT):aW:=λδ n K=>match δ[i]? with
 |some (ae (.own ds))=>w δ n λx n1=>match x with
  |.d d=>ds.length < 1000000/\K.nx (δ.set i (ae (.own (ds++[d])))) n1
  |_=>False
 |_=>False
theorem DX{n:Nat}(h:n < 1000000):n < Ao:=Nat.lt_trans h ∎
theorem JO{i:Nat}{x:Str}{xp ap cp:Pos}(hN:X.N[i]?=ae x)(he:DE X e te we)(hv:ic X.env.scope x:=by first|exact F1 rfl|exact Eh (F1 rfl)|exact Eh (Eh rfl))(hd:(x==("__debug__":Str))=ai:=by decide)
  (hcd:(x==("__classdict__":Str))=ai:=by decide)
  (hbase:Em (.Name x xp) "append" X.env (eval (.Name x xp) X.env)=eval (.Name x xp) X.env:=by rfl)
  (hfew:((C5 cp (Au [e] X.env)).all (λx=>!x.1)&&(backToKw cp (Fq [] X.env)).all (λx=>x.1.isSome)
   && decide ([e].length+([]:List F2).length+(if ([]:List F2).isEmpty then 0 else 1) < 30))=ah:=by rfl)
  (hline:(ap.endLine==cp.line)=ah:=by rfl) (hs:Au [e] X.env=[(ai,eval e X.env)]:=by rfl) (hplain:(C5 cp (Au [] X.env)).any (·.1)=ai:=by rfl)
  (hsw:Fi (.Call (.Attribute (.Name x xp) "append" ap) [e] [] cp) af pos.line X.env=pure ai:=by rfl):
  DS X (.Expr (.Call (.Attribute (.Name x xp) "append" ap) [e] [] cp) pos) (mj (jv X.K "list" wq (cn i) (cE te bG))) (bu i we):=
 ⟨jX (mD Hk PySem.F.slot_list_append PySem.F.type_list_append wk (ik hN hv hd hcd) (cy he.pe c9 hs) hbase hfew hline hs hplain) hsw,λC H B σ δ n K D R q E=>by
  unfold bu at q
  split at q
  ·rename_i ds ei;obtain⟨v,hv,a,xs,rfl,e2,e3,e4,e5,e6⟩:=R.sl i _ ei;refine⟨_,hv,.inl ⟨rfl,_,SqL.of e2⟩,he.sd C H B σ δ n _ _ R q λu y H1 n1 R1 k1 r1 q1=>?_⟩;cases y with
   |d d=>
    have hat:a≠C.t:=λz=>R.t0 (z▸e4);have e2':=k1 _ _ e2 hat;refine⟨a,xs,u,rfl,rfl,e2',DX (by rw[e6.len];exact q1.1),?_⟩;refine E.nx _ _ _ _ _ (R1.mutOwn ei rfl hv e3 e4 ?_ rfl) q1.2;refine⟨a,xs++[u],rfl,bw,e3,e4,?_,?_⟩
    ·rw[A0,e6.len];exact DX q1.1
    ·refine RdXs.keep (λb o e n=>?_) ((e6.kp k1 R.bt).append (.cons r1 .nil));rw[aM λ(z:b=a)=>n (z▸e3)];exact e
   |tp=>exact q1.elim
   |dk _=>exact q1.elim
   |ln _=>exact q1.elim
   |ob _=>exact q1.elim
  ·exact q.elim⟩
end
def dj(N:List Str)(ws:List Wv):Sl:=ws.map (λx=>ae (.w x))++Ax (N.length-ws.length) af
def dF(S:ck)(W:aW)(N:List Str):Prop:=∀ws n Q,S ws n Q->W (dj N ws) n {nx:=λ_ n=>Q (.d .none) n,rt:=Q}
theorem ARel.get{H:Hp}{B:Addr->Prop}{t:Addr}:∀{vs:List V}{xs:List Wv}{i:Nat}{x:Wv},ARel H B t vs xs->xs[i]?=ae x->∃v,vs[i]?=ae v/\WRel H B t v x
 |_,_,_,_,.nil,e=>by simp at e
 |_,_,0,_,.cons h _,e=>by
  simp at e;subst e;exact⟨_,rfl,h⟩
 |_,_,i+1,x,.cons _ r,e=>by
  obtain⟨v,h1,h2⟩:=ARel.get (i:=i) (x:=x) r (by simpa using e);exact⟨v,by simpa using h1,h2⟩
theorem zp{H:Hp}{t:Addr}{l:TL}{ns:List Int}{B:Addr->Prop}{vs:List V}{ws:List Wv}{n:Int}{N:List Str}(T:Tp H t l ns n)(bt:B t)(ba:∀b,B b->H b≠af)(r:ARel H B t vs ws):Rel ⟨t,l,ns,H,B,λ_=>af⟩ H B (L2.start N vs) (dj N ws) n where
 tp:=T
 kp:=Kp.refl _ _
 t0:=by
  obtain⟨_,_,h,_⟩:=T.ob;show H t≠af;rw[h];exact λz=>nomatch z
 l0:=by
  show H l.s≠af;rw[T.ls];exact λz=>nomatch z
 g0:=λe=>by
  show H l.g≠af;rw[T.ag e];exact λz=>nomatch z
 fz:=λb o e=>nomatch e
 bt:=bt
 b0:=λ_ z=>z
 ba:=ba
 a0:=ba
 sl:=λi x e=>by
  have hl:=r.len;unfold dj at e;rw[List.getElem?_append]at e
  split at e
  ·rename_i hi;rw[Ap]at hi;rw[Be]at e;cases q:ws[i]? with
   |none=>rw[q]at e;cases e
   |some y=>
    rw[q]at e;cases e;obtain⟨v,h1,h2⟩:=r.get q;refine⟨v,?_,h2,λz=>?_⟩
    ·unfold L2.start;rw[List.getElem?_append_left (by rw[Ap,hl];exact hi),Be,h1];rfl
    ·cases y with
     |d _=>cases z
     |tp=>cases z
     |dk _=>
      obtain⟨a,l',f1,f2,_⟩:=h2;exact⟨a,f1,by show H a≠af;rw[f2];exact λz=>nomatch z⟩
     |ln _=>
      obtain⟨a,l',f1,f2,_⟩:=h2;exact⟨a,f1,by show H a≠af;rw[f2];exact λz=>nomatch z⟩
     |ob _=>cases z
  ·rw[D7]at e
   split at e
   ·cases e
   ·cases e
 ow:=λi j x y v e1 e2 o1 o2 _ _=>by
  unfold dj at e1;rw[List.getElem?_append]at e1
  split at e1
  ·rw[Be]at e1;cases q:ws[i]? with
   |none=>rw[q]at e1;cases e1
   |some y=>
    rw[q]at e1;cases e1;cases o1
  ·rw[D7]at e1
   split at e1
   ·cases e1
   ·cases e1
 len:=by
  unfold L2.start dj;rw[A0,A0,Ap,Ap,Ft,Ft,r.len]
section
variable{P:Bj}{w:Bu}{K:Ag}{mg:Str->Option Af}{base:Heap}
theorem Fun.okD{x qual:Str}{st:Stmt}{f:Addr}{fd:Cw}{N ps:List Str}{k:Nat}{S:ck}(F:Fun K x qual st f fd)(Sc:FnScope N ps (cK st))(len:∀ws n Q,S ws n Q->ws.length=ps.length)
  (hbody:∀(cdv:Af)(A:B3)(outer:List Env)(s:Ai)(H:Hp)(E:XK),Room k (A.deeper (Dy qual (cK st) s.heap.objs.size f cdv))->
   ∃T W,DSs (b8 dv P w K mg base N qual (cK st) f cdv A outer s H E).nox (fH st) T W/\∀ws n Q,S ws n Q->W (dj N ws) n {nx:=λ_ n=>Q (.d .none) n,rt:=Q}):FnOk P w K mg base dv (k+1) f fd ps (fe S):=by
 refine F.ok Sc (λvs H Q E h=>?_) (λcdv A outer s H vs Q E hr h=>?_)
 ·obtain⟨t,l,ns,B,ws,n,Q0,_,_,_,r,q,_⟩:=h;rw[r.len];exact len ws n Q0 q
 ·obtain⟨t,l,ns,B,ws,n,Q0,T,bt,ba,r,q,kk⟩:=h;obtain⟨T',W,d,hw⟩:=hbody cdv A outer s H E hr;refine⟨T',d.ps,d.sd ⟨t,l,ns,H,B,λ_=>af⟩ H B _ _ n _ _ (zp T bt ba r) (hw ws n Q0 q) ⟨?_,?_,?_,?_,λ_ _ _ _ _ _ _ _ _ _ _ _ _ z=>z.elim⟩⟩
  ·exact λH' B' σ δ n' R' q'=>kk _ _ q' .non H' R'.tp R'.kp (show RdX H' B .non .none from .non)
  ·exact λH' B' σ δ n' v x R' r' q'=>kk _ _ q' v H' R'.tp R'.kp (r'.less R'.b0)
  ·exact λ_ _ _ _ _ _ z=>z.elim
  ·exact λ_ _ _ _ _ _ z=>z.elim
end
section
variable{X:Cx}{a b c e:Expr}{ta tb tc te:TE}{wa wb wc we:DT}{pos p:Pos}
def gI(Cd:Int->Int->Prop)(f:Int->Int->Ah):Wv->Wv->Int->DQ->Prop:=λx y n Q=>match x,y with
 |.d (.int i),.d (.int j)=>Cd i j/\Q (.d (f i j)) n
 |_,_=>False
theorem LI{Cd:Int->Int->Prop}{g:Int->Int->V}{f:Int->Int->Ah}(h:∀i j H B,RdX H B (g i j) (f i j)):bS (rI Cd g) (gI Cd f):=λC H B σ δ n x y p q Q Q' R rx ry h1 k=>by
 unfold gI at h1
 split at h1
 ·rename_i i j;cases(show RdX H B x (.int i)from rx);cases(show RdX H B y (.int j)from ry);exact⟨i,j,rfl,rfl,h1.1,k _ _ H n R (Kp.refl _ _) (wd (h i j H B)) h1.2⟩
 ·exact h1.elim
def e9(f:Int->Int->Ah):Wv->Wv->Int->DQ->Prop:=λx y n Q=>match x,y with
 |.d (.int i),.d (.int j)=>Q (.d (f i j)) n
 |_,_=>False
theorem IH{g:Int->Int->V}{f:Int->Int->Ah}(h:∀i j H B,RdX H B (g i j) (f i j)):bS (gV g) (e9 f):=λC H B σ δ n x y p q Q Q' R rx ry h1 k=>by
 unfold e9 at h1
 split at h1
 ·rename_i i j;cases(show RdX H B x (.int i)from rx);cases(show RdX H B y (.int j)from ry);exact⟨i,j,rfl,rfl,k _ _ H n R (Kp.refl _ _) (wd (h i j H B)) h1⟩
 ·exact h1.elim
theorem LY(ha:DE X a ta wa)(hb:DE X b tb wb):DE X (.BinOp a .Mod b pos) (eJ (rI (λ_ j=>0 < j) λi j=>.int (i % j)) ta tb) (w2 wa wb (gI (λ_ j=>0 < j) λi j=>.int (i % j))):=js jy (LI λ_ _ _ _=>.int _) ha hb
def eF(w:DT):DT:=λδ n Q=>w δ n λx n1=>match x with
 |.d (.int i)=>Q (.d (.int (-i))) n1
 |_=>False
theorem Sv(ha:DE X a ta wa):DE X (.UnaryOp .USub a pos) (FJ (rU λi=>.int (-i)) ta) (eF wa):=⟨qB pA ha.pe,λC H B σ δ n Q Q' R q k=>ha.sd C H B σ δ n _ _ R q λv x H1 n1 R1 k1 r1 q1=>by
 split at q1
 ·rename_i i;cases(show RdX H1 B v (.int i)from r1);exact⟨i,rfl,k _ _ H1 n1 R1 k1 (wd (.int _)) q1⟩
 ·exact q1.elim⟩
def aG:Wv->Wv->Int->DQ->Prop:=λx y n Q=>match x,y with
 |.d (.int i),.d (.int j)=>Q (.d (.int (i+j))) n
 |.d (.str i),.d (.str j)=>i.length+j.length<=Ao/\Q (.d (.str (i++j))) n
 |.d (.tuple i),.d (.tuple j)=>(i≠[]\/j≠[])/\i.length+j.length<=Ao/\Q (.d (.tuple (i++j))) n
 |.d (.list i),.d (.list j)=>i.length+j.length<=Ao/\Q (.d (.list (i++j))) n
 |_,_=>False
def mq(K:Ag):R2:=λx y H Q=>(gV λi j=>.int (i+j)) x y H Q\/(∃i j,x=.str i/\y=.str j/\i.length+j.length<=Ao/\Q (.str (i++j)) H)\/CL K x y H Q\/yM K x y H Q\/nW x y H Q
theorem op_addA:OpR X (E5 .Add) (mq X.K):=
 op_add.or (op_add_str.or (op_catA.or (op_catT.or Ir)))
theorem Ti(i j:Str):(i++j).length=i.length+j.length:=Array.size_append
theorem yx{K:Ag}:bS (mq K) aG:=λC H B σ δ n x y p q Q Q' R rx ry h1 k=>by
 unfold aG at h1
 split at h1
 ·rename_i i j;cases(show RdX H B x (.int i)from rx);cases(show RdX H B y (.int j)from ry);exact .inl ⟨i,j,rfl,rfl,k _ _ H n R (Kp.refl _ _) (wd (.int _)) h1⟩
 ·rename_i i j;cases(show RdX H B x (.str i)from rx);cases(show RdX H B y (.str j)from ry);exact .inr (.inl ⟨i,j,rfl,rfl,h1.1,k _ _ H n R (Kp.refl _ _) (wd (show RdX H B _ (.str (i++j))from .str _ (by rw[Ti];exact h1.1))) h1.2⟩)
 ·rename_i i j;cases(show RdX H B x (.tuple i)from rx)with
  |@tup ax xs _ e1 e2 e3 e4=>
   cases(show RdX H B y (.tuple j)from ry)with
   |@tup ay ys _ f1 f2 f3 f4=>
    obtain⟨ne,hl,q⟩:=h1;have hl':xs.length+ys.length<=Ao:=by rw[e4.len,f4.len];exact hl
    have new:∀pn,H pn=af->Q' (.ref pn) (upd H pn (.tup (xs++ys))):=λpn hp=>by
     refine k _ _ _ n (R.new hp) (Kp.new hp) (wd (show RdX _ B _ (.tuple (i++j))from .tup bw (R.nb hp) (by rw[A0];exact hl') ?_)) q;exact((e4.append f4).fresh hp).less λb z=>.inl z
    by_cases hy:ys=[]
    ·have hx:xs≠[]:=λz=>by
      subst hy z;cases e4;cases f4;exact ne.elim (λq=>q rfl) λq=>q rfl
     refine .inr (.inr (.inr (.inl ⟨ax,ay,xs,ys,rfl,rfl,SqT.of e1,SqT.of f1,hx,hl',λ_=>?_,λ_=>new⟩)));subst hy;cases f4;rw[Cc]at q;exact k _ _ H n R (Kp.refl _ _) (wd (show RdX H B _ (.tuple i)from .tup e1 e2 e3 e4)) q
    ·refine .inr (.inr (.inl ⟨ax,ay,xs,ys,rfl,rfl,SqT.of e1,SqT.of f1,hy,hl',λz=>?_,λ_=>new⟩));subst z;cases e4;exact k _ _ H n R (Kp.refl _ _) (wd (show RdX H B _ (.tuple j)from .tup f1 f2 f3 f4)) q
 ·rename_i i j;cases(show RdX H B x (.list i)from rx)with
  |@lst ax xs _ e1 e2 e3 e4=>
   cases(show RdX H B y (.list j)from ry)with
   |@lst ay ys _ f1 f2 f3 f4=>
    obtain⟨hl,q⟩:=h1;have hl':xs.length+ys.length<=Ao:=by rw[e4.len,f4.len];exact hl
    refine .inr (.inr (.inr (.inr ⟨ax,ay,xs,ys,rfl,rfl,e1,f1,hl',λpn hp=>?_⟩)));refine k _ _ _ n (R.new hp) (Kp.new hp) (wd (show RdX _ B _ (.list (i++j))from .lst bw (R.nb hp) (by rw[A0];exact hl') ?_)) q;exact((e4.append f4).fresh hp).less λb z=>.inl z
 ·exact h1.elim
theorem Jd(ha:DE X a ta wa)(hb:DE X b tb wb):DE X (.BinOp a .Add b pos) (eJ (mq X.K) ta tb) (w2 wa wb aG):=js op_addA yx ha hb
def b7(f:Int->Int->Bool)(h:List Nat->List Nat->Bool):Wv->Wv->Int->DQ->Prop:=λx y n Q=>match x,y with
 |.d (.int i),.d (.int j)=>Q (.d (.bool (f i j))) n
 |.d (.str i),.d (.str j)=>Q (.d (.bool (h i.cps.toList j.cps.toList))) n
 |_,_=>False
theorem wL{f:Int->Int->Bool}{h:List Nat->List Nat->Bool}:bS (λx y H Q=>(gV λi j=>.bl (f i j)) x y H Q\/∃i j,x=.str i/\y=.str j/\Q (.bl (h i.cps.toList j.cps.toList)) H) (b7 f h):=λC H B σ δ n x y p q Q Q' R rx ry h1 k=>by
 unfold b7 at h1
 split at h1
 ·rename_i i j;cases(show RdX H B x (.int i)from rx);cases(show RdX H B y (.int j)from ry);exact .inl ⟨i,j,rfl,rfl,k _ _ H n R (Kp.refl _ _) (wd (.bl _)) h1⟩
 ·rename_i i j;cases(show RdX H B x (.str i)from rx);cases(show RdX H B y (.str j)from ry);exact .inr ⟨i,j,rfl,rfl,k _ _ H n R (Kp.refl _ _) (wd (.bl _)) h1⟩
 ·exact h1.elim
abbrev gM:=b7 (λi j=>decide (i < j)) (λi j=>decide (i < j))
abbrev d9:=b7 (λi j=>decide (i<=j)) (λi j=>!decide (j < i))
abbrev ql:=b7 (λi j=>decide (j < i)) (λi j=>decide (j < i))
def om:R2:=λx y H Q=>(gV λi j=>.bl (decide (i < j))) x y H Q\/∃i j,x=.str i/\y=.str j/\Q (.bl (decide (i.cps.toList < j.cps.toList))) H
theorem Hr:OpR X (B8 .Lt) om:=op_lt.or Ro
def nJ:R2:=λx y H Q=>(gV λi j=>.bl (decide (i<=j))) x y H Q\/∃i j,x=.str i/\y=.str j/\Q (.bl (!decide (j.cps.toList < i.cps.toList))) H
theorem ux:OpR X (B8 .LtE) nJ:=op_le.or MW
def oz:R2:=λx y H Q=>(gV λi j=>.bl (decide (j < i))) x y H Q\/∃i j,x=.str i/\y=.str j/\Q (.bl (decide (j.cps.toList < i.cps.toList))) H
theorem Pt:OpR X (B8 .Gt) oz:=op_gt.or J8
theorem BG:bS om gM:=wL (f:=λi j=>decide (i < j)) (h:=λi j=>decide (i < j))
theorem t7:bS nJ d9:=wL (f:=λi j=>decide (i<=j)) (h:=λi j=>!decide (j < i))
theorem LV:bS oz ql:=wL (f:=λi j=>decide (j < i)) (h:=λi j=>decide (j < i))
def iY:Ah->Ah->Option Bool
 |.none,.none=>ae ah
 |.none,.int _=>ae ai
 |.int _,.none=>ae ai
 |.none,.bool _=>ae ai
 |.bool _,.none=>ae ai
 |.none,.str _=>ae ai
 |.str _,.none=>ae ai
 |.int i,.int j=>ae (decide (i=j))
 |.bool i,.bool j=>ae (decide (i=j))
 |.str i,.str j=>ae (decide (i=j))
 |.int _,.str _=>ae ai
 |.str _,.int _=>ae ai
 |.bool _,.str _=>ae ai
 |.str _,.bool _=>ae ai
 |.list _,.str _=>ae ai
 |.tuple _,.str _=>ae ai
 |.dict _,.str _=>ae ai
 |.list xs,.list []=>ae xs.isEmpty
 |_,_=>af
def qp:R2:=λx y H Q=>∃d h B,RdX H B x d/\y=.str h/\Q (.bl (cz h d)) H
theorem tK(x y:Str):decide (V.str x=V.str y)=decide (x=y):=by
 by_cases z:x=y
 ·rw[z,decide_eq_true rfl,decide_eq_true rfl]
 ·rw[decide_eq_false z,decide_eq_false λw=>z (V.str.inj w)]
theorem xU(x y:Int):decide (V.int x=V.int y)=decide (x=y):=by
 by_cases z:x=y
 ·rw[z,decide_eq_true rfl,decide_eq_true rfl]
 ·rw[decide_eq_false z,decide_eq_false λw=>z (V.int.inj w)]
theorem FK(x y:Bool):decide (V.bl x=V.bl y)=decide (x=y):=by
 by_cases z:x=y
 ·rw[z,decide_eq_true rfl,decide_eq_true rfl]
 ·rw[decide_eq_false z,decide_eq_false λw=>z (V.bl.inj w)]
theorem RJ(hu:X.A.units < cLine):OpR X (B8 .Eq) qp:=by
 intro pins s σ H x y v u Q I rx ry h;obtain⟨d,hh,B,hd,rfl,q⟩:=h;cases hd with
 |non=>exact op_eq pins s σ H _ _ v u Q I rx ry ⟨rfl,q⟩
 |bl b=>exact op_eq pins s σ H _ _ v u Q I rx ry ⟨rfl,q⟩
 |int i=>exact op_eq pins s σ H _ _ v u Q I rx ry ⟨rfl,q⟩
 |str x hx=>
  refine op_eq pins s σ H _ _ v u Q I rx ry ⟨rfl,?_⟩;rw[tK];exact q
 |@lst a xs ds h1 h2 h3 h4=>
  cases(show v=Bq a from rx);obtain⟨t,rfl⟩:=(show ∃t,u=D4 hh t from ry);obtain⟨its,_,p,_⟩:=I.list (SqL.of (K:=X.K) h1);exact PySem.SeqAt.RcAt.list_str hh t p.isList hu _ _ _ _ ⟨.bl ai,H,I,rfl,q⟩
 |@tup a xs ds h1 h2 h3 h4=>
  cases(show v=Bq a from rx);obtain⟨t,rfl⟩:=(show ∃t,u=D4 hh t from ry);obtain⟨its,_,p,_⟩:=I.tuple (SqT.of (K:=X.K) h1);exact PySem.SeqAt.RcAt.tuple_str hh t (show s.heap.IsTuple a its.toArray from p) hu _ _ _ _ ⟨.bl ai,H,I,rfl,q⟩
def bK:Wv->Wv->Int->DQ->Prop:=λx y n Q=>match x,y with
 |.d a,.d b=>match iY a b with
  |some r=>Q (.d (.bool r)) n
  |none=>False
 |_,_=>False
theorem Rm(hu:X.A.units < cLine):OpR X (B8 .Eq) (λx y H Q=>qr x y H Q\/qp x y H Q\/pq X.K x y H Q):=op_eq.or ((RJ hu).or (MO hu))
theorem Rr{K:Ag}:bS (λx y H Q=>qr x y H Q\/qp x y H Q\/pq K x y H Q) bK:=λC H B σ δ n x y p q Q Q' R rx ry h1 k=>by
 unfold bK at h1
 split at h1
 ·rename_i da db;have rx:RdX H B x da:=rx;have ry:RdX H B y db:=ry;have fin:∀r:Bool,Q (.d (.bool r)) n->Q' (.bl r) H:=λr q=>k _ _ H n R (Kp.refl _ _) (wd (.bl r)) q
  split at h1
  ·rename_i r er;have h1:=fin r h1;cases rx with
   |non=>cases ry<;>first|(cases er;done)|(cases er;exact .inl ⟨rfl,h1⟩)
   |bl i=>cases ry<;>first|(cases er;done)|(cases er;exact .inl ⟨rfl,by first|exact h1|(rw[FK];exact h1)⟩)
   |int i=>cases ry<;>first|(cases er;done)|(cases er;exact .inl ⟨rfl,by first|exact h1|(rw[xU];exact h1)⟩)
   |str i hi=>cases ry<;>first|(cases er;done)|(cases er;exact .inl ⟨rfl,by first|exact h1|(rw[tK];exact h1)⟩)
   |@lst ax xs ds e1 e2 e3 e4=>
    cases ry with
    |str j hj=>cases er;exact .inr (.inl ⟨_,j,B,.lst e1 e2 e3 e4,rfl,h1⟩)
    |@lst ay ys es f1 f2 f3 f4=>
     cases f4 with
     |nil=>
      have er:ae ds.isEmpty=ae r:=er;cases er;refine .inr (.inr ⟨ax,ay,xs,rfl,rfl,SqL.of e1,SqL.of f1,?_⟩);have:xs.isEmpty=ds.isEmpty:=by cases e4<;>rfl
      rw[this];exact h1
     |cons _ _=>cases er
    |_=>cases er
   |@tup ax xs ds e1 e2 e3 e4=>
    cases ry with
    |str j hj=>cases er;exact .inr (.inl ⟨_,j,B,.tup e1 e2 e3 e4,rfl,h1⟩)
    |_=>cases er
  ·exact h1.elim
 ·exact h1.elim
def nO(a b:Ah):Option Bool:=match a,b with
 |.list _,_=>af
 |.tuple _,_=>af
 |a,b=>(iY a b).map not
def iZ:Wv->Wv->Int->DQ->Prop:=λx y n Q=>match x,y with
 |.d a,.d b=>match nO a b with
  |some r=>Q (.d (.bool r)) n
  |none=>False
 |_,_=>False
theorem x9:bS EH iZ:=λC H B σ δ n x y p q Q Q' R rx ry h1 k=>by
 unfold iZ at h1
 split at h1
 ·rename_i da db;have rx:RdX H B x da:=rx;have ry:RdX H B y db:=ry;have fin:∀r:Bool,Q (.d (.bool r)) n->Q' (.bl r) H:=λr q=>k _ _ H n R (Kp.refl _ _) (wd (.bl r)) q
  split at h1
  ·rename_i r er;have h1:=fin r h1;cases rx with
   |non=>cases ry<;>first|(cases er;done)|(cases er;exact⟨rfl,h1⟩)
   |bl i=>cases ry<;>first|(cases er;done)|(cases er;exact⟨rfl,by first|exact h1|(rw[FK];exact h1)⟩)
   |int i=>cases ry<;>first|(cases er;done)|(cases er;exact⟨rfl,by first|exact h1|(rw[xU];exact h1)⟩)
   |str i hi=>cases ry<;>first|(cases er;done)|(cases er;exact⟨rfl,by first|exact h1|(rw[tK];exact h1)⟩)
   |lst _ _ _ _=>cases er
   |tup _ _ _ _=>cases er
  ·exact h1.elim
 ·exact h1.elim
def eA:Ah->Bool
 |.none=>ah
 |_=>ai
def bL(neg:Bool):Wv->Wv->Int->DQ->Prop:=λx y n Q=>match x,y with
 |.d a,.d .none=>Q (.d (.bool (if neg then !eA a else eA a))) n
 |_,_=>False
theorem zQ{H:Hp}{B:Addr->Prop}{v:V}{d:Ah}(h:RdX H B v d):decide (v=.non)=eA d:=by cases h<;>rfl
theorem yP:bS (λx y H Q=>y=.non/\Q (.bl (decide (x=.non))) H) (bL ai):=λC H B σ δ n x y p q Q Q' R rx ry h1 k=>by
 unfold bL at h1
 split at h1
 ·rename_i da;cases(show RdX H B y .none from ry);exact⟨rfl,k _ _ H n R (Kp.refl _ _) (wd (show RdX H B _ (.bool (eA da))from by rw[zQ rx];exact .bl _)) h1⟩
 ·exact h1.elim
theorem Kq:bS (λx y H Q=>y=.non/\Q (.bl (!decide (x=.non))) H) (bL ah):=λC H B σ δ n x y p q Q Q' R rx ry h1 k=>by
 unfold bL at h1
 split at h1
 ·rename_i da;cases(show RdX H B y .none from ry);exact⟨rfl,k _ _ H n R (Kp.refl _ _) (wd (show RdX H B _ (.bool (!eA da))from by rw[zQ rx];exact .bl _)) h1⟩
 ·exact h1.elim
def ki:Ah->Bool
 |.none=>ah
 |.bool _=>ah
 |.int _=>ah
 |.str _=>ah
 |_=>ai
def tV:Ah->Ah->Bool
 |.none,.none=>ah
 |.bool a,.bool b=>a==b
 |.bool a,.int b=>(if a then 1 else 0)==b
 |.int a,.bool b=>a==(if b then 1 else 0)
 |.int a,.int b=>a==b
 |.str a,.str b=>a==b
 |_,_=>ai
def bZ(x:Ah)(ds:List Ah):Bool:=ds.any λy=>tV y x
theorem qW{H:Hp}{B:Addr->Prop}{v:V}{d:Ah}(h:RdX H B v d)(f:ki d=ah):jf v=ah:=by cases h<;>first|rfl|cases f
theorem pD{H:Hp}{B:Addr->Prop}:∀{vs:List V}{ds:List Ah},RdXs H B vs ds->ds.all ki=ah->vs.all jf=ah
 |_,_,.nil,_=>rfl
 |_,_,.cons h r,f=>by
  rw[List.all_cons,Cy]at f ⊢;exact⟨qW h f.1,pD r f.2⟩
theorem NU{H:Hp}{B:Addr->Prop}{v u:V}{d e:Ah}(h:RdX H B v d)(h2:RdX H B u e):jA v u=tV d e:=by cases h<;>cases h2<;>rfl
theorem o4{H:Hp}{B:Addr->Prop}{v:V}{d:Ah}(h:RdX H B v d):∀{vs:List V}{ds:List Ah},RdXs H B vs ds->qM v vs=bZ d ds
 |_,_,.nil=>rfl
 |_,_,.cons h1 r=>by
  have:=o4 h r;unfold qM bZ at this ⊢;rw[List.any_cons,List.any_cons,this,NU h1 h]
def gu(neg:Bool):Wv->Wv->Int->DQ->Prop:=λx y n Q=>match x,y with
 |.d a,.d (.tuple ds)=>ki a=ah/\ds.all ki=ah/\Q (.d (.bool (if neg then !bZ a ds else bZ a ds))) n
 |.d a,.d (.list ds)=>ki a=ah/\ds.all ki=ah/\Q (.d (.bool (if neg then !bZ a ds else bZ a ds))) n
 |_,_=>False
theorem uX{K:Ag}{neg:Bool}:bS (kz K neg) (gu neg):=λC H B σ δ n x y p q Q Q' R rx ry h1 k=>by
 unfold gu at h1
 split at h1
 ·rename_i da ds;obtain⟨f1,f2,q⟩:=h1;have rx:RdX H B x da:=rx;cases(show RdX H B y (.tuple ds)from ry)with
  |@tup ay ys _ e1 e2 e3 e4=>
   refine⟨ay,ys,rfl,.inr (SqT.of e1),qW rx f1,pD e4 f2,?_⟩;rw[o4 rx e4];exact k _ _ H n R (Kp.refl _ _) (wd (.bl _)) q
 ·rename_i da ds;obtain⟨f1,f2,q⟩:=h1;have rx:RdX H B x da:=rx;cases(show RdX H B y (.list ds)from ry)with
  |@lst ay ys _ e1 e2 e3 e4=>
   refine⟨ay,ys,rfl,.inl (SqL.of e1),qW rx f1,pD e4 f2,?_⟩;rw[o4 rx e4];exact k _ _ H n R (Kp.refl _ _) (wd (.bl _)) q
 ·exact h1.elim
def aY:Wv->Wv->Int->DQ->Prop:=λx y n Q=>match x,y with
 |.d (.list ds),.d (.int i)=>match dB ds i with
  |some d=>Q (.d d) n
  |none=>False
 |.d (.tuple ds),.d (.int i)=>match dB ds i with
  |some d=>Q (.d d) n
  |none=>False
 |.d (.str z),.d (.int i)=>match dB z.cps.toList i with
  |some c=>Q (.d (.str ⟨#[c]⟩)) n
  |none=>False
 |_,_=>False
theorem zc{H:Hp}{B:Addr->Prop}{vs:List V}{ds:List Ah}{i:Int}{d:Ah}(r:RdXs H B vs ds)(h:dB ds i=ae d):∃v,dB vs i=ae v/\RdX H B v d:=by
 unfold dB at h ⊢;rw[r.len];cases e:jJ ds.length i with
 |none=>rw[e]at h;cases h
 |some j=>
  rw[e]at h;exact r.getD h
theorem TJ{K:Ag}:bS (kM K) aY:=λC H B σ δ n x y p q Q Q' R rx ry h1 k=>by
 unfold aY at h1
 split at h1
 ·rename_i ds i
  split at h1
  ·rename_i d e;cases(show RdX H B y (.int i)from ry);cases(show RdX H B x (.list ds)from rx)with
   |@lst ay ys _ e1 e2 e3 e4=>
    obtain⟨v,f1,f2⟩:=zc e4 e;exact .inl ⟨ay,ys,i,v,rfl,rfl,SqL.of e1,f1,k _ _ H n R (Kp.refl _ _) (wd f2) h1⟩
  ·exact h1.elim
 ·rename_i ds i
  split at h1
  ·rename_i d e;cases(show RdX H B y (.int i)from ry);cases(show RdX H B x (.tuple ds)from rx)with
   |@tup ay ys _ e1 e2 e3 e4=>
    obtain⟨v,f1,f2⟩:=zc e4 e;exact .inr (.inl ⟨ay,ys,i,v,rfl,rfl,SqT.of e1,f1,k _ _ H n R (Kp.refl _ _) (wd f2) h1⟩)
  ·exact h1.elim
 ·rename_i z i
  split at h1
  ·rename_i c e;cases(show RdX H B y (.int i)from ry);cases(show RdX H B x (.str z)from rx)with
   |str _ hz=>exact .inr (.inr ⟨z,i,c,rfl,rfl,hz,e,k _ _ H n R (Kp.refl _ _) (wd (show RdX H B _ (.str ⟨#[c]⟩)from .str _ (by show 1<=Ao;decide))) h1⟩)
  ·exact h1.elim
 ·exact h1.elim
theorem ub(ha:DE X a ta wa)(hb:DE X b tb wb)(hs:nK b:=by exact λ_ _=>rfl):DE X (.Subscript a b pos) (eJ (kM X.K) ta tb) (w2 wa wb aY):=⟨gf mQ ha.pe hb.pe hs,qS TJ ha.sd hb.sd⟩
def aU:List Wv->Int->DQ->Prop:=λxs n Q=>match xs with
 |[.d (.str x)]=>Q (.d (.int x.length)) n
 |[.d (.list ds)]=>Q (.d (.int ds.length)) n
 |[.d (.tuple ds)]=>Q (.d (.int ds.length)) n
 |_=>False
theorem HK:CallR X (.builtin "len") (λxs H Q=>(∃z,xs=[.str z]/\z.length<=Ao/\Q (.int z.length) H)\/∃p ys,xs=[.ref p]/\(SqL X.K H p ys\/SqT X.K H p ys)/\Q (.int ys.length) H):=call_len_str.or qD
theorem RX{K:Ag}:dH (λxs H Q=>(∃z,xs=[.str z]/\z.length<=Ao/\Q (.int z.length) H)\/∃p ys,xs=[.ref p]/\(SqL K H p ys\/SqT K H p ys)/\Q (.int ys.length) H) aU:=λC H B σ δ n vs xs Q Q' R r h k=>by
 unfold aU at h
 split at h
 ·rename_i x;cases r with
  |cons r1 r2=>
   cases r2;cases(show RdX H B _ (.str x)from r1)with
   |str _ hz=>exact .inl ⟨x,rfl,hz,k _ _ H n R (Kp.refl _ _) (wd (.int _)) h⟩
 ·rename_i ds;cases r with
  |cons r1 r2=>
   cases r2;cases(show RdX H B _ (.list ds)from r1)with
   |@lst ay ys _ e1 e2 e3 e4=>
    refine .inr ⟨ay,ys,rfl,.inl (SqL.of e1),?_⟩;rw[e4.len];exact k _ _ H n R (Kp.refl _ _) (wd (.int _)) h
 ·rename_i ds;cases r with
  |cons r1 r2=>
   cases r2;cases(show RdX H B _ (.tuple ds)from r1)with
   |@tup ay ys _ e1 e2 e3 e4=>
    refine .inr ⟨ay,ys,rfl,.inr (SqT.of e1),?_⟩;rw[e4.len];exact k _ _ H n R (Kp.refl _ _) (wd (.int _)) h
 ·exact h.elim
theorem Nt{K:Ag}{H:Hp}{B:Addr->Prop}{v:V}{d:Ah}(h:RdX H B v d):TyOf K H v (.type (oW d)):=by
 cases h with
 |non=>exact .non
 |bl b=>exact .bl b
 |int i=>exact .int i
 |str x h=>exact .str x
 |lst h1 h2 h3 h4=>exact .lst h1
 |tup h1 h2 h3 h4=>exact .tup h1
theorem JH{K:Ag}{H:Hp}{B:Addr->Prop}{v:V}{d:Ah}(h:RdX H B v d){T:String}(hT:T="int"\/T="bool"\/T="str"\/T="tuple"\/T="list"):PySem.W.kitOne K (.type (oW d)) (.type T)=ae (fS T d):=by
 cases h<;>rcases hT with rfl|rfl|rfl|rfl|rfl<;>rfl
def bR(T:String)(w:DT):DT:=λδ n Q=>w δ n λx n1=>match x with
 |.d d=>Q (.d (.bool (fS T d))) n1
 |_=>False
theorem Q4{T:String}{x:Str}{p p2:Pos}(hT:T="int"\/T="bool"\/T="str"\/T="tuple"\/T="list")(hg:Gl X "isinstance")(hm:X.mg "isinstance"=af)(hg2:Gl X x)(hm2:X.mg x=af)(hv:B9 x=ae (.type T))(ha:DE X a ta wa)(hn:x≠"__name__":=by decide)(hdb:(x==("__debug__":Str))=ai:=by decide)
  (he:Au [a,.Name x p2] X.env=(ai,eval a X.env)::Au [.Name x p2] X.env:=by rfl) (he2:Au [.Name x p2] X.env=(ai,eval (.Name x p2) X.env)::Au [] X.env:=by rfl) (hpl:(C5 pos (Au [.Name x p2] X.env)).any (·.1)=ai:=by rfl):
  DE X (.Call (.Name "isinstance" p) [a,.Name x p2] [] pos) (iS (λxs H Q=>∃x t b,xs=[x,.ty T]/\TyOf X.K H x t/\PySem.W.kitOne X.K t (.type T)=ae b/\Q (.bl b) H) (cE ta (cE (tC (.ty T)) bG))) (bR T wa):=
 ⟨l6 (K4 (T:=T)) hg hm EA (cy ha.pe (cy (La (v:=.ty T) hg2 hm2 hv rfl hn hdb) c9 he2) he) ∎ ∎ he hpl,λC H B σ δ n Q Q' R q k=>ha.sd C H B σ δ n _ _ R q λv x H1 n1 R1 k1 r1 q1=>by
  cases x with
  |d d=>exact⟨v,_,_,rfl,Nt r1,JH (show RdX H1 B v d from r1) hT,k _ _ H1 n1 R1 k1 (wd (.bl _)) q1⟩
  |tp=>exact q1.elim
  |dk _=>exact q1.elim
  |ln _=>exact q1.elim
  |ob _=>exact q1.elim⟩
def Ri:List Wv->Int->DQ->Prop:=λxs n Q=>match xs with
 |[.d (.list ds)]=>Small (.list ds)/\Q (.d (.str (PyData.shown (.list ds)))) n
 |[.d (.tuple ds)]=>Small (.tuple ds)/\Q (.d (.str (PyData.shown (.tuple ds)))) n
 |_=>False
def eU:List Ah->Option (List Bool)
 |[]=>ae []
 |.bool b::r=>(eU r).map (b::·)
 |_::_=>af
theorem xP{H:Hp}{B:Addr->Prop}:∀{vs:List V}{ds:List Ah}{bs:List Bool},RdXs H B vs ds->eU ds=ae bs->vs=bs.map V.bl
 |_,_,bs,.nil,h=>by
  cases h;rfl
 |_,_,bs,.cons (d:=d) (ds:=ds) h1 h2,h=>by
  cases h1 with
  |bl b=>
   have h':(eU ds).map (b::·)=ae bs:=h;cases e:eU ds with
   |none=>rw[e]at h';cases h'
   |some cs=>
    rw[e]at h';cases h';rw[xP h2 e];rfl
  |_=>cases h
def bF:List Wv->Int->DQ->Prop:=λxs n Q=>match xs with
 |[.d (.list ds)]=>match eU ds with
  |some bs=>Q (.d (.bool (bs.all id))) n
  |none=>False
 |_=>False
theorem QY:dH (λxs H Q=>∃(p:Addr)(bs:List Bool),xs=[.ref p]/\H p=ae (.lst (bs.map V.bl))/\Q (.bl (bs.all id)) H) bF:=λC H B σ δ n vs xs Q Q' R r h k=>by
 unfold bF at h
 split at h
 ·rename_i ds
  split at h
  ·rename_i bs e;cases r with
   |cons r1 r2=>
    cases r2;cases(show RdX H B _ (.list ds)from r1)with
    |@lst ay ys _ e1 e2 e3 e4=>
     exact⟨ay,bs,rfl,by rw[<-xP e4 e];exact e1,k _ _ H n R (Kp.refl _ _) (wd (.bl _)) h⟩
  ·exact h.elim
 ·exact h.elim
def fk:List Wv->Int->DQ->Prop:=λxs n Q=>match xs with
 |[.d (.list ds)]=>Q (.d (.tuple ds)) n
 |[.d (.tuple ds)]=>Q (.d (.tuple ds)) n
 |_=>False
theorem MI{K:Ag}:dH (λxs H Q=>∃p ys,xs=[.ref p]/\((SqL K H p ys/\∀l,H l=af->Q (.ref l) (upd H l (.tup ys)))\/(SqT K H p ys/\Q (.ref p) H))) fk:=λC H B σ δ n vs xs Q Q' R r h k=>by
 unfold fk at h
 split at h
 ·rename_i ds;cases r with
  |cons r1 r2=>
   cases r2;cases(show RdX H B _ (.list ds)from r1)with
   |@lst ay ys _ e1 e2 e3 e4=>
    refine⟨ay,ys,rfl,.inl ⟨SqL.of e1,λl hl=>?_⟩⟩;exact k _ _ _ n (R.new hl) (Kp.new hl) (wd (show RdX _ B _ (.tuple ds)from .tup bw (R.nb hl) e3 ((e4.fresh hl).less λb z=>.inl z))) h
 ·rename_i ds;cases r with
  |cons r1 r2=>
   cases r2;cases(show RdX H B _ (.tuple ds)from r1)with
   |@tup ay ys _ e1 e2 e3 e4=>exact⟨ay,ys,rfl,.inr ⟨SqT.of e1,k _ _ H n R (Kp.refl _ _) (wd (show RdX H B _ (.tuple ds)from .tup e1 e2 e3 e4)) h⟩⟩
 ·exact h.elim
def kL:List Wv->Int->DQ->Prop:=λxs n Q=>match xs with
 |[.d (.list ds)]=>Q (.d (.list ds)) n
 |[.d (.tuple ds)]=>Q (.d (.list ds)) n
 |_=>False
theorem Mm{K:Ag}:dH (λxs H Q=>∃p ys,xs=[.ref p]/\(SqL K H p ys\/SqT K H p ys)/\∀l,H l=af->Q (.ref l) (upd H l (.lst ys))) kL:=λC H B σ δ n vs xs Q Q' R r h k=>by
 unfold kL at h
 split at h
 ·rename_i ds;cases r with
  |cons r1 r2=>
   cases r2;cases(show RdX H B _ (.list ds)from r1)with
   |@lst ay ys _ e1 e2 e3 e4=>
    refine⟨ay,ys,rfl,.inl (SqL.of e1),λl hl=>?_⟩;exact k _ _ _ n (R.new hl) (Kp.new hl) (wd (show RdX _ B _ (.list ds)from .lst bw (R.nb hl) e3 ((e4.fresh hl).less λb z=>.inl z))) h
 ·rename_i ds;cases r with
  |cons r1 r2=>
   cases r2;cases(show RdX H B _ (.tuple ds)from r1)with
   |@tup ay ys _ e1 e2 e3 e4=>
    refine⟨ay,ys,rfl,.inr (SqT.of e1),λl hl=>?_⟩;exact k _ _ _ n (R.new hl) (Kp.new hl) (wd (show RdX _ B _ (.list ds)from .lst bw (R.nb hl) e3 ((e4.fresh hl).less λb z=>.inl z))) h
 ·exact h.elim
end
structure ItOk(fz:Hp)(J:It)(ds:List Ah):Prop where
 le:ds.length<=Ao
 go:∀i H,(∀b o,fz b=ae o->H b=ae o)->i < ds.length->J.go i H
 stop:∀H,(∀b o,fz b=ae o->H b=ae o)->J.stop ds.length H
 yld:∀i H x H' d,(∀b o,fz b=ae o->H b=ae o)->ds[i]?=ae d->J.yld i H x H'->n9 H H'/\∀B,(∀b o,fz b=ae o->¬B b)->(∀b,B b->H b≠af)->RdX H' B x d
def oJ(H:Hp)(B:Addr->Prop)(fz:Hp):Prop:=(∀b o,fz b=ae o->H b=ae o/\¬B b)/\∀b o,H b=ae o->¬B b->fz b=ae o
abbrev gs:=Sl->Int->(List Ah->Int->Prop)->Prop
def oM(wi:TI)(v:gs):Prop:=∀(C:Ctx)(H:Hp)(B:Addr->Prop)(σ:St)(δ:Sl)(n:Int)(Q:List Ah->Int->Prop)(Q':It->Hp->Prop),Rel C H B σ δ n->v δ n Q->
 (∀J ds H' n',Rel C H' B σ δ n'->Kp C.t H H'->(∀fz,oJ H' B fz->ItOk fz J ds)->Q ds n'->Q' J H')->wi σ H Q'
structure DI(X:Cx)(tg iter:Expr)(wi:TI)(v:gs):Prop where
 pi:PI X tg iter wi
 sd:oM wi v
section
variable{X:Cx}{tg a b c e:Expr}{ta tb te:TE}{wa wb we:DT}{pos p:Pos}
def iD(w:DT):gs:=λδ n Q=>w δ n λx n1=>match x with
 |.d (.list ds)=>Q ds n1
 |_=>False
def cX(w:DT):gs:=λδ n Q=>w δ n λx n1=>match x with
 |.d (.tuple ds)=>Q ds n1
 |_=>False
def gw(x:Str):List Ah:=x.cps.toList.map λc=>.str ⟨#[c]⟩
def eS(w:DT):gs:=λδ n Q=>w δ n λx n1=>match x with
 |.d (.str x)=>Q (gw x) n1
 |_=>False
theorem Us(ha:DE X a ta wa):DI X tg a (vR X.K ta) (iD wa):=⟨Jx ha.pe,λC H B σ δ n Q Q' R q k=>ha.sd C H B σ δ n _ _ R q λv x H1 n1 R1 k1 r1 q1=>by
 split at q1
 ·rename_i ds;cases(show RdX H1 B v (.list ds)from r1)with
  |@lst ay ys _ e1 e2 e3 e4=>
   refine⟨ay,rfl,⟨ys,SqL.of e1⟩,k _ ds H1 n1 R1 k1 (λfz th=>?_) q1⟩;have hfz:fz ay=ae (.lst ys):=th.2 _ _ e1 e2;refine⟨by rw[<-e4.len];exact e3,λi H hH hi=>?_,λH hH=>?_,λi H x H' d hH hd hy=>?_⟩
   ·rw[<-e4.len]at hi;exact⟨ys,ys[i],SqL.of (hH _ _ hfz),As hi⟩
   ·exact⟨ys,SqL.of (hH _ _ hfz),by rw[e4.len];exact Av _⟩
   ·obtain⟨rfl,hy⟩:=hy;refine⟨λ_ _ z=>z,λB' hB hBa=>?_⟩;obtain⟨u,hu,ru⟩:=e4.getD hd;have:=hy _ (SqL.of (hH _ _ hfz));rw[hu]at this;cases this;exact ru.move λb o e ne=>⟨hH _ _ (th.2 _ _ e ne),hB _ _ (th.2 _ _ e ne)⟩
 ·exact q1.elim⟩
theorem PL(ha:DE X a ta wa):DI X tg a (kA X.K ta) (cX wa):=⟨Qx ha.pe,λC H B σ δ n Q Q' R q k=>ha.sd C H B σ δ n _ _ R q λv x H1 n1 R1 k1 r1 q1=>by
 split at q1
 ·rename_i ds;cases(show RdX H1 B v (.tuple ds)from r1)with
  |@tup ay ys _ e1 e2 e3 e4=>
   refine⟨ay,rfl,⟨ys,SqT.of e1⟩,k _ ds H1 n1 R1 k1 (λfz th=>?_) q1⟩;have hfz:fz ay=ae (.tup ys):=th.2 _ _ e1 e2;refine⟨by rw[<-e4.len];exact e3,λi H hH hi=>?_,λH hH=>?_,λi H x H' d hH hd hy=>?_⟩
   ·rw[<-e4.len]at hi;exact⟨ys,ys[i],SqT.of (hH _ _ hfz),As hi⟩
   ·exact⟨ys,SqT.of (hH _ _ hfz),by rw[e4.len];exact Av _⟩
   ·obtain⟨rfl,hy⟩:=hy;refine⟨λ_ _ z=>z,λB' hB hBa=>?_⟩;obtain⟨u,hu,ru⟩:=e4.getD hd;have:=hy _ (SqT.of (hH _ _ hfz));rw[hu]at this;cases this;exact ru.move λb o e ne=>⟨hH _ _ (th.2 _ _ e ne),hB _ _ (th.2 _ _ e ne)⟩
 ·exact q1.elim⟩
theorem HV(ha:DE X a ta wa):DI X tg a (mR ta) (eS wa):=⟨Tj ha.pe,λC H B σ δ n Q Q' R q k=>ha.sd C H B σ δ n _ _ R q λv x H1 n1 R1 k1 r1 q1=>by
 split at q1
 ·rename_i x;cases(show RdX H1 B v (.str x)from r1)with
  |str _ hx=>
   have hl:(gw x).length=x.cps.size:=by unfold gw;simp
   refine⟨x,rfl,k _ (gw x) H1 n1 R1 k1 (λfz th=>⟨?_,λi H hH hi=>?_,λH hH=>?_,λi H y H' d hH hd hy=>?_⟩) q1⟩
   ·rw[hl];exact hx
   ·rw[hl]at hi;exact hi
   ·exact hl
   ·obtain⟨rfl,cc,hc,rfl⟩:=hy;refine⟨λ_ _ z=>z,λB' hB hBa=>?_⟩;unfold gw at hd;rw[Be,Array.getElem?_toList,hc]at hd;cases hd;exact .str _ (by show 1<=Ao;decide)
 ·exact q1.elim⟩
def dC(lo:Int)(n:Nat):List Ah:=(Cs n).map λi=>.int (lo+(i:Nat))
def jB(w:DT):gs:=λδ n Q=>w δ n λx n1=>match x with
 |.d (.int j)=>(-(2 ^ 62)<=j/\j<=1000000)/\Q (dC 0 j.toNat) n1
 |_=>False
theorem KY(fz:Hp)(lo:Int)(n:Nat)(hn:n<=1000000):ItOk fz (oV lo n) (dC lo n):=by
 have hl:(dC lo n).length=n:=by unfold dC;simp
 refine⟨?_,λi H hH hi=>?_,λH hH=>?_,λi H y H' d hH hd hy=>?_⟩
 ·rw[hl];exact An hn ∎
 ·rw[hl]at hi;exact hi
 ·show n<=(dC lo n).length;rw[hl];exact Av _
 ·obtain⟨rfl,rfl⟩:=hy;refine⟨λ_ _ z=>z,λB' hB hBa=>?_⟩;unfold dC at hd;rw[Be]at hd;cases e:(Cs n)[i]? with
  |none=>rw[e]at hd;cases hd
  |some j=>
   rw[e]at hd;have:j=i:=by
    obtain⟨h1,h2⟩:=Bs.mp e;rw[List.getElem_range]at h2;exact h2.symm
   subst this;cases hd;exact .int _
theorem OU{p:Pos}(hg:Gl X "range")(hm:X.mg "range"=af)(ha:DE X a ta wa)(hs:Au [a] X.env=[(ai,eval a X.env)]:=by rfl):DI X tg (.Call (.Name "range" p) [a] [] pos) (xZ (cE ta bG)) (jB wa):=⟨Om hg hm (cy ha.pe c9 hs) hs,λC H B σ δ n Q Q' R q k=>ha.sd C H B σ δ n _ _ R q λv x H1 n1 R1 k1 r1 q1=>by
 split at q1
 ·rename_i j;cases(show RdX H1 B v (.int j)from r1);refine⟨j,rfl,q1.1.1,by have:=q1.1.2;have:(2:Int)^62=4611686018427387904:=∎;omega,k _ (dC 0 j.toNat) H1 n1 R1 k1 (λfz _=>KY fz 0 j.toNat (by have:=q1.1.2;omega)) q1.2⟩
 ·exact q1.elim⟩
end
abbrev fo:=Ah->Sl->(Sl->Prop)->Prop
def vz(g:TG)(v:fo):Prop:=∀(C:Ctx)(H:Hp)(B:Addr->Prop)(σ:St)(δ:Sl)(n:Int)(x:V)(d:Ah)(Q:Sl->Prop)(Q':St->Hp->Prop),Rel C H B σ δ n->RdX H B x d->v d δ Q->
 (∀σ' δ',Rel C H B σ' δ' n->Q δ'->Q' σ' H)->g x σ H Q'
structure DG(X:Cx)(tg:Expr)(g:TG)(v:fo):Prop where
 pg:PG X tg g
 sd:vz g v
section
variable{X:Cx}{pos:Pos}
def bg(i:Nat):fo:=λd δ Q=>Q (δ.set i (ae (.w (.d d))))
theorem ug{i:Nat}{x:Str}(hN:X.N.Nodup)(hi:X.N[i]?=ae x)(hx:jq X.env.scope x)(hf:X.fn x=ah\/X.env.scope.names.lookup x=ae .local:=by first|exact .inl rfl|exact .inr rfl|assumption):DG X (.Name x pos) (gp i) (bg i):=
 ⟨TC hN hi hx hf,λC H B σ δ n x d Q Q' R r q k=>k _ _ (R.set (x:=.d d) r rfl) q⟩
end
def cZ(g:fo)(W:aW)(K:DEnds):List Ah->Sl->Int->Prop
 |[],δ,n=>K.nx δ n
 |d::r,δ,n=>g d δ λδ'=>W δ' n {K with nx:=cZ g W K r,ct:=cZ g W K r,bk:=K.nx}
def cq(v:gs)(g:fo)(W:aW):aW:=λδ n K=>v δ n λds n1=>cZ g W K ds δ n1
def bP(H:Hp)(B:Addr->Prop):Hp:=λb=>open Classical in if B b then af else H b
theorem jg(H:Hp)(B:Addr->Prop):oJ H B (bP H B):=by
 refine⟨λb o e=>?_,λb o e n=>?_⟩
 ·unfold bP at e
  split at e
  ·cases e
  ·rename_i h;exact⟨e,h⟩
 ·unfold bP;rw[if_neg n];exact e
theorem Rel.refz{C:Ctx}{H:Hp}{B:Addr->Prop}{σ:St}{δ:Sl}{n:Int}(R:Rel C H B σ δ n):Rel {C with fz:=bP H B} H B σ δ n:=
 ⟨R.tp,R.kp,R.t0,R.l0,R.g0,(jg H B).1,R.bt,R.b0,R.ba,R.a0,R.sl,R.ow,R.len⟩
theorem Rel.unfz{C:Ctx}{fz:Hp}{H:Hp}{B:Addr->Prop}{σ:St}{δ:Sl}{n:Int}(R:Rel {C with fz:=fz} H B σ δ n)(h:∀b o,C.fz b=ae o->fz b=ae o):Rel C H B σ δ n:=
 ⟨R.tp,R.kp,R.t0,R.l0,R.g0,λb o e=>R.fz b o (h b o e),R.bt,R.b0,R.ba,R.a0,R.sl,R.ow,R.len⟩
theorem Rel.same{C:Ctx}{H H':Hp}{B:Addr->Prop}{σ:St}{δ:Sl}{n:Int}(R:Rel C H B σ δ n)(k:n9 H H'):Rel C H' B σ δ n:=by
 obtain⟨a,b,e,h⟩:=R.tp.ob;exact R.step ⟨⟨a,b,k _ _ e,h⟩,k _ _ R.tp.ls,R.tp.len,λz=>k _ _ (R.tp.ag z),R.tp.gne⟩ λb o e _=>k b o e
section
variable{X:Cx}{tg iter:Expr}{body:List Stmt}{wi:TI}{v:gs}{g:TG}{gd:fo}{T:TS}{W:aW}{pos:Pos}
theorem Kw(hi:DI X tg iter wi v)(hg:DG X tg g gd)(hb:DSs X body T W)(hp:PassesOwn (Bg X.prog X.w) X.A X.env X.xe:=by exact PassesOwn.never)(hc:X.calm=ah:=by rfl)
  (hs:∀x,G2 iter X.env x=pure x:=by intro _;rfl):DS X (.For tg iter body [] pos) (iU wi g T) (cq v gd W):=⟨rH hp hc hi.pi hg.pg hb.ps hs,λC H B σ δ n K D R q E=>
 hi.sd C H B σ δ n _ _ R q λJ ds H1 n1 R1 k1 hJ q1=>by
  have ok:=hJ (bP H1 B) (jg H1 B);have R1':=R1.refz;have eG:∀{H B' σ δ n},Rel {C with fz:=bP H1 B} H B' σ δ n->Rel C H B' σ δ n:=λR=>R.unfz λb o e=>(jg H1 B).2 b o (R1.fz b o e).1 (R1.fz b o e).2;refine⟨λi m σ H=>m=ds.length-i/\i<=ds.length/\∃B' δ n,Rel {C with fz:=bP H1 B} H B' σ δ n/\cZ gd W K (ds.drop i) δ n,⟨ds.length,by simp,Bx _,B,δ,n1,R1',by simpa using q1⟩,?_⟩
  rintro i m σ2 H2 ⟨rfl,hi,B2,δ2,n2,R2,q2⟩
  have hfz:∀b o,bP H1 B b=ae o->H2 b=ae o:=λb o e=>(R2.fz b o e).1;by_cases hlt:i < ds.length
  ·rw[F7 hlt]at q2;refine .inr ⟨ok.go i H2 hfz hlt,λσ3 H3=>∃B' δ n,Rel {C with fz:=bP H1 B} H3 B' σ3 δ n/\cZ gd W K (ds.drop (i+1)) δ n,λσ' H' z=>⟨ds.length-(i+1),by omega,rfl,hlt,z⟩,λx H' hy=>?_⟩;obtain⟨sm,rd⟩:=ok.yld i H2 x H' ds[i] hfz (As hlt) hy;have R3:=R2.same sm;refine hg.sd _ H' B2 σ2 δ2 n2 x ds[i] _ _ R3 (rd B2 (λb o e=>(R2.fz b o e).2) R2.ba) q2 λσ' δ' R4 q4=>?_;refine hb.sd _ H' B2 σ' δ' n2 _ _ R4 q4 ⟨?_,?_,?_,?_,λH B σ δ n a xs ds R h0 h1 h2 h3 q=>E.rn H B σ δ n a xs ds (eG R) h0 h1 h2 h3 q⟩
   ·exact λH B σ δ n R q=>⟨B,δ,n,R,q⟩
   ·exact λH B σ δ n v w R r q=>E.rt H B σ δ n v w (eG R) r q
   ·exact λH B σ δ n R q=>E.nx H B σ δ n (eG R) q
   ·exact λH B σ δ n R q=>⟨B,δ,n,R,q⟩
  ·have e:i=ds.length:=by omega
   subst e;rw[List.drop_length]at q2;exact .inl ⟨ok.stop H2 hfz,E.nx H2 B2 σ2 δ2 n2 (eG R2) q2⟩⟩
end
def dD(fr:List (Option Nat))(δ:Sl):Sl:=fr.map λo=>o.bind λi=>match δ[i]? with
 |some (ae (.w x))=>ae (.w x)
 |some (ae (.odk kvs))=>ae (.w (.dk kvs))
 |some (ae (.own ds))=>ae (.w (.ln ds))
 |_=>af
def c8(g:fo)(c:cU)(w:DT)(Q:List Ah->Int->Prop):List Ah->List Ah->Sl->Int->Prop
 |[],acc,_,n=>Q acc n
 |d::r,acc,δ,n=>g d δ λδ'=>c δ' n λb n1=>if b=ah then w δ' n1 λx n2=>match x with
   |.d y=>c8 g c w Q r (acc++[y]) δ' n2
   |_=>False
  else c8 g c w Q r acc δ' n1
def cv(fr:List (Option Nat))(v:gs)(g:fo)(c:cU)(w:DT):gv:=λδ n Q=>v δ n λds n1=>c8 g c w Q ds [] (dD fr δ) n1
structure DIf(X:Cx)(ifs:List Expr)(t:TT)(c:cU):Prop where
 pf:pQ X ifs t
 sd:jz t c
def aX:cU:=λ_ n Q=>Q ah n
theorem RV{X:Cx}:DIf X [] xg aX:=⟨OW,λC H B σ δ n Q Q' R q k=>k ah H n R (Kp.refl _ _) q⟩
theorem MH{X:Cx}{c:Expr}{t:TT}{cc:cU}(h:DC X c t cc):DIf X [c] t cc:=⟨IU h.pt,h.sd⟩
theorem Pc(fr:List (Option Nat))(σ:St):(dX fr σ).length=fr.length:=by unfold dX;rw[Ap]
theorem LQ(fr:List (Option Nat))(δ:Sl):(dD fr δ).length=fr.length:=by unfold dD;rw[Ap]
theorem sE{fr:List (Option Nat)}{δ:Sl}{j:Nat}{x:SV}(h:(dD fr δ)[j]?=ae (ae x)):∃i y,fr[j]?=ae (ae i)/\δ[i]?=ae (ae y)/\((∃z,x=.w z/\y=.w z)\/(∃kvs,x=.w (.dk kvs)/\y=.odk kvs)\/∃ds,x=.w (.ln ds)/\y=.own ds):=by
 unfold dD at h;rw[Be]at h;cases e:fr[j]? with
 |none=>rw[e]at h;cases h
 |some o=>
  rw[e]at h;cases o with
  |none=>cases h
  |some i=>
   have h':=Bp h;dsimp only[C6]at h'
   split at h'
   ·rename_i z ez;cases h';exact⟨i,_,rfl,ez,.inl ⟨z,rfl,rfl⟩⟩
   ·rename_i kvs ez;cases h';exact⟨i,_,rfl,ez,.inr (.inl ⟨kvs,rfl,rfl⟩)⟩
   ·rename_i ds ez;cases h';exact⟨i,_,rfl,ez,.inr (.inr ⟨ds,rfl,rfl⟩)⟩
   ·cases h'
theorem OT{fr:List (Option Nat)}{σ:St}{j i:Nat}{v:V}(h:fr[j]?=ae (ae i))(h2:σ[i]?=ae (ae v)):(dX fr σ)[j]?=ae (ae v):=by
 unfold dX;rw[Be,h];show ae ((σ[i]?).bind id)=_;rw[h2];rfl
theorem Ju{C:Ctx}{H:Hp}{B:Addr->Prop}{σ:St}{δ:Sl}{n:Int}{L:Addr}{fr:List (Option Nat)}(R:Rel C H B σ δ n)(hL:H L=af):
  Rel ⟨C.t,C.l,C.ns,H,B,bP H B⟩ (upd H L (.lst [])) (λb=>B b\/b=L) (dX fr σ) (dD fr δ) n where
 tp:=R.tp.new hL
 kp:=Kp.new hL
 t0:=R.ba _ R.bt
 l0:=by
  show H C.l.s≠af;rw[R.tp.ls];exact λz=>nomatch z
 g0:=λe=>by
  show H C.l.g≠af;rw[R.tp.ag e];exact λz=>nomatch z
 fz:=λb o e=>by
  obtain⟨e1,e2⟩:=(jg H B).1 b o e;exact⟨by rw[aM (bQ e1 hL)];exact e1,λz=>z.elim e2 λq=>bQ e1 hL q⟩
 bt:=.inl R.bt
 b0:=λb z=>.inl z
 ba:=λb z e=>by
  by_cases q:b=L
  ·rw[q,bw]at e;cases e
  ·rw[aM q]at e;exact R.ba b (z.resolve_right q) e
 a0:=R.ba
 sl:=λj x e=>by
  have mv:∀b o',H b=ae o'->¬B b->upd H L (.lst []) b=ae o'/\¬(B b\/b=L):=λb o' e n=>⟨by rw[aM (bQ e hL)];exact e,λz=>z.elim n λq=>bQ e hL q⟩;obtain⟨i,y,e1,e2,hy⟩:=sE e;obtain⟨v,f1,f2⟩:=R.sl i y e2;refine⟨v,OT e1 f1,?_⟩;rcases hy with⟨z,rfl,rfl⟩|⟨kvs,rfl,rfl⟩|⟨ds,rfl,rfl⟩
  ·cases z with
   |d d=>exact⟨f2.1.move mv,λz=>by cases z⟩
   |tp=>exact⟨f2.1,λz=>by cases z⟩
   |ln ds=>
    obtain⟨a,l,g1,g2,g3,g4,g5⟩:=f2.1;exact⟨⟨a,l,g1,by rw[aM (bQ g2 hL)];exact g2,g3,g4,g5.move mv⟩,λ_=>⟨a,g1,by show H a≠af;rw[g2];exact λz=>nomatch z⟩⟩
   |dk kvs=>
    obtain⟨a,l,g1,g2,g3,g4⟩:=f2.1;exact⟨⟨a,l,g1,by rw[aM (bQ g2 hL)];exact g2,g3,g4.move mv⟩,λ_=>⟨a,g1,by show H a≠af;rw[g2];exact λz=>nomatch z⟩⟩
   |ob o=>
    refine⟨?_,λz=>by cases z⟩;exact ORel.move mv f2.1
  ·obtain⟨a,l,g1,g2,g3,g4,g5,g6⟩:=f2;exact⟨⟨a,l,g1,by rw[aM (bQ g2 hL)];exact g2,λz=>R.t0 (z▸g4),g6.move mv⟩,λ_=>⟨a,g1,by show H a≠af;rw[g2];exact λz=>nomatch z⟩⟩
  ·obtain⟨a,l,g1,g2,g3,g4,g5,g6⟩:=f2;exact⟨⟨a,l,g1,by rw[aM (bQ g2 hL)];exact g2,λz=>R.t0 (z▸g4),g5,g6.move mv⟩,λ_=>⟨a,g1,by show H a≠af;rw[g2];exact λz=>nomatch z⟩⟩
 ow:=λi j x y v e1 e2 o1 o2 _ _=>by
  obtain⟨_,_,_,_,hy⟩:=sE e1;rcases hy with⟨z,rfl,_⟩|⟨kvs,rfl,_⟩|⟨ds,rfl,_⟩
  ·cases o1
  ·cases o1
  ·cases o1
 len:=by rw[Pc,LQ]
section
variable{X:Cx}{elt tg iter:Expr}{ifs:List Expr}{scope:Fb}{cl:List (Str×Addr)}{pos:Pos}{N:List Str}{fr:List (Option Nat)}{wi:TI}{v:gs}{g:TG}{gd:fo}{tt:TT}{cc:cU}{te:TE}{we:DT}
def ir(δ:Sl):Prop:=∀(i:Nat)(x:SV),δ[i]?=ae (ae x)->x.isOwn=ai
theorem Nj(fr:List (Option Nat))(δ:Sl):ir (dD fr δ):=λi x e=>by
 obtain⟨_,_,_,_,hy⟩:=sE e;rcases hy with⟨z,rfl,_⟩|⟨kvs,rfl,_⟩|⟨ds,rfl,_⟩<;>rfl
def nT(v:fo):Prop:=∀d δ Q,ir δ->v d δ Q->v d δ λδ'=>ir δ'/\Q δ'
theorem sD(i:Nat):nT (bg i):=λd δ Q h q=>⟨λj x e=>by
 rcases gO e with⟨_,rfl⟩|⟨_,e'⟩
 ·rfl
 ·exact h j x e',q⟩
theorem SQ(hc:X.calm=ah)(S:CompSc X N scope cl fr)(hi:DI X tg iter wi v)(hg:∀s H fp,DG (fK X N scope cl s H fp) tg g gd)(ht:∀s H fp,DIf (fK X N scope cl s H fp) ifs tt cc)
  (he:∀s H fp,DE (fK X N scope cl s H fp) elt te we) (hno:nT gd) (hs:∀x,G2 iter X.env x=pure x:=by intro _;rfl):
  DF X (.ListComp elt [⟨tg,iter,ifs,0⟩] scope pos) (FG fr wi g tt te) (cv fr v gd cc we):=by
 refine⟨Mg hc S hi.pi (λs H fp=>(hg s H fp).pg) (λs H fp=>(ht s H fp).pf) (λs H fp=>(he s H fp).pe) hs,λC H B σ δ n Q Q' R q k=>hi.sd C H B σ δ n _ _ R q λJ ds H1 n1 R1 k1 hJ q1=>λL hL=>?_⟩;have sg:=(hg X.s₀ X.H₀ []).sd;have st:=(ht X.s₀ X.H₀ []).sd;have se:=(he X.s₀ X.H₀ []).sd;have ok:=hJ (bP H1 B) (jg H1 B);have hLt:L≠C.t:=λz=>R1.ba _ R1.bt (z▸hL);refine⟨λi m ys τ H=>m=ds.length-i/\i<=ds.length/\ys.length<=i/\∃δ' n' acc,Rel ⟨C.t,C.l,C.ns,H1,B,bP H1 B⟩ H (λb=>B b\/b=L) τ δ' n'/\ir δ'/\H L=ae (.lst ys)/\RdXs H (λb=>B b\/b=L) ys acc/\c8 gd cc we Q (ds.drop i) acc δ' n',
  ⟨ds.length,by simp,Bx _,Bx _,dD fr δ,n1,[],Ju R1 hL,Nj fr δ,bw,.nil,by simpa using q1⟩,?_⟩
 rintro i m ys τ H2 ⟨rfl,hi,hys,δ2,n2,acc,R2,no2,hL2,rd2,q2⟩
 have hfz:∀b o,bP H1 B b=ae o->H2 b=ae o:=λb o e=>(R2.fz b o e).1;by_cases hlt:i < ds.length
 ·rw[F7 hlt]at q2;refine .inr ⟨ok.go i H2 hfz hlt,Bn (Fm hys hlt) ok.le,λx H' hy=>?_⟩;obtain⟨sm,rd⟩:=ok.yld i H2 x H' ds[i] hfz (As hlt) hy;have R3:=R2.same sm;refine sg _ H' _ τ δ2 n2 x ds[i] _ _ R3 (rd _ (λb o e=>(R2.fz b o e).2) R2.ba) (hno _ _ _ no2 q2) λτ3 δ3 R4 ⟨no3,q4⟩=>?_;refine st _ H' _ τ3 δ3 n2 _ _ R4 q4 λb H4 n4 R5 k5 q5=>?_;have hL4:H4 L=ae (.lst ys):=k5 _ _ (sm _ _ hL2) hLt;have rd4:RdXs H4 (λb=>B b\/b=L) ys acc:=(rd2.keep λb o e _=>sm b o e).kp k5 R4.bt;cases b with
  |false=>
   rw[if_neg Ak]at q5 ⊢;exact⟨ds.length-(i+1),by omega,rfl,hlt,by omega,δ3,n4,acc,R5,no3,hL4,rd4,q5⟩
  |true=>
   rw[if_pos rfl]at q5 ⊢;refine se _ H4 _ τ3 δ3 n4 _ _ R5 q5 λu y H5 n5 R6 k6 r6 q6=>?_;cases y with
   |d y=>
    have hL5:H5 L=ae (.lst ys):=k6 _ _ hL4 hLt;refine⟨hL5,ds.length-(i+1),by omega,rfl,hlt,by rw[A0,B5];omega,δ3,n5,acc++[y],R6.mut (.inr rfl) hL λj z e o=>absurd (no3 j z e) (by rw[o];exact λq=>nomatch q),no3,bw,?_,q6⟩;refine RdXs.keep (λb o e n=>?_) ((rd4.kp k6 R5.bt).append (.cons r6 .nil));rw[aM λ(z:b=L)=>n (.inr z)];exact e
   |tp=>exact q6.elim
   |dk _=>exact q6.elim
   |ln _=>exact q6.elim
   |ob _=>exact q6.elim
 ·have e:i=ds.length:=by omega
  subst e;rw[List.drop_length]at q2;refine .inl ⟨ok.stop H2 hfz,k L ys acc H2 n2 (R1.step R2.tp R2.kp) (k1.trans R2.kp) (R1.was k1 hL) hL2 (An hys ok.le) rd2 q2⟩
end
abbrev eI:=List Ah->Sl->(Sl->Prop)->Prop
def TR(g:il)(v:eI):Prop:=∀(C:Ctx)(H:Hp)(B:Addr->Prop)(σ:St)(δ:Sl)(n:Int)(xs:List V)(ds:List Ah)(Q:Sl->Prop)(Q':St->Hp->Prop),Rel C H B σ δ n->RdXs H B xs ds->v ds δ Q->
 (∀σ' δ',Rel C H B σ' δ' n->Q δ'->Q' σ' H)->g xs σ H Q'
structure DGs(X:Cx)(ts:List Expr)(g:il)(v:eI):Prop where
 pg:mP X ts g
 sd:TR g v
def du:eI:=λds δ Q=>match ds with
 |[]=>Q δ
 |_=>False
def cQ(v:fo)(r:eI):eI:=λds δ Q=>match ds with
 |d::ds=>v d δ λδ'=>r ds δ' Q
 |[]=>False
def dJ(n:Nat)(r:eI):fo:=λd δ Q=>match d with
 |.tuple ds=>ds.length=n/\r ds δ Q
 |_=>False
theorem K7:∀ds δ Q,ir δ->du ds δ Q->du ds δ λδ'=>ir δ'/\Q δ':=λds δ Q h q=>by
 cases ds with
 |nil=>exact⟨h,q⟩
 |cons _ _=>exact q
theorem Hz{v:fo}{r:eI}(mono:∀d δ (Q Q':Sl->Prop),(∀δ',Q δ'->Q' δ')->v d δ Q->v d δ Q')(hv:nT v)(hr:∀ds δ Q,ir δ->r ds δ Q->r ds δ λδ'=>ir δ'/\Q δ'):∀ds δ Q,ir δ->cQ v r ds δ Q->cQ v r ds δ λδ'=>ir δ'/\Q δ':=λds δ Q h q=>by
 cases ds with
 |nil=>exact q
 |cons d ds=>exact mono d δ _ _ (λδ' z=>hr ds δ' Q z.1 z.2) (hv d δ _ h q)
theorem Na{n:Nat}{r:eI}(hr:∀ds δ Q,ir δ->r ds δ Q->r ds δ λδ'=>ir δ'/\Q δ'):nT (dJ n r):=λd δ Q h q=>by
 unfold dJ at q ⊢
 split at q
 ·exact⟨q.1,hr _ _ _ h q.2⟩
 ·exact q.elim
theorem Sw(i j n:Nat):nT (dJ n (cQ (bg i) (cQ (bg j) du))):=
 Na (Hz (λ_ _ _ _ h q=>h _ q) (sD i) (Hz (λ_ _ _ _ h q=>h _ q) (sD j) K7))
section
variable{X:Cx}{pos:Pos}
theorem yX:DGs X [] jI du:=⟨RZ,λC H B σ δ n xs ds Q Q' R r q k=>by
 cases r with
 |nil=>exact⟨rfl,k σ δ R q⟩
 |cons _ _=>exact q.elim⟩
end
section
variable{X:Cx}{pos:Pos}
theorem sN{e:Expr}{es:List Expr}{t:TG}{u:il}{v:fo}{r:eI}(h1:DG X e t v)(h2:DGs X es u r)
  (hs:(E8 (e::es) X.env).map (·.2)=assign e X.env::(E8 es X.env).map (·.2):=by rfl):DGs X (e::es) (me t u) (cQ v r):=⟨RP h1.pg h2.pg hs,λC H B σ δ n xs ds Q Q' R rr q k=>by
 cases rr with
 |nil=>exact q.elim
 |cons r1 r2=>exact⟨_,_,rfl,h1.sd C H B σ δ n _ _ _ _ R r1 q λσ' δ' R' q'=>h2.sd C H B σ' δ' n _ _ _ _ R' r2 q' k⟩⟩
theorem R9{es:List Expr}{k:Nat}{t:il}{n:Nat}{r:eI}(h:DGs X es t r)(hc:X.calm=ah:=by rfl)
  (hn:(E8 es X.env).length=n:=by rfl) (hst:(E8 es X.env).findIdx? (·.1)=af:=by rfl):DG X (.Tuple es k pos) (iJ X.K n t) (dJ n r):=⟨Lj hc h.pg hn hst,λC H B σ δ n' x d Q Q' R rr q k=>by
 unfold dJ at q
 split at q
 ·rename_i ds;cases rr with
  |@tup ay ys _ e1 e2 e3 e4=>exact⟨ay,ys,rfl,SqT.of e1,by rw[e4.len];exact q.1,h.sd C H B σ δ n' _ _ _ _ R e4 q.2 k⟩
 ·exact q.elim⟩
def ku:List Ah->Option (List Str)
 |[]=>ae []
 |.str b::r=>(ku r).map (b::·)
 |_::_=>af
def uQ(K:Ag):V->List V->Hp->VK->Prop:=λx vs H Q=>∃(z:Str)(p:Addr)(ys:List Str),x=.str z/\vs=[.ref p]/\(SqL K H p (ys.map V.str)\/SqT K H p (ys.map V.str))/\(ys.map (·.length)).sum+ys.length*z.length<=16777216/\Q (.str (Txt.join z ys)) H
theorem zk{ys:List Str}:∀{us:List Af},Vals (ys.map V.str) us->PyProof.Rows.StrsAre us ys:=by
 induction ys with
 |nil=>
  intro us h;cases h;exact .nil
 |cons y r ih=>
  intro us h;rw[Aq]at h;cases h with
  |cons h1 h2=>
   obtain⟨t,rfl⟩:=h1;exact .cons y t (ih h2)
theorem PF:pL X "str.join" (uQ X.K):=by
 intro pins s σ H x xs v us Q I rx rv h;obtain⟨z,p,ys,rfl,rfl,hq,hok,q⟩:=h;obtain⟨t,rfl⟩:=(show ∃t,v=D4 z t from rx);obtain⟨u,rfl,ru⟩:=rv.one;cases(show u=Bq p from ru);rcases hq with hq|hq
 ·obtain⟨its,r',pl,_⟩:=I.list hq;exact PyProof.Rows.join_list pl.isList (by simpa using zk r') hok λt' k=>⟨.str _,H,I.tok k,⟨t',rfl⟩,q⟩
 ·obtain⟨its,r',pl,_⟩:=I.tuple hq;exact PyProof.Rows.join_tuple pl (by simpa using zk r') hok λt' k=>⟨.str _,H,I.tok k,⟨t',rfl⟩,q⟩
theorem uS{H:Hp}{B:Addr->Prop}:∀{vs:List V}{ds:List Ah}{ys:List Str},RdXs H B vs ds->ku ds=ae ys->vs=ys.map V.str
 |_,_,ys,.nil,h=>by
  cases h;rfl
 |_,_,ys,.cons (d:=d) (ds:=ds) h1 h2,h=>by
  cases h1 with
  |str b hb=>
   have h':(ku ds).map (b::·)=ae ys:=h;cases e:ku ds with
   |none=>rw[e]at h';cases h'
   |some cs=>
    rw[e]at h';cases h';rw[uS h2 e];rfl
  |_=>cases h
def nv(w w':DT):DT:=λδ n Q=>w δ n λx n1=>match x with
 |.d (.str z)=>w' δ n1 λy n2=>match y with
  |.d (.list ds)=>match ku ds with
   |some ys=>(ys.map (·.length)).sum+ys.length*z.length<=16777216/\Q (.d (.str (Txt.join z ys))) n2
   |none=>False
  |.d (.tuple ds)=>match ku ds with
   |some ys=>(ys.map (·.length)).sum+ys.length*z.length<=16777216/\Q (.d (.str (Txt.join z ys))) n2
   |none=>False
  |_=>False
 |_=>False
theorem RS{o e:Expr}{to te:TE}{wo we:DT}{ap cp:Pos}(ho:DE X o to wo)(he:DE X e te we)
  (hbase:Em o "join" X.env (eval o X.env)=eval o X.env:=by rfl)
  (hfew:((C5 cp (Au [e] X.env)).all (λx=>!x.1)&&(backToKw cp (Fq [] X.env)).all (λx=>x.1.isSome)
   && decide ([e].length+([]:List F2).length+(if ([]:List F2).isEmpty then 0 else 1) < 30))=ah:=by rfl)
  (hline:(ap.endLine==cp.line)=ah:=by rfl) (hs:Au [e] X.env=[(ai,eval e X.env)]:=by rfl) (hplain:(C5 cp (Au [] X.env)).any (·.1)=ai:=by rfl):
  DE X (.Call (.Attribute o "join" ap) [e] [] cp) (jv X.K "str" (uQ X.K) to (cE te bG)) (nv wo we):=
 ⟨mD PySem.F.plainAttrs_str PySem.F.slot_str_join PySem.F.type_str_join PF ho.pe (cy he.pe c9 hs) hbase hfew hline hs hplain,λC H B σ δ n Q Q' R q k=>ho.sd C H B σ δ n _ _ R q λv x H1 n1 R1 k1 r1 q1=>by
  split at q1
  ·rename_i z;cases(show RdX H1 B v (.str z)from r1);refine⟨rfl,he.sd C H1 B σ δ n1 _ _ R1 q1 λu y H2 n2 R2 k2 r2 q2=>?_⟩
   split at q2
   ·rename_i ds
    split at q2
    ·rename_i ys ey;cases(show RdX H2 B u (.list ds)from r2)with
     |@lst ay vs _ e1 e2 e3 e4=>
      have:=uS e4 ey;subst this;exact⟨z,ay,ys,rfl,rfl,.inl (SqL.of e1),q2.1,k _ _ H2 n2 R2 (k1.trans k2) (wd (show RdX H2 B _ (.str _)from .str _ (PySem.joinOk_length (PyProof.Rows.joinOk_of q2.1)))) q2.2⟩
    ·exact q2.elim
   ·rename_i ds
    split at q2
    ·rename_i ys ey;cases(show RdX H2 B u (.tuple ds)from r2)with
     |@tup ay vs _ e1 e2 e3 e4=>
      have:=uS e4 ey;subst this;exact⟨z,ay,ys,rfl,rfl,.inr (SqT.of e1),q2.1,k _ _ H2 n2 R2 (k1.trans k2) (wd (show RdX H2 B _ (.str _)from .str _ (PySem.joinOk_length (PyProof.Rows.joinOk_of q2.1)))) q2.2⟩
    ·exact q2.elim
   ·exact q2.elim
  ·exact q1.elim⟩
end
structure Has(P:Bj)(w:Bu)(K:Ag)(mg:Str->Option Af)(base:Heap)(k:Nat)(x:Str)(ps:List Str)(S:ck):Prop where
 ex:∃(f:Addr)(fd:Cw),FnOk P w K mg base dv k f fd ps (fe S)/\Binds K fd ps []/\mg x=ae (.ref f)/\Cf K (.ref f)=ah
section
variable{P:Bj}{w:Bu}{K:Ag}{mg:Str->Option Af}{base:Heap}
theorem Has.mk'{k:Nat}{x qual:Str}{st:Stmt}{ps:List Str}{S:ck}{f:Addr}{fd:Cw}(F:Fun K x qual st f fd)(m:mg x=ae (.ref f))(b:Binds K fd ps [])(h:FnOk P w K mg base dv k f fd ps (fe S)):Has P w K mg base k x ps S:=⟨f,fd,h,b,m,F.kp⟩
end
theorem PY{X:Cx}{e:Expr}{es:List Expr}{pos p:Pos}{tR:TA}{wR:eO}{k:Nat}{ps:List Str}{S:ck}{x:Str}(h:Has X.prog X.w X.K X.mg X.base k x ps S)(hr:Room k X.A)(hg:Gl X x)
  (ha:DA X (e::es) tR wR) (hdb:(x==("__debug__":Str))=ai:=by decide) (he:Au (e::es) X.env=(ai,eval e X.env)::Au es X.env:=by rfl) (hpl:(C5 pos (Au es X.env)).any (·.1)=ai:=by rfl):
  DE X (.Call (.Name x p) (e::es) [] pos) (jr (fe S) [] E0 tR) (aT S wR):=by
 obtain⟨f,fd,h1,h2,h3,h4⟩:=h.ex;exact PJ h1 hr hg h3 h4 h2 ha hdb he hpl
theorem RM{cl cells:List (Str×Addr)}(h:∀y∈cl,cells.lookup y.1=ae y.2):∀x c,cl.lookup x=ae c->cells.lookup x=ae c:=λx c e=>h _ (pW e)
def gY:ck:=λws n Q=>match ws with
 |[.tp,.d (.int many)]=>(n < 2 ^ 40/\0 < many/\many < 1073741824)/\∀r:Int,0<=r->r < many->Q (.d (.int r)) (n+1)
 |_=>False
section
variable{P:Bj}{w:Bu}{K:Ag}{mg:Str->Option Af}{base:Heap}
theorem OL{k:Nat}{f:Addr}{fd:Cw}{ps:List Str}(h:FnOk P w K mg base dv k f fd ps FH):FnOk P w K mg base dv k f fd ps (fe gY):=h.imp λvs H Q E hs=>by
 obtain⟨t,l,ns,B,ws,n,Q0,T,bt,ba,r,q,kk⟩:=hs;unfold gY at q
 split at q
 ·rename_i many;cases r with
  |cons r1 r2=>
   cases r2 with
   |cons r3 r4=>
    cases r4;cases(show _=V.ref t from r1);cases(show RdX H B _ (.int many)from r3);exact⟨t,l,ns,n,many,rfl,T,q.1.1,q.1.2.1,q.1.2.2,λr H' h0 h1 T' k'=>kk _ _ (q.2 r h0 h1) _ H' T' k' (.int r)⟩
 ·exact q.elim
def spLaw(K:Ag):Sp:=λvs H Q _=>∃(a:Addr)(ns:List Int),vs=[.ref a]/\SqL K H a (ns.map V.int)/\ns.length<=63/\∀H',Q (.bl ah) H'
def nV:DEnds:={ nx:=λ_ _=>False,rt:=λw _=>w=.d (.bool ah)}
theorem Oy{H:Hp}{t:Addr}{l:TL}{ns:List Int}{a:V}{k:Nat}(T:Tp H t l ns 0):Rel ⟨t,l,ns,H,λb=>b=t,λ_=>af⟩ H (λb=>b=t) (ae a::ae (.ref t)::Ax k af) (af::ae (.w .tp)::Ax k af) 0 where
 tp:=T
 kp:=Kp.refl _ _
 t0:=by
  obtain⟨_,_,h,_⟩:=T.ob;show H t≠af;rw[h];exact λz=>nomatch z
 l0:=by
  show H l.s≠af;rw[T.ls];exact λz=>nomatch z
 g0:=λe=>by
  show H l.g≠af;rw[T.ag e];exact λz=>nomatch z
 fz:=λb o e=>nomatch e
 bt:=rfl
 b0:=λ_ z=>z
 ba:=λb z=>by
  obtain⟨_,_,h,_⟩:=T.ob;rw[z,h];exact λz=>nomatch z
 a0:=λb z=>by
  obtain⟨_,_,h,_⟩:=T.ob;show H b≠af;rw[show b=t from z,h];exact λz=>nomatch z
 sl:=λi x e=>by
  rcases i with _|_|i
  ·cases e
  ·cases e;exact⟨_,rfl,rfl,λz=>by cases z⟩
  ·have e':(Ax k (af:Option SV))[i]?=ae (ae x):=e;rw[D7]at e'
   split at e'
   ·cases e'
   ·cases e'
 ow:=λi j x y v e1 e2 o1 o2 f1 f2=>by
  rcases i with _|_|i
  ·cases e1
  ·cases e1;cases o1
  ·have e':(Ax k (af:Option SV))[i]?=ae (ae x):=e1;rw[D7]at e'
   split at e'
   ·cases e'
   ·cases e'
 len:=by simp
theorem Ia{f fT:Addr}{fd fdT:Cw}{st:Stmt}{N:List Str}{k:Nat}{W:aW}(F:Fun K "law" "law" st f fd)(Sc:FnScope N ["_law_script"] (cK st))
  (GT:FnOk P w K mg base dv 1 fT fdT ["_law_script"] (mM K)) (bT:Binds K fdT ["_law_script"] []) (mT:mg "_law_tape"=ae (.ref fT)) (kT:Cf K (.ref fT)=ah)
  (hN:∀v,start N [v]=ae v::af::Ax (N.length-2) af)
  (hW:W (af::ae (.w .tp)::Ax (N.length-2) af) 0 nV)
  (hbody:∀(cdv:Af)(A:B3)(outer:List Env)(s:Ai)(H:Hp)(E:XK),Room k (A.deeper (Dy "law" (cK st) s.heap.objs.size f cdv))->
   ∃s0 rest T,fH st=s0::rest/\PS (b8 dv P w K mg base N "law" (cK st) f cdv A outer s H E).nox s0 (eM (jr (mM K) [] E0 (cE (cn 0) bG)) (gp 1))/\DSs (b8 dv P w K mg base N "law" (cK st) f cdv A outer s H E).nox rest T W):
  FnOk P w K mg base dv (k+1) f fd ["_law_script"] (spLaw K):=by
 refine F.ok Sc (λvs H Q E h=>?_) (λcdv A outer s H vs Q E hr h=>?_)
 ·obtain⟨a,ns,rfl,_⟩:=h;rfl
 ·obtain⟨a,ns,rfl,hS,hl,kk⟩:=h;obtain⟨s0,rest,T,e,p0,d⟩:=hbody cdv A outer s H E hr;rw[e];refine⟨_,fi p0 d.ps,?_⟩;rw[hN];refine⟨_,rfl,a,ns,rfl,hS,hl,λt l H1 T1 _=>?_⟩;refine d.sd ⟨t,l,ns,H1,λb=>b=t,λ_=>af⟩ H1 (λb=>b=t) _ _ 0 nV _ (Oy (a:=.ref a) (k:=N.length-2) T1) hW ⟨?_,?_,?_,?_,λ_ _ _ _ _ _ _ _ _ _ _ _ _ z=>z.elim⟩
  ·exact λ_ _ _ _ _ _ z=>z.elim
  ·intro H B σ δ n v w R r z;have z:w=.d (.bool ah):=z;subst z;cases(show RdX H B v (.bool ah)from r);exact kk H
  ·exact λ_ _ _ _ _ _ z=>z.elim
  ·exact λ_ _ _ _ _ _ z=>z.elim
end
end DL
local macro_rules|`(⇑$n:num)=>`(DL.wC (.int $n))
local macro_rules|`(↥$n:num)=>`(DL.ak $n)
namespace Nb
open PySem L2 DL
def bf(g:Ah->Bool):ck:=λws n Q=>match ws with
 |[.d d]=>Q (.d (.bool (g d))) n
 |_=>False
theorem gR{g:Ah->Bool}{ws:List Wv}{n:Int}{Q:DQ}(h:bf g ws n Q):ws.length=1:=by
 unfold bf at h
 split at h
 ·rfl
 ·exact h.elim
def jb(c:Nat):Bool:=!decide ([c] < ("a":Str).cps.toList)&&!decide (("z":Str).cps.toList < [c])
def aQ(k:Int):Ah->Bool
 |.str x=>decide ((1:Int)<=(x.length:Int))&&(decide ((x.length:Int)<=k)&&x.cps.toList.all jb)
 |_=>ai
def kE:ck:=λws n Q=>match ws with
 |[.d d,.d (.int k)]=>Q (.d (.bool (aQ k d))) n
 |_=>False
def j4:Ah->Bool
 |.int _=>ah
 |_=>ai
def qL(lo hi:Int):Ah->Bool
 |.int i=>decide (lo<=i)&&decide (i<=hi)
 |_=>ai
abbrev iz:Ah->Bool:=qL 0 99
def dw(d:Ah):Bool:=aQ 8 d || iz d
def fM:Ah->Bool
 |.tuple ds=>decide ((1:Int)<=(ds.length:Int))&&(decide ((ds.length:Int)<=4)&&ds.all dw)
 |_=>ai
def dg(d:Ah):Bool:=eA d || qL 1 20 d
theorem mB{w:DT}{Q:List Ah->Int->Prop}{rest:Sl}(P:Ah->Prop)(f:Ah->Ah)(h:∀d n Q',P d->Q' (.d (f d)) n->w (ae (.w (.d d))::rest) n Q'):∀(items acc:List Ah)(x:Option SV)(n:Int),(∀d∈items,P d)->Q (acc++items.map f) n->c8 (bg 0) aX w Q items acc (x::rest) n
 |[],acc,x,n,hP,q=>by
  rw[A7,Cc]at q;exact q
 |d::r,acc,x,n,hP,q=>by
  simp only[c8,bg,aX,if_true,Bw];refine h d n _ (hP d Am) ?_;refine mB P f h r (acc++[f d]) _ n (λe he=>hP e (Al _ he)) ?_;rw[Cj];exact q
def kZ(d:Ah):Prop:=∃c:Nat,d=.str ⟨#[c]⟩
theorem CH(x:Str):∀d∈gw x,kZ d:=λd hd=>by
 obtain⟨c,_,rfl⟩:=Dc.mp hd;exact⟨c,rfl⟩
def okD:Ah->Bool
 |.str y=>!decide (y.cps.toList < ("a":Str).cps.toList)&&!decide (("z":Str).cps.toList < y.cps.toList)
 |_=>ai
theorem Jr(x:Str):(gw x).all okD=x.cps.toList.all jb:=by
 unfold gw;rw[List.all_map];rfl
theorem kI{α:Type}(f:α->Bool):∀l:List α,eU (l.map λa=>.bool (f a))=ae (l.map f)
 |[]=>rfl
 |a::r=>by
  show(eU (r.map λa=>.bool (f a))).map _=_;rw[kI f r];rfl
theorem nF{α:Type}(f:α->Bool)(l:List α):(l.map f).all id=l.all f:=by
 rw[List.all_map];rfl
theorem Tr{α:Type}{xs:List α}{r:Int}(h0:0<=r)(h1:r < xs.length):∃v,dB xs r=ae v/\v∈xs:=by
 obtain⟨j,rfl⟩:=Int.eq_ofNat_of_zero_le h0;have hj:j < xs.length:=by omega
 exact⟨xs[j],gh (As hj),Gy hj⟩
theorem gF(d:Ah):fS "int" d=match d with|.int _=>ah|.bool _=>ah|_=>ai:=by cases d<;>rfl
theorem gL(d:Ah):fS "bool" d=match d with|.bool _=>ah|_=>ai:=by cases d<;>rfl
theorem gC(d:Ah):fS "str" d=match d with|.str _=>ah|_=>ai:=by cases d<;>rfl
theorem gm(d:Ah):fS "tuple" d=match d with|.tuple _=>ah|_=>ai:=by cases d<;>rfl
theorem gB(d:Ah):fS "list" d=match d with|.list _=>ah|_=>ai:=by cases d<;>rfl
theorem gS{W:aW}{g:Ah->Bool}{N:List Str}(h:∀d n K,K.rt (.d (.bool (g d))) n->W (dj N [.d d]) n K):∀ws n Q,bf g ws n Q->W (dj N ws) n {nx:=λ_ n=>Q (.d .none) n,rt:=Q}:=λws n Q q=>by
 unfold bf at q
 split at q
 ·exact h _ n _ q
 ·exact q.elim
theorem mC{b:Bool}{A B:Prop}(h1:b=ah->A)(h2:b=ai->B):if b=ah then A else B:=by
 cases b with
 |true=>rw[if_pos rfl];exact h1 rfl
 |false=>rw[if_neg Ak];exact h2 rfl
end Nb
namespace DL
open PySem L2 Nb
section
variable{X:Cx}{tg a b c e:Expr}{ta tb tc te:TE}{wa wb wc we:DT}{pos p:Pos}{K:Ag}
theorem S4(ha:DE X a ta wa)(hb:DE X b tb wb)(hK:X.K=K:=by rfl):DE X (.BinOp a .Add b pos) (eJ (mq K) ta tb) (w2 wa wb aG):=by subst hK;exact Jd ha hb
theorem wg(ha:DE X a ta wa)(hb:DE X b tb wb)(hK:X.K=K:=by rfl)(hs:nK b:=by exact λ_ _=>rfl):DE X (.Subscript a b pos) (eJ (kM K) ta tb) (w2 wa wb aY):=by subst hK;exact ub ha hb hs
def rT(K:Ag)(T:String):List V->Hp->VK->Prop:=λxs H Q=>∃x t b,xs=[x,.ty T]/\TyOf K H x t/\PySem.W.kitOne K t (.type T)=ae b/\Q (.bl b) H
theorem Lb{T:String}{x:Str}{p p2:Pos}(hT:T="int"\/T="bool"\/T="str"\/T="tuple"\/T="list")(hg:Gl X "isinstance")(hm:X.mg "isinstance"=af)(hg2:Gl X x)(hm2:X.mg x=af)(hv:B9 x=ae (.type T))(ha:DE X a ta wa)(hK:X.K=K:=by rfl)(hn:x≠"__name__":=by decide)(hdb:(x==("__debug__":Str))=ai:=by decide)
  (he:Au [a,.Name x p2] X.env=(ai,eval a X.env)::Au [.Name x p2] X.env:=by rfl) (he2:Au [.Name x p2] X.env=(ai,eval (.Name x p2) X.env)::Au [] X.env:=by rfl) (hpl:(C5 pos (Au [.Name x p2] X.env)).any (·.1)=ai:=by rfl):
  DE X (.Call (.Name "isinstance" p) [a,.Name x p2] [] pos) (iS (rT K T) (cE ta (cE (tC (.ty T)) bG))) (bR T wa):=by subst hK;exact Q4 hT hg hm hg2 hm2 hv ha hn hdb he he2 hpl
def nk(K:Ag):R2:=λx y H Q=>qr x y H Q\/qp x y H Q\/pq K x y H Q
theorem zI(hu:X.A.units < cLine)(hK:X.K=K:=by rfl):OpR X (B8 .Eq) (nk K):=by subst hK;exact Rm hu
theorem yz:bS (nk K) bK:=Rr
theorem qh(hK:X.K=K:=by rfl):OpR X (B8 .In) (kz K ai):=by subst hK;exact PK
theorem Ow(hK:X.K=K:=by rfl):OpR X (B8 .NotIn) (kz K ah):=by subst hK;exact Ur
def yn(K:Ag):List V->Hp->VK->Prop:=λxs H Q=>(∃z,xs=[.str z]/\z.length<=Ao/\Q (.int z.length) H)\/∃p ys,xs=[.ref p]/\(SqL K H p ys\/SqT K H p ys)/\Q (.int ys.length) H
theorem NL(hK:X.K=K:=by rfl):CallR X (.builtin "len") (yn K):=by subst hK;exact HK
theorem Ny:dH (yn K) aU:=RX
def zr(K:Ag):List V->Hp->VK->Prop:=λxs H Q=>∃p ys,xs=[.ref p]/\((SqL K H p ys/\∀l,H l=af->Q (.ref l) (upd H l (.tup ys)))\/(SqT K H p ys/\Q (.ref p) H))
theorem IB(hK:X.K=K:=by rfl):CallR X (.type "tuple") (zr K):=by subst hK;exact KW
theorem O0:dH (zr K) fk:=MI
def vV(K:Ag):List V->Hp->VK->Prop:=λxs H Q=>∃p ys,xs=[.ref p]/\(SqL K H p ys\/SqT K H p ys)/\∀l,H l=af->Q (.ref l) (upd H l (.lst ys))
theorem AS(hK:X.K=K:=by rfl):CallR X (.type "list") (vV K):=by subst hK;exact NO
theorem Jz:dH (vV K) kL:=Mm
theorem Rh(ha:DE X a ta wa)(hK:X.K=K:=by rfl):DI X tg a (vR K ta) (iD wa):=by subst hK;exact Us ha
theorem Q2(ha:DE X a ta wa)(hK:X.K=K:=by rfl):DI X tg a (kA K ta) (cX wa):=by subst hK;exact PL ha
theorem QU{o e:Expr}{to te:TE}{wo we:DT}{ap cp:Pos}(ho:DE X o to wo)(he:DE X e te we)(hK:X.K=K:=by rfl)
  (hbase:Em o "join" X.env (eval o X.env)=eval o X.env:=by rfl)
  (hfew:((C5 cp (Au [e] X.env)).all (λx=>!x.1)&&(backToKw cp (Fq [] X.env)).all (λx=>x.1.isSome)
   && decide ([e].length+([]:List F2).length+(if ([]:List F2).isEmpty then 0 else 1) < 30))=ah:=by rfl)
  (hline:(ap.endLine==cp.line)=ah:=by rfl) (hs:Au [e] X.env=[(ai,eval e X.env)]:=by rfl) (hplain:(C5 cp (Au [] X.env)).any (·.1)=ai:=by rfl):
  DE X (.Call (.Attribute o "join" ap) [e] [] cp) (jv K "str" (uQ K) to (cE te bG)) (nv wo we):=by subst hK;exact RS ho he hbase hfew hline hs hplain
theorem GY{es:List Expr}{k:Nat}{t:il}{n:Nat}{r:eI}(h:DGs X es t r)(hc:X.calm=ah:=by rfl)(hK:X.K=K:=by rfl)
  (hn:(E8 es X.env).length=n:=by rfl) (hst:(E8 es X.env).findIdx? (·.1)=af:=by rfl):DG X (.Tuple es k pos) (iJ K n t) (dJ n r):=by subst hK;exact R9 h hc hn hst
end
end DL
namespace L2
open PySem PySem.Spec PyProof.Rows
end L2
namespace DL
open PySem L2 Nb
end DL
namespace KS
open PySem PySem.W PyProof.Rows
def run{α:Type}(c:Nat->Nat->Bool):KasT α->α
 |.ret a=>a
 |.ask i j k=>run c (k (c i j))
theorem lP{α β:Type}(c:Nat->Nat->Bool)(f:α->KasT β):∀t:KasT α,run c (t.bind f)=run c (f (run c t))
 |.ret _=>rfl
 |.ask i j k=>lP c f (k (c i j))
def Wi{α:Type}(n:Nat)(P:α->Prop):KasT α->Prop
 |.ret a=>P a
 |.ask i j k=>i < n/\j < n/\∀b,Wi n P (k b)
theorem Wi.bind{α β:Type}{n:Nat}{P:α->Prop}{R:β->Prop}{f:α->KasT β}(hf:∀a,P a->Wi n R (f a)):∀{t:KasT α},Wi n P t->Wi n R (t.bind f)
 |.ret a,h=>hf a h
 |.ask i j k,h=>⟨h.1,h.2.1,λb=>Wi.bind hf (h.2.2 b)⟩
theorem Wi.out{α:Type}{n:Nat}{P:α->Prop}(c:Nat->Nat->Bool):∀{t:KasT α},Wi n P t->P (run c t)
 |.ret a,h=>h
 |.ask i j k,h=>Wi.out c (t:=k (c i j)) (h.2.2 (c i j))
theorem wp_run{α:Type}{n:Nat}{P:α->Prop}{cmp:Nat->Nat->(Bool->Ai->Prop)->Ai->Prop}{c:Nat->Nat->Bool}{St:Ai->Prop}{Q:α->Ai->Prop}
  (hc:∀i j C s,i < n->j < n->St s->(∀s',St s'->C (c i j) s')->cmp i j C s):∀(t:KasT α)(s:Ai),Wi n P t->St s->(∀s',St s'->Q (run c t) s')->t.kasWp cmp Q s
 |.ret a,s,_,hs,h=>h s hs
 |.ask i j k,s,w,hs,h=>hc i j _ s w.1 w.2.1 hs λs' hs'=>wp_run hc (k (c i j)) s' (w.2.2 _) hs' h
def Lo(n:Nat)(p:Array Nat):Prop:=∀i,p.getD i 0 < n
theorem ky(p:Array Nat)(i:Nat):p.getD i 0=(p[i]?).getD 0:=by simp
theorem RF{n:Nat}{p:Array Nat}(hn:0 < n)(h:∀x∈p,x < n):Lo n p:=λi=>by
 rw[ky];cases e:p[i]? with
 |none=>exact hn
 |some x=>exact h x (Array.mem_of_getElem? e)
def Pm(n:Nat)(p:Array Nat):Prop:=p.Perm (Dp (Cs n))
theorem Pm.size{n:Nat}{p:Array Nat}(h:Pm n p):p.size=n:=by rw[Array.Perm.size_eq h];simp
theorem Pm.lo{n:Nat}{p:Array Nat}(hn:0 < n)(h:Pm n p):Lo n p:=RF hn λx hx=>by
 have:x∈Dp (Cs n):=(Array.Perm.mem_iff h).mp hx;simpa using this
theorem Pm.rev{n:Nat}{p:Array Nat}(h:Pm n p)(i j:Nat):Pm n (E3 p i j):=(mirror_perm p i j _).trans h
theorem Pm.bub{n:Nat}{p:Array Nat}(h:Pm n p)(i j:Nat):Pm n (bubble p i j):=(bubble_perm p i j).trans h
section
variable{n:Nat}(hn:0 < n)
include hn
theorem wZ{p:Array Nat}(h:Lo n p):∀f m,Wi n (λ_=>True) (kas_asc p f m)
 |0,m=>trivial
 |f+1,m=>⟨h _,h _,λb=>by
  cases b with
  |true=>exact trivial
  |false=>exact wZ h f (m+1)⟩
theorem pT:∀f (p:Array Nat) m q,Pm n p->Wi n (λr=>Pm n r.1) (kas_desc f p m q)
 |0,p,m,q,h=>h
 |f+1,p,m,q,h=>⟨h.lo hn _,h.lo hn _,λb=>by
  cases b with
  |true=>
   show Wi n _ (if q > 0 then _ else _)
   split
   ·exact pT f _ _ _ (h.rev _ _)
   ·exact pT f _ _ _ h
  |false=>exact⟨h.lo hn _,h.lo hn _,λd=>by
    cases d with
    |true=>exact h
    |false=>exact pT f _ _ _ h⟩⟩
theorem Hv(m nrem:Nat){p:Array Nat}(h:Pm n p):Wi n (λr=>Pm n r.2) (kas_tail3 m nrem p):=by
 unfold kas_tail3;refine Wi.bind (P:=λ_=>True) (λa _=>?_) (wZ hn ((h.rev 0 m).lo hn) _ _);show Pm n (E3 p 0 m);exact h.rev _ _
theorem EL(m nrem:Nat){p:Array Nat}(h:Pm n p):Wi n (λr=>Pm n r.2) (kas_descPart m nrem p):=
 Wi.bind (λr hr=>by
  show Wi n _ (if r.2.2 > 0 then _ else _)
  split
  ·exact Hv hn _ _ (Pm.rev hr _ _)
  ·exact Hv hn _ _ hr) (pT hn _ p _ _ h)
theorem S5(nrem:Nat){p:Array Nat}(h:Pm n p):Wi n (λr=>Pm n r.2) (kas_count nrem p):=
 Wi.bind (λm _=>by
  show Wi n _ (if (m==nrem)=ah then _ else if m > 1 then _ else _)
  split
  ·exact h
  ·split
   ·exact⟨h.lo hn _,h.lo hn _,λb=>by
     cases b with
     |true=>exact h
     |false=>exact EL hn _ _ (h.rev _ _)⟩
   ·exact EL hn _ _ h) (wZ hn (h.lo hn) _ _)
theorem tj{p:Array Nat}(h:Lo n p)(k:Nat):∀f l r,Wi n (λ_=>True) (kas_place p k f l r)
 |0,l,r=>trivial
 |f+1,l,r=>by
  show Wi n _ (if l ≥ r then _ else _)
  split
  ·exact trivial
  ·exact⟨h _,h _,λb=>by
    cases b with
    |true=>exact tj h k f _ _
    |false=>exact tj h k f _ _⟩
theorem xB:∀f (p:Array Nat) k,Pm n p->Wi n (Pm n) (kas_bin f p k)
 |0,p,k,h=>h
 |f+1,p,k,h=>Wi.bind (λl _=>xB f _ _ (h.bub _ _)) (tj hn (h.lo hn) k _ _ _)
theorem wi_sort:Wi n (Pm n) (kas_sort n):=
 Wi.bind (λr hr=>by
  show Wi n _ (if r.1 < n then _ else _)
  split
  ·exact xB hn _ _ _ hr
  ·exact hr) (S5 hn n (Array.Perm.refl _))
end
structure Ord(lt:Nat->Nat->Bool):Prop where
 asym:∀i j,lt i j=ah->lt j i=ai
 ltr:∀i j k,lt j i=ai->lt k j=ai->lt k i=ai
section
variable{lt:Nat->Nat->Bool}(O:Ord lt)
def g(p:Array Nat)(i:Nat):Nat:=p.getD i 0
def SP(lt:Nat->Nat->Bool)(p:Array Nat)(n:Nat):Prop:=∀i j,i < j->j < n->lt (g p j) (g p i)=ai
def DP(lt:Nat->Nat->Bool)(p:Array Nat)(n:Nat):Prop:=∀i j,i < j->j < n->lt (g p i) (g p j)=ai
def Sim(lt:Nat->Nat->Bool)(x y:Nat):Prop:=lt x y=ai/\lt y x=ai
include O
theorem je(i:Nat):lt i i=ai:=by
 cases e:lt i i with
 |false=>rfl
 |true=>exact(O.asym i i e).symm.trans e |>.symm▸rfl
theorem Sim.eq{a b x y:Nat}(h1:Sim lt a x)(h2:Sim lt b y):lt a b=lt x y:=by
 cases e:lt x y with
 |false=>exact O.ltr _ _ _ h2.2 (O.ltr _ _ _ e h1.1)
 |true=>
  cases e2:lt a b with
  |true=>rfl
  |false=>
   have:lt x y=ai:=O.ltr _ _ _ h2.1 (O.ltr _ _ _ e2 h1.2);rw[this]at e;cases e
theorem SP.snoc{p:Array Nat}{n:Nat}(h:SP lt p n)(h1:1<=n)(e:lt (g p n) (g p (n-1))=ai):SP lt p (n+1):=λi j hij hj=>by
 by_cases q:j < n
 ·exact h i j hij q
 ·have:j=n:=by omega
  subst this;by_cases r:i=j-1
  ·subst r;exact e
  ·exact O.ltr _ _ _ (h i (j-1) ⋯ ⋯) e
theorem rJ{p:Array Nat}:∀f n,1<=n->SP lt p n->n<=run lt (kas_asc p f n)/\run lt (kas_asc p f n)<=n+f/\SP lt p (run lt (kas_asc p f n))/\(run lt (kas_asc p f n)=n+f\/lt (g p (run lt (kas_asc p f n))) (g p (run lt (kas_asc p f n)-1))=ah)
 |0,n,h1,h=>⟨Av _,Av _,h,.inl rfl⟩
 |f+1,n,h1,h=>by
  have e:run lt (kas_asc p (f+1) n)=run lt (if lt (g p n) (g p (n-1))=ah then .ret n else kas_asc p f (n+1)):=rfl;rw[e];cases q:lt (g p n) (g p (n-1))with
  |true=>exact⟨Av _,Nat.le_add_right _ _,h,.inr q⟩
  |false=>
   rw[if_neg Ak];obtain⟨a1,a2,a3,a4⟩:=rJ f (n+1) ⋯ (SP.snoc O h h1 q);exact⟨by omega,by omega,a3,a4.imp (λz=>by omega) id⟩
omit O
theorem uN{p:Array Nat}{i j:Nat}(hj:j<=p.size)(k:Nat):g (E3 p i j) k=if i<=k/\k < j then g p (i+j-1-k)else g p k:=by
 unfold g E3;rw[ky,ky,ky,getElem?_mirror hj _ ⋯];by_cases h:i<=k/\k < j
 ·rw[if_pos h];by_cases q:(i<=k/\k < i+(j-i) / 2)\/(j-(j-i) / 2<=k/\k < j)
  ·rw[if_pos q]
  ·rw[if_neg q];have:i+j-1-k=k:=by omega
   rw[this]
 ·rw[if_neg h,if_neg ⋯]
include O
theorem tP{p:Array Nat}{i j:Nat}(hj:j<=p.size)(h:∀a b,i<=a->a < j->i<=b->b < j->Sim lt (g p a) (g p b))(k:Nat):Sim lt (g (E3 p i j) k) (g p k):=by
 rw[uN hj]
 split
 ·rename_i q;exact h _ _ ⋯ ⋯ q.1 q.2
 ·exact⟨je O _,je O _⟩
theorem DP.sim{p p':Array Nat}{n:Nat}(h:DP lt p n)(s:∀k,Sim lt (g p' k) (g p k)):DP lt p' n:=λi j hij hj=>(Sim.eq O (s i) (s j)).trans (h i j hij hj)
theorem DP.snoc{p:Array Nat}{n:Nat}(h:DP lt p n)(h1:1<=n)(e:lt (g p (n-1)) (g p n)=ai):DP lt p (n+1):=λi j hij hj=>by
 by_cases q:j < n
 ·exact h i j hij q
 ·have:j=n:=by omega
  subst this;by_cases r:i=j-1
  ·subst r;exact e
  ·exact O.ltr _ _ _ e (h i (j-1) ⋯ ⋯)
omit O
def rC(lt:Nat->Nat->Bool)(sz n f:Nat)(r:Array Nat×Nat×Nat):Prop:=
 r.1.size=sz/\n<=r.2.1/\r.2.1<=n+f/\r.2.2+1<=r.2.1/\DP lt r.1 r.2.1/\(∀a b,r.2.1-(r.2.2+1)<=a->a < r.2.1->r.2.1-(r.2.2+1)<=b->b < r.2.1->Sim lt (g r.1 a) (g r.1 b))
def jV(lt:Nat->Nat->Bool)(sz nrem:Nat)(r:Nat×Array Nat):Prop:=r.2.size=sz/\1<=r.1/\r.1<=nrem/\SP lt r.2 r.1
def rW(lt:Nat->Nat->Bool)(p:Array Nat)(k m:Nat):Prop:=m<=k/\(∀i,i < m->lt (g p k) (g p i)=ai)/\(∀i,m<=i->i < k->lt (g p k) (g p i)=ah)
include O
theorem oS:∀f (p:Array Nat) n q,q+1<=n->n+f<=p.size->DP lt p n->(∀a b,n-(q+1)<=a->a < n->n-(q+1)<=b->b < n->Sim lt (g p a) (g p b))->
  rC lt p.size n f (run lt (kas_desc f p n q))
 |0,p,n,q,h1,h2,h3,h4=>⟨rfl,Av _,Av _,h1,h3,h4⟩
 |f+1,p,n,q,h1,h2,h3,h4=>by
  have one:∀(p':Array Nat)(m:Nat)(a b:Nat),m+1-(0+1)<=a->a < m+1->m+1-(0+1)<=b->b < m+1->Sim lt (g p' a) (g p' b):=λp' m a b ha ha' hb hb'=>by
   have e1:a=m:=by omega
   have e2:b=m:=by omega
   rw[e1,e2];exact⟨je O _,je O _⟩
  show rC lt p.size n (f+1) (run lt (if lt (g p n) (g p (n-1))=ah then(if q > 0 then kas_desc f (E3 p (n-(q+1)) n) (n+1) 0 else kas_desc f p (n+1) 0)else .ask (p.getD (n-1) 0) (p.getD n 0) λd=>if d=ah then .ret (p,n,q)else kas_desc f p (n+1) (q+1)));cases c1:lt (g p n) (g p (n-1))with
  |true=>
   rw[if_pos rfl];by_cases hq:q > 0
   ·rw[if_pos hq];have sim:=tP O (p:=p) (i:=n-(q+1)) (j:=n) ⋯ h4;have hd:DP lt (E3 p (n-(q+1)) n) (n+1):=DP.sim O (DP.snoc O h3 ⋯ (O.asym _ _ c1)) sim;have hs:(E3 p (n-(q+1)) n).size=p.size:=mirror_size _ _ _ _;obtain⟨a1,a2,a3,a4,a5,a6⟩:=oS f (E3 p (n-(q+1)) n) (n+1) 0 ⋯ (by rw[hs];omega) hd (one _ n);exact⟨a1.trans hs,by omega,by omega,a4,a5,a6⟩
   ·rw[if_neg hq];obtain⟨a1,a2,a3,a4,a5,a6⟩:=oS f p (n+1) 0 ⋯ ⋯ (DP.snoc O h3 ⋯ (O.asym _ _ c1)) (one _ n);exact⟨a1,by omega,by omega,a4,a5,a6⟩
  |false=>
   rw[if_neg Ak];show rC lt p.size n (f+1) (run lt (if lt (g p (n-1)) (g p n)=ah then .ret (p,n,q)else kas_desc f p (n+1) (q+1)));cases c2:lt (g p (n-1)) (g p n)with
   |true=>exact⟨rfl,Av _,by show n<=n+(f+1);omega,h1,h3,h4⟩
   |false=>
    rw[if_neg Ak];have s1:Sim lt (g p n) (g p (n-1)):=⟨c1,c2⟩;have tr:∀{x y z:Nat},Sim lt x y->Sim lt y z->Sim lt x z:=λh h'=>⟨O.ltr _ _ _ h'.1 h.1,O.ltr _ _ _ h.2 h'.2⟩;obtain⟨a1,a2,a3,a4,a5,a6⟩:=oS f p (n+1) (q+1) ⋯ ⋯ (DP.snoc O h3 ⋯ c2) (λa b ha ha' hb hb'=>by
     have key:∀x,n+1-(q+1+1)<=x->x < n+1->Sim lt (g p x) (g p (n-1)):=λx hx hx'=>by
      by_cases e:x=n
      ·rw[e];exact s1
      ·exact h4 x (n-1) ⋯ ⋯ ⋯ ⋯
     have kb:=key b hb hb';exact tr (key a ha ha') ⟨kb.2,kb.1⟩)
    exact⟨a1,by omega,by omega,a4,a5,a6⟩
theorem GP{p:Array Nat}{n nrem:Nat}(h1:1<=n)(hn:n<=nrem)(hz:nrem<=p.size)(h:DP lt p n):jV lt p.size nrem (run lt (kas_tail3 n nrem p)):=by
 unfold kas_tail3;rw[lP];have hs:(E3 p 0 n).size=p.size:=mirror_size _ _ _ _;have sp:SP lt (E3 p 0 n) n:=λi j hij hj=>by
  rw[uN ⋯,uN ⋯,if_pos ⟨Bx _,hj⟩,if_pos ⟨Bx _,by omega⟩];exact h _ _ ⋯ ⋯
 obtain⟨a1,a2,a3,_⟩:=rJ O (p:=E3 p 0 n) (nrem-n) n h1 sp;exact⟨hs,by show 1<=run lt (kas_asc (E3 p 0 n) (nrem-n) n);omega,by show run lt (kas_asc (E3 p 0 n) (nrem-n) n)<=nrem;omega,a3⟩
theorem CY{p:Array Nat}{n nrem:Nat}(h1:1<=n)(hn:n+1<=nrem)(hz:nrem<=p.size)(h:DP lt p (n+1)):jV lt p.size nrem (run lt (kas_descPart n nrem p)):=by
 unfold kas_descPart;rw[lP];obtain⟨a1,a2,a3,a4,a5,a6⟩:=oS O (nrem-(n+1)) p (n+1) 0 ⋯ ⋯ h (λa b ha ha' hb hb'=>by
  have e1:a=n:=by omega
  have e2:b=n:=by omega
  rw[e1,e2];exact⟨je O _,je O _⟩)
 generalize run lt (kas_desc (nrem-(n+1)) p (n+1) 0)=r at a1 a2 a3 a4 a5 a6;by_cases hq:r.2.2 > 0
 ·rw[if_pos hq];have hs:(E3 r.1 (r.2.1-(r.2.2+1)) r.2.1).size=r.1.size:=mirror_size _ _ _ _;obtain⟨b1,b2⟩:=GP O (p:=E3 r.1 (r.2.1-(r.2.2+1)) r.2.1) (n:=r.2.1) (nrem:=nrem) ⋯ ⋯ (by rw[hs];omega) (DP.sim O a5 (tP O ⋯ a6));exact⟨b1.trans (hs.trans a1),b2⟩
 ·rw[if_neg hq];obtain⟨b1,b2⟩:=GP O (p:=r.1) (n:=r.2.1) (nrem:=nrem) ⋯ ⋯ ⋯ a5;exact⟨b1.trans a1,b2⟩
theorem Jq{p:Array Nat}{nrem:Nat}(h1:1<=nrem)(hz:nrem<=p.size):jV lt p.size nrem (run lt (kas_count nrem p)):=by
 unfold kas_count;rw[lP];obtain⟨a1,a2,a3,a4⟩:=rJ O (p:=p) (nrem-1) 1 (Av _) (λi j hij hj=>by omega);generalize run lt (kas_asc p (nrem-1) 1)=m at a1 a2 a3 a4;by_cases q:(m==nrem)=ah
 ·rw[if_pos q];exact⟨rfl,a1,by show m<=nrem;omega,a3⟩
 ·rw[if_neg q];have hm:m≠nrem:=λz=>q (by rw[z];exact beq_self_eq_true _);have a4:lt (g p m) (g p (m-1))=ah:=a4.resolve_left ⋯;by_cases hm1:m > 1
  ·rw[if_pos hm1];show jV lt p.size nrem (run lt (if lt (g p 0) (g p (m-1))=ah then .ret (m,p)else kas_descPart m nrem (E3 p 0 m)));cases c:lt (g p 0) (g p (m-1))with
   |true=>exact⟨rfl,a1,by show m<=nrem;omega,a3⟩
   |false=>
    rw[if_neg Ak];have hs:(E3 p 0 m).size=p.size:=mirror_size _ _ _ _;have up:∀a b,a < m->b < m->lt (g p b) (g p a)=ai:=λa b ha hb=>by
     have le0:lt (g p a) (g p 0)=ai:=by
      by_cases z:a=0
      ·rw[z];exact je O _
      ·exact a3 0 a ⋯ ha
     have leb:lt (g p (m-1)) (g p b)=ai:=by
      by_cases z:b=m-1
      ·rw[z];exact je O _
      ·exact a3 b (m-1) ⋯ ⋯
     have l1:lt (g p b) (g p 0)=ai:=by
      by_cases z:b=0
      ·rw[z];exact je O _
      ·exact a3 0 b ⋯ hb
     have l2:lt (g p 0) (g p a)=ai:=O.ltr _ _ _ (by
      by_cases z:a=m-1
      ·rw[z];exact je O _
      ·exact a3 a (m-1) ⋯ ⋯) c
     exact O.ltr _ _ _ l2 l1
    have all:∀a b,0<=a->a < m->0<=b->b < m->Sim lt (g p a) (g p b):=λa b _ ha _ hb=>⟨up b a hb ha,up a b ha hb⟩;have sim:=tP O (p:=p) (i:=0) (j:=m) ⋯ all;have dp:DP lt p (m+1):=DP.snoc O (λi j hij hj=>up j i hj ⋯) a1 (O.asym _ _ a4);obtain⟨b1,b2⟩:=CY O (p:=E3 p 0 m) (n:=m) (nrem:=nrem) a1 ⋯ (by rw[hs];omega) (DP.sim O dp sim);exact⟨b1.trans hs,b2⟩
  ·rw[if_neg hm1];have e:m=1:=by omega
   subst e;exact CY O (p:=p) (Av _) ⋯ hz (DP.snoc O (λi j hij hj=>by omega) (Av _) (O.asym _ _ a4))
theorem wO{p:Array Nat}{k:Nat}(h:SP lt p k):∀f l r,l<=r->r<=k->r-l<=f->(∀i,i < l->lt (g p k) (g p i)=ai)->(∀i,r<=i->i < k->lt (g p k) (g p i)=ah)->
  rW lt p k (run lt (kas_place p k f l r))
 |0,l,r,hlr,hr,hf,h1,h2=>by
  have e:l=r:=by omega
  subst e;exact⟨hr,h1,h2⟩
 |f+1,l,r,hlr,hr,hf,h1,h2=>by
  show rW lt p k (run lt (if l ≥ r then .ret l else .ask (p.getD k 0) (p.getD ((l+r) / 2) 0) λc=>if c=ah then kas_place p k f l ((l+r) / 2)else kas_place p k f ((l+r) / 2+1) r));by_cases q:l ≥ r
  ·rw[if_pos q];have e:l=r:=by omega
   subst e;exact⟨hr,h1,h2⟩
  ·rw[if_neg q];show rW lt p k (run lt (if lt (g p k) (g p ((l+r) / 2))=ah then kas_place p k f l ((l+r) / 2)else kas_place p k f ((l+r) / 2+1) r));cases c:lt (g p k) (g p ((l+r) / 2))with
   |true=>
    rw[if_pos rfl];refine wO h f l ((l+r) / 2) ⋯ ⋯ ⋯ h1 λi hi hik=>?_;by_cases e:i=(l+r) / 2
    ·rw[e];exact c
    ·cases z:lt (g p k) (g p i)with
     |true=>rfl
     |false=>
      have:=O.ltr _ _ _ (h ((l+r) / 2) i ⋯ hik) z;rw[this]at c;cases c
   |false=>
    rw[if_neg Ak];refine wO h f ((l+r) / 2+1) r ⋯ hr ⋯ (λi hi=>?_) h2;by_cases e:i=(l+r) / 2
    ·rw[e];exact c
    ·exact O.ltr _ _ _ (h i ((l+r) / 2) ⋯ ⋯) c
omit O
theorem FC{p:Array Nat}{k l:Nat}(hk:k < p.size)(hl:l<=k)(i:Nat):g (bubble p k (k-l)) i=if i=l then g p k else if l < i/\i<=k then g p (i-1)else g p i:=by
 unfold g;rw[ky,getElem?_bubble hk _ ⋯,ky,ky,ky];have e:k-(k-l)=l:=by omega
 rw[e];by_cases h1:i=l
 ·rw[if_pos h1,if_pos h1]
 ·rw[if_neg h1,if_neg h1];by_cases h2:l < i/\i<=k
  ·rw[if_pos h2,if_pos h2]
  ·rw[if_neg h2,if_neg h2]
include O
theorem CQ:∀f (p:Array Nat) k,1<=k->k+f<=p.size->SP lt p k->SP lt (run lt (kas_bin f p k)) (k+f)
 |0,p,k,h1,hz,h=>h
 |f+1,p,k,h1,hz,h=>by
  show SP lt (run lt ((kas_place p k k 0 k).bind λl=>kas_bin f (bubble p k (k-l)) (k+1))) (k+(f+1));rw[lP];obtain⟨b1,b2,b3⟩:=wO O h k 0 k (Bx _) (Av _) ⋯ (λi hi=>by omega) (λi hi hi'=>by omega);generalize run lt (kas_place p k k 0 k)=l at b1 b2 b3;have sp:SP lt (bubble p k (k-l)) (k+1):=λi j hij hj=>by
   rw[FC ⋯ b1,FC ⋯ b1];by_cases e1:j=l
   ·rw[if_pos e1,if_neg ⋯,if_neg ⋯];exact b2 i ⋯
   ·rw[if_neg e1];by_cases e2:l < j/\j<=k
    ·rw[if_pos e2];by_cases e3:i=l
     ·rw[if_pos e3];exact O.asym _ _ (b3 (j-1) ⋯ ⋯)
     ·rw[if_neg e3];by_cases e4:l < i/\i<=k
      ·rw[if_pos e4];exact h (i-1) (j-1) ⋯ ⋯
      ·rw[if_neg e4];exact h i (j-1) ⋯ ⋯
    ·rw[if_neg e2,if_neg ⋯,if_neg ⋯];exact h i j hij ⋯
  have:=CQ f (bubble p k (k-l)) (k+1) ⋯ (by rw[bubble_size];omega) sp;have e:k+1+f=k+(f+1):=by omega
  rwa [e]at this
theorem sort_ok{n:Nat}(h1:1<=n):SP lt (run lt (kas_sort n)) n:=by
 unfold kas_sort;rw[lP];obtain⟨a1,a2,a3,a4⟩:=Jq O (p:=Dp (Cs n)) (nrem:=n) h1 (by simp);generalize run lt (kas_count n (Dp (Cs n)))=r at a1 a2 a3 a4;have hs:r.2.size=n:=by rw[a1];simp
 by_cases q:r.1 < n
 ·rw[if_pos q];have e:max r.1 1=r.1:=by omega
  rw[e];have:=CQ O (n-r.1) r.2 r.1 a2 ⋯ a4;have e2:r.1+(n-r.1)=n:=by omega
  rwa [e2]at this
 ·rw[if_neg q];have e:r.1=n:=by omega
  rw[e]at a4;exact a4
end
end KS
namespace KS
open PySem PySem.W PySem.Calls PyProof.Rows
section
variable{prog:Bj}{w:Bu}{A:B3}{E:Af->Ai->Prop}{s:Ai}{a:Addr}{vs:List Af}
theorem ls_sort{n:Nat}{P:PySem.Fin->Ai->Prop}(ho:s.heap.get? a=ae (Dm "list" vs.toArray n))(h2:2<=vs.length)(h64:vs.length < 64)
  (h:∀e1 h',h'.get? a=ae (Dm "list" #[] e1)->(∀b o,b≠a->s.heap.get? b=ae o->h'.get? b=ae o)->
   Az (Bg prog w) A (keyKind' vs.toArray) (λκ s'=>(kas_sort vs.length).kasWp (kas_ask prog w A κ vs)
    (λp s''=>s''.heap.get? a=ae (Dm "list" #[] e1)/\∀h3 c,Dz a s''.heap h3->h3.get? a=ae (Dm "list" (Dp (p.toList.map λi=>vs.getD i Bv)) c)->P (.done (.ret .none)) {s'' with heap:=h3}) s') (λ_ _=>False) {s with heap:=h'}):
  Az (Bg prog w) A (D9.«list.sort» ⟨[.ref a],[]⟩) P E s:=by
 have ha:a < s.heap.objs.size:=Ar ho;have s1:=Bt s.heap a (Da λ_=>(#[]:Array Af));obtain⟨e1,ho1⟩:∃e1,(s.heap.update a (Da λ_=>(#[]:Array Af))).get? a=ae (Dm "list" #[] e1):=⟨_,get?_update_seq ho λ_=>#[]⟩;have ask:=h e1 (((s.heap.update a (Da λ_=>(#[]:Array Af))).push (Dm "tuple" vs.toArray 0)).push (Dm "list" #[] 0)) (Ae _ (Ae _ ho1))
  λb o hb e=>Ae _ (Ae _ ((s1.2 b hb).trans e))
 rw[list_sort_plain];refine Ad (listItems_at ho rfl ?_);refine Ad (listUpdate_at ho rfl ?_ (by rw[Aw,El];omega) (Bx _));refine Ad (seqEpoch_at ho1 rfl ?_);refine Ad (wpAny_newTuple ?_ (by show vs.length<=_;rw[El];omega));refine Ad (wpAny_newList ?_ (Bx _));refine Dd ?_;show Az (Bg prog w) A _ P E {s with heap:=((s.heap.update a (Da λ_=>(#[]:Array Af))).push (Dm "tuple" vs.toArray 0)).push (Dm "list" #[] 0)};dsimp only;have hn2:¬vs.toArray.size < 2:=by rw[Aw];omega
 rw[if_neg hn2,if_neg hn2];refine Ad (Cq ask (λκ s0 hk=>?_) λ_ _ x=>x.elim);refine Ad (Cq (kat_run (Q:=λst' s'=>∃p:Array Nat,p.size=vs.length/\arrOf st'=p.map (kas_item (vs.toArray.zip vs.toArray))/\failedOf st'=af/\s'.heap.get? a=ae (Dm "list" #[] e1)/\∀h3 c,Dz a s'.heap h3->h3.get? a=ae (Dm "list" (Dp (p.toList.map λi=>vs.getD i Bv)) c)->P (.done (.ret .none)) {s' with heap:=h3})
  rfl h2 h64 (λp' st' s' a1 a2 a3 a4=>⟨p',a1,a2,a3,a4⟩) hk) ?_ λ_ _ e=>e)
 rintro⟨⟨⟩,st'⟩ s' ⟨p,hp,har,hf,na,k⟩
 dsimp only;have hout:=kat_snds rfl har;have hsz:(Dp (p.toList.map λi=>vs.getD i Bv)).size=vs.length:=by rw[Aw,Ap,C2,hp]
 rw[hout];have s2:=Bt s'.heap a (Da λ_=>Dp (p.toList.map λi=>vs.getD i Bv));obtain⟨c2,hc2⟩:∃c2,(s'.heap.update a (Da λ_=>Dp (p.toList.map λi=>vs.getD i Bv))).get? a=ae (Dm "list" (Dp (p.toList.map λi=>vs.getD i Bv)) c2):=⟨_,get?_update_seq na λ_=>Dp (p.toList.map λi=>vs.getD i Bv)⟩;refine Ad (seqEpoch_at na rfl ?_);refine Ad (listUpdate_at na rfl ?_ (Bx _) (An (Nat.le_of_eq hsz) (by rw[El];omega)));rw[hf];simp only[bne_self_eq_false,Cb,if_false];exact Aj (k _ c2 s2 hc2)
theorem ls_short{n:Nat}{P:PySem.Fin->Ai->Prop}(ho:s.heap.get? a=ae (Dm "list" vs.toArray n))(h2:vs.length < 2)
  (h:∀h' c,h'.get? a=ae (Dm "list" vs.toArray c)->(∀b o,b≠a->s.heap.get? b=ae o->h'.get? b=ae o)->P (.done (.ret .none)) {s with heap:=h'}):
  Az (Bg prog w) A (D9.«list.sort» ⟨[.ref a],[]⟩) P E s:=by
 have ha:a < s.heap.objs.size:=Ar ho;have s1:=Bt s.heap a (Da λ_=>(#[]:Array Af));obtain⟨e1,ho1⟩:∃e1,(s.heap.update a (Da λ_=>(#[]:Array Af))).get? a=ae (Dm "list" #[] e1):=⟨_,get?_update_seq ho λ_=>#[]⟩;have ho6:(((s.heap.update a (Da λ_=>(#[]:Array Af))).push (Dm "tuple" vs.toArray 0)).push (Dm "list" #[] 0)).get? a=ae (Dm "list" #[] e1):=Ae _ (Ae _ ho1);rw[list_sort_plain];refine Ad (listItems_at ho rfl ?_);refine Ad (listUpdate_at ho rfl ?_ (by rw[Aw,El];omega) (Bx _));refine Ad (seqEpoch_at ho1 rfl ?_);refine Ad (wpAny_newTuple ?_ (by show vs.length<=_;rw[El];omega));refine Ad (wpAny_newList ?_ (Bx _));refine Dd ?_;show Az (Bg prog w) A _ P E {s with heap:=((s.heap.update a (Da λ_=>(#[]:Array Af))).push (Dm "tuple" vs.toArray 0)).push (Dm "list" #[] 0)};dsimp only;have hn2:vs.toArray.size < 2:=by rw[Aw];omega
 rw[if_pos hn2,if_pos hn2];refine Ad (Aj ?_);rw[StateT.run_pure];refine Ad (Aj ?_);dsimp only;refine Ad (seqEpoch_at ho6 rfl ?_);refine Ad (listUpdate_at ho6 rfl ?_ (hsz2:=by rw[Array.size_map];show(pairsOf vs).size<=_;rw[pairsOf_size,El];omega));simp only[bne_self_eq_false,Cb,if_false];have e:(arrOf (SortSt.mk' general' (vs.toArray.zip vs.toArray) #[] 7 af)).map (·.2)=vs.toArray:=by
  show(vs.toArray.zip vs.toArray).map (·.2)=vs.toArray;apply Array.toList_inj.mp;simp only[Array.toList_map,Array.toList_zip];exact List.map_snd_zip (Av _)
 have s2:=Bt (((s.heap.update a (Da λ_=>(#[]:Array Af))).push (Dm "tuple" vs.toArray 0)).push (Dm "list" #[] 0)) a (Da λ_=>(arrOf (SortSt.mk' general' (vs.toArray.zip vs.toArray) #[] 7 af)).map (·.2));refine Aj (h _ _ (by rw[e];exact get?_update_seq ho6 λ_=>vs.toArray) λb o hb q=>(s2.2 b hb).trans (Ae _ (Ae _ ((s1.2 b hb).trans q))))
theorem sorted_of{r:Af}{Q:Af->Ai->Prop}{R:List Af->Ai->Prop}(hcol:Az (Bg prog w) A.in1 (collect r) R E s)
  (h:∀vs s1,R vs s1->vs.length<=Ao/\Az (Bg prog w) A.in1.in1 (D9.«list.sort» ⟨[.ref s1.heap.objs.size],[]⟩) (λf s2=>f=.done (.ret .none)/\Q (.ref s1.heap.objs.size) s2) E {s1 with heap:=s1.heap.push (Dm "list" vs.toArray 0)}):
  Az (Bg prog w) A (call (.builtin "sorted") [r]) Q E s:=by
 refine Calls.call_function_entry kind_sorted plain_sorted entry_sorted (args_sorted1 _) ?_;unfold D9.«sorted»;refine Ad (m:=checkCount "sorted" 1 1 _) (Aj ?_);refine Ad (Cq hcol (λvs s1 hr=>?_) λ_ _ e=>e);obtain⟨hl,hs⟩:=h vs s1 hr;refine Ad (wpAny_newList ?_ hl);have hoL:(s1.heap.push (Dm "list" vs.toArray 0)).get? s1.heap.objs.size=ae (Dm "list" vs.toArray 0):=Ay _ rfl;refine Ad (Dd (Co (s:={ s1 with heap:=s1.heap.push (Dm "list" vs.toArray 0)}) slot_list_sort ⟨_,hoL,rfl⟩ entry_list_sort ?body (args_list_sort _)))
 case body=>
  refine Cq hs (λf s2 hf=>?_) λ_ _ e=>e;obtain⟨rfl,hq⟩:=hf;exact⟨_,rfl,Aj ⟨_,rfl,hq⟩⟩
def ltK(ks:List Str)(i j:Nat):Bool:=decide ((ks.getD i ⟨#[]⟩).cps.toList < (ks.getD j ⟨#[]⟩).cps.toList)
theorem Jn(x y:List Nat)(h:x < y):¬y < x:=λz=>List.lt_irrefl x (List.lt_trans h z)
theorem ordK(ks:List Str):Ord (ltK ks) where
 asym:=λi j h=>by
  unfold ltK at h ⊢;exact decide_eq_false (Jn _ _ (of_decide_eq_true h))
 ltr:=λi j k h1 h2=>by
  unfold ltK at h1 h2 ⊢;have h1:=of_decide_eq_false h1;have h2:=of_decide_eq_false h2;refine decide_eq_false λz=>?_;have l1:=List.not_lt.mp h1;have l2:=List.not_lt.mp h2;exact absurd z (List.not_lt.mpr (List.le_trans l1 l2))
end
end KS
namespace L2
open PySem PySem.Spec PyProof.Rows PySem.W
theorem Rl{ks:List Str}{p:Array Nat}{n:Nat}(hz:p.size=n)(h:KS.SP (KS.ltK ks) p n):(p.toList.map λi=>ks.getD i ⟨#[]⟩).Pairwise (λa b=>¬b.cps.toList < a.cps.toList):=by
 rw[List.pairwise_iff_getElem];intro i j hi hj hij;rw[Ap,C2,hz]at hi hj;have:=h i j hij hj;unfold KS.ltK KS.g at this;have e1:p.getD i 0=p[i]:=by simp[hz,hi]
 have e2:p.getD j 0=p[j]:=by simp[hz,hj]
 rw[e1,e2]at this;simp only[List.getElem_map,Array.getElem_toList];exact of_decide_eq_false this
def jC(vs:List Af)(ks:List Str):Prop:=vs.length=ks.length/\∀(j:Nat) v,vs[j]?=ae v->∃k t,ks[j]?=ae k/\v=.str k t
theorem xD{vs:List Af}{ks:List Str}(h:jC vs ks):∀(idx:List Nat),(∀i∈idx,i < ks.length)->Vals ((idx.map λi=>ks.getD i ⟨#[]⟩).map V.str) (idx.map λi=>vs.getD i Bv)
 |[],_=>.nil
 |i::r,hi=>by
  have h1:=hi i Am;have h2:i < vs.length:=by rw[h.1];exact h1
  obtain⟨k,t,e1,e2⟩:=h.2 i vs[i] (As h2);refine .cons ⟨t,?_⟩ (xD h r λj hj=>hi j (Al _ hj));simp[h2,e1,e2]
theorem Ub{ks:List Str}{idx:List Nat}(h:idx.Perm (Cs ks.length)):(idx.map λi=>ks.getD i ⟨#[]⟩).Perm ks:=by
 have h1:=h.map λi=>ks.getD i (⟨#[]⟩:Str);have h2:(Cs ks.length).map (λi=>ks.getD i (⟨#[]⟩:Str))=ks:=by
  apply List.ext_getElem (by simp);intro i h1 h2;simp[h2]
 rw[h2]at h1;exact h1
end L2
namespace L2
open PySem PySem.Spec PyProof.Rows
section
variable{prog:Bj}{w:Bu}{A:B3}{E:Af->Ai->Prop}{s:Ai}
theorem qX{it t:Addr}{i:Nat}{items:Array Af}{x:Af}{Q:Af->Ai->Prop}(hit:s.heap.IsTupleIter it t i)(ht:s.heap.IsTuple t items)(hx:items[i]?=ae x)
  (hQ:∀h',h'.IsTupleIter it t (i+1)->Dz it s.heap h'->Q x {s with heap:=h'}):Az (Bg prog w) A (Cp (.ref it)) Q E s:=by
 obtain⟨o,ho,hc,hd⟩:=id hit;obtain⟨ol,hol,_,nl,hdl⟩:=ht;unfold Cp;refine Ad (B4 (name:=B7 "__next__") hit.typeIs F8
  (Co F8 hit.typeIs F.entry_tuple_iterator_next ?_ (F.args_tuple_iterator_next_1 _)))
 show Az _ _ (field (.ref it) 0>>=_) _ _ s;refine Ad (C4 ho hd (x:=.ref t) rfl ?_);show Az _ _ (if (Bq t==Bv)=ah then _ else _) _ _ s;rw[if_neg (show ¬((Bq t==Bv)=ah)from Ak)];show Az _ _ (field (.ref it) 1>>=_) _ _ s;refine Ad (C4 ho hd (x:=.int i 0) rfl ?_);show Az _ _ (seqItems? (.ref t)>>=_) _ _ s;refine Ad (C9 hol hdl ?_);simp only[Ck,hx];refine Ad (Dv ho hd (by simp) (Aj ⟨x,rfl,Aj (hQ _ ?_ (Bt ..))⟩));exact⟨_,Bz _ ho (Dw (Cm hd _)),(Fx ..).trans hc,by
  rw[Cm hd];simp[Dh]⟩
theorem wX{it t:Addr}{i:Nat}{items:Array Af}{Q:Af->Ai->Prop}(hh:A.handled=af)(hit:s.heap.IsTupleIter it t i)(ht:s.heap.IsTuple t items)(hx:items[i]?=af)
  (hE:∀h' e,Heap.ExtBut it s.heap h'->(∃o,h'.get? e=ae o/\o.cls=.type "StopIteration")->E (.ref e) {s with heap:=h'}):
  Az (Bg prog w) A (Cp (.ref it)) Q E s:=by
 obtain⟨o,ho,hc,hd⟩:=id hit;obtain⟨ol,hol,_,nl,hdl⟩:=ht;unfold Cp;refine Ad (B4 (name:=B7 "__next__") hit.typeIs F8
  (Co F8 hit.typeIs F.entry_tuple_iterator_next ?_ (F.args_tuple_iterator_next_1 _)))
 show Az _ _ (field (.ref it) 0>>=_) _ _ s;refine Ad (C4 ho hd (x:=.ref t) rfl ?_);show Az _ _ (if (Bq t==Bv)=ah then _ else _) _ _ s;rw[if_neg (show ¬((Bq t==Bv)=ah)from Ak)];show Az _ _ (field (.ref it) 1>>=_) _ _ s;refine Ad (C4 ho hd (x:=.int i 0) rfl ?_);show Az _ _ (seqItems? (.ref t)>>=_) _ _ s;refine Ad (C9 hol hdl ?_);simp only[Ck,hx];refine Ad (Ha (Ad (Dv ho hd (by simp) ?_)));show Az _ _ (newExc (.type "StopIteration") []>>=_) _ _ _;refine Ad ?_;simp only[newExc,newTuple];refine Ad (Ce ?_ (by size_fits));refine Ad (m:=Fj _ _) (wpAny_of_eq (a:=Bv) (by first|rfl|(simp only[Fj];rfl)) ?_);refine Ce ?_ (by size_fits);simp only[raiseNew];refine Ad (wpAny_handled ?_)
 first|rw[show A.in1.handled=af from hh]|rw[hh]
 refine Ad (Aj (wpAny_throw ?_));exact hE _ _ (((Bt ..).extBut.push _).push _) ⟨_,Ay _ rfl,rfl⟩
theorem Ln{z TI TO i1 i2 l1 l2:Addr}{k:Nat}{xs ys:Array Af}{x y a b:Af}{Q:Af->Ai->Prop}(D:ZipApart z TI TO i1 i2 l1 l2)
  (hz:IsZip s.heap z TI TO .none) (hTI:Es s.heap TI (.ref i1) (.ref i2)) (hTO:Es s.heap TO a b)
  (h1:s.heap.IsTupleIter i1 l1 k) (h2:s.heap.IsTupleIter i2 l2 k) (hl1:s.heap.IsTuple l1 xs) (hl2:s.heap.IsTuple l2 ys) (hx:xs[k]?=ae x) (hy:ys[k]?=ae y)
  (hQ:∀h',IsZip h' z TI TO (Dh s.heap.objs.size)->Es h' TO x y->h'.IsTupleIter i1 l1 (k+1)->h'.IsTupleIter i2 l2 (k+1)->Es h' s.heap.objs.size x y->h'.objs.size=s.heap.objs.size+1->
   (∀c o,c≠z->c≠TO->c≠i1->c≠i2->s.heap.get? c=ae o->h'.get? c=ae o)->Q (.ref s.heap.objs.size) {s with heap:=h'}):
  Az (Bg prog w) A (D9.«zip.__next__» ⟨[.ref z],[]⟩) (λfin s'=>∃v,fin=.done (.ret v)/\Q v s') E s:=by
 show Az _ _ (field (.ref z) 2>>=_) _ _ _;refine Ad (C4 hz rfl (x:=.bool ai) rfl ?_);show Az _ _ (field (.ref z) 3>>=_) _ _ _;refine Ad (C4 hz rfl (x:=.ref TI) rfl ?_);refine Ad (C9 hTI rfl ?_);show Az _ _ (Cz (.ref z)>>=_) _ _ _;refine Ad ?_;unfold Cz;refine Ad (C4 hz rfl (x:=.none) rfl (Aj ?_));simp only[if_true];refine Ad (Ha ?_);refine Ad (C4 hz rfl (x:=.ref TO) rfl ?_);refine Ad (Ep hz (by simp) λg1 hz1 s1=>?_)
 replace hz1:IsZip g1 z TI TO .ellipsis:=hz1
 refine Ad ?_;simp only[List.zipIdx_cons,List.zipIdx_nil,List.forIn_cons,List.forIn_nil];refine Ad (Ad (Hd ?_));show Az _ _ (Cp (.ref i1)>>=_) _ _ _;refine Ad (qX (h1.extBut s1.extBut D.i1z) (hl1.extBut s1.extBut D.l1z) hx λg2 t2 s2=>Aj ?_);have p2:Es g2 TO a b:=s2.extBut _ _ D.TOi1 (s1.extBut _ _ D.TOz hTO);refine Ad (C9 p2 rfl ?_);refine Ad (wpAny_updateSeq_pair p2 λg3 p3 s3=>?_)
 replace p3:Es g3 TO x b:=p3
 refine Ad (wpAny_letGo (Aj ?_));refine Ad (Ad (Hd ?_));show Az _ _ (Cp (.ref i2)>>=_) _ _ _;refine Ad (qX (((h2.extBut s1.extBut D.i2z).extBut s2.extBut D.i12.symm).extBut s3.extBut D.TOi2.symm)
  (((hl2.extBut s1.extBut D.l2z).extBut s2.extBut D.l2i1).extBut s3.extBut D.l2TO) hy λg4 t4 s4=>Aj ?_)
 have p4:Es g4 TO x b:=s4.extBut _ _ D.TOi2 p3;refine Ad (C9 p4 rfl ?_);refine Ad (wpAny_updateSeq_pair p4 λg5 p5 s5=>?_)
 replace p5:Es g5 TO x y:=p5
 refine Ad (wpAny_letGo (Aj (Aj ?_)));refine Ad (C9 p5 rfl ?_);refine Ad (wpAny_newTuple ?_);have sz:g5.objs.size=s.heap.objs.size:=by rw[s5.1,s4.1,s3.1,s2.1,s1.1]
 have z5:IsZip g5 z TI TO .ellipsis:=s5.extBut _ _ D.TOz.symm (s4.extBut _ _ D.i2z.symm (s3.extBut _ _ D.TOz.symm (s2.extBut _ _ D.i1z.symm hz1)));have k5:∀c o,c≠z->c≠TO->c≠i1->c≠i2->s.heap.get? c=ae o->g5.get? c=ae o:=λc o c1 c2 c3 c4 e=>
  s5.extBut _ _ c2 (s4.extBut _ _ c4 (s3.extBut _ _ c2 (s2.extBut _ _ c3 (s1.extBut _ _ c1 e))))
 have u1:g5.IsTupleIter i1 l1 (k+1):=((t2.extBut s3.extBut D.TOi1.symm).extBut s4.extBut D.i12).extBut s5.extBut D.TOi1.symm;have u2:g5.IsTupleIter i2 l2 (k+1):=t4.extBut s5.extBut D.TOi2.symm;have zlt:z < g5.objs.size:=Ar z5;show Az _ _ (Hg (.ref z) (.ref g5.objs.size)>>=_) _ _ _;refine Ad ?_;unfold Hg;have z6:IsZip (g5.push {cls:=.type "tuple",data:=.seq #[x,y]}) z TI TO .ellipsis:=Ae _ z5;refine Ad (Ep z6 (by simp) λg7 z7 s7=>?_)
 replace z7:IsZip g7 z TI TO (Dh g5.objs.size):=z7
 refine Ep z7 (by simp) λg8 z8 s8=>?_
 replace z8:IsZip g8 z TI TO (Dh g5.objs.size):=z8
 have up:∀c o,c≠z->g5.get? c=ae o->g8.get? c=ae o:=λc o c1 e=>s8.extBut _ _ c1 (s7.extBut _ _ c1 (Ae _ e));have T8:Es g8 g5.objs.size x y:=s8.extBut _ _ (D0 zlt) (s7.extBut _ _ (D0 zlt) (Ay _ rfl));have e8:g8.objs.size=g5.objs.size+1:=by rw[s8.1,s7.1,Ct]
 rw[sz]at z8 T8 e8;refine Aj ⟨_,rfl,?_⟩;show Q (.ref g5.objs.size) _;rw[sz];exact hQ g8 z8 (up _ _ D.TOz p5) (u1.at λo e=>up _ o D.i1z e) (u2.at λo e=>up _ o D.i2z e) T8 e8 λc o c1 c2 c3 c4 e=>up c o c1 (k5 c o c1 c2 c3 c4 e)
theorem Lh{z TI TO i1 i2 l1 l2:Addr}{k:Nat}{xs:Array Af}{Q:Fin->Ai->Prop}(hh:A.handled=af)(D:ZipApart z TI TO i1 i2 l1 l2)
  (hz:IsZip s.heap z TI TO .none) (hTI:Es s.heap TI (.ref i1) (.ref i2)) (h1:s.heap.IsTupleIter i1 l1 k) (hl1:s.heap.IsTuple l1 xs) (hx:xs[k]?=af)
  (hE:∀h' e,(∀c o,c≠z->c≠i1->s.heap.get? c=ae o->h'.get? c=ae o)->(∃o,h'.get? e=ae o/\o.cls=.type "StopIteration")->E (.ref e) {s with heap:=h'}):
  Az (Bg prog w) A (D9.«zip.__next__» ⟨[.ref z],[]⟩) Q E s:=by
 show Az _ _ (field (.ref z) 2>>=_) _ _ _;refine Ad (C4 hz rfl (x:=.bool ai) rfl ?_);show Az _ _ (field (.ref z) 3>>=_) _ _ _;refine Ad (C4 hz rfl (x:=.ref TI) rfl ?_);refine Ad (C9 hTI rfl ?_);show Az _ _ (Cz (.ref z)>>=_) _ _ _;refine Ad ?_;unfold Cz;refine Ad (C4 hz rfl (x:=.none) rfl (Aj ?_));simp only[if_true];refine Ad (Ha ?_);refine Ad (C4 hz rfl (x:=.ref TO) rfl ?_);refine Ad (Ep hz (by simp) λg1 hz1 s1=>?_)
 replace hz1:IsZip g1 z TI TO .ellipsis:=hz1
 refine Ad ?_;simp only[List.zipIdx_cons,List.zipIdx_nil,List.forIn_cons,List.forIn_nil];refine Ad (Ad (Hd ?_));show Az _ _ (Cp (.ref i1)>>=_) _ _ _;refine Ad (wX hh (h1.extBut s1.extBut D.i1z) (hl1.extBut s1.extBut D.l1z) hx λg2 e s2 he=>?_);obtain⟨oe,hoe,hce⟩:=he;have z2:IsZip g2 z TI TO .ellipsis:=s2 _ _ D.i1z.symm hz1;have hez:e≠z:=λx=>by subst x;rw[z2]at hoe;cases hoe;simp at hce
 refine Ep z2 (by simp) λg3 _ s3=>hE g3 e (λc o c1 c3 x=>s3.extBut _ _ c1 (s2 _ _ c3 (s1.extBut _ _ c1 x))) ⟨oe,s3.extBut _ _ hez hoe,hce⟩
theorem LR{z TI TO i1 i2 l1 l2:Addr}{k:Nat}{xs ys:Array Af}{x y a b:Af}{Q:Option Af->Ai->Prop}(D:ZipApart z TI TO i1 i2 l1 l2)
  (hz:IsZip s.heap z TI TO .none) (hTI:Es s.heap TI (.ref i1) (.ref i2)) (hTO:Es s.heap TO a b)
  (h1:s.heap.IsTupleIter i1 l1 k) (h2:s.heap.IsTupleIter i2 l2 k) (hl1:s.heap.IsTuple l1 xs) (hl2:s.heap.IsTuple l2 ys) (hx:xs[k]?=ae x) (hy:ys[k]?=ae y)
  (hQ:∀h',IsZip h' z TI TO (Dh s.heap.objs.size)->Es h' TO x y->h'.IsTupleIter i1 l1 (k+1)->h'.IsTupleIter i2 l2 (k+1)->Es h' s.heap.objs.size x y->h'.objs.size=s.heap.objs.size+1->
   (∀c o,c≠z->c≠TO->c≠i1->c≠i2->s.heap.get? c=ae o->h'.get? c=ae o)->Q (ae (.ref s.heap.objs.size)) {s with heap:=h'}):
  Az (Bg prog w) A (E7 (.ref z)) Q E s:=by
 have hT:s.TypeIs (.ref z) "zip":=⟨_,hz,rfl⟩;unfold E7;exact Ad (Ek (B4 (name:=B7 "__next__") hT Gs
  (Co Gs hT F.entry_zip_next
   (Ln D hz hTI hTO h1 h2 hl1 hl2 hx hy λh' a1 a2 a3 a4 a5 a6 a7=>Aj (hQ h' a1 a2 a3 a4 a5 a6 a7)) (F.args_zip_next_1 _))))
theorem OJ{z TI TO i1 i2 l1 l2:Addr}{k:Nat}{xs:Array Af}{Q:Option Af->Ai->Prop}(hh:A.handled=af)(D:ZipApart z TI TO i1 i2 l1 l2)
  (hz:IsZip s.heap z TI TO .none) (hTI:Es s.heap TI (.ref i1) (.ref i2)) (h1:s.heap.IsTupleIter i1 l1 k) (hl1:s.heap.IsTuple l1 xs) (hx:xs[k]?=af)
  (hQ:∀h',(∀c o,c≠z->c≠i1->s.heap.get? c=ae o->h'.get? c=ae o)->Q af {s with heap:=h'}):Az (Bg prog w) A (E7 (.ref z)) Q E s:=by
 have hT:s.TypeIs (.ref z) "zip":=⟨_,hz,rfl⟩;unfold E7;refine Ad (Ek (B4 (name:=B7 "__next__") hT Gs
  (Co Gs hT F.entry_zip_next (Lh hh D hz hTI h1 hl1 hx λh' e hk he=>?_) (F.args_zip_next_1 _))))
 obtain⟨o,ho,hc⟩:=he;refine Ad (Gh (T:="StopIteration") (b:=ah) ⟨o,ho,hc⟩ isSubtype_stop ?_);exact Aj (hQ _ hk)
end
abbrev qO(h:Heap)(l1:Addr):Heap:=h.push {cls:=.type "tuple_iterator",data:=.fields #[.ref l1,.int 0 0]}
abbrev pP(h:Heap)(l1 l2:Addr):Heap:=(qO h l1).push {cls:=.type "tuple_iterator",data:=.fields #[.ref l2,.int 0 0]}
abbrev pX(h:Heap)(l1 l2:Addr):Heap:=(pP h l1 l2).push {cls:=.type "tuple",data:=.seq #[.ref h.objs.size,.ref (qO h l1).objs.size]}
abbrev qj(h:Heap)(l1 l2:Addr):Heap:=(pX h l1 l2).push {cls:=.type "tuple",data:=.seq #[.none,.none]}
abbrev lR(h:Heap)(l1 l2:Addr):Heap:=(qj h l1 l2).push {cls:=.type "zip",data:=.fields #[.none,.bool ai,.bool ai,.ref (pP h l1 l2).objs.size,.ref (pX h l1 l2).objs.size]}
theorem J2(l1 l2:Addr)(xs ys:Array Af):
  Meets (D9.«zip.__new__» ⟨[.type "zip",.ref l1,.ref l2],[]⟩) (λ_ R s=>s.heap.IsTuple l1 xs/\s.heap.IsTuple l2 ys /\
   R (.ok (.ret (.ref (qj s.heap l1 l2).objs.size))) {s with heap:=lR s.heap l1 l2}):=
 .of_wp λprog w A R s h=>by
  obtain⟨hp,g,d,tk,os⟩:=s;obtain⟨hl1,hl2,h⟩:=h;have hsub:=sub_zip;have hL1:Heap.IsTuple (Shared.heap ⟨hp,g,d,tk,os⟩) l1 xs:=hl1;have hL2:Heap.IsTuple (Shared.heap ⟨hp.push {cls:=.type "tuple_iterator",data:=.fields #[.ref l1,.int 0 0]},g,d,tk,os⟩) l2 ys:=Heap.IsTuple.push hl2 _
  wp_walk using Er hL1,Er hL2
  exact⟨_,rfl,h⟩
section
variable{prog:Bj}{w:Bu}{A:B3}{E:Af->Ai->Prop}{s:Ai}
theorem QO{l1 l2:Addr}{xs ys:Array Af}{Q:Af->Ai->Prop}(hl1:s.heap.IsTuple l1 xs)(hl2:s.heap.IsTuple l2 ys)
  (h:∀h',IsZip h' (s.heap.objs.size+4) (s.heap.objs.size+2) (s.heap.objs.size+3) .none->Es h' (s.heap.objs.size+2) (.ref s.heap.objs.size) (.ref (s.heap.objs.size+1))->
   Es h' (s.heap.objs.size+3) .none .none->h'.IsTupleIter s.heap.objs.size l1 0->h'.IsTupleIter (s.heap.objs.size+1) l2 0->
   (∀c o,s.heap.get? c=ae o->h'.get? c=ae o)->Q (.ref (s.heap.objs.size+4)) {s with heap:=h'}):
  Az (Bg prog w) A (call (.type "zip") [.ref l1,.ref l2]) Q E s:=by
 refine callType_new F.called_zip ∎ (F.typeCall_zip_2 _ _) (F.newCall_zip_2 _ _) (λobj=>F.args_object_init_3 obj _ _) F.entry_zip_new
  (J2 l1 l2 xs ys) ⟨hl1,hl2,?_⟩
 have z1:(qO s.heap l1).objs.size=s.heap.objs.size+1:=Ct ..;have z2:(pP s.heap l1 l2).objs.size=s.heap.objs.size+2:=by rw[Ct,z1]
 have z3:(pX s.heap l1 l2).objs.size=s.heap.objs.size+3:=by rw[Ct,z2]
 have z4:(qj s.heap l1 l2).objs.size=s.heap.objs.size+4:=by rw[Ct,z3]
 have g5:(lR s.heap l1 l2).get? (qj s.heap l1 l2).objs.size=ae _:=Ay _ rfl;have g4:(lR s.heap l1 l2).get? (pX s.heap l1 l2).objs.size=ae _:=Ae _ (Ay _ rfl);have g3:(lR s.heap l1 l2).get? (pP s.heap l1 l2).objs.size=ae _:=Ae _ (Ae _ (Ay _ rfl));have g2:(lR s.heap l1 l2).get? (qO s.heap l1).objs.size=ae _:=Ae _ (Ae _ (Ae _ (Ay _ rfl)));have g1:(lR s.heap l1 l2).get? s.heap.objs.size=ae _:=Ae _ (Ae _ (Ae _ (Ae _ (Ay _ rfl))));show _/\_;rw[z2,z3,z4]at g5;rw[z1,z2]at g3;rw[z3]at g4;rw[z1]at g2;rw[z4];exact⟨⟨_,g5,rfl⟩,h _ g5 g3 g4 ⟨_,g1,rfl,rfl⟩ ⟨_,g2,rfl,rfl⟩ λc o x=>
  Ae _ (Ae _ (Ae _ (Ae _ (Ae _ x))))⟩
end
theorem Inv.many{X:Cx}{pins:List (Addr×Obj)}{σ:St}{H:Hp}{s:Ai}{h':Heap}{t':Nat}{fp:List Addr}{a:Addr}{o:HO}(I:Inv X pins σ H s)(hf:∀b∈fp,dh X pins H b)(k:∀b u,b∉fp->s.heap.get? b=ae u->h'.get? b=ae u)
  (ha:s.heap.objs.size<=a) (new:ObjOk X.prog X.w (upd H a o) h' a o):Inv X pins σ (upd H a o) {s with heap:=h',toks:=t'}:=by
 have hn:H a=af:=I.hok.fresh ha;have nf:∀b u,H b=ae u->b∉fp:=λb u e z=>by rw[(hf b z).1]at e;cases e
 refine I.call' (s':={ s with heap:=h',toks:=t'}) (ch:=fp) rfl ⟨λb u q _ _ z=>k b u z q,λb u q _ _ z=>⟨u.slots,k b u z q⟩,λb u q n _=>?_,λb u q z=>⟨u,k b u z q⟩,λb xs q=>?_,λb u xs q=>?_,λb ps q=>⟨#[],?_⟩⟩ (λb u e=>?_) I.bare (λb hb=>?_)
 ·rw[aM (Bf (Bn (Ar q) ha))];exact n
 ·rw[aM (bQ q hn)];exact q
 ·rw[aM (bQ q hn)];exact q
 ·rw[aM (bQ q hn),q];simp
 ·by_cases z:b=a
  ·subst z;rw[bw]at e;cases e;exact new
  ·rw[aM z]at e;refine(I.hok b u e).stay (λc v hc q=>k c v ?_ q) (λc q=>?_) λc ys q=>?_
   ·rcases hc with z|z
    ·rw[z];exact nf b u e
    ·exact nf c _ z
   ·rw[aM (bQ q hn)];exact q
   ·rw[aM (bQ q hn)];exact q
 ·obtain⟨f0,f1,f2,f3,f4,f5⟩:=hf b hb;exact⟨f3,f1,f4,f5⟩
theorem Inv.many0{X:Cx}{pins:List (Addr×Obj)}{σ:St}{H:Hp}{s:Ai}{h':Heap}{t':Nat}{fp:List Addr}(I:Inv X pins σ H s)(hf:∀b∈fp,dh X pins H b)(k:∀b u,b∉fp->s.heap.get? b=ae u->h'.get? b=ae u):Inv X pins σ H {s with heap:=h',toks:=t'}:=by
 have nf:∀b u,H b=ae u->b∉fp:=λb u e z=>by rw[(hf b z).1]at e;cases e
 refine I.call' (s':={ s with heap:=h',toks:=t'}) (ch:=fp) rfl ⟨λb u q _ _ z=>k b u z q,λb u q _ _ z=>⟨u.slots,k b u z q⟩,λb u q n _=>n,λb u q z=>⟨u,k b u z q⟩,λb xs q=>q,λb u xs q=>q,λb ps q=>⟨#[],by rw[q];simp⟩⟩ (λb u e=>?_) I.bare (λb hb=>?_)
 ·refine(I.hok b u e).stay (λc v hc q=>k c v ?_ q) (λc q=>q) λc ys q=>q;rcases hc with z|z
  ·rw[z];exact nf b u e
  ·exact nf c _ z
 ·obtain⟨f0,f1,f2,f3,f4,f5⟩:=hf b hb;exact⟨f3,f1,f4,f5⟩
theorem P0:B9 "zip"=ae (.type "zip"):=by decide +kernel
end L2
namespace DL
open PySem L2 Nb
def tu(kvs:List (b9×Ah))(k:b9):Option Ah:=(kvs.find? λkv=>decide (kv.1=k)).map (·.2)
section
variable{X:Cx}{a b c e o i f:Expr}{ta tb te td ty tx:TE}{wa wb we wd' wy wx:DT}{pos p:Pos}{K:Ag}
def Qq(wd wy wx:DT):DT:=λδ n Q=>wd δ n λx n1=>match x with
 |.dk kvs=>wy δ n1 λy n2=>wx δ n2 λz n3=>match y,z with
  |.d (.str k),.d z=>Q (.d ((tu kvs (.inr k)).getD z)) n3
  |_,_=>False
 |_=>False
end
section
variable{X:Cx}{a b c e o i f:Expr}{ta tb te td ty tx:TE}{wa wb we wd' wy wx:DT}{pos p:Pos}{K:Ag}
theorem tG{H:Hp}{B:Addr->Prop}:∀{ys:List Str},(∀y∈ys,y.length<=1000)->RdXs H B (ys.map V.str) (ys.map .str)
 |[],_=>.nil
 |y::r,h=>.cons (.str _ (lX (h y Am))) (tG λz hz=>h z (Al _ hz))
def fU(xs ys:List Ah):List Ah:=List.zipWith (λx y=>.tuple [x,y]) xs ys
end
end DL
namespace L2
open PySem PySem.Spec PyProof.Rows PySem.SeqAt
end L2
namespace DL
open PySem L2 Nb
section
variable{X:Cx}{K:Ag}
def tq(K:Ag)(f:Ah->Ah->Option Bool):R2:=λx y H Q=>∃d e b,RdD K H x d/\RdD K H y e/\d.canLay0=ah/\e.canLay0=ah/\d.depth<=20/\e.depth<=20/\f d e=ae b/\Q (.bl b) H
theorem UH(hu:X.A.units+64 < cLine)(hK:X.K=K:=by rfl):OpR X (B8 .Eq) (tq K λd e=>ae (PyData.eqv d e)):=by
 subst hK;intro pins s σ H x y v u Q I rx ry h;obtain⟨d,e,b,h1,h2,h3,h4,h5,h6,h7,q⟩:=h;cases h7;obtain⟨as,r1⟩:=RdD.reads I h1 rx;obtain⟨bs,r2⟩:=RdD.reads I h2 ry;exact SeqAt.compareEq_reads r1 r2 h3 h4 ⋯ ⟨.bl _,H,I,rfl,q⟩
theorem Lr(hu:X.A.units+64 < cLine)(hK:X.K=K:=by rfl):OpR X (B8 .NotEq) (tq K λd e=>ae (!PyData.eqv d e)):=by
 subst hK;intro pins s σ H x y v u Q I rx ry h;obtain⟨d,e,b,h1,h2,h3,h4,h5,h6,h7,q⟩:=h;cases h7;obtain⟨as,r1⟩:=RdD.reads I h1 rx;obtain⟨bs,r2⟩:=RdD.reads I h2 ry;exact SeqAt.compareNe_reads r1 r2 h3 h4 ⋯ ⟨.bl _,H,I,rfl,q⟩
def l4(f:Ah->Ah->Option Bool):Wv->Wv->Int->DQ->Prop:=λx y n Q=>match x,y with
 |.d d,.d e=>d.canLay0=ah/\e.canLay0=ah/\d.depth<=20/\e.depth<=20/\∃b,f d e=ae b/\Q (.d (.bool b)) n
 |_,_=>False
theorem T2{f:Ah->Ah->Option Bool}:bS (tq K f) (l4 f):=λC H B σ δ n x y p q Q Q' R rx ry h1 k=>by
 unfold l4 at h1
 split at h1
 ·rename_i d e;obtain⟨a1,a2,a3,a4,b,a5,a6⟩:=h1;exact⟨d,e,b,RdX.rd rx,RdX.rd ry,a1,a2,a3,a4,a5,k _ _ H n R (Kp.refl _ _) (wd (.bl b)) a6⟩
 ·exact h1.elim
end
end DL
namespace L2
open PySem PySem.Spec PyProof.Rows PySem.W
section
variable{prog:Bj}{w:Bu}{A:B3}{E:Af->Ai->Prop}{s:Ai}
theorem NF{src:Source}{n:Nat}{Q:Nat->Ai->Prop}(hn:n≠0)(h:∀i dr,i < n->Q i {s with drawn:=dr}):Az (Bg prog w) A (choose src n) Q E s:=
 λ_ _ _=>⟨hn,h _ _ (Nat.mod_lt _ (Nat.pos_of_ne_zero hn))⟩
theorem rZ{α:Type}:∀(l:List α)(i:Nat)(h:i < l.length),(l[i]::l.eraseIdx i).Perm l
 |x::r,0,_=>List.Perm.refl _
 |x::r,i+1,h=>(List.Perm.swap x (r[i]'(Nat.lt_of_succ_lt_succ h)) (r.eraseIdx i)).trans ((rZ r i (Nat.lt_of_succ_lt_succ h)).cons x)
theorem yE{α:Type}:∀(n:Nat)(xs:List α)(s:Ai){Q:List α->Ai->Prop},xs.length=n->(∀ys dr,ys.Perm xs->Q ys {s with drawn:=dr})->Az (Bg prog w) A (drawOrder n xs) Q E s
 |0,xs,s,Q,hl,h=>by
  cases D2 hl;exact Aj (h [] s.drawn (List.Perm.refl _))
 |n+1,[],s,Q,hl,h=>by cases hl
 |n+1,x::r,s,Q,hl,h=>by
  unfold drawOrder;refine Ad (NF (by simp) λi dr hi=>?_);rw[As hi];dsimp only;refine Ad (yE n _ _ (by rw[List.length_eraseIdx_of_lt hi];simp at hl ⊢;omega) λys dr' hp=>Aj (h _ dr' ?_));exact(hp.cons _).trans (rZ _ _ hi)
theorem yL{α:Type}(next:Nat->Nat):∀(fuel k:Nat)(left:List α)(out:Array α),left.length=fuel->(pickOrder.go next fuel k left out).toList.Perm (out.toList++left)
 |0,k,left,out,hl=>by
  cases D2 hl;simp[pickOrder.go]
 |fuel+1,k,left,out,hl=>by
  have hi:next k % left.length < left.length:=Nat.mod_lt _ ⋯
  unfold pickOrder.go;rw[As hi];dsimp only;refine(yL next fuel (k+1) _ _ (by rw[List.length_eraseIdx_of_lt hi];omega)).trans ?_;rw[Array.toList_push,Cj];exact List.Perm.append_left _ (rZ _ _ hi)
theorem NC{α:Type}(next:Nat->Nat)(xs:Array α):(pickOrder next xs).toList.Perm xs.toList:=by
 have:=yL next xs.size 0 xs.toList #[] (by simp)
 simpa[pickOrder]using this
def cW(w:Bu):Bool:=w.params.followText "set-order"
theorem qo{Q:Bool->Ai->Prop}(h:Q (cW w) s):Az (Bg prog w) A setsByText Q E s:=by
 unfold setsByText;exact Ad (wpAny_askSetting (Aj h))
structure SetTb(w:Bu)(h:Heap)(a:Addr)(es:Array (Int×Af))(ep:Nat)(t:Fk):Prop where
 obj:∃o,h.get? a=ae o/\o.ExactSet/\o.data=.set es ep t
 fits:t.fits es.size=ah
 led:t.led=!cW w
 plain:t.plain=ah->es.size=0
theorem SetTb.move{h h':Heap}{a:Addr}{es:Array (Int×Af)}{ep:Nat}{t:Fk}(x:SetTb w h a es ep t)(k:∀o,h.get? a=ae o->h'.get? a=ae o):SetTb w h' a es ep t:=
 ⟨let⟨o,e,r⟩:=x.obj;⟨o,k o e,r⟩,x.fits,x.led,x.plain⟩
theorem SetTb.typeIs{a:Addr}{es:Array (Int×Af)}{ep:Nat}{t:Fk}(x:SetTb w s.heap a es ep t):s.TypeIs (.ref a) "set":=let⟨o,e,r,_⟩:=x.obj;⟨o,e,r.1⟩
theorem SetTb.lt{h:Heap}{a:Addr}{es:Array (Int×Af)}{ep:Nat}{t:Fk}(x:SetTb w h a es ep t):a < h.objs.size:=let⟨_,e,_⟩:=x.obj;Ar e
theorem TF(t:Fk)(n:Nat):(t.orStandIn n).led=t.led:=by
 unfold SetTable.orStandIn
 split<;>rfl
theorem Su(t:Fk)(es:Array (Int×Af))(h:Int)(x:Af):(layNew t es h x).2.1.led=t.led:=by
 unfold layNew
 split
 ·exact TF _ _
 ·rfl
theorem Uq{t t':Fk}{hs:Array Int}{n:Nat}{ord:Array Nat}(h:t.relaid hs n=ae (t',ord)):t'.led=t.led/\t'.plain=t.plain:=by
 unfold SetTable.relaid SetTable.laid at h;cases hc:SetTable.layClean (SetTable.sizeAbove n-1) hs with
 |none=>rw[hc]at h;cases h
 |some ow=>
  rw[hc]at h;cases h;exact⟨rfl,rfl⟩
theorem Hm(t:Fk)(es:Array (Int×Af))(n:Nat):(relayAll t es n).2.1.led=t.led/\((relayAll t es n).2.1.plain=ah->t.plain=ah):=by
 unfold relayAll
 split
 ·rename_i t' ord he;obtain⟨h1,h2⟩:=Uq he;dsimp only
  split
  ·exact⟨h1,λz=>h2▸z⟩
  ·exact⟨rfl,λz=>by simp[SetTable.standIn]at z⟩
 ·exact⟨rfl,λz=>by simp[SetTable.standIn]at z⟩
def gb(v:Af):Str:=match v with
 |.str k _=>k
 |_=>⟨#[]⟩
def cw(es:Array (Int×Af)):List Str:=es.toList.map λe=>gb e.2
def TxEs(w:Bu)(es:Array (Int×Af)):Prop:=∀e∈es.toList,∃k t,e.2=.str k t/\e.1=hashStr w k
theorem TxEs.elems{es:Array (Int×Af)}(h:TxEs w es):ElemsOf (Ef prog w) es.toList:=λe he=>by
 obtain⟨k,t,e1,e2⟩:=h e he;refine⟨⟨k,?_,e2⟩,by rw[e1];rfl⟩;rw[e1];simp[Ef,Value.isStrOf]
def iF(w:Bu)(h:Heap)(a:Addr)(seen:List Str):Prop:=∃es ep t,SetTb w h a es ep t/\TxEs w es/\(cw es).Nodup/\(∀k,k∈cw es↔k∈seen)/\es.size<=seen.length
end
theorem AJ:entryFor table "set.update.loop"=ae D9.«set.update.loop»:=entryFor_of_tree (by kernel_rfl)
theorem vC:plainId "set.update.loop"=ah:=by decide +kernel
section
variable{prog:Bj}{w:Bu}{A:B3}{E:Af->Ai->Prop}{s:Ai}
theorem Rn{es es':Array (Int×Af)}{seen:List Str}{k:Str}{tk:Tok}(hx:TxEs w es)(nd:(cw es).Nodup)(hm:∀k,k∈cw es↔k∈seen)(hl:es.size<=seen.length)(hk:k∉cw es)
  (p:es'.toList.Perm (es.toList++[(hashStr w k,.str k tk)])):TxEs w es'/\(cw es').Nodup/\(∀k',k'∈cw es'↔k'∈seen++[k])/\es'.size<=(seen++[k]).length/\es'.size=es.size+1:=by
 have pk:(cw es').Perm (cw es++[k]):=by
  have:=p.map λe=>gb e.2;rw[Br]at this;exact this
 have hz:es'.size=es.size+1:=by
  have:=p.length_eq;simpa using this
 refine⟨λe he=>?_,pk.nodup_iff.mpr ?_,λk'=>?_,by rw[hz,A0];exact Nat.succ_le_succ hl,hz⟩
 ·rcases Bi.mp (p.mem_iff.mp he)with h|h
  ·exact hx e h
  ·rw[A6]at h;subst h;exact⟨k,tk,rfl,rfl⟩
 ·rw[List.nodup_append];exact⟨nd,List.pairwise_singleton _ _,λa ha b hb e=>hk (by rw[A6]at hb;rw[<-hb,<-e];exact ha)⟩
 ·rw[pk.mem_iff,Bi,Bi,hm k']
theorem BA{es es':Array (Int×Af)}(hx:TxEs w es)(nd:(cw es).Nodup)(p:es'.toList.Perm es.toList):TxEs w es'/\(cw es').Nodup/\(∀k',k'∈cw es'↔k'∈cw es)/\es'.size=es.size:=by
 have pk:(cw es').Perm (cw es):=List.Perm.map (λe:Int×Af=>gb e.2) p;exact⟨λe he=>hx e (p.mem_iff.mp he),pk.nodup_iff.mpr nd,λk'=>pk.mem_iff,by have:=p.length_eq;simpa using this⟩
theorem Uc{a:Addr}{k:Str}{tk:Tok}{seen:List Str}{Q:Bool->Ai->Prop}(hS:iF w s.heap a seen)(hb:seen.length < 1000)
  (h:∀b h',Dz a s.heap h'->iF w h' a (seen++[k])->Q b {s with heap:=h'}):Az (Bg prog w) A (setAddHashed a (.str k tk) (hashStr w k)) Q E s:=by
 obtain⟨es,ep,t,T,hx,nd,hm,hl⟩:=hS;obtain⟨o,ho,hex,hd⟩:=T.obj;have hel:ElemsOf (Ef prog w) es.toList:=hx.elems;have hsz:es.size < scanBound:=by unfold scanBound;omega
 have hkey:(Ef prog w).is k (.str k tk)=ah:=by simp[Ef,Value.isStrOf]
 unfold setAddHashed setAddHashedIn;refine Dd (Ad (Fz ho hd T.fits ?_));dsimp only;rw[byScan_of (knd:=Ef prog w) (x:=.str k tk) rfl hsz hel];simp only[↓reduceIte];unfold setAddByScan;refine Ad (Ad (Ha (Ad (wpAny_setScan_of (knd:=Ef prog w) (k:=k) hkey ho hd T.fits hel ?_))));cases hr:es.toList.findIdx? (λe=>(Ef prog w).is k e.2)with
 |some j=>
  dsimp only;obtain⟨hj,hpj,_⟩:=List.findIdx?_eq_some_iff_getElem.mp hr;have hk:k∈cw es:=by
   obtain⟨u,hu⟩:=Value.isStrOf_shape hpj;exact Dc.mpr ⟨es.toList[j],Gy hj,by rw[hu];rfl⟩
  refine Aj (Aj (h _ s.heap (Heap.SameBut.refl a s.heap) ⟨es,ep,t,T,hx,nd,λk'=>?_,by rw[A0];omega⟩));rw[hm k',Bi,A6];exact⟨.inl,λz=>z.elim id λe=>e▸(hm k).mp hk⟩
 |none=>
  dsimp only;have hk:k∉cw es:=λz=>by
   obtain⟨e,he,e2⟩:=Dc.mp z;obtain⟨k',t',e3,_⟩:=hx e he;have q:=List.findIdx?_eq_none_iff.mp hr e he;rw[e3]at e2 q;have e2:k'=k:=e2;subst e2;simp[Ef,Value.isStrOf]at q
  have hgw:∀(b:Bool){s₁:Ai}{Q':Unit->Ai->Prop},Q' () s₁->Az (Bg prog w) A (match b with|true=>rule "set.scan.the-table-gave-way"|false=>pure ()) Q' E s₁:=
   λb s₁ Q' hq=>by cases b with
    |true=>exact Ha hq
    |false=>exact Aj hq
  have hp:=layNew_perm t es (hashStr w k) (.str k tk);have hf:=layNew_fits t es (hashStr w k) (.str k tk);have hle:=Su t es (hashStr w k) (.str k tk);have eh:(Ef prog w).hash k=hashStr w k:=rfl
  try rw[eh]
  generalize layNew t es (hashStr w k) (.str k tk)=L at hp hf hle ⊢;obtain⟨es1,t1,wd,gave⟩:=L;dsimp only at hp hf hle ⊢;rw[Array.toList_push]at hp;obtain⟨x1,n1,m1,l1,z1⟩:=Rn hx nd hm hl hk hp;refine Ad (hgw _ ?_)
  split
  ·refine Ad ?_;rw[hashByValue_scannable 8 rfl];refine Aj ?_;have hpl:({t1 with plain:=ai}:Fk).plain=ai:=rfl;have hft:({t1 with plain:=ai}:Fk).fits es1.size=ah:=SetTable.fits_plain_off hf;have hld:({t1 with plain:=ai}:Fk).led=t.led:=hle;simp only[plainKind,Cb,↓reduceIte];generalize({t1 with plain:=ai}:Fk)=t2 at hpl hft hld ⊢;have hb1:es1.size < scanBound:=by unfold scanBound;omega
   refine Ad (wpAny_storeSet_of ho hd ?_ (fits_of_scanBound hb1));have g1:(s.heap.update a (Ez es1 t2)).get? a=ae {o with data:=.set es1 (ep+1) t2}:=by
    have:=Bz (Ez es1 t2) ho (by rw[putSet_of es1 t2 hd];rfl);rw[putSet_of es1 t2 hd]at this;exact this
   have sb1:=Bt s.heap a (Ez es1 t2)
   split
   ·have hp2:=relayAll_perm t2 es1 (Ex es1.size);have hf2:=relayAll_fits t2 es1 (Ex es1.size);obtain⟨hl2,hq2⟩:=Hm t2 es1 (Ex es1.size);generalize relayAll t2 es1 (Ex es1.size)=R at hp2 hf2 hl2 hq2 ⊢;obtain⟨es2,t3,gave2⟩:=R;dsimp only at hp2 hf2 hl2 hq2 ⊢;obtain⟨x2,n2,m2,z2⟩:=BA x1 n1 hp2;refine Ad (hgw _ ?_);refine Ad (wpAny_storeSet_of g1 rfl ?_ (fits_of_scanBound (by rw[z2];exact hb1)));have g2:((s.heap.update a (Ez es1 t2)).update a (Ez es2 t3)).get? a=ae {o with data:=.set es2 (ep+1+1) t3}:=by
     have:=Bz (Ez es2 t3) g1 (by rw[putSet_of es2 t3 rfl];rfl);rw[putSet_of es2 t3 rfl]at this;exact this
    refine Aj (Aj (h _ _ (sb1.trans (Bt _ a _)) ⟨es2,ep+1+1,t3,⟨⟨_,g2,hex,rfl⟩,hf2,by rw[hl2,hld];exact T.led,λz=>?_⟩,x2,n2,λk'=>(m2 k').trans (m1 k'),by rw[z2];exact l1⟩));have:=hq2 z;rw[hpl]at this;cases this
   ·refine Aj (Aj (h _ _ sb1 ⟨es1,ep+1,t2,⟨⟨_,g1,hex,rfl⟩,hft,by rw[hld];exact T.led,λz=>?_⟩,x1,n1,m1,l1⟩));rw[hpl]at z;cases z
  ·rename_i hpl0;have hpl:t1.plain=ai:=by simpa using hpl0
   have hft:=hf;have hld:=hle;refine Ad (Aj ?_);simp only[↓reduceIte];clear hf hle hpl0;generalize t1=t2 at hpl hft hld ⊢;have hb1:es1.size < scanBound:=by unfold scanBound;omega
   refine Ad (wpAny_storeSet_of ho hd ?_ (fits_of_scanBound hb1));have g1:(s.heap.update a (Ez es1 t2)).get? a=ae {o with data:=.set es1 (ep+1) t2}:=by
    have:=Bz (Ez es1 t2) ho (by rw[putSet_of es1 t2 hd];rfl);rw[putSet_of es1 t2 hd]at this;exact this
   have sb1:=Bt s.heap a (Ez es1 t2)
   split
   ·have hp2:=relayAll_perm t2 es1 (Ex es1.size);have hf2:=relayAll_fits t2 es1 (Ex es1.size);obtain⟨hl2,hq2⟩:=Hm t2 es1 (Ex es1.size);generalize relayAll t2 es1 (Ex es1.size)=R at hp2 hf2 hl2 hq2 ⊢;obtain⟨es2,t3,gave2⟩:=R;dsimp only at hp2 hf2 hl2 hq2 ⊢;obtain⟨x2,n2,m2,z2⟩:=BA x1 n1 hp2;refine Ad (hgw _ ?_);refine Ad (wpAny_storeSet_of g1 rfl ?_ (fits_of_scanBound (by rw[z2];exact hb1)));have g2:((s.heap.update a (Ez es1 t2)).update a (Ez es2 t3)).get? a=ae {o with data:=.set es2 (ep+1+1) t3}:=by
     have:=Bz (Ez es2 t3) g1 (by rw[putSet_of es2 t3 rfl];rfl);rw[putSet_of es2 t3 rfl]at this;exact this
    refine Aj (Aj (h _ _ (sb1.trans (Bt _ a _)) ⟨es2,ep+1+1,t3,⟨⟨_,g2,hex,rfl⟩,hf2,by rw[hl2,hld];exact T.led,λz=>?_⟩,x2,n2,λk'=>(m2 k').trans (m1 k'),by rw[z2];exact l1⟩));have:=hq2 z;rw[hpl]at this;cases this
   ·refine Aj (Aj (h _ _ sb1 ⟨es1,ep+1,t2,⟨⟨_,g1,hex,rfl⟩,hft,by rw[hld];exact T.led,λz=>?_⟩,x1,n1,m1,l1⟩));rw[hpl]at z;cases z
def iM(ks:List Str)(i:Nat)(v:Af):Prop:=∃k t,ks[i]?=ae k/\v=.str k t
theorem Nq{R:Result->Ai->Prop}{I:Addr}{fp wr:List Addr}{G:Array GenState->Array GenState->Prop}{n:Nat}{St:Nat->Ai->Prop}{ks:List Str}(W:WalksS prog w A.in1 I fp wr G n (iM ks) St)(S:Addr)(hSf:S∉fp)(hn:ks.length=n)(hb:n < 64):
  ∀(m i:Nat)(s:Ai),n-i=m->i<=n->St i s->iF w s.heap S (ks.take i)->
   (∀s',Moved (S::wr) G s s'->iF w s'.heap S ks->R (.ok (.ret .none)) s')->codeAny (Bg prog w) A (.builtin "set.update.loop" ⟨[.ref S,.ref I],[]⟩) R s:=by
 have hSw:S∉wr:=λh=>hSf (W.sub _ h);have hsub:∀b∈wr,b∈S::wr:=λb hb=>Al _ hb;have mv:∀{h h':Heap}{seen:List Str},(∀o,h.get? S=ae o->h'.get? S=ae o)->iF w h S seen->iF w h' S seen:=λk x=>by
  obtain⟨es,ep,t,T,r⟩:=x;exact⟨es,ep,t,T.move k,r⟩
 intro m
 induction m with
 |zero=>
  intro i s hk hi hst hS hR;have hin:i=n:=by omega
  subst hin;refine Gt AJ ?_;rw[Fy vC _];show Az _ A.in1 (E7 (.ref I)>>=_) _ _ s;refine Ad (W.done s _ _ hst λs' hm=>?_);show Az _ A.in1 (ret Bv) _ _ s';rw[<-hn,Gx]at hS;exact Aj (hR s' (hm.mono hsub) (mv (λo e=>hm.heap S _ hSw e) hS))
 |succ m ih=>
  intro i s hk hi hst hS hR;have hlt:i < n:=by omega
  refine Gt AJ ?_;rw[Fy vC _];show Az _ A.in1 (E7 (.ref I)>>=_) _ _ s;refine Ad (W.item i s _ _ hlt hst λv s' hP hst' hm=>?_);obtain⟨k,t,hk1,rfl⟩:=hP;have hS':=mv (λo e=>hm.heap S _ hSw e) hS;show Az _ A.in1 (holding [D4 k t] (setAdd S (.str k t))>>=_) _ _ s';refine Ad (Dd ?_);unfold setAdd;refine Dd ?_;refine Ad (wpAny_pyHash_str ?_);refine Uc (s:={ s' with toks:=s'.toks+1}) hS' (by rw[List.length_take];omega) λb h' hsb hS2=>?_;have et:ks.take i++[k]=ks.take (i+1):=by
   rw[List.take_add_one,hk1];rfl
  rw[et]at hS2;refine Aj ⟨plainId_quiet vC _,ih (i+1) _ ⋯ hlt (W.frame _ s' _ _ hst' (Gr _) λb hb o e=>?_) hS2 λs'' hm'' hS''=>?_⟩
  ·rw[hsb.2 b (λh:b=S=>hSf (by rw[<-h];exact hb))];exact e
  ·refine hR s'' (Moved.trans W.gtrans ((hm.mono hsub).then_heap (Gr _) λb o hb e=>?_) hm'') hS'';rw[hsb.2 b (λh:b=S=>hb (by rw[h];exact Am))];exact e
end
theorem slot_setit_next:Slot "set_iterator" "__next__" "set_iterator.__next__":=Slot.of (owner:="set_iterator") (n:="__next__") (by rw[typeLookup_type,builtinLookup_eq_fast];kernel_rfl)
 ∅ ∅ ∅ (by first|exact .inl ∅|exact .inr ∅) (by rw[Gc];kernel_rfl)
theorem l5:entryFor table "set_iterator.__next__"=ae D9.«set_iterator.__next__»:=entryFor_of_tree (by kernel_rfl)
theorem lU(a:Af):argsOk "set_iterator.__next__" ⟨[a],[]⟩:=by unfold argsOk;kernel_rfl
theorem xY:Slot "set_iterator" "__iter__" "set_iterator.__iter__":=Slot.of (owner:="set_iterator") (n:="__iter__") (by rw[typeLookup_type,builtinLookup_eq_fast];kernel_rfl)
 ∅ ∅ ∅ (by first|exact .inl ∅|exact .inr ∅) (by rw[Gc];kernel_rfl)
theorem MC:entryFor table "set_iterator.__iter__"=ae D9.«dict_keyiterator.__iter__»:=by exact entryFor_alias (id':="dict_keyiterator.__iter__") (by kernel_rfl) rfl ∅ (by kernel_rfl)
theorem Ry(a:Af):argsOk "set_iterator.__iter__" ⟨[a],[]⟩:=by unfold argsOk;kernel_rfl
theorem IX:entryFor table "set.__iter__"=ae D9.«frozenset.__iter__»:=by exact entryFor_alias (id':="frozenset.__iter__") (by kernel_rfl) rfl ∅ (by kernel_rfl)
def SetIt(h:Heap)(I:Addr)(first:Af)(i:Nat)(a:Addr)(n ep:Nat):Prop:=∃o,h.get? I=ae o/\o.cls=.type "set_iterator"/\o.data=.fields #[first,.int i 0,.ref a,.int n 0,.int ep 0]
section
variable{prog:Bj}{w:Bu}{A:B3}{E:Af->Ai->Prop}{s:Ai}{I a T:Addr}{n ep i j:Nat}{es:Array (Int×Af)}{t:Fk}{first:Af}
theorem SetIt.typeIs(x:SetIt s.heap I first i a n ep):s.TypeIs (.ref I) "set_iterator":=let⟨o,e,c,_⟩:=x;⟨o,e,c⟩
theorem SetIt.move{h h':Heap}(x:SetIt h I first i a n ep)(k:∀o,h.get? I=ae o->h'.get? I=ae o):SetIt h' I first i a n ep:=let⟨o,e,r⟩:=x;⟨o,k o e,r⟩
theorem m9{Q:Af->Ai->Prop}(hit:SetIt s.heap I first i a n ep)(h:Q (.ref I) s):Az (Bg prog w) A (pyIter (.ref I)) Q E s:=by
 refine wpAny_pyIter_slot hit.typeIs xY (Co xY hit.typeIs MC ?_ (Ry _));show Az _ _ (ret (.ref I)) _ _ s;exact Aj ⟨_,rfl,"set_iterator",_,hit.typeIs,slot_setit_next.lookup,h⟩
theorem Mt{pl:Array Af}{x:Int×Af}{Q:Option Af->Ai->Prop}(hit:SetIt s.heap I (.ref T) i a n ep)(hs:SetTb w s.heap a es ep t)(hn:es.size=n)(hT:s.heap.IsTuple T pl)(hp:pl[i]?=ae (.int j 0))(hx:es[j]?=ae x)
  (hQ:∀h',SetIt h' I (.ref T) (i+1) a n ep->Dz I s.heap h'->Q (ae x.2) {s with heap:=h'}):Az (Bg prog w) A (E7 (.ref I)) Q E s:=by
 obtain⟨o,ho,hc,hd⟩:=id hit;obtain⟨oa,hoa,_,hda⟩:=hs.obj;obtain⟨ol,hol,_,nl,hdl⟩:=hT;unfold E7;refine Ad (Ek (B4 (name:=B7 "__next__") hit.typeIs slot_setit_next (Co slot_setit_next hit.typeIs l5 ?_ (lU _))));refine Ad (Aj ?_);refine Ad (G1 ho hd ?_);dsimp only;refine Ad (Ei hoa hda hs.fits ?_);rw[if_neg (by rw[hn];simp)];refine Ad (C9 hol hdl ?_);simp only[Ck,hp];refine Ad ?_;unfold setNextDrawn;refine Ad (Fz hoa hda hs.fits ?_);simp only[Ck,bne_self_eq_false,Cb,if_false,hx];refine Aj ?_;refine Ad (Dv ho hd (by simp) (Aj ⟨x.2,rfl,Aj (hQ _ ?_ (Bt ..))⟩));exact⟨_,Bz _ ho (Dw (Cm hd _)),(Fx ..).trans hc,by
  rw[Cm hd];simp[Dh]⟩
theorem Mn{pl:Array Af}{Q:Option Af->Ai->Prop}(hh:A.handled=af)(hit:SetIt s.heap I (.ref T) i a n ep)(hs:SetTb w s.heap a es ep t)(hn:es.size=n)(hT:s.heap.IsTuple T pl)(hp:pl[i]?=af)
  (hQ:∀h',Heap.ExtBut I s.heap h'->Q af {s with heap:=h'}):Az (Bg prog w) A (E7 (.ref I)) Q E s:=by
 obtain⟨ol,hol,_,nl,hdl⟩:=hT;obtain⟨o,ho,hc,hd⟩:=id hit;obtain⟨oa,hoa,_,hda⟩:=hs.obj;unfold E7;refine Ad (Ek (B4 (name:=B7 "__next__") hit.typeIs slot_setit_next (Co slot_setit_next hit.typeIs l5 ?_ (lU _))));refine Ad (Aj ?_);refine Ad (G1 ho hd ?_);dsimp only;refine Ad (Ei hoa hda hs.fits ?_);rw[if_neg (by rw[hn];simp)];refine Ad (C9 hol hdl ?_);simp only[Ck,hp];refine Ad (Dv ho hd (by simp) ?_);have ho2:=Bz (Obj.mapFields (·.setIfInBounds 0 (Dh 0))) ho (Dw (Cm hd _));have hd2:=Cm hd (·.setIfInBounds 0 (Dh 0));refine Ad (Dv ho2 hd2 (by simp) ?_);refine Ad ?_;simp only[newExc,newTuple];refine Ad (Ce ?_ (by size_fits));refine Ad (m:=Fj _ _) (wpAny_of_eq (a:=Bv) (by first|rfl|(simp only[Fj];rfl)) ?_);refine Ce ?_ (by size_fits);simp only[raiseNew];refine Ad (wpAny_handled ?_)
 first|rw[show A.in1.handled=af from hh]|rw[hh]
 refine Ad (Aj (wpAny_throw ?_));refine Ad (Gh (T:="StopIteration") (b:=ah) ⟨_,Ay _ rfl,rfl⟩ isSubtype_stop ?_);exact Aj (hQ _ (((((Bt ..).trans (Bt ..)).extBut).push _).push _))
def ka(w:Bu)(a:Addr)(ep:Nat)(es:Array (Int×Af)):Array (Int×Af):=pickOrder (w.params.setOrder a ep) es
theorem FY{Q:Option (Af×Nat)->Ai->Prop}{k:Nat}(hb:cW w=ah)(hs:SetTb w s.heap a es ep t)(h:Q (((ka w a ep es)[i]?).map λe=>(e.2,k)) s):Az (Bg prog w) A (setNext a k i ep) Q E s:=by
 obtain⟨oa,hoa,_,hda⟩:=hs.obj;unfold setNext;refine Ad (Fz hoa hda hs.fits ?_);dsimp only;refine Ad (qo ?_);rw[hb];simp only[↓reduceIte,bne_self_eq_false,Cb,if_false];refine Ad ?_;unfold setWalk;refine Ad (Fz hoa hda hs.fits ?_);dsimp only;refine Ad (qo ?_);rw[hb];simp only[↓reduceIte];refine Ad (wpAny_askSetting (Aj (Aj h)))
theorem Tx{x:Int×Af}{Q:Option Af->Ai->Prop}(hb:cW w=ah)(hit:SetIt s.heap I (.int 0 0) i a n ep)(hs:SetTb w s.heap a es ep t)(hn:es.size=n)(hx:(ka w a ep es)[i]?=ae x)
  (hQ:∀h',SetIt h' I (.int 0 0) (i+1) a n ep->Dz I s.heap h'->Q (ae x.2) {s with heap:=h'}):Az (Bg prog w) A (E7 (.ref I)) Q E s:=by
 obtain⟨o,ho,hc,hd⟩:=id hit;obtain⟨oa,hoa,_,hda⟩:=hs.obj;unfold E7;refine Ad (Ek (B4 (name:=B7 "__next__") hit.typeIs slot_setit_next (Co slot_setit_next hit.typeIs l5 ?_ (lU _))));refine Ad (Aj ?_);refine Ad (G1 ho hd ?_);dsimp only;refine Ad (Ei hoa hda hs.fits ?_);rw[if_neg (by rw[hn];simp)];refine Ad (FY hb hs ?_);simp only[Ck,hx,Option.map_some];refine Ad (Dv ho hd (by simp) ?_);have ho2:=Bz (Obj.mapFields (·.setIfInBounds 0 (Dh ((0:Int).toNat:Nat)))) ho (Dw (Cm hd _));have hd2:=Cm hd (·.setIfInBounds 0 (Dh ((0:Int).toNat:Nat)));refine Ad (Dv ho2 hd2 (by simp) (Aj ⟨x.2,rfl,Aj (hQ _ ?_ ((Bt ..).trans (Bt ..)))⟩));exact⟨_,Bz _ ho2 (Dw (Cm hd2 _)),(Fx ..).trans ((Fx ..).trans hc),by
  rw[Cm hd2];simp[Dh]⟩
theorem O4{Q:Option Af->Ai->Prop}(hh:A.handled=af)(hb:cW w=ah)(hit:SetIt s.heap I (.int 0 0) i a n ep)(hs:SetTb w s.heap a es ep t)(hn:es.size=n)(hx:(ka w a ep es)[i]?=af)
  (hQ:∀h',Heap.ExtBut I s.heap h'->Q af {s with heap:=h'}):Az (Bg prog w) A (E7 (.ref I)) Q E s:=by
 obtain⟨o,ho,hc,hd⟩:=id hit;obtain⟨oa,hoa,_,hda⟩:=hs.obj;unfold E7;refine Ad (Ek (B4 (name:=B7 "__next__") hit.typeIs slot_setit_next (Co slot_setit_next hit.typeIs l5 ?_ (lU _))));refine Ad (Aj ?_);refine Ad (G1 ho hd ?_);dsimp only;refine Ad (Ei hoa hda hs.fits ?_);rw[if_neg (by rw[hn];simp)];refine Ad (FY hb hs ?_);simp only[Ck,hx,Option.map_none];refine Ad (Dv ho hd (by simp) ?_);refine Ad ?_;simp only[newExc,newTuple];refine Ad (Ce ?_ (by size_fits));refine Ad (m:=Fj _ _) (wpAny_of_eq (a:=Bv) (by first|rfl|(simp only[Fj];rfl)) ?_);refine Ce ?_ (by size_fits);simp only[raiseNew];refine Ad (wpAny_handled ?_)
 first|rw[show A.in1.handled=af from hh]|rw[hh]
 refine Ad (Aj (wpAny_throw ?_));refine Ad (Gh (T:="StopIteration") (b:=ah) ⟨_,Ay _ rfl,rfl⟩ isSubtype_stop ?_);exact Aj (hQ _ (((Bt ..).extBut.push _).push _))
theorem Hn{Q:Option (Af×Nat)->Ai->Prop}{k:Nat}(hb:cW w=ai)(h1:es.size<=1)(hs:SetTb w s.heap a es ep t)
  (h:Q (match es[Ey t.place k]?,t.place[Ey t.place k]? with
   |some (_,x),ae j=>ae (x,j+1)
   |_,_=>af) s):Az (Bg prog w) A (setNext a k i ep) Q E s:=by
 obtain⟨oa,hoa,_,hda⟩:=hs.obj;have hl:t.led=ah:=by rw[hs.led,hb];rfl
 unfold setNext;refine Ad (Fz hoa hda hs.fits ?_);dsimp only;refine Ad (qo ?_);rw[hb];simp only[Cb,↓reduceIte];have hd:(!t.plain&&decide (es.size > 1))=ai:=by
  have:decide (es.size > 1)=ai:=decide_eq_false ⋯;rw[this,Bool.and_false]
 split
 ·rename_i z;have z':(!t.plain&&decide (es.size > 1))=ah:=z;rw[hd]at z';cases z'
 ·refine Ad (wpAny_of_eq (a:=()) ?_ (Aj h));show(if (!t.led&&!es.isEmpty)=ah then unsupported "set:maker-not-led" else pure ())=pure ();rw[hl];rfl
theorem GR{j:Nat}:Ey #[j] 0=0/\Ey #[j] (j+1)=1:=by
 constructor
 ·simp[Ey,SetTable.below.go]
 ·simp[Ey,SetTable.below.go]
theorem TU{x:Int×Af}{Q:Option Af->Ai->Prop}(hb:cW w=ai)(hp:t.place=#[j])(he:es=#[x])(hit:SetIt s.heap I (.int 0 0) 0 a 1 ep)(hs:SetTb w s.heap a es ep t)
  (hQ:∀h',SetIt h' I (.int ((j+1:Nat):Int) 0) 1 a 1 ep->Dz I s.heap h'->Q (ae x.2) {s with heap:=h'}):Az (Bg prog w) A (E7 (.ref I)) Q E s:=by
 have hn:es.size=1:=by rw[he];rfl
 obtain⟨o,ho,hc,hd⟩:=id hit;obtain⟨oa,hoa,_,hda⟩:=hs.obj;unfold E7;refine Ad (Ek (B4 (name:=B7 "__next__") hit.typeIs slot_setit_next (Co slot_setit_next hit.typeIs l5 ?_ (lU _))));refine Ad (Aj ?_);refine Ad (G1 ho hd ?_);dsimp only;refine Ad (Ei hoa hda hs.fits ?_);rw[if_neg (by rw[hn];simp)];refine Ad (Hn hb ⋯ hs ?_);have b1:Ey t.place (0:Int).toNat=0:=by rw[hp];exact GR.1
 rw[b1,hp,he];show Az _ _ (setField (.ref I) 0 (Dh ((j+1:Nat):Int))>>=_) _ _ _;refine Ad (Dv ho hd (by simp) ?_);have ho2:=Bz (Obj.mapFields (·.setIfInBounds 0 (Dh ((j+1:Nat):Int)))) ho (Dw (Cm hd _));have hd2:=Cm hd (·.setIfInBounds 0 (Dh ((j+1:Nat):Int)));refine Ad (Dv ho2 hd2 (by simp) (Aj ⟨x.2,rfl,Aj (hQ _ ?_ ((Bt ..).trans (Bt ..)))⟩));exact⟨_,Bz _ ho2 (Dw (Cm hd2 _)),(Fx ..).trans ((Fx ..).trans hc),by
  rw[Cm hd2];simp[Dh]⟩
theorem zj{k:Nat}{Q:Option Af->Ai->Prop}(hh:A.handled=af)(hb:cW w=ai)(h1:es.size<=1)(hk:es[Ey t.place k]?=af)(hit:SetIt s.heap I (.int (k:Int) 0) i a n ep)(hs:SetTb w s.heap a es ep t)(hn:es.size=n)
  (hQ:∀h',Heap.ExtBut I s.heap h'->Q af {s with heap:=h'}):Az (Bg prog w) A (E7 (.ref I)) Q E s:=by
 obtain⟨o,ho,hc,hd⟩:=id hit;obtain⟨oa,hoa,_,hda⟩:=hs.obj;unfold E7;refine Ad (Ek (B4 (name:=B7 "__next__") hit.typeIs slot_setit_next (Co slot_setit_next hit.typeIs l5 ?_ (lU _))));refine Ad (Aj ?_);refine Ad (G1 ho hd ?_);dsimp only;refine Ad (Ei hoa hda hs.fits ?_);rw[if_neg (by rw[hn];simp)];refine Ad (Hn hb h1 hs ?_);rw[Ck,hk];dsimp only;refine Ad (Dv ho hd (by simp) ?_);refine Ad ?_;simp only[newExc,newTuple];refine Ad (Ce ?_ (by size_fits));refine Ad (m:=Fj _ _) (wpAny_of_eq (a:=Bv) (by first|rfl|(simp only[Fj];rfl)) ?_);refine Ce ?_ (by size_fits);simp only[raiseNew];refine Ad (wpAny_handled ?_)
 first|rw[show A.in1.handled=af from hh]|rw[hh]
 refine Ad (Aj (wpAny_throw ?_));refine Ad (Gh (T:="StopIteration") (b:=ah) ⟨_,Ay _ rfl,rfl⟩ isSubtype_stop ?_);exact Aj (hQ _ (((Bt ..).extBut.push _).push _))
end
section
variable{prog:Bj}{w:Bu}{A:B3}{E:Af->Ai->Prop}{s:Ai}{a:Addr}{ep:Nat}{es:Array (Int×Af)}{t:Fk}
def kh(vs:List (Int×Af))(i:Nat)(v:Af):Prop:=∃e,vs[i]?=ae e/\v=e.2
structure SetWk(prog:Bj)(w:Bu)(sz:Nat)(h':Heap)(a I:Addr)(vs:List (Int×Af)):Prop where
 above:sz<=I
 walk:∃(fp:List Addr)(St:Nat->Heap->Prop),(∀b∈fp,b=a\/sz<=b)/\(∀b∈fp,b < h'.objs.size)/\(∀A:B3,A.handled=af->Walks prog w A I fp [I] vs.length (kh vs) St)/\St 0 h'
theorem Jc{α:Type}{xs:Array α}{j:Nat}{d:α}(h:j < xs.size):xs[j]?=ae (xs.getD j d):=by
 simp[h]
theorem HJ{ys:List Nat}{n:Nat}(hp:ys.Perm (Cs n))(hn:es.size=n):(ys.map λj=>es.getD j (0,Bv)).Perm es.toList:=by
 have h1:=hp.map λj=>es.getD j ((0:Int),Bv);have h2:(Cs n).map (λj=>es.getD j ((0:Int),Bv))=es.toList:=by
  apply List.ext_getElem (by simp[hn]);intro i h1 h2;simp at h2;simp[h2]
 rw[h2]at h1;exact h1
theorem Kx{I T:Addr}{ys:List Nat}{n:Nat}(hne:a≠I)(hTI:T≠I)(hp:ys.Perm (Cs n))(hn:es.size=n)(A:B3)(hh:A.handled=af):
  Walks prog w A I [I,a,T] [I] (ys.map λj=>es.getD j (0,Bv)).length (kh (ys.map λj=>es.getD j (0,Bv)))
   (λi h=>SetIt h I (.ref T) i a n ep/\SetTb w h a es ep t/\h.IsTuple T (ys.map λ(j:Nat)=>Value.int (j:Int) 0).toArray) where
 sub:=λb hb=>by simp at hb;simp[hb]
 frame:=λ_ _ _ st hk=>⟨st.1.move λo e=>hk I (by simp) o e,st.2.1.move λo e=>hk a (by simp) o e,let⟨o,e,r⟩:=st.2.2;⟨o,hk T (by simp) o e,r⟩⟩
 item:=λi s Q E hi st hQ=>by
  rw[Ap]at hi;have hj:ys[i] < es.size:=by rw[hn];exact List.mem_range.mp (hp.mem_iff.mp (Gy hi))
  refine Mt (j:=ys[i]) st.1 st.2.1 hn st.2.2 (by simp[hi]) (Jc (d:=(0,Bv)) hj) λh' hit' hs'=>?_;refine hQ _ h' s.toks ⟨_,by rw[Be,As hi];rfl,rfl⟩ ⟨hit',st.2.1.move λo e=>(hs'.2 a hne).trans e,let⟨o,e,r⟩:=st.2.2;⟨o,(hs'.2 T hTI).trans e,r⟩⟩ λb o hb e=>hs'.extBut b o (λh=>hb (by simp[h])) e
 done:=λs Q E st hQ=>Mn hh st.1 st.2.1 hn st.2.2 (by simp) λh' he'=>hQ h' s.toks λb o hb e=>he' b o (λh=>hb (by simp[h])) e
 self:=λ_ _ _ _ st hQ=>m9 st.1 hQ
theorem Of{I:Addr}{n:Nat}(hb:cW w=ah)(hne:a≠I)(hn:es.size=n)(A:B3)(hh:A.handled=af):
  Walks prog w A I [I,a] [I] (ka w a ep es).toList.length (kh (ka w a ep es).toList) (λi h=>SetIt h I (.int 0 0) i a n ep/\SetTb w h a es ep t) where
 sub:=λb hb=>by simp at hb;simp[hb]
 frame:=λ_ _ _ st hk=>⟨st.1.move λo e=>hk I (by simp) o e,st.2.move λo e=>hk a (by simp) o e⟩
 item:=λi s Q E hi st hQ=>by
  rw[C2]at hi;have hx:(ka w a ep es)[i]?=ae (ka w a ep es)[i]:=Du hi;refine Tx hb st.1 st.2 hn hx λh' hit' hs'=>?_;exact hQ _ h' s.toks ⟨_,by rw[Array.getElem?_toList];exact hx,rfl⟩ ⟨hit',st.2.move λo e=>(hs'.2 a hne).trans e⟩ λb o hb e=>hs'.extBut b o (λh=>hb (by simp[h])) e
 done:=λs Q E st hQ=>O4 hh hb st.1 st.2 hn (by simp) λh' he'=>hQ h' s.toks λb o hb e=>he' b o (λh=>hb (by simp[h])) e
 self:=λ_ _ _ _ st hQ=>m9 st.1 hQ
theorem Jm{I:Addr}(hb:cW w=ai)(hn:es.size=0)(A:B3)(hh:A.handled=af):
  Walks prog w A I [I,a] [I] ([]:List (Int×Af)).length (kh []) (λ_ h=>SetIt h I (.int ((0:Nat):Int) 0) 0 a 0 ep/\SetTb w h a es ep t) where
 sub:=λb hb=>by simp at hb;simp[hb]
 frame:=λ_ _ _ st hk=>⟨st.1.move λo e=>hk I (by simp) o e,st.2.move λo e=>hk a (by simp) o e⟩
 item:=λi s Q E hi st hQ=>by simp at hi
 done:=λs Q E st hQ=>zj (k:=0) hh hb ⋯ (by rw[Array.getElem?_eq_none];omega) st.1 st.2 hn λh' he'=>hQ h' s.toks λb o hb e=>he' b o (λh=>hb (by simp[h])) e
 self:=λ_ _ _ _ st hQ=>m9 st.1 hQ
theorem Ue{I:Addr}{x:Int×Af}{j:Nat}(hb:cW w=ai)(hne:a≠I)(he:es=#[x])(hp:t.place=#[j])(A:B3)(hh:A.handled=af):
  Walks prog w A I [I,a] [I] [x].length (kh [x]) (λi h=>((i=0/\SetIt h I (.int 0 0) 0 a 1 ep)\/(i=1/\SetIt h I (.int ((j+1:Nat):Int) 0) 1 a 1 ep))/\SetTb w h a es ep t) where
 sub:=λb hb=>by simp at hb;simp[hb]
 frame:=λ_ _ _ st hk=>⟨st.1.imp (λz=>⟨z.1,z.2.move λo e=>hk I (by simp) o e⟩) (λz=>⟨z.1,z.2.move λo e=>hk I (by simp) o e⟩),st.2.move λo e=>hk a (by simp) o e⟩
 item:=λi s Q E hi st hQ=>by
  have hi0:i=0:=by simpa using hi
  subst hi0;rcases st.1 with⟨_,z⟩|⟨z,_⟩
  ·refine TU hb hp he z st.2 λh' hit' hs'=>?_;exact hQ _ h' s.toks ⟨x,rfl,rfl⟩ ⟨.inr ⟨rfl,hit'⟩,st.2.move λo e=>(hs'.2 a hne).trans e⟩ λb o hb e=>hs'.extBut b o (λh=>hb (by simp[h])) e
  ·cases z
 done:=λs Q E st hQ=>by
  rcases st.1 with⟨z,_⟩|⟨_,z⟩
  ·cases z
  ·refine zj (k:=j+1) hh hb (by rw[he];exact Av 1) ?_ z st.2 (by rw[he];rfl) λh' he'=>hQ h' s.toks λb o hb e=>he' b o (λh=>hb (by simp[h])) e;rw[hp,GR.2,he];rfl
 self:=λi s Q E st hQ=>by
  rcases st.1 with⟨_,z⟩|⟨_,z⟩
  ·exact m9 z hQ
  ·exact m9 z hQ
theorem O1{Q:Af->Ai->Prop}(hs:SetTb w s.heap a es ep t)(h64:es.size < 64)
  (h:∀(h':Heap)(dr:Drawn)(I:Addr)(vs:List (Int×Af)),vs.Perm es.toList->(∀b o,s.heap.get? b=ae o->h'.get? b=ae o)->SetWk prog w s.heap.objs.size h' a I vs->Q (.ref I) {s with heap:=h',drawn:=dr}):
  Az (Bg prog w) A (pyIter (.ref a)) Q E s:=by
 obtain⟨oa,hoa,hex,hda⟩:=hs.obj;have hlt:=hs.lt;refine wpAny_pyIter_slot hs.typeIs F.slot_set_iter (Co F.slot_set_iter hs.typeIs IX ?_ (F.args_set_iter_1 _));refine Ad (Aj ?_);refine Ad (Ad (Ei hoa hda hs.fits (Aj ?_)));refine Ad ?_;unfold setDrawn;refine Ad (Fz hoa hda hs.fits ?_);dsimp only;refine Ad (qo ?_);refine Aj ?_
 split
 ·rename_i hd;refine Ad (yE es.size (Cs es.size) s (by simp) λys dr hp=>?_);have hly:ys.length=es.size:=by rw[hp.length_eq,List.length_range]
  refine Ad (wpAny_newTuple ?_ (by rw[Ap,hly,El];omega));have hoa1:=Ae ({cls:=.type "tuple",data:=.seq (ys.map λ(i:Nat)=>Dh i).toArray}:Obj) hoa;refine Ad (wpAny_setEpoch_of hoa1 hda hs.fits ?_);refine Ad (Ce (Aj ⟨_,rfl,"set_iterator",_,⟨_,Ay _ rfl,rfl⟩,slot_setit_next.lookup,?_⟩));have hT:(s.heap.push ({cls:=.type "tuple",data:=.seq (ys.map λ(i:Nat)=>Dh i).toArray}:Obj)).get? s.heap.objs.size=ae {cls:=.type "tuple",data:=.seq (ys.map λ(i:Nat)=>Dh i).toArray}:=Ay _ rfl;refine h _ dr _ (ys.map λj=>es.getD j (0,Bv)) (HJ hp rfl) (λb o e=>Ae _ (Ae _ e)) ⟨by rw[Ct];exact Gr _,[_,a,s.heap.objs.size],_,λb hb=>?_,λb hb=>?_,λA hh=>Kx (t:=t) (ep:=ep) (T:=s.heap.objs.size) (by rw[Ct];exact Bf (Dr hlt)) (by rw[Ct];exact Bf (G4 _)) hp rfl A hh,⟨⟨_,Ay _ rfl,rfl,rfl⟩,hs.move λo e=>Ae _ (Ae _ e),⟨_,Ae _ hT,rfl,_,rfl⟩⟩⟩
  ·simp only[A5,A9,or_false]at hb;rcases hb with rfl|rfl|rfl
   ·rw[Ct];exact .inr (Gr _)
   ·exact .inl rfl
   ·exact .inr (Av _)
  ·simp only[A5,A9,or_false]at hb;rw[Ct,Ct];rcases hb with rfl|rfl|rfl
   ·rw[Ct];exact G4 _
   ·exact Dr (Dr hlt)
   ·exact Dr (G4 _)
 ·rename_i hd;refine Ad (Aj ?_);refine Ad (wpAny_setEpoch_of hoa hda hs.fits ?_);refine Ad (Ce (Aj ⟨_,rfl,"set_iterator",_,⟨_,Ay _ rfl,rfl⟩,slot_setit_next.lookup,?_⟩));have hit:SetIt (s.heap.push {cls:=.type "set_iterator",data:=.fields #[Dh 0,Dh 0,.ref a,Dh es.size,Dh ep]}) s.heap.objs.size (.int 0 0) 0 a es.size ep:=⟨_,Ay _ rfl,rfl,rfl⟩;have hst:SetTb w (s.heap.push {cls:=.type "set_iterator",data:=.fields #[Dh 0,Dh 0,.ref a,Dh es.size,Dh ep]}) a es ep t:=hs.move λo e=>Ae _ e;have kp:∀b o,s.heap.get? b=ae o->(s.heap.push {cls:=.type "set_iterator",data:=.fields #[Dh 0,Dh 0,.ref a,Dh es.size,Dh ep]}).get? b=ae o:=λb o e=>Ae _ e;have f1:∀b∈[s.heap.objs.size,a],b=a\/s.heap.objs.size<=b:=λb hb=>by
   simp only[A5,A9,or_false]at hb;rcases hb with rfl|rfl
   ·exact .inr (Av _)
   ·exact .inl rfl
  have f2:∀b∈[s.heap.objs.size,a],b < (s.heap.push {cls:=.type "set_iterator",data:=.fields #[Dh 0,Dh 0,.ref a,Dh es.size,Dh ep]}).objs.size:=λb hb=>by
   simp only[A5,A9,or_false]at hb;rw[Ct];rcases hb with rfl|rfl
   ·exact G4 _
   ·exact Dr hlt
  have hne:a≠s.heap.objs.size:=Bf hlt;cases hb:cW w with
  |true=>exact h _ s.drawn _ (ka w a ep es).toList (NC _ _) kp ⟨Av _,[s.heap.objs.size,a],_,f1,f2,λA hh=>Of (t:=t) hb hne rfl A hh,⟨hit,hst⟩⟩
  |false=>
   have hd0:¬((!cW w&&(!t.plain&&decide (es.size > 1)))=ah):=hd;have hd':(!cW w&&(!t.plain&&decide (es.size > 1)))=ai:=by simpa using hd0
   have h1:es.size<=1:=by
    rw[hb]at hd';by_cases hz:es.size<=1
    ·exact hz
    ·have hg:decide (es.size > 1)=ah:=decide_eq_true ⋯;rw[hg]at hd';have hpl:t.plain=ah:=by simpa using hd'
     have:=hs.plain hpl;omega
   by_cases h0:es.size=0
   ·have e0:es.toList=[]:=D2 (by simpa using h0);refine h _ s.drawn _ [] (by rw[e0]) kp ⟨Av _,[s.heap.objs.size,a],_,f1,f2,λA hh=>Jm (t:=t) (ep:=ep) hb h0 A hh,⟨?_,hst⟩⟩;rw[h0]at hit ⊢;exact hit
   ·have h1':es.size=1:=by omega
    obtain⟨x,hx⟩:∃x,es=#[x]:=by
     have:es.toList.length=1:=by simpa using h1'
     obtain⟨x,hx⟩:=List.length_eq_one_iff.mp this;exact⟨x,Array.toList_inj.mp hx⟩
    have hps:t.place.size=1:=by
     have:=hs.fits;simp only[SetTable.fits,Cy,beq_iff_eq]at this;rw[this.1,h1']
    obtain⟨j,hj⟩:∃j,t.place=#[j]:=by
     have:t.place.toList.length=1:=by simpa using hps
     obtain⟨x,hx⟩:=List.length_eq_one_iff.mp this;exact⟨x,Array.toList_inj.mp hx⟩
    refine h _ s.drawn _ [x] (by rw[hx]) kp ⟨Av _,[s.heap.objs.size,a],_,f1,f2,λA hh=>Ue (t:=t) (ep:=ep) hb hne hx hj A hh,⟨.inl ⟨rfl,?_⟩,hst⟩⟩;rw[h1']at hit ⊢;exact hit
end
theorem RK:entryFor table "proto.collect"=ae D9.«proto.collect»:=entryFor_of_tree (by kernel_rfl)
theorem S3:entryFor table "list.__iadd__"=ae D9.«list.__iadd__»:=entryFor_of_tree (by kernel_rfl)
section
variable{prog:Bj}{w:Bu}{A:B3}{E:Af->Ai->Prop}{s:Ai}{a:Addr}{ep:Nat}{es:Array (Int×Af)}{t:Fk}
theorem IJ{Q:Bool->Ai->Prop}(hT:s.TypeIs (.ref a) "set")(h:Q ai s):Az (Bg prog w) A (Builtin.List.listLengthHint (.ref a)) Q E s:=by
 unfold Builtin.List.listLengthHint;refine Ad (wpAny_specialOf hT F.slot_set_len.lookup ?_);generalize hid:("set.__len__":String)=id0
 wp_delta
 rw[show splitId id0=ae ("set","__len__")from by subst hid;decide +kernel];subst hid;refine Ad (Gh (T:="set") (b:=ah) hT (by rw[Gc];kernel_rfl) ?_);refine wpAny_ite_split (λhab=>absurd hab ∎) (λ_=>?_);refine wpAny_ite_split (λ_=>?_) (λhab=>absurd ∅ hab);refine Ad (Gz hT ?_);exact Aj h
theorem To{R:Result->Ai->Prop}(hh:A.handled=af)(hs:SetTb w s.heap a es ep t)(h64:es.size < 64)(S:Addr)(hSa:S≠a)(res:Af)(hS:s.heap.get? S=ae {cls:=.type "list",data:=.seq #[]})
  (hR:∀h' tk dr (vs:List (Int×Af)) acc c,vs.Perm es.toList->(∀b o,b≠S->s.heap.get? b=ae o->h'.get? b=ae o)->h'.get? S=ae {cls:=.type "list",dict:=af,data:=.seq acc c,slots:=#[]}->ItemsOf (kh vs) acc vs.length->R (.ok (.ret res)) {s with heap:=h',toks:=tk,drawn:=dr}):
  Az (Bg prog w) A.in1 (D3 (.ref S) (.ref a) res)
   (λfin s'=>match fin with|.done f=>R (.ok f) s'|.again c'=>c'.quiet=ah/\codeAny (Bg prog w) A c' R s') (λe s'=>R (.error e) s') s:=by
 unfold D3;refine Ad (Gz (T:="set") hs.typeIs ?_);have h1:G8 (.ref S) (.ref a)=ai:=by simp[G8,hSa]
 have h2:(Dn "set"==Dn "list")=ai:=by decide
 have h3:(Dn "set"==Dn "tuple")=ai:=by decide
 simp only[h1,h2,h3,Bool.or_false,Cb,if_false];refine Ad (O1 (A:=A.in1) hs h64 λh' dr I vs hp hk hw=>?_);obtain⟨hI,fp,St,hf1,hf2,W,st⟩:=hw;have hSlt:S < s.heap.objs.size:=Ar hS;have hSf:S∉fp:=λhm=>(hf1 S hm).elim hSa λz=>Fs _ (Bn hSlt z);have hS1:=hk S _ hS;have hlen:vs.length=es.size:=by rw[hp.length_eq,C2]
 have key:∀(h:Heap)(c₁ tk:Nat),St 0 h->(∀b o,b≠S->s.heap.get? b=ae o->h.get? b=ae o)->
   h.get? S=ae {cls:=.type "list",data:=.seq #[] c₁}->codeAny (Bg prog w) A (.builtin "list.extend.loop" ⟨[.ref S,.ref I,res],[]⟩) R {s with heap:=h,toks:=tk,drawn:=dr}:=by
  intro h c₁ tk hst hk2 hS₁;refine codeAny_extend_loopS (W A.in1 hh).toS (by rw[hlen,El];omega) S hSf res vs.length 0 _ #[] c₁ rfl (Bx _) hst hS₁ (ItemsOf.nil _) λs' acc' c' hm hS' hacc=>?_;rw[Moved.eq_with hm];refine hR s'.heap s'.toks dr vs acc' c' hp (λb o hb e=>hm.heap b o (λhmem=>?_) (hk2 b o hb e)) hS' hacc;rcases A5.mp hmem with e'|hmem
  ·exact hb e'
  ·have hbI:=A6.mp hmem;exact absurd (Ar e) (by rw[hbI];exact Nat.not_lt.mpr hI)
 refine Ad (Dd (IJ (s:={ s with heap:=h',drawn:=dr}) (hs.move λo e=>hk a o e).typeIs ?_));refine wpAny_ite_split (λ_=>?_) (λ_=>Aj ⟨plainId_quiet PySem.F.plain_extend_loop _,key _ 0 _ st (λb o _ e=>hk b o e) hS1⟩);refine Ad (Ha ?_);refine Ad ?_;show Az _ _ (updateSeq S (·.push .none)>>=λ_=>updateSeq S (·.pop)) _ _ _;refine Ad (wpAny_updateSeq hS1 rfl ?_);have hS₂:=Bz (Da (·.push Bv)) hS1 rfl;refine wpAny_updateSeq (hz:=by seq_fits) hS₂ rfl ?_;have hS₃:=Bz (Da (·.pop)) hS₂ rfl;refine Aj ⟨plainId_quiet PySem.F.plain_extend_loop _,key _ _ _ ?_ (λb o hb e=>?_) hS₃⟩
 ·refine(W A hh).frame 0 _ _ st λb hb o e=>?_;have hbS:b≠S:=λh=>hSf (h▸hb);exact(Dq _ _ (Ne.symm hbS)).trans ((Dq _ _ (Ne.symm hbS)).trans e)
 ·exact(Dq _ _ (Ne.symm hb)).trans ((Dq _ _ (Ne.symm hb)).trans (hk b o e))
theorem yv{vs:List (Int×Af)}{acc:Array Af}(h:ItemsOf (kh vs) acc vs.length):acc.toList=vs.map (·.2):=by
 apply List.ext_getElem?;intro i;by_cases hi:i < vs.length
 ·have hi2:i < acc.size:=by rw[h.1];exact hi
  obtain⟨e,e1,e2⟩:=h.2 i acc[i] (Du hi2);rw[Be,e1,Array.getElem?_toList,Du hi2,e2];rfl
 ·rw[Fu (by rw[C2,h.1];omega),Fu (by rw[Ap];omega)]
theorem JJ{R:List Af->Ai->Prop}(hh:A.handled=af)(hs:SetTb w s.heap a es ep t)(h64:es.size < 64)
  (h:∀(h':Heap)(tk:Nat)(dr:Drawn)(vs:List (Int×Af)),vs.Perm es.toList->(∀b o,s.heap.get? b=ae o->h'.get? b=ae o)->R (vs.map (·.2)) {s with heap:=h',toks:=tk,drawn:=dr}):
  Az (Bg prog w) A (collect (.ref a)) R E s:=by
 unfold collect;refine Ad (wpAny_runValue (Gt RK ?_));rw[Fy PySem.F.plain_proto_collect _];show Az _ A.in1 (newList []>>=λl=>again (.builtin "list.__iadd__" ⟨[l,.ref a],[]⟩)) _ _ s;refine Ad (Ce ?_);refine Aj ⟨plainId_quiet PySem.F.plain_list_iadd _,Gt S3 ?_⟩;rw[Fy PySem.F.plain_list_iadd _];have hS₁:(s.heap.push {cls:=.type "list",data:=.seq ([]:List Af).toArray}).get? s.heap.objs.size=ae {cls:=.type "list",data:=.seq #[]}:=Ay _ rfl;show Az _ A.in1 (D3 (.ref s.heap.objs.size) (.ref a) (.ref s.heap.objs.size)) _ _ _;have key:=To (prog:=prog) (A:=A) (s:={ s with heap:=s.heap.push {cls:=.type "list",data:=.seq ([]:List Af).toArray}})
  (R:=λ(q:Result)(s':Ai)=>∃(h':Heap)(tk:Nat)(dr:Drawn)(vs:List (Int×Af))(acc':Array Af)(c':Nat),q=.ok (.ret (.ref s.heap.objs.size))/\s'={ s with heap:=h',toks:=tk,drawn:=dr}/\vs.Perm es.toList /\
   (∀b o,s.heap.get? b=ae o->h'.get? b=ae o)/\h'.get? s.heap.objs.size=ae {cls:=.type "list",dict:=af,data:=.seq acc' c',slots:=#[]}/\ItemsOf (kh vs) acc' vs.length)
  hh (hs.move λo e=>Ae _ e) h64 s.heap.objs.size (D0 hs.lt) (.ref s.heap.objs.size) hS₁
  (λh' tk dr vs acc' c' hp hk hS' hacc=>⟨h',tk,dr,vs,acc',c',rfl,rfl,hp,λb o e=>hk b o (Bf (Ar e)) (Ae _ e),hS',hacc⟩)
 refine Cq key (λfin s' x=>?_) λe s' x=>?_
 ·cases fin with
  |done f=>
   obtain⟨h',tk,dr,vs,acc',c',e,rfl,hp,hk,hS',hacc⟩:=x;cases e;show Az _ A (load s.heap.objs.size>>=_) _ _ _;refine Ad (wpAny_load hS' ?_);refine Aj ?_;rw[yv hacc];exact h h' tk dr vs hp hk
  |again c₁=>
   refine⟨x.1,Gi x.2 λq s₂ y=>?_⟩;obtain⟨h',tk,dr,vs,acc',c',rfl,rfl,hp,hk,hS',hacc⟩:=y;show Az _ A (load s.heap.objs.size>>=_) _ _ _;refine Ad (wpAny_load hS' ?_);refine Aj ?_;rw[yv hacc];exact h h' tk dr vs hp hk
 ·obtain⟨_,_,_,_,_,_,z,_⟩:=x;cases z
end
def d0(w:Bu):Obj:={ cls:=.type "set",dict:=af,data:=.set #[] 0 (.fresh 0 0 (!cW w))}
section
variable{prog:Bj}{w:Bu}{A:B3}{E:Af->Ai->Prop}{s:Ai}
theorem KU{h:Heap}{a:Addr}(e:h.get? a=ae (d0 w)):iF w h a []:=
 ⟨#[],0,.fresh 0 0 (!cW w),⟨⟨_,e,⟨rfl,rfl,rfl⟩,rfl⟩,rfl,rfl,λ_=>rfl⟩,λe he=>by simp at he,List.Pairwise.nil,λk=>by simp[cw],Av _⟩
theorem PN(a:Af){Q₁:Af->Ai->Prop}(h:Q₁ (.ref s.heap.objs.size) {s with heap:=s.heap.push (d0 w)}):
  codeAny (Bg prog w) A (.call (.builtin "set.__new__") ⟨[.type "set",a],[]⟩) (wants Q₁ E) s:=by
 refine codeAny_of_tree ?_;show Az _ A.in1 (do checkBuiltinCall "set.__new__" ⟨[.type "set",a],[]⟩;again (.builtin "set.__new__" ⟨[.type "set",a],[]⟩)) _ _ s;refine Ad (wpAny_of_eq (F.newCall_set_1 a) (Aj ⟨plainId_quiet F.plain_set_new _,Gt F.entry_set_new ?_⟩));rw[Fy F.plain_set_new _];unfold D9.«set.__new__» Builtin.Frozenset.newClass;have hsub:=sub_set_self;obtain⟨hp,g,d,tk,os⟩:=s;dsimp only
 wp_walk
 refine wpAny_askSetting (Aj ?_);dsimp only;simp only[newObj];exact Ad (wpAny_alloc (Aj (Aj h)))
structure TxSrc(prog:Bj)(w:Bu)(T:String)(x:Addr)(ks:List Str)(OK:Heap->Prop):Prop where
 type:∀s:Ai,OK s.heap->s.TypeIs (.ref x) T
 there:∀h:Heap,OK h->x < h.objs.size
 keep:∀h h':Heap,OK h->(∀o,h.get? x=ae o->h'.get? x=ae o)->OK h'
 notSet:isSubtype (.type T) (.type "set")=pure ai
 notFrozen:isSubtype (.type T) (.type "frozenset")=pure ai
 notDict:(Dn T==Dn "dict")=ai
 iter:∀s:Ai,OK s.heap->∃(oI:Obj)(St:Nat->Heap->Prop),
  (∀(A:B3)(E:Af->Ai->Prop)(Q:Af->Ai->Prop),Q (.ref s.heap.objs.size) {s with heap:=s.heap.push oI}->Az (Bg prog w) A (pyIter (.ref x)) Q E s) /\
  (∀A:B3,A.handled=af->Walks prog w A s.heap.objs.size [s.heap.objs.size,x] [s.heap.objs.size] ks.length (iM ks) St)/\St 0 (s.heap.push oI)
set_option maxHeartbeats 3200000 in
theorem FO{T:String}{x:Addr}{ks:List Str}{OK:Heap->Prop}{Q:Af->Ai->Prop}(K:TxSrc prog w T x ks OK)(hh:A.handled=af)(hok:OK s.heap)(h64:ks.length < 64)
  (h:∀(h':Heap)(tk:Nat),iF w h' s.heap.objs.size ks->(∀b o,b < s.heap.objs.size->s.heap.get? b=ae o->h'.get? b=ae o)->Q (.ref s.heap.objs.size) {s with heap:=h',toks:=tk}):
  Az (Bg prog w) A (call (.type "set") [.ref x]) Q E s:=by
 obtain⟨c,tl,hmro⟩:=F.called_set.mro;have hmade:=F.called_set.made;have hsub:=F.called_set.sub;refine wpAny_call (codeAny_of_tree ?_);show Az _ _ (callAny (.type "set") _) _ _ _;refine Aj ⟨Code.quiet_builtin _ ∅,Gt F.entry_type_call ?_⟩;rw[Around.under_plain (weight_type_call_type "set" [.ref x] []) rfl];have h1:=F.called_set.notType;have h2:=F.called_set.canCreate;have hct:=F.typeCall_set_1 (.ref x)
 repeat (any_goals (first|assumption|wp_step))
 refine Gi (PN (.ref x) (E:=E) (Q₁:=λobj s₁=>obj=.ref s.heap.objs.size/\s₁={ s with heap:=s.heap.push (d0 w)}) ⟨rfl,rfl⟩) λr s₁ hr=>?_;cases r with
 |error e=>exact hr
 |ok fl=>
  cases fl with
  |ret obj=>
   obtain⟨rfl,rfl⟩:=hr;have hS:(s.heap.push (d0 w)).get? s.heap.objs.size=ae (d0 w):=Ay _ rfl;have hT:Shared.TypeIs {s with heap:=s.heap.push (d0 w)} (.ref s.heap.objs.size) "set":=⟨_,hS,rfl⟩;have hli:=F.called_set.init.lookup;have hbi:=F.called_set.init.bind (.ref s.heap.objs.size)
   repeat (any_goals (first|assumption|wp_step))
   refine Gi (Gd (R:=wants (λr s₂=>r=.none/\∃h' tk,s₂={ s with heap:=h',toks:=tk}/\iF w h' s.heap.objs.size ks /\
     (∀b o,b < s.heap.objs.size->s.heap.get? b=ae o->h'.get? b=ae o)) E) F.called_set.init.plain F.entry_set_init (check_set_init_1 hT ?_)) λr₂ s₂ hr₂=>?_
   ·have hok1:OK (s.heap.push (d0 w)):=K.keep _ _ hok λo e=>Ae _ e;have hTx:Shared.TypeIs {s with heap:=s.heap.push (d0 w)} (.ref x) T:=K.type {s with heap:=s.heap.push (d0 w)} hok1;have hsls:=K.notSet;have hslf:=K.notFrozen;have hne:=K.notDict;unfold D9.«set.__init__» noKeywords Builtin.Frozenset.updateFrom;generalize hPI:pyIter=PI
    wp_walk
    subst hPI;have hh3:A.in1.in1.in1.handled=af:=by simp[hh]
    obtain⟨oI,St,hit,W,st⟩:=K.iter {s with heap:=s.heap.push (d0 w)} hok1;refine hit _ _ _ ?_;refine Ad (wpAny_runValue ?_);have hxS:x < s.heap.objs.size:=K.there _ hok;have hSf:s.heap.objs.size∉[(s.heap.push (d0 w)).objs.size,x]:=by
     rw[Ct];simp only[A5,A6,A9,or_false,not_or];exact⟨Bf (G4 _),D0 hxS⟩
    refine Nq (W _ hh3).toS s.heap.objs.size hSf rfl h64 (ks.length-0) 0 _ ⋯ (Bx _) st (KU (Ae _ hS)) ?_;intro s' hm hS';obtain⟨h',g',d',tk',os'⟩:=s';have eg:g'=s.gens:=hm.gens;have ed:d'=s.drawn:=hm.drawn;have eo:os'=s.os:=hm.os;subst eg;subst ed;subst eo;show Az _ _ _ _ _ _;refine Aj ?_;show Az _ _ (ret Bv) _ _ _;refine Aj ⟨rfl,h',tk',rfl,hS',λb o hb e=>?_⟩;have hb1:b≠s.heap.objs.size:=Bf hb;have hb2:b≠(s.heap.push (d0 w)).objs.size:=by
     rw[Ct];exact Bf (Dr hb)
    exact hm.heap b o (by simp only[A5,A6,A9,or_false,not_or];exact⟨hb1,hb2⟩) (Ae _ (Ae _ e))
   ·cases r₂ with
    |error e=>exact hr₂
    |ok fl₂=>
     cases fl₂ with
     |ret r=>
      obtain⟨rfl,h',tk,rfl,hS',hk'⟩:=hr₂
      repeat (any_goals (first|assumption|wp_step))
      exact h _ _ hS' hk'
     |_=>exact hr₂.elim
  |_=>exact hr.elim
theorem Im{x:Addr}{ks:List Str}{items:Array Af}(hk:∀i v,items[i]?=ae v->iM ks i v)(hl:items.size=ks.length):TxSrc prog w "list" x ks (λh=>h.IsList x items) where
 type:=λs h=>h.typeIs
 there:=λh hl=>let⟨_,e,_⟩:=hl;Ar e
 keep:=λh h' hl k=>let⟨o,e,r⟩:=hl;⟨o,k o e,r⟩
 notSet:=by rw[Gc];kernel_rfl
 notFrozen:=by rw[Gc];kernel_rfl
 notDict:=by decide
 iter:=λs hok=>⟨_,(λi h=>h.IsListIter s.heap.objs.size x i/\h.IsList x items),(λA E Q hq=>wpAny_pyIter_list hok hq),(λA hh=>by
  have W:=Walks.list (prog:=prog) (w:=w) hh s.heap.objs.size x (Bf (let⟨_,e,_⟩:=hok;Ar e)) items;refine⟨W.sub,W.frame,λi s Q E hi st hQ=>W.item i s Q E (by rw[hl];exact hi) st λv h' tk hv a b=>hQ v h' tk (hk i v hv) a b,?_,W.self⟩;rw[<-hl];exact W.done),⟨⟨_,Ay _ rfl,rfl,rfl⟩,hok.push _⟩⟩
theorem Og{x:Addr}{ks:List Str}{items:Array Af}(hk:∀i v,items[i]?=ae v->iM ks i v)(hl:items.size=ks.length):TxSrc prog w "tuple" x ks (λh=>h.IsTuple x items) where
 type:=λs h=>h.typeIs
 there:=λh hl=>let⟨_,e,_⟩:=hl;Ar e
 keep:=λh h' hl k=>let⟨o,e,r⟩:=hl;⟨o,k o e,r⟩
 notSet:=by rw[Gc];kernel_rfl
 notFrozen:=by rw[Gc];kernel_rfl
 notDict:=by decide
 iter:=λs hok=>⟨_,(λi h=>h.IsTupleIter s.heap.objs.size x i/\h.IsTuple x items),(λA E Q hq=>Er hok hq),(λA hh=>by
  have W:=Walks.tuple (prog:=prog) (w:=w) hh s.heap.objs.size x (Bf (let⟨_,e,_⟩:=hok;Ar e)) items;refine⟨W.sub,W.frame,λi s Q E hi st hQ=>W.item i s Q E (by rw[hl];exact hi) st λv h' tk hv a b=>hQ v h' tk (hk i v hv) a b,?_,W.self⟩;rw[<-hl];exact W.done),⟨⟨_,Ay _ rfl,rfl,rfl⟩,hok.push _⟩⟩
end
def iI(w:Bu)(v:Addr)(ks:List Str):HO:=.ext λh=>iF w h v ks
def tS(w:Bu):List V->Hp->VK->Prop:=λxs H Q=>∃(a:Addr)(ks:List Str),xs=[.ref a]/\(H a=ae (.lst (ks.map V.str))\/H a=ae (.tup (ks.map V.str)))/\ks.length < 64/\∀v,H v=af->Q (.ref v) (upd H v (iI w v ks))
theorem BD{ks:List Str}{vs:List Af}(h:Vals (ks.map V.str) vs)(i:Nat)(v:Af)(e:vs.toArray[i]?=ae v):iM ks i v:=by
 have e':vs[i]?=ae v:=by simpa using e
 have hl:=h.length;rw[Ap]at hl;have hi:i < ks.length:=by rw[hl];exact(Bs.mp e').1
 obtain⟨u,hu,ru⟩:=h.get (show(ks.map V.str)[i]?=ae (V.str ks[i]) by rw[Be,As hi];rfl);rw[e']at hu;cases hu;obtain⟨t,ht⟩:=ru;exact⟨ks[i],t,As hi,ht⟩
theorem xM{ks:List Str}{vs:List Af}(h:Vals (ks.map V.str) vs):vs.toArray.size=ks.length:=by
 have hl:=h.length;rw[Ap]at hl;rw[Aw,<-hl]
theorem J4{X:Cx}(hh:X.A.handled=af):CallR X (.type "set") (tS X.w):=by
 intro pins s σ H xs us Q I r h;obtain⟨a,ks,rfl,ha,h64,q⟩:=h;obtain⟨u,rfl,ru⟩:=iO r;cases(show u=Bq a from ru);have fin:∀(h':Heap)(tk:Nat),iF X.w h' s.heap.objs.size ks->(∀b o,b < s.heap.objs.size->s.heap.get? b=ae o->h'.get? b=ae o)->EP X pins σ Q (.ref s.heap.objs.size) {s with heap:=h',toks:=tk}:=λh' tk hS hk=>by
  have hob:∃o,h'.get? s.heap.objs.size=ae o:=by
   obtain⟨es,ep,t,T,_⟩:=hS;obtain⟨o,e,_⟩:=T.obj;exact⟨o,e⟩
  refine⟨.ref s.heap.objs.size,_,I.laid (t':=tk) (o:=iI X.w s.heap.objs.size ks) (λb o e=>hk b o (Ar e) e) (Av _) ⟨hS,hob,λh1 h2 q k=>?_⟩,rfl,q _ (I.hok.fresh (Av _))⟩;obtain⟨es,ep,t,T,r⟩:=q;exact⟨es,ep,t,T.move λo e=>k _ e,r⟩
 rcases ha with ha|ha
 ·obtain⟨hl,vs,c,hv,hL⟩:=I.hok a _ ha;exact FO (Im (BD hv) (xM hv)) hh ⟨_,hL,rfl,_,rfl⟩ h64 fin
 ·obtain⟨hl,vs,hv,o,ho,hc,⟨n,hd⟩,_⟩:=I.hok a _ ha;exact FO (Og (BD hv) (xM hv)) hh ⟨o,ho,hc,n,hd⟩ h64 fin
theorem Inv.drew{X:Cx}{pins:List (Addr×Obj)}{σ:St}{H:Hp}{s:Ai}(I:Inv X pins σ H s)(dr:Drawn):Inv X pins σ H {s with drawn:=dr}:=⟨I.ok,I.os,I.bare,I.base,I.loc,I.cell,I.free,I.freeC,I.pin,I.hok,I.len⟩
theorem LH{X:Cx}{pins:List (Addr×Obj)}{σ:St}{H:Hp}{s:Ai}{h':Heap}{tk:Nat}{vs:List Af}{ks:List Str}{Q:VK}(I:Inv X pins σ H s)(hkp:∀b o,s.heap.get? b=ae o->h'.get? b=ae o)(hT:jC vs ks)(h64:ks.length < 64)
  (q:∀(D:Addr)(ys:List Str),ys.Perm ks->ys.Pairwise (λa b=>¬b.cps.toList < a.cps.toList)->H D=af->Q (.ref D) (upd H D (.lst (ys.map V.str)))):
  vs.length<=Ao/\Az (Bg X.prog X.w) X.A.in1.in1 (D9.«list.sort» ⟨[.ref h'.objs.size],[]⟩) (λf s2=>f=.done (.ret .none)/\EP X pins σ Q (.ref h'.objs.size) s2) X.xe {s with heap:=h'.push (Dm "list" vs.toArray 0),toks:=tk}:=by
 have hl:=hT.1;refine⟨by rw[hl];exact lX ⋯,?_⟩;have hoL:(h'.push (Dm "list" vs.toArray 0)).get? h'.objs.size=ae (Dm "list" vs.toArray 0):=Ay _ rfl;have hs':∀b o,s.heap.get? b=ae o->b≠h'.objs.size:=λb o e=>Bf (Ar (hkp b o e));have fin:∀(idx:List Nat)(h3:Heap)(c:Nat),idx.Perm (Cs ks.length)->(idx.map λi=>ks.getD i ⟨#[]⟩).Pairwise (λa b=>¬b.cps.toList < a.cps.toList)->
   (∀b o,b≠h'.objs.size->(h'.push (Dm "list" vs.toArray 0)).get? b=ae o->h3.get? b=ae o)->h3.get? h'.objs.size=ae (Dm "list" (Dp (idx.map λi=>vs.getD i Bv)) c)->EP X pins σ Q (.ref h'.objs.size) {s with heap:=h3,toks:=tk}:=λidx h3 c hp hw k3 hL=>by
  have I1:Inv X pins σ H {s with heap:=h',toks:=tk}:=I.kept hkp;have hn:H h'.objs.size=af:=I1.hok.fresh (Av _);refine⟨.ref h'.objs.size,_,I1.laid (t':=tk) (h':=h3) (o:=.lst ((idx.map λi=>ks.getD i ⟨#[]⟩).map V.str)) (λb o e=>k3 b o (Bf (Ar e)) (Ae _ e)) (Av _) ⟨?_,_,c,xD hT idx (λi hi=>List.mem_range.mp (hp.mem_iff.mp hi)),hL⟩,rfl,q _ _ (Ub hp) hw hn⟩;rw[Ap,Ap,hp.length_eq,List.length_range];exact lX ⋯
 by_cases h2:2<=vs.length
 ·refine KS.ls_sort (s:={ s with heap:=h'.push (Dm "list" vs.toArray 0),toks:=tk}) hoL h2 ⋯ λe1 h4 ha4 k4=>?_;refine kas_kind (s:={ s with heap:=h4,toks:=tk}) (T:=Dn "str") h2 (λf hf=>?_) rfl rfl ?_
  ·obtain⟨j,hj⟩:=List.mem_iff_getElem?.mp hf;obtain⟨k,t,_,rfl⟩:=hT.2 j f hj;exact .now
  ·have hn:0 < vs.length:=by omega
   have hwi:=KS.wi_sort hn;refine KS.wp_run (n:=vs.length) (P:=KS.Pm vs.length) (c:=KS.ltK ks) (St:=λs'=>s'={ s with heap:=h4,toks:=tk}) (λi j C s' hi hj hs hC=>?_) _ _ hwi rfl λs' hs'=>?_
   ·subst hs;obtain⟨k1,t1,a1,a2⟩:=hT.2 i vs[i] (As hi);obtain⟨k2,t2,b1,b2⟩:=hT.2 j vs[j] (As hj);unfold kas_ask;have g1:vs.getD i Bv=.str k1 t1:=by simp[hi,a2]
    have g2:vs.getD j Bv=.str k2 t2:=by simp[hj,b2]
    rw[g1,g2];have c1:ks.getD i ⟨#[]⟩=k1:=by simp[a1]
    have c2:ks.getD j ⟨#[]⟩=k2:=by simp[b1]
    have:=hC _ rfl;unfold KS.ltK at this;rw[c1,c2]at this;exact kas_lt_str this
   ·subst hs';refine⟨ha4,λh3 c sb hL3=>⟨rfl,?_⟩⟩;have hpm:KS.Pm vs.length (KS.run (KS.ltK ks) (kas_sort vs.length)):=KS.Wi.out _ hwi;have hsp:=KS.sort_ok (KS.ordK ks) (n:=vs.length) hn;have hsz:=hpm.size;have hidx:(KS.run (KS.ltK ks) (kas_sort vs.length)).toList.Perm (Cs vs.length):=by
     have:=Array.perm_iff_toList_perm.mp hpm;simpa using this
    refine fin _ h3 c (by rw[<-hl];exact hidx) (Rl hsz hsp) (λb o hb e=>(sb.2 b hb).trans (k4 b o hb e)) hL3
 ·refine KS.ls_short (s:={ s with heap:=h'.push (Dm "list" vs.toArray 0),toks:=tk}) hoL ⋯ λh4 c ha4 k4=>⟨rfl,?_⟩;have el:vs=(Cs ks.length).map λi=>vs.getD i Bv:=by
   apply List.ext_getElem (by simp[hl]);intro i h1 h2;simp[h1]
  have ha5:h4.get? h'.objs.size=ae (Dm "list" (Dp ((Cs ks.length).map λi=>vs.getD i Bv)) c):=by rw[<-el];exact ha4
  refine fin (Cs ks.length) h4 c (List.Perm.refl _) ?_ k4 ha5;have:(Cs ks.length).length<=1:=by simp;omega
  match hr:Cs ks.length,this with
  |[],_=>exact .nil
  |[i],_=>exact List.pairwise_singleton _ _
def uA(w:Bu):List V->Hp->VK->Prop:=λxs H Q=>∃(v:Addr)(ks:List Str),xs=[.ref v]/\H v=ae (iI w v ks)/\ks.length < 64 /\
 ∀(D:Addr)(ys:List Str),ys.Nodup->(∀k,k∈ys↔k∈ks)->ys.Pairwise (λa b=>¬b.cps.toList < a.cps.toList)->H D=af->Q (.ref D) (upd H D (.lst (ys.map V.str)))
theorem Ij{w:Bu}{es vs:List (Int×Af)}(h:∀e∈es,∃k t,e.2=.str k t/\e.1=hashStr w k)(p:vs.Perm es):jC (vs.map (·.2)) (vs.map λe=>gb e.2):=by
 refine⟨by rw[Ap,Ap],λj v hj=>?_⟩;rw[Be]at hj;cases e:vs[j]? with
 |none=>rw[e]at hj;cases hj
 |some x=>
  rw[e]at hj;obtain⟨k,t,e1,_⟩:=h x (p.mem_iff.mp (Et e));have hv:x.2=v:=Bp hj;refine⟨k,t,?_,hv▸e1⟩;rw[Be,e];show ae (gb x.2)=ae k;rw[e1];rfl
theorem HP{X:Cx}(hh:X.A.handled=af):CallR X (.builtin "sorted") (uA X.w):=by
 intro pins s σ H xs us Q I r h;obtain⟨v,ks,rfl,hv,h64,q⟩:=h;obtain⟨u,rfl,ru⟩:=iO r;cases(show u=Bq v from ru);obtain⟨es,ep,t,T,hx,nd,hm,hl⟩:=(I.hok v _ hv).1;have h64':es.size < 64:=Fm hl h64;refine KS.sorted_of (R:=λvs s1=>∃(h':Heap)(tk:Nat)(dr:Drawn)(ys:List Str),s1={ s with heap:=h',toks:=tk,drawn:=dr}/\(∀b o,s.heap.get? b=ae o->h'.get? b=ae o)/\jC vs ys/\ys.Nodup/\(∀k,k∈ys↔k∈ks)/\ys.length < 64)
  (JJ hh T h64' λh' tk dr vs hp hk=>?_) ?_
 ·have pk:(vs.map λe=>gb e.2).Perm (cw es):=List.Perm.map (λe:Int×Af=>gb e.2) hp;exact⟨h',tk,dr,vs.map λe=>gb e.2,rfl,hk,Ij hx hp,pk.nodup_iff.mpr nd,λk=>pk.mem_iff.trans (hm k),by rw[Ap,hp.length_eq,C2];exact h64'⟩
 rintro vs s1 ⟨h',tk,dr,ys,rfl,hkp,hT,nd',hm',h64'⟩
 exact LH (s:={ s with drawn:=dr}) (I.drew dr) hkp hT h64' λD zs hp hw hD=>q D zs (hp.nodup_iff.mpr nd') (λk=>hp.mem_iff.trans (hm' k)) hw hD
end L2
namespace DL
open PySem L2 Nb
section
variable{X:Cx}{o:Expr}{td:TE}{wd':DT}{pos p p2 ip:Pos}{W:Bu}
def Oj(ys:List Str):Prop:=ys.Pairwise λa b=>¬b.cps.toList < a.cps.toList
def mY(w:DT):gv:=λδ n Q=>w δ n λx n1=>∃ks:List Str,(x=.d (.list (ks.map .str))\/x=.d (.tuple (ks.map .str)))/\ks.length < 64/\(∀k∈ks,k.length<=1000) /\
 ∀ys:List Str,ys.Nodup->(∀k,k∈ys↔k∈ks)->Oj ys->Q (ys.map .str) n1
theorem Hy{α:Type}:∀{xs ys:List α},xs.Nodup->(∀x∈xs,x∈ys)->xs.length<=ys.length
 |[],_,_,_=>Bx _
 |x::xs,ys,nd,h=>by
  obtain⟨h1,h2⟩:=Fn.mp nd;obtain⟨l,r,e⟩:=List.append_of_mem (h x Am);have:=Hy (ys:=l++r) h2 λz hz=>by
   have hm:=h z (Al _ hz);rw[e]at hm;rcases Bi.mp hm with q|q
   ·exact Cg _ q
   ·rcases A5.mp q with q|q
    ·exact absurd (q▸hz) h1
    ·exact Bb _ q
  rw[e];simp only[Bd,A0]at this ⊢;omega
theorem vh{H:Hp}{B:Addr->Prop}:∀{xs:List V}{ks:List Str},RdXs H B xs (ks.map .str)->xs=ks.map V.str
 |[],[],_=>rfl
 |_::_,[],h=>nomatch h
 |[],_::_,h=>nomatch h
 |x::xs,k::ks,.cons h t=>by
  cases h;rw[vh t];rfl
theorem LB(hh:X.A.handled=af)(hg:Gl X "sorted")(hm:X.mg "sorted"=af)(hg2:Gl X "set")(hm2:X.mg "set"=af)(ho:DE X o td wd')(hW:X.w=W:=by rfl)(hv:B9 "sorted"=ae (.builtin "sorted"):=by decide +kernel)(hv2:B9 "set"=ae (.type "set"):=by decide +kernel)
  (he2:Au [o] X.env=(ai,eval o X.env)::Au [] X.env:=by rfl) (hpl2:(C5 ip (Au [] X.env)).any (·.1)=ai:=by rfl)
  (he':Au [Expr.Call (.Name "set" p2) [o] [] ip] X.env=(ai,eval (Expr.Call (.Name "set" p2) [o] [] ip) X.env)::Au [] X.env:=by rfl) (hpl:(C5 pos (Au [] X.env)).any (·.1)=ai:=by rfl):
  DF X (.Call (.Name "sorted" p) [.Call (.Name "set" p2) [o] [] ip] [] pos) (iS (uA W) (cE (iS (tS W) (cE td bG)) bG)) (mY wd'):=by
 subst hW;refine⟨l6 (HP hh) hg hm hv (cy (wQ (J4 hh) hg2 hm2 hv2 (cy ho.pe c9 he2) ∎ ∎ he2 hpl2) c9 he') ∎ ∎ he' hpl,λC H B σ δ n Q Q' R q k=>
  ho.sd C H B σ δ n _ _ R q λv x H1 n1 R1 k1 r1 q1=>?_⟩
 obtain⟨ks,hx,h64,hk,kq⟩:=q1;have key:∀a:Addr,v=.ref a->(H1 a=ae (.lst (ks.map V.str))\/H1 a=ae (.tup (ks.map V.str)))->iS (uA X.w) (cE (λσ H Q=>tS X.w [v] H Q) bG) σ H1 Q':=λa ea ha=>by
  subst ea;refine⟨a,ks,rfl,ha,h64,λu hu=>⟨u,ks,rfl,bw,h64,λD ys nd hm hw hD=>?_⟩⟩;have R2:=R1.new (o:=iI X.w u ks) hu;have hD1:H1 D=af:=by
   cases e:H1 D with
   |none=>rfl
   |some ob=>
    have:upd H1 u (iI X.w u ks) D=ae ob:=by rw[aM (bQ e hu)];exact e
    rw[hD]at this;cases this
  have hy:∀y∈ys,y.length<=1000:=λy hy=>hk y ((hm y).mp hy);refine k D _ _ _ n1 (R2.new hD) ((k1.trans (Kp.new hu)).trans (Kp.new hD)) (R1.was k1 hD1) bw ?_ (tG hy) (kq ys nd hm hw);rw[Ap];have:ys.length<=ks.length:=Hy nd λy hy=>(hm y).mp hy;exact lX ⋯
 rcases hx with rfl|rfl
 ·cases(show RdX H1 B v (.list (ks.map .str))from r1)with
  |@lst a xs _ e1 e2 e3 e4=>exact key a rfl (.inl (by rw[e1,vh e4]))
 ·cases(show RdX H1 B v (.tuple (ks.map .str))from r1)with
  |@tup a xs _ e1 e2 e3 e4=>exact key a rfl (.inr (by rw[e1,vh e4]))
variable{a:Expr}{ta:TE}{wa:DT}{K:Ag}
end
section
variable{X:Cx}{a b c e o i f:Expr}{ta tb te td ty tx:TE}{wa wb we wd' wy wx:DT}{pos p:Pos}{K:Ag}
def nj:Wv->Option (List Ah)
 |.ln ds=>ae ds
 |.d (.list ds)=>ae ds
 |.d (.tuple ds)=>ae ds
 |_=>af
theorem OC{H:Hp}{B:Addr->Prop}{t:Addr}{v:V}{x:Wv}{ds:List Ah}(h:WRel H B t v x)(e:nj x=ae ds):∃a xs,v=.ref a/\(SqL K H a xs\/SqT K H a xs)/\xs.length<=Ao/\RdXs H B xs ds:=by
 cases x with
 |ln es=>
  cases e;obtain⟨a,xs,h1,h2,h3,h4,h5⟩:=h;exact⟨a,xs,h1,.inl (SqL.of h2),h4,h5⟩
 |d y=>
  cases y with
  |list es=>
   cases e;cases(show RdX H B v (.list ds)from h)with
   |@lst a xs _ e1 e2 e3 e4=>exact⟨a,xs,rfl,.inl (SqL.of e1),e3,e4⟩
  |tuple es=>
   cases e;cases(show RdX H B v (.tuple ds)from h)with
   |@tup a xs _ e1 e2 e3 e4=>exact⟨a,xs,rfl,.inr (SqT.of e1),e3,e4⟩
  |_=>cases e
 |tp=>cases e
 |dk _=>cases e
 |ob _=>cases e
def qu(w:DT):gv:=λδ n Q=>w δ n λx n1=>match nj x with
 |some ds=>Q ds n1
 |none=>False
theorem Ib(hg:Gl X "list")(hm:X.mg "list"=af)(ho:DE X o td wd')(hK:X.K=K:=by rfl)(he:Au [o] X.env=(ai,eval o X.env)::Au [] X.env:=by rfl)(hpl:(C5 pos (Au [] X.env)).any (·.1)=ai:=by rfl):
  DF X (.Call (.Name "list" p) [o] [] pos) (iS (vV K) (cE td bG)) (qu wd'):=
 ⟨wQ (AS hK) hg hm wV (cy ho.pe c9 he) ∎ ∎ he hpl,λC H B σ δ n Q Q' R q k=>ho.sd C H B σ δ n _ _ R q λv x H1 n1 R1 k1 r1 q1=>by
  split at q1
  ·rename_i ds ex;obtain⟨a,xs,rfl,h1,h2,h3⟩:=OC (K:=K) r1 ex;refine⟨a,xs,rfl,h1,λl hl=>?_⟩;exact k l xs ds _ n1 (R1.new hl) (k1.trans (Kp.new hl)) (R1.was k1 hl) bw h2 (h3.fresh hl) q1
  ·exact q1.elim⟩
theorem O5{n m:Nat}(h:n < 1000000)(h':m < 1000000):n+m<=Ao:=by
 have:2000000<=Ao:=by decide
 omega
end
end DL
namespace L2
open PySem PySem.Spec PyProof.Rows
end L2
namespace DL
open PySem L2 Nb
end DL
namespace HT
open PySem PyProof.Rows
open PySem.SeqAt
open PySem.AutoSeq1 (wpAny_loadPart')
open PySem.MeetsSeq PySem.MeetsSeq2 PySem.MeetsSeq3
section
variable{prog:Bj}{w:Bu}{A:B3}{E:Af->Ai->Prop}{s:Ai}
theorem getItem_tuple_whole{t sl:Addr}{items:Array Af}{vl vu:Af}{lo hi:Option Int}{Q:Af->Ai->Prop}(ht:IsTup s.heap t items)(hs:s.heap.IsSliceOf sl vl vu .none)(pl:IsPart vl lo)(pu:IsPart vu hi)
  (h0:sIx items.size 0 lo=0) (h1:sIx items.size items.size hi=items.size) (h:Q (.ref t) s):Az (Bg prog w) A (getItem (.ref t) (.ref sl)) Q E s:=by
 obtain⟨os,hos,hcs,hds⟩:=id hs;have hTs:s.TypeIs (.ref sl) "slice":=⟨os,hos,hcs⟩;unfold getItem
 try with_reducible refine Dd ?_
 first|refine Ad (Aj ?_)|skip
 refine Ad (wpAny_sequenceKey ht.typeIs ∎ ?_);refine Ad (B4 (name:=B7 "__getitem__") ht.typeIs Ej
  (Co Ej ht.typeIs entry_tuple_getitem ?_ (args_tuple_getitem _ _)))
 show Az _ _ (Gw (.ref t)>>=_) _ _ s;refine Ad (tupleItemsOf_ ht ?_);refine Ad (Gz hTs ?_);rw[if_pos ∎];refine Ad (yF hs pl pu ?_);have hyes:(((sIx items.size 0 lo:Nat):Int)==0&&(1:Int)==1&&(sIx items.size items.size hi-sIx items.size 0 lo)==items.size)=ah:=by
  rw[h0,h1];simp
 show Az _ _ (if (((sIx items.size 0 lo:Nat):Int)==0&&(1:Int)==1&&(sIx items.size items.size hi-sIx items.size 0 lo)==items.size)=ah then _ else _) _ _ s;rw[if_pos hyes];unfold Builtin.Tuple.tupleIsExact;refine Ad (Ad (Gz ht.typeIs (Aj ?_)));rw[if_pos ∎];exact Ad (Ha (Aj ⟨_,rfl,Aj h⟩))
end
end HT
namespace L2
open PySem PySem.Spec PyProof.Rows
def mX(K:Ag):V->Option Int->Option Int->Hp->VK->Prop:=λx lo hi H Q=>∃a xs,x=.ref a/\SqT K H a xs/\HT.sIx xs.length 0 lo=0/\HT.sIx xs.length xs.length hi=xs.length/\Q (.ref a) H
theorem JT{X:Cx}:SlR X (mX X.K):=by
 intro pins s σ H x v vl vu lo hi sl Q I rx hs pl pu h;obtain⟨a,xs,rfl,hx,h0,h1,q⟩:=h;cases rx;obtain⟨its,r,ht,hz⟩:=I.tuple hx;have hlen:its.toArray.size=xs.length:=by rw[Aw];exact r.length.symm
 refine⟨"tuple",_,PyProof.Rows.slot_tuple_getitem.lookup,ht.typeIs,?_⟩;exact HT.getItem_tuple_whole ht hs pl pu (by rw[hlen];exact h0) (by rw[hlen];exact h1) ⟨.ref a,H,I,rfl,q⟩
end L2
namespace DL
open PySem L2 Nb
section
variable{X:Cx}{e:Expr}{te:TE}{we:DT}{pos p2:Pos}{K:Ag}{lo hi:Option Expr}
abbrev j9:=Sl->Int->(Option Int->Int->Prop)->Prop
def d4:j9:=λ_ n Q=>Q af n
def de(w:DT):j9:=λδ n Q=>w δ n λx n1=>match x with
 |.d (.int i)=>Q (ae i) n1
 |_=>False
def HZ(t:TO)(w:j9):Prop:=∀(C:Ctx)(H:Hp)(B:Addr->Prop)(σ:St)(δ:Sl)(n:Int)(Q:Option Int->Int->Prop)(Q':Option Int->Hp->Prop),Rel C H B σ δ n->w δ n Q->
 (∀o H' n',Rel C H' B σ δ n'->Kp C.t H H'->Q o n'->Q' o H')->t σ H Q'
structure DOp(X:Cx)(o:Option Expr)(t:TO)(w:j9):Prop where
 po:PO X o t
 sd:HZ t w
theorem IW:DOp X af wJ d4:=⟨uM,λC H B σ δ n Q Q' R q k=>k af H n R (Kp.refl _ _) q⟩
theorem AR(h:DE X e te we):DOp X (ae e) (uw te) (de we):=⟨uZ h.pe,λC H B σ δ n Q Q' R q k=>h.sd C H B σ δ n _ _ R q λv x H1 n1 R1 k1 r1 q1=>by
 split at q1
 ·rename_i i;cases(show RdX H1 B v (.int i)from r1);exact⟨i,rfl,k (ae i) H1 n1 R1 k1 q1⟩
 ·exact q1.elim⟩
def c6(xs:List Ah)(lo hi:Option Int):List Ah:=(xs.drop (HT.sIx xs.length 0 lo)).take (HT.sIx xs.length xs.length hi-HT.sIx xs.length 0 lo)
def d8(w:DT)(l u:j9):DT:=λδ n Q=>w δ n λx n1=>l δ n1 λa n2=>u δ n2 λb n3=>match x with
 |.d (.tuple ds)=>Q (.d (.tuple (c6 ds a b))) n3
 |_=>False
def sY(K:Ag):V->Option Int->Option Int->Hp->VK->Prop:=λx lo hi H Q=>nG K x lo hi H Q\/mX K x lo hi H Q
theorem Qd{tl th:TO}{wl wh:j9}(he:DE X e te we)(hl:DOp X lo tl wl)(hh:DOp X hi th wh)(hK:X.K=K:=by rfl):DE X (.Subscript e (.Slice lo hi af p2) pos) (pC (sY K) te tl th) (d8 we wl wh):=by
 subst hK;refine⟨qf (sl_tup.or JT) he.pe hl.po hh.po,λC H B σ δ n Q Q' R q k=>he.sd C H B σ δ n _ _ R q λv x H1 n1 R1 k1 r1 q1=>
  hl.sd C H1 B σ δ n1 _ _ R1 q1 λa H2 n2 R2 k2 q2=>hh.sd C H2 B σ δ n2 _ _ R2 q2 λb H3 n3 R3 k3 q3=>?_⟩
 split at q3
 ·rename_i ds;have r3:RdX H3 B v (.tuple ds):=(r1.kp k2 R1.bt).kp k3 R2.bt;cases r3 with
  |@tup aa xs _ e1 e2 e3 e4=>
   have kk:=(k1.trans k2).trans k3;by_cases hw:HT.sIx xs.length 0 a=0/\HT.sIx xs.length xs.length b=xs.length
   ·refine .inr ⟨aa,xs,rfl,SqT.of e1,hw.1,hw.2,k _ _ H3 n3 R3 kk (wd (show RdX H3 B _ (.tuple ds)from .tup e1 e2 e3 e4)) ?_⟩;have:c6 ds a b=ds:=by
     unfold c6;rw[<-e4.len,hw.1,hw.2,List.drop_zero,Nat.sub_zero,e4.len,Gx]
    rw[this]at q3;exact q3
   ·refine .inl ⟨aa,xs,rfl,SqT.of e1,hw,λp hp=>?_⟩;refine k _ _ _ n3 (R3.new hp) (kk.trans (Kp.new hp)) (wd (show RdX _ B _ (.tuple (c6 ds a b))from .tup bw (R3.nb hp) (An (qg xs a b) e3) ?_)) q3;unfold c6 eY;rw[<-e4.len];exact(((e4.drop _).take _).fresh hp).less λb z=>.inl z
 ·exact q3.elim
end
end DL
namespace Nb
open PySem L2
section
variable{X:Cx}
theorem T9(S it:Addr)(mine:Array Af)(n:Nat){o:Obj}(items:Array Af)(n2:Nat)(hc:o.cls=.type "tuple")(hd:o.data=.seq items n2)
  (hlong:¬(!mine.isEmpty&&Dt (mine.size+items.size))=ah) (hz1:mine.size<=Ao) (hz2:mine.size+items.size<=Ao+1) (hz3:items.size<=Ao):
  Meets (D9.«list.extend» ⟨[.ref S,.ref it],[]⟩) (λ_ R s=>s.heap.get? S=ae {cls:=.type "list",data:=.seq mine n}/\s.heap.get? it=ae o/\R (.ok (.ret Bv)) {s with heap:=s.heap.update S (Da λx=>x++items),toks:=s.toks}):=λprog w A R s h=>by
 obtain⟨hS,ho,hR⟩:=h;show Az _ A.in1 (D3 (.ref S) (.ref it) .none) _ _ s;unfold D3;refine Ad (Gz ⟨o,ho,hc⟩ ?_);have h1:(G8 (.ref S) (.ref it) || Dn "tuple"==Dn "list" || Dn "tuple"==Dn "tuple")=ah:=by simp
 simp only[h1,if_true];refine Ad ?_;unfold Builtin.List.listItems;refine Ad (C9 ho hd (Aj ?_));refine Ad ?_;refine Ad (C9 hS rfl (Aj ?_));simp only[hlong];show Az _ A.in1 (updateSeq S (·++items)>>=λ_=>ret Bv) _ _ s;refine Ad (wpAny_updateSeq hS rfl ?_ hz1 (by rw[Array.size_append];exact hz2));exact Aj hR
def AV:V->List V->Hp->VK->Prop:=λx vs H Q=>∃l b xs zs,x=.ref l/\vs=[.ref b]/\H l=ae (.lst xs)/\H b=ae (.tup zs)/\xs.length+zs.length<=Ao/\Q .non (upd H l (.lst (xs++zs)))
theorem KC:sC X "list.extend" AV:=by
 intro pins s σ H x vs v us Q I rx rv h;obtain⟨l,b,xs,zs,rfl,rfl,hH,hB,hz,q⟩:=h;cases rx;obtain⟨u,rfl,ru⟩:=rv.one;cases ru;obtain⟨z,its,n,r,hl,e⟩:=I.lstM hH;obtain⟨its2,r2,⟨o2,e2,c2,n2,d2⟩,z2⟩:=I.tuple (SqT.of hB);have hl2:=r2.length;have hsz:its.toArray.size+its2.toArray.size<=Ao:=by rw[Aw,Aw];omega
 have hlong:¬(!its.toArray.isEmpty&&Dt (its.toArray.size+its2.toArray.size))=ah:=by
  rw[wI hsz,Bool.and_false];exact Ak
 refine Ge F.slot_list_extend ⟨_,e,rfl⟩ F.entry_list_extend (F.args_list_extend_2 _ _)
  (T9 l b its.toArray n its2.toArray n2 c2 d2 hlong (by rw[Aw];omega) ⋯ (by rw[Aw];omega)) ⟨e,e2,?_⟩
 refine⟨.non,_,I.lset (its':=its++its2) hH e (by simp) (r.append r2) ?_,rfl,q⟩;rw[A0];omega
end
end Nb
namespace DL
open PySem L2 Nb
section
variable{X:Cx}{tg a b c e o i f:Expr}{ta tb te td ty tx:TE}{wa wb we wd' wy wx:DT}{pos p:Pos}{K:Ag}
def my(i:Nat)(w:DT):aW:=λδ n K=>match δ[i]? with
 |some (ae (.own ds))=>w δ n λx n1=>match x with
  |.d (.tuple es)=>(ds.length < 1000000/\es.length < 1000000)/\K.nx (δ.set i (ae (.own (ds++es)))) n1
  |_=>False
 |_=>False
theorem HF{i:Nat}{x:Str}{xp ap cp:Pos}(hN:X.N[i]?=ae x)(he:DE X e te we)(hv:ic X.env.scope x:=by first|exact F1 rfl|exact Eh (F1 rfl)|exact Eh (Eh rfl))(hd:(x==("__debug__":Str))=ai:=by decide)
  (hcd:(x==("__classdict__":Str))=ai:=by decide)
  (hbase:Em (.Name x xp) "extend" X.env (eval (.Name x xp) X.env)=eval (.Name x xp) X.env:=by rfl)
  (hfew:((C5 cp (Au [e] X.env)).all (λx=>!x.1)&&(backToKw cp (Fq [] X.env)).all (λx=>x.1.isSome)
   && decide ([e].length+([]:List F2).length+(if ([]:List F2).isEmpty then 0 else 1) < 30))=ah:=by rfl)
  (hline:(ap.endLine==cp.line)=ah:=by rfl) (hs:Au [e] X.env=[(ai,eval e X.env)]:=by rfl) (hplain:(C5 cp (Au [] X.env)).any (·.1)=ai:=by rfl)
  (hsw:Fi (.Call (.Attribute (.Name x xp) "extend" ap) [e] [] cp) af pos.line X.env=pure ai:=by rfl):
  DS X (.Expr (.Call (.Attribute (.Name x xp) "extend" ap) [e] [] cp) pos) (mj (jv X.K "list" AV (cn i) (cE te bG))) (my i we):=
 ⟨jX (mD Hk PySem.F.slot_list_extend PySem.F.type_list_extend KC (ik hN hv hd hcd) (cy he.pe c9 hs) hbase hfew hline hs hplain) hsw,λC H B σ δ n K D R q E=>by
  unfold my at q
  split at q
  ·rename_i ds ei;obtain⟨v,hv,a,xs,rfl,e2,e3,e4,e5,e6⟩:=R.sl i _ ei;refine⟨_,hv,.inl ⟨rfl,_,SqL.of e2⟩,he.sd C H B σ δ n _ _ R q λu y H1 n1 R1 k1 r1 q1=>?_⟩
   split at q1
   ·rename_i es;have hat:a≠C.t:=λz=>R.t0 (z▸e4);have e2':=k1 _ _ e2 hat;cases(show RdX H1 B u (.tuple es)from r1)with
    |@tup b zs _ f1 f2 f3 f4=>
     have hl:xs.length+zs.length<=Ao:=by rw[e6.len,f4.len];exact O5 q1.1.1 q1.1.2
     refine⟨a,b,xs,zs,rfl,rfl,e2',f1,hl,?_⟩;refine E.nx _ _ _ _ _ (R1.mutOwn ei rfl hv e3 e4 ?_ rfl) q1.2;refine⟨a,xs++zs,rfl,bw,e3,e4,by rw[A0];exact hl,?_⟩;refine RdXs.keep (λb o e n=>?_) ((e6.kp k1 R.bt).append f4);rw[aM λ(z:b=a)=>n (z▸e3)];exact e
   ·exact q1.elim
  ·exact q.elim⟩
def dA(hs:List Str)(w:DT):DT:=λδ n Q=>w δ n λx n1=>match x with
 |.d a=>ki a=ah/\Q (.d (.bool (bZ a (hs.map .str)))) n1
 |_=>False
theorem AE{q:Addr}{hs:List Str}(hl:∀h∈hs,h.length<=1000)(hq:∀H,SqT K H q (hs.map V.str))(h:fR ta wa):fR (eJ (kz K ai) ta (tC (.ref q))) (dA hs wa):=λC H B σ δ n Q Q' R z k=>
 h C H B σ δ n _ _ R z λv x H1 n1 R1 k1 r1 q1=>by
  split at q1
  ·rename_i da;have r1:RdX H1 B v da:=r1;have rs:RdXs H1 B (hs.map V.str) (hs.map .str):=tG hl;refine⟨q,_,rfl,.inr (hq H1),qW r1 q1.1,pD rs ?_,k _ _ H1 n1 R1 k1 (wd (.bl _)) ?_⟩
   ·rw[List.all_map];exact C8.mpr λ_ _=>rfl
   ·rw[o4 r1 rs];exact q1.2
  ·exact q1.elim
theorem Kb{q:Addr}{hs:List Str}{x:Str}{xp:Pos}(ha:DE X a ta wa)(hg:Gl X x)(hm:X.mg x=ae (.ref q))(hq:∀H,SqT K H q (hs.map V.str))(hl:∀h∈hs,h.length<=1000:=by decide +kernel)(hK:X.K=K:=by rfl)(hd:(x==("__debug__":Str))=ai:=by decide)
  (hmk:D6 .In (Expr.Name x xp)=ai:=by with_unfolding_all rfl):DC X (.Compare a [.In] [.Name x xp] pos) (m6 (eJ (kz K ai) ta (tC (.ref q)))) (cT (dA hs wa)):=
 ⟨jt (qh hK) ha.pe (lI hg hm rfl hd) hmk,uJ (AE hl hq ha.sd)⟩
end
end DL
namespace Nb
open PySem L2
def gG(K:Ag)(q:Addr)(D:List (Str×Str)):Prop:=(q==sysModules)=ai/\∃(o:Obj)(es:Array DictEntry)(ep:Nat),K.lookup q=ae o/\o.ExactDict/\o.data=.dict es ep/\PyProof.Rows.KTD.Rows (λ(d:Str) v=>∃t,v=.str d t) es.toList D
def gz(D:List (Str×Str)):List (Str×PyProof.Rows.KTD.Dat):=D.map λp=>(p.1,.flat (.str p.2))
theorem ye(k:Str):∀D:List (Str×Str),Bm k (gz D)=(Bm k D).map λs=>.flat (.str s)
 |[]=>rfl
 | (x,s)::D=>by
  show(if decide (k=x)=ah then ae _ else Bm k (gz D))=Di _ (if decide (k=x)=ah then ae s else Bm k D);rw[ye k D]
  split<;>rfl
theorem Pk(k:Str)(D:List (Str×Str)):PyProof.Rows.KTD.inKeys k (gz D)=(Bm k D).isSome:=by
 rw[<-PyProof.Rows.KTD.isSome_datumAt,ye,Option.isSome_map]
theorem yh{h:Heap}{k:Str}{P:Af->Prop}:∀D:List (Str×Str),(∀s,Bm k D=ae s->∀t,P (.str s t))->PyProof.Rows.KTD.EachL h k P (gz D)
 |[],_=>trivial
 | (x,s)::D,hp=>by
  by_cases hx:k=x
  ·refine PyProof.Rows.KTD.eachL_hit hx (PyProof.Rows.KTD.opened_str λt=>hp s ?_ t);show(if decide (k=x)=ah then ae s else Bm k D)=ae s;rw[if_pos (decide_eq_true hx)]
  ·refine PyProof.Rows.KTD.eachL_miss hx (yh D λs' hs' t=>hp s' ?_ t);show(if decide (k=x)=ah then ae s else Bm k D)=ae s';rw[if_neg (by simp[hx])];exact hs'
theorem y6:∀D:List (Str×Str),((gz D).all λp=>PyProof.Rows.KTD.plain p.2)=ah
 |[]=>rfl
 |_::D=>by
  show(ah&&(gz D).all λp=>PyProof.Rows.KTD.plain p.2)=ah;rw[y6 D];rfl
section
variable{X:Cx}{pins:List (Addr×Obj)}{σ:St}{H:Hp}{s:Ai}{q:Addr}{D:List (Str×Str)}
theorem Si(I:Inv X pins σ H s)(h:gG X.K q D):PyProof.Rows.KTD.Here s.heap s.heap q (gz D):=by
 obtain⟨h1,o,es,ep,hk,h2,h3,h4⟩:=h;exact⟨⟨h1,o,es,ep,I.kIn q o hk,h2,h3,PyProof.Rows.KTD.Rows.mono (f:=λd:Str=>PyProof.Rows.KTD.Dat.flat (.str d)) (R':=PyProof.Rows.KTD.Dat.At s.heap) (λd v ⟨t,e⟩=>by subst e;exact PyProof.V.Flat.str _ _) h4⟩,λ_ _ e=>e⟩
def kJ(K:Ag):R2:=λx y H Q=>∃k q D d,x=.ref q/\y=.str k/\gG K q D/\Bm k D=ae d/\Q (.str d) H
theorem KA:IxR X (kJ X.K):=by
 intro value slice pins s σ H x y v u Q I rx ry h hs;obtain⟨k,q,D,d,rfl,rfl,hT,hd,hq⟩:=h;obtain⟨t,rfl⟩:=ry;cases rx;refine PyProof.Rows.KTD.item_textA (Si I hT) (y6 D) (by rw[Pk,hd];rfl) (yh D λd' hd' t'=>?_) hs;rw[hd]at hd';cases hd';exact⟨.str d,H,I.kept (t':=s.toks+1) λ_ _ e=>e,⟨t',rfl⟩,hq⟩
end
end Nb
namespace DL
open PySem L2 Nb
section
variable{X:Cx}{a b c e o i f:Expr}{ta tb te ty:TE}{wa wb we wy:DT}{pos p xp:Pos}{K:Ag}{D:List (Str×Str)}{q:Addr}{x:Str}
def SG(D:List (Str×Str))(w:DT):DT:=λδ n Q=>w δ n λx n1=>match x with
 |.d (.str k)=>Q (.d (.bool (Bm k D).isSome)) n1
 |_=>False
def d7(D:List (Str×Str))(w:DT):DT:=λδ n Q=>w δ n λx n1=>match x with
 |.d (.str k)=>match Bm k D with
  |some s=>s.length<=1000/\Q (.d (.str s)) n1
  |none=>False
 |_=>False
theorem lT{n:Nat}(h:n<=1000):n<=Ao:=An h ∎
theorem KO(hK:X.K=K:=by rfl):IxR X (kJ K):=by subst hK;exact KA
theorem RR(hi:DE X i ty wy)(hg:Gl X x)(hm:X.mg x=ae (.ref q))(hq:gG K q D)(hs:nK i:=by exact λ_ _=>rfl)(hK:X.K=K:=by rfl)(hd:(x==("__debug__":Str))=ai:=by decide):
  DE X (.Subscript (.Name x xp) i pos) (eJ (kJ K) (tC (.ref q)) ty) (d7 D wy):=⟨gf (KO hK) (lI hg hm rfl hd) hi.pe hs,λC H B σ δ n Q Q' R z k=>
 hi.sd C H B σ δ n _ _ R z λv x H1 n1 R1 k1 r1 q1=>by
  split at q1
  ·rename_i key
   split at q1
   ·rename_i s es;cases(show RdX H1 B v (.str key)from r1);exact⟨key,q,D,s,rfl,rfl,hq,es,k _ _ H1 n1 R1 k1 (wd (.str _ (lT q1.1))) q1.2⟩
   ·exact q1.elim
  ·exact q1.elim⟩
def mF:List V->Hp->VK->Prop:=λxs H Q=>(∃i,xs=[.int i]/\i.natAbs.log2 < 1920/\Q (.str (Fh i)) H)\/∃x,xs=[.str x]/\Q (.str x) H
theorem Ki:CallR X (.type "str") mF:=by
 intro pins s σ H xs us Q I r h;rcases h with h|⟨x,rfl,q⟩
 ·exact ME pins s σ H xs us Q I r h
 ·obtain⟨u,rfl,t,rfl⟩:=iO r;exact PySem.P.str_of_str ⟨.str _,H,I,⟨_,rfl⟩,q⟩
def bM:List Wv->Int->DQ->Prop:=λxs n Q=>match xs with
 |[.d (.int i)]=>(i.natAbs.log2 < 1920/\(B7 (Fh i)).length<=1000)/\Q (.d (.str (Fh i))) n
 |[.d (.str x)]=>Q (.d (.str x)) n
 |_=>False
theorem Pr:dH mF bM:=λC H B σ δ n vs xs Q Q' R r h k=>by
 unfold bM at h
 split at h
 ·rename_i i;cases r with
  |cons r1 r2=>
   cases r2;cases(show RdX H B _ (.int i)from r1);exact .inl ⟨i,rfl,h.1.1,k _ _ H n R (Kp.refl _ _) (wd (.str _ (lT h.1.2))) h.2⟩
 ·rename_i x;cases r with
  |cons r1 r2=>
   cases r2;have r1':RdX H B _ (.str x):=r1;cases r1' with
   |str _ hx=>exact .inr ⟨x,rfl,k _ _ H n R (Kp.refl _ _) (wd (.str _ hx)) h⟩
 ·exact h.elim
theorem MP{v:Str}{tk:Tok}(hg:Gl X x)(hm:X.mg x=ae (.str v tk))(hl:v.length<=1000:=by decide +kernel)(hd:(x==("__debug__":Str))=ai:=by decide):DE X (.Name x p) (tC (.str v)) (wC (.str v)):=⟨lI hg hm ⟨tk,rfl⟩ hd,l3 λ_ _=>.str v (lT hl)⟩
end
end DL
namespace L2
open PySem PySem.Spec PyProof.Rows PySem.SeqAt PySem.W
end L2
namespace L2
open PySem PySem.Spec PyProof.Rows
end L2
namespace L2
open PySem PySem.Spec PyProof.Rows PySem.SeqAt PySem.W
end L2
namespace L2
open PySem PySem.Spec PyProof.Rows PySem.W
end L2
namespace L2
open PySem PySem.Spec PyProof.Rows PySem.SeqAt PySem.W
end L2
namespace DL
open PySem L2 Nb
end DL
namespace L2
open PySem PySem.Spec PyProof.Rows PySem.SeqAt PySem.W
end L2
namespace DL
open PySem L2 Nb
end DL
namespace HT
open PySem PyProof.Rows
end HT
namespace L2
open PySem PySem.Spec PyProof.Rows
end L2
namespace DL
open PySem L2 Nb
end DL
namespace L2
open PySem PySem.Spec PyProof.Rows PySem.SeqAt
section
variable{X:Cx}{K:Ag}
def xq(K:Ag)(neg:Bool):R2:=λx y H Q=>∃a b xs,x=.ref a/\y=.ref b/\SqT K H a xs/\SqT K H b []/\Q (.bl (if neg then !xs.isEmpty else xs.isEmpty)) H
theorem HL(hu:X.A.units < cLine)(hK:X.K=K:=by rfl):OpR X (B8 .NotEq) (xq K ah):=by
 subst hK;intro pins s σ H x y v u Q I rx ry h;obtain⟨a,b,xs,rfl,rfl,ha,hb,q⟩:=h;cases(show v=Bq a from rx);cases(show u=Bq b from ry);obtain⟨its,r1,p1,_⟩:=I.tuple ha;obtain⟨its2,r2,p2,_⟩:=I.tuple hb;have e2:its2=[]:=Vals.zero r2;subst e2;refine RcNeAt.tuples (e:=λ_=>ah) p1 p2 hu (λj h1 h2=>absurd h2 (by simp)) X.prog X.w X.xe _ ⟨.bl (!xs.isEmpty),H,I,?_,q⟩;cases r1<;>simp[RelV]
end
end L2
namespace DL
open PySem L2 Nb
section
variable{X:Cx}{K:Ag}
def qH(neg:Bool):Wv->Wv->Int->DQ->Prop:=λx y n Q=>match x,y with
 |.d (.tuple ds),.d (.tuple [])=>Q (.d (.bool (if neg then !ds.isEmpty else ds.isEmpty))) n
 |_,_=>False
theorem Ll{neg:Bool}:bS (xq K neg) (qH neg):=λC H B σ δ n x y p q Q Q' R rx ry h1 k=>by
 unfold qH at h1
 split at h1
 ·rename_i ds;cases(show RdX H B x (.tuple ds)from rx)with
  |@tup ax xs _ e1 e2 e3 e4=>
   cases(show RdX H B y (.tuple [])from ry)with
   |@tup ay ys _ f1 f2 f3 f4=>
    cases f4;have:xs.isEmpty=ds.isEmpty:=by cases e4<;>rfl
    refine⟨ax,ay,xs,rfl,rfl,SqT.of e1,SqT.of f1,?_⟩;rw[this];exact k _ _ H n R (Kp.refl _ _) (wd (.bl _)) h1
 ·exact h1.elim
end
end DL
namespace L2
open PySem PySem.Spec PyProof.Rows
section
variable{prog:Bj}{w:Bu}{A:B3}{E:Af->Ai->Prop}{s:Ai}
theorem SY{z TI TO i1 i2 l1 l2:Addr}{k:Nat}{xs ys:Array Af}{x a b:Af}{Q:Fin->Ai->Prop}(hh:A.handled=af)(D:ZipApart z TI TO i1 i2 l1 l2)
  (hz:IsZip s.heap z TI TO .none) (hTI:Es s.heap TI (.ref i1) (.ref i2)) (hTO:Es s.heap TO a b)
  (h1:s.heap.IsTupleIter i1 l1 k) (h2:s.heap.IsTupleIter i2 l2 k) (hl1:s.heap.IsTuple l1 xs) (hl2:s.heap.IsTuple l2 ys) (hx:xs[k]?=ae x) (hy:ys[k]?=af)
  (hE:∀h' e,(∀c o,c≠z->c≠TO->c≠i1->c≠i2->s.heap.get? c=ae o->h'.get? c=ae o)->(∃o,h'.get? e=ae o/\o.cls=.type "StopIteration")->E (.ref e) {s with heap:=h'}):
  Az (Bg prog w) A (D9.«zip.__next__» ⟨[.ref z],[]⟩) Q E s:=by
 show Az _ _ (field (.ref z) 2>>=_) _ _ _;refine Ad (C4 hz rfl (x:=.bool ai) rfl ?_);show Az _ _ (field (.ref z) 3>>=_) _ _ _;refine Ad (C4 hz rfl (x:=.ref TI) rfl ?_);refine Ad (C9 hTI rfl ?_);show Az _ _ (Cz (.ref z)>>=_) _ _ _;refine Ad ?_;unfold Cz;refine Ad (C4 hz rfl (x:=.none) rfl (Aj ?_));simp only[if_true];refine Ad (Ha ?_);refine Ad (C4 hz rfl (x:=.ref TO) rfl ?_);refine Ad (Ep hz (by simp) λg1 hz1 s1=>?_)
 replace hz1:IsZip g1 z TI TO .ellipsis:=hz1
 refine Ad ?_;simp only[List.zipIdx_cons,List.zipIdx_nil,List.forIn_cons,List.forIn_nil];refine Ad (Ad (Hd ?_));show Az _ _ (Cp (.ref i1)>>=_) _ _ _;refine Ad (qX (h1.extBut s1.extBut D.i1z) (hl1.extBut s1.extBut D.l1z) hx λg2 t2 s2=>Aj ?_);have p2:Es g2 TO a b:=s2.extBut _ _ D.TOi1 (s1.extBut _ _ D.TOz hTO);refine Ad (C9 p2 rfl ?_);refine Ad (wpAny_updateSeq_pair p2 λg3 p3 s3=>?_)
 replace p3:Es g3 TO x b:=p3
 refine Ad (wpAny_letGo (Aj ?_));refine Ad (Ad (Hd ?_));show Az _ _ (Cp (.ref i2)>>=_) _ _ _;refine Ad (wX hh (((h2.extBut s1.extBut D.i2z).extBut s2.extBut D.i12.symm).extBut s3.extBut D.TOi2.symm)
  (((hl2.extBut s1.extBut D.l2z).extBut s2.extBut D.l2i1).extBut s3.extBut D.l2TO) hy λg4 e s4 he=>?_)
 obtain⟨oe,hoe,hce⟩:=he;have z4:IsZip g4 z TI TO .ellipsis:=s4 _ _ D.i2z.symm (s3.extBut _ _ D.TOz.symm (s2.extBut _ _ D.i1z.symm hz1));have hez:e≠z:=λx=>by subst x;rw[z4]at hoe;cases hoe;simp at hce
 refine Ep z4 (by simp) λg5 _ s5=>hE g5 e (λc o c1 c2 c3 c4 x=>s5.extBut _ _ c1 (s4 _ _ c4 (s3.extBut _ _ c2 (s2.extBut _ _ c3 (s1.extBut _ _ c1 x))))) ⟨oe,s5.extBut _ _ hez hoe,hce⟩
theorem J1{z TI TO i1 i2 l1 l2:Addr}{k:Nat}{xs ys:Array Af}{x a b:Af}{Q:Option Af->Ai->Prop}(hh:A.handled=af)(D:ZipApart z TI TO i1 i2 l1 l2)
  (hz:IsZip s.heap z TI TO .none) (hTI:Es s.heap TI (.ref i1) (.ref i2)) (hTO:Es s.heap TO a b)
  (h1:s.heap.IsTupleIter i1 l1 k) (h2:s.heap.IsTupleIter i2 l2 k) (hl1:s.heap.IsTuple l1 xs) (hl2:s.heap.IsTuple l2 ys) (hx:xs[k]?=ae x) (hy:ys[k]?=af)
  (hQ:∀h',(∀c o,c≠z->c≠TO->c≠i1->c≠i2->s.heap.get? c=ae o->h'.get? c=ae o)->Q af {s with heap:=h'}):Az (Bg prog w) A (E7 (.ref z)) Q E s:=by
 have hT:s.TypeIs (.ref z) "zip":=⟨_,hz,rfl⟩;unfold E7;refine Ad (Ek (B4 (name:=B7 "__next__") hT Gs
  (Co Gs hT F.entry_zip_next (SY hh D hz hTI hTO h1 h2 hl1 hl2 hx hy λh' e hk he=>?_) (F.args_zip_next_1 _))))
 obtain⟨o,ho,hc⟩:=he;refine Ad (Gh (T:="StopIteration") (b:=ah) ⟨o,ho,hc⟩ isSubtype_stop ?_);exact Aj (hQ _ hk)
end
def m8(K:Ag)(a b:Addr):It:=
 ⟨λi H=>∃xs ys x y,SqT K H a xs/\SqT K H b ys/\xs[i]?=ae x/\ys[i]?=ae y,
  λi H v H'=>∃T x y,v=.ref T/\H T=af/\H'=upd H T (.tup [x,y])/\(∀xs,SqT K H a xs->xs[i]?=ae x)/\∀ys,SqT K H b ys->ys[i]?=ae y,
  λi H=>(∃xs,SqT K H a xs/\xs.length<=i)\/∃xs ys x,SqT K H a xs/\SqT K H b ys/\xs[i]?=ae x/\ys.length<=i⟩
theorem Pd{P:Bj}{w:Bu}{K:Ag}{elts:List Expr}{kk:Nat}{pos:Pos}{a b z TI TO i1 i2:Addr}(D:ZipApart z TI TO i1 i2 a b):Turn P w K (.Tuple elts kk pos) (m8 K a b) [z,TI,TO,i1,i2] z
  (λi h=>IsZip h z TI TO .none/\Es h TI (.ref i1) (.ref i2)/\(∃x y,Es h TO x y)/\h.IsTupleIter i1 a i/\h.IsTupleIter i2 b i) where
 mem:=by simp
 obj:=λi h st c hc=>by
  obtain⟨hz,hI,⟨x,y,hO⟩,⟨o1,e1,c1,d1⟩,⟨o2,e2,c2,d2⟩⟩:=st;simp only[A5,A9,or_false]at hc;rcases hc with rfl|rfl|rfl|rfl|rfl
  ·exact⟨_,hz,λv q=>by have q':Data.fields _=Data.cell v:=q;cases q'⟩
  ·exact⟨_,hI,λv q=>by have q':Data.seq _ _=Data.cell v:=q;cases q'⟩
  ·exact⟨_,hO,λv q=>by have q':Data.seq _ _=Data.cell v:=q;cases q'⟩
  ·exact⟨o1,e1,λv q=>by rw[d1]at q;cases q⟩
  ·exact⟨o2,e2,λv q=>by rw[d2]at q;cases q⟩
 keep:=λi h h' st k=>by
  obtain⟨hz,hI,⟨x,y,hO⟩,h1,h2⟩:=st;exact⟨k z (by simp) _ hz,k TI (by simp) _ hI,⟨x,y,k TO (by simp) _ hO⟩,h1.at λo e=>k i1 (by simp) o e,h2.at λo e=>k i2 (by simp) o e⟩
 item:=by
  intro X hP hw hK hc i pins s σ H E I hf st hg;subst hP hw hK;obtain⟨hz,hI,⟨x0,y0,hO⟩,h1,h2⟩:=st;obtain⟨xs,ys,x,y,qa,qb,ex,ey⟩:=hg;obtain⟨its,rv,p,_⟩:=I.tuple qa;obtain⟨jts,rw',p',_⟩:=I.tuple qb;obtain⟨u,hu,ru⟩:=rv.get ex;obtain⟨u',hu',ru'⟩:=rw'.get ey;refine LR D hz hI hO h1 h2 (show s.heap.IsTuple a its.toArray from p) (show s.heap.IsTuple b jts.toArray from p') (x:=u) (y:=u') (by simpa using hu) (by simpa using hu') λh' a1 a2 a3 a4 a5 a6 a7=>⟨_,rfl,?_⟩;refine wpAny_letOwnedTupleGo_zip (s:={ s with heap:=h'}) a1 λh'' b1 b2=>?_;have T:h''.get? s.heap.objs.size=ae {cls:=.type "tuple",data:=.seq #[u,u']}:=b2.extBut _ _ (D0 (Ar hz)) a5;have Tn:H s.heap.objs.size=af:=I.hok.fresh (Av _);have kp:∀c o,c∉[z,TI,TO,i1,i2]->s.heap.get? c=ae o->h''.get? c=ae o:=λc o hc e=>by
   simp only[A5,A9,or_false,not_or]at hc;exact b2.extBut _ _ hc.1 (a7 c o hc.1 hc.2.2.1 hc.2.2.2.1 hc.2.2.2.2 e)
  refine⟨.ref s.heap.objs.size,upd H s.heap.objs.size (.tup [x,y]),I.many (t':=s.toks) hf kp (Av _) ⟨by show 2<=Ao;decide,[u,u'],.cons ru (.cons ru' .nil),_,T,rfl,⟨_,rfl⟩,rfl⟩,rfl,⟨_,x,y,rfl,Tn,rfl,λzs q=>by rw[I.tuple_inj q qa];exact ex,λzs q=>by rw[I.tuple_inj q qb];exact ey⟩,
   ⟨b1,b2.extBut _ _ D.TIz (a7 _ _ D.TIz D.TITO D.TIi1 D.TIi2 hI),⟨_,_,b2.extBut _ _ D.TOz a2⟩,a3.extBut b2.extBut D.i1z,a4.extBut b2.extBut D.i2z⟩,λc hc=>?_⟩
  have hlt:c < s.heap.objs.size:=by
   simp only[A5,A9,or_false]at hc;rcases hc with rfl|rfl|rfl|rfl|rfl
   ·exact Ar hz
   ·exact Ar hI
   ·exact Ar hO
   ·obtain⟨_,e,_⟩:=h1;exact Ar e
   ·obtain⟨_,e,_⟩:=h2;exact Ar e
  rw[aM (Bf hlt)];exact(hf c hc).1
 done:=by
  intro X hP hw hK hc i pins s σ H E I hf st hg;subst hP hw hK;obtain⟨hz,hI,⟨x0,y0,hO⟩,h1,h2⟩:=st;rcases hg with⟨xs,hq,hx⟩|⟨xs,ys,x,qa,qb,ex,ey⟩
  ·obtain⟨its,rv,p,_⟩:=I.tuple hq;have hl:=rv.length;refine OJ (I.ok.hd hc) D hz hI h1 (show s.heap.IsTuple a its.toArray from p) (by simp;omega) λh' k=>⟨rfl,I.many0 (t':=s.toks) hf λc o hc e=>?_⟩;simp only[A5,A9,or_false,not_or]at hc;exact k c o hc.1 hc.2.2.2.1 e
  ·obtain⟨its,rv,p,_⟩:=I.tuple qa;obtain⟨jts,rw',p',_⟩:=I.tuple qb;have hl:=rw'.length;obtain⟨u,hu,ru⟩:=rv.get ex;refine J1 (I.ok.hd hc) D hz hI hO h1 h2 (show s.heap.IsTuple a its.toArray from p) (show s.heap.IsTuple b jts.toArray from p') (x:=u) (by simpa using hu) (by simp;omega) λh' k=>⟨rfl,I.many0 (t':=s.toks) hf λc o hc e=>?_⟩;simp only[A5,A9,or_false,not_or]at hc;exact k c o hc.1 hc.2.2.1 hc.2.2.2.1 hc.2.2.2.2 e
 self:=λ_ _ _ _ _ st h=>wpAny_pyIter_zip st.1 h
def DD(K:Ag)(ta:TA):TI:=λσ H R=>ta σ H λvs H1=>∃a b,vs=[.ref a,.ref b]/\(∃xs,SqT K H1 a xs)/\(∃ys,SqT K H1 b ys)/\R (m8 K a b) H1
theorem Iu{X:Cx}{elts:List Expr}{kk:Nat}{tpos:Pos}{e1 e2:Expr}{ta:TA}{p pos:Pos}(hg:Gl X "zip")(hm:X.mg "zip"=af)(ha:PA X [e1,e2] ta)(hs:Au [e1,e2] X.env=[(ai,eval e1 X.env),(ai,eval e2 X.env)]:=by rfl)(hs2:Au [e2] X.env=[(ai,eval e2 X.env)]:=by rfl):
  PI X (.Tuple elts kk tpos) (.Call (.Name "zip" p) [e1,e2] [] pos) (DD X.K ta):=by
 intro pins s σ H R I h;refine Call_ (lM I hg hm P0 (D1 (bj (ha pos pins s σ H _ I h) λus s1 ⟨vs,H1,I1,r1,q1⟩=>?_) (by rw[hs,hs2]) (by rw[hs2];rfl)));obtain⟨a,b,e,⟨xs,qa⟩,⟨ys,qb⟩,q⟩:=q1;subst e;cases r1 with
 |cons r rr=>
  cases rr with
  |cons r' rr=>
   cases rr;cases r;cases r';obtain⟨its,rv,pp,_⟩:=I1.tuple qa;obtain⟨jts,rw',pp',_⟩:=I1.tuple qb;have la:a < s1.heap.objs.size:=by obtain⟨_,e,_⟩:=id pp;exact Ar e
   have lb:b < s1.heap.objs.size:=by obtain⟨_,e,_⟩:=id pp';exact Ar e
   refine QO (show s1.heap.IsTuple a its.toArray from pp) (show s1.heap.IsTuple b jts.toArray from pp') λh' a1 a2 a3 a4 a5 a6=>wpAny_pyIter_zip (s:={ s1 with heap:=h'}) a1 ?_;refine⟨_,_,_,_,H1,rfl,I1.kept (t':=s1.toks) a6,Pd (zipApart_new la lb),⟨a1,a2,⟨_,_,a3⟩,a4,a5⟩,λc hc=>?_,q⟩;have hlt:s1.heap.objs.size<=c:=by
    simp only[A5,A9,or_false]at hc;rcases hc with rfl|rfl|rfl|rfl|rfl<;>omega
   exact I1.fpOk hlt (I1.hok.fresh hlt)
end L2
namespace DL
open PySem L2 Nb
section
variable{X:Cx}{a b:Expr}{ta tb:TE}{wa wb:DT}{pos p:Pos}{K:Ag}
def v5(w w':DT):gs:=λδ n Q=>w δ n λx n1=>w' δ n1 λy n2=>match x,y with
 |.d (.tuple xs),.d (.tuple ys)=>ys.length<=xs.length/\Q (fU xs ys) n2
 |_,_=>False
theorem JD{elts:List Expr}{kk:Nat}{tpos:Pos}(hg:Gl X "zip")(hm:X.mg "zip"=af)(ha:DE X a ta wa)(hb:DE X b tb wb)(hK:X.K=K:=by rfl)(hs:Au [a,b] X.env=[(ai,eval a X.env),(ai,eval b X.env)]:=by rfl)(hs2:Au [b] X.env=[(ai,eval b X.env)]:=by rfl)
  (he1:Au [a,b] X.env=(ai,eval a X.env)::Au [b] X.env:=by rfl) (he2:Au [b] X.env=(ai,eval b X.env)::Au [] X.env:=by rfl):
  DI X (.Tuple elts kk tpos) (.Call (.Name "zip" p) [a,b] [] pos) (DD K (cE ta (cE tb bG))) (v5 wa wb):=by
 subst hK;refine⟨Iu hg hm (cy ha.pe (cy hb.pe c9 he2) he1) hs hs2,λC H B σ δ n Q Q' R q k=>ha.sd C H B σ δ n _ _ R q λv x H1 n1 R1 k1 r1 q1=>hb.sd C H1 B σ δ n1 _ _ R1 q1 λu y H2 n2 R2 k2 r2 q2=>?_⟩;have r1':=r1.kp k2 R1.bt
 split at q2
 ·rename_i xs ys;cases(show RdX H2 B v (.tuple xs)from r1')with
  |@tup aa vs _ e1 e2 e3 e4=>
   cases(show RdX H2 B u (.tuple ys)from r2)with
   |@tup ab ws _ f1 f2 f3 f4=>
    refine⟨aa,ab,rfl,⟨vs,SqT.of e1⟩,⟨ws,SqT.of f1⟩,k _ (fU xs ys) H2 n2 R2 (k1.trans k2) (λfz th=>?_) q2.2⟩;have za:fz aa=ae (.tup vs):=th.2 _ _ e1 e2;have zb:fz ab=ae (.tup ws):=th.2 _ _ f1 f2;have lz:(fU xs ys).length=ys.length:=by unfold fU;rw[List.length_zipWith];have:=q2.1;omega
    have le:=q2.1;have l1:=e4.len;have l2:=f4.len;refine⟨by rw[lz,<-f4.len];exact f3,λi H hH hi=>?_,λH hH=>?_,λi H x H' d hH hd hy=>?_⟩
    ·rw[lz]at hi;have h1:i < vs.length:=by omega
     have h2:i < ws.length:=by omega
     exact⟨vs,ws,vs[i],ws[i],SqT.of (hH _ _ za),SqT.of (hH _ _ zb),As h1,As h2⟩
    ·by_cases hq:vs.length<=ws.length
     ·exact .inl ⟨vs,SqT.of (hH _ _ za),by rw[lz];omega⟩
     ·have hq':ws.length < vs.length:=by omega
      exact .inr ⟨vs,ws,vs[ws.length],SqT.of (hH _ _ za),SqT.of (hH _ _ zb),by rw[lz,<-l2];exact As hq',by rw[lz,l2];exact Av _⟩
    ·obtain⟨T,x1,y1,rfl,hT,rfl,hx,hy⟩:=hy;refine⟨λb o e=>by rw[aM (bQ e hT)];exact e,λB' hB hBa=>?_⟩;have hi2:i < ys.length:=by rw[<-lz];exact(Bs.mp hd).1
     have hi:i < xs.length:=by omega
     have ed:d=.tuple [xs[i],ys[i]]:=by
      unfold fU at hd;rw[List.getElem?_zipWith,As hi,As hi2]at hd;exact(Bp hd).symm
     subst ed;obtain⟨u1,hu1,ru1⟩:=e4.getD (As hi);obtain⟨u2,hu2,ru2⟩:=f4.getD (As hi2);have t1:=hx _ (SqT.of (hH _ _ za));have t2:=hy _ (SqT.of (hH _ _ zb));rw[hu1]at t1;rw[hu2]at t2;cases t1;cases t2;have mv:∀b o,H2 b=ae o->¬B b->upd H T (.tup [x1,y1]) b=ae o/\¬B' b:=λb o e ne=>by
      have:=hH _ _ (th.2 _ _ e ne);exact⟨by rw[aM (bQ this hT)];exact this,hB _ _ (th.2 _ _ e ne)⟩
     exact .tup bw (λz=>hBa T z hT) (by show 2<=Ao;decide) (.cons (ru1.move mv) (.cons (ru2.move mv) .nil))
 ·exact q2.elim
end
end DL
namespace L2
open PySem PySem.Spec PyProof.Rows
def uk(K:Ag):R2:=λx y H Q=>∃a b ys,x=.ref a/\y=.ref b/\SqT K H a []/\SqT K H b ys/\Q (.ref b) H
theorem HD{X:Cx}:OpR X (E5 .Add) (uk X.K):=by
 intro pins s σ H x y v u Q I rx ry h;obtain⟨a,b,ys,rfl,rfl,ha,hb,q0⟩:=h;cases(show v=Bq a from rx);cases(show u=Bq b from ry);obtain⟨its,r1,p1,_⟩:=I.tuple ha;obtain⟨its2,r2,p2,_⟩:=I.tuple hb;obtain⟨⟨cls,dd,data,sl⟩,ho,hc,n,hd⟩:=id p1;obtain⟨⟨cls2,dd2,data2,sl2⟩,ho2,hc2,n2,hd2⟩:=id p2;simp only at hc hd hc2 hd2;subst hc hd hc2 hd2;have hi:its=[]:=r1.nil_iff.mpr rfl;exact concat_meets ⟨_,ho,rfl⟩ ⟨_,ho2,rfl⟩ noFill_tuple_add seq_tuple_add Gk Gf (F5 _ _)
  (tuple_addW0 a b its.toArray its2.toArray n n2 dd dd2 sl sl2 (by simp[hi])) ⟨ho,ho2,⟨.ref b,H,I,rfl,q0⟩⟩
end L2
namespace DL
open PySem L2 Nb
section
variable{X:Cx}{a b:Expr}{ta tb:TE}{wa wb:DT}{pos p:Pos}{K:Ag}
def jK:Wv->Wv->Int->DQ->Prop:=λx y n Q=>match x,y with
 |.d (.tuple []),.d (.tuple j)=>Q (.d (.tuple j)) n
 |x,y=>aG x y n Q
theorem Lc:bS (λx y H Q=>mq K x y H Q\/uk K x y H Q) jK:=λC H B σ δ n x y p q Q Q' R rx ry h1 k=>by
 unfold jK at h1
 split at h1
 ·rename_i j;cases(show RdX H B x (.tuple [])from rx)with
  |@tup ax xs _ e1 e2 e3 e4=>
   cases(show RdX H B y (.tuple j)from ry)with
   |@tup ay ys _ f1 f2 f3 f4=>
    cases e4;exact .inr ⟨ax,ay,ys,rfl,rfl,SqT.of e1,SqT.of f1,k _ _ H n R (Kp.refl _ _) (wd (show RdX H B _ (.tuple j)from .tup f1 f2 f3 f4)) h1⟩
 ·exact .inl (yx C H B σ δ n x y _ _ Q Q' R rx ry h1 k)
theorem JC(ha:DE X a ta wa)(hb:DE X b tb wb)(hK:X.K=K:=by rfl):DE X (.BinOp a .Add b pos) (eJ (λx y H Q=>mq K x y H Q\/uk K x y H Q) ta tb) (w2 wa wb jK):=by
 subst hK;exact js (op_addA.or HD) Lc ha hb
end
end DL
namespace L2
open PySem PySem.Spec PyProof.Rows
end L2
namespace DL
open PySem L2 Nb
end DL
namespace L2
open PySem PySem.Spec PyProof.Rows
end L2
namespace DL
open PySem L2 Nb
end DL
namespace L2
open PySem PySem.Spec PyProof.Rows
end L2
namespace DL
open PySem L2 Nb
end DL
namespace L2
open PySem PySem.Spec PyProof.Rows
end L2
namespace DL
open PySem L2 Nb
end DL
namespace L2
open PySem PySem.Spec PyProof.Rows
end L2
namespace DL
open PySem L2 Nb
theorem Lp{X:Cx}{a b:Expr}{ta tb:TE}{wa wb:DT}{pos:Pos}(ha:DE X a ta wa)(hb:DE X b tb wb):DE X (.BinOp a .Add b pos) (eJ (gV λi j=>.int (i+j)) ta tb) (w2 wa wb (e9 λi j=>.int (i+j))):=js op_add (IH λ_ _ _ _=>.int _) ha hb
end DL
namespace L2
open PySem PySem.Spec PyProof.Rows
theorem xl{P:Bj}{w:Bu}{A:B3}(hh:A.handled=af)(it t:Addr)(hne:t≠it)(xs:Array Af):Draws P w A it [it,t] xs.size (λi v=>xs[i]?=ae v) (λi h=>h.IsTupleIter it t i/\h.IsTuple t xs) where
 live:=λ_ _ z=>by obtain⟨⟨o,q,_⟩,_⟩:=z;exact⟨o,q⟩
 frame:=λ_ _ _ z k=>⟨z.1.at λo e=>k it (.head _) o e,z.2.at λo e=>k t (.tail _ (.head _)) o e⟩
 item:=λi s Q E hi z k=>qX z.1 z.2 (x:=xs[i]) (Du hi) λh' a b=>k _ h' s.toks (Du hi) ⟨a,z.2.extBut b.extBut hne⟩ b
 done:=λs Q E z k=>wX hh z.1 z.2 (by simp) k
abbrev oZ(h:Heap)(l:Addr):Heap:=h.push {cls:=.type "tuple_iterator",data:=.fields #[.ref l,.int 0 0]}
abbrev tw(h:Heap)(l:Addr):Heap:=(oZ h l).push {cls:=.type "enumerate",data:=.fields #[.none,.bool ai,.ref h.objs.size,Dh 0,.none,.none]}
theorem NA(l:Addr)(xs:Array Af)(n:Nat)(dc:Option Addr)(sl:Array (Option Af)):
  Meets (D9.«enumerate.__new__» ⟨[.type "enumerate",.ref l],[]⟩) (λ_ R s=>s.heap.get? l=ae {cls:=.type "tuple",dict:=dc,data:=.seq xs n,slots:=sl} /\
   R (.ok (.ret (.ref (oZ s.heap l).objs.size))) {s with heap:=tw s.heap l}):=
 .of_wp λP w A R s h=>by
  obtain⟨hp,g,d,tk,os⟩:=s;obtain⟨hl,h⟩:=h;have hsub:=sub_enumerate;have hT:Heap.IsTuple (Shared.heap ⟨hp,g,d,tk,os⟩) l xs:=⟨_,hl,rfl,n,rfl⟩
  wp_walk using F3 hl
  refine wpAny_stack_any λst=>Aj ?_
  split
  ·rename_i c _ _ _ _ _;cases(c==Dn "enumerate")
   ·wp_walk using F3 hl,Er hT
    exact⟨_,rfl,h⟩
   ·wp_walk using F3 hl,Er hT
    exact⟨_,rfl,h⟩
  ·wp_walk using F3 hl,Er hT
   exact⟨_,rfl,h⟩
section
variable{prog:Bj}{w:Bu}{A:B3}{E:Af->Ai->Prop}{s:Ai}
theorem AF{l:Addr}{xs:Array Af}{Q:Af->Ai->Prop}(hl:s.heap.IsTuple l xs)
  (h:∀h',IsEnum h' (s.heap.objs.size+1) s.heap.objs.size 0 .none->h'.IsTupleIter s.heap.objs.size l 0->(∀c o,s.heap.get? c=ae o->h'.get? c=ae o)->Q (.ref (s.heap.objs.size+1)) {s with heap:=h'}):
  Az (Bg prog w) A (call (.type "enumerate") [.ref l]) Q E s:=by
 obtain⟨⟨c,dc,dt,sl⟩,hl,hc,n,hd⟩:=hl;obtain rfl:c=.type "tuple":=hc;obtain rfl:dt=.seq xs n:=hd;refine callType_new F.called_enumerate ∎ (F.typeCall_enumerate_1 _) (F.newCall_enumerate_1 _) (λo=>F.args_object_init_2 o _) F.entry_enumerate_new (NA l xs n dc sl) ⟨hl,?_⟩;have z1:(oZ s.heap l).objs.size=s.heap.objs.size+1:=Ct ..;have g2:(tw s.heap l).get? (oZ s.heap l).objs.size=ae _:=Ay _ rfl;have g1:(tw s.heap l).get? s.heap.objs.size=ae _:=Ae _ (Ay _ rfl);show _/\_;rw[z1]at g2 ⊢;exact⟨⟨_,g2,rfl⟩,h _ g2 ⟨_,g1,rfl,rfl⟩ λc o x=>Ae _ (Ae _ x)⟩
end
def vj(K:Ag)(a:Addr):It:=
 ⟨λi H=>∃xs x,SqT K H a xs/\xs[i]?=ae x,
  λi H v H'=>∃T x,v=.ref T/\H T=af/\H'=upd H T (.tup [.int i,x])/\∀xs,SqT K H a xs->xs[i]?=ae x,
  λi H=>∃xs,SqT K H a xs/\xs.length=i⟩
theorem BX{P:Bj}{w:Bu}{K:Ag}{elts:List Expr}{kk:Nat}{pos:Pos}{a e it:Addr}(h1:e≠it)(h2:a≠it)(h3:e≠a):Turn P w K (.Tuple elts kk pos) (vj K a) [e,it] e
  (λi h=>(∃old,IsEnum h e it i old)/\h.IsTupleIter it a i) where
 mem:=by simp
 obj:=λi h st c hc=>by
  obtain⟨⟨x,he⟩,⟨o1,e1,c1,d1⟩⟩:=st;simp only[A5,A9,or_false]at hc;rcases hc with rfl|rfl
  ·exact⟨_,he,λv q=>by have q':Data.fields _=Data.cell v:=q;cases q'⟩
  ·exact⟨o1,e1,λv q=>by rw[d1]at q;cases q⟩
 keep:=λi h h' st k=>⟨st.1.imp λ_ q=>k e (by simp) _ q,st.2.at λo q=>k it (by simp) o q⟩
 item:=by
  intro X hP hw hK hc i pins s σ H E I hf st hg;subst hP hw hK;obtain⟨⟨old,he⟩,hi⟩:=st;obtain⟨xs,x,qa,ex⟩:=hg;obtain⟨its,rv,p,_⟩:=I.tuple qa;obtain⟨u,hu,ru⟩:=rv.get ex;have hlt:i < its.toArray.size:=by simpa using(Bs.mp hu).1
  have hef:e∉[it,a]:=λz=>by
   simp only[A5,A9,or_false]at z;exact z.elim h1 h3
  refine wpAny_pyNext_enum_itemD (xl (A:=X.A.in1) (I.ok.hd hc) it a h2 its.toArray) he ⟨hi,show s.heap.IsTuple a its.toArray from p⟩ hlt h1 hef λy h' tk a1 a2 a3 a4 a5 a6=>⟨_,rfl,?_⟩;obtain rfl:u=y:=by
   rw[List.getElem?_toArray,hu]at a1;cases a1;rfl
  refine wpAny_letOwnedTupleGo_enum (s:={ s with heap:=h',toks:=tk+1}) a2 λh'' b1 b2=>?_;have T:h''.get? s.heap.objs.size=ae {cls:=.type "tuple",data:=.seq #[.int i tk,u]}:=b2.extBut _ _ (D0 (Ar he)) a4;have Tn:H s.heap.objs.size=af:=I.hok.fresh (Av _);have kp:∀c o,c∉[e,it]->s.heap.get? c=ae o->h''.get? c=ae o:=λc o hc e=>by
   simp only[A5,A9,or_false,not_or]at hc;exact b2.extBut _ _ hc.1 (a6 c o hc.1 hc.2 e)
  refine⟨.ref s.heap.objs.size,upd H s.heap.objs.size (.tup [.int i,x]),I.many (t':=tk+1) hf kp (Av _) ⟨by show 2<=Ao;decide,[.int i tk,u],.cons ⟨tk,rfl⟩ (.cons ru .nil),_,T,rfl,⟨_,rfl⟩,rfl⟩,rfl,⟨_,x,rfl,Tn,rfl,λzs q=>by rw[I.tuple_inj q qa];exact ex⟩,
   ⟨⟨u,by rw[show((i+1:Nat):Int)=(i:Int)+1 from rfl];exact b1⟩,a3.1.extBut b2.extBut h1.symm⟩,λc hc=>?_⟩
  have hlt:c < s.heap.objs.size:=by
   simp only[A5,A9,or_false]at hc;rcases hc with rfl|rfl
   ·exact Ar he
   ·obtain⟨_,e,_⟩:=hi;exact Ar e
  rw[aM (Bf hlt)];exact(hf c hc).1
 done:=by
  intro X hP hw hK hc i pins s σ H E I hf st hg;subst hP hw hK;obtain⟨⟨old,he⟩,hi⟩:=st;obtain⟨xs,hq,hx⟩:=hg;obtain⟨its,rv,p,_⟩:=I.tuple hq;have hl:=rv.length;have hs:its.toArray.size=i:=by simp;omega
  refine wpAny_pyNext_enum_endD (xl (A:=X.A.in1) (I.ok.hd hc) it a h2 its.toArray) he (by rw[hs];exact⟨hi,p⟩) λh' k=>⟨rfl,I.many0 (t':=s.toks) hf λc o hc e=>?_⟩;simp only[A5,A9,or_false,not_or]at hc;exact k c o hc.2 e
 self:=λ_ _ _ _ _ st h=>G0 st.1.choose_spec h
def zf(K:Ag)(ta:TA):TI:=λσ H R=>ta σ H λvs H1=>∃a,vs=[.ref a]/\(∃xs,SqT K H1 a xs)/\R (vj K a) H1
theorem O7{X:Cx}{elts:List Expr}{kk:Nat}{tpos:Pos}{e1:Expr}{ta:TA}{p pos:Pos}(hg:Gl X "enumerate")(hm:X.mg "enumerate"=af)(ha:PA X [e1] ta)(hs:Au [e1] X.env=[(ai,eval e1 X.env)]:=by rfl):
  PI X (.Tuple elts kk tpos) (.Call (.Name "enumerate" p) [e1] [] pos) (zf X.K ta):=by
 intro pins s σ H R I h;refine Call_ (lM I hg hm boot_enumerate (D1 (bj (ha pos pins s σ H _ I h) λus s1 ⟨vs,H1,I1,r1,q1⟩=>?_) (by rw[hs];rfl) rfl));obtain⟨a,e,⟨xs,qa⟩,q⟩:=q1;subst e;cases r1 with
 |cons r rr=>
  cases rr;cases r;obtain⟨its,rv,pp,_⟩:=I1.tuple qa;have la:a < s1.heap.objs.size:=by obtain⟨_,e,_⟩:=id pp;exact Ar e
  refine AF (show s1.heap.IsTuple a its.toArray from pp) λh' a1 a2 a3=>G0 (s:={ s1 with heap:=h'}) a1 ?_;refine⟨_,_,_,_,H1,rfl,I1.kept (t':=s1.toks) a3,BX (Nat.succ_ne_self _) (Bf la) (D0 (Dr la)),⟨⟨_,a1⟩,a2⟩,λc hc=>?_,q⟩;have hlt:s1.heap.objs.size<=c:=by
   simp only[A5,A9,or_false]at hc;rcases hc with rfl|rfl<;>omega
  exact I1.fpOk hlt (I1.hok.fresh hlt)
end L2
namespace DL
open PySem L2 Nb
section
variable{X:Cx}{a b e o:Expr}{ta tb te td ty:TE}{wa wb we wd' wy:DT}{pos p p2:Pos}{K:Ag}{H:Hp}{B:Addr->Prop}{l:List (List b9×V)}{m:List (List b9×Ah)}
def Mz(m:List (List b9×Ah))(k:List b9):Bool:=m.any λkv=>decide (kv.1=k)
def ly(m:List (List b9×Ah))(k:List b9)(d:Ah):List (List b9×Ah):=if Mz m k=ah then m.map (λkv=>if kv.1=k then(kv.1,d)else kv)else m++[(k,d)]
end
section
variable{X:Cx}{a b e o i f:Expr}{ta tb te td ty:TE}{wa wb we wd' wy:DT}{pos p p2:Pos}{K:Ag}
def fY(k:Int)(xs:List Ah):List Ah:=xs.zipIdx.map λq=>.tuple [.int (k+q.2),q.1]
theorem ja{k:Int}{xs:List Ah}:(fY k xs).length=xs.length:=by unfold fY;rw[Ap,List.length_zipIdx]
theorem sr{k:Int}{xs:List Ah}{i:Nat}{d:Ah}(h:(fY k xs)[i]?=ae d):∃x,xs[i]?=ae x/\d=.tuple [.int (k+i),x]:=by
 unfold fY at h;rw[Be,G6]at h;cases e:xs[i]? with
 |none=>rw[e]at h;cases h
 |some x=>
  rw[e]at h;refine⟨x,rfl,?_⟩;have:=Bp h;rw[<-this,Nat.zero_add]
theorem GZ{k:Int}{x:Ah}{xs:List Ah}:fY k (x::xs)=.tuple [.int k,x]::fY (k+1) xs:=by
 refine List.ext_getElem? λi=>?_;unfold fY;cases i with
 |zero=>rw[List.zipIdx_cons,Aq,Bc,Bc,Int.natCast_zero,Int.add_zero]
 |succ i=>
  rw[Bo,Be,Be,G6,G6,Bo];cases xs[i]? with
  |none=>rfl
  |some y=>
   show ae (Gq [.int (k+(0+(i+1):Nat)),y])=ae (.tuple [.int (k+1+(0+i:Nat)),y]);have:k+(0+(i+1):Nat)=k+1+(0+i:Nat):=by omega
   rw[this]
def sX(w:DT):gs:=λδ n Q=>w δ n λx n1=>∃xs,x=.d (.tuple xs)/\Q (fY 0 xs) n1
theorem MB{elts:List Expr}{kk:Nat}{tpos:Pos}(hg:Gl X "enumerate")(hm:X.mg "enumerate"=af)(ha:DE X a ta wa)(hK:X.K=K:=by rfl)(hs:Au [a] X.env=[(ai,eval a X.env)]:=by rfl)(he1:Au [a] X.env=(ai,eval a X.env)::Au [] X.env:=by rfl):
  DI X (.Tuple elts kk tpos) (.Call (.Name "enumerate" p) [a] [] pos) (zf K (cE ta bG)) (sX wa):=by
 subst hK;refine⟨O7 hg hm (cy ha.pe c9 he1) hs,λC H B σ δ n Q Q' R q k=>ha.sd C H B σ δ n _ _ R q λv x H1 n1 R1 k1 r1 q1=>?_⟩;obtain⟨xs,rfl,q2⟩:=q1;cases(show RdX H1 B v (.tuple xs)from r1)with
 |@tup aa vs _ e1 e2 e3 e4=>
  refine⟨aa,rfl,⟨vs,SqT.of e1⟩,k _ (fY 0 xs) H1 n1 R1 k1 (λfz th=>?_) q2⟩;have za:fz aa=ae (.tup vs):=th.2 _ _ e1 e2;refine⟨by rw[ja,<-e4.len];exact e3,λi H hH hi=>?_,λH hH=>?_,λi H x H' d hH hd hy=>?_⟩
  ·rw[ja]at hi;have h1:i < vs.length:=by rw[e4.len];exact hi
   exact⟨vs,vs[i],SqT.of (hH _ _ za),As h1⟩
  ·exact⟨vs,SqT.of (hH _ _ za),by rw[ja,e4.len]⟩
  ·obtain⟨T,x1,rfl,hT,rfl,hx⟩:=hy;refine⟨λb o e=>by rw[aM (bQ e hT)];exact e,λB' hB hBa=>?_⟩;obtain⟨y,hy,rfl⟩:=sr hd;obtain⟨u1,hu1,ru1⟩:=e4.getD hy;have t1:=hx _ (SqT.of (hH _ _ za));rw[hu1]at t1;cases t1;have mv:∀b o,H1 b=ae o->¬B b->upd H T (.tup [.int i,x1]) b=ae o/\¬B' b:=λb o e ne=>by
    have:=hH _ _ (th.2 _ _ e ne);exact⟨by rw[aM (bQ this hT)];exact this,hB _ _ (th.2 _ _ e ne)⟩
   rw[Int.zero_add];exact .tup bw (λz=>hBa T z hT) (by show 2<=Ao;decide) (.cons (.int _) (.cons (ru1.move mv) .nil))
end
end DL
namespace Nb
open PySem L2 DL
theorem pU{a b:Bool}{A:Prop}{F:Bool->Prop}(h:F (a || b))(hA:F b->A):if a=ah then F ah else A:=by
 cases a with
 |true=>exact h
 |false=>exact hA h
theorem qQ{a b:Bool}{A:Prop}{F:Bool->Prop}(h:F (a&&b))(hA:a=ah->F b->A):if a=ah then A else F ai:=by
 cases a with
 |true=>exact hA rfl h
 |false=>exact h
theorem CD{lo hi:Int}{d:Ah}{n:Int}{Q:DQ}(k:Q (.d (.bool (qL lo hi d))) n):
  if j4 d=ah then(b7 (λi j=>decide (i<=j)) (λi j=>!decide (j < i)) (.d (.int lo)) (.d d) n λz n3=>iy z (b7 (λi j=>decide (i<=j)) (λi j=>!decide (j < i)) (.d d) (.d (.int hi)) n3 Q) (Q (.d (.bool ai)) n3))else Q (.d (.bool ai)) n:=by
 cases d with
 |int i=>
  simp only[j4,if_true,b7,fg];simp only[qL]at k;refine mC (λe=>?_) (λe=>?_)
  ·rw[e]at k;exact k
  ·rw[e]at k;exact k
 |_=>exact k
theorem Mo{Q:DQ}{n:Int}(x:Str)(h:Q (.d (.bool (x.cps.toList.all jb))) n):c8 (bg 0) aX (df d9 d9 (wC (.str "a")) ↥0 (wC (.str "z")))
  (λds n1=>match eU ds with|some bs=>Q (.d (.bool (bs.all id))) n1|none=>False) (gw x) [] [af] n:=by
 refine mB kZ (λd=>.bool (okD d)) ?_ _ _ _ _ (CH x) ?_
 ·rintro d n Q' ⟨c,rfl⟩ k
  simp only[ak,Qq,mY,l4,dJ,cQ,du,wC,w2,cT,df,fg,d3,dE,bV,a9,eK,cD,aj,ao,aq,aA,aJ,aT,wB,a8,aw,aC,bB,bb,gN,fj,bu,cq,gI,e9,eF,aG,b7,bK,iZ,bL,gu,aY,aU,bR,Ri,bF,fk,kL,iD,cX,eS,jB,cv,dD,aX,bg,dm,Di,Bc,Bo,Bw,Ca,Aq,A7,C6,gF,gL,gC,gm,gB];refine mC (λe=>?_) (λe=>?_)
  ·simp only[okD,e,C3]at k;exact k
  ·simp only[okD,e,E6]at k;exact k
 ·show match eU ((gw x).map λd=>.bool (okD d))with|some bs=>Q (.d (.bool (bs.all id))) n|none=>False
  simp only[kI,nF,Jr];exact h
theorem SE{Q:DQ}{n:Int}(ds:List Ah)(h:Q (.d (.bool (ds.all dw))) n):c8 (bg 0) aX (aT (bf dw) (ao ↥0 aj))
  (λds n1=>match eU ds with|some bs=>Q (.d (.bool (bs.all id))) n1|none=>False) ds [] [af] n:=by
 refine mB (λ_=>True) (λd=>.bool (dw d)) ?_ _ _ _ _ (λ_ _=>trivial) ?_
 ·exact λd n Q' _ k=>k
 ·show match eU (ds.map λd=>.bool (dw d))with|some bs=>Q (.d (.bool (bs.all id))) n|none=>False
  simp only[kI,nF];exact h
theorem K8{n many:Int}{Q:DQ}(h:n < 2 ^ 40)(h0:0 < many)(h1:many < 1073741824)(k:∀r:Int,0<=r->r < many->Q (.d (.int r)) (n+1)):gY [.tp,.d (.int many)] n Q:=⟨⟨h,h0,h1⟩,k⟩
def iw:Ah->Ah
 |.tuple (_::d::_)=>d
 |_=>.none
def fQ(h:Str)(k:Int):Ah->Bool
 |.tuple ds=>decide ((ds.length:Int)=k)&&(match ds with|a::_=>cz h a|[]=>ai)
 |_=>ai
def lV(h:Str)(d:Ah):Bool:=fQ h 2 d&&aQ 4 (iw d)
def eE(d:Ah):Bool:=if fQ "is" 2 d=ah then dw (iw d)else lV "as" d
def dM(d:Ah):Bool:=(fQ "any" 1 d || (fQ "word" 1 d || fQ "number" 1 d)) || (eE d || lV "bind" d)
def gW(d:Ah):Bool:=eE d || lV "next" d
def gc:Ah->Bool
 |.tuple ds=>decide ((1:Int)<=(ds.length:Int))&&decide ((ds.length:Int)<=4)
 |_=>ai
def xk:Ah->List Ah
 |.tuple ds=>ds
 |_=>[]
def ft(d:Ah):Bool:=gc d&&(xk d).all dM
def gD(d:Ah):Bool:=gc d&&(xk d).all gW
def gQ:ck:=λws n Q=>match ws with
 |[.d d,.d (.str h),.d (.int k)]=>1<=k/\Q (.d (.bool (fQ h k d))) n
 |_=>False
def iC:ck:=λws n Q=>match ws with
 |[.d d,.d (.str h)]=>Q (.d (.bool (lV h d))) n
 |_=>False
theorem eq_str(a:Ah)(h:Str):iY a (.str h)=ae (cz h a):=by cases a<;>rfl
theorem eq_int(i j:Int):iY (.int i) (.int j)=ae (decide (i=j)):=rfl
theorem oQ{α:Type}(a:α)(r:List α):dB (a::r) 0=ae a:=gh (j:=0) rfl
theorem EC{α:Type}(a b:α)(r:List α):dB (a::b::r) 1=ae b:=gh (j:=1) rfl
theorem Jl{h:Str}{k:Int}{d:Ah}(e:fQ h k d=ah):∃ds,d=.tuple ds/\(ds.length:Int)=k:=by
 cases d with
 |tuple ds=>
  refine⟨ds,rfl,?_⟩;have e:(decide ((ds.length:Int)=k)&&_)=ah:=e;rw[Cy]at e;exact of_decide_eq_true e.1
 |_=>cases e
theorem xh{h:Str}{d:Ah}(e:fQ h 2 d=ah):∃a b,d=.tuple [a,b]:=by
 obtain⟨ds,rfl,hl⟩:=Jl e;rcases ds with _|⟨a,_|⟨b,_|⟨c,r⟩⟩⟩
 ·cases hl
 ·cases hl
 ·exact⟨a,b,rfl⟩
 ·simp only[Bd]at hl;omega
section
variable{δ:Sl}{n:Int}{Q:DQ}{K:DEnds}{W V:aW}{i j:Nat}{a b d:Ah}{r ds:List Ah}{h:Str}
theorem aR(h:W δ n {K with nx:=λδ n=>V δ n K}):aw W V δ n K:=h
theorem aF{x:Wv}(e:δ[i]?=ae (ae (.w x)))(k:Q x n):ak i δ n Q:=by unfold ak;rw[e];exact k
theorem oK{m:Nat}(e:δ[i]?=ae (ae (.w (.d (.tuple ds)))))(e2:ds[m]?=ae a)(k:Q (.d a) n):w2 (ak i) (wC (.int (m:Int))) aY δ n Q:=by
 unfold w2;refine aF e ?_;unfold wC aY;simp only[gh e2];exact k
theorem mh(e:δ[i]?=ae (ae (.w (.d (.tuple (a::r))))))(k:Q (.d a) n):w2 (ak i) (wC (.int 0)) aY δ n Q:=oK (m:=0) e rfl k
theorem jQ(e:δ[i]?=ae (ae (.w (.d (.tuple (a::b::r))))))(k:Q (.d b) n):w2 (ak i) (wC (.int 1)) aY δ n Q:=oK (m:=1) e rfl k
theorem xm{d:Ah}(e:δ[i]?=ae (ae (.w (.d d))))(k:Q (.d (.bool (cz h d))) n):w2 (ak i) (wC (.str h)) bK δ n Q:=by
 unfold w2;refine aF e ?_;unfold wC bK;simp only[eq_str];exact k
theorem BH(e:δ[i]?=ae (ae (.w (.d (.tuple (a::r))))))(k:Q (.d (.bool (cz h a))) n):w2 (w2 (ak i) (wC (.int 0)) aY) (wC (.str h)) bK δ n Q:=by
 show w2 (ak i) (wC (.int 0)) aY δ n λx n1=>wC (.str h) δ n1 λy n2=>bK x y n2 Q;refine mh e ?_;unfold wC bK;simp only[eq_str];exact k
end
section
variable{δ:Sl}{n:Int}{Q:DQ}{K:DEnds}{W V:aW}{i j:Nat}{a b d:Ah}{r ds:List Ah}
theorem aL{wa wb:DT}{g:Wv->Wv->Int->DQ->Prop}(k:wa δ n λx n1=>wb δ n1 λy n2=>g x y n2 Q):w2 wa wb g δ n Q:=k
theorem eP{w:DT}{x:Ah}(h:∀Q:DQ,Q (.d x) n->w δ n Q)(k:K.nx (δ.set i (ae (.w (.d x)))) n):bb i w δ n K:=h _ k
theorem SS(k:K.nx (δ.set i (ae (.own []))) n):gN i (aA aj) δ n K:=⟨Bx _,k⟩
theorem lg(k:Q (.d a) n):aY (.d (.tuple (a::r))) (.d (.int 0)) n Q:=by
 show(match dB (a::r) 0 with|some d=>Q (.d d) n|none=>False);rw[oQ];exact k
theorem ix(k:Q (.d b) n):aY (.d (.tuple (a::b::r))) (.d (.int 1)) n Q:=by
 show(match dB (a::b::r) 1 with|some d=>Q (.d d) n|none=>False);rw[EC];exact k
theorem bx{c:Ah}(k:Q (.d c) n):wC c δ n Q:=k
theorem bU{w:DT}{g:List Wv->Int->DQ->Prop}(k:w δ n λx n1=>g [x] n1 Q):wB g (ao w aj) δ n Q:=k
theorem bO{w:DT}{S:ck}(k:w δ n λx n1=>S [x] n1 Q):aT S (ao w aj) δ n Q:=k
theorem fO{w w':DT}{S:ck}(k:w δ n λx n1=>w' δ n1 λy n2=>S [x,y] n2 Q):aT S (ao w (ao w' aj)) δ n Q:=k
theorem jY{w w' w'':DT}{S:ck}(k:w δ n λx n1=>w' δ n1 λy n2=>w'' δ n2 λz n3=>S [x,y,z] n3 Q):aT S (ao w (ao w' (ao w'' aj))) δ n Q:=k
theorem fu{w:gv}(k:w δ n λds n1=>Q (.d (.list ds)) n1):aJ w δ n Q:=k
theorem rV{fr:List (Option Nat)}{w e:DT}{g:fo}{c:cU}{Q:List Ah->Int->Prop}(hw:∀Q:DQ,Q (.d (.tuple ds)) n->w δ n Q)(k:c8 g c e Q ds [] (dD fr δ) n):cv fr (cX w) g c e δ n Q:=by
 unfold cv cX;exact hw _ k
theorem lL(e:δ[i]?=ae (ae (.w (.d (.tuple ds)))))(k:Q (.d (.int ds.length)) n):wB aU (ao (ak i) aj) δ n Q:=bU (aF e k)
theorem Me(e:δ[j]?=ae (ae (.w (.d (.tuple ds)))))(k:K.nx (δ.set i (ae (.own ds))) n):gN i (qu (ak j)) δ n K:=by
 unfold gN qu;exact aF e k
theorem bJ{w:DT}(k:w δ n K.rt):aC w δ n K:=k
theorem CG(e:δ[i]?=ae (ae (.own ds)))(k:W (δ.set i (ae (.w (.d (.list ds))))) n K):fj i W δ n K:=by
 unfold fj;rw[e];exact k
theorem LF(e:δ[i]?=ae (ae (.w (.d (.tuple ds)))))(k:Q (.d (.bool ah)) n):bR "tuple" (ak i) δ n Q:=by
 unfold bR;refine aF e ?_;show Q (.d (.bool (fS "tuple" (.tuple ds)))) n;rw[gm];exact k
theorem br{w:DT}{k:Bool}{Q:Bool->Int->Prop}(hw:∀Q':DQ,Q' (.d (.bool k)) n->w δ n Q')(q:Q k n):cT w δ n Q:=hw _ q
theorem RU{C:cU}(hc:∀Q:Bool->Int->Prop,Q ah n->C δ n Q)(hF:V δ n K):bB (bV C) W V δ n K:=hc _ (by show if (!ah)=ah then _ else _;exact hF)
theorem bC{C:cU}(hc:∀Q:Bool->Int->Prop,Q ai n->C δ n Q)(hF:V δ n K):bB C W V δ n K:=hc _ (by show if ai=ah then _ else _;rw[if_neg Ak];exact hF)
theorem bN{C:cU}(hc:∀Q:Bool->Int->Prop,Q ah n->C δ n Q)(hT:W δ n K):bB C W V δ n K:=hc _ (by show if ah=ah then _ else _;rw[if_pos rfl];exact hT)
theorem P2{A B:cU}{Q:Bool->Int->Prop}(ha:∀Q:Bool->Int->Prop,Q ai n->A δ n Q)(hb:B δ n Q):dE A B δ n Q:=ha _ (by show if ai=ah then _ else _;rw[if_neg Ak];exact hb)
theorem kH{A:cU}{k:Bool}{Q:Bool->Int->Prop}(ha:∀Q:Bool->Int->Prop,Q k n->A δ n Q)(q:Q (!k) n):bV A δ n Q:=ha _ q
end
theorem kf{g:fo}{W:aW}{K:DEnds}(I:List Ah->Sl->Int->Prop)(h0:∀δ n,I [] δ n->K.nx δ n)
  (h1:∀d r δ n (N:Sl->Int->Prop),I (d::r) δ n->(∀δ n,I r δ n->N δ n)->g d δ λδ'=>W δ' n {K with nx:=N,ct:=N,bk:=K.nx}):∀ds δ n,I ds δ n->cZ g W K ds δ n
 |[],δ,n,h=>h0 δ n h
 |d::r,δ,n,h=>h1 d r δ n (cZ g W K r) h (kf I h0 h1 r)
section
variable{δ:Sl}{n m:Int}{Q:DQ}{K:DEnds}{W V:aW}{i j:Nat}{ds:List Ah}
theorem Qc{w:DT}(e0:δ[0]?=ae (ae (.w .tp)))(hw:∀Q:DQ,Q (.d (.int m)) n->w δ n Q)(h:n < 2 ^ 40)(h0:0 < m)(h1:m < 1073741824)(k:∀r:Int,0<=r->r < m->Q (.d (.int r)) (n+1)):aT gY (ao ↥0 (ao w aj)) δ n Q:=
 fO (aF e0 (hw _ (K8 h h0 h1 k)))
theorem IL(e0:δ[0]?=ae (ae (.w .tp)))(h:n < 2 ^ 40)(h0:0 < m)(h1:m < 1073741824)(k:∀r:Int,0<=r->r < m->Q (.d (.int r)) (n+1)):aT gY (ao ↥0 (ao (wC (.int m)) aj)) δ n Q:=Qc e0 (λQ q=>bx q) h h0 h1 k
theorem ND(e0:δ[0]?=ae (ae (.w .tp)))(h:n < 2 ^ 40)(h0:0 < m)(h1:m < 1073741824)(k:∀r:Int,0<=r->r < m->K.nx (δ.set i (ae (.w (.d (.int r))))) (n+1)):bb i (aT gY (ao ↥0 (ao (wC (.int m)) aj))) δ n K:=IL e0 h h0 h1 k
theorem Th{w:DT}{x:Ah}{es:List Ah}(e:δ[i]?=ae (ae (.own es)))(hw:∀Q:DQ,Q (.d x) m->w δ n Q)(hl:es.length < 1000000)(k:K.nx (δ.set i (ae (.own (es++[x])))) m):bu i w δ n K:=by
 unfold bu;rw[e];exact hw _ (By hl k)
theorem Tt{w:DT}{es:List Ah}(e:δ[i]?=ae (ae (.own es)))(k:w δ n λx n1=>match x with
  |.d d=>es.length < 1000000/\K.nx (δ.set i (ae (.own (es++[d])))) n1
  |_=>False):bu i w δ n K:=by
 unfold bu;rw[e];exact k
theorem km{w w':DT}(k:w δ n λx n1=>w' δ n1 λy n2=>match dm [x,y]with
  |some ds=>ds.length<=1000/\Q (.d (.tuple ds)) n2
  |none=>False):aq (ao w (ao w' aj)) δ n Q:=k
theorem FP{w w' w'':DT}(k:w δ n λx n1=>w' δ n1 λy n2=>w'' δ n2 λz n3=>match dm [x,y,z]with
  |some ds=>ds.length<=1000/\Q (.d (.tuple ds)) n3
  |none=>False):aq (ao w (ao w' (ao w'' aj))) δ n Q:=k
end
section
variable{δ:Sl}{n m:Int}{Q:DQ}{K:DEnds}{W V:aW}{i j:Nat}{ds:List Ah}
theorem zA(k:Q (.d (.list [])) n):aJ (aA aj) δ n Q:=By (Bx _) k
end
theorem uy(hs:List Str):(hs.map C7).all ki=ah:=by
 rw[C8];intro d hd;obtain⟨x,_,rfl⟩:=Dc.mp hd;rfl
theorem f9{n:Int}{Q:DQ}{i:Nat}{x:Ah}{xs:List Ah}(h:xs[i]?=ae x)(k:Q (.d x) n):aY (.d (.tuple xs)) (.d (.int (i:Nat))) n Q:=by
 show(match dB xs ((i:Nat):Int)with|some d=>Q (.d d) n|none=>False);rw[gh h];exact k
theorem zm(xs:List Ah){p:Nat}(hp:p<=xs.length):c6 xs af (ae (p:Int))=xs.take p:=by
 unfold c6;rw[HT.sIx_nat];show(xs.drop 0).take (min p xs.length-0)=_;rw[List.drop_zero,Nat.sub_zero,Nat.min_eq_left hp]
def UC:ck:=λws n Q=>match ws with
 |[.d d,.d (.int k)]=>Q (.d (.bool (aQ k d))) n
 |_=>False
def UI(bare named:List Ah):Ah->Bool
 |.tuple [.str x]=>bZ (.str x) bare
 |.tuple [.str x,b]=>(decide (x="is")&&dw b) || (bZ (.str x) named&&aQ 4 b)
 |_=>ai
def qt:Ah->Str
 |.str x=>x
 |_=>⟨#[]⟩
def oj:List Ah->Bool
 |a::b::r=>decide ((qt a).cps.toList < (qt b).cps.toList)&&oj (b::r)
 |_=>ah
def kP:Ah->Bool
 |.tuple ds=>decide ((ds.length:Int)<=4)&&(ds.all (aQ 4)&&oj ds)
 |_=>ai
abbrev BP:Int:=1000000000000000000000000000000
mutual
def BK(L:Nat):Nat->Ah->Bool
 |_,.none=>ah
 |_,.bool _=>ah
 |_,.int i=>decide (-(BP+(L:Int))<=i)&&decide (i<=BP+(L:Int))
 |_,.str x=>decide (x.length<=60)&&A8 x
 |k,.list ds=>decide (0 < k)&&(decide (ds.length<=L)&&vY L (k-1) ds)
 |k,.tuple ds=>decide (0 < k)&&(decide (ds.length<=L)&&vY L (k-1) ds)
 |_,.dict _=>ai
def vY(L:Nat):Nat->List Ah->Bool
 |_,[]=>ah
 |k,d::r=>BK L k d&&vY L k r
end
def kW(ks:List Str):Ah:=.tuple (ks.map .str)
inductive Fe where
 |any|word|num|isv (d:Ah)|bind (k:Str)|as (k:Str)|nx (k:Str)
def Fe.hd:Fe->Str
 |.any=>"any"
 |.word=>"word"
 |.num=>"number"
 |.isv _=>"is"
 |.bind _=>"bind"
 |.as _=>"as"
 |.nx _=>"next"
def Fe.tl:Fe->List Ah
 |.any=>[]
 |.word=>[]
 |.num=>[]
 |.isv d=>[d]
 |.bind k=>[.str k]
 |.as k=>[.str k]
 |.nx k=>[.str k]
def Fe.d(f:Fe):Ah:=.tuple (.str f.hd::f.tl)
def ej(k:Str):Prop:=aQ 4 (.str k)=ah/\A8 k=ah
def qE(d:Ah):Bool:=dw d&&BK 60 0 d
def Fe.ok:Fe->Prop
 |.isv d=>qE d=ah
 |.bind k=>ej k
 |.as k=>ej k
 |.nx k=>ej k
 |_=>True
def Fe.bd:Fe->Option Str
 |.bind k=>ae k
 |_=>af
def Fe.us:Fe->Option Str
 |.as k=>ae k
 |.nx k=>ae k
 |_=>af
def bH(fs:List Fe):List Str:=fs.filterMap Fe.bd
def Fe.pt:Fe->Bool
 |.nx _=>ai
 |_=>ah
def Fe.tm:Fe->Bool
 |.isv _=>ah
 |.as _=>ah
 |.nx _=>ah
 |_=>ai
def Fe.te:Fe->Bool
 |.isv _=>ah
 |.as _=>ah
 |_=>ai
def fq(fs:List Fe):Prop:=fs.length<=4/\∀f∈fs,f.ok
inductive Ac where
 |lay (fs:List Fe) (age:Ah)|take (fs:List Fe)|read (fs:List Fe)|look (fs:List Fe) (b:Nat)|same (f g:Fe) (b:Nat)|go (b:Nat)
def gj(fs:List Fe):Ah:=.tuple (fs.map Fe.d)
def Ac.d:Ac->Ah
 |.lay fs age=>.tuple [.str "lay",gj fs,age]
 |.take fs=>.tuple [.str "take",gj fs]
 |.read fs=>.tuple [.str "read",gj fs]
 |.look fs b=>.tuple [.str "look",gj fs,.int b]
 |.same f g b=>.tuple [.str "same",f.d,g.d,.int b]
 |.go b=>.tuple [.str "go",.int b]
def Ac.bs:Ac->List Str
 |.take fs=>bH fs
 |.read fs=>bH fs
 |.look fs _=>bH fs
 |_=>[]
def Ac.fs:Ac->List Fe
 |.lay fs _=>fs
 |.take fs=>fs
 |.read fs=>fs
 |.look fs _=>fs
 |.same f g _=>[f,g]
 |.go _=>[]
def Ac.to:Ac->Option Nat
 |.look _ b=>ae b
 |.same _ _ b=>ae b
 |.go b=>ae b
 |_=>af
def BJ(d:Ah):Prop:=d=.none\/∃i:Int,d=.int i/\1<=i/\i<=20
def kF(fs:List Fe):Prop:=1<=fs.length/\∀f∈fs,f.pt=ah
def Ac.pat:Ac->Prop
 |.take fs=>kF fs
 |.read fs=>kF fs
 |.look fs _=>kF fs
 |.lay fs age=>(∀f∈fs,f.tm=ah)/\BJ age/\1<=fs.length
 |.same f g _=>f.te=ah/\g.te=ah
 |.go _=>True
def j7(a:Ac):Prop:=fq a.fs/\a.pat
abbrev Bl:=List Str×List Ac
def di(b:Bl):Ah:=.tuple [kW b.1,.tuple (b.2.map Ac.d)]
def cg(bs:List Bl):Ah:=.tuple (bs.map di)
def kn(w:List Str)(as:List Ac)(p:Nat):List Str:=w++(as.take p).flatMap Ac.bs
def qF:List Str->List Fe->Bool
 |_,[]=>ah
 |ks,f::r=>(match f.us with|some k=>decide (k∈ks)|none=>ah)&&qF (ks++f.bd.toList) r
def iX(P:List Bl)(ks:List Str):Option Nat->Bool
 |none=>ah
 |some b=>match P[b]? with
  |some bl=>bl.1.all λk=>decide (k∈ks)
  |none=>ai
def iq(b:Bl):Prop:=b.1.length<=4/\(∀k∈b.1,ej k)/\b.2.length<=8/\∀a∈b.2,j7 a
theorem LA(P:List Bl)(o:Option Nat){ks ks':List Str}(h:∀k,k∈ks↔k∈ks'):iX P ks o=iX P ks' o:=by
 cases o with
 |none=>rfl
 |some b=>
  show(match P[b]? with|some bl=>bl.1.all λk=>decide (k∈ks)|none=>ai)=(match P[b]? with|some bl=>bl.1.all λk=>decide (k∈ks')|none=>ai);cases P[b]? with
  |none=>rfl
  |some bl=>
   show(bl.1.all λk=>decide (k∈ks))=bl.1.all λk=>decide (k∈ks')
   congr 1
   funext k
   exact decide_eq_decide.mpr (h k)
def kO:ck:=λws n Q=>∃fs:List Fe,ws=[.d (gj fs)]/\fq fs/\∀ys:List Str,ys.length<=4->(∀k,k∈ys↔k∈bH fs)->Q (.d (kW ys)) n
def wG:ck:=λws n Q=>∃(P:List Bl)(i p:Nat)(b:Bl),ws=[.d (cg P),.d (.int i),.d (.int p)]/\P[i]?=ae b/\iq b/\p<=b.2.length/\∀ys:List Str,ys.length<=40->(∀k,k∈ys↔k∈kn b.1 b.2 p)->Q (.d (kW ys)) n
def vN:ck:=λws n Q=>∃a:Ac,ws=[.d a.d]/\Q (.d (gj a.fs)) n
def bW(ks:List Str):List Fe->List Fe->Option Nat
 |_,[]=>af
 |dn,f::r=>match f.us with
  |some k=>if k∈ks\/k∈bH dn then bW ks (dn++[f]) r else ae dn.length
  |none=>bW ks (dn++[f]) r
def ia:Option Nat->Ah
 |some k=>.int k
 |none=>.none
def vH:ck:=λws n Q=>∃(fs:List Fe)(ks:List Str),ws=[.d (gj fs),.d (kW ks)]/\fq fs/\Q (.d (ia (bW ks [] fs))) n
def pK:ck:=λws n Q=>∃(P:List Bl)(b:Nat)(ks:List Str),ws=[.d (cg P),.d (.int b),.d (kW ks)]/\Q (.d (.bool (iX P ks (ae b)))) n
end Nb
namespace L2
open PySem PySem.Spec PyProof.Rows
section
variable{prog:Bj}{w:Bu}{A:B3}{E:Af->Ai->Prop}{h:Heap}{g:Array GenState}{d:Drawn}{t:Nat}{os:OsState}
variable{nm q:Str}{C N:Addr}{bs bm bmB:List Af}{hdct:Bool}{sn:List Str}{sub:List Af}{ab:Bool}{col:Option Bool}{dd:Option Addr}{k0 k1 k2 k3 k5:Option Af}{B newId initId:String}
theorem I0(F:ExcBaseFacts B newId initId bmB)(T:OwnTail h bmB bm){K:Ag}{rest:List Af}{fI:Addr}{oI:Obj}{Q:PySem.Fin->Ai->Prop}
  (hC:h.get? C=ae (E4 nm q C N bs bm hdct sn sub ab col dd k0 k1 k2 k3 k5 newId)) (X:K.In h) (hi:Cr K (.ref C) "__init__"=ae (ae (.ref fI)))
  (hfI:h.get? fI=ae oI) (hfc:oI.cls=.type "function")
  (hq:∀h' e,Heap.MadeExcOf h h' e (.ref C) rest->e=h.objs.size+1->
   Az (Bg prog w) A (call (.ref fI) (.ref e::rest)) (λr s'=>r=.none/\Q (.done (.ret (.ref e))) s') E ⟨h',g,d,t,os⟩) (hrest:rest.length<=Ao):
  Az (Bg prog w) A (D9.«type.__call__» ⟨.ref C::rest,[]⟩) Q E ⟨h,g,d,t,os⟩:=by
 repeat (first|with_reducible refine E2 hC ?_|with_reducible refine wpAny_madeBy_exc hC ?_|wp_step)
 refine codeAny_call_builtin_code (Code.quiet_builtin _ F.quiet) (wpAny_check_new_subT F T hC ?_);refine codeAny_exc_new_subT F T hC ?_ hrest;show Az _ _ _ _ _ _;have hC₁:=Ae {cls:=.ref C,data:=.fields #[.ref h.objs.size,.none,.none,.none,.bool ai,.none]}
  (Ae {cls:=.type "tuple",data:=.seq rest.toArray} hC)
 have hfI₁:=Ae {cls:=.ref C,data:=.fields #[.ref h.objs.size,.none,.none,.none,.bool ai,.none]}
  (Ae {cls:=.type "tuple",data:=.seq rest.toArray} hfI)
 have X₁:=X.keeps (h':=(h.push {cls:=.type "tuple",data:=.seq rest.toArray}).push {cls:=.ref C,data:=.fields #[.ref h.objs.size,.none,.none,.none,.bool ai,.none]}) λb o e=>Ae _ (Ae _ e);have hget:((h.push {cls:=.type "tuple",data:=.seq rest.toArray}).push
   { cls:=.ref C,data:=.fields #[.ref h.objs.size,.none,.none,.none,.bool ai,.none]}).get? (h.objs.size+1)=ae
   { cls:=.ref C,data:=.fields #[.ref h.objs.size,.none,.none,.none,.bool ai,.none]}:=by heap_get
 have hcC:(Bq C::bm).contains (.ref C)=ah:=by simp
 unfold isInstance
 repeat (first|with_reducible refine E2 hget ?_|(with_reducible refine Hi hC₁ ?_;rw[hcC])|wp_step)
 show Az _ _ (typeLookup (.ref C) _) _ _ _;refine(PySem.W.looks_findIn X₁ hi).at ?_;refine Dd (Ad ?_);unfold bindSpecial;refine Ad (Gz (T:="function") ⟨_,hfI₁,hfc⟩ ?_);rw[if_pos ∎];refine Aj (Ad (Cq (hq _ (h.objs.size+1) ⟨λb o hb=>Ae _ (Ae _ hb),G7 (Gr _),h.objs.size,hget,G7 (Av _),?_⟩ rfl) (λr s' hr=>?_) λ_ _ x=>x))
 ·exact Ae _ (Heap.get?_push_at rfl rfl)
 ·obtain⟨rfl,hQ⟩:=hr
  wp_walk
  exact hQ
theorem SJ(F:ExcBaseFacts B newId initId bmB)(T:OwnTail h bmB bm){K:Ag}{rest:List Af}{fI:Addr}{oI:Obj}{Q:Af->Ai->Prop}
  (hC:h.get? C=ae (E4 nm q C N bs bm hdct sn sub ab col dd k0 k1 k2 k3 k5 newId)) (X:K.In h) (hi:Cr K (.ref C) "__init__"=ae (ae (.ref fI)))
  (hfI:h.get? fI=ae oI) (hfc:oI.cls=.type "function")
  (hq:∀h' e,Heap.MadeExcOf h h' e (.ref C) rest->e=h.objs.size+1->
   Az (Bg prog w) (A.under (.builtin "type.__call__" ⟨.ref C::rest,[]⟩)) (call (.ref fI) (.ref e::rest)) (λr s'=>r=.none/\Q (.ref e) s') E ⟨h',g,d,t,os⟩) (hrest:rest.length<=Ao):
  Az (Bg prog w) A (call (.ref C) rest) Q E ⟨h,g,d,t,os⟩:=by
 have f1:=tc_lookup;have f2:=tc_bind (.ref C);have hT:(⟨h,g,d,t,os⟩:Ai).TypeIs (.ref C) "type":=⟨_,hC,rfl⟩;refine wpAny_call (codeAny_of_tree ?_);show Az _ _ (callAny (.ref C) _) _ _ _
 repeat (any_goals (first|assumption|with_reducible refine E2 hC ?_|wp_step))
 refine⟨rfl,?_⟩;refine codeAny_call_builtin_at (Code.quiet_builtin _ ∅) entry_typeCall (wpAny_check_type_call_sub hC (I0 (hrest:=hrest) F T hC X hi hfI hfc λh' e hm he=>?_));exact hq h' e hm he
end
abbrev kx(t:Addr):Data:=.fields #[.ref t,.none,.none,.none,.bool ai,.none]
section
variable{prog:Bj}{w:Bu}{A:B3}{E:Af->Ai->Prop}{h:Heap}{g:Array GenState}{d:Drawn}{t:Nat}{os:OsState}
variable{nm q:Str}{C N e t0:Addr}{bs bm bmB:List Af}{hdct:Bool}{sn:List Str}{sub:List Af}{ab:Bool}{col:Option Bool}{dd:Option Addr}{k0 k1 k2 k3 k5:Option Af}{B newId initId:String}
theorem OR(F:ExcBaseFacts B newId initId bmB)(T:OwnTail h bmB bm){rest:List Af}{Q:Af->Ai->Prop}
  (hC:h.get? C=ae (E4 nm q C N bs bm hdct sn sub ab col dd k0 k1 k2 k3 k5 newId)) (he:h.get? e=ae {cls:=.ref C,data:=kx t0})
  (hq:∀h',(∀b o,b≠e->h.get? b=ae o->h'.get? b=ae o)->h'.get? e=ae {cls:=.ref C,data:=kx h.objs.size}->h.get? h.objs.size=af->h.objs.size<=h'.objs.size->Q .none ⟨h',g,d,t,os⟩) (hrest:rest.length<=Ao):
  Az (Bg prog w) A (call (.builtin initId) (.ref e::rest)) Q E ⟨h,g,d,t,os⟩:=by
 refine wpAny_call (Gd F.init.plain F.initEntry (wpAny_check_init_subT F T hC he rfl ?_));have hlt:=Ar he
 wp_walk
 refine hq _ (λb o hbe hb=>?_) ?_ (G7 (Av _)) ?_
 ·rw[Dq _ _ (Ne.symm hbe)];exact Ae _ hb
 ·rw[Bz _ (Ae _ he) rfl];rfl
 ·simp only[Heap.size_update,Ct];omega
end
end L2
namespace L2
open PySem PySem.Spec PyProof.Rows PySem.W Builtin Builtin.ObjectAttr
abbrev gX:List Af:=[.type "ValueError",.type "Exception",.type "BaseException",.type "object"]
section
variable{prog:Bj}{w:Bu}{A:B3}{E:Af->Ai->Prop}{s:Ai}{K:Frag}{C C0 x:Addr}{vs:Array Af}{sl:Array (Option Af)}{name:Str}{v:Af}{cd:ClassData}{Q:Unit->Ai->Prop}
theorem rg(X:K.In s.heap)(hx:s.heap.get? x=ae ⟨.ref C,af,.fields vs,sl⟩)(hs:findIn K (.ref C) "__setattr__"=ae (ae (.builtin "object.__setattr__")))
  (hc:clsIn K C=ae cd) (hm:cd.mro=.ref C::.ref C0::gX) (hd:cd.hasDict=ah) (ht:findIn K (.ref C) name=ae af)
  (hq:∀h',(∀b o,b≠x->s.heap.get? b=ae o->h'.get? b=ae o)->h'.get? x=ae ⟨.ref C,ae s.heap.objs.size,.fields vs,sl⟩->h'.Ns1 s.heap.objs.size (λy=>if y=name then ae v else af)->
   Q () {s with heap:=h',toks:=s.toks+2}):
  Az (Bg prog w) A (setAttr (.ref x) name v) Q E s:=by
 have J:InstAt s.heap x ⟨.ref C,af,.fields vs,sl⟩ C af:=⟨hx,rfl,rfl,trivial⟩;have SF:=PySem.F.store_object;refine set_plain X J hs ?_;have ne:cd.mro.isEmpty=ai:=by rw[hm];rfl
 have sub:Looks (Bg prog w) s.heap (isInstance (.ref x) (.type "object")) ah:=J.type.andThen (looks_mroIn X (by unfold mroIn;rw[hc,Option.bind_some,if_neg (by rw[ne];decide),hm];rfl));refine Gd SF.slot.plain SF.entry (@check_slot (Bg prog w) _ _ {s with toks:=s.toks+1} "object.__setattr__" "object" "__setattr__" (.ref x) [.str name s.toks,v] [] _ SF.kind SF.split sub (SF.args (.ref x) (.str name s.toks) v) ?_);have hmr:Looks (Bg prog w) s.heap (mroOf (.ref C)) cd.mro:=(looks_clsIn X hc).andThen .now;rw[osa_eq,refuse_eq];refine Ad (Ad (J.type.here (s:={ s with toks:=s.toks+1}) (Ad (hmr.here (s:={ s with toks:=s.toks+1}) ?_))));rw[hm,refuseLoop_ref,refuseLoop_ref,PySem.F.store_ValueError.passes];refine Aj (Ad (J.type.here (s:={ s with toks:=s.toks+1}) (Ad ((looks_findIn X ht).here (s:={ s with toks:=s.toks+1}) (Ad (Aj ?_))))));show Az _ _ (storeInOwnDict (.ref x) (.ref C) (.str name s.toks) name v ai) _ _ _;refine Ad (Aj (Ad (Ad (wpAny_loadPart hx (Ad (Looks.here (s:={ s with toks:=s.toks+1}) (looks_clsIn X hc) ?_))))));rw[hd];rw[if_neg ∎];show Az _ _ (if (!ah || !typeHasDict (Bq C))=ah then pure af else do
  let d <-alloc {cls:=Dn "dict",data:=Data.dict #[]}
  update x λo=>{ cls:=o.cls,dict:=ae d,data:=o.data,slots:=o.slots}
  dictMade (Bq C) x d) _ _ _
 rw[if_neg (by simp[typeHasDict])];have hx₁:(s.heap.push {cls:=.type "dict",data:=.dict #[]}).get? x=ae ⟨.ref C,af,.fields vs,sl⟩:=Ae _ hx;have hxs:x≠s.heap.objs.size:=Bf (Ar hx);refine Ad (wpAny_alloc' ?_);refine Ad (wpAny_update' hx₁ ?_);refine Aj ?_;have hgd:((s.heap.push {cls:=.type "dict",data:=.dict #[]}).update x λo=>{ cls:=o.cls,dict:=ae s.heap.objs.size,data:=o.data,slots:=o.slots}).get? s.heap.objs.size
   = ae {cls:=.type "dict",data:=.dict #[]}:=
  (Heap.get?_update_ne _ _ _ _ hxs.symm).trans (Heap.get?_push_at rfl rfl)
 have hnd:((s.heap.push {cls:=.type "dict",data:=.dict #[]}).update x λo=>{ cls:=o.cls,dict:=ae s.heap.objs.size,data:=o.data,slots:=o.slots}).Ns s.heap.objs.size (λ_=>af):=
  ⟨_,#[],_,hgd,rfl,λe he=>absurd he (by simp),λ_=>rfl⟩
 show Az _ _ (storeInDict s.heap.objs.size (.str name s.toks) name v) _ _ _;unfold storeInDict newKeyGuard;refine Ad (Aj (Ad (wpAny_nsSet1 (Heap.Ns1.of_empty hnd) λh' hn' hs'=>?_)));obtain⟨oD,esD,epD,hoD,hdD,hcD⟩:=hn'.count (Within.cons name v Within.nil);refine Ad (wpAny_lookBehind hoD (by rw[hdD];exact pastItsLine_dict (An hcD (by rw[Bd,List.length_nil,El];omega))) ?_);refine Aj (hq h' (λb ob hbx hb=>?_) ?_ ?_)
 ·exact(hs'.2 b (Bf (Ar hb))).trans ((Heap.get?_update_ne _ _ _ _ hbx).trans (Ae _ hb))
 ·exact(hs'.2 x hxs).trans (Bz _ hx₁ rfl)
 ·exact hn'
end
end L2
namespace L2
open PySem PySem.Spec PyProof.Rows
def xO(a C:Addr)(d:Option Addr)(t:Addr):HO:=.ext λh=>h.get? a=ae ⟨.ref C,d,kx t,#[]⟩
theorem sF{P:Bj}{w:Bu}{H:Hp}{h:Heap}{a C t:Addr}{d:Option Addr}(e:h.get? a=ae ⟨.ref C,d,kx t,#[]⟩):ObjOk P w H h a (xO a C d t):=⟨e,⟨_,e⟩,λ_ _ p k=>k _ p⟩
structure XCl(K:Ag)(C C0:Addr):Prop where
 obj:∃nm q N bs sn sub ab col dd k0 k1 k2 k3 k5,K.lookup C=ae (E4 nm q C N bs (.ref C0::gX) ah sn sub ab col dd k0 k1 k2 k3 k5 "ValueError.__new__")
 base:∃nm q N bs sn sub ab col dd k0 k1 k2 k3 k5 ni,K.lookup C0=ae (E4 nm q C0 N bs gX ah sn sub ab col dd k0 k1 k2 k3 k5 ni)
 tail:∀h,K.In h->OwnTail h gX (.ref C0::gX)
 sa:Cr K (.ref C) "__setattr__"=ae (ae (.builtin "object.__setattr__"))
 kp:Cf K (.ref C)=ah
 rd0:PySem.W.readsIn K C0 (.type "type")=ah
 sp0:PySem.W.specialIn K (.ref C0) "__getattribute__"=ae (ae (.builtin "type.__getattribute__"))
 in0:PySem.W.findCls K (.ref C0) (.type "type") "__init__"=ae (.val (.builtin "ValueError.__init__"))
def Mv(C:Addr)(f:Str)(ta tv:TE):TS:=λD σ H=>tv σ H λy H1=>ta σ H1 λx H2=>∃ea t0,x=.ref ea/\H2 ea=ae (xO ea C af t0) /\
 ∀dx,H2 dx=af->dx≠ea->D.nx σ (upd (upd H2 dx (.xd [(f,y)])) ea (xO ea C (ae dx) t0))
section
variable{X:Cx}{C C0:Addr}{x0 f:Str}{p apos pos pos':Pos}{e o value:Expr}{es:List Expr}{t:TA}{ta tv:TE}
theorem yD(c:XCl X.K C C0):∃cd,PySem.W.clsIn X.K C=ae cd/\cd.mro=.ref C::.ref C0::gX/\cd.hasDict=ah:=by
 obtain⟨nm,q',N,bs,sn,sub,ab,col,dd,k0,k1,k2,k3,k5,hC⟩:=c.obj;exact⟨_,by unfold PySem.W.clsIn;rw[hC],rfl,rfl⟩
theorem NJ(c:XCl X.K C C0)(hf:Cr X.K (.ref C) f=ae af)(ha:PE X o ta)(hv:PE X value tv)(hs:Fi value (ae (.Attribute o f pos')) pos.line X.env=pure ai):
  PS X (.Assign [.Attribute o f pos'] value pos) (Mv C f ta tv):=by
 intro pins s σ H D I h;refine plainObj_wpAny_Assign_Attribute (bj (hv pins s σ H _ I h) λu s1 ⟨y,H1,I1,ry,q⟩=>bj (ha pins s1 σ H1 _ I1 q) λov s2 ⟨x,H2,I2,rx,ea,t0,ex,he,q2⟩=>?_) hs;subst ex;obtain rfl:ov=Bq ea:=rx;obtain⟨cd,hcd,hmr,hdi⟩:=yD c;refine rg I2.kIn (I2.hok _ _ he).1 c.sa hcd hmr hdi hf λh' k e' nd=>?_;have hfr:H2 s2.heap.objs.size=af:=I2.hok.fresh (Av _);have hne:s2.heap.objs.size≠ea:=D0 (I2.hok.lt he);have n1:∀b,H2 b=af->b≠ea:=λb n z=>by subst z;rw[n]at he;cases he
 have n2:∀b u,H2 b=ae u->b≠s2.heap.objs.size:=λb u q z=>by subst z;rw[q]at hfr;cases hfr
 have n3:∀b u,H2 b=ae u->u≠xO ea C af t0->b≠ea:=λb u q d z=>by subst z;rw[q]at he;exact d (Bp he)
 have ud:∀b u,H2 b=ae u->u≠xO ea C af t0->upd (upd H2 s2.heap.objs.size (.xd [(f,y)])) ea (xO ea C (ae s2.heap.objs.size) t0) b=ae u:=λb u q d=>by
  rw[aM (n3 b u q d),aM (n2 b u q)];exact q
 refine⟨σ,_,I2.un (H':=upd (upd H2 s2.heap.objs.size (.xd [(f,y)])) ea (xO ea C (ae s2.heap.objs.size) t0)) (h':=h') ⟨λb ob z n _ _=>k b ob (n1 b n) z,λb ob z n _ _=>⟨ob.slots,k b ob (n1 b n) z⟩,λb ob z n _=>?_,λb ob z _=>?_,
  λb xs z=>ud b _ z (λd=>by cases d),λb ob xs z=>ud b _ z (λd=>by cases d),λb ps z=>⟨#[],by rw[ud b _ z (λd=>by cases d)];simp⟩⟩ ?_,q2 _ hfr hne⟩
 ·rw[aM (n1 b n),aM (Bf (Ar z))];exact n
 ·by_cases hb:b=ea
  ·subst hb;exact⟨_,e'⟩
  ·exact⟨ob,k b ob hb z⟩
 ·intro b ob z;by_cases hb:b=ea
  ·subst hb;rw[bw]at z;cases z;exact sF e'
  ·rw[aM hb]at z;by_cases hd:b=s2.heap.objs.size
   ·subst hd;rw[bw]at z;cases z;refine⟨_,nd,λg=>?_⟩;by_cases hg:g=f
    ·subst hg;rw[if_pos rfl];simp only[Gm,beq_self_eq_true];exact ry
    ·rw[if_neg hg];simp only[Gm,beq_false_of_ne hg];exact True.intro
   ·rw[aM hd]at z;refine(I2.hok b ob z).stay (λc' v hc r=>k c' v ?_ r) (λc' r=>ud c' _ r (λd=>by cases d)) λc' xs r=>ud c' _ r (λd=>by cases d);rcases hc with rfl|hc
    ·exact hb
    ·exact n3 c' _ hc (λd=>by cases d)
end
open Sem (wp)
def DK(h h':Heap):Prop:=∀(b:Nat)(o:Obj),h.objs[b]?=ae o->∃o',h'.objs[b]?=ae o'/\o'.dict=o.dict
theorem DK.refl(h:Heap):DK h h:=λ_ o e=>⟨o,e,rfl⟩
theorem DK.trans{h h1 h2:Heap}(x:DK h h1)(y:DK h1 h2):DK h h2:=λb o e=>by
 obtain⟨o1,e1,d1⟩:=x b o e;obtain⟨o2,e2,d2⟩:=y b o1 e1;exact⟨o2,e2,d2.trans d1⟩
theorem DK.upd{h:Heap}{a:Addr}{f:Obj->Obj}(hf:∀o,(f o).dict=o.dict):DK h (h.update a f):=λb o e=>by
 obtain⟨objs,l⟩:=h;show ∃o',(objs.modify a f)[b]?=ae o'/\_;rw[Array.getElem?_modify];have e':objs[b]?=ae o:=e;rw[e']
 split
 ·exact⟨f o,rfl,hf o⟩
 ·exact⟨o,rfl,rfl⟩
theorem DK.push{h:Heap}{o:Obj}:DK h (h.push o):=λb u e=>by
 obtain⟨objs,l⟩:=h;have e':objs[b]?=ae u:=e;have hb:b < objs.size:=(Array.getElem?_eq_some_iff.mp e').1;refine⟨u,?_,rfl⟩;show(objs.push o)[b]?=ae u;rw[Array.getElem?_push_lt hb];exact(Du hb).symm.trans e'
structure KD{α:Type}(t:Sem α):Prop where
 out:∀(M:Model)(Γ:PySem.Ctx)(P:α->Pos->Ai->Prop)(Ee:Af->Pos->Ai->Prop)(p:Pos)(s:Ai),wp M Γ t P Ee p s->wp M Γ t (λa p' s'=>P a p' s'/\DK s.heap s'.heap) Ee p s
namespace KD
variable{α β:Type}
theorem pure(a:α):KD (Pure.pure a:Sem α):=⟨λ_ _ _ _ _ s h=>⟨h,DK.refl _⟩⟩
theorem unsup(w:String):KD (PySem.unsupported w:Sem α):=⟨λ_ _ _ _ _ _ h=>h⟩
theorem bind{m:Sem α}{f:α->Sem β}(hm:KD m)(hf:∀a,KD (f a)):KD (m>>=f):=⟨λM Γ P Ee p s h=>by
 rw[Sem.wp_bind']at h ⊢;exact Sem.wp_mono M Γ m (λa p' s' h'=>Sem.wp_mono M Γ (f a) (λb p2 s2 h2=>⟨h2.1,h'.2.trans h2.2⟩) (λ_ _ _ x=>x) p' s' ((hf a).out M Γ P Ee p' s' h'.1)) (λ_ _ _ x=>x) p s (hm.out M Γ _ Ee p s h)⟩
theorem ite{c:Prop}[Decidable c]{t u:Sem α}(ht:KD t)(hu:KD u):KD (if c then t else u):=by split<;>assumption
theorem load(a:Addr):KD (PySem.load a):=⟨λM Γ P Ee p s h=>by
 unfold PySem.load at h ⊢;rw[Sem.wp_load]at h ⊢;obtain⟨o,e,h⟩:=h;exact⟨o,e,h,DK.refl _⟩⟩
theorem update(a:Addr)(f:Obj->Obj)(hf:∀o,(f o).dict=o.dict):KD (PySem.update a f):=⟨λM Γ P Ee p s h=>by
 unfold PySem.update at h ⊢;rw[Sem.wp_update]at h ⊢;exact⟨h.1,h.2,DK.upd hf⟩⟩
theorem stack:KD PySem.stack:=⟨λM Γ P Ee p s h=>by
 unfold PySem.stack at h ⊢;rw[Sem.wp_stack]at h ⊢;exact⟨h,DK.refl _⟩⟩
theorem alloc(o:Obj):KD (PySem.alloc o):=⟨λM Γ P Ee p s h=>by
 unfold PySem.alloc at h ⊢;rw[Sem.wp_alloc]at h ⊢;exact⟨h,DK.push⟩⟩
theorem field(v:Af)(i:Nat):KD (PySem.field v i):=⟨λ_ Γ P Ee p s h=>(wp_field_iff Γ v i _ Ee p s).mpr (by
 obtain⟨a,o,vs,x,e,ho,hd,hx,h⟩:=(wp_field_iff Γ v i P Ee p s).mp h;exact⟨a,o,vs,x,e,ho,hd,hx,h,DK.refl _⟩)⟩
theorem setField(v:Af)(i:Nat)(x:Af):KD (PySem.setField v i x):=⟨λ_ Γ P Ee p s h=>(wp_setField_iff Γ v i x _ Ee p s).mpr (by
 obtain⟨a,o,vs,e,ho,hd,hi,h⟩:=(wp_setField_iff Γ v i x P Ee p s).mp h;exact⟨a,o,vs,e,ho,hd,hi,h,DK.upd λo=>by unfold Obj.mapFields;split<;>rfl⟩)⟩
theorem MA(env:Env)(outer:List Env):KD (behindIsImport env outer):=by
 unfold behindIsImport
 repeat' with_reducible first|assumption|exact KD.pure _|exact KD.field _ _|apply KD.ite|apply KD.bind|intro _
theorem under:KD underTheClaimsCaller:=by
 unfold underTheClaimsCaller;exact KD.bind KD.stack λ_=>KD.pure _
theorem eG(env:Env)(i:Bool)(l:List Env):KD (keptBack env i l):=by
 cases l with
 |nil=>unfold keptBack;exact KD.ite (KD.pure _) (KD.bind under λ_=>KD.pure _)
 |cons=>exact KD.pure _
theorem AW:∀l:List Env,KD (readyFrames l)
 |[]=>KD.pure _
 |env::outer=>by
  have ih:=AW outer;unfold readyFrames
  split
  ·exact KD.bind (KD.load _) λ_=>KD.ite (KD.pure _) (KD.bind (MA _ _) λ_=>KD.bind (eG _ _ _) λ_=>KD.bind (KD.update _ _ λ_=>rfl) λ_=>ih)
  ·exact KD.unsup _
theorem obj(l:List Env):KD (frameObject l):=by
 cases l with
 |nil=>exact KD.pure _
 |cons env outer=>unfold frameObject;exact KD.bind (AW _) λ_=>KD.pure _
theorem frameOf(env:Env):KD (PySem.frameOf env):=by
 unfold PySem.frameOf frameEnvs;refine KD.bind (KD.bind KD.stack λ_=>KD.pure _) λ_=>KD.bind (obj _) λr=>?_
 split
 ·exact KD.pure _
 ·exact KD.unsup _
theorem place(f:Addr)(b:Bool):KD (entryPlaceOf f b):=by
 unfold entryPlaceOf;refine KD.bind KD.stack λ_=>?_
 split<;>exact KD.pure _
theorem flight(e:Af)(f:Option Addr):KD (setFlight e f):=by
 unfold setFlight;exact KD.bind (KD.field _ _) λ_=>KD.ite (KD.setField _ _ _) (KD.pure _)
theorem rF(ty:String)(vs:Array Af):KD (newObj (.type ty) (.fields vs)):=by
 have tl:KD (newObjAsIs (.type ty) (.fields vs)):=by unfold newObjAsIs;exact KD.bind (KD.alloc _) λ_=>KD.pure _
 unfold newObj;by_cases h:vs.size > Ao+2
 ·dsimp only;rw[if_pos h];exact KD.bind (KD.unsup _) λ_=>tl
 ·dsimp only;rw[if_neg h];exact tl
theorem entry(a b c d e:Af)(l:List Af):KD (EntryCells.newEntry a b c d e l):=rF _ _
theorem note(e:Af)(env:Env):KD (noteFrame e env):=by
 unfold noteFrame
 split
 ·refine KD.bind (KD.field _ _) λ_=>?_;have tl:∀(h:Af)(b:Bool)(f:Addr),KD (do PySem.setField e 1 (<-EntryCells.newEntry h (<-PySem.frameOf env) .none (Dh f) .none (<-entryPlaceOf f b))):=λh b f=>
   KD.bind (frameOf _) λ_=>KD.bind (place _ _) λ_=>KD.bind (entry _ _ _ _ _ _) λ_=>KD.setField _ _ _
  exact KD.ite (KD.bind (KD.field _ _) λ_=>KD.ite (KD.pure _) (KD.bind (KD.setField _ _ _) λ_=>tl _ _ _)) (tl _ _ _)
 ·exact KD.unsup _
theorem leave(env:Env)(e:Af):KD (leaving env e):=KD.bind (note _ _) λ_=>flight _ _
theorem any{t:Sem α}(k:KD t){M:Model}{A:B3}{Q:α->Ai->Prop}{E:Af->Ai->Prop}{s:Ai}(h:Az M A t Q E s):Az M A t (λa s'=>Q a s'/\DK s.heap s'.heap) E s:=
 λΓ p hΓ=>k.out M Γ _ _ p s (h Γ p hΓ)
end KD
theorem yG{H:Hp}{a b:Addr}{o u v:HO}(n:b≠a):upd (upd (upd H a o) b u) a v=upd (upd H b u) a v:=by
 funext c
 by_cases h:c=a
 ·subst h;rw[bw,bw]
 ·rw[aM h,aM h];by_cases h2:c=b
  ·subst h2;rw[bw,bw]
  ·rw[aM h2,aM h2,aM h]
def kj(H:Hp)(a:Addr):Hp:=λb=>if b=a then af else H b
theorem mL{H:Hp}{a:Addr}:kj H a a=af:=by unfold kj;rw[if_pos rfl]
theorem nQ{H:Hp}{a b:Addr}(h:b≠a):kj H a b=H b:=by unfold kj;rw[if_neg h]
theorem JI{H:Hp}{a:Addr}{o:HO}(n:H a=af):kj (upd H a o) a=H:=by
 funext b
 by_cases h:b=a
 ·subst h;rw[mL,n]
 ·rw[nQ h,aM h]
structure Fly(P:Bj)(w:Bu)(outer:List Env)(H:Hp)(s:Ai)(B:Heap)(t ea C dx:Addr)(H':Hp)(s':Ai):Prop where
 fly:Heap.FlyingW B outer ea (.ref C) (.ref t) s'.heap
 dict:∃o,s'.heap.get? ea=ae o/\o.dict=ae dx
 os:s'.os=s.os
 bare:AllBare s'.gens
 un:Un (cH outer) [] H H' s.heap s'.heap
 hok:HOk P w H' s'.heap
 hea:H' ea=af
 new:s.heap.objs.size<=ea
 old:∀(b:Addr)(o:Obj),s.heap.get? b=ae o->b∉cH outer->∀o',s'.heap.get? b=ae o'->B.get? b=ae o'
 trk:∀(b:Addr)(u:HO)(o:Obj),H' b=ae u->s'.heap.get? b=ae o->B.get? b=ae o
def gi(P:Bj)(w:Bu):gq:=λouter H s E e s'=>∃B t ea C dx H',e=.ref ea/\Fly P w outer H s B t ea C dx H' s'/\E (.ref C) (ae dx) H'
section
variable{M:Model}{A:B3}{E:Af->Ai->Prop}{env:Env}{s:Ai}{C N:Addr}{nm q:Str}{bs bm:List Af}{hdct:Bool}{sn:List Str}{sub:List Af}{ab:Bool}{col:Option Bool}{dd:Option Addr}{k0 k1 k2 k3 k5:Option Af}{newId:String}
theorem DN{x:Sem Af}{Q:Flow->Ai->Prop}(hbase:bm.contains (.type "BaseException")=ah)(hh:A.handled=af)
  (h:Az M A x (λv s₁=>∃e t d,v=.ref e/\s₁.heap.get? C=ae (E4 nm q C N bs bm hdct sn sub ab col dd k0 k1 k2 k3 k5 newId) /\
   s₁.heap.get? e=ae ⟨.ref C,d,kx t,#[]⟩/\E (.ref e) s₁) E s):
  Az M A (raiseStmt env (ae x) af) Q E s:=by
 have hcB:(Bq C::bm).contains (.type "BaseException")=ah:=by rw[List.contains_cons,hbase,Bool.or_true]
 unfold raiseStmt;refine Ad (Cq h (λv s₁ h₁=>?_) λ_ _ x=>x);obtain⟨e,t,d',rfl,hC,he,hE⟩:=h₁;obtain⟨hp,g,d,tk,os⟩:=s₁
 repeat (first|with_reducible refine E2 he ?_|with_reducible refine E2 hC ?_|(with_reducible refine Hi hC ?_;rw[hcB])|wp_step)
 exact wpAny_raiseNew_none hh hE
end
def wY(X:Cx)(C:Addr)(EX:St->Addr->Addr->Hp->Prop):Prop:=∀(pins:List (Addr×Obj))(σ:St)(H:Hp)(s:Ai)(ea dx t:Addr),Inv X pins σ H s->H ea=ae (xO ea C (ae dx) t)->X.s₀.heap.objs.size<=ea->EX σ C dx (kj H ea)->X.xe (.ref ea) s
theorem ObjOk.has{P:Bj}{w:Bu}{H:Hp}{h:Heap}{a:Addr}{o:HO}(x:ObjOk P w H h a o):∃ob,h.get? a=ae ob:=by
 cases o with
 |lst xs=>obtain⟨_,_,_,_,e⟩:=x;exact⟨_,e⟩
 |tup xs=>obtain⟨_,_,_,o,e,_⟩:=x;exact⟨_,e⟩
 |dK kvs=>obtain⟨_,_,_,_,o,_,_,e,_⟩:=x;exact⟨_,e⟩
 |dT kvs=>obtain⟨_,_,_,_,o,_,_,e,_⟩:=x;exact⟨_,e⟩
 |set S n=>obtain⟨o,_,_,_,e,_⟩:=x;exact⟨_,e⟩
 |ins C dx fs=>obtain⟨_,_,_,e,_⟩:=x;exact⟨_,e⟩
 |own y=>exact x
 |xd fs=>obtain⟨_,⟨_,_,_,e,_⟩,_⟩:=x;exact⟨_,e⟩
 |rng lo hi=>obtain⟨_,_,_,e⟩:=x;exact⟨_,e⟩
 |frz ob u=>obtain⟨e,_⟩:=x;exact⟨_,e⟩
 |tbl ps=>exact⟨_,x⟩
 |met f y=>exact⟨_,x⟩
 |ext φ=>exact x.2.1
theorem yA{h:Heap}{a:Addr}{o:Obj}(e:h.get? a=ae o):h.objs[a]?=ae o:=(Heap.get?_some_iff.mp e).1
theorem ua{h h':Heap}{a:Addr}{o o':Obj}(k:DK h h')(e:h.get? a=ae o)(e':h'.get? a=ae o'):o'.dict=o.dict:=by
 obtain⟨u,hu,d⟩:=k a o (yA e);rw[yA e']at hu;cases hu;exact d
section
variable{P:Bj}{w:Bu}{K:Ag}{mg:Str->Option Af}{base:Heap}{N:List Str}{qual:Str}{scope:Fb}{f:Addr}{cd:Af}{A:B3}{outer:List Env}{s₀:Ai}{H₀:Hp}{E:XK}{C:Addr}
theorem xG:wY (b8 (gi P w) P w K mg base N qual scope f cd A outer s₀ H₀ E) C λ_ C dx H=>E (.ref C) (ae dx) H:=by
 intro pins σ H s ea dx t I he sz hE;have get:s.heap.get? ea=ae ⟨.ref C,ae dx,kx t,#[]⟩:=(I.hok _ _ he).1;have sz':s₀.heap.objs.size<=ea:=sz;have stf:=I.stkFree;have fr:s.heap.FunFrames base (Dy qual scope s₀.heap.objs.size f cd::outer):=I.stack;have hfrs:∀b,b∈cH (Dy qual scope s₀.heap.objs.size f cd::outer)↔b=s₀.heap.objs.size\/b∈cH outer:=λb=>by
  show b∈s₀.heap.objs.size::cH outer↔_;exact A5
 have ob:Un (cH outer) [] H₀ H s₀.heap s.heap:=I.base;have inB:∀b o,s.heap.get? b=ae o->b≠ea->b≠s₀.heap.objs.size->b∉cH outer->(Ga s.heap (ea::cH (Dy qual scope s₀.heap.objs.size f cd::outer))).get? b=ae o:=λb o e n1 n2 n3=>
  PySem.W.hideAll_get _ e λhm=>(A5.mp hm).elim n1 λz=>((hfrs b).mp z).elim n2 n3
 have jh:∀b o,s₀.heap.get? b=ae o->b≠ea/\b≠s₀.heap.objs.size:=λb o e=>⟨Bf (Bn (Ar e) sz'),Bf (Ar e)⟩;have trkB:∀b u o,H b=ae u->b≠ea->s.heap.get? b=ae o->(Ga s.heap (ea::cH (Dy qual scope s₀.heap.objs.size f cd::outer))).get? b=ae o:=λb u o q n e=>
  PySem.W.hideAll_get _ e λhm=>(A5.mp hm).elim n λz=>by rw[stf b z]at q;cases q
 have fdat:∀b∈cH outer,∀o sl,s₀.heap.get? b=ae o->∀vs,({o with slots:=sl}:Obj).data≠.fields vs:=λb hb o sl e=>by
  obtain⟨_,o',e',hd⟩:=I.ok.funs.mem hb;rw[show s₀.heap.get? b=ae o' from e']at e;cases e;exact hd
 show Az (Bg P w) (A.deeper (Dy qual scope s₀.heap.objs.size f cd)) (leaving (Dy qual scope s₀.heap.objs.size f cd) (.ref ea)) _ _ s;refine Cq ((KD.leave _ _).any (wpAny_leaving_firstW (base:=Ga s.heap (ea::cH (Dy qual scope s₀.heap.objs.size f cd::outer))) (E:=λ_ _=>False) (Q:=λ_ s''=>∃h',Heap.LeftW (Ga s.heap (ea::cH (Dy qual scope s₀.heap.objs.size f cd::outer))) (Dy qual scope s₀.heap.objs.size f cd::outer) ea (.ref C) (.ref t) s.heap h'/\s''={ s with heap:=h'})
  I.ok.frames (PySem.W.funFrames_hide fr λenv he a ha=>.tail _ (Hf.mpr ⟨env,he,ha⟩)) rfl get (λb o q=>PySem.W.of_hideAll _ q) (PySem.W.hideAll_none _ (.head _)) rfl rfl rfl λh' hL=>⟨h',hL,rfl⟩)) (λ_ s'' h=>?_) λ_ _ z=>z.elim
 obtain⟨⟨h',⟨k1,⟨_,_,k2⟩,k3,k4⟩,rfl⟩,dk⟩:=h;have hen:(Ga s.heap (ea::cH (Dy qual scope s₀.heap.objs.size f cd::outer))).get? ea=af:=PySem.W.hideAll_none _ (.head _);have slo:∀b o,s₀.heap.get? b=ae o->H₀ b=af->b∈cH outer->∃sl,h'.get? b=ae {o with slots:=sl}:=λb o e n hb=>by
  obtain⟨sl,e1⟩:=ob.slot b o e n hb (by simp);obtain⟨sl',e2⟩:=k4 b _ e1 (fdat b hb o sl e);exact⟨sl',e2⟩
 have nea:∀b u,H b=ae u->u≠xO ea C (ae dx) t->b≠ea:=λb u q d z=>by subst z;rw[q]at he;exact d (Bp he)
 have dn:∀b u,H b=ae u->u≠xO ea C (ae dx) t->kj H ea b=ae u:=λb u q d=>by rw[nQ (nea b u q d)];exact q
 refine⟨_,t,ea,C,dx,kj H ea,rfl,⟨⟨k1,hen,k2,k3⟩,?_,I.os,I.bare,⟨λb o e n hb _=>?_,λb o e n hb _=>slo b o e n hb,λb o e n _=>?_,λb o e _=>?_,λb xs q=>dn b _ (ob.tups b xs q) λd=>(by cases d),
  λb o u q=>dn b _ (ob.frzs b o u q) λd=>(by cases d),λb ps q=>by obtain⟨more,z⟩:=ob.tbls b ps q;exact⟨more,dn b _ z λd=>(by cases d)⟩⟩,?_,mL,sz',?_,?_⟩,hE⟩
 ·obtain⟨oe,vs,T,oT,ts,he',_⟩:=k3;exact⟨oe,he',ua dk get he'⟩
 ·exact k1 b o (inB b o (ob.keep b o e n hb (by simp)) (jh b o e).1 (jh b o e).2 hb)
 ·have:=ob.free b o e n (by simp);by_cases h:b=ea
  ·subst h;exact mL
  ·rw[nQ h];exact this
 ·by_cases hb:b∈cH outer
  ·obtain⟨sl,e2⟩:=slo b o e (I.ok.frf b hb) hb;exact⟨_,e2⟩
  ·obtain⟨o1,e1⟩:=ob.there b o e (by simp);exact⟨o1,k1 b o1 (inB b o1 e1 (jh b o e).1 (jh b o e).2 hb)⟩
 ·intro b u q;have hb:b≠ea:=λz=>by subst z;rw[mL]at q;cases q
  rw[nQ hb]at q;refine(I.hok b u q).stay (λc v hc z=>k1 c v ?_) (λc r=>dn c _ r λd=>(by cases d)) λc xs r=>dn c _ r λd=>(by cases d);rcases hc with rfl|hc
  ·exact trkB c u v q hb z
  ·exact trkB c _ v hc (nea c _ hc λd=>(by cases d)) z
 ·intro b o e hb o' e';obtain⟨o1,e1⟩:=ob.there b o e (by simp);have z:=inB b o1 e1 (jh b o e).1 (jh b o e).2 hb;have z':h'.get? b=ae o1:=k1 b o1 z;rw[show h'.get? b=ae o' from e']at z';cases z';exact z
 ·intro b u o q e';have hb:b≠ea:=λz=>by subst z;rw[mL]at q;cases q
  rw[nQ hb]at q;obtain⟨o1,e1⟩:=(I.hok b u q).has;have z:=trkB b u o1 q hb e1;have z':h'.get? b=ae o1:=k1 b o1 z;rw[show h'.get? b=ae o from e']at z';cases z';exact z
end
end L2
namespace DL
open PySem L2
def HB(C:Ctx)(fz:Hp):Prop:=∀b o,C.fz b=ae o->fz b=ae o
def fX(C:Ctx)(T:TS)(W:aW):Prop:=∀(fz:Hp),HB C fz->∀(H:Hp)(B:Addr->Prop)(σ:St)(δ:Sl)(n:Int)(K:DEnds)(D:Ends),Rel {C with fz:=fz} H B σ δ n->W δ n K->EndsOk {C with fz:=fz} K D->T D σ H
structure DR(C:Ctx)(X:Cx)(st:Stmt)(T:TS)(W:aW):Prop where
 ps:PS X st T
 sd:fX C T W
structure DRs(C:Ctx)(X:Cx)(st:List Stmt)(T:TS)(W:aW):Prop where
 ps:PSs X st T
 sd:fX C T W
section
variable{C:Ctx}{X:Cx}{st:Stmt}{rest:List Stmt}{T U:TS}{W V':aW}{e:Expr}{te:TE}{we:DT}{pos:Pos}
theorem DS.r(h:DS X st T W):DR C X st T W:=⟨h.ps,λfz _=>h.sd {C with fz:=fz}⟩
theorem DSs.r{l:List Stmt}(h:DSs X l T W):DRs C X l T W:=⟨h.ps,λfz _=>h.sd {C with fz:=fz}⟩
theorem Ta(h:DR C X st T W)(h2:DRs C X rest U V'):DRs C X (st::rest) (fV T U) (aw W V'):=⟨fi h.ps h2.ps,λfz hz H B σ δ n K D R q E=>
 h.sd fz hz H B σ δ n _ _ R q ⟨λH B σ δ n R q=>h2.sd fz hz H B σ δ n K D R q E,E.rt,E.bk,E.ct,E.rn⟩⟩
theorem Kn(h:DR C X st T W):DRs C X [st] T W:=⟨fm h.ps,h.sd⟩
theorem wt{c:Expr}{a b:List Stmt}{tc:TT}{cc:cU}(hc:DC X c tc cc)(ha:DRs C X a T W)(hb:DRs C X b U V'):DR C X (.If c a b pos) (jN tc T U) (bB cc W V'):=⟨jk hc.pt ha.ps hb.ps,λfz hz H B σ δ n K D R q E=>
 hc.sd {C with fz:=fz} H B σ δ n _ _ R q λb H1 n1 R1 _ q1=>by
  cases b with
  |true=>
   rw[if_pos rfl]at q1 ⊢;exact ha.sd fz hz H1 B σ δ n1 K D R1 q1 E
  |false=>
   rw[if_neg Ak]at q1 ⊢;exact hb.sd fz hz H1 B σ δ n1 K D R1 q1 E⟩
theorem K0{tg iter:Expr}{body:List Stmt}{wi:TI}{v:gs}{g:TG}{gd:fo}(hi:DI X tg iter wi v)(hg:DG X tg g gd)(hb:DRs C X body T W)(hp:PassesOwn (Bg X.prog X.w) X.A X.env X.xe)(hc:X.calm=ah:=by rfl)
  (hs:∀x,G2 iter X.env x=pure x:=by intro _;rfl):DR C X (.For tg iter body [] pos) (iU wi g T) (cq v gd W):=⟨rH hp hc hi.pi hg.pg hb.ps hs,λfz hz H B σ δ n K D R q E=>
 hi.sd {C with fz:=fz} H B σ δ n _ _ R q λJ ds H1 n1 R1 k1 hJ q1=>by
  have ok:=hJ (bP H1 B) (jg H1 B);have R1':Rel {C with fz:=bP H1 B} H1 B σ δ n1:=R1.refz;have eG:∀{H B' σ δ n},Rel {C with fz:=bP H1 B} H B' σ δ n->Rel {C with fz:=fz} H B' σ δ n:=λR=>Rel.unfz (C:={ C with fz:=fz}) R λb o e=>(jg H1 B).2 b o (R1.fz b o e).1 (R1.fz b o e).2;refine⟨λi m σ H=>m=ds.length-i/\i<=ds.length/\∃B' δ n,Rel {C with fz:=bP H1 B} H B' σ δ n/\cZ gd W K (ds.drop i) δ n,⟨ds.length,by simp,Bx _,B,δ,n1,R1',by simpa using q1⟩,?_⟩
  rintro i m σ2 H2 ⟨rfl,hi,B2,δ2,n2,R2,q2⟩
  have hfz:∀b o,bP H1 B b=ae o->H2 b=ae o:=λb o e=>(R2.fz b o e).1;by_cases hlt:i < ds.length
  ·rw[F7 hlt]at q2;refine .inr ⟨ok.go i H2 hfz hlt,λσ3 H3=>∃B' δ n,Rel {C with fz:=bP H1 B} H3 B' σ3 δ n/\cZ gd W K (ds.drop (i+1)) δ n,λσ' H' z=>⟨ds.length-(i+1),by omega,rfl,hlt,z⟩,λx H' hy=>?_⟩;obtain⟨sm,rd⟩:=ok.yld i H2 x H' ds[i] hfz (As hlt) hy;have R3:=R2.same sm;refine hg.sd _ H' B2 σ2 δ2 n2 x ds[i] _ _ R3 (rd B2 (λb o e=>(R2.fz b o e).2) R2.ba) q2 λσ' δ' R4 q4=>?_;refine hb.sd _ (λb o e=>(jg H1 B).2 b o (R1.fz b o (hz b o e)).1 (R1.fz b o (hz b o e)).2) H' B2 σ' δ' n2 _ _ R4 q4 ⟨?_,?_,?_,?_,λH B σ δ n a xs ds R h0 h1 h2 h3 q=>E.rn H B σ δ n a xs ds (eG R) h0 h1 h2 h3 q⟩
   ·exact λH B σ δ n R q=>⟨B,δ,n,R,q⟩
   ·exact λH B σ δ n v w R r q=>E.rt H B σ δ n v w (eG R) r q
   ·exact λH B σ δ n R q=>E.nx H B σ δ n (eG R) q
   ·exact λH B σ δ n R q=>⟨B,δ,n,R,q⟩
  ·have e:i=ds.length:=by omega
   subst e;rw[List.drop_length]at q2;exact .inl ⟨ok.stop H2 hfz,E.nx H2 B2 σ2 δ2 n2 (eG R2) q2⟩⟩
end
end DL
namespace DL
open PySem L2 Nb
end DL
namespace L2
open PySem PySem.Spec PyProof.Rows
def yO(a C dx:Addr):HO:=.ext λh=>∃vs sl,h.get? a=ae ⟨.ref C,ae dx,.fields vs,sl⟩
theorem Jg{P:Bj}{w:Bu}{H:Hp}{h:Heap}{a C dx:Addr}{vs:Array Af}{sl:Array (Option Af)}(e:h.get? a=ae ⟨.ref C,ae dx,.fields vs,sl⟩):ObjOk P w H h a (yO a C dx):=
 ⟨⟨vs,sl,e⟩,⟨_,e⟩,λ_ _ ⟨vs,sl,p⟩ k=>⟨vs,sl,k _ p⟩⟩
section
variable{X:Cx}{pins:List (Addr×Obj)}{σ:St}{H H':Hp}{s s1:Ai}{B h:Heap}{t ea C dx:Addr}
theorem AX(I:Inv X pins σ H s)(F:Fly X.prog X.w X.stack H s B t ea C dx H' s1)(k1:B.StaysIn h)(k4:s1.heap.UpToSlots h):Un (cH X.stack) [] H H' s.heap h/\HOk X.prog X.w H' h:=by
 have fdat:∀b∈cH X.stack,∀o sl,s.heap.get? b=ae o->∀vs,({o with slots:=sl}:Obj).data≠.fields vs:=λb hb o sl e=>by
  obtain⟨_,o',e',hd⟩:=I.stack.mem hb;rw[show s.heap.get? b=ae o' from e']at e;cases e;exact hd
 have slo:∀b o,s.heap.get? b=ae o->H b=af->b∈cH X.stack->∃sl,h.get? b=ae {o with slots:=sl}:=λb o e n hb=>by
  obtain⟨sl,e1⟩:=F.un.slot b o e n hb (by simp);obtain⟨sl',e2⟩:=k4 b _ e1 (fdat b hb o sl e);exact⟨sl',e2⟩
 refine⟨⟨λb o e n hb _=>?_,λb o e n hb _=>slo b o e n hb,F.un.free,λb o e _=>?_,F.un.tups,F.un.frzs,F.un.tbls⟩,λb u q=>?_⟩
 ·exact k1 b o (F.old b o e hb o (F.un.keep b o e n hb (by simp)))
 ·by_cases hb:b∈cH X.stack
  ·obtain⟨sl,e2⟩:=slo b o e (I.stkFree b hb) hb;exact⟨_,e2⟩
  ·obtain⟨o1,e1⟩:=F.un.there b o e (by simp);exact⟨o1,k1 b o1 (F.old b o e hb o1 e1)⟩
 ·refine(F.hok b u q).stay (λc v hc z=>k1 c v ?_) (λc r=>r) λc xs r=>r;rcases hc with rfl|hc
  ·exact F.trk c u v q z
  ·exact F.trk c _ v hc z
theorem Se{vs:Array Af}{sl:Array (Option Af)}(I:Inv X pins σ H s)(F:Fly X.prog X.w X.stack H s B t ea C dx H' s1)(k1:B.StaysIn h)(k4:s1.heap.UpToSlots h)
  (e:h.get? ea=ae ⟨.ref C,ae dx,.fields vs,sl⟩) (tk:Nat):Inv X pins σ (upd H' ea (yO ea C dx)) {s1 with heap:=h,toks:=tk}:=by
 obtain⟨u,hok⟩:=AX I F k1 k4;have ne:∀b o,H' b=ae o->b≠ea:=λb o q=>bQ q F.hea;refine I.call' (s':={ s1 with heap:=h,toks:=tk}) (ch:=[]) F.os ⟨u.keep,u.slot,λb o z n hx=>?_,u.there,λb xs q=>?_,λb o xs q=>?_,λb ps q=>?_⟩ (λb o q=>?_) F.bare (λb z=>absurd z (by simp))
 ·rw[aM (Bf (Bn (Ar z) F.new))];exact u.free b o z n hx
 ·rw[aM (ne b _ (u.tups b xs q))];exact u.tups b xs q
 ·rw[aM (ne b _ (u.frzs b o xs q))];exact u.frzs b o xs q
 ·obtain⟨more,z⟩:=u.tbls b ps q;exact⟨more,by rw[aM (ne b _ z)];exact z⟩
 ·by_cases hb:b=ea
  ·subst hb;rw[bw]at q;cases q;exact Jg e
  ·rw[aM hb]at q;exact(hok b o q).stay (λc v _ z=>z) (λc r=>by rw[aM (ne c _ r)];exact r) λc xs r=>by rw[aM (ne c _ r)];exact r
end
section
variable{M:Model}{A:B3}{E:Af->Ai->Prop}{h:Heap}{g:Array GenState}{d:Drawn}{t:Nat}{os:OsState}
variable{nm q:Str}{C C1 N:Addr}{bs bm:List Af}{hdct:Bool}{sn:List Str}{sub:List Af}{ab:Bool}{col:Option Bool}{dd:Option Addr}{k0 k1 k2 k3 k5:Option Af}{newId:String}
variable{nm' q':Str}{N':Addr}{bs' bm':List Af}{hdct':Bool}{sn':List Str}{sub':List Af}{ab':Bool}{col':Option Bool}{dd':Option Addr}{j0 j1 j2 j3 j5:Option Af}{newId':String}
theorem HG{e:Addr}{o:Obj}{Q:Bool->Ai->Prop}(hC:h.get? C=ae (E4 nm q C N bs bm hdct sn sub ab col dd k0 k1 k2 k3 k5 newId))(hC1:h.get? C1=ae (E4 nm' q' C1 N' bs' bm' hdct' sn' sub' ab' col' dd' j0 j1 j2 j3 j5 newId'))
  (he:h.get? e=ae o) (hc:o.cls=.ref C) (hb1:bm'.contains (.type "BaseException")=ah) (hm:(Bq C::bm).contains (.ref C1)=ah) (hq:Q ah ⟨h,g,d,t,os⟩):Az M A (excMatches (.ref e) (.ref C1)) Q E ⟨h,g,d,t,os⟩:=by
 have hcB:(Bq C1::bm').contains (.type "BaseException")=ah:=by rw[List.contains_cons,hb1,Bool.or_true]
 have f:=tc_notTuple;unfold excMatches
 repeat (first|with_reducible refine E2 hC1 ?_|(with_reducible refine E2 he ?_;rw[hc])|(with_reducible refine Hi hC1 ?_;rw[hcB])|(with_reducible refine Hi hC ?_;rw[hm])|wp_step)
 exact hq
end
section
variable{X:Cx}{pins:List (Addr×Obj)}{σ:St}{H:Hp}{s:Ai}
theorem qU{M:Model}{A:B3}{E:Af->Ai->Prop}{i:Nat}{x:Str}{pos:Pos}{Q:Unit->Ai->Prop}(I:Inv X pins σ H s)(hN:X.N.Nodup)(hi:X.N[i]?=ae x)(hk:X.env.scope.names.lookup x=ae .local)
  (h:∀s',Inv X pins (σ.set i af) H s'->Q () s'):Az M A (do bindName X.env x .none;unbindBehindTheSuite X.env x pos) Q E s:=by
 have hiσ:i < σ.length:=by rw[I.len];exact(Bs.mp hi).1
 refine Ad (wpAny_bindName (mZ I hN hi (.inl hk) (v:=.non) (u:=.none) rfl (λs1 I1=>?_) (.inr hk)));unfold unbindBehindTheSuite;refine Hd ?_;obtain⟨m,hn,hl⟩:=id I1.loc;have hcls:(X.env.scope.kind==.class || (X.env.scope.kind==.module&&X.env.locals != X.env.globals))=ai:=by rw[I.ok.kind];rfl
 obtain⟨u,ru,lu⟩:=hl i x .non hi (Fg hiσ) (.inl hk);have hm:m x=ae u:=by
  rcases lu with⟨_,z⟩|⟨z,_⟩
  ·exact z
  ·rcases z with z|z
   ·rw[show X.env.kindOf x=ae .local from hk]at z;cases z
   ·rw[show X.env.kindOf x=ae .local from hk]at z;cases z
 have cne:=I1.cne;refine wpAny_unbindName_local hk hn hm hcls λh' u' hn' hs=>h _ ?_;refine⟨I1.ok,I1.os,I1.bare,⟨λb o e n hb hx=>?_,λb o e n hb hx=>?_,I1.base.free,λb o e hx=>?_,I1.base.tups,I1.base.frzs,I1.base.tbls⟩,⟨_,hn',λj y v' e1 e2 e3=>?_⟩,λy c e=>?_,I1.free,I1.freeC,λp hp=>?_,λb ob e=>?_,?_⟩
 ·exact(hs.2 b (Bf (Bn (Ar e) I1.ok.above))).trans (I1.base.keep b o e n hb hx)
 ·obtain⟨sl,e1⟩:=I1.base.slot b o e n hb hx;exact⟨sl,(hs.2 b (Bf (Bn (Ar e) I1.ok.above))).trans e1⟩
 ·obtain⟨o',e1⟩:=I1.base.there b o e hx;exact⟨o',(hs.2 b (Bf (Bn (Ar e) I1.ok.above))).trans e1⟩
 ·by_cases hj:j=i
  ·subst hj;rw[Fg hiσ]at e2;cases e2
  ·have e2':(σ.set i (ae V.non))[j]?=ae (ae v'):=by rw[Ci (Ne.symm hj)]at e2 ⊢;exact e2
   obtain⟨u'',r',q⟩:=hl j y v' e1 e2' e3;refine⟨u'',r',?_⟩;rcases q with⟨k,e⟩|⟨k,c,e,z⟩
   ·refine .inl ⟨k,?_⟩;have:y≠x:=λe=>hj (vd hN e1 (e▸hi));simp[this,e]
   ·exact .inr ⟨k,c,e,z.sameBut hs (cne y c e)⟩
 ·obtain⟨w',z⟩:=I1.cell y c e;exact⟨w',z.sameBut hs (cne y c e)⟩
 ·obtain⟨e,n,ne,nf,d⟩:=I1.pin p hp;exact⟨(hs.2 p.1 ne).trans e,n,ne,nf,d⟩
 ·refine(I1.hok b ob e).stay (λc w' hc q=>(hs.2 c ?_).trans q) (λ_ q=>q) λ_ _ q=>q
  rintro rfl
  rcases hc with rfl|hc
  ·rw[I1.free]at e;cases e
  ·rw[I1.free]at hc;cases hc
 ·have:=I1.len;rw[Df]at this ⊢;exact this
end
abbrev Cx.inTry(X:Cx)(pn:List (Addr×Obj))(W:Af->Ai->Prop):Cx:={ X with pn:=pn,xe:=W}
abbrev Cx.inExc(X:Cx)(e:Af):Cx:={ X with A:=X.A.mark (ae e),calm:=ai,xe:=λ_ _=>False}
section
variable{X:Cx}{pins pins':List (Addr×Obj)}{σ:St}{H:Hp}{s:Ai}{W:Af->Ai->Prop}{e:Af}
theorem Cx.Ok.toTry(ok:X.Ok){pn:List (Addr×Obj)}:(X.inTry pn W).Ok:=
 ⟨ok.mod,ok.kind,ok.glob,ok.blt,ok.above,ok.inj,ok.has,ok.cab,ok.hd,ok.frames,ok.stk,ok.exf,ok.bs,ok.bsz,ok.noex,ok.exfs,ok.funs,ok.frf⟩
theorem Cx.Ok.ofTry{pn:List (Addr×Obj)}(ok:(X.inTry pn W).Ok):X.Ok:=
 ⟨ok.mod,ok.kind,ok.glob,ok.blt,ok.above,ok.inj,ok.has,ok.cab,ok.hd,ok.frames,ok.stk,ok.exf,ok.bs,ok.bsz,ok.noex,ok.exfs,ok.funs,ok.frf⟩
theorem Inv.toTry(I:Inv X pins σ H s):Inv (X.inTry (X.pn++pins) W) [] σ H s:=⟨I.ok.toTry,I.os,I.bare,I.base,I.loc,I.cell,I.free,I.freeC,λp hp=>I.pin p (by rw[Cc]at hp;exact hp),I.hok,I.len⟩
theorem Inv.ofTry(I:Inv (X.inTry (X.pn++pins) W) pins' σ H s):Inv X pins σ H s:=⟨I.ok.ofTry,I.os,I.bare,I.base,I.loc,I.cell,I.free,I.freeC,λp hp=>I.pin p (Cg _ hp),I.hok,I.len⟩
theorem Cx.Ok.toExc(ok:X.Ok):(X.inExc e).Ok:=
 ⟨ok.mod,ok.kind,ok.glob,ok.blt,ok.above,ok.inj,ok.has,ok.cab,(λz=>nomatch z),ok.frames,ok.stk,ok.exf,ok.bs,ok.bsz,ok.noex,ok.exfs,ok.funs,ok.frf⟩
theorem Inv.toExc(I:Inv X pins σ H s):Inv (X.inExc e) pins σ H s:=⟨I.ok.toExc,I.os,I.bare,I.base,I.loc,I.cell,I.free,I.freeC,I.pin,I.hok,I.len⟩
theorem Inv.ofExc(ok:X.Ok)(I:Inv (X.inExc e) pins σ H s):Inv X pins σ H s:=⟨ok,I.os,I.bare,I.base,I.loc,I.cell,I.free,I.freeC,I.pin,I.hok,I.len⟩
end
def ou(i:Nat)(D:Ends):Ends:={ nx:=λσ H=>D.nx (σ.set i af) H,rt:=D.rt,bk:=λσ H=>D.bk (σ.set i af) H,ct:=λσ H=>D.ct (σ.set i af) H}
end L2
namespace L2
open PySem PySem.Spec PyProof.Rows PySem.W Builtin Builtin.ObjectAttr
section
variable{prog:Bj}{w:Bu}{A:B3}{E:Af->Ai->Prop}{s:Ai}{K:Frag}{x C:Addr}{ox:Obj}{od:Option Obj}{name:Str}
structure XGet(K:Frag)(C:Addr):Prop where
 ga:findIn K (.ref C) "__getattribute__"=ae (ae (.builtin "BaseException.__getattribute__"))
 hk:findIn K (.ref C) "__getattr__"=ae af
 sub:subIn K (.ref C) (.type "BaseException")=ae ah
theorem Oz{tk:Tok}{fill expr:Bool}{Q:Af->Ai->Prop}(X:K.In s.heap)(I:InstAt s.heap x ox C od)(G:XGet K C)
  (h:Az (Bg prog w) A.in1 (D9.«object.__getattribute__» ⟨[.ref x,.str name tk],[]⟩) (λfin s'=>match fin with|.done (.ret v)=>Az (Bg prog w) A (handedOut v) Q E s'|_=>False) (λ_ _=>False) s):
  Az (Bg prog w) A (getAttrBy (.ref x) (.str name tk) fill expr) Q E s:=by
 have FX:=PySem.F.excAttr_ValueError;have ht:Looks (Bg prog w) s.heap (typeOf (.ref x)) (.ref C):=I.type;unfold getAttrBy;refine Dd (Ad (ht.here (Ad ((looks_findIn X G.ga).here ?_))));dsimp only;rw[show(onTheHeap (Bq C)&&Value.builtin "BaseException.__getattribute__"==Value.builtin "object.__getattribute__")=ai from by rw[show(Value.builtin "BaseException.__getattribute__"==Value.builtin "object.__getattribute__")=ai from by decide +kernel,Bool.and_false],if_neg ∎];refine Ad ((looks_hook X (mc:=.ref C) (r:=af) (show(if onTheHeap (Bq C)=ah then findIn K (Bq C) "__getattr__" else ae af)=ae af from G.hk)).here (Ad (Ek (Dd ?_))));unfold callGetattribute;rw[show(expr&&onTheHeap (Value.builtin "BaseException.__getattribute__"))=ai from Bool.and_false _,if_neg ∎];unfold boundAndCalled;rw[FX.ga.bind];refine Ad (Aj ?_);show Az _ _ (call (.builtin "BaseException.__getattribute__") [.ref x,.str name tk]) _ _ _;refine wpAny_call (Gd FX.ga.plain PySem.F.entry_bexc_ga ?_);refine @check_slot (Bg prog w) _ _ s "BaseException.__getattribute__" "BaseException" "__getattribute__" (.ref x) [.str name tk] [] _ ∅ ∅ (ht.andThen (looks_subIn X G.sub)) (PySem.F.args_bexc_ga (.ref x) (.str name tk)) ?_;refine Cq h (λfin s' z=>?_) λ_ _ z=>z.elim;rcases fin with(_|_|_|_)|_<;>first|exact z|exact z.elim
theorem MJ{v:Af}{expr:Bool}{Q:Af->Ai->Prop}(X:K.In s.heap)(I:InstAt s.heap x ox C od)(G:XGet K C)(hf:findObj K C od name=ae (.value v))(hh:handedIn v=ah)(h:Q v {s with toks:=s.toks+1}):
  Az (Bg prog w) A (getAttr (.ref x) name expr) Q E s:=by
 unfold getAttr;refine Ad (wpAny_mkText (Oz (s:={ s with toks:=s.toks+1}) X I G ?_));have L0:=I.type (M:=Bg prog w);have L1:=looks_find (M:=Bg prog w) X I hf;refine Ad (Aj (Ad (Aj (Ad (L0.here (s:={ s with toks:=s.toks+1}) (Ad (L1.here (s:={ s with toks:=s.toks+1}) ?_)))))));refine Aj ?_;show Az _ _ (handedOut v) _ _ _;rw[handedOut_of hh];exact Aj h
structure XCla(K:Frag)(C:Addr):Prop extends XGet K C where
 hd:hasDictIn K C=ah
 cl:findIn K (.ref C) "__class__"=ae (ae (.builtin "object.__class__"))
 gt:specialIn K (.builtin "object.__class__") "__get__"=ae (ae (.builtin "getset_descriptor.__get__"))
 tk:takesIn K (.builtin "object.__class__")=ae ah
 mr:mroIn K C (.type "object")=ae ah
end
section
variable{X:Cx}{pins:List (Addr×Obj)}{σ:St}{H:Hp}{s:Ai}{ea C dx:Addr}{fs:List (Str×V)}
theorem HE(I:Inv X pins σ H s)(he:H ea=ae (yO ea C dx))(hd:H dx=ae (.xd fs)):∃ox o,InstAt s.heap ea ox C (ae o)/\∀f v,fs.lookup f=ae v->∃u,RelV v u/\lookIn f o=ae (ae u):=by
 obtain⟨⟨vs,sl,e⟩,_⟩:=I.hok _ _ he;obtain⟨mA,n1,hr⟩:=(show ObjOk X.prog X.w H s.heap dx (.xd fs)from I.hok _ _ hd);obtain⟨o,ho,hl'⟩:=ER n1;refine⟨_,o,⟨e,rfl,rfl,ho⟩,λf v hl=>?_⟩;obtain⟨u,hu',ru⟩:=RelO.some_of (v:=v) (o:=mA f) (by rw[<-hl];exact hr f);exact⟨u,ru,by rw[hl' f,hu']⟩
def Qu(C:Addr)(f:Str)(te:TE):TE:=λσ H Q=>te σ H λx H1=>∃ea dx fs v,x=.ref ea/\H1 ea=ae (yO ea C dx)/\H1 dx=ae (.xd fs)/\fs.lookup f=ae v/\Q v H1
theorem zN{f:Str}{e:Expr}{te:TE}{pos:Pos}(G:XCla X.K C)(hf:findIn X.K (.ref C) f=ae af)(ha:PE X e te)(hb:Em e f X.env (eval e X.env)=eval e X.env:=by rfl):PE X (.Attribute e f pos) (Qu C f te):=by
 intro pins s σ H Q I h;refine OI hb (bj (ha pins s σ H _ I h) λu s1 ⟨x,H1,I1,rx,ea,dx,fs,v,ex,h1,h2,hl,q⟩=>?_);subst ex;obtain rfl:u=Bq ea:=rx;obtain⟨ox,o,J,hv⟩:=HE I1 h1 h2;obtain⟨u',ru,hu⟩:=hv f v hl;exact MJ I1.kIn J G.toXGet (findObj_own G.hd hf rfl hu) (J9 ru) ⟨v,H1,I1.tok _,ru,q⟩
end
end L2
namespace L2
open PySem PySem.Spec PyProof.Rows
def l7(sp:Sp)(EX:St->XK)(t:TA):TE:=λσ H Q=>t σ H λvs H1=>sp vs H1 Q (EX σ)
theorem rQ{X:Cx}{CX:gq}{k:Nat}{f:Addr}{fd:Cw}{ps:List Str}{sp:Sp}{EX:St->XK}{x:Str}{p pos:Pos}{e:Expr}{es:List Expr}{t:TA}(F:FnOk X.prog X.w X.K X.mg X.base CX k f fd ps sp)(hr:Room k X.A)(hg:Gl X x)(hm:X.mg x=ae (.ref f))(hk:Cf X.K (.ref f)=ah)(hb:Binds X.K fd ps [])
  (hx:∀pins σ H s e s',Inv X pins σ H s->CX X.stack H s (EX σ) e s'->X.xe e s') (ha:PA X (e::es) t) (hdb:(x==("__debug__":Str))=ai:=by decide) (he:Au (e::es) X.env=(ai,eval e X.env)::Au es X.env:=by rfl) (hpl:(C5 pos (Au es X.env)).any (·.1)=ai:=by rfl):
  PE X (.Call (.Name x p) (e::es) [] pos) (l7 sp EX t):=by
 intro pins s σ H Q I h;refine Gu (ma I hg hm ?_ hdb);refine PySem.W.callWith_K (h₀:=X.base) I.ok.mod.kin hk (bj (ha pos pins s σ H _ I h) λus s1 ⟨vs,H1,I1,r,q⟩=>⟨I1.kIn,?_⟩) he hpl;have hl:us.length=ps.length:=by rw[<-r.length];exact F.len _ _ _ _ q
 have hb':=hb s1 us I1.kIn (by rw[Cc];exact hl);rw[Cc]at hb';refine wpAny_call (Gi (F.run X.A X.stack s1 H1 ⟨us,[]⟩ us vs Q (EX σ) hr I1.env0 hb' r q) λr s' hq=>?_);cases r with
 |error e=>exact hx pins σ H1 s1 e s' I1 hq
 |ok fl=>
  cases fl with
  |ret u=>exact I1.after hq
  |next=>exact False.elim hq
  |brk=>exact False.elim hq
  |cont=>exact False.elim hq
end L2
namespace DL
open PySem L2 Nb
theorem vo{α:Type}{l:List (Option α)}{i j:Nat}{y:α}(e:(l.set i af)[j]?=ae (ae y)):j≠i/\l[j]?=ae (ae y):=by
 by_cases h:j=i
 ·subst h;rw[List.getElem?_set]at e
  split at e
  ·split at e<;>cases e
  ·rename_i z;exact absurd rfl z
 ·exact⟨h,by rw[Ci (Ne.symm h)]at e;exact e⟩
theorem Rel.drop{C:Ctx}{H:Hp}{B:Addr->Prop}{σ:St}{δ:Sl}{n:Int}{i:Nat}(R:Rel C H B σ δ n):Rel C H B (σ.set i af) (δ.set i af) n where
 tp:=R.tp
 kp:=R.kp
 t0:=R.t0
 l0:=R.l0
 g0:=R.g0
 fz:=R.fz
 bt:=R.bt
 b0:=R.b0
 ba:=R.ba
 a0:=R.a0
 sl:=λj y e=>by
  obtain⟨ne,e'⟩:=vo e;obtain⟨u,h1,h2⟩:=R.sl j y e';exact⟨u,by rw[Ci (Ne.symm ne)];exact h1,h2⟩
 ow:=λj k y z u e1 e2 o1 o2 f1 f2=>by
  obtain⟨ne1,e1'⟩:=vo e1;obtain⟨ne2,e2'⟩:=vo e2;rw[Ci (Ne.symm ne1)]at f1;rw[Ci (Ne.symm ne2)]at f2;exact R.ow j k y z u e1' e2' o1 o2 f1 f2
 len:=by rw[Df,Df];exact R.len
end DL
namespace L2
open PySem PySem.Spec PyProof.Rows PySem.W Builtin Builtin.ObjectAttr
section
variable{prog:Bj}{w:Bu}{A:B3}{E:Af->Ai->Prop}{s:Ai}{K:Frag}{C C0 x dx:Addr}{vs:Array Af}{sl:Array (Option Af)}{name:Str}{v:Af}{cd:ClassData}{Q:Unit->Ai->Prop}{m:Str->Option Af}{ns:List Str}
theorem Ko(X:K.In s.heap)(hx:s.heap.get? x=ae ⟨.ref C,ae dx,.fields vs,sl⟩)(hn:s.heap.Ns1 dx m)(hw:PySem.Within m ns)(hl:ns.length<=10)(hs:findIn K (.ref C) "__setattr__"=ae (ae (.builtin "object.__setattr__")))
  (hc:clsIn K C=ae cd) (hm:cd.mro=.ref C::.ref C0::gX) (hd:cd.hasDict=ah) (ht:findIn K (.ref C) name=ae af)
  (hq:∀h',(∀b o,b≠dx->s.heap.get? b=ae o->h'.get? b=ae o)->h'.Ns1 dx (λy=>if y=name then ae v else m y)->Q () {s with heap:=h',toks:=s.toks+2}):
  Az (Bg prog w) A (setAttr (.ref x) name v) Q E s:=by
 obtain⟨od,es,ep,ho,_⟩:=id hn;have J:InstAt s.heap x ⟨.ref C,ae dx,.fields vs,sl⟩ C (ae od):=⟨hx,rfl,rfl,ho⟩;have SF:=PySem.F.store_object;refine set_plain X J hs ?_;have ne:cd.mro.isEmpty=ai:=by rw[hm];rfl
 have sub:Looks (Bg prog w) s.heap (isInstance (.ref x) (.type "object")) ah:=J.type.andThen (looks_mroIn X (by unfold mroIn;rw[hc,Option.bind_some,if_neg (by rw[ne];decide),hm];rfl));refine Gd SF.slot.plain SF.entry (@check_slot (Bg prog w) _ _ {s with toks:=s.toks+1} "object.__setattr__" "object" "__setattr__" (.ref x) [.str name s.toks,v] [] _ SF.kind SF.split sub (SF.args (.ref x) (.str name s.toks) v) ?_);have hmr:Looks (Bg prog w) s.heap (mroOf (.ref C)) cd.mro:=(looks_clsIn X hc).andThen .now;rw[osa_eq,refuse_eq];refine Ad (Ad (J.type.here (s:={ s with toks:=s.toks+1}) (Ad (hmr.here (s:={ s with toks:=s.toks+1}) ?_))));rw[hm,refuseLoop_ref,refuseLoop_ref,PySem.F.store_ValueError.passes];refine Aj (Ad (J.type.here (s:={ s with toks:=s.toks+1}) (Ad ((looks_findIn X ht).here (s:={ s with toks:=s.toks+1}) (Ad (Aj ?_))))));show Az _ _ (storeInOwnDict (.ref x) (.ref C) (.str name s.toks) name v ai) _ _ _;refine Ad (Aj (Ad (Ad (wpAny_loadPart hx (Ad (Looks.here (s:={ s with toks:=s.toks+1}) (looks_clsIn X hc) ?_))))));rw[hd,if_neg ∎];refine Aj ?_;show Az _ _ (storeInDict dx (.str name s.toks) name v) _ _ _;unfold storeInDict newKeyGuard;refine Ad (Aj (Ad (wpAny_nsSet1 (s:={ s with toks:=s.toks+1}) hn λh' hn' hs'=>?_)));have hw':PySem.Within (λy=>if y=name then ae v else m y) (name::ns):=λy hy=>by
  by_cases e:y=name
  ·rw[e];exact Am
  ·exact Al _ (hw y (by dsimp only at hy;rw[if_neg e]at hy;exact hy))
 obtain⟨oD,esD,epD,hoD,hdD,hcD⟩:=hn'.count hw';refine Ad (wpAny_lookBehind hoD (by rw[hdD];exact pastItsLine_dict (An hcD (by rw[Bd,El];omega))) ?_);exact Aj (hq h' (λb ob hb z=>(hs'.2 b hb).trans z) hn')
end
def Tc(C:Addr)(g:Str)(ta tv:TE):TS:=λD σ H=>tv σ H λy H1=>ta σ H1 λx H2=>∃ea t0 dx f u,x=.ref ea/\H2 ea=ae (xO ea C (ae dx) t0)/\H2 dx=ae (.xd [(f,u)])/\f≠g/\D.nx σ (upd H2 dx (.xd [(f,u),(g,y)]))
section
variable{X:Cx}{C C0:Addr}{x0 g:Str}{p apos pos pos':Pos}{e o value:Expr}{es:List Expr}{t:TA}{ta tv:TE}
theorem OG(c:XCl X.K C C0)(hf:findIn X.K (.ref C) g=ae af)(ha:PE X o ta)(hv:PE X value tv)(hs:Fi value (ae (.Attribute o g pos')) pos.line X.env=pure ai):
  PS X (.Assign [.Attribute o g pos'] value pos) (Tc C g ta tv):=by
 intro pins s σ H D I h;refine plainObj_wpAny_Assign_Attribute (bj (hv pins s σ H _ I h) λu s1 ⟨y,H1,I1,ry,q⟩=>bj (ha pins s1 σ H1 _ I1 q) λov s2 ⟨x,H2,I2,rx,ea,t0,dx,f,w,ex,he,hdx,hne,q2⟩=>?_) hs;subst ex;obtain rfl:ov=Bq ea:=rx;obtain⟨cd,hcd,hmr,hdi⟩:=yD c;obtain⟨mA,n1,hr⟩:=(show ObjOk X.prog X.w H2 s2.heap dx (.xd [(f,w)])from I2.hok _ _ hdx);have hw:PySem.Within mA [f]:=λy hy=>by
  by_cases e:y=f
  ·rw[e];exact Am
  ·have:=hr y;simp only[Gm,beq_false_of_ne e]at this;cases q:mA y with
   |none=>exact absurd q hy
   |some z=>rw[q]at this;exact this.elim
 refine Ko I2.kIn (I2.hok _ _ he).1 n1 hw (show 1<=10 by decide) c.sa hcd hmr hdi hf λh' k nd=>?_;obtain⟨od,es,ep,ho,_⟩:=id nd;have nn:∀b,H2 b=af->b≠dx:=λb n z=>by rw[z,hdx]at n;cases n
 have ud:∀b u,H2 b=ae u->u≠.xd [(f,w)]->upd H2 dx (.xd [(f,w),(g,y)]) b=ae u:=λb u q d=>by
  rw[aM λ(z:b=dx)=>by rw[z,hdx]at q;exact d (Bp q).symm];exact q
 refine⟨σ,_,I2.un (H':=upd H2 dx (.xd [(f,w),(g,y)])) (h':=h') ⟨λb ob z n _ _=>k b ob (nn b n) z,λb ob z n _ _=>⟨ob.slots,k b ob (nn b n) z⟩,λb ob z n _=>by rw[aM (nn b n)];exact n,λb ob z _=>?_,
  λb xs z=>ud b _ z (λd=>by cases d),λb ob xs z=>ud b _ z (λd=>by cases d),λb ps z=>⟨#[],by rw[ud b _ z (λd=>by cases d)];simp⟩⟩ ?_,q2⟩
 ·by_cases hb:b=dx
  ·subst hb;exact⟨_,ho⟩
  ·exact⟨ob,k b ob hb z⟩
 intro b ob z;by_cases hb:b=dx
 ·subst hb;rw[bw]at z;cases z;refine⟨_,nd,λz=>?_⟩;by_cases hg:z=g
  ·subst hg;rw[if_pos rfl];simp only[Gm,beq_false_of_ne (Ne.symm hne),beq_self_eq_true];exact ry
  ·rw[if_neg hg];have:=hr z;by_cases hz:z=f
   ·subst hz;simp only[Gm,beq_self_eq_true]at this ⊢;exact this
   ·simp only[Gm,beq_false_of_ne hz,beq_false_of_ne hg]at this ⊢;exact this
 ·rw[aM hb]at z;refine(I2.hok b ob z).stay (λc' v hc r=>k c' v ?_ r) (λc' r=>ud c' _ r (λd=>by cases d)) λc' xs r=>ud c' _ r (λd=>by cases d);rcases hc with rfl|hc
  ·exact hb
  ·exact λ(w':c'=dx)=>by rw[w',hdx]at hc;cases hc
def Qk(C:Addr)(t:TA):TE:=λσ H Q=>t σ H λvs H1=>∃ea v u t0,vs=[.ref ea,v,u]/\H1 ea=ae (xO ea C af t0)/\∀t1,Q .non (upd H1 ea (xO ea C af t1))
theorem PX{pl:Sem Bool}(c:XCl X.K C C0)(hg:Gl X x0)(hm:X.mg x0=ae (.ref C0))(ha:PA X (e::es) t)(hdb:(x0==("__debug__":Str))=ai:=by decide)
  (he:Au (e::es) X.env=(ai,eval e X.env)::Au es X.env:=by rfl) (hpl:(C5 pos (Au es X.env)).any (·.1)=ai:=by rfl)
  (ht:eval (.Call (.Attribute (.Name x0 p) "__init__" apos) (e::es) [] pos) X.env=(do
   let ov <-eval (.Name x0 p) X.env
   standAt apos.atName
   let(f,first) <-holding [ov] (getMethod ov "__init__" pl)
   callWith pos f first (C5 pos (Au (e::es) X.env)) (backToKw pos (Fq [] X.env))):=by rfl):
  PE X (.Call (.Attribute (.Name x0 p) "__init__" apos) (e::es) [] pos) (Qk C t):=by
 intro pins s σ H Q I h;refine PySem.W.methodCall_KW (pl:=pl) (ma I hg hm ?_ hdb) ht;refine PySem.W.method_cls I.kIn c.sp0 (PySem.W.cls_value I.kIn c.rd0 c.in0 rfl ?_);refine PyProof.Rows.callWith_builtin1 (bj (ha pos pins _ σ H _ (I.tok _) h) λus s1 ⟨vs,H1,I2,r,ea,v,u,t0,ev,hx,q⟩=>?_) he hpl;subst ev;obtain⟨hh,g,d,tk,os⟩:=s1;cases r with
 |cons r1 r2=>
  obtain rfl:=(show _=Bq ea from r1);obtain⟨nm,q',N,bs,sn,sub,ab,col,dd,k0,k1,k2,k3,k5,hC⟩:=c.obj;refine OR PySem.F.excBase_ValueError (c.tail _ I2.kIn) (I2.kIn _ _ hC) (I2.hok _ _ hx).1 (λh' k e' hn hs=>?_) (by rw[<-r2.length];show 2<=Ao;decide);exact⟨.non,_,I2.write (x:=ea) (e:=ea) (by rw[hx];exact True.intro) (.inl rfl) (λb u hb z=>k b u hb z) ⟨_,e'⟩ (sF e'),rfl,q _⟩
end
end L2
namespace L2
open PySem PySem.Spec PyProof.Rows
def pY(C:Addr)(f g:Str):Sp:=λvs H Q _=>∃ea v u t0,vs=[.ref ea,v,u]/\H ea=ae (xO ea C af t0)/\∀dx t1,H dx=af->dx≠ea->Q .non (upd (upd H dx (.xd [(f,v),(g,u)])) ea (xO ea C (ae dx) t1))
theorem M0{H:Hp}{a b:Addr}{o u:HO}(n:a≠b):upd (upd H a o) b u=upd (upd H b u) a o:=by
 funext c
 by_cases h:c=a
 ·subst h;rw[aM n,bw,bw]
 ·rw[aM h];by_cases h2:c=b
  ·subst h2;rw[bw,bw]
  ·rw[aM h2,aM h2,aM h]
section
variable{CX:gq}{P:Bj}{w:Bu}{K:Ag}{mg:Str->Option Af}{base:Heap}{k:Nat}{fI C C0:Addr}{name qual f g:Str}{params:Arguments}{body:List Stmt}{scope:Fb}{dV kV doc pm cdv ct oc:Af}{an od:Option Addr}{osl:Array (Option Af)}
theorem Oe{p1 p2 p3 p4 p5 p6 p7 p8 p9 p10 p11 p12 p13 p14 p15:Pos}(lk:K.lookup fI=ae ⟨oc,od,.func (Eb name qual params body scope dV kV doc pm an cdv ct),osl⟩)(hcd:Gj K cdv qual=ah)(S:FnScope ["self",f,g] ["self",f,g] scope)
  (hb:body=[.Expr (.Call (.Attribute (.Name "BoardError" p1) "__init__" p2) [.Name "self" p3,.Name f p4,.Name g p11] [] p5) p6,.Assign [.Attribute (.Name "self" p7) f p8] (.Name f p9) p10,.Assign [.Attribute (.Name "self" p12) g p13] (.Name g p14) p15])
  (c:XCl K C C0) (hf:Cr K (.ref C) f=ae af) (hf2:Cr K (.ref C) g=ae af) (hfg:f≠g) (hm:mg "BoardError"=ae (.ref C0)) (hg:scope.names.lookup ("BoardError":Str)=ae .globalImplicit) (v0:ic scope "self") (v1:ic scope f) (v2:ic scope g)
  {pl:Env->Sem Bool} (ht:∀env:Env,eval (.Call (.Attribute (.Name "BoardError" p1) "__init__" p2) [.Name "self" p3,.Name f p4,.Name g p11] [] p5) env=(do
   let ov <-eval (.Name "BoardError" p1) env
   standAt p2.atName
   let(f',first) <-holding [ov] (getMethod ov "__init__" (pl env))
   callWith p5 f' first (C5 p5 (Au [.Name "self" p3,.Name f p4,.Name g p11] env)) (backToKw p5 (Fq [] env))))
  (hd1:(f==("__debug__":Str))=ai) (hd2:(f==("__classdict__":Str))=ai) (hd3:(g==("__debug__":Str))=ai) (hd4:(g==("__classdict__":Str))=ai)
  (hs:∀env,Fi (.Name f p9) (ae (.Attribute (.Name "self" p7) f p8)) p10.line env=pure ai) (hs2:∀env,Fi (.Name g p14) (ae (.Attribute (.Name "self" p12) g p13)) p15.line env=pure ai):
  FnOk P w K mg base CX (k+1) fI (Eb name qual params body scope dV kV doc pm an cdv ct) ["self",f,g] (pY C f g):=by
 subst hb;refine tU lk hcd S (λvs H Q E h=>by obtain⟨_,_,_,_,rfl,_⟩:=h;rfl) λA outer s H vs Q E hr h=>?_;obtain⟨ea,v,u,t0,rfl,he,q⟩:=h;refine⟨_,fi (jX (PX (C:=C) (C0:=C0) c hg hm (cy (ik (i:=0) rfl v0) (cy (ik (i:=1) rfl v1 hd1 hd2) (cy (ik (i:=2) rfl v2 hd3 hd4) c9))) (ht:=ht _)))
  (fi (NJ (C:=C) c hf (ik (i:=0) rfl v0) (ik (i:=1) rfl v1 hd1 hd2) (hs _)) (fm (OG (C:=C) c hf2 (ik (i:=0) rfl v0) (ik (i:=2) rfl v2 hd3 hd4) (hs2 _)))),?_⟩
 refine⟨.ref ea,rfl,v,rfl,u,rfl,ea,v,u,t0,rfl,he,λt1=>⟨v,rfl,.ref ea,rfl,ea,t1,rfl,bw,λdx hdx hne=>⟨u,rfl,.ref ea,rfl,ea,t1,dx,f,v,rfl,bw,?_,hfg,?_⟩⟩⟩
 ·rw[aM hne,bw]
 ·rw[aM hne]at hdx;rw[yG hne,M0 (Ne.symm hne),NV];exact q dx t1 hdx hne
end
section
variable{X:Cx}{CX:gq}{k:Nat}{fI C C0:Addr}{fd:Cw}{oI:Obj}{f g x:Str}{p pos:Pos}{e e2:Expr}{te te2:TE}{pins:List (Addr×Obj)}{σ:St}{H:Hp}{s:Ai}{Q:Af->Ai->Prop}
theorem MM(c:XCl X.K C C0)(hi:Cr X.K (.ref C) "__init__"=ae (ae (.ref fI)))(lkf:X.K.lookup fI=ae oI)(hfc:oI.cls=.type "function")
  (F:FnOk X.prog X.w X.K X.mg X.base CX k fI fd ["self",f,g] (pY C f g)) (hr:Room (k+1) X.A) (hg:Gl X x) (hm:X.mg x=ae (.ref C)) (hb:Binds X.K fd ["self",f,g] []) (hx:∀outer H s e s',¬CX outer H s (λ_ _ _=>False) e s')
  (ha:PE X e te) (ha2:PE X e2 te2) (I:Inv X pins σ H s)
  {Qv:V->V->Hp->Prop} (h:te σ H λv H1=>te2 σ H1 λu H2=>Qv v u H2) (hq:∀(v u:V)(H1:Hp)(ea dx t:Addr)(s':Ai),Qv v u H1->X.s₀.heap.objs.size<=ea->H1 ea=af->H1 dx=af->dx≠ea->Inv X pins σ (upd (upd H1 dx (.xd [(f,v),(g,u)])) ea (xO ea C (ae dx) t)) s'->Q (.ref ea) s')
  (hdb:(x==("__debug__":Str))=ai:=by decide) (he:Au [e,e2] X.env=(ai,eval e X.env)::Au [e2] X.env:=by rfl) (he2:Au [e2] X.env=(ai,eval e2 X.env)::Au [] X.env:=by rfl) (hpl:(C5 pos (Au [e2] X.env)).any (·.1)=ai:=by rfl):
  Az (Bg X.prog X.w) X.A (eval (.Call (.Name x p) [e,e2] [] pos) X.env) Q X.xe s:=by
 refine Gu (ma I hg hm ?_ hdb);refine PySem.W.callWith_K (h₀:=X.base) I.ok.mod.kin c.kp (bj (cy ha (cy ha2 c9 he2) he pos pins s σ H (λvs H1=>match vs with|[v,u]=>Qv v u H1|_=>False) I h) λus s1 ⟨vs,H1,I1,r,q⟩=>⟨I1.kIn,?_⟩) he hpl;obtain⟨v,u,rfl,q⟩:∃v u,vs=[v,u]/\Qv v u H1:=by
  rcases vs with _|⟨v,_|⟨u,_|⟨w,r⟩⟩⟩
  ·exact q.elim
  ·exact q.elim
  ·exact⟨v,u,rfl,q⟩
  ·exact q.elim
 obtain⟨a,b,rfl,r1,r2⟩:=EO r;have sz:=I1.sz;obtain⟨hh,gg,d,tk,os⟩:=s1;obtain⟨nm,q',N,bs,sn,sub,ab,col,dd,k0,k1,k2,k3,k5,hC⟩:=c.obj;refine SJ PySem.F.excBase_ValueError (c.tail _ I1.kIn) (I1.kIn _ _ hC) I1.kIn hi (I1.kIn _ _ lkf) hfc (λh' ea hm' he'=>?_) (by show 2<=Ao;decide);subst he';obtain⟨t,h1,h2,h3⟩:=hm'.there;have hf1:H1 (hh.objs.size+1)=af:=I1.hok.fresh (Gr _);have I2:=I1.laid (a:=hh.objs.size+1) (o:=xO (hh.objs.size+1) C af t) (t':=tk) (λb u z=>hm'.keeps b u z) (Gr _) (sF h1);refine wpAny_call (Gi (F.run _ X.stack _ _ ⟨[.ref (hh.objs.size+1),a,b],[]⟩ [.ref (hh.objs.size+1),a,b] [.ref (hh.objs.size+1),v,u] (λv' H2=>v'=.non/\∃dx t1,H1 dx=af/\dx≠hh.objs.size+1/\H2=upd (upd H1 dx (.xd [(f,v),(g,u)])) (hh.objs.size+1) (xO (hh.objs.size+1) C (ae dx) t1)) (λ_ _ _=>False) (hr.make C [a,b] [])
  (I2.env0.make C [a,b] []) (hb _ _ I2.kIn rfl) (.cons rfl (.cons r1 (.cons r2 .nil))) ⟨_,_,_,t,rfl,bw,λdx t1 hdx hne=>⟨rfl,dx,t1,by rw[aM hne]at hdx;exact hdx,hne,yG hne⟩⟩) λr s' hq'=>?_)
 cases r with
 |error e=>exact absurd hq' (hx _ _ _ _ _)
 |ok fl=>
  cases fl with
  |ret u'=>
   obtain⟨v',H',I3,rv,ev,dx,t1,hdx,hne,eH⟩:=I2.after hq';subst ev eH;exact⟨rv,hq _ _ _ _ dx t1 s' q (An sz (Gr _)) hf1 hdx hne I3⟩
  |next=>exact False.elim hq'
  |brk=>exact False.elim hq'
  |cont=>exact False.elim hq'
end
def pB(C:Addr)(f g:Str)(EX:St->Addr->Addr->Hp->Prop)(te te2:TE):TS:=λ_ σ H=>te σ H λv H1=>te2 σ H1 λu H2=>∀ea dx,H2 ea=af->H2 dx=af->dx≠ea->EX σ C dx (upd H2 dx (.xd [(f,v),(g,u)]))
section
variable{X:Cx}{CX:gq}{k:Nat}{fI C C0:Addr}{fd:Cw}{oI:Obj}{f g x:Str}{p cpos pos:Pos}{e e2:Expr}{te te2:TE}{EX:St->Addr->Addr->Hp->Prop}
theorem yy(c:XCl X.K C C0)(hi:Cr X.K (.ref C) "__init__"=ae (ae (.ref fI)))(lkf:X.K.lookup fI=ae oI)(hfc:oI.cls=.type "function")
  (F:FnOk X.prog X.w X.K X.mg X.base CX k fI fd ["self",f,g] (pY C f g)) (hr:Room (k+1) X.A) (hg:Gl X x) (hm:X.mg x=ae (.ref C)) (hb:Binds X.K fd ["self",f,g] []) (hx:∀outer H s e s',¬CX outer H s (λ_ _ _=>False) e s')
  (hl:wY X C EX) (ha:PE X e te) (ha2:PE X e2 te2)
  (hdb:(x==("__debug__":Str))=ai:=by decide) (he:Au [e,e2] X.env=(ai,eval e X.env)::Au [e2] X.env:=by rfl) (he2:Au [e2] X.env=(ai,eval e2 X.env)::Au [] X.env:=by rfl) (hpl:(C5 cpos (Au [e2] X.env)).any (·.1)=ai:=by rfl):
  PS X (.Raise (ae (.Call (.Name x p) [e,e2] [] cpos)) af pos) (pB C f g EX te te2):=by
 intro pins s σ H D I h;obtain⟨nm,q',N,bs,sn,sub,ab,col,dd,k0,k1,k2,k3,k5,hC⟩:=c.obj;have mk:Az (Bg X.prog X.w) X.A (eval (.Call (.Name x p) [e,e2] [] cpos) X.env) (λv s₁=>∃e t d,v=.ref e/\s₁.heap.get? C=ae (E4 nm q' C N bs (.ref C0::gX) ah sn sub ab col dd k0 k1 k2 k3 k5 "ValueError.__new__") /\
   s₁.heap.get? e=ae ⟨.ref C,d,kx t,#[]⟩/\X.xe (.ref e) s₁) X.xe s:=
  MM c hi lkf hfc F hr hg hm hb hx ha ha2 I (Q:=λv s₁=>∃e t d,v=.ref e/\s₁.heap.get? C=ae (E4 nm q' C N bs (.ref C0::gX) ah sn sub ab col dd k0 k1 k2 k3 k5 "ValueError.__new__") /\
   s₁.heap.get? e=ae ⟨.ref C,d,kx t,#[]⟩/\X.xe (.ref e) s₁) h (λv u H1 ea dx t s' q sz n1 n2 ne I'=>⟨ea,t,ae dx,rfl,I'.kIn _ _ hC,(I'.hok _ _ bw).1,hl pins σ _ s' ea dx t I' bw sz (by
    rw[JI (by rw[aM (Ne.symm ne)];exact n1)];exact q ea dx n1 n2 ne)⟩) hdb he he2 hpl
 have hh:X.A.handled=af:=hr.hd;rw[arm_exec_Raise]
 first
  |exact Ad (Hb (DN (C:=C) rfl hh (Ad (Cq mk (λv s₃ h₃=>Ad (Hb (Aj h₃))) λ_ _ x=>x))))
  | (simp only[evalOpt,Di];exact Ad (Hb (DN (C:=C) rfl hh (Ad (Cq mk (λv s₃ h₃=>Ad (Hb (Aj h₃))) λ_ _ x=>x)))))
end
section
variable{P:Bj}{w:Bu}{K:Ag}{mg:Str->Option Af}{base:Heap}{N:List Str}{qual:Str}{scope:Fb}{f:Addr}{cd:Af}{A:B3}{outer:List Env}{s₀:Ai}{H₀:Hp}{E:XK}
theorem Sj{pins:List (Addr×Obj)}{σ:St}{H:Hp}{s s':Ai}{e:Af}(I:Inv (b8 (gi P w) P w K mg base N qual scope f cd A outer s₀ H₀ E) pins σ H s)
  (h:gi P w (b8 (gi P w) P w K mg base N qual scope f cd A outer s₀ H₀ E).stack H s E e s'):(b8 (gi P w) P w K mg base N qual scope f cd A outer s₀ H₀ E).xe e s':=by
 obtain⟨B,t,ea,C,dx,H',rfl,F,hE⟩:=h;obtain⟨o2,ho2,hd2⟩:=F.dict;have ob:Un (cH outer) [] H₀ H s₀.heap s.heap:=I.base;have st:(b8 (gi P w) P w K mg base N qual scope f cd A outer s₀ H₀ E).stack=Dy qual scope s₀.heap.objs.size f cd::outer:=rfl;have hfrs:∀b,b∈cH (Dy qual scope s₀.heap.objs.size f cd::outer)↔b=s₀.heap.objs.size\/b∈cH outer:=λb=>by
  show b∈s₀.heap.objs.size::cH outer↔_;exact A5
 have nin:∀b o,s₀.heap.get? b=ae o->b∉cH outer->b∉cH (b8 (gi P w) P w K mg base N qual scope f cd A outer s₀ H₀ E).stack:=λb o e hb z=>by
  rw[st]at z;rcases(hfrs b).mp z with h|h
  ·exact absurd h (Bf (Ar e))
  ·exact hb h
 show Az (Bg P w) (A.deeper (Dy qual scope s₀.heap.objs.size f cd)) (leaving (Dy qual scope s₀.heap.objs.size f cd) (.ref ea)) _ _ s';refine Cq ((KD.leave _ _).any (wpAny_leaves_onW (E:=λ_ _=>False) (Q:=λ_ s''=>∃h',Heap.FlyingW B outer ea (.ref C) (.ref t) h'/\s'.heap.UpToSlots h'/\s''={ s' with heap:=h'}) I.ok.frames rfl F.fly λh' a b=>⟨h',a,b,rfl⟩)) (λ_ s'' h=>?_) λ_ _ z=>z.elim;obtain⟨⟨h',fl,k4,rfl⟩,dk⟩:=h;obtain⟨u,hok⟩:=AX I F fl.1 k4;refine⟨B,t,ea,C,dx,H',rfl,⟨fl,?_,F.os.trans I.os,F.bare,?_,hok,F.hea,An I.sz F.new,?_,?_⟩,hE⟩
 ·obtain⟨oe,vs,e1,e2,e3,_⟩:=fl.first;exact⟨_,e1,(ua dk ho2 e1).trans hd2⟩
 ·refine⟨λb o e n hb hx=>?_,λb o e n hb hx=>?_,λb o e n hx=>?_,λb o e hx=>?_,λb xs q=>u.tups b xs (ob.tups b xs q),λb o v q=>u.frzs b o v (ob.frzs b o v q),λb ps q=>?_⟩
  ·exact u.keep b o (ob.keep b o e n hb hx) (ob.free b o e n hx) (nin b o e hb) hx
  ·obtain⟨sl,e1⟩:=ob.slot b o e n hb hx;obtain⟨sl',e2⟩:=u.slot b _ e1 (ob.free b o e n hx) (by rw[st];exact(hfrs b).mpr (.inr hb)) hx;exact⟨sl',e2⟩
  ·obtain⟨o1,e1⟩:=ob.there b o e hx;exact u.free b o1 e1 (ob.free b o e n hx) hx
  ·obtain⟨o1,e1⟩:=ob.there b o e hx;exact u.there b o1 e1 hx
  ·obtain⟨m1,z1⟩:=ob.tbls b ps q;obtain⟨m2,z2⟩:=u.tbls b _ z1;exact⟨m1++m2,by rw[z2,Array.append_assoc]⟩
 ·intro b o e hb o' e';obtain⟨o1,e1⟩:=ob.there b o e (by simp);obtain⟨o2,e2⟩:=F.un.there b o1 e1 (by simp);have z:=F.old b o1 e1 (nin b o e hb) o2 e2;have z':=fl.1 b o2 z;rw[show h'.get? b=ae o' from e']at z';cases z';exact z
 ·intro b v o q e';obtain⟨o1,e1⟩:=(F.hok b v q).has;have z:=F.trk b v o1 q e1;have z':=fl.1 b o1 z;rw[show h'.get? b=ae o from e']at z';cases z';exact z
end
def lh(K:Ag)(C C0:Addr)(i:Nat)(th:TS)(D:Ends):St->XK:=λσ cl dd H=>∃dx,cl=.ref C/\dd=ae dx/\XCl K C C0/\∀ea,H ea=af->th (ou i D) (σ.set i (ae (.ref ea))) (upd H ea (yO ea C dx))
def tY(K:Ag)(C C0:Addr)(i:Nat)(tb:(St->XK)->TS)(th:TS):TS:=λD σ H=>tb (lh K C C0 i th D) D σ H
section
variable{X:Cx}{Cn C0:Addr}{body suite:List Stmt}{b0:Stmt}{i:Nat}{x n:Str}{np hpos pos:Pos}{tb:(St->XK)->TS}{th:TS}
theorem Jk(hst:X.stack=X.env::X.outer)(hfr:X.env.frame=ae X.env.locals)(hg:Gl X x)(hm:X.mg x=ae (.ref Cn))(hN:X.N.Nodup)(hi:X.N[i]?=ae n)(hk:X.env.scope.names.lookup n=ae .local)
  (hb:∀(pn:List (Addr×Obj))(W:Af->Ai->Prop)(EX:St->XK),(∀pins σ H s e s',Inv (X.inTry pn W) pins σ H s->gi X.prog X.w X.stack H s (EX σ) e s'->W e s')->PSs (X.inTry pn W) body (tb EX))
  (hs:∀e,PSs (X.inExc e) (b0::suite) th) (hdb:(x==("__debug__":Str))=ai:=by decide):
  PS X (.Try body [.ExceptHandler (ae (.Name x np)) (ae n) (b0::suite) hpos] [] [] pos) (tY X.K Cn C0 i tb th):=by
 intro pins s σ H D I h;refine wpAny_Try_except (Cq (hb (X.pn++pins) _ (lh X.K Cn C0 i th D) ?_ [] s σ H D I.toTry h) (λf s₁ q=>?_) λe s₁ z=>z)
 ·intro pins' σ' H1 s1 e s2 I1 hcx;obtain⟨B,t,ea,C,dx,H',rfl,F,dx1,e1,e2,c,q⟩:=hcx;cases e1;cases e2;have I2:Inv X pins σ' H1 s1:=I1.ofTry;have fly:=F.fly;rw[hst]at fly;obtain⟨o2,ho2,hd2⟩:=F.dict;have frm:X.A.frames=ae (X.env::X.outer):=by rw[<-hst];exact I2.ok.frames
  refine Cq ((KD.note _ _).any (wpAny_looks_onW (E:=λ_ _=>False) (Q:=λ_ s''=>∃h',Heap.HeldW B (X.env::X.outer) ea (.ref Cn) (.ref t) X.env.locals h'/\s2.heap.UpToSlots h'/\s''={ s2 with heap:=h'}) frm hfr fly λh' a b=>⟨h',a,b,rfl⟩)) (λ_ s₃ hh=>?_) λ_ _ z=>z.elim;obtain⟨⟨h4,held,sm4,rfl⟩,dk4⟩:=hh;refine Cq ((KD.flight _ _).any (wpAny_landsW (E:=λ_ _=>False) (Q:=λ_ s''=>∃h',Heap.FlyingW B (X.env::X.outer) ea (.ref Cn) (.ref t) h'/\h4.UpToSlots h'/\s''={ s2 with heap:=h'}) held λh' a b=>⟨h',a,b,rfl⟩)) (λ_ s₃ hh=>?_) λ_ _ z=>z.elim;obtain⟨⟨h5,fly5,sm5,rfl⟩,dk5⟩:=hh;have inv:∀h6,Heap.FlyingW B (X.env::X.outer) ea (.ref Cn) (.ref t) h6->s2.heap.UpToSlots h6->DK s2.heap h6->∀tk,Inv X pins σ' (upd H' ea (yO ea Cn dx)) {s2 with heap:=h6,toks:=tk}:=λh6 f6 sm6 dk6 tk=>by
   obtain⟨oe,vs,e1,e2,e3,_⟩:=f6.first;have d6:=(ua dk6 ho2 e1).trans hd2;obtain⟨oc,od,odt,osl⟩:=oe;dsimp only at e2 e3 d6;subst e2 e3 d6;exact Se I2 F f6.1 sm6 e1 tk
  have I5:=inv h5 fly5 (sm4.trans sm5) (dk4.trans dk5) s2.toks;obtain⟨nm,q',N,bs,sn,sub,ab,col,dd,k0,k1,k2,k3,k5,hC⟩:=c.obj;obtain⟨nm1,q1,N1,bs1,sn1,sub1,ab1,col1,dd1,j0,j1,j2,j3,j5,ni,hC0⟩:=c.base;obtain⟨oe,he1,he2⟩:=fly5.there;refine wpAny_handleBy_cons (codeAny_handlers_test (ma (X:=X.inExc (.ref ea)) I5.toExc hg hm ?_ hdb)) (by intro z;cases z);refine HG (I5.kIn _ _ hC) (I5.kIn _ _ hC) he1 he2 (by simp) (by simp) ?_;refine codeAny_handlers_suite_as ?_;refine Cq ((KD.flight _ _).any (lands_againW (E:=λ_ _=>False) (Q:=λ_ s''=>∃h',Heap.FlyingW B (X.env::X.outer) ea (.ref Cn) (.ref t) h'/\h5.UpToSlots h'/\s''={ s2 with heap:=h'}) fly5 λh' a b=>⟨h',a,b,rfl⟩)) (λ_ s₃ hh=>?_) λ_ _ z=>z.elim;obtain⟨⟨h6,fly6,sm6,rfl⟩,dk6⟩:=hh;have I6:=inv h6 fly6 ((sm4.trans sm5).trans sm6) ((dk4.trans dk5).trans dk6) s2.toks;refine mZ (X:=X.inExc (.ref ea)) I6.toExc hN hi (.inl hk) (v:=.ref ea) rfl (λs7 I7=>?_) (.inr hk);refine Cq (hs (.ref ea) pins s7 _ _ (ou i D) I7 (q ea F.hea)) (λf s8 h8=>?_) λ_ _ z=>z.elim;show Az _ X.A (do bindName X.env n .none;unbindBehindTheSuite X.env n hpos) (λ_ s₃=>SP X pins D f s₃) X.xe s8;cases f with
  |next=>
   obtain⟨σ2,H2,I8,q8⟩:=h8;exact qU (I8.ofExc I2.ok) hN hi hk λs9 I9=>⟨_,H2,I9,q8⟩
  |brk=>
   obtain⟨σ2,H2,I8,q8⟩:=h8;exact qU (I8.ofExc I2.ok) hN hi hk λs9 I9=>⟨_,H2,I9,q8⟩
  |cont=>
   obtain⟨σ2,H2,I8,q8⟩:=h8;exact qU (I8.ofExc I2.ok) hN hi hk λs9 I9=>⟨_,H2,I9,q8⟩
  |ret u=>
   obtain⟨v,σ2,H2,I8,r8,q8⟩:=h8;exact qU (I8.ofExc I2.ok) hN hi hk λs9 I9=>⟨v,_,H2,I9,r8,q8⟩
 ·cases f with
  |next=>
   obtain⟨σ2,H2,I8,q8⟩:=q;exact wpAny_execs_nil ⟨σ2,H2,I8.ofTry,q8⟩
  |brk=>obtain⟨σ2,H2,I8,q8⟩:=q;exact⟨σ2,H2,I8.ofTry,q8⟩
  |cont=>obtain⟨σ2,H2,I8,q8⟩:=q;exact⟨σ2,H2,I8.ofTry,q8⟩
  |ret u=>obtain⟨v,σ2,H2,I8,r8,q8⟩:=q;exact⟨v,σ2,H2,I8.ofTry,r8,q8⟩
end
end L2
namespace DL
open PySem L2 Nb
abbrev eB:=Int->Int->Sl->Int->Prop
def eT(C:Ctx)(f g:Str)(Cl:Addr)(EX:St->Addr->Addr->Hp->Prop)(Ed:eB):Prop:=
 ∀(fz:Hp),HB C fz->∀(H:Hp)(B:Addr->Prop)(σ:St)(δ:Sl)(n:Int)(i j:Int)(dx:Addr),Rel {C with fz:=fz} H B σ δ n->Ed i j δ n->H dx=ae (.xd [(f,.int i),(g,.int j)])->EX σ Cl dx H
section
variable{C:Ctx}{X:Cx}{T U:TS}{W V':aW}{e:Expr}{te te2:TE}{we we2:DT}{pos:Pos}{f g:Str}{Cl:Addr}
def i9(w w2:DT)(Ed:eB):aW:=λδ n _=>w δ n λx n1=>w2 δ n1 λy n2=>∃i j,x=.d (.int i)/\y=.d (.int j)/\Ed i j δ n2
theorem LZ{EX:St->Addr->Addr->Hp->Prop}{Ed:eB}(h:fR te we)(h2:fR te2 we2)(L:eT C f g Cl EX Ed):fX C (pB Cl f g EX te te2) (i9 we we2 Ed):=λfz hz H B σ δ n K D R q E=>
 h {C with fz:=fz} H B σ δ n _ _ R q λv x H1 n1 R1 k1 r1 q1=>h2 {C with fz:=fz} H1 B σ δ n1 _ _ R1 q1 λu y H2 n2 R2 k2 r2 q2=>by
  obtain⟨i,j,rfl,rfl,q3⟩:=q2;cases(show RdX H1 B v (.int i)from r1);cases(show RdX H2 B u (.int j)from r2);intro ea dx n1' n2' ne;refine L fz hz (upd H2 dx (.xd [(f,.int i),(g,.int j)])) B σ δ n2 i j dx (R2.same λb o z=>?_) q3 bw;rw[aM (bQ z n2')];exact z
abbrev gH:=List Wv->Int->(Wv->Int->Prop)->(Int->Int->Int->Prop)->Prop
def lG(Cl:Addr)(f g:Str)(S:gH):Sp:=λvs H Q E=>∃(t:Addr)(l:TL)(ns:List Int)(B:Addr->Prop)(ws:List Wv)(n:Int)(Q0:Wv->Int->Prop)(E1:Int->Int->Int->Prop),Tp H t l ns n/\B t/\(∀b,B b->H b≠af)/\ARel H B t vs ws/\S ws n Q0 E1 /\
 (∀x n',Q0 x n'->∀v H',Tp H' t l ns n'->Kp t H H'->WRel H' B t v x->Q v H')/\∀i j n',E1 i j n'->∀dx H',Tp H' t l ns n'->Kp t H H'->H' dx=ae (.xd [(f,.int i),(g,.int j)])->E (.ref Cl) (ae dx) H'
end
section
variable{P:Bj}{w:Bu}{K:Ag}{mg:Str->Option Af}{base:Heap}{f g:Str}{Cl:Addr}
theorem Fun.okE2{x qual:Str}{st:Stmt}{fa:Addr}{fd:Cw}{N ps:List Str}{k:Nat}{S:gH}{W:eB->aW}(F:Fun K x qual st fa fd)(Sc:FnScope N ps (cK st))(len:∀ws n Q E,S ws n Q E->ws.length=ps.length)
  (hbody:∀(cdv:Af)(A:B3)(outer:List Env)(s:Ai)(H:Hp)(E:XK),Room k (A.deeper (Dy qual (cK st) s.heap.objs.size fa cdv))->
   ∀C Ed,eT C f g Cl (λ_ Cl dx H'=>E (.ref Cl) (ae dx) H') Ed->∃T,DRs C (b8 (gi P w) P w K mg base N qual (cK st) fa cdv A outer s H E) (fH st) T (W Ed))
  (body:∀ws n Q E,S ws n Q E->W (λi j _ n=>E i j n) (dj N ws) n {nx:=λ_ n=>Q (.d .none) n,rt:=Q}):FnOk P w K mg base (gi P w) (k+1) fa fd ps (lG Cl f g S):=by
 obtain⟨oc,od,kV,doc,pm,an,cdv,ct,osl,rfl,lk,hcd⟩:=F.ex;refine tU lk hcd Sc (λvs H Q E h=>?_) λA outer s H vs Q E hr h=>?_
 ·obtain⟨t,l,ns,B,ws,n,Q0,E1,_,_,_,r,q,_⟩:=h;rw[r.len];exact len ws n Q0 E1 q
 ·obtain⟨t,l,ns,B,ws,n,Q0,E1,T,bt,ba,r,q,kq,ke⟩:=h;obtain⟨T',d⟩:=hbody cdv A outer s H E hr ⟨t,l,ns,H,B,λ_=>af⟩ (λi j _ n=>E1 i j n) λfz _ H' B' σ δ n' i j dx R e hx=>ke i j n' e dx H' R.tp R.kp hx;refine⟨T',d.ps,d.sd (λ_=>af) (λ_ _ z=>z) H B _ _ n _ _ (zp T bt ba r) (body ws n Q0 E1 q) ⟨?_,?_,?_,?_,?_⟩⟩
  ·exact λH' B' σ δ n' R' q'=>kq (.d .none) n' q' .non H' R'.tp R'.kp (show RdX H' B .non .none from .non)
  ·exact λH' B' σ δ n' v x R' r' q'=>kq x n' q' v H' R'.tp R'.kp (r'.less R'.b0)
  ·exact λ_ _ _ _ _ _ z=>z.elim
  ·exact λ_ _ _ _ _ _ z=>z.elim
  ·exact λ_ _ _ _ _ _ _ _ _ _ _ _ _ z=>z.elim
structure HasE2(P:Bj)(w:Bu)(K:Ag)(mg:Str->Option Af)(base:Heap)(k:Nat)(x:Str)(ps:List Str)(Cl:Addr)(f g:Str)(S:gH):Prop where
 ex:∃(fa:Addr)(fd:Cw),FnOk P w K mg base (gi P w) k fa fd ps (lG Cl f g S)/\Binds K fd ps []/\mg x=ae (.ref fa)/\Cf K (.ref fa)=ah
end
section
variable{C:Ctx}{f g:Str}{Cl:Addr}{S:gH}{t:TA}{w:eO}{EX:St->XK}{Ed:eB}
def l9(S:gH)(w:eO)(Ed:eB):aW:=λδ n K=>w δ n λxs n1=>S xs n1 (λ_ n2=>K.nx δ n2) λi j n2=>Ed i j δ n2
theorem Kl(h:iP t w)(L:eT C f g Cl (λσ Cl dx H=>EX σ (.ref Cl) (ae dx) H) Ed):fX C (mj (l7 (lG Cl f g S) EX t)) (l9 S w Ed):=λfz hz H B σ δ n K D R q E=>
 h {C with fz:=fz} H B σ δ n _ _ R q λvs xs H1 n1 R1 k1 r1 q1=>
  ⟨C.t,C.l,C.ns,B,xs,n1,_,_,R1.tp,R1.bt,R1.ba,r1,q1,λx n' q2 v H' T' k' _=>E.nx H' B σ δ n' (R1.step T' k') q2,λi j n' q2 dx H' T' k' hx=>L fz hz H' B σ δ n' i j dx (R1.step T' k') q2 hx⟩
def qJ(m:Nat)(S:gH)(w:eO)(Ed:eB):aW:=λδ n K=>w δ n λxs n1=>S xs n1 (λx n2=>∃d,x=.d d/\K.nx (δ.set m (ae (.w (.d d)))) n2) λi j n2=>Ed i j δ n2
theorem Ot{m:Nat}(h:iP t w)(L:eT C f g Cl (λσ Cl dx H=>EX σ (.ref Cl) (ae dx) H) Ed):fX C (eM (l7 (lG Cl f g S) EX t) (gp m)) (qJ m S w Ed):=λfz hz H B σ δ n K D R q E=>
 h {C with fz:=fz} H B σ δ n _ _ R q λvs xs H1 n1 R1 k1 r1 q1=>
  ⟨C.t,C.l,C.ns,B,xs,n1,_,_,R1.tp,R1.bt,R1.ba,r1,q1,λx n' q2 v H' T' k' r'=>by
   obtain⟨d,rfl,q3⟩:=q2;exact E.nx H' B _ _ n' ((R1.step T' k').set (i:=m) (x:=.d d) r' rfl) q3,λi j n' q2 dx H' T' k' hx=>L fz hz H' B σ δ n' i j dx (R1.step T' k') q2 hx⟩
def Suite2(f g:Str)(Cl:Addr)(ie j:Nat)(th:TS):Prop:=∀(D:Ends)(σ:St)(H:Hp)(ea dx:Addr)(i k:Int),σ[ie]?=ae (ae (.ref ea))->H ea=ae (yO ea Cl dx)->H dx=ae (.xd [(f,.int i),(g,.int k)])->
 (∀p,H p=af->D.nx (σ.set j (ae (.ref p))) (upd H p (.lst [.int i,.int k])))->th D σ H
def o9(ie j:Nat)(Wb:eB->aW):aW:=λδ n K=>Wb (λi k δ' n'=>ie < δ'.length/\K.nx ((δ'.set j (ae (.w (.d (.list [.int i,.int k]))))).set ie af) n') δ n K
theorem HY{K':Ag}{C0:Addr}{ie j:Nat}{tb:(St->XK)->TS}{Wb:eB->aW}{th:TS}(c:XCl K' Cl C0)(hj:j≠ie)(hth:Suite2 f g Cl ie j th)
  (hsd:∀C EX Ed,eT C f g Cl (λσ Cl dx H=>EX σ (.ref Cl) (ae dx) H) Ed->fX C (tb EX) (Wb Ed)):lq (tY K' Cl C0 ie tb th) (o9 ie j Wb):=λC H B σ δ n K D R q E=>by
 refine hsd C (lh K' Cl C0 ie th D) _ (λfz hz H1 B1 σ1 δ1 n1 i k dx R1 e1 hx=>?_) C.fz (λ_ _ z=>z) H B σ δ n K D R q E;refine⟨dx,rfl,rfl,c,λea hea=>hth _ _ _ ea dx i k ?_ bw (by rw[aM (bQ hx hea)];exact hx) λp hp=>?_⟩
 ·exact Fg (by rw[R1.len];exact e1.1)
 ·have hpa:p≠ea:=λz=>by rw[z,bw]at hp;cases hp
  have hp1:H1 p=af:=by rw[aM hpa]at hp;exact hp
  have R2:Rel C H1 B1 σ1 δ1 n1:=R1.unfz hz;have R3:=R2.same (H':=upd (upd H1 ea (yO ea Cl dx)) p (.lst [.int i,.int k])) λb o z=>by rw[aM (bQ z hp1),aM (bQ z hea)];exact z
  have rd:RdX (upd (upd H1 ea (yO ea Cl dx)) p (.lst [.int i,.int k])) B1 (.ref p) (.list [.int i,.int k]):=.lst bw (R2.nb hp1) (show 2<=Ao by decide) (.cons (.int i) (.cons (.int k) .nil));have R4:=(R3.set (i:=j) (v:=.ref p) (x:=.d (.list [.int i,.int k])) rd rfl).drop (i:=ie);show D.nx (((σ1.set ie (ae (.ref ea))).set j (ae (.ref p))).set ie af) _;have e:((σ1.set ie (ae (.ref ea))).set j (ae (.ref p))).set ie af=(σ1.set j (ae (.ref p))).set ie af:=by rw[List.set_comm _ _ hj.symm,List.set_set]
  rw[e];exact E.nx _ B1 _ _ n1 R4 e1.2
end
end DL
namespace L2
open PySem PySem.Spec PyProof.Rows PySem.W
section
variable{X:Cx}{Cl:Addr}{xf xe f g:Str}{ie j:Nat}
theorem LX{q0 q1 q2 q3 q4 q5 q6:Pos}(hN:X.N.Nodup)(hj:X.N[j]?=ae xf)(he:X.N[ie]?=ae xe)(hjl:X.env.scope.names.lookup xf=ae .local)(hel:X.env.scope.names.lookup xe=ae .local)(hfg:f≠g)
  (G:XCla X.K Cl) (hf:findIn X.K (.ref Cl) f=ae af) (hg:findIn X.K (.ref Cl) g=ae af) (d5:(xe==("__debug__":Str))=ai) (d6:(xe==("__classdict__":Str))=ai)
  (s1:Fi (.List [.Attribute (.Name xe q3) f q4,.Attribute (.Name xe q5) g q6] q1) (ae (.Name xf q0)) q2.line X.env=pure ai):
  ∃th,(∀e0,PSs (X.inExc e0) [.Assign [.Name xf q0] (.List [.Attribute (.Name xe q3) f q4,.Attribute (.Name xe q5) g q6] q1) q2] th)/\DL.Suite2 f g Cl ie j th:=by
 have ve:∀{e0:Af}{q:Pos},PE (X.inExc e0) (.Name xe q) (cn ie):=ik he (.inl hel) d5 d6;apply Exists.intro;refine⟨λe0=>?a,?b⟩
 case a=>exact fm (hG hN hj (.inl hjl) (kY (cy (zN G hf ve) (cy (zN G hg ve) c9))) s1 (.inr hjl))
 intro D σ H ea dx i k he1 hH hx kq;refine⟨.ref ea,he1,ea,dx,_,.int i,rfl,hH,hx,by simp only[Gm,beq_self_eq_true],.ref ea,he1,ea,dx,_,.int k,rfl,hH,hx,?_,show 2<=Ao by decide,λp hp=>kq p hp⟩;simp only[Gm,beq_false_of_ne (Ne.symm hfg),beq_self_eq_true]
end
end L2
namespace L2
open PySem PySem.Spec PyProof.Rows PySem.Builtin PySem.Builtin.Str
theorem GI:∀(l:List (Str×Tok)),Vals ((l.map (·.1)).map V.str) (strValues l)
 |[]=>.nil
 |p::r=>.cons ⟨p.2,rfl⟩ (GI r)
def tF:V->List V->Hp->VK->Prop:=λx vs H Q=>∃z y,x=.str z/\vs=[.str y]/\(y.length==0)=ai/\z.length+2<=Ao/\∀D,H D=af->Q (.ref D) (upd H D (.lst ((Ba z y).map V.str)))
section
variable{X:Cx}
theorem wN{pins:List (Addr×Obj)}{σ:St}{H:Hp}{s:Ai}{Q:VK}{z y:Str}{l:List (Str×Tok)}{k:Nat}(I:Inv X pins σ H s)(e:l.map (·.1)=Ba z y)(hz:z.length+2<=Ao)(q:∀D,H D=af->Q (.ref D) (upd H D (.lst ((Ba z y).map V.str)))):
  EP X pins σ Q (.ref s.heap.objs.size) {s with heap:=s.heap.push {cls:=.type "list",data:=.seq (strValues l).toArray},toks:=k}:=by
 have v:=GI l;rw[e]at v;have hl:=split_le z y;exact⟨.ref s.heap.objs.size,_,I.lnew v (by rw[Ap];omega),rfl,q _ I.fresh⟩
theorem Pp:pL X "str.split" tF:=by
 intro pins s σ H x xs v us Q I rx rv h;obtain⟨z,y,rfl,rfl,hy,hz,q⟩:=h;obtain⟨t,rfl⟩:=(show ∃t,v=D4 z t from rx);obtain⟨u',rfl,ru⟩:=rv.one;obtain⟨u,rfl⟩:=(show ∃t,u'=D4 y t from ru);have hn:(partsBetween z (occurrences z y 0 z.length (z.length+1)) y.length).length<=Ao:=by
  have e1:=StrLaws.occ_length_le z y 0 z.length (z.length+1);rw[length_partsBetween];omega
 have ar:=F.args_str_split_2 (.str z t) (.str y u);by_cases h1:(decide (z.length < y.length) || decide (strKind z < strKind y))=ah
 ·exact Ge F.slot_str_split (typeIs_str _ _ _) F.entry_str_split ar (meets_str_split_cannot_occur z y t u h1) (wN (l:=[(z,t)]) (k:=s.toks) I (if_pos h1).symm hz q)
 have h1':=Fw.mpr h1;by_cases hf:(occurrences z y 0 z.length (z.length+1)).isEmpty=ah
 ·exact Ge F.slot_str_split (typeIs_str _ _ _) F.entry_str_split ar (meets_str_split_not_found z y t u h1' hy hf) (wN (l:=[(z,t)]) (k:=s.toks) I ((if_neg h1).trans (if_pos hf)).symm hz q)
 refine Ge F.slot_str_split (typeIs_str _ _ _) F.entry_str_split ar (meets_str_split_sep z y t u h1' hy (Fw.mpr hf) ⋯ hn) ?_;rw[strsFrom_eq];exact wN (l:=numbered s.toks _) I ((numbered_texts _ _).trans ((if_neg h1).trans (if_neg hf)).symm) hz q
def ED:V->List V->Hp->VK->Prop:=λx vs H Q=>∃z y,x=.str z/\vs=[.str y]/\Q (.bl (Txt.startswith z y)) H
theorem HX:pL X "str.startswith" ED:=by
 intro pins s σ H x xs v us Q I rx rv h;obtain⟨z,y,rfl,rfl,q⟩:=h;obtain⟨t,rfl⟩:=(show ∃t,v=D4 z t from rx);obtain⟨u',rfl,ru⟩:=rv.one;obtain⟨u,rfl⟩:=(show ∃t,u'=D4 y t from ru);exact call_gives F.slot_str_startswith (typeIs_str _ _ _) F.entry_str_startswith (F.args_str_startswith_2 _ _) (gives_str_startswith z y t u) (show(Made.val _).post _ s from⟨.bl _,H,I,rfl,q⟩)
def y4:List V->Hp->VK->Prop:=λxs H Q=>∃z n,xs=[.str z]/\z.length<=640/\intText? z=ae n/\Q (.int n) H
theorem N8:CallR X (.type "int") y4:=by
 intro pins s σ H xs us Q I r h;obtain⟨z,n,rfl,hl,hn,q⟩:=h;obtain⟨u,rfl,t,rfl⟩:=iO r;exact PySem.W.KIN.call_text hn hl ⟨.int n,H,I.tok _,⟨_,rfl⟩,q⟩
def ng:V->Option Int->Option Int->Hp->VK->Prop:=λx lo hi H Q=>∃z i,x=.str z/\lo=ae i/\hi=af/\z.length<=Ao/\Q (.str (Txt.slice z (ae i) af)) H
theorem Sr:SlR X ng:=by
 intro pins s σ H x v vl vu lo hi sl Q I rx hs pl pu h;obtain⟨z,i,rfl,rfl,rfl,hz,q⟩:=h;obtain⟨t,rfl⟩:=(show ∃t,v=D4 z t from rx);cases pu;cases pl with
 |int i u=>
 refine⟨"str",_,F.slot_str_getitem.lookup,typeIs_str _ _ _,wpAny_getItem_str_slice (l:=ae (i,u)) (u:=af) (st:=af) hs rfl (post_val_or_str ⟨An (Txt.slice_le z _ _) hz,λt' k=>⟨.str _,H,I.tok k,⟨t',rfl⟩,q⟩⟩)⟩
end
end L2
namespace Nb
open PySem L2 PySem.Spec PyProof.Rows
def fP(P:Bj)(w:Bu)(K:Ag)(q:Addr)(ks:List Str):Prop:=(q==sysModules)=ai/\∃(o:Obj)(es:Array DictEntry)(ep:Nat)(vs:List (b9×Af)),K.lookup q=ae o/\o.ExactDict/\o.data=.dict es ep/\KeysOf (kB P w) es/\Pairs (kB P w) es.toList vs/\(vs.map (·.1)).Nodup/\vs.map (·.1)=ks.map Sum.inr
abbrev xC(w:Bu)(r:Str×Nat×Af):DictEntry:=⟨PyData.keyHash w.params r.1,.str r.1 r.2.1,r.2.2⟩
theorem yr{P:Bj}{w:Bu}{K:Ag}{q:Addr}{o:Obj}{ep:Nat}(rs:List (Str×Nat×Af)){ks:List Str}(hq:(q==sysModules)=ai)(hk:K.lookup q=ae o)(ho:o.ExactDict)(hd:o.data=.dict (rs.map (xC w)).toArray ep)(hks:rs.map (·.1)=ks)(hn:ks.Nodup):fP P w K q ks:=by
 subst hks;refine⟨hq,o,_,ep,rs.map λr=>(.inr r.1,r.2.2),hk,ho,hd,?_,?_,?_,?_⟩
 ·intro e he;obtain⟨r,_,rfl⟩:=Dc.mp (List.mem_toArray.mp he);exact⟨.inr r.1,yI r.1 r.2.1,rfl⟩
 ·show Pairs (kB P w) (rs.map (xC w)) _;clear hd hn
  induction rs with
  |nil=>exact .nil
  |cons r rs ih=>exact .cons (yI r.1 r.2.1) rfl (ih)
 ·rw[List.map_map];have:(rs.map ((λx:b9×Af=>x.1) ∘ λr:Str×Nat×Af=>((.inr r.1:b9),r.2.2)))=(rs.map (·.1)).map (Sum.inr:Str->b9):=by rw[List.map_map];rfl
  rw[this];exact List.pairwise_map.mpr (hn.imp λh e=>h (Sum.inr.inj e))
 ·rw[List.map_map,List.map_map];rfl
section
variable{X:Cx}{pins:List (Addr×Obj)}{σ:L2.St}{H:Hp}{s:Ai}{q:Addr}{ks:List Str}
theorem Le{P:Bj}{w:Bu}{K:Ag}(h:fP P w K q ks):∃ep,∀hp:Heap,K.In hp->∃vs,vs.map (·.1)=ks.map Sum.inr/\hp.DictAt (kB P w) q vs ep:=by
 obtain⟨_,o,es,ep,vs,hk,h2,h3,h4,h5,h6,h7⟩:=h;exact⟨ep,λhp X=>⟨vs,h7,o,es,X _ _ hk,h2,h3,h4,h5,h6⟩⟩
def qG(ks:List Str):It:=⟨λi _=>i < ks.length,λi H x H'=>H'=H/\∃k,ks[i]?=ae k/\x=.str k,λi _=>ks.length<=i⟩
theorem P6{P:Bj}{w:Bu}{K:Ag}{tg:Expr}{it:Addr}{ep:Nat}(hd:∀hp:Heap,K.In hp->∃vs,vs.map (·.1)=ks.map Sum.inr/\hp.DictAt (kB P w) q vs ep):Turn P w K tg (qG ks) [it] it (λi h=>h.IsKeyIter it q i ks.length ep) where
 mem:=by simp
 obj:=λi h st b hb=>by
  have e:b=it:=by simpa using hb
  subst e;obtain⟨o,e,c,d⟩:=st;exact⟨o,e,λv z=>by rw[d]at z;cases z⟩
 keep:=λi h h' st k=>st.at λo e=>k it (by simp) o e
 item:=by
  intro X hP hw hK hc i pins s σ H E I hf st hi;subst hP hw hK;obtain⟨vs,hvs,dd⟩:=hd _ I.kIn;have hlen:ks.length=vs.length:=by have:=congrArg Gn hvs;rw[Ap,Ap]at this;exact this.symm
  have hi':i < vs.length:=by rw[<-hlen];exact hi
  obtain⟨⟨k,v⟩,hx⟩:∃p,vs[i]?=ae p:=⟨vs[i],As hi'⟩;obtain⟨y,hy,rfl⟩:∃y,ks[i]?=ae y/\k=.inr y:=by
   have h1:(vs.map (·.1))[i]?=ae k:=by rw[Be,hx];rfl
   rw[hvs,Be,As hi]at h1;exact⟨ks[i],As hi,(Bp h1).symm⟩
  obtain⟨f0,f1,f2,f3,f4,f5⟩:=hf it (by simp);rw[hlen]at st;refine wpAny_pyNext_dict_item st dd hx λkey h' hkey st' sb=>?_;have I1:Inv X pins σ H {s with heap:=h'}:=I.turned (t':=s.toks) (λb o hb e=>(sb.2 b hb).trans e) f0 f1 f3 f4 f5;obtain⟨o',e,c,d⟩:=id st';have rk:RelV (.str y) key:=by
   rcases jd (k:=.inr y) (v:=key) hkey with⟨i,t,e,_⟩|⟨z,t,e,rfl⟩
   ·cases e
   ·cases e;exact⟨t,rfl⟩
  exact⟨key,rfl,mK (s:={ s with heap:=h'}) e c d ∎ ⟨.str y,H,I1,rk,⟨rfl,y,hy,rfl⟩,by rw[hlen];exact st',λb hb=>(hf b hb).1⟩⟩
 done:=by
  intro X hP hw hK hc i pins s σ H E I hf st hi;subst hP hw hK;obtain⟨vs,hvs,dd⟩:=hd _ I.kIn;have hlen:ks.length=vs.length:=by have:=congrArg Gn hvs;rw[Ap,Ap]at this;exact this.symm
  obtain⟨f0,f1,f2,f3,f4,f5⟩:=hf it (by simp);rw[hlen]at st;have hi':ks.length<=i:=hi;exact wpAny_pyNext_dict_end (I.ok.hd hc) st dd (Fu ⋯) λh' eb=>⟨rfl,I.turned (t':=s.toks) (λb o hb e=>eb b o hb e) f0 f1 f3 f4 f5⟩
 self:=λ_ _ _ _ _ st h=>wpAny_pyIter_keyiter st h
def yb(ks:List Str):TI:=λ_ H R=>R (qG ks) H
theorem Mq{tg:Expr}{x:Str}{xp:Pos}(hg:Gl X x)(hm:X.mg x=ae (.ref q))(hT:fP X.prog X.w X.K q ks)(hd:(x==("__debug__":Str))=ai:=by decide):PI X tg (.Name x xp) (yb ks):=by
 intro pins s σ H R I h;refine bj (lI (v:=.ref q) hg hm rfl hd pins s σ H (λv H1=>v=.ref q/\R (qG ks) H1) I ⟨rfl,h⟩) λv s1 ⟨x,H1,I1,r1,e,q1⟩=>?_;subst e;cases r1;obtain⟨ep,hd⟩:=Le hT;obtain⟨vs,hvs,dd⟩:=hd _ I1.kIn;have hlen:ks.length=vs.length:=by have:=congrArg Gn hvs;rw[Ap,Ap]at this;exact this.symm
 refine wpAny_pyIter_dict hT.1 dd ?_;refine⟨s1.heap.objs.size,[s1.heap.objs.size],_,_,H1,rfl,I1.kept (t':=s1.toks) λb o e=>Ae _ e,P6 hd,⟨_,Ay _ rfl,rfl,by rw[hlen];rfl⟩,λb hb=>?_,q1⟩;have e:b=s1.heap.objs.size:=by simpa using hb
 subst e;exact I1.fpOk (Av _) (I1.hok.fresh (Av _))
def jO(K:Ag)(q:Addr)(D:List (Str×Int)):Prop:=(q==sysModules)=ai/\∃(o:Obj)(es:Array DictEntry)(ep:Nat),K.lookup q=ae o/\o.ExactDict/\o.data=.dict es ep/\KTD.Rows (λ(d:Int) v=>∃t,v=.int d t) es.toList D
def mw(D:List (Str×Int)):List (Str×KTD.Dat):=D.map λp=>(p.1,.flat (.int p.2))
theorem zd(k:Str):∀D:List (Str×Int),Bm k (mw D)=(Bm k D).map λs=>.flat (.int s)
 |[]=>rfl
 | (x,s)::D=>by
  show(if decide (k=x)=ah then ae _ else Bm k (mw D))=Di _ (if decide (k=x)=ah then ae s else Bm k D);rw[zd k D]
  split<;>rfl
theorem BW{h:Heap}{k:Str}{P:Af->Prop}:∀D:List (Str×Int),(∀s,Bm k D=ae s->∀t,P (.int s t))->KTD.EachL h k P (mw D)
 |[],_=>trivial
 | (x,s)::D,hp=>by
  by_cases hx:k=x
  ·refine KTD.eachL_hit hx (KTD.opened_int λt=>hp s ?_ t);show(if decide (k=x)=ah then ae s else Bm k D)=ae s;rw[if_pos (decide_eq_true hx)]
  ·refine KTD.eachL_miss hx (BW D λs' hs' t=>hp s' ?_ t);show(if decide (k=x)=ah then ae s else Bm k D)=ae s';rw[if_neg (by simp[hx])];exact hs'
theorem yR:∀D:List (Str×Int),((mw D).all λp=>KTD.plain p.2)=ah
 |[]=>rfl
 |_::D=>by
  show(ah&&(mw D).all λp=>KTD.plain p.2)=ah;rw[yR D];rfl
def uB(K:Ag):R2:=λx y H Q=>∃k q D d,x=.ref q/\y=.str k/\jO K q D/\Bm k D=ae d/\Q (.int d) H
theorem Qi:IxR X (uB X.K):=by
 intro value slice pins s σ H x y v u Q I rx ry h hs;obtain⟨k,q,D,d,rfl,rfl,hT,hd,hq⟩:=h;obtain⟨t,rfl⟩:=ry;cases rx;obtain⟨h1,o,es,ep,hk,h2,h3,h4⟩:=hT;have here:KTD.Here s.heap s.heap q (mw D):=⟨⟨h1,o,es,ep,I.kIn q o hk,h2,h3,KTD.Rows.mono (f:=λd:Int=>KTD.Dat.flat (.int d)) (R':=KTD.Dat.At s.heap) (λd v ⟨t,e⟩=>by subst e;exact PyProof.V.Flat.int _ _) h4⟩,λ_ _ e=>e⟩;refine KTD.item_textA here (yR D) (by rw[<-KTD.isSome_datumAt,zd,hd];rfl) (BW D λd' hd' t'=>?_) hs;rw[hd]at hd';cases hd';exact⟨.int d,H,I.kept (t':=s.toks+1) λ_ _ e=>e,⟨t',rfl⟩,hq⟩
end
end Nb
namespace DL
open PySem L2 Nb
section
variable{X:Cx}{a b e o i:Expr}{ta tb te to ty:TE}{wa wb we wo wy:DT}{pos p ap cp xp p2:Pos}{K:Ag}{q:Addr}{x:Str}{lo hi:Option Expr}
def Rj(wo we:DT):gv:=λδ n Q=>wo δ n λx n1=>match x with
 |.d (.str z)=>we δ n1 λy n2=>match y with
  |.d (.str c)=>((c.length==0)=ai/\z.length<=1000)/\Q ((Ba z c).map .str) n2
  |_=>False
 |_=>False
theorem sj{H:Hp}{B:Addr->Prop}:∀{l:List Str},(∀y∈l,y.length<=1000)->RdXs H B (l.map V.str) (l.map C7)
 |[],_=>.nil
 |y::_,h=>.cons (.str y (lT (h y Am))) (sj λz hz=>h z (Al _ hz))
theorem Up(ho:DE X o to wo)(he:DE X e te we)
  (hbase:Em o "split" X.env (eval o X.env)=eval o X.env:=by rfl)
  (hfew:((C5 cp (Au [e] X.env)).all (λx=>!x.1)&&(backToKw cp (Fq [] X.env)).all (λx=>x.1.isSome)
   && decide ([e].length+([]:List F2).length+(if ([]:List F2).isEmpty then 0 else 1) < 30))=ah:=by rfl)
  (hline:(ap.endLine==cp.line)=ah:=by rfl) (hs:Au [e] X.env=[(ai,eval e X.env)]:=by rfl) (hplain:(C5 cp (Au [] X.env)).any (·.1)=ai:=by rfl) (hK:X.K=K:=by rfl):
  DF X (.Call (.Attribute o "split" ap) [e] [] cp) (jv K "str" tF to (cE te bG)) (Rj wo we):=by
 subst hK;refine⟨mD PySem.F.plainAttrs_str PySem.F.slot_str_split PySem.F.type_str_split Pp ho.pe (cy he.pe c9 hs) hbase hfew hline hs hplain,λC H B σ δ n Q Q' R q k=>ho.sd C H B σ δ n _ _ R q λv x H1 n1 R1 k1 r1 q1=>?_⟩
 split at q1
 ·rename_i z;cases(show RdX H1 B v (.str z)from r1);refine⟨rfl,he.sd C H1 B σ δ n1 _ _ R1 q1 λu y H2 n2 R2 k2 r2 q2=>?_⟩
  split at q2
  ·rename_i c;cases(show RdX H2 B u (.str c)from r2);obtain⟨⟨hc,hz⟩,q3⟩:=q2;have hl:=PyProof.Rows.split_le z c;refine⟨z,c,rfl,rfl,hc,An (show z.length+2<=1002 by omega) ∎,λD hD=>?_⟩;refine k D _ _ _ n2 (R2.new hD) ((k1.trans k2).trans (Kp.new hD)) (R2.was (k1.trans k2) hD) bw ?_ (sj λy hy=>An (PyProof.Rows.part_short hy) hz) q3;rw[Ap];exact An (show _<=1002 by omega) ∎
  ·exact q2.elim
 ·exact q1.elim
def jW(wo we:DT):DT:=λδ n Q=>wo δ n λx n1=>match x with
 |.d (.str z)=>we δ n1 λy n2=>match y with
  |.d (.str c)=>Q (.d (.bool (Txt.startswith z c))) n2
  |_=>False
 |_=>False
theorem K6(ho:DE X o to wo)(he:DE X e te we)
  (hbase:Em o "startswith" X.env (eval o X.env)=eval o X.env:=by rfl)
  (hfew:((C5 cp (Au [e] X.env)).all (λx=>!x.1)&&(backToKw cp (Fq [] X.env)).all (λx=>x.1.isSome)
   && decide ([e].length+([]:List F2).length+(if ([]:List F2).isEmpty then 0 else 1) < 30))=ah:=by rfl)
  (hline:(ap.endLine==cp.line)=ah:=by rfl) (hs:Au [e] X.env=[(ai,eval e X.env)]:=by rfl) (hplain:(C5 cp (Au [] X.env)).any (·.1)=ai:=by rfl) (hK:X.K=K:=by rfl):
  DE X (.Call (.Attribute o "startswith" ap) [e] [] cp) (jv K "str" ED to (cE te bG)) (jW wo we):=by
 subst hK;refine⟨mD PySem.F.plainAttrs_str PySem.F.slot_str_startswith PySem.F.type_str_startswith HX ho.pe (cy he.pe c9 hs) hbase hfew hline hs hplain,λC H B σ δ n Q Q' R q k=>ho.sd C H B σ δ n _ _ R q λv x H1 n1 R1 k1 r1 q1=>?_⟩
 split at q1
 ·rename_i z;cases(show RdX H1 B v (.str z)from r1);refine⟨rfl,he.sd C H1 B σ δ n1 _ _ R1 q1 λu y H2 n2 R2 k2 r2 q2=>?_⟩
  split at q2
  ·rename_i c;cases(show RdX H2 B u (.str c)from r2);exact⟨z,c,rfl,rfl,k _ _ H2 n2 R2 (k1.trans k2) (wd (.bl _)) q2⟩
  ·exact q2.elim
 ·exact q1.elim
def rp:List Wv->Int->DQ->Prop:=λxs n Q=>match xs with
 |[.d (.str z)]=>match intText? z with
  |some m=>z.length<=640/\Q (.d (.int m)) n
  |none=>False
 |_=>False
theorem Mw:dH y4 rp:=λC H B σ δ n vs xs Q Q' R r h k=>by
 unfold rp at h
 split at h
 ·rename_i z
  split at h
  ·rename_i m em;cases r with
   |cons r1 r2=>
    cases r2;cases(show RdX H B _ (.str z)from r1);exact⟨z,m,rfl,h.1,em,k _ _ H n R (Kp.refl _ _) (wd (.int m)) h.2⟩
  ·exact h.elim
 ·exact h.elim
def gU(w wl:DT):DT:=λδ n Q=>w δ n λx n1=>de wl δ n1 λa n2=>match x,a with
 |.d (.str z),ae j=>Q (.d (.str (Txt.slice z (ae j) af))) n2
 |_,_=>False
theorem LC(he:DE X e te we)(hl:DE X a ta wa):DE X (.Subscript e (.Slice (ae a) af af p2) pos) (pC ng te (uw ta) wJ) (gU we wa):=by
 refine⟨qf Sr he.pe (uZ hl.pe) uM,λC H B σ δ n Q Q' R q k=>he.sd C H B σ δ n _ _ R q λv x H1 n1 R1 k1 r1 q1=>
  (AR hl).sd C H1 B σ δ n1 _ _ R1 q1 λa H2 n2 R2 k2 q2=>?_⟩
 split at q2
 ·rename_i z j;cases(show RdX H2 B v (.str z)from r1.kp k2 R1.bt)with
  |str _ hz=>
   exact⟨z,j,rfl,rfl,rfl,hz,k _ _ H2 n2 R2 (k1.trans k2) (wd (.str _ (An (Txt.slice_le z _ _) hz))) q2⟩
 ·exact q2.elim
def qK(ks:List Str):gs:=λ_ n Q=>Q (ks.map .str) n
theorem Rt{tg:Expr}{P:Bj}{W:Bu}{ks:List Str}(hg:Gl X x)(hm:X.mg x=ae (.ref q))(hT:fP P W K q ks)(hK:X.K=K:=by rfl)(hP:X.prog=P:=by rfl)(hW:X.w=W:=by rfl)(hl:ks.length<=1000:=by decide)(hk:∀y∈ks,y.length<=1000:=by decide +kernel)(hd:(x==("__debug__":Str))=ai:=by decide):
  DI X tg (.Name x xp) (yb ks) (qK ks):=by
 subst hK hP hW;refine⟨Mq hg hm hT hd,λC H B σ δ n Q Q' R q k=>k (qG ks) (ks.map .str) H n R (Kp.refl _ _) (λfz th=>⟨?_,λi H hH hi=>?_,λH hH=>?_,λi H y H' d hH hd hy=>?_⟩) q⟩
 ·rw[Ap];exact lT hl
 ·rw[Ap]at hi;exact hi
 ·show ks.length<=(ks.map C7).length;rw[Ap];exact Av _
 ·obtain⟨rfl,z,hz,rfl⟩:=hy;refine⟨λ_ _ z=>z,λB' _ _=>?_⟩;rw[Be,hz]at hd;cases hd;exact .str z (lT (hk z (Et hz)))
def mJ(D:List (Str×Int))(w:DT):DT:=λδ n Q=>w δ n λx n1=>match x with
 |.d (.str k)=>match Bm k D with
  |some s=>Q (.d (.int s)) n1
  |none=>False
 |_=>False
theorem LN(hK:X.K=K:=by rfl):IxR X (uB K):=by subst hK;exact Qi
theorem OE{D:List (Str×Int)}(hi:DE X i ty wy)(hg:Gl X x)(hm:X.mg x=ae (.ref q))(hq:jO K q D)(hs:nK i:=by exact λ_ _=>rfl)(hK:X.K=K:=by rfl)(hd:(x==("__debug__":Str))=ai:=by decide):
  DE X (.Subscript (.Name x xp) i pos) (eJ (uB K) (tC (.ref q)) ty) (mJ D wy):=⟨gf (LN hK) (lI hg hm rfl hd) hi.pe hs,λC H B σ δ n Q Q' R z k=>
 hi.sd C H B σ δ n _ _ R z λv x H1 n1 R1 k1 r1 q1=>by
  split at q1
  ·rename_i key
   split at q1
   ·rename_i s es;cases(show RdX H1 B v (.str key)from r1);exact⟨key,q,D,s,rfl,rfl,hq,es,k _ _ H1 n1 R1 k1 (wd (.int s)) q1⟩
   ·exact q1.elim
  ·exact q1.elim⟩
end
end DL
namespace L2
open PySem PySem.Spec PyProof.Rows
def yg(K:Ag):R2:=λx y H Q=>∃a b xs,x=.ref a/\y=.ref b/\SqL K H a xs/\SqL K H b []/\Q (.bl (!xs.isEmpty)) H
theorem Ut{X:Cx}{K:Ag}(hu:X.A.units < cLine)(hK:X.K=K:=by rfl):OpR X (B8 .NotEq) (yg K):=by
 subst hK;intro pins s σ H x y v u Q I rx ry h;obtain⟨a,b,xs,rfl,rfl,ha,hb,q⟩:=h;cases(show v=Bq a from rx);cases(show u=Bq b from ry);obtain⟨its,r1,p1,_⟩:=I.list ha;obtain⟨its2,r2,p2,_⟩:=I.list hb;have e2:its2=[]:=Vals.zero r2;subst e2;cases r1 with
 |nil=>exact PySem.SeqAt.RcNeAt.lists (e:=λ_=>ah) p1.isList p2.isList rfl hu (λj h1=>absurd h1 (by simp)) X.prog X.w X.xe _ ⟨.bl ai,H,I,(by rfl),q⟩
 |cons r1 r3=>exact PySem.SeqAt.RcNeAt.lists_lengths p1.isList p2.isList (by simp) hu X.prog X.w X.xe _ ⟨.bl ah,H,I,rfl,q⟩
end L2
namespace DL
open PySem L2 Nb
section
variable{X:Cx}{K:Ag}{a:Expr}{ta:TE}{wa:DT}{pos:Pos}
def kX:Wv->Wv->Int->DQ->Prop:=λx y n Q=>match x,y with
 |.d (.list ds),.d (.list [])=>Q (.d (.bool (!ds.isEmpty))) n
 |_,_=>False
theorem Qn:bS (yg K) kX:=λC H B σ δ n x y p q Q Q' R rx ry h1 k=>by
 unfold kX at h1
 split at h1
 ·rename_i ds;cases(show RdX H B x (.list ds)from rx)with
  |@lst ax xs _ e1 e2 e3 e4=>
   cases(show RdX H B y (.list [])from ry)with
   |@lst ay ys _ f1 f2 f3 f4=>
    cases f4;refine⟨ax,ay,xs,rfl,rfl,SqL.of e1,SqL.of f1,k _ _ H n R (Kp.refl _ _) (wd (.bl _)) ?_⟩;cases e4<;>exact h1
 ·exact h1.elim
theorem Q3{q:Addr}{hs:List Str}{x:Str}{xp:Pos}(ha:DE X a ta wa)(hg:Gl X x)(hm:X.mg x=ae (.ref q))(hq:∀H,SqT K H q (hs.map V.str))(hl:∀h∈hs,h.length<=1000:=by decide +kernel)(hK:X.K=K:=by rfl)(hd:(x==("__debug__":Str))=ai:=by decide)
  (hmk:D6 .In (Expr.Name x xp)=ai:=by with_unfolding_all rfl):DE X (.Compare a [.In] [.Name x xp] pos) (eJ (kz K ai) ta (tC (.ref q))) (dA hs wa):=
 ⟨CZ (qh hK) ha.pe (lI hg hm rfl hd) hmk,AE hl hq ha.sd⟩
end
end DL
namespace L2
open PySem PySem.Spec
theorem QA:fillsNumberSlot (.type "tuple") "mul"=pure ai:=
 fillsNumberSlot_seq (id:="tuple.__mul__") (r:=ae (.builtin "tuple.__rmul__")) F.slot_tuple_mul.lookup ∅ F.slot_tuple_rmul.lookup ∅
theorem Uu:seqRepeat? (.type "tuple")=pure (ae (.builtin "tuple.__mul__")):=by
 unfold seqRepeat?;rw[seqSlot_of (T:="tuple") (name:="__mul__") (id:="tuple.__mul__") F.slot_tuple_mul.lookup ∅,seqSlot_of (T:="tuple") (name:="__rmul__") (id:="tuple.__rmul__") F.slot_tuple_rmul.lookup ∅];rfl
theorem LK(a:Int)(t:Tok)(l:Addr)(items:Array Af)(n:Nat)(dd:Option Addr)(sl:Array (Option Af)):
  Meets (D9.«int.__rmul__» ⟨[.int a t,.ref l],[]⟩) (λ_ R s=>s.heap.get? l=ae {cls:=.type "tuple",dict:=dd,data:=.seq items n,slots:=sl}/\R (.ok (.ret Value.notImplemented)) s):=
 .of_wp λprog w A R s h=>by
  obtain⟨hp,g,d,tk,os⟩:=s;obtain⟨hl,h⟩:=h
  wp_walk
  exact⟨_,rfl,h⟩
theorem Pn(l:Addr)(items:Array Af)(m:Nat)(dd:Option Addr)(sl:Array (Option Af))(k:Int)(t:Tok)(he:items.isEmpty=ai)(h2:2<=k)(hk:k < 2 ^ 63)(hm:¬((items.size:Int)*k > (2 ^ 63-1) / 8))(ht:Builtin.Tuple.tupleTooMany ((items.size:Int)*k)=ai)(hf:¬((Ax k.toNat items).foldl (·++·) #[]).size > Ao):
  Meets (D9.«tuple.__mul__» ⟨[.ref l,.int k t],[]⟩) (λ_ R s=>s.heap.get? l=ae {cls:=.type "tuple",dict:=dd,data:=.seq items m,slots:=sl} /\
   R (.ok (.ret (.ref s.heap.objs.size))) {s with heap:=s.heap.push {cls:=.type "tuple",data:=.seq ((Ax k.toNat items).foldl (·++·) #[])}}):=
 .of_wp λprog w A R s h=>by
  obtain⟨hp,g,d,tk,os⟩:=s;obtain⟨hl,h⟩:=h
  wp_walk
  have c1:¬((decide (k < -2 ^ 63) || decide (k ≥ 2 ^ 63))=ah):=by simp;omega
  have c2:¬((items.isEmpty || k==1)=ah):=by simp[he];omega
  have c3:¬((decide (k<=0) || items.isEmpty)=ah):=by simp[he];omega
  rw[if_neg c1];refine Ad ?_;unfold Gw;refine Ad (C9 hl rfl (Aj ?_));rw[if_neg c2];simp only[if_neg c3,if_neg hm,ht,Cb,if_false]
  wp_walk
  exact⟨_,rfl,h⟩
section
variable{X:Cx}
def EG(K:Ag):R2:=λx y H Q=>∃l k xs,x=.ref l/\y=.int k/\SqT K H l xs/\xs≠[]/\2<=k/\k<=1000/\xs.length<=1000 /\
 ∀p,H p=af->Q (.ref p) (upd H p (.tup (Ax k.toNat xs).flatten))
theorem QZ:OpR X (E5 .Mult) (EG X.K):=by
 intro pins s σ H x y v u Q I rx ry h;obtain⟨l,k,xs,rfl,rfl,hH,hne,h2,h3,hz,q⟩:=h;cases rx;obtain⟨t,rfl⟩:=ry;obtain⟨its,r,⟨o,e,hc,n,hd⟩,z⟩:=I.tuple hH;obtain⟨c,dd,da,sl⟩:=o;cases hc;cases hd;have hl:=r.length;have h0:its.length≠0:=λz=>hne (D2 ⋯);have hs:its.toArray.size=its.length:=Aw;have f0:List.foldl (λx1 x2=>x1++x2) #[] (Ax k.toNat its.toArray)=(Ax k.toNat its).flatten.toArray:=by
  have:=uu its k.toNat [];rw[Fo]at this;exact this
 have hfl:(Ax k.toNat its).flatten.length<=1000*1000:=by
  rw[nL];exact Nat.mul_le_mul ⋯ ⋯
 have hmul:(its.toArray.size:Int)*k<=1000*1000:=Int.mul_le_mul ⋯ h3 ⋯ ⋯;have hsl:(1000*1000:Nat)<=Ao:=by decide
 refine wpAny_binaryOp_repeat_ref (T:="tuple") (U:="int") ∎ ⟨_,e,rfl⟩ (λs'=>typeIs_int s' k t) QA F.fills_int_mul F.slot_int_rmul Uu F.slot_int_index.lookup
  (Ge F.slot_int_rmul (typeIs_int s k t) F.entry_int_rmul (F.args_int_rmul_2 _ _) (LK k t l its.toArray n dd sl)
   ⟨e,rfl,⟨_,e,rfl⟩,Ge F.slot_tuple_mul ⟨_,e,rfl⟩ F.entry_tuple_mul (F.args_tuple_mul_2 _ _) (Pn l its.toArray n dd sl k t (by cases its with|nil=>exact absurd rfl h0|cons a b=>rfl) h2 ⋯ ⋯ (decide_eq_false ⋯) (by rw[f0,Aw];omega)) ⟨e,?_⟩⟩)
 rw[f0];have T:(s.heap.push {cls:=.type "tuple",data:=.seq (Ax k.toNat its).flatten.toArray}).get? s.heap.objs.size=ae {cls:=.type "tuple",data:=.seq (Ax k.toNat its).flatten.toArray}:=Ay _ rfl;refine⟨.ref _,_,I.laid (t':=s.toks) (o:=.tup (Ax k.toNat xs).flatten) (λb ob q=>Ae _ q) (Av _) ⟨by rw[nL];exact An (Nat.mul_le_mul ⋯ hz) hsl,_,r.rep k.toNat,⟨_,T,rfl,⟨_,rfl⟩,rfl⟩⟩,rfl,q _ (I.hok.fresh (Av _))⟩
end
end L2
namespace L2
open PySem PySem.Spec PyProof.Rows
theorem wV:B9 "list"=ae (.type "list"):=by decide +kernel
end L2
namespace DL
open PySem L2 Nb
section
variable{X:Cx}{e:Expr}{te:TE}{we:DT}{pos p2:Pos}{K:Ag}
def UJ(w:DT):cU:=λδ n Q=>w δ n λx n1=>match x with
 |.d (.list ds)=>Q (!ds.isEmpty) n1
 |_=>False
def vX(w:DT)(l u:j9):DT:=λδ n Q=>w δ n λx n1=>l δ n1 λa n2=>u δ n2 λb n3=>match x with
 |.d (.list ds)=>Q (.d (.list (c6 ds a b))) n3
 |_=>False
theorem KQ{lo hi:Option Expr}{tl th:TO}{wl wh:j9}(he:DE X e te we)(hl:DOp X lo tl wl)(hh:DOp X hi th wh)(hK:X.K=K:=by rfl):DE X (.Subscript e (.Slice lo hi af p2) pos) (pC (oA K) te tl th) (vX we wl wh):=by
 subst hK;refine⟨qf BQ he.pe hl.po hh.po,λC H B σ δ n Q Q' R q k=>he.sd C H B σ δ n _ _ R q λv x H1 n1 R1 k1 r1 q1=>
  hl.sd C H1 B σ δ n1 _ _ R1 q1 λa H2 n2 R2 k2 q2=>hh.sd C H2 B σ δ n2 _ _ R2 q2 λb H3 n3 R3 k3 q3=>?_⟩
 split at q3
 ·rename_i ds;have r3:RdX H3 B v (.list ds):=(r1.kp k2 R1.bt).kp k3 R2.bt;cases r3 with
  |@lst aa xs _ e1 e2 e3 e4=>
   have kk:=(k1.trans k2).trans k3;refine⟨aa,xs,rfl,SqL.of e1,λp hp=>?_⟩;refine k _ _ _ n3 (R3.new hp) (kk.trans (Kp.new hp)) (wd (show RdX _ B _ (.list (c6 ds a b))from .lst bw (R3.nb hp) (An (qg xs a b) e3) ?_)) q3;unfold c6 eY;rw[<-e4.len];exact(((e4.drop _).take _).fresh hp).less λb z=>.inl z
 ·exact q3.elim
end
end DL
namespace L2
open PySem PySem.Spec PyProof.Rows
def mU(K:Ag)(a:Addr):It:=
 ⟨λi H=>∃xs x,SqL K H a xs/\xs[i]?=ae x,
  λi H v H'=>∃T x,v=.ref T/\H T=af/\H'=upd H T (.tup [.int i,x])/\∀xs,SqL K H a xs->xs[i]?=ae x,
  λi H=>∃xs,SqL K H a xs/\xs.length=i⟩
theorem SN{P:Bj}{w:Bu}{K:Ag}{elts:List Expr}{kk:Nat}{pos:Pos}{a e it:Addr}(h1:e≠it)(h2:a≠it)(h3:e≠a):Turn P w K (.Tuple elts kk pos) (mU K a) [e,it] e
  (λi h=>(∃old,IsEnum h e it i old)/\h.IsListIter it a i) where
 mem:=by simp
 obj:=λi h st c hc=>by
  obtain⟨⟨x,he⟩,⟨o1,e1,c1,d1⟩⟩:=st;simp only[A5,A9,or_false]at hc;rcases hc with rfl|rfl
  ·exact⟨_,he,λv q=>by have q':Data.fields _=Data.cell v:=q;cases q'⟩
  ·exact⟨o1,e1,λv q=>by rw[d1]at q;cases q⟩
 keep:=λi h h' st k=>⟨st.1.imp λ_ q=>k e (by simp) _ q,st.2.at λo q=>k it (by simp) o q⟩
 item:=by
  intro X hP hw hK hc i pins s σ H E I hf st hg;subst hP hw hK;obtain⟨⟨old,he⟩,hi⟩:=st;obtain⟨xs,x,qa,ex⟩:=hg;obtain⟨its,rv,p,_⟩:=I.list qa;obtain⟨u,hu,ru⟩:=rv.get ex;have hlt:i < its.toArray.size:=by simpa using(Bs.mp hu).1
  have hef:e∉[it,a]:=λz=>by
   simp only[A5,A9,or_false]at z;exact z.elim h1 h3
  refine wpAny_pyNext_enum_itemD (Draws.list (A:=X.A.in1) (I.ok.hd hc) it a h2 its.toArray) he ⟨hi,p.isList⟩ hlt h1 hef λy h' tk a1 a2 a3 a4 a5 a6=>⟨_,rfl,?_⟩;obtain rfl:u=y:=by
   rw[List.getElem?_toArray,hu]at a1;cases a1;rfl
  refine wpAny_letOwnedTupleGo_enum (s:={ s with heap:=h',toks:=tk+1}) a2 λh'' b1 b2=>?_;have T:h''.get? s.heap.objs.size=ae {cls:=.type "tuple",data:=.seq #[.int i tk,u]}:=b2.extBut _ _ (D0 (Ar he)) a4;have Tn:H s.heap.objs.size=af:=I.hok.fresh (Av _);have kp:∀c o,c∉[e,it]->s.heap.get? c=ae o->h''.get? c=ae o:=λc o hc e=>by
   simp only[A5,A9,or_false,not_or]at hc;exact b2.extBut _ _ hc.1 (a6 c o hc.1 hc.2 e)
  refine⟨.ref s.heap.objs.size,upd H s.heap.objs.size (.tup [.int i,x]),I.many (t':=tk+1) hf kp (Av _) ⟨by show 2<=Ao;decide,[.int i tk,u],.cons ⟨tk,rfl⟩ (.cons ru .nil),_,T,rfl,⟨_,rfl⟩,rfl⟩,rfl,⟨_,x,rfl,Tn,rfl,λzs q=>by rw[I.list_inj q qa];exact ex⟩,
   ⟨⟨u,by rw[show((i+1:Nat):Int)=(i:Int)+1 from rfl];exact b1⟩,a3.1.extBut b2.extBut h1.symm⟩,λc hc=>?_⟩
  have hlt:c < s.heap.objs.size:=by
   simp only[A5,A9,or_false]at hc;rcases hc with rfl|rfl
   ·exact Ar he
   ·obtain⟨_,e,_⟩:=hi;exact Ar e
  rw[aM (Bf hlt)];exact(hf c hc).1
 done:=by
  intro X hP hw hK hc i pins s σ H E I hf st hg;subst hP hw hK;obtain⟨⟨old,he⟩,hi⟩:=st;obtain⟨xs,hq,hx⟩:=hg;obtain⟨its,rv,p,_⟩:=I.list hq;have hl:=rv.length;have hs:its.toArray.size=i:=by simp;omega
  refine wpAny_pyNext_enum_endD (Draws.list (A:=X.A.in1) (I.ok.hd hc) it a h2 its.toArray) he (by rw[hs];exact⟨hi,p.isList⟩) λh' k=>⟨rfl,I.many0 (t':=s.toks) hf λc o hc e=>?_⟩;simp only[A5,A9,or_false,not_or]at hc;exact k c o hc.2 e
 self:=λ_ _ _ _ _ st h=>G0 st.1.choose_spec h
def mI(K:Ag)(ta:TA):TI:=λσ H R=>ta σ H λvs H1=>∃a,vs=[.ref a]/\((∃xs,SqT K H1 a xs)/\R (vj K a) H1\/(∃xs,SqL K H1 a xs)/\R (mU K a) H1)
theorem R0{X:Cx}{elts:List Expr}{kk:Nat}{tpos:Pos}{e1:Expr}{ta:TA}{p pos:Pos}(hg:Gl X "enumerate")(hm:X.mg "enumerate"=af)(ha:PA X [e1] ta)(hs:Au [e1] X.env=[(ai,eval e1 X.env)]:=by rfl):
  PI X (.Tuple elts kk tpos) (.Call (.Name "enumerate" p) [e1] [] pos) (mI X.K ta):=by
 intro pins s σ H R I h;refine Call_ (lM I hg hm boot_enumerate (D1 (bj (ha pos pins s σ H _ I h) λus s1 ⟨vs,H1,I1,r1,q1⟩=>?_) (by rw[hs];rfl) rfl));obtain⟨a,e,q⟩:=q1;subst e;cases r1 with
 |cons r rr=>
  cases rr;cases r;have fp:∀c∈[s1.heap.objs.size+1,s1.heap.objs.size],s1.heap.objs.size<=c:=λc hc=>by
   simp only[A5,A9,or_false]at hc;rcases hc with rfl|rfl<;>omega
  rcases q with⟨⟨xs,qa⟩,q⟩|⟨⟨xs,qa⟩,q⟩
  ·obtain⟨its,rv,pp,_⟩:=I1.tuple qa;have la:a < s1.heap.objs.size:=by obtain⟨_,e,_⟩:=id pp;exact Ar e
   refine AF (show s1.heap.IsTuple a its.toArray from pp) λh' a1 a2 a3=>G0 (s:={ s1 with heap:=h'}) a1 ?_;exact⟨_,_,_,_,H1,rfl,I1.kept (t':=s1.toks) a3,BX (Nat.succ_ne_self _) (Bf la) (D0 (Dr la)),⟨⟨_,a1⟩,a2⟩,λc hc=>I1.fpOk (fp c hc) (I1.hok.fresh (fp c hc)),q⟩
  ·obtain⟨its,rv,pp,_⟩:=I1.list qa;have la:a < s1.heap.objs.size:=by obtain⟨_,e,_⟩:=pp.isList;exact Ar e
   refine call_enumerate_list pp.isList λh' a1 a2 _ a3=>G0 (s:={ s1 with heap:=h'}) a1 ?_;exact⟨_,_,_,_,H1,rfl,I1.kept (t':=s1.toks) a3,SN (Nat.succ_ne_self _) (Bf la) (D0 (Dr la)),⟨⟨_,a1⟩,a2⟩,λc hc=>I1.fpOk (fp c hc) (I1.hok.fresh (fp c hc)),q⟩
end L2
namespace DL
open PySem L2 Nb
section
variable{X:Cx}{a:Expr}{ta:TE}{wa:DT}{pos p:Pos}{K:Ag}
def DV(w:DT):gs:=λδ n Q=>w δ n λx n1=>∃xs,(x=.d (.tuple xs)\/x=.d (.list xs))/\Q (fY 0 xs) n1
theorem xa{elts:List Expr}{kk:Nat}{tpos:Pos}(hg:Gl X "enumerate")(hm:X.mg "enumerate"=af)(ha:DE X a ta wa)(hK:X.K=K:=by rfl)(hs:Au [a] X.env=[(ai,eval a X.env)]:=by rfl)(he1:Au [a] X.env=(ai,eval a X.env)::Au [] X.env:=by rfl):
  DI X (.Tuple elts kk tpos) (.Call (.Name "enumerate" p) [a] [] pos) (mI K (cE ta bG)) (DV wa):=by
 subst hK;refine⟨R0 hg hm (cy ha.pe c9 he1) hs,λC H B σ δ n Q Q' R q k=>ha.sd C H B σ δ n _ _ R q λv x H1 n1 R1 k1 r1 q1=>?_⟩;obtain⟨xs,rfl|rfl,q2⟩:=q1
 ·cases(show RdX H1 B v (.tuple xs)from r1)with
  |@tup aa vs _ e1 e2 e3 e4=>
   refine⟨aa,rfl,.inl ⟨⟨vs,SqT.of e1⟩,k _ (fY 0 xs) H1 n1 R1 k1 (λfz th=>?_) q2⟩⟩;have za:fz aa=ae (.tup vs):=th.2 _ _ e1 e2;refine⟨by rw[ja,<-e4.len];exact e3,λi H hH hi=>?_,λH hH=>?_,λi H x H' d hH hd hy=>?_⟩
   ·rw[ja]at hi;have h1:i < vs.length:=by rw[e4.len];exact hi
    exact⟨vs,vs[i],SqT.of (hH _ _ za),As h1⟩
   ·exact⟨vs,SqT.of (hH _ _ za),by rw[ja,e4.len]⟩
   ·obtain⟨T,x1,rfl,hT,rfl,hx⟩:=hy;refine⟨λb o e=>by rw[aM (bQ e hT)];exact e,λB' hB hBa=>?_⟩;obtain⟨y,hy,rfl⟩:=sr hd;obtain⟨u1,hu1,ru1⟩:=e4.getD hy;have t1:=hx _ (SqT.of (hH _ _ za));rw[hu1]at t1;cases t1;have mv:∀b o,H1 b=ae o->¬B b->upd H T (.tup [.int i,x1]) b=ae o/\¬B' b:=λb o e ne=>by
     have:=hH _ _ (th.2 _ _ e ne);exact⟨by rw[aM (bQ this hT)];exact this,hB _ _ (th.2 _ _ e ne)⟩
    rw[Int.zero_add];exact .tup bw (λz=>hBa T z hT) (by show 2<=Ao;decide) (.cons (.int _) (.cons (ru1.move mv) .nil))
 ·cases(show RdX H1 B v (.list xs)from r1)with
  |@lst aa vs _ e1 e2 e3 e4=>
   refine⟨aa,rfl,.inr ⟨⟨vs,SqL.of e1⟩,k _ (fY 0 xs) H1 n1 R1 k1 (λfz th=>?_) q2⟩⟩;have za:fz aa=ae (.lst vs):=th.2 _ _ e1 e2;refine⟨by rw[ja,<-e4.len];exact e3,λi H hH hi=>?_,λH hH=>?_,λi H x H' d hH hd hy=>?_⟩
   ·rw[ja]at hi;have h1:i < vs.length:=by rw[e4.len];exact hi
    exact⟨vs,vs[i],SqL.of (hH _ _ za),As h1⟩
   ·exact⟨vs,SqL.of (hH _ _ za),by rw[ja,e4.len]⟩
   ·obtain⟨T,x1,rfl,hT,rfl,hx⟩:=hy;refine⟨λb o e=>by rw[aM (bQ e hT)];exact e,λB' hB hBa=>?_⟩;obtain⟨y,hy,rfl⟩:=sr hd;obtain⟨u1,hu1,ru1⟩:=e4.getD hy;have t1:=hx _ (SqL.of (hH _ _ za));rw[hu1]at t1;cases t1;have mv:∀b o,H1 b=ae o->¬B b->upd H T (.tup [.int i,x1]) b=ae o/\¬B' b:=λb o e ne=>by
     have:=hH _ _ (th.2 _ _ e ne);exact⟨by rw[aM (bQ this hT)];exact this,hB _ _ (th.2 _ _ e ne)⟩
    rw[Int.zero_add];exact .tup bw (λz=>hBa T z hT) (by show 2<=Ao;decide) (.cons (.int _) (.cons (ru1.move mv) .nil))
end
section
variable{X:Cx}{K:Ag}
structure SmlA(d:Ah):Prop where
 lay:De d=ah
 dep:Dl d<=20
 shw:D5 d=ah
 len:d.shown.length<=Ao
def zY(K:Ag):List V->Hp->VK->Prop:=λxs H Q=>∃x d,xs=[x]/\RdD K H x d/\SmlA d/\Q (.str d.shown) H
theorem Ja(hg:X.A.guards=ae [])(hu:X.A.units+64 < cLine)(hK:X.K=K:=by rfl):CallR X (.builtin "repr") (zY K):=by
 subst hK;intro pins s σ H xs us Q I r h;obtain⟨x,d,rfl,hd,hs,q⟩:=h;obtain⟨u,rfl,ru⟩:=iO r;have hsh:=hs.shw;have hln:=hs.len;cases hd with
 |non=>
  cases(show u=Bv from ru);exact P.repr_of_none ⟨.str _,H,I.tok _,⟨_,rfl⟩,q⟩
 |bl b=>
  cases(show u=Value.bool b from ru);exact P.repr_of_bool ⟨.str _,H,I.tok _,⟨_,rfl⟩,by cases b<;>exact q⟩
 |int i=>
  obtain⟨t,rfl⟩:=(show ∃t,u=Value.int i t from ru);exact P.repr_of_int (of_decide_eq_true hsh) ⟨.str _,H,I.tok _,⟨_,rfl⟩,q⟩
 |str y=>
  obtain⟨t,rfl⟩:=(show ∃t,u=D4 y t from ru);exact P.repr_of_str ⟨.str _,H,I.tok _,⟨_,rfl⟩,q⟩ hln
 |@lst a _ _ h1 h2=>
  cases(show u=Bq a from ru);obtain⟨as,hr⟩:=RdD.reads I (RdD.lst h1 h2) (show RelV (.ref a) (Bq a)from rfl);have hdp:=hs.dep;refine repr_of_reads' hr hsh (PyData.noDict_hsm (PyData.hasDict_of_canLay _ hs.lay)) hg ⋯ (λ_ _ e=>e) (λh' u tk hk=>?_) hln;exact⟨.str _,H,I.kept hk,⟨u,rfl⟩,q⟩
 |@tup a _ _ h1 h2=>
  cases(show u=Bq a from ru);obtain⟨as,hr⟩:=RdD.reads I (RdD.tup h1 h2) (show RelV (.ref a) (Bq a)from rfl);have hdp:=hs.dep;refine repr_of_reads' hr hsh (PyData.noDict_hsm (PyData.hasDict_of_canLay _ hs.lay)) hg ⋯ (λ_ _ e=>e) (λh' u tk hk=>?_) hln;exact⟨.str _,H,I.kept hk,⟨u,rfl⟩,q⟩
def hZ:List Wv->Int->DQ->Prop:=λxs n Q=>match xs with
 |[.d d]=>SmlA d/\Q (.d (.str d.shown)) n
 |_=>False
theorem QV:dH (zY K) hZ:=λC H B σ δ n vs xs Q Q' R r h k=>by
 unfold hZ at h
 split at h
 ·rename_i d;cases r with
  |cons r1 r2=>
   cases r2;have r1:RdX H B _ d:=r1;exact⟨_,d,rfl,r1.rd,h.1,k _ _ H n R (Kp.refl _ _) (wd (show RdX H B _ (.str _)from .str _ h.1.len)) h.2⟩
 ·exact h.elim
end
section
variable{X:Cx}{a b:Expr}{ta tb:TE}{wa wb:DT}{pos:Pos}
def fE(wa wb:DT):gv:=λδ n Q=>wa δ n λx n1=>wb δ n1 λy n2=>∃(ds:List Ah)(k:Nat),x=.d (.list ds)/\y=.d (.int k)/\k<=20/\ds.length<=40/\Q (Ax k ds).flatten n2
theorem AL{H:Hp}{B:Addr->Prop}:∀{xs ys:List V}{ds es:List Ah},RdXs H B xs ds->RdXs H B ys es->RdXs H B (xs++ys) (ds++es)
 |_,_,_,_,.nil,h=>h
 |_,_,_,_,.cons a b,h=>.cons a (AL b h)
theorem zR{H:Hp}{B:Addr->Prop}{xs:List V}{ds:List Ah}(h:RdXs H B xs ds):∀k:Nat,RdXs H B (Ax k xs).flatten (Ax k ds).flatten
 |0=>.nil
 |k+1=>by rw[Dj,D8,Dj,D8];exact AL h (zR h k)
theorem GJ{H:Hp}{B:Addr->Prop}:∀{xs:List V}{ds:List Ah},RdXs H B xs ds->xs.length=ds.length
 |_,_,.nil=>rfl
 |_,_,.cons _ b=>congrArg (·+1) (GJ b)
theorem OS(ha:DE X a ta wa)(hb:DE X b tb wb):DF X (.BinOp a .Mult b pos) (eJ oq ta tb) (fE wa wb):=⟨ek Oi ha.pe hb.pe,λC H B σ δ n Q Q' R z k=>
 ha.sd C H B σ δ n _ _ R z λv x H1 n1 R1 k1 r1 q1=>hb.sd C H1 B σ δ n1 _ _ R1 q1 λu y H2 n2 R2 k2 r2 q2=>by
  obtain⟨ds,m,rfl,rfl,hm,hl,kq⟩:=q2;cases(show RdX H2 B u (.int m)from r2);cases(show RdX H2 B v (.list ds)from r1.kp k2 R1.bt)with
  |@lst l xs _ e1 e2 e3 e4=>
   have hx:=GJ e4;have hb:xs.length*m<=800:=by
    have:=Nat.mul_le_mul (show xs.length<=40 by omega) hm;omega
   refine⟨l,m,_,rfl,rfl,e1,by omega,?_,?_,λD hD=>?_⟩
   ·have:(2:Int)^63=9223372036854775808:=by decide
    omega
   ·rw[Ck];exact lX ⋯
   ·rw[Ck];refine k D _ _ _ n2 (R2.new hD) ((k1.trans k2).trans (Kp.new hD)) (R2.was (k1.trans k2) hD) bw ?_ ((zR e4 m).fresh hD) kq;rw[nL,Nat.mul_comm];exact lX ⋯⟩
end
section
variable{X:Cx}{a b:Expr}{ta tb:TE}{wa wb:DT}{pos:Pos}{K:Ag}
def i6(wa wb:DT):DT:=λδ n Q=>wa δ n λx n1=>wb δ n1 λy n2=>∃(ds:List Ah)(k:Int),x=.d (.tuple ds)/\y=.d (.int k)/\ds≠[]/\2<=k/\k<=1000/\ds.length<=1000/\Q (.d (.tuple (Ax k.toNat ds).flatten)) n2
theorem z0{H:Hp}{B:Addr->Prop}{xs:List V}{ds:List Ah}(h:RdXs H B xs ds):∀k:Nat,RdXs H B (Ax k xs).flatten (Ax k ds).flatten
 |0=>.nil
 |k+1=>by
  rw[Dj,Dj,D8,D8];exact h.append (z0 h k)
theorem Kg(ha:DE X a ta wa)(hb:DE X b tb wb)(hK:X.K=K:=by rfl):DE X (.BinOp a .Mult b pos) (eJ (EG K) ta tb) (i6 wa wb):=by
 subst hK;refine⟨ek QZ ha.pe hb.pe,λC H B σ δ n Q Q' R z k=>ha.sd C H B σ δ n _ _ R z λv x H1 n1 R1 k1 r1 q1=>hb.sd C H1 B σ δ n1 _ _ R1 q1 λu y H2 n2 R2 k2 r2 q2=>?_⟩;obtain⟨ds,m,rfl,rfl,hne,h2,h3,hl,kq⟩:=q2;cases(show RdX H2 B u (.int m)from r2);cases(show RdX H2 B v (.tuple ds)from r1.kp k2 R1.bt)with
 |@tup l xs _ e1 e2 e3 e4=>
  have len:=e4.len;refine⟨l,m,xs,rfl,rfl,SqT.of e1,λz=>hne (by rw[z]at len;exact D2 len.symm),h2,h3,by omega,λD hD=>?_⟩;have nB:=R2.nb hD;refine k _ (.d (.tuple (Ax m.toNat ds).flatten)) _ n2 (R2.new hD) ((k1.trans k2).trans (Kp.new hD)) (show RdX _ B (.ref D) (.tuple (Ax m.toNat ds).flatten)from .tup bw nB ?_ (RdXs.keep (λb o e _=>by rw[aM (bQ e hD)];exact e) (z0 e4 m.toNat))) kq;rw[nL];exact An (Nat.mul_le_mul (show m.toNat<=1000 by omega) (show xs.length<=1000 by omega)) ∎
end
section
variable{X:Cx}{pos:Pos}
def oR(i:Nat)(w:DT):aW:=λδ n K=>∃a:Int,δ[i]?=ae (ae (.w (.d (.int a))))/\w δ n λy n1=>∃b:Int,y=.d (.int b)/\K.nx (δ.set i (ae (.w (.d (.int (a+b)))))) n1
theorem MD{i:Nat}{x:Str}{xp:Pos}{e:Expr}{te:TE}{we:DT}(hN:X.N.Nodup)(hi:X.N[i]?=ae x)(hx:jq X.env.scope x)(he:DE X e te we)(hf:X.fn x=ah\/X.env.scope.names.lookup x=ae .local:=by first|exact .inl rfl|exact .inr rfl|assumption):
  DS X (.AugAssign (.Name x xp) .Add e pos) (oG i te (BE λi j=>i+j)) (oR i we):=⟨Mk hN hi hx he.pe RQ hf,λC H B σ δ n K D R q E=>by
 obtain⟨a,ei,q⟩:=q;obtain⟨v,hv,r,_⟩:=R.sl i _ ei;cases(show RdX H B v (.int a)from r);refine⟨_,hv,he.sd C H B σ δ n _ _ R q λu y H1 n1 R1 k1 r1 q1=>?_⟩;obtain⟨b,rfl,kq⟩:=q1;cases(show RdX H1 B u (.int b)from r1);exact⟨a,b,rfl,rfl,E.nx _ _ _ _ _ (R1.set (x:=.d (.int (a+b))) (.int _) rfl) kq⟩⟩
end
end DL
namespace Nb
open PySem L2 DL
def bX(c:Nat):Bool:=!decide ([c] < ("0":Str).cps.toList)&&!decide (("9":Str).cps.toList < [c])
def gE(x:Str):Bool:=!x.cps.toList.isEmpty&&x.cps.toList.all bX
def fb:List Nat->Option Nat
 |[c]=>if bX c=ah then ae (c-48)else af
 |[c,d]=>if (bX c&&bX d&&decide (c≠48))=ah then ae (10*(c-48)+(d-48))else af
 |_=>af
def jP:Option Nat->Ah
 |some k=>.int (k:Nat)
 |none=>.none
def dY(x:Str):Ah:=jP (fb x.cps.toList)
def cj(x:Str):Ah:=if aQ 8 (.str x)=ah then .str x else dY x
def dZ(x:Str):Str:=⟨(x.cps.toList.drop 1).toArray⟩
def eR(c:Nat)(x:Str):Bool:=match x.cps.toList with
 |a::_=>decide (a=c)
 |[]=>ai
def vc(d:Ah):Ah:=if eA d=ah then .none else .tuple [.str "is",d]
def eZ(x:Str):Ah:=
 if x="?" then .tuple [.str "any"]else if x="$" then .tuple [.str "word"]else if x="#" then .tuple [.str "number"]else
 if (eR 63 x&&aQ 4 (.str (dZ x)))=ah then .tuple [.str "bind",.str (dZ x)]else
 if (eR 61 x&&aQ 4 (.str (dZ x)))=ah then .tuple [.str "as",.str (dZ x)]else
 if (eR 43 x&&aQ 4 (.str (dZ x)))=ah then .tuple [.str "next",.str (dZ x)]else
 vc (cj x)
def eW(x:Str):Ah:=if eR 64 x=ah then(if dg (dY (dZ x))=ah then dY (dZ x)else .none)else .none
def jR(x:Str):Ah:=if eR 62 x=ah then dY (dZ x)else .none
def pM:ck:=λws n Q=>∃x:Str,ws=[.d (.str x)]/\Q (.d (.bool (gE x))) n
def mN:ck:=λws n Q=>∃x:Str,ws=[.d (.str x)]/\Q (.d (dY x)) n
def qP:ck:=λws n Q=>∃x:Str,ws=[.d (.str x)]/\Q (.d (cj x)) n
def si:ck:=λws n Q=>∃x:Str,ws=[.d (.str x)]/\Q (.d (eZ x)) n
def vF:ck:=λws n Q=>∃x:Str,ws=[.d (.str x)]/\Q (.d (eW x)) n
def vK:ck:=λws n Q=>∃x:Str,ws=[.d (.str x)]/\Q (.d (jR x)) n
inductive Hw where
 |note|hand|block|lay|take|read|look|same|go
def Hw.s:Hw->Str
 |.note=>"note"
 |.hand=>"hand"
 |.block=>"block"
 |.lay=>"lay"
 |.take=>"take"
 |.read=>"read"
 |.look=>"look"
 |.same=>"same"
 |.go=>"go"
def Hw.least:Hw->Nat
 |.note=>1
 |.hand=>0
 |.block=>0
 |.lay=>1
 |.take=>1
 |.read=>1
 |.look=>1
 |.same=>2
 |.go=>0
def Hw.aged:Hw->Bool
 |.note=>ah
 |.lay=>ah
 |_=>ai
def Hw.leads:Hw->Bool
 |.look=>ah
 |.same=>ah
 |.go=>ah
 |_=>ai
def h9:Hw->Str->Ah
 |.block,w=>.str w
 |.note,w=>cj w
 |_,w=>eZ w
def cJ:Hw->List Ah->Bool
 |.note,ps=>fM (.tuple ps)
 |.block,ps=>kP (.tuple ps)
 |.lay,ps=>gD (.tuple ps)
 |.take,ps=>ft (.tuple ps)
 |.read,ps=>ft (.tuple ps)
 |.look,ps=>ft (.tuple ps)
 |.same,ps=>decide ((ps.length:Int)<=2)&&ps.all eE
 |_,_=>ai
def fF(h:Hw):List Ah->List Str->List Ah
 |acc,[]=>acc
 |acc,w::r=>if cJ h (acc++[h9 h w])=ah then fF h (acc++[h9 h w]) r else acc
def gx(h:Hw)(r:List Str)(m:Nat):Ah:=
 if m < h.least\/m=r.length then .none else match r[m]? with
 |some w=>if h.aged=ah then eW w else if h.leads=ah then jR w else .none
 |none=>.none
def uO:Hw->List Ah->Ah->Ah
 |.hand,ps,_=>.tuple ps
 |.block,ps,_=>.tuple ps
 |.note,ps,t=>.tuple [.tuple ps,t]
 |.lay,ps,t=>.tuple [.str "lay",.tuple ps,t]
 |.look,ps,t=>.tuple [.str "look",.tuple ps,t]
 |.take,ps,_=>.tuple [.str "take",.tuple ps]
 |.read,ps,_=>.tuple [.str "read",.tuple ps]
 |.same,ps,t=>.tuple (.str "same"::(ps++[t]))
 |.go,ps,t=>.tuple (.str "go"::(ps++[t]))
def cS(h:Hw)(r:List Str):Nat ⊕ Ah:=
 let ps:=fF h [] r
 let t:=gx h r ps.length
 let many:=1+ps.length+(if eA t=ah then 0 else 1)
 if (decide (ps.length < h.least) || (h.leads&&eA t))=ah\/many < r.length+1 then .inl many else .inr (uO h ps t)
abbrev fJ(h:Hw)(r:List Str):Ah:=.list ((h.s::r).map .str)
def sP:ck:=λws n Q=>∃(h:Hw)(w:Str),ws=[.d (.str h.s),.d (.str w)]/\Q (.d (h9 h w)) n
def pO:ck:=λws n Q=>∃(h:Hw)(ps:List Ah),ws=[.d (.str h.s),.d (.tuple ps)]/\Q (.d (.bool (cJ h ps))) n
def rO:ck:=λws n Q=>∃(h:Hw)(r:List Str),ws=[.d (fJ h r)]/\r.length<=900/\Q (.d (.tuple (fF h [] r))) n
def vv:ck:=λws n Q=>∃(h:Hw)(r:List Str)(m:Nat),ws=[.d (fJ h r),.d (.int (m:Nat))]/\m<=r.length/\Q (.d (gx h r m)) n
def vW:ck:=λws n Q=>∃(h:Hw)(ps:List Ah)(t:Ah),ws=[.d (.str h.s),.d (.tuple ps),.d t]/\ps.length<=900/\Q (.d (uO h ps t)) n
def mS:gH:=λws n Q E=>∃(i:Int)(h:Hw)(r:List Str),ws=[.d (.int i),.d (fJ h r)]/\r.length<=900/\match cS h r with
 |.inl m=>E i (m:Nat) n
 |.inr d=>Q (.d d) n
abbrev Bk:=Ah×List Ah
abbrev Hs:=List (List Bk)
def i5(b:Bk):Ah:=.tuple [b.1,.list b.2]
def cx(bs:List Bk):Ah:=.list (bs.map i5)
def i0(hs:Hs):Ah:=.list (hs.map cx)
def fL(hs:Hs):Bool:=match hs.getLast? with
 |some []=>ah
 |_=>ai
abbrev Za:List Str:=["lay","take","read","look","same","go"]
def bA(h:Str)(ns:List Ah)(hs:Hs):Bool:=
 if h="note" then hs.isEmpty&&decide (ns.length < 12)else
 if h="hand" then !fL hs&&decide (hs.length < 5)else
 if h="block" then(match hs.getLast? with|some bs=>decide (bs.length < 6)|none=>ai)else
 if bZ (.str h) ((Za:List Str).map .str)=ah then(match hs.getLast? with|some bs=>(match bs.getLast? with|some b=>decide (b.2.length < 8)|none=>ai)|none=>ai)else ai
def eV(b:Bk):Ah:=.tuple [b.1,.tuple b.2]
def mz:ck:=λws n Q=>∃hs:Hs,ws=[.d (i0 hs)]/\Q (.d (.bool (fL hs))) n
def pZ:ck:=λws n Q=>∃(h:Str)(ns:List Ah)(hs:Hs),ws=[.d (.str h),.d (.list ns),.d (i0 hs)]/\Q (.d (.bool (bA h ns hs))) n
def qc:ck:=λws n Q=>∃bs:List Bk,ws=[.d (cx bs)]/\bs.length<=100/\Q (.d (.tuple (bs.map eV))) n
def ig(P:List Bl)(ks:List Str)(a:Ac):Option Nat:=match bW ks [] a.fs with
 |some k=>ae (1+k)
 |none=>if iX P ks a.to=ah then af else ae (1+a.fs.length)
def pG:ck:=λws n Q=>∃(P:List Bl)(i p:Nat)(b:Bl)(a:Ac),ws=[.d (cg P),.d (.int i),.d (.int p)]/\P[i]?=ae b/\iq b/\b.2[p]?=ae a/\Q (.d (jP (ig P (kn b.1 b.2 p) a))) n
def iH(P:List Bl)(w:List Str)(as:List Ac):Nat->List Ac->Option (Nat×Nat)
 |_,[]=>af
 |p,a::r=>match ig P (kn w as p) a with
  |some k=>ae (p,k)
  |none=>iH P w as (p+1) r
def lW(P:List Bl)(i:Nat)(b:Bl):Option (Nat×Nat):=if i=0/\b.1≠[]then ae (0,1)else(iH P b.1 b.2 0 b.2).map λq=>(1+q.1,q.2)
def l8(P:List Bl):Nat->Nat->List Bl->Sum Nat (Nat×Nat)
 |L,_,[]=>.inl L
 |L,i,b::r=>match lW P i b with
  |some (k,w)=>.inr (L+k,w)
  |none=>l8 P (L+(1+b.2.length)) (i+1) r
def fZ:Nat->List (List Bl)->Option (Nat×Nat)
 |_,[]=>af
 |L,P::r=>match l8 P (L+1) 0 P with
  |.inl L'=>fZ L' r
  |.inr q=>ae q
def qT:gH:=λws n Q E=>∃(P:List Bl)(i:Nat)(b:Bl)(L:Nat),ws=[.d (cg P),.d (.int (i:Nat)),.d (.int (L:Nat))]/\P[i]?=ae b/\iq b/\match lW P i b with
 |some (k,w)=>E ((L+k:Nat):Int) (w:Nat) n
 |none=>Q (.d .none) n
def jx:gH:=λws n Q E=>∃(Ps:List (List Bl))(ns:List Ah),ws=[.d (.tuple [.tuple (Ps.map cg),.tuple ns])]/\(∀P∈Ps,P.length<=100/\∀b∈P,iq b)/\match fZ ns.length Ps with
 |some (l,w)=>E (l:Nat) (w:Nat) n
 |none=>Q (.d .none) n
def ji(s:Str):Option Hw:=[Hw.note,.hand,.block,.lay,.take,.read,.look,.same,.go].find? λh=>decide (h.s=s)
def ib(h:Hw)(d:Ah)(ns:List Ah)(hs:Hs):List Ah×Hs:=match h with
 |.note=>(ns++[d],hs)
 |.hand=>(ns,hs++[[]])
 |.block=>(ns,hs.dropLast++[(hs.getLast?.getD [])++[(d,[])]])
 |_=>(ns,hs.dropLast++[(hs.getLast?.getD []).dropLast++[(((hs.getLast?.getD []).getLast?.getD (.none,[])).1,((hs.getLast?.getD []).getLast?.getD (.none,[])).2++[d])]])
def oB(ws:List Str)(ns:List Ah)(hs:Hs):Nat ⊕ (List Ah×Hs):=match ws with
 |[]=>.inl 0
 |h::r=>if bA h ns hs=ah then(match ji h with
  |some hw=>(match cS hw r with
   |.inl m=>.inl m
   |.inr d=>.inr (ib hw d ns hs))
  |none=>.inl 0)else .inl 0
def fG:Nat->List (List Str)->List Ah->Hs->(Nat×Nat) ⊕ (List Ah×Hs)
 |_,[],ns,hs=>.inr (ns,hs)
 |i,ws::r,ns,hs=>match oB ws ns hs with
  |.inl m=>.inl (i,m)
  |.inr p=>fG (i+1) r p.1 p.2
def bz:Str:=" "
abbrev bh(ls:List Str):Ah:=.list (ls.map .str)
def lY:gH:=λws n Q E=>∃ls:List Str,ws=[.d (bh ls)]/\ls.length<=100/\(∀x∈ls,x.length<=500)/\match fG 0 (ls.map λx=>Ba x bz) [] []with
 |.inl q=>E (q.1:Nat) (q.2:Nat) n
 |.inr p=>if fL p.2=ah then E (ls.length:Nat) 0 n else ∃Ps:List (List Bl),p.2.map (λbs=>Gq (bs.map eV))=Ps.map cg/\(∀P∈Ps,P.length<=100/\∀b∈P,iq b)/\match fZ p.1.length Ps with
  |some q=>E (q.1:Nat) (q.2:Nat) n
  |none=>Q (.d (.tuple [.tuple (Ps.map cg),.tuple p.1])) n
def i8:ck:=λws n Q=>lY ws n Q λi j n'=>Q (.d (.list [.int i,.int j])) n'
def jS:List Nat:=[97,122,98,103,109,111]
def az(m:Nat)(x:Str):Prop:=x.cps.toList.length=m/\∀c∈x.cps.toList,c∈jS
def qz:ck:=λws n Q=>∃m:Nat,ws=[.tp,.d (.int (m:Nat))]/\m<=10/\n+20 < 2 ^ 39/\∀(x:Str)(n':Int),az m x->n'<=n+10->Q (.d (.str x)) n'
def cm(d:Ah):Prop:=∃(ls:List Str)(due:Ah),d=.tuple [bh ls,due]/\ls.length<=100/\(∀x∈ls,x.length<=100/\A8 x=ah)/\Small due/\∀(n:Int)(Q:DQ),Q (.d due) n->i8 [.d (bh ls)] n Q
def o6:ck:=λws n Q=>ws=[.tp]/\n+100 < 2 ^ 39/\∀(l:List Ah)(n':Int),l.length<=40->(∀d∈l,cm d)->n'<=n+100->Q (.d (.list l)) n'
abbrev vS:aW:=(aC (a9 (bR "int" ↥0) (cD (bR "bool" ↥0))))
abbrev sL:aW:=(aw (bB (bV (cT (bR "str" ↥0))) (aC (wC (.bool ai))) a8) (aC (a9 (df d9 d9 ⇑1 (wB aU (ao ↥0 aj)) ↥1) (wB bF (ao (aJ (cv [af] (eS ↥0) (bg 0) aX (df d9 d9 (wC (.str "a")) ↥0 (wC (.str "z"))))) aj)))))
abbrev NY:aW:=(aC (aT kE (ao ↥0 (ao ⇑8 aj))))
abbrev r9:aW:=(aC (a9 (aT (bf j4) (ao ↥0 aj)) (df d9 d9 ⇑0 ↥0 ⇑99)))
abbrev uE:aW:=(aC (eK (aT (bf (aQ 8)) (ao ↥0 aj)) (aT (bf iz) (ao ↥0 aj))))
abbrev HC:aW:=(aC (aT kE (ao ↥0 (ao ⇑4 aj))))
abbrev rY:aW:=(aw (bB (bV (cT (bR "tuple" ↥0))) (aC (wC (.bool ai))) a8) (aC (a9 (df d9 d9 ⇑1 (wB aU (ao ↥0 aj)) ⇑4) (wB bF (ao (aJ (cv [af] (cX ↥0) (bg 0) aX (aT (bf dw) (ao ↥0 aj)))) aj)))))
abbrev ui:aW:=(aC (eK (w2 ↥0 (wC .none) (bL ai)) (a9 (aT (bf j4) (ao ↥0 aj)) (df d9 d9 ⇑1 ↥0 ⇑20))))
abbrev wu:aW:=(aC (a9 (bR "tuple" ↥0) (a9 (w2 (wB aU (ao ↥0 aj)) ↥2 bK) (w2 (w2 ↥0 ⇑0 aY) ↥1 bK))))
abbrev sx:aW:=(aC (a9 (aT gQ (ao ↥0 (ao ↥1 (ao ⇑2 aj)))) (aT (bf (aQ 4)) (ao (w2 ↥0 ⇑1 aY) aj))))
abbrev uf:aW:=(aw (bB (cT (aT gQ (ao ↥0 (ao (wC (.str "is")) (ao ⇑2 aj))))) (aC (aT (bf dw) (ao (w2 ↥0 ⇑1 aY) aj))) a8) (aC (aT iC (ao ↥0 (ao (wC (.str "as")) aj)))))
abbrev tf:aW:=(aw (bB (dE (cT (aT gQ (ao ↥0 (ao (wC (.str "any")) (ao ⇑1 aj))))) (dE (cT (aT gQ (ao ↥0 (ao (wC (.str "word")) (ao ⇑1 aj))))) (cT (aT gQ (ao ↥0 (ao (wC (.str "number")) (ao ⇑1 aj))))))) (aC (wC (.bool ah))) a8) (aC (eK (aT (bf eE) (ao ↥0 aj)) (aT iC (ao ↥0 (ao (wC (.str "bind")) aj))))))
abbrev tT:aW:=(aC (eK (aT (bf eE) (ao ↥0 aj)) (aT iC (ao ↥0 (ao (wC (.str "next")) aj)))))
abbrev uV:aW:=(aC (a9 (bR "tuple" ↥0) (df d9 d9 ⇑1 (wB aU (ao ↥0 aj)) ⇑4)))
abbrev uo:aW:=(aC (a9 (aT (bf gc) (ao ↥0 aj)) (wB bF (ao (aJ (cv [af] (cX ↥0) (bg 0) aX (aT (bf dM) (ao ↥0 aj)))) aj))))
abbrev wA:aW:=(aC (a9 (aT (bf gc) (ao ↥0 aj)) (wB bF (ao (aJ (cv [af] (cX ↥0) (bg 0) aX (aT (bf gW) (ao ↥0 aj)))) aj))))
abbrev Ig:aW:=(aC (wB fk (ao (aJ (mY (aJ (cv [af] (cX ↥0) (bg 0) (cT (w2 (w2 ↥0 ⇑0 aY) (wC (.str "bind")) bK)) (w2 ↥0 ⇑1 aY))))) aj)))
abbrev BZ:aW:=(aw (bB (dE (bV (cT (bR "tuple" ↥0))) (cT (w2 (wB aU (ao ↥0 aj)) ⇑4 ql))) (aC (wC (.bool ai))) a8) (aw (bB (bV (cT (wB bF (ao (aJ (cv [af] (cX ↥0) (bg 0) aX (aT (bf (aQ 4)) (ao ↥0 aj)))) aj)))) (aC (wC (.bool ai))) a8) (aC (wB bF (ao (aJ (cv [af,af] (v5 ↥0 (d8 ↥0 (de ⇑1) d4)) (dJ 2 (cQ (bg 0) (cQ (bg 1) du))) aX (w2 ↥0 ↥1 gM))) aj)))))
abbrev y8:aW:=(aC (a9 (w2 ↥0 (wC (.str "")) iZ) (wB bF (ao (aJ (cv [af] (eS ↥0) (bg 0) aX (df d9 d9 (wC (.str "0")) ↥0 (wC (.str "9"))))) aj))))
abbrev qI:aW:=(aw (bB (dE (cT (w2 (wB aU (ao ↥0 aj)) (wB aU (ao (wB bM (ao ⇑99 aj)) aj)) ql)) (bV (cT (aT pM (ao ↥0 aj))))) (aC (wC .none)) a8) (aw (bb 1 (wB rp (ao ↥0 aj))) (aC (gT (cT (w2 (wB bM (ao ↥1 aj)) ↥0 bK)) ↥1 (wC .none)))))
abbrev zy:aW:=(aC (gT (cT (aT (bf (aQ 8)) (ao ↥0 aj))) ↥0 (aT mN (ao ↥0 aj))))
abbrev sG:aW:=(aw (cq (qK ["any","word","number"]) (bg 1) (bB (cT (w2 ↥0 (d7 [("any","?"),("word","$"),("number","#")] ↥1) bK)) (aC (aq (ao ↥1 aj))) a8)) (aw (cq (qK ["bind","as","next"]) (bg 1) (bB (d3 (cT (jW ↥0 (d7 [("bind","?"),("as","="),("next","+")] ↥1))) (cT (aT (bf (aQ 4)) (ao (gU ↥0 ⇑1) aj)))) (aC (aq (ao ↥1 (ao (gU ↥0 ⇑1) aj)))) a8)) (aw (bb 2 (aT qP (ao ↥0 aj))) (aC (gT (cT (w2 ↥2 (wC .none) (bL ai))) (wC .none) (aq (ao (wC (.str "is")) (ao ↥2 aj))))))))
abbrev xX:aW:=(aw (bb 1 (gT (cT (jW ↥0 (wC (.str "@")))) (aT mN (ao (gU ↥0 ⇑1) aj)) (wC .none))) (aC (gT (cT (aT (bf dg) (ao ↥1 aj))) ↥1 (wC .none))))
abbrev zq:aW:=(aC (gT (cT (jW ↥0 (wC (.str ">")))) (aT mN (ao (gU ↥0 ⇑1) aj)) (wC .none)))
abbrev Zf:List Str:=["take","read","look"]
abbrev AU:aW:=(aw (bb 3 (w2 (w2 ↥0 ↥1 aY) ⇑0 aY)) (aw (bb 4 (w2 (w2 ↥0 ↥1 aY) ⇑1 aY)) (aw (gN 5 (qu ↥3)) (aw (cq (cX (d8 ↥4 d4 (de ↥2))) (bg 6) (bB (cT (dA Zf (w2 ↥6 ⇑0 aY))) (my 5 (aT kO (ao (w2 ↥6 ⇑1 aY) aj))) a8)) (fj 5 (aC (wB fk (ao (aJ (mY ↥5)) aj))))))))
abbrev tN:aW:=(aw (bB (cT (w2 (w2 ↥0 ⇑0 aY) (wC (.str "same")) bK)) (aC (d8 ↥0 (de ⇑1) (de ⇑3))) a8) (aC (gT (cT (w2 (w2 ↥0 ⇑0 aY) (wC (.str "go")) bK)) (aq aj) (w2 ↥0 ⇑1 aY))))
abbrev AZ:aW:=(aw (cq (sX ↥0) (dJ 2 (cQ (bg 2) (cQ (bg 3) du))) (bB (d3 (cT (w2 (w2 ↥3 ⇑0 aY) (aq (ao (wC (.str "as")) (ao (wC (.str "next")) aj))) (gu ai))) (d3 (cT (w2 (w2 ↥3 ⇑1 aY) ↥1 (gu ah))) (cT (w2 (w2 ↥3 ⇑1 aY) (aT kO (ao (d8 ↥0 d4 (de ↥2)) aj)) (gu ah))))) (aC ↥2) a8)) (aC (wC .none)))
abbrev yU:aW:=(aC (a9 (w2 ↥1 (wB aU (ao ↥0 aj)) gM) (wB bF (ao (aJ (cv [af,ae 2] (cX (w2 (w2 ↥0 ↥1 aY) ⇑0 aY)) (bg 0) aX (w2 ↥0 ↥1 (gu ai)))) aj))))
abbrev Zd:List Str:=["look","same","go"]
abbrev EN:aW:=(aw (bb 3 (w2 (w2 (w2 ↥0 ↥1 aY) ⇑1 aY) ↥2 aY)) (aw (bb 4 (aT wG (ao ↥0 (ao ↥1 (ao ↥2 aj))))) (aw (bb 5 (aT vN (ao ↥3 aj))) (aw (bb 6 (aT vH (ao ↥5 (ao ↥4 aj)))) (aw (bB (cT (w2 ↥6 (wC .none) (bL ah))) (aC (w2 ⇑1 ↥6 (e9 λi j=>.int (i+j)))) a8) (aw (bB (d3 (cT (dA Zd (w2 ↥3 ⇑0 aY))) (bV (cT (aT pK (ao ↥0 (ao (w2 ↥3 (eF ⇑1) aY) (ao ↥4 aj))))))) (aC (w2 ⇑1 (wB aU (ao ↥5 aj)) (e9 λi j=>.int (i+j)))) a8) (aC (wC .none))))))))
abbrev yj:aW:=(aw (bB (cT (w2 ↥0 (wC (.str "note")) bK)) (aC (a9 (w2 ↥2 (aJ (aA aj)) bK) (w2 (wB aU (ao ↥1 aj)) ⇑12 gM))) a8) (aw (bB (cT (w2 ↥0 (wC (.str "hand")) bK)) (aC (a9 (cD (aT mz (ao ↥2 aj))) (w2 (wB aU (ao ↥2 aj)) ⇑5 gM))) a8) (aw (bB (cT (w2 ↥0 (wC (.str "block")) bK)) (aC (a9 (w2 ↥2 (aJ (aA aj)) kX) (w2 (wB aU (ao (w2 ↥2 (eF ⇑1) aY) aj)) ⇑6 gM))) a8) (aw (bB (cT (dA Za ↥0)) (aC (a9 (w2 ↥2 (aJ (aA aj)) kX) (a9 (w2 (w2 ↥2 (eF ⇑1) aY) (aJ (aA aj)) kX) (w2 (wB aU (ao (w2 (w2 (w2 ↥2 (eF ⇑1) aY) (eF ⇑1) aY) ⇑1 aY) aj)) ⇑8 gM)))) a8) (aC (wC (.bool ai)))))))
abbrev CF:aW:=(aC (a9 (w2 ↥0 (aJ (aA aj)) kX) (w2 (w2 ↥0 (eF ⇑1) aY) (aJ (aA aj)) bK)))
abbrev yQ:aW:=(aw (bB (cT (w2 ↥0 (wC (.str "block")) bK)) (aC ↥1) a8) (aC (gT (cT (w2 ↥0 (wC (.str "note")) bK)) (aT qP (ao ↥1 aj)) (aT si (ao ↥1 aj)))))
abbrev CC:aW:=(aw (bB (cT (w2 ↥0 (wC (.str "note")) bK)) (aC (aT (bf fM) (ao ↥1 aj))) a8) (aw (bB (cT (w2 ↥0 (wC (.str "block")) bK)) (aC (aT (bf kP) (ao ↥1 aj))) a8) (aw (bB (cT (w2 ↥0 (wC (.str "lay")) bK)) (aC (aT (bf gD) (ao ↥1 aj))) a8) (aw (bB (cT (w2 ↥0 (aq (ao (wC (.str "take")) (ao (wC (.str "read")) (ao (wC (.str "look")) aj)))) (gu ai))) (aC (aT (bf ft) (ao ↥1 aj))) a8) (aC (a9 (w2 ↥0 (wC (.str "same")) bK) (a9 (w2 (wB aU (ao ↥1 aj)) ⇑2 d9) (wB bF (ao (aJ (cv [af] (cX ↥1) (bg 0) aX (aT (bf eE) (ao ↥0 aj)))) aj)))))))))
abbrev BL:aW:=(aw (bb 1 (aq aj)) (aw (cq (iD (vX ↥0 (de ⇑1) d4)) (bg 2) (aw (bb 3 (w2 ↥1 (aq (ao (aT sP (ao (w2 ↥0 ⇑0 aY) (ao ↥2 aj))) aj)) jK)) (aw (bB (bV (cT (aT pO (ao (w2 ↥0 ⇑0 aY) (ao ↥3 aj))))) (aC ↥1) a8) (bb 1 ↥3)))) (aC ↥1)))
abbrev xt:aW:=(aw (bb 2 (w2 ↥0 ⇑0 aY)) (aw (bB (dE (cT (w2 ↥1 (mJ [("note",1),("hand",0),("block",0),("lay",1),("take",1),("read",1),("look",1),("same",2),("go",0)] ↥2) gM)) (cT (w2 (w2 ↥1 ⇑1 (e9 λi j=>.int (i+j))) (wB aU (ao ↥0 aj)) bK))) (aC (wC .none)) a8) (aw (bB (cT (dA ["note","lay"] ↥2)) (aC (aT vF (ao (w2 ↥0 (w2 ↥1 ⇑1 (e9 λi j=>.int (i+j))) aY) aj))) a8) (aC (gT (cT (dA Zd ↥2)) (aT vK (ao (w2 ↥0 (w2 ↥1 ⇑1 (e9 λi j=>.int (i+j))) aY) aj)) (wC .none))))))
abbrev yi:aW:=(aw (bB (cT (w2 ↥0 (aq (ao (wC (.str "hand")) (ao (wC (.str "block")) aj))) (gu ai))) (aC ↥1) a8) (aw (bB (cT (w2 ↥0 (wC (.str "note")) bK)) (aC (aq (ao ↥1 (ao ↥2 aj)))) a8) (aw (bB (cT (w2 ↥0 (aq (ao (wC (.str "lay")) (ao (wC (.str "look")) aj))) (gu ai))) (aC (aq (ao ↥0 (ao ↥1 (ao ↥2 aj))))) a8) (aw (bB (cT (w2 ↥0 (aq (ao (wC (.str "take")) (ao (wC (.str "read")) aj))) (gu ai))) (aC (aq (ao ↥0 (ao ↥1 aj)))) a8) (aC (w2 (w2 (aq (ao ↥0 aj)) ↥1 jK) (aq (ao ↥2 aj)) jK))))))
abbrev xQ(Ed:eB):aW:=(aw (bb 2 (w2 ↥1 ⇑0 aY)) (aw (bb 3 (aT rO (ao ↥1 aj))) (aw (bb 4 (aT vv (ao ↥1 (ao (wB aU (ao ↥3 aj)) aj)))) (aw (bb 5 (w2 (w2 ⇑1 (wB aU (ao ↥3 aj)) (e9 λi j=>.int (i+j))) (gT (cT (w2 ↥4 (wC .none) (bL ai))) ⇑0 ⇑1) (e9 λi j=>.int (i+j)))) (aw (bb 6 (eK (w2 (wB aU (ao ↥3 aj)) (mJ [("note",1),("hand",0),("block",0),("lay",1),("take",1),("read",1),("look",1),("same",2),("go",0)] ↥2) gM) (a9 (dA Zd ↥2) (w2 ↥4 (wC .none) (bL ai))))) (aw (bB (dE (cT ↥6) (cT (w2 ↥5 (wB aU (ao ↥1 aj)) gM))) (i9 ↥0 ↥5 Ed) a8) (aC (aT vW (ao ↥2 (ao ↥3 (ao ↥4 aj)))))))))))
abbrev xR:aW:=(aC (wB fk (ao (aJ (cv [af,af] (iD ↥0) (dJ 2 (cQ (bg 0) (cQ (bg 1) du))) aX (aq (ao ↥0 (ao (wB fk (ao ↥1 aj)) aj))))) aj)))
abbrev yH(Ed:eB):aW:=(aw (bB (d3 (cT (w2 ↥1 ⇑0 bK)) (cT (w2 (w2 (w2 ↥0 ↥1 aY) ⇑0 aY) (aq aj) (qH ah)))) (i9 ↥2 ⇑1 Ed) a8) (cq (jB (wB aU (ao (w2 (w2 ↥0 ↥1 aY) ⇑1 aY) aj))) (bg 3) (aw (bb 4 (aT pG (ao ↥0 (ao ↥1 (ao ↥3 aj))))) (bB (cT (w2 ↥4 (wC .none) (bL ah))) (i9 (w2 (w2 ↥2 ⇑1 (e9 λi j=>.int (i+j))) ↥3 (e9 λi j=>.int (i+j))) ↥4 Ed) a8))))
abbrev DU(Ed:eB):aW:=(aw (bb 1 (wB aU (ao (w2 ↥0 ⇑1 aY) aj))) (cq (cX (w2 ↥0 ⇑0 aY)) (bg 2) (aw (oR 1 ⇑1) (cq (jB (wB aU (ao ↥2 aj))) (bg 3) (aw (l9 qT (ao ↥2 (ao ↥3 (ao ↥1 aj))) Ed) (oR 1 (w2 ⇑1 (wB aU (ao (w2 (w2 ↥2 ↥3 aY) ⇑1 aY) aj)) (e9 λi j=>.int (i+j)))))))))
abbrev BF:aW:=(aC (nv (wC (.str "")) (aJ (cv [af,ae 0] (jB ↥1) (bg 0) aX (w2 (wC (.str "azbgmo")) (aT gY (ao ↥1 (ao ⇑6 aj))) aY)))))
abbrev yB:aW:=(aw (bb 1 (aT qz (ao ↥0 (ao ⇑8 aj)))) (aw (bb 2 (aT qz (ao ↥0 (ao ⇑4 aj)))) (aw (bb 3 (aT gY (ao ↥0 (ao ⇑100 aj)))) (aw (gN 4 (aA aj)) (aw (bu 4 (aq (ao (aJ (fE (aJ (aA (ao (w2 (wC (.str "note ")) ↥1 aG) aj))) ⇑12)) (ao (aq (ao (aq aj) (ao (i6 (aq (ao (aq (ao (aq (ao ↥1 aj)) (ao (wC .none) aj))) aj)) ⇑12) aj))) aj)))) (aw (bu 4 (aq (ao (aJ (fE (aJ (aA (ao (w2 (wC (.str "note ")) ↥1 aG) aj))) ⇑13)) (ao (aJ (aA (ao ⇑12 (ao ⇑0 aj)))) aj)))) (aw (bu 4 (aq (ao (aJ (fE (aJ (aA (ao (wC (.str "hand")) (ao (wC (.str "block")) aj)))) ⇑5)) (ao (aq (ao (i6 (aq (ao (aq (ao (aq (ao (aq aj) (ao (aq aj) aj))) aj)) aj)) ⇑5) (ao (aq aj) aj))) aj)))) (aw (bu 4 (aq (ao (w2 (aJ (fE (aJ (aA (ao (wC (.str "hand")) (ao (wC (.str "block")) aj)))) ⇑5)) (aJ (aA (ao (wC (.str "hand")) aj))) aG) (ao (aJ (aA (ao ⇑10 (ao ⇑0 aj)))) aj)))) (aw (bu 4 (aq (ao (w2 (aJ (aA (ao (wC (.str "hand")) aj))) (aJ (fE (aJ (aA (ao (wC (.str "block")) aj))) ⇑6)) aG) (ao (aq (ao (aq (ao (i6 (aq (ao (aq (ao (aq aj) (ao (aq aj) aj))) aj)) ⇑6) aj)) (ao (aq aj) aj))) aj)))) (aw (bu 4 (aq (ao (w2 (aJ (aA (ao (wC (.str "hand")) aj))) (aJ (fE (aJ (aA (ao (wC (.str "block")) aj))) ⇑7)) aG) (ao (aJ (aA (ao ⇑7 (ao ⇑0 aj)))) aj)))) (aw (bu 4 (aq (ao (w2 (aJ (aA (ao (wC (.str "hand")) (ao (wC (.str "block")) aj)))) (aJ (fE (aJ (aA (ao (wC (.str "go >0")) aj))) ⇑8)) aG) (ao (aq (ao (aq (ao (aq (ao (aq (ao (aq aj) (ao (i6 (aq (ao (aq (ao (wC (.str "go")) (ao ⇑0 aj))) aj)) ⇑8) aj))) aj)) aj)) (ao (aq aj) aj))) aj)))) (aw (bu 4 (aq (ao (w2 (aJ (aA (ao (wC (.str "hand")) (ao (wC (.str "block")) aj)))) (aJ (fE (aJ (aA (ao (wC (.str "go >0")) aj))) ⇑9)) aG) (ao (aJ (aA (ao ⇑10 (ao ⇑0 aj)))) aj)))) (aw (bu 4 (aq (ao (aJ (aA (ao (w2 (wC (.str "note a a 0 ")) (wB bM (ao ↥3 aj)) aG) aj))) (ao (aq (ao (aq aj) (ao (aq (ao (aq (ao (aq (ao (wC (.str "a")) (ao (wC (.str "a")) (ao ⇑0 (ao ↥3 aj))))) (ao (wC .none) aj))) aj)) aj))) aj)))) (aw (bu 4 (aq (ao (aJ (aA (ao (w2 (wC (.str "note a a 0 1 ")) ↥1 aG) aj))) (ao (aJ (aA (ao ⇑0 (ao ⇑5 aj)))) aj)))) (aw (bu 4 (aq (ao (aJ (aA (ao (w2 (w2 (wC (.str "note ")) ↥1 aG) (wC (.str "a")) aG) aj))) (ao (aJ (aA (ao ⇑0 (ao ⇑1 aj)))) aj)))) (aw (bu 4 (aq (ao (aJ (aA (ao (w2 (wC (.str "note ")) (wB bM (ao (w2 ⇑100 ↥3 aG) aj)) aG) aj))) (ao (aJ (aA (ao ⇑0 (ao ⇑1 aj)))) aj)))) (aw (bu 4 (aq (ao (aJ (aA (ao (wC (.str "note a @20")) aj))) (ao (aq (ao (aq aj) (ao (aq (ao (aq (ao (aq (ao (wC (.str "a")) aj)) (ao ⇑20 aj))) aj)) aj))) aj)))) (aw (bu 4 (aq (ao (aJ (aA (ao (w2 (wC (.str "note a @")) (wB bM (ao (w2 ⇑21 ↥3 aG) aj)) aG) aj))) (ao (aJ (aA (ao ⇑0 (ao ⇑2 aj)))) aj)))) (aw (bu 4 (aq (ao (aJ (aA (ao (w2 (wC (.str "note 0")) (wB bM (ao ↥3 aj)) aG) aj))) (ao (aJ (aA (ao ⇑0 (ao ⇑1 aj)))) aj)))) (aw (bu 4 (aq (ao (aJ (aA (ao (wC (.str "hand")) (ao (wC (.str "block")) (ao (w2 (wC (.str "take ?")) ↥2 aG) aj))))) (ao (aq (ao (aq (ao (aq (ao (aq (ao (aq aj) (ao (aq (ao (aq (ao (wC (.str "take")) (ao (aq (ao (aq (ao (wC (.str "bind")) (ao ↥2 aj))) aj)) aj))) aj)) aj))) aj)) aj)) (ao (aq aj) aj))) aj)))) (aw (bu 4 (aq (ao (aJ (aA (ao (wC (.str "hand")) (ao (wC (.str "block")) (ao (w2 (w2 (wC (.str "take ?")) ↥2 aG) (wC (.str "a")) aG) aj))))) (ao (aJ (aA (ao ⇑2 (ao ⇑1 aj)))) aj)))) (aw (bu 4 (aq (ao (aJ (aA (ao (wC (.str "hand")) (ao (wC (.str "block")) (ao (wC (.str "block a b c d")) aj))))) (ao (aq (ao (aq (ao (aq (ao (aq (ao (aq aj) (ao (aq aj) aj))) (ao (aq (ao (aq (ao (wC (.str "a")) (ao (wC (.str "b")) (ao (wC (.str "c")) (ao (wC (.str "d")) aj))))) (ao (aq aj) aj))) aj))) aj)) (ao (aq aj) aj))) aj)))) (aw (bu 4 (aq (ao (aJ (aA (ao (wC (.str "hand")) (ao (wC (.str "block")) (ao (wC (.str "block a b c d e")) aj))))) (ao (aJ (aA (ao ⇑2 (ao ⇑5 aj)))) aj)))) (aw (bu 4 (aq (ao (aJ (aA (ao (wC (.str "hand")) (ao (wC (.str "block")) (ao (w2 (w2 (wC (.str "look $ # ? ")) (wB bM (ao ↥3 aj)) aG) (wC (.str " >0")) aG) aj))))) (ao (aq (ao (aq (ao (aq (ao (aq (ao (aq aj) (ao (aq (ao (aq (ao (wC (.str "look")) (ao (aq (ao (aq (ao (wC (.str "word")) aj)) (ao (aq (ao (wC (.str "number")) aj)) (ao (aq (ao (wC (.str "any")) aj)) (ao (aq (ao (wC (.str "is")) (ao ↥3 aj))) aj))))) (ao ⇑0 aj)))) aj)) aj))) aj)) aj)) (ao (aq aj) aj))) aj)))) (aw (bu 4 (aq (ao (aJ (aA (ao (wC (.str "hand")) (ao (wC (.str "block")) (ao (w2 (w2 (wC (.str "look $ # ? ")) (wB bM (ao ↥3 aj)) aG) (wC (.str " a >0")) aG) aj))))) (ao (aJ (aA (ao ⇑2 (ao ⇑5 aj)))) aj)))) (aw (bu 4 (aq (ao (aJ (aA (ao (wC (.str "hand")) (ao (wC (.str "block")) (ao (w2 (wC (.str "go >")) (wB bM (ao (w2 ⇑1 (aT gY (ao ↥0 (ao ⇑99 aj))) aG) aj)) aG) aj))))) (ao (aJ (aA (ao ⇑2 (ao ⇑1 aj)))) aj)))) (aw (bu 4 (aq (ao (aJ (aA (ao (wC (.str "hand")) (ao (wC (.str "block")) (ao (w2 (wC (.str "go >")) (wB bM (ao (w2 ⇑100 ↥3 aG) aj)) aG) aj))))) (ao (aJ (aA (ao ⇑2 (ao ⇑1 aj)))) aj)))) (aw (bu 4 (aq (ao (aJ (aA (ao (wC (.str "hand")) (ao (w2 (wC (.str "block ")) ↥2 aG) aj)))) (ao (aJ (aA (ao ⇑1 (ao ⇑1 aj)))) aj)))) (aw (bu 4 (aq (ao (aJ (aA (ao (wC (.str "hand")) aj))) (ao (aJ (aA (ao ⇑1 (ao ⇑0 aj)))) aj)))) (aw (bb 5 (aq (ao (aq (ao (wC (.str "take")) (ao (wB fk (ao (aJ (cv [af] (eS (wC (.str "abcd"))) (bg 0) aX (aq (ao (wC (.str "bind")) (ao ↥0 aj))))) aj)) aj))) aj))) (aw (bb 5 (w2 ↥5 (aq (ao (aq (ao (wC (.str "take")) (ao (aq (ao (aq (ao (wC (.str "bind")) (ao (wC (.str "e")) aj))) (ao (aq (ao (wC (.str "bind")) (ao ↥2 aj))) aj))) aj))) aj)) aG)) (aw (bb 5 (w2 ↥5 (aq (ao (aq (ao (wC (.str "lay")) (ao (aq (ao (aq (ao (wC (.str "as")) (ao (wC (.str "a")) aj))) (ao (aq (ao (wC (.str "as")) (ao (wC (.str "e")) aj))) (ao (aq (ao (wC (.str "as")) (ao ↥2 aj))) (ao (aq (ao (wC (.str "next")) (ao (wC (.str "d")) aj))) aj))))) (ao (w2 ⇑1 (w2 ↥3 ⇑20 (gI (λ_ j=>0 < j) λi j=>.int (i % j))) aG) aj)))) aj)) aG)) (aw (bb 6 (aJ (aA (ao (wC (.str "take ?a ?b ?c ?d")) (ao (w2 (wC (.str "take ?e ?")) ↥2 aG) (ao (w2 (w2 (w2 (wC (.str "lay =a =e =")) ↥2 aG) (wC (.str " +d @")) aG) (wB bM (ao (w2 ⇑1 (w2 ↥3 ⇑20 (gI (λ_ j=>0 < j) λi j=>.int (i % j))) aG) aj)) aG) aj)))))) (aw (bu 4 (aq (ao (w2 (aJ (aA (ao (wC (.str "hand")) (ao (wC (.str "block")) aj)))) ↥6 aG) (ao (aq (ao (aq (ao (aq (ao (aq (ao (aq aj) (ao ↥5 aj))) aj)) aj)) (ao (aq aj) aj))) aj)))) (aw (bu 4 (aq (ao (aJ (aA (ao (wC (.str "hand")) (ao (wC (.str "block")) (ao (w2 (w2 (w2 (w2 (wC (.str "same ")) ↥1 aG) (wC (.str " ")) aG) (wB bM (ao ↥3 aj)) aG) (wC (.str " >0")) aG) aj))))) (ao (aq (ao (aq (ao (aq (ao (aq (ao (aq aj) (ao (aq (ao (aq (ao (wC (.str "same")) (ao (aq (ao (wC (.str "is")) (ao ↥1 aj))) (ao (aq (ao (wC (.str "is")) (ao ↥3 aj))) (ao ⇑0 aj))))) aj)) aj))) aj)) aj)) (ao (aq aj) aj))) aj)))) (fj 4 (aC ↥4)))))))))))))))))))))))))))))))))))))
abbrev zx:aW:=(aw (cq (iD (w2 (aT o6 (ao ↥1 aj)) (aT o6 (ao ↥1 aj)) aG)) (dJ 2 (cQ (bg 2) (cQ (bg 3) du))) (aw (bb 4 (wB kL (ao ↥2 aj))) (aw (bB (dE (cT (w2 (wB hZ (ao (aT i8 (ao ↥4 aj)) aj)) (wB hZ (ao ↥3 aj)) iZ)) (cT (w2 ↥4 ↥2 (l4 λd e=>ae (!PyData.eqv d e))))) (aC (wC (.bool ai))) a8) (bB (cT (w2 (wB hZ (ao (aT i8 (ao ↥4 aj)) aj)) (wB hZ (ao ↥3 aj)) iZ)) (aC (wC (.bool ai))) a8)))) (aC (wC (.bool ah))))
abbrev t9:aW:=aw (bb 1 (wC .none)) (aw (o9 2 1 λEd=>qJ 1 lY (ao ↥0 aj) Ed) (aC ↥1))
theorem QW:∀ws n Q,bf j4 ws n Q->ws.length=1:=λ_ _ _ h=>gR h
abbrev Zc:List Str:=["thing"]
theorem Lz:∀ws n Q,bf j4 ws n Q->vS (dj Zc ws) n {nx:=λ_ n=>Q (.d .none) n,rt:=Q}:=gS λd n K k=>by
 show vS [ae (.w (.d d))] n K;unfold vS;cases d<;>(simp only[ak,dJ,cQ,du,d8,d4,de,wC,w2,cT,df,fg,dE,bV,a9,eK,cD,aj,ao,aJ,aT,wB,a8,aw,aC,bB,b7,bK,bL,aY,aU,bR,bF,cX,eS,cv,dD,aX,bg,dm,Di,Bc,Bo,Bw,Ca,Aq,A7,C6,gF,gL,gC,gm,gB];simpa[j4]using k)
theorem Rz:∀ws n Q,kE ws n Q->ws.length=2:=λws n Q h=>by
 unfold kE at h
 split at h
 ·rfl
 ·exact h.elim
theorem OM:dF kE sL ["thing","longest"]:=λws n Q h=>by
 unfold kE at h
 split at h
 ·rename_i d k;show sL [ae (.w (.d d)),ae (.w (.d (.int k)))] n _;unfold sL;cases d with
  |str x=>
   simp only[ak,dJ,cQ,du,d8,d4,de,wC,w2,cT,df,fg,dE,bV,a9,eK,cD,aj,ao,aJ,aT,wB,a8,aw,aC,bB,b7,bK,bL,aY,aU,bR,bF,cX,eS,cv,dD,aX,bg,dm,Di,Bc,Bo,Bw,Ca,Aq,A7,C6,gF,gL,gC,gm,gB];simp only[Bool.not_true,Cb,if_false];simp only[aQ]at h;refine mC (λe1=>?_) (λe1=>?_)
   ·refine mC (λe2=>?_) (λe2=>?_)
    ·rw[e1,e2,C3,C3]at h;exact Mo x h
    ·rw[e1,e2]at h;exact h
   ·rw[e1]at h;exact h
  |_=>simp only[ak,dJ,cQ,du,d8,d4,de,wC,w2,cT,df,fg,dE,bV,a9,eK,cD,aj,ao,aJ,aT,wB,a8,aw,aC,bB,b7,bK,bL,aY,aU,bR,bF,cX,eS,cv,dD,aX,bg,dm,Di,Bc,Bo,Bw,Ca,Aq,A7,C6,gF,gL,gC,gm,gB];exact h
 ·exact h.elim
theorem SR:∀ws n Q,bf (aQ 8) ws n Q->ws.length=1:=λ_ _ _ h=>gR h
theorem K1:∀ws n Q,bf (aQ 8) ws n Q->NY (dj Zc ws) n {nx:=λ_ n=>Q (.d .none) n,rt:=Q}:=gS λd n K k=>k
theorem KP:∀ws n Q,bf (aQ 4) ws n Q->ws.length=1:=λ_ _ _ h=>gR h
theorem SI:∀ws n Q,bf (aQ 4) ws n Q->HC (dj Zc ws) n {nx:=λ_ n=>Q (.d .none) n,rt:=Q}:=gS λd n K k=>k
theorem IT:∀ws n Q,bf iz ws n Q->ws.length=1:=λ_ _ _ h=>gR h
theorem RE:∀ws n Q,bf iz ws n Q->r9 (dj Zc ws) n {nx:=λ_ n=>Q (.d .none) n,rt:=Q}:=gS λd n K k=>by
 show r9 [ae (.w (.d d))] n K;unfold r9;simp only[aC,a9,aT,ao,aj,ak,Bc,bf,fg,df,wC];exact CD k
theorem S7:∀ws n Q,bf dw ws n Q->ws.length=1:=λ_ _ _ h=>gR h
theorem Mh:∀ws n Q,bf dw ws n Q->uE (dj Zc ws) n {nx:=λ_ n=>Q (.d .none) n,rt:=Q}:=gS λd n K k=>by
 show uE [ae (.w (.d d))] n K;unfold uE;simp only[ak,dJ,cQ,du,d8,d4,de,wC,w2,cT,df,fg,dE,bV,a9,eK,cD,aj,ao,aJ,aT,wB,a8,aw,aC,bB,b7,bK,bL,aY,aU,bR,bF,cX,eS,cv,dD,aX,bg,dm,Di,Bc,Bo,Bw,Ca,Aq,A7,C6,gF,gL,gC,gm,gB,bf];exact pU (F:=λb=>K.rt (.d (.bool b)) n) k id
theorem OV:∀ws n Q,bf fM ws n Q->ws.length=1:=λ_ _ _ h=>gR h
theorem Te:∀ws n Q,bf fM ws n Q->rY (dj Zc ws) n {nx:=λ_ n=>Q (.d .none) n,rt:=Q}:=gS λd n K k=>by
 show rY [ae (.w (.d d))] n K;unfold rY;cases d with
 |tuple ds=>
  simp only[fM]at k;simp only[ak,dJ,cQ,du,d8,d4,de,wC,w2,cT,df,fg,dE,bV,a9,eK,cD,aj,ao,aJ,aT,wB,a8,aw,aC,bB,b7,bK,bL,aY,aU,bR,bF,cX,eS,cv,dD,aX,bg,dm,Di,Bc,Bo,Bw,Ca,Aq,A7,C6,gF,gL,gC,gm,gB];simp only[Bool.not_true,Cb,if_false];refine mC (λe1=>?_) (λe1=>?_)
  ·refine mC (λe2=>?_) (λe2=>?_)
   ·rw[e1,e2,C3,C3]at k;exact SE ds k
   ·rw[e1,e2]at k;exact k
  ·rw[e1]at k;exact k
 |_=>simp only[ak,dJ,cQ,du,d8,d4,de,wC,w2,cT,df,fg,dE,bV,a9,eK,cD,aj,ao,aJ,aT,wB,a8,aw,aC,bB,b7,bK,bL,aY,aU,bR,bF,cX,eS,cv,dD,aX,bg,dm,Di,Bc,Bo,Bw,Ca,Aq,A7,C6,gF,gL,gC,gm,gB];exact k
theorem Pa:∀ws n Q,bf dg ws n Q->ws.length=1:=λ_ _ _ h=>gR h
theorem TM:∀ws n Q,bf dg ws n Q->ui (dj Zc ws) n {nx:=λ_ n=>Q (.d .none) n,rt:=Q}:=gS λd n K k=>by
 show ui [ae (.w (.d d))] n K;unfold ui;simp only[aC,eK,w2,a9,aT,ao,aj,ak,Bc,bf,fg,df,wC,bL,Cb,if_false];exact pU (F:=λb=>K.rt (.d (.bool b)) n) k CD
theorem Jt:∀ws n Q,gQ ws n Q->ws.length=3:=λws n Q h=>by
 unfold gQ at h
 split at h
 ·rfl
 ·exact h.elim
theorem QD:dF gQ wu ["thing","head","many"]:=λws n Q h=>by
 unfold gQ at h
 split at h
 ·rename_i d hd k;obtain⟨hk,h⟩:=h;show wu [ae (.w (.d d)),ae (.w (.d (.str hd))),ae (.w (.d (.int k)))] n _;unfold wu;cases d with
  |tuple ds=>
   simp only[ak,dJ,cQ,du,d8,d4,de,wC,w2,cT,df,fg,dE,bV,a9,eK,cD,aj,ao,aJ,aT,wB,a8,aw,aC,bB,b7,bK,bL,aY,aU,bR,bF,cX,eS,cv,dD,aX,bg,dm,Di,Bc,Bo,Bw,Ca,Aq,A7,C6,gF,gL,gC,gm,gB,eq_int,eq_str];simp only[if_true];by_cases e:(ds.length:Int)=k
   ·rcases ds with _|⟨a,r⟩
    ·exfalso;have e:(0:Int)=k:=e;omega
    ·simp only[fQ,decide_eq_true e,if_true,C3]at h ⊢;simp only[oQ,eq_str];exact h
   ·simp only[fQ,decide_eq_false e,Cb,if_false,E6]at h ⊢;exact h
  |_=>simp only[ak,dJ,cQ,du,d8,d4,de,wC,w2,cT,df,fg,dE,bV,a9,eK,cD,aj,ao,aJ,aT,wB,a8,aw,aC,bB,b7,bK,bL,aY,aU,bR,bF,cX,eS,cv,dD,aX,bg,dm,Di,Bc,Bo,Bw,Ca,Aq,A7,C6,gF,gL,gC,gm,gB];exact h
 ·exact h.elim
theorem Mx:∀ws n Q,iC ws n Q->ws.length=2:=λws n Q h=>by
 unfold iC at h
 split at h
 ·rfl
 ·exact h.elim
theorem Sh:dF iC sx ["thing","head"]:=λws n Q h=>by
 unfold iC at h
 split at h
 ·rename_i d hd;show sx [ae (.w (.d d)),ae (.w (.d (.str hd)))] n _;unfold sx;simp only[ak,dJ,cQ,du,d8,d4,de,wC,w2,cT,df,fg,dE,bV,a9,eK,cD,aj,ao,aJ,aT,wB,a8,aw,aC,bB,b7,bK,bL,aY,aU,bR,bF,cX,eS,cv,dD,aX,bg,dm,Di,Bc,Bo,Bw,Ca,Aq,A7,C6,gF,gL,gC,gm,gB,gQ,bf];refine⟨by decide,?_⟩;refine qQ (F:=λb=>Q (.d (.bool b)) n) h λe z=>?_;obtain⟨a,b,rfl⟩:=xh e;exact z
 ·exact h.elim
theorem Ul:∀ws n Q,bf eE ws n Q->ws.length=1:=λ_ _ _ h=>gR h
theorem HS:∀ws n Q,bf eE ws n Q->uf (dj Zc ws) n {nx:=λ_ n=>Q (.d .none) n,rt:=Q}:=gS λd n K k=>by
 show uf [ae (.w (.d d))] n K;unfold uf;simp only[ak,dJ,cQ,du,d8,d4,de,wC,w2,cT,df,fg,dE,bV,a9,eK,cD,aj,ao,aJ,aT,wB,a8,aw,aC,bB,b7,bK,bL,aY,aU,bR,bF,cX,eS,cv,dD,aX,bg,dm,Di,Bc,Bo,Bw,Ca,Aq,A7,C6,gF,gL,gC,gm,gB,gQ,iC,bf];refine⟨by decide,?_⟩;unfold eE at k;cases e:fQ "is" 2 d with
 |true=>
  rw[e,if_pos rfl]at k;rw[if_pos rfl];obtain⟨a,b,rfl⟩:=xh e;exact k
 |false=>
  rw[e,if_neg Ak]at k;rw[if_neg Ak];exact k
theorem Ip:∀ws n Q,bf dM ws n Q->ws.length=1:=λ_ _ _ h=>gR h
theorem SD:∀ws n Q,bf dM ws n Q->tf (dj Zc ws) n {nx:=λ_ n=>Q (.d .none) n,rt:=Q}:=gS λd n K k=>by
 show tf [ae (.w (.d d))] n K;unfold tf;simp only[ak,dJ,cQ,du,d8,d4,de,wC,w2,cT,df,fg,dE,bV,a9,eK,cD,aj,ao,aJ,aT,wB,a8,aw,aC,bB,b7,bK,bL,aY,aU,bR,bF,cX,eS,cv,dD,aX,bg,dm,Di,Bc,Bo,Bw,Ca,Aq,A7,C6,gF,gL,gC,gm,gB,gQ,iC,bf];unfold dM at k;refine⟨by decide,?_⟩;cases e1:fQ "any" 1 d with
 |true=>rw[e1]at k;exact k
 |false=>
  rw[e1,Bool.false_or]at k;simp only[Cb,if_false];refine⟨by decide,?_⟩;cases e2:fQ "word" 1 d with
  |true=>rw[e2]at k;exact k
  |false=>
   rw[e2,Bool.false_or]at k;simp only[Cb,if_false];refine⟨by decide,?_⟩;cases e3:fQ "number" 1 d with
   |true=>rw[e3]at k;exact k
   |false=>
    rw[e3,Bool.false_or]at k;simp only[Cb,if_false];exact pU (F:=λb=>K.rt (.d (.bool b)) n) k id
theorem RG:∀ws n Q,bf gW ws n Q->ws.length=1:=λ_ _ _ h=>gR h
theorem Je:∀ws n Q,bf gW ws n Q->tT (dj Zc ws) n {nx:=λ_ n=>Q (.d .none) n,rt:=Q}:=gS λd n K k=>by
 show tT [ae (.w (.d d))] n K;unfold tT;simp only[ak,dJ,cQ,du,d8,d4,de,wC,w2,cT,df,fg,dE,bV,a9,eK,cD,aj,ao,aJ,aT,wB,a8,aw,aC,bB,b7,bK,bL,aY,aU,bR,bF,cX,eS,cv,dD,aX,bg,dm,Di,Bc,Bo,Bw,Ca,Aq,A7,C6,gF,gL,gC,gm,gB,gQ,iC,bf];exact pU (F:=λb=>K.rt (.d (.bool b)) n) k id
theorem Od:∀ws n Q,bf gc ws n Q->ws.length=1:=λ_ _ _ h=>gR h
theorem Oc:∀ws n Q,bf gc ws n Q->uV (dj Zc ws) n {nx:=λ_ n=>Q (.d .none) n,rt:=Q}:=gS λd n K k=>by
 show uV [ae (.w (.d d))] n K;unfold uV;cases d with
 |tuple ds=>
  simp only[ak,dJ,cQ,du,d8,d4,de,wC,w2,cT,df,fg,dE,bV,a9,eK,cD,aj,ao,aJ,aT,wB,a8,aw,aC,bB,b7,bK,bL,aY,aU,bR,bF,cX,eS,cv,dD,aX,bg,dm,Di,Bc,Bo,Bw,Ca,Aq,A7,C6,gF,gL,gC,gm,gB];simp only[if_true];exact qQ (F:=λb=>K.rt (.d (.bool b)) n) k λ_ z=>z
 |_=>simp only[ak,dJ,cQ,du,d8,d4,de,wC,w2,cT,df,fg,dE,bV,a9,eK,cD,aj,ao,aJ,aT,wB,a8,aw,aC,bB,b7,bK,bL,aY,aU,bR,bF,cX,eS,cv,dD,aX,bg,dm,Di,Bc,Bo,Bw,Ca,Aq,A7,C6,gF,gL,gC,gm,gB];exact k
theorem AY{d:Ah}(e:gc d=ah):∃ds,d=.tuple ds:=by
 cases d with
 |tuple ds=>exact⟨ds,rfl⟩
 |_=>cases e
theorem tW{Q:DQ}{n:Int}(g:Ah->Bool)(ds:List Ah)(h:Q (.d (.bool (ds.all g))) n):c8 (bg 0) aX (aT (bf g) (ao ↥0 aj))
  (λds n1=>match eU ds with|some bs=>Q (.d (.bool (bs.all id))) n1|none=>False) ds [] [af] n:=by
 refine mB (λ_=>True) (λd=>.bool (g d)) ?_ _ _ _ _ (λ_ _=>trivial) ?_
 ·exact λd n Q' _ k=>k
 ·show match eU (ds.map λd=>.bool (g d))with|some bs=>Q (.d (.bool (bs.all id))) n|none=>False
  simp only[kI,nF];exact h
theorem OF:∀ws n Q,bf ft ws n Q->ws.length=1:=λ_ _ _ h=>gR h
theorem JL:∀ws n Q,bf ft ws n Q->uo (dj Zc ws) n {nx:=λ_ n=>Q (.d .none) n,rt:=Q}:=gS λd n K k=>by
 show uo [ae (.w (.d d))] n K;unfold uo;simp only[aC,a9,aT,ao,aj,ak,Bc,bf,fg,wB,aJ,cv,cX,bF,dD,Aq,A7,C6];refine qQ (F:=λb=>K.rt (.d (.bool b)) n) k λe z=>?_;obtain⟨ds,rfl⟩:=AY e;exact tW dM ds z
theorem PH:∀ws n Q,bf gD ws n Q->ws.length=1:=λ_ _ _ h=>gR h
theorem HR:∀ws n Q,bf gD ws n Q->wA (dj Zc ws) n {nx:=λ_ n=>Q (.d .none) n,rt:=Q}:=gS λd n K k=>by
 show wA [ae (.w (.d d))] n K;unfold wA;simp only[aC,a9,aT,ao,aj,ak,Bc,bf,fg,wB,aJ,cv,cX,bF,dD,Aq,A7,C6];refine qQ (F:=λb=>K.rt (.d (.bool b)) n) k λe z=>?_;obtain⟨ds,rfl⟩:=AY e;exact tW gW ds z
section
variable{δ:Sl}{n:Int}{Q:DQ}{K:DEnds}{W V:aW}{i j:Nat}{ds:List Ah}
theorem fB{u v:DT}{a b:Bool}(hu:∀Q:DQ,Q (.d (.bool a)) n->u δ n Q)(hv:a=ah->∀Q:DQ,Q (.d (.bool b)) n->v δ n Q)(k:Q (.d (.bool (a&&b))) n):a9 u v δ n Q:=by
 refine hu _ ?_;cases a with
 |true=>exact hv rfl _ k
 |false=>exact k
theorem v3{u v:DT}{a b:Bool}(hu:∀Q:DQ,Q (.d (.bool a)) n->u δ n Q)(hv:a=ai->∀Q:DQ,Q (.d (.bool b)) n->v δ n Q)(k:Q (.d (.bool (a || b))) n):eK u v δ n Q:=by
 refine hu _ ?_;cases a with
 |false=>exact hv rfl _ k
 |true=>exact k
theorem gK{u v:cU}{a b:Bool}{Q:Bool->Int->Prop}(hu:∀Q:Bool->Int->Prop,Q a n->u δ n Q)(hv:a=ai->∀Q:Bool->Int->Prop,Q b n->v δ n Q)(k:Q (a || b) n):dE u v δ n Q:=by
 refine hu _ ?_;cases a with
 |false=>exact hv rfl _ k
 |true=>exact k
theorem hU{u v:cU}{a b:Bool}{Q:Bool->Int->Prop}(hu:∀Q:Bool->Int->Prop,Q a n->u δ n Q)(hv:a=ah->∀Q:Bool->Int->Prop,Q b n->v δ n Q)(k:Q (a&&b) n):d3 u v δ n Q:=by
 refine hu _ ?_;cases a with
 |true=>exact hv rfl _ k
 |false=>exact k
theorem kG{C:cU}{b:Bool}(hc:∀Q:Bool->Int->Prop,Q b n->C δ n Q)(hT:b=ah->W δ n K)(hF:b=ai->V δ n K):bB C W V δ n K:=by
 refine hc _ ?_;cases b with
 |true=>exact hT rfl
 |false=>exact hF rfl
end
theorem z9{Q:List Ah->Int->Prop}{n:Int}:∀(ds acc:List Ah)(x y:Option SV),(∀d∈ds,∃s,d=.str s)->(∀bs:List Bool,bs.all id=oj ds->Q (acc++bs.map .bool) n)->
  c8 (dJ 2 (cQ (bg 0) (cQ (bg 1) du))) aX (w2 ↥0 ↥1 gM) Q (fU ds (ds.drop 1)) acc [x,y] n
 |[],acc,x,y,_,q=>by
  have:=q [] rfl;rw[A7,Cc]at this;exact this
 |[_],acc,x,y,_,q=>by
  have:=q [] rfl;rw[A7,Cc]at this;exact this
 |a::b::r,acc,x,y,h,q=>by
  obtain⟨s,rfl⟩:=h a Am;obtain⟨t,rfl⟩:=h b (Al _ Am);show c8 _ _ _ Q (.tuple [.str s,.str t]::fU (.str t::r) ((.str t::r).drop 1)) acc [x,y] n;refine⟨rfl,?_⟩;dsimp only[cQ,bg,du,Bh,aX];rw[if_pos rfl];refine aL (aF rfl (aF rfl ?_));show c8 _ _ _ Q (fU (.str t::r) ((.str t::r).drop 1)) (acc++[.bool (decide (s.cps.toList < t.cps.toList))]) [ae (.w (.d (.str s))),ae (.w (.d (.str t)))] n;refine z9 (.str t::r) _ _ _ (λd hd=>h d (Al _ hd)) λbs hb=>?_;have:=q (decide (s.cps.toList < t.cps.toList)::bs) (by
   show(decide (s.cps.toList < t.cps.toList)&&bs.all id)=(decide ((qt (.str s)).cps.toList < (qt (.str t)).cps.toList)&&oj (.str t::r));rw[hb];rfl)
  rw[Aq]at this;rw[Cj];exact this
theorem Lq{ds:List Ah}{k:Int}(h:ds.all (aQ k)=ah):∀d∈ds,∃s,d=.str s:=λd hd=>by
 have:=C8.mp h d hd;cases d with
 |str s=>exact⟨s,rfl⟩
 |_=>cases this
theorem MF{Q:DQ}{n:Int}{bs:List Bool}(k:Q (.d (.bool (bs.all id))) n):bF [.d (.list (bs.map .bool))] n Q:=by
 show match eU (bs.map .bool)with|some bs=>Q (.d (.bool (bs.all id))) n|none=>False
 have:eU (bs.map PyData.bool)=ae bs:=by
  have:=kI (λb:Bool=>b) bs;simpa using this
 rw[this];exact k
theorem OH:∀ws n Q,bf kP ws n Q->ws.length=1:=λ_ _ _ h=>gR h
theorem R8:∀ws n Q,bf kP ws n Q->BZ (dj Zc ws) n {nx:=λ_ n=>Q (.d .none) n,rt:=Q}:=gS λd n K k=>by
 show BZ [ae (.w (.d d))] n K;cases d with
 |tuple ds=>
  have k:K.rt (.d (.bool (decide ((ds.length:Int)<=4)&&(ds.all (aQ 4)&&oj ds)))) n:=k;refine aR (kG (b:=decide ((4:Int) < (ds.length:Int))) (λQ q=>gK (a:=ai) (λQ q=>kH (k:=ah) (λQ q=>br (λQ q=>LF rfl q) q) q) (λ_ Q q=>br (λQ q=>aL (lL rfl (bx q))) q) (by rw[Bool.false_or];exact q)) (λe=>?_) λe=>?_)
  ·have e:=of_decide_eq_true e;rw[decide_eq_false ⋯,E6]at k;exact bJ (bx k)
  ·have e:=of_decide_eq_false e;rw[decide_eq_true ⋯,C3]at k;dsimp only[a8];refine aR (kG (b:=!ds.all (aQ 4)) (λQ q=>kH (λQ q=>br (λQ q=>bU (fu (rV (λQ q=>aF rfl q) (tW (aQ 4) ds q)))) q) q) (λe2=>?_) λe2=>?_)
   ·have e2:ds.all (aQ 4)=ai:=by simpa using e2
    rw[e2,E6]at k;exact bJ (bx k)
   ·have e2:ds.all (aQ 4)=ah:=by simpa using e2
    rw[e2,C3]at k;dsimp only[a8];refine bJ (bU (fu (show v5 _ _ _ _ _ from aF rfl ?_)));have step:∀Q:DQ,Q (.d (.tuple (ds.drop 1))) n->d8 ↥0 (de ⇑1) d4 [ae (.w (.d (.tuple ds)))] n Q:=λQ q=>by
     unfold d8 d4 de;refine aF rfl (bx ?_);show Q (.d (.tuple (c6 ds (ae ((1:Nat):Int)) af))) n;have:c6 ds (ae ((1:Nat):Int)) af=ds.drop 1:=by
      cases ds with
      |nil=>rfl
      |cons a r=>
       unfold c6;rw[HT.sIx_nat];show((a::r).drop (min 1 (r.length+1))).take (r.length+1-min 1 (r.length+1))=_;rw[Nat.min_eq_left ⋯];exact List.take_of_length_le (by simp)
     rw[this];exact q
    refine step _ (By (by rw[List.length_drop];omega) ?_);refine z9 ds [] _ _ (Lq e2) λbs hb=>?_;rw[Fo];exact MF (by rw[hb];exact k)
 |_=>exact aR (kG (b:=ah) (λQ q=>gK (a:=ah) (b:=ah) (λQ q=>kH (k:=ai) (λQ q=>br (λQ q=>q) q) q) (λz=>nomatch z) q) (λ_=>bJ (bx k)) λz=>nomatch z)
theorem vB{c:cU}{w:DT}{Q:List Ah->Int->Prop}{rest:Sl}(g:Fe->Option Ah)(hno:∀(f:Fe) (n:Int) (Q':Bool->Int->Prop),g f=af->Q' ai n->c (ae (.w (.d f.d))::rest) n Q')
  (hyes:∀(f:Fe)(n:Int)(Q':Bool->Int->Prop)(y:Ah),g f=ae y->Q' ah n->c (ae (.w (.d f.d))::rest) n Q') (hw:∀(f:Fe)(n:Int)(Q':DQ)(y:Ah),g f=ae y->Q' (.d y) n->w (ae (.w (.d f.d))::rest) n Q'):
  ∀(fs:List Fe)(acc:List Ah)(x:Option SV)(n:Int),Q (acc++fs.filterMap g) n->c8 (bg 0) c w Q (fs.map Fe.d) acc (x::rest) n
 |[],acc,x,n,q=>by
  rw[List.filterMap_nil,Cc]at q;exact q
 |f::r,acc,x,n,q=>by
  rw[Aq];simp only[c8,bg,Bw];cases e:g f with
  |none=>
   refine hno f n _ e ?_;rw[if_neg Ak];refine vB g hno hyes hw r acc _ n ?_;rw[List.filterMap_cons_none e]at q;exact q
  |some y=>
   refine hyes f n _ y e ?_;rw[if_pos rfl];refine hw f n _ y e ?_;refine vB g hno hyes hw r (acc++[y]) _ n ?_;rw[List.filterMap_cons_some e]at q;rw[Cj];exact q
def jF(o:Option Str):Option Ah:=o.map .str
theorem PZ(g:Fe->Option Str)(fs:List Fe):fs.filterMap (λf=>jF (g f))=(fs.filterMap g).map .str:=by
 rw[List.map_filterMap];rfl
theorem RY(f:Fe):cz "bind" (.str f.hd)=f.bd.isSome:=by
 cases f with
 |any=>exact(show cz "bind" (.str "any")=ai by decide +kernel)
 |word=>exact(show cz "bind" (.str "word")=ai by decide +kernel)
 |num=>exact(show cz "bind" (.str "number")=ai by decide +kernel)
 |isv _=>exact(show cz "bind" (.str "is")=ai by decide +kernel)
 |bind _=>exact(show cz "bind" (.str "bind")=ah by decide +kernel)
 |as _=>exact(show cz "bind" (.str "as")=ai by decide +kernel)
 |nx _=>exact(show cz "bind" (.str "next")=ai by decide +kernel)
theorem OA(f:Fe):bZ (.str f.hd) [.str "as",.str "next"]=f.us.isSome:=by
 cases f with
 |any=>exact(show bZ (.str "any") [.str "as",.str "next"]=ai by decide +kernel)
 |word=>exact(show bZ (.str "word") [.str "as",.str "next"]=ai by decide +kernel)
 |num=>exact(show bZ (.str "number") [.str "as",.str "next"]=ai by decide +kernel)
 |isv _=>exact(show bZ (.str "is") [.str "as",.str "next"]=ai by decide +kernel)
 |bind _=>exact(show bZ (.str "bind") [.str "as",.str "next"]=ai by decide +kernel)
 |as _=>exact(show bZ (.str "as") [.str "as",.str "next"]=ah by decide +kernel)
 |nx _=>exact(show bZ (.str "next") [.str "as",.str "next"]=ah by decide +kernel)
theorem ON{f:Fe}{k:Str}(h:f.bd=ae k):f.d=.tuple [.str f.hd,.str k]:=by
 cases f<;>cases h;rfl
theorem Ma{f:Fe}{k:Str}(h:f.us=ae k):f.d=.tuple [.str f.hd,.str k]:=by
 cases f<;>cases h<;>rfl
theorem FI{o:Option Str}{y:Ah}(h:jF o=ae y):∃k,o=ae k/\y=.str k:=by
 cases o with
 |none=>cases h
 |some k=>cases h;exact⟨k,rfl,rfl⟩
theorem HH{o:Option Str}(h:jF o=af):o=af:=by
 cases o with
 |none=>rfl
 |some k=>cases h
theorem pJ{fs:List Fe}(h:fq fs):∀k∈bH fs,ej k:=λk hk=>by
 obtain⟨f,hf,e⟩:=Hf.mp hk;have:=h.2 f hf;cases f<;>cases e;exact this
theorem ot{fs:List Fe}(h:fq fs):(bH fs).length<=4:=An (List.length_filterMap_le _ _) h.1
theorem OO{δ:Sl}{n:Int}{Q:DQ}{a b:Ah}(e:δ[0]?=ae (ae (.w (.d (.tuple [a,b])))))(k:Q (.d b) n):w2 ↥0 (wC (.int 1)) aY δ n Q:=jQ (r:=[]) e k
theorem GV{f:Fe}{rest:Sl}{n:Int}{Q':Bool->Int->Prop}(k:Q' f.bd.isSome n):cT (w2 (w2 ↥0 (wC (.int 0)) aY) (wC (.str "bind")) bK) (ae (.w (.d f.d))::rest) n Q':=by
 refine BH (i:=0) (a:=.str f.hd) (r:=f.tl) rfl ?_;show Q' (cz "bind" (.str f.hd)) n;rw[RY];exact k
theorem Ua{Q:List Ah->Int->Prop}(fs:List Fe)(n:Int)(k:Q ((bH fs).map .str) n):
  c8 (bg 0) (cT (w2 (w2 ↥0 (wC (.int 0)) aY) (wC (.str "bind")) bK)) (w2 ↥0 (wC (.int 1)) aY) Q (fs.map Fe.d) [] [af] n:=by
 refine vB (λf=>jF f.bd) (λf n Q' e q=>GV ?_) (λf n Q' y e q=>GV ?_) (λf n Q' y e q=>?_) fs [] af n ?_
 ·rw[HH e];exact q
 ·obtain⟨x,e1,_⟩:=FI e;rw[e1];exact q
 ·obtain⟨x,e1,rfl⟩:=FI e;exact OO (by rw[ON e1];rfl) q
 ·rw[PZ];exact k
theorem j8{δ:Sl}{n:Int}{hs:List Str}{w:DT}{s:Str}{b:Bool}{Q:Bool->Int->Prop}(hw:∀Q:DQ,Q (.d (.str s)) n->w δ n Q)(e:bZ (.str s) (hs.map .str)=b)(q:Q b n):cT (dA hs w) δ n Q:=hw _ (By rfl (by show Q (bZ (.str s) (hs.map .str)) n;rw[e];exact q))
theorem SM{a:Ac}(h:fq a.fs):(∀k∈a.bs,ej k)/\a.bs.length<=4:=by
 cases a with
 |take fs=>exact⟨pJ h,ot h⟩
 |read fs=>exact⟨pJ h,ot h⟩
 |look fs b=>exact⟨pJ h,ot h⟩
 |lay fs b=>exact⟨λk hk=>by simp[Ac.bs]at hk,by simp[Ac.bs]⟩
 |same f g b=>exact⟨λk hk=>by simp[Ac.bs]at hk,by simp[Ac.bs]⟩
 |go b=>exact⟨λk hk=>by simp[Ac.bs]at hk,by simp[Ac.bs]⟩
theorem sU:∀{ys ks:List Str},ys.Nodup->(∀k∈ys,k∈ks)->ys.length<=ks.length
 |[],_,_,_=>Bx _
 |y::ys,ks,h,hs=>by
  obtain⟨h1,h2⟩:=Fn.mp h;have hm:=hs y Am;have:=sU (ks:=ks.erase y) h2 λk hk=>(List.mem_erase_of_ne (λ(e:k=y)=>h1 (e▸hk))).mpr (hs k (Al _ hk));rw[List.length_erase_of_mem hm]at this;have:=List.length_pos_of_mem hm;rw[Bd];omega
structure KnI(w:List Str)(dn:List Ac)(L:List Str):Prop where
 mem:∀k,k∈L↔k∈w++dn.flatMap Ac.bs
 len:L.length<=4+4*dn.length
 ok:∀k∈L,ej k
theorem KnI.first{w:List Str}(h:w.length<=4)(ok:∀k∈w,ej k):KnI w [] w:=⟨λk=>by simp,by simpa using h,ok⟩
theorem KnI.skip{w L:List Str}{dn:List Ac}{a:Ac}(I:KnI w dn L)(e:a.bs=[]):KnI w (dn++[a]) L:=
 ⟨λk=>by rw[I.mem k,Cu];simp[e],by rw[A0,B5];have:=I.len;omega,I.ok⟩
theorem KnI.more{w L ys:List Str}{dn:List Ac}{a:Ac}(I:KnI w dn L)(h:∀k,k∈ys↔k∈a.bs)(hl:ys.length<=4)(ok:fq a.fs):KnI w (dn++[a]) (L++ys):=
 ⟨λk=>by rw[Bi,I.mem k,h k,Cu,<-Cj];simp[or_assoc],by rw[A0,A0,B5];have:=I.len;omega,λk hk=>by
  rcases Bi.mp hk with z|z
  ·exact I.ok k z
  ·exact(SM ok).1 k ((h k).mp z)⟩
theorem Pl{s:Str}{k:Int}(h:aQ k (.str s)=ah):(s.length:Int)<=k:=by
 unfold aQ at h;simp only[Cy,decide_eq_true_eq]at h;exact h.2.1
theorem mV(x:Str):∀hs:List Str,bZ (.str x) (hs.map .str)=decide (x∈hs)
 |[]=>rfl
 |y::r=>by
  rw[Aq];show(tV (.str y) (.str x) || bZ (.str x) (r.map .str))=_;rw[mV x r];show(decide (y=x) || decide (x∈r))=_;by_cases e:y=x
  ·subst e;simp
  ·have:¬x=y:=λz=>e z.symm;simp[e,this]
theorem yl{k:Str}(h:ej k):k.length<=4:=by
 have:=Pl h.1;omega
theorem TH:dF kO Ig ["pattern"]:=λws n Q h=>by
 obtain⟨fs,rfl,ok,k⟩:=h;refine Ua fs n ?_;exact⟨bH fs,.inl rfl,Fm (ot ok) ∎,λx hx=>An (yl (pJ ok x hx)) ∎,λys a b c=>k ys (An (sU a λz hz=>(b z).mp hz) (ot ok)) b⟩
theorem MK:dF wG AU ["program","block","place","wanted","acts","known","act"]:=λws n Q h=>by
 obtain⟨bs,i,p,⟨w,as⟩,rfl,hi,⟨hb1,hb2,hb3,hb4⟩,hp,k⟩:=h;dsimp only at hb1 hb2 hb3 hb4 hp k;have hi':(bs.map di)[i]?=ae (di (w,as)):=by rw[Be,hi];rfl
 show AU [ae (.w (.d (.tuple (bs.map di)))),ae (.w (.d (.int i))),ae (.w (.d (.int p))),af,af,af,af] n _;refine aR (eP (x:=.tuple (w.map .str)) (λQ q=>aL (aL (aF rfl (aF rfl (f9 hi' (bx (lg q))))))) ?_);dsimp only[Bh];refine aR (eP (x:=.tuple (as.map Ac.d)) (λQ q=>aL (aL (aF rfl (aF rfl (f9 hi' (bx (ix q))))))) ?_);dsimp only[Bh];refine aR (Me rfl ?_);dsimp only[Bh];refine aR ?_;unfold cq cX d8;refine aF rfl ?_;dsimp only[d4,de];refine aF rfl ?_;dsimp only;rw[zm _ (by rw[Ap];exact hp),<-List.map_take];refine kf (λds δ n'=>∃(dn re:List Ac)(L:List Str)(x:Option SV),ds=re.map Ac.d/\dn++re=as.take p/\n'=n/\δ=[ae (.w (.d (.tuple (bs.map di)))),ae (.w (.d (.int i))),ae (.w (.d (.int p))),ae (.w (.d (.tuple (w.map .str)))),ae (.w (.d (.tuple (as.map Ac.d)))),ae (.own (L.map .str)),x]/\KnI w dn L) (λδ n' I=>?_) (λd r δ n' N I kN=>?_) _ _ _
  ⟨[],as.take p,w,af,rfl,rfl,rfl,rfl,KnI.first hb1 hb2⟩
 ·obtain⟨dn,re,L,x,e,hdn,rfl,rfl,I⟩:=I;cases List.map_eq_nil_iff.mp e.symm;rw[Cc]at hdn;subst hdn;dsimp only;refine CG rfl ?_;dsimp only[Bh];have hl:(as.take p).length<=8:=An (List.length_take_le _ _) ⋯;have hI:=I.len;refine bJ (bU (fu (show mY _ _ _ _ from aF rfl ?_)));exact Exists.intro L ⟨.inl rfl,by omega,λx hx=>An (yl (I.ok x hx)) ∎,λys a b c=>k ys (An (sU a λz hz=>(b z).mp hz) ⋯) λz=>(b z).trans (I.mem z)⟩
 ·obtain⟨dn,re,L,x,e,hdn,rfl,rfl,I⟩:=I;obtain⟨a,re,rfl,rfl,rfl⟩:=List.map_eq_cons_iff.mp e.symm;dsimp only[bg,Bh];have ha:fq a.fs:=(hb4 a (List.mem_of_mem_take (i:=p) (by rw[<-hdn];exact Bb _ Am))).1;have hlen:L.length<=36:=by
   have h1:dn.length+(re.length+1)=(as.take p).length:=by rw[<-hdn,A0,Bd]
   have h3:=I.len;have h4:(as.take p).length<=as.length:=List.length_take_le' _ _;omega
  have hdn':(dn++[a])++re=as.take p:=by rw[Cj];exact hdn
  have nxt:∀L',KnI w (dn++[a]) L'->N [ae (.w (.d (.tuple (bs.map di)))),ae (.w (.d (.int i))),ae (.w (.d (.int p))),ae (.w (.d (.tuple (w.map .str)))),ae (.w (.d (.tuple (as.map Ac.d)))),ae (.own (L'.map .str)),ae (.w (.d a.d))] n':=λL' I'=>kN _ _ ⟨dn++[a],re,L',_,rfl,hdn',rfl,rfl,I'⟩;have get:∀(K:DEnds)(hK:∀δ n,N δ n->K.nx δ n)(s:Str)(fs:List Fe)(r:List Ah),a.d=.tuple (.str s::gj fs::r)->bZ (.str s) ((Zf:List Str).map .str)=ah->a.bs=bH fs->a.fs=fs->bB (cT (dA Zf (w2 ↥6 ⇑0 aY))) (my 5 (aT kO (ao (w2 ↥6 ⇑1 aY) aj))) a8
    [ae (.w (.d (.tuple (bs.map di)))),ae (.w (.d (.int i))),ae (.w (.d (.int p))),ae (.w (.d (.tuple (w.map .str)))),ae (.w (.d (.tuple (as.map Ac.d)))),ae (.own (L.map .str)),ae (.w (.d a.d))] n' K:=λK hK s fs r e1 e2 e3 e4=>by
   rw[e1]at nxt ⊢;refine bN (λQ q=>j8 (s:=s) (λQ q=>mh rfl q) e2 q) ?_;refine(show my 5 _ _ _ _ from bO (jQ rfl (Exists.intro fs ⟨rfl,e4▸ha,λys hl hys=>By ⟨by rw[Ap];omega,by rw[Ap];omega⟩ ?_⟩)));have:=nxt (L++ys) (I.more (λk=>by rw[e3];exact hys k) hl ha);rw[Br]at this;exact hK _ _ this
  have skip:∀(K:DEnds)(hK:∀δ n,N δ n->K.nx δ n)(s:Str)(r:List Ah),a.d=.tuple (.str s::r)->bZ (.str s) ((Zf:List Str).map .str)=ai->a.bs=[]->bB (cT (dA Zf (w2 ↥6 ⇑0 aY))) (my 5 (aT kO (ao (w2 ↥6 ⇑1 aY) aj))) a8
    [ae (.w (.d (.tuple (bs.map di)))),ae (.w (.d (.int i))),ae (.w (.d (.int p))),ae (.w (.d (.tuple (w.map .str)))),ae (.w (.d (.tuple (as.map Ac.d)))),ae (.own (L.map .str)),ae (.w (.d a.d))] n' K:=λK hK s r e1 e2 e3=>by
   rw[e1]at nxt ⊢;refine bC (λQ q=>j8 (s:=s) (λQ q=>mh rfl q) e2 q) (hK _ _ (nxt L (I.skip e3)))
  cases a with
  |lay fs age=>exact skip _ (λ_ _ z=>z) "lay" [gj fs,age] rfl ∅ rfl
  |take fs=>exact get _ (λ_ _ z=>z) "take" fs [] rfl ∅ rfl rfl
  |read fs=>exact get _ (λ_ _ z=>z) "read" fs [] rfl ∅ rfl rfl
  |look fs b=>exact get _ (λ_ _ z=>z) "look" fs [.int b] rfl ∅ rfl rfl
  |same f g b=>exact skip _ (λ_ _ z=>z) "same" [f.d,g.d,.int b] rfl ∅ rfl
  |go b=>exact skip _ (λ_ _ z=>z) "go" [.int b] rfl ∅ rfl
theorem gP{u:cU}{v w:DT}{δ:Sl}{n:Int}{Q:DQ}{b:Bool}(hu:∀Q:Bool->Int->Prop,Q b n->u δ n Q)(k:if b=ah then v δ n Q else w δ n Q):gT u v w δ n Q:=hu _ k
theorem ff{i j n:Int}{Q:DQ}(k:Q (.d (.int (i+j))) n):e9 (λi j=>.int (i+j)) (.d (.int i)) (.d (.int j)) n Q:=k
theorem yw{δ:Sl}{n:Int}{i:Nat}{a:Ah}{r:List Ah}{h:Str}(e:δ[i]?=ae (ae (.w (.d (.tuple (a::r)))))):∀Q:Bool->Int->Prop,Q (cz h a) n->cT (w2 (w2 (ak i) (wC (.int 0)) aY) (wC (.str h)) bK) δ n Q:=λQ q=>br (k:=cz h a) (λQ q=>BH e q) q
def Ac.hd:Ac->Str
 |.lay _ _=>"lay"
 |.take _=>"take"
 |.read _=>"read"
 |.look _ _=>"look"
 |.same _ _ _=>"same"
 |.go _=>"go"
def Ac.tl:Ac->List Ah
 |.lay fs age=>[gj fs,age]
 |.take fs=>[gj fs]
 |.read fs=>[gj fs]
 |.look fs b=>[gj fs,.int b]
 |.same f g b=>[f.d,g.d,.int b]
 |.go b=>[.int b]
theorem kQ(a:Ac):a.d=.tuple (.str a.hd::a.tl):=by cases a<;>rfl
def Ac.isSame:Ac->Bool
 |.same _ _ _=>ah
 |_=>ai
def Ac.isGo:Ac->Bool
 |.go _=>ah
 |_=>ai
theorem Mu(a:Ac):cz "same" (.str a.hd)=a.isSame:=by
 cases a with
 |lay _ _=>exact(show cz "same" (.str "lay")=ai by decide +kernel)
 |take _=>exact(show cz "same" (.str "take")=ai by decide +kernel)
 |read _=>exact(show cz "same" (.str "read")=ai by decide +kernel)
 |look _ _=>exact(show cz "same" (.str "look")=ai by decide +kernel)
 |same _ _ _=>exact(show cz "same" (.str "same")=ah by decide +kernel)
 |go _=>exact(show cz "same" (.str "go")=ai by decide +kernel)
theorem Ol(a:Ac):cz "go" (.str a.hd)=a.isGo:=by
 cases a with
 |lay _ _=>exact(show cz "go" (.str "lay")=ai by decide +kernel)
 |take _=>exact(show cz "go" (.str "take")=ai by decide +kernel)
 |read _=>exact(show cz "go" (.str "read")=ai by decide +kernel)
 |look _ _=>exact(show cz "go" (.str "look")=ai by decide +kernel)
 |same _ _ _=>exact(show cz "go" (.str "same")=ai by decide +kernel)
 |go _=>exact(show cz "go" (.str "go")=ah by decide +kernel)
theorem Td(a:Ac):bZ (.str a.hd) [.str "look",.str "same",.str "go"]=a.to.isSome:=by
 cases a with
 |lay _ _=>exact(show bZ (.str "lay") [.str "look",.str "same",.str "go"]=ai by decide +kernel)
 |take _=>exact(show bZ (.str "take") [.str "look",.str "same",.str "go"]=ai by decide +kernel)
 |read _=>exact(show bZ (.str "read") [.str "look",.str "same",.str "go"]=ai by decide +kernel)
 |look _ _=>exact(show bZ (.str "look") [.str "look",.str "same",.str "go"]=ah by decide +kernel)
 |same _ _ _=>exact(show bZ (.str "same") [.str "look",.str "same",.str "go"]=ah by decide +kernel)
 |go _=>exact(show bZ (.str "go") [.str "look",.str "same",.str "go"]=ah by decide +kernel)
theorem Uy:dF vN tN ["act"]:=λws n Q h=>by
 obtain⟨a,rfl,q⟩:=h;show tN [ae (.w (.d a.d))] n _;have hs:∀(b:Bool),a.isSame=b->∀Q:Bool->Int->Prop,Q b n->cT (w2 (w2 ↥0 (wC (.int 0)) aY) (wC (.str "same")) bK) [ae (.w (.d a.d))] n Q:=λb e Q q=>by
  rw[kQ];exact yw rfl Q (by rw[Mu,e];exact q)
 have hg:∀(b:Bool),a.isGo=b->∀Q:Bool->Int->Prop,Q b n->cT (w2 (w2 ↥0 (wC (.int 0)) aY) (wC (.str "go")) bK) [ae (.w (.d a.d))] n Q:=λb e Q q=>by
  rw[kQ];exact yw rfl Q (by rw[Ol,e];exact q)
 have other:a.isSame=ai->a.isGo=ai->(∀Q:DQ,Q (.d (gj a.fs)) n->w2 ↥0 ⇑1 aY [ae (.w (.d a.d))] n Q)->tN [ae (.w (.d a.d))] n {nx:=λ_ n=>Q (.d .none) n,rt:=Q}:=λh1 h2 h3=>by
  refine aR (bC (hs ai h1) ?_);dsimp only[a8];refine bJ (gP (hg ai h2) ?_);rw[if_neg Ak];exact h3 _ q
 cases a with
 |lay fs age=>exact other rfl rfl λQ q=>jQ rfl q
 |take fs=>exact other rfl rfl λQ q=>jQ rfl q
 |read fs=>exact other rfl rfl λQ q=>jQ rfl q
 |look fs b=>exact other rfl rfl λQ q=>jQ rfl q
 |same f g b=>
  refine aR (bN (hs ah rfl) (bJ ?_));unfold d8 de;exact aF rfl (bx (bx q))
 |go b=>
  refine aR (bC (hs ai rfl) ?_);dsimp only[a8];refine bJ (gP (hg ah rfl) ?_);rw[if_pos rfl];exact(show aq aj _ _ _ from By ∎ q)
theorem QJ(dn:List Fe)(f:Fe):bH (dn++[f])=bH dn++f.bd.toList:=by
 unfold bH;rw[List.filterMap_append];have:[f].filterMap Fe.bd=f.bd.toList:=by cases f<;>rfl
 rw[this]
theorem Ra(ks:List Str):∀(fs dn:List Fe),(bW ks dn fs).isNone=qF (ks++bH dn) fs
 |[],_=>rfl
 |f::r,dn=>by
  have ih:=Ra ks r (dn++[f]);rw[QJ,<-Cj]at ih;show(match f.us with|some k=>if k∈ks\/k∈bH dn then bW ks (dn++[f]) r else ae dn.length|none=>bW ks (dn++[f]) r).isNone=((match f.us with|some k=>decide (k∈ks++bH dn)|none=>ah)&&qF (ks++bH dn++f.bd.toList) r);cases f.us with
  |none=>exact ih
  |some k=>
   show(if k∈ks\/k∈bH dn then bW ks (dn++[f]) r else ae dn.length).isNone=(decide (k∈ks++bH dn)&&qF (ks++bH dn++f.bd.toList) r);by_cases h:k∈ks\/k∈bH dn
   ·rw[if_pos h,decide_eq_true (Bi.mpr h),C3];exact ih
   ·rw[if_neg h,decide_eq_false (λz=>h (Bi.mp z))];rfl
theorem Uz:dF vH AZ ["fields","known","k","field"]:=λws n Q h=>by
 obtain⟨fs,ks,rfl,ok,q⟩:=h;show AZ [ae (.w (.d (.tuple (fs.map Fe.d)))),ae (.w (.d (.tuple (ks.map .str)))),af,af] n _;refine aR ?_;unfold cq sX;refine aF rfl ⟨fs.map Fe.d,rfl,?_⟩;refine kf (λds δ m=>m=n/\∃(dn re:List Fe)(x y:Option SV),dn++re=fs/\ds=fY dn.length (re.map Fe.d)/\δ=[ae (.w (.d (.tuple (fs.map Fe.d)))),ae (.w (.d (.tuple (ks.map .str)))),x,y]/\Q (.d (ia (bW ks dn re))) n) (λδ m I=>?_) (λd r δ m N I kN=>?_) _ _ _ ⟨rfl,[],fs,af,af,rfl,rfl,rfl,q⟩
 ·obtain⟨rfl,dn,re,x,y,e1,e2,rfl,kq⟩:=I;have:re=[]:=by
   cases re with
   |nil=>rfl
   |cons f re=>rw[Aq,GZ]at e2;cases e2
  subst this;exact(show Q (.d .none) m from kq)
 ·obtain⟨rfl,dn,re,x,y,e1,e2,rfl,kq⟩:=I;cases re with
  |nil=>cases e2
  |cons f re=>
   rw[Aq,GZ]at e2;obtain⟨rfl,rfl⟩:=Fd e2;have nxt:∀x y,Q (.d (ia (bW ks (dn++[f]) re))) m->N [ae (.w (.d (.tuple (fs.map Fe.d)))),ae (.w (.d (.tuple (ks.map .str)))),x,y] m:=λx y h=>kN _ _ ⟨rfl,dn++[f],re,x,y,by rw[Cj];exact e1,by rw[A0,B5];rfl,rfl,h⟩;refine⟨rfl,?_⟩;dsimp only[cQ,du,bg,Bh];have h0:∀(b:Bool),f.us.isSome=b->∀Q:Bool->Int->Prop,Q b m->cT (w2 (w2 ↥3 ⇑0 aY) (aq (ao (wC (.str "as")) (ao (wC (.str "next")) aj))) (gu ai)) [ae (.w (.d (.tuple (fs.map Fe.d)))),ae (.w (.d (.tuple (ks.map .str)))),ae (.w (.d (.int dn.length))),ae (.w (.d f.d))] m Q:=λb e Q q=>br (k:=b) (λQ q=>aL (mh (a:=.str f.hd) (r:=f.tl) rfl (km (bx (bx (By (show 2<=1000 by decide) ⟨rfl,rfl,by rw[if_neg Ak,OA,e];exact q⟩)))))) q;cases hu:f.us with
   |none=>
    have kq:Q (.d (ia (match f.us with|some k=>if k∈ks\/k∈bH dn then bW ks (dn++[f]) re else ae dn.length|none=>bW ks (dn++[f]) re))) m:=kq;rw[hu]at kq;exact bC (λQ q=>hU (a:=ai) (b:=ah) (h0 ai (by rw[hu];rfl)) (λz=>nomatch z) q) (nxt _ _ kq)
   |some k=>
    have kq:Q (.d (ia (match f.us with|some k=>if k∈ks\/k∈bH dn then bW ks (dn++[f]) re else ae dn.length|none=>bW ks (dn++[f]) re))) m:=kq;rw[hu]at kq;have kq:Q (.d (ia (if k∈ks\/k∈bH dn then bW ks (dn++[f]) re else ae dn.length))) m:=kq;have h0':=h0 ah (by rw[hu];rfl);have ef:=Ma hu;have h1:∀Q:Bool->Int->Prop,Q (!decide (k∈ks)) m->cT (w2 (w2 ↥3 ⇑1 aY) ↥1 (gu ah)) [ae (.w (.d (.tuple (fs.map Fe.d)))),ae (.w (.d (.tuple (ks.map .str)))),ae (.w (.d (.int dn.length))),ae (.w (.d f.d))] m Q:=λQ q=>by
     rw[ef];exact br (k:=!decide (k∈ks)) (λQ q=>aL (jQ rfl (aF rfl ⟨rfl,uy ks,by rw[if_pos rfl,mV];exact q⟩))) q
    have okd:fq dn:=⟨by have:=ok.1;rw[<-e1,A0]at this;omega,λg hg=>ok.2 g (by rw[<-e1];exact Cg _ hg)⟩;have h2:∀Q:Bool->Int->Prop,Q (!decide (k∈bH dn)) m->cT (w2 (w2 ↥3 ⇑1 aY) (aT kO (ao (d8 ↥0 d4 (de ↥2)) aj)) (gu ah)) [ae (.w (.d (.tuple (fs.map Fe.d)))),ae (.w (.d (.tuple (ks.map .str)))),ae (.w (.d (.int dn.length))),ae (.w (.d f.d))] m Q:=λQ q=>by
     rw[ef];refine br (k:=!decide (k∈bH dn)) (λQ q=>aL (jQ rfl (bO ?_))) q;unfold d8 d4 de;refine aF rfl (aF rfl ?_);refine⟨dn,?_,okd,λys hl hy=>⟨rfl,uy ys,?_⟩⟩
     ·rw[zm _ (by rw[Ap,<-e1,A0];omega),<-List.map_take,<-e1,List.take_left];rfl
     ·rw[if_pos rfl,mV,decide_eq_decide.mpr (hy k)];exact q
    by_cases a1:k∈ks
    ·rw[if_pos (F1 a1)]at kq;exact bC (λQ q=>hU (a:=ah) (b:=ai) h0' (λ_ Q q=>hU (a:=ai) (b:=ah) (λQ q=>h1 Q (by rw[decide_eq_true a1];exact q)) (λz=>nomatch z) q) q) (nxt _ _ kq)
    ·by_cases a2:k∈bH dn
     ·rw[if_pos (Eh a2)]at kq;exact bC (λQ q=>hU (a:=ah) (b:=ai) h0' (λ_ Q q=>hU (a:=ah) (b:=ai) (λQ q=>h1 Q (by rw[decide_eq_false a1];exact q)) (λ_ Q q=>h2 Q (by rw[decide_eq_true a2];exact q)) q) q) (nxt _ _ kq)
     ·rw[if_neg (λz=>z.elim a1 a2)]at kq;exact bN (λQ q=>hU (a:=ah) (b:=ah) h0' (λ_ Q q=>hU (a:=ah) (b:=ah) (λQ q=>h1 Q (by rw[decide_eq_false a1];exact q)) (λ_ Q q=>h2 Q (by rw[decide_eq_false a2];exact q)) q) q) (bJ (aF rfl kq))
theorem rm(m:Nat):dC 0 m=(Cs m).map λi=>PyData.int (i:Nat):=by
 unfold dC;exact List.map_congr_left λi _=>by rw[Int.zero_add]
theorem DJ{α:Type}{w:DT}{Q:List Ah->Int->Prop}{rest:Sl}(f g:α->Ah):∀(xs:List α)(acc:List Ah)(x:Option SV)(n:Int),(∀a∈xs,∀(n:Int)(Q':DQ),Q' (.d (g a)) n->w (ae (.w (.d (f a)))::rest) n Q')->Q (acc++xs.map g) n->c8 (bg 0) aX w Q (xs.map f) acc (x::rest) n
 |[],acc,x,n,_,q=>by rw[A7,Cc]at q;exact q
 |a::r,acc,x,n,h,q=>by
  simp only[Aq,c8,bg,aX,if_true,Bw];refine h a Am n _ (DJ f g r (acc++[g a]) _ n (λb hb=>h b (Al _ hb)) ?_);rw[Cj];exact q
theorem GC{α:Type}(g:α->Bool):∀l:List α,eU (l.map λf=>.bool (g f))=ae (l.map g)
 |[]=>rfl
 |f::l=>by
  rw[Aq,Aq,eU,GC g l];rfl
theorem J0{α:Type}{δ:Sl}{n:Int}{Q:DQ}{rest:Sl}{w:DT}{F:gv}(f:α->Ah)(g:α->Bool)(xs:List α)(hF:∀Q:List Ah->Int->Prop,c8 (bg 0) aX w Q (xs.map f) [] (af::rest) n->F δ n Q)(h:∀a∈xs,∀(n:Int) (Q':DQ),Q' (.d (.bool (g a))) n->w (ae (.w (.d (f a)))::rest) n Q')(q:Q (.d (.bool (xs.all g))) n):wB bF (ao (aJ F) aj) δ n Q:=by
 refine bU (fu (hF _ (DJ f (λa=>.bool (g a)) xs [] af n h ?_)));rw[Fo];show(match eU (xs.map λc=>.bool (g c))with|some bs=>Q (.d (.bool (bs.all id))) n|none=>False);rw[GC];show Q (.d (.bool ((xs.map g).all id))) n;rw[List.all_map];exact q
theorem Qh:dF pK yU ["program","block","known"]:=λws n Q h=>by
 obtain⟨P,b,ks,rfl,q⟩:=h;show yU [ae (.w (.d (.tuple (P.map di)))),ae (.w (.d (.int b))),ae (.w (.d (.tuple (ks.map .str))))] n _;have q:Q (.d (.bool (match P[b]? with|some bl=>bl.1.all λk=>decide (k∈ks)|none=>ai))) n:=q;refine bJ ?_;have h1:∀(c:Bool),decide (b < P.length)=c->∀Q:DQ,Q (.d (.bool c)) n->w2 ↥1 (wB aU (ao ↥0 aj)) gM [ae (.w (.d (.tuple (P.map di)))),ae (.w (.d (.int b))),ae (.w (.d (.tuple (ks.map .str))))] n Q:=λc e Q q=>by
  refine aL (aF rfl (lL rfl ?_));show Q (.d (.bool (decide ((b:Int) < ((P.map di).length:Int))))) n;rw[Ap,show decide ((b:Int) < (P.length:Int))=decide (b < P.length)from decide_eq_decide.mpr ⋯,e];exact q
 by_cases hb:b < P.length
 ·rw[As hb]at q;have q:Q (.d (.bool (P[b].1.all λk=>decide (k∈ks)))) n:=q;refine fB (a:=ah) (h1 ah (decide_eq_true hb)) (λ_ Q q=>?_) q;have hP:(P.map di)[b]?=ae (di P[b]):=by rw[Be,As hb];rfl
  refine J0 C7 (λk=>decide (k∈ks)) P[b].1 (rest:=[ae (.w (.d (.tuple (ks.map .str))))]) (λQ q=>rV (ds:=P[b].1.map .str) (λQ q=>aL (aL (aF rfl (aF rfl (f9 hP (bx (lg q))))))) q) (λk _ n Q' q=>aL (aF rfl (aF rfl ⟨rfl,uy ks,?_⟩))) q;rw[if_neg Ak,mV];exact q
 ·rw[Fu ⋯]at q;exact fB (a:=ai) (b:=ah) (h1 ai (decide_eq_false hb)) (λz=>nomatch z) q
theorem M3{a:Ac}{b:Nat}(h:a.to=ae b){δ:Sl}{n:Int}{Q:DQ}{i:Nat}(e:δ[i]?=ae (ae (.w (.d a.d))))(k:Q (.d (.int b)) n):w2 (ak i) (eF ⇑1) aY δ n Q:=by
 cases a with
 |look fs c=>cases h;exact aL (aF e k)
 |same f g c=>cases h;exact aL (aF e k)
 |go c=>cases h;exact aL (aF e k)
 |_=>cases h
theorem xK{ys ks:List Str}(h:∀k,k∈ys↔k∈ks):∀(fs dn:List Fe),bW ys dn fs=bW ks dn fs
 |[],_=>rfl
 |f::r,dn=>by
  have ih:=xK h r (dn++[f]);show(match f.us with|some k=>if k∈ys\/k∈bH dn then bW ys (dn++[f]) r else ae dn.length|none=>bW ys (dn++[f]) r)=(match f.us with|some k=>if k∈ks\/k∈bH dn then bW ks (dn++[f]) r else ae dn.length|none=>bW ks (dn++[f]) r);rw[ih];cases f.us with
  |none=>rfl
  |some k=>
   dsimp only;by_cases e:k∈ys\/k∈bH dn
   ·rw[if_pos e,if_pos (by rwa [h k]at e)]
   ·rw[if_neg e,if_neg (by rwa [h k]at e)]
theorem JM{P:List Bl}{ys ks:List Str}{a:Ac}(h:∀k,k∈ys↔k∈ks):ig P ys a=ig P ks a:=by
 unfold ig;rw[xK h,LA P a.to h]
theorem Mi:dF pG EN ["program","block","place","act","known","fields","unknown"]:=λws n Q h=>by
 obtain⟨P,i,p,b,a,rfl,hi,wf,hp,q⟩:=h;show EN [ae (.w (.d (.tuple (P.map di)))),ae (.w (.d (.int i))),ae (.w (.d (.int p))),af,af,af,af] n _;have hi':(P.map di)[i]?=ae (di b):=by rw[Be,hi];rfl
 have hp':(b.2.map Ac.d)[p]?=ae a.d:=by rw[Be,hp];rfl
 have hpl:p < b.2.length:=(Bs.mp hp).1;have oka:j7 a:=wf.2.2.2 a (Et hp);refine aR (eP (x:=a.d) (λQ q=>aL (aL (aL (aF rfl (aF rfl (f9 hi' (bx (ix (aF rfl (f9 hp' q))))))))) ) ?_);dsimp only[Bh];refine aR (show bb 4 _ _ _ _ from jY (aF rfl (aF rfl (aF rfl ⟨P,i,p,b,rfl,hi,wf,by omega,λys hl hy=>?_⟩))));dsimp only[Bh];refine aR (show bb 5 _ _ _ _ from bO (aF rfl ⟨a,rfl,?_⟩));dsimp only[Bh];refine aR (show bb 6 _ _ _ _ from fO (aF rfl (aF rfl ⟨a.fs,ys,rfl,oka.1,?_⟩)));dsimp only[Bh];rw[<-JM hy]at q;unfold ig at q;cases hu:bW ys [] a.fs with
 |some u=>
  rw[hu]at q;refine aR (bN (λQ q=>br (k:=ah) (λQ q=>aL (aF rfl (bx q))) q) (bJ (aL (bx (aF rfl (ff ?_))))));have e:((1+u:Nat):Int)=1+(u:Int):=by omega
  have q':Q (.d (.int ((1+u:Nat):Int))) n:=q;rw[e]at q';exact q'
 |none=>
  rw[hu]at q;refine aR (bC (λQ q=>br (k:=ai) (λQ q=>aL (aF rfl (bx q))) q) ?_);dsimp only[a8];have hd:∀(c:Bool),a.to.isSome=c->∀Q:Bool->Int->Prop,Q c n->cT (dA Zd (w2 ↥3 ⇑0 aY)) [ae (.w (.d (.tuple (P.map di)))),ae (.w (.d (.int i))),ae (.w (.d (.int p))),ae (.w (.d a.d)),ae (.w (.d (kW ys))),ae (.w (.d (gj a.fs))),ae (.w (.d .none))] n Q:=λc e Q q=>by
   rw[kQ];exact j8 (s:=a.hd) (λQ q=>mh rfl q) ((Td a).trans e) q
  cases ht:a.to with
  |none=>
   rw[ht]at q;refine aR (bC (λQ q=>hU (a:=ai) (b:=ah) (hd ai (by rw[ht];rfl)) (λz=>nomatch z) q) ?_);dsimp only[a8];exact bJ (bx q)
  |some t=>
   rw[ht]at q;have cl:∀(c:Bool),iX P ys (ae t)=c->∀Q:Bool->Int->Prop,Q c n->cT (aT pK (ao ↥0 (ao (w2 ↥3 (eF ⇑1) aY) (ao ↥4 aj)))) [ae (.w (.d (.tuple (P.map di)))),ae (.w (.d (.int i))),ae (.w (.d (.int p))),ae (.w (.d a.d)),ae (.w (.d (kW ys))),ae (.w (.d (gj a.fs))),ae (.w (.d .none))] n Q:=λc e Q q=>
    br (k:=c) (λQ q=>jY (aF rfl (M3 ht rfl (aF rfl ⟨P,t,ys,rfl,by rw[e];exact q⟩)))) q
   cases hb:iX P ys (ae t)with
   |true=>
    rw[hb]at q;refine aR (bC (λQ q=>hU (a:=ah) (b:=ai) (hd ah (by rw[ht];rfl)) (λ_ Q q=>kH (k:=ah) (cl ah hb) q) q) ?_);dsimp only[a8];exact bJ (bx q)
   |false=>
    rw[hb]at q;refine aR (bN (λQ q=>hU (a:=ah) (b:=ah) (hd ah (by rw[ht];rfl)) (λ_ Q q=>kH (k:=ai) (cl ai hb) q) q) (bJ (aL (bx (lL rfl (ff ?_))))));have e:((1+a.fs.length:Nat):Int)=1+((a.fs.map Fe.d).length:Int):=by rw[Ap];omega
    have q':Q (.d (.int ((1+a.fs.length:Nat):Int))) n:=q;rw[e]at q';exact q'
theorem JA:∀ws n Q E,qT ws n Q E->ws.length=3:=λws n Q E h=>by obtain⟨_,_,_,_,rfl,_⟩:=h;rfl
theorem Qb:∀ws n Q E,jx ws n Q E->ws.length=1:=λws n Q E h=>by obtain⟨_,_,rfl,_⟩:=h;rfl
theorem zH{a b n:Int}{Q:DQ}(k:Q (.d (.bool (decide (a=b)))) n):bK (.d (.int a)) (.d (.int b)) n Q:=k
theorem Ho{δ:Sl}{n:Int}{Q:DQ}(k:Q (.d (.tuple [])) n):aq aj δ n Q:=By (Bx _) k
theorem zD(m:Nat):dC 0 m=(List.range' 0 m).map λi=>PyData.int (i:Nat):=by rw[rm,List.range_eq_range']
theorem JN:∀ws n Q E,qT ws n Q E->yH (λi j _ n=>E i j n) (dj ["program","block","line","place","word"] ws) n {nx:=λ_ n=>Q (.d .none) n,rt:=Q}:=λws n Q E h=>by
 obtain⟨P,i,⟨w,as⟩,L,rfl,hi,wf,q⟩:=h;have hi':(P.map di)[i]?=ae (di (w,as)):=by rw[Be,hi];rfl
 have hl8:as.length<=8:=wf.2.2.1;show yH (λi j _ n=>E i j n) [ae (.w (.d (.tuple (P.map di)))),ae (.w (.d (.int (i:Nat)))),ae (.w (.d (.int (L:Nat)))),af,af] n _;have c1:∀Q:Bool->Int->Prop,Q (decide ((i:Int)=0)) n->cT (w2 ↥1 ⇑0 bK) [ae (.w (.d (.tuple (P.map di)))),ae (.w (.d (.int (i:Nat)))),ae (.w (.d (.int (L:Nat)))),af,af] n Q:=λQ q=>br (λQ q=>aL (aF rfl (bx (zH q)))) q;have c2:∀Q:Bool->Int->Prop,Q (!(w.map C7).isEmpty) n->cT (w2 (w2 (w2 ↥0 ↥1 aY) ⇑0 aY) (aq aj) (qH ah)) [ae (.w (.d (.tuple (P.map di)))),ae (.w (.d (.int (i:Nat)))),ae (.w (.d (.int (L:Nat)))),af,af] n Q:=λQ q=>br (λQ q=>aL (aL (aL (aF rfl (aF rfl (f9 hi' (bx (lg (Ho q)))))))) ) q;unfold lW at q;have rest:(∀(h:¬(i=0/\w≠[])),True)->¬(i=0/\w≠[])->cq (jB (wB aU (ao (w2 (w2 ↥0 ↥1 aY) ⇑1 aY) aj))) (bg 3) (aw (bb 4 (aT pG (ao ↥0 (ao ↥1 (ao ↥3 aj))))) (bB (cT (w2 ↥4 (wC .none) (bL ah))) (i9 (w2 (w2 ↥2 ⇑1 (e9 λi j=>.int (i+j))) ↥3 (e9 λi j=>.int (i+j))) ↥4 (λi j _ n=>E i j n)) a8))
   [ae (.w (.d (.tuple (P.map di)))),ae (.w (.d (.int (i:Nat)))),ae (.w (.d (.int (L:Nat)))),af,af] n {nx:=λ_ n=>Q (.d .none) n,rt:=Q}:=λ_ h0=>by
  rw[if_neg h0]at q;unfold cq jB;refine bU (aL (aL (aF rfl (aF rfl (f9 hi' (bx (ix ?_)))))));refine By ⟨by rw[Ap];omega,by rw[Ap];show(as.length:Int)<=1000000;omega⟩ ?_;rw[Ck,Ap,zD];refine kf (λds δ n'=>∃(p:Nat)(re:List Ac)(x3 x4:Option SV),ds=(List.range' p re.length).map (λi=>PyData.int (i:Nat))/\as.drop p=re/\n'=n/\δ=[ae (.w (.d (.tuple (P.map di)))),ae (.w (.d (.int (i:Nat)))),ae (.w (.d (.int (L:Nat)))),x3,x4]/\match (iH P w as p re).map λq=>(1+q.1,q.2)with
   |some (k,w)=>E ((L+k:Nat):Int) (w:Nat) n
   |none=>Q (.d .none) n) (λδ n' I=>?_) (λd r δ n' N I kN=>?_) _ _ _ ⟨0,as,af,af,rfl,rfl,rfl,rfl,q⟩
  ·obtain⟨p,re,x3,x4,e,hd,rfl,rfl,I⟩:=I;have e':re=[]:=by
    cases re with
    |nil=>rfl
    |cons a r=>simp[List.range']at e
   subst e';exact I
  ·obtain⟨p,re,x3,x4,e,hd,rfl,rfl,I⟩:=I;obtain⟨a,re,rfl⟩:∃a r',re=a::r':=by
    cases re with
    |nil=>simp at e
    |cons a r'=>exact⟨a,r',rfl⟩
   rw[Bd,List.range'_succ,Aq]at e;obtain⟨rfl,rfl⟩:=Fd e;have hp:as[p]?=ae a:=by
    have:=congrArg (λl:List Ac=>l[0]?) hd;simpa using this
   have hd':as.drop (p+1)=re:=by
    have:=congrArg List.tail hd;rw[List.tail_drop]at this;exact this
   dsimp only[bg,Bh];refine aR (show bb 4 _ _ _ _ from jY (aF rfl (aF rfl (aF rfl ⟨P,i,p,(w,as),a,rfl,hi,wf,hp,?_⟩))));dsimp only[Bh];unfold iH at I;cases hw:ig P (kn w as p) a with
   |none=>
    rw[hw]at I;refine bC (λQ q=>br (k:=ai) (λQ q=>aL (aF rfl (bx q))) q) ?_;exact kN _ _ ⟨p+1,re,_,_,rfl,hd',rfl,rfl,I⟩
   |some k=>
    rw[hw]at I;refine bN (λQ q=>br (k:=ah) (λQ q=>aL (aF rfl (bx q))) q) ?_;refine(show i9 _ _ _ _ _ _ from aL (aL (aF rfl (bx (ff (aF rfl (ff (aF rfl ?_))))))));refine⟨_,(k:Nat),rfl,rfl,?_⟩;have e2:(L:Int)+1+(p:Int)=((L+(1+p):Nat):Int):=by omega
    rw[e2];exact I
 by_cases h0:i=0/\w≠[]
 ·rw[if_pos h0]at q;refine aR (bN (λQ q=>hU (a:=ah) (b:=ah) (λQ q=>c1 Q (by rw[h0.1];exact q)) (λ_ Q q=>c2 Q (by
   cases w with
   |nil=>exact absurd rfl h0.2
   |cons a r=>exact q)) q) ?_)
  refine(show i9 _ _ _ _ _ _ from aF rfl (bx ⟨_,1,rfl,rfl,?_⟩));exact q
 ·refine aR (bC (λQ q=>hU (a:=decide ((i:Int)=0)) (b:=!(w.map C7).isEmpty) c1 (λ_=>c2) (by
   have:(decide ((i:Int)=0)&&!(w.map C7).isEmpty)=ai:=by
    rw[Bool.and_eq_false_iff];by_cases z:i=0
    ·right;have:w=[]:=Classical.byContradiction λhw=>h0 ⟨z,hw⟩;rw[this];rfl
    ·left;exact decide_eq_false ⋯
   rw[this];exact q)) ?_)
  dsimp only[a8];exact rest (λ_=>trivial) h0
theorem xJ{δ:Sl}{n:Int}{K:DEnds}{i:Nat}{a b:Int}{w:DT}(e:δ[i]?=ae (ae (.w (.d (.int a)))))(hw:∀Q:DQ,Q (.d (.int b)) n->w δ n Q)(k:K.nx (δ.set i (ae (.w (.d (.int (a+b)))))) n):oR i w δ n K:=⟨a,e,hw _ ⟨b,rfl,k⟩⟩
theorem Sg{δ:Sl}{n:Int}{K:DEnds}{S:gH}{Ed:eB}{w w' w'':DT}(k:w δ n λx n1=>w' δ n1 λy n2=>w'' δ n2 λz n3=>S [x,y,z] n3 (λ_ m=>K.nx δ m) λi j m=>Ed i j δ m):l9 S (ao w (ao w' (ao w'' aj))) Ed δ n K:=k
theorem IF:∀ws n Q E,jx ws n Q E->DU (λi j _ n=>E i j n) (dj ["plan","line","program","block"] ws) n {nx:=λ_ n=>Q (.d .none) n,rt:=Q}:=λws n Q E h=>by
 obtain⟨Ps,ns,rfl,wf,q⟩:=h;show DU (λi j _ n=>E i j n) [ae (.w (.d (.tuple [.tuple (Ps.map cg),.tuple ns]))),af,af,af] n _;refine aR (eP (x:=.int (ns.length:Nat)) (λQ q=>bU (jQ rfl q)) ?_);dsimp only[Bh];unfold cq cX;refine mh rfl ?_;refine kf (λds δ n'=>∃(re:List (List Bl))(L:Nat)(x2 x3:Option SV),ds=re.map cg/\(∀P∈re,P.length<=100/\∀b∈P,iq b)/\n'=n/\δ=[ae (.w (.d (.tuple [.tuple (Ps.map cg),.tuple ns]))),ae (.w (.d (.int (L:Nat)))),x2,x3]/\match fZ L re with
  |some (l,w)=>E (l:Nat) (w:Nat) n
  |none=>Q (.d .none) n) (λδ n' I=>?_) (λd r δ n' N I kN=>?_) _ _ _ ⟨Ps,ns.length,af,af,rfl,wf,rfl,rfl,q⟩
 ·obtain⟨re,L,x2,x3,e,_,rfl,rfl,I⟩:=I;cases List.map_eq_nil_iff.mp e.symm;exact I
 ·obtain⟨re,L,x2,x3,e,wf',rfl,rfl,I⟩:=I;obtain⟨P,re,rfl,rfl,rfl⟩:=List.map_eq_cons_iff.mp e.symm;have hP:=wf' P Am;dsimp only[bg,Bh];refine aR (xJ rfl (λQ q=>bx q) ?_);dsimp only[Bh];unfold fZ at I;unfold jB;refine bU (aF rfl ?_);show(-(2 ^ 62)<=((P.map di).length:Int)/\((P.map di).length:Int)<=1000000)/\_;refine By ⟨by rw[Ap];omega,by rw[Ap];omega⟩ ?_;rw[Ck,Ap,zD];refine kf (λds δ n1=>∃(i:Nat)(bs:List Bl)(M:Nat)(x3:Option SV),ds=(List.range' i bs.length).map (λi=>PyData.int (i:Nat))/\P.drop i=bs/\n1=n'/\δ=[ae (.w (.d (.tuple [.tuple (Ps.map cg),.tuple ns]))),ae (.w (.d (.int (M:Nat)))),ae (.w (.d (cg P))),x3]/\match (match l8 P M i bs with|.inl L'=>fZ L' re|.inr q=>ae q)with
   |some (l,w)=>E (l:Nat) (w:Nat) n'
   |none=>Q (.d .none) n') (λδ n1 I=>?_) (λd r δ n1 N2 I kN2=>?_) _ _ _ ⟨0,P,L+1,x3,rfl,rfl,rfl,by
    have:((L:Int)+1)=((L+1:Nat):Int):=by omega
    rw[this],I⟩
  ·obtain⟨i,bs,M,x3,e,hd,rfl,rfl,I⟩:=I;have e':bs=[]:=by
    cases bs with
    |nil=>rfl
    |cons a r=>simp[List.range']at e
   subst e';exact kN _ _ ⟨re,M,_,_,rfl,λP hP=>wf' P (Al _ hP),rfl,rfl,I⟩
  ·obtain⟨i,bs,M,x3,e,hd,rfl,rfl,I⟩:=I;obtain⟨b,bs,rfl⟩:∃a r',bs=a::r':=by
    cases bs with
    |nil=>simp at e
    |cons a r'=>exact⟨a,r',rfl⟩
   rw[Bd,List.range'_succ,Aq]at e;obtain⟨rfl,rfl⟩:=Fd e;have hp:P[i]?=ae b:=by
    have:=congrArg (λl:List Bl=>l[0]?) hd;simpa using this
   have hd':P.drop (i+1)=bs:=by
    have:=congrArg List.tail hd;rw[List.tail_drop]at this;exact this
   have hi':(P.map di)[i]?=ae (di b):=by rw[Be,hp];rfl
   dsimp only[bg,Bh];unfold l8 at I;refine aR (Sg (aF rfl (aF rfl (aF rfl ⟨P,i,b,M,rfl,hp,hP.2 b (Et hp),?_⟩))));cases hr:lW P i b with
   |some kw=>
    rw[hr]at I;exact I
   |none=>
    rw[hr]at I;dsimp only at I ⊢;refine xJ (b:=((1+b.2.length:Nat):Int)) rfl (λQ q=>aL (bx (bU (aL (aL (aF rfl (aF rfl (f9 hi' (bx (ix (ff ?_)))))))))) ) ?_
    ·have e2:((1+b.2.length:Nat):Int)=1+(((b.2.map Ac.d).length:Nat):Int):=by rw[Ap];omega
     rw[e2]at q;exact q
    ·dsimp only[Bh];rw[<-Int.natCast_add];exact kN2 _ _ ⟨i+1,bs,M+(1+b.2.length),_,rfl,hd',rfl,rfl,I⟩
theorem EB(a b:Nat):([a] < [b])↔a < b:=by
 constructor
 ·intro h;cases h with
  |rel h=>exact h
  |cons h=>cases h
 ·exact λh=>.rel h
theorem fig_iff{c:Nat}:bX c=ah↔48<=c/\c<=57:=by
 unfold bX;have e1:("0":Str).cps.toList=[48]:=by decide +kernel
 have e2:("9":Str).cps.toList=[57]:=by decide +kernel
 rw[e1,e2,Cy,Bool.not_eq_true',Bool.not_eq_true',decide_eq_false_iff_not,decide_eq_false_iff_not,EB,EB];omega
def lH:Ah->Bool
 |.str y=>!decide (y.cps.toList < ("0":Str).cps.toList)&&!decide (("9":Str).cps.toList < y.cps.toList)
 |_=>ai
theorem QR(x:Str):(gw x).all lH=x.cps.toList.all bX:=by
 unfold gw;rw[List.all_map];rfl
theorem Pg{δ:Sl}{n:Int}{Q:DQ}{i:Nat}{a b c:Str}(e:δ[i]?=ae (ae (.w (.d (.str b)))))(k:Q (.d (.bool (!decide (b.cps.toList < a.cps.toList)&&!decide (c.cps.toList < b.cps.toList)))) n):df d9 d9 (wC (.str a)) (ak i) (wC (.str c)) δ n Q:=by
 refine(show wC (.str a) δ n λx n1=>ak i δ n1 λy n2=>d9 x y n2 λz n3=>iy z (wC (.str c) δ n3 λu n4=>d9 y u n4 Q) (Q (.d (.bool ai)) n3)from bx (aF e ?_));show iy (.d (.bool (!decide (b.cps.toList < a.cps.toList)))) _ _;cases h:!decide (b.cps.toList < a.cps.toList)with
 |true=>rw[h,C3]at k;exact k
 |false=>rw[h,E6]at k;exact k
theorem QK{Q:DQ}{n:Int}(x:Str)(h:Q (.d (.bool (x.cps.toList.all bX))) n):c8 (bg 0) aX (df d9 d9 (wC (.str "0")) ↥0 (wC (.str "9")))
  (λds n1=>match eU ds with|some bs=>Q (.d (.bool (bs.all id))) n1|none=>False) (gw x) [] [af] n:=by
 refine mB kZ (λd=>.bool (lH d)) ?_ _ _ _ _ (CH x) ?_
 ·rintro d n Q' ⟨c,rfl⟩ k
  exact Pg rfl k
 ·show match eU ((gw x).map λd=>.bool (lH d))with|some bs=>Q (.d (.bool (bs.all id))) n|none=>False
  simp only[kI,nF,QR];exact h
theorem str_nil{x:Str}:x=""↔x.cps.toList=[]:=by
 obtain⟨⟨l⟩⟩:=x
 constructor
 ·intro h;rw[h];rfl
 ·intro h;have h:l=[]:=h;subst h;rfl
theorem Ie:dF pM y8 ["text"]:=λws n Q h=>by
 obtain⟨x,rfl,q⟩:=h;show y8 [ae (.w (.d (.str x)))] n _;refine bJ (fB (a:=!x.cps.toList.isEmpty) (b:=x.cps.toList.all bX) (λQ q=>aL (aF rfl (bx ?_))) (λ_ Q q=>bU (fu ?_)) q)
 ·show(match nO (.str x) (.str "")with|some r=>Q (.d (.bool r)) n|none=>False);have e:nO (.str x) (.str "")=ae (!x.cps.toList.isEmpty):=by
   show ae (!decide (x=""))=_
   congr 2
   cases h:x.cps.toList with
   |nil=>exact decide_eq_true (str_nil.mpr h)
   |cons a r=>exact decide_eq_false λz=>by rw[str_nil.mp z]at h;cases h
  rw[e];exact q
 ·unfold cv eS;refine aF rfl ?_;exact QK x q
theorem tL:∀c,c < 10->intText? ⟨#[48+c]⟩=ae (c:Int)/\B7 (Fh (c:Int))=⟨#[48+c]⟩:=by decide +kernel
theorem vU:∀c,c < 10->∀d,d < 10->intText? ⟨#[48+c,48+d]⟩=ae ((10*c+d:Nat):Int)/\decide (B7 (Fh ((10*c+d:Nat):Int))=⟨#[48+c,48+d]⟩)=decide (48+c≠48):=by decide +kernel
theorem zz{m:Nat}(h:m<=99):((m:Int).natAbs.log2 < 1920/\(B7 (Fh (m:Int))).length<=1000):=by
 have:∀m:Nat,m < 100->((m:Int).natAbs.log2 < 1920/\(B7 (Fh (m:Int))).length<=1000):=by decide +kernel
 exact this m ⋯
theorem Np:dF mN qI ["text","number"]:=λws n Q h=>by
 obtain⟨x,rfl,q⟩:=h;show qI [ae (.w (.d (.str x))),af] n _;have e99:(B7 (Fh (99:Int))).length=2:=by decide +kernel
 have c1:∀Q:Bool->Int->Prop,Q (decide (2 < x.length)) n->cT (w2 (wB aU (ao ↥0 aj)) (wB aU (ao (wB bM (ao ⇑99 aj)) aj)) ql) [ae (.w (.d (.str x))),af] n Q:=λQ q=>br (k:=decide (2 < x.length)) (λQ q=>aL (bU (aF rfl (show aU [.d (.str x)] n _ from bU (bU (bx (show bM [.d (.int 99)] n _ from By (zz (m:=99) (Av _)) ?_))))))) q
 rotate_left
 ·show Q (.d (.bool (decide (((B7 (Fh (99:Int))).length:Int) < (x.length:Int))))) n;rw[e99];have:decide (((2:Nat):Int) < (x.length:Int))=decide (2 < x.length):=by
   by_cases h:2 < x.length
   ·rw[decide_eq_true h,decide_eq_true ⋯]
   ·rw[decide_eq_false h,decide_eq_false ⋯]
  rw[this];exact q
 have c2:∀Q:Bool->Int->Prop,Q (!gE x) n->bV (cT (aT pM (ao ↥0 aj))) [ae (.w (.d (.str x))),af] n Q:=λQ q=>kH (k:=gE x) (λQ q=>br (λQ q=>bO (aF rfl ⟨x,rfl,q⟩)) q) q;obtain⟨⟨l⟩⟩:=x;have out:fb l=af->(decide (2 < (⟨⟨l⟩⟩:Str).length) || !gE ⟨⟨l⟩⟩)=ah->qI [ae (.w (.d (.str ⟨⟨l⟩⟩))),af] n {nx:=λ_ n=>Q (.d .none) n,rt:=Q}:=λh1 h2=>by
  refine aR (bN (λQ q=>gK (a:=decide (2 < (⟨⟨l⟩⟩:Str).length)) (b:=!gE ⟨⟨l⟩⟩) c1 (λ_=>c2) (by rw[h2];exact q)) (bJ (bx ?_)));have q':Q (.d (jP (fb l))) n:=q;rw[h1]at q';exact q'
 have inn:∀(m:Nat)(b:Bool),(decide (2 < (⟨⟨l⟩⟩:Str).length) || !gE ⟨⟨l⟩⟩)=ai->intText? ⟨⟨l⟩⟩=ae (m:Int)->m<=99->l.length<=2->decide (B7 (Fh (m:Int))=⟨⟨l⟩⟩)=b->fb l=(if b=ah then ae m else af)->qI [ae (.w (.d (.str ⟨⟨l⟩⟩))),af] n {nx:=λ_ n=>Q (.d .none) n,rt:=Q}:=λm b h2 h3 hm hl h4 h5=>by
  refine aR (bC (λQ q=>gK (a:=decide (2 < (⟨⟨l⟩⟩:Str).length)) (b:=!gE ⟨⟨l⟩⟩) c1 (λ_=>c2) (by rw[h2];exact q)) ?_);dsimp only[a8];refine aR (eP (x:=.int (m:Int)) (λQ q=>bU (aF rfl ?_)) ?_)
  ·show(match intText? ⟨⟨l⟩⟩with|some m=>(⟨⟨l⟩⟩:Str).length<=640/\Q (.d (.int m)) n|none=>False);rw[h3];exact⟨An hl ∎,q⟩
  dsimp only[Bh];have q':Q (.d (jP (fb l))) n:=q;rw[h5]at q';refine bJ (gP (b:=b) (λQ q=>br (k:=b) (λQ q=>aL (bU (aF rfl (show bM [.d (.int m)] n _ from By (zz hm) (aF rfl ?_))))) q) ?_)
  ·show(match iY (.str (B7 (Fh (m:Int)))) (.str ⟨⟨l⟩⟩)with|some r=>Q (.d (.bool r)) n|none=>False);rw[show iY (.str (B7 (Fh (m:Int)))) (.str ⟨⟨l⟩⟩)=ae (decide (B7 (Fh (m:Int))=⟨⟨l⟩⟩))from rfl,h4];exact q
  ·cases b with
   |true=>rw[if_pos rfl];exact aF rfl q'
   |false=>rw[if_neg Ak];exact bx q'
 match l with
 |[]=>exact out rfl rfl
 |[c]=>
  by_cases h:bX c=ah
  ·have hc:=fig_iff.mp h;obtain⟨e1,e2⟩:=tL (c-48) ⋯;have hc':48+(c-48)=c:=by omega
   rw[hc']at e1 e2;refine inn (c-48) ah ?_ e1 ⋯ (show 1<=2 by decide) (by rw[e2];exact decide_eq_true rfl) ?_
   ·show(ai || !(ah&&(bX c&&ah)))=ai;rw[h];rfl
   ·show(if bX c=ah then ae (c-48)else af)=ae (c-48);rw[if_pos h]
  ·have h':=Fw.mpr h;refine out ?_ ?_
   ·show(if bX c=ah then ae (c-48)else af)=af;rw[if_neg h]
   ·show(ai || !(ah&&(bX c&&ah)))=ah;rw[h'];rfl
 |[c,d]=>
  by_cases h:(bX c&&bX d)=ah
  ·rw[Cy]at h;have hc:=fig_iff.mp h.1;have hd:=fig_iff.mp h.2;obtain⟨e1,e2⟩:=vU (c-48) ⋯ (d-48) ⋯;have hc':48+(c-48)=c:=by omega
   have hd':48+(d-48)=d:=by omega
   rw[hc',hd']at e1 e2;refine inn (10*(c-48)+(d-48)) (decide (c≠48)) ?_ e1 ⋯ (show 2<=2 by decide) e2 ?_
   ·show(ai || !(ah&&(bX c&&(bX d&&ah))))=ai;rw[h.1,h.2];rfl
   ·show(if (bX c&&bX d&&decide (c≠48))=ah then ae (10*(c-48)+(d-48))else af)=_;rw[h.1,h.2,C3,C3]
  ·have h':=Fw.mpr h;refine out ?_ ?_
   ·show(if (bX c&&bX d&&decide (c≠48))=ah then ae (10*(c-48)+(d-48))else af)=af;rw[h',E6];rfl
   ·show(ai || !(ah&&(bX c&&(bX d&&ah))))=ah;rw[Bool.and_true,h'];rfl
 |a::b::c::r=>
  refine out rfl ?_;have e:decide (2 < (⟨⟨a::b::c::r⟩⟩:Str).length)=ah:=decide_eq_true (show 2 < r.length+1+1+1 by omega);rw[e];rfl
theorem Sm:dF qP zy ["text"]:=λws n Q h=>by
 obtain⟨x,rfl,q⟩:=h;show zy [ae (.w (.d (.str x)))] n _;refine bJ (gP (b:=aQ 8 (.str x)) (λQ q=>br (λQ q=>bO (aF rfl q)) q) ?_);unfold cj at q;cases h:aQ 8 (.str x)with
 |true=>rw[if_pos h]at q;rw[if_pos rfl];exact aF rfl q
 |false=>rw[if_neg (by rw[h];decide)]at q;rw[if_neg Ak];exact bO (aF rfl ⟨x,rfl,q⟩)
theorem Nc(c:Nat)(z:Str):Txt.startswith z ⟨#[c]⟩=eR c z:=by
 unfold Txt.startswith eR;rw[StrLaws.subAt_eq];obtain⟨⟨l⟩⟩:=z;cases l with
 |nil=>rfl
 |cons a r=>
  show(decide (0+1<=r.length+1)&&_)=decide (a=c);rw[decide_eq_true ⋯,C3];show((List.drop 0 (a::r)).take 1==[c])=decide (a=c);by_cases h:a=c
  ·subst h;simp
  ·rw[decide_eq_false h];simp[h]
theorem TK(z:Str):Txt.slice z (ae 1) af=dZ z:=by
 obtain⟨⟨l⟩⟩:=z;cases l with
 |nil=>decide +kernel
 |cons a r=>
  have h:=StrLaws.sliceText_from (x:=⟨⟨a::r⟩⟩) (i:=1) ⟨by decide,by show(1:Int)<=((a::r).length:Int);rw[Bd];omega⟩;have e:Txt.slice ⟨⟨a::r⟩⟩ (ae 1) af=StrLaws.sliceText ⟨⟨a::r⟩⟩ (ae 1) af:=rfl;rw[e,h];unfold dZ;show(⟨((List.drop (1:Int).toNat (a::r)).take (((a::r).length:Int)-1).toNat).toArray⟩:Str)=⟨(List.drop 1 (a::r)).toArray⟩;have:(((a::r).length:Int)-1).toNat=r.length:=by rw[Bd];omega
  rw[this];show(⟨(List.take r.length r).toArray⟩:Str)=⟨r.toArray⟩;rw[Gx]
section
variable{δ:Sl}{n:Int}{Q:DQ}{i:Nat}{x:Str}
theorem pd(e:δ[i]?=ae (ae (.w (.d (.str x)))))(k:Q (.d (.str (dZ x))) n):gU (ak i) ⇑1 δ n Q:=by
 refine(show ak i δ n _ from aF e ?_);show Q (.d (.str (Txt.slice x (ae 1) af))) n;rw[TK];exact k
theorem nH{w:DT}{c:Nat}{z:Str}(e:δ[i]?=ae (ae (.w (.d (.str x)))))(hz:z=⟨#[c]⟩)(hw:∀Q:DQ,Q (.d (.str z)) n->w δ n Q)(k:Q (.d (.bool (eR c x))) n):jW (ak i) w δ n Q:=by
 subst hz;refine(show ak i δ n _ from aF e (hw _ ?_));show Q (.d (.bool (Txt.startswith x ⟨#[c]⟩))) n;rw[Nc];exact k
theorem Hl{D:List (Str×Str)}{w:DT}{s v:Str}(hw:∀Q:DQ,Q (.d (.str s)) n->w δ n Q)(e:Bm s D=ae v)(hl:v.length<=1000)(k:Q (.d (.str v)) n):d7 D w δ n Q:=hw _ (by
 show(match Bm s D with|some s=>s.length<=1000/\Q (.d (.str s)) n|none=>False);rw[e];exact⟨hl,k⟩)
theorem uF(e:δ[i]?=ae (ae (.w (.d (.str x)))))(k:Q (.d (.bool (aQ 4 (.str (dZ x))))) n):aT (bf (aQ 4)) (ao (gU (ak i) ⇑1) aj) δ n Q:=bO (pd e k)
theorem pz{w:DT}(k:w δ n λx n1=>match dm [x]with
  |some ds=>ds.length<=1000/\Q (.d (.tuple ds)) n1
  |none=>False):aq (ao w aj) δ n Q:=k
theorem DB{g:fo}{W:aW}{K:DEnds}(k:K.nx δ n):cZ g W K [] δ n:=k
theorem zP{ks:List Str}{g:fo}{W:aW}{K:DEnds}(k:cZ g W K (ks.map .str) δ n):cq (qK ks) g W δ n K:=k
theorem Tw{a b:Str}(k:Q (.d (.bool (decide (a=b)))) n):bK (.d (.str a)) (.d (.str b)) n Q:=k
theorem vT{d:Ah}{b:Bool}(k:Q (.d (.bool (eA d))) n):bL ai (.d d) (.d .none) n Q:=by cases d<;>exact k
end
theorem My:dF si sG ["text","head","value"]:=λws n Q h=>by
 obtain⟨x,rfl,q⟩:=h;show sG [ae (.w (.d (.str x))),af,af] n _
 have bare:∀(h s:Str)(rest:List Ah)(K:DEnds)(y:Option SV),Bm h ([("any","?"),("word","$"),("number","#")]:List (Str×Str))=ae s->s.length<=1000->h.length<=1000->(x=s->K.rt (.d (.tuple [.str h])) n)->(x≠s->cZ (bg 1) (bB (cT (w2 ↥0 (d7 [("any","?"),("word","$"),("number","#")] ↥1) bK)) (aC (aq (ao ↥1 aj))) a8) K rest [ae (.w (.d (.str x))),ae (.w (.d (.str h))),af] n)->
   cZ (bg 1) (bB (cT (w2 ↥0 (d7 [("any","?"),("word","$"),("number","#")] ↥1) bK)) (aC (aq (ao ↥1 aj))) a8) K (.str h::rest) [ae (.w (.d (.str x))),y,af] n:=λh s rest K y hs hl hh yes no=>by
  show bB (cT (w2 ↥0 (d7 [("any","?"),("word","$"),("number","#")] ↥1) bK)) (aC (aq (ao ↥1 aj))) a8 [ae (.w (.d (.str x))),ae (.w (.d (.str h))),af] n _;have c:∀Q:Bool->Int->Prop,Q (decide (x=s)) n->cT (w2 ↥0 (d7 [("any","?"),("word","$"),("number","#")] ↥1) bK) [ae (.w (.d (.str x))),ae (.w (.d (.str h))),af] n Q:=λQ q=>br (λQ q=>aL (aF rfl (Hl (λQ q=>aF rfl q) hs hl (Tw q)))) q;by_cases e:x=s
  ·exact bN (λQ q=>c Q (by rw[decide_eq_true e];exact q)) (bJ (pz (aF rfl (By (show 1<=1000 by decide) (yes e)))))
  ·exact bC (λQ q=>c Q (by rw[decide_eq_false e];exact q)) (no e)
 have name:∀(h s:Str)(cc:Nat)(rest:List Ah)(K:DEnds)(y:Option SV),Bm h ([("bind","?"),("as","="),("next","+")]:List (Str×Str))=ae s->s=⟨#[cc]⟩->h.length<=1000->((eR cc x&&aQ 4 (.str (dZ x)))=ah->K.rt (.d (.tuple [.str h,.str (dZ x)])) n)->((eR cc x&&aQ 4 (.str (dZ x)))=ai->cZ (bg 1) (bB (d3 (cT (jW ↥0 (d7 [("bind","?"),("as","="),("next","+")] ↥1))) (cT (aT (bf (aQ 4)) (ao (gU ↥0 ⇑1) aj)))) (aC (aq (ao ↥1 (ao (gU ↥0 ⇑1) aj)))) a8) K rest [ae (.w (.d (.str x))),ae (.w (.d (.str h))),af] n)->
   cZ (bg 1) (bB (d3 (cT (jW ↥0 (d7 [("bind","?"),("as","="),("next","+")] ↥1))) (cT (aT (bf (aQ 4)) (ao (gU ↥0 ⇑1) aj)))) (aC (aq (ao ↥1 (ao (gU ↥0 ⇑1) aj)))) a8) K (.str h::rest) [ae (.w (.d (.str x))),y,af] n:=λh s cc rest K y hs hc hh yes no=>by
  have hl:s.length<=1000:=by rw[hc];exact(show 1<=1000 by decide)
  show bB (d3 (cT (jW ↥0 (d7 [("bind","?"),("as","="),("next","+")] ↥1))) (cT (aT (bf (aQ 4)) (ao (gU ↥0 ⇑1) aj)))) (aC (aq (ao ↥1 (ao (gU ↥0 ⇑1) aj)))) a8 [ae (.w (.d (.str x))),ae (.w (.d (.str h))),af] n _;have c:∀Q:Bool->Int->Prop,Q (eR cc x&&aQ 4 (.str (dZ x))) n->d3 (cT (jW ↥0 (d7 [("bind","?"),("as","="),("next","+")] ↥1))) (cT (aT (bf (aQ 4)) (ao (gU ↥0 ⇑1) aj))) [ae (.w (.d (.str x))),ae (.w (.d (.str h))),af] n Q:=λQ q=>hU (a:=eR cc x) (b:=aQ 4 (.str (dZ x))) (λQ q=>br (λQ q=>nH rfl hc (λQ q=>Hl (λQ q=>aF rfl q) hs hl q) q) q) (λ_ Q q=>br (λQ q=>uF rfl q) q) q;cases e:eR cc x&&aQ 4 (.str (dZ x))with
  |true=>exact bN (λQ q=>c Q (by rw[e];exact q)) (bJ (km (aF rfl (pd rfl (By (show 2<=1000 by decide) (yes e))))))
  |false=>exact bC (λQ q=>c Q (by rw[e];exact q)) (no e)
 unfold eZ at q;unfold sG;refine aR (zP ?_);refine bare "any" "?" _ _ _ ∅ ∅ ∅ (λe=>by rw[if_pos e]at q;exact q) λn1=>?_;rw[if_neg n1]at q;refine bare "word" "$" _ _ _ ∅ ∅ ∅ (λe=>by rw[if_pos e]at q;exact q) λn2=>?_;rw[if_neg n2]at q;refine bare "number" "#" _ _ _ ∅ ∅ ∅ (λe=>by rw[if_pos e]at q;exact q) λn3=>?_;rw[if_neg n3]at q;refine DB (aR (zP ?_));refine name "bind" "?" 63 _ _ _ ∅ ∅ ∅ (λe=>by rw[if_pos e]at q;exact q) λn4=>?_;rw[if_neg (by rw[n4];decide)]at q;refine name "as" "=" 61 _ _ _ ∅ ∅ ∅ (λe=>by rw[if_pos e]at q;exact q) λn5=>?_;rw[if_neg (by rw[n5];decide)]at q;refine name "next" "+" 43 _ _ _ ∅ ∅ ∅ (λe=>by rw[if_pos e]at q;exact q) λn6=>?_;rw[if_neg (by rw[n6];decide)]at q;refine DB ?_;dsimp only;refine aR (eP (x:=cj x) (λQ q=>bO (aF rfl ⟨x,rfl,q⟩)) ?_);dsimp only[Bh];refine bJ (gP (b:=eA (cj x)) (λQ q=>br (λQ q=>aL (aF rfl (bx (vT (b:=ai) q)))) q) ?_);unfold vc at q;cases h:eA (cj x)with
 |true=>
  rw[if_pos h]at q;rw[if_pos rfl];exact bx q
 |false=>
  rw[if_neg (by rw[h];decide)]at q;rw[if_neg Ak];exact km (bx (aF rfl (By (show 2<=1000 by decide) q)))
theorem Rp:dF vF xX ["text","age"]:=λws n Q h=>by
 obtain⟨x,rfl,q⟩:=h;show xX [ae (.w (.d (.str x))),af] n _;unfold eW at q;have rest:∀(d:Ah),(Q (.d (if dg d=ah then d else .none)) n)->(aC (gT (cT (aT (bf dg) (ao ↥1 aj))) ↥1 (wC .none))) [ae (.w (.d (.str x))),ae (.w (.d d))] n {nx:=λ_ n=>Q (.d .none) n,rt:=Q}:=λd k=>by
  refine bJ (gP (b:=dg d) (λQ q=>br (λQ q=>bO (aF rfl q)) q) ?_);cases e:dg d with
  |true=>rw[if_pos e]at k;rw[if_pos rfl];exact aF rfl k
  |false=>rw[if_neg (by rw[e];decide)]at k;rw[if_neg Ak];exact bx k
 cases e:eR 64 x with
 |true=>
  rw[if_pos e]at q;exact aR (eP (x:=dY (dZ x)) (λQ q=>gP (b:=ah) (λQ q=>br (k:=ah) (λQ q=>nH (c:=64) rfl ∅ (λQ q=>bx q) (by rw[e];exact q)) q) (by rw[if_pos rfl];exact bO (pd rfl ⟨dZ x,rfl,q⟩))) (rest _ q))
 |false=>
  rw[if_neg (by rw[e];decide)]at q;exact aR (eP (x:=.none) (λQ q=>gP (b:=ai) (λQ q=>br (k:=ai) (λQ q=>nH (c:=64) rfl ∅ (λQ q=>bx q) (by rw[e];exact q)) q) (by rw[if_neg Ak];exact bx q)) (rest .none (by rw[ite_self];exact q)))
theorem UB:dF vK zq ["text"]:=λws n Q h=>by
 obtain⟨x,rfl,q⟩:=h;show zq [ae (.w (.d (.str x)))] n _;unfold jR at q;cases e:eR 62 x with
 |true=>
  rw[if_pos e]at q;exact bJ (gP (b:=ah) (λQ q=>br (k:=ah) (λQ q=>nH (c:=62) rfl ∅ (λQ q=>bx q) (by rw[e];exact q)) q) (by rw[if_pos rfl];exact bO (pd rfl ⟨dZ x,rfl,q⟩)))
 |false=>
  rw[if_neg (by rw[e];decide)]at q;exact bJ (gP (b:=ai) (λQ q=>br (k:=ai) (λQ q=>nH (c:=62) rfl ∅ (λQ q=>bx q) (by rw[e];exact q)) q) (by rw[if_neg Ak];exact bx q))
def Hw.no:Hw->Nat
 |.note=>0
 |.hand=>1
 |.block=>2
 |.lay=>3
 |.take=>4
 |.read=>5
 |.look=>6
 |.same=>7
 |.go=>8
theorem mx(h:Hw):cz "note" (.str h.s)=decide (h.no=0):=by cases h<;>decide +kernel
theorem qe(h:Hw):cz "block" (.str h.s)=decide (h.no=2):=by cases h<;>decide +kernel
theorem EK(h:Hw):cz "lay" (.str h.s)=decide (h.no=3):=by cases h<;>decide +kernel
theorem O8(h:Hw):cz "same" (.str h.s)=decide (h.no=7):=by cases h<;>decide +kernel
theorem CM(h:Hw):bZ (.str h.s) [.str "take",.str "read",.str "look"]=decide (4<=h.no/\h.no<=6):=by cases h<;>decide +kernel
theorem yC(h:Hw):bZ (.str h.s) [.str "hand",.str "block"]=decide (1<=h.no/\h.no<=2):=by cases h<;>decide +kernel
theorem yt(h:Hw):bZ (.str h.s) [.str "lay",.str "look"]=decide (h.no=3\/h.no=6):=by cases h<;>decide +kernel
theorem zC(h:Hw):bZ (.str h.s) [.str "take",.str "read"]=decide (h.no=4\/h.no=5):=by cases h<;>decide +kernel
theorem CP(h:Hw):bZ (.str h.s) ((["note","lay"]:List Str).map .str)=h.aged:=by cases h<;>decide +kernel
theorem xn(h:Hw):bZ (.str h.s) ((Zd:List Str).map .str)=h.leads:=by cases h<;>decide +kernel
abbrev FZ:List (Str×Int):=[("note",1),("hand",0),("block",0),("lay",1),("take",1),("read",1),("look",1),("same",2),("go",0)]
theorem xb(h:Hw):Bm h.s FZ=ae (h.least:Int):=by cases h<;>decide +kernel
section
variable{δ:Sl}{n:Int}{Q:DQ}{K:DEnds}{W V:aW}{i j:Nat}
theorem cG{h:Str}{g:Str}(e:δ[i]?=ae (ae (.w (.d (.str h))))){b:Bool}(hb:cz g (.str h)=b):∀Q:Bool->Int->Prop,Q b n->cT (w2 (ak i) (wC (.str g)) bK) δ n Q:=λQ q=>br (k:=b) (λQ q=>xm e (by rw[hb];exact q)) q
theorem lQ{h a b:Str}(e:δ[i]?=ae (ae (.w (.d (.str h))))){r:Bool}(hb:bZ (.str h) [.str a,.str b]=r):∀Q:Bool->Int->Prop,Q r n->cT (w2 (ak i) (aq (ao (wC (.str a)) (ao (wC (.str b)) aj))) (gu ai)) δ n Q:=λQ q=>by
 refine aL (aF e (km (bx (bx (By (show 2<=1000 by decide) ?_)))));refine⟨rfl,rfl,?_⟩;show Q (bZ (.str h) [.str a,.str b]) n;rw[hb];exact q
theorem xF{h a b c:Str}(e:δ[i]?=ae (ae (.w (.d (.str h))))){r:Bool}(hb:bZ (.str h) [.str a,.str b,.str c]=r):∀Q:Bool->Int->Prop,Q r n->cT (w2 (ak i) (aq (ao (wC (.str a)) (ao (wC (.str b)) (ao (wC (.str c)) aj)))) (gu ai)) δ n Q:=λQ q=>by
 refine aL (aF e (FP (bx (bx (bx (By (show 3<=1000 by decide) ?_))))));refine⟨rfl,rfl,?_⟩;show Q (bZ (.str h) [.str a,.str b,.str c]) n;rw[hb];exact q
theorem zZ{w:DT}{s:Str}{v:Int}{D:List (Str×Int)}(hw:∀Q:DQ,Q (.d (.str s)) n->w δ n Q)(e:Bm s D=ae v)(k:Q (.d (.int v)) n):mJ D w δ n Q:=hw _ (by
 show(match Bm s D with|some s=>Q (.d (.int s)) n|none=>False);rw[e];exact k)
theorem qA{h:Hw}{r:List Str}(e:δ[i]?=ae (ae (.w (.d (fJ h r)))))(k:Q (.d (.str h.s)) n):w2 (ak i) ⇑0 aY δ n Q:=by
 refine aL (aF e (bx ?_));show(match dB (C7 h.s::r.map .str) 0 with|some d=>Q (.d d) n|none=>False);rw[oQ];exact k
theorem EE{h:Hw}{r:List Str}(e:δ[i]?=ae (ae (.w (.d (fJ h r)))))(k:Q (.d (.int ((r.length+1:Nat):Int))) n):wB aU (ao (ak i) aj) δ n Q:=by
 refine bU (aF e ?_);show Q (.d (.int (((C7 h.s::r.map .str).length:Nat):Int))) n;rw[Bd,Ap];exact k
end
theorem M6:dF sP yQ ["head","word"]:=λws n Q h=>by
 obtain⟨h,w,rfl,q⟩:=h;show yQ [ae (.w (.d (.str h.s))),ae (.w (.d (.str w)))] n _;by_cases h2:h.no=2
 ·refine aR (bN (cG rfl ((qe h).trans (decide_eq_true h2))) (bJ (aF rfl ?_)));cases h<;>first|exact q|cases h2
 ·refine aR (bC (cG rfl ((qe h).trans (decide_eq_false h2))) ?_);dsimp only[a8];by_cases h0:h.no=0
  ·refine bJ (gP (b:=ah) (cG rfl ((mx h).trans (decide_eq_true h0))) ?_);rw[if_pos rfl];refine bO (aF rfl ⟨w,rfl,?_⟩);cases h<;>first|exact q|cases h0
  ·refine bJ (gP (b:=ai) (cG rfl ((mx h).trans (decide_eq_false h0))) ?_);rw[if_neg Ak];refine bO (aF rfl ⟨w,rfl,?_⟩);cases h<;>first|exact q|exact absurd rfl h0|exact absurd rfl h2
theorem RD:dF pO CC ["head","parts"]:=λws n Q h=>by
 obtain⟨h,ps,rfl,q⟩:=h;show CC [ae (.w (.d (.str h.s))),ae (.w (.d (.tuple ps)))] n _;by_cases h0:h.no=0
 ·refine aR (bN (cG rfl ((mx h).trans (decide_eq_true h0))) (bJ (bO (aF rfl ?_))));cases h<;>first|exact q|cases h0
 refine aR (bC (cG rfl ((mx h).trans (decide_eq_false h0))) ?_);dsimp only[a8];by_cases h2:h.no=2
 ·refine aR (bN (cG rfl ((qe h).trans (decide_eq_true h2))) (bJ (bO (aF rfl ?_))));cases h<;>first|exact q|cases h2
 refine aR (bC (cG rfl ((qe h).trans (decide_eq_false h2))) ?_);dsimp only[a8];by_cases h3:h.no=3
 ·refine aR (bN (cG rfl ((EK h).trans (decide_eq_true h3))) (bJ (bO (aF rfl ?_))));cases h<;>first|exact q|cases h3
 refine aR (bC (cG rfl ((EK h).trans (decide_eq_false h3))) ?_);dsimp only[a8];by_cases h4:4<=h.no/\h.no<=6
 ·refine aR (bN (xF rfl ((CM h).trans (decide_eq_true h4))) (bJ (bO (aF rfl ?_))));cases h<;>first|exact q|exact absurd h4 ∎
 refine aR (bC (xF rfl ((CM h).trans (decide_eq_false h4))) ?_);dsimp only[a8];have c7:∀Q:DQ,Q (.d (.bool (decide (h.no=7)))) n->w2 ↥0 (wC (.str "same")) bK [ae (.w (.d (.str h.s))),ae (.w (.d (.tuple ps)))] n Q:=λQ q=>xm rfl (by rw[O8];exact q);by_cases h7:h.no=7
 ·refine bJ (fB (a:=ah) (b:=decide ((ps.length:Int)<=2)&&ps.all eE) (λQ q=>c7 Q (by rw[decide_eq_true h7];exact q)) (λ_ Q q=>fB (a:=decide ((ps.length:Int)<=2)) (b:=ps.all eE) (λQ q=>aL (lL rfl (bx q))) (λ_ Q q=>bU (fu (rV (λQ q=>aF rfl q) ?_))) q) ?_)
  ·refine mB (λ_=>True) (λd=>.bool (eE d)) (λd n Q' _ k=>bO (aF rfl k)) _ _ _ _ (λ_ _=>trivial) ?_;show match eU (ps.map λd=>.bool (eE d))with|some bs=>Q (.d (.bool (bs.all id))) n|none=>False
   simp only[kI,nF];exact q
  ·cases h<;>first|exact q|cases h7
 ·refine bJ (fB (a:=ai) (b:=ah) (λQ q=>c7 Q (by rw[decide_eq_false h7];exact q)) (λz=>nomatch z) ?_);cases h<;>first|exact q|exact absurd rfl h0|exact absurd rfl h2|exact absurd rfl h3|exact absurd rfl h7|exact absurd ∎ h4
theorem zt(h:Hw):∀(r:List Str)(acc:List Ah),(fF h acc r).length<=acc.length+r.length
 |[],acc=>Av _
 |w::r,acc=>by
  unfold fF
  split
  ·have:=zt h r (acc++[h9 h w]);rw[A0,B5]at this;rw[Bd];omega
  ·omega
theorem QP:dF rO BL ["words","parts","word","longer"]:=λws n Q h=>by
 obtain⟨h,r,rfl,hr,q⟩:=h;show BL [ae (.w (.d (fJ h r))),af,af,af] n _;refine aR (eP (x:=.tuple []) (λQ q=>Ho q) ?_);dsimp only[Bh];refine aR ?_;unfold cq iD vX;refine aF rfl ?_;dsimp only[d4,de];refine bx ?_;dsimp only;have cut:c6 (Eu C7 (h.s::r)) (ae 1) af=r.map .str:=by
  unfold c6;have e1:HT.sIx (Eu C7 (h.s::r)).length 0 (ae 1)=1:=by
   have:=HT.sIx_nat (Eu C7 (h.s::r)).length 0 1;rw[show((1:Nat):Int)=1 from rfl]at this;rw[this,Aq,Bd];omega
  have e2:HT.sIx (Eu C7 (h.s::r)).length (Eu C7 (h.s::r)).length af=(Eu C7 (h.s::r)).length:=rfl;rw[e1,e2,Aq,List.drop_succ_cons,List.drop_zero,Bd,Nat.add_sub_cancel,Gx]
 rw[cut];refine kf (λds δ n'=>∃(re:List Str)(acc:List Ah)(x2 x3:Option SV),ds=re.map .str/\acc.length+re.length<=900/\n'=n/\δ=[ae (.w (.d (fJ h r))),ae (.w (.d (.tuple acc))),x2,x3]/\Q (.d (.tuple (fF h acc re))) n) (λδ n' I=>?_) (λd ds δ n' N I kN=>?_) _ _ _ ⟨r,[],af,af,rfl,by simpa using hr,rfl,rfl,q⟩
 ·obtain⟨re,acc,x2,x3,e,hl,rfl,rfl,I⟩:=I;cases List.map_eq_nil_iff.mp e.symm;dsimp only;exact bJ (aF rfl I)
 ·obtain⟨re,acc,x2,x3,e,hl,rfl,rfl,I⟩:=I;obtain⟨w,re,rfl,rfl,rfl⟩:=List.map_eq_cons_iff.mp e.symm;rw[Bd]at hl;dsimp only[bg,Bh];have addE:∀(Q:DQ),Q (.d (.tuple (acc++[h9 h w]))) n'->jK (.d (.tuple acc)) (.d (.tuple [h9 h w])) n' Q:=λQ q=>by
   cases acc with
   |nil=>exact q
   |cons a as=>exact⟨.inl (λz=>nomatch z),An (show(a::as).length+1<=1000 by omega) ∎,q⟩
  refine aR (eP (x:=.tuple (acc++[h9 h w])) (λQ q=>aL (aF rfl (pz (fO (qA rfl (aF rfl ⟨h,w,rfl,By (show 1<=1000 by decide) (addE Q q)⟩)))))) ?_);dsimp only[Bh];have cb:∀Q:Bool->Int->Prop,Q (cJ h (acc++[h9 h w])) n'->cT (aT pO (ao (w2 ↥0 ⇑0 aY) (ao ↥3 aj))) [ae (.w (.d (fJ h r))),ae (.w (.d (.tuple acc))),ae (.w (.d (.str w))),ae (.w (.d (.tuple (acc++[h9 h w]))))] n' Q:=λQ q=>br (λQ q=>fO (qA rfl (aF rfl ⟨h,_,rfl,q⟩))) q;unfold fF at I;cases hb:cJ h (acc++[h9 h w])with
  |true=>
   rw[if_pos hb]at I;refine aR (RU (λQ q=>cb Q (by rw[hb];exact q)) ?_);dsimp only[a8];refine eP (λQ q=>aF rfl q) ?_;dsimp only[Bh];exact kN _ _ ⟨re,acc++[h9 h w],_,_,rfl,by rw[A0,B5];omega,rfl,rfl,I⟩
  |false=>
   rw[if_neg (by rw[hb];decide)]at I;exact aR (bN (λQ q=>kH (k:=ai) (λQ q=>cb Q (by rw[hb];exact q)) q) (bJ (aF rfl I)))
theorem GK{δ:Sl}{n:Int}{Q:DQ}{i j m:Nat}{h:Hw}{r:List Str}{w:Str}(e:δ[i]?=ae (ae (.w (.d (fJ h r)))))(e2:δ[j]?=ae (ae (.w (.d (.int (m:Nat))))))(hw:r[m]?=ae w)(k:Q (.d (.str w)) n):w2 (ak i) (w2 (ak j) ⇑1 (e9 λi j=>.int (i+j))) aY δ n Q:=by
 refine aL (aF e (aL (aF e2 (bx (ff ?_)))));show(match dB (C7 h.s::r.map .str) ((m:Int)+1)with|some d=>Q (.d d) n|none=>False);have e3:(C7 h.s::r.map .str)[m+1]?=ae (.str w):=by rw[Bo,Be,hw];rfl
 rw[show((m:Int)+1)=((m+1:Nat):Int) by omega,gh e3];exact k
theorem Pw:dF vv xt ["words","many","head"]:=λws n Q h=>by
 obtain⟨h,r,m,rfl,hm,q⟩:=h;show xt [ae (.w (.d (fJ h r))),ae (.w (.d (.int (m:Nat)))),af] n _;refine aR (eP (x:=.str h.s) (λQ q=>qA rfl q) ?_);dsimp only[Bh];have c1:∀Q:Bool->Int->Prop,Q (decide ((m:Int) < (h.least:Int))) n->cT (w2 ↥1 (mJ FZ ↥2) gM) [ae (.w (.d (fJ h r))),ae (.w (.d (.int (m:Nat)))),ae (.w (.d (.str h.s)))] n Q:=λQ q=>br (λQ q=>aL (aF rfl (zZ (λQ q=>aF rfl q) (xb h) q))) q;have c2:∀Q:Bool->Int->Prop,Q (decide ((m:Int)+1=((r.length+1:Nat):Int))) n->cT (w2 (w2 ↥1 ⇑1 (e9 λi j=>.int (i+j))) (wB aU (ao ↥0 aj)) bK) [ae (.w (.d (fJ h r))),ae (.w (.d (.int (m:Nat)))),ae (.w (.d (.str h.s)))] n Q:=λQ q=>br (λQ q=>aL (aL (aF rfl (bx (ff (EE rfl (zH q)))))) ) q;unfold gx at q;by_cases h0:m < h.least\/m=r.length
 ·rw[if_pos h0]at q;refine aR (bN (λQ q=>gK (a:=decide ((m:Int) < (h.least:Int))) (b:=decide ((m:Int)+1=((r.length+1:Nat):Int))) c1 (λ_=>c2) (by
   have:(decide ((m:Int) < (h.least:Int)) || decide ((m:Int)+1=((r.length+1:Nat):Int)))=ah:=by
    rw[Bool.or_eq_true];exact h0.imp (λz=>decide_eq_true ⋯) λz=>decide_eq_true ⋯
   rw[this];exact q)) (bJ (bx q)))
 ·rw[if_neg h0]at q;obtain⟨w,hw⟩:∃w,r[m]?=ae w:=⟨r[m]'⋯,As ⋯⟩;rw[hw]at q;refine aR (bC (λQ q=>gK (a:=decide ((m:Int) < (h.least:Int))) (b:=decide ((m:Int)+1=((r.length+1:Nat):Int))) c1 (λ_=>c2) (by
   have:(decide ((m:Int) < (h.least:Int)) || decide ((m:Int)+1=((r.length+1:Nat):Int)))=ai:=by
    rw[Bool.or_eq_false_iff];exact⟨decide_eq_false ⋯,decide_eq_false ⋯⟩
   rw[this];exact q)) ?_)
  dsimp only[a8]at q ⊢;cases ha:h.aged with
  |true=>
   rw[if_pos ha]at q;exact aR (bN (λQ q=>j8 (s:=h.s) (λQ q=>aF rfl q) ((CP h).trans ha) q) (bJ (bO (GK rfl rfl hw ⟨w,rfl,q⟩))))
  |false=>
   rw[if_neg (by rw[ha];decide)]at q;refine aR (bC (λQ q=>j8 (s:=h.s) (λQ q=>aF rfl q) ((CP h).trans ha) q) ?_);dsimp only[a8];refine bJ (gP (b:=h.leads) (λQ q=>j8 (s:=h.s) (λQ q=>aF rfl q) (xn h) q) ?_);cases hl:h.leads with
   |true=>
    rw[if_pos hl]at q;rw[if_pos rfl];exact bO (GK rfl rfl hw ⟨w,rfl,q⟩)
   |false=>
    rw[if_neg (by rw[hl];decide)]at q;rw[if_neg Ak];exact bx q
theorem QC:dF vW yi ["head","parts","tail"]:=λws n Q h=>by
 obtain⟨h,ps,t,rfl,hl,q⟩:=h;show yi [ae (.w (.d (.str h.s))),ae (.w (.d (.tuple ps))),ae (.w (.d t))] n _;by_cases h1:1<=h.no/\h.no<=2
 ·refine aR (bN (lQ rfl ((yC h).trans (decide_eq_true h1))) (bJ (aF rfl ?_)));cases h<;>first|exact q|exact absurd h1 ∎
 refine aR (bC (lQ rfl ((yC h).trans (decide_eq_false h1))) ?_);dsimp only[a8];by_cases h0:h.no=0
 ·refine aR (bN (cG rfl ((mx h).trans (decide_eq_true h0))) (bJ (km (aF rfl (aF rfl (By (show 2<=1000 by decide) ?_))))));cases h<;>first|exact q|cases h0
 refine aR (bC (cG rfl ((mx h).trans (decide_eq_false h0))) ?_);dsimp only[a8];by_cases h3:h.no=3\/h.no=6
 ·refine aR (bN (lQ rfl ((yt h).trans (decide_eq_true h3))) (bJ (FP (aF rfl (aF rfl (aF rfl (By (show 3<=1000 by decide) ?_)))))));cases h<;>first|exact q|exact absurd h3 ∎
 refine aR (bC (lQ rfl ((yt h).trans (decide_eq_false h3))) ?_);dsimp only[a8];by_cases h4:h.no=4\/h.no=5
 ·refine aR (bN (lQ rfl ((zC h).trans (decide_eq_true h4))) (bJ (km (aF rfl (aF rfl (By (show 2<=1000 by decide) ?_))))));cases h<;>first|exact q|exact absurd h4 ∎
 refine aR (bC (lQ rfl ((zC h).trans (decide_eq_false h4))) ?_);dsimp only[a8];have q':Q (.d (.tuple (.str h.s::(ps++[t])))) n:=by
  cases h<;>first|exact q|exact absurd ∎ h1|exact absurd rfl h0|exact absurd ∎ h3|exact absurd ∎ h4
 refine bJ (aL (aL (pz (aF rfl (By (show 1<=1000 by decide) (aF rfl ?_))))));refine(show jK (.d (.tuple [.str h.s])) (.d (.tuple ps)) n _ from⟨.inl (λz=>nomatch z),An (show 1+ps.length<=1000 by omega) ∎,?_⟩);refine pz (aF rfl (By (show 1<=1000 by decide) ?_));refine(show jK (.d (.tuple (.str h.s::ps))) (.d (.tuple [t])) n _ from⟨.inl (λz=>nomatch z),An (show ps.length+1+1<=1000 by omega) ∎,?_⟩);exact q'
theorem RH:∀ws n Q E,mS ws n Q E->ws.length=2:=λws n Q E h=>by obtain⟨_,_,_,rfl,_⟩:=h;rfl
theorem Sq:∀ws n Q E,mS ws n Q E->xQ (λi j _ n=>E i j n) (dj ["line","words","head","parts","tail","many","lacks"] ws) n {nx:=λ_ n=>Q (.d .none) n,rt:=Q}:=λws n Q E h=>by
 obtain⟨i,h,r,rfl,hr,q⟩:=h;show xQ (λi j _ n=>E i j n) [ae (.w (.d (.int i))),ae (.w (.d (fJ h r))),af,af,af,af,af] n _;have hpl:=zt h r [];rw[List.length_nil,Nat.zero_add]at hpl;unfold cS at q;dsimp only at q;generalize hps:fF h [] r=ps at q hpl;generalize ht:gx h r ps.length=t at q;refine aR (eP (x:=.str h.s) (λQ q=>qA rfl q) ?_);dsimp only[Bh];refine aR (eP (x:=.tuple ps) (λQ q=>bO (aF rfl ⟨h,r,rfl,hr,by rw[hps];exact q⟩)) ?_);dsimp only[Bh];refine aR (eP (x:=t) (λQ q=>fO (aF rfl (lL rfl ⟨h,r,ps.length,rfl,hpl,by rw[ht];exact q⟩))) ?_);dsimp only[Bh];have hmany:∀Q:DQ,Q (.d (.int ((1+ps.length+(if eA t=ah then 0 else 1):Nat):Int))) n->(w2 (w2 ⇑1 (wB aU (ao ↥3 aj)) (e9 λi j=>.int (i+j))) (gT (cT (w2 ↥4 (wC .none) (bL ai))) ⇑0 ⇑1) (e9 λi j=>.int (i+j))) [ae (.w (.d (.int i))),ae (.w (.d (fJ h r))),ae (.w (.d (.str h.s))),ae (.w (.d (.tuple ps))),ae (.w (.d t)),af,af] n Q:=λQ q=>by
  refine aL (aL (bx (lL rfl (ff ?_))));refine gP (b:=eA t) (λQ q=>br (λQ q=>aL (aF rfl (bx (vT (b:=ai) q)))) q) ?_;cases hn:eA t with
  |true=>
   rw[hn,if_pos rfl]at q;rw[if_pos rfl];refine bx (ff ?_);rw[show(1:Int)+((ps.length:Nat):Int)+0=((1+ps.length+0:Nat):Int) by omega];exact q
  |false=>
   rw[hn,if_neg Ak]at q;rw[if_neg Ak];refine bx (ff ?_);rw[show(1:Int)+((ps.length:Nat):Int)+1=((1+ps.length+1:Nat):Int) by omega];exact q
 refine aR (eP (λQ q=>hmany Q q) ?_);dsimp only[Bh];generalize(1+ps.length+(if eA t=ah then 0 else 1))=many at q ⊢;refine aR (eP (x:=.bool (decide (ps.length < h.least) || (h.leads&&eA t))) (λQ q=>v3 (a:=decide (ps.length < h.least)) (b:=h.leads&&eA t) (λQ q=>aL (lL rfl (zZ (λQ q=>aF rfl q) (xb h) ?_))) (λ_ Q q=>fB (a:=h.leads) (b:=eA t) (λQ q=>aF rfl (By rfl ?_)) (λ_ Q q=>aL (aF rfl (bx (vT (b:=ai) q)))) q) q) ?_)
 ·show Q (.d (.bool (decide (((ps.length:Nat):Int) < (h.least:Int))))) n;have:decide (((ps.length:Nat):Int) < (h.least:Int))=decide (ps.length < h.least):=by
   by_cases z:ps.length < h.least
   ·rw[decide_eq_true z,decide_eq_true ⋯]
   ·rw[decide_eq_false z,decide_eq_false ⋯]
  rw[this];exact q
 ·show Q (.d (.bool (bZ (.str h.s) ((Zd:List Str).map .str)))) n;rw[xn];exact q
 dsimp only[Bh];generalize(decide (ps.length < h.least) || (h.leads&&eA t))=lk at q ⊢;have cc:∀Q:Bool->Int->Prop,Q (lk || decide (many < r.length+1)) n->dE (cT ↥6) (cT (w2 ↥5 (wB aU (ao ↥1 aj)) gM)) [ae (.w (.d (.int i))),ae (.w (.d (fJ h r))),ae (.w (.d (.str h.s))),ae (.w (.d (.tuple ps))),ae (.w (.d t)),ae (.w (.d (.int (many:Nat)))),ae (.w (.d (.bool lk)))] n Q:=λQ q=>gK (a:=lk) (b:=decide (many < r.length+1)) (λQ q=>br (λQ q=>aF rfl q) q) (λ_ Q q=>br (λQ q=>aL (aF rfl (EE rfl (show Q (.d (.bool (decide ((many:Int) < ((r.length+1:Nat):Int))))) n from ?_)))) q) q
 rotate_left
 ·have:decide ((many:Int) < ((r.length+1:Nat):Int))=decide (many < r.length+1):=by
   by_cases z:many < r.length+1
   ·rw[decide_eq_true z,decide_eq_true ⋯]
   ·rw[decide_eq_false z,decide_eq_false ⋯]
  rw[this];exact q
 by_cases h0:lk=ah\/many < r.length+1
 ·rw[if_pos h0]at q;refine aR (bN (λQ q=>cc Q (by
   have:(lk || decide (many < r.length+1))=ah:=by rw[Bool.or_eq_true];exact h0.imp id λz=>decide_eq_true z
   rw[this];exact q)) ?_)
  exact(show ak 0 _ n _ from aF rfl (aF rfl ⟨i,(many:Nat),rfl,rfl,q⟩))
 ·rw[if_neg h0]at q;refine aR (bC (λQ q=>cc Q (by
   have:(lk || decide (many < r.length+1))=ai:=by
    rw[Bool.or_eq_false_iff];exact⟨Fw.mpr λz=>h0 (.inl z),decide_eq_false λz=>h0 (.inr z)⟩
   rw[this];exact q)) ?_)
  dsimp only[a8];exact bJ (jY (aF rfl (aF rfl (aF rfl ⟨h,ps,t,rfl,by omega,q⟩))))
theorem yS{α:Type}(xs:List α):dB xs (-1)=xs.getLast?:=by
 cases xs with
 |nil=>rfl
 |cons a r=>
  unfold dB jJ;rw[if_neg ∎,if_pos (by rw[Bd];omega),Option.bind_some,List.getLast?_eq_getElem?]
  congr 1
  rw[Bd];omega
section
variable{δ:Sl}{n:Int}{Q:DQ}{i:Nat}
theorem lZ{w:DT}{xs:List Ah}{x:Ah}(hw:∀Q:DQ,Q (.d (.list xs)) n->w δ n Q)(h:xs.getLast?=ae x)(k:Q (.d x) n):w2 w (eF ⇑1) aY δ n Q:=by
 refine aL (hw _ ?_);show(match dB xs (-1)with|some d=>Q (.d d) n|none=>False);rw[yS,h];exact k
theorem jM{w:DT}{xs:List Ah}(hw:∀Q:DQ,Q (.d (.list xs)) n->w δ n Q):∀Q:DQ,Q (.d (.bool (!xs.isEmpty))) n->w2 w (aJ (aA aj)) kX δ n Q:=λQ q=>aL (hw _ (zA q))
theorem FD{w:DT}{xs:List Ah}(hw:∀Q:DQ,Q (.d (.list xs)) n->w δ n Q):∀Q:DQ,Q (.d (.bool xs.isEmpty)) n->w2 w (aJ (aA aj)) bK δ n Q:=λQ q=>aL (hw _ (zA (by
 show(match iY (.list xs) (.list [])with|some r=>Q (.d (.bool r)) n|none=>False);rw[show iY (.list xs) (.list [])=ae xs.isEmpty from by cases xs<;>rfl];exact q)))
theorem qZ{w:DT}{xs:List Ah}{k:Nat}(hw:∀Q:DQ,Q (.d (.list xs)) n->w δ n Q):∀Q:DQ,Q (.d (.bool (decide (xs.length < k)))) n->w2 (wB aU (ao w aj)) (wC (.int (k:Nat))) gM δ n Q:=λQ q=>aL (bU (hw _ (show Q (.d (.bool (decide (((xs.length:Nat):Int) < (k:Int))))) n from by
 have:decide (((xs.length:Nat):Int) < (k:Int))=decide (xs.length < k):=by
  by_cases z:xs.length < k
  ·rw[decide_eq_true z,decide_eq_true ⋯]
  ·rw[decide_eq_false z,decide_eq_false ⋯]
 rw[this];exact q)))
end
theorem pN{α β:Type}(f:α->β)(l:List α):(l.map f).getLast?=l.getLast?.map f:=List.getLast?_map
theorem nr{α β:Type}(f:α->β)(l:List α):(l.map f).isEmpty=l.isEmpty:=by cases l<;>rfl
theorem MZ:dF mz CF ["hands"]:=λws n Q h=>by
 obtain⟨hs,rfl,q⟩:=h;show CF [ae (.w (.d (i0 hs)))] n _;unfold fL at q;cases hl:hs.getLast? with
 |none=>
  rw[hl]at q;have:hs=[]:=Hj.mp hl;subst this;exact bJ (fB (a:=ai) (b:=ah) (λQ q=>jM (xs:=[]) (λQ q=>aF rfl q) Q q) (λz=>nomatch z) q)
 |some bs=>
  rw[hl]at q;have hne:(!(hs.map cx).isEmpty)=ah:=by rw[nr];cases hs with|nil=>cases hl|cons a r=>rfl
  have hl':(hs.map cx).getLast?=ae (cx bs):=by rw[pN,hl];rfl
  refine bJ (fB (a:=ah) (b:=(bs.map i5).isEmpty) (λQ q=>jM (xs:=hs.map cx) (λQ q=>aF rfl q) Q (by rw[hne];exact q)) (λ_ Q q=>FD (xs:=bs.map i5) (λQ q=>lZ (λQ q=>aF rfl q) hl' q) Q q) ?_);rw[nr,C3];cases bs with
  |nil=>exact q
  |cons b r=>exact q
theorem Qe:dF pZ yj ["head","notes","hands"]:=λws n Q h=>by
 obtain⟨h,ns,hs,rfl,q⟩:=h;show yj [ae (.w (.d (.str h))),ae (.w (.d (.list ns))),ae (.w (.d (i0 hs)))] n _;have ne:∀{bs},hs.getLast?=ae bs->(!(hs.map cx).isEmpty)=ah:=λ{bs} hl=>by rw[nr];cases hs with|nil=>cases hl|cons a r=>rfl
 have nl:hs.getLast?=af->hs=[]:=λhl=>Hj.mp hl;unfold bA at q;by_cases h0:h="note"
 ·rw[if_pos h0]at q;refine aR (bN (cG rfl (decide_eq_true h0)) (bJ (fB (a:=hs.isEmpty) (b:=decide (ns.length < 12)) (λQ q=>FD (xs:=hs.map cx) (λQ q=>aF rfl q) Q (by rw[nr];exact q)) (λ_ Q q=>qZ (k:=12) (λQ q=>aF rfl q) Q q) q)))
 rw[if_neg h0]at q;refine aR (bC (cG rfl (decide_eq_false h0)) ?_);dsimp only[a8];by_cases h1:h="hand"
 ·rw[if_pos h1]at q;refine aR (bN (cG rfl (decide_eq_true h1)) (bJ (fB (a:=!fL hs) (b:=decide (hs.length < 5)) (λQ q=>(show aT mz (ao ↥2 aj) _ n _ from bO (aF rfl ⟨hs,rfl,q⟩))) (λ_ Q q=>qZ (xs:=hs.map cx) (k:=5) (λQ q=>aF rfl q) Q (by rw[Ap];exact q)) q)))
 rw[if_neg h1]at q;refine aR (bC (cG rfl (decide_eq_false h1)) ?_);dsimp only[a8];by_cases h2:h="block"
 ·rw[if_pos h2]at q;refine aR (bN (cG rfl (decide_eq_true h2)) ?_);cases hl:hs.getLast? with
  |none=>
   rw[hl]at q;cases nl hl;exact bJ (fB (a:=ai) (b:=ah) (λQ q=>jM (xs:=[]) (λQ q=>aF rfl q) Q q) (λz=>nomatch z) q)
  |some bs=>
   rw[hl]at q;have hl':(hs.map cx).getLast?=ae (cx bs):=by rw[pN,hl];rfl
   exact bJ (fB (a:=ah) (b:=decide (bs.length < 6)) (λQ q=>jM (xs:=hs.map cx) (λQ q=>aF rfl q) Q (by rw[ne hl];exact q)) (λ_ Q q=>qZ (xs:=bs.map i5) (k:=6) (λQ q=>lZ (λQ q=>aF rfl q) hl' q) Q (by rw[Ap];exact q)) q)
 rw[if_neg h2]at q;refine aR (bC (cG rfl (decide_eq_false h2)) ?_);dsimp only[a8];cases h3:bZ (.str h) ((Za:List Str).map .str)with
 |false=>
  rw[if_neg (by rw[h3];decide)]at q;refine aR (bC (λQ q=>j8 (s:=h) (λQ q=>aF rfl q) h3 q) ?_);dsimp only[a8];exact bJ (bx q)
 |true=>
  rw[if_pos h3]at q;refine aR (bN (λQ q=>j8 (s:=h) (λQ q=>aF rfl q) h3 q) ?_);cases hl:hs.getLast? with
  |none=>
   rw[hl]at q;cases nl hl;exact bJ (fB (a:=ai) (b:=ah) (λQ q=>jM (xs:=[]) (λQ q=>aF rfl q) Q q) (λz=>nomatch z) q)
  |some bs=>
   rw[hl]at q;have hl':(hs.map cx).getLast?=ae (cx bs):=by rw[pN,hl];rfl
   cases hb:bs.getLast? with
   |none=>
    dsimp only at q;rw[hb]at q;cases Hj.mp hb;exact bJ (fB (a:=ah) (b:=ai) (λQ q=>jM (xs:=hs.map cx) (λQ q=>aF rfl q) Q (by rw[ne hl];exact q)) (λ_ Q q=>fB (a:=ai) (b:=ah) (λQ q=>jM (xs:=[]) (λQ q=>lZ (λQ q=>aF rfl q) hl' q) Q q) (λz=>nomatch z) q) q)
   |some b=>
    dsimp only at q;rw[hb]at q;have hb':(bs.map i5).getLast?=ae (i5 b):=by rw[pN,hb];rfl
    have hbn:(!(bs.map i5).isEmpty)=ah:=by rw[nr];cases bs with|nil=>cases hb|cons a r=>rfl
    exact bJ (fB (a:=ah) (b:=decide (b.2.length < 8)) (λQ q=>jM (xs:=hs.map cx) (λQ q=>aF rfl q) Q (by rw[ne hl];exact q)) (λ_ Q q=>fB (a:=ah) (b:=decide (b.2.length < 8)) (λQ q=>jM (xs:=bs.map i5) (λQ q=>lZ (λQ q=>aF rfl q) hl' q) Q (by rw[hbn];exact q)) (λ_ Q q=>qZ (xs:=b.2) (k:=8) (λQ q=>aL (lZ (λQ q=>lZ (λQ q=>aF rfl q) hl' q) hb' (bx (ix q)))) Q q) q) q)
theorem Nw:dF qc xR ["blocks"]:=λws n Q h=>by
 obtain⟨bs,rfl,hl,q⟩:=h;show xR [ae (.w (.d (cx bs)))] n _;refine bJ (bU (fu ?_));unfold cv iD;refine aF rfl ?_;have key:∀(re:List Bk)(acc:List Ah)(x y:Option SV),Q (.d (.tuple (acc++re.map eV))) n->c8 (dJ 2 (cQ (bg 0) (cQ (bg 1) du))) aX (aq (ao ↥0 (ao (wB fk (ao ↥1 aj)) aj))) (λds n1=>fk [.d (.list ds)] n1 Q) (re.map i5) acc [x,y] n:=λre=>by
  induction re with
  |nil=>
   intro acc x y k;rw[A7,Cc]at k;exact k
  |cons b re ih=>
   intro acc x y k;rw[Aq];unfold c8;refine By rfl ?_;dsimp only[cQ,du,bg,Bh,aX];rw[if_pos rfl];refine km (aF rfl (bU (aF rfl (show fk [.d (.list b.2)] n _ from By (show 2<=1000 by decide) ?_))));refine ih (acc++[eV b]) _ _ ?_;rw[Cj];exact k
 exact key bs [] _ _ q
def ly(h:Hw)(mv:V)(aN aH:Addr)(H:Hp)(R:Hp->Prop):Prop:=match h with
 |.note=>∃xs,H aN=ae (.lst xs)/\xs.length < Ao/\R (upd H aN (.lst (xs++[mv])))
 |.hand=>∃hs,H aH=ae (.lst hs)/\hs.length < Ao/\∀p,H p=af->R (upd (upd H p (.lst [])) aH (.lst (hs++[.ref p])))
 |.block=>∃hs a bs,H aH=ae (.lst hs)/\hs.getLast?=ae (.ref a)/\H a=ae (.lst bs)/\bs.length < Ao/\∀p q,H p=af->(upd H p (.lst [])) q=af->R (upd (upd (upd H p (.lst [])) q (.tup [mv,.ref p])) a (.lst (bs++[.ref q])))
 |_=>∃hs a bs tp wv ac as,H aH=ae (.lst hs)/\hs.getLast?=ae (.ref a)/\H a=ae (.lst bs)/\bs.getLast?=ae (.ref tp)/\H tp=ae (.tup [wv,.ref ac])/\H ac=ae (.lst as)/\as.length < Ao/\R (upd H ac (.lst (as++[mv])))
def y9:Sp:=λvs H Q _=>∃(h:Hw)(mv:V)(aN aH:Addr),vs=[.str h.s,mv,.ref aN,.ref aH]/\ly h mv aN aH H (Q .non)
theorem Iz(h:Hw):decide (V.str h.s=V.str "hand")=decide (h.no=1):=by cases h<;>decide +kernel
theorem Q9(h:Hw):decide (V.str h.s=V.str "note")=decide (h.no=0):=by cases h<;>decide +kernel
theorem O3(h:Hw):decide (V.str h.s=V.str "block")=decide (h.no=2):=by cases h<;>decide +kernel
section
variable{P:Bj}{w:Bu}{K:Ag}{mg:Str->Option Af}{base:Heap}
theorem v7{H:Hp}{a:Addr}{xs:List V}{x:V}{Q:VK}(h:H a=ae (.lst xs))(e:xs.getLast?=ae x)(k:Q x H):kM K (.ref a) (.int (-1)) H Q:=.inl ⟨a,xs,_,x,rfl,rfl,SqL.of h,by rw[yS];exact e,k⟩
abbrev Zk:List Str:=["head","made","notes","hands"]
theorem QE{fa:Addr}{fd:Cw}(F:Fun K "put_line" "put_line" GX fa fd):FnOk P w K mg base dv 1 fa fd Zk y9:=by
 refine F.ok (N:=Zk) ⟨rfl,rfl,rfl,by decide +kernel,rfl,by decide +kernel,by decide +kernel⟩ (λvs H Q E h=>?_) (λcdv A outer s H vs Q E hr h=>?_)
 ·obtain⟨_,_,_,_,rfl,_⟩:=h;rfl
 obtain⟨h,mv,aN,aH,rfl,q⟩:=h;have app:∀{X:Cx}{o e:Expr}{to te:TE}{ap cp:Pos}(ho:PE X o to)(he:PE X e te)(hbase:Em o "append" X.env (eval o X.env)=eval o X.env)(hline:(ap.endLine==cp.line)=ah)(hs:Au [e] X.env=(ai,eval e X.env)::Au [] X.env)(hfew:((C5 cp (Au [e] X.env)).all (λx=>!x.1)&&(backToKw cp (Fq [] X.env)).all (λx=>x.1.isSome)
   && decide ([e].length+([]:List F2).length+(if ([]:List F2).isEmpty then 0 else 1) < 30))=ah)(hpl:(C5 cp (Au [] X.env)).any (·.1)=ai),PE X (.Call (.Attribute o "append" ap) [e] [] cp) (jv X.K "list" wq to (cE te bG)):=λho he hb hl hs hf hp=>mD Hk PySem.F.slot_list_append PySem.F.type_list_append wk ho (cy he c9 hs) hb hf hl hs hp
 refine⟨_,fm (jk (jt op_eq (pv 0) px (kg _)) (fm (jX (app (pv 2) (pv 1) rfl rfl rfl rfl rfl)))
  (fm (jk (jt op_eq (pv 0) px (kg _)) (fm (jX (app (pv 3) (kY c9) rfl rfl rfl rfl rfl)))
   (fm (jk (jt op_eq (pv 0) px (kg _)) (fm (jX (app (gf mQ (pv 3) (qB pA cP) (λ_ _=>rfl)) (zX (cy (pv 1) (cy (kY c9) c9))) rfl rfl rfl rfl rfl)))
    (fm (jX (app (gf mQ (gf mQ (gf mQ (pv 3) (qB pA cP) (λ_ _=>rfl)) (qB pA cP) (λ_ _=>rfl)) cP (λ_ _=>rfl)) (pv 1) rfl rfl rfl rfl rfl)))))))),?_⟩
 refine⟨_,rfl,rfl,_,rfl,?_⟩;rw[Q9];by_cases h0:h.no=0
 ·rw[decide_eq_true h0];show if ah=ah then _ else _
  rw[if_pos rfl];cases h<;>first|cases h0|skip
  obtain⟨xs,e1,e2,k⟩:=q;exact⟨_,rfl,.inl ⟨rfl,_,SqL.of e1⟩,_,rfl,aN,xs,mv,rfl,rfl,e1,e2,k⟩
 rw[decide_eq_false h0];show if ai=ah then _ else _
 rw[if_neg Ak];refine⟨_,rfl,rfl,_,rfl,?_⟩;rw[Iz];by_cases h1:h.no=1
 ·rw[decide_eq_true h1];show if ah=ah then _ else _
  rw[if_pos rfl];cases h<;>first|cases h1|skip
  obtain⟨hs,e1,e2,k⟩:=q;exact⟨_,rfl,.inl ⟨rfl,_,SqL.of e1⟩,Bx _,λp hp=>⟨aH,hs,.ref p,rfl,rfl,by rw[aM (bQ e1 hp)];exact e1,e2,k p hp⟩⟩
 rw[decide_eq_false h1];show if ai=ah then _ else _
 rw[if_neg Ak];refine⟨_,rfl,rfl,_,rfl,?_⟩;rw[O3];by_cases h2:h.no=2
 ·rw[decide_eq_true h2];show if ah=ah then _ else _
  rw[if_pos rfl];cases h<;>first|cases h2|skip
  obtain⟨hs,a,bs,e1,e2,e3,e4,k⟩:=q;refine⟨_,rfl,1,rfl,v7 e1 e2 ⟨.inl ⟨rfl,_,SqL.of e3⟩,_,rfl,Bx _,λp hp=>⟨show 2<=Ao by decide,λq hq=>⟨a,bs,.ref q,rfl,rfl,?_,e4,k p q hp hq⟩⟩⟩⟩;have e5:upd H p (.lst []) a=ae (.lst bs):=by rw[aM (bQ e3 hp)];exact e3
  rw[aM (bQ e5 hq)];exact e5
 ·rw[decide_eq_false h2];show if ai=ah then _ else _
  rw[if_neg Ak];have q':∃hs a bs tp wv ac as,H aH=ae (.lst hs)/\hs.getLast?=ae (.ref a)/\H a=ae (.lst bs)/\bs.getLast?=ae (.ref tp)/\H tp=ae (.tup [wv,.ref ac])/\H ac=ae (.lst as)/\as.length < Ao/\Q .non (upd H ac (.lst (as++[mv]))):=by
   cases h<;>first|exact q|exact absurd rfl h0|exact absurd rfl h1|exact absurd rfl h2
  obtain⟨hs,a,bs,tp,wv,ac,as,e1,e2,e3,e4,e5,e6,e7,k⟩:=q';exact⟨_,rfl,1,rfl,v7 e1 e2 ⟨1,rfl,v7 e3 e4 (.inr (.inl ⟨tp,_,1,.ref ac,rfl,rfl,SqT.of e5,EC _ _ _,.inl ⟨rfl,_,SqL.of e6⟩,_,rfl,ac,as,mv,rfl,rfl,e6,e7,k⟩))⟩⟩
end
abbrev iu:=List (Addr×HO)
def Hol(H:Hp)(l:iu):Prop:=∀p∈l,H p.1=ae p.2
def aZ(l:iu):List Addr:=l.map (·.1)
theorem Hol.rep{H:Hp}{l1 l2:iu}{a:Addr}{o o':HO}(h:Hol H (l1++(a,o)::l2))(nd:(aZ (l1++(a,o)::l2)).Nodup):Hol (upd H a o') (l1++(a,o')::l2):=λp hp=>by
 have ne:∀q∈l1++l2,q.1≠a:=λq hq z=>by
  unfold aZ at nd;rw[Br,Aq,List.nodup_append]at nd;obtain⟨n1,n2,n3⟩:=nd;rw[Fn]at n2;rcases Bi.mp hq with h|h
  ·exact n3 q.1 (List.mem_map_of_mem h) a Am z
  ·exact n2.1 (Dc.mpr ⟨q,h,z⟩)
 rcases Bi.mp hp with hp|hp
 ·rw[aM (ne p (Cg _ hp))];exact h p (Cg _ hp)
 ·rcases A5.mp hp with rfl|hp
  ·exact bw
  ·rw[aM (ne p (Bb _ hp))];exact h p (Bb _ (Al _ hp))
theorem Hol.add{H:Hp}{l:iu}{p:Addr}{o:HO}(h:Hol H l)(hp:H p=af):Hol (upd H p o) (l++[(p,o)]):=λq hq=>by
 rcases Bi.mp hq with hq|hq
 ·rw[aM (bQ (h q hq) hp)];exact h q hq
 ·rw[A6.mp hq];exact bw
theorem Hol.nkey{H:Hp}{l:iu}{p:Addr}(h:Hol H l)(hp:H p=af):p∉aZ l:=λz=>by
 obtain⟨q,hq,e⟩:=Dc.mp z;have:=h q hq;rw[e,hp]at this;cases this
theorem Hol.nodup{H:Hp}{l:iu}{p:Addr}{o:HO}(h:Hol H l)(nd:(aZ l).Nodup)(hp:H p=af):(aZ (l++[(p,o)])).Nodup:=by
 unfold aZ;rw[Br,List.nodup_append];refine⟨nd,by simp,λa ha b hb z=>?_⟩;rw[List.map_singleton,A6]at hb;have hb:b=p:=hb;exact h.nkey hp (by rw[<-hb,<-z];exact ha)
theorem mO(l1 l2:iu)(a:Addr)(o o':HO):aZ (l1++(a,o)::l2)=aZ (l1++(a,o')::l2):=by unfold aZ;rw[Br,Br];rfl
structure BN where
 tp:Addr
 wv:V
 ac:Addr
 as:List V
 d:Ah
 ds:List Ah
abbrev HN:=Addr×List BN
def BN.ob(b:BN):iu:=[(b.tp,.tup [b.wv,.ref b.ac]),(b.ac,.lst b.as)]
def fD(h:HN):HO:=.lst (h.2.map λb=>V.ref b.tp)
def cu(h:HN):iu:=(h.1,fD h)::h.2.flatMap BN.ob
def eQ(tr:List HN):HO:=.lst (tr.map λh=>V.ref h.1)
def aO(aN aH:Addr)(xN:List V)(tr:List HN):iu:=(aN,.lst xN)::(aH,eQ tr)::tr.flatMap cu
def dq(tr:List HN):Hs:=tr.map λh=>h.2.map λb=>(b.d,b.ds)
def BT(B:Addr->Prop)(l:iu)(b:Addr):Prop:=B b\/b∈aZ l
structure Tre(H0 H:Hp)(B:Addr->Prop)(aN aH:Addr)(xN:List V)(ns:List Ah)(tr:List HN):Prop where
 hol:Hol H (aO aN aH xN tr)
 nd:(aZ (aO aN aH xN tr)).Nodup
 fr:∀a∈aZ (aO aN aH xN tr),H0 a=af
 rN:RdXs H (BT B (aO aN aH xN tr)) xN ns
 rB:∀h∈tr,∀b∈h.2,RdX H (BT B (aO aN aH xN tr)) b.wv b.d/\RdXs H (BT B (aO aN aH xN tr)) b.as b.ds
 sz:ns.length<=12/\tr.length<=5/\∀h∈tr,h.2.length<=6/\∀b∈h.2,b.ds.length<=8
section
variable{H0 H H':Hp}{B:Addr->Prop}{aN aH:Addr}{xN:List V}{ns:List Ah}{tr:List HN}
theorem pS{l l':iu}(h:Hol H l)(k:∀b o,H b=ae o->b∉aZ l->H' b=ae o)(n:∀b∈aZ l',b∈aZ l\/H b=af):∀b o,H b=ae o->¬BT B l b->H' b=ae o/\¬BT B l' b:=λb o e nb=>
 ⟨k b o e λz=>nb (.inr z),λz=>z.elim (λz=>nb (.inl z)) λz=>(n b z).elim (λz=>nb (.inr z)) λz=>by rw[e]at z;cases z⟩
theorem Tre.notes(T:Tre H0 H B aN aH xN ns tr):H aN=ae (.lst xN):=T.hol _ Am
theorem Tre.hands(T:Tre H0 H B aN aH xN ns tr):H aH=ae (eQ tr):=T.hol _ (Al _ Am)
theorem Tre.hand(T:Tre H0 H B aN aH xN ns tr){h:HN}(hh:h∈tr):H h.1=ae (fD h):=T.hol (h.1,fD h) (Al _ (Al _ (Dg.mpr ⟨h,hh,Am⟩)))
theorem Tre.blk(T:Tre H0 H B aN aH xN ns tr){h:HN}(hh:h∈tr){b:BN}(hb:b∈h.2):H b.tp=ae (.tup [b.wv,.ref b.ac])/\H b.ac=ae (.lst b.as):=
 ⟨T.hol (b.tp,.tup [b.wv,.ref b.ac]) (Al _ (Al _ (Dg.mpr ⟨h,hh,Al _ (Dg.mpr ⟨b,hb,Am⟩)⟩))),
  T.hol (b.ac,.lst b.as) (Al _ (Al _ (Dg.mpr ⟨h,hh,Al _ (Dg.mpr ⟨b,hb,Al _ Am⟩)⟩)))⟩
theorem Tre.out{t:Addr}(T:Tre H0 H B aN aH xN ns tr)(k:Kp t H H')(bt:B t)(h0:H0 t≠af):Tre H0 H' B aN aH xN ns tr:=
 have nt:∀a∈aZ (aO aN aH xN tr),a≠t:=λa ha z=>h0 (z▸T.fr a ha);have g:∀b o,H b=ae o->¬BT B (aO aN aH xN tr) b->H' b=ae o/\¬BT B (aO aN aH xN tr) b:=λb o e n=>⟨k b o e λz=>n (.inl (z▸bt)),n⟩
 ⟨λp hp=>k _ _ (T.hol p hp) (nt _ (List.mem_map_of_mem hp)),T.nd,T.fr,T.rN.move g,λh hh b hb=>⟨(T.rB h hh b hb).1.move g,(T.rB h hh b hb).2.move g⟩,T.sz⟩
theorem Tre.dataN(T:Tre H0 H B aN aH xN ns tr)(hB:∀b,B b->H0 b≠af):RdX H B (.ref aN) (.list ns):=by
 refine .lst T.notes (λz=>hB aN z (T.fr aN Am)) ?_ (T.rN.less λb z=>.inl z);rw[T.rN.len];exact An T.sz.1 ∎
theorem Tre.dataH(T:Tre H0 H B aN aH xN ns tr)(hB:∀b,B b->H0 b≠af):RdX H B (.ref aH) (i0 (dq tr)):=by
 have nb:∀a∈aZ (aO aN aH xN tr),¬B a:=λa ha z=>hB a z (T.fr a ha);refine .lst T.hands (nb aH (Al _ Am)) (by rw[Ap];exact An T.sz.2.1 ∎) ?_;have key:∀l:List HN,(∀h∈l,h∈tr)->RdXs H B (l.map λh=>V.ref h.1) ((dq l).map cx):=λl=>by
  induction l with
  |nil=>exact λ_=>.nil
  |cons h l ih=>
   intro hl;have hh:=hl h Am;refine .cons (.lst (T.hand hh) (nb _ (Al _ (Al _ (Dc.mpr ⟨(h.1,fD h),Dg.mpr ⟨h,hh,Am⟩,rfl⟩)))) (by rw[Ap];exact An (T.sz.2.2 h hh).1 ∎) ?_) (ih λx hx=>hl x (Al _ hx));have kb:∀l:List BN,(∀b∈l,b∈h.2)->RdXs H B (l.map λb=>V.ref b.tp) ((l.map λb=>(b.d,b.ds)).map i5):=λl=>by
    induction l with
    |nil=>exact λ_=>.nil
    |cons b l ih2=>
     intro hb;have hbm:=hb b Am;have mk:∀x∈BN.ob b,x.1∈aZ (aO aN aH xN tr):=λx hx=>Al _ (Al _ (Dc.mpr ⟨x,Dg.mpr ⟨h,hh,Al _ (Dg.mpr ⟨b,hbm,hx⟩)⟩,rfl⟩));have r:=T.rB h hh b hbm;refine .cons (.tup (T.blk hh hbm).1 (nb _ (mk _ Am)) (show 2<=Ao by decide) (.cons (r.1.less λb z=>.inl z) (.cons (.lst (T.blk hh hbm).2 (nb _ (mk _ (Al _ Am))) ?_ (r.2.less λb z=>.inl z)) .nil))) (ih2 λx hx=>hb x (Al _ hx));rw[r.2.len];exact An ((T.sz.2.2 h hh).2 b hbm) ∎
   exact kb h.2 λb hb=>hb
 exact key tr λh hh=>hh
theorem Tre.note(T:Tre H0 H B aN aH xN ns tr){v:V}{d:Ah}(hv:RdX H (BT B (aO aN aH xN tr)) v d)(hl:ns.length < 12):Tre H0 (upd H aN (.lst (xN++[v]))) B aN aH (xN++[v]) (ns++[d]) tr:=by
 have kk:aZ (aO aN aH xN tr)=aZ (aO aN aH (xN++[v]) tr):=rfl;have g:∀b o,H b=ae o->¬BT B (aO aN aH xN tr) b->upd H aN (.lst (xN++[v])) b=ae o/\¬BT B (aO aN aH (xN++[v]) tr) b:=pS T.hol (λb o e nb=>by rw[aM λ(z:b=aN)=>nb (z▸Am)];exact e) λb hb=>.inl (by rw[kk];exact hb);exact⟨Hol.rep (l1:=[]) T.hol T.nd,T.nd,T.fr,(T.rN.move g).append (.cons (hv.move g) .nil),λh hh b hb=>⟨(T.rB h hh b hb).1.move g,(T.rB h hh b hb).2.move g⟩,by rw[A0,B5];exact⟨by omega,T.sz.2⟩⟩
theorem Tre.newHand(T:Tre H0 H B aN aH xN ns tr){p:Addr}(hp:H p=af)(f0:∀x,H x=af->H0 x=af)(hl:tr.length < 5):Tre H0 (upd (upd H p (.lst [])) aH (eQ (tr++[(p,[])]))) B aN aH xN ns (tr++[(p,[])]):=by
 have e:aO aN aH xN (tr++[(p,[])])=[(aN,.lst xN)]++(aH,eQ (tr++[(p,[])]))::(tr.flatMap cu++[(p,.lst [])]):=by
  unfold aO;rw[Cu];rfl
 have e0:aO aN aH xN tr++[(p,.lst [])]=[(aN,.lst xN)]++(aH,eQ tr)::(tr.flatMap cu++[(p,.lst [])]):=rfl;have h1:Hol (upd H p (.lst [])) ([(aN,.lst xN)]++(aH,eQ tr)::(tr.flatMap cu++[(p,.lst [])])):=by rw[<-e0];exact T.hol.add hp
 have n1:(aZ ([(aN,.lst xN)]++(aH,eQ tr)::(tr.flatMap cu++[(p,.lst [])]))).Nodup:=by rw[<-e0];exact T.hol.nodup T.nd hp
 have kk:∀b,b∈aZ (aO aN aH xN (tr++[(p,[])]))->b∈aZ (aO aN aH xN tr)\/b=p:=λb hb=>by
  rw[e,<-mO _ _ aH (eQ tr),<-e0]at hb;unfold aZ at hb;rw[Br]at hb;exact(Bi.mp hb).imp id λz=>A6.mp z
 have g:∀b o,H b=ae o->¬BT B (aO aN aH xN tr) b->upd (upd H p (.lst [])) aH (eQ (tr++[(p,[])])) b=ae o/\¬BT B (aO aN aH xN (tr++[(p,[])])) b:=pS T.hol (λb o e nb=>by
  rw[aM λ(z:b=aH)=>nb (z▸Al _ Am),aM (bQ e hp)];exact e) λb hb=>(kk b hb).imp id λz=>by rw[z];exact hp
 refine⟨by rw[e];exact h1.rep n1,by rw[e,<-mO _ _ aH (eQ tr)];exact n1,λa ha=>?_,T.rN.move g,λh hh b hb=>?_,T.sz.1,by rw[A0,B5];omega,λh hh=>?_⟩
 ·rcases kk a ha with z|rfl
  ·exact T.fr a z
  ·exact f0 _ hp
 ·rcases Bi.mp hh with hh|hh
  ·exact⟨(T.rB h hh b hb).1.move g,(T.rB h hh b hb).2.move g⟩
  ·rw[A6.mp hh]at hb;exact absurd hb A9
 ·rcases Bi.mp hh with hh|hh
  ·exact T.sz.2.2 h hh
  ·rw[A6.mp hh];exact⟨Bx _,λb hb=>absurd hb A9⟩
theorem Tre.newBlock{tr0:List HN}{a:Addr}{bs:List BN}(T:Tre H0 H B aN aH xN ns (tr0++[(a,bs)])){p q:Addr}{mv:V}{d:Ah}(hv:RdX H (BT B (aO aN aH xN (tr0++[(a,bs)]))) mv d)(hp:H p=af)(hq:upd H p (.lst []) q=af)(f0:∀x,H x=af->H0 x=af)(hl:bs.length < 6):
  Tre H0 (upd (upd (upd H p (.lst [])) q (.tup [mv,.ref p])) a (fD (a,bs++[⟨q,mv,p,[],d,[]⟩]))) B aN aH xN ns (tr0++[(a,bs++[⟨q,mv,p,[],d,[]⟩])]):=by
 have hqp:q≠p:=λz=>by rw[z,bw]at hq;cases hq
 have hq0:H q=af:=by rw[aM hqp]at hq;exact hq
 have eL:eQ (tr0++[(a,bs++[⟨q,mv,p,[],d,[]⟩])])=eQ (tr0++[(a,bs)]):=by unfold eQ;rw[Br,Br];rfl
 have e:aO aN aH xN (tr0++[(a,bs++[⟨q,mv,p,[],d,[]⟩])])=((aN,.lst xN)::(aH,eQ (tr0++[(a,bs)]))::tr0.flatMap cu)++(a,fD (a,bs++[⟨q,mv,p,[],d,[]⟩]))::(bs.flatMap BN.ob++[(q,.tup [mv,.ref p]),(p,.lst [])]):=by
  unfold aO;rw[eL,Cu];show _::_::(tr0.flatMap cu++((cu (a,bs++[⟨q,mv,p,[],d,[]⟩]))++[]))=_;unfold cu;rw[Cu,Cc];rfl
 have eo:aO aN aH xN (tr0++[(a,bs)])=((aN,.lst xN)::(aH,eQ (tr0++[(a,bs)]))::tr0.flatMap cu)++(a,fD (a,bs))::bs.flatMap BN.ob:=by
  unfold aO;rw[Cu];show _::_::(tr0.flatMap cu++((cu (a,bs))++[]))=_;rw[Cc];rfl
 have h1:Hol (upd (upd H p (.lst [])) q (.tup [mv,.ref p])) (aO aN aH xN (tr0++[(a,bs)])++[(q,.tup [mv,.ref p]),(p,.lst [])]):=λx hx=>by
  rcases Bi.mp hx with hx|hx
  ·have:=T.hol x hx;rw[aM (bQ this hq0),aM (bQ this hp)];exact this
  ·rcases A5.mp hx with rfl|hx
   ·exact bw
   ·rw[A6.mp hx];show upd (upd H p (.lst [])) q (.tup [mv,.ref p]) p=_;rw[aM (Ne.symm hqp)];exact bw
 have n1:(aZ (aO aN aH xN (tr0++[(a,bs)])++[(q,.tup [mv,.ref p]),(p,.lst [])])).Nodup:=by
  unfold aZ;rw[Br,List.nodup_append];refine⟨T.nd,by simp[hqp],λx hx y hy z=>?_⟩;subst z;rcases A5.mp hy with rfl|hy
  ·exact T.hol.nkey hq0 hx
  ·rw[List.map_singleton,A6]at hy;subst hy;exact T.hol.nkey hp hx
 have e1:aO aN aH xN (tr0++[(a,bs)])++[(q,.tup [mv,.ref p]),(p,.lst [])]=((aN,.lst xN)::(aH,eQ (tr0++[(a,bs)]))::tr0.flatMap cu)++(a,fD (a,bs))::(bs.flatMap BN.ob++[(q,.tup [mv,.ref p]),(p,.lst [])]):=by rw[eo,Cj];rfl
 rw[e1]at h1 n1;have kk:∀b,b∈aZ (aO aN aH xN (tr0++[(a,bs++[⟨q,mv,p,[],d,[]⟩])]))->b∈aZ (aO aN aH xN (tr0++[(a,bs)]))\/b=q\/b=p:=λb hb=>by
  rw[e,<-mO _ _ a (fD (a,bs)),<-e1]at hb;unfold aZ at hb;rw[Br]at hb;exact(Bi.mp hb).imp id λz=>by simpa using z
 have ha:a∈aZ (aO aN aH xN (tr0++[(a,bs)])):=by
  rw[eo];unfold aZ;rw[Br];exact Bb _ Am
 have g:∀b o,H b=ae o->¬BT B (aO aN aH xN (tr0++[(a,bs)])) b->upd (upd (upd H p (.lst [])) q (.tup [mv,.ref p])) a (fD (a,bs++[⟨q,mv,p,[],d,[]⟩])) b=ae o/\¬BT B (aO aN aH xN (tr0++[(a,bs++[⟨q,mv,p,[],d,[]⟩])])) b:=pS T.hol (λb o e nb=>by
  rw[aM λ(z:b=a)=>nb (z▸ha),aM (bQ e hq0),aM (bQ e hp)];exact e) λb hb=>(kk b hb).imp id λz=>z.elim (λz=>by rw[z];exact hq0) λz=>by rw[z];exact hp
 refine⟨by rw[e];exact h1.rep n1,by rw[e,<-mO _ _ a (fD (a,bs))];exact n1,λx hx=>?_,T.rN.move g,λh hh b hb=>?_,T.sz.1,by have:=T.sz.2.1;rw[A0]at this ⊢;exact this,λh hh=>?_⟩
 ·rcases kk x hx with z|rfl|rfl
  ·exact T.fr x z
  ·exact f0 _ hq0
  ·exact f0 _ hp
 ·rcases Bi.mp hh with hh|hh
  ·have:=T.rB h (Cg _ hh) b hb;exact⟨this.1.move g,this.2.move g⟩
  ·rw[A6.mp hh]at hb;rcases Bi.mp hb with hb|hb
   ·have:=T.rB (a,bs) (Bb _ Am) b hb;exact⟨this.1.move g,this.2.move g⟩
   ·rw[A6.mp hb];exact⟨hv.move g,.nil⟩
 ·rcases Bi.mp hh with hh|hh
  ·exact T.sz.2.2 h (Cg _ hh)
  ·rw[A6.mp hh];have:=T.sz.2.2 (a,bs) (Bb _ Am);refine⟨by show(bs++[_]).length<=6;rw[A0,B5];omega,λb hb=>?_⟩;rcases Bi.mp hb with hb|hb
   ·exact this.2 b hb
   ·rw[A6.mp hb];exact Bx _
theorem Tre.newAct{tr0:List HN}{a:Addr}{bs:List BN}{b:BN}(T:Tre H0 H B aN aH xN ns (tr0++[(a,bs++[b])])){mv:V}{d:Ah}(hv:RdX H (BT B (aO aN aH xN (tr0++[(a,bs++[b])]))) mv d)(hl:b.ds.length < 8):
  Tre H0 (upd H b.ac (.lst (b.as++[mv]))) B aN aH xN ns (tr0++[(a,bs++[{ b with as:=b.as++[mv],ds:=b.ds++[d]}])]):=by
 have eL:eQ (tr0++[(a,bs++[{ b with as:=b.as++[mv],ds:=b.ds++[d]}])])=eQ (tr0++[(a,bs++[b])]):=by unfold eQ;rw[Br,Br];rfl
 have eh:fD (a,bs++[{ b with as:=b.as++[mv],ds:=b.ds++[d]}])=fD (a,bs++[b]):=by unfold fD;show HO.lst (Eu _ (bs++[_]))=HO.lst (Eu _ (bs++[_]));rw[Br,Br];rfl
 have form:∀(b':BN),b'.tp=b.tp->b'.wv=b.wv->b'.ac=b.ac->aO aN aH xN (tr0++[(a,bs++[b'])])=((aN,.lst xN)::(aH,eQ (tr0++[(a,bs++[b'])]))::(tr0.flatMap cu++((a,fD (a,bs++[b']))::(bs.flatMap BN.ob++[(b.tp,.tup [b.wv,.ref b.ac])]))))++(b.ac,.lst b'.as)::[]:=λb' e1 e2 e3=>by
  unfold aO;rw[Cu];show _::_::(tr0.flatMap cu++((cu (a,bs++[b']))++[]))=_;unfold cu;rw[Cu,Cc];show _::_::(_++_::(bs.flatMap BN.ob++(BN.ob b'++[])))=_;unfold BN.ob;rw[e1,e2,e3];simp
 have eo:=form b rfl rfl rfl;have en:=form {b with as:=b.as++[mv],ds:=b.ds++[d]} rfl rfl rfl;rw[eL,eh]at en;have hol:=T.hol;have nd:=T.nd;rw[eo]at hol nd;have kk:aZ (aO aN aH xN (tr0++[(a,bs++[{ b with as:=b.as++[mv],ds:=b.ds++[d]}])]))=aZ (aO aN aH xN (tr0++[(a,bs++[b])])):=by rw[en,eo];exact(mO _ _ _ _ _)
 have ha:b.ac∈aZ (aO aN aH xN (tr0++[(a,bs++[b])])):=by
  rw[eo];unfold aZ;rw[Br];exact Bb _ Am
 have g:∀x o,H x=ae o->¬BT B (aO aN aH xN (tr0++[(a,bs++[b])])) x->upd H b.ac (.lst (b.as++[mv])) x=ae o/\¬BT B (aO aN aH xN (tr0++[(a,bs++[{ b with as:=b.as++[mv],ds:=b.ds++[d]}])])) x:=pS T.hol (λx o e nb=>by
  rw[aM λ(z:x=b.ac)=>nb (z▸ha)];exact e) λx hx=>.inl (by rw[kk]at hx;exact hx)
 have hb0:=T.rB (a,bs++[b]) (Bb _ Am);refine⟨by rw[en];exact hol.rep nd,by rw[kk];exact T.nd,λx hx=>T.fr x (by rw[<-kk];exact hx),T.rN.move g,λh hh c hc=>?_,T.sz.1,by have:=T.sz.2.1;rw[A0]at this ⊢;exact this,λh hh=>?_⟩
 ·rcases Bi.mp hh with hh|hh
  ·have:=T.rB h (Cg _ hh) c hc;exact⟨this.1.move g,this.2.move g⟩
  ·rw[A6.mp hh]at hc;rcases Bi.mp hc with hc|hc
   ·have:=hb0 c (Cg _ hc);exact⟨this.1.move g,this.2.move g⟩
   ·rw[A6.mp hc];have:=hb0 b (Bb _ Am);exact⟨this.1.move g,(this.2.move g).append (.cons (hv.move g) .nil)⟩
 ·rcases Bi.mp hh with hh|hh
  ·exact T.sz.2.2 h (Cg _ hh)
  ·rw[A6.mp hh];have:=T.sz.2.2 (a,bs++[b]) (Bb _ Am);refine⟨by have:=this.1;show(bs++[_]).length<=6;rw[A0]at this ⊢;exact this,λc hc=>?_⟩;rcases Bi.mp hc with hc|hc
   ·exact this.2 c (Cg _ hc)
   ·rw[A6.mp hc];show(b.ds++[d]).length<=8;rw[A0,B5];omega
end
theorem yp{C:DL.Ctx}{H H':Hp}{B B':Addr->Prop}{v:V}{x:Ah}{σ σ':St}{k:Nat}{n n':Int}(R:Rel C H B (ae v::σ) (ae (.w (.d x))::Ax k af) n)(T:Tp H' C.t C.l C.ns n')(kp:Kp C.t H H')(b1:∀b,B b->B' b)(b2:∀b,B' b->B b\/(H b=af/\H' b≠af))(hl:σ'.length=σ.length):
  Rel C H' B' (ae v::σ') (ae (.w (.d x))::Ax k af) n':=by
 have R':=R.step T kp;have nn:∀(i:Nat)(y:SV),(ae (SV.w (.d x))::Ax k af)[i]?=ae (ae y)->i=0/\y=.w (.d x):=λi y e=>by
  cases i with
  |zero=>exact⟨rfl,(Bp (Bp e)).symm⟩
  |succ i=>
   rw[Bo,D7]at e
   split at e<;>cases e
 have r0:RdX H B v x:=by
  obtain⟨u,e,r⟩:=R.sl 0 _ rfl;cases e;exact r.1
 refine⟨T,R'.kp,R.t0,R.l0,R.g0,λb o e=>?_,b1 _ R.bt,λb hb=>b1 _ (R.b0 b hb),λb hb=>?_,R.a0,λi y e=>?_,λi j y z u e1 e2 o1 o2 f1 f2=>?_,?_⟩
 ·have h1:=R.fz b o e;refine⟨(R'.fz b o e).1,λz=>?_⟩;rcases b2 b z with z|z
  ·exact h1.2 z
  ·rw[h1.1]at z;cases z.1
 ·rcases b2 b hb with z|z
  ·exact R'.ba b z
  ·exact z.2
 ·obtain⟨rfl,rfl⟩:=nn i y e;refine⟨v,rfl,r0.move λb o e nb=>⟨kp b o e λz=>nb (z▸R.bt),λz=>?_⟩,λz=>by cases z⟩;rcases b2 b z with z|z
  ·exact nb z
  ·rw[e]at z;cases z.1
 ·obtain⟨rfl,rfl⟩:=nn i y e1;cases o1
 ·rw[Bd,Bd,Ft,hl];have:=R.len;rw[Bd,Bd,Ft]at this;exact this
abbrev rL(Ed:eB):aW:=aw (bB (cT (aT mz (ao ↥2 aj))) (i9 (wB aU (ao ↥0 aj)) ⇑0 Ed) a8) (aw (bb 6 (aq (ao (wB fk (ao (aJ (cv [af] (iD ↥2) (bg 0) aX (aT qc (ao ↥0 aj)))) aj)) (ao (wB fk (ao ↥1 aj)) aj)))) (aw (l9 jx (ao ↥6 aj) Ed) (aC ↥6)))
def kS(Ed:eB)(m:Nat)(n:Int)(Q:Wv->Int->Prop):(Nat×Nat) ⊕ (List Ah×Hs)->Prop
 |.inl q=>∀δ,Ed (q.1:Nat) (q.2:Nat) δ n
 |.inr p=>if fL p.2=ah then ∀δ,Ed (m:Nat) 0 δ n else ∃Ps:List (List Bl),p.2.map (λbs=>Gq (bs.map eV))=Ps.map cg/\(∀P∈Ps,P.length<=100/\∀b∈P,iq b)/\match fZ p.1.length Ps with
  |some q=>∀δ,Ed (q.1:Nat) (q.2:Nat) δ n
  |none=>Q (.d (.tuple [.tuple (Ps.map cg),.tuple p.1])) n
def vQ(Ed:eB):aW:=λδ n K=>∃ls:List Str,δ=ae (.w (.d (bh ls)))::Ax 6 af/\ls.length<=100/\(∀x∈ls,x.length<=500)/\kS Ed ls.length n K.rt (fG 0 (ls.map λx=>Ba x bz) [] [])
theorem Ox:∀ws n Q E,lY ws n Q E->ws.length=1:=λws n Q E h=>by obtain⟨_,rfl,_⟩:=h;rfl
abbrev Zb:List Str:=["lines","notes","hands","line","text","words","plan"]
theorem K5:∀ws n Q E,lY ws n Q E->vQ (λi j _ n=>E i j n) (dj Zb ws) n {nx:=λ_ n=>Q (.d .none) n,rt:=Q}:=λws n Q E h=>by
 obtain⟨ls,rfl,h1,h2,q⟩:=h;refine⟨ls,rfl,h1,h2,?_⟩;cases hl:fG 0 (ls.map λx=>Ba x bz) [] []with
 |inl p=>rw[hl]at q;exact λ_=>q
 |inr p=>
  rw[hl]at q;show if fL p.2=ah then _ else _
  dsimp only at q;by_cases h:fL p.2=ah
  ·rw[if_pos h]at q ⊢;exact λ_=>q
  ·rw[if_neg h]at q ⊢;obtain⟨Ps,e1,e2,q⟩:=q;refine⟨Ps,e1,e2,?_⟩;cases hr:fZ p.1.length Ps with
   |none=>rw[hr]at q;exact q
   |some x=>rw[hr]at q;exact λ_=>q
theorem MT{Ed:eB}{ls:List Str}{ns:List Ah}{hs:Hs}{x3 x4 x5 x6:Option SV}{n:Int}{K:DEnds}(hb:∀bs∈hs,bs.length<=100)(q:kS Ed ls.length n K.rt (.inr (ns,hs))):rL Ed [ae (.w (.d (bh ls))),ae (.w (.d (.list ns))),ae (.w (.d (i0 hs))),x3,x4,x5,x6] n K:=by
 have q:if fL hs=ah then ∀δ,Ed (ls.length:Nat) 0 δ n else ∃Ps:List (List Bl),hs.map (λbs=>Gq (bs.map eV))=Ps.map cg/\(∀P∈Ps,P.length<=100/\∀b∈P,iq b)/\match fZ ns.length Ps with
  |some q=>∀δ,Ed (q.1:Nat) (q.2:Nat) δ n
  |none=>K.rt (.d (.tuple [.tuple (Ps.map cg),.tuple ns])) n:=q
 have cl:∀Q:Bool->Int->Prop,Q (fL hs) n->cT (aT mz (ao ↥2 aj)) [ae (.w (.d (bh ls))),ae (.w (.d (.list ns))),ae (.w (.d (i0 hs))),x3,x4,x5,x6] n Q:=λQ q=>br (λQ q=>bO (aF rfl ⟨hs,rfl,q⟩)) q;by_cases h:fL hs=ah
 ·rw[if_pos h]at q;refine aR (bN (λQ q=>cl Q (by rw[h];exact q)) ?_);have rs:∀{w w2:DT}{δ:Sl}{K:DEnds},(w δ n λx n1=>w2 δ n1 λy n2=>∃i j,x=.d (.int i)/\y=.d (.int j)/\Ed i j δ n2)->i9 w w2 Ed δ n K:=λk=>k;refine rs (bU (aF rfl ?_));have ll:∀{ds:List Ah}{Q:DQ},Q (.d (.int ds.length)) n->aU [.d (.list ds)] n Q:=λk=>k;refine ll (bx ⟨((ls.length:Nat):Int),0,?_,rfl,q _⟩);rw[Ap]
 ·rw[if_neg h]at q;obtain⟨Ps,e1,e2,q⟩:=q;refine aR (bC (λQ q=>cl Q (by rw[Fw.mpr h];exact q)) ?_);dsimp only[a8];refine aR (eP (x:=.tuple [.tuple (Ps.map cg),.tuple ns]) (λQ q=>km (bU (fu ?_))) ?_)
  ·unfold cv iD;refine aF rfl ?_;have key:∀(re:List (List Bk)),(∀bs∈re,bs.length<=100)->∀(acc:List Ah)(x:Option SV)(R:List Ah->Int->Prop),R (acc++re.map (λbs=>Gq (bs.map eV))) n->c8 (bg 0) aX (aT qc (ao ↥0 aj)) R (re.map cx) acc [x] n:=λre=>by
    induction re with
    |nil=>
     intro _ acc x R k;rw[A7,Cc]at k;exact k
    |cons b re ih=>
     intro hb acc x R k;rw[Aq];unfold c8;dsimp only[bg,Bh,aX];rw[if_pos rfl];refine bO (aF rfl ⟨b,rfl,hb b Am,?_⟩);refine ih (λbs h=>hb bs (Al _ h)) (acc++[.tuple (b.map eV)]) _ R ?_;rw[Cj];exact k
   refine key hs hb [] _ _ ?_;rw[Fo,e1];refine(show fk [.d (.list (Ps.map cg))] n _ from bU (aF rfl (show fk [.d (.list ns)] n _ from By (show 2<=1000 by decide) q)))
  dsimp only[Bh];have ce:∀{S:gH}{w:DT}{δ:Sl}{K:DEnds},(w δ n λx n1=>S [x] n1 (λ_ m=>K.nx δ m) λi j m=>Ed i j δ m)->l9 S (ao w aj) Ed δ n K:=λk=>k;refine aR (ce (aF rfl ⟨Ps,ns,rfl,e2,?_⟩));cases hr:fZ ns.length Ps with
  |some x=>
   rw[hr]at q;exact q _
  |none=>
   rw[hr]at q;dsimp only;exact bJ (aF rfl q)
structure Nv(C:DL.Ctx)(H fz:Hp)(n:Int)(H':Hp):Prop where
 tp:Tp H' C.t C.l C.ns n
 kp:Kp C.t H H'
 fz:∀b o,fz b=ae o->H' b=ae o
section
variable{C:DL.Ctx}{H fz H' H'':Hp}{n:Int}{a p:Addr}{o:HO}
theorem Nv.upd(N:Nv C H fz n H')(t0:Tp H C.t C.l C.ns n)(ha:H a=af)(hf:fz a=af):Nv C H fz n (L2.upd H' a o) where
 tp:=N.tp.other (λz=>by obtain⟨_,_,h,_⟩:=t0.ob;rw[z,ha]at h;cases h) (λz=>by have:=t0.ls;rw[z,ha]at this;cases this) (λe z=>by have:=t0.ag e;rw[z,ha]at this;cases this)
 kp:=λb o' e ne=>by rw[aM (bQ e ha)];exact N.kp b o' e ne
 fz:=λb o' e=>by rw[aM (bQ e hf)];exact N.fz b o' e
theorem Nv.out(N:Nv C H fz n H')(T:Tp H'' C.t C.l C.ns n)(k:Kp C.t H' H'')(hf:fz C.t=af):Nv C H fz n H'' where
 tp:=T
 kp:=N.kp.trans k
 fz:=λb o e=>k b o (N.fz b o e) λz=>by rw[z,hf]at e;cases e
theorem Nv.fresh(N:Nv C H fz n H')(hp:H' p=af):H p=af/\fz p=af:=by
 have nt:p≠C.t:=λz=>by obtain⟨_,_,h,_⟩:=N.tp.ob;rw[<-z,hp]at h;cases h
 refine⟨?_,?_⟩
 ·cases e:H p with
  |none=>rfl
  |some o=>rw[N.kp p o e nt]at hp;cases hp
 ·cases e:fz p with
  |none=>rfl
  |some o=>rw[N.fz p o e]at hp;cases hp
theorem Nv.new(N:Nv C H fz n H')(t0:Tp H C.t C.l C.ns n)(hp:H' p=af):Nv C H fz n (L2.upd H' p o):=N.upd t0 (N.fresh hp).1 (N.fresh hp).2
end
theorem OB{h:Str}{ns:List Ah}{hs:Hs}(c:bA h ns hs=ah):∃hw:Hw,ji h=ae hw/\h=hw.s:=by
 have key:∀hw:Hw,ji hw.s=ae hw:=λhw=>by cases hw<;>rfl
 have:h="note"\/h="hand"\/h="block"\/bZ (.str h) ((Za:List Str).map .str)=ah:=by
  unfold bA at c;by_cases h0:h="note"
  ·exact .inl h0
  rw[if_neg h0]at c;by_cases h1:h="hand"
  ·exact .inr (.inl h1)
  rw[if_neg h1]at c;by_cases h2:h="block"
  ·exact .inr (.inr (.inl h2))
  rw[if_neg h2]at c;by_cases h3:bZ (.str h) ((Za:List Str).map .str)=ah
  ·exact .inr (.inr (.inr h3))
  rw[if_neg h3]at c;cases c
 rcases this with rfl|rfl|rfl|e
 ·exact⟨.note,key .note,rfl⟩
 ·exact⟨.hand,key .hand,rfl⟩
 ·exact⟨.block,key .block,rfl⟩
 ·rw[mV]at e;have e:=of_decide_eq_true e;simp only[A5,A9,or_false]at e;rcases e with rfl|rfl|rfl|rfl|rfl|rfl
  ·exact⟨.lay,key .lay,rfl⟩
  ·exact⟨.take,key .take,rfl⟩
  ·exact⟨.read,key .read,rfl⟩
  ·exact⟨.look,key .look,rfl⟩
  ·exact⟨.same,key .same,rfl⟩
  ·exact⟨.go,key .go,rfl⟩
theorem IS{hw:Hw}{ns:List Ah}{hs:Hs}(c:bA hw.s ns hs=ah)(h:3<=hw.no):∃bs b,hs.getLast?=ae bs/\bs.getLast?=ae b/\b.2.length < 8:=by
 unfold bA at c;have n0:hw.s≠"note":=by cases hw<;>first|(intro z;revert h;decide)|decide +kernel
 have n1:hw.s≠"hand":=by cases hw<;>first|(intro z;revert h;decide)|decide +kernel
 have n2:hw.s≠"block":=by cases hw<;>first|(intro z;revert h;decide)|decide +kernel
 have n3:bZ (.str hw.s) ((Za:List Str).map .str)=ah:=by cases hw<;>first|exact absurd h ∎|decide +kernel
 rw[if_neg n0,if_neg n1,if_neg n2,if_pos n3]at c;cases e:hs.getLast? with
 |none=>rw[e]at c;cases c
 |some bs=>
  rw[e]at c;dsimp only at c;cases e2:bs.getLast? with
  |none=>rw[e2]at c;cases c
  |some b=>
   rw[e2]at c;exact⟨bs,b,rfl,e2,of_decide_eq_true c⟩
theorem rb{α:Type}{l:List α}{x:α}(h:l.getLast?=ae x):∃l0,l=l0++[x]:=by
 have hne:l≠[]:=λz=>by rw[z]at h;cases h
 refine⟨l.dropLast,?_⟩;rw[List.getLast?_eq_some_getLast hne]at h;cases h;exact(List.dropLast_concat_getLast hne).symm
theorem k8(tr:List HN)(h:HN):dq (tr++[h])=dq tr++[h.2.map λb=>(b.d,b.ds)]:=by unfold dq;rw[Br];rfl
abbrev CU(K:Ag):TE:=eJ (kM K) (cn 5) (tC (.int 0))
abbrev v8(K:Ag)(Cl:Addr)(E:XK):TS:=mj (jr y9 [] E0 (cE (CU K) (cE (l7 (lG Cl "line" "word" mS) (λ_=>E) (cE (cn 3) (cE (cn 5) bG))) (cE (cn 1) (cE (cn 2) bG)))))
abbrev rX(K:Ag)(Cl:Addr)(E:XK):TS:=jN (lF (tB (jr (fe pZ) [] E0 (cE (CU K) (cE (cn 1) (cE (cn 2) bG)))))) (pB Cl "line" "word" (λ_ Cl dx H=>E (.ref Cl) (ae dx) H) (cn 3) (tC (.int 0))) wz
abbrev nX(K:Ag)(Cl:Addr)(E:XK):TS:=fV (eM (jv K "str" tF (cn 4) (cE (tC (.str " ")) bG)) (gp 5)) (fV (rX K Cl E) (v8 K Cl E))
abbrev y3(K:Ag)(Cl:Addr)(E:XK)(Ts:TS):TS:=fV (eM (jH bG) (gp 1)) (fV (eM (jH bG) (gp 2)) (fV (iU (mI K (cE (cn 0) bG)) (iJ K 2 (me (gp 3) (me (gp 4) jI))) (nX K Cl E)) Ts))
theorem Mf{α:Type}{l:List α}{i:Nat}{x:α}(h:l[i]?=ae x):l.drop i=x::l.drop (i+1):=by
 obtain⟨hi,e⟩:=Bs.mp h;rw[F7 hi,e]
theorem IK{H H':Hp}{t:Addr}{l:TL}{ns:List Int}{n:Int}(T:Tp H t l ns n)(k:∀a o,H a=ae o->H' a=ae o):Tp H' t l ns n:=by
 obtain⟨a,b,e,h⟩:=T.ob;exact⟨⟨a,b,k _ _ e,h⟩,k _ _ T.ls,T.len,λz=>k _ _ (T.ag z),T.gne⟩
theorem NN{C:DL.Ctx}{K:Ag}{Cl:Addr}{E:XK}{Ed:eB}{Ts:TS}(hs:fX C Ts (rL Ed))(L:eT C "line" "word" Cl (λ_ Cl dx H=>E (.ref Cl) (ae dx) H) Ed)(hi:oM (mI K (cE (cn 0) bG)) (DV ↥0)):fX C (y3 K Cl E Ts) (vQ Ed):=λfz hz H B σ δ n Kd D R q Eo=>by
 obtain⟨ls,rfl,hl,hx,q⟩:=q;obtain⟨v0,e0,r0,_⟩:=R.sl 0 _ rfl;have r0:RdX H B v0 (bh ls):=r0;obtain⟨σ0,rfl,hσ⟩:∃σ0,σ=ae v0::σ0/\σ0.length=6:=by
  have:=R.len;cases σ with
  |nil=>cases e0
  |cons a r=>
   rw[Bc]at e0;cases e0;exact⟨r,rfl,by simpa using this⟩
 obtain⟨s1,s2,s3,s4,s5,s6,rfl⟩:∃a b c d e f,σ0=[a,b,c,d,e,f]:=by
  match σ0,hσ with
  |[a,b,c,d,e,f],_=>exact⟨a,b,c,d,e,f,rfl⟩
 have tH:H C.t≠af:=by obtain⟨_,_,h,_⟩:=R.tp.ob;rw[h];exact λz=>nomatch z
 have hB:∀b,B b->H b≠af:=R.ba
 refine⟨Bx _,λaN hN=>⟨Bx _,λaH hH=>?_⟩⟩;have hNH:aH≠aN:=λz=>by rw[z,bw]at hH;cases hH
 have hH0:H aH=af:=by rw[aM hNH]at hH;exact hH
 have tp1:Tp (upd (upd H aN (.lst [])) aH (.lst [])) C.t C.l C.ns n:=(R.tp.new hN).new hH;have kp1:Kp C.t H (upd (upd H aN (.lst [])) aH (.lst [])):=(Kp.new hN).trans (Kp.new hH);have T0:Tre H (upd (upd H aN (.lst [])) aH (.lst [])) B aN aH [] [] []:=by
  refine⟨λp hp=>?_,?_,λa ha=>?_,.nil,λh hh=>absurd hh A9,Bx _,Bx _,λh hh=>absurd hh A9⟩
  ·rcases A5.mp hp with rfl|hp
   ·show upd (upd H aN (.lst [])) aH (.lst []) aN=_;rw[aM (Ne.symm hNH)];exact bw
   ·rw[A6.mp hp];exact bw
  ·show[aN,aH].Nodup;simp[Ne.symm hNH]
  ·rcases A5.mp ha with rfl|ha
   ·exact hN
   ·rw[A6.mp ha];exact hH0
 have R1:Rel {C with fz:=fz} (upd (upd H aN (.lst [])) aH (.lst [])) (λb=>B b\/b=aN\/b=aH) (ae v0::[ae (.ref aN),ae (.ref aH),s3,s4,s5,s6]) (ae (.w (.d (bh ls)))::Ax 6 af) n:=yp R tp1 kp1 (λb z=>.inl z) (λb z=>z.elim .inl λz=>.inr (z.elim (λz=>by
  subst z;exact⟨hN,by rw[aM (Ne.symm hNH),bw];exact λz=>nomatch z⟩) λz=>by
  subst z;exact⟨hH0,by rw[bw];exact λz=>nomatch z⟩)) rfl
 show iU (mI K (cE (cn 0) bG)) (iJ K 2 (me (gp 3) (me (gp 4) jI))) (nX K Cl E) {D with nx:=Ts D} [ae v0,ae (.ref aN),ae (.ref aH),s3,s4,s5,s6] (upd (upd H aN (.lst [])) aH (.lst []));refine hi {C with fz:=fz} _ _ _ _ n (λds n'=>ds=fY 0 (ls.map .str)/\n'=n) _ R1 (show ak 0 _ n _ from aF rfl ⟨_,.inr rfl,rfl,rfl⟩) λJ ds H2 n2 R2 k2 hJ q2=>?_;obtain⟨rfl,rfl⟩:=q2;have ok:=hJ (bP H2 λb=>B b\/b=aN\/b=aH) (jg H2 _);have fzN:∀b,(B b\/b=aN\/b=aH)->bP H2 (λb=>B b\/b=aN\/b=aH) b=af:=λb hb=>by unfold bP;rw[if_pos hb]
 have fz2:∀b,H2 b=af->bP H2 (λb=>B b\/b=aN\/b=aH) b=af:=λb hb=>by unfold bP;split<;>first|rfl|exact hb
 have fzt:bP H2 (λb=>B b\/b=aN\/b=aH) C.t=af:=fzN _ (.inl R.bt);have fzl:∀b o,bP H2 (λb=>B b\/b=aN\/b=aH) b=ae o->H2 b=ae o/\¬(B b\/b=aN\/b=aH):=λb o e=>(jg H2 _).1 b o e;have hen:(fY 0 (ls.map C7)).length=ls.length:=by rw[ja,Ap]
 generalize bP H2 (λb=>B b\/b=aN\/b=aH)=fy at *
 let Iv:Nat->St->Hp->Prop:=λi σ' H'=>∃xN ns tr t3 t4 t5 t6,σ'=[ae v0,ae (.ref aN),ae (.ref aH),t3,t4,t5,t6]/\Tre H H' B aN aH xN ns tr/\Nv C H fy n2 H'/\(∀a∈aZ (aO aN aH xN tr),fy a=af)/\kS Ed ls.length n2 Kd.rt (fG i ((ls.drop i).map λx=>Ba x bz) ns (dq tr))
 have relB:∀{σ':St}{H':Hp},Nv C H fy n2 H'->σ'.length=6->Rel {C with fz:=fz} H' B (ae v0::σ') (ae (.w (.d (bh ls)))::Ax 6 af) n2:=λN h=>yp R N.tp N.kp (λb z=>z) (λb z=>.inl z) h;refine⟨λi m σ' H'=>m=ls.length-i/\i<=ls.length/\Iv i σ' H',⟨_,rfl,Bx _,[],[],[],s3,s4,s5,s6,rfl,T0.out k2 R.bt tH,⟨R2.tp,kp1.trans k2,λb o e=>(fzl b o e).1⟩,λa ha=>?_,q⟩,?_⟩
 ·rcases A5.mp ha with rfl|ha
  ·exact fzN _ (.inr (.inl rfl))
  ·rw[A6.mp ha];exact fzN _ (.inr (.inr rfl))
 rintro i m σ' H' ⟨rfl,hile,xN,ns,tr,t3,t4,t5,t6,rfl,T,N,hk,q⟩
 by_cases hlt:i < ls.length
 rotate_left
 ·have hil:i=ls.length:=by omega
  subst hil;rw[List.drop_length]at q;refine .inl ⟨by rw[<-hen];exact ok.stop H' N.fz,?_⟩;have Rb:=((relB (σ':=[ae (.ref aN),ae (.ref aH),t3,t4,t5,t6]) N rfl).set (i:=1) (v:=.ref aN) (x:=.d (.list ns)) (T.dataN hB) rfl).set (i:=2) (v:=.ref aH) (x:=.d (i0 (dq tr))) (T.dataH hB) rfl;refine hs fz hz H' B _ _ n2 Kd D Rb (MT (x3:=af) (x4:=af) (x5:=af) (x6:=af) (λbs hb=>?_) q) Eo;obtain⟨h,hh,rfl⟩:=Dc.mp hb;rw[Ap];exact An (T.sz.2.2 h hh).1 ∎
 obtain⟨text,htx⟩:∃x,ls[i]?=ae x:=⟨ls[i],As hlt⟩;have htl:text.length<=500:=hx text (Et htx);have hget:(fY 0 (ls.map C7))[i]?=ae (.tuple [.int (0+(i:Int)),.str text]):=by
  unfold fY;rw[Be,G6,Be,htx];simp
 rw[Mf htx,Aq]at q;refine .inr ⟨ok.go i H' N.fz (by rw[hen];exact hlt),λσ3 H3=>Iv (i+1) σ3 H3,λσ3 H3 z=>⟨ls.length-(i+1),by omega,rfl,hlt,z⟩,λx H3 hy=>?_⟩;obtain⟨sm,rd⟩:=ok.yld i H' x H3 _ N.fz hget hy;have rx:=rd (BT B (aO aN aH xN tr)) (λb o e z=>by
  rcases z with z|z
  ·exact(fzl b o e).2 (.inl z)
  ·rw[hk b z]at e;cases e) (λb z=>by
  rcases z with z|z
  ·have:=hB b z;cases hb:H b with
   |none=>exact absurd hb this
   |some o=>
    by_cases ht:b=C.t
    ·subst ht;obtain⟨_,_,h,_⟩:=N.tp.ob;rw[h];exact λz=>nomatch z
    ·rw[N.kp b o hb ht];exact λz=>nomatch z
  ·obtain⟨p,hp,rfl⟩:=Dc.mp z;rw[T.hol p hp];exact λz=>nomatch z)
 have sk:Kp C.t H' H3:=λb o e _=>sm b o e;have N3:Nv C H fy n2 H3:=N.out (IK N.tp sm) sk fzt;have T3:=T.out sk R.bt tH;cases rx with
 |@tup ya ys _ e1 e2 e3 e4=>
 cases e4 with
 |cons z1 z2=>
 cases z1;cases z2 with
 |cons z3 z4=>
 cases z3;cases z4;refine⟨ya,_,rfl,SqT.of e1,rfl,_,_,rfl,_,_,rfl,rfl,?_⟩;refine⟨.str text,rfl,rfl,text," ",rfl,rfl,by decide,An (show text.length+2<=502 by omega) ∎,λwl hwl=>?_⟩;have hbl:(" ":Str)=bz:=rfl;rw[hbl];have hpos:=PyProof.Rows.split_pos text bz;have hle:=PyProof.Rows.split_le text bz;have hsh:∀w∈Ba text bz,w.length<=500:=λw hw=>An (PyProof.Rows.part_short hw) htl;generalize Ba text bz=words at q hpos hle hsh ⊢;obtain⟨h,r,rfl⟩:∃h r,words=h::r:=by
  cases words with
  |nil=>simp at hpos
  |cons h r=>exact⟨h,r,rfl⟩
 rw[Bd]at hle;have N4:Nv C H fy n2 (upd H3 wl (.lst (Eu V.str (h::r)))):=N3.new R.tp hwl;have T4:=T3.out (Kp.new (o:=.lst (Eu V.str (h::r))) hwl) R.bt tH;have wlB:¬B wl:=λz=>hB wl z (N3.fresh hwl).1;have wlK:wl∉aZ (aO aN aH xN tr):=T3.hol.nkey hwl;have wlt:wl≠C.t:=λz=>wlB (z▸R.bt);have hw0:∀{H':Hp}{Q:VK},H' wl=ae (.lst (Eu V.str (h::r)))->Q (.str h) H'->kM K (.ref wl) (.int 0) H' Q:=λe k=>.inl ⟨wl,_,0,.str h,rfl,rfl,SqL.of e,oQ _ _,k⟩
 refine⟨.ref wl,rfl,hw0 bw ⟨.ref aN,rfl,.ref aH,rfl,C.t,C.l,C.ns,B,[.d (.str h),.d (.list ns),.d (i0 (dq tr))],n2,λx n'=>x=.d (.bool (bA h ns (dq tr)))/\n'=n2,N4.tp,R.bt,(relB (σ':=[af,af,af,af,af,af]) N4 rfl).ba,?_,⟨h,ns,dq tr,rfl,rfl,rfl⟩,?_⟩⟩
 ·exact .cons (show RdX _ B _ (.str h)from .str h (An (hsh h Am) ∎)) (.cons (show RdX _ B _ (.list ns)from T4.dataN hB) (.cons (show RdX _ B _ (i0 (dq tr))from T4.dataH hB) .nil))
 rintro w n' ⟨rfl,rfl⟩ v H5 tp5 k5 rv
 cases(show RdX H5 B v (.bool (bA h ns (dq tr)))from rv);have N5:=N4.out tp5 k5 fzt;have T5:=T4.out k5 R.bt tH;refine⟨bA h ns (dq tr),rfl,?_⟩;unfold fG oB at q;dsimp only at q;cases hc:bA h ns (dq tr)with
 |false=>
  rw[if_neg (by rw[hc];decide)]at q;show if (!ai)=ah then _ else _
  rw[if_pos ∎];refine⟨_,rfl,λea dx hea hdx hne=>?_⟩;have ez:(0:Int)+(i:Int)=(i:Int):=Int.zero_add _;rw[ez];exact L fz hz _ B (ae v0::[af,af,af,af,af,af]) (ae (.w (.d (bh ls)))::Ax 6 af) n' i 0 dx (relB (N5.new R.tp hdx) rfl) (q _) bw
 |true=>
  rw[if_pos hc]at q;obtain⟨hw,hw1,rfl⟩:=OB hc;rw[hw1]at q;dsimp only at q;show if (!ah)=ah then _ else _
  rw[if_neg ∎];have hw5:H5 wl=ae (.lst (Eu V.str (hw.s::r))):=k5 wl _ bw wlt;have rw5:RdX H5 (BT B (aO aN aH xN tr)) (.ref wl) (fJ hw r):=.lst hw5 (λz=>z.elim wlB wlK) (by rw[Ap,Bd];exact An (show r.length+1<=502 by omega) ∎) (sj λy hy=>An (hsh y hy) ∎);have ba5:∀b,BT B (aO aN aH xN tr) b->H5 b≠af:=λb z=>by
   rcases z with z|z
   ·exact(relB (σ':=[af,af,af,af,af,af]) N5 rfl).ba b z
   ·obtain⟨p,hp,rfl⟩:=Dc.mp z;rw[T5.hol p hp];exact λz=>nomatch z
  refine⟨.ref wl,rfl,hw0 hw5 ⟨.int (0+(i:Int)),rfl,.ref wl,rfl,C.t,C.l,C.ns,BT B (aO aN aH xN tr),[.d (.int (0+(i:Int))),.d (fJ hw r)],n',λx n1=>∃d,cS hw r=.inr d/\x=.d d/\n1=n',λa b n1=>∃m:Nat,cS hw r=.inl m/\a=0+(i:Int)/\b=(m:Nat)/\n1=n',N5.tp,.inl R.bt,ba5,?_,⟨_,hw,r,rfl,by omega,?_⟩,?_,?_⟩⟩
  ·exact .cons (show RdX H5 _ _ (.int _)from .int _) (.cons (show RdX H5 _ _ (fJ hw r)from rw5) .nil)
  ·cases hr:cS hw r with
   |inl m=>exact⟨m,rfl,rfl,rfl,rfl⟩
   |inr d=>exact⟨d,rfl,rfl,rfl⟩
  ·rintro x n1 ⟨d,hd,rfl,rfl⟩ v H6 tp6 k6 rq
   rw[hd]at q;have rv6:RdX H6 (BT B (aO aN aH xN tr)) v d:=rq;have N6:=N5.out tp6 k6 fzt;have T6:=T5.out k6 R.bt tH;have f6:∀x,H6 x=af->H x=af:=λx hx=>(N6.fresh hx).1;refine⟨.ref aN,rfl,.ref aH,rfl,hw,v,aN,aH,rfl,?_⟩;have act:3<=hw.no->ly hw v aN aH H6 (λH'=>Iv (i+1) [ae v0,ae (.ref aN),ae (.ref aH),ae (.int (0+(i:Int))),ae (.str text),ae (.ref wl),t6] H'):=λh3=>by
    obtain⟨bs,b,hb1,hb2,hb3⟩:=IS hc h3;obtain⟨hs0,ehs⟩:=rb hb1;obtain⟨bs0,rfl⟩:=rb hb2;obtain⟨tr0,hl0,rfl⟩:∃tr0 hl0,tr=tr0++[hl0]:=by
     rcases List.eq_nil_or_concat tr with z|⟨a,b,z⟩
     ·rw[z]at ehs;have:=congrArg Gn ehs;simp[dq]at this
     ·exact⟨a,b,by rw[z,List.concat_eq_append]⟩
    rw[k8]at ehs;obtain⟨rfl,ehl⟩:=List.append_inj' ehs rfl;have ehl:=(Fd ehl).1;obtain⟨la,lb⟩:=hl0;dsimp only at ehl;obtain⟨lb0,nb,rfl⟩:∃lb0 nb,lb=lb0++[nb]:=by
     rcases List.eq_nil_or_concat lb with z|⟨a,b,z⟩
     ·rw[z]at ehl;have:=congrArg Gn ehl;simp at this
     ·exact⟨a,b,by rw[z,List.concat_eq_append]⟩
    rw[Br,List.map_singleton]at ehl;obtain⟨rfl,ehb⟩:=List.append_inj' ehl rfl;have ehb:=(Fd ehb).1;subst ehb;have hm:(la,lb0++[nb])∈tr0++[(la,lb0++[nb])]:=Bb _ Am;have hm2:nb∈(la,lb0++[nb]).2:=Bb _ Am;have hlen:nb.as.length < Ao:=by
     have:=(T6.rB _ hm nb hm2).2.len;exact Fm (show nb.as.length<=8 by rw[this];exact F6 hb3) ∎
    have T7:=T6.newAct rv6 hb3;have hka:nb.ac∈aZ (aO aN aH xN (tr0++[(la,lb0++[nb])])):=Al _ (Al _ (Dc.mpr ⟨(nb.ac,.lst nb.as),Dg.mpr ⟨_,hm,Al _ (Dg.mpr ⟨nb,hm2,Al _ Am⟩)⟩,rfl⟩));have fin:Iv (i+1) [ae v0,ae (.ref aN),ae (.ref aH),ae (.int (0+(i:Int))),ae (.str text),ae (.ref wl),t6] (upd H6 nb.ac (.lst (nb.as++[v]))):=by
     refine⟨xN,ns,_,_,_,_,_,rfl,T7,N6.upd R.tp (T6.fr _ hka) (hk _ hka),λa ha=>?_,?_⟩
     ·refine hk a ?_;have e:aZ (aO aN aH xN (tr0++[(la,lb0++[{ nb with as:=nb.as++[v],ds:=nb.ds++[d]}])]))=aZ (aO aN aH xN (tr0++[(la,lb0++[nb])])):=by
       unfold aO aZ;rw[Cu,Cu];simp[cu,BN.ob]
      rw[e]at ha;exact ha
     ·have e:ib hw d ns (dq (tr0++[(la,lb0++[nb])]))=(ns,dq (tr0++[(la,lb0++[{ nb with as:=nb.as++[v],ds:=nb.ds++[d]}])])):=by
       rw[k8,k8];cases hw<;>first|exact absurd h3 ∎|(simp[ib])
      dsimp only at q;rw[e]at q;exact q
    have res:∃hs a bs tp wv ac as,H6 aH=ae (.lst hs)/\hs.getLast?=ae (.ref a)/\H6 a=ae (.lst bs)/\bs.getLast?=ae (.ref tp)/\H6 tp=ae (.tup [wv,.ref ac])/\H6 ac=ae (.lst as)/\as.length < Ao/\Iv (i+1) [ae v0,ae (.ref aN),ae (.ref aH),ae (.int (0+(i:Int))),ae (.str text),ae (.ref wl),t6] (upd H6 ac (.lst (as++[v]))):=
     ⟨_,la,_,nb.tp,nb.wv,nb.ac,nb.as,T6.hands,by rw[Br];simp,T6.hand hm,by show(Eu _ (lb0++[nb])).getLast?=_;rw[Br];simp,(T6.blk hm hm2).1,(T6.blk hm hm2).2,hlen,fin⟩
    cases hw<;>first|exact absurd h3 ∎|exact res
   cases hw with
   |note=>
    have c:(dq tr).isEmpty=ah/\ns.length < 12:=by
     have hc':((dq tr).isEmpty&&decide (ns.length < 12))=ah:=hc;rw[Cy]at hc';exact⟨hc'.1,of_decide_eq_true hc'.2⟩
    have hkn:aN∈aZ (aO aN aH xN tr):=Am;refine⟨xN,T6.notes,Fm (show xN.length<=12 by rw[T6.rN.len];omega) ∎,?_⟩;exact⟨xN++[v],ns++[d],tr,_,_,_,_,rfl,T6.note rv6 c.2,N6.upd R.tp (T6.fr _ hkn) (hk _ hkn),hk,q⟩
   |hand=>
    have c:tr.length < 5:=by
     have hc':(!fL (dq tr)&&decide ((dq tr).length < 5))=ah:=hc;rw[Cy]at hc';have:=of_decide_eq_true hc'.2;unfold dq at this;rw[Ap]at this;exact this
    have hkh:aH∈aZ (aO aN aH xN tr):=Al _ Am;refine⟨_,T6.hands,by rw[Ap];exact Bn c ∎,λp hp=>?_⟩;have eL:HO.lst (Eu (λh:HN=>V.ref h.1) tr++[.ref p])=eQ (tr++[(p,[])]):=by unfold eQ;rw[Br];rfl
    rw[eL];refine⟨xN,ns,tr++[(p,[])],_,_,_,_,rfl,T6.newHand hp f6 c,(N6.new R.tp hp).upd R.tp (T6.fr _ hkh) (hk _ hkh),λa ha=>?_,?_⟩
    ·have:a∈aZ (aO aN aH xN tr)\/a=p:=by
      unfold aO aZ at ha;rw[Cu]at ha;simp only[Aq,Br,A5,Bi]at ha;unfold aO aZ;simp only[Aq,A5];rcases ha with ha|ha|ha|ha
      ·exact .inl (.inl ha)
      ·exact .inl (.inr (.inl ha))
      ·exact .inl (.inr (.inr ha))
      ·simp[cu]at ha;exact .inr ha
     rcases this with z|rfl
     ·exact hk a z
     ·exact(N6.fresh hp).2
    ·rw[k8];exact q
   |block=>
    obtain⟨bs,hb1,hb2⟩:∃bs,(dq tr).getLast?=ae bs/\bs.length < 6:=by
     have hc':(match (dq tr).getLast? with|some bs=>decide (bs.length < 6)|none=>ai)=ah:=hc;cases e:(dq tr).getLast? with
     |none=>rw[e]at hc';cases hc'
     |some bs=>rw[e]at hc';exact⟨bs,rfl,of_decide_eq_true hc'⟩
    obtain⟨hs0,ehs⟩:=rb hb1;obtain⟨tr0,hl0,rfl⟩:∃tr0 hl0,tr=tr0++[hl0]:=by
     rcases List.eq_nil_or_concat tr with z|⟨a,b,z⟩
     ·rw[z]at ehs;have:=congrArg Gn ehs;simp[dq]at this
     ·exact⟨a,b,by rw[z,List.concat_eq_append]⟩
    rw[k8]at ehs;obtain⟨rfl,ehl⟩:=List.append_inj' ehs rfl;have ehl:=(Fd ehl).1;obtain⟨la,lb⟩:=hl0;dsimp only at ehl;subst ehl;rw[Ap]at hb2;have hm:(la,lb)∈tr0++[(la,lb)]:=Bb _ Am;have hka:la∈aZ (aO aN aH xN (tr0++[(la,lb)])):=Al _ (Al _ (Dc.mpr ⟨(la,fD (la,lb)),Dg.mpr ⟨_,hm,Am⟩,rfl⟩));refine⟨_,la,_,T6.hands,by rw[Br];simp,T6.hand hm,by rw[Ap];exact Bn hb2 ∎,λp p2 hp hp2=>?_⟩;have eL:HO.lst (Eu (λb:BN=>V.ref b.tp) (la,lb).2++[.ref p2])=fD (la,lb++[⟨p2,v,p,[],d,[]⟩]):=by unfold fD;show _=HO.lst (Eu _ (lb++[_]));rw[Br];rfl
    rw[eL];have hp2':H6 p2=af:=by
     by_cases z:p2=p
     ·rw[z,bw]at hp2;cases hp2
     ·rw[aM z]at hp2;exact hp2
    refine⟨xN,ns,_,_,_,_,_,rfl,T6.newBlock rv6 hp hp2 f6 hb2,((N6.new R.tp hp).new R.tp hp2).upd R.tp (T6.fr _ hka) (hk _ hka),λa ha=>?_,?_⟩
    ·have:a∈aZ (aO aN aH xN (tr0++[(la,lb)]))\/a=p2\/a=p:=by
      unfold aO aZ at ha ⊢;rw[Cu]at ha ⊢;simp[cu,BN.ob]at ha ⊢;rcases ha with h|h|h|h|h|h|h
      ·exact .inl (.inl h)
      ·exact .inl (.inr (.inl h))
      ·exact .inl (.inr (.inr (.inl h)))
      ·exact .inl (.inr (.inr (.inr (.inl h))))
      ·exact .inl (.inr (.inr (.inr (.inr h))))
      ·exact .inr (.inl h)
      ·exact .inr (.inr h)
     rcases this with z|rfl|rfl
     ·exact hk a z
     ·exact(N6.fresh hp2').2
     ·exact(N6.fresh hp).2
    ·have e:ib .block d ns (dq (tr0++[(la,lb)]))=(ns,dq (tr0++[(la,lb++[⟨p2,v,p,[],d,[]⟩])])):=by
      rw[k8,k8];simp[ib]
     dsimp only at q;rw[e]at q;exact q
   |_=>exact act ∎
  ·rintro a b n1 ⟨m,hm,rfl,rfl,rfl⟩ dx H6 tp6 k6 hdx
   rw[hm]at q;have ez:(0:Int)+(i:Int)=(i:Int):=Int.zero_add _;rw[ez]at hdx;exact L fz hz _ B (ae v0::[af,af,af,af,af,af]) (ae (.w (.d (bh ls)))::Ax 6 af) n1 i m dx (relB (N5.out tp6 k6 fzt) rfl) (q _) hdx
theorem JQ:∀ws n Q,i8 ws n Q->ws.length=1:=λws n Q h=>by obtain⟨_,rfl,_⟩:=h;rfl
abbrev Zj:List Str:=["_law_lines","_law_told_here","e"]
theorem Ph:dF i8 t9 Zj:=λws n Q h=>by
 obtain⟨ls,rfl,h1,h2,h3⟩:=h;show t9 [ae (.w (.d (bh ls))),af,af] n _;refine aR (show bb 1 (wC .none) _ _ _ from bx ?_);dsimp only[Bh];refine aR ?_;unfold o9 qJ;refine aF rfl ?_;refine⟨ls,rfl,h1,h2,?_⟩;have key:∀(i j:Int),Q (.d (.list [.int i,.int j])) n->(2 < [ae (SV.w (.d (bh ls))),ae (SV.w (.d .none)),af].length/\aC ↥1 (([ae (SV.w (.d (bh ls))),ae (SV.w (.d .none)),af].set 1 (ae (SV.w (.d (.list [.int i,.int j]))))).set 2 af) n {nx:=λ_ n=>Q (.d .none) n,rt:=Q}):=λi j q=>⟨Av 3,bJ (aF rfl q)⟩;cases hl:fG 0 (ls.map λx=>Ba x bz) [] []with
 |inl q=>rw[hl]at h3;exact key _ _ h3
 |inr p=>
  rw[hl]at h3;dsimp only at h3 ⊢;by_cases hb:fL p.2=ah
  ·rw[if_pos hb]at h3 ⊢;exact key _ _ h3
  ·rw[if_neg hb]at h3 ⊢;obtain⟨Ps,e1,e2,e3⟩:=h3;refine⟨Ps,e1,e2,?_⟩;cases hr:fZ p.1.length Ps with
   |some q=>rw[hr]at e3;exact key _ _ e3
   |none=>rw[hr]at e3;exact⟨_,rfl,bJ (aF rfl e3)⟩
theorem FV{Q:List Ah->Int->Prop}:∀(ds:List Ah)(cs:List Nat)(x:Option SV)(n:Int),n+(ds.length:Int) < 2 ^ 39->(∀c∈cs,c∈jS)->(∀(es:List Nat),es.length=cs.length+ds.length->(∀c∈es,c∈jS)->Q (es.map λc=>.str ⟨#[c]⟩) (n+(ds.length:Int)))->
  c8 (bg 0) aX (w2 (wC (.str "azbgmo")) (aT gY (ao ↥1 (ao ⇑6 aj))) aY) Q ds (cs.map λc=>.str ⟨#[c]⟩) [x,ae (.w .tp)] n
 |[],cs,x,n,_,hc,q=>by
  have:=q cs rfl hc;simpa[c8]using this
 |y::ds,cs,x,n,hn,hc,q=>by
  rw[Bd]at hn q;simp only[c8,bg,aX,if_true,Bw];refine aL (bx (fO (aF rfl (bx (By ⟨by omega,by decide,by decide⟩ λr h0 h1=>?_)))));obtain⟨c,e,hm⟩:∃c,dB (("azbgmo":Str).cps.toList) r=ae c/\c∈jS:=by
   have h6:("azbgmo":Str).cps.toList=jS:=by decide +kernel
   rw[h6];exact Tr h0 h1
  show(match dB (("azbgmo":Str).cps.toList) r with|some c=>_|none=>False);rw[e];dsimp only;have:=FV (Q:=Q) ds (cs++[c]) (ae (.w (.d y))) (n+1) ⋯ (λz hz=>(Bi.mp hz).elim (hc z) λh=>by rw[A6.mp h];exact hm) λes el he=>by
   have:=q es (by rw[el,A0,B5];omega) he;rw[show n+1+(ds.length:Int)=n+((ds.length+1:Nat):Int) by omega];exact this
  rw[Br]at this;exact this
theorem uR:∀es:List Nat,(Str.join ("":Str) (es.map λc=>⟨#[c]⟩)).cps.toList=es
 |[]=>rfl
 |[c]=>rfl
 |c::d::r=>by
  have:=uR (d::r);show((⟨#[c]⟩:Str)++("":Str)++Str.join ("":Str) ((d::r).map λc=>⟨#[c]⟩)).cps.toList=_;rw[E9,E9,F9,this];rfl
theorem EF:∀es:List Nat,ku (es.map λc=>C7 ⟨#[c]⟩)=ae (es.map λc=>⟨#[c]⟩)
 |[]=>rfl
 |c::r=>by
  rw[Aq,Aq,ku,EF r];rfl
abbrev Zg:List Str:=["_law_tape_here","_law_many"]
theorem UA:dF qz BF Zg:=λws n Q h=>by
 obtain⟨m,rfl,hm,hn,k⟩:=h;show BF [ae (.w .tp),ae (.w (.d (.int m)))] n _;refine bJ (show nv _ _ _ _ _ from ?_);unfold nv;refine bx ?_;dsimp only;refine fu ?_;unfold cv jB;refine aF rfl (By ⟨by omega,by omega⟩ ?_);rw[Ck];have hl:∀a m,(dC a m).length=m:=λa m=>by unfold dC;simp
 refine FV (dC 0 m) [] af n (by rw[hl];omega) (λc hc=>absurd hc A9) λes el he=>?_;rw[hl]at el ⊢;rw[List.length_nil,Nat.zero_add]at el;dsimp only;rw[EF];have hs:∀es:List Nat,((es.map λc=>(⟨#[c]⟩:Str)).map (·.length)).sum=es.length:=λes=>by
  induction es with
  |nil=>rfl
  |cons c r ih=>rw[Aq,Aq,List.sum_cons,ih,Bd];show 1+_=_;omega
 refine By ?_ (k _ _ ⟨?_,?_⟩ ⋯)
 ·rw[hs,Ap,el];have:("":Str).length=0:=by decide +kernel
  rw[this];omega
 ·unfold Txt.join;rw[StrLaws.glued_eq_join,uR,el]
 ·unfold Txt.join;rw[StrLaws.glued_eq_join,uR];exact he
theorem P5{d:Ah}(h:Small d):SmlA d:=⟨h.1,h.2.1,h.2.2.2.2,h.len⟩
theorem xo{d:Ah}{n:Int}{Q:DQ}(h:SmlA d)(k:Q (.d (.str d.shown)) n):hZ [.d d] n Q:=⟨h,k⟩
theorem ne_str{x:Str}{n:Int}{Q:DQ}(k:Q (.d (.bool ai)) n):iZ (.d (.str x)) (.d (.str x)) n Q:=by
 have e:nO (.str x) (.str x)=ae ai:=by
  show(iY (.str x) (.str x)).map not=_;unfold iY;simp
 show(match nO (.str x) (.str x)with|some r=>Q (.d (.bool r)) n|none=>False);rw[e];exact k
theorem zu:∀{ls:List Str},(∀x∈ls,A8 x=ah)->En (ls.map .str)=ah/\Ff (ls.map .str)=0
 |[],_=>⟨rfl,rfl⟩
 |x::r,h=>by
  obtain⟨a,b⟩:=zu λy hy=>h y (Al _ hy);refine⟨?_,?_⟩
  ·rw[Aq,En,a,De,h x Am];rfl
  ·rw[Aq,Ff,b,Dl];rfl
abbrev SK:aW:=(aw (bb 4 (wB kL (ao ↥2 aj))) (aw (bB (dE (cT (w2 (wB hZ (ao (aT i8 (ao ↥4 aj)) aj)) (wB hZ (ao ↥3 aj)) iZ)) (cT (w2 ↥4 ↥2 (l4 λd e=>ae (!PyData.eqv d e))))) (aC (wC (.bool ai))) a8) (bB (cT (w2 (wB hZ (ao (aT i8 (ao ↥4 aj)) aj)) (wB hZ (ao ↥3 aj)) iZ)) (aC (wC (.bool ai))) a8)))
abbrev Zi:List Str:=["_law_script","_law_tape_here","_law_lines","_law_due","_law_handed"]
theorem Oa:zx (af::ae (.w .tp)::Ax (Gn Zi-2) af) 0 nV:=by
 show zx [af,ae (.w .tp),af,af,af] 0 nV;refine aR ?_;unfold cq iD;refine aL (bO (aF rfl (By rfl ⟨by decide,λl1 n1 hl1 hr1 hn1=>bO (aF rfl (By rfl ⟨by omega,λl2 n2 hl2 hr2 hn2=>?_⟩))⟩)));refine By (An (show l1.length+l2.length<=80 by omega) ∎) ?_;dsimp only;have hr:∀d∈l1++l2,cm d:=λd hd=>(Bi.mp hd).elim (hr1 d) (hr2 d);refine kf (λds δ n=>(∀d∈ds,cm d)/\∃x2 x3 x4:Option SV,δ=[af,ae (.w .tp),x2,x3,x4]) (λδ n I=>?_) (λd r δ n N I kN=>?_) _ _ _ ⟨hr,_,_,_,rfl⟩
 ·obtain⟨_,x2,x3,x4,rfl⟩:=I;show(Wv.d (.bool ah))=.d (.bool ah);rfl
 ·obtain⟨hd,x2,x3,x4,rfl⟩:=I;obtain⟨ls,due,rfl,h1,h2,h3,h4⟩:=hd d Am;have hr':∀d∈r,cm d:=λd hd'=>hd d (Al _ hd');refine By rfl ?_;show SK [af,ae (.w .tp),ae (.w (.d (bh ls))),ae (.w (.d due)),x4] n _;refine aR (eP (x:=bh ls) (λQ q=>bU (aF rfl (show kL [.d (.list (ls.map .str))] _ _ from q))) ?_);dsimp only[Bh];have hA:=P5 h3;have tst:∀(Q:Bool->Int->Prop),Q ai n->cT (w2 (wB hZ (ao (aT i8 (ao ↥4 aj)) aj)) (wB hZ (ao ↥3 aj)) iZ) [af,ae (.w .tp),ae (.w (.d (bh ls))),ae (.w (.d due)),ae (.w (.d (bh ls)))] n Q:=λQ q=>br (λQ q=>aL (bU (bO (aF rfl (h4 _ _ (xo hA (bU (aF rfl (xo hA (ne_str q))))))))) ) q;have lay:=zu λx hx=>(h2 x hx).2;have hcl:De (bh ls)=ah:=by rw[De];exact lay.1
  have hdp:Dl (bh ls)<=20:=by rw[Dl,lay.2];decide
  have sm:∀(Q:Bool->Int->Prop),Q ai n->cT (w2 ↥4 ↥2 (l4 λd e=>ae (!PyData.eqv d e))) [af,ae (.w .tp),ae (.w (.d (bh ls))),ae (.w (.d due)),ae (.w (.d (bh ls)))] n Q:=λQ q=>br (λQ q=>aL (aF rfl (aF rfl ⟨hcl,hcl,hdp,hdp,ai,by show ae (!PyData.eqv (bh ls) (bh ls))=ae ai;rw[PySem.SeqAt.eqv_refl _ hcl];rfl,q⟩))) q;refine aR ?_;refine bC (λQ q=>P2 tst (sm _ q)) ?_;refine bC tst ?_;exact kN _ _ ⟨hr',_,_,_,rfl⟩
def bY(c:Nat):List Nat->List (List Nat)
 |[]=>[[]]
 |a::r=>if a=c then[]::bY c r else match bY c r with
  |h::t=>(a::h)::t
  |[]=>[[a]]
theorem tZ{c:Nat}:∀{l:List Nat},c∉l->bY c l=[l]
 |[],_=>rfl
 |a::r,h=>by
  have h1:a≠c:=λz=>h (z▸Am);rw[bY,if_neg h1,tZ λz=>h (Al _ z)]
theorem xH{c:Nat}{m:List Nat}:∀{l:List Nat},c∉l->bY c (l++c::m)=l::bY c m
 |[],_=>by rw[Fo,bY,if_pos rfl]
 |a::r,h=>by
  have h1:a≠c:=λz=>h (z▸Am);rw[List.cons_append,bY,if_neg h1,xH λz=>h (Al _ z)]
theorem xW(c:Nat):∀(ws:List Str),ws≠[]->(∀w∈ws,c∉w.cps.toList)->bY c (Str.join ⟨#[c]⟩ ws).cps.toList=ws.map λw=>w.cps.toList
 |[],h,_=>absurd rfl h
 |[w],_,h=>by
  show bY c w.cps.toList=[w.cps.toList];exact tZ (h w Am)
 |w::v::r,_,h=>by
  have ih:=xW c (v::r) (λz=>nomatch z) λx hx=>h x (Al _ hx);show bY c (w++(⟨#[c]⟩:Str)++Str.join ⟨#[c]⟩ (v::r)).cps.toList=_;rw[E9,E9,F9,F9,Cj];show bY c (w.cps.toList++c::(Str.join ⟨#[c]⟩ (v::r)).cps.toList)=_;rw[xH (h w Am),ih];rfl
theorem qN(x:Str):Ba x bz=(bY 32 x.cps.toList).map λl=>⟨l.toArray⟩:=by
 have hb:bz=⟨#[32]⟩:=by decide +kernel
 rw[hb];have h1:=StrLaws.join_split x ⟨#[32]⟩;have h2:=StrLaws.split_free x 32;have h3:Ba x ⟨#[32]⟩≠[]:=λz=>by
  have:=PyProof.Rows.split_pos x ⟨#[32]⟩;rw[z]at this;exact absurd this ∎
 have:=xW 32 _ h3 h2;rw[h1]at this;rw[this,List.map_map];exact(List.map_id _).symm
def gl:List (List Nat)->List (List Nat)->List (List Nat)
 |[],ys=>ys
 |[w],h::t=>(w++h)::t
 |[w],[]=>[w]
 |w::v::r,ys=>w::gl (v::r) ys
theorem oY(c:Nat)(l:List Nat):bY c l≠[]:=by
 cases l with
 |nil=>exact λz=>nomatch z
 |cons a r=>
  rw[bY]
  split
  ·exact λz=>nomatch z
  ·split<;>exact λz=>nomatch z
theorem Ke(w:List Nat)(a ys:List (List Nat))(ha:a≠[]):gl (w::a) ys=w::gl a ys:=by
 cases a with
 |nil=>exact absurd rfl ha
 |cons b r=>rfl
theorem EW(c:Nat)(m:List Nat):∀l:List Nat,bY c (l++m)=gl (bY c l) (bY c m)
 |[]=>by
  rw[Fo];show _=gl [[]] (bY c m);cases h:bY c m with
  |nil=>exact absurd h (oY c m)
  |cons a r=>rfl
 |a::r=>by
  rw[List.cons_append,bY,bY,EW c m r];by_cases h:a=c
  ·rw[if_pos h,if_pos h,Ke _ _ _ (oY c r)]
  ·rw[if_neg h,if_neg h];cases hr:bY c r with
   |nil=>exact absurd hr (oY c r)
   |cons w t=>
    dsimp only;cases t with
    |nil=>
     cases hm:bY c m with
     |nil=>exact absurd hm (oY c m)
     |cons x y=>rfl
    |cons u v=>rfl
def dy:List Str->List Str->List Str
 |[],ys=>ys
 |[w],h::t=>(w++h)::t
 |[w],[]=>[w]
 |w::v::r,ys=>w::dy (v::r) ys
theorem x8:∀(a b:List (List Nat)),(gl a b).map (λl=>(⟨l.toArray⟩:Str))=dy (a.map λl=>⟨l.toArray⟩) (b.map λl=>⟨l.toArray⟩)
 |[],ys=>rfl
 |[w],[]=>rfl
 |[w],h::t=>by
  show(⟨(w++h).toArray⟩:Str)::_=((⟨w.toArray⟩:Str)++⟨h.toArray⟩)::_
  congr 1
  apply Str.ext';rw[E9];simp
 |w::v::r,ys=>by
  show _::(gl (v::r) ys).map _=_::dy _ _;rw[x8 (v::r) ys];rfl
theorem dP(x y:Str):Ba (x++y) bz=dy (Ba x bz) (Ba y bz):=by
 rw[qN,qN,qN,E9,F9,EW,x8]
theorem iT{x:Str}(h:32∉x.cps.toList):Ba x bz=[x]:=by
 rw[qN,tZ h];rfl
theorem ee(x:Str):("":Str)++x=x:=Str.empty_append x
theorem TB{m:Nat}{x:Str}(h:az m x):32∉x.cps.toList:=λz=>by
 have:=h.2 32 z
 revert this
 decide
theorem jl{m:Nat}{x:Str}(h:az m x):Ba x bz=[x]:=iT (TB h)
theorem mE{m:Nat}{x:Str}(h:az m x):x.length=m:=by
 have:x.cps.toList.length=x.length:=C2;rw[<-this];exact h.1
theorem jL{m:Nat}{x:Str}(h:az m x)(h1:1<=m){k:Int}(hk:(m:Int)<=k):aQ k (.str x)=ah:=by
 have e:x.length=m:=mE h;show(decide ((1:Int)<=(x.length:Int))&&(decide ((x.length:Int)<=k)&&x.cps.toList.all jb))=ah;rw[e,decide_eq_true (show(1:Int)<=(m:Int) by omega),decide_eq_true hk];rw[C3,C3,C8];intro c hc;have hc:=h.2 c hc;simp only[jS,A5,A9,or_false]at hc;rcases hc with rfl|rfl|rfl|rfl|rfl|rfl<;>decide +kernel
theorem Tg{a b:Str}(h:A8 a=ah)(h':A8 b=ah):A8 (a++b)=ah:=by
 unfold A8 at *;rw[E9,Array.all_append,h,h'];rfl
theorem vP{m:Nat}{x:Str}(h:az m x):A8 x=ah:=by
 unfold A8;rw[<-Array.all_toList,C8];intro c hc;have hc:=h.2 c hc;simp only[jS,A5,A9,or_false]at hc;rcases hc with rfl|rfl|rfl|rfl|rfl|rfl<;>decide
theorem BC{m:Nat}{x:Str}(h:az (m+1) x):∃c r,x.cps.toList=c::r/\c∈jS:=by
 cases e:x.cps.toList with
 |nil=>have:=h.1;rw[e]at this;cases this
 |cons c r=>exact⟨c,r,rfl,h.2 c (by rw[e];exact Am)⟩
abbrev sK(k:Nat):Str:=Fh (k:Int)
theorem i4:∀k,k < 200->32∉(sK k).cps.toList:=by decide +kernel
theorem o8:∀k,k < 100->fb (sK k).cps.toList=ae k:=by decide +kernel
theorem v9:∀k,k < 100->fb (sK (100+k)).cps.toList=af:=by decide +kernel
theorem TY:∀k,k < 100->fb (("0":Str)++sK k).cps.toList=af:=by decide +kernel
theorem AH:∀k,k < 200->aQ 8 (.str (sK k))=ai:=by decide +kernel
theorem JP:∀k,k < 100->aQ 8 (.str (("0":Str)++sK k))=ai:=by decide +kernel
theorem Ql:∀k,k < 200->((sK k).cps.toList.head?.any λc=>decide (48<=c)&&decide (c<=57))=ah:=by decide +kernel
theorem yZ:∀k,k < 200->A8 (sK k)=ah/\(sK k).length<=3:=by decide +kernel
theorem R7:¬(("bind":Str)="is"):=by decide +kernel
theorem Rk:¬(("bind":Str)="as"):=by decide +kernel
theorem JE:¬(("as":Str)="is"):=by decide +kernel
theorem kR{n:Str}(h:aQ 4 (.str n)=ah):dM (.tuple [.str "bind",.str n])=ah:=by
 simp[dM,eE,lV,fQ,cz,iw,h,R7,Rk]
theorem Uh{n:Str}(h:aQ 4 (.str n)=ah):eE (.tuple [.str "as",.str n])=ah:=by
 simp[eE,lV,fQ,cz,iw,h,JE]
theorem rh{n:Str}(h:aQ 4 (.str n)=ah):gW (.tuple [.str "as",.str n])=ah:=by
 unfold gW;rw[Uh h];rfl
theorem vE{d:Ah}(h:dw d=ah):eE (.tuple [.str "is",d])=ah:=by
 simp[eE,fQ,cz,iw,h]
theorem Nh{d:Ah}(h:dw d=ah):dM (.tuple [.str "is",d])=ah:=by
 unfold dM;rw[vE h];simp
theorem mf:∀k:Nat,k < 100->dw (.int (k:Nat))=ah:=λk h=>by
 show(ai || (decide ((0:Int)<=(k:Int))&&decide ((k:Int)<=99)))=ah;rw[decide_eq_true (show(0:Int)<=(k:Int) by omega),decide_eq_true (show(k:Int)<=99 by omega)];rfl
theorem vt{x:Str}(h:aQ 8 (.str x)=ah):dw (.str x)=ah:=by unfold dw;rw[h];rfl
section
variable{x a n:Str}
theorem sq(h:az 8 a):cj a=.str a:=by unfold cj;rw[if_pos (jL h ∎ ∎)]
theorem qm{k:Nat}(h:k < 100):cj (sK k)=.int (k:Nat):=by
 unfold cj dY;rw[if_neg (by rw[AH k ⋯];decide),o8 k h];rfl
theorem nY(h1:aQ 8 (.str x)=ai)(h2:fb x.cps.toList=af):cj x=.none:=by
 unfold cj dY;rw[if_neg (by rw[h1];decide),h2];rfl
theorem ur:∀{l:List Nat},3<=l.length->fb l=af
 |[],h=>by simp at h
 |[_],h=>by simp at h
 |[_,_],h=>by simp at h
 |_::_::_::_,_=>rfl
theorem Ht{k:Int}(h:k < (x.length:Int)):aQ k (.str x)=ai:=by
 show(decide ((1:Int)<=(x.length:Int))&&(decide ((x.length:Int)<=k)&&x.cps.toList.all jb))=ai;rw[decide_eq_false (show ¬(x.length:Int)<=k by omega)];simp
theorem pj(x:Str):x.cps.toList.length=x.length:=C2
theorem cL(x y:Str):(x++y).length=x.length+y.length:=Str.length_append x y
theorem Sn(h:az 8 a):cj (a++"a")=.none:=by
 have e:(a++("a":Str)).length=9:=by rw[cL,mE h];rfl
 exact nY (Ht (by rw[e];decide)) (ur (by rw[pj,e];decide))
theorem qR{s:Str}{c:Nat}(hs:s.cps.toList=[c]):(s++x).cps.toList=c::x.cps.toList:=by rw[E9,F9,hs];rfl
theorem lK{s:Str}{c:Nat}(hs:s.cps.toList=[c]):dZ (s++x)=x:=by
 unfold dZ;rw[qR hs];rfl
theorem i3{s:Str}{c d:Nat}(hs:s.cps.toList=[c]):eR d (s++x)=decide (c=d):=by
 unfold eR;rw[qR hs]
theorem iQ:("?":Str).cps.toList=[63]:=by decide +kernel
theorem w4:("=":Str).cps.toList=[61]:=by decide +kernel
theorem nI:("@":Str).cps.toList=[64]:=by decide +kernel
theorem pb:(">":Str).cps.toList=[62]:=by decide +kernel
theorem jo{y:Str}{c:Nat}(hy:y.cps.toList=[c])(h:x.length≠1):¬x=y:=λz=>h (by rw[<-pj,z,hy];rfl)
theorem AK{k:Int}(h:aQ k (.str n)=ah):1<=n.length:=by
 have h:(decide ((1:Int)<=(n.length:Int))&&(decide ((n.length:Int)<=k)&&n.cps.toList.all jb))=ah:=h;rw[Cy]at h;have:=of_decide_eq_true h.1;omega
theorem kD(h:aQ 4 (.str n)=ah):eZ (("?":Str)++n)=.tuple [.str "bind",.str n]:=by
 have e1:("?":Str).length=1:=by decide +kernel
 have e2:=AK h;have e:(("?":Str)++n).length≠1:=by rw[cL,e1];omega
 unfold eZ;rw[if_neg (jo iQ e),if_neg (jo (c:=36) ∅ e),if_neg (jo (c:=35) ∅ e),i3 iQ,lK iQ,h,if_pos ∎]
theorem wW(h:aQ 4 (.str n)=ah):eZ (("=":Str)++n)=.tuple [.str "as",.str n]:=by
 have e1:("=":Str).length=1:=by decide +kernel
 have e2:=AK h;have e:(("=":Str)++n).length≠1:=by rw[cL,e1];omega
 unfold eZ;rw[if_neg (jo iQ e),if_neg (jo (c:=36) ∅ e),if_neg (jo (c:=35) ∅ e),i3 w4,i3 w4,lK w4,h,if_neg ∎,if_pos ∎]
theorem Kr(h:az 4 n):eZ (("?":Str)++n++"a")=.none:=by
 have e:(("?":Str)++n++"a").length=6:=by rw[cL,cL,mE h];rfl
 have e5:(n++("a":Str)).length=5:=by rw[cL,mE h];rfl
 rw[Str.append_assoc]at e ⊢;unfold eZ;rw[if_neg (jo iQ (by rw[e];decide)),if_neg (jo (c:=36) ∅ (by rw[e];decide)),if_neg (jo (c:=35) ∅ (by rw[e];decide)),i3 iQ,i3 iQ,i3 iQ,lK iQ,Ht (k:=4) (by rw[e5];decide),if_neg ∎,if_neg ∎,if_neg ∎];rw[nY ?_ (ur (by rw[pj,e];decide))]
 ·rfl
 ·show(_&&(_&&(("?":Str)++(n++"a")).cps.toList.all jb))=ai;rw[qR iQ,List.all_cons,show jb 63=ai by decide +kernel];simp
theorem ET{c:Nat}{r:List Nat}(hx:x.cps.toList=c::r)(h1:c≠63)(h2:c≠36)(h3:c≠35)(h4:c≠61)(h5:c≠43):eZ x=vc (cj x):=by
 have ne:∀(y:Str)(d:Nat),y.cps.toList=[d]->c≠d->¬x=y:=λy d hy hc z=>hc (by rw[z,hy]at hx;exact(Fd hx).1.symm);have st:∀d,c≠d->eR d x=ai:=λd hd=>by unfold eR;rw[hx];exact decide_eq_false hd
 unfold eZ;rw[if_neg (ne _ _ iQ h1),if_neg (ne _ 36 ∅ h2),if_neg (ne _ 35 ∅ h3),st _ h1,st _ h4,st _ h5,E6,if_neg Ak,if_neg Ak,if_neg Ak]
theorem Kt(h:az 8 a):eZ a=.tuple [.str "is",.str a]:=by
 obtain⟨c,r,e,hc⟩:=BC h;rw[ET e (λz=>by subst z;revert hc;decide) (λz=>by subst z;revert hc;decide) (λz=>by subst z;revert hc;decide) (λz=>by subst z;revert hc;decide) (λz=>by subst z;revert hc;decide),sq h];rfl
theorem zg{k:Nat}(h:k < 100):eZ (sK k)=.tuple [.str "is",.int (k:Nat)]:=by
 have hd:=Ql k ⋯;cases e:(sK k).cps.toList with
 |nil=>rw[e]at hd;cases hd
 |cons c r=>
  rw[e]at hd;have hd:(decide (48<=c)&&decide (c<=57))=ah:=hd;rw[Cy]at hd;have g1:=of_decide_eq_true hd.1;have g2:=of_decide_eq_true hd.2;rw[ET e ⋯ ⋯ ⋯ ⋯ ⋯,qm h];rfl
theorem BB{k:Nat}(h1:1<=k)(h:k<=20):eW (("@":Str)++sK k)=.int (k:Nat):=by
 have g:dg (.int (k:Nat))=ah:=by
  show(ai || (decide ((1:Int)<=(k:Int))&&decide ((k:Int)<=20)))=ah;rw[decide_eq_true (show(1:Int)<=(k:Int) by omega),decide_eq_true (show(k:Int)<=20 by omega)];rfl
 unfold eW dY;rw[i3 nI,lK nI,o8 k ⋯,if_pos ∎];show(if dg (.int (k:Nat))=ah then PyData.int (k:Nat)else .none)=_;rw[if_pos g]
theorem Km{k:Nat}(h1:21<=k)(h:k < 200):eW (("@":Str)++sK k)=.none:=by
 unfold eW dY;rw[i3 nI,lK nI,if_pos ∎];by_cases hk:k < 100
 ·rw[o8 k hk];have g:dg (.int (k:Nat))=ai:=by
   show(ai || (decide ((1:Int)<=(k:Int))&&decide ((k:Int)<=20)))=ai;rw[decide_eq_false (show ¬(k:Int)<=20 by omega)];simp
  show(if dg (.int (k:Nat))=ah then PyData.int (k:Nat)else .none)=_;rw[if_neg (by rw[g];decide)]
 ·have:=v9 (k-100) ⋯;rw[show 100+(k-100)=k by omega]at this;rw[this];show(if dg .none=ah then PyData.none else .none)=_;rw[if_pos ∎]
theorem vi{k:Nat}(h:k < 100):jR ((">":Str)++sK k)=.int (k:Nat):=by
 unfold jR dY;rw[i3 pb,lK pb,if_pos ∎,o8 k h];rfl
theorem QX{k:Nat}(h:k < 100):jR ((">":Str)++sK (100+k))=.none:=by
 unfold jR dY;rw[i3 pb,lK pb,if_pos ∎,v9 k h];rfl
end
section
variable{h:Hw}{r:List Str}{ps acc:List Ah}{t d:Ah}{w:Str}{m:Nat}
theorem ij(hp:fF h [] r=ps)(ht:gx h r ps.length=t)(h1:h.least<=ps.length)(h2:(h.leads&&eA t)=ai)(h3:r.length<=ps.length+(if eA t=ah then 0 else 1)):cS h r=.inr (uO h ps t):=by
 subst hp;subst ht;unfold cS;dsimp only;rw[if_neg]
 rintro(z|z)
 ·rw[h2,decide_eq_false (Nat.not_lt.mpr h1)]at z;cases z
 ·omega
theorem lj(hp:fF h [] r=ps)(ht:gx h r ps.length=t)(hm:1+ps.length+(if eA t=ah then 0 else 1)=m)(hb:(decide (ps.length < h.least) || (h.leads&&eA t))=ah\/m < r.length+1):cS h r=.inl m:=by
 subst hp;subst ht;subst hm;unfold cS;dsimp only;rw[if_pos hb]
theorem cI(hw:h9 h w=d)(hb:cJ h (acc++[d])=ah){x:List Ah}(k:fF h (acc++[d]) r=x):fF h acc (w::r)=x:=by rw[fF,hw,if_pos hb];exact k
theorem iW(hw:h9 h w=d)(hb:cJ h (acc++[d])=ai):fF h acc (w::r)=acc:=by rw[fF,hw,if_neg (by rw[hb];decide)]
theorem lJ:fF h acc []=acc:=rfl
theorem lx(e:m=r.length):gx h r m=.none:=by unfold gx;rw[if_pos (.inr e)]
theorem zi(e:m < h.least):gx h r m=.none:=by unfold gx;rw[if_pos (.inl e)]
theorem o7(h1:h.least<=m)(h2:m≠r.length)(e:r[m]?=ae w)(ha:h.aged=ah)(hw:eW w=d):gx h r m=d:=by
 unfold gx;rw[if_neg (by rintro(z|z)<;>omega),e];dsimp only;rw[if_pos ha,hw]
theorem nc(h1:h.least<=m)(h2:m≠r.length)(e:r[m]?=ae w)(ha:h.aged=ai)(hl:h.leads=ah)(hw:jR w=d):gx h r m=d:=by
 unfold gx;rw[if_neg (by rintro(z|z)<;>omega),e];dsimp only;rw[if_neg (by rw[ha];decide),if_pos hl,hw]
end
section
variable{a n:Str}{k m:Nat}
theorem Sd{ds:List Ah}(h1:ds.length<=4)(h0:1<=ds.length)(h:∀d∈ds,dw d=ah):fM (.tuple ds)=ah:=by
 show(decide ((1:Int)<=(ds.length:Int))&&(decide ((ds.length:Int)<=4)&&ds.all dw))=ah;rw[decide_eq_true ⋯,decide_eq_true ⋯,C8.mpr h];rfl
theorem P7{ds:List Ah}(h:(∃d∈ds,dw d=ai)\/4 < ds.length):fM (.tuple ds)=ai:=by
 show(decide ((1:Int)<=(ds.length:Int))&&(decide ((ds.length:Int)<=4)&&ds.all dw))=ai;rcases h with⟨d,hd,e⟩|h
 ·rw[show ds.all dw=ai from List.all_eq_false.mpr ⟨d,hd,by rw[e];decide⟩];simp
 ·rw[decide_eq_false (show ¬(ds.length:Int)<=4 by omega)];simp
theorem ym{ds:List Ah}(h1:ds.length<=4)(h0:1<=ds.length)(h:∀d∈ds,dM d=ah):ft (.tuple ds)=ah:=by
 show((decide ((1:Int)<=(ds.length:Int))&&decide ((ds.length:Int)<=4))&&ds.all dM)=ah;rw[decide_eq_true ⋯,decide_eq_true ⋯,C8.mpr h];rfl
theorem GQ{ds:List Ah}(h:(∃d∈ds,dM d=ai)\/4 < ds.length):ft (.tuple ds)=ai:=by
 show((decide ((1:Int)<=(ds.length:Int))&&decide ((ds.length:Int)<=4))&&ds.all dM)=ai;rcases h with⟨d,hd,e⟩|h
 ·rw[show ds.all dM=ai from List.all_eq_false.mpr ⟨d,hd,by rw[e];decide⟩];simp
 ·rw[decide_eq_false (show ¬(ds.length:Int)<=4 by omega)];simp
theorem QF{ds:List Ah}(h1:ds.length<=4)(h0:1<=ds.length)(h:∀d∈ds,gW d=ah):gD (.tuple ds)=ah:=by
 show((decide ((1:Int)<=(ds.length:Int))&&decide ((ds.length:Int)<=4))&&ds.all gW)=ah;rw[decide_eq_true ⋯,decide_eq_true ⋯,C8.mpr h];rfl
theorem N0{ds:List Ah}(h:4 < ds.length):gD (.tuple ds)=ai:=by
 show((decide ((1:Int)<=(ds.length:Int))&&decide ((ds.length:Int)<=4))&&ds.all gW)=ai;rw[decide_eq_false (show ¬(ds.length:Int)<=4 by omega)];simp
theorem iR{p:Ah->Bool}:∀d∈([]:List Ah),p d=ah:=λd hd=>absurd hd A9
theorem dz{p:Ah->Bool}{ds:List Ah}{d:Ah}(h:∀d∈ds,p d=ah)(hd:p d=ah):∀x∈ds++[d],p x=ah:=λx hx=>(Bi.mp hx).elim (h x) λz=>by rw[A6.mp z];exact hd
theorem eD{ds:List Ah}(h1:ds.length<=4)(h0:1<=ds.length)(h:∀d∈ds,dw d=ah):cJ .note ds=ah:=Sd h1 h0 h
theorem jG{ds:List Ah}(h:(∃d∈ds,dw d=ai)\/4 < ds.length):cJ .note ds=ai:=P7 h
theorem gJ{ds:List Ah}(h1:ds.length<=4)(h0:1<=ds.length)(h:∀d∈ds,dM d=ah):cJ .take ds=ah:=ym h1 h0 h
theorem tI{ds:List Ah}(h:(∃d∈ds,dM d=ai)\/4 < ds.length):cJ .take ds=ai:=GQ h
theorem jU{ds:List Ah}(h1:ds.length<=4)(h0:1<=ds.length)(h:∀d∈ds,dM d=ah):cJ .look ds=ah:=ym h1 h0 h
theorem sH{ds:List Ah}(h:(∃d∈ds,dM d=ai)\/4 < ds.length):cJ .look ds=ai:=GQ h
theorem jw{ds:List Ah}(h1:ds.length<=4)(h0:1<=ds.length)(h:∀d∈ds,gW d=ah):cJ .lay ds=ah:=QF h1 h0 h
theorem tD{ds:List Ah}(h:4 < ds.length):cJ .lay ds=ai:=N0 h
theorem eu(ha:az 8 a):cS .note [a]=.inr (.tuple [.tuple [.str a],.none]):=
 ij (h:=.note) (r:=[a]) (ps:=[.str a]) (t:=.none) (cI (h:=.note) (acc:=[]) (sq ha) (eD (by first|rfl|exact Aa rfl|exact Ab rfl|decide) (by first|rfl|exact Aa rfl|exact Ab rfl|decide) (dz iR (vt (jL ha (by first|rfl|exact Aa rfl|exact Ab rfl|decide) (by first|rfl|exact Aa rfl|exact Ab rfl|decide))))) lJ) (lx rfl) (by first|rfl|exact Aa rfl|exact Ab rfl|decide) rfl (by first|rfl|exact Aa rfl|exact Ab rfl|decide)
theorem vA:cj "a"=.str "a":=by unfold cj;rw[if_pos ∅]
theorem v0:cj "0"=.int (0:Nat):=by rw[show("0":Str)=sK 0 by decide +kernel];exact qm (by first|rfl|exact Aa rfl|exact Ab rfl|decide)
theorem v1:cj "1"=.int (1:Nat):=by rw[show("1":Str)=sK 1 by decide +kernel];exact qm (by first|rfl|exact Aa rfl|exact Ab rfl|decide)
theorem mi:dw (.str "a")=ah:=by decide +kernel
theorem Rc(hk:k < 100):cS .note ["a","a","0",sK k]=.inr (.tuple [.tuple [.str "a",.str "a",.int (0:Nat),.int (k:Nat)],.none]):=by
 have A1:=dz (p:=dw) iR mi;have A2:=dz A1 mi;have A3:=dz A2 (mf 0 (by first|rfl|exact Aa rfl|exact Ab rfl|decide));have A4:=dz A3 (mf k hk);exact ij (h:=.note) (r:=["a","a","0",sK k]) (ps:=[.str "a",.str "a",.int (0:Nat),.int (k:Nat)]) (t:=.none) (cI (h:=.note) (acc:=[]) vA (eD (by first|rfl|exact Aa rfl|exact Ab rfl|decide) (by first|rfl|exact Aa rfl|exact Ab rfl|decide) A1) (cI (h:=.note) (acc:=_) vA (eD (by first|rfl|exact Aa rfl|exact Ab rfl|decide) (by first|rfl|exact Aa rfl|exact Ab rfl|decide) A2) (cI (h:=.note) (acc:=_) v0 (eD (by first|rfl|exact Aa rfl|exact Ab rfl|decide) (by first|rfl|exact Aa rfl|exact Ab rfl|decide) A3) (cI (h:=.note) (acc:=_) (qm hk) (eD (by first|rfl|exact Aa rfl|exact Ab rfl|decide) (by first|rfl|exact Aa rfl|exact Ab rfl|decide) A4) lJ)))) (lx rfl) (by first|rfl|exact Aa rfl|exact Ab rfl|decide) rfl (by first|rfl|exact Aa rfl|exact Ab rfl|decide)
theorem Ux{x:Str}(h:eR 64 x=ai):eW x=.none:=by unfold eW;rw[if_neg (by rw[h];decide)]
theorem Qg{j c:Nat}{x:Str}(h:az (j+1) x)(hc:c∉jS):eR c x=ai:=by
 obtain⟨e,r,he,hm⟩:=BC h;unfold eR;rw[he];exact decide_eq_false λz=>hc (z▸hm)
theorem Iq(ha:az 8 a):cS .note ["a","a","0","1",a]=.inl 5:=by
 have A1:=dz (p:=dw) iR mi;have A2:=dz A1 mi;have A3:=dz A2 (mf 0 (by first|rfl|exact Aa rfl|exact Ab rfl|decide));have A4:=dz A3 (mf 1 (by first|rfl|exact Aa rfl|exact Ab rfl|decide));exact lj (h:=.note) (r:=["a","a","0","1",a]) (ps:=[.str "a",.str "a",.int (0:Nat),.int (1:Nat)]) (t:=.none) (cI (h:=.note) (acc:=[]) vA (eD (by first|rfl|exact Aa rfl|exact Ab rfl|decide) (by first|rfl|exact Aa rfl|exact Ab rfl|decide) A1) (cI (h:=.note) (acc:=_) vA (eD (by first|rfl|exact Aa rfl|exact Ab rfl|decide) (by first|rfl|exact Aa rfl|exact Ab rfl|decide) A2) (cI (h:=.note) (acc:=_) v0 (eD (by first|rfl|exact Aa rfl|exact Ab rfl|decide) (by first|rfl|exact Aa rfl|exact Ab rfl|decide) A3) (cI (h:=.note) (acc:=_) v1 (eD (by first|rfl|exact Aa rfl|exact Ab rfl|decide) (by first|rfl|exact Aa rfl|exact Ab rfl|decide) A4) (iW (h:=.note) (acc:=_) (sq ha) (jG (.inr (by first|rfl|exact Aa rfl|exact Ab rfl|decide)))))))) (o7 (h:=.note) (by first|rfl|exact Aa rfl|exact Ab rfl|decide) (by first|rfl|exact Aa rfl|exact Ab rfl|decide) rfl rfl (Ux (Qg ha (by first|rfl|exact Aa rfl|exact Ab rfl|decide)))) rfl (.inr (by first|rfl|exact Aa rfl|exact Ab rfl|decide))
theorem k9{x:Str}(hx:cj x=.none):cS .note [x]=.inl 1:=
 lj (h:=.note) (r:=[x]) (ps:=[]) (t:=.none) (iW (h:=.note) (acc:=[]) hx (jG (.inl ⟨.none,A6.mpr rfl,by decide⟩))) (zi (by first|rfl|exact Aa rfl|exact Ab rfl|decide)) rfl (.inl (by first|rfl|exact Aa rfl|exact Ab rfl|decide))
theorem GG{x:Str}(hx:2<=x.length):cj (("@":Str)++x)=.none:=by
 have e1:("@":Str).length=1:=by decide +kernel
 refine nY ?_ (ur (by rw[pj,cL,e1];omega));show(_&&(_&&(("@":Str)++x).cps.toList.all jb))=ai;rw[qR nI,List.all_cons,show jb 64=ai by decide +kernel];simp
theorem vg:cS .note ["a","@20"]=.inr (.tuple [.tuple [.str "a"],.int (20:Nat)]):=by
 have e:("@20":Str)="@"++sK 20:=by decide +kernel
 rw[e];exact ij (h:=.note) (r:=["a","@"++sK 20]) (ps:=[.str "a"]) (t:=.int (20:Nat)) (cI (h:=.note) (acc:=[]) vA (eD (by first|rfl|exact Aa rfl|exact Ab rfl|decide) (by first|rfl|exact Aa rfl|exact Ab rfl|decide) (dz iR mi)) (iW (h:=.note) (acc:=_) (GG ∅) (jG (.inl ⟨.none,Bb _ (A6.mpr rfl),by decide⟩)))) (o7 (h:=.note) (by first|rfl|exact Aa rfl|exact Ab rfl|decide) (by first|rfl|exact Aa rfl|exact Ab rfl|decide) rfl rfl (BB (by first|rfl|exact Aa rfl|exact Ab rfl|decide) (by first|rfl|exact Aa rfl|exact Ab rfl|decide))) (by first|rfl|exact Aa rfl|exact Ab rfl|decide) rfl (by first|rfl|exact Aa rfl|exact Ab rfl|decide)
theorem Jv:∀k,k < 100->2<=(sK (21+k)).length:=by decide +kernel
theorem uH(hk:k < 100):cS .note ["a","@"++sK (21+k)]=.inl 2:=
 lj (h:=.note) (r:=["a","@"++sK (21+k)]) (ps:=[.str "a"]) (t:=.none) (cI (h:=.note) (acc:=[]) vA (eD (by first|rfl|exact Aa rfl|exact Ab rfl|decide) (by first|rfl|exact Aa rfl|exact Ab rfl|decide) (dz iR mi)) (iW (h:=.note) (acc:=_) (GG (Jv k hk)) (jG (.inl ⟨.none,Bb _ (A6.mpr rfl),by decide⟩)))) (o7 (h:=.note) (by first|rfl|exact Aa rfl|exact Ab rfl|decide) (by first|rfl|exact Aa rfl|exact Ab rfl|decide) rfl rfl (Km ⋯ ⋯)) rfl (.inr (by first|rfl|exact Aa rfl|exact Ab rfl|decide))
theorem dR:cS .hand []=.inr (.tuple []):=rfl
theorem cV:cS .block []=.inr (.tuple []):=rfl
theorem kd{ds:List Ah}(h:kP (.tuple ds)=ah):cJ .block ds=ah:=h
theorem KH{ds:List Ah}(h:kP (.tuple ds)=ai):cJ .block ds=ai:=h
abbrev Zh:List Str:=["a","b","c","d"]
theorem MY:cS .block Zh=.inr (.tuple [.str "a",.str "b",.str "c",.str "d"]):=
 ij (h:=.block) (r:=Zh) (ps:=[.str "a",.str "b",.str "c",.str "d"]) (t:=.none) (cI (h:=.block) (acc:=[]) rfl (kd ∅) (cI (h:=.block) (acc:=_) rfl (kd ∅) (cI (h:=.block) (acc:=_) rfl (kd ∅) (cI (h:=.block) (acc:=_) rfl (kd ∅) lJ)))) (lx rfl) (by first|rfl|exact Aa rfl|exact Ab rfl|decide) rfl (by first|rfl|exact Aa rfl|exact Ab rfl|decide)
theorem Sy:cS .block ["a","b","c","d","e"]=.inl 5:=
 lj (h:=.block) (r:=["a","b","c","d","e"]) (ps:=[.str "a",.str "b",.str "c",.str "d"]) (t:=.none) (cI (h:=.block) (acc:=[]) rfl (kd ∅) (cI (h:=.block) (acc:=_) rfl (kd ∅) (cI (h:=.block) (acc:=_) rfl (kd ∅) (cI (h:=.block) (acc:=_) rfl (kd ∅) (iW (h:=.block) (acc:=_) rfl (KH ∅)))))) (by unfold gx;rw[if_neg (by first|rfl|exact Aa rfl|exact Ab rfl|decide)];rfl) rfl (.inr (by first|rfl|exact Aa rfl|exact Ab rfl|decide))
theorem QI(hn:az 4 n):cS .block [n]=.inr (.tuple [.str n]):=
 ij (h:=.block) (r:=[n]) (ps:=[.str n]) (t:=.none) (cI (h:=.block) (acc:=[]) rfl (by
  show(decide (((1:Nat):Int)<=4)&&((aQ 4 (.str n)&&ah)&&ah))=ah;rw[jL hn (by first|rfl|exact Aa rfl|exact Ab rfl|decide) (by first|rfl|exact Aa rfl|exact Ab rfl|decide)];rfl) lJ) (lx rfl) (by first|rfl|exact Aa rfl|exact Ab rfl|decide) rfl (by first|rfl|exact Aa rfl|exact Ab rfl|decide)
theorem AM{x:Str}{r:List Str}:fF .go [] (x::r)=[]:=iW (h:=.go) (acc:=[]) rfl rfl
theorem HA(hk:k < 100):cS .go [">"++sK k]=.inr (.tuple [.str "go",.int (k:Nat)]):=
 ij (h:=.go) (r:=[">"++sK k]) (ps:=[]) (t:=.int (k:Nat)) AM (nc (h:=.go) (by first|rfl|exact Aa rfl|exact Ab rfl|decide) (by first|rfl|exact Aa rfl|exact Ab rfl|decide) rfl rfl rfl (vi hk)) (by first|rfl|exact Aa rfl|exact Ab rfl|decide) rfl (by first|rfl|exact Aa rfl|exact Ab rfl|decide)
theorem rR:(">0":Str)=">"++sK 0:=by decide +kernel
theorem gk:cS .go [">0"]=.inr (.tuple [.str "go",.int (0:Nat)]):=by rw[rR];exact HA (by first|rfl|exact Aa rfl|exact Ab rfl|decide)
theorem Nf(hk:k < 100):cS .go [">"++sK (100+k)]=.inl 1:=
 lj (h:=.go) (r:=[">"++sK (100+k)]) (ps:=[]) (t:=.none) AM (nc (h:=.go) (by first|rfl|exact Aa rfl|exact Ab rfl|decide) (by first|rfl|exact Aa rfl|exact Ab rfl|decide) rfl rfl rfl (QX hk)) rfl (.inl (by first|rfl|exact Aa rfl|exact Ab rfl|decide))
theorem NM(hn:az 4 n):cS .take ["?"++n]=.inr (.tuple [.str "take",.tuple [.tuple [.str "bind",.str n]]]):=
 have hl:=jL hn (by first|rfl|exact Aa rfl|exact Ab rfl|decide) (show((4:Nat):Int)<=4 by decide)
 ij (h:=.take) (r:=["?"++n]) (ps:=[.tuple [.str "bind",.str n]]) (t:=.none) (cI (h:=.take) (acc:=[]) (kD hl) (gJ (by first|rfl|exact Aa rfl|exact Ab rfl|decide) (by first|rfl|exact Aa rfl|exact Ab rfl|decide) (dz iR (kR hl))) lJ) (lx rfl) (by first|rfl|exact Aa rfl|exact Ab rfl|decide) rfl (by first|rfl|exact Aa rfl|exact Ab rfl|decide)
theorem ra(hn:az 4 n):cS .take ["?"++n++"a"]=.inl 1:=
 lj (h:=.take) (r:=["?"++n++"a"]) (ps:=[]) (t:=.none) (iW (h:=.take) (acc:=[]) (Kr hn) (tI (.inl ⟨.none,A6.mpr rfl,by decide +kernel⟩))) (zi (by first|rfl|exact Aa rfl|exact Ab rfl|decide)) rfl (.inl (by first|rfl|exact Aa rfl|exact Ab rfl|decide))
theorem fW:eZ "$"=.tuple [.str "word"]:=by unfold eZ;rw[if_neg ∅,if_pos rfl]
theorem fN:eZ "#"=.tuple [.str "number"]:=by unfold eZ;rw[if_neg ∅,if_neg ∅,if_pos rfl]
theorem fA:eZ "?"=.tuple [.str "any"]:=by unfold eZ;rw[if_pos rfl]
abbrev ny(k:Nat):List Ah:=[.tuple [.str "word"],.tuple [.str "number"],.tuple [.str "any"],.tuple [.str "is",.int (k:Nat)]]
theorem xx(hk:k < 100){x:Str}{r:List Str}:fF .look [] ("$"::"#"::"?"::sK k::x::r)=ny k:=by
 have A1:=dz (p:=dM) iR (show dM (.tuple [.str "word"])=ah by decide +kernel);have A2:=dz A1 (show dM (.tuple [.str "number"])=ah by decide +kernel);have A3:=dz A2 (show dM (.tuple [.str "any"])=ah by decide +kernel);have A4:=dz A3 (Nh (mf k hk));exact cI (h:=.look) (acc:=[]) fW (jU (by first|rfl|exact Aa rfl|exact Ab rfl|decide) (by first|rfl|exact Aa rfl|exact Ab rfl|decide) A1) (cI (h:=.look) (acc:=_) fN (jU (by first|rfl|exact Aa rfl|exact Ab rfl|decide) (by first|rfl|exact Aa rfl|exact Ab rfl|decide) A2) (cI (h:=.look) (acc:=_) fA (jU (by first|rfl|exact Aa rfl|exact Ab rfl|decide) (by first|rfl|exact Aa rfl|exact Ab rfl|decide) A3) (cI (h:=.look) (acc:=_) (zg hk) (jU (by first|rfl|exact Aa rfl|exact Ab rfl|decide) (by first|rfl|exact Aa rfl|exact Ab rfl|decide) A4) (iW (h:=.look) (acc:=_) rfl (sH (.inr (by first|rfl|exact Aa rfl|exact Ab rfl|decide)))))))
theorem Sf(hk:k < 100):cS .look ["$","#","?",sK k,">0"]=.inr (.tuple [.str "look",.tuple (ny k),.int (0:Nat)]):=
 ij (h:=.look) (r:=["$","#","?",sK k,">0"]) (ps:=ny k) (t:=.int (0:Nat)) (xx hk) (nc (h:=.look) (by first|rfl|exact Aa rfl|exact Ab rfl|decide) (by first|rfl|exact Aa rfl|exact Ab rfl|decide) rfl rfl rfl (by rw[rR];exact vi (by first|rfl|exact Aa rfl|exact Ab rfl|decide))) (by first|rfl|exact Aa rfl|exact Ab rfl|decide) rfl (by first|rfl|exact Aa rfl|exact Ab rfl|decide)
theorem HM(hk:k < 100):cS .look ["$","#","?",sK k,"a",">0"]=.inl 5:=
 lj (h:=.look) (r:=["$","#","?",sK k,"a",">0"]) (ps:=ny k) (t:=.none) (xx hk) (nc (h:=.look) (by first|rfl|exact Aa rfl|exact Ab rfl|decide) (by first|rfl|exact Aa rfl|exact Ab rfl|decide) rfl rfl rfl (by unfold jR;rw[if_neg ∅])) rfl (.inr (by first|rfl|exact Aa rfl|exact Ab rfl|decide))
theorem lA:aQ 4 (.str "a")=ah:=by decide +kernel
theorem lB:aQ 4 (.str "b")=ah:=by decide +kernel
theorem lC:aQ 4 (.str "c")=ah:=by decide +kernel
theorem lD:aQ 4 (.str "d")=ah:=by decide +kernel
theorem lE:aQ 4 (.str "e")=ah:=by decide +kernel
abbrev bD(x:Str):Ah:=.tuple [.str "bind",.str x]
abbrev aD(x:Str):Ah:=.tuple [.str "as",.str x]
theorem S6:cS .take ["?a","?b","?c","?d"]=.inr (.tuple [.str "take",.tuple [bD "a",bD "b",bD "c",bD "d"]]):=by
 rw[show("?a":Str)="?"++"a" by decide +kernel,show("?b":Str)="?"++"b" by decide +kernel,show("?c":Str)="?"++"c" by decide +kernel,show("?d":Str)="?"++"d" by decide +kernel];have A1:=dz (p:=dM) iR (kR lA);have A2:=dz A1 (kR lB);have A3:=dz A2 (kR lC);have A4:=dz A3 (kR lD);exact ij (h:=.take) (r:=[("?":Str)++"a",("?":Str)++"b",("?":Str)++"c",("?":Str)++"d"]) (ps:=[bD "a",bD "b",bD "c",bD "d"]) (t:=.none) (cI (h:=.take) (acc:=[]) (kD lA) (gJ (by first|rfl|exact Aa rfl|exact Ab rfl|decide) (by first|rfl|exact Aa rfl|exact Ab rfl|decide) A1) (cI (h:=.take) (acc:=_) (kD lB) (gJ (by first|rfl|exact Aa rfl|exact Ab rfl|decide) (by first|rfl|exact Aa rfl|exact Ab rfl|decide) A2) (cI (h:=.take) (acc:=_) (kD lC) (gJ (by first|rfl|exact Aa rfl|exact Ab rfl|decide) (by first|rfl|exact Aa rfl|exact Ab rfl|decide) A3) (cI (h:=.take) (acc:=_) (kD lD) (gJ (by first|rfl|exact Aa rfl|exact Ab rfl|decide) (by first|rfl|exact Aa rfl|exact Ab rfl|decide) A4) lJ)))) (lx rfl) (by first|rfl|exact Aa rfl|exact Ab rfl|decide) rfl (by first|rfl|exact Aa rfl|exact Ab rfl|decide)
theorem Il(hn:az 4 n):cS .take ["?e","?"++n]=.inr (.tuple [.str "take",.tuple [bD "e",bD n]]):=by
 have hl:=jL hn (by first|rfl|exact Aa rfl|exact Ab rfl|decide) (show((4:Nat):Int)<=4 by decide);rw[show("?e":Str)="?"++"e" by decide +kernel];have A1:=dz (p:=dM) iR (kR lE);have A2:=dz A1 (kR hl);exact ij (h:=.take) (r:=[("?":Str)++"e","?"++n]) (ps:=[bD "e",bD n]) (t:=.none) (cI (h:=.take) (acc:=[]) (kD lE) (gJ (by first|rfl|exact Aa rfl|exact Ab rfl|decide) (by first|rfl|exact Aa rfl|exact Ab rfl|decide) A1) (cI (h:=.take) (acc:=_) (kD hl) (gJ (by first|rfl|exact Aa rfl|exact Ab rfl|decide) (by first|rfl|exact Aa rfl|exact Ab rfl|decide) A2) lJ)) (lx rfl) (by first|rfl|exact Aa rfl|exact Ab rfl|decide) rfl (by first|rfl|exact Aa rfl|exact Ab rfl|decide)
theorem RA:eZ "+d"=.tuple [.str "next",.str "d"]:=by
 unfold eZ;rw[if_neg ∅,if_neg ∅,if_neg ∅,if_neg ∅,if_neg ∅,if_pos ∅,show dZ "+d"="d" by decide +kernel]
theorem O2(hn:az 4 n)(h1:1<=k)(hk:k<=20):cS .lay ["=a","=e","="++n,"+d","@"++sK k]=.inr (.tuple [.str "lay",.tuple [aD "a",aD "e",aD n,.tuple [.str "next",.str "d"]],.int (k:Nat)]):=by
 have hl:=jL hn (by first|rfl|exact Aa rfl|exact Ab rfl|decide) (show((4:Nat):Int)<=4 by decide);rw[show("=a":Str)="="++"a" by decide +kernel,show("=e":Str)="="++"e" by decide +kernel];have A1:=dz (p:=gW) iR (rh lA);have A2:=dz A1 (rh lE);have A3:=dz A2 (rh hl);have A4:=dz A3 (show gW (.tuple [.str "next",.str "d"])=ah by decide +kernel);exact ij (h:=.lay) (r:=[("=":Str)++"a",("=":Str)++"e","="++n,"+d","@"++sK k]) (ps:=[aD "a",aD "e",aD n,.tuple [.str "next",.str "d"]]) (t:=.int (k:Nat)) (cI (h:=.lay) (acc:=[]) (wW lA) (jw (by first|rfl|exact Aa rfl|exact Ab rfl|decide) (by first|rfl|exact Aa rfl|exact Ab rfl|decide) A1) (cI (h:=.lay) (acc:=_) (wW lE) (jw (by first|rfl|exact Aa rfl|exact Ab rfl|decide) (by first|rfl|exact Aa rfl|exact Ab rfl|decide) A2) (cI (h:=.lay) (acc:=_) (wW hl) (jw (by first|rfl|exact Aa rfl|exact Ab rfl|decide) (by first|rfl|exact Aa rfl|exact Ab rfl|decide) A3) (cI (h:=.lay) (acc:=_) RA (jw (by first|rfl|exact Aa rfl|exact Ab rfl|decide) (by first|rfl|exact Aa rfl|exact Ab rfl|decide) A4) (iW (h:=.lay) (acc:=_) rfl (tD (by first|rfl|exact Aa rfl|exact Ab rfl|decide))))))) (o7 (h:=.lay) (by first|rfl|exact Aa rfl|exact Ab rfl|decide) (by first|rfl|exact Aa rfl|exact Ab rfl|decide) rfl rfl (BB h1 hk)) (by first|rfl|exact Aa rfl|exact Ab rfl|decide) rfl (by first|rfl|exact Aa rfl|exact Ab rfl|decide)
theorem Nm(ha:az 8 a)(hk:k < 100):cS .same [a,sK k,">0"]=.inr (.tuple [.str "same",.tuple [.str "is",.str a],.tuple [.str "is",.int (k:Nat)],.int (0:Nat)]):=by
 have A1:=dz (p:=eE) iR (vE (vt (jL ha (by first|rfl|exact Aa rfl|exact Ab rfl|decide) (show((8:Nat):Int)<=8 by decide))));have A2:=dz A1 (vE (mf k hk));have beg:∀ds:List Ah,ds.length<=2->(∀d∈ds,eE d=ah)->cJ .same ds=ah:=λds h1 h2=>by
  show(decide ((ds.length:Int)<=2)&&ds.all eE)=ah;rw[decide_eq_true ⋯,C8.mpr h2];rfl
 have begN:∀ds:List Ah,ds.length=3->cJ .same ds=ai:=λds h1=>by
  show(decide ((ds.length:Int)<=2)&&ds.all eE)=ai;rw[h1];rfl
 exact ij (h:=.same) (r:=[a,sK k,">0"]) (ps:=[.tuple [.str "is",.str a],.tuple [.str "is",.int (k:Nat)]]) (t:=.int (0:Nat)) (cI (h:=.same) (acc:=[]) (Kt ha) (beg _ (by first|rfl|exact Aa rfl|exact Ab rfl|decide) A1) (cI (h:=.same) (acc:=_) (zg hk) (beg _ (by first|rfl|exact Aa rfl|exact Ab rfl|decide) A2) (iW (h:=.same) (acc:=_) rfl (begN _ rfl)))) (nc (h:=.same) (by first|rfl|exact Aa rfl|exact Ab rfl|decide) (by first|rfl|exact Aa rfl|exact Ab rfl|decide) rfl rfl rfl (by rw[rR];exact vi (by first|rfl|exact Aa rfl|exact Ab rfl|decide))) (by first|rfl|exact Aa rfl|exact Ab rfl|decide) rfl (by first|rfl|exact Aa rfl|exact Ab rfl|decide)
end
section
variable{hw:Hw}{h:Str}{r:List Str}{rest:List (List Str)}{i m:Nat}{ns ns':List Ah}{hs hs':Hs}{d:Ah}{x:(Nat×Nat) ⊕ (List Ah×Hs)}
theorem nM(hw:Hw):ji hw.s=ae hw:=by cases hw<;>rfl
theorem aB(hw:Hw)(hc:bA hw.s ns hs=ah)(hl:cS hw r=.inr d)(hp:ib hw d ns hs=(ns',hs'))(k:fG (i+1) rest ns' hs'=x):fG i ((hw.s::r)::rest) ns hs=x:=by
 unfold fG oB;dsimp only;rw[if_pos hc,nM];dsimp only;rw[hl];dsimp only;rw[hp];exact k
theorem jn(hw:Hw)(hc:bA hw.s ns hs=ah)(hl:cS hw r=.inl m):fG i ((hw.s::r)::rest) ns hs=.inl (i,m):=by
 unfold fG oB;dsimp only;rw[if_pos hc,nM];dsimp only;rw[hl]
theorem ph(hc:bA h ns hs=ai):fG i ((h::r)::rest) ns hs=.inl (i,0):=by
 unfold fG oB;dsimp only;rw[if_neg (by rw[hc];decide)]
theorem nh:¬(Hw.hand.s="note"):=by decide +kernel
theorem AQ:¬(Hw.block.s="note"):=by decide +kernel
theorem FL:¬(Hw.block.s="hand"):=by decide +kernel
theorem c5(h:ns.length < 12):bA Hw.note.s ns []=ah:=by
 unfold bA;rw[if_pos (show Hw.note.s="note" from rfl),decide_eq_true h];rfl
theorem Um(h:12<=ns.length):bA Hw.note.s ns hs=ai:=by
 unfold bA;rw[if_pos (show Hw.note.s="note" from rfl),decide_eq_false ⋯];simp
theorem dS(h:fL hs=ai)(h5:hs.length < 5):bA Hw.hand.s ns hs=ah:=by
 unfold bA;rw[if_neg nh,if_pos (show Hw.hand.s="hand" from rfl),h,decide_eq_true h5];rfl
theorem Jf(h5:5<=hs.length):bA Hw.hand.s ns hs=ai:=by
 unfold bA;rw[if_neg nh,if_pos (show Hw.hand.s="hand" from rfl),decide_eq_false ⋯];simp
theorem cF{bs:List Bk}(h:hs.getLast?=ae bs)(hb:bs.length < 6):bA Hw.block.s ns hs=ah:=by
 unfold bA;rw[if_neg AQ,if_neg FL,if_pos (show Hw.block.s="block" from rfl),h];exact decide_eq_true hb
theorem QM{bs:List Bk}(h:hs.getLast?=ae bs)(hb:6<=bs.length):bA Hw.block.s ns hs=ai:=by
 unfold bA;rw[if_neg AQ,if_neg FL,if_pos (show Hw.block.s="block" from rfl),h];exact decide_eq_false ⋯
theorem gZ(h1:¬h="note")(h2:¬h="hand")(h3:¬h="block")(h4:bZ (.str h) ((Za:List Str).map .str)=ah){bs:List Bk}{b:Bk}(e:hs.getLast?=ae bs)(e2:bs.getLast?=ae b):bA h ns hs=decide (b.2.length < 8):=by
 unfold bA;rw[if_neg h1,if_neg h2,if_neg h3,if_pos h4,e];dsimp only;rw[e2]
theorem cC{bs:List Bk}{b:Bk}(e:hs.getLast?=ae bs)(e2:bs.getLast?=ae b)(hb:b.2.length < 8):bA Hw.go.s ns hs=ah:=by
 rw[gZ ∅ ∅ ∅ ∅ e e2];exact decide_eq_true hb
theorem Tz{bs:List Bk}{b:Bk}(e:hs.getLast?=ae bs)(e2:bs.getLast?=ae b)(hb:8<=b.2.length):bA Hw.go.s ns hs=ai:=by
 rw[gZ ∅ ∅ ∅ ∅ e e2];exact decide_eq_false ⋯
theorem oU{bs:List Bk}{b:Bk}(e:hs.getLast?=ae bs)(e2:bs.getLast?=ae b)(hb:b.2.length < 8):bA Hw.take.s ns hs=ah:=by
 rw[gZ ∅ ∅ ∅ ∅ e e2];exact decide_eq_true hb
theorem TN{bs:List Bk}{b:Bk}(e:hs.getLast?=ae bs)(e2:bs.getLast?=ae b)(hb:b.2.length < 8):bA Hw.lay.s ns hs=ah:=by
 rw[gZ ∅ ∅ ∅ ∅ e e2];exact decide_eq_true hb
theorem zB{bs:List Bk}{b:Bk}(e:hs.getLast?=ae bs)(e2:bs.getLast?=ae b)(hb:b.2.length < 8):bA Hw.look.s ns hs=ah:=by
 rw[gZ ∅ ∅ ∅ ∅ e e2];exact decide_eq_true hb
theorem KR{bs:List Bk}{b:Bk}(e:hs.getLast?=ae bs)(e2:bs.getLast?=ae b)(hb:b.2.length < 8):bA Hw.same.s ns hs=ah:=by
 rw[gZ ∅ ∅ ∅ ∅ e e2];exact decide_eq_true hb
end
section
variable{ls:List Str}{due:Ah}{wss:List (List Str)}{i j:Nat}{ns:List Ah}{hs:Hs}{Ps:List (List Bl)}
def bI(x:Str):Prop:=x.length<=100/\A8 x=ah
theorem pV(h1:ls.length<=100)(h2:∀x∈ls,bI x)(h3:Small due)(h4:∀(n:Int) (Q:DQ),Q (.d due) n->i8 [.d (bh ls)] n Q):cm (.tuple [bh ls,due]):=⟨ls,due,rfl,h1,h2,h3,h4⟩
theorem vJ(hi:i < 100)(hj:j < 100):Small (.list [.int (i:Nat),.int (j:Nat)]):=by
 have key:∀i,i < 100->Gb (.int (i:Nat))<=20/\Eg 13 (.int (i:Nat))=ah/\D5 (.int (i:Nat))=ah:=by decide +kernel
 obtain⟨a1,a2,a3⟩:=key i hi;obtain⟨b1,b2,b3⟩:=key j hj;refine⟨?_,?_,?_,?_,?_⟩
 ·rw[De,En,En,En,De,De];rfl
 ·rw[Dl,Ff,Ff,Ff,Dl,Dl];decide
 ·rw[Gb,Gv,Gv,Gv];omega
 ·rw[Eg,F0,F0,F0,a2,b2];rfl
 ·rw[D5,Gg,Gg,Gg,a3,b3];rfl
theorem g9(hw:ls.map (λx=>Ba x bz)=wss)(h1:ls.length<=100)(h2:∀x∈ls,bI x)(hi:i < 100)(hj:j < 100)(e:fG 0 wss [] []=.inl (i,j)):cm (.tuple [bh ls,.list [.int (i:Nat),.int (j:Nat)]]):=pV h1 h2 (vJ hi hj) λn Q q=>⟨ls,rfl,h1,λx hx=>An (h2 x hx).1 ∎,by rw[hw,e];exact q⟩
theorem J3(hw:ls.map (λx=>Ba x bz)=wss)(h1:ls.length < 100)(h2:∀x∈ls,bI x)(e:fG 0 wss [] []=.inr (ns,hs))(hl:fL hs=ah):cm (.tuple [bh ls,.list [.int (ls.length:Nat),.int (0:Nat)]]):=pV (F6 h1) h2 (vJ h1 ∎) λn Q q=>⟨ls,rfl,F6 h1,λx hx=>An (h2 x hx).1 ∎,by rw[hw,e];dsimp only;rw[if_pos hl];exact q⟩
theorem CB(hw:ls.map (λx=>Ba x bz)=wss)(h1:ls.length<=100)(h2:∀x∈ls,bI x)(hi:i < 100)(hj:j < 100)(e:fG 0 wss [] []=.inr (ns,hs))(hl:fL hs=ai)(hp:hs.map (λbs=>Gq (bs.map eV))=Ps.map cg)(hq:∀P∈Ps,P.length<=100/\∀b∈P,iq b)(hr:fZ ns.length Ps=ae (i,j)):cm (.tuple [bh ls,.list [.int (i:Nat),.int (j:Nat)]]):=pV h1 h2 (vJ hi hj) λn Q q=>⟨ls,rfl,h1,λx hx=>An (h2 x hx).1 ∎,by rw[hw,e];dsimp only;rw[if_neg (by rw[hl];decide)];exact⟨Ps,hp,hq,by rw[hr];exact q⟩⟩
theorem iB(hw:ls.map (λx=>Ba x bz)=wss)(h1:ls.length<=100)(h2:∀x∈ls,bI x)(e:fG 0 wss [] []=.inr (ns,hs))(hl:fL hs=ai)(hp:hs.map (λbs=>Gq (bs.map eV))=Ps.map cg)(hq:∀P∈Ps,P.length<=100/\∀b∈P,iq b)(hr:fZ ns.length Ps=af)(h3:Small (.tuple [.tuple (Ps.map cg),.tuple ns])):cm (.tuple [bh ls,.tuple [.tuple (Ps.map cg),.tuple ns]]):=pV h1 h2 h3 λn Q q=>⟨ls,rfl,h1,λx hx=>An (h2 x hx).1 ∎,by rw[hw,e];dsimp only;rw[if_neg (by rw[hl];decide)];exact⟨Ps,hp,hq,by rw[hr];exact q⟩⟩
end
structure Sz(k w:Nat)(d:Ah):Prop where
 z:De d=ah/\Dl d<=k/\Gb d<=w/\Eg 13 d=ah/\D5 d=ah
structure Szs(k w:Nat)(ds:List Ah):Prop where
 z:En ds=ah/\Ff ds<=k/\Gv ds<=w/\F0 13 ds=ah/\Gg ds=ah
section
variable{k w w':Nat}{d:Ah}{ds:List Ah}
theorem Sz.small(h:Sz 20 w d)(hw:w<=1048576):Small d:=⟨h.z.1,h.z.2.1,An h.z.2.2.1 hw,h.z.2.2.2⟩
theorem iV:Szs k 0 []:=⟨rfl,Bx _,Av _,rfl,rfl⟩
theorem iL(h:Sz k w d)(h':Szs k w' ds):Szs k (w+w'+1) (d::ds):=by
 obtain⟨a1,a2,a3,a4,a5⟩:=h'.z;obtain⟨b1,b2,b3,b4,b5⟩:=h.z;refine⟨?_,?_,?_,?_,?_⟩
 ·rw[En,a1,b1];rfl
 ·rw[Ff];omega
 ·rw[Gv];omega
 ·rw[F0,a4,b4];rfl
 ·rw[Gg,a5,b5];rfl
theorem iN(h:Szs k w ds):Sz (k+1) w (.tuple ds):=by
 obtain⟨a1,a2,a3,a4,a5⟩:=h.z;exact⟨by rw[De];exact a1,by rw[Dl];omega,by rw[Gb];omega,by rw[Eg];exact a4,by rw[D5];exact a5⟩
theorem iG:Sz k 1 .none:=⟨by rw[De],by rw[Dl];exact Bx _,by decide,by rw[Eg],by rw[D5]⟩
theorem bq{x:Str}(h:x.length<=20/\A8 x=ah):Sz k 21 (.str x):=⟨by rw[De];exact h.2,by rw[Dl];exact Bx _,by rw[Gb];have:x.cps.size<=20:=h.1;omega,by rw[Eg],by rw[D5]⟩
theorem xj:∀i,i < 200->Gb (.int (i:Nat))<=21/\Eg 13 (.int (i:Nat))=ah/\D5 (.int (i:Nat))=ah:=by decide +kernel
theorem cf{i:Nat}(h:i < 200):Sz k 21 (.int (i:Nat)):=⟨by rw[De],by rw[Dl];exact Bx _,(xj i h).1,(xj i h).2⟩
end
theorem c0{m:Nat}{x:Str}(h:az m x)(hm:m<=20):x.length<=20/\A8 x=ah:=⟨by rw[mE h];exact hm,vP h⟩
theorem eX{k:Nat}(h:k < 200):(sK k).length<=20/\A8 (sK k)=ah:=⟨An (yZ k h).2 ∎,(yZ k h).1⟩
theorem dN{x y:Str}{m j:Nat}(h:x.length<=m/\A8 x=ah)(h':y.length<=j/\A8 y=ah):(x++y).length<=m+j/\A8 (x++y)=ah:=⟨by rw[cL];omega,Tg h.2 h'.2⟩
theorem eC{x:Str}{m:Nat}(h:x.length<=m/\A8 x=ah)(hm:m<=100):bI x:=⟨An h.1 hm,h.2⟩
theorem aE{α:Type}{p:α->Prop}{x:α}{l:List α}(h:p x)(h':∀y∈l,p y):∀y∈x::l,p y:=λy hy=>(A5.mp hy).elim (λe=>e▸h) (h' y)
theorem aV{α:Type}{p:α->Prop}:∀y∈([]:List α),p y:=λy hy=>absurd hy A9
theorem kK{n:Str}(h:az 4 n):ej n:=⟨jL h ∎ ∎,vP h⟩
theorem iK:∀k,k < 100->qE (.int (k:Nat))=ah:=by decide +kernel
theorem iA{a:Str}(h:az 8 a):qE (.str a)=ah:=by
 unfold qE;rw[vt (jL h ∎ ∎)];show(ah&&(decide (a.length<=60)&&A8 a))=ah;rw[vP h,mE h];rfl
theorem jE{b:Nat}:j7 (.go b):=⟨⟨Bx _,aV⟩,trivial⟩
theorem uL{fs:List Fe}(h:fs.length<=4)(h1:1<=fs.length)(h2:∀f∈fs,f.ok)(h3:∀f∈fs,f.pt=ah):j7 (.take fs):=⟨⟨h,h2⟩,h1,h3⟩
theorem KZ{fs:List Fe}{b:Nat}(h:fs.length<=4)(h1:1<=fs.length)(h2:∀f∈fs,f.ok)(h3:∀f∈fs,f.pt=ah):j7 (.look fs b):=⟨⟨h,h2⟩,h1,h3⟩
theorem S0{fs:List Fe}{age:Ah}(h:fs.length<=4)(h1:1<=fs.length)(h2:∀f∈fs,f.ok)(h3:∀f∈fs,f.tm=ah)(h4:BJ age):j7 (.lay fs age):=⟨⟨h,h2⟩,h3,h4,h1⟩
theorem Js{f g:Fe}{b:Nat}(h1:f.ok)(h2:g.ok)(h3:f.te=ah)(h4:g.te=ah):j7 (.same f g b):=⟨⟨Aa rfl,aE h1 (aE h2 aV)⟩,h3,h4⟩
theorem fh{w:List Str}{as:List Ac}(h1:w.length<=4)(h2:∀k∈w,ej k)(h3:as.length<=8)(h4:∀a∈as,j7 a):iq (w,as):=⟨h1,h2,h3,h4⟩
abbrev dU(n:Str)(k:Nat):List Ac:=[.take [.bind "a",.bind "b",.bind "c",.bind "d"],.take [.bind "e",.bind n],.lay [.as "a",.as "e",.as n,.nx "d"] (.int ((1+k % 20:Nat):Int))]
theorem Ic{n:Str}{k:Nat}(hn:az 4 n):∀P∈([[([],dU n k)]]:List (List Bl)),P.length<=100/\∀b∈P,iq b:=
 aE ⟨(Aa rfl),aE (fh (Aa rfl) aV (Aa rfl) (aE (uL (Aa rfl) (Aa rfl) (aE (show ej "a" from⟨by decide +kernel,by decide +kernel⟩) (aE (show ej "b" from⟨by decide +kernel,by decide +kernel⟩) (aE (show ej "c" from⟨by decide +kernel,by decide +kernel⟩) (aE (show ej "d" from⟨by decide +kernel,by decide +kernel⟩) aV)))) (aE rfl (aE rfl (aE rfl (aE rfl aV)))))
  (aE (uL (Aa rfl) (Aa rfl) (aE (show ej "e" from⟨by decide +kernel,by decide +kernel⟩) (aE (kK hn) aV)) (aE rfl (aE rfl aV)))
  (aE (S0 (Aa rfl) (Aa rfl) (aE (show ej "a" from⟨by decide +kernel,by decide +kernel⟩) (aE (show ej "e" from⟨by decide +kernel,by decide +kernel⟩) (aE (show ej n from kK hn) (aE (show ej "d" from⟨by decide +kernel,by decide +kernel⟩) aV)))) (aE rfl (aE rfl (aE rfl (aE rfl aV)))) (.inr ⟨_,rfl,by omega,by omega⟩)) aV)))) aV⟩ aV
theorem Ui(n:Str)(k:Nat):fZ ([]:List Ah).length [[([],dU n k)]]=af:=by
 have u1:∀P,ig P (kn [] (dU n k) 0) (.take [.bind "a",.bind "b",.bind "c",.bind "d"])=af:=λP=>rfl;have u2:∀P,ig P (kn [] (dU n k) 1) (.take [.bind "e",.bind n])=af:=λP=>rfl;have u3:∀P,ig P (kn [] (dU n k) 2) (.lay [.as "a",.as "e",.as n,.nx "d"] (.int ((1+k % 20:Nat):Int)))=af:=λP=>by
  have e:kn [] (dU n k) 2=(["a","b","c","d","e",n]:List Str):=rfl;rw[e];unfold ig;have e2:bW ["a","b","c","d","e",n] [] [.as "a",.as "e",.as n,.nx "d"]=af:=by
   simp only[bW,Fe.us];simp
  show(match bW ["a","b","c","d","e",n] [] [.as "a",.as "e",.as n,.nx "d"]with|some k=>ae (1+k)|none=>if iX P _ af=ah then af else _)=af;rw[e2];rfl
 have r:∀P,iH P [] (dU n k) 0 (dU n k)=af:=λP=>by
  show iH P [] (dU n k) 0 (_::_::_::[])=af;rw[iH,u1];dsimp only;rw[iH,u2];dsimp only;rw[iH,u3];rfl
 unfold fZ l8 lW;rw[if_neg (λz=>z.2 rfl),r];rfl
theorem OY(e:Nat):fZ ([]:List Ah).length [[([],[.go (1+e)])]]=ae (2,1):=by
 have t:iX [([],[.go (1+e)])] (kn [] [.go (1+e)] 0) (ae (1+e))=ai:=by
  unfold iX;dsimp only;rw[show([([],[.go (1+e)])]:List Bl)[1+e]?=af from Fu (by show 1<=1+e;omega)]
 have w:ig [([],[.go (1+e)])] (kn [] [.go (1+e)] 0) (.go (1+e))=ae 1:=by
  show(if iX _ _ (ae (1+e))=ah then af else ae (1+0))=ae 1;rw[t];rfl
 have r:iH [([],[.go (1+e)])] [] [.go (1+e)] 0 [.go (1+e)]=ae (0,1):=by rw[iH,w]
 unfold fZ l8 lW;rw[if_neg (λz=>z.2 rfl),r];rfl
theorem ec(x:Str):x++("":Str)=x:=Str.append_empty x
theorem jh:Ba ("note ":Str) bz=(["note",""]:List Str):=by decide +kernel
theorem Qm:Ba ("hand":Str) bz=(["hand"]:List Str):=by decide +kernel
theorem KG:Ba ("block":Str) bz=(["block"]:List Str):=by decide +kernel
theorem HW:Ba ("go >0":Str) bz=(["go",">0"]:List Str):=by decide +kernel
theorem OZ:Ba ("note a a 0 ":Str) bz=(["note","a","a","0",""]:List Str):=by decide +kernel
theorem Mc:Ba ("note a a 0 1 ":Str) bz=(["note","a","a","0","1",""]:List Str):=by decide +kernel
theorem Hu:Ba ("a":Str) bz=(["a"]:List Str):=by decide +kernel
theorem RI:Ba ("note a @20":Str) bz=(["note","a","@20"]:List Str):=by decide +kernel
theorem LS:Ba ("note a @":Str) bz=(["note","a","@"]:List Str):=by decide +kernel
theorem M9:Ba ("note 0":Str) bz=(["note","0"]:List Str):=by decide +kernel
theorem nA:Ba ("take ?":Str) bz=(["take","?"]:List Str):=by decide +kernel
theorem sM:Ba ("block a b c d":Str) bz=(["block","a","b","c","d"]:List Str):=by decide +kernel
theorem sT:Ba ("block a b c d e":Str) bz=(["block","a","b","c","d","e"]:List Str):=by decide +kernel
theorem nz:Ba ("look $ # ? ":Str) bz=(["look","$","#","?",""]:List Str):=by decide +kernel
theorem n8:Ba (" >0":Str) bz=(["",">0"]:List Str):=by decide +kernel
theorem vZ:Ba (" a >0":Str) bz=(["","a",">0"]:List Str):=by decide +kernel
theorem nR:Ba ("go >":Str) bz=(["go",">"]:List Str):=by decide +kernel
theorem wK:Ba ("block ":Str) bz=(["block",""]:List Str):=by decide +kernel
theorem rf:Ba ("take ?a ?b ?c ?d":Str) bz=(["take","?a","?b","?c","?d"]:List Str):=by decide +kernel
theorem wm:Ba ("take ?e ?":Str) bz=(["take","?e","?"]:List Str):=by decide +kernel
theorem rz:Ba ("lay =a =e =":Str) bz=(["lay","=a","=e","="]:List Str):=by decide +kernel
theorem rj:Ba (" +d @":Str) bz=(["","+d","@"]:List Str):=by decide +kernel
theorem wU:Ba ("same ":Str) bz=(["same",""]:List Str):=by decide +kernel
theorem tE:Ba (" ":Str) bz=(["",""]:List Str):=by decide +kernel
theorem sp0{a n:Str}{k e:Nat}(ha:az 8 a)(hn:az 4 n)(hk:k < 100)(he:e < 99):Ba (("note ":Str)++a) bz=[("note":Str),a]:=by
 rw[dP,jh,jl ha]
 try simp only[dy,ee,ec]
theorem dG{a n:Str}{k e:Nat}(ha:az 8 a)(hn:az 4 n)(hk:k < 100)(he:e < 99):bI (("note ":Str)++a):=eC (dN (show(("note ":Str).length<=20/\A8 ("note ":Str)=ah) by decide +kernel) (c0 ha ∎)) ∎
theorem fC{a n:Str}{k e:Nat}(ha:az 8 a)(hn:az 4 n)(hk:k < 100)(he:e < 99):Ba ("hand":Str) bz=[("hand":Str)]:=by
 rw[Qm]
 try simp only[dy,ee,ec]
theorem dI{a n:Str}{k e:Nat}(ha:az 8 a)(hn:az 4 n)(hk:k < 100)(he:e < 99):bI ("hand":Str):=eC (show(("hand":Str).length<=20/\A8 ("hand":Str)=ah) by decide +kernel) ∎
theorem gn{a n:Str}{k e:Nat}(ha:az 8 a)(hn:az 4 n)(hk:k < 100)(he:e < 99):Ba ("block":Str) bz=[("block":Str)]:=by
 rw[KG]
 try simp only[dy,ee,ec]
theorem cO{a n:Str}{k e:Nat}(ha:az 8 a)(hn:az 4 n)(hk:k < 100)(he:e < 99):bI ("block":Str):=eC (show(("block":Str).length<=20/\A8 ("block":Str)=ah) by decide +kernel) ∎
theorem xc{a n:Str}{k e:Nat}(ha:az 8 a)(hn:az 4 n)(hk:k < 100)(he:e < 99):Ba ("go >0":Str) bz=[("go":Str),(">0":Str)]:=by
 rw[HW]
 try simp only[dy,ee,ec]
theorem f7{a n:Str}{k e:Nat}(ha:az 8 a)(hn:az 4 n)(hk:k < 100)(he:e < 99):bI ("go >0":Str):=eC (show(("go >0":Str).length<=20/\A8 ("go >0":Str)=ah) by decide +kernel) ∎
theorem PV{a n:Str}{k e:Nat}(ha:az 8 a)(hn:az 4 n)(hk:k < 100)(he:e < 99):Ba (("note a a 0 ":Str)++(sK k)) bz=[("note":Str),("a":Str),("a":Str),("0":Str),(sK k)]:=by
 rw[dP,OZ,iT (i4 _ ⋯)]
 try simp only[dy,ee,ec]
theorem yq{a n:Str}{k e:Nat}(ha:az 8 a)(hn:az 4 n)(hk:k < 100)(he:e < 99):bI (("note a a 0 ":Str)++(sK k)):=eC (dN (show(("note a a 0 ":Str).length<=20/\A8 ("note a a 0 ":Str)=ah) by decide +kernel) (eX ⋯)) ∎
theorem P9{a n:Str}{k e:Nat}(ha:az 8 a)(hn:az 4 n)(hk:k < 100)(he:e < 99):Ba (("note a a 0 1 ":Str)++a) bz=[("note":Str),("a":Str),("a":Str),("0":Str),("1":Str),a]:=by
 rw[dP,Mc,jl ha]
 try simp only[dy,ee,ec]
theorem FF{a n:Str}{k e:Nat}(ha:az 8 a)(hn:az 4 n)(hk:k < 100)(he:e < 99):bI (("note a a 0 1 ":Str)++a):=eC (dN (show(("note a a 0 1 ":Str).length<=20/\A8 ("note a a 0 1 ":Str)=ah) by decide +kernel) (c0 ha ∎)) ∎
theorem MU{a n:Str}{k e:Nat}(ha:az 8 a)(hn:az 4 n)(hk:k < 100)(he:e < 99):Ba ((("note ":Str)++a)++("a":Str)) bz=[("note":Str),(a++("a":Str))]:=by
 rw[dP,dP,jh,jl ha,Hu]
 try simp only[dy,ee,ec]
theorem uj{a n:Str}{k e:Nat}(ha:az 8 a)(hn:az 4 n)(hk:k < 100)(he:e < 99):bI ((("note ":Str)++a)++("a":Str)):=eC (dN (dN (show(("note ":Str).length<=20/\A8 ("note ":Str)=ah) by decide +kernel) (c0 ha ∎)) (show(("a":Str).length<=20/\A8 ("a":Str)=ah) by decide +kernel)) ∎
theorem OD{a n:Str}{k e:Nat}(ha:az 8 a)(hn:az 4 n)(hk:k < 100)(he:e < 99):Ba (("note ":Str)++(sK (100+k))) bz=[("note":Str),(sK (100+k))]:=by
 rw[dP,jh,iT (i4 _ ⋯)]
 try simp only[dy,ee,ec]
theorem DH{a n:Str}{k e:Nat}(ha:az 8 a)(hn:az 4 n)(hk:k < 100)(he:e < 99):bI (("note ":Str)++(sK (100+k))):=eC (dN (show(("note ":Str).length<=20/\A8 ("note ":Str)=ah) by decide +kernel) (eX ⋯)) ∎
theorem Qz{a n:Str}{k e:Nat}(ha:az 8 a)(hn:az 4 n)(hk:k < 100)(he:e < 99):Ba ("note a @20":Str) bz=[("note":Str),("a":Str),("@20":Str)]:=by
 rw[RI]
 try simp only[dy,ee,ec]
theorem Ls{a n:Str}{k e:Nat}(ha:az 8 a)(hn:az 4 n)(hk:k < 100)(he:e < 99):bI ("note a @20":Str):=eC (show(("note a @20":Str).length<=20/\A8 ("note a @20":Str)=ah) by decide +kernel) ∎
theorem Nu{a n:Str}{k e:Nat}(ha:az 8 a)(hn:az 4 n)(hk:k < 100)(he:e < 99):Ba (("note a @":Str)++(sK (21+k))) bz=[("note":Str),("a":Str),(("@":Str)++(sK (21+k)))]:=by
 rw[dP,LS,iT (i4 _ ⋯)]
 try simp only[dy,ee,ec]
theorem GU{a n:Str}{k e:Nat}(ha:az 8 a)(hn:az 4 n)(hk:k < 100)(he:e < 99):bI (("note a @":Str)++(sK (21+k))):=eC (dN (show(("note a @":Str).length<=20/\A8 ("note a @":Str)=ah) by decide +kernel) (eX ⋯)) ∎
theorem vG{a n:Str}{k e:Nat}(ha:az 8 a)(hn:az 4 n)(hk:k < 100)(he:e < 99):Ba (("note 0":Str)++(sK k)) bz=[("note":Str),(("0":Str)++(sK k))]:=by
 rw[dP,M9,iT (i4 _ ⋯)]
 try simp only[dy,ee,ec]
theorem AO{a n:Str}{k e:Nat}(ha:az 8 a)(hn:az 4 n)(hk:k < 100)(he:e < 99):bI (("note 0":Str)++(sK k)):=eC (dN (show(("note 0":Str).length<=20/\A8 ("note 0":Str)=ah) by decide +kernel) (eX ⋯)) ∎
theorem tM{a n:Str}{k e:Nat}(ha:az 8 a)(hn:az 4 n)(hk:k < 100)(he:e < 99):Ba (("take ?":Str)++n) bz=[("take":Str),(("?":Str)++n)]:=by
 rw[dP,nA,jl hn]
 try simp only[dy,ee,ec]
theorem xS{a n:Str}{k e:Nat}(ha:az 8 a)(hn:az 4 n)(hk:k < 100)(he:e < 99):bI (("take ?":Str)++n):=eC (dN (show(("take ?":Str).length<=20/\A8 ("take ?":Str)=ah) by decide +kernel) (c0 hn ∎)) ∎
theorem uC{a n:Str}{k e:Nat}(ha:az 8 a)(hn:az 4 n)(hk:k < 100)(he:e < 99):Ba ((("take ?":Str)++n)++("a":Str)) bz=[("take":Str),((("?":Str)++n)++("a":Str))]:=by
 rw[dP,dP,nA,jl hn,Hu]
 try simp only[dy,ee,ec]
theorem uW{a n:Str}{k e:Nat}(ha:az 8 a)(hn:az 4 n)(hk:k < 100)(he:e < 99):bI ((("take ?":Str)++n)++("a":Str)):=eC (dN (dN (show(("take ?":Str).length<=20/\A8 ("take ?":Str)=ah) by decide +kernel) (c0 hn ∎)) (show(("a":Str).length<=20/\A8 ("a":Str)=ah) by decide +kernel)) ∎
theorem tX{a n:Str}{k e:Nat}(ha:az 8 a)(hn:az 4 n)(hk:k < 100)(he:e < 99):Ba ("block a b c d":Str) bz=[("block":Str),("a":Str),("b":Str),("c":Str),("d":Str)]:=by
 rw[sM]
 try simp only[dy,ee,ec]
theorem PU{a n:Str}{k e:Nat}(ha:az 8 a)(hn:az 4 n)(hk:k < 100)(he:e < 99):bI ("block a b c d":Str):=eC (show(("block a b c d":Str).length<=20/\A8 ("block a b c d":Str)=ah) by decide +kernel) ∎
theorem vk{a n:Str}{k e:Nat}(ha:az 8 a)(hn:az 4 n)(hk:k < 100)(he:e < 99):Ba ("block a b c d e":Str) bz=[("block":Str),("a":Str),("b":Str),("c":Str),("d":Str),("e":Str)]:=by
 rw[sT]
 try simp only[dy,ee,ec]
theorem SU{a n:Str}{k e:Nat}(ha:az 8 a)(hn:az 4 n)(hk:k < 100)(he:e < 99):bI ("block a b c d e":Str):=eC (show(("block a b c d e":Str).length<=20/\A8 ("block a b c d e":Str)=ah) by decide +kernel) ∎
theorem vO{a n:Str}{k e:Nat}(ha:az 8 a)(hn:az 4 n)(hk:k < 100)(he:e < 99):Ba ((("look $ # ? ":Str)++(sK k))++(" >0":Str)) bz=[("look":Str),("$":Str),("#":Str),("?":Str),(sK k),(">0":Str)]:=by
 rw[dP,dP,nz,iT (i4 _ ⋯),n8]
 try simp only[dy,ee,ec]
theorem wD{a n:Str}{k e:Nat}(ha:az 8 a)(hn:az 4 n)(hk:k < 100)(he:e < 99):bI ((("look $ # ? ":Str)++(sK k))++(" >0":Str)):=eC (dN (dN (show(("look $ # ? ":Str).length<=20/\A8 ("look $ # ? ":Str)=ah) by decide +kernel) (eX ⋯)) (show((" >0":Str).length<=20/\A8 (" >0":Str)=ah) by decide +kernel)) ∎
theorem sW{a n:Str}{k e:Nat}(ha:az 8 a)(hn:az 4 n)(hk:k < 100)(he:e < 99):Ba ((("look $ # ? ":Str)++(sK k))++(" a >0":Str)) bz=[("look":Str),("$":Str),("#":Str),("?":Str),(sK k),("a":Str),(">0":Str)]:=by
 rw[dP,dP,nz,iT (i4 _ ⋯),vZ]
 try simp only[dy,ee,ec]
theorem sO{a n:Str}{k e:Nat}(ha:az 8 a)(hn:az 4 n)(hk:k < 100)(he:e < 99):bI ((("look $ # ? ":Str)++(sK k))++(" a >0":Str)):=eC (dN (dN (show(("look $ # ? ":Str).length<=20/\A8 ("look $ # ? ":Str)=ah) by decide +kernel) (eX ⋯)) (show((" a >0":Str).length<=20/\A8 (" a >0":Str)=ah) by decide +kernel)) ∎
theorem sS{a n:Str}{k e:Nat}(ha:az 8 a)(hn:az 4 n)(hk:k < 100)(he:e < 99):Ba (("go >":Str)++(sK (1+e))) bz=[("go":Str),((">":Str)++(sK (1+e)))]:=by
 rw[dP,nR,iT (i4 _ ⋯)]
 try simp only[dy,ee,ec]
theorem EY{a n:Str}{k e:Nat}(ha:az 8 a)(hn:az 4 n)(hk:k < 100)(he:e < 99):bI (("go >":Str)++(sK (1+e))):=eC (dN (show(("go >":Str).length<=20/\A8 ("go >":Str)=ah) by decide +kernel) (eX ⋯)) ∎
theorem uv{a n:Str}{k e:Nat}(ha:az 8 a)(hn:az 4 n)(hk:k < 100)(he:e < 99):Ba (("go >":Str)++(sK (100+k))) bz=[("go":Str),((">":Str)++(sK (100+k)))]:=by
 rw[dP,nR,iT (i4 _ ⋯)]
 try simp only[dy,ee,ec]
theorem DY{a n:Str}{k e:Nat}(ha:az 8 a)(hn:az 4 n)(hk:k < 100)(he:e < 99):bI (("go >":Str)++(sK (100+k))):=eC (dN (show(("go >":Str).length<=20/\A8 ("go >":Str)=ah) by decide +kernel) (eX ⋯)) ∎
theorem vm{a n:Str}{k e:Nat}(ha:az 8 a)(hn:az 4 n)(hk:k < 100)(he:e < 99):Ba (("block ":Str)++n) bz=[("block":Str),n]:=by
 rw[dP,wK,jl hn]
 try simp only[dy,ee,ec]
theorem zM{a n:Str}{k e:Nat}(ha:az 8 a)(hn:az 4 n)(hk:k < 100)(he:e < 99):bI (("block ":Str)++n):=eC (dN (show(("block ":Str).length<=20/\A8 ("block ":Str)=ah) by decide +kernel) (c0 hn ∎)) ∎
theorem sy{a n:Str}{k e:Nat}(ha:az 8 a)(hn:az 4 n)(hk:k < 100)(he:e < 99):Ba ("take ?a ?b ?c ?d":Str) bz=[("take":Str),("?a":Str),("?b":Str),("?c":Str),("?d":Str)]:=by
 rw[rf]
 try simp only[dy,ee,ec]
theorem PM{a n:Str}{k e:Nat}(ha:az 8 a)(hn:az 4 n)(hk:k < 100)(he:e < 99):bI ("take ?a ?b ?c ?d":Str):=eC (show(("take ?a ?b ?c ?d":Str).length<=20/\A8 ("take ?a ?b ?c ?d":Str)=ah) by decide +kernel) ∎
theorem rE{a n:Str}{k e:Nat}(ha:az 8 a)(hn:az 4 n)(hk:k < 100)(he:e < 99):Ba (("take ?e ?":Str)++n) bz=[("take":Str),("?e":Str),(("?":Str)++n)]:=by
 rw[dP,wm,jl hn]
 try simp only[dy,ee,ec]
theorem xA{a n:Str}{k e:Nat}(ha:az 8 a)(hn:az 4 n)(hk:k < 100)(he:e < 99):bI (("take ?e ?":Str)++n):=eC (dN (show(("take ?e ?":Str).length<=20/\A8 ("take ?e ?":Str)=ah) by decide +kernel) (c0 hn ∎)) ∎
theorem rG{a n:Str}{k e:Nat}(ha:az 8 a)(hn:az 4 n)(hk:k < 100)(he:e < 99):Ba (((("lay =a =e =":Str)++n)++(" +d @":Str))++(sK (1+k % 20))) bz=[("lay":Str),("=a":Str),("=e":Str),(("=":Str)++n),("+d":Str),(("@":Str)++(sK (1+k % 20)))]:=by
 rw[dP,dP,dP,rz,jl hn,rj,iT (i4 _ ⋯)]
 try simp only[dy,ee,ec]
theorem pE{a n:Str}{k e:Nat}(ha:az 8 a)(hn:az 4 n)(hk:k < 100)(he:e < 99):bI (((("lay =a =e =":Str)++n)++(" +d @":Str))++(sK (1+k % 20))):=eC (dN (dN (dN (show(("lay =a =e =":Str).length<=20/\A8 ("lay =a =e =":Str)=ah) by decide +kernel) (c0 hn ∎)) (show((" +d @":Str).length<=20/\A8 (" +d @":Str)=ah) by decide +kernel)) (eX ⋯)) ∎
theorem uG{a n:Str}{k e:Nat}(ha:az 8 a)(hn:az 4 n)(hk:k < 100)(he:e < 99):Ba ((((("same ":Str)++a)++(" ":Str))++(sK k))++(" >0":Str)) bz=[("same":Str),a,(sK k),(">0":Str)]:=by
 rw[dP,dP,dP,dP,wU,jl ha,tE,iT (i4 _ ⋯),n8]
 try simp only[dy,ee,ec]
theorem nZ{a n:Str}{k e:Nat}(ha:az 8 a)(hn:az 4 n)(hk:k < 100)(he:e < 99):bI ((((("same ":Str)++a)++(" ":Str))++(sK k))++(" >0":Str)):=eC (dN (dN (dN (dN (show(("same ":Str).length<=20/\A8 ("same ":Str)=ah) by decide +kernel) (c0 ha ∎)) (show((" ":Str).length<=20/\A8 (" ":Str)=ah) by decide +kernel)) (eX ⋯)) (show((" >0":Str).length<=20/\A8 (" >0":Str)=ah) by decide +kernel)) ∎
theorem Jp{a n:Str}{k e:Nat}(ha:az 8 a)(hn:az 4 n)(hk:k < 100)(he:e < 99):cm (.tuple [bh [(("note ":Str)++a),(("note ":Str)++a),(("note ":Str)++a),(("note ":Str)++a),(("note ":Str)++a),(("note ":Str)++a),(("note ":Str)++a),(("note ":Str)++a),(("note ":Str)++a),(("note ":Str)++a),(("note ":Str)++a),(("note ":Str)++a)],.tuple [.tuple (([]:List (List Bl)).map cg),.tuple [.tuple [.tuple [.str a],.none],.tuple [.tuple [.str a],.none],.tuple [.tuple [.str a],.none],.tuple [.tuple [.str a],.none],.tuple [.tuple [.str a],.none],.tuple [.tuple [.str a],.none],.tuple [.tuple [.str a],.none],.tuple [.tuple [.str a],.none],.tuple [.tuple [.str a],.none],.tuple [.tuple [.str a],.none],.tuple [.tuple [.str a],.none],.tuple [.tuple [.str a],.none]]]]):=
 iB (wss:=[[("note":Str),a],[("note":Str),a],[("note":Str),a],[("note":Str),a],[("note":Str),a],[("note":Str),a],[("note":Str),a],[("note":Str),a],[("note":Str),a],[("note":Str),a],[("note":Str),a],[("note":Str),a]]) (ns:=[.tuple [.tuple [.str a],.none],.tuple [.tuple [.str a],.none],.tuple [.tuple [.str a],.none],.tuple [.tuple [.str a],.none],.tuple [.tuple [.str a],.none],.tuple [.tuple [.str a],.none],.tuple [.tuple [.str a],.none],.tuple [.tuple [.str a],.none],.tuple [.tuple [.str a],.none],.tuple [.tuple [.str a],.none],.tuple [.tuple [.str a],.none],.tuple [.tuple [.str a],.none]]) (hs:=[]) (Ps:=[]) (by simp only[Aq,A7,sp0 ha hn hk he]) (Aa rfl) (aE (dG ha hn hk he) (aE (dG ha hn hk he) (aE (dG ha hn hk he) (aE (dG ha hn hk he) (aE (dG ha hn hk he) (aE (dG ha hn hk he) (aE (dG ha hn hk he) (aE (dG ha hn hk he) (aE (dG ha hn hk he) (aE (dG ha hn hk he) (aE (dG ha hn hk he) (aE (dG ha hn hk he) aV)))))))))))) (aB .note (c5 (Aa rfl)) (eu ha) rfl (aB .note (c5 (Aa rfl)) (eu ha) rfl (aB .note (c5 (Aa rfl)) (eu ha) rfl (aB .note (c5 (Aa rfl)) (eu ha) rfl (aB .note (c5 (Aa rfl)) (eu ha) rfl (aB .note (c5 (Aa rfl)) (eu ha) rfl (aB .note (c5 (Aa rfl)) (eu ha) rfl (aB .note (c5 (Aa rfl)) (eu ha) rfl (aB .note (c5 (Aa rfl)) (eu ha) rfl (aB .note (c5 (Aa rfl)) (eu ha) rfl (aB .note (c5 (Aa rfl)) (eu ha) rfl (aB .note (c5 (Aa rfl)) (eu ha) rfl rfl)))))))))))) rfl rfl aV rfl (by apply Sz.small;repeat (first|exact iG|exact iV|exact bq (c0 ha ∎)|exact bq (c0 hn ∎)|exact cf (i:=k) ⋯|exact cf (i:=1+k % 20) ⋯|exact cf (i:=0) ∎|exact cf (i:=20) ∎|exact bq ∅|exact bq (x:="bind") ∅|exact bq (x:="as") ∅|exact bq (x:="is") ∅|exact bq (x:="next") ∅|apply iL|apply iN|decide))
theorem Ss{a n:Str}{k e:Nat}(ha:az 8 a)(hn:az 4 n)(hk:k < 100)(he:e < 99):cm (.tuple [bh [(("note ":Str)++a),(("note ":Str)++a),(("note ":Str)++a),(("note ":Str)++a),(("note ":Str)++a),(("note ":Str)++a),(("note ":Str)++a),(("note ":Str)++a),(("note ":Str)++a),(("note ":Str)++a),(("note ":Str)++a),(("note ":Str)++a),(("note ":Str)++a)],.list [.int (12:Nat),.int (0:Nat)]]):=
 g9 (wss:=[[("note":Str),a],[("note":Str),a],[("note":Str),a],[("note":Str),a],[("note":Str),a],[("note":Str),a],[("note":Str),a],[("note":Str),a],[("note":Str),a],[("note":Str),a],[("note":Str),a],[("note":Str),a],[("note":Str),a]]) (i:=12) (j:=0) (by simp only[Aq,A7,sp0 ha hn hk he]) (Aa rfl) (aE (dG ha hn hk he) (aE (dG ha hn hk he) (aE (dG ha hn hk he) (aE (dG ha hn hk he) (aE (dG ha hn hk he) (aE (dG ha hn hk he) (aE (dG ha hn hk he) (aE (dG ha hn hk he) (aE (dG ha hn hk he) (aE (dG ha hn hk he) (aE (dG ha hn hk he) (aE (dG ha hn hk he) (aE (dG ha hn hk he) aV))))))))))))) (Aa rfl) (Aa rfl) (aB .note (c5 (Aa rfl)) (eu ha) rfl (aB .note (c5 (Aa rfl)) (eu ha) rfl (aB .note (c5 (Aa rfl)) (eu ha) rfl (aB .note (c5 (Aa rfl)) (eu ha) rfl (aB .note (c5 (Aa rfl)) (eu ha) rfl (aB .note (c5 (Aa rfl)) (eu ha) rfl (aB .note (c5 (Aa rfl)) (eu ha) rfl (aB .note (c5 (Aa rfl)) (eu ha) rfl (aB .note (c5 (Aa rfl)) (eu ha) rfl (aB .note (c5 (Aa rfl)) (eu ha) rfl (aB .note (c5 (Aa rfl)) (eu ha) rfl (aB .note (c5 (Aa rfl)) (eu ha) rfl (ph (Um (Aa rfl)))))))))))))))
theorem JX{a n:Str}{k e:Nat}(ha:az 8 a)(hn:az 4 n)(hk:k < 100)(he:e < 99):cm (.tuple [bh [("hand":Str),("block":Str),("hand":Str),("block":Str),("hand":Str),("block":Str),("hand":Str),("block":Str),("hand":Str),("block":Str)],.tuple [.tuple (([[([],[])],[([],[])],[([],[])],[([],[])],[([],[])]]:List (List Bl)).map cg),.tuple []]]):=
 iB (wss:=[[("hand":Str)],[("block":Str)],[("hand":Str)],[("block":Str)],[("hand":Str)],[("block":Str)],[("hand":Str)],[("block":Str)],[("hand":Str)],[("block":Str)]]) (ns:=[]) (hs:=[[(.tuple [],[])],[(.tuple [],[])],[(.tuple [],[])],[(.tuple [],[])],[(.tuple [],[])]]) (Ps:=[[([],[])],[([],[])],[([],[])],[([],[])],[([],[])]]) (by simp only[Aq,A7,fC ha hn hk he,gn ha hn hk he]) (Aa rfl) (aE (dI ha hn hk he) (aE (cO ha hn hk he) (aE (dI ha hn hk he) (aE (cO ha hn hk he) (aE (dI ha hn hk he) (aE (cO ha hn hk he) (aE (dI ha hn hk he) (aE (cO ha hn hk he) (aE (dI ha hn hk he) (aE (cO ha hn hk he) aV)))))))))) (aB .hand (dS rfl (Aa rfl)) dR rfl (aB .block (cF rfl (Aa rfl)) cV rfl (aB .hand (dS rfl (Aa rfl)) dR rfl (aB .block (cF rfl (Aa rfl)) cV rfl (aB .hand (dS rfl (Aa rfl)) dR rfl (aB .block (cF rfl (Aa rfl)) cV rfl (aB .hand (dS rfl (Aa rfl)) dR rfl (aB .block (cF rfl (Aa rfl)) cV rfl (aB .hand (dS rfl (Aa rfl)) dR rfl (aB .block (cF rfl (Aa rfl)) cV rfl rfl)))))))))) rfl rfl (aE ⟨(Aa rfl),(aE (fh (Aa rfl) aV (Aa rfl) aV) aV)⟩ (aE ⟨(Aa rfl),(aE (fh (Aa rfl) aV (Aa rfl) aV) aV)⟩ (aE ⟨(Aa rfl),(aE (fh (Aa rfl) aV (Aa rfl) aV) aV)⟩ (aE ⟨(Aa rfl),(aE (fh (Aa rfl) aV (Aa rfl) aV) aV)⟩ (aE ⟨(Aa rfl),(aE (fh (Aa rfl) aV (Aa rfl) aV) aV)⟩ aV))))) rfl (by apply Sz.small;repeat (first|exact iG|exact iV|exact bq (c0 ha ∎)|exact bq (c0 hn ∎)|exact cf (i:=k) ⋯|exact cf (i:=1+k % 20) ⋯|exact cf (i:=0) ∎|exact cf (i:=20) ∎|exact bq ∅|exact bq (x:="bind") ∅|exact bq (x:="as") ∅|exact bq (x:="is") ∅|exact bq (x:="next") ∅|apply iL|apply iN|decide))
theorem N9{a n:Str}{k e:Nat}(ha:az 8 a)(hn:az 4 n)(hk:k < 100)(he:e < 99):cm (.tuple [bh [("hand":Str),("block":Str),("hand":Str),("block":Str),("hand":Str),("block":Str),("hand":Str),("block":Str),("hand":Str),("block":Str),("hand":Str)],.list [.int (10:Nat),.int (0:Nat)]]):=
 g9 (wss:=[[("hand":Str)],[("block":Str)],[("hand":Str)],[("block":Str)],[("hand":Str)],[("block":Str)],[("hand":Str)],[("block":Str)],[("hand":Str)],[("block":Str)],[("hand":Str)]]) (i:=10) (j:=0) (by simp only[Aq,A7,fC ha hn hk he,gn ha hn hk he]) (Aa rfl) (aE (dI ha hn hk he) (aE (cO ha hn hk he) (aE (dI ha hn hk he) (aE (cO ha hn hk he) (aE (dI ha hn hk he) (aE (cO ha hn hk he) (aE (dI ha hn hk he) (aE (cO ha hn hk he) (aE (dI ha hn hk he) (aE (cO ha hn hk he) (aE (dI ha hn hk he) aV))))))))))) (Aa rfl) (Aa rfl) (aB .hand (dS rfl (Aa rfl)) dR rfl (aB .block (cF rfl (Aa rfl)) cV rfl (aB .hand (dS rfl (Aa rfl)) dR rfl (aB .block (cF rfl (Aa rfl)) cV rfl (aB .hand (dS rfl (Aa rfl)) dR rfl (aB .block (cF rfl (Aa rfl)) cV rfl (aB .hand (dS rfl (Aa rfl)) dR rfl (aB .block (cF rfl (Aa rfl)) cV rfl (aB .hand (dS rfl (Aa rfl)) dR rfl (aB .block (cF rfl (Aa rfl)) cV rfl (ph (Jf (Aa rfl)))))))))))))
theorem Px{a n:Str}{k e:Nat}(ha:az 8 a)(hn:az 4 n)(hk:k < 100)(he:e < 99):cm (.tuple [bh [("hand":Str),("block":Str),("block":Str),("block":Str),("block":Str),("block":Str),("block":Str)],.tuple [.tuple (([[([],[]),([],[]),([],[]),([],[]),([],[]),([],[])]]:List (List Bl)).map cg),.tuple []]]):=
 iB (wss:=[[("hand":Str)],[("block":Str)],[("block":Str)],[("block":Str)],[("block":Str)],[("block":Str)],[("block":Str)]]) (ns:=[]) (hs:=[[(.tuple [],[]),(.tuple [],[]),(.tuple [],[]),(.tuple [],[]),(.tuple [],[]),(.tuple [],[])]]) (Ps:=[[([],[]),([],[]),([],[]),([],[]),([],[]),([],[])]]) (by simp only[Aq,A7,fC ha hn hk he,gn ha hn hk he]) (Aa rfl) (aE (dI ha hn hk he) (aE (cO ha hn hk he) (aE (cO ha hn hk he) (aE (cO ha hn hk he) (aE (cO ha hn hk he) (aE (cO ha hn hk he) (aE (cO ha hn hk he) aV))))))) (aB .hand (dS rfl (Aa rfl)) dR rfl (aB .block (cF rfl (Aa rfl)) cV rfl (aB .block (cF rfl (Aa rfl)) cV rfl (aB .block (cF rfl (Aa rfl)) cV rfl (aB .block (cF rfl (Aa rfl)) cV rfl (aB .block (cF rfl (Aa rfl)) cV rfl (aB .block (cF rfl (Aa rfl)) cV rfl rfl))))))) rfl rfl (aE ⟨(Aa rfl),(aE (fh (Aa rfl) aV (Aa rfl) aV) (aE (fh (Aa rfl) aV (Aa rfl) aV) (aE (fh (Aa rfl) aV (Aa rfl) aV) (aE (fh (Aa rfl) aV (Aa rfl) aV) (aE (fh (Aa rfl) aV (Aa rfl) aV) (aE (fh (Aa rfl) aV (Aa rfl) aV) aV))))))⟩ aV) rfl (by apply Sz.small;repeat (first|exact iG|exact iV|exact bq (c0 ha ∎)|exact bq (c0 hn ∎)|exact cf (i:=k) ⋯|exact cf (i:=1+k % 20) ⋯|exact cf (i:=0) ∎|exact cf (i:=20) ∎|exact bq ∅|exact bq (x:="bind") ∅|exact bq (x:="as") ∅|exact bq (x:="is") ∅|exact bq (x:="next") ∅|apply iL|apply iN|decide))
theorem MN{a n:Str}{k e:Nat}(ha:az 8 a)(hn:az 4 n)(hk:k < 100)(he:e < 99):cm (.tuple [bh [("hand":Str),("block":Str),("block":Str),("block":Str),("block":Str),("block":Str),("block":Str),("block":Str)],.list [.int (7:Nat),.int (0:Nat)]]):=
 g9 (wss:=[[("hand":Str)],[("block":Str)],[("block":Str)],[("block":Str)],[("block":Str)],[("block":Str)],[("block":Str)],[("block":Str)]]) (i:=7) (j:=0) (by simp only[Aq,A7,fC ha hn hk he,gn ha hn hk he]) (Aa rfl) (aE (dI ha hn hk he) (aE (cO ha hn hk he) (aE (cO ha hn hk he) (aE (cO ha hn hk he) (aE (cO ha hn hk he) (aE (cO ha hn hk he) (aE (cO ha hn hk he) (aE (cO ha hn hk he) aV)))))))) (Aa rfl) (Aa rfl) (aB .hand (dS rfl (Aa rfl)) dR rfl (aB .block (cF rfl (Aa rfl)) cV rfl (aB .block (cF rfl (Aa rfl)) cV rfl (aB .block (cF rfl (Aa rfl)) cV rfl (aB .block (cF rfl (Aa rfl)) cV rfl (aB .block (cF rfl (Aa rfl)) cV rfl (aB .block (cF rfl (Aa rfl)) cV rfl (ph (QM rfl (Aa rfl))))))))))
theorem RL{a n:Str}{k e:Nat}(ha:az 8 a)(hn:az 4 n)(hk:k < 100)(he:e < 99):cm (.tuple [bh [("hand":Str),("block":Str),("go >0":Str),("go >0":Str),("go >0":Str),("go >0":Str),("go >0":Str),("go >0":Str),("go >0":Str),("go >0":Str)],.tuple [.tuple (([[([],[.go 0,.go 0,.go 0,.go 0,.go 0,.go 0,.go 0,.go 0])]]:List (List Bl)).map cg),.tuple []]]):=
 iB (wss:=[[("hand":Str)],[("block":Str)],[("go":Str),(">0":Str)],[("go":Str),(">0":Str)],[("go":Str),(">0":Str)],[("go":Str),(">0":Str)],[("go":Str),(">0":Str)],[("go":Str),(">0":Str)],[("go":Str),(">0":Str)],[("go":Str),(">0":Str)]]) (ns:=[]) (hs:=[[(.tuple [],[.tuple [.str "go",.int (0:Nat)],.tuple [.str "go",.int (0:Nat)],.tuple [.str "go",.int (0:Nat)],.tuple [.str "go",.int (0:Nat)],.tuple [.str "go",.int (0:Nat)],.tuple [.str "go",.int (0:Nat)],.tuple [.str "go",.int (0:Nat)],.tuple [.str "go",.int (0:Nat)]])]]) (Ps:=[[([],[.go 0,.go 0,.go 0,.go 0,.go 0,.go 0,.go 0,.go 0])]]) (by simp only[Aq,A7,fC ha hn hk he,gn ha hn hk he,xc ha hn hk he]) (Aa rfl) (aE (dI ha hn hk he) (aE (cO ha hn hk he) (aE (f7 ha hn hk he) (aE (f7 ha hn hk he) (aE (f7 ha hn hk he) (aE (f7 ha hn hk he) (aE (f7 ha hn hk he) (aE (f7 ha hn hk he) (aE (f7 ha hn hk he) (aE (f7 ha hn hk he) aV)))))))))) (aB .hand (dS rfl (Aa rfl)) dR rfl (aB .block (cF rfl (Aa rfl)) cV rfl (aB .go (cC rfl rfl (Aa rfl)) gk rfl (aB .go (cC rfl rfl (Aa rfl)) gk rfl (aB .go (cC rfl rfl (Aa rfl)) gk rfl (aB .go (cC rfl rfl (Aa rfl)) gk rfl (aB .go (cC rfl rfl (Aa rfl)) gk rfl (aB .go (cC rfl rfl (Aa rfl)) gk rfl (aB .go (cC rfl rfl (Aa rfl)) gk rfl (aB .go (cC rfl rfl (Aa rfl)) gk rfl rfl)))))))))) rfl rfl (aE ⟨(Aa rfl),(aE (fh (Aa rfl) aV (Aa rfl) (aE jE (aE jE (aE jE (aE jE (aE jE (aE jE (aE jE (aE jE aV))))))))) aV)⟩ aV) rfl (by apply Sz.small;repeat (first|exact iG|exact iV|exact bq (c0 ha ∎)|exact bq (c0 hn ∎)|exact cf (i:=k) ⋯|exact cf (i:=1+k % 20) ⋯|exact cf (i:=0) ∎|exact cf (i:=20) ∎|exact bq ∅|exact bq (x:="bind") ∅|exact bq (x:="as") ∅|exact bq (x:="is") ∅|exact bq (x:="next") ∅|apply iL|apply iN|decide))
theorem Jy{a n:Str}{k e:Nat}(ha:az 8 a)(hn:az 4 n)(hk:k < 100)(he:e < 99):cm (.tuple [bh [("hand":Str),("block":Str),("go >0":Str),("go >0":Str),("go >0":Str),("go >0":Str),("go >0":Str),("go >0":Str),("go >0":Str),("go >0":Str),("go >0":Str)],.list [.int (10:Nat),.int (0:Nat)]]):=
 g9 (wss:=[[("hand":Str)],[("block":Str)],[("go":Str),(">0":Str)],[("go":Str),(">0":Str)],[("go":Str),(">0":Str)],[("go":Str),(">0":Str)],[("go":Str),(">0":Str)],[("go":Str),(">0":Str)],[("go":Str),(">0":Str)],[("go":Str),(">0":Str)],[("go":Str),(">0":Str)]]) (i:=10) (j:=0) (by simp only[Aq,A7,fC ha hn hk he,gn ha hn hk he,xc ha hn hk he]) (Aa rfl) (aE (dI ha hn hk he) (aE (cO ha hn hk he) (aE (f7 ha hn hk he) (aE (f7 ha hn hk he) (aE (f7 ha hn hk he) (aE (f7 ha hn hk he) (aE (f7 ha hn hk he) (aE (f7 ha hn hk he) (aE (f7 ha hn hk he) (aE (f7 ha hn hk he) (aE (f7 ha hn hk he) aV))))))))))) (Aa rfl) (Aa rfl) (aB .hand (dS rfl (Aa rfl)) dR rfl (aB .block (cF rfl (Aa rfl)) cV rfl (aB .go (cC rfl rfl (Aa rfl)) gk rfl (aB .go (cC rfl rfl (Aa rfl)) gk rfl (aB .go (cC rfl rfl (Aa rfl)) gk rfl (aB .go (cC rfl rfl (Aa rfl)) gk rfl (aB .go (cC rfl rfl (Aa rfl)) gk rfl (aB .go (cC rfl rfl (Aa rfl)) gk rfl (aB .go (cC rfl rfl (Aa rfl)) gk rfl (aB .go (cC rfl rfl (Aa rfl)) gk rfl (ph (Tz rfl rfl (Aa rfl)))))))))))))
theorem RC{a n:Str}{k e:Nat}(ha:az 8 a)(hn:az 4 n)(hk:k < 100)(he:e < 99):cm (.tuple [bh [(("note a a 0 ":Str)++(sK k))],.tuple [.tuple (([]:List (List Bl)).map cg),.tuple [.tuple [.tuple [.str "a",.str "a",.int (0:Nat),.int (k:Nat)],.none]]]]):=
 iB (wss:=[[("note":Str),("a":Str),("a":Str),("0":Str),(sK k)]]) (ns:=[.tuple [.tuple [.str "a",.str "a",.int (0:Nat),.int (k:Nat)],.none]]) (hs:=[]) (Ps:=[]) (by simp only[Aq,A7,PV ha hn hk he]) (Aa rfl) (aE (yq ha hn hk he) aV) (aB .note (c5 (Aa rfl)) (Rc hk) rfl rfl) rfl rfl aV rfl (by apply Sz.small;repeat (first|exact iG|exact iV|exact bq (c0 ha ∎)|exact bq (c0 hn ∎)|exact cf (i:=k) ⋯|exact cf (i:=1+k % 20) ⋯|exact cf (i:=0) ∎|exact cf (i:=20) ∎|exact bq ∅|exact bq (x:="bind") ∅|exact bq (x:="as") ∅|exact bq (x:="is") ∅|exact bq (x:="next") ∅|apply iL|apply iN|decide))
theorem Lm{a n:Str}{k e:Nat}(ha:az 8 a)(hn:az 4 n)(hk:k < 100)(he:e < 99):cm (.tuple [bh [(("note a a 0 1 ":Str)++a)],.list [.int (0:Nat),.int (5:Nat)]]):=
 g9 (wss:=[[("note":Str),("a":Str),("a":Str),("0":Str),("1":Str),a]]) (i:=0) (j:=5) (by simp only[Aq,A7,P9 ha hn hk he]) (Aa rfl) (aE (FF ha hn hk he) aV) (Aa rfl) (Aa rfl) (jn .note (c5 (Aa rfl)) (Iq ha))
theorem M7{a n:Str}{k e:Nat}(ha:az 8 a)(hn:az 4 n)(hk:k < 100)(he:e < 99):cm (.tuple [bh [((("note ":Str)++a)++("a":Str))],.list [.int (0:Nat),.int (1:Nat)]]):=
 g9 (wss:=[[("note":Str),(a++("a":Str))]]) (i:=0) (j:=1) (by simp only[Aq,A7,MU ha hn hk he]) (Aa rfl) (aE (uj ha hn hk he) aV) (Aa rfl) (Aa rfl) (jn .note (c5 (Aa rfl)) (k9 (Sn ha)))
theorem Ou{a n:Str}{k e:Nat}(ha:az 8 a)(hn:az 4 n)(hk:k < 100)(he:e < 99):cm (.tuple [bh [(("note ":Str)++(sK (100+k)))],.list [.int (0:Nat),.int (1:Nat)]]):=
 g9 (wss:=[[("note":Str),(sK (100+k))]]) (i:=0) (j:=1) (by simp only[Aq,A7,OD ha hn hk he]) (Aa rfl) (aE (DH ha hn hk he) aV) (Aa rfl) (Aa rfl) (jn .note (c5 (Aa rfl)) (k9 (nY (AH _ ⋯) (v9 k hk))))
theorem Lk{a n:Str}{k e:Nat}(ha:az 8 a)(hn:az 4 n)(hk:k < 100)(he:e < 99):cm (.tuple [bh [("note a @20":Str)],.tuple [.tuple (([]:List (List Bl)).map cg),.tuple [.tuple [.tuple [.str "a"],.int (20:Nat)]]]]):=
 iB (wss:=[[("note":Str),("a":Str),("@20":Str)]]) (ns:=[.tuple [.tuple [.str "a"],.int (20:Nat)]]) (hs:=[]) (Ps:=[]) (by simp only[Aq,A7,Qz ha hn hk he]) (Aa rfl) (aE (Ls ha hn hk he) aV) (aB .note (c5 (Aa rfl)) vg rfl rfl) rfl rfl aV rfl (by apply Sz.small;repeat (first|exact iG|exact iV|exact bq (c0 ha ∎)|exact bq (c0 hn ∎)|exact cf (i:=k) ⋯|exact cf (i:=1+k % 20) ⋯|exact cf (i:=0) ∎|exact cf (i:=20) ∎|exact bq ∅|exact bq (x:="bind") ∅|exact bq (x:="as") ∅|exact bq (x:="is") ∅|exact bq (x:="next") ∅|apply iL|apply iN|decide))
theorem O6{a n:Str}{k e:Nat}(ha:az 8 a)(hn:az 4 n)(hk:k < 100)(he:e < 99):cm (.tuple [bh [(("note a @":Str)++(sK (21+k)))],.list [.int (0:Nat),.int (2:Nat)]]):=
 g9 (wss:=[[("note":Str),("a":Str),(("@":Str)++(sK (21+k)))]]) (i:=0) (j:=2) (by simp only[Aq,A7,Nu ha hn hk he]) (Aa rfl) (aE (GU ha hn hk he) aV) (Aa rfl) (Aa rfl) (jn .note (c5 (Aa rfl)) (uH hk))
theorem Q1{a n:Str}{k e:Nat}(ha:az 8 a)(hn:az 4 n)(hk:k < 100)(he:e < 99):cm (.tuple [bh [(("note 0":Str)++(sK k))],.list [.int (0:Nat),.int (1:Nat)]]):=
 g9 (wss:=[[("note":Str),(("0":Str)++(sK k))]]) (i:=0) (j:=1) (by simp only[Aq,A7,vG ha hn hk he]) (Aa rfl) (aE (AO ha hn hk he) aV) (Aa rfl) (Aa rfl) (jn .note (c5 (Aa rfl)) (k9 (nY (JP k hk) (TY k hk))))
theorem Oh{a n:Str}{k e:Nat}(ha:az 8 a)(hn:az 4 n)(hk:k < 100)(he:e < 99):cm (.tuple [bh [("hand":Str),("block":Str),(("take ?":Str)++n)],.tuple [.tuple (([[([],[.take [.bind n]])]]:List (List Bl)).map cg),.tuple []]]):=
 iB (wss:=[[("hand":Str)],[("block":Str)],[("take":Str),(("?":Str)++n)]]) (ns:=[]) (hs:=[[(.tuple [],[.tuple [.str "take",.tuple [.tuple [.str "bind",.str n]]]])]]) (Ps:=[[([],[.take [.bind n]])]]) (by simp only[Aq,A7,fC ha hn hk he,tM ha hn hk he,gn ha hn hk he]) (Aa rfl) (aE (dI ha hn hk he) (aE (cO ha hn hk he) (aE (xS ha hn hk he) aV))) (aB .hand (dS rfl (Aa rfl)) dR rfl (aB .block (cF rfl (Aa rfl)) cV rfl (aB .take (oU rfl rfl (Aa rfl)) (NM hn) rfl rfl))) rfl rfl (aE ⟨(Aa rfl),(aE (fh (Aa rfl) aV (Aa rfl) (aE (uL (Aa rfl) (Aa rfl) (aE (kK hn) aV) (aE rfl aV)) aV)) aV)⟩ aV) rfl (by apply Sz.small;repeat (first|exact iG|exact iV|exact bq (c0 ha ∎)|exact bq (c0 hn ∎)|exact cf (i:=k) ⋯|exact cf (i:=1+k % 20) ⋯|exact cf (i:=0) ∎|exact cf (i:=20) ∎|exact bq ∅|exact bq (x:="bind") ∅|exact bq (x:="as") ∅|exact bq (x:="is") ∅|exact bq (x:="next") ∅|apply iL|apply iN|decide))
theorem Lg{a n:Str}{k e:Nat}(ha:az 8 a)(hn:az 4 n)(hk:k < 100)(he:e < 99):cm (.tuple [bh [("hand":Str),("block":Str),((("take ?":Str)++n)++("a":Str))],.list [.int (2:Nat),.int (1:Nat)]]):=
 g9 (wss:=[[("hand":Str)],[("block":Str)],[("take":Str),((("?":Str)++n)++("a":Str))]]) (i:=2) (j:=1) (by simp only[Aq,A7,fC ha hn hk he,uC ha hn hk he,gn ha hn hk he]) (Aa rfl) (aE (dI ha hn hk he) (aE (cO ha hn hk he) (aE (uW ha hn hk he) aV))) (Aa rfl) (Aa rfl) (aB .hand (dS rfl (Aa rfl)) dR rfl (aB .block (cF rfl (Aa rfl)) cV rfl (jn .take (oU rfl rfl (Aa rfl)) (ra hn))))
theorem Qj{a n:Str}{k e:Nat}(ha:az 8 a)(hn:az 4 n)(hk:k < 100)(he:e < 99):cm (.tuple [bh [("hand":Str),("block":Str),("block a b c d":Str)],.tuple [.tuple (([[([],[]),(Zh,[])]]:List (List Bl)).map cg),.tuple []]]):=
 iB (wss:=[[("hand":Str)],[("block":Str)],[("block":Str),("a":Str),("b":Str),("c":Str),("d":Str)]]) (ns:=[]) (hs:=[[(.tuple [],[]),(.tuple [.str "a",.str "b",.str "c",.str "d"],[])]]) (Ps:=[[([],[]),(Zh,[])]]) (by simp only[Aq,A7,fC ha hn hk he,tX ha hn hk he,gn ha hn hk he]) (Aa rfl) (aE (dI ha hn hk he) (aE (cO ha hn hk he) (aE (PU ha hn hk he) aV))) (aB .hand (dS rfl (Aa rfl)) dR rfl (aB .block (cF rfl (Aa rfl)) cV rfl (aB .block (cF rfl (Aa rfl)) MY rfl rfl))) rfl rfl (aE ⟨(Aa rfl),(aE (fh (Aa rfl) aV (Aa rfl) aV) (aE (fh (Aa rfl) (aE (show ej ("a":Str)from⟨by decide +kernel,by decide +kernel⟩) (aE (show ej ("b":Str)from⟨by decide +kernel,by decide +kernel⟩) (aE (show ej ("c":Str)from⟨by decide +kernel,by decide +kernel⟩) (aE (show ej ("d":Str)from⟨by decide +kernel,by decide +kernel⟩) aV)))) (Aa rfl) aV) aV))⟩ aV) rfl (by apply Sz.small;repeat (first|exact iG|exact iV|exact bq (c0 ha ∎)|exact bq (c0 hn ∎)|exact cf (i:=k) ⋯|exact cf (i:=1+k % 20) ⋯|exact cf (i:=0) ∎|exact cf (i:=20) ∎|exact bq ∅|exact bq (x:="bind") ∅|exact bq (x:="as") ∅|exact bq (x:="is") ∅|exact bq (x:="next") ∅|apply iL|apply iN|decide))
theorem Md{a n:Str}{k e:Nat}(ha:az 8 a)(hn:az 4 n)(hk:k < 100)(he:e < 99):cm (.tuple [bh [("hand":Str),("block":Str),("block a b c d e":Str)],.list [.int (2:Nat),.int (5:Nat)]]):=
 g9 (wss:=[[("hand":Str)],[("block":Str)],[("block":Str),("a":Str),("b":Str),("c":Str),("d":Str),("e":Str)]]) (i:=2) (j:=5) (by simp only[Aq,A7,fC ha hn hk he,vk ha hn hk he,gn ha hn hk he]) (Aa rfl) (aE (dI ha hn hk he) (aE (cO ha hn hk he) (aE (SU ha hn hk he) aV))) (Aa rfl) (Aa rfl) (aB .hand (dS rfl (Aa rfl)) dR rfl (aB .block (cF rfl (Aa rfl)) cV rfl (jn .block (cF rfl (Aa rfl)) Sy)))
theorem Sx{a n:Str}{k e:Nat}(ha:az 8 a)(hn:az 4 n)(hk:k < 100)(he:e < 99):cm (.tuple [bh [("hand":Str),("block":Str),((("look $ # ? ":Str)++(sK k))++(" >0":Str))],.tuple [.tuple (([[([],[.look [.word,.num,.any,.isv (.int (k:Nat))] 0])]]:List (List Bl)).map cg),.tuple []]]):=
 iB (wss:=[[("hand":Str)],[("block":Str)],[("look":Str),("$":Str),("#":Str),("?":Str),(sK k),(">0":Str)]]) (ns:=[]) (hs:=[[(.tuple [],[.tuple [.str "look",.tuple (ny k),.int (0:Nat)]])]]) (Ps:=[[([],[.look [.word,.num,.any,.isv (.int (k:Nat))] 0])]]) (by simp only[Aq,A7,fC ha hn hk he,vO ha hn hk he,gn ha hn hk he]) (Aa rfl) (aE (dI ha hn hk he) (aE (cO ha hn hk he) (aE (wD ha hn hk he) aV))) (aB .hand (dS rfl (Aa rfl)) dR rfl (aB .block (cF rfl (Aa rfl)) cV rfl (aB .look (zB rfl rfl (Aa rfl)) (Sf hk) rfl rfl))) rfl rfl (aE ⟨(Aa rfl),(aE (fh (Aa rfl) aV (Aa rfl) (aE (KZ (Aa rfl) (Aa rfl) (aE trivial (aE trivial (aE trivial (aE (iK k hk) aV)))) (aE rfl (aE rfl (aE rfl (aE rfl aV))))) aV)) aV)⟩ aV) rfl (by apply Sz.small;repeat (first|exact iG|exact iV|exact bq (c0 ha ∎)|exact bq (c0 hn ∎)|exact cf (i:=k) ⋯|exact cf (i:=1+k % 20) ⋯|exact cf (i:=0) ∎|exact cf (i:=20) ∎|exact bq ∅|exact bq (x:="bind") ∅|exact bq (x:="as") ∅|exact bq (x:="is") ∅|exact bq (x:="next") ∅|apply iL|apply iN|decide))
theorem Ni{a n:Str}{k e:Nat}(ha:az 8 a)(hn:az 4 n)(hk:k < 100)(he:e < 99):cm (.tuple [bh [("hand":Str),("block":Str),((("look $ # ? ":Str)++(sK k))++(" a >0":Str))],.list [.int (2:Nat),.int (5:Nat)]]):=
 g9 (wss:=[[("hand":Str)],[("block":Str)],[("look":Str),("$":Str),("#":Str),("?":Str),(sK k),("a":Str),(">0":Str)]]) (i:=2) (j:=5) (by simp only[Aq,A7,fC ha hn hk he,sW ha hn hk he,gn ha hn hk he]) (Aa rfl) (aE (dI ha hn hk he) (aE (cO ha hn hk he) (aE (sO ha hn hk he) aV))) (Aa rfl) (Aa rfl) (aB .hand (dS rfl (Aa rfl)) dR rfl (aB .block (cF rfl (Aa rfl)) cV rfl (jn .look (zB rfl rfl (Aa rfl)) (HM hk))))
theorem Pe{a n:Str}{k e:Nat}(ha:az 8 a)(hn:az 4 n)(hk:k < 100)(he:e < 99):cm (.tuple [bh [("hand":Str),("block":Str),(("go >":Str)++(sK (1+e)))],.list [.int (2:Nat),.int (1:Nat)]]):=
 CB (wss:=[[("hand":Str)],[("block":Str)],[("go":Str),((">":Str)++(sK (1+e)))]]) (i:=2) (j:=1) (ns:=[]) (hs:=[[(.tuple [],[.tuple [.str "go",.int ((1+e:Nat):Int)]])]]) (Ps:=[[([],[.go (1+e)])]]) (by simp only[Aq,A7,fC ha hn hk he,sS ha hn hk he,gn ha hn hk he]) (Aa rfl) (aE (dI ha hn hk he) (aE (cO ha hn hk he) (aE (EY ha hn hk he) aV))) (Aa rfl) (Aa rfl) (aB .hand (dS rfl (Aa rfl)) dR rfl (aB .block (cF rfl (Aa rfl)) cV rfl (aB .go (cC rfl rfl (Aa rfl)) (HA (show 1+e < 100 by omega)) rfl rfl))) rfl rfl (aE ⟨(Aa rfl),(aE (fh (Aa rfl) aV (Aa rfl) (aE jE aV)) aV)⟩ aV) (OY e)
theorem Kh{a n:Str}{k e:Nat}(ha:az 8 a)(hn:az 4 n)(hk:k < 100)(he:e < 99):cm (.tuple [bh [("hand":Str),("block":Str),(("go >":Str)++(sK (100+k)))],.list [.int (2:Nat),.int (1:Nat)]]):=
 g9 (wss:=[[("hand":Str)],[("block":Str)],[("go":Str),((">":Str)++(sK (100+k)))]]) (i:=2) (j:=1) (by simp only[Aq,A7,fC ha hn hk he,uv ha hn hk he,gn ha hn hk he]) (Aa rfl) (aE (dI ha hn hk he) (aE (cO ha hn hk he) (aE (DY ha hn hk he) aV))) (Aa rfl) (Aa rfl) (aB .hand (dS rfl (Aa rfl)) dR rfl (aB .block (cF rfl (Aa rfl)) cV rfl (jn .go (cC rfl rfl (Aa rfl)) (Nf hk))))
theorem Lw{a n:Str}{k e:Nat}(ha:az 8 a)(hn:az 4 n)(hk:k < 100)(he:e < 99):cm (.tuple [bh [("hand":Str),(("block ":Str)++n)],.list [.int (1:Nat),.int (1:Nat)]]):=
 CB (wss:=[[("hand":Str)],[("block":Str),n]]) (i:=1) (j:=1) (ns:=[]) (hs:=[[(.tuple [.str n],[])]]) (Ps:=[[([n],[])]]) (by simp only[Aq,A7,fC ha hn hk he,vm ha hn hk he]) (Aa rfl) (aE (dI ha hn hk he) (aE (zM ha hn hk he) aV)) (Aa rfl) (Aa rfl) (aB .hand (dS rfl (Aa rfl)) dR rfl (aB .block (cF rfl (Aa rfl)) (QI hn) rfl rfl)) rfl rfl (aE ⟨(Aa rfl),(aE (fh (Aa rfl) (aE (kK hn) aV) (Aa rfl) aV) aV)⟩ aV) rfl
theorem Tf{a n:Str}{k e:Nat}(ha:az 8 a)(hn:az 4 n)(hk:k < 100)(he:e < 99):cm (.tuple [bh [("hand":Str)],.list [.int (1:Nat),.int (0:Nat)]]):=
 J3 (wss:=[[("hand":Str)]]) (ns:=[]) (hs:=[[]]) (by simp only[Aq,A7,fC ha hn hk he]) (Aa rfl) (aE (dI ha hn hk he) aV) (aB .hand (dS rfl (Aa rfl)) dR rfl rfl) rfl
theorem Lu{a n:Str}{k e:Nat}(ha:az 8 a)(hn:az 4 n)(hk:k < 100)(he:e < 99):cm (.tuple [bh [("hand":Str),("block":Str),("take ?a ?b ?c ?d":Str),(("take ?e ?":Str)++n),(((("lay =a =e =":Str)++n)++(" +d @":Str))++(sK (1+k % 20)))],.tuple [.tuple (([[([],dU n k)]]:List (List Bl)).map cg),.tuple []]]):=
 iB (wss:=[[("hand":Str)],[("block":Str)],[("take":Str),("?a":Str),("?b":Str),("?c":Str),("?d":Str)],[("take":Str),("?e":Str),(("?":Str)++n)],[("lay":Str),("=a":Str),("=e":Str),(("=":Str)++n),("+d":Str),(("@":Str)++(sK (1+k % 20)))]]) (ns:=[]) (hs:=[[(.tuple [],[.tuple [.str "take",.tuple [bD "a",bD "b",bD "c",bD "d"]],.tuple [.str "take",.tuple [bD "e",bD n]],.tuple [.str "lay",.tuple [aD "a",aD "e",aD n,.tuple [.str "next",.str "d"]],.int ((1+k % 20:Nat):Int)]])]]) (Ps:=[[([],dU n k)]]) (by simp only[Aq,A7,fC ha hn hk he,gn ha hn hk he,sy ha hn hk he,rE ha hn hk he,rG ha hn hk he]) (Aa rfl) (aE (dI ha hn hk he) (aE (cO ha hn hk he) (aE (PM ha hn hk he) (aE (xA ha hn hk he) (aE (pE ha hn hk he) aV))))) (aB .hand (dS rfl (Aa rfl)) dR rfl (aB .block (cF rfl (Aa rfl)) cV rfl (aB .take (oU rfl rfl (Aa rfl)) S6 rfl (aB .take (oU rfl rfl (Aa rfl)) (Il hn) rfl (aB .lay (TN rfl rfl (Aa rfl)) (O2 hn (show 1<=1+k % 20 by omega) (show 1+k % 20<=20 by omega)) rfl rfl))))) rfl rfl (Ic hn) (Ui n k) (by apply Sz.small;repeat (first|exact iG|exact iV|exact bq (c0 ha ∎)|exact bq (c0 hn ∎)|exact cf (i:=k) ⋯|exact cf (i:=1+k % 20) ⋯|exact cf (i:=0) ∎|exact cf (i:=20) ∎|exact bq ∅|exact bq (x:="bind") ∅|exact bq (x:="as") ∅|exact bq (x:="is") ∅|exact bq (x:="next") ∅|apply iL|apply iN|decide))
theorem Nr{a n:Str}{k e:Nat}(ha:az 8 a)(hn:az 4 n)(hk:k < 100)(he:e < 99):cm (.tuple [bh [("hand":Str),("block":Str),((((("same ":Str)++a)++(" ":Str))++(sK k))++(" >0":Str))],.tuple [.tuple (([[([],[.same (.isv (.str a)) (.isv (.int (k:Nat))) 0])]]:List (List Bl)).map cg),.tuple []]]):=
 iB (wss:=[[("hand":Str)],[("block":Str)],[("same":Str),a,(sK k),(">0":Str)]]) (ns:=[]) (hs:=[[(.tuple [],[.tuple [.str "same",.tuple [.str "is",.str a],.tuple [.str "is",.int (k:Nat)],.int (0:Nat)]])]]) (Ps:=[[([],[.same (.isv (.str a)) (.isv (.int (k:Nat))) 0])]]) (by simp only[Aq,A7,fC ha hn hk he,gn ha hn hk he,uG ha hn hk he]) (Aa rfl) (aE (dI ha hn hk he) (aE (cO ha hn hk he) (aE (nZ ha hn hk he) aV))) (aB .hand (dS rfl (Aa rfl)) dR rfl (aB .block (cF rfl (Aa rfl)) cV rfl (aB .same (KR rfl rfl (Aa rfl)) (Nm ha hk) rfl rfl))) rfl rfl (aE ⟨(Aa rfl),(aE (fh (Aa rfl) aV (Aa rfl) (aE (Js (iA ha) (iK k hk) rfl rfl) aV)) aV)⟩ aV) rfl (by apply Sz.small;repeat (first|exact iG|exact iV|exact bq (c0 ha ∎)|exact bq (c0 hn ∎)|exact cf (i:=k) ⋯|exact cf (i:=1+k % 20) ⋯|exact cf (i:=0) ∎|exact cf (i:=20) ∎|exact bq ∅|exact bq (x:="bind") ∅|exact bq (x:="as") ∅|exact bq (x:="is") ∅|exact bq (x:="next") ∅|apply iL|apply iN|decide))
def Ev(δ:Sl)(n:Int)(w:DT)(x:Ah):Prop:=∀Q:DQ,Q (.d x) n->w δ n Q
def oP(δ:Sl)(n:Int)(w:eO)(xs:List Ah):Prop:=∀Q:List Wv->Int->Prop,Q (xs.map .d) n->w δ n Q
section
variable{δ:Sl}{n:Int}{w w' wa wb:DT}{r:eO}{c x y:Ah}{xs ds es:List Ah}{s u:Str}{i j:Nat}
theorem sh:∀xs:List Ah,dm (xs.map .d)=ae xs
 |[]=>rfl
 |x::r=>by rw[Aq,dm,sh r];rfl
theorem av:Ev δ n (wC c) c:=λQ q=>q
theorem bE(e:δ[i]?=ae (ae (.w (.d x)))):Ev δ n (ak i) x:=λQ q=>aF e q
theorem aI:oP δ n aj []:=λQ q=>q
theorem au(h:Ev δ n w x)(h':oP δ n r xs):oP δ n (ao w r) (x::xs):=λQ q=>h _ (h' _ q)
theorem aP(h:oP δ n r xs)(hl:xs.length<=1000):Ev δ n (aq r) (.tuple xs):=λQ q=>h _ (by
 show(match dm (xs.map .d)with|some ds=>ds.length<=1000/\Q (.d (.tuple ds)) n|none=>False);rw[sh];exact⟨hl,q⟩)
theorem b6(h:oP δ n r xs)(hl:xs.length<=1000):Ev δ n (aJ (aA r)) (.list xs):=λQ q=>h _ (by
 show(match dm (xs.map .d)with|some ds=>ds.length<=1000/\Q (.d (.list ds)) n|none=>False);rw[sh];exact⟨hl,q⟩)
theorem jZ{k:Nat}{z:Int}(e:z=k)(h:Ev δ n w (.list ds))(hk:k<=20)(hl:ds.length<=40):Ev δ n (aJ (fE w (wC (.int z)))) (.list (Ax k ds).flatten):=λQ q=>h _ ⟨ds,k,rfl,by rw[e],hk,hl,q⟩
theorem qk{k:Nat}{z:Int}(e:z=k)(h:Ev δ n w (.tuple ds))(h0:ds≠[])(h2:2<=k)(hk:k<=1000)(hl:ds.length<=1000):Ev δ n (i6 w (wC (.int z))) (.tuple (Ax k ds).flatten):=λQ q=>h _ ⟨ds,k,rfl,by rw[e],h0,by omega,by omega,hl,by rw[Ck];exact q⟩
theorem dQ(h:Ev δ n w (.str s))(h':Ev δ n w' (.str u))(hl:s.length+u.length<=Ao):Ev δ n (w2 w w' aG) (.str (s++u)):=λQ q=>h _ (h' _ ⟨hl,q⟩)
theorem mn(h:Ev δ n w (.list ds))(h':Ev δ n w' (.list es))(hl:ds.length+es.length<=1000)(e:ds++es=xs):Ev δ n (w2 w w' aG) (.list xs):=λQ q=>by subst e;exact h _ (h' _ ⟨An hl ∎,q⟩)
theorem xV(h:Ev δ n w (.tuple ds))(h':Ev δ n w' (.tuple es))(h0:ds≠[]\/es≠[])(hl:ds.length+es.length<=1000)(e:ds++es=xs):Ev δ n (w2 w w' aG) (.tuple xs):=λQ q=>by subst e;exact h _ (h' _ ⟨h0,An hl ∎,q⟩)
theorem m5(h:Ev δ n w (.int (i:Nat)))(h':Ev δ n w' (.int (j:Nat))):Ev δ n (w2 w w' aG) (.int ((i+j:Nat):Int)):=λQ q=>h _ (h' _ (by
 show Q (.d (.int ((i:Int)+(j:Int)))) n;rw[<-Int.natCast_add];exact q))
theorem GN(h:Ev δ n w (.int (i:Nat))):Ev δ n (w2 w (wC (.int 20)) (gI (λ_ j=>0 < j) λi j=>.int (i % j))) (.int ((i % 20:Nat):Int)):=λQ q=>h _ ⟨show(0:Int) < 20 by decide,by
 show Q (.d (.int ((i:Int) % 20))) n;rw[show((i:Int) % 20)=((i % 20:Nat):Int) by omega];exact q⟩
theorem zo:∀i:Nat,i < 200->((i:Int).natAbs.log2 < 1920/\(sK i).length<=1000):=by decide +kernel
theorem jD(h:Ev δ n w (.int (i:Nat)))(hi:i < 200):Ev δ n (wB bM (ao w aj)) (.str (sK i)):=λQ q=>h _ ⟨zo i hi,q⟩
theorem S2:Ev δ n (wB fk (ao (aJ (cv [af] (eS (wC (.str "abcd"))) (bg 0) aX (aq (ao (wC (.str "bind")) (ao ↥0 aj))))) aj)) (.tuple [bD "a",bD "b",bD "c",bD "d"]):=λQ q=>by
 have e:(gw ("abcd":Str))=[.str "a",.str "b",.str "c",.str "d"]:=by with_unfolding_all rfl
 show c8 (bg 0) aX (aq (ao (wC (.str "bind")) (ao ↥0 aj))) (λds n1=>fk [.d (.list ds)] n1 Q) (gw ("abcd":Str)) [] (dD [af] δ) n;rw[e];have comp:∀(l:List Str)(acc:List Ah)(x:Option SV)(Q':List Ah->Int->Prop),Q' (acc++l.map λy=>bD y) n->c8 (bg 0) aX (aq (ao (wC (.str "bind")) (ao ↥0 aj))) Q' (l.map .str) acc [x] n:=λl=>by
  induction l with
  |nil=>intro acc x Q' q;rw[A7,Cc]at q;exact q
  |cons y r ih=>
   intro acc x Q' q;simp only[Aq,c8,bg,aX,if_true,Bw];refine(show aq _ _ _ _ from By (show 2<=1000 by decide) ?_);exact ih (acc++[bD y]) (ae (.w (.d (.str y)))) Q' (by rw[Cj];exact q)
 exact comp Zh [] af _ q
theorem dO{K:DEnds}{X:Ah}{L:List Ah}(e:δ[4]?=ae (ae (.own L)))(hw:Ev δ n w X)(hX:cm X)(hL:(∀d∈L,cm d)/\L.length=i)(hl:i < 40)(k:∀L',((∀d∈L',cm d)/\L'.length=i+1)->K.nx (δ.set 4 (ae (.own L'))) n):bu 4 w δ n K:=Th e hw ⋯ (k _ ⟨λd hd=>(Bi.mp hd).elim (hL.1 d) λz=>by rw[A6.mp z];exact hX,by rw[A0,B5,hL.2]⟩)
end
abbrev cY(a m:Str)(k:Nat)(L:List Ah)(x5 x6:Option SV):Sl:=[ae (.w .tp),ae (.w (.d (.str a))),ae (.w (.d (.str m))),ae (.w (.d (.int (k:Nat)))),ae (.own L),x5,x6]
section
variable{a n:Str}{k e:Nat}{L:List Ah}{x5 x6:Option SV}{m:Int}
theorem vw(ha:az 8 a)(hn:az 4 n)(hk:k < 100):Ev (cY a n k L x5 x6) m (aq (ao (aJ (fE (aJ (aA (ao (w2 (wC (.str "note ")) ↥1 aG) aj))) ⇑12)) (ao (aq (ao (aq aj) (ao (i6 (aq (ao (aq (ao (aq (ao ↥1 aj)) (ao (wC .none) aj))) aj)) ⇑12) aj))) aj))) (.tuple [bh [(("note ":Str)++a),(("note ":Str)++a),(("note ":Str)++a),(("note ":Str)++a),(("note ":Str)++a),(("note ":Str)++a),(("note ":Str)++a),(("note ":Str)++a),(("note ":Str)++a),(("note ":Str)++a),(("note ":Str)++a),(("note ":Str)++a)],.tuple [.tuple (([]:List (List Bl)).map cg),.tuple [.tuple [.tuple [.str a],.none],.tuple [.tuple [.str a],.none],.tuple [.tuple [.str a],.none],.tuple [.tuple [.str a],.none],.tuple [.tuple [.str a],.none],.tuple [.tuple [.str a],.none],.tuple [.tuple [.str a],.none],.tuple [.tuple [.str a],.none],.tuple [.tuple [.str a],.none],.tuple [.tuple [.str a],.none],.tuple [.tuple [.str a],.none],.tuple [.tuple [.str a],.none]]]]):=
 (aP (au (jZ (k:=12) rfl (b6 (au (dQ av (bE rfl) (by refine An ?_ (show 100<=Ao by decide);have h0:=(dG (e:=0) ha hn hk ∎).1;simp only[cL]at h0 ⊢;omega)) aI) (Aa rfl)) (Aa rfl) (Aa rfl)) (au (aP (au (aP aI (Aa rfl)) (au (qk (k:=12) rfl (aP (au (aP (au (aP (au (bE rfl) aI) (Aa rfl)) (au av aI)) (Aa rfl)) aI) (Aa rfl)) (λz=>nomatch z) (Aa rfl) (Aa rfl) (Aa rfl)) aI)) (Aa rfl)) aI)) (Aa rfl))
theorem sQ(ha:az 8 a)(hn:az 4 n)(hk:k < 100):Ev (cY a n k L x5 x6) m (aq (ao (aJ (fE (aJ (aA (ao (w2 (wC (.str "note ")) ↥1 aG) aj))) ⇑13)) (ao (aJ (aA (ao ⇑12 (ao ⇑0 aj)))) aj))) (.tuple [bh [(("note ":Str)++a),(("note ":Str)++a),(("note ":Str)++a),(("note ":Str)++a),(("note ":Str)++a),(("note ":Str)++a),(("note ":Str)++a),(("note ":Str)++a),(("note ":Str)++a),(("note ":Str)++a),(("note ":Str)++a),(("note ":Str)++a),(("note ":Str)++a)],.list [.int (12:Nat),.int (0:Nat)]]):=
 (aP (au (jZ (k:=13) rfl (b6 (au (dQ av (bE rfl) (by refine An ?_ (show 100<=Ao by decide);have h0:=(dG (e:=0) ha hn hk ∎).1;simp only[cL]at h0 ⊢;omega)) aI) (Aa rfl)) (Aa rfl) (Aa rfl)) (au (b6 (au av (au av aI)) (Aa rfl)) aI)) (Aa rfl))
theorem tO(ha:az 8 a)(hn:az 4 n)(hk:k < 100):Ev (cY a n k L x5 x6) m (aq (ao (aJ (fE (aJ (aA (ao (wC (.str "hand")) (ao (wC (.str "block")) aj)))) ⇑5)) (ao (aq (ao (i6 (aq (ao (aq (ao (aq (ao (aq aj) (ao (aq aj) aj))) aj)) aj)) ⇑5) (ao (aq aj) aj))) aj))) (.tuple [bh [("hand":Str),("block":Str),("hand":Str),("block":Str),("hand":Str),("block":Str),("hand":Str),("block":Str),("hand":Str),("block":Str)],.tuple [.tuple (([[([],[])],[([],[])],[([],[])],[([],[])],[([],[])]]:List (List Bl)).map cg),.tuple []]]):=
 (aP (au (jZ (k:=5) rfl (b6 (au av (au av aI)) (Aa rfl)) (Aa rfl) (Aa rfl)) (au (aP (au (qk (k:=5) rfl (aP (au (aP (au (aP (au (aP aI (Aa rfl)) (au (aP aI (Aa rfl)) aI)) (Aa rfl)) aI) (Aa rfl)) aI) (Aa rfl)) (λz=>nomatch z) (Aa rfl) (Aa rfl) (Aa rfl)) (au (aP aI (Aa rfl)) aI)) (Aa rfl)) aI)) (Aa rfl))
theorem sZ(ha:az 8 a)(hn:az 4 n)(hk:k < 100):Ev (cY a n k L x5 x6) m (aq (ao (w2 (aJ (fE (aJ (aA (ao (wC (.str "hand")) (ao (wC (.str "block")) aj)))) ⇑5)) (aJ (aA (ao (wC (.str "hand")) aj))) aG) (ao (aJ (aA (ao ⇑10 (ao ⇑0 aj)))) aj))) (.tuple [bh [("hand":Str),("block":Str),("hand":Str),("block":Str),("hand":Str),("block":Str),("hand":Str),("block":Str),("hand":Str),("block":Str),("hand":Str)],.list [.int (10:Nat),.int (0:Nat)]]):=
 (aP (au (mn (jZ (k:=5) rfl (b6 (au av (au av aI)) (Aa rfl)) (Aa rfl) (Aa rfl)) (b6 (au av aI) (Aa rfl)) (Aa rfl) rfl) (au (b6 (au av (au av aI)) (Aa rfl)) aI)) (Aa rfl))
theorem rA(ha:az 8 a)(hn:az 4 n)(hk:k < 100):Ev (cY a n k L x5 x6) m (aq (ao (w2 (aJ (aA (ao (wC (.str "hand")) aj))) (aJ (fE (aJ (aA (ao (wC (.str "block")) aj))) ⇑6)) aG) (ao (aq (ao (aq (ao (i6 (aq (ao (aq (ao (aq aj) (ao (aq aj) aj))) aj)) ⇑6) aj)) (ao (aq aj) aj))) aj))) (.tuple [bh [("hand":Str),("block":Str),("block":Str),("block":Str),("block":Str),("block":Str),("block":Str)],.tuple [.tuple (([[([],[]),([],[]),([],[]),([],[]),([],[]),([],[])]]:List (List Bl)).map cg),.tuple []]]):=
 (aP (au (mn (b6 (au av aI) (Aa rfl)) (jZ (k:=6) rfl (b6 (au av aI) (Aa rfl)) (Aa rfl) (Aa rfl)) (Aa rfl) rfl) (au (aP (au (aP (au (qk (k:=6) rfl (aP (au (aP (au (aP aI (Aa rfl)) (au (aP aI (Aa rfl)) aI)) (Aa rfl)) aI) (Aa rfl)) (λz=>nomatch z) (Aa rfl) (Aa rfl) (Aa rfl)) aI) (Aa rfl)) (au (aP aI (Aa rfl)) aI)) (Aa rfl)) aI)) (Aa rfl))
theorem sf(ha:az 8 a)(hn:az 4 n)(hk:k < 100):Ev (cY a n k L x5 x6) m (aq (ao (w2 (aJ (aA (ao (wC (.str "hand")) aj))) (aJ (fE (aJ (aA (ao (wC (.str "block")) aj))) ⇑7)) aG) (ao (aJ (aA (ao ⇑7 (ao ⇑0 aj)))) aj))) (.tuple [bh [("hand":Str),("block":Str),("block":Str),("block":Str),("block":Str),("block":Str),("block":Str),("block":Str)],.list [.int (7:Nat),.int (0:Nat)]]):=
 (aP (au (mn (b6 (au av aI) (Aa rfl)) (jZ (k:=7) rfl (b6 (au av aI) (Aa rfl)) (Aa rfl) (Aa rfl)) (Aa rfl) rfl) (au (b6 (au av (au av aI)) (Aa rfl)) aI)) (Aa rfl))
theorem vM(ha:az 8 a)(hn:az 4 n)(hk:k < 100):Ev (cY a n k L x5 x6) m (aq (ao (w2 (aJ (aA (ao (wC (.str "hand")) (ao (wC (.str "block")) aj)))) (aJ (fE (aJ (aA (ao (wC (.str "go >0")) aj))) ⇑8)) aG) (ao (aq (ao (aq (ao (aq (ao (aq (ao (aq aj) (ao (i6 (aq (ao (aq (ao (wC (.str "go")) (ao ⇑0 aj))) aj)) ⇑8) aj))) aj)) aj)) (ao (aq aj) aj))) aj))) (.tuple [bh [("hand":Str),("block":Str),("go >0":Str),("go >0":Str),("go >0":Str),("go >0":Str),("go >0":Str),("go >0":Str),("go >0":Str),("go >0":Str)],.tuple [.tuple (([[([],[.go 0,.go 0,.go 0,.go 0,.go 0,.go 0,.go 0,.go 0])]]:List (List Bl)).map cg),.tuple []]]):=
 (aP (au (mn (b6 (au av (au av aI)) (Aa rfl)) (jZ (k:=8) rfl (b6 (au av aI) (Aa rfl)) (Aa rfl) (Aa rfl)) (Aa rfl) rfl) (au (aP (au (aP (au (aP (au (aP (au (aP aI (Aa rfl)) (au (qk (k:=8) rfl (aP (au (aP (au av (au av aI)) (Aa rfl)) aI) (Aa rfl)) (λz=>nomatch z) (Aa rfl) (Aa rfl) (Aa rfl)) aI)) (Aa rfl)) aI) (Aa rfl)) aI) (Aa rfl)) (au (aP aI (Aa rfl)) aI)) (Aa rfl)) aI)) (Aa rfl))
theorem vq(ha:az 8 a)(hn:az 4 n)(hk:k < 100):Ev (cY a n k L x5 x6) m (aq (ao (w2 (aJ (aA (ao (wC (.str "hand")) (ao (wC (.str "block")) aj)))) (aJ (fE (aJ (aA (ao (wC (.str "go >0")) aj))) ⇑9)) aG) (ao (aJ (aA (ao ⇑10 (ao ⇑0 aj)))) aj))) (.tuple [bh [("hand":Str),("block":Str),("go >0":Str),("go >0":Str),("go >0":Str),("go >0":Str),("go >0":Str),("go >0":Str),("go >0":Str),("go >0":Str),("go >0":Str)],.list [.int (10:Nat),.int (0:Nat)]]):=
 (aP (au (mn (b6 (au av (au av aI)) (Aa rfl)) (jZ (k:=9) rfl (b6 (au av aI) (Aa rfl)) (Aa rfl) (Aa rfl)) (Aa rfl) rfl) (au (b6 (au av (au av aI)) (Aa rfl)) aI)) (Aa rfl))
theorem uq(ha:az 8 a)(hn:az 4 n)(hk:k < 100):Ev (cY a n k L x5 x6) m (aq (ao (aJ (aA (ao (w2 (wC (.str "note a a 0 ")) (wB bM (ao ↥3 aj)) aG) aj))) (ao (aq (ao (aq aj) (ao (aq (ao (aq (ao (aq (ao (wC (.str "a")) (ao (wC (.str "a")) (ao ⇑0 (ao ↥3 aj))))) (ao (wC .none) aj))) aj)) aj))) aj))) (.tuple [bh [(("note a a 0 ":Str)++(sK k))],.tuple [.tuple (([]:List (List Bl)).map cg),.tuple [.tuple [.tuple [.str "a",.str "a",.int (0:Nat),.int (k:Nat)],.none]]]]):=
 (aP (au (b6 (au (dQ av (jD (bE rfl) ⋯) (by refine An ?_ (show 100<=Ao by decide);have h0:=(yq (e:=0) ha hn hk ∎).1;simp only[cL]at h0 ⊢;omega)) aI) (Aa rfl)) (au (aP (au (aP aI (Aa rfl)) (au (aP (au (aP (au (aP (au av (au av (au av (au (bE rfl) aI)))) (Aa rfl)) (au av aI)) (Aa rfl)) aI) (Aa rfl)) aI)) (Aa rfl)) aI)) (Aa rfl))
theorem Li(ha:az 8 a)(hn:az 4 n)(hk:k < 100):Ev (cY a n k L x5 x6) m (aq (ao (aJ (aA (ao (w2 (wC (.str "note a a 0 1 ")) ↥1 aG) aj))) (ao (aJ (aA (ao ⇑0 (ao ⇑5 aj)))) aj))) (.tuple [bh [(("note a a 0 1 ":Str)++a)],.list [.int (0:Nat),.int (5:Nat)]]):=
 (aP (au (b6 (au (dQ av (bE rfl) (by refine An ?_ (show 100<=Ao by decide);have h0:=(FF (e:=0) ha hn hk ∎).1;simp only[cL]at h0 ⊢;omega)) aI) (Aa rfl)) (au (b6 (au av (au av aI)) (Aa rfl)) aI)) (Aa rfl))
theorem QT(ha:az 8 a)(hn:az 4 n)(hk:k < 100):Ev (cY a n k L x5 x6) m (aq (ao (aJ (aA (ao (w2 (w2 (wC (.str "note ")) ↥1 aG) (wC (.str "a")) aG) aj))) (ao (aJ (aA (ao ⇑0 (ao ⇑1 aj)))) aj))) (.tuple [bh [((("note ":Str)++a)++("a":Str))],.list [.int (0:Nat),.int (1:Nat)]]):=
 (aP (au (b6 (au (dQ (dQ av (bE rfl) (by refine An ?_ (show 100<=Ao by decide);have h0:=(uj (e:=0) ha hn hk ∎).1;simp only[cL]at h0 ⊢;omega)) av (by refine An ?_ (show 100<=Ao by decide);have h0:=(uj (e:=0) ha hn hk ∎).1;simp only[cL]at h0 ⊢;omega)) aI) (Aa rfl)) (au (b6 (au av (au av aI)) (Aa rfl)) aI)) (Aa rfl))
theorem IZ(ha:az 8 a)(hn:az 4 n)(hk:k < 100):Ev (cY a n k L x5 x6) m (aq (ao (aJ (aA (ao (w2 (wC (.str "note ")) (wB bM (ao (w2 ⇑100 ↥3 aG) aj)) aG) aj))) (ao (aJ (aA (ao ⇑0 (ao ⇑1 aj)))) aj))) (.tuple [bh [(("note ":Str)++(sK (100+k)))],.list [.int (0:Nat),.int (1:Nat)]]):=
 (aP (au (b6 (au (dQ av (jD (m5 av (bE rfl)) ⋯) (by refine An ?_ (show 100<=Ao by decide);have h0:=(DH (e:=0) ha hn hk ∎).1;simp only[cL]at h0 ⊢;omega)) aI) (Aa rfl)) (au (b6 (au av (au av aI)) (Aa rfl)) aI)) (Aa rfl))
theorem Kv(ha:az 8 a)(hn:az 4 n)(hk:k < 100):Ev (cY a n k L x5 x6) m (aq (ao (aJ (aA (ao (wC (.str "note a @20")) aj))) (ao (aq (ao (aq aj) (ao (aq (ao (aq (ao (aq (ao (wC (.str "a")) aj)) (ao ⇑20 aj))) aj)) aj))) aj))) (.tuple [bh [("note a @20":Str)],.tuple [.tuple (([]:List (List Bl)).map cg),.tuple [.tuple [.tuple [.str "a"],.int (20:Nat)]]]]):=
 (aP (au (b6 (au av aI) (Aa rfl)) (au (aP (au (aP aI (Aa rfl)) (au (aP (au (aP (au (aP (au av aI) (Aa rfl)) (au av aI)) (Aa rfl)) aI) (Aa rfl)) aI)) (Aa rfl)) aI)) (Aa rfl))
theorem Kz(ha:az 8 a)(hn:az 4 n)(hk:k < 100):Ev (cY a n k L x5 x6) m (aq (ao (aJ (aA (ao (w2 (wC (.str "note a @")) (wB bM (ao (w2 ⇑21 ↥3 aG) aj)) aG) aj))) (ao (aJ (aA (ao ⇑0 (ao ⇑2 aj)))) aj))) (.tuple [bh [(("note a @":Str)++(sK (21+k)))],.list [.int (0:Nat),.int (2:Nat)]]):=
 (aP (au (b6 (au (dQ av (jD (m5 av (bE rfl)) ⋯) (by refine An ?_ (show 100<=Ao by decide);have h0:=(GU (e:=0) ha hn hk ∎).1;simp only[cL]at h0 ⊢;omega)) aI) (Aa rfl)) (au (b6 (au av (au av aI)) (Aa rfl)) aI)) (Aa rfl))
theorem Qt(ha:az 8 a)(hn:az 4 n)(hk:k < 100):Ev (cY a n k L x5 x6) m (aq (ao (aJ (aA (ao (w2 (wC (.str "note 0")) (wB bM (ao ↥3 aj)) aG) aj))) (ao (aJ (aA (ao ⇑0 (ao ⇑1 aj)))) aj))) (.tuple [bh [(("note 0":Str)++(sK k))],.list [.int (0:Nat),.int (1:Nat)]]):=
 (aP (au (b6 (au (dQ av (jD (bE rfl) ⋯) (by refine An ?_ (show 100<=Ao by decide);have h0:=(AO (e:=0) ha hn hk ∎).1;simp only[cL]at h0 ⊢;omega)) aI) (Aa rfl)) (au (b6 (au av (au av aI)) (Aa rfl)) aI)) (Aa rfl))
theorem N7(ha:az 8 a)(hn:az 4 n)(hk:k < 100):Ev (cY a n k L x5 x6) m (aq (ao (aJ (aA (ao (wC (.str "hand")) (ao (wC (.str "block")) (ao (w2 (wC (.str "take ?")) ↥2 aG) aj))))) (ao (aq (ao (aq (ao (aq (ao (aq (ao (aq aj) (ao (aq (ao (aq (ao (wC (.str "take")) (ao (aq (ao (aq (ao (wC (.str "bind")) (ao ↥2 aj))) aj)) aj))) aj)) aj))) aj)) aj)) (ao (aq aj) aj))) aj))) (.tuple [bh [("hand":Str),("block":Str),(("take ?":Str)++n)],.tuple [.tuple (([[([],[.take [.bind n]])]]:List (List Bl)).map cg),.tuple []]]):=
 (aP (au (b6 (au av (au av (au (dQ av (bE rfl) (by refine An ?_ (show 100<=Ao by decide);have h0:=(xS (e:=0) ha hn hk ∎).1;simp only[cL]at h0 ⊢;omega)) aI))) (Aa rfl)) (au (aP (au (aP (au (aP (au (aP (au (aP aI (Aa rfl)) (au (aP (au (aP (au av (au (aP (au (aP (au av (au (bE rfl) aI)) (Aa rfl)) aI) (Aa rfl)) aI)) (Aa rfl)) aI) (Aa rfl)) aI)) (Aa rfl)) aI) (Aa rfl)) aI) (Aa rfl)) (au (aP aI (Aa rfl)) aI)) (Aa rfl)) aI)) (Aa rfl))
theorem Lx(ha:az 8 a)(hn:az 4 n)(hk:k < 100):Ev (cY a n k L x5 x6) m (aq (ao (aJ (aA (ao (wC (.str "hand")) (ao (wC (.str "block")) (ao (w2 (w2 (wC (.str "take ?")) ↥2 aG) (wC (.str "a")) aG) aj))))) (ao (aJ (aA (ao ⇑2 (ao ⇑1 aj)))) aj))) (.tuple [bh [("hand":Str),("block":Str),((("take ?":Str)++n)++("a":Str))],.list [.int (2:Nat),.int (1:Nat)]]):=
 (aP (au (b6 (au av (au av (au (dQ (dQ av (bE rfl) (by refine An ?_ (show 100<=Ao by decide);have h0:=(uW (e:=0) ha hn hk ∎).1;simp only[cL]at h0 ⊢;omega)) av (by refine An ?_ (show 100<=Ao by decide);have h0:=(uW (e:=0) ha hn hk ∎).1;simp only[cL]at h0 ⊢;omega)) aI))) (Aa rfl)) (au (b6 (au av (au av aI)) (Aa rfl)) aI)) (Aa rfl))
theorem S8(ha:az 8 a)(hn:az 4 n)(hk:k < 100):Ev (cY a n k L x5 x6) m (aq (ao (aJ (aA (ao (wC (.str "hand")) (ao (wC (.str "block")) (ao (wC (.str "block a b c d")) aj))))) (ao (aq (ao (aq (ao (aq (ao (aq (ao (aq aj) (ao (aq aj) aj))) (ao (aq (ao (aq (ao (wC (.str "a")) (ao (wC (.str "b")) (ao (wC (.str "c")) (ao (wC (.str "d")) aj))))) (ao (aq aj) aj))) aj))) aj)) (ao (aq aj) aj))) aj))) (.tuple [bh [("hand":Str),("block":Str),("block a b c d":Str)],.tuple [.tuple (([[([],[]),(Zh,[])]]:List (List Bl)).map cg),.tuple []]]):=
 (aP (au (b6 (au av (au av (au av aI))) (Aa rfl)) (au (aP (au (aP (au (aP (au (aP (au (aP aI (Aa rfl)) (au (aP aI (Aa rfl)) aI)) (Aa rfl)) (au (aP (au (aP (au av (au av (au av (au av aI)))) (Aa rfl)) (au (aP aI (Aa rfl)) aI)) (Aa rfl)) aI)) (Aa rfl)) aI) (Aa rfl)) (au (aP aI (Aa rfl)) aI)) (Aa rfl)) aI)) (Aa rfl))
theorem Ji(ha:az 8 a)(hn:az 4 n)(hk:k < 100):Ev (cY a n k L x5 x6) m (aq (ao (aJ (aA (ao (wC (.str "hand")) (ao (wC (.str "block")) (ao (wC (.str "block a b c d e")) aj))))) (ao (aJ (aA (ao ⇑2 (ao ⇑5 aj)))) aj))) (.tuple [bh [("hand":Str),("block":Str),("block a b c d e":Str)],.list [.int (2:Nat),.int (5:Nat)]]):=
 (aP (au (b6 (au av (au av (au av aI))) (Aa rfl)) (au (b6 (au av (au av aI)) (Aa rfl)) aI)) (Aa rfl))
theorem Uk(ha:az 8 a)(hn:az 4 n)(hk:k < 100):Ev (cY a n k L x5 x6) m (aq (ao (aJ (aA (ao (wC (.str "hand")) (ao (wC (.str "block")) (ao (w2 (w2 (wC (.str "look $ # ? ")) (wB bM (ao ↥3 aj)) aG) (wC (.str " >0")) aG) aj))))) (ao (aq (ao (aq (ao (aq (ao (aq (ao (aq aj) (ao (aq (ao (aq (ao (wC (.str "look")) (ao (aq (ao (aq (ao (wC (.str "word")) aj)) (ao (aq (ao (wC (.str "number")) aj)) (ao (aq (ao (wC (.str "any")) aj)) (ao (aq (ao (wC (.str "is")) (ao ↥3 aj))) aj))))) (ao ⇑0 aj)))) aj)) aj))) aj)) aj)) (ao (aq aj) aj))) aj))) (.tuple [bh [("hand":Str),("block":Str),((("look $ # ? ":Str)++(sK k))++(" >0":Str))],.tuple [.tuple (([[([],[.look [.word,.num,.any,.isv (.int (k:Nat))] 0])]]:List (List Bl)).map cg),.tuple []]]):=
 (aP (au (b6 (au av (au av (au (dQ (dQ av (jD (bE rfl) ⋯) (by refine An ?_ (show 100<=Ao by decide);have h0:=(wD (e:=0) ha hn hk ∎).1;simp only[cL]at h0 ⊢;omega)) av (by refine An ?_ (show 100<=Ao by decide);have h0:=(wD (e:=0) ha hn hk ∎).1;simp only[cL]at h0 ⊢;omega)) aI))) (Aa rfl)) (au (aP (au (aP (au (aP (au (aP (au (aP aI (Aa rfl)) (au (aP (au (aP (au av (au (aP (au (aP (au av aI) (Aa rfl)) (au (aP (au av aI) (Aa rfl)) (au (aP (au av aI) (Aa rfl)) (au (aP (au av (au (bE rfl) aI)) (Aa rfl)) aI)))) (Aa rfl)) (au av aI))) (Aa rfl)) aI) (Aa rfl)) aI)) (Aa rfl)) aI) (Aa rfl)) aI) (Aa rfl)) (au (aP aI (Aa rfl)) aI)) (Aa rfl)) aI)) (Aa rfl))
theorem LO(ha:az 8 a)(hn:az 4 n)(hk:k < 100):Ev (cY a n k L x5 x6) m (aq (ao (aJ (aA (ao (wC (.str "hand")) (ao (wC (.str "block")) (ao (w2 (w2 (wC (.str "look $ # ? ")) (wB bM (ao ↥3 aj)) aG) (wC (.str " a >0")) aG) aj))))) (ao (aJ (aA (ao ⇑2 (ao ⇑5 aj)))) aj))) (.tuple [bh [("hand":Str),("block":Str),((("look $ # ? ":Str)++(sK k))++(" a >0":Str))],.list [.int (2:Nat),.int (5:Nat)]]):=
 (aP (au (b6 (au av (au av (au (dQ (dQ av (jD (bE rfl) ⋯) (by refine An ?_ (show 100<=Ao by decide);have h0:=(sO (e:=0) ha hn hk ∎).1;simp only[cL]at h0 ⊢;omega)) av (by refine An ?_ (show 100<=Ao by decide);have h0:=(sO (e:=0) ha hn hk ∎).1;simp only[cL]at h0 ⊢;omega)) aI))) (Aa rfl)) (au (b6 (au av (au av aI)) (Aa rfl)) aI)) (Aa rfl))
theorem Py(ha:az 8 a)(hn:az 4 n)(hk:k < 100):Ev (cY a n k L x5 x6) m (aq (ao (aJ (aA (ao (wC (.str "hand")) (ao (wC (.str "block")) (ao (w2 (wC (.str "go >")) (wB bM (ao (w2 ⇑100 ↥3 aG) aj)) aG) aj))))) (ao (aJ (aA (ao ⇑2 (ao ⇑1 aj)))) aj))) (.tuple [bh [("hand":Str),("block":Str),(("go >":Str)++(sK (100+k)))],.list [.int (2:Nat),.int (1:Nat)]]):=
 (aP (au (b6 (au av (au av (au (dQ av (jD (m5 av (bE rfl)) ⋯) (by refine An ?_ (show 100<=Ao by decide);have h0:=(DY (e:=0) ha hn hk ∎).1;simp only[cL]at h0 ⊢;omega)) aI))) (Aa rfl)) (au (b6 (au av (au av aI)) (Aa rfl)) aI)) (Aa rfl))
theorem Io(ha:az 8 a)(hn:az 4 n)(hk:k < 100):Ev (cY a n k L x5 x6) m (aq (ao (aJ (aA (ao (wC (.str "hand")) (ao (w2 (wC (.str "block ")) ↥2 aG) aj)))) (ao (aJ (aA (ao ⇑1 (ao ⇑1 aj)))) aj))) (.tuple [bh [("hand":Str),(("block ":Str)++n)],.list [.int (1:Nat),.int (1:Nat)]]):=
 (aP (au (b6 (au av (au (dQ av (bE rfl) (by refine An ?_ (show 100<=Ao by decide);have h0:=(zM (e:=0) ha hn hk ∎).1;simp only[cL]at h0 ⊢;omega)) aI)) (Aa rfl)) (au (b6 (au av (au av aI)) (Aa rfl)) aI)) (Aa rfl))
theorem LJ(ha:az 8 a)(hn:az 4 n)(hk:k < 100):Ev (cY a n k L x5 x6) m (aq (ao (aJ (aA (ao (wC (.str "hand")) aj))) (ao (aJ (aA (ao ⇑1 (ao ⇑0 aj)))) aj))) (.tuple [bh [("hand":Str)],.list [.int (1:Nat),.int (0:Nat)]]):=
 (aP (au (b6 (au av aI) (Aa rfl)) (au (b6 (au av (au av aI)) (Aa rfl)) aI)) (Aa rfl))
theorem K2(ha:az 8 a)(hn:az 4 n)(hk:k < 100):Ev (cY a n k L x5 x6) m (aq (ao (aJ (aA (ao (wC (.str "hand")) (ao (wC (.str "block")) (ao (w2 (w2 (w2 (w2 (wC (.str "same ")) ↥1 aG) (wC (.str " ")) aG) (wB bM (ao ↥3 aj)) aG) (wC (.str " >0")) aG) aj))))) (ao (aq (ao (aq (ao (aq (ao (aq (ao (aq aj) (ao (aq (ao (aq (ao (wC (.str "same")) (ao (aq (ao (wC (.str "is")) (ao ↥1 aj))) (ao (aq (ao (wC (.str "is")) (ao ↥3 aj))) (ao ⇑0 aj))))) aj)) aj))) aj)) aj)) (ao (aq aj) aj))) aj))) (.tuple [bh [("hand":Str),("block":Str),((((("same ":Str)++a)++(" ":Str))++(sK k))++(" >0":Str))],.tuple [.tuple (([[([],[.same (.isv (.str a)) (.isv (.int (k:Nat))) 0])]]:List (List Bl)).map cg),.tuple []]]):=
 (aP (au (b6 (au av (au av (au (dQ (dQ (dQ (dQ av (bE rfl) (by refine An ?_ (show 100<=Ao by decide);have h0:=(nZ (e:=0) ha hn hk ∎).1;simp only[cL]at h0 ⊢;omega)) av (by refine An ?_ (show 100<=Ao by decide);have h0:=(nZ (e:=0) ha hn hk ∎).1;simp only[cL]at h0 ⊢;omega)) (jD (bE rfl) ⋯) (by refine An ?_ (show 100<=Ao by decide);have h0:=(nZ (e:=0) ha hn hk ∎).1;simp only[cL]at h0 ⊢;omega)) av (by refine An ?_ (show 100<=Ao by decide);have h0:=(nZ (e:=0) ha hn hk ∎).1;simp only[cL]at h0 ⊢;omega)) aI))) (Aa rfl)) (au (aP (au (aP (au (aP (au (aP (au (aP aI (Aa rfl)) (au (aP (au (aP (au av (au (aP (au av (au (bE rfl) aI)) (Aa rfl)) (au (aP (au av (au (bE rfl) aI)) (Aa rfl)) (au av aI)))) (Aa rfl)) aI) (Aa rfl)) aI)) (Aa rfl)) aI) (Aa rfl)) aI) (Aa rfl)) (au (aP aI (Aa rfl)) aI)) (Aa rfl)) aI)) (Aa rfl))
theorem vL(ha:az 8 a)(hn:az 4 n)(hk:k < 100):Ev (cY a n k L x5 x6) m (aq (ao (aq (ao (wC (.str "take")) (ao (wB fk (ao (aJ (cv [af] (eS (wC (.str "abcd"))) (bg 0) aX (aq (ao (wC (.str "bind")) (ao ↥0 aj))))) aj)) aj))) aj)) (.tuple [.tuple [.str "take",.tuple [bD "a",bD "b",bD "c",bD "d"]]]):=
 (aP (au (aP (au av (au S2 aI)) (Aa rfl)) aI) (Aa rfl))
theorem sV(ha:az 8 a)(hn:az 4 n)(hk:k < 100):Ev (cY a n k L (ae (.w (.d (.tuple [.tuple [.str "take",.tuple [bD "a",bD "b",bD "c",bD "d"]]])))) x6) m (w2 ↥5 (aq (ao (aq (ao (wC (.str "take")) (ao (aq (ao (aq (ao (wC (.str "bind")) (ao (wC (.str "e")) aj))) (ao (aq (ao (wC (.str "bind")) (ao ↥2 aj))) aj))) aj))) aj)) aG) (.tuple [.tuple [.str "take",.tuple [bD "a",bD "b",bD "c",bD "d"]],.tuple [.str "take",.tuple [bD "e",bD n]]]):=
 (xV (bE rfl) (aP (au (aP (au av (au (aP (au (aP (au av (au av aI)) (Aa rfl)) (au (aP (au av (au (bE rfl) aI)) (Aa rfl)) aI)) (Aa rfl)) aI)) (Aa rfl)) aI) (Aa rfl)) (.inr λz=>nomatch z) (Aa rfl) rfl)
theorem so(ha:az 8 a)(hn:az 4 n)(hk:k < 100):Ev (cY a n k L (ae (.w (.d (.tuple [.tuple [.str "take",.tuple [bD "a",bD "b",bD "c",bD "d"]],.tuple [.str "take",.tuple [bD "e",bD n]]])))) x6) m (w2 ↥5 (aq (ao (aq (ao (wC (.str "lay")) (ao (aq (ao (aq (ao (wC (.str "as")) (ao (wC (.str "a")) aj))) (ao (aq (ao (wC (.str "as")) (ao (wC (.str "e")) aj))) (ao (aq (ao (wC (.str "as")) (ao ↥2 aj))) (ao (aq (ao (wC (.str "next")) (ao (wC (.str "d")) aj))) aj))))) (ao (w2 ⇑1 (w2 ↥3 ⇑20 (gI (λ_ j=>0 < j) λi j=>.int (i % j))) aG) aj)))) aj)) aG) (.tuple [.tuple [.str "take",.tuple [bD "a",bD "b",bD "c",bD "d"]],.tuple [.str "take",.tuple [bD "e",bD n]],.tuple [.str "lay",.tuple [aD "a",aD "e",aD n,.tuple [.str "next",.str "d"]],.int ((1+k % 20:Nat):Int)]]):=
 (xV (bE rfl) (aP (au (aP (au av (au (aP (au (aP (au av (au av aI)) (Aa rfl)) (au (aP (au av (au av aI)) (Aa rfl)) (au (aP (au av (au (bE rfl) aI)) (Aa rfl)) (au (aP (au av (au av aI)) (Aa rfl)) aI)))) (Aa rfl)) (au (m5 av (GN (bE rfl))) aI))) (Aa rfl)) aI) (Aa rfl)) (.inr λz=>nomatch z) (Aa rfl) rfl)
theorem PD(ha:az 8 a)(hn:az 4 n)(hk:k < 100):Ev (cY a n k L x5 x6) m (aJ (aA (ao (wC (.str "take ?a ?b ?c ?d")) (ao (w2 (wC (.str "take ?e ?")) ↥2 aG) (ao (w2 (w2 (w2 (wC (.str "lay =a =e =")) ↥2 aG) (wC (.str " +d @")) aG) (wB bM (ao (w2 ⇑1 (w2 ↥3 ⇑20 (gI (λ_ j=>0 < j) λi j=>.int (i % j))) aG) aj)) aG) aj))))) (.list [.str ("take ?a ?b ?c ?d":Str),.str (("take ?e ?":Str)++n),.str (((("lay =a =e =":Str)++n)++(" +d @":Str))++(sK (1+k % 20)))]):=
 (b6 (au av (au (dQ av (bE rfl) (by refine An ?_ (show 100<=Ao by decide);have h0:=(xA (e:=0) ha hn hk ∎).1;simp only[cL]at h0 ⊢;omega)) (au (dQ (dQ (dQ av (bE rfl) (by refine An ?_ (show 100<=Ao by decide);have h0:=(pE (e:=0) ha hn hk ∎).1;simp only[cL]at h0 ⊢;omega)) av (by refine An ?_ (show 100<=Ao by decide);have h0:=(pE (e:=0) ha hn hk ∎).1;simp only[cL]at h0 ⊢;omega)) (jD (m5 av (GN (bE rfl))) ⋯) (by refine An ?_ (show 100<=Ao by decide);have h0:=(pE (e:=0) ha hn hk ∎).1;simp only[cL]at h0 ⊢;omega)) aI))) (Aa rfl))
theorem SO(ha:az 8 a)(hn:az 4 n)(hk:k < 100):Ev (cY a n k L (ae (.w (.d (.tuple [.tuple [.str "take",.tuple [bD "a",bD "b",bD "c",bD "d"]],.tuple [.str "take",.tuple [bD "e",bD n]],.tuple [.str "lay",.tuple [aD "a",aD "e",aD n,.tuple [.str "next",.str "d"]],.int ((1+k % 20:Nat):Int)]])))) (ae (.w (.d (.list [.str ("take ?a ?b ?c ?d":Str),.str (("take ?e ?":Str)++n),.str (((("lay =a =e =":Str)++n)++(" +d @":Str))++(sK (1+k % 20)))]))))) m (aq (ao (w2 (aJ (aA (ao (wC (.str "hand")) (ao (wC (.str "block")) aj)))) ↥6 aG) (ao (aq (ao (aq (ao (aq (ao (aq (ao (aq aj) (ao ↥5 aj))) aj)) aj)) (ao (aq aj) aj))) aj))) (.tuple [bh [("hand":Str),("block":Str),("take ?a ?b ?c ?d":Str),(("take ?e ?":Str)++n),(((("lay =a =e =":Str)++n)++(" +d @":Str))++(sK (1+k % 20)))],.tuple [.tuple (([[([],dU n k)]]:List (List Bl)).map cg),.tuple []]]):=
 (aP (au (mn (b6 (au av (au av aI)) (Aa rfl)) (bE rfl) (Aa rfl) rfl) (au (aP (au (aP (au (aP (au (aP (au (aP aI (Aa rfl)) (au (bE rfl) aI)) (Aa rfl)) aI) (Aa rfl)) aI) (Aa rfl)) (au (aP aI (Aa rfl)) aI)) (Aa rfl)) aI)) (Aa rfl))
theorem JW{K:DEnds}(ha:az 8 a)(hn:az 4 n)(hk:k < 100)(h0:m < 2 ^ 39)(hL:(∀d∈L,cm d)/\L.length=21)(kk:∀L',((∀d∈L',cm d)/\L'.length=22)->K.nx (cY a n k L' x5 x6) (m+1)):bu 4 (aq (ao (aJ (aA (ao (wC (.str "hand")) (ao (wC (.str "block")) (ao (w2 (wC (.str "go >")) (wB bM (ao (w2 ⇑1 (aT gY (ao ↥0 (ao ⇑99 aj))) aG) aj)) aG) aj))))) (ao (aJ (aA (ao ⇑2 (ao ⇑1 aj)))) aj))) (cY a n k L x5 x6) m K:=by
 refine Tt rfl ?_;simp only[aq,ao,aJ,aA,w2,wC,wB,aj,aT,ak,Bc,gY];refine By ⟨by omega,by decide,by decide⟩ λr r0 r1=>?_;obtain⟨e,rfl⟩:∃e:Nat,r=e:=⟨r.toNat,by omega⟩;have he:e < 99:=by omega
 refine By (show _/\_ from ?g1) ?_
 case g1=>exact zo (1+e) ⋯
 refine By ?g2 ?_
 case g2=>
  show("go >":Str).length+(sK (1+e)).length<=Ao;exact(by refine An ?_ (show 100<=Ao by decide);have h0:=(EY ha hn hk he).1;simp only[cL]at h0 ⊢;omega)
 refine By (show 3<=1000 by decide) ?_;refine By (show 2<=1000 by decide) ?_;refine By (show 2<=1000 by decide) ?_;refine By (show L.length < 1000000 by omega) ?_;refine kk _ ⟨λd hd=>(Bi.mp hd).elim (hL.1 d) λz=>by rw[A6.mp z];exact Pe ha hn hk he,by rw[A0,B5,hL.2]⟩
end
theorem HQ:dF o6 yB ["_law_tape_here","_law_a","_law_n","_law_k","_law_some","_law_acts","_law_texts"]:=λws n0 Q h=>by
 obtain⟨rfl,h0,kq⟩:=h;show yB [ae (.w .tp),af,af,af,af,af,af] n0 _;refine aR (show bb 1 _ _ _ _ from fO (aF rfl (bx ⟨8,rfl,by decide,by omega,λa n1 ha hn1=>?_⟩)));dsimp only[Bh];refine aR (show bb 2 _ _ _ _ from fO (aF rfl (bx ⟨4,rfl,by decide,by omega,λn n2 hn hn2=>?_⟩)));dsimp only[Bh];refine aR (ND rfl ⋯ ∎ ∎ λr r0 r1=>?_);obtain⟨k,rfl⟩:∃k:Nat,r=k:=⟨r.toNat,by omega⟩;have hk:k < 100:=by omega
 dsimp only[Bh];refine aR (SS ?_);dsimp only[Bh];have hL0:(∀d∈([]:List Ah),cm d)/\([]:List Ah).length=0:=⟨λd hd=>absurd hd A9,rfl⟩;generalize([]:List Ah)=L0 at hL0 ⊢;refine aR (dO rfl (vw ha hn hk) (Jp (e:=0) ha hn hk ∎) hL0 ∎ λL1 hL1=>?_);dsimp only[Bh];refine aR (dO rfl (sQ ha hn hk) (Ss (e:=0) ha hn hk ∎) hL1 ∎ λL2 hL2=>?_);dsimp only[Bh];refine aR (dO rfl (tO ha hn hk) (JX (e:=0) ha hn hk ∎) hL2 ∎ λL3 hL3=>?_);dsimp only[Bh];refine aR (dO rfl (sZ ha hn hk) (N9 (e:=0) ha hn hk ∎) hL3 ∎ λL4 hL4=>?_);dsimp only[Bh];refine aR (dO rfl (rA ha hn hk) (Px (e:=0) ha hn hk ∎) hL4 ∎ λL5 hL5=>?_);dsimp only[Bh];refine aR (dO rfl (sf ha hn hk) (MN (e:=0) ha hn hk ∎) hL5 ∎ λL6 hL6=>?_);dsimp only[Bh];refine aR (dO rfl (vM ha hn hk) (RL (e:=0) ha hn hk ∎) hL6 ∎ λL7 hL7=>?_);dsimp only[Bh];refine aR (dO rfl (vq ha hn hk) (Jy (e:=0) ha hn hk ∎) hL7 ∎ λL8 hL8=>?_);dsimp only[Bh];refine aR (dO rfl (uq ha hn hk) (RC (e:=0) ha hn hk ∎) hL8 ∎ λL9 hL9=>?_);dsimp only[Bh];refine aR (dO rfl (Li ha hn hk) (Lm (e:=0) ha hn hk ∎) hL9 ∎ λL10 hL10=>?_);dsimp only[Bh];refine aR (dO rfl (QT ha hn hk) (M7 (e:=0) ha hn hk ∎) hL10 ∎ λL11 hL11=>?_);dsimp only[Bh];refine aR (dO rfl (IZ ha hn hk) (Ou (e:=0) ha hn hk ∎) hL11 ∎ λL12 hL12=>?_);dsimp only[Bh];refine aR (dO rfl (Kv ha hn hk) (Lk (e:=0) ha hn hk ∎) hL12 ∎ λL13 hL13=>?_);dsimp only[Bh];refine aR (dO rfl (Kz ha hn hk) (O6 (e:=0) ha hn hk ∎) hL13 ∎ λL14 hL14=>?_);dsimp only[Bh];refine aR (dO rfl (Qt ha hn hk) (Q1 (e:=0) ha hn hk ∎) hL14 ∎ λL15 hL15=>?_);dsimp only[Bh];refine aR (dO rfl (N7 ha hn hk) (Oh (e:=0) ha hn hk ∎) hL15 ∎ λL16 hL16=>?_);dsimp only[Bh];refine aR (dO rfl (Lx ha hn hk) (Lg (e:=0) ha hn hk ∎) hL16 ∎ λL17 hL17=>?_);dsimp only[Bh];refine aR (dO rfl (S8 ha hn hk) (Qj (e:=0) ha hn hk ∎) hL17 ∎ λL18 hL18=>?_);dsimp only[Bh];refine aR (dO rfl (Ji ha hn hk) (Md (e:=0) ha hn hk ∎) hL18 ∎ λL19 hL19=>?_);dsimp only[Bh];refine aR (dO rfl (Uk ha hn hk) (Sx (e:=0) ha hn hk ∎) hL19 ∎ λL20 hL20=>?_);dsimp only[Bh];refine aR (dO rfl (LO ha hn hk) (Ni (e:=0) ha hn hk ∎) hL20 ∎ λL21 hL21=>?_);dsimp only[Bh];refine aR (JW ha hn hk ⋯ hL21 λL22 hL22=>?_);dsimp only[Bh];refine aR (dO rfl (Py ha hn hk) (Kh (e:=0) ha hn hk ∎) hL22 ∎ λL23 hL23=>?_);dsimp only[Bh];refine aR (dO rfl (Io ha hn hk) (Lw (e:=0) ha hn hk ∎) hL23 ∎ λL24 hL24=>?_);dsimp only[Bh];refine aR (dO rfl (LJ ha hn hk) (Tf (e:=0) ha hn hk ∎) hL24 ∎ λL25 hL25=>?_);dsimp only[Bh];refine aR (eP (vL ha hn hk) ?_);dsimp only[Bh];refine aR (eP (sV ha hn hk) ?_);dsimp only[Bh];refine aR (eP (so ha hn hk) ?_);dsimp only[Bh];refine aR (eP (PD ha hn hk) ?_);dsimp only[Bh];refine aR (dO rfl (SO ha hn hk) (Lu (e:=0) ha hn hk ∎) hL25 ∎ λL26 hL26=>?_);dsimp only[Bh];refine aR (dO rfl (K2 ha hn hk) (Nr (e:=0) ha hn hk ∎) hL26 ∎ λL27 hL27=>?_);dsimp only[Bh];refine CG rfl ?_;dsimp only[Bh];refine bJ (aF rfl (kq L27 _ ⋯ hL27.1 ⋯))
theorem Uo{α:Type}{us:List α}(h:us.length=1):∃a,us=[a]:=match us,h with|[a],_=>⟨a,rfl⟩
theorem NS{α:Type}{us:List α}(h:us.length=2):∃a b,us=[a,b]:=match us,h with|[a,b],_=>⟨a,b,rfl⟩
theorem xE{α:Type}{us:List α}(h:us.length=3):∃a b c,us=[a,b,c]:=match us,h with|[a,b,c],_=>⟨a,b,c,rfl⟩
theorem Rq{α:Type}{us:List α}(h:us.length=4):∃a b c d,us=[a,b,c,d]:=match us,h with|[a,b,c,d],_=>⟨a,b,c,d,rfl⟩
theorem TZ{α:Type}{us:List α}(h:us.length=5):∃a b c d e,us=[a,b,c,d,e]:=match us,h with|[a,b,c,d,e],_=>⟨a,b,c,d,e,rfl⟩
theorem vx{N ps:List Str}{S:Fb}(h1:S.kind=.function:=by rfl)(h2:S.isCoroutine=ai:=by rfl)(h3:S.isGenerator=ai:=by rfl)(h4:N.Nodup:=by decide +kernel)(h5:N.take ps.length=ps:=by rfl)(h6:∀x∈ps,S.names.lookup x=ae .local\/S.names.lookup x=ae .cell:=by decide +kernel)(h7:∀y∈S.names,y.2≠.free:=by decide +kernel):FnScope N ps S:=⟨h1,h2,h3,h4,h5,h6,h7⟩
theorem nS{X:Cx}{e:Expr}{es:List Expr}{pos p:Pos}{tR:TA}{wR:eO}{k k':Nat}{ps:List Str}{S:ck}{x:Str}(h:Has X.prog X.w X.K X.mg X.base k x ps S)(hr:Room k' X.A)(ha:DA X (e::es) tR wR)(hk:k<=k')(hg:Gl X x)(hdb:(x==("__debug__":Str))=ai)(he:Au (e::es) X.env=(ai,eval e X.env)::Au es X.env)(hpl:(C5 pos (Au es X.env)).any (·.1)=ai):DE X (.Call (.Name x p) (e::es) [] pos) (jr (fe S) [] E0 tR) (aT S wR):=PY h (hr.mono hk) hg ha hdb he hpl
def Mj:NameKind->Bool
 |.local=>ah
 |_=>ai
def CN:NameKind->Bool
 |.free=>ah
 |_=>ai
def nu(sc:Fb):List Str:=(sc.names.filter λy=>CN y.2).map (·.1)
def cN(sc:Fb):List Str:=((sc.names.drop 1).filter λy=>Mj y.2).map (·.1)++nu sc
def nD(sc:Fb)(cells:List (Str×Addr)):List (Str×Addr):=(nu sc).reverse.map λx=>(x,(cells.lookup x).getD 0)
def pI(sc:Fb):List (Str×NameKind):=sc.names.map λy=>(y.1,bif CN y.2 then .cell else y.2)
inductive Frs(X:Cx)(sc:Fb):List (Option Nat)->List Str->Prop
 |nil:Frs X sc [] []
 |own {f:List (Option Nat)} {x:Str} {N:List Str} (h:Frs X sc f N):Frs X sc (af::f) (x::N)
 |free {f:List (Option Nat)} {x:Str} {N:List Str} {i:Nat} (h1:X.N[i]?=ae x) (h2:ic X.env.scope x) (h3:X.env.kindOf x=ae .cell\/X.env.kindOf x=ae .free) (h4:(pI sc).lookup x=ae .cell\/(pI sc).lookup x=ae .free) (h5:(nD sc X.env.cells).lookup x=X.env.cells.lookup x) (h:Frs X sc f N):Frs X sc (ae i::f) (x::N)
theorem Frs.len{X:Cx}{sc:Fb}{f:List (Option Nat)}{N:List Str}(h:Frs X sc f N):f.length=N.length:=by
 induction h with
 |nil=>rfl
 |own _ ih=>rw[Bd,Bd,ih]
 |free _ _ _ _ _ _ ih=>rw[Bd,Bd,ih]
theorem Uw{X:Cx}{sc:Fb}{f:List (Option Nat)}(h1:closureFor sc X.env=pure (nD sc X.env.cells))(h2:sc.kind=.function)(h3:∀y∈sc.names,y.2≠.cell)(h4:∀y∈sc.names,y.2=.local->sc.names.lookup y.1=ae .local)(h5:((nu sc).all λx=>(X.env.cells.lookup x).isSome)=ah)(h6:(relabel sc X.env).names=pI sc)(h7:∀y∈pI sc,(y.2=.cell\/y.2=.free)->y.1∈(nu sc).reverse)(h8:Frs X sc f (cN sc)):CompSc X (cN sc) sc (nD sc X.env.cells) f:=by
 refine⟨h1,h2,h3,h4,RM λy hy=>?_,OQ _ _ h6 (show(nD sc X.env.cells).map (·.1)=(nu sc).reverse by unfold nD;rw[List.map_map];exact List.map_id' _) h7,h8.len,?_⟩
 ·obtain⟨x,hx,rfl⟩:=Dc.mp hy;obtain⟨c,hc⟩:=Option.isSome_iff_exists.mp (C8.mp h5 x (List.mem_reverse.mp hx));show X.env.cells.lookup x=ae ((X.env.cells.lookup x).getD 0);rw[hc];rfl
 ·intro j i h;rw[h6];clear h1 h2 h3 h4 h5 h6 h7;generalize cN sc=N at h8 ⊢
  induction h8 generalizing j with
  |nil=>cases h
  |own _ ih=>cases j with
   |zero=>cases h
   |succ j=>exact ih j h
  |free a b c d e _ ih=>cases j with
   |zero=>cases h;exact⟨_,rfl,a,b,c,d,e⟩
   |succ j=>exact ih j h
theorem Jw{X:Cx}{sc:Fb}{f:List (Option Nat)}{N:List Str}(h:Frs X sc f N):Frs X sc f N:=h
theorem kC{X:Cx}{N:List Str}{sc:Fb}{cl:List (Str×Addr)}{s:Ai}{H:Hp}{fp:List Addr}{K:Ag}(h:X.K=K):(fK X N sc cl s H fp).K=K:=h
theorem nC{X:Cx}{N:List Str}{sc:Fb}{cl:List (Str×Addr)}{s:Ai}{H:Hp}{fp:List Addr}(h:N.Nodup):(fK X N sc cl s H fp).N.Nodup:=h
def zL:List Str:=["all","bool","enumerate","int","isinstance","len","list","range","repr","set","sorted","str","tuple","zip"]
theorem zU{mg:Str->Option Af}{x:Str}(z:∀x∈zL,mg x=af)(h:x∈zL):mg x=af:=z x h
theorem QG:B9 "set"=ae (.type "set"):=by decide +kernel
theorem QH:B9 "sorted"=ae (.builtin "sorted"):=by decide +kernel
structure NR(P:Bj)(w:Bu)(K:Ag)(mg:Str->Option Af)(base:Heap):Prop where
 cl:XCl K 158 138
 hi:Cr K (.ref 158) "__init__"=ae (ae (.ref 155))
 fn:∃oI fd,K.lookup 155=ae oI/\oI.cls=.type "function"/\FnOk P w K mg base dv 1 155 fd ["self","line","word"] (pY 158 "line" "word")/\Binds K fd ["self","line","word"] []
 ga:mg "NoLine"=ae (.ref 158)
theorem PR{C:DL.Ctx}{X:Cx}{e e2:Expr}{te te2:TE}{we we2:DT}{EX:St->Addr->Addr->Hp->Prop}{Ed:eB}{k':Nat}{p cpos pos:Pos}(R:NR X.prog X.w X.K X.mg X.base)(hl:wY X 158 EX)(L:eT C "line" "word" 158 EX Ed)(hr:Room k' X.A)(d:DE X e te we)(d2:DE X e2 te2 we2)(hk:2<=k')(hg:Gl X "NoLine")
  (he:Au [e,e2] X.env=(ai,eval e X.env)::Au [e2] X.env) (he2:Au [e2] X.env=(ai,eval e2 X.env)::Au [] X.env) (hpl:(C5 cpos (Au [e2] X.env)).any (·.1)=ai):DR C X (.Raise (ae (.Call (.Name "NoLine" p) [e,e2] [] cpos)) af pos) (pB 158 "line" "word" EX te te2) (i9 we we2 Ed):=by
 obtain⟨oI,fd,h1,h2,h3,h4⟩:=R.fn;exact⟨yy R.cl R.hi h1 h2 h3 (hr.mono hk) hg R.ga h4 (λ_ _ _ _ _ z=>z) hl d.pe d2.pe ∎ he he2 hpl,LZ d.sd d2.sd L⟩
def Hx(X:Cx)(EX:St->XK):Prop:=∀pins σ H s e s',Inv X pins σ H s->gi X.prog X.w X.stack H s (EX σ) e s'->X.xe e s'
theorem BR{P:Bj}{w:Bu}{K:Ag}{mg:Str->Option Af}{base:Heap}{N:List Str}{qual:Str}{scope:Fb}{f:Addr}{cd:Af}{A:B3}{outer:List Env}{s₀:Ai}{H₀:Hp}{E:XK}:Hx (b8 (gi P w) P w K mg base N qual scope f cd A outer s₀ H₀ E) (λ_=>E):=λ_ _ _ _ _ _ I h=>Sj I h
theorem IG{C:DL.Ctx}{X:Cx}{k k':Nat}{S:gH}{ps:List Str}{x:Str}{p pos pos':Pos}{e:Expr}{es:List Expr}{t:TA}{wa:eO}{EX:St->XK}{Ed:eB}(h:HasE2 X.prog X.w X.K X.mg X.base k x ps 158 "line" "word" S)(hx:Hx X EX)(L:eT C "line" "word" 158 (λσ Cl dx H=>EX σ (.ref Cl) (ae dx) H) Ed)(hr:Room k' X.A)(ha:DA X (e::es) t wa)(hk:k<=k')(hg:Gl X x)(hdb:(x==("__debug__":Str))=ai)(he:Au (e::es) X.env=(ai,eval e X.env)::Au es X.env)(hpl:(C5 pos (Au es X.env)).any (·.1)=ai)
  (hs:Fi (.Call (.Name x p) (e::es) [] pos) af pos'.line X.env=pure ai):DR C X (.Expr (.Call (.Name x p) (e::es) [] pos) pos') (mj (l7 (lG 158 "line" "word" S) EX t)) (l9 S wa Ed):=by
 obtain⟨fa,fd,F,b,hm,kp⟩:=h.ex;exact⟨jX (rQ F (hr.mono hk) hg hm kp b hx ha.pa hdb he hpl) hs,Kl ha.sd L⟩
theorem IV{C:DL.Ctx}{X:Cx}{l:List Stmt}{T:TS}{W:aW}{i:Nat}(h:DSs X l T (fj i W)):DRs C X l T (fj i W):=h.r
theorem Lf{C:DL.Ctx}{X:Cx}{e:Stmt}{t:TS}{w:aW}(h:DR C X e t w):DR C X e t w:=h
theorem wH{C:DL.Ctx}{X:Cx}{e:List Stmt}{t:TS}{w:aW}(h:DRs C X e t w):DRs C X e t w:=h
theorem M1{C:DL.Ctx}{X:Cx}{b rest:List Stmt}{st:Stmt}{T:TS}{W:aW}(e:b=st::rest)(h:DRs C X (st::rest) T W):DRs C X b T W:=e▸h
section
variable{P:Bj}{w:Bu}{K:Ag}{mg:Str->Option Af}{base:Heap}{fa:Addr}{fd:Cw}
theorem TQ{X:Cx}{e:Expr}{t:TE}{w:DT}(h:DE X e t w):DE X e t w:=h
theorem Nx{X:Cx}{e:List Expr}{t:TA}{w:eO}(h:DA X e t w):DA X e t w:=h
theorem Tq{X:Cx}{e:Stmt}{t:TS}{w:aW}(h:DS X e t w):DS X e t w:=h
theorem vn{X:Cx}{e:List Stmt}{t:TS}{w:aW}(h:DSs X e t w):DSs X e t w:=h
theorem IA{X:Cx}{e:Expr}{t:TT}{w:cU}(h:DC X e t w):DC X e t w:=h
theorem NP{X:Cx}{e:Expr}{t:TE}{w:gv}(h:DF X e t w):DF X e t w:=h
theorem Qo{X:Cx}{g e:Expr}{t:TI}{w:gs}(h:DI X g e t w):DI X g e t w:=h
theorem GA{X:Cx}{b rest:List Stmt}{st:Stmt}{T:TS}{W:aW}(e:b=st::rest)(h:DSs X (st::rest) T W):DSs X b T W:=e▸h
theorem oH{x:Str}{st:Stmt}{ps:List Str}(F:Fun K x x st fa fd)(h:∀(kV doc pm:Af) (an:Option Addr) (cdv ct:Af) (us:List Af),us.length=ps.length->bindArgs (Eb x x (ko st) (fH st) (cK st) .none kV doc pm an cdv ct) ⟨us,[]⟩=pure (ps.zip us):=by
 intro _ _ _ _ _ _ us hl
 first
  |obtain⟨_,rfl⟩:=Uo hl;rfl
  |obtain⟨_,_,rfl⟩:=NS hl;rfl
  |obtain⟨_,_,_,rfl⟩:=xE hl;rfl
  |obtain⟨_,_,_,_,rfl⟩:=Rq hl;rfl
  |obtain⟨_,_,_,_,_,rfl⟩:=TZ hl;rfl):Binds K fd ps []:=F.binds h
def yW(x:Str)(st:Stmt)(ps:List Str):Prop:=∀{K:Ag}{fa:Addr}{fd:Cw},Fun K x x st fa fd->Binds K fd ps []
def iE(P:Bj)(w:Bu)(K:Ag)(mg:Str->Option Af)(base:Heap)(k:Nat)(x:Str)(i:Nat)(fa:Addr)(N:List Str)(b:List Stmt)(W:aW):Prop:=N.Nodup->∀(cdv:Af)(A:B3)(outer:List Env)(s:Ai)(H:Hp)(E:XK),Room k (A.deeper (Dy x (cK (cR i)) s.heap.objs.size fa cdv))->∃T,DSs (b8 dv P w K mg base N x (cK (cR i)) fa cdv A outer s H E).nox b T W
theorem rl{α:Type}{p:α->Prop}(h:∃T,p T:=by
 apply Exists.intro
 first
  |apply GA (by exact rfl)
  |apply M1 (by exact rfl)
  |skip
 repeat' first
  |with_reducible first|exact Tu|exact Ih|exact SW|exact EA|exact PySem.boot_len|exact wV|exact PyProof.Rows.boot_range|exact JZ|exact QG|exact QH|exact Po|exact RN
  |with_reducible first|apply Room.units|apply Room.units0|apply Room.hd|apply Room.gd
  |exact rfl
  |exact F1 rfl
  |exact Eh (F1 rfl)
  |exact Eh (Eh rfl)
  |exact Eh rfl
  | (with_reducible apply TQ;with_reducible first|apply gy|apply J6|apply zw|apply d_int|apply nS|apply wg|apply S4|apply rP (NL ?_) Ny ?_ ?_ ?_ ?_ ?_ ?_ ?_ ?_|apply Q8|apply yJ|apply Pu|apply qx Ki Pr ?_ ?_ ?_ ?_ ?_ ?_ ?_ ?_|apply M5|apply Lp|apply vb|apply rP (IY ?_) QY ?_ ?_ ?_ ?_ ?_ ?_ ?_ ?_|apply Lb|apply lr Hr BG|apply NB ux t7 ux t7 ?_ ?_ ?_ ?_|apply Sv|apply vf|apply lr (zI ?_ ?_) yz|apply qx (IB ?_) O0 ?_ ?_ ?_ ?_ ?_ ?_ ?_ ?_|apply Qd|apply LC|apply Kg|apply lr (Ut ?_ ?_) Qn|apply rP (Ja ?_ ?_ ?_) QV ?_ ?_ ?_ ?_ ?_ ?_ ?_ ?_|apply K6|apply JC|apply M4|apply RR|apply MP|apply OE|apply LY|apply lr w6 yP|apply KQ|apply Q3|apply QU|apply lr EM x9|apply lr (qh ?_) uX|apply lr ux t7|apply qx N8 Mw ?_ ?_ ?_ ?_ ?_ ?_ ?_ ?_|apply qx (AS ?_) Jz ?_ ?_ ?_ ?_ ?_ ?_ ?_ ?_|apply LD|apply DF.d)
  | (with_reducible apply Nx;with_reducible first|apply oh|apply rM)
  | (with_reducible apply Tq;with_reducible first|apply ES|apply uh|apply EU|apply JO|apply Kw|apply QQ|apply MD|apply HF)
  | (with_reducible apply vn;with_reducible first|apply RO|apply uK|apply ML|apply DM)
  | ((with_reducible apply IA);first|(with_reducible apply DCW.cc;with_reducible first|apply cw_and|apply cw_or)|with_reducible first|apply i7 (zI ?_ ?_) yz|apply Oq|apply Kb|apply i7 (qh ?_) uX|apply i7 Pt LV|apply i7 w6 yP|apply i7 (Ow ?_) uX|apply i7 JR Kq|apply i7 Hr BG|apply i7 EM x9|apply i7 (HL ?_ ?_) Ll|apply i7 (Lr ?_ ?_) T2|apply Ku)
  | (with_reducible apply NP;with_reducible first|apply SH|apply SQ|apply OS|apply LB|apply Ib)
  | (with_reducible apply Qo;with_reducible first|apply OU|apply Rt|apply JD|apply MB|apply Q2|apply Rh|apply HV)
  |with_reducible first|apply ug|apply RV|apply sD|apply sN|apply cw_or|apply cw_or1|apply AR|apply cw_and|apply IW|apply GY|apply yX|apply cw_and1|apply Sw|apply MH|apply Uw
  | (with_reducible apply Lf;with_reducible first|apply PR|apply IG|apply wt|apply K0|apply DS.r)
  | (with_reducible apply wH;with_reducible first|apply IV|apply Ta|apply Kn|apply DSs.r)
  |exact xG
  |exact BR
  |assumption
  |with_reducible first|apply kC|apply nC
  | ((with_reducible apply Jw);first|apply Frs.nil|apply Frs.own|apply Frs.free)
  |exact kg _
  |exact λ_ _=>rfl
  |exact λ_=>rfl
  |exact zU (by assumption) ∅
  |exact PassesOwn.never
  |exact PassesOwn.leaving
  |exact⟨rfl,rfl,rfl,rfl⟩
  |with_unfolding_all rfl
  |decide
  |decide +kernel
  |exact Eh (Eh (F1 rfl))
  |exact Eh (Eh (Eh (F1 rfl)))
  |exact Eh (Eh (Eh (Eh rfl)))
  |intro(_:Ai) _ _
  |exact(0:Int)):∃T,p T:=h
theorem yd{k:Nat}{x:Str}{i:Nat}{N:List Str}{b:List Stmt}{W:aW}(h:iE P w K mg base k x i fa N b W:=by intro nd cdv A outer s H E hr;exact rl):iE P w K mg base k x i fa N b W:=h
theorem bo{i:Nat}{N:List Str}{S:ck}{W:aW}(k p:Nat)(x:Str)(F:Fun K x x (cR i) fa fd/\mg x=ae (.ref fa))(body:dF S W N)(len:∀ws n Q,S ws n Q->ws.length=p:=by(intro _ _ _ h;(repeat obtain⟨_,h⟩:=h);subst_vars;rfl))(hp:(N.take p).length=p:=by rfl)(Sc:FnScope N (N.take p) (cK (cR i)):=by exact vx)(b:yW x (cR i) (N.take p):=by intro _ _ _ F;exact oH F)
  (h:iE P w K mg base k x i fa N (fH (cR i)) W:=by exact yd):Has P w K mg base (k+1) x (N.take p) S:=
 Has.mk' F.1 F.2 (b F.1) (Fun.okD F.1 Sc (λws n Q q=>by rw[hp];exact len ws n Q q) λcdv A outer s H E hr=>(h Sc.nd cdv A outer s H E hr).elim λT d=>⟨T,W,d,body⟩)
abbrev Ze:List Str:=["_law_script"]
theorem tQ{fT:Addr}{fdT:Cw}{i:Nat}{N:List Str}{W:aW}{s0:Stmt}{rest:List Stmt}(k:Nat)(F:Fun K "law" "law" (cR i) fa fd)(GT:FnOk P w K mg base dv 1 fT fdT Ze (mM K))(bT:Binds K fdT Ze [])(mT:mg "_law_tape"=ae (.ref fT))(kT:Cf K (.ref fT)=ah)(hW:W (af::ae (.w .tp)::Ax (N.length-2) af) 0 nV)(e:fH (cR i)=s0::rest)(h0:N.Nodup->∀(cdv:Af) (A:B3) (outer:List Env) (s:Ai) (H:Hp) (E:XK),Room k (A.deeper (Dy "law" (cK (cR i)) s.heap.objs.size fa cdv))->PS (b8 dv P w K mg base N "law" (cK (cR i)) fa cdv A outer s H E).nox s0 (eM (jr (mM K) [] E0 (cE (cn 0) bG)) (gp 1)))(hN:∀v,start N [v]=ae v::af::Ax (N.length-2) af:=by intro _;rfl)(Sc:FnScope N Ze (cK (cR i)):=by exact vx)
  (h:iE P w K mg base k "law" i fa N rest W:=by exact yd):FnOk P w K mg base dv (k+1) fa fd Ze (DL.spLaw K):=
 Ia F Sc GT bT mT kT hN hW λcdv A outer s H E hr=>(h Sc.nd cdv A outer s H E hr).elim λT d=>⟨s0,rest,T,e,h0 Sc.nd cdv A outer s H E hr,d⟩
def yN(P:Bj)(w:Bu)(K:Ag)(mg:Str->Option Af)(base:Heap)(k:Nat)(x:Str)(i:Nat)(fa:Addr)(N:List Str)(b:List Stmt)(W:eB->aW):Prop:=N.Nodup->∀(cdv:Af)(A:B3)(outer:List Env)(s:Ai)(H:Hp)(E:XK),Room k (A.deeper (Dy x (cK (cR i)) s.heap.objs.size fa cdv))->∀(C:DL.Ctx)(Ed:eB),eT C "line" "word" 158 (λ_ Cl dx H'=>E (.ref Cl) (ae dx) H') Ed->∃T,DRs C (b8 (gi P w) P w K mg base N x (cK (cR i)) fa cdv A outer s H E) b T (W Ed)
theorem jm{i p:Nat}{N:List Str}{S:gH}{W:eB->aW}(k:Nat)(x:Str)(F:(Fun K x x (cR i) fa fd/\mg x=ae (.ref fa))/\Cf K (.ref fa)=ah)(len:∀ws n Q E,S ws n Q E->ws.length=p)(body:∀ws n Q E,S ws n Q E->W (λi j _ n=>E i j n) (dj N ws) n {nx:=λ_ n=>Q (.d .none) n,rt:=Q})(hp:(N.take p).length=p:=by rfl)(Sc:FnScope N (N.take p) (cK (cR i)):=by exact vx)(b:yW x (cR i) (N.take p):=by intro _ _ _ F;exact oH F)
  (h:yN P w K mg base k x i fa N (fH (cR i)) W:=by intro nd cdv A outer s H E hr C Ed hL;exact rl):HasE2 P w K mg base (k+1) x (N.take p) 158 "line" "word" S:=
 ⟨⟨fa,fd,Fun.okE2 F.1.1 Sc (λws n Q E q=>by rw[hp];exact len ws n Q E q) (λcdv A outer s H E hr C Ed hL=>h Sc.nd cdv A outer s H E hr C Ed hL) body,b F.1.1,F.1.2,F.2⟩⟩
theorem OP{X:Cx}{b rest:List Stmt}{s1 s2 s3:Stmt}{T:TS}(e:b=s1::s2::s3::rest)(h:PSs X (s1::s2::s3::rest) T):PSs X b T:=e▸h
theorem MV{kc kl:Nat}{fp:Addr}{fdp:Cw}(R:NR P w K mg base)(hcan:Has P w K mg base kc "can_stand" ["head","notes","hands"] pZ)(hline:HasE2 P w K mg base kl "line_read" ["line","words"] 158 "line" "word" mS)(F:Fun K "put_line" "put_line" GX fp fdp)(mp:mg "put_line"=ae (.ref fp))(kp:Cf K (.ref fp)=ah)(bp:Binds K fdp Zk [])
  (ze:mg "enumerate"=af) {k:Nat} (k1:kc<=k) (k2:kl<=k) (k3:2<=k)
  (hs:(Zb:List Str).Nodup->∀(cdv:Af)(A:B3)(outer:List Env)(s:Ai)(H:Hp)(E:XK),Room k (A.deeper (Dy "read_plan" (cK (cR 70)) s.heap.objs.size fa cdv))->∀(C:DL.Ctx)(Ed:eB),eT C "line" "word" 158 (λ_ Cl dx H'=>E (.ref Cl) (ae dx) H') Ed->∃T,DRs C (b8 (gi P w) P w K mg base Zb "read_plan" (cK (cR 70)) fa cdv A outer s H E) ((fH (cR 70)).drop 3) T (rL Ed)):
  yN P w K mg base k "read_plan" 70 fa Zb (fH (cR 70)) vQ:=by
 intro nd cdv A outer s H E hr C Ed hL;obtain⟨Ts,ds⟩:=hs nd cdv A outer s H E hr C Ed hL;obtain⟨fc,fdc,Fc,bc,mc,kc'⟩:=hcan.ex;obtain⟨fl,fdl,Fl,bl,ml,kl'⟩:=hline.ex;obtain⟨oI,tJ,h1,h2,h3,h4⟩:=R.fn;refine⟨y3 K 158 E Ts,?_,NN ds.sd hL ?_⟩
 ·refine OP (by exact rfl) ?_;refine fi (hG (i:=1) nd rfl (.inl rfl) (kY c9)) ?_;refine fi (hG (i:=2) nd rfl (.inl rfl) (kY c9)) ?_;refine fi ?_ ds.ps;refine rH PassesOwn.leaving rfl ?i ?g ?b
  case i=>
   apply DI.pi;apply xa (K:=K)
   ·exact rfl
   ·exact ze
   ·exact gy 0
  case g=>
   apply DG.pg;apply GY (K:=K)
   ·exact sN (ug (i:=3) nd rfl (.inl rfl)) (sN (ug (i:=4) nd rfl (.inl rfl)) yX)
  case b=>
   refine fi (hG (i:=5) nd rfl (.inl rfl) ?s) (fi (jk (DO (DW ?c)) (fm ?r) og) (fm (jX ?p)))
   case s=>exact(Up (K:=K) (gy 4) zw).pe
   case c=>
    apply DE.pe;apply nS hcan hr
    ·exact oh (wg (K:=K) (gy 5) d_int) (oh (gy 1) (oh (gy 2) rM))
    ·exact k1
    all_goals rfl
   case r=>exact yy R.cl R.hi h1 h2 h3 (hr.mono k3) rfl R.ga h4 (λ_ _ _ _ _ z=>z) xG (gy 3).pe d_int.pe
   case p=>exact rK (QE F) (hr.mono (An ∎ k3)) rfl mp kp bp .nil vp (cy (wg (K:=K) (gy 5) d_int).pe (cy (rQ Fl (hr.mono k2) rfl ml kl' bl BR (cy (gy 3).pe (cy (gy 5).pe c9))) (cy (gy 1).pe (cy (gy 2).pe c9))))
 ·exact(xa (X:=b8 (gi P w) P w K mg base Zb "read_plan" (cK (cR 70)) fa cdv A outer s H E) (elts:=[]) (kk:=0) (tpos:=⟨0,0,0,0⟩) (p:=⟨0,0,0,0⟩) (pos:=⟨0,0,0,0⟩) (K:=K) rfl ze (gy 0 (p:=⟨0,0,0,0⟩))).sd
end
structure NX(K:Ag):Prop where
 cla:XCla K 158
 fl:Cr K (.ref 158) "line"=ae af
 fw:Cr K (.ref 158) "word"=ae af
section
variable{X:Cx}{k k':Nat}{S:gH}{ps:List Str}{x:Str}{p pos pos' pos'' tpos:Pos}{e:Expr}{es:List Expr}{t:TA}{wa:eO}
theorem PQ{b0:Stmt}{suite:List Stmt}{th:TS}{np hpos:Pos}(h:HasE2 X.prog X.w X.K X.mg X.base k x ps 158 "line" "word" S)(hr:Room k' X.A)(hk:k<=k')
  (hst:X.stack=X.env::X.outer) (hfr:X.env.frame=ae X.env.locals) (hg0:Gl X "NoLine") (hm0:X.mg "NoLine"=ae (.ref 158)) (cl:XCl X.K 158 138) (hN:X.N.Nodup) (hi:X.N[2]?=ae ("e":Str)) (hj:X.N[1]?=ae ("_law_told_here":Str)) (hk2:X.env.scope.names.lookup ("e":Str)=ae .local) (hk1:X.env.scope.names.lookup ("_law_told_here":Str)=ae .local)
  (ha:∀pn W,DA (X.inTry pn W) (e::es) t wa) (hg:Gl X x) (hs:∀e0,PSs (X.inExc e0) (b0::suite) th) (su:Suite2 "line" "word" 158 2 1 th)
  (hdb:(x==("__debug__":Str))=ai:=by decide) (he:Au (e::es) X.env=(ai,eval e X.env)::Au es X.env:=by rfl) (hpl:(C5 pos (Au es X.env)).any (·.1)=ai:=by rfl)
  (hsw:Fi (.Call (.Name x p) (e::es) [] pos) (ae (.Name "_law_told_here" pos')) pos''.line X.env=pure ai:=by rfl):
  DS X (.Try [.Assign [.Name "_law_told_here" pos'] (.Call (.Name x p) (e::es) [] pos) pos''] [.ExceptHandler (ae (.Name "NoLine" np)) (ae "e") (b0::suite) hpos] [] [] tpos)
   (tY X.K 158 138 2 (λEX=>eM (l7 (lG 158 "line" "word" S) EX t) (gp 1)) th)
   (o9 2 1 λEd=>qJ 1 S wa Ed):=by
 obtain⟨fa,fd,F,b,hm,kp⟩:=h.ex;refine⟨Jk hst hfr hg0 hm0 hN hi hk2 (λpn W EX hx=>fm (hG (i:=1) hN hj (.inl hk1) (rQ F (hr.mono hk) hg hm kp b hx (ha pn W).pa hdb he hpl) hsw (.inr hk1))) hs ∎,HY cl ∎ su λC EX Ed L=>Ot (ha [] λ_ _=>True).sd L⟩
end
section
variable{P:Bj}{w:Bu}{K:Ag}{mg:Str->Option Af}{base:Heap}{fa:Addr}{fd:Cw}
theorem So{kr:Nat}(R:NR P w K mg base)(Y:NX K)(hrp:HasE2 P w K mg base kr "read_plan" ["lines"] 158 "line" "word" lY){k:Nat}(k1:kr<=k):iE P w K mg base k "_law_told" 74 fa Zj (fH (cR 74)) t9:=by
 intro nd cdv A outer s H E hr;obtain⟨th,hs,su⟩:=LX (X:=(b8 dv P w K mg base Zj "_law_told" (cK (cR 74)) fa cdv A outer s H E).nox) (Cl:=158) (xf:="_law_told_here") (xe:="e") (ie:=2) (j:=1) (f:="line") (g:="word")
  (q0:=⟨257,8,257,22⟩) (q1:=⟨257,25,257,41⟩) (q2:=⟨257,8,257,41⟩) (q3:=⟨257,26,257,27⟩) (q4:=⟨257,26,257,32⟩) (q5:=⟨257,34,257,35⟩) (q6:=⟨257,34,257,40⟩) nd rfl rfl rfl rfl ∎ Y.cla Y.fl Y.fw ∎ ∎ rfl
 apply Exists.intro;apply GA (by exact rfl);apply uK (EU (i:=1) nd rfl (.inl rfl) yJ);apply uK
 ·apply PQ hrp hr k1 rfl rfl
  ·exact rfl
  ·exact R.ga
  ·exact R.cl
  ·exact nd
  ·exact rfl
  ·exact rfl
  ·exact rfl
  ·exact rfl
  ·exact λpn W=>oh (gy 0) rM
  ·exact rfl
  ·exact hs
  ·exact su
 ·exact DM (ES (gy 1))
end
end Nb
namespace Nb
open PySem L2
section
variable{P:Bj}{w:Bu}{K:Ag}{mg:Str->Option Af}{base:Heap}
theorem Qf:FnScope Ze Ze (cK FW):=⟨rfl,rfl,rfl,by decide +kernel,rfl,by decide +kernel,by decide +kernel⟩
theorem Nn{f:Addr}{fd:Cw}(F:Fun K "_law_tape" "_law_tape" FW f fd):FnOk P w K mg base dv 1 f fd Ze (mM K):=by
 refine F.ok Qf (λvs H Q E h=>?_) (λcdv A outer s H vs Q E hr h=>?_)
 ·obtain⟨a,ns,rfl,_⟩:=h;rfl
 ·obtain⟨a,ns,rfl,hS,hl,k⟩:=h;refine⟨_,fm (oN (kY (cy (qf BQ (pv 0) uM (uZ cP)) (cy cP (cy cP c9))))),?_⟩;refine⟨_,rfl,_,rfl,a,_,rfl,hS,λp hp=>⟨small (by simp),λq hq=>?_⟩⟩;rw[Ka (by rw[Ap];exact hl)]at hq ⊢;have hqp:q≠p:=λz=>by rw[z,bw]at hq;cases hq
  have hq0:H q=af:=by rw[aM hqp]at hq;exact hq
  refine k q ⟨p,p⟩ _ ⟨⟨0,0,bw,Int.le_refl _,Int.le_refl _⟩,by rw[aM hqp.symm,bw],hl,(λz=>nomatch z),hqp.symm⟩ λb o e=>?_;rw[aM (bQ e hq0),aM (bQ e hp)];exact e
theorem scDraw:FnScope ["_law_tape_here","_law_many","_law_found","_law_spot","_law_cell","_law_mixed"] Zg (cK CI):=⟨rfl,rfl,rfl,by decide +kernel,rfl,by decide +kernel,by decide +kernel⟩
theorem Q5{f:Addr}{fd:Cw}(F:Fun K "_law_draw" "_law_draw" CI f fd)(zl:mg "len"=af):FnOk P w K mg base dv 1 f fd Zg FH:=by
 refine F.ok scDraw (λvs H Q E h=>?_) (λcdv A outer s H vs Q E hr h=>?_)
 ·obtain⟨t,l,ns,n,many,rfl,_⟩:=h;rfl
 ·obtain⟨t,l,ns,n,many,rfl,T,hn,hm0,hm1,k⟩:=h;obtain⟨a,b,ht,ha0,ha1⟩:=T.ob;have ntl:=T.ne;have hl:=T.ls;have hlen:=T.len;refine⟨_,fi (jk (jt op_gt (gf ix_list (pv 0) cP (λ_ _=>rfl)) cP (kg _))
    (fi (hG (i:=2) scDraw.nd rfl (F1 rfl) (ek jy (gf ix_list (pv 0) cP (λ_ _=>rfl)) (pv 1)))
     (fi (wF (ek yu (gf ix_list (pv 0) cP (λ_ _=>rfl)) (pv 1)) (vy (pv 0) cP sR))
     (fm (oN (pv 2))))) og)
   (fi (hG (i:=3) scDraw.nd rfl (F1 rfl) (gf ix_list (pv 0) cP (λ_ _=>rfl)))
   (fi (wF (ek op_add (pv 3) cP) (vy (pv 0) cP sR))
   (fi (hG (i:=4) scDraw.nd rfl (F1 rfl) cP)
   (fi (jk (jt op_gt (l6 qD (by rfl) zl PySem.boot_len (cy (gf ix_list (pv 0) cP (λ_ _=>rfl)) c9)) cP (kg _))
    (fm (hG (i:=4) scDraw.nd rfl (F1 rfl) (gf ix_list (gf ix_list (pv 0) cP (λ_ _=>rfl))
     (ek jy (pv 3) (l6 qD (by rfl) zl PySem.boot_len (cy (gf ix_list (pv 0) cP (λ_ _=>rfl)) c9))) (λ_ _=>rfl)))) og)
   (fi (jk (PW.pt (CT (jt NK (pv 4) (ek Uv cP cP) (kg _))
     (CV (jt op_lt (pv 3) (l6 qD (by rfl) zl PySem.boot_len (cy (gf ix_list (pv 0) cP (λ_ _=>rfl)) c9)) (kg _)))))
    (fi (wF (ek yu (pv 4) (pv 1)) (vy (pv 0) cP sR)) (fm (oN (ek jy (pv 4) (pv 1))))) og)
   (fi (hG (i:=5) scDraw.nd rfl (F1 rfl) (ek jy (ek lS (ek op_add (ek op_add (ek jy (pv 4) cP) (ek lS (ek lS cP (pv 3)) (pv 3))) cP) cP) cP))
   (fm (oN (ek jy (ek jy (ek lS (ek jy (ek op_add (ek lS (pv 5) cP) (ek lS (pv 3) cP)) cP) cP) cP) (pv 1)))))))))),?_⟩
  refine⟨_,rfl,t,_,2,_,rfl,rfl,SqL.of ht,gh (j:=2) rfl,_,_,rfl,rfl,_,rfl,?_⟩;refine hV (λ_=>?_) (λ_=>?_)
  ·-- found=tape[2] % many;tape[2]=tape[2] // many;return found
   refine⟨_,rfl,t,_,2,_,rfl,rfl,SqL.of ht,gh (j:=2) rfl,_,rfl,_,_,rfl,rfl,hm0,?_⟩;refine⟨_,rfl,t,_,2,_,rfl,rfl,SqL.of ht,gh (j:=2) rfl,_,rfl,_,_,rfl,rfl,⟨hm0,hm1⟩,?_⟩;refine⟨_,rfl,t,_,2,2,rfl,rfl,ht,rfl,?_⟩;refine⟨_,rfl,?_⟩;refine k _ _ (Ew _ ⋯) (Dx _ hm0) ⟨⟨a,b / many,bw,ha0,by omega⟩,by rw[aM ntl.symm];exact hl,hlen,(λz=>by rw[aM T.gne];exact T.ag z),T.gne⟩ Kp.tape
  ·-- spot=tape[1];tape[1]=spot+1;cell=0
   refine⟨_,rfl,t,_,1,_,rfl,rfl,SqL.of ht,gh (j:=1) rfl,?_⟩;refine⟨_,rfl,_,_,rfl,rfl,_,rfl,t,_,1,1,rfl,rfl,ht,rfl,?_⟩;have ht1:∀o,upd H t o t=ae o:=λo=>bw;have hl1:∀o,upd H t o l.s=ae (.lst (ns.map V.int)):=λo=>by rw[aM ntl.symm];exact hl
   generalize hH1:upd H t (.lst (((.ref l.s::.int a::.int b::ju l:List V)).set 1 (.int (a+1))))=H1;have g1:H1 t=ae (.lst (.ref l.s::.int (a+1)::.int b::ju l)):=by rw[<-hH1];exact bw
   have g2:H1 l.s=ae (.lst (ns.map V.int)):=by rw[<-hH1];exact hl1 _
   have g3:Kp t H H1:=by rw[<-hH1];exact Kp.tape
   have g4:mW=ah->H1 l.g=ae (.lst FE):=λz=>by rw[<-hH1,aM T.gne];exact T.ag z
   refine⟨_,rfl,t,_,0,_,rfl,rfl,SqL.of g1,gh (j:=0) rfl,l.s,_,rfl,.inl (SqL.of g2),_,_,rfl,rfl,_,rfl,?_⟩;refine hV (λhp=>?_) (λ_=>?_)
   case refine_1=>
    have hpos:(0:Int) < ((ns.map V.int).length:Int):=of_decide_eq_true hp;obtain⟨v,hv,hm⟩:=RW (xs:=ns.map V.int) (r:=a % ((ns.map V.int).length:Int)) (Ew _ ⋯) (Dx _ hpos);obtain⟨c,_,rfl⟩:=Dc.mp hm;refine⟨_,rfl,t,_,0,_,rfl,rfl,SqL.of g1,gh (j:=0) rfl,_,rfl,_,rfl,t,_,0,_,rfl,rfl,SqL.of g1,gh (j:=0) rfl,l.s,_,rfl,.inl (SqL.of g2),_,_,rfl,rfl,hpos,l.s,_,_,.int c,rfl,rfl,SqL.of g2,hv,?_⟩
    refine⟨_,rfl,_,_,rfl,rfl,⟨by decide,by decide,by decide⟩,_,_,rfl,rfl,_,rfl,?_⟩;refine hV (λ_=>?_) (λ_=>?_)
    ·refine⟨_,rfl,_,rfl,t,_,0,_,rfl,rfl,SqL.of g1,gh (j:=0) rfl,l.s,_,rfl,.inl (SqL.of g2),_,_,rfl,rfl,_,rfl,?_⟩;refine hV (λ_=>?_) (λ_=>?_)
     ·refine⟨_,rfl,_,rfl,_,_,rfl,rfl,⟨hm0,hm1⟩,_,rfl,t,_,2,2,rfl,rfl,g1,rfl,_,rfl,_,rfl,_,_,rfl,rfl,hm0,?_⟩;exact k _ _ (Ew _ ⋯) (Dx _ hm0) ⟨⟨a+1,_,bw,by omega,by omega⟩,by rw[aM ntl.symm];exact g2,hlen,(λz=>by rw[aM T.gne];exact g4 z),T.gne⟩ (g3.trans Kp.tape)
     ·refine⟨_,rfl,_,_,rfl,rfl,(by show(0:Int) < 999331;decide),_,rfl,_,_,rfl,rfl,.inl ⟨by decide,by decide⟩,_,rfl,_,_,rfl,rfl,.inl ⟨by omega,by omega⟩,_,_,rfl,rfl,_,_,rfl,rfl,_,_,rfl,rfl,.inr ⟨by decide,by decide⟩,_,_,rfl,rfl,(by show(0:Int) < 999961;decide),?_⟩;refine⟨_,rfl,_,_,rfl,rfl,.inr ⟨by decide,by decide⟩,_,rfl,_,_,rfl,rfl,.inr ⟨by decide,by decide⟩,_,_,rfl,rfl,_,_,rfl,rfl,(by show(0:Int) < 999953;decide),_,_,rfl,rfl,.inr ⟨by decide,by decide⟩,_,_,rfl,rfl,(by show(0:Int) < 524287;decide),_,rfl,_,_,rfl,rfl,hm0,?_⟩;exact k _ _ (Ew _ ⋯) (Dx _ hm0) ⟨⟨a+1,b,g1,by omega,by omega⟩,g2,hlen,g4,T.gne⟩ g3
    ·refine oE ?_;refine⟨_,rfl,_,_,rfl,rfl,(by show(0:Int) < 999331;decide),_,rfl,_,_,rfl,rfl,.inl ⟨by decide,by decide⟩,_,rfl,_,_,rfl,rfl,.inl ⟨by omega,by omega⟩,_,_,rfl,rfl,_,_,rfl,rfl,_,_,rfl,rfl,.inr ⟨by decide,by decide⟩,_,_,rfl,rfl,(by show(0:Int) < 999961;decide),?_⟩;refine⟨_,rfl,_,_,rfl,rfl,.inr ⟨by decide,by decide⟩,_,rfl,_,_,rfl,rfl,.inr ⟨by decide,by decide⟩,_,_,rfl,rfl,_,_,rfl,rfl,(by show(0:Int) < 999953;decide),_,_,rfl,rfl,.inr ⟨by decide,by decide⟩,_,_,rfl,rfl,(by show(0:Int) < 524287;decide),_,rfl,_,_,rfl,rfl,hm0,?_⟩;exact k _ _ (Ew _ ⋯) (Dx _ hm0) ⟨⟨a+1,b,g1,by omega,by omega⟩,g2,hlen,g4,T.gne⟩ g3
   case refine_2=>
    refine⟨_,rfl,_,_,rfl,rfl,⟨by decide,by decide,by decide⟩,_,_,rfl,rfl,_,rfl,?_⟩;refine hV (λ_=>?_) (λ_=>?_)
    ·refine⟨_,rfl,_,rfl,t,_,0,_,rfl,rfl,SqL.of g1,gh (j:=0) rfl,l.s,_,rfl,.inl (SqL.of g2),_,_,rfl,rfl,_,rfl,?_⟩;refine hV (λ_=>?_) (λ_=>?_)
     ·refine⟨_,rfl,_,rfl,_,_,rfl,rfl,⟨hm0,hm1⟩,_,rfl,t,_,2,2,rfl,rfl,g1,rfl,_,rfl,_,rfl,_,_,rfl,rfl,hm0,?_⟩;exact k _ _ (Ew _ ⋯) (Dx _ hm0) ⟨⟨a+1,_,bw,by omega,by omega⟩,by rw[aM ntl.symm];exact g2,hlen,(λz=>by rw[aM T.gne];exact g4 z),T.gne⟩ (g3.trans Kp.tape)
     ·refine⟨_,rfl,_,_,rfl,rfl,(by show(0:Int) < 999331;decide),_,rfl,_,_,rfl,rfl,.inl ⟨by decide,by decide⟩,_,rfl,_,_,rfl,rfl,.inl ⟨by omega,by omega⟩,_,_,rfl,rfl,_,_,rfl,rfl,_,_,rfl,rfl,.inr ⟨by decide,by decide⟩,_,_,rfl,rfl,(by show(0:Int) < 999961;decide),?_⟩;refine⟨_,rfl,_,_,rfl,rfl,.inr ⟨by decide,by decide⟩,_,rfl,_,_,rfl,rfl,.inr ⟨by decide,by decide⟩,_,_,rfl,rfl,_,_,rfl,rfl,(by show(0:Int) < 999953;decide),_,_,rfl,rfl,.inr ⟨by decide,by decide⟩,_,_,rfl,rfl,(by show(0:Int) < 524287;decide),_,rfl,_,_,rfl,rfl,hm0,?_⟩;exact k _ _ (Ew _ ⋯) (Dx _ hm0) ⟨⟨a+1,b,g1,by omega,by omega⟩,g2,hlen,g4,T.gne⟩ g3
    ·refine oE ?_;refine⟨_,rfl,_,_,rfl,rfl,(by show(0:Int) < 999331;decide),_,rfl,_,_,rfl,rfl,.inl ⟨by decide,by decide⟩,_,rfl,_,_,rfl,rfl,.inl ⟨by omega,by omega⟩,_,_,rfl,rfl,_,_,rfl,rfl,_,_,rfl,rfl,.inr ⟨by decide,by decide⟩,_,_,rfl,rfl,(by show(0:Int) < 999961;decide),?_⟩;refine⟨_,rfl,_,_,rfl,rfl,.inr ⟨by decide,by decide⟩,_,rfl,_,_,rfl,rfl,.inr ⟨by decide,by decide⟩,_,_,rfl,rfl,_,_,rfl,rfl,(by show(0:Int) < 999953;decide),_,_,rfl,rfl,.inr ⟨by decide,by decide⟩,_,_,rfl,rfl,(by show(0:Int) < 524287;decide),_,rfl,_,_,rfl,rfl,hm0,?_⟩;exact k _ _ (Ew _ ⋯) (Dx _ hm0) ⟨⟨a+1,b,g1,by omega,by omega⟩,g2,hlen,g4,T.gne⟩ g3
end
end Nb
namespace Nb
open PySem L2 DL
theorem zE(P:G3):(zL.map λx=>PySem.W.nsIn (KK P) Ea x)=zL.map λ_=>ae af:=by kernel_rfl
section
variable{P:G3}{h:Heap}{mg:Str->Option Af}(X:(KK P).In h)(G:h.Ns Ea mg)
include X G
theorem GF(j:Nat)(d:Ds)(e:dL[j]?=ae d):(Fun (KK P) d.x d.x (cR d.i) d.f (lp d)/\mg d.x=ae (.ref d.f))/\Cf (KK P) (.ref d.f)=ah:=by
 have q:=zF (Ii P) e;obtain⟨q1,q2⟩:=Prod.mk.inj q;obtain⟨q2,q3⟩:=Prod.mk.inj q2;have k:Cf (KK P) (.ref d.f)=ah:=by
  unfold Cf;simp only[q2]
 exact⟨⟨zG q2 q3 k,B6 X G q1⟩,k⟩
theorem zK(x:Str)(h:x∈zL):mg x=af:=by
 obtain⟨j,e⟩:=List.mem_iff_getElem?.mp h;exact PySem.W.mg_none_of X G (zF (zE P) e)
end
theorem jc(P:G3):Cr (KK P) (.ref 158) "__setattr__"=ae (ae (.builtin "object.__setattr__"))/\Cf (KK P) (.ref 158)=ah/\PySem.W.readsIn (KK P) 138 (.type "type")=ah/\PySem.W.specialIn (KK P) (.ref 138) "__getattribute__"=ae (ae (.builtin "type.__getattribute__"))/\PySem.W.findCls (KK P) (.ref 138) (.type "type") "__init__"=ae (.val (.builtin "ValueError.__init__"))/\Cr (KK P) (.ref 158) "__init__"=ae (ae (.ref 155))/\Cr (KK P) (.ref 158) "line"=ae af/\Cr (KK P) (.ref 158) "word"=ae af:=
 ⟨by kernel_rfl,by kernel_rfl,by kernel_rfl,by kernel_rfl,by kernel_rfl,by kernel_rfl,by kernel_rfl,by kernel_rfl⟩
theorem J5(P:G3):XCla (KK P) 158:=⟨⟨by kernel_rfl,by kernel_rfl,by kernel_rfl⟩,by kernel_rfl,by kernel_rfl,by kernel_rfl,by kernel_rfl,by kernel_rfl⟩
theorem jT(P:G3):(KK P).lookup 138=ae (oX "BoardError" 138 137 [.type "ValueError"] gX [.ref 158] 129 334 342)/\(KK P).lookup 158=ae (oX "NoLine" 158 157 [.ref 138] (.ref 138::gX) [] 142 352 360)/\(KK P).lookup 155=ae (oT "function" (.func tJ))/\Gj (KK P) (.ref 154) "NoLine.__init__"=ah:=⟨by kernel_rfl,by kernel_rfl,by kernel_rfl,by kernel_rfl⟩
theorem S9(P:G3):(KK P).lookup 137=ae (oT "dict" (.dict #[eN P "__module__" 341 (.str "noteboard.errors" 332),eN P "__firstlineno__" 345 (.int 61 344),eN P "__static_attributes__" 346 (.ref 136),eN P "__weakref__" 348 (.ref 139),eN P "__doc__" 349 .none] 3)):=by kernel_rfl
theorem Sa(P:G3){h:Heap}(X:(KK P).In h):OwnTail h gX (.ref 138::gX):=.own (X _ _ (jT P).1) ⟨_,_,_,X _ _ (S9 P),rfl,λe he=>(by
 simp only[List.mem_toArray,A5,A9,or_false]at he;rcases he with rfl|rfl|rfl|rfl|rfl<;>exact⟨_,_,rfl⟩),λ_=>rfl⟩ (by kernel_rfl) .base
theorem CJ(P:G3):XCl (KK P) 158 138 where
 obj:=⟨_,_,_,_,_,_,_,_,_,_,_,_,_,_,(jT P).2.1⟩
 base:=⟨_,_,_,_,_,_,_,_,_,_,_,_,_,_,_,(jT P).1⟩
 tail:=λh X=>Sa P X
 sa:=(jc P).1
 kp:=(jc P).2.1
 rd0:=(jc P).2.2.1
 sp0:=(jc P).2.2.2.1
 in0:=(jc P).2.2.2.2.1
theorem Qs{p:Bj}{w:Bu}{mg:Str->Option Af}{base:Heap}(g0:mg "BoardError"=ae (.ref 138))(g:mg "NoLine"=ae (.ref 158)):NR p w (KK w.params) mg base where
 cl:=CJ _
 hi:=(jc _).2.2.2.2.2.1
 fn:=⟨_,_,(jT _).2.2.1,rfl,Oe (jT _).2.2.1 (jT _).2.2.2 ⟨rfl,rfl,rfl,by decide +kernel,rfl,by decide +kernel,by decide +kernel⟩ rfl (CJ _) (jc _).2.2.2.2.2.2.1 (jc _).2.2.2.2.2.2.2 ∅ g0 rfl (.inl rfl) (.inl rfl) (.inl rfl) (λ_=>rfl) ∎ ∎ ∎ ∎ (λ_=>rfl) (λ_=>rfl),
  Fun.binds (zG (jT _).2.2.1 (jT _).2.2.2 (by unfold Cf;simp only[(jT _).2.2.1])) λ_ _ _ _ _ _ us hl=>by obtain⟨_,_,_,rfl⟩:=xE hl;rfl⟩
 ga:=g
abbrev pR:Bj:=PySem.W.OpenLaw.prog PySem.Challenge.rw_noteboard_k18_at_the_bounds
structure Cv where
 P:Bj
 w:Bu
 K:Ag
 mg:Str->Option Af
 base:Heap
abbrev uY(c:Cv):Prop:=Has c.P c.w c.K c.mg c.base 1 "_law_draw" Zg gY
abbrev ue(c:Cv):Prop:=Has c.P c.w c.K c.mg c.base 1 "is_whole" Zc (bf j4)
abbrev wM(c:Cv):Prop:=Has c.P c.w c.K c.mg c.base 1 "is_letters" ["thing","longest"] kE
abbrev sv(c:Cv):Prop:=Has c.P c.w c.K c.mg c.base 2 "is_word" Zc (bf (aQ 8))
abbrev AB(c:Cv):Prop:=Has c.P c.w c.K c.mg c.base 2 "is_number" Zc (bf iz)
abbrev rS(c:Cv):Prop:=Has c.P c.w c.K c.mg c.base 3 "is_value" Zc (bf dw)
abbrev qw(c:Cv):Prop:=Has c.P c.w c.K c.mg c.base 2 "is_name" Zc (bf (aQ 4))
abbrev BV(c:Cv):Prop:=Has c.P c.w c.K c.mg c.base 4 "is_row" Zc (bf fM)
abbrev DZ(c:Cv):Prop:=Has c.P c.w c.K c.mg c.base 2 "is_age" Zc (bf dg)
abbrev qd(c:Cv):Prop:=Has c.P c.w c.K c.mg c.base 1 "is_headed" ["thing","head","many"] gQ
abbrev qC(c:Cv):Prop:=Has c.P c.w c.K c.mg c.base 3 "is_named" ["thing","head"] iC
abbrev qv(c:Cv):Prop:=Has c.P c.w c.K c.mg c.base 4 "is_term" Zc (bf eE)
abbrev GB(c:Cv):Prop:=Has c.P c.w c.K c.mg c.base 5 "is_pattern_field" Zc (bf dM)
abbrev GL(c:Cv):Prop:=Has c.P c.w c.K c.mg c.base 5 "is_template_field" Zc (bf gW)
abbrev vD(c:Cv):Prop:=Has c.P c.w c.K c.mg c.base 1 "has_field_count" Zc (bf gc)
abbrev BS(c:Cv):Prop:=Has c.P c.w c.K c.mg c.base 6 "is_pattern" Zc (bf ft)
abbrev AI(c:Cv):Prop:=Has c.P c.w c.K c.mg c.base 6 "is_template" Zc (bf gD)
abbrev sJ(c:Cv):Prop:=Has c.P c.w c.K c.mg c.base 1 "binds" ["pattern"] kO
abbrev BM(c:Cv):Prop:=Has c.P c.w c.K c.mg c.base 3 "is_wanted" Zc (bf kP)
abbrev BY(c:Cv):Prop:=Has c.P c.w c.K c.mg c.base 1 "is_figures" ["text"] pM
abbrev qs(c:Cv):Prop:=Has c.P c.w c.K c.mg c.base 2 "number_read" ["text"] mN
abbrev va(c:Cv):Prop:=Has c.P c.w c.K c.mg c.base 3 "value_read" ["text"] qP
abbrev BU(c:Cv):Prop:=Has c.P c.w c.K c.mg c.base 4 "field_read" ["text"] si
abbrev EV(c:Cv):Prop:=Has c.P c.w c.K c.mg c.base 3 "age_read" ["text"] vF
abbrev xw(c:Cv):Prop:=Has c.P c.w c.K c.mg c.base 3 "block_read" ["text"] vK
abbrev CK(c:Cv):Prop:=Has c.P c.w c.K c.mg c.base 2 "known_at" ["program","block","place"] wG
abbrev BO(c:Cv):Prop:=Has c.P c.w c.K c.mg c.base 1 "fields_of" ["act"] vN
abbrev AG(c:Cv):Prop:=Has c.P c.w c.K c.mg c.base 2 "first_unknown" ["fields","known"] vH
abbrev FN(c:Cv):Prop:=Has c.P c.w c.K c.mg c.base 1 "can_lead" ["program","block","known"] pK
abbrev yk(c:Cv):Prop:=Has c.P c.w c.K c.mg c.base 3 "wrong_word" ["program","block","place"] pG
abbrev sA(c:Cv):Prop:=Has c.P c.w c.K c.mg c.base 1 "lacks_block" ["hands"] mz
abbrev w8(c:Cv):Prop:=Has c.P c.w c.K c.mg c.base 2 "can_stand" ["head","notes","hands"] pZ
abbrev CW(c:Cv):Prop:=Has c.P c.w c.K c.mg c.base 5 "part_read" ["head","word"] sP
abbrev FT(c:Cv):Prop:=Has c.P c.w c.K c.mg c.base 7 "can_begin" ["head","parts"] pO
abbrev xr(c:Cv):Prop:=Has c.P c.w c.K c.mg c.base 8 "parts_read" ["words"] rO
abbrev FU(c:Cv):Prop:=Has c.P c.w c.K c.mg c.base 4 "tail_read" ["words","many"] vv
abbrev BI(c:Cv):Prop:=Has c.P c.w c.K c.mg c.base 1 "line_made" ["head","parts","tail"] vW
abbrev CS(c:Cv):Prop:=Has c.P c.w c.K c.mg c.base 1 "program_made" ["blocks"] qc
abbrev zh(c:Cv):Prop:=Has c.P c.w c.K c.mg c.base 2 "_law_word" Zg qz
abbrev zJ(c:Cv):Prop:=Has c.P c.w c.K c.mg c.base 3 "_law_rows" ["_law_tape_here"] o6
abbrev yf(c:Cv):Prop:=HasE2 c.P c.w c.K c.mg c.base 9 "line_read" ["line","words"] 158 "line" "word" mS
abbrev GS(c:Cv):Prop:=HasE2 c.P c.w c.K c.mg c.base 4 "refuse_wrong_block" ["program","block","line"] 158 "line" "word" qT
abbrev GW(c:Cv):Prop:=HasE2 c.P c.w c.K c.mg c.base 5 "refuse_wrong" ["plan"] 158 "line" "word" jx
abbrev EJ(c:Cv):Prop:=HasE2 c.P c.w c.K c.mg c.base 10 "read_plan" ["lines"] 158 "line" "word" lY
abbrev CA(c:Cv):Prop:=Has c.P c.w c.K c.mg c.base 11 "_law_told" ["_law_lines"] i8
section
variable{c:Cv}(F:∀(j:Nat) (d:Ds),dL[j]?=ae d->(Fun c.K d.x d.x (cR d.i) d.f (lp d)/\c.mg d.x=ae (.ref d.f))/\Cf c.K (.ref d.f)=ah)(z:∀x∈zL,c.mg x=af)(u0:c.mg "AGE_SIGN"=ae (.str "@" 401))(u1:c.mg "BLOCK_SIGN"=ae (.str ">" 403))(u2:c.mg "GREATEST_AGE"=ae (.int 20 197))(u3:c.mg "GREATEST_NUMBER"=ae (.int 99 195))(u4:c.mg "LONGEST_NAME"=ae (.int 4 191))(u5:c.mg "LONGEST_ROW"=ae (.int 4 193))(u6:c.mg "LONGEST_WORD"=ae (.int 8 189))(u7:c.mg "MOST_ACTS"=ae (.int 8 324))(u8:c.mg "MOST_BLOCKS"=ae (.int 6 452))(u9:c.mg "MOST_FIELDS"=ae (.int 4 255))(u10:c.mg "MOST_NOTES"=ae (.int 12 456))(u11:c.mg "MOST_PROGRAMS"=ae (.int 5 454))(u12:c.mg "MOST_WANTED"=ae (.int 4 322))(u13:c.mg "ACT_HEADS"=ae (.ref 238))(u14:∀H,SqT c.K H 238 ((Za:List Str).map V.str))(u15:c.mg "AGED"=ae (.ref 239))(u16:∀H,SqT c.K H 239 ((["note","lay"]:List Str).map V.str))(u17:c.mg "GETTING"=ae (.ref 203))(u18:∀H,SqT c.K H 203 ((Zf:List Str).map V.str))(u19:c.mg "LEADING"=ae (.ref 204))(u20:∀H,SqT c.K H 204 ((Zd:List Str).map V.str))(u21:c.mg "BARE_SIGNS"=ae (.ref 161))(u22:gG c.K 161 [("any","?"),("word","$"),("number","#")])(u23:c.mg "NAME_SIGNS"=ae (.ref 162))(u24:gG c.K 162 [("bind","?"),("as","="),("next","+")])(u25:c.mg "LEAST_PARTS"=ae (.ref 240))(u26:jO c.K 240 [("note",1),("hand",0),("block",0),("lay",1),("take",1),("read",1),("look",1),("same",2),("go",0)])(u27:fP c.P c.w c.K 161 ["any","word","number"])(u28:fP c.P c.w c.K 162 ["bind","as","next"])(u29:NR c.P c.w c.K c.mg c.base)(u30:NX c.K)
include F z u0 u1 u2 u3 u4 u5 u6 u7 u8 u9 u10 u11 u12 u13 u14 u15 u16 u17 u18 u19 u20 u21 u22 u23 u24 u25 u26 u27 u28 u29 u30
theorem Pq:uY c:=Has.mk' (F 43 _ rfl).1.1 (F 43 _ rfl).1.2 (oH (F 43 _ rfl).1.1) (OL (Q5 (F 43 _ rfl).1.1 (zU z ∅)))
theorem Ky:ue c:=bo (i:=6) 0 1 "is_whole" (F 0 _ rfl).1 (len:=QW) Lz
theorem NT:wM c:=bo (i:=7) 0 2 "is_letters" (F 1 _ rfl).1 (len:=Rz) OM
theorem Rw(h0:wM c):sv c:=bo (i:=8) 1 1 "is_word" (F 2 _ rfl).1 (len:=SR) K1
theorem Tb(h0:ue c):AB c:=bo (i:=9) 1 1 "is_number" (F 3 _ rfl).1 (len:=IT) RE
theorem JK(h0:AB c)(h1:sv c):rS c:=bo (i:=10) 2 1 "is_value" (F 4 _ rfl).1 (len:=S7) Mh
theorem Ug(h0:wM c):qw c:=bo (i:=11) 1 1 "is_name" (F 5 _ rfl).1 (len:=KP) SI
theorem Ov(h0:rS c):BV c:=bo (i:=12) 3 1 "is_row" (F 6 _ rfl).1 (len:=OV) Te
theorem KI(h0:ue c):DZ c:=bo (i:=13) 1 1 "is_age" (F 7 _ rfl).1 (len:=Pa) TM
theorem OX:qd c:=bo (i:=16) 0 3 "is_headed" (F 8 _ rfl).1 (len:=Jt) QD
theorem NG(h0:qd c)(h1:qw c):qC c:=bo (i:=17) 2 2 "is_named" (F 9 _ rfl).1 (len:=Mx) Sh
theorem Sb(h0:qd c)(h1:qC c)(h2:rS c):qv c:=bo (i:=18) 3 1 "is_term" (F 10 _ rfl).1 (len:=Ul) HS
theorem Ud(h0:qd c)(h1:qC c)(h2:qv c):GB c:=bo (i:=19) 4 1 "is_pattern_field" (F 11 _ rfl).1 (len:=Ip) SD
theorem Mp(h0:qC c)(h1:qv c):GL c:=bo (i:=20) 4 1 "is_template_field" (F 12 _ rfl).1 (len:=RG) Je
theorem Mr:vD c:=bo (i:=21) 0 1 "has_field_count" (F 13 _ rfl).1 (len:=Od) Oc
theorem IP(h0:vD c)(h1:GB c):BS c:=bo (i:=22) 5 1 "is_pattern" (F 14 _ rfl).1 (len:=OF) JL
theorem IM(h0:vD c)(h1:GL c):AI c:=bo (i:=23) 5 1 "is_template" (F 15 _ rfl).1 (len:=PH) HR
theorem JV:sJ c:=bo (i:=24) 0 1 "binds" (F 16 _ rfl).1 TH
theorem P8(h0:qw c):BM c:=bo (i:=28) 2 1 "is_wanted" (F 17 _ rfl).1 (len:=OH) R8
theorem Iw:BY c:=bo (i:=37) 0 1 "is_figures" (F 18 _ rfl).1 Ie
theorem MQ(h0:BY c):qs c:=bo (i:=38) 1 1 "number_read" (F 19 _ rfl).1 Np
theorem Ng(h0:sv c)(h1:qs c):va c:=bo (i:=39) 2 1 "value_read" (F 20 _ rfl).1 Sm
theorem Kf(h0:qw c)(h1:va c):BU c:=bo (i:=40) 3 1 "field_read" (F 21 _ rfl).1 My
theorem K3(h0:DZ c)(h1:qs c):EV c:=bo (i:=41) 2 1 "age_read" (F 22 _ rfl).1 Rp
theorem Qa(h0:qs c):xw c:=bo (i:=42) 2 1 "block_read" (F 23 _ rfl).1 UB
theorem S1(h0:sJ c):CK c:=bo (i:=49) 1 3 "known_at" (F 24 _ rfl).1 MK
theorem Sk:BO c:=bo (i:=50) 0 1 "fields_of" (F 25 _ rfl).1 Uy
theorem Pf(h0:sJ c):AG c:=bo (i:=51) 1 2 "first_unknown" (F 26 _ rfl).1 Uz
theorem LM:FN c:=bo (i:=52) 0 3 "can_lead" (F 27 _ rfl).1 Qh
theorem Nd(h0:FN c)(h1:BO c)(h2:AG c)(h3:CK c):yk c:=bo (i:=53) 2 3 "wrong_word" (F 28 _ rfl).1 Mi
theorem KN:sA c:=bo (i:=59) 0 1 "lacks_block" (F 30 _ rfl).1 MZ
theorem JF(h0:sA c):w8 c:=bo (i:=58) 1 3 "can_stand" (F 29 _ rfl).1 Qe
theorem SA(h0:BU c)(h1:va c):CW c:=bo (i:=60) 4 2 "part_read" (F 31 _ rfl).1 M6
theorem Jb(h0:BS c)(h1:BV c)(h2:AI c)(h3:qv c)(h4:BM c):FT c:=bo (i:=61) 6 2 "can_begin" (F 32 _ rfl).1 RD
theorem NI(h0:FT c)(h1:CW c):xr c:=bo (i:=62) 7 1 "parts_read" (F 33 _ rfl).1 QP
theorem Ld(h0:EV c)(h1:xw c):FU c:=bo (i:=63) 3 2 "tail_read" (F 34 _ rfl).1 Pw
theorem Qp:BI c:=bo (i:=64) 0 3 "line_made" (F 35 _ rfl).1 QC
theorem IQ(h0:BI c)(h1:xr c)(h2:FU c):yf c:=jm (i:=65) 8 "line_read" (F 36 _ rfl) RH Sq
theorem MR:CS c:=bo (i:=67) 0 1 "program_made" (F 38 _ rfl).1 Nw
theorem Jh(h0:yk c):GS c:=jm (i:=68) 3 "refuse_wrong_block" (F 39 _ rfl) JA JN
theorem Rv(h0:GS c):GW c:=jm (i:=69) 4 "refuse_wrong" (F 40 _ rfl) Qb IF
theorem HI(h0:w8 c)(h1:yf c)(h2:sA c)(h3:CS c)(h4:GW c):EJ c:=jm (i:=70) (N:=Zb) 9 "read_plan" (F 41 _ rfl) Ox K5 (h:=MV u29 h0 h1 (F 37 _ rfl).1.1 (F 37 _ rfl).1.2 (F 37 _ rfl).2 (oH (F 37 _ rfl).1.1) (zU z ∅) ∎ ∎ ∎ λnd cdv A outer s H E hr C Ed hL=>rl)
theorem MG(h0:EJ c):CA c:=bo (i:=74) 10 1 "_law_told" (F 44 _ rfl).1 (len:=JQ) Ph (h:=So u29 u30 h0 ∎)
theorem IE(h0:uY c):zh c:=bo (i:=75) 1 2 "_law_word" (F 45 _ rfl).1 UA
theorem LG(h0:uY c)(h1:zh c):zJ c:=bo (i:=76) 2 1 "_law_rows" (F 46 _ rfl).1 HQ
theorem QN(h0:zJ c)(h1:CA c):FnOk c.P c.w c.K c.mg c.base dv 12 (Ds.f ⟨77,"law",711,298,1,357,ah,719,6⟩) (lp ⟨77,"law",711,298,1,357,ah,719,6⟩) Ze (DL.spLaw c.K):=by
 have bT:=oH (ps:=Ze) (F 42 _ rfl).1.1;have GT:=Nn (P:=c.P) (w:=c.w) (mg:=c.mg) (base:=c.base) (F 42 _ rfl).1.1;exact tQ (i:=77) (N:=Zi) 11 (F 47 _ rfl).1.1 GT bT (F 42 _ rfl).1.2 (F 42 _ rfl).2 Oa rfl λnd cdv A outer s H E hr=>hG (i:=1) nd rfl (F1 rfl) (rK GT (hr.mono ∎) rfl (F 42 _ rfl).1.2 (F 42 _ rfl).2 bT .nil vp (cy (pv 0) c9))
end
theorem M8(c:Cv)(F:∀(j:Nat) (d:Ds),dL[j]?=ae d->(Fun c.K d.x d.x (cR d.i) d.f (lp d)/\c.mg d.x=ae (.ref d.f))/\Cf c.K (.ref d.f)=ah)(z:∀x∈zL,c.mg x=af)(u0:c.mg "AGE_SIGN"=ae (.str "@" 401))(u1:c.mg "BLOCK_SIGN"=ae (.str ">" 403))(u2:c.mg "GREATEST_AGE"=ae (.int 20 197))(u3:c.mg "GREATEST_NUMBER"=ae (.int 99 195))(u4:c.mg "LONGEST_NAME"=ae (.int 4 191))(u5:c.mg "LONGEST_ROW"=ae (.int 4 193))(u6:c.mg "LONGEST_WORD"=ae (.int 8 189))(u7:c.mg "MOST_ACTS"=ae (.int 8 324))(u8:c.mg "MOST_BLOCKS"=ae (.int 6 452))(u9:c.mg "MOST_FIELDS"=ae (.int 4 255))(u10:c.mg "MOST_NOTES"=ae (.int 12 456))(u11:c.mg "MOST_PROGRAMS"=ae (.int 5 454))(u12:c.mg "MOST_WANTED"=ae (.int 4 322))(u13:c.mg "ACT_HEADS"=ae (.ref 238))(u14:∀H,SqT c.K H 238 ((Za:List Str).map V.str))(u15:c.mg "AGED"=ae (.ref 239))(u16:∀H,SqT c.K H 239 ((["note","lay"]:List Str).map V.str))(u17:c.mg "GETTING"=ae (.ref 203))(u18:∀H,SqT c.K H 203 ((Zf:List Str).map V.str))(u19:c.mg "LEADING"=ae (.ref 204))(u20:∀H,SqT c.K H 204 ((Zd:List Str).map V.str))(u21:c.mg "BARE_SIGNS"=ae (.ref 161))(u22:gG c.K 161 [("any","?"),("word","$"),("number","#")])(u23:c.mg "NAME_SIGNS"=ae (.ref 162))(u24:gG c.K 162 [("bind","?"),("as","="),("next","+")])(u25:c.mg "LEAST_PARTS"=ae (.ref 240))(u26:jO c.K 240 [("note",1),("hand",0),("block",0),("lay",1),("take",1),("read",1),("look",1),("same",2),("go",0)])(u27:fP c.P c.w c.K 161 ["any","word","number"])(u28:fP c.P c.w c.K 162 ["bind","as","next"])(u29:NR c.P c.w c.K c.mg c.base)(u30:NX c.K):FnOk c.P c.w c.K c.mg c.base dv 12 (Ds.f ⟨77,"law",711,298,1,357,ah,719,6⟩) (lp ⟨77,"law",711,298,1,357,ah,719,6⟩) Ze (DL.spLaw c.K):=by
 have a__law_draw:=Pq F z u0 u1 u2 u3 u4 u5 u6 u7 u8 u9 u10 u11 u12 u13 u14 u15 u16 u17 u18 u19 u20 u21 u22 u23 u24 u25 u26 u27 u28 u29 u30;have a_is_whole:=Ky F z u0 u1 u2 u3 u4 u5 u6 u7 u8 u9 u10 u11 u12 u13 u14 u15 u16 u17 u18 u19 u20 u21 u22 u23 u24 u25 u26 u27 u28 u29 u30;have a_is_letters:=NT F z u0 u1 u2 u3 u4 u5 u6 u7 u8 u9 u10 u11 u12 u13 u14 u15 u16 u17 u18 u19 u20 u21 u22 u23 u24 u25 u26 u27 u28 u29 u30;have a_is_word:=Rw F z u0 u1 u2 u3 u4 u5 u6 u7 u8 u9 u10 u11 u12 u13 u14 u15 u16 u17 u18 u19 u20 u21 u22 u23 u24 u25 u26 u27 u28 u29 u30 a_is_letters;have a_is_number:=Tb F z u0 u1 u2 u3 u4 u5 u6 u7 u8 u9 u10 u11 u12 u13 u14 u15 u16 u17 u18 u19 u20 u21 u22 u23 u24 u25 u26 u27 u28 u29 u30 a_is_whole;have a_is_value:=JK F z u0 u1 u2 u3 u4 u5 u6 u7 u8 u9 u10 u11 u12 u13 u14 u15 u16 u17 u18 u19 u20 u21 u22 u23 u24 u25 u26 u27 u28 u29 u30 a_is_number a_is_word;have a_is_name:=Ug F z u0 u1 u2 u3 u4 u5 u6 u7 u8 u9 u10 u11 u12 u13 u14 u15 u16 u17 u18 u19 u20 u21 u22 u23 u24 u25 u26 u27 u28 u29 u30 a_is_letters;have a_is_row:=Ov F z u0 u1 u2 u3 u4 u5 u6 u7 u8 u9 u10 u11 u12 u13 u14 u15 u16 u17 u18 u19 u20 u21 u22 u23 u24 u25 u26 u27 u28 u29 u30 a_is_value;have a_is_age:=KI F z u0 u1 u2 u3 u4 u5 u6 u7 u8 u9 u10 u11 u12 u13 u14 u15 u16 u17 u18 u19 u20 u21 u22 u23 u24 u25 u26 u27 u28 u29 u30 a_is_whole;have a_is_headed:=OX F z u0 u1 u2 u3 u4 u5 u6 u7 u8 u9 u10 u11 u12 u13 u14 u15 u16 u17 u18 u19 u20 u21 u22 u23 u24 u25 u26 u27 u28 u29 u30;have a_is_named:=NG F z u0 u1 u2 u3 u4 u5 u6 u7 u8 u9 u10 u11 u12 u13 u14 u15 u16 u17 u18 u19 u20 u21 u22 u23 u24 u25 u26 u27 u28 u29 u30 a_is_headed a_is_name;have a_is_term:=Sb F z u0 u1 u2 u3 u4 u5 u6 u7 u8 u9 u10 u11 u12 u13 u14 u15 u16 u17 u18 u19 u20 u21 u22 u23 u24 u25 u26 u27 u28 u29 u30 a_is_headed a_is_named a_is_value;have a_is_pattern_field:=Ud F z u0 u1 u2 u3 u4 u5 u6 u7 u8 u9 u10 u11 u12 u13 u14 u15 u16 u17 u18 u19 u20 u21 u22 u23 u24 u25 u26 u27 u28 u29 u30 a_is_headed a_is_named a_is_term;have a_is_template_field:=Mp F z u0 u1 u2 u3 u4 u5 u6 u7 u8 u9 u10 u11 u12 u13 u14 u15 u16 u17 u18 u19 u20 u21 u22 u23 u24 u25 u26 u27 u28 u29 u30 a_is_named a_is_term;have a_has_field_count:=Mr F z u0 u1 u2 u3 u4 u5 u6 u7 u8 u9 u10 u11 u12 u13 u14 u15 u16 u17 u18 u19 u20 u21 u22 u23 u24 u25 u26 u27 u28 u29 u30;have a_is_pattern:=IP F z u0 u1 u2 u3 u4 u5 u6 u7 u8 u9 u10 u11 u12 u13 u14 u15 u16 u17 u18 u19 u20 u21 u22 u23 u24 u25 u26 u27 u28 u29 u30 a_has_field_count a_is_pattern_field;have a_is_template:=IM F z u0 u1 u2 u3 u4 u5 u6 u7 u8 u9 u10 u11 u12 u13 u14 u15 u16 u17 u18 u19 u20 u21 u22 u23 u24 u25 u26 u27 u28 u29 u30 a_has_field_count a_is_template_field;have a_binds:=JV F z u0 u1 u2 u3 u4 u5 u6 u7 u8 u9 u10 u11 u12 u13 u14 u15 u16 u17 u18 u19 u20 u21 u22 u23 u24 u25 u26 u27 u28 u29 u30;have a_is_wanted:=P8 F z u0 u1 u2 u3 u4 u5 u6 u7 u8 u9 u10 u11 u12 u13 u14 u15 u16 u17 u18 u19 u20 u21 u22 u23 u24 u25 u26 u27 u28 u29 u30 a_is_name;have a_is_figures:=Iw F z u0 u1 u2 u3 u4 u5 u6 u7 u8 u9 u10 u11 u12 u13 u14 u15 u16 u17 u18 u19 u20 u21 u22 u23 u24 u25 u26 u27 u28 u29 u30;have a_number_read:=MQ F z u0 u1 u2 u3 u4 u5 u6 u7 u8 u9 u10 u11 u12 u13 u14 u15 u16 u17 u18 u19 u20 u21 u22 u23 u24 u25 u26 u27 u28 u29 u30 a_is_figures;have a_value_read:=Ng F z u0 u1 u2 u3 u4 u5 u6 u7 u8 u9 u10 u11 u12 u13 u14 u15 u16 u17 u18 u19 u20 u21 u22 u23 u24 u25 u26 u27 u28 u29 u30 a_is_word a_number_read;have a_field_read:=Kf F z u0 u1 u2 u3 u4 u5 u6 u7 u8 u9 u10 u11 u12 u13 u14 u15 u16 u17 u18 u19 u20 u21 u22 u23 u24 u25 u26 u27 u28 u29 u30 a_is_name a_value_read;have a_age_read:=K3 F z u0 u1 u2 u3 u4 u5 u6 u7 u8 u9 u10 u11 u12 u13 u14 u15 u16 u17 u18 u19 u20 u21 u22 u23 u24 u25 u26 u27 u28 u29 u30 a_is_age a_number_read;have a_block_read:=Qa F z u0 u1 u2 u3 u4 u5 u6 u7 u8 u9 u10 u11 u12 u13 u14 u15 u16 u17 u18 u19 u20 u21 u22 u23 u24 u25 u26 u27 u28 u29 u30 a_number_read;have a_known_at:=S1 F z u0 u1 u2 u3 u4 u5 u6 u7 u8 u9 u10 u11 u12 u13 u14 u15 u16 u17 u18 u19 u20 u21 u22 u23 u24 u25 u26 u27 u28 u29 u30 a_binds;have a_fields_of:=Sk F z u0 u1 u2 u3 u4 u5 u6 u7 u8 u9 u10 u11 u12 u13 u14 u15 u16 u17 u18 u19 u20 u21 u22 u23 u24 u25 u26 u27 u28 u29 u30;have a_first_unknown:=Pf F z u0 u1 u2 u3 u4 u5 u6 u7 u8 u9 u10 u11 u12 u13 u14 u15 u16 u17 u18 u19 u20 u21 u22 u23 u24 u25 u26 u27 u28 u29 u30 a_binds;have a_can_lead:=LM F z u0 u1 u2 u3 u4 u5 u6 u7 u8 u9 u10 u11 u12 u13 u14 u15 u16 u17 u18 u19 u20 u21 u22 u23 u24 u25 u26 u27 u28 u29 u30;have a_wrong_word:=Nd F z u0 u1 u2 u3 u4 u5 u6 u7 u8 u9 u10 u11 u12 u13 u14 u15 u16 u17 u18 u19 u20 u21 u22 u23 u24 u25 u26 u27 u28 u29 u30 a_can_lead a_fields_of a_first_unknown a_known_at;have a_lacks_block:=KN F z u0 u1 u2 u3 u4 u5 u6 u7 u8 u9 u10 u11 u12 u13 u14 u15 u16 u17 u18 u19 u20 u21 u22 u23 u24 u25 u26 u27 u28 u29 u30;have a_can_stand:=JF F z u0 u1 u2 u3 u4 u5 u6 u7 u8 u9 u10 u11 u12 u13 u14 u15 u16 u17 u18 u19 u20 u21 u22 u23 u24 u25 u26 u27 u28 u29 u30 a_lacks_block;have a_part_read:=SA F z u0 u1 u2 u3 u4 u5 u6 u7 u8 u9 u10 u11 u12 u13 u14 u15 u16 u17 u18 u19 u20 u21 u22 u23 u24 u25 u26 u27 u28 u29 u30 a_field_read a_value_read;have a_can_begin:=Jb F z u0 u1 u2 u3 u4 u5 u6 u7 u8 u9 u10 u11 u12 u13 u14 u15 u16 u17 u18 u19 u20 u21 u22 u23 u24 u25 u26 u27 u28 u29 u30 a_is_pattern a_is_row a_is_template a_is_term a_is_wanted;have a_parts_read:=NI F z u0 u1 u2 u3 u4 u5 u6 u7 u8 u9 u10 u11 u12 u13 u14 u15 u16 u17 u18 u19 u20 u21 u22 u23 u24 u25 u26 u27 u28 u29 u30 a_can_begin a_part_read;have a_tail_read:=Ld F z u0 u1 u2 u3 u4 u5 u6 u7 u8 u9 u10 u11 u12 u13 u14 u15 u16 u17 u18 u19 u20 u21 u22 u23 u24 u25 u26 u27 u28 u29 u30 a_age_read a_block_read;have a_line_made:=Qp F z u0 u1 u2 u3 u4 u5 u6 u7 u8 u9 u10 u11 u12 u13 u14 u15 u16 u17 u18 u19 u20 u21 u22 u23 u24 u25 u26 u27 u28 u29 u30;have a_line_read:=IQ F z u0 u1 u2 u3 u4 u5 u6 u7 u8 u9 u10 u11 u12 u13 u14 u15 u16 u17 u18 u19 u20 u21 u22 u23 u24 u25 u26 u27 u28 u29 u30 a_line_made a_parts_read a_tail_read;have a_program_made:=MR F z u0 u1 u2 u3 u4 u5 u6 u7 u8 u9 u10 u11 u12 u13 u14 u15 u16 u17 u18 u19 u20 u21 u22 u23 u24 u25 u26 u27 u28 u29 u30;have a_refuse_wrong_block:=Jh F z u0 u1 u2 u3 u4 u5 u6 u7 u8 u9 u10 u11 u12 u13 u14 u15 u16 u17 u18 u19 u20 u21 u22 u23 u24 u25 u26 u27 u28 u29 u30 a_wrong_word;have a_refuse_wrong:=Rv F z u0 u1 u2 u3 u4 u5 u6 u7 u8 u9 u10 u11 u12 u13 u14 u15 u16 u17 u18 u19 u20 u21 u22 u23 u24 u25 u26 u27 u28 u29 u30 a_refuse_wrong_block;have a_read_plan:=HI F z u0 u1 u2 u3 u4 u5 u6 u7 u8 u9 u10 u11 u12 u13 u14 u15 u16 u17 u18 u19 u20 u21 u22 u23 u24 u25 u26 u27 u28 u29 u30 a_can_stand a_line_read a_lacks_block a_program_made a_refuse_wrong;have a__law_told:=MG F z u0 u1 u2 u3 u4 u5 u6 u7 u8 u9 u10 u11 u12 u13 u14 u15 u16 u17 u18 u19 u20 u21 u22 u23 u24 u25 u26 u27 u28 u29 u30 a_read_plan;have a__law_word:=IE F z u0 u1 u2 u3 u4 u5 u6 u7 u8 u9 u10 u11 u12 u13 u14 u15 u16 u17 u18 u19 u20 u21 u22 u23 u24 u25 u26 u27 u28 u29 u30 a__law_draw;have a__law_rows:=LG F z u0 u1 u2 u3 u4 u5 u6 u7 u8 u9 u10 u11 u12 u13 u14 u15 u16 u17 u18 u19 u20 u21 u22 u23 u24 u25 u26 u27 u28 u29 u30 a__law_draw a__law_word;exact QN F z u0 u1 u2 u3 u4 u5 u6 u7 u8 u9 u10 u11 u12 u13 u14 u15 u16 u17 u18 u19 u20 u21 u22 u23 u24 u25 u26 u27 u28 u29 u30 a__law_rows a__law_told
theorem all_K(w:Bu)(mg:Str->Option Af)(fa:Addr)(h:Heap)(X:(KK w.params).In h)(G:h.Ns Ea mg)(hfa:mg "law"=ae (.ref fa)):
  ∃fd:Cw,(∀(s:Ai)(u:Af),BindsTo s fd ⟨[u],[]⟩ [("_law_script",u)])/\∀base:Heap,(KK w.params).In base->base.Ns Ea mg->FnOk pR w (KK w.params) mg base dv 12 fa fd Ze (DL.spLaw (KK w.params)):=by
 have e:=hfa.symm.trans (GF X G 47 ⟨77,"law",711,298,1,357,ah,719,6⟩ rfl).1.2;cases e;exact⟨lp ⟨77,"law",711,298,1,357,ah,719,6⟩,λs v=>.of_eq rfl,λbase _ _=>M8 ⟨pR,w,KK w.params,mg,base⟩ (λj d e=>GF X G j d e) (zK X G) (B6 X G (by kernel_rfl)) (B6 X G (by kernel_rfl)) (B6 X G (by kernel_rfl)) (B6 X G (by kernel_rfl)) (B6 X G (by kernel_rfl)) (B6 X G (by kernel_rfl)) (B6 X G (by kernel_rfl)) (B6 X G (by kernel_rfl)) (B6 X G (by kernel_rfl)) (B6 X G (by kernel_rfl)) (B6 X G (by kernel_rfl)) (B6 X G (by kernel_rfl)) (B6 X G (by kernel_rfl)) (B6 X G (by kernel_rfl)) (λH=>.inr ⟨_,_,_,(show(KK w.params).lookup 238=ae (oT "tuple" (.seq #[(.str "lay" 517),(.str "take" 518),(.str "read" 519),(.str "look" 520),(.str "same" 521),(.str "go" 522)] 0)) by kernel_rfl),rfl,rfl,show 6<=Ao by decide,(.cons ⟨_,rfl⟩ (.cons ⟨_,rfl⟩ (.cons ⟨_,rfl⟩ (.cons ⟨_,rfl⟩ (.cons ⟨_,rfl⟩ (.cons ⟨_,rfl⟩ .nil))))))⟩) (B6 X G (by kernel_rfl)) (λH=>.inr ⟨_,_,_,(show(KK w.params).lookup 239=ae (oT "tuple" (.seq #[(.str "note" 524),(.str "lay" 525)] 0)) by kernel_rfl),rfl,rfl,show 2<=Ao by decide,(.cons ⟨_,rfl⟩ (.cons ⟨_,rfl⟩ .nil))⟩) (B6 X G (by kernel_rfl)) (λH=>.inr ⟨_,_,_,(show(KK w.params).lookup 203=ae (oT "tuple" (.seq #[(.str "take" 458),(.str "read" 459),(.str "look" 460)] 0)) by kernel_rfl),rfl,rfl,show 3<=Ao by decide,(.cons ⟨_,rfl⟩ (.cons ⟨_,rfl⟩ (.cons ⟨_,rfl⟩ .nil)))⟩) (B6 X G (by kernel_rfl)) (λH=>.inr ⟨_,_,_,(show(KK w.params).lookup 204=ae (oT "tuple" (.seq #[(.str "look" 462),(.str "same" 463),(.str "go" 464)] 0)) by kernel_rfl),rfl,rfl,show 3<=Ao by decide,(.cons ⟨_,rfl⟩ (.cons ⟨_,rfl⟩ (.cons ⟨_,rfl⟩ .nil)))⟩) (B6 X G (by kernel_rfl)) ⟨by decide,_,_,_,(show(KK w.params).lookup 161=ae (oT "dict" (.dict #[(eN w.params "any" 381 (.str "?" 382)),(eN w.params "word" 383 (.str "$" 384)),(eN w.params "number" 385 (.str "#" 386))] 3)) by kernel_rfl),⟨rfl,rfl,rfl⟩,rfl,(.cons rfl ⟨_,rfl⟩ (.cons rfl ⟨_,rfl⟩ (.cons rfl ⟨_,rfl⟩ .nil)))⟩ (B6 X G (by kernel_rfl)) ⟨by decide,_,_,_,(show(KK w.params).lookup 162=ae (oT "dict" (.dict #[(eN w.params "bind" 391 (.str "?" 392)),(eN w.params "as" 393 (.str "=" 394)),(eN w.params "next" 395 (.str "+" 396))] 3)) by kernel_rfl),⟨rfl,rfl,rfl⟩,rfl,(.cons rfl ⟨_,rfl⟩ (.cons rfl ⟨_,rfl⟩ (.cons rfl ⟨_,rfl⟩ .nil)))⟩ (B6 X G (by kernel_rfl)) ⟨by decide,_,_,_,(show(KK w.params).lookup 240=ae (oT "dict" (.dict #[(eN w.params "note" 527 (.int 1 528)),(eN w.params "hand" 529 (.int 0 530)),(eN w.params "block" 531 (.int 0 532)),(eN w.params "lay" 533 (.int 1 534)),(eN w.params "take" 535 (.int 1 536)),(eN w.params "read" 537 (.int 1 538)),(eN w.params "look" 539 (.int 1 540)),(eN w.params "same" 541 (.int 2 542)),(eN w.params "go" 543 (.int 0 544))] 9)) by kernel_rfl),⟨rfl,rfl,rfl⟩,rfl,(.cons rfl ⟨_,rfl⟩ (.cons rfl ⟨_,rfl⟩ (.cons rfl ⟨_,rfl⟩ (.cons rfl ⟨_,rfl⟩ (.cons rfl ⟨_,rfl⟩ (.cons rfl ⟨_,rfl⟩ (.cons rfl ⟨_,rfl⟩ (.cons rfl ⟨_,rfl⟩ (.cons rfl ⟨_,rfl⟩ .nil)))))))))⟩ (yr [("any",381,(.str "?" 382)),("word",383,(.str "$" 384)),("number",385,(.str "#" 386))] ∎ (show(KK w.params).lookup 161=ae (oT "dict" (.dict #[(eN w.params "any" 381 (.str "?" 382)),(eN w.params "word" 383 (.str "$" 384)),(eN w.params "number" 385 (.str "#" 386))] 3)) by kernel_rfl) ⟨rfl,rfl,rfl⟩ rfl rfl ∅) (yr [("bind",391,(.str "?" 392)),("as",393,(.str "=" 394)),("next",395,(.str "+" 396))] ∎ (show(KK w.params).lookup 162=ae (oT "dict" (.dict #[(eN w.params "bind" 391 (.str "?" 392)),(eN w.params "as" 393 (.str "=" 394)),(eN w.params "next" 395 (.str "+" 396))] 3)) by kernel_rfl) ⟨rfl,rfl,rfl⟩ rfl rfl ∅) (Qs (B6 X G (by kernel_rfl)) (B6 X G (by kernel_rfl))) ⟨J5 _,(jc _).2.2.2.2.2.2.1,(jc _).2.2.2.2.2.2.2⟩⟩
theorem walk{l:PySem.W.OpenLaw}{q:Bj}{loose:List Str}{XP:(Str->Option Af)->Heap->Prop}{YP:Bu->Heap->Prop}{d:DefRec}{K:G3->Ag}(hn:l.most=ae 63)(hdf:d.params.defaults=[])
  (hY:∀(w:Bu)(h:Heap),YP w h->(K w.params).In h)
  (F:∀(w:Bu)(mg:Str->Option Af)(fa:Addr)(h:Heap),(K w.params).In h->h.Ns Ea mg->mg d.name=ae (.ref fa)->
   ∃fd:Cw,(∀(s:Ai)(u:Af),BindsTo s fd ⟨[u],[]⟩ [("_law_script",u)])/\∀base:Heap,(K w.params).In base->base.Ns Ea mg->FnOk l.prog w (K w.params) mg base dv 12 fa fd Ze (DL.spLaw (K w.params))):
  PySem.W.WalkO q loose XP YP l.row.toRowW d [] (λf vs=>PySem.call f vs):=
 L2.walk_of (n:=63) (k:=12) (x:="_law_script") (CX:=λ_=>dv) (sp:=λw=>DL.spLaw (K w.params)) hn ∎ hdf ⟨rfl,by decide,by decide,rfl⟩ hY F (λ_ _ a ns hl _ hS=>⟨a,ns,rfl,hS,hl,λ_=>rfl⟩) λ_ _ _ _ _ z=>z
end Nb
open PySem PySem.W PyProof.Rows
set_option maxRecDepth 100000 in
set_option maxHeartbeats 0 in
theorem PySem.Challenge.cw_noteboard_k18_at_the_bounds_holds : PySem.Challenge.rw_noteboard_k18_at_the_bounds.Holds := by
 refine holds_law Nb.said_ λsaid=>?_;refine holds_open (q:=Nb.qq) (loose:=Nb.lO) (Xt:=Nb.xT) (XP:=XL Nb.qq []) (Yf:=Hook.obs Nb.hK) (Ya:=Hook.val Nb.hK) (YP:=Hook.says Nb.hK) (d:=Nb.dW) (kwd:=[]) (N:=6000) Nb.left_ (Hook.of Nb.hK) (Hook.keeps Nb.hK) (λs e=>xl_of s (Bool.and_eq_true_iff.mp e).1) XL.keeps (by kernel_rfl) (by kernel_rfl) (by kernel_rfl) (λs e=>recFacts_of (Bool.and_eq_true_iff.mp e).2) (by kernel_rfl) said (by decide +kernel) ⟨rfl,rfl,rfl,rfl,rfl,by decide +kernel⟩ ?hw ?hc
 (case hw=>w_witness2)
 exact Nb.walk (l:=PySem.Challenge.rw_noteboard_k18_at_the_bounds) (by kernel_rfl) (by kernel_rfl) (λw h Y=>kIn_of Y) Nb.all_K
