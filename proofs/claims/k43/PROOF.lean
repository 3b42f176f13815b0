import PyProof.Rows.All
import Wide.All
import OpenK.AllK
import Wide.FinOn
import Lean
import PyProof.EqAt
import PyProof.EqKinds
import PyProof.TupleCall
import PyProof.AttrMissHeap
import PyProof.Rows.RegFStrParts
import KE.KRevIter
import KE.KUnpack
import PySem.Challenge.RW_noteboard_k43_closed_lists_judged
set_option compiler.extract_closed false
set_option Elab.async false
set_option linter.all false
set_option maxRecDepth 100000
open PySem renaming Addr -> A_, wpAny_bind -> Aa, PyData -> Ab, Value -> Ag, wpAny_pure -> Ah, Shared -> Aj, sizeLine -> As, starEach -> Au, wpAny -> A2, model -> A8, Program -> A9, wpAny_callSpecial?_slot -> Bi, World -> Bj, compareOp -> Bm, Around -> Bn, bootBuiltins -> Br, wpAny_call_entry -> Bs, wpAny_holding -> Bt, wpAny_newObj_type -> By, wpAny_field -> B3, wpAny_seqItems -> Cb, behindInMarks -> Ce, assignEach -> Cj, FuncData -> Ck, cLine -> Co, swapsWith -> Cp, wpAny_setField -> Cw, backTo -> C6, wpAny_truthy_bool -> C7, wpAny_mono -> De, rawInt -> Dh, sysModules -> Dj, codeAny_builtin -> Dm, wpAny_pyIter_tuple -> Dx, wpAny_typeOf -> D1, mainGlobals -> D6, foldedSetIterable -> Ea, wpAny_setEntries_of -> Ef, wpAny_attempt -> Eh, wpAny_isInstance -> Ei, wpAny_setField_rec -> Ek, Builtin -> Ey, plainId_quiet -> E2, IsPair -> E3, binaryOp -> Fb, Scope -> Fc, strKind -> Ff, sliceBounds -> Fj, wpAny_rule -> Fk, wpAny_passesOwn -> Fp, SetTable -> Fq, wpAny_setState_of -> Fv, mem_of_lookup -> Fz, wpAny_fieldsOf -> F7, isSubtype_type -> F8, attributeBase -> Gi, holding -> Gj, wpAny_of_eq -> Gm, sizeLine_eq -> Gn, isSubtype_stop -> Gw, getItem -> Gx, codeAny -> Gy, builtinLookup_eq_fast -> Gz, entryFor_of_tree -> G0, wpAny_standAt -> G1, wpAny_typeNameOfWhole_keyiter -> G2
open List renaming length_map -> Ad, getElem?_eq_getElem -> Ai, mem_cons_of_mem -> Ak, mem_cons_self -> Am, length_append -> An, mem_cons -> Ao, getElem?_map -> Ap, getElem?_eq_some_iff -> Aw, length_cons -> Ax, set -> Ay, length_singleton -> Az, mem_of_getElem? -> A0, mem_append -> A1, not_mem_nil -> A3, mem_singleton -> A4, mem_map -> A6, map_cons -> Ba, range -> Bc, map_append -> Bf, append_nil -> Bk, append_assoc -> Bp, all_eq_true -> Bu, mem_append_right -> Bw, getElem?_set_ne -> B1, size_toArray -> B4, getElem?_cons_zero -> B5, mem_iff_getElem? -> B6, map_map -> B7, mem_range -> B9, map_eq_cons_iff -> Cf, map_congr_left -> Cn, all_cons -> Cr, length_drop -> Ct, mem_map_of_mem -> Cz, map_eq_nil_iff -> C0, any_cons -> C5, pairwise_cons -> C8, length_take -> C9, getElem_mem -> Da, getElem?_set_self' -> Dc, replicate -> Df, getElem?_eq_none -> Dk, all_map -> Dt, mem_of_mem_take -> Dv, map_id -> Dw, pairwise_singleton -> D2, nodup_cons -> D3, mem_filter -> D4, length_set -> D5, length_reverse -> D7, ext_getElem -> Ed, any_eq_true -> Ee, of_mem_zip -> Em, not_lt -> Eo, mem_append_left -> Ep, map_nil -> Er, length_range -> Es, prefix_refl -> Ez, getElem?_replicate -> E1, eq_nil_of_length_eq_zero -> E5, zip_cons_cons -> E7, toArray -> E8, nil_append -> Fg, foldl_cons -> Fh, pairwise_map -> Fl, length_take_le' -> Ft, length -> Fu, getElem_inj -> Fw, filter_cons -> Fx, getElem?_append_left -> F3, drop_eq_getElem_cons -> F4, filterMap_cons -> F6, findIdx?_eq_some_iff_getElem -> Gg, length_filter_le -> Gq, eraseIdx_sublist -> Gr, take_length -> Gv, mem_filterMap -> G5, getElem?_cons_succ -> G8
open PySem.Heap renaming get?_push_of_some -> Ae, lt_size -> Aq, get?_push_size -> Ar, get?_update_self -> Bq, size_push -> Ci, SameBut -> Cu, get?_update_other -> Eb
open PySem.W renaming Frag -> Af, keepIn -> C1, kia_one -> C3, fnOf -> Fs, mg_of -> F0
open And renaming intro -> Al
open Bool renaming and_eq_true -> Av, false_ne_true -> A7, eq_iff_iff -> En, false_eq_true -> E9, true_and -> Gc
open Nat renaming le_trans -> A5, ne_of_lt -> Bb, lt_of_lt_of_le -> Bd, zero_le -> Be, le_refl -> Bh, ne_of_gt -> Ec, lt_succ_of_lt -> Eu, le_of_lt -> F1, lt_of_le_of_lt -> G6
open PySem.Heap.SameBut renaming update -> Bg
open Or renaming inr -> Bo, inl -> Cc
open PySem.Value renaming none -> Bv, ref -> Cg, type -> Dl
open PySem.Obj renaming data_mapFields -> Bx, isFreed_of_fields -> C4, cls_mapFields -> Et, mapSeq -> Ex
open PySem.PyData renaming eqv -> Bz, canLay0 -> Cq, tuple -> Dn, strOk -> Dp, depth -> Dq, canLayAll0 -> Dz, str -> D0, eqvAll -> D8, depthAll -> F9
open Option.some renaming inj -> B2
open Int renaming toNat_natCast -> B8, eq_ofNat_of_zero_le -> Ca, emod_lt_of_pos -> G7
open PyProof.Rows renaming slot_tuple_getitem -> Cm, envOfC -> Dr, callWith_type1 -> Du, seqObj -> Dy
open Exists renaming intro -> Cs
open Array renaming getElem?_eq_getElem -> Cy, length_toList -> Dg, getElem?_toList -> Eg, toList_inj -> Gt, perm_iff_toList_perm -> G4
open Option renaming isSome_iff_exists -> C2, isSome_map -> Ej, map_eq_some_iff -> Gf
open PySem.Builtin.Slice renaming slicePlaces -> Dd, sliceAdjust -> Fi
open Sum renaming inr -> Di
open PySem.Paired renaming length -> D9
open PySem.SetTable renaming below -> Ew
open List.cons renaming inj -> E4
open PySem.Builtin.Tuple renaming tupleItemsOf -> E6
open PySem.Builtin.List renaming listTooLong -> Fn, listSameRef -> Fo
open PySem.AutoSeq1 renaming wpAny_loadPart' -> Fy
open PySem.F renaming slot_tuple_iterator_next -> F5, plainAttrs_list -> Ga, entry_tuple_add -> Gb, slot_tuple_add -> Ge, slot_zip_next -> Gh
open PySem.Heap.IsSliceOf renaming new -> Gp
open ForInStep renaming yield -> Gs
open True renaming intro -> Gu
open PySem.Builtin.Str renaming occurrences -> G3
open Option renaming some -> ae, none -> af
open Bool renaming true -> ah, false -> ai
noncomputable section
def a_:=@if_neg
def a':=@if_pos
def b_:=@decide_eq_true
def c_:=@decide_eq_false
def d_:=@of_decide_eq_true
def e_:=@of_decide_eq_false
def f_:=@absurd
def g_:=@or_false
local macro_rules|`(tactic|omega)=>`(tactic|lia)
local macro_rules|`(⋯)=>`(by omega)
local macro_rules|`(∅)=>`(by decide +kernel)
local macro_rules|`(∎)=>`(by decide)
local macro_rules|`(↑$x)=>`(Option.some (.w (.d $x)))
set_option maxHeartbeats 4000000
namespace L2
open PySem PySem.Spec PyProof.Rows
def lR(s:Stmt):Arguments:=match s with
 |.FunctionDef _ a _ _ _ _ _ _ _ _=>a
 |_=>{ posonlyargs:=[],args:=[],vararg:=af,kwonlyargs:=[],kw_defaults:=[],kwarg:=af,defaults:=[]}
def fC(s:Stmt):List Stmt:=match s with
 |.FunctionDef _ _ b _ _ _ _ _ _ _=>b
 |_=>[]
def cE(s:Stmt):Fc:=match s with
 |.FunctionDef _ _ _ _ _ _ sc _ _ _=>sc
 |_=>{ kind:=.function,names:=[],isGenerator:=ai,isCoroutine:=ai}
end L2
namespace Nb
open PySem L2
def cL(i:Nat):Stmt:=PySem.Challenge.pw_noteboard_k43_closed_lists_judged.main.body.getD i (.Pass ⟨0,0,0,0⟩)
abbrev Oa:Stmt:=cL 51
abbrev Ig:Stmt:=cL 52
abbrev rZ:Stmt:=cL 82
abbrev yD:Stmt:=Oa
abbrev FQ:Stmt:=Ig
abbrev oT(t:String)(d:Data):Obj:=⟨.type t,af,d,#[]⟩
structure Ds where
 i:Nat
 x:Str
 t:Nat
 l:Nat
 n:Nat
 r:Nat
 b:Bool
 v:Nat
 m:Nat
abbrev Ds.c(d:Ds):Nat:=if d.b then d.r+5 else d.r+3
abbrev Ds.f(d:Ds):Nat:=if d.b then d.r+6 else d.r+4
abbrev Vu(m:Nat):Ag:=[(.str "noteboard.values" 187),(.str "noteboard.patterns" 260),(.str "noteboard.programs" 314),(.str "noteboard.stands" 333),(.str "noteboard.moving" 389),(.str "noteboard.closing" 499),(.str "law_noteboard_k43_closed_lists_judged" 519)].getD m .none
abbrev kH(d:Ds):Ck:=Fs d.x d.x (lR (cL d.i)) (fC (cL d.i)) (cE (cL d.i)) .none .none .none (Vu d.m) af (.ref d.c) .none
abbrev oF(d:Ds):Obj:=oT "function" (.func (kH d))
abbrev oC(d:Ds):Obj:=oT "code" (.fields #[.str d.x d.t,.str d.x (d.t+1),.str "/claim/cut.py" (d.t+2),.int d.l 0,.int d.n 0,.int 0 0,.int 0 0,.int 3 0,.ref d.r,.bool ah,.int 181 0,.ref (d.r+1),.none,if d.b then .ref (d.r+2)else .none,if d.b then .ref (d.r+3)else .none,.ref (if d.b then d.r+4 else d.r+2),.int d.v 0,.int d.l 0,.str "/claim/cut.py" (d.v+1)])
abbrev eN(P:Params)(x:Str)(t:Nat)(v:Ag):DictEntry:=⟨PyData.keyHash P x,.str x t,v⟩
abbrev en(P:Params)(d:Ds):DictEntry:=eN P d.x (d.v+2) (.ref d.f)
def dL:List Ds:=[⟨6,"is_whole",199,7,1,15,ah,203,0⟩,⟨7,"is_letters",206,9,2,22,ai,209,0⟩,⟨8,"is_word",212,13,1,27,ah,216,0⟩,⟨9,"is_number",219,15,1,34,ah,223,0⟩,⟨10,"is_value",226,17,1,41,ah,230,0⟩,⟨11,"is_name",233,19,1,48,ah,237,0⟩,⟨12,"is_row",240,21,1,55,ai,243,0⟩,⟨13,"is_age",246,25,1,60,ah,250,0⟩,⟨14,"is_note",253,27,1,67,ah,257,0⟩,⟨16,"field_fits",262,30,4,74,ah,270,1⟩,⟨17,"fits",273,43,3,81,ah,283,1⟩,⟨18,"binds",286,55,1,88,ai,289,1⟩,⟨19,"next_value",292,57,1,93,ah,296,1⟩,⟨20,"field_value",299,61,2,100,ah,305,1⟩,⟨21,"filled",308,66,2,107,ai,311,1⟩,⟨24,"known_at",320,71,3,113,ah,330,2⟩,⟨26,"is_named_value",335,80,1,120,ah,339,3⟩,⟨27,"is_names",342,82,1,127,ai,345,3⟩,⟨28,"has_hands_form",348,86,1,132,ai,351,3⟩,⟨29,"has_stand_form",354,88,1,137,ah,358,3⟩,⟨30,"is_within",361,92,2,144,ah,366,3⟩,⟨31,"is_placed",369,94,2,151,ah,374,3⟩,⟨32,"has_known_names",377,96,2,158,ai,380,3⟩,⟨33,"fault_of",383,100,2,163,ai,386,3⟩,⟨35,"next_act",391,114,3,168,ah,400,4⟩,⟨36,"gets",403,119,3,175,ah,414,4⟩,⟨37,"gone_on",417,131,2,182,ah,422,4⟩,⟨38,"gone_to",425,133,3,189,ai,428,4⟩,⟨39,"with_hand",431,136,3,194,ah,437,4⟩,⟨40,"got",440,138,4,201,ah,451,4⟩,⟨41,"is_same_value",454,150,2,208,ah,460,4⟩,⟨42,"hand_moved",463,153,3,215,ah,473,4⟩,⟨43,"aged",476,170,1,222,ah,480,4⟩,⟨44,"clock_moved",483,172,1,229,ai,486,4⟩,⟨45,"after",489,174,3,234,ah,496,4⟩,⟨47,"is_stands",501,180,2,241,ai,504,5⟩,⟨48,"leads_within",507,182,3,246,ai,510,5⟩,⟨49,"lets_closed",513,185,3,251,ai,516,5⟩,⟨51,"_law_tape",521,191,1,256,ah,525,6⟩,⟨52,"_law_draw",528,193,2,263,ah,537,6⟩,⟨53,"_law_value",540,208,1,270,ah,544,6⟩,⟨54,"_law_size",547,210,1,277,ah,551,6⟩,⟨55,"_law_pattern",554,212,2,284,ah,565,6⟩,⟨56,"_law_template",568,229,2,291,ah,576,6⟩,⟨57,"_law_term",579,238,2,298,ah,584,6⟩,⟨58,"_law_act",587,242,3,305,ah,597,6⟩,⟨59,"_law_program",600,255,1,312,ai,603,6⟩,⟨60,"_law_notes",606,272,2,317,ai,609,6⟩,⟨61,"_law_known",612,278,3,322,ai,615,6⟩,⟨62,"_law_stand",618,284,3,327,ai,621,6⟩,⟨63,"_law_setting",624,292,1,332,ai,627,6⟩,⟨64,"_law_fits",630,300,3,337,ai,633,6⟩,⟨65,"_law_filled",636,319,2,342,ah,644,6⟩,⟨66,"_law_act_at",647,329,3,349,ah,657,6⟩,⟨67,"_law_got",660,333,3,356,ah,668,6⟩,⟨68,"_law_movers",671,339,2,363,ah,680,6⟩,⟨69,"_law_moved",683,348,3,370,ai,686,6⟩,⟨70,"_law_gone",689,375,3,375,ah,700,6⟩,⟨71,"_law_odd",703,389,1,382,ah,708,6⟩,⟨72,"_law_bent",711,393,2,389,ah,718,6⟩,⟨73,"_law_is_text",721,403,2,396,ai,724,6⟩,⟨74,"_law_is_whole",727,406,3,401,ah,733,6⟩,⟨75,"_law_is_row",736,408,1,408,ai,739,6⟩,⟨76,"_law_is_hand",742,412,2,413,ai,745,6⟩,⟨77,"_law_are_hands",748,420,2,418,ai,751,6⟩,⟨78,"_law_is_stand",754,424,2,423,ah,760,6⟩,⟨79,"_law_closed",763,435,3,430,ai,766,6⟩,⟨80,"_law_others",769,448,3,435,ah,777,6⟩,⟨81,"_law_thing",780,454,3,442,ah,789,6⟩,⟨82,"law",792,469,1,449,ah,806,6⟩]
def KK(P:Params):Af:=let e:=eN P
 (3,oT "dict" (.dict ([e "__name__" 165 (.str "law_noteboard_k43_closed_lists_judged" 519),e "__doc__" 166 .none,e "__package__" 167 .none,e "__loader__" 168 (.builtin "__main__.__loader__#opaque"),e "__spec__" 169 .none,e "__annotations__" 170 (.ref 6),e "__builtins__" 171 (.ref 4),e "__file__" 173 (.str "/claim/cut.py" 172),e "__cached__" 174 .none,e "LONGEST_WORD" 190 (.int 8 189),e "LONGEST_NAME" 192 (.int 4 191),e "LONGEST_ROW" 194 (.int 4 193),e "GREATEST_NUMBER" 196 (.int 99 195),e "GREATEST_AGE" 198 (.int 20 197)]++((dL.drop 0).take 15).map (en P)++[e "GETTING" 319 (.ref 112)]++((dL.drop 15).take 55).map (en P)).toArray 85))::(dL.flatMap λd=>[(d.c,oC d),(d.f,oF d)])++[(112,oT "tuple" (.seq #[(.str "take" 316),(.str "read" 317),(.str "look" 318)] 0))]
def aS:List A_:=3::(dL.flatMap λd=>[d.c,d.f])++[112]
abbrev pp:A9:=PySem.Challenge.pw_noteboard_k43_closed_lists_judged
abbrev qq:A9:=PySem.W.view pp [82]
def lO:List Str:=(["LONGEST_WORD","LONGEST_NAME","LONGEST_ROW","GREATEST_NUMBER","GREATEST_AGE","is_whole","is_letters","is_word","is_number","is_value","is_name","is_row","is_age","is_note","field_fits","fits","binds","next_value","field_value","filled","GETTING","known_at","is_named_value","is_names","has_hands_form","has_stand_form","is_within","is_placed","has_known_names","fault_of","next_act","gets","gone_on","gone_to","with_hand","got","is_same_value","hand_moved","aged","clock_moved","after","is_stands","leads_within","lets_closed","_law_tape","_law_draw","_law_value","_law_size","_law_pattern","_law_template","_law_term","_law_act","_law_program","_law_notes","_law_known","_law_stand","_law_setting","_law_fits","_law_filled","_law_act_at","_law_got","_law_movers","_law_moved","_law_gone","_law_odd","_law_bent","_law_is_text","_law_is_whole","_law_is_row","_law_is_hand","_law_are_hands","_law_is_stand","_law_closed","_law_others","_law_thing"]:List String).map Str.ofString
abbrev xT:Aj->Bool:=λs=>PySem.W.xlAt qq [] s&&PySem.W.recOk (PySem.W.RowW.records PySem.Challenge.rw_noteboard_k43_closed_lists_judged.row.toRowW) s
theorem sai_:PySem.W.looksOpen PySem.Challenge.rw_noteboard_k43_closed_lists_judged.row.prog=ah:=by kernel_rfl
theorem said_:PySem.Challenge.rw_noteboard_k43_closed_lists_judged.wellSaid=ah:=by unfold PySem.W.OpenLaw.wellSaid PySem.W.OpenRow.wellSaid PySem.W.OpenRow.partSaid;rw[sai_];kernel_rfl
theorem aK:∀P,aS=(KK P).map (·.1):=λP=>by kernel_rfl
abbrev hK:PySem.W.Hook:=PySem.W.kHook KK aS aK
theorem left_:PySem.W.LeftO pp qq lO xT hK.obs hK.val 6000:=λw=>by kernel_rfl
def RC(s:Stmt):Pos:=match s with
 |.FunctionDef _ _ _ _ _ _ _ _ _ p=>p
 |_=>⟨0,0,0,0⟩
def dW:DefRec:=⟨"law",lR rZ,fC rZ,cE rZ,RC rZ⟩
theorem S3(P):(dL.map λd=>(PySem.W.nsIn (KK P) D6 d.x,(KK P).lookup d.f,PySem.W.codeIn (KK P) (.ref d.c) d.x))=dL.map λd=>(ae (ae (.ref d.f)),ae (oF d),ah):=by kernel_rfl
theorem GU{α β:Type}{f g:α->β}{l:List α}(h:l.map f=l.map g){j:Nat}{a:α}(e:l[j]?=ae a):f a=g a:=by
 have:=congrArg (λl=>l[j]?) h;simp only[Ap,e]at this;exact B2 this
end Nb
namespace L2
open PySem PySem.Spec PyProof.Rows
abbrev aJ:=Sum Int Str
def j8:aJ->Ag->Bool
 |.inl k,v=>Value.isInt k v
 |.inr x,v=>Value.isStrOf x v
def lG(w:Bj):aJ->Int
 |.inl k=>hashInt k
 |.inr x=>hashStr w x
theorem iw:∀{k:aJ}{v:Ag},j8 k v=ah->(∃i t,k=Sum.inl i/\v=Value.int i t)\/(∃x t,k=Di x/\v=Value.str x t)
 |.inl i,v,h=>by
  obtain⟨t,e⟩:=Value.isInt_shape h;exact .inl ⟨i,t,rfl,e⟩
 |.inr x,v,h=>by
  obtain⟨t,e⟩:=Value.isStrOf_shape h;exact .inr ⟨x,t,rfl,e⟩
theorem O4(i)(t):j8 (.inl i) (.int i t)=ah:=by simp[j8,Value.isInt]
theorem TH(x)(t):j8 (.inr x) (.str x t)=ah:=by simp[j8,Value.isStrOf]
theorem Ub(a b):decide ((Sum.inl a:aJ)=Sum.inl b)=(a==b):=by
 by_cases e:a=b
 ·subst e;simp
 ·have h:¬(Sum.inl a:aJ)=Sum.inl b:=λq=>e (by simp_all);simp_all<;>omega
theorem Jv(a b):decide ((Di a:aJ)=Di b)=decide (a=b):=by
 by_cases e:a=b
 ·subst e;simp
 ·have h:¬(Di a:aJ)=Di b:=λq=>e (by simp_all);simp
theorem M5(a)(b):decide ((Sum.inl a:aJ)=Di b)=ai:=c_ (λq=>nomatch q)
theorem Ts(a)(b):decide ((Di a:aJ)=Sum.inl b)=ai:=c_ (λq=>nomatch q)
def fD(prog:A9)(w:Bj):PySem.KeyKind prog w aJ where
 is:=j8
 hash:=lG w
 inj:=λv a b ha hb=>by
  rcases iw ha with⟨i,t,rfl,rfl⟩|⟨x,t,rfl,rfl⟩
  ·rcases iw hb with⟨j,u,rfl,e⟩|⟨y,u,rfl,e⟩
   ·injection e with e1 _;rw[e1]
   ·exact nomatch e
  ·rcases iw hb with⟨j,u,rfl,e⟩|⟨y,u,rfl,e⟩
   ·exact nomatch e
   ·injection e with e1 _;rw[e1]
 byValue:=λk v h=>by
  rcases iw h with⟨i,t,rfl,rfl⟩|⟨x,t,rfl,rfl⟩<;>rfl
 pyHash:=λhv h=>by
  rcases iw hv with⟨i,t,rfl,rfl⟩|⟨x,t,rfl,rfl⟩
  ·exact wpAny_pyHash_int h
  ·exact wpAny_pyHash_str h
 eqBool:=λhu hv h=>by
  rcases iw hu with⟨i,t,rfl,rfl⟩|⟨x,t,rfl,rfl⟩
  ·rcases iw hv with⟨j,u,rfl,rfl⟩|⟨y,u,rfl,rfl⟩
   ·rw[Ub]at h;exact wpAny_eqBool_int h
   ·rw[M5]at h;exact SeqAt.EqAt.int_str i t y u _ _ _ _ h
  ·rcases iw hv with⟨j,u,rfl,rfl⟩|⟨y,u,rfl,rfl⟩
   ·rw[Ts]at h;exact SeqAt.EqAt.str_int x t j u _ _ _ _ h
   ·rw[Jv]at h;exact wpAny_eqBool_str h
 «strs»:=λk x t v h=>by
  rcases iw h with⟨i,u,rfl,e⟩|⟨y,u,rfl,e⟩
  ·exact nomatch e
  ·injection e with e1 _;subst e1;cases v<;>rfl
theorem xY(prog)(w)(i)(t):(fD prog w).is (.inl i) (.int i t)=ah:=O4 i t
theorem yM(prog)(w)(x)(t):(fD prog w).is (.inr x) (.str x t)=ah:=TH x t
mutual
def df:Nat->Ab->Bool
 |_,.none=>ah
 |_,.int _=>ah
 |_,.str x=>Dp x
 |n+1,.tuple ds=>eS n ds
 |_,_=>ai
def eS:Nat->List Ab->Bool
 |_,[]=>ah
 |n,d::r=>df n d&&eS n r
end
mutual
def nJ(w:Bj):Ab->Int
 |.str x=>lG w (.inr x)
 |.int i=>lG w (.inl i)
 |.none=>0xFCA86420
 |.tuple xs=>reduceHash (Builtin.Tuple.tupleHashOf (nO w xs))
 |_=>0
def nO(w:Bj):List Ab->List Int
 |[]=>[]
 |x::r=>nJ w x::nO w r
end
mutual
def ki:Ab->Nat
 |.tuple xs=>pY xs+1
 |_=>1
def pY:List Ab->Nat
 |[]=>0
 |x::r=>ki x+pY r
end
theorem iL(h:df n d=ah):d=.none\/(∃i,d=.int i)\/(∃x,d=.str x/\Dp x=ah)\/∃m ds,n=m+1/\d=.tuple ds/\eS m ds=ah:=by
 cases d with
 |none=>exact .inl rfl
 |int i=>exact .inr (.inl ⟨i,rfl⟩)
 |str x=>exact .inr (.inr (.inl ⟨x,rfl,by assumption⟩))
 |tuple ds=>
  cases n with
  |zero=>rw[df]at h<;>first|cases h|(intros;rfl)
  |succ m=>exact .inr (.inr (.inr ⟨m,ds,rfl,rfl,by assumption⟩))
 |_=>cases n<;>(rw[df]at h<;>first|cases h|(intros;rfl))
theorem xR:∀(n:Nat){d:Ab},df n d=ah->Cq d=ah/\Dq d<=n:=by
 intro n
 induction n with
 |zero=>
  intro d h;rcases iL h with rfl|⟨i,rfl⟩|⟨x,rfl,f⟩|⟨m,b,e,_⟩
  ·exact⟨rfl,Be _⟩
  ·exact⟨rfl,Be _⟩
  ·exact⟨f,Be _⟩
  ·cases e
 |succ n j=>
  intro d h;rcases iL h with rfl|⟨i,rfl⟩|⟨x,rfl,f⟩|⟨m,b,e,rfl,g⟩
  ·exact⟨rfl,Be _⟩
  ·exact⟨rfl,Be _⟩
  ·exact⟨f,Be _⟩
  ·cases e;have:Dz b=ah/\F9 b<=n:=by
    clear h
    induction b with
    |nil=>exact⟨rfl,Be _⟩
    |cons x r c=>
     rw[eS,Av]at g;obtain⟨l,p⟩:=c g.2;obtain⟨k,o⟩:=j g.1;exact⟨by rw[Dz,l,k];rfl,by rw[F9];omega⟩
   exact⟨by exact this.1,by rw[Dq];omega⟩
theorem TF:∀(n:Nat){d e:Ab},df n d=ah->df n e=ah->(Bz d e=ah↔d=e):=by
 intro n;have a:∀{d e:Ab},(d=.none\/(∃i,d=.int i)\/∃x,d=.str x)->(e=.none\/(∃i,e=.int i)\/∃x,e=.str x)->(Bz d e=ah↔d=e):=by
  intro d e h g;rcases h with rfl|⟨i,rfl⟩|⟨x,rfl⟩<;>rcases g with rfl|⟨j,rfl⟩|⟨y,rfl⟩<;>simp[Bz]
 induction n with
 |zero=>
  intro d e h g;refine a ?_ ?_
  ·rcases iL h with h|h|⟨x,h,_⟩|⟨m,t,e,_⟩
   ·exact .inl h
   ·exact .inr (.inl h)
   ·exact .inr (.inr ⟨x,h⟩)
   ·cases e
  ·rcases iL g with h|h|⟨x,h,_⟩|⟨m,t,e,_⟩
   ·exact .inl h
   ·exact .inr (.inl h)
   ·exact .inr (.inr ⟨x,h⟩)
   ·cases e
 |succ n z=>
  intro d e h g;have q:∀l c:List Ab,eS n l=ah->eS n c=ah->(D8 l c=ah↔l=c):=by
   intro l
   induction l with
   |nil=>intro c _ _;cases c<;>simp[D8]
   |cons x r u=>
    intro c o p;cases c with
    |nil=>simp[D8]
    |cons y s=>
     rw[eS,Av]at o p;rw[D8,Av,z o.1 p.1,u s o.2 p.2,List.cons.injEq]
  rcases iL h with rfl|⟨i,rfl⟩|⟨x,rfl,o⟩|⟨m,t,v,rfl,C⟩<;>rcases iL g with rfl|⟨j,rfl⟩|⟨y,rfl,p⟩|⟨k,w,B,rfl,A⟩
  ·exact a (.inl rfl) (.inl rfl)
  ·exact a (.inl rfl) (.inr (.inl ⟨_,rfl⟩))
  ·exact a (.inl rfl) (.inr (.inr ⟨_,rfl⟩))
  ·simp[Bz]
  ·exact a (.inr (.inl ⟨_,rfl⟩)) (.inl rfl)
  ·exact a (.inr (.inl ⟨_,rfl⟩)) (.inr (.inl ⟨_,rfl⟩))
  ·exact a (.inr (.inl ⟨_,rfl⟩)) (.inr (.inr ⟨_,rfl⟩))
  ·simp[Bz]
  ·exact a (.inr (.inr ⟨_,rfl⟩)) (.inl rfl)
  ·exact a (.inr (.inr ⟨_,rfl⟩)) (.inr (.inl ⟨_,rfl⟩))
  ·exact a (.inr (.inr ⟨_,rfl⟩)) (.inr (.inr ⟨_,rfl⟩))
  ·simp[Bz]
  ·simp[Bz]
  ·simp[Bz]
  ·simp[Bz]
  ·cases v;cases B;rw[Bz,q t w C A,PyData.tuple.injEq]
theorem nz(h:df n d=ah):(d=.none\/(∃i,d=.int i)\/∃x,d=.str x)\/∃m ds,n=m+1/\d=.tuple ds/\eS m ds=ah:=by
 rcases iL h with e|e|⟨x,e,_⟩|e
 ·exact .inl (.inl e)
 ·exact .inl (.inr (.inl e))
 ·exact .inl (.inr (.inr ⟨x,e⟩))
 ·exact .inr e
theorem xt(p:d=.none\/(∃i,d=.int i)\/∃x,d=.str x)(r1:Reads h v d as)(r2:Reads h v e bs):d=e:=by
 rcases p with rfl|⟨i,rfl⟩|⟨x,rfl⟩
 ·cases r1;cases r2;rfl
 ·cases r1;cases r2;rfl
 ·cases r1;cases r2;rfl
theorem yp(p:d=.none\/(∃i,d=.int i)\/∃x,d=.str x)(r1:Reads h v d as):Reads h' v d as:=by
 rcases p with rfl|⟨i,rfl⟩|⟨x,rfl⟩
 ·cases r1;exact .none
 ·cases r1;exact .int _ _
 ·cases r1;exact .str _ _
theorem IG:∀(n:Nat){h:Heap}{v:Ag}{d e:Ab}{as bs:List A_},df n d=ah->df n e=ah->Reads h v d as->Reads h v e bs->d=e:=by
 intro n
 induction n with
 |zero=>
  intro h v d e as bs t B j g;rcases nz t with p|⟨m,F,z,_⟩
  ·exact xt p j g
  ·cases z
 |succ n M=>
  intro h v d e as bs t B j g;rcases nz t with p|⟨m,F,z,rfl,w⟩
  ·exact xt p j g
  ·cases z;rcases nz B with p|⟨m,O,z,rfl,x⟩
   ·exact(xt p g j).symm
   ·cases z;cases j with
    |tuple D N K L=>
     cases g with
     |tuple G P l H=>
      cases B2 (D.symm.trans G);rw[K]at l;injection l with l _;subst l;have:∀{o:List Ag}{i f:List Ab}{as bs:List A_},eS n i=ah->eS n f=ah->ReadsAll h o i as->ReadsAll h o f bs->i=f:=by
       intro o
       induction o with
       |nil=>intro i f as bs _ _ s A;cases s;cases A;rfl
       |cons v r u=>
        intro i f as bs q y s A;cases s with
        |cons I C=>
         cases A with
         |cons J E=>
          rw[eS,Av]at q y;rw[M q.1 y.1 I J,u q.2 y.2 C E]
      rw[this w x L H]
theorem Ls:∀(n:Nat){h h':Heap}{v:Ag}{d:Ab}{as:List A_}{dd:A_}{o:Obj}{es:Array DictEntry}{ep:Nat},df n d=ah->Reads h v d as->h.get? dd=ae o->o.data=.dict es ep->Cu dd h h'->Reads h' v d as:=by
 intro n
 induction n with
 |zero=>
  intro h h' v d as dd o es ep q i A g y;rcases nz q with p|⟨m,D,z,_⟩
  ·exact yp p i
  ·cases z
 |succ n I=>
  intro h h' v d as dd o es ep q i A g y;rcases nz q with p|⟨m,D,z,rfl,w⟩
  ·exact yp p i
  ·cases z;cases i with
   |@tuple a J f k _ _ C E G H=>
    have x:a≠dd:=by
     rintro rfl
     simp_all
    have:∀{f:List Ag}{e:List Ab}{as:List A_},eS n e=ah->ReadsAll h f e as->ReadsAll h' f e as:=by
     intro f
     induction f with
     |nil=>intro e as _ l;cases l;exact .nil
     |cons v r s=>
      intro e as j l;cases l with
      |cons F B=>
       rw[eS,Av]at j;exact .cons (I j.1 F A g y) (s j.2 B)
    exact .tuple ((y.2 a x).trans C) E G (this w H)
section
variable{prog:A9}{w:Bj}{E:Ag->Aj->Prop}
theorem AE(ih:∀{A:Bn} {s:Aj} {v:Ag} {d:Ab} {as:List A_} {Q:Int->Aj->Prop},A.units+n < Co->df n d=ah->Reads s.heap v d as->Q (nJ w d) {s with toks:=s.toks+ki d}->A2 (A8 prog w) A (pyHash v) Q E s):
  ∀(xs:List Ab)(vs:List Ag)(as:List A_)(A:Bn)(s:Aj)(b:Array Int)(Q:Array Int->Aj->Prop),eS n xs=ah->ReadsAll s.heap vs xs as->A.units+n < Co->
  (∀b',b'.toList=b.toList++nO w xs->Q b' {s with toks:=s.toks+pY xs})->
  A2 (A8 prog w) A (forIn vs b λx r=>do let h <-pyHash x;pure PUnit.unit;pure (Gs (r.push h))) Q E s
 |[],_,as,A,s,b,Q,_,x,_,h=>by cases x;exact Ah (h b (by simp[nO]))
 |k::xs,_,as,A,s,b,Q,a,x,c,h=>by
  cases x with
  |cons g e=>
   rw[eS,Av]at a;rw[List.forIn_cons];refine Aa (Aa (ih c a.1 g (Aa (Ah (Ah ?_)))));refine AE ih xs _ _ A _ _ Q a.2 e c λb' f=>?_;have:=h b' (by simp[f,nO]);rw[pY,<-Nat.add_assoc]at this;omega
theorem PJ:∀(n:Nat){A:Bn}{s:Aj}{v:Ag}{d:Ab}{as:List A_}{Q:Int->Aj->Prop},A.units+n < Co->df n d=ah->Reads s.heap v d as->Q (nJ w d) {s with toks:=s.toks+ki d}->A2 (A8 prog w) A (pyHash v) Q E s:=by
 intro n;have l:∀{A:Bn}{s:Aj}{v:Ag}{d:Ab}{as:List A_}{Q:Int->Aj->Prop},A.units < Co->(d=.none\/(∃i,d=.int i)\/∃x,d=.str x)->Reads s.heap v d as->Q (nJ w d) {s with toks:=s.toks+ki d}->A2 (A8 prog w) A (pyHash v) Q E s:=by
  intro A s v d as Q C B r q;rcases B with rfl|⟨i,rfl⟩|⟨x,rfl⟩
  ·cases r;exact W.pyHash_slot rfl F.slot_NoneType_hash F.entry_NoneType_hash (by trivial) ∎ (.inr C) (Aa (Ah (Aa (wpAny_mkInt (Ah ⟨_,_,rfl,by assumption⟩)))))
  ·cases r;rw[ki]at q
   ·exact(fD prog w).pyHash (xY prog w _ _) q
   all_goals (intros;trivial)
  ·cases r;rw[ki]at q
   ·exact(fD prog w).pyHash (yM prog w _ _) q
   all_goals (intros;trivial)
 induction n with
 |zero=>
  intro A s v d as Q C B r q;refine l C ?_ r q;rcases iL B with h|h|⟨x,h,_⟩|⟨m,H,e,_⟩
  ·exact .inl h
  ·exact .inr (.inl h)
  ·exact .inr (.inr ⟨x,h⟩)
  ·cases e
 |succ n M=>
  intro A s v d as Q C B r q;rcases iL B with h|h|⟨x,h,_⟩|⟨m,H,z,rfl,D⟩
  ·exact l ⋯ (.inl h) r q
  ·exact l ⋯ (by simp_all) r q
  ·exact l ⋯ (.inr (.inr ⟨x,h⟩)) r q
  ·cases z;cases r with
   |@tuple a o K k _ _ I O J L=>
    refine W.pyHash_slot ⟨o,I,O⟩ F.slot_tuple_hash F.entry_tuple_hash (F.args_tuple_hash_1 _) ∎ (.inr ⋯) ?_;show A2 _ _ (E6 _>>=_) _ _ s;refine Aa (wpAny_tupleItemsOf I J (Aa ?_));rw[<-Array.forIn_toList];refine AE M H K.toList _ A.in1 s #[] _ D L (by simp;omega) λb N=>?_;show A2 _ _ (retInt _) _ _ _;rw[N];refine Aa (wpAny_mkInt (Ah ⟨_,_,rfl,?_⟩));rw[ki]at q;exact q
theorem QY:∀(n m:Nat){A:Bn}{s:Aj}{v:Ag}{d:Ab}{as:List A_}{Q:Bool->Aj->Prop},n<=m->df n d=ah->Reads s.heap v d as->Q ah s->A2 (A8 prog w) A (eqIsQuiet m v) Q E s:=by
 intro n;have f:∀{m:Nat}{A:Bn}{s:Aj}{v:Ag}{d:Ab}{as:List A_}{Q:Bool->Aj->Prop},(d=.none\/(∃i,d=.int i)\/∃x,d=.str x)->Reads s.heap v d as->Q ah s->A2 (A8 prog w) A (eqIsQuiet m v) Q E s:=by
  intro m A s v d as Q l r q;have P:carriedByValue v=ah:=by
   rcases l with rfl|⟨i,rfl⟩|⟨x,rfl⟩<;>cases r<;>rfl
  rw[eqIsQuiet_byValue _ P];exact Ah q
 induction n with
 |zero=>
  intro m A s v d as Q _ l r q;refine f ?_ r q;rcases iL l with h|h|⟨x,h,_⟩|⟨m,H,e,_⟩
  ·exact .inl h
  ·exact .inr (.inl h)
  ·exact .inr (.inr ⟨x,h⟩)
  ·cases e
 |succ n O=>
  intro m A s v d as Q T l r q;rcases iL l with h|h|⟨x,h,_⟩|⟨X,H,z,rfl,t⟩
  ·exact f (.inl h) r q
  ·exact f (by simp_all) r q
  ·exact f (.inr (.inr ⟨x,h⟩)) r q
  ·cases z;obtain⟨m,rfl⟩:∃k,m=k+1:=⟨m-1,by omega⟩;cases r with
   |@tuple a o U k _ _ K R M N=>
    have G:s.TypeIs (.ref a) "tuple":=⟨o,K,R⟩;unfold eqIsQuiet;refine Aa (wpAny_specialOf G F.slot_tuple_eq.lookup (Aa (Ei G isSubtype_tuple_tuple ?_)));refine Aa (Cb K M (Aa ?_));rw[<-Array.forIn_toList];refine wpAny_forIn_list _ (λrest r B=>r.1=af/\B=s/\∃u I,eS n u=ah/\ReadsAll s.heap rest u I) _ ?_ ?_ _ _ ⟨rfl,rfl,H,_,t,N⟩
    ·rintro v rest r B ⟨J,rfl,u,I,y,D⟩
     cases D with
     |cons L S=>
      rw[eS,Av]at y;exact Aa (O m ⋯ y.1 L (Ah ⟨rfl,rfl,_,_,y.2,S⟩))
    ·rintro⟨V,W⟩ B ⟨J,rfl,_⟩
     subst J;exact Ah q
end
def TK:Type:={ d:Ab // df 6 d=ah}
noncomputable instance:DecidableEq TK:=λ_ _=>Classical.propDecidable _
def jY(prog:A9)(w:Bj):HeapKind prog w TK where
 is:=λh k a=>∃as,Reads h (.ref a) k.1 as
 hash:=λk=>nJ w k.1
 draws:=λk=>ki k.1
 room:=λA=>A.units+16 < Co
 inj:=λ{h a x y} hx hy=>by
  obtain⟨as,r1⟩:=hx;obtain⟨bs,r2⟩:=hy;exact Subtype.ext (IG 6 x.2 y.2 r1 r2)
 keeps:=λ{h h' k a d o es ep} x ho hd hs=>by
  obtain⟨as,r⟩:=x;exact⟨as,Ls 6 k.2 r ho hd hs⟩
 pyHash:=λ{A E s k a Q} hu hk h=>by
  obtain⟨as,r⟩:=hk;exact PJ 6 ⋯ k.2 r h
 eqBool:=λ{A E s x y a b Q} hu hx hy h=>by
  obtain⟨as,r1⟩:=hx;obtain⟨bs,r2⟩:=hy;have l1:=xR 6 x.2;have l2:=xR 6 y.2;refine SeqAt.eqAt_reads x.1 y.1 A s _ _ _ _ r1 r2 l1.1 l2.1 ⋯ prog w E Q ?_;have e:Bz x.1 y.1=decide (x=y):=by
   rw[En,TF 6 x.2 y.2,decide_eq_true_iff];exact⟨Subtype.ext,λh=>by rw[h]⟩
  rw[e];exact h
 quiet:=λ{A E s k a Q} hk h=>by
  obtain⟨as,r⟩:=hk;exact QY 6 8 ∎ k.2 r h
inductive V where
 |non|bl (b:Bool)|int (i:Int)|str (x:Str)|byt (b:Array UInt8)|flt (b:UInt64)|ref (a:A_)|ty (n:String)
 deriving DecidableEq
def RelV:V->Ag->Prop
 |.non,u=>u=Bv
 |.bl b,u=>u=Value.bool b
 |.int i,u=>∃t,u=Value.int i t
 |.str x,u=>∃t,u=Value.str x t
 |.byt b,u=>∃t,u=Value.bytes b t
 |.flt b,u=>∃t,u=Value.float b t
 |.ref a,u=>u=Cg a
 |.ty n,u=>u=Dl n
abbrev Vals:List V->List Ag->Prop:=Paired RelV
theorem Vals.length(r:Vals xs us):xs.length=us.length:=D9 r
theorem Vals.get:∀{xs:List V}{us:List Ag}{i:Nat}{x:V},Vals xs us->xs[i]?=ae x->∃u,us[i]?=ae u/\RelV x u
 |_,_,_,_,.nil,e=>by simp at e
 |_,_,0,_,.cons r _,e=>by simp at e;subst e;exact⟨_,rfl,r⟩
 |_,_,i+1,x,.cons _ t,e=>by
  obtain⟨u,b,a⟩:=Vals.get t (by trivial);exact⟨u,by simpa using b,a⟩
theorem Vals.set(r:RelV x u):∀{xs:List V}{us:List Ag}(i:Nat),Vals xs us->Vals (xs.set i x) (us.set i u)
 |_,_,_,.nil=>.nil
 |_,_,0,.cons _ t=>.cons r t
 |_,_,i+1,.cons q t=>.cons q (Vals.set r i t)
theorem Vals.append:∀{xs ys:List V}{us ws:List Ag},Vals xs us->Vals ys ws->Vals (xs++ys) (us++ws)
 |_,_,_,_,.nil,s=>s
 |_,_,_,_,.cons r t,s=>.cons r (Vals.append t s)
theorem Vals.take:∀{xs:List V}{us:List Ag}(n:Nat),Vals xs us->Vals (xs.take n) (us.take n)
 |_,_,0,_=>.nil
 |_,_,_+1,.nil=>.nil
 |_,_,n+1,.cons r t=>.cons r (Vals.take n t)
theorem Vals.drop:∀{xs:List V}{us:List Ag}(n:Nat),Vals xs us->Vals (xs.drop n) (us.drop n)
 |_,_,0,r=>r
 |_,_,_+1,.nil=>.nil
 |_,_,n+1,.cons _ t=>Vals.drop n t
def RelO:Option V->Option Ag->Prop
 |some v,ae u=>RelV v u
 |none,af=>True
 |_,_=>False
def KV{κ:Type}:List (κ×V)->List (κ×Ag)->Prop:=Paired λ(p:κ×V)(q:κ×Ag)=>p.1=q.1/\RelV p.2 q.2
def kV:aJ->V
 |.inl i=>.int i
 |.inr x=>.str x
inductive HO where
 |lst (xs:List V)
 |tup (xs:List V)
 |dK (kvs:List (aJ×V))|dT (kvs:List (List aJ×V))
 |dX (ps:List (TK×A_×V))
 |set (S:Int->Bool) (n:Nat)
 |ins (C dx:A_) (fs:List (Str×V))
 |own (x:A_)
 |xd (fs:List (Str×V))
 |met (f x:A_)
 |rng (lo hi:Int)
 |frz (o:Obj) (u:HO)
 |tbl (ps:Array Ag)
 |ext (φ:Heap->Prop)
abbrev Hp:=A_->Option HO
def upd(H:Hp)(a:A_)(o:HO):Hp:=λb=>if b=a then ae o else H b
theorem br:upd H a o a=ae o:=by unfold upd;simp
theorem aX(h:b≠a):upd H a o b=H b:=by unfold upd;rw[a_ h]
theorem yG:upd (upd H a o) a u=upd H a u:=by
 funext b;unfold upd;simp_all
theorem AQ{H:Hp}(h:H a=ae o)(h':H b=ae u)(d:o≠u):a≠b:=by
 intro e;subst e;rw[h]at h';simp_all
theorem b5{H:Hp}(h:H a=ae o)(h':H b=af):a≠b:=by
 intro e;simp_all
def IsTupP(h:Heap)(a:A_)(items:Array Ag):Prop:=∃o,h.get? a=ae o/\o.cls=.type "tuple"/\(∃n,o.data=.seq items n)/\o.dict=af
theorem IsTupP.tup(x:IsTupP h a items):IsTup h a items:=let⟨o,e,c,d,_⟩:=x;⟨o,e,c,d⟩
theorem IsTupP.lt(x:IsTupP h a items):a < h.objs.size:=let⟨_,e,_⟩:=x;Aq e
theorem IsTupP.new(h:Heap)(items):IsTupP (h.push {cls:=.type "tuple",data:=.seq items}) h.objs.size items:=⟨_,Ar _ rfl,rfl,⟨_,rfl⟩,rfl⟩
section
variable(P:A9)(w:Bj)
def ObjOk(H:Hp)(h:Heap)(a:A_):HO->Prop
 |.lst xs=>xs.length<=As/\∃(i_:List Ag)(n:Nat),Vals xs i_/\h.get? a=ae {cls:=.type "list",data:=.seq i_.toArray n}
 |.tup xs=>xs.length<=As/\∃i_:List Ag,Vals xs i_/\IsTupP h a i_.toArray
 |.dK kvs=>kvs.length<=As/\(a==Dj)=ai/\∃vs,KV kvs vs/\h.DictOf (fD P w) a vs
 |.dT kvs=>kvs.length<=As/\(a==Dj)=ai/\∃xs:List (List aJ×A_×Ag),
   Paired (λ(p:List aJ×V)(q:List aJ×A_×Ag)=>p.1=q.1/\H q.2.1=ae (.tup (p.1.map kV))/\RelV p.2 q.2.2) kvs xs /\
   ∃o es ep,h.get? a=ae o/\o.ExactDict/\o.data=.dict es ep/\es.toList=xs.map (entryOfKey (tupleKind (fD P w)))/\(xs.map (·.1)).Nodup
 |.dX ps=>ps.length<=As/\(a==Dj)=ai/\∃xs:List (TK×A_×Ag),Paired (λ(p:TK×A_×V)(q:TK×A_×Ag)=>p.1=q.1/\p.2.1=q.2.1/\RelV p.2.2 q.2.2) ps xs /\
   ∃o es ep,h.get? a=ae o/\o.ExactDict/\o.data=.dict es ep/\es.toList=xs.map (entryOfKey (jY P w))/\(xs.map (·.1)).Nodup
 |.set S n=>h.SetOf (intKind P w) a S n
 |.ins C dx fs=>H dx=ae (.own a)/\fs.length<=1000/\dx≠a/\h.get? a=ae (PySem.W.instObj C dx) /\
   ∃mA,h.Ns1 dx mA/\(∀f,RelO (fs.lookup f) (mA f))/\PySem.Within mA (fs.map (·.1))
 |.own _=>∃o,h.get? a=ae o
 |.xd fs=>∃mA,h.Ns1 a mA/\∀f,RelO (fs.lookup f) (mA f)
 |.rng lo hi=>∃t u v,h.get? a=ae {cls:=.type "range",data:=.fields #[.int lo t,.int hi u,.int 1 v]}
 |.frz o u=>h.get? a=ae o/\ObjOk H h a u
 |.tbl ps=>h.get? a=ae {cls:=.none,data:=.fields ps}
 |.met f x=>h.get? a=ae (PySem.W.methodObj (.ref f) (.ref x))
 |.ext φ=>φ h/\(∃o,h.get? a=ae o)/\∀h1 h2:Heap,φ h1->(∀o,h1.get? a=ae o->h2.get? a=ae o)->φ h2
def HOk(H:Hp)(h:Heap):Prop:=∀a o,H a=ae o->ObjOk P w H h a o
end
section
variable{P:A9}{w:Bj}{H H':Hp}{h h':Heap}{a:A_}{o:HO}
theorem ObjOk.lt(x:ObjOk P w H h a o):a < h.objs.size:=by
 cases o with
 |lst q=>obtain⟨_,_,_,_,e⟩:=x;exact Aq e
 |tup q=>obtain⟨_,_,_,p⟩:=x;exact p.lt
 |dK b=>obtain⟨_,_,_,_,o,_,_,e,_⟩:=x;exact Aq e
 |dT b=>obtain⟨_,_,_,_,o,_,_,e,_⟩:=x;exact Aq e
 |dX c=>obtain⟨_,_,_,_,o,_,_,e,_⟩:=x;exact Aq e
 |set S n=>obtain⟨o,_,_,_,e,_⟩:=x;exact Aq e
 |ins C B s=>obtain⟨_,_,_,e,_⟩:=x;exact Aq e
 |own y=>obtain⟨_,e⟩:=x;exact Aq e
 |xd s=>obtain⟨_,⟨_,_,_,e,_⟩,_⟩:=x;exact Aq e
 |rng F v=>obtain⟨_,_,_,e⟩:=x;exact Aq e
 |frz E u=>obtain⟨e,_⟩:=x;exact Aq e
 |tbl c=>exact Aq (x)
 |met f y=>exact Aq (x)
 |ext φ=>obtain⟨_,⟨_,e⟩,_⟩:=x;exact Aq e
theorem Paired.mapP:∀{v_:List α}{w_:List β},Paired F v_ w_->(∀a b,F a b->G a b)->Paired G v_ w_
 |_,_,.nil,_=>.nil
 |_,_,.cons r t,f=>.cons (f _ _ r) (Paired.mapP t f)
theorem ObjOk.stay(x:ObjOk P w H h a o)(k:∀b u,(b=a\/H b=ae (.own a))->h.get? b=ae u->h'.get? b=ae u)
  (ho:∀b,H b=ae (.own a)->H' b=ae (.own a)) (ht:∀b xs,H b=ae (.tup xs)->H' b=ae (.tup xs)):ObjOk P w H' h' a o:=by
 induction o with
 |lst xs=>obtain⟨z,l,n,r,e⟩:=x;exact⟨z,l,n,r,k _ _ (.inl rfl) e⟩
 |tup xs=>obtain⟨z,l,r,g,e,c⟩:=x;exact⟨z,l,r,g,k _ _ (.inl rfl) e,c⟩
 |dK s=>obtain⟨z,y,I,r,g,i,j,e,c⟩:=x;exact⟨z,y,I,r,g,i,j,k _ _ (.inl rfl) e,c⟩
 |dT s=>
  obtain⟨z,y,xs,r,g,i,j,e,c⟩:=x;exact⟨z,y,xs,Paired.mapP r λp q z=>⟨z.1,ht _ _ z.2.1,z.2.2⟩,g,i,j,k _ _ (.inl rfl) e,c⟩
 |dX D=>
  obtain⟨z,y,xs,r,g,i,j,e,c⟩:=x;exact⟨z,y,xs,r,g,i,j,k _ _ (.inl rfl) e,c⟩
 |set S n=>obtain⟨g,i,j,t,e,c⟩:=x;exact⟨g,i,j,t,k _ _ (.inl rfl) e,c⟩
 |ins C W R=>
  obtain⟨d,z,K,e,m,⟨A,i,j,O,c⟩,r⟩:=x;exact⟨ho _ d,z,K,k _ _ (.inl rfl) e,m,⟨A,i,j,k _ _ (.inr d) O,c⟩,r⟩
 |own y=>obtain⟨g,e⟩:=x;exact⟨g,k _ _ (.inl rfl) e⟩
 |xd R=>obtain⟨m,⟨A,i,j,e,c⟩,r⟩:=x;exact⟨m,⟨A,i,j,k _ _ (.inl rfl) e,c⟩,r⟩
 |rng Y T=>obtain⟨t,u,v,e⟩:=x;exact⟨t,u,v,k _ _ (.inl rfl) e⟩
 |frz g u N=>obtain⟨e,q⟩:=x;exact⟨k _ _ (.inl rfl) e,N q⟩
 |tbl D=>
  have e:=x;exact k a _ (.inl rfl) e
 |met f y=>
  have e:=x;exact k a _ (.inl rfl) e
 |ext φ=>obtain⟨p,⟨o,e⟩,B⟩:=x;exact⟨B _ _ p λo=>k _ _ (.inl rfl),⟨o,k _ _ (.inl rfl) e⟩,B⟩
theorem HOk.lt(x:HOk P w H h)(e:H a=ae o):a < h.objs.size:=(x a o e).lt
theorem HOk.fresh(x:HOk P w H h)(e:h.objs.size<=a):H a=af:=by
 cases q:H a with
 |none=>rfl
 |some u=>exact f_ (Bd (x.lt q) e) (by simp)
theorem HOk.kept(x:HOk P w H h)(k:∀b u,h.get? b=ae u->h'.get? b=ae u):HOk P w H h':=λa o e=>
 (x a o e).stay (λb u _=>k b u) (λ_ q=>q) λ_ _ q=>q
theorem HOk.laid(x:HOk P w H h)(k:∀b u,h.get? b=ae u->h'.get? b=ae u)(hp:h.objs.size<=a)(new:ObjOk P w (upd H a o) h' a o):HOk P w (upd H a o) h':=λb u e=>by
 have d:=x.fresh hp;by_cases f:b=a
 ·subst f;rw[br]at e;simp_all
 ·rw[aX f]at e;exact(x b u e).stay (λc v _=>k c v) (λc q=>(aX (b5 q d))▸q) λc g q=>(aX (b5 q d))▸q
end
def Rd(H:Hp)(a:A_)(u:HO):Prop:=H a=ae u\/∃o,H a=ae (.frz o u)
theorem Rd.ok(r:Rd H a u)(x:HOk P w H h):ObjOk P w H h a u:=by
 rcases r with r|⟨o,r⟩
 ·exact x a u r
 ·obtain⟨_,q⟩:=x a _ r;exact q
def nf:Option HO->Prop
 |some (.lst _)=>True
 |some (.dK _)=>True
 |some (.dT _)=>True
 |some (.dX _)=>True
 |some (.set _ _)=>True
 |some (.ins _ _ _)=>True
 |some (.ext _)=>True
 |_=>False
section
variable{P:A9}{w:Bj}{H:Hp}{h h':Heap}{x e:A_}{o':HO}
theorem HOk.write(ok:HOk P w H h)(mu:nf (H x))(he:e=x\/H e=ae (.own x))(k:∀b u,b≠e->h.get? b=ae u->h'.get? b=ae u)(heo:∃u,h'.get? e=ae u)
  (new:ObjOk P w (upd H x o') h' x o'):HOk P w (upd H x o') h':=λb u q=>by
 have a:∀c y,H c=ae (.own y)->c≠x:=λc y r z=>by subst z;rw[r]at mu;trivial
 have f:∀c g,H c=ae (.tup g)->c≠x:=λc g r z=>by subst z;rw[r]at mu;trivial
 by_cases j:b=x
 ·subst j;rw[br]at q;simp_all
 ·rw[aX j]at q;by_cases d:b=e
  ·have l:H b=ae (.own x):=by
    rcases he with z|z
    ·exact f_ (d.trans z) j
    ·rw[d];exact z
   rw[q]at l;cases l;obtain⟨v,m⟩:=heo;exact⟨v,by simp_all⟩
  ·refine(ok b u q).stay (λc v i=>k c v ?_) (λc r=>(aX (a c b r))▸r) λc g r=>by rw[aX (f c g r)];exact r
   rcases i with rfl|i
   ·exact d
   ·rintro rfl
    rcases he with z|z
    ·exact a c b i z
    ·rw[i]at z;simp_all
end
structure Un(fs ex:List A_)(H H':Hp)(h h':Heap):Prop where
 keep:∀b o,h.get? b=ae o->H b=af->b∉fs->b∉ex->h'.get? b=ae o
 slot:∀b o,h.get? b=ae o->H b=af->b∈fs->b∉ex->∃sl,h'.get? b=ae {o with slots:=sl}
 free:∀b o,h.get? b=ae o->H b=af->b∉ex->H' b=af
 there:∀b o,h.get? b=ae o->b∉ex->∃o',h'.get? b=ae o'
 tups:∀b xs,H b=ae (.tup xs)->H' b=ae (.tup xs)
 frzs:∀b o u,H b=ae (.frz o u)->H' b=ae (.frz o u)
 tbls:∀b ps,H b=ae (.tbl ps)->∃more,H' b=ae (.tbl (ps++more))
section
variable{fs fs' ex ex':List A_}{H H1 H2:Hp}{h h1 h2 h':Heap}{a x e:A_}{o:HO}
theorem Un.any(u:Un fs ex H H1 h h1)(q:h.get? b=ae ob)(n:H b=af)(hx:b∉ex):∃sl,h1.get? b=ae {ob with slots:=sl}:=by
 by_cases a:b∈fs
 ·exact u.slot b ob q n a hx
 ·exact⟨_,u.keep b ob q n a hx⟩
theorem Un.kept(k:∀b u,h.get? b=ae u->h'.get? b=ae u):Un fs ex H H h h':=
 ⟨λb a q _ _ _=>k b a q,λb a q _ _ _=>⟨_,k b a q⟩,λ_ _ _ n _=>n,λb a q _=>⟨a,k b a q⟩,λ_ _ q=>q,λ_ _ _ q=>q,λ_ c q=>⟨#[],by rw[q];simp⟩⟩
theorem Un.refl:Un fs ex H H h h:=Un.kept λ_ _ q=>q
theorem Un.laid(k:∀b u,h.get? b=ae u->h'.get? b=ae u)(hp:h.objs.size<=a)(hn:H a=af):Un fs ex H (upd H a o) h h' where
 keep:=λb u q _ _ _=>k b u q
 slot:=λb u q _ _ _=>⟨_,k b u q⟩
 free:=λb u q n _=>(aX (Bb (Bd (Aq q) hp)))▸n
 there:=λb u q _=>⟨u,k b u q⟩
 tups:=λb c q=>(aX (b5 q hn))▸q
 frzs:=λb u c q=>(aX (b5 q hn))▸q
 tbls:=λb d q=>⟨#[],by rw[aX (b5 q hn),q];simp⟩
theorem Un.write(mu:nf (H x))(he:e=x\/H e=ae (.own x))(k:∀b u,b≠e->h.get? b=ae u->h'.get? b=ae u)(heo:∃u,h'.get? e=ae u):Un fs ex H (upd H x o) h h':=by
 have d:∀b,H b=af->b≠x:=λb n z=>by subst z;rw[n]at mu;trivial
 have f:∀b,H b=af->b≠e:=λb n z=>by
  subst z;rcases he with r|r
  ·exact d b n r
  ·rw[n]at r;cases r
 have c:∀b u,H b=ae u->¬nf (ae u)->b≠x:=λb u q i z=>by simp_all
 refine⟨λb u q n _ _=>k b u (f b n) q,λb u q n _ _=>⟨u.slots,k b u (f b n) q⟩,λb u q n _=>by rw[aX (d b n)];exact n,λb u q _=>?_,
  λb g q=>by rw[aX (c b _ q λz=>z)];exact q,λb u g q=>(aX (c b _ q λz=>z))▸q,λb j q=>⟨#[],by rw[aX (c b _ q λz=>z),q];simp⟩⟩
 by_cases a:b=e
 ·subst a;omega
 ·exact⟨u,k b u a q⟩
end
def yW(h:Heap)(H:Hp):List A_:=(Bc h.objs.size).filter λa=>(H a).isSome
def gh(h:Heap)(H:Hp):Heap:=PySem.W.hideAll h (yW h H)
theorem HW(h:Heap)(H):(gh h H).objs.size=h.objs.size:=PySem.W.hideAll_size _ _
theorem Uk(e:h.get? b=ae o)(n:H b=af):(gh h H).get? b=ae o:=
 PySem.W.hideAll_get _ e λhm=>by
  have q:=(D4.mp hm).2;simp_all
theorem SA(e:(gh h H).get? b=ae o):h.get? b=ae o/\H b=af:=by
 have a:=PySem.W.of_hideAll _ e;refine⟨a,?_⟩;cases q:H b with
 |none=>rfl
 |some x=>
  have d:b∈yW h H:=D4.mpr ⟨B9.mpr (Aq a),by simp[q]⟩;have z:(gh h H).get? b=af:=PySem.W.hideAll_none _ d;simp_all<;>omega
def UX(g h:Heap)(L:A_):List (A_×Obj):=(Bc h.objs.size).filterMap λa=>if a=L\/(g.get? a).isSome=ah then af else(h.get? a).map λo=>(a,o)
def rest(g h:Heap)(L d:A_):List (A_×Obj):=(UX g h L).filter λp=>decide (p.1≠d)
structure Mod(K:Af)(mg:Str->Option Ag)(base:Heap):Prop where
 kin:K.In base
 glob:base.Ns D6 mg
 blt:∃mb,base.Ns builtinsNs mb/\∀x:Str,x≠"__name__"->mb x=Br x
 nolimit:base.NoLimit
structure Cx where
 prog:A9
 w:Bj
 K:Af
 mg:Str->Option Ag
 base:Heap
 A:Bn
 N:List Str
 s₀:Aj
 H₀:Hp
 env:Env
 outer:List Env
 stack:List Env
 ex:List A_
 fn:Str->Bool
 calm:Bool
 pn:List (A_×Obj)
 xe:Ag->Aj->Prop
def ik(l:List Env):List A_:=l.filterMap (·.frame)
abbrev Cx.fs(X:Cx):List A_:=ik X.outer
def ej(sc:Fc)(x:Str):Prop:=sc.names.lookup x=ae .local\/sc.names.lookup x=ae .cell\/sc.names.lookup x=ae .free
def gB(sc:Fc)(x:Str):Prop:=sc.names.lookup x=ae .local\/sc.names.lookup x=ae .cell
def vr(env:Env)(h:Heap)(m:Str->Option Ag)(x:Str)(u:Ag):Prop:=
 (env.kindOf x=ae .local/\m x=ae u)\/((env.kindOf x=ae .cell\/env.kindOf x=ae .free)/\∃c,env.cells.lookup x=ae c/\h.IsCell c (ae u))
structure Cx.Ok(X:Cx):Prop where
 mod:Mod X.K X.mg X.base
 kind:X.env.scope.kind=.function
 glob:X.env.globals=D6
 blt:X.env.builtins=builtinsNs
 above:X.s₀.heap.objs.size<=X.env.locals
 inj:∀x y c,X.env.cells.lookup x=ae c->X.env.cells.lookup y=ae c->x=y
 has:∀x,(X.env.kindOf x=ae .cell\/X.env.kindOf x=ae .free)->∃c,X.env.cells.lookup x=ae c
 cab:∀x c,X.fn x=ah->X.env.cells.lookup x=ae c->X.s₀.heap.objs.size<=c
 hd:X.calm=ah->X.A.handled=af
 frames:X.A.frames=ae X.stack
 stk:X.stack=X.outer\/(X.stack=X.env::X.outer/\X.env.frame=ae X.env.locals)
 exf:∀b∈X.ex,b≠X.env.locals/\∀x c,X.env.cells.lookup x=ae c->c≠b
 bs:∀b o,X.base.get? b=ae o->X.s₀.heap.get? b=ae o/\X.H₀ b=af
 bsz:X.base.objs.size<=X.s₀.heap.objs.size
 noex:∀b o,X.base.get? b=ae o->b∉X.ex
 exfs:∀b∈X.ex,b∉X.fs
 funs:X.s₀.heap.FunFrames X.base X.outer
 frf:∀b∈X.fs,X.H₀ b=af
structure Inv(X:Cx)(h_:List (A_×Obj))(σ:List (Option V))(H:Hp)(s:Aj):Prop where
 ok:X.Ok
 os:s.os=X.s₀.os
 bare:AllBare s.gens
 base:Un X.fs X.ex X.H₀ H X.s₀.heap s.heap
 loc:∃m,s.heap.Ns X.env.locals m/\∀(i:Nat)(x:Str)(v:V),X.N[i]?=ae x->σ[i]?=ae (ae v)->ej X.env.scope x->∃u,RelV v u/\vr X.env s.heap m x u
 cell:∀x c,X.env.cells.lookup x=ae c->∃v,s.heap.IsCell c v
 free:H X.env.locals=af
 freeC:∀x c,X.env.cells.lookup x=ae c->H c=af
 pin:∀p∈X.pn++h_,s.heap.get? p.1=ae p.2/\H p.1=af/\p.1≠X.env.locals/\p.1∉X.fs/\∀v,p.2.data≠.cell v
 hok:HOk X.prog X.w H s.heap
 len:σ.length=X.N.length
section
variable{X:Cx}{h_:List (A_×Obj)}{σ:List (Option V)}{H H':Hp}{s:Aj}{h':Heap}
theorem Cx.Ok.nofr(ok:X.Ok)(e:X.base.get? b=ae o):b∉X.fs:=λhb=>by
 have:=(ok.funs.mem hb).1;simp_all
theorem Inv.bs(I:Inv X h_ σ H s):∀b o,X.base.get? b=ae o->s.heap.get? b=ae o/\H b=af:=λb o e=>
 ⟨I.base.keep b o (I.ok.bs b o e).1 (I.ok.bs b o e).2 (I.ok.nofr e) (I.ok.noex b o e),I.base.free b o (I.ok.bs b o e).1 (I.ok.bs b o e).2 (I.ok.noex b o e)⟩
theorem Inv.bk(I:Inv X h_ σ H s):∀b o,X.base.get? b=ae o->s.heap.get? b=ae o:=λb o e=>(I.bs b o e).1
theorem Inv.mod(I:Inv X h_ σ H s):Mod X.K X.mg X.base:=I.ok.mod
theorem Inv.kIn(I:Inv X h_ σ H s):X.K.In s.heap:=I.ok.mod.kin.keeps I.bk
theorem Inv.lt(I:Inv X h_ σ H s):X.env.locals < s.heap.objs.size:=let⟨_,a,_⟩:=I.loc;a.lt
theorem Inv.sz(I:Inv X h_ σ H s):X.s₀.heap.objs.size<=s.heap.objs.size:=A5 I.ok.above (F1 I.lt)
theorem Inv.nofs(I:Inv X h_ σ H s){a:A_}(h:s.heap.objs.size<=a):a∉X.fs:=λhb=>by
 obtain⟨_,o,b,_⟩:=I.ok.funs.mem hb;exact f_ (Bd (Aq b) (A5 I.sz h)) (by simp)
theorem Inv.cne(I:Inv X h_ σ H s):∀x c,X.env.cells.lookup x=ae c->c≠X.env.locals:=λx c e z=>by
 obtain⟨v,o,f,h⟩:=I.cell x c e;obtain⟨m,⟨g,d,i,a,b,_⟩,_⟩:=I.loc;simp_all
theorem Inv.funs(I:Inv X h_ σ H s):s.heap.FunFrames X.base X.outer:=by
 have f:∀l,(∀b∈ik l,b∈X.fs)->X.s₀.heap.FunFrames X.base l->s.heap.FunFrames X.base l:=by
  intro l
  induction l with
  |nil=>intro _ _;trivial
  |cons n r q=>
   intro h i;obtain⟨j,⟨L,o,g,p,k,m⟩,t⟩:=i;have c:=h L (by unfold ik;rw[F6,g];exact Am);obtain⟨u,e⟩:=I.base.slot L o k (I.ok.frf L c) c λz=>I.ok.exfs L z c;exact⟨j,⟨L,_,g,p,e,m⟩,q (λb d=>h b (by unfold ik;rw[F6,g];exact Ak _ d)) t⟩
 exact f X.outer (λ_ d=>d) I.ok.funs
theorem Inv.stack(I:Inv X h_ σ H s):s.heap.FunFrames X.base X.stack:=by
 rcases I.ok.stk with e|⟨e,b⟩
 ·rw[e];exact I.funs
 ·rw[e];obtain⟨m,a,_⟩:=I.loc;exact .cons (by rw[I.ok.kind];decide) b a (Heap.get?_none_of_le (A5 I.ok.bsz I.ok.above)) I.funs
theorem Inv.stkSub(I:Inv X h_ σ H s):∀b∈ik X.stack,b∈X.env.locals::X.fs:=λb a=>by
 rcases I.ok.stk with e|⟨e,c⟩
 ·rw[e]at a;exact Ak _ a
 ·rw[e]at a;unfold ik at a;rw[F6,c]at a;exact a
theorem Inv.stkFree(I:Inv X h_ σ H s):∀b∈ik X.stack,H b=af:=λb a=>by
 rcases Ao.mp (I.stkSub b a)with e|a
 ·rw[e];exact I.free
 ·obtain⟨_,o,c,_⟩:=I.ok.funs.mem a;exact I.base.free b o c (I.ok.frf b a) λz=>I.ok.exfs b z a
theorem Inv.step{ch:List A_}(I:Inv X h_ σ H s)
  (hch:∀b∈ch,(b∈X.ex\/X.s₀.heap.objs.size<=b)/\b≠X.env.locals/\(∀x c,X.env.cells.lookup x=ae c->c≠b)/\∀p∈X.pn++h_,p.1≠b)
  (keep:∀b o,b≠X.env.locals->b∉X.fs->b∉ch->s.heap.get? b=ae o->H b=af->h'.get? b=ae o)
  (slot:∀b o,b≠X.env.locals->b∈X.fs->b∉ch->s.heap.get? b=ae o->H b=af->∃sl,h'.get? b=ae {o with slots:=sl}) (free:∀b o,b∉ch->s.heap.get? b=ae o->H b=af->H' b=af)
  (there:∀b o,b∉ch->s.heap.get? b=ae o->∃o',h'.get? b=ae o')
  (tups:∀b xs,H b=ae (.tup xs)->H' b=ae (.tup xs)) (frzs:∀b o u,H b=ae (.frz o u)->H' b=ae (.frz o u)) (tbls:∀b ps,H b=ae (.tbl ps)->∃more,H' b=ae (.tbl (ps++more)))
  (ns:∀m,s.heap.Ns X.env.locals m->h'.Ns X.env.locals m) (hok:HOk X.prog X.w H' h') (hg:AllBare g'):
  Inv X h_ σ H' {s with heap:=h',gens:=g',drawn:=d',toks:=t'}:=by
 have A:∀b o,X.s₀.heap.get? b=ae o->b≠X.env.locals:=λb o e=>Bb (Bd (Aq e) I.ok.above);have j:∀b o,X.s₀.heap.get? b=ae o->b∉X.ex->b∉ch:=λb o e a t=>by
  rcases(hch b t).1 with z|z
  ·exact a z
  ·exact f_ (Bd (Aq e) z) (by simp)
 have f:∀x c,X.env.cells.lookup x=ae c->∀v,s.heap.IsCell c v->h'.IsCell c v:=λx c e v w=>by
  obtain⟨o,y,D⟩:=w;have g:=λz=>(hch c z).2.2.1 x c e rfl;by_cases J:c∈X.fs
  ·obtain⟨sl,q⟩:=slot c o (I.cne x c e) J g y (I.freeC x c e);exact⟨_,q,D⟩
  ·exact⟨o,keep c o (I.cne x c e) J g y (I.freeC x c e),D⟩
 refine⟨I.ok,I.os,hg,⟨λb o e n t a=>?_,λb o e n t a=>?_,λb o e n a=>?_,λb o e a=>?_,λb xs e=>tups b xs (I.base.tups b xs e),λb o xs e=>frzs b o xs (I.base.frzs b o xs e),λb ps e=>?_⟩,?_,λx c e=>?_,?_,λx c e=>?_,λp F=>?_,hok,I.len⟩
 ·exact keep b o (A b o e) t (j b o e a) (I.base.keep b o e n t a) (I.base.free b o e n a)
 ·obtain⟨sl,h⟩:=I.base.slot b o e n t a;obtain⟨C,B⟩:=slot b _ (A b o e) t (j b o e a) h (I.base.free b o e n a);exact⟨C,B⟩
 ·obtain⟨o',h⟩:=I.base.there b o e a;exact free b o' (j b o e a) h (I.base.free b o e n a)
 ·obtain⟨o',h⟩:=I.base.there b o e a;exact there b o' (j b o e a) h
 ·obtain⟨O,h⟩:=I.base.tbls b ps e;obtain⟨K,B⟩:=tbls b _ h;exact⟨O++K,by simp_all⟩
 ·obtain⟨m,N,L⟩:=I.loc;refine⟨m,ns m N,λi x v h B M=>?_⟩;obtain⟨u,r,l⟩:=L i x v h B M;refine⟨u,r,?_⟩;rcases l with l|⟨k,c,e,z⟩
  ·exact .inl l
  ·exact .inr ⟨k,c,e,f x c e _ z⟩
 ·obtain⟨v,z⟩:=I.cell x c e;exact⟨v,f x c e v z⟩
 ·obtain⟨m,⟨o,_,_,y,_⟩,_⟩:=I.loc;exact free _ o (λz=>(hch _ z).2.1 rfl) y I.free
 ·obtain⟨v,o,y,D⟩:=I.cell x c e;exact free c o (λz=>(hch c z).2.2.1 x c e rfl) y (I.freeC x c e)
 ·obtain⟨e,n,G,E,d⟩:=I.pin p F;have g:=λz=>(hch p.1 z).2.2.2 p F rfl;exact⟨keep p.1 p.2 G E g e n,free p.1 p.2 g e n,G,E,d⟩
theorem Inv.un(I:Inv X h_ σ H s)(u:Un X.fs [] H H' s.heap h')(hok:HOk X.prog X.w H' h'):Inv X h_ σ H' {s with heap:=h',toks:=t'}:=by
 obtain⟨m,⟨o,k,p,g,r⟩,_⟩:=id I.loc;obtain⟨q,h⟩:=u.any g I.free (by simp);exact I.step (ch:=[]) (λ_ z=>nomatch z) (λb o _ d _ e n=>u.keep b o e n d (by simp)) (λb o _ d _ e n=>u.slot b o e n d (by simp)) (λb o _ e n=>u.free b o e n (by simp)) (λb o _ e=>u.there b o e (by simp)) u.tups u.frzs u.tbls (λm' i=>by
  obtain⟨l,f,c,a,j⟩:=i;rw[g]at a;cases a;exact⟨_,f,c,h,j⟩) hok I.bare
theorem Inv.call(I:Inv X h_ σ H s)(u:Un (ik X.stack) ch H H' s.heap h')(hok:HOk X.prog X.w H' h')(hg:AllBare g')
  (hch:∀b∈ch,(b∈X.ex\/X.s₀.heap.objs.size<=b)/\b≠X.env.locals/\(∀x c,X.env.cells.lookup x=ae c->c≠b)/\∀p∈X.pn++h_,p.1≠b):
  Inv X h_ σ H' {s with heap:=h',gens:=g',drawn:=d',toks:=t'}:=by
 obtain⟨m,⟨o,q,v,i,r⟩,_⟩:=id I.loc;obtain⟨y,f⟩:=u.any i I.free λz=>(hch _ z).2.1 rfl;exact I.step hch (λb o f l a e n=>u.keep b o e n (λz=>(Ao.mp (I.stkSub b z)).elim f l) a) (λb o _ _ a e n=>u.any e n a) (λb o a e n=>u.free b o e n a) (λb o a e=>u.there b o e a) u.tups u.frzs u.tbls (λm' j=>by
  obtain⟨t,h,g,d,k⟩:=j;rw[i]at d;cases d;exact⟨_,h,g,f,k⟩) hok hg
theorem Inv.turned(I:Inv X h_ σ H s)(k:∀b o,b≠it->s.heap.get? b=ae o->h'.get? b=ae o)(hn:H it=af)(hL:it≠X.env.locals)
  (h1:it∈X.ex\/X.s₀.heap.objs.size<=it) (h2:∀x c,X.env.cells.lookup x=ae c->c≠it) (h3:∀p∈X.pn++h_,p.1≠it):Inv X h_ σ H {s with heap:=h',toks:=t'}:=by
 have d:∀b u,H b=ae u->b≠it:=λb u e z=>by simp_all
 refine I.step (ch:=[it]) (λb j=>?_) (λb o _ _ a e _=>k b o (λz=>a (by simp[z])) e) (λb o _ _ a e _=>⟨_,k b o (λz=>a (by simp[z])) e⟩) (λ_ _ _ _ n=>n)
  (λb o a e=>⟨o,k b o (λz=>a (by simp[z])) e⟩) (λ_ _ e=>e) (λ_ _ _ e=>e) (λb l e=>⟨#[],by rw[e];simp⟩) (λm f=>?_) (λb u e=>?_) I.bare
 ·have e:=by simpa using j
  subst e;exact⟨h1,hL,h2,h3⟩
 ·obtain⟨o,g,i,h,r⟩:=f;exact⟨o,g,i,k _ o (Ne.symm hL) h,r⟩
 ·refine(I.hok b u e).stay (λc v a=>k c v ?_) (λ_ q=>q) λ_ _ q=>q;rcases a with z|z
  ·rw[z];exact d b u e
  ·exact d c _ z
theorem Inv.tok(I:Inv X h_ σ H s)(t):Inv X h_ σ H {s with toks:=t}:=I.un Un.refl I.hok
theorem Inv.kept(I:Inv X h_ σ H s)(k:∀b u,s.heap.get? b=ae u->h'.get? b=ae u):Inv X h_ σ H {s with heap:=h',toks:=t'}:=I.un (Un.kept k) (I.hok.kept k)
theorem Inv.laid{a:A_}(I:Inv X h_ σ H s)(k:∀b u,s.heap.get? b=ae u->h'.get? b=ae u)(hp:s.heap.objs.size<=a)(new:ObjOk X.prog X.w (upd H a o) h' a o):
  Inv X h_ σ (upd H a o) {s with heap:=h',toks:=t'}:=I.un (Un.laid k hp (I.hok.fresh hp)) (I.hok.laid k hp new)
theorem Inv.write(I:Inv X h_ σ H s)(mu:nf (H x))(he:e=x\/H e=ae (.own x))(k:∀b u,b≠e->s.heap.get? b=ae u->h'.get? b=ae u)(heo:∃u,h'.get? e=ae u)
  (new:ObjOk X.prog X.w (upd H x o) h' x o):Inv X h_ σ (upd H x o) {s with heap:=h',toks:=t'}:=I.un (Un.write mu he k heo) (I.hok.write mu he k heo new)
theorem Inv.pins_of(I:Inv X h_ σ H s)(h:∀p∈pins',s.heap.get? p.1=ae p.2/\H p.1=af/\p.1≠X.env.locals/\p.1∉X.fs/\∀v,p.2.data≠.cell v):Inv X pins' σ H s:=
 ⟨I.ok,I.os,I.bare,I.base,I.loc,I.cell,I.free,I.freeC,λp a=>(A1.mp a).elim (λz=>I.pin p (Ep _ z)) (h p),I.hok,I.len⟩
theorem HC{N:List Str}(hN:N.Nodup){i j:Nat}(a:N[i]?=ae x)(b:N[j]?=ae x):i=j:=by
 obtain⟨f,d⟩:=Aw.mp a;obtain⟨e,c⟩:=Aw.mp b;exact(Fw hN).mp (d.trans c.symm)
theorem yP(I:Inv X h_ σ H s)(hN:X.N.Nodup)(hi:X.N[i]?=ae x)(hx:gB X.env.scope x)(r:RelV v u)
  (h:∀s',Inv X h_ (σ.set i (ae v)) H s'->(∃a,Cu a s.heap s'.heap/\(a=X.env.locals\/X.env.cells.lookup x=ae a))->Q () s') (hf:X.fn x=ah\/X.env.scope.names.lookup x=ae .local:=by first|exact .inl rfl|exact .inr rfl|assumption):A2 M A (storeName X.env x u) Q E s:=by
 obtain⟨m,hn,hl⟩:=id I.loc;have O:(X.env.scope.kind==.class || (X.env.scope.kind==.module&&X.env.locals != X.env.globals))=ai:=I.ok.kind▸rfl;have R:i < σ.length:=I.len▸(Aw.mp hi).1;have L:=I.cne;have l:∀{a:A_}{h':Heap},(∃o,s.heap.get? a=ae o/\H a=af)->Cu a s.heap h'->HOk X.prog X.w H h':=λ{a h'} ha f b ob e=>by
  obtain⟨_,_,C⟩:=ha;refine(I.hok b ob e).stay (λc w' B=>(f.2 c ?_).trans) (λ_ q=>q) λ_ _ q=>q
  rintro rfl
  rcases B with rfl|B
  ·rw[C]at e;cases e
  ·rw[C]at B;trivial
 rcases hx with G|G
 ·refine wpAny_storeName_local G hn (λh' hn' f=>?_) O;obtain⟨oL,_,_,hoL,_⟩:=id hn;refine h _ ⟨I.ok,I.os,I.bare,⟨λb o e n K hx=>?_,λb o e n K hx=>?_,I.base.free,λb o e hx=>?_,I.base.tups,I.base.frzs,I.base.tbls⟩,⟨_,hn',λj y v' t D e3=>?_⟩,λy c e=>?_,I.free,I.freeC,λp hp=>?_,l ⟨oL,hoL,I.free⟩ f,by simpa using I.len⟩ ⟨_,f,.inl rfl⟩
  ·exact(f.2 b (Bb (Bd (Aq e) I.ok.above))).trans (I.base.keep b o e n K hx)
  ·obtain⟨sl,t⟩:=I.base.slot b o e n K hx;exact⟨sl,(f.2 b (Bb (Bd (Aq e) I.ok.above))).trans t⟩
  ·obtain⟨o',t⟩:=I.base.there b o e hx;exact⟨o',(f.2 b (Bb (Bd (Aq e) I.ok.above))).trans t⟩
  ·by_cases J:j=i
   ·subst J;rw[hi]at t;cases t;rw[List.getElem?_set_self R]at D;cases D;exact⟨u,r,.inl ⟨G,by simp⟩⟩
   ·rw[B1 (Ne.symm J)]at D;obtain⟨Z,r',q⟩:=hl j y v' t D e3;refine⟨Z,r',?_⟩;rcases q with⟨k,e⟩|⟨k,c,e,z⟩
    ·refine .inl ⟨k,?_⟩;have:y≠x:=λe=>J (HC hN t (e▸hi));simp[this,e]
    ·exact .inr ⟨k,c,e,z.sameBut f (L y c e)⟩
  ·obtain⟨w',z⟩:=I.cell y c e;exact⟨w',z.sameBut f (L y c e)⟩
  ·obtain⟨e,n,T,Y,d⟩:=I.pin p hp;exact⟨(f.2 p.1 T).trans e,n,T,Y,d⟩
 ·have F:X.fn x=ah:=by
   rcases hf with z|z
   ·exact z
   ·rw[z]at G;trivial
  obtain⟨c,B⟩:=I.ok.has x (.inl G);obtain⟨w',z⟩:=I.cell x c B;refine wpAny_storeName_cell I.ok.kind G B z (λh' S f=>?_);obtain⟨oc,hoc,hocd⟩:=id z;refine h {s with heap:=h'} ⟨I.ok,I.os,I.bare,⟨λb o e n K hx=>?_,λb o e n K hx=>?_,I.base.free,λb o e hx=>?_,I.base.tups,I.base.frzs,I.base.tbls⟩,⟨m,hn.sameBut f (Ne.symm (L x c B)),λj y v' t D e3=>?_⟩,λy U e=>?_,I.free,I.freeC,λp hp=>?_,l ⟨oc,hoc,I.freeC x c B⟩ f,by simpa using I.len⟩ ⟨c,f,.inr B⟩
  ·exact(f.2 b (Bb (Bd (Aq e) (I.ok.cab x c F B)))).trans (I.base.keep b o e n K hx)
  ·obtain⟨sl,t⟩:=I.base.slot b o e n K hx;exact⟨sl,(f.2 b (Bb (Bd (Aq e) (I.ok.cab x c F B)))).trans t⟩
  ·obtain⟨o',t⟩:=I.base.there b o e hx;exact⟨o',(f.2 b (Bb (Bd (Aq e) (I.ok.cab x c F B)))).trans t⟩
  ·by_cases J:j=i
   ·subst J;rw[hi]at t;cases t;rw[List.getElem?_set_self R]at D;cases D;exact⟨u,r,.inr ⟨.inl G,c,B,S⟩⟩
   ·rw[B1 (Ne.symm J)]at D;obtain⟨Z,r',q⟩:=hl j y v' t D e3;refine⟨Z,r',?_⟩;rcases q with q|⟨k,U,e,z'⟩
    ·exact .inl q
    ·refine .inr ⟨k,U,e,z'.sameBut f ?_⟩
     rintro rfl
     exact J (HC hN t (I.ok.inj _ _ _ e B▸hi))
  ·by_cases P:U=c
   ·subst P;exact⟨_,S⟩
   ·obtain⟨w2,z2⟩:=I.cell y U e;exact⟨w2,z2.sameBut f P⟩
  ·obtain⟨e,n,T,Y,d⟩:=I.pin p hp;refine⟨(f.2 p.1 ?_).trans e,n,T,Y,d⟩;intro q;simp_all
theorem yH(I:Inv X h_ σ H s)(hN:X.N.Nodup)(hi:X.N[i]?=ae x)(hx:gB X.env.scope x)(r:RelV v u)
  (h:∀s',Inv X h_ (σ.set i (ae v)) H s'->Q () s') (hf:X.fn x=ah\/X.env.scope.names.lookup x=ae .local:=by first|exact .inl rfl|exact .inr rfl|assumption):A2 M A (storeName X.env x u) Q E s:=
 yP I hN hi hx r (λs' a _=>h s' a) hf
theorem Inv.call'(I:Inv X h_ σ H s)(ho:s'.os=s.os)(u:Un (ik X.stack) ch H H' s.heap s'.heap)(hok:HOk X.prog X.w H' s'.heap)(hg:AllBare s'.gens)
  (hch:∀b∈ch,(b∈X.ex\/X.s₀.heap.objs.size<=b)/\b≠X.env.locals/\(∀x c,X.env.cells.lookup x=ae c->c≠b)/\∀p∈X.pn++h_,p.1≠b):Inv X h_ σ H' s':=by
 obtain⟨a,_⟩:=s';subst ho;exact I.call u hok hg hch
end
abbrev XK:=Ag->Option A_->Hp->Prop
abbrev St:=List (Option V)
abbrev VK:=V->Hp->Prop
abbrev TE:=St->Hp->VK->Prop
abbrev TT:=St->Hp->(Bool->Hp->Prop)->Prop
abbrev TA:=St->Hp->(List V->Hp->Prop)->Prop
structure Ends where
 nx:St->Hp->Prop
 rt:VK
 bk:St->Hp->Prop:=λ_ _=>False
 ct:St->Hp->Prop:=λ_ _=>False
abbrev TS:=Ends->St->Hp->Prop
def EP(X:Cx)(h_:List (A_×Obj))(σ:St)(Q:VK)(u:Ag)(s':Aj):Prop:=∃v H',Inv X h_ σ H' s'/\RelV v u/\Q v H'
def TP(X:Cx)(h_:List (A_×Obj))(σ:St)(Q:Bool->Hp->Prop)(b:Bool)(s':Aj):Prop:=∃H',Inv X h_ σ H' s'/\Q b H'
def AP(X:Cx)(h_:List (A_×Obj))(σ:St)(Q:List V->Hp->Prop)(us:List Ag)(s':Aj):Prop:=∃vs H',Inv X h_ σ H' s'/\Vals vs us/\Q vs H'
def SP(X:Cx)(h_:List (A_×Obj))(D:Ends)(f:Flow)(s':Aj):Prop:=
 match f with
 |.next=>∃σ' H',Inv X h_ σ' H' s'/\D.nx σ' H'
 |.brk=>∃σ' H',Inv X h_ σ' H' s'/\D.bk σ' H'
 |.cont=>∃σ' H',Inv X h_ σ' H' s'/\D.ct σ' H'
 |.ret u=>∃v σ' H',Inv X h_ σ' H' s'/\RelV v u/\D.rt v H'
def PE(X:Cx)(e:Expr)(t:TE):Prop:=
 ∀(h_:List (A_×Obj))(s:Aj)(σ:St)(H:Hp)(Q:VK),Inv X h_ σ H s->t σ H Q->A2 (A8 X.prog X.w) X.A (eval e X.env) (EP X h_ σ Q) X.xe s
def PT(X:Cx)(e:Expr)(t:TT):Prop:=
 ∀(h_:List (A_×Obj))(s:Aj)(σ:St)(H:Hp)(Q:Bool->Hp->Prop),Inv X h_ σ H s->t σ H Q->A2 (A8 X.prog X.w) X.A (isTrue e X.env (eval e X.env)) (TP X h_ σ Q) X.xe s
def PW(X:Cx)(e:Expr)(t:TT):Prop:=
 ∀(whole:Sem Ag)(h_:List (A_×Obj))(s:Aj)(σ:St)(H:Hp)(Q:Bool->Hp->Prop),Inv X h_ σ H s->t σ H Q->A2 (A8 X.prog X.w) X.A (isTrue e X.env whole) (TP X h_ σ Q) X.xe s
theorem PW.pt(h:PW X e t):PT X e t:=h _
def PA(X:Cx)(es:List Expr)(t:TA):Prop:=
 ∀(pos:Pos)(h_:List (A_×Obj))(s:Aj)(σ:St)(H:Hp)(Q:List V->Hp->Prop),Inv X h_ σ H s->t σ H Q->A2 (A8 X.prog X.w) X.A (spliced (C6 pos (Au es X.env))) (AP X h_ σ Q) X.xe s
def PS(X:Cx)(st:Stmt)(t:TS):Prop:=
 ∀(h_:List (A_×Obj))(s:Aj)(σ:St)(H:Hp)(D:Ends),Inv X h_ σ H s->t D σ H->A2 (A8 X.prog X.w) X.A (exec st X.env) (SP X h_ D) X.xe s
def PSs(X:Cx)(st:List Stmt)(t:TS):Prop:=
 ∀(h_:List (A_×Obj))(s:Aj)(σ:St)(H:Hp)(D:Ends),Inv X h_ σ H s->t D σ H->A2 (A8 X.prog X.w) X.A (execs st X.env) (SP X h_ D) X.xe s
theorem aP(h:A2 M A t Q E s)(hQ:∀a s,Q a s->Q' a s):A2 M A t Q' E s:=De h hQ λ_ _ x=>x
section
variable{X:Cx}
theorem WV(ha:PE X a ta)(hb:PE X b tb){σ:St}{R:V->V->Hp->Prop}(I:Inv X h_ σ H s)(h:ta σ H λx H1=>tb σ H1 λy H2=>R x y H2)
   {Q:α->Aj->Prop} {f:Ag->Ag->Sem α}
  (hf:∀v u s2 x y H2,Inv X h_ σ H2 s2->RelV x v->RelV y u->R x y H2->A2 (A8 X.prog X.w) X.A (f v u) Q X.xe s2):
  A2 (A8 X.prog X.w) X.A (eval a X.env) (λv r_=>A2 (A8 X.prog X.w) X.A (eval b X.env) (λu s_=>A2 (A8 X.prog X.w) X.A (f v u) Q X.xe s_) X.xe r_) X.xe s:=by
 refine aP (ha h_ s σ H _ I h) λv g ⟨x,H1,d,i,c⟩=>aP (hb h_ g σ H1 _ d c) λu s2 w=>?_;obtain⟨y,H2,e,k,j⟩:=w;exact hf v u s2 x y H2 e i k j
def bM(i:Nat):TE:=λσ H Q=>∃v,σ[i]?=ae (ae v)/\Q v H
def tC(v:V):TE:=λ_ H Q=>Q v H
theorem eZ{pos:Pos}(hN:X.N[i]?=ae x)(hv:ej X.env.scope x)(hd:(x==("__debug__":Str))=ai:=by decide)(q_:(x==("__classdict__":Str))=ai:=by decide):PE X (.Name x pos) (bM i):=by
 intro f s σ H Q I h;obtain⟨v,e,h⟩:=h;obtain⟨m,n,j⟩:=I.loc;obtain⟨u,r,l⟩:=j i x v hN e hv;have d:EP X f σ Q u s:=⟨v,H,I,r,h⟩;rcases l with⟨b,k⟩|⟨b,c,g,a⟩
 ·exact wpAny_Name (wpAny_loadName_local I.ok.kind b n k d) hd
 ·rcases b with b|b
  ·exact wpAny_Name (wpAny_loadName_cell I.ok.kind b g a d) hd
  ·exact wpAny_Name (wpAny_loadName_free I.ok.kind b g a d q_) hd
theorem cm{i j pos}:PE X (.Constant (.int i) j pos) (tC (.int i)):=λ_ _ _ H _ I h=>wpAny_Constant_int ⟨.int i,H,I.tok _,⟨_,rfl⟩,h⟩
theorem SY{b j pos}:PE X (.Constant (.bool b) j pos) (tC (.bl b)):=λ_ _ _ H _ I h=>Constant_bool ⟨.bl b,H,I,rfl,h⟩
theorem kr{j pos}:PE X (.Constant .none j pos) (tC .non):=λ_ _ _ H _ I h=>Constant_none ⟨.non,H,I,rfl,h⟩
theorem Lh{x j pos}:PE X (.Constant (.str x) j pos) (tC (.str x)):=λ_ _ _ H _ I h=>Calls.Constant_str ⟨.str x,H,I.tok _,⟨_,rfl⟩,h⟩
def Gl(X:Cx)(x:Str):Prop:=X.env.kindOf x=ae .globalImplicit
theorem EI{σ:St}(I:Inv X h_ σ H s)(hg:Gl X x)(hm:X.mg x=ae u)(h:Q u s)
  (hd:(x==("__debug__":Str))=ai:=by decide):A2 (A8 X.prog X.w) X.A (eval (.Name x pos) X.env) Q E s:=
 Calls.Name_function_global I.ok.kind hg (Calls.loadGlobal_global (I.ok.glob▸I.mod.glob.keeps I.bk) hm h) hd
theorem lE{E:Ag->Aj->Prop}{σ:St}{pos:Pos}{Q:Ag->Aj->Prop}(I:Inv X h_ σ H s)(hg:Gl X x)(hm:X.mg x=af)(hv:Br x=ae u)(h:Q u s)
  (hn:x≠"__name__":=by decide) (hd:(x==("__debug__":Str))=ai:=by decide):A2 (A8 X.prog X.w) X.A (eval (.Name x pos) X.env) Q E s:=by
 obtain⟨c,b,a⟩:=I.mod.blt;exact Calls.Name_function_global I.ok.kind hg (Calls.loadGlobal_builtin (I.ok.glob▸I.mod.glob.keeps I.bk) hm (I.ok.blt▸b.keeps I.bk) ((a x hn).trans hv) h) hd
theorem vx(hg:Gl X x)(hm:X.mg x=ae u)(r:RelV v u)(hd:(x==("__debug__":Str))=ai:=by decide):PE X (.Name x pos) (tC v):=
 λ_ _ _ H _ I h=>EI I hg hm ⟨v,H,I,r,h⟩ hd
theorem Qo{pos:Pos}(hg:Gl X x)(hm:X.mg x=af)(hv:Br x=ae u)(r:RelV v u)(hn:x≠"__name__":=by decide)(hd:(x==("__debug__":Str))=ai:=by decide):PE X (.Name x pos) (tC v):=
 λ_ _ _ H _ I h=>lE I hg hm hv ⟨v,H,I,r,h⟩ hn hd
variable{a b:Expr}{ta tb:TE}{pos:Pos}
def PC(X:Cx)(op:CmpOp)(a b:Expr)(t:TE):Prop:=
 ∀(h_:List (A_×Obj))(s:Aj)(σ:St)(H:Hp)(Q:VK),Inv X h_ σ H s->t σ H Q->
  A2 (A8 X.prog X.w) X.A (eval a X.env) (λv r_=>A2 (A8 X.prog X.w) X.A (eval b X.env) (λu s_=>A2 (A8 X.prog X.w) X.A (Bm op v u) (EP X h_ σ Q) X.xe s_) X.xe r_) X.xe s
theorem AA(b)(h:op≠.In)(h2:op≠.NotIn):Ce op b=ai:=by
 have c:(op==CmpOp.In)=ai:=by cases op<;>first|rfl|exact f_ rfl h
 have a:(op==CmpOp.NotIn)=ai:=by cases op<;>first|rfl|exact f_ rfl h2
 cases b<;>simp[Ce,c,a]
def tB(t:TE):TT:=λσ H Q=>t σ H λx H1=>∃c,x=.bl c/\Q c H1
theorem va(h:PC X op a b t)(h1:Ce op b=ai:=by first|exact AA _ ∎ ∎|rfl):PE X (.Compare a [op] [b] pos) t:=λh_ s σ H Q I d=>wpAny_Compare1 (h h_ s σ H Q I d) h1
theorem EE(h:PC X op a b t)(h1:Ce op b=ai:=by first|exact AA _ ∎ ∎|rfl):PT X (.Compare a [op] [b] pos) (tB t):=by
 intro e s σ H Q I k;refine wpAny_isTrue_Compare1 (aP (h e s σ H _ I k) λv n h1=>aP h1 λu m f=>aP f λc o u=>?_) h1;obtain⟨x,i,j,l,g⟩:=u;obtain⟨d,rfl,q⟩:=g;cases l;exact C7 ⟨i,j,q⟩
theorem Wj(h:PE X e t)(he:∀whole,isTrue e X.env whole=(do let v <-whole;standAt e.pos;Gj [v] (truthy v)):=by intro _;rfl):PT X e (tB t):=by
 intro a s σ H Q I f;refine isTrue_plain (aP (h a s σ H _ I f) λv j u=>?_) (he _);obtain⟨x,i,c,g,b⟩:=u;obtain⟨d,rfl,q⟩:=b;cases g;exact C7 ⟨i,c,q⟩
variable{tA tB':TT}{rest:List Expr}
def oE(t u:TT):TT:=λσ H Q=>t σ H λc H1=>if c=ah then u σ H1 Q else Q ai H1
def BS(t u:TT):TT:=λσ H Q=>t σ H λc H1=>if c=ah then Q ah H1 else u σ H1 Q
def nL(t:TT):TT:=λσ H Q=>t σ H λc H1=>Q (!c) H1
theorem FH(ha:PT X a tA):PW X (.BoolOp .And [a] pos) tA:=by
 intro d b s σ H Q I h;refine isTrue_and (aP (ha b s σ H Q I h) λc f e=>?_);cases c with
 |true=>exact isTrue_and_nil e
 |false=>exact e
theorem Wh(ha:PT X a tA):PW X (.BoolOp .Or [a] pos) tA:=by
 intro d b s σ H Q I h;refine isTrue_or (aP (ha b s σ H Q I h) λc f e=>?_);cases c with
 |false=>exact isTrue_or_nil e
 |true=>exact e
theorem yy(ha:PT X a tA)(hb:PW X (.BoolOp .And (b::rest) pos) tB'):PW X (.BoolOp .And (a::b::rest) pos) (oE tA tB'):=by
 intro i d s σ H Q I h;refine isTrue_and (aP (ha d s σ H _ I h) λc j u=>?_);obtain⟨g,f,e⟩:=u;cases c with
 |true=>exact hb i d j σ g Q f e
 |false=>exact⟨g,f,e⟩
theorem K1(ha:PT X a tA)(hb:PW X (.BoolOp .Or (b::rest) pos) tB'):PW X (.BoolOp .Or (a::b::rest) pos) (BS tA tB'):=by
 intro i d s σ H Q I h;refine isTrue_or (aP (ha d s σ H _ I h) λc j u=>?_);obtain⟨g,f,e⟩:=u;cases c with
 |true=>exact⟨g,f,e⟩
 |false=>exact hb i d j σ g Q f e
theorem LG(ha:PT X a tA):PT X (.UnaryOp .Not a pos) (nL tA):=λh_ s σ H Q I h=>isTrue_not (ha h_ s σ H _ I h)
def GI(ta tb:TE):TE:=λσ H Q=>ta σ H λx H1=>∃c,x=.bl c/\if c=ah then tb σ H1 Q else Q (.bl ai) H1
def oY(ta tb:TE):TE:=λσ H Q=>ta σ H λx H1=>∃c,x=.bl c/\if c=ah then Q (.bl ah) H1 else tb σ H1 Q
def yi(ta:TE):TE:=λσ H Q=>ta σ H λx H1=>∃c,x=.bl c/\Q (.bl (!c)) H1
theorem Qa{op}(h:PE X a t):PE X (.BoolOp op [a] pos) t:=λh_ s σ H Q I c=>BoolOp_one (h h_ s σ H Q I c)
theorem Q9(ha:PE X a ta)(hb:PE X (.BoolOp .And (b::rest) pos) tb):PE X (.BoolOp .And (a::b::rest) pos) (GI ta tb):=by
 intro d s σ H Q I h;refine BoolOp_and (aP (ha d s σ H _ I h) λv j u=>?_);obtain⟨x,f,g,i,e⟩:=u;obtain⟨c,rfl,e⟩:=e;cases i;refine C7 ?_;cases c with
 |true=>exact hb d j σ f Q g e
 |false=>exact⟨.bl ai,f,g,rfl,e⟩
theorem Rl(ha:PE X a ta)(hb:PE X (.BoolOp .Or (b::rest) pos) tb):PE X (.BoolOp .Or (a::b::rest) pos) (oY ta tb):=by
 intro d s σ H Q I h;refine BoolOp_or (aP (ha d s σ H _ I h) λv j u=>?_);obtain⟨x,f,g,i,e⟩:=u;obtain⟨c,rfl,e⟩:=e;cases i;refine C7 ?_;cases c with
 |false=>exact hb d j σ f Q g e
 |true=>exact⟨.bl ah,f,g,rfl,e⟩
theorem QL(ha:PE X a ta):PE X (.UnaryOp .Not a pos) (yi ta):=by
 intro b s σ H Q I h;refine UnaryOp_ (aP (ha b s σ H _ I h) λv i u=>?_);obtain⟨x,g,e,f,d⟩:=u;obtain⟨c,rfl,d⟩:=d;cases f;exact not_of (C7 ⟨.bl _,g,e,rfl,d⟩)
def tL(t:TT)(ta tb:TE):TE:=λσ H Q=>t σ H λc H1=>if c=ah then ta σ H1 Q else tb σ H1 Q
theorem FP(hc:PT X c tA)(ha:PE X a ta)(hb:PE X b tb):PE X (.IfExp c a b pos) (tL tA ta tb):=by
 intro e s σ H Q I h;refine wpAny_IfExp (aP (hc e s σ H _ I h) λd i u=>?_);obtain⟨j,g,f⟩:=u;cases d with
 |true=>exact ha e i σ j Q g f
 |false=>exact hb e i σ j Q g f
end
def SqL(K:Af)(H:Hp)(a:A_)(xs:List V):Prop:=
 Rd H a (.lst xs) \/
  ∃(o:Obj)(i_:Array Ag)(n:Nat),K.lookup a=ae o/\o.cls=.type "list"/\o.dict=af/\o.data=.seq i_ n/\i_.size<=As/\Vals xs i_.toList
def SqT(K:Af)(H:Hp)(a:A_)(xs:List V):Prop:=
 Rd H a (.tup xs) \/
  ∃(o:Obj)(i_:Array Ag)(n:Nat),K.lookup a=ae o/\o.cls=.type "tuple"/\o.data=.seq i_ n/\i_.size<=As/\Vals xs i_.toList
def vU:Ag->Option V
 |.none=>ae .non
 |.bool b=>ae (.bl b)
 |.int i _=>ae (.int i)
 |.str x _=>ae (.str x)
 |.bytes b _=>ae (.byt b)
 |.float b _=>ae (.flt b)
 |.ref a=>ae (.ref a)
 |.type n=>ae (.ty n)
 |_=>af
theorem RelV.abs(r:RelV x u):vU u=ae x:=by
 cases x with
 |non=>cases r;rfl
 |bl _=>cases r;rfl
 |int _=>obtain⟨t,rfl⟩:=r;rfl
 |str _=>obtain⟨t,rfl⟩:=r;rfl
 |byt _=>obtain⟨t,rfl⟩:=r;rfl
 |flt _=>obtain⟨t,rfl⟩:=r;rfl
 |ref _=>cases r;rfl
 |ty _=>cases r;rfl
theorem RelV.inj(r:RelV x u)(q:RelV y u):x=y:=B2 (r.abs.symm.trans q.abs)
theorem Vals.inj:∀{xs ys:List V}{us:List Ag},Vals xs us->Vals ys us->xs=ys
 |_,_,_,.nil,.nil=>rfl
 |_,_,_,.cons r t,.cons b a=>by rw[r.inj b,Vals.inj t a]
section
variable{X:Cx}{h_:List (A_×Obj)}{σ:St}{H:Hp}{s:Aj}{a:A_}{xs ys:List V}
theorem SqL.of{K:Af}(h:H a=ae (.lst xs)):SqL K H a xs:=.inl (.inl h)
theorem SqT.of{K:Af}(h:H a=ae (.tup xs)):SqT K H a xs:=.inl (.inl h)
theorem Inv.list(I:Inv X h_ σ H s)(h:SqL X.K H a xs):∃i_:List Ag,Vals xs i_/\PlainL s.heap a i_.toArray/\xs.length<=As:=by
 rcases h with h|⟨o,i_,n,d,b,c,f,g,r⟩
 ·obtain⟨z,i_,n,r,e⟩:=h.ok I.hok;exact⟨i_,r,⟨_,n,e,rfl,rfl,rfl⟩,z⟩
 ·refine⟨_,r,⟨o,n,I.kIn a o d,b,c,by omega⟩,?_⟩;have e:=r.length;simp_all<;>omega
theorem Inv.tuple(I:Inv X h_ σ H s)(h:SqT X.K H a xs):∃i_:List Ag,Vals xs i_/\IsTup s.heap a i_.toArray/\xs.length<=As:=by
 rcases h with h|⟨o,i_,n,c,b,d,f,r⟩
 ·obtain⟨z,i_,r,p⟩:=h.ok I.hok;exact⟨i_,r,p.tup,z⟩
 ·refine⟨_,r,⟨o,I.kIn a o c,b,n,by omega⟩,?_⟩;have e:=r.length;simp_all<;>omega
theorem Inv.list_inj(I:Inv X h_ σ H s)(h:SqL X.K H a xs)(h':SqL X.K H a ys):xs=ys:=by
 obtain⟨j,r,⟨o,n,e,_,_,d⟩,_⟩:=I.list h;obtain⟨b,g,⟨k,l,c,_,_,f⟩,_⟩:=I.list h';rw[e]at c;cases c;rw[d]at f;injection f with i _;have:=by simpa using congrArg Array.toList i
 subst this;exact r.inj g
theorem Inv.tuple_inj(I:Inv X h_ σ H s)(h:SqT X.K H a xs)(h':SqT X.K H a ys):xs=ys:=by
 obtain⟨j,r,⟨o,e,_,n,d⟩,_⟩:=I.tuple h;obtain⟨b,g,⟨k,c,_,l,f⟩,_⟩:=I.tuple h';rw[e]at c;cases c;rw[d]at f;injection f with i _;have:=by simpa using congrArg Array.toList i
 subst this;exact r.inj g
end
abbrev Cx.wish(X:Cx)(E:Ag->Aj->Prop):Cx:={ X with xe:=E}
abbrev Cx.nox(X:Cx):Cx:=X.wish λ_ _=>False
theorem Cx.Ok.wish{X:Cx}(ok:X.Ok)(E):(X.wish E).Ok:=
 ⟨ok.mod,ok.kind,ok.glob,ok.blt,ok.above,ok.inj,ok.has,ok.cab,ok.hd,ok.frames,ok.stk,ok.exf,ok.bs,ok.bsz,ok.noex,ok.exfs,ok.funs,ok.frf⟩
theorem Cx.Ok.unwish{X:Cx}(ok:(X.wish E).Ok):X.Ok:=
 ⟨ok.mod,ok.kind,ok.glob,ok.blt,ok.above,ok.inj,ok.has,ok.cab,ok.hd,ok.frames,ok.stk,ok.exf,ok.bs,ok.bsz,ok.noex,ok.exfs,ok.funs,ok.frf⟩
section
variable{X:Cx}{h_:List (A_×Obj)}{σ:St}{H:Hp}{s:Aj}{E:Ag->Aj->Prop}
theorem Inv.wish(I:Inv X h_ σ H s)(E):Inv (X.wish E) h_ σ H s:=⟨I.ok.wish E,I.os,I.bare,I.base,I.loc,I.cell,I.free,I.freeC,I.pin,I.hok,I.len⟩
theorem Inv.unwish(I:Inv (X.wish E) h_ σ H s):Inv X h_ σ H s:=⟨I.ok.unwish,I.os,I.bare,I.base,I.loc,I.cell,I.free,I.freeC,I.pin,I.hok,I.len⟩
theorem SP.unwish(h:SP (X.wish E) h_ D f s'):SP X h_ D f s':=by
 cases f with
 |next=>obtain⟨b,a,I,q⟩:=h;exact⟨b,a,I.unwish,q⟩
 |brk=>obtain⟨b,a,I,q⟩:=h;exact⟨b,a,I.unwish,q⟩
 |cont=>obtain⟨b,a,I,q⟩:=h;exact⟨b,a,I.unwish,q⟩
 |ret u=>obtain⟨v,b,a,I,r,q⟩:=h;exact⟨v,b,a,I.unwish,r,q⟩
theorem PSs.nox{st:List Stmt}(h:PSs X.nox st t):PSs X st t:=λh_ s σ H D I b=>
 De (h h_ s σ H D (I.wish _) b) (λ_ _ q=>q.unwish) λ_ _=>False.elim
end
section
variable{X:Cx}{st:Stmt}{rest:List Stmt}{t u:TS}{e:Expr}{te:TE}{pos:Pos}
def HM:TS:=λD σ H=>D.nx σ H
def nM(t u:TS):TS:=λD σ H=>t {D with nx:=u D} σ H
theorem qt:PSs X [] HM:=λ_ _ σ H _ I h=>wpAny_execs_nil ⟨σ,H,I,h⟩
theorem gK(h1:PS X st t)(h2:PSs X rest u):PSs X (st::rest) (nM t u):=by
 intro a s σ H D I h;refine wpAny_execs_cons (aP (h1 a s σ H {D with nx:=u D} I h) λf k q=>?_);cases f with
 |next=>
  obtain⟨e,i,j,q⟩:=q;exact h2 a k e i D j q
 |ret v=>exact q
 |brk=>exact q
 |cont=>exact q
theorem mG(h1:PS X st t):PSs X [st] t:=by
 intro a s σ H D I h;refine wpAny_execs_cons (aP (h1 a s σ H D I h) λf g q=>?_);cases f with
 |next=>exact wpAny_execs_nil q
 |ret v=>exact q
 |brk=>exact q
 |cont=>exact q
theorem Inv.quiet{σ:St}(I:Inv X h_ σ H s):interactive X.env=ai:=by simp[interactive,I.ok.kind]
def nT(te:TE):TS:=λD σ H=>te σ H λ_ H1=>D.nx σ H1
theorem qj(he:PE X e te)(hs:Cp e af pos.line X.env=pure ai:=by rfl):PS X (.Expr e pos) (nT te):=λh_ s σ H D I h=>wpAny_Expr_any (aP (he h_ s σ H _ I h) λv f u=>by obtain⟨x,d,b,g,c⟩:=u;exact ⟨σ,d,b,c⟩) I.quiet hs
def jc(te:TE):TS:=λD σ H=>te σ H D.rt
theorem lQ(he:PE X e te):PS X (.Return (ae e) pos) (jc te):=λh_ s σ H D I h=>wpAny_Return_some (aP (he h_ s σ H _ I h) λv g u=>by obtain⟨x,f,b,d,c⟩:=u;exact ⟨x,σ,f,b,d,c⟩)
def pz(c:TT)(t u:TS):TS:=λD σ H=>c σ H λb H1=>if b=ah then t D σ H1 else u D σ H1
theorem qK(hc:PT X c tc)(ha:PSs X a t)(hb:PSs X b u):PS X (.If c a b pos) (pz tc t u):=by
 intro e s σ H D I h;refine wpAny_If (aP (hc e s σ H _ I h) λd i u=>?_);obtain⟨j,g,f⟩:=u;cases d with
 |true=>exact ha e i σ j D g f
 |false=>exact hb e i σ j D g f
end
abbrev TG:=V->St->Hp->(St->Hp->Prop)->Prop
abbrev fW:=List V->St->Hp->(St->Hp->Prop)->Prop
def PG(X:Cx)(target:Expr)(t:TG):Prop:=
 ∀(h_:List (A_×Obj))(s:Aj)(σ:St)(H:Hp)(v:V)(u:Ag)(Q:St->Hp->Prop),Inv X h_ σ H s->RelV v u->t v σ H Q->
  A2 (A8 X.prog X.w) X.A (assign target X.env u) (λ_ s'=>∃σ' H',Inv X h_ σ' H' s'/\Q σ' H') X.xe s
def mr(X:Cx)(ts:List Expr)(t:fW):Prop:=
 ∀(h_:List (A_×Obj))(s:Aj)(σ:St)(H:Hp)(vs:List V)(us:List Ag)(Q:St->Hp->Prop),Inv X h_ σ H s->Vals vs us->t vs σ H Q->
  A2 (A8 X.prog X.w) X.A (assignInOrder ((Cj ts X.env).map (·.2)) us) (λ_ s'=>∃σ' H',Inv X h_ σ' H' s'/\Q σ' H') X.xe s
abbrev kP:=V->V->V->Hp->(Hp->Prop)->Prop
def pE(X:Cx)(t:kP):Prop:=
 ∀(h_:List (A_×Obj))(s:Aj)(σ:St)(H:Hp)(o i v:V)(ov iv u:Ag)(Q:Hp->Prop),Inv X h_ σ H s->RelV o ov->RelV i iv->RelV v u->t o i v H Q->
  A2 (A8 X.prog X.w) X.A (setItem ov iv u) (λ_ s'=>∃H',Inv X h_ σ H' s'/\Q H') X.xe s
section
variable{X:Cx}{pos:Pos}
def fc(i:Nat):TG:=λv σ H Q=>Q (σ.set i (ae v)) H
theorem MP(hN:X.N.Nodup)(hi:X.N[i]?=ae x)(hx:gB X.env.scope x)(hf:X.fn x=ah\/X.env.scope.names.lookup x=ae .local:=by first|exact .inl rfl|exact .inr rfl|assumption):PG X (.Name x pos) (fc i):=λh_ s σ H v u Q I r h=>wpAny_assign_Name (yH I hN hi hx r (λs' a=>⟨_,H,a,h⟩) hf)
def nW:fW:=λvs σ H Q=>vs=[]/\Q σ H
def yq(t:TG)(u:fW):fW:=λvs σ H Q=>∃v r,vs=v::r/\t v σ H λσ' H'=>u r σ' H' Q
theorem L5:mr X [] nW:=by
 intro a s σ H b c Q I r h;obtain⟨e,h⟩:=h;subst e;cases r;exact assignInOrder_nil ⟨σ,H,I,h⟩
theorem Ul(h1:PG X e t)(h2:mr X es u)
  (hs:(Cj (e::es) X.env).map (·.2)=assign e X.env::(Cj es X.env).map (·.2):=by rfl):mr X (e::es) (yq t u):=by
 intro a s σ H k m Q I r h;obtain⟨v,l,j,h⟩:=h;subst j;cases r with
 |cons r c=>
  rw[hs];exact assignInOrder_cons (aP (h1 a s σ H _ _ _ I r h) λ_ i u=>by obtain⟨g,d,f,b⟩:=u;exact h2 a i g d _ _ Q f c b)
def lj(K:Af)(n:Nat)(t:fW):TG:=λv σ H Q=>∃a xs,v=.ref a/\SqT K H a xs/\xs.length=n/\t xs σ H Q
theorem KD{k:Nat}(hc:X.calm=ah)(h:mr X es t)
  (hn:(Cj es X.env).length=n:=by rfl) (hst:(Cj es X.env).findIdx? (·.1)=af:=by rfl):PG X (.Tuple es k pos) (lj X.K n t):=by
 intro c s σ H v u Q I r d;obtain⟨a,p,y,l,g,d⟩:=d;subst y;cases r;obtain⟨w,j,i,z⟩:=I.tuple l;refine assign_Tuple_tuple (I.ok.hd hc) i (by simp[hn,<-g,j.length]) hst λh' q=>?_;have m:Inv X c σ H {s with heap:=h'}:=I.kept λb o e=>q b o (Bb (Aq e)) e;exact h c _ σ H p _ Q m ⋯ d
def i7(to ti:TE)(t:kP):TG:=λv σ H Q=>to σ H λo H1=>ti σ H1 λi H2=>t o i v H2 λH3=>Q σ H3
theorem oU(ho:PE X o to)(hi:PE X i ti)(hs:pE X t)
  (ha:∀v,assign (.Subscript o i pos) X.env v=(do
   let ov <-Gj [v] (eval o X.env)
   let iv <-Gj [v,ov] (eval i X.env)
   standAt pos
   Gj [v,ov,iv] (setItem ov iv v)
   release [v,ov,iv] []):=by intro _;rfl):PG X (.Subscript o i pos) (i7 to ti t):=by
 intro a s σ H v u Q I r h;refine Aa (Bt (aP (ho a s σ H _ I h) λov p ⟨x,g,k,m,e⟩=>Aa (Bt (aP (hi a p σ g _ k e) λiv l z=>?_))));obtain⟨y,f,b,n,c⟩:=z;exact Aa (G1 (Aa (Bt (aP (hs a l σ f x y v ov iv u _ b m n r c) λ_ w i=>by obtain⟨d,j,q⟩:=i;exact wpAny_release ⟨σ,d,j,q⟩))))
def bX(te:TE)(g:TG):TS:=λD σ H=>te σ H λx H1=>g x σ H1 D.nx
theorem kU(he:PE X e te)(hg:PG X tg g)(hs:swapsWithSole [tg] e pos.line X.env=pure ai:=by rfl)(hw:swappedStores [tg] e X.env=pure af:=by rfl)
  (h1:(Cj [tg] X.env).map (·.2)=[assign tg X.env]:=by rfl):PS X (.Assign [tg] e pos) (bX te g):=by
 intro a s σ H D I h;refine wpAny_Assign_stores (aP (he a s σ H _ I h) λv d u=>?_) hs hw;obtain⟨x,i,b,f,c⟩:=u;rw[h1];exact aP (hg a d σ i x v _ b f c) λ_ j q=>q
theorem gx(hN:X.N.Nodup)(hi:X.N[i]?=ae x)(hx:gB X.env.scope x)(he:PE X e te)(hs:Cp e (ae (.Name x pos')) pos.line X.env=pure ai:=by rfl)(hf:X.fn x=ah\/X.env.scope.names.lookup x=ae .local:=by first|exact .inl rfl|exact .inr rfl|assumption):
  PS X (.Assign [.Name x pos'] e pos) (bX te (fc i)):=λh_ s σ H D I h=>wpAny_Assign_Name (aP (he h_ s σ H _ I h) λv j u=>by obtain⟨y,g,c,f,b⟩:=u;exact yH c hN hi hx f (λs2 d=>⟨_,g,d,b⟩) hf) hs
end
section
variable{X:Cx}{pos:Pos}
def EK(c:TT)(tb:TS):TS:=λD σ H=>∃W:Nat->St->Hp->Prop,(∃m,W m σ H)/\∀m σ H,W m σ H->
 c σ H λb H1=>if b=ah then ∃N:St->Hp->Prop,(∀σ' H',N σ' H'->∃m',m' < m/\W m' σ' H')/\tb {D with nx:=N,ct:=N,bk:=D.nx} σ H1 else D.nx σ H1
theorem MK(hp:PassesOwn (A8 X.prog X.w) X.A X.env X.xe)(hc:PT X c tc)(hb:PSs X body tb):PS X (.While c body [] pos) (EK tc tb):=by
 intro a s σ H D I h;obtain⟨W,⟨G,E⟩,e⟩:=h;refine wpAny_While (codeAny_whileLoop (λn L=>∃σ' H',Inv X a σ' H' L/\W n σ' H') ?_ G ⟨σ,H,I,E⟩)
 rintro n M ⟨j,y,J,B⟩
 refine Fp hp (aP (hc a M j y _ J (e n j y B)) λb K w=>?_);obtain⟨t,r,i⟩:=w;cases b with
 |true=>
  obtain⟨N,u,i⟩:=i;refine Fp hp (aP (hb a K j t _ r i) λf O k=>?_);cases f with
  |next=>
   obtain⟨g,d,p,m⟩:=k;obtain⟨q,o,l⟩:=u g d m;exact⟨q,o,g,d,p,l⟩
  |cont=>
   obtain⟨g,d,p,m⟩:=k;obtain⟨q,o,l⟩:=u g d m;exact⟨q,o,g,d,p,l⟩
  |brk=>exact k
  |ret v=>exact k
 |false=>
  exact wpAny_execs_nil ⟨j,t,r,i⟩
end
structure It where
 go:Nat->Hp->Prop
 yld:Nat->Hp->V->Hp->Prop
 stop:Nat->Hp->Prop
def cO(X:Cx)(h_:List (A_×Obj))(H:Hp)(b:A_):Prop:=
 H b=af/\b≠X.env.locals/\b∉X.fs/\(b∈X.ex\/X.s₀.heap.objs.size<=b)/\(∀x c,X.env.cells.lookup x=ae c->c≠b)/\∀p∈X.pn++h_,p.1≠b
theorem Inv.fpOk{σ:St}{b:A_}(I:Inv X h_ σ H s)(hb:s.heap.objs.size<=b)(hn:H' b=af):cO X h_ H' b:=by
 refine⟨hn,Ec (Bd I.lt hb),I.nofs hb,.inr (A5 I.sz hb),λx c e z=>?_,λp a z=>?_⟩
 ·obtain⟨v,q⟩:=I.cell x c e;exact f_ (Bd q.lt (by simp_all)) (Nat.lt_irrefl _)
 ·exact f_ (Bd (Aq (I.pin p a).1) (by simp_all)) (Nat.lt_irrefl _)
structure Turn(P:A9)(w:Bj)(K:Af)(tg:Expr)(J:It)(fp:List A_)(it:A_)(tn:Nat->Heap->Prop):Prop where
 mem:it∈fp
 obj:∀i h,tn i h->∀b∈fp,∃o,h.get? b=ae o/\∀v,o.data≠.cell v
 keep:∀i h h',tn i h->(∀b∈fp,∀o,h.get? b=ae o->h'.get? b=ae o)->tn i h'
 item:∀(X:Cx),X.prog=P->X.w=w->X.K=K->X.calm=ah->∀(i:Nat)(h_:List (A_×Obj))(s:Aj)(σ:St)(H:Hp)(E:Ag->Aj->Prop),Inv X h_ σ H s->(∀b∈fp,cO X h_ H b)->tn i s.heap->J.go i H->
  A2 (A8 P w) X.A (pyNext (.ref it)) (λr s1=>∃u,r=ae u /\
   A2 (A8 P w) X.A (letOwnedTupleGo tg (.ref it) u) (λ_ s2=>∃x H',Inv X h_ σ H' s2/\RelV x u/\J.yld i H x H'/\tn (i+1) s2.heap/\∀b∈fp,H' b=af) E s1) E s
 done:∀(X:Cx),X.prog=P->X.w=w->X.K=K->X.calm=ah->∀(i:Nat)(h_:List (A_×Obj))(s:Aj)(σ:St)(H:Hp)(E:Ag->Aj->Prop),Inv X h_ σ H s->(∀b∈fp,cO X h_ H b)->tn i s.heap->J.stop i H->
  A2 (A8 P w) X.A (pyNext (.ref it)) (λr s1=>r=af/\Inv X h_ σ H s1) E s
 self:∀(A:Bn)(i:Nat)(s:Aj)(Q:Ag->Aj->Prop)(E:Ag->Aj->Prop),tn i s.heap->Q (.ref it) s->A2 (A8 P w) A (pyIter (.ref it)) Q E s
abbrev TI:=St->Hp->(It->Hp->Prop)->Prop
def CB(X:Cx)(h_:List (A_×Obj))(σ:St)(tg:Expr)(R:It->Hp->Prop)(itv:Ag)(s2:Aj):Prop:=
 ∃(it:A_)(fp:List A_)(tn:Nat->Heap->Prop)(J:It)(H':Hp),itv=.ref it/\Inv X h_ σ H' s2/\Turn X.prog X.w X.K tg J fp it tn/\tn 0 s2.heap/\(∀b∈fp,cO X h_ H' b)/\R J H'
def PI(X:Cx)(tg iter:Expr)(wi:TI):Prop:=
 ∀(h_:List (A_×Obj))(s:Aj)(σ:St)(H:Hp)(R:It->Hp->Prop),Inv X h_ σ H s->wi σ H R->
  A2 (A8 X.prog X.w) X.A (eval iter X.env) (λv s1=>A2 (A8 X.prog X.w) X.A (pyIter v) (CB X h_ σ tg R) X.xe s1) X.xe s
theorem om(ho:s.heap.get? it=ae o)(hc:o.cls=.type n)(hd:o.data=.fields vs)
  (hn:["enumerate","zip","dict_itemiterator","dict_reverseitemiterator","odict_iterator","itertools.zip_longest","itertools.pairwise"].contains n=ai) (hQ:Q () s):A2 M A (letOwnedTupleGo tg (.ref it) u) Q E s:=by
 cases tg<;>first
  |exact Ah hQ
  | (cases u<;>first
    |exact Ah hQ
    | (refine Aa (wpAny_load ho ?_)
       rw[hc,hd];show A2 M A (if _=ah then _ else _) Q E s;rw[a_ (by intro h;rw[hn]at h;cases h)];exact Ah hQ))
def xF(K:Af)(a:A_):It:=
 ⟨λi H=>∃xs x,SqL K H a xs/\xs[i]?=ae x,λi H x H'=>H'=H/\∀xs,SqL K H a xs->xs[i]?=ae x,λi H=>∃xs,SqL K H a xs/\xs.length<=i⟩
def EJ(K:Af)(a:A_):It:=
 ⟨λi H=>∃xs x,SqT K H a xs/\xs[i]?=ae x,λi H x H'=>H'=H/\∀xs,SqT K H a xs->xs[i]?=ae x,λi H=>∃xs,SqT K H a xs/\xs.length<=i⟩
def r4(lo:Int)(n:Nat):It:=⟨λi _=>i < n,λi H x H'=>H'=H/\x=.int (lo+i),λi _=>n<=i⟩
theorem MA{K:Af}(a it):Turn P w K tg (xF K a) [it] it (λi h=>h.IsListIter it a i) where
 mem:=by simp
 obj:=λi h f b j=>by
  have e:b=it:=by simp_all
  subst e;obtain⟨o,e,c,d⟩:=f;exact⟨o,e,λv z=>by simp_all⟩
 keep:=λi h h' f k=>f.at (k it (by simp))
 item:=by
  intro X r B F N i g s σ H E I n f q;subst r B F;obtain⟨T,x,m,L⟩:=q;obtain⟨D,A,p,R⟩:=I.list m;obtain⟨u,Y,V⟩:=A.get L;obtain⟨y,C,Q,t,J,G⟩:=n it (by simp);refine wpAny_pyNext_list_item f p.isList (by simpa using Y) λh' l Z=>?_;have S:Inv X g σ H {s with heap:=h'}:=I.turned (λb o j=>(Z.2 b j).trans) y C t J G;obtain⟨o,e,c,d⟩:=id l;exact⟨u,rfl,om e c d ∎ ⟨x,H,S,V,⟨rfl,λys U=>by rw[I.list_inj U m];omega⟩,l,λb j=>(n b j).1⟩⟩
 done:=by
  intro X r B F N i g s σ H E I n f q;subst r B F;obtain⟨T,m,L⟩:=q;obtain⟨D,A,p,R⟩:=I.list m;obtain⟨y,C,Q,t,J,G⟩:=n it (by simp);have hl:=A.length;exact wpAny_pyNext_list_end (I.ok.hd N) f p.isList (by simp;omega) λh' O=>⟨rfl,I.turned (O) y C t J G⟩
 self:=λ_ _ _ _ _=>wpAny_pyIter_listiter
theorem Ky{K:Af}(a it):Turn P w K tg (EJ K a) [it] it (λi h=>h.IsTupleIter it a i) where
 mem:=by simp
 obj:=λi h f b j=>by
  have e:b=it:=by simp_all
  subst e;obtain⟨o,e,c,d⟩:=f;exact⟨o,e,λv z=>by simp_all⟩
 keep:=λi h h' f k=>f.at (k it (by simp))
 item:=by
  intro X r B F N i g s σ H E I n f q;subst r B F;obtain⟨T,x,m,L⟩:=q;obtain⟨D,A,p,R⟩:=I.tuple m;obtain⟨u,Y,V⟩:=A.get L;obtain⟨y,C,Q,t,J,G⟩:=n it (by simp);refine wpAny_pyNext_tuple_item f (p) (by simpa using Y) λh' l Z=>?_;have S:Inv X g σ H {s with heap:=h'}:=I.turned (λb o j=>(Z.2 b j).trans) y C t J G;obtain⟨o,e,c,d⟩:=id l;exact⟨u,rfl,om e c d ∎ ⟨x,H,S,V,⟨rfl,λys U=>by rw[I.tuple_inj U m];omega⟩,l,λb j=>(n b j).1⟩⟩
 done:=by
  intro X r B F N i g s σ H E I n f q;subst r B F;obtain⟨T,m,L⟩:=q;obtain⟨D,A,p,R⟩:=I.tuple m;obtain⟨y,C,Q,t,J,G⟩:=n it (by simp);have hl:=A.length;exact wpAny_pyNext_tuple_end (I.ok.hd N) f (p) (by simp;omega) λh' O=>⟨rfl,I.turned (O) y C t J G⟩
 self:=λ_ _ _ _ _=>wpAny_pyIter_tupleiter
theorem O3{K:Af}(it)(lo)(n):Turn P w K tg (r4 lo n) [it] it (λi h=>IsRangeIter h it (lo+(i:Nat)*1) ((n:Int)-(i:Nat)) 1) where
 mem:=by simp
 obj:=λi h a b d=>by
  have e:b=it:=by simp_all
  subst e;exact⟨_,a,λv z=>by
   trivial⟩
 keep:=λi h C a k=>k it (by simp) _ a
 item:=by
  intro X x y B q i c s σ H E I g a j;subst x y B;obtain⟨m,p,F,l,u,r⟩:=g it (by simp);refine(Walks.range (prog:=X.prog) (w:=X.w) (I.ok.hd q) it lo 1 n).item i s _ _ j a λv C G L f M=>?_;obtain⟨t,rfl⟩:=L;have J:Inv X c σ H {s with heap:=C,toks:=G}:=I.turned (λb o d=>M b o (by simpa using d)) m p l u r;refine⟨_,rfl,om f rfl rfl ∎ ⟨.int _,H,J,⟨t,?_⟩,⟨rfl,rfl⟩,f,λb d=>(g b d).1⟩⟩;simp
 done:=by
  intro X x y B q i c s σ H E I g a j;obtain⟨m,p,F,l,u,r⟩:=g it (by simp);exact wpAny_pyNext_range_end (I.ok.hd q) a (by have:n<=i:=j;omega) λh' D=>⟨rfl,I.turned (D) m p l u r⟩
 self:=λ_ _ _ _ _=>wpAny_pyIter_rangeiter
section
variable{X:Cx}{tg:Expr}
def u9(K:Af)(tl:TE):TI:=λσ H R=>tl σ H λx H1=>∃a,x=.ref a/\(∃xs,SqL K H1 a xs)/\R (xF K a) H1
def kx(K:Af)(tl:TE):TI:=λσ H R=>tl σ H λx H1=>∃a,x=.ref a/\(∃xs,SqT K H1 a xs)/\R (EJ K a) H1
theorem Te(hl:PE X l tl):PI X tg l (u9 X.K tl):=by
 intro c s σ H R I h;refine aP (hl c s σ H _ I h) λv m v=>?_;obtain⟨x,i,d,j,f⟩:=v;obtain⟨a,e,⟨t,g⟩,q⟩:=f;subst e;cases j;obtain⟨k,n,p,r⟩:=d.list g;refine wpAny_pyIter_list p.isList ⟨_,_,_,_,i,rfl,d.kept λb o=>Ae _,MA a _,⟨_,Ar _ rfl,rfl,rfl⟩,λb u=>?_,q⟩;have e:b=m.heap.objs.size:=by simp_all
 subst e;exact d.fpOk (by simp) (d.hok.fresh (by simp))
theorem N9(hl:PE X l tl):PI X tg l (kx X.K tl):=by
 intro c s σ H R I h;refine aP (hl c s σ H _ I h) λv m v=>?_;obtain⟨x,i,d,j,f⟩:=v;obtain⟨a,e,⟨t,g⟩,q⟩:=f;subst e;cases j;obtain⟨k,n,p,r⟩:=d.tuple g;refine Dx (p) ⟨_,_,_,_,i,rfl,d.kept λb o=>Ae _,Ky a _,⟨_,Ar _ rfl,rfl,rfl⟩,λb u=>?_,q⟩;have e:b=m.heap.objs.size:=by simp_all
 subst e;exact d.fpOk (by simp) (d.hok.fresh (by simp))
theorem Ll{σ:St}{lo hi:Int}(I:Inv X h_ σ H s)(h1:-(2 ^ 62)<=lo)(h2:lo < 2 ^ 62)(h3:-(2 ^ 62)<=hi)(h4:hi < 2 ^ 62)
  (q:R (r4 lo (hi-lo).toNat) H):A2 (A8 X.prog X.w) X.A (pyIter (.ref s.heap.objs.size)) (CB X h_ σ tg R) E {s with heap:=s.heap.push {cls:=.type "range",data:=.fields #[.int lo t,.int hi u,.int 1 v]},toks:=tk}:=by
 refine wpAny_pyIter_range (IsRange.new ..) (small_one h1 h2 h3 h4) ?_;have a:Inv X h_ σ H {s with heap:=s.heap.push {cls:=.type "range",data:=.fields #[.int lo t,.int hi u,.int 1 v]},toks:=tk}:=I.kept λb o=>Ae _;refine⟨_,_,_,_,H,rfl,
  a.kept λb o=>Ae _,O3 _ lo (hi-lo).toNat,?_,λb d=>?_,q⟩
 ·have f:lo+((0:Nat):Int)*1=lo:=by simp
  have c:(((hi-lo).toNat:Nat):Int)-((0:Nat):Int)=Builtin.Range.rangeSize lo hi 1:=by rw[rangeSize_one];grind
  rw[f,c];exact Ar _ rfl
 ·have e:b=(s.heap.push {cls:=.type "range",data:=.fields #[.int lo t,.int hi u,.int 1 v]}).objs.size:=by simpa using d
  subst e;exact a.fpOk (by simp) (a.hok.fresh (by simp))
def FY(ta:TA):TI:=λσ H R=>ta σ H λvs H1=>∃j:Int,vs=[.int j]/\-(2 ^ 62)<=j/\j < 2 ^ 62/\R (r4 0 j.toNat) H1
theorem PZ(hg:Gl X "range")(hm:X.mg "range"=af)(ha:PA X [a] ta)(hs:Au [a] X.env=[(ai,eval a X.env)]:=by rfl):PI X tg (.Call (.Name "range" p) [a] [] pos) (FY ta):=by
 intro b s σ H R I h;refine Call_ (lE I hg hm boot_range (Du (aP (ha pos b s σ H _ I h) λus m u=>?_) hs rfl));obtain⟨k,l,g,i,c⟩:=u;obtain⟨j,e,c,d,q⟩:=c;subst e;cases i with
 |cons r f=>
  cases f;obtain⟨t,rfl⟩:=r;exact call_range_1 (Ll g ⋯ ⋯ c d (by simpa using q))
def nR(wi:TI)(g:TG)(tb:TS):TS:=λD σ H=>wi σ H λJ H1=>∃W:Nat->Nat->St->Hp->Prop,(∃m,W 0 m σ H1)/\∀i m σ H,W i m σ H->
 (J.stop i H/\D.nx σ H)\/(J.go i H/\∃N:St->Hp->Prop,(∀σ' H',N σ' H'->∃m',m' < m/\W (i+1) m' σ' H')/\∀x H',J.yld i H x H'->g x σ H' λσ2 H2=>tb {D with nx:=N,ct:=N,bk:=D.nx} σ2 H2)
def qG(fp:List A_)(h:Heap):List (A_×Obj):=fp.filterMap λb=>(h.get? b).map λo=>(b,o)
theorem qL(hb:b∈fp)(e:h.get? b=ae o):(b,o)∈qG fp h:=G5.mpr ⟨b,hb,e▸rfl⟩
theorem Pf(hp:p∈qG fp h):p.1∈fp/\h.get? p.1=ae p.2:=by
 obtain⟨b,a,e⟩:=G5.mp hp;cases q:h.get? b with
 |none=>rw[q]at e;cases e
 |some o=>
  rw[q]at e;have c:=B2 e;subst c;exact⟨a,q⟩
theorem Inv.pinned{σ:St}(I:Inv X h_ σ H s)(hf:∀b∈fp,cO X h_ H b)(ho:∀b∈fp,∃o,s.heap.get? b=ae o/\∀v,o.data≠.cell v):Inv X (h_++qG fp s.heap) σ H s:=
 I.pins_of λp f=>(A1.mp f).elim (λz=>I.pin p (Bw _ z)) λz=>by
  obtain⟨a,e⟩:=Pf z;obtain⟨h,g,i,_⟩:=hf p.1 a;obtain⟨o,c,d⟩:=ho p.1 a;simp_all<;>omega
theorem Inv.unpinned{σ:St}(I:Inv X (h_++pl) σ H s):Inv X h_ σ H s:=I.pins_of λp a=>I.pin p (Bw _ (Ep _ a))
theorem NV(hp:PassesOwn (A8 X.prog X.w) X.A X.env X.xe)(hc:X.calm=ah)(hi:PI X tg iter wi)(hg:PG X tg g)(hb:PSs X body tb)
  (hs:∀x,Ea iter X.env x=pure x:=by intro _;rfl):PS X (.For tg iter body [] pos) (nR wi g tb):=by
 intro c s σ H D I h;refine wpAny_For (aP (hi c s σ H _ I h) λv s1 h1=>aP h1 λitv s2 h2=>?_) hs;obtain⟨it,P,tn,J,H2,e,I2,T,U,f2,W,⟨m0,w0⟩,L⟩:=h2;subst e
 have t:∀{y:Hp},(∀b∈P,y b=af)->∀b∈P,cO X c y b:=λhn b hb=>⟨hn b hb,(f2 b hb).2⟩;refine codeAny_forLoop_any (λn s'=>∃i σ' y,Inv X c σ' y s'/\tn i s'.heap/\(∀b∈P,y b=af)/\W i n σ' y) ?_ m0 ⟨0,σ,H2,I2,U,λb hb=>(f2 b hb).1,w0⟩
 rintro n s3 ⟨i,M,Q,Z,K,C,w3⟩
 rcases L i n M Q w3 with⟨G,qn⟩|⟨go,N,hN,O⟩
 ·refine Fp hp (aP (T.done X rfl rfl rfl hc i c s3 M Q X.xe Z (t C) K G) λr s4 w=>?_);obtain⟨S,I4⟩:=w;subst S;exact wpAny_execs_nil ⟨M,Q,I4,qn⟩
 ·refine Fp hp (aP (T.item X rfl rfl rfl hc i c s3 M Q X.xe Z (t C) K go) λr s4 a=>?_);obtain⟨u,S,h4⟩:=a;subst S;refine Fp hp (aP h4 λ_ s5 g=>?_);obtain⟨x,Y,I5,r5,y5,B,V⟩:=g;refine Fp hp (aP (hg _ s5 M Y x u _ (I5.pinned (t V) (T.obj _ _ B)) r5 (O x Y y5)) λ_ s6 ⟨σ6,H6,I6,q6⟩=>Fp hp (aP (hb _ s6 σ6 H6 _ I6 q6) λf R z=>?_));have p:∀{l:St}{q:Hp},Inv X _ l q R->N l q->∃m,m < n/\∃i σ' y,Inv X c σ' y R/\tn i R.heap/\(∀b∈P,y b=af)/\W i m σ' y:=λ{l q} k E=>by
   obtain⟨m',hm,w7⟩:=hN l q E;refine⟨m',hm,i+1,l,q,k.unpinned,T.keep _ _ _ B λb hb o e=>(k.pin _ (Bw _ (Bw _ (qL hb e)))).1,λb hb=>?_,w7⟩;obtain⟨o,e,d⟩:=T.obj _ _ B b hb;exact(k.pin _ (Bw _ (Bw _ (qL hb e)))).2.1
  cases f with
  |next=>obtain⟨l,q,k,E⟩:=z;exact p k E
  |cont=>obtain⟨l,q,k,E⟩:=z;exact p k E
  |brk=>obtain⟨l,q,k,z⟩:=z;exact⟨l,q,k.unpinned,z⟩
  |ret v=>obtain⟨x7,l,q,k,r7,z⟩:=z;exact⟨x7,l,q,k.unpinned,r7,z⟩
end
abbrev R2:=V->V->Hp->VK->Prop
def OpR(X:Cx)(f:Ag->Ag->Sem Ag)(r:R2):Prop:=
 ∀(h_:List (A_×Obj))(s:Aj)(σ:St)(H:Hp)(x y:V)(v u:Ag)(Q:VK),Inv X h_ σ H s->RelV x v->RelV y u->r x y H Q->
  A2 (A8 X.prog X.w) X.A (f v u) (EP X h_ σ Q) X.xe s
def v8(X:Cx)(f:Ag->Sem Ag)(r:V->Hp->VK->Prop):Prop:=
 ∀(h_:List (A_×Obj))(s:Aj)(σ:St)(H:Hp)(x:V)(v:Ag)(Q:VK),Inv X h_ σ H s->RelV x v->r x H Q->
  A2 (A8 X.prog X.w) X.A (f v) (EP X h_ σ Q) X.xe s
def CallR(X:Cx)(f:Ag)(r:List V->Hp->VK->Prop):Prop:=
 ∀(h_:List (A_×Obj))(s:Aj)(σ:St)(H:Hp)(xs:List V)(us:List Ag)(Q:VK),Inv X h_ σ H s->Vals xs us->r xs H Q->
  A2 (A8 X.prog X.w) X.A (call f us) (EP X h_ σ Q) X.xe s
def dQ(r:R2)(ta tb:TE):TE:=λσ H Q=>ta σ H λx H1=>tb σ H1 λy H2=>r x y H2 Q
def rR(r:V->Hp->VK->Prop)(ta:TE):TE:=λσ H Q=>ta σ H λx H1=>r x H1 Q
def rI(C:Int->Int->Prop)(g:Int->Int->V):R2:=λx y H Q=>∃i j,x=.int i/\y=.int j/\C i j/\Q (g i j) H
def fT(g:Int->Int->V):R2:=λx y H Q=>∃i j,x=.int i/\y=.int j/\Q (g i j) H
def rU(g:Int->V):V->Hp->VK->Prop:=λx H Q=>∃i,x=.int i/\Q (g i) H
section
variable{X:Cx}{a b c:Expr}{ta tb tc:TE}{pos:Pos}
theorem kG(ha:PE X a ta)(hb:PE X b tb){σ:St}{R:V->V->Hp->Prop}(I:Inv X h_ σ H s)
  (h:ta σ H λx H1=>tb σ H1 λy H2=>R x y H2)  {f:Ag->Ag->Sem Ag}
  (hf:∀v u s2 x y H2,Inv X h_ σ H2 s2->RelV x v->RelV y u->R x y H2->A2 (A8 X.prog X.w) X.A (f v u) Q X.xe s2):
  A2 (A8 X.prog X.w) X.A (eval a X.env) (λv r_=>A2 (A8 X.prog X.w) X.A (eval b X.env) (λu s_=>A2 (A8 X.prog X.w) X.A (f v u) Q X.xe s_) X.xe r_) X.xe s:=by
 refine aP (ha h_ s σ H _ I h) λv g ⟨x,H1,d,i,c⟩=>aP (hb h_ g σ H1 _ d c) λu s2 w=>?_;obtain⟨y,H2,e,k,j⟩:=w;exact hf v u s2 x y H2 e i k j
theorem d4(ho:OpR X (Fb op) r)(ha:PE X a ta)(hb:PE X b tb):PE X (.BinOp a op b pos) (dQ r ta tb):=λh_ s σ H Q I h=>wpAny_BinOp (kG ha hb I h λv u f x y e=>ho h_ f σ e x y v u Q)
theorem tN(ho:v8 X (unaryOp op) r)(ha:PE X a ta):PE X (.UnaryOp op a pos) (rR r ta):=λh_ s σ H Q I h=>UnaryOp_ (aP (ha h_ s σ H _ I h) λv e u=>by obtain⟨x,g,c,f,d⟩:=u;exact ho h_ e σ g x v Q c f d)
theorem pU{g:Int->Int->Int}
  (rule:∀(i j:Int)(t u:Tok)(s:Aj)(Q:Ag->Aj->Prop)(E:Ag->Aj->Prop),C i j->Q (.int (g i j) s.toks) {s with toks:=s.toks+1}->A2 (A8 X.prog X.w) X.A (f (.int i t) (.int j u)) Q E s):
  OpR X f (rI C λi j=>.int (g i j)):=by
 intro a s σ H x y v u Q I b d h;obtain⟨i,j,rfl,rfl,e,q⟩:=h;obtain⟨t,rfl⟩:=b;obtain⟨c,rfl⟩:=d;exact rule i j t c s _ _ e ⟨.int _,H,I.tok _,⟨_,rfl⟩,q⟩
theorem nS{g:Int->Int->Int}
  (rule:∀(i j:Int)(t u:Tok)(s:Aj)(Q:Ag->Aj->Prop)(E:Ag->Aj->Prop),Q (.int (g i j) s.toks) {s with toks:=s.toks+1}->A2 (A8 X.prog X.w) X.A (f (.int i t) (.int j u)) Q E s):
  OpR X f (fT λi j=>.int (g i j)):=by
 intro a s σ H x y v u Q I b d h;obtain⟨i,j,rfl,rfl,q⟩:=h;obtain⟨t,rfl⟩:=b;obtain⟨c,rfl⟩:=d;exact rule i j t c s _ _ ⟨.int _,H,I.tok _,⟨_,rfl⟩,q⟩
theorem jI{g:Int->Int->Bool}
  (rule:∀(i j:Int)(t u:Tok)(s:Aj)(Q:Ag->Aj->Prop)(E:Ag->Aj->Prop),Q (.bool (g i j)) s->A2 (A8 X.prog X.w) X.A (f (.int i t) (.int j u)) Q E s):
  OpR X f (fT λi j=>.bl (g i j)):=by
 intro a s σ H x y v u Q I b d h;obtain⟨i,j,rfl,rfl,q⟩:=h;obtain⟨t,rfl⟩:=b;obtain⟨c,rfl⟩:=d;exact rule i j t c s _ _ ⟨.bl _,H,I,rfl,q⟩
def vM(i j:Int):Prop:=0 < j/\j < 1073741824
def jM(i j:Int):Prop:=0<=j/\j<=1000000/\i.natAbs < 2 ^ 64
def CMul(i j:Int):Prop:=(-(2 ^ 64) < i/\i < 2 ^ 64)\/(-(2 ^ 64) < j/\j < 2 ^ 64)
theorem CMul.ok(h:CMul i j):IntMulOk i j:=by
 rcases h with⟨b,a⟩|⟨b,a⟩
 ·exact .of_left (intBits_le_64 b a)
 ·exact .of_right (intBits_le_64 b a)
theorem op_add:OpR X (Fb .Add) (fT λi j=>.int (i+j)):=nS λ_ _ _ _ _ _ _=>add_int
theorem OI:OpR X (Fb .Sub) (fT λi j=>.int (i-j)):=nS λ_ _ _ _ _ _ _=>sub_int
theorem mC:OpR X (Fb .Mult) (rI CMul λi j=>.int (i*j)):=pU λ_ _ _ _ _ _ _ a q=>mul_int q a.ok
theorem BI:OpR X (Fb .FloorDiv) (rI vM λi j=>.int (i / j)):=pU λi j _ _ _ _ _ a q=>by
 have c:=a.1;have b:=a.2;exact floordiv_int ⋯ (by rw[Int.fdiv_eq_ediv_of_nonneg i ⋯];exact q) (.inl (PyProof.noPylong_small ⋯))
theorem jS:OpR X (Fb .Mod) (rI (λ_ j=>0 < j) λi j=>.int (i % j)):=pU λi j _ _ _ _ _ a q=>mod_int' ⋯ (by rw[Int.fmod_eq_emod_of_nonneg i ⋯];exact q)
theorem DJ:OpR X (Fb .Pow) (rI jM λi j=>.int (i ^ j.toNat)):=pU λ_ _ _ _ _ _ _ a=>pow_int_small a.1 a.2.1 a.2.2
theorem VU{g:Int->Int}
  (rule:∀(i:Int)(t:Tok)(s:Aj)(Q:Ag->Aj->Prop)(E:Ag->Aj->Prop),Q (.int (g i) s.toks) {s with toks:=s.toks+1}->A2 (A8 X.prog X.w) X.A (f (.int i t)) Q E s):
  v8 X f (rU λi=>.int (g i)):=by
 intro a s σ H x v Q I b h;obtain⟨i,rfl,q⟩:=h;obtain⟨t,rfl⟩:=b;exact rule i t s _ _ ⟨.int _,H,I.tok _,⟨_,rfl⟩,q⟩
theorem tH:v8 X (unaryOp .USub) (rU λi=>.int (-i)):=VU λ_ _ _ _ _=>neg_int
end
def oh:V->V->Bool
 |.non,.non=>ah|.non,.int _=>ah|.int _,.non=>ah|.non,.bl _=>ah|.bl _,.non=>ah|.non,.str _=>ah|.str _,.non=>ah
 |.int _,.int _=>ah|.bl _,.bl _=>ah|.str _,.str _=>ah|.byt _,.byt _=>ah
 |.int _,.str _=>ah|.str _,.int _=>ah|.bl _,.str _=>ah|.str _,.bl _=>ah
 |_,_=>ai
def rk:R2:=λx y H Q=>oh x y=ah/\Q (.bl (decide (x=y))) H
def yN:R2:=λx y H Q=>oh x y=ah/\Q (.bl (!decide (x=y))) H
theorem xG:decide (V.int i=V.int j)=(i==j):=by
 rw[En];simp
theorem GG:decide (V.bl i=V.bl j)=(i==j):=by
 rw[En];simp
theorem GQ:decide (V.str i=V.str j)=(i==j):=by
 rw[En];simp
theorem zG:decide (V.byt i=V.byt j)=(i.toList==j.toList):=by
 rw[En];simp
section
variable{X:Cx}{a b c:Expr}{ta tb tc:TE}{pos:Pos}
theorem cH{σ:St}(I:Inv X h_ σ H s)(q:Q (.bl k) H)(e:k=k'):EP X h_ σ Q (.bool k') s:=by
 subst e;exact⟨.bl k,H,I,rfl,q⟩
theorem op_eq:OpR X (Bm .Eq) rk:=by
 intro m s σ H x y v u Q I g a h;obtain⟨f,q⟩:=h;cases x with
 |non=>
  cases g;cases y with
  |non=>cases a;exact PySem.EqNone.eq_none_none (cH I q (by simp))
  |bl j=>cases a;exact PySem.EqNone.eq_none_bool (cH I q (by simp))
  |int j=>obtain⟨d,rfl⟩:=a;exact PySem.EqNone.eq_none_int (cH I q (by simp))
  |str j=>obtain⟨d,rfl⟩:=a;exact PySem.EqNone.eq_none_str (cH I q (by simp))
  |_=>exact f_ (f) A7
 |bl i=>
  cases g;cases y with
  |non=>cases a;exact PySem.EqNone.eq_bool_none (cH I q (by simp))
  |bl j=>cases a;exact eq_bool (cH I q GG)
  |str j=>obtain⟨d,rfl⟩:=a;exact PySem.EqMixed.eq_bool_str (cH I q (by simp))
  |_=>exact f_ (f) A7
 |int i=>
  obtain⟨t,rfl⟩:=g;cases y with
  |non=>cases a;exact PySem.EqNone.eq_int_none (cH I q (by simp))
  |int j=>obtain⟨d,rfl⟩:=a;exact eq_int (cH I q xG)
  |str j=>obtain⟨d,rfl⟩:=a;exact PySem.EqMixed.eq_int_str (cH I q (by simp))
  |_=>exact f_ (f) A7
 |str i=>
  obtain⟨t,rfl⟩:=g;cases y with
  |non=>cases a;exact PySem.EqNone.eq_str_none (cH I q (by simp))
  |bl j=>cases a;exact PySem.EqMixed.eq_str_bool (cH I q (by simp))
  |int j=>obtain⟨d,rfl⟩:=a;exact PySem.EqMixed.eq_str_int (cH I q (by simp))
  |str j=>obtain⟨d,rfl⟩:=a;exact eq_str (cH I q GQ)
  |_=>exact f_ (f) A7
 |byt i=>
  obtain⟨t,rfl⟩:=g;cases y with
  |byt j=>obtain⟨d,rfl⟩:=a;exact PySem.W.eq_bytes (cH I q zG)
  |_=>exact f_ (f) A7
 |_=>cases y<;>exact f_ (by assumption) A7
theorem Su:OpR X (Bm .NotEq) yN:=by
 intro m s σ H x y v u Q I g a h;obtain⟨f,q⟩:=h;cases x with
 |non=>
  cases g;cases y with
  |non=>cases a;exact PySem.EqNone.ne_none_none (cH I q (by simp))
  |bl j=>cases a;exact PySem.EqNone.ne_none_bool (cH I q (by simp))
  |int j=>obtain⟨d,rfl⟩:=a;exact PySem.EqNone.ne_none_int (cH I q (by simp))
  |str j=>obtain⟨d,rfl⟩:=a;exact PySem.EqNone.ne_none_str (cH I q (by simp))
  |_=>exact f_ (f) A7
 |bl i=>
  cases g;cases y with
  |non=>cases a;exact PySem.EqNone.ne_bool_none (cH I q (by simp))
  |bl j=>cases a;exact ne_bool (cH I q (congrArg not GG))
  |str j=>obtain⟨d,rfl⟩:=a;exact PySem.EqMixed.ne_bool_str (cH I q (by simp))
  |_=>exact f_ (f) A7
 |int i=>
  obtain⟨t,rfl⟩:=g;cases y with
  |non=>cases a;exact PySem.EqNone.ne_int_none (cH I q (by simp))
  |int j=>obtain⟨d,rfl⟩:=a;exact ne_int (cH I q (congrArg not xG))
  |str j=>obtain⟨d,rfl⟩:=a;exact PySem.EqMixed.ne_int_str (cH I q (by simp))
  |_=>exact f_ (f) A7
 |str i=>
  obtain⟨t,rfl⟩:=g;cases y with
  |non=>cases a;exact PySem.EqNone.ne_str_none (cH I q (by simp))
  |bl j=>cases a;exact PySem.EqMixed.ne_str_bool (cH I q (by simp))
  |int j=>obtain⟨d,rfl⟩:=a;exact PySem.EqMixed.ne_str_int (cH I q (by simp))
  |str j=>obtain⟨d,rfl⟩:=a;exact ne_str (cH I q (congrArg not GQ))
  |_=>exact f_ (f) A7
 |byt i=>
  obtain⟨t,rfl⟩:=g;cases y with
  |byt j=>obtain⟨d,rfl⟩:=a;exact PySem.W.ne_bytes (cH I q (congrArg not zG))
  |_=>exact f_ (f) A7
 |_=>cases y<;>exact f_ (by assumption) A7
theorem op_lt:OpR X (Bm .Lt) (fT λi j=>.bl (decide (i < j))):=jI λ_ _ _ _ _ _ _=>lt_int
theorem op_le:OpR X (Bm .LtE) (fT λi j=>.bl (decide (i<=j))):=jI λ_ _ _ _ _ _ _=>le_int
theorem op_gt:OpR X (Bm .Gt) (fT λi j=>.bl (decide (j < i))):=jI λ_ _ _ _ _ _ _=>gt_int
theorem SK:OpR X (Bm .GtE) (fT λi j=>.bl (decide (j<=i))):=jI λ_ _ _ _ _ _ _=>ge_int
theorem Mj:OpR X (Bm .Lt) (λx y H Q=>∃i j,x=.str i/\y=.str j/\Q (.bl (decide (i.cps.toList < j.cps.toList))) H):=by
 intro a s σ H x y v u Q I b c h;obtain⟨i,j,rfl,rfl,q⟩:=h;obtain⟨t,rfl⟩:=b;obtain⟨d,rfl⟩:=c;exact lt_str (cH I q rfl)
theorem Rc:OpR X (Bm .In) (λx y H Q=>∃i j,x=.str i/\y=.str j/\Q (.bl (!(G3 j i 0 j.length 1).isEmpty)) H):=by
 intro a s σ H x y v u Q I c b h;obtain⟨i,j,rfl,rfl,q⟩:=h;obtain⟨t,rfl⟩:=c;obtain⟨d,rfl⟩:=b;exact in_str (cH I q rfl)
theorem wQ:OpR X (Bm .Is) (λx y H Q=>y=.non/\Q (.bl (decide (x=.non))) H):=by
 intro b s σ H x y v u Q I a c h;obtain⟨rfl,q⟩:=h;cases c;refine is_none_gen (cH I q ?_);cases x<;>first
  | (cases a;rfl)
  | (obtain⟨t,rfl⟩:=a;rfl)
theorem Ik:OpR X (Bm .IsNot) (λx y H Q=>y=.non/\Q (.bl (!decide (x=.non))) H):=by
 intro b s σ H x y v u Q I a c h;obtain⟨rfl,q⟩:=h;cases c;refine isnot_none_gen (cH I q ?_);cases x<;>first
  | (cases a;rfl)
  | (obtain⟨t,rfl⟩:=a;rfl)
theorem OpR.or(h:OpR X f r)(h':OpR X f r'):OpR X f (λx y H Q=>r x y H Q\/r' x y H Q):=by
 intro a s σ H x y v u Q I c b q;rcases q with q|q
 ·exact h a s σ H x y v u Q I c b q
 ·exact h' a s σ H x y v u Q I c b q
theorem nc(b)(h:op≠.In:=by decide)(h2:op≠.NotIn:=by decide):Ce op b=ai:=by
 have c:(op==CmpOp.In)=ai:=by cases op<;>first|rfl|exact f_ rfl h
 have a:(op==CmpOp.NotIn)=ai:=by cases op<;>first|rfl|exact f_ rfl h2
 cases b<;>simp[Ce,c,a]
theorem JW(ho:OpR X (Bm op) r)(ha:PE X a ta)(hb:PE X b tb)(hm:Ce op b=ai):PE X (.Compare a [op] [b] pos) (dQ r ta tb):=λh_ s σ H Q I h=>wpAny_Compare1 (kG ha hb I h λv u f x y e=>ho h_ f σ e x y v u Q) hm
def iB(t:TE):TT:=λσ H Q=>t σ H λx H'=>∃k,x=.bl k/\Q k H'
theorem ke(ho:OpR X (Bm op) r)(ha:PE X a ta)(hb:PE X b tb)(hm:Ce op b=ai):PT X (.Compare a [op] [b] pos) (iB (dQ r ta tb)):=by
 intro d s σ H Q I h;refine wpAny_isTrue_Compare1 (aP (ha d s σ H _ I h) λv A ⟨x,m,o,q,j⟩=>aP (hb d A σ m _ o j) λu p ⟨y,l,f,t,g⟩=>
  aP (ho d p σ l x y v u _ f q t g) λc C a=>?_) hm;obtain⟨z,i,n,w,k,e,B⟩:=a
 subst e;cases w;exact C7 ⟨i,n,B⟩
def oQ(r r':R2)(ta tb tc:TE):TE:=λσ H Q=>ta σ H λx H1=>tb σ H1 λy H2=>r x y H2 λz H3=>∃k,z=.bl k /\
 (if k=ah then tc σ H3 λw' H4=>r' y w' H4 Q else Q (.bl ai) H3)
theorem Rk(ho:OpR X (Bm op) r)(ho':OpR X (Bm op') r')(ha:PE X a ta)(hb:PE X b tb)(hc:PE X c tc)
  (hm:lastMarks [op,op'] [b,c]=ai:=by with_unfolding_all rfl):PE X (.Compare a [op,op'] [b,c] pos) (oQ r r' ta tb tc):=by
 intro f s σ H Q I h;refine Compare_chain (aP (ha f s σ H _ I h) λv J ⟨x,w,B,D,q⟩=>chain_link (aP (hb f J σ w _ B q) λu C ⟨y,t,n,j,o⟩=>
  aP (ho f C σ t x y v u _ n D j o) λd K a=>?_)) hm;obtain⟨z,g,i,G,k,e,l⟩:=a
 subst e;cases G;refine C7 ?_;cases k with
 |false=>exact ite_ff ⟨.bl ai,g,i,rfl,l⟩
 |true=>exact ite_tt (chain_last (aP (hc f K σ g _ i l) λw' A b=>by obtain⟨F,L,p,m,E⟩:=b;exact ho' f A σ L y F u w' Q p j m E))
theorem NP(ho:OpR X (Bm op) r)(ho':OpR X (Bm op') r')(ha:PE X a ta)(hb:PE X b tb)(hc:PE X c tc)
  (hm:lastMarks [op,op'] [b,c]=ai:=by with_unfolding_all rfl):PT X (.Compare a [op,op'] [b,c] pos) (iB (oQ r r' ta tb tc)):=by
 intro f s σ H Q I h;refine isTrue_chain (aP (ha f s σ H _ I h) λv J ⟨x,P,G,w,o⟩=>test_link (aP (hb f J σ P _ G o) λu L ⟨y,K,S,g,n⟩=>
  aP (ho f L σ K x y v u _ S w g n) λd E a=>?_)) hm;obtain⟨z,i,l,t,k,e,j⟩:=a
 subst e;cases t;refine C7 ?_;cases k with
 |false=>
  obtain⟨V,C,M⟩:=j;cases C;exact ite_ff ⟨i,l,M⟩
 |true=>
  refine ite_tt (test_last (aP (hc f E σ i _ l j) λw' p ⟨O,D,R,q,F⟩=>aP (ho' f p σ D y O u w' _ R g q F) λd' Y b=>?_));obtain⟨U,T,B,A,W,N,m⟩:=b;subst N;cases A;exact C7 ⟨T,B,m⟩
theorem mE:(As:Nat) < 2 ^ 63:=by decide
theorem op_add_str:OpR X (Fb .Add) (λx y H Q=>∃i j,x=.str i/\y=.str j/\i.length+j.length<=As/\Q (.str (i++j)) H):=by
 intro a s σ H x y v u Q I b d h;obtain⟨i,j,rfl,rfl,c,q⟩:=h;obtain⟨t,rfl⟩:=b;obtain⟨f,rfl⟩:=d;exact add_str (λt' e=>⟨.str _,H,I.tok _,⟨_,rfl⟩,q⟩) c
theorem f6(r:Vals [x] us):∃u,us=[u]/\RelV x u:=by
 cases r with
 |cons a b=>cases b;exact⟨_,rfl,a⟩
theorem sZ(r:Vals [x,y] us):∃u w',us=[u,w']/\RelV x u/\RelV y w':=by
 cases r with
 |cons c d=>
  cases d with
  |cons b a=>cases a;exact⟨_,_,rfl,c,b⟩
theorem S2:CallR X (.type "int") (λxs H Q=>(∃i,xs=[.int i]/\Q (.int i) H)\/∃k,xs=[.bl k]/\Q (.int (if k then 1 else 0)) H):=by
 intro a s σ H xs c Q I r h;rcases h with⟨i,rfl,q⟩|⟨k,rfl,q⟩
 ·obtain⟨u,rfl,t,rfl⟩:=f6 r;exact call_int_int ⟨.int i,H,I,⟨_,rfl⟩,q⟩
 ·obtain⟨u,rfl,b⟩:=f6 r;cases b;exact call_int_bool ⟨.int _,H,I.tok _,⟨_,rfl⟩,q⟩
end
structure ObjM(h:Heap)(x dx C:A_)(mA:Str->Option Ag):Prop where
 obj:h.get? x=ae (PySem.W.instObj C dx)
 ns:h.Ns1 dx mA
 ne:dx≠x
theorem LY{h:Heap}(n:h.Ns1 dx mA):∃od,h.get? dx=ae od/\∀name,PySem.W.lookIn name od=ae (mA name):=by
 obtain⟨o,c,l,f,g,k,_,d⟩:=n;refine⟨o,f,λname=>?_⟩;have e:=d name;unfold nsFind findBy at e;rw[<-Array.find?_toList]at e;unfold PySem.W.lookIn;rw[g];dsimp only
 split
 ·rename_i y q;rw[q]at e;exact congrArg ae e
 ·rename_i q;rw[q]at e;have a:c.toList.any (·.refKey)=ai:=by
   rw[List.any_eq_false];intro y j;obtain⟨z,t,b⟩:=k y (by simp_all);simp[DictEntry.refKey,b]
  have i:¬c.toList.any (·.refKey)=ah:=by rw[a];simp
  rw[a_ i];exact congrArg ae e
theorem ObjM.look(I:ObjM h x dx C mA):∃od,PySem.W.InstAt h x (PySem.W.instObj C dx) C (ae od)/\∀name,PySem.W.lookIn name od=ae (mA name):=
 let⟨od,b,a⟩:=LY I.ns
 ⟨od,⟨I.obj,rfl,rfl,b⟩,a⟩
theorem RelO.some_of(r:RelO (ae v) o):∃u,o=ae u/\RelV v u:=by
 cases o with
 |none=>exact(r).elim
 |some u=>exact⟨u,rfl,r⟩
section
variable{P:A9}{w:Bj}{H H':Hp}{h h':Heap}{a C dx:A_}{fs fs':List (Str×V)}
theorem OV(hok:HOk P w H h)(e:H a=ae (.ins C dx fs)):∃mA,ObjM h a dx C mA/\(∀f,RelO (fs.lookup f) (mA f))/\PySem.Within mA (fs.map (·.1))/\fs.length<=1000/\H dx=ae (.own a):=by
 obtain⟨d,z,b,c,mA,n,r,q⟩:=(show ObjOk P w H h a (.ins C dx fs)from hok a _ e);exact⟨mA,⟨c,n,b⟩,r,q,z,d⟩
end
structure Cls(K:Af)(C:A_):Prop where
 pg:PySem.W.plainGet K C Str.empty=ah
 hd:PySem.W.hasDictIn K C=ah
 po:PySem.W.plainOver K C=ah
 sa:PySem.W.findIn K (.ref C) "__setattr__"=ae (ae (.builtin "object.__setattr__"))
theorem Cls.get{K:Af}(c:Cls K C)(f):PySem.W.plainGet K C f=ah:=c.pg
section
variable{X:Cx}{h_:List (A_×Obj)}{σ:St}{H:Hp}{s:Aj}{A:Bn}{E:Ag->Aj->Prop}{Q:Ag->Aj->Prop}{c:Ag}{b:Bool}
inductive TyOf(K:Af)(H:Hp):V->Ag->Prop where
 |non:TyOf K H .non (.type "NoneType")
 |bl (x:Bool):TyOf K H (.bl x) (.type "bool")
 |int (i:Int):TyOf K H (.int i) (.type "int")
 |str (x:Str):TyOf K H (.str x) (.type "str")
 |flt (x:UInt64):TyOf K H (.flt x) (.type "float")
 |lst {a:A_} {xs:List V} (e:H a=ae (.lst xs)):TyOf K H (.ref a) (.type "list")
 |frz {a:A_} {o:Obj} {xs:List V} (e:H a=ae (.frz o (.lst xs))):TyOf K H (.ref a) (.type "list")
 |tup {a:A_} {xs:List V} (e:H a=ae (.tup xs)):TyOf K H (.ref a) (.type "tuple")
 |dK {a:A_} {kvs:List (aJ×V)} (e:H a=ae (.dK kvs)):TyOf K H (.ref a) (.type "dict")
 |dT {a:A_} {kvs:List (List aJ×V)} (e:H a=ae (.dT kvs)):TyOf K H (.ref a) (.type "dict")
 |ins {a C dx:A_} {fs:List (Str×V)} (e:H a=ae (.ins C dx fs)) (cl:Cls K C) (ha:PySem.W.findIn K (.ref C) "__class__"=ae (ae (.builtin "object.__class__")))
   (hn:PySem.W.specialIn K (.builtin "object.__class__") "__get__"=ae (ae (.builtin "getset_descriptor.__get__"))) (htk:PySem.W.takesIn K (.builtin "object.__class__")=ae ah)
   (hm:PySem.W.mroIn K C (.type "object")=ae ah):TyOf K H (.ref a) (.ref C)
theorem UU(I:Inv X h_ σ H s)(rx:RelV x u)(ty:TyOf X.K H x t)(e:PySem.W.kitOne X.K t c=ae b)(h:∀tk,Q (.bool b) {s with toks:=tk}):
  A2 (A8 X.prog X.w) A (call (.builtin "isinstance") [u,c]) Q E s:=by
 cases ty with
 |non=>cases(rx);exact C3 PySem.W.kitx_none I.kIn Gu e (λz=>nomatch z) h
 |bl y=>cases(rx);exact C3 PySem.W.kitx_bool I.kIn Gu e (λz=>nomatch z) h
 |int i=>obtain⟨t,q⟩:=(rx);cases q;exact C3 PySem.W.kitx_int I.kIn Gu e (λz=>nomatch z) h
 |str y=>obtain⟨t,q⟩:=(rx);cases q;exact C3 PySem.W.kitx_str I.kIn Gu e (λz=>nomatch z) h
 |flt y=>obtain⟨t,q⟩:=(rx);cases q;exact C3 PySem.W.kitx_float I.kIn Gu e (λz=>nomatch z) h
 |@lst a k d=>
  cases(rx);obtain⟨_,_,n,_,f⟩:=(show ObjOk X.prog X.w H s.heap a (.lst k)from I.hok a _ d);exact C3 PySem.W.kitx_list I.kIn ⟨_,f,rfl⟩ e (λz=>nomatch z) h
 |@frz a S k d=>
  cases(rx);obtain⟨_,_,_,n,_,f⟩:=(show ObjOk X.prog X.w H s.heap a (.frz S _)from I.hok a _ d);exact C3 PySem.W.kitx_list I.kIn ⟨_,f,rfl⟩ e (λz=>nomatch z) h
 |@tup a k d=>
  cases(rx);obtain⟨_,_,_,p⟩:=(show ObjOk X.prog X.w H s.heap a (.tup k)from I.hok a _ d);obtain⟨o,f,j,_⟩:=p;exact C3 PySem.W.kitx_tuple I.kIn ⟨o,f,j⟩ e (λz=>nomatch z) h
 |@dK a g d=>
  cases(rx);obtain⟨_,_,Z,_,p⟩:=(show ObjOk X.prog X.w H s.heap a (.dK g)from I.hok a _ d);obtain⟨o,F,M,f,j,_⟩:=p;exact C3 PySem.W.kitx_dict I.kIn ⟨o,f,j.1⟩ e (λz=>nomatch z) h
 |@dT a g d=>
  cases(rx);obtain⟨_,_,k,_,o,F,M,f,j,_⟩:=(show ObjOk X.prog X.w H s.heap a (.dT g)from I.hok a _ d);exact C3 PySem.W.kitx_dict I.kIn ⟨o,f,j.1⟩ e (λz=>nomatch z) h
 |@ins a C dx fs d m U N l D=>
  cases(rx);obtain⟨Y,O,_⟩:=OV I.hok d;obtain⟨od,J,_⟩:=O.look;exact C3 (PySem.W.kitx_own (m.get _) m.hd U N l D) I.kIn J e (λz=>nomatch z) h
end
structure Room(k:Nat)(A:Bn):Prop where
 hd:A.handled=af
 dp:A.depth+3*k+5 < recursionLimit
 un:A.units+16*k+200 < Co
 gd:A.guards=ae []
theorem Room.mono(r:Room k A)(h:j<=k):Room j A:=⟨r.hd,by have:=r.dp;omega,by have:=r.un;omega,r.gd⟩
theorem Room.deeper(r:Room (k+1) A)(env):Room k (A.deeper env):=
 ⟨r.hd,by have:=r.dp;show A.depth+1+3*k+5 < _;omega,by have:=r.un;show A.units+3+16*k+200 < _;omega,r.gd⟩
theorem Room.depth(r:Room k A):A.depth < recursionLimit:=by have:=r.dp;omega
theorem Room.units(r:Room k A):A.units+64 < Co:=by have:=r.un;omega
theorem Room.units0(r:Room k A):A.units < Co:=by have:=r.un;omega
def bP:TA:=λ_ H Q=>Q [] H
def cU(ta:TE)(tr:TA):TA:=λσ H Q=>ta σ H λx H1=>tr σ H1 λxs H2=>Q (x::xs) H2
section
variable{X:Cx}{e:Expr}{es:List Expr}{te:TE}{t:TA}{pos:Pos}
theorem dG:PA X [] bP:=λ_ _ _ _ H Q I h=>Calls.spliced_nil ⟨[],H,I,.nil,h⟩
theorem cj(ha:PE X e te)(hr:PA X es t)(hs:Au (e::es) X.env=(ai,eval e X.env)::Au es X.env:=by rfl):PA X (e::es) (cU te t):=by
 intro b a s σ H Q I h;rw[hs];show A2 _ _ (spliced ((ai,eval e X.env)::C6 b _)) _ _ s;exact Calls.spliced_cons (aP (ha a s σ H _ I h) λu m u=>by obtain⟨x,i,j,k,f⟩:=u;exact aP (hr b a m σ i _ j f) λus n v=>by obtain⟨o,g,c,l,d⟩:=v;exact ⟨_,g,c,.cons k l,d⟩)
def nQ(t:TA):TE:=λσ H Q=>t σ H λxs H1=>xs.length<=As/\∀p,H1 p=af->Q (.ref p) (upd H1 p (.tup xs))
def lH(t:TA):TE:=λσ H Q=>t σ H λxs H1=>xs.length<=As/\∀p,H1 p=af->Q (.ref p) (upd H1 p (.lst xs))
theorem NZ{x1}(h:PA X es t):PE X (.Tuple es x1 pos) (nQ t):=by
 intro a s σ H Q I f;refine wpAny_Tuple_spliced (aP (h pos a s σ H _ I f) λus d ⟨g,j,c,r,z,q⟩=>⟨r.length▸z,?_⟩);refine⟨.ref d.heap.objs.size,_,c.laid (λb u=>Ae _) (by simp) ?_,rfl,q _ (c.hok.fresh (by simp))⟩;exact⟨z,us,r,IsTupP.new _ _⟩
theorem sj(h:PA X es t):PE X (.List es pos) (lH t):=by
 intro a s σ H Q I f;refine wpAny_List_spliced (aP (h pos a s σ H _ I f) λus d ⟨g,j,c,r,z,q⟩=>⟨r.length▸z,?_⟩);refine⟨.ref d.heap.objs.size,_,c.laid (λb u=>Ae _) (by simp) ?_,rfl,q _ (c.hok.fresh (by simp))⟩;exact⟨z,us,0,r,Ar _ rfl⟩
end
abbrev Sp:=List V->Hp->VK->XK->Prop
abbrev iF:=List Env->Hp->Aj->XK->Ag->Aj->Prop
structure Env0(P:A9)(w:Bj)(K:Af)(mg:Str->Option Ag)(base:Heap)(A:Bn)(outer:List Env)(s:Aj)(H:Hp):Prop where
 frames:A.frames=ae outer
 mod:Mod K mg base
 bs:∀b o,base.get? b=ae o->s.heap.get? b=ae o/\H b=af
 bsz:base.objs.size<=s.heap.objs.size
 funs:s.heap.FunFrames base outer
 frf:∀b∈ik outer,H b=af
 hok:HOk P w H s.heap
 bare:AllBare s.gens
def CE(outer:List Env)(P:A9)(w:Bj)(H:Hp)(s:Aj)(Q:VK)(u:Ag)(s':Aj):Prop:=
 ∃v H',s'.os=s.os/\AllBare s'.gens/\Un (ik outer) [] H H' s.heap s'.heap/\HOk P w H' s'.heap/\RelV v u/\Q v H'
def CR(CX:iF)(outer:List Env)(P:A9)(w:Bj)(H:Hp)(s:Aj)(Q:VK)(E:XK)(r:Result)(s':Aj):Prop:=
 match r with
 |.ok (.ret u)=>CE outer P w H s Q u s'
 |.ok _=>False
 |.error e=>CX outer H s E e s'
structure FnOk(P:A9)(w:Bj)(K:Af)(mg:Str->Option Ag)(base:Heap)(CX:iF)(k:Nat)(f:A_)(fd:Ck)(ps:List Str)(sp:Sp):Prop where
 len:∀vs H Q E,sp vs H Q E->vs.length=ps.length
 run:∀(A:Bn)(outer:List Env)(s:Aj)(H:Hp)(args:Args)(us:List Ag)(vs:List V)(Q:VK)(E:XK),Room k A->Env0 P w K mg base A outer s H->BindsTo s fd args (ps.zip us)->Vals vs us->sp vs H Q E->
  Gy (A8 P w) A (.call (.ref f) args) (CR CX outer P w H s Q E) s
theorem FnOk.imp{K:Af}(F:FnOk P w K mg base CX k f fd ps sp)
  (h:∀vs H Q E,sp' vs H Q E->sp vs H Q E):FnOk P w K mg base CX k f fd ps sp':=
 ⟨λvs H Q E q=>F.len vs H Q E (h _ _ _ _ q),λA a s H b i vs Q E g d e c j=>F.run A a s H b i vs Q E g d e c (h _ _ _ _ j)⟩
section
variable{X:Cx}{h_:List (A_×Obj)}{σ:St}{H:Hp}{s s':Aj}
theorem Inv.env0(I:Inv X h_ σ H s):Env0 X.prog X.w X.K X.mg X.base X.A X.stack s H:=
 ⟨I.ok.frames,I.ok.mod,I.bs,A5 I.ok.bsz I.sz,I.stack,I.stkFree,I.hok,I.bare⟩
theorem Inv.after(I:Inv X h_ σ H s)(h:CE X.stack X.prog X.w H s Q u s'):EP X h_ σ Q u s':=by
 obtain⟨v,d,e,a,f,c,r,q⟩:=h;obtain⟨g,_⟩:=s';obtain rfl:=e;exact⟨v,d,I.call f c a (λb z=>f_ z (by simp)),r,q⟩
end
def hU(sp:Sp)(dvs:List V)(E:XK)(t:TA):TE:=λσ H Q=>t σ H λvs H1=>sp (vs++dvs) H1 Q E
def Binds(K:Af)(fd:Ck)(ps:List Str)(ds:List Ag):Prop:=
 ∀(s:Aj)(us:List Ag),K.In s.heap->(us++ds).length=ps.length->BindsTo s fd ⟨us,[]⟩ (ps.zip (us++ds))
theorem Binds.all{K:Af}(h:∀us:List Ag,us.length=ps.length->bindArgs fd ⟨us,[]⟩=pure (ps.zip us)):Binds K fd ps []:=λs us _ a=>by
 rw[Bk]at a ⊢;exact .of_eq (h us a)
def xc(CX:iF)(X:Cx)(E:XK):Prop:=∀(h_:List (A_×Obj))(σ:St)(H:Hp)(s:Aj)(e:Ag)(s':Aj),Inv X h_ σ H s->CX X.stack H s E e s'->X.xe e s'
section
variable{X:Cx}{CX:iF}{k:Nat}{f C:A_}{fd:Ck}{ps:List Str}{sp:Sp}{dvs:List V}{ds:List Ag}{E:XK}{x m:Str}{p pos apos:Pos}{e o:Expr}{es:List Expr}{ta:TE}{t:TA}
theorem Vm{σ:St}(F:FnOk X.prog X.w X.K X.mg X.base CX k f fd ps sp)(hr:Room k X.A)(hb:Binds X.K fd ps ds)(hd:Vals dvs ds)(hx:xc CX X E)
  (I:Inv X h_ σ H s) (r:Vals vs us) (h:sp (vs++dvs) H Q E):A2 (A8 X.prog X.w) X.A (call (.ref f) us) (EP X h_ σ Q) X.xe s:=by
 have g:=r.append hd;have i:(us++ds).length=ps.length:=g.length▸F.len _ _ _ _ h;refine wpAny_call (codeAny_mono (F.run X.A X.stack s H _ _ _ Q E hr I.env0 (hb s us I.kIn i) g h) λr l a=>?_);cases r with
 |error e=>exact hx h_ σ H s e l I a
 |ok n=>
  cases n with
  |ret u=>exact I.after a
  |next=>exact False.elim a
  |brk=>exact False.elim a
  |cont=>exact False.elim a
theorem pX(F:FnOk X.prog X.w X.K X.mg X.base CX k f fd ps sp)(hr:Room k X.A)(hg:Gl X x)(hm:X.mg x=ae (.ref f))(hk:C1 X.K (.ref f)=ah)(hb:Binds X.K fd ps ds)(hd:Vals dvs ds)(hx:xc CX X E)
  (ha:PA X (e::es) t) (hdb:(x==("__debug__":Str))=ai:=by decide) (he:Au (e::es) X.env=(ai,eval e X.env)::Au es X.env:=by rfl) (p_:(C6 pos (Au es X.env)).any (·.1)=ai:=by rfl):
  PE X (.Call (.Name x p) (e::es) [] pos) (hU sp dvs E t):=by
 intro a s σ H Q I h;refine wpAny_Call_Name_kw (EI I hg hm (PySem.W.callWith_K I.ok.mod.kin hk (aP (ha pos a s σ H _ I h) λus d ⟨c,g,b,r,q⟩=>⟨b.kIn,?_⟩) he p_) hdb);exact Vm F hr hb hd hx b r q
end
structure FnScope(N P:List Str)(sc:Fc):Prop where
 kind:sc.kind=.function
 co:sc.isCoroutine=ai
 gen:sc.isGenerator=ai
 nd:N.Nodup
 pre:N.take P.length=P
 par:∀x∈P,sc.names.lookup x=ae .local\/sc.names.lookup x=ae .cell
 nofree:∀y∈sc.names,y.2≠.free
theorem CT{kindOf:Str->Option NameKind}:∀{binds:List (Str×Ag)}{m:Str->Option Ag},(∀v,(x,v)∉binds)->bindL kindOf binds m x=m x
 |[],_,_=>rfl
 | (n,v)::r,m,h=>by
  unfold bindL;rw[CT λw a=>h w (Ak _ a)]
  split
  ·have:x≠n:=by rintro rfl;exact h v Am
   simp[this]
  ·rfl
theorem y8{kindOf:Str->Option NameKind}:∀{binds:List (Str×Ag)}{m:Str->Option Ag},(∀v,(x,v)∉binds)->bindC kindOf binds m x=m x
 |[],_,_=>rfl
 | (n,v)::r,m,h=>by
  unfold bindC;rw[y8 λw a=>h w (Ak _ a)]
  split
  ·rfl
  ·have:x≠n:=by rintro rfl;exact h v Am
   simp[this]
theorem Hy{kindOf:Str->Option NameKind}:∀{P:List Str}{vs:List Ag}{i:Nat}{m:Str->Option Ag},P.Nodup->P[i]?=ae x->vs[i]?=ae v->kindOf x=ae .local->
  bindL kindOf (P.zip vs) m x=ae v
 |[],_,_,_,_,h,_,_=>by simp at h
 |_::_,[],_,_,_,_,h,_=>by simp at h
 |p::P,w::vs,0,m,b,c,a,d=>by
  simp at c a;subst c;subst a;show bindL kindOf ((p,w)::P.zip vs) m p=_;unfold bindL;rw[CT λv e=>(D3.mp b).1 (Em e).1,a' d];simp
 |p::P,w::vs,i+1,m,b,c,a,d=>by
  unfold bindL;exact Hy (D3.mp b).2 (by trivial) (by trivial) d
theorem AL{kindOf:Str->Option NameKind}:∀{P:List Str}{vs:List Ag}{i:Nat}{m:Str->Option Ag},P.Nodup->P[i]?=ae x->vs[i]?=ae v->kindOf x≠ae .local->
  bindC kindOf (P.zip vs) m x=ae v
 |[],_,_,_,_,h,_,_=>by simp at h
 |_::_,[],_,_,_,_,h,_=>by simp at h
 |p::P,w::vs,0,m,b,c,a,d=>by
  simp at c a;subst c;subst a;show bindC kindOf ((p,w)::P.zip vs) m p=_;unfold bindC;rw[y8 λv e=>(D3.mp b).1 (Em e).1,a_ d];simp
 |p::P,w::vs,i+1,m,b,c,a,d=>by
  unfold bindC;exact AL (D3.mp b).2 (by trivial) (by trivial) d
def start(N:List Str)(vs:List V):St:=vs.map ae++Df (N.length-vs.length) af
def cS(CX:iF)(P:A9)(w:Bj)(K:Af)(mg:Str->Option Ag)(base:Heap)(N:List Str)(qual:Str)(scope:Fc)(f:A_)(cd:Ag)(A:Bn)(outer:List Env)(s:Aj)(H:Hp)(E:XK):Cx where
 prog:=P
 w:=w
 K:=K
 mg:=mg
 base:=base
 A:=A.deeper (envOfC qual scope s.heap.objs.size f cd)
 N:=N
 s₀:=s
 H₀:=H
 env:=envOfC qual scope s.heap.objs.size f cd
 outer:=outer
 stack:=envOfC qual scope s.heap.objs.size f cd::outer
 ex:=[]
 calm:=ah
 fn:=λ_=>ah
 pn:=[]
 xe:=λe s'=>A2 (A8 P w) (A.deeper (envOfC qual scope s.heap.objs.size f cd)) (leaving (envOfC qual scope s.heap.objs.size f cd) e) (λ_ s''=>CX outer H s E e s'') (λe' s''=>CX outer H s E e' s'') s'
theorem BM{sc:Fc}(h:sc.names.lookup x=ae .cell):∃c,(cellsFrom n sc.names []).lookup x=ae c:=by
 exact C2.mp (PySem.W.cellsFrom_some sc.names n [] (.inl h))
theorem V1{K:Af}
  (S:FnScope N ps scope) (hd:A.handled=af) (e0:Env0 P w K mg base A outer s H) (hl:vs.length=ps.length) (r:Vals vs us)
  (x:InCallC s s.heap.objs.size (bindL (envOfC qual scope s.heap.objs.size f cd).kindOf (ps.zip us) λ_=>af) (cellsFrom (s.heap.objs.size+1) scope.names []) (bindC (envOfC qual scope s.heap.objs.size f cd).kindOf (ps.zip us) λ_=>af) s1):
  Inv (cS CX P w K mg base N qual scope f cd A outer s H E) [] (start N vs) H s1:=by
 have D:ps.length<=N.length:=by have:=congrArg Fu S.pre;simp_all<;>omega
 obtain⟨o,I,rfl,t⟩:=x.done;have j:∀b:A_,b∉(cS CX P w K mg base N qual scope f cd A outer s H E).ex:=λb z=>f_ (show b∈([]:List A_)from z) (by simp);refine⟨⟨e0.mod,S.kind,rfl,rfl,Bh _,λy z c o d=>?_,λy g=>?_,λy c _ h=>?_,λ_=>hd,Around.frames_deeper e0.frames,.inr ⟨rfl,rfl⟩,λb z=>f_ z (j b),e0.bs,e0.bsz,λb _ _=>j b,λb z=>f_ z (j b),e0.funs,e0.frf⟩,
  rfl,e0.bare,Un.kept t,⟨_,x.toInCall.ns,λi y v o d G=>?_⟩,λy c h=>⟨_,x.cell y c h⟩,e0.hok.fresh (Bh _),λy c h=>?_,λp m=>f_ (show p∈([]:List _)from m) (by simp),e0.hok.kept t,?_⟩
 ·exact name_of_addr x.apart (Fz o) (Fz d)
 ·have g:=g;rcases g with g|g
  ·exact BM g
  ·exact f_ rfl (S.nofree _ (Fz g))
 ·exact F1 (x.above y c (Fz h))
 ·have n:i < vs.length:=by
   unfold start at d;by_cases n:i < vs.length
   ·exact n
   ·rw[List.getElem?_append_right (by simpa using n)]at d;rw[E1]at d
    simp_all
  have F:vs[i]?=ae v:=by
   unfold start at d;rw[F3 (by simpa using n),Ap]at d;cases e:vs[i]? with
   |none=>rw[e]at d;cases d
   |some a=>rw[e]at d;cases d;rfl
  obtain⟨u,B,C⟩:=r.get F;have m:ps[i]?=ae y:=by
   rw[<-S.pre,List.getElem?_take_of_lt ⋯];trivial
  have l:ps.Nodup:=S.pre▸S.nd.sublist (List.take_sublist _ _);refine⟨u,C,?_⟩;rcases S.par y (A0 m)with k|k
  ·exact .inl ⟨k,Hy l m B k⟩
  ·obtain⟨c,e⟩:=BM k;refine .inr ⟨.inl k,c,e,?_⟩;have q:=x.cell y c e;rw[AL l m B (by show scope.names.lookup y≠_;rw[k];decide)]at q;exact q
 ·exact e0.hok.fresh (F1 (x.above y c (Fz h)))
 ·unfold start;show _=N.length;simp<;>omega
theorem Ws{K:Af}{dV kV doc pm m_ ct oc:Ag}
     (lk:K.lookup f=ae ⟨oc,od,.func (Fs name qual params body scope dV kV doc pm an m_ ct),osl⟩) (q_:PySem.W.codeIn K m_ qual=ah) (S:FnScope N ps scope)
  (len:∀vs H Q E,sp vs H Q E->vs.length=ps.length)
  (hbody:∀(A:Bn)(outer:List Env)(s:Aj)(H:Hp)(vs:List V)(Q:VK)(E:XK),Room k (A.deeper (envOfC qual scope s.heap.objs.size f m_))->sp vs H Q E->
   ∃t,PSs (cS CX P w K mg base N qual scope f m_ A outer s H E) body t/\t {nx:=λ_ H'=>Q .non H',rt:=Q} (start N vs) H):
  FnOk P w K mg base CX (k+1) f (Fs name qual params body scope dV kV doc pm an m_ ct) ps sp:=by
 refine⟨len,λA outer s H G T vs Q E p h Y r i=>?_⟩;have D:=h.mod.kin.keeps λb o e=>(h.bs b o e).1;have d:∀y∈ps.zip T,scope.names.lookup y.1=ae .local\/(scope.names.lookup y.1=ae .cell/\((cellsFrom (s.heap.objs.size+1) scope.names []).lookup y.1).isSome=ah):=λ⟨n,v⟩ Z=>by
  rcases S.par n (Em Z).1 with q|q
  ·exact .inl q
  ·exact .inr ⟨q,PySem.W.cellsFrom_some _ _ _ (.inl q)⟩
 refine codeAny_call_function p.depth (D _ _ lk) rfl S.co S.gen rfl (PySem.W.codeRec_of D q_) (Y _ _ _ _ (wpAny_newFunctionEnv_cells S.kind d λenv M L x=>?_));subst M;refine⟨(h.mod.nolimit.keeps λb o e=>(h.bs b o e).1).keeps x.toInCall.keep,codeAny_func ?_⟩;obtain⟨t,R,U⟩:=hbody A outer s H vs Q E (p.deeper _) i;have I:Inv (cS CX P w K mg base N qual scope f m_ A outer s H E) [] _ H L:=V1 S p.hd h (len _ _ _ _ i) r x;refine De (R [] L _ H _ I U) (λfl z g=>?_) λe z g=>g;have j:∀{l:St}{H':Hp}{v:V}{u:Ag},Inv (cS CX P w K mg base N qual scope f m_ A outer s H E) [] l H' z->RelV v u->Q v H'->CE outer P w H s Q u z:=
  λ{l H' v u} J m q=>⟨v,H',J.os,J.bare,J.base,J.hok,m,q⟩
 cases fl with
 |ret u=>
  obtain⟨v,l,H',J,m,q⟩:=g;exact j J m q
 |next=>
  obtain⟨l,H',J,q⟩:=g;exact j (v:=V.non) J rfl q
 |brk=>
  obtain⟨_,_,_,q⟩:=g;exact False.elim q
 |cont=>
  obtain⟨_,_,_,q⟩:=g;exact False.elim q
section
variable{X:Cx}{x:Str}{p pos:Pos}{e:Expr}{es:List Expr}{t:TA}{id T:String}{r:List V->Hp->VK->Prop}
def fM(r:List V->Hp->VK->Prop)(t:TA):TE:=λσ H Q=>t σ H λvs H1=>r vs H1 Q
theorem j7(hc:CallR X (.builtin id) r)(hg:Gl X x)(hm:X.mg x=af)(hv:Br x=ae (.builtin id))(ha:PA X (e::es) t)(hn:x≠"__name__":=by decide)(hdb:(x==("__debug__":Str))=ai:=by decide)
  (he:Au (e::es) X.env=(ai,eval e X.env)::Au es X.env:=by rfl) (p_:(C6 pos (Au es X.env)).any (·.1)=ai:=by rfl):PE X (.Call (.Name x p) (e::es) [] pos) (fM r t):=λh_ s σ H Q I h=>wpAny_Call_Name_kw (lE I hg hm hv (PyProof.Rows.callWith_builtin1 (aP (ha pos h_ s σ H _ I h) λus f u=>by obtain⟨d,i,c,g,b⟩:=u;exact hc h_ f σ i d us Q c g b) he p_) hn hdb)
theorem mM(hc:CallR X (.type T) r)(hg:Gl X x)(hm:X.mg x=af)(hv:Br x=ae (.type T))(ha:PA X (e::es) t)(hn:x≠"__name__":=by decide)(hdb:(x==("__debug__":Str))=ai:=by decide)
  (he:Au (e::es) X.env=(ai,eval e X.env)::Au es X.env:=by rfl) (p_:(C6 pos (Au es X.env)).any (·.1)=ai:=by rfl):PE X (.Call (.Name x p) (e::es) [] pos) (fM r t):=λh_ s σ H Q I h=>wpAny_Call_Name_kw (lE I hg hm hv (Du (aP (ha pos h_ s σ H _ I h) λus f u=>by obtain⟨d,i,c,g,b⟩:=u;exact hc h_ f σ i d us Q c g b) he p_) hn hdb)
end
end L2
namespace HT
open PySem PyProof.Rows
section
variable{prog:A9}{w:Bj}{A:Bn}{E:Ag->Aj->Prop}{s:Aj}
theorem cat_tup(ht:IsTup s.heap t vs.toArray)(hb:IsTup s.heap b ws.toArray)(hv:vs≠[])
  (h1:ws=[]->Q (.ref t) s) (h2:ws≠[]->Q (.ref s.heap.objs.size) {s with heap:=s.heap.push {cls:=.type "tuple",data:=.seq (vs++ws).toArray}})
  (hsz:vs.length+ws.length<=As):A2 (A8 prog w) A (Fb .Add (.ref t) (.ref b)) Q E s:=by
 obtain⟨⟨cls,j,_,l⟩,h,k,n,m⟩:=id ht;obtain⟨⟨_,g,_,f⟩,a,c,o,d⟩:=id hb;simp only at k m c d;subst k m c d;have e:vs.toArray++ws.toArray=(vs++ws).toArray:=by simp
 by_cases i:ws=[]
 ·exact concat_meets ⟨_,h,rfl⟩ ⟨_,a,rfl⟩ noFill_tuple_add seq_tuple_add Ge Gb (PySem.F.args_tuple_add_2 _ _)
   (tuple_addW1 t b vs.toArray ws.toArray n o j g l f (by simpa using hv) (by simp[i])) ⟨h,a,h1 i⟩
 ·refine concat_meets ⟨_,h,rfl⟩ ⟨_,a,rfl⟩ noFill_tuple_add seq_tuple_add Ge Gb (PySem.F.args_tuple_add_2 _ _)
   (tuple_addW2 t b vs.toArray ws.toArray n o j g l f (by simpa using hv) (by simpa using i) ⋯) ⟨h,a,?_⟩
  rw[e];exact h2 i
def sIx(n d:Nat):Option Int->Nat
 |none=>d
 |some v=>if v < 0 then(v+(n:Int)).toNat else min v.toNat n
theorem sIx_none(n d):sIx n d af=d:=rfl
theorem sIx_nat(n d k:Nat):sIx n d (ae (k:Int))=min k n:=by
 rfl
theorem WJ(n d)(hd:d<=n)(o):sIx n d o<=n:=by
 cases o with
 |none=>exact hd
 |some v=>
  show(if v < 0 then(v+n).toNat else min v.toNat n)<=n;by_cases a:v < 0
  ·rw[a' a];omega
  ·rw[a_ a];exact Nat.min_le_right _ _
theorem GP(v)(n d:Nat):(if v < 0 then max (v+(n:Int)) 0 else min v (n:Int))=((sIx n d (ae v):Nat):Int):=by
 show(if v < 0 then max _ 0 else min v _)=(((if v < 0 then(v+n).toNat else min v.toNat n):Nat):Int);by_cases a:v < 0
 ·simp only[a' a];omega
 ·simp only[a_ a];omega
theorem Wy(lo hi)(n:Nat):Fi lo hi 1 (n:Int)=(((sIx n 0 lo:Nat):Int),((sIx n n hi:Nat):Int)):=by
 have a:¬((1:Int) < 0):=by omega
 unfold Fi;refine Prod.ext ?_ ?_
 ·cases lo with
  |none=>rfl
  |some v=>exact GP v n 0
 ·cases hi with
  |none=>rfl
  |some v=>exact GP v n n
theorem LK(i j:Nat):Dd (i:Int) (j:Int) 1=j-i:=by
 unfold Dd;have a:(1:Int) > 0:=by omega
 simp
 grind
theorem xK(p:IsPart v o)(h:Q o s):A2 (A8 prog w) A (Builtin.Slice.slicePartIndex v) Q E s:=by
 cases p with
 |none=>exact slicePart_none h
 |int i t=>exact slicePart_int h
theorem ET{lo hi:Option Int}{Q:Int×Int×Nat->Aj->Prop}(hs:s.heap.IsSliceOf sl vl vu .none)(pl:IsPart vl lo)(pu:IsPart vu hi)
  (h:Q (((sIx n 0 lo:Nat):Int),1,sIx n n hi-sIx n 0 lo) s):A2 (A8 prog w) A (Builtin.Slice.sliceApplied (.ref sl) (pure (n:Int))) Q E s:=by
 obtain⟨d,b,c,a⟩:=id hs;refine Aa (Aa (B3 b a (x:=vl) rfl (Aa (B3 b a (x:=vu) rfl (Aa (B3 b a rfl (Ah (Aa (slicePart_none ?_)))))))));refine Aa (xK pl (Aa (xK pu (Aa (Ah ?_)))));show A2 _ _ (match Fi lo hi 1 (n:Int)with|(lo,hi)=>pure (lo,(1:Int),Dd lo hi 1)) _ _ s;rw[Wy lo hi n];show A2 _ _ (pure _) _ _ s;rw[LK];exact Ah h
theorem MN(xs:Array Ag)(i k:Nat):((Bc k).filterMap λ(m:Nat)=>xs[((i:Int)+(m:Int)*1).toNat]?).toArray=((xs.toList.drop i).take k).toArray:=by
 have e:(λ(m:Nat)=>xs[(i+(m:Int)*1).toNat]?)=λm=>xs[i+m]?:=by
  funext m
  have:(i+(m:Int)*1).toNat=i+m:=by omega
  rw[this]
 rw[e];have:=pick_run xs i k;rw[List.filterMap_map]at this;have a:((λx=>xs[x]?) ∘ λx=>i+x)=λm=>xs[i+m]?:=rfl;simp_all<;>omega
theorem getItem_tuple_cut{lo hi:Option Int}(ht:IsTup s.heap t items)(hs:s.heap.IsSliceOf sl vl vu .none)(pl:IsPart vl lo)(pu:IsPart vu hi)
  (hw:¬(sIx items.size 0 lo=0/\sIx items.size items.size hi=items.size))
  (h:Q (.ref s.heap.objs.size) {s with heap:=s.heap.push {cls:=.type "tuple",data:=.seq ((items.toList.drop (sIx items.size 0 lo)).take (sIx items.size items.size hi-sIx items.size 0 lo)).toArray}})
  (hsz:items.size<=As):A2 (A8 prog w) A (Gx (.ref t) (.ref sl)) Q E s:=by
 have a:=by
  show((items.toList.drop (sIx items.size 0 lo)).take (sIx items.size items.size hi-sIx items.size 0 lo)).toArray.size<=As;simp<;>omega
 obtain⟨f,e,c,g⟩:=id hs;have d:s.TypeIs (.ref sl) "slice":=⟨f,e,c⟩;unfold Gx
 try with_reducible refine Bt ?_
 first|refine Aa _|skip
 refine Aa (wpAny_sequenceKey ht.typeIs ∎ ?_);refine Aa (Bi ht.typeIs Cm
  (Bs Cm ht.typeIs entry_tuple_getitem ?_ (by trivial)))
 show A2 _ _ (E6 _>>=_) _ _ s;refine Aa (tupleItemsOf_ ht (Aa (D1 d ?_)));refine Aa (ET hs pl pu ?_);have b:¬((((sIx items.size 0 lo:Nat):Int)==0&&(1:Int)==1&&(sIx items.size items.size hi-sIx items.size 0 lo)==items.size)=ah):=by
  intro q;rw[Av,Av]at q;have i:=eq_of_beq q.1.1;simp_all
 show A2 _ _ (if _=ah then _ else _) _ _ s;rw[a_ b,MN]
 first
  |exact Aa _
  |exact Aa (By (Aa (Ah (Ah ⟨_,rfl,Ah h⟩))) a)
  |exact Aa _
  |exact Aa _
end
end HT
namespace L2
open PySem PySem.Spec PyProof.Rows
abbrev TO:=St->Hp->(Option Int->Hp->Prop)->Prop
def PO(X:Cx)(e:Option Expr)(t:TO):Prop:=
 ∀(h_:List (A_×Obj))(s:Aj)(σ:St)(H:Hp)(Q:Option Int->Hp->Prop),Inv X h_ σ H s->t σ H Q->
  A2 (A8 X.prog X.w) X.A (evalPart e X.env) (λu s'=>∃o H',Inv X h_ σ H' s'/\IsPart u o/\Q o H') X.xe s
def Ho:TO:=λ_ H Q=>Q af H
def zT(t:TE):TO:=λσ H Q=>t σ H λx H1=>∃i,x=.int i/\Q (ae i) H1
section
variable{X:Cx}{e:Expr}{te:TE}{lo hi:Option Expr}{tl th:TO}{pos p2:Pos}
theorem HF:PO X af Ho:=λh_ s σ H Q I h=>Ah ⟨_,H,I,.none,h⟩
theorem HA(h:PE X e te):PO X (ae e) (zT te):=by
 intro a s σ H Q I d;refine aP (h a s σ H _ I d) λu j u=>?_;obtain⟨x,g,c,f,b⟩:=u;obtain⟨i,rfl,q⟩:=b;obtain⟨t,rfl⟩:=f;exact⟨_,g,c,.int i t,q⟩
def SlR(X:Cx)(r:V->Option Int->Option Int->Hp->VK->Prop):Prop:=
 ∀(h_:List (A_×Obj))(s:Aj)(σ:St)(H:Hp)(x:V)(v vl vu:Ag)(lo hi:Option Int)(sl:A_)(Q:VK),Inv X h_ σ H s->RelV x v->s.heap.IsSliceOf sl vl vu .none->IsPart vl lo->IsPart vu hi->r x lo hi H Q->
  ∃T id,typeLookup (.type T) "__getitem__"=pure (ae (.builtin id))/\s.TypeIs v T/\A2 (A8 X.prog X.w) X.A (Gx v (.ref sl)) (EP X h_ σ Q) X.xe s
theorem SlR.or(h:SlR X r)(h':SlR X r'):SlR X (λx lo hi H Q=>r x lo hi H Q\/r' x lo hi H Q):=by
 intro a s σ H x v g c lo hi i Q I b f d e q;rcases q with q|q
 ·exact h a s σ H x v g c lo hi i Q I b f d e q
 ·exact h' a s σ H x v g c lo hi i Q I b f d e q
def tI(r:V->Option Int->Option Int->Hp->VK->Prop)(te:TE)(tl th:TO):TE:=λσ H Q=>te σ H λx H1=>tl σ H1 λl H2=>th σ H2 λu H3=>r x l u H3 Q
theorem sT(hr:SlR X r)(he:PE X e te)(hl:PO X lo tl)(hu:PO X hi th):PE X (.Subscript e (.Slice lo hi af p2) pos) (tI r te tl th):=by
 intro a s σ H Q I h;refine Subscript_ (aP (he a s σ H _ I h) λv G ⟨x,z,B,E,p⟩=>wpAny_Slice (aP (hl a G σ z _ B p) λvl C ⟨l,t,j,y,n⟩=>aP (hu a C σ t _ j n) λvu d b=>?_));obtain⟨u,f,A,D,J⟩:=b;refine Ah ?_;have o:Inv X a σ f {d with heap:=d.heap.push {cls:=.type "slice",data:=.fields #[vl,vu,.none]}}:=A.kept λb K=>Ae _;obtain⟨T,L,k,w,m⟩:=hr a {d with heap:=d.heap.push {cls:=.type "slice",data:=.fields #[vl,vu,.none]}} σ f x v vl vu l u d.heap.objs.size Q o E (Gp ..) y D J;exact tail_any w k m (by trivial)
def fA(xs:List V)(lo hi:Option Int):List V:=(xs.drop (HT.sIx xs.length 0 lo)).take (HT.sIx xs.length xs.length hi-HT.sIx xs.length 0 lo)
theorem rJ(xs:List V)(lo hi):(fA xs lo hi).length<=xs.length:=by
 unfold fA;simp<;>omega
def pb(K:Af):V->Option Int->Option Int->Hp->VK->Prop:=λx lo hi H Q=>∃a xs,x=.ref a/\SqT K H a xs /\
 ¬(HT.sIx xs.length 0 lo=0/\HT.sIx xs.length xs.length hi=xs.length)/\∀p,H p=af->Q (.ref p) (upd H p (.tup (fA xs lo hi)))
theorem sl_tup:SlR X (pb X.K):=by
 intro g s σ H x v y t p i z Q I j o k m h;obtain⟨a,f,rfl,n,u,q⟩:=h;cases j;obtain⟨d,r,e,l⟩:=I.tuple n;have c:d.toArray.size=f.length:=r.length.symm;refine⟨_,_,PyProof.Rows.slot_tuple_getitem.lookup,e.typeIs,HT.getItem_tuple_cut e o k m (by rw[c];omega) ?_ (by simp_all)⟩;rw[c];refine⟨.ref s.heap.objs.size,_,I.laid (λb w=>Ae _) (by simp) ?_,rfl,q _ (I.hok.fresh (by simp))⟩;exact⟨A5 (rJ f p i) l,_,(r.drop _).take _,IsTupP.new _ _⟩
def CC(K:Af):R2:=λx y H Q=>∃a b xs ys,x=.ref a/\y=.ref b/\SqT K H a xs/\SqT K H b ys/\xs≠[]/\xs.length+ys.length<=As /\
 (ys=[]->Q (.ref a) H)/\(ys≠[]->∀p,H p=af->Q (.ref p) (upd H p (.tup (xs++ys))))
theorem Vals.nil_iff(r:Vals xs us):us=[]↔xs=[]:=by
 cases r with
 |nil=>simp
 |cons _ _=>simp
theorem op_catT:OpR X (Fb .Add) (CC X.K):=by
 intro f s σ H x y v u Q I k m h;obtain⟨a,b,A,C,rfl,rfl,t,o,n,l,j,i⟩:=h;cases k;cases m;obtain⟨p,d,g,_⟩:=I.tuple t;obtain⟨e,c,r,_⟩:=I.tuple o;refine HT.cat_tup g r (λz=>n (d.nil_iff.mp z)) (λz=>⟨.ref a,H,I,rfl,j (c.nil_iff.mp z)⟩) (λz=>⟨.ref s.heap.objs.size,_,I.laid (λb B=>Ae _) (by simp) ?_,rfl,i (λw=>z (c.nil_iff.mpr w)) _ (I.hok.fresh (by simp))⟩) (by rw[<-d.length,<-c.length];omega);exact⟨An▸l,_,d.append c,IsTupP.new _ _⟩
end
def iU(n:Nat)(i:Int):Option Nat:=if 0<=i then(if i < n then ae i.toNat else af)else if -(n:Int)<=i then ae (i+n).toNat else af
def c8{α:Type}(xs:List α)(i:Int):Option α:=(iU xs.length i).bind λj=>xs[j]?
theorem wW(h:iU n i=ae j):seqIndex? i n=ae j/\j < n/\-(n:Int)<=i/\i < n:=by
 unfold iU at h;by_cases b:0<=i
 ·rw[a' b]at h;by_cases a:i < n
  ·rw[a' a]at h;have e:=B2 h;exact⟨by rw[seqIndex_of b a,e],by grind⟩
  ·rw[a_ a]at h;cases h
 ·rw[a_ b]at h;by_cases a:-n<=i
  ·rw[a' a]at h;have e:=B2 h;exact⟨by rw[seqIndex_neg ⋯ a,e],by omega⟩
  ·rw[a_ a]at h;cases h
theorem vV(h:c8 xs i=ae v):∃j,seqIndex? i xs.length=ae j/\xs[j]?=ae v/\j < xs.length/\-(xs.length:Int)<=i/\i < xs.length:=by
 unfold c8 at h;cases e:iU xs.length i with
 |none=>rw[e]at h;cases h
 |some j=>
  rw[e]at h;obtain⟨f,a,b,c⟩:=wW e;exact⟨j,f,h,a,b,c⟩
theorem eW{j:Nat}(h:xs[j]?=ae v):c8 xs (j:Int)=ae v:=by
 have b:=(Aw.mp h).1;have e:iU xs.length j=ae j:=by
  unfold iU;simp<;>omega
 unfold c8;rw[e];exact h
def rT(b:Expr):Prop:=∀o i,subscripted b ai o i=operate [o,i] (Gx o i)
def IxR(X:Cx)(r:R2):Prop:=
 ∀(value slice:Expr)(h_:List (A_×Obj))(s:Aj)(σ:St)(H:Hp)(x y:V)(v u:Ag)(Q:VK),Inv X h_ σ H s->RelV x v->RelV y u->r x y H Q->
  subscripted slice ai v u=operate [v,u] (Gx v u)->A2 (A8 X.prog X.w) X.A (subscriptTail value slice v u) (EP X h_ σ Q) X.xe s
def xh(X:Cx)(id:String)(r:V->List V->Hp->VK->Prop):Prop:=
 ∀(h_:List (A_×Obj))(s:Aj)(σ:St)(H:Hp)(x:V)(xs:List V)(v:Ag)(us:List Ag)(Q:VK),Inv X h_ σ H s->RelV x v->Vals xs us->r x xs H Q->
  A2 (A8 X.prog X.w) X.A (call (.builtin id) (v::us)) (EP X h_ σ Q) X.xe s
section
variable{X:Cx}{a b:Expr}{ta tb:TE}{pos:Pos}
theorem IxR.or(h:IxR X r)(h':IxR X r'):IxR X (λx y H Q=>r x y H Q\/r' x y H Q):=by
 intro b a c s σ H x y v u Q I e d q f;rcases q with q|q
 ·exact h b a c s σ H x y v u Q I e d q f
 ·exact h' b a c s σ H x y v u Q I e d q f
theorem ie(hr:IxR X r)(ha:PE X a ta)(hb:PE X b tb)(hs:rT b):PE X (.Subscript a b pos) (dQ r ta tb):=λh_ s σ H Q I h=>Subscript_ (kG ha hb I h λv u f x y e g i d q=>hr a b h_ f σ e x y v u Q g i d q (hs _ _))
def nY(K:Af):R2:=λx y H Q=>∃p xs i v,x=.ref p/\y=.int i/\SqL K H p xs/\c8 xs i=ae v/\Q v H
def nv(K:Af):R2:=λx y H Q=>∃p xs i v,x=.ref p/\y=.int i/\SqT K H p xs/\c8 xs i=ae v/\Q v H
def mU:R2:=λx y H Q=>∃z i c,x=.str z/\y=.int i/\z.length<=As/\c8 z.cps.toList i=ae c/\Q (.str ⟨#[c]⟩) H
theorem ix_list:IxR X (nY X.K):=by
 intro k g b s σ H x y v u Q I E G h o;obtain⟨p,O,i,z,rfl,rfl,F,C,q⟩:=h;cases E;obtain⟨t,rfl⟩:=G;obtain⟨f,r,e,M⟩:=I.list F;obtain⟨j,m,A,L,D,B⟩:=vV C;obtain⟨w,n,d⟩:=r.get A;have J:=r.length;have N:=mE;have a:EP X b σ Q w s:=⟨z,H,I,d,q⟩;by_cases l:0<=i
 ·have c:i.toNat=j:=by
   rw[seqIndex_of l B]at m;simp_all
  exact item_listR e.isList l ⋯ (by rw[c];simpa using n) a o
 ·have c:(i+(f.toArray.size:Int)).toNat=j:=by
   rw[seqIndex_neg ⋯ D]at m;simp_all
  exact subscriptTail_builtinR e.isList.typeIs slot_list_getitem.lookup
   (wpAny_getItem_list_neg e.isList ⋯ (by simp<;>omega) ⋯ (by rw[c];simpa using n) ⟨rfl,a⟩) o
theorem ix_tup:IxR X (nv X.K):=by
 intro e d a s σ H x y v u Q I l n h B;obtain⟨p,L,i,z,rfl,rfl,m,k,q⟩:=h;cases l;obtain⟨t,rfl⟩:=n;obtain⟨A,r,f,G⟩:=I.tuple m;obtain⟨j,F,g,D,E,C⟩:=vV k;obtain⟨w,o,b⟩:=r.get g;have J:=mE;have c:EP X a σ Q w s:=⟨z,H,I,b,q⟩;exact subscriptTail_builtinR f.typeIs slot_tuple_getitem.lookup
  (getItem_tuple f ⋯ ⋯ (by rw[B4,<-r.length];omega) (by simpa using o) ⟨rfl,c⟩) B
theorem Vr:IxR X mU:=by
 intro b a e s σ H x y v u Q I n o h r;obtain⟨z,i,c,rfl,rfl,B,l,q⟩:=h;obtain⟨t,rfl⟩:=n;obtain⟨C,rfl⟩:=o;obtain⟨j,d,f,A,m,g⟩:=vV l;have k:z.cps.toList.length=z.length:=by rfl
 rw[k]at d m g;have D:=mE;exact tail_any (by trivial) slot_str_getitem.lookup (getItem_str (by
  simp<;>omega) (by rw[d];simpa using f) ⟨.str _,H,I.tok _,⟨_,rfl⟩,q⟩) r
def ly(K:Af):R2:=λx y H Q=>nY K x y H Q\/nv K x y H Q\/mU x y H Q
theorem sR:IxR X (ly X.K):=ix_list.or (ix_tup.or Vr)
theorem RK(i_:List Ag)(n j)(u):Ex (·.setIfInBounds j u) {cls:=.type "list",data:=.seq i_.toArray n}={ cls:=.type "list",data:=.seq (i_.set j u).toArray n}:=by
 simp[Ex]
theorem Inv.lst{σ:St}{H:Hp}{s:Aj}{p:A_}{xs:List V}(I:Inv X h_ σ H s)(h:H p=ae (.lst xs)):
  ∃(i_:List Ag)(n:Nat),Vals xs i_/\s.heap.get? p=ae {cls:=.type "list",data:=.seq i_.toArray n}/\xs.length<=As:=by
 obtain⟨z,i_,n,r,e⟩:=I.hok p _ h;exact⟨i_,n,r,e,z⟩
theorem Inv.lstUpd{σ:St}{i_ its':List Ag}(I:Inv X h_ σ H s)(h:H p=ae (.lst xs))
  (ho:s.heap.get? p=ae {cls:=.type "list",data:=.seq i_.toArray n}) (hf:f {cls:=.type "list",data:=.seq i_.toArray n}={ cls:=.type "list",data:=.seq its'.toArray n'}) (r:Vals ys its') (hz:ys.length<=As) (t):
  Inv X h_ σ (upd H p (.lst ys)) {s with heap:=s.heap.update p f,toks:=t}:=by
 have e:(s.heap.update p f).get? p=ae {cls:=.type "list",data:=.seq its'.toArray n'}:=by
  rw[Bq f ho (by rw[hf]<;>rfl),hf]
 refine I.write (by rw[h];trivial) (.inl rfl) (λb u a=>(Eb _ _ (Ne.symm a)).trans) ⟨_,e⟩ ?_;exact⟨hz,_,n',r,e⟩
def qV:V->V->V->Hp->(Hp->Prop)->Prop:=λo i v H Q=>∃p xs k j,o=.ref p/\i=.int k/\H p=ae (.lst xs)/\iU xs.length k=ae j/\Q (upd H p (.lst (xs.set j v)))
theorem m7:pE X qV:=by
 intro m s σ H o i v J F u Q I B z A h;obtain⟨p,G,k,j,rfl,rfl,e,y,q⟩:=h;cases B;obtain⟨t,rfl⟩:=z;obtain⟨a,n,r,c,D⟩:=I.lst e;obtain⟨g,C,w,x⟩:=wW y;have d:=r.length;have E:=mE;have l:=
  I.lstUpd e c (RK a n j u) (r.set A j) (by simp<;>omega) s.toks
 by_cases f:0<=k
 ·have b:k.toNat=j:=by
   rw[seqIndex_of f x]at g;simp_all
  exact PySem.W.ki_setAt c f ⋯ (by simp_all<;>omega) (b▸⟨_,l,q⟩)
 ·have b:(k+(a.toArray.size:Int)).toNat=j:=by
   rw[seqIndex_neg ⋯ w]at g;simp_all
  exact PySem.W.ki_setBack c ⋯ (by simp_all<;>omega) ⋯ (b▸⟨_,l,q⟩)
theorem NR(lo hi)(n):(Fj lo hi af n).1=((HT.sIx n 0 lo:Nat):Int)/\(Fj lo hi af n).2.1=((HT.sIx n n hi:Nat):Int)/\(Fj lo hi af n).2.2=1:=by
 refine⟨?_,?_,rfl⟩
 ·cases lo with
  |none=>simp[Fj,HT.sIx]
  |some i=>
   simp only[Fj,HT.sIx,Option.getD_none,show(1:Int) > 0 by decide,if_true];by_cases h:i < 0
   ·simp only[h,if_true]<;>omega
   ·simp only[h,if_false]<;>omega
 ·cases hi with
  |none=>simp[Fj,HT.sIx]
  |some i=>
   simp only[Fj,HT.sIx,Option.getD_none,show(1:Int) > 0 by decide,if_true];by_cases h:i < 0
   ·simp only[h,if_true]<;>omega
   ·simp only[h,if_false]<;>omega
theorem S0(i_:List Ag)(lo hi):slicePick i_.toArray lo hi af=((i_.drop (HT.sIx i_.length 0 lo)).take (HT.sIx i_.length i_.length hi-HT.sIx i_.length 0 lo)).toArray:=by
 obtain⟨c,a,b⟩:=NR lo hi i_.toArray.size;unfold slicePick;rw[c,a,b];simp only[sliceRange_one,pick_run]<;>rfl
def oz(K:Af):V->Option Int->Option Int->Hp->VK->Prop:=λx lo hi H Q=>∃a xs,x=.ref a/\SqL K H a xs/\∀p,H p=af->Q (.ref p) (upd H p (.lst (fA xs lo hi)))
theorem HI:SlR X (oz X.K):=by
 intro e s σ H x v w t p f y Q I g o i k h;obtain⟨a,l,rfl,m,q⟩:=h;cases g;obtain⟨n,r,d,j⟩:=I.list m;have c:=r.length;refine⟨_,_,slot_list_getitem.lookup,d.isList.typeIs,wpAny_getItem_list_slice d.isList o i k .none (by simp) ?_ (by simp<;>omega)⟩;rw[S0,<-c];refine⟨.ref s.heap.objs.size,_,I.laid (λb u=>Ae _) (by simp) ?_,rfl,q _ (I.hok.fresh (by simp))⟩;exact⟨A5 (rJ l p f) j,_,0,(r.drop _).take _,Ar _ rfl⟩
def iq:V->Bool
 |.non=>ah
 |.bl _=>ah
 |.int _=>ah
 |.str _=>ah
 |_=>ai
def iI:V->V->Bool
 |.non,.non=>ah
 |.bl a,.bl b=>a==b
 |.bl a,.int b=>(if a then 1 else 0)==b
 |.int a,.bl b=>a==(if b then 1 else 0)
 |.int a,.int b=>a==b
 |.str a,.str b=>a==b
 |_,_=>ai
theorem zS(ry:RelV y u)(rx:RelV x v)(fy:iq y=ah)(fx:iq x=ah):SeqAt.EqAt A s u v (iI y x):=by
 cases y with
 |non=>
  cases ry;cases x with
  |non=>cases rx;exact SeqAt.EqAt.same _
  |bl b=>cases rx;exact SeqAt.EqAt.none_bool b
  |int b=>obtain⟨t,rfl⟩:=rx;exact SeqAt.EqAt.none_int b t
  |str b=>obtain⟨t,rfl⟩:=rx;exact SeqAt.EqAt.none_str b t
  |_=>exact f_ (fx) A7
 |bl a=>
  cases ry;cases x with
  |non=>cases rx;exact SeqAt.EqAt.bool_none a
  |bl b=>cases rx;exact SeqAt.EqAt.bool_bool a b
  |int b=>obtain⟨t,rfl⟩:=rx;exact SeqAt.EqAt.bool_int a b t
  |str b=>obtain⟨t,rfl⟩:=rx;exact SeqAt.EqAt.bool_str a b t
  |_=>exact f_ (fx) A7
 |int a=>
  obtain⟨c,rfl⟩:=ry;cases x with
  |non=>cases rx;exact SeqAt.EqAt.int_none a c
  |bl b=>cases rx;exact SeqAt.EqAt.int_bool a c b
  |int b=>obtain⟨t,rfl⟩:=rx;exact SeqAt.EqAt.int_int a c b t
  |str b=>obtain⟨t,rfl⟩:=rx;exact SeqAt.EqAt.int_str a c b t
  |_=>exact f_ (fx) A7
 |str a=>
  obtain⟨c,rfl⟩:=ry;cases x with
  |non=>cases rx;exact SeqAt.EqAt.str_none a c
  |bl b=>cases rx;exact SeqAt.EqAt.str_bool a c b
  |int b=>obtain⟨t,rfl⟩:=rx;exact SeqAt.EqAt.str_int a c b t
  |str b=>obtain⟨t,rfl⟩:=rx;exact SeqAt.EqAt.str_str a c b t
  |_=>exact f_ (fx) A7
 |_=>exact f_ (fy) A7
def la(x:V)(u:Ag):Bool:=match u with
 |.none=>iI .non x
 |.bool b=>iI (.bl b) x
 |.int i _=>iI (.int i) x
 |.str z _=>iI (.str z) x
 |_=>ai
theorem AK(r:RelV y u)(f:iq y=ah):la x u=iI y x:=by
 cases y with
 |non=>cases r;rfl
 |bl b=>cases r;rfl
 |int i=>obtain⟨t,rfl⟩:=r;rfl
 |str z=>obtain⟨t,rfl⟩:=r;rfl
 |_=>exact f_ (f) A7
theorem mW:∀{xs:List V}{us:List Ag},Vals xs us->xs.all iq=ah->us.any (la x)=xs.any λy=>iI y x
 |_,_,.nil,_=>rfl
 |y::xs,u::us,.cons r t,f=>by
  rw[Cr,Av]at f;rw[C5,C5,AK r f.1,mW t f.2]
theorem mZ(rx:RelV x v)(fx:iq x=ah):∀{xs:List V}{us:List Ag},Vals xs us->xs.all iq=ah->∀u∈us,SeqAt.EqAt A s u v (la x u)
 |_,_,.nil,_=>λu a=>by trivial
 |y::xs,u::us,.cons r t,f=>λu' a=>by
  rw[Cr,Av]at f;rcases Ao.mp a with rfl|a
  ·rw[AK r f.1];exact zS r rx f.1 fx
  ·exact mZ rx fx t f.2 u' a
def qA(x:V)(xs:List V):Bool:=xs.any λy=>iI y x
def ib(K:Af)(neg:Bool):R2:=λx y H Q=>∃p xs,y=.ref p/\(SqL K H p xs\/SqT K H p xs)/\iq x=ah/\xs.all iq=ah/\Q (.bl (if neg then !qA x xs else qA x xs)) H
theorem VB:OpR X (Bm .In) (ib X.K ai):=by
 intro g s σ H x y v u Q I f j h;obtain⟨p,l,rfl,b,e,c,q⟩:=h;cases j;rcases b with b|b
 ·obtain⟨a,r,d,i⟩:=I.list b;refine SeqAt.in_listAt _ d.isList (λw k=>mZ f e r c w (by simp_all)) ⟨.bl _,H,I,rfl,?_⟩;rw[show a.toArray.any _=a.any (la x) by simp,mW r c];exact q
 ·obtain⟨a,r,d,i⟩:=I.tuple b;refine SeqAt.in_tupleAt _ d (λw k=>mZ f e r c w (by simp_all)) ⟨.bl _,H,I,rfl,?_⟩;rw[show a.toArray.any _=a.any (la x) by simp,mW r c];exact q
theorem Sw:OpR X (Bm .NotIn) (ib X.K ah):=by
 intro g s σ H x y v u Q I f j h;obtain⟨p,l,rfl,b,e,c,q⟩:=h;cases j;rcases b with b|b
 ·obtain⟨a,r,d,i⟩:=I.list b;refine SeqAt.notIn_listAt _ d.isList (λw k=>mZ f e r c w (by simp_all)) ⟨.bl _,H,I,rfl,?_⟩;rw[show a.toArray.any _=a.any (la x) by simp,mW r c];exact q
 ·obtain⟨a,r,d,i⟩:=I.tuple b;refine SeqAt.notIn_tupleAt _ d (λw k=>mZ f e r c w (by simp_all)) ⟨.bl _,H,I,rfl,?_⟩;rw[show a.toArray.any _=a.any (la x) by simp,mW r c];exact q
theorem qB:CallR X (.builtin "len") (λxs H Q=>∃p ys,xs=[.ref p]/\(SqL X.K H p ys\/SqT X.K H p ys)/\Q (.int ys.length) H):=by
 intro f s σ H xs j Q I r h;obtain⟨p,ys,rfl,b,q⟩:=h;obtain⟨u,rfl,g⟩:=f6 r;cases g;have k:=mE;rcases b with b|b
 ·obtain⟨e,d,c,i⟩:=I.list b;have a:=d.length;exact Calls.call_len_list c.isList (by simp only[B4]<;>omega) ⟨.int ys.length,H,I.tok _,⟨_,by rw[B4,a]⟩,q⟩
 ·obtain⟨e,d,c,i⟩:=I.tuple b;have a:=d.length;exact len_tuple c (by simp only[B4]<;>omega) ⟨.int ys.length,H,I.tok _,⟨_,by rw[B4,a]⟩,q⟩
theorem call_len_str:CallR X (.builtin "len") (λxs H Q=>∃z,xs=[.str z]/\z.length<=As/\Q (.int z.length) H):=by
 intro a s σ H xs c Q I r h;obtain⟨z,rfl,d,q⟩:=h;obtain⟨u,rfl,t,rfl⟩:=f6 r;have b:=mE;exact len_str ⋯ ⟨.int z.length,H,I.tok _,⟨_,rfl⟩,q⟩
theorem CallR.or(h:CallR X f r)(h':CallR X f r'):CallR X f (λxs H Q=>r xs H Q\/r' xs H Q):=by
 intro a s σ H xs b Q I c q;rcases q with q|q
 ·exact h a s σ H xs b Q I c q
 ·exact h' a s σ H xs b Q I c q
theorem LH:CallR X (.type "list") (λxs H Q=>∃p ys,xs=[.ref p]/\(SqL X.K H p ys\/SqT X.K H p ys)/\∀l,H l=af->Q (.ref l) (upd H l (.lst ys))):=by
 intro t s σ H xs D Q I r h;obtain⟨p,ys,rfl,j,q⟩:=h;obtain⟨u,rfl,C⟩:=f6 r;cases C;have m:∀i_,Vals ys i_->ys.length<=As->∀f d,(∀b o',s.heap.get? b=ae o'->f.get? b=ae o')->
   f.get? s.heap.objs.size=ae {cls:=.type "list",dict:=af,data:=.seq i_.toArray d,slots:=#[]}->EP X t σ Q _ {s with heap:=f}:=λi_ c k f d g e=>
  ⟨.ref s.heap.objs.size,_,I.laid g (by simp) (show ObjOk X.prog X.w _ f _ (.lst ys)from⟨k,i_,d,c,e⟩),rfl,q _ (I.hok.fresh (by simp))⟩
 rcases j with j|j
 ·obtain⟨i_,c,y,k⟩:=I.list j;have i:=c.length;obtain⟨o,v,z,n,x⟩:=y.isList;exact call_list_seq p (.inl rfl) v z x (m i_ c k) (by simp<;>omega)
 ·obtain⟨i_,c,y,k⟩:=I.tuple j;have i:=c.length;obtain⟨o,v,z,n,x⟩:=y;exact call_list_seq p (.inr rfl) v z x (m i_ c k) (by simp<;>omega)
theorem MT:CallR X (.type "tuple") (λxs H Q=>∃p ys,xs=[.ref p]/\((SqL X.K H p ys/\∀l,H l=af->Q (.ref l) (upd H l (.tup ys)))\/(SqT X.K H p ys/\Q (.ref p) H))):=by
 intro a s σ H xs y Q I r h;obtain⟨p,ys,rfl,h⟩:=h;obtain⟨u,rfl,x⟩:=f6 r;cases x;rcases h with⟨g,q⟩|⟨g,q⟩
 ·obtain⟨c,i,f,n⟩:=I.list g;have m:=i.length;refine call_tuple_list f.isList (λh' v=>?_) (by simp<;>omega);have t:Inv X a σ H {s with heap:=h'}:=I.kept v;have w:Inv X a σ (upd H h'.objs.size (.tup ys)) {s with heap:=h'.push {cls:=.type "tuple",data:=.seq c.toArray}}:=
   t.laid (λb o=>Ae _) (by simp) (⟨n,c,i,IsTupP.new _ _⟩)
  exact⟨.ref h'.objs.size,_,w,rfl,q _ (t.hok.fresh (by simp))⟩
 ·obtain⟨c,i,f,n⟩:=I.tuple g;exact call_tuple_same f ⟨.ref p,H,I,rfl,q⟩
def uV(K:Af)(T:String)(x:V)(H:Hp):Prop:=match x with
 |.str _=>T="str"
 |.int _=>T="int"
 |.ref p=>(T="list"/\∃xs,SqL K H p xs)\/(T="tuple"/\∃o,K.lookup p=ae o/\o.cls=.type "tuple"/\o.dict=af) \/
   (T="dict"/\((∃kvs,H p=ae (.dK kvs))\/∃kvs,H p=ae (.dT kvs)))\/(T="set"/\∃S n,H p=ae (.set S n))
 |_=>False
theorem FK{σ:St}(I:Inv X h_ σ H s)(r:RelV x v)(ty:uV X.K T x H):
  s.TypeIs v T/\∀a,v=.ref a->∃ob,s.heap.get? a=ae ob/\ob.dict=af:=by
 cases x with
 |str z=>
  obtain⟨t,rfl⟩:=r;cases(ty);exact⟨typeIs_str s z t,λ_ e=>nomatch e⟩
 |int i=>
  obtain⟨t,rfl⟩:=r;cases(ty);exact⟨typeIs_int s i t,λ_ e=>nomatch e⟩
 |ref p=>
  cases r;rcases ty with⟨rfl,w,l⟩|⟨rfl,o,b,u,g⟩|⟨rfl,b⟩|⟨rfl,S,n,b⟩
  ·obtain⟨q,_,j,_⟩:=I.list l;refine⟨j.isList.typeIs,λa e=>?_⟩;cases e;obtain⟨o,n,e,c,g,_⟩:=j;exact⟨o,e,g⟩
  ·refine⟨⟨o,I.kIn p o b,u⟩,λa e=>?_⟩;cases e;exact⟨o,I.kIn _ o b,g⟩
  ·have z:∃o,s.heap.get? p=ae o/\o.ExactDict:=by
    rcases b with⟨f,b⟩|⟨f,b⟩
    ·obtain⟨_,_,_,_,o,_,_,e,d,_⟩:=I.hok p _ b;exact⟨o,e,d⟩
    ·obtain⟨_,_,_,_,o,_,_,e,d,_⟩:=I.hok p _ b;exact⟨o,e,d⟩
   obtain⟨o,e,d⟩:=z;refine⟨⟨o,e,d.1⟩,λa h=>?_⟩;cases h;exact⟨o,e,d.2.1⟩
  ·obtain⟨o,_,_,_,e,d,_⟩:=I.hok p _ b;refine⟨⟨o,e,d.1⟩,λa h=>?_⟩;cases h;exact⟨o,e,d.2.1⟩
 |_=>exact False.elim ty
def m4(K:Af)(T:String)(r:V->List V->Hp->VK->Prop)(to:TE):TE:=λσ H Q=>to σ H λx H1=>uV K T x H1/\r x [] H1 Q
def oe(K:Af)(T:String)(r:V->List V->Hp->VK->Prop)(to:TE)(t:TA):TE:=λσ H Q=>to σ H λx H1=>uV K T x H1/\t σ H1 λxs H2=>r x xs H2 Q
variable{o e:Expr}{es:List Expr}{to:TE}{t:TA}{name:Str}{apos cpos:Pos}{T id:String}{r:V->List V->Hp->VK->Prop}
theorem Vt(pa:PlainAttrs T)(slot:Slot T name id)(hty:typeOf (.builtin id)=pure (.type "method_descriptor"))(hm:xh X id r)(ho:PE X o to)
  (hbase:Gi o name X.env (eval o X.env)=eval o X.env:=by rfl) (hline:(apos.endLine==cpos.line)=ah:=by rfl):PE X (.Call (.Attribute o name apos) [] [] cpos) (m4 X.K T r to):=by
 intro a s σ H Q I h;refine wpAny_Call_method0_late hbase hline (aP (ho a s σ H _ I h) λv g u=>?_);obtain⟨x,i,b,c,e,f⟩:=u;obtain⟨j,d⟩:=FK b c e;exact⟨T,id,pa,slot,hty,j,d,Calls.callWith_builtin rfl (PySem.evalArgs_none (hm a g σ i x [] v [] Q b c .nil f))⟩
theorem q0(pa:PlainAttrs T)(slot:Slot T name id)(hty:typeOf (.builtin id)=pure (.type "method_descriptor"))(hm:xh X id r)(ho:PE X o to)(ha:PA X (e::es) t)
  (hbase:Gi o name X.env (eval o X.env)=eval o X.env:=by rfl)
  (hfew:((C6 cpos (Au (e::es) X.env)).all (λx=>!x.1)&&(backToKw cpos (keywordEach [] X.env)).all (λx=>x.1.isSome)
   && decide ((e::es).length+([]:List Keyword).length+(if ([]:List Keyword).isEmpty then 0 else 1) < 30))=ah:=by rfl)
  (hline:(apos.endLine==cpos.line)=ah:=by rfl) (hs:Au (e::es) X.env=(ai,eval e X.env)::Au es X.env:=by rfl) (hplain:(C6 cpos (Au es X.env)).any (·.1)=ai:=by rfl):
  PE X (.Call (.Attribute o name apos) (e::es) [] cpos) (oe X.K T r to t):=by
 intro a s σ H Q I h;refine wpAny_Call_method_late hbase hfew hline rfl (aP (ho a s σ H _ I h) λv w y=>?_);obtain⟨x,m,b,c,p,j⟩:=y;obtain⟨n,f⟩:=FK b c p;refine⟨T,id,pa,slot,hty,n,f,?_⟩;have d:=ha cpos a w σ m _ b j;rw[hs]at d ⊢;exact Calls.callWith_builtin (by assumption) (Calls.evalArgs_plain (aP d λus q z=>by obtain⟨l,k,g,u,i⟩:=z;exact hm a q σ k x l v us Q g c u i))
end
def qU(X:Cx)(id:String)(r:V->List V->Hp->VK->Prop):Prop:=
 ∀(h_:List (A_×Obj))(s:Aj)(σ:St)(H:Hp)(x:V)(xs:List V)(v:Ag)(us:List Ag)(Q:VK),Inv X h_ σ H s->RelV x v->Vals xs us->r x xs H Q->
  A2 (A8 X.prog X.w) X.A (call (.builtin id) (v::us)) (EP X h_ σ Q) X.xe s
theorem Vals.one:∀{x:V}{us:List Ag},Vals [x] us->∃u,us=[u]/\RelV x u
 |_,_,.cons r .nil=>⟨_,rfl,r⟩
theorem Vals.zero:∀{us:List Ag},Vals [] us->us=[]
 |_,.nil=>rfl
theorem Vals.eraseIdx:∀{xs:List V}{us:List Ag}(i:Nat),Vals xs us->Vals (xs.eraseIdx i) (us.eraseIdx i)
 |_,_,_,.nil=>.nil
 |_,_,0,.cons _ t=>t
 |_,_,i+1,.cons r t=>.cons r (Vals.eraseIdx i t)
theorem Vals.reverse(h:Vals xs us):Vals xs.reverse us.reverse:=by
 induction h with
 |nil=>exact .nil
 |cons r t a=>rw[List.reverse_cons,List.reverse_cons];exact Vals.append a (.cons r .nil)
theorem v3{α:Type}:∀(l:List α)(i:Nat),(l.eraseIdx i).length<=l.length
 |[],_=>Bh _
 |_::_,0=>Nat.le_succ _
 |_::r,i+1=>Nat.succ_le_succ (v3 r i)
section
variable{X:Cx}{h_:List (A_×Obj)}{σ:St}{H:Hp}{s:Aj}{l b:A_}{xs ys zs:List V}
theorem Inv.lset{i_ its':List Ag}(I:Inv X h_ σ H s)(hH:H l=ae (.lst xs))
  (e:s.heap.get? l=ae {cls:=.type "list",data:=.seq i_.toArray n}) (hf:f i_.toArray=its'.toArray) (hv:Vals ys its') (hz:ys.length<=As):
  Inv X h_ σ (upd H l (.lst ys)) {s with heap:=s.heap.update l (Ex f),toks:=t'}:=by
 have q:=PySem.IsL.update e f;rw[hf]at q;refine I.write (by rw[hH];trivial) (.inl rfl) (λb' u b=>(Eb s.heap _ (Ne.symm b)).trans) ⟨_,q⟩ ?_;exact⟨hz,_,_,hv,q⟩
theorem Inv.lnew(I:Inv X h_ σ H s)(hv:Vals ys i_)(hz:ys.length<=As):
  Inv X h_ σ (upd H s.heap.objs.size (.lst ys)) {s with heap:=s.heap.push {cls:=.type "list",data:=.seq i_.toArray},toks:=t'}:=
 I.laid (λ_ _=>Ae _) (by simp) ⟨hz,i_,0,hv,Ar _ rfl⟩
theorem Inv.fresh(I:Inv X h_ σ H s):H s.heap.objs.size=af:=I.hok.fresh (by simp)
theorem Inv.lstM(I:Inv X h_ σ H s)(hH:H l=ae (.lst xs)):xs.length<=As/\∃(i_:List Ag)(n:Nat),Vals xs i_/\xs.length=i_.length/\s.heap.get? l=ae {cls:=.type "list",data:=.seq i_.toArray n}:=by
 obtain⟨z,i_,n,r,e⟩:=I.hok l _ hH;exact⟨z,i_,n,r,r.length,e⟩
theorem sF(h:n<=As):Fn n=ai:=c_ ⋯
end
section
variable{X:Cx}
def GZ:V->List V->Hp->VK->Prop:=λx vs H Q=>∃l xs y,x=.ref l/\vs=[y]/\H l=ae (.lst xs)/\xs.length < As/\Q .non (upd H l (.lst (xs++[y])))
theorem yv:qU X "list.append" GZ:=by
 intro c s σ H x j v k Q I d f h;obtain⟨l,o,y,rfl,rfl,b,m,q⟩:=h;cases d;obtain⟨u,rfl,g⟩:=f.one;obtain⟨z,a,n,r,i,e⟩:=I.lstM b;refine call_meets F.slot_list_append ⟨_,e,rfl⟩ F.entry_list_append (by trivial) (PySem.list_append l a.toArray n u (by simp<;>omega)) ⟨e,⟨.non,_,I.lset b e (by simp) (r.append (.cons g .nil)) ?_,rfl,q⟩⟩;simp<;>omega
def yE:V->List V->Hp->VK->Prop:=λx vs H Q=>∃l b xs zs,x=.ref l/\vs=[.ref b]/\H l=ae (.lst xs)/\H b=ae (.lst zs)/\xs.length+zs.length<=As/\Q .non (upd H l (.lst (xs++zs)))
theorem Wl:qU X "list.extend" yE:=by
 intro j s σ H x E v G Q I k m h;obtain⟨l,b,K,C,rfl,rfl,i,o,J,q⟩:=h;cases k;obtain⟨u,rfl,A⟩:=m.one;cases A;obtain⟨z,c,n,r,B,e⟩:=I.lstM i;obtain⟨D,a,p,y,t,w⟩:=I.lstM o;have g:c.toArray.size+a.toArray.size<=As:=by simp<;>omega
 have d:¬(!c.toArray.isEmpty&&Fn (c.toArray.size+a.toArray.size))=ah:=by
  rw[sF g];simp
 refine call_meets F.slot_list_extend ⟨_,e,rfl⟩ F.entry_list_extend (by trivial)
  (AutoSeq1.list_extend_list_list_0 l c.toArray n b a.toArray p d (by simp_all) ⋯) ⟨e,w,?_⟩
 refine⟨.non,_,I.lset i e (by simp) (r.append y) ?_,rfl,q⟩;simp<;>omega
def zc:V->List V->Hp->VK->Prop:=λx vs H Q=>∃l xs i k y,x=.ref l/\vs=[.int i]/\H l=ae (.lst xs)/\-(2 ^ 63)<=i/\i < 2 ^ 63/\seqIndex? i xs.length=ae k/\xs[k]?=ae y/\Q y (upd H l (.lst (xs.eraseIdx k)))
theorem Np:qU X "list.pop" zc:=by
 intro d s σ H x D v E Q I j m h;obtain⟨l,p,i,k,y,rfl,rfl,c,o,f,C,A,q⟩:=h;cases j;obtain⟨u,rfl,B⟩:=m.one;obtain⟨t,rfl⟩:=B;obtain⟨z,a,n,r,g,e⟩:=I.lstM c;obtain⟨w,G,b⟩:=r.get A;refine call_meets F.slot_list_pop ⟨_,e,rfl⟩ F.entry_list_pop (F.args_list_pop_2 _ _)
  (MeetsSeq.list_pop_at l a.toArray n i t k w (fitsIndex_both o f) (by rw[B4,<-g];omega) (by rw[<-Eg];omega) (by rw[B4];omega)) ⟨e,?_⟩
 refine⟨y,_,I.lset c e ?_ (r.eraseIdx k) ?_,b,q⟩
 ·show a.toArray.eraseIdxIfInBounds k=(a.eraseIdx k).toArray;simp
 ·have:=v3 p k;omega
def iG:R2:=λx y H Q=>∃l b xs zs,x=.ref l/\y=.ref b/\H l=ae (.lst xs)/\H b=ae (.lst zs)/\xs.length+zs.length<=As/\∀p,H p=af->Q (.ref p) (upd H p (.lst (xs++zs)))
theorem v7:OpR X (Fb .Add) iG:=by
 intro d s σ H x y v u Q I f i h;obtain⟨l,b,D,w,rfl,rfl,o,g,C,q⟩:=h;cases f;cases i;obtain⟨z,c,n,r,t,e⟩:=I.lstM o;obtain⟨A,a,B,m,j,k⟩:=I.lstM g;refine PySem.P.add_list e k ?_ (by simp<;>omega);have p:c.toArray++a.toArray=(c++a).toArray:=by simp
 rw[p];exact⟨.ref _,_,I.lnew (r.append m) (by simp<;>omega),rfl,q _ I.fresh⟩
end
section
variable{prog:A9}{w:Bj}{A:Bn}{E:Ag->Aj->Prop}{s:Aj}
theorem Nx(i_ q':List Ag)(a c):i_.toArray.extract 0 a++q'.toArray++i_.toArray.extract c i_.toArray.size=(i_.take a++q'++i_.drop c).toArray:=by
 first
  | (simp;rfl)
  |simp[List.take_of_length_le]
  |simp
theorem Qt{a c n:Nat}(hac:a<=c)(hc:c<=n):Fj (ae (a:Int)) (ae (c:Int)) af n=((a:Int),(c:Int),1):=by
 simp only[Fj,Option.getD_none];have b:¬((a:Int) < 0):=by omega
 have d:¬((c:Int) < 0):=by omega
 simp only[b,d,if_false,show(1:Int) > 0 by decide,if_true]
 congr 1
 ·omega
 ·congr 1;omega
set_option maxRecDepth 100000 in
theorem P6{a c:Nat}
  (e:s.heap.get? l=ae {cls:=.type "list",data:=.seq items n}) (e2:s.heap.get? b=ae {cls:=.type "list",data:=.seq new n2}) (hne:l≠b)
  (hs:s.heap.IsSliceOf sl vl vu .none) (pl:IsPart vl (ae (a:Int))) (pu:IsPart vu (ae (c:Int))) (hac:a<=c) (hc:c<=items.size)
  (hsz:items.size+new.size<=As) (h:Q () {s with heap:=s.heap.update l (Ex λxs=>xs.extract 0 a++new++xs.extract c xs.size)}):
  A2 (A8 prog w) A (setItem (.ref l) (.ref sl) (.ref b)) Q E s:=by
 have o:=PySem.IsL.isList e;obtain⟨r,g,q,i⟩:=id hs;have j:s.TypeIs (.ref sl) "slice":=⟨r,g,q⟩;have p:¬((rawPart af==Dh 0)=ah):=A7;have f:Fo (.ref l) (.ref b)=ai:=beq_eq_false_iff_ne.mpr hne;have m:(max (a:Int) c).toNat=c:=by omega
 have u:((λxs:Array Ag=>xs.extract 0 a++new++xs.extract c xs.size) items).size<=As+1:=by
  simp;omega
 unfold setItem
 try with_reducible refine Bt ?_
 first|refine Aa _|skip
 refine Aa (wpAny_sequenceKey o.typeIs ∎ ?_);refine Aa (Bi o.typeIs slot_list_setitem
  (Bs slot_list_setitem o.typeIs entry_list_setitem ?_ (args_list_setitem _ _ _)))
 show A2 _ _ (Builtin.List.listSubscript? _>>=_) _ _ s;refine Aa (Aa (wpAny_specialOf j slice_no_index ?_));refine Ah (Aa (D1 j ?_))
 first
  |rw[a_ ∎]
  |refine PySem.W.KFB.if_not _ ?_
 refine Aa (Aa (B3 g i rfl (Aa (wpAny_listPart .none (Aa (B3 g i rfl (Aa (wpAny_listPart pl ?_))))))));refine Aa (B3 g i rfl (Aa (wpAny_listPart pu (Ah ?_))))
 first
  |simp only[f,if_false]
  |refine PySem.W.KFB.if_not f ?_
  | (dsimp only;rfl)
 refine Aa (Aa (D1 (PySem.IsL.isList e2).typeIs ?_))
 first
  |refine PySem.W.KFB.if_so _ ?_
  |rw[a' ∎]
  |simp
 refine Aa (Cb e2 rfl (Ah (Aa (Aa (Cb e rfl (Ah ?_))))));refine Aa (Gm ((sliceIndices_raw _ _ af items.size (by simp)).trans (congrArg _ (Qt hac hc))) ?_);show A2 _ _ _ _ _ s;refine Aa (Fk ?_)
 first
  |simp only[sF hsz,if_false]
  |refine PySem.W.KFB.if_not _ ?_
 first|refine Aa _|skip
 rw[m];refine Aa (wpAny_updateSeq (hz:=A5 (Nat.le_add_right _ _) hsz) e rfl (Aa (wpAny_letGo ?_)))
 first
  |exact Aa _
  |exact Ah ⟨_,rfl,Ah h⟩
end
section
variable{X:Cx}
theorem Wa{σ:St}(I:Inv X h_ σ H s)
  (hH:H l=ae (.lst xs)) (hB:H b=ae (.lst ys)) (hne:l≠b) (hs:s.heap.IsSliceOf sl vl vu .none) (ra:RelV (.int a) vl) (rc:RelV (.int c) vu) (h0:0<=a) (hac:a<=c) (hc:c<=xs.length)
  (hz:xs.length+ys.length<=As) (h:∀s',Inv X h_ σ (upd H l (.lst (xs.take a.toNat++ys++xs.drop c.toNat))) s'->Q () s'):
  A2 (A8 X.prog X.w) X.A (setItem (.ref l) (.ref sl) (.ref b)) Q X.xe s:=by
 obtain⟨o,rfl⟩:=ra;obtain⟨t,rfl⟩:=rc;obtain⟨z,f,n,r,q,e⟩:=I.lstM hH;obtain⟨p,d,u,g,m,i⟩:=I.lstM hB;obtain⟨j,rfl⟩:=Ca h0;obtain⟨k,rfl⟩:=Ca (Int.le_trans h0 hac);simp only[B8]at h;refine P6 e i hne hs (.int _ _) (.int _ _) ⋯ (by rw[B4];omega) (by rw[B4,B4];omega) (h _ (I.lset hH e ?_ (Vals.append (Vals.append (r.take _) g) (r.drop _)) ?_))
 ·exact Nx f d j k
 ·rw[An,An,C9,Ct];omega
end
section
variable{κ:Type}[DecidableEq κ]
def cy(kvs:List (κ×V))(k:κ):Option V:=(kvs.find? λkv=>decide (kv.1=k)).map (·.2)
def b4(kvs:List (κ×V))(k:κ)(v:V):List (κ×V):=
 if (kvs.any λkv=>decide (kv.1=k))=ah then kvs.map (λkv=>if kv.1=k then(kv.1,v)else kv)else kvs++[(k,v)]
theorem uU{p:κ×V}(e:p.1=k):cy (p::r) k=ae p.2:=by simp[cy,e]
theorem ui{p:κ×V}(e:¬p.1=k):cy (p::r) k=cy r k:=by simp[cy,e]
theorem BH(k):∀kvs:List (κ×V),(kvs.any λkv=>decide (kv.1=k))=(cy kvs k).isSome
 |[]=>rfl
 |p::r=>by
  rw[C5];by_cases e:p.1=k
  ·simp only[uU e,b_ e,Bool.true_or,Option.isSome_some]
  ·rw[ui e,c_ e];exact BH k r
theorem pT(kvs:List (κ×V))(k)(v):(b4 kvs k v).length<=kvs.length+1:=by
 unfold b4
 split
 ·rw[Ad];omega
 ·rw[An,Ax,List.length_nil];omega
theorem RelO.isSome_eq(r:RelO o u):o.isSome=u.isSome:=by
 cases o with
 |none=>cases u with
  |none=>rfl
  |some _=>exact(r).elim
 |some _=>cases u with
  |none=>exact(r).elim
  |some _=>rfl
theorem KV.val(r:KV kvs vs)(k:κ):RelO (cy kvs k) (valueAt vs k):=by
 induction r with
 |nil=>exact Gu
 |@cons p q g c h t i=>
  obtain⟨d,f⟩:=h;by_cases e:p.1=k
  ·have a:=d.symm.trans e;have b:valueAt (q::c) k=ae q.2:=by simp[valueAt,a]
   rw[uU e,b];trivial
  ·have a:¬q.1=k:=λz=>e (d.trans z);have b:valueAt (q::c) k=valueAt c k:=by simp[valueAt,a]
   rw[ui e,b];omega
theorem KV.any(r:KV kvs vs)(k:κ):(kvs.any λkv=>decide (kv.1=k))=vs.any λkv=>decide (kv.1=k):=by
 induction r with
 |nil=>rfl
 |cons h t a=>rw[C5,C5,a,h.1]
theorem KV.repl(r:KV kvs vs)(k:κ)(ry:RelV y u):
  KV (kvs.map λkv=>if kv.1=k then(kv.1,y)else kv) (vs.map λkv=>if kv.1=k then(kv.1,u)else kv):=by
 induction r with
 |nil=>exact .nil
 |@cons p q f d h t b=>
  rw[Ba,Ba];refine .cons ?_ b;obtain⟨a,c⟩:=h;by_cases e:p.1=k
  ·rw[a' e,a' (by simp_all)];exact⟨a,ry⟩
  ·rw[a_ e,a_ (λz=>e (a.trans z))];trivial
theorem KV.put(r:KV kvs vs)(k:κ)(ry:RelV y u):KV (b4 kvs k y) (stored vs k u):=by
 unfold b4 stored;rw[r.any k];by_cases e:(vs.any λkv=>decide (kv.1=k))=ah
 ·rw[a' e,a' e];exact r.repl k ry
 ·rw[a_ e,a_ e];exact Paired.snoc r ⟨rfl,ry⟩
theorem KV.length{vs:List (κ×Ag)}(r:KV kvs vs):kvs.length=vs.length:=D9 r
end
theorem mz(r:RelV (kV k) u):(fD P w).is k u=ah:=by
 cases k with
 |inl i=>obtain⟨t,e⟩:=(r);subst e;exact xY P w i t
 |inr x=>obtain⟨t,e⟩:=(r);subst e;exact yM P w x t
theorem FL:∀{ks:List aJ}{us:List Ag},Vals (ks.map kV) us->ItemsAre (fD P w) ks us
 |[],_,r=>by cases r;exact .nil
 |k::ks,_,r=>by
  cases r with
  |cons h t=>exact .cons (mz h) (FL t)
abbrev KT(H:Hp):List (List aJ×V)->List (List aJ×A_×Ag)->Prop:=Paired λp q=>p.1=q.1/\H q.2.1=ae (.tup (p.1.map kV))/\RelV p.2 q.2.2
theorem KT.val(r:KT H kvs xs)(k):RelO (cy kvs k) ((atKey xs k).map (·.2)):=by
 induction r with
 |nil=>exact Gu
 |@cons p q g c h t i=>
  obtain⟨d,_,f⟩:=h;by_cases e:p.1=k
  ·have a:=d.symm.trans e;have b:atKey (q::c) k=ae q.2:=by simp[atKey,a]
   rw[uU e,b];exact f
  ·have a:¬q.1=k:=λz=>e (d.trans z);have b:atKey (q::c) k=atKey c k:=by simp[atKey,a]
   rw[ui e,b];omega
theorem KT.repl(r:KT H kvs xs)(k)(ry:RelV y u):
  KT H (kvs.map λkv=>if kv.1=k then(kv.1,y)else kv) (xs.map (putAt k u)):=by
 induction r with
 |nil=>exact .nil
 |@cons p q f d h t c=>
  rw[Ba];refine .cons ?_ c;obtain⟨a,b,g⟩:=h;unfold putAt;by_cases e:p.1=k
  ·rw[a' e,a' (by simp_all)];exact⟨a,b,ry⟩
  ·rw[a_ e,a_ (λz=>e (a.trans z))];trivial
theorem KT.put(r:KT H kvs xs)(k:List aJ)(hb:H b=ae (.tup (k.map kV)))(ry:RelV y u):
  KT H (b4 kvs k y) (storedH xs k b u):=by
 have e:(kvs.any λkv=>decide (kv.1=k))=(atKey xs k).isSome:=by
  rw[BH,(r.val k).isSome_eq,Ej]
 unfold b4 storedH;rw[e];by_cases q:(atKey xs k).isSome=ah
 ·rw[a' q,a' q];exact r.repl k ry
 ·rw[a_ q,a_ q];exact Paired.snoc r ⟨rfl,hb,ry⟩
theorem KT.keeps(r:KT H kvs xs)(ht:∀b ys,H b=ae (.tup ys)->H' b=ae (.tup ys)):KT H' kvs xs:=
 Paired.mapP r λ_ _ z=>⟨z.1,ht _ _ z.2.1,z.2.2⟩
section
variable{P:A9}{w:Bj}{H:Hp}{h:Heap}{a:A_}
theorem xw(ok:HOk P w H h)(e:Rd H a u):ObjOk P w H h a u:=e.ok ok
theorem nh(ok:HOk P w H h)(e:Rd H a (.dK kvs)):kvs.length<=As/\(a==Dj)=ai/\∃vs,KV kvs vs/\h.DictOf (fD P w) a vs:=
 show ObjOk P w H h a (.dK kvs)from xw ok e
theorem G9(ok:HOk P w H h)(e:H a=ae (.dK kvs)):kvs.length<=As/\(a==Dj)=ai/\∃vs,KV kvs vs/\h.DictOf (fD P w) a vs:=nh ok (.inl e)
theorem o4(ok:HOk P w H h)(e:H a=ae (.tup (ks.map kV))):(tupleKind (fD P w)).is h ks a:=by
 obtain⟨_,c,r,o,f,b,⟨n,d⟩,_⟩:=(show ObjOk P w H h a (.tup _)from ok a _ e);exact⟨o,_,n,f,b,d,by simpa using FL r⟩
theorem oi(ok:HOk P w H h)(e:Rd H a (.dT kvs)):kvs.length<=As/\(a==Dj)=ai /\
  ∃xs,KT H kvs xs/\h.DictOfH (tupleKind (fD P w)) a xs:=by
 obtain⟨z,y,xs,r,o,j,n,k,d,g,i,f⟩:=(show ObjOk P w H h a (.dT kvs)from xw ok e);refine⟨z,y,xs,r,o,j,n,k,d,g,i,λx b=>?_,f⟩;have c:∀{l:List _}{m:List _},KT H l m->∀x∈m,(tupleKind (fD P w)).is h x.1 x.2.1:=by
  intro l m q
  induction q with
  |nil=>intro x b;trivial
  |@cons p q u A v t s=>
   intro x b;rcases Ao.mp b with e|b
   ·subst e;exact o4 ok (by simp_all)
   ·exact s x b
 exact c r x b
theorem R3(ok:HOk P w H h)(e:H a=ae (.dT kvs)):kvs.length<=As/\(a==Dj)=ai /\
  ∃xs,KT H kvs xs/\h.DictOfH (tupleKind (fD P w)) a xs:=oi ok (.inl e)
end
def DGet(H:Hp)(a:A_)(y:V)(r:Option V):Prop:=
 (∃kvs k,Rd H a (.dK kvs)/\y=kV k/\r=cy kvs k)\/∃kvs k b,Rd H a (.dT kvs)/\y=.ref b/\H b=ae (.tup (k.map kV))/\r=cy kvs k
def DPut(H:Hp)(a:A_)(y v:V)(H':Hp):Prop:=
 (∃kvs k,H a=ae (.dK kvs)/\y=kV k/\kvs.length < As/\H'=upd H a (.dK (b4 kvs k v))) \/
 ∃kvs k b,H a=ae (.dT kvs)/\y=.ref b/\H b=ae (.tup (k.map kV))/\kvs.length < As/\H'=upd H a (.dT (b4 kvs k v))
theorem DGet.t(e:H a=ae (.dT kvs))(eb:H b=ae (.tup (k.map kV))):DGet H a (.ref b) (cy kvs k):=.inr ⟨kvs,k,b,.inl e,rfl,eb,rfl⟩
theorem DPut.k{k:aJ}(e:H a=ae (.dK kvs))(hl:kvs.length < As):DPut H a (kV k) v (upd H a (.dK (b4 kvs k v))):=.inl ⟨kvs,k,e,rfl,hl,rfl⟩
theorem DPut.t{k:List aJ}(e:H a=ae (.dT kvs))(eb:H b=ae (.tup (k.map kV)))(hl:kvs.length < As):
  DPut H a (.ref b) v (upd H a (.dT (b4 kvs k v))):=.inr ⟨kvs,k,b,e,rfl,eb,hl,rfl⟩
section
variable{X:Cx}{h_:List (A_×Obj)}{σ:St}{H:Hp}{s:Aj}{a:A_}{y v:V}{u r:Ag}{o:Option V}{A:Bn}{E:Ag->Aj->Prop}
theorem Inv.big(I:Inv X h_ σ H s):Dj < s.heap.objs.size:=by
 exact Nat.lt_trans ∎ ((I.mod.glob.keeps I.bk).lt)
theorem Vs(hu:A.units+1 < Co)(I:Inv X h_ σ H s)(g:DGet H a y (ae v))(ry:RelV y u)(h:∀w' s',Inv X h_ σ H s'->RelV v w'->Q w' s'):
  A2 (A8 X.prog X.w) A (Gx (.ref a) u) Q E s:=by
 rcases g with⟨i,k,e,n,l⟩|⟨i,k,b,e,n,o,l⟩
 ·subst n;obtain⟨z,r,t,c,f⟩:=nh I.hok e;obtain⟨w',m,d⟩:=RelO.some_of (l▸c.val k);exact wpAny_getItem_of (mz ry) f.mapOf m (h w' _ (I.tok _) d)
 ·subst n;cases(ry);obtain⟨z,r,x,c,f⟩:=oi I.hok e;obtain⟨w',m,d⟩:=RelO.some_of (l▸c.val k);obtain⟨p,q,j⟩:=Gf.mp m;refine wpAny_getItem_heap (by assumption) (o4 I.hok o) f q ?_;rw[j];exact h w' _ (I.tok _) d
theorem vy(hu:A.units+1 < Co)(I:Inv X h_ σ H s)(g:DGet H a y o)(ry:RelV y u)(h:∀s',Inv X h_ σ H s'->Q (.bool o.isSome) s'):
  A2 (A8 X.prog X.w) A (Bm .In u (.ref a)) Q E s:=by
 rcases g with⟨j,k,e,f,l⟩|⟨j,k,b,e,f,m,l⟩
 ·subst f;obtain⟨z,i,p,c,d⟩:=nh I.hok e;refine wpAny_in_of (mz ry) i d.mapOf ?_;rw[<-(c.val k).isSome_eq,<-l];exact h _ (I.tok _)
 ·subst f;cases(ry);obtain⟨z,i,n,c,d⟩:=oi I.hok e;refine wpAny_in_heap (by assumption) (o4 I.hok m) i d ?_;have q:=(c.val k).isSome_eq;rw[Ej]at q;rw[<-q,<-l];exact h _ (I.tok _)
theorem VJ(hu:A.units+1 < Co)(I:Inv X h_ σ H s)(g:DGet H a y o)(ry:RelV y u)(h:∀s',Inv X h_ σ H s'->Q (.bool (!o.isSome)) s'):
  A2 (A8 X.prog X.w) A (Bm .NotIn u (.ref a)) Q E s:=by
 rcases g with⟨j,k,e,f,l⟩|⟨j,k,b,e,f,m,l⟩
 ·subst f;obtain⟨z,i,p,c,d⟩:=nh I.hok e;refine wpAny_notIn_of (mz ry) i d.mapOf ?_;rw[<-(c.val k).isSome_eq,<-l];exact h _ (I.tok _)
 ·subst f;cases(ry);obtain⟨z,i,n,c,d⟩:=oi I.hok e;refine wpAny_notIn_heap (by assumption) (o4 I.hok m) i d ?_;have q:=(c.val k).isSome_eq;rw[Ej]at q;rw[<-q,<-l];exact h _ (I.tok _)
theorem mO(I:Inv X h_ σ H s)(mu:nf (H a))(hs:Cu a s.heap h')(he:∃q,h'.get? a=ae q)(new:ObjOk X.prog X.w (upd H a ob) h' a ob):
  Inv X h_ σ (upd H a ob) {s with heap:=h',toks:=t'}:=
 I.write mu (.inl rfl) (λb q c=>(hs.2 b c).trans) he new
theorem zP(z:kvs.length<=As)(hd:(a==Dj)=ai)(rel:KV kvs vs)(dd:h'.DictOf (fD P w) a vs):
  ObjOk P w H' h' a (.dK kvs):=⟨z,hd,vs,rel,dd⟩
theorem Rj(hu:A.units+1 < Co)(I:Inv X h_ σ H s)(g:DPut H a y v H')(ry:RelV y u)(rv:RelV v r)(h:∀s',Inv X h_ σ H' s'->Q () s'):
  A2 (A8 X.prog X.w) A (setItem (.ref a) u r) Q E s:=by
 rcases g with⟨d,k,e,t,l,B⟩|⟨d,k,b,e,t,C,l,B⟩
 ·subst t B;obtain⟨z,p,M,f,n⟩:=G9 I.hok e;have N:M.length<=As:=by rw[<-f.length];exact z
  have o:(b4 d k v).length<=As:=by have:=pT d k v;omega
  refine wpAny_setItem_pairs (mz ry) n λh' i x=>h _ ?_;have G:∃q,h'.get? a=ae q:=let⟨q,_,_,m,_⟩:=i;⟨q,m⟩;exact mO I (by rw[e];trivial) x G (zP o p (f.put k rv) i)
 ·subst t B;cases(ry);obtain⟨z,p,P,f,n⟩:=R3 I.hok e;have N:P.length<=As:=by rw[<-D9 f];exact z
  have o:(b4 d k v).length<=As:=by have:=pT d k v;omega
  refine wpAny_setItem_heap (by assumption) (o4 I.hok C) n λh' i x=>h _ ?_;obtain⟨q,L,O,m,D,J,K,_,F⟩:=i;refine mO I (by rw[e];trivial) x ⟨q,m⟩ ⟨o,p,_,(f.put k C rv).keeps λc S R=>?_,q,L,O,m,D,J,K,F⟩;rw[aX (AQ R e (λz=>nomatch z))];omega
end
def iu(i:Expr):Prop:=∀ov iv,subscripted i ai ov iv=operate [ov,iv] (Gx ov iv)
theorem zx{T id:String}
  (hl:typeLookup (.type T) "__getitem__"=pure (ae (.builtin id))) (hs:iu slice)
  (h:A2 (A8 prog w) A (eval value env) (λo r_=>A2 (A8 prog w) A (eval slice env) (λi s_=>s_.TypeIs o T/\A2 (A8 prog w) A (Gx o i) Q E s_) E r_) E s):
  A2 (A8 prog w) A (eval (.Subscript value slice pos) env) Q E s:=by
 refine Subscript_ (De h (λo r_ g=>De g (λi s_ c=>?_) λ_ _ x=>x) λ_ _ x=>x);obtain⟨f,c⟩:=c;refine Aa (Aa (wpAny_specialOf f hl ?_));have b:A2 (A8 prog w) A (subscripted slice ai o i) (λr=>A2 (A8 prog w) A (letTemporaryGo value o r>>=λ_=>pure r) Q E) E s_:=(hs o i)▸wpAny_operating (De c (λr d e=>Aa (wpAny_letTemporaryGo (Ah e))) λ_ _ x=>x)
 first
  |exact Ah (Aa b)
  |exact Aa _
  |exact Aa b
theorem TN{σ:St}(I:Inv X h_ σ H s)(g:DGet H a y o):s.TypeIs (.ref a) "dict":=by
 rcases g with⟨d,k,e,_,_⟩|⟨d,k,b,e,_,_,_⟩
 ·obtain⟨_,_,h,_,c⟩:=nh I.hok e;exact c.typeIs
 ·obtain⟨_,_,f,_,c⟩:=oi I.hok e;exact c.typeIs
def FZ(td ty:TE):TE:=λσ H Q=>td σ H λx H1=>ty σ H1 λy H2=>∃a v,x=.ref a/\DGet H2 a y (ae v)/\Q v H2
def lP(ty td:TE):TE:=λσ H Q=>ty σ H λy H1=>td σ H1 λx H2=>∃a o,x=.ref a/\DGet H2 a y o/\Q (.bl o.isSome) H2
def nr(ty td:TE):TE:=λσ H Q=>ty σ H λy H1=>td σ H1 λx H2=>∃a o,x=.ref a/\DGet H2 a y o/\Q (.bl (!o.isSome)) H2
def tW(td ty tv:TE):TS:=λD σ H=>tv σ H λv H1=>td σ H1 λx H2=>ty σ H2 λy H3=>∃a H4,x=.ref a/\DPut H3 a y v H4/\D.nx σ H4
section
variable{X:Cx}{o i e value:Expr}{pos pos' tpos:Pos}{td ty tv:TE}
theorem NS(hu:X.A.units+1 < Co)(ho:PE X o td)(hi:PE X i ty)(hs:iu i):PE X (.Subscript o i pos) (FZ td ty):=by
 intro b s σ H Q I h;refine zx PySem.F.slot_dict_getitem.lookup hs (aP (ho b s σ H _ I h) λu r ⟨x,l,p,k,f⟩=>aP (hi b r σ l _ p f) λiv t u=>?_);obtain⟨y,j,d,n,a,v,q,g,e⟩:=u;subst q;obtain rfl:=k;exact⟨TN d g,Vs hu d g n λw' w m c=>⟨v,j,m,c,e⟩⟩
theorem JG(hu:X.A.units+1 < Co)(hi:PE X i ty)(ho:PE X o td):PC X .In i o (lP ty td):=by
 intro b s σ H Q I h;refine aP (hi b s σ H _ I h) λiv q ⟨y,k,n,m,e⟩=>aP (ho b q σ k _ n e) λu t u=>?_;obtain⟨x,f,c,j,a,r,p,g,d⟩:=u;subst p;obtain rfl:=j;exact vy hu c g m λs3 l=>⟨.bl r.isSome,f,l,rfl,d⟩
theorem yu(hu:X.A.units+1 < Co)(hi:PE X i ty)(ho:PE X o td):PC X .NotIn i o (nr ty td):=by
 intro b s σ H Q I h;refine aP (hi b s σ H _ I h) λiv q ⟨y,k,n,m,e⟩=>aP (ho b q σ k _ n e) λu r u=>?_;obtain⟨x,f,c,j,a,t,p,g,d⟩:=u;subst p;obtain rfl:=j;exact VJ hu c g m λs3 l=>⟨.bl _,f,l,rfl,d⟩
theorem GL(hu:X.A.units+1 < Co)(ho:PE X o td)(hi:PE X i ty)(hv:PE X value tv)(hs:Cp value (ae (.Subscript o i pos')) pos.line X.env=pure ai):
  PS X (.Assign [.Subscript o i pos'] value pos) (tW td ty tv):=by
 intro b s σ H D I h;refine wpAny_Assign_Subscript (aP (hv b s σ H _ I h) λr z ⟨v,m,q,l,f⟩=>aP (ho b z σ m _ q f) λu t ⟨x,j,c,k,d⟩=>aP (hi b t σ j _ c d) λiv F u=>?_) hs;obtain⟨y,E,n,p,a,B,w,g,C⟩:=u;subst w;obtain rfl:=k;exact Rj hu n g p l λs4 e=>⟨σ,B,e,C⟩
end
theorem CP(h:Heap)(hb:Dj < h.objs.size):ObjOk P w H (h.push {cls:=.type "dict",data:=.dict #[]}) h.objs.size (.dK []):=
 ⟨Be _,beq_eq_false_iff_ne.mpr (Ne.symm (Bb hb)),[],.nil,Heap.DictOf.new h⟩
theorem tX(h:Heap)(hb:Dj < h.objs.size):ObjOk P w H (h.push {cls:=.type "dict",data:=.dict #[]}) h.objs.size (.dT []):=
 ⟨Be _,beq_eq_false_iff_ne.mpr (Ne.symm (Bb hb)),[],.nil,_,#[],0,Ar _ rfl,⟨rfl,rfl,rfl⟩,rfl,rfl,List.nodup_nil⟩
def AX:TE:=λ_ H Q=>∀p,H p=af->Q (.ref p) (upd H p (.dK []))
def Ha:TE:=λ_ H Q=>∀p,H p=af->Q (.ref p) (upd H p (.dT []))
section
variable{X:Cx}{pos:Pos}
theorem Rz:PE X (.Dict [] [] pos) AX:=λh_ s σ H Q I h=>
 wpAny_Dict_empty ⟨.ref s.heap.objs.size,_,I.laid (λ_ _=>Ae _) (by simp) (CP s.heap I.big),rfl,h _ (I.hok.fresh (by simp))⟩
theorem LP:PE X (.Dict [] [] pos) Ha:=λh_ s σ H Q I h=>
 wpAny_Dict_empty ⟨.ref s.heap.objs.size,_,I.laid (λ_ _=>Ae _) (by simp) (tX s.heap I.big),rfl,h _ (I.hok.fresh (by simp))⟩
end
def lg(kvs more:List (aJ×V)):List (aJ×V):=more.foldl (λi' kv=>b4 i' kv.1 kv.2) kvs
end L2
namespace Att
open PySem PySem.W PySem.Calls PyProof.Rows
theorem ID:∀(ns:List Int)(vs:List Ag),WellAll P h vs (ns.map WData.int)->IntsAre vs ns:=by
 intro ns
 induction ns with
 |nil=>
  intro vs w;cases w;exact .nil
 |cons n ns c=>
  intro vs w;cases w with
  |cons a b=>
   cases a;exact .cons _ _ (c _ b)
theorem QE{l:OpenLaw}(hn:l.most=ae n)
  (hpre:l.row.toRowW.claim.pre args=ah) (hwl:WellAll P h vals args):
  ∃a vs ns,vals=[Cg a]/\args=[WData.list (ns.map WData.int)]/\h.get? a=ae {cls:=.type "list",data:=.seq vs.toArray}/\IntsAre vs ns/\ns.length<=n:=by
 have i:WShape.hasAll [] args [.list .int]=ah:=(pre_splitW hpre).1;have t:l.pre.holds [] {args:=args}=ah:=(pre_splitW hpre).2;obtain⟨d,r,rfl,s,k⟩:=hasAllW_cons i;obtain rfl:=hasAllW_nil k;obtain⟨v,rfl,p⟩:=hasW_list s;obtain⟨ns,rfl⟩:=items_int p;have c:ns.length<=n:=by
  have g:=by
   have g:=(holds_andW t).1;rw[hn]at g;omega
  have j:=condW_of g (w_not (by trivial));simp
  first
   | (rw[b u]at j;rfl)
   | (simp at j;omega)
 cases hwl with
 |cons m o=>
  cases o;cases m with
  |list q e=>exact⟨_,_,ns,rfl,rfl,q,ID ns _ e,c⟩
theorem RT(l:OpenLaw)(args):l.row.toRowW.claim.post args (.bool ah) args=ah:=
 postW_of
  (by rfl)
  (show(WTm.eq .res _).value [] {args:=args,res:=ae _,after:=args}=ae (.bool _)from w_eq_bool (w_res rfl) w_lit) rfl
theorem attach_call{l:OpenLaw}
  (hn:l.most=ae n) (hdf:d.params.defaults=[])
  (call:∀(w:Bj)(s₀ r_:Aj)(mg mb:Str->Option Ag)(fa:A_)(o:Obj)(pm cd doc:Ag)(a:A_)(vs:List Ag)(ns:List Int),
   Ground q loose [] XP w s₀ mg mb r_.heap->YP w r_.heap->
   r_.heap.get? fa=ae o->o.data=.func (docDef d.name d.params d.body d.scope pm cd doc)->r_.heap.CodeRec cd d.name->mg d.name=ae (.ref fa)->
   r_.heap.get? a=ae {cls:=.type "list",data:=.seq vs.toArray}->IntsAre vs ns->ns.length<=n->r_.gens=#[]->
   Gy (A8 l.prog w) callerA (.call (.ref fa) ⟨[.ref a],[]⟩) (λr s'=>r=.ok (.ret (.bool ah))/\OldK r_.heap s'.heap/\s'.os=r_.os/\AllBare s'.gens) r_):
  WalkO q loose XP YP l.row.toRowW d [] (λf vs=>PySem.call f vs):=by
 intro w s₀ r_ mg mb G Y fa o pm cd doc H F z A h s j u p k E g m C i D;obtain rfl:=Dflts.none s hdf;obtain rfl:=Dflts.noKw s;obtain⟨a,vs,ns,rfl,rfl,e,b,c⟩:=QE hn g i;refine enter_call (codeAny_mono (call w s₀ r_ mg mb fa o pm cd doc a vs ns G Y z (fd_plain A) h j e b c u) λr s' B=>?_);obtain⟨rfl,t,v,x⟩:=B;exact⟨.inl ⟨_,_,[],rfl,λ_=>rfl,.bool ah,RT l _,λ_=>⟨List.Pairwise.nil,λ_ y=>(nomatch y)⟩⟩,t,v,x⟩
end Att
namespace L2
open PySem PySem.Spec PyProof.Rows
theorem yB:∀{vs:List Ag}{ns:List Int},IntsAre vs ns->Vals (ns.map V.int) vs
 |_,_,.nil=>.nil
 |_,_,.cons n t h=>.cons ⟨t,rfl⟩ (yB h)
def kB(H:Hp):Prop:=∀b,H b=af\/∃o xs,H b=ae (.frz o (.lst xs))
theorem Vc{K:Af}
  (KX:K.In r_.heap) (hns:r_.heap.Ns D6 mg) (hb:r_.heap.Ns builtinsNs mb) (hbb:∀x:Str,x≠"__name__"->mb x=Br x) (hlim:r_.heap.NoLimit) (hg:r_.gens=#[])
  (ha:r_.heap.get? a=ae {cls:=.type "list",data:=.seq vs.toArray}) (hi:IntsAre vs ns) (hl:ns.length<=As) (hr:Room k callerA)
  (F:∀base:Heap,K.In base->base.Ns D6 mg->FnOk P w K mg base CX k fa fd [x] sp) (hbind:∀(s:Aj)(u:Ag),BindsTo s fd ⟨[u],[]⟩ [(x,u)])
  (hsp:∀H:Hp,kB H->SqL K H a (ns.map V.int)->sp [.ref a] H (λv _=>v=.bl ah) λ_ _ _=>False)
  (hCX:∀H e s',CX [] H r_ (λ_ _ _=>False) e s'->False):
  Gy (A8 P w) callerA (.call (.ref fa) ⟨[.ref a],[]⟩) (λr s'=>r=.ok (.ret (.bool ah))/\OldK r_.heap s'.heap/\s'.os=r_.os/\AllBare s'.gens) r_:=by
 have U:=yB hi;have p:=hi.length
 have i:∀H:Hp,kB H->SqL K H a (ns.map V.int)->HOk P w H r_.heap->(∀b,H b≠af->b=a)->(H a≠af->K.lookup a=af)->
   Gy (A8 P w) callerA (.call (.ref fa) ⟨[.ref a],[]⟩) (λr s'=>r=.ok (.ret (.bool ah))/\OldK r_.heap s'.heap/\s'.os=r_.os/\AllBare s'.gens) r_:=by
  intro H M hS t R Z;have c:∀{b:A_}{o:Obj},r_.heap.get? b=ae o->H b=af->(gh r_.heap H).get? b=ae o:=Uk;have L:∀{b:A_}{o:Obj}{B:Array DictEntry}{C:Nat},r_.heap.get? b=ae o->o.data=.dict B C->H b=af:=λ{b o B C} e d=>by
   cases q:H b with
   |none=>rfl
   |some u=>
    have J:=R b (by rw[q];simp);grind
  have f:∀{b:A_}{m:Str->Option Ag},r_.heap.Ns b m->(gh r_.heap H).Ns b m:=λ{b m} ⟨o,B,C,e,d,r⟩=>⟨o,B,C,c e (L e d),d,r⟩;have y:=λb o e=>c (KX b o e) (by
   cases q:H b with
   |none=>rfl
   |some u=>
    have J:=R b (by rw[q];simp);grind)
  have hM:Mod K mg (gh r_.heap H):=⟨y,f hns,⟨mb,f hb,hbb⟩,let⟨mc,X,h2⟩:=hlim;⟨mc,f X,h2⟩⟩;have Q:Env0 P w K mg _ callerA [] r_ H:=⟨rfl,hM,λb o=>SA,Nat.le_of_eq (HW _ _),trivial,λb hb=>f_ (show b∈([]:List A_)from hb) (by simp),t,.of_eq hg⟩;refine codeAny_mono ((F _ y (f hns)).run callerA [] r_ H _ [.ref a] [.ref a] _ _ hr Q (hbind r_ _) (.cons rfl .nil) (hsp H M hS)) λr s' h=>?_;cases r with
  |error e=>exact(hCX H e s' h).elim
  |ok Y=>
   cases Y with
   |next=>exact False.elim h
   |brk=>exact False.elim h
   |cont=>exact False.elim h
   |ret u=>
    obtain⟨v,H',os,l,S,A,r',q⟩:=h;subst q;obtain rfl:=r';refine⟨rfl,OldK.of_keep λb o e=>?_,os,l⟩;cases q:H b with
    |none=>exact S.keep b o e q (by intro z;trivial) (by simp)
    |some u=>
     rcases M b with z|⟨ob,xs,z⟩
     ·rw[q]at z;cases z
     ·obtain⟨e1,_⟩:=t b _ z;obtain⟨e2,_⟩:=A b _ (S.frzs b ob _ z);simp_all
 cases E:K.lookup a with
 |some o=>
  have e:=KX a o E;rw[ha]at e;cases e;refine i _ (λ_=>.inl rfl) (.inr ⟨_,_,_,E,rfl,rfl,rfl,B4▸p▸hl,by omega⟩) (λb u z=>by trivial) (λb=>f_ rfl) (f_ rfl)
 |none=>
  refine i (λb=>if b=a then ae (.frz {cls:=.type "list",data:=.seq vs.toArray} _)else af) (λb=>?_) (.inl (.inr ⟨_,a' rfl⟩)) (λb u z=>?_) (λb z=>?_) λ_=>E
  ·by_cases hb:b=a
   ·exact .inr ⟨_,_,a' hb⟩
   ·exact .inl (a_ hb)
  ·by_cases hb:b=a
   ·have T:=(a' hb).symm.trans z;cases T;subst hb;exact⟨ha,by simpa using hl,vs,_,U,ha⟩
   ·have T:=(a_ hb).symm.trans z;trivial
  ·by_cases hb:b=a
   ·exact hb
   ·exact f_ (a_ hb) z
theorem walk_of{l:PySem.W.OpenLaw}{K:Params->Af}{CX:Bj->iF}{sp:Bj->Sp}
  (hn:l.most=ae n) (hn2:n<=As) (hdf:d.params.defaults=[]) (hr:Room k callerA)
  (hY:∀(w:Bj)(h:Heap),YP w h->(K w.params).In h)
  (F:∀(w:Bj)(mg:Str->Option Ag)(fa:A_)(h:Heap),(K w.params).In h->h.Ns D6 mg->mg d.name=ae (.ref fa)->
   ∃fd:Ck,(∀(s:Aj)(u:Ag),BindsTo s fd ⟨[u],[]⟩ [(x,u)]) /\
    ∀base:Heap,(K w.params).In base->base.Ns D6 mg->FnOk l.prog w (K w.params) mg base (CX w) k fa fd [x] (sp w))
  (hsp:∀(w:Bj)(H:Hp)(a:A_)(ns:List Int),ns.length<=n->kB H->SqL (K w.params) H a (ns.map V.int)->sp w [.ref a] H (λv _=>v=.bl ah) λ_ _ _=>False)
  (hCX:∀(w:Bj)(H:Hp)(s:Aj)(e:Ag)(s':Aj),CX w [] H s (λ_ _ _=>False) e s'->False):
  PySem.W.WalkO q loose XP YP l.row.toRowW d [] (λf vs=>PySem.call f vs):=by
 refine Att.attach_call hn hdf λw L D mg N fa o M J C a vs ns G Y E I y m j i c r=>?_;have p:=hY w _ Y;obtain⟨fd,z,A⟩:=F w mg fa _ p G.T.g m;exact Vc p G.T.g G.T.b G.T.builtins G.T.nolimit r j i (A5 c hn2) hr A z (λH=>hsp w H a ns c) λH=>hCX w H D
abbrev cV:iF:=λ_ _ _ _ _ _=>False
abbrev E0:XK:=λ_ _ _=>False
theorem pV:xc cV X E0:=λ_ _ _ _ _ _ _ h=>h.elim
structure Fun(K:Af)(x qual:Str)(st:Stmt)(f:A_)(fd:Ck):Prop where
 ex:∃(oc:Ag)(od:Option A_)(kV doc pm:Ag)(an:Option A_)(m_ ct:Ag)(osl:Array (Option Ag)),
  fd=Fs x qual (lR st) (fC st) (cE st) .none kV doc pm an m_ ct/\K.lookup f=ae ⟨oc,od,.func fd,osl⟩/\PySem.W.codeIn K m_ qual=ah
 kp:C1 K (.ref f)=ah
section
variable{P:A9}{w:Bj}{K:Af}{mg:Str->Option Ag}{base:Heap}
theorem Fun.ok{st:Stmt}(F:Fun K x qual st f fd)(S:FnScope N ps (cE st))(len:∀vs H Q E,sp vs H Q E->vs.length=ps.length)
  (hbody:∀(m_:Ag)(A:Bn)(outer:List Env)(s:Aj)(H:Hp)(vs:List V)(Q:VK)(E:XK),Room k (A.deeper (envOfC qual (cE st) s.heap.objs.size f m_))->sp vs H Q E->
   ∃t,PSs (cS cV P w K mg base N qual (cE st) f m_ A outer s H E).nox (fC st) t/\t {nx:=λ_ H'=>Q .non H',rt:=Q} (start N vs) H):FnOk P w K mg base cV (k+1) f fd ps sp:=by
 obtain⟨i,l,n,g,m,j,m_,o,c,rfl,d,a⟩:=F.ex;refine Ws d a S len λA outer s H vs Q E e b=>?_;obtain⟨t,h,q⟩:=hbody m_ A outer s H vs Q E e b;exact⟨t,h.nox,q⟩
theorem Fun.binds{st:Stmt}(F:Fun K x qual st f fd)
  (h:∀(kV doc pm:Ag)(an:Option A_)(m_ ct:Ag)(us:List Ag),us.length=ps.length->bindArgs (Fs x qual (lR st) (fC st) (cE st) .none kV doc pm an m_ ct) ⟨us,[]⟩=pure (ps.zip us)):Binds K fd ps []:=by
 obtain⟨d,c,kV,doc,pm,an,m_,ct,a,rfl,e,b⟩:=F.ex;exact .all (h kV doc pm an m_ ct)
theorem Pj{st:Stmt}{kV doc pm m_ ct:Ag}(l:K.lookup f=ae ⟨oc,od,.func (Fs x qual (lR st) (fC st) (cE st) .none kV doc pm an m_ ct),osl⟩)
  (c:PySem.W.codeIn K m_ qual=ah) (k:C1 K (.ref f)=ah):Fun K x qual st f (Fs x qual (lR st) (fC st) (cE st) .none kV doc pm an m_ ct):=⟨⟨oc,od,kV,doc,pm,an,m_,ct,osl,rfl,l,c⟩,k⟩
end
theorem yZ(h:n<=1000):n < As:=G6 h ∎
section
variable{X:Cx}
theorem pv(i){pos:Pos}(hN:X.N[i]?=ae x:=by rfl)(hv:ej X.env.scope x:=by first|exact Cc rfl|exact Bo (Cc rfl)|exact Bo (Bo rfl))(hd:(x==("__debug__":Str))=ai:=by decide)
  (q_:(x==("__classdict__":Str))=ai:=by decide):PE X (.Name x pos) (bM i):=eZ hN hv hd q_
end
theorem sJ{A B:Prop}(h:B):if ai=ah then A else B:=h
theorem jr{c A B:Prop}[Decidable c](h1:c->A)(h2:¬c->B):if c then A else B:=by
 by_cases h:c
 ·rw[a' h];exact h1 h
 ·rw[a_ h];exact h2 h
def iz(H H':Hp):Prop:=∀b o,H b=ae o->H' b=ae o
end L2
namespace L2
open PySem PySem.Spec PyProof.Rows
section
variable{prog:A9}{w:Bj}{A:Bn}{R:Result->Aj->Prop}{s:Aj}
theorem Sg(I:Nat->Aj->Prop)
  (turn:∀n s,I n s->A2 (A8 prog w) A (pyNext it) (λr r_=>match r with
   |none=>R (.ok .next) r_
   |some v=>A2 (A8 prog w) A (letOwnedTupleGo target it v) (λ_ s₁'=>A2 (A8 prog w) A (assign target env v) (λ_ s_=>
     A2 (A8 prog w) A (forIn ifs ah λc r=>if r=ah then do let ok <-isTrue c env (eval c env);pure (Gs ok)else pure (Gs r)) (λok u_=>
      if ok=ah then A2 (A8 prog w) A (eval elt env) (λx x_=>
       A2 (A8 prog w) A (call (.builtin "list.append") [i',x]) (λ_ y_=>∃m,m < n/\I m y_) (λ_ _=>False) x_) (λ_ _=>False) u_
      else ∃m,m < n/\I m u_) (λ_ _=>False) s_) (λ_ _=>False) s₁') (λ_ _=>False) r_) (λ_ _=>False) s)
  (n) (h:I n s):Gy (A8 prog w) A (.compLoop (.ListComp elt [⟨target,iter,ifs,0⟩] scope pos) 0 it i' env) R s:=by
 refine codeAny_loop rfl I (λn s g=>?_) n h;show A2 _ A _ _ _ s;refine wpAny_noted ?_;rw[compTurn_list];refine Aa (G1 (Aa (De (turn n s g) (λr r_ d=>?_) λ_ _ f=>f.elim)));cases r with
 |none=>exact Ah d
 |some v=>
  refine Aa (De d (λ_ s₁' a=>Aa (De a (λ_ s_ j=>Aa (De j (λok u_ b=>?_) λ_ _ f=>f.elim)) λ_ _ f=>f.elim)) λ_ _ f=>f.elim);cases ok with
  |false=>exact Ah ⟨rfl,b⟩
  |true=>
   exact Aa (Aa (De b (λx x_ i=>Aa (De i (λ_ y_ e=>Ah (Ah ⟨rfl,e⟩)) λ_ _ f=>f.elim)) λ_ _ f=>f.elim))
end
def dg(X:Cx)(N:List Str)(scope:Fc)(cl:List (Str×A_))(s:Aj)(H:Hp)(fp:List A_):Cx:=
 { X with N:=N,s₀:=s,H₀:=H,env:=compEnvC scope cl s.heap.objs.size X.env,outer:=X.stack,ex:=fp,fn:=λ_=>ai,pn:=[],xe:=λ_ _=>False}
structure CompSc(X:Cx)(N:List Str)(scope:Fc)(cl:List (Str×A_))(fr:List (Option Nat)):Prop where
 clos:closureFor scope X.env=pure cl
 kind:scope.kind=.function
 nocell:∀y∈scope.names,y.2≠.cell
 names:∀y∈scope.names,y.2=.local->scope.names.lookup y.1=ae .local
 sub:∀x c,cl.lookup x=ae c->X.env.cells.lookup x=ae c
 has:∀x,((relabel scope X.env).names.lookup x=ae .cell\/(relabel scope X.env).names.lookup x=ae .free)->∃c,cl.lookup x=ae c
 len:fr.length=N.length
 fre:∀(j i:Nat),fr[j]?=ae (ae i)->∃x,N[j]?=ae x/\X.N[i]?=ae x/\ej X.env.scope x/\(X.env.kindOf x=ae .cell\/X.env.kindOf x=ae .free) /\
  ((relabel scope X.env).names.lookup x=ae .cell\/(relabel scope X.env).names.lookup x=ae .free)/\cl.lookup x=X.env.cells.lookup x
theorem rN{κ:Type}:∀{l:List (Str×κ)}{x:Str}{k:κ},l.lookup x=ae k->(x,k)∈l
 |[],_,_,h=>nomatch h
 | (y,b)::r,x,k,h=>by
  rw[List.lookup_cons]at h;cases e:x==y with
  |true=>
   rw[e]at h;have a:x=y:=by simp_all
   rw[a,(B2 h)];exact Am
  |false=>
   rw[e]at h;exact Ak _ (rN h)
theorem yt{κ:Type}:∀{l:List (Str×κ)}{x:Str},x∈l.map (·.1)->∃k,l.lookup x=ae k
 |[],_,h=>f_ h (by simp)
 | (y,a)::r,x,h=>by
  rw[List.lookup_cons];cases e:x==y with
  |true=>exact⟨a,rfl⟩
  |false=>
   have b:¬x=y:=λz=>by simp_all
   rcases Ao.mp h with z|z
   ·exact f_ z b
   ·exact yt z
theorem PU{X:Cx}{cl:List (Str×A_)}(nm)(ks)(hrel:(relabel scope X.env).names=nm)(hks:cl.map (·.1)=ks)(h3:∀y∈nm,(y.2=.cell\/y.2=.free)->y.1∈ks):
  ∀x,((relabel scope X.env).names.lookup x=ae .cell\/(relabel scope X.env).names.lookup x=ae .free)->∃c,cl.lookup x=ae c:=by
 intro x h;rw[hrel]at h;refine yt ?_;rw[hks];rcases h with h|h
 ·exact h3 _ (rN h) (.inl rfl)
 ·exact h3 _ (rN h) (.inr rfl)
def d5(fr:List (Option Nat))(σ:St):St:=fr.map λo=>o.bind λi=>(σ[i]?).bind id
theorem O1{j:Nat}(h:(d5 fr σ)[j]?=ae (ae v)):∃i,fr[j]?=ae (ae i)/\σ[i]?=ae (ae v):=by
 unfold d5 at h;rw[Ap]at h;cases e:fr[j]? with
 |none=>rw[e]at h;cases h
 |some o=>
  rw[e]at h;cases o with
  |none=>cases h
  |some i=>
   refine⟨i,rfl,?_⟩;have a:(σ[i]?).bind id=ae v:=B2 h;cases b:σ[i]? with
   |none=>rw[b]at a;cases a
   |some d=>
    rw[b]at a;simp_all<;>omega
def md(X:Cx)(ifs:List Expr)(tt:TT):Prop:=
 ∀(h_:List (A_×Obj))(s:Aj)(σ:St)(H:Hp)(Q:Bool->Hp->Prop),Inv X h_ σ H s->tt σ H Q->
  A2 (A8 X.prog X.w) X.A (forIn ifs ah λc r=>if r=ah then do let ok <-isTrue c X.env (eval c X.env);pure (Gs ok)else pure (Gs r)) (TP X h_ σ Q) X.xe s
def EL:TT:=λ_ H Q=>Q ah H
theorem LU:md X [] EL:=λ_ _ _ H _ I h=>wpAny_tests_nil ⟨H,I,h⟩
theorem RZ(h:PT X c tt):md X [c] tt:=λh_ s σ H Q I q=>wpAny_tests_one (h h_ s σ H Q I q)
def mh(fr:List (Option Nat))(wi:TI)(g:TG)(tt:TT)(te:TE):TE:=λσ H Q=>wi σ H λJ H1=>∀D,H1 D=af->
 ∃W:Nat->Nat->List V->St->Hp->Prop,(∃m,W 0 m [] (d5 fr σ) (upd H1 D (.lst [])))/\∀i m ys τ H,W i m ys τ H->
  ((J.stop i H/\Q (.ref D) H)\/(J.go i H/\ys.length < As/\∀x H',J.yld i H x H'->g x τ H' λτ2 H2=>tt τ2 H2 λb H3=>
   if b=ah then te τ2 H3 (λy H4=>H4 D=ae (.lst ys)/\∃m',m' < m/\W (i+1) m' (ys++[y]) τ2 (upd H4 D (.lst (ys++[y]))))else ∃m',m' < m/\W (i+1) m' ys τ2 H3))
section
variable{X:Cx}{N:List Str}{scope:Fc}{cl:List (Str×A_)}{fr:List (Option Nat)}{h_:List (A_×Obj)}{σ:St}{H:Hp}{s:Aj}{fp:List A_}
theorem Wn(S:CompSc X N scope cl fr)(I:Inv X h_ σ H s)(hf:∀b∈fp,cO X h_ H b)(k_:∀b∈fp,b < s.heap.objs.size):(dg X N scope cl s H fp).Ok where
 mod:=I.ok.mod
 kind:=S.kind
 glob:=I.ok.glob
 blt:=I.ok.blt
 above:=Bh _
 inj:=λx y c a b=>I.ok.inj x y c (S.sub x c a) (S.sub y c b)
 has:=S.has
 cab:=λx c h=>nomatch h
 hd:=I.ok.hd
 frames:=I.ok.frames
 stk:=.inl rfl
 exf:=λb d=>⟨Bb (k_ b d),λx c e=>(hf b d).2.2.2.2.1 x c (S.sub x c e)⟩
 bs:=I.bs
 bsz:=A5 I.ok.bsz I.sz
 noex:=λb o e d=>by
  rcases(hf b d).2.2.2.1 with z|z
  ·exact I.ok.noex b o e z
  ·exact f_ (Bd (Aq (I.ok.bs b o e).1) z) (by simp)
 exfs:=λb d z=>by
  rcases Ao.mp (I.stkSub b z)with e|e
  ·exact(hf b d).2.1 e
  ·exact(hf b d).2.2.1 e
 funs:=I.stack
 frf:=I.stkFree
theorem R0(S:CompSc X N scope cl fr)(I:Inv X h_ σ H s)(hf:∀b∈fp,cO X h_ H b)(k_:∀b∈fp,b < s.heap.objs.size)
   (hsb:Cu s.heap.objs.size (s.heap.push ob) t_)  (hn:t_.Ns s.heap.objs.size m):
  Inv (dg X N scope cl s H fp) [] (d5 fr σ) H {s with heap:=t_,toks:=t'}:=by
 have a:∀b o,s.heap.get? b=ae o->t_.get? b=ae o:=λb o e=>(hsb.2 b (Bb (Aq e))).trans (Ae _ e);refine⟨Wn S I hf k_,rfl,I.bare,Un.kept a,⟨m,hn,λj x v F B K=>?_⟩,λx c e=>?_,I.fresh,λx c e=>I.freeC x c (S.sub x c e),λp t=>?_,I.hok.kept a,?_⟩
 ·obtain⟨i,A,n⟩:=O1 B;obtain⟨y,E,G,D,C,J,w⟩:=S.fre j i A;have d:N[j]?=ae x:=F;rw[E]at d;have f:=B2 d;subst f;obtain⟨L,g,h⟩:=I.loc;obtain⟨u,r,l⟩:=h i y v G n D;refine⟨u,r,.inr ⟨J,?_⟩⟩;rcases l with⟨k,_⟩|⟨k,c,e,z⟩
  ·rcases C with q|q
   ·rw[q]at k;cases k
   ·rw[q]at k;cases k
  ·exact⟨c,w.trans e,z.keeps a⟩
 ·obtain⟨v,z⟩:=I.cell x c (S.sub x c e);exact⟨v,z.keeps a⟩
 ·exact f_ t (by simp[dg])
 ·show(d5 fr σ).length=N.length;unfold d5;rw[Ad,S.len]
theorem xW{τ:St}(I:Inv X h_ σ H s0)(hf:∀b∈fp,cO X h_ H b)(I':Inv (dg X N scope cl s0 H fp) [] τ H' s')(hs:Cu s0.heap.objs.size s'.heap h'):
  Inv X h_ σ H' {s' with heap:=h'}:=by
 have h:H' s0.heap.objs.size=af:=I'.free;have u:=I'.base;have f:∀b o,s0.heap.get? b=ae o->b≠s0.heap.objs.size:=λb o e=>Bb (Aq e);have d:=λb o e=>by
  refine(I'.hok b o e).stay (λc v p=>(hs.2 c ?_).trans) (λ_ z=>z) λ_ _ z=>z
  rintro rfl
  rcases p with z|z
  ·rw[<-z,h]at e;cases e
  ·rw[h]at z;cases z
 refine I.call' (ch:=fp) I'.os ?_ d I'.bare λb l=>?_
 ·refine⟨λb o e n g a=>(hs.2 b (f b o e)).trans (u.keep b o e n g a),λb o e n g a=>?_,u.free,λb o e a=>?_,u.tups,u.frzs,u.tbls⟩
  ·obtain⟨q,z⟩:=u.slot b o e n g a;exact⟨q,(hs.2 b (f b o e)).trans z⟩
  ·obtain⟨j,z⟩:=u.there b o e a;exact⟨j,(hs.2 b (f b o e)).trans z⟩
 ·obtain⟨_,k,_,i,r,m⟩:=hf b l;exact⟨i,k,r,m⟩
end
theorem ye
  (hc:X.calm=ah) (S:CompSc X N scope cl fr) (hi:PI X tg iter wi) (hg:∀s H fp,PG (dg X N scope cl s H fp) tg g) (ht:∀s H fp,md (dg X N scope cl s H fp) ifs tt)
  (he:∀s H fp,PE (dg X N scope cl s H fp) elt te) (hs:∀x,Ea iter X.env x=pure x)   {σ:St}  {K:V->Hp->Prop} (I:Inv X h_ σ H s) (h:mh fr wi g tt te σ H K)
  (fin:∀{fp:List A_}{s3 s6:Aj}{H3 Hc:Hp}{τ:St}{a:A_}{mm:Str->Option Ag},Inv X h_ σ H3 s3->(∀b∈fp,cO X h_ H3 b)->Inv (dg X N scope cl s3 H3 fp) [] τ Hc s6->K (.ref a) Hc->s6.heap.Ns s3.heap.objs.size mm->compPost (A8 X.prog X.w) X.A X.xe use R (.ref a) s3.heap.objs.size (.ok .next) s6):
  A2 (A8 X.prog X.w) X.A (comprehension (.ListComp elt [⟨tg,iter,ifs,0⟩] scope cpos) scope X.env (firstIterPos [⟨tg,iter,ifs,0⟩] cpos) (newList []) (firstAsync [⟨tg,iter,ifs,0⟩]) (firstIter [⟨tg,iter,ifs,0⟩] X.env) use) R X.xe s:=by
 refine wpAny_comprehension_free rfl hs S.clos S.kind S.names (aP (hi h_ s σ H _ I h) λv s1 h1=>aP h1 λitv k h2=>?_);obtain⟨it,fp,tn,J,H2,e,I2,T,st2,f2,q⟩:=h2;subst e;refine By (wpAny_newFunctionEnv S.nocell (by simp) (λt_ hn B=>?_) S.kind);obtain⟨W,⟨m0,w0⟩,turn⟩:=q k.heap.objs.size I2.fresh
 have G:Inv X h_ σ _ {k with heap:=k.heap.push {cls:=.type "list",dict:=af,data:=.seq ([]:List Ag).toArray}}:=I2.lnew .nil ∎;have P:∀s3:Aj,s3={ k with heap:=k.heap.push {cls:=.type "list",dict:=af,data:=.seq ([]:List Ag).toArray}}->Inv X h_ σ (upd H2 k.heap.objs.size (.lst [])) s3->
   ∀ob mm,Cu s3.heap.objs.size (s3.heap.push ob) t_->t_.Ns s3.heap.objs.size mm->
   Gy (A8 X.prog X.w) X.A (.compStart (.ListComp elt [⟨tg,iter,ifs,0⟩] scope cpos) 0 (.ref it) (.ref k.heap.objs.size) (compEnvC scope cl s3.heap.objs.size X.env))
    (compPost (A8 X.prog X.w) X.A X.xe use R (.ref k.heap.objs.size) s3.heap.objs.size) {s3 with heap:=t_,toks:=s3.toks+([]:List (Str×Ag)).length}:=?P
 ·exact P _ rfl G _ _ B hn
 intro s3 hs3 G ob mm B hn;have hfp:∀b∈fp,∃o,k.heap.get? b=ae o:=λb f=>let⟨o,e,_⟩:=T.obj _ _ st2 b f;⟨o,e⟩;have up:∀b o,k.heap.get? b=ae o->s3.heap.get? b=ae o:=λb o=>hs3▸Ae _;have f3:∀b∈fp,cO X h_ (upd H2 k.heap.objs.size (.lst [])) b:=λb f=>by
  obtain⟨o,e⟩:=hfp b f;obtain⟨g0,gr⟩:=f2 b f;exact⟨(aX (Bb (Aq e)))▸g0,gr⟩
 have k_:=λb f=>let⟨o,e⟩:=hfp b f;Aq (up b o e);generalize hH3:upd H2 k.heap.objs.size _=H3 at G f3 w0;have U:=T.keep _ _ _ st2 λb f o e=>(B.2 b (Bb (by simp_all))).trans (Ae _ (up b o e));have t:∀{C:Hp},(∀b∈fp,C b=af)->∀b∈fp,cO (dg X N scope cl s3 H3 fp) [] C b:=λhn b f=>by
  obtain⟨_,Y,k2,k3,k4,k5⟩:=f3 b f;refine⟨hn b f,Bb (k_ b f),λz=>?_,.inl f,λx c e=>k4 x c (S.sub x c e),λp hp=>f_ hp (by simp[dg])⟩;rcases Ao.mp (G.stkSub b z)with e|e
  ·exact Y e
  ·exact k2 e
 have E:Gy (A8 X.prog X.w) X.A (.compLoop (.ListComp elt [⟨tg,iter,ifs,0⟩] scope cpos) 0 (.ref it) (.ref k.heap.objs.size) (compEnvC scope cl s3.heap.objs.size X.env))
   (compPost (A8 X.prog X.w) X.A X.xe use R (.ref k.heap.objs.size) s3.heap.objs.size) {s3 with heap:=t_,toks:=s3.toks+([]:List (Str×Ag)).length}:=by
  refine Sg (λn s'=>∃i Q τ Hc,Inv _ [] τ Hc s'/\tn i s'.heap/\(∀b∈fp,Hc b=af)/\W i n Q τ Hc) ?_ m0 ⟨0,[],_,H3,(R0 (t':=s3.toks+([]:List (Str×Ag)).length) S G f3 k_ B hn),U,λb f=>(f3 b f).1,w0⟩
  rintro n s5 ⟨i,Q,τ,Hc,I5,st5,O,w5⟩
  rcases turn i n Q τ Hc w5 with⟨stop,qn⟩|⟨go,hz,Z⟩
  ·refine aP (T.done (dg X N scope cl s3 H3 fp) rfl rfl rfl hc i [] s5 τ Hc _ I5 (t O) st5 stop) λr s6 v=>?_;obtain⟨hr,I6⟩:=v;subst hr;obtain⟨mm,hm,_⟩:=I6.loc;exact fin G f3 I6 qn hm
  ·refine aP (T.item (dg X N scope cl s3 H3 fp) rfl rfl rfl hc i [] s5 τ Hc _ I5 (t O) st5 go) λr s6 a=>?_;obtain⟨u,hr,h6⟩:=a;subst hr;refine aP h6 λ_ s7 g=>?_;obtain⟨x,H7,I7,r7,y7,F,fr7⟩:=g;refine aP (hg s3 H3 fp _ s7 τ H7 x u _ (I7.pinned (t fr7) (T.obj _ _ F)) r7 (Z x H7 y7)) λ_ s8 ⟨L,H8,I8,q8⟩=>aP (ht s3 H3 fp _ s8 L H8 _ I8 q8) λok s9 j=>?_;obtain⟨H9,I9,q9⟩:=j;have D:∀{st:Aj}{τ':St}{C:Hp},Inv (dg X N scope cl s3 H3 fp) ([]++qG fp s7.heap) τ' C st->tn _ st.heap/\∀b∈fp,C b=af:=λ{st τ' C} Ix=>by
    refine⟨T.keep _ _ _ F λb f o e=>(Ix.pin _ (Bw _ (Bw _ (qL f e)))).1,λb f=>?_⟩;obtain⟨o,e,d⟩:=T.obj _ _ F b f;exact(Ix.pin _ (Bw _ (Bw _ (qL f e)))).2.1
   cases ok with
   |false=>
    obtain⟨M,hm,w9⟩:=q9;obtain⟨Y,k2⟩:=D I9;exact⟨M,hm,i+1,Q,L,H9,I9.unpinned,Y,k2,w9⟩
   |true=>
    refine aP (he s3 H3 fp _ s9 L H9 _ I9 q9) λxv s10 ⟨y,H10,I10,r10,hD,M,hm,w10⟩=>aP (yv _ s10 L H10 (.ref k.heap.objs.size) [y] _ [xv] (λz C=>∃M,M < n/\W _ M _ L C) I10 rfl (.cons r10 .nil) ⟨_,Q,y,rfl,rfl,hD,hz,M,hm,w10⟩) λz s11 l=>?_;obtain⟨z',H11,I11,_,m'',hm',w11⟩:=l;obtain⟨Y,k2⟩:=D I11;exact⟨m'',hm',i+1,_,L,H11,I11.unpinned,Y,k2,w11⟩
 exact codeAny_compStart_list E (T.self _ 0 _ _ _ U E)
theorem Ud
  (hc:X.calm=ah) (S:CompSc X N scope cl fr) (hi:PI X tg iter wi) (hg:∀s H fp,PG (dg X N scope cl s H fp) tg g) (ht:∀s H fp,md (dg X N scope cl s H fp) ifs tt)
  (he:∀s H fp,PE (dg X N scope cl s H fp) elt te) (hs:∀x,Ea iter X.env x=pure x:=by intro _;rfl):
  PE X (.ListComp elt [⟨tg,iter,ifs,0⟩] scope pos) (mh fr wi g tt te):=λh_ s σ H Q I h=>ye hc S hi hg ht he hs I h λ{_ _ _ _ _ _ a _} i d e f c=>⟨_,c,λh' b=>⟨.ref a,_,xW i d e b,rfl,f⟩⟩
mutual
inductive RdD(K:Af)(H:Hp):V->Ab->Prop
 |non:RdD K H .non .none
 |bl (b:Bool):RdD K H (.bl b) (.bool b)
 |int (i:Int):RdD K H (.int i) (.int i)
 |str (x:Str):RdD K H (.str x) (.str x)
 |lst {a:A_} {xs:List V} {ds:List Ab}:SqL K H a xs->RdAll K H xs ds->RdD K H (.ref a) (.list ds)
 |tup {a:A_} {xs:List V} {ds:List Ab}:SqT K H a xs->RdAll K H xs ds->RdD K H (.ref a) (.tuple ds)
inductive RdAll(K:Af)(H:Hp):List V->List Ab->Prop
 |nil:RdAll K H [] []
 |cons {x:V} {xs:List V} {d:Ab} {ds:List Ab}:RdD K H x d->RdAll K H xs ds->RdAll K H (x::xs) (d::ds)
end
section
variable{X:Cx}{h_:List (A_×Obj)}{σ:St}{H:Hp}{s:Aj}
mutual
theorem RdD.reads(I:Inv X h_ σ H s):∀{v:V}{d:Ab}{u:Ag},RdD X.K H v d->RelV v u->∃as,Reads s.heap u d as
 |_,_,u,.non,r=>by
  cases(show u=Bv from r);exact⟨_,.none⟩
 |_,_,u,.bl b,r=>by
  cases(show u=Value.bool b from r);exact⟨_,.bool b⟩
 |_,_,u,.int i,r=>by
  obtain⟨t,rfl⟩:=(show ∃t,u=Value.int i t from r);exact⟨_,.int i t⟩
 |_,_,u,.str x,r=>by
  obtain⟨t,rfl⟩:=(show ∃t,u=Value.str x t from r);exact⟨_,.str x t⟩
 |_,_,u,.lst (a:=a) h1 h2,r=>by
  cases(show u=Cg a from r);obtain⟨i_,rv,⟨o,n,e,c,_,d⟩,_⟩:=I.list h1;obtain⟨as,ha⟩:=RdAll.reads I h2 rv;exact⟨_,.list e c d (by simpa using ha)⟩
 |_,_,u,.tup (a:=a) h1 h2,r=>by
  cases(show u=Cg a from r);obtain⟨i_,rv,⟨o,e,c,n,d⟩,_⟩:=I.tuple h1;obtain⟨as,ha⟩:=RdAll.reads I h2 rv;exact⟨_,.tuple e c d (by simpa using ha)⟩
theorem RdAll.reads(I:Inv X h_ σ H s):∀{vs:List V}{ds:List Ab}{us:List Ag},RdAll X.K H vs ds->Vals vs us->∃as,ReadsAll s.heap us ds as
 |_,_,_,.nil,.nil=>⟨_,.nil⟩
 |_,_,_,.cons h1 h2,.cons r1 r2=>by
  obtain⟨as,ha⟩:=RdD.reads I h1 r1;obtain⟨bs,hb⟩:=RdAll.reads I h2 r2;exact⟨_,.cons ha hb⟩
end
end
def Hq(d:Ab):Prop:=Cq d=ah/\Dq d<=20/\PyData.weight d<=2 ^ 20/\PyData.intsShort 13 d=ah/\PyData.showable d=ah
def qQ(K:Af):R2:=λx y H Q=>∃a b xs,x=.ref a/\y=.ref b/\SqL K H a xs/\SqL K H b []/\Q (.bl xs.isEmpty) H
theorem Iu(hu:X.A.units < Co):OpR X (Bm .Eq) (qQ X.K):=by
 intro i s σ H x y v u Q I k m h;obtain⟨a,b,w,rfl,rfl,t,o,q⟩:=h;cases(k);cases(m);obtain⟨p,f,c,_⟩:=I.list t;obtain⟨d,r,g,_⟩:=I.list o;have n:=Vals.zero r;subst n;cases f with
 |nil=>exact PySem.SeqAt.eq_listAt (e:=λ_=>ah) c.isList g.isList rfl hu (λj l=>f_ l (by simp)) ⟨_,H,I,(by rfl),q⟩
 |cons f z=>exact PySem.SeqAt.eq_list_lengthsAt c.isList g.isList (by simp) hu ⟨.bl ai,H,I,rfl,q⟩
def Hv(K:Af):R2:=λx y H Q=>∃a b xs ys,x=.ref a/\y=.ref b/\SqT K H a xs/\SqT K H b ys/\ys≠[]/\xs.length+ys.length<=As /\
 (xs=[]->Q (.ref b) H)/\(xs≠[]->∀p,H p=af->Q (.ref p) (upd H p (.tup (xs++ys))))
theorem op_catA:OpR X (Fb .Add) (Hv X.K):=by
 intro f s σ H x y v u Q I p q h;obtain⟨a,b,r,O,rfl,rfl,w,t,L,G,B,C⟩:=h;by_cases g:r=[]
 ·cases(p);cases(q);obtain⟨l,J,z,_⟩:=I.tuple w;obtain⟨c,S,P,_⟩:=I.tuple t;obtain⟨⟨R,A,_,N⟩,o,M,n,D⟩:=id z;obtain⟨⟨_,m,_,k⟩,d,i,E,j⟩:=id P;subst M D i j;exact concat_meets ⟨_,o,rfl⟩ ⟨_,d,rfl⟩ noFill_tuple_add seq_tuple_add Ge Gb (by trivial)
   (tuple_addW0 a b l.toArray c.toArray n E A m N k (by simp[(J.nil_iff.mpr g)])) ⟨o,d,⟨.ref b,H,I,rfl,B g⟩⟩
 ·exact op_catT f s σ H _ _ v u Q I p q ⟨a,b,r,O,rfl,rfl,w,t,g,G,λe=>f_ e L,λ_=>C g⟩
theorem U3:CallR X (.builtin "isinstance") (λxs H Q=>∃x t b,xs=[x,.ty T]/\TyOf X.K H x t/\PySem.W.kitOne X.K t (.type T)=ae b/\Q (.bl b) H):=by
 intro c s σ H xs i Q I r h;obtain⟨x,t,b,rfl,ty,e,q⟩:=h;obtain⟨u,f,rfl,d,a⟩:=sZ r;cases(a);exact UU I d ty e λtk=>⟨.bl b,H,I.tok tk,rfl,q⟩
section
variable{prog:A9}{w:Bj}{A:Bn}{E:Ag->Aj->Prop}{s:Aj}
theorem rH:entryFor table "dict.update.loop"=ae Ey.«dict.update.loop»:=G0 (by kernel_rfl)
theorem qN:plainId "dict.update.loop"=ah:=by decide +kernel
theorem Ij:typeLookup (.type "tuple") "keys"=pure af:=by rw[typeLookup_type,Gz];kernel_rfl
theorem ze(p:IsTup s.heap a i_.toArray)(h:Q i_ s):A2 (A8 prog w) A (Builtin.Dict.pairItems (.ref a)) Q E s:=by
 obtain⟨o,b,c,n,d⟩:=id p;refine Aa (D1 (⟨o,b,c⟩) (Aa (Cb b d (Ah ?_))));simpa using h
set_option maxRecDepth 8000 in
theorem TX
  (hx:s.heap.get? a=ae o) (hc:o.cls=.type "tuple") (hdat:o.data=.seq xs k) (hd:o.dict=af) (hmiss:typeLookup (.type "tuple") name=pure af) (hname:(["__module__","__name__","__qualname__","__doc__","__annotations__"]:List Str).contains name=ai) (hA:A.handled=af)
  (h:∀h' tk e,Heap.NewExcOf s.heap h' e "AttributeError"->Q af {s with heap:=h',toks:=tk}) (hsz:name.length+100<=As:=by size_fits):
  A2 (A8 prog w) A (getAttr? (.ref a) name) Q E s:=by
 obtain⟨c,u,r,v⟩:=o;simp only at hc hdat hd;subst hc hdat hd;obtain⟨t,g,d,tk,q⟩:=s;have n:∀m,(⟨t,g,d,m,q⟩:Aj).TypeIs (.ref a) "tuple":=λ_=>⟨_,hx,rfl⟩;have C:=sub_AttributeError;have z:=F.slot_tuple_getattribute.lookup;have G:=F.slot_tuple_getattribute.bind (.ref a);have D:=am_tuple_getattr_none;unfold getAttr? getAttrBy? getAttrBy
 repeat (any_goals (first|assumption|exact n _|((with_reducible show A2 _ _ (call _ _ _) _ _ _);refine call_meets F.slot_tuple_getattribute (n _) am_entry_tuple_getattribute (F.args_tuple_getattribute_2 _ _) (meets_getattribute_miss_tuple a xs k v name _ hmiss hname hsz) ⟨hx,hA,λh' m e l=>?_⟩)|wp_step))
 obtain⟨B,y,x⟩:=l.there;show A2 _ _ _ _ _ _;simp
 repeat (any_goals (first|assumption|wp_step))
 exact h _ _ _ l.of
end
section
variable{X:Cx}{h_:List (A_×Obj)}{σ:St}{A:Bn}{R:Result->Aj->Prop}
theorem SqT.upd{K:Af}(h:H a=ae (.tup xs))(hd:a≠d):(L2.upd H d o) a=ae (.tup xs):=(aX hd)▸h
theorem NX(hA:A.handled=af)(ps:List (A_×aJ×V)):∀(n i:Nat)(H:Hp)(s:Aj)(kvs:List (aJ×V)),n+i=ps.length->Inv X h_ σ H s->H d=ae (.dK kvs)->kvs.length+n<=As->
  H src=ae (.tup (ps.map λp=>.ref p.1))->(∀p∈ps,H p.1=ae (.tup [kV p.2.1,p.2.2]))->s.heap.IsTupleIter it src i->cO X h_ H it->
  (∀H' s',Inv X h_ σ H' s'->H'=L2.upd H d (.dK (lg kvs ((ps.drop i).map (·.2))))->R (.ok (.ret .none)) s')->
  Gy (A8 X.prog X.w) A (.builtin "dict.update.loop" ⟨[.ref d,.ref it,Dh i,.none],[]⟩) R s:=by
 intro n
 induction n with
 |zero=>
  intro i H s kvs hn I x hz l v O f S;obtain⟨G,D,p,_⟩:=I.tuple (SqT.of l);obtain⟨m,C,W,B,y,t⟩:=f;refine Dm rH ?_;have hl:=D.length;rw[Ad]at hl;refine Aa (wpAny_pyNext_tuple_end hA O (p) (by simp;omega) λh' eb=>Aa (Ah (Ah ?_)));refine S H _ (I.turned (eb) m C B y t) ?_;have e1:ps.drop i=[]:=List.drop_eq_nil_of_le ⋯;rw[e1]
  funext b
  unfold L2.upd
  split
  ·rename_i g;rw[g,x];rfl
  ·rfl
 |succ n ih=>
  intro i H s kvs hn I x hz l v O f S;obtain⟨G,D,p,_⟩:=I.tuple (SqT.of l);obtain⟨m,C,W,B,y,t⟩:=id f;have L:i < ps.length:=by omega
  have Q:(ps.map λp=>V.ref p.1)[i]?=ae (V.ref (ps[i]).1):=by simp[L]
  obtain⟨u,hu,ru⟩:=D.get Q;cases(ru);have E:=v _ (Da L);refine Dm rH (Aa (wpAny_pyNext_tuple_item O (p) (by simpa using hu) λh1 M sb=>?_));have F:Inv X h_ σ H {s with heap:=h1}:=I.turned (λb o g=>(sb.2 b g).trans) m C B y t;obtain⟨T,P,p1,_⟩:=F.tuple (SqT.of E);obtain⟨u1,u2,rfl,r1,r2⟩:=sZ P;refine Aa (Bt (Aa (wpAny_tryCatch (ze p1 ?_))));obtain⟨z,J,vs,c,Z⟩:=G9 F.hok x;have hz1:vs.length<=As:=c.length▸z;have hl1:=pT kvs (ps[i]).2.1 (ps[i]).2.2;refine Bt (wpAny_dictSet_pairs (mz r1) Z λh2 h a=>?_);have N:∃q,h2.get? d=ae q:=let⟨q,_,_,E,_⟩:=h;⟨q,E⟩;have U:∀b Y,H b=ae (.tup Y)->b≠d:=λb Y e z=>by simp_all
  have j:it≠d:=λz=>by simp_all
  have hc:(i+1)=((i+1:Nat):Int):=by push_cast;rfl
  refine Ah ⟨E2 qN _,?_⟩;refine ih (i+1) _ _ _ ⋯ (mO (t':=s.toks+1) F (by rw[x];trivial) a N (zP ⋯ J (c.put (ps[i]).2.1 r2) h)) br ⋯ (SqT.upd (K:=X.K) l (U _ _ l)) (λq k=>SqT.upd (K:=X.K) (v q k) (U _ _ (v q k))) (by
   obtain⟨o,e,r⟩:=M;exact⟨o,(a.2 it j).trans e,r⟩) ⟨by rw[aX j];exact m,C,W,B,y,t⟩ λH' s' I' e=>S H' s' I' ?_;rw[e,yG,F4 L];rfl
theorem ft(h:n<=1000):n<=As:=F1 (yZ h)
theorem P0(hh:X.A.handled=af):CallR X (.type "dict") (λxs H Q=>∃(src:A_)(ps:List (A_×aJ×V)),xs=[.ref src]/\H src=ae (.tup (ps.map λp=>V.ref p.1))/\(∀p∈ps,H p.1=ae (.tup [kV p.2.1,p.2.2]))/\ps.length<=1000 /\
  ∀l,H l=af->Q (.ref l) (L2.upd H l (.dK (lg [] (ps.map (·.2)))))):=by
 intro i s σ H xs U Q I r h;obtain⟨src,ps,rfl,J,B,x,q⟩:=h;obtain⟨u,rfl,P⟩:=f6 r;cases(P);refine callType_codes (Q₁:=λobj L=>obj=.ref s.heap.objs.size/\L={ s with heap:=s.heap.push {cls:=.type "dict",data:=.dict #[]}}) F.kt_called_dict (F.kt_typeCall_dict_1 _) F.entry_dict_init (kt_code_dict_new _ ⟨rfl,rfl⟩) ?_
 rintro obj L ⟨rfl,rfl⟩
 have t:=I.fresh;have G:Inv X i σ _ {s with heap:=s.heap.push {cls:=.type "dict",data:=.dict #[]}}:=I.laid (λb o=>Ae _) (by simp) (CP s.heap I.big);have E:∀b xs,H b=ae (.tup xs)->b≠s.heap.objs.size:=λb xs e z=>by simp_all
 have f:=SqT.upd (K:=X.K) (o:=.dK []) J (E _ _ J);obtain⟨S,N,T,o,k,v,⟨n,c⟩,M⟩:=(show ObjOk X.prog X.w _ _ src (.tup _)from G.hok src _ f);have a:(s.heap.push {cls:=.type "dict",data:=.dict #[]}).DictOf (fD X.prog X.w) s.heap.objs.size []:=Heap.DictOf.new s.heap;refine⟨a.typeIs,F.args_dict_init_2 _ _,Aa ?_⟩;refine Aa (wpAny_notOrdered_dict a.typeIs (Ah ?_));show A2 _ _ _ _ _ _;refine Aa (D1 ⟨o,k,v⟩ (Aa (TX k v c M Ij (by rfl) hh (λh' y e C=>?_))));have j:=G.kept (t':=y) C.keeps;refine Aa (Fk (Aa (Dx ((IsTup.keeps ⟨o,k,v,n,c⟩ C.keeps)) ?_)));refine Ah ⟨E2 qN _,?_⟩;refine NX (A:=X.A.in1) hh ps ps.length 0 _ _ [] ⋯ (j.kept (t':=y) (λb o=>Ae {cls:=.type "tuple_iterator",data:=.fields #[.ref src,.int 0 0]})) br (by simp;exact ft ⋯) f (λq D=>SqT.upd (K:=X.K) (B q D) (E _ _ (B q D))) ⟨_,Ar _ rfl,rfl,rfl⟩ (j.fpOk (by simp) j.fresh) λH' Y O e=>?_;refine⟨rfl,.ref s.heap.objs.size,H',O,rfl,?_⟩;rw[e,yG];exact q _ t
end
def HB(x:Str):It:=⟨λi _=>i < x.cps.size,λi H y H'=>H'=H/\∃c,x.cps[i]?=ae c/\y=.str ⟨#[c]⟩,λi _=>i=x.cps.size⟩
theorem EW{K:Af}(it)
  (hn:["enumerate","zip","dict_itemiterator","dict_reverseitemiterator","odict_iterator","itertools.zip_longest","itertools.pairwise"].contains T=ai)
  (hW:∀A:Bn,A.handled=af->Walks P w A it [it] [it] x.cps.size (SignAt x) (λi h=>h.IsStrIter it T x t i))
  (hS:∀(A:Bn)(i:Nat)(s:Aj)(Q:Ag->Aj->Prop)(E:Ag->Aj->Prop),s.heap.IsStrIter it T x t i->Q (.ref it) s->A2 (A8 P w) A (pyIter (.ref it)) Q E s):
  Turn P w K tg (HB x) [it] it (λi h=>h.IsStrIter it T x t i) where
 mem:=by simp
 obj:=λi h a b g=>by
  have e:b=it:=by simp_all
  subst e;obtain⟨o,e,c,d⟩:=a;exact⟨o,e,λv z=>by simp_all⟩
 keep:=λi h N a k=>let⟨o,R,r⟩:=a;⟨o,k it (by simp) o R,r⟩
 item:=by
  intro X n C F G i f s σ H E I l a m;subst n C F;obtain⟨q,y,O,p,L,J⟩:=l it (by simp);refine(hW X.A (I.ok.hd G)).item i s _ _ m a λv N M U j D=>?_;obtain⟨c,u,B,rfl⟩:=U;have S:Inv X f σ H {s with heap:=N,toks:=M}:=I.turned (λb o g=>D b o (by simpa using g)) q y p L J;obtain⟨o,e,V,d⟩:=id j;exact⟨_,rfl,om e V d hn ⟨.str _,H,S,⟨u,rfl⟩,⟨rfl,c,B,rfl⟩,j,λb g=>(l b g).1⟩⟩
 done:=by
  intro X n C F G i f s σ H E I l a m;subst n C F;obtain⟨q,y,O,p,L,J⟩:=l it (by simp);subst m;exact(hW X.A (I.ok.hd G)).done s _ _ a λh' M D=>⟨rfl,I.turned (λb o g=>D b o (by simpa using g)) q y p L J⟩
 self:=hS
def oK(tl:TE):TI:=λσ H R=>tl σ H λv H1=>∃x,v=.str x/\R (HB x) H1
theorem Sy(hl:PE X l tl):PI X tg l (oK tl):=by
 intro a s σ H R I h;refine aP (hl a s σ H _ I h) λv j u=>?_;obtain⟨y,d,c,p,m⟩:=u;obtain⟨x,e,q⟩:=m;subst e;obtain⟨t,rfl⟩:=(p);have i:∀(o:Obj) b,b∈[j.heap.objs.size]->cO X a d b:=λo b r=>by
  have e:b=j.heap.objs.size:=by simp_all
  subst e;exact c.fpOk (by simp) (c.hok.fresh (by simp))
 cases k:x.cps.all _
 ·refine wpAny_pyIter_wide k ?_;exact⟨_,_,_,_,d,rfl,c.kept λb o=>Ae _,
   EW _ ∎ (λA f=>Walks.strWide f _ x t) (λ_ _ _ _ _=>wpAny_pyIter_striter_wide),⟨_,Ar _ rfl,rfl,rfl⟩,i default,q⟩
 ·refine wpAny_pyIter_ascii k ?_;exact⟨_,_,_,_,d,rfl,c.kept λb o=>Ae _,
   EW _ ∎ (λA f=>Walks.strAscii f _ x t) (λ_ _ _ _ _=>wpAny_pyIter_striter_ascii),⟨_,Ar _ rfl,rfl,rfl⟩,i default,q⟩
theorem QR(bs:List Bool):((Bc bs.length).all λi=>(bs[i]?).getD ah)=bs.all id:=by
 rw[En,Bu,Bu]
 constructor
 ·intro h b d;obtain⟨i,c,rfl⟩:=List.mem_iff_getElem.mp d;have:=h i (B9.mpr c);rw[Ai c]at this;exact this
 ·intro h i c;have a:=B9.mp c;rw[Ai a];exact h _ (by simp)
theorem Po(hh:X.A.handled=af):CallR X (.builtin "all") (λxs H Q=>∃(p:A_)(bs:List Bool),xs=[.ref p]/\H p=ae (.lst (bs.map V.bl))/\Q (.bl (bs.all id)) H):=by
 intro o s σ H xs E Q I r h;obtain⟨p,bs,rfl,y,q⟩:=h;obtain⟨u,rfl,j⟩:=f6 r;cases(j);obtain⟨c,m,z,_⟩:=I.list (SqL.of y);have d:=z.isList;have k:p < s.heap.objs.size:=by obtain⟨_,e,_⟩:=d;exact Aq e
 have a:=by have:=m.length;rwa [Ad]at this
 refine call_all_walk (wpAny_pyIter_list d ?_);refine⟨_,_,_,_,_,_,λi=>(bs[i]?).getD ah,rfl,Walks.list (A:=X.A.in1) hh _ p (Bb k) c.toArray,
  ⟨⟨_,Ar _ rfl,rfl,rfl⟩,d.push _⟩,λi v J G F t g=>?_,λh' C w=>?_⟩
 ·have l:=by simpa using t
  have f:i < bs.length:=a▸(Aw.mp l).1;have B:(bs.map V.bl)[i]?=ae (V.bl bs[i]):=by simp
  obtain⟨u,n,j⟩:=m.get B;rw[l]at n;cases(B2 n);cases(show v=Value.bool bs[i]from j);dsimp only at g;rw[Ai f]at g;exact C7 g
 ·have e:((Bc c.toArray.size).all λi=>(bs[i]?).getD ah)=bs.all id:=B4▸a▸QR bs;rw[e];refine⟨.bl _,H,I.kept λb x e=>w b x (λhm=>?_) (Ae _ e),rfl,q⟩;rw[A4.mp hm]at e;exact Nat.lt_irrefl _ (Aq e)
theorem SO:OpR X (Bm .LtE) (λx y H Q=>∃i j,x=.str i/\y=.str j/\Q (.bl (!decide (j.cps.toList < i.cps.toList))) H):=by
 intro a s σ H x y v u Q I b c h;obtain⟨i,j,rfl,rfl,q⟩:=h;obtain⟨t,rfl⟩:=b;obtain⟨d,rfl⟩:=c;exact P.le_str (cH I q rfl)
theorem U4:OpR X (Bm .Gt) (λx y H Q=>∃i j,x=.str i/\y=.str j/\Q (.bl (decide (j.cps.toList < i.cps.toList))) H):=by
 intro a s σ H x y v u Q I b c h;obtain⟨i,j,rfl,rfl,q⟩:=h;obtain⟨t,rfl⟩:=b;obtain⟨d,rfl⟩:=c;exact P.gt_str (cH I q rfl)
def sr:Ab->String
 |.none=>"NoneType"
 |.bool _=>"bool"
 |.int _=>"int"
 |.str _=>"str"
 |.list _=>"list"
 |.tuple _=>"tuple"
 |.dict _=>"dict"
def bV(T:String)(d:Ab):Bool:=sr d==T || (T=="int"&&sr d=="bool")
def c4(h:Str):Ab->Bool
 |.str x=>decide (x=h)
 |_=>ai
end L2
namespace Nb
open PySem L2
def nt:Bool:=ah
def qW:List V:=[.non,.non,.non,.int 1,.int 2]
def kR:List Ab:=[.none,.none,.none,.int 1,.int 2]
end Nb
set_option Elab.async false
set_option maxRecDepth 100000
namespace Nb
open PySem L2
def Kp(t:A_)(H H':Hp):Prop:=∀b o,H b=ae o->b≠t->H' b=ae o
theorem Kp.refl(t)(H):Kp t H H:=λ_ _ h _=>h
theorem Kp.trans(a:Kp t H H1)(b:Kp t H1 H2):Kp t H H2:=λc o h n=>b c o (a c o h n) n
theorem Kp.new(h:H p=af):Kp t H (upd H p o):=λc a e _=>(aX (b5 e h))▸e
theorem Kp.tape:Kp t H (upd H t o):=λc a e n=>(aX n)▸e
structure TL where
 s:A_
 g:A_
def kI(l:TL):List V:=if nt=ah then[.ref l.g]else[]
structure Tp(H:Hp)(t:A_)(l:TL)(ns:List Int)(n:Int):Prop where
 ob:∃a b:Int,H t=ae (.lst (.ref l.s::.int a::.int b::kI l))/\0<=a/\a<=n
 ls:H l.s=ae (.lst (ns.map V.int))
 len:ns.length<=63
 ag:nt=ah->H l.g=ae (.lst qW)
 gne:l.g≠t
theorem Tp.ne(T:Tp H t l ns n):t≠l.s:=by
 obtain⟨a,b,h,_⟩:=T.ob;refine AQ h T.ls λz=>?_;cases ns with
 |nil=>cases⋯
 |cons m r=>
  simp_all
theorem Tp.other(T:Tp H t l ns n)(h1:t≠p)(h2:l.s≠p)(h3:nt=ah->l.g≠p):Tp (upd H p o) t l ns n:=by
 obtain⟨a,b,e,h⟩:=T.ob;exact⟨⟨a,b,by rw[aX h1];trivial⟩,by rw[aX h2];exact T.ls,T.len,λz=>(aX (h3 z))▸T.ag z,T.gne⟩
theorem Tp.new(T:Tp H t l ns n)(h:H p=af):Tp (upd H p o) t l ns n:=by
 obtain⟨a,b,e,_⟩:=T.ob;exact T.other (b5 e h) (b5 T.ls h) λz=>b5 (T.ag z) h
theorem M0{xs:List V}{r:Int}(h0:0<=r)(h1:r < xs.length):∃v,c8 xs r=ae v/\v∈xs:=by
 obtain⟨j,rfl⟩:=Ca h0;have a:j < xs.length:=by omega
 exact⟨_,eW (Ai a),Da a⟩
theorem ku(h:n<=1000):n<=As:=F1 (yZ h)
theorem RG:Br "tuple"=ae (.type "tuple"):=by rfl
theorem VQ:Br "dict"=ae (.type "dict"):=by rfl
theorem Lz:Br "int"=ae (.type "int"):=by rfl
theorem IM:Br "str"=ae (.type "str"):=by rfl
theorem L1:Br "repr"=ae (.builtin "repr"):=by rfl
theorem GS:Br "isinstance"=ae (.builtin "isinstance"):=by rfl
theorem Mh:Br "all"=ae (.builtin "all"):=by rfl
theorem wK:Br "list"=ae (.type "list"):=by rfl
theorem R5:Br "bool"=ae (.type "bool"):=by rfl
theorem Pd(h:xs.length<=63):fA xs af (ae 63)=xs:=by
 unfold fA;have c:HT.sIx xs.length 0 af=0:=rfl;have b:HT.sIx xs.length xs.length (ae 63)=xs.length:=by
  have e:=HT.sIx_nat xs.length xs.length 63;simp_all
 simp_all
def FD:Sp:=λvs H Q _=>∃(t:A_)(l:TL)(ns:List Int)(n many:Int),vs=[.ref t,.int many]/\Tp H t l ns n/\n < 2 ^ 40/\0 < many/\many < 1073741824 /\
 ∀(r:Int)(H':Hp),0<=r->r < many->Tp H' t l ns (n+1)->Kp t H H'->Q (.int r) H'
end Nb
namespace DL
open PySem L2 Nb
abbrev D:=Ab
mutual
inductive RdX(H:Hp)(B:A_->Prop):V->Ab->Prop
 |non:RdX H B .non .none
 |bl (b:Bool):RdX H B (.bl b) (.bool b)
 |int (i:Int):RdX H B (.int i) (.int i)
 |str (x:Str) (h:x.length<=As):RdX H B (.str x) (.str x)
 |lst {a:A_} {xs:List V} {ds:List Ab}:H a=ae (.lst xs)->¬B a->xs.length<=As->RdXs H B xs ds->RdX H B (.ref a) (.list ds)
 |tup {a:A_} {xs:List V} {ds:List Ab}:H a=ae (.tup xs)->¬B a->xs.length<=As->RdXs H B xs ds->RdX H B (.ref a) (.tuple ds)
inductive RdXs(H:Hp)(B:A_->Prop):List V->List Ab->Prop
 |nil:RdXs H B [] []
 |cons {x:V} {xs:List V} {d:Ab} {ds:List Ab}:RdX H B x d->RdXs H B xs ds->RdXs H B (x::xs) (d::ds)
end
mutual
theorem RdX.move{H H':Hp}{B B':A_->Prop}(k:∀b o,H b=ae o->¬B b->H' b=ae o/\¬B' b):∀{v:V}{d:Ab},RdX H B v d->RdX H' B' v d
 |_,_,.non=>.non
 |_,_,.bl b=>.bl b
 |_,_,.int i=>.int i
 |_,_,.str x h=>.str x h
 |_,_,.lst h1 h2 h3 h4=>.lst (k _ _ h1 h2).1 (k _ _ h1 h2).2 h3 (RdXs.move k h4)
 |_,_,.tup h1 h2 h3 h4=>.tup (k _ _ h1 h2).1 (k _ _ h1 h2).2 h3 (RdXs.move k h4)
theorem RdXs.move{H H':Hp}{B B':A_->Prop}(k:∀b o,H b=ae o->¬B b->H' b=ae o/\¬B' b):∀{vs:List V}{ds:List Ab},RdXs H B vs ds->RdXs H' B' vs ds
 |_,_,.nil=>.nil
 |_,_,.cons h1 h2=>.cons (RdX.move k h1) (RdXs.move k h2)
end
section
variable{H H':Hp}{B B':A_->Prop}{v:V}{d:Ab}{vs ws:List V}{ds es:List Ab}{t:A_}
theorem RdX.kp(k:Kp t H H')(ht:B t)(h:RdX H B v d):RdX H' B v d:=h.move λb o e n=>⟨k b o e λz=>n (z▸ht),n⟩
theorem RdXs.kp(k:Kp t H H')(ht:B t)(h:RdXs H B vs ds):RdXs H' B vs ds:=h.move λb o e n=>⟨k b o e λz=>n (z▸ht),n⟩
theorem RdX.less(k:∀b,B' b->B b)(h:RdX H B v d):RdX H B' v d:=h.move λb o e n=>⟨e,λz=>n (k b z)⟩
theorem RdXs.less(k:∀b,B' b->B b)(h:RdXs H B vs ds):RdXs H B' vs ds:=h.move λb o e n=>⟨e,λz=>n (k b z)⟩
theorem RdXs.keep(k:∀b o,H b=ae o->¬B b->H' b=ae o)(h:RdXs H B vs ds):RdXs H' B vs ds:=h.move λb o e n=>⟨k b o e n,n⟩
theorem RdXs.len:∀{vs:List V}{ds:List Ab},RdXs H B vs ds->vs.length=ds.length
 |_,_,.nil=>rfl
 |_,_,.cons _ t=>by rw[Ax,Ax,RdXs.len t]
theorem RdXs.get:∀{vs:List V}{ds:List Ab}{i:Nat}{v:V},RdXs H B vs ds->vs[i]?=ae v->∃d,ds[i]?=ae d/\RdX H B v d
 |_,_,_,_,.nil,e=>by simp at e
 |_,_,0,_,.cons h _,e=>by
  simp at e;subst e;exact⟨_,rfl,h⟩
 |_,_,i+1,v,.cons _ t,e=>by
  obtain⟨d,b,a⟩:=RdXs.get t (by trivial);exact⟨d,by simpa using b,a⟩
theorem RdXs.getD:∀{vs:List V}{ds:List Ab}{i:Nat}{d:Ab},RdXs H B vs ds->ds[i]?=ae d->∃v,vs[i]?=ae v/\RdX H B v d
 |_,_,_,_,.nil,e=>by simp at e
 |_,_,0,_,.cons h _,e=>by
  simp at e;subst e;exact⟨_,rfl,h⟩
 |_,_,i+1,d,.cons _ t,e=>by
  obtain⟨v,b,a⟩:=RdXs.getD t (by trivial);exact⟨v,by simpa using b,a⟩
theorem RdXs.append:∀{vs ws:List V}{ds es:List Ab},RdXs H B vs ds->RdXs H B ws es->RdXs H B (vs++ws) (ds++es)
 |_,_,_,_,.nil,h=>h
 |_,_,_,_,.cons b a,h=>.cons b (RdXs.append a h)
theorem RdXs.set:∀{vs:List V}{ds:List Ab}(i:Nat){v:V}{d:Ab},RdXs H B vs ds->RdX H B v d->RdXs H B (vs.set i v) (ds.set i d)
 |_,_,_,_,_,.nil,_=>.nil
 |_,_,0,_,_,.cons _ t,h=>.cons h t
 |_,_,i+1,_,_,.cons q t,h=>.cons q (RdXs.set i t h)
theorem RdXs.take:∀{vs:List V}{ds:List Ab}(n:Nat),RdXs H B vs ds->RdXs H B (vs.take n) (ds.take n)
 |_,_,0,_=>.nil
 |_,_,_+1,.nil=>.nil
 |_,_,n+1,.cons r t=>.cons r (RdXs.take n t)
theorem RdXs.drop:∀{vs:List V}{ds:List Ab}(n:Nat),RdXs H B vs ds->RdXs H B (vs.drop n) (ds.drop n)
 |_,_,0,r=>r
 |_,_,_+1,.nil=>.nil
 |_,_,n+1,.cons _ t=>RdXs.drop n t
end
mutual
theorem RdX.rd{K:Af}{H:Hp}{B:A_->Prop}:∀{v:V}{d:Ab},RdX H B v d->RdD K H v d
 |_,_,.non=>.non
 |_,_,.bl b=>.bl b
 |_,_,.int i=>.int i
 |_,_,.str x h=>.str x
 |_,_,.lst h1 h2 h3 h4=>.lst (SqL.of h1) (RdXs.rd h4)
 |_,_,.tup h1 h2 h3 h4=>.tup (SqT.of h1) (RdXs.rd h4)
theorem RdXs.rd{K:Af}{H:Hp}{B:A_->Prop}:∀{vs:List V}{ds:List Ab},RdXs H B vs ds->RdAll K H vs ds
 |_,_,.nil=>.nil
 |_,_,.cons h1 h2=>.cons (RdX.rd h1) (RdXs.rd h2)
end
inductive Ob where
 |o|p (d:Ab)|k (m:List (aJ×Ab))|q (d:Ab) (m:List (aJ×Ab))|x (m:List (TK×Ab))|y (m:List (TK×Ab))
inductive Wv where
 |d (x:Ab)|tp|dk (kvs:List (aJ×Ab))|ln (ds:List Ab)|ob (o:Ob)|dx (kvs:List (TK×Ab))
def Wv.lent:Wv->Bool
 |.dk _=>ah
 |.dx _=>ah
 |.ln _=>ah
 |_=>ai
inductive SV where
 |w (x:Wv)|own (ds:List Ab)|odk (kvs:List (aJ×Ab))|odt (kvs:List (List aJ×Ab))|odx (kvs:List (TK×Ab))
abbrev Sl:=List (Option SV)
def RdK(H:Hp)(B:A_->Prop):List (aJ×V)->List (aJ×Ab)->Prop:=Paired λp q=>p.1=q.1/\RdX H B p.2 q.2
theorem RdK.move(k:∀b o,H b=ae o->¬B b->H' b=ae o/\¬B' b)(h:RdK H B l m):RdK H' B' l m:=
 Paired.mapP h λ_ _ z=>⟨z.1,z.2.move k⟩
def RdT(H:Hp)(B:A_->Prop):List (List aJ×V)->List (List aJ×Ab)->Prop:=Paired λp q=>p.1=q.1/\RdX H B p.2 q.2
theorem RdT.move(k:∀b o,H b=ae o->¬B b->H' b=ae o/\¬B' b)(h:RdT H B l m):RdT H' B' l m:=
 Paired.mapP h λ_ _ z=>⟨z.1,z.2.move k⟩
def RdY(H:Hp)(B:A_->Prop):List (TK×A_×V)->List (TK×Ab)->Prop:=Paired λp q=>p.1=q.1/\RdX H B (.ref p.2.1) p.1.1/\RdX H B p.2.2 q.2
theorem RdY.move(k:∀b o,H b=ae o->¬B b->H' b=ae o/\¬B' b)(h:RdY H B l m):RdY H' B' l m:=
 Paired.mapP h λ_ _ z=>⟨z.1,z.2.1.move k,z.2.2.move k⟩
def ORel(H:Hp)(B:A_->Prop)(v:V):Ob->Prop
 |.o=>∃a,v=.ref a
 |.p d=>∃a x y,v=.ref a/\H a=ae (.tup [x,y])/\¬B a/\RdX H B x d
 |.k m=>∃a l,v=.ref a/\H a=ae (.dK l)/\¬B a/\RdK H B l m
 |.x m=>∃a l,v=.ref a/\H a=ae (.dX l)/\¬B a/\RdY H B l m
 |.y m=>∃a o l,v=.ref a/\H a=ae (.frz o (.dX l))/\¬B a/\RdY H B l m
 |.q d m=>∃a x b l,v=.ref a/\H a=ae (.tup [x,.ref b])/\¬B a/\RdX H B x d/\H b=ae (.dK l)/\¬B b/\RdK H B l m
theorem ORel.move(k:∀b o,H b=ae o->¬B b->H' b=ae o/\¬B' b)(h:ORel H B v o):ORel H' B' v o:=by
 cases o with
 |o=>exact h
 |p d=>
  obtain⟨a,x,y,e,f,c,g⟩:=h;exact⟨a,x,y,e,(k _ _ f c).1,(k _ _ f c).2,g.move k⟩
 |k m=>
  obtain⟨a,l,e,f,c,g⟩:=h;exact⟨a,l,e,(k _ _ f c).1,(k _ _ f c).2,g.move k⟩
 |y m=>
  obtain⟨a,o,l,e,f,c,g⟩:=h;exact⟨a,o,l,e,(k _ _ f c).1,(k _ _ f c).2,g.move k⟩
 |x m=>
  obtain⟨a,l,e,f,c,g⟩:=h;exact⟨a,l,e,(k _ _ f c).1,(k _ _ f c).2,g.move k⟩
 |q d m=>
  obtain⟨a,x,b,l,e,f,c,g,j,i,n⟩:=h;exact⟨a,x,b,l,e,(k _ _ f c).1,(k _ _ f c).2,g.move k,(k _ _ j i).1,(k _ _ j i).2,n.move k⟩
def WRel(H:Hp)(B:A_->Prop)(t:A_)(v:V):Wv->Prop
 |.d x=>RdX H B v x
 |.tp=>v=.ref t
 |.dk kvs=>∃a l,v=.ref a/\H a=ae (.dK l)/\a≠t/\RdK H B l kvs
 |.dx kvs=>∃a l,v=.ref a/\H a=ae (.dX l)/\a≠t/\RdY H B l kvs
 |.ln ds=>∃a xs,v=.ref a/\H a=ae (.lst xs)/\a≠t/\xs.length<=As/\RdXs H B xs ds
 |.ob o=>ORel H B v o
def SRel(H0:Hp)(H:Hp)(B:A_->Prop)(t:A_)(v:V):SV->Prop
 |.w x=>WRel H B t v x/\(x.lent=ah->∃a,v=.ref a/\H0 a≠af)
 |.own ds=>∃a xs,v=.ref a/\H a=ae (.lst xs)/\B a/\H0 a=af/\xs.length<=As/\RdXs H B xs ds
 |.odk kvs=>∃a l,v=.ref a/\H a=ae (.dK l)/\B a/\H0 a=af/\l.length<=1000/\RdK H B l kvs
 |.odt kvs=>∃a l,v=.ref a/\H a=ae (.dT l)/\B a/\H0 a=af/\l.length<=1000/\RdT H B l kvs
 |.odx kvs=>∃a l,v=.ref a/\H a=ae (.dX l)/\B a/\H0 a=af/\l.length<=1000/\RdY H B l kvs
def SV.isOwn:SV->Bool
 |.w _=>ai
 |_=>ah
structure Ctx where
 t:A_
 l:TL
 ns:List Int
 H0:Hp
 B0:A_->Prop
 fz:Hp
structure Rel(C:Ctx)(H:Hp)(B:A_->Prop)(σ:St)(δ:Sl)(n:Int):Prop where
 tp:Tp H C.t C.l C.ns n
 kp:Kp C.t C.H0 H
 t0:C.H0 C.t≠af
 l0:C.H0 C.l.s≠af
 g0:nt=ah->C.H0 C.l.g≠af
 fz:∀b o,C.fz b=ae o->H b=ae o/\¬B b
 bt:B C.t
 b0:∀b,C.B0 b->B b
 ba:∀b,B b->H b≠af
 a0:∀b,C.B0 b->C.H0 b≠af
 sl:∀(i:Nat)(x:SV),δ[i]?=ae (ae x)->∃v,σ[i]?=ae (ae v)/\SRel C.H0 H B C.t v x
 ow:∀(i j:Nat)(x y:SV)(v:V),δ[i]?=ae (ae x)->δ[j]?=ae (ae y)->x.isOwn=ah->y.isOwn=ah->σ[i]?=ae (ae v)->σ[j]?=ae (ae v)->i=j
 len:σ.length=δ.length
theorem WRel.kp(k:Kp t H H')(ht:B t)(h:WRel H B t v x):WRel H' B t v x:=by
 cases x with
 |d x=>exact RdX.kp k ht h
 |tp=>exact h
 |dk i=>
  obtain⟨a,l,e,g,c,f⟩:=h;exact⟨a,l,e,k _ _ g c,c,f.move λb o e n=>⟨k b o e λz=>n (z▸ht),n⟩⟩
 |dx i=>
  obtain⟨a,l,e,g,c,f⟩:=h;exact⟨a,l,e,k _ _ g c,c,f.move λb o e n=>⟨k b o e λz=>n (z▸ht),n⟩⟩
 |ln p=>
  obtain⟨a,l,e,g,c,f,j⟩:=h;exact⟨a,l,e,k _ _ g c,c,f,j.kp k ht⟩
 |ob o=>exact ORel.move (λb o e n=>⟨k b o e λz=>n (z▸ht),n⟩) h
theorem WRel.less(k:∀b,B' b->B b)(h:WRel H B t v x):WRel H B' t v x:=by
 cases x with
 |d x=>exact RdX.less k h
 |tp=>exact h
 |dk i=>
  obtain⟨a,l,e,g,c,f⟩:=h;exact⟨a,l,e,g,c,f.move λb o e n=>⟨e,λz=>n (k b z)⟩⟩
 |dx i=>
  obtain⟨a,l,e,g,c,f⟩:=h;exact⟨a,l,e,g,c,f.move λb o e n=>⟨e,λz=>n (k b z)⟩⟩
 |ln p=>
  obtain⟨a,l,e,g,c,f,j⟩:=h;exact⟨a,l,e,g,c,f,j.less k⟩
 |ob o=>exact ORel.move (λb o e n=>⟨e,λz=>n (k b z)⟩) h
theorem SRel.kp(k:Kp t H H')(ht:B t)(t0:H0 t≠af)(h:SRel H0 H B t v x):SRel H0 H' B t v x:=by
 cases x with
 |w x=>exact⟨h.1.kp k ht,h.2⟩
 |own u=>
  obtain⟨a,r,e,i,d,c,g,f⟩:=h;exact⟨a,r,e,k _ _ i (λz=>t0 (z▸c)),d,c,g,f.kp k ht⟩
 |odk j=>
  obtain⟨a,l,e,i,d,c,g,f⟩:=h;exact⟨a,l,e,k _ _ i (λz=>t0 (z▸c)),d,c,g,f.move λb o e n=>⟨k b o e λz=>n (z▸ht),n⟩⟩
 |odt j=>
  obtain⟨a,l,e,i,d,c,g,f⟩:=h;exact⟨a,l,e,k _ _ i (λz=>t0 (z▸c)),d,c,g,f.move λb o e n=>⟨k b o e λz=>n (z▸ht),n⟩⟩
 |odx j=>
  obtain⟨a,l,e,i,d,c,g,f⟩:=h;exact⟨a,l,e,k _ _ i (λz=>t0 (z▸c)),d,c,g,f.move λb o e n=>⟨k b o e λz=>n (z▸ht),n⟩⟩
theorem Rel.step(R:Rel C H B σ δ n)(T:Tp H' C.t C.l C.ns n')(k:Kp C.t H H'):Rel C H' B σ δ n' where
 tp:=T
 kp:=R.kp.trans k
 t0:=R.t0
 l0:=R.l0
 g0:=R.g0
 fz:=λb o e=>⟨k b o (R.fz b o e).1 λz=>(R.fz b o e).2 (z▸R.bt),(R.fz b o e).2⟩
 bt:=R.bt
 b0:=R.b0
 ba:=λb c e=>by
  by_cases z:b=C.t
  ·subst z;obtain⟨x,_⟩:=T.ob;simp_all
  ·cases q:H b with
   |none=>exact R.ba b c q
   |some o=>rw[k b o q z]at e;cases e
 a0:=R.a0
 sl:=λi x e=>by
  obtain⟨v,d,a⟩:=R.sl i x e;exact⟨v,d,a.kp k R.bt R.t0⟩
 ow:=R.ow
 len:=R.len
theorem Rel.new(R:Rel C H B σ δ n)(h:H p=af):Rel C (upd H p o) B σ δ n:=R.step (R.tp.new h) (Kp.new h)
theorem Rel.nb(R:Rel C H B σ δ n)(h:H p=af):¬B p:=λz=>R.ba p z h
theorem fk{α:Type}{l:List (Option α)}{x y:α}(h:(l.set i (ae x))[j]?=ae (ae y)):(j=i/\y=x)\/(j≠i/\l[j]?=ae (ae y)):=by
 by_cases e:i=j
 ·subst e;rw[Dc]at h;simp_all<;>omega
 ·rw[B1 e]at h;exact .inr ⟨λz=>e z.symm,h⟩
theorem rC{α:Type}{l:List (Option α)}{x y:Option α}(h:(l.set i x)[i]?=ae y):i < l.length:=by
 have:=(Aw.mp h).1;rwa [D5]at this
theorem pQ{α:Type}{l:List (Option α)}{x:α}(h:i < l.length):(l.set i (ae x))[i]?=ae (ae x):=by simp[h]
theorem kf{α:Type}{l:List (Option α)}{x:α}(h:j≠i):(l.set i (ae x))[j]?=l[j]?:=B1 (λz=>h z.symm)
theorem Rel.set(R:Rel C H B σ δ n)(h:WRel H B C.t v x)(hx:x.lent=ai):Rel C H B (σ.set i (ae v)) (δ.set i (ae (.w x))) n where
 tp:=R.tp
 kp:=R.kp
 t0:=R.t0
 l0:=R.l0
 g0:=R.g0
 fz:=R.fz
 bt:=R.bt
 b0:=R.b0
 ba:=R.ba
 a0:=R.a0
 sl:=λj y e=>by
  rcases fk e with⟨rfl,rfl⟩|⟨s,r⟩
  ·exact⟨v,pQ (R.len▸rC e),h,λz=>by simp_all<;>omega⟩
  ·obtain⟨u,_⟩:=R.sl j y r;exact⟨u,by rw[kf s];trivial⟩
 ow:=λj k y z u D A m q p o=>by
  rcases fk D with⟨rfl,rfl⟩|⟨l,f⟩
  ·cases m
  ·rcases fk A with⟨rfl,rfl⟩|⟨d,g⟩
   ·cases q
   ·rw[kf l]at p;rw[kf d]at o;exact R.ow j k y z u f g m q p o
 len:=by simpa using R.len
theorem Rel.mut(R:Rel C H B σ δ n)(hb:B a)(h0:C.H0 a=af)
  (ho:∀(i:Nat)(x:SV),δ[i]?=ae (ae x)->x.isOwn=ah->σ[i]?≠ae (ae (.ref a))):Rel C (upd H a o) B σ δ n where
 tp:=R.tp.other (λz=>R.t0 (z▸h0)) (λz=>R.l0 (z▸h0)) (λe z=>R.g0 e (z▸h0))
 kp:=λb q e=>(aX (b5 e h0))▸R.kp b q e
 t0:=R.t0
 l0:=R.l0
 g0:=R.g0
 fz:=λb q e=>⟨(aX λ(z:b=a)=>(R.fz b q e).2 (z▸hb))▸(R.fz b q e).1,(R.fz b q e).2⟩
 bt:=R.bt
 b0:=R.b0
 ba:=λb E e=>by
  by_cases z:b=a
  ·rw[z,br]at e;cases e
  ·rw[aX z]at e;exact R.ba b E e
 a0:=R.a0
 sl:=λi x e=>by
  obtain⟨v,K,g⟩:=R.sl i x e;have p:∀b q,H b=ae q->¬B b->upd H a o b=ae q/\¬B b:=λb q e n=>⟨(aX λ(z:b=a)=>n (z▸hb))▸e,n⟩;refine⟨v,K,?_⟩;cases x with
  |w x=>
   refine⟨?_,g.2⟩;cases x with
   |d x=>exact g.1.move p
   |tp=>exact g.1
   |dk m=>
    obtain⟨c,l,f,k,h,j⟩:=g.1;obtain⟨D,t,A⟩:=g.2 rfl;rw[f]at t;cases t;exact⟨c,l,f,(aX λ(z:c=a)=>A (z▸h0))▸k,h,j.move p⟩
   |dx m=>
    obtain⟨c,l,f,k,h,j⟩:=g.1;obtain⟨D,t,A⟩:=g.2 rfl;rw[f]at t;cases t;exact⟨c,l,f,(aX λ(z:c=a)=>A (z▸h0))▸k,h,j.move p⟩
   |ln G=>
    obtain⟨c,l,f,k,h,j,r⟩:=g.1;obtain⟨D,t,A⟩:=g.2 rfl;rw[f]at t;cases t;exact⟨c,l,f,(aX λ(z:c=a)=>A (z▸h0))▸k,h,j,r.move p⟩
   |ob o=>exact ORel.move p g.1
  |own G=>
   obtain⟨c,y,f,k,h,j,r,u⟩:=g;have s:c≠a:=λz=>ho i _ e rfl (by simp_all);exact⟨c,y,f,(aX s)▸k,h,j,r,u.move p⟩
  |odk m=>
   obtain⟨c,y,f,k,h,j,r,u⟩:=g;have s:c≠a:=λz=>ho i _ e rfl (by simp_all);exact⟨c,y,f,(aX s)▸k,h,j,r,u.move p⟩
  |odt m=>
   obtain⟨c,y,f,k,h,j,r,u⟩:=g;have s:c≠a:=λz=>ho i _ e rfl (by simp_all);exact⟨c,y,f,(aX s)▸k,h,j,r,u.move p⟩
  |odx m=>
   obtain⟨c,y,f,k,h,j,r,u⟩:=g;have s:c≠a:=λz=>ho i _ e rfl (by simp_all);exact⟨c,y,f,(aX s)▸k,h,j,r,u.move p⟩
 ow:=R.ow
 len:=R.len
theorem Rel.mutOwn(R:Rel C H B σ δ n)(hi:δ[i]?=ae (ae x))(hx:x.isOwn=ah)(hσ:σ[i]?=ae (ae (.ref a)))(hb:B a)(h0:C.H0 a=af)
  (h:SRel C.H0 (upd H a o) B C.t (.ref a) x') (hx':x'.isOwn=ah):Rel C (upd H a o) B σ (δ.set i (ae x')) n:=by
 have I:Rel C H B σ (δ.set i af) n:={
  tp:=R.tp,kp:=R.kp,t0:=R.t0,l0:=R.l0,g0:=R.g0,fz:=R.fz,bt:=R.bt,b0:=R.b0,ba:=R.ba,a0:=R.a0
  sl:=λj y e=>by
   by_cases z:i=j
   ·subst z;rw[Dc]at e;simp_all
   ·rw[B1 z]at e;exact R.sl j y e
  ow:=λj k y z u F A v D s p=>by
   have g:∀{m:Nat}{w:SV},(δ.set i af)[m]?=ae (ae w)->δ[m]?=ae (ae w):=λ{m w} e=>by
    by_cases q:i=m
    ·subst q;rw[Dc,hi]at e;cases e
    ·rwa [B1 q]at e
   exact R.ow j k y z u (g F) (g A) v D s p
  len:=by rw[D5];exact R.len}
 have d:Rel C (upd H a o) B σ _ n:=I.mut hb h0 λj y e G f=>by
  by_cases z:i=j
  ·subst z;rw[Dc,hi]at e;cases e
  ·rw[B1 z]at e;exact z (R.ow i j x y _ hi e hx G hσ f)
 exact{
  tp:=d.tp,kp:=d.kp,t0:=d.t0,l0:=d.l0,g0:=d.g0,fz:=d.fz,bt:=d.bt,b0:=d.b0,ba:=d.ba,a0:=d.a0
  sl:=λj y e=>by
   rcases fk e with⟨rfl,rfl⟩|⟨J,L⟩
   ·exact⟨_,hσ,h⟩
   ·exact d.sl j y (by rw[B1 λz=>J z.symm];omega)
  ow:=λj k y z u F A v D s p=>by
   rcases fk F with⟨rfl,rfl⟩|⟨K,r⟩
   ·rcases fk A with⟨rfl,rfl⟩|⟨E,l⟩
    ·rfl
    ·exact R.ow _ _ x z u hi l hx D s p
   ·rcases fk A with⟨rfl,rfl⟩|⟨E,l⟩
    ·exact R.ow _ _ y x u r hi v hx s p
    ·exact R.ow j k y z u r l v D s p
  len:=by rw[D5];exact R.len}
theorem Rel.own(R:Rel C H B σ δ n)(R':Rel C H' B σ δ n')(k:Kp C.t H H')(h0:H a=af)(h1:H' a≠af)(hx:x.isOwn=ah)
  (h:SRel C.H0 H' (λb=>B b\/b=a) C.t (.ref a) x):Rel C H' (λb=>B b\/b=a) (σ.set i (ae (.ref a))) (δ.set i (ae x)) n' where
 tp:=R'.tp
 kp:=R'.kp
 t0:=R'.t0
 l0:=R'.l0
 g0:=R'.g0
 fz:=λb o e=>⟨(R'.fz b o e).1,λz=>z.elim (R'.fz b o e).2 (b5 (R.fz b o e).1 h0)⟩
 bt:=.inl R.bt
 b0:=λb z=>.inl (R.b0 b z)
 ba:=λb z=>z.elim (R'.ba b) λq=>q▸h1
 a0:=R.a0
 sl:=λj y e=>by
  simp_all
  have I:∀b Q,H b=ae Q->¬B b->H' b=ae Q/\¬(B b\/b=a):=λb Q e n=>⟨k b Q e λz=>n (z▸R.bt),λz=>z.elim n (b5 e h0)⟩;rcases fk e with⟨rfl,rfl⟩|⟨ne,e'⟩
  ·exact⟨_,pQ (R.len▸rC e),h⟩
  ·obtain⟨v,M,D⟩:=R.sl j y e';refine⟨v,by rw[kf ne];exact M,?_⟩;cases y with
   |w y=>
    refine⟨?_,D.2⟩;cases y with
    |d y=>exact D.1.move I
    |tp=>exact D.1
    |dk G=>
     obtain⟨A,l,r,g,E,s⟩:=D.1;exact⟨A,l,r,k _ _ g E,E,s.move I⟩
    |dx G=>
     obtain⟨A,l,r,g,E,s⟩:=D.1;exact⟨A,l,r,k _ _ g E,E,s.move I⟩
    |ln N=>
     obtain⟨A,l,r,g,E,s,J⟩:=D.1;exact⟨A,l,r,k _ _ g E,E,s,J.move I⟩
    |ob o=>exact ORel.move I D.1
   |own N=>
    obtain⟨A,F,r,g,E,s,J,K⟩:=D;exact⟨A,F,r,k _ _ g (λz=>R.t0 (z▸s)),.inl E,s,J,K.move I⟩
   |odk G=>
    obtain⟨A,F,r,g,E,s,J,K⟩:=D;exact⟨A,F,r,k _ _ g (λz=>R.t0 (z▸s)),.inl E,s,J,K.move I⟩
   |odt G=>
    obtain⟨A,F,r,g,E,s,J,K⟩:=D;exact⟨A,F,r,k _ _ g (λz=>R.t0 (z▸s)),.inl E,s,J,K.move I⟩
   |odx G=>
    obtain⟨A,F,r,g,E,s,J,K⟩:=D;exact⟨A,F,r,k _ _ g (λz=>R.t0 (z▸s)),.inl E,s,J,K.move I⟩
 ow:=λj m y z u r g Z o2 M D=>by
  have out:∀{p:Nat}{w:SV},δ[p]?=ae _->w.isOwn=ah->σ[p]?=ae (ae (.ref a))->False:=λ{p w} e ow f=>by
   obtain⟨v,Y,S⟩:=R.sl p w e;rw[f]at Y;cases Y;cases w with
   |w _=>cases ow
   |own N=>
    obtain⟨A,F,r,g,_⟩:=S;simp_all
   |odk N=>
    obtain⟨A,F,r,g,_⟩:=S;simp_all
   |odt N=>
    obtain⟨A,F,r,g,_⟩:=S;simp_all
   |odx N=>
    obtain⟨A,F,r,g,_⟩:=S;simp_all
  rcases fk r with⟨rfl,rfl⟩|⟨P,V⟩
  ·rcases fk g with⟨rfl,rfl⟩|⟨L,O⟩
   ·rfl
   ·rw[pQ (R.len▸rC r)]at M;rw[kf L]at D;simp_all
  ·rcases fk g with⟨rfl,rfl⟩|⟨L,O⟩
   ·rw[pQ (R.len▸rC g)]at D;rw[kf P]at M;simp_all
   ·rw[kf P]at M;rw[kf L]at D;exact R.ow j m y z u V O Z o2 M D
 len:=by rw[D5,D5];exact R.len
theorem Rel.give(R:Rel C H B σ δ n)(hi:δ[i]?=ae (ae x))(ox:x.isOwn=ah)(hv:σ[i]?=ae (ae (.ref a)))(e4:C.H0 a=af)(hy:WRel H (λb=>B b/\b≠a) C.t (.ref a) y)(hl:y.lent=ai):Rel C H (λb=>B b/\b≠a) σ (δ.set i (ae (.w y))) n:=by
 have f:∀b,(B b/\b≠a)->B b:=λb z=>z.1;exact{
  tp:=R.tp,kp:=R.kp,t0:=R.t0,l0:=R.l0,g0:=R.g0
  fz:=λb o e=>⟨(R.fz b o e).1,λz=>(R.fz b o e).2 z.1⟩
  bt:=⟨R.bt,λz=>R.t0 (z▸e4)⟩
  b0:=λb z=>⟨R.b0 b z,λq=>R.a0 b z (q▸e4)⟩
  ba:=λb z=>R.ba b z.1
  a0:=R.a0
  sl:=λj K e=>by
   rcases fk e with⟨rfl,rfl⟩|⟨F,E⟩
   ·exact⟨_,hv,hy,λz=>by rw[hl]at z;cases z⟩
   ·obtain⟨u,m,g⟩:=R.sl j K E;refine⟨u,m,?_⟩;cases K with
    |w y=>exact⟨g.1.less f,g.2⟩
    |own l=>
     obtain⟨p,d,v,A,s,r,D,h⟩:=g;exact⟨p,d,v,A,⟨s,λz=>F (R.ow j i _ _ _ E hi rfl ox m (by simp_all))⟩,r,D,h.less f⟩
    |odk l=>
     obtain⟨p,d,v,A,s,r,D,h⟩:=g;exact⟨p,d,v,A,⟨s,λz=>F (R.ow j i _ _ _ E hi rfl ox m (by simp_all))⟩,r,D,h.move λb o e n=>⟨e,λz=>n z.1⟩⟩
    |odt l=>
     obtain⟨p,d,v,A,s,r,D,h⟩:=g;exact⟨p,d,v,A,⟨s,λz=>F (R.ow j i _ _ _ E hi rfl ox m (by simp_all))⟩,r,D,h.move λb o e n=>⟨e,λz=>n z.1⟩⟩
    |odx l=>
     obtain⟨p,d,v,A,s,r,D,h⟩:=g;exact⟨p,d,v,A,⟨s,λz=>F (R.ow j i _ _ _ E hi rfl ox m (by simp_all))⟩,r,D,h.move λb o e n=>⟨e,λz=>n z.1⟩⟩
  ow:=λj k y z u U Q J L m g=>by
   rcases fk U with⟨rfl,rfl⟩|⟨T,G⟩
   ·cases J
   ·rcases fk Q with⟨rfl,rfl⟩|⟨O,I⟩
    ·cases L
    ·exact R.ow j k y z u G I J L m g
  len:=by rw[D5];exact R.len}
theorem Rel.frz{n:Int}{i:Nat}{ds:List Ab}(R:Rel C H B σ δ n)(hi:δ[i]?=ae (ae (.own ds))):∃B',Rel C H B' σ (δ.set i (↑(.list ds))) n:=by
 obtain⟨v,c,a,k,rfl,e,j,f,g,h⟩:=R.sl i _ hi;exact⟨_,R.give hi rfl c f (show RdX H _ _ (.list ds)from .lst e (λz=>z.2 rfl) g (h.less λb z=>z.1)) rfl⟩
theorem Rel.frzK(R:Rel C H B σ δ n)(hi:δ[i]?=ae (ae (.odk m))):∃B',Rel C H B' σ (δ.set i (ae (.w (.ob (.k m))))) n:=by
 obtain⟨v,c,a,d,rfl,f,j,g,l,h⟩:=R.sl i _ hi;exact⟨_,R.give hi rfl c g ⟨a,d,rfl,f,λz=>z.2 rfl,h.move λb o e n=>⟨e,λz=>n z.1⟩⟩ rfl⟩
theorem Rel.frzX(R:Rel C H B σ δ n)(hi:δ[i]?=ae (ae (.odx m))):∃B',Rel C H B' σ (δ.set i (ae (.w (.ob (.x m))))) n:=by
 obtain⟨v,c,a,d,rfl,f,j,g,k,h⟩:=R.sl i _ hi;exact⟨_,R.give hi rfl c g ⟨a,d,rfl,f,λz=>z.2 rfl,h.move λb o e n=>⟨e,λz=>n z.1⟩⟩ rfl⟩
abbrev DQ:=Wv->Int->Prop
abbrev DT:=Sl->Int->DQ->Prop
abbrev bZ:=Sl->Int->(Bool->Int->Prop)->Prop
abbrev d0:=Sl->Int->(List Wv->Int->Prop)->Prop
inductive ARel(H:Hp)(B:A_->Prop)(t:A_):List V->List Wv->Prop
 |nil:ARel H B t [] []
 |cons {v:V} {vs:List V} {x:Wv} {xs:List Wv}:WRel H B t v x->ARel H B t vs xs->ARel H B t (v::vs) (x::xs)
theorem ARel.kp(k:Kp t H H')(ht:B t):∀{vs:List V}{xs:List Wv},ARel H B t vs xs->ARel H' B t vs xs
 |_,_,.nil=>.nil
 |_,_,.cons a b=>.cons (a.kp k ht) (ARel.kp k ht b)
theorem ARel.len:∀{vs:List V}{xs:List Wv},ARel H B t vs xs->vs.length=xs.length
 |_,_,.nil=>rfl
 |_,_,.cons _ b=>by rw[Ax,Ax,ARel.len b]
def dY(t:TE)(w:DT):Prop:=∀(C:Ctx)(H:Hp)(B:A_->Prop)(σ:St)(δ:Sl)(n:Int)(Q:DQ)(Q':VK),Rel C H B σ δ n->w δ n Q->
 (∀v x H' n',Rel C H' B σ δ n'->Kp C.t H H'->WRel H' B C.t v x->Q x n'->Q' v H')->t σ H Q'
def jC(t:TT)(w:bZ):Prop:=∀(C:Ctx)(H:Hp)(B:A_->Prop)(σ:St)(δ:Sl)(n:Int)(Q:Bool->Int->Prop)(Q':Bool->Hp->Prop),Rel C H B σ δ n->w δ n Q->
 (∀b H' n',Rel C H' B σ δ n'->Kp C.t H H'->Q b n'->Q' b H')->t σ H Q'
def i6(t:TA)(w:d0):Prop:=∀(C:Ctx)(H:Hp)(B:A_->Prop)(σ:St)(δ:Sl)(n:Int)(Q:List Wv->Int->Prop)(Q':List V->Hp->Prop),Rel C H B σ δ n->w δ n Q->
 (∀vs xs H' n',Rel C H' B σ δ n'->Kp C.t H H'->ARel H' B C.t vs xs->Q xs n'->Q' vs H')->t σ H Q'
abbrev dq:=Sl->Int->(List Ab->Int->Prop)->Prop
def i8(t:TE)(w:dq):Prop:=∀(C:Ctx)(H:Hp)(B:A_->Prop)(σ:St)(δ:Sl)(n:Int)(Q:List Ab->Int->Prop)(Q':VK),Rel C H B σ δ n->w δ n Q->
 (∀a xs ds H' n',Rel C H' B σ δ n'->Kp C.t H H'->H a=af->H' a=ae (.lst xs)->xs.length<=As->RdXs H' (λb=>B b\/b=a) xs ds->Q ds n'->Q' (.ref a) H')->t σ H Q'
structure DE(X:Cx)(e:Expr)(t:TE)(w:DT):Prop where
 pe:PE X e t
 sd:dY t w
structure DC(X:Cx)(e:Expr)(t:TT)(w:bZ):Prop where
 pt:PT X e t
 sd:jC t w
structure DCW(X:Cx)(e:Expr)(t:TT)(w:bZ):Prop where
 pw:PW X e t
 sd:jC t w
structure DA(X:Cx)(es:List Expr)(t:TA)(w:d0):Prop where
 pa:PA X es t
 sd:i6 t w
structure DF(X:Cx)(e:Expr)(t:TE)(w:dq):Prop where
 pe:PE X e t
 sd:i8 t w
variable{X:Cx}{a b c e:Expr}{ta tb tc te:TE}{wa wb wc we:DT}{pos:Pos}
def aj(i:Nat):DT:=λδ n Q=>match δ[i]? with
 |some (ae (.w x))=>Q x n
 |_=>False
theorem T4(i){p:Pos}(hN:X.N[i]?=ae x:=by rfl)(hv:ej X.env.scope x:=by first|exact Cc rfl|exact Bo (Cc rfl)|exact Bo (Bo rfl))(hd:(x==("__debug__":Str))=ai:=by decide)
  (q_:(x==("__classdict__":Str))=ai:=by decide):DE X (.Name x p) (bM i) (aj i):=⟨eZ hN hv hd q_,λC H B σ δ n Q c R h k=>by
 unfold aj at h
 split at h
 ·rename_i x e;obtain⟨v,b,a⟩:=R.sl i _ e;exact⟨v,b,k v x H n R (Kp.refl _ _) a.1 h⟩
 ·exact h.elim⟩
def wC(d:Ab):DT:=λ_ n Q=>Q (.d d) n
theorem oM(h:∀H B,RdX H B v d):dY (tC v) (wC d):=λC H B σ δ n Q a R q k=>k v (.d d) H n R (Kp.refl _ _) (h H B) q
theorem Ny{i j p}:DE X (.Constant (.int i) j p) (tC (.int i)) (wC (.int i)):=⟨cm,oM λ_ _=>.int i⟩
theorem sL{i j p}:DE X (.Constant (.bool i) j p) (tC (.bl i)) (wC (.bool i)):=⟨SY,oM λ_ _=>.bl i⟩
theorem SQ{j p}:DE X (.Constant .none j p) (tC .non) (wC .none):=⟨kr,oM λ_ _=>.non⟩
theorem P7{x j p}(h:Str.length x<=As:=by decide +kernel):DE X (.Constant (.str x) j p) (tC (.str x)) (wC (.str x)):=⟨Lh,oM λ_ _=>.str x h⟩
theorem Nk(hg:Gl X x)(hm:X.mg x=ae (.int i tk))(hd:(x==("__debug__":Str))=ai:=by decide):DE X (.Name x p) (tC (.int i)) (wC (.int i)):=⟨vx hg hm ⟨tk,rfl⟩ hd,oM λ_ _=>.int i⟩
def w2(wa wb:DT)(g:Wv->Wv->Int->DQ->Prop):DT:=λδ n Q=>wa δ n λx n1=>wb δ n1 λy n2=>g x y n2 Q
def bq(r:R2)(g:Wv->Wv->Int->DQ->Prop):Prop:=∀(C:Ctx)(H:Hp)(B:A_->Prop)(σ:St)(δ:Sl)(n:Int)(x y:V)(p q:Wv)(Q:DQ)(Q':VK),Rel C H B σ δ n->WRel H B C.t x p->WRel H B C.t y q->g p q n Q->
 (∀v x H' n',Rel C H' B σ δ n'->Kp C.t H H'->WRel H' B C.t v x->Q x n'->Q' v H')->r x y H Q'
theorem pG(hr:bq r g)(ha:dY ta wa)(hb:dY tb wb):dY (dQ r ta tb) (w2 wa wb g):=λC H B σ δ n Q q R h k=>
 ha C H B σ δ n _ _ R h λv x m o b A s f=>hb C m B σ δ o _ _ b f λu y j l R2 a t d=>
  hr C j B σ δ l v u x y Q q R2 (s.kp a b.bt) t d λz p e i D c=>k z p e i D ((A.trans a).trans c)
theorem gV(ho:OpR X (Fb op) r)(hr:bq r g)(ha:DE X a ta wa)(hb:DE X b tb wb):DE X (.BinOp a op b pos) (dQ r ta tb) (w2 wa wb g):=
 ⟨d4 ho ha.pe hb.pe,pG hr ha.sd hb.sd⟩
theorem mH(ho:OpR X (Bm op) r)(hr:bq r g)(ha:DE X a ta wa)(hb:DE X b tb wb)(hm:Ce op b=ai):DE X (.Compare a [op] [b] pos) (dQ r ta tb) (w2 wa wb g):=
 ⟨JW ho ha.pe hb.pe hm,pG hr ha.sd hb.sd⟩
def cT(w:DT):bZ:=λδ n Q=>w δ n λx n'=>match x with
 |.d (.bool k)=>Q k n'
 |_=>False
theorem wd(h:RdX H B v d):WRel H B t v (.d d):=h
theorem j4(h:dY t w):jC (iB t) (cT w):=λC H B σ δ n Q j R q k=>
 h C H B σ δ n _ _ R q λv x c e d g f a=>by
  split at a
  ·rename_i b;cases(show RdX c B v (.bool b)from f);exact⟨b,rfl,k b c e d g a⟩
  ·exact a.elim
theorem hG(ho:OpR X (Bm op) r)(hr:bq r g)(ha:DE X a ta wa)(hb:DE X b tb wb)(hm:Ce op b=ai):DC X (.Compare a [op] [b] pos) (iB (dQ r ta tb)) (cT (w2 wa wb g)):=
 ⟨ke ho ha.pe hb.pe hm,j4 (pG hr ha.sd hb.sd)⟩
theorem Ox(h:DE X e t w)(he:∀whole,isTrue e X.env whole=(do let v <-whole;standAt e.pos;Gj [v] (truthy v)):=by intro _;rfl):DC X e (iB t) (cT w):=⟨Wj h.pe he,j4 h.sd⟩
def gJ(x:Wv)(A B:Prop):Prop:=match x with
 |.d (.bool ah)=>A
 |.d (.bool ai)=>B
 |_=>False
theorem jU(b)(A B):gJ (.d (.bool b)) A B=if b=ah then A else B:=by cases b<;>simp[gJ]
def fi(g g':Wv->Wv->Int->DQ->Prop)(wa wb wc:DT):DT:=λδ n Q=>wa δ n λx n1=>wb δ n1 λy n2=>g x y n2 λz n3=>gJ z (wc δ n3 λu n4=>g' y u n4 Q) (Q (.d (.bool ai)) n3)
theorem xD(hr:bq r g)(hr':bq r' g')(ha:dY ta wa)(hb:dY tb wb)(hc:dY tc wc):dY (oQ r r' ta tb tc) (fi g g' wa wb wc):=λC H B σ δ n Q O R h k=>
 ha C H B σ δ n _ _ R h λv x I M l V T E=>hb C I B σ δ M _ _ l E λu y F G R2 i m w=>
  hr C F B σ δ G v u x y _ _ R2 (T.kp i l.bt) m w λz p c j e f o b=>by
   have a:=(V.trans i).trans f;unfold gJ at b
   split at b
   ·cases(show RdX c B z (.bool ah)from o);exact⟨_,rfl,hc C c B σ δ j _ _ e b λw0 s N S P q t U=>hr' C N B σ δ S u w0 y s Q O P ((m.kp f R2.bt).kp q e.bt) t U λz p W J D A=>k z p W J D ((a.trans q).trans A)⟩
   ·cases(show RdX c B z (.bool ai)from o);exact⟨_,rfl,k _ _ c j e a ⋯ b⟩
   ·exact b.elim
theorem PQ(ho:OpR X (Bm op) r)(hr:bq r g)(ho':OpR X (Bm op') r')(hr':bq r' g')(ha:DE X a ta wa)(hb:DE X b tb wb)(hc:DE X c tc wc)
  (hm:lastMarks [op,op'] [b,c]=ai:=by with_unfolding_all rfl):DE X (.Compare a [op,op'] [b,c] pos) (oQ r r' ta tb tc) (fi g g' wa wb wc):=⟨Rk ho ho' ha.pe hb.pe hc.pe hm,xD hr hr' ha.sd hb.sd hc.sd⟩
theorem TU(ho:OpR X (Bm op) r)(hr:bq r g)(ho':OpR X (Bm op') r')(hr':bq r' g')(ha:DE X a ta wa)(hb:DE X b tb wb)(hc:DE X c tc wc)
  (hm:lastMarks [op,op'] [b,c]=ai:=by with_unfolding_all rfl):DC X (.Compare a [op,op'] [b,c] pos) (iB (oQ r r' ta tb tc)) (cT (fi g g' wa wb wc)):=⟨NP ho ho' ha.pe hb.pe hc.pe hm,j4 (xD hr hr' ha.sd hb.sd hc.sd)⟩
variable{tA tB':TT}{cA cB:bZ}{rest:List Expr}
def bW(u v:bZ):bZ:=λδ n Q=>u δ n λb n1=>if b=ah then v δ n1 Q else Q ai n1
def cC(u v:bZ):bZ:=λδ n Q=>u δ n λb n1=>if b=ah then Q ah n1 else v δ n1 Q
def aM(u:bZ):bZ:=λδ n Q=>u δ n λb n1=>Q (!b) n1
theorem cw_and1(h:DC X a tA cA):DCW X (.BoolOp .And [a] pos) tA cA:=⟨FH h.pt,h.sd⟩
theorem cw_or1(h:DC X a tA cA):DCW X (.BoolOp .Or [a] pos) tA cA:=⟨Wh h.pt,h.sd⟩
theorem cw_and(h:DC X a tA cA)(h2:DCW X (.BoolOp .And (b::rest) pos) tB' cB):DCW X (.BoolOp .And (a::b::rest) pos) (oE tA tB') (bW cA cB):=⟨yy h.pt h2.pw,λC H B σ δ n Q p R q k=>
 h.sd C H B σ δ n _ _ R q λb e f d g c=>by
  cases b with
  |true=>
   exact h2.sd C e B σ δ f _ _ d c λb l m o i=>k b l m o (g.trans i)
  |false=>
   exact k ai e f d g c⟩
theorem cw_or(h:DC X a tA cA)(h2:DCW X (.BoolOp .Or (b::rest) pos) tB' cB):DCW X (.BoolOp .Or (a::b::rest) pos) (BS tA tB') (cC cA cB):=⟨K1 h.pt h2.pw,λC H B σ δ n Q p R q k=>
 h.sd C H B σ δ n _ _ R q λb e f d g c=>by
  cases b with
  |true=>
   exact k ah e f d g c
  |false=>
   exact h2.sd C e B σ δ f _ _ d c λb l m o i=>k b l m o (g.trans i)⟩
theorem DCW.cc(h:DCW X a tA cA):DC X a tA cA:=⟨h.pw.pt,h.sd⟩
theorem HV(h:DC X a tA cA):DC X (.UnaryOp .Not a pos) (nL tA) (aM cA):=⟨LG h.pt,λC H B σ δ n Q i R q k=>h.sd C H B σ δ n _ _ R q λb=>k _⟩
def bc(u v:DT):DT:=λδ n Q=>u δ n λx n1=>gJ x (v δ n1 Q) (Q (.d (.bool ai)) n1)
def ji(u v:DT):DT:=λδ n Q=>u δ n λx n1=>gJ x (Q (.d (.bool ah)) n1) (v δ n1 Q)
def ij(u:DT):DT:=λδ n Q=>u δ n λx n1=>match x with
 |.d (.bool b)=>Q (.d (.bool !b)) n1
 |_=>False
theorem Va{op}(h:DE X a ta wa):DE X (.BoolOp op [a] pos) ta wa:=⟨Qa h.pe,h.sd⟩
theorem Mc(h:DE X a ta wa)(h2:DE X (.BoolOp .And (b::rest) pos) tb wb):DE X (.BoolOp .And (a::b::rest) pos) (GI ta tb) (bc wa wb):=⟨Q9 h.pe h2.pe,λC H B σ δ n Q t R q k=>
 h.sd C H B σ δ n _ _ R q λv x d g f j i c=>by
  unfold gJ at c
  split at c
  ·cases(show RdX d B v (.bool ah)from i);exact⟨_,rfl,h2.sd C d B σ δ g _ _ f c λv x o p r l=>k v x o p r (j.trans l)⟩
  ·cases(show RdX d B v (.bool ai)from i);exact⟨_,rfl,k _ _ d g f j ⋯ c⟩
  ·exact c.elim⟩
theorem uS(h:DE X a ta wa)(h2:DE X (.BoolOp .Or (b::rest) pos) tb wb):DE X (.BoolOp .Or (a::b::rest) pos) (oY ta tb) (ji wa wb):=⟨Rl h.pe h2.pe,λC H B σ δ n Q t R q k=>
 h.sd C H B σ δ n _ _ R q λv x d g f j i c=>by
  unfold gJ at c
  split at c
  ·cases(show RdX d B v (.bool ah)from i);exact⟨_,rfl,k _ _ d g f j ⋯ c⟩
  ·cases(show RdX d B v (.bool ai)from i);exact⟨_,rfl,h2.sd C d B σ δ g _ _ f c λv x o p r l=>k v x o p r (j.trans l)⟩
  ·exact c.elim⟩
theorem JZ(h:DE X a ta wa):DE X (.UnaryOp .Not a pos) (yi ta) (ij wa):=⟨QL h.pe,λC H B σ δ n Q l R q k=>
 h.sd C H B σ δ n _ _ R q λv x d f e j g c=>by
  split at c
  ·rename_i b;cases(show RdX d B v (.bool b)from g);exact⟨b,rfl,k _ _ d f e j (wd (.bl _)) c⟩
  ·exact c.elim⟩
def gq(u:bZ)(v w:DT):DT:=λδ n Q=>u δ n λb n1=>if b=ah then v δ n1 Q else w δ n1 Q
theorem OF(h:DC X c tA cA)(h1:DE X a ta wa)(h2:DE X b tb wb):DE X (.IfExp c a b pos) (tL tA ta tb) (gq cA wa wb):=⟨FP h.pt h1.pe h2.pe,λC H B σ δ n Q s R q k=>
 h.sd C H B σ δ n _ _ R q λb o p m r l=>by
  cases b with
  |true=>
   exact h1.sd C o B σ δ p _ _ m l λv x f g i d=>k v x f g i (r.trans d)
  |false=>
   exact h2.sd C o B σ δ p _ _ m l λv x f g i d=>k v x f g i (r.trans d)⟩
variable{es:List Expr}{tR:TA}{wR:d0}
def ak:d0:=λ_ n Q=>Q [] n
def ao(w:DT)(r:d0):d0:=λδ n Q=>w δ n λx n1=>r δ n1 λxs n2=>Q (x::xs) n2
theorem Sx:DA X [] bP ak:=⟨dG,λC H B σ δ n Q a R q k=>k [] [] H n R (Kp.refl _ _) .nil q⟩
theorem Vz(h:DE X e te we)(hr:DA X es tR wR)(hs:Au (e::es) X.env=(ai,eval e X.env)::Au es X.env:=by rfl):DA X (e::es) (cU te tR) (ao we wR):=⟨cj h.pe hr.pa hs,λC H B σ δ n Q r R q k=>
 h.sd C H B σ δ n _ _ R q λv x i j b p m d=>hr.sd C i B σ δ j _ _ b d λvs s f g l a o=>k _ _ f g l (p.trans a) (.cons (m.kp a b.bt) o)⟩
def gy:List Wv->Option (List Ab)
 |[]=>ae []
 |.d x::r=>(gy r).map (x::·)
 |_::_=>af
theorem ARel.plain:∀{vs:List V}{xs:List Wv}{ds:List Ab},ARel H B t vs xs->gy xs=ae ds->RdXs H B vs ds
 |_,_,_,.nil,h=>by
  cases h;exact .nil
 |_,_,ds,.cons (x:=x) (xs:=xs) a b,h=>by
  cases x with
  |d x=>
   have c:(gy xs).map _=ae ds:=h;cases e:gy xs with
   |none=>rw[e]at c;trivial
   |some f=>
    rw[e]at c;cases c;exact .cons a (ARel.plain b e)
  |tp=>cases h
  |dk _=>cases h
  |dx _=>cases h
  |ln _=>cases h
  |ob _=>cases h
theorem RdXs.fresh(h:RdXs H B vs ds)(hp:H p=af):RdXs (upd H p o) (λb=>B b\/b=p) vs ds:=
 h.move λb a e n=>⟨(aX (b5 e hp))▸e,λz=>z.elim n (b5 e hp)⟩
def aC(w:d0):DT:=λδ n Q=>w δ n λxs n1=>match gy xs with
 |some ds=>ds.length<=1000/\Q (.d (.tuple ds)) n1
 |none=>False
theorem LI{x1}(h:DA X es tR wR):DE X (.Tuple es x1 pos) (nQ tR) (aC wR):=⟨NZ h.pa,λC H B σ δ n Q s R q k=>
 h.sd C H B σ δ n _ _ R q λvs t o g f j i a=>by
  split at a
  ·rename_i l e;have r:=i.plain e;have d:vs.length<=As:=by rw[r.len];exact ku a.1
   exact⟨d,λp c=>k _ _ _ g (f.new c) (j.trans (Kp.new c)) (wd (show RdX _ B _ (.tuple l)from(.tup br (f.nb c) d ((r.fresh c).less λb=>.inl)))) a.2⟩
  ·exact a.elim⟩
def aN(w:d0):dq:=λδ n Q=>w δ n λxs n1=>match gy xs with
 |some ds=>ds.length<=1000/\Q ds n1
 |none=>False
theorem Ml(h:DA X es tR wR):DF X (.List es pos) (lH tR) (aN wR):=⟨sj h.pa,λC H B σ δ n Q u R q k=>
 h.sd C H B σ δ n _ _ R q λvs v j m d f s b=>by
  split at b
  ·rename_i g e;have r:=s.plain e;have c:vs.length<=As:=by rw[r.len];exact ku b.1
   have l:∀p,j p=af->H p=af:=λp a=>by
    cases q:H p with
    |none=>rfl
    |some o=>
     by_cases z:p=C.t
     ·subst z;obtain⟨_,_,h,_⟩:=d.tp.ob;simp_all<;>omega
     ·rw[f p o q z]at a;omega
   exact⟨c,λp a=>k p vs g _ m (d.new a) (f.trans (Kp.new a)) (l p a) br c (r.fresh a) b.2⟩
  ·exact b.elim⟩
def aV(w:dq):DT:=λδ n Q=>w δ n λds n1=>Q (.d (.list ds)) n1
theorem JP(h:i8 t w):dY t (aV w):=λC H B σ δ n Q p R q k=>
 h C H B σ δ n _ _ R q λa r o c i e m j l d f=>k _ _ c i e m (wd (show RdX c B _ (.list o)from .lst l (R.nb j) d (f.less λb z=>.inl z)))
theorem DF.d(h:DF X e t w):DE X e t (aV w):=⟨h.pe,JP h.sd⟩
theorem Rel.was(R1:Rel C H1 B σ δ n1)(k1:Kp C.t H H1)(hp:H1 p=af):H p=af:=by
 cases q:H p with
 |none=>rfl
 |some o=>
  by_cases z:p=C.t
  ·subst z;obtain⟨_,_,h,_⟩:=R1.tp.ob;simp_all<;>omega
  ·rw[k1 p o q z]at hp;omega
abbrev bb:=List Wv->Int->DQ->Prop
def eV(S:bb):Sp:=λvs H Q _=>∃(t:A_)(l:TL)(ns:List Int)(B:A_->Prop)(ws:List Wv)(n:Int)(Q0:DQ),Tp H t l ns n/\B t/\(∀b,B b->H b≠af)/\ARel H B t vs ws/\S ws n Q0 /\
 ∀w n',Q0 w n'->∀v H',Tp H' t l ns n'->Kp t H H'->WRel H' B t v w->Q v H'
section
variable{X:Cx}{e:Expr}{es:List Expr}{pos p:Pos}{tR:TA}{wR:d0}
def aB(S:bb)(w:d0):DT:=λδ n Q=>w δ n λxs n1=>S xs n1 Q
theorem OA(h:i6 t w):dY (hU (eV S) [] E0 t) (aB S w):=λC H B σ δ n Q s R q k=>
 h C H B σ δ n _ _ R q λvs j r f a p o d=>⟨C.t,C.l,_,B,j,f,Q,a.tp,a.bt,a.ba,by simpa using o,d,λw e c v g m b i=>k v w g e (a.step m b) (p.trans b) i c⟩
theorem Pz(F:FnOk X.prog X.w X.K X.mg X.base cV k f fd ps (eV S))(hr:Room k X.A)(hg:Gl X x)(hm:X.mg x=ae (.ref f))(hk:C1 X.K (.ref f)=ah)(hb:Binds X.K fd ps [])
  (ha:DA X (e::es) tR wR) (hdb:(x==("__debug__":Str))=ai:=by decide) (he:Au (e::es) X.env=(ai,eval e X.env)::Au es X.env:=by rfl) (p_:(C6 pos (Au es X.env)).any (·.1)=ai:=by rfl):
  DE X (.Call (.Name x p) (e::es) [] pos) (hU (eV S) [] E0 tR) (aB S wR):=⟨pX F hr hg hm hk hb .nil pV ha.pa hdb he p_,OA ha.sd⟩
def dv(r:List V->Hp->VK->Prop)(g:List Wv->Int->DQ->Prop):Prop:=∀(C:Ctx)(H:Hp)(B:A_->Prop)(σ:St)(δ:Sl)(n:Int)(vs:List V)(xs:List Wv)(Q:DQ)(Q':VK),Rel C H B σ δ n->ARel H B C.t vs xs->g xs n Q->
 (∀v x H' n',Rel C H' B σ δ n'->Kp C.t H H'->WRel H' B C.t v x->Q x n'->Q' v H')->r vs H Q'
def wB(g:List Wv->Int->DQ->Prop)(w:d0):DT:=λδ n Q=>w δ n λxs n1=>g xs n1 Q
theorem AD(hr:dv r g)(h:i6 t w):dY (fM r t) (wB g w):=λC H B σ δ n Q l R q k=>
 h C H B σ δ n _ _ R q λvs m i j e u p c=>hr C i B σ δ j vs m Q l e p c λv x d f o a=>k v x d f o (u.trans a)
theorem p9{id:String}(hc:CallR X (.builtin id) r)(hr:dv r g)(hg:Gl X x)(hm:X.mg x=af)(hv:Br x=ae (.builtin id))(ha:DA X (e::es) tR wR)(hn:x≠"__name__":=by decide)(hdb:(x==("__debug__":Str))=ai:=by decide)
  (he:Au (e::es) X.env=(ai,eval e X.env)::Au es X.env:=by rfl) (p_:(C6 pos (Au es X.env)).any (·.1)=ai:=by rfl):DE X (.Call (.Name x p) (e::es) [] pos) (fM r tR) (wB g wR):=⟨j7 hc hg hm hv ha.pa hn hdb he p_,AD hr ha.sd⟩
theorem rV(hc:CallR X (.type T) r)(hr:dv r g)(hg:Gl X x)(hm:X.mg x=af)(hv:Br x=ae (.type T))(ha:DA X (e::es) tR wR)(hn:x≠"__name__":=by decide)(hdb:(x==("__debug__":Str))=ai:=by decide)
  (he:Au (e::es) X.env=(ai,eval e X.env)::Au es X.env:=by rfl) (p_:(C6 pos (Au es X.env)).any (·.1)=ai:=by rfl):DE X (.Call (.Name x p) (e::es) [] pos) (fM r tR) (wB g wR):=⟨mM hc hg hm hv ha.pa hn hdb he p_,AD hr ha.sd⟩
end
structure DEnds where
 nx:Sl->Int->Prop
 rt:DQ
 bk:Sl->Int->Prop:=λ_ _=>False
 ct:Sl->Int->Prop:=λ_ _=>False
 rn:List Ab->Int->Prop:=λ_ _=>False
 rx:List (TK×Ab)->Int->Prop:=λ_ _=>False
abbrev aE:=Sl->Int->DEnds->Prop
structure EndsOk(C:Ctx)(K:DEnds)(D:Ends):Prop where
 nx:∀H B σ δ n,Rel C H B σ δ n->K.nx δ n->D.nx σ H
 rt:∀H B σ δ n v w,Rel C H B σ δ n->WRel H B C.t v w->K.rt w n->D.rt v H
 bk:∀H B σ δ n,Rel C H B σ δ n->K.bk δ n->D.bk σ H
 ct:∀H B σ δ n,Rel C H B σ δ n->K.ct δ n->D.ct σ H
 rn:∀H B σ δ n a xs ds,Rel C H B σ δ n->C.H0 a=af->H a=ae (.lst xs)->xs.length<=As->RdXs H (λb=>B b\/b=a) xs ds->K.rn ds n->D.rt (.ref a) H
 rx:∀H B σ δ n a l kvs,Rel C H B σ δ n->C.H0 a=af->H a=ae (.dX l)->l.length<=1000->RdY H (λb=>B b\/b=a) l kvs->K.rx kvs n->D.rt (.ref a) H
def jD(T:TS)(W:aE):Prop:=∀(C:Ctx)(H:Hp)(B:A_->Prop)(σ:St)(δ:Sl)(n:Int)(K:DEnds)(D:Ends),Rel C H B σ δ n->W δ n K->EndsOk C K D->T D σ H
structure DS(X:Cx)(st:Stmt)(T:TS)(W:aE):Prop where
 ps:PS X st T
 sd:jD T W
structure DSs(X:Cx)(st:List Stmt)(T:TS)(W:aE):Prop where
 ps:PSs X st T
 sd:jD T W
section
variable{X:Cx}{st:Stmt}{rest:List Stmt}{T U:TS}{W V':aE}{e:Expr}{te:TE}{we:DT}{pos:Pos}
def aF:aE:=λδ n K=>K.nx δ n
def ar(W V:aE):aE:=λδ n K=>W δ n {K with nx:=λδ n=>V δ n K}
theorem PB:DSs X [] HM aF:=⟨qt,λC H B σ δ n K D R h E=>E.nx H B σ δ n R h⟩
theorem Jj(h:DS X st T W)(h2:DSs X rest U V'):DSs X (st::rest) (nM T U) (ar W V'):=⟨gK h.ps h2.ps,λC H B σ δ n K D R q E=>
 h.sd C H B σ δ n _ _ R q ⟨λH B σ δ n R q=>h2.sd C H B σ δ n K D R q E,E.rt,E.bk,E.ct,E.rn,E.rx⟩⟩
theorem Oo(h:DS X st T W):DSs X [st] T W:=⟨mG h.ps,h.sd⟩
def av(w:DT):aE:=λδ n K=>w δ n K.rt
theorem Nq(h:DE X e te we):DS X (.Return (ae e) pos) (jc te) (av we):=⟨lQ h.pe,λC H B σ δ n K D R q E=>
 h.sd C H B σ δ n _ _ R q λv x d c a _=>E.rt d B σ δ c v x a⟩
def aH(c:bZ)(W V:aE):aE:=λδ n K=>c δ n λb n1=>if b=ah then W δ n1 K else V δ n1 K
theorem vF{a b:List Stmt}{tc:TT}(hc:DC X c tc cc)(ha:DSs X a T W)(hb:DSs X b U V'):DS X (.If c a b pos) (pz tc T U) (aH cc W V'):=⟨qK hc.pt ha.ps hb.ps,λC H B σ δ n K D R q E=>
 hc.sd C H B σ δ n _ _ R q λb f g e _ d=>by
  cases b with
  |true=>
   exact ha.sd C f B σ δ g K D e d E
  |false=>
   exact hb.sd C f B σ δ g K D e d E⟩
def az(i:Nat)(w:DT):aE:=λδ n K=>w δ n λx n1=>match x with
 |.d d=>K.nx (δ.set i (↑d)) n1
 |.tp=>K.nx (δ.set i (ae (.w .tp))) n1
 |.dk _=>False
 |.dx _=>False
 |.ln _=>False
 |.ob o=>K.nx (δ.set i (ae (.w (.ob o)))) n1
theorem Lm(hN:X.N.Nodup)(hi:X.N[i]?=ae x)(hx:gB X.env.scope x)(he:DE X e te we)(hs:Cp e (ae (.Name x pos')) pos.line X.env=pure ai:=by rfl)(hf:X.fn x=ah\/X.env.scope.names.lookup x=ae .local:=by first|exact .inl rfl|exact .inr rfl|assumption):
  DS X (.Assign [.Name x pos'] e pos) (bX te (fc i)) (az i we):=⟨gx hN hi hx he.pe hs hf,λC H B σ δ n K D R q E=>
 he.sd C H B σ δ n _ _ R q λv x g h b _ c a=>by
  cases x with
  |d d=>exact E.nx _ _ _ _ _ (b.set c rfl) a
  |tp=>exact E.nx _ _ _ _ _ (b.set c rfl) a
  |dk _=>exact a.elim
  |dx _=>exact a.elim
  |ln _=>exact a.elim
  |ob o=>exact E.nx _ _ _ _ _ (b.set c rfl) a⟩
def bu(i:Nat)(w:dq):aE:=λδ n K=>w δ n λds n1=>K.nx (δ.set i (ae (.own ds))) n1
theorem Rel.h0{a:A_}(R:Rel C H B σ δ n)(h:H a=af):C.H0 a=af:=R.was R.kp h
theorem PF(hN:X.N.Nodup)(hi:X.N[i]?=ae x)(hx:gB X.env.scope x)(he:DF X e te w)(hs:Cp e (ae (.Name x pos')) pos.line X.env=pure ai:=by rfl)(hf:X.fn x=ah\/X.env.scope.names.lookup x=ae .local:=by first|exact .inl rfl|exact .inr rfl|assumption):
  DS X (.Assign [.Name x pos'] e pos) (bX te (fc i)) (bu i w):=⟨gx hN hi hx he.pe hs hf,λC H B σ δ n K D R q E=>
 he.sd C H B σ δ n _ _ R q λa j o l m h k b c d f g=>by
  refine E.nx _ _ _ _ _ (R.own h k b (by rw[c];simp) rfl ?_) g;exact⟨a,j,rfl,c,.inr rfl,R.h0 b,d,f⟩⟩
def bO(i:Nat)(W:aE):aE:=λδ n K=>match δ[i]? with
 |some (ae (.own ds))=>W (δ.set i (↑(.list ds))) n K
 |some (ae (.odk m))=>W (δ.set i (ae (.w (.ob (.k m))))) n K
 |some (ae (.odx m))=>W (δ.set i (ae (.w (.ob (.x m))))) n K
 |_=>W δ n K
theorem IZ(i)(h:DSs X sts T W):DSs X sts T (bO i W):=⟨h.ps,λC H B σ δ n K D R q E=>by
 unfold bO at q
 split at q
 ·rename_i c e;obtain⟨b,a⟩:=R.frz e;exact h.sd C H b σ _ n K D a q E
 ·rename_i m e;obtain⟨b,a⟩:=R.frzK e;exact h.sd C H b σ _ n K D a q E
 ·rename_i m e;obtain⟨b,a⟩:=R.frzX e;exact h.sd C H b σ _ n K D a q E
 ·exact h.sd C H B σ δ n K D R q E⟩
def bh(i:Nat)(w:DT):aE:=λδ n K=>match δ[i]? with
 |some (ae (.own ds))=>w δ n λx n1=>match x with
  |.d d=>ds.length < 1000000/\K.nx (δ.set i (ae (.own (ds++[d])))) n1
  |_=>False
 |_=>False
theorem DR(h:n < 1000000):n < As:=Nat.lt_trans h ∎
theorem QD{xp ap cp:Pos}(hN:X.N[i]?=ae x)(he:DE X e te we)(hv:ej X.env.scope x:=by first|exact Cc rfl|exact Bo (Cc rfl)|exact Bo (Bo rfl))(hd:(x==("__debug__":Str))=ai:=by decide)
  (q_:(x==("__classdict__":Str))=ai:=by decide)
  (hbase:Gi (.Name x xp) "append" X.env (eval (.Name x xp) X.env)=eval (.Name x xp) X.env:=by rfl)
  (hfew:((C6 cp (Au [e] X.env)).all (λx=>!x.1)&&(backToKw cp (keywordEach [] X.env)).all (λx=>x.1.isSome)
   && decide ([e].length+([]:List Keyword).length+(if ([]:List Keyword).isEmpty then 0 else 1) < 30))=ah:=by rfl)
  (hline:(ap.endLine==cp.line)=ah:=by rfl) (hs:Au [e] X.env=[(ai,eval e X.env)]:=by rfl) (hplain:(C6 cp (Au [] X.env)).any (·.1)=ai:=by rfl)
  (hsw:Cp (.Call (.Attribute (.Name x xp) "append" ap) [e] [] cp) af pos.line X.env=pure ai:=by rfl):
  DS X (.Expr (.Call (.Attribute (.Name x xp) "append" ap) [e] [] cp) pos) (nT (oe X.K "list" GZ (bM i) (cU te bP))) (bh i we):=
 ⟨qj (q0 Ga PySem.F.slot_list_append PySem.F.type_list_append yv (eZ hN hv hd q_) (cj he.pe dG hs) hbase hfew hline hs hplain) hsw,λC H B σ δ n K D R q E=>by
  unfold bh at q
  split at q
  ·rename_i A k;obtain⟨v,hv,a,r,rfl,l,g,h,G,f⟩:=R.sl i _ k;refine⟨_,hv,.inl ⟨rfl,_,SqL.of l⟩,he.sd C H B σ δ n _ _ R q λu y I J p m s c=>?_⟩;cases y with
   |d d=>
    have j:a≠C.t:=λz=>R.t0 (z▸h);refine⟨a,r,u,rfl,rfl,(m _ _ l j),DR (f.len▸c.1),E.nx _ _ _ _ _ (p.mutOwn k rfl hv g h ?_ rfl) c.2⟩;refine⟨a,_,rfl,br,g,h,?_,?_⟩
    ·rw[An,f.len];exact DR c.1
    ·refine RdXs.keep (λb o e n=>?_) ((f.kp m R.bt).append (.cons s .nil));rw[aX λ(z:b=a)=>n (z▸g)];exact e
   |tp=>exact c.elim
   |dk _=>exact c.elim
   |dx _=>exact c.elim
   |ln _=>exact c.elim
   |ob _=>exact c.elim
  ·exact q.elim⟩
end
def dj(N:List Str)(ws:List Wv):Sl:=ws.map (λx=>ae (.w x))++Df (N.length-ws.length) af
def bK(S:bb)(W:aE)(N:List Str):Prop:=∀ws n Q,S ws n Q->W (dj N ws) n {nx:=λ_ n=>Q (.d .none) n,rt:=Q}
theorem ARel.get:∀{vs:List V}{xs:List Wv}{i:Nat}{x:Wv},ARel H B t vs xs->xs[i]?=ae x->∃v,vs[i]?=ae v/\WRel H B t v x
 |_,_,_,_,.nil,e=>by simp at e
 |_,_,0,_,.cons h _,e=>by
  simp at e;subst e;exact⟨_,rfl,h⟩
 |_,_,i+1,x,.cons _ r,e=>by
  obtain⟨v,b,a⟩:=ARel.get r (by trivial);exact⟨v,by simpa using b,a⟩
theorem sI(T:Tp H t l ns n)(bt:B t)(ba:∀b,B b->H b≠af)(r:ARel H B t vs ws):Rel ⟨t,l,ns,H,B,λ_=>af⟩ H B (L2.start N vs) (dj N ws) n where
 tp:=T
 kp:=Kp.refl _ _
 t0:=by
  obtain⟨_,_,h,_⟩:=T.ob;show H t≠af;rw[h];simp
 l0:=by
  show H l.s≠af;rw[T.ls];simp
 g0:=λe=>by
  show H l.g≠af;rw[T.ag e];simp
 fz:=λb o e=>nomatch e
 bt:=bt
 b0:=λ_ z=>z
 ba:=ba
 a0:=ba
 sl:=λi x e=>by
  unfold dj at e;rw[List.getElem?_append]at e
  split at e
  ·rename_i u;rw[Ad]at u;rw[Ap]at e;cases q:ws[i]? with
   |none=>rw[q]at e;cases e
   |some y=>
    rw[q]at e;cases e;obtain⟨v,w,m⟩:=r.get q;refine⟨v,?_,m,λz=>?_⟩
    ·unfold L2.start;rw[F3 (by rw[Ad,r.len];omega),Ap,w];rfl
    ·cases y with
     |d _=>cases z
     |tp=>cases z
     |dk _=>
      obtain⟨a,p,k,f,_⟩:=m;exact⟨a,k,by show H a≠af;rw[f];simp⟩
     |dx _=>
      obtain⟨a,p,k,f,_⟩:=m;exact⟨a,k,by show H a≠af;rw[f];simp⟩
     |ln _=>
      obtain⟨a,p,k,f,_⟩:=m;exact⟨a,k,by show H a≠af;rw[f];simp⟩
     |ob _=>cases z
  ·rw[E1]at e
   split at e
   ·cases e
   ·cases e
 ow:=λi j x y v c E D J _ _=>by
  unfold dj at c;rw[List.getElem?_append]at c
  split at c
  ·rw[Ap]at c;cases q:ws[i]? with
   |none=>rw[q]at c;trivial
   |some y=>
    rw[q]at c;cases c;trivial
  ·rw[E1]at c
   split at c
   ·cases c
   ·cases c
 len:=by
  unfold L2.start dj;rw[An,An,Ad,Ad,List.length_replicate,List.length_replicate,r.len]
section
variable{P:A9}{w:Bj}{K:Af}{mg:Str->Option Ag}{base:Heap}
theorem Fun.okD(F:Fun K x qual st f fd)(Sc:FnScope N ps (cE st))(len:∀ws n Q,S ws n Q->ws.length=ps.length)
  (hbody:∀(m_:Ag)(A:Bn)(outer:List Env)(s:Aj)(H:Hp)(E:XK),Room k (A.deeper (Dr qual (cE st) s.heap.objs.size f m_))->
   ∃T W,DSs (cS cV P w K mg base N qual (cE st) f m_ A outer s H E).nox (fC st) T W/\∀ws n Q,S ws n Q->W (dj N ws) n {nx:=λ_ n=>Q (.d .none) n,rt:=Q}):FnOk P w K mg base cV (k+1) f fd ps (eV S):=by
 refine F.ok Sc (λvs H Q E h=>?_) (λm_ A outer s H G Q E C h=>?_)
 ·obtain⟨t,l,i,B,ws,n,c,_,_,_,r,q,_⟩:=h;rw[r.len];exact len ws n c q
 ·obtain⟨t,l,i,B,ws,n,c,T,g,p,r,q,e⟩:=h;obtain⟨u,W,d,y⟩:=hbody m_ A outer s H E C;refine⟨u,d.ps,d.sd _ H B _ _ n _ _ (sI T g p r) (y ws n c q) ⟨?_,?_,?_,?_,λ_ _ _ _ _ _ _ _ _ _ _ _ _ z=>z.elim,λ_ _ _ _ _ _ _ _ _ _ _ _ _ z=>z.elim⟩⟩
  ·exact λH' D σ δ j a b=>e _ _ b .non H' a.tp a.kp (.non)
  ·exact λH' D σ δ j v x a o b=>e _ _ b v H' a.tp a.kp (o.less a.b0)
  ·exact λ_ _ _ _ _ _ z=>z.elim
  ·exact λ_ _ _ _ _ _ z=>z.elim
end
section
variable{X:Cx}{a b c e:Expr}{ta tb tc te:TE}{wa wb wc we:DT}{pos p:Pos}
def gI(Cd:Int->Int->Prop)(f:Int->Int->Ab):Wv->Wv->Int->DQ->Prop:=λx y n Q=>match x,y with
 |.d (.int i),.d (.int j)=>Cd i j/\Q (.d (f i j)) n
 |_,_=>False
theorem Hk(h:∀i j H B,RdX H B (g i j) (f i j)):bq (rI Cd g) (gI Cd f):=λC H B σ δ n x y p q Q d R b c a k=>by
 unfold gI at a
 split at a
 ·rename_i i j;cases(show RdX H B x (.int i)from b);cases(show RdX H B y (.int j)from c);exact⟨i,j,rfl,rfl,a.1,k _ _ H n R (Kp.refl _ _) (wd (h i j H B)) a.2⟩
 ·exact a.elim
def bN(f:Int->Int->Ab):Wv->Wv->Int->DQ->Prop:=λx y n Q=>match x,y with
 |.d (.int i),.d (.int j)=>Q (.d (f i j)) n
 |_,_=>False
theorem Hj(h:∀i j H B,RdX H B (g i j) (f i j)):bq (fT g) (bN f):=λC H B σ δ n x y p q Q d R b c a k=>by
 unfold bN at a
 split at a
 ·rename_i i j;cases(show RdX H B x (.int i)from b);cases(show RdX H B y (.int j)from c);exact⟨i,j,rfl,rfl,k _ _ H n R (Kp.refl _ _) (wd (h i j H B)) a⟩
 ·exact a.elim
theorem NG(ha:DE X a ta wa)(hb:DE X b tb wb):DE X (.BinOp a .Sub b pos) (dQ (fT λi j=>.int (i-j)) ta tb) (w2 wa wb (bN λi j=>.int (i-j))):=gV OI (Hj λ_ _ _ _=>.int _) ha hb
theorem Kh(ha:DE X a ta wa)(hb:DE X b tb wb):DE X (.BinOp a .Pow b pos) (dQ (rI jM λi j=>.int (i ^ j.toNat)) ta tb) (w2 wa wb (gI jM λi j=>.int (i ^ j.toNat))):=gV DJ (Hk λ_ _ _ _=>.int _) ha hb
theorem Lj(ha:DE X a ta wa)(hb:DE X b tb wb):DE X (.BinOp a .Mod b pos) (dQ (rI (λ_ j=>0 < j) λi j=>.int (i % j)) ta tb) (w2 wa wb (gI (λ_ j=>0 < j) λi j=>.int (i % j))):=gV jS (Hk λ_ _ _ _=>.int _) ha hb
def dJ(w:DT):DT:=λδ n Q=>w δ n λx n1=>match x with
 |.d (.int i)=>Q (.d (.int (-i))) n1
 |_=>False
theorem QJ(ha:DE X a ta wa):DE X (.UnaryOp .USub a pos) (rR (rU λi=>.int (-i)) ta) (dJ wa):=⟨tN tH ha.pe,λC H B σ δ n Q j R q k=>ha.sd C H B σ δ n _ _ R q λv x c e d h f b=>by
 split at b
 ·rename_i i;cases(show RdX c B v (.int i)from f);exact⟨i,rfl,k _ _ c e d h (wd (.int _)) b⟩
 ·exact b.elim⟩
def kL:Wv->Wv->Int->DQ->Prop:=λx y n Q=>match x,y with
 |.d (.int i),.d (.int j)=>Q (.d (.int (i+j))) n
 |.d (.str i),.d (.str j)=>i.length+j.length<=As/\Q (.d (.str (i++j))) n
 |.d (.tuple i),.d (.tuple j)=>(i≠[]\/j≠[])/\i.length+j.length<=As/\Q (.d (.tuple (i++j))) n
 |.d (.list i),.d (.list j)=>i.length+j.length<=As/\Q (.d (.list (i++j))) n
 |_,_=>False
def sC(K:Af):R2:=λx y H Q=>(fT λi j=>.int (i+j)) x y H Q\/(∃i j,x=.str i/\y=.str j/\i.length+j.length<=As/\Q (.str (i++j)) H)\/Hv K x y H Q\/CC K x y H Q\/iG x y H Q
theorem op_addA:OpR X (Fb .Add) (sC X.K):=
 op_add.or (op_add_str.or (op_catA.or (op_catT.or v7)))
theorem Kl(i j:Str):(i++j).length=i.length+j.length:=Array.size_append
theorem LJ:bq (sC K) kL:=λC H B σ δ n x y p q Q N R u v f k=>by
 unfold kL at f
 split at f
 ·rename_i i j;cases(show RdX H B x (.int i)from u);cases(show RdX H B y (.int j)from v);exact .inl ⟨i,j,rfl,rfl,k _ _ H n R (Kp.refl _ _) (wd (.int _)) f⟩
 ·rename_i i j;cases(show RdX H B x (.str i)from u);cases(show RdX H B y (.str j)from v);exact .inr (.inl ⟨i,j,rfl,rfl,f.1,k _ _ H n R (Kp.refl _ _) (wd (show RdX H B _ (.str _)from .str _ (by rw[Kl];simp_all))) f.2⟩)
 ·rename_i i j;cases(show RdX H B x (.tuple i)from u)with
  |@tup s h _ r I G e=>
   cases(show RdX H B y (.tuple j)from v)with
   |@tup t l _ o E F g=>
    obtain⟨O,L,q⟩:=f;have c:h.length+l.length<=As:=by rw[e.len,g.len];omega
    have m:∀J,H J=af->N _ (upd H J _):=λpn d=>k _ _ _ n (R.new d) (Kp.new d) (wd (show RdX _ B _ (.tuple _)from .tup br (R.nb d) (by simp<;>omega) (((e.append g).fresh d).less λb=>.inl))) q;by_cases A:l=[]
    ·have M:h≠[]:=λz=>by
      subst A z;cases e;cases g;trivial
     refine .inr (.inr (.inr (.inl ⟨s,t,h,l,rfl,rfl,SqT.of r,SqT.of o,M,c,λ_=>?_,λ_=>m⟩)));subst A;cases g;rw[Bk]at q;exact k _ _ H n R (Kp.refl _ _) ⋯ q
    ·refine .inr (.inr (.inl ⟨s,t,h,l,rfl,rfl,SqT.of r,SqT.of o,A,c,λz=>?_,λ_=>m⟩));subst z;cases e;exact k _ _ H n R (Kp.refl _ _) (by assumption) q
 ·rename_i i j;cases(show RdX H B x (.list i)from u)with
  |@lst s h _ r I G e=>
   cases(show RdX H B y (.list j)from v)with
   |@lst t l _ o E F g=>
    obtain⟨L,q⟩:=f;have c:h.length+l.length<=As:=by rw[e.len,g.len];omega
    refine .inr (.inr (.inr (.inr ⟨s,t,h,l,rfl,rfl,r,o,c,λpn d=>k _ _ _ n (R.new d) (Kp.new d) (wd (show RdX _ B _ (.list _)from .lst br (R.nb d) (by simp<;>omega) ?_)) q⟩)));exact((e.append g).fresh d).less λb=>.inl
 ·exact f.elim
def ee(f:Int->Int->Bool)(h:List Nat->List Nat->Bool):Wv->Wv->Int->DQ->Prop:=λx y n Q=>match x,y with
 |.d (.int i),.d (.int j)=>Q (.d (.bool (f i j))) n
 |.d (.str i),.d (.str j)=>Q (.d (.bool (h i.cps.toList j.cps.toList))) n
 |_,_=>False
theorem ur:bq (λx y H Q=>(fT λi j=>.bl (f i j)) x y H Q\/∃i j,x=.str i/\y=.str j/\Q (.bl (h i.cps.toList j.cps.toList)) H) (ee f h):=λC H B σ δ n x y p q Q e R c d b k=>by
 unfold ee at b
 split at b
 ·rename_i i j;cases(show RdX H B x (.int i)from c);cases(show RdX H B y (.int j)from d);exact .inl ⟨i,j,rfl,rfl,k _ _ H n R (Kp.refl _ _) (wd (.bl _)) b⟩
 ·rename_i i j;cases(show RdX H B x (.str i)from c);cases(show RdX H B y (.str j)from d);exact .inr ⟨i,j,rfl,rfl,k _ _ H n R (Kp.refl _ _) (wd (.bl _)) b⟩
 ·exact b.elim
abbrev fm:=ee (λi j=>decide (i < j)) (λi j=>decide (i < j))
abbrev dH:=ee (λi j=>decide (i<=j)) (λi j=>!decide (j < i))
abbrev hX:=ee (λi j=>decide (j < i)) (λi j=>decide (j < i))
def n6:R2:=λx y H Q=>(fT λi j=>.bl (decide (i < j))) x y H Q\/∃i j,x=.str i/\y=.str j/\Q (.bl (decide (i.cps.toList < j.cps.toList))) H
theorem EG:OpR X (Bm .Lt) n6:=op_lt.or Mj
def oZ:R2:=λx y H Q=>(fT λi j=>.bl (decide (i<=j))) x y H Q\/∃i j,x=.str i/\y=.str j/\Q (.bl (!decide (j.cps.toList < i.cps.toList))) H
theorem pS:OpR X (Bm .LtE) oZ:=op_le.or SO
def ou:R2:=λx y H Q=>(fT λi j=>.bl (decide (j < i))) x y H Q\/∃i j,x=.str i/\y=.str j/\Q (.bl (decide (j.cps.toList < i.cps.toList))) H
theorem Hz:OpR X (Bm .Gt) ou:=op_gt.or U4
theorem He:bq n6 fm:=ur
theorem rM:bq oZ dH:=ur
theorem CH:bq ou hX:=ur
def fH:Ab->Ab->Option Bool
 |.none,.none=>ae ah
 |.none,.int _=>ae ai
 |.int _,.none=>ae ai
 |.none,.bool _=>ae ai
 |.bool _,.none=>ae ai
 |.none,.str _=>ae ai
 |.str _,.none=>ae ai
 |.int i,.int j=>ae (decide (i=j))
 |.bool i,.bool j=>ae (decide (i=j))
 |.str i,.str j=>ae (decide (i=j))
 |.int _,.str _=>ae ai
 |.str _,.int _=>ae ai
 |.bool _,.str _=>ae ai
 |.str _,.bool _=>ae ai
 |.list _,.str _=>ae ai
 |.tuple _,.str _=>ae ai
 |.dict _,.str _=>ae ai
 |.list xs,.list []=>ae xs.isEmpty
 |_,_=>af
def rK:R2:=λx y H Q=>∃d h B,RdX H B x d/\y=.str h/\Q (.bl (c4 h d)) H
theorem vX(x y):decide (V.str x=V.str y)=decide (x=y):=by
 by_cases z:x=y
 ·rw[z,b_ rfl,b_ rfl]
 ·rw[c_ z,c_ λw=>z (V.str.inj w)]
theorem Hd(x y):decide (V.int x=V.int y)=decide (x=y):=by
 by_cases z:x=y
 ·rw[z,b_ rfl,b_ rfl]
 ·rw[c_ z,c_ λw=>z (V.int.inj w)]
theorem zM(x y):decide (V.bl x=V.bl y)=decide (x=y):=by
 by_cases z:x=y
 ·rw[z,b_ rfl,b_ rfl]
 ·rw[c_ z,c_ λw=>z (V.bl.inj w)]
theorem Ol(hu:X.A.units < Co):OpR X (Bm .Eq) rK:=by
 intro c s σ H x y v u Q I e f h;obtain⟨d,g,B,z,rfl,q⟩:=h;cases z with
 |non=>exact op_eq c s σ H _ _ v u Q I e f ⟨rfl,q⟩
 |bl b=>exact op_eq c s σ H _ _ v u Q I e f ⟨rfl,q⟩
 |int i=>exact op_eq c s σ H _ _ v u Q I e f ⟨rfl,q⟩
 |str x J=>
  refine op_eq c s σ H _ _ v u Q I e f ⟨rfl,?_⟩;rw[vX];exact q
 |@lst a C r j l m n=>
  cases(show v=Cg a from e);obtain⟨t,rfl⟩:=(show ∃t,u=Value.str g t from f);obtain⟨k,_,p,_⟩:=I.list (SqL.of j);exact PySem.SeqAt.RcAt.list_str g t p.isList hu _ _ _ _ ⟨.bl ai,H,I,rfl,q⟩
 |@tup a C r j l m n=>
  cases(show v=Cg a from e);obtain⟨t,rfl⟩:=(show ∃t,u=Value.str g t from f);obtain⟨k,_,p,_⟩:=I.tuple (SqT.of j);exact PySem.SeqAt.RcAt.tuple_str g t (p) hu _ _ _ _ ⟨.bl ai,H,I,rfl,q⟩
def bj:Wv->Wv->Int->DQ->Prop:=λx y n Q=>match x,y with
 |.d a,.d b=>match fH a b with
  |some r=>Q (.d (.bool r)) n
  |none=>False
 |_,_=>False
theorem WA(hu:X.A.units < Co):OpR X (Bm .Eq) (λx y H Q=>rk x y H Q\/rK x y H Q\/qQ X.K x y H Q):=op_eq.or ((Ol hu).or (Iu hu))
theorem O2:bq (λx y H Q=>rk x y H Q\/rK x y H Q\/qQ K x y H Q) bj:=λC H B σ δ n x y p q Q U R E e b k=>by
 unfold bj at b
 split at b
 ·rename_i X T;have v:=λr=>k _ _ H n R (Kp.refl _ _) (wd (.bl r))
  split at b
  ·rename_i r a;have b:=v r b;cases E with
   |non=>cases e<;>first|(cases a;done)|(cases a;exact .inl ⟨rfl,b⟩)
   |bl i=>cases e<;>first|(cases a;done)|(cases a;exact .inl ⟨rfl,by first|exact b|(rw[zM];omega)⟩)
   |int i=>cases e<;>first|(cases a;done)|(cases a;exact .inl ⟨rfl,by first|exact b|(rw[Hd];omega)⟩)
   |str i M=>cases e<;>first|(cases a;done)|(cases a;exact .inl ⟨rfl,by first|exact b|(rw[vX];omega)⟩)
   |@lst w t z m u s l=>
    cases e with
    |str j D=>cases a;exact .inr (.inl ⟨_,j,B,.lst m u s l,rfl,b⟩)
    |@lst A V P G N O L=>
     cases L with
     |nil=>
      cases a;refine .inr (.inr ⟨w,A,t,rfl,rfl,SqL.of m,SqL.of G,?_⟩);have:t.isEmpty=z.isEmpty:=by cases l<;>rfl
      simp_all
     |cons _ _=>cases a
    |_=>cases a
   |@tup w t z m u s l=>
    cases e with
    |str j D=>cases a;exact .inr (.inl ⟨_,j,B,.tup m u s l,rfl,b⟩)
    |_=>cases a
  ·exact b.elim
 ·exact b.elim
def Oh(a b:Ab):Option Bool:=match a,b with
 |.list _,_=>af
 |.tuple _,_=>af
 |a,b=>(fH a b).map not
def di:Wv->Wv->Int->DQ->Prop:=λx y n Q=>match x,y with
 |.d a,.d b=>match Oh a b with
  |some r=>Q (.d (.bool r)) n
  |none=>False
 |_,_=>False
theorem UY:bq yN di:=λC H B σ δ n x y p q Q z R m g b k=>by
 unfold di at b
 split at b
 ·rename_i A w;have h:=λr=>k _ _ H n R (Kp.refl _ _) (wd (.bl r))
  split at b
  ·rename_i r c;have b:=h r b;cases m with
   |non=>cases g<;>first|(cases c;done)|(cases c;trivial)
   |bl i=>cases g<;>first|(cases c;done)|(cases c;exact⟨rfl,by first|exact b|(rw[zM];omega)⟩)
   |int i=>cases g<;>first|(cases c;done)|(cases c;exact⟨rfl,by first|exact b|(rw[Hd];omega)⟩)
   |str i u=>cases g<;>first|(cases c;done)|(cases c;exact⟨rfl,by first|exact b|(rw[vX];omega)⟩)
   |lst _ _ _ _=>cases c
   |tup _ _ _ _=>cases c
  ·exact b.elim
 ·exact b.elim
def fU:Ab->Bool
 |.none=>ah
 |_=>ai
def bJ(neg:Bool):Wv->Wv->Int->DQ->Prop:=λx y n Q=>match x,y with
 |.d a,.d .none=>Q (.d (.bool (if neg then !fU a else fU a))) n
 |_,_=>False
theorem AZ(h:RdX H B v d):decide (v=.non)=fU d:=by cases h<;>rfl
theorem uT:bq (λx y H Q=>y=.non/\Q (.bl (decide (x=.non))) H) (bJ ai):=λC H B σ δ n x y p q Q d R c b a k=>by
 unfold bJ at a
 split at a
 ·rename_i e;cases(b);exact⟨rfl,k _ _ H n R (Kp.refl _ _) (wd ((AZ c)▸.bl _)) a⟩
 ·exact a.elim
theorem HZ:bq (λx y H Q=>y=.non/\Q (.bl (!decide (x=.non))) H) (bJ ah):=λC H B σ δ n x y p q Q d R c b a k=>by
 unfold bJ at a
 split at a
 ·rename_i e;cases(b);exact⟨rfl,k _ _ H n R (Kp.refl _ _) (wd ((AZ c)▸.bl _)) a⟩
 ·exact a.elim
def fo:Ab->Bool
 |.none=>ah
 |.bool _=>ah
 |.int _=>ah
 |.str _=>ah
 |_=>ai
def qH:Ab->Ab->Bool
 |.none,.none=>ah
 |.bool a,.bool b=>a==b
 |.bool a,.int b=>(if a then 1 else 0)==b
 |.int a,.bool b=>a==(if b then 1 else 0)
 |.int a,.int b=>a==b
 |.str a,.str b=>a==b
 |_,_=>ai
def cW(x:Ab)(ds:List Ab):Bool:=ds.any λy=>qH y x
theorem kl(h:RdX H B v d)(f:fo d=ah):iq v=ah:=by cases h<;>first|rfl|cases f
theorem j2:∀{vs:List V}{ds:List Ab},RdXs H B vs ds->ds.all fo=ah->vs.all iq=ah
 |_,_,.nil,_=>rfl
 |_,_,.cons h r,f=>by
  rw[Cr,Av]at f ⊢;exact⟨kl h f.1,j2 r f.2⟩
theorem QW{d e:Ab}(h:RdX H B v d)(h2:RdX H B u e):iI v u=qH d e:=by cases h<;>cases h2<;>rfl
theorem lC(h:RdX H B v d):∀{vs:List V}{ds:List Ab},RdXs H B vs ds->qA v vs=cW d ds
 |_,_,.nil=>rfl
 |_,_,.cons a r=>by
  have:=lC h r;unfold qA cW at this ⊢;rw[C5,C5,this,QW a h]
def hZ(neg:Bool):Wv->Wv->Int->DQ->Prop:=λx y n Q=>match x,y with
 |.d a,.d (.tuple ds)=>fo a=ah/\ds.all fo=ah/\Q (.d (.bool (if neg then !cW a ds else cW a ds))) n
 |.d a,.d (.list ds)=>fo a=ah/\ds.all fo=ah/\Q (.d (.bool (if neg then !cW a ds else cW a ds))) n
 |_,_=>False
theorem k9:bq (ib K neg) (hZ neg):=λC H B σ δ n x y p q Q u R a l c k=>by
 unfold hZ at c
 split at c
 ·rename_i t e;obtain⟨g,f,q⟩:=c;have a:=a;cases(show RdX H B y (.tuple e)from l)with
  |@tup d i _ j r o b=>
   refine⟨d,i,rfl,.inr (SqT.of j),kl a g,j2 b f,?_⟩;rw[lC a b];exact k _ _ H n R (Kp.refl _ _) (wd (.bl _)) q
 ·rename_i t e;obtain⟨g,f,q⟩:=c;have a:=a;cases(show RdX H B y (.list e)from l)with
  |@lst d i _ j r o b=>
   refine⟨d,i,rfl,.inl (SqL.of j),kl a g,j2 b f,?_⟩;rw[lC a b];exact k _ _ H n R (Kp.refl _ _) (wd (.bl _)) q
 ·exact c.elim
def aw:Wv->Wv->Int->DQ->Prop:=λx y n Q=>match x,y with
 |.d (.list ds),.d (.int i)=>match c8 ds i with
  |some d=>Q (.d d) n
  |none=>False
 |.d (.tuple ds),.d (.int i)=>match c8 ds i with
  |some d=>Q (.d d) n
  |none=>False
 |.d (.str z),.d (.int i)=>match c8 z.cps.toList i with
  |some c=>Q (.d (.str ⟨#[c]⟩)) n
  |none=>False
 |_,_=>False
theorem uf(r:RdXs H B vs ds)(h:c8 ds i=ae d):∃v,c8 vs i=ae v/\RdX H B v d:=by
 unfold c8 at h ⊢;rw[r.len];cases e:iU ds.length i with
 |none=>rw[e]at h;cases h
 |some j=>
  rw[e]at h;exact r.getD h
theorem mf:bq (ly K) aw:=λC H B σ δ n x y p q Q F R l m b k=>by
 unfold aw at b
 split at b
 ·rename_i g i
  split at b
  ·rename_i d e;cases(show RdX H B y (.int i)from m);cases(show RdX H B x (.list g)from l)with
   |@lst f r _ s D w j=>
    obtain⟨v,o,h⟩:=uf j e;exact .inl ⟨f,r,i,v,rfl,rfl,SqL.of s,o,k _ _ H n R (Kp.refl _ _) (wd h) b⟩
  ·exact b.elim
 ·rename_i g i
  split at b
  ·rename_i d e;cases(show RdX H B y (.int i)from m);cases(show RdX H B x (.tuple g)from l)with
   |@tup f r _ s D w j=>
    obtain⟨v,o,h⟩:=uf j e;exact .inr (.inl ⟨f,r,i,v,rfl,rfl,SqT.of s,o,k _ _ H n R (Kp.refl _ _) (wd h) b⟩)
  ·exact b.elim
 ·rename_i z i
  split at b
  ·rename_i c e;cases(show RdX H B y (.int i)from m);cases(show RdX H B x (.str z)from l)with
   |str _ A=>exact .inr (.inr ⟨z,i,c,rfl,rfl,A,e,k _ _ H n R (Kp.refl _ _) (wd (show RdX H B _ (.str _)from .str _ (by show 1<=As;decide))) b⟩)
  ·exact b.elim
 ·exact b.elim
theorem tF(ha:DE X a ta wa)(hb:DE X b tb wb)(hs:rT b:=by exact λ_ _=>rfl):DE X (.Subscript a b pos) (dQ (ly X.K) ta tb) (w2 wa wb aw):=⟨ie sR ha.pe hb.pe hs,pG mf ha.sd hb.sd⟩
def aI:List Wv->Int->DQ->Prop:=λxs n Q=>match xs with
 |[.d (.str x)]=>Q (.d (.int x.length)) n
 |[.d (.list ds)]=>Q (.d (.int ds.length)) n
 |[.d (.tuple ds)]=>Q (.d (.int ds.length)) n
 |_=>False
theorem JQ:CallR X (.builtin "len") (λxs H Q=>(∃z,xs=[.str z]/\z.length<=As/\Q (.int z.length) H)\/∃p ys,xs=[.ref p]/\(SqL X.K H p ys\/SqT X.K H p ys)/\Q (.int ys.length) H):=call_len_str.or qB
theorem Nl:dv (λxs H Q=>(∃z,xs=[.str z]/\z.length<=As/\Q (.int z.length) H)\/∃p ys,xs=[.ref p]/\(SqL K H p ys\/SqT K H p ys)/\Q (.int ys.length) H) aI:=λC H B σ δ n q xs Q s R r h k=>by
 unfold aI at h
 split at h
 ·rename_i x;cases r with
  |cons a b=>
   cases b;cases(show RdX H B _ (.str x)from a)with
   |str _ l=>exact .inl ⟨x,rfl,l,k _ _ H n R (Kp.refl _ _) (wd (.int _)) h⟩
 ·rename_i e;cases r with
  |cons a b=>
   cases b;cases(show RdX H B _ (.list e)from a)with
   |@lst d ys _ g m j f=>
    refine .inr ⟨d,ys,rfl,.inl (SqL.of g),?_⟩;rw[f.len];exact k _ _ H n R (Kp.refl _ _) (wd (.int _)) h
 ·rename_i e;cases r with
  |cons a b=>
   cases b;cases(show RdX H B _ (.tuple e)from a)with
   |@tup d ys _ g m j f=>
    refine .inr ⟨d,ys,rfl,.inr (SqT.of g),?_⟩;rw[f.len];exact k _ _ H n R (Kp.refl _ _) (wd (.int _)) h
 ·exact h.elim
theorem O0(h:RdX H B v d):TyOf K H v (.type (sr d)):=by
 cases h with
 |non=>exact .non
 |bl b=>exact .bl b
 |int i=>exact .int i
 |str x h=>exact .str x
 |lst a c j k=>exact .lst a
 |tup a c j k=>exact .tup a
theorem Ia(h:RdX H B v d)(hT:T="int"\/T="bool"\/T="str"\/T="tuple"\/T="list"):PySem.W.kitOne K (.type (sr d)) (.type T)=ae (bV T d):=by
 cases h<;>rcases hT with rfl|rfl|rfl|rfl|rfl<;>rfl
def aO(T:String)(w:DT):DT:=λδ n Q=>w δ n λx n1=>match x with
 |.d d=>Q (.d (.bool (bV T d))) n1
 |_=>False
theorem So{p p2:Pos}(hT:T="int"\/T="bool"\/T="str"\/T="tuple"\/T="list")(hg:Gl X "isinstance")(hm:X.mg "isinstance"=af)(hg2:Gl X x)(hm2:X.mg x=af)(hv:Br x=ae (.type T))(ha:DE X a ta wa)(hn:x≠"__name__":=by decide)(hdb:(x==("__debug__":Str))=ai:=by decide)
  (he:Au [a,.Name x p2] X.env=(ai,eval a X.env)::Au [.Name x p2] X.env:=by rfl) (he2:Au [.Name x p2] X.env=(ai,eval (.Name x p2) X.env)::Au [] X.env:=by rfl) (p_:(C6 pos (Au [.Name x p2] X.env)).any (·.1)=ai:=by rfl):
  DE X (.Call (.Name "isinstance" p) [a,.Name x p2] [] pos) (fM (λxs H Q=>∃x t b,xs=[x,.ty T]/\TyOf X.K H x t/\PySem.W.kitOne X.K t (.type T)=ae b/\Q (.bl b) H) (cU ta (cU (tC (.ty T)) bP))) (aO T wa):=
 ⟨j7 (U3) hg hm GS (cj ha.pe (cj (Qo hg2 hm2 hv rfl hn hdb) dG he2) he) ∎ ∎ he p_,λC H B σ δ n Q l R q k=>ha.sd C H B σ δ n _ _ R q λv x g h f i e c=>by
  cases x with
  |d d=>exact⟨v,_,_,rfl,O0 e,Ia (e) hT,k _ _ g h f i (wd (.bl _)) c⟩
  |tp=>exact c.elim
  |dk _=>exact c.elim
  |dx _=>exact c.elim
  |ln _=>exact c.elim
  |ob _=>exact c.elim⟩
def WU:List Wv->Int->DQ->Prop:=λxs n Q=>match xs with
 |[.d (.list ds)]=>Hq (.list ds)/\Q (.d (.str (PyData.shown (.list ds)))) n
 |[.d (.tuple ds)]=>Hq (.tuple ds)/\Q (.d (.str (PyData.shown (.tuple ds)))) n
 |_=>False
def e9:List Ab->Option (List Bool)
 |[]=>ae []
 |.bool b::r=>(e9 r).map (b::·)
 |_::_=>af
theorem xA:∀{vs:List V}{ds:List Ab}{bs:List Bool},RdXs H B vs ds->e9 ds=ae bs->vs=bs.map V.bl
 |_,_,bs,.nil,h=>by
  cases h;rfl
 |_,_,bs,.cons (ds:=ds) c h2,h=>by
  cases c with
  |bl b=>
   have a:(e9 ds).map _=ae bs:=h;cases e:e9 ds with
   |none=>rw[e]at a;trivial
   |some d=>
    rw[e]at a;cases a;rw[xA h2 e];rfl
  |_=>cases h
def bL:List Wv->Int->DQ->Prop:=λxs n Q=>match xs with
 |[.d (.list ds)]=>match e9 ds with
  |some bs=>Q (.d (.bool (bs.all id))) n
  |none=>False
 |_=>False
theorem Jk:dv (λxs H Q=>∃(p:A_)(bs:List Bool),xs=[.ref p]/\H p=ae (.lst (bs.map V.bl))/\Q (.bl (bs.all id)) H) bL:=λC H B σ δ n l xs Q m R r h k=>by
 unfold bL at h
 split at h
 ·rename_i b
  split at h
  ·rename_i bs e;cases r with
   |cons d f=>
    cases f;cases(show RdX H B _ (.list b)from d)with
    |@lst a q _ i o j c=>
     exact⟨a,bs,rfl,(xA c e)▸i,k _ _ H n R (Kp.refl _ _) (wd (.bl _)) h⟩
  ·exact h.elim
 ·exact h.elim
def eT:List Wv->Int->DQ->Prop:=λxs n Q=>match xs with
 |[.d (.list ds)]=>Q (.d (.tuple ds)) n
 |[.d (.tuple ds)]=>Q (.d (.tuple ds)) n
 |_=>False
theorem JK:dv (λxs H Q=>∃p ys,xs=[.ref p]/\((SqL K H p ys/\∀l,H l=af->Q (.ref l) (upd H l (.tup ys)))\/(SqT K H p ys/\Q (.ref p) H))) eT:=λC H B σ δ n s xs Q t R r h k=>by
 unfold eT at h
 split at h
 ·rename_i c;cases r with
  |cons j m=>
   cases m;cases(show RdX H B _ (.list c)from j)with
   |@lst f ys _ e o g i=>
    exact⟨f,ys,rfl,.inl ⟨SqL.of e,λl d=>k _ _ _ n (R.new d) (Kp.new d) (wd (show RdX _ B _ (.tuple c)from .tup br (R.nb d) g ((i.fresh d).less λb=>.inl))) h⟩⟩
 ·rename_i c;cases r with
  |cons j m=>
   cases m;cases(show RdX H B _ (.tuple c)from j)with
   |@tup f ys _ e o g i=>exact⟨f,ys,rfl,.inr ⟨SqT.of e,k _ _ H n R (Kp.refl _ _) ⋯ h⟩⟩
 ·exact h.elim
def lN:List Wv->Int->DQ->Prop:=λxs n Q=>match xs with
 |[.d (.list ds)]=>Q (.d (.list ds)) n
 |[.d (.tuple ds)]=>Q (.d (.list ds)) n
 |_=>False
theorem Q8:dv (λxs H Q=>∃p ys,xs=[.ref p]/\(SqL K H p ys\/SqT K H p ys)/\∀l,H l=af->Q (.ref l) (upd H l (.lst ys))) lN:=λC H B σ δ n s xs Q t R r h k=>by
 unfold lN at h
 split at h
 ·rename_i d;cases r with
  |cons i j=>
   cases j;cases(show RdX H B _ (.list d)from i)with
   |@lst e ys _ m o f g=>
    exact⟨e,ys,rfl,.inl (SqL.of m),λl a=>k _ _ _ n (R.new a) (Kp.new a) (wd (show RdX _ B _ (.list d)from .lst br (R.nb a) f ((g.fresh a).less λb=>.inl))) h⟩
 ·rename_i d;cases r with
  |cons i j=>
   cases j;cases(show RdX H B _ (.tuple d)from i)with
   |@tup e ys _ m o f g=>
    exact⟨e,ys,rfl,.inr (SqT.of m),λl a=>k _ _ _ n (R.new a) (Kp.new a) (wd (show RdX _ B _ (.list d)from .lst br (R.nb a) f ((g.fresh a).less λb=>.inl))) h⟩
 ·exact h.elim
end
structure ItOk(fz:Hp)(J:It)(ds:List Ab):Prop where
 le:ds.length<=As
 go:∀i H,(∀b o,fz b=ae o->H b=ae o)->i < ds.length->J.go i H
 stop:∀H,(∀b o,fz b=ae o->H b=ae o)->J.stop ds.length H
 yld:∀i H x H' d,(∀b o,fz b=ae o->H b=ae o)->ds[i]?=ae d->J.yld i H x H'->iz H H'/\∀B,(∀b o,fz b=ae o->¬B b)->(∀b,B b->H b≠af)->RdX H' B x d
def m5(H:Hp)(B:A_->Prop)(fz:Hp):Prop:=(∀b o,fz b=ae o->H b=ae o/\¬B b)/\∀b o,H b=ae o->¬B b->fz b=ae o
abbrev fS:=Sl->Int->(List Ab->Int->Prop)->Prop
def wJ(wi:TI)(v:fS):Prop:=∀(C:Ctx)(H:Hp)(B:A_->Prop)(σ:St)(δ:Sl)(n:Int)(Q:List Ab->Int->Prop)(Q':It->Hp->Prop),Rel C H B σ δ n->v δ n Q->
 (∀J ds H' n',Rel C H' B σ δ n'->Kp C.t H H'->(∀fz,m5 H' B fz->ItOk fz J ds)->Q ds n'->Q' J H')->wi σ H Q'
structure DI(X:Cx)(tg iter:Expr)(wi:TI)(v:fS):Prop where
 pi:PI X tg iter wi
 sd:wJ wi v
section
variable{X:Cx}{tg a b c e:Expr}{ta tb te:TE}{wa wb we:DT}{pos p:Pos}
def eu(w:DT):fS:=λδ n Q=>w δ n λx n1=>match x with
 |.d (.list ds)=>Q ds n1
 |_=>False
def cn(w:DT):fS:=λδ n Q=>w δ n λx n1=>match x with
 |.d (.tuple ds)=>Q ds n1
 |_=>False
def jo(x:Str):List Ab:=x.cps.toList.map λc=>.str ⟨#[c]⟩
def qO(w:DT):fS:=λδ n Q=>w δ n λx n1=>match x with
 |.d (.str x)=>Q (jo x) n1
 |_=>False
theorem U9(ha:DE X a ta wa):DI X tg a (u9 X.K ta) (eu wa):=⟨Te ha.pe,λC H B σ δ n Q U R q k=>ha.sd C H B σ δ n _ _ R q λv x t I G S M h=>by
 split at h
 ·rename_i p;cases(show RdX t B v (.list p)from M)with
  |@lst y m _ w J D g=>
   refine⟨y,rfl,⟨m,SqL.of w⟩,k _ p t I G S (λfz j=>?_) h⟩;have c:=j.2 _ _ w J;refine⟨g.len▸D,λi H f r=>?_,λH f=>?_,λi H x T d f F l=>?_⟩
   ·rw[<-g.len]at r;exact⟨m,_,SqL.of (f _ _ c),Ai r⟩
   ·exact⟨m,SqL.of (f _ _ c),by rw[g.len];simp⟩
   ·obtain⟨rfl,l⟩:=l;refine⟨λ_ _ z=>z,λB' E L=>?_⟩;obtain⟨u,P,O⟩:=g.getD F;have:=l _ (SqL.of (f _ _ c));rw[P]at this;cases this;exact O.move λb o e s=>⟨f _ _ (j.2 _ _ e s),E _ _ (j.2 _ _ e s)⟩
 ·exact h.elim⟩
theorem OG(ha:DE X a ta wa):DI X tg a (kx X.K ta) (cn wa):=⟨N9 ha.pe,λC H B σ δ n Q U R q k=>ha.sd C H B σ δ n _ _ R q λv x t G F S L h=>by
 split at h
 ·rename_i p;cases(show RdX t B v (.tuple p)from L)with
  |@tup y m _ w I A g=>
   refine⟨y,rfl,⟨m,SqT.of w⟩,k _ p t G F S (λfz j=>?_) h⟩;have c:=j.2 _ _ w I;refine⟨g.len▸A,λi H f r=>?_,λH f=>?_,λi H x T d f E l=>?_⟩
   ·rw[<-g.len]at r;exact⟨m,_,SqT.of (f _ _ c),Ai r⟩
   ·exact⟨m,SqT.of (f _ _ c),by rw[g.len];simp⟩
   ·obtain⟨rfl,l⟩:=l;refine⟨λ_ _ z=>z,λB' D J=>?_⟩;obtain⟨u,O,N⟩:=g.getD E;have:=l _ (SqT.of (f _ _ c));rw[O]at this;cases this;exact N.move λb o e s=>⟨f _ _ (j.2 _ _ e s),D _ _ (j.2 _ _ e s)⟩
 ·exact h.elim⟩
theorem Se(ha:DE X a ta wa):DI X tg a (oK ta) (qO wa):=⟨Sy ha.pe,λC H B σ δ n Q E R q k=>ha.sd C H B σ δ n _ _ R q λv x g o m w r e=>by
 split at e
 ·rename_i x;cases(show RdX g B v (.str x)from r)with
  |str _ F=>
   have c:(jo x).length=x.cps.size:=by unfold jo;simp
   refine⟨x,rfl,k _ _ g o m w (λfz I=>⟨?_,λi H h l=>?_,λH h=>?_,λi H y D d h f s=>?_⟩) e⟩
   ·rw[c];trivial
   ·rw[c]at l;trivial
   ·exact c
   ·obtain⟨rfl,G,u,rfl⟩:=s;refine⟨λ_ _ z=>z,λB' A p=>?_⟩;unfold jo at f;rw[Ap,Eg,u]at f;cases f;exact .str _ (by show 1<=As;decide)
 ·exact e.elim⟩
def cw(lo:Int)(n:Nat):List Ab:=(Bc n).map λi=>.int (lo+(i:Nat))
def eR(w:DT):fS:=λδ n Q=>w δ n λx n1=>match x with
 |.d (.int j)=>(-(2 ^ 62)<=j/\j<=1000000)/\Q (cw 0 j.toNat) n1
 |_=>False
theorem Lu(fz)(lo)(n)(hn:n<=1000000):ItOk fz (r4 lo n) (cw lo n):=by
 have b:(cw lo n).length=n:=by unfold cw;simp
 refine⟨?_,λi H c f=>?_,λH c=>?_,λi H y o d c a h=>?_⟩
 ·rw[b];exact A5 hn ∎
 ·rw[b]at f;trivial
 ·show n<=(cw lo n).length;simp_all
 ·obtain⟨rfl,rfl⟩:=h;refine⟨λ_ _ z=>z,λB' l g=>?_⟩;unfold cw at a;rw[Ap]at a;cases e:(Bc n)[i]? with
  |none=>rw[e]at a;trivial
  |some j=>
   rw[e]at a;have:j=i:=by
    obtain⟨m,k⟩:=Aw.mp e;simp_all
   subst this;cases a;exact .int _
theorem VS(hg:Gl X "range")(hm:X.mg "range"=af)(ha:DE X a ta wa)(hs:Au [a] X.env=[(ai,eval a X.env)]:=by rfl):DI X tg (.Call (.Name "range" p) [a] [] pos) (FY (cU ta bP)) (eR wa):=⟨PZ hg hm (cj ha.pe dG hs) hs,λC H B σ δ n Q i R q k=>ha.sd C H B σ δ n _ _ R q λv x c d g h f b=>by
 split at b
 ·rename_i j;cases(show RdX c B v (.int j)from f);refine⟨j,rfl,b.1.1,by omega,k _ _ c d g h (λfz _=>Lu fz 0 j.toNat ⋯) b.2⟩
 ·exact b.elim⟩
end
abbrev dE:=Ab->Sl->(Sl->Prop)->Prop
def sS(g:TG)(v:dE):Prop:=∀(C:Ctx)(H:Hp)(B:A_->Prop)(σ:St)(δ:Sl)(n:Int)(x:V)(d:Ab)(Q:Sl->Prop)(Q':St->Hp->Prop),Rel C H B σ δ n->RdX H B x d->v d δ Q->
 (∀σ' δ',Rel C H B σ' δ' n->Q δ'->Q' σ' H)->g x σ H Q'
structure DG(X:Cx)(tg:Expr)(g:TG)(v:dE):Prop where
 pg:PG X tg g
 sd:sS g v
section
variable{X:Cx}{pos:Pos}
def aG(i:Nat):dE:=λd δ Q=>Q (δ.set i (↑d))
theorem Tn(hN:X.N.Nodup)(hi:X.N[i]?=ae x)(hx:gB X.env.scope x)(hf:X.fn x=ah\/X.env.scope.names.lookup x=ae .local:=by first|exact .inl rfl|exact .inr rfl|assumption):DG X (.Name x pos) (fc i) (aG i):=
 ⟨MP hN hi hx hf,λC H B σ δ n x d Q a R r q k=>k _ _ (R.set (x:=.d d) r rfl) q⟩
end
def ec(g:dE)(W:aE)(K:DEnds):List Ab->Sl->Int->Prop
 |[],δ,n=>K.nx δ n
 |d::r,δ,n=>g d δ λδ'=>W δ' n {K with nx:=ec g W K r,ct:=ec g W K r,bk:=K.nx}
def aZ(v:fS)(g:dE)(W:aE):aE:=λδ n K=>v δ n λds n1=>ec g W K ds δ n1
def gm(H:Hp)(B:A_->Prop):Hp:=λb=>open Classical in if B b then af else H b
theorem nA(H)(B):m5 H B (gm H B):=by
 refine⟨λb o e=>?_,λb o e n=>?_⟩
 ·unfold gm at e
  split at e
  ·cases e
  ·rename_i h;trivial
 ·unfold gm;simp_all<;>omega
theorem Rel.refz(R:Rel C H B σ δ n):Rel {C with fz:=gm H B} H B σ δ n:=
 ⟨R.tp,R.kp,R.t0,R.l0,R.g0,(nA H B).1,R.bt,R.b0,R.ba,R.a0,R.sl,R.ow,R.len⟩
theorem Rel.unfz{fz:Hp}(R:Rel {C with fz:=fz} H B σ δ n)(h:∀b o,C.fz b=ae o->fz b=ae o):Rel C H B σ δ n:=
 ⟨R.tp,R.kp,R.t0,R.l0,R.g0,λb o e=>R.fz b o (h b o e),R.bt,R.b0,R.ba,R.a0,R.sl,R.ow,R.len⟩
theorem Rel.same(R:Rel C H B σ δ n)(k:iz H H'):Rel C H' B σ δ n:=by
 obtain⟨a,b,e,h⟩:=R.tp.ob;exact R.step ⟨⟨a,b,k _ _ e,h⟩,k _ _ R.tp.ls,R.tp.len,λz=>k _ _ (R.tp.ag z),R.tp.gne⟩ λb o e _=>k b o e
section
variable{X:Cx}{tg iter:Expr}{body:List Stmt}{wi:TI}{v:fS}{g:TG}{gd:dE}{T:TS}{W:aE}{pos:Pos}
theorem Vy(hi:DI X tg iter wi v)(hg:DG X tg g gd)(hb:DSs X body T W)(hp:PassesOwn (A8 X.prog X.w) X.A X.env X.xe:=by exact PassesOwn.never)(hc:X.calm=ah:=by rfl)
  (hs:∀x,Ea iter X.env x=pure x:=by intro _;rfl):DS X (.For tg iter body [] pos) (nR wi g T) (aZ v gd W):=⟨NV hp hc hi.pi hg.pg hb.ps hs,λC H B σ δ n K D R q E=>
 hi.sd C H B σ δ n _ _ R q λJ d y Z M k1 I V=>by
  have Q:=I _ (nA y B);have c:∀{H p σ δ n},Rel {C with fz:=gm y B} H p σ δ n->Rel C H p σ δ n:=λR=>R.unfz λb o e=>(nA y B).2 b o (M.fz b o e).1 (M.fz b o e).2;refine⟨λi m σ H=>m=d.length-i/\i<=d.length/\∃p δ n,Rel {C with fz:=gm y B} H p σ δ n/\ec gd W K (d.drop i) δ n,⟨d.length,by simp,Be _,B,δ,Z,M.refz,by simpa using V⟩,?_⟩
  rintro i m S t ⟨rfl,hi,u,U,N,k,s⟩
  have h:=λb o e=>(k.fz b o e).1;by_cases f:i < d.length
  ·rw[F4 f]at s;refine .inr ⟨Q.go i t h f,λσ3 H3=>∃p δ n,_,λσ' F z=>⟨_,by omega,rfl,f,z⟩,λx F hy=>?_⟩;obtain⟨sm,Y⟩:=Q.yld i t x F d[i] h (Ai f) hy;refine hg.sd _ F u S U N x d[i] _ _ (k.same sm) (Y u (λb o e=>(k.fz b o e).2) k.ba) s λσ' G R4 P=>hb.sd _ F u σ' G N _ _ R4 P ⟨?_,?_,?_,?_,λH B σ δ n a O d R=>E.rn H B σ δ n a O d (c R),λH B σ δ n a l L R=>E.rx H B σ δ n a l L (c R)⟩
   ·exact λH B σ δ n R q=>⟨B,δ,n,R,q⟩
   ·exact λH B σ δ n v w R=>E.rt H B σ δ n v w (c R)
   ·exact λH B σ δ n R=>E.nx H B σ δ n (c R)
   ·exact λH B σ δ n R q=>⟨B,δ,n,R,q⟩
  ·have e:i=d.length:=by omega
   subst e;rw[List.drop_length]at s;exact .inl ⟨Q.stop t h,E.nx t u S U N (c k) s⟩⟩
end
def i9(fr:List (Option Nat))(δ:Sl):Sl:=fr.map λo=>o.bind λi=>match δ[i]? with
 |some (ae (.w x))=>ae (.w x)
 |some (ae (.odk kvs))=>ae (.w (.dk kvs))
 |some (ae (.own ds))=>ae (.w (.ln ds))
 |some (ae (.odx kvs))=>ae (.w (.dx kvs))
 |_=>af
def c6(g:dE)(c:bZ)(w:DT)(Q:List Ab->Int->Prop):List Ab->List Ab->Sl->Int->Prop
 |[],i',_,n=>Q i' n
 |d::r,i',δ,n=>g d δ λδ'=>c δ' n λb n1=>if b=ah then w δ' n1 λx n2=>match x with
   |.d y=>c6 g c w Q r (i'++[y]) δ' n2
   |_=>False
  else c6 g c w Q r i' δ' n1
def bG(fr:List (Option Nat))(v:fS)(g:dE)(c:bZ)(w:DT):dq:=λδ n Q=>v δ n λds n1=>c6 g c w Q ds [] (i9 fr δ) n1
structure DIf(X:Cx)(ifs:List Expr)(t:TT)(c:bZ):Prop where
 pf:md X ifs t
 sd:jC t c
def aR:bZ:=λ_ n Q=>Q ah n
theorem Pl:DIf X [] EL aR:=⟨LU,λC H B σ δ n Q a R q k=>k ah H n R (Kp.refl _ _) q⟩
theorem Q3(h:DC X c t cc):DIf X [c] t cc:=⟨RZ h.pt,h.sd⟩
theorem IV(fr:List (Option Nat))(σ):(d5 fr σ).length=fr.length:=by unfold d5;simp
theorem Iy(fr:List (Option Nat))(δ):(i9 fr δ).length=fr.length:=by unfold i9;rw[Ad]
theorem uR{j:Nat}(h:(i9 fr δ)[j]?=ae (ae x)):∃i y,fr[j]?=ae (ae i)/\δ[i]?=ae (ae y)/\((∃z,x=.w z/\y=.w z)\/(∃kvs,x=.w (.dk kvs)/\y=.odk kvs)\/(∃ds,x=.w (.ln ds)/\y=.own ds)\/∃kvs,x=.w (.dx kvs)/\y=.odx kvs):=by
 unfold i9 at h;rw[Ap]at h;cases e:fr[j]? with
 |none=>rw[e]at h;cases h
 |some o=>
  rw[e]at h;cases o with
  |none=>cases h
  |some i=>
   have b:=B2 h;dsimp only[Option.bind]at b
   split at b
   ·rename_i z a;cases b;exact⟨i,_,rfl,a,.inl ⟨z,rfl,rfl⟩⟩
   ·rename_i kvs a;cases b;exact⟨i,_,rfl,a,.inr (.inl ⟨kvs,rfl,rfl⟩)⟩
   ·rename_i ds a;cases b;exact⟨i,_,rfl,a,.inr (.inr (.inl ⟨ds,rfl,rfl⟩))⟩
   ·rename_i kvs a;cases b;exact⟨i,_,rfl,a,.inr (.inr (.inr ⟨kvs,rfl,rfl⟩))⟩
   ·cases b
theorem Kt{j i:Nat}(h:fr[j]?=ae (ae i))(h2:σ[i]?=ae (ae v)):(d5 fr σ)[j]?=ae (ae v):=by
 unfold d5;simp_all<;>omega
theorem J2(R:Rel C H B σ δ n)(hL:H L=af):
  Rel ⟨C.t,C.l,C.ns,H,B,gm H B⟩ (upd H L (.lst [])) (λb=>B b\/b=L) (d5 fr σ) (i9 fr δ) n where
 tp:=R.tp.new hL
 kp:=Kp.new hL
 t0:=R.ba _ R.bt
 l0:=by
  show H C.l.s≠af;rw[R.tp.ls];simp
 g0:=λe=>by
  show H C.l.g≠af;rw[R.tp.ag e];simp
 fz:=λb o e=>by
  obtain⟨u,E⟩:=(nA H B).1 b o e;exact⟨(aX (b5 u hL))▸u,λz=>z.elim E (b5 u hL)⟩
 bt:=.inl R.bt
 b0:=λb=>.inl
 ba:=λb z e=>by
  by_cases q:b=L
  ·rw[q,br]at e;cases e
  ·rw[aX q]at e;exact R.ba b (by simp_all) e
 a0:=R.ba
 sl:=λj x e=>by
  have p:∀b F,H b=ae F->¬B b->upd H L (.lst []) b=ae F/\¬(B b\/b=L):=λb F e n=>⟨(aX (b5 e hL))▸e,λz=>z.elim n (b5 e hL)⟩;obtain⟨i,y,u,E,G⟩:=uR e;obtain⟨v,J,m⟩:=R.sl i y E;refine⟨v,Kt u J,?_⟩;rcases G with⟨z,rfl,rfl⟩|⟨h,rfl,rfl⟩|⟨I,rfl,rfl⟩|⟨h,rfl,rfl⟩
  ·cases z with
   |d d=>exact⟨m.1.move p,λz=>by cases z⟩
   |tp=>exact⟨m.1,λz=>by cases z⟩
   |ln I=>
    obtain⟨a,l,f,c,r,k,A⟩:=m.1;exact⟨⟨a,l,f,(aX (b5 c hL))▸c,r,k,A.move p⟩,λ_=>⟨a,f,by show H a≠af;rw[c];simp⟩⟩
   |dk h=>
    obtain⟨a,l,f,c,r,k⟩:=m.1;exact⟨⟨a,l,f,(aX (b5 c hL))▸c,r,k.move p⟩,λ_=>⟨a,f,by show H a≠af;rw[c];simp⟩⟩
   |dx h=>
    obtain⟨a,l,f,c,r,k⟩:=m.1;exact⟨⟨a,l,f,(aX (b5 c hL))▸c,r,k.move p⟩,λ_=>⟨a,f,by show H a≠af;rw[c];simp⟩⟩
   |ob o=>
    exact⟨ORel.move p m.1,λz=>by cases z⟩
  ·obtain⟨a,l,f,c,r,k,A,w⟩:=m;exact⟨⟨a,l,f,(aX (b5 c hL))▸c,λz=>R.t0 (z▸k),w.move p⟩,λ_=>⟨a,f,by show H a≠af;rw[c];simp⟩⟩
  ·obtain⟨a,l,f,c,r,k,A,w⟩:=m;exact⟨⟨a,l,f,(aX (b5 c hL))▸c,λz=>R.t0 (z▸k),A,w.move p⟩,λ_=>⟨a,f,by show H a≠af;rw[c];simp⟩⟩
  ·obtain⟨a,l,f,c,r,k,A,w⟩:=m;exact⟨⟨a,l,f,(aX (b5 c hL))▸c,λz=>R.t0 (z▸k),w.move p⟩,λ_=>⟨a,f,by show H a≠af;rw[c];simp⟩⟩
 ow:=λi j x y v u E D Q _ _=>by
  obtain⟨_,_,_,_,G⟩:=uR u;rcases G with⟨z,rfl,_⟩|⟨h,rfl,_⟩|⟨I,rfl,_⟩|⟨h,rfl,_⟩
  ·cases D
  ·cases D
  ·cases D
  ·cases D
 len:=by rw[IV,Iy]
section
variable{X:Cx}{elt tg iter:Expr}{ifs:List Expr}{scope:Fc}{cl:List (Str×A_)}{pos:Pos}{N:List Str}{fr:List (Option Nat)}{wi:TI}{v:fS}{g:TG}{gd:dE}{tt:TT}{cc:bZ}{te:TE}{we:DT}
def g6(δ:Sl):Prop:=∀(i:Nat)(x:SV),δ[i]?=ae (ae x)->x.isOwn=ai
theorem KU(fr)(δ):g6 (i9 fr δ):=λi x e=>by
 obtain⟨_,_,_,_,b⟩:=uR e;rcases b with⟨z,rfl,_⟩|⟨a,rfl,_⟩|⟨c,rfl,_⟩|⟨a,rfl,_⟩<;>rfl
def k7(v:dE):Prop:=∀d δ Q,g6 δ->v d δ Q->v d δ λδ'=>g6 δ'/\Q δ'
theorem vS(i):k7 (aG i):=λd δ Q h q=>⟨λj x e=>by
 rcases fk e with⟨_,rfl⟩|⟨_,b⟩
 ·rfl
 ·exact h j x b,q⟩
theorem wY(hc:X.calm=ah)(S:CompSc X N scope cl fr)(hi:DI X tg iter wi v)(hg:∀s H fp,DG (dg X N scope cl s H fp) tg g gd)(ht:∀s H fp,DIf (dg X N scope cl s H fp) ifs tt cc)
  (he:∀s H fp,DE (dg X N scope cl s H fp) elt te we) (hno:k7 gd) (hs:∀x,Ea iter X.env x=pure x:=by intro _;rfl):
  DF X (.ListComp elt [⟨tg,iter,ifs,0⟩] scope pos) (mh fr wi g tt te) (bG fr v gd cc we):=by
 refine⟨Ud hc S hi.pi (λs H fp=>(hg s H fp).pg) (λs H fp=>(ht s H fp).pf) (λs H fp=>(he s H fp).pe) hs,λC H B σ δ n Q Q' R q k=>hi.sd C H B σ δ n _ _ R q λJ f H1 n1 K k1 hJ q1=>λL O=>?_⟩;have I:=hJ _ (nA H1 B);have w:L≠C.t:=λz=>K.ba _ K.bt (z▸O);refine⟨λi m A τ H=>m=f.length-i/\i<=f.length/\A.length<=i/\∃δ' n' c,Rel _ H _ τ δ' n'/\g6 δ'/\H L=ae (.lst A)/\RdXs H (λb=>B b\/b=L) A c/\c6 gd cc we Q (f.drop i) c δ' n',
  ⟨f.length,by simp,Be _,Be _,_,n1,[],J2 K O,KU fr δ,br,.nil,by simpa using q1⟩,?_⟩
 rintro i m A τ T ⟨rfl,hi,G,δ2,V,c,p,no2,M,D,P⟩
 have l:=λb o e=>(p.fz b o e).1;by_cases a:i < f.length
 ·rw[F4 a]at P;refine .inr ⟨I.go i T l a,Bd (G6 G a) I.le,λx W hy=>?_⟩;obtain⟨Y,rd⟩:=I.yld i T x W f[i] l (Ai a) hy;refine((hg X.s₀ X.H₀ []).sd) _ W _ τ δ2 V x f[i] _ _ (p.same Y) (rd _ (λb o e=>(p.fz b o e).2) p.ba) (hno _ _ _ no2 P) λτ3 U R4 ⟨h,q4⟩=>((ht X.s₀ X.H₀ []).sd) _ W _ τ3 U V _ _ R4 q4 λb H4 n4 Z k5 q5=>?_;have E:=k5 _ _ (Y _ _ M) w;have F:=(D.keep λb o e _=>Y b o e).kp k5 R4.bt;cases b with
  |false=>
   exact⟨_,by omega,rfl,a,by omega,U,n4,c,Z,h,E,F,q5⟩
  |true=>
   refine((he X.s₀ X.H₀ []).sd) _ H4 _ τ3 U n4 _ _ Z q5 λu y H5 n5 R6 k6 r6 r=>?_;cases y with
   |d y=>
    refine⟨(k6 _ _ E w),_,by omega,rfl,a,by rw[An,Az];omega,U,n5,_,R6.mut (.inr rfl) O λj z e o=>f_ (h j z e) (by rw[o];simp),h,br,RdXs.keep (λb o e n=>?_) ((F.kp k6 Z.bt).append (.cons r6 .nil)),r⟩;rw[aX λz=>n (.inr z)];exact e
   |tp=>exact r.elim
   |dk _=>exact r.elim
   |dx _=>exact r.elim
   |ln _=>exact r.elim
   |ob _=>exact r.elim
 ·have e:i=f.length:=by omega
  subst e;rw[List.drop_length]at P;refine .inl ⟨I.stop T l,k L A c T V (K.step p.tp p.kp) (k1.trans p.kp) (K.was k1 O) M (A5 G I.le) D P⟩
end
abbrev dt:=List Ab->Sl->(Sl->Prop)->Prop
def OO(g:fW)(v:dt):Prop:=∀(C:Ctx)(H:Hp)(B:A_->Prop)(σ:St)(δ:Sl)(n:Int)(xs:List V)(ds:List Ab)(Q:Sl->Prop)(Q':St->Hp->Prop),Rel C H B σ δ n->RdXs H B xs ds->v ds δ Q->
 (∀σ' δ',Rel C H B σ' δ' n->Q δ'->Q' σ' H)->g xs σ H Q'
structure DGs(X:Cx)(ts:List Expr)(g:fW)(v:dt):Prop where
 pg:mr X ts g
 sd:OO g v
def cZ:dt:=λds δ Q=>match ds with
 |[]=>Q δ
 |_=>False
def bE(v:dE)(r:dt):dt:=λds δ Q=>match ds with
 |d::ds=>v d δ λδ'=>r ds δ' Q
 |[]=>False
def dF(n:Nat)(r:dt):dE:=λd δ Q=>match d with
 |.tuple ds=>ds.length=n/\r ds δ Q
 |_=>False
theorem JV:∀ds δ Q,g6 δ->cZ ds δ Q->cZ ds δ λδ'=>g6 δ'/\Q δ':=λds δ Q h q=>by
 cases ds with
 |nil=>exact⟨h,q⟩
 |cons _ _=>exact q
theorem GR(mono:∀d δ (Q Q':Sl->Prop),(∀δ',Q δ'->Q' δ')->v d δ Q->v d δ Q')(hv:k7 v)(hr:∀ds δ Q,g6 δ->r ds δ Q->r ds δ λδ'=>g6 δ'/\Q δ'):∀ds δ Q,g6 δ->bE v r ds δ Q->bE v r ds δ λδ'=>g6 δ'/\Q δ':=λds δ Q h q=>by
 cases ds with
 |nil=>exact q
 |cons d ds=>exact mono d δ _ _ (λδ' z=>hr ds δ' Q z.1 z.2) (hv d δ _ h q)
theorem N3(hr:∀ds δ Q,g6 δ->r ds δ Q->r ds δ λδ'=>g6 δ'/\Q δ'):k7 (dF n r):=λd δ Q h q=>by
 unfold dF at q ⊢
 split at q
 ·exact⟨q.1,hr _ _ _ h q.2⟩
 ·exact q.elim
theorem NN(i j n):k7 (dF n (bE (aG i) (bE (aG j) cZ))):=
 N3 (GR (λ_ _ _ _ h=>h _) (vS i) (GR (λ_ _ _ _ h=>h _) (vS j) JV))
section
variable{X:Cx}{pos:Pos}
theorem SR:DGs X [] nW cZ:=⟨L5,λC H B σ δ n a c Q b R r q k=>by
 cases r with
 |nil=>exact⟨rfl,k σ δ R q⟩
 |cons _ _=>exact q.elim⟩
end
section
variable{X:Cx}{pos:Pos}
theorem OJ(h1:DG X e t v)(h2:DGs X es u r)
  (hs:(Cj (e::es) X.env).map (·.2)=assign e X.env::(Cj es X.env).map (·.2):=by rfl):DGs X (e::es) (yq t u) (bE v r):=⟨Ul h1.pg h2.pg hs,λC H B σ δ n j h Q l R c q k=>by
 cases c with
 |nil=>exact q.elim
 |cons d f=>exact⟨_,_,rfl,h1.sd C H B σ δ n _ _ _ _ R d q λσ' g a b=>h2.sd C H B σ' g n _ _ _ _ a f b k⟩⟩
theorem Nv{k:Nat}{n:Nat}(h:DGs X es t r)(hc:X.calm=ah:=by rfl)
  (hn:(Cj es X.env).length=n:=by rfl) (hst:(Cj es X.env).findIdx? (·.1)=af:=by rfl):DG X (.Tuple es k pos) (lj X.K n t) (dF n r):=⟨KD hc h.pg hn hst,λC H B σ δ e x d Q m R c q k=>by
 unfold dF at q
 split at q
 ·rename_i j;cases c with
  |@tup b g _ i o l a=>exact⟨b,g,rfl,SqT.of i,a.len▸q.1,h.sd C H B σ δ e _ _ _ _ R a q.2 k⟩
 ·exact q.elim⟩
def kX(i:Nat)(wj w:DT):aE:=λδ n K=>match δ[i]? with
 |some (ae (.own ds))=>w δ n λx n1=>wj δ n1 λj n2=>match x,j with
  |.d d,.d (.int k)=>match iU ds.length k with
   |some m=>K.nx (δ.set i (ae (.own (ds.set m d)))) n2
   |none=>False
  |_,_=>False
 |_=>False
theorem WH{xp sp:Pos}(hN:X.N[i]?=ae x)(hj:DE X j tj wj)(he:DE X e te we)(hv:ej X.env.scope x:=by first|exact Cc rfl|exact Bo (Cc rfl)|exact Bo (Bo rfl))(hd:(x==("__debug__":Str))=ai:=by decide)
  (q_:(x==("__classdict__":Str))=ai:=by decide)
  (ha:∀v,assign (.Subscript (.Name x xp) j sp) X.env v=(do
   let ov <-Gj [v] (eval (.Name x xp) X.env)
   let iv <-Gj [v,ov] (eval j X.env)
   standAt sp
   Gj [v,ov,iv] (setItem ov iv v)
   release [v,ov,iv] []):=by intro _;rfl)
  (hs:swapsWithSole [.Subscript (.Name x xp) j sp] e pos.line X.env=pure ai:=by rfl) (hw:swappedStores [.Subscript (.Name x xp) j sp] e X.env=pure af:=by rfl)
  (h1:(Cj [.Subscript (.Name x xp) j sp] X.env).map (·.2)=[assign (.Subscript (.Name x xp) j sp) X.env]:=by rfl):
  DS X (.Assign [.Subscript (.Name x xp) j sp] e pos) (bX te (i7 (bM i) tj qV)) (kX i wj we):=
 ⟨kU he.pe (oU (eZ hN hv hd q_) hj.pe m7 ha) hs hw h1,λC H B σ δ n K D R q E=>by
  unfold kX at q
  split at q
  ·rename_i W r;refine he.sd C H B σ δ n _ _ R q λu y J L f V Q A=>?_;obtain⟨v,hv,a,M,rfl,O,h,l,I,s⟩:=f.sl i _ r;refine⟨_,hv,hj.sd C J B σ δ L _ _ f A λw z G U P g S c=>?_⟩
   split at c
   ·rename_i d k
    split at c
    ·rename_i m F;cases(show RdX G B w (.int k)from S);have p:a≠C.t:=λz=>R.t0 (z▸l);refine⟨a,M,k,m,rfl,rfl,(g _ _ O p),s.len▸F,E.nx _ _ _ _ _ (P.mutOwn r rfl hv h l ?_ rfl) c⟩;refine⟨a,_,rfl,br,h,l,by simpa using I,RdXs.keep (λb o e n=>?_) (RdXs.set m (s.kp g f.bt) (Q.kp g f.bt))⟩;rw[aX λ(z:b=a)=>n (z▸h)];exact e
    ·exact c.elim
   ·exact c.elim
  ·exact q.elim⟩
end
structure Has(P:A9)(w:Bj)(K:Af)(mg:Str->Option Ag)(base:Heap)(k:Nat)(x:Str)(ps:List Str)(S:bb):Prop where
 ex:∃(f:A_)(fd:Ck),FnOk P w K mg base cV k f fd ps (eV S)/\Binds K fd ps []/\mg x=ae (.ref f)/\C1 K (.ref f)=ah
section
variable{P:A9}{w:Bj}{K:Af}{mg:Str->Option Ag}{base:Heap}
theorem Has.mk'(F:Fun K x qual st f fd)(m:mg x=ae (.ref f))(b:Binds K fd ps [])(h:FnOk P w K mg base cV k f fd ps (eV S)):Has P w K mg base k x ps S:=⟨f,fd,h,b,m,F.kp⟩
end
theorem Vp{pos p:Pos}(h:Has X.prog X.w X.K X.mg X.base k x ps S)(hr:Room k X.A)(hg:Gl X x)
  (ha:DA X (e::es) tR wR) (hdb:(x==("__debug__":Str))=ai:=by decide) (he:Au (e::es) X.env=(ai,eval e X.env)::Au es X.env:=by rfl) (p_:(C6 pos (Au es X.env)).any (·.1)=ai:=by rfl):
  DE X (.Call (.Name x p) (e::es) [] pos) (hU (eV S) [] E0 tR) (aB S wR):=by
 obtain⟨f,g,d,a,b,c⟩:=h.ex;exact Pz d hr hg b c a ha hdb he p_
theorem Kj{cl cells:List (Str×A_)}(h:∀y∈cl,cells.lookup y.1=ae y.2):∀x c,cl.lookup x=ae c->cells.lookup x=ae c:=λx c e=>h _ (rN e)
def bQ:bb:=λws n Q=>match ws with
 |[.tp,.d (.int many)]=>(n < 2 ^ 40/\0 < many/\many < 1073741824)/\∀r:Int,0<=r->r < many->Q (.d (.int r)) (n+1)
 |_=>False
section
variable{P:A9}{w:Bj}{K:Af}{mg:Str->Option Ag}{base:Heap}
theorem N4(h:FnOk P w K mg base cV k f fd ps FD):FnOk P w K mg base cV k f fd ps (eV bQ):=h.imp λvs H Q E s=>by
 obtain⟨t,l,c,B,z,n,A,T,x,y,r,q,m⟩:=s;unfold bQ at q
 split at q
 ·rename_i a;cases r with
  |cons o p=>
   cases p with
   |cons v b=>
    cases b;cases(o);cases(show RdX H B _ (.int a)from v);exact⟨t,l,c,n,_,rfl,T,q.1.1,q.1.2.1,q.1.2.2,λr g d e i j=>m _ _ (q.2 r d e) _ g i j (.int r)⟩
 ·exact q.elim
def spLaw(K:Af):Sp:=λvs H Q _=>∃(a:A_)(ns:List Int),vs=[.ref a]/\SqL K H a (ns.map V.int)/\ns.length<=63/\∀H',Q (.bl ah) H'
def pN:DEnds:={ nx:=λ_ _=>False,rt:=λw _=>w=.d (.bool ah)}
theorem N6{a:V}(T:Tp H t l ns 0):Rel ⟨t,l,ns,H,λb=>b=t,λ_=>af⟩ H (λb=>b=t) (ae a::ae (.ref t)::Df k af) (af::ae (.w .tp)::Df k af) 0 where
 tp:=T
 kp:=Kp.refl _ _
 t0:=by
  obtain⟨_,_,h,_⟩:=T.ob;simp_all<;>omega
 l0:=by
  show H l.s≠af;rw[T.ls];simp
 g0:=λe=>by
  show H l.g≠af;rw[T.ag e];simp
 fz:=λb o e=>nomatch e
 bt:=rfl
 b0:=λ_ z=>z
 ba:=λb z=>by
  obtain⟨_,_,h,_⟩:=T.ob;rw[z,h];simp
 a0:=λb z=>by
  obtain⟨_,_,h,_⟩:=T.ob;simp_all<;>omega
 sl:=λi x e=>by
  rcases i with _|_|i
  ·cases e
  ·cases e;exact⟨_,rfl,rfl,λz=>by cases z⟩
  ·have c:(Df k _)[i]?=ae (ae x):=e;rw[E1]at c
   split at c
   ·cases c
   ·cases c
 ow:=λi j x y v d p f q n m=>by
  rcases i with _|_|i
  ·cases d
  ·cases d;cases f
  ·have c:(Df k _)[i]?=ae (ae x):=d;rw[E1]at c
   split at c
   ·cases c
   ·cases c
 len:=by simp
end
end DL
local macro_rules|`(⇑$n:num)=>`(DL.wC (.int $n))
local macro_rules|`(↥$n:num)=>`(DL.aj $n)
namespace Nb
open PySem L2 DL
def bx(g:Ab->Bool):bb:=λws n Q=>match ws with
 |[.d d]=>Q (.d (.bool (g d))) n
 |_=>False
theorem gM(h:bx g ws n Q):ws.length=1:=by
 unfold bx at h
 split at h
 ·rfl
 ·exact h.elim
def kc(c:Nat):Bool:=!decide ([c] < ("a":Str).cps.toList)&&!decide (("z":Str).cps.toList < [c])
def bR(k:Int):Ab->Bool
 |.str x=>decide ((1:Int)<=(x.length:Int))&&(decide ((x.length:Int)<=k)&&x.cps.toList.all kc)
 |_=>ai
def lB:bb:=λws n Q=>match ws with
 |[.d d,.d (.int k)]=>Q (.d (.bool (bR k d))) n
 |_=>False
def jg:Ab->Bool
 |.int _=>ah
 |_=>ai
def fh(lo hi:Int):Ab->Bool
 |.int i=>decide (lo<=i)&&decide (i<=hi)
 |_=>ai
abbrev iK:Ab->Bool:=fh 0 99
def c7(d:Ab):Bool:=bR 8 d || iK d
def dw:Ab->Bool
 |.tuple ds=>decide ((1:Int)<=(ds.length:Int))&&(decide ((ds.length:Int)<=4)&&ds.all c7)
 |_=>ai
def eH(d:Ab):Bool:=fU d || fh 1 20 d
def fe:Ab->Bool
 |.tuple [a,b]=>dw a&&eH b
 |_=>ai
theorem qR{rest:Sl}(P:Ab->Prop)(f)(h:∀d n Q',P d->Q' (.d (f d)) n->w (↑d::rest) n Q'):∀(items i':List Ab)(x:Option SV)(n:Int),(∀d∈items,P d)->Q (i'++items.map f) n->c6 (aG 0) aR w Q items i' (x::rest) n
 |[],i',x,n,a,q=>by
  rw[Er,Bk]at q;exact q
 |d::r,i',x,n,a,q=>by
  refine h d n _ (a d Am) (qR P f h r _ _ n (λe b=>a e (Ak _ b)) ?_);rw[Bp];exact q
theorem rX{rest:Sl}(P:Ab->Prop)(p)(f)(hp:∀d n Q',P d->Q' (p d) n->c (↑d::rest) n Q')(h:∀d n Q',P d->Q' (.d (f d)) n->w (↑d::rest) n Q'):
  ∀(items i':List Ab)(x:Option SV)(n:Int),(∀d∈items,P d)->Q (i'++(items.filter p).map f) n->c6 (aG 0) c w Q items i' (x::rest) n
 |[],i',x,n,a,q=>by
  rw[List.filter_nil,Er,Bk]at q;exact q
 |d::r,i',x,n,a,q=>by
  refine hp d n _ (a d Am) ?_;cases e:p d with
  |true=>
   refine h d n _ (a d Am) (rX P p f hp h r _ _ n (λe b=>a e (Ak _ b)) ?_);simp_all<;>omega
  |false=>
   refine rX P p f hp h r i' _ n (λe b=>a e (Ak _ b)) ?_;simp_all
def oj(d:Ab):Prop:=∃c:Nat,d=.str ⟨#[c]⟩
theorem RR(x):∀d∈jo x,oj d:=λd a=>by
 obtain⟨c,_,rfl⟩:=A6.mp a;exact⟨c,rfl⟩
def okD:Ab->Bool
 |.str y=>!decide (y.cps.toList < ("a":Str).cps.toList)&&!decide (("z":Str).cps.toList < y.cps.toList)
 |_=>ai
theorem N5(x:Str):(jo x).all okD=x.cps.toList.all kc:=by
 unfold jo;rw[Dt];rfl
theorem ua{α:Type}(f):∀l:List α,e9 (l.map λa=>.bool (f a))=ae (l.map f)
 |[]=>rfl
 |a::r=>by
  show(e9 _).map _=_;rw[ua f r];rfl
theorem BP{α:Type}(f)(l:List α):(l.map f).all id=l.all f:=by
 simp
theorem wX{r:Int}(h0:0<=r)(h1:r < xs.length):∃v,c8 xs r=ae v/\v∈xs:=by
 obtain⟨j,rfl⟩:=Ca h0;have a:j < xs.length:=by omega
 exact⟨_,eW (Ai a),Da a⟩
theorem VL(d):bV "int" d=match d with|.int _=>ah|.bool _=>ah|_=>ai:=by cases d<;>rfl
theorem QS(d):bV "bool" d=match d with|.bool _=>ah|_=>ai:=by cases d<;>rfl
theorem rW(d):bV "str" d=match d with|.str _=>ah|_=>ai:=by cases d<;>rfl
theorem WO(d):bV "tuple" d=match d with|.tuple _=>ah|_=>ai:=by cases d<;>rfl
theorem ll(d):bV "list" d=match d with|.list _=>ah|_=>ai:=by cases d<;>rfl
theorem ia{W:aE}(h:∀d n K,K.rt (.d (.bool (g d))) n->W (dj N [.d d]) n K):∀ws n Q,bx g ws n Q->W (dj N ws) n {nx:=λ_ n=>Q (.d .none) n,rt:=Q}:=λws n Q q=>by
 unfold bx at q
 split at q
 ·exact h _ n _ q
 ·exact q.elim
theorem iM{A B:Prop}(h1:b=ah->A)(h2:b=ai->B):if b=ah then A else B:=by
 cases b with
 |true=>rw[a' rfl];exact h1 rfl
 |false=>rw[a_ A7];exact h2 rfl
end Nb
namespace DL
open PySem L2 Nb
section
variable{X:Cx}{tg a b c e:Expr}{ta tb tc te:TE}{wa wb wc we:DT}{pos p:Pos}{K:Af}
theorem Kw(ha:DE X a ta wa)(hb:DE X b tb wb)(hK:X.K=K:=by rfl)(hs:rT b:=by exact λ_ _=>rfl):DE X (.Subscript a b pos) (dQ (ly K) ta tb) (w2 wa wb aw):=by subst hK;exact tF ha hb hs
def uL(K:Af)(T:String):List V->Hp->VK->Prop:=λxs H Q=>∃x t b,xs=[x,.ty T]/\TyOf K H x t/\PySem.W.kitOne K t (.type T)=ae b/\Q (.bl b) H
theorem Ir{p p2:Pos}(hT:T="int"\/T="bool"\/T="str"\/T="tuple"\/T="list")(hg:Gl X "isinstance")(hm:X.mg "isinstance"=af)(hg2:Gl X x)(hm2:X.mg x=af)(hv:Br x=ae (.type T))(ha:DE X a ta wa)(hK:X.K=K:=by rfl)(hn:x≠"__name__":=by decide)(hdb:(x==("__debug__":Str))=ai:=by decide)
  (he:Au [a,.Name x p2] X.env=(ai,eval a X.env)::Au [.Name x p2] X.env:=by rfl) (he2:Au [.Name x p2] X.env=(ai,eval (.Name x p2) X.env)::Au [] X.env:=by rfl) (p_:(C6 pos (Au [.Name x p2] X.env)).any (·.1)=ai:=by rfl):
  DE X (.Call (.Name "isinstance" p) [a,.Name x p2] [] pos) (fM (uL K T) (cU ta (cU (tC (.ty T)) bP))) (aO T wa):=by subst hK;exact So hT hg hm hg2 hm2 hv ha hn hdb he he2 p_
def lp(K:Af):R2:=λx y H Q=>rk x y H Q\/rK x y H Q\/qQ K x y H Q
theorem uF(hu:X.A.units < Co)(hK:X.K=K:=by rfl):OpR X (Bm .Eq) (lp K):=by subst hK;exact WA hu
theorem vB:bq (lp K) bj:=O2
theorem wH(hK:X.K=K:=by rfl):OpR X (Bm .In) (ib K ai):=by subst hK;exact VB
theorem vw(hK:X.K=K:=by rfl):OpR X (Bm .NotIn) (ib K ah):=by subst hK;exact Sw
def uX(K:Af):List V->Hp->VK->Prop:=λxs H Q=>(∃z,xs=[.str z]/\z.length<=As/\Q (.int z.length) H)\/∃p ys,xs=[.ref p]/\(SqL K H p ys\/SqT K H p ys)/\Q (.int ys.length) H
theorem EZ(hK:X.K=K:=by rfl):CallR X (.builtin "len") (uX K):=by subst hK;exact JQ
theorem BA:dv (uX K) aI:=Nl
def xq(K:Af):List V->Hp->VK->Prop:=λxs H Q=>∃p ys,xs=[.ref p]/\((SqL K H p ys/\∀l,H l=af->Q (.ref l) (upd H l (.tup ys)))\/(SqT K H p ys/\Q (.ref p) H))
theorem AH(hK:X.K=K:=by rfl):CallR X (.type "tuple") (xq K):=by subst hK;exact MT
theorem zZ:dv (xq K) eT:=JK
def xi(K:Af):List V->Hp->VK->Prop:=λxs H Q=>∃p ys,xs=[.ref p]/\(SqL K H p ys\/SqT K H p ys)/\∀l,H l=af->Q (.ref l) (upd H l (.lst ys))
theorem Hf(hK:X.K=K:=by rfl):CallR X (.type "list") (xi K):=by subst hK;exact LH
theorem KL:dv (xi K) lN:=Q8
theorem IU(ha:DE X a ta wa)(hK:X.K=K:=by rfl):DI X tg a (u9 K ta) (eu wa):=by subst hK;exact U9 ha
theorem JM(ha:DE X a ta wa)(hK:X.K=K:=by rfl):DI X tg a (kx K ta) (cn wa):=by subst hK;exact OG ha
theorem IL{k:Nat}{n:Nat}(h:DGs X es t r)(hc:X.calm=ah:=by rfl)(hK:X.K=K:=by rfl)
  (hn:(Cj es X.env).length=n:=by rfl) (hst:(Cj es X.env).findIdx? (·.1)=af:=by rfl):DG X (.Tuple es k pos) (lj K n t) (dF n r):=by subst hK;exact Nv h hc hn hst
end
end DL
namespace L2
open PySem PySem.Spec PyProof.Rows
theorem CK{cpos pos pos':Pos}
  (hN:X.N.Nodup) (hix:X.N[i]?=ae x) (hx:X.env.scope.names.lookup x=ae .local)
  (hc:X.calm=ah) (S:CompSc X N scope cl fr) (hi:PI X tg iter wi) (hg:∀s H fp,PG (dg X N scope cl s H fp) tg g) (ht:∀s H fp,md (dg X N scope cl s H fp) ifs tt)
  (he:∀s H fp,PE (dg X N scope cl s H fp) elt te) (hs:∀x,Ea iter X.env x=pure x:=by intro _;rfl)
  (hsw:Cp (.ListComp elt [⟨tg,iter,ifs,0⟩] scope cpos) (ae (.Name x pos')) pos.line X.env=pure ah:=by rfl):
  PS X (.Assign [.Name x pos'] (.ListComp elt [⟨tg,iter,ifs,0⟩] scope cpos) pos) (bX (mh fr wi g tt te) (fc i)):=by
 intro k s σ H D I h;rw[exec_Assign_Name_used _ _ _ _ hsw];refine Aa (G1 (Aa (Aa ?_)));have O:∀(u:Unit) p,SP X k D .next p->A2 (A8 X.prog X.w) X.A _ _ X.xe p:=λ_ p=>Ah
 refine aP (ye hc S hi hg ht he hs I h λ{fp m s6 H3 F τ a U} E R K qn Y=>?_) λ_ p z=>Ah (Ah z);have r:F m.heap.objs.size=af:=K.free;obtain⟨_,M,_,c3,J,W⟩:=E.fpOk (by simp) r;refine wpAny_assign_Name (yP (xW E R K (Heap.SameBut.refl _ _)) hN hix (.inl hx) (show RelV (.ref a) (Cg a)from rfl) (λs7 y f=>?_) (.inr hx));obtain⟨L,f,t⟩:=f;have B:m.heap.objs.size≠L:=by
  rcases t with z|z
  ·rw[z];omega
  ·exact λq=>J x L z q.symm
 obtain⟨oo,Z,ep,T,Q⟩:=Y;refine⟨U,⟨oo,Z,ep,(f.2 _ B).trans T,Q⟩,λh' d=>⟨_,F,?_,qn⟩⟩;have C:∀b,b∉[m.heap.objs.size]->b≠m.heap.objs.size:=λb z q=>z (by rw[q];simp);have l:=λb o e=>by
  refine(y.hok b o e).stay (λc v hc=>(d.2 c ?_).trans) (λ_ z=>z) λ_ _ z=>z
  rintro rfl
  rcases hc with z|z
  ·rw[<-z,r]at e;cases e
  ·rw[r]at z;cases z
 refine y.call' (ch:=[m.heap.objs.size]) rfl ?_ l y.bare λb P=>?_
 ·exact⟨λb o e n V j=>(d.2 b (C b j)).trans e,λb o e n V j=>⟨_,(d.2 b (C b j)).trans e⟩,λb o e n j=>n,λb o e j=>⟨o,(d.2 b (C b j)).trans e⟩,λ_ _ z=>z,λ_ _ _ z=>z,λb ps z=>⟨#[],z⟩⟩
 ·cases A4.mp P;exact⟨c3,M,J,W⟩
end L2
namespace DL
open PySem L2 Nb
section
variable{X:Cx}{elt tg iter:Expr}{ifs:List Expr}{scope:Fc}{cl:List (Str×A_)}{cpos pos pos':Pos}{N:List Str}{fr:List (Option Nat)}{wi:TI}{v:fS}{g:TG}{gd:dE}{tt:TT}{cc:bZ}{te:TE}{we:DT}{i:Nat}{x:Str}
theorem J9(h:i8 t w):jD (bX t (fc i)) (bu i w):=λC H B σ δ n K D R q E=>
 h C H B σ δ n _ _ R q λa j o l m g k b c d e f=>by
  refine E.nx _ _ _ _ _ (R.own g k b (by rw[c];simp) rfl ?_) f;exact⟨a,j,rfl,c,.inr rfl,R.h0 b,d,e⟩
theorem OC(h:dY t w):jD (bX t (fc i)) (az i w):=λC H B σ δ n K D R q E=>
 h C H B σ δ n _ _ R q λv x f g b _ c a=>by
  cases x with
  |d d=>exact E.nx _ _ _ _ _ (b.set c rfl) a
  |tp=>exact E.nx _ _ _ _ _ (b.set c rfl) a
  |dk _=>exact a.elim
  |dx _=>exact a.elim
  |ln _=>exact a.elim
  |ob _=>exact E.nx _ _ _ _ _ (b.set c rfl) a
theorem Wk(hN:X.N.Nodup)(hix:X.N[i]?=ae x)(hx:X.env.scope.names.lookup x=ae .local)(hc:X.calm=ah)(S:CompSc X N scope cl fr)(hi:DI X tg iter wi v)(hg:∀s H fp,DG (dg X N scope cl s H fp) tg g gd)(ht:∀s H fp,DIf (dg X N scope cl s H fp) ifs tt cc)
  (he:∀s H fp,DE (dg X N scope cl s H fp) elt te we) (hno:k7 gd) (hs:∀x,Ea iter X.env x=pure x:=by intro _;rfl)
  (hsw:Cp (.ListComp elt [⟨tg,iter,ifs,0⟩] scope cpos) (ae (.Name x pos')) pos.line X.env=pure ah:=by rfl):
  DS X (.Assign [.Name x pos'] (.ListComp elt [⟨tg,iter,ifs,0⟩] scope cpos) pos) (bX (mh fr wi g tt te) (fc i)) (bu i (bG fr v gd cc we)):=
 ⟨CK hN hix hx hc S hi.pi (λs H fp=>(hg s H fp).pg) (λs H fp=>(ht s H fp).pf) (λs H fp=>(he s H fp).pe) hs hsw,J9 (wY (pos:=cpos) hc S hi hg ht he hno hs).sd⟩
theorem Nz(hN:X.N.Nodup)(hix:X.N[i]?=ae x)(hx:X.env.scope.names.lookup x=ae .local)(hc:X.calm=ah)(S:CompSc X N scope cl fr)(hi:DI X tg iter wi v)(hg:∀s H fp,DG (dg X N scope cl s H fp) tg g gd)(ht:∀s H fp,DIf (dg X N scope cl s H fp) ifs tt cc)
  (he:∀s H fp,DE (dg X N scope cl s H fp) elt te we) (hno:k7 gd) (hs:∀x,Ea iter X.env x=pure x:=by intro _;rfl)
  (hsw:Cp (.ListComp elt [⟨tg,iter,ifs,0⟩] scope cpos) (ae (.Name x pos')) pos.line X.env=pure ah:=by rfl):
  DS X (.Assign [.Name x pos'] (.ListComp elt [⟨tg,iter,ifs,0⟩] scope cpos) pos) (bX (mh fr wi g tt te) (fc i)) (az i (aV (bG fr v gd cc we))):=
 ⟨CK hN hix hx hc S hi.pi (λs H fp=>(hg s H fp).pg) (λs H fp=>(ht s H fp).pf) (λs H fp=>(he s H fp).pe) hs hsw,OC (wY (pos:=cpos) hc S hi hg ht he hno hs).d.sd⟩
end
end DL
namespace KS
open PySem PySem.W PyProof.Rows
def run{α:Type}(c:Nat->Nat->Bool):KasT α->α
 |.ret a=>a
 |.ask i j k=>run c (k (c i j))
theorem mB(c)(f:α->KasT β):∀t:KasT α,run c (t.bind f)=run c (f (run c t))
 |.ret _=>rfl
 |.ask i j k=>mB c f (k _)
def Wi{α:Type}(n:Nat)(P:α->Prop):KasT α->Prop
 |.ret a=>P a
 |.ask i j k=>i < n/\j < n/\∀b,Wi n P (k b)
theorem Wi.bind{f:α->KasT β}(hf:∀a,P a->Wi n R (f a)):∀{t:KasT α},Wi n P t->Wi n R (t.bind f)
 |.ret a,h=>hf a h
 |.ask i j k,h=>⟨h.1,h.2.1,λb=>Wi.bind hf (h.2.2 b)⟩
theorem Wi.out(c):∀{t:KasT α},Wi n P t->P (run c t)
 |.ret a,h=>h
 |.ask i j k,h=>Wi.out c (t:=k _) (h.2.2 _)
theorem wp_run{St:Aj->Prop}
  (hc:∀i j C s,i < n->j < n->St s->(∀s',St s'->C (c i j) s')->cmp i j C s):∀(t:KasT α)(s:Aj),Wi n P t->St s->(∀s',St s'->Q (run c t) s')->t.kasWp cmp Q s
 |.ret a,s,_,d,h=>h s d
 |.ask i j k,s,w,d,h=>hc i j _ s w.1 w.2.1 d λs' b=>wp_run hc _ s' (w.2.2 _) b h
def Lo(n:Nat)(p:Array Nat):Prop:=∀i,p.getD i 0 < n
theorem jX(p:Array Nat)(i):p.getD i 0=(p[i]?).getD 0:=by simp
theorem MW(hn:0 < n)(h:∀x∈p,x < n):Lo n p:=λi=>by
 rw[jX];cases e:p[i]? with
 |none=>exact hn
 |some x=>exact h x (Array.mem_of_getElem? e)
def Pm(n:Nat)(p:Array Nat):Prop:=p.Perm (E8 (Bc n))
theorem Pm.size(h:Pm n p):p.size=n:=by rw[Array.Perm.size_eq h];simp
theorem Pm.lo(hn:0 < n)(h:Pm n p):Lo n p:=MW hn λx a=>by
 have:=(Array.Perm.mem_iff h).mp a;simpa using this
theorem Pm.rev(h:Pm n p)(i j):Pm n (kas_rev p i j):=(mirror_perm p i j _).trans h
theorem Pm.bub(h:Pm n p)(i j):Pm n (bubble p i j):=(bubble_perm p i j).trans h
section
variable{n:Nat}(hn:0 < n)
include hn
theorem uZ(h:Lo n p):∀f m,Wi n (λ_=>True) (kas_asc p f m)
 |0,m=>trivial
 |f+1,m=>⟨h _,h _,λb=>by
  cases b with
  |true=>exact trivial
  |false=>exact uZ h f _⟩
theorem sA:∀f (p:Array Nat) m q,Pm n p->Wi n (λr=>Pm n r.1) (kas_desc f p m q)
 |0,p,m,q,h=>h
 |f+1,p,m,q,h=>⟨h.lo hn _,h.lo hn _,λb=>by
  cases b with
  |true=>
   show Wi n _ (if q > 0 then _ else _)
   split
   ·exact sA f _ _ _ (h.rev _ _)
   ·exact sA f _ _ _ h
  |false=>exact⟨h.lo hn _,h.lo hn _,λd=>by
    cases d with
    |true=>exact h
    |false=>exact sA f _ _ _ h⟩⟩
theorem AF(m nrem)(h:Pm n p):Wi n (λr=>Pm n r.2) (kas_tail3 m nrem p):=by
 refine Wi.bind (λa _=>?_) (uZ hn ((h.rev 0 m).lo hn) _ _);exact h.rev _ _
theorem zN(m nrem)(h:Pm n p):Wi n (λr=>Pm n r.2) (kas_descPart m nrem p):=
 Wi.bind (λr a=>by
  split
  ·exact AF hn _ _ (Pm.rev a _ _)
  ·exact AF hn _ _ a) (sA hn _ p _ _ h)
theorem Qr(nrem)(h:Pm n p):Wi n (λr=>Pm n r.2) (kas_count nrem p):=
 Wi.bind (λm _=>by
  split
  ·exact h
  ·split
   ·exact⟨h.lo hn _,h.lo hn _,λb=>by
     cases b with
     |true=>exact h
     |false=>exact zN hn _ _ (h.rev _ _)⟩
   ·exact zN hn _ _ h) (uZ hn (h.lo hn) _ _)
theorem vb(h:Lo n p)(k):∀f l r,Wi n (λ_=>True) (kas_place p k f l r)
 |0,l,r=>trivial
 |f+1,l,r=>by
  show Wi n _ (if l ≥ r then _ else _)
  split
  ·exact trivial
  ·exact⟨h _,h _,λb=>by
    cases b with
    |true=>exact vb h k f _ _
    |false=>exact vb h k f _ _⟩
theorem AI:∀f (p:Array Nat) k,Pm n p->Wi n (Pm n) (kas_bin f p k)
 |0,p,k,h=>h
 |f+1,p,k,h=>Wi.bind (λl _=>AI f _ _ (h.bub _ _)) (vb hn (h.lo hn) k _ _ _)
theorem wi_sort:Wi n (Pm n) (kas_sort n):=
 Wi.bind (λr a=>by
  split
  ·exact AI hn _ _ _ a
  ·exact a) (Qr hn n (Array.Perm.refl _))
end
structure Ord(lt:Nat->Nat->Bool):Prop where
 asym:∀i j,lt i j=ah->lt j i=ai
 ltr:∀i j k,lt j i=ai->lt k j=ai->lt k i=ai
section
variable{lt:Nat->Nat->Bool}(O:Ord lt)
def g(p:Array Nat)(i:Nat):Nat:=p.getD i 0
def SP(lt:Nat->Nat->Bool)(p:Array Nat)(n:Nat):Prop:=∀i j,i < j->j < n->lt (g p j) (g p i)=ai
def DP(lt:Nat->Nat->Bool)(p:Array Nat)(n:Nat):Prop:=∀i j,i < j->j < n->lt (g p i) (g p j)=ai
def Sim(lt:Nat->Nat->Bool)(x y:Nat):Prop:=lt x y=ai/\lt y x=ai
include O
theorem irr(i):lt i i=ai:=by
 cases e:lt i i with
 |false=>rfl
 |true=>exact(O.asym i i e).symm.trans e |>.symm▸rfl
theorem Sim.eq(h1:Sim lt a x)(h2:Sim lt b y):lt a b=lt x y:=by
 cases e:lt x y with
 |false=>exact O.ltr _ _ _ h2.2 (O.ltr _ _ _ e h1.1)
 |true=>
  cases c:lt a b with
  |true=>rfl
  |false=>
   have:=O.ltr _ _ _ h2.1 (O.ltr _ _ _ c h1.2);simp_all<;>omega
theorem SP.snoc(h:SP lt p n)(h1:1<=n)(e:lt (g p n) (g p (n-1))=ai):SP lt p (n+1):=λi j a b=>by
 by_cases q:j < n
 ·exact h i j a q
 ·have:j=n:=by omega
  subst this;by_cases r:i=j-1
  ·subst r;exact e
  ·exact O.ltr _ _ _ (h i _ ⋯ ⋯) e
theorem vm:∀f n,1<=n->SP lt p n->n<=run lt (kas_asc p f n)/\run lt (kas_asc p f n)<=n+f/\SP lt p (run lt (kas_asc p f n))/\(run lt (kas_asc p f n)=n+f\/lt (g p (run lt (kas_asc p f n))) (g p (run lt (kas_asc p f n)-1))=ah)
 |0,n,a,h=>⟨Bh _,Bh _,h,.inl rfl⟩
 |f+1,n,a,h=>by
  have e:run lt (kas_asc p (f+1) n)=run lt (if lt (g p n) (g p _)=ah then .ret n else kas_asc p f _):=rfl;rw[e];cases q:lt _ (g p _)with
  |true=>exact⟨Bh _,Nat.le_add_right _ _,h,.inr q⟩
  |false=>
   rw[a_ A7];obtain⟨i,d,b,c⟩:=vm f _ ⋯ (SP.snoc O h a q);grind
omit O
theorem vJ(hj:j<=p.size)(k):g (kas_rev p i j) k=if i<=k/\k < j then g p (i+j-1-k)else g p k:=by
 unfold g kas_rev;rw[jX,jX,jX,getElem?_mirror hj _ ⋯];by_cases h:i<=k/\k < j
 ·rw[a' h];by_cases q:(i<=k/\k < i+(j-i) / 2)\/(j-(j-i) / 2<=k/\k < j)
  ·rw[a' q]
  ·rw[a_ q];grind
 ·rw[a_ h,a_ ⋯]
include O
theorem ue(hj:j<=p.size)(h:∀a b,i<=a->a < j->i<=b->b < j->Sim lt (g p a) (g p b))(k):Sim lt (g (kas_rev p i j) k) (g p k):=by
 rw[vJ hj]
 split
 ·rename_i q;grind
 ·exact⟨irr O _,irr O _⟩
theorem DP.sim(h:DP lt p n)(s:∀k,Sim lt (g p' k) (g p k)):DP lt p' n:=λi j a b=>(Sim.eq O (s i) (s j)).trans (h i j a b)
theorem DP.snoc(h:DP lt p n)(h1:1<=n)(e:lt (g p (n-1)) (g p n)=ai):DP lt p (n+1):=λi j a b=>by
 by_cases q:j < n
 ·exact h i j a q
 ·have:j=n:=by omega
  subst this;by_cases r:i=j-1
  ·subst r;exact e
  ·exact O.ltr _ _ _ e (h i _ ⋯ ⋯)
omit O
def uB(lt:Nat->Nat->Bool)(sz n f:Nat)(r:Array Nat×Nat×Nat):Prop:=
 r.1.size=sz/\n<=r.2.1/\r.2.1<=n+f/\r.2.2+1<=r.2.1/\DP lt r.1 r.2.1/\(∀a b,r.2.1-(r.2.2+1)<=a->a < r.2.1->r.2.1-(r.2.2+1)<=b->b < r.2.1->Sim lt (g r.1 a) (g r.1 b))
def jb(lt:Nat->Nat->Bool)(sz nrem:Nat)(r:Nat×Array Nat):Prop:=r.2.size=sz/\1<=r.1/\r.1<=nrem/\SP lt r.2 r.1
def t5(lt:Nat->Nat->Bool)(p:Array Nat)(k m:Nat):Prop:=m<=k/\(∀i,i < m->lt (g p k) (g p i)=ai)/\(∀i,m<=i->i < k->lt (g p k) (g p i)=ah)
include O
theorem qJ:∀f (p:Array Nat) n q,q+1<=n->n+f<=p.size->DP lt p n->(∀a b,n-(q+1)<=a->a < n->n-(q+1)<=b->b < n->Sim lt (g p a) (g p b))->
  uB lt p.size n f (run lt (kas_desc f p n q))
 |0,p,n,q,A,K,c,j=>⟨rfl,Bh _,Bh _,A,c,j⟩
 |f+1,p,n,q,A,K,c,j=>by
  have o:∀F m a b,m+1-(0+1)<=a->a < m+1->m+1-(0+1)<=b->b < m+1->Sim lt (g F a) (g F b):=λp' m a b J k E l=>by
   have R:a=m:=by omega
   have P:b=m:=by omega
   rw[R,P];exact⟨irr O _,irr O _⟩
  show uB lt p.size n _ (run lt (if lt (g p n) (g p _)=ah then(if q > 0 then kas_desc f _ _ 0 else kas_desc f p _ 0)else .ask _ _ λd=>if d=ah then .ret (p,n,q)else kas_desc f p _ _));cases w:lt _ (g p _)with
  |true=>
   rw[a' rfl];by_cases C:q > 0
   ·rw[a' C];have M:=DP.sim O (DP.snoc O c ⋯ (O.asym _ _ w)) (ue O ⋯ j);have Q:(kas_rev p (n-(q+1)) n).size=p.size:=mirror_size _ _ _ _;obtain⟨u,G,B,r,t,v⟩:=qJ f _ _ 0 ⋯ ⋯ M (o _ n);exact⟨u.trans Q,by omega,by omega,r,t,v⟩
   ·rw[a_ C];obtain⟨u,G,B,r,t,v⟩:=qJ f p _ 0 ⋯ ⋯ (DP.snoc O c ⋯ (O.asym _ _ w)) (o _ n);exact⟨u,by omega,by omega,r,t,v⟩
  |false=>
   show uB lt p.size n _ (run lt (if lt (g p _) (g p n)=ah then .ret (p,n,q)else kas_desc f p _ _));cases D:lt _ (g p n)with
   |true=>exact⟨rfl,Bh _,by show n<=n+(f+1);omega,A,c,j⟩
   |false=>
    rw[a_ A7];have T:Sim lt _ (g p _):=⟨w,D⟩;have N:∀{x y z:Nat},Sim lt x y->Sim lt y z->Sim lt x z:=λh H=>⟨O.ltr _ _ _ H.1 h.1,O.ltr _ _ _ h.2 H.2⟩;obtain⟨u,G,B,r,t,v⟩:=qJ f p _ (q+1) ⋯ ⋯ (DP.snoc O c ⋯ D) (λa b J k E l=>by
     have i:∀x,n+1-(q+1+1)<=x->x < n+1->Sim lt _ (g p (n-1)):=λx S L=>by
      by_cases e:x=n
      ·rw[e];omega
      ·exact j x _ ⋯ ⋯ ⋯ ⋯
     have I:=i b E l;exact N (i a J k) ⟨I.2,I.1⟩)
    exact⟨u,by omega,by omega,r,t,v⟩
theorem z4(h1:1<=n)(hn:n<=nrem)(hz:nrem<=p.size)(h:DP lt p n):jb lt p.size nrem (run lt (kas_tail3 n nrem p)):=by
 unfold kas_tail3;rw[mB];have e:(kas_rev p 0 n).size=p.size:=mirror_size _ _ _ _;have c:SP lt (kas_rev p 0 n) n:=λi j d f=>by
  rw[vJ ⋯,vJ ⋯,a' ⟨Be _,f⟩,a' (by grind)];exact h _ _ ⋯ ⋯
 obtain⟨l,g,b,_⟩:=vm O _ n h1 c;exact⟨e,by show 1<=run lt _;omega,by show run lt _<=nrem;omega,b⟩
theorem EX(h1:1<=n)(hn:n+1<=nrem)(hz:nrem<=p.size)(h:DP lt p (n+1)):jb lt p.size nrem (run lt (kas_descPart n nrem p)):=by
 unfold kas_descPart;rw[mB];obtain⟨g,t,k,o,f,j⟩:=qJ O (nrem-(n+1)) p _ 0 ⋯ ⋯ h (λa b w l v m=>by
  have u:a=n:=by omega
  have q:b=n:=by omega
  rw[u,q];exact⟨irr O _,irr O _⟩)
 generalize run lt _=r at g t k o f j;by_cases i:r.2.2 > 0
 ·rw[a' i];have s:(kas_rev r.1 (r.2.1-(r.2.2+1)) r.2.1).size=r.1.size:=mirror_size _ _ _ _;obtain⟨e,d⟩:=z4 O (nrem:=nrem) ⋯ ⋯ ⋯ (DP.sim O f (ue O ⋯ j));exact⟨e.trans (s.trans g),d⟩
 ·rw[a_ i];obtain⟨e,d⟩:=z4 O (nrem:=nrem) ⋯ ⋯ ⋯ f;exact⟨e.trans g,d⟩
theorem Ry(h1:1<=nrem)(hz:nrem<=p.size):jb lt p.size nrem (run lt (kas_count nrem p)):=by
 unfold kas_count;rw[mB];obtain⟨n,B,d,h⟩:=vm O _ 1 ⋯ (λi j l r=>by omega);generalize run lt _=m at n B d h;by_cases q:(m==nrem)=ah
 ·rw[a' q];exact⟨rfl,n,by show m<=nrem;omega,d⟩
 ·rw[a_ q];have D:m≠nrem:=λz=>q (by rw[z];simp);have h:=h.resolve_left ⋯;by_cases f:m > 1
  ·rw[a' f];show jb lt p.size nrem (run lt (if lt (g p 0) (g p _)=ah then .ret (m,p)else kas_descPart m nrem _));cases c:lt _ (g p _)with
   |true=>exact⟨rfl,n,by show m<=nrem;omega,d⟩
   |false=>
    have A:(kas_rev p 0 m).size=p.size:=mirror_size _ _ _ _;have s:∀a b,a < m->b < m->lt (g p b) (g p a)=ai:=λa b u o=>by
     simp_all
     have y:lt (g p (m-1)) (g p b)=ai:=by
      by_cases z:b=m-1
      ·rw[z];exact irr O _
      ·exact d b _ ⋯ ⋯
     have v:lt (g p b) (g p 0)=ai:=by
      by_cases z:b=0
      ·rw[z];exact irr O _
      ·exact d 0 b ⋯ o
     have C:lt _ (g p a)=ai:=O.ltr _ _ _ (by
      by_cases z:a=m-1
      ·rw[z];exact irr O _
      ·exact d a _ ⋯ ⋯) c
     exact O.ltr _ _ _ C v
    have t:∀a b,0<=a->a < m->0<=b->b < m->Sim lt _ (g p b):=λa b _ u _ o=>⟨s b a o u,s a b u o⟩;obtain⟨x,w⟩:=EX O (nrem:=nrem) n ⋯ (by simp_all) (DP.sim O (DP.snoc O (λi j l r=>s j i r ⋯) n (O.asym _ _ h)) (ue O ⋯ t));exact⟨x.trans A,w⟩
  ·rw[a_ f];have e:m=1:=by omega
   subst e;exact EX O ⋯ ⋯ hz (DP.snoc O (λi j l r=>by omega) ⋯ (O.asym _ _ h))
theorem vc(h:SP lt p k):∀f l r,l<=r->r<=k->r-l<=f->(∀i,i < l->lt (g p k) (g p i)=ai)->(∀i,r<=i->i < k->lt (g p k) (g p i)=ah)->
  t5 lt p k (run lt (kas_place p k f l r))
 |0,l,r,b,m,o,j,d=>by
  have e:l=r:=by omega
  subst e;trivial
 |f+1,l,r,b,m,o,j,d=>by
  show t5 lt p k (run lt (if l ≥ r then .ret l else .ask _ _ λc=>if c=ah then kas_place p k f l ((l+r) / 2)else kas_place p k f _ r));by_cases q:l ≥ r
  ·rw[a' q];have e:l=r:=by omega
   subst e;trivial
  ·rw[a_ q];show t5 lt p k (run lt (if lt (g p k) (g p _)=ah then kas_place p k f l ((l+r) / 2)else kas_place p k f _ r));cases c:lt _ (g p _)with
   |true=>
    refine vc h f l _ ⋯ ⋯ ⋯ j λi n a=>?_;by_cases e:i=(l+r) / 2
    ·rw[e];exact c
    ·cases z:lt _ (g p i)with
     |true=>rfl
     |false=>
      have:=O.ltr _ _ _ (h ((l+r) / 2) i ⋯ a) z;simp_all<;>omega
   |false=>
    refine vc h f _ r ⋯ m ⋯ (λi n=>?_) d;by_cases e:i=(l+r) / 2
    ·rw[e];exact c
    ·exact O.ltr _ _ _ (h i _ ⋯ ⋯) c
omit O
theorem BB(hk:k < p.size)(hl:l<=k)(i):g (bubble p k (k-l)) i=if i=l then g p k else if l < i/\i<=k then g p (i-1)else g p i:=by
 unfold g;rw[jX,getElem?_bubble hk _ ⋯,jX,jX,jX];have e:k-(k-l)=l:=by omega
 rw[e];by_cases b:i=l
 ·rw[a' b,a' b]
 ·rw[a_ b,a_ b];by_cases a:l < i/\i<=k
  ·rw[a' a,a' a]
  ·rw[a_ a,a_ a]
include O
theorem zW:∀f (p:Array Nat) k,1<=k->k+f<=p.size->SP lt p k->SP lt (run lt (kas_bin f p k)) (k+f)
 |0,p,k,t,u,h=>h
 |f+1,p,k,t,u,h=>by
  show SP lt (run lt ((kas_place p k k 0 k).bind λl=>kas_bin f _ _)) _;rw[mB];obtain⟨c,s,m⟩:=vc O h k 0 k (by simp) ⋯ ⋯ (λi q=>by omega) (λi q v=>by omega);generalize run lt _=l at c s m;have r:SP lt (bubble p k _) (k+1):=λi j b w=>by
   rw[BB ⋯ c,BB ⋯ c];by_cases o:j=l
   ·rw[a' o,a_ ⋯,a_ ⋯];simp_all
   ·rw[a_ o];by_cases n:l < j/\j<=k
    ·rw[a' n];by_cases d:i=l
     ·rw[a' d];exact O.asym _ _ (m _ ⋯ ⋯)
     ·rw[a_ d];by_cases g:l < i/\i<=k
      ·rw[a' g];exact h _ _ ⋯ ⋯
      ·rw[a_ g];exact h i _ ⋯ ⋯
    ·rw[a_ n,a_ ⋯,a_ ⋯];exact h i j b ⋯
  have:=zW f _ _ ⋯ (by rw[bubble_size];omega) r;have e:k+1+f=k+(f+1):=by omega
  rwa [e]at this
theorem sort_ok(h1:1<=n):SP lt (run lt (kas_sort n)) n:=by
 unfold kas_sort;rw[mB];obtain⟨g,b,c,a⟩:=Ry O (p:=E8 (Bc n)) h1 (by simp);generalize run lt _=r at g b c a;have h:r.2.size=n:=by simp_all
 by_cases q:r.1 < n
 ·rw[a' q];have e:max r.1 1=r.1:=by omega
  rw[e];have:=zW O (n-r.1) r.2 r.1 b ⋯ a;have f:r.1+(n-r.1)=n:=by omega
  rwa [f]at this
 ·rw[a_ q];have e:r.1=n:=by omega
  rw[e]at a;trivial
end
end KS
namespace KS
open PySem PySem.W PySem.Calls PyProof.Rows
section
variable{prog:A9}{w:Bj}{A:Bn}{E:Ag->Aj->Prop}{s:Aj}{a:A_}{vs:List Ag}
theorem ls_sort(ho:s.heap.get? a=ae (Dy "list" vs.toArray n))(h2:2<=vs.length)(h64:vs.length < 64)
  (h:∀e1 h',h'.get? a=ae (Dy "list" #[] e1)->(∀b o,b≠a->s.heap.get? b=ae o->h'.get? b=ae o)->
   A2 (A8 prog w) A (keyKind' vs.toArray) (λκ s'=>(kas_sort vs.length).kasWp (kas_ask prog w A κ vs)
    (λp s''=>s''.heap.get? a=ae (Dy "list" #[] e1)/\∀h3 c,Cu a s''.heap h3->h3.get? a=ae (Dy "list" (E8 (p.toList.map λi=>vs.getD i Bv)) c)->P (.done (.ret .none)) {s'' with heap:=h3}) s') (λ_ _=>False) {s with heap:=h'}):
  A2 (A8 prog w) A (Ey.«list.sort» ⟨[.ref a],[]⟩) P E s:=by
 obtain⟨e1,g⟩:∃e1,(s.heap.update a _).get? a=ae (Dy "list" #[] e1):=⟨_,get?_update_seq ho λ_=>#[]⟩;have t:=h e1 (((s.heap.update a _).push (Dy "tuple" vs.toArray 0)).push (Dy "list" #[] 0)) (Ae _ (Ae _ g))
  λb o B e=>Ae _ (Ae _ (((Bg s.heap a (Ex λ_=>(#[]:Array Ag))).2 b B).trans e))
 rw[list_sort_plain];refine Aa (listItems_at ho rfl (Aa (listUpdate_at ho rfl ?_ (by rw[B4,Gn];omega) ∎)));refine Aa (seqEpoch_at g rfl (Aa (wpAny_newTuple ?_ (by show vs.length<=_;rw[Gn];omega))));refine Aa (wpAny_newList (Bt ?_) ∎);have f:¬vs.toArray.size < 2:=by simp<;>omega
 rw[a_ f,a_ f];refine Aa (De t (λκ G u=>?_) λ_ _ x=>x.elim);refine Aa (De (kat_run (Q:=λst' s'=>∃p:Array Nat,p.size=vs.length/\arrOf st'=p.map _/\failedOf st'=af/\s'.heap.get? a=ae _/\∀h3 c,Cu a s'.heap h3->h3.get? a=ae _->P _ {s' with heap:=h3})
  rfl h2 h64 (λp' st' s' F C v z=>⟨p',F,C,v,z⟩) u) ?_ λ_ _ e=>e)
 rintro⟨⟨⟩,st'⟩ s' ⟨p,y,r,D,q,k⟩
 dsimp only;have l:(E8 (p.toList.map λi=>vs.getD i Bv)).size=vs.length:=by simp<;>omega
 rw[(kat_snds rfl r)];obtain⟨m,j⟩:∃m,(s'.heap.update a _).get? a=ae (Dy "list" _ m):=⟨_,get?_update_seq q λ_=>E8 _⟩;refine Aa (seqEpoch_at q rfl (Aa (listUpdate_at q rfl ?_ ∎ (A5 (Nat.le_of_eq l) (by rw[Gn];omega)))));rw[D];simp only[bne_self_eq_false,if_false];exact Ah (k _ m (Bg s'.heap a (Ex λ_=>E8 (p.toList.map λi=>vs.getD i Bv))) j)
theorem ls_short(ho:s.heap.get? a=ae (Dy "list" vs.toArray n))(h2:vs.length < 2)
  (h:∀h' c,h'.get? a=ae (Dy "list" vs.toArray c)->(∀b o,b≠a->s.heap.get? b=ae o->h'.get? b=ae o)->P (.done (.ret .none)) {s with heap:=h'}):
  A2 (A8 prog w) A (Ey.«list.sort» ⟨[.ref a],[]⟩) P E s:=by
 obtain⟨i,g⟩:∃i,(s.heap.update a _).get? a=ae (Dy "list" #[] i):=⟨_,get?_update_seq ho λ_=>#[]⟩;have d:(((s.heap.update a _).push (Dy "tuple" vs.toArray 0)).push (Dy "list" #[] 0)).get? a=ae (Dy "list" #[] i):=Ae _ (Ae _ g);rw[list_sort_plain];refine Aa (listItems_at ho rfl (Aa (listUpdate_at ho rfl ?_ (by rw[B4,Gn];omega) ∎)));refine Aa (seqEpoch_at g rfl (Aa (wpAny_newTuple ?_ (by show vs.length<=_;rw[Gn];omega))));refine Aa (wpAny_newList (Bt ?_) ∎);dsimp only;have f:vs.toArray.size < 2:=by omega
 rw[a' f,a' f];refine Aa (Ah (Aa (Ah ?_)));dsimp only;refine Aa (seqEpoch_at d rfl (Aa (listUpdate_at d rfl ?_ (hsz2:=by rw[Array.size_map];show(pairsOf vs).size<=_;rw[pairsOf_size,Gn];omega))));simp only[bne_self_eq_false,if_false];have e:=by
  show(vs.toArray.zip vs.toArray).map (·.2)=vs.toArray;apply Gt.mp;simp;exact List.map_snd_zip (by simp)
 have k:=Bg (((s.heap.update a (Ex λ_=>(#[]:Array Ag))).push (Dy "tuple" vs.toArray 0)).push (Dy "list" #[] 0)) a (Ex λ_=>(arrOf (SortSt.mk' general' (vs.toArray.zip vs.toArray) #[] 7 af)).map (·.2));refine Ah (h _ _ (by rw[e];exact get?_update_seq d λ_=>vs.toArray) λb o j q=>(k.2 b j).trans (Ae _ (Ae _ (((Bg s.heap a (Ex λ_=>(#[]:Array Ag))).2 b j).trans q))))
theorem sorted_of(hcol:A2 (A8 prog w) A.in1 (collect r) R E s)
  (h:∀vs s1,R vs s1->vs.length<=As/\A2 (A8 prog w) A.in1.in1 (Ey.«list.sort» ⟨[.ref s1.heap.objs.size],[]⟩) (λf s2=>f=.done (.ret .none)/\Q (.ref s1.heap.objs.size) s2) E {s1 with heap:=s1.heap.push (Dy "list" vs.toArray 0)}):
  A2 (A8 prog w) A (call (.builtin "sorted") [r]) Q E s:=by
 refine Calls.call_function_entry kind_sorted plain_sorted entry_sorted (by trivial) (Aa (Ah ?_));refine Aa (De hcol (λvs s1 c=>?_) λ_ _ e=>e);obtain⟨b,i⟩:=h vs s1 c;refine Aa (wpAny_newList ?_ b);have a:(s1.heap.push _).get? s1.heap.objs.size=ae (Dy "list" vs.toArray 0):=Ar _ rfl;refine Aa (Bt (Bs slot_list_sort ⟨_,a,rfl⟩ entry_list_sort ?body (by trivial)))
 case body=>
  refine De i (λf s2 d=>?_) λ_ _ e=>e;obtain⟨rfl,g⟩:=d;exact⟨_,rfl,Ah ⟨_,rfl,g⟩⟩
def ItsOk(h:Heap)(as:List A_)(ks:List Str)(xs:List Ag):Prop:=
 as.length=ks.length/\as.length=xs.length/\∀(j:Nat)(a:A_),as[j]?=ae a->∃k t x,ks[j]?=ae k/\xs[j]?=ae x/\h.get? a=ae {cls:=.type "tuple",data:=.seq #[.str k t,x]}
def ltK(ks:List Str)(i j:Nat):Bool:=decide ((ks.getD i ⟨#[]⟩).cps.toList < (ks.getD j ⟨#[]⟩).cps.toList)
theorem lt_asym'(x y:List Nat)(h:x < y):¬y < x:=λz=>List.lt_irrefl x (List.lt_trans h z)
theorem ordK(ks):Ord (ltK ks) where
 asym:=λi j h=>c_ (lt_asym' _ _ (d_ h))
 ltr:=λi j k b a=>by
  refine c_ λz=>?_;exact f_ z (Eo.mpr (List.le_trans (Eo.mp (e_ b)) (Eo.mp (e_ a))))
theorem katTups:∀{as:List A_}{ks:List Str}{xs:List Ag},ItsOk h as ks xs->∃fs:List Ag,KatTups h (as.map Cg) fs/\fs.length=as.length/\∀f∈fs,∃k t,f=.str k t
 |[],ks,xs,_=>⟨[],trivial,rfl,λf c=>nomatch c⟩
 |a::as,ks,xs,I=>by
  obtain⟨e,r,d⟩:=I;obtain⟨k,t,x,s,n,l⟩:=d 0 a rfl;cases ks with
  |nil=>cases s
  |cons B ks=>
   cases xs with
   |nil=>cases n
   |cons v xs=>
    obtain⟨fs,o,g,i⟩:=katTups ⟨by simpa using e,by simpa using r,λj b q=>by
     obtain⟨p,m,u,y,A,w⟩:=d (j+1) b (by assumption);exact⟨p,m,u,by trivial⟩⟩
    refine⟨.str k t::fs,.cons l rfl rfl rfl o,by simp[g],λf c=>?_⟩;rcases Ao.mp c with rfl|z
    ·exact⟨k,t,rfl⟩
    ·exact i f z
end
section
variable{prog:A9}{w:Bj}{A:Bn}{E:Ag->Aj->Prop}{s:Aj}{a:A_}{as:List A_}{ks:List Str}{xs:List Ag}
theorem ask_items(hI:ItsOk s.heap as ks xs)(nd:ks.Nodup)(hx:∀x∈xs,∀(s:Aj),SeqAt.EqAt A s x x ah)(hi:i < as.length)(hj:j < as.length)(h:C (ltK ks i j) s):
  kas_ask prog w A (tuples' ah) (as.map Cg) i j C s:=by
 obtain⟨E,H,f⟩:=hI;obtain⟨b,F,r,v,g,o⟩:=f i as[i] (Ai hi);obtain⟨a,G,D,q,d,n⟩:=f j as[j] (Ai hj);unfold kas_ask;have u:(as.map Cg).getD i Bv=.ref as[i]:=by simp[hi]
 have y:(as.map Cg).getD j Bv=.ref as[j]:=by simp[hj]
 rw[u,y];have k:ks.getD i ⟨#[]⟩=b:=by simp[v]
 have p:ks.getD j ⟨#[]⟩=a:=by simp[q]
 have t:ltK ks i j=decide (b.cps.toList < a.cps.toList):=by unfold ltK;rw[k,p]
 rw[t]at h;refine kat_lt o rfl n rfl (kat_cons (wpAny_eqBool_str ?_));by_cases e:b=a
 ·rw[b_ e];have c:=by
   have B:i < ks.length:=by omega
   have z:j < ks.length:=by omega
   have m:ks[i]=b:=by simp_all
   have l:ks[j]=a:=by simp_all
   exact(Fw nd).mp (m.trans (e.trans l.symm))
  subst c;rw[g]at d;cases d;refine kat_yes (kat_cons (hx r (A0 g) s _ _ _ _ ?_));refine kat_yes (kat_nil ?_);rw[e]at h;have:decide (a.cps.toList < a.cps.toList)=ai:=c_ (by simp);rw[this]at h;exact h
 ·rw[c_ e];exact kat_no (oneLt_str h)
end
end KS
namespace L2
open PySem PySem.Spec PyProof.Rows PySem.W
def kj(d v:A_):HO:=.ext λh=>h.get? v=ae {cls:=.type "dict_items",data:=.fields #[.ref d]}
theorem Kg:xh X "dict.items" (λx vs H Q=>∃d kvs,x=.ref d/\vs=[]/\H d=ae (.dK kvs)/\∀v,H v=af->Q (.ref v) (upd H v (kj d v))):=by
 intro f s σ H x r v p Q I j l h;obtain⟨d,kvs,rfl,rfl,m,q⟩:=h;cases j;cases l.zero;obtain⟨z,a,c,i,g⟩:=I.hok d _ m;refine call_meetsIn PySem.F.slot_dict_items g.typeIs PySem.F.entry_dict_items (by trivial) (meets_dict_items _ d a) ⟨⟨c,g⟩,?_⟩;have e:(s.heap.push _).get? s.heap.objs.size=ae {cls:=.type "dict_items",data:=.fields #[.ref d]}:=Ar _ rfl;exact⟨.ref s.heap.objs.size,_,I.laid (o:=kj d s.heap.objs.size) (λb t=>Ae _) (by simp) ⟨e,⟨_,e⟩,λh1 n q k=>k _ q⟩,rfl,q _ (I.hok.fresh (by simp))⟩
def fO(as:List A_)(ks:List Str)(xv:List V)(i:Nat):A_×Str×V:=(as.getD i 0,ks.getD i ⟨#[]⟩,xv.getD i .non)
def fF(H:Hp)(D:A_)(l:List V)(as:List A_)(ks:List Str)(xv:List V):Hp:=λb=>if b=D then ae (.lst l)else match as.idxOf? b with
 |some j=>ae (.tup [.str (ks.getD j ⟨#[]⟩),xv.getD j .non])
 |none=>H b
theorem se{as:List A_}(h:as.idxOf? b=ae j):as[j]?=ae b:=by
 obtain⟨a,_⟩:=Gg.mp h;simp_all
theorem Rm{as:List A_}(h:as.idxOf? b=af):b∉as:=λhb=>by
 simp_all
theorem SJ{as:List A_}(nd:as.Nodup)(h:as[j]?=ae a):as.idxOf? a=ae j:=by
 obtain⟨f,b⟩:=Aw.mp h;cases e:as.idxOf? a with
 |none=>exact f_ (A0 h) (Rm e)
 |some i=>
  obtain⟨d,c⟩:=Aw.mp (se e);rw[(Fw nd).mp (c.trans b.symm)]
section
variable{X:Cx}{h_:List (A_×Obj)}{σ:St}{H:Hp}{s:Aj}
theorem GA{idx:List Nat}(I:Inv X h_ σ H s)(hk:∀b o,s.heap.get? b=ae o->h3.get? b=ae o)
  (hI:KS.ItsOk h3 as ks xs) (hx:Vals xv xs) (hup:∀a∈as,s.heap.objs.size<=a) (nd:as.Nodup) (hD:∀b o,s.heap.get? b=ae o->b≠D) (hDH:H D=af) (hDa:D∉as) (hl:as.length < 64) (hidx:idx.Perm (Bc as.length))
  (hL:h3.get? D=ae (Dy "list" (E8 (idx.map λi=>(as.map Cg).getD i Bv)) c))
  (q:∀H',iz H H'->H D=af->(∀a∈as,H a=af)->H' D=ae (.lst (idx.map λi=>V.ref (fO as ks xv i).1))->(∀i∈idx,H' (fO as ks xv i).1=ae (.tup [.str (fO as ks xv i).2.1,(fO as ks xv i).2.2]))->Q (.ref D) H'):
  EP X h_ σ Q (.ref D) {s with heap:=h3,toks:=tk}:=by
 obtain⟨l1,l2,O⟩:=hI;have lx:=hx.length;have E:∀{b o},H b=ae o->b < s.heap.objs.size:=I.hok.lt;have g:∀i∈idx,i < as.length:=λi v=>B9.mp (hidx.mem_iff.mp v);have F:idx.length=as.length:=by rw[hidx.length_eq,Es]
 have d:iz H (fF H D (idx.map λi=>V.ref (fO as ks xv i).1) as ks xv):=λb o e=>by
  unfold fF;rw[a_ (λz=>by simp_all)];cases q:as.idxOf? b with
  |none=>exact e
  |some j=>
   have:=hup b (A0 (se q));exact f_ (E e) (Nat.not_lt.mpr this)
 have h:=by
  have:∀l:List Nat,(∀i∈l,i < as.length)->Vals (l.map λi=>V.ref (fO as ks xv i).1) (l.map λi=>(as.map Cg).getD i Bv):=by
   intro l
   induction l with
   |nil=>intro _;exact .nil
   |cons i r R=>
    intro hl;have v:=hl i Am;refine .cons ?_ (R λj M=>hl j (Ak _ M));show(as.map Cg).getD i Bv=Cg (as.getD i 0);simp[v]
  exact this idx g
 have y:HOk X.prog X.w (fF H D _ as ks xv) h3:=λb o e=>by
  by_cases C:b=D
  ·subst C;unfold fF at e;rw[a' rfl]at e;cases e;refine⟨?_,_,c,h,hL⟩;rw[Ad];exact ft ⋯
  ·have p:=e;unfold fF at p;rw[a_ C]at p;cases B:as.idxOf? b with
   |none=>
    rw[B]at p;refine(I.hok b o p).stay (λcc u _=>hk cc u) (λcc=>d _ _) λcc W=>d _ _
   |some j=>
    rw[B]at p;cases p;obtain⟨k,t,x,Y,K,T⟩:=O j b (se B);have A:j < xv.length:=by
     have:=(Aw.mp K).1;omega
    have U:RelV (xv.getD j .non) x:=by
     obtain⟨u,J,ru⟩:=hx.get (Ai A);rw[K]at J;cases J;have:xv.getD j .non=xv[j]:=by simp[A]
     rw[this];omega
    have S:ks.getD j ⟨#[]⟩=k:=by simp[Y]
    exact⟨by show 2<=As;decide,_,.cons (S▸⟨t,rfl⟩) (.cons U .nil),⟨_,T,rfl,⟨_,rfl⟩,rfl⟩⟩
 refine⟨.ref D,_,I.call' (ch:=[]) rfl ?_ y I.bare (λb C=>nomatch C),rfl,q _ d hDH (λa Z=>I.hok.fresh (hup a Z)) (by unfold fF;simp) λi v=>?_⟩
 ·refine⟨λb o e n _ _=>hk b o e,λb o e n _ _=>⟨_,hk b o e⟩,λb o e n _=>?_,λb o e _=>⟨o,hk b o e⟩,λb W=>d _ _,λb o' u=>d _ _,λb ps z=>⟨#[],d _ _ z⟩⟩;unfold fF;rw[a_ (hD b o e)];cases B:as.idxOf? b with
  |none=>exact n
  |some j=>exact f_ (Aq e) (Nat.not_lt.mpr (hup b (A0 (se B))))
 ·have m:=g i v;have L:(fO as ks xv i).1=as[i]:=by show as.getD i 0=_;simp[m]
  have P:as[i]≠D:=λz=>hDa (z▸Da m);rw[L];unfold fF;rw[a_ P,SJ nd (Ai m)];rfl
end
def zB:List V->Hp->VK->Prop:=λxs H Q=>∃(v d:A_)(ks:List Str)(xv:List V),xs=[.ref v]/\H v=ae (kj d v)/\ks.length=xv.length/\H d=ae (.dK ((ks.zip xv).map λp=>((Di p.1:aJ),p.2)))/\ks.length < 64/\ks.Nodup/\xv.all iq=ah /\
 ∀(D:A_)(as:List A_)(idx:List Nat)(H':Hp),as.length=ks.length->idx.Perm (Bc ks.length)->(idx.map λi=>ks.getD i ⟨#[]⟩).Pairwise (λa b=>¬b.cps.toList < a.cps.toList)->iz H H'->H D=af->(∀a∈as,H a=af)->
  H' D=ae (.lst (idx.map λi=>V.ref (fO as ks xv i).1))->(∀i∈idx,H' (fO as ks xv i).1=ae (.tup [.str (fO as ks xv i).2.1,(fO as ks xv i).2.2]))->Q (.ref D) H'
theorem yX{xs:List Ag}:∀{ks:List Str}{xv:List V}{vs:List (aJ×Ag)},ks.length=xv.length->KV ((ks.zip xv).map λp=>((Di p.1:aJ),p.2)) vs->vs.length=ks.length/\Vals xv (vs.map (·.2))/\vs.map (·.1)=ks.map (Di:Str->aJ)
 |[],[],_,_,.nil=>⟨rfl,.nil,rfl⟩
 |k::ks,x::xv,_,e,.cons r b=>by
  obtain⟨d,a,c⟩:=yX (xs:=xs) (by simp_all) b;refine⟨by simp[d],.cons r.2 a,?_⟩;rw[Ba,Ba,c,<-r.1]
theorem sD(hz:p.size=n)(h:KS.SP (KS.ltK ks) p n):(p.toList.map λi=>ks.getD i ⟨#[]⟩).Pairwise (λa b=>¬b.cps.toList < a.cps.toList):=by
 rw[List.pairwise_iff_getElem];intro i j e d c;rw[Ad,Dg,hz]at e d;have:=h i j c d;unfold KS.ltK KS.g at this;have k:p.getD i 0=p[i]:=by simp[hz,e]
 have f:p.getD j 0=p[j]:=by simp[hz,d]
 rw[k,f]at this;simp only[List.getElem_map];exact e_ this
theorem Iz(hh:X.A.handled=af):CallR X (.builtin "sorted") zB:=by
 intro h_ s σ H xs us Q I r h;obtain⟨v,d,V,xv,rfl,hv,hl,hd,h64,nd,fl,q⟩:=h;obtain⟨u,rfl,ru⟩:=f6 r;cases(ru);obtain⟨z,hsys,F,rel,S⟩:=I.hok d _ hd;obtain⟨ep,hat⟩:=S.dictAt;obtain⟨lv,p,U⟩:=yX (xs:=[]) hl rel;refine KS.sorted_of (R:=λvs s1=>∃(h':Heap)(tk:Nat)(g:List A_),vs=g.map Cg/\s1={ s with heap:=h',toks:=tk}/\(∀b o,s.heap.get? b=ae o->h'.get? b=ae o)/\g.length=F.length/\KdxG _ F s.heap.objs.size h' g)
  (kdx_collect hh ⟨_,((I.hok v _ hv).1),rfl,rfl⟩ hat (by simp_all) λh' tk g hk hl Y=>⟨h',tk,g,rfl,rfl,hk,hl,Y⟩) ?_
 rintro vs s1 ⟨h',tk,g,rfl,rfl,hk,hla,Y⟩
 have m:=hla.trans lv;have P:KS.ItsOk h' g V (F.map (·.2)):=⟨m,by rw[Ad,hla],λj a W=>by
  obtain⟨l_,k,x,Z,e2,e3⟩:=Y.pairs j a W;have G:(F.map (·.1))[j]?=ae k:=(Ap)▸Z▸rfl;rw[U,Ap]at G;cases eq:V[j]? with
  |none=>rw[eq]at G;cases G
  |some k0=>
   rw[eq]at G;have hk2:=B2 G;subst hk2;rcases iw (show j8 (Di k0) l_=ah from e2)with⟨i,t,z,_⟩|⟨y,t,z,rfl⟩
   ·cases z
   ·cases z;exact⟨k0,t,x,rfl,(Ap)▸Z▸rfl,e3⟩⟩
 have hup:=λa W=>F1 (Y.above a W);have ndA:=Y.rise.imp Bb;have O:=λhm=>Nat.lt_irrefl _ (Y.there hm);have E:=λb o e=>Bb (Aq (hk b o e));have hsH:=(I.hok.kept hk).fresh (Bh _);refine⟨by rw[Ad];exact ft ⋯,?_⟩;have hoL:(h'.push _).get? h'.objs.size=ae (Dy "list" (g.map Cg).toArray 0):=Ar _ rfl;have D:∀h4:Heap,(∀b o,b≠h'.objs.size->(h'.push (Dy "list" (g.map Cg).toArray 0)).get? b=ae o->h4.get? b=ae o)->KS.ItsOk h4 g V (F.map _):=λh4 L=>⟨P.1,P.2.1,λj a W=>by
  obtain⟨k,t,x,Z,e2,e3⟩:=P.2.2 j a W;exact⟨k,t,x,Z,e2,L a _ (λz=>O (z▸A0 W)) (Ae _ e3)⟩⟩
 have B:∀h4:Heap,(∀b o,b≠h'.objs.size->(h'.push (Dy "list" (g.map Cg).toArray 0)).get? b=ae o->h4.get? b=ae o)->∀b o,s.heap.get? b=ae o->h4.get? b=ae o:=λh4 L b o e=>
  L b o (E b o e) (Ae _ (hk b o e))
 by_cases h2:2<=(g.map Cg).length
 ·refine KS.ls_sort hoL h2 (by rw[Ad];omega) λe1 h4 K L=>?_;have N:=D h4 L;obtain⟨fs,f1,f2,f3⟩:=KS.katTups N;rw[Ad]at h2;refine kat_kind (T:=Dl "str") f1 ⋯ (λf hf=>?_) rfl ?_
  ·obtain⟨k,t,rfl⟩:=f3 f hf;exact .now
  ·rw[Ad];have hn:0 < g.length:=by omega
   have hwi:=KS.wi_sort hn;refine KS.wp_run (c:=KS.ltK V) (λi j C s' hi hj hs hC=>?_) _ _ hwi rfl λs' E=>?_
   ·subst hs;refine KS.ask_items N nd (λx hx s''=>?_) hi hj (hC _ rfl);obtain⟨j,hj⟩:=B6.mp hx;have hjl:j < xv.length:=by
     have:=(Aw.mp hj).1;rw[Ad]at this;omega
    obtain⟨u,hu,ru⟩:=p.get (Ai hjl);rw[hj]at hu;cases hu;have fx:=Bu.mp fl _ (Da hjl);have:=zS (A:=X.A.in1.in1) (s:=s'') ru ru fx fx;have Z:iI xv[j] xv[j]=ah:=by
     cases ex:xv[j]<;>simp[iI]<;>(rw[ex]at fx;trivial)
    rw[Z]at this;omega
   ·subst E;refine⟨K,λh3 c sb hL3=>⟨rfl,?_⟩⟩;have hpm:KS.Pm g.length (KS.run (KS.ltK V) _):=KS.Wi.out _ hwi;have hidx:=by
     have:=G4.mp hpm;omega
    have k3:=λb o hb e=>(sb.2 b hb).trans (L b o hb e);exact GA (s:=s) I (B h3 k3) (D h3 k3) p hup ndA E hsH O ⋯ hidx hL3 λH'=>q _ g _ H' m (by rw[<-m];omega) (sD hpm.size (KS.sort_ok (KS.ordK V) hn))
 ·refine KS.ls_short hoL ⋯ λh4 c K L=>⟨rfl,?_⟩;rw[Ad]at h2;have el:g.map Cg=(Bc g.length).map λi=>(g.map Cg).getD i Bv:=by
   apply Ed (by simp);intro i h1 h2;simp at h1;simp[h1]
  rw[el]at K;refine GA (s:=s) I (B h4 L) (D h4 L) p hup ndA E hsH O ⋯ (by simp) K λH'=>q _ g _ H' m (by rw[<-m]) ?_;have:(Bc g.length).length<=1:=by simp;omega
  match hr:Bc g.length,this with
  |[],_=>exact .nil
  |[i],_=>exact D2 _ _
def ir(vs:List Ag)(ks:List Str):Prop:=vs.length=ks.length/\∀(j:Nat) v,vs[j]?=ae v->∃k t,ks[j]?=ae k/\v=.str k t
theorem wZ(h:ir vs ks):∀(idx:List Nat),(∀i∈idx,i < ks.length)->Vals ((idx.map λi=>ks.getD i ⟨#[]⟩).map V.str) (idx.map λi=>vs.getD i Bv)
 |[],_=>.nil
 |i::r,b=>by
  have f:=b i Am;have a:i < vs.length:=by rw[h.1];omega
  obtain⟨k,t,e,c⟩:=h.2 i vs[i] (Ai a);refine .cons ⟨t,?_⟩ (wZ h r λj d=>b j (Ak _ d));simp[a,e,c]
theorem CY{ks:List Str}{idx:List Nat}(h:idx.Perm (Bc ks.length)):(idx.map λi=>ks.getD i ⟨#[]⟩).Perm ks:=by
 have b:=h.map λi=>ks.getD i (⟨#[]⟩:Str);have a:(Bc ks.length).map (λi=>ks.getD i (⟨#[]⟩:Str))=ks:=by
  apply Ed (by simp);intro i b a;simp[a]
 rw[a]at b;omega
def BX:List V->Hp->VK->Prop:=λxs H Q=>∃(d:A_)(l:List (aJ×V))(ks:List Str),xs=[.ref d]/\H d=ae (.dK l)/\l.map (·.1)=ks.map (Di:Str->aJ)/\ks.length < 64 /\
 ∀(D:A_)(ys:List Str),ys.Perm ks->ys.Pairwise (λa b=>¬b.cps.toList < a.cps.toList)->H D=af->Q (.ref D) (upd H D (.lst (ys.map V.str)))
theorem Pk{vs:List (aJ×Ag)}(h:KV l vs):vs.map (·.1)=l.map (·.1):=by
 induction h with
 |nil=>rfl
 |cons r _ a=>rw[Ba,Ba,a,r.1]
theorem Ve(hh:X.A.handled=af):CallR X (.builtin "sorted") BX:=by
 intro E s σ H xs us Q I r h;obtain⟨d,l,n,rfl,hd,hk,h64,q⟩:=h;obtain⟨u,rfl,ru⟩:=f6 r;cases(ru);obtain⟨z,M,vs',rel,F⟩:=I.hok d _ hd;obtain⟨ep,hat⟩:=F.dictAt;have p:=(Pk rel).trans hk;have L:=by have:=congrArg Fu p;simpa using this
 refine KS.sorted_of (R:=λvs s1=>∃(h':Heap)(J:Nat),s1={ s with heap:=h',toks:=J}/\(∀b o,s.heap.get? b=ae o->h'.get? b=ae o)/\ir vs n)
  (kdu_collect (kdl_dict M) hh hat (ft ⋯) λh' J i' hk' hI=>⟨h',J,rfl,hk',?_⟩) ?_
 ·refine⟨by rw[Dg,hI.1,L],λj v N=>?_⟩;obtain⟨k,x,e1,e2⟩:=hI.2 j v (by simp_all);have B:(vs'.map (·.1))[j]?=ae k:=(Ap)▸e1▸rfl;rw[p,Ap]at B;cases eq:n[j]? with
  |none=>rw[eq]at B;cases B
  |some k0=>
   rw[eq]at B;have hk2:=B2 B;subst hk2;rcases iw (show j8 (Di k0) v=ah from e2)with⟨i,t,z,_⟩|⟨y,t,z,rfl⟩
   ·cases z
   ·cases z;simp
 rintro vs s1 ⟨h',J,rfl,hkp,K⟩
 have hl:=K.1;refine⟨hl▸ft ⋯,?_⟩;have V:(h'.push _).get? h'.objs.size=ae (Dy "list" vs.toArray 0):=Ar _ rfl;have U:∀(idx:List Nat) h3 c,idx.Perm _->(idx.map λi=>n.getD i _).Pairwise _->
   (∀b o,b≠h'.objs.size->(h'.push (Dy "list" vs.toArray 0)).get? b=ae o->h3.get? b=ae o)->h3.get? h'.objs.size=ae _->EP X E σ Q _ {s with heap:=h3,toks:=J}:=λidx h3 c hp hw k3 hL=>by
  have I1:Inv X E σ H {s with heap:=h',toks:=J}:=I.kept hkp;have Z:=I1.hok.fresh (Bh _);refine⟨.ref h'.objs.size,_,I1.laid (o:=.lst _) (λb o e=>k3 b o (Bb (Aq e)) (Ae _ e)) (by simp) ⟨?_,_,c,wZ K idx (λi Y=>B9.mp (hp.mem_iff.mp Y)),hL⟩,rfl,q _ _ (CY hp) hw Z⟩;rw[Ad,Ad,hp.length_eq,Es];exact ft ⋯
 by_cases h2:2<=vs.length
 ·refine KS.ls_sort V h2 ⋯ λe1 h4 P k4=>kas_kind (T:=Dl "str") h2 (λf hf=>?_) rfl rfl ?_
  ·obtain⟨j,N⟩:=B6.mp hf;obtain⟨k,t,_,rfl⟩:=K.2 j f N;exact .now
  ·have Z:0 < vs.length:=by omega
   have W:=KS.wi_sort Z;refine KS.wp_run (c:=KS.ltK n) (St:=λs'=>s'={ s with heap:=h4,toks:=J}) (λi j C s' Y N hs hC=>?_) _ _ W rfl λs' hs'=>?_
   ·subst hs;obtain⟨k1,t1,a1,a2⟩:=K.2 i vs[i] (Ai Y);obtain⟨k2,t2,b1,b2⟩:=K.2 j vs[j] (Ai N);unfold kas_ask;have g1:vs.getD i Bv=.str k1 t1:=by simp[Y,a2]
    have g2:vs.getD j Bv=.str k2 t2:=by simp[N,b2]
    rw[g1,g2];have c1:n.getD i ⟨#[]⟩=k1:=by simp[a1]
    have c2:n.getD j ⟨#[]⟩=k2:=by simp[b1]
    have:=hC _ rfl;unfold KS.ltK at this;rw[c1,c2]at this;exact kas_lt_str this
   ·subst hs';refine⟨P,λh3 c sb hL3=>⟨rfl,?_⟩⟩;have O:KS.Pm vs.length (KS.run (KS.ltK n) _):=KS.Wi.out _ W;have hidx:=by
     have:=G4.mp O;omega
    refine U _ h3 c (by grind) (sD O.size (KS.sort_ok (KS.ordK n) Z)) (λb o hb e=>(sb.2 b hb).trans (k4 b o hb e)) hL3
 ·refine KS.ls_short V ⋯ λh4 c P k4=>⟨rfl,?_⟩;have el:vs=(Bc n.length).map λi=>vs.getD i Bv:=by
   apply Ed (by simp[hl]);intro i h1 h2;simp[h1]
  have ha5:h4.get? h'.objs.size=ae (Dy "list" (E8 ((Bc n.length).map λi=>vs.getD i Bv)) c):=by rw[<-el];omega
  refine U _ h4 c (by simp) ?_ k4 ha5;have:(Bc n.length).length<=1:=by simp;omega
  match hr:Bc n.length,this with
  |[],_=>exact .nil
  |[i],_=>exact D2 _ _
end L2
namespace L2
open PySem PySem.Spec PyProof.Rows
section
variable{prog:A9}{w:Bj}{A:Bn}{E:Ag->Aj->Prop}{s:Aj}
theorem rQ(hit:s.heap.IsTupleIter it t i)(ht:s.heap.IsTuple t items)(hx:items[i]?=ae x)
  (hQ:∀h',h'.IsTupleIter it t (i+1)->Cu it s.heap h'->Q x {s with heap:=h'}):A2 (A8 prog w) A (Builtin.SmallTypes.nextOf (.ref it)) Q E s:=by
 obtain⟨o,b,e,a⟩:=id hit;obtain⟨f,c,_,g,d⟩:=ht;refine Aa (Bi hit.typeIs F5
  (Bs F5 hit.typeIs F.entry_tuple_iterator_next ?_ (by trivial)))
 show A2 _ _ (field _ 0>>=_) _ _ s;refine Aa (B3 b a (x:=.ref t) rfl (Aa (B3 b a rfl ?_)));refine Aa (Cb c d ?_);simp only[B8,hx];refine Aa (Cw b a (by simp) (Ah ⟨x,rfl,Ah (hQ _ ?_ (Bg ..))⟩));exact⟨_,Bq _ b (C4 (Bx a _)),(Et ..).trans e,by
  rw[Bx a];rfl⟩
theorem tG(hh:A.handled=af)(hit:s.heap.IsTupleIter it t i)(ht:s.heap.IsTuple t items)(hx:items[i]?=af)
  (hE:∀h' e,Heap.ExtBut it s.heap h'->(∃o,h'.get? e=ae o/\o.cls=.type "StopIteration")->E (.ref e) {s with heap:=h'}):
  A2 (A8 prog w) A (Builtin.SmallTypes.nextOf (.ref it)) Q E s:=by
 obtain⟨o,a,g,b⟩:=id hit;obtain⟨f,c,_,h,d⟩:=ht;refine Aa (Bi hit.typeIs F5
  (Bs F5 hit.typeIs F.entry_tuple_iterator_next ?_ (F.args_tuple_iterator_next_1 _)))
 show A2 _ _ (field _ 0>>=_) _ _ s;refine Aa (B3 a b (x:=.ref t) rfl (Aa (B3 a b rfl ?_)));refine Aa (Cb c d ?_);simp only[B8,hx];refine Aa (Fk (Aa (Cw a b (by simp) (Aa ?_))));refine Aa (By (Aa (Gm (by rfl) ?_)) (by size_fits));refine By (Aa (wpAny_handled ?_)) (by size_fits)
 first|rw[hh]|rw[hh]
 exact Aa (Ah (wpAny_throw (hE _ _ (((Bg ..).extBut.push _).push _) ⟨_,Ar _ rfl,rfl⟩)))
theorem Uj{z TI TO i1 i2 l1 l2:A_}{Q:Ag->Aj->Prop}(D:ZipApart z TI TO i1 i2 l1 l2)
  (hz:IsZip s.heap z TI TO .none) (hTI:E3 s.heap TI (.ref i1) (.ref i2)) (hTO:E3 s.heap TO a b)
  (h1:s.heap.IsTupleIter i1 l1 k) (h2:s.heap.IsTupleIter i2 l2 k) (hl1:s.heap.IsTuple l1 xs) (hl2:s.heap.IsTuple l2 ys) (hx:xs[k]?=ae x) (hy:ys[k]?=ae y)
  (hQ:∀h',IsZip h' z TI TO (Dh s.heap.objs.size)->E3 h' TO x y->h'.IsTupleIter i1 l1 (k+1)->h'.IsTupleIter i2 l2 (k+1)->E3 h' s.heap.objs.size x y->h'.objs.size=s.heap.objs.size+1->
   (∀c o,c≠z->c≠TO->c≠i1->c≠i2->s.heap.get? c=ae o->h'.get? c=ae o)->Q (.ref s.heap.objs.size) {s with heap:=h'}):
  A2 (A8 prog w) A (Ey.«zip.__next__» ⟨[.ref z],[]⟩) (λfin s'=>∃v,fin=.done (.ret v)/\Q v s') E s:=by
 show A2 _ _ (field _ 2>>=_) _ _ _;refine Aa (B3 hz rfl (x:=.bool ai) rfl (Aa (B3 hz rfl rfl ?_)));refine Aa (Cb hTI rfl (Aa ?_));refine Aa (B3 hz rfl rfl (Ah (Aa (Fk ?_))));refine Aa (B3 hz rfl rfl (Aa (Ek hz (by simp) λg1 f g=>?_)))
 replace f:IsZip g1 z TI TO .ellipsis:=f
 refine Aa (Aa (Aa (wpAny_onRaise ?_)));refine Aa (rQ (h1.extBut g.extBut D.i1z) (hl1.extBut g.extBut D.l1z) hx λg2 T i=>Ah ?_);have N:=i.extBut _ _ D.TOi1 (g.extBut _ _ D.TOz hTO);refine Aa (Cb N rfl (Aa (wpAny_updateSeq_pair N λg3 u j=>?_)))
 replace u:E3 g3 TO x b:=u
 refine Aa (wpAny_letGo (Ah (Aa (Aa (wpAny_onRaise ?_)))));refine Aa (rQ (((h2.extBut g.extBut D.i2z).extBut i.extBut D.i12.symm).extBut j.extBut D.TOi2.symm)
  (((hl2.extBut g.extBut D.l2z).extBut i.extBut D.l2i1).extBut j.extBut D.l2TO) hy λg4 S n=>Ah ?_)
 have K:=n.extBut _ _ D.TOi2 u;refine Aa (Cb K rfl (Aa (wpAny_updateSeq_pair K λg5 q m=>?_)))
 replace q:E3 g5 TO x y:=q
 refine Aa (wpAny_letGo (Ah (Ah (Aa (Cb q rfl ?_)))));refine Aa (wpAny_newTuple ?_);have O:g5.objs.size=s.heap.objs.size:=by rw[m.1,n.1,j.1,i.1,g.1]
 have J:=m.extBut _ _ D.TOz.symm (n.extBut _ _ D.i2z.symm (j.extBut _ _ D.TOz.symm (i.extBut _ _ D.i1z.symm f)));have P:∀c o,c≠z->c≠TO->c≠i1->c≠i2->s.heap.get? c=ae o->g5.get? c=ae o:=λc o d r H G e=>
  m.extBut _ _ r (n.extBut _ _ G (j.extBut _ _ r (i.extBut _ _ H (g.extBut _ _ d e))))
 have l:=Aq J;refine Aa ?_;have R:IsZip (g5.push {cls:=.type "tuple",data:=.seq #[x,y]}) z TI TO .ellipsis:=Ae _ J;refine Aa (Ek R (by simp) λg7 I C=>?_)
 replace I:IsZip g7 z TI TO (Dh g5.objs.size):=I
 refine Ek I (by simp) λg8 p F=>?_
 replace p:IsZip g8 z TI TO (Dh g5.objs.size):=p
 have t:∀c o,c≠z->g5.get? c=ae o->g8.get? c=ae o:=λc o d e=>F.extBut _ _ d (C.extBut _ _ d (Ae _ e));have M:=F.extBut _ _ (Ec l) (C.extBut _ _ (Ec l) (Ar _ rfl));have L:g8.objs.size=g5.objs.size+1:=by rw[F.1,C.1,Ci]
 rw[O]at p M L;refine Ah ⟨_,rfl,?_⟩;rw[O];exact hQ g8 p (t _ _ D.TOz q) ((((T.extBut j.extBut D.TOi1.symm).extBut n.extBut D.i12).extBut m.extBut D.TOi1.symm).at λo=>t _ o D.i1z) ((S.extBut m.extBut D.TOi2.symm).at λo=>t _ o D.i2z) M L λc o d r H G e=>t c o d (P c o d r H G e)
theorem ML{z TI TO i1 i2 l1 l2:A_}(hh:A.handled=af)(D:ZipApart z TI TO i1 i2 l1 l2)
  (hz:IsZip s.heap z TI TO .none) (hTI:E3 s.heap TI (.ref i1) (.ref i2)) (h1:s.heap.IsTupleIter i1 l1 k) (hl1:s.heap.IsTuple l1 xs) (hx:xs[k]?=af)
  (hE:∀h' e,(∀c o,c≠z->c≠i1->s.heap.get? c=ae o->h'.get? c=ae o)->(∃o,h'.get? e=ae o/\o.cls=.type "StopIteration")->E (.ref e) {s with heap:=h'}):
  A2 (A8 prog w) A (Ey.«zip.__next__» ⟨[.ref z],[]⟩) Q E s:=by
 show A2 _ _ (field _ 2>>=_) _ _ _;refine Aa (B3 hz rfl (x:=.bool ai) rfl (Aa (B3 hz rfl rfl ?_)));refine Aa (Cb hTI rfl (Aa ?_));refine Aa (B3 hz rfl rfl (Ah (Aa (Fk ?_))));refine Aa (B3 hz rfl rfl (Aa (Ek hz (by simp) λg1 b g=>?_)))
 replace b:IsZip g1 z TI TO .ellipsis:=b
 refine Aa (Aa (Aa (wpAny_onRaise ?_)));refine Aa (tG hh (h1.extBut g.extBut D.i1z) (hl1.extBut g.extBut D.l1z) hx λg2 e j m=>?_);obtain⟨n,a,d⟩:=m;have i:=j _ _ D.i1z.symm b;have f:e≠z:=λx=>by grind
 refine Ek i (by simp) λg3 _ l=>hE g3 e (λc o h p x=>l.extBut _ _ h (j _ _ p (g.extBut _ _ h x))) ⟨n,l.extBut _ _ f a,d⟩
theorem CI{z TI TO i1 i2 l1 l2:A_}(D:ZipApart z TI TO i1 i2 l1 l2)
  (hz:IsZip s.heap z TI TO .none) (hTI:E3 s.heap TI (.ref i1) (.ref i2)) (hTO:E3 s.heap TO a b)
  (h1:s.heap.IsTupleIter i1 l1 k) (h2:s.heap.IsTupleIter i2 l2 k) (hl1:s.heap.IsTuple l1 xs) (hl2:s.heap.IsTuple l2 ys) (hx:xs[k]?=ae x) (hy:ys[k]?=ae y)
  (hQ:∀h',IsZip h' z TI TO (Dh s.heap.objs.size)->E3 h' TO x y->h'.IsTupleIter i1 l1 (k+1)->h'.IsTupleIter i2 l2 (k+1)->E3 h' s.heap.objs.size x y->h'.objs.size=s.heap.objs.size+1->
   (∀c o,c≠z->c≠TO->c≠i1->c≠i2->s.heap.get? c=ae o->h'.get? c=ae o)->Q (ae (.ref s.heap.objs.size)) {s with heap:=h'}):
  A2 (A8 prog w) A (pyNext (.ref z)) Q E s:=by
 have d:s.TypeIs (.ref z) "zip":=⟨_,hz,rfl⟩;exact Aa (Eh (Bi d Gh
  (Bs Gh d F.entry_zip_next
   (Uj D hz hTI hTO h1 h2 hl1 hl2 hx hy λh' h f e j g i l=>Ah (hQ h' h f e j g i l)) (by trivial))))
theorem yd{z TI TO i1 i2 l1 l2:A_}(hh:A.handled=af)(D:ZipApart z TI TO i1 i2 l1 l2)
  (hz:IsZip s.heap z TI TO .none) (hTI:E3 s.heap TI (.ref i1) (.ref i2)) (h1:s.heap.IsTupleIter i1 l1 k) (hl1:s.heap.IsTuple l1 xs) (hx:xs[k]?=af)
  (hQ:∀h',(∀c o,c≠z->c≠i1->s.heap.get? c=ae o->h'.get? c=ae o)->Q af {s with heap:=h'}):A2 (A8 prog w) A (pyNext (.ref z)) Q E s:=by
 have a:s.TypeIs (.ref z) "zip":=⟨_,hz,rfl⟩;refine Aa (Eh (Bi a Gh
  (Bs Gh a F.entry_zip_next (ML hh D hz hTI h1 hl1 hx λh' e g f=>?_) (by trivial))))
 obtain⟨o,d,b⟩:=f;exact Aa (Ei ⟨o,d,b⟩ Gw (Ah (hQ _ g)))
end
abbrev qi(h:Heap)(l1:A_):Heap:=h.push {cls:=.type "tuple_iterator",data:=.fields #[.ref l1,.int 0 0]}
abbrev ro(h:Heap)(l1 l2:A_):Heap:=(qi h l1).push {cls:=.type "tuple_iterator",data:=.fields #[.ref l2,.int 0 0]}
abbrev p5(h:Heap)(l1 l2:A_):Heap:=(ro h l1 l2).push {cls:=.type "tuple",data:=.seq #[.ref h.objs.size,.ref (qi h l1).objs.size]}
abbrev r9(h:Heap)(l1 l2:A_):Heap:=(p5 h l1 l2).push {cls:=.type "tuple",data:=.seq #[.none,.none]}
abbrev mN(h:Heap)(l1 l2:A_):Heap:=(r9 h l1 l2).push {cls:=.type "zip",data:=.fields #[.none,.bool ai,.bool ai,.ref (ro h l1 l2).objs.size,.ref (p5 h l1 l2).objs.size]}
theorem Qg(l1 l2)(xs ys):
  Meets (Ey.«zip.__new__» ⟨[.type "zip",.ref l1,.ref l2],[]⟩) (λ_ R s=>s.heap.IsTuple l1 xs/\s.heap.IsTuple l2 ys /\
   R (.ok (.ret (.ref (r9 s.heap l1 l2).objs.size))) {s with heap:=mN s.heap l1 l2}):=
 .of_wp λprog w A R s h=>by
  obtain⟨k,g,d,m,j⟩:=s;obtain⟨f,e,h⟩:=h;have i:=sub_zip;have c:Heap.IsTuple (Shared.heap ⟨k.push {cls:=.type "tuple_iterator",data:=.fields #[.ref l1,.int 0 0]},g,d,m,j⟩) l2 ys:=Heap.IsTuple.push e _
  wp_walk using Dx f,Dx c
  exact⟨_,rfl,h⟩
section
variable{prog:A9}{w:Bj}{A:Bn}{E:Ag->Aj->Prop}{s:Aj}
theorem zV(hl1:s.heap.IsTuple l1 xs)(hl2:s.heap.IsTuple l2 ys)
  (h:∀h',IsZip h' (s.heap.objs.size+4) (s.heap.objs.size+2) (s.heap.objs.size+3) .none->E3 h' (s.heap.objs.size+2) (.ref s.heap.objs.size) (.ref (s.heap.objs.size+1))->
   E3 h' (s.heap.objs.size+3) .none .none->h'.IsTupleIter s.heap.objs.size l1 0->h'.IsTupleIter (s.heap.objs.size+1) l2 0->
   (∀c o,s.heap.get? c=ae o->h'.get? c=ae o)->Q (.ref (s.heap.objs.size+4)) {s with heap:=h'}):
  A2 (A8 prog w) A (call (.type "zip") [.ref l1,.ref l2]) Q E s:=by
 refine callType_new F.called_zip ∎ (F.typeCall_zip_2 _ _) (F.newCall_zip_2 _ _) (λobj=>F.args_object_init_3 obj _ _) F.entry_zip_new
  (Qg l1 l2 xs ys) ⟨hl1,hl2,?_⟩
 have e:(qi s.heap l1).objs.size=s.heap.objs.size+1:=Ci ..;have b:(ro s.heap l1 l2).objs.size=s.heap.objs.size+2:=by rw[Ci,e]
 have g:(p5 s.heap l1 l2).objs.size=s.heap.objs.size+3:=by rw[Ci,b]
 have n:(r9 s.heap l1 l2).objs.size=s.heap.objs.size+4:=by rw[Ci,g]
 have k:(mN s.heap l1 l2).get? (r9 s.heap l1 l2).objs.size=ae _:=Ar _ rfl;have l:(mN s.heap l1 l2).get? (p5 s.heap l1 l2).objs.size=ae _:=Ae _ (Ar _ rfl);have m:(mN s.heap l1 l2).get? (ro s.heap l1 l2).objs.size=ae _:=Ae _ (Ae _ (Ar _ rfl));have p:(mN s.heap l1 l2).get? (qi s.heap l1).objs.size=ae _:=Ae _ (Ae _ (Ae _ (Ar _ rfl)));have r:(mN s.heap l1 l2).get? s.heap.objs.size=ae _:=Ae _ (Ae _ (Ae _ (Ae _ (Ar _ rfl))));rw[b,g,n]at k;rw[e,b]at m;rw[g]at l;rw[e]at p;rw[n];exact⟨⟨_,k,rfl⟩,h _ k m l ⟨_,r,rfl,rfl⟩ ⟨_,p,rfl,rfl⟩ λc o x=>
  Ae _ (Ae _ (Ae _ (Ae _ (Ae _ x))))⟩
end
def z8(K:Af)(a b:A_):It:=
 ⟨λi H=>∃xs ys x y,SqT K H a xs/\SqT K H b ys/\xs[i]?=ae x/\ys[i]?=ae y,
  λi H v H'=>∃T x y,v=.ref T/\H T=af/\H'=upd H T (.tup [x,y])/\(∀xs,SqT K H a xs->xs[i]?=ae x)/\∀ys,SqT K H b ys->ys[i]?=ae y,
  λi H=>∃xs,SqT K H a xs/\xs.length<=i⟩
theorem Inv.many{σ:St}{s:Aj}{h':Heap}{fp:List A_}{a:A_}(I:Inv X h_ σ H s)(hf:∀b∈fp,cO X h_ H b)(k:∀b u,b∉fp->s.heap.get? b=ae u->h'.get? b=ae u)
  (ha:s.heap.objs.size<=a) (new:ObjOk X.prog X.w (upd H a o) h' a o):Inv X h_ σ (upd H a o) {s with heap:=h',toks:=t'}:=by
 have d:=I.hok.fresh ha;have f:∀b u,H b=ae u->b∉fp:=λb u e z=>by rw[(hf b z).1]at e;cases e
 refine I.call' rfl ⟨λb u q _ _ z=>k b u z q,λb u q _ _ z=>⟨_,k b u z q⟩,λb u q n _=>?_,λb u q z=>⟨u,k b u z q⟩,λb i q=>?_,λb u i q=>?_,λb r q=>⟨#[],?_⟩⟩ (λb u e=>?_) I.bare (λb j=>?_)
 ·rw[aX (Bb (Bd (Aq q) ha))];exact n
 ·rw[aX (b5 q d)];exact q
 ·rw[aX (b5 q d)];exact q
 ·rw[aX (b5 q d),q];simp
 ·by_cases z:b=a
  ·subst z;rw[br]at e;cases e;omega
  ·rw[aX z]at e;refine(I.hok b u e).stay (λc v m=>k c v ?_) (λc q=>?_) λc y q=>?_
   ·rcases m with z|z
    ·rw[z];exact f b u e
    ·exact f c _ z
   ·rw[aX (b5 q d)];exact q
   ·rw[aX (b5 q d)];exact q
 ·obtain⟨x,h,t,g,p,l⟩:=hf b j;exact⟨g,h,p,l⟩
theorem Inv.many0{σ:St}{fp:List A_}(I:Inv X h_ σ H s)(hf:∀b∈fp,cO X h_ H b)(k:∀b u,b∉fp->s.heap.get? b=ae u->h'.get? b=ae u):Inv X h_ σ H {s with heap:=h',toks:=t'}:=by
 have a:∀b u,H b=ae u->b∉fp:=λb u e z=>by rw[(hf b z).1]at e;cases e
 refine I.call' rfl ⟨λb u q _ _ z=>k b u z q,λb u q _ _ z=>⟨_,k b u z q⟩,λb u q n _=>n,λb u q z=>⟨u,k b u z q⟩,λb g q=>q,λb u g q=>q,λb m q=>⟨#[],by rw[q];simp⟩⟩ (λb u e=>?_) I.bare (λb h=>?_)
 ·refine(I.hok b u e).stay (λc v j=>k c v ?_) (λc q=>q) λc r q=>q;rcases j with z|z
  ·rw[z];exact a b u e
  ·exact a c _ z
 ·obtain⟨p,f,o,d,l,i⟩:=hf b h;exact⟨d,f,l,i⟩
theorem V4{K:Af}{a b z TI TO i1 i2:A_}(D:ZipApart z TI TO i1 i2 a b):Turn P w K (.Tuple elts kk pos) (z8 K a b) [z,TI,TO,i1,i2] z
  (λi h=>IsZip h z TI TO .none/\E3 h TI (.ref i1) (.ref i2)/\(∃x y,E3 h TO x y)/\h.IsTupleIter i1 a i/\h.IsTupleIter i2 b i) where
 mem:=by simp
 obj:=λi h j c d=>by
  obtain⟨g,f,⟨x,y,l⟩,⟨o1,e1,c1,d1⟩,⟨o2,e2,c2,d2⟩⟩:=j;simp only[Ao,A3,g_]at d;rcases d with rfl|rfl|rfl|rfl|rfl
  ·exact⟨_,g,λv q=>by trivial⟩
  ·exact⟨_,f,λv q=>by trivial⟩
  ·exact⟨_,l,λv q=>by trivial⟩
  ·exact⟨o1,e1,λv q=>by simp_all⟩
  ·exact⟨o2,e2,λv q=>by simp_all⟩
 keep:=λi h h' j k=>by
  obtain⟨g,f,⟨x,y,l⟩,m,r⟩:=j;exact⟨k z (by simp) _ g,k TI (by simp) _ f,⟨x,y,k TO (by simp) _ l⟩,m.at (k i1 (by simp)),r.at (k i2 (by simp))⟩
 item:=by
  intro X O Q G d i t s σ H E I A j J;subst O Q G;obtain⟨g,f,⟨x0,y0,l⟩,m,r⟩:=j;obtain⟨xs,ys,x,y,S,R,U,ey⟩:=J;obtain⟨F,C,p,_⟩:=I.tuple S;obtain⟨Y,B,p',_⟩:=I.tuple R;obtain⟨u,hu,ru⟩:=C.get U;obtain⟨u',N,L⟩:=B.get ey;refine CI D g f l m r (p) (p') (by simpa using hu) (by simpa using N) λh' a1 a2 a3 a4 a5 a6 T=>⟨_,rfl,wpAny_letOwnedTupleGo_zip a1 λh'' b1 n=>?_⟩;have V:∀c o,c∉[z,TI,TO,i1,i2]->s.heap.get? c=ae o->h''.get? c=ae o:=λc o d e=>by
   simp only[Ao,A3,g_,not_or]at d;exact n.extBut _ _ d.1 (T c o d.1 d.2.2.1 d.2.2.2.1 d.2.2.2.2 e)
  refine⟨.ref s.heap.objs.size,upd H s.heap.objs.size (.tup [x,y]),I.many A V (by simp) ⟨by show 2<=As;decide,[u,u'],.cons ru (.cons L .nil),_,(n.extBut _ _ (Ec (Aq g)) a5),rfl,⟨_,rfl⟩,rfl⟩,rfl,⟨_,x,y,rfl,(I.hok.fresh (by simp)),rfl,λzs q=>by rw[I.tuple_inj q S];exact U,λzs q=>by rw[I.tuple_inj q R];omega⟩,
   ⟨b1,n.extBut _ _ D.TIz (T _ _ D.TIz D.TITO D.TIi1 D.TIi2 f),⟨_,_,n.extBut _ _ D.TOz a2⟩,a3.extBut n.extBut D.i1z,a4.extBut n.extBut D.i2z⟩,λc d=>?_⟩
  have M:c < s.heap.objs.size:=by
   simp only[Ao,A3,g_]at d;rcases d with rfl|rfl|rfl|rfl|rfl
   ·exact Aq g
   ·exact Aq f
   ·exact Aq l
   ·obtain⟨_,e,_⟩:=m;exact Aq e
   ·obtain⟨_,e,_⟩:=r;exact Aq e
  rw[aX (Bb M)];exact(A c d).1
 done:=by
  intro X O Q G d i t s σ H E I A j J;subst O Q G;obtain⟨g,f,_,m,r⟩:=j;obtain⟨xs,Z,hx⟩:=J;obtain⟨F,C,p,_⟩:=I.tuple Z;have hl:=C.length;refine yd (I.ok.hd d) D g f m (p) (by simp;omega) λh' k=>⟨rfl,I.many0 A λc o d e=>?_⟩;simp_all
 self:=λ_ _ _ _ _ j=>wpAny_pyIter_zip j.1
def mR(K:Af)(ta:TA):TI:=λσ H R=>ta σ H λvs H1=>∃a b,vs=[.ref a,.ref b]/\(∃xs,SqT K H1 a xs)/\(∃ys,SqT K H1 b ys)/\R (z8 K a b) H1
theorem Hg:Br "zip"=ae (.type "zip"):=by rfl
theorem Oe{elts:List Expr}{kk:Nat}{tpos:Pos}{p pos:Pos}(hg:Gl X "zip")(hm:X.mg "zip"=af)(ha:PA X [e1,e2] ta)(hs:Au [e1,e2] X.env=[(ai,eval e1 X.env),(ai,eval e2 X.env)]:=by rfl)(hs2:Au [e2] X.env=[(ai,eval e2 X.env)]:=by rfl):
  PI X (.Tuple elts kk tpos) (.Call (.Name "zip" p) [e1,e2] [] pos) (mR X.K ta):=by
 intro i s σ H R I h;refine Call_ (lE I hg hm Hg (Du (aP (ha pos i s σ H _ I h) λus k p=>?_) (by simp_all) (hs2▸rfl)));obtain⟨L,v,d,z,o⟩:=p;obtain⟨a,b,e,⟨M,G⟩,⟨O,C⟩,q⟩:=o;subst e;cases z with
 |cons r j=>
  cases j with
  |cons y j=>
   cases j;cases r;cases y;obtain⟨A,J,l,_⟩:=d.tuple G;obtain⟨n,u,f,_⟩:=d.tuple C;have x:a < k.heap.objs.size:=by obtain⟨_,e,_⟩:=id l;exact Aq e
   have B:b < k.heap.objs.size:=by obtain⟨_,e,_⟩:=id f;exact Aq e
   refine zV (l) (f) λh' m D t w E F=>wpAny_pyIter_zip m ⟨_,_,_,_,v,rfl,d.kept F,V4 (zipApart_new x B),⟨m,D,⟨_,_,t⟩,w,E⟩,λc N=>?_,q⟩;have g:k.heap.objs.size<=c:=by
    grind
   exact d.fpOk g (d.hok.fresh g)
end L2
namespace DL
open PySem L2 Nb
def b9(kvs:List (aJ×Ab))(k:aJ):Option Ab:=(kvs.find? λkv=>decide (kv.1=k)).map (·.2)
def gf(kvs:List (aJ×Ab))(k:aJ)(v:Ab):List (aJ×Ab):=
 if (kvs.any λkv=>decide (kv.1=k))=ah then kvs.map (λkv=>if kv.1=k then(kv.1,v)else kv)else kvs++[(k,v)]
def qe(kvs more:List (aJ×Ab)):List (aJ×Ab):=more.foldl (λi' kv=>gf i' kv.1 kv.2) kvs
section
variable{H H':Hp}{B B':A_->Prop}{l:List (aJ×V)}{m:List (aJ×Ab)}{v:V}{d:Ab}{t:A_}
theorem RdK.len(h:RdK H B l m):l.length=m.length:=by
 induction h with
 |nil=>rfl
 |cons _ _ a=>rw[Ax,Ax,a]
theorem RdK.val(h:RdK H B l m)(k):(cy l k=af/\b9 m k=af)\/∃v d,cy l k=ae v/\b9 m k=ae d/\RdX H B v d:=by
 induction h with
 |nil=>exact .inl ⟨rfl,rfl⟩
 |@cons p q b a r _ i=>
  by_cases e:p.1=k
  ·have g:=r.1▸e;exact .inr ⟨p.2,q.2,by simp[cy,e],by simp[b9,g],r.2⟩
  ·have f:cy (p::b) k=cy b k:=by simp[cy,e]
   have c:b9 (q::a) k=b9 a k:=by simp[b9,(r.1▸e)]
   rw[f,c];omega
theorem RdK.any(h:RdK H B l m)(k):(l.any λkv=>decide (kv.1=k))=(m.any λkv=>decide (kv.1=k)):=by
 induction h with
 |nil=>rfl
 |cons r _ a=>rw[C5,C5,a,r.1]
theorem RdK.map(h:RdK H B l m)(r:RdX H B v d)(k):RdK H B (l.map λkv=>if kv.1=k then(kv.1,v)else kv) (m.map λkv=>if kv.1=k then(kv.1,d)else kv):=by
 induction h with
 |nil=>exact .nil
 |@cons p q f c a _ b=>
  rw[Ba,Ba];refine .cons ?_ b;by_cases e:p.1=k
  ·rw[a' e,a' (a.1▸e:q.1=k)];exact⟨a.1,r⟩
  ·rw[a_ e,a_ (a.1▸e:¬q.1=k)];omega
theorem RdK.append(h:RdK H B l m)(h2:RdK H B l2 m2):RdK H B (l++l2) (m++m2):=by
 induction h with
 |nil=>exact h2
 |cons b _ a=>exact .cons b a
theorem RdK.put(h:RdK H B l m)(r:RdX H B v d)(k):RdK H B (b4 l k v) (gf m k d):=by
 unfold b4 gf;rw[h.any k]
 split
 ·exact h.map r k
 ·exact h.append (.cons ⟨rfl,r⟩ .nil)
theorem RdK.merge(h2:RdK H B l2 m2):∀{l:List (aJ×V)}{m:List (aJ×Ab)},RdK H B l m->RdK H B (lg l l2) (qe m m2):=by
 induction h2 with
 |nil=>intro l m h;exact h
 |@cons p q b c r _ a=>
  intro l m h;show RdK H B (lg (b4 l p.1 p.2) b) _;rw[r.1];exact a (h.put r.2 _)
theorem Hs(l:List (aJ×V))(k)(v):(b4 l k v).length<=l.length+1:=by
 unfold b4
 split
 ·rw[Ad];omega
 ·rw[An];exact Bh _
theorem UZ(l2:List (aJ×V)):∀l:List (aJ×V),(lg l l2).length<=l.length+l2.length:=by
 induction l2 with
 |nil=>exact λl=>Bh _
 |cons p r a=>
  intro l;show(lg (b4 l p.1 p.2) r).length<=_;have:=a (b4 l p.1 p.2);have:=Hs l p.1 p.2;simp<;>omega
end
section
variable{X:Cx}{a b c e o i f:Expr}{ta tb te td ty tx:TE}{wa wb we wd' wy wx:DT}{pos p:Pos}{K:Af}
def dZ(i:Nat):DT:=λδ n Q=>match δ[i]? with
 |some (ae (.odk kvs))=>Q (.dk kvs) n
 |some (ae (.w x))=>Q x n
 |_=>False
theorem Ma(i)(hN:X.N[i]?=ae x:=by rfl)(hv:ej X.env.scope x:=by first|exact Cc rfl|exact Bo (Cc rfl)|exact Bo (Bo rfl))(hd:(x==("__debug__":Str))=ai:=by decide)
  (q_:(x==("__classdict__":Str))=ai:=by decide):DE X (.Name x p) (bM i) (dZ i):=⟨eZ hN hv hd q_,λC H B σ δ n Q m R h k=>by
 unfold dZ at h
 split at h
 ·rename_i b e;obtain⟨v,c,a,l,rfl,j,o,g,q,f⟩:=R.sl i _ e;exact⟨_,c,k _ (.dk b) H n R (Kp.refl _ _) ⟨a,l,rfl,j,λz=>R.t0 (z▸g),f⟩ h⟩
 ·rename_i x e;obtain⟨v,c,d⟩:=R.sl i _ e;exact⟨v,c,k v x H n R (Kp.refl _ _) d.1 h⟩
 ·exact h.elim⟩
def gp:Wv->Wv->Int->DQ->Prop:=λx y n Q=>match x,y with
 |.dk kvs,.d (.str k)=>match b9 kvs (.inr k)with
  |some d=>Q (.d d) n
  |none=>False
 |_,_=>False
theorem MH(hu:X.A.units+64 < Co)(ho:DE X o td wd')(hi:DE X i ty wy)(hs:iu i:=by exact λ_ _=>rfl):DE X (.Subscript o i pos) (FZ td ty) (w2 wd' wy gp):=⟨NS ⋯ ho.pe hi.pe hs,λC H B σ δ n Q K R h k=>
 ho.sd C H B σ δ n _ _ R h λv x t w j J D q=>hi.sd C t B σ δ w _ _ j q λu y g s z f F c=>by
  unfold gp at c
  split at c
  ·rename_i p b;obtain⟨a,l,rfl,I,L,E⟩:=(D.kp f j.bt);cases(show RdX g B u (.str b)from F);rcases E.val (.inr b)with⟨m,e⟩|⟨v,d,m,e,r⟩
   ·rw[e]at c;exact c.elim
   ·rw[e]at c;exact⟨a,v,rfl,.inl ⟨l,.inr b,.inl I,rfl,m.symm⟩,k v (.d d) g s z (J.trans f) r c⟩
  ·exact c.elim⟩
def eI(neg:Bool):Wv->Wv->Int->DQ->Prop:=λx y n Q=>match x,y with
 |.d (.str k),.dk kvs=>Q (.d (.bool (if neg then !(b9 kvs (.inr k)).isSome else(b9 kvs (.inr k)).isSome))) n
 |_,_=>False
theorem UR(hi:DE X i ty wy)(ho:DE X o td wd'):dY (lP ty td) (w2 wy wd' (eI ai)):=λC H B σ δ n Q J R h k=>
 hi.sd C H B σ δ n _ _ R h λv x s t m G z q=>ho.sd C s B σ δ t _ _ m q λu y j r w g D c=>by
  unfold eI at c
  split at c
  ·rename_i b p;obtain⟨a,l,rfl,F,K,A⟩:=D;cases(show RdX j B v (.str b)from(z.kp g m.bt));refine⟨a,_,rfl,.inl ⟨l,.inr b,.inl F,rfl,rfl⟩,k _ _ j r w (G.trans g) (wd (.bl _)) ?_⟩;rcases A.val (.inr b)with⟨f,e⟩|⟨v,d,f,e,I⟩
   ·rw[f];rw[e]at c;exact c
   ·rw[f];rw[e]at c;exact c
  ·exact c.elim
theorem JN(hi:DE X i ty wy)(ho:DE X o td wd'):dY (nr ty td) (w2 wy wd' (eI ah)):=λC H B σ δ n Q J R h k=>
 hi.sd C H B σ δ n _ _ R h λv x s t m G z q=>ho.sd C s B σ δ t _ _ m q λu y j r w g D c=>by
  unfold eI at c
  split at c
  ·rename_i b p;obtain⟨a,l,rfl,F,K,A⟩:=D;cases(show RdX j B v (.str b)from(z.kp g m.bt));refine⟨a,_,rfl,.inl ⟨l,.inr b,.inl F,rfl,rfl⟩,k _ _ j r w (G.trans g) (wd (.bl _)) ?_⟩;rcases A.val (.inr b)with⟨f,e⟩|⟨v,d,f,e,I⟩
   ·rw[f];rw[e]at c;exact c
   ·rw[f];rw[e]at c;exact c
  ·exact c.elim
theorem Ii(hu:X.A.units+64 < Co)(hi:DE X i ty wy)(ho:DE X o td wd')(hm:Ce .In o=ai:=by with_unfolding_all rfl):DE X (.Compare i [.In] [o] pos) (lP ty td) (w2 wy wd' (eI ai)):=⟨va (JG ⋯ hi.pe ho.pe) hm,UR hi ho⟩
theorem Lc(hu:X.A.units+64 < Co)(hi:DE X i ty wy)(ho:DE X o td wd')(hm:Ce .NotIn o=ai:=by with_unfolding_all rfl):DE X (.Compare i [.NotIn] [o] pos) (nr ty td) (w2 wy wd' (eI ah)):=⟨va (yu ⋯ hi.pe ho.pe) hm,JN hi ho⟩
def WQ(wd wy wx:DT):DT:=λδ n Q=>wd δ n λx n1=>match x with
 |.dk kvs=>wy δ n1 λy n2=>wx δ n2 λz n3=>match y,z with
  |.d (.str k),.d z=>Q (.d ((b9 kvs (.inr k)).getD z)) n3
  |_,_=>False
 |_=>False
abbrev j3:=Sl->Int->(List (aJ×Ab)->Int->Prop)->Prop
def w8(t:TE)(w:j3):Prop:=∀(C:Ctx)(H:Hp)(B:A_->Prop)(σ:St)(δ:Sl)(n:Int)(Q:List (aJ×Ab)->Int->Prop)(Q':VK),Rel C H B σ δ n->w δ n Q->
 (∀a l kvs H' n',Rel C H' B σ δ n'->Kp C.t H H'->H a=af->H' a=ae (.dK l)->l.length<=1000->RdK H' (λb=>B b\/b=a) l kvs->Q kvs n'->Q' (.ref a) H')->t σ H Q'
structure DN(X:Cx)(e:Expr)(t:TE)(w:j3):Prop where
 pe:PE X e t
 sd:w8 t w
def kO:j3:=λ_ n Q=>Q [] n
theorem V7:DN X (.Dict [] [] pos) AX kO:=⟨Rz,λC H B σ δ n Q c R q k=>λa b=>k a [] [] _ n (R.new b) (Kp.new b) b br ∎ .nil q⟩
def lz:List Ab->Option (List (aJ×Ab))
 |[]=>ae []
 |.tuple [.str k,d]::r=>(lz r).map ((.inr k,d)::·)
 |_=>af
theorem y9:∀{xs:List V}{ds:List Ab}{ps:List (aJ×Ab)},RdXs H B xs ds->lz ds=ae ps->∃qs:List (A_×aJ×V),xs=qs.map (λp=>V.ref p.1)/\(∀p∈qs,H p.1=ae (.tup [kV p.2.1,p.2.2]))/\RdK H B (qs.map (·.2)) ps
 |_,_,ps,.nil,h=>by
  cases h;exact⟨[],rfl,λp b=>f_ b A3,Paired.nil⟩
 |_,_,ps,.cons (ds:=ds) j h2,h=>by
  unfold lz at h
  split at h
  ·rename_i e;cases e
  ·rename_i k t r e;cases e;cases c:lz ds with
   |none=>rw[c]at h;cases h
   |some f=>
    rw[c]at h;cases h;obtain⟨qs,m,g,i⟩:=y9 h2 c;cases j with
    |@tup a v _ q w u n=>
     cases n with
     |cons d l=>
      cases l with
      |cons s o=>
       cases o;cases d;refine⟨(a,.inr k,_)::qs,m▸rfl,λp b=>?_,.cons ⟨rfl,s⟩ i⟩;rcases Ao.mp b with rfl|z
       ·exact q
       ·exact g p z
  ·cases h
def ER:List V->Hp->VK->Prop:=λxs H Q=>∃(src:A_)(ps:List (A_×aJ×V)),xs=[.ref src]/\H src=ae (.tup (ps.map λp=>V.ref p.1))/\(∀p∈ps,H p.1=ae (.tup [kV p.2.1,p.2.2]))/\ps.length<=1000 /\
  ∀l,H l=af->Q (.ref l) (L2.upd H l (.dK (lg [] (ps.map (·.2)))))
def ju(w:DT):j3:=λδ n Q=>w δ n λx n1=>match x with
 |.d (.tuple ds)=>match lz ds with
  |some ps=>ds.length<=1000/\Q (qe [] ps) n1
  |none=>False
 |_=>False
theorem xx(hh:X.A.handled=af)(hg:Gl X "dict")(hm:X.mg "dict"=af)(he:DE X e te we)(hv:Br "dict"=ae (.type "dict"):=by decide +kernel)
  (he':Au [e] X.env=(ai,eval e X.env)::Au [] X.env:=by rfl) (p_:(C6 pos (Au [] X.env)).any (·.1)=ai:=by rfl):DN X (.Call (.Name "dict" p) [e] [] pos) (fM ER (cU te bP)) (ju we):=
 ⟨mM (P0 hh) hg hm hv (cj he.pe dG he') ∎ ∎ he' p_,λC H B σ δ n Q K R q k=>
  he.sd C H B σ δ n _ _ R q λv x u y g i E d=>by
   split at d
   ·rename_i m
    split at d
    ·rename_i J w;cases(show RdX u B v (.tuple m)from E)with
     |@tup a M _ I N L h=>
      obtain⟨f,D,r,s⟩:=y9 h w;subst D;have j:f.length<=1000:=by have:=h.len;simp_all
      refine⟨a,f,rfl,I,r,j,λl c=>k l _ _ _ y (g.new c) (i.trans (Kp.new c)) (g.was i c) br ?_ ?_ d.2⟩
      ·have:=UZ (f.map (·.2)) [];rw[Ad]at this;have z:([]:List (aJ×V)).length=0:=rfl;omega
      ·exact RdK.merge (s.move λb o e n=>⟨(aX (b5 e c))▸e,λz=>z.elim n (b5 e c)⟩) .nil
    ·exact d.elim
   ·exact d.elim⟩
def jT(i:Nat)(w:j3):aE:=λδ n K=>w δ n λkvs n1=>K.nx (δ.set i (ae (.odk kvs))) n1
theorem Oc{i:Nat}(hN:X.N.Nodup)(hi:X.N[i]?=ae x)(hx:gB X.env.scope x)(he:DN X e te w)(hs:Cp e (ae (.Name x pos')) pos.line X.env=pure ai:=by rfl)(hf:X.fn x=ah\/X.env.scope.names.lookup x=ae .local:=by first|exact .inl rfl|exact .inr rfl|assumption):
  DS X (.Assign [.Name x pos'] e pos) (bX te (fc i)) (jT i w):=⟨gx hN hi hx he.pe hs hf,λC H B σ δ n K D R q E=>
 he.sd C H B σ δ n _ _ R q λa l g m o j k b c d f h=>by
  refine E.nx _ _ _ _ _ (R.own j k b (by rw[c];simp) rfl ?_) h;exact⟨a,l,rfl,c,.inr rfl,R.h0 b,d,f⟩⟩
def lZ(i:Nat)(wy wv:DT):aE:=λδ n K=>match δ[i]? with
 |some (ae (.odk kvs))=>wv δ n λv n1=>wy δ n1 λy n2=>match v,y with
  |.d d,.d (.str k)=>kvs.length < 1000/\K.nx (δ.set i (ae (.odk (gf kvs (.inr k) d)))) n2
  |_,_=>False
 |_=>False
theorem Li{i:Nat}{xp sp:Pos}(hu:X.A.units+64 < Co)(hN:X.N[i]?=ae x)(hj:DE X j tj wj)(he:DE X e te we)(hv:ej X.env.scope x:=by first|exact Cc rfl|exact Bo (Cc rfl)|exact Bo (Bo rfl))(hd:(x==("__debug__":Str))=ai:=by decide)
  (q_:(x==("__classdict__":Str))=ai:=by decide) (hs:Cp e (ae (.Subscript (.Name x xp) j sp)) pos.line X.env=pure ai:=by rfl):
  DS X (.Assign [.Subscript (.Name x xp) j sp] e pos) (tW (bM i) tj te) (lZ i wj we):=
 ⟨GL ⋯ (eZ hN hv hd q_) hj.pe he.pe hs,λC H B σ δ n K D R q E=>by
  unfold lZ at q
  split at q
  ·rename_i I F;refine he.sd C H B σ δ n _ _ R q λu y O P h Z T L=>?_;obtain⟨v,hv,a,l,rfl,Q,p,r,W,J⟩:=h.sl i _ F;refine⟨_,hv,hj.sd C O B σ δ P _ _ h L λw z M Y S m U g=>?_⟩
   split at g
   ·rename_i d c;cases(show RdX M B w (.str c)from U);have s:a≠C.t:=λz=>R.t0 (z▸r);have f:=J.move λb o e n=>⟨m b o e λz=>n (z▸h.bt),n⟩;have G:l.length < 1000:=by rw[f.len];exact g.1
    refine⟨a,_,rfl,DPut.k (k:=.inr c) (m _ _ Q s) (Bd G ∎),E.nx _ _ _ _ _ (S.mutOwn F rfl hv p r ?_ rfl) g.2⟩;refine⟨a,_,rfl,br,p,r,?_,?_⟩
    ·have:=Hs l (.inr c) u;omega
    ·exact(f.put (T.kp m h.bt) _).move λb o e n=>⟨(aX λ(z:b=a)=>n (z▸p))▸e,n⟩
   ·exact g.elim
  ·exact q.elim⟩
def mI(i:Nat)(w:DT):DT:=λδ n Q=>w δ n λx n1=>match x,δ[i]? with
 |.d a,ae (ae (.own ds))=>fo a=ah/\ds.all fo=ah/\Q (.d (.bool (cW a ds))) n1
 |_,_=>False
theorem KW{i:Nat}(h:dY ta wa):dY (dQ (ib K ai) ta (bM i)) (mI i wa):=λC H B σ δ n Q r R q k=>
 h C H B σ δ n _ _ R q λv x g l d p f b=>by
  split at b
  ·rename_i w y e;obtain⟨u,j,a,m,rfl,o,t,s,z,c⟩:=d.sl i _ e;refine⟨_,j,a,m,rfl,.inl (SqL.of o),kl f b.1,j2 c b.2.1,k _ _ g l d p (wd (.bl _)) ?_⟩;rw[lC f c];exact b.2.2
  ·exact b.elim
theorem UW(i){x:Str}{xp:Pos}(ha:DE X a ta wa)(hK:X.K=K:=by rfl)(hN:X.N[i]?=ae x:=by rfl)(hv:ej X.env.scope x:=by first|exact Cc rfl|exact Bo (Cc rfl)|exact Bo (Bo rfl))(hd:(x==("__debug__":Str))=ai:=by decide)
  (q_:(x==("__classdict__":Str))=ai:=by decide) (hm:Ce .In (Expr.Name x xp)=ai:=by with_unfolding_all rfl):DC X (.Compare a [.In] [.Name x xp] pos) (iB (dQ (ib K ai) ta (bM i))) (cT (mI i wa)):=
 ⟨ke (wH hK) ha.pe (eZ hN hv hd q_) hm,j4 (KW ha.sd)⟩
end
section
variable{X:Cx}{a b c e o i f:Expr}{ta tb te td ty tx:TE}{wa wb we wd' wy wx:DT}{pos p:Pos}{K:Af}
def cg(ps:List (Str×Ab)):List (aJ×Ab):=ps.map λp=>(Di p.1,p.2)
def ja(ps:List (Str×Ab)):Prop:=ps.Pairwise λa b=>¬b.1.cps.toList < a.1.cps.toList
def Hi(w:DT):dq:=λδ n Q=>w δ n λx n1=>match x with
 |.dk kvs=>∃ps:List (Str×Ab),kvs=cg ps/\ps.length < 64/\(ps.map (·.1)).Nodup/\(∀p∈ps,p.1.length<=1000/\fo p.2=ah)/\∀ps':List (Str×Ab),ps'.Perm ps->ja ps'->Q (ps'.map λp=>.tuple [.str p.1,p.2]) n1
 |_=>False
theorem sX:∀{l:List (aJ×V)}{ps:List (Str×Ab)},RdK H B l (cg ps)->∃xv:List V,xv.length=ps.length/\l=(((ps.map (·.1)).zip xv).map λp=>((Di p.1:aJ),p.2))/\RdXs H B xv (ps.map (·.2))
 |[],[],_=>⟨[],rfl,rfl,.nil⟩
 |[],_::_,h=>nomatch h
 |_::_,[],h=>nomatch h
 |q::l,p::ps,.cons r h=>by
  obtain⟨xv,c,b,a⟩:=sX h;refine⟨_,by simp[c],?_,.cons r.2 a⟩;rw[b];have d:q.1=(Di p.1:aJ):=r.1;have:q=((Di p.1:aJ),q.2):=by rw[<-d]
  rw[this];rfl
def Tq:V->List V->Hp->VK->Prop:=λx vs H Q=>∃d kvs,x=.ref d/\vs=[]/\H d=ae (.dK kvs)/\∀v,H v=af->Q (.ref v) (upd H v (kj d v))
theorem zQ{α β:Type}{f:α->β}{l:List α}{i:Nat}{x:α}{y:β}(h:i < l.length):(l.map f).getD i y=f (l.getD i x):=by simp[h]
theorem IX{ap ip:Pos}(hh:X.A.handled=af)(hg:Gl X "sorted")(hm:X.mg "sorted"=af)(ho:DE X o td wd')(hv:Br "sorted"=ae (.builtin "sorted"):=by decide +kernel)(hK:X.K=K:=by rfl)
  (hbase:Gi o "items" X.env (eval o X.env)=eval o X.env:=by rfl) (hline:(ap.endLine==ip.line)=ah:=by rfl)
  (he':Au [Expr.Call (.Attribute o "items" ap) [] [] ip] X.env=(ai,eval (Expr.Call (.Attribute o "items" ap) [] [] ip) X.env)::Au [] X.env:=by rfl) (p_:(C6 pos (Au [] X.env)).any (·.1)=ai:=by rfl):
  DF X (.Call (.Name "sorted" p) [.Call (.Attribute o "items" ap) [] [] ip] [] pos) (fM zB (cU (m4 K "dict" Tq td) bP)) (Hi wd'):=by
 subst hK;refine⟨j7 (Iz hh) hg hm hv (cj (Vt PySem.F.plainAttrs_dict PySem.F.slot_dict_items PySem.F.type_dict_items Kg ho.pe hbase hline) dG he') ∎ ∎ he' p_,λC H B σ δ n Q Q' R q k=>
  ho.sd C H B σ δ n _ _ R q λv x N n1 R1 k1 r1 J=>?_⟩
 cases x with
 |d _=>exact J.elim
 |tp=>exact J.elim
 |ln _=>exact J.elim
 |ob _=>exact J.elim
 |dx _=>exact J.elim
 |dk kvs=>
  obtain⟨a,l,rfl,Y,g2,g3⟩:=r1;obtain⟨c,rfl,h64,nd,M,kq⟩:=J;obtain⟨E,ex1,ex2,T⟩:=sX g3;refine⟨.inr (.inr (.inl ⟨rfl,.inl ⟨l,Y⟩⟩)),a,l,rfl,rfl,Y,λv hv=>?_⟩;have R2:=R1.new (o:=kj a v) hv;have kp2:Kp C.t N (upd N v (kj a v)):=Kp.new hv;refine⟨v,a,_,E,rfl,br,by rw[Ad,ex1],by rw[aX (b5 Y hv),Y,ex2],by rw[Ad];exact h64,nd,j2 T ?_,λD u s U Z g O sm hD has hD' hit=>?_⟩
  ·rw[Bu];intro d hd;obtain⟨p,hp,rfl⟩:=A6.mp hd;exact(M p hp).2
  ·rw[Ad]at Z g;have hDn:=R1.was k1 (by
    cases q:N D with
    |none=>rfl
    |some o=>
     have:upd N v (kj a v) D=ae o:=(aX (b5 q hv))▸q;rw[hD]at this;cases this)
   have I:∀i∈s,i < c.length:=λi W=>B9.mp (g.mem_iff.mp W);have lidx:s.length=c.length:=by rw[g.length_eq,Es]
   refine k D _ _ U n1 (R2.same sm) ((k1.trans kp2).trans λb o e _=>sm b o e) hDn hD' (by rw[Ad];exact ft ⋯) ?_ (kq (s.map λi=>c.getD i (⟨#[]⟩,.none)) ?_ ?_)
   ·rw[B7];have l_:∀m:List Nat,(∀i∈m,i∈s)->RdXs U (λb=>B b\/b=D) (m.map λi=>V.ref (fO u (c.map (·.1)) E i).1) (m.map ((λp=>Dn [.str p.1,p.2]) ∘ λi=>c.getD i (⟨#[]⟩,.none))):=by
     intro m
     induction m with
     |nil=>exact λ_=>.nil
     |cons i r ih=>
      intro hm;have W:=hm i Am;have w:=I i W;refine .cons ?_ (ih λj hj=>hm j (Ak _ hj));have ht:=hit i W;have L:i < u.length:=by simp_all
      have eA:(fO u (c.map (·.1)) E i).1=u[i]:=by show u.getD i 0=_;simp[L]
      have eK:(fO u (c.map (·.1)) E i).2.1=c[i].1:=by show(c.map (·.1)).getD i _=_;simp[w]
      have S:i < E.length:=by simp_all
      have eX:(fO u (c.map (·.1)) E i).2.2=E[i]:=by show E.getD i .non=_;simp[S]
      rw[eA,eK,eX]at ht;show RdX U _ (.ref (fO u _ E i).1) _;rw[eA];have eP:c.getD i (⟨#[]⟩,.none)=c[i]:=by simp[w]
      show RdX U _ _ (.tuple [.str (c.getD i _).1,(c.getD i _).2]);rw[eP];have nD:u[i]≠D:=λz=>by simp_all
      refine .tup ht (λz=>z.elim (R2.nb (has u[i] (by simp))) nD) (by show 2<=As;decide) (.cons (.str _ (ft (M c[i] (by simp)).1)) (.cons ?_ .nil));obtain⟨d,f1,f2⟩:=T.get (Ai S);rw[Ap,Ai w]at f1;cases f1;exact f2.move λb o e n=>⟨sm b o ((aX (b5 e hv))▸e),λz=>z.elim n λq=>by
       have e2:upd N v (kj a v) b=ae o:=(aX (b5 e hv))▸e
       simp_all⟩
    exact l_ s λ_ h=>h
   ·have h1:=g.map λi=>c.getD i ((⟨#[]⟩:Str),PyData.none);have h2:(Bc c.length).map (λi=>c.getD i ((⟨#[]⟩:Str),PyData.none))=c:=by
     apply Ed (by simp);intro i h1 h2;simp[h2]
    rw[h2]at h1;omega
   ·unfold ja;rw[Fl];rw[Fl]at O;refine List.Pairwise.imp_of_mem (λ{x y} hx hy h=>?_) O;rw[zQ (I x hx),zQ (I y hy)]at h;exact h
def xQ(w:DT):dq:=λδ n Q=>w δ n λx n1=>match x with
 |.dk kvs=>∃ps:List (Str×Ab),kvs=cg ps/\ps.length < 64/\(∀p∈ps,p.1.length<=1000)/\∀ys:List Str,ys.Perm (ps.map (·.1))->ys.Pairwise (λa b=>¬b.cps.toList < a.cps.toList)->Q (ys.map .str) n1
 |_=>False
theorem nG:∀{ys:List Str},(∀y∈ys,y.length<=1000)->RdXs H B (ys.map V.str) (ys.map .str)
 |[],_=>.nil
 |y::r,h=>.cons (.str _ (ft (h y Am))) (nG λz a=>h z (Ak _ a))
theorem OL(hh:X.A.handled=af)(hg:Gl X "sorted")(hm:X.mg "sorted"=af)(ho:DE X o td wd')(hv:Br "sorted"=ae (.builtin "sorted"):=by decide +kernel)
  (he':Au [o] X.env=(ai,eval o X.env)::Au [] X.env:=by rfl) (p_:(C6 pos (Au [] X.env)).any (·.1)=ai:=by rfl):
  DF X (.Call (.Name "sorted" p) [o] [] pos) (fM BX (cU td bP)) (xQ wd'):=by
 refine⟨j7 (Ve hh) hg hm hv (cj ho.pe dG he') ∎ ∎ he' p_,λC H B σ δ n Q O R q k=>
  ho.sd C H B σ δ n _ _ R q λv x N E s u I b=>?_⟩
 cases x with
 |d _=>exact b.elim
 |tp=>exact b.elim
 |ln _=>exact b.elim
 |ob _=>exact b.elim
 |dx _=>exact b.elim
 |dk z=>
  obtain⟨a,l,rfl,L,V,J⟩:=I;obtain⟨r,rfl,f,i,K⟩:=b;obtain⟨F,j,g,w⟩:=sX J;refine⟨a,l,r.map (·.1),rfl,L,?_,by rw[Ad];exact f,λD t e G m=>?_⟩
  ·rw[g,B7];show((r.map _).zip F).map (Di ∘ Prod.fst)=_;rw[<-B7,List.map_fst_zip (by rw[j];simp)]
  ·have h:∀y∈t,y.length<=1000:=λy h=>by
    obtain⟨p,c,rfl⟩:=A6.mp (e.mem_iff.mp h);exact i p c
   refine k D _ _ _ E (s.new m) (u.trans (Kp.new m)) (s.was u m) br ?_ (nG h) (K t e G);rw[Ad,e.length_eq,Ad];exact ft ⋯
def jP:List Wv->Int->DQ->Prop:=λxs n Q=>match xs with
 |[.d (.int i)]=>Q (.d (.int i)) n
 |[.d (.bool b)]=>Q (.d (.int (if b then 1 else 0))) n
 |_=>False
def EO:List V->Hp->VK->Prop:=λxs H Q=>(∃i,xs=[.int i]/\Q (.int i) H)\/∃k,xs=[.bl k]/\Q (.int (if k then 1 else 0)) H
theorem J4:CallR X (.type "int") EO:=S2
theorem Ua:dv EO jP:=λC H B σ δ n d e Q f R r h k=>by
 unfold jP at h
 split at h
 ·rename_i i;cases r with
  |cons b c=>
   cases c;cases(show RdX H B _ (.int i)from b);exact .inl ⟨i,rfl,k _ _ H n R (Kp.refl _ _) ⋯ h⟩
 ·rename_i i;cases r with
  |cons b c=>
   cases c;cases(show RdX H B _ (.bool i)from b);exact .inr ⟨i,rfl,k _ _ H n R (Kp.refl _ _) (wd (.int _)) h⟩
 ·exact h.elim
def cJ(xs ys:List Ab):List Ab:=List.zipWith (λx y=>.tuple [x,y]) xs ys
def ic(w w':DT):fS:=λδ n Q=>w δ n λx n1=>w' δ n1 λy n2=>match x,y with
 |.d (.tuple xs),.d (.tuple ys)=>xs.length=ys.length/\Q (cJ xs ys) n2
 |_,_=>False
theorem QN{elts:List Expr}{kk:Nat}{tpos:Pos}(hg:Gl X "zip")(hm:X.mg "zip"=af)(ha:DE X a ta wa)(hb:DE X b tb wb)(hK:X.K=K:=by rfl)(hs:Au [a,b] X.env=[(ai,eval a X.env),(ai,eval b X.env)]:=by rfl)(hs2:Au [b] X.env=[(ai,eval b X.env)]:=by rfl)
  (he1:Au [a,b] X.env=(ai,eval a X.env)::Au [b] X.env:=by rfl) (he2:Au [b] X.env=(ai,eval b X.env)::Au [] X.env:=by rfl):
  DI X (.Tuple elts kk tpos) (.Call (.Name "zip" p) [a,b] [] pos) (mR K (cU ta (cU tb bP))) (ic wa wb):=by
 subst hK;refine⟨Oe hg hm (cj ha.pe (cj hb.pe dG he2) he1) hs hs2,λC H B σ δ n Q Q' R q k=>ha.sd C H B σ δ n _ _ R q λv x H1 n1 R1 k1 r1 q1=>hb.sd C H1 B σ δ n1 _ _ R1 q1 λu y s n2 R2 U r2 g=>?_⟩;have P:=r1.kp U R1.bt
 split at g
 ·rename_i h r;cases(show RdX s B v (.tuple h)from P)with
  |@tup aa w _ e1 e2 e3 t=>
   cases(show RdX s B u (.tuple r)from r2)with
   |@tup ab F _ f1 f2 f3 f4=>
    refine⟨aa,ab,rfl,⟨w,SqT.of e1⟩,⟨F,SqT.of f1⟩,k _ _ s n2 R2 (k1.trans U) (λfz j=>?_) g.2⟩;have I:=j.2 _ _ e1 e2;have Y:=j.2 _ _ f1 f2;have m:(cJ h r).length=h.length:=by unfold cJ;rw[List.length_zipWith,g.1,Nat.min_self]
    refine⟨m▸t.len▸e3,λi H f l=>?_,λH f=>?_,λi H x H' d f V L=>?_⟩
    ·rw[m]at l;have h1:i < w.length:=by rw[t.len];exact l
     have h2:i < F.length:=by rw[f4.len,<-g.1];omega
     exact⟨w,F,_,_,SqT.of (f _ _ I),SqT.of (f _ _ Y),Ai h1,Ai h2⟩
    ·exact⟨w,SqT.of (f _ _ I),by rw[m,t.len];simp⟩
    ·obtain⟨T,x1,y1,rfl,A,rfl,hx,L⟩:=L;refine⟨λb o e=>(aX (b5 e A))▸e,λB' hB E=>?_⟩;have l:i < h.length:=by rw[<-m];exact(Aw.mp V).1
     have N:i < r.length:=by simp_all
     have ed:d=.tuple [h[i],r[i]]:=by
      unfold cJ at V;simp_all
     subst ed;obtain⟨u1,D,M⟩:=t.getD (Ai l);obtain⟨u2,S,J⟩:=f4.getD (Ai N);have W:=hx _ (SqT.of (f _ _ I));have t2:=L _ (SqT.of (f _ _ Y));rw[D]at W;rw[S]at t2;cases W;cases t2;have Z:∀b o,s b=ae o->¬B b->upd H T (.tup [x1,y1]) b=ae o/\¬B' b:=λb o e ne=>by
      have:=f _ _ (j.2 _ _ e ne);exact⟨(aX (b5 this A))▸this,hB _ _ (j.2 _ _ e ne)⟩
     exact .tup br (λz=>E T z A) (by show 2<=As;decide) (.cons (M.move Z) (.cons (J.move Z) .nil))
 ·exact g.elim
end
end DL
namespace L2
open PySem PySem.Spec PyProof.Rows PySem.SeqAt
end L2
namespace DL
open PySem L2 Nb
section
variable{X:Cx}{K:Af}
def vp(K:Af)(f:Ab->Ab->Option Bool):R2:=λx y H Q=>∃d e b,RdD K H x d/\RdD K H y e/\d.canLay0=ah/\e.canLay0=ah/\d.depth<=20/\e.depth<=20/\f d e=ae b/\Q (.bl b) H
theorem Qm(hu:X.A.units+64 < Co)(hK:X.K=K:=by rfl):OpR X (Bm .Eq) (vp K λd e=>ae (Bz d e)):=by
 subst hK;intro a s σ H x y v u Q I i k h;obtain⟨d,e,b,j,c,f,g,o,p,m,q⟩:=h;cases m;obtain⟨t,l⟩:=RdD.reads I j i;obtain⟨r,n⟩:=RdD.reads I c k;exact SeqAt.compareEq_reads l n f g ⋯ ⟨.bl _,H,I,rfl,q⟩
theorem Mg(hu:X.A.units+64 < Co)(hK:X.K=K:=by rfl):OpR X (Bm .NotEq) (vp K λd e=>ae (!Bz d e)):=by
 subst hK;intro a s σ H x y v u Q I k f h;obtain⟨d,e,b,g,m,j,c,t,o,l,q⟩:=h;cases l;obtain⟨p,n⟩:=RdD.reads I g k;obtain⟨r,i⟩:=RdD.reads I m f;exact SeqAt.compareNe_reads n i j c ⋯ ⟨.bl _,H,I,rfl,q⟩
def ni(f:Ab->Ab->Option Bool):Wv->Wv->Int->DQ->Prop:=λx y n Q=>match x,y with
 |.d d,.d e=>d.canLay0=ah/\e.canLay0=ah/\d.depth<=20/\e.depth<=20/\∃b,f d e=ae b/\Q (.d (.bool b)) n
 |_,_=>False
theorem ym:bq (vp K f) (ni f):=λC H B σ δ n x y p q Q r R g i a k=>by
 unfold ni at a
 split at a
 ·rename_i d e;obtain⟨m,j,c,h,b,l,o⟩:=a;exact⟨d,e,b,RdX.rd g,RdX.rd i,m,j,c,h,l,k _ _ H n R (Kp.refl _ _) (wd (.bl b)) o⟩
 ·exact a.elim
end
end DL
namespace L2
open PySem PySem.Spec PyProof.Rows PySem.W
section
variable{prog:A9}{w:Bj}{A:Bn}{E:Ag->Aj->Prop}{s:Aj}
theorem Ko(hn:n≠0)(h:∀i dr,i < n->Q i {s with drawn:=dr}):A2 (A8 prog w) A (choose src n) Q E s:=
 λ_ _ _=>⟨hn,h _ _ (Nat.mod_lt _ (Nat.pos_of_ne_zero hn))⟩
theorem uY{α:Type}:∀(l:List α)(i:Nat)(h:i < l.length),(l[i]::l.eraseIdx i).Perm l
 |x::r,0,_=>List.Perm.refl _
 |x::r,i+1,h=>(List.Perm.swap x _ _).trans ((uY r i _).cons x)
theorem xP:∀(n:Nat)(xs:List α)(s:Aj){Q:List α->Aj->Prop},xs.length=n->(∀ys dr,ys.Perm xs->Q ys {s with drawn:=dr})->A2 (A8 prog w) A (drawOrder n xs) Q E s
 |0,xs,s,Q,a,h=>by
  cases E5 a;exact Ah (h [] s.drawn (by simp))
 |n+1,[],s,Q,a,h=>by trivial
 |n+1,x::r,s,Q,a,h=>by
  refine Aa (Ko (by simp) λi dr c=>?_);rw[Ai c];exact Aa (xP n _ _ (by rw[List.length_eraseIdx_of_lt c];simp_all) λys b d=>Ah (h _ b ((d.cons _).trans (uY _ _ c))))
theorem FV(next):∀(fuel k:Nat)(left:List α)(out:Array α),left.length=fuel->(pickOrder.go next fuel k left out).toList.Perm (out.toList++left)
 |0,k,left,out,b=>by
  cases E5 b;simp[pickOrder.go]
 |fuel+1,k,left,out,b=>by
  have a:next k % left.length < left.length:=Nat.mod_lt _ ⋯
  unfold pickOrder.go;rw[Ai a];refine(FV next fuel _ _ _ (by grind)).trans ?_;rw[Array.toList_push,Bp];exact List.Perm.append_left _ (uY _ _ a)
theorem UB(next)(xs:Array α):(pickOrder next xs).toList.Perm xs.toList:=by
 have:=FV next xs.size 0 xs.toList #[] (by simp)
 assumption
def da(w:Bj):Bool:=w.params.followText "set-order"
theorem qr(h:Q (da w) s):A2 (A8 prog w) A setsByText Q E s:=Aa (wpAny_askSetting (Ah h))
structure SetTb(w:Bj)(h:Heap)(a:A_)(es:Array (Int×Ag))(ep:Nat)(t:Fq):Prop where
 obj:∃o,h.get? a=ae o/\o.ExactSet/\o.data=.set es ep t
 fits:t.fits es.size=ah
 led:t.led=!da w
 plain:t.plain=ah->es.size=0
theorem SetTb.move(x:SetTb w h a es ep t)(k:∀o,h.get? a=ae o->h'.get? a=ae o):SetTb w h' a es ep t:=
 ⟨let⟨o,e,r⟩:=x.obj;⟨o,k o e,r⟩,x.fits,x.led,x.plain⟩
theorem SetTb.typeIs(x:SetTb w s.heap a es ep t):s.TypeIs (.ref a) "set":=let⟨o,e,r,_⟩:=x.obj;⟨o,e,r.1⟩
theorem SetTb.lt(x:SetTb w h a es ep t):a < h.objs.size:=let⟨_,e,_⟩:=x.obj;Aq e
theorem O8(t:Fq)(n):(t.orStandIn n).led=t.led:=by
 unfold SetTable.orStandIn
 split<;>rfl
theorem V8(t:Fq)(es)(h)(x):(layNew t es h x).2.1.led=t.led:=by
 unfold layNew
 split
 ·exact O8 _ _
 ·rfl
theorem Ku{t t':Fq}(h:t.relaid hs n=ae (t',ord)):t'.led=t.led/\t'.plain=t.plain:=by
 unfold SetTable.relaid SetTable.laid at h;cases a:SetTable.layClean _ hs with
 |none=>rw[a]at h;cases h
 |some b=>
  rw[a]at h;cases h;simp
theorem zY(t:Fq)(es)(n):(relayAll t es n).2.1.led=t.led/\((relayAll t es n).2.1.plain=ah->t.plain=ah):=by
 unfold relayAll
 split
 ·rename_i e c b;obtain⟨d,a⟩:=Ku b;dsimp only
  split
  ·exact⟨d,λz=>a▸z⟩
  ·exact⟨rfl,λz=>by trivial⟩
 ·exact⟨rfl,λz=>by trivial⟩
def gY(v:Ag):Str:=match v with
 |.str k _=>k
 |_=>⟨#[]⟩
def cQ(es:Array (Int×Ag)):List Str:=es.toList.map λe=>gY e.2
def TxEs(w:Bj)(es:Array (Int×Ag)):Prop:=∀e∈es.toList,∃k t,e.2=.str k t/\e.1=hashStr w k
theorem TxEs.elems(h:TxEs w es):ElemsOf (Ff prog w) es.toList:=λe c=>by
 obtain⟨k,t,a,b⟩:=h e c;refine⟨⟨k,?_,b⟩,a▸rfl⟩;rw[a];simp[Ff,Value.isStrOf]
def iA(w:Bj)(h:Heap)(a:A_)(seen:List Str):Prop:=∃es ep t,SetTb w h a es ep t/\TxEs w es/\(cQ es).Nodup/\(∀k,k∈cQ es↔k∈seen)/\es.size<=seen.length
end
theorem HS:entryFor table "set.update.loop"=ae Ey.«set.update.loop»:=G0 (by kernel_rfl)
theorem NY:plainId "set.update.loop"=ah:=by decide +kernel
section
variable{prog:A9}{w:Bj}{A:Bn}{E:Ag->Aj->Prop}{s:Aj}
theorem Mn{seen:List Str}(hx:TxEs w es)(nd:(cQ es).Nodup)(hm:∀k,k∈cQ es↔k∈seen)(hl:es.size<=seen.length)(hk:k∉cQ es)
  (p:es'.toList.Perm (es.toList++[(hashStr w k,.str k tk)])):TxEs w es'/\(cQ es').Nodup/\(∀k',k'∈cQ es'↔k'∈seen++[k])/\es'.size<=(seen++[k]).length/\es'.size=es.size+1:=by
 have d:(cQ es').Perm (cQ es++[k]):=by
  have:=p.map λe=>gY e.2;rw[Bf]at this;trivial
 have c:=by
  have:=p.length_eq;simpa using this
 refine⟨λe f=>?_,d.nodup_iff.mpr ?_,λk'=>?_,c▸An▸Nat.succ_le_succ hl,c⟩
 ·rcases A1.mp (p.mem_iff.mp f)with h|h
  ·exact hx e h
  ·rw[A4]at h;subst h;exact⟨k,tk,rfl,rfl⟩
 ·rw[List.nodup_append];exact⟨nd,D2 _ _,λa i b g e=>hk (by rw[A4]at g;simp_all)⟩
 ·rw[d.mem_iff,A1,A1,hm k']
theorem xV(hx:TxEs w es)(nd:(cQ es).Nodup)(p:es'.toList.Perm es.toList):TxEs w es'/\(cQ es').Nodup/\(∀k',k'∈cQ es'↔k'∈cQ es)/\es'.size=es.size:=by
 have a:=List.Perm.map (λe:Int×Ag=>gY e.2) p;exact⟨λe b=>hx e (p.mem_iff.mp b),a.nodup_iff.mpr nd,λk'=>a.mem_iff,by have:=p.length_eq;omega⟩
theorem Qs{seen:List Str}(hS:iA w s.heap a seen)(hb:seen.length < 1000)
  (h:∀b h',Cu a s.heap h'->iA w h' a (seen++[k])->Q b {s with heap:=h'}):A2 (A8 prog w) A (setAddHashed a (.str k tk) (hashStr w k)) Q E s:=by
 obtain⟨D,ep,t,T,hx,nd,hm,hl⟩:=hS;obtain⟨o,O,F,H⟩:=T.obj;have V:ElemsOf (Ff prog w) D.toList:=hx.elems;have hsz:D.size < scanBound:=by unfold scanBound;omega
 have W:(Ff prog w).is k (.str k tk)=ah:=by simp[Ff,Value.isStrOf]
 refine Bt (Aa (Fv O H T.fits ?_));dsimp only;rw[byScan_of rfl hsz V];refine Aa (Aa (Fk (Aa (wpAny_setScan_of W O H T.fits V ?_))));cases hr:D.toList.findIdx? (λe=>(Ff prog w).is k e.2)with
 |some j=>
  obtain⟨hj,hpj,_⟩:=Gg.mp hr;have hk:k∈cQ D:=by
   obtain⟨u,hu⟩:=Value.isStrOf_shape hpj;exact A6.mpr ⟨_,Da hj,hu▸rfl⟩
  refine Ah (Ah (h _ s.heap (Heap.SameBut.refl a s.heap) ⟨D,ep,t,T,hx,nd,λk'=>?_,by simp<;>omega⟩));simp_all<;>omega
 |none=>
  have hk:k∉cQ D:=λz=>by
   obtain⟨e,he,e2⟩:=A6.mp z;obtain⟨k',t',e3,_⟩:=hx e he;have q:=List.findIdx?_eq_none_iff.mp hr e he;rw[e3]at e2 q;have e2:k'=k:=e2;subst e2;simp[Ff,Value.isStrOf]at q
  have M:∀b {r_:Aj} {Q':Unit->Aj->Prop},Q' () r_->A2 (A8 prog w) A (match b with|true=>rule "set.scan.the-table-gave-way"|false=>pure ()) Q' E r_:=
   λb r_ Q' hq=>by cases b with
    |true=>exact Fk hq
    |false=>exact Ah hq
  have Y:=layNew_perm t D (hashStr w k) (.str k tk);have hf:=layNew_fits t D (hashStr w k) (.str k tk);have G:=V8 t D (hashStr w k) (.str k tk);have eh:(Ff prog w).hash k=hashStr w k:=rfl
  try rw[eh]
  generalize layNew t D _ _=L at Y hf G ⊢;obtain⟨c,t1,wd,gave⟩:=L;dsimp only at Y hf G ⊢;rw[Array.toList_push]at Y;obtain⟨x1,Z,m1,l1,z1⟩:=Mn hx nd hm hl hk Y;refine Aa (M _ ?_)
  split
  ·refine Aa (Ah ?_);have n:({t1 with plain:=ai}:Fq).plain=ai:=rfl;have C:=SetTable.fits_plain_off hf;have i:({t1 with plain:=ai}:Fq).led=t.led:=G;simp only[E9,↓reduceIte];generalize({t1 with plain:=ai}:Fq)=g at n C i ⊢;have J:c.size < scanBound:=by unfold scanBound;omega
   refine Aa (wpAny_storeSet_of O H ?_ (fits_of_scanBound J));have K:=by
    have:=Bq (Obj.putSet c g) O ((putSet_of c g H)▸rfl);rw[putSet_of c g H]at this;omega
   have y:=Bg s.heap a (Obj.putSet c g)
   split
   ·have l:=relayAll_perm g c (SetTable.grown c.size);have m:=relayAll_fits g c (SetTable.grown c.size);obtain⟨p,r⟩:=zY g c _;generalize relayAll g c _=R at l m p r ⊢;obtain⟨x,X,I⟩:=R;dsimp only at l m p r ⊢;obtain⟨x2,n2,m2,z2⟩:=xV x1 Z l;refine Aa (M _ (Aa (wpAny_storeSet_of K rfl ?_ (fits_of_scanBound (by simp_all)))));have g2:=by
     have:=Bq (Obj.putSet x X) K (by rfl);assumption
    refine Ah (Ah (h _ _ (y.trans (Bg _ a _)) ⟨x,_,X,⟨⟨_,g2,F,rfl⟩,m,p▸i▸T.led,λz=>?_⟩,x2,n2,λk'=>(m2 k').trans (m1 k'),by simp_all⟩));simp_all<;>omega
   ·refine Ah (Ah (h _ _ y ⟨c,_,g,⟨⟨_,K,F,rfl⟩,C,i▸T.led,λz=>?_⟩,x1,Z,m1,l1⟩));simp_all<;>omega
  ·rename_i P;have n:=by simpa using P
   have C:=hf;have i:=G;refine Aa (Ah ?_);simp only[↓reduceIte];generalize t1=g at n C i ⊢;have J:c.size < scanBound:=by unfold scanBound;omega
   refine Aa (wpAny_storeSet_of O H ?_ (fits_of_scanBound J));have K:=by
    have:=Bq (Obj.putSet c g) O ((putSet_of c g H)▸rfl);rw[putSet_of c g H]at this;omega
   have y:=Bg s.heap a (Obj.putSet c g)
   split
   ·have l:=relayAll_perm g c (SetTable.grown c.size);have m:=relayAll_fits g c (SetTable.grown c.size);obtain⟨p,r⟩:=zY g c _;generalize relayAll g c _=R at l m p r ⊢;obtain⟨x,X,I⟩:=R;dsimp only at l m p r ⊢;obtain⟨x2,n2,m2,z2⟩:=xV x1 Z l;refine Aa (M _ (Aa (wpAny_storeSet_of K rfl ?_ (fits_of_scanBound (by simp_all)))));have g2:=by
     have:=Bq (Obj.putSet x X) K (by rfl);assumption
    refine Ah (Ah (h _ _ (y.trans (Bg _ a _)) ⟨x,_,X,⟨⟨_,g2,F,rfl⟩,m,p▸i▸T.led,λz=>?_⟩,x2,n2,λk'=>(m2 k').trans (m1 k'),by simp_all⟩));simp_all<;>omega
   ·refine Ah (Ah (h _ _ y ⟨c,_,g,⟨⟨_,K,F,rfl⟩,C,i▸T.led,λz=>?_⟩,x1,Z,m1,l1⟩));simp_all<;>omega
def iy(ks:List Str)(i:Nat)(v:Ag):Prop:=∃k t,ks[i]?=ae k/\v=.str k t
theorem OU{St:Nat->Aj->Prop}(W:WalksS prog w A.in1 I fp wr G n (iy ks) St)(S)(hSf:S∉fp)(hn:ks.length=n)(hb:n < 64):
  ∀(m i:Nat)(s:Aj),n-i=m->i<=n->St i s->iA w s.heap S (ks.take i)->
   (∀s',Moved (S::wr) G s s'->iA w s'.heap S ks->R (.ok (.ret .none)) s')->Gy (A8 prog w) A (.builtin "set.update.loop" ⟨[.ref S,.ref I],[]⟩) R s:=by
 have p:=λh=>hSf (W.sub _ h);have c:∀b∈wr,b∈S::wr:=λb=>Ak _;have F:∀{h D:Heap}{a:List Str},(∀o,h.get? S=ae o->D.get? S=ae o)->iA w h S a->iA w D S a:=λk x=>by
  obtain⟨M,O,t,T,r⟩:=x;exact⟨M,O,t,T.move k,r⟩
 intro m
 induction m with
 |zero=>
  intro i s K J d z C;have B:i=n:=by omega
  subst B;refine Dm HS (Aa (W.done s _ _ d λs' j=>?_));rw[<-hn,Gv]at z;exact Ah (C s' (j.mono c) (F (λo=>j.heap S _ p) z))
 |succ m P=>
  intro i s K J d z C;have u:i < n:=by omega
  refine Dm HS (Aa (W.item i s _ _ u d λv s' L q j=>?_));obtain⟨k,t,E,rfl⟩:=L;refine Aa (Bt (Bt ?_));refine Aa (wpAny_pyHash_str (Qs (F (λo=>j.heap S _ p) z) (by simp<;>omega) λb D g l=>?_));have Q:ks.take i++[k]=ks.take (i+1):=List.take_add_one▸E▸rfl;rw[Q]at l;refine Ah ⟨E2 NY _,P _ _ ⋯ u (W.frame _ s' _ _ q (by simp) λb hb o e=>?_) l λs'' f y=>?_⟩
  ·rw[g.2 b (λh:b=S=>hSf (by grind))];exact e
  ·refine C s'' (Moved.trans W.gtrans ((j.mono c).then_heap (by simp) λb o hb e=>?_) f) y;rw[g.2 b (λh:b=S=>hb (by rw[h];simp))];exact e
end
theorem slot_setit_next:Slot "set_iterator" "__next__" "set_iterator.__next__":=Slot.of (owner:="set_iterator") (n:="__next__") (by rw[typeLookup_type,Gz];kernel_rfl)
 ∅ ∅ ∅ (by first|exact .inl ∅|exact .inr ∅) (by rw[F8];kernel_rfl)
theorem me:entryFor table "set_iterator.__next__"=ae Ey.«set_iterator.__next__»:=G0 (by kernel_rfl)
theorem vz(a):argsOk "set_iterator.__next__" ⟨[a],[]⟩:=by unfold argsOk;kernel_rfl
theorem xX:Slot "set_iterator" "__iter__" "set_iterator.__iter__":=Slot.of (owner:="set_iterator") (n:="__iter__") (by rw[typeLookup_type,Gz];kernel_rfl)
 ∅ ∅ ∅ (by first|exact .inl ∅|exact .inr ∅) (by rw[F8];kernel_rfl)
theorem Ux:entryFor table "set_iterator.__iter__"=ae Ey.«dict_keyiterator.__iter__»:=by exact entryFor_alias (id':="dict_keyiterator.__iter__") (by kernel_rfl) rfl ∅ (by kernel_rfl)
theorem MX(a):argsOk "set_iterator.__iter__" ⟨[a],[]⟩:=by unfold argsOk;kernel_rfl
theorem QZ:entryFor table "set.__iter__"=ae Ey.«frozenset.__iter__»:=by exact entryFor_alias (id':="frozenset.__iter__") (by kernel_rfl) rfl ∅ (by kernel_rfl)
def SetIt(h:Heap)(I:A_)(first:Ag)(i:Nat)(a:A_)(n ep:Nat):Prop:=∃o,h.get? I=ae o/\o.cls=.type "set_iterator"/\o.data=.fields #[first,.int i 0,.ref a,.int n 0,.int ep 0]
section
variable{prog:A9}{w:Bj}{A:Bn}{E:Ag->Aj->Prop}{s:Aj}{I a T:A_}{n ep i j:Nat}{es:Array (Int×Ag)}{t:Fq}{first:Ag}
theorem SetIt.typeIs(x:SetIt s.heap I first i a n ep):s.TypeIs (.ref I) "set_iterator":=let⟨o,e,c,_⟩:=x;⟨o,e,c⟩
theorem SetIt.move(x:SetIt h I first i a n ep)(k:∀o,h.get? I=ae o->h'.get? I=ae o):SetIt h' I first i a n ep:=let⟨o,e,r⟩:=x;⟨o,k o e,r⟩
theorem pj(hit:SetIt s.heap I first i a n ep)(h:Q (.ref I) s):A2 (A8 prog w) A (pyIter (.ref I)) Q E s:=wpAny_pyIter_slot hit.typeIs xX (Bs xX hit.typeIs Ux (Ah ⟨_,rfl,_,_,hit.typeIs,slot_setit_next.lookup,h⟩) (MX _))
theorem VO(hit:SetIt s.heap I (.ref T) i a n ep)(hs:SetTb w s.heap a es ep t)(hn:es.size=n)(hT:s.heap.IsTuple T pl)(hp:pl[i]?=ae (.int j 0))(hx:es[j]?=ae x)
  (hQ:∀h',SetIt h' I (.ref T) (i+1) a n ep->Cu I s.heap h'->Q (ae x.2) {s with heap:=h'}):A2 (A8 prog w) A (pyNext (.ref I)) Q E s:=by
 obtain⟨o,e,h,d⟩:=id hit;obtain⟨m,c,_,b⟩:=hs.obj;obtain⟨k,g,_,l,f⟩:=hT;refine Aa (Eh (Bi hit.typeIs slot_setit_next (Bs slot_setit_next hit.typeIs me ?_ (by trivial))));refine Aa (Ah (Aa (F7 e d ?_)));dsimp only;refine Aa (Ef c b hs.fits ?_);rw[a_ (by rw[hn];simp)];refine Aa (Cb g f ?_);simp only[B8,hp];refine Aa (Aa (Fv c b hs.fits ?_));simp only[bne_self_eq_false,hx];refine Ah (Aa (Cw e d (by simp) (Ah ⟨x.2,rfl,Ah (hQ _ ?_ (Bg ..))⟩)));exact⟨_,Bq _ e (C4 (Bx d _)),(Et ..).trans h,by
  rw[Bx d];rfl⟩
theorem VC(hh:A.handled=af)(hit:SetIt s.heap I (.ref T) i a n ep)(hs:SetTb w s.heap a es ep t)(hn:es.size=n)(hT:s.heap.IsTuple T pl)(hp:pl[i]?=af)
  (hQ:∀h',Heap.ExtBut I s.heap h'->Q af {s with heap:=h'}):A2 (A8 prog w) A (pyNext (.ref I)) Q E s:=by
 obtain⟨h,e,_,k,f⟩:=hT;obtain⟨o,c,j,b⟩:=id hit;obtain⟨l,g,_,d⟩:=hs.obj;refine Aa (Eh (Bi hit.typeIs slot_setit_next (Bs slot_setit_next hit.typeIs me ?_ (vz _))));refine Aa (Ah (Aa (F7 c b ?_)));refine Aa (Ef g d hs.fits ?_);rw[a_ (by rw[hn];simp)];refine Aa (Cb e f ?_);simp only[B8,hp];refine Aa (Cw c b (by simp) ?_);refine Aa (Cw (Bq (Obj.mapFields (·.setIfInBounds 0 (Dh 0))) c (C4 (Bx b _))) (Bx b (·.setIfInBounds 0 (Dh 0))) (by simp) (Aa ?_));refine Aa (By (Aa (Gm (by rfl) ?_)) (by size_fits));refine By (Aa (wpAny_handled ?_)) (by size_fits)
 first|rw[hh]|rw[hh]
 refine Aa (Ah (wpAny_throw ?_));refine Aa (Ei ⟨_,Ar _ rfl,rfl⟩ Gw ?_);exact Ah (hQ _ (((((Bg ..).trans (Bg ..)).extBut).push _).push _))
def mJ(w:Bj)(a:A_)(ep:Nat)(es:Array (Int×Ag)):Array (Int×Ag):=pickOrder (w.params.setOrder a ep) es
theorem DM(hb:da w=ah)(hs:SetTb w s.heap a es ep t)(h:Q (((mJ w a ep es)[i]?).map λe=>(e.2,k)) s):A2 (A8 prog w) A (setNext a k i ep) Q E s:=by
 obtain⟨d,c,_,b⟩:=hs.obj;refine Aa (Fv c b hs.fits (Aa (qr ?_)));rw[hb];simp;refine Aa (Aa (Fv c b hs.fits ?_));refine Aa (qr ?_);rw[hb];refine Aa (wpAny_askSetting (Ah (Ah h)))
theorem Kk(hb:da w=ah)(hit:SetIt s.heap I (.int 0 0) i a n ep)(hs:SetTb w s.heap a es ep t)(hn:es.size=n)(hx:(mJ w a ep es)[i]?=ae x)
  (hQ:∀h',SetIt h' I (.int 0 0) (i+1) a n ep->Cu I s.heap h'->Q (ae x.2) {s with heap:=h'}):A2 (A8 prog w) A (pyNext (.ref I)) Q E s:=by
 obtain⟨o,e,h,d⟩:=id hit;obtain⟨j,g,_,f⟩:=hs.obj;refine Aa (Eh (Bi hit.typeIs slot_setit_next (Bs slot_setit_next hit.typeIs me ?_ (by trivial))));refine Aa (Ah (Aa (F7 e d ?_)));dsimp only;refine Aa (Ef g f hs.fits ?_);rw[a_ (by rw[hn];simp)];refine Aa (DM hb hs ?_);simp only[B8,hx,Option.map_some];refine Aa (Cw e d (by simp) ?_);have c:=Bq (Obj.mapFields (·.setIfInBounds 0 (Dh ((0:Int).toNat:Nat)))) e (C4 (Bx d _));have b:=Bx d (·.setIfInBounds 0 (Dh ((0:Int).toNat:Nat)));refine Aa (Cw c b (by simp) (Ah ⟨x.2,rfl,Ah (hQ _ ?_ ((Bg ..).trans (Bg ..)))⟩));exact⟨_,Bq _ c (C4 (Bx b _)),(Et ..).trans ((Et ..).trans h),by
  rw[Bx b];rfl⟩
theorem Tf(hh:A.handled=af)(hb:da w=ah)(hit:SetIt s.heap I (.int 0 0) i a n ep)(hs:SetTb w s.heap a es ep t)(hn:es.size=n)(hx:(mJ w a ep es)[i]?=af)
  (hQ:∀h',Heap.ExtBut I s.heap h'->Q af {s with heap:=h'}):A2 (A8 prog w) A (pyNext (.ref I)) Q E s:=by
 obtain⟨o,d,f,e⟩:=id hit;obtain⟨g,c,_,b⟩:=hs.obj;refine Aa (Eh (Bi hit.typeIs slot_setit_next (Bs slot_setit_next hit.typeIs me ?_ (vz _))));refine Aa (Ah (Aa (F7 d e ?_)));dsimp only;refine Aa (Ef c b hs.fits ?_);rw[a_ (by rw[hn];simp)];refine Aa (DM hb hs ?_);simp only[B8,hx,Option.map_none];refine Aa (Cw d e (by simp) (Aa ?_));refine Aa (By (Aa (Gm (by rfl) ?_)) (by size_fits));refine By (Aa (wpAny_handled ?_)) (by size_fits)
 first|rw[hh]|rw[hh]
 refine Aa (Ah (wpAny_throw ?_));refine Aa (Ei ⟨_,Ar _ rfl,rfl⟩ Gw ?_);exact Ah (hQ _ (((Bg ..).extBut.push _).push _))
theorem zz(hb:da w=ai)(h1:es.size<=1)(hs:SetTb w s.heap a es ep t)
  (h:Q (match es[Ew t.place k]?,t.place[Ew t.place k]? with
   |some (_,x),ae j=>ae (x,j+1)
   |_,_=>af) s):A2 (A8 prog w) A (setNext a k i ep) Q E s:=by
 obtain⟨g,c,_,b⟩:=hs.obj;have e:t.led=ah:=hs.led▸hb▸rfl;refine Aa (Fv c b hs.fits (Aa (qr ?_)));rw[hb];simp;have f:(!t.plain&&decide (es.size > 1))=ai:=by
  have:decide (es.size > 1)=ai:=c_ ⋯;rw[this,Bool.and_false]
 split
 ·rename_i z;have d:(!t.plain&&decide _)=ah:=z;rw[f]at d;cases d
 ·refine Aa (Gm (a:=()) ?_ (Ah h));show(if _=ah then unsupported "set:maker-not-led" else pure ())=pure ();rw[e];rfl
theorem QH:Ew #[j] 0=0/\Ew #[j] (j+1)=1:=by
 constructor
 ·simp[Ew,SetTable.below.go]
 ·simp[Ew,SetTable.below.go]
theorem SE(hb:da w=ai)(hp:t.place=#[j])(he:es=#[x])(hit:SetIt s.heap I (.int 0 0) 0 a 1 ep)(hs:SetTb w s.heap a es ep t)
  (hQ:∀h',SetIt h' I (.int ((j+1:Nat):Int) 0) 1 a 1 ep->Cu I s.heap h'->Q (ae x.2) {s with heap:=h'}):A2 (A8 prog w) A (pyNext (.ref I)) Q E s:=by
 have i:es.size=1:=by simp_all
 obtain⟨o,f,k,e⟩:=id hit;obtain⟨l,h,_,g⟩:=hs.obj;refine Aa (Eh (Bi hit.typeIs slot_setit_next (Bs slot_setit_next hit.typeIs me ?_ (by trivial))));refine Aa (Ah (Aa (F7 f e ?_)));refine Aa (Ef h g hs.fits ?_);rw[a_ (by rw[i];simp)];refine Aa (zz hb ⋯ hs ?_);have m:Ew t.place (0:Int).toNat=0:=hp▸rfl;rw[hp,he];refine Aa (Cw f e (by simp) ?_);have d:=Bq (Obj.mapFields (·.setIfInBounds 0 (Dh ((j+1:Nat):Int)))) f (C4 (Bx e _));have b:=Bx e (·.setIfInBounds 0 (Dh ((j+1:Nat):Int)));refine Aa (Cw d b (by simp) (Ah ⟨x.2,rfl,Ah (hQ _ ?_ ((Bg ..).trans (Bg ..)))⟩));exact⟨_,Bq _ d (C4 (Bx b _)),(Et ..).trans ((Et ..).trans k),by
  rw[Bx b];rfl⟩
theorem GX(hh:A.handled=af)(hb:da w=ai)(h1:es.size<=1)(hk:es[Ew t.place k]?=af)(hit:SetIt s.heap I (.int (k:Int) 0) i a n ep)(hs:SetTb w s.heap a es ep t)(hn:es.size=n)
  (hQ:∀h',Heap.ExtBut I s.heap h'->Q af {s with heap:=h'}):A2 (A8 prog w) A (pyNext (.ref I)) Q E s:=by
 obtain⟨o,d,f,e⟩:=id hit;obtain⟨g,c,_,b⟩:=hs.obj;refine Aa (Eh (Bi hit.typeIs slot_setit_next (Bs slot_setit_next hit.typeIs me ?_ (vz _))));refine Aa (Ah (Aa (F7 d e ?_)));dsimp only;refine Aa (Ef c b hs.fits ?_);rw[a_ (by rw[hn];simp)];refine Aa (zz hb h1 hs ?_);rw[B8,hk];refine Aa (Cw d e (by simp) (Aa ?_));refine Aa (By (Aa (Gm (by rfl) ?_)) (by size_fits));refine By (Aa (wpAny_handled ?_)) (by size_fits)
 first|rw[hh]|rw[hh]
 refine Aa (Ah (wpAny_throw ?_));refine Aa (Ei ⟨_,Ar _ rfl,rfl⟩ Gw ?_);exact Ah (hQ _ (((Bg ..).extBut.push _).push _))
end
section
variable{prog:A9}{w:Bj}{A:Bn}{E:Ag->Aj->Prop}{s:Aj}{a:A_}{ep:Nat}{es:Array (Int×Ag)}{t:Fq}
def j9(vs:List (Int×Ag))(i:Nat)(v:Ag):Prop:=∃e,vs[i]?=ae e/\v=e.2
structure SetWk(prog:A9)(w:Bj)(sz:Nat)(h':Heap)(a I:A_)(vs:List (Int×Ag)):Prop where
 above:sz<=I
 walk:∃(fp:List A_)(St:Nat->Heap->Prop),(∀b∈fp,b=a\/sz<=b)/\(∀b∈fp,b < h'.objs.size)/\(∀A:Bn,A.handled=af->Walks prog w A I fp [I] vs.length (j9 vs) St)/\St 0 h'
theorem ON{α:Type}{xs:Array α}{d:α}(h:j < xs.size):xs[j]?=ae (xs.getD j d):=by
 simp[h]
theorem RO{ys:List Nat}(hp:ys.Perm (Bc n))(hn:es.size=n):(ys.map λj=>es.getD j (0,Bv)).Perm es.toList:=by
 have b:=hp.map λj=>es.getD j ((0:Int),Bv);have a:(Bc n).map (λj=>es.getD j ((0:Int),Bv))=es.toList:=by
  apply Ed (by simp[hn]);intro i b a;simp at a;simp[a]
 rw[a]at b;omega
theorem Na{ys:List Nat}(hne:a≠I)(hTI:T≠I)(hp:ys.Perm (Bc n))(hn:es.size=n)(A:Bn)(hh:A.handled=af):
  Walks prog w A I [I,a,T] [I] (ys.map λj=>es.getD j (0,Bv)).length (j9 (ys.map λj=>es.getD j (0,Bv)))
   (λi h=>SetIt h I (.ref T) i a n ep/\SetTb w h a es ep t/\h.IsTuple T (ys.map λ(j:Nat)=>Value.int (j:Int) 0).toArray) where
 sub:=λb g=>by simp at g;simp[g]
 frame:=λ_ _ _ c p=>⟨c.1.move (p I (by simp)),c.2.1.move (p a (by simp)),let⟨o,e,r⟩:=c.2.2;⟨o,p T (by simp) o e,r⟩⟩
 item:=λi s Q E m c k=>by
  rw[Ad]at m;have u:ys[i] < es.size:=hn▸B9.mp (hp.mem_iff.mp (by simp));refine VO c.1 c.2.1 hn c.2.2 (by simp[m]) (ON (d:=(0,Bv)) u) λh' l f=>k _ h' s.toks ⟨_,by rw[Ap,Ai m];rfl,rfl⟩ ⟨l,c.2.1.move λo=>(f.2 a hne).trans,let⟨o,e,r⟩:=c.2.2;⟨o,(f.2 T hTI).trans e,r⟩⟩ λb o g=>f.extBut b o (λh=>g (by simp[h]))
 done:=λs Q E c k=>VC hh c.1 c.2.1 hn c.2.2 (by simp) λh' q=>k h' s.toks λb o g=>q b o (λh=>g (by simp[h]))
 self:=λ_ _ _ _ c=>pj c.1
theorem SG(hb:da w=ah)(hne:a≠I)(hn:es.size=n)(A:Bn)(hh:A.handled=af):
  Walks prog w A I [I,a] [I] (mJ w a ep es).toList.length (j9 (mJ w a ep es).toList) (λi h=>SetIt h I (.int 0 0) i a n ep/\SetTb w h a es ep t) where
 sub:=λb hb=>by simp at hb;simp[hb]
 frame:=λ_ _ _ c k=>⟨c.1.move (k I (by simp)),c.2.move (k a (by simp))⟩
 item:=λi s Q E l c d=>by
  have m:=Cy l;exact Kk hb c.1 c.2 hn m λh' f g=>d _ h' s.toks ⟨_,by rw[Eg];trivial⟩ ⟨f,c.2.move λo=>(g.2 a hne).trans⟩ λb o hb=>g.extBut b o (λh=>hb (by simp[h]))
 done:=λs Q E c d=>Tf hh hb c.1 c.2 hn (by simp) λh' j=>d h' s.toks λb o hb=>j b o (λh=>hb (by simp[h]))
 self:=λ_ _ _ _ c=>pj c.1
theorem SU(hb:da w=ai)(hn:es.size=0)(A:Bn)(hh:A.handled=af):
  Walks prog w A I [I,a] [I] ([]:List (Int×Ag)).length (j9 []) (λ_ h=>SetIt h I (.int ((0:Nat):Int) 0) 0 a 0 ep/\SetTb w h a es ep t) where
 sub:=λb hb=>by simp at hb;simp[hb]
 frame:=λ_ _ _ c g=>⟨c.1.move (g I (by simp)),c.2.move (g a (by simp))⟩
 item:=λi s Q E k c d=>by simp_all
 done:=λs Q E c d=>GX hh hb ⋯ (by simp<;>omega) c.1 c.2 hn λh' f=>d h' s.toks λb o hb=>f b o (λh=>hb (by simp[h]))
 self:=λ_ _ _ _ c=>pj c.1
theorem NB(hb:da w=ai)(hne:a≠I)(he:es=#[x])(hp:t.place=#[j])(A:Bn)(hh:A.handled=af):
  Walks prog w A I [I,a] [I] [x].length (j9 [x]) (λi h=>((i=0/\SetIt h I (.int 0 0) 0 a 1 ep)\/(i=1/\SetIt h I (.int ((j+1:Nat):Int) 0) 1 a 1 ep))/\SetTb w h a es ep t) where
 sub:=λb hb=>by simp at hb;simp[hb]
 frame:=λ_ _ _ c m=>⟨c.1.imp (λz=>⟨z.1,z.2.move λo e=>m I (by simp) o e⟩) (λz=>⟨z.1,z.2.move λo e=>m I (by simp) o e⟩),c.2.move (m a (by simp))⟩
 item:=λi s Q E r c g=>by
  have n:i=0:=by simp_all
  subst n;rcases c.1 with⟨_,z⟩|⟨z,_⟩
  ·exact SE hb hp he z c.2 λh' k l=>g _ h' s.toks ⟨x,rfl,rfl⟩ ⟨.inr ⟨rfl,k⟩,c.2.move λo=>(l.2 a hne).trans⟩ λb o hb=>l.extBut b o (λh=>hb (by simp[h]))
  ·cases z
 done:=λs Q E c g=>by
  rcases c.1 with⟨z,_⟩|⟨_,z⟩
  ·cases z
  ·refine GX hh hb (by simp_all) ?_ z c.2 (by simp_all) λh' p=>g h' s.toks λb o hb=>p b o (λh=>hb (by simp[h]));rw[hp,QH.2,he];rfl
 self:=λi s Q E c g=>by
  rcases c.1 with⟨_,z⟩|⟨_,z⟩
  ·exact pj z g
  ·exact pj z g
theorem RE(hs:SetTb w s.heap a es ep t)(h64:es.size < 64)
  (h:∀(h':Heap)(dr:Drawn)(I:A_)(vs:List (Int×Ag)),vs.Perm es.toList->(∀b o,s.heap.get? b=ae o->h'.get? b=ae o)->SetWk prog w s.heap.objs.size h' a I vs->Q (.ref I) {s with heap:=h',drawn:=dr}):
  A2 (A8 prog w) A (pyIter (.ref a)) Q E s:=by
 obtain⟨W,g,O,f⟩:=hs.obj;have k:=hs.lt;refine wpAny_pyIter_slot hs.typeIs F.slot_set_iter (Bs F.slot_set_iter hs.typeIs QZ (Aa (Ah ?_)) (F.args_set_iter_1 _));refine Aa (Aa (Ef g f hs.fits (Ah (Aa ?_))));refine Aa (Fv g f hs.fits (Aa (qr ?_)));refine Ah ?_
 split
 ·rename_i J;refine Aa (xP es.size _ s (by simp) λys dr B=>?_);have R:ys.length=es.size:=by rw[B.length_eq,Es]
  refine Aa (wpAny_newTuple ?_ (by rw[Ad,Gn];omega));refine Aa (wpAny_setEpoch_of (Ae ({cls:=.type "tuple",data:=.seq (ys.map λ(i:Nat)=>Dh i).toArray}:Obj) g) f hs.fits (Aa (By (Ah ⟨_,rfl,_,_,⟨_,Ar _ rfl,rfl⟩,slot_setit_next.lookup,?_⟩))));have M:(s.heap.push _).get? s.heap.objs.size=ae {cls:=.type "tuple",data:=.seq (ys.map λ(i:Nat)=>Dh i).toArray}:=Ar _ rfl;refine h _ dr _ _ (RO B rfl) (λb o e=>Ae _ (Ae _ e)) ⟨by rw[Ci];exact Nat.le_succ _,_,_,λb c=>?_,λb c=>?_,(Na (by rw[Ci];exact Bb (Eu k)) (by simp) B rfl),⟨⟨_,Ar _ rfl,rfl,rfl⟩,hs.move λo e=>Ae _ (Ae _ e),⟨_,Ae _ M,rfl,_,rfl⟩⟩⟩
  ·simp only[Ao,A3,g_]at c;rcases c with rfl|rfl|rfl
   ·rw[Ci];simp
   ·exact .inl rfl
   ·exact .inr (by simp)
  ·simp only[Ao,A3,g_]at c;rw[Ci,Ci];rcases c with rfl|rfl|rfl
   ·rw[Ci];simp
   ·exact Eu (Eu k)
   ·exact Eu (by simp)
 ·rename_i J;refine Aa (Ah (Aa (wpAny_setEpoch_of g f hs.fits ?_)));refine Aa (By (Ah ⟨_,rfl,_,_,⟨_,Ar _ rfl,rfl⟩,slot_setit_next.lookup,?_⟩));have n:SetIt (s.heap.push {cls:=.type "set_iterator",data:=.fields #[Dh 0,Dh 0,.ref a,Dh es.size,Dh ep]}) s.heap.objs.size (.int 0 0) 0 a es.size ep:=⟨_,Ar _ rfl,rfl,rfl⟩;have p:SetTb w (s.heap.push {cls:=.type "set_iterator",data:=.fields #[Dh 0,Dh 0,.ref a,Dh es.size,Dh ep]}) a es ep t:=hs.move λo=>Ae _;have v:∀b o,s.heap.get? b=ae o->(s.heap.push {cls:=.type "set_iterator",data:=.fields #[Dh 0,Dh 0,.ref a,Dh es.size,Dh ep]}).get? b=ae o:=λb o=>Ae _;have C:∀b∈[s.heap.objs.size,a],b=a\/s.heap.objs.size<=b:=λb c=>by
   simp only[Ao,A3,g_]at c;rcases c with rfl|rfl
   ·exact .inr (by simp)
   ·exact .inl rfl
  have z:∀b∈[s.heap.objs.size,a],b < (s.heap.push {cls:=.type "set_iterator",data:=.fields #[Dh 0,Dh 0,.ref a,Dh es.size,Dh ep]}).objs.size:=λb c=>by
   simp only[Ao,A3,g_]at c;rw[Ci];rcases c with rfl|rfl
   ·exact Nat.lt_succ_self _
   ·exact Eu k
  have u:=Bb k;cases c:da w with
  |true=>exact h _ s.drawn _ (mJ w a ep es).toList (UB _ _) v ⟨Bh _,_,_,C,z,(SG c u rfl),⟨n,p⟩⟩
  |false=>
   have H:¬((!da w&&(!t.plain&&decide _))=ah):=J;have m:(!da w&&(!t.plain&&decide (es.size > 1)))=ai:=by simpa using H
   have V:es.size<=1:=by
    rw[c]at m;by_cases T:es.size<=1
    ·exact T
    ·have N:decide (es.size > 1)=ah:=b_ ⋯;rw[N]at m;have D:=by simpa using m
     have:=hs.plain D;omega
   by_cases K:es.size=0
   ·have S:=E5 ⋯;refine h _ s.drawn _ [] (by rw[S]) v ⟨Bh _,_,_,C,z,(SU c K),⟨?_,p⟩⟩;rw[K]at n ⊢;omega
   ·have y:es.size=1:=by omega
    obtain⟨x,r⟩:∃x,es=#[x]:=by
     have:=by omega
     obtain⟨x,r⟩:=List.length_eq_one_iff.mp this;exact⟨x,Gt.mp r⟩
    have U:t.place.size=1:=by
     have:=hs.fits;simp only[SetTable.fits,beq_iff_eq]at this;simp_all
    obtain⟨j,P⟩:∃j,t.place=#[j]:=by
     have:=by omega
     obtain⟨x,r⟩:=List.length_eq_one_iff.mp this;exact⟨x,Gt.mp r⟩
    refine h _ s.drawn _ [x] (by rw[r]) v ⟨Bh _,_,_,C,z,(NB c u r P),⟨.inl ⟨rfl,?_⟩,p⟩⟩;rw[y]at n ⊢;omega
end
theorem QG:entryFor table "proto.collect"=ae Ey.«proto.collect»:=G0 (by kernel_rfl)
theorem VD:entryFor table "list.__iadd__"=ae Ey.«list.__iadd__»:=G0 (by kernel_rfl)
section
variable{prog:A9}{w:Bj}{A:Bn}{E:Ag->Aj->Prop}{s:Aj}{a:A_}{ep:Nat}{es:Array (Int×Ag)}{t:Fq}
theorem U2(hT:s.TypeIs (.ref a) "set")(h:Q ai s):A2 (A8 prog w) A (Builtin.List.listLengthHint (.ref a)) Q E s:=by
 unfold Builtin.List.listLengthHint;refine Aa (wpAny_specialOf hT F.slot_set_len.lookup ?_);generalize hid:("set.__len__":String)=id0
 wp_delta
 rw[show splitId id0=ae ("set","__len__")from by subst hid;decide +kernel];subst hid;refine Aa (Ei (T:="set") (b:=ah) hT (by rw[F8];kernel_rfl) ?_);refine wpAny_ite_split (λhab=>f_ hab ∎) (λ_=>?_);refine wpAny_ite_split (λ_=>?_) (λhab=>f_ ∅ hab);refine Aa (D1 hT ?_);exact Ah h
theorem Vw(hh:A.handled=af)(hs:SetTb w s.heap a es ep t)(h64:es.size < 64)(S)(hSa:S≠a)(res)(hS:s.heap.get? S=ae {cls:=.type "list",data:=.seq #[]})
  (hR:∀h' tk dr (vs:List (Int×Ag)) i' c,vs.Perm es.toList->(∀b o,b≠S->s.heap.get? b=ae o->h'.get? b=ae o)->h'.get? S=ae {cls:=.type "list",dict:=af,data:=.seq i' c,slots:=#[]}->ItemsOf (j9 vs) i' vs.length->R (.ok (.ret res)) {s with heap:=h',toks:=tk,drawn:=dr}):
  A2 (A8 prog w) A.in1 (Builtin.List.listExtendWith (.ref S) (.ref a) res)
   (λfin s'=>match fin with|.done f=>R (.ok f) s'|.again c'=>c'.quiet=ah/\Gy (A8 prog w) A c' R s') (λe s'=>R (.error e) s') s:=by
 refine Aa (D1 hs.typeIs ?_);have P:Fo (.ref S) (.ref a)=ai:=by simp[Fo,hSa]
 have U:(Dl "set"==Dl "list")=ai:=by decide
 have X:(Dl "set"==Dl "tuple")=ai:=by decide
 simp only[P,if_false];refine Aa (RE hs h64 λh' dr I vs L x Q=>?_);obtain⟨N,V,St,H,T,W,M⟩:=Q;have v:=λhm=>(H S hm).elim hSa λz=>Nat.lt_irrefl _ (Bd (Aq hS) z);have k:=x S _ hS;have K:vs.length=es.size:=by rw[L.length_eq,Dg]
 have m:∀h J tk,St 0 h->(∀b o,b≠S->s.heap.get? b=ae o->h.get? b=ae o)->
   h.get? S=ae {cls:=.type "list",data:=.seq #[] J}->Gy (A8 prog w) A (.builtin "list.extend.loop" ⟨[.ref S,.ref I,res],[]⟩) R {s with heap:=h,toks:=tk,drawn:=dr}:=by
  intro h J tk G D B;refine codeAny_extend_loopS (W A.in1 hh).toS (by rw[Gn];omega) S v res vs.length 0 _ #[] J rfl (by simp) G B (ItemsOf.nil _) λs' q c' hm E n=>?_;rw[Moved.eq_with hm];refine hR s'.heap s'.toks dr vs q c' L (λb o l e=>hm.heap b o (λhmem=>?_) (D b o l e)) E n;rcases Ao.mp hmem with O|hmem
  ·exact l O
  ·exact f_ (Aq e) ((A4.mp hmem)▸Nat.not_lt.mpr N)
 refine Aa (Bt (U2 (hs.move (x a)).typeIs (wpAny_ite_split (λ_=>?_) (λ_=>Ah ⟨E2 PySem.F.plain_extend_loop _,m _ 0 _ M (λb o _=>x b o) k⟩))));refine Aa (Fk (Aa ?_));refine Aa (wpAny_updateSeq k rfl ?_);have p:=Bq (Ex (·.push Bv)) k rfl;refine wpAny_updateSeq p rfl ?_;refine Ah ⟨E2 PySem.F.plain_extend_loop _,m _ _ _ ?_ (λb o l e=>?_) (Bq (Ex (·.pop)) p rfl)⟩
 ·refine(W A hh).frame 0 _ _ M λb l o e=>?_;have r:b≠S:=λh=>v (h▸l);exact(Eb _ _ (Ne.symm r)).trans ((Eb _ _ (Ne.symm r)).trans e)
 ·exact(Eb _ _ (Ne.symm l)).trans ((Eb _ _ (Ne.symm l)).trans (x b o e))
theorem xy(h:ItemsOf (j9 vs) i' vs.length):i'.toList=vs.map (·.2):=by
 apply List.ext_getElem?;intro i;by_cases d:i < vs.length
 ·have a:i < i'.size:=by rw[h.1];exact d
  obtain⟨e,c,b⟩:=h.2 i i'[i] (Cy a);rw[Ap,c,Eg,Cy a,b];rfl
 ·rw[Dk (by rw[Dg,h.1];omega),Dk (by simp<;>omega)]
theorem KN(hh:A.handled=af)(hs:SetTb w s.heap a es ep t)(h64:es.size < 64)
  (h:∀(h':Heap)(tk:Nat)(dr:Drawn)(vs:List (Int×Ag)),vs.Perm es.toList->(∀b o,s.heap.get? b=ae o->h'.get? b=ae o)->R (vs.map (·.2)) {s with heap:=h',toks:=tk,drawn:=dr}):
  A2 (A8 prog w) A (collect (.ref a)) R E s:=by
 refine Aa (wpAny_runValue (Dm QG (Aa (By ?_))));refine Ah ⟨E2 PySem.F.plain_list_iadd _,Dm VD ?_⟩;have n:(s.heap.push {cls:=.type "list",data:=.seq ([]:List Ag).toArray}).get? s.heap.objs.size=ae {cls:=.type "list",data:=.seq #[]}:=Ar _ rfl;have m:=Vw (prog:=prog) (s:={ s with heap:=s.heap.push {cls:=.type "list",data:=.seq ([]:List Ag).toArray}})
  (R:=λq r=>∃(h':Heap)(tk:Nat)(dr:Drawn)(vs:List _)(d:Array Ag)(l:Nat),q=.ok _/\r={ s with heap:=h',toks:=tk,drawn:=dr}/\vs.Perm es.toList /\
   (∀b o,s.heap.get? b=ae o->h'.get? b=ae o)/\h'.get? s.heap.objs.size=ae {cls:=.type "list",dict:=af,data:=.seq d l,slots:=#[]}/\ItemsOf (j9 vs) d vs.length)
  hh (hs.move λo=>Ae _) h64 s.heap.objs.size (Ec hs.lt) (.ref s.heap.objs.size) n
  (λh' tk dr vs d l k j g c=>⟨h',tk,dr,vs,_,l,rfl,rfl,k,λb o e=>j b o (Bb (Aq e)) (Ae _ e),g,c⟩)
 refine De m (λfin r x=>?_) λe r x=>?_
 ·cases fin with
  |done f=>
   obtain⟨h',tk,dr,vs,d,l,e,rfl,k,j,g,c⟩:=x;cases e;refine Aa (wpAny_load g (Ah ?_));rw[xy c];exact h h' tk dr vs k j
  |again C=>
   refine⟨x.1,codeAny_mono x.2 λq B y=>?_⟩;obtain⟨h',tk,dr,vs,d,l,rfl,rfl,k,j,g,c⟩:=y;refine Aa (wpAny_load g (Ah ?_));rw[xy c];exact h h' tk dr vs k j
 ·obtain⟨_,_,_,_,_,_,z,_⟩:=x;cases z
end
def dO(w:Bj):Obj:={ cls:=.type "set",dict:=af,data:=.set #[] 0 (.fresh 0 0 (!da w))}
section
variable{prog:A9}{w:Bj}{A:Bn}{E:Ag->Aj->Prop}{s:Aj}
theorem Mw(e:h.get? a=ae (dO w)):iA w h a []:=
 ⟨#[],0,_,⟨⟨_,e,⟨rfl,rfl,rfl⟩,rfl⟩,rfl,rfl,λ_=>rfl⟩,λe b=>by simp at b,List.Pairwise.nil,λk=>by simp[cQ],Bh _⟩
theorem Sb(a)(h:Q₁ (.ref s.heap.objs.size) {s with heap:=s.heap.push (dO w)}):
  Gy (A8 prog w) A (.call (.builtin "set.__new__") ⟨[.type "set",a],[]⟩) (wants Q₁ E) s:=by
 refine codeAny_of_tree (Aa (Gm (F.newCall_set_1 a) (Ah ⟨E2 F.plain_set_new _,Dm F.entry_set_new ?_⟩)));unfold Ey.«set.__new__» Builtin.Frozenset.newClass;have b:=sub_set_self;dsimp only
 wp_walk
 exact wpAny_askSetting (Ah (Aa (wpAny_alloc (Ah (Ah h)))))
structure TxSrc(prog:A9)(w:Bj)(T:String)(x:A_)(ks:List Str)(OK:Heap->Prop):Prop where
 type:∀s:Aj,OK s.heap->s.TypeIs (.ref x) T
 there:∀h:Heap,OK h->x < h.objs.size
 keep:∀h h':Heap,OK h->(∀o,h.get? x=ae o->h'.get? x=ae o)->OK h'
 notSet:isSubtype (.type T) (.type "set")=pure ai
 notFrozen:isSubtype (.type T) (.type "frozenset")=pure ai
 notDict:(Dl T==Dl "dict")=ai
 iter:∀s:Aj,OK s.heap->∃(oI:Obj)(St:Nat->Heap->Prop),
  (∀(A:Bn)(E:Ag->Aj->Prop)(Q:Ag->Aj->Prop),Q (.ref s.heap.objs.size) {s with heap:=s.heap.push oI}->A2 (A8 prog w) A (pyIter (.ref x)) Q E s) /\
  (∀A:Bn,A.handled=af->Walks prog w A s.heap.objs.size [s.heap.objs.size,x] [s.heap.objs.size] ks.length (iy ks) St)/\St 0 (s.heap.push oI)
set_option maxHeartbeats 3200000 in
theorem yK(K:TxSrc prog w T x ks OK)(hh:A.handled=af)(hok:OK s.heap)(h64:ks.length < 64)
  (h:∀(h':Heap)(tk:Nat),iA w h' s.heap.objs.size ks->(∀b o,b < s.heap.objs.size->s.heap.get? b=ae o->h'.get? b=ae o)->Q (.ref s.heap.objs.size) {s with heap:=h',toks:=tk}):
  A2 (A8 prog w) A (call (.type "set") [.ref x]) Q E s:=by
 obtain⟨c,tl,N⟩:=F.called_set.mro;have z:=F.called_set.made;have U:=F.called_set.sub;refine wpAny_call (codeAny_of_tree ?_);show A2 _ _ (callAny (.type "set") _) _ _ _;refine Ah ⟨Code.quiet_builtin _ ∅,Dm F.entry_type_call ?_⟩;rw[Around.under_plain (weight_type_call_type "set" [.ref x] []) rfl];have h1:=F.called_set.notType;have h2:=F.called_set.canCreate;have hct:=F.typeCall_set_1 (.ref x)
 repeat (any_goals (first|assumption|wp_step))
 refine codeAny_mono (Sb (.ref x) (E:=E) (Q₁:=λobj S=>obj=.ref s.heap.objs.size/\S={ s with heap:=s.heap.push (dO w)}) ⟨rfl,rfl⟩) λr S v=>?_;cases r with
 |error e=>exact v
 |ok fl=>
  cases fl with
  |ret obj=>
   obtain⟨rfl,rfl⟩:=v;have M:(s.heap.push (dO w)).get? s.heap.objs.size=ae (dO w):=Ar _ rfl;have hT:Shared.TypeIs {s with heap:=s.heap.push (dO w)} (.ref s.heap.objs.size) "set":=⟨_,M,rfl⟩;have V:=F.called_set.init.lookup;have hbi:=F.called_set.init.bind (.ref s.heap.objs.size)
   repeat (any_goals (first|assumption|wp_step))
   refine codeAny_mono (codeAny_call_builtin (R:=wants (λr O=>r=.none/\∃h' tk,O={ s with heap:=h',toks:=tk}/\iA w h' s.heap.objs.size ks /\
     (∀b o,b < s.heap.objs.size->s.heap.get? b=ae o->h'.get? b=ae o)) E) F.called_set.init.plain F.entry_set_init (check_set_init_1 hT ?_)) λz_ O g=>?_
   ·have f:OK (s.heap.push (dO w)):=K.keep _ _ hok λo=>Ae _;have X:Shared.TypeIs {s with heap:=s.heap.push (dO w)} (.ref x) T:=K.type {s with heap:=s.heap.push (dO w)} f;have L:=K.notSet;have J:=K.notFrozen;have hne:=K.notDict;unfold Ey.«set.__init__» noKeywords Builtin.Frozenset.updateFrom;generalize n:pyIter=PI
    wp_walk
    subst n;have q:A.in1.in1.in1.handled=af:=by simp[hh]
    obtain⟨oI,St,p,W,Y⟩:=K.iter {s with heap:=s.heap.push (dO w)} f;refine p _ _ _ ?_;refine Aa (wpAny_runValue ?_);have u:x < s.heap.objs.size:=K.there _ hok;have B:s.heap.objs.size∉[(s.heap.push (dO w)).objs.size,x]:=by
     rw[Ci];simp only[Ao,A4,A3,g_,not_or];exact⟨Bb (Nat.lt_succ_self _),Ec u⟩
    refine OU (W _ q).toS s.heap.objs.size B rfl h64 (ks.length-0) 0 _ ⋯ (Be _) Y (Mw (Ae _ M)) ?_;intro s' m i;obtain⟨h',g',d',C,H⟩:=s';have eg:g'=s.gens:=m.gens;have ed:d'=s.drawn:=m.drawn;have eo:H=s.os:=m.os;subst eg;subst ed;subst eo;show A2 _ _ _ _ _ _;refine Ah ?_;show A2 _ _ (ret Bv) _ _ _;refine Ah ⟨rfl,h',C,rfl,i,λb o P e=>?_⟩;have y:b≠s.heap.objs.size:=Bb P;have I:b≠(s.heap.push (dO w)).objs.size:=by
     rw[Ci];exact Bb (Eu P)
    exact m.heap b o (by simp only[Ao,A4,A3,g_,not_or];exact⟨y,I⟩) (Ae _ (Ae _ e))
   ·cases z_ with
    |error e=>exact g
    |ok t=>
     cases t with
     |ret r=>
      obtain⟨rfl,h',tk,rfl,i,G⟩:=g
      repeat (any_goals (first|assumption|wp_step))
      exact h _ _ i G
     |_=>exact g.elim
  |_=>exact v.elim
theorem U0(hk:∀i v,items[i]?=ae v->iy ks i v)(hl:items.size=ks.length):TxSrc prog w "list" x ks (λh=>h.IsList x items) where
 type:=λs h=>h.typeIs
 there:=λh hl=>let⟨_,e,_⟩:=hl;Aq e
 keep:=λh h' hl k=>let⟨o,e,r⟩:=hl;⟨o,k o e,r⟩
 notSet:=by rw[F8];kernel_rfl
 notFrozen:=by rw[F8];kernel_rfl
 notDict:=by decide
 iter:=λs hok=>⟨_,(λi h=>h.IsListIter s.heap.objs.size x i/\h.IsList x items),(λA E Q hq=>wpAny_pyIter_list hok hq),(λA hh=>by
  have W:=Walks.list (prog:=prog) (w:=w) hh s.heap.objs.size x (Bb (let⟨_,e,_⟩:=hok;Aq e)) items;refine⟨W.sub,W.frame,λi s Q E hi st hQ=>W.item i s Q E (by rw[hl];exact hi) st λv h' tk hv a b=>hQ v h' tk (hk i v hv) a b,?_,W.self⟩;rw[<-hl];exact W.done),⟨⟨_,Ar _ rfl,rfl,rfl⟩,hok.push _⟩⟩
theorem Nn(hk:∀i v,items[i]?=ae v->iy ks i v)(hl:items.size=ks.length):TxSrc prog w "tuple" x ks (λh=>h.IsTuple x items) where
 type:=λs h=>h.typeIs
 there:=λh hl=>let⟨_,e,_⟩:=hl;Aq e
 keep:=λh h' hl k=>let⟨o,e,r⟩:=hl;⟨o,k o e,r⟩
 notSet:=by rw[F8];kernel_rfl
 notFrozen:=by rw[F8];kernel_rfl
 notDict:=by decide
 iter:=λs hok=>⟨_,(λi h=>h.IsTupleIter s.heap.objs.size x i/\h.IsTuple x items),(λA E Q hq=>Dx hok hq),(λA hh=>by
  have W:=Walks.tuple (prog:=prog) (w:=w) hh s.heap.objs.size x (Bb (let⟨_,e,_⟩:=hok;Aq e)) items;refine⟨W.sub,W.frame,λi s Q E hi st hQ=>W.item i s Q E (by rw[hl];exact hi) st λv h' tk hv a b=>hQ v h' tk (hk i v hv) a b,?_,W.self⟩;rw[<-hl];exact W.done),⟨⟨_,Ar _ rfl,rfl,rfl⟩,hok.push _⟩⟩
end
def iH(w:Bj)(v:A_)(ks:List Str):HO:=.ext λh=>iA w h v ks
def sG(w:Bj):List V->Hp->VK->Prop:=λxs H Q=>∃(a:A_)(ks:List Str),xs=[.ref a]/\(H a=ae (.lst (ks.map V.str))\/H a=ae (.tup (ks.map V.str)))/\ks.length < 64/\∀v,H v=af->Q (.ref v) (upd H v (iH w v ks))
theorem CV(h:Vals (ks.map V.str) vs)(i)(v)(e:vs.toArray[i]?=ae v):iy ks i v:=by
 have c:vs[i]?=ae v:=by simp_all
 have b:=h.length;rw[Ad]at b;have d:i < ks.length:=b▸(Aw.mp c).1;obtain⟨u,a,f⟩:=h.get (by rw[Ap,Ai d];rfl);rw[c]at a;cases a;obtain⟨t,g⟩:=f;exact⟨_,t,Ai d,g⟩
theorem zv{ks:List Str}(h:Vals (ks.map V.str) vs):vs.toArray.size=ks.length:=by
 have a:=h.length;simp_all<;>omega
theorem Jc(hh:X.A.handled=af):CallR X (.type "set") (sG X.w):=by
 intro i s σ H P O Q I r h;obtain⟨a,C,rfl,j,d,q⟩:=h;obtain⟨u,rfl,L⟩:=f6 r;cases(L);have g:∀h' v,iA X.w h' s.heap.objs.size C->(∀b o,b < s.heap.objs.size->s.heap.get? b=ae o->h'.get? b=ae o)->EP X i σ Q _ {s with heap:=h',toks:=v}:=λh' v z F=>by
  have m:∃o,h'.get? s.heap.objs.size=ae o:=by
   obtain⟨x,y,t,T,_⟩:=z;obtain⟨o,e,_⟩:=T.obj;exact⟨o,e⟩
  refine⟨.ref s.heap.objs.size,_,I.laid (o:=iH X.w s.heap.objs.size C) (λb o e=>F b o (Aq e) e) (by simp) ⟨z,m,λh1 N q k=>?_⟩,rfl,q _ (I.hok.fresh (by simp))⟩;obtain⟨x,y,t,T,r⟩:=q;exact⟨x,y,t,T.move λo=>k _,r⟩
 rcases j with j|j
 ·obtain⟨E,J,c,f,D⟩:=I.hok a _ j;exact yK (U0 (CV f) (zv f)) hh ⟨_,D,rfl,_,rfl⟩ d g
 ·obtain⟨E,J,f,o,G,M,⟨n,K⟩,_⟩:=I.hok a _ j;exact yK (Nn (CV f) (zv f)) hh ⟨o,G,M,n,K⟩ d g
theorem Inv.drew{σ:St}(I:Inv X h_ σ H s)(dr):Inv X h_ σ H {s with drawn:=dr}:=⟨I.ok,I.os,I.bare,I.base,I.loc,I.cell,I.free,I.freeC,I.pin,I.hok,I.len⟩
theorem LL{σ:St}{h':Heap}(I:Inv X h_ σ H s)(hkp:∀b o,s.heap.get? b=ae o->h'.get? b=ae o)(hT:ir vs ks)(h64:ks.length < 64)
  (q:∀(D:A_)(ys:List Str),ys.Perm ks->ys.Pairwise (λa b=>¬b.cps.toList < a.cps.toList)->H D=af->Q (.ref D) (upd H D (.lst (ys.map V.str)))):
  vs.length<=As/\A2 (A8 X.prog X.w) X.A.in1.in1 (Ey.«list.sort» ⟨[.ref h'.objs.size],[]⟩) (λf s2=>f=.done (.ret .none)/\EP X h_ σ Q (.ref h'.objs.size) s2) X.xe {s with heap:=h'.push (Dy "list" vs.toArray 0),toks:=tk}:=by
 have K:=hT.1;refine⟨K▸ft ⋯,?_⟩;have p:(h'.push _).get? h'.objs.size=ae (Dy "list" vs.toArray 0):=Ar _ rfl;have n:∀(idx:List Nat) h3 c,idx.Perm _->(idx.map λi=>ks.getD i _).Pairwise _->
   (∀b o,b≠h'.objs.size->(h'.push (Dy "list" vs.toArray 0)).get? b=ae o->h3.get? b=ae o)->h3.get? h'.objs.size=ae _->EP X h_ σ Q _ {s with heap:=h3,toks:=tk}:=λidx h3 c B hw R S=>by
  have N:Inv X h_ σ H {s with heap:=h',toks:=tk}:=I.kept hkp;have x:=N.hok.fresh (Bh _);refine⟨.ref h'.objs.size,_,N.laid (o:=.lst _) (λb o e=>R b o (Bb (Aq e)) (Ae _ e)) (by simp) ⟨?_,_,c,wZ hT idx (λi u=>B9.mp (B.mem_iff.mp u)),S⟩,rfl,q _ _ (CY B) hw x⟩;rw[Ad,Ad,B.length_eq,Es];exact ft ⋯
 by_cases y:2<=vs.length
 ·refine KS.ls_sort p y ⋯ λe1 h4 m J=>kas_kind (T:=Dl "str") y (λf W=>?_) rfl rfl ?_
  ·obtain⟨j,v⟩:=B6.mp W;obtain⟨k,t,_,rfl⟩:=hT.2 j f v;exact .now
  ·have x:0 < vs.length:=by omega
   have r:=KS.wi_sort x;refine KS.wp_run (c:=KS.ltK ks) (St:=λs'=>s'={ s with heap:=h4,toks:=tk}) (λi j C s' u v hs hC=>?_) _ _ r rfl λs' G=>?_
   ·subst hs;obtain⟨P,t1,a1,a2⟩:=hT.2 i vs[i] (Ai u);obtain⟨L,t2,b1,Y⟩:=hT.2 j vs[j] (Ai v);unfold kas_ask;have g1:vs.getD i Bv=.str P t1:=by simp[u,a2]
    have g2:vs.getD j Bv=.str L t2:=by simp[v,Y]
    rw[g1,g2];have U:ks.getD i ⟨#[]⟩=P:=by simp[a1]
    have c2:ks.getD j ⟨#[]⟩=L:=by simp[b1]
    have:=hC _ rfl;unfold KS.ltK at this;rw[U,c2]at this;exact kas_lt_str this
   ·subst G;refine⟨m,λh3 c sb E=>⟨rfl,?_⟩⟩;have l:KS.Pm vs.length (KS.run (KS.ltK ks) _):=KS.Wi.out _ r;have M:=by
     have:=G4.mp l;omega
    refine n _ h3 c (by grind) (sD l.size (KS.sort_ok (KS.ordK ks) x)) (λb o O e=>(sb.2 b O).trans (J b o O e)) E
 ·refine KS.ls_short p ⋯ λh4 c m J=>⟨rfl,?_⟩;have el:vs=(Bc ks.length).map λi=>vs.getD i Bv:=by
   apply Ed (by simp[K]);intro i Z y;simp[Z]
  have F:h4.get? h'.objs.size=ae (Dy "list" (E8 ((Bc ks.length).map λi=>vs.getD i Bv)) c):=by rw[<-el];omega
  refine n _ h4 c (by simp) ?_ J F;have:(Bc ks.length).length<=1:=by simp;omega
  match hr:Bc ks.length,this with
  |[],_=>exact .nil
  |[i],_=>exact D2 _ _
def uz(w:Bj):List V->Hp->VK->Prop:=λxs H Q=>∃(v:A_)(ks:List Str),xs=[.ref v]/\H v=ae (iH w v ks)/\ks.length < 64 /\
 ∀(D:A_)(ys:List Str),ys.Nodup->(∀k,k∈ys↔k∈ks)->ys.Pairwise (λa b=>¬b.cps.toList < a.cps.toList)->H D=af->Q (.ref D) (upd H D (.lst (ys.map V.str)))
theorem MU{es vs:List (Int×Ag)}(h:∀e∈es,∃k t,e.2=.str k t/\e.1=hashStr w k)(p:vs.Perm es):ir (vs.map (·.2)) (vs.map λe=>gY e.2):=by
 refine⟨by rw[Ad,Ad],λj v a=>?_⟩;rw[Ap]at a;cases e:vs[j]? with
 |none=>rw[e]at a;cases a
 |some x=>
  rw[e]at a;obtain⟨k,t,b,_⟩:=h x (p.mem_iff.mp (A0 e));refine⟨k,t,?_,(B2 a)▸b⟩;rw[Ap,e];show ae (gY x.2)=ae k;rw[b];rfl
theorem RJ(hh:X.A.handled=af):CallR X (.builtin "sorted") (uz X.w):=by
 intro C s σ H Z W Q I r h;obtain⟨v,S,rfl,M,n,q⟩:=h;obtain⟨u,rfl,P⟩:=f6 r;cases(P);obtain⟨V,Y,t,T,N,L,K,E⟩:=(I.hok v _ M).1;have a:=G6 E n;refine KS.sorted_of (R:=λvs B=>∃(h':Heap)(i:Nat)(f:Drawn)(g:List Str),B={ s with heap:=h',toks:=i,drawn:=f}/\(∀b o,s.heap.get? b=ae o->h'.get? b=ae o)/\ir vs g/\g.Nodup/\(∀k,k∈g↔k∈S)/\g.length < 64)
  (KN hh T a λh' i f vs d J=>?_) ?_
 ·have z:=List.Perm.map (λe:Int×Ag=>gY e.2) d;exact⟨h',i,f,_,rfl,J,MU N d,z.nodup_iff.mpr L,λk=>z.mem_iff.trans (K k),by rw[Ad,d.length_eq];omega⟩
 rintro vs B ⟨h',i,f,g,rfl,p,G,l,m,a⟩
 exact LL (s:={ s with drawn:=f}) (I.drew f) p G a λD F d=>q D F (d.nodup_iff.mpr l) (λk=>d.mem_iff.trans (m k))
end L2
namespace DL
open PySem L2 Nb
section
variable{X:Cx}{o:Expr}{td:TE}{wd':DT}{pos p p2 ip:Pos}{W:Bj}
def gH(ys:List Str):Prop:=ys.Pairwise λa b=>¬b.cps.toList < a.cps.toList
def rm(w:DT):dq:=λδ n Q=>w δ n λx n1=>∃ks:List Str,(x=.d (.list (ks.map .str))\/x=.d (.tuple (ks.map .str)))/\ks.length < 64/\(∀k∈ks,k.length<=1000) /\
 ∀ys:List Str,ys.Nodup->(∀k,k∈ys↔k∈ks)->gH ys->Q (ys.map .str) n1
theorem GH{α:Type}:∀{xs ys:List α},xs.Nodup->(∀x∈xs,x∈ys)->xs.length<=ys.length
 |[],_,_,_=>Be _
 |x::xs,ys,d,h=>by
  obtain⟨f,c⟩:=D3.mp d;obtain⟨l,r,e⟩:=List.append_of_mem (h x Am);have:=GH (ys:=l++r) c λz b=>by
   have a:=h z (Ak _ b);rw[e]at a;rcases A1.mp a with q|q
   ·exact Ep _ q
   ·rcases Ao.mp q with q|q
    ·exact f_ (q▸b) f
    ·exact Bw _ q
  simp_all<;>omega
theorem sQ:∀{xs:List V}{ks:List Str},RdXs H B xs (ks.map .str)->xs=ks.map V.str
 |[],[],_=>rfl
 |_::_,[],h=>nomatch h
 |[],_::_,h=>nomatch h
 |x::xs,k::ks,.cons h t=>by
  cases h;rw[sQ t];rfl
theorem QA(hh:X.A.handled=af)(hg:Gl X "sorted")(hm:X.mg "sorted"=af)(hg2:Gl X "set")(hm2:X.mg "set"=af)(ho:DE X o td wd')(hW:X.w=W:=by rfl)(hv:Br "sorted"=ae (.builtin "sorted"):=by decide +kernel)(hv2:Br "set"=ae (.type "set"):=by decide +kernel)
  (he2:Au [o] X.env=(ai,eval o X.env)::Au [] X.env:=by rfl) (hpl2:(C6 ip (Au [] X.env)).any (·.1)=ai:=by rfl)
  (he':Au [Expr.Call (.Name "set" p2) [o] [] ip] X.env=(ai,eval (Expr.Call (.Name "set" p2) [o] [] ip) X.env)::Au [] X.env:=by rfl) (p_:(C6 pos (Au [] X.env)).any (·.1)=ai:=by rfl):
  DF X (.Call (.Name "sorted" p) [.Call (.Name "set" p2) [o] [] ip] [] pos) (fM (uz W) (cU (fM (sG W) (cU td bP)) bP)) (rm wd'):=by
 subst hW;refine⟨j7 (RJ hh) hg hm hv (cj (mM (Jc hh) hg2 hm2 hv2 (cj ho.pe dG he2) ∎ ∎ he2 hpl2) dG he') ∎ ∎ he' p_,λC H B σ δ n Q M R q k=>
  ho.sd C H B σ δ n _ _ R q λv x b L t F E J=>?_⟩
 obtain⟨h,N,f,I,V⟩:=J;have c:∀a:A_,v=.ref a->(b a=ae _\/b a=ae _)->fM (uz X.w) (cU (λσ=>sG X.w [v]) bP) σ b M:=λa G Z=>by
  subst G;refine⟨a,h,rfl,Z,f,λu s=>⟨u,h,rfl,br,f,λD Y z hm O i=>?_⟩⟩;have j:b D=af:=by
   cases e:b D with
   |none=>rfl
   |some T=>
    have:upd b u (iH X.w u h) D=ae T:=(aX (b5 e s))▸e
    simp_all<;>omega
  have g:=λy g=>I y ((hm y).mp g);refine k D _ _ _ L ((t.new (o:=iH X.w u h) s).new i) ((F.trans (Kp.new s)).trans (Kp.new i)) (t.was F j) br ?_ (nG g) (V Y z hm O);rw[Ad];have:=GH z λy=>(hm y).mp;exact ft ⋯
 rcases N with rfl|rfl
 ·cases(show RdX b B v (.list _)from E)with
  |@lst a P _ r S K l=>exact c a rfl (.inl (by rw[r,sQ l]))
 ·cases(show RdX b B v (.tuple _)from E)with
  |@tup a P _ r S K l=>exact c a rfl (.inr (by rw[r,sQ l]))
def uc(c:bZ)(W:aE):aE:=λδ n K=>∃I:Nat->Sl->Int->Prop,(∃m,I m δ n)/\∀m δ n,I m δ n->
 c δ n λb n1=>if b=ah then W δ n1 {nx:=λδ n=>∃m',m' < m/\I m' δ n,rt:=K.rt,bk:=K.nx,ct:=λδ n=>∃m',m' < m/\I m' δ n,rn:=K.rn,rx:=K.rx}else K.nx δ n1
theorem QT(hc:DC X c tc cc)(hb:DSs X body tb V')(hp:PassesOwn (A8 X.prog X.w) X.A X.env X.xe:=by exact PassesOwn.never):DS X (.While c body [] pos) (EK tc tb) (uc cc V'):=⟨MK hp hc.pt hb.ps,λC H B σ δ n K D R q E=>by
 obtain⟨I,⟨l,k⟩,a⟩:=q;refine⟨λm σ H=>∃B δ n,Rel C H B σ δ n/\I m δ n,⟨l,B,δ,n,R,k⟩,λm σ H ⟨B,δ,n,R,i⟩=>hc.sd C H B σ δ n _ _ R (a m δ n i) λb h j g p f=>?_⟩;cases b with
 |true=>
  refine⟨λσ' o=>∃d,d < m/\∃B δ n,_,λσ' o z=>z,hb.sd C h B σ δ j _ _ g f ⟨?_,E.rt,?_,?_,E.rn,E.rx⟩⟩
  ·exact λH B σ δ n R ⟨d,e,z⟩=>⟨d,e,B,δ,n,R,z⟩
  ·exact E.nx
  ·exact λH B σ δ n R ⟨d,e,z⟩=>⟨d,e,B,δ,n,R,z⟩
 |false=>
  exact E.nx h B σ δ j g f⟩
variable{a:Expr}{ta:TE}{wa:DT}{K:Af}
end
section
variable{X:Cx}{a b c e o i f:Expr}{ta tb te td ty tx:TE}{wa wb we wd' wy wx:DT}{pos p:Pos}{K:Af}
def bY(i:Nat):DT:=λδ n Q=>match δ[i]? with
 |some (ae (.own ds))=>Q (.ln ds) n
 |some (ae (.w x))=>Q x n
 |_=>False
theorem Sn(i)(hN:X.N[i]?=ae x:=by rfl)(hv:ej X.env.scope x:=by first|exact Cc rfl|exact Bo (Cc rfl)|exact Bo (Bo rfl))(hd:(x==("__debug__":Str))=ai:=by decide)
  (q_:(x==("__classdict__":Str))=ai:=by decide):DE X (.Name x p) (bM i) (bY i):=⟨eZ hN hv hd q_,λC H B σ δ n Q o R h k=>by
 unfold bY at h
 split at h
 ·rename_i l e;obtain⟨v,b,a,f,rfl,j,q,g,m,d⟩:=R.sl i _ e;exact⟨_,b,k _ (.ln l) H n R (Kp.refl _ _) ⟨a,f,rfl,j,λz=>R.t0 (z▸g),m,d⟩ h⟩
 ·rename_i x e;obtain⟨v,b,c⟩:=R.sl i _ e;exact⟨v,b,k v x H n R (Kp.refl _ _) c.1 h⟩
 ·exact h.elim⟩
def a9:Wv->Wv->Int->DQ->Prop:=λx y n Q=>match x with
 |.ln ds=>match y with
  |.d (.int i)=>match c8 ds i with
   |some d=>Q (.d d) n
   |none=>False
  |_=>False
 |x=>aw x y n Q
theorem Ks:bq (ly K) a9:=λC H B σ δ n x y p q Q f R b c a k=>by
 cases p with
 |ln t=>
  unfold a9 at a;simp_all
  split at a
  ·rename_i i
   split at a
   ·rename_i d e;cases(show RdX H B y (.int i)from c);obtain⟨g,o,rfl,r,w,u,j⟩:=b;obtain⟨v,l,h⟩:=uf j e;exact .inl ⟨g,o,i,v,rfl,rfl,SqL.of r,l,k _ _ H n R (Kp.refl _ _) (wd h) a⟩
   ·exact a.elim
  ·exact a.elim
 |d _=>exact mf C H B σ δ n x y _ q Q f R b c a k
 |tp=>exact mf C H B σ δ n x y _ q Q f R b c a k
 |dk _=>exact mf C H B σ δ n x y _ q Q f R b c a k
 |dx _=>exact mf C H B σ δ n x y _ q Q f R b c a k
 |ob _=>exact mf C H B σ δ n x y _ q Q f R b c a k
theorem MG(ha:DE X a ta wa)(hb:DE X b tb wb)(hK:X.K=K:=by rfl)(hs:rT b:=by exact λ_ _=>rfl):DE X (.Subscript a b pos) (dQ (ly K) ta tb) (w2 wa wb a9):=by
 subst hK;exact⟨ie sR ha.pe hb.pe hs,pG Ks ha.sd hb.sd⟩
def eM(neg:Bool):Wv->Wv->Int->DQ->Prop:=λx y n Q=>match y with
 |.ln ds=>match x with
  |.d a=>fo a=ah/\ds.all fo=ah/\Q (.d (.bool (if neg then !cW a ds else cW a ds))) n
  |_=>False
 |y=>hZ neg x y n Q
theorem P9:bq (ib K neg) (eM neg):=λC H B σ δ n x y p q Q e R b c a k=>by
 cases q with
 |ln o=>
  unfold eM at a;dsimp only at a
  split at a
  ·rename_i z;obtain⟨i,h,q⟩:=a;obtain⟨g,j,rfl,l,s,r,f⟩:=c;refine⟨g,j,rfl,.inl (SqL.of l),kl b i,j2 f h,?_⟩;rw[lC b f];exact k _ _ H n R (Kp.refl _ _) (wd (.bl _)) q
  ·exact a.elim
 |d _=>exact k9 C H B σ δ n x y p _ Q e R b c a k
 |tp=>exact k9 C H B σ δ n x y p _ Q e R b c a k
 |dk _=>exact k9 C H B σ δ n x y p _ Q e R b c a k
 |dx _=>exact k9 C H B σ δ n x y p _ Q e R b c a k
 |ob _=>exact k9 C H B σ δ n x y p _ Q e R b c a k
def dD:List Wv->Int->DQ->Prop:=λxs n Q=>match xs with
 |[.ln ds]=>Q (.d (.int ds.length)) n
 |xs=>aI xs n Q
theorem NM:dv (uX K) dD:=λC H B σ δ n c d Q e R r h k=>by
 unfold dD at h
 split at h
 ·rename_i l;cases r with
  |cons f g=>
   cases g;obtain⟨a,i,rfl,j,o,m,b⟩:=f;refine .inr ⟨a,i,rfl,.inl (SqL.of j),?_⟩;rw[b.len];exact k _ _ H n R (Kp.refl _ _) (wd (.int _)) h
 ·exact BA C H B σ δ n c d Q e R r h k
def a8:Wv->Wv->Int->DQ->Prop:=λx y n Q=>match x,y with
 |.ln ds,.d (.list [])=>Q (.d (.bool ds.isEmpty)) n
 |x,y=>bj x y n Q
theorem UM:bq (lp K) a8:=λC H B σ δ n x y p q Q j R b c a k=>by
 unfold a8 at a
 split at a
 ·rename_i g;obtain⟨e,d,rfl,o,v,u,i⟩:=b;cases(show RdX H B y (.list [])from c)with
  |@lst f w _ l s t r=>
   cases r;refine .inr (.inr ⟨e,f,d,rfl,rfl,SqL.of o,SqL.of l,?_⟩);have:d.isEmpty=g.isEmpty:=by cases i<;>rfl
   rw[this];exact k _ _ H n R (Kp.refl _ _) (wd (.bl _)) a
 ·exact vB C H B σ δ n x y p q Q j R b c a k
def fE:Wv->Option (List Ab)
 |.ln ds=>ae ds
 |.d (.list ds)=>ae ds
 |_=>af
def fG:Wv->Wv->Int->DQ->Prop:=λx y n Q=>match fE x,fE y with
 |some i,ae j=>i.length+j.length<=As/\Q (.d (.list (i++j))) n
 |_,_=>False
theorem ny(h:WRel H B t v x)(e:fE x=ae ds):∃a xs,v=.ref a/\H a=ae (.lst xs)/\xs.length<=As/\RdXs H B xs ds:=by
 cases x with
 |ln j=>
  cases e;obtain⟨a,xs,l,c,p,g,f⟩:=h;exact⟨a,xs,l,c,g,f⟩
 |d y=>
  cases y with
  |list j=>
   cases e;cases(show RdX H B v (.list ds)from h)with
   |@lst a xs _ n q i k=>exact⟨a,xs,rfl,n,i,k⟩
  |_=>cases e
 |tp=>cases e
 |dk _=>cases e
 |dx _=>cases e
 |ob _=>cases e
theorem SH:bq iG fG:=λC H B σ δ n x y p q Q E R s t c k=>by
 unfold fG at c
 split at c
 ·rename_i i j o v;obtain⟨l,f,rfl,w,D,e⟩:=ny s o;obtain⟨r,g,rfl,u,A,h⟩:=ny t v;obtain⟨m,q⟩:=c;have d:f.length+g.length<=As:=by rw[e.len,h.len];exact m
  refine⟨l,r,f,g,rfl,rfl,w,u,d,λpn a=>k _ _ _ n (R.new a) (Kp.new a) (wd (show RdX _ B _ (.list _)from .lst br (R.nb a) (by simp<;>omega) ?_)) q⟩;exact((e.append h).fresh a).less λb=>.inl
 ·exact c.elim
theorem MV(ha:DE X a ta wa)(hb:DE X b tb wb):DE X (.BinOp a .Add b pos) (dQ iG ta tb) (w2 wa wb fG):=gV v7 SH ha hb
end
section
variable{X:Cx}{a b c e o i f:Expr}{ta tb te td ty tx:TE}{wa wb we wd' wy wx:DT}{pos p:Pos}{K:Af}
def d7(w:DT)(g:dE):aE:=λδ n K=>w δ n λx n1=>match x with
 |.d d=>g d δ λδ'=>K.nx δ' n1
 |_=>False
theorem IW(he:DE X e te we)(hg:DG X tg g gd)(hs:swapsWithSole [tg] e pos.line X.env=pure ai:=by rfl)(hw:swappedStores [tg] e X.env=pure af:=by rfl)
  (h1:(Cj [tg] X.env).map (·.2)=[assign tg X.env]:=by rfl):DS X (.Assign [tg] e pos) (bX te g) (d7 we gd):=⟨kU he.pe hg.pg hs hw h1,λC H B σ δ n K D R q E=>
 he.sd C H B σ δ n _ _ R q λv x h i f s j a=>by
  cases x with
  |d d=>exact hg.sd C h B σ δ i v d _ _ f j a λσ' o=>E.nx _ _ _ _ _
  |tp=>exact a.elim
  |dk _=>exact a.elim
  |dx _=>exact a.elim
  |ln _=>exact a.elim
  |ob _=>exact a.elim⟩
def mS:Wv->Option (List Ab)
 |.ln ds=>ae ds
 |.d (.list ds)=>ae ds
 |.d (.tuple ds)=>ae ds
 |_=>af
theorem La(h:WRel H B t v x)(e:mS x=ae ds):∃a xs,v=.ref a/\(SqL K H a xs\/SqT K H a xs)/\xs.length<=As/\RdXs H B xs ds:=by
 cases x with
 |ln k=>
  cases e;obtain⟨a,xs,p,l,u,n,m⟩:=h;exact⟨a,xs,p,.inl (SqL.of l),n,m⟩
 |d y=>
  cases y with
  |list k=>
   cases e;cases(show RdX H B v (.list ds)from h)with
   |@lst a xs _ i q b c=>exact⟨a,xs,rfl,.inl (SqL.of i),b,c⟩
  |tuple k=>
   cases e;cases(show RdX H B v (.tuple ds)from h)with
   |@tup a xs _ i q b c=>exact⟨a,xs,rfl,.inr (SqT.of i),b,c⟩
  |_=>cases e
 |tp=>cases e
 |dk _=>cases e
 |dx _=>cases e
 |ob _=>cases e
def jz(w:DT):dq:=λδ n Q=>w δ n λx n1=>match mS x with
 |some ds=>Q ds n1
 |none=>False
theorem V3(hg:Gl X "list")(hm:X.mg "list"=af)(ho:DE X o td wd')(hK:X.K=K:=by rfl)(he:Au [o] X.env=(ai,eval o X.env)::Au [] X.env:=by rfl)(p_:(C6 pos (Au [] X.env)).any (·.1)=ai:=by rfl):
  DF X (.Call (.Name "list" p) [o] [] pos) (fM (xi K) (cU td bP)) (jz wd'):=
 ⟨mM (Hf hK) hg hm wK (cj ho.pe dG he) ∎ ∎ he p_,λC H B σ δ n Q u R q k=>ho.sd C H B σ δ n _ _ R q λv x t j d f r c=>by
  split at c
  ·rename_i s m;obtain⟨a,e,rfl,i,g,h⟩:=La r m;exact⟨a,e,rfl,i,λl b=>k l e s _ j (d.new b) (f.trans (Kp.new b)) (d.was f b) br g (h.fresh b) c⟩
  ·exact c.elim⟩
def fV:List Wv->Int->DQ->Prop:=λxs n Q=>match xs with
 |[.ln ds]=>Q (.d (.tuple ds)) n
 |xs=>eT xs n Q
theorem L8:dv (xq K) fV:=λC H B σ δ n g i Q j R r h k=>by
 unfold fV at h
 split at h
 ·rename_i d;cases r with
  |cons m o=>
   cases o;obtain⟨c,p,rfl,q,s,e,f⟩:=m;refine⟨c,p,rfl,.inl ⟨SqL.of q,λl a=>k _ _ _ n (R.new a) (Kp.new a) (wd (show RdX _ B _ (.tuple d)from .tup br (R.nb a) e ?_)) h⟩⟩;exact(f.fresh a).less λb=>.inl
 ·exact zZ C H B σ δ n g i Q j R r h k
def fZ(i:Nat)(w:DT):aE:=λδ n K=>match δ[i]? with
 |some (ae (.own ds))=>w δ n λx n1=>match x with
  |.d (.list es)=>(ds.length < 1000000/\es.length < 1000000)/\K.nx (δ.set i (ae (.own (ds++es)))) n1
  |_=>False
 |_=>False
theorem mL(h:n < 1000000)(h':m < 1000000):n+m<=As:=by
 have:2000000<=As:=by decide
 omega
theorem TV{i:Nat}{xp ap cp:Pos}(hN:X.N[i]?=ae x)(he:DE X e te we)(hv:ej X.env.scope x:=by first|exact Cc rfl|exact Bo (Cc rfl)|exact Bo (Bo rfl))(hd:(x==("__debug__":Str))=ai:=by decide)
  (q_:(x==("__classdict__":Str))=ai:=by decide)
  (hbase:Gi (.Name x xp) "extend" X.env (eval (.Name x xp) X.env)=eval (.Name x xp) X.env:=by rfl)
  (hfew:((C6 cp (Au [e] X.env)).all (λx=>!x.1)&&(backToKw cp (keywordEach [] X.env)).all (λx=>x.1.isSome)
   && decide ([e].length+([]:List Keyword).length+(if ([]:List Keyword).isEmpty then 0 else 1) < 30))=ah:=by rfl)
  (hline:(ap.endLine==cp.line)=ah:=by rfl) (hs:Au [e] X.env=[(ai,eval e X.env)]:=by rfl) (hplain:(C6 cp (Au [] X.env)).any (·.1)=ai:=by rfl)
  (hsw:Cp (.Call (.Attribute (.Name x xp) "extend" ap) [e] [] cp) af pos.line X.env=pure ai:=by rfl):
  DS X (.Expr (.Call (.Attribute (.Name x xp) "extend" ap) [e] [] cp) pos) (nT (oe X.K "list" yE (bM i) (cU te bP))) (fZ i we):=
 ⟨qj (q0 Ga PySem.F.slot_list_extend PySem.F.type_list_extend Wl (eZ hN hv hd q_) (cj he.pe dG hs) hbase hfew hline hs hplain) hsw,λC H B σ δ n K D R q E=>by
  unfold fZ at q
  split at q
  ·rename_i T k;obtain⟨v,hv,a,m,rfl,p,d,f,Q,l⟩:=R.sl i _ k;refine⟨_,hv,.inl ⟨rfl,_,SqL.of p⟩,he.sd C H B σ δ n _ _ R q λu y I S G r L c=>?_⟩
   split at c
   ·rename_i A;have g:a≠C.t:=λz=>R.t0 (z▸f);cases(show RdX I B u (.list A)from L)with
    |@lst b j _ J O P s=>
     have h:m.length+j.length<=As:=l.len▸s.len▸mL c.1.1 c.1.2;refine⟨a,b,m,j,rfl,rfl,(r _ _ p g),J,h,E.nx _ _ _ _ _ (G.mutOwn k rfl hv d f ?_ rfl) c.2⟩;refine⟨a,_,rfl,br,d,f,An▸h,RdXs.keep (λb o e n=>?_) ((l.kp r R.bt).append s)⟩;rw[aX λ(z:b=a)=>n (z▸d)];exact e
   ·exact c.elim
  ·exact q.elim⟩
def iC(i j:Str):Bool:=!(G3 j i 0 j.length 1).isEmpty
def kZ(neg:Bool):Wv->Wv->Int->DQ->Prop:=λx y n Q=>match x,y with
 |.d (.str i),.d (.str j)=>Q (.d (.bool (if neg then !iC i j else iC i j))) n
 |_,_=>False
theorem Ur(H)(B):RdXs H B qW kR:=.cons .non (.cons .non (.cons .non (.cons (.int _) (.cons (.int _) .nil))))
def eO(i:Nat):DT:=λδ n Q=>match δ[i]? with
 |some (ae (.w .tp))=>Q (.ln kR) n
 |_=>False
theorem Tz(i){x:Str}{ix:Int}{p p2:Pos}{jj}(hK:X.K=K:=by rfl)(hN:X.N[i]?=ae x:=by rfl)(hv:ej X.env.scope x:=by first|exact Cc rfl|exact Bo (Cc rfl)|exact Bo (Bo rfl))(hd:(x==("__debug__":Str))=ai:=by decide)
  (q_:(x==("__classdict__":Str))=ai:=by decide):DE X (.Subscript (.Name x p) (.Constant (.int 3) jj p2) pos) (dQ (ly K) (bM i) (tC (.int 3))) (eO i):=by
 subst hK;refine⟨ie sR (eZ hN hv hd q_) cm (λ_ _=>rfl),λC H B σ δ n Q g R h k=>?_⟩;unfold eO at h
 split at h
 ·rename_i e;obtain⟨v,f,c⟩:=R.sl i _ e;cases(c.1);obtain⟨a,b,d,_⟩:=R.tp.ob;refine⟨_,f,.inl ⟨C.t,_,3,_,rfl,rfl,SqL.of d,eW rfl,k _ (.ln kR) H n R (Kp.refl _ _) ⟨_,_,rfl,R.tp.ag rfl,R.tp.gne,by decide,Ur _ _⟩ h⟩⟩
 ·exact h.elim
end
end DL
namespace L2
open PySem PySem.Spec PyProof.Rows
end L2
namespace DL
open PySem L2 Nb
end DL
namespace HT
open PySem PyProof.Rows
open PySem.SeqAt
open PySem.AutoSeq1 (wpAny_loadPart')
open PySem.MeetsSeq PySem.MeetsSeq2 PySem.MeetsSeq3
section
variable{prog:A9}{w:Bj}{A:Bn}{E:Ag->Aj->Prop}{s:Aj}
theorem getItem_tuple_whole{lo hi:Option Int}(ht:IsTup s.heap t items)(hs:s.heap.IsSliceOf sl vl vu .none)(pl:IsPart vl lo)(pu:IsPart vu hi)
  (h0:sIx items.size 0 lo=0) (h1:sIx items.size items.size hi=items.size) (h:Q (.ref t) s):A2 (A8 prog w) A (Gx (.ref t) (.ref sl)) Q E s:=by
 obtain⟨e,d,b,f⟩:=id hs;have c:s.TypeIs (.ref sl) "slice":=⟨e,d,b⟩;unfold Gx
 try with_reducible refine Bt ?_
 first|refine Aa _|skip
 refine Aa (wpAny_sequenceKey ht.typeIs ∎ ?_);refine Aa (Bi ht.typeIs Cm
  (Bs Cm ht.typeIs entry_tuple_getitem ?_ (by trivial)))
 show A2 _ _ (E6 _>>=_) _ _ s;refine Aa (tupleItemsOf_ ht (Aa (D1 c ?_)));refine Aa (ET hs pl pu ?_);have a:(((sIx items.size 0 lo:Nat):Int)==0&&(1:Int)==1&&(sIx items.size items.size hi-sIx items.size 0 lo)==items.size)=ah:=by
  rw[h0,h1];simp
 show A2 _ _ (if _=ah then _ else _) _ _ s;rw[a' a];exact Aa (Aa (D1 ht.typeIs (Ah (Aa (Fk (Ah ⟨_,rfl,Ah h⟩))))))
end
end HT
namespace L2
open PySem PySem.Spec PyProof.Rows
def pM(K:Af):V->Option Int->Option Int->Hp->VK->Prop:=λx lo hi H Q=>∃a xs,x=.ref a/\SqT K H a xs/\HT.sIx xs.length 0 lo=0/\HT.sIx xs.length xs.length hi=xs.length/\Q (.ref a) H
theorem PX:SlR X (pM X.K):=by
 intro e s σ H x v w n u m y Q I f l g i h;obtain⟨a,j,rfl,k,o,p,q⟩:=h;cases f;obtain⟨c,r,d,t⟩:=I.tuple k;have b:c.toArray.size=j.length:=r.length.symm;exact⟨_,_,PyProof.Rows.slot_tuple_getitem.lookup,d.typeIs,HT.getItem_tuple_whole d l g i (by rw[b];omega) (by rw[b];omega) ⟨.ref a,H,I,rfl,q⟩⟩
end L2
namespace DL
open PySem L2 Nb
section
variable{X:Cx}{e:Expr}{te:TE}{we:DT}{pos p2:Pos}{K:Af}{lo hi:Option Expr}
abbrev jB:=Sl->Int->(Option Int->Int->Prop)->Prop
def cb:jB:=λ_ n Q=>Q af n
def b8(w:DT):jB:=λδ n Q=>w δ n λx n1=>match x with
 |.d (.int i)=>Q (ae i) n1
 |_=>False
def Tu(t:TO)(w:jB):Prop:=∀(C:Ctx)(H:Hp)(B:A_->Prop)(σ:St)(δ:Sl)(n:Int)(Q:Option Int->Int->Prop)(Q':Option Int->Hp->Prop),Rel C H B σ δ n->w δ n Q->
 (∀o H' n',Rel C H' B σ δ n'->Kp C.t H H'->Q o n'->Q' o H')->t σ H Q'
structure DOp(X:Cx)(o:Option Expr)(t:TO)(w:jB):Prop where
 po:PO X o t
 sd:Tu t w
theorem RH:DOp X af Ho cb:=⟨HF,λC H B σ δ n Q a R q k=>k af H n R (Kp.refl _ _) q⟩
theorem Vj(h:DE X e te we):DOp X (ae e) (zT te) (b8 we):=⟨HA h.pe,λC H B σ δ n Q l R q k=>h.sd C H B σ δ n _ _ R q λv x b d c j f a=>by
 split at a
 ·rename_i i;cases(show RdX b B v (.int i)from f);exact⟨i,rfl,k _ b d c j a⟩
 ·exact a.elim⟩
def bz(xs:List Ab)(lo hi:Option Int):List Ab:=(xs.drop (HT.sIx xs.length 0 lo)).take (HT.sIx xs.length xs.length hi-HT.sIx xs.length 0 lo)
def cx(w:DT)(l u:jB):DT:=λδ n Q=>w δ n λx n1=>l δ n1 λa n2=>u δ n2 λb n3=>match x with
 |.d (.tuple ds)=>Q (.d (.tuple (bz ds a b))) n3
 |_=>False
def uo(K:Af):V->Option Int->Option Int->Hp->VK->Prop:=λx lo hi H Q=>pb K x lo hi H Q\/pM K x lo hi H Q
theorem Lq(he:DE X e te we)(hl:DOp X lo tl wl)(hh:DOp X hi th wh)(hK:X.K=K:=by rfl):DE X (.Subscript e (.Slice lo hi af p2) pos) (tI (uo K) te tl th) (cx we wl wh):=by
 subst hK;refine⟨sT (sl_tup.or PX) he.pe hl.po hh.po,λC H B σ δ n Q U R q k=>he.sd C H B σ δ n _ _ R q λv x J L y T O F=>
  hl.sd C J B σ δ L _ _ y F λa G I A s E=>hh.sd C G B σ δ I _ _ A E λb t u j o m=>?_⟩
 split at m
 ·rename_i i;have S:=(O.kp s y.bt).kp o A.bt;cases S with
  |@tup r d _ l N w f=>
   have D:=(T.trans s).trans o;by_cases g:HT.sIx d.length 0 a=0/\HT.sIx d.length d.length b=d.length
   ·refine .inr ⟨r,d,rfl,SqT.of l,g.1,g.2,k _ _ t u j D (wd (show RdX t B _ (.tuple i)from .tup l N w f)) ?_⟩;have:bz i a b=i:=by
     unfold bz;rw[<-f.len,g.1,g.2,List.drop_zero,Nat.sub_zero,f.len,Gv]
    simp_all
   ·refine .inl ⟨r,d,rfl,SqT.of l,g,λp h=>k _ _ _ u (j.new h) (D.trans (Kp.new h)) (wd (show RdX _ B _ (.tuple _)from .tup br (j.nb h) (A5 (rJ d a b) w) ?_)) m⟩;unfold bz fA;rw[<-f.len];exact(((f.drop _).take _).fresh h).less λb=>.inl
 ·exact m.elim
end
end DL
namespace Nb
open PySem L2
section
variable{X:Cx}
theorem J3(S it)(mine:Array Ag)(n)(items:Array Ag)(n2)(hc:o.cls=.type "tuple")(hd:o.data=.seq items n2)
  (hlong:¬(!mine.isEmpty&&Fn (mine.size+items.size))=ah) (hz1:mine.size<=As) (hz2:mine.size+items.size<=As+1) (hz3:items.size<=As):
  Meets (Ey.«list.extend» ⟨[.ref S,.ref it],[]⟩) (λ_ R s=>s.heap.get? S=ae {cls:=.type "list",data:=.seq mine n}/\s.heap.get? it=ae o/\R (.ok (.ret Bv)) {s with heap:=s.heap.update S (Ex λx=>x++items),toks:=s.toks}):=λprog w A R s h=>by
 obtain⟨b,a,d⟩:=h;show A2 _ A.in1 (Builtin.List.listExtendWith _ _ .none) _ _ s;refine Aa (D1 ⟨o,a,hc⟩ ?_);have c:(Fo (.ref S) (.ref it) || Dl "tuple"==Dl "list" || Dl "tuple"==Dl "tuple")=ah:=by simp
 simp only[c];refine Aa (Aa (Cb a hd (Ah ?_)));refine Aa (Aa (Cb b rfl (Ah ?_)));simp only[hlong];exact Aa (wpAny_updateSeq b rfl (Ah d) hz1 (by simp<;>omega))
def DW:V->List V->Hp->VK->Prop:=λx vs H Q=>∃l b xs zs,x=.ref l/\vs=[.ref b]/\H l=ae (.lst xs)/\H b=ae (.tup zs)/\xs.length+zs.length<=As/\Q .non (upd H l (.lst (xs++zs)))
theorem KA:qU X "list.extend" DW:=by
 intro k s σ H x J v K Q I o p h;obtain⟨l,b,M,E,rfl,rfl,j,t,L,q⟩:=h;cases o;obtain⟨u,rfl,C⟩:=p.one;cases C;obtain⟨z,c,n,r,D,e⟩:=I.lstM j;obtain⟨a,i,⟨N,B,A,w,m⟩,G⟩:=I.tuple (SqT.of t);have y:=i.length;have g:c.toArray.size+a.toArray.size<=As:=by simp<;>omega
 have d:¬(!c.toArray.isEmpty&&Fn (c.toArray.size+a.toArray.size))=ah:=by
  rw[sF g];simp
 refine call_meets F.slot_list_extend ⟨_,e,rfl⟩ F.entry_list_extend (by trivial)
  (J3 l b c.toArray n a.toArray w A m d (by simp_all) ⋯ (by simp_all)) ⟨e,B,?_⟩
 refine⟨.non,_,I.lset j e (by simp) (r.append i) ?_,rfl,q⟩;simp<;>omega
end
end Nb
namespace DL
open PySem L2 Nb
section
variable{X:Cx}{tg a b c e o i f:Expr}{ta tb te td ty tx:TE}{wa wb we wd' wy wx:DT}{pos p:Pos}{K:Af}
def m8(i:Nat)(w:DT):aE:=λδ n K=>match δ[i]? with
 |some (ae (.own ds))=>w δ n λx n1=>match x with
  |.d (.tuple es)=>(ds.length < 1000000/\es.length < 1000000)/\K.nx (δ.set i (ae (.own (ds++es)))) n1
  |_=>False
 |_=>False
theorem RS{i:Nat}{xp ap cp:Pos}(hN:X.N[i]?=ae x)(he:DE X e te we)(hv:ej X.env.scope x:=by first|exact Cc rfl|exact Bo (Cc rfl)|exact Bo (Bo rfl))(hd:(x==("__debug__":Str))=ai:=by decide)
  (q_:(x==("__classdict__":Str))=ai:=by decide)
  (hbase:Gi (.Name x xp) "extend" X.env (eval (.Name x xp) X.env)=eval (.Name x xp) X.env:=by rfl)
  (hfew:((C6 cp (Au [e] X.env)).all (λx=>!x.1)&&(backToKw cp (keywordEach [] X.env)).all (λx=>x.1.isSome)
   && decide ([e].length+([]:List Keyword).length+(if ([]:List Keyword).isEmpty then 0 else 1) < 30))=ah:=by rfl)
  (hline:(ap.endLine==cp.line)=ah:=by rfl) (hs:Au [e] X.env=[(ai,eval e X.env)]:=by rfl) (hplain:(C6 cp (Au [] X.env)).any (·.1)=ai:=by rfl)
  (hsw:Cp (.Call (.Attribute (.Name x xp) "extend" ap) [e] [] cp) af pos.line X.env=pure ai:=by rfl):
  DS X (.Expr (.Call (.Attribute (.Name x xp) "extend" ap) [e] [] cp) pos) (nT (oe X.K "list" DW (bM i) (cU te bP))) (m8 i we):=
 ⟨qj (q0 Ga PySem.F.slot_list_extend PySem.F.type_list_extend KA (eZ hN hv hd q_) (cj he.pe dG hs) hbase hfew hline hs hplain) hsw,λC H B σ δ n K D R q E=>by
  unfold m8 at q
  split at q
  ·rename_i T k;obtain⟨v,hv,a,m,rfl,p,d,f,Q,l⟩:=R.sl i _ k;refine⟨_,hv,.inl ⟨rfl,_,SqL.of p⟩,he.sd C H B σ δ n _ _ R q λu y G S A r J c=>?_⟩
   split at c
   ·rename_i w;have g:a≠C.t:=λz=>R.t0 (z▸f);cases(show RdX G B u (.tuple w)from J)with
    |@tup b j _ I O P s=>
     have h:m.length+j.length<=As:=l.len▸s.len▸mL c.1.1 c.1.2;refine⟨a,b,m,j,rfl,rfl,(r _ _ p g),I,h,E.nx _ _ _ _ _ (A.mutOwn k rfl hv d f ?_ rfl) c.2⟩;refine⟨a,_,rfl,br,d,f,An▸h,RdXs.keep (λb o e n=>?_) ((l.kp r R.bt).append s)⟩;rw[aX λ(z:b=a)=>n (z▸d)];exact e
   ·exact c.elim
  ·exact q.elim⟩
def fK(hs:List Str)(w:DT):DT:=λδ n Q=>w δ n λx n1=>match x with
 |.d a=>fo a=ah/\Q (.d (.bool (cW a (hs.map .str)))) n1
 |_=>False
theorem OD(hl:∀h∈hs,h.length<=1000)(hq:∀H,SqT K H q (hs.map V.str))(h:dY ta wa):dY (dQ (ib K ai) ta (tC (.ref q))) (fK hs wa):=λC H B σ δ n Q j R z k=>
 h C H B σ δ n _ _ R z λv x b g f i d a=>by
  split at a
  ·rename_i l;have c:RdXs b B _ (hs.map .str):=nG hl;refine⟨q,_,rfl,.inr (hq b),kl d a.1,j2 c ?_,k _ _ b g f i (wd (.bl _)) ?_⟩
   ·rw[Dt];exact Bu.mpr λ_ _=>rfl
   ·rw[lC d c];exact a.2
  ·exact a.elim
theorem Sd{xp:Pos}(ha:DE X a ta wa)(hg:Gl X x)(hm:X.mg x=ae (.ref q))(hq:∀H,SqT K H q (hs.map V.str))(hl:∀h∈hs,h.length<=1000:=by decide +kernel)(hK:X.K=K:=by rfl)(hd:(x==("__debug__":Str))=ai:=by decide)
  (hmk:Ce .In (Expr.Name x xp)=ai:=by with_unfolding_all rfl):DC X (.Compare a [.In] [.Name x xp] pos) (iB (dQ (ib K ai) ta (tC (.ref q)))) (cT (fK hs wa)):=
 ⟨ke (wH hK) ha.pe (vx hg hm rfl hd) hmk,j4 (OD hl hq ha.sd)⟩
end
abbrev eL:=List Wv->Int->(List Ab->Int->Prop)->Prop
def l5(S:eL):Sp:=λvs H Q _=>∃(t:A_)(l:TL)(ns:List Int)(B:A_->Prop)(ws:List Wv)(n:Int)(Q0:List Ab->Int->Prop),Tp H t l ns n/\B t/\(∀b,B b->H b≠af)/\ARel H B t vs ws/\S ws n Q0 /\
 ∀ds n',Q0 ds n'->∀a xs H',Tp H' t l ns n'->Kp t H H'->H a=af->H' a=ae (.lst xs)->xs.length<=As->RdXs H' (λb=>B b\/b=a) xs ds->Q (.ref a) H'
section
variable{X:Cx}{e:Expr}{es:List Expr}{pos p:Pos}{tR:TA}{wR:d0}{te:TE}{we:DT}
def lD(S:eL)(w:d0):dq:=λδ n Q=>w δ n λxs n1=>S xs n1 Q
theorem Wc(h:i6 t w):i8 (hU (l5 S) [] E0 t) (lD S w):=λC H B σ δ n Q z R q k=>
 h C H B σ δ n _ _ R q λvs s y p b d v i=>⟨C.t,C.l,_,B,s,p,Q,b.tp,b.bt,b.ba,by rw[Bk];exact v,i,λds j f a x r u c m o e g=>k a x ds r j (b.step u c) (d.trans c) (b.was d m) o e g f⟩
structure HasN(P:A9)(w:Bj)(K:Af)(mg:Str->Option Ag)(base:Heap)(k:Nat)(x:Str)(ps:List Str)(S:eL):Prop where
 ex:∃(f:A_)(fd:Ck),FnOk P w K mg base cV k f fd ps (l5 S)/\Binds K fd ps []/\mg x=ae (.ref f)/\C1 K (.ref f)=ah
theorem HasN.mk'(F:Fun K x qual st f fd)(m:mg x=ae (.ref f))(b:Binds K fd ps [])(h:FnOk P w K mg base cV k f fd ps (l5 S)):HasN P w K mg base k x ps S:=⟨f,fd,h,b,m,F.kp⟩
theorem Nd(h:HasN X.prog X.w X.K X.mg X.base k x ps S)(hr:Room k X.A)(hg:Gl X x)
  (ha:DA X (e::es) tR wR) (hdb:(x==("__debug__":Str))=ai:=by decide) (he:Au (e::es) X.env=(ai,eval e X.env)::Au es X.env:=by rfl) (p_:(C6 pos (Au es X.env)).any (·.1)=ai:=by rfl):
  DF X (.Call (.Name x p) (e::es) [] pos) (hU (l5 S) [] E0 tR) (lD S wR):=by
 obtain⟨f,g,d,a,b,c⟩:=h.ex;exact⟨pX d hr hg b c a .nil pV ha.pa hdb he p_,Wc ha.sd⟩
def lX(i:Nat):aE:=λδ n K=>match δ[i]? with
 |some (ae (.own ds))=>K.rn ds n
 |_=>False
theorem OQ(i){xp:Pos}(hN:X.N[i]?=ae x:=by rfl)(hv:ej X.env.scope x:=by first|exact Cc rfl|exact Bo (Cc rfl)|exact Bo (Bo rfl))(hd:(x==("__debug__":Str))=ai:=by decide)
  (q_:(x==("__classdict__":Str))=ai:=by decide):DS X (.Return (ae (.Name x xp)) pos) (jc (bM i)) (lX i):=⟨lQ (eZ hN hv hd q_),λC H B σ δ n K D R q E=>by
 unfold lX at q
 split at q
 ·rename_i l c;obtain⟨v,hv,a,j,rfl,k,f,g,h,d⟩:=R.sl i _ c;exact⟨_,hv,E.rn H B σ δ n a j l R g k h (d.less λb z=>z.elim id λe=>e▸f) q⟩
 ·exact q.elim⟩
theorem RdXs.rev:∀{vs:List V}{ds:List Ab},RdXs H B vs ds->RdXs H B vs.reverse ds.reverse
 |_,_,.nil=>.nil
 |_,_,.cons h r=>by
  rw[List.reverse_cons,List.reverse_cons];exact(RdXs.rev r).append (.cons h .nil)
end
section
variable{P:A9}{w:Bj}{K:Af}{mg:Str->Option Ag}{base:Heap}
theorem Fun.okN(F:Fun K x qual st f fd)(Sc:FnScope N ps (cE st))(len:∀ws n Q,S ws n Q->ws.length=ps.length)
  (hbody:∀(m_:Ag)(A:Bn)(outer:List Env)(s:Aj)(H:Hp)(E:XK),Room k (A.deeper (Dr qual (cE st) s.heap.objs.size f m_))->
   ∃T W,DSs (cS cV P w K mg base N qual (cE st) f m_ A outer s H E).nox (fC st) T W/\∀ws n Q,S ws n Q->W (dj N ws) n {nx:=λ_ _=>False,rt:=λ_ _=>False,rn:=Q}):FnOk P w K mg base cV (k+1) f fd ps (l5 S):=by
 refine F.ok Sc (λvs H Q E h=>?_) (λm_ A outer s H J Q E I h=>?_)
 ·obtain⟨t,l,o,B,ws,n,e,_,_,_,r,q,_⟩:=h;rw[r.len];exact len ws n e q
 ·obtain⟨t,l,o,B,ws,n,e,T,i,v,r,q,G⟩:=h;obtain⟨C,W,d,D⟩:=hbody m_ A outer s H E I;refine⟨C,d.ps,d.sd _ H B _ _ n _ _ (sI T i v r) (D ws n e q) ⟨?_,?_,?_,?_,?_,λ_ _ _ _ _ _ _ _ _ _ _ _ _ z=>z.elim⟩⟩
  ·exact λ_ _ _ _ _ _ z=>z.elim
  ·exact λ_ _ _ _ _ _ _ _ _ z=>z.elim
  ·exact λ_ _ _ _ _ _ z=>z.elim
  ·exact λ_ _ _ _ _ _ z=>z.elim
  ·exact λH' O σ δ L a y R c p u g j m=>G _ _ m a y H' c.tp c.kp p u g (j.less λb z=>z.elim (λz=>.inl (c.b0 b z)) .inr)
end
end DL
namespace Nb
open PySem L2
end Nb
namespace DL
open PySem L2 Nb
section
variable{X:Cx}{a b c e o i f:Expr}{ta tb te ty:TE}{wa wb we wy:DT}{pos p xp:Pos}{K:Af}{D:List (Str×Str)}{q:A_}{x:Str}
theorem Qd(h:n<=1000):n<=As:=A5 h ∎
def f5(wa wb:DT):dq:=λδ n Q=>wa δ n λx n1=>wb δ n1 λy n2=>match fE x,fE y with
 |some i,ae j=>i.length+j.length<=As/\Q (i++j) n2
 |_,_=>False
theorem Il(ha:DE X a ta wa)(hb:DE X b tb wb):DF X (.BinOp a .Add b pos) (dQ iG ta tb) (f5 wa wb):=⟨d4 v7 ha.pe hb.pe,λC H B σ δ n Q T R z k=>
 ha.sd C H B σ δ n _ _ R z λv x F G o p t M=>hb.sd C F B σ δ G _ _ o M λu y O w m f L e=>by
  split at e
  ·rename_i i j s K;obtain⟨E,h,rfl,J,S,g⟩:=ny (t.kp f o.bt) s;obtain⟨I,l,rfl,A,N,r⟩:=ny L K;obtain⟨D,q⟩:=e;have d:h.length+l.length<=As:=by rw[g.len,r.len];exact D
   refine⟨E,I,h,l,rfl,rfl,J,A,d,λpn c=>?_⟩;refine k pn _ _ _ w (m.new c) ((p.trans f).trans (Kp.new c)) (m.was (p.trans f) c) br (by simp<;>omega) ((g.append r).fresh c) q
  ·exact e.elim⟩
end
end DL
namespace L2
open PySem PySem.Spec PyProof.Rows PySem.SeqAt PySem.W
end L2
namespace L2
open PySem PySem.Spec PyProof.Rows
def DEs(h:Heap)(d:A_)(es:Array DictEntry)(ep:Nat):Prop:=∃o,h.get? d=ae o/\o.ExactDict/\o.data=.dict es ep
end L2
namespace L2
open PySem PySem.Spec PyProof.Rows PySem.SeqAt PySem.W
end L2
namespace L2
open PySem PySem.Spec PyProof.Rows PySem.W
section
variable{prog:A9}{w:Bj}{A:Bn}{E:Ag->Aj->Prop}{s:Aj}{d it:A_}{es:Array DictEntry}{ep i:Nat}
theorem DEs.ty(x:DEs s.heap d es ep):s.TypeIs (.ref d) "dict":=let⟨o,e,c,_⟩:=x;⟨o,e,c.1⟩
theorem zr(hd:(d==Dj)=ai)(x:DEs s.heap d es ep)
  (k:Q (.ref s.heap.objs.size) {s with heap:=s.heap.push {cls:=.type "dict_keyiterator",data:=.fields #[.ref d,.int 0 0,.int es.size 0,.int ep 0]}}):A2 (A8 prog w) A (pyIter (.ref d)) Q E s:=by
 obtain⟨o,b,c,a⟩:=id x;refine wpAny_pyIter_slot x.ty F.slot_dict_iter (Bs F.slot_dict_iter x.ty F.entry_dict_iter (Aa ?_) (by trivial));refine Aa (wpAny_notOrdered_dict x.ty (Ah ?_));refine(show A2 _ _ (Builtin.Dict.showsAll d>>=_) _ _ s from ?_);unfold Builtin.Dict.showsAll;rw[a_ (by rw[hd];decide)];refine Aa (Ah (Aa (wpAny_dictEntries b a (Aa (wpAny_dictEpoch b a (Aa (By (Ah ⟨_,rfl,_,_,⟨_,Ar _ rfl,rfl⟩,F.slot_dict_keyiterator_next.lookup,?_⟩))))))));assumption
theorem sf(y:s.heap.IsKeyIter it d i es.size ep)(x:DEs s.heap d es ep)
  (hI:i < es.size->∀h',h'.IsKeyIter it d (i+1) es.size ep->Cu it s.heap h'->Q (ae (es.getD i ⟨0,.none,.none⟩).key) {s with heap:=h'})
  (hE:es.size<=i->A.handled=af/\∀h',Heap.ExtBut it s.heap h'->Q af {s with heap:=h'}):A2 (A8 prog w) A (pyNext (.ref it)) Q E s:=by
 obtain⟨u,c,j,b⟩:=id y;obtain⟨o,h,k,g⟩:=id x;refine Aa (Eh (Bi y.typeIs F.slot_dict_keyiterator_next (Bs F.slot_dict_keyiterator_next y.typeIs F.entry_dict_keyiterator_next ?_ (F.args_dict_keyiterator_next_1 _))));refine Aa (Ah (Aa (Aa ?_)))
 first|refine Aa (G2 y.typeIs (Ah ?_))|refine Aa _
 refine Aa (F7 c b (show A2 _ _ _ _ _ s from ?_));refine Aa (Ah (Aa (wpAny_dictEntries h g ?_)));rw[a_ (by simp)];refine Aa (Ah (Aa (wpAny_dictEpoch h g ?_)));rw[a_ (by simp)];refine Ah ?_;by_cases f:i < es.size
 ·simp only[B8,Cy f];refine Aa ?_
  first|refine Aa (G2 y.typeIs (Ah ?_))|refine Aa _
  refine Aa (wpAny_isOneOf_keyiter y.typeIs (show A2 _ _ (setField _ 1 _>>=_) _ _ s from Aa (Cw c b (by simp) ?_)));have z:(s.heap.update it (Obj.mapFields (·.setIfInBounds 1 _))).IsKeyIter it d (i+1) es.size ep:=
   ⟨_,Bq _ c (C4 (Bx b _)),(Et ..).trans j,by rw[Bx b];rfl⟩
  refine Aa (Bt (Aa (wpAny_isOneOf_keyiter z.typeIs ?_)));have e:=hI f _ z (Bg ..);rw[show es.getD i _=es[i] by simp[f]]at e;exact(Ah (Ah ⟨_,rfl,Ah e⟩))
 ·obtain⟨l,e⟩:=hE ⋯;simp only[B8,Array.getElem?_eq_none (show es.size<=i by omega)];refine Aa ?_
  first|refine Aa (G2 y.typeIs (Ah ?_))|refine Aa _
  refine(show A2 _ _ (setField _ 0 .none>>=_) _ _ s from Aa (Cw c b (by simp) (Aa ?_)));refine Aa (By (Aa (Gm (by rfl) (By (Aa (wpAny_handled ?_)) (by size_fits)))) (by size_fits));rw[show A.in1.handled=af by omega];refine Aa (Ah (wpAny_throw (?_:A2 _ _ _ _ _ _)));refine Aa (Ei ⟨_,Ar _ rfl,rfl⟩ Gw (?_:A2 _ _ _ _ _ _));exact Ah (e _ (((Bg ..).extBut.push _).push _))
theorem DEs.keep(x:DEs h d es ep)(k:∀o,h.get? d=ae o->h'.get? d=ae o):DEs h' d es ep:=let⟨o,e,r⟩:=x;⟨o,k o e,r⟩
theorem R9(lo:(d==Dj)=ai):KdlSrc prog w "dict" d d es.size (λi v=>(es[i]?).map (·.key)=ae v) (λh=>DEs h d es ep) where
 type:=λ_ x=>x.ty
 there:=λ_ x=>let⟨_,e,_⟩:=x;⟨Aq e,Aq e⟩
 keep:=λ_ _ x k=>x.keep (k d (.inl rfl))
 notList:=by decide
 notTuple:=by decide
 hint:=λ_ _ _ _ x=>kdl_hint_dict x.ty
 iter:=λA s t x=>by
  obtain⟨y,r,u⟩:=id x;refine⟨_,λi h=>h.IsKeyIter s.heap.objs.size d i es.size ep/\DEs h d es ep,λ_ _=>zr lo x,?_,⟨_,Ar _ rfl,rfl,rfl⟩,x.keep λo=>Ae _⟩;exact
   { sub:=λb c=>by simp at c;simp[c],frame:=λ_ _ _ a j=>⟨a.1.at (j _ (by simp)),a.2.keep (j d (by simp))⟩,item:=λi s' Q E g a f=>sf a.1 a.2 (λhi' h' z m=>f _ h' s'.toks (by simp[g]) ⟨z,a.2.keep λo=>m.extBut d o (Bb (Aq r))⟩ λb o c=>m.extBut b o (λh=>c (by simp[h]))) (λz=>f_ g ⋯),done:=λs' Q E a f=>sf a.1 a.2 (λz=>f_ z ⋯) (λ_=>⟨t,λh' p=>f h' s'.toks λb o c=>p b o (λh=>c (by simp[h]))⟩),self:=λ_ _ _ _ a=>wpAny_pyIter_keyiter a.1}
end
end L2
namespace L2
open PySem PySem.Spec PyProof.Rows PySem.SeqAt PySem.W
end L2
namespace DL
open PySem L2 Nb
section
variable{X:Cx}{a b c e o i f:Expr}{ta tb te td ty tx:TE}{wa wb we wd' wy wx:DT}{pos p:Pos}{K:Af}
theorem RdXs.takes:∀{vs:List V}{ds:List Ab},RdXs H B vs ds->∀k:Nat,RdXs H B (vs.take k) (ds.take k)/\RdXs H B (vs.drop k) (ds.drop k)
 |_,_,.nil,k=>by rw[List.take_nil,List.take_nil,List.drop_nil,List.drop_nil];exact⟨.nil,.nil⟩
 |_,_,.cons h r,0=>⟨.nil,.cons h r⟩
 |_,_,.cons h r,k+1=>⟨.cons h (RdXs.takes r k).1,(RdXs.takes r k).2⟩
end
end DL
namespace L2
open PySem PySem.Spec PyProof.Rows PySem.SeqAt PySem.W
end L2
namespace DL
open PySem L2 Nb
section
variable{X:Cx}{a b c e o i f:Expr}{ta tb te td ty tx:TE}{wa wb we wd' wy wx:DT}{pos p:Pos}{K:Af}
theorem RdXs.erase:∀{vs:List V}{ds:List Ab},RdXs H B vs ds->∀k:Nat,RdXs H B (vs.eraseIdx k) (ds.eraseIdx k)
 |_,_,.nil,_=>.nil
 |_,_,.cons h r,0=>r
 |_,_,.cons h r,k+1=>.cons h (RdXs.erase r k)
end
end DL
namespace HT
open PySem PyProof.Rows
section
variable{prog:A9}{w:Bj}{A:Bn}{E:Ag->Aj->Prop}{s:Aj}
theorem WS(n:Nat):Fi af af (-1) (n:Int)=((n:Int)-1,-1):=by
 rfl
theorem RN(n:Nat):Dd ((n:Int)-1) (-1) (-1)=n:=by
 unfold Dd;by_cases h:n=0
 ·subst h;rfl
 ·have a:(-1:Int) < n-1:=by omega
  simp_all
theorem SX{n:Nat}(hs:s.heap.IsSliceOf sl .none .none (.int (-1) t))(h:Q ((n:Int)-1,-1,n) s):
  A2 (A8 prog w) A (Builtin.Slice.sliceApplied (.ref sl) (pure (n:Int))) Q E s:=by
 obtain⟨d,b,c,a⟩:=id hs;refine Aa (Aa (B3 b a (x:=.none) rfl (Aa (B3 b a (x:=.none) rfl (Aa (B3 b a rfl (Ah (Aa (slicePart_int ?_)))))))));refine Aa (slicePart_none (Aa (slicePart_none (Aa (Ah ?_)))));show A2 _ _ _ _ _ s;show A2 _ _ (pure ((n:Int)-1,(-1:Int),Dd (n-1) (-1) (-1))) _ _ s;rw[RN];exact Ah h
theorem QP(xs:Array Ag):((Bc xs.size).filterMap λ(m:Nat)=>xs[((xs.size:Int)-1+(m:Int)*(-1)).toNat]?).toArray=xs.toList.reverse.toArray:=by
 congr 1
 have e:∀m∈Bc xs.size,xs[((xs.size:Int)-1+m*(-1)).toNat]?=ae (xs.getD (xs.size-1-m) Bv):=λm a=>by
  have a:=B9.mp a;have h:((xs.size:Int)-1+m*(-1)).toNat=xs.size-1-m:=by omega
  have g:xs.size-1-m < xs.size:=by omega
  rw[h];simp[g]
 have d:∀l:List Nat,(∀m∈l,m∈Bc xs.size)->(l.filterMap λ(m:Nat)=>xs[((xs.size:Int)-1+m*(-1)).toNat]?)=l.map λm=>xs.getD (xs.size-1-m) Bv:=by
  intro l
  induction l with
  |nil=>intro _;rfl
  |cons m r c=>
   intro a;rw[F6,e m (a m Am),Ba,c λk b=>a k (Ak _ b)]
 rw[d _ λm a=>a];apply Ed
 ·simp
 ·intro i f j;simp at f;have:xs.size-1-i < xs.size:=by omega
  simp[this]
theorem getItem_tuple_rev(ht:IsTup s.heap t items)(hs:s.heap.IsSliceOf sl .none .none (.int (-1) tk))
  (h:Q (.ref s.heap.objs.size) {s with heap:=s.heap.push {cls:=.type "tuple",data:=.seq items.toList.reverse.toArray}}) (hsz:items.size<=As):A2 (A8 prog w) A (Gx (.ref t) (.ref sl)) Q E s:=by
 have a:=by
  show items.toList.reverse.toArray.size<=As;rw[B4,D7];omega
 obtain⟨f,c,d,g⟩:=id hs;have b:s.TypeIs (.ref sl) "slice":=⟨f,c,d⟩;unfold Gx
 try with_reducible refine Bt ?_
 first|refine Aa _|skip
 refine Aa (wpAny_sequenceKey ht.typeIs ∎ ?_);refine Aa (Bi ht.typeIs Cm
  (Bs Cm ht.typeIs entry_tuple_getitem ?_ (args_tuple_getitem _ _)))
 show A2 _ _ (E6 _>>=_) _ _ s;refine Aa (tupleItemsOf_ ht (Aa (D1 b ?_)));refine Aa (SX hs ?_);have e:¬(((items.size:Int)-1==0&&(-1:Int)==1&&items.size==items.size)=ah):=by
  simp
 show A2 _ _ (if _=ah then _ else _) _ _ s;rw[a_ e,QP]
 first
  |exact Aa _
  |exact Aa (By (Aa (Ah (Ah ⟨_,rfl,Ah h⟩))) a)
  |exact Aa _
  |exact Aa _
end
end HT
namespace L2
open PySem PySem.Spec PyProof.Rows
section
variable{X:Cx}{e st:Expr}{te ts:TE}{pos p2:Pos}
def BJ(K:Af)(te ts:TE):TE:=λσ H Q=>te σ H λx H1=>ts σ H1 λy H2=>∃a xs,x=.ref a/\y=.int (-1)/\SqT K H2 a xs/\∀p,H2 p=af->Q (.ref p) (upd H2 p (.tup xs.reverse))
theorem NJ(he:PE X e te)(hs:PE X st ts)(hev:evalPart (ae st) X.env=eval st X.env:=by rfl):PE X (.Subscript e (.Slice af af (ae st) p2) pos) (BJ X.K te ts):=by
 intro c s σ H Q I h;refine Subscript_ (aP (he c s σ H _ I h) λv z ⟨x,E,u,n,m⟩=>wpAny_Slice ?_);refine Ah (Ah (aP (hs c z σ E _ u m) λvs g v=>?_));obtain⟨y,o,G,p,a,t,l,B,F,q⟩:=v;subst l;subst B;cases n;obtain⟨C,rfl⟩:=p;have f:Inv X c σ o {g with heap:=g.heap.push {cls:=.type "slice",data:=.fields #[.none,.none,.int (-1) C]}}:=G.kept λb w q=>Ae _ q;obtain⟨d,r,j,A⟩:=f.tuple F;have k:d.toArray.size=t.length:=r.length.symm;refine tail_any j.typeIs PyProof.Rows.slot_tuple_getitem.lookup (HT.getItem_tuple_rev j (Gp ..) ⟨.ref _,_,f.laid (λb w q=>Ae _ q) (Bh _) ?_,rfl,q _ (f.hok.fresh (Bh _))⟩ (by simp_all)) (by with_unfolding_all rfl);exact⟨by rw[D7];exact A,_,r.reverse,IsTupP.new _ _⟩
end
end L2
namespace DL
open PySem L2 Nb
section
variable{X:Cx}{a b c e o i f:Expr}{ta tb te td ty tx:TE}{wa wb we wd' wy wx:DT}{pos p p2 p3 p4:Pos}{K:Af}
def jJ(w:DT):DT:=λδ n Q=>w δ n λx n1=>match x with
 |.d (.tuple ds)=>Q (.d (.tuple ds.reverse)) n1
 |_=>False
theorem Mv{jj}(he:DE X e te we)(hK:X.K=K:=by rfl):DE X (.Subscript e (.Slice af af (ae (.UnaryOp .USub (.Constant (.int 1) jj p3) p4)) p2) pos) (BJ K te (rR (rU λi=>.int (-i)) (tC (.int 1)))) (jJ we):=by
 subst hK;refine⟨NJ he.pe (tN tH cm),λC H B σ δ n Q w R q k=>he.sd C H B σ δ n _ _ R q λv x u j g s l d=>?_⟩
 split at d
 ·rename_i f;cases(show RdX u B v (.tuple f)from l)with
  |@tup m r _ t A y h=>
   exact⟨1,rfl,m,r,rfl,rfl,SqT.of t,λp a=>k _ _ _ j (g.new a) (s.trans (Kp.new a)) (wd (show RdX _ B _ (.tuple f.reverse)from .tup br (g.nb a) (by rw[D7];omega) (((RdXs.rev h).fresh a).less λb z=>.inl z))) d⟩
 ·exact d.elim
end
end DL
namespace L2
open PySem PySem.Spec PyProof.Rows PySem.SeqAt
end L2
namespace DL
open PySem L2 Nb
end DL
namespace L2
open PySem PySem.Spec PyProof.Rows
section
variable{prog:A9}{w:Bj}{A:Bn}{E:Ag->Aj->Prop}{s:Aj}
theorem K5{z TI TO i1 i2 l1 l2:A_}(hh:A.handled=af)(D:ZipApart z TI TO i1 i2 l1 l2)
  (hz:IsZip s.heap z TI TO .none) (hTI:E3 s.heap TI (.ref i1) (.ref i2)) (hTO:E3 s.heap TO a b)
  (h1:s.heap.IsTupleIter i1 l1 k) (h2:s.heap.IsTupleIter i2 l2 k) (hl1:s.heap.IsTuple l1 xs) (hl2:s.heap.IsTuple l2 ys) (hx:xs[k]?=ae x) (hy:ys[k]?=af)
  (hE:∀h' e,(∀c o,c≠z->c≠TO->c≠i1->c≠i2->s.heap.get? c=ae o->h'.get? c=ae o)->(∃o,h'.get? e=ae o/\o.cls=.type "StopIteration")->E (.ref e) {s with heap:=h'}):
  A2 (A8 prog w) A (Ey.«zip.__next__» ⟨[.ref z],[]⟩) Q E s:=by
 show A2 _ _ (field _ 2>>=_) _ _ _;refine Aa (B3 hz rfl (x:=.bool ai) rfl (Aa (B3 hz rfl rfl ?_)));refine Aa (Cb hTI rfl (Aa ?_));refine Aa (B3 hz rfl rfl (Ah (Aa (Fk ?_))));refine Aa (B3 hz rfl rfl (Aa (Ek hz (by simp) λg1 f g=>?_)))
 replace f:IsZip g1 z TI TO .ellipsis:=f
 refine Aa (Aa (Aa (wpAny_onRaise ?_)));refine Aa (rQ (h1.extBut g.extBut D.i1z) (hl1.extBut g.extBut D.l1z) hx λg2 H h=>Ah ?_);have t:=h.extBut _ _ D.TOi1 (g.extBut _ _ D.TOz hTO);refine Aa (Cb t rfl (Aa (wpAny_updateSeq_pair t λg3 m i=>?_)))
 replace m:E3 g3 TO x b:=m
 refine Aa (wpAny_letGo (Ah (Aa (Aa (wpAny_onRaise ?_)))));refine Aa (tG hh (((h2.extBut g.extBut D.i2z).extBut h.extBut D.i12.symm).extBut i.extBut D.TOi2.symm)
  (((hl2.extBut g.extBut D.l2z).extBut h.extBut D.l2i1).extBut i.extBut D.l2TO) hy λg4 e q u=>?_)
 obtain⟨v,d,j⟩:=u;have r:=q _ _ D.i2z.symm (i.extBut _ _ D.TOz.symm (h.extBut _ _ D.i1z.symm f));have l:e≠z:=λx=>by grind
 refine Ek r (by simp) λg5 _ p=>hE g5 e (λc o n y C B x=>p.extBut _ _ n (q _ _ B (i.extBut _ _ y (h.extBut _ _ C (g.extBut _ _ n x))))) ⟨v,p.extBut _ _ l d,j⟩
theorem LF{z TI TO i1 i2 l1 l2:A_}(hh:A.handled=af)(D:ZipApart z TI TO i1 i2 l1 l2)
  (hz:IsZip s.heap z TI TO .none) (hTI:E3 s.heap TI (.ref i1) (.ref i2)) (hTO:E3 s.heap TO a b)
  (h1:s.heap.IsTupleIter i1 l1 k) (h2:s.heap.IsTupleIter i2 l2 k) (hl1:s.heap.IsTuple l1 xs) (hl2:s.heap.IsTuple l2 ys) (hx:xs[k]?=ae x) (hy:ys[k]?=af)
  (hQ:∀h',(∀c o,c≠z->c≠TO->c≠i1->c≠i2->s.heap.get? c=ae o->h'.get? c=ae o)->Q af {s with heap:=h'}):A2 (A8 prog w) A (pyNext (.ref z)) Q E s:=by
 have d:s.TypeIs (.ref z) "zip":=⟨_,hz,rfl⟩;refine Aa (Eh (Bi d Gh
  (Bs Gh d F.entry_zip_next (K5 hh D hz hTI hTO h1 h2 hl1 hl2 hx hy λh' e i h=>?_) (by trivial))))
 obtain⟨o,g,f⟩:=h;exact Aa (Ei ⟨o,g,f⟩ Gw (Ah (hQ _ i)))
end
def oJ(K:Af)(a b:A_):It:=
 ⟨λi H=>∃xs ys x y,SqT K H a xs/\SqT K H b ys/\xs[i]?=ae x/\ys[i]?=ae y,
  λi H v H'=>∃T x y,v=.ref T/\H T=af/\H'=upd H T (.tup [x,y])/\(∀xs,SqT K H a xs->xs[i]?=ae x)/\∀ys,SqT K H b ys->ys[i]?=ae y,
  λi H=>(∃xs,SqT K H a xs/\xs.length<=i)\/∃xs ys x,SqT K H a xs/\SqT K H b ys/\xs[i]?=ae x/\ys.length<=i⟩
theorem JY{K:Af}{a b z TI TO i1 i2:A_}(D:ZipApart z TI TO i1 i2 a b):Turn P w K (.Tuple elts kk pos) (oJ K a b) [z,TI,TO,i1,i2] z
  (λi h=>IsZip h z TI TO .none/\E3 h TI (.ref i1) (.ref i2)/\(∃x y,E3 h TO x y)/\h.IsTupleIter i1 a i/\h.IsTupleIter i2 b i) where
 mem:=by simp
 obj:=λi h j c d=>by
  obtain⟨g,f,⟨x,y,l⟩,⟨o1,e1,c1,d1⟩,⟨o2,e2,c2,d2⟩⟩:=j;simp only[Ao,A3,g_]at d;rcases d with rfl|rfl|rfl|rfl|rfl
  ·exact⟨_,g,λv q=>by trivial⟩
  ·exact⟨_,f,λv q=>by trivial⟩
  ·exact⟨_,l,λv q=>by trivial⟩
  ·exact⟨o1,e1,λv q=>by simp_all⟩
  ·exact⟨o2,e2,λv q=>by simp_all⟩
 keep:=λi h h' j k=>by
  obtain⟨g,f,⟨x,y,l⟩,n,t⟩:=j;exact⟨k z (by simp) _ g,k TI (by simp) _ f,⟨x,y,k TO (by simp) _ l⟩,n.at (k i1 (by simp)),t.at (k i2 (by simp))⟩
 item:=by
  intro X V Y N d i F s σ H E I C j R;subst V Y N;obtain⟨g,f,⟨x0,y0,l⟩,n,t⟩:=j;obtain⟨xs,ys,x,y,J,G,L,Z⟩:=R;obtain⟨B,A,p,_⟩:=I.tuple J;obtain⟨M,m,Q,_⟩:=I.tuple G;obtain⟨u,O,ru⟩:=A.get L;obtain⟨u',U,S⟩:=m.get Z;refine CI D g f l n t (p) (Q) (by simpa using O) (by simpa using U) λh' a1 a2 a3 a4 a5 a6 a7=>⟨_,rfl,wpAny_letOwnedTupleGo_zip a1 λh'' b1 r=>?_⟩;have kp:∀c o,c∉[z,TI,TO,i1,i2]->s.heap.get? c=ae o->h''.get? c=ae o:=λc o d e=>by
   simp only[Ao,A3,g_,not_or]at d;exact r.extBut _ _ d.1 (a7 c o d.1 d.2.2.1 d.2.2.2.1 d.2.2.2.2 e)
  refine⟨.ref s.heap.objs.size,upd H s.heap.objs.size (.tup [x,y]),I.many C kp (by simp) ⟨by show 2<=As;decide,[u,u'],.cons ru (.cons S .nil),_,(r.extBut _ _ (Ec (Aq g)) a5),rfl,⟨_,rfl⟩,rfl⟩,rfl,⟨_,x,y,rfl,(I.hok.fresh (by simp)),rfl,λzs q=>by rw[I.tuple_inj q J];exact L,λzs q=>by rw[I.tuple_inj q G];omega⟩,
   ⟨b1,r.extBut _ _ D.TIz (a7 _ _ D.TIz D.TITO D.TIi1 D.TIi2 f),⟨_,_,r.extBut _ _ D.TOz a2⟩,a3.extBut r.extBut D.i1z,a4.extBut r.extBut D.i2z⟩,λc d=>?_⟩
  have T:c < s.heap.objs.size:=by
   simp only[Ao,A3,g_]at d;rcases d with rfl|rfl|rfl|rfl|rfl
   ·exact Aq g
   ·exact Aq f
   ·exact Aq l
   ·obtain⟨_,e,_⟩:=n;exact Aq e
   ·obtain⟨_,e,_⟩:=t;exact Aq e
  rw[aX (Bb T)];exact(C c d).1
 done:=by
  intro X V Y N d i F s σ H E I C j R;subst V Y N;obtain⟨g,f,⟨x0,y0,l⟩,n,t⟩:=j;rcases R with⟨xs,hq,hx⟩|⟨xs,ys,x,J,G,L,Z⟩
  ·obtain⟨B,A,p,_⟩:=I.tuple hq;have hl:=A.length;refine yd (I.ok.hd d) D g f n (p) (by simp;omega) λh' k=>⟨rfl,I.many0 C λc o d e=>?_⟩;simp_all
  ·obtain⟨B,A,p,_⟩:=I.tuple J;obtain⟨M,m,Q,_⟩:=I.tuple G;have hl:=m.length;obtain⟨u,O,ru⟩:=A.get L;refine LF (I.ok.hd d) D g f l n t (p) (Q) (by simpa using O) (by simp;omega) λh' k=>⟨rfl,I.many0 C λc o d e=>?_⟩;simp_all
 self:=λ_ _ _ _ _ j=>wpAny_pyIter_zip j.1
def AG(K:Af)(ta:TA):TI:=λσ H R=>ta σ H λvs H1=>∃a b,vs=[.ref a,.ref b]/\(∃xs,SqT K H1 a xs)/\(∃ys,SqT K H1 b ys)/\R (oJ K a b) H1
theorem IE{elts:List Expr}{kk:Nat}{tpos:Pos}{p pos:Pos}(hg:Gl X "zip")(hm:X.mg "zip"=af)(ha:PA X [e1,e2] ta)(hs:Au [e1,e2] X.env=[(ai,eval e1 X.env),(ai,eval e2 X.env)]:=by rfl)(hs2:Au [e2] X.env=[(ai,eval e2 X.env)]:=by rfl):
  PI X (.Tuple elts kk tpos) (.Call (.Name "zip" p) [e1,e2] [] pos) (AG X.K ta):=by
 intro i s σ H R I h;refine Call_ (lE I hg hm Hg (Du (aP (ha pos i s σ H _ I h) λus k p=>?_) (by simp_all) (hs2▸rfl)));obtain⟨L,v,d,z,o⟩:=p;obtain⟨a,b,e,⟨M,G⟩,⟨O,C⟩,q⟩:=o;subst e;cases z with
 |cons r j=>
  cases j with
  |cons y j=>
   cases j;cases r;cases y;obtain⟨A,J,l,_⟩:=d.tuple G;obtain⟨n,u,f,_⟩:=d.tuple C;have x:a < k.heap.objs.size:=by obtain⟨_,e,_⟩:=id l;exact Aq e
   have B:b < k.heap.objs.size:=by obtain⟨_,e,_⟩:=id f;exact Aq e
   refine zV (l) (f) λh' m D t w E F=>wpAny_pyIter_zip m ⟨_,_,_,_,v,rfl,d.kept F,JY (zipApart_new x B),⟨m,D,⟨_,_,t⟩,w,E⟩,λc N=>?_,q⟩;have g:k.heap.objs.size<=c:=by
    grind
   exact d.fpOk g (d.hok.fresh g)
end L2
namespace DL
open PySem L2 Nb
section
variable{X:Cx}{a b:Expr}{ta tb:TE}{wa wb:DT}{pos p:Pos}{K:Af}
def vj(w w':DT):fS:=λδ n Q=>w δ n λx n1=>w' δ n1 λy n2=>match x,y with
 |.d (.tuple xs),.d (.tuple ys)=>ys.length<=xs.length/\Q (cJ xs ys) n2
 |_,_=>False
theorem Jt{elts:List Expr}{kk:Nat}{tpos:Pos}(hg:Gl X "zip")(hm:X.mg "zip"=af)(ha:DE X a ta wa)(hb:DE X b tb wb)(hK:X.K=K:=by rfl)(hs:Au [a,b] X.env=[(ai,eval a X.env),(ai,eval b X.env)]:=by rfl)(hs2:Au [b] X.env=[(ai,eval b X.env)]:=by rfl)
  (he1:Au [a,b] X.env=(ai,eval a X.env)::Au [b] X.env:=by rfl) (he2:Au [b] X.env=(ai,eval b X.env)::Au [] X.env:=by rfl):
  DI X (.Tuple elts kk tpos) (.Call (.Name "zip" p) [a,b] [] pos) (AG K (cU ta (cU tb bP))) (vj wa wb):=by
 subst hK;refine⟨IE hg hm (cj ha.pe (cj hb.pe dG he2) he1) hs hs2,λC H B σ δ n Q Q' R q k=>ha.sd C H B σ δ n _ _ R q λv x H1 n1 R1 k1 r1 q1=>hb.sd C H1 B σ δ n1 _ _ R1 q1 λu y r n2 R2 V r2 A=>?_⟩;have P:=r1.kp V R1.bt
 split at A
 ·rename_i s j;cases(show RdX r B v (.tuple s)from P)with
  |@tup aa g _ e1 e2 e3 e4=>
   cases(show RdX r B u (.tuple j)from r2)with
   |@tup ab h _ f1 f2 f3 S=>
    refine⟨aa,ab,rfl,⟨g,SqT.of e1⟩,⟨h,SqT.of f1⟩,k _ _ r n2 R2 (k1.trans V) (λfz l=>?_) A.2⟩;have m:=l.2 _ _ e1 e2;have L:=l.2 _ _ f1 f2;have I:(cJ s j).length=j.length:=by unfold cJ;simp<;>omega
    have l1:=e4.len;have l2:=S.len;refine⟨I▸S.len▸f3,λi H c F=>?_,λH c=>?_,λi H x H' d c W J=>?_⟩
    ·rw[I]at F;have h1:i < g.length:=by omega
     have h2:i < h.length:=by omega
     exact⟨g,h,_,_,SqT.of (c _ _ m),SqT.of (c _ _ L),Ai h1,Ai h2⟩
    ·by_cases hq:g.length<=h.length
     ·exact .inl ⟨g,SqT.of (c _ _ m),by omega⟩
     ·have hq':=by omega
      exact .inr ⟨g,h,g[h.length],SqT.of (c _ _ m),SqT.of (c _ _ L),by simp_all⟩
    ·obtain⟨T,x1,y1,rfl,t,rfl,hx,J⟩:=J;refine⟨λb o e=>(aX (b5 e t))▸e,λB' hB D=>?_⟩;have N:i < j.length:=by rw[<-I];exact(Aw.mp W).1
     have F:i < s.length:=by omega
     have ed:d=.tuple [s[i],j[i]]:=by
      unfold cJ at W;simp_all
     subst ed;obtain⟨u1,w,M⟩:=e4.getD (Ai F);obtain⟨u2,U,G⟩:=S.getD (Ai N);have Y:=hx _ (SqT.of (c _ _ m));have t2:=J _ (SqT.of (c _ _ L));rw[w]at Y;rw[U]at t2;cases Y;cases t2;have Z:∀b o,r b=ae o->¬B b->upd H T (.tup [x1,y1]) b=ae o/\¬B' b:=λb o e ne=>by
      have:=c _ _ (l.2 _ _ e ne);exact⟨(aX (b5 this t))▸this,hB _ _ (l.2 _ _ e ne)⟩
     exact .tup br (λz=>D T z t) (by show 2<=As;decide) (.cons (M.move Z) (.cons (G.move Z) .nil))
 ·exact A.elim
end
end DL
namespace L2
open PySem PySem.Spec PyProof.Rows
def vq(K:Af):R2:=λx y H Q=>∃a b ys,x=.ref a/\y=.ref b/\SqT K H a []/\SqT K H b ys/\Q (.ref b) H
theorem Le:OpR X (Fb .Add) (vq X.K):=by
 intro o s σ H x y v u Q I t z h;obtain⟨a,b,L,rfl,rfl,G,A,r⟩:=h;cases(t);cases(z);obtain⟨i,B,p,_⟩:=I.tuple G;obtain⟨d,J,D,_⟩:=I.tuple A;obtain⟨⟨E,q,_,C⟩,k,m,n,l⟩:=id p;obtain⟨⟨_,j,_,g⟩,f,c,w,e⟩:=id D;simp only at m l c e;subst m l c e;exact concat_meets ⟨_,k,rfl⟩ ⟨_,f,rfl⟩ noFill_tuple_add seq_tuple_add Ge Gb (by trivial)
  (tuple_addW0 a b i.toArray d.toArray n w q j C g (by simp[(B.nil_iff.mpr rfl)])) ⟨k,f,⟨.ref b,H,I,rfl,r⟩⟩
end L2
namespace DL
open PySem L2 Nb
section
variable{X:Cx}{a b:Expr}{ta tb:TE}{wa wb:DT}{pos p:Pos}{K:Af}
def d3:Wv->Wv->Int->DQ->Prop:=λx y n Q=>match x,y with
 |.d (.tuple []),.d (.tuple j)=>Q (.d (.tuple j)) n
 |x,y=>kL x y n Q
theorem MD:bq (λx y H Q=>sC K x y H Q\/vq K x y H Q) d3:=λC H B σ δ n x y p q Q o R d e b k=>by
 unfold d3 at b
 split at b
 ·rename_i j;cases(show RdX H B x (.tuple [])from d)with
  |@tup g v _ s w u m=>
   cases(show RdX H B y (.tuple j)from e)with
   |@tup h r _ f i l t=>
    cases m;exact .inr ⟨g,h,r,rfl,rfl,SqT.of s,SqT.of f,k _ _ H n R (Kp.refl _ _) ⋯ b⟩
 ·exact .inl (LJ C H B σ δ n x y _ _ Q o R d e b k)
theorem QI(ha:DE X a ta wa)(hb:DE X b tb wb)(hK:X.K=K:=by rfl):DE X (.BinOp a .Add b pos) (dQ (λx y H Q=>sC K x y H Q\/vq K x y H Q) ta tb) (w2 wa wb d3):=by
 subst hK;exact gV (op_addA.or Le) MD ha hb
end
end DL
namespace L2
open PySem PySem.Spec PyProof.Rows
section
variable{prog:A9}{w:Bj}{A:Bn}{E:Ag->Aj->Prop}{s:Aj}
theorem Rh:typeLookup (.type "list") "keys"=pure af:=by rw[typeLookup_type,Gz];kernel_rfl
set_option maxRecDepth 8000 in
theorem MO
  (hx:s.heap.get? a=ae o) (hc:o.cls=.type "list") (hdat:o.data=.seq xs k) (hd:o.dict=af) (hmiss:typeLookup (.type "list") name=pure af) (hname:(["__module__","__name__","__qualname__","__doc__","__annotations__"]:List Str).contains name=ai) (hA:A.handled=af)
  (h:∀h' tk e,Heap.NewExcOf s.heap h' e "AttributeError"->Q af {s with heap:=h',toks:=tk}) (hsz:name.length+100<=As:=by size_fits):
  A2 (A8 prog w) A (getAttr? (.ref a) name) Q E s:=by
 obtain⟨c,u,r,v⟩:=o;simp only at hc hdat hd;subst hc hdat hd;obtain⟨t,g,d,tk,q⟩:=s;have n:∀m,(⟨t,g,d,m,q⟩:Aj).TypeIs (.ref a) "list":=λ_=>⟨_,hx,rfl⟩;have C:=sub_AttributeError;have z:=F.slot_list_getattribute.lookup;have G:=F.slot_list_getattribute.bind (.ref a);have D:=am_list_getattr_none;unfold getAttr? getAttrBy? getAttrBy
 repeat (any_goals (first|assumption|exact n _|((with_reducible show A2 _ _ (call _ _ _) _ _ _);refine call_meets F.slot_list_getattribute (n _) am_entry_list_getattribute (F.args_list_getattribute_2 _ _) (meets_getattribute_miss_list a xs k v name _ hmiss hname hsz) ⟨hx,hA,λh' m e l=>?_⟩)|wp_step))
 obtain⟨B,y,x⟩:=l.there;show A2 _ _ _ _ _ _;simp
 repeat (any_goals (first|assumption|wp_step))
 exact h _ _ _ l.of
end
end L2
namespace DL
open PySem L2 Nb
end DL
namespace L2
open PySem PySem.Spec PyProof.Rows
end L2
namespace DL
open PySem L2 Nb
end DL
namespace L2
open PySem PySem.Spec PyProof.Rows
end L2
namespace DL
open PySem L2 Nb
end DL
namespace L2
open PySem PySem.Spec PyProof.Rows
theorem LB(n:Nat):sliceRange ((n:Int)-1) (-1) (-1)=(Bc n).map λi=>n-1-i:=by
 have e:(if (-1:Int) > 0 then(if (n:Int)-1 < -1 then(-1-((n:Int)-1)+-1-1) / -1 else 0)else(if (n:Int)-1 > -1 then(n-1 - -1-(-1)-1) / -(-1)else 0)).toNat=n:=by
  rw[a_ ∎]
  split
  ·have:((n:Int)-1 - -1-(-1)-1) / -(-1)=n:=by
    simp
   simp
  ·omega
 show(Bc (if _ > 0 then(if _-1 < -1 then(-1-_+-1-1) / -1 else 0)else(if _-1 > -1 then((n:Int)-1 - -1-_-1) / -(-1)else 0)).toNat).map _=_;rw[e];apply Cn;grind
theorem M3(i_:List Ag):slicePick i_.toArray af af (ae (-1))=i_.reverse.toArray:=by
 unfold slicePick;have h:Fj af af (ae (-1)) i_.toArray.size=((i_.length:Int)-1,-1,-1):=by
  rfl
 show((sliceRange ((i_.length:Int)-1) (-1) (-1)).filterMap _).toArray=_;rw[LB,List.filterMap_map]
 congr 1
 have g:∀l:List Nat,(∀m∈l,m < i_.length)->l.filterMap ((i_.toArray[·]?) ∘ λi=>i_.length-1-i)=l.map λm=>i_.getD (i_.length-1-m) Bv:=by
  intro l
  induction l with
  |nil=>intro _;rfl
  |cons m r f=>
   intro b;have d:=b m Am;have c:i_.length-1-m < i_.length:=by omega
   rw[F6,f λk e=>b k (Ak _ e)];simp[c]
 rw[g _ λm b=>B9.mp b];apply Ed
 ·simp
 ·intro i d c;simp at d;have:i_.length-1-i < i_.length:=by omega
  simp[this]
section
variable{X:Cx}{e st:Expr}{te ts:TE}{pos p2:Pos}
def ya(K:Af)(te ts:TE):TE:=λσ H Q=>te σ H λx H1=>ts σ H1 λy H2=>∃a xs,x=.ref a/\y=.int (-1)/\SqL K H2 a xs/\∀p,H2 p=af->Q (.ref p) (upd H2 p (.lst xs.reverse))
theorem Uy(he:PE X e te)(hs:PE X st ts)(hev:evalPart (ae st) X.env=eval st X.env:=by rfl):PE X (.Subscript e (.Slice af af (ae st) p2) pos) (ya X.K te ts):=by
 intro c s σ H Q I h;refine Subscript_ (aP (he c s σ H _ I h) λv A ⟨x,E,w,o,n⟩=>wpAny_Slice ?_);refine Ah (Ah (aP (hs c A σ E _ w n) λvs g v=>?_));obtain⟨y,p,G,t,a,u,m,C,F,q⟩:=v;subst m;subst C;cases o;obtain⟨l,rfl⟩:=t;have f:Inv X c σ p {g with heap:=g.heap.push {cls:=.type "slice",data:=.fields #[.none,.none,.int (-1) l]}}:=G.kept λb z q=>Ae _ q;obtain⟨d,r,j,B⟩:=f.list F;have k:d.toArray.size=u.length:=r.length.symm;refine tail_any j.isList.typeIs slot_list_getitem.lookup (wpAny_getItem_list_slice j.isList (Gp ..) .none .none (.int _ l) ∎ ?_ (by simp_all)) (by with_unfolding_all rfl);rw[M3];refine⟨.ref _,_,f.laid (λb z q=>Ae _ q) (Bh _) ?_,rfl,q _ (f.hok.fresh (Bh _))⟩;exact⟨by rw[D7];exact B,_,0,r.reverse,Ar _ rfl⟩
def Hx:List V->Hp->VK->Prop:=λxs H Q=>∃b,xs=[.bl b]/\Q (.str (if b then "True" else "False")) H
theorem RQ:CallR X (.builtin "repr") Hx:=by
 intro a s σ H d e Q I r h;obtain⟨b,rfl,q⟩:=h;obtain⟨u,rfl,c⟩:=f6 r;cases c;exact P.repr_of_bool ⟨.str _,H,I.tok _,⟨_,rfl⟩,q⟩
end
end L2
namespace DL
open PySem L2 Nb
section
variable{X:Cx}{e:Expr}{te:TE}{we:DT}{pos p p2 p3 p4:Pos}{K:Af}
def ml:List Wv->Int->DQ->Prop:=λxs n Q=>match xs with
 |[.d (.bool b)]=>Q (.d (.str (if b then "True" else "False"))) n
 |_=>False
theorem Lg:dv Hx ml:=λC H B σ δ n f g Q e R r h k=>by
 unfold ml at h
 split at h
 ·rename_i b;cases r with
  |cons c d=>
   cases d;cases(show RdX H B _ (.bool b)from c);exact⟨b,rfl,k _ _ H n R (Kp.refl _ _) (wd (.str _ (by cases b<;>exact Qd ∅))) h⟩
 ·exact h.elim
end
end DL
namespace L2
open PySem PySem.Spec PyProof.Rows
end L2
namespace DL
open PySem L2 Nb
section
variable{X:Cx}{o:Expr}{td:TE}{wd':DT}{pos p p2:Pos}{K:Af}
def vD:aJ->Ab
 |.inl i=>.int i
 |.inr x=>.str x
def n8(k:List aJ):Ab:=.tuple (k.map vD)
theorem xO{k:List aJ}:∀{vs:List V},RdXs H B vs (k.map vD)->vs=k.map kV:=by
 induction k with
 |nil=>intro vs h;cases h;rfl
 |cons x k b=>
  intro vs h;cases h with
  |cons h t=>
   rw[b t];cases x with
   |inl i=>cases(show RdX H B _ (.int i)from h);rfl
   |inr x=>cases(show RdX H B _ (.str x)from h);rfl
end
theorem Qi(ha:DE X a ta wa)(hb:DE X b tb wb):DE X (.BinOp a .Add b pos) (dQ (fT λi j=>.int (i+j)) ta tb) (w2 wa wb (bN λi j=>.int (i+j))):=gV op_add (Hj λ_ _ _ _=>.int _) ha hb
end DL
namespace L2
open PySem PySem.Spec PyProof.Rows
theorem zp(hh:A.handled=af)(it t)(hne:t≠it)(xs:Array Ag):Draws P w A it [it,t] xs.size (λi v=>xs[i]?=ae v) (λi h=>h.IsTupleIter it t i/\h.IsTuple t xs) where
 live:=λ_ _ z=>by obtain⟨⟨o,q,_⟩,_⟩:=z;exact⟨o,q⟩
 frame:=λ_ _ _ z k=>⟨z.1.at (k it (.head _)),z.2.at (k t (.tail _ (.head _)))⟩
 item:=λi s Q E c z k=>rQ z.1 z.2 (Cy c) λh' a b=>k _ h' s.toks (Cy c) ⟨a,z.2.extBut b.extBut hne⟩ b
 done:=λs Q E z=>tG hh z.1 z.2 (by simp)
abbrev rr(h:Heap)(l:A_):Heap:=h.push {cls:=.type "tuple_iterator",data:=.fields #[.ref l,.int 0 0]}
abbrev sY(h:Heap)(l:A_):Heap:=(rr h l).push {cls:=.type "enumerate",data:=.fields #[.none,.bool ai,.ref h.objs.size,Dh 0,.none,.none]}
theorem MZ(l)(xs)(n)(dc)(sl):
  Meets (Ey.«enumerate.__new__» ⟨[.type "enumerate",.ref l],[]⟩) (λ_ R s=>s.heap.get? l=ae {cls:=.type "tuple",dict:=dc,data:=.seq xs n,slots:=sl} /\
   R (.ok (.ret (.ref (rr s.heap l).objs.size))) {s with heap:=sY s.heap l}):=
 .of_wp λP w A R s h=>by
  obtain⟨f,_⟩:=s;obtain⟨a,h⟩:=h;have e:=sub_enumerate;have b:Heap.IsTuple _ l xs:=⟨_,a,rfl,n,rfl⟩
  wp_walk using Fy a
  refine wpAny_stack_any λst=>Ah ?_
  split
  ·rename_i c _ _ _ _ _;cases(c==Dl "enumerate")
   ·wp_walk using Fy a,Dx b
    exact⟨_,rfl,h⟩
   ·wp_walk using Fy a,Dx b
    exact⟨_,rfl,h⟩
  ·wp_walk using Fy a,Dx b
   exact⟨_,rfl,h⟩
section
variable{prog:A9}{w:Bj}{A:Bn}{E:Ag->Aj->Prop}{s:Aj}
theorem RP(hl:s.heap.IsTuple l xs)
  (h:∀h',IsEnum h' (s.heap.objs.size+1) s.heap.objs.size 0 .none->h'.IsTupleIter s.heap.objs.size l 0->(∀c o,s.heap.get? c=ae o->h'.get? c=ae o)->Q (.ref (s.heap.objs.size+1)) {s with heap:=h'}):
  A2 (A8 prog w) A (call (.type "enumerate") [.ref l]) Q E s:=by
 obtain⟨⟨c,k,m,g⟩,hl,f,n,i⟩:=hl;obtain rfl:=f;obtain rfl:=i;refine callType_new F.called_enumerate ∎ (by trivial) (F.newCall_enumerate_1 _) (λo=>F.args_object_init_2 o _) F.entry_enumerate_new (MZ l xs n k g) ⟨hl,?_⟩;have e:(rr s.heap l).objs.size=s.heap.objs.size+1:=Ci ..;have a:(sY s.heap l).get? (rr s.heap l).objs.size=ae _:=Ar _ rfl;have j:(sY s.heap l).get? s.heap.objs.size=ae _:=Ae _ (Ar _ rfl);rw[e]at a ⊢;exact⟨⟨_,a,rfl⟩,h _ a ⟨_,j,rfl,rfl⟩ λc o x=>Ae _ (Ae _ x)⟩
end
def BF(K:Af)(a:A_):It:=
 ⟨λi H=>∃xs x,SqT K H a xs/\xs[i]?=ae x,
  λi H v H'=>∃T x,v=.ref T/\H T=af/\H'=upd H T (.tup [.int i,x])/\∀xs,SqT K H a xs->xs[i]?=ae x,
  λi H=>∃xs,SqT K H a xs/\xs.length=i⟩
theorem MY{K:Af}(h1:e≠it)(h2:a≠it)(h3:e≠a):Turn P w K (.Tuple elts kk pos) (BF K a) [e,it] e
  (λi h=>(∃old,IsEnum h e it i old)/\h.IsTupleIter it a i) where
 mem:=by simp
 obj:=λi h d c b=>by
  obtain⟨⟨x,g⟩,⟨N,e1,c1,d1⟩⟩:=d;simp only[Ao,A3,g_]at b;rcases b with rfl|rfl
  ·exact⟨_,g,λv q=>by trivial⟩
  ·exact⟨N,e1,λv q=>by simp_all⟩
 keep:=λi h U d k=>⟨d.1.imp λ_=>k e (by simp) _,d.2.at (k it (by simp))⟩
 item:=by
  intro X r D G b i l s σ H E I m d n;subst r D G;obtain⟨⟨old,g⟩,t⟩:=d;obtain⟨S,x,L,T⟩:=n;obtain⟨f,C,p,_⟩:=I.tuple L;obtain⟨u,Z,Y⟩:=C.get T;have j:=by simpa using(Aw.mp Z).1
  have F:e∉[it,a]:=λz=>by
   simp_all
  refine wpAny_pyNext_enum_itemD (zp (A:=X.A.in1) (I.ok.hd b) it a h2 f.toArray) g ⟨t,p⟩ j h1 F λy U J a1 a2 O R a5 a6=>⟨_,rfl,?_⟩;obtain rfl:u=y:=by
   simp_all
  refine wpAny_letOwnedTupleGo_enum a2 λh'' b1 B=>?_;have M:∀c o,c∉[e,it]->s.heap.get? c=ae o->h''.get? c=ae o:=λc o b e=>by
   simp only[Ao,A3,g_,not_or]at b;exact B.extBut _ _ b.1 (a6 c o b.1 b.2 e)
  refine⟨.ref s.heap.objs.size,upd H s.heap.objs.size (.tup [.int i,x]),I.many m M (by simp) ⟨by show 2<=As;decide,[.int i J,u],.cons ⟨J,rfl⟩ (.cons Y .nil),_,(B.extBut _ _ (Ec (Aq g)) R),rfl,⟨_,rfl⟩,rfl⟩,rfl,⟨_,x,rfl,(I.hok.fresh (by simp)),rfl,λzs q=>by rw[I.tuple_inj q L];omega⟩,
   ⟨⟨u,by simp<;>omega⟩,O.1.extBut B.extBut h1.symm⟩,λc b=>?_⟩
  have j:c < s.heap.objs.size:=by
   simp only[Ao,A3,g_]at b;rcases b with rfl|rfl
   ·exact Aq g
   ·obtain⟨_,e,_⟩:=t;exact Aq e
  rw[aX (Bb j)];exact(m c b).1
 done:=by
  intro X r D G b i l s σ H E I m d n;subst r D G;obtain⟨⟨old,g⟩,t⟩:=d;obtain⟨S,Q,hx⟩:=n;obtain⟨f,C,p,_⟩:=I.tuple Q;have hl:=C.length;have V:f.toArray.size=i:=by simp;omega
  refine wpAny_pyNext_enum_endD (zp (A:=X.A.in1) (I.ok.hd b) it a h2 f.toArray) g (by rw[V];trivial) λh' k=>⟨rfl,I.many0 m λc o b e=>?_⟩;simp only[Ao,A3,g_,not_or]at b;exact k c o b.2 e
 self:=λ_ _ _ _ _ d=>wpAny_pyIter_enum d.1.choose_spec
def xZ(K:Af)(ta:TA):TI:=λσ H R=>ta σ H λvs H1=>∃a,vs=[.ref a]/\(∃xs,SqT K H1 a xs)/\R (BF K a) H1
theorem Wq(hg:Gl X "enumerate")(hm:X.mg "enumerate"=af)(ha:PA X [e1] ta)(hs:Au [e1] X.env=[(ai,eval e1 X.env)]:=by rfl):
  PI X (.Tuple elts kk tpos) (.Call (.Name "enumerate" p) [e1] [] pos) (xZ X.K ta):=by
 intro d s σ H R I h;refine Call_ (lE I hg hm boot_enumerate (Du (aP (ha pos d s σ H _ I h) λus k p=>?_) (by trivial) rfl));obtain⟨y,o,f,t,l⟩:=p;obtain⟨a,e,⟨z,w⟩,q⟩:=l;subst e;cases t with
 |cons r n=>
  cases n;cases r;obtain⟨u,x,i,_⟩:=f.tuple w;have g:a < k.heap.objs.size:=by obtain⟨_,e,_⟩:=id i;exact Aq e
  refine RP (i) λh' j v m=>wpAny_pyIter_enum j ⟨_,_,_,_,o,rfl,f.kept m,MY (by simp) (Bb g) (Ec (Eu g)),⟨⟨_,j⟩,v⟩,λc A=>?_,q⟩;have b:k.heap.objs.size<=c:=by
   grind
  exact f.fpOk b (f.hok.fresh b)
end L2
namespace DL
open PySem L2 Nb
section
variable{X:Cx}{a b e o i f:Expr}{ta tb te td ty:TE}{wa wb we wd' wy:DT}{pos p p2:Pos}{K:Af}
def jO(neg:Bool):Wv->Wv->Int->DQ->Prop:=λx y n Q=>(∃o,x=.ob o/\y=.d .none/\Q (.d (.bool neg)) n)\/bJ neg x y n Q
theorem KY{o:Ob}(h:WRel H B t v (.ob o)):∃a,v=.ref a:=by
 cases o with
 |o=>exact h
 |p d=>obtain⟨a,_,_,e,_⟩:=h;exact⟨a,e⟩
 |k m=>obtain⟨a,_,e,_⟩:=h;exact⟨a,e⟩
 |y m=>obtain⟨a,_,_,e,_⟩:=h;exact⟨a,e⟩
 |x m=>obtain⟨a,_,e,_⟩:=h;exact⟨a,e⟩
 |q d m=>obtain⟨a,_,_,_,e,_⟩:=h;exact⟨a,e⟩
theorem VR:bq (λx y H Q=>y=.non/\Q (.bl (decide (x=.non))) H) (jO ai):=λC H B σ δ n x y p q Q e R b c d k=>by
 rcases d with⟨o,rfl,rfl,h⟩|h
 ·obtain⟨a,rfl⟩:=KY b;cases(c);exact⟨rfl,k _ _ H n R (Kp.refl _ _) (wd (.bl _)) h⟩
 ·exact uT C H B σ δ n x y p q Q e R b c h k
end
section
variable{X:Cx}{a b e o:Expr}{ta tb te td ty:TE}{wa wb we wd' wy:DT}{pos p p2:Pos}{K:Af}{H:Hp}{B:A_->Prop}{l:List (List aJ×V)}{m:List (List aJ×Ab)}
def hV(m:List (List aJ×Ab))(k:List aJ):Bool:=m.any λkv=>decide (kv.1=k)
def gb(m:List (List aJ×Ab))(k:List aJ)(d:Ab):List (List aJ×Ab):=if hV m k=ah then m.map (λkv=>if kv.1=k then(kv.1,d)else kv)else m++[(k,d)]
theorem RdT.any(h:RdT H B l m)(k):(l.any λkv=>decide (kv.1=k))=hV m k:=by
 unfold hV
 induction h with
 |nil=>rfl
 |cons r _ a=>rw[C5,C5,a,r.1]
theorem RdT.isSome(h:RdT H B l m)(k):(cy l k).isSome=hV m k:=by
 rw[<-h.any k];unfold cy;rw[Ej,List.isSome_find?]
theorem RdT.len(h:RdT H B l m):l.length=m.length:=by
 induction h with
 |nil=>rfl
 |cons _ _ a=>rw[Ax,Ax,a]
theorem RdT.map(h:RdT H B l m)(r:RdX H B v d)(k):RdT H B (l.map λkv=>if kv.1=k then(kv.1,v)else kv) (m.map λkv=>if kv.1=k then(kv.1,d)else kv):=by
 induction h with
 |nil=>exact .nil
 |@cons p q f c z _ a=>
  rw[Ba,Ba];refine .cons ?_ a;by_cases e:p.1=k
  ·have b:=z.1▸e;rw[a' e,a' b];exact⟨z.1,r⟩
  ·rw[a_ e,a_ (z.1▸e)];exact z
theorem RdT.snoc(h:RdT H B l m)(r:RdX H B v d)(k):RdT H B (l++[(k,v)]) (m++[(k,d)]):=by
 induction h with
 |nil=>exact .cons ⟨rfl,r⟩ .nil
 |cons z _ a=>exact .cons z a
theorem RdT.put(h:RdT H B l m)(r:RdX H B v d)(k):RdT H B (b4 l k v) (gb m k d):=by
 unfold b4 gb;rw[h.any k]
 split
 ·exact h.map r k
 ·exact h.snoc r k
def uE(i:Nat):aE:=λδ n K=>K.nx (δ.set i (ae (.odt []))) n
theorem Nw(hN:X.N.Nodup)(hi:X.N[i]?=ae x)(hx:gB X.env.scope x)(hs:Cp (.Dict [] [] p) (ae (.Name x pos')) pos.line X.env=pure ai:=by rfl)(hf:X.fn x=ah\/X.env.scope.names.lookup x=ae .local:=by first|exact .inl rfl|exact .inr rfl|assumption):
  DS X (.Assign [.Name x pos'] (.Dict [] [] p) pos) (bX Ha (fc i)) (uE i):=⟨gx hN hi hx LP hs hf,λC H B σ δ n K D R q E=>λa b=>by
  refine E.nx _ _ _ _ _ (R.own (R.new b) (Kp.new b) b (by rw[br];simp) rfl ?_) q;exact⟨a,[],rfl,br,.inr rfl,R.h0 b,Be _,.nil⟩⟩
def qS(i:Nat)(w:DT):DT:=λδ n Q=>w δ n λx n1=>∃k kvs,x=.d (n8 k)/\δ[i]?=ae (ae (.odt kvs))/\Q (.d (.bool !hV kvs k)) n1
theorem TR(hi:DE X a ta wa):dY (nr ta (bM i)) (qS i wa):=λC H B σ δ n Q J R h k=>
 hi.sd C H B σ δ n _ _ R h λv x g u f F y p=>by
  obtain⟨d,m,rfl,e,q⟩:=p;obtain⟨w,s,b,l,rfl,E,L,K,N,r⟩:=f.sl i _ e;refine⟨_,s,?_⟩;cases(show RdX g B v (.tuple _)from y)with
  |@tup c G _ D I M j=>
   have o:=xO j;subst o;refine⟨b,_,rfl,DGet.t E D,k _ _ g u f F (wd (.bl _)) ?_⟩;rw[r.isSome d];exact q
theorem Ld{xp:Pos}(hu:X.A.units+64 < Co)(hN:X.N[i]?=ae x)(hi:DE X a ta wa)(hv:ej X.env.scope x:=by first|exact Cc rfl|exact Bo (Cc rfl)|exact Bo (Bo rfl))(hd:(x==("__debug__":Str))=ai:=by decide)
  (q_:(x==("__classdict__":Str))=ai:=by decide) (hm:Ce .NotIn (.Name x xp)=ai:=by with_unfolding_all rfl):DC X (.Compare a [.NotIn] [.Name x xp] pos) (iB (nr ta (bM i))) (cT (qS i wa)):=⟨EE (yu ⋯ hi.pe (eZ hN hv hd q_)) hm,j4 (TR hi)⟩
def zi(i:Nat)(wy wv:DT):aE:=λδ n K=>wv δ n λv n1=>∃kvs,δ[i]?=ae (ae (.odt kvs))/\wy δ n1 λy n2=>∃k d,v=.d d/\y=.d (n8 k)/\kvs.length < 1000/\K.nx (δ.set i (ae (.odt (gb kvs k d)))) n2
theorem Kd{xp sp:Pos}(hu:X.A.units+64 < Co)(hN:X.N[i]?=ae x)(hj:DE X j tj wj)(he:DE X e te we)(hv:ej X.env.scope x:=by first|exact Cc rfl|exact Bo (Cc rfl)|exact Bo (Bo rfl))(hd:(x==("__debug__":Str))=ai:=by decide)
  (q_:(x==("__classdict__":Str))=ai:=by decide) (hs:Cp e (ae (.Subscript (.Name x xp) j sp)) pos.line X.env=pure ai:=by rfl):
  DS X (.Assign [.Subscript (.Name x xp) j sp] e pos) (tW (bM i) tj te) (zi i wj we):=
 ⟨GL ⋯ (eZ hN hv hd q_) hj.pe he.pe hs,λC H B σ δ n K D R q E=>
  he.sd C H B σ δ n _ _ R q λu y T U g k1 Y p=>by
   obtain⟨O,I,p⟩:=p;obtain⟨v,hv,a,l,rfl,V,r,s,e5,P⟩:=g.sl i _ I;refine⟨_,hv,hj.sd C T B σ δ U _ _ g p λw z S n2 W k Z m=>?_⟩;obtain⟨h,d,rfl,rfl,J,m⟩:=m;have G:a≠C.t:=λz=>R.t0 (z▸s);have f:=P.move λb o e n=>⟨k b o e λz=>n (z▸g.bt),n⟩;have L:l.length < 1000:=by rw[f.len];omega
   cases(show RdX S B w (.tuple _)from Z)with
   |@tup c zs _ i1 i2 i3 M=>
    have Q:=xO M;subst Q;refine⟨a,_,rfl,DPut.t (k _ _ V G) i1 (Bd L ∎),E.nx _ _ _ _ _ (W.mutOwn I rfl hv r s ?_ rfl) m⟩;refine⟨a,_,rfl,br,r,s,?_,?_⟩
    ·have:=pT l h u;omega
    ·exact(f.put (RdX.kp k g.bt Y) _).move λb o e n=>⟨(aX λ(z:b=a)=>n (z▸r))▸e,n⟩⟩
end
section
variable{X:Cx}{a b e o i f:Expr}{ta tb te td ty:TE}{wa wb we wd' wy:DT}{pos p p2:Pos}{K:Af}
def jf(k:Int)(xs:List Ab):List Ab:=xs.zipIdx.map λq=>.tuple [.int (k+q.2),q.1]
theorem uP:(jf k xs).length=xs.length:=by unfold jf;simp
theorem IJ{i:Nat}(h:(jf k xs)[i]?=ae d):∃x,xs[i]?=ae x/\d=.tuple [.int (k+i),x]:=by
 unfold jf at h;rw[Ap,List.getElem?_zipIdx]at h;cases e:xs[i]? with
 |none=>rw[e]at h;cases h
 |some x=>
  refine⟨x,rfl,?_⟩;simp_all
theorem Vv:jf k (x::xs)=.tuple [.int k,x]::jf (k+1) xs:=by
 refine List.ext_getElem? λi=>?_;unfold jf;cases i with
 |zero=>rw[List.zipIdx_cons,Ba,B5,B5,Int.natCast_zero,Int.add_zero]
 |succ i=>
  rw[G8,Ap,Ap,List.getElem?_zipIdx,List.getElem?_zipIdx,G8];cases xs[i]? with
  |none=>rfl
  |some y=>
   show ae (Dn [.int _,y])=ae _;have:k+(0+(i+1):Nat)=k+1+(0+i:Nat):=by omega
   rw[this]
def FO(w:DT):fS:=λδ n Q=>w δ n λx n1=>∃xs,x=.d (.tuple xs)/\Q (jf 0 xs) n1
theorem O7{elts:List Expr}{kk:Nat}{tpos:Pos}(hg:Gl X "enumerate")(hm:X.mg "enumerate"=af)(ha:DE X a ta wa)(hK:X.K=K:=by rfl)(hs:Au [a] X.env=[(ai,eval a X.env)]:=by rfl)(he1:Au [a] X.env=(ai,eval a X.env)::Au [] X.env:=by rfl):
  DI X (.Tuple elts kk tpos) (.Call (.Name "enumerate" p) [a] [] pos) (xZ K (cU ta bP)) (FO wa):=by
 subst hK;refine⟨Wq hg hm (cj ha.pe dG he1) hs,λC H B σ δ n Q Q' R q k=>ha.sd C H B σ δ n _ _ R q λv x m S O k1 Z I=>?_⟩;obtain⟨U,rfl,G⟩:=I;cases(show RdX m B v (.tuple U)from Z)with
 |@tup F g _ E W J f=>
  refine⟨F,rfl,⟨g,SqT.of E⟩,k _ _ m S O k1 (λfz s=>?_) G⟩;have u:=s.2 _ _ E W;refine⟨by rw[uP,<-f.len];exact J,λi H c w=>?_,λH c=>?_,λi H x H' d c N t=>?_⟩
  ·rw[uP]at w;have P:i < g.length:=by rw[f.len];exact w
   exact⟨g,_,SqT.of (c _ _ u),Ai P⟩
  ·exact⟨g,SqT.of (c _ _ u),by rw[uP,f.len]⟩
  ·obtain⟨T,Y,rfl,h,rfl,V⟩:=t;refine⟨λb o e=>(aX (b5 e h))▸e,λB' M r=>?_⟩;obtain⟨y,t,rfl⟩:=IJ N;obtain⟨u1,j,l⟩:=f.getD t;have D:=V _ (SqT.of (c _ _ u));rw[j]at D;cases D;have L:∀b o,m b=ae o->¬B b->upd H T (.tup [.int i,Y]) b=ae o/\¬B' b:=λb o e A=>by
    have:=c _ _ (s.2 _ _ e A);exact⟨(aX (b5 this h))▸this,M _ _ (s.2 _ _ e A)⟩
   rw[Int.zero_add];exact .tup br (λz=>r T z h) (by show 2<=As;decide) (.cons (.int _) (.cons (l.move L) .nil))
def qd(hs:List Str)(w:DT):DT:=λδ n Q=>w δ n λx n1=>∃a,x=.d a/\fo a=ah/\Q (.d (.bool !cW a (hs.map .str))) n1
theorem J0(hl:∀h∈hs,h.length<=1000)(hq:∀H,SqT K H q (hs.map V.str))(h:dY ta wa):dY (dQ (ib K ah) ta (tC (.ref q))) (qd hs wa):=λC H B σ δ n Q j R z k=>
 h C H B σ δ n _ _ R z λv x b g f i d a=>by
  obtain⟨l,rfl,a⟩:=a;have c:RdXs b B _ (hs.map .str):=nG hl;refine⟨q,_,rfl,.inr (hq b),kl d a.1,j2 c ?_,k _ _ b g f i (wd (.bl _)) ?_⟩
  ·rw[Dt];exact Bu.mpr λ_ _=>rfl
  ·rw[lC d c];exact a.2
theorem Ui{xp:Pos}(ha:DE X a ta wa)(hg:Gl X x)(hm:X.mg x=ae (.ref q))(hq:∀H,SqT K H q (hs.map V.str))(hl:∀h∈hs,h.length<=1000:=by decide +kernel)(hK:X.K=K:=by rfl)(hd:(x==("__debug__":Str))=ai:=by decide)
  (hmk:Ce .NotIn (Expr.Name x xp)=ai:=by with_unfolding_all rfl):DC X (.Compare a [.NotIn] [.Name x xp] pos) (iB (dQ (ib K ah) ta (tC (.ref q)))) (cT (qd hs wa)):=
 ⟨ke (vw hK) ha.pe (vx hg hm rfl hd) hmk,j4 (J0 hl hq ha.sd)⟩
end
section
variable{X:Cx}{e:Expr}{te:TE}{we:DT}{pos p:Pos}
def lb(w:j3):DT:=λδ n Q=>w δ n λkvs n1=>Q (.dk kvs) n1
theorem DN.d(h:DN X e te w):DE X e te (lb w):=⟨h.pe,λC H B σ δ n Q u R q k=>
 h.sd C H B σ δ n _ _ R q λa l c p j f r t m s g i=>by
  refine k _ (.dk c) p j f r ⟨a,l,rfl,m,λz=>?_,g.move λb o e n=>⟨e,λz=>n (.inl z)⟩⟩ i;obtain⟨_,_⟩:=R.tp.ob;simp_all⟩
abbrev lL(w:DT):DT:=lb (ju w)
theorem Uz(hh:X.A.handled=af)(hg:Gl X "dict")(hm:X.mg "dict"=af)(he:DE X e te we)(he':Au [e] X.env=(ai,eval e X.env)::Au [] X.env:=by rfl)(p_:(C6 pos (Au [] X.env)).any (·.1)=ai:=by rfl):DE X (.Call (.Name "dict" p) [e] [] pos) (fM ER (cU te bP)) (lL we):=
 (xx hh hg hm he (by rfl) he' p_).d
end
end DL
namespace Nb
open PySem L2 DL
theorem yf{F:Bool->Prop}(h:F (a || b))(hA:F b->A):if a=ah then F ah else A:=by
 cases a with
 |true=>exact h
 |false=>exact hA h
theorem WB{F:Bool->Prop}(h:F (a&&b))(hA:a=ah->F b->A):if a=ah then A else F ai:=by
 cases a with
 |true=>exact hA rfl h
 |false=>exact h
theorem HL(k:Q (.d (.bool (fh lo hi d))) n):
  if jg d=ah then(ee (λi j=>decide (i<=j)) (λi j=>!decide (j < i)) (.d (.int lo)) (.d d) n λz n3=>gJ z (ee (λi j=>decide (i<=j)) (λi j=>!decide (j < i)) (.d d) (.d (.int hi)) n3 Q) (Q (.d (.bool ai)) n3))else Q (.d (.bool ai)) n:=by
 cases d with
 |int i=>
  simp only[jg,ee,jU];simp only[fh]at k;refine iM (λe=>?_) (λe=>?_)
  ·rw[e]at k;exact k
  ·rw[e]at k;exact k
 |_=>exact k
theorem Js{Q:DQ}(x:Str)(h:Q (.d (.bool (x.cps.toList.all kc))) n):c6 (aG 0) aR (fi dH dH (wC (.str "a")) ↥0 (wC (.str "z")))
  (λds n1=>match e9 ds with|some bs=>Q (.d (.bool (bs.all id))) n1|none=>False) (jo x) [] [af] n:=by
 refine qR oj (λd=>.bool (okD d)) ?_ _ _ _ _ (RR x) ?_
 ·rintro d n b ⟨c,rfl⟩ k
  simp only[aj,wC,fi,jU,ee,B5,ll];refine iM (λe=>?_) (λe=>?_)
  ·simp only[okD,e]at k;exact k
  ·simp only[okD,e]at k;exact k
 ·show match e9 ((jo x).map λd=>.bool _)with|some bs=>Q _ n|none=>False
  simp only[ua,BP,N5];exact h
theorem Lk{Q:DQ}(ds:List Ab)(h:Q (.d (.bool (ds.all c7))) n):c6 (aG 0) aR (aB (bx c7) (ao ↥0 ak))
  (λds n1=>match e9 ds with|some bs=>Q (.d (.bool (bs.all id))) n1|none=>False) ds [] [af] n:=by
 refine qR _ (λd=>.bool (c7 d)) ?_ _ _ _ _ (λ_ _=>trivial) ?_
 ·exact λd n a _ k=>k
 ·show match e9 (ds.map λd=>.bool _)with|some bs=>Q _ n|none=>False
  simp only[ua,BP];exact h
theorem yF(h:n < 2 ^ 40)(h0:0 < many)(h1:many < 1073741824)(k:∀r:Int,0<=r->r < many->Q (.d (.int r)) (n+1)):bQ [.tp,.d (.int many)] n Q:=⟨⟨h,h0,h1⟩,k⟩
theorem jy(h0:0<=r)(h1:r < (ds.length:Int))(k:∀d∈ds,Q (.d d) n):aw (.d (.list ds)) (.d (.int r)) n Q:=by
 obtain⟨v,_⟩:=wX h0 h1;show match c8 ds r with|some d=>Q _ n|none=>False
 simp_all
theorem M6{rest:Sl}(c:Nat)(h:∀d n Q',n+(c:Int) < 2 ^ 39->(∀y n',n'<=n+(c:Int)->Q' (.d y) n')->w (↑d::rest) n Q'):
  ∀(items i':List Ab)(x:Option SV)(n:Int),n+(c:Int)*(items.length:Int) < 2 ^ 39->(∀ds n',n'<=n+(c:Int)*(items.length:Int)->Q ds n')->c6 (aG 0) aR w Q items i' (x::rest) n
 |[],i',x,n,b,q=>q i' n (by simp)
 |d::r,i',x,n,b,q=>by
  rw[Ax]at b q;have e:c*((r.length+1:Nat):Int)=c*(r.length:Int)+c:=by rfl
  have i:0<=c*(r.length:Int):=Int.mul_nonneg (by simp) (by simp);exact h d n _ ⋯ λy n' f=>M6 c h r _ _ n' ⋯ λds a g=>q ds a ⋯
theorem fB(n):(cw 0 n).length=n:=by unfold cw;simp
theorem uM{rest:Sl}(P:Ab->Prop)(c:Nat)(h:∀d n Q',n+(c:Int) < 2 ^ 39->(∀y n',P y->n'<=n+(c:Int)->Q' (.d y) n')->w (↑d::rest) n Q'):
  ∀(items i':List Ab)(x:Option SV)(n:Int),n+(c:Int)*(items.length:Int) < 2 ^ 39->(∀ds n',ds.length=items.length->(∀d∈ds,P d)->n'<=n+(c:Int)*(items.length:Int)->Q (i'++ds) n')->c6 (aG 0) aR w Q items i' (x::rest) n
 |[],i',x,n,f,q=>by
  have:=q [] n rfl (by simp) (by simp);rwa [Bk]at this
 |d::r,i',x,n,f,q=>by
  rw[Ax]at f q;have e:c*((r.length+1:Nat):Int)=c*(r.length:Int)+c:=by rfl
  have m:0<=c*(r.length:Int):=Int.mul_nonneg (by simp) (by simp);refine h d n _ ⋯ λy n' l j=>uM P c h r _ _ n' ⋯ λds a g b k=>?_;rw[Bp];refine q (y::ds) a (by simp<;>omega) (λd i=>?_) ⋯;rcases Ao.mp i with rfl|z
  ·exact l
  ·exact b d z
theorem eq_str(a)(h):fH a (.str h)=ae (c4 h a):=by cases a<;>rfl
theorem eq_int(i j):fH (.int i) (.int j)=ae (decide (i=j)):=rfl
theorem IF(a)(r:List α):c8 (a::r) 0=ae a:=eW rfl
theorem Ww(a b)(r:List α):c8 (a::b::r) 1=ae b:=eW rfl
section
variable{δ:Sl}{n:Int}{Q:DQ}{K:DEnds}{W V:aE}{i j:Nat}{a b d:Ab}{r ds:List Ab}{h:Str}
theorem ax(h:W δ n {K with nx:=λδ n=>V δ n K}):ar W V δ n K:=h
theorem au(e:δ[i]?=ae (ae (.w x)))(k:Q x n):aj i δ n Q:=by unfold aj;simp_all
theorem il{m:Nat}(e:δ[i]?=ae (↑(.tuple ds)))(e2:ds[m]?=ae a)(k:Q (.d a) n):w2 (aj i) (wC (.int (m:Int))) aw δ n Q:=by
 refine au e ?_;unfold wC aw;simp only[eW e2];exact k
theorem cD(e:δ[i]?=ae (↑(.tuple (a::r))))(k:Q (.d a) n):w2 (aj i) (wC (.int 0)) aw δ n Q:=il e rfl k
theorem cq(e:δ[i]?=ae (↑(.tuple (a::b::r))))(k:Q (.d b) n):w2 (aj i) (wC (.int 1)) aw δ n Q:=il e rfl k
theorem fw(e:δ[i]?=ae (↑(.tuple (a::r))))(k:Q (.d (.bool (c4 h a))) n):w2 (w2 (aj i) (wC (.int 0)) aw) (wC (.str h)) bj δ n Q:=by
 refine cD e ?_;unfold wC bj;simp only[eq_str];exact k
theorem cP(k:c δ n λb n1=>if b=ah then W δ n1 K else V δ n1 K):aH c W V δ n K:=k
theorem rD(e:δ[i]?=ae (↑(.tuple (a::r))))(hT:c4 h a=ah->W δ n K)(hF:c4 h a=ai->V δ n K):aH (cT (w2 (w2 (aj i) (wC (.int 0)) aw) (wC (.str h)) bj)) W V δ n K:=fw e (iM hT hF)
theorem eE(e:δ[i]?=ae (↑(.tuple (a::r))))(z:c4 h a=ai)(hF:V δ n K):aH (cT (w2 (w2 (aj i) (wC (.int 0)) aw) (wC (.str h)) bj)) W V δ n K:=rD e (λq=>by simp_all) λ_=>hF
theorem lT(e:δ[i]?=ae (↑(.tuple (a::r))))(z:c4 h a=ah)(hT:W δ n K):aH (cT (w2 (w2 (aj i) (wC (.int 0)) aw) (wC (.str h)) bj)) W V δ n K:=rD e (λ_=>hT) λq=>by simp_all
end
theorem Sr:c4 "is" (.str "is")=ah:=by rfl
theorem Us:c4 "is" (.str "any")=ai:=by rfl
theorem KI:c4 "is" (.str "word")=ai:=by rfl
theorem T7:c4 "is" (.str "number")=ai:=by rfl
theorem MQ:c4 "is" (.str "bind")=ai:=by rfl
theorem FN:c4 "is" (.str "as")=ai:=by rfl
theorem WL:c4 "word" (.str "word")=ah:=by rfl
theorem WM:c4 "word" (.str "number")=ai:=by rfl
theorem WK:c4 "as" (.str "bind")=ai:=by rfl
theorem WT:c4 "as" (.str "as")=ah:=by rfl
theorem CL:c4 "bind" (.str "bind")=ah:=by rfl
section
variable{δ:Sl}{n:Int}{Q:DQ}{K:DEnds}{W V:aE}{i j:Nat}{a b d:Ab}{r ds:List Ab}
theorem aq(k:wa δ n λx n1=>wb δ n1 λy n2=>g x y n2 Q):w2 wa wb g δ n Q:=k
theorem bH(h:∀Q:DQ,Q (.d x) n->w δ n Q)(k:K.nx (δ.set i (↑x)) n):az i w δ n K:=h _ k
theorem iY(k:K.nx (δ.set i (ae (.own []))) n):bu i (aN ak) δ n K:=⟨Be _,k⟩
theorem du(k:Q (.d a) n):aw (.d (.tuple (a::r))) (.d (.int 0)) n Q:=by
 show(match c8 _ 0 with|some d=>Q (.d d) n|none=>False);rw[IF];exact k
theorem d9(k:Q (.d b) n):aw (.d (.tuple (a::b::r))) (.d (.int 1)) n Q:=by
 show(match c8 _ 1 with|some d=>Q (.d d) n|none=>False);rw[Ww];exact k
theorem dP(k:Q (.d c) n):aw (.d (.tuple (a::b::c::r))) (.d (.int 2)) n Q:=by
 show(match c8 _ 2 with|some d=>Q (.d d) n|none=>False);rw[show c8 _ 2=ae c from eW rfl];exact k
theorem aA(k:Q (.d c) n):wC c δ n Q:=k
theorem aT(k:w δ n λx n1=>g [x] n1 Q):wB g (ao w ak) δ n Q:=k
theorem cI(k:w δ n λx n1=>S [x] n1 Q):aB S (ao w ak) δ n Q:=k
theorem bw(k:w δ n λx n1=>w' δ n1 λy n2=>S [x,y] n2 Q):aB S (ao w (ao w' ak)) δ n Q:=k
theorem bC(k:w δ n λx n1=>w' δ n1 λy n2=>w'' δ n2 λz n3=>S [x,y,z] n3 Q):aB S (ao w (ao w' (ao w'' ak))) δ n Q:=k
theorem aY(k:w δ n λds n1=>Q (.d (.list ds)) n1):aV w δ n Q:=k
theorem fN{Q:List Ab->Int->Prop}(hw:∀Q:DQ,Q (.d (.tuple ds)) n->w δ n Q)(k:c6 g c e Q ds [] (i9 fr δ) n):bG fr (cn w) g c e δ n Q:=hw _ k
theorem eF(e:δ[i]?=ae (↑(.tuple ds)))(k:Q (.d (.int ds.length)) n):wB aI (ao (aj i) ak) δ n Q:=aT (au e k)
theorem Hr(e:δ[j]?=ae (↑(.tuple ds)))(k:K.nx (δ.set i (ae (.own ds))) n):bu i (jz (aj j)) δ n K:=by
 unfold bu jz;exact au e k
theorem aW(k:w δ n K.rt):av w δ n K:=k
theorem gW(e:δ[i]?=ae (ae (.own ds)))(k:W (δ.set i (↑(.list ds))) n K):bO i W δ n K:=by
 unfold bO;simp_all
theorem kK(e:δ[i]?=ae (↑(.tuple ds)))(k:Q (.d (.bool ah)) n):aO "tuple" (aj i) δ n Q:=by
 refine au e ?_;assumption
theorem ay{Q:Bool->Int->Prop}(hw:∀Q':DQ,Q' (.d (.bool k)) n->w δ n Q')(q:Q k n):cT w δ n Q:=hw _ q
theorem aU(hc:∀Q:Bool->Int->Prop,Q ai n->C δ n Q)(hF:V δ n K):aH C W V δ n K:=hc _ (by assumption)
theorem aQ(hc:∀Q:Bool->Int->Prop,Q ah n->C δ n Q)(hT:W δ n K):aH C W V δ n K:=hc _ (by assumption)
theorem iN{Q:Bool->Int->Prop}(ha:∀Q:Bool->Int->Prop,Q ai n->A δ n Q)(hb:B δ n Q):cC A B δ n Q:=ha _ (by assumption)
theorem pq{Q:Bool->Int->Prop}(ha:∀Q:Bool->Int->Prop,Q ah n->A δ n Q)(k:Q ah n):cC A B δ n Q:=ha _ (k)
theorem lJ{Q:Bool->Int->Prop}(ha:∀Q:Bool->Int->Prop,Q ah n->A δ n Q)(hb:B δ n Q):bW A B δ n Q:=ha _ (by assumption)
theorem cY{Q:Bool->Int->Prop}(ha:∀Q:Bool->Int->Prop,Q k n->A δ n Q)(q:Q (!k) n):aM A δ n Q:=ha _ q
end
theorem eC(I:List Ab->Sl->Int->Prop)(h0:∀δ n,I [] δ n->K.nx δ n)
  (h1:∀d r δ n (N:Sl->Int->Prop),I (d::r) δ n->(∀δ n,I r δ n->N δ n)->g d δ λδ'=>W δ' n {K with nx:=N,ct:=N,bk:=K.nx}):∀ds δ n,I ds δ n->ec g W K ds δ n
 |[],δ,n,h=>h0 δ n h
 |d::r,δ,n,h=>h1 d r δ n _ h (eC I h0 h1 r)
section
variable{δ:Sl}{n m:Int}{Q:DQ}{K:DEnds}{W V:aE}{i j:Nat}{ds:List Ab}
theorem gQ(e0:δ[0]?=ae (ae (.w .tp)))(hw:∀Q:DQ,Q (.d (.int m)) n->w δ n Q)(h:n < 2 ^ 40)(h0:0 < m)(h1:m < 1073741824)(k:∀r:Int,0<=r->r < m->Q (.d (.int r)) (n+1)):aB bQ (ao ↥0 (ao w ak)) δ n Q:=
 bw (au e0 (hw _ (by trivial)))
theorem gA(e0:δ[0]?=ae (ae (.w .tp)))(h:n < 2 ^ 40)(h0:0 < m)(h1:m < 1073741824)(k:∀r:Int,0<=r->r < m->Q (.d (.int r)) (n+1)):aB bQ (ao ↥0 (ao (wC (.int m)) ak)) δ n Q:=gQ e0 (λQ=>aA) h h0 h1 k
theorem nu(e0:δ[0]?=ae (ae (.w .tp)))(h:n < 2 ^ 40)(h0:0 < m)(h1:m < 1073741824)(k:∀r:Int,0<=r->r < m->K.nx (δ.set i (↑(.int r))) (n+1)):az i (aB bQ (ao ↥0 (ao (wC (.int m)) ak))) δ n K:=gA e0 h h0 h1 k
theorem qm(h0:0<=r)(h1:r < (ds.length:Int))(k:∀d∈ds,Q (.d d) n):a9 (.ln ds) (.d (.int r)) n Q:=by
 obtain⟨v,_⟩:=wX h0 h1;show(match c8 ds r with|some d=>Q _ n|none=>False);simp_all
theorem jH(h0:0<=r)(h1:r < (ds.length:Int))(k:∀d∈ds,Q (.d d) n):a9 (.d (.list ds)) (.d (.int r)) n Q:=jy h0 h1 k
theorem gv(e:δ[i]?=ae (ae (.own ds)))(k:Q (.ln ds) n):bY i δ n Q:=by
 unfold bY;simp_all
theorem kz(e:δ[i]?=ae (ae (.own es)))(hw:∀Q:DQ,Q (.d x) m->w δ n Q)(hl:es.length < 1000000)(k:K.nx (δ.set i (ae (.own (es++[x])))) m):bh i w δ n K:=by
 unfold bh;rw[e];exact hw _ (Al hl k)
theorem jk(e:δ[i]?=ae (ae (.own es)))(k:w δ n λx n1=>match x with
  |.d d=>es.length < 1000000/\K.nx (δ.set i (ae (.own (es++[d])))) n1
  |_=>False):bh i w δ n K:=by
 unfold bh;rw[e];exact k
theorem c5(k:w δ n λx n1=>w' δ n1 λy n2=>match gy [x,y]with
  |some ds=>ds.length<=1000/\Q (.d (.tuple ds)) n2
  |none=>False):aC (ao w (ao w' ak)) δ n Q:=k
theorem jm(k:w δ n λx n1=>w' δ n1 λy n2=>w'' δ n2 λz n3=>match gy [x,y,z]with
  |some ds=>ds.length<=1000/\Q (.d (.tuple ds)) n3
  |none=>False):aC (ao w (ao w' (ao w'' ak))) δ n Q:=k
theorem jW(k:Q (.d (.tuple ds)) n):fV [.d (.list ds)] n Q:=k
theorem wG(k:Q (.d (.bool (decide (a < b)))) n):fm (.d (.int a)) (.d (.int b)) n Q:=k
theorem k8(e:δ[i]?=ae (↑(.int a)))(hT:a < b->W δ n K)(hF:¬a < b->V δ n K):aH (cT (w2 (aj i) (wC (.int b)) fm)) W V δ n K:=by
 refine cP (aq (au e (aA ?_)));show if decide _=ah then _ else _
 by_cases h:a < b
 ·rw[a' (b_ h)];exact hT h
 ·rw[a_ (by simpa using h)];exact hF h
end
section
variable{δ:Sl}{n m:Int}{Q:DQ}{K:DEnds}{W V:aE}{i j:Nat}{ds:List Ab}
theorem Kb(k:w δ n λx n1=>w' δ n1 λy n2=>w'' δ n2 λz n3=>v δ n3 λu n4=>match gy [x,y,z,u]with
  |some ds=>ds.length<=1000/\Q (.d (.tuple ds)) n4
  |none=>False):aC (ao w (ao w' (ao w'' (ao v ak)))) δ n Q:=k
theorem kb(k:Q (.d (.list [])) n):aV (aN ak) δ n Q:=Al ∎ k
theorem jQ(k:Q (.d (.bool ds.isEmpty)) n):a8 (.ln ds) (.d (.list [])) n Q:=k
theorem gN(k:Q (.d (.bool (decide (a=b)))) n):a8 (.d (.int a)) (.d (.int b)) n Q:=k
theorem oV(e:δ[i]?=ae (↑(.int a)))(hT:a=b->W δ n K)(hF:¬a=b->V δ n K):aH (cT (w2 (aj i) (wC (.int b)) a8)) W V δ n K:=by
 refine cP (aq (au e (aA ?_)));show if decide _=ah then _ else _
 by_cases h:a=b
 ·rw[a' (b_ h)];exact hT h
 ·rw[a_ (by simpa using h)];exact hF h
theorem vf(e:δ[i]?=ae (↑(.int a)))(hT:b < a->W δ n K)(hF:¬b < a->V δ n K):aH (cT (w2 (aj i) (wC (.int b)) hX)) W V δ n K:=by
 refine cP (aq (au e (aA ?_)));show if decide _=ah then _ else _
 by_cases h:b < a
 ·rw[a' (b_ h)];exact hT h
 ·rw[a_ (by simpa using h)];exact hF h
end
theorem oB(hs:List Str):(hs.map D0).all fo=ah:=by
 rw[Bu];intro d a;obtain⟨x,_,rfl⟩:=A6.mp a;rfl
theorem zh{n m:Int}(e:δ[0]?=ae (ae (.w .tp)))(hl:∀Q:DQ,Q (.d (.list L)) n->wl δ n Q)(hn:n < 2 ^ 40)(hm:m=L.length)(h0:0 < m)(h1:m < 1000)(hL:∀d∈L,∃j:Nat,j<=M/\d=.int j)(hM:M<=1000)(k:∀j:Nat,j<=M->ec g W K (cw 0 j) δ (n+1)):
  aZ (eR (w2 wl (aB bQ (ao ↥0 (ao (wC (.int m)) ak))) a9)) g W δ n K:=by
 refine aq (hl _ (gA e hn h0 ⋯ λr b f=>jH b ⋯ λd a=>?_));obtain⟨j,c,rfl⟩:=hL d a;simp_all<;>omega
theorem pH(k:Q (.d (.int ds.length)) n):dD [.ln ds] n Q:=k
theorem bB(h:xs[i]?=ae x)(k:Q (.d x) n):aw (.d (.tuple xs)) (.d (.int (i:Nat))) n Q:=by
 show(match c8 xs (i:Int)with|some d=>Q _ n|none=>False);rw[eW h];exact k
theorem tZ(xs:List Ab)(hp:p<=xs.length):bz xs af (ae (p:Int))=xs.take p:=by
 unfold bz;show(xs.drop 0).take (min p xs.length-0)=_;simp_all
end Nb
namespace DL
open PySem L2 Nb
end DL
namespace Nb
open PySem L2 DL
abbrev Nm:=List (Str×Ab)
inductive Fd where
 |is (v:Ab)|any|word|number|bind (x:Str)|as (x:Str)
def Fd.d:Fd->Ab
 |.is v=>.tuple [.str "is",v]
 |.any=>.tuple [.str "any"]
 |.word=>.tuple [.str "word"]
 |.number=>.tuple [.str "number"]
 |.bind x=>.tuple [.str "bind",.str x]
 |.as x=>.tuple [.str "as",.str x]
abbrev m6(x:Str):Prop:=x.length<=4/\Dp x=ah/\bR 4 (.str x)=ah
def ck:Ab->Bool
 |.str x=>decide (x.length<=8)&&(Dp x&&bR 8 (.str x))
 |.int i=>decide (0<=i)&&(decide (i<=99)&&(decide (PyData.weight (.int i)<=20)&&(PyData.intsShort 13 (.int i)&&PyData.showable (.int i))))
 |_=>ai
def Fd.ok:Fd->Prop
 |.is v=>ck v=ah
 |.bind x=>m6 x
 |.as x=>m6 x
 |_=>True
def fP(a b:Ab):Bool:=(fH a b).getD ai
theorem l4(ha:ck a=ah)(hb:ck b=ah):fH a b=ae (fP a b):=by
 cases a<;>first|cases ha|(cases b<;>first|cases hb|rfl)
theorem Om(ha:ck a=ah)(hb:ck b=ah)(h:fP a b=ah):a=b:=by
 cases a<;>first|cases ha|(cases b<;>first|cases hb|cases h|(rw[d_ h]))
theorem JA(ha:ck a=ah):fo a=ah:=by cases a<;>first|cases ha|rfl
def jq:Ab->Bool
 |.str _=>ah
 |_=>ai
def jl:Ab->Bool
 |.int _=>ah
 |_=>ai
def look(ps:Nm)(x:Str):Option Ab:=(ps.find? λp=>decide (p.1=x)).map (·.2)
def put(ps:Nm)(x:Str)(v:Ab):Nm:=if (ps.any λp=>decide (p.1=x))=ah then ps.map (λp=>if p.1=x then(p.1,v)else p)else ps++[(x,v)]
theorem IS(a b):decide ((Di a:aJ)=Di b)=decide (a=b):=by
 by_cases z:a=b
 ·rw[z,b_ rfl,b_ rfl]
 ·rw[c_ z,c_ λw=>z (by simp_all)]
theorem jh(ps:Nm)(x):b9 (cg ps) (.inr x)=look ps x:=by
 induction ps with
 |nil=>rfl
 |cons p r c=>
  by_cases e:p.1=x
  ·have b:b9 (cg (p::r)) (.inr x)=ae p.2:=by simp[b9,cg,e]
   have a:look (p::r) x=ae p.2:=by simp[look,e]
   simp_all
  ·have b:b9 (cg (p::r)) (.inr x)=b9 (cg r) (.inr x):=by simp[b9,cg,e]
   have a:look (p::r) x=look r x:=by simp[look,e]
   simp_all
theorem Ug(ps:Nm)(x):((cg ps).any λkv=>decide (kv.1=(Di x:aJ)))=(ps.any λp=>decide (p.1=x)):=by
 unfold cg;simp
 congr 1
 funext p
 exact IS _ _
theorem qu(ps:Nm)(x)(v):gf (cg ps) (.inr x) v=cg (put ps x v):=by
 unfold gf put;rw[Ug]
 split
 ·unfold cg;rw[B7,B7];apply Cn;intro p _;show(if _=Di x then _ else _)=_;by_cases e:p.1=x
  ·rw[a' (congrArg Di e)];show _=(Di (if p.1=x then(p.1,v)else p).1,(if p.1=x then(p.1,v)else p).2);rw[a' e]
  ·rw[a_ λz=>e (by simp_all)];show _=(Di (if p.1=x then(p.1,v)else p).1,(if p.1=x then(p.1,v)else p).2);rw[a_ e]
 ·unfold cg;simp
theorem km(h:look ps x=ae v):(x,v)∈ps:=by
 unfold look at h;cases e:ps.find? λp=>decide (p.1=x)with
 |none=>rw[e]at h;cases h
 |some p=>
  rw[e]at h;have a:=List.find?_some e;have:=List.mem_of_find?_eq_some e;rw[<-(d_ a),<-(B2 h)];omega
theorem qw(ps:Nm)(x):(ps.any λp=>decide (p.1=x))=(look ps x).isSome:=by
 induction ps with
 |nil=>rfl
 |cons p r b=>
  by_cases e:p.1=x
  ·have a:look (p::r) x=ae p.2:=by simp[look,e]
   rw[a,C5,b_ e];rfl
  ·have a:look (p::r) x=look r x:=by simp[look,e]
   rw[a,C5,c_ e,Bool.false_or,b]
theorem yz(ps:Nm)(x)(v):(put ps x v).map (·.1)=if (ps.any λp=>decide (p.1=x))=ah then ps.map (·.1)else ps.map (·.1)++[x]:=by
 unfold put
 split
 ·rw[B7];apply Cn;intro p _;show(if p.1=x then(p.1,v)else p).1=p.1
  split<;>rfl
 ·rw[Bf];rfl
theorem vQ(h:(ps.map (·.1)).Nodup):((put ps x v).map (·.1)).Nodup:=by
 rw[yz]
 split
 ·exact h
 ·rename_i e;rw[List.nodup_append];refine⟨h,by simp,λa f b c z=>?_⟩;have c:=by simpa using c
  obtain⟨p,d,rfl⟩:=A6.mp f;exact e (Ee.mpr ⟨p,d,b_ (z.trans c)⟩)
theorem sk(ps:Nm)(x)(v):(put ps x v).length<=ps.length+1:=by
 unfold put
 split
 ·rw[Ad];omega
 ·rw[An];exact Bh _
def fj(p:Str×Ab):Prop:=m6 p.1/\ck p.2=ah
theorem oH(h:∀p∈ps,fj p)(hx:m6 x)(hv:ck v=ah):∀p∈put ps x v,fj p:=by
 intro p a;unfold put at a
 split at a
 ·obtain⟨q,b,rfl⟩:=A6.mp a
  split
  ·exact⟨(h q b).1,hv⟩
  ·exact h q b
 ·rcases A1.mp a with a|a
  ·exact h p a
  ·have:=by simpa using a
   subst this;trivial
theorem MB(nd:(ps.map (·.1)).Nodup)(h:look ps x=ae v):put ps x v=ps:=by
 unfold put;rw[qw,h,a' (by simp)];have:ps.map (λp=>if p.1=x then(p.1,v)else p)=ps.map id:=by
  apply Cn;intro p c
  split
  ·rename_i e;have:p=(x,v):=by
    obtain⟨i,g⟩:=B6.mp c;obtain⟨j,k⟩:=B6.mp (km h);have f:(ps.map (·.1))[i]?=ae x:=(Ap)▸g▸congrArg ae e;have a:(ps.map (·.1))[j]?=ae x:=(Ap)▸k▸rfl;obtain⟨l,d⟩:=Aw.mp f;obtain⟨m,b⟩:=Aw.mp a;have:=(Fw nd).mp (d.trans b.symm);simp_all
   rw[this];rfl
  ·rfl
 rw[this,Dw]
theorem BE(ps)(x)(v):look (put ps x v) x=ae v:=by
 unfold put;rw[qw]
 split
 ·rename_i e
  induction ps with
  |nil=>cases e
  |cons p r c=>
   by_cases z:p.1=x
   ·simp[look,z]
   ·have b:look (p::r) x=look r x:=by simp[look,z]
    rw[b]at e;rw[Ba,a_ z];have a:look (p::r.map λp=>if p.1=x then(p.1,v)else p) x=look (r.map λp=>if p.1=x then(p.1,v)else p) x:=by simp[look,z]
    rw[a];exact c e
 ·rename_i e;have:look ps x=af:=by cases q:look ps x with|none=>rfl|some _=>rw[q]at e;exact f_ rfl e
  unfold look at this ⊢;rw[List.find?_append];cases q:ps.find? λp=>decide (p.1=x)with
  |some p=>rw[q]at this;cases this
  |none=>simp
theorem z6(h:y≠x):look (put ps x v) y=look ps y:=by
 unfold put
 split
 ·induction ps with
  |nil=>rfl
  |cons p r f=>
   rw[Ba];have a:look (r.map λp=>if p.1=x then(p.1,v)else p) y=look r y:=by
    by_cases q:(r.any λp=>decide (p.1=x))=ah
    ·exact f q
    ·have:r.map (λp=>if p.1=x then(p.1,v)else p)=r.map id:=by
      apply Cn;intro p e;rw[a_ λz=>q (Ee.mpr ⟨p,e,b_ z⟩)];rfl
     rw[this,Dw]
   by_cases z:p.1=x
   ·rw[a' z];have d:¬p.1=y:=λw=>h (by simp_all);have c:look ((p.1,v)::r.map λp=>if p.1=x then(p.1,v)else p) y=look (r.map λp=>if p.1=x then(p.1,v)else p) y:=by simp[look,d]
    have b:look (p::r) y=look r y:=by simp[look,d]
    rw[c,b,a]
   ·rw[a_ z];by_cases w:p.1=y
    ·simp[look,w]
    ·have c:look (p::r.map λp=>if p.1=x then(p.1,v)else p) y=look (r.map λp=>if p.1=x then(p.1,v)else p) y:=by simp[look,w]
     have b:look (p::r) y=look r y:=by simp[look,w]
     rw[c,b,a]
 ·unfold look;rw[List.find?_append];have:[(x,v)].find? (λp=>decide (p.1=y))=af:=by simp[Ne.symm h]
  rw[this,Option.or_none]
def gP(f:Fd)(v:Ab)(h bs:Nm):Bool:=match f with
 |.is w=>fP w v
 |.any=>ah
 |.word=>jq v
 |.number=>jl v
 |.as x=>match look h x with
  |some w=>fP w v
  |none=>ai
 |.bind x=>match look bs x with
  |some w=>fP w v
  |none=>ah
def wk:List (Fd×Ab)->Nm->List Str->Option Nm
 |[],h,_=>ae h
 | (.is w,v)::r,h,hs=>if fP w v=ah then wk r h hs else af
 | (.any,_)::r,h,hs=>wk r h hs
 | (.word,v)::r,h,hs=>if jq v=ah then wk r h hs else af
 | (.number,v)::r,h,hs=>if jl v=ah then wk r h hs else af
 | (.as x,v)::r,h,hs=>match look h x with
  |some w=>if fP w v=ah then wk r h hs else af
  |none=>af
 | (.bind x,v)::r,h,hs=>if x∈hs then(match look h x with
   |some w=>if fP w v=ah then wk r h hs else af
   |none=>af)else wk r (put h x v) (hs++[x])
def iV(p:Str×Ab):Ab:=.tuple [.str p.1,p.2]
def dh(ps:Nm):Ab:=.tuple (ps.map iV)
def gX(fs:List Fd):Ab:=.tuple (fs.map Fd.d)
def okN(ps:Nm):Prop:=ps.length<=40/\(ps.map (·.1)).Nodup/\∀p∈ps,fj p
def p7(fs:List Fd):Prop:=1<=fs.length/\fs.length<=4/\∀f∈fs,f.ok
def tJ(row:List Ab):Prop:=(row.length<=4/\1<=row.length)/\∀d∈row,ck d=ah
theorem yC(x y:Str)(h1:¬x.cps.toList < y.cps.toList)(h2:¬y.cps.toList < x.cps.toList):x=y:=by
 have:=List.le_antisymm ⋯ ⋯;cases x;simp_all
theorem Lw{h a b:Nm}(nd:(h.map (·.1)).Nodup)(ha:a.Perm h)(hb:b.Perm h)(ra:ja a)(rb:ja b):a=b:=by
 refine List.Perm.eq_of_pairwise (λx y f k l m=>?_) ra rb (ha.trans hb.symm);obtain⟨i,n⟩:=B6.mp (ha.mem_iff.mp f);obtain⟨j,o⟩:=B6.mp (hb.mem_iff.mp k);have g:(h.map (·.1))[i]?=ae x.1:=(Ap)▸n▸rfl;have c:(h.map (·.1))[j]?=ae x.1:=by rw[Ap,o,(yC _ _ m l)];rfl
 obtain⟨p,e⟩:=Aw.mp g;obtain⟨q,d⟩:=Aw.mp c;have:=(Fw nd).mp (e.trans d.symm);simp_all
theorem kh:∀(l:List (Fd×Ab))(h:Nm)(hs:List Str)(k:Nm),(h.map (·.1)).Nodup->wk l h hs=ae k->(k.map (·.1)).Nodup
 |[],h,hs,k,a,e=>by cases e;omega
 | (.is w,v)::r,h,hs,k,a,e=>by unfold wk at e;split at e;exact kh r h hs k a e;cases e
 | (.any,v)::r,h,hs,k,a,e=>kh r h hs k a e
 | (.word,v)::r,h,hs,k,a,e=>by unfold wk at e;split at e;exact kh r h hs k a e;cases e
 | (.number,v)::r,h,hs,k,a,e=>by unfold wk at e;split at e;exact kh r h hs k a e;cases e
 | (.as x,v)::r,h,hs,k,a,e=>by
  unfold wk at e
  split at e
  ·split at e
   ·exact kh r h hs k a e
   ·cases e
  ·cases e
 | (.bind x,v)::r,h,hs,k,a,e=>by
  unfold wk at e
  split at e
  ·split at e
   ·split at e
    ·exact kh r h hs k a e
    ·cases e
   ·cases e
  ·exact kh r _ _ k (vQ a) e
def wL(a b:Str×Ab):Bool:=decide (¬b.1.cps.toList < a.1.cps.toList)
def b7(h:Nm):Nm:=h.mergeSort wL
theorem CN(h):(b7 h).Perm h:=List.mergeSort_perm h wL
theorem CO(h):ja (b7 h):=by
 have:=List.pairwise_mergeSort (le:=wL) (λa b c x y=>b_ (Eo.mpr (List.le_trans (Eo.mp (d_ x)) (Eo.mp (d_ y))))) (λa b=>?_) h
 ·exact List.Pairwise.imp (d_) this
 ·rw[Bool.or_eq_true];rcases List.le_total a.1.cps.toList b.1.cps.toList with z|z
  ·exact .inl (b_ ⋯)
  ·exact .inr (b_ ⋯)
theorem yO{h h':Nm}(nd:(h.map (·.1)).Nodup)(p:h'.Perm h)(r:ja h'):h'=b7 h:=Lw nd p (CN h) r (CO h)
def eY(fs:List Fd)(row:List Ab)(nm:Nm):Nm:=(wk (fs.zip row) nm []).getD []
def cG(fs:List Fd)(row:List Ab)(nm:Nm):Bool:=decide (fs.length=row.length)&&(wk (fs.zip row) nm []).isSome
def dN(fs:List Fd)(row:List Ab)(nm:Nm):Ab:=if cG fs row nm=ah then dh (b7 (eY fs row nm))else .none
def mV(fs:List Fd)(row:List Ab)(ps:Nm)(r:Ab):Prop:=
 if fs.length=row.length then match wk (fs.zip row) ps []with
  |none=>r=.none
  |some h=>r=dh (b7 h)
 else r=.none
theorem Pt(h:mV fs row ps r):r=dN fs row ps:=by
 unfold mV at h;unfold dN cG eY;by_cases e:fs.length=row.length
 ·rw[a' e]at h;rw[b_ e];cases q:wk _ ps []with
  |none=>rw[q]at h;exact h
  |some x=>rw[q]at h;exact h
 ·rw[a_ e]at h;rw[c_ e];exact h
def jn:bb:=λws n Q=>∃(f:Fd)(v:Ab)(hp bp:Nm),ws=[.d f.d,.d v,.dk (cg hp),.dk (cg bp)]/\f.ok/\ck v=ah/\(∀p∈hp,fj p)/\(∀p∈bp,fj p)/\Q (.d (.bool (gP f v hp bp))) n
def nX:bb:=λws n Q=>∃(fs:List Fd)(row:List Ab)(nm:Nm),ws=[.d (gX fs),.d (.tuple row),.d (dh nm)]/\p7 fs/\tJ row/\okN nm/\Q (.d (dN fs row nm)) n
def eB(ys:List Str):Ab:=.tuple (ys.map .str)
abbrev mw:Int:=1000000000000000000000000000000
inductive Th:Nat->Nat->Ab->Prop
 |non {L k:Nat}:Th L k .none
 |bool {L k:Nat} (b:Bool):Th L k (.bool b)
 |int {L k:Nat} (i:Int):-(mw+(L:Int))<=i->i<=mw+(L:Int)->Th L k (.int i)
 |str {L k:Nat} (x:Str):x.length<=60->Dp x=ah->Th L k (.str x)
 |list {L k:Nat} {ds:List Ab}:ds.length<=L->(∀d∈ds,Th L k d)->Th L (k+1) (.list ds)
 |tuple {L k:Nat} {ds:List Ab}:ds.length<=L->(∀d∈ds,Th L k d)->Th L (k+1) (.tuple ds)
mutual
def lK(L:Nat):Nat->Ab->Bool
 |_,.none=>ah
 |_,.bool _=>ah
 |_,.int i=>decide (-(mw+(L:Int))<=i)&&decide (i<=mw+(L:Int))
 |_,.str x=>decide (x.length<=60)&&Dp x
 |k,.list ds=>decide (0 < k)&&(decide (ds.length<=L)&&jZ L (k-1) ds)
 |k,.tuple ds=>decide (0 < k)&&(decide (ds.length<=L)&&jZ L (k-1) ds)
 |_,.dict _=>ai
def jZ(L:Nat):Nat->List Ab->Bool
 |_,[]=>ah
 |k,d::r=>lK L k d&&jZ L k r
end
mutual
theorem S8(L:Nat):∀(d:Ab)(k:Nat),lK L k d=ah->Th L k d
 |.none,_,_=>.non
 |.bool b,_,_=>.bool b
 |.int i,_,h=>by
  rw[lK,Av]at h;exact .int i (d_ h.1) (d_ h.2)
 |.str x,_,h=>by
  rw[lK,Av]at h;exact .str x (d_ h.1) h.2
 |.list ds,k,h=>by
  rw[lK,Av,Av]at h;have h0:=d_ h.1;have:=Th.list (d_ h.2.1) (r3 L ds (k-1) h.2.2);rw[show k-1+1=k by omega]at this;exact this
 |.tuple ds,k,h=>by
  rw[lK,Av,Av]at h;have h0:=d_ h.1;have:=Th.tuple (d_ h.2.1) (r3 L ds (k-1) h.2.2);rw[show k-1+1=k by omega]at this;exact this
 |.dict _,_,h=>by rw[lK]at h;cases h
theorem r3(L:Nat):∀(ds:List Ab)(k:Nat),jZ L k ds=ah->∀d∈ds,Th L k d
 |[],_,_,d,hd=>by simp at hd
 |a::r,k,h,d,hd=>by
  rw[jZ,Av]at h;exact(Ao.mp hd).elim (λe=>e▸S8 L a k h.1) λhd=>r3 L r k h.2 d hd
end
theorem zb(h:jZ L k ds=ah):∀d∈ds,Th L k d:=r3 L ds k h
theorem Th.mono(h:Th L k d):∀{L' k':Nat},L<=L'->k<=k'->Th L' k' d:=by
 induction h with
 |non=>exact λ_ _=>.non
 |bool b=>exact λ_ _=>.bool b
 |int i c n=>exact λa _=>.int i ⋯ ⋯
 |str x c n=>exact λ_ _=>.str x c n
 |list c _ e=>
  intro L' k' a b;obtain⟨j,rfl⟩:∃j,k'=j+1:=⟨k' - 1,by omega⟩;exact .list ⋯ λd g=>e d g a ⋯
 |tuple c _ e=>
  intro L' k' a b;obtain⟨j,rfl⟩:∃j,k'=j+1:=⟨k' - 1,by omega⟩;exact .tuple ⋯ λd g=>e d g a ⋯
theorem vk(ha:Th L k a)(hb:Th L k b)(hL:2<=L):Th L (k+1) (.tuple [a,b]):=.tuple hL λd c=>by
 rcases Ao.mp c with rfl|c
 ·exact ha
 ·rw[A4.mp c];omega
theorem WD(ha:Th L k a)(hb:Th L k b)(hc:Th L k c)(hL:3<=L):Th L (k+1) (.tuple [a,b,c]):=.tuple hL λd e=>by
 rcases Ao.mp e with rfl|e
 ·exact ha
 ·rcases Ao.mp e with rfl|e
  ·exact hb
  ·rw[A4.mp e];omega
theorem Th.lay(h:Th L k d):Cq d=ah/\Dq d<=k:=by
 have f:∀{k:Nat} c,(∀d∈c,Cq d=ah/\Dq d<=k)->Dz c=ah/\F9 c<=k:=by
  intro k c
  induction c with
  |nil=>exact λ_=>⟨rfl,Be _⟩
  |cons x r a=>
   intro h;obtain⟨e,m⟩:=a λd s=>h d (Ak _ s);obtain⟨n,t⟩:=h x Am;exact⟨by rw[Dz,e,n];rfl,by rw[F9];omega⟩
 induction h with
 |non=>exact⟨rfl,Be _⟩
 |bool b=>exact⟨rfl,Be _⟩
 |int i _ _=>exact⟨rfl,Be _⟩
 |str x _ h=>exact⟨h,Be _⟩
 |list _ _ a=>
  obtain⟨e,m⟩:=f _ a;exact⟨by exact e,by rw[Dq];omega⟩
 |tuple _ _ a=>
  obtain⟨e,m⟩:=f _ a;exact⟨by exact e,by rw[Dq];omega⟩
theorem Th.mem(h:Th L k (.tuple ds)):∀d∈ds,Th L (k-1) d:=by
 cases h with
 |tuple b a=>exact a
section
variable{δ:Sl}{n:Int}{Q:DQ}{K:DEnds}{W V:aE}{i j:Nat}{ds:List Ab}
theorem dz(hu:∀Q:DQ,Q (.d (.bool a)) n->u δ n Q)(hv:a=ah->∀Q:DQ,Q (.d (.bool b)) n->v δ n Q)(k:Q (.d (.bool (a&&b))) n):bc u v δ n Q:=by
 refine hu _ ?_;cases a with
 |true=>exact hv rfl _ k
 |false=>exact k
theorem kD(hu:∀Q:DQ,Q (.d (.bool a)) n->u δ n Q)(hv:a=ai->∀Q:DQ,Q (.d (.bool b)) n->v δ n Q)(k:Q (.d (.bool (a || b))) n):ji u v δ n Q:=by
 refine hu _ ?_;cases a with
 |false=>exact hv rfl _ k
 |true=>exact k
theorem bo{Q:Bool->Int->Prop}(hu:∀Q:Bool->Int->Prop,Q a n->u δ n Q)(hv:a=ai->∀Q:Bool->Int->Prop,Q b n->v δ n Q)(k:Q (a || b) n):cC u v δ n Q:=by
 refine hu _ ?_;cases a with
 |false=>exact hv rfl _ k
 |true=>exact k
theorem iT{Q:Bool->Int->Prop}(hu:∀Q:Bool->Int->Prop,Q a n->u δ n Q)(hv:a=ah->∀Q:Bool->Int->Prop,Q b n->v δ n Q)(k:Q (a&&b) n):bW u v δ n Q:=by
 refine hu _ ?_;cases a with
 |true=>exact hv rfl _ k
 |false=>exact k
theorem gn(hc:∀Q:Bool->Int->Prop,Q b n->C δ n Q)(hT:b=ah->W δ n K)(hF:b=ai->V δ n K):aH C W V δ n K:=by
 refine hc _ ?_;cases b with
 |true=>exact hT rfl
 |false=>exact hF rfl
theorem fY(hw:∀Q:DQ,Q (.d d) n->w δ n Q):∀Q:DQ,Q (.d (.bool (bV T d))) n->aO T w δ n Q:=λQ q=>hw _ q
theorem dU(e:δ[i]?=ae (↑(.tuple ds))):∀Q:Bool->Int->Prop,Q ai n->aM (cT (aO "tuple" (aj i))) δ n Q:=λQ q=>cY (λQ q=>ay (λQ q=>kK e q) q) q
end
theorem AN(h:bV "tuple" d=ah):∃ds,d=.tuple ds:=by
 cases d with
 |tuple ds=>exact⟨ds,rfl⟩
 |_=>cases h
theorem yQ{P:Ab->Prop}(h:∀d∈l,P d)(hx:P x):∀d∈l++[x],P d:=λd a=>(A1.mp a).elim (h d) λz=>by rw[A4.mp z];omega
theorem pO(h:i.length+j.length<=1000)(k:Q (.d (.tuple (i++j))) n):d3 (.d (.tuple i)) (.d (.tuple j)) n Q:=by
 cases i with
 |nil=>exact k
 |cons a r=>exact Al (.inl (λz=>nomatch z)) ⟨ku h,k⟩
theorem uH(h:x∈bz ds a b):x∈ds:=List.mem_of_mem_drop (Dv h)
theorem PV(ds:List Ab)(j:Nat):(bz ds af (ae (j:Int))).length<=min j ds.length:=by
 unfold bz;rw[HT.sIx_nat,HT.sIx_none,C9];omega
theorem P4(ds:List Ab)(j:Nat):(bz ds (ae (j:Int)) af).length<=ds.length-j:=by
 unfold bz;rw[HT.sIx_nat,HT.sIx_none,C9];omega
theorem MM(ds:List Ab)(j:Nat):(bz ds (ae ((j:Int)+1)) af).length<=ds.length-(j+1):=P4 ds _
section
variable{δ:Sl}{n:Int}{Q:DQ}{ds:List Ab}{j:Int}
theorem vA(e1:δ[1]?=ae (↑(.tuple ds)))(e2:δ[2]?=ae (↑(.int j)))(k:Q (.d (.tuple (bz ds af (ae j)))) n):cx ↥1 cb (b8 ↥2) δ n Q:=by
 unfold cx cb b8;exact au e1 (au e2 k)
theorem TJ(e1:δ[1]?=ae (↑(.tuple ds)))(e2:δ[2]?=ae (↑(.int j)))(k:Q (.d (.tuple (bz ds (ae (j+1)) af))) n):cx ↥1 (b8 (w2 ↥2 ⇑1 (bN λi j=>.int (i+j)))) cb δ n Q:=au e1 (aq (au e2 (aA k)))
theorem Wt{Q:List Ab->Int->Prop}(k:a δ n λx n1=>b δ n1 λy n2=>match gy [x,y]with
  |some ds=>ds.length<=1000/\Q ds n2
  |none=>False):aN (ao a (ao b ak)) δ n Q:=k
theorem lM(k:w δ n λx n1=>match gy [x]with
  |some ds=>ds.length<=1000/\Q (.d (.tuple ds)) n1
  |none=>False):aC (ao w ak) δ n Q:=k
theorem Jx(e:δ[i]?=ae (↑(.tuple ds)))(k:Q (.d (.tuple ds.reverse)) n):jJ (aj i) δ n Q:=au e k
theorem OP(e:δ[i]?=ae (↑(.tuple ds)))(k:Q (.d (.list ds)) n):wB lN (ao (aj i) ak) δ n Q:=aT (au e k)
end
theorem je{α:Type}{rest:Sl}(f g):∀(xs:List α)(i':List Ab)(x:Option SV)(n:Int),(∀a∈xs,∀(n:Int)(Q':DQ),Q' (.d (g a)) n->w (↑(f a)::rest) n Q')->Q (i'++xs.map g) n->c6 (aG 0) aR w Q (xs.map f) i' (x::rest) n
 |[],i',x,n,_,q=>by rw[Er,Bk]at q;exact q
 |a::r,i',x,n,h,q=>by
  refine h a Am n _ (je f g r _ _ n (λb c=>h b (Ak _ c)) ?_);rw[Bp];exact q
theorem iQ(hu:∀Q:Bool->Int->Prop,Q b n->u δ n Q)(k:if b=ah then v δ n Q else w δ n Q):gq u v w δ n Q:=hu _ k
theorem dy(k:Q (.d (.int (i+j))) n):bN (λi j=>.int (i+j)) (.d (.int i)) (.d (.int j)) n Q:=k
end Nb
namespace L2
open PySem PySem.Spec PyProof.Rows
abbrev XP:=TK×A_×V
def cz(ps:List XP)(k:TK):Option V:=(ps.find? λp=>decide (p.1=k)).map (·.2.2)
def cF(ps:List XP)(k:TK)(b:A_)(v:V):List XP:=if (cz ps k).isSome=ah then ps.map (λp=>if p.1=k then(p.1,p.2.1,v)else p)else ps++[(k,b,v)]
abbrev KX:List XP->List (TK×A_×Ag)->Prop:=Paired λp q=>p.1=q.1/\p.2.1=q.2.1/\RelV p.2.2 q.2.2
theorem KX.val(r:KX ps xs)(k):RelO (cz ps k) ((atKey xs k).map (·.2)):=by
 induction r with
 |nil=>exact Gu
 |@cons p q ps d h t i=>
  obtain⟨f,_,g⟩:=h;by_cases e:p.1=k
  ·have a:=f.symm.trans e;have b:atKey (q::d) k=ae q.2:=by simp[atKey,a]
   have c:cz (p::ps) k=ae p.2.2:=by simp[cz,e]
   rw[c,b];exact g
  ·have a:¬q.1=k:=λz=>e (f.trans z);have b:atKey (q::d) k=atKey d k:=by simp[atKey,a]
   have c:cz (p::ps) k=cz ps k:=by simp[cz,e]
   simp_all
theorem KX.repl(r:KX ps xs)(k)(ry:RelV y u):KX (ps.map λp=>if p.1=k then(p.1,p.2.1,y)else p) (xs.map (putAt k u)):=by
 induction r with
 |nil=>exact .nil
 |@cons p q ps d h t c=>
  rw[Ba];refine .cons ?_ c;obtain⟨a,b,f⟩:=h;unfold putAt;by_cases e:p.1=k
  ·rw[a' e,a' (by simp_all)];exact⟨a,b,ry⟩
  ·rw[a_ e,a_ (λz=>e (a.trans z))];trivial
theorem KX.put(r:KX ps xs)(k)(ry:RelV y u):KX (cF ps k b y) (storedH xs k b u):=by
 have e:(cz ps k).isSome=(atKey xs k).isSome:=by rw[(r.val k).isSome_eq,Ej]
 unfold cF storedH;rw[e];by_cases q:(atKey xs k).isSome=ah
 ·rw[a' q,a' q];exact r.repl k ry
 ·rw[a_ q,a_ q];exact Paired.snoc r ⟨rfl,rfl,ry⟩
theorem qZ(ps:List XP)(k)(b)(v):(cF ps k b v).length<=ps.length+1:=by
 unfold cF
 split
 ·rw[Ad];omega
 ·rw[An,Az];omega
theorem Iv{R:TK->A_->Prop}(h:∀p∈ps,R p.1 p.2.1)(hb:R k b):∀p∈cF ps k b v,R p.1 p.2.1:=λp a=>by
 unfold cF at a
 split at a
 ·obtain⟨q,c,rfl⟩:=A6.mp a;by_cases e:q.1=k
  ·rw[a' e];exact h q c
  ·rw[a_ e];exact h q c
 ·rcases A1.mp a with z|z
  ·exact h p z
  ·rw[A4.mp z];omega
def f7(K:Af)(H:Hp)(ps:List XP):Prop:=∀p∈ps,RdD K H (.ref p.2.1) p.1.1
section
variable{X:Cx}{h_:List (A_×Obj)}{σ:St}{H:Hp}{s:Aj}{a b:A_}{v d:V}{u r:Ag}{ps:List XP}{k:TK}{A:Bn}{E:Ag->Aj->Prop}
theorem j6(I:Inv X h_ σ H s)(e:RdD X.K H (.ref b) k.1):(jY X.prog X.w).is s.heap k b:=RdD.reads I e (by trivial)
theorem mx(I:Inv X h_ σ H s)(e:Rd H a (.dX ps))(hk:f7 X.K H ps):ps.length<=As/\(a==Dj)=ai/\∃xs,KX ps xs/\s.heap.DictOfH (jY X.prog X.w) a xs:=by
 obtain⟨z,y,xs,c,o,n,v,u,h,j,k,i⟩:=(show ObjOk X.prog X.w H s.heap a (.dX ps)from e.ok I.hok);refine⟨z,y,xs,c,o,n,v,u,h,j,k,λx b=>?_,i⟩;have d:∀{l:List XP}{m:List _},KX l m->f7 X.K H l->∀x∈m,(jY X.prog X.w).is s.heap x.1 x.2.1:=by
  intro l m q
  induction q with
  |nil=>intro _ x b;trivial
  |@cons p q ps C g t A=>
   intro f x b;rcases Ao.mp b with e|b
   ·subst e;have:=f p Am;rw[g.1,g.2.1]at this;exact j6 I this
   ·exact A (λp r=>f p (Ak _ r)) x b
 exact d c hk x b
theorem Ni(hu:A.units+64 < Co)(I:Inv X h_ σ H s)(e:Rd H a (.dX ps))(hk:f7 X.K H ps)(eb:RdD X.K H (.ref b) k.1)(l:cz ps k=ae v)(h:∀w' s',Inv X h_ σ H s'->RelV v w'->Q w' s'):
  A2 (A8 X.prog X.w) A (Gx (.ref a) (.ref b)) Q E s:=by
 obtain⟨z,n,m,c,g⟩:=mx I e hk;obtain⟨w',i,f⟩:=RelO.some_of (l▸c.val k);obtain⟨p,j,d⟩:=Gf.mp i;refine wpAny_getItem_heap (show A.in1.units+16 < Co by simp;omega) (j6 I eb) g j ?_;rw[d];exact h w' _ (I.tok _) f
theorem tO(hu:A.units+64 < Co)(I:Inv X h_ σ H s)(e:Rd H a (.dX ps))(hk:f7 X.K H ps)(eb:RdD X.K H (.ref b) k.1)(h:∀s',Inv X h_ σ H s'->Q (.bool (cz ps k).isSome) s'):
  A2 (A8 X.prog X.w) A (Bm .In (.ref b) (.ref a)) Q E s:=by
 obtain⟨z,f,g,c,d⟩:=mx I e hk;refine wpAny_in_heap (show A.in1.units+16 < Co by simp;omega) (j6 I eb) f d ?_;have q:=(c.val k).isSome_eq;rw[Ej]at q;rw[<-q];exact h _ (I.tok _)
theorem Ot(hu:A.units+64 < Co)(I:Inv X h_ σ H s)(e:Rd H a (.dX ps))(hk:f7 X.K H ps)(eb:RdD X.K H (.ref b) k.1)(h:∀s',Inv X h_ σ H s'->Q (.bool (!(cz ps k).isSome)) s'):
  A2 (A8 X.prog X.w) A (Bm .NotIn (.ref b) (.ref a)) Q E s:=by
 obtain⟨z,f,g,c,d⟩:=mx I e hk;refine wpAny_notIn_heap (show A.in1.units+16 < Co by simp;omega) (j6 I eb) f d ?_;have q:=(c.val k).isSome_eq;rw[Ej]at q;rw[<-q];exact h _ (I.tok _)
theorem TZ(hu:A.units+64 < Co)(I:Inv X h_ σ H s)(e:H a=ae (.dX ps))(hk:f7 X.K H ps)(eb:RdD X.K H (.ref b) k.1)(l:ps.length < As)(rv:RelV v r)(h:∀s',Inv X h_ σ (upd H a (.dX (cF ps k b v))) s'->Q () s'):
  A2 (A8 X.prog X.w) A (setItem (.ref a) (.ref b) r) Q E s:=by
 obtain⟨z,t,x,c,g⟩:=mx I (.inl e) hk;have B:x.length<=As:=(D9 c)▸z;have m:(cF ps k b v).length<=As:=by have:=qZ ps k b v;omega
 refine wpAny_setItem_heap (show A.in1.units+16 < Co by simp;omega) (j6 I eb) g λh' d y=>h _ ?_;obtain⟨q,p,u,f,i,n,o,_,j⟩:=d;exact mO I (by rw[e];trivial) y ⟨q,f⟩ ⟨m,t,_,c.put k rv,q,p,u,f,i,n,o,j⟩
end
def yR:TE:=λ_ H Q=>∀p,H p=af->Q (.ref p) (upd H p (.dX []))
theorem Uv:PE X (.Dict [] [] pos) yR:=λh_ s σ H Q I h=>by
 refine wpAny_Dict_empty ⟨.ref s.heap.objs.size,_,I.laid (λ_ _=>Ae _) (by simp) ?_,rfl,h _ (I.hok.fresh (by simp))⟩;obtain⟨z,y,g,r,o,e,f,c,a,b,d,i⟩:=tX (P:=X.prog) (w:=X.w) (H:=upd H s.heap.objs.size (.dT [])) s.heap I.big;cases r;exact⟨Be _,y,[],.nil,o,e,f,c,a,b,d,List.nodup_nil⟩
def XGet(K:Af)(H:Hp)(a:A_)(y:V)(r:Option V):Prop:=∃ps k b,Rd H a (.dX ps)/\f7 K H ps/\y=.ref b/\RdD K H (.ref b) k.1/\r=cz ps k
def oS(K:Af)(H:Hp)(a:A_)(y v:V)(H':Hp):Prop:=∃ps k b,H a=ae (.dX ps)/\f7 K H ps/\y=.ref b/\RdD K H (.ref b) k.1/\ps.length < As/\H'=upd H a (.dX (cF ps k b v))
def BW(K:Af)(H:Hp)(a:A_):Prop:=∃ps,Rd H a (.dX ps)/\f7 K H ps
def yr(K:Af)(td ty:TE):TE:=λσ H Q=>td σ H λx H1=>ty σ H1 λy H2=>∃a v,x=.ref a/\XGet K H2 a y (ae v)/\Q v H2
def kA(K:Af)(ty td:TE):TE:=λσ H Q=>ty σ H λy H1=>td σ H1 λx H2=>∃a o,x=.ref a/\XGet K H2 a y o/\Q (.bl o.isSome) H2
def vg(K:Af)(ty td:TE):TE:=λσ H Q=>ty σ H λy H1=>td σ H1 λx H2=>∃a o,x=.ref a/\XGet K H2 a y o/\Q (.bl (!o.isSome)) H2
def AR(K:Af)(td ty tv:TE):TS:=λD σ H=>tv σ H λv H1=>td σ H1 λx H2=>ty σ H2 λy H3=>∃a H4,x=.ref a/\oS K H3 a y v H4/\D.nx σ H4
section
variable{X:Cx}{h_:List (A_×Obj)}{σ:St}{H:Hp}{s:Aj}{a:A_}
theorem NA(I:Inv X h_ σ H s)(h:BW X.K H a):s.TypeIs (.ref a) "dict":=by
 obtain⟨f,e,c⟩:=h;obtain⟨_,_,d,_,b⟩:=mx I e c;exact b.typeIs
theorem XGet.isX(g:XGet X.K H a y r):BW X.K H a:=let⟨c,_,_,e,b,_⟩:=g;⟨c,e,b⟩
end
section
variable{X:Cx}{o i e f value:Expr}{pos pos' tpos apos cpos:Pos}{td ty tv tx:TE}
theorem Kn(hu:X.A.units+64 < Co)(ho:PE X o td)(hi:PE X i ty)(hs:iu i):PE X (.Subscript o i pos) (yr X.K td ty):=by
 intro c s σ H Q I h;refine zx PySem.F.slot_dict_getitem.lookup hs (aP (ho c s σ H _ I h) λu D ⟨x,t,B,r,p⟩=>aP (hi c D σ t _ B p) λiv G u=>?_);obtain⟨y,q,f,z,a,v,C,g,j⟩:=u;subst C;obtain rfl:=r;have ty:=NA f g.isX;obtain⟨E,k,b,e,n,rfl,m,l⟩:=g;obtain rfl:=z;exact⟨ty,Ni hu f e n m l.symm λw' J w d=>⟨v,q,w,d,j⟩⟩
theorem JF(hu:X.A.units+64 < Co)(hi:PE X i ty)(ho:PE X o td):PC X .In i o (kA X.K ty td):=by
 intro c s σ H Q I h;refine aP (hi c s σ H _ I h) λiv z ⟨y,q,v,t,m⟩=>aP (ho c z σ q _ v m) λu C u=>?_;obtain⟨x,n,d,p,a,D,w,g,f⟩:=u;subst w;obtain rfl:=p;obtain⟨B,k,b,e,l,rfl,j,rfl⟩:=g;obtain rfl:=t;exact tO hu d e l j λs3 r=>⟨.bl _,n,r,rfl,f⟩
theorem Ke(hu:X.A.units+64 < Co)(hi:PE X i ty)(ho:PE X o td):PC X .NotIn i o (vg X.K ty td):=by
 intro c s σ H Q I h;refine aP (hi c s σ H _ I h) λiv z ⟨y,q,v,t,m⟩=>aP (ho c z σ q _ v m) λu C u=>?_;obtain⟨x,n,d,p,a,D,w,g,f⟩:=u;subst w;obtain rfl:=p;obtain⟨B,k,b,e,l,rfl,j,rfl⟩:=g;obtain rfl:=t;exact Ot hu d e l j λs3 r=>⟨.bl _,n,r,rfl,f⟩
theorem UG(hu:X.A.units+64 < Co)(ho:PE X o td)(hi:PE X i ty)(hv:PE X value tv)(hs:Cp value (ae (.Subscript o i pos')) pos.line X.env=pure ai):
  PS X (.Assign [.Subscript o i pos'] value pos) (AR X.K td ty tv):=by
 intro c s σ H D I h;refine wpAny_Assign_Subscript (aP (hv c s σ H _ I h) λr J ⟨v,z,E,w,p⟩=>aP (ho c J σ z _ E p) λu F ⟨x,q,d,t,f⟩=>aP (hi c F σ q _ d f) λiv O u=>?_) hs;obtain⟨y,N,B,C,a,P,G,g,L⟩:=u;subst G;obtain rfl:=t;obtain⟨M,k,b,e,n,rfl,j,l,rfl⟩:=g;obtain rfl:=C;exact TZ hu B e n j l w λs4 m=>⟨σ,_,m,L⟩
end
end L2
namespace DL
open PySem L2 Nb
def b6(m:List (TK×Ab))(k:TK):Option Ab:=(m.find? λq=>decide (q.1=k)).map (·.2)
def de(m:List (TK×Ab))(k:TK)(d:Ab):List (TK×Ab):=if (b6 m k).isSome=ah then m.map (λq=>if q.1=k then(q.1,d)else q)else m++[(k,d)]
section
variable{H:Hp}{B:A_->Prop}{l:List (TK×A_×V)}{m:List (TK×Ab)}
theorem RdY.len(h:RdY H B l m):l.length=m.length:=D9 h
theorem RdY.keys(h:RdY H B l m):f7 K H l:=by
 induction h with
 |nil=>exact λp c=>nomatch c
 |@cons p q f e d t b=>
  intro x a;rcases Ao.mp a with rfl|a
  ·exact d.2.1.rd
  ·exact b x a
theorem RdY.val(h:RdY H B l m)(k):(cz l k=af/\b6 m k=af)\/∃v d,cz l k=ae v/\b6 m k=ae d/\RdX H B v d:=by
 induction h with
 |nil=>exact .inl ⟨rfl,rfl⟩
 |@cons p q c f b t j=>
  by_cases e:p.1=k
  ·have a:=b.1.symm.trans e;exact .inr ⟨_,q.2,by simp[cz,e],by simp[b6,a],b.2.2⟩
  ·have a:¬q.1=k:=λz=>e (b.1.trans z);have g:cz (p::c) k=cz c k:=by simp[cz,e]
   have i:b6 (q::f) k=b6 f k:=by simp[b6,a]
   rw[g,i];omega
theorem RdY.isSome(h:RdY H B l m)(k):(cz l k).isSome=(b6 m k).isSome:=by
 rcases h.val k with⟨b,a⟩|⟨v,d,b,a,_⟩<;>rw[b,a]<;>rfl
theorem RdY.put(h:RdY H B l m)(rb:RdX H B (.ref b) k.1)(r:RdX H B v d):RdY H B (cF l k b v) (de m k d):=by
 have e:=h.isSome k;have g:RdY H B (l.map λp=>if p.1=k then(p.1,p.2.1,v)else p) (m.map λq=>if q.1=k then(q.1,d)else q):=by
  clear e
  induction h with
  |nil=>exact .nil
  |@cons p q i j a t f=>
   rw[Ba,Ba];refine .cons ?_ f;by_cases e:p.1=k
   ·rw[a' e,a' (a.1.symm.trans e)];exact⟨a.1,a.2.1,r⟩
   ·rw[a_ e,a_ λz=>e (a.1.trans z)];omega
 unfold cF de;rw[e];by_cases z:(b6 m k).isSome=ah
 ·rw[a' z,a' z];omega
 ·rw[a_ z,a_ z];exact Paired.snoc h ⟨rfl,rb,r⟩
end
section
variable{X:Cx}{a b c e o i f:Expr}{ta tb te td ty tx:TE}{wa wb we wd' wy wx:DT}{pos p:Pos}{K:Af}
def dB(i:Nat):DT:=λδ n Q=>match δ[i]? with
 |some (ae (.odx kvs))=>Q (.dx kvs) n
 |some (ae (.w (.ob (.x kvs))))=>Q (.dx kvs) n
 |some (ae (.w x))=>Q x n
 |_=>False
theorem Ic(i)(hN:X.N[i]?=ae x:=by rfl)(hv:ej X.env.scope x:=by first|exact Cc rfl|exact Bo (Cc rfl)|exact Bo (Bo rfl))(hd:(x==("__debug__":Str))=ai:=by decide)
  (q_:(x==("__classdict__":Str))=ai:=by decide):DE X (.Name x p) (bM i) (dB i):=⟨eZ hN hv hd q_,λC H B σ δ n Q o R h k=>by
 unfold dB at h
 split at h
 ·rename_i b e;obtain⟨v,c,a,l,rfl,f,g,m,q,d⟩:=R.sl i _ e;exact⟨_,c,k _ (.dx b) H n R (Kp.refl _ _) ⟨a,l,rfl,f,λz=>R.t0 (z▸m),d⟩ h⟩
 ·rename_i b e;obtain⟨v,c,⟨a,l,rfl,f,g,d⟩,_⟩:=R.sl i _ e;exact⟨_,c,k _ (.dx b) H n R (Kp.refl _ _) ⟨a,l,rfl,f,λz=>g (z▸R.bt),d⟩ h⟩
 ·rename_i x _ e;obtain⟨v,c,j⟩:=R.sl i _ e;exact⟨v,c,k v x H n R (Kp.refl _ _) j.1 h⟩
 ·exact h.elim⟩
def nH(d:Ab)(k:TK):Prop:=d=k.1/\∃ds,d=.tuple ds
theorem l6(r:RdX H B u d)(h:nH d k):∃b,u=.ref b/\RdX H B (.ref b) k.1:=by
 obtain⟨rfl,j,e⟩:=h;rw[e]at r;cases r with
 |tup i a f g=>exact⟨_,rfl,e▸.tup i a f g⟩
def ig(x:Wv)(kvs:List (TK×Ab)):Prop:=x=.dx kvs\/x=.ob (.y kvs)
theorem WRel.rdX(ht:B t)(h:ig x kvs)(r:WRel H B t v x):∃a l,v=.ref a/\Rd H a (.dX l)/\a≠t/\RdY H B l kvs:=by
 rcases h with rfl|rfl
 ·obtain⟨a,l,e,b,d,c⟩:=r;exact⟨a,l,e,.inl b,d,c⟩
 ·obtain⟨a,o,l,e,b,d,c⟩:=(show ORel H B v (.y kvs)from r);exact⟨a,l,e,.inr ⟨o,b⟩,λz=>d (z▸ht),c⟩
def qa:Wv->Wv->Int->DQ->Prop:=λx y n Q=>∃kvs d k v,ig x kvs/\y=.d d/\nH d k/\b6 kvs k=ae v/\Q (.d v) n
theorem Wd(hu:X.A.units+64 < Co)(ho:DE X o td wd')(hi:DE X i ty wy)(hK:X.K=K:=by rfl)(hs:iu i:=by exact λ_ _=>rfl):DE X (.Subscript o i pos) (yr K td ty) (w2 wd' wy qa):=by
 subst hK;exact⟨Kn hu ho.pe hi.pe hs,λC H B σ δ n Q U R h k=>
 ho.sd C H B σ δ n _ _ R h λv x I J j S M D=>hi.sd C I B σ δ J _ _ j D λu y F G m g N s=>by
  obtain⟨t,d,c,w,L,rfl,z,e,q⟩:=s;obtain⟨a,l,rfl,P,V,p⟩:=WRel.rdX m.bt L (M.kp g j.bt);obtain⟨b,rfl,O⟩:=l6 (N) z;rcases p.val c with⟨r,f⟩|⟨v,T,r,f,E⟩
  ·rw[f]at e;cases e
  ·rw[f]at e;cases e;exact⟨a,v,rfl,⟨l,c,b,P,p.keys,rfl,O.rd,r.symm⟩,k v (.d _) F G m (S.trans g) E q⟩⟩
def dR(neg:Bool):Wv->Wv->Int->DQ->Prop:=λy x n Q=>∃kvs d k,ig x kvs/\y=.d d/\nH d k/\Q (.d (.bool (if neg then !(b6 kvs k).isSome else(b6 kvs k).isSome))) n
theorem Of(hi:DE X i ty wy)(ho:DE X o td wd'):dY (kA K ty td) (w2 wy wd' (dR ai)):=λC H B σ δ n Q L R h k=>
 hi.sd C H B σ δ n _ _ R h λv x z A f J E s=>ho.sd C z B σ δ A _ _ f s λu y t w g e F m=>by
  obtain⟨p,d,c,D,rfl,r,q⟩:=m;obtain⟨a,l,rfl,I,M,j⟩:=WRel.rdX g.bt D F;obtain⟨b,rfl,G⟩:=l6 ((E.kp e f.bt)) r;refine⟨a,_,rfl,⟨l,c,b,I,j.keys,rfl,G.rd,rfl⟩,k _ _ t w g (J.trans e) (wd (.bl _)) ?_⟩;rw[j.isSome c];exact q
theorem Io(hi:DE X i ty wy)(ho:DE X o td wd'):dY (vg K ty td) (w2 wy wd' (dR ah)):=λC H B σ δ n Q L R h k=>
 hi.sd C H B σ δ n _ _ R h λv x z A f J E s=>ho.sd C z B σ δ A _ _ f s λu y t w g e F m=>by
  obtain⟨p,d,c,D,rfl,r,q⟩:=m;obtain⟨a,l,rfl,I,M,j⟩:=WRel.rdX g.bt D F;obtain⟨b,rfl,G⟩:=l6 ((E.kp e f.bt)) r;refine⟨a,_,rfl,⟨l,c,b,I,j.keys,rfl,G.rd,rfl⟩,k _ _ t w g (J.trans e) (wd (.bl _)) ?_⟩;rw[j.isSome c];exact q
theorem IA(hu:X.A.units+64 < Co)(hi:DE X i ty wy)(ho:DE X o td wd')(hK:X.K=K:=by rfl)(hm:Ce .NotIn o=ai:=by with_unfolding_all rfl):DC X (.Compare i [.NotIn] [o] pos) (iB (vg K ty td)) (cT (w2 wy wd' (dR ah))):=by
 subst hK;exact⟨EE (Ke hu hi.pe ho.pe) hm,j4 (Io hi ho)⟩
def yc(i:Nat):aE:=λδ n K=>K.nx (δ.set i (ae (.odx []))) n
theorem NC{i:Nat}(hN:X.N.Nodup)(hi:X.N[i]?=ae x)(hx:gB X.env.scope x)(hs:Cp (.Dict [] [] p) (ae (.Name x pos')) pos.line X.env=pure ai:=by rfl)(hf:X.fn x=ah\/X.env.scope.names.lookup x=ae .local:=by first|exact .inl rfl|exact .inr rfl|assumption):
  DS X (.Assign [.Name x pos'] (.Dict [] [] p) pos) (bX yR (fc i)) (yc i):=⟨gx hN hi hx Uv hs hf,λC H B σ δ n K D R q E=>λa b=>by
  refine E.nx _ _ _ _ _ (R.own (R.new b) (Kp.new b) b (by rw[br];simp) rfl ?_) q;exact⟨a,[],rfl,br,.inr rfl,R.h0 b,Be _,.nil⟩⟩
def mF(i:Nat)(wy wv:DT):aE:=λδ n K=>wv δ n λv n1=>∃kvs,δ[i]?=ae (ae (.odx kvs))/\wy δ n1 λy n2=>∃k d e,v=.d d/\y=.d e/\nH e k/\kvs.length < 1000/\K.nx (δ.set i (ae (.odx (de kvs k d)))) n2
theorem Wg{i:Nat}{xp sp:Pos}(hu:X.A.units+64 < Co)(hN:X.N[i]?=ae x)(hj:DE X j tj wj)(he:DE X e te we)(hK:X.K=K:=by rfl)(hv:ej X.env.scope x:=by first|exact Cc rfl|exact Bo (Cc rfl)|exact Bo (Bo rfl))(hd:(x==("__debug__":Str))=ai:=by decide)
  (q_:(x==("__classdict__":Str))=ai:=by decide) (hs:Cp e (ae (.Subscript (.Name x xp) j sp)) pos.line X.env=pure ai:=by rfl):
  DS X (.Assign [.Subscript (.Name x xp) j sp] e pos) (AR K (bM i) tj te) (mF i wj we):=by
 subst hK;exact⟨UG hu (eZ hN hv hd q_) hj.pe he.pe hs,λC H B σ δ n K D R q E=>
  he.sd C H B σ δ n _ _ R q λu y P Q g k1 U m=>by
   obtain⟨L,F,m⟩:=m;obtain⟨v,hv,a,l,rfl,S,p,r,Y,O⟩:=g.sl i _ F;refine⟨_,hv,hj.sd C P B σ δ Q _ _ g m λw z W Z T h V k=>?_⟩;obtain⟨f,d,ek,rfl,rfl,M,I,k⟩:=k;have s:a≠C.t:=λz=>R.t0 (z▸r);have c:=O.move λb o e n=>⟨h b o e λz=>n (z▸g.bt),n⟩;have J:l.length < 1000:=by rw[c.len];omega
   obtain⟨b,rfl,G⟩:=l6 (V) M;refine⟨a,_,rfl,⟨l,f,b,(h _ _ S s),c.keys,rfl,G.rd,Bd J ∎,rfl⟩,E.nx _ _ _ _ _ (T.mutOwn F rfl hv p r ?_ rfl) k⟩;refine⟨a,_,rfl,br,p,r,?_,?_⟩
   ·have:=qZ l f b u;omega
   ·exact(c.put G (RdX.kp h g.bt U)).move λb o e n=>⟨(aX λ(z:b=a)=>n (z▸p))▸e,n⟩⟩
end
end DL
namespace Nb
open PySem L2 DL
def qC:List Ab:=[.str "a",.int 0,.int 1,.str "ab",.str "go",.int 99]
inductive Fe where
 |any|word|num|isv (d:Ab)|bind (k:Str)|as (k:Str)|nx (k:Str)
def Fe.hd:Fe->Str
 |.any=>"any"
 |.word=>"word"
 |.num=>"number"
 |.isv _=>"is"
 |.bind _=>"bind"
 |.as _=>"as"
 |.nx _=>"next"
def Fe.tl:Fe->List Ab
 |.any=>[]
 |.word=>[]
 |.num=>[]
 |.isv d=>[d]
 |.bind k=>[.str k]
 |.as k=>[.str k]
 |.nx k=>[.str k]
def Fe.d(f:Fe):Ab:=.tuple (.str f.hd::f.tl)
abbrev eQ(k:Str):Prop:=m6 k
def Fe.ok:Fe->Prop
 |.isv d=>ck d=ah
 |.bind k=>eQ k
 |.as k=>eQ k
 |.nx k=>eQ k
 |_=>True
def Fe.bd:Fe->Option Str
 |.bind k=>ae k
 |_=>af
def Fe.us:Fe->Option Str
 |.as k=>ae k
 |.nx k=>ae k
 |_=>af
def bA(fs:List Fe):List Str:=fs.filterMap Fe.bd
def Fe.pt:Fe->Bool
 |.nx _=>ai
 |_=>ah
def Fe.tm:Fe->Bool
 |.isv _=>ah
 |.as _=>ah
 |.nx _=>ah
 |_=>ai
def Fe.te:Fe->Bool
 |.isv _=>ah
 |.as _=>ah
 |_=>ai
def d8(fs:List Fe):Prop:=fs.length<=4/\∀f∈fs,f.ok
def rF:List Str->List Fe->Prop
 |_,[]=>True
 |ks,f::r=>(∀k,f.us=ae k->k∈ks)/\rF (ks++f.bd.toList) r
inductive Ac where
 |lay (fs:List Fe) (age:Ab)|take (fs:List Fe)|read (fs:List Fe)|look (fs:List Fe) (b:Nat)|same (f g:Fe) (b:Nat)|go (b:Nat)
def cK(fs:List Fe):Ab:=.tuple (fs.map Fe.d)
def Ac.d:Ac->Ab
 |.lay fs age=>.tuple [.str "lay",cK fs,age]
 |.take fs=>.tuple [.str "take",cK fs]
 |.read fs=>.tuple [.str "read",cK fs]
 |.look fs b=>.tuple [.str "look",cK fs,.int b]
 |.same f g b=>.tuple [.str "same",f.d,g.d,.int b]
 |.go b=>.tuple [.str "go",.int b]
def Ac.bs:Ac->List Str
 |.take fs=>bA fs
 |.read fs=>bA fs
 |.look fs _=>bA fs
 |_=>[]
def Ac.fs:Ac->List Fe
 |.lay fs _=>fs
 |.take fs=>fs
 |.read fs=>fs
 |.look fs _=>fs
 |.same f g _=>[f,g]
 |.go _=>[]
def Ac.to:Ac->Option Nat
 |.look _ b=>ae b
 |.same _ _ b=>ae b
 |.go b=>ae b
 |_=>af
def Ac.right(wants:List (List Str))(ks:List Str)(a:Ac):Prop:=rF ks a.fs/\∀b,a.to=ae b->∃w,wants[b]?=ae w/\∀k∈w,k∈ks
def iO(d:Ab):Prop:=d=.none\/∃i:Int,d=.int i/\1<=i/\i<=20
def gO(fs:List Fe):Prop:=1<=fs.length/\∀f∈fs,f.pt=ah
def Ac.pat:Ac->Prop
 |.take fs=>gO fs
 |.read fs=>gO fs
 |.look fs _=>gO fs
 |.lay fs age=>(∀f∈fs,f.tm=ah)/\iO age/\1<=fs.length
 |.same f g _=>f.te=ah/\g.te=ah
 |.go _=>True
def jw(a:Ac):Prop:=d8 a.fs/\a.pat
abbrev Bl:=List Str×List Ac
def dI(b:Bl):Ab:=.tuple [eB b.1,.tuple (b.2.map Ac.d)]
def eD(bs:List Bl):Ab:=.tuple (bs.map dI)
def kn(w:List Str)(as:List Ac)(p:Nat):List Str:=w++(as.take p).flatMap Ac.bs
def kd(b:Bl):Prop:=b.1.length<=4/\(∀k∈b.1,eQ k)/\b.2.length<=8/\(∀a∈b.2,jw a)/\b.1.Nodup/\gH b.1
def lA(wants:List (List Str))(b:Bl):Prop:=∀(p:Nat)(a:Ac),b.2[p]?=ae a->a.right wants (kn b.1 b.2 p)
def iS:bb:=λws n Q=>ws=[.tp]/\n < 2 ^ 39/\∀v∈qC,Q (.d v) (n+1)
def lY:bb:=λws n Q=>ws=[.tp]/\n < 2 ^ 39/\∀m:Nat,1<=m->m<=4->Q (.d (.int m)) (n+1)
def uh:bb:=λws n Q=>∃ks:List Str,ws=[.tp,.ln (ks.map .str)]/\ks.length<=1000/\(∀k∈ks,eQ k)/\n+9 < 2 ^ 39/\∀(fs:List Fe)(n':Int),1<=fs.length->d8 fs->(∀f∈fs,f.tm=ah)->rF ks fs->n'<=n+9->Q (.d (cK fs)) n'
def rG:bb:=λws n Q=>∃ks:List Str,ws=[.tp,.ln (ks.map .str)]/\ks.length<=1000/\(∀k∈ks,eQ k)/\n+2 < 2 ^ 39/\∀(f:Fe)(n':Int),f.ok->f.te=ah->(∀k,f.us=ae k->k∈ks)->n'<=n+2->Q (.d f.d) n'
def pF:bb:=λws n Q=>∃(ks:List Str)(os:List Nat)(wants:List (List Str)),ws=[.tp,.ln (ks.map .str),.d (.list (os.map λb=>.int (b:Nat)))]/\ks.length<=1000/\(∀k∈ks,eQ k)/\0 < os.length/\os.length<=1000 /\
 (∀b∈os,∃w,wants[b]?=ae w/\∀k∈w,k∈ks)/\n+11 < 2 ^ 39/\∀(a:Ac)(n':Int),jw a->a.right wants ks->n'<=n+11->Q (.d (.tuple [a.d,.list (a.bs.map .str)])) n'
def kM(bs:List Bl):Prop:=1<=bs.length/\bs.length<=6/\∀b∈bs,kd b/\lA (bs.map (·.1)) b
def vZ:bb:=λws n Q=>∃(ks:List Str)(v:Wv),ws=[.tp,v]/\fE v=ae (ks.map .str)/\ks.length<=1000/\(∀k∈ks,eQ k)/\n+9 < 2 ^ 39/\∀(fs:List Fe)(n':Int),1<=fs.length->d8 fs->(∀f∈fs,f.pt=ah)->rF ks fs->n'<=n+9->Q (.d (.tuple [cK fs,.list ((bA fs).map .str)])) n'
def jG(bs:List Bl):Prop:=∃w,bs.map (·.1)=[]::w
def wF:bb:=λws n Q=>ws=[.tp]/\n+600 < 2 ^ 39/\∀(bs:List Bl)(n':Int),kM bs->jG bs->n'<=n+600->Q (.d (eD bs)) n'
abbrev Hn:=Nat×Nat×Nm
def cM(h:Hn):Ab:=.tuple [.int h.1,.int h.2.1,dh h.2.2]
abbrev Nt:=List Ab×Ab
def fQ(q:Nt):Ab:=.tuple [.tuple q.1,q.2]
def fI(ns:List Nt):Ab:=.tuple (ns.map fQ)
def b3(hs:List Hn)(ns:List Nt):Ab:=.tuple [.tuple (hs.map cM),fI ns]
abbrev Pg:=List (List Bl)
def cf(ps:Pg):Ab:=.tuple (ps.map eD)
def bT(ps:Pg):Prop:=ps.length<=5/\∀P∈ps,kM P
def mT(q:Nt):Prop:=tJ q.1/\iO q.2
def d6(m:Nat)(ns:List Nt):Prop:=ns.length<=m/\∀q∈ns,mT q
structure okHn(b:Bl)(h:Hn):Prop where
 pl:h.2.1<=b.2.length
 nd:(h.2.2.map (·.1)).Nodup
 ok:∀p∈h.2.2,fj p
 up:ja h.2.2
 mem:∀k,k∈h.2.2.map (·.1)↔k∈kn b.1 b.2 h.2.1
 ln:h.2.2.length<=40
theorem okHn.n(H:okHn b h):okN h.2.2:=⟨H.ln,H.nd,H.ok⟩
def okHs(ps:Pg)(hs:List Hn):Prop:=hs.length=ps.length/\∀(i:Nat)(P:List Bl),ps[i]?=ae P->∃(h:Hn)(b:Bl),hs[i]?=ae h/\P[h.1]?=ae b/\okHn b h
def bS(ps:Pg)(hs:List Hn)(h:Nat):Option Ac:=ps[h]?.bind λP=>hs[h]?.bind λx=>P[x.1]?.bind λb=>b.2[x.2.1]?
def qz:Option Ac->Ab
 |none=>.none
 |some a=>a.d
def Fe.fd:Fe->Fd
 |.any=>.any
 |.word=>.word
 |.num=>.number
 |.isv d=>.is d
 |.bind k=>.bind k
 |.as k=>.as k
 |.nx _=>.any
def Ac.pf:Ac->Option (List Fd)
 |.take fs=>ae (fs.map Fe.fd)
 |.read fs=>ae (fs.map Fe.fd)
 |.look fs _=>ae (fs.map Fe.fd)
 |_=>af
def Ac.wt:Ac->Bool
 |.take _=>ah
 |.read _=>ah
 |_=>ai
def bf(fs:List Fd)(nm:Nm)(ns:List Nt):Option Nat:=ns.findIdx? λq=>cG fs q.1 nm
def ug(hs:List Hn)(h:Nat):Nm:=(hs[h]?.map (·.2.2)).getD []
def ew(ps:Pg)(hs:List Hn)(ns:List Nt)(h:Nat):Option Nat:=(bS ps hs h).bind λa=>a.pf.bind λfs=>bf fs (ug hs h) ns
def cu(ps:Pg)(hs:List Hn)(ns:List Nt)(h:Nat):Bool:=((bS ps hs h).map λa=>!a.wt || (ew ps hs ns h).isSome).getD ai
def jt:Option Nat->Ab
 |none=>.none
 |some i=>.int i
def cX(ns:List Nt)(i:Nat):List Ab:=(ns[i]?.map (·.1)).getD []
def dA(ps:Pg)(hs:List Hn)(ns:List Nt):Prop:=bT ps/\okHs ps hs/\d6 100 ns
def ka:Ab->Ab
 |.int i=>if i=99 then .int 0 else .int (i+1)
 |d=>d
def iD(nm:Nm)(k:Str):Ab:=(look nm k).getD .none
def fq(nm:Nm):Fe->Ab
 |.isv d=>d
 |.as k=>iD nm k
 |.nx k=>ka (iD nm k)
 |_=>.none
def gU(fs:List Fe)(nm:Nm):List Ab:=fs.map (fq nm)
def kW(P:List Bl)(b:Nat):List Str:=(P[b]?.map (·.1)).getD []
def cv(P:List Bl)(b:Nat)(nm:Nm):Hn:=(b,0,nm.filter λp=>decide (p.1∈kW P b))
def eJ(x:Hn)(nm:Nm):Hn:=(x.1,x.2.1+1,nm)
def bg(hs:List Hn)(h:Nat)(x:Hn):List Hn:=hs.take h++x::hs.drop (h+1)
def jv:Ab->Ab
 |.int i=>.int (i-1)
 |d=>d
def gE:Ab->Bool
 |.int i=>decide (i=1)
 |_=>ai
def ez(ns:List Nt):List Nt:=(ns.filter λq=>!gE q.2).map λq=>(q.1,jv q.2)
def cR(ns:List Nt)(i:Nat):List Nt:=ns.take i++ns.drop (i+1)
def bI(fs:List Fe)(x:Hn)(ns:List Nt):Option (Nat×Hn):=(bf (fs.map Fe.fd) x.2.2 ns).map λi=>(i,eJ x (b7 (eY (fs.map Fe.fd) (cX ns i) x.2.2)))
def oP(P:List Bl)(x:Hn)(ns:List Nt):Ac->Option (Hn×List Nt)
 |.lay fs age=>ae (eJ x x.2.2,ns++[(gU fs x.2.2,age)])
 |.go b=>ae (cv P b x.2.2,ns)
 |.same f g b=>ae (if fP (fq x.2.2 f) (fq x.2.2 g)=ah then eJ x x.2.2 else cv P b x.2.2,ns)
 |.take fs=>(bI fs x ns).map λq=>(q.2,cR ns q.1)
 |.read fs=>(bI fs x ns).map λq=>(q.2,ns)
 |.look fs b=>match bI fs x ns with
  |some q=>ae (q.2,ns)
  |none=>ae (cv P b x.2.2,ns)
def ef(ps:Pg)(hs:List Hn)(ns:List Nt)(h:Nat):Option (List Hn×List Nt):=ps[h]?.bind λP=>hs[h]?.bind λx=>(bS ps hs h).bind λa=>(oP P x ns a).map λr=>(bg hs h r.1,r.2)
def bU(ps:Pg)(hs:List Hn)(ns:List Nt)(m:Nat):Option (List Hn×List Nt):=if m=ps.length then ae (hs,ez ns)else ef ps hs ns m
def iR:Option (List Hn×List Nt)->Ab
 |none=>.none
 |some r=>b3 r.1 r.2
def eG(nm:Nm)(f:Fe):Prop:=f.ok/\f.tm=ah/\∀k,f.us=ae k->∃v,look nm k=ae v/\ck v=ah
def wg:bb:=λws n Q=>∃v,ws=[.d v]/\ck v=ah/\Q (.d (ka v)) n
def nk:bb:=λws n Q=>∃(f:Fe)(nm:Nm),ws=[.d f.d,.dk (cg nm)]/\eG nm f/\Q (.d (fq nm f)) n
def qy:bb:=λws n Q=>∃(fs:List Fe)(nm:Nm),ws=[.d (cK fs),.d (dh nm)]/\fs.length<=4/\(∀f∈fs,eG nm f)/\okN nm/\Q (.d (.tuple (gU fs nm))) n
def uu:bb:=λws n Q=>∃(f g:Fe)(b:Nat)(nm:Nm),ws=[.d (Ac.same f g b).d,.d (dh nm)]/\eG nm f/\eG nm g/\f.te=ah/\g.te=ah/\okN nm/\Q (.d (.bool (fP (fq nm f) (fq nm g)))) n
def l7:bb:=λws n Q=>∃(x:Hn)(nm:Nm),ws=[.d (cM x),.d (dh nm)]/\Q (.d (cM (eJ x nm))) n
def oG:bb:=λws n Q=>∃(P:List Bl)(b:Nat)(nm:Nm)(w:Bl),ws=[.d (eD P),.d (.int b),.d (dh nm)]/\P[b]?=ae w/\w.1.length<=4/\Q (.d (cM (cv P b nm))) n
def jd:bb:=λws n Q=>∃(hs:List Hn)(h:Nat)(x:Hn),ws=[.d (.tuple (hs.map cM)),.d (.int h),.d (cM x)]/\h < hs.length/\hs.length<=5/\Q (.d (.tuple ((bg hs h x).map cM))) n
def oR:bb:=λws n Q=>∃(ps:Pg)(hs:List Hn)(ns:List Nt)(h:Nat)(a:Ac),ws=[.d (cf ps),.d (b3 hs ns),.d (.int h),.d a.d]/\dA ps hs ns/\h < ps.length/\bS ps hs h=ae a/\a.pf.isSome=ah/\Q (.d (iR (ef ps hs ns h))) n
def vR:bb:=λws n Q=>∃(ps:Pg)(hs:List Hn)(ns:List Nt)(h:Nat),ws=[.d (cf ps),.d (b3 hs ns),.d (.int h)]/\dA ps hs ns/\h < ps.length/\Q (.d (iR (ef ps hs ns h))) n
def uq:bb:=λws n Q=>∃q:Nt,ws=[.d (fQ q)]/\iO q.2/\Q (.d (fQ (q.1,jv q.2))) n
def v5:bb:=λws n Q=>∃(hs:List Hn)(ns:List Nt),ws=[.d (b3 hs ns)]/\(∀q∈ns,iO q.2)/\Q (.d (b3 hs (ez ns))) n
def rY:bb:=λws n Q=>∃(ps:Pg)(hs:List Hn)(ns:List Nt)(m:Nat),ws=[.d (cf ps),.d (b3 hs ns),.d (.int m)]/\dA ps hs ns/\m<=ps.length/\Q (.d (iR (bU ps hs ns m))) n
def gR:bb:=λws n Q=>∃(ps:Pg)(hs:List Hn)(ns:List Nt)(m:Nat)(r:List Hn×List Nt),ws=[.d (cf ps),.d (b3 hs ns),.d (.int m)]/\dA ps hs ns/\m<=ps.length/\bU ps hs ns m=ae r/\Q (.d (b3 r.1 r.2)) n
def nj:bb:=λws n Q=>∃(ps:Pg)(hs:List Hn)(ns:List Nt)(h:Nat),ws=[.d (cf ps),.d (b3 hs ns),.d (.int h)]/\okHs ps hs/\h < ps.length/\Q (.d (qz (bS ps hs h))) n
def uN:bb:=λws n Q=>∃(ps:Pg)(hs:List Hn)(ns:List Nt)(h:Nat),ws=[.d (cf ps),.d (b3 hs ns),.d (.int h)]/\dA ps hs ns/\h < ps.length/\Q (.d (jt (ew ps hs ns h))) n
def mY:bb:=λws n Q=>∃m:Nat,ws=[.tp,.d (.int m)]/\m<=12/\n+100 < 2 ^ 39/\∀(ns:List Nt)(n':Int),d6 m ns->n'<=n+100->Q (.d (fI ns)) n'
def rh:bb:=λws n Q=>∃(P:List Bl)(i p:Nat)(b:Bl),ws=[.d (eD P),.d (.int i),.d (.int p)]/\P[i]?=ae b/\kd b/\p<=b.2.length/\∀ys:List Str,ys.Nodup->(∀k∈ys,eQ k)->gH ys->(∀k,k∈ys↔k∈kn b.1 b.2 p)->Q (.d (.list (ys.map .str))) n
def pC:bb:=λws n Q=>∃(ps:Pg)(m:Nat),ws=[.tp,.d (cf ps),.d (.int m)]/\m<=6/\bT ps/\n+400 < 2 ^ 39/\∀(hs:List Hn)(ns:List Nt)(n':Int),okHs ps hs->d6 m ns->n'<=n+400->Q (.d (b3 hs ns)) n'
def vi:bb:=λws n Q=>ws=[.tp]/\n+3000 < 2 ^ 39/\∀(ps:Pg)(hs:List Hn)(ns:List Nt)(n':Int),bT ps->okHs ps hs->d6 4 ns->n'<=n+3000->Q (.d (.tuple [cf ps,b3 hs ns])) n'
def wq:bb:=nX
def t8:bb:=qy
def t7:bb:=λws n Q=>∃(ps:Pg)(hs:List Hn)(h:Nat),ws=[.d (cf ps),.d (.tuple (hs.map cM)),.d (.int h)]/\okHs ps hs/\h < ps.length/\Q (.d (qz (bS ps hs h))) n
def gT(fs:List Fd)(nm:Nm)(ns:List Nt):Ab:=match bf fs nm ns with
 |none=>.none
 |some i=>.tuple [.int (i:Nat),dh (b7 (eY fs (cX ns i) nm))]
def px:bb:=λws n Q=>∃(a:Ac)(fs:List Fd)(ns:List Nt)(nm:Nm),ws=[.d a.d,.d (fI ns),.d (dh nm)]/\jw a/\a.pf=ae fs/\d6 100 ns/\okN nm/\Q (.d (gT fs nm ns)) n
def jF(ps:Pg)(hs:List Hn)(ns:List Nt):List Nat:=(Bc (ps.length+1)).filter λi=>(bU ps hs ns i).isSome
def g9:bb:=λws n Q=>∃(ps:Pg)(hs:List Hn)(ns:List Nt),ws=[.d (cf ps),.d (b3 hs ns)]/\dA ps hs ns/\Q (.d (.list ((jF ps hs ns).map λi=>.int (i:Nat)))) n
def lI(b:Bl):Prop:=b.1.length<=4/\(∀k∈b.1,eQ k)/\b.2.length<=8/\∀a∈b.2,jw a
def pK(ps:Pg):Prop:=ps.length<=5/\∀P∈ps,1<=P.length/\P.length<=6/\∀b∈P,lI b
def Kno(l ys:List Str):Prop:=ys.Nodup/\gH ys/\∀k,k∈ys↔k∈l
def kS(l:List Str):List Str:=by classical exact if h:∃ys,Kno l ys then h.choose else[]
def fX:Ab->Bool
 |.tuple [x,v]=>bR 4 x&&c7 v
 |_=>ai
def og:Ab->Ab
 |.tuple (x::_)=>x
 |_=>.none
def nF:Ab->List Nat
 |.str x=>x.cps.toList
 |_=>[]
def fL:List Ab->Bool
 |a::b::r=>decide (nF (og a) < nF (og b))&&fL (b::r)
 |_=>ah
def gi:Ab->Bool
 |.tuple ds=>ds.all fX&&fL ds
 |_=>ai
def dC:List Str->List Ab->Bool
 |[],[]=>ah
 |y::ys,.tuple [.str x,v]::ds=>decide (x=y)&&(c7 v&&dC ys ds)
 |_,_=>ai
def i4(ys:List Str):Ab->Bool
 |.tuple ds=>dC ys ds
 |_=>ai
abbrev H3:=Ab×Ab×Ab
def dm(h:H3):Ab:=.tuple [h.1,h.2.1,h.2.2]
def pZ:Ab->Bool
 |.tuple [_,_,_]=>ah
 |_=>ai
def mi:Ab->Bool
 |.tuple ds=>ds.all pZ
 |_=>ai
def w6:Ab->Bool
 |.tuple _=>ah
 |_=>ai
def iW:Ab->Bool
 |.tuple [a,b]=>mi a&&w6 b
 |_=>ai
def fg(P:List Bl)(a b:Ab):Bool:=fh 0 ((P.length:Int)-1) a&&(match a with
 |.int i=>fh 0 (((P[i.toNat]?).map λbl=>bl.2.length).getD 0:Nat) b
 |_=>ai)
def gG(P:List Bl)(h:H3):Bool:=match h.1,h.2.1 with
 |.int i,.int p=>match P[i.toNat]? with
  |some b=>i4 (kS (kn b.1 b.2 p.toNat)) h.2.2
  |none=>ai
 |_,_=>ai
def gZ(q:List Bl×H3):Bool:=fg q.1 q.2.1 q.2.2.1
def hO(q:List Bl×H3):Bool:=gG q.1 q.2
def f9(ps:Pg)(T:List H3)(ns:List Ab):Ab:=
 if T.length=ps.length then
  if (ps.zip T).all gZ=ah then
   if (ps.zip T).all hO=ah then
    if ns.all fe=ah then .none else .str "notes"
   else .str "names"
  else .str "place"
 else .str "hands"
abbrev pB(d:Ab):Prop:=∃L k,Th L k d/\L<=300/\k<=18
def Ht(ps:Pg)(d r:Ab):Prop:=(iW d=ai/\r=.str "form")\/∃T ns,d=.tuple [.tuple (T.map dm),.tuple ns]/\r=f9 ps T ns
def m3:bb:=λws n Q=>∃(d:Ab)(k:Int),ws=[.d d,.d (.int k)]/\Q (.d (.bool (fh 0 k d))) n
def si:bb:=λws n Q=>∃(P:List Bl)(h:H3),ws=[.d (eD P),.d (dm h)]/\Q (.d (.bool (gZ (P,h)))) n
def nN:bb:=λws n Q=>∃fs:List Fe,ws=[.d (cK fs)]/\d8 fs/\∀ys:List Str,ys.length<=4->(∀k,k∈ys↔k∈bA fs)->Q (.d (eB ys)) n
def uy:bb:=λws n Q=>∃(P:List Bl)(i p:Nat)(b:Bl),ws=[.d (eD P),.d (.int i),.d (.int p)]/\P[i]?=ae b/\lI b/\p<=b.2.length/\(Kno (kn b.1 b.2 p) (kS (kn b.1 b.2 p))->Q (.d (eB (kS (kn b.1 b.2 p)))) n)
def qF:bb:=λws n Q=>∃(P:List Bl)(h:H3),ws=[.d (eD P),.d (dm h)]/\(∀b∈P,lI b)/\gZ (P,h)=ah/\pB h.2.2/\Q (.d (.bool (hO (P,h)))) n
def v9:bb:=λws n Q=>∃(ps:Pg)(d:Ab),ws=[.d (cf ps),.d d]/\pK ps/\pB d/\∀r,Ht ps d r->Q (.d r) n
def sM:bb:=λws n Q=>∃(d:Ab)(k:Int),ws=[.d d,.d (.int k)]/\Q (.d (.bool (bR k d))) n
def jE:bb:=λws n Q=>∃(d:Ab)(lo hi:Int),ws=[.d d,.d (.int lo),.d (.int hi)]/\Q (.d (.bool (fh lo hi d))) n
def jx:bb:=bx dw
def lr:bb:=λws n Q=>ws=[.tp]/\n < 2 ^ 39/\∀d,Th 9 2 d->Q (.d d) (n+1)
def kQ:Nat->bb
 |0=>λ_ _ _=>False
 |t+1=>λws n Q=>∃(d:Ab)(L k:Nat),ws=[.tp,.d d]/\Th L k d/\9<=L/\L<=120/\k<=t/\n+5*(k:Int)+5 < 2 ^ 39/\∀(d':Ab)(n':Int),Th (L+1) (k+2) d'->n'<=n+5*(k:Int)+5->Q (.d d') n'
def gc(P:List Bl):Ab->Bool
 |.tuple [a,b,c]=>fg P a b&&gG P (a,b,c)
 |_=>ai
def gL(ps:Pg):Ab->Bool
 |.tuple hs=>decide (hs.length=ps.length)&&(ps.zip hs).all λq=>gc q.1 q.2
 |_=>ai
def lS:Ab->Bool
 |.tuple ns=>ns.all fe
 |_=>ai
def gu(ps:Pg):Ab->Bool
 |.tuple [a,b]=>gL ps a&&lS b
 |_=>ai
def n9(ps:Pg):Ab->Bool
 |.list ds=>ds.all (gu ps)
 |_=>ai
def lU(ps:Pg)(s:TK):Option (List Hn×List Nt):=open Classical in if h:∃p:List Hn×List Nt,s.1=b3 p.1 p.2/\dA ps p.1 p.2 then ae h.choose else af
def l3(d:Ab):Option TK:=if t:df 6 d=ah then ae ⟨d,t⟩else af
def bF(ps:Pg)(s:TK)(m:Nat):Option TK:=(lU ps s).bind λp=>(bU ps p.1 p.2 m).bind λr=>l3 (b3 r.1 r.2)
def Gk(ps:Pg)(c:Nat)(s:TK):Prop:=∃hs ns,s.1=b3 hs ns/\dA ps hs ns/\ns.length+c<=99
def c9(ps:Pg)(ks:List TK)(k:TK):Bool:=(Bc (ps.length+1)).all λm=>match bF ps k m with
 |none=>ah
 |some b=>decide (b∈ks)
def js(ps:Pg)(s:TK)(ks:List TK):Bool:=decide (s∈ks)&&ks.all (c9 ps ks)
def uO(ps:Pg)(s:TK):Ab->Bool
 |.list ds=>ds.all (gu ps)&&js ps s (ds.filterMap l3)
 |_=>ai
abbrev lu(d:Ab):Prop:=Th 90 12 d
def rq:bb:=λws n Q=>∃(ps:Pg)(d:Ab),ws=[.d (cf ps),.d d]/\bT ps/\lu d/\Q (.d (.bool (n9 ps d))) n
def vC:bb:=λws n Q=>∃(ps:Pg)(k:TK)(x:Wv)(kvs:List (TK×Ab)),ws=[.d (cf ps),.d k.1,x]/\ig x kvs/\Gk ps 0 k/\Q (.d (.bool (c9 ps (kvs.map (·.1)) k))) n
def p6:bb:=λws n Q=>∃(ps:Pg)(s:TK)(d:Ab),ws=[.d (cf ps),.d s.1,.d d]/\bT ps/\Gk ps 0 s/\lu d/\Q (.d (.bool (uO ps s d))) n
def wO:bb:=λws n Q=>∃(P:List Bl)(d:Ab),ws=[.d (eD P),.d d]/\kM P/\lu d/\Q (.d (.bool (gc P d))) n
def rf:bb:=λws n Q=>∃(ps:Pg)(d:Ab),ws=[.d (cf ps),.d d]/\bT ps/\lu d/\Q (.d (.bool (gL ps d))) n
def pW:bb:=λws n Q=>∃(ps:Pg)(d:Ab),ws=[.d (cf ps),.d d]/\bT ps/\lu d/\Q (.d (.bool (gu ps d))) n
def qD:bb:=p6
def su:eL:=λws n Q=>∃ps:Pg,ws=[.tp,.d (cf ps),.d (.int 20)]/\bT ps/\n+500 < 2 ^ 39/\∀(ss:List TK)(n':Int),ss.length<=20->(∀s∈ss,Gk ps 20 s)->n'<=n+500->Q (ss.map (·.1)) n'
def w4:bb:=λws n Q=>∃(ps:Pg)(ss:List TK),ws=[.tp,.d (cf ps),.d (.list (ss.map (·.1)))]/\bT ps/\0 < ss.length/\ss.length<=30/\(∀s∈ss,Gk ps 20 s)/\n+1000 < 2 ^ 39/\∀(d:Ab)(n':Int),lu d->n'<=n+1000->Q (.d d) n'
end Nb
namespace L2
open PySem PySem.Spec PyProof.Rows PySem.W
def yk(K:Af):List V->Hp->VK->Prop:=λxs H Q=>∃a ps,xs=[.ref a]/\Rd H a (.dX ps)/\f7 K H ps/\∀l,H l=af->Q (.ref l) (upd H l (.lst (ps.map λp=>V.ref p.2.1)))
theorem CF(r:KX ps xs):Vals (ps.map λp=>V.ref p.2.1) (xs.map λx=>Cg x.2.1):=by
 induction r with
 |nil=>exact .nil
 |@cons p q ps b h t a=>exact .cons (show RelV (V.ref p.2.1) _ by rw[h.2.1];rfl) a
theorem IK(hh:X.A.handled=af):CallR X (.type "list") (yk X.K):=by
 intro p s σ H R O Q I r h;obtain⟨a,v,rfl,J,M,q⟩:=h;obtain⟨u,rfl,F⟩:=f6 r;cases(F);obtain⟨z,y,G,d,o,n,P,D,t,B,m,L⟩:=(show ObjOk X.prog X.w H s.heap a (.dX v)from J.ok I.hok);have E:=by
  have:=congrArg Fu m;rw[Ad,Dg]at this;omega
 have l:=(D9 d).symm;refine kdl_call (R9 y) hh (⟨o,D,t,B⟩) (by simp_all) λh' N b c i k f=>?_;have e:b=(G.map λx=>Cg x.2.1).toArray:=by
  apply Gt.mp;apply List.ext_getElem?;intro j;by_cases C:j < n.size
  ·have g:j < b.toList.length:=by rw[Dg,f.1];exact C
   have this:(n[j]?).map _=ae (b.toList[j]):=f.2 j _ (by simp);rw[<-Eg,m,Ap,Option.map_map]at this;rw[Ai g,<-this,Ap];rfl
  ·rw[Dk (by rw[Dg,f.1];omega),Dk (by simp;omega)]
 rw[e]at k;refine⟨.ref s.heap.objs.size,_,I.laid (o:=.lst _) i (by simp) ⟨by rw[Ad];exact z,_,c,CF d,k⟩,rfl,q _ (I.hok.fresh (by simp))⟩
def CZ(a:A_)(o:Obj)(l:List XP):It:=
 ⟨λi H=>H a=ae (.frz o (.dX l))/\i < l.length,λi H x H'=>H'=H/\∃p,l[i]?=ae p/\x=.ref p.2.1,λi H=>H a=ae (.frz o (.dX l))/\l.length<=i⟩
theorem uW{l:List XP}(hd:o.data=.dict es ep)(ok:ObjOk P w H h a (.frz o (.dX l))):(a==Dj)=ai/\DEs h a es ep/\es.size=l.length/\∀i p,l[i]?=ae p->(es.getD i ⟨0,.none,.none⟩).key=.ref p.2.1:=by
 obtain⟨g,z,A,m,b,E,C,x,k,s,d,f,D⟩:=ok;rw[g]at k;cases k;rw[hd]at d;cases d;have t:=by
  have:=congrArg Fu f;rw[Ad,Dg]at this;omega
 refine⟨A,⟨o,g,s,hd⟩,t.trans (D9 b).symm,λi p e=>?_⟩;have v:i < m.length:=(D9 b)▸(Aw.mp e).1;obtain⟨q,n⟩:∃q,m[i]?=ae q:=⟨_,Ai v⟩;have j:es[i]?=ae (entryOfKey (jY P w) q):=by rw[<-Eg,f,Ap,n];rfl
 have y:p.2.1=q.2.1:=by
  have:=CF b;obtain⟨u,r,B⟩:=this.get (by rw[Ap,e];rfl);rw[Ap,n]at r;cases r;exact(Value.ref.inj (B)).symm
 have c:i < es.size:=by simp_all
 rw[show es.getD i _=es[i] by simp[c]];rw[Cy c]at j;rw[B2 j,y];rfl
theorem RI{K:Af}(hd:o.data=.dict es ep):Turn P w K tg (CZ a o l) [it] it (λi h=>h.IsKeyIter it a i es.size ep) where
 mem:=by simp
 obj:=λi h f b j=>by
  have e:b=it:=by simp_all
  subst e;obtain⟨o,e,c,d⟩:=f;exact⟨o,e,λv z=>by simp_all⟩
 keep:=λi h L f k=>f.at (k it (by simp))
 item:=by
  intro X O S T J i g s σ H E I n f r;obtain⟨B,D⟩:=r;obtain⟨_,q,M,C⟩:=uW hd (I.hok a _ B);obtain⟨p,F⟩:∃p,l[i]?=ae p:=⟨_,Ai D⟩;obtain⟨u,x,Q,t,A,y⟩:=n it (by simp);refine sf f q (λ_ L m U=>?_) λz=>f_ z ⋯;rw[C i p F];have R:Inv X g σ H {s with heap:=L}:=I.turned (λb o j=>(U.2 b j).trans) u x t A y;obtain⟨Y,e,c,d⟩:=id m;exact⟨_,rfl,om e c d ∎ ⟨.ref p.2.1,H,R,rfl,⟨rfl,p,F,rfl⟩,m,λb j=>(n b j).1⟩⟩
 done:=by
  intro X O S T J i g s σ H E I n f r;obtain⟨B,D⟩:=r;obtain⟨_,q,M,C⟩:=uW hd (I.hok a _ B);obtain⟨u,x,Q,t,A,y⟩:=n it (by simp);exact sf f q (λz=>f_ z ⋯) λ_=>⟨I.ok.hd J,λh' N=>⟨rfl,I.turned (N) u x t A y⟩⟩
 self:=λ_ _ _ _ _=>wpAny_pyIter_keyiter
def zw(tl:TE):TI:=λσ H R=>tl σ H λx H1=>∃a o l,x=.ref a/\H1 a=ae (.frz o (.dX l))/\R (CZ a o l) H1
theorem J1(hl:PE X l tl):PI X tg l (zw tl):=by
 intro c s σ H R I h;refine aP (hl c s σ H _ I h) λv w v=>?_;obtain⟨x,r,d,t,m⟩:=v;obtain⟨a,o,B,e,p,q⟩:=m;subst e;cases t;have j:=d.hok a _ p;obtain⟨g,z,u,G,n,E,D,F,i,y,f,C,A⟩:=id j;rw[g]at i;cases i;obtain⟨_,k,_,_⟩:=uW f j;refine zr u k ⟨_,_,_,_,r,rfl,d.kept λb o=>Ae _,RI f,⟨_,Ar _ rfl,rfl,rfl⟩,λb J=>?_,q⟩;have e:b=w.heap.objs.size:=by simp_all
 subst e;exact d.fpOk (by simp) (d.hok.fresh (by simp))
theorem Inv.freezeX{σ:St}{l:List XP}(I:Inv X h_ σ H s)(e:H a=ae (.dX l)):∃o,Inv X h_ σ (upd H a (.frz o (.dX l))) s:=by
 obtain⟨z,k,h,b,o,f,m,c,d,i,j,g⟩:=I.hok a _ e;exact⟨o,mO I (by rw[e];trivial) ⟨rfl,λ_ _=>rfl⟩ ⟨o,c⟩ ⟨c,z,k,h,b,o,f,m,c,d,i,j,g⟩⟩
def lV(T:TS):TS:=λD σ H=>∃a l,H a=ae (.dX l)/\∀o,T D σ (upd H a (.frz o (.dX l)))
theorem xJ(h:PSs X b T):PSs X b (lV T):=λh_ s σ H D I q=>by
 obtain⟨a,l,e,q⟩:=q;obtain⟨o,d⟩:=I.freezeX e;exact h h_ s σ _ D d (q o)
end L2
namespace DL
open PySem L2 Nb
theorem Rel.fzX(R:Rel C H B σ δ n)(hi:δ[i]?=ae (ae (.odx m))):
  ∃a l,σ[i]?=ae (ae (.ref a))/\H a=ae (.dX l)/\B a/\C.H0 a=af/\a≠C.t/\∀o,Rel C (upd H a (.frz o (.dX l))) (λb=>B b/\b≠a) σ (δ.set i (ae (.w (.ob (.y m))))) n:=by
 obtain⟨v,S,a,l,rfl,N,U,M,e5,e6⟩:=R.sl i _ hi;have W:a≠C.t:=λz=>R.t0 (z▸M);refine⟨a,l,S,N,U,M,W,λo=>?_⟩;have Z:Rel C H B σ (δ.set i af) n:={
  tp:=R.tp,kp:=R.kp,t0:=R.t0,l0:=R.l0,g0:=R.g0,fz:=R.fz,bt:=R.bt,b0:=R.b0,ba:=R.ba,a0:=R.a0
  sl:=λj y e=>by
   by_cases z:i=j
   ·subst z;rw[Dc]at e;simp_all
   ·rw[B1 z]at e;exact R.sl j y e
  ow:=λj k y z u X N O Q p h=>by
   have g:∀{m:Nat}{w:SV},(δ.set i af)[m]?=ae (ae w)->δ[m]?=ae (ae w):=λ{m w} e=>by
    by_cases q:i=m
    ·subst q;rw[Dc,hi]at e;cases e
    ·rwa [B1 q]at e
   exact R.ow j k y z u (g X) (g N) O Q p h
  len:=by rw[D5];exact R.len}
 have r:Rel C (upd H a (.frz o (.dX l))) B σ _ n:=Z.mut U M λj y e oy f=>by
  by_cases z:i=j
  ·subst z;rw[Dc,hi]at e;cases e
  ·rw[B1 z]at e;exact z (R.ow i j _ y _ hi e rfl oy S f)
 have s:∀b,(B b/\b≠a)->B b:=λb z=>z.1;exact{
  tp:=r.tp,kp:=r.kp,t0:=r.t0,l0:=r.l0,g0:=r.g0
  fz:=λb o e=>⟨(r.fz b o e).1,λz=>(r.fz b o e).2 z.1⟩
  bt:=⟨R.bt,λz=>R.t0 (z▸M)⟩
  b0:=λb z=>⟨R.b0 b z,λq=>R.a0 b z (q▸M)⟩
  ba:=λb z=>r.ba b z.1
  a0:=R.a0
  sl:=λj Y e=>by
   rcases fk e with⟨rfl,rfl⟩|⟨L,P⟩
   ·refine⟨_,S,⟨a,o,l,rfl,br,λz=>z.2 rfl,e6.move λb ob e n=>⟨?_,λz=>n z.1⟩⟩,λz=>by cases z⟩;rw[aX λ(z:b=a)=>n (z▸U)];exact e
   ·obtain⟨u,p,h⟩:=r.sl j Y (by rw[B1 λz=>L z.symm];omega);refine⟨u,p,?_⟩;cases Y with
    |w y=>exact⟨h.1.less s,h.2⟩
    |own x=>
     obtain⟨D,d,G,I,F,E,J,A⟩:=h;exact⟨D,d,G,I,⟨F,λz=>L (R.ow j i _ _ _ P hi rfl rfl p (by simp_all))⟩,E,J,A.less s⟩
    |odk x=>
     obtain⟨D,d,G,I,F,E,J,A⟩:=h;exact⟨D,d,G,I,⟨F,λz=>L (R.ow j i _ _ _ P hi rfl rfl p (by simp_all))⟩,E,J,A.move λb o e n=>⟨e,λz=>n z.1⟩⟩
    |odt x=>
     obtain⟨D,d,G,I,F,E,J,A⟩:=h;exact⟨D,d,G,I,⟨F,λz=>L (R.ow j i _ _ _ P hi rfl rfl p (by simp_all))⟩,E,J,A.move λb o e n=>⟨e,λz=>n z.1⟩⟩
    |odx x=>
     obtain⟨D,d,G,I,F,E,J,A⟩:=h;exact⟨D,d,G,I,⟨F,λz=>L (R.ow j i _ _ _ P hi rfl rfl p (by simp_all))⟩,E,J,A.move λb o e n=>⟨e,λz=>n z.1⟩⟩
  ow:=λj k y z u X N O Q p h=>by
   rcases fk X with⟨rfl,rfl⟩|⟨ne1,T⟩
   ·cases O
   ·rcases fk N with⟨rfl,rfl⟩|⟨ne2,V⟩
    ·cases Q
    ·exact R.ow j k y z u T V O Q p h
  len:=by rw[D5];exact R.len}
theorem RdY.at(h:RdY H B l m):∀{j:Nat}{p:TK×A_×V},l[j]?=ae p->∃q,m[j]?=ae q/\p.1=q.1/\RdX H B (.ref p.2.1) p.1.1/\RdX H B p.2.2 q.2:=by
 induction h with
 |nil=>intro j p e;cases e
 |@cons a b f d r t c=>
  intro j p e;cases j with
  |zero=>cases e;exact⟨b,rfl,r⟩
  |succ j=>exact c e
section
variable{X:Cx}{a b c e o i f tg:Expr}{ta tb te td ty tx:TE}{wa wb we wd' wy wx:DT}{pos p:Pos}{K:Af}
def gD(i:Nat)(W:aE):aE:=λδ n K=>match δ[i]? with
 |some (ae (.odx m))=>W (δ.set i (ae (.w (.ob (.y m))))) n K
 |_=>False
theorem Q1(i)(h:DSs X l T W):DSs X l (lV T) (gD i W):=⟨xJ h.ps,λC H B σ δ n K D R q E=>by
 unfold gD at q
 split at q
 ·rename_i m e;obtain⟨a,l,f,c,j,g,d,b⟩:=R.fzX e;exact⟨a,l,c,λo=>h.sd C _ _ σ _ n K D (b o) q E⟩
 ·exact q.elim⟩
def xk(w:DT):fS:=λδ n Q=>w δ n λx n1=>∃kvs:List (TK×Ab),x=.ob (.y kvs)/\kvs.length<=1000/\Q (kvs.map λp=>p.1.1) n1
theorem S4(ha:DE X a ta wa):DI X tg a (zw ta) (xk wa):=⟨J1 ha.pe,λC H B σ δ n Q U R q k=>ha.sd C H B σ δ n _ _ R q λv x t K I S N F=>by
 obtain⟨i,rfl,A,D⟩:=F;obtain⟨a,o,l,rfl,w,P,u⟩:=(show ORel t B v (.y i)from N);have f:=u.len;refine⟨a,o,l,rfl,w,k _ _ t K I S (λfz m=>?_) D⟩;have g:=m.2 _ _ w P;refine⟨by rw[Ad];exact ft A,λj H h E=>?_,λH h=>?_,λj H x T d h c O=>?_⟩
 ·rw[Ad]at E;exact⟨h _ _ g,by simp_all⟩
 ·exact⟨h _ _ g,by rw[f];simp⟩
 ·obtain⟨rfl,p,L,rfl⟩:=O;refine⟨λ_ _ z=>z,λB' G M=>?_⟩;rw[Ap]at c;obtain⟨q,J,r⟩:=RdY.at u L;rw[J]at c;cases c;exact(r.1▸r.2.1).move λb V e s=>⟨h _ _ (m.2 _ _ e s),G _ _ (m.2 _ _ e s)⟩⟩
end
end DL
namespace L2
open PySem PySem.Spec PyProof.Rows PySem.W
end L2
namespace Nb
open PySem L2 DL
structure AfOk(Sa:bb)(pd:Ab)(N:Nat)(aft:TK->Nat->Option TK)(Gd:TK->Prop):Prop where
 call:∀(k:TK)(m:Nat)(n:Int)(Q:DQ),Gd k->m<=N->Q (.d (match aft k m with|some b=>b.1|none=>.none)) n->Sa [.d pd,.d k.1,.d (.int (m:Nat))] n Q
 good:∀(k:TK)(m:Nat)(b:TK),Gd k->m<=N->aft k m=ae b->Gd b
 tup:∀k:TK,Gd k->∃ds,k.1=.tuple ds
 prog:∃ps:List Ab,pd=.tuple ps/\ps.length=N
abbrev Fm:=List (TK×Ab)×List TK
theorem rj(m:List (TK×Ab))(k):((b6 m k).isSome=ah)↔k∈m.map (·.1):=by
 unfold b6;simp
section
variable(aft:TK->Nat->Option TK)(N:Nat)
def q1(s:TK)(ks:List TK)(m:Nat):List TK:=match aft s m with
 |none=>ks
 |some b=>if b∈ks then ks else ks++[b]
def qs(ks:List TK)(s:TK):List TK:=(Bc (N+1)).foldl (q1 aft s) ks
def Lr(s0:TK):Nat->List TK
 |0=>[s0]
 |j+1=>match (Lr s0 j)[j]? with
  |some s=>qs aft N (Lr s0 j) s
  |none=>Lr s0 j
end
section
variable{aft:TK->Nat->Option TK}{N:Nat}
theorem ot{α β:Type}(f)(h:∀l x,l <+: f l x):∀(xs:List β)(l:List α),l <+: xs.foldl f l
 |[],_=>Ez _
 |x::xs,l=>(h l x).trans (ot f h xs _)
theorem Jf(s)(ks)(m):ks <+: q1 aft s ks m:=by
 unfold q1
 split
 ·exact Ez _
 ·split
  ·exact Ez _
  ·exact List.prefix_append _ _
theorem Jb(ks)(s):ks <+: qs aft N ks s:=ot _ (Jf s) _ _
theorem SD(s0)(j):Lr aft N s0 j <+: Lr aft N s0 (j+1):=by
 show _ <+: (match _[j]? with|some s=>qs aft N _ s|none=>Lr aft N s0 j)
 split
 ·exact Jb _ _
 ·exact Ez _
theorem P1(s0)(i k):Lr aft N s0 i <+: Lr aft N s0 (i+k):=by
 induction k with
 |zero=>exact Ez _
 |succ k a=>exact a.trans (SD s0 _)
theorem Mu{α:Type}{l l':List α}(h:l <+: l')(hi:i < l.length):l'[i]?=l[i]?:=by
 obtain⟨t,rfl⟩:=h;rw[F3 hi]
theorem TQ(h:(Lr aft N s0 J).length<=J):∀k,Lr aft N s0 (J+k)=Lr aft N s0 J
 |0=>rfl
 |k+1=>by
  show(match (Lr aft N s0 (J+k))[J+k]? with|some s=>qs aft N _ s|none=>Lr aft N s0 (J+k))=_;rw[TQ h k,Dk ⋯]
end
section
variable(aft:TK->Nat->Option TK)(N:Nat)
def dS(s:TK×Nat)(E:List (TK×Nat))(m:Nat):List (TK×Nat):=match aft s.1 m with
 |none=>E
 |some b=>if b∈E.map (·.1)then E else E++[(b,s.2+1)]
def dM(E:List (TK×Nat))(s:TK×Nat):List (TK×Nat):=(Bc (N+1)).foldl (dS aft s) E
def El(s0:TK):Nat->List (TK×Nat)
 |0=>[(s0,0)]
 |j+1=>match (El s0 j)[j]? with
  |some s=>dM aft N (El s0 j) s
  |none=>El s0 j
end
section
variable{aft:TK->Nat->Option TK}{N:Nat}{s0:TK}
theorem Vh(s:TK×Nat)(E:List (TK×Nat))(i):(dS aft s E i).map (·.1)=q1 aft s.1 (E.map (·.1)) i:=by
 unfold dS q1;cases aft s.1 i with
 |none=>rfl
 |some b=>
  dsimp only;by_cases z:b∈E.map (·.1)
  ·rw[a' z,a' z]
  ·rw[a_ z,a_ z,Bf];rfl
theorem IP(s:TK×Nat)(E:List (TK×Nat)):(dM aft N E s).map (·.1)=qs aft N (E.map (·.1)) s.1:=by
 unfold dM qs;generalize Bc _=l
 induction l generalizing E with
 |nil=>rfl
 |cons i l b=>rw[Fh,Fh,b,Vh]
theorem zj:∀j,(El aft N s0 j).map (·.1)=Lr aft N s0 j
 |0=>rfl
 |j+1=>by
  show List.map _ (match _[j]? with|some s=>dM aft N _ s|none=>El aft N s0 j)=(match _[j]? with|some s=>qs aft N _ s|none=>Lr aft N s0 j);rw[<-(zj j),Ap];cases(El aft N s0 j)[j]? with
  |none=>rfl
  |some s=>exact IP s _
theorem nZ(s)(E)(i):E <+: dS aft s E i:=by
 unfold dS
 split
 ·exact Ez _
 ·split
  ·exact Ez _
  ·exact List.prefix_append _ _
theorem Rw(E)(s):E <+: dM aft N E s:=ot _ (nZ s) _ _
end
end Nb
namespace DL
open PySem L2 Nb
end DL
namespace L2
open PySem PySem.Spec PyProof.Rows
theorem Md{σ:St}{ps:List XP}(hu:A.units+64 < Co)(I:Inv X h_ σ H s)(e:H a=ae (.dX ps))(hk:f7 X.K H ps)(eb:RdD X.K H (.ref b) k.1)(l:ps.length < As)(rv:RelV v r)(h:∀s',Inv X h_ σ (upd H a (.dX (cF ps k b v))) s'->Q () s'):
  A2 (A8 X.prog X.w) A (dictSet a (.ref b) r) Q E s:=by
 obtain⟨z,t,x,c,g⟩:=mx I (.inl e) hk;have B:x.length<=As:=(D9 c)▸z;have m:(cF ps k b v).length<=As:=by have:=qZ ps k b v;omega
 refine wpAny_dictSet_heap (show A.units+16 < Co by omega) (j6 I eb) g λh' d y=>h _ ?_;obtain⟨q,p,u,f,i,n,o,_,j⟩:=d;exact mO I (by rw[e];trivial) y ⟨q,f⟩ ⟨m,t,_,c.put k rv,q,p,u,f,i,n,o,j⟩
def oN(K:Af)(tk tv:TE):TE:=λσ H Q=>∀p,H p=af->tk σ (upd H p (.dX [])) λy H1=>tv σ H1 λv H2=>∃H3,oS K H2 p y v H3/\Q (.ref p) H3
theorem Oz(hu:X.A.units+64 < Co)(hk:PE X k tk)(hv:PE X v tv):PE X (.Dict [ae k] [v] pos) (oN X.K tk tv):=by
 intro a s σ H Q I h;refine wpAny_Dict_any rfl rfl (by simp) (by simp) ?_;have M:Inv X a σ (upd H s.heap.objs.size (.dX [])) {s with heap:=s.heap.push {cls:=.type "dict",data:=.dict #[]}}:=by
  refine I.laid (λ_ _=>Ae _) (by simp) ?_;obtain⟨z,y,Z,r,o,D,G,F,i,n,p,S⟩:=tX (P:=X.prog) (w:=X.w) (H:=upd H s.heap.objs.size (.dT [])) s.heap I.big;cases r;exact⟨Be _,y,[],.nil,o,D,G,F,i,n,p,List.nodup_nil⟩
 refine Aa (aP (hk a _ σ _ _ M (h _ (I.hok.fresh (by simp)))) λkv R ⟨y,E,m,L,C⟩=>Aa (Bt (Aa (aP (hv a R σ E _ m C) λvv Y ⟨u,W,J,N,U,g,t⟩=>Aa (G1 (Ah ?_))))));refine Aa (Bt (Ah (Ah ?_)));obtain⟨T,j,b,e,c,rfl,x,l,rfl⟩:=g;obtain rfl:=L;show A2 _ _ (forIn [(Cg b,vv)] PUnit.unit _) _ _ _;rw[List.forIn_cons];refine Aa (Aa (Md hu J e c x l N λs4 B=>Ah ?_));show A2 _ _ _ _ _ _;exact Ah ⟨.ref s.heap.objs.size,_,B,rfl,t⟩
end L2
namespace DL
open PySem L2 Nb
section
variable{X:Cx}{k v:Expr}{tk tv:TE}{wk wv:DT}{pos p:Pos}
def sU(i:Nat)(wk wv:DT):aE:=λδ n K=>wk δ n λy n1=>wv δ n1 λz n2=>∃l_ d e,z=.d d/\y=.d e/\nH e l_/\K.nx (δ.set i (ae (.odx [(l_,d)]))) n2
theorem Vk(hu:X.A.units+64 < Co)(hN:X.N.Nodup)(hi:X.N[i]?=ae x)(hx:gB X.env.scope x)(hk:DE X k tk wk)(hv:DE X v tv wv)(hs:Cp (.Dict [ae k] [v] p) (ae (.Name x pos')) pos.line X.env=pure ai:=by rfl)(hf:X.fn x=ah\/X.env.scope.names.lookup x=ae .local:=by first|exact .inl rfl|exact .inr rfl|assumption):
  DS X (.Assign [.Name x pos'] (.Dict [ae k] [v] p) pos) (bX (oN X.K tk tv) (fc i)) (sU i wk wv):=⟨gx hN hi hx (Oz hu hk.pe hv.pe) hs hf,λC H B σ δ n K D R q E=>λa g=>by
 have T:=by
  have:=R.own (i:=δ.length) (R.new g) (Kp.new g) g (by rw[br];simp) (x:=.odx []) rfl ⟨a,[],rfl,br,.inr rfl,R.h0 g,Be _,.nil⟩;rwa [List.set_eq_of_length_le (by rw[R.len];simp),List.set_eq_of_length_le (by simp)]at this
 refine hk.sd C _ _ σ δ n _ _ T q λu y W Y O S r1 U=>hv.sd C W _ σ δ Y _ _ O U λw z m V Z r r2 s=>?_;obtain⟨f,d,e,rfl,rfl,F,s⟩:=s;obtain⟨b,rfl,Q⟩:=l6 ((r1.kp r O.bt)) F;have h:a≠C.t:=λz=>by obtain⟨_,_⟩:=R.tp.ob;simp_all
 refine⟨_,⟨[],f,b,(r _ _ (S _ _ br h) h),(λp L=>nomatch L),rfl,Q.rd,by decide,rfl⟩,?_⟩;have L:cF [] f b w=[(f,b,w)]:=by rfl
 have G:Kp C.t H (upd m a (.dX [(f,b,w)])):=λc o e P=>(aX (b5 e g))▸r _ _ (S _ _ (by rw[aX (b5 e g)];exact e) P) P;have T3:Tp (upd m a (.dX [(f,b,w)])) C.t C.l C.ns V:=Z.tp.other h.symm (λz=>by have:=R.tp.ls;simp_all) (λe z=>by have:=R.tp.ag e;simp_all);have J:∀c o,m c=ae o->¬(B c\/c=a)->upd m a (.dX [(f,b,w)]) c=ae o/\¬(B c\/c=a):=λc o e M=>⟨(aX λz=>M (.inr z))▸e,M⟩;refine E.nx _ _ _ _ _ (R.own (x:=.odx [(f,d)]) (R.step T3 G) G g (by rw[br];simp) rfl ⟨a,_,rfl,br,.inr rfl,R.h0 g,show 1<=1000 by decide,.cons ⟨rfl,Q.move J,(r2).move J⟩ .nil⟩) s⟩
end
section
variable{X:Cx}{o:Expr}{td:TE}{wd':DT}{pos p:Pos}{K:Af}
theorem RdY.refs(h:RdY H B l m):RdXs H B (l.map λq=>V.ref q.2.1) (m.map λq=>q.1.1):=by
 induction h with
 |nil=>exact .nil
 |@cons p q d c a t b=>exact .cons (show RdX H B _ q.1.1 by rw[<-a.1];exact a.2.1) b
def t4(w:DT):dq:=λδ n Q=>w δ n λx n1=>∃kvs,ig x kvs/\kvs.length<=1000/\Q (kvs.map (·.1.1)) n1
theorem Q4(hh:X.A.handled=af)(hg:Gl X "list")(hm:X.mg "list"=af)(ho:DE X o td wd')(hK:X.K=K:=by rfl)(he:Au [o] X.env=(ai,eval o X.env)::Au [] X.env:=by rfl)(p_:(C6 pos (Au [] X.env)).any (·.1)=ai:=by rfl):
  DF X (.Call (.Name "list" p) [o] [] pos) (fM (yk K) (cU td bP)) (t4 wd'):=by
 subst hK;refine⟨mM (IK hh) hg hm wK (cj ho.pe dG he) ∎ ∎ he p_,λC H B σ δ n Q t R q k=>ho.sd C H B σ δ n _ _ R q λv x s i d f m c=>?_⟩;obtain⟨h,j,g,c⟩:=c;obtain⟨a,l,rfl,r,u,e⟩:=WRel.rdX d.bt j m;exact⟨a,l,rfl,r,e.keys,λL b=>k L _ _ _ i (d.new b) (f.trans (Kp.new b)) (d.was f b) br (by rw[Ad,e.len];exact ft g) (e.refs.fresh b) c⟩
end
end DL
namespace L2
open PySem PySem.Spec PyProof.Rows PySem.W
end L2
namespace DL
open PySem L2 Nb
end DL
namespace L2
open PySem PySem.Spec PyProof.Rows PySem.W
abbrev XQ:=A_×XP
def o3(K:Af)(H:Hp)(qs:List XQ):Prop:=∀q∈qs,H q.1=ae (.tup [.ref q.2.2.1,q.2.2.2])/\RdD K H (.ref q.2.2.1) q.2.1.1
def gS(qs:List XQ):List XP:=qs.foldl (λi' q=>cF i' q.2.1 q.2.2.1 q.2.2.2) []
theorem UN(qs)(q:XQ):gS (qs++[q])=cF (gS qs) q.2.1 q.2.2.1 q.2.2.2:=by
 unfold gS;simp
theorem uJ{qs:List XQ}(hi:i < qs.length):gS (qs.take (i+1))=cF (gS (qs.take i)) qs[i].2.1 qs[i].2.2.1 qs[i].2.2.2:=by
 rw[List.take_succ,Ai hi];exact UN _ _
theorem p0{qs:List XQ}:∀i,i<=qs.length->(gS (qs.take i)).length<=i
 |0,_=>Be _
 |i+1,h=>by
  rw[uJ ⋯];have b:=p0 (qs:=qs) i ⋯;have a:=qZ (gS (qs.take i)) qs[i].2.1 qs[i].2.2.1 qs[i].2.2.2;omega
theorem FU{K:Af}(h:o3 K H qs):∀i,i<=qs.length->f7 K H (gS (qs.take i))
 |0,_=>λp a=>nomatch a
 |i+1,c=>by
  rw[uJ ⋯];exact Iv (R:=λk b=>RdD K H (.ref b) k.1) (FU h i ⋯) (h _ (Da _)).2
def RawX(P:A9)(w:Bj)(h:Heap)(d:A_)(ps:List XP):Prop:=∃xs,KX ps xs/\∃o es ep,h.get? d=ae o/\o.ExactDict/\o.data=.dict es ep/\es.toList=xs.map (entryOfKey (jY P w))/\(xs.map (·.1)).Nodup
theorem RawX.keep(r:RawX P w h d ps)(k:∀o,h.get? d=ae o->h'.get? d=ae o):RawX P w h' d ps:=
 let⟨e,a,o,c,g,f,b⟩:=r
 ⟨e,a,o,c,g,k _ f,b⟩
section
variable{X:Cx}{h_:List (A_×Obj)}{σ:St}{A:Bn}{R:Result->Aj->Prop}{H:Hp}{s:Aj}
theorem RawX.dict(I:Inv X h_ σ H s)(hk:f7 X.K H ps)(r:RawX X.prog X.w s.heap d ps):∃xs,KX ps xs/\s.heap.DictOfH (jY X.prog X.w) d xs:=by
 obtain⟨xs,b,o,n,y,v,h,j,k,i⟩:=r;refine⟨xs,b,o,n,y,v,h,j,k,λx a=>?_,i⟩;have c:∀{l:List XP}{m:List _},KX l m->f7 X.K H l->∀x∈m,(jY X.prog X.w).is s.heap x.1 x.2.1:=by
  intro l m q
  induction q with
  |nil=>intro _ x a;trivial
  |@cons p q ps A g t z=>
   intro f x a;rcases Ao.mp a with e|a
   ·subst e;have:=f p Am;rw[g.1,g.2.1]at this;exact j6 I this
   ·exact z (λp u=>f p (Ak _ u)) x a
 exact c b hk x a
end
end L2
namespace DL
open PySem L2 Nb
def eU(ps:List (TK×Ab)):List (TK×Ab):=ps.foldl (λi' p=>de i' p.1 p.2) []
section
variable{X:Cx}{e:Expr}{te:TE}{we:DT}{pos p:Pos}{K:Af}
theorem BZ:∀{ps:List (TK×Ab)}{vs:List V},(∀p∈ps,∃ds,p.1.1=.tuple ds)->RdXs H B vs (ps.map λp=>.tuple [p.1.1,p.2])->
  ∃qs:List XQ,vs=qs.map (λq=>V.ref q.1)/\o3 K H qs/\qs.length=ps.length/\∀i' acc',RdY H B i' acc'->RdY H B (qs.foldl (λi' q=>cF i' q.2.1 q.2.2.1 q.2.2.2) i') (ps.foldl (λi' p=>de i' p.1 p.2) acc')
 |[],_,_,.nil=>⟨[],rfl,(λq c=>nomatch c),rfl,λ_ _ h=>h⟩
 |p::ps,_,d,.cons h t=>by
  obtain⟨qs,rfl,l,f,i⟩:=BZ (λq c=>d q (Ak _ c)) t;obtain⟨ds,r⟩:=d p Am;cases(show RdX H B _ (.tuple [p.1.1,p.2])from h)with
  |@tup a D _ w z x k=>
   cases k with
   |@cons y A _ _ m j=>
    cases j with
    |@cons g C _ _ u v=>
     cases v;obtain⟨b,rfl,e⟩:=l6 m (⟨rfl,ds,r⟩);refine⟨(a,p.1,b,g)::qs,rfl,λq c=>?_,by rw[Ax,Ax,f],λi' acc' n=>?_⟩
     ·rcases Ao.mp c with rfl|c
      ·exact⟨w,e.rd⟩
      ·exact l q c
     ·exact i _ _ (n.put e u)
end
section
variable{X:Cx}{e:Expr}{es:List Expr}{pos p:Pos}{tR:TA}{wR:d0}
def qc(i:Nat):aE:=λδ n K=>match δ[i]? with
 |some (ae (.odx kvs))=>K.rx kvs n
 |_=>False
theorem Uc(i){xp:Pos}(hN:X.N[i]?=ae x:=by rfl)(hv:ej X.env.scope x:=by first|exact Cc rfl|exact Bo (Cc rfl)|exact Bo (Bo rfl))(hd:(x==("__debug__":Str))=ai:=by decide)
  (q_:(x==("__classdict__":Str))=ai:=by decide):DS X (.Return (ae (.Name x xp)) pos) (jc (bM i)) (qc i):=⟨lQ (eZ hN hv hd q_),λC H B σ δ n K D R q E=>by
 unfold qc at q
 split at q
 ·rename_i c f;obtain⟨v,hv,a,l,rfl,m,h,j,k,g⟩:=R.sl i _ f;exact⟨_,hv,E.rx H B σ δ n a l c R j m k (g.move λb o e d=>⟨e,λz=>z.elim d λq=>d (q▸h)⟩) q⟩
 ·exact q.elim⟩
end
end DL
namespace Nb
open PySem L2 DL
end Nb
namespace L2
open PySem PySem.Spec PyProof.Rows PySem.W
end L2
namespace DL
open PySem L2 Nb
end DL
namespace Nb
open PySem L2 DL
end Nb
namespace DL
open PySem L2 Nb
abbrev jR:=List Wv->Int->(Option (List (TK×Ab))->Int->Prop)->Prop
def nU(S:jR):Sp:=λvs H Q _=>∃(t:A_)(l:TL)(ns:List Int)(B:A_->Prop)(ws:List Wv)(n:Int)(Q0:Option (List (TK×Ab))->Int->Prop),Tp H t l ns n/\B t/\(∀b,B b->H b≠af)/\ARel H B t vs ws/\S ws n Q0 /\
 (∀n',Q0 af n'->∀H',Tp H' t l ns n'->Kp t H H'->Q .non H') /\
 ∀kvs n',Q0 (ae kvs) n'->∀a l' H',Tp H' t l ns n'->Kp t H H'->H a=af->H' a=ae (.dX l')->l'.length<=1000->RdY H' (λb=>B b\/b=a) l' kvs->Q (.ref a) H'
structure HasXO(P:A9)(w:Bj)(K:Af)(mg:Str->Option Ag)(base:Heap)(k:Nat)(x:Str)(ps:List Str)(S:jR):Prop where
 ex:∃(f:A_)(fd:Ck),FnOk P w K mg base cV k f fd ps (nU S)/\Binds K fd ps []/\mg x=ae (.ref f)/\C1 K (.ref f)=ah
theorem HasXO.mk'(F:Fun K x qual st f fd)(m:mg x=ae (.ref f))(b:Binds K fd ps [])(h:FnOk P w K mg base cV k f fd ps (nU S)):HasXO P w K mg base k x ps S:=⟨f,fd,h,b,m,F.kp⟩
def tq:Option (List (TK×Ab))->SV
 |none=>.w (.d .none)
 |some kvs=>.odx kvs
section
variable{X:Cx}{e:Expr}{es:List Expr}{pos p:Pos}{tR:TA}{wR:d0}{te:TE}{we:DT}
def nE(i:Nat)(S:jR)(w:d0):aE:=λδ n K=>w δ n λxs n1=>S xs n1 λr n2=>K.nx (δ.set i (ae (tq r))) n2
theorem MC(h:HasXO X.prog X.w X.K X.mg X.base k f ps S)(hr:Room k X.A)(hg:Gl X f)(hN:X.N.Nodup)(hi:X.N[i]?=ae x)(hx:gB X.env.scope x)(ha:DA X (e::es) tR wR)
  (hs:Cp (.Call (.Name f p) (e::es) [] cp) (ae (.Name x pos')) pos.line X.env=pure ai:=by rfl) (hf:X.fn x=ah\/X.env.scope.names.lookup x=ae .local:=by first|exact .inl rfl|exact .inr rfl|assumption)
  (hdb:(f==("__debug__":Str))=ai:=by decide) (he:Au (e::es) X.env=(ai,eval e X.env)::Au es X.env:=by rfl) (p_:(C6 cp (Au es X.env)).any (·.1)=ai:=by rfl):
  DS X (.Assign [.Name x pos'] (.Call (.Name f p) (e::es) [] cp) pos) (bX (hU (nU S) [] E0 tR) (fc i)) (nE i S wR):=by
 obtain⟨g,U,J,y,z,F⟩:=h.ex;refine⟨gx hN hi hx (pX J hr hg z F y .nil pV ha.pa hdb he p_) hs hf,λC H B σ δ n K D R q E=>ha.sd C H B σ δ n _ _ R q λvs O T L b u P I=>⟨C.t,C.l,_,B,O,L,_,b.tp,b.bt,b.ba,by rw[Bk];exact P,I,λn' m M r j=>?_,λkvs Q m a G M r j v c o s=>?_⟩⟩
 ·exact E.nx _ _ _ _ _ ((b.step r j).set (x:=.d .none) .non rfl) m
 ·refine E.nx _ _ _ _ _ (R.own (b.step r j) (u.trans j) (b.was u v) (by rw[c];simp) rfl ?_) m;exact⟨a,G,rfl,c,.inr rfl,R.h0 (b.was u v),o,s⟩
end
section
variable{P:A9}{w:Bj}{K:Af}{mg:Str->Option Ag}{base:Heap}
theorem Fun.okXO(F:Fun K x qual st f fd)(Sc:FnScope N ps (cE st))(len:∀ws n Q,S ws n Q->ws.length=ps.length)
  (hbody:∀(m_:Ag)(A:Bn)(outer:List Env)(s:Aj)(H:Hp)(E:XK),Room k (A.deeper (Dr qual (cE st) s.heap.objs.size f m_))->
   ∃T W,DSs (cS cV P w K mg base N qual (cE st) f m_ A outer s H E).nox (fC st) T W/\∀ws n Q,S ws n Q->W (dj N ws) n {nx:=λ_ _=>False,rt:=λw n=>w=.d .none/\Q af n,rx:=λkvs n=>Q (ae kvs) n}):FnOk P w K mg base cV (k+1) f fd ps (nU S):=by
 refine F.ok Sc (λvs H Q E h=>?_) (λm_ A outer s H vs Q E V h=>?_)
 ·obtain⟨t,l,G,B,ws,n,i,_,_,_,r,q,_⟩:=h;rw[r.len];exact len ws n i q
 ·obtain⟨t,l,G,B,ws,n,i,T,u,M,r,q,Z,U⟩:=h;obtain⟨O,W,d,R⟩:=hbody m_ A outer s H E V;refine⟨O,d.ps,d.sd _ H B _ _ n _ _ (sI T u M r) (R ws n i q) ⟨?_,?_,?_,?_,?_,?_⟩⟩
  ·exact λ_ _ _ _ _ _ z=>z.elim
  ·intro H' Y σ δ j v w' c L z;obtain⟨rfl,g⟩:=z;have X:v=.non:=by cases(L);rfl
   subst X;exact Z j g H' c.tp c.kp
  ·exact λ_ _ _ _ _ _ z=>z.elim
  ·exact λ_ _ _ _ _ _ z=>z.elim
  ·exact λ_ _ _ _ _ _ _ _ _ _ _ _ _ z=>z.elim
  ·exact λH' Y σ δ j a C kvs c I J p y g=>U _ _ g a C H' c.tp c.kp I J p (y.move λb o e D=>⟨e,λz=>D (z.elim (λz=>.inl (c.b0 b z)) .inr)⟩)
end
def kJ(neg:Bool):Wv->Wv->Int->DQ->Prop:=λx y n Q=>(∃kvs,x=.dx kvs/\y=.d .none/\Q (.d (.bool neg)) n)\/jO neg x y n Q
theorem US:bq (λx y H Q=>y=.non/\Q (.bl (decide (x=.non))) H) (kJ ai):=λC H B σ δ n x y p q Q f R c d b k=>by
 rcases b with⟨e,rfl,rfl,b⟩|b
 ·obtain⟨a,l,rfl,_⟩:=c;cases(d);exact⟨rfl,k _ _ H n R (Kp.refl _ _) (by exact .bl ai) b⟩
 ·exact VR C H B σ δ n x y p q Q f R c d b k
end DL
namespace Nb
open PySem L2 DL
theorem vT(h:c8 ds i=ae d)(q:Q (.d d) n):a9 (.ln ds) (.d (.int i)) n Q:=by
 show(match c8 ds i with|some d=>Q _ n|none=>False);simp_all
theorem HE(h:fH a b=ae r)(q:Q (.d (.bool r)) n):a8 (.d a) (.d b) n Q:=by
 show(match fH a b with|some r=>Q _ n|none=>False);simp_all
abbrev gz(E:List (TK×Nat)):List (TK×Ab):=E.map λe=>(e.1,.int (e.2:Nat))
abbrev lq(E:List (TK×Nat)):List Ab:=E.map λe=>e.1.1
def e8(aft:TK->Nat->Option TK)(N:Nat)(s:TK):List Nat:=(Bc (N+1)).filter λi=>(aft s i).isSome
structure GoL(Sm Sl:bb)(pd:Ab)(N:Nat)(aft:TK->Nat->Option TK)(Gk:Nat->TK->Prop):Prop where
 mv:∀(c:Nat)(s:TK)(n:Int)(R:DQ),Gk (c+1) s->R (.d (.list ((e8 aft N s).map λi=>.int (i:Nat)))) n->Sm [.d pd,.d s.1] n R
 go:∀(c:Nat)(s:TK)(i:Nat)(b:TK)(n:Int)(R:DQ),Gk (c+1) s->aft s i=ae b->R (.d b.1) n->Sl [.d pd,.d s.1,.d (.int (i:Nat))] n R
 tup:∀(c:Nat)(k:TK),Gk c k->∃ds,k.1=.tuple ds
 good:∀(c:Nat)(s:TK)(i:Nat)(b:TK),Gk (c+1) s->i<=N->aft s i=ae b->Gk c b
theorem sW{Gk:Nat->TK->Prop}(A:∀(c:Nat) (s:TK) (i:Nat) (b:TK),Gk (c+1) s->i<=N->aft s i=ae b->Gk c b)(h0:Gk (M+1) s0):∀j,(El aft N s0 j).length<=M->∀e∈El aft N s0 j,e.2 < (El aft N s0 j).length/\Gk (M+1-e.2) e.1
 |0=>λ_ e a=>by obtain rfl:=(by simpa[El]using a);exact⟨Nat.zero_lt_one,h0⟩
 |j+1=>by
  have p:=sW A h0 j;show(match _[j]? with|some s=>dM aft N _ s|none=>El aft N s0 j).length<=M->∀e∈(match (El aft N s0 j)[j]? with|some s=>dM aft N (El aft N s0 j) s|none=>El aft N s0 j),e.2 < (match (El aft N s0 j)[j]? with|some s=>dM aft N (El aft N s0 j) s|none=>El aft N s0 j).length/\_;cases t:(El aft N s0 j)[j]? with
  |none=>exact p
  |some s=>
   have m:∀(d:List Nat) E,(∀i∈d,i<=N)->s∈E->(d.foldl (dS aft s) E).length<=M->(∀e∈E,e.2 < E.length/\Gk (M+1-e.2) e.1)->∀e∈d.foldl (dS aft s) E,e.2 < (d.foldl (dS aft s) E).length/\Gk (M+1-e.2) e.1:=by
    intro d
    induction d with
    |nil=>exact λE _ _ _ h=>h
    |cons i d n=>
     intro E k q hl h;have u:E <+: dS aft s E i:=nZ s E i;refine n _ (λx v=>k x (Ak _ v)) (u.subset q) hl ?_;have g:=A5 (ot _ (nZ s) d _).length_le hl;unfold dS at g ⊢;cases r:aft s.1 i with
     |none=>exact h
     |some b=>
      rw[r]at g;dsimp only at g ⊢
      split
      ·exact h
      ·rename_i z;rw[a_ z,An,Az]at g;rw[An,Az];intro e a;rcases A1.mp a with a|a
       ·exact⟨by have:=(h e a).1;omega,(h e a).2⟩
       ·obtain rfl:=by simpa using a
        obtain⟨w,o⟩:=h s q;refine⟨by omega,?_⟩;rw[show M+1-s.2=(M+1-(s.2+1))+1 by omega]at o;exact A _ s.1 i b o (by simp_all) r
   exact λhl=>m _ _ (λi k=>Nat.le_of_lt_succ (B9.mp k)) (A0 t) hl (p (A5 (Rw _ s).length_le hl))
def l8(Sm Sl:bb):jR:=λws n Q=>∃(pd:Ab)(s0:TK)(M:Nat)(N:Nat)(aft:TK->Nat->Option TK)(Gk:Nat->TK->Prop),ws=[.d pd,.d s0.1,.d (.int (M:Nat))]/\GoL Sm Sl pd N aft Gk/\Gk (M+1) s0/\1<=M/\M<=900/\Q af n /\
 ∀J,(El aft N s0 J).length<=J->(El aft N s0 J).length<=M->Q (ae (gz (El aft N s0 J))) n
theorem Km(E:List (TK×Nat)):(gz E).map (·.1)=E.map (·.1):=by rw[B7];rfl
theorem uA:∀(is:List Nat)(E:List (TK×Nat)),(is.filter λi=>(aft s.1 i).isSome).foldl (dS aft s) E=is.foldl (dS aft s) E
 |[],_=>rfl
 |i::is,E=>by
  rw[Fx];cases e:aft s.1 i with
  |none=>
   rw[a_ (by simp),Fh,uA is]
   congr 1
   unfold dS;rw[e]
  |some b=>rw[a' (by simp),Fh,Fh,uA is]
theorem Me(nd:(E.map (·.1)).Nodup)(h:s∈E):b6 (gz E) s.1=ae (.int (s.2:Nat)):=by
 induction E with
 |nil=>exact nomatch h
 |cons e E a=>
  rw[Ba,D3]at nd;rcases Ao.mp h with rfl|h
  ·simp[b6]
  ·have b:¬e.1=s.1:=λz=>nd.1 (z▸A6.mpr ⟨s,h,rfl⟩);have:=a nd.2 h;unfold b6 at this ⊢;rw[gz,Ba,List.find?_cons];simp only[b,decide_false];omega
theorem Jd(nd:(E.map (·.1)).Nodup):((dS aft s E i).map (·.1)).Nodup:=by
 unfold dS
 split
 ·exact nd
 ·split
  ·exact nd
  ·rename_i z;rw[Bf,List.nodup_append];refine⟨nd,by simp,λa d b c=>?_⟩;obtain rfl:=by simpa using c
   exact λe=>z (e▸d)
abbrev xo(Sm Sl:bb):aE:=ar (az 7 (aB Sl (ao ↥0 (ao (w2 (bY 4) ↥5 a9) (ao ↥6 ak))))) (aH (cT (w2 ↥7 (dB 3) (dR ah))) (ar (aH (cT (w2 (wB dD (ao (bY 4) ak)) ↥2 a8)) (av (wC .none)) aF) (ar (mF 3 ↥7 (w2 (w2 (dB 3) (w2 (bY 4) ↥5 a9) qa) ⇑1 (bN λi j=>.int (i+j)))) (bh 4 ↥7))) aF)
abbrev kE(pd:Ab)(s0:TK)(M j:Nat)(E:List (TK×Nat))(o6 o7:Option SV):Sl:=[↑pd,↑s0.1,↑(.int (M:Nat)),ae (.odx (gz E)),ae (.own (lq E)),↑(.int (j:Nat)),o6,o7]
theorem L7{Sm Sl:bb}{Gk:Nat->TK->Prop}(A:GoL Sm Sl pd N aft Gk)(hs:E[j]?=ae s)(gs:Gk (c+1) s.1)(nd:(E.map (·.1)).Nodup)(hi:i<=N)(e:aft s.1 i=ae b)(hM:E.length<=M)(hM2:M<=900)
  (k0:K.rt (.d .none) n) (k1:∀o,(dS aft s E i).length<=M->K.nx (kE pd s0 M j (dS aft s E i) (↑(.int (i:Nat))) o) n):xo Sm Sl (kE pd s0 M j E (↑(.int (i:Nat))) o7) n K:=by
 have G:c8 _ _=ae s.1.1:=eW (by rw[Ap,hs];rfl);have O:=A.good _ s.1 i b gs hi e;show a9 (.ln _) (.d (.int _)) n (λx Y=>Sl [.d pd,x,.d _] Y _);refine vT G (A.go _ s.1 i b n _ gs e ?_);refine⟨_,b.1,b,.inl rfl,rfl,⟨rfl,A.tup _ b O⟩,?_⟩;have P:(b6 (gz E) b).isSome=decide (b∈E.map (·.1)):=by
  have:=rj (gz E) b;rw[Km]at this;by_cases z:b∈E.map (·.1)
  ·rw[b_ z];simp_all
  ·rw[c_ z];cases q:(b6 _ b).isSome with
   |false=>rfl
   |true=>exact f_ (this.mp q) z
 rw[P];by_cases z:b∈E.map (·.1)
 ·rw[b_ z];have J:dS aft s E i=E:=by unfold dS;rw[e];dsimp only;rw[a' z]
  rw[J]at k1;exact k1 _ hM
 ·rw[c_ z];have J:dS aft s E i=E++[(b,s.2+1)]:=by unfold dS;rw[e];dsimp only;rw[a_ z]
  rw[J]at k1;have F:ar (aH (cT (w2 (wB dD (ao (bY 4) ak)) ↥2 a8)) (av (wC .none)) aF) (ar (mF 3 ↥7 (w2 (w2 (dB 3) (w2 (bY 4) ↥5 a9) qa) ⇑1 (bN λi j=>.int (i+j)))) (bh 4 ↥7)) (kE pd s0 M j E (↑(.int i)) (↑b.1)) n K:=by
   by_cases U:E.length=M
   ·have:fH (.int ((lq E).length:Int)) (.int M)=ae ah:=by
     rw[Ad,U];simp[fH]
    dsimp only[ar,aH,cT,w2,wB,ao,ak,bY,aj,dD,B5];exact HE this k0
   ·have:fH (.int ((lq E).length:Int)) (.int M)=ae ai:=by
     simp[fH];omega
    dsimp only[ar,aH,cT,w2,wB,ao,ak,bY,aj,dD,B5];refine HE this ?_;dsimp only;rw[a_ A7];dsimp only[aF,mF,w2,dB,bY,aj,B5];refine vT G ⟨_,_,s.1,_,.inl rfl,rfl,⟨rfl,A.tup _ s.1 gs⟩,Me nd (A0 hs),?_⟩;refine⟨_,rfl,b,_,b.1,rfl,rfl,⟨rfl,A.tup _ b O⟩,by rw[Ad];omega,?_⟩;have W:de (gz E) b (.int ((s.2:Nat)+1:Int))=gz (E++[(b,s.2+1)]):=by
     unfold de;rw[a_ (by rw[P,c_ z];decide),gz,gz,Bf];rfl
    refine⟨by rw[Ad];omega,?_⟩;have:=k1 (↑b.1) (by rw[An,Az];omega);rw[kE,lq,Bf]at this;rw[W];exact this
  exact F
theorem xU{Sm Sl:bb}{Gk:Nat->TK->Prop}(A:GoL Sm Sl pd N aft Gk)(gs:Gk (c+1) s.1)(hM2:M<=900)(k0:K.rt (.d .none) n):
  ∀(is:List Nat)(E:List (TK×Nat))(o6 o7:Option SV),(∀i∈is,i<=N/\(aft s.1 i).isSome=ah)->E[j]?=ae s->(E.map (·.1)).Nodup->E.length<=M->
   (∀o6 o7,(is.foldl (dS aft s) E).length<=M->((is.foldl (dS aft s) E).map (·.1)).Nodup->K.nx (kE pd s0 M j (is.foldl (dS aft s) E) o6 o7) n)->ec (aG 6) (xo Sm Sl) K (is.map λi=>.int (i:Nat)) (kE pd s0 M j E o6 o7) n
 |[],E,o6,o7,_,_,a,f,g=>g o6 o7 f a
 |i::is,E,o6,o7,h,k,a,f,g=>by
  obtain⟨p,l⟩:=h i Am;obtain⟨b,e⟩:=C2.mp l;exact L7 A k gs a p e f hM2 k0 λo m=>xU A gs hM2 k0 is _ _ o (λx q=>h x (Ak _ q)) (by rw[Mu (nZ s E i) (Aw.mp k).1];omega) (Jd a) m g
abbrev Zc:List Str:=["_law_programs","_law_stand_here","_law_most","_law_found","_law_line","_law_at","_law_mover","_law_behind"]
theorem Jo(Sm Sl)(ws)(n)(Q)(h:l8 Sm Sl ws n Q):
  (ar (sU 3 ↥1 ⇑0) (ar (bu 4 (aN (ao ↥1 ak))) (ar (az 5 ⇑0) (ar (uc (cT (w2 ↥5 (wB dD (ao (bY 4) ak)) fm)) (ar (aZ (eu (aB Sm (ao ↥0 (ao (w2 (bY 4) ↥5 a9) ak)))) (aG 6) (xo Sm Sl)) (az 5 (w2 ↥5 ⇑1 (bN λi j=>.int (i+j)))))) (qc 3)))))
   (dj Zc ws) n {nx:=λ_ _=>False,rt:=λw n=>w=.d .none/\Q af n,rx:=λkvs n=>Q (ae kvs) n}:=by
 obtain⟨H,b,M,N,a,J,rfl,A,B,l,u,F,I⟩:=h;refine⟨b,_,_,rfl,rfl,⟨rfl,A.tup _ b B⟩,⟨show 1<=1000 by decide,?_⟩⟩;refine⟨λk δ o=>∃j o6 g,k=M+1-j/\o=n/\j<=(El a N b j).length/\(El a N b j).length<=M/\((El a N b j).map (·.1)).Nodup/\δ=kE H b M j (El a N b j) o6 g,⟨M+1,0,_,_,rfl,rfl,Be _,l,by simp[El],rfl⟩,?_⟩
 rintro k δ o ⟨j,o6,g,rfl,rfl,O,q,K,rfl⟩
 by_cases z:j < (El a N b j).length
 ·have p:=Ai z;have r:c8 (lq _) _=ae (El a N b j)[j].1.1:=eW (by rw[Ap,p];rfl);have C:J ((M-(El a N b j)[j].2)+1) (El a N b j)[j].1:=by
   obtain⟨y,v⟩:=sW A.good B j q _ (Da z);rw[show M-(El a N b j)[j].2+1=M+1-(El a N b j)[j].2 by omega];omega
  have m:decide (j < ((lq (El a N b j)).length:Int))=ah:=b_ (by rw[Ad];omega);have D:El a N b (j+1)=(e8 a N (El a N b j)[j].1).foldl (dS a (El a N b j)[j]) (El a N b j):=by
   show(match _[j]? with|some s=>dM a N _ s|none=>El a N b j)=_;rw[p];unfold e8;rw[uA];rfl
  show(if decide _=ah then _ else _);rw[m,a' rfl];dsimp only[ar,aZ,eu,aB,ao,w2,bY,aj,B5];refine vT r (A.mv _ _ o _ C (xU A C u ?_ _ _ _ _ (λi G=>?_) p K q λo6 g x e=>?_))
  ·exact⟨rfl,F⟩
  ·obtain⟨y,v⟩:=D4.mp G;exact⟨Nat.le_of_lt_succ (B9.mp y),v⟩
  ·rw[<-D]at x e ⊢;have L:(El a N b j).length<=(El a N b (j+1)).length:=by rw[D];exact(ot _ (nZ _) _ _).length_le
   exact⟨_,by omega,j+1,o6,g,rfl,rfl,by omega,x,e,rfl⟩
 ·have m:decide (j < ((lq (El a N b j)).length:Int))=ai:=c_ (by rw[Ad];omega);show(if decide _=ah then _ else _);rw[m];exact I j (by simp_all) q
end Nb
namespace DL
open PySem L2 Nb
def HG(T:TS):TS:=λD σ H=>T D σ H\/lV T D σ H
theorem Je(h:PSs X b T):PSs X b (HG T):=λh_ s σ H D I q=>q.elim (h h_ s σ H D I) (xJ h h_ s σ H D I)
def sO(i:Nat)(W:aE):aE:=λδ n K=>match δ[i]? with
 |some (ae (.odx m))=>W (δ.set i (ae (.w (.ob (.y m))))) n K
 |some (ae (.w _))=>W δ n K
 |_=>False
theorem V0(i)(h:DSs X l T W):DSs X l (HG T) (sO i W):=⟨Je h.ps,λC H B σ δ n K D R q E=>by
 unfold sO at q
 split at q
 ·rename_i m e;obtain⟨a,l,f,c,j,g,d,b⟩:=R.fzX e;exact .inr ⟨a,l,c,λo=>h.sd C _ _ σ _ n K D (b o) q E⟩
 ·exact .inl (h.sd C H B σ δ n K D R q E)
 ·exact q.elim⟩
end DL
namespace L2
open PySem
section
variable{X:Cx}{pos:Pos}
def kY(K:Af)(n:Nat)(t:fW):TG:=λv σ H Q=>∃a xs,v=.ref a/\SqL K H a xs/\xs.length=n/\t xs σ H Q
theorem NU{k:Nat}(hc:X.calm=ah)(h:mr X es t)
  (hn:(Cj es X.env).length=n:=by rfl) (hst:(Cj es X.env).findIdx? (·.1)=af:=by rfl):PG X (.Tuple es k pos) (kY X.K n t):=by
 intro c s σ H v u Q I r d;obtain⟨a,w,z,p,j,d⟩:=d;subst z;cases r;obtain⟨g,l,m,A⟩:=I.list p;refine Aa (G1 ?_);unfold unpack;have f:(Cj es X.env).length=g.toArray.size:=by simp[hn,<-j,l.length]
 rw[f,hst];refine Aa (Bt (PySem.W.kun_itemsOf (I.ok.hd hc) m.isList λh' x=>?_));have q:Inv X c σ H {s with heap:=h'}:=I.kept λb o e=>x b o (Bb (Aq e)) e;exact h c _ σ H w _ Q q ⋯ d
end
end L2
namespace DL
open PySem L2
def qo(n:Nat)(r:dt):dE:=λd δ Q=>match d with
 |.list ds=>ds.length=n/\r ds δ Q
 |_=>False
section
variable{X:Cx}{pos:Pos}{K:Af}
theorem LD{k:Nat}{n:Nat}(h:DGs X es t r)(hc:X.calm=ah:=by rfl)
  (hn:(Cj es X.env).length=n:=by rfl) (hst:(Cj es X.env).findIdx? (·.1)=af:=by rfl):DG X (.Tuple es k pos) (kY X.K n t) (qo n r):=⟨NU hc h.pg hn hst,λC H B σ δ f x d Q m R e q k=>by
 unfold qo at q
 split at q
 ·rename_i j;cases e with
  |@lst b g _ i o l a=>exact⟨b,g,rfl,SqL.of i,a.len▸q.1,h.sd C H B σ δ f _ _ _ _ R a q.2 k⟩
 ·exact q.elim⟩
theorem KC{k:Nat}{n:Nat}(h:DGs X es t r)(hc:X.calm=ah:=by rfl)(hK:X.K=K:=by rfl)
  (hn:(Cj es X.env).length=n:=by rfl) (hst:(Cj es X.env).findIdx? (·.1)=af:=by rfl):DG X (.Tuple es k pos) (kY K n t) (qo n r):=by subst hK;exact LD h hc hn hst
end
end DL
namespace L2
open PySem PySem.Spec PyProof.Rows PySem.W
section
variable{X:Cx}{h_:List (A_×Obj)}{σ:St}{A:Bn}{R:Result->Aj->Prop}{H:Hp}{s:Aj}
theorem Kc(hA:A.handled=af)(hu:A.units+64 < Co){src d it:A_}(qs:List XQ)(I0:Inv X h_ σ H s)(h0:s.heap.objs.size<=it)(h1:s.heap.objs.size<=d)(hne:it≠d)(hs:H src=ae (.lst (qs.map λp=>.ref p.1)))(hp:o3 X.K H qs)(hl:qs.length<=1000)
  (hR:∀h' tk',(∀b o,s.heap.get? b=ae o->h'.get? b=ae o)->RawX X.prog X.w h' d (gS qs)->R (.ok (.ret .none)) {s with heap:=h',toks:=tk'}):
  ∀(n i:Nat)(h:Heap)(tk:Nat),n+i=qs.length->(∀b o,s.heap.get? b=ae o->h.get? b=ae o)->RawX X.prog X.w h d (gS (qs.take i))->h.IsListIter it src i->
  Gy (A8 X.prog X.w) A (.builtin "dict.update.loop" ⟨[.ref d,.ref it,Dh i,.none],[]⟩) R {s with heap:=h,toks:=tk}:=by
 intro n
 induction n with
 |zero=>
  intro i h tk P c j C;have I:Inv X h_ σ H {s with heap:=h,toks:=tk}:=I0.kept c;obtain⟨y,v,p,_⟩:=I.list (SqL.of hs);refine Dm rH ?_;have hl:=v.length;rw[Ad]at hl;refine Aa (wpAny_pyNext_list_end hA C (p.isList) (by simp;omega) λh' D=>Aa (Ah (Ah (hR h' tk (λb o e=>D b o (Bb (Bd (Aq e) h0)) (c b o e)) ?_))));rw[List.take_of_length_le ⋯]at j;exact j.keep λo e=>D d o hne.symm e
 |succ n Q=>
  intro i h tk P c j C;have I:Inv X h_ σ H {s with heap:=h,toks:=tk}:=I0.kept c;obtain⟨y,v,p,_⟩:=I.list (SqL.of hs);have q:i < qs.length:=by omega
  obtain⟨u,k,Z⟩:=v.get (show(qs.map λp=>V.ref p.1)[i]?=ae (V.ref (qs[i]).1) by simp[q]);cases(Z);obtain⟨N,z⟩:=hp _ (Da q);refine Dm rH (Aa (wpAny_pyNext_list_item C (p.isList) (by simpa using k) λg l G=>?_));have F:=λb o e=>(G.2 b (Bb (Bd (Aq e) h0))).trans (c b o e);have x:Inv X h_ σ H {s with heap:=g,toks:=tk}:=I0.kept F;obtain⟨E,t,J,_⟩:=x.tuple (SqT.of N);obtain⟨u1,u2,rfl,U,W⟩:=sZ t;cases(U);refine Aa (Bt (Aa (wpAny_tryCatch (ze J ?_))));obtain⟨S,f,L⟩:=RawX.dict x (FU hp i ⋯) (j.keep λo e=>(G.2 d hne.symm).trans e);have m:S.length<=1000:=by
   have:=p0 (qs:=qs) i ⋯;have:=D9 f;omega
  refine Bt (wpAny_dictSet_heap (hsz:=ft m) (show A.in1.units+16 < Co by simp;omega) (j6 x z) L λh2 B a=>Ah ⟨E2 qN _,?_⟩);refine Q (i+1) h2 _ ⋯ (λb o e=>(a.2 b (Bb (Bd (Aq e) h1))).trans (F b o e)) ?_ (by
   obtain⟨o,e,r⟩:=l;exact⟨o,(a.2 it hne).trans e,r⟩)
  rw[uJ q];obtain⟨o,M,O,g1,g2,Y,T,_,g5⟩:=B;exact⟨_,f.put _ W,o,M,O,g1,g2,Y,T,g5⟩
theorem Mb(hh:X.A.handled=af)(hu:X.A.units+80 < Co):CallR X (.type "dict") (λxs H Q=>∃(src:A_)(qs:List XQ),xs=[.ref src]/\H src=ae (.lst (qs.map λp=>V.ref p.1))/\o3 X.K H qs/\qs.length<=1000 /\
  ∀l,H l=af->Q (.ref l) (L2.upd H l (.dX (gS qs)))):=by
 intro m s σ H xs us Q I r h;obtain⟨src,qs,rfl,C,N,f,q⟩:=h;obtain⟨u,rfl,R⟩:=f6 r;cases(R);refine callType_codes (Q₁:=λobj D=>obj=.ref s.heap.objs.size/\D={ s with heap:=s.heap.push {cls:=.type "dict",data:=.dict #[]}}) F.kt_called_dict (F.kt_typeCall_dict_1 _) F.entry_dict_init (kt_code_dict_new _ ⟨rfl,rfl⟩) ?_
 rintro obj D ⟨rfl,rfl⟩
 have P:Inv X m σ H {s with heap:=s.heap.push {cls:=.type "dict",data:=.dict #[]}}:=I.kept λb o e=>Ae _ e;have i:(s.heap.objs.size==Dj)=ai:=by
  have:=I.big;simp;exact Ec this
 obtain⟨Z,z,n,rv,G,x⟩:=P.lstM C;have d:(s.heap.push {cls:=.type "dict",data:=.dict #[]}).DictOfH (tupleKind (fD X.prog X.w)) s.heap.objs.size []:=Heap.DictOfH.new s.heap;refine⟨d.typeIs,F.args_dict_init_2 _ _,Aa ?_⟩;refine Aa (wpAny_notOrdered_dict d.typeIs (Ah ?_));show A2 _ _ _ _ _ _;refine Aa (D1 ⟨_,x,rfl⟩ (Aa (MO x rfl rfl rfl Rh (by rfl) hh (λh' tk e t=>?_))));have W:Heap.IsList h' src z.toArray:=⟨_,t.keeps _ _ x,rfl,_,rfl⟩;refine Aa (Fk (Aa (wpAny_pyIter_list W ?_)));refine Ah ⟨E2 qN _,?_⟩;have B:(s.heap.push _).get? s.heap.objs.size=ae {cls:=.type "dict",data:=.dict #[]}:=Ar _ rfl;have k:=Aq (t.keeps _ _ B);have E:∀b u,s.heap.get? b=ae u->(h'.push {cls:=.type "list_iterator",data:=.fields #[.ref src,.int 0 0]}).get? b=ae u:=λb u e=>Ae _ (t.keeps _ _ (Ae _ e));refine Kc (A:=X.A.in1) hh (by simp;omega) qs I (F1 k) (Bh _) (Ec k) C N f (λg Y L J=>?_) qs.length 0 _ _ ⋯ E ?_ ⟨_,Ar _ rfl,rfl,rfl⟩
 ·obtain⟨T,v,M⟩:=J;have O:=p0 qs.length (Bh _);rw[Gv]at O;exact⟨rfl,.ref s.heap.objs.size,_,I.laid (o:=.dX _) L (Bh _) ⟨ft ⋯,i,T,v,M⟩,rfl,q _ I.fresh⟩
 ·exact⟨[],.nil,_,#[],0,Ae _ (t.keeps _ _ B),⟨rfl,rfl,rfl⟩,rfl,rfl,by simp⟩
end
end L2
namespace DL
open PySem L2 Nb
section
variable{X:Cx}{e:Expr}{te:TE}{we:DT}{pos p cp:Pos}
def GK(i:Nat)(we:DT):aE:=λδ n K=>we δ n λx n1=>∃ps:List (TK×Ab),x=.d (.list (ps.map λp=>.tuple [p.1.1,p.2]))/\(∀p∈ps,∃ds,p.1.1=.tuple ds)/\ps.length<=1000/\K.nx (δ.set i (ae (.odx (eU ps)))) n1
theorem K8(qs:List XQ):(gS qs).length<=qs.length:=by
 have:=p0 qs.length (Bh _);rwa [Gv]at this
theorem Ph(hh:X.A.handled=af)(hu:X.A.units+80 < Co)(hg:Gl X "dict")(hm:X.mg "dict"=af)(hN:X.N.Nodup)(hi:X.N[i]?=ae x)(hx:gB X.env.scope x)(he:DE X e te we)(hs:Cp (.Call (.Name "dict" p) [e] [] cp) (ae (.Name x pos')) pos.line X.env=pure ai:=by rfl)(hf:X.fn x=ah\/X.env.scope.names.lookup x=ae .local:=by first|exact .inl rfl|exact .inr rfl|assumption)
  (hv:Br "dict"=ae (.type "dict"):=by decide +kernel) (he':Au [e] X.env=(ai,eval e X.env)::Au [] X.env:=by rfl) (p_:(C6 cp (Au [] X.env)).any (·.1)=ai:=by rfl):
  DS X (.Assign [.Name x pos'] (.Call (.Name "dict" p) [e] [] cp) pos) (bX (fM (λxs H Q=>∃(src:A_)(qs:List XQ),xs=[.ref src]/\H src=ae (.lst (qs.map λp=>V.ref p.1))/\o3 X.K H qs/\qs.length<=1000/\∀l,H l=af->Q (.ref l) (L2.upd H l (.dX (gS qs)))) (cU te bP)) (fc i)) (GK i we):=by
 refine⟨gx hN hi hx (mM (Mb hh hu) hg hm hv (cj he.pe dG he') ∎ ∎ he' p_) hs hf,λC H B σ δ n K D R q E=>he.sd C H B σ δ n _ _ R q λv x u O g j y d=>?_⟩;obtain⟨M,rfl,r,L,d⟩:=d;cases(show RdX u B v (.list _)from y)with
 |@lst a S _ I T P F=>
  obtain⟨qs,rfl,k,m,w⟩:=BZ r F;refine⟨a,qs,rfl,I,k,by omega,λl c=>?_⟩;have f:l≠C.t:=λz=>by obtain⟨_,_⟩:=g.tp.ob;simp_all
  have h:H l=af:=by
   cases J:H l with
   |none=>rfl
   |some o=>rw[j _ _ J f]at c;omega
  refine E.nx _ _ _ _ _ (R.own (x:=.odx _) (g.new c) (j.trans (Kp.new c)) h (by rw[br];simp) rfl ⟨l,_,rfl,br,.inr rfl,R.h0 h,?_,?_⟩) d
  ·have:=K8 qs;omega
  ·exact(w [] [] .nil).move λb o e s=>⟨by rw[aX (b5 e c)];exact e,λz=>z.elim s λz=>by simp_all⟩
end
section
variable{X:Cx}{o i:Expr}{td ty:TE}{wd' wy:DT}{pos:Pos}{K:Af}
theorem RB(hu:X.A.units+64 < Co)(hi:DE X i ty wy)(ho:DE X o td wd')(hK:X.K=K:=by rfl)(hm:Ce .In o=ai:=by with_unfolding_all rfl):DE X (.Compare i [.In] [o] pos) (kA K ty td) (w2 wy wd' (dR ai)):=by
 subst hK;exact⟨va (JF hu hi.pe ho.pe) hm,Of hi ho⟩
end
end DL
namespace L2
open PySem PySem.Spec PyProof.Rows PySem.W
section
variable{X:Cx}{o lo hi:Expr}{to tl th:TE}{pos p2:Pos}
def AY(to tl th:TE):TG:=λv σ H Q=>to σ H λx H1=>tl σ H1 λl H2=>∃a,l=.int a/\th σ H2 λu H3=>∃c,u=.int c/\∃p xs b ys,x=.ref p/\v=.ref b/\H3 p=ae (.lst xs)/\H3 b=ae (.lst ys)/\p≠b/\0<=a/\a<=c/\c<=xs.length/\xs.length+ys.length<=As/\Q σ (upd H3 p (.lst (xs.take a.toNat++ys++xs.drop c.toNat)))
theorem Kf(ho:PE X o to)(hl:PE X lo tl)(hu:PE X hi th)
  (ha:∀v,assign (.Subscript o (.Slice (ae lo) (ae hi) af p2) pos) X.env v=(do
   let ov <-Gj [v] (eval o X.env)
   let iv <-Gj [v,ov] (eval (.Slice (ae lo) (ae hi) af p2) X.env)
   standAt pos
   Gj [v,ov,iv] (setItem ov iv v)
   release [iv,v,ov] []):=by intro _;rfl):PG X (.Subscript o (.Slice (ae lo) (ae hi) af p2) pos) (AY to tl th):=by
 intro d s σ H v u Q I r h;rw[ha];refine Aa (Bt (aP (ho d s σ H _ I h) λov E ⟨x,M,D,z,m⟩=>Aa (Bt (wpAny_Slice ?_))));refine aP (hl d E σ M _ D m) λvl G i=>?_;obtain⟨l,F,O,j,e⟩:=i;obtain⟨a,rfl,e⟩:=e;refine aP (hu d G σ F _ O e) λvu g o=>?_;obtain⟨y,B,P,R,f⟩:=o;obtain⟨c,rfl,p,T,b,V,rfl,rfl,L,J,w,k,n,t,C,f⟩:=f;refine Ah ?_;have N:Inv X d σ B {g with heap:=g.heap.push {cls:=.type "slice",data:=.fields #[vl,vu,.none]}}:=P.kept λb U q=>Ae _ q;cases z;cases r;exact Aa (G1 (Aa (Bt (Wa N L J w (Gp ..) j R k n t C λs4 A=>wpAny_release ⟨σ,_,A,f⟩))))
end
end L2
namespace DL
open PySem L2 Nb
section
variable{X:Cx}{a b c e lo hi:Expr}{ta tb te tl th:TE}{wl wh:DT}{fa fb we:dq}{tA:TT}{cA:bZ}{pos p p2 p3 p4:Pos}{K:Af}
def my(u:bZ)(v w:dq):dq:=λδ n Q=>u δ n λb n1=>if b=ah then v δ n1 Q else w δ n1 Q
theorem NO(h:DC X c tA cA)(h1:DF X a ta fa)(h2:DF X b tb fb):DF X (.IfExp c a b pos) (tL tA ta tb) (my cA fa fb):=⟨FP h.pt h1.pe h2.pe,λC H B σ δ n Q J R q k=>
 h.sd C H B σ δ n _ _ R q λb f D u y A=>by
  have e:∀p,p≠C.t->f p=af->H p=af:=λp E I=>by
   cases G:H p with
   |none=>rfl
   |some o=>rw[y _ _ G E]at I;omega
  have F:∀p,f p=af->p≠C.t:=λp E z=>by obtain⟨_,_⟩:=u.tp.ob;simp_all
  cases b with
  |true=>
   exact h1.sd C f B σ δ D _ _ u A λa v m w i r x d s l j g=>k a v m w i r (y.trans x) (e a (F a d) d) s l j g
  |false=>
   exact h2.sd C f B σ δ D _ _ u A λa v m w i r x d s l j g=>k a v m w i r (y.trans x) (e a (F a d) d) s l j g⟩
def wD(w:DT):dq:=λδ n Q=>w δ n λx n1=>match x with
 |.d (.list ds)=>Q ds.reverse n1
 |_=>False
theorem QF{we:DT}{jj}(he:DE X e te we)(hK:X.K=K:=by rfl):DF X (.Subscript e (.Slice af af (ae (.UnaryOp .USub (.Constant (.int 1) jj p3) p4)) p2) pos) (ya K te (rR (rU λi=>.int (-i)) (tC (.int 1)))) (wD we):=by
 subst hK;refine⟨Uy he.pe (tN tH cm),λC H B σ δ n Q E R q k=>he.sd C H B σ δ n _ _ R q λv x A j c d m b=>?_⟩
 split at b
 ·rename_i l;cases(show RdX A B v (.list l)from m)with
  |@lst r u _ y G F h=>
   refine⟨1,rfl,r,u,rfl,rfl,SqL.of y,λp a=>?_⟩;have s:p≠C.t:=λz=>by obtain⟨_,_⟩:=c.tp.ob;simp_all
   have D:H p=af:=by
    cases f:H p with
    |none=>rfl
    |some o=>rw[d _ _ f s]at a;omega
   exact k p _ _ _ j (c.new a) (d.trans (Kp.new a)) D br (by rw[D7];omega) ((RdXs.rev h).fresh a) b
 ·exact b.elim
def ko(i:Nat)(wl wh:DT)(we:dq):aE:=λδ n K=>∃ds,δ[i]?=ae (ae (.own ds))/\we δ n λzs n1=>wl δ n1 λy n2=>∃a:Nat,y=.d (.int a)/\wh δ n2 λz n3=>∃c:Nat,z=.d (.int c)/\a<=c/\c<=ds.length/\ds.length+zs.length<=1000000/\K.nx (δ.set i (ae (.own (ds.take a++zs++ds.drop c)))) n3
theorem L9{xp:Pos}(hN:X.N[i]?=ae x)(he:DF X e te we)(hl:DE X lo tl wl)(hh:DE X hi th wh)(hv:ej X.env.scope x:=by first|exact Cc rfl|exact Bo (Cc rfl)|exact Bo (Bo rfl))(hd:(x==("__debug__":Str))=ai:=by decide)
  (q_:(x==("__classdict__":Str))=ai:=by decide)
  (ha:∀v,assign (.Subscript (.Name x xp) (.Slice (ae lo) (ae hi) af p2) p) X.env v=(do
   let ov <-Gj [v] (eval (.Name x xp) X.env)
   let iv <-Gj [v,ov] (eval (.Slice (ae lo) (ae hi) af p2) X.env)
   standAt p
   Gj [v,ov,iv] (setItem ov iv v)
   release [iv,v,ov] []):=by intro _;rfl)
  (hs:swapsWithSole [.Subscript (.Name x xp) (.Slice (ae lo) (ae hi) af p2) p] e pos.line X.env=pure ai:=by rfl) (hw:swappedStores [.Subscript (.Name x xp) (.Slice (ae lo) (ae hi) af p2) p] e X.env=pure af:=by rfl)
  (h1:(Cj [.Subscript (.Name x xp) (.Slice (ae lo) (ae hi) af p2) p] X.env).map (·.2)=[assign (.Subscript (.Name x xp) (.Slice (ae lo) (ae hi) af p2) p) X.env]:=by rfl):
  DS X (.Assign [.Subscript (.Name x xp) (.Slice (ae lo) (ae hi) af p2) p] e pos) (bX te (AY (bM i) tl th)) (ko i wl wh we):=
 ⟨kU he.pe (Kf (eZ hN hv hd q_) hl.pe hh.pe ha) hs hw h1,λC H B σ δ n K D R q E=>by
  obtain⟨ds,I,q⟩:=q;obtain⟨v,hv,f,A,rfl,e2,s,l,e5,G⟩:=R.sl i _ I;refine he.sd C H B σ δ n _ _ R q λb M es H1 Y L P h0 S g2 J T=>⟨_,hv,?_⟩;have Z:b≠C.t:=λz=>by obtain⟨_,_⟩:=R.tp.ob;simp_all
  have h:f≠C.t:=λz=>R.t0 (z▸l);have F:f≠b:=λz=>by simp_all
  refine hl.sd C H1 B σ δ Y _ _ L T λu y O U R2 k2 r2 k=>?_;obtain⟨m,rfl,k⟩:=k;cases(show RdX O B u (.int m)from r2);refine⟨m,rfl,hh.sd C O B σ δ U _ _ R2 k λu' y' w n3 Q k3 W q3=>?_⟩;obtain⟨c,rfl,q4,q5,q6,q7⟩:=q3;cases(show RdX w B u' (.int c)from W);have a:=k2.trans k3;have hle:=G.len;have V:=J.len;have g:=G.kp (P.trans a) R.bt;have hsz:As=16777216:=by decide
  refine⟨c,rfl,f,A,b,M,rfl,rfl,(a _ _ (P _ _ e2 h) h),(a _ _ S Z),F,by omega,by omega,by omega,by omega,?_⟩;rw[B8,B8];have j:∀b o,w b=ae o->¬B b->upd w f (.lst (A.take m++M++A.drop c)) b=ae o:=λb o e n=>by rw[aX λ(z:b=f)=>n (z▸s)];exact e
  refine E.nx _ _ _ _ _ (Q.mutOwn (x':=.own _) I rfl hv s l ⟨f,_,rfl,br,s,l,?_,RdXs.keep j (((g.take m).append ((J.less λc z=>.inl z).kp a L.bt)).append (g.drop c))⟩ rfl) q7;rw[An,An,C9,Ct];omega⟩
end
section
variable{X:Cx}{a:Expr}{ta:TE}{wa:DT}{pos p:Pos}{K:Af}
def kg(i:Nat)(wa:DT):aE:=λδ n K=>match δ[i]? with
 |some (ae (.own ds))=>wa δ n λx n1=>∃m:Nat,x=.d (.int m)/\m < ds.length/\K.nx (δ.set i (ae (.own (ds.eraseIdx m)))) n1
 |_=>False
theorem Ou{xp ap cp:Pos}(hN:X.N[i]?=ae x)(ha:DE X a ta wa)(hv:ej X.env.scope x:=by first|exact Cc rfl|exact Bo (Cc rfl)|exact Bo (Bo rfl))(hd:(x==("__debug__":Str))=ai:=by decide)
  (q_:(x==("__classdict__":Str))=ai:=by decide)
  (hbase:Gi (.Name x xp) "pop" X.env (eval (.Name x xp) X.env)=eval (.Name x xp) X.env:=by rfl)
  (hfew:((C6 cp (Au [a] X.env)).all (λx=>!x.1)&&(backToKw cp (keywordEach [] X.env)).all (λx=>x.1.isSome)
   && decide ([a].length+([]:List Keyword).length+(if ([]:List Keyword).isEmpty then 0 else 1) < 30))=ah:=by rfl)
  (hline:(ap.endLine==cp.line)=ah:=by rfl) (hs:Au [a] X.env=[(ai,eval a X.env)]:=by rfl) (hplain:(C6 cp (Au [] X.env)).any (·.1)=ai:=by rfl)
  (hsw:Cp (.Call (.Attribute (.Name x xp) "pop" ap) [a] [] cp) af pos.line X.env=pure ai:=by rfl):
  DS X (.Expr (.Call (.Attribute (.Name x xp) "pop" ap) [a] [] cp) pos) (nT (oe X.K "list" zc (bM i) (cU ta bP))) (kg i wa):=
 ⟨qj (q0 Ga PySem.F.slot_list_pop PySem.F.type_list_pop Np (eZ hN hv hd q_) (cj ha.pe dG hs) hbase hfew hline hs hplain) hsw,λC H B σ δ n K D R q E=>by
  unfold kg at q
  split at q
  ·rename_i V k;obtain⟨v,hv,d,r,rfl,s,g,h,T,l⟩:=R.sl i _ k;refine⟨_,hv,.inl ⟨rfl,_,SqL.of s⟩,ha.sd C H B σ δ n _ _ R q λu y L U J A O f=>?_⟩;obtain⟨m,rfl,G,f⟩:=f;cases(show RdX L B u (.int m)from O);have j:d≠C.t:=λz=>R.t0 (z▸h);have Q:=l.len;have p:=l.kp A R.bt;obtain⟨w,M,I⟩:=p.getD (Ai G);have S:As=16777216:=by decide
   refine⟨d,r,_,m,w,rfl,rfl,(A _ _ s j),by omega,by omega,?_,M,?_⟩
   ·exact(wW (by unfold iU;rw[a' ⋯,a' ⋯];rfl)).1
   ·refine E.nx _ _ _ _ _ (J.mutOwn k rfl hv g h ?_ rfl) f;refine⟨d,_,rfl,br,g,h,?_,RdXs.keep (λb o e n=>?_) (p.erase m)⟩
    ·have:=v3 r m;omega
    ·rw[aX λ(z:b=d)=>n (z▸g)];exact e
  ·exact q.elim⟩
end
section
variable{X:Cx}{e:Expr}{te:TE}{we:DT}{pos p2:Pos}{K:Af}
def sx(w:DT)(l u:jB):DT:=λδ n Q=>w δ n λx n1=>l δ n1 λa n2=>u δ n2 λb n3=>match fE x with
 |some ds=>Q (.d (.list (bz ds a b))) n3
 |none=>False
theorem K6(he:DE X e te we)(hl:DOp X lo tl wl)(hh:DOp X hi th wh)(hK:X.K=K:=by rfl):DE X (.Subscript e (.Slice lo hi af p2) pos) (tI (oz K) te tl th) (sx we wl wh):=by
 subst hK;refine⟨sT HI he.pe hl.po hh.po,λC H B σ δ n Q M R q k=>he.sd C H B σ δ n _ _ R q λv x r s j G F u=>
  hl.sd C r B σ δ s _ _ j u λa o I g m w=>hh.sd C o B σ δ I _ _ g w λb J E i h d=>?_⟩
 split at d
 ·rename_i L A;obtain⟨D,f,rfl,t,y,l⟩:=ny ((F.kp m j.bt).kp h g.bt) A;refine⟨D,f,rfl,SqL.of t,λp c=>k _ _ _ E (i.new c) (((G.trans m).trans h).trans (Kp.new c)) (wd (show RdX _ B _ (.list _)from .lst br (i.nb c) (A5 (rJ f a b) y) ?_)) d⟩;unfold bz fA;rw[<-l.len];exact(((l.drop _).take _).fresh c).less λb z=>.inl z
 ·exact d.elim
end
section
variable{X:Cx}
def GV:R2:=λx y H Q=>∃i j,x=.str i/\y=.str j/\Q (.bl (!(G3 j i 0 j.length 1).isEmpty)) H
theorem PH:OpR X (Bm .In) GV:=Rc
theorem JE:bq GV (kZ ai):=λC H B σ δ n x y p q Q e R d c a k=>by
 unfold kZ at a
 split at a
 ·rename_i i j;cases(show RdX H B x (.str i)from d);cases(show RdX H B y (.str j)from c);exact⟨i,j,rfl,rfl,k _ _ H n R (Kp.refl _ _) (wd (.bl _)) a⟩
 ·exact a.elim
end
theorem IQ(c):iC ⟨#[c]⟩ "abcdefghijklmnopqrstuvwxyz"=kc c:=by
 by_cases h:c < 128
 ·exact(show ∀c < 128,iC ⟨#[c]⟩ "abcdefghijklmnopqrstuvwxyz"=kc c by decide +kernel) c h
 ·have g:kc c=ai:=by
   unfold kc;have:decide (("z":Str).cps.toList < [c])=ah:=by
    refine b_ ?_;rw[show("z":Str).cps.toList=[122] by rfl];exact List.Lex.rel ⋯
   rw[this];simp
  rw[g];unfold iC;rw[PySem.W.occ_nil_of_no]
  ·rfl
  ·intro i j;cases e:Builtin.Str.subAt "abcdefghijklmnopqrstuvwxyz" ⟨#[c]⟩ i with
   |false=>rfl
   |true=>
    have d:c∈("abcdefghijklmnopqrstuvwxyz":Str).cps:=by
     have f:=beq_iff_eq.mp e;have:c∈(⟨#[c]⟩:Str).cps:=by simp
     rw[<-f]at this;obtain⟨k,l,b⟩:=Array.mem_extract_iff_getElem.mp this;rw[<-b];simp
    have:=Array.all_eq_true_iff_forall_mem.mp (show("abcdefghijklmnopqrstuvwxyz":Str).cps.all (λc=>decide (c < 128))=ah by decide +kernel) c d;exact f_ (d_ this) h
end DL
namespace Nb
open PySem L2 DL
abbrev zR:aE:=(av (bc (aO "int" ↥0) (ij (aO "bool" ↥0))))
abbrev zt:aE:=(ar (aH (aM (cT (aO "str" ↥0))) (av (wC (.bool ai))) aF) (av (bc (fi dH dH ⇑1 (wB aI (ao ↥0 ak)) ↥1) (wB bL (ao (aV (bG [af] (qO ↥0) (aG 0) aR (fi dH dH (wC (.str "a")) ↥0 (wC (.str "z"))))) ak)))))
abbrev QO:aE:=(av (aB lB (ao ↥0 (ao ⇑8 ak))))
abbrev FJ:aE:=(av (bc (aB (bx jg) (ao ↥0 ak)) (fi dH dH ⇑0 ↥0 ⇑99)))
abbrev yn:aE:=(av (ji (aB (bx (bR 8)) (ao ↥0 ak)) (aB (bx iK) (ao ↥0 ak))))
abbrev Ih:aE:=(av (aB lB (ao ↥0 (ao ⇑4 ak))))
abbrev EY:aE:=(ar (aH (aM (cT (aO "tuple" ↥0))) (av (wC (.bool ai))) aF) (av (bc (fi dH dH ⇑1 (wB aI (ao ↥0 ak)) ⇑4) (wB bL (ao (aV (bG [af] (cn ↥0) (aG 0) aR (aB (bx c7) (ao ↥0 ak)))) ak)))))
abbrev yl:aE:=(av (ji (w2 ↥0 (wC .none) (bJ ai)) (bc (aB (bx jg) (ao ↥0 ak)) (fi dH dH ⇑1 ↥0 ⇑20))))
abbrev AJ:aE:=(av (bc (aO "tuple" ↥0) (bc (w2 (wB aI (ao ↥0 ak)) ⇑2 bj) (bc (aB (bx dw) (ao (w2 ↥0 ⇑0 aw) ak)) (aB (bx eH) (ao (w2 ↥0 ⇑1 aw) ak))))))
abbrev LV:aE:=(ar (az 4 (w2 ↥0 ⇑0 aw)) (ar (aH (cT (w2 ↥4 (wC (.str "is")) bj)) (av (w2 (w2 ↥0 ⇑1 aw) ↥1 bj)) aF) (ar (aH (cT (w2 ↥4 (wC (.str "word")) bj)) (av (aO "str" ↥1)) aF) (ar (aH (cT (w2 ↥4 (wC (.str "number")) bj)) (av (aO "int" ↥1)) aF) (ar (aH (cT (w2 ↥4 (wC (.str "as")) bj)) (av (bc (w2 (w2 ↥0 ⇑1 aw) (dZ 2) (eI ai)) (w2 (w2 (dZ 2) (w2 ↥0 ⇑1 aw) gp) ↥1 bj))) aF) (ar (aH (cT (w2 ↥4 (wC (.str "bind")) bj)) (av (ji (w2 (w2 ↥0 ⇑1 aw) (dZ 3) (eI ah)) (w2 (w2 (dZ 3) (w2 ↥0 ⇑1 aw) gp) ↥1 bj))) aF) (av (wC (.bool ah)))))))))
abbrev QQ:aE:=(ar (aH (cT (w2 (wB aI (ao ↥0 ak)) (wB aI (ao ↥1 ak)) di)) (av (wC .none)) aF) (ar (jT 3 (ju ↥2)) (ar (jT 4 kO) (ar (aZ (ic ↥0 ↥1) (dF 2 (bE (aG 5) (bE (aG 6) cZ))) (ar (aH (aM (cT (aB jn (ao ↥5 (ao ↥6 (ao (dZ 3) (ao (dZ 4) ak))))))) (av (wC .none)) aF) (aH (cT (w2 (w2 ↥5 ⇑0 aw) (wC (.str "bind")) bj)) (ar (lZ 4 (w2 ↥5 ⇑1 aw) ↥6) (lZ 3 (w2 ↥5 ⇑1 aw) ↥6)) aF))) (av (wB eT (ao (aV (Hi (dZ 3))) ak)))))))
abbrev LO:aE:=(av (wB eT (ao (aV (rm (aV (bG [af] (cn ↥0) (aG 0) (cT (w2 (w2 ↥0 ⇑0 aw) (wC (.str "bind")) bj)) (w2 ↥0 ⇑1 aw))))) ak)))
abbrev NW:aE:=(ar (aH (cT (aO "str" ↥0)) (av ↥0) aF) (av (gq (cT (w2 ↥0 ⇑99 bj)) ⇑0 (w2 ↥0 ⇑1 (bN λi j=>.int (i+j))))))
abbrev U7:aE:=(ar (aH (cT (w2 (w2 ↥0 ⇑0 aw) (wC (.str "is")) bj)) (av (w2 ↥0 ⇑1 aw)) aF) (ar (az 2 (w2 (dZ 1) (w2 ↥0 ⇑1 aw) gp)) (av (gq (cT (w2 (w2 ↥0 ⇑0 aw) (wC (.str "next")) bj)) (aB wg (ao ↥2 ak)) ↥2))))
abbrev Rv:aE:=(ar (jT 2 (ju ↥1)) (av (wB eT (ao (aV (bG [af,ae 2] (cn ↥0) (aG 0) aR (aB nk (ao ↥0 (ao (dZ 1) ak))))) ak))))
abbrev Za:List Str:=["take","read","look"]
abbrev IC:aE:=(ar (az 3 (w2 (w2 ↥0 ↥1 aw) ⇑0 aw)) (ar (az 4 (w2 (w2 ↥0 ↥1 aw) ⇑1 aw)) (ar (bu 5 (jz ↥3)) (ar (aZ (cn (cx ↥4 cb (b8 ↥2))) (aG 6) (aH (cT (fK Za (w2 ↥6 ⇑0 aw))) (m8 5 (aB nN (ao (w2 ↥6 ⇑1 aw) ak))) aF)) (bO 5 (av (wB eT (ao (aV (rm ↥5)) ak))))))))
abbrev L3:aE:=(av (bc (aO "tuple" ↥0) (bc (w2 (wB aI (ao ↥0 ak)) ⇑2 bj) (bc (aB (bx (bR 4)) (ao (w2 ↥0 ⇑0 aw) ak)) (aB (bx c7) (ao (w2 ↥0 ⇑1 aw) ak))))))
abbrev UL:aE:=(ar (aH (cC (aM (cT (aO "tuple" ↥0))) (aM (cT (wB bL (ao (aV (bG [af] (cn ↥0) (aG 0) aR (aB (bx fX) (ao ↥0 ak)))) ak))))) (av (wC (.bool ai))) aF) (av (wB bL (ao (aV (bG [af,af] (vj ↥0 (cx ↥0 (b8 ⇑1) cb)) (dF 2 (bE (aG 0) (bE (aG 1) cZ))) aR (w2 (w2 ↥0 ⇑0 aw) (w2 ↥1 ⇑0 aw) fm))) ak))))
abbrev IB:aE:=(av (bc (aO "tuple" ↥0) (wB bL (ao (aV (bG [af] (cn ↥0) (aG 0) aR (bc (aO "tuple" ↥0) (w2 (wB aI (ao ↥0 ak)) ⇑3 bj)))) ak))))
abbrev Uo:aE:=(ar (aH (cC (aM (cT (aO "tuple" ↥0))) (cT (w2 (wB aI (ao ↥0 ak)) ⇑2 di))) (av (wC (.bool ai))) aF) (av (bc (aB (bx mi) (ao (w2 ↥0 ⇑0 aw) ak)) (aO "tuple" (w2 ↥0 ⇑1 aw)))))
abbrev JC:aE:=(av (bc (aB (bx jg) (ao ↥0 ak)) (fi dH dH ⇑0 ↥0 ↥1)))
abbrev JD:aE:=(av (bc (aB m3 (ao (w2 ↥1 ⇑0 aw) (ao (w2 (wB aI (ao ↥0 ak)) ⇑1 (bN λi j=>.int (i-j))) ak))) (aB m3 (ao (w2 ↥1 ⇑1 aw) (ao (wB aI (ao (w2 (w2 ↥0 (w2 ↥1 ⇑0 aw) aw) ⇑1 aw) ak)) ak)))))
abbrev K3:aE:=(ar (aH (aM (cT (aB (bx gi) (ao (w2 ↥1 ⇑2 aw) ak)))) (av (wC (.bool ai))) aF) (av (w2 (wB eT (ao (aV (bG [af] (cn (w2 ↥1 ⇑2 aw)) (aG 0) aR (w2 ↥0 ⇑0 aw))) ak)) (aB uy (ao ↥0 (ao (w2 ↥1 ⇑0 aw) (ao (w2 ↥1 ⇑1 aw) ak)))) (ni λd e=>ae (Bz d e)))))
abbrev Jz:aE:=(ar (aH (aM (cT (aB (bx iW) (ao ↥1 ak)))) (av (wC (.str "form"))) aF) (ar (az 2 (w2 ↥1 ⇑0 aw)) (ar (aH (cT (w2 (wB aI (ao ↥2 ak)) (wB aI (ao ↥0 ak)) di)) (av (wC (.str "hands"))) aF) (ar (aH (aM (cT (wB bL (ao (aV (bG [af,af] (ic ↥0 ↥2) (dF 2 (bE (aG 0) (bE (aG 1) cZ))) aR (aB si (ao ↥0 (ao ↥1 ak))))) ak)))) (av (wC (.str "place"))) aF) (ar (aH (aM (cT (wB bL (ao (aV (bG [af,af] (ic ↥0 ↥2) (dF 2 (bE (aG 0) (bE (aG 1) cZ))) aR (aB qF (ao ↥0 (ao ↥1 ak))))) ak)))) (av (wC (.str "names"))) aF) (ar (aH (aM (cT (wB bL (ao (aV (bG [af] (cn (w2 ↥1 ⇑1 aw)) (aG 0) aR (aB (bx fe) (ao ↥0 ak)))) ak)))) (av (wC (.str "notes"))) aF) (av (wC .none))))))))
abbrev Rf:aE:=(ar (az 3 (w2 (w2 (w2 ↥1 ⇑0 aw) ↥2 aw) ⇑0 aw)) (ar (az 4 (w2 (w2 (w2 ↥1 ⇑0 aw) ↥2 aw) ⇑1 aw)) (ar (az 5 (w2 (w2 (w2 ↥0 ↥2 aw) ↥3 aw) ⇑1 aw)) (av (gq (cT (w2 ↥4 (wB aI (ao ↥5 ak)) fm)) (w2 ↥5 ↥4 aw) (wC .none))))))
abbrev Px:aE:=(ar (az 3 (aB nj (ao ↥0 (ao ↥1 (ao ↥2 ak))))) (ar (aH (cC (cT (w2 ↥3 (wC .none) (bJ ai))) (cT (qd Za (w2 ↥3 ⇑0 aw)))) (av (wC .none)) aF) (ar (az 4 (w2 (w2 (w2 ↥1 ⇑0 aw) ↥2 aw) ⇑2 aw)) (ar (uE 5) (ar (aZ (FO (w2 ↥1 ⇑1 aw)) (dF 2 (bE (aG 6) (bE (aG 7) cZ))) (aH (cT (qS 5 (w2 ↥7 ⇑0 aw))) (ar (aH (cT (w2 (aB nX (ao (w2 ↥3 ⇑1 aw) (ao (w2 ↥7 ⇑0 aw) (ao ↥4 ak)))) (wC .none) (bJ ah))) (av ↥6) aF) (zi 5 (w2 ↥7 ⇑0 aw) (wC (.bool ah)))) aF)) (av (wC .none)))))))
abbrev NQ:aE:=(av (aC (ao (w2 ↥0 ⇑0 aw) (ao (w2 (w2 ↥0 ⇑1 aw) ⇑1 (bN λi j=>.int (i+j))) (ao ↥1 ak)))))
abbrev S9:aE:=(ar (az 3 (w2 (w2 ↥0 ↥1 aw) ⇑0 aw)) (av (aC (ao ↥1 (ao ⇑0 (ao (wB eT (ao (aV (bG [af,ae 3] (cn ↥2) (aG 0) (cT (w2 (w2 ↥0 ⇑0 aw) ↥1 (hZ ai))) ↥0)) ak)) ak))))))
abbrev Ov:aE:=(av (w2 (w2 (cx ↥0 cb (b8 ↥1)) (aC (ao ↥2 ak)) d3) (cx ↥0 (b8 (w2 ↥1 ⇑1 (bN λi j=>.int (i+j)))) cb) d3))
abbrev xC:aE:=(ar (az 4 (w2 (w2 ↥1 ⇑0 aw) ↥2 aw)) (ar (az 5 (w2 ↥1 ⇑1 aw)) (ar (az 6 (aB uN (ao ↥0 (ao ↥1 (ao ↥2 ak))))) (ar (aH (cT (w2 ↥6 (wC .none) (bJ ai))) (ar (aH (cT (w2 (w2 ↥3 ⇑0 aw) (wC (.str "look")) di)) (av (wC .none)) aF) (av (aC (ao (aB jd (ao (w2 ↥1 ⇑0 aw) (ao ↥2 (ao (aB oG (ao (w2 ↥0 ↥2 aw) (ao (w2 ↥3 ⇑2 aw) (ao (w2 ↥4 ⇑2 aw) ak)))) ak)))) (ao ↥5 ak))))) aF) (ar (az 7 (aB nX (ao (w2 ↥3 ⇑1 aw) (ao (w2 (w2 ↥5 ↥6 aw) ⇑0 aw) (ao (w2 ↥4 ⇑2 aw) ak))))) (ar (aH (cT (w2 (w2 ↥3 ⇑0 aw) (wC (.str "take")) bj)) (az 5 (w2 (cx ↥5 cb (b8 ↥6)) (cx ↥5 (b8 (w2 ↥6 ⇑1 (bN λi j=>.int (i+j)))) cb) d3)) aF) (av (aC (ao (aB jd (ao (w2 ↥1 ⇑0 aw) (ao ↥2 (ao (aB l7 (ao ↥4 (ao ↥7 ak))) ak)))) (ao ↥5 ak))))))))))
abbrev Mm:aE:=(ar (jT 2 (ju ↥1)) (av (w2 (aB nk (ao (w2 ↥0 ⇑1 aw) (ao (dZ 2) ak))) (aB nk (ao (w2 ↥0 ⇑2 aw) (ao (dZ 2) ak))) bj)))
abbrev ME:aE:=(ar (az 3 (aB nj (ao ↥0 (ao ↥1 (ao ↥2 ak))))) (ar (aH (cT (w2 ↥3 (wC .none) (bJ ai))) (av (wC .none)) aF) (ar (aH (cT (fK Za (w2 ↥3 ⇑0 aw))) (av (aB oR (ao ↥0 (ao ↥1 (ao ↥2 (ao ↥3 ak)))))) aF) (ar (az 4 (w2 (w2 ↥1 ⇑0 aw) ↥2 aw)) (ar (az 5 (w2 ↥1 ⇑1 aw)) (ar (az 6 (w2 ↥4 ⇑2 aw)) (ar (aH (cT (w2 (w2 ↥3 ⇑0 aw) (wC (.str "lay")) bj)) (ar (az 5 (w2 ↥5 (aC (ao (aC (ao (aB qy (ao (w2 ↥3 ⇑1 aw) (ao ↥6 ak))) (ao (w2 ↥3 ⇑2 aw) ak))) ak)) d3)) (az 4 (aB l7 (ao ↥4 (ao ↥6 ak))))) (aH (bW (cT (w2 (w2 ↥3 ⇑0 aw) (wC (.str "same")) bj)) (cT (aB uu (ao ↥3 (ao ↥6 ak))))) (az 4 (aB l7 (ao ↥4 (ao ↥6 ak)))) (az 4 (aB oG (ao (w2 ↥0 ↥2 aw) (ao (w2 ↥3 (dJ ⇑1) aw) (ao ↥6 ak))))))) (av (aC (ao (aB jd (ao (w2 ↥1 ⇑0 aw) (ao ↥2 (ao ↥4 ak)))) (ao ↥5 ak)))))))))))
abbrev Q2:aE:=(av (gq (cT (w2 (w2 ↥0 ⇑1 aw) (wC .none) (bJ ai))) ↥0 (aC (ao (w2 ↥0 ⇑0 aw) (ao (w2 (w2 ↥0 ⇑1 aw) ⇑1 (bN λi j=>.int (i-j))) ak)))))
abbrev Lf:aE:=(av (aC (ao (w2 ↥0 ⇑0 aw) (ao (wB eT (ao (aV (bG [af] (cn (w2 ↥0 ⇑1 aw)) (aG 0) (cT (w2 (w2 ↥0 ⇑1 aw) ⇑1 di)) (aB uq (ao ↥0 ak)))) ak)) ak))))
abbrev Jq:aE:=(ar (az 3 (wB aI (ao ↥0 ak))) (ar (aH (aM (cT (aB m3 (ao ↥2 (ao ↥3 ak))))) (av (wC .none)) aF) (av (gq (cT (w2 ↥2 ↥3 bj)) (aB v5 (ao ↥1 ak)) (aB vR (ao ↥0 (ao ↥1 (ao ↥2 ak))))))))
abbrev N2:aE:=(av (bc (aO "list" ↥1) (wB bL (ao (aV (bG [af,ae 0] (eu ↥1) (aG 0) aR (w2 (aB v9 (ao ↥1 (ao ↥0 ak))) (wC .none) (bJ ai)))) ak))))
abbrev Nh:aE:=(ar (az 3 (aV (bG [af,ae 0,ae 1] (eR (w2 (wB aI (ao ↥0 ak)) ⇑1 (bN λi j=>.int (i+j)))) (aG 0) aR (aB rY (ao ↥1 (ao ↥2 (ao ↥0 ak))))))) (av (wB bL (ao (aV (bG [af,ae 2] (eu ↥3) (aG 0) aR (ji (w2 ↥0 (wC .none) (bJ ai)) (w2 ↥0 (dB 1) (dR ai))))) ak))))
abbrev zo:aE:=(ar (aH (aM (cT (aB rq (ao ↥0 (ao ↥2 ak))))) (av (wC (.bool ai))) aF) (ar (GK 3 (aV (bG [af] (eu ↥2) (aG 0) aR (aC (ao ↥0 (ao (wC (.bool ah)) ak)))))) (gD 3 (av (bc (w2 ↥1 (dB 3) (dR ai)) (wB bL (ao (aV (bG [af,ae 0,ae 3] (xk (dB 3)) (aG 0) aR (aB vC (ao ↥1 (ao ↥0 (ao (dB 2) ak)))))) ak)))))))
abbrev MS:aE:=(av (w2 (aV (aN (ao (wC (.str "a")) (ao ⇑0 (ao (wC (.str "a")) (ao ⇑1 (ao (wC (.str "ab")) (ao (wC (.str "go")) (ao ⇑99 (ao ⇑0 ak)))))))))) (aB bQ (ao ↥0 (ao ⇑8 ak))) aw))
abbrev VN:aE:=(av (w2 (aV (aN (ao ⇑1 (ao ⇑2 (ao ⇑2 (ao ⇑2 (ao ⇑1 (ao ⇑3 (ao ⇑4 ak))))))))) (aB bQ (ao ↥0 (ao ⇑7 ak))) aw))
abbrev Vn:aE:=(ar (bu 2 (aN ak)) (ar (bu 3 (aN ak)) (ar (aZ (eR (aB lY (ao ↥0 ak))) (aG 4) (ar (az 5 (aB bQ (ao ↥0 (ao ⇑9 ak)))) (ar (az 6 (w2 ↥1 (bY 3) fG)) (aH (cT (w2 ↥5 ⇑3 fm)) (bh 2 (aC (ao (wC (.str "is")) (ao (aB iS (ao ↥0 ak)) ak)))) (aH (cT (w2 ↥5 ⇑6 fm)) (bh 2 (w2 (aV (aN (ao (aC (ao (wC (.str "any")) ak)) (ao (aC (ao (wC (.str "word")) ak)) (ao (aC (ao (wC (.str "number")) ak)) ak))))) (w2 ↥5 ⇑3 (bN λi j=>.int (i-j))) a9)) (aH (cC (cT (w2 ↥5 ⇑8 fm)) (cT (w2 ↥6 (aV (aN ak)) a8))) (ar (az 7 (w2 (aV (aN (ao (wC (.str "n")) (ao (wC (.str "nm")) (ao (wC (.str "go")) (ao (wC (.str "m")) ak)))))) (aB bQ (ao ↥0 (ao ⇑4 ak))) a9)) (ar (bh 3 ↥7) (bh 2 (aC (ao (wC (.str "bind")) (ao ↥7 ak)))))) (bh 2 (aC (ao (wC (.str "as")) (ao (w2 ↥6 (aB bQ (ao ↥0 (ao (wB dD (ao ↥6 ak)) ak))) a9) ak)))))))))) (bO 2 (bO 3 (av (aC (ao (wB fV (ao ↥2 ak)) (ao ↥3 ak)))))))))
abbrev IH:aE:=(ar (bu 2 (aN ak)) (ar (aZ (eR (aB lY (ao ↥0 ak))) (aG 3) (ar (az 4 (aB bQ (ao ↥0 (ao ⇑6 ak)))) (aH (cC (cT (w2 ↥4 ⇑3 fm)) (cT (w2 ↥1 (aV (aN ak)) a8))) (bh 2 (aC (ao (wC (.str "is")) (ao (aB iS (ao ↥0 ak)) ak)))) (bh 2 (aC (ao (w2 (aV (aN (ao (wC (.str "as")) (ao (wC (.str "as")) (ao (wC (.str "next")) ak))))) (w2 ↥4 ⇑3 (bN λi j=>.int (i-j))) a9) (ao (w2 ↥1 (aB bQ (ao ↥0 (ao (wB dD (ao ↥1 ak)) ak))) a9) ak))))))) (bO 2 (av (wB fV (ao ↥2 ak))))))
abbrev WC:aE:=(ar (aH (cC (cT (w2 ↥1 (aV (aN ak)) a8)) (cT (w2 (aB bQ (ao ↥0 (ao ⇑2 ak))) ⇑0 a8))) (av (aC (ao (wC (.str "is")) (ao (aB iS (ao ↥0 ak)) ak)))) aF) (av (aC (ao (wC (.str "as")) (ao (w2 ↥1 (aB bQ (ao ↥0 (ao (wB dD (ao ↥1 ak)) ak))) a9) ak)))))
abbrev xI:aE:=(ar (az 3 (aB bQ (ao ↥0 (ao ⇑12 ak)))) (ar (aH (cT (w2 ↥3 ⇑4 fm)) (av (aC (ao (aC (ao (wC (.str "lay")) (ao (aB uh (ao ↥0 (ao ↥1 ak))) (ao (w2 (eO 0) (aB bQ (ao ↥0 (ao (wB dD (ao (eO 0) ak)) ak))) a9) ak)))) (ao (aV (aN ak)) ak)))) aF) (ar (az 4 (w2 ↥2 (aB bQ (ao ↥0 (ao (wB dD (ao ↥2 ak)) ak))) a9)) (ar (aH (cT (w2 ↥3 ⇑10 a8)) (av (aC (ao (aC (ao (wC (.str "same")) (ao (aB rG (ao ↥0 (ao ↥1 ak))) (ao (aB rG (ao ↥0 (ao ↥1 ak))) (ao ↥4 ak))))) (ao (aV (aN ak)) ak)))) aF) (ar (aH (cT (w2 ↥3 ⇑11 a8)) (av (aC (ao (aC (ao (wC (.str "go")) (ao ↥4 ak))) (ao (aV (aN ak)) ak)))) aF) (ar (d7 (aB vZ (ao ↥0 (ao ↥1 ak))) (dF 2 (bE (aG 5) (bE (aG 6) cZ)))) (ar (aH (cT (w2 ↥3 ⇑7 hX)) (av (aC (ao (aC (ao (wC (.str "look")) (ao ↥5 (ao ↥4 ak)))) (ao ↥6 ak)))) aF) (av (aC (ao (aC (ao (w2 (aV (aN (ao (wC (.str "take")) (ao (wC (.str "take")) (ao (wC (.str "take")) (ao (wC (.str "read")) ak)))))) (w2 ↥3 ⇑4 (bN λi j=>.int (i-j))) a9) (ao ↥5 ak))) (ao ↥6 ak)))))))))))
abbrev Qn:aE:=(ar (bu 1 (aN (ao (aC ak) ak))) (ar (aZ (eR (w2 (aV (aN (ao ⇑0 (ao ⇑1 (ao ⇑0 (ao ⇑1 (ao ⇑2 ak))))))) (aB bQ (ao ↥0 (ao ⇑5 ak))) a9)) (aG 2) (bh 1 (w2 (aV (aN (ao (aC ak) (ao (aC (ao (wC (.str "n")) ak)) (ao (aC (ao (wC (.str "go")) (ao (wC (.str "n")) ak))) (ao (aC (ao (wC (.str "nm")) ak)) (ao (aC ak) ak))))))) (aB bQ (ao ↥0 (ao ⇑5 ak))) a9))) (ar (bu 3 (aN ak)) (bO 1 (ar (aZ (eu ↥1) (aG 4) (ar (bu 5 (jz ↥4)) (ar (bu 6 (aN ak)) (ar (aZ (eR (w2 (aV (aN (ao ⇑2 (ao ⇑1 (ao ⇑3 (ao ⇑2 (ao ⇑0 (ao ⇑1 (ao ⇑2 (ao ⇑3 ak)))))))))) (aB bQ (ao ↥0 (ao ⇑8 ak))) a9)) (aG 2) (ar (az 8 (aV (bG [af,ae 5,ae 1] (eR (wB dD (ao ↥1 ak))) (aG 0) (cT (w2 (aV (bG [af,ae 1] (cn (w2 ↥2 ↥0 a9)) (aG 0) (cT (w2 ↥0 ↥1 (eM ah))) ↥0)) (aV (aN ak)) a8)) ↥0))) (ar (d7 (aB pF (ao ↥0 (ao (bY 5) (ao ↥8 ak)))) (dF 2 (bE (aG 9) (bE (aG 10) cZ)))) (ar (bh 6 ↥9) (aZ (eu ↥10) (aG 7) (aH (cT (w2 ↥7 (bY 5) (eM ah))) (bh 5 ↥7) aF)))))) (bO 6 (bh 3 (aC (ao ↥4 (ao (wB fV (ao ↥6 ak)) ak))))))))) (bO 3 (av (wB fV (ao ↥3 ak)))))))))
abbrev Ly:aE:=(ar (bu 2 (aN ak)) (ar (aZ (eR (aB bQ (ao ↥0 (ao (w2 ↥1 ⇑1 (bN λi j=>.int (i+j))) ak)))) (aG 3) (ar (az 4 (wB fV (ao (aV (bG [af,ae 0] (eR (aB lY (ao ↥0 ak))) (aG 0) aR (aB iS (ao ↥1 ak)))) ak))) (bh 2 (aC (ao ↥4 (ao (w2 (eO 0) (aB bQ (ao ↥0 (ao (wB dD (ao (eO 0) ak)) ak))) a9) ak)))))) (bO 2 (av (wB fV (ao ↥2 ak))))))
abbrev JS:aE:=(ar (bu 3 (jz (w2 (w2 ↥0 ↥1 aw) ⇑0 aw))) (ar (aZ (cn (cx (w2 (w2 ↥0 ↥1 aw) ⇑1 aw) cb (b8 ↥2))) (aG 4) (aH (cT (w2 (w2 ↥4 ⇑0 aw) (aC (ao (wC (.str "take")) (ao (wC (.str "read")) (ao (wC (.str "look")) ak)))) (hZ ai))) (fZ 3 (aV (bG [af] (cn (w2 ↥4 ⇑1 aw)) (aG 0) (cT (w2 (w2 ↥0 ⇑0 aw) (wC (.str "bind")) bj)) (w2 ↥0 ⇑1 aw)))) aF)) (bO 3 (av (aV (rm ↥3))))))
abbrev Tg:aE:=(ar (bu 3 (aN ak)) (ar (aZ (cn ↥1) (aG 4) (ar (az 5 (aB bQ (ao ↥0 (ao (wB aI (ao ↥4 ak)) ak)))) (ar (az 6 (aB bQ (ao ↥0 (ao (w2 (wB aI (ao (w2 (w2 ↥4 ↥5 aw) ⇑1 aw) ak)) ⇑1 (bN λi j=>.int (i+j))) ak)))) (ar (az 7 (wB eT (ao (aV (bG [af,ae 0] (eu (aB rh (ao ↥4 (ao ↥5 (ao ↥6 ak))))) (aG 0) aR (aC (ao ↥0 (ao (aB iS (ao ↥1 ak)) ak))))) ak))) (bh 3 (aC (ao ↥5 (ao ↥6 (ao ↥7 ak))))))))) (bO 3 (av (aC (ao (wB eT (ao ↥3 ak)) (ao (aB mY (ao ↥0 (ao ↥2 ak))) ak)))))))
abbrev GF:aE:=(ar (bu 1 (bG [af,ae 0] (eR (w2 (aV (aN (ao ⇑1 (ao ⇑2 (ao ⇑2 (ao ⇑1 (ao ⇑3 (ao ⇑2 (ao ⇑0 (ao ⇑2 ak)))))))))) (aB bQ (ao ↥0 (ao ⇑8 ak))) a9)) (aG 0) aR (aB wF (ao ↥1 ak)))) (ar (aH (bW (cT (w2 (wB dD (ao (bY 1) ak)) ⇑2 a8)) (cT (w2 (aB bQ (ao ↥0 (ao ⇑4 ak))) ⇑0 a8))) (kX 1 ⇑1 (w2 (bY 1) ⇑0 a9)) aF) (ar (az 1 (wB fV (ao (bY 1) ak))) (ar (aH (cT (w2 (aB bQ (ao ↥0 (ao ⇑2 ak))) ⇑0 a8)) (bO 1 (av (aC (ao ↥1 (ao (aB pC (ao ↥0 (ao ↥1 (ao ⇑3 ak)))) ak))))) aF) (bO 1 (av (aC (ao ↥1 (ao (aC (ao (wB fV (ao (aV (bG [af] (cn ↥1) (aG 0) aR (aC (ao ⇑0 (ao ⇑0 (ao (aC ak) ak)))))) ak)) (ao (aB mY (ao ↥0 (ao ⇑4 ak))) ak))) ak)))))))))
abbrev NL:aE:=(ar (aH (cT (w2 (wB aI (ao ↥0 ak)) (wB aI (ao ↥1 ak)) di)) (av (wC .none)) aF) (ar (jT 3 (ju ↥2)) (ar (bu 4 (aN ak)) (ar (aZ (ic ↥0 ↥1) (dF 2 (bE (aG 5) (bE (aG 6) cZ))) (ar (az 7 (wC (.bool ah))) (ar (aH (cT (w2 (w2 ↥5 ⇑0 aw) (wC (.str "is")) bj)) (az 7 (w2 (w2 ↥5 ⇑1 aw) ↥6 bj)) (aH (cT (w2 (w2 ↥5 ⇑0 aw) (aC (ao (wC (.str "word")) (ao (wC (.str "number")) ak))) (hZ ai))) (az 7 (w2 (aO "str" ↥6) (w2 (w2 ↥5 ⇑0 aw) (wC (.str "word")) bj) bj)) (aH (cC (cT (w2 (w2 ↥5 ⇑0 aw) (wC (.str "as")) bj)) (bW (cT (w2 (w2 ↥5 ⇑0 aw) (wC (.str "bind")) bj)) (cT (mI 4 (w2 ↥5 ⇑1 aw))))) (az 7 (bc (w2 (w2 ↥5 ⇑1 aw) (dZ 3) (eI ai)) (w2 (w2 (dZ 3) (w2 ↥5 ⇑1 aw) gp) ↥6 bj))) (aH (cT (w2 (w2 ↥5 ⇑0 aw) (wC (.str "bind")) bj)) (ar (bh 4 (w2 ↥5 ⇑1 aw)) (lZ 3 (w2 ↥5 ⇑1 aw) ↥6)) aF)))) (aH (aM (cT ↥7)) (av (wC .none)) aF)))) (av (wB eT (ao (aV (bG [af,ae 3] (eu (aV (xQ (dZ 3)))) (aG 0) aR (aC (ao ↥0 (ao (w2 (dZ 1) ↥0 gp) ak))))) ak)))))))
abbrev TM:aE:=(ar (bu 2 (aN ak)) (ar (aZ (cn ↥0) (aG 3) (ar (az 4 (w2 ↥3 ⇑1 aw)) (ar (aH (cT (w2 (w2 ↥3 ⇑0 aw) (wC (.str "is")) di)) (az 4 (w2 (lL ↥1) (w2 ↥3 ⇑1 aw) gp)) aF) (ar (aH (bW (cT (w2 (w2 ↥3 ⇑0 aw) (wC (.str "next")) bj)) (aM (cT (aO "str" ↥4)))) (az 4 (w2 (w2 ↥4 ⇑1 (bN λi j=>.int (i+j))) ⇑100 (gI (λ_ j=>0 < j) λi j=>.int (i % j)))) aF) (bh 2 ↥4))))) (bO 2 (av (wB eT (ao ↥2 ak))))))
abbrev TB:aE:=(ar (d7 (w2 ↥1 ↥2 aw) (dF 3 (bE (aG 3) (bE (aG 4) (bE (aG 5) cZ))))) (ar (az 6 (w2 (w2 (w2 ↥0 ↥2 aw) ↥3 aw) ⇑1 aw)) (av (gq (cT (w2 ↥4 (wB aI (ao ↥6 ak)) fm)) (w2 ↥6 ↥4 aw) (wC .none)))))
abbrev Mq:aE:=(ar (aZ (eR (wB aI (ao ↥1 ak))) (aG 3) (ar (az 4 (aB wq (ao (w2 ↥0 ⇑1 aw) (ao (w2 (w2 ↥1 ↥3 aw) ⇑0 aw) (ao ↥2 ak))))) (aH (cT (w2 ↥4 (wC .none) (bJ ah))) (av (aC (ao ↥3 (ao ↥4 ak)))) aF))) (av (wC .none)))
abbrev Ut:aE:=(ar (bu 2 (aN ak)) (ar (aZ (eR (wB aI (ao ↥0 ak))) (aG 3) (ar (az 4 (aB t7 (ao ↥0 (ao (w2 ↥1 ⇑0 aw) (ao ↥3 ak))))) (aH (cT (w2 ↥4 (wC .none) (bJ ah))) (ar (az 5 (w2 (w2 (w2 ↥1 ⇑0 aw) ↥3 aw) ⇑2 aw)) (aH (cC (cT (w2 (w2 ↥4 ⇑0 aw) (aC (ao (wC (.str "take")) (ao (wC (.str "read")) ak))) (hZ ah))) (cT (w2 (aB px (ao ↥4 (ao (w2 ↥1 ⇑1 aw) (ao ↥5 ak)))) (wC .none) (bJ ah)))) (bh 2 ↥3) aF)) aF))) (bO 2 (av (w2 ↥2 (aV (aN (ao (wB aI (ao ↥0 ak)) ak))) fG)))))
abbrev FF:aE:=(ar (d7 ↥1 (dF 2 (bE (aG 3) (bE (aG 4) cZ)))) (ar (aH (cT (w2 ↥2 (wB aI (ao ↥0 ak)) bj)) (av (aC (ao ↥3 (ao (wB eT (ao (aV (bG [af,af] (cn ↥4) (dF 2 (bE (aG 0) (bE (aG 1) cZ))) (cT (w2 ↥1 ⇑1 di)) (aC (ao ↥0 (ao (gq (cT (w2 ↥1 (wC .none) (bJ ai))) ↥1 (w2 ↥1 ⇑1 (bN λi j=>.int (i-j)))) ak))))) ak)) ak)))) aF) (ar (d7 (w2 ↥3 ↥2 aw) (dF 3 (bE (aG 5) (bE (aG 6) (bE (aG 7) cZ))))) (ar (az 8 (w2 (w2 (w2 (w2 ↥0 ↥2 aw) ↥5 aw) ⇑1 aw) ↥6 aw)) (ar (az 9 (wC .none)) (ar (aH (cT (w2 (w2 ↥8 ⇑0 aw) (wC (.str "lay")) bj)) (az 4 (w2 ↥4 (aC (ao (aC (ao (aB t8 (ao (w2 ↥8 ⇑1 aw) (ao ↥7 ak))) (ao (w2 ↥8 ⇑2 aw) ak))) ak)) d3)) (aH (cT (w2 (w2 ↥8 ⇑0 aw) (wC (.str "go")) bj)) (az 9 (w2 ↥8 ⇑1 aw)) (aH (cT (w2 (w2 ↥8 ⇑0 aw) (wC (.str "same")) bj)) (ar (d7 (aV (bG [af,ae 7] (cn (cx ↥8 (b8 ⇑1) (b8 ⇑3))) (aG 0) aR (gq (cT (w2 (w2 ↥0 ⇑0 aw) (wC (.str "is")) bj)) (w2 ↥0 ⇑1 aw) (w2 (lL ↥1) (w2 ↥0 ⇑1 aw) gp)))) (qo 2 (bE (aG 10) (bE (aG 11) cZ)))) (az 9 (gq (cT (w2 ↥10 ↥11 bj)) (wC .none) (w2 ↥8 ⇑3 aw)))) (ar (az 12 (aB px (ao ↥8 (ao ↥4 (ao ↥7 ak))))) (aH (cT (w2 ↥12 (wC .none) (bJ ai))) (az 9 (w2 ↥8 ⇑2 aw)) (ar (az 7 (w2 ↥12 ⇑1 aw)) (aH (cT (w2 (w2 ↥8 ⇑0 aw) (wC (.str "take")) bj)) (az 4 (w2 (cx ↥4 cb (b8 (w2 ↥12 ⇑0 aw))) (cx ↥4 (b8 (w2 (w2 ↥12 ⇑0 aw) ⇑1 (bN λi j=>.int (i+j)))) cb) d3)) aF))))))) (ar (az 13 (aC (ao ↥5 (ao (w2 ↥6 ⇑1 (bN λi j=>.int (i+j))) (ao ↥7 ak))))) (ar (aH (cT (w2 ↥9 (wC .none) (bJ ah))) (ar (az 14 (w2 (w2 (w2 ↥0 ↥2 aw) ↥9 aw) ⇑0 aw)) (az 13 (aC (ao ↥9 (ao ⇑0 (ao (wB eT (ao (aV (bG [af,ae 14] (cn ↥7) (aG 0) (cT (w2 (w2 ↥0 ⇑0 aw) ↥1 (hZ ai))) ↥0)) ak)) ak)))))) aF) (av (aC (ao (w2 (w2 (cx ↥3 cb (b8 ↥2)) (aC (ao ↥13 ak)) d3) (cx ↥3 (b8 (w2 ↥2 ⇑1 (bN λi j=>.int (i+j)))) cb) d3) (ao ↥4 ak))))))))))))
abbrev Nr:aE:=(ar (sU 3 ↥1 ⇑0) (ar (bu 4 (aN (ao ↥1 ak))) (ar (az 5 ⇑0) (ar (uc (cT (w2 ↥5 (wB dD (ao (bY 4) ak)) fm)) (ar (aZ (eu (aB g9 (ao ↥0 (ao (w2 (bY 4) ↥5 a9) ak)))) (aG 6) (ar (az 7 (aB gR (ao ↥0 (ao (w2 (bY 4) ↥5 a9) (ao ↥6 ak))))) (aH (cT (w2 ↥7 (dB 3) (dR ah))) (ar (aH (cT (w2 (wB dD (ao (bY 4) ak)) ↥2 a8)) (av (wC .none)) aF) (ar (mF 3 ↥7 (w2 (w2 (dB 3) (w2 (bY 4) ↥5 a9) qa) ⇑1 (bN λi j=>.int (i+j)))) (bh 4 ↥7))) aF))) (az 5 (w2 ↥5 ⇑1 (bN λi j=>.int (i+j)))))) (qc 3)))))
abbrev Tt:aE:=(ar (az 1 (aV (aN (ao (wC .none) (ao (wC (.bool ah)) (ao (wC (.bool ai)) (ao (dJ ⇑1) (ao ⇑0 (ao ⇑1 (ao ⇑2 (ao ⇑9 (ao ⇑10 (ao ⇑20 (ao ⇑21 (ao ⇑99 (ao ⇑100 (ao (w2 ⇑10 ⇑20 (gI jM λi j=>.int (i ^ j.toNat))) (ao (wC (.str "")) (ao (wC (.str "a")) (ao (wC (.str "abcde")) (ao (wC (.str "abcdefghi")) (ao (wC (.str "A")) (ao (wC (.str "a1")) ak))))))))))))))))))))))) (ar (az 1 (w2 ↥1 (aV (aN (ao (wC (.str "all")) (ao (wC (.str "as")) (ao (wC (.str "bind")) (ao (wC (.str "any")) (ao (aC ak) (ao (aV (aN ak)) (ao (aC (ao ⇑1 ak)) (ao (aC (ao (wC (.str "any")) ak)) (ao (aC (ao (wC (.str "a")) ak)) (ao (aC (ao (aC (ao (wC (.str "a")) ak)) (ao (wC .none) ak))) ak)))))))))))) fG)) (av (w2 ↥1 (aB bQ (ao ↥0 (ao (wB aI (ao ↥1 ak)) ak))) aw))))
abbrev II(Sf:bb):aE:=(ar (aH (bW (cT (aO "tuple" ↥1)) (bW (cT (w2 (wB aI (ao ↥1 ak)) ⇑0 hX)) (cT (w2 (aB bQ (ao ↥0 (ao ⇑5 ak))) ⇑0 hX)))) (ar (az 2 (aB bQ (ao ↥0 (ao (wB aI (ao ↥1 ak)) ak)))) (av (w2 (w2 (cx ↥1 cb (b8 ↥2)) (aC (ao (aB Sf (ao ↥0 (ao (w2 ↥1 ↥2 aw) ak))) ak)) d3) (cx ↥1 (b8 (w2 ↥2 ⇑1 (bN λi j=>.int (i+j)))) cb) d3))) aF) (ar (az 3 (aB bQ (ao ↥0 (ao ⇑6 ak)))) (ar (aH (bW (cT (aO "tuple" ↥1)) (cT (w2 ↥3 ⇑0 hX))) (av (w2 (aV (aN (ao (wB lN (ao ↥1 ak)) (ao (cx ↥1 cb (b8 (dJ ⇑1))) (ao (w2 ↥1 (cx ↥1 (b8 (dJ ⇑1)) cb) d3) (ao (w2 ↥1 (aC (ao (aB lr (ao ↥0 ak)) ak)) d3) (ao (jJ ↥1) ak))))))) (w2 ↥3 ⇑1 (bN λi j=>.int (i-j))) aw)) aF) (ar (aH (bW (cT (aO "int" ↥1)) (bW (aM (cT (aO "bool" ↥1))) (cT (w2 ↥3 ⇑3 fm)))) (av (w2 (aV (aN (ao (w2 ↥1 ⇑1 (bN λi j=>.int (i+j))) (ao (w2 ↥1 ⇑1 (bN λi j=>.int (i-j))) (ao (w2 ↥1 ⇑0 hX) ak))))) ↥3 aw)) aF) (av (aB lr (ao ↥0 ak)))))))
abbrev V2:aE:=(ar (az 2 (wC (.str "abcdefghijklmnopqrstuvwxyz"))) (av (bc (aO "str" ↥0) (bc (fi dH dH ⇑1 (wB aI (ao ↥0 ak)) ↥1) (wB bL (ao (aV (bG [af,ae 2] (qO ↥0) (aG 0) aR (w2 ↥0 ↥1 (kZ ai)))) ak))))))
abbrev S7:aE:=(av (bc (aO "int" ↥0) (bc (ij (aO "bool" ↥0)) (fi dH dH ↥1 ↥0 ↥2))))
abbrev VH:aE:=(ar (aH (cC (aM (cT (aO "tuple" ↥0))) (aM (cT (fi dH dH ⇑1 (wB aI (ao ↥0 ak)) ⇑4)))) (av (wC (.bool ai))) aF) (av (wB bL (ao (aV (bG [af] (cn ↥0) (aG 0) aR (ji (aB sM (ao ↥0 (ao ⇑8 ak))) (aB jE (ao ↥0 (ao ⇑0 (ao ⇑99 ak))))))) ak))))
abbrev Hu:aE:=(ar (aH (cC (aM (cT (aO "tuple" ↥1))) (cC (cT (w2 (wB aI (ao ↥1 ak)) ⇑3 di)) (aM (cT (aB jE (ao (w2 ↥1 ⇑0 aw) (ao ⇑0 (ao (w2 (wB aI (ao ↥0 ak)) ⇑1 (bN λi j=>.int (i-j))) ak)))))))) (av (wC (.bool ai))) aF) (ar (aH (cC (aM (cT (aB jE (ao (w2 ↥1 ⇑1 aw) (ao ⇑0 (ao (wB aI (ao (w2 (w2 ↥0 (w2 ↥1 ⇑0 aw) aw) ⇑1 aw) ak)) ak)))))) (aM (cT (aO "tuple" (w2 ↥1 ⇑2 aw))))) (av (wC (.bool ai))) aF) (ar (aH (aM (cT (wB bL (ao (aV (bG [af] (cn (w2 ↥1 ⇑2 aw)) (aG 0) aR (bc (aO "tuple" ↥0) (bc (w2 (wB aI (ao ↥0 ak)) ⇑2 bj) (aB jx (ao (cx ↥0 (b8 ⇑1) cb) ak)))))) ak)))) (av (wC (.bool ai))) aF) (av (w2 (aV (bG [af] (cn (w2 ↥1 ⇑2 aw)) (aG 0) aR (w2 ↥0 ⇑0 aw))) (aB rh (ao ↥0 (ao (w2 ↥1 ⇑0 aw) (ao (w2 ↥1 ⇑1 aw) ak)))) (ni λd e=>ae (Bz d e)))))))
abbrev M8:aE:=(ar (aH (cC (aM (cT (aO "tuple" ↥1))) (cT (w2 (wB aI (ao ↥1 ak)) (wB aI (ao ↥0 ak)) di))) (av (wC (.bool ai))) aF) (av (wB bL (ao (aV (bG [af,af] (ic ↥0 ↥1) (dF 2 (bE (aG 0) (bE (aG 1) cZ))) aR (aB wO (ao ↥0 (ao ↥1 ak))))) ak))))
abbrev TC:aE:=(ar (aH (cC (aM (cT (aO "tuple" ↥1))) (cC (cT (w2 (wB aI (ao ↥1 ak)) ⇑2 di)) (aM (cT (aB rf (ao ↥0 (ao (w2 ↥1 ⇑0 aw) ak))))))) (av (wC (.bool ai))) aF) (ar (aH (aM (cT (aO "tuple" (w2 ↥1 ⇑1 aw)))) (av (wC (.bool ai))) aF) (ar (aZ (cn (w2 ↥1 ⇑1 aw)) (aG 2) (ar (aH (cC (aM (cT (aO "tuple" ↥2))) (cC (cT (w2 (wB aI (ao ↥2 ak)) ⇑2 di)) (aM (cT (aB jx (ao (w2 ↥2 ⇑0 aw) ak)))))) (av (wC (.bool ai))) aF) (aH (bW (cT (w2 (w2 ↥2 ⇑1 aw) (wC .none) (bJ ah))) (aM (cT (aB jE (ao (w2 ↥2 ⇑1 aw) (ao ⇑1 (ao ⇑20 ak))))))) (av (wC (.bool ai))) aF))) (av (wC (.bool ah))))))
abbrev My:aE:=(ar (aH (cC (aM (cT (aO "list" ↥2))) (aM (cT (wB bL (ao (aV (bG [af,ae 0] (eu ↥2) (aG 0) aR (aB pW (ao ↥1 (ao ↥0 ak))))) ak))))) (av (wC (.bool ai))) aF) (ar (yc 4) (ar (aZ (eu ↥2) (aG 3) (mF 4 ↥3 (wC (.bool ah)))) (ar (aH (cT (w2 ↥1 (dB 4) (dR ah))) (av (wC (.bool ai))) aF) (gD 4 (ar (aZ (xk (dB 4)) (aG 3) (aZ (eu (aB g9 (ao ↥0 (ao ↥3 ak)))) (aG 5) (aH (cT (w2 (aB gR (ao ↥0 (ao ↥3 (ao ↥5 ak)))) (dB 4) (dR ah))) (av (wC (.bool ai))) aF))) (av (wC (.bool ah)))))))))
abbrev OE:aE:=(ar (nE 3 (l8 g9 gR) (ao ↥1 (ao (aB pC (ao ↥0 (ao ↥1 (ao ⇑2 ak)))) (ao ↥2 ak)))) (ar (bu 4 (my (cT (w2 (dB 3) (wC .none) (kJ ai))) (aN ak) (t4 (dB 3)))) (ar (aH (bW (cT (w2 (wB dD (ao (bY 4) ak)) ⇑0 hX)) (cT (w2 (aB bQ (ao ↥0 (ao ⇑3 ak))) ⇑0 a8))) (kg 4 (aB bQ (ao ↥0 (ao (wB dD (ao (bY 4) ak)) ak)))) aF) (lX 4))))
abbrev CS:aE:=(ar (az 3 (aB bQ (ao ↥0 (ao ⇑8 ak)))) (ar (bu 4 (my (cT (w2 (aB bQ (ao ↥0 (ao ⇑2 ak))) ⇑0 a8)) (jz ↥2) (wD ↥2))) (ar (az 5 (aB bQ (ao ↥0 (ao (wB dD (ao (bY 4) ak)) ak)))) (ar (aH (cT (w2 ↥3 ⇑1 a8)) (bu 4 (f5 (bY 4) (sx (bY 4) cb (b8 (w2 ↥5 ⇑1 (bN λi j=>.int (i+j))))))) (aH (cT (w2 ↥3 ⇑2 a8)) (kg 4 ↥5) (aH (cC (cT (w2 ↥3 ⇑3 a8)) (cT (w2 ↥3 ⇑4 a8))) (ko 4 ↥5 (w2 (w2 ↥5 ⇑4 (bN λi j=>.int (i+j))) ↥3 (bN λi j=>.int (i-j))) (aN (ao (aB (kQ 20) (ao ↥0 (ao (w2 (bY 4) ↥5 a9) ak))) ak))) (aH (cC (cT (w2 ↥3 ⇑5 a8)) (cT (w2 ↥3 ⇑6 a8))) (bu 4 (f5 (aV (lD su (ao ↥0 (ao ↥1 (ao ⇑20 ak))))) (bY 4))) (aH (cT (w2 ↥3 ⇑7 a8)) (bO 4 (av (w2 (aV (aN (ao (wB fV (ao ↥4 ak)) (ao (aV (aN ak)) (ao (wC .none) (ao (aC (ao ↥4 ak)) (ao (aV (aN (ao ↥4 ak))) ak))))))) (aB bQ (ao ↥0 (ao ⇑5 ak))) a9))) aF))))) (bO 4 (av ↥4))))))
abbrev Qw:aE:=(ar (d7 (aB vi (ao ↥1 ak)) (dF 2 (bE (aG 2) (bE (aG 3) cZ)))) (ar (nE 4 (l8 g9 gR) (ao ↥2 (ao ↥3 (ao ⇑30 ak)))) (sO 4 (ar (aH (cT (w2 (dB 4) (wC .none) (kJ ai))) (av (wC (.bool ah))) aF) (ar (az 5 (aV (t4 (dB 4)))) (ar (aZ (eR ⇑4) (aG 6) (ar (az 7 (aB w4 (ao ↥1 (ao ↥2 (ao ↥5 ak))))) (ar (az 8 (w2 (aV (aN (ao ↥3 (ao (w2 ↥5 (aB bQ (ao ↥1 (ao (wB aI (ao ↥5 ak)) ak))) aw) ak)))) (wB jP (ao (w2 (aB bQ (ao ↥1 (ao ⇑4 ak))) ⇑0 bj) ak)) aw)) (ar (az 9 (gq (cT (aO "list" ↥7)) (wB lN (ao ↥7 ak)) ↥7)) (ar (az 10 (aB p6 (ao ↥2 (ao ↥8 (ao ↥9 ak))))) (aH (cC (cT (w2 (wB ml (ao ↥10 ak)) (wB ml (ao (aB qD (ao ↥2 (ao ↥8 (ao ↥7 ak)))) ak)) di)) (cT (w2 ↥9 ↥7 (ni λd e=>ae (!Bz d e))))) (av (wC (.bool ai))) aF)))))) (av (wC (.bool ah)))))))))
theorem JR:bK jn LV ["field","value","having","bound","head"]:=λws n Q h=>by
 obtain⟨f,v,l,m,rfl,g,c,p,o,k⟩:=h;cases f with
 |is w=>
  show(match fH w v with|some r=>Q _ n|none=>False);rw[l4 (g) c];exact k
 |any=>exact k
 |word=>
  cases v<;>exact k
 |number=>
  show Q _ n;cases v<;>first|cases c|exact k
 |as x=>
  show gJ _ (match b9 _ (.inr x)with|some d=>(match fH d v with|some r=>Q _ n|none=>False)|none=>False) (Q _ n);rw[jh];unfold gP at k;cases e:look l x with
  |none=>
   simp only[e]at k;exact k
  |some w=>
   simp only[e]at k;show(match fH w v with|some r=>Q _ n|none=>False);rw[l4 (p _ (km e)).2 c];exact k
 |bind x=>
  show gJ _ (Q _ n) (match b9 _ (.inr x)with|some d=>(match fH d v with|some r=>Q _ n|none=>False)|none=>False);rw[jh];unfold gP at k;cases e:look m x with
  |none=>
   simp only[e]at k;exact k
  |some w=>
   simp only[e]at k;show(match fH w v with|some r=>Q _ n|none=>False);rw[l4 (o _ (km e)).2 c];exact k
theorem HU[Decidable p]{A B:Prop}(h1:p->A)(h2:¬p->B):if decide p=ah then A else B:=by
 by_cases z:p
 ·rw[a' (b_ z)];exact h1 z
 ·rw[a_ (by rw[c_ z];simp)];exact h2 z
theorem ux:∀ps:Nm,lz (ps.map iV)=ae (cg ps)
 |[]=>rfl
 |p::r=>by
  show(lz _).map _=_;rw[ux r];rfl
theorem Uw(h:x∉l.map (·.1)):put l x v=l++[(x,v)]:=by
 unfold put;rw[a_ λz=>by
  obtain⟨p,a,e⟩:=Ee.mp z;exact h (A6.mpr ⟨p,a,d_ e⟩)]
theorem tT:∀(r l:Nm),((l++r).map (·.1)).Nodup->qe (cg l) (cg r)=cg (l++r)
 |[],l,_=>by rw[Bk];rfl
 |p::r,l,a=>by
  have e:l++p::r=(l++[p])++r:=by simp
  show qe (gf _ _ p.2) _=_;rw[qu,Uw,e]
  ·exact tT r _ (by rw[<-e];omega)
  ·intro z;rw[Bf,List.nodup_append]at a;exact a.2.2 _ z _ Am rfl
theorem sq(e:δ[j]?=ae (↑(dh ps)))(ok:okN ps)(k:K.nx (δ.set i (ae (.odk (cg ps)))) n):jT i (ju (aj j)) δ n K:=by
 unfold jT ju;refine au e ?_;unfold dh;simp only[ux];refine⟨by rw[Ad];have:=ok.1;omega,?_⟩;have:=tT ps [] (ok.2.1);rw[show([]:List _)=cg []from rfl,this];exact k
section
variable{δ:Sl}{n:Int}{K:DEnds}{W V:aE}{Q:DQ}
theorem Rq(k:Q (.d (.bool (!decide (i=j)))) n):di (.d (.int i)) (.d (.int j)) n Q:=k
theorem zC(e0:δ[0]?=ae (↑(.tuple xs)))(e1:δ[1]?=ae (↑(.tuple ys)))(hT:xs.length≠ys.length->W δ n K)(hF:xs.length=ys.length->V δ n K):
  aH (cT (w2 (wB aI (ao ↥0 ak)) (wB aI (ao ↥1 ak)) di)) W V δ n K:=by
 refine au e0 (au e1 ?_);dsimp only[aI];refine Rq (iM (λh=>hT λz=>?_) λh=>hF ?_)
 ·rw[z,b_ rfl]at h;cases h
 ·by_cases z:(xs.length:Int)=(ys.length:Int)
  ·exact Int.ofNat.inj z
  ·rw[c_ z]at h;cases h
theorem ND(e5:δ[5]?=ae (↑g.d))(e6:δ[6]?=ae (↑v))(e3:δ[3]?=ae (ae (.odk (cg hp))))(e4:δ[4]?=ae (ae (.odk (cg bp))))(gok:g.ok)(hv:ck v=ah)(hh:∀p∈hp,fj p)(hb:∀p∈bp,fj p)
  (hT:gP g v hp bp=ai->W δ n K) (hF:gP g v hp bp=ah->V δ n K):aH (aM (cT (aB jn (ao ↥5 (ao ↥6 (ao (dZ 3) (ao (dZ 4) ak))))))) W V δ n K:=by
 unfold aH aM cT aB ao ak;refine au e5 (au e6 ?_);unfold dZ;simp only[e3,e4];refine⟨g,v,hp,bp,rfl,gok,hv,hh,hb,iM (λh=>hT ?_) λh=>hF ?_⟩
 ·cases q:gP g v hp bp with|false=>rfl|true=>rw[q]at h;cases h
 ·cases q:gP g v hp bp with|true=>rfl|false=>rw[q]at h;cases h
variable{xs:List Ab}{j:Nat}{a b v:Ab}{r:List Ab}
end
def pJ(gs:List Fd)(vs:List Ab)(hp:Nm)(hs:List Str)(r:Ab):Prop:=match wk (gs.zip vs) hp hs with
 |none=>r=.none
 |some h=>r=dh (b7 h)
theorem Tb(h1:∀x,x∈hs↔(look bp x).isSome=ah)(h2:∀x w,look bp x=ae w->look hp x=ae w)(h:gP g v hp bp=ai):pJ (g::gs) (v::vs) hp hs .none:=by
 have c:wk ((g,v)::gs.zip vs) hp hs=af:=by
  cases g with
  |is w=>unfold wk;rw[a_ (by rw[show fP w v=ai from h];simp)]
  |any=>cases h
  |word=>unfold wk;rw[a_ (by rw[show jq v=ai from h];simp)]
  |number=>unfold wk;rw[a_ (by rw[show jl v=ai from h];simp)]
  |as x=>
   unfold wk;unfold gP at h;cases q:look hp x with
   |none=>rfl
   |some w=>
    simp only[q]at h;simp only[h,E9,if_false]
  |bind x=>
   unfold wk;unfold gP at h;cases q:look bp x with
   |none=>simp only[q]at h;cases h
   |some w=>
    simp_all
 unfold pJ;rw[E7,c]
theorem PD(ng:∀x,g≠.bind x)(h:gP g v hp bp=ah):wk ((g,v)::l) hp hs=wk l hp hs:=by
 cases g with
 |is w=>rw[wk,a' (by assumption)]
 |any=>rw[wk]
 |word=>rw[wk,a' (by assumption)]
 |number=>rw[wk,a' (by assumption)]
 |as x=>
  rw[wk];unfold gP at h;cases q:look hp x with
  |none=>simp only[q]at h;cases h
  |some w=>
   simp only[q]at h;simp only[h,if_true]
 |bind x=>exact f_ rfl (ng x)
theorem ky(x):∀hs:List Str,cW (.str x) (hs.map .str)=decide (x∈hs)
 |[]=>by rfl
 |y::r=>by
  show(qH _ _ || cW _ _)=_;rw[ky x r];have e:qH (.str y) (.str x)=decide (x=y):=by
   by_cases z:x=y
   ·subst z;rfl
   ·rw[c_ z];exact beq_eq_false_iff_ne.mpr λw=>z w.symm
  rw[e];by_cases z:x=y
  ·subst z;simp
  ·rw[c_ z,Bool.false_or];by_cases q:x∈r
   ·rw[b_ q,b_ (Ak _ q)]
   ·rw[c_ q,c_ (by simp[z,q])]
theorem xl(nd:(hp.map (·.1)).Nodup)(h:p∈hp):look hp p.1=ae p.2:=by
 cases q:look hp p.1 with
 |none=>
  have a:=qw hp p.1;rw[q]at a;have b:(hp.any λq=>decide (q.1=p.1))=ah:=Ee.mpr ⟨p,h,b_ rfl⟩;rw[b]at a;cases a
 |some v=>
  obtain⟨i,c⟩:=B6.mp h;obtain⟨j,d⟩:=B6.mp (km q);have k:(hp.map (·.1))[i]?=ae p.1:=(Ap)▸c▸rfl;have g:(hp.map (·.1))[j]?=ae p.1:=(Ap)▸d▸rfl;obtain⟨m,e⟩:=Aw.mp k;obtain⟨l,f⟩:=Aw.mp g;have:=(Fw nd).mp (e.trans f.symm);rw[this,d]at c;have:=B2 c;rw[<-this]
theorem NT(k:K.nx (δ.set i (ae (.odk (cg [])))) n):jT i kO δ n K:=k
theorem EU(e0:δ[0]?=ae (↑(.tuple xs)))(e1:δ[1]?=ae (↑(.tuple ys)))(hl:xs.length=ys.length)(k:ec g W K (cJ xs ys) δ n):aZ (ic ↥0 ↥1) g W δ n K:=by
 unfold aZ ic;exact au e0 (au e1 ⟨hl,k⟩)
theorem Jl:bK nX QQ ["pattern","row","names","having","bound","field","value"]:=λws n Q h=>by
 obtain⟨T,row,S,rfl,C,X,A,k0⟩:=h;have k:∀r,mV T row S r->Q _ n:=λr s=>by rw[Pt s];omega
 refine ax (zC rfl rfl (λne=>?_) λel=>?_)
 ·show Q _ n;refine k .none ?_;unfold mV;rw[Ad]at ne;rw[a_ ne]
 ·rw[Ad]at el;dsimp only[aF];refine ax (sq rfl A ?_);dsimp only[Ay];refine ax (NT ?_);dsimp only[Ay];refine ax (EU rfl rfl (by rw[Ad];omega) ?_);refine eC (λds δ m=>m=n/\∃(a:List Fd)(c:List Ab)(f j:Nm)(B:List Str)(y z:Option SV),ds=cJ (a.map Fd.d) c/\a.length=c.length/\δ=[↑(gX T),↑(.tuple row),↑(dh S),ae (.odk (cg f)),ae (.odk (cg j)),y,z] /\
   (∀g∈a,g.ok)/\(∀d∈c,ck d=ah)/\(f.map (·.1)).Nodup/\(∀p∈f,fj p)/\(∀p∈j,fj p)/\f.length+a.length<=48/\j.length+a.length<=48/\(∀x,x∈B↔(look j x).isSome=ah)/\(∀x w,look j x=ae w->look f x=ae w)/\∀r,pJ a c f B r->Q (.d r) n) ?_ ?_ _ _ _ ?_
  ·rintro δ m ⟨rfl,a,c,f,j,B,y,z,e,O,rfl,u,t,D,b,o,W,l2,G,E,K⟩
   have:a=[]:=by
    cases a with
    |nil=>rfl
    |cons g a=>cases c with|nil=>cases O|cons v c=>cases e
   subst this;rw[List.length_nil]at W;exact⟨f,rfl,by omega,D,λp H=>⟨A5 (b p H).1.1 ∎,JA (b p H).2⟩,λps' p1 r1=>K _ (by rw[yO D p1 r1];rfl)⟩
  ·rintro d r δ m N ⟨rfl,a,c,f,j,B,y,z,e,O,rfl,u,t,D,b,o,W,l2,G,E,K⟩ Z
   cases a with
   |nil=>cases e
   |cons g a=>
    cases c with
    |nil=>cases O
    |cons v c=>
     have e1:=by have:=congrArg (λl=>l.head?) e;simpa[cJ]using this
     have e2:r=cJ (a.map Fd.d) c:=by have:=congrArg List.tail e;assumption
     subst e1 e2;rw[Ax]at W l2;rw[Ax,Ax]at O;have R:=u g Am;have P:=t v Am;refine⟨rfl,?_⟩;dsimp only[bE,cZ];refine ax (ND rfl rfl rfl rfl R P b o (λff=>?_) λff=>?_)
     ·exact K .none (Tb G E ff)
     ·dsimp only[aF];have I:(∀x,g≠.bind x)->N [ae _,ae _,ae _,ae _,ae _,↑g.d,↑v] m:=λng=>by
       refine Z _ _ ⟨rfl,a,c,f,j,B,_,_,rfl,by omega,rfl,λg V=>u g (Ak _ V),λd U=>t d (Ak _ U),D,b,o,by omega,by omega,G,E,λr s=>K r ?_⟩;unfold pJ at s ⊢;rw[E7,PD ng ff];omega
      cases g with
      |is w=>exact I λx z=>nomatch z
      |any=>exact I λx z=>nomatch z
      |word=>exact I λx z=>nomatch z
      |number=>exact I λx z=>nomatch z
      |as x=>exact I λx z=>nomatch z
      |bind x=>
       refine lT rfl CL ?_;show(cg j).length < 1000/\(cg f).length < 1000/\N [ae _,ae _,ae _,ae _,ae _,ae _,ae _] m;rw[qu,qu];refine⟨by unfold cg;rw[Ad];omega,by unfold cg;rw[Ad];omega,?_⟩;have p1:=sk f x v;have p2:=sk j x v;refine Z _ _ ⟨rfl,a,c,_,_,if x∈B then B else B++[x],_,_,rfl,by omega,rfl,λg V=>u g (Ak _ V),λd U=>t d (Ak _ U),vQ D,oH b R P,oH o R P,by omega,by omega,λy=>?_,λy w Y=>?_,λr s=>K r ?_⟩
       ·by_cases q:y=x
        ·subst q;rw[BE];refine⟨λ_=>rfl,λ_=>?_⟩
         split
         ·assumption
         ·exact Bw _ (A4.mpr rfl)
        ·rw[z6 q,<-G]
         split
         ·exact Iff.rfl
         ·simp[q]
       ·by_cases q:y=x
        ·subst q;rw[BE]at Y ⊢;omega
        ·rw[z6 q]at Y ⊢;exact E y w Y
       ·unfold pJ at s ⊢;rw[E7,wk];by_cases q:x∈B
        ·rw[a' q]at s ⊢;cases M:look j x with
         |none=>rw[G,M]at q;cases q
         |some w=>
          have lh:=E x w M;unfold gP at ff;simp only[M]at ff;have wv:=Om (o _ (km M)).2 P ff;subst wv;rw[MB D lh]at s;simp only[lh,ff,if_true];omega
        ·rw[a_ q]at s ⊢;omega
  ·refine⟨rfl,T,row,S,[],[],_,_,rfl,el,rfl,C.2.2,X.2,A.2.1,A.2.2,λ_ z=>f_ z A3,by have:=C.2.1;have:=A.1;omega,by have:=C.2.1;simp;omega,λx=>⟨λz=>f_ z A3,λz=>by cases z⟩,λx w z=>(nomatch z),λr s=>k r ?_⟩;unfold mV;rw[a' el];trivial
abbrev Zf:List Str:=["_law_tape_here"]
theorem Nc:bK iS MS Zf:=λws n Q h=>by
 obtain⟨rfl,f,k⟩:=h;refine aW (aq (aY (Al ∎ (gA rfl ⋯ ∎ ∎ λr c e=>jy c e λd b=>k d ?_))));simp only[Ao,A3,g_]at b;rcases b with rfl|rfl|rfl|rfl|rfl|rfl|rfl|rfl<;>simp[qC]
theorem Pr:bK lY VN Zf:=λws n Q h=>by
 obtain⟨rfl,e,k⟩:=h;refine aW (aq (aY (Al ∎ ?_)));dsimp only;refine gA rfl ⋯ ∎ ∎ λr b c=>jy b c λd a=>?_;simp only[Ao,A3,g_]at a;rcases a with rfl|rfl|rfl|rfl|rfl|rfl|rfl
 ·exact k 1 ∎ ∎
 ·exact k 2 ∎ ∎
 ·exact k 2 ∎ ∎
 ·exact k 2 ∎ ∎
 ·exact k 1 ∎ ∎
 ·exact k 3 ∎ ∎
 ·exact k 4 ∎ ∎
theorem zk(e:δ[0]?=ae (ae (.w .tp)))(hn:n < 2 ^ 39)(k:∀m:Nat,1<=m->m<=4->ec g W K (cw 0 m) δ (n+1)):aZ (eR (aB lY (ao ↥0 ak))) g W δ n K:=by
 refine cI (au e (Al rfl ⟨hn,λm b a=>Al ⟨by omega,by omega⟩ ?_⟩));exact k m b a
theorem wm{rest:Sl}(g)(hno:∀(f:Fe) (n:Int) (Q':Bool->Int->Prop),g f=af->Q' ai n->c (↑f.d::rest) n Q')
  (hyes:∀(f:Fe)(n:Int)(Q':Bool->Int->Prop)(y:Ab),g f=ae y->Q' ah n->c (↑f.d::rest) n Q') (hw:∀(f:Fe)(n:Int)(Q':DQ)(y:Ab),g f=ae y->Q' (.d y) n->w (↑f.d::rest) n Q'):
  ∀(fs:List Fe)(i':List Ab)(x:Option SV)(n:Int),Q (i'++fs.filterMap g) n->c6 (aG 0) c w Q (fs.map Fe.d) i' (x::rest) n
 |[],i',x,n,q=>by
  rw[List.filterMap_nil,Bk]at q;exact q
 |f::r,i',x,n,q=>by
  rw[Ba];cases e:g f with
  |none=>
   refine hno f n _ e (wm g hno hyes hw r i' _ n ?_);simp_all
  |some y=>
   refine hyes f n _ y e (hw f n _ y e ?_);refine wm g hno hyes hw r _ _ n ?_;rw[List.filterMap_cons_some e]at q;simp<;>omega
def jA(o:Option Str):Option Ab:=o.map .str
theorem OW(g)(fs:List Fe):fs.filterMap (λf=>jA (g f))=(fs.filterMap g).map .str:=List.map_filterMap▸rfl
theorem T9(f:Fe):c4 "bind" (.str f.hd)=f.bd.isSome:=by
 cases f with
 |any=>exact(by rfl)
 |word=>exact(by rfl)
 |num=>exact(by rfl)
 |isv _=>exact(by rfl)
 |bind _=>exact(by rfl)
 |as _=>exact(by rfl)
 |nx _=>exact(by rfl)
theorem HY{f:Fe}(h:f.bd=ae k):f.d=.tuple [.str f.hd,.str k]:=by
 cases f<;>cases h;rfl
theorem EF(h:jA o=ae y):∃k,o=ae k/\y=.str k:=by
 cases o with
 |none=>cases h
 |some k=>cases h;exact⟨k,rfl,rfl⟩
theorem Mp(h:jA o=af):o=af:=by
 cases o with
 |none=>rfl
 |some k=>cases h
theorem nB(h:d8 fs):∀k∈bA fs,eQ k:=λk b=>by
 obtain⟨f,a,e⟩:=G5.mp b;have:=h.2 f a;cases f<;>cases e;trivial
theorem mK(h:d8 fs):(bA fs).length<=4:=A5 (List.length_filterMap_le _ _) h.1
theorem Mk(e:δ[0]?=ae (↑(.tuple [a,b])))(k:Q (.d b) n):w2 ↥0 (wC (.int 1)) aw δ n Q:=cq e k
theorem yY{f:Fe}{rest:Sl}(k:Q' f.bd.isSome n):cT (w2 (w2 ↥0 (wC (.int 0)) aw) (wC (.str "bind")) bj) (↑f.d::rest) n Q':=by
 refine fw rfl ?_;rw[T9];exact k
theorem zg(fs:List Fe)(n)(k:Q ((bA fs).map .str) n):
  c6 (aG 0) (cT (w2 (w2 ↥0 (wC (.int 0)) aw) (wC (.str "bind")) bj)) (w2 ↥0 (wC (.int 1)) aw) Q (fs.map Fe.d) [] [af] n:=by
 refine wm (λf=>jA f.bd) (λf n a e q=>yY ?_) (λf n a y e q=>yY ?_) (λf n a y e q=>?_) fs [] af n ?_
 ·rw[Mp e];exact q
 ·obtain⟨x,_⟩:=EF e;simp_all
 ·obtain⟨x,b,rfl⟩:=EF e;exact Mk (by rw[HY b];rfl) q
 ·rw[OW];exact k
theorem qX(hw:∀Q:DQ,Q (.d (.str s)) n->w δ n Q)(e:cW (.str s) (hs.map .str)=b)(q:Q b n):cT (fK hs w) δ n Q:=hw _ (Al rfl (by simp_all))
theorem qk{a:Ac}(h:d8 a.fs):(∀k∈a.bs,eQ k)/\a.bs.length<=4:=by
 cases a with
 |take fs=>exact⟨nB h,mK h⟩
 |read fs=>exact⟨nB h,mK h⟩
 |look fs b=>exact⟨nB h,mK h⟩
 |lay fs b=>exact⟨λk c=>by simp[Ac.bs]at c,by simp[Ac.bs]⟩
 |same f g b=>exact⟨λk c=>by simp[Ac.bs]at c,by simp[Ac.bs]⟩
 |go b=>exact⟨λk c=>by simp[Ac.bs]at c,by simp[Ac.bs]⟩
theorem ma:∀{ys ks:List Str},ys.Nodup->(∀k∈ys,k∈ks)->ys.length<=ks.length
 |[],_,_,_=>Be _
 |y::ys,ks,h,b=>by
  obtain⟨f,d⟩:=D3.mp h;have a:=b y Am;have:=ma d λk c=>(List.mem_erase_of_ne (λ(e:k=y)=>f (e▸c))).mpr (b k (Ak _ c));grind
structure KnI(w:List Str)(dn:List Ac)(L:List Str):Prop where
 mem:∀k,k∈L↔k∈w++dn.flatMap Ac.bs
 len:L.length<=4+4*dn.length
 ok:∀k∈L,eQ k
theorem KnI.first(h:w.length<=4)(ok:∀k∈w,eQ k):KnI w [] w:=⟨λk=>by simp,by simpa using h,ok⟩
theorem KnI.skip(I:KnI w dn L)(e:a.bs=[]):KnI w (dn++[a]) L:=
 ⟨λk=>by rw[I.mem k];simp[e],by rw[An,Az];have:=I.len;omega,I.ok⟩
theorem KnI.more(I:KnI w dn L)(h:∀k,k∈ys↔k∈a.bs)(hl:ys.length<=4)(ok:d8 a.fs):KnI w (dn++[a]) (L++ys):=
 ⟨λk=>by rw[A1,I.mem k,h k,List.flatMap_append];simp[or_assoc],by rw[An,An,Az];have:=I.len;omega,λk b=>by
  rcases A1.mp b with z|z
  ·exact I.ok k z
  ·exact(qk ok).1 k ((h k).mp z)⟩
theorem oO(h:v∈qC):ck v=ah:=by
 simp only[qC,Ao,A3,g_]at h;rcases h with rfl|rfl|rfl|rfl|rfl|rfl<;>decide +kernel
theorem IY(hv:fE v=ae a)(hl:a.length+b.length<=As)(q:Q (.d (.list (a++b))) n):fG v (.ln b) n Q:=by
 unfold fG;rw[hv];trivial
theorem Hm(e0:δ[0]?=ae (ae (.w .tp)))(h:n < 2 ^ 39)(k:∀v∈kR,Q (.d v) (n+1)):w2 (eO 0) (aB bQ (ao ↥0 (ao (wB dD (ao (eO 0) ak)) ak))) a9 δ n Q:=by
 have a:∀n Q,Q (.ln kR) n->eO 0 δ n Q:=λn Q q=>by unfold eO;simp_all
 exact aq (a _ _ (gQ e0 (λQ q=>aT (a _ _ q)) ⋯ ∎ ∎ λr b c=>qm b c k))
theorem Ue(f:Fe)(r):bA (f::r)=f.bd.toList++bA r:=by cases f<;>rfl
theorem Kv(fs)(f:Fe):bA (fs++[f])=bA fs++f.bd.toList:=by
 unfold bA;rw[List.filterMap_append];rfl
theorem wA:∀{fs:List Fe}{ks:List Str}{f:Fe},rF ks fs->(∀k,f.us=ae k->k∈ks++bA fs)->rF ks (fs++[f])
 |[],ks,f,_,h=>⟨(by simpa[bA]using h),trivial⟩
 |g::r,ks,f,b,c=>⟨b.1,wA b.2 λk a=>by
  have:=c k a;rw[Ue,<-Bp]at this;omega⟩
theorem vh{f:Ab}{ks:List Str}(h:f∈ks.map .str):∃s∈ks,f=.str s:=by
 obtain⟨s,a,rfl⟩:=A6.mp h;exact⟨s,a,rfl⟩
def tV(kv:Wv)(ks:List Str)(n0:Int)(ds:List Ab)(δ:Sl)(n:Int):Prop:=∃(fs:List Fe)(x y z u:Option SV),δ=[ae (.w .tp),ae (.w kv),ae (.own (fs.map Fe.d)),ae (.own ((bA fs).map .str)),x,y,z,u]/\1<=fs.length+ds.length/\fs.length+ds.length<=4/\(∀f∈fs,f.ok/\f.pt=ah)/\rF ks fs/\n+2*(ds.length:Int)<=n0+9
theorem JX:bK vZ Vn ["_law_tape_here","_law_known_here","_law_fields","_law_bound","_law_k","_law_way","_law_some","_law_name"]:=λws n0 Q h=>by
 obtain⟨H,kv,rfl,hkv,hks,hok,hn0,k⟩:=h;refine ax (iY (ax (iY ?_)));dsimp only[Ay];refine ax (zk rfl ⋯ λm h1 h4=>eC (tV kv H n0) (λδ n I=>?_) (λd r δ n N I kN=>?_) _ _ _ ⟨[],_,_,_,_,rfl,by rw[fB];simpa using h1,by rw[fB];simpa using h4,λf P=>(by trivial),trivial,by rw[fB];omega⟩)
 ·obtain⟨p,x,y,z,u,rfl,J,P,D,W,hn⟩:=I;dsimp only;refine gW rfl (gW rfl ?_);exact aW (c5 (aT (au rfl (jW (au rfl (Al (show 2<=1000 by decide) (k p n ⋯ ⟨by simpa using P,λf z=>(D f z).1⟩ (λf z=>(D f z).2) W (by simp_all))))))))
 ·obtain⟨p,x,y,z,u,rfl,J,P,D,W,hn⟩:=I;rw[Ax]at J P hn;have A:(p.map Fe.d).length < 1000000:=by rw[Ad];omega
  have hbl:(bA p).length<=4:=A5 (List.length_filterMap_le _ _) ⋯;have hbo:=λs hs=>(A1.mp hs).elim (hok s) λz=>nB ⟨by omega,λf z=>(D f z).1⟩ s z;have R:∀(f:Fe) G y z u (B:List Ab),f.ok/\f.pt=ah->(∀k,f.us=ae k->k∈H++bA p)->G<=n+2->B=(bA p).map .str++f.bd.toList.map .str->N [ae _,ae _,ae (.own (p.map Fe.d++[f.d])),ae _,ae _,y,z,u] G:=λf G y z u B Y Z S hB=>
   kN _ _ ⟨_,↑d,y,z,u,by rw[hB,Bf,Kv,Bf];rfl,by rw[An,Az];omega,by rw[An,Az];omega,λg hg=>(A1.mp hg).elim (D g) λz=>by rw[A4]at z;subst z;exact Y,wA W Z,by omega⟩
  have j:∀(f:Fe) G y z u,f.bd=af->f.ok/\f.pt=ah->(∀k,f.us=ae k->k∈H++bA p)->G<=n+2->N [ae _,ae _,ae _,ae (.own ((bA p).map .str)),ae _,y,z,u] G:=λf G y z u fb Y Z S=>
   R f G y z u _ Y Z S (by rw[fb];simp)
  refine ax (nu rfl ⋯ ∎ ∎ λw w0 w1=>?_);dsimp only[Ay];refine ax (bH (λQ q=>aq (au rfl (gv rfl (IY hkv (mL (by rw[Ad];omega) (by rw[Ad];omega)) q)))) ?_);dsimp only[Ay];refine k8 rfl (λhw=>?_) (λhw=>?_)
  ·exact jk rfl (c5 (aA (cI (au rfl (Al rfl ⟨by omega,λv hv=>Al (show 2<=1000 by decide) (Al A (j (.isv v) _ _ _ _ rfl ⟨oO hv,rfl⟩ (λk C=>by cases C) ⋯))⟩)))))
  ·refine k8 rfl (λhw6=>?_) (λhw6=>?_)
   ·refine jk rfl (aq (aY (Al ∎ (Al ∎ (Al ∎ (Al ∎ (aq (au rfl (aA ?_)))))))));dsimp only[bN];refine jH ⋯ (show w-3 < 3 by omega) λf o=>?_;simp only[Ao,A3,g_]at o;rcases o with rfl|rfl|rfl
    ·exact Al A (j .any _ _ _ _ rfl ⟨trivial,rfl⟩ (λk C=>by cases C) ⋯)
    ·exact Al A (j .word _ _ _ _ rfl ⟨trivial,rfl⟩ (λk C=>by cases C) ⋯)
    ·exact Al A (j .num _ _ _ _ rfl ⟨trivial,rfl⟩ (λk C=>by cases C) ⋯)
   ·have F:∀K L,(∀δ n,N δ n->K.nx δ n)->ar (az 7 (w2 (aV (aN (ao (wC (.str "n")) (ao (wC (.str "nm")) (ao (wC (.str "go")) (ao (wC (.str "m")) ak)))))) _ a9)) (ar (bh 3 ↥7) (bh 2 (aC (ao (wC (.str "bind")) (ao ↥7 ak)))))
      [ae _,ae _,ae _,ae (.own ((bA p).map .str)),ae _,↑(.int w),↑(.list L),u] (n+1) K:=λK L hK=>by
     refine ax (aq (aY (Al ∎ (gA rfl ⋯ ∎ ∎ λr V r1=>jH V r1 λf o=>?_))));have:∃s:Str,f=.str s/\eQ s:=by
      simp only[Ao,A3,g_]at o;rcases o with rfl|rfl|rfl|rfl<;>exact⟨_,rfl,by decide +kernel,by decide +kernel⟩
     obtain⟨s,rfl,so⟩:=this;dsimp only[Ay];refine ax (kz rfl (λQ q=>au rfl q) (by rw[Ad];omega) ?_);dsimp only[Ay];exact kz rfl (λQ q=>c5 (aA (au rfl (Al (show 2<=1000 by decide) q)))) A (hK _ _ (R (.bind s) _ _ _ _ _ ⟨so,rfl⟩ (λk C=>by cases C) ⋯ rfl))
    by_cases M:w < 8
    ·refine aQ (λQ q=>pq (λQ q=>ay (λQ q=>aq (au rfl (aA ?_))) q) q) (F _ _ λ_ _ z=>z);show Q _ _;simp_all
    ·have E:∀f∈H.map D0++(bA p).map D0,∃s∈H++bA p,f=.str s:=λf P=>vh (by rw[Bf];omega);have O:(H.map D0++(bA p).map D0).length<=2000:=by rw[An,Ad,Ad];omega
     generalize(H.map D0++(bA p).map D0)=L at E O;cases L with
     |nil=>
      refine aQ (λQ q=>iN (λQ q=>ay (λQ q=>aq (au rfl (aA ?_))) q) (ay (λQ q=>aq (au rfl (aY (Al (Be _) q)))) q)) (F _ _ λ_ _ z=>z);show Q (.d (.bool (decide _))) _;rw[c_ M];exact q
     |cons a l=>
      refine aU (λQ q=>iN (λQ q=>ay (λQ q=>aq (au rfl (aA ?_))) q) (ay (λQ q=>aq (au rfl (aY (Al (Be _) q)))) q)) ?_
      ·show Q (.d (.bool (decide _))) _;rw[c_ M];exact q
      ·refine jk rfl (c5 (aA (aq (au rfl (gQ rfl (λQ q=>aT (au rfl q)) ⋯ (by simp) ⋯ λr V r1=>jH V r1 λf o=>?_)))));obtain⟨s,hs,rfl⟩:=E f o;exact Al (show 2<=1000 by decide) (Al A (j (.as s) _ _ _ _ rfl ⟨hbo s hs,rfl⟩ (λk C=>by cases C;omega) ⋯))
theorem EN(h:v∈kR):iO v:=by
 simp only[kR,Ao,A3,g_]at h;rcases h with rfl|rfl|rfl|rfl|rfl<;>first|exact .inl rfl|exact .inr ⟨_,rfl,by simp⟩
def uK(ks:List Str)(n0:Int)(ds:List Ab)(δ:Sl)(n:Int):Prop:=∃(fs:List Fe)(x y:Option SV),δ=[ae (.w .tp),ae (.w (.ln (ks.map .str))),ae (.own (fs.map Fe.d)),x,y]/\fs.length+ds.length<=4/\1<=fs.length+ds.length/\(∀f∈fs,f.ok/\f.tm=ah)/\rF ks fs/\n+2*(ds.length:Int)<=n0+9
theorem Oq:bK uh IH ["_law_tape_here","_law_known_here","_law_fields","_law_k","_law_way"]:=λws n0 Q h=>by
 obtain⟨E,rfl,S,j,R,k⟩:=h;refine ax (iY ?_);dsimp only[Ay];refine ax (zk rfl ⋯ λm Y U=>eC (uK E n0) (λδ n I=>?_) (λd r δ n N I Z=>?_) _ _ _ ⟨[],_,_,rfl,by rw[fB];simpa using U,by rw[fB];simpa using Y,λf D=>(by trivial),trivial,by rw[fB];omega⟩)
 ·obtain⟨u,x,y,rfl,D,A,e,J,P⟩:=I;dsimp only;exact gW rfl (aW (aT (au rfl (jW (k u n ⋯ ⟨by simpa using D,λf z=>(e f z).1⟩ (λf z=>(e f z).2) J (by simp_all))))))
 ·obtain⟨u,x,y,rfl,D,A,e,J,P⟩:=I;rw[Ax]at D A P;have b:(u.map Fe.d).length < 1000000:=by rw[Ad];omega
  have c:∀(f:Fe) H y,f.ok/\f.tm=ah->(∀k,f.us=ae k->k∈E)->H<=n+2->N [ae _,ae _,ae (.own (u.map Fe.d++[f.d])),ae _,y] H:=λf H y W V hn'=>
   Z _ _ ⟨_,↑d,y,by rw[Bf];rfl,by rw[An,Az];omega,by rw[An,Az];omega,λg T=>(A1.mp T).elim (e g) λz=>by rw[A4]at z;subst z;exact W,wA J λk i=>Ep _ (V k i),by omega⟩
  refine ax (nu rfl ⋯ ∎ ∎ λw w0 w1=>?_);dsimp only[Ay];have B:∀K:DEnds,(∀δ n,N δ n->K.nx δ n)->bh 2 (aC (ao (wC (.str "is")) (ao (aB iS (ao ↥0 ak)) ak))) [ae _,ae _,ae _,ae _,↑(.int w)] (n+1) K:=λK hK=>
   jk rfl (c5 (aA (cI (au rfl (Al rfl ⟨by omega,λv hv=>Al (show 2<=1000 by decide) (Al b (hK _ _ (c (.isv v) _ _ ⟨oO hv,rfl⟩ (λk i=>by trivial) ⋯)))⟩)))))
  by_cases O:w < 3
  ·refine aQ (λQ q=>pq (λQ q=>ay (λQ q=>aq (au rfl (aA ?_))) q) q) (B _ λ_ _ z=>z);show Q _ _;simp_all
  ·have o:∀Q:DQ,Q _ _->w2 ↥4 (wC (.int 3)) fm [ae (.w .tp),ae (.w (.ln (E.map .str))),ae (.own (u.map Fe.d)),↑d,↑(.int w)] (n+1) Q:=λQ q=>aq (au rfl (aA (by
    show Q (.d (.bool (decide _))) _;rw[c_ O];exact q)))
   cases E with
   |nil=>exact aQ (λQ q=>iN (λQ q=>ay o q) (ay (λQ q=>aq (au rfl (kb (jQ q)))) q)) (B _ λ_ _ z=>z)
   |cons a l=>
    refine aU (λQ q=>iN (λQ q=>ay o q) (ay (λQ q=>aq (au rfl (kb (jQ q)))) q)) (jk rfl (c5 (aq (aY (Al ∎ ?_)))));refine aq (au rfl (aA ?_));dsimp only[bN];refine jH ⋯ (show w-3 < 3 by omega) λf t=>aq (au rfl ?_);have hl:((a::l).map D0).length<=1000:=by rw[Ad];omega
    refine gQ rfl (λQ q=>aT (au rfl q)) ⋯ (by simp) ⋯ λr X r1=>qm X r1 λf' p=>?_;obtain⟨s,L,rfl⟩:=vh p;simp only[Ao,A3,g_]at t;rcases t with rfl|rfl|rfl
    ·exact Al (show 2<=1000 by decide) (Al b (c (.as s) _ _ ⟨j s L,rfl⟩ (λk i=>by cases i;omega) ⋯))
    ·exact Al (show 2<=1000 by decide) (Al b (c (.as s) _ _ ⟨j s L,rfl⟩ (λk i=>by cases i;omega) ⋯))
    ·exact Al (show 2<=1000 by decide) (Al b (c (.nx s) _ _ ⟨j s L,rfl⟩ (λk i=>by cases i;omega) ⋯))
abbrev Ze:List Str:=["_law_tape_here","_law_known_here"]
theorem SW:bK rG WC Ze:=λws n Q h=>by
 obtain⟨p,rfl,f,g,t,k⟩:=h;have c:∀j,j<=n+1->av (aC (ao (wC (.str "is")) (ao (aB iS (ao ↥0 ak)) ak))) [ae _,ae (.w (.ln (p.map .str)))] j {nx:=λ_=>Q (.d .none),rt:=Q}:=λn' x=>
  aW (c5 (aA (cI (au rfl (Al rfl ⟨by omega,λv u=>Al (by simp) (k (.isv v) _ (oO u) rfl (λk i=>by trivial) ⋯)⟩)))))
 cases p with
 |nil=>exact ax (aQ (λQ q=>pq (λQ q=>ay (λQ q=>aq (au rfl (kb (jQ q)))) q) q) (c n ⋯))
 |cons a l=>
  refine ax (cP (iN (λQ q=>ay (λQ q=>aq (au rfl (kb (jQ q)))) q) (aq (gA rfl ⋯ ∎ ∎ λr m o=>aA (gN ?_)))));show if decide _=ah then _ else _
  by_cases h:r=0
  ·rw[a' (b_ h)];exact c _ ⋯
  ·rw[a_ (by simpa using h)];dsimp only[aF];refine aW (c5 (aA (aq (au rfl ?_))));have z:((a::l).map D0).length<=1000:=by rw[Ad];exact f
   refine gQ rfl (λQ q=>aT (au rfl q)) ⋯ (by simp) ⋯ λr m o=>qm m o λf' b=>?_;obtain⟨s,y,rfl⟩:=vh b;exact Al (by simp) (k (.as s) _ (g s y) rfl (λk i=>by cases i;omega) ⋯)
theorem Ka:bK pF xI ["_law_tape_here","_law_known_here","_law_open_ones","_law_way","_law_block","_law_pattern_here","_law_bound"]:=λws n Q h=>by
 obtain⟨B,os,D,rfl,p,t,ho,V,F,K,k⟩:=h;show xI [ae _,ae _,ae _,af,af,af,af] n _;refine ax (nu rfl ⋯ ∎ ∎ λw w0 Z=>?_);dsimp only[Ay];refine ax (k8 rfl (λhw=>?_) (λhw=>?_))
 ·refine aW (c5 (jm (aA (bw (au rfl (au rfl (Cs B ⟨rfl,p,t,by omega,λfs I l j G i y=>Hm rfl ⋯ λv T=>?_⟩)))))));exact Al (show 3<=1000 by decide) (kb (Al (show 2<=1000 by decide) (k (.lay fs v) _ ⟨j,G,EN T,l⟩ ⟨i,λb J=>by trivial⟩ ⋯)))
 dsimp only[aF];refine ax (aq (au rfl (gQ rfl (λQ q=>aT (au rfl q)) ⋯ (by rw[Ad];omega) (by rw[Ad];omega) λr S U=>jH S U λb J=>?_)));obtain⟨b,E,rfl⟩:=A6.mp J;have Y:=F b E;dsimp only[Ay];refine ax (oV rfl (λh10=>?_) (λh10=>?_))
 ·refine aW (c5 (Kb (aA (bw (au rfl (au rfl (Cs B ⟨rfl,p,t,by omega,λf I R O X y=>bw (au rfl (au rfl (Cs B ⟨rfl,p,t,by omega,λg L W M P H=>?_⟩)))⟩)))))));refine au rfl (Al (show 4<=1000 by decide) (kb (Al (show 2<=1000 by decide) (k (.same f g b) _ ⟨⟨show 2<=4 by decide,λe C=>?_⟩,O,M⟩ ⟨⟨X,λk N=>Ep _ (P k N),trivial⟩,λb' d=>by cases d;omega⟩ ⋯))));simp only[Ac.fs,Ao,A3,g_]at C;rcases C with rfl|rfl
  ·exact R
  ·exact W
 dsimp only[aF];refine ax (oV rfl (λh11=>?_) (λh11=>?_))
 ·exact aW (c5 (c5 (aA (au rfl (Al (show 2<=1000 by decide) (kb (Al (show 2<=1000 by decide) (k (.go b) _ ⟨⟨show 0<=4 by decide,λe C=>by trivial⟩,trivial⟩ ⟨trivial,λb' d=>by cases d;omega⟩ ⋯))))))))
 dsimp only[aF];refine ax (bw (au rfl (au rfl (Cs B ⟨_,rfl,rfl,p,t,by omega,λfs I l j o i y=>?_⟩))));refine Al rfl ?_;dsimp only[bE,aG];refine ax (vf rfl (λh7=>?_) (λh7=>?_))
 ·exact aW (c5 (jm (aA (au rfl (au rfl (Al (show 3<=1000 by decide) (au rfl (Al (show 2<=1000 by decide) (k (.look fs b) _ ⟨j,l,o⟩ ⟨i,λb' d=>by cases d;omega⟩ ⋯)))))))))
 dsimp only[aF];refine aW (c5 (c5 (aq (aY (Al ∎ (aq (au rfl (aA ?_))))))));dsimp only[bN];refine jH ⋯ (show w-4 < 4 by omega) λf z=>?_;simp only[Ao,A3,g_]at z;rcases z with rfl|rfl|rfl|rfl
 ·exact au rfl (Al (show 2<=1000 by decide) (au rfl (Al (show 2<=1000 by decide) (k (.take fs) _ ⟨j,l,o⟩ ⟨i,λb' d=>by trivial⟩ ⋯))))
 ·exact au rfl (Al (show 2<=1000 by decide) (au rfl (Al (show 2<=1000 by decide) (k (.take fs) _ ⟨j,l,o⟩ ⟨i,λb' d=>by trivial⟩ ⋯))))
 ·exact au rfl (Al (show 2<=1000 by decide) (au rfl (Al (show 2<=1000 by decide) (k (.take fs) _ ⟨j,l,o⟩ ⟨i,λb' d=>by trivial⟩ ⋯))))
 ·exact au rfl (Al (show 2<=1000 by decide) (au rfl (Al (show 2<=1000 by decide) (k (.read fs) _ ⟨j,l,o⟩ ⟨i,λb' d=>by trivial⟩ ⋯))))
def h9:List (List Str):=[[],["n"],["go","n"],["nm"]]
theorem VZ(h:w∈h9):w.length<=4/\(∀k∈w,eQ k)/\w.Nodup/\gH w:=by
 have c:∀w∈h9,w.length<=4/\(∀k∈w,k.length<=4/\Dp k=ah/\bR 4 (.str k)=ah)/\w.Nodup/\w.Pairwise λa b=>¬b.cps.toList < a.cps.toList:=by decide +kernel
 exact c w h
theorem Mx(ss ks:List Str)(k:Q ((ss.map D0).filter λx=>!cW x (ks.map .str)) n):
  c6 (aG 0) (cT (w2 ↥0 ↥1 (eM ah))) ↥0 Q (ss.map .str) [] [af,ae (.w (.ln (ks.map .str)))] n:=by
 refine rX (λd=>∃s:Str,d=.str s) (λx=>!cW x (ks.map .str)) id (λd n c b q=>?_) (λd n c b=>au rfl) _ [] af n (λd b=>?_) ?_
 ·obtain⟨s,rfl⟩:=b;exact ay (λQ q=>aq (au rfl (au rfl (Al rfl ⟨oB ks,q⟩)))) q
 ·obtain⟨s,_,rfl⟩:=A6.mp b;exact⟨s,rfl⟩
 ·simpa using k
theorem JU(ss ks:List Str):((ss.map D0).filter λx=>!cW x (ks.map .str)).isEmpty=decide (∀k∈ss,k∈ks):=by
 rw[En,List.isEmpty_iff,List.filter_eq_nil_iff,decide_eq_true_iff]
 constructor
 ·intro h k a;have:=h _ (A6.mpr ⟨k,a,rfl⟩);rw[ky]at this;simp_all
 ·intro h d b;obtain⟨k,a,rfl⟩:=A6.mp b;rw[ky,b_ (h k a)];simp
def ub(ws:List (List Str))(ks:List Str):Ab->Bool
 |.int j=>decide (∀k∈ws.getD j.toNat [],k∈ks)
 |_=>ai
def mq(ws:List (List Str))(ks:List Str):List Nat:=(Bc ws.length).filter λb=>decide (∀k∈ws.getD b [],k∈ks)
theorem VI(ws:List (List Str))(ks):(cw 0 ws.length).filter (ub ws ks)=(mq ws ks).map λb=>.int (b:Nat):=by
 unfold cw mq;rw[List.filter_map];have e:(λi:Nat=>PyData.int (0+i))=λb=>.int b:=funext λi=>by simp
 rw[e];rfl
theorem Jm(ws:List (List Str))(ks:List Str)(k:Q ((mq ws ks).map λb=>.int (b:Nat)) n):
  c6 (aG 0) (cT (w2 (aV (bG [af,ae 1] (cn (w2 ↥2 ↥0 a9)) (aG 0) (cT (w2 ↥0 ↥1 (eM ah))) ↥0)) (aV (aN ak)) a8)) ↥0 Q (cw 0 ws.length) [] [af,ae (.w (.ln (ks.map .str))),↑(.list (ws.map eB))] n:=by
 refine rX (λd=>∃j:Nat,j < ws.length/\d=.int j) (ub ws ks) id (λd n f c q=>?_) (λd n f c=>au rfl) _ [] af n (λd c=>?_) ?_
 ·obtain⟨j,e,rfl⟩:=c;have g:(ws.map eB)[j]?=ae (.tuple (ws[j].map .str)):=by rw[Ap,Ai e];rfl
  refine ay (λQ q=>aq (aY (fN (λQ q=>aq (au rfl (au rfl ?_))) (Mx ws[j] ks (kb ?_))))) q
  ·show(match c8 _ (j:Int)with|some d=>Q (.d d) n|none=>False);rw[eW g];exact q
  ·have h:ub ws ks (.int j)=((ws[j].map D0).filter λx=>!cW x (ks.map .str)).isEmpty:=by
    rw[JU];show decide _=_;simp_all<;>omega
   rw[h]at q;exact q
 ·unfold cw at c;obtain⟨j,e,rfl⟩:=A6.mp c;exact⟨j,B9.mp e,by simp⟩
 ·rw[Dw,VI];exact k
theorem Mr(h:ws=[]::w0):0 < (mq ws ks).length:=
 List.length_pos_of_mem (a:=0) (D4.mpr ⟨B9.mpr (by simp_all),by subst h;simp⟩)
theorem RD(h:b∈mq ws ks):∃w,ws[b]?=ae w/\∀k∈w,k∈ks:=by
 obtain⟨d,c⟩:=D4.mp h;have a:=B9.mp d;refine⟨_,Ai a,?_⟩;have:=d_ c;rw[List.getD_eq_getElem?_getD,Ai a,Option.getD_some]at this;omega
theorem AV:∀{fs:List Fe}{ks ks':List Str},(∀k∈ks,k∈ks')->rF ks fs->rF ks' fs
 |[],_,_,_,_=>trivial
 |f::r,ks,ks',h,z=>⟨λk a=>h k (z.1 k a),AV (λk a=>(A1.mp a).elim (λq=>Ep _ (h k q)) (Bw _)) z.2⟩
theorem Ac.right_mono{a:Ac}(h:∀k∈ks,k∈ks')(z:a.right ws ks):a.right ws ks':=
 ⟨AV h z.1,λb d=>by obtain⟨w,e,c⟩:=z.2 b d;exact⟨w,e,λk f=>h k (c k f)⟩⟩
theorem KZ(h:lA ws (w,as))(hk:∀k∈ks,k∈w++as.flatMap Ac.bs)(ha:a.right ws ks):lA ws (w,as++[a]):=λp b c=>by
 by_cases d:p < as.length
 ·rw[F3 d]at c;have:=h p b c;unfold kn at this ⊢;rw[List.take_append_of_le_length (F1 d)];omega
 ·rw[List.getElem?_append_right ⋯]at c;have f:p-as.length=0:=by
   by_cases e:p-as.length=0
   ·exact e
   ·rw[Dk (by simp<;>omega)]at c;trivial
  rw[f]at c;cases c;have g:p=as.length:=by omega
  subst g;refine Ac.right_mono (λk z=>?_) ha;unfold kn;rw[List.take_append_of_le_length (by simp),Gv];exact hk k z
structure ActO(ws:List (List Str))(want ks:List Str)(acts:List Ac):Prop where
 mem:∀k,k∈ks↔k∈want++acts.flatMap Ac.bs
 ok:∀k∈ks,eQ k
 fs:∀a∈acts,jw a
 ri:lA ws (want,acts)
def pL(ws:List (List Str))(bl:List Ab)(want:List Str)(nb:Int)(ds:List Ab)(δ:Sl)(n:Int):Prop:=∃(ks:List Str)(acts:List Ac)(x2 x7 x8 x9 x10:Option SV),
 δ=[ae (.w .tp),↑(.list (ws.map eB)),x2,ae (.own bl),↑(eB want),ae (.own (ks.map .str)),ae (.own (acts.map Ac.d)),x7,x8,x9,x10]/\ActO ws want ks acts/\ks.length+4*ds.length<=40/\acts.length+ds.length<=8/\n+11*(ds.length:Int)<=nb+89
theorem RU(hw0:ws=[]::w0)(hwl:ws.length<=6)(hnb:nb+89 < 2 ^ 39)(O:ActO ws want ks acts)(hk:ks.length+4*(r.length+1)<=40)(ha:acts.length+(r.length+1)<=8)(hn:n+11*((r.length:Int)+1)<=nb+89)
  (kN:∀δ n,pL ws bl want nb r δ n->K.nx δ n):
  ar (az 8 (aV (bG [af,ae 5,ae 1] (eR (wB dD (ao ↥1 ak))) (aG 0) (cT (w2 (aV (bG [af,ae 1] (cn (w2 ↥2 ↥0 a9)) (aG 0) (cT (w2 ↥0 ↥1 (eM ah))) ↥0)) (aV (aN ak)) a8)) ↥0))) (ar (d7 (aB pF (ao ↥0 (ao (bY 5) (ao ↥8 ak)))) (dF 2 (bE (aG 9) (bE (aG 10) cZ)))) (ar (bh 6 ↥9) (aZ (eu ↥10) (aG 7) (aH (cT (w2 ↥7 (bY 5) (eM ah))) (bh 5 ↥7) aF))))
   [ae (.w .tp),↑(.list (ws.map eB)),↑d,ae (.own bl),↑(eB want),ae (.own (ks.map .str)),ae (.own (acts.map Ac.d)),x7,x8,x9,x10] n K:=by
 refine ax (aY (aT (au rfl ?_)));refine Al ⟨by omega,by simp<;>omega⟩ ?_;rw[Ad];refine Jm ws ks ?_;dsimp only[Ay];refine ax ?_;have P:(mq ws ks).length<=6:=A5 (Gq _ _) (by simp<;>omega);refine bC (au rfl (gv rfl (au rfl (Cs ks (Cs _ (Cs ws ⟨rfl,by omega,O.ok,Mr hw0,by omega,λb=>RD,by omega,λact G C y H=>?_⟩))))));refine Al rfl ?_;dsimp only[bE,aG];refine ax (kz rfl (λQ=>au rfl) (by simp<;>omega) ?_);dsimp only[Ay];unfold aZ eu;refine au rfl ?_;have D:=qk C.1;refine eC (λds δ l=>∃(c o g:List Str)(x7:Option SV),ds=g.map .str/\o++g=act.bs/\(∀k,k∈c↔k∈ks++o)/\l=G/\δ=[ae _,ae _,ae _,ae _,ae _,ae (.own (c.map .str)),ae _,x7,ae _,ae _,ae _]/\c.length+g.length<=ks.length+4)
  (λδ l I=>?_) (λe S δ l N I x=>?_) _ _ _ ⟨ks,[],_,x7,rfl,rfl,λk=>by simp,rfl,rfl,by omega⟩
 ·obtain⟨c,o,g,x7,e,h,p,rfl,rfl,u⟩:=I;cases C0.mp e.symm;rw[Bk]at h;subst h;have B:∀k,k∈c↔k∈want++(acts++[act]).flatMap Ac.bs:=λk=>by
   rw[p k,A1,O.mem k,List.flatMap_append,<-Bp,A1 (s:=want++acts.flatMap Ac.bs)];simp
  refine kN _ _ ⟨c,_,_,_,_,_,_,by rw[Bf];rfl,⟨B,λk z=>?_,λa z=>?_,KZ O.ri (λk=>(O.mem k).mp) y⟩,by omega,by simp<;>omega⟩
  ·exact(A1.mp ((p k).mp z)).elim (O.ok k) (D.1 k)
  ·rcases A1.mp z with z|z
   ·exact O.fs a z
   ·rw[A4]at z;simp_all
 ·obtain⟨c,o,g,x7,F,h,p,rfl,rfl,u⟩:=I;obtain⟨s,v,rfl,rfl,rfl⟩:=Cf.mp F.symm;rw[Ax]at u;have i:(o++[s])++v=act.bs:=by simpa using h
  refine cP (aq (au rfl (gv rfl (Al rfl ⟨oB c,iM (λz=>?_) (λz=>?_)⟩))))
  ·refine kz rfl (λQ=>au rfl) (by simp<;>omega) (x _ _ ⟨c++[s],_,_,↑(.str s),rfl,i,λk=>?_,rfl,?_,by simp<;>omega⟩)
   ·rw[A1,p k,<-Bp,A1 (s:=ks++o)]
   ·rw[Bf];rfl
  ·have M:=by
    have E:=z;rw[ky]at E;simpa using E
   refine x _ _ ⟨c,_,_,_,rfl,i,λk=>?_,rfl,rfl,by omega⟩;rw[<-Bp,A1,A4,<-p k];exact⟨.inl,λq=>q.elim id λe=>e▸M⟩
def vL(n0:Int)(ds:List Ab)(δ:Sl)(n:Int):Prop:=∃(more:List (List Str))(x2:Option SV),δ=[ae (.w .tp),ae (.own (([]::more).map eB)),x2,af,af,af,af,af,af,af,af]/\more.length+ds.length<=5/\(∀w∈more,w∈h9)/\n+(ds.length:Int)<=n0+6
def oq(ws:List (List Str))(n0:Int)(ds:List Ab)(δ:Sl)(n:Int):Prop:=∃(bl:List Bl)(re:List (List Str))(x2 x4 x5 x6 x7 x8 x9 x10:Option SV),
 δ=[ae (.w .tp),↑(.list (ws.map eB)),x2,ae (.own (bl.map dI)),x4,x5,x6,x7,x8,x9,x10]/\ds=re.map eB/\bl.map (·.1)++re=ws/\(∀b∈bl,kd b/\lA ws b)/\n+90*(ds.length:Int)<=n0+600
theorem M9{bl:List Bl}(hw:∀w∈ws,w∈h9)(hw0:ws=[]::w0)(hwl:ws.length<=6)(hn0:n0+600 < 2 ^ 39)(hb:bl.map (·.1)++want::re=ws)(hbo:∀b∈bl,kd b/\lA ws b)(hn:n+90*((re.length:Int)+1)<=n0+600)
  (kN:∀δ n,oq ws n0 (re.map eB) δ n->K.nx δ n):
  ar (bu 5 (jz ↥4)) (ar (bu 6 (aN ak)) (ar (aZ (eR (w2 (aV (aN (ao ⇑2 (ao ⇑1 (ao ⇑3 (ao ⇑2 (ao ⇑0 (ao ⇑1 (ao ⇑2 (ao ⇑3 ak)))))))))) (aB bQ (ao ↥0 (ao ⇑8 ak))) a9)) (aG 2) (ar (az 8 (aV (bG [af,ae 5,ae 1] (eR (wB dD (ao ↥1 ak))) (aG 0) (cT (w2 (aV (bG [af,ae 1] (cn (w2 ↥2 ↥0 a9)) (aG 0) (cT (w2 ↥0 ↥1 (eM ah))) ↥0)) (aV (aN ak)) a8)) ↥0))) (ar (d7 (aB pF (ao ↥0 (ao (bY 5) (ao ↥8 ak)))) (dF 2 (bE (aG 9) (bE (aG 10) cZ)))) (ar (bh 6 ↥9) (aZ (eu ↥10) (aG 7) (aH (cT (w2 ↥7 (bY 5) (eM ah))) (bh 5 ↥7) aF)))))) (bO 6 (bh 3 (aC (ao ↥4 (ao (wB fV (ao ↥6 ak)) ak)))))))
   [ae (.w .tp),↑(.list (ws.map eB)),x2,ae (.own (bl.map dI)),↑(eB want),x5,x6,x7,x8,x9,x10] n K:=by
 obtain⟨m,h,i,o⟩:=VZ (hw want (by rw[<-hb];simp));have x:bl.length+(re.length+1)<=6:=by rw[<-hb,An,Ad]at hwl;omega
 refine ax (Hr rfl (ax (iY ?_)));dsimp only[Ay];refine ax (zh (M:=8) rfl (λQ q=>aY (Al ∎ q)) ⋯ rfl ∎ ∎ (λd v=>?_) ∎ λj A=>?_)
 ·simp only[Ao,A3,g_]at v;rcases v with rfl|rfl|rfl|rfl|rfl|rfl|rfl|rfl
  ·exact⟨2,by simp⟩
  ·exact⟨1,by simp⟩
  ·exact⟨3,by simp⟩
  ·exact⟨2,by simp⟩
  ·exact⟨0,by simp⟩
  ·exact⟨1,by simp⟩
  ·exact⟨2,by simp⟩
  ·exact⟨3,by simp⟩
 refine eC (pL ws _ want n) (λδ C I=>?_) (λd H δ C N I s=>?_) _ _ _ ⟨_,[],_,_,_,_,_,rfl,⟨λk=>by simp,h,λa e=>by simp at e,λp a e=>by simp at e⟩,by rw[fB];omega,by rw[fB];simpa using A,by rw[fB];omega⟩
 ·obtain⟨F,c,y,D,E,B,r,rfl,O,_,e,f⟩:=I;dsimp only;refine gW rfl (jk rfl (c5 (au rfl (aT (au rfl (jW ?_))))));have l:=by simpa using e
  refine Al (show 2<=1000 by decide) (Al (by rw[Ad];omega) (kN _ _ ⟨bl++[(want,c)],re,_,_,_,_,_,_,_,_,by rw[Bf];rfl,rfl,by rw[Bf,Bp];exact hb,λb z=>?_,?_⟩))
  ·rcases A1.mp z with z|z
   ·exact hbo b z
   ·rw[A4]at z;subst z;exact⟨⟨m,h,l,O.fs,i,o⟩,O.ri⟩
  ·have G:=by simpa using f
   rw[Ad];omega
 ·obtain⟨F,c,y,D,E,B,r,rfl,O,u,e,f⟩:=I;rw[Ax]at u e f;exact RU hw0 hwl ⋯ O u e ⋯ s
theorem Td:bK wF Qn ["_law_tape_here","_law_wants","_law_k","_law_blocks","_law_want","_law_known_here","_law_acts","_law_name","_law_open_ones","_law_act_here","_law_bound"]:=λws H Q h=>by
 obtain⟨rfl,t,k⟩:=h;refine ax (Al (Be _) (Al ∎ ?_));dsimp only[Ay];refine ax (zh (M:=5) rfl (λQ q=>aY (Al ∎ q)) ⋯ rfl ∎ ∎ (λd m=>?_) ∎ λj T=>?_)
 ·simp only[Ao,A3,g_]at m;rcases m with rfl|rfl|rfl|rfl|rfl
  ·exact⟨0,by simp⟩
  ·exact⟨1,by simp⟩
  ·exact⟨0,by simp⟩
  ·exact⟨1,by simp⟩
  ·exact⟨2,by simp⟩
 refine eC (vL H) (λδ n I=>?_) (λd r δ n N I x=>?_) _ _ _ ⟨[],_,rfl,by rw[fB];simpa using T,λd m=>by simp at m,by rw[fB];omega⟩
 ·obtain⟨c,L,rfl,C,u,y⟩:=I;refine ax (iY ?_);dsimp only[Ay];refine gW rfl (ax ?_);unfold aZ eu;refine au rfl ?_;have s:∀w∈([]:List Str)::c,w∈h9:=λd m=>by
   rcases Ao.mp m with rfl|z
   ·simp[h9]
   ·exact u d z
  have o:(([]:List Str)::c).length<=6:=by rw[Ax];omega
  refine eC (oq _ H) (λδ G I=>?_) (λd r δ G N I x=>?_) _ _ _ ⟨[],_,_,_,_,_,_,_,_,_,rfl,rfl,rfl,λb g=>by simp at g,?_⟩
  ·obtain⟨F,E,R,S,W,K,X,Y,U,B,rfl,A,g,i,l⟩:=I;cases C0.mp A.symm;rw[Bk]at g;dsimp only;refine gW rfl (aW (aT (au rfl (jW (k F G ⟨by have:=congrArg Fu g;simp at this;omega,?_,λb z=>⟨(i b z).1,by rw[g];exact(i b z).2⟩⟩ ⟨_,g⟩ (by simpa using l))))));rw[<-g,Ad]at o;omega
  ·obtain⟨F,E,R,S,W,K,X,Y,U,B,rfl,A,g,i,l⟩:=I;obtain⟨J,E,rfl,rfl,rfl⟩:=Cf.mp A.symm;rw[Ax,Ad]at l;exact M9 s rfl o t g i ⋯ x
  ·have Z:=by simpa using y
   simp;omega
 ·obtain⟨c,L,rfl,C,u,y⟩:=I;rw[Ax]at C y;dsimp only[aG];refine jk rfl (aq (aY (Al ∎ (Al ∎ (Al ∎ (Al ∎ (Al ∎ (Al ∎ (gA rfl ⋯ ∎ ∎ λq O V=>jH O V λw s=>?_)))))))));have:∃v∈h9,w=eB v:=by
   simp only[Ao,A3,g_]at s;rcases s with rfl|rfl|rfl|rfl|rfl
   ·exact⟨[],by simp[h9],rfl⟩
   ·exact⟨["n"],by simp[h9],rfl⟩
   ·exact⟨["go","n"],by simp[h9],rfl⟩
   ·exact⟨["nm"],by simp[h9],rfl⟩
   ·exact⟨[],by simp[h9],rfl⟩
  obtain⟨v,hv,rfl⟩:=this;refine Al (by rw[Ad,Ax];omega) (x _ _ ⟨c++[v],↑d,?_,by rw[An,Az];omega,λe P=>?_,by omega⟩)
  ·rw[show([]::(c++[v]):List _)=([]::c)++[v]from rfl,Bf];rfl
  rcases A1.mp P with z|z
  ·exact u e z
  ·rw[A4]at z;simp_all
section
variable{δ:Sl}{n:Int}{K:DEnds}{i:Nat}{s a b c:Str}{r:List Ab}{k:Bool}{Q:Bool->Int->Prop}
theorem DB(e:δ[i]?=ae (↑(.tuple (.str s::r))))(h:cW (.str s) [.str a,.str b,.str c]=k)(q:Q k n):cT (w2 (w2 (aj i) (wC (.int 0)) aw) (aC (ao (wC (.str a)) (ao (wC (.str b)) (ao (wC (.str c)) ak)))) (hZ ai)) δ n Q:=by
 refine aq (cD e ?_);show 3<=1000/\fo _=ah/\_/\Q _ n;exact⟨by decide,rfl,rfl,by simp_all⟩
theorem pI(e:δ[i]?=ae (↑(.tuple (.str s::r))))(h:cW (.str s) [.str a,.str b]=k)(q:Q k n):cT (w2 (w2 (aj i) (wC (.int 0)) aw) (aC (ao (wC (.str a)) (ao (wC (.str b)) ak))) (hZ ai)) δ n Q:=by
 refine aq (cD e ?_);show 2<=1000/\fo _=ah/\_/\Q _ n;exact⟨by decide,rfl,rfl,by simp_all⟩
theorem rO(ha:∀Q:Bool->Int->Prop,Q ai n->A δ n Q)(q:Q ai n):bW A B δ n Q:=ha _ (q)
end
theorem Ti(e:δ[i]?=ae (ae (.own es)))(k:w δ n λx n1=>match x with
  |.d (.list fs)=>(es.length < 1000000/\fs.length < 1000000)/\K.nx (δ.set i (ae (.own (es++fs)))) n1
  |_=>False):fZ i w δ n K:=by
 unfold fZ;rw[e];exact k
theorem Rb:bK rh JS ["_law_program_here","_law_block","_law_place","_law_found","_law_act_here"]:=λws n Q h=>by
 obtain⟨Z,i,p,⟨w,u⟩,rfl,hi,⟨D,E,H,B,_,_⟩,hp,k⟩:=h;dsimp only at D E H B hp k;have G:(Z.map dI)[i]?=ae (dI (w,u)):=by rw[Ap,hi];rfl
 refine ax (aq (aq (au rfl (au rfl (bB G (aA (du ?_)))))));dsimp only[Ay];refine ax (aq (aq (au rfl (au rfl (bB G (aA (d9 ?_)))))));dsimp only[cb];refine au rfl ?_;dsimp only;rw[tZ _ (by rw[Ad];omega),<-List.map_take];refine eC (λds δ t=>∃(y o:List Ac)(L:List Str)(x:Option SV),ds=o.map Ac.d/\y++o=u.take p/\t=n/\δ=[ae _,ae _,ae _,ae (.own (L.map .str)),x]/\KnI w y L) (λδ t I=>?_) (λd r δ t N I kN=>?_) _ _ _
  ⟨[],_,w,_,rfl,rfl,rfl,rfl,KnI.first D E⟩
 ·obtain⟨y,o,L,x,e,l,rfl,rfl,I⟩:=I;cases C0.mp e.symm;rw[Bk]at l;subst l;dsimp only;refine gW rfl ?_;have hl:(u.take p).length<=8:=A5 (List.length_take_le _ _) ⋯;have hI:=I.len;exact aW (aY (au rfl (Cs L ⟨.inl rfl,by omega,λx hx=>A5 (I.ok x hx).1 ∎,λys a b c=>k ys a (λz hz=>I.ok z ((b z).mp hz)) c λz=>(b z).trans (I.mem z)⟩)))
 ·obtain⟨y,o,L,x,e,l,rfl,rfl,I⟩:=I;obtain⟨a,o,rfl,rfl,rfl⟩:=Cf.mp e.symm;have W:=(B a (Dv (by rw[<-l];simp))).1;have U:L.length<=36:=by
   have h1:y.length+(o.length+1)=(u.take p).length:=by rw[<-l,An,Ax]
   have h3:=I.len;have h4:(u.take p).length<=u.length:=Ft _ _;omega
  have A:(y++[a])++o=u.take p:=by rw[Bp];exact l
  have m:∀L',KnI w _ L'->N [ae _,ae _,ae _,ae _,↑a.d] t:=λL' I'=>kN _ _ ⟨_,o,L',_,rfl,A,rfl,rfl,I'⟩;have v:∀K (C:∀δ n,N δ n->K.nx δ n) s j r,a.d=.tuple (.str s::cK j::r)->cW _ [.str "take",.str "read",.str "look"]=ah->a.bs=bA j->a.fs=j->aH (cT (w2 (w2 ↥4 _ aw) _ _)) (fZ 3 (aV (bG [af] (cn (w2 ↥4 _ aw)) _ _ _))) aF
    [ae _,ae _,ae _,ae (.own (L.map .str)),↑a.d] t K:=λK C s j r R P J e4=>by
   rw[R]at m ⊢;refine aQ (λQ q=>DB rfl P q) ?_;have hb:=mK (e4▸W);refine Ti rfl (aY (fN (λQ q=>cq rfl q) (zg j t (Al ⟨by rw[Ad];omega,by rw[Ad];omega⟩ ?_))));have:=m _ (I.more (λk=>by rw[J]) hb W);rw[Bf]at this;exact C _ _ this
  have skip:∀K (C:∀δ n,N δ n->K.nx δ n) s r,a.d=.tuple (.str s::r)->cW _ [.str "take",.str "read",.str "look"]=ai->a.bs=[]->aH (cT (w2 (w2 ↥4 _ aw) _ _)) (fZ 3 (aV (bG [af] (cn (w2 ↥4 ⇑1 aw)) (aG 0) (cT (w2 (w2 ↥0 ⇑0 aw) (wC (.str "bind")) bj)) (w2 ↥0 ⇑1 aw)))) aF
    [ae _,ae _,ae _,ae _,↑a.d] t K:=λK C s r R P J=>by
   rw[R]at m ⊢;refine aU (λQ q=>DB rfl P q) (C _ _ (m L (I.skip J)))
  cases a with
  |lay j O=>exact skip _ (λ_ _ z=>z) "lay" [cK j,O] rfl (by rfl) rfl
  |take j=>exact v _ (λ_ _ z=>z) "take" j [] rfl (by rfl) rfl rfl
  |read j=>exact v _ (λ_ _ z=>z) "read" j [] rfl (by rfl) rfl rfl
  |look j b=>exact v _ (λ_ _ z=>z) "look" j [.int b] rfl (by rfl) rfl rfl
  |same f g b=>exact skip _ (λ_ _ z=>z) "same" [f.d,g.d,.int b] rfl (by rfl) rfl
  |go b=>exact skip _ (λ_ _ z=>z) "go" [.int b] rfl (by rfl) rfl
theorem mQ{α:Type}{f:α->Ab}{P:α->Prop}:∀{ds:List Ab},(∀d∈ds,∃x,P x/\d=f x)->∃xs:List α,ds=xs.map f/\∀x∈xs,P x
 |[],_=>⟨[],rfl,λx b=>by simp_all⟩
 |d::r,h=>by
  obtain⟨x,b,rfl⟩:=h d Am;obtain⟨xs,rfl,a⟩:=mQ λe c=>h e (Ak _ c);exact⟨_,rfl,λy g=>(Ao.mp g).elim (λe=>e▸b) (a y)⟩
def xa(m:Nat)(n0:Int)(ds:List Ab)(δ:Sl)(n:Int):Prop:=∃(ns:List Nt)(x y:Option SV),δ=[ae (.w .tp),↑(.int m),ae (.own (ns.map fQ)),x,y]/\ns.length+ds.length<=m/\(∀q∈ns,mT q)/\n+6*(ds.length:Int)<=n0+100
theorem Qk:bK mY Ly ["_law_tape_here","_law_most","_law_found","_law_k","_law_row"]:=λws A Q h=>by
 obtain⟨m,rfl,C,p,k⟩:=h;refine ax (iY ?_);dsimp only[Ay];refine ax ?_;unfold aZ eR;refine gQ rfl (λQ q=>aq (au rfl (aA q))) ⋯ ⋯ ⋯ λr F J=>Al ⟨by omega,by omega⟩ ?_;have B:r.toNat<=m:=by omega
 refine eC (xa m A) (λδ n I=>?_) (λd G δ n N I w=>?_) _ _ _ ⟨[],_,_,rfl,by rw[fB];simpa using B,λd u=>by simp at u,by rw[fB];omega⟩
 ·obtain⟨g,x,y,rfl,f,a,i⟩:=I;dsimp only;exact gW rfl (aW (aT (au rfl (jW (k g n ⟨by simpa using f,a⟩ (by simp_all))))))
 ·obtain⟨g,x,y,rfl,f,a,i⟩:=I;rw[Ax]at f i;refine ax (aT (aY (cI (au rfl (Al rfl ⟨by omega,λs K E=>?_⟩)))));refine Al ⟨by omega,by omega⟩ ?_;rw[B8];refine uM _ 1 (λd n H i q=>cI (au rfl (Al rfl ⟨by omega,λv j=>q v _ (oO j) ⋯⟩))) _ [] af _ (by rw[fB];omega) λrow D o b l=>?_;rw[fB]at o l;refine jW ?_;dsimp only[Ay];refine jk rfl (c5 (au rfl (Hm rfl ⋯ λv j=>Al (show 2<=1000 by decide) (Al (by rw[Ad];omega) (w _ _ ⟨g++[(row,v)],_,_,by rw[Bf];rfl,by rw[An,Az];omega,λe t=>?_,by omega⟩)))));rcases A1.mp t with z|z
  ·exact a e z
  ·rw[A4]at z;subst z;exact⟨⟨⟨by show row.length<=4;omega,by show 1<=row.length;omega⟩,b⟩,EN j⟩
theorem FR:∀(ys:List Str)(i':Nm)(x:Option SV)(n:Int),n+(ys.length:Int) < 2 ^ 39->(∀p∈i',ck p.2=ah)->(∀(nm:Nm)(n':Int),nm.map (·.1)=i'.map (·.1)++ys->(∀p∈nm,ck p.2=ah)->n'<=n+(ys.length:Int)->Q (nm.map iV) n')->
  c6 (aG 0) aR (aC (ao ↥0 (ao (aB iS (ao ↥1 ak)) ak))) Q (ys.map .str) (i'.map iV) [x,ae (.w .tp)] n
 |[],i',x,n,_,a,q=>q i' n (by simp) a ⋯
 |y::ys,i',x,n,f,a,q=>by
  rw[Ax]at f q;simp only[Ba,c6,aG,aR,if_true];refine c5 (au rfl (cI (au rfl (Al rfl ⟨by omega,λv g=>Al (show 2<=1000 by decide) ?_⟩))));have:=FR ys (i'++[(y,v)]) (↑(.str y)) (n+1) ⋯ (λp c=>(A1.mp c).elim (a p) λz=>by rw[A4.mp z];exact oO g) λnm n' e b h=>q nm n' (by simp_all) b ⋯;rw[Bf]at this;exact this
theorem Jw(as:List Ac)(h:∀a∈as,jw a):(as.flatMap Ac.bs).length<=4*as.length:=by
 induction as with
 |nil=>exact Be _
 |cons a r c=>
  rw[List.flatMap_cons,An,Ax];have:=(qk (h a Am).1).2;have:=c λb d=>h b (Ak _ d);omega
theorem r8(ob:kd b)(p):(kn b.1 b.2 p).length<=36:=by
 unfold kn;rw[An];have:=Jw (b.2.take p) λa c=>ob.2.2.2.1 a (Dv c);have:=ob.1;have:=ob.2.2.1;have:=Ft p b.2;omega
def LX(ps:Pg)(mm:Nat)(n0:Int)(ds:List Ab)(δ:Sl)(n:Int):Prop:=∃(hs:List Hn)(re:Pg)(x4 x5 x6 x7:Option SV),δ=[ae (.w .tp),↑(cf ps),↑(.int mm),ae (.own (hs.map cM)),x4,x5,x6,x7]/\ds=re.map eD/\re=ps.drop hs.length/\hs.length<=ps.length /\
 (∀(i:Nat)(P:List Bl),i < hs.length->ps[i]?=ae P->∃(h:Hn)(b:Bl),hs[i]?=ae h/\P[h.1]?=ae b/\okHn b h)/\n+42*(ds.length:Int)<=n0+210
theorem Vq:bK pC Tg ["_law_tape_here","_law_programs","_law_most","_law_hands","_law_program_here","_law_block","_law_place","_law_names"]:=λws n0 Q h=>by
 obtain⟨y,Z,rfl,hmm,⟨p_,C⟩,hn0,k⟩:=h;refine ax (iY ?_);dsimp only[Ay];refine ax ?_;unfold aZ cn;refine au rfl (eC (LX y Z n0) (λδ n I=>?_) (λd r δ n N I kN=>?_) _ _ _ ⟨[],y,_,_,_,_,rfl,rfl,rfl,Be _,λi P s=>f_ s (Nat.not_lt_zero _),by rw[Ad];omega⟩)
 ·obtain⟨o,re,x4,x5,x6,x7,rfl,S,c,T,l,J⟩:=I;rw[(C0.mp S.symm)]at c;have j_:=List.drop_eq_nil_iff.mp c.symm;dsimp only;refine gW rfl (aW (c5 (aT (au rfl (bw (au rfl (au rfl (Cs Z ⟨rfl,by omega,by simp at J;omega,λns n' V O=>?_⟩))))))));exact Al (show 2<=1000 by decide) (k o ns n' ⟨by omega,λi P s=>l i P (by have:=(Aw.mp s).1;omega) s⟩ V (by grind))
 ·obtain⟨o,re,x4,x5,x6,x7,rfl,S,c,T,l,J⟩:=I;obtain⟨P,K,rfl,rfl,rfl⟩:=Cf.mp S.symm;rw[Ax,Ad]at J;have M:o.length < y.length:=by
   have:=congrArg Fu c;rw[Ax,Ct]at this;omega
  have f:=F4 M;rw[<-c]at f;obtain⟨hP,v⟩:=E4 f;have x:y[o.length]?=ae P:=by simp_all
  obtain⟨g1,g2,g3⟩:=C P (A0 x);refine ax (gQ rfl (λQ q=>aT (au rfl q)) ⋯ (by rw[Ad];omega) (by rw[Ad];omega) λr r0 r1=>?_);rw[Ad]at r1;obtain⟨b,hb⟩:∃b:Nat,r=b:=⟨r.toNat,by omega⟩;subst hb;have D:b < P.length:=by omega
  obtain⟨B,a⟩:∃B:Bl,P[b]?=ae B:=⟨_,Ai D⟩;obtain⟨w,t⟩:=B;have W:(P.map dI)[b]?=ae (dI (w,t)):=by rw[Ap,a];rfl
  obtain⟨F,_⟩:=g3 _ (A0 a);have has:t.length<=8:=F.2.2.1;dsimp only[Ay];refine ax (gQ (m:=((t.map Ac.d).length:Int)+1) rfl (λQ q=>aq (aT (aq (aq (au rfl (au rfl (bB W (aA (d9 ?_)))))))) ) ⋯ ⋯ (by rw[Ad];omega) λr r0' L=>?_)
  ·exact dy q
  rw[Ad]at L;obtain⟨p,hp⟩:∃p:Nat,r=p:=⟨r.toNat,by omega⟩;subst hp;dsimp only[Ay];refine ax (aT (aY (bC (au rfl (au rfl (au rfl (Cs P ⟨b,p,_,rfl,a,F,by show p<=t.length;omega,λys u R hup g=>?_⟩)))))));have hys:=A5 (ma u λz hz=>(g z).mp hz) (r8 F p);refine FR ys [] af _ ⋯ (λp hp=>by trivial) λnm n' e G O=>?_;rw[Er,Fg]at e;have hnl:nm.length=ys.length:=by rw[<-e,Ad]
  have E:okHn (w,t) (b,p,nm):=⟨by show p<=t.length;omega,by rw[e];exact u,λq Y=>⟨R _ (by rw[<-e];exact A6.mpr ⟨q,Y,rfl⟩),G q Y⟩,(by have q:gH (nm.map (·.1)):=(by simp_all);unfold gH at q;rw[Fl]at q;exact q),λk=>by rw[e];exact g k,by show nm.length<=40;omega⟩;dsimp only[eT];refine jk rfl (jm (au rfl (au rfl (au rfl (Al (show 3<=1000 by decide) (Al (by rw[Ad];omega) (kN _ _ ⟨o++[(b,p,nm)],K,_,_,_,_,by rw[Bf];rfl,rfl,by rw[An];exact v,by rw[An,Az];omega,λi P' s j=>?_,by rw[Ad];omega⟩)))))));rw[An,Az]at s;by_cases z:i < o.length
  ·obtain⟨h,b',q1,q2,q3⟩:=l i P' z j;exact⟨h,b',by simp_all⟩
  ·have z':i=o.length:=by omega
   subst z';rw[x]at j;cases j;exact⟨_,_,by simp,a,E⟩
theorem mD{α:Type}{rest:Sl}(f g)(p):∀(xs:List α)(i':List Ab)(x:Option SV)(n:Int),(∀a∈xs,∀(n:Int)(Q':Bool->Int->Prop),Q' (p a) n->c (↑(f a)::rest) n Q')->(∀a∈xs,∀(n:Int)(Q':DQ),Q' (.d (g a)) n->w (↑(f a)::rest) n Q')->Q (i'++(xs.filter p).map g) n->c6 (aG 0) c w Q (xs.map f) i' (x::rest) n
 |[],i',x,n,_,_,q=>by rw[List.filter_nil,Er,Bk]at q;exact q
 |a::r,i',x,n,j,h,q=>by
  refine j a Am n _ ?_;cases e:p a with
  |true=>
   refine h a Am n _ (mD f g p r _ _ n (λb i=>j b (Ak _ i)) (λb i=>h b (Ak _ i)) ?_);rw[Fx,a' e]at q;rw[Bp];exact q
  |false=>
   refine mD f g p r i' _ n (λb i=>j b (Ak _ i)) (λb i=>h b (Ak _ i)) ?_;simp_all
structure HandAt(ps:Pg)(hs:List Hn)(h:Nat)(P:List Bl)(xb xp:Nat)(nm:Nm)(w:List Str)(as:List Ac):Prop where
 prog:ps[h]?=ae P
 hand:hs[h]?=ae (xb,xp,nm)
 blk:P[xb]?=ae (w,as)
 hn:okHn (w,as) (xb,xp,nm)
theorem iX(ok:okHs ps hs)(hh:h < ps.length):∃P xb xp nm w as,HandAt ps hs h P xb xp nm w as:=by
 have a:=Ai hh;obtain⟨⟨xb,xp,d⟩,⟨w,as⟩,e,c,b⟩:=ok.2 h _ a;exact⟨_,xb,xp,d,w,as,a,e,c,b⟩
section
variable{ps:Pg}{hs:List Hn}{h:Nat}{P:List Bl}{xb xp:Nat}{nm:Nm}{w:List Str}{as:List Ac}
theorem HandAt.act(H:HandAt ps hs h P xb xp nm w as):bS ps hs h=as[xp]?:=by
 unfold bS;rw[H.prog,H.hand];show(P[xb]?.bind λb=>b.2[xp]?)=_;rw[H.blk];rfl
theorem HandAt.nms(H:HandAt ps hs h P xb xp nm w as):okN nm:=H.hn.n
theorem HandAt.nmq(H:HandAt ps hs h P xb xp nm w as):ug hs h=nm:=by unfold ug;rw[H.hand];rfl
theorem HandAt.ok(H:HandAt ps hs h P xb xp nm w as)(ok:bT ps)(e:bS ps hs h=ae a):jw a:=by
 rw[H.act]at e;exact((ok.2 P (A0 H.prog)).2.2 _ (A0 H.blk)).1.2.2.2.1 a (A0 e)
theorem HandAt.hD(H:HandAt ps hs h P xb xp nm w as):(hs.map cM)[h]?=ae (.tuple [.int xb,.int xp,dh nm]):=by rw[Ap,H.hand];rfl
theorem HandAt.pD(H:HandAt ps hs h P xb xp nm w as):(ps.map eD)[h]?=ae (.tuple (P.map dI)):=by rw[Ap,H.prog];rfl
theorem HandAt.bD(H:HandAt ps hs h P xb xp nm w as):(P.map dI)[xb]?=ae (.tuple [eB w,.tuple (as.map Ac.d)]):=by rw[Ap,H.blk];rfl
end
theorem BN{i j xp:Nat}{as:List Ac}(e4:δ[j]?=ae (↑(.int xp)))(e5:δ[i]?=ae (↑(.tuple (as.map Ac.d))))(k:Q (.d (qz as[xp]?)) n):gq (cT (w2 (aj j) (wB aI (ao (aj i) ak)) fm)) (w2 (aj i) (aj j) aw) (wC .none) δ n Q:=by
 refine iQ (λQ q=>ay (λQ q=>aq (au e4 (aT (au e5 (wG q))))) q) ?_;rw[Ad];by_cases z:(xp:Int) < (as.length:Nat)
 ·rw[a' (b_ z)];have a:xp < as.length:=by omega
  have b:(as.map Ac.d)[xp]?=ae (Ac.d as[xp]):=by rw[Ap,Ai a];rfl
  rw[Ai a]at k;exact aq (au e5 (au e4 (bB b k)))
 ·rw[a_ (by simpa using z)];rw[Dk ⋯]at k;assumption
theorem M4:bK nj Rf ["programs","stand","hand","block","place","acts"]:=λws n Q h=>by
 obtain⟨c,i,e,h,rfl,a,b,k⟩:=h;obtain⟨P,j,d,g,w,f,H⟩:=iX a b;rw[H.act]at k;refine ax (bH (λQ q=>aq (aq (aq (au rfl (aA (du (au rfl (bB H.hD (aA (du q)))))))))) ?_);dsimp only[Ay];refine ax (bH (λQ q=>aq (aq (aq (au rfl (aA (du (au rfl (bB H.hD (aA (d9 q)))))))))) ?_);dsimp only[Ay];refine ax (bH (λQ q=>aq (aq (aq (au rfl (au rfl (bB H.pD (au rfl (bB H.bD (aA (d9 q)))))))))) ?_);dsimp only[Ay];exact aW (BN rfl rfl k)
theorem GJ:∀{row:List Ab},(∀d∈row,ck d=ah)->∃k:List aJ,row=k.map DL.vD
 |[],_=>⟨[],rfl⟩
 |d::r,h=>by
  obtain⟨k,rfl⟩:=GJ λe a=>h e (Ak _ a);have c:=h d Am;cases d with
  |int i=>exact⟨.inl i::k,rfl⟩
  |str x=>exact⟨.inr x::k,rfl⟩
  |_=>cases c
theorem rg(k)(m):cw k (m+1)=.int k::cw (k+1) m:=by
 unfold cw;rw[List.range_succ_eq_map,Ba,B7]
 congr 1
 ·rw[show((0:Nat):Int)=0 from rfl,Int.add_zero]
 ·refine Cn λi _=>?_;show PyData.int _=.int _;have:k+((i+1:Nat):Int)=k+1+i:=by omega
  rw[this]
theorem vE(h:f.pt=ah):(Fe.fd f).d=f.d:=by cases f<;>first|rfl|cases h
theorem oA(ok:d8 fs)(h:gO fs):cK fs=gX (fs.map Fe.fd)/\p7 (fs.map Fe.fd):=by
 refine⟨?_,by rw[Ad];exact h.1,by rw[Ad];exact ok.1,λg b=>?_⟩
 ·unfold cK gX;rw[B7]
  congr 1
  exact Cn λf a=>(vE (h.2 f a)).symm
 ·obtain⟨f,a,rfl⟩:=A6.mp b;have:=ok.2 f a;cases f<;>first|exact this|trivial
theorem zq{a:Ac}(h:a.pf=af):a.wt=ai/\∃s r,a.d=.tuple (.str s::r)/\cW (.str s) [.str "take",.str "read",.str "look"]=ai/\cW (.str s) [.str "take",.str "read"]=ai:=by
 cases a with
 |lay c j=>exact⟨rfl,_,_,rfl,by trivial⟩
 |same f g b=>exact⟨rfl,_,_,rfl,by trivial⟩
 |go b=>exact⟨rfl,_,_,rfl,by trivial⟩
 |take c=>cases h
 |read c=>cases h
 |look c b=>cases h
theorem sy(h:a.pf=ae fs)(ok:jw a):p7 fs/\∃s r,a.d=.tuple (.str s::gX fs::r)/\cW (.str s) [.str "take",.str "read",.str "look"]=ah/\cW (.str s) [.str "take",.str "read"]=a.wt:=by
 cases a with
 |lay fs k=>cases h
 |same f g b=>cases h
 |go b=>cases h
 |take c=>
  cases h;obtain⟨e,o⟩:=oA (fs:=c) ok.1 ok.2;exact⟨o,_,[],by rw[<-e];rfl,by trivial⟩
 |read c=>
  cases h;obtain⟨e,o⟩:=oA (fs:=c) ok.1 ok.2;exact⟨o,_,[],by rw[<-e];rfl,by trivial⟩
 |look c b=>
  cases h;obtain⟨e,o⟩:=oA (fs:=c) ok.1 ok.2;exact⟨o,_,_,by rw[<-e];rfl,by trivial⟩
theorem R8(fs)(row)(nm):fU (dN fs row nm)=!cG fs row nm:=by
 unfold dN;cases cG fs row nm<;>rfl
theorem rE:bf fs nm (q::r)=if cG fs q.1 nm=ah then ae 0 else(bf fs nm r).map (·+1):=by
 unfold bf;rw[List.findIdx?_cons]
theorem Oy(h:hV (gb m k d) k'=ah):k'=k\/hV m k'=ah:=by
 unfold gb at h
 split at h
 ·unfold hV at h ⊢;rw[List.any_map,Ee]at h;obtain⟨p,b,e⟩:=h;refine .inr (Ee.mpr ⟨p,b,?_⟩);have a:=d_ e;dsimp only at a;by_cases z:p.1=k
  ·rw[a' z]at a;exact b_ a
  ·rw[a_ z]at a;exact b_ a
 ·unfold hV at h ⊢;rw[List.any_append,Bool.or_eq_true]at h;rcases h with h|h
  ·exact .inr h
  ·simp at h;exact .inl h.symm
theorem QV:(gb m k d).length<=m.length+1:=by
 unfold gb
 split
 ·rw[Ad];omega
 ·rw[An];exact Bh _
section
variable{δ:Sl}{n:Int}{Q:DQ}{K:DEnds}{W V:aE}{i:Nat}
theorem jK{neg:Bool}(k:Q (.d (.bool (if neg then !fU a else fU a))) n):bJ neg (.d a) (.d .none) n Q:=k
theorem BY{neg:Bool}(k:Q (.d (.bool (if neg then !fU a else fU a))) n):jO neg (.d a) (.d .none) n Q:=.inr k
theorem UJ(k:Q (.d (.bool neg)) n):jO neg (.ob o) (.d .none) n Q:=.inl ⟨o,rfl,rfl,k⟩
theorem yg(e:δ[i]?=ae (↑(.tuple (.str s::r))))(h:cW (.str s) [.str a,.str b]=k)(q:Q (.d (.bool !k)) n):w2 (w2 (aj i) (wC (.int 0)) aw) (aC (ao (wC (.str a)) (ao (wC (.str b)) ak))) (hZ ah) δ n Q:=by
 refine aq (cD e ?_);show 2<=1000/\fo _=ah/\_/\Q _ n;exact⟨by decide,rfl,rfl,by simp_all⟩
theorem AO{Q:Bool->Int->Prop}(e:δ[i]?=ae (↑(.tuple (.str s::r))))(h:cW (.str s) (hs.map .str)=k)(q:Q (!k) n):cT (qd hs (w2 (aj i) (wC (.int 0)) aw)) δ n Q:=cD e ⟨_,rfl,rfl,by rw[h];exact q⟩
theorem zy(e0:δ[i]?=ae (↑(cf ps)))(e1:δ[j]?=ae (↑(b3 hs ns)))(e2:δ[l]?=ae (↑(.int h)))(ok:okHs ps hs)(hh:h < ps.length)(k:Q (.d (qz (bS ps hs h))) n):aB nj (ao (aj i) (ao (aj j) (ao (aj l) ak))) δ n Q:=
 bC (au e0 (au e1 (au e2 ⟨ps,hs,ns,h,rfl,ok,hh,k⟩)))
end
theorem Qf:bK uN Px ["programs","stand","hand","act","names","tried","place","note"]:=λws n Q h=>by
 obtain⟨X,hs,R,h,rfl,⟨G,C,y⟩,S,k⟩:=h;obtain⟨P,xb,xp,l,w,as,H⟩:=iX C S;unfold ew at k;rw[H.nmq]at k;refine ax (bH (λQ q=>zy rfl rfl rfl C S q) ?_);dsimp only[Ay];cases L:bS X hs h with
 |none=>
  rw[L]at k;assumption
 |some a=>
  rw[L]at k;have k:Q (.d (jt (a.pf.bind λfs=>bf fs l R))) n:=k;show ar _ _ [ae _,ae _,ae _,↑a.d,af,af,af,af] n _;cases E:a.pf with
  |none=>
   rw[E]at k;obtain⟨_,s,r,e,F,_⟩:=zq E;rw[e];exact ax (aQ (λQ q=>iN (λQ q=>ay (λQ q=>aq (au rfl (aA (jK q)))) q) (AO rfl F q)) (aW (aA k)))
  |some fs=>
   rw[E]at k;obtain⟨of,s,r,e,F,_⟩:=sy E (H.ok G L);rw[e];refine ax (aU (λQ q=>iN (λQ q=>ay (λQ q=>aq (au rfl (aA (jK q)))) q) (AO rfl F q)) ?_);dsimp only[aF];refine ax (bH (λQ q=>aq (aq (aq (au rfl (aA (du (au rfl (bB H.hD (aA (dP q)))))))))) ?_);dsimp only[Ay];refine ax (?_);unfold uE;dsimp only[Ay];refine ax (aq (au rfl (aA (d9 ⟨_,rfl,?_⟩))));refine eC (λds δ m=>m=n/\∃(f:List Nt)(j:Nat)(b:List _)(J K:Option SV),ds=jf j (f.map fQ)/\δ=[ae _,ae _,ae _,ae _,ae _,ae (.odt b),J,K] /\
    (∀q∈f,mT q)/\b.length+f.length<=100/\(∀c,hV b c=ah->cG fs (c.map DL.vD) l=ai)/\Q (.d (jt ((bf fs l f).map (·+j)))) n) (λδ m I=>?_) (λd r' δ m N I kN=>?_) _ _ _ ⟨rfl,R,0,[],_,_,rfl,rfl,y.2,by have:=y.1;simpa using this,λl_ z=>(by cases z),?_⟩
   ·obtain⟨rfl,f,j,b,J,K,p,rfl,_,_,_,D⟩:=I;have:f=[]:=by
     cases f with
     |nil=>rfl
     |cons q f=>rw[Ba]at p;cases p
    subst this;exact(D)
   ·obtain⟨rfl,f,j,b,J,K,p,rfl,v,Y,V,D⟩:=I;cases f with
    |nil=>cases p
    |cons q f=>
     rw[Ba,Vv]at p;obtain⟨rfl,rfl⟩:=E4 p;rw[Ax]at Y;have O:=v q Am;obtain⟨c,M⟩:=GJ O.1.2;have A:∀i,i.length<=b.length+1->(∀c,hV i c=ah->cG fs _ l=ai)->cG fs q.1 l=ai->N [ae _,ae _,ae _,ae _,ae _,ae _,↑(.int j),↑(fQ q)] m:=λkvs' a1 a2 Z=>by
      refine kN _ _ ⟨rfl,f,j+1,_,_,_,by rw[show((j+1:Nat):Int)=j+1 from rfl],rfl,λx hx=>v x (Ak _ hx),by omega,a2,?_⟩;rw[rE,a_ (by rw[Z];simp)]at D;have:((λx=>x+j) ∘ λx=>x+1)=λx=>x+(j+1):=funext λx=>by show x+1+j=x+(j+1);omega
      simp_all
     refine⟨rfl,?_⟩;dsimp only[bE,cZ,Ay];refine cP (show qS 5 _ _ _ _ from cD rfl ⟨c,b,by rw[M];rfl,rfl,?_⟩);show if _=ah then _ else _
     cases et:hV b c with
     |true=>
      exact A b ⋯ V (by simp_all)
     |false=>
      refine ax (cP (aq (bC (cq rfl (cD rfl (au rfl ⟨fs,q.1,l,rfl,of,O.1,H.nms,aA (jK ?_)⟩))))));show if (!fU _)=ah then _ else _
      rw[R8,Bool.not_not];cases W:cG fs q.1 l with
      |true=>
       rw[rE,a' W,Option.map_some,Nat.zero_add]at D;exact aW (au rfl D)
      |false=>
       rw[a_ A7];dsimp only[aF];refine aA ⟨b,rfl,cD rfl ⟨c,_,rfl,by rw[M];rfl,by omega,A _ QV (λkey' z=>?_) W⟩⟩;rcases Oy z with rfl|z
       ·rw[<-M];omega
       ·exact V key' z
   ·have:(λx:Nat=>x+0)=id:=rfl;rw[this,Option.map_id];exact k
theorem qT(e:bS ps hs h=ae a):cu ps hs ns h=(!a.wt || (ew ps hs ns h).isSome):=by unfold cu;simp_all
theorem Uu(oa:jw a):∃s r,a.d=.tuple (.str s::r)/\cW (.str s) [.str "take",.str "read"]=a.wt:=by
 cases c:a.pf with
 |none=>
  obtain⟨f,s,r,e,_,b⟩:=zq c;exact⟨s,r,e,by simp_all⟩
 |some g=>
  obtain⟨_,s,r,e,_,b⟩:=sy c oa;exact⟨s,_,e,b⟩
section
variable{δ:Sl}{n:Int}{Q:DQ}{w u:DT}{ds i j:List Ab}
theorem VG(xs:List Ab)(hp:p<=xs.length):bz xs (ae (p:Int)) af=xs.drop p:=by
 unfold bz;rw[HT.sIx_nat,HT.sIx_none,Nat.min_eq_left hp];exact List.take_of_length_le (by simp)
theorem qM{p:Nat}(hw:∀Q:DQ,Q (.d (.tuple ds)) n->w δ n Q)(hu:∀Q:DQ,Q (.d (.int p)) n->u δ n Q)(hp:p<=ds.length)(k:Q (.d (.tuple (ds.take p))) n):cx w cb (b8 u) δ n Q:=by
 refine hw _ (hu _ ?_);dsimp only;rw[tZ _ hp];exact k
theorem pP{p:Nat}(hw:∀Q:DQ,Q (.d (.tuple ds)) n->w δ n Q)(hu:∀Q:DQ,Q (.d (.int p)) n->u δ n Q)(hp:p<=ds.length)(k:Q (.d (.tuple (ds.drop p))) n):cx w (b8 u) cb δ n Q:=by
 refine hw _ ?_;dsimp only[cb];refine hu _ ?_;dsimp only;rw[VG _ hp];exact k
theorem j5(h:i.length+j.length<=1000000)(k:Q (.d (.tuple (i++j))) n):d3 (.d (.tuple i)) (.d (.tuple j)) n Q:=by
 cases i with
 |nil=>exact k
 |cons a r=>exact⟨.inl (λz=>nomatch z),A5 h ∎,k⟩
end
theorem Qy(h0:0<=i)(h1:i<=m):fh 0 m (.int i)=ah:=by
 show(decide _&&decide _)=ah;rw[b_ h0,b_ h1];rfl
theorem S6:bK wg NW ["value"]:=λws n Q h=>by
 obtain⟨v,rfl,a,k⟩:=h;cases v with
 |str x=>exact k
 |int i=>
  have k:Q (.d (if i=99 then PyData.int 0 else PyData.int _)) n:=k;show if decide _=ah then Q _ n else Q _ n
  refine HU (λe=>?_) λe=>?_
  ·rw[a' e]at k;exact k
  ·rw[a_ e]at k;exact k
 |_=>cases a
theorem Ri:bK nk U7 ["field","having","value"]:=λws n Q h=>by
 obtain⟨f,g,rfl,⟨_,i,b⟩,k⟩:=h;cases f with
 |isv d=>exact k
 |as x=>
  obtain⟨v,e,c⟩:=b x rfl;have k:Q (.d ((look g x).getD .none)) n:=k;rw[e]at k;refine ax (eE rfl (by rfl) ?_);dsimp only[aF];refine ax ?_;show(match b9 _ (.inr x)with|some d=>_|none=>False);rw[jh,e];exact k
 |nx x=>
  obtain⟨v,e,c⟩:=b x rfl;have k:Q (.d (ka ((look g x).getD .none))) n:=k;rw[e]at k;refine ax (eE rfl (by rfl) ?_);dsimp only[aF];refine ax ?_;show(match b9 _ (.inr x)with|some d=>_|none=>False);rw[jh,e];exact⟨v,rfl,c,k⟩
 |_=>cases i
theorem P2(q:Q ah n):aR δ n Q:=q
theorem Py{α:Type}{rest:Sl}(f g)(xs:List α)(x)(n)(h:∀a∈xs,∀(n:Int) (Q':DQ),Q' (.d (g a)) n->w (↑(f a)::rest) n Q')(q:Q (xs.map g) n):c6 (aG 0) aR w Q (xs.map f) [] (x::rest) n:=by
 refine mD f g _ xs [] x n (λa _ n Q' q=>P2 q) h ?_;rw[List.filter_eq_self.mpr λ_ _=>rfl];exact q
theorem LN(k:Q (.d (.tuple ds)) n):eT [.d (.list ds)] n Q:=k
theorem Rt:bK qy Rv ["template","names","having"]:=λws n Q h=>by
 obtain⟨g,e,rfl,i,b,a,k⟩:=h;refine ax (sq rfl a ?_);dsimp only[Ay];refine aW (aT (aY (fN (λQ q=>au rfl q) ?_)));show c6 _ _ _ _ _ _ [af,ae _] n;exact Py Fe.d _ g af n (λf c n j q=>bw (au rfl (⟨f,e,rfl,b f c,q⟩))) (LN k)
theorem L4:bK l7 NQ ["place","names"]:=λws n Q h=>by
 obtain⟨x,a,rfl,k⟩:=h;exact aW (jm (cD rfl (aq (cq rfl (aA (dy (au rfl (Al (show 3<=1000 by decide) k))))))))
theorem Jg:bK oG S9 ["program","block","names","wanted"]:=λws n Q h=>by
 obtain⟨P,b,j,⟨w,e⟩,rfl,g,m,k⟩:=h;have a:(P.map dI)[b]?=ae (.tuple [eB w,.tuple (e.map Ac.d)]):=by rw[Ap,g];rfl
 have i:kW P b=w:=by unfold kW;simp_all
 unfold cv at k;rw[i]at k;refine ax (bH (λQ q=>aq (aq (au rfl (au rfl (bB a (aA (du q))))))) ?_);dsimp only[Ay];refine aW (jm (au rfl (aA (aT (aY (fN (λQ q=>au rfl q) ?_))))));show c6 _ _ _ _ _ _ [af,ae _] n;refine mD iV iV (λp=>decide (p.1∈w)) j [] af n (λp _ n f q=>ay (λQ q=>aq (cD rfl (au rfl ⟨rfl,oB w,?_⟩))) q) (λp _ n f q=>au rfl q) ?_
 ·show Q _ n;rw[ky];exact q
 ·exact Al (show 3<=1000 by decide) k
theorem UK:bK jd Ov ["hands","hand","place"]:=λws n Q h=>by
 obtain⟨c,h,x,rfl,e,f,k⟩:=h;have d:(bg c h x).map cM=((c.map cM).take h++[cM x])++(c.map cM).drop (h+1):=by
  unfold bg;simp
 rw[d]at k;have g:((c.map cM).take h).length<=5:=A5 (Ft _ _) (by rw[Ad];omega);have i:((c.map cM).drop (h+1)).length<=5:=by rw[Ct,Ad];omega
 exact aW (aq (aq (qM (λQ q=>au rfl q) (λQ q=>au rfl q) (by rw[Ad];omega) (lM (au rfl (Al (show 1<=1000 by decide) (j5 (by rw[Az];omega) (pP (p:=h+1) (λQ q=>au rfl q) (λQ q=>aq (au rfl (aA (dy q)))) (by rw[Ad];omega) (j5 (by rw[An,Az];omega) k)))))))))
theorem Rp:bK uq Q2 ["note"]:=λws n Q h=>by
 obtain⟨⟨d,a⟩,rfl,e,k⟩:=h;rcases e with rfl|⟨i,rfl,_⟩
 ·exact aW (iQ (λQ q=>ay (k:=ah) (λQ q=>aq (cq rfl (aA (jK q)))) q) (by rw[a' rfl];exact au rfl k))
 ·exact aW (iQ (λQ q=>ay (k:=ai) (λQ q=>aq (cq rfl (aA (jK q)))) q) (c5 (cD rfl (aq (cq rfl (aA (Al (show 2<=1000 by decide) k)))))))
theorem xN(ha:iO a)(k:Q (.d (.bool (!gE a))) n):di (.d a) (.d (.int 1)) n Q:=by
 rcases ha with rfl|⟨i,rfl,_⟩<;>exact k
theorem RW:bK v5 Lf ["stand"]:=λws n Q h=>by
 obtain⟨g,f,rfl,c,k⟩:=h;refine aW (c5 (cD rfl (aT (aY (fN (λQ q=>cq rfl q) ?_)))));show c6 _ _ _ _ _ _ [af] n;refine mD fQ _ _ f [] af n (λq a n d b=>ay (λQ e=>aq (cq rfl (aA (xN (c q a) e)))) b) (λq a n d b=>cI (au rfl ⟨q,rfl,c q a,b⟩)) (Al (show 2<=1000 by decide) ?_);unfold b3 fI ez at k;rw[B7]at k;exact k
theorem Oi:∀j:Fin 100,ck (.int ((j.val:Nat):Int))=ah:=by trivial
theorem lF(h0:0<=i)(h1:i<=99):ck (.int i)=ah:=by
 have:=Oi ⟨i.toNat,by omega⟩;rw[show((i.toNat:Nat):Int)=i by omega]at this;omega
theorem wN(h:ck (.int i)=ah):0<=i/\i<=99:=by
 simp only[ck,decide_eq_true_eq]at h;simp_all
theorem sN(h:ck v=ah):ck (ka v)=ah:=by
 cases v with
 |str x=>exact h
 |int i=>
  obtain⟨c,d⟩:=wN h;show ck (if i=99 then .int 0 else .int _)=ah
  split
  ·exact lF ∎ ∎
  ·exact lF ⋯ ⋯
 |_=>cases h
theorem gj(h:eG nm f):ck (fq nm f)=ah:=by
 obtain⟨c,i,b⟩:=h;cases f with
 |isv d=>exact c
 |as k=>obtain⟨v,e,a⟩:=b k rfl;show ck ((look nm k).getD .none)=ah;rw[e];exact a
 |nx k=>obtain⟨v,e,a⟩:=b k rfl;show ck (ka ((look nm k).getD .none))=ah;rw[e];exact sN a
 |_=>cases i
theorem wU(ha:ck a=ah)(hb:ck b=ah)(k:Q (.d (.bool (fP a b))) n):bj (.d a) (.d b) n Q:=by
 unfold bj;simp only[l4 ha hb];exact k
theorem Vd:bK uu Mm ["act","names","having"]:=λws n Q h=>by
 obtain⟨f,g,b,e,rfl,c,d,_,_,a,k⟩:=h;refine ax (sq rfl a ?_);dsimp only[Ay];exact aW (aq (bw (cq rfl (⟨f,e,rfl,c,bw (aq (au rfl (aA (dP (⟨g,e,rfl,d,wU (gj c) (gj d) k⟩)))))⟩))))
theorem tD(h:bf fs nm ns=ae i):∃q,ns[i]?=ae q/\cG fs q.1 nm=ah:=by
 unfold bf at h;rw[Gg]at h;obtain⟨a,b,_⟩:=h;exact⟨_,Ai a,b⟩
theorem z3(h:cG fs row nm=ah):dN fs row nm=dh (b7 (eY fs row nm)):=by unfold dN;rw[a' h]
theorem lW(H:HandAt ps hs h P xb xp nm w as)(e:bS ps hs h=ae a):ef ps hs ns h=(oP P (xb,xp,nm) ns a).map λr=>(bg hs h r.1,r.2):=by
 unfold ef;rw[H.prog,H.hand,e];rfl
theorem iP(e:bf (fs.map Fe.fd) x.2.2 ns=af):bI fs x ns=af:=by unfold bI;rw[e];rfl
theorem iZ(e:bf (fs.map Fe.fd) x.2.2 ns=ae i):bI fs x ns=ae (i,eJ x (b7 (eY (fs.map Fe.fd) (cX ns i) x.2.2))):=by unfold bI;rw[e];rfl
theorem Pb(k:Q (.d (.bool (!c4 h (.str s)))) n):di (.d (.str s)) (.d (.str h)) n Q:=k
theorem FC(ns:List Nt)(i):(cR ns i).map fQ=(ns.map fQ).take i++(ns.map fQ).drop (i+1):=by unfold cR;simp
section
variable{ps:Pg}{hs:List Hn}{ns:List Nt}{h:Nat}{P:List Bl}{xb xp:Nat}{nm:Nm}{w:List Str}{as:List Ac}{n:Int}{Q:DQ}
theorem tP(e1:δ[i1]?=ae (↑(b3 hs ns)))(e2:δ[i2]?=ae (↑(.int h)))(e5:δ[i5]?=ae (↑(fI ns')))(hx:∀Q:DQ,Q (.d (cM x)) n->w2' δ n Q)(hh:h < hs.length)(hl:hs.length<=5)(k:Q (.d (b3 (bg hs h x) ns')) n):
  aC (ao (aB jd (ao (w2 (aj i1) ⇑0 aw) (ao (aj i2) (ao w2' ak)))) (ao (aj i5) ak)) δ n Q:=
 c5 (bC (cD e1 (au e2 (hx _ ⟨hs,h,x,rfl,hh,hl,au e5 (Al (show 2<=1000 by decide) k)⟩))))
theorem uj(H:HandAt ps hs h P xb xp nm w as)(j':bT ps)(n_:okHs ps hs)(o_:d6 100 ns)(hh:h < ps.length)(ea:bS ps hs h=ae a)(ed:a.d=.tuple (.str s::cK gs::r))(hpf:a.pf=ae (gs.map Fe.fd))(hof:d8 gs)(hpat:gO gs)
  (kN:bf (gs.map Fe.fd) nm ns=af->ar (aH (cT (w2 (w2 ↥3 ⇑0 aw) (wC (.str "look")) di)) (av (wC .none)) aF) (av (aC (ao (aB jd (ao (w2 ↥1 ⇑0 aw) (ao ↥2 (ao (aB oG (ao (w2 ↥0 ↥2 aw) (ao (w2 ↥3 ⇑2 aw) (ao (w2 ↥4 ⇑2 aw) ak)))) ak)))) (ao ↥5 ak))))
   [↑(cf ps),↑(b3 hs ns),↑(.int h),↑(.tuple (.str s::cK gs::r)),↑(cM (xb,xp,nm)),↑(fI ns),ae (.w (.d .none)),af] n {nx:=λ_ _=>True,rt:=Q})
  (kS:∀i ns',bf (gs.map Fe.fd) nm ns=ae i->ns'=(if c4 "take" (.str s)=ah then cR ns i else ns)->Q (.d (b3 (bg hs h (eJ (xb,xp,nm) (b7 (eY (gs.map Fe.fd) (cX ns i) nm)))) ns')) n):
  xC [↑(cf ps),↑(b3 hs ns),↑(.int h),↑a.d,af,af,af,af] n {nx:=λ_ n=>Q (.d .none) n,rt:=Q}:=by
 rw[ed];obtain⟨v,o⟩:=oA hof hpat;have m:h < hs.length:=by rw[n_.1];omega
 have l:hs.length<=5:=by rw[n_.1];exact j'.1
 refine ax (bH (λQ q=>aq (aq (au rfl (aA (du (au rfl (bB H.hD q))))))) ?_);dsimp only[Ay];refine ax (bH (λQ q=>cq rfl q) ?_);dsimp only[Ay];have C:ew ps hs ns h=bf (gs.map Fe.fd) nm ns:=by
  unfold ew;rw[H.nmq];simp_all
 refine ax (bH (x:=jt (bf (gs.map Fe.fd) nm ns)) (λQ q=>bC (au rfl (au rfl (au rfl ⟨ps,hs,ns,h,rfl,⟨j',n_,o_⟩,hh,by simp_all⟩)))) ?_);dsimp only[Ay];cases j:bf _ nm ns with
 |none=>exact ax (aQ (λQ q=>ay (λQ q=>aq (au rfl (aA (jK q)))) q) (kN j))
 |some i=>
  obtain⟨⟨b,k⟩,g,A⟩:=tD j;have B:=(Aw.mp g).1;have f:(ns.map fQ)[i]?=ae (.tuple [.tuple b,k]):=by rw[Ap,g];rfl
  have y:cX ns i=b:=by unfold cX;simp_all
  refine ax (aU (λQ q=>ay (λQ q=>aq (au rfl (aA (jK q)))) q) ?_);dsimp only[aF];refine ax (bH (x:=dh (b7 (eY (gs.map Fe.fd) (cX ns i) nm))) (λQ q=>?_) ?_)
  ·refine bC (cq rfl (aq (aq (au rfl (au rfl (bB f (aA (du (aq (au rfl (aA (dP ⟨_,b,nm,by rw[v],o,(o_.2 _ (A0 g)).1,H.nms,?_⟩))))))))))));rw[z3 A];rw[y]at q;exact q
  dsimp only[Ay];have e:∀ns',ns'=(if c4 "take" _=ah then cR ns i else ns)->av (aC (ao (aB jd (ao (w2 ↥1 _ aw) (ao ↥2 (ao (aB l7 (ao ↥4 (ao ↥7 ak))) ak)))) (ao ↥5 ak)))
    [↑(cf ps),↑(b3 hs ns),ae _,↑(.tuple (.str s::cK gs::r)),ae _,ae _,↑(.int i),ae _] n {nx:=λ_ n=>Q (.d .none) n,rt:=Q}:=λns' u=>
   aW (tP rfl rfl rfl (λQ q=>bw (au rfl (au rfl ⟨_,_,rfl,q⟩))) m l (kS i ns' j u))
  refine ax (rD rfl (λz=>?_) λz=>?_)
  ·refine bH (x:=fI (cR ns i)) (λQ q=>aq (qM (λQ q=>au rfl q) (λQ q=>au rfl q) (by rw[Ad];omega) (pP (p:=i+1) (λQ q=>au rfl q) (λQ q=>aq (au rfl (aA (dy q)))) (by rw[Ad];omega) (j5 ?_ ?_)))) ?_
   ·have:=o_.1;rw[C9,Ct,Ad];omega
   ·unfold fI at q;rw[FC]at q;exact q
   ·dsimp only[Ay];exact e _ (by rw[a' z])
  ·dsimp only[aF];exact e ns (by rw[a_ (by rw[z];simp)])
end
theorem UA:bK oR xC ["programs","stand","hand","act","place","notes","number","names"]:=λws n Q h=>by
 obtain⟨R,s,m,h,a,rfl,⟨j,l,u⟩,B,v,C,k⟩:=h;obtain⟨P,W,M,D,w,T,H⟩:=iX l B;have x:=H.ok j v;rw[lW H v]at k;have F:h < s.length:=by rw[l.1];omega
 have E:s.length<=5:=by rw[l.1];exact j.1
 cases a with
 |lay U N=>cases C
 |same f g b=>cases C
 |go b=>cases C
 |take t=>
  refine uj H j l u B v rfl rfl x.1 x.2 (λe=>?_) λi z e p=>?_
  ·have k:Q (.d (iR (((bI t _ m).map λq=>(q.2,cR m q.1)).map λr=>(bg s h r.1,r.2)))) n:=k;rw[iP e]at k;assumption
  ·rw[a' (by rfl)]at p;rw[p];have k:Q (.d (iR (((bI t _ m).map λq=>(q.2,cR m q.1)).map λr=>(bg s h r.1,r.2)))) n:=k;rw[iZ e]at k;exact k
 |read t=>
  refine uj H j l u B v rfl rfl x.1 x.2 (λe=>?_) λi z e p=>?_
  ·have k:Q (.d (iR (((bI t _ m).map λq=>(q.2,m)).map λr=>(bg s h r.1,r.2)))) n:=k;rw[iP e]at k;assumption
  ·rw[a_ ∅]at p;rw[p];have k:Q (.d (iR (((bI t _ m).map λq=>(q.2,m)).map λr=>(bg s h r.1,r.2)))) n:=k;rw[iZ e]at k;exact k
 |look t b=>
  refine uj H j l u B v rfl rfl x.1 x.2 (λe=>?_) λi z e p=>?_
  ·have k:Q (.d (iR ((match bI t _ m with|some q=>ae _|none=>ae (cv P b D,m):Option _).map λr=>(bg s h r.1,r.2)))) n:=k;rw[iP e]at k;rw[H.act]at v;obtain⟨S,A,_⟩:=(((j.2 P (A0 H.prog)).2.2 _ (A0 H.blk)).2 M _ v).2 b rfl;rw[Ap]at A;obtain⟨I,y,_⟩:=Gf.mp A;refine ax (aU (λQ q=>ay (λQ q=>aq (cD rfl (aA (Pb (by assumption))))) q) ?_);dsimp only[aF];refine aW (tP rfl rfl rfl (λQ q=>bC (aq (au rfl (au rfl (bB H.pD ?_))))) F E k);exact aq (au rfl (aA (dP (aq (au rfl (aA (dP ⟨P,b,D,I,rfl,y,(((j.2 P (A0 H.prog)).2.2 I (A0 y)).1).1,q⟩)))))))
  ·rw[a_ ∅]at p;rw[p];have k:Q (.d (iR ((match bI t _ m with|some q=>ae _|none=>ae (cv P b D,m):Option _).map λr=>(bg s h r.1,r.2)))) n:=k;rw[iZ e]at k;exact k
theorem tS(k:w δ n λx n1=>w' δ n1 λy n2=>w'' δ n2 λz n3=>v δ n3 λu n4=>S [x,y,z,u] n4 Q):aB S (ao w (ao w' (ao w'' (ao v ak)))) δ n Q:=k
theorem J7(h:k∈nm.map (·.1)):∃v,look nm k=ae v:=by
 obtain⟨p,a,e⟩:=A6.mp h;have:(nm.any λp=>decide (p.1=k))=ah:=Ee.mpr ⟨p,a,b_ e⟩;rw[qw]at this;exact C2.mp this
theorem Wf{f:Fe}(h:f.tm=ah):f.bd=af:=by cases f<;>first|rfl|cases h
theorem sv{f:Fe}(h:f.te=ah):f.tm=ah:=by cases f<;>first|rfl|cases h
theorem tu:∀{fs:List Fe}{ks:List Str},rF ks fs->(∀f∈fs,f.tm=ah)->∀f∈fs,∀k,f.us=ae k->k∈ks
 |[],_,_,_,f,a,_,_=>by simp_all
 |g::r,ks,h,c,f,a,k,d=>by
  rcases Ao.mp a with rfl|a
  ·exact h.1 k d
  ·have b:=h.2;rw[Wf (c g Am)]at b;have:=tu b (λx e=>c x (Ak _ e)) f a k d;simp_all
section
variable{ps:Pg}{hs:List Hn}{ns:List Nt}{h:Nat}{P:List Bl}{xb xp:Nat}{nm:Nm}{w:List Str}{as:List Ac}{n:Int}{Q:DQ}
theorem HandAt.okb(H:HandAt ps hs h P xb xp nm w as)(j':bT ps):kd (w,as)/\lA (P.map (·.1)) (w,as):=(j'.2 P (A0 H.prog)).2.2 _ (A0 H.blk)
theorem HandAt.right(H:HandAt ps hs h P xb xp nm w as)(j':bT ps)(e:bS ps hs h=ae a):a.right (P.map (·.1)) (kn w as xp):=by
 rw[H.act]at e;exact(H.okb j').2 xp a e
theorem HandAt.fv(H:HandAt ps hs h P xb xp nm w as)(ok:f.ok)(tm:f.tm=ah)(us:∀k,f.us=ae k->k∈kn w as xp):eG nm f:=⟨ok,tm,λk a=>by
 obtain⟨v,e⟩:=J7 ((H.hn.mem k).mpr (us k a));exact⟨v,e,(H.hn.ok _ (km e)).2⟩⟩
theorem HandAt.lay(H:HandAt ps hs h P xb xp nm w as)(j':bT ps)(e:bS ps hs h=ae (.lay fs age)):fs.length<=4/\∀f∈fs,eG nm f:=by
 have a:=H.ok j' e;exact⟨a.1.1,λf b=>H.fv (a.1.2 f b) (a.2.1 f b) (tu ((H.right j' e).1) a.2.1 f b)⟩
theorem HandAt.same(H:HandAt ps hs h P xb xp nm w as)(j':bT ps)(e:bS ps hs h=ae (.same f g b)):eG nm f/\eG nm g/\f.te=ah/\g.te=ah:=by
 have a:=H.ok j' e;have r:=tu (H.right j' e).1 (λx c=>by
  simp only[Ac.fs,Ao,A3,g_]at c;rcases c with rfl|rfl
  ·exact sv a.2.1
  ·exact sv a.2.2)
 exact⟨H.fv (a.1.2 f (by simp[Ac.fs])) (sv a.2.1) (r f (by simp[Ac.fs])),H.fv (a.1.2 g (by simp[Ac.fs])) (sv a.2.2) (r g (by simp[Ac.fs])),a.2.1,a.2.2⟩
theorem HandAt.to(H:HandAt ps hs h P xb xp nm w as)(j':bT ps)(e:bS ps hs h=ae a)(hb:a.to=ae b):∃bl:Bl,P[b]?=ae bl/\kd bl/\∀k∈bl.1,k∈nm.map (·.1):=by
 obtain⟨g,c,f⟩:=(H.right j' e).2 b hb;rw[Ap]at c;obtain⟨bl,d,rfl⟩:=Gf.mp c;exact⟨bl,d,((j'.2 P (A0 H.prog)).2.2 bl (A0 d)).1,λk z=>(H.hn.mem k).mpr (f k z)⟩
end
theorem RV(e:δ[i]?=ae (↑(.tuple [a,b])))(k:Q (.d b) n):w2 (aj i) (dJ (wC (.int 1))) aw δ n Q:=aq (au e k)
theorem Mo(e:δ[i]?=ae (↑(.tuple [a,b,c,d])))(k:Q (.d d) n):w2 (aj i) (dJ (wC (.int 1))) aw δ n Q:=aq (au e k)
theorem Nu:bK vR ME ["programs","stand","hand","act","place","notes","names"]:=λws n Q h=>by
 obtain⟨B,u,y,h,rfl,⟨c,i,E⟩,M,k⟩:=h;obtain⟨P,Z,T,j,w,as,H⟩:=iX i M;have N:h < u.length:=by rw[i.1];omega
 have L:u.length<=5:=by rw[i.1];exact c.1
 refine ax (bH (λQ q=>zy rfl rfl rfl i M q) ?_);dsimp only[Ay];cases m:bS B u h with
 |none=>
  unfold ef at k;rw[H.prog,H.hand,m]at k;assumption
 |some a=>
  show ar _ _ [ae _,ae _,ae _,↑a.d,af,af,af] n _;cases G:a.pf with
  |some v=>
   obtain⟨of,s,r,e,K,_⟩:=sy G (H.ok c m);have S:Q (.d (iR (ef B u y h))) n->aB oR (ao ↥0 (ao ↥1 (ao ↥2 (ao ↥3 ak)))) [ae _,ae _,ae _,ae _,af,af,af] n Q:=λk=>
    tS (au rfl (au rfl (au rfl (au rfl ⟨B,u,y,h,a,rfl,⟨c,i,E⟩,M,m,by simp_all⟩))))
   rw[e]at S ⊢;refine ax (aU (λQ q=>ay (λQ q=>aq (au rfl (aA (jK q)))) q) ?_);dsimp only[aF];exact ax (aQ (λQ q=>qX (λQ q=>cD rfl q) K q) (aW (S k)))
  |none=>
   rw[lW H m]at k;have t:∀(V:aE) s r,a.d=.tuple (.str s::r)->cW _ [.str "take",.str "read",.str "look"]=ai->
     V [ae _,ae _,ae _,↑a.d,ae _,ae _,ae _] n {nx:=λ_ n=>Q _ n,rt:=Q}->
     ar (aH (cT (w2 ↥3 _ (bJ ai))) (av (wC .none)) aF) (ar (aH (cT (fK Za (w2 ↥3 _ aw))) (av (aB oR (ao ↥0 (ao ↥1 (ao ↥2 (ao ↥3 ak)))))) aF) (ar (az 4 (w2 (w2 ↥1 _ aw) ↥2 aw)) (ar (az 5 (w2 ↥1 ⇑1 aw)) (ar (az 6 (w2 ↥4 ⇑2 aw)) V))))
      [↑(cf B),↑(b3 u y),ae _,↑a.d,af,af,af] n {nx:=λ_ n=>Q (.d .none) n,rt:=Q}:=λV s r e K kk=>by
    rw[e]at kk ⊢;refine ax (aU (λQ q=>ay (λQ q=>aq (au rfl (aA (jK q)))) q) ?_);dsimp only[aF];refine ax (aU (λQ q=>qX (λQ q=>cD rfl q) K q) ?_);dsimp only[aF];refine ax (bH (λQ q=>aq (aq (au rfl (aA (du (au rfl (bB H.hD q))))))) ?_);assumption
   have l:∀x C d,Q _ n->av (aC (ao (aB jd (ao (w2 ↥1 _ aw) (ao ↥2 (ao ↥4 ak)))) (ao ↥5 ak))) [↑(cf B),↑(b3 u y),ae _,↑d,↑(cM x),↑(fI C),↑(dh j)] n {nx:=λ_ n=>Q (.d .none) n,rt:=Q}:=λx C d q=>
    aW (tP rfl rfl rfl (λQ q=>au rfl q) N L q)
   cases a with
   |take v=>cases G
   |read v=>cases G
   |look v b=>cases G
   |lay v D=>
    obtain⟨I,O⟩:=H.lay c m;refine t _ "lay" [cK v,D] rfl (by rfl) (ax (lT rfl (by rfl) (ax ?_)));refine bH (x:=fI (y++[(gU v j,D)])) (λQ q=>?_) ?_
    ·refine aq (au rfl (lM (c5 (bw (cq rfl (au rfl ⟨v,j,rfl,I,O,H.nms,aq (au rfl (aA (dP (Al (show 2<=1000 by decide) (Al (show 1<=1000 by decide) (j5 (by rw[Ad,Az];have:=E.1;omega) ?_))))))⟩))))));unfold fI at q;rw[Bf]at q;exact q
    ·dsimp only[Ay];exact bH (λQ q=>bw (au rfl (au rfl ⟨(Z,T,j),j,rfl,q⟩))) (l _ _ _ k)
   |same f g b=>
    obtain⟨hf,hg,tf,tg⟩:=H.same c m;obtain⟨J,o,p,_⟩:=H.to c m rfl;refine t _ "same" [f.d,g.d,.int b] rfl (by rfl) (ax (eE rfl (by rfl) (cP (lJ (λQ q=>fw rfl ?_) ?_))))
    ·rw[show c4 "same" _=ah by rfl];exact q
    refine(bw (au rfl (au rfl ⟨f,g,b,j,rfl,hf,hg,tf,tg,H.nms,?_⟩)));have k:Q (.d (b3 _ y)) n:=k;refine iM (λz=>?_) λz=>?_
    ·rw[a' z]at k;exact bH (λQ q=>bw (au rfl (au rfl ⟨(Z,T,j),j,rfl,q⟩))) (l _ _ _ k)
    ·rw[a_ (by rw[z];simp)]at k;exact bH (λQ q=>bC (aq (au rfl (au rfl (bB H.pD (Mo rfl (au rfl ⟨P,b,j,J,rfl,o,p.1,q⟩))))))) (l _ _ _ k)
   |go b=>
    obtain⟨J,o,p,_⟩:=H.to c m rfl;refine t _ "go" [.int b] rfl (by rfl) (ax (eE rfl (by rfl) (aU (λQ q=>rO (λQ q=>fw rfl ?_) q) ?_)))
    ·rw[show c4 "same" _=ai by rfl];exact q
    exact bH (λQ q=>bC (aq (au rfl (au rfl (bB H.pD (RV rfl (au rfl ⟨P,b,j,J,rfl,o,p.1,q⟩))))))) (l _ _ _ k)
theorem Qj(k:Q (.d (.bool (decide (a=b)))) n):bj (.d (.int a)) (.d (.int b)) n Q:=k
theorem UC:bK rY Jq ["programs","stand","mover","clock"]:=λws n Q h=>by
 obtain⟨b,a,c,m,rfl,d,g,k⟩:=h;refine ax (bH (λQ q=>aT (au rfl (show Q _ n by rw[Ad];exact q))) ?_);dsimp only[Ay];refine ax (aU (λQ q=>cY (λQ q=>ay (k:=ah) (λQ q=>bw (au rfl (au rfl ⟨_,_,rfl,by rw[Qy ⋯ ⋯];exact q⟩))) q) q) ?_);dsimp only[aF];unfold bU at k;refine aW (iQ (λQ q=>ay (λQ q=>aq (au rfl (au rfl (Qj q)))) q) ?_);by_cases e:m=b.length
 ·rw[a' e]at k;rw[a' (b_ ⋯)];exact cI (au rfl ⟨a,c,rfl,λq f=>(d.2.2.2 q f).2,k⟩)
 ·rw[a_ e]at k;rw[a_ (by rw[c_ ⋯];simp)];exact bC (au rfl (au rfl (au rfl ⟨b,a,c,m,rfl,d,by omega,k⟩)))
theorem FT(e:δ[j]?=ae (↑(dh ps)))(ok:okN ps)(k:Q (.dk (cg ps)) n):lL (aj j) δ n Q:=by
 unfold lL lb ju;refine au e ?_;unfold dh;simp only[ux];refine⟨by rw[Ad];have:=ok.1;omega,?_⟩;have:=tT ps [] (ok.2.1);rw[show([]:List _)=cg []from rfl,this];exact k
theorem Qc(h:ck (.int i)=ah):ka (.int i)=.int ((i+1) % 100):=by
 obtain⟨a,b⟩:=wN h;show(if i=99 then PyData.int 0 else PyData.int _)=_
 split
 ·rename_i e;subst e;rfl
 ·rw[Int.emod_eq_of_lt ⋯ ⋯]
theorem yV:∀{xs ys:List Str},xs.Nodup->ys.Nodup->(∀k,k∈xs↔k∈ys)->gH xs->gH ys->xs=ys
 |[],[],_,_,_,_,_=>rfl
 |[],y::ys,_,_,h,_,_=>by have:=(h y).mpr Am;simp at this
 |x::xs,[],_,_,h,_,_=>by have:=(h x).mp Am;simp at this
 |x::xs,y::ys,g,f,h,r,o=>by
  obtain⟨s,j⟩:=D3.mp g;obtain⟨p,d⟩:=D3.mp f;obtain⟨b,m⟩:=C8.mp r;obtain⟨i,c⟩:=C8.mp o;have e:x=y:=by
   rcases Ao.mp ((h x).mp Am)with e|l
   ·exact e
   ·rcases Ao.mp ((h y).mpr Am)with e|n
    ·exact e.symm
    ·exact yC _ _ (i x l) (b y n)
  subst e;rw[yV j d (λk=>⟨λhk=>?_,λhk=>?_⟩) m c]
  ·rcases Ao.mp ((h k).mp (Ak _ hk))with e|q
   ·exact f_ (e▸hk) s
   ·exact q
  ·rcases Ao.mp ((h k).mpr (Ak _ hk))with e|q
   ·exact f_ (e▸hk) p
   ·exact q
theorem Jr{nm:Nm}(nd:(nm.map (·.1)).Nodup)(up:ja nm)(wn:w.Nodup)(wu:gH w)(sub:∀k∈w,k∈nm.map (·.1)):nm.filter (λp=>decide (p.1∈w))=w.map λk=>(k,iD nm k):=by
 have d:(nm.filter λp=>decide (p.1∈w)).map (·.1)=w:=by
  refine yV ?_ wn (λk=>⟨λhk=>?_,λhk=>?_⟩) ?_ wu
  ·exact List.Nodup.sublist (List.Sublist.map _ List.filter_sublist) nd
  ·obtain⟨p,a,rfl⟩:=A6.mp hk;simp_all
  ·obtain⟨p,a,rfl⟩:=A6.mp (sub k hk);exact A6.mpr ⟨p,D4.mpr ⟨a,b_ hk⟩,rfl⟩
  ·unfold gH;rw[Fl];exact List.Pairwise.sublist List.filter_sublist up
 have c:=by
  have:(nm.filter λp=>decide (p.1∈w)).map id=(nm.filter λp=>decide (p.1∈w)).map λp=>(p.1,iD nm p.1):=by
   refine Cn λp a=>?_;have:=xl nd (D4.mp a).1;unfold iD;simp_all
  rw[Dw]at this;omega
 rw[c]
 conv=>rhs;rw[<-d]
 rw[B7];rfl
theorem QK(nd:(nm.map (·.1)).Nodup)(h:cG fs row nm=ah):((eY fs row nm).map (·.1)).Nodup/\(wk (fs.zip row) nm []=ae (eY fs row nm)):=by
 unfold cG at h;rw[Av]at h;unfold eY;obtain⟨x,a⟩:=C2.mp h.2;rw[a];exact⟨kh _ _ _ _ nd a,rfl⟩
theorem sg:∀(l:List (Fd×Ab))(h:Nm)(hs:List Str)(k:Nm),(∀p∈l,p.1.ok/\ck p.2=ah)->(∀p∈h,fj p)->wk l h hs=ae k->(∀p∈k,fj p)/\k.length<=h.length+l.length
 |[],h,hs,k,_,b,e=>by cases e;exact⟨b,Bh _⟩
 | (f,v)::r,h,hs,k,i,b,e=>by
  have g:=λp n=>i p (Ak _ n);have a:wk r h hs=ae k->(∀p∈k,fj p)/\k.length<=h.length+((f,v)::r).length:=λe=>by
   have:=sg r h hs k g b e;exact⟨this.1,by rw[Ax];omega⟩
  cases f with
  |is w=>unfold wk at e;split at e;exact a e;cases e
  |any=>unfold wk at e;exact a e
  |word=>unfold wk at e;split at e;exact a e;cases e
  |number=>unfold wk at e;split at e;exact a e;cases e
  |as x=>
   unfold wk at e
   split at e
   ·split at e
    ·exact a e
    ·cases e
   ·cases e
  |bind x=>
   unfold wk at e
   split at e
   ·split at e
    ·split at e
     ·exact a e
     ·cases e
    ·cases e
   ·have d:=i _ Am;have:=sg r (put h x v) _ k g (oH b d.1 d.2) e;have:=sk h x v;exact⟨by have:=sg r _ _ k g (oH b d.1 d.2) e;exact this.1,by rw[Ax];omega⟩
theorem Kz(of:p7 fs)(or:tJ row):∀p∈fs.zip row,p.1.ok/\ck p.2=ah:=λp a=>⟨of.2.2 _ (Em a).1,or.2 _ (Em a).2⟩
def Sm(k w:Nat)(d:Ab):Prop:=Cq d=ah/\Dq d<=k/\PyData.weight d<=w/\PyData.intsShort 13 d=ah/\PyData.showable d=ah
theorem RF(hh:h < hs.length):bg hs h x=hs.set h x:=by
 rw[List.set_eq_take_append_cons_drop,a' hh];rfl
theorem okHs.put(ok:okHs ps hs)(hP:ps[h]?=ae P)(hb:P[x.1]?=ae b)(hx:okHn b x):okHs ps (bg hs h x):=by
 have c:h < hs.length:=by rw[ok.1];exact(Aw.mp hP).1
 rw[RF c];refine⟨by rw[D5];exact ok.1,λi f a=>?_⟩;by_cases e:h=i
 ·subst e;rw[hP]at a;cases a;exact⟨x,b,List.getElem?_set_self c,hb,hx⟩
 ·obtain⟨d,g,l,k,j⟩:=ok.2 i f a;exact⟨d,g,by rw[B1 e];trivial⟩
theorem HP(h:as[p]?=ae a):kn w as (p+1)=kn w as p++a.bs:=by
 unfold kn;rw[List.take_add_one,h,Bp];simp
theorem uv:∀(l:List (Fd×Ab))(h:Nm)(hs:List Str)(k:Nm),(∀x∈hs,x∈h.map (·.1))->wk l h hs=ae k->∀x,x∈k.map (·.1)↔x∈h.map (·.1)\/∃p∈l,p.1=.bind x
 |[],h,hs,k,_,e,x=>by cases e;simp
 | (f,v)::r,h,hs,k,g,e,x=>by
  have a:wk r h hs=ae k->(∀y,f=.bind y->y∈h.map _)->(x∈k.map _↔x∈h.map _\/∃p∈(f,v)::r,p.1=.bind x):=λe m=>by
   rw[uv r h hs k g e x]
   constructor
   ·rintro(q|⟨p,b,q⟩)
    ·exact .inl q
    ·exact .inr ⟨p,Ak _ b,q⟩
   ·rintro(q|⟨p,b,q⟩)
    ·exact .inl q
    ·rcases Ao.mp b with rfl|b
     ·exact .inl (m x q)
     ·exact .inr ⟨p,b,q⟩
  cases f with
  |is w=>unfold wk at e;split at e;exact a e (λy z=>by cases z);cases e
  |any=>unfold wk at e;exact a e (λy z=>by cases z)
  |word=>unfold wk at e;split at e;exact a e (λy z=>by cases z);cases e
  |number=>unfold wk at e;split at e;exact a e (λy z=>by cases z);cases e
  |as y=>
   unfold wk at e
   split at e
   ·split at e
    ·exact a e (λy z=>by cases z)
    ·cases e
   ·cases e
  |bind y=>
   unfold wk at e
   split at e
   ·rename_i d
    split at e
    ·split at e
     ·exact a e (λz q=>by cases q;exact g y d)
     ·cases e
    ·cases e
   ·have i:∀z,z∈(put h y v).map _↔z∈h.map _\/z=y:=λz=>by
     rw[yz]
     split
     ·rename_i q;obtain⟨p,b,q⟩:=Ee.mp q;have d:=A6.mpr ⟨p,b,d_ q⟩;exact⟨.inl,λq=>q.elim id λq=>q▸d⟩
     ·rw[A1,A4]
    rw[uv r _ _ k (λz o=>(i z).mpr ((A1.mp o).elim (λq=>.inl (g z q)) λq=>.inr (A4.mp q))) e x,i x]
    constructor
    ·rintro((q|rfl)|⟨p,b,q⟩)
     ·exact .inl q
     ·exact .inr ⟨_,Am,rfl⟩
     ·exact .inr ⟨p,Ak _ b,q⟩
    ·rintro(q|⟨p,b,q⟩)
     ·exact .inl (.inl q)
     ·rcases Ao.mp b with rfl|b
      ·cases q;exact .inl (.inr rfl)
      ·exact .inr ⟨p,b,q⟩
theorem KO{row:List Ab}(hp:∀f∈gs,f.pt=ah)(hl:(gs.map Fe.fd).length=row.length)(x):(∃p∈(gs.map Fe.fd).zip row,p.1=.bind x)↔x∈bA gs:=by
 unfold bA;rw[G5]
 constructor
 ·rintro⟨⟨a,b⟩,g,e⟩
  obtain⟨f,c,d⟩:=A6.mp (Em g).1;refine⟨f,c,?_⟩;have e:a=.bind x:=e;rw[e]at d;cases f<;>first|(cases d;rfl)|cases d
 ·rintro⟨f,c,e⟩
  have j:f=.bind x:=by cases f<;>first|(cases e;rfl)|cases e
  subst j;obtain⟨i,h⟩:=B6.mp c;have k:=(Aw.mp h).1;rw[Ad]at hl;refine⟨(.bind x,row[i]'⋯),B6.mpr ⟨i,?_⟩,rfl⟩;rw[List.getElem?_zip_eq_some];exact⟨by rw[Ap,h];rfl,Ai _⟩
theorem KJ(h:iO d)(h1:gE d=ai):iO (jv d):=by
 rcases h with rfl|⟨i,rfl,b,a⟩
 ·exact .inl rfl
 ·have:=by simpa[gE]using h1
  exact .inr ⟨_,rfl,by omega⟩
theorem QX(h:d6 m ns):d6 m (ez ns):=by
 unfold ez;refine⟨by rw[Ad];exact A5 (Gq _ _) h.1,λq d=>?_⟩;obtain⟨p,c,rfl⟩:=A6.mp d;obtain⟨a,b⟩:=D4.mp c;exact⟨(h.2 p a).1,KJ (h.2 p a).2 (by simpa using b)⟩
theorem zm(j':bT ps)(n_:okHs ps hs)(o_:d6 M ns)(hm:m<=ps.length)(e:bU ps hs ns m=ae r):okHs ps r.1/\d6 (M+1) r.2:=by
 unfold bU at e;by_cases em:m=ps.length
 ·rw[a' em]at e;cases e;have:=QX o_;exact⟨n_,Nat.le_succ_of_le this.1,this.2⟩
 rw[a_ em]at e;have hh:m < ps.length:=by omega
 obtain⟨P,xb,J,c,w,as,H⟩:=iX n_ hh;cases O:bS ps hs m with
 |none=>
  unfold ef at e;simp_all
 |some a=>
 rw[lW H O]at e;have B:=H.ok j' O;have t:=O;rw[H.act]at t;have L:=(Aw.mp t).1;have h:d6 _ ns:=⟨Nat.le_succ_of_le o_.1,o_.2⟩;have on:a.bs=[]->okHs ps (bg hs m (eJ (xb,J,c) c)):=λhb=>n_.put H.prog H.blk ⟨L,H.hn.nd,H.hn.ok,H.hn.up,λk=>by
  show k∈c.map _↔k∈kn w as (J+1);rw[HP t,hb,Bk];exact H.hn.mem k,H.hn.ln⟩
 have W:∀b,a.to=ae b->okHs ps (bg hs m (cv P b c)):=λb hb=>by
  obtain⟨G,U,D,sub⟩:=H.to j' O hb;have R:kW P b=G.1:=by unfold kW;simp_all
  refine n_.put H.prog U ?_;have en:(cv P b c).2.2=G.1.map λk=>(k,iD c k):=by
   unfold cv;rw[R];exact Jr H.hn.nd H.hn.up D.2.2.2.2.1 D.2.2.2.2.2 sub
  have ek:(cv P b c).2.2.map (·.1)=G.1:=by rw[en,B7];exact List.map_id' _
  have S:(cv P b c).2.2.Sublist c:=List.filter_sublist;refine⟨Be _,by rw[ek];exact D.2.2.2.2.1,λp V=>H.hn.ok p (S.subset V),List.Pairwise.sublist S H.hn.up,λk=>by rw[ek];show _↔k∈G.1++(G.2.take 0).flatMap Ac.bs;simp,A5 S.length_le H.hn.ln⟩
 have E:∀gs i,a.pf=ae (gs.map Fe.fd)->a.bs=bA gs->d8 gs->gO gs->bf _ c ns=ae i->okHs ps (bg hs m (eJ (xb,J,c) (b7 (eY _ (cX ns i) c)))):=λgs i hpf hbs T y o=>by
  obtain⟨⟨C,Y⟩,n,F⟩:=tD o;have er:cX ns i=C:=by unfold cX;simp_all
  rw[er];obtain⟨ep,op⟩:=oA T y;obtain⟨nd,R⟩:=QK H.hn.nd F;obtain⟨wo,_⟩:=sg _ _ _ _ (Kz op (o_.2 _ (A0 n)).1) H.hn.ok R;have I:=by
   unfold cG at F;rw[Av]at F;exact d_ F.1
  have pm:=CN (eY (gs.map Fe.fd) C c);have pk:((b7 _).map _).Perm ((eY _ C c).map (·.1)):=pm.map _;have z:∀k,k∈(b7 _).map _↔k∈kn w as (J+1):=λk=>by
   rw[pk.mem_iff,uv _ _ _ _ (λx hx=>by simp at hx) R k,KO y.2 I,HP t,A1,hbs];exact or_congr (H.hn.mem k) Iff.rfl
  have N:=pk.nodup_iff.mpr nd;refine n_.put H.prog H.blk ⟨L,N,λp V=>wo p (pm.mem_iff.mp V),CO _,z,?_⟩;have:=ma N λk hk=>(z k).mp hk;rw[Ad]at this;exact A5 this (A5 (r8 (H.okb j').1 (J+1)) ∎)
 cases a with
 |lay fs Y=>
  cases e;obtain⟨X,Z⟩:=H.lay j' O;refine⟨on rfl,by rw[An,Az];have:=o_.1;omega,λq n=>?_⟩;rcases A1.mp n with n|n
  ·exact o_.2 q n
  ·rw[A4.mp n];exact⟨⟨⟨by unfold gU;rw[Ad];exact X,by unfold gU;rw[Ad];exact B.2.2.2⟩,λd hd=>by
    obtain⟨f,F,rfl⟩:=A6.mp hd;exact gj (Z f F)⟩,B.2.2.1⟩
 |go b=>cases e;exact⟨W b rfl,h⟩
 |same f g b=>
  cases e;refine⟨?_,h⟩;simp
  split
  ·exact on rfl
  ·exact W b rfl
 |take gs=>
  have e:(((bI gs _ ns).map λq=>(q.2,cR ns q.1)).map λr=>(bg hs m r.1,r.2))=ae r:=e;cases o:bf _ c ns with
  |none=>rw[iP o]at e;cases e
  |some i=>
   rw[iZ o]at e;cases e;refine⟨E gs i rfl rfl B.1 B.2 o,?_,λq n=>?_⟩
   ·show(cR ns i).length<=_;unfold cR;rw[An,C9,Ct];have:=o_.1;omega
   ·rcases A1.mp n with n|n
    ·exact o_.2 q (Dv n)
    ·exact o_.2 q (List.mem_of_mem_drop n)
 |read gs=>
  have e:(((bI gs _ ns).map λq=>(q.2,ns)).map λr=>(bg hs m r.1,r.2))=ae r:=e;cases o:bf _ c ns with
  |none=>rw[iP o]at e;cases e
  |some i=>
   rw[iZ o]at e;cases e;exact⟨E gs i rfl rfl B.1 B.2 o,h⟩
 |look gs b=>
  have e:((match bI gs _ ns with|some q=>ae _|none=>ae (cv P b c,ns):Option _).map λr=>(bg hs m r.1,r.2))=ae r:=e;cases o:bf _ c ns with
  |none=>
   rw[iP o]at e;cases e;exact⟨W b rfl,h⟩
  |some i=>
   rw[iZ o]at e;cases e;exact⟨E gs i rfl rfl B.1 B.2 o,h⟩
theorem RA(n_:okHs ps hs)(hh:m < ps.length)(h:cu ps hs ns m=ah):∃r,bU ps hs ns m=ae r:=by
 obtain⟨P,F,A,l,w,G,H⟩:=iX n_ hh;unfold bU;rw[a_ ⋯];cases n:bS ps hs m with
 |none=>unfold cu at h;rw[n]at h;cases h
 |some a=>
 rw[qT n]at h;rw[lW H n];have B:∀gs:List Fe,a.pf=ae (gs.map Fe.fd)->ew ps hs ns m=bf (gs.map Fe.fd) l ns:=λgs C=>by
  unfold ew;rw[H.nmq];simp_all
 have o:∀gs:List Fe,(ew ps hs ns m).isSome=ah->a.pf=ae _->∃q,bI gs (F,A,l) ns=ae q:=λgs t y=>by
  rw[B gs y]at t;obtain⟨i,z⟩:=C2.mp t;exact⟨_,iZ z⟩
 cases a with
 |lay I D=>exact⟨_,rfl⟩
 |go b=>exact⟨_,rfl⟩
 |same f g b=>exact⟨_,rfl⟩
 |take gs=>
  obtain⟨q,k⟩:=o gs h rfl;show ∃r,(((bI gs _ ns).map λq=>(q.2,cR ns q.1)).map λr=>(bg hs m r.1,r.2))=ae r;rw[k];simp
 |read gs=>
  obtain⟨q,k⟩:=o gs h rfl;show ∃r,(((bI gs _ ns).map λq=>(q.2,ns)).map λr=>(bg hs m r.1,r.2))=ae r;rw[k];simp
 |look gs b=>
  show ∃r,((match bI gs _ ns with|some q=>ae _|none=>ae (cv P b l,ns):Option _).map λr=>(bg hs m r.1,r.2))=ae r;cases bI gs _ ns with
  |none=>exact⟨_,rfl⟩
  |some q=>exact⟨_,rfl⟩
theorem ne_str(k:Q (.d (.bool (!c4 h (.str s)))) n):di (.d (.str s)) (.d (.str h)) n Q:=k
theorem J5(a:Ac):fU a.d=ai:=by cases a<;>rfl
section
variable{δ:Sl}{n:Int}{K:DEnds}{a v:Ab}{r:List Ab}{x:Str}{hp:Nm}{hs:List Str}{W V:aE}
theorem mn(e:δ[7]?=ae (↑(.bool b)))(kT:b=ah->K.nx δ n)(kF:b=ai->K.rt (.d .none) n):aH (aM (cT ↥7)) (av (wC .none)) aF δ n K:=by
 refine cP (cY (λQ q=>ay (λQ q=>au e q) q) ?_);cases b with
 |true=>exact kT rfl
 |false=>exact kF rfl
def mj(hp:Nm)(x:Str)(v:Ab):Bool:=match look hp x with
 |some w=>fP w v
 |none=>ai
theorem CG(e5:δ[5]?=ae (↑(.tuple (a::.str x::r))))(e3:δ[3]?=ae (ae (.odk (cg hp))))(e6:δ[6]?=ae (↑v))(hv:ck v=ah)(hok:∀p∈hp,fj p)(k:K.nx (δ.set 7 (↑(.bool (mj hp x v)))) n):
  az 7 (bc (w2 (w2 ↥5 (wC (.int 1)) aw) (dZ 3) (eI ai)) (w2 (w2 (dZ 3) (w2 ↥5 (wC (.int 1)) aw) gp) ↥6 bj)) δ n K:=by
 refine aq (cq e5 ?_);have c:∀n Q,Q (.dk (cg hp)) n->dZ 3 δ n Q:=λn Q q=>by unfold dZ;simp_all
 refine c _ _ ?_;show gJ _ _ _;rw[jh];unfold mj at k;cases q:look hp x with
 |none=>rw[q]at k;exact k
 |some w=>
  rw[q]at k;refine aq (aq (c _ _ (cq e5 ?_)));unfold gp;simp only[jh,q];refine au e6 ?_;unfold bj;simp only[l4 (hok _ (km q)).2 hv];exact k
theorem T2(s)(e5:δ[5]?=ae (↑(.tuple (.str s::r))))(h1:c4 "as" (.str s)=ai)(h2:c4 "bind" (.str s)=ai)(hF:V δ n K):
  aH (cC (cT (w2 (w2 ↥5 (wC (.int 0)) aw) (wC (.str "as")) bj)) (bW (cT (w2 (w2 ↥5 (wC (.int 0)) aw) (wC (.str "bind")) bj)) (cT (mI 4 (w2 ↥5 (wC (.int 1)) aw))))) W V δ n K:=by
 refine aU (λQ q=>iN (λQ q=>fw e5 ?_) (rO (λQ q=>fw e5 ?_) q)) hF
 ·show Q _ n;simp_all
 ·show Q _ n;simp_all
theorem Rn(e5:δ[5]?=ae (↑(.tuple [.str "bind",.str x])))(e4:δ[4]?=ae (ae (.own (hs.map .str))))(hT:x∈hs->W δ n K)(hF:x∉hs->V δ n K):
  aH (cC (cT (w2 (w2 ↥5 (wC (.int 0)) aw) (wC (.str "as")) bj)) (bW (cT (w2 (w2 ↥5 (wC (.int 0)) aw) (wC (.str "bind")) bj)) (cT (mI 4 (w2 ↥5 (wC (.int 1)) aw))))) W V δ n K:=by
 refine cP (iN (λQ q=>fw e5 ?_) (lJ (λQ q=>fw e5 ?_) ?_))
 ·show Q _ n;assumption
 ·show Q _ n;assumption
 ·unfold cT mI;refine cq e5 ?_;rw[e4];refine⟨rfl,oB hs,?_⟩;show if cW _ _=ah then _ else _
  rw[ky];exact HU hT hF
end
def R7:Option Nm->Ab
 |none=>.none
 |some h=>dh (b7 h)
theorem Sq{ys:List Str}(nd:(hp.map (·.1)).Nodup)(p:ys.Perm (hp.map (·.1)))(r:ys.Pairwise (λa b=>¬b.cps.toList < a.cps.toList)):b7 hp=ys.map λx=>(x,(look hp x).getD .none):=by
 refine(yO nd ?_ ?_).symm
 ·have h:=p.map λx=>(x,(look hp x).getD PyData.none);have e:hp.map ((λx=>(x,(look hp x).getD PyData.none)) ∘ λp=>p.1)=hp:=by
   conv=>rhs;rw[<-Dw hp]
   refine Cn λq c=>?_;show(q.1,(look hp q.1).getD .none)=q;rw[xl nd c];rfl
  simp_all
 ·unfold ja;rw[Fl];exact r
theorem MF:bK wq NL ["_law_pattern_here","_law_row","_law_names","_law_found","_law_bound","_law_field","_law_value_here","_law_good"]:=λws n Q h=>by
 obtain⟨fs,O,W,rfl,G,Z,F,k⟩:=h;refine ax (zC rfl rfl (λne=>?_) λel=>?_)
 ·show Q _ n;unfold dN cG at k;simp_all
 ·rw[Ad]at el;dsimp only[aF];refine ax (sq rfl F (ax (iY ?_)));dsimp only[Ay];refine ax (EU rfl rfl (by rw[Ad];omega) ?_);refine eC (λds δ m=>m=n/\∃(o:List Fd)(B:List Ab)(a:Nm)(A:List Str)(y z u:Option SV),ds=cJ (o.map Fd.d) B/\o.length=B.length/\δ=[↑(gX fs),↑(.tuple O),↑(dh W),ae (.odk (cg a)),ae (.own (A.map .str)),y,z,u] /\
   (∀g∈o,g.ok)/\(∀d∈B,ck d=ah)/\(a.map (·.1)).Nodup/\(∀p∈a,fj p)/\a.length+o.length<=48/\A.length+o.length<=16/\Q (.d (R7 (wk (o.zip B) a A))) n) ?_ ?_ _ _ _ ?_
  ·rintro δ m ⟨rfl,o,B,a,A,y,z,u,e,T,rfl,I,H,C,c,Y,l2,K⟩
   have:o=[]:=by
    cases o with
    |nil=>rfl
    |cons g o=>cases B with|nil=>cases T|cons v B=>cases e
   subst this;rw[List.length_nil]at Y;show ∃ps':Nm,cg a=cg ps'/\ps'.length < 64/\(∀p∈ps',p.1.length<=1000)/\∀ys:List Str,ys.Perm _->ys.Pairwise _->
    c6 _ aR _ _ _ [] [af,ae _] m
   refine⟨a,rfl,by omega,λp hp'=>A5 (c p hp').1.1 ∎,λys p1 r1=>qR (λd=>∃x w,d=.str x/\look a x=ae w) (λd=>match d with|.str x=>.tuple [.str x,(look a x).getD .none]|d=>d) (λd n' Q' hP P=>?_) _ _ _ _ (λd X=>?_) ?_⟩
   ·obtain⟨x,w,rfl,lw⟩:=hP;have P:Q' (.d (.tuple [.str x,(look a x).getD .none])) n':=P;rw[lw]at P;show(match b9 _ (.inr x)with|some d=>(2:Nat)<=1000/\Q' _ n'|none=>False);rw[jh,lw];exact⟨by decide,P⟩
   ·obtain⟨x,hx,rfl⟩:=A6.mp X;obtain⟨p,hp',rfl⟩:=A6.mp (p1.mem_iff.mp hx);exact⟨p.1,p.2,rfl,xl C hp'⟩
   ·rw[Fg];have K:Q (.d (dh _)) m:=K;rw[Sq C p1 r1]at K;have e:(ys.map D0).map (λd=>match d with|.str x=>Dn [.str x,(look a x).getD .none]|d=>d)=(ys.map λx=>(x,(look a x).getD .none)).map iV:=by rw[B7,B7];rfl
    rw[e];exact K
  ·rintro d r δ m N ⟨rfl,o,B,a,A,y,z,u,e,T,rfl,I,H,C,c,Y,l2,K⟩ hN
   cases o with
   |nil=>cases e
   |cons g o=>
    cases B with
    |nil=>cases T
    |cons v B=>
     have e1:=by have:=congrArg (λl=>l.head?) e;simpa[cJ]using this
     have e2:r=cJ (o.map Fd.d) B:=by have:=congrArg List.tail e;assumption
     subst e1 e2;rw[Ax]at Y l2;rw[Ax,Ax]at T;have gk:=I g Am;have L:=H v Am;rw[E7]at K;have M:(wk _ a A=af)->Q _ m:=λw=>by rw[w]at K;trivial
     have J:∀hp' D y z u,wk _ a A=wk _ hp' D->(hp'.map _).Nodup->(∀p∈hp',fj p)->hp'.length<=a.length+1->D.length<=A.length+1->
       N [ae _,ae _,ae _,ae _,ae _,y,z,u] m:=λhp' D y z u hw a1 a2 a3 a4=>
      hN _ _ ⟨rfl,o,B,hp',D,y,z,u,rfl,by omega,rfl,λg hg=>I g (Ak _ hg),λd X=>H d (Ak _ X),a1,a2,by omega,by omega,by rw[<-hw];omega⟩
     refine⟨rfl,ax (bH (λQ q=>aA q) ?_)⟩;dsimp only[Ay];cases g with
     |any=>
      refine ax (eE rfl Us (aU (λQ q=>pI rfl (by rfl) q) (T2 "any" rfl (by rfl) (by rfl) (eE rfl (by rfl) ?_))));dsimp only[aF];exact mn rfl (λ_=>J a A _ _ _ (by rw[wk]) C c ⋯ ⋯) (λz=>by cases z)
     |is w=>
      refine ax (lT rfl Sr (bH (x:=.bool (fP w v)) (λQ q=>aq (cq rfl (au rfl ?_))) ?_))
      ·unfold bj;simp only[l4 (gk) L];exact q
      dsimp only[Ay];exact mn rfl (λz=>J a A _ _ _ (by rw[wk,a' z]) C c ⋯ ⋯) (λz=>M (by rw[wk,a_ (by rw[z];simp)]))
     |word=>
      refine ax (eE rfl KI (aQ (λQ q=>pI rfl (by rfl) q) (bH (x:=.bool (jq v)) (λQ q=>aq ?_) ?_)))
      ·unfold aO;refine au rfl (fw rfl ?_);cases v with
       |str s=>rw[rW];exact q
       |int i=>rw[rW];exact q
       |_=>cases L
      dsimp only[Ay];exact mn rfl (λz=>J a A _ _ _ (by rw[wk,a' z]) C c ⋯ ⋯) (λz=>M (by rw[wk,a_ (by rw[z];simp)]))
     |number=>
      refine ax (eE rfl T7 (aQ (λQ q=>pI rfl (by rfl) q) (bH (x:=.bool (jl v)) (λQ q=>aq ?_) ?_)))
      ·unfold aO;refine au rfl (fw rfl ?_);cases v with
       |str s=>rw[rW];exact q
       |int i=>rw[rW];exact q
       |_=>cases L
      dsimp only[Ay];exact mn rfl (λz=>J a A _ _ _ (by rw[wk,a' z]) C c ⋯ ⋯) (λz=>M (by rw[wk,a_ (by rw[z];simp)]))
     |as x=>
      refine ax (eE rfl FN (aU (λQ q=>pI rfl (by rfl) q) (aQ (λQ q=>pq (λQ q=>fw rfl ?_) q) (CG rfl rfl rfl L c ?_))))
      ·show Q _ m;assumption
      dsimp only[Ay];refine mn rfl (λz=>J a A _ _ _ ?_ C c ⋯ ⋯) (λz=>M ?_)
      ·unfold mj at z;rw[wk];cases q:look a x with
       |none=>rw[q]at z;cases z
       |some w=>rw[q]at z;simp only[z,if_true]
      ·unfold mj at z;rw[wk];cases q:look a x with
       |none=>rfl
       |some w=>rw[q]at z;simp only[z,E9,if_false]
     |bind x=>
      refine ax (eE rfl MQ (aU (λQ q=>pI rfl (by rfl) q) (Rn rfl rfl (λhx=>CG rfl rfl rfl L c ?_) λhx=>lT rfl CL ?_)))
      ·dsimp only[Ay];refine mn rfl (λz=>J a A _ _ _ ?_ C c ⋯ ⋯) (λz=>M ?_)
       ·unfold mj at z;rw[wk,a' hx];cases q:look a x with
        |none=>rw[q]at z;cases z
        |some w=>rw[q]at z;simp only[z,if_true]
       ·unfold mj at z;rw[wk,a' hx];cases q:look a x with
        |none=>rfl
        |some w=>rw[q]at z;simp only[z,E9,if_false]
      ·refine ax (kz rfl (λQ q=>cq rfl q) (by rw[Ad];omega) ?_);dsimp only[Ay];unfold lZ;refine au rfl (cq rfl ⟨by unfold cg;rw[Ad];omega,?_⟩);rw[qu];have:=J _ _ (↑(.tuple [.str "bind",.str x])) (↑v) (↑(.bool ah)) (by rw[wk,a_ hx]) (vQ C) (oH c gk L) (sk _ _ _) (by simp);rw[Bf]at this;assumption
  ·refine⟨rfl,fs,O,W,[],_,_,_,rfl,el,rfl,G.2.2,Z.2,F.2.1,F.2.2,by have:=G.2.1;have:=F.1;omega,by have:=G.2.1;simpa using A5 this ∎,?_⟩;unfold dN cG at k;rw[b_ el]at k;unfold eY at k;cases e:wk _ W []with
   |none=>rw[e]at k;exact k
   |some x=>rw[e]at k;exact k
theorem Mt:bK t8 TM ["_law_template_here","_law_names","_law_row","_law_field","_law_value_here"]:=λws n Q h=>by
 obtain⟨C,p,rfl,T,R,B,k⟩:=h;refine ax (iY ?_);dsimp only[Ay];refine ax ?_;unfold aZ cn;refine au rfl (eC (λds δ m=>m=n/\∃(l o:List Fe)(x y:Option SV),ds=o.map Fe.d/\l++o=C/\δ=[ae _,ae _,ae (.own (l.map (fq p))),x,y]) (λδ m I=>?_) (λd r δ m N I J=>?_) _ _ _ ⟨rfl,[],C,_,_,rfl,rfl,rfl⟩)
 ·obtain⟨rfl,l,o,x,y,D,u,rfl⟩:=I;cases C0.mp D.symm;rw[Bk]at u;subst u;assumption
 ·obtain⟨rfl,l,o,x,y,D,u,rfl⟩:=I;obtain⟨f,o,rfl,rfl,rfl⟩:=Cf.mp D.symm;have P:=by
   have:=congrArg Fu u;rw[An]at this;omega
  obtain⟨V,L,F⟩:=(R f (by rw[<-u];simp));have c:∀K x v,v=fq p f->(∀δ n,N δ n->K.nx δ n)->bh 2 ↥4 [ae _,ae _,ae (.own (l.map _)),x,↑v] m K:=λK x v e O=>
   kz rfl (λQ q=>au rfl q) (by rw[Ad];omega) (by subst e;exact O _ _ (J _ _ ⟨rfl,l++[f],o,x,_,rfl,by rw[Bp];exact u,by rw[Bf];rfl⟩))
  have b:∀K s x v,look p x=ae v->c4 "is" (.str s)=ai->(ar _ _) [ae _,ae _,ae _,ae _,ae _] m K->
    ar (aH (cT (w2 (w2 ↥3 _ aw) (wC (.str "is")) di)) (az 4 (w2 (lL ↥1) (w2 ↥3 _ aw) gp)) aF) (ar (aH (bW (cT (w2 (w2 ↥3 ⇑0 aw) (wC (.str "next")) bj)) (aM (cT (aO "str" ↥4)))) (az 4 (w2 (w2 ↥4 ⇑1 (bN λi j=>.int (i+j))) ⇑100 (gI (λ_ j=>0 < j) λi j=>.int (i % j)))) aF) (bh 2 ↥4)) [↑(cK C),ae _,ae (.own (l.map (fq p))),↑(.tuple [.str s,.str x]),↑(.str x)] m K:=λK s x v e Y X=>by
   refine ax (aQ (λQ q=>ay (λQ q=>aq (cD rfl (aA (ne_str (by simp_all))))) q) (bH (x:=v) (λQ q=>aq (FT rfl B (cq rfl ?_))) ?_))
   ·unfold gp;simp only[jh,e];exact q
   ·dsimp only[Ay];omega
  cases f with
  |isv d=>
   refine ax (bH (λQ q=>cq rfl q) ?_);dsimp only[Ay];refine ax (aU (λQ q=>ay (λQ q=>aq (cD rfl (aA (ne_str (by assumption))))) q) ?_);dsimp only[aF];exact ax (aU (λQ q=>rO (λQ q=>fw (a:=.str "is") rfl (q)) q) (c _ _ _ rfl λ_ _ z=>z))
  |as x=>
   obtain⟨v,e,A⟩:=F x rfl;refine ax (bH (λQ q=>cq rfl q) (b _ "as" x v e FN ?_));exact ax (aU (λQ q=>rO (λQ q=>fw rfl (q)) q) (c _ _ _ (by show v=iD p x;unfold iD;simp_all) λ_ _ z=>z))
  |nx x=>
   obtain⟨v,e,A⟩:=F x rfl;have G:fq p (.nx x)=ka v:=by show ka _=_;unfold iD;simp_all
   refine ax (bH (λQ q=>cq rfl q) (b _ "next" x v e (by rfl) ?_));cases v with
   |str t=>
    exact ax (aU (λQ q=>lJ (λQ q=>fw rfl (q)) (cY (λQ q=>ay (k:=ah) (λQ q=>au rfl (by assumption)) q) q)) (c _ _ _ (by rw[G];rfl) λ_ _ z=>z))
   |int i=>
    refine ax (aQ (λQ q=>lJ (λQ q=>fw rfl (q)) (cY (λQ q=>ay (k:=ai) (λQ q=>au rfl (by assumption)) q) q)) (bH (λQ q=>aq (aq (au rfl (aA (dy (aA ⟨show(0:Int) < 100 by decide,q⟩)))))) ?_));exact c _ _ _ (by rw[G,Qc A]) λ_ _ z=>z
   |_=>cases A
  |_=>cases L
theorem Ie:bK t7 TB ["_law_programs","_law_hands","_law_hand","_law_block","_law_place","_law_names","_law_acts"]:=λws n Q h=>by
 obtain⟨c,g,h,rfl,a,b,k⟩:=h;obtain⟨P,i,d,f,w,e,H⟩:=iX a b;rw[H.act]at k;refine ax (aq (au rfl (au rfl (bB H.hD (Al rfl ?_)))));dsimp only[bE,aG];refine ax (bH (λQ q=>aq (aq (aq (au rfl (au rfl (bB H.pD (au rfl (bB H.bD (aA (d9 q)))))))))) ?_);dsimp only[Ay];exact aW (BN rfl rfl k)
def Hh(fs:List Fd)(nm:Nm)(ns:List Nt):Option Nat->Ab
 |none=>.none
 |some i=>.tuple [.int (i:Nat),dh (b7 (eY fs (cX ns i) nm))]
theorem WR(fs)(nm)(ns):gT fs nm ns=Hh fs nm ns (bf fs nm ns):=by rfl
theorem Iw:bK px Mq ["_law_act_here","_law_notes_here","_law_names","_law_place","_law_found"]:=λws n Q h=>by
 obtain⟨a,l,g,j,rfl,J,F,p,A,k⟩:=h;obtain⟨H,s,r,e,L,_⟩:=sy F J;rw[e]at *;refine ax (aT (au rfl ?_));refine Al ⟨by omega,by rw[Ad];have:=p.1;omega⟩ ?_;rw[Ad];refine eC (λds δ m=>m=n/\∃(b c:List Nt)(w y:Option SV),ds=cw (b.length:Nat) c.length/\b++c=g/\δ=[ae _,ae _,ae _,w,y] /\
  Q (.d (Hh l j g ((bf l j c).map λi=>i+b.length))) n) (λδ m I=>?_) (λd M δ m N I G=>?_) _ _ _ ⟨rfl,[],g,_,_,rfl,rfl,rfl,?_⟩
 ·obtain⟨rfl,b,c,w,y,o,z,rfl,f⟩:=I;have:c=[]:=by
   cases c with
   |nil=>rfl
   |cons q c=>rw[Ax,rg]at o;cases o
  subst this;exact(f)
 ·obtain⟨rfl,b,c,w,y,o,z,rfl,f⟩:=I;cases c with
  |nil=>cases o
  |cons q c=>
   rw[Ax,rg]at o;obtain⟨rfl,rfl⟩:=E4 o;have B:g[b.length]?=ae q:=by rw[<-z];simp
   have v:(g.map fQ)[b.length]?=ae (.tuple [.tuple q.1,q.2]):=by rw[Ap,B];rfl
   refine ax (bH (x:=dN l q.1 j) (λQ E=>?_) ?_)
   ·refine bC (cq rfl (aq (aq (au rfl (au rfl (bB v (aA (du (au rfl ?_)))))))));exact⟨l,q.1,j,rfl,H,(p.2 q (A0 B)).1,A,E⟩
   dsimp only[Ay];cases u:cG l q.1 j with
   |true=>
    rw[rE,a' u,Option.map_some,Nat.zero_add]at f;have f:Q (.d (.tuple [.int _,dh _])) m:=f;rw[show cX g b.length=q.1 by unfold cX;simp_all]at f;rw[z3 u];exact aQ (λQ q=>ay (λQ q=>aq (au rfl (aA q))) q) (aW (c5 (au rfl (au rfl (Al (show 2<=1000 by decide) f)))))
   |false=>
    rw[show dN l q.1 j=.none by unfold dN;rw[a_ (by rw[u];simp)]];refine aU (λQ q=>ay (λQ q=>aq (au rfl (aA q))) q) (G _ _ ⟨rfl,b++[q],c,_,_,?_,by rw[Bp];exact z,rfl,?_⟩)
    ·rw[An];rfl
    ·rw[rE,a_ (by rw[u];simp),Option.map_map]at f;have:((λi=>i+b.length) ∘ λx=>x+1)=λi=>i+(b++[q]).length:=funext λx=>by
      show x+1+b.length=_;rw[An,Az];omega
     rw[this]at f;omega
 ·rw[show((bf l j g).map λi=>i+([]:List Nt).length)=bf l j g by simp];exact k
theorem MI(n_:okHs ps hs)(hh:m < ps.length):(bU ps hs ns m).isSome=cu ps hs ns m:=by
 cases h:cu ps hs ns m with
 |true=>obtain⟨r,e⟩:=RA n_ hh h;simp_all
 |false=>
  obtain⟨P,B,x,k,w,D,H⟩:=iX n_ hh;unfold bU;rw[a_ ⋯];cases l:bS ps hs m with
  |none=>
   unfold ef;rw[H.prog,H.hand,l];rfl
  |some a=>
  rw[qT l,Bool.or_eq_false_iff]at h;rw[lW H l];have s:∀j:List Fe,a.pf=ae _->bI j (B,x,k) ns=af:=λgs n=>by
   refine iP (?_);have c:=h.2;unfold ew at c;rw[l,H.nmq]at c;have c:(a.pf.bind λfs=>bf fs k ns).isSome=ai:=c;rw[n]at c;have c:(bf _ k ns).isSome=ai:=c;cases q:bf _ k ns with
   |none=>rfl
   |some i=>rw[q]at c;cases c
  cases a with
  |take j=>
   show(((bI j _ ns).map λq=>(q.2,cR ns q.1)).map λr=>(bg hs m r.1,r.2)).isSome=ai;rw[s j rfl];rfl
  |read j=>
   show(((bI j _ ns).map λq=>(q.2,ns)).map λr=>(bg hs m r.1,r.2)).isSome=ai;rw[s j rfl];rfl
  |lay fs y=>cases h.1
  |go b=>cases h.1
  |same f g b=>cases h.1
  |look j b=>cases h.1
theorem Qq(n_:okHs ps hs):jF ps hs ns=(Bc ps.length).filter (cu ps hs ns)++[ps.length]:=by
 unfold jF;rw[List.range_succ,List.filter_append]
 congr 1
 ·refine List.filter_congr λi b=>?_;rw[MI n_ (B9.mp b)]
 ·have:bU ps hs ns ps.length=ae (hs,ez ns):=by unfold bU;rw[a' rfl]
  rw[Fx,this];rfl
theorem T1(fs)(nm)(ns):fU (gT fs nm ns)=!(bf fs nm ns).isSome:=by
 unfold gT;cases bf fs nm ns<;>rfl
theorem N0:bK g9 Ut ["_law_programs","_law_stand_here","_law_found","_law_hand","_law_act_here","_law_names"]:=λws n Q h=>by
 obtain⟨c,g,f,rfl,⟨p,t,F⟩,k⟩:=h;rw[Qq t,Bf]at k;refine ax (iY ?_);dsimp only[Ay];refine ax (aT (au rfl ?_));refine Al ⟨by omega,by rw[Ad];have:=p.1;omega⟩ ?_;rw[Ad];refine eC (λds δ m=>m=n/\∃(i:Nat)(x3 j l:Option SV),ds=cw i (c.length-i)/\i<=c.length/\δ=[ae _,ae _,ae (.own (((Bc i).filter (cu c g f)).map λi=>.int (i:Nat))),x3,j,l]) (λδ m I=>?_) (λd r' δ m N I V=>?_) _ _ _ ⟨rfl,0,_,_,_,rfl,Be _,rfl⟩
 ·obtain⟨rfl,i,x3,j,l,B,U,rfl⟩:=I;have T:i=c.length:=by
   by_cases z:i=c.length
   ·exact z
   ·rw[show c.length-i=(c.length-i-1)+1 by omega,rg]at B;trivial
  subst T;dsimp only;refine gW rfl (aW (aq (au rfl (aY ?_))));refine aT (au rfl ?_);show 1<=1000/\_;refine Al ∎ ⟨?_,?_⟩
  ·rw[Ad];have E:=Gq (cu c g f) (Bc c.length);rw[Es]at E;have:=p.1;refine ku ?_;show _+1<=_;omega
  ·rw[Ad];exact k
 ·obtain⟨rfl,i,x3,j,l,B,U,rfl⟩:=I;have u:i < c.length:=by
   by_cases z:i < c.length
   ·exact z
   ·rw[show c.length-i=0 by omega]at B;trivial
  rw[show c.length-i=(c.length-i-1)+1 by omega,rg]at B;obtain⟨rfl,rfl⟩:=E4 B;have L:∀x3 j l o,o=((Bc _).filter _).map _->N [ae _,ae _,ae _,x3,j,l] m:=λx3 j l o e=>
   V _ _ ⟨rfl,i+1,x3,j,l,by rfl,u,by rw[e]⟩
  have Y:(Bc (i+1)).filter (cu c g f)=(Bc i).filter (cu c g f)++if cu c g f i=ah then[i]else[]:=by
   rw[List.range_succ,List.filter_append,Fx];rfl
  obtain⟨P,xb,xp,G,w,as,H⟩:=iX t u;refine ax (bH (λQ q=>bC (au rfl (aq (au rfl (aA (du (au rfl ⟨c,g,i,rfl,t,u,q⟩))))))) ?_);dsimp only[Ay];cases C:bS c g i with
  |none=>
   refine aU (λQ q=>ay (λQ q=>aq (au rfl (aA q))) q) (L _ _ _ _ ?_);rw[Y,a_ (by unfold cu;rw[C];simp),Bk]
  |some a=>
   have O:=H.ok p C;refine aQ (λQ q=>ay (λQ q=>aq (au rfl (aA (by show Q (.d (.bool (!fU a.d))) m;rw[J5];exact q)))) q) (ax (bH (λQ q=>aq (aq (aq (au rfl (aA (du (au rfl (bB H.hD (aA (dP q)))))))))) ?_));dsimp only[Ay];obtain⟨s,r,e,D⟩:=Uu O;have R:(((Bc i).filter (cu c g f)).map λi=>PyData.int (i:Nat)).length < 1000000:=by
    rw[Ad];have E:=Gq (cu c g f) (Bc i);rw[Es]at E;have:=p.1;omega
   have J:cu c g f i=ah->∀K j l,(∀δ n,N δ n->K.nx δ n)->bh 2 ↥3 [ae _,ae _,ae _,↑(.int i),j,l] m K:=λhc K j l W=>
    kz rfl (λQ q=>au rfl q) R (W _ _ (L _ _ _ _ (by simp_all)))
   cases x:a.wt with
   |false=>
    rw[x]at D;exact aQ (λQ q=>pq (λQ q=>ay (λQ q=>yg (by show ae (ae (SV.w (.d a.d)))=_;rw[e]) D q) q) q) (J (by rw[qT C,x];rfl) _ _ _ λ_ _ z=>z)
   |true=>
    rw[x]at D;obtain⟨fs,y⟩:∃fs,a.pf=ae fs:=by cases a<;>first|exact⟨_,rfl⟩|cases x
    have X:cu c g f i=(bf fs G f).isSome:=by
     rw[qT C,x];unfold ew;rw[C,H.nmq];show(ai || (a.pf.bind λfs=>bf fs G f).isSome)=_;rw[y];rfl
    refine cP (iN (λQ q=>ay (λQ q=>yg (by show ae (ae (SV.w (.d a.d)))=_;rw[e]) D q) q) (ay (k:=cu c g f i) (λQ q=>aq (bC (au rfl (aq (au rfl (aA (d9 (au rfl ⟨a,fs,f,G,rfl,O,y,F,H.nms,aA ?_⟩)))))))) ?_))
    ·show Q _ m;rw[T1,Bool.not_not,<-X];exact q
    ·cases S:cu c g f i with
     |true=>
      simp_all
     |false=>
      exact L _ _ _ _ (by simp_all)
theorem yh:∀(ns:List Nt)(i':List Ab)(x y:Option SV)(n:Int),(∀q∈ns,iO q.2)->Q (i'++(ez ns).map fQ) n->
  c6 (dF 2 (bE (aG 0) (bE (aG 1) cZ))) (cT (w2 ↥1 ⇑1 di)) (aC (ao ↥0 (ao (gq (cT (w2 ↥1 (wC .none) (bJ ai))) ↥1 (w2 ↥1 ⇑1 (bN λi j=>.int (i-j)))) ak))) Q (ns.map fQ) i' [x,y] n
 |[],i',x,y,n,_,q=>by
  have:ez []=[]:=rfl;rw[this,Er,Bk]at q;exact q
 | (f,a)::r,i',x,y,n,h,q=>by
  have l:=h _ Am;have g:=λi' x y n q=>yh (Q:=Q) r i' x y n (λq o=>h q (Ak _ o)) q;refine(⟨rfl,?_⟩);dsimp only[bE,aG,Ay];refine ay (λQ q=>aq (au rfl (aA (xN l q)))) ?_;show if _=ah then _ else _
  have p:ez ((f,a)::r)=(if (!gE a)=ah then[(f,jv a)]else[])++ez r:=by
   unfold ez;rw[Fx];dsimp only
   split<;>rfl
  rw[p]at q;cases m:gE a with
  |true=>
   simp_all
  |false=>
   rw[m,Bf,<-Bp]at q;rw[a' ∎];rcases l with rfl|⟨i,rfl,_⟩
   ·exact c5 (au rfl (iQ (λQ q=>ay (k:=ah) (λQ q=>aq (au rfl (aA q))) q) (by rw[a' rfl];exact au rfl (Al (show 2<=1000 by decide) (g _ _ _ _ q)))))
   ·exact c5 (au rfl (iQ (λQ q=>ay (k:=ai) (λQ q=>aq (au rfl (aA q))) q) (aq (au rfl (aA (Al (show 2<=1000 by decide) (g _ _ _ _ q)))))))
abbrev xj:aE:=ar (az 13 (aC (ao ↥5 (ao (w2 ↥6 ⇑1 (bN λi j=>.int (i+j))) (ao ↥7 ak))))) (ar (aH (cT (w2 ↥9 (wC .none) (bJ ah))) (ar (az 14 (w2 (w2 (w2 ↥0 ↥2 aw) ↥9 aw) ⇑0 aw)) (az 13 (aC (ao ↥9 (ao ⇑0 (ao (wB eT (ao (aV (bG [af,ae 14] (cn ↥7) (aG 0) (cT (w2 (w2 ↥0 ⇑0 aw) ↥1 (hZ ai))) ↥0)) ak)) ak)))))) aF) (av (aC (ao (w2 (w2 (cx ↥3 cb (b8 ↥2)) (aC (ao ↥13 ak)) d3) (cx ↥3 (b8 (w2 ↥2 ⇑1 (bN λi j=>.int (i+j)))) cb) d3) (ao ↥4 ak)))))
abbrev vP(ps:Pg)(hs:List Hn)(ns ns':List Nt)(m xb xp:Nat)(nm:Nm)(o8 o9 o10 o11 o12 o13 o14:Option SV):Sl:=[↑(cf ps),↑(b3 hs ns),↑(.int m),↑(.tuple (hs.map cM)),↑(fI ns'),↑(.int xb),↑(.int xp),↑(dh nm),o8,o9,o10,o11,o12,o13,o14]
section
variable{ps:Pg}{hs:List Hn}{ns ns':List Nt}{m xb xp:Nat}{nm:Nm}{n:Int}{Q:DQ}
theorem DH(n_:okHs ps hs)(j':bT ps)(hh:m < ps.length)(x)(o5 o6 o7 o8 o9 o10 o11 o12 o14)(q:Q (.d (b3 (bg hs m x) ns')) n):av (aC (ao (w2 (w2 (cx ↥3 cb (b8 ↥2)) (aC (ao ↥13 ak)) d3) (cx ↥3 (b8 (w2 ↥2 ⇑1 (bN λi j=>.int (i+j)))) cb) d3) (ao ↥4 ak)))
   [↑(cf ps),↑(b3 hs ns),↑(.int m),↑(.tuple (hs.map cM)),↑(fI ns'),o5,o6,o7,o8,o9,o10,o11,o12,↑(cM x),o14] n {nx:=λ_ n=>Q (.d .none) n,rt:=Q}:=by
 have a:m < hs.length:=by rw[n_.1];omega
 have c:hs.length<=5:=by rw[n_.1];exact j'.1
 have b:(bg hs m x).map cM=((hs.map cM).take m++[cM x])++(hs.map cM).drop (m+1):=by
  unfold bg;simp
 unfold b3 at q;rw[b]at q;have e:((hs.map cM).take m).length<=5:=A5 (Ft _ _) (by rw[Ad];omega);have f:((hs.map cM).drop (m+1)).length<=5:=by rw[Ct,Ad];omega
 exact aW (c5 (aq (aq (qM (λQ q=>au rfl q) (λQ q=>au rfl q) (by rw[Ad];omega) (lM (au rfl (Al (show 1<=1000 by decide) (j5 (by rw[Az];omega) (pP (p:=m+1) (λQ q=>au rfl q) (λQ q=>aq (au rfl (aA (dy q)))) (by rw[Ad];omega) (j5 (by rw[An,Az];omega) (au rfl (Al (show 2<=1000 by decide) q))))))))))))
theorem p8(n_:okHs ps hs)(j':bT ps)(hh:m < ps.length)(o8 o10 o11 o12 o13 o14)(q:Q (.d (b3 (bg hs m (xb,xp+1,nm)) ns')) n):xj (vP ps hs ns ns' m xb xp nm o8 (ae (.w (.d .none))) o10 o11 o12 o13 o14) n {nx:=λ_ n=>Q (.d .none) n,rt:=Q}:=by
 refine ax (bH (x:=cM (xb,xp+1,nm)) (λQ q=>jm (au rfl (aq (au rfl (aA (dy (au rfl (Al (show 3<=1000 by decide) q)))))))) ?_);dsimp only[Ay];exact ax (aU (λQ q=>ay (λQ q=>aq (au rfl (aA q))) q) (DH n_ j' hh _ _ _ _ _ _ _ _ _ _ q))
theorem uC(n_:okHs ps hs)(j':bT ps)(hh:m < ps.length)(hP:(ps.map eD)[m]?=ae (.tuple (P.map dI)))(hb:P[b]?=ae bl)(hbl:bl.1.length<=4)(o8 o10 o11 o12 o13 o14)(q:Q (.d (b3 (bg hs m (cv P b nm)) ns')) n):xj (vP ps hs ns ns' m xb xp nm o8 (↑(.int (b:Nat))) o10 o11 o12 o13 o14) n {nx:=λ_ n=>Q (.d .none) n,rt:=Q}:=by
 have g:(P.map dI)[b]?=ae (.tuple [eB bl.1,.tuple (bl.2.map Ac.d)]):=by rw[Ap,hb];rfl
 refine ax (bH (λQ q=>jm (au rfl (aq (au rfl (aA (dy (au rfl (Al (show 3<=1000 by decide) q)))))))) ?_);dsimp only[Ay];refine ax (aQ (λQ q=>ay (λQ q=>aq (au rfl (aA q))) q) (ax (bH (λQ q=>aq (aq (aq (au rfl (au rfl (bB hP (au rfl (bB g (aA (du q)))))))))) ?_)));dsimp only[Ay];refine bH (x:=cM (cv P b nm)) (λQ q=>?_) ?_
 ·refine jm (au rfl (aA (aT (aY (fN (λQ q=>au rfl q) (mD iV iV (λp=>decide (p.1∈bl.1)) nm [] af n (λa h n f q=>?_) (λa h n f q=>au rfl q) ?_))))))
  ·refine ay (λQ q=>aq (cD rfl (au rfl ⟨rfl,oB bl.1,?_⟩))) q;rw[ky];exact q
  ·rw[Fg];refine Al (show 3<=1000 by decide) ?_;have e:kW P b=bl.1:=by unfold kW;rw[hb];rfl
   unfold cv at q;rw[e]at q;exact q
 ·dsimp only[Ay];exact DH n_ j' hh _ _ _ _ _ _ _ _ _ _ q
end
theorem z7(hf:eG nm f)(te:f.te=ah)(o_:okN nm):∀(n:Int)(Q':DQ),Q' (.d (fq nm f)) n->gq (cT (w2 (w2 ↥0 ⇑0 aw) (wC (.str "is")) bj)) (w2 ↥0 ⇑1 aw) (w2 (lL ↥1) (w2 ↥0 ⇑1 aw) gp) [↑f.d,↑(dh nm)] n Q':=λn Q' q=>by
 cases f with
 |isv d=>exact iQ (b:=ah) (λQ q=>fw rfl (by assumption)) (by assumption)
 |as x=>
  obtain⟨v,e,h⟩:=hf.2.2 x rfl;refine iQ (b:=ai) (λQ q=>fw rfl (by assumption)) (aq (FT rfl o_ (cq rfl ?_)));have q:Q' (.d (iD nm x)) n:=q;unfold iD at q;rw[e]at q;unfold gp;simp only[jh,e];exact q
 |_=>cases te
theorem UT(a b c d):bz [a,b,c,d] (ae 1) (ae 3)=[b,c]:=rfl
theorem VA:bK gR FF ["_law_programs","_law_stand_here","_law_mover","_law_hands","_law_notes_here","_law_block","_law_place","_law_names","_law_act_here","_law_target","_law_one","_law_other","_law_got_here","_law_behind","_law_wanted"]:=λws n Q h=>by
 obtain⟨ps,hs,ns,m,r,rfl,⟨j',n_,o_⟩,hm,e,k⟩:=h;show FF [↑(cf ps),↑(b3 hs ns),↑(.int m),af,af,af,af,af,af,af,af,af,af,af,af] n _;refine ax ?_;unfold d7;refine au rfl (Al rfl ?_);dsimp only[bE,cZ,aG,Ay];unfold bU at e;refine ax (cP (ay (k:=decide ((m:Int)=(ps.length:Nat))) (λQ q=>aq (au rfl (aT (au rfl ?_)))) ?_))
 ·show Q (.d (.bool (decide ((m:Int)=((ps.map eD).length:Nat))))) n;rw[Ad];exact q
 by_cases em:m=ps.length
 ·rw[a' em]at e;cases e;show if decide ((m:Int)=(ps.length:Nat))=ah then _ else _
  rw[a' (b_ ⋯)];refine aW (c5 (au rfl (aT (aY (fN (ds:=ns.map fQ) (λQ q=>au rfl q) ?_)))));show c6 _ _ _ _ _ _ [af,af] n;exact yh ns [] af af n (λq hq=>(o_.2 q hq).2) (Al (show 2<=1000 by decide) k)
 rw[a_ em]at e;show if decide ((m:Int)=(ps.length:Nat))=ah then _ else _
 rw[a_ (by rw[c_ ⋯];exact A7)];dsimp only[aF];have hh:m < ps.length:=by omega
 obtain⟨P,xb,xp,nm,w,as,H⟩:=iX n_ hh;refine ax ?_;refine aq (au rfl (au rfl (bB H.hD (Al rfl ?_))));dsimp only[bE,cZ,aG,Ay];cases ea:bS ps hs m with
 |none=>
  unfold ef at e;rw[H.prog,H.hand,ea]at e;cases e
 |some a=>
 rw[lW H ea]at e;have oa:=H.ok j' ea;have hA:(as.map Ac.d)[xp]?=ae a.d:=by rw[Ap,<-H.act,ea];rfl
 refine ax (bH (x:=a.d) (λQ q=>aq (aq (aq (aq (au rfl (au rfl (bB H.pD (au rfl (bB H.bD (aA (d9 (au rfl (bB hA q))))))))))))) ?_);dsimp only[Ay];refine ax (bH (x:=.none) (λQ q=>aA q) ?_);dsimp only[Ay];have toB:∀(b:Nat),a.to=ae b->∃bl:Bl,P[b]?=ae bl/\bl.1.length<=4:=λb hb=>by
  obtain⟨bl,hbl,obl,sub⟩:=H.to j' ea hb;exact⟨bl,hbl,obl.1⟩
 have getY:∀(s:Str)(gs:List Fe)(r5:List Ab)(i:Nat),a.d=.tuple (.str s::r5)->a.pf=ae (gs.map Fe.fd)->bf (gs.map Fe.fd) nm ns=ae i->∀K:DEnds,
   (∀δ n,xj δ n {nx:=λ_ n=>Q (.d .none) n,rt:=Q}->K.nx δ n)->
   Q (.d (b3 (bg hs m (eJ (xb,xp,nm) (b7 (eY (gs.map Fe.fd) (cX ns i) nm)))) (if c4 "take" (.str s)=ah then cR ns i else ns))) n->
   (ar (az 12 (aB px (ao ↥8 (ao ↥4 (ao ↥7 ak))))) (aH (cT (w2 ↥12 (wC .none) (bJ ai))) (az 9 (w2 ↥8 ⇑2 aw)) (ar (az 7 (w2 ↥12 ⇑1 aw)) (aH (cT (w2 (w2 ↥8 ⇑0 aw) (wC (.str "take")) bj)) (az 4 (w2 (cx ↥4 cb (b8 (w2 ↥12 ⇑0 aw))) (cx ↥4 (b8 (w2 (w2 ↥12 ⇑0 aw) ⇑1 (bN λi j=>.int (i+j)))) cb) d3)) aF)))) (vP ps hs ns ns m xb xp nm (↑a.d) (ae (.w (.d .none))) af af af af af) n K:=λs gs r5 i ed hpf ei K hK q=>by
  refine ax (bH (x:=.tuple [.int (i:Nat),dh (b7 (eY (gs.map Fe.fd) (cX ns i) nm))]) (λQ q=>bC (au rfl (au rfl (au rfl ⟨a,_,ns,nm,rfl,oa,hpf,o_,H.nms,?_⟩)))) ?_)
  ·unfold gT;rw[ei];exact q
  dsimp only[Ay];refine aU (λQ q=>ay (k:=ai) (λQ q=>aq (au rfl (aA q))) q) (ax ?_);refine bH (x:=dh (b7 (eY (gs.map Fe.fd) (cX ns i) nm))) (λQ q=>cq rfl q) ?_;dsimp only[Ay];obtain⟨⟨row,age⟩,hq,hf⟩:=tD ei;have hi:i < ns.length:=(Aw.mp hq).1;rw[ed];refine rD rfl (λz=>?_) λz=>?_
  ·rw[a' z]at q;refine bH (x:=fI (cR ns i)) (λQ q=>aq (qM (p:=i) (λQ q=>au rfl q) (λQ q=>cD rfl q) (by rw[Ad];omega) (pP (p:=i+1) (λQ q=>au rfl q) (λQ q=>aq (cD rfl (aA (dy q)))) (by rw[Ad];omega) (j5 ?_ ?_)))) ?_
   ·have:=o_.1;rw[C9,Ct,Ad];omega
   ·unfold fI at q;rw[FC]at q;exact q
   ·dsimp only[Ay];exact hK _ _ (p8 n_ j' hh _ _ _ _ _ _ q)
  ·rw[a_ (by rw[z];exact A7)]at q;exact hK _ _ (p8 n_ j' hh _ _ _ _ _ _ q)
 cases a with
 |lay fs age=>
  obtain⟨hl4,hfv⟩:=H.lay j' ea;cases e;refine ax (lT (a:=.str "lay") (r:=[cK fs,age]) rfl ∅ ?_);refine bH (x:=fI (ns++[(gU fs nm,age)])) (λQ q=>?_) ?_
  ·refine aq (au rfl (lM (c5 (bw (cq (a:=.str "lay") (b:=cK fs) (r:=[age]) rfl (au rfl ⟨fs,nm,rfl,hl4,hfv,H.nms,?_⟩))))));refine il (m:=2) (ds:=[.str "lay",cK fs,age]) rfl rfl (Al (show 2<=1000 by decide) (Al (show 1<=1000 by decide) (j5 (by rw[Ad,Az];have:=o_.1;omega) ?_)));unfold fI at q;rw[Bf]at q;exact q
  ·dsimp only[Ay];exact p8 n_ j' hh _ _ _ _ _ _ k
 |go b=>
  cases e;obtain⟨bl,h1,h2⟩:=toB b rfl;refine ax (eE (a:=.str "go") (r:=[.int b]) rfl ∅ (lT (a:=.str "go") (r:=[.int b]) rfl ∅ ?_));refine bH (x:=.int b) (λQ q=>cq (a:=.str "go") (b:=.int b) (r:=[]) rfl q) ?_;dsimp only[Ay];exact uC n_ j' hh H.pD h1 h2 _ _ _ _ _ _ k
 |same f g b=>
  obtain⟨hf,hg,tf,tg⟩:=H.same j' ea;obtain⟨bl,h1,h2⟩:=toB b rfl;cases e;refine ax (eE (a:=.str "same") (r:=[f.d,g.d,.int b]) rfl ∅ (eE (a:=.str "same") (r:=[f.d,g.d,.int b]) rfl ∅ (lT (a:=.str "same") (r:=[f.d,g.d,.int b]) rfl ∅ ?_)));refine ax ?_;refine aY (fN (ds:=[f.d,g.d]) (λQ q=>?_) ?_)
  ·unfold cx;refine au rfl ?_;dsimp only[Ac.d,b8];refine aA ?_;dsimp only;refine aA ?_;dsimp only;rw[UT];exact q
  refine je (α:=Fe) Fe.d (fq nm) [f,g] [] af n (λu hu n Q' q=>?_) ?_
  ·rcases Ao.mp hu with rfl|hu
   ·exact z7 hf tf H.nms n Q' q
   ·rw[A4.mp hu]at q ⊢;exact z7 hg tg H.nms n Q' q
  rw[Fg];refine Al rfl ?_;dsimp only[bE,cZ,aG,Ay];have k:Q (.d (b3 (bg hs m (if fP (fq nm f) (fq nm g)=ah then eJ (xb,xp,nm) nm else cv P b nm)) ns)) n:=k;cases z:fP (fq nm f) (fq nm g)with
  |true=>
   rw[z,a' rfl]at k;refine bH (x:=.none) (λQ q=>iQ (b:=ah) (λQ q=>ay (k:=ah) (λQ q=>aq (au rfl (au rfl (wU (gj hf) (gj hg) (by rw[z];exact q))))) q) (by rw[a' rfl];exact aA q)) ?_;dsimp only[Ay];exact p8 n_ j' hh _ _ _ _ _ _ k
  |false=>
   rw[z,a_ A7]at k;refine bH (x:=.int b) (λQ q=>iQ (b:=ai) (λQ q=>ay (k:=ai) (λQ q=>aq (au rfl (au rfl (wU (gj hf) (gj hg) (by rw[z];exact q))))) q) (by rw[a_ A7];exact il (m:=3) (ds:=[.str "same",f.d,g.d,.int b]) rfl rfl q)) ?_;dsimp only[Ay];exact uC n_ j' hh H.pD h1 h2 _ _ _ _ _ _ k
 |take gs=>
  have e:(((bI gs (xb,xp,nm) ns).map λq=>(q.2,cR ns q.1)).map λr=>(bg hs m r.1,r.2))=ae r:=e;refine ax (eE (a:=.str "take") (r:=[cK gs]) rfl ∅ (eE (a:=.str "take") (r:=[cK gs]) rfl ∅ (eE (a:=.str "take") (r:=[cK gs]) rfl ∅ ?_)));cases ei:bf (gs.map Fe.fd) nm ns with
  |none=>rw[iP ei]at e;cases e
  |some i=>
   rw[iZ ei]at e;cases e;exact getY "take" gs [cK gs] i rfl rfl ei _ (λ_ _ z=>z) (by rw[a' ∅];exact k)
 |read gs=>
  have e:(((bI gs (xb,xp,nm) ns).map λq=>(q.2,ns)).map λr=>(bg hs m r.1,r.2))=ae r:=e;refine ax (eE (a:=.str "read") (r:=[cK gs]) rfl ∅ (eE (a:=.str "read") (r:=[cK gs]) rfl ∅ (eE (a:=.str "read") (r:=[cK gs]) rfl ∅ ?_)));cases ei:bf (gs.map Fe.fd) nm ns with
  |none=>rw[iP ei]at e;cases e
  |some i=>
   rw[iZ ei]at e;cases e;exact getY "read" gs [cK gs] i rfl rfl ei _ (λ_ _ z=>z) (by rw[a_ ∅];exact k)
 |look gs b=>
  have e:((match bI gs (xb,xp,nm) ns with|some q=>ae (q.2,ns)|none=>ae (cv P b nm,ns):Option (Hn×List Nt)).map λr=>(bg hs m r.1,r.2))=ae r:=e;refine ax (eE (a:=.str "look") (r:=[cK gs,.int b]) rfl ∅ (eE (a:=.str "look") (r:=[cK gs,.int b]) rfl ∅ (eE (a:=.str "look") (r:=[cK gs,.int b]) rfl ∅ ?_)));cases ei:bf (gs.map Fe.fd) nm ns with
  |none=>
   rw[iP ei]at e;cases e;obtain⟨bl,h1,h2⟩:=toB b rfl;refine ax (bH (x:=.none) (λQ q=>bC (au rfl (au rfl (au rfl ⟨.look gs b,_,ns,nm,rfl,oa,rfl,o_,H.nms,?_⟩)))) ?_)
   ·unfold gT;rw[ei];exact q
   dsimp only[Ay];refine aQ (λQ q=>ay (k:=ah) (λQ q=>aq (au rfl (aA q))) q) ?_;refine bH (x:=.int b) (λQ q=>il (m:=2) (ds:=[.str "look",cK gs,.int b]) rfl rfl q) ?_;dsimp only[Ay];exact uC n_ j' hh H.pD h1 h2 _ _ _ _ _ _ k
  |some i=>
   rw[iZ ei]at e;cases e;exact getY "look" gs [cK gs,.int b] i rfl rfl ei _ (λ_ _ z=>z) (by rw[a_ ∅];exact k)
def qv(ps:Pg):List Hn:=ps.map λ_=>(0,0,[])
theorem Sz(hf:∀P∈ps,jG P):okHs ps (qv ps):=by
 refine⟨Ad _,λi P a=>?_⟩;obtain⟨w,c⟩:=hf P (A0 a);obtain⟨b,r,rfl,d,_⟩:=Cf.mp c;refine⟨(0,0,[]),b,?_,rfl,Be _,List.nodup_nil,λp e=>(by simp_all),List.Pairwise.nil,λk=>?_,Be _⟩
 ·unfold qv;rw[Ap,a];rfl
 ·show k∈([]:List Str)↔k∈kn b.1 b.2 0;unfold kn;rw[d];simp
theorem T8:bK vi GF ["_law_tape_here","_law_programs"]:=λws S Q h=>by
 obtain⟨rfl,N,k⟩:=h;show GF [ae _,af] S _;refine ax (aq (aY (Al ∎ ?_)));refine gA rfl ⋯ ∎ ∎ λq z B=>jH z B λd K=>?_;have I:∃j:Nat,j<=3/\d=.int j:=by
  simp only[Ao,A3,g_]at K;rcases K with rfl|rfl|rfl|rfl|rfl|rfl|rfl|rfl
  ·exact⟨1,by simp⟩
  ·exact⟨2,by simp⟩
  ·exact⟨2,by simp⟩
  ·exact⟨1,by simp⟩
  ·exact⟨3,by simp⟩
  ·exact⟨2,by simp⟩
  ·exact⟨0,by simp⟩
  ·exact⟨2,by simp⟩
 obtain⟨j,I,rfl⟩:=I;refine Al ⟨by omega,by omega⟩ ?_;rw[B8];refine uM (λd=>∃P,(kM P/\jG P)/\d=eD P) 600 (λd n U D q=>cI (au rfl (Al rfl ⟨by omega,λP p m F s=>q _ p ⟨P,⟨m,F⟩,rfl⟩ ⋯⟩))) _ [] af _ (by rw[fB];omega) λds T u v y=>?_;rw[fB]at u y;rw[Fg];obtain⟨l,rfl,t⟩:=mQ v;rw[Ad]at u;dsimp only[Ay];have g:∀(ps':Pg) C,ps'.length<=3->(∀P∈ps',kM P/\jG P)->C<=T+1->(ar (az 1 (wB fV (ao (bY 1) ak))) (ar (aH (cT (w2 (aB bQ (ao _ (ao ⇑2 ak))) ⇑0 a8)) (bO 1 (av (aC (ao ↥1 (ao (aB pC (ao ↥0 (ao ↥1 _))) ak))))) aF) (bO 1 (av (aC (ao ↥1 (ao (aC (ao (wB fV (ao (aV (bG [af] (cn ↥1) _ aR (aC (ao _ (ao _ (ao (aC ak) ak)))))) ak)) (ao (aB mY (ao ↥0 _)) ak))) ak))))))) [ae _,ae (.own _)] C {nx:=λ_ n=>Q (.d .none) n,rt:=Q}:=λps' C O o V=>by
  have A:bT ps':=⟨by omega,λP m=>(o P m).1⟩;refine ax (bH (λQ q=>aT (gv rfl (q))) ?_);dsimp only[Ay];refine ax (cP (aq (gA rfl ⋯ ∎ ∎ λq z B=>aA (gN ?_))));show if decide _=ah then _ else _
  by_cases r:q=0
  ·rw[a' (b_ r)];refine(aW (c5 (au rfl (bC (au rfl (au rfl (aA (Cs ps' ⟨3,rfl,by decide,A,by omega,λhs ns p W D s=>?_⟩))))))));exact Al (show 2<=1000 by decide) (k ps' hs ns p A W ⟨A5 D.1 ∎,D.2⟩ ⋯)
  ·rw[a_ (by simpa using r)];dsimp only[aF];refine(aW (c5 (au rfl (c5 (aT (aY (fN (λQ q=>au rfl q) ?_)))))));refine je eD (λ_=>cM (0,0,[])) ps' [] af _ (λa ha n U q=>jm (aA (aA (Al (Be _) (Al ∎ q))))) (jW (bw (au rfl (aA (Cs 4 ⟨rfl,by decide,by omega,λns p G s=>?_⟩)))));have e:(ps'.map λ_=>cM (0,0,[]))=(qv ps').map cM:=by unfold qv;rw[B7];rfl
   rw[e];exact Al (show 2<=1000 by decide) (Al (show 2<=1000 by decide) (k ps' _ ns p A (Sz λP m=>(o P m).2) G ⋯))
 refine ax (cP (aq (aT (gv rfl (pH (aA (gN ?_)))))));rw[Ad];show if decide _=ah then _ else _
 by_cases H:(l.length:Int)=2
 ·rw[a' (b_ H)];refine aq (gA rfl ⋯ ∎ ∎ λq z B=>aA (gN ?_));show if decide _=ah then _ else _
  by_cases r:q=0
  ·rw[a' (b_ r)];have E:=by omega
   obtain⟨P,x,rfl⟩:∃P x,l=[P,x]:=by
    match l,E with
    |[P,x],_=>exact⟨P,x,rfl⟩
   refine(aq (gv rfl (aA (?_))));refine g [P,P] _ (show 2<=3 by decide) (λR Z=>?_) ⋯;simp_all
  ·rw[a_ (by simpa using r)];exact g l _ ⋯ t ⋯
 ·rw[a_ (by simpa using H)];exact g l _ ⋯ t ⋯
theorem EM:∀{ds:List Ab},(∀d∈ds,df n d=ah)->eS n ds=ah
 |[],_=>by rw[eS]
 |d::r,h=>by rw[eS,h d Am,EM λe a=>h e (Ak _ a)];rfl
theorem jV(h:∀d∈ds,df n d=ah):df (n+1) (.tuple ds)=ah:=EM h
theorem qf(n)(i):df n (.int i)=ah:=by rfl
theorem Hw(h:Dp x=ah):df n (.str x)=ah:=by assumption
theorem oX(h:ck d=ah):df n d=ah:=by
 cases d with
 |str x=>
  refine Hw ?_;unfold ck at h;simp only[Av]at h;exact h.2.1
 |int i=>exact qf n i
 |_=>cases h
theorem jN{P:Ab->Prop}(ha:P a)(hb:P b)(h:d∈[a,b]):P d:=by
 rcases Ao.mp h with rfl|h
 ·exact ha
 ·rw[A4.mp h];omega
theorem VY(h:∀p∈nm,fj p):df (n+2) (dh nm)=ah:=jV λd c=>by
 obtain⟨p,a,rfl⟩:=A6.mp c;exact jV λe b=>jN (P:=λe=>df n e=ah) (Hw (h p a).1.2.1) (oX (h p a).2) b
theorem Sh(h:iO d):df n d=ah:=by
 rcases h with rfl|⟨i,rfl,_⟩
 ·cases n<;>rw[df]
 ·exact qf n i
theorem KP(n_:okHs ps hs):∀h∈hs,∀p∈h.2.2,fj p:=λh c=>by
 obtain⟨i,d,e⟩:=List.getElem_of_mem c;obtain⟨g,b,a,j,f⟩:=n_.2 i _ (Ai (by rw[<-n_.1];omega));rw[Ai d,e]at a;cases a;exact f.ok
theorem sh(n_:okHs ps hs)(o_:∀q∈ns,mT q):df 6 (b3 hs ns)=ah:=by
 refine jV λd a=>jN (P:=λd=>df 5 d=ah) ?_ ?_ a
 ·refine jV λd a=>?_;obtain⟨h,c,rfl⟩:=A6.mp a;refine jV λd a=>?_;rcases Ao.mp a with rfl|a
  ·exact qf _ _
  ·exact jN (P:=λd=>df 3 d=ah) (qf _ _) (VY (KP n_ h c)) a
 ·refine jV λd a=>?_;obtain⟨q,b,rfl⟩:=A6.mp a;exact jV λd a=>jN (P:=λd=>df 3 d=ah) (jV λd a=>oX ((o_ q b).1.2 d a)) (Sh (o_ q b).2) a
theorem m9(h:Gk ps c s):∃hs ns,lU ps s=ae (hs,ns)/\s.1=b3 hs ns/\dA ps hs ns/\ns.length+c<=99:=by
 obtain⟨hs,ns,e,f,d⟩:=h;have a:∃p:List Hn×List Nt,s.1=b3 p.1 p.2/\dA ps p.1 p.2:=⟨(hs,ns),e,f⟩;refine⟨_,_,by unfold lU;rw[dif_pos a],a.choose_spec.1,a.choose_spec.2,?_⟩;have b:=congrArg Fu (PyData.tuple.inj (E4 (E4 (PyData.tuple.inj (e.symm.trans a.choose_spec.1))).2).1);rw[Ad,Ad]at b;exact A5 (Nat.le_of_eq (congrArg (λx=>x+c) b.symm)) d
section
variable{ps:Pg}{s:TK}{hs:List Hn}{ns:List Nt}{m:Nat}
theorem GO(h:ps.length < m):bU ps hs ns m=af:=by
 unfold bU ef;grind
theorem ve(e:lU ps s=ae (hs,ns))(ok:dA ps hs ns)(ea:bU ps hs ns m=ae r):∃b:TK,bF ps s m=ae b/\b.1=b3 r.1 r.2:=by
 have a:m<=ps.length:=by
  by_cases z:m<=ps.length
  ·exact z
  ·rw[GO ⋯]at ea;trivial
 obtain⟨d,c⟩:=zm ok.1 ok.2.1 ok.2.2 a ea;have t:=sh d c.2;refine⟨⟨_,t⟩,?_,rfl⟩;unfold bF;rw[e];show((bU ps hs ns m).bind _)=_;rw[ea];unfold l3;simp_all
theorem vn(e:lU ps s=ae (hs,ns))(ea:bU ps hs ns m=af):bF ps s m=af:=by
 unfold bF;rw[e];show((bU ps hs ns m).bind _)=_;rw[ea];rfl
theorem vY(e:lU ps s=ae (hs,ns))(ok:dA ps hs ns)(h:bF ps s m=ae b):∃r,bU ps hs ns m=ae r/\b.1=b3 r.1 r.2/\m<=ps.length:=by
 cases a:bU ps hs ns m with
 |none=>rw[vn e a]at h;cases h
 |some r=>
  obtain⟨f,c,d⟩:=ve e ok a;rw[h]at c;cases c;refine⟨r,rfl,d,?_⟩;by_cases z:m<=ps.length
  ·exact z
  ·rw[GO ⋯]at a;trivial
theorem NK(e:lU ps s=ae (hs,ns))(ok:dA ps hs ns):e8 (bF ps) ps.length s=jF ps hs ns:=by
 refine List.filter_congr λi _=>?_;cases c:bU ps hs ns i with
 |none=>rw[vn e c];rfl
 |some r=>obtain⟨b,d,_⟩:=ve e ok c;rw[d];rfl
end
theorem n7(g:Gk ps c s)(r:R (.d (.list ((e8 (bF ps) ps.length s).map λi=>.int (i:Nat)))) n):g9 [.d (cf ps),.d s.1] n R:=by
 obtain⟨h,b,e,f,a,_⟩:=m9 g;rw[NK e a]at r;exact⟨ps,h,b,by rw[f],a,r⟩
theorem oD(g:Gk ps c s)(h:bF ps s i=ae b)(r:R (.d b.1) n):gR [.d (cf ps),.d s.1,.d (.int (i:Nat))] n R:=by
 obtain⟨m,j,e,k,a,_⟩:=m9 g;obtain⟨q,o,f,l⟩:=vY e a h;rw[f]at r;exact⟨ps,m,j,i,q,by rw[k],a,l,o,r⟩
theorem ph(g:Gk ps c s):∃ds,s.1=.tuple ds:=by
 obtain⟨a,b,e,_⟩:=g;exact⟨_,e⟩
theorem xM(g:Gk ps (c+1) s)(h:bF ps s i=ae b):Gk ps c b:=by
 obtain⟨p,n,e,o,a,m⟩:=m9 g;obtain⟨q,l,f,j⟩:=vY e a h;obtain⟨k,d⟩:=zm a.1 a.2.1 ⟨Bh _,a.2.2.2⟩ j l;have:=d.1;exact⟨q.1,q.2,f,⟨a.1,k,by omega,d.2⟩,by omega⟩
theorem Wm(g:Gk ps c s)(hi:i<=ps.length)(r:R (.d (match bF ps s i with|some b=>b.1|none=>.none)) n):rY [.d (cf ps),.d s.1,.d (.int (i:Nat))] n R:=by
 obtain⟨h,a,e,l,k,_⟩:=m9 g;refine⟨ps,h,a,i,by rw[l],k,hi,?_⟩;cases j:bU ps h a i with
 |none=>rw[vn e j]at r;exact r
 |some q=>
  obtain⟨b,m,o⟩:=ve e k j;rw[m]at r;have r:R (.d b.1) n:=r;rw[o]at r;exact r
theorem nV(ps:Pg):GoL g9 gR (cf ps) ps.length (bF ps) (Gk ps) where
 mv:=λ_ _ _ _ g r=>n7 g r
 go:=λ_ _ _ _ _ _ g h r=>oD g h r
 tup:=λ_ _ g=>ph g
 good:=λ_ _ _ _ g _ h=>xM g h
theorem Uq:∀ws n Q,bx jg ws n Q->ws.length=1:=λ_ _ _=>gM
abbrev Zb:List Str:=["thing"]
theorem Pw:∀ws n Q,bx jg ws n Q->zR (dj Zb ws) n {nx:=λ_ n=>Q (.d .none) n,rt:=Q}:=ia λd n K k=>by
 show zR [ae _] n K;cases d<;>(simp only[aj,jU,bc,ij,av,aO,B5,VL,QS,ll];simpa[jg]using k)
theorem Mf:∀ws n Q,lB ws n Q->ws.length=2:=λws n Q h=>by
 unfold lB at h
 split at h
 ·rfl
 ·exact h.elim
theorem O9:bK lB zt ["thing","longest"]:=λws n Q h=>by
 unfold lB at h
 split at h
 ·rename_i d k;show zt [ae _,ae _] n _;cases d with
  |str x=>
   simp only[aj,wC,fi,jU,bc,ak,wB,aF,ar,av,aH,ee,aI,B5,G8,ll];simp only[E9];simp only[bR]at h;refine iM (λe1=>?_) (λe1=>?_)
   ·refine iM (λe2=>?_) (λe2=>?_)
    ·rw[e1,e2,Gc]at h;exact Js x h
    ·rw[e1,e2]at h;exact h
   ·rw[e1]at h;exact h
  |_=>simp only[aj,ar,ll];exact h
 ·exact h.elim
theorem Pc:∀ws n Q,bx (bR 8) ws n Q->ws.length=1:=λ_ _ _=>gM
theorem Wo:∀ws n Q,bx (bR 8) ws n Q->QO (dj Zb ws) n {nx:=λ_ n=>Q (.d .none) n,rt:=Q}:=ia λd n K k=>k
theorem SF:∀ws n Q,bx (bR 4) ws n Q->ws.length=1:=λ_ _ _=>gM
theorem Pq:∀ws n Q,bx (bR 4) ws n Q->Ih (dj Zb ws) n {nx:=λ_ n=>Q (.d .none) n,rt:=Q}:=ia λd n K k=>k
theorem MR:∀ws n Q,bx iK ws n Q->ws.length=1:=λ_ _ _=>gM
theorem WE:∀ws n Q,bx iK ws n Q->FJ (dj Zb ws) n {nx:=λ_ n=>Q (.d .none) n,rt:=Q}:=ia λd n K k=>by
 show FJ [ae _] n K;simp only[av,bc,aB,bx,jU,wC];exact HL k
theorem SM:∀ws n Q,bx c7 ws n Q->ws.length=1:=λ_ _ _=>gM
theorem Lv:∀ws n Q,bx c7 ws n Q->yn (dj Zb ws) n {nx:=λ_ n=>Q (.d .none) n,rt:=Q}:=ia λd n K k=>by
 show yn [ae _] n K;simp only[jU,ji,aB,av,bx];exact yf (F:=λb=>K.rt (.d _) n) k id
theorem JI:∀ws n Q,bx dw ws n Q->ws.length=1:=λ_ _ _=>gM
theorem Vx:∀ws n Q,bx dw ws n Q->EY (dj Zb ws) n {nx:=λ_ n=>Q (.d .none) n,rt:=Q}:=ia λd n K k=>by
 show EY [ae _] n K;cases d with
 |tuple e=>
  simp only[dw]at k;simp only[aj,wC,fi,jU,bc,ak,wB,ar,av,ee,aI,ll];simp only[E9];refine iM (λe1=>?_) (λe1=>?_)
  ·refine iM (λe2=>?_) (λe2=>?_)
   ·rw[e1,e2,Gc]at k;exact Lk e k
   ·rw[e1,e2]at k;exact k
  ·rw[e1]at k;exact k
 |_=>simp only[aj,ar,ll];exact k
theorem RM:∀ws n Q,bx eH ws n Q->ws.length=1:=λ_ _ _=>gM
theorem PM:∀ws n Q,bx eH ws n Q->yl (dj Zb ws) n {nx:=λ_ n=>Q (.d .none) n,rt:=Q}:=ia λd n K k=>by
 show yl [ae _] n K;simp only[av,ji,w2,bc,aB,bx,jU,bJ,if_false];exact yf (F:=λb=>K.rt (.d _) n) k HL
theorem Q5:∀ws n Q,bx fe ws n Q->ws.length=1:=λ_ _ _ h=>gM h
theorem I3:∀ws n Q,bx fe ws n Q->AJ (dj Zb ws) n {nx:=λ_ n=>Q (.d .none) n,rt:=Q}:=ia λd n K k=>by
 show AJ [ae _] n K;cases d with
 |tuple g=>
  simp only[aj,wC,jU,bc,aB,av,bx];rcases g with _|⟨a,_|⟨b,_|⟨c,r⟩⟩⟩
  ·exact k
  ·exact k
  ·show if dw a=ah then K.rt _ n else K.rt _ n
   exact WB (F:=λb=>K.rt (.d _) n) k λ_ z=>z
  ·have e:decide (((a::b::c::r).length:Int)=2)=ai:=c_ (by simp;omega);exact k
 |_=>simp only[aj,av,ll];exact k
structure Lin{α:Type}(lt:α->α->Bool):Prop where
 asym:∀a b,lt a b=ah->lt b a=ai
 ntr:∀a b c,lt b a=ai->lt c b=ai->lt c a=ai
 tot:∀a b,lt a b=ai->lt b a=ai->a=b
section
variable{α:Type}{lt:α->α->Bool}
theorem Lin.irr(L:Lin lt)(a):lt a a=ai:=by
 cases e:lt a a with
 |false=>rfl
 |true=>have:=L.asym a a e;rw[e]at this;omega
theorem Lin.tr1(L:Lin lt)(h1:lt a b=ah)(h2:lt c b=ai):lt a c=ah:=by
 cases e:lt a c with
 |true=>rfl
 |false=>have:=L.ntr b c a h2 e;rw[h1]at this;cases this
variable[DecidableEq α]
end
section
variable{δ:Sl}{n:Int}{Q:DQ}{K:DEnds}{W V:aE}{i j:Nat}{ds:List Ab}
theorem fJ(hw:∀Q:DQ,Q (.d d) n->w δ n Q):∀Q:DQ,Q (.d (.bool (g d))) n->aB (bx g) (ao w ak) δ n Q:=λQ q=>cI (hw _ q)
end
theorem Wu{x y:Str}(h:x.cps.toList=y.cps.toList):x=y:=by
 cases x;cases y
 congr
 exact Gt.mp h
theorem N7(x y:Str):(x==y)=decide (x=y):=by
 by_cases h:x=y
 ·subst h;simp
 ·rw[c_ h];exact beq_eq_false_iff_ne.mpr h
def gg(x y:Str):Bool:=decide (x.cps.toList < y.cps.toList)
theorem slin:Lin gg where
 asym:=λa b h=>c_ (KS.lt_asym' _ _ (d_ h))
 ntr:=λa b c h g=>c_ (Eo.mpr (List.le_trans (Eo.mp (e_ h)) (Eo.mp (e_ g))))
 tot:=λa b h g=>Wu (List.le_antisymm (Eo.mp (e_ g)) (Eo.mp (e_ h)))
theorem AS:∀{xs ys:List Str},(xs.Pairwise λa b=>gg a b=ah)->(ys.Pairwise λa b=>gg a b=ah)->(∀k,k∈xs↔k∈ys)->xs=ys
 |[],[],_,_,_=>rfl
 |[],y::ys,_,_,h=>f_ ((h y).mpr Am) (by simp)
 |x::xs,[],_,_,h=>f_ ((h x).mp Am) (by simp)
 |a::l,b::p,h,g,m=>by
  obtain⟨i,f⟩:=C8.mp h;obtain⟨n,d⟩:=C8.mp g;have e:a=b:=by
   rcases Ao.mp ((m a).mp Am)with e|o
   ·exact e
   ·rcases Ao.mp ((m b).mpr Am)with e|j
    ·exact e.symm
    ·have:=slin.asym _ _ (i b j);simp_all
  subst e;rw[AS f d λk=>⟨λhk=>?_,λhk=>?_⟩]
  ·rcases Ao.mp ((m k).mp (Ak _ hk))with e|q
   ·subst e;have:=slin.irr k;simp_all
   ·exact q
  ·rcases Ao.mp ((m k).mpr (Ak _ hk))with e|q
   ·subst e;have:=slin.irr k;simp_all
   ·exact q
theorem CA:∀a b:List Str,D8 (a.map .str) (b.map .str)=decide (a=b)
 |[],[]=>by rfl
 |[],_::_=>by rfl
 |_::_,[]=>by rfl
 |x::a,y::b=>by
  rw[Ba,Ba,D8,CA a b,Bz,N7];simp
theorem Q6(h:bR k (.str s)=ah):(s.length:Int)<=k:=by
 unfold bR at h;simp only[Av,decide_eq_true_eq]at h;exact h.2.1
abbrev fu(p:Str×Ab):Ab:=iV p
def EV:Ab->Str
 |.str x=>x
 |_=>⟨#[]⟩
def nK:List Ab->Bool
 |a::b::r=>decide ((EV a).cps.toList < (EV b).cps.toList)&&nK (b::r)
 |_=>ah
theorem zI:∀ks:List Str,nK (ks.map .str)=ah↔ks.Pairwise λa b=>gg a b=ah
 |[]=>⟨λ_=>.nil,λ_=>rfl⟩
 |[_]=>⟨λ_=>D2 _ _,λ_=>rfl⟩
 |a::b::r=>by
  have e:nK ((a::b::r).map .str)=(gg a b&&nK ((b::r).map .str)):=rfl;rw[e,Av,(zI (b::r)),C8 (a:=a)];refine⟨λh=>⟨λc d=>?_,h.2⟩,λh=>⟨h.1 b Am,h.2⟩⟩;rcases Ao.mp d with rfl|d
  ·exact h.1
  ·exact slin.tr1 h.1 (slin.asym _ _ ((C8.mp h.2).1 c d))
theorem GC(h:eQ k):k.length<=4:=h.1
theorem Kno.up(h:Kno l ys):ys.Pairwise λa b=>gg a b=ah:=(h.1.and h.2.1).imp λ{a b} h=>by
 cases e:gg a b with
 |true=>rfl
 |false=>exact f_ (slin.tot a b e (c_ h.2)) h.1
theorem rA(h:Kno l ys):kS l=ys:=by
 have e:∃ys,Kno l ys:=⟨ys,h⟩;unfold kS;rw[dif_pos e];exact AS e.choose_spec.up h.up λk=>(e.choose_spec.2.2 k).trans (h.2.2 k).symm
theorem LQ{G:List Str->Prop}(h:Kno l ys)(k:Kno l (kS l)->G (kS l)):G ys:=by
 rw[(rA h)]at k;exact k h
theorem Og:bK nN LO ["pattern"]:=λws n Q h=>by
 obtain⟨f,rfl,d,k⟩:=h;exact zg f n ⟨_,.inl rfl,G6 (mK d) ∎,λx g=>A5 (GC (nB d x g)) ∎,λys a b c=>k ys (A5 (ma a λz=>(b z).mp) (mK d)) b⟩
theorem UI:bK uy IC ["program","block","place","wanted","acts","known","act"]:=λws n Q h=>by
 obtain⟨T,i,p,⟨w,m⟩,rfl,hi,⟨M,J,P,D⟩,hp,k⟩:=h;dsimp only at M J P D hp k;have C:(T.map dI)[i]?=ae (dI (w,m)):=by rw[Ap,hi];rfl
 refine ax (bH (λQ q=>aq (aq (au rfl (au rfl (bB C (aA (du q))))))) ?_);dsimp only[Ay];refine ax (bH (λQ q=>aq (aq (au rfl (au rfl (bB C (aA (d9 q))))))) ?_);dsimp only[Ay];refine ax (Hr rfl ?_);dsimp only[Ay];refine ax ?_;unfold aZ cn cx;refine au rfl ?_;dsimp only[cb,b8];refine au rfl ?_;dsimp only;rw[tZ _ (by rw[Ad];omega),<-List.map_take];refine eC (λds δ B=>∃(y t:List Ac)(L:List Str)(x:Option SV),ds=t.map Ac.d/\y++t=m.take p/\B=n/\δ=[ae _,ae _,ae _,ae _,ae _,ae (.own (L.map .str)),x]/\KnI w y L) (λδ B I=>?_) (λd r δ B N I kN=>?_) _ _ _
  ⟨[],m.take p,w,af,rfl,rfl,rfl,rfl,KnI.first M J⟩
 ·obtain⟨y,t,L,x,e,l,rfl,rfl,I⟩:=I;cases C0.mp e.symm;rw[Bk]at l;subst l;dsimp only;refine gW rfl ?_;have X:(m.take p).length<=8:=A5 (List.length_take_le _ _) ⋯;have hI:=I.len;refine aW (aT (aY (au rfl ?_)));exact Cs L ⟨.inl rfl,by omega,λx hx=>A5 (GC (I.ok x hx)) ∎,λys a b c=>LQ (G:=λys=>Q (.d (eB ys)) _) ⟨a,c,λz=>(b z).trans (I.mem z)⟩ k⟩
 ·obtain⟨y,t,L,x,e,l,rfl,rfl,I⟩:=I;obtain⟨a,t,rfl,rfl,rfl⟩:=Cf.mp e.symm;have V:=(D a (Dv (by rw[<-l];simp))).1;have j_:L.length<=36:=by
   have h1:y.length+(t.length+1)=(m.take p).length:=by rw[<-l,An,Ax]
   have h3:=I.len;have h4:(m.take p).length<=m.length:=Ft _ _;omega
  have H:(y++[a])++t=m.take p:=by rw[Bp];exact l
  have o:∀L',KnI w _ L'->N [ae _,ae _,ae _,ae _,ae _,ae _,↑a.d] B:=λL' I'=>kN _ _ ⟨y++[a],t,L',_,rfl,H,rfl,rfl,I'⟩;have u:∀(K:DEnds)(E:∀δ n,N δ n->K.nx δ n)(s:Str)(j:List Fe)(r:List Ab),a.d=.tuple (.str s::cK j::r)->cW (.str s) ((Za:List Str).map .str)=ah->a.bs=bA j->a.fs=j->aH (cT (fK Za (w2 ↥6 ⇑0 aw))) (m8 5 (aB nN (ao (w2 ↥6 ⇑1 aw) ak))) aF
    [↑(.tuple (T.map dI)),↑(.int i),↑(.int p),↑(.tuple (w.map .str)),↑(.tuple (m.map Ac.d)),ae (.own (L.map .str)),↑a.d] B K:=λK E s j r S R e3 e4=>by
   rw[S]at o ⊢;refine aQ (λQ q=>qX (λQ q=>cD rfl q) R q) ?_;refine(cI (cq rfl (Cs j ⟨rfl,e4▸V,λys X hys=>Al ⟨by rw[Ad];omega,by rw[Ad];omega⟩ ?_⟩)));have:=o (L++ys) (I.more (λk=>by simp_all) X V);rw[Bf]at this;exact E _ _ this
  have skip:∀(K:DEnds)(E:∀δ n,N δ n->K.nx δ n)(s:Str)(r:List Ab),a.d=.tuple (.str s::r)->cW (.str s) ((Za:List Str).map .str)=ai->a.bs=[]->aH (cT (fK Za (w2 ↥6 ⇑0 aw))) (m8 5 (aB nN (ao (w2 ↥6 ⇑1 aw) ak))) aF
    [↑(.tuple (T.map dI)),↑(.int i),↑(.int p),↑(.tuple (w.map .str)),↑(.tuple (m.map Ac.d)),ae (.own (L.map .str)),↑a.d] B K:=λK E s r S R e3=>by
   rw[S]at o ⊢;refine aU (λQ q=>qX (λQ q=>cD rfl q) R q) (E _ _ (o L (I.skip e3)))
  cases a with
  |lay j O=>exact skip _ (λ_ _ z=>z) "lay" [cK j,O] rfl (by rfl) rfl
  |take j=>exact u _ (λ_ _ z=>z) "take" j [] rfl (by rfl) rfl rfl
  |read j=>exact u _ (λ_ _ z=>z) "read" j [] rfl (by rfl) rfl rfl
  |look j b=>exact u _ (λ_ _ z=>z) "look" j [.int b] rfl (by rfl) rfl rfl
  |same f g b=>exact skip _ (λ_ _ z=>z) "same" [f.d,g.d,.int b] rfl (by rfl) rfl
  |go b=>exact skip _ (λ_ _ z=>z) "go" [.int b] rfl (by rfl) rfl
theorem rS{α:Type}(g):∀l:List α,e9 (l.map λf=>.bool (g f))=ae (l.map g)
 |[]=>rfl
 |f::l=>by
  rw[Ba,e9,rS g l];rfl
theorem jL{α:Type}{rest:Sl}(f)(g)(xs:List α)(hF:∀Q:List Ab->Int->Prop,c6 (aG 0) aR w Q (xs.map f) [] (af::rest) n->F δ n Q)(h:∀a∈xs,∀(n:Int) (Q':DQ),Q' (.d (.bool (g a))) n->w (↑(f a)::rest) n Q')(q:Q (.d (.bool (xs.all g))) n):wB bL (ao (aV F) ak) δ n Q:=by
 refine aT (aY (hF _ (je f _ xs [] af n h ?_)));show(match e9 (xs.map λc=>.bool _)with|some b=>Q _ n|none=>False);rw[rS];simp<;>omega
theorem qp(hl:∀Q:DQ,Q (.d (.int lo)) n->wl δ n Q)(hw:∀Q:DQ,Q (.d (.int k)) n->w δ n Q)(hh:∀Q:DQ,Q (.d (.int hi)) n->wh δ n Q)(q:Q (.d (.bool (decide (lo<=k)&&decide (k<=hi)))) n):fi dH dH wl w wh δ n Q:=by
 refine hl _ (hw _ ?_);show gJ (.d (.bool (decide _))) _ _;cases h:decide (lo<=k)with
 |true=>rw[h]at q;exact hh _ q
 |false=>rw[h]at q;exact q
theorem CJ(k:Q (.d (.int ds.length)) n):aI [.d (.tuple ds)] n Q:=k
theorem iJ(k:Q (.d (.int (a-b))) n):bN (λi j=>.int (i-j)) (.d (.int a)) (.d (.int b)) n Q:=k
theorem gC{ds:List Ab}(h:ds.length=2):∃a b,ds=[a,b]:=by
 match ds,h with
 |[a,b],_=>exact⟨a,b,rfl⟩
theorem AU(e:δ[i]?=ae (↑(.tuple ds))):∀Q:Bool->Int->Prop,Q (!decide ((ds.length:Int)=k)) n->cT (w2 (wB aI (ao (aj i) ak)) (wC (.int k)) di) δ n Q:=λQ q=>ay (λQ q=>aq (eF e (aA q))) q
theorem yx{g:Ab->Bool}(h:∀ds,g (.tuple ds)=ah->ds.length=2)(h2:ds.length≠2):g (.tuple ds)=ai:=by
 cases e:g (.tuple ds)with
 |false=>rfl
 |true=>exact f_ (h ds e) h2
theorem GB:∀ds,fX (.tuple ds)=ah->ds.length=2:=λds h=>by
 rcases ds with _|⟨a,_|⟨b,_|_⟩⟩
 ·cases h
 ·cases h
 ·rfl
 ·cases h
theorem TY:∀ws n Q,bx fX ws n Q->ws.length=1:=λ_ _ _ h=>gM h
theorem P5:∀ws n Q,bx fX ws n Q->L3 (dj Zb ws) n {nx:=λ_ n=>Q (.d .none) n,rt:=Q}:=ia λd n K q=>by
 refine aW ?_;cases d with
 |tuple f=>
  refine dz (b:=fX _) (λQ q=>kK rfl q) (λ_ Q q=>?_) q;by_cases e:f.length=2
  ·obtain⟨a,b,rfl⟩:=gC e;exact dz (λQ q=>aq (eF rfl (aA q))) (λ_ Q q=>dz (λQ q=>fJ (λQ q=>cD rfl q) Q q) (λ_ Q q=>fJ (λQ q=>cq rfl q) Q q) q) q
  ·rw[yx GB e]at q;exact dz (a:=ai) (b:=ah) (λQ q=>aq (eF rfl (aA (show Q _ n by rw[c_ ⋯];exact q)))) (λz=>nomatch z) q
 |_=>exact dz (a:=ai) (b:=ai) (λQ q=>q) (λz=>nomatch z) q
theorem vN(h:fX d=ah):∃(x:Str)(v:Ab),d=.tuple [.str x,v]/\bR 4 (.str x)=ah/\c7 v=ah:=by
 cases d with
 |tuple c=>
  obtain⟨a,b,rfl⟩:=gC (GB c h);have h:(bR 4 a&&c7 b)=ah:=h;rw[Av]at h;cases a with
  |str x=>exact⟨x,b,rfl,h.1,h.2⟩
  |_=>cases h.1
 |_=>cases h
theorem y6:∀(ds i':List Ab)(x y:Option SV),(∀d∈ds,fX d=ah)->(∀bs:List Bool,bs.all id=fL ds->Q (i'++bs.map .bool) n)->
  c6 (dF 2 (bE (aG 0) (bE (aG 1) cZ))) aR (w2 (w2 ↥0 ⇑0 aw) (w2 ↥1 ⇑0 aw) fm) Q (cJ ds (ds.drop 1)) i' [x,y] n
 |[],i',x,y,_,q=>by
  have:=q [] rfl;rw[Er,Bk]at this;exact this
 |[a],i',x,y,_,q=>by
  have:=q [] rfl;rw[Er,Bk]at this;exact this
 |a::b::r,i',x,y,h,q=>by
  obtain⟨s,v,rfl,_⟩:=vN (h a Am);obtain⟨t,u,rfl,_⟩:=vN (h b (Ak _ Am));refine Al rfl ?_;dsimp only[bE,cZ,aG,aR];refine aq (cD rfl (cD rfl (y6 _ _ _ _ (λd c=>h d (Ak _ c)) λbs e=>?_)));have:=q _ (by rw[Cr,e];rfl);rw[Bp];exact this
theorem J6:∀ws n Q,bx gi ws n Q->ws.length=1:=λ_ _ _ h=>gM h
theorem GW:∀bs:List Bool,e9 (bs.map .bool)=ae bs
 |[]=>rfl
 |b::r=>by rw[Ba,e9,GW r];rfl
theorem Pp:∀ws n Q,bx gi ws n Q->UL (dj Zb ws) n {nx:=λ_ n=>Q (.d .none) n,rt:=Q}:=ia λd n K q=>by
 cases d with
 |tuple c=>
  have q:K.rt (.d (.bool (c.all fX&&fL c))) n:=q;have h:∀Q:Bool->Int->Prop,Q _ n->aM (cT (wB bL (ao (aV (bG [af] (cn ↥0) _ aR (aB _ (ao ↥0 ak)))) ak))) [ae _] n Q:=λQ q=>cY (λQ q=>ay (λQ q=>jL id fX c (rest:=[]) (λQ q=>fN (λQ q=>au rfl q) (by rw[Dw]at q;exact q)) (λd m n o q=>fJ (λQ q=>au rfl q) o q) q) q) q;cases i:c.all fX with
  |false=>
   rw[i]at q h;exact ax (aQ (λQ q=>bo (dU rfl) (λ_ Q q=>h Q q) q) (aW (aA q)))
  |true=>
   rw[i]at h;refine ax (aU (λQ q=>bo (dU rfl) (λ_ Q q=>h Q q) q) ?_);dsimp only[aF];refine aW (aT (aY ?_));unfold bG vj cx b8 cb;refine au rfl (au rfl (aA ?_));have p:bz c (ae 1) af=c.drop 1:=by
    unfold bz;rw[show(1:Int)=((1:Nat):Int)from rfl,HT.sIx_nat,HT.sIx_none];cases c with
    |nil=>rfl
    |cons a r=>simp
   dsimp only;rw[p];refine Al (by simp) (y6 c [] af af (λd m=>Bu.mp i d m) λbs s=>?_);show(match e9 (bs.map .bool)with|some bs=>K.rt _ n|none=>False);rw[GW];simp_all
 |_=>exact ax (aQ (λQ q=>bo (b:=ah) (λQ q=>cY (λQ q=>ay (k:=ai) (λQ q=>q) q) q) (λz=>nomatch z) q) (aW (aA q)))
theorem z9(ds:List Ab):pZ (.tuple ds)=decide ((ds.length:Int)=3):=by
 rcases ds with _|⟨a,_|⟨b,_|⟨c,_|_⟩⟩⟩
 ·rfl
 ·rfl
 ·rfl
 ·rfl
 ·exact(c_ (by simp;omega)).symm
theorem Vb:∀ws n Q,bx mi ws n Q->ws.length=1:=λ_ _ _ h=>gM h
theorem Lp:∀ws n Q,bx mi ws n Q->IB (dj Zb ws) n {nx:=λ_ n=>Q (.d .none) n,rt:=Q}:=ia λd n K q=>by
 refine aW ?_;cases d with
 |tuple e=>
  refine dz (λQ q=>kK rfl q) (λ_ Q q=>jL id pZ e (rest:=[]) (λQ q=>fN (λQ q=>au rfl q) (by rw[Dw]at q;exact q)) (λd f n h q=>?_) q) q;cases d with
  |tuple g=>
   rw[z9]at q;exact dz (λQ q=>kK rfl q) (λ_ Q q=>aq (eF rfl (aA q))) q
  |_=>exact dz (a:=ai) (b:=ai) (λQ q=>q) (λz=>nomatch z) q
 |_=>exact dz (a:=ai) (b:=ai) (λQ q=>q) (λz=>nomatch z) q
theorem zH:∀ds,iW (.tuple ds)=ah->ds.length=2:=λds h=>by
 rcases ds with _|⟨a,_|⟨b,_|_⟩⟩
 ·cases h
 ·cases h
 ·rfl
 ·cases h
theorem OR:bV "tuple" d=w6 d:=by cases d<;>rfl
theorem Pa:∀ws n Q,bx iW ws n Q->ws.length=1:=λ_ _ _ h=>gM h
theorem RX:∀ws n Q,bx iW ws n Q->Uo (dj Zb ws) n {nx:=λ_ n=>Q (.d .none) n,rt:=Q}:=ia λd n K q=>by
 cases d with
 |tuple ds=>
  by_cases f:ds.length=2
  ·obtain⟨a,b,rfl⟩:=gC f;refine ax (aU (λQ q=>bo (dU rfl) (λ_ Q q=>AU (ds:=[a,b]) rfl Q q) q) ?_);dsimp only[aF];exact aW (dz (λQ q=>fJ (λQ q=>cD rfl q) Q q) (λ_ Q q=>(cq rfl (by rw[<-OR]at q;exact q))) q)
  ·rw[yx zH f]at q;have g:decide ((ds.length:Int)=2)=ai:=c_ ⋯;exact ax (aQ (λQ q=>bo (dU rfl) (λ_ Q q=>AU rfl Q (by rw[g];exact q)) q) (aW (aA q)))
 |_=>exact ax (aQ (λQ q=>bo (b:=ah) (λQ q=>cY (λQ q=>ay (k:=ai) (λQ q=>q) q) q) (λz=>nomatch z) q) (aW (aA q)))
theorem KH:bK m3 JC ["thing","most"]:=λws n Q h=>by
 obtain⟨d,k,rfl,q⟩:=h;refine aW ?_;cases d with
 |int i=>exact dz (λQ q=>fJ (d:=.int i) (λQ q=>au rfl q) Q q) (λ_ Q q=>qp (λQ q=>aA q) (λQ q=>au rfl q) (λQ q=>au rfl q) q) q
 |_=>exact dz (a:=ai) (b:=ai) (λQ q=>(q)) (λz=>nomatch z) q
theorem Sj:bK si JD ["program","hand"]:=λws n Q h=>by
 obtain⟨P,⟨a,b,c⟩,rfl,q⟩:=h;have q:Q (.d (.bool (fg P a b))) n:=q;refine aW (dz (λQ q=>bw (cD rfl (aq (eF rfl (aA (iJ ⟨a,_,rfl,by rw[Ad];exact q⟩)))))) (λh1 Q q=>?_) q);cases a with
 |int i=>
  have f:(decide _&&decide _)=ah:=h1;rw[Av]at f;have r:=d_ f.2;obtain⟨m,rfl⟩:=Ca (d_ f.1);have k:m < P.length:=by omega
  have q:Q (.d (.bool (fh 0 (((P[m]?).map λbl=>bl.2.length).getD 0:Nat) b))) n:=q;rw[Ai k]at q;have p:(P.map dI)[m]?=ae (dI P[m]):=by rw[Ap,Ai k];rfl
  refine bw (cq rfl (aT (aq (aq (au rfl (cD rfl (bB p (aA (d9 (CJ ⟨b,_,rfl,?_⟩))))))))));rw[Ad];exact q
 |_=>cases h1
theorem zu(hp:gZ (P,h)=ah):∃(i p:Nat)(b:Bl),h=(.int i,.int p,h.2.2)/\P[i]?=ae b/\p<=b.2.length:=by
 obtain⟨a,c,e⟩:=h;have hp:fg P a c=ah:=hp;unfold fg at hp;rw[Av]at hp;cases a with
 |int i=>
  have g:(decide _&&decide _)=ah:=hp.1;rw[Av]at g;have o:=d_ g.2;obtain⟨m,rfl⟩:=Ca (d_ g.1);have n:m < P.length:=by omega
  have k:fh 0 (((P[m]?).map λbl=>bl.2.length).getD 0:Nat) c=ah:=hp.2;rw[Ai n]at k;cases c with
  |int j=>
   have l:(decide _&&decide (j<=(P[m].2.length:Int)))=ah:=k;rw[Av]at l;have q:=d_ l.2;obtain⟨p,rfl⟩:=Ca (d_ l.1);exact⟨m,p,_,rfl,Ai n,by omega⟩
  |_=>cases k
 |_=>cases hp.1
theorem Up(h:lI b)(p):∀k∈kn b.1 b.2 p,eQ k:=λk c=>by
 rcases A1.mp c with z|z
 ·exact h.2.1 k z
 ·obtain⟨a,d,c⟩:=List.mem_flatMap.mp z;exact(qk (h.2.2.2 a (Dv d)).1).1 k c
theorem tK(h:lI b)(p):(∀k∈kS (kn b.1 b.2 p),eQ k)/\(kS (kn b.1 b.2 p)).Pairwise λa b=>gg a b=ah:=by
 by_cases e:∃d,Kno (kn b.1 b.2 p) d
 ·obtain⟨d,c⟩:=e;rw[rA c];exact⟨λk f=>Up h p k ((c.2.2 k).mp f),c.up⟩
 ·have:kS (kn b.1 b.2 p)=[]:=by unfold kS;rw[dif_neg e]
  simp_all
theorem BU(h:Th L k (.str x)):Dp x=ah:=by cases h;assumption
theorem qx:∀{ys:List Str}{ds:List Ab},dC ys ds=ah->∃L:List (Str×Ab),ds=L.map fu/\L.map (·.1)=ys/\∀q∈L,c7 q.2=ah
 |[],[],_=>⟨[],rfl,rfl,λq a=>nomatch a⟩
 |[],d::ds,h=>by cases h
 |y::ys,[],h=>by cases h
 |y::ys,d::ds,h=>by
  unfold dC at h
  split at h
  ·rename_i e;cases e
  ·rename_i j c x v f i g;cases i;cases g;rw[Av,Av]at h;obtain⟨L,rfl,e,b⟩:=qx h.2.2;exact⟨(x,v)::L,rfl,by rw[Ba,e,(d_ h.1)],λq a=>(Ao.mp a).elim (λz=>z▸h.2.1) (b q)⟩
  ·cases h
theorem FW:∀(L:List (Str×Ab))(ys:List Str),(∀q∈L,c7 q.2=ah)->dC ys (L.map fu)=decide (L.map (·.1)=ys)
 |[],[],_=>rfl
 |[],y::ys,_=>rfl
 | (x,v)::L,[],_=>rfl
 | (x,v)::L,y::ys,h=>by
  show(decide (x=y)&&(c7 v&&dC ys _))=decide (x::L.map _=y::ys);rw[(FW L ys λq c=>h q (Ak _ c)),h _ Am,Gc];by_cases b:x=y
  ·by_cases a:L.map (·.1)=ys
   ·rw[b_ b,b_ a,b_ (by rw[b,a])];rfl
   ·rw[c_ a,c_ (λz=>a (E4 z).2),Bool.and_false]
  ·rw[c_ b,c_ (λz=>b (E4 z).1)];rfl
theorem BG:∀L:List (Str×Ab),fL (L.map fu)=nK ((L.map (·.1)).map .str)
 |[]=>rfl
 |[_]=>rfl
 |a::b::L=>by
  show(decide _&&fL ((b::L).map fu))=_;rw[(BG (b::L))];rfl
theorem U8(h:ds.all fX=ah):∃L:List (Str×Ab),ds=L.map fu/\∀q∈L,bR 4 (.str q.1)=ah/\c7 q.2=ah:=mQ λd a=>by
 obtain⟨x,v,rfl,b,c⟩:=vN (Bu.mp h d a);exact⟨(x,v),⟨b,c⟩,rfl⟩
theorem Im(wf:lI b)(h:i4 (kS (kn b.1 b.2 p)) d=ah):gi d=ah:=by
 obtain⟨f,i⟩:=tK wf p;cases d with
 |tuple j=>
  obtain⟨L,rfl,e,g⟩:=qx h;show((L.map fu).all fX&&fL _)=ah;rw[BG,e,(zI _).mpr i,Bool.and_true,Dt];refine Bu.mpr λq c=>?_;show(bR 4 _&&c7 q.2)=ah;rw[g q c,(f q.1 (by rw[<-e];exact Cz c)).2.2];rfl
 |_=>cases h
theorem yo(h:∀k∈ks,Dp k=ah):Cq (eB ks)=ah/\Dq (eB ks)<=20:=by
 have:Dz (ks.map .str)=ah/\F9 (ks.map .str)<=0:=by
  induction ks with
  |nil=>exact⟨rfl,Bh _⟩
  |cons k r c=>
   obtain⟨a,d⟩:=c λx b=>h x (Ak _ b);rw[Ba];refine⟨?_,?_⟩
   ·rw[Dz,a,Cq,h k Am];rfl
   ·rw[F9,Dq];omega
 refine⟨?_,?_⟩
 ·show Cq (.tuple _)=ah;rw[Cq];simp_all
 ·show Dq (.tuple _)<=20;rw[Dq];omega
theorem PN:bK qF K3 ["program","hand"]:=λws n Q h=>by
 obtain⟨P,D,rfl,H,I,O,q⟩:=h;obtain⟨i,p,b,J,o,m⟩:=zu I;obtain⟨X,V,c⟩:=D;cases J;have u:=H b (A0 o);have G:hO (P,(.int i,.int p,c))=i4 (kS (kn b.1 b.2 p)) c:=by
  show(match P[i]? with|some b=>i4 (kS (kn b.1 b.2 p)) c|none=>ai)=_;rw[o]
 rw[G]at q;have l:∀Q:Bool->Int->Prop,Q _ n->aM (cT (aB (bx gi) (ao (w2 ↥1 _ aw) ak))) [↑(eD P),↑(.tuple [.int i,.int p,c])] n Q:=λQ q=>cY (λQ q=>ay (λQ q=>fJ (λQ q=>aq (au rfl (aA (dP q)))) Q q) q) q;cases f:gi c with
 |false=>
  rw[f]at l;have:i4 (kS (kn b.1 b.2 p)) c=ai:=by
   cases e:i4 _ c with
   |false=>rfl
   |true=>rw[Im u e]at f;omega
  rw[this]at q;exact ax (aQ l (aW (aA q)))
 |true=>
  rw[f]at l;refine ax (aU l ?_);dsimp only[aF];cases c with
  |tuple x=>
   have f:(x.all fX&&fL x)=ah:=f;rw[Av]at f;obtain⟨L,rfl,F⟩:=U8 f.1;have q:Q (.d (.bool (dC _ _))) n:=q;rw[FW L _ λq M=>(F q M).2]at q;have S:∀k∈L.map (·.1),Dp k=ah:=λk s=>by
    obtain⟨r,E,rfl⟩:=A6.mp s;obtain⟨Y,W,K,_,_⟩:=O;exact BU (Th.mem (K.mem _ (Cz E)) _ Am)
   refine aW (aq (aT (aY (fN (λQ q=>aq (au rfl (aA (dP q)))) (je fu _ L [] af n (λq _ n U k=>cD rfl k) ?_)))));refine bC (au rfl (cD rfl (cq rfl ⟨P,i,p,b,rfl,o,u,m,λhK=>?_⟩)));have C:=yo S;have A:=yo λk s=>((tK u p).1 k s).2.1;have R:(L.map λq=>D0 q.1)=(L.map (·.1)).map .str:=by simp
   rw[R];refine⟨C.1,A.1,C.2,A.2,_,rfl,?_⟩;show Q (.d (.bool (Bz (.tuple ((L.map _).map .str)) (.tuple _)))) n;rw[Bz,CA];exact q
  |_=>cases f
theorem FI{α β:Type}(f)(g)(p:α×β->Bool):∀(xs:List α)(ys:List β)(i':List Ab)(x y:Option SV)(n:Int),(∀q∈xs.zip ys,∀(n:Int)(Q':DQ),Q' (.d (.bool (p q))) n->w [↑(f q.1),↑(g q.2)] n Q')->Q (i'++(xs.zip ys).map λq=>.bool (p q)) n->c6 (dF 2 (bE (aG 0) (bE (aG 1) cZ))) aR w Q (cJ (xs.map f) (ys.map g)) i' [x,y] n
 |[],ys,i',x,y,n,_,q=>by
  rw[List.zip_nil_left,Er,Bk]at q;cases ys<;>exact q
 |a::xs,[],i',x,y,n,_,q=>by
  rw[List.zip_nil_right,Er,Bk]at q;exact q
 |a::xs,b::ys,i',x,y,n,h,q=>by
  refine Al rfl ?_;dsimp only[aR];refine h _ Am n _ (FI f g p xs ys _ _ _ n (λr c=>h r (Ak _ c)) ?_);rw[Bp];exact q
theorem xu{α β:Type}(f)(g)(p)(xs:List α)(ys:List β)(hl:xs.length=ys.length)(e1:δ[i]?=ae (↑(.tuple (xs.map f))))(e2:δ[j]?=ae (↑(.tuple (ys.map g))))(h:∀q∈xs.zip ys,∀(n:Int) (Q':DQ),Q' (.d (.bool (p q))) n->w [↑(f q.1),↑(g q.2)] n Q')(q:Q (.d (.bool ((xs.zip ys).all p))) n):
  wB bL (ao (aV (bG [af,af] (ic (aj i) (aj j)) (dF 2 (bE (aG 0) (bE (aG 1) cZ))) aR w)) ak) δ n Q:=by
 refine aT (aY ?_);unfold bG ic;refine au e1 (au e2 (Al (by rw[Ad,Ad];omega) ?_));refine FI f g p xs ys [] af af n h ?_;show(match e9 ((xs.zip ys).map λc=>.bool _)with|some a=>Q _ n|none=>False);rw[rS];show Q _ n;rw[Dt];exact q
theorem Ju(h:iW d=ah):∃(T:List H3)(ns:List Ab),d=.tuple [.tuple (T.map dm),.tuple ns]:=by
 cases d with
 |tuple g=>
  obtain⟨a,b,rfl⟩:=gC (zH g h);have h:(mi a&&w6 b)=ah:=h;rw[Av]at h;cases a with
  |tuple l=>
   cases b with
   |tuple ns=>
    obtain⟨T,rfl,_⟩:=mQ (f:=dm) (P:=λ_=>True) λx j=>by
     have:=Bu.mp (h.1) x j;cases x with
     |tuple k=>
      rw[z9]at this;have:=d_ this
      match k,this with
      |[a,b,c],_=>exact⟨(a,b,c),trivial,rfl⟩
     |_=>cases this
    exact⟨T,ns,rfl⟩
   |_=>cases h.2
  |_=>cases h.1
 |_=>cases h
theorem Um{T:List H3}(h:pB (.tuple [.tuple (T.map dm),.tuple ns])):(∀t∈T,pB t.2.2)/\∀x∈ns,pB x:=by
 obtain⟨L,k,a,b,e⟩:=h;refine⟨λt d=>?_,λx c=>⟨L,_,(a.mem (.tuple ns) (by simp)).mem x c,b,by omega⟩⟩;exact⟨L,_,Th.mem ((a.mem (.tuple (T.map dm)) (by simp)).mem _ (Cz d)) t.2.2 (by simp),b,by omega⟩
theorem qh{α β:Type}{xs:List α}{ys:List β}{q:α×β}(h:q∈xs.zip ys):q.1∈xs/\q.2∈ys:=⟨(Em h).1,(Em h).2⟩
theorem uG(T:List H3)(ns):iW (.tuple [.tuple (T.map dm),.tuple ns])=ah:=by
 show((T.map dm).all pZ&&ah)=ah;rw[Bool.and_true,Dt];exact Bu.mpr λ_ _=>rfl
theorem OM:bK v9 Jz ["programs","thing","hands"]:=λws n Q h=>by
 obtain⟨b,d,rfl,v,E,k⟩:=h;have o:∀Q:Bool->Int->Prop,Q _ n->aM (cT (aB (bx iW) (ao ↥1 ak))) [↑(.tuple (b.map eD)),↑d,af] n Q:=λQ q=>cY (λQ q=>ay (λQ q=>fJ (λQ q=>au rfl q) Q q) q) q;cases s:iW d with
 |false=>
  rw[s]at o;exact ax (aQ o (aW (aA (k _ (.inl ⟨s,rfl⟩)))))
 |true=>
  rw[s]at o;obtain⟨T,f,rfl⟩:=Ju s;refine ax (aU o ?_);dsimp only[aF];refine ax (bH (λQ q=>cD rfl q) ?_);obtain⟨B,D⟩:=Um E;have a:=λr e=>k r (.inr ⟨T,f,rfl,e⟩);have m:∀Q:Bool->Int->Prop,Q _ n->cT (w2 (wB aI (ao ↥2 ak)) (wB aI (ao ↥0 ak)) di) [ae _,↑(.tuple [.tuple (T.map dm),.tuple f]),ae _] n Q:=λQ q=>ay (λQ q=>aq (eF rfl (eF rfl (show Q (.d (.bool (!decide (((T.map dm).length:Int)=((b.map eD).length:Int))))) n by rw[Ad,Ad,show decide _=decide (T.length=b.length)from decide_eq_decide.mpr ⋯];exact q)))) q;by_cases c:T.length=b.length
  ·rw[b_ c]at m;refine ax (aU m ?_);have u:∀Q:Bool->Int->Prop,Q _ n->aM (cT (wB bL (ao (aV (bG [af,af] (ic ↥0 ↥2) _ aR (aB si (ao ↥0 (ao ↥1 ak))))) ak))) [ae _,↑(.tuple [.tuple (T.map dm),.tuple f]),ae _] n Q:=λQ q=>cY (λQ q=>ay (λQ q=>xu eD dm gZ b T c.symm rfl rfl (λr _ n z q=>bw (au rfl (au rfl ⟨r.1,r.2,rfl,q⟩))) q) q) q;cases g:(b.zip T).all gZ with
   |false=>
    rw[g]at u;exact ax (aQ u (aW (aA (a _ (by unfold f9;rw[a' c,g];rfl)))))
   |true=>
    rw[g]at u;refine ax (aU u ?_);have l:∀Q:Bool->Int->Prop,Q _ n->aM (cT (wB bL (ao (aV (bG [af,af] (ic ↥0 ↥2) _ aR (aB qF (ao ↥0 (ao ↥1 ak))))) ak))) [ae _,↑(.tuple [.tuple (T.map dm),.tuple f]),ae _] n Q:=λQ q=>cY (λQ q=>ay (λQ q=>xu eD dm hO b T c.symm rfl rfl (λr y n z q=>bw (au rfl (au rfl ⟨r.1,r.2,rfl,(v.2 r.1 (qh y).1).2.2,Bu.mp g r y,B r.2 (qh y).2,q⟩))) q) q) q;cases j:(b.zip T).all hO with
    |false=>
     rw[j]at l;exact ax (aQ l (aW (aA (a _ (by unfold f9;rw[a' c,g,j];rfl)))))
    |true=>
     rw[j]at l;refine ax (aU l ?_);have p:∀Q:Bool->Int->Prop,Q _ n->aM (cT (wB bL (ao (aV (bG [af] (cn (w2 ↥1 _ aw)) _ aR (aB _ (ao ↥0 ak)))) ak))) [↑(.tuple (b.map eD)),↑(.tuple [.tuple (T.map dm),.tuple f]),↑(.tuple (T.map dm))] n Q:=λQ q=>cY (λQ q=>ay (λQ q=>jL id fe f (rest:=[]) (λQ q=>fN (λQ q=>cq rfl q) (by rw[Dw]at q;exact q)) (λd F n z q=>fJ (λQ q=>au rfl q) z q) q) q) q;cases t:f.all fe with
     |false=>
      rw[t]at p;exact ax (aQ p (aW (aA (a _ (by unfold f9;rw[a' c,g,j,t];rfl)))))
     |true=>
      rw[t]at p;refine ax (aU p ?_);dsimp only[aF];exact aW (aA (a _ (by unfold f9;rw[a' c,g,j,t];rfl)))
  ·rw[c_ c]at m;exact ax (aQ m (aW (aA (a _ (by unfold f9;rw[a_ c])))))
theorem vH{α:Type}(p q):∀l:List α,(l.all λa=>p a&&q a)=(l.all p&&l.all q)
 |[]=>rfl
 |a::r=>by
  rw[Cr,Cr,Cr,vH p q r];cases p a<;>cases q a<;>simp
theorem LM(h:gc P d=ah):∃t:H3,d=dm t:=by
 unfold gc at h
 split at h
 ·rename_i a b c;exact⟨(a,b,c),rfl⟩
 ·cases h
theorem ED:∀{ps:Pg}{hs:List Ab},hs.length=ps.length->((ps.zip hs).all λq=>gc q.1 q.2)=ah->∃T:List H3,hs=T.map dm
 |[],[],_,_=>⟨[],rfl⟩
 |[],_::_,e,_=>by trivial
 |_::_,[],e,_=>by simp
 |P::ps,h::hs,e,a=>by
  rw[E7,Cr,Av]at a;obtain⟨t,rfl⟩:=LM a.1;obtain⟨T,rfl⟩:=ED (by simp_all) a.2;exact⟨t::T,rfl⟩
theorem yU(h:gu ps d=ah):∃(T:List H3)(ns:List Ab),d=.tuple [.tuple (T.map dm),.tuple ns]/\T.length=ps.length/\(ps.zip T).all gZ=ah/\(ps.zip T).all hO=ah/\ns.all fe=ah:=by
 unfold gu at h
 split at h
 ·rename_i a b;rw[Av]at h;obtain⟨c,i⟩:=h;cases b with
  |tuple ns=>
   cases a with
   |tuple j=>
    have c:(decide _&&(ps.zip j).all λq=>gc q.1 q.2)=ah:=c;rw[Av]at c;have g:=d_ c.1;obtain⟨T,rfl⟩:=ED g c.2;have e:((ps.zip (T.map dm)).all λq=>gc q.1 q.2)=((ps.zip T).all gZ&&(ps.zip T).all hO):=by
     rw[List.zip_map_right,Dt,<-vH];rfl
    have f:=c.2;rw[e,Av]at f;exact⟨T,ns,rfl,by rw[Ad]at g;exact g,f.1,f.2,i⟩
   |_=>cases c
  |_=>cases i
 ·cases h
theorem sV(ps:Pg)(T:List H3)(ns:List Ab):gu ps (.tuple [.tuple (T.map dm),.tuple ns])=(decide (T.length=ps.length)&&((ps.zip T).all gZ&&(ps.zip T).all hO)&&ns.all fe):=by
 show((decide _&&((ps.zip _).all λq=>gc q.1 q.2))&&ns.all fe)=_;have e:((ps.zip (T.map dm)).all λq=>gc q.1 q.2)=((ps.zip T).all gZ&&(ps.zip T).all hO):=by
  rw[List.zip_map_right,Dt,<-vH];rfl
 rw[e,Ad]
theorem PR(h:Ht ps d r):fU r=gu ps d:=by
 rcases h with⟨f,rfl⟩|⟨T,b,rfl,rfl⟩
 ·cases e:gu ps d with
  |false=>rfl
  |true=>
   obtain⟨T,b,rfl,_⟩:=yU e;rw[uG]at f;trivial
 ·rw[sV];unfold f9;by_cases e:T.length=ps.length
  ·rw[a' e,b_ e];cases(ps.zip T).all gZ<;>cases(ps.zip T).all hO<;>cases b.all fe<;>rfl
  ·rw[a_ e,c_ e];rfl
theorem AM(k):∀{ys:List Str},(ys.Pairwise λa b=>gg a b=ah)->∃zs:List Str,(zs.Pairwise λa b=>gg a b=ah)/\∀x,x∈zs↔x=k\/x∈ys
 |[],_=>⟨[k],D2 _ _,λx=>by simp⟩
 |y::r,h=>by
  obtain⟨j,m⟩:=C8.mp h;cases e:gg k y with
  |true=>
   refine⟨k::y::r,C8.mpr ⟨λc f=>?_,h⟩,λx=>by simp⟩;rcases Ao.mp f with rfl|f
   ·exact e
   ·exact slin.tr1 e (slin.asym _ _ (j c f))
  |false=>
   by_cases z:k=y
   ·subst z;exact⟨_,h,λx=>by simp⟩
   ·have g:gg y k=ah:=by
     cases g:gg y k with
     |true=>rfl
     |false=>exact f_ (slin.tot k y e g) z
    obtain⟨zs,l,i⟩:=AM k m;refine⟨y::zs,C8.mpr ⟨λc f=>?_,l⟩,λx=>?_⟩
    ·rcases(i c).mp f with rfl|f
     ·exact g
     ·exact j c f
    ·rw[Ao,i x,Ao]
     constructor
     ·rintro(q|q|q)
      ·exact .inr (.inl q)
      ·exact .inl q
      ·exact .inr (.inr q)
     ·rintro(q|q|q)
      ·exact .inr (.inl q)
      ·exact .inl q
      ·exact .inr (.inr q)
theorem Ki(h:ys.Pairwise λa b=>gg a b=ah)(m:∀k,k∈ys↔k∈l):Kno l ys:=by
 refine⟨?_,?_,m⟩
 ·refine h.imp ?_
  rintro a b h rfl
  rw[slin.irr]at h;cases h
 ·unfold gH;exact h.imp λ{a b} h=>e_ (slin.asym a b h)
theorem UD:∀l:List Str,∃ys,Kno l ys:=λl=>by
 have:∃ys:List Str,(ys.Pairwise λa b=>gg a b=ah)/\∀k,k∈ys↔k∈l:=by
  induction l with
  |nil=>exact⟨[],.nil,λk=>Iff.rfl⟩
  |cons a r f=>
   obtain⟨ys,h,m⟩:=f;obtain⟨d,c,e⟩:=AM a h;exact⟨d,c,λk=>by rw[e,m,Ao]⟩
 obtain⟨ys,h,m⟩:=this;exact⟨ys,Ki h m⟩
theorem U6(l):Kno l (kS l):=by
 obtain⟨a,h⟩:=UD l;rw[rA h];exact h
theorem DY(h:kd b):lI b:=⟨h.1,h.2.1,h.2.2.1,h.2.2.2.1⟩
theorem Ow(h:bT ps):pK ps:=⟨h.1,λP a=>⟨(h.2 P a).1,(h.2 P a).2.1,λb c=>DY ((h.2 P a).2.2 b c).1⟩⟩
theorem Hb(h:c7 d=ah)(t:Th L k d):ck d=ah:=by
 cases d with
 |str x=>
  have h:(bR 8 _ || false)=ah:=h;rw[Bool.or_false]at h;have e:=Q6 h;show(decide _&&(Dp x&&bR 8 _))=ah;rw[h,BU t,b_ ⋯];rfl
 |int i=>
  have h:(decide _&&decide _)=ah:=h;rw[Av]at h;exact lF (d_ h.1) (d_ h.2)
 |_=>cases h
theorem Ng(j':kM P)(h1:gZ (P,t)=ah)(h2:hO (P,t)=ah)(th:Th L k (dm t)):∃(x:Hn)(b:Bl),dm t=cM x/\P[x.1]?=ae b/\okHn b x:=by
 obtain⟨i,p,b,e,f,l⟩:=zu h1;obtain⟨A,y,c⟩:=t;cases e;have j:=(j'.2.2 b (A0 f)).1;have h2:(match P[i]? with|some b=>i4 (kS (kn b.1 b.2 p)) c|none=>ai)=ah:=h2;rw[f]at h2;cases c with
 |tuple s=>
  obtain⟨d,rfl,e,o⟩:=qx h2;have a:=U6 (kn b.1 b.2 p);obtain⟨m,v⟩:=tK (DY j) p;refine⟨(i,p,d),b,rfl,f,l,by rw[e];exact a.1,λq h=>⟨m q.1 (by rw[<-e];exact Cz h),?_⟩,?_,λk=>by rw[e];exact a.2.2 k,?_⟩
  ·exact Hb (o q h) (Th.mem (Th.mem (Th.mem th (.tuple (d.map fu)) (by simp)) _ (Cz h)) q.2 (by simp))
  ·have:=a.2.1;rw[<-e]at this;unfold gH at this;rw[Fl]at this;exact this
  ·have r:=ma a.1 λz n=>(a.2.2 z).mp n;have u:=r8 j p;have w:d.length=(kS (kn b.1 b.2 p)).length:=by rw[<-e,Ad]
   show d.length<=40;omega
 |_=>cases h2
theorem BO:∀{ps:Pg}{T:List H3},(∀P∈ps,kM P)->T.length=ps.length->(ps.zip T).all gZ=ah->(ps.zip T).all hO=ah->(∀t∈T,Th L k (dm t))->∃hs:List Hn,T.map dm=hs.map cM/\okHs ps hs
 |[],[],_,_,_,_,_=>⟨[],rfl,rfl,λi P h=>by simp at h⟩
 |[],_::_,_,e,_,_,_=>by simp at e
 |_::_,[],_,e,_,_,_=>by simp at e
 |P::ps,t::T,f,e,c,a,d=>by
  rw[E7,Cr,Av]at c a;obtain⟨x,b,j,l,r⟩:=Ng (f P Am) c.1 a.1 (d t Am);obtain⟨hs,p,n,m⟩:=BO (λP q=>f P (Ak _ q)) (by simp_all) c.2 a.2 λt o=>d t (Ak _ o);refine⟨_,by rw[Ba,Ba,j,p],by rw[Ax,Ax,n],λi Q g=>?_⟩;cases i with
  |zero=>cases g;exact⟨x,b,rfl,l,r⟩
  |succ i=>exact m i Q g
theorem Q7(h:fe d=ah)(th:Th L k d):∃q:Nt,d=fQ q/\mT q:=by
 unfold fe at h
 split at h
 ·rename_i a b;rw[Av]at h;have m:=Th.mem th a (by simp);obtain⟨c,e⟩:=h;cases a with
  |tuple f=>
   have c:(decide _&&(decide _&&f.all c7))=ah:=c;rw[Av,Av]at c;have p:=d_ c.1;have o:=d_ c.2.1;refine⟨(f,b),rfl,⟨⟨by show f.length<=4;omega,by show 1<=f.length;omega⟩,λd l=>Hb (Bu.mp c.2.2 d l) (m.mem d l)⟩,?_⟩;cases b with
   |none=>exact .inl rfl
   |int i=>
    have e:(decide _&&decide _)=ah:=e;rw[Av]at e;exact .inr ⟨i,rfl,d_ e.1,d_ e.2⟩
   |_=>cases e
  |_=>cases c
 ·cases h
theorem Th.len(h:Th L k (.tuple ds)):ds.length<=L:=by
 cases h with
 |tuple a b=>exact a
theorem Sv(j':bT ps)(h:gu ps d=ah)(th:Th L k d)(hL:L<=99):∃s:TK,d=s.1/\l3 d=ae s/\Gk ps 0 s:=by
 obtain⟨T,i,rfl,e,v,u,r⟩:=yU h;have l:=Th.mem th (.tuple i) (by simp);obtain⟨f,p,b⟩:=BO j'.2 e v u λt w=>(Th.mem th (.tuple (T.map dm)) (by simp)).mem _ (Cz w);obtain⟨c,n,a⟩:=mQ λx m=>by
  obtain⟨q,e,o⟩:=Q7 (Bu.mp r x m) (l.mem x m);exact⟨q,o,e⟩
 have z:c.length<=99:=by
  have:=l.len;rw[n,Ad]at this;omega
 have j:Dn [.tuple (T.map dm),.tuple i]=b3 f c:=by rw[p,n];rfl
 have y:=sh b a;refine⟨⟨b3 f c,y⟩,j,?_,f,c,rfl,⟨j',b,by omega,a⟩,by omega⟩;rw[j];unfold l3;simp_all
theorem nI(h:ck d=ah):Th L k d:=by
 cases d with
 |str x=>
  unfold ck at h;rw[Av,Av]at h;have:=d_ h.1;exact .str x ⋯ h.2.1
 |int i=>
  obtain⟨a,b⟩:=wN h;exact .int i (by grind) (by grind)
 |_=>cases h
theorem HQ(h:i<=1000):Th L k (.int (i:Nat)):=.int _ (by grind) (by grind)
theorem EH(g:Gk ps c s)(hc:19<=c):Th 80 5 s.1:=by
 obtain⟨B,A,e,l,z⟩:=g;have a:=l.2.1;rw[e];refine vk (.tuple (by rw[Ad,a.1];have:=l.1.1;omega) λd f=>?_) (.tuple (by rw[Ad];omega) λd f=>?_) ∎
 ·obtain⟨h,y,rfl⟩:=A6.mp f;obtain⟨i,v,u⟩:=List.getElem_of_mem y;obtain⟨F,b,o,n,j⟩:=a.2 i _ (Ai _);rw[Ai v,u]at o;cases o;have t:=l.1.2 _ (Da (by rw[<-a.1];omega));have H:=Bd (Aw.mp n).1 t.2.1;have D:=j.pl;have G:=(t.2.2 b (A0 n)).1.2.2.1;refine WD (HQ ⋯) (HQ ⋯) (.tuple (by rw[Ad];have:=j.ln;omega) λd f=>?_) ∎;obtain⟨p,m,rfl⟩:=A6.mp f;exact vk (.str p.1 (by have:=(j.ok p m).1.1;omega) (j.ok p m).1.2.1) (nI (j.ok p m).2) ∎
 ·obtain⟨q,w,rfl⟩:=A6.mp f;obtain⟨r,x⟩:=l.2.2.2 q w;refine vk ((Th.tuple (k:=0) (by have:=r.1.1;omega) λd f=>nI (r.2 d f)).mono (Bh _) ∎) ?_ ∎;rcases x with e|⟨i,e,E,C⟩
  ·rw[e];exact .non
  ·rw[e];exact .int i (by unfold mw;omega) (by unfold mw;omega)
theorem rP(hw:∀Q:DQ,Q (.d (.list ds)) n->w δ n Q)(k:c6 g c e Q ds [] (i9 fr δ) n):bG fr (eu w) g c e δ n Q:=hw _ k
theorem Kx:bK rq N2 ["programs","thing"]:=λws n Q h=>by
 obtain⟨k,d,rfl,e,l,q⟩:=h;cases d with
 |list i=>
  refine aW (dz (λQ q=>q) (λ_ Q q=>jL id _ i (rest:=[ae _]) (λQ q=>rP (λQ q=>au rfl q) (by rw[Dw]at q;exact q)) (λd m n o q=>?_) q) q);have f:=by cases l with|list p j=>exact j d m
  refine aq (bw (au rfl (au rfl ⟨k,d,rfl,Ow e,⟨90,11,f,by simp⟩,λr g=>aA ?_⟩)));rw[<-PR g]at q;exact q
 |_=>exact aW (dz (a:=ai) (b:=ai) (λQ q=>q) (λz=>nomatch z) q)
abbrev gw(ks:List TK):List (TK×Ab):=ks.map λk=>(k,.bool ah)
theorem yA(ks):(gw ks).map (·.1)=ks:=by rw[B7];exact List.map_id' ks
theorem QC(m:List (TK×Ab))(k b)(d):b∈(de m k d).map (·.1)↔b=k\/b∈m.map (·.1):=by
 unfold de;by_cases h:(b6 m k).isSome=ah
 ·rw[a' h];have e:(m.map λq=>if q.1=k then(q.1,d)else q).map (·.1)=m.map (·.1):=by
   rw[B7];exact Cn λq _=>by show(if q.1=k then(q.1,d)else q).1=q.1;split<;>rfl
  rw[e];exact⟨.inr,λz=>z.elim (λz=>z▸(rj _ _).mp h) id⟩
 ·rw[a_ h,Bf,A1];exact⟨λz=>z.elim .inr λz=>.inl (A4.mp z),λz=>z.elim (λz=>.inr (A4.mpr z)) .inl⟩
theorem T5(m:List (TK×Ab))(k)(d):(de m k d).length<=m.length+1:=by
 unfold de
 split
 ·rw[Ad];omega
 ·rw[An];exact Bh _
theorem zJ(ps:List (TK×Ab))(b):b∈(eU ps).map (·.1)↔b∈ps.map (·.1):=by
 have c:∀(ps i':List (TK×Ab)),b∈(ps.foldl (λi' p=>de i' p.1 p.2) i').map (·.1)↔b∈i'.map (·.1)\/b∈ps.map (·.1):=by
  intro ps
  induction ps with
  |nil=>intro i';simp
  |cons p r d=>
   intro i';rw[Fh,d,QC,Ba,Ao]
   constructor
   ·rintro((h|h)|h)
    ·exact .inr (.inl h)
    ·exact .inl h
    ·exact .inr (.inr h)
   ·rintro(h|h|h)
    ·exact .inl (.inr h)
    ·exact .inl (.inl h)
    ·exact .inr h
 have:=c ps [];exact this.trans ⟨λh=>h.elim (λz=>nomatch z) id,.inr⟩
theorem vW(ps:List (TK×Ab)):(eU ps).length<=ps.length:=by
 have b:∀(ps i':List (TK×Ab)),(ps.foldl (λi' p=>de i' p.1 p.2) i').length<=i'.length+ps.length:=by
  intro ps
  induction ps with
  |nil=>intro i';simp
  |cons p r c=>
   intro i';rw[Fh,Ax];have e:=c (de i' p.1 p.2);have d:=T5 i' p.1 p.2;omega
 have:=b ps [];rw[List.length_nil,Nat.zero_add]at this;exact this
theorem rz{ks:List TK}(h:∀b,b∈kvs.map (·.1)↔b∈ks)(b):(b6 kvs b).isSome=decide (b∈ks):=by
 by_cases z:b∈ks
 ·rw[b_ z,(rj _ _).mpr ((h b).mpr z)]
 ·rw[c_ z];cases e:(b6 kvs b).isSome with
  |false=>rfl
  |true=>exact f_ ((h b).mp ((rj _ _).mp e)) z
def aD(ps:Pg)(k:TK)(i:Nat):Ab:=match bF ps k i with|some b=>b.1|none=>.none
theorem FE(g:Gk ps c k)(h:bF ps k i=ae b):∃ds,b.1=.tuple ds:=by
 obtain⟨l,f,e,j,d,_⟩:=m9 g;obtain⟨r,_,a,_⟩:=vY e d h;exact⟨_,a⟩
theorem Ru:bK vC Nh ["programs","stand","stands","led_to"]:=λws n Q h=>by
 obtain⟨f,k,x,c,rfl,r,g,q⟩:=h;refine ax (bH (x:=.list ((Bc (f.length+1)).map (aD f k))) (λQ q=>?_) ?_)
 ·refine aY (aq (eF rfl (aA (dy ?_))));rw[Ad];refine Al ⟨by omega,by have:=g.choose_spec.choose_spec.2.1.1.1;omega⟩ (je _ _ _ [] af n (λi o n p q=>?_) (q));refine bC (au rfl (au rfl (au rfl ?_)));rw[Int.zero_add];exact Wm g (Nat.le_of_lt_succ (B9.mp o)) q
 dsimp only[Ay];refine aW (jL _ _ _ (rest:=[ae _]) (λQ q=>rP (λQ q=>au rfl q) q) (λi _ n p q=>?_) q);unfold aD;cases e:bF f k i with
 |none=>
  rw[e]at q;exact kD (a:=ah) (b:=ah) (λQ q=>aq (au rfl (aA q))) (λz=>nomatch z) q
 |some b=>
  rw[e]at q;obtain⟨l,j⟩:=FE g e;refine kD (a:=ai) (b:=decide _) (λQ q=>aq (au rfl (aA ?_))) (λ_ Q q=>?_) q
  ·show Q (.d (.bool (fU b.1))) n;rw[j];exact q
  ·rw[<-rz (λb=>Iff.rfl) b]at q;rcases r with rfl|rfl
   ·exact aq (au rfl ⟨c,b.1,b,.inl rfl,rfl,⟨rfl,l,j⟩,q⟩)
   ·exact aq (au rfl ⟨c,b.1,b,.inr rfl,rfl,⟨rfl,l,j⟩,q⟩)
theorem Pn(ps)(h:∀b,b∈ks↔b∈ks')(k):c9 ps ks k=c9 ps ks' k:=by
 refine congrArg _ (funext λm=>?_);cases bF ps k m with
 |none=>rfl
 |some b=>exact decide_eq_decide.mpr (h b)
theorem ES{α:Type}{p:α->Bool}{xs ys:List α}(h:∀a,a∈xs↔a∈ys):xs.all p=ys.all p:=by
 rw[En,Bu];simp_all
theorem uk(j':bT ps)(hL:L<=99):∀{ds:List Ab},ds.all (gu ps)=ah->(∀d∈ds,Th L k d)->∃ks:List TK,ds=ks.map (·.1)/\ds.filterMap l3=ks/\∀s∈ks,Gk ps 0 s
 |[],_,_=>⟨[],rfl,rfl,λ_ h=>nomatch h⟩
 |d::r,h,a=>by
  rw[Cr,Av]at h;obtain⟨s,e,l,g⟩:=Sv j' h.1 (a d Am) hL;obtain⟨ks,f,c,b⟩:=uk j' hL h.2 λx i=>a x (Ak _ i);refine⟨_,by rw[Ba,<-e,<-f],?_,λt j=>(Ao.mp j).elim (λz=>z▸g) (b t)⟩;rw[List.filterMap_cons_some l,c]
theorem CU(h:Th L k (.list ds)):ds.length<=L/\∀d∈ds,Th L (k-1) d:=by
 cases h with
 |list a b=>exact⟨a,b⟩
theorem nq(e:δ[i]?=ae (ae (.odx m)))(k:W (δ.set i (ae (.w (.ob (.y m))))) n K):gD i W δ n K:=by
 unfold gD;simp_all
theorem L6:bK p6 zo ["programs","stand","thing","stands"]:=λws n Q h=>by
 obtain⟨f,s,d,rfl,l,g,A,q⟩:=h;show zo [ae _,ae _,ae _,af] n _;have t:∀Q:Bool->Int->Prop,Q _ n->aM (cT (aB rq (ao ↥0 (ao ↥2 ak)))) [ae _,↑s.1,ae _,af] n Q:=λQ q=>cY (λQ q=>ay (λQ q=>bw (au rfl (au rfl ⟨f,d,rfl,l,A,q⟩))) q) q;cases c:n9 f d with
 |false=>
  rw[c]at t;refine ax (aQ t (aW (aA ?_)));have:uO f s d=ai:=by
   cases d with
   |list m=>
    have c:m.all _=ai:=c;show(m.all _&&js f s _)=ai;rw[c];rfl
   |_=>rfl
  rw[this]at q;exact q
 |true=>
  rw[c]at t;refine ax (aU t ?_);dsimp only[aF];cases d with
  |list m=>
   have c:m.all _=ah:=c;obtain⟨D,C⟩:=CU A;obtain⟨i,I,H,B⟩:=uk l ∎ c C;have y:Q (.d (.bool (m.all _&&js f s _))) n:=q;rw[c,H,Gc]at y;subst I;rw[Ad]at D;refine ax (?_);refine aY (rP (λQ q=>au rfl q) (je _ _ i [] af n (λk _ n F q=>Al (show 2<=1000 by decide) q) ?_));refine⟨gw i,by rw[B7];rfl,λp v=>?_,by rw[Ad];omega,?_⟩
   ·obtain⟨k,E,rfl⟩:=A6.mp v;exact ph (B k E)
   dsimp only[Ay];have u:∀b,b∈(eU _).map _↔b∈i:=λb=>by rw[zJ,yA]
   have x:=vW (gw i);rw[Ad]at x;refine nq rfl (aW (dz (λQ q=>?_) (λ_ Q q=>?_) y))
   ·rw[<-rz u s]at q;exact aq (au rfl ⟨_,s.1,s,.inr rfl,rfl,⟨rfl,ph g⟩,q⟩)
   ·refine jL _ (λp=>c9 f ((eU (gw i)).map (·.1)) p.1) _ (rest:=[ae _,ae _]) (λQ q=>⟨_,rfl,by omega,q⟩) (λp v n F q=>?_) ?_
    ·exact bC (au rfl (au rfl ⟨f,p.1,_,_,rfl,.inr rfl,B _ ((u p.1).mp (Cz v)),q⟩))
    ·have e:(eU (gw i)).all (λp=>c9 f ((eU (gw i)).map (·.1)) p.1)=i.all (c9 f i):=by
      rw[<-ES u,Dt];refine congrArg _ (funext λp=>Pn f u p.1)
     simp_all
  |_=>cases c
section
variable{δ:Sl}{n:Int}{Q:DQ}{i:Nat}
theorem KR(e:δ[i]?=ae (↑(.str x)))(k:Q (.d (.int x.length)) n):wB aI (ao (aj i) ak) δ n Q:=aT (au e k)
end
theorem WN(h)(a):Bz a (.str h)=c4 h a:=by
 cases a with
 |str s=>
  show(s==h)=decide _;by_cases e:s=h
  ·rw[e];simp
  ·rw[c_ e];exact beq_eq_false_iff_ne.mpr e
 |_=>simp[Bz,c4]
theorem JL:bK sM V2 ["_law_thing_here","_law_most","_law_letters"]:=λws n Q h=>by
 obtain⟨d,k,rfl,q⟩:=h;refine ax (bH (λQ q=>aA q) ?_);dsimp only[Ay];refine aW ?_;cases d with
 |str x=>
  refine dz (λQ q=>fY (d:=.str x) (λQ q=>au rfl q) Q q) (λ_ Q q=>?_) q;rw[<-Bool.and_assoc]at q;refine dz (λQ q=>qp (λQ q=>aA q) (λQ q=>KR rfl q) (λQ q=>au rfl q) q) (λ_ Q q=>aT (aY ?_)) q;unfold bG qO;refine au rfl ?_;show c6 _ _ _ _ _ [] [af,ae _] n;refine je _ (λc=>.bool (kc c)) x.cps.toList [] af n (λc _ n f q=>aq (au rfl (au rfl ?_))) ?_
  ·show f _ n;rw[IQ];exact q
  ·rw[Fg];show(match e9 (x.cps.toList.map λc=>.bool _)with|some g=>Q _ n|none=>False);rw[rS];show Q _ n;rw[Dt];exact q
 |_=>exact dz (a:=ai) (b:=ai) (λQ q=>q) (λz=>nomatch z) q
theorem WG:bK jE S7 ["_law_thing_here","_law_least","_law_most"]:=λws n Q h=>by
 obtain⟨d,g,k,rfl,q⟩:=h;refine aW ?_;have i:∀d b,bV "bool" d=b->∀Q:DQ,Q _ n->ij (aO "bool" ↥0) [↑d,↑(.int g),↑(.int k)] n Q:=λd b e Q q=>by
  subst e;exact q
 cases d with
 |int j=>
  refine dz (λQ q=>fY (d:=.int j) (λQ q=>au rfl q) Q q) (λ_ Q q=>dz (λQ q=>i _ ai rfl Q q) (λ_ Q q=>?_) q) q;exact qp (λQ q=>au rfl q) (λQ q=>au rfl q) (λQ q=>au rfl q) q
 |bool j=>
  refine dz (λQ q=>fY (d:=.bool j) (λQ q=>au rfl q) Q q) (λ_ Q q=>?_) q;assumption
 |_=>exact dz (a:=ai) (b:=ai) (λQ q=>q) (λz=>nomatch z) q
theorem L0:∀ws n Q,jx ws n Q->ws.length=1:=λ_ _ _ h=>gM h
theorem S1:bK jx VH ["_law_thing_here"]:=λws n Q h=>by
 unfold jx bx at h
 split at h
 ·rename_i d;cases d with
  |tuple c=>
   have q:Q (.d (.bool (decide _&&(decide _&&c.all c7)))) n:=h;rw[<-Bool.and_assoc]at q;have e:∀Q:Bool->Int->Prop,Q _ n->cC (aM (cT (aO "tuple" ↥0))) (aM (cT (fi dH dH ⇑1 (wB aI (ao ↥0 ak)) ⇑4))) [↑(.tuple c)] n Q:=λQ q=>bo (dU rfl) (λ_ Q q=>cY (λQ q=>ay (λQ q=>qp (λQ q=>aA q) (λQ q=>eF rfl q) (λQ q=>aA q) q) q) q) (q);cases g:(decide ((1:Int)<=(c.length:Int))&&decide ((c.length:Int)<=4))with
   |false=>
    rw[g]at e q;exact ax (aQ e (aW (aA q)))
   |true=>
    rw[g]at e q;refine ax (aU e ?_);dsimp only[aF];refine aW (jL id c7 c (rest:=[]) (λQ q=>fN (λQ q=>au rfl q) (by rw[Dw]at q;exact q)) (λb _ n i q=>?_) q);exact kD (λQ q=>bw (au rfl (aA ⟨b,8,rfl,q⟩))) (λ_ Q q=>bC (au rfl (aA (aA ⟨b,0,99,rfl,q⟩)))) q
  |_=>exact ax (aQ (λQ q=>bo (b:=ah) (λQ q=>cY (λQ q=>ay (k:=ai) (λQ q=>q) q) q) (λz=>nomatch z) q) (aW (aA h)))
 ·exact h.elim
def iE:Ab->Bool
 |.tuple [_,v]=>c7 v
 |_=>ai
theorem UQ(h:iE d=ah):∃q:Ab×Ab,d=.tuple [q.1,q.2]/\c7 q.2=ah:=by
 unfold iE at h
 split at h
 ·rename_i x v;exact⟨(x,v),rfl,h⟩
 ·cases h
theorem Kr(h:dC ys ds=ah):ds.all iE=ah:=by
 obtain⟨L,rfl,_,b⟩:=qx h;rw[Dt];exact Bu.mpr λq a=>b q a
theorem BQ:∀(L:List (Ab×Ab))(ys:List Str),(∀q∈L,c7 q.2=ah)->dC ys (L.map λq=>.tuple [q.1,q.2])=D8 (L.map (·.1)) (ys.map .str)
 |[],[],_=>by rfl
 |[],y::ys,_=>by rfl
 |q::L,[],_=>by rfl
 | (x,v)::L,y::ys,h=>by
  have c:=BQ L ys λq a=>h q (Ak _ a);have b:c7 v=ah:=h _ Am;cases x with
  |str s=>
   show(decide _&&(c7 v&&dC ys _))=(decide _&&_);simp_all
  |_=>rfl
theorem uI{ds:List Ab}(h:ds.length=3):∃a b c,ds=[a,b,c]:=by
 match ds,h with
 |[a,b,c],_=>exact⟨a,b,c,rfl⟩
theorem Pu(h:ds.length≠3):gc P (.tuple ds)=ai:=by
 unfold gc
 split
 ·rename_i a b c e;cases e;exact f_ rfl h
 ·rfl
theorem LZ:bK wO Hu ["_law_program_here","_law_thing_here"]:=λws n Q h=>by
 obtain⟨P,d,rfl,j',ok,q⟩:=h;show Hu [↑(.tuple (P.map dI)),↑d] n _;have H:(bV "tuple" d=ai/\gc P d=ai)\/∃ds,d=.tuple ds:=by
  cases d with
  |tuple ds=>exact .inr ⟨ds,rfl⟩
  |_=>exact .inl ⟨rfl,rfl⟩
 rcases H with⟨e1,V⟩|⟨ds,rfl⟩
 ·rw[V]at q;exact ax (aQ (λQ q=>bo (b:=ah) (λQ q=>cY (λQ q=>ay (k:=ai) (λQ q=>fY (λQ q=>au rfl q) Q (by simp_all)) q) q) (λz=>nomatch z) q) (aW (aA q)))
 by_cases hl:ds.length≠3
 ·rw[Pu hl]at q;exact ax (aQ (λQ q=>bo (dU rfl) (λ_ Q q=>bo (b:=ah) (λQ q=>ay (k:=ah) (λQ q=>aq (eF rfl (aA (show Q (.d (.bool (!decide ((ds.length:Int)=3)))) n by rw[c_ (show ¬(ds.length:Int)=3 by omega)];exact q)))) q) (λz=>nomatch z) q) q) (aW (aA q)))
 obtain⟨a,b,c,rfl⟩:=uI (Decidable.not_not.mp hl);have W:∀Q:Bool->Int->Prop,Q (!fh 0 ((P.length:Int)-1) a) n->cC (aM (cT (aO "tuple" ↥1))) (cC (cT (w2 (wB aI (ao ↥1 ak)) ⇑3 di)) (aM (cT (aB jE (ao (w2 ↥1 ⇑0 aw) (ao ⇑0 (ao (w2 (wB aI (ao ↥0 ak)) ⇑1 (bN λi j=>.int (i-j))) ak))))))) [↑(.tuple (P.map dI)),↑(.tuple [a,b,c])] n Q:=λQ q=>
  bo (dU rfl) (λ_ Q q=>bo (λQ q=>ay (λQ q=>aq (eF rfl (aA q))) q) (λ_ Q q=>cY (λQ q=>ay (λQ q=>bC (cD rfl (aA (aq (eF rfl (aA (iJ ⟨a,0,_,rfl,by rw[Ad];exact q⟩))))))) q) q) q) q
 cases J:fh 0 ((P.length:Int)-1) a with
 |false=>
  rw[J]at W;have:gc P (.tuple [a,b,c])=ai:=by
   show(fg P a b&&gG P (a,b,c))=ai;unfold fg;rw[J];rfl
  rw[this]at q;exact ax (aQ W (aW (aA q)))
 |true=>
 rw[J]at W;refine ax (aU W ?_);dsimp only[aF];cases a with
 |int i=>
  have hi:(decide ((0:Int)<=i)&&decide (i<=(P.length:Int)-1))=ah:=J;rw[Av]at hi;have i0:=d_ hi.1;have i1:=d_ hi.2;obtain⟨m,rfl⟩:=Ca i0;have hm:m < P.length:=by omega
  obtain⟨bl,Z⟩:∃bl,P[m]?=ae bl:=⟨_,Ai hm⟩;have hP:(P.map dI)[m]?=ae (dI bl):=by rw[Ap,Z];rfl
  have ob:=(j'.2.2 bl (A0 Z)).1;have eh:gc P (.tuple [.int m,b,c])=(fh 0 (bl.2.length:Nat) b&&gG P (.int m,b,c)):=by
   show(fg P (.int m) b&&gG P (.int m,b,c))=_;unfold fg;rw[J,Gc];show(fh 0 (((P[m]?).map λbl=>bl.2.length).getD 0:Nat) b&&_)=_;simp_all
  have R:∀Q:Bool->Int->Prop,Q (!fh 0 (bl.2.length:Nat) b) n->aM (cT (aB jE (ao (w2 ↥1 ⇑1 aw) (ao ⇑0 (ao (wB aI (ao (w2 (w2 ↥0 (w2 ↥1 ⇑0 aw) aw) ⇑1 aw) ak)) ak))))) [↑(.tuple (P.map dI)),↑(.tuple [.int m,b,c])] n Q:=λQ q=>cY (λQ q=>ay (λQ q=>bC (cq rfl (aA (aT (aq (aq (au rfl (cD rfl (bB hP (aA (d9 (CJ ⟨b,0,_,rfl,by rw[Ad];exact q⟩)))))))))))) q) q;have ht:∀(b':Bool),bV "tuple" c=b'->∀Q:Bool->Int->Prop,Q (!b') n->aM (cT (aO "tuple" (w2 ↥1 ⇑2 aw))) [↑(.tuple (P.map dI)),↑(.tuple [.int m,b,c])] n Q:=λb' e Q q=>cY (λQ q=>ay (λQ q=>fY (λQ q=>aq (au rfl (aA (dP q)))) Q (by simp_all)) q) q;cases M:fh 0 (bl.2.length:Nat) b with
  |false=>
   rw[M]at R;rw[eh,M]at q;exact ax (aQ (λQ q=>bo (a:=ah) (b:=ah) R (λz=>nomatch z) q) (aW (aA q)))
  |true=>
  rw[M]at R;rw[eh,M,Gc]at q;cases b with
  |int p=>
   have hj:(decide ((0:Int)<=p)&&decide (p<=(bl.2.length:Int)))=ah:=M;rw[Av]at hj;have j0:=d_ hj.1;have j1:=d_ hj.2;obtain⟨p,rfl⟩:=Ca j0;have ek:gG P (.int m,.int p,c)=i4 (kS (kn bl.1 bl.2 p)) c:=by
    show(match P[m]? with|some b=>i4 (kS (kn b.1 b.2 p)) c|none=>ai)=_;rw[Z]
   rw[ek]at q;have H:(bV "tuple" c=ai/\i4 (kS (kn bl.1 bl.2 p)) c=ai)\/∃y,c=.tuple y:=by
    cases c with
    |tuple ds=>exact .inr ⟨ds,rfl⟩
    |_=>exact .inl ⟨rfl,rfl⟩
   rcases H with⟨e1,V⟩|⟨y,rfl⟩
   ·rw[V]at q;exact ax (aQ (λQ q=>bo (a:=ai) (b:=ah) R (λ_=>ht ai e1) q) (aW (aA q)))
   refine ax (aU (λQ q=>bo (a:=ai) (b:=ai) R (λ_=>ht ah rfl) q) ?_);dsimp only[aF];have q:Q (.d (.bool (dC (kS (kn bl.1 bl.2 p)) y))) n:=q;have O:Th 90 11 (.tuple y):=Th.mem (ds:=[.int m,.int p,.tuple y]) ok (.tuple y) (by simp);have X:∀Q:Bool->Int->Prop,Q (!y.all iE) n->aM (cT (wB bL (ao (aV (bG [af] (cn (w2 ↥1 ⇑2 aw)) (aG 0) aR (bc (aO "tuple" ↥0) (bc (w2 (wB aI (ao ↥0 ak)) ⇑2 bj) (aB jx (ao (cx ↥0 (b8 ⇑1) cb) ak)))))) ak))) [↑(.tuple (P.map dI)),↑(.tuple [.int m,.int p,.tuple y])] n Q:=λQ q=>cY (k:=y.all iE) (λQ q=>ay (k:=y.all iE) (λQ q=>jL (w:=bc (aO "tuple" ↥0) (bc (w2 (wB aI (ao ↥0 ak)) ⇑2 bj) (aB jx (ao (cx ↥0 (b8 ⇑1) cb) ak)))) id iE y (rest:=[]) (λQ q=>fN (ds:=y) (λQ q=>aq (au rfl (aA (dP q)))) (by rw[Dw]at q;exact q)) (λd _ n Q' q=>by
    cases d with
    |tuple N=>
     refine dz (a:=ah) (b:=iE (.tuple N)) (λQ q=>q) (λ_ Q q=>?_) q;by_cases e:N.length=2
     ·match N,e with
      |[x,v],_=>
       refine dz (a:=ah) (b:=c7 v) (λQ q=>aq (eF rfl (aA q))) (λ_ Q q=>cI ?_) q;show Q (.d (.bool (dw (.tuple [v])))) n;have:dw (.tuple [v])=c7 v:=by
        show(c7 v&&ah)=c7 v;simp
       simp_all
     ·have e3:iE (.tuple N)=ai:=by
       unfold iE
       split
       ·rename_i a b V;simp_all
       ·rfl
      rw[e3]at q;exact dz (a:=ai) (b:=ai) (λQ q=>aq (eF rfl (aA (show Q (.d (.bool (decide ((N.length:Int)=2)))) n by rw[c_ (show ¬(N.length:Int)=2 by omega)];exact q)))) (λz=>nomatch z) q
    |_=>exact dz (a:=ai) (b:=ai) (λQ q=>q) (λz=>nomatch z) q) q) q) q
   cases U:y.all iE with
   |false=>
    rw[U]at X;have:dC (kS (kn bl.1 bl.2 p)) y=ai:=by
     cases e:dC (kS (kn bl.1 bl.2 p)) y with
     |false=>rfl
     |true=>rw[Kr e]at U;omega
    rw[this]at q;exact ax (aQ X (aW (aA q)))
   |true=>
    rw[U]at X;refine ax (aU X ?_);dsimp only[aF];obtain⟨L,rfl,hL⟩:=mQ (f:=λq:Ab×Ab=>Dn [q.1,q.2]) (P:=λq=>c7 q.2=ah) (ds:=y) λx hx=>by
     obtain⟨r,e,o⟩:=UQ (Bu.mp U x hx);exact⟨r,o,e⟩
    rw[BQ L _ hL]at q;refine aW (aq (aY (fN (ds:=L.map λq:Ab×Ab=>Dn [q.1,q.2]) (λQ q=>aq (au rfl (aA (dP q)))) ?_)));show c6 _ _ _ _ _ _ [af] n;refine je (λq:Ab×Ab=>Dn [q.1,q.2]) (λq=>q.1) L [] af n (λq _ n Q' k=>cD rfl k) ?_;rw[Fg];refine bC (au rfl (cD rfl (cq rfl ⟨P,m,p,bl,rfl,Z,ob,by omega,λys y1 y2 y3 y4=>?_⟩)));have ey:kS (kn bl.1 bl.2 p)=ys:=rA ⟨y1,y3,y4⟩;rw[ey]at q;have l1:Th 90 11 (.list (L.map (·.1))):=.list (by have:=O.len;rw[Ad]at this ⊢;omega) λd hd=>by
     obtain⟨r,hr,rfl⟩:=A6.mp hd;have t1:=O.mem (.tuple [r.1,r.2]) (Cz (f:=λq:Ab×Ab=>Dn [q.1,q.2]) hr);exact(Th.mem t1 r.1 (by simp)).mono (Bh _) ∎
    have l2:Th 90 11 (.list (ys.map .str)):=.list (by
     have U:=ma y1 λz hz=>(y4 z).mp hz;have h4:=r8 ob p;rw[Ad];omega) λd hd=>by
     obtain⟨k,hk,rfl⟩:=A6.mp hd;exact .str k (by have:=(y2 k hk).1;omega) (y2 k hk).2.1
    refine⟨l1.lay.1,l2.lay.1,A5 l1.lay.2 ∎,A5 l2.lay.2 ∎,_,rfl,?_⟩;show Q (.d (.bool (Bz (.list (L.map (·.1))) (.list (ys.map .str))))) n;assumption
  |_=>cases M
 |_=>cases J
abbrev Zg:List Str:=["_law_programs","_law_thing_here"]
theorem Wb:bK rf M8 Zg:=λws n Q h=>by
 obtain⟨c,d,rfl,i,t,q⟩:=h;have o:(bV "tuple" d=ai/\gL c d=ai)\/∃l,d=.tuple l:=by
  cases d with
  |tuple l=>exact .inr ⟨l,rfl⟩
  |_=>exact .inl ⟨rfl,rfl⟩
 rcases o with⟨w,u⟩|⟨e,rfl⟩
 ·rw[u]at q;exact ax (aQ (λQ q=>bo (b:=ah) (λQ q=>cY (λQ q=>ay (k:=ai) (λQ q=>fY (λQ q=>au rfl q) Q (by simp_all)) q) q) (λz=>nomatch z) q) (aW (aA q)))
 have g:∀Q:Bool->Int->Prop,Q _ n->cC (aM (cT (aO "tuple" ↥1))) (cT (w2 (wB aI (ao ↥1 ak)) (wB aI (ao ↥0 ak)) di)) [ae _,ae _] n Q:=λQ q=>bo (dU rfl) (λ_ Q q=>ay (λQ q=>aq (eF rfl (eF rfl (show Q (.d (.bool (!decide ((e.length:Int)=((c.map eD).length:Int))))) n by rw[Ad,show decide _=decide (e.length=c.length)from decide_eq_decide.mpr ⋯];exact q)))) q) q;have q:Q (.d (.bool (decide _&&(c.zip e).all λq=>gc q.1 q.2))) n:=q;by_cases j:e.length=c.length
 ·rw[b_ j]at g q;refine ax (aU g ?_);dsimp only[aF];refine aW (xu eD id _ c e j.symm rfl (by rw[Dw];rfl) (λr p n v q=>bw (au rfl (au rfl ⟨r.1,r.2,rfl,i.2 r.1 (qh p).1,(t.mem r.2 (qh p).2).mono (Bh _) ∎,q⟩))) q)
 ·rw[c_ j]at g q;exact ax (aQ g (aW (aA q)))
theorem Jy(hw:∀Q:DQ,Q (.d (.tuple ds)) n->w δ n Q)(k:ec g W K ds δ n):aZ (cn w) g W δ n K:=hw _ k
theorem BD(hw:∀Q:DQ,Q (.d (.list ds)) n->w δ n Q)(k:ec g W K ds δ n):aZ (eu w) g W δ n K:=hw _ k
theorem UH(h:ds.length≠2):gu ps (.tuple ds)=ai:=by
 unfold gu
 split
 ·rename_i a b e;cases e;exact f_ rfl h
 ·rfl
theorem Lx(h:ds.length≠2):fe (.tuple ds)=ai:=by
 unfold fe
 split
 ·rename_i a b e;cases e;exact f_ rfl h
 ·rfl
theorem Ip:bK pW TC ["_law_programs","_law_thing_here","_law_note"]:=λws n Q h=>by
 obtain⟨v,d,rfl,R,Z,q⟩:=h;have s:(bV "tuple" d=ai/\gu v d=ai)\/∃ds,d=.tuple ds:=by
  cases d with
  |tuple ds=>exact .inr ⟨ds,rfl⟩
  |_=>exact .inl ⟨rfl,rfl⟩
 rcases s with⟨O,D⟩|⟨ds,rfl⟩
 ·rw[D]at q;exact ax (aQ (λQ q=>bo (b:=ah) (λQ q=>cY (λQ q=>ay (k:=ai) (λQ q=>fY (λQ q=>au rfl q) Q (by simp_all)) q) q) (λz=>nomatch z) q) (aW (aA q)))
 by_cases G:ds.length≠2
 ·rw[UH G]at q;exact ax (aQ (λQ q=>bo (dU rfl) (λ_ Q q=>bo (b:=ah) (λQ q=>ay (k:=ah) (λQ q=>aq (eF rfl (aA (show Q _ n by rw[c_ ⋯];exact q)))) q) (λz=>nomatch z) q) q) (aW (aA q)))
 obtain⟨a,b,rfl⟩:=gC (Decidable.not_not.mp G);have q:Q (.d (.bool (gL v a&&lS b))) n:=q;have ta:lu a:=(Th.mem Z a (by simp)).mono (Bh _) ∎;have K:∀Q:Bool->Int->Prop,Q (!gL v a) n->cC (aM (cT (aO "tuple" ↥1))) (cC (cT (w2 (wB aI (ao ↥1 ak)) ⇑2 di)) (aM (cT (aB rf (ao ↥0 (ao (w2 ↥1 _ aw) ak)))))) [ae _,↑(.tuple [a,b]),af] n Q:=λQ q=>
  bo (dU rfl) (λ_ Q q=>bo (λQ q=>ay (λQ q=>aq (eF rfl (aA q))) q) (λ_ Q q=>cY (λQ q=>ay (λQ q=>bw (au rfl (cD rfl ⟨v,a,rfl,R,ta,q⟩))) q) q) q) q
 cases J:gL v a with
 |false=>
  rw[J]at K q;exact ax (aQ K (aW (aA q)))
 |true=>
 rw[J]at K q;refine ax (aU K ?_);dsimp only[aF];have s:(bV "tuple" b=ai/\lS b=ai)\/∃ds,b=.tuple ds:=by
  cases b with
  |tuple ds=>exact .inr ⟨ds,rfl⟩
  |_=>exact .inl ⟨rfl,rfl⟩
 have T:∀(W:Bool),bV "tuple" b=W->∀Q:Bool->Int->Prop,Q (!W) n->aM (cT (aO "tuple" (w2 ↥1 _ aw))) [↑(cf v),↑(.tuple [a,b]),af] n Q:=λb' e Q q=>cY (λQ q=>ay (λQ q=>fY (λQ q=>cq rfl q) Q (by simp_all)) q) q;rcases s with⟨O,D⟩|⟨U,rfl⟩
 ·rw[D]at q;exact ax (aQ (T ai O) (aW (aA q)))
 refine ax (aU (T ah rfl) ?_);dsimp only[aF];refine ax (Jy (λQ q=>cq rfl q) ?_);refine eC (λds δ m=>m=n/\(∃S:Option SV,δ=[ae _,ae _,S])/\Q (.d (.bool (ds.all fe))) n) (λδ m I=>?_) (λd r δ m F I kN=>?_) _ _ _ ⟨rfl,⟨af,rfl⟩,q⟩
 ·obtain⟨rfl,⟨S,rfl⟩,q⟩:=I;exact q
 ·obtain⟨rfl,⟨S,rfl⟩,q⟩:=I;rw[Cr]at q;refine(?_);have s:(bV "tuple" d=ai/\fe d=ai)\/∃ds,d=.tuple ds:=by
   cases d with
   |tuple ds=>exact .inr ⟨ds,rfl⟩
   |_=>exact .inl ⟨rfl,rfl⟩
  rcases s with⟨O,D⟩|⟨X,rfl⟩
  ·rw[D]at q;exact ax (aQ (λQ q=>bo (b:=ah) (λQ q=>cY (λQ q=>ay (k:=ai) (λQ q=>fY (λQ q=>au rfl q) Q (by simp_all)) q) q) (λz=>nomatch z) q) (aW (aA q)))
  by_cases G:X.length≠2
  ·rw[Lx G]at q;exact ax (aQ (λQ q=>bo (dU rfl) (λ_ Q q=>bo (b:=ah) (λQ q=>ay (k:=ah) (λQ q=>aq (eF rfl (aA (show Q (.d (.bool (!decide ((X.length:Int)=2)))) m by rw[c_ ⋯];exact q)))) q) (λz=>nomatch z) q) q) (aW (aA q)))
  obtain⟨x,y,rfl⟩:=gC (Decidable.not_not.mp G);have q:Q (.d (.bool ((dw x&&eH y)&&r.all fe))) m:=q;have L:∀Q:Bool->Int->Prop,Q (!dw x) m->cC (aM (cT (aO "tuple" ↥2))) (cC (cT (w2 (wB aI (ao ↥2 ak)) ⇑2 di)) (aM (cT (aB jx (ao (w2 ↥2 ⇑0 aw) ak))))) [↑(cf v),↑(.tuple [a,.tuple U]),↑(.tuple [x,y])] m Q:=λQ q=>
   bo (dU rfl) (λ_ Q q=>bo (λQ q=>ay (λQ q=>aq (eF rfl (aA q))) q) (λ_ Q q=>cY (λQ q=>ay (λQ q=>cI (cD rfl q)) q) q) q) q
  cases J:dw x with
  |false=>
   rw[J]at L q;exact ax (aQ L (aW (aA q)))
  |true=>
   rw[J]at L q;refine ax (aU L ?_);have M:∀Q:Bool->Int->Prop,Q (!eH y) m->bW (cT (w2 (w2 ↥2 ⇑1 aw) (wC .none) (bJ ah))) (aM (cT (aB jE (ao (w2 ↥2 ⇑1 aw) (ao ⇑1 (ao ⇑20 ak)))))) [↑(cf v),↑(.tuple [a,.tuple U]),↑(.tuple [x,y])] m Q:=λQ q=>
    iT (λQ q=>ay (λQ q=>aq (cq rfl (aA q))) q) (λ_ Q q=>cY (λQ q=>ay (λQ q=>bC (cq rfl (aA (aA ⟨y,1,20,rfl,q⟩)))) q) q) (by
     have:(!fU y&&!fh 1 20 y)=!eH y:=by unfold eH;simp
     simp_all)
   cases V:eH y with
   |false=>
    rw[V]at M q;exact aQ M (aW (aA q))
   |true=>
    rw[V]at M q;exact aU M (kN _ _ ⟨rfl,⟨_,rfl⟩,q⟩)
theorem za{α:Type}(p f):∀l:List α,(l.filter p).all f=l.all λa=>!p a || f a
 |[]=>rfl
 |a::r=>by
  rw[Fx,Cr,<-za p f r];cases p a with
  |true=>rw[a' rfl];rfl
  |false=>rfl
theorem RL(ps:Pg)(ks)(k):c9 ps ks k=(e8 (bF ps) ps.length k).all λi=>match bF ps k i with|none=>ah|some b=>decide (b∈ks):=by
 unfold c9 e8;rw[za];refine congrArg _ (funext λi=>?_);cases bF ps k i with
 |none=>rfl
 |some b=>rfl
theorem NF(dn)(k):eU (gw (dn++[k]))=de (eU (gw dn)) k (.bool ah):=by
 unfold eU gw;rw[Bf,List.foldl_append];rfl
theorem JH:∀ws n Q,qD ws n Q->ws.length=3:=λws n Q h=>by obtain⟨_,_,_,rfl,_⟩:=h;rfl
theorem Si:bK qD My ["_law_programs","_law_stand_here","_law_thing_here","_law_one","_law_known_here","_law_mover"]:=λws n Q h=>by
 obtain⟨l,s,d,rfl,N,g,ok,q⟩:=h;have l_:(bV "list" d=ai/\uO l s d=ai)\/∃ds,d=.list ds:=by
  cases d with
  |list ds=>exact .inr ⟨ds,rfl⟩
  |_=>exact .inl ⟨rfl,rfl⟩
 rcases l_ with⟨e1,Y⟩|⟨ds,rfl⟩
 ·rw[Y]at q;exact ax (aQ (λQ q=>bo (b:=ah) (λQ q=>cY (λQ q=>ay (k:=ai) (λQ q=>fY (λQ q=>au rfl q) Q (by simp_all)) q) q) (λz=>nomatch z) q) (aW (aA q)))
 obtain⟨hl,th⟩:=CU ok;have L:∀Q:Bool->Int->Prop,Q _ n->cC (aM (cT (aO "list" ↥2))) (aM (cT (wB bL (ao (aV (bG [af,ae 0] (eu ↥2) _ aR _)) ak)))) [ae (.w _),↑s.1,↑_,af,af,af] n Q:=λQ q=>
  bo (λQ q=>cY (λQ q=>ay (λQ q=>q) q) q) (λ_ Q q=>cY (λQ q=>ay (λQ q=>jL (w:=aB pW (ao ↥1 (ao ↥0 ak))) id _ ds (λQ q=>rP (λQ q=>au rfl q) (by rw[Dw]at q;exact q)) (λd hd n Q' q=>bw (au rfl (au rfl ⟨l,d,rfl,N,(th d hd).mono (Bh _) ∎,q⟩))) q) q) q) q
 have J:Q (.d (.bool (ds.all _&&js l s _))) n:=q;clear q;cases U:ds.all (gu l)with
 |false=>
  rw[U]at L J;exact ax (aQ L (aW (aA J)))
 |true=>
 rw[U]at L;obtain⟨W,e1,Y,V⟩:=uk N ∎ U th;rw[U,Y,Gc]at J;have q:Q (.d (.bool (decide _&&W.all _))) n:=J;clear J;subst e1;rw[Ad]at hl;refine ax (aU L ?_);clear L;dsimp only[aF];refine ax ?_;refine(show ar (aZ (eu ↥2) _ _) _ [ae _,ae _,↑(.list _),af,ae _,af] n _ from ?_);refine ax (BD (λQ q=>au rfl q) ?_);refine eC (λds δ m=>m=n/\∃(f u:List TK)(x:Option SV),ds=u.map _/\f++u=W/\δ=[ae _,ae _,ae _,x,ae (.odx (eU (gw f))),af]) (λδ m I=>?_) (λd r δ m F I kN=>?_) _ _ _ ⟨rfl,[],W,af,rfl,rfl,rfl⟩
 ·obtain⟨rfl,f,u,x,E,G,rfl⟩:=I;cases C0.mp E.symm;rw[Bk]at G;subst G;have T:∀b,b∈(eU _).map _↔b∈f:=λb=>by rw[zJ,yA]
  have C:=vW (gw f);rw[Ad]at C;have D:∀Q:Bool->Int->Prop,Q _ m->cT (w2 ↥1 (dB 4) (dR ah)) [↑(cf l),ae _,↑(.list (f.map (·.1))),x,ae (.odx _),af] m Q:=λQ q=>ay (λQ q=>aq (au rfl ⟨eU _,s.1,s,.inl rfl,rfl,⟨rfl,ph g⟩,by rw[rz T s];exact q⟩)) q;by_cases Z:s∈f
  ·rw[b_ Z]at D q;refine ax (aU D ?_);dsimp only[aF];refine nq rfl ?_;refine ax ?_;refine⟨eU _,rfl,by omega,?_⟩;have q2:Q (.d (.bool ((eU (gw f)).all λp=>c9 l f p.1))) m:=by
    have e:(eU (gw f)).all (λp=>c9 l f p.1)=f.all (c9 l f):=by
     rw[<-ES T,Dt];rfl
    simp_all
   refine eC (λds δ K=>K=m/\∃(u:List _)(x A:Option SV),ds=u.map _/\(∀p∈u,p.1∈f)/\Q (.d (.bool (u.all λp=>c9 l f p.1))) m/\δ=[ae _,ae _,ae _,x,ae _,A]) (λδ K I=>?_) (λd r δ K F I kN=>?_) _ _ _ ⟨rfl,eU _,x,af,rfl,λp hp=>(T p.1).mp (Cz hp),q2,rfl⟩
   ·obtain⟨rfl,u,x,A,E,_,q,rfl⟩:=I;cases C0.mp E.symm;exact q
   ·obtain⟨rfl,u,x,A,E,R,q,rfl⟩:=I;obtain⟨p,o,rfl,rfl,rfl⟩:=Cf.mp E.symm;have S:=R p Am;rw[Cr,RL]at q;refine(?_);refine BD (λQ q=>bw (au rfl (au rfl (n7 (V _ S) q)))) ?_;refine eC (λds δ H=>H=K/\∃(P:List Nat)(A:Option SV),ds=P.map _/\(∀i∈P,i∈e8 _ l.length p.1)/\Q (.d (.bool ((P.all λi=>match bF l p.1 i with|none=>ah|some b=>decide (b∈f))&&o.all λp=>c9 l f p.1))) K/\δ=[ae _,ae _,ae _,ae _,ae _,A]) (λδ H I=>?_) (λd r δ H F2 I kN2=>?_) _ _ _ ⟨rfl,e8 _ l.length p.1,A,rfl,λ_ h=>h,q,rfl⟩
    ·obtain⟨rfl,P,A,ei,_,q,rfl⟩:=I;cases C0.mp ei.symm;exact kN _ _ ⟨rfl,o,_,A,rfl,λj hj=>R j (Ak _ hj),q,rfl⟩
    ·obtain⟨rfl,P,A,ei,D,q,rfl⟩:=I;obtain⟨i,M,rfl,rfl,rfl⟩:=Cf.mp ei.symm;obtain⟨Z,h2⟩:=D4.mp (D i Am);obtain⟨b,eb⟩:=C2.mp h2;rw[Cr,eb]at q;have q:Q (.d (.bool ((decide _&&M.all λi=>match bF l p.1 i with|none=>ah|some b=>decide _)&&o.all λp=>c9 l f p.1))) H:=q;refine(?_);have X:∀Q:Bool->Int->Prop,Q _ H->cT (w2 (aB gR (ao ↥0 (ao ↥3 (ao ↥5 ak)))) (dB 4) (dR ah)) [ae _,↑s.1,↑(.list (f.map (·.1))),ae _,ae (.w (.ob (.y _))),ae _] H Q:=λQ q=>ay (λQ q=>aq (bC (au rfl (au rfl (au rfl (oD (V _ S) eb ⟨eU _,b.1,b,.inr rfl,rfl,⟨rfl,FE (V _ S) eb⟩,by rw[rz T b];exact q⟩)))))) q;by_cases O:b∈f
     ·rw[b_ O]at X q;exact aU X (kN2 _ _ ⟨rfl,M,_,rfl,λj hj=>D j (Ak _ hj),q,rfl⟩)
     ·rw[c_ O]at X q;exact aQ X (aW (aA q))
  ·rw[c_ Z]at D q;exact ax (aQ D (aW (aA q)))
 ·obtain⟨rfl,f,u,x,E,G,rfl⟩:=I;obtain⟨k,o,rfl,rfl,rfl⟩:=Cf.mp E.symm;have S:k∈W:=by rw[<-G];exact Bw _ Am
  have C:=vW (gw f);rw[Ad]at C;refine⟨eU _,rfl,k,.bool ah,k.1,rfl,rfl,⟨rfl,ph (V k S)⟩,?_,?_⟩
  ·have:=congrArg Fu G;rw[An]at this;omega
  ·rw[<-NF];exact kN _ _ ⟨rfl,f++[k],o,_,rfl,by rw[Bp];exact G,rfl⟩
theorem U1:bK lr Tt ["_law_tape_here","_law_some"]:=λws n Q h=>by
 obtain⟨rfl,t,k⟩:=h;have e:jZ 9 2 [.none,.bool ah,.bool ai,.int (-1),.int 0,.int 1,.int 2,.int 9,.int 10,.int 20,.int 21,.int 99,.int 100,.int (10 ^ 20),.str "",.str "a",.str "abcde",.str "abcdefghi",.str "A",.str "a1"]=ah:=by decide +kernel
 have f:jZ 9 2 [.str "all",.str "as",.str "bind",.str "any",.tuple [],.list [],.tuple [.int 1],.tuple [.str "any"],.tuple [.str "a"],.tuple [.tuple [.str "a"],.none]]=ah:=by decide +kernel
 refine ax (bH (x:=.list [.none,.bool ah,.bool ai,.int (-1),.int 0,.int 1,.int 2,.int 9,.int 10,.int 20,.int 21,.int 99,.int 100,.int (10 ^ 20),.str "",.str "a",.str "abcde",.str "abcdefghi",.str "A",.str "a1"]) (λQ q=>aY ?_) ?_)
 ·exact Al ⟨by decide,by simp⟩ (Al ∎ q)
 dsimp only[Ay];generalize g:([.none,.bool ah,.bool ai,.int _,.int 0,.int 1,.int 2,.int 9,.int 10,.int 20,.int 21,.int 99,.int 100,.int _,.str "",.str "a",.str "abcde",.str "abcdefghi",.str "A",.str "a1"]:List Ab)=A at e;have l:A.length=20:=by rw[<-g];rfl
 refine ax (bH (x:=.list (A++[.str "all",.str "as",.str "bind",.str "any",.tuple [],.list [],.tuple [.int 1],.tuple [.str "any"],.tuple [.str "a"],.tuple [.tuple [.str "a"],.none]])) (λQ q=>aq (au rfl (aY ?_))) ?_)
 ·exact Al ∎ (Al ∎ (Al ∎ (Al ∎ (Al ∎ (Al ∎ (Al ∎ (Al ∎ (Al (mL ⋯ ∎) q))))))))
 dsimp only[Ay];generalize s:([.str "all",.str "as",.str "bind",.str "any",.tuple [],.list [],.tuple [.int 1],.tuple [.str "any"],.tuple [.str "a"],.tuple [.tuple [.str "a"],.none]]:List Ab)=B at f;have p:B.length=10:=by rw[<-s];rfl
 have o:(A++B).length=30:=by rw[An,l,p]
 exact aW (aq (au rfl (gQ rfl (λQ q=>aT (au rfl q)) ⋯ ⋯ ⋯ λr i j=>jy i j λd m=>k d ((A1.mp m).elim (zb e d) (zb f d)))))
theorem rp(k:Q (.d (.bool (decide (b < a)))) n):hX (.d (.int a)) (.d (.int b)) n Q:=k
theorem Th.pos(h:Th L k (.tuple ds)):1<=k:=by cases h;omega
theorem BL(ds:List Ab)(a b):(bz ds a b).length<=ds.length:=by
 unfold bz;rw[C9,Ct];omega
theorem VW(ds):(bz ds (ae (-1)) af).length<=1:=by
 unfold bz;rw[C9,Ct];show min (ds.length-(if (-1:Int) < 0 then((-1:Int)+(ds.length:Int)).toNat else min (-1:Int).toNat ds.length)) (ds.length-(if (-1:Int) < 0 then((-1:Int)+(ds.length:Int)).toNat else min (-1:Int).toNat ds.length))<=1;rw[a' ∎];omega
section
variable{δ:Sl}{n:Int}{Q:DQ}{ds:List Ab}
theorem yw(k:Q (.d (.int (-1))) n):dJ (wC (.int 1)) δ n Q:=k
theorem Qh(e1:δ[1]?=ae (↑(.tuple ds)))(k:Q (.d (.tuple (bz ds af (ae (-1))))) n):cx ↥1 cb (b8 (dJ ⇑1)) δ n Q:=by
 unfold cx cb b8;exact au e1 (yw k)
theorem VX(e1:δ[1]?=ae (↑(.tuple ds)))(k:Q (.d (.tuple (bz ds (ae (-1)) af))) n):cx ↥1 (b8 (dJ ⇑1)) cb δ n Q:=au e1 (yw k)
theorem CD{Q:List Ab->Int->Prop}(k:a δ n λx n1=>b δ n1 λy n2=>c δ n2 λz n3=>d δ n3 λu n4=>e δ n4 λv n5=>match gy [x,y,z,u,v]with
  |some ds=>ds.length<=1000/\Q ds n5
  |none=>False):aN (ao a (ao b (ao c (ao d (ao e ak))))) δ n Q:=k
theorem VM{Q:List Ab->Int->Prop}(k:a δ n λx n1=>b δ n1 λy n2=>c δ n2 λz n3=>match gy [x,y,z]with
  |some ds=>ds.length<=1000/\Q ds n3
  |none=>False):aN (ao a (ao b (ao c ak))) δ n Q:=k
end
abbrev zA:aE:=av (w2 (aV (aN (ao (wB lN (ao ↥1 ak)) (ao (cx ↥1 cb (b8 (dJ ⇑1))) (ao (w2 ↥1 (cx ↥1 (b8 (dJ ⇑1)) cb) d3) (ao (w2 ↥1 (aC (ao (aB lr (ao ↥0 ak)) ak)) d3) (ao (jJ ↥1) ak))))))) (w2 ↥3 ⇑1 (bN λi j=>.int (i-j))) aw)
abbrev wV:aE:=ar (aH (bW (cT (aO "int" ↥1)) (bW (aM (cT (aO "bool" ↥1))) (cT (w2 ↥3 ⇑3 fm)))) (av (w2 (aV (aN (ao (w2 ↥1 ⇑1 (bN λi j=>.int (i+j))) (ao (w2 ↥1 ⇑1 (bN λi j=>.int (i-j))) (ao (w2 ↥1 ⇑0 hX) ak))))) ↥3 aw)) aF) (av (aB lr (ao ↥0 ak)))
theorem HK(hT:Th L kk d)(hL9:9<=L)(hL30:L<=120)(w0:0<=w)(hn':n'<=n+2)(hn:n+5*(kk:Int)+5 < 2 ^ 39)
  (k:∀(d':Ab)(n':Int),Th (L+1) (kk+2) d'->n'<=n+5*(kk:Int)+5->Q (.d d') n'):
  wV [ae (.w .tp),↑d,x2,↑(.int w)] n' {nx:=λ_ n=>Q (.d .none) n,rt:=Q}:=by
 have c:av (aB lr (ao ↥0 ak)) [ae _,↑d,x2,↑(.int w)] n' {nx:=λ_ n=>Q (.d .none) n,rt:=Q}:=
  aW (cI (au rfl ⟨rfl,by omega,λe A=>k e _ (A.mono ⋯ ⋯) ⋯⟩))
 have j:bV "int" d=ai->wV [ae (.w .tp),↑d,x2,↑(.int w)] n' {nx:=λ_ n=>Q _ n,rt:=Q}:=λh=>
  ax (aU (λQ q=>iT (b:=ah) (λQ q=>ay (k:=ai) (λQ q=>fY (λQ q=>au rfl q) Q (by simp_all)) q) (λz=>nomatch z) q) c)
 cases hT with
 |int i D C=>
  refine ax (gn (λQ q=>iT (λQ q=>ay (λQ q=>fY (λQ q=>au rfl q) Q q) q) (λ_ Q q=>iT (a:=ah) (λQ q=>cY (λQ q=>ay (λQ q=>fY (d:=.int i) (λQ q=>au rfl q) Q q) q) q) (λ_ Q q=>ay (λQ q=>aq (au rfl (aA q))) q) ⋯) (q)) (λe=>?_) λ_=>?_)
  ·refine aW (aq (aY (VM (aq (au rfl (aA (dy ?_)))))));refine aq (au rfl (aA (iJ (aq (au rfl (aA (rp (Al (show 3<=1000 by decide) ?_))))))));refine au rfl (jy w0 (d_ e) λf r=>?_);simp only[Ao,A3,g_]at r;rcases r with rfl|rfl|rfl
   ·exact k _ _ (.int _ ⋯ ⋯) ⋯
   ·exact k _ _ (.int _ ⋯ ⋯) ⋯
   ·exact k _ _ (.bool _) ⋯
  ·exact c
 |bool b=>
  assumption
 |non=>exact j rfl
 |str _ _ _=>exact j rfl
 |list _ _=>exact j rfl
 |tuple _ _=>exact j rfl
theorem Ta(hT:Th L kk (.tuple ds))(hL9:9<=L)(hL30:L<=120)(w0:1<=w)(w1:w < 6)(hn':n'<=n+2)(hn:n+5*(kk:Int)+5 < 2 ^ 39)
  (k:∀(d':Ab)(n':Int),Th (L+1) (kk+2) d'->n'<=n+5*(kk:Int)+5->Q (.d d') n') (K:DEnds) (hK:K.rt=Q):
  zA [ae (.w .tp),↑(.tuple ds),x2,↑(.int w)] n' K:=by
 subst hK;have y:=by cases hT;assumption
 have A:=hT.pos;have g:∀x∈ds,Th (L+1) (kk+1) x:=λx e=>(hT.mem x e).mono ⋯ ⋯;have h:∀i:List Ab,i.length<=L+1->(∀x∈i,Th _ _ x)->Th _ (kk+2) (.tuple i):=λxs v u=>.tuple v u;have q:∀{a b:Option Int},∀x∈bz ds a b,Th _ _ x:=λx e=>g x (uH e);have F:=BL ds af (ae (-1));have z:=VW ds;refine aW (aq (aY (CD (OP rfl (Qh rfl (aq (au rfl (VX rfl (pO ⋯ ?_)))))))));refine aq (au rfl (lM (cI (au rfl ⟨rfl,by omega,λo s=>?_⟩))));refine Al (show 1<=1000 by decide) (pO (by rw[Az];omega) (Jx rfl (Al (show 5<=1000 by decide) ?_)));have t:Th _ _ (.list ds):=.list ⋯ g;have j:=h (bz ds af (ae (-1))) ⋯ q;have m:=h (ds++bz ds (ae (-1)) af) (by rw[An];omega) λx e=>(A1.mp e).elim (g x) (q x);have p:=h _ (by rw[An,Az];omega) (yQ g (s.mono (L':=L+1) (k':=kk+1) ⋯ ⋯));have r:=h ds.reverse (by rw[D7];omega) λx e=>g x (List.mem_reverse.mp e);generalize Dn _=B at j;generalize Dn _=C at m;generalize Dn _=D at p;generalize Dn ds.reverse=E at r;refine aq (au rfl (aA (iJ (jy ⋯ (show w-1 < 5 by omega) λf l=>?_))));simp only[Ao,A3,g_]at l;rcases l with rfl|rfl|rfl|rfl|rfl
 ·exact k _ _ t ⋯
 ·exact k _ _ j ⋯
 ·exact k _ _ m ⋯
 ·exact k _ _ p ⋯
 ·exact k _ _ r ⋯
theorem Tv:∀d ws n Q,kQ d ws n Q->ws.length=2:=λt ws n Q h=>by
 cases t with
 |zero=>exact h.elim
 |succ t=>obtain⟨_,_,_,rfl,_⟩:=h;rfl
theorem Vo:∀d ws n Q,kQ (d+1) ws n Q->II (kQ d) (dj ["_law_tape_here","_law_thing_here","_law_at","_law_way"] ws) n {nx:=λ_ n=>Q (.d .none) n,rt:=Q}:=λt ws n Q h=>by
 obtain⟨d,L,E,rfl,m,i,g,hk,v,k⟩:=h;simp_all
 have f:∀D:Int,D<=n+1->(ar (az 3 (aB bQ (ao _ (ao ⇑6 ak)))) (ar (aH (bW (cT (aO "tuple" ↥1)) (cT (w2 ↥3 ⇑0 hX))) zA aF) wV)) [ae _,↑d,af,af] D {nx:=λ_ n=>Q _ n,rt:=Q}:=λn1 K=>by
  refine ax (nu rfl ⋯ ∎ ∎ λw F R=>?_);dsimp only[Ay];cases s:bV "tuple" d with
  |true=>
   obtain⟨p,rfl⟩:=AN s;refine ax (gn (λQ q=>iT (λQ q=>ay (λQ q=>kK rfl q) q) (λ_ Q q=>ay (λQ q=>aq (au rfl (aA q))) q) (by exact q)) (λe=>?_) λ_=>?_)
   ·have e:=d_ e;exact Ta m i g ⋯ R ⋯ v k _ rfl
   ·exact HK (x2:=af) m i g F ⋯ v k
  |false=>
   refine ax (aU (λQ q=>iT (b:=ah) (λQ q=>ay (k:=ai) (λQ q=>fY (λQ q=>au rfl q) Q (by simp_all)) q) (λz=>nomatch z) q) ?_);exact HK m i g F ⋯ v k
 by_cases s:bV "tuple" d=ah
 ·obtain⟨p,rfl⟩:=AN s;rcases p with _|⟨a,r⟩
  ·refine ax (aU (λQ q=>iT (λQ q=>ay (λQ q=>kK rfl q) q) (λ_ Q q=>iT (b:=ah) (λQ q=>ay (λQ q=>aq (eF rfl (aA q))) q) (λz=>nomatch z) q) q) ?_);exact f n ⋯
  ·have J:=by cases m;assumption
   have V:=m.pos;have I:decide ((0:Int) < ((a::r).length:Int))=ah:=b_ (by simp);have P:1<=(a::r).length:=by simp
   generalize a::r=p at m J I P f;refine ax (cP (lJ (λQ q=>ay (λQ q=>kK rfl q) q) (lJ (λQ q=>ay (λQ q=>aq (eF rfl (aA (rp (by rw[I];exact q))))) q) ?_)));refine aq (gA rfl ⋯ ∎ ∎ λx X W=>aA ?_);show if decide _=ah then _ else _
   by_cases h:0 < x
   ·rw[a' (b_ h)];refine ax (gQ rfl (λQ q=>aT (au rfl q)) ⋯ ⋯ ⋯ λr M O=>?_);obtain⟨y,S,N⟩:=wX M O;obtain⟨j,rfl⟩:∃j:Nat,r=j:=⟨r.toNat,by omega⟩;dsimp only[Ay];have Z:=PV p j;have T:=MM p j;refine aW (aq (aq (vA rfl rfl (lM (bw (au rfl (aq (au rfl (au rfl ?_)))))))));show match c8 p (j:Int)with|some d=>_|none=>False
    rw[S];cases t with
    |zero=>omega
    |succ t=>
     refine⟨y,L,E-1,rfl,m.mem y N,i,g,by omega,by omega,λd' U B H=>?_⟩;refine Al (Nat.le_of_ble_eq_true rfl) (pO (by rw[Az];omega) (TJ rfl rfl (pO (by rw[An,Az];omega) ?_)));have G:∀{a b:Option Int},∀x∈bz p a b,Th (L+1) (E+1) x:=λx A=>(m.mem x (uH A)).mono ⋯ ⋯;exact k _ _ (.tuple (by rw[An,An,Az];omega) λx A=>(A1.mp A).elim (yQ G (B.mono (Bh _) ⋯) x) (G x)) ⋯
   ·rw[a_ (by simpa using h)];exact f _ ⋯
 ·have s:=by simpa using s
  refine ax (aU (λQ q=>iT (b:=ah) (λQ q=>ay (k:=ai) (λQ q=>fY (λQ q=>au rfl q) Q (by simp_all)) q) (λz=>nomatch z) q) ?_);exact f n ⋯
section
variable{δ:Sl}{n:Int}{Q:DQ}{K:DEnds}{i:Nat}
theorem xE(e:δ[i]?=ae (ae (.w (.ob (.y m)))))(k:Q (.ob (.y m)) n):dB i δ n Q:=by unfold dB;simp_all
theorem yL(e:δ[i]?=ae (↑d))(k:Q (.d d) n):dB i δ n Q:=by unfold dB;simp_all
theorem GY(e:δ[i]?=ae (ae (.odx m)))(k:Q (.dx m) n):dB i δ n Q:=by unfold dB;simp_all
theorem zd(e:δ[i]?=ae (ae (.own ds)))(k:wa δ n λx n1=>∃m:Nat,x=.d (.int m)/\m < ds.length/\K.nx (δ.set i (ae (.own (ds.eraseIdx m)))) n1):kg i wa δ n K:=by unfold kg;simp_all
theorem u7(e:δ[i]?=ae (ae (.own ds)))(k:K.rn ds n):lX i δ n K:=by unfold lX;simp_all
theorem oW(k:w δ n λds n1=>K.nx (δ.set i (ae (.own ds))) n1):bu i w δ n K:=k
theorem LR{Q:List Ab->Int->Prop}(hc:∀Q:Bool->Int->Prop,Q ah n->C δ n Q)(k:v δ n Q):my C v w δ n Q:=hc _ (k)
theorem OX{Q:List Ab->Int->Prop}(hc:∀Q:Bool->Int->Prop,Q ai n->C δ n Q)(k:w δ n Q):my C v w δ n Q:=hc _ (k)
theorem K2{Q:List Ab->Int->Prop}(k:C δ n λb n1=>if b=ah then v δ n1 Q else w δ n1 Q):my C v w δ n Q:=k
end
theorem yS{α β:Type}(f:α->β):∀(l:List α)(m:Nat),(l.map f).eraseIdx m=(l.eraseIdx m).map f
 |[],_=>rfl
 |_::_,0=>rfl
 |a::r,m+1=>by rw[Ba,List.eraseIdx_cons_succ,List.eraseIdx_cons_succ,Ba,yS f r m]
theorem Gk.less(g:Gk ps c s)(h:c'<=c):Gk ps c' s:=by
 obtain⟨d,b,e,a,f⟩:=g;exact⟨d,b,e,a,by omega⟩
theorem DD(g0:Gk ps (M+21) s0)(hM:(El (bF ps) ps.length s0 J).length<=M):∀s∈(El (bF ps) ps.length s0 J).map (·.1),Gk ps 20 s:=λs d=>by
 obtain⟨e,a,rfl⟩:=A6.mp d;exact(sW (λc s i b g _ h=>xM (show Gk ps (c+20+1) s by omega) h) ⋯ J hM e a).2.less ⋯
theorem J8:∀ws n Q,su ws n Q->OE (dj ["_law_tape_here","_law_programs","_law_most","_law_found","_law_some"] ws) n {nx:=λ_ _=>False,rt:=λ_ _=>False,rn:=Q}:=λws n Q h=>by
 obtain⟨a,rfl,l,M,k⟩:=h;have f:∀(ss:List TK) v g,g<=n+400->ss.length<=20->(∀s∈ss,Gk a 20 s)->(ar (aH (bW (cT (w2 (wB dD (ao (bY 4) ak)) _ hX)) (cT (w2 (aB bQ (ao _ (ao ⇑3 ak))) ⇑0 a8))) (kg 4 (aB bQ (ao _ (ao (wB dD (ao (bY 4) ak)) ak)))) aF) (lX 4)) [ae _,↑(cf a),↑(.int 20),v,ae _] g {nx:=λ_ _=>False,rt:=λ_ _=>False,rn:=Q}:=λss v g P o u=>by
  by_cases L:0 < ss.length
  ·have K:decide ((0:Int) < ((ss.map (·.1)).length:Int))=ah:=b_ (by rw[Ad];omega);refine ax (cP (lJ (λQ q=>ay (λQ q=>aq (aT (gv rfl (pH (aA (rp (by rw[K];exact q))))))) q) (aq (gA rfl ⋯ ∎ ∎ λx S R=>aA ?_))));show if decide _=ah then _ else _
   by_cases h:x=0
   ·rw[a' (b_ h)];refine zd rfl (gQ rfl (λQ q=>aT (gv rfl (pH q))) ⋯ (by rw[Ad];omega) (by rw[Ad];omega) λr D O=>⟨_,by rw[Int.toNat_of_nonneg D],by omega,?_⟩);dsimp only[Ay];refine u7 rfl ?_;rw[yS];refine k _ _ (A5 (Gr ss _).length_le o) (λs hs=>u s ((Gr ss _).subset hs)) ⋯
   ·rw[a_ (by simpa using h)];dsimp only[aF];exact u7 rfl (show Q _ (g+1)from k ss _ o u ⋯)
  ·have e:ss=[]:=E5 ⋯;subst e;refine ax (aU (λQ q=>iT (b:=ah) (λQ q=>ay (λQ q=>aq (aT (gv rfl (pH (aA (rp q)))))) q) (λz=>nomatch z) q) ?_);dsimp only[aF];exact u7 rfl (k [] _ o u ⋯)
 refine ax (?_);dsimp only[nE,ak];refine au rfl (bC (au rfl (au rfl (aA ⟨a,2,rfl,by decide,l,by omega,λhs y g A t j=>au rfl ?_⟩))));have o:=t.1;obtain⟨i,B⟩:∃i:TK,i.1=b3 hs y:=⟨⟨_,sh A t.2⟩,rfl⟩;have C:Gk a 41 i:=⟨hs,y,B,⟨l,A,by omega,t.2⟩,by omega⟩;rw[<-B];refine⟨_,i,20,_,_,_,rfl,nV a,C.less ∎,by decide,by decide,?_,λJ N E=>?_⟩
 ·dsimp only[Ay];exact ax (oW (LR (λQ q=>ay (λQ q=>aq (yL rfl (aA (.inr (BY q))))) q) (Al (Be _) (f [] (ae (.w (.d .none))) g j (Be _) λ_ h=>nomatch h))))
 ·dsimp only[Ay];refine ax (oW (OX (λQ q=>ay (λQ q=>aq (GY rfl (aA (.inl ⟨_,rfl,rfl,q⟩)))) q) (GY rfl ⟨_,.inl rfl,by rw[Ad];omega,?_⟩)));have e:(gz (El (bF a) a.length i J)).map (λx=>x.1.1)=((El (bF a) a.length i J).map (·.1)).map (·.1):=by rw[B7,B7];rfl
  rw[e];exact f _ _ g j (by rw[Ad];omega) (DD C E)
theorem DK(k:a δ n λx n1=>match gy [x]with
  |some ds=>ds.length<=1000/\Q ds n1
  |none=>False):aN (ao a ak) δ n Q:=k
theorem tE(hw:∀Q:DQ,Q (.d (.int j)) n->w δ n Q):∀Q:Option Int->Int->Prop,Q (ae j) n->b8 w δ n Q:=λQ q=>hw _ q
theorem Sk(e:δ[i]?=ae (ae (.own ds)))(hu:∀Q:Option Int->Int->Prop,Q (ae j) n->u δ n Q)(k:Q (.d (.list (bz ds af (ae j)))) n):sx (bY i) cb u δ n Q:=gv e (hu _ k)
theorem Ji:bK w4 CS ["_law_tape_here","_law_programs","_law_some","_law_way","_law_thing_here","_law_at"]:=λws n Q h=>by
 obtain⟨C,v,rfl,J,h0,hl,U,hn,k⟩:=h;show CS [ae (.w .tp),↑(cf C),↑(.list (v.map (·.1))),af,af,af] n _;refine ax (nu (m:=8) rfl ⋯ ∎ ∎ λw w0 w1=>?_);dsimp only[Ay];have y:∀(ts:List TK)(H:Int),H<=n+2->ts.length=v.length->(∀s∈ts,Gk C 20 s)->(ar (az 5 (aB bQ (ao ↥0 (ao (wB dD (ao (bY 4) ak)) ak)))) (ar (aH (cT (w2 ↥3 ⇑1 a8)) (bu 4 (f5 (bY 4) (sx (bY 4) cb (b8 (w2 ↥5 ⇑1 (bN λi j=>.int (i+j))))))) (aH (cT (w2 ↥3 ⇑2 a8)) (kg 4 ↥5) (aH (cC (cT (w2 ↥3 ⇑3 a8)) (cT (w2 ↥3 ⇑4 a8))) (ko 4 ↥5 (w2 (w2 ↥5 ⇑4 (bN λi j=>.int (i+j))) ↥3 (bN λi j=>.int (i-j))) (aN (ao (aB (kQ 20) (ao ↥0 (ao (w2 (bY 4) ↥5 a9) ak))) ak))) (aH (cC (cT (w2 ↥3 ⇑5 a8)) (cT (w2 ↥3 ⇑6 a8))) (bu 4 (f5 (aV (lD su (ao ↥0 (ao ↥1 (ao ⇑20 ak))))) (bY 4))) (aH (cT (w2 ↥3 ⇑7 a8)) (bO 4 (av (w2 (aV (aN (ao (wB fV (ao ↥4 ak)) (ao (aV (aN ak)) (ao (wC .none) (ao (aC (ao ↥4 ak)) (ao (aV (aN (ao ↥4 ak))) ak))))))) (aB bQ (ao ↥0 (ao ⇑5 ak))) a9))) aF))))) (bO 4 (av ↥4)))) [ae (.w .tp),↑(cf C),↑(.list (v.map (·.1))),↑(.int w),ae (.own (ts.map (·.1))),af] H {nx:=λ_ n=>Q (.d .none) n,rt:=Q}:=λts H h1 X K=>by
  have Z:(ts.map (·.1)).length=v.length:=by rw[Ad];omega
  have E:∀d∈ts.map (·.1),Th 80 5 d:=λd g=>by
   obtain⟨s,D,rfl⟩:=A6.mp g;exact EH (K s D) ∎
  have c:∀d∈ts.map (·.1),Th 90 11 d:=λd g=>(E d g).mono ∎ ∎;generalize ts.map (·.1)=ds at Z E c;refine ax (show az 5 _ _ _ _ from gQ (m:=(ds.length:Int)) rfl (λQ q=>aT (gv rfl (pH q))) ⋯ ⋯ ⋯ λa a0 V=>?_);obtain⟨a,rfl⟩:=Ca a0;dsimp only[Ay];have u:∀(O:List Ab)(B:Int),B<=n+900->O.length<=90->(∀d∈O,Th 90 11 d)->(bO 4 (av ↥4)) [ae (.w .tp),↑(cf C),↑(.list (v.map (·.1))),↑(.int w),ae (.own O),↑(.int (a:Nat))] B {nx:=λ_ n=>Q (.d .none) n,rt:=Q}:=λes B h2 P I=>gW rfl (aW (au rfl (k _ _ (.list P I) ⋯)));have l:∀(j:Int)(B:Int)(Q:Bool->Int->Prop),Q (decide (w=j)) B->cT (w2 ↥3 (wC (.int j)) a8) [ae (.w .tp),↑(cf C),↑(.list (v.map (·.1))),↑(.int w),ae (.own ds),↑(.int (a:Nat))] B Q:=λj B Q q=>ay (k:=decide (w=j)) (λQ q=>aq (au rfl (aA (gN q)))) q;refine ax (gn (b:=decide (w=1)) (l 1 _) (λe=>?_) λe1=>?_)
  ·refine oW (show f5 _ _ _ _ _ from gv rfl (Sk (j:=(a:Int)+1) rfl (tE λQ q=>aq (au rfl (aA (dy q)))) ?_));have t1:=BL ds af (ae ((a:Int)+1));refine Al (mL ⋯ ⋯) (u _ _ ⋯ (by rw[An];omega) λd g=>(A1.mp g).elim (c d) λz=>c d (uH z))
  refine gn (b:=decide (w=2)) (l 2 _) (λe=>?_) λe2=>?_
  ·refine zd rfl (au rfl ⟨a,rfl,by omega,?_⟩);exact u _ _ ⋯ (A5 (Gr ds _).length_le ⋯) λd g=>c d ((Gr ds _).subset g)
  refine gn (b:=decide (w=3) || decide (w=4)) (λQ q=>bo (l 3 _) (λ_=>l 4 _) q) (λe=>?_) λe3=>?_
  ·have hw:w=3\/w=4:=by
    simp_all
   refine⟨ds,rfl,DK (bw (au rfl (aq (gv rfl (au rfl (qm ⋯ V λd g=>?_))))))⟩;refine(show kQ (19+1) _ _ _ from⟨d,80,5,rfl,E d g,by decide,by decide,by decide,by omega,λd' Y G N=>?_⟩);refine Al (show 1<=1000 by decide) (au rfl ⟨a,rfl,aq (aq (au rfl (aA (dy (au rfl (iJ ⟨((a:Int)+4-w).toNat,?_,?_,?_,?_,?_⟩))))))⟩)
   ·rw[Int.toNat_of_nonneg ⋯]
   ·omega
   ·omega
   ·rw[Az];omega
   ·refine u _ _ ⋯ (by rw[An,An,C9,Ct,Az];omega) λx t=>?_;rcases A1.mp t with t|t
    ·rcases A1.mp t with t|t
     ·exact c x (Dv t)
     ·rw[A4.mp t];exact G.mono ∎ ∎
    ·exact c x (List.mem_of_mem_drop t)
  refine gn (b:=decide (w=5) || decide (w=6)) (λQ q=>bo (l 5 _) (λ_=>l 6 _) q) (λe=>?_) λe5=>?_
  ·refine oW (show f5 _ _ _ _ _ from aY (show lD _ _ _ _ _ from ?_));dsimp only[lD,ao,ak];refine au rfl (au rfl (aA ⟨C,rfl,J,by omega,λos Y ho M N=>gv rfl ?_⟩));refine Al (mL (by rw[Ad];omega) ⋯) (u _ _ ⋯ (by rw[An,Ad];omega) λd g=>(A1.mp g).elim (λz=>?_) (c d));obtain⟨s,D,rfl⟩:=A6.mp z;exact(EH (M s D) ∎).mono ∎ ∎
  refine gn (b:=decide (w=7)) (l 7 _) (λe=>?_) λe7=>?_
  ·refine gW rfl ?_;dsimp only[Ay];refine aW (aq (aY (CD (aT (au rfl (jW ?_))))));refine aY (Al (Be _) ?_);refine aA ?_;refine lM (au rfl (Al (show 1<=1000 by decide) ?_));refine aY (DK (au rfl (Al (show 1<=1000 by decide) ?_)));refine Al (show 5<=1000 by decide) ?_;refine gA (m:=5) rfl ⋯ ∎ ∎ λr W r1=>?_;refine(show aw _ _ _ _ from jy (ds:=[.tuple ds,.list [],.none,.tuple [.list ds],.list [.list ds]]) W r1 λf T=>?_);have S:ds.length<=90:=by omega
   have R:Th 90 11 (.list ds):=.list S λd g=>(E d g).mono ∎ ∎;simp only[Ao,A3,g_]at T;rcases T with rfl|rfl|rfl|rfl|rfl
   ·exact k _ _ (.tuple S c) ⋯
   ·exact k _ _ (.list (Be _) λ_ h=>nomatch h) ⋯
   ·exact k _ _ .non ⋯
   ·exact k _ _ (.tuple (show 1<=90 by decide) λd g=>by rw[A4.mp g];exact R) ⋯
   ·exact k _ _ (.list (show 1<=90 by decide) λd g=>by rw[A4.mp g];exact R) ⋯
  exact u ds _ ⋯ ⋯ c
 refine ax (oW (K2 (aq (gA (m:=2) rfl ⋯ ∎ ∎ λx x0 x1=>aA (gN ?_)))));show if decide (x=0)=ah then _ else _
 by_cases t:x=0
 ·rw[a' (b_ t)];exact(show jz ↥2 _ _ _ from au rfl (y v _ ⋯ rfl U))
 ·rw[a_ (by simpa using t)];have e:(v.map (·.1)).reverse=v.reverse.map (·.1):=by rw[List.map_reverse]
  have z:=y v.reverse (n+1+1) ⋯ D7 λs D=>U s (List.mem_reverse.mp D);rw[<-e]at z;exact(show wD ↥2 _ _ _ from au rfl z)
mutual
theorem DO:∀d:Ab,Cq d=ah->Bz d d=ah
 |.none,_=>by simp[Bz]
 |.bool b,_=>by simp[Bz]
 |.int i,_=>by simp[Bz]
 |.str x,_=>by simp[Bz]
 |.list xs,h=>by rw[Bz];exact xn xs (by rwa [Cq]at h)
 |.tuple xs,h=>by rw[Bz];exact xn xs (by rwa [Cq]at h)
 |.dict m,h=>by simp[Cq]at h
theorem xn:∀ds:List Ab,Dz ds=ah->D8 ds ds=ah
 |[],_=>by simp[D8]
 |d::r,h=>by
  rw[Dz,Av]at h;rw[D8,DO d h.1,xn r h.2];rfl
end
theorem Jn(j):∃m r,El aft N s0 j=(s0,m)::r:=by
 have p:=P1 (aft:=aft) (N:=N) s0 0 j;rw[Nat.zero_add,<-zj j]at p;obtain⟨t,e⟩:=p;obtain⟨x,r,b,a,c⟩:=Cf.mp e.symm;refine⟨x.2,r,?_⟩;rw[b,<-a]
theorem HX(k:Q (.d (.int ds.length)) n):aI [.d (.list ds)] n Q:=k
theorem OY(k:Q (.d (.bool (decide (i=j)))) n):bj (.d (.int i)) (.d (.int j)) n Q:=k
theorem LA(k:Q (.d (.int (if b then 1 else 0))) n):jP [.d (.bool b)] n Q:=k
theorem SI(hu:∀Q:DQ,Q (.d (.bool b)) n->u δ n Q)(hv:∀Q:DQ,Q (.d (.bool b)) n->v δ n Q):∀Q:Bool->Int->Prop,Q ai n->cT (w2 (wB ml (ao u ak)) (wB ml (ao v ak)) di) δ n Q:=λQ q=>by
 refine ay (λQ q=>aq (aT (hu _ (aT (hv _ ?_))))) q;refine(ne_str ?_);have:c4 (if b then "True" else "False") (.str (if b then "True" else "False"))=ah:=b_ rfl
 simp_all
theorem Nj:Qw (af::ae (.w .tp)::Df 9 af) 0 pN:=by
 refine ax (cI (au rfl ⟨rfl,by decide,λps K L X k O p V=>?_⟩));refine Al rfl ?_;dsimp only[bE,cZ,Ay];have hl:=p.1;obtain⟨b,S⟩:∃b:TK,b.1=b3 K L:=⟨⟨_,sh O p.2⟩,rfl⟩;have C:Gk ps 51 b:=⟨K,L,S,⟨k,O,by omega,p.2⟩,by omega⟩;rw[<-S];refine ax (⟨_,b,30,_,_,_,rfl,nV ps,C.less ∎,by decide,by decide,?_,λJ hJ Y=>?_⟩)
 ·dsimp only[B5];exact ax (aQ (λQ q=>ay (λQ q=>aq (yL rfl (aA (.inr (BY q))))) q) rfl)
 ·dsimp only[B5];refine ax (aU (λQ q=>ay (λQ q=>aq (xE rfl (aA (.inr (UJ q))))) q) ?_);dsimp only[aF];have A:=DD C Y;have P:0 < ((El (bF ps) ps.length b J).map (·.1)).length:=by
   obtain⟨m,r,e⟩:=Jn J;rw[e];simp
  have M:((El (bF ps) ps.length b J).map (·.1)).length<=30:=by rw[Ad];omega
  have e:(gz (El (bF ps) ps.length b J)).map (λx=>x.1.1)=((El (bF ps) ps.length b J).map (·.1)).map (·.1):=by simp
  refine ax (bH (λQ q=>aY (xE rfl ⟨_,.inr rfl,by rw[Ad];omega,by rw[e];exact q⟩)) ?_);dsimp only[Ay];generalize(El _ ps.length b J).map _=D at A P M;generalize gz _=kvs;refine ax ?_;unfold aZ eR;refine aA (Al ⟨by decide,by decide⟩ (eC (λds δ m=>m+1100*(ds.length:Int)<=10000/\∃H N R E j:Option SV,δ=[af,ae _,ae _,ae _,ae _,ae _,H,N,R,E,j]) (λδ m I=>rfl) (λd r δ m F I kN=>?_) _ _ _ ⟨show X+1100*(4:Int)<=10000 by omega,_,_,_,_,_,rfl⟩));obtain⟨U,H,N,R,E,j,rfl⟩:=I;rw[Ax]at U;refine(ax (bC (au rfl (au rfl (au rfl ⟨ps,D,rfl,k,P,M,A,by omega,λth n2 h Z=>?_⟩)))));dsimp only[Ay];have ls:((D.map (·.1)).length:Int)=(D.length:Int):=by simp
  refine ax (aq (aY (Wt (au rfl (aq (au rfl (bw (au rfl (aT (au rfl (HX (yF ⋯ ⋯ ⋯ λx x0 x1=>?_))))))))))));refine jy x0 x1 λy hy=>Al (show 2<=1000 by decide) ?_;obtain⟨B,u,rfl⟩:=A6.mp hy;refine aT (aq (bw (au rfl (aA (yF ⋯ ∎ ∎ λz z0 z1=>aA (OY (LA ?_)))))));have v:∀f,f∈[b.1,B.1]->∃t:TK,f=t.1/\Gk ps 20 t:=λf l=>by
   simp only[Ao,A3,g_]at l;rcases l with rfl|rfl
   ·exact⟨b,rfl,C.less ∎⟩
   ·exact⟨B,rfl,A B u⟩
  refine jy (by split<;>decide) (show _ < (2:Int) by split<;>decide) λf l=>?_;obtain⟨t,rfl,G⟩:=v f l;dsimp only[Ay];refine ax (bH (x:=th) (λQ q=>?_) ?_)
  ·cases th with
   |list ds=>exact q
   |_=>exact q
  dsimp only[Ay];refine ax (bH (λQ q=>bC (au rfl (au rfl (au rfl ⟨ps,t,th,rfl,k,G.less ∎,h,q⟩)))) ?_);dsimp only[Ay];refine aU (λQ q=>bo (SI (λQ q=>au rfl q) (λQ q=>bC (au rfl (au rfl (au rfl ⟨ps,t,th,rfl,k,G.less ∎,h,q⟩))))) (λ_ Q q=>ay (λQ q=>aq (au rfl (au rfl ?_))) q) q) ?_
  ·exact⟨h.lay.1,h.lay.1,A5 h.lay.2 ∎,A5 h.lay.2 ∎,_,by show ae _=_;rw[DO th h.lay.1];rfl,q⟩
  ·exact kN _ _ ⟨by omega,_,_,_,_,_,rfl⟩
theorem UE:∀ws n Q,l8 g9 gR ws n Q->ws.length=3:=λws n Q h=>by obtain⟨_,_,_,_,_,_,rfl,_⟩:=h;rfl
theorem PL:∀ws n Q,l8 g9 gR ws n Q->Nr (dj Zc ws) n {nx:=λ_ _=>False,rt:=λw n=>w=.d .none/\Q af n,rx:=λkvs n=>Q (ae kvs) n}:=Jo g9 gR
end Nb
namespace Nb
open PySem L2
def uD(K:Af):Sp:=λvs H Q _=>∃(a:A_)(ns:List Int),vs=[.ref a]/\SqL K H a (ns.map V.int)/\ns.length<=63 /\
 ∀(t p g:A_)(H':Hp),H' t=ae (.lst [.ref p,.int 0,.int 0,.ref g])->H' p=ae (.lst (ns.map V.int))->t≠p->Q (.ref t) H'
abbrev DX:TE:=lH (cU (tC .non) (cU (tC .non) (cU (tC .non) (cU (tC (.int 1)) (cU (tC (.int 2)) bP)))))
end Nb
namespace DL
open PySem L2 Nb
section
variable{P:A9}{w:Bj}{K:Af}{mg:Str->Option Ag}{base:Heap}
theorem VT(F:Fun K "law" "law" st f fd)(Sc:FnScope N ["_law_script"] (cE st))
  (hN:∀v,start N [v]=ae v::af::Df (N.length-2) af)
  (hW:W (af::ae (.w .tp)::Df (N.length-2) af) 0 pN)
  (hbody:∀(m_:Ag)(A:Bn)(outer:List Env)(s:Aj)(H:Hp)(E:XK),Room k (A.deeper (Dr "law" (cE st) s.heap.objs.size f m_))->
   ∃s0 s1 rest T,fC st=s0::s1::rest/\PS (cS cV P w K mg base N "law" (cE st) f m_ A outer s H E).nox s0 (bX (hU (uD K) [] E0 (cU (bM 0) bP)) (fc 1))/\PS (cS cV P w K mg base N "law" (cE st) f m_ A outer s H E).nox s1 (bX DX (i7 (bM 1) (tC (.int 3)) qV))/\DSs (cS cV P w K mg base N "law" (cE st) f m_ A outer s H E).nox rest T W):
  FnOk P w K mg base cV (k+1) f fd ["_law_script"] (spLaw K):=by
 refine F.ok Sc (λvs H Q E h=>?_) (λm_ A outer s H S Q E L h=>?_)
 ·obtain⟨a,i,rfl,_⟩:=h;rfl
 ·obtain⟨a,i,rfl,I,o,J⟩:=h;obtain⟨s0,s1,rest,T,e,G,x,d⟩:=hbody m_ A outer s H E L;rw[e];refine⟨_,gK G (gK x d.ps),?_⟩;rw[hN];refine⟨_,rfl,a,i,rfl,I,o,λt p g D y O l=>⟨ku ∎,λq u=>?_⟩⟩;have b:q≠t:=λz=>by rw[z,y]at u;cases u
  have j:q≠p:=λz=>by simp_all
  refine⟨_,rfl,t,_,3,3,rfl,rfl,(by rw[aX b.symm];omega),rfl,?_⟩;have C:Tp (upd (upd D q (.lst qW)) t _) t ⟨p,q⟩ i 0:={
   ob:=⟨0,0,br,Int.le_refl _,Int.le_refl _⟩
   ls:=by rw[aX l.symm,aX j.symm];omega
   len:=o
   ag:=λ_=>by rw[aX b,br]
   gne:=b}
  refine d.sd _ _ _ _ _ 0 pN _ (N6 C) hW ⟨?_,?_,?_,?_,λ_ _ _ _ _ _ _ _ _ _ _ _ _ z=>z.elim,λ_ _ _ _ _ _ _ _ _ _ _ _ _ z=>z.elim⟩
  ·exact λ_ _ _ _ _ _ z=>z.elim
  ·intro H B σ δ n v w R r z;subst z;cases(show RdX H B v (.bool ah)from r);exact J H
  ·exact λ_ _ _ _ _ _ z=>z.elim
  ·exact λ_ _ _ _ _ _ z=>z.elim
end
end DL
namespace L2
open PySem
theorem Room.units80(r:Room k A):A.units+80 < Co:=by have:=r.un;omega
end L2
namespace DL
open PySem L2 Nb
end DL
namespace Nb
open PySem L2 DL
theorem NI{α:Type}{us:List α}(h:us.length=1):∃a,us=[a]:=match us,h with|[a],_=>⟨a,rfl⟩
theorem Ib{α:Type}{us:List α}(h:us.length=2):∃a b,us=[a,b]:=match us,h with|[a,b],_=>⟨a,b,rfl⟩
theorem Wz{α:Type}{us:List α}(h:us.length=3):∃a b c,us=[a,b,c]:=match us,h with|[a,b,c],_=>⟨a,b,c,rfl⟩
theorem K4{α:Type}{us:List α}(h:us.length=4):∃a b c d,us=[a,b,c,d]:=match us,h with|[a,b,c,d],_=>⟨a,b,c,d,rfl⟩
theorem U5{α:Type}{us:List α}(h:us.length=5):∃a b c d e,us=[a,b,c,d,e]:=match us,h with|[a,b,c,d,e],_=>⟨a,b,c,d,e,rfl⟩
theorem nP{N ps:List Str}{S:Fc}(h1:S.kind=.function:=by rfl)(h2:S.isCoroutine=ai:=by rfl)(h3:S.isGenerator=ai:=by rfl)(h4:N.Nodup:=by decide +kernel)(h5:N.take ps.length=ps:=by rfl)(h6:∀x∈ps,S.names.lookup x=ae .local\/S.names.lookup x=ae .cell:=by decide +kernel)(h7:∀y∈S.names,y.2≠.free:=by decide +kernel):FnScope N ps S:=⟨h1,h2,h3,h4,h5,h6,h7⟩
theorem tw(h:Has X.prog X.w X.K X.mg X.base k x ps S)(hr:Room k' X.A)(ha:DA X (e::es) tR wR)(hk:k<=k')(hg:Gl X x)(hdb:(x==("__debug__":Str))=ai)(he:Au (e::es) X.env=(ai,eval e X.env)::Au es X.env)(p_:(C6 pos (Au es X.env)).any (·.1)=ai):DE X (.Call (.Name x p) (e::es) [] pos) (hU (eV S) [] E0 tR) (aB S wR):=Vp h (hr.mono hk) hg ha hdb he p_
theorem vd(h:HasN X.prog X.w X.K X.mg X.base k x ps S)(hr:Room k' X.A)(ha:DA X (e::es) tR wR)(hk:k<=k')(hg:Gl X x)(hdb:(x==("__debug__":Str))=ai)(he:Au (e::es) X.env=(ai,eval e X.env)::Au es X.env)(p_:(C6 pos (Au es X.env)).any (·.1)=ai):DF X (.Call (.Name x p) (e::es) [] pos) (hU (l5 S) [] E0 tR) (lD S wR):=Nd h (hr.mono hk) hg ha hdb he p_
theorem Jh(h:HasXO X.prog X.w X.K X.mg X.base k x ps S)(hr:Room k' X.A)(ha:DA X (e::es) tR wR)(hk:k<=k')(hg:Gl X x)(hN:X.N.Nodup)(hi:X.N[i]?=ae y)(hx:gB X.env.scope y)(hs:Cp (.Call (.Name x p) (e::es) [] pos) (ae (.Name y pos')) ap.line X.env=pure ai)(hf:X.fn y=ah\/X.env.scope.names.lookup y=ae .local)(hdb:(x==("__debug__":Str))=ai)(he:Au (e::es) X.env=(ai,eval e X.env)::Au es X.env)(p_:(C6 pos (Au es X.env)).any (·.1)=ai):DS X (.Assign [.Name y pos'] (.Call (.Name x p) (e::es) [] pos) ap) (bX (hU (nU S) [] E0 tR) (fc i)) (nE i S wR):=MC h (hr.mono hk) hg hN hi hx ha hs hf hdb he p_
def V6:NameKind->Bool
 |.local=>ah
 |_=>ai
def EB:NameKind->Bool
 |.free=>ah
 |_=>ai
def qb(sc:Fc):List Str:=(sc.names.filter λy=>EB y.2).map (·.1)
def cN(sc:Fc):List Str:=((sc.names.drop 1).filter λy=>V6 y.2).map (·.1)++qb sc
def rB(sc:Fc)(cells:List (Str×A_)):List (Str×A_):=(qb sc).reverse.map λx=>(x,(cells.lookup x).getD 0)
def qI(sc:Fc):List (Str×NameKind):=sc.names.map λy=>(y.1,bif EB y.2 then .cell else y.2)
inductive Frs(X:Cx)(sc:Fc):List (Option Nat)->List Str->Prop
 |nil:Frs X sc [] []
 |own {f:List (Option Nat)} {x:Str} {N:List Str} (h:Frs X sc f N):Frs X sc (af::f) (x::N)
 |free {f:List (Option Nat)} {x:Str} {N:List Str} {i:Nat} (h1:X.N[i]?=ae x) (h2:ej X.env.scope x) (h3:X.env.kindOf x=ae .cell\/X.env.kindOf x=ae .free) (h4:(qI sc).lookup x=ae .cell\/(qI sc).lookup x=ae .free) (h5:(rB sc X.env.cells).lookup x=X.env.cells.lookup x) (h:Frs X sc f N):Frs X sc (ae i::f) (x::N)
theorem Frs.len(h:Frs X sc f N):f.length=N.length:=by
 induction h with
 |nil=>rfl
 |own _ a=>rw[Ax,Ax,a]
 |free _ _ _ _ _ _ a=>rw[Ax,Ax,a]
theorem Ja(h1:closureFor sc X.env=pure (rB sc X.env.cells))(h2:sc.kind=.function)(h3:∀y∈sc.names,y.2≠.cell)(h4:∀y∈sc.names,y.2=.local->sc.names.lookup y.1=ae .local)(h5:((qb sc).all λx=>(X.env.cells.lookup x).isSome)=ah)(h6:(relabel sc X.env).names=qI sc)(h7:∀y∈qI sc,(y.2=.cell\/y.2=.free)->y.1∈(qb sc).reverse)(h8:Frs X sc f (cN sc)):CompSc X (cN sc) sc (rB sc X.env.cells) f:=by
 refine⟨h1,h2,h3,h4,Kj λy n=>?_,PU _ _ h6 (by unfold rB;rw[B7];exact List.map_id' _) h7,h8.len,?_⟩
 ·obtain⟨x,m,rfl⟩:=A6.mp n;obtain⟨c,o⟩:=C2.mp (Bu.mp h5 x (by simp_all));simp_all
 ·intro j i h;rw[h6];generalize cN sc=N at h8 ⊢
  induction h8 generalizing j with
  |nil=>cases h
  |own _ k=>cases j with
   |zero=>cases h
   |succ j=>exact k j h
  |free a b c d e _ k=>cases j with
   |zero=>cases h;exact⟨_,rfl,a,b,c,d,e⟩
   |succ j=>exact k j h
theorem Vl(h:Frs X sc f N):Frs X sc f N:=h
theorem kC(h:X.K=K):(dg X N sc cl s H fp).K=K:=h
theorem nC(h:N.Nodup):(dg X N sc cl s H fp).N.Nodup:=h
def zL:List Str:=["all","bool","dict","enumerate","int","isinstance","len","list","range","repr","set","sorted","str","tuple","zip"]
theorem zU{mg:Str->Option Ag}(z:∀x∈zL,mg x=af)(h:x∈zL):mg x=af:=z x h
theorem Rg:Br "set"=ae (.type "set"):=by rfl
theorem Qu:Br "sorted"=ae (.builtin "sorted"):=by rfl
section
variable{P:A9}{w:Bj}{K:Af}{mg:Str->Option Ag}{base:Heap}{fa:A_}{fd:Ck}
theorem Jp{w:DT}(h:DE X e t w):DE X e t w:=h
theorem NH{w:d0}(h:DA X e t w):DA X e t w:=h
theorem Ms{w:aE}(h:DS X e t w):DS X e t w:=h
theorem tM{w:aE}(h:DSs X e t w):DSs X e t w:=h
theorem Lb{w:bZ}(h:DC X e t w):DC X e t w:=h
theorem Vg{w:dq}(h:DF X e t w):DF X e t w:=h
theorem V5{w:fS}(h:DI X g e t w):DI X g e t w:=h
theorem SN{b rest:List Stmt}(e:b=st::rest)(h:DSs X (st::rest) T W):DSs X b T W:=e▸h
theorem mP(F:Fun K x x st fa fd)(h:∀(kV doc pm:Ag) (an:Option A_) (m_ ct:Ag) (us:List Ag),us.length=ps.length->bindArgs (Fs x x (lR st) (fC st) (cE st) .none kV doc pm an m_ ct) ⟨us,[]⟩=pure (ps.zip us):=by
 intro _ _ _ _ _ _ us hl
 first
  |obtain⟨_,rfl⟩:=NI hl;rfl
  |obtain⟨_,_,rfl⟩:=Ib hl;rfl
  |obtain⟨_,_,_,rfl⟩:=Wz hl;rfl
  |obtain⟨_,_,_,_,rfl⟩:=K4 hl;rfl
  |obtain⟨_,_,_,_,_,rfl⟩:=U5 hl;rfl):Binds K fd ps []:=F.binds h
def qE(x:Str)(st:Stmt)(ps:List Str):Prop:=∀{K:Af}{fa:A_}{fd:Ck},Fun K x x st fa fd->Binds K fd ps []
def gF(P:A9)(w:Bj)(K:Af)(mg:Str->Option Ag)(base:Heap)(k:Nat)(x:Str)(i:Nat)(fa:A_)(N:List Str)(b:List Stmt)(W:aE):Prop:=N.Nodup->∀(m_:Ag)(A:Bn)(outer:List Env)(s:Aj)(H:Hp)(E:XK),Room k (A.deeper (Dr x (cE (cL i)) s.heap.objs.size fa m_))->∃T,DSs (cS cV P w K mg base N x (cE (cL i)) fa m_ A outer s H E).nox b T W
theorem mX{N:List Str}{b:List Stmt}{W:aE}(h:N.Nodup->∀(m_:Ag) (A:Bn) (outer:List Env) (s:Aj) (H:Hp) (E:XK),Room k (A.deeper (Dr x (cE (cL i)) s.heap.objs.size fa m_))->∃T,DSs (cS cV P w K mg base N x (cE (cL i)) fa m_ A outer s H E).nox b T W:=by
 intro nd m_ A outer s H E hr;apply Cs;apply SN (by exact rfl)
 repeat' first
  |with_reducible first|exact Mh|exact R5|exact VQ|exact Lz|exact GS|exact PySem.boot_len|exact wK|exact PyProof.Rows.boot_range|exact L1|exact Rg|exact Qu|exact IM|exact RG
  |with_reducible first|apply Room.units|apply Room.units80|apply Room.units0|apply Room.hd|apply Room.gd
  |exact rfl
  |exact Cc rfl
  |exact Bo (Cc rfl)
  |exact Bo (Bo rfl)
  |exact Bo rfl
  | (with_reducible apply Jp;with_reducible first|apply T4|apply Ny|apply Kw|apply tw|apply P7|apply LI|apply p9 (EZ ?_) BA ?_ ?_ ?_ ?_ ?_ ?_ ?_ ?_|apply SQ|apply Ir|apply sL|apply Mc|apply MG|apply Sn|apply Qi|apply Lq|apply p9 (Po ?_) Jk ?_ ?_ ?_ ?_ ?_ ?_ ?_ ?_|apply Ma|apply Ic|apply mH (uF ?_ ?_) vB|apply rV (AH ?_) zZ ?_ ?_ ?_ ?_ ?_ ?_ ?_ ?_|apply p9 (EZ ?_) NM ?_ ?_ ?_ ?_ ?_ ?_ ?_ ?_|apply QI|apply OF|apply NG|apply rV (AH ?_) L8 ?_ ?_ ?_ ?_ ?_ ?_ ?_ ?_|apply PQ pS rM pS rM ?_ ?_ ?_ ?_|apply MH|apply Nk|apply uS|apply QJ|apply Tz|apply MV|apply mH wQ uT|apply JZ|apply Ii|apply RB|apply Uz|apply mH (Qm ?_ ?_) ym|apply rV (Hf ?_) KL ?_ ?_ ?_ ?_ ?_ ?_ ?_ ?_|apply p9 RQ Lg ?_ ?_ ?_ ?_ ?_ ?_ ?_ ?_|apply Lc|apply Lj|apply Wd|apply Kh|apply Mv|apply K6|apply mH EG He|apply mH Hz CH|apply mH PH JE|apply rV J4 Ua ?_ ?_ ?_ ?_ ?_ ?_ ?_ ?_|apply Va|apply DF.d)
  | (with_reducible apply NH;with_reducible first|apply Vz|apply Sx)
  | ((with_reducible apply Ms);first|((with_reducible apply Nz);case hx=>exact rfl)|((with_reducible apply Wk);case hx=>exact rfl)|with_reducible first|apply Nq|apply vF|apply Lm|apply Vy|apply PF|apply QD|apply IW|apply Oc|apply Li|apply Wg|apply Jh|apply Ou|apply RS|apply Nw|apply Kd|apply Ph|apply TV|apply WH|apply Vk|apply QT|apply Uc|apply NC|apply OQ|apply L9)
  | (with_reducible apply tM;with_reducible first|apply IZ|apply Q1|apply V0|apply Jj|apply PB|apply Oo)
  | ((with_reducible apply Lb);first|(with_reducible apply DCW.cc;with_reducible first|apply cw_and|apply cw_or)|with_reducible first|apply HV|apply hG (uF ?_ ?_) vB|apply hG (uF ?_ ?_) UM|apply hG Su UY|apply hG EG He|apply hG wQ uT|apply hG Ik HZ|apply hG Hz CH|apply hG (wH ?_) k9|apply IA|apply Sd|apply hG (vw ?_) P9|apply hG wQ US|apply Ui|apply Ld|apply UW|apply hG (vw ?_) k9|apply hG (Mg ?_ ?_) ym|apply TU pS rM pS rM ?_ ?_ ?_ ?_|apply Ox)
  | (with_reducible apply Vg;with_reducible first|apply Ml|apply wY|apply V3|apply QA|apply NO|apply Q4|apply Il|apply IX|apply OL|apply QF|apply vd)
  | (with_reducible apply V5;with_reducible first|apply VS|apply QN|apply S4|apply Jt|apply O7|apply JM|apply IU|apply Se)
  |with_reducible first|apply Tn|apply OJ|apply vS|apply Pl|apply cw_or|apply Vj|apply cw_or1|apply RH|apply SR|apply IL|apply cw_and|apply cw_and1|apply Q3|apply NN|apply xx|apply V7|apply KC|apply Ja
  |assumption
  |with_reducible first|apply kC|apply nC
  | ((with_reducible apply Vl);first|apply Frs.nil|apply Frs.own|apply Frs.free)
  |exact nc _
  |exact λ_ _=>rfl
  |exact λ_=>rfl
  |exact zU (by assumption) ∅
  |exact PassesOwn.never
  |exact⟨rfl,rfl,rfl,rfl⟩
  |with_unfolding_all rfl
  |decide
  |decide +kernel
  |omega
  |exact Bo (Bo (Cc rfl))
  |exact Bo (Bo (Bo (Cc rfl)))
  |exact Bo (Bo (Bo (Bo rfl)))
  |intro(_:Aj) _ _
  |exact(0:Int)):gF P w K mg base k x i fa N b W:=h
theorem aL(k p)(x)(F:Fun K x x (cL i) fa fd/\mg x=ae (.ref fa))(body:bK S W N)(len:∀ws n Q,S ws n Q->ws.length=p:=by(intro _ _ _ h;(repeat obtain⟨_,h⟩:=h);subst_vars;rfl))(hp:(N.take p).length=p:=by rfl)(Sc:FnScope N (N.take p) (cE (cL i)):=by exact nP)(b:qE x (cL i) (N.take p):=by intro _ _ _ F;exact mP F)
  (h:gF P w K mg base k x i fa N (fC (cL i)) W:=by exact mX):Has P w K mg base (k+1) x (N.take p) S:=
 Has.mk' F.1 F.2 (b F.1) (Fun.okD F.1 Sc (λws n Q q=>by rw[hp];exact len ws n Q q) λm_ A a s H E e=>(h Sc.nd m_ A a s H E e).elim λT d=>⟨T,W,d,body⟩)
theorem tY{N:List Str}(k p)(x)(F:Fun K x x (cL i) fa fd/\mg x=ae (.ref fa))(body:∀ws n Q,S ws n Q->W (dj N ws) n {nx:=λ_ _=>False,rt:=λ_ _=>False,rn:=Q})(len:∀ws n Q,S ws n Q->ws.length=p:=by(intro _ _ _ h;(repeat obtain⟨_,h⟩:=h);subst_vars;rfl))(hp:(N.take p).length=p:=by rfl)(Sc:FnScope N (N.take p) (cE (cL i)):=by exact nP)(b:qE x (cL i) (N.take p):=by intro _ _ _ F;exact mP F)
  (h:gF P w K mg base k x i fa N (fC (cL i)) W:=by exact mX):HasN P w K mg base (k+1) x (N.take p) S:=
 HasN.mk' F.1 F.2 (b F.1) (Fun.okN F.1 Sc (λws n Q q=>by rw[hp];exact len ws n Q q) λm_ A a s H E e=>(h Sc.nd m_ A a s H E e).elim λT d=>⟨T,W,d,body⟩)
theorem Mi{N:List Str}(k)(x)(F:Fun K x x (cL i) fa fd/\mg x=ae (.ref fa))(len:∀ws n Q,S ws n Q->ws.length=p)(body:∀ws n Q,S ws n Q->W (dj N ws) n {nx:=λ_ _=>False,rt:=λw n=>w=.d .none/\Q af n,rx:=λkvs n=>Q (ae kvs) n})(hp:(N.take p).length=p:=by rfl)(Sc:FnScope N (N.take p) (cE (cL i)):=by exact nP)(b:qE x (cL i) (N.take p):=by intro _ _ _ F;exact mP F)
  (h:gF P w K mg base k x i fa N (fC (cL i)) W:=by exact mX):HasXO P w K mg base (k+1) x (N.take p) S:=
 HasXO.mk' F.1 F.2 (b F.1) (Fun.okXO F.1 Sc (λws n Q q=>by rw[hp];exact len ws n Q q) λm_ A a s H E e=>(h Sc.nd m_ A a s H E e).elim λT d=>⟨T,W,d,body⟩)
theorem um{S:Nat->bb}{W:bb->aE}(c0)(x)(F:Fun K x x (cL i) fa fd/\mg x=ae (.ref fa))(len:∀d ws n Q,S d ws n Q->ws.length=p)(z:∀ws n Q,¬S 0 ws n Q)(body:∀d ws n Q,S (d+1) ws n Q->W (S d) (dj N ws) n {nx:=λ_ n=>Q (.d .none) n,rt:=Q})(D)(hp:(N.take p).length=p:=by rfl)(Sc:FnScope N (N.take p) (cE (cL i)):=by exact nP)(b:qE x (cL i) (N.take p):=by intro _ _ _ F;exact mP F)
  (h:∀k d:Nat,c0<=k->Has P w K mg base k x (N.take p) (S d)->gF P w K mg base k x i fa N (fC (cL i)) (W (S d)):=by intro k d hk hS;exact mX):Has P w K mg base (c0+D) x (N.take p) (S D):=by
 induction D with
 |zero=>exact Has.mk' F.1 F.2 (b F.1) ⟨λvs H Q E h=>(by obtain⟨_,_,_,_,_,_,_,_,_,_,_,q,_⟩:=h;exact f_ q (z _ _ _)),λA a s H f o m Q E c l t r h=>(by obtain⟨_,_⟩:=h;simp_all)⟩
 |succ d j=>exact Has.mk' F.1 F.2 (b F.1) (Fun.okD F.1 Sc (λws n Q q=>by rw[hp];exact len _ ws n Q q) λm_ A a s H E c=>(h _ d (Nat.le_add_right _ _) j Sc.nd m_ A a s H E c).elim λT e=>⟨T,W _,e,body d⟩)
abbrev Zd:List Str:=["_law_script"]
theorem ud{rest:List Stmt}(k)(F:Fun K "law" "law" (cL i) fa fd)(hW:W (af::ae (.w .tp)::Df (N.length-2) af) 0 pN)(e:fC (cL i)=s0::s1::rest)(h0:N.Nodup->∀(m_:Ag) (A:Bn) (outer:List Env) (s:Aj) (H:Hp) (E:XK),Room k (A.deeper (Dr "law" (cE (cL i)) s.heap.objs.size fa m_))->PS (cS cV P w K mg base N "law" (cE (cL i)) fa m_ A outer s H E).nox s0 (bX (hU (uD K) [] E0 (cU (bM 0) bP)) (fc 1))/\PS (cS cV P w K mg base N "law" (cE (cL i)) fa m_ A outer s H E).nox s1 (bX DX (i7 (bM 1) (tC (.int 3)) qV)))(hN:∀v,start N [v]=ae v::af::Df (N.length-2) af:=by intro _;rfl)(Sc:FnScope N Zd (cE (cL i)):=by exact nP)
  (h:gF P w K mg base k "law" i fa N rest W:=by exact mX):FnOk P w K mg base cV (k+1) fa fd Zd (DL.spLaw K):=
 VT F Sc hN hW λm_ A outer s H E a=>(h Sc.nd m_ A outer s H E a).elim λT d=>⟨s0,s1,_,T,e,(h0 Sc.nd m_ A outer s H E a).1,(h0 Sc.nd m_ A outer s H E a).2,d⟩
end
end Nb
namespace Nb
open PySem L2
section
variable{P:A9}{w:Bj}{K:Af}{mg:Str->Option Ag}{base:Heap}
theorem QM:FnScope Zd Zd (cE yD):=⟨rfl,rfl,rfl,by decide +kernel,rfl,by decide +kernel,by decide +kernel⟩
theorem K9(F:Fun K "_law_tape" "_law_tape" yD f fd):FnOk P w K mg base cV 1 f fd Zd (uD K):=by
 refine F.ok QM (λvs H Q E h=>?_) (λm_ A d s H n Q E t h=>?_)
 ·obtain⟨a,m,rfl,_⟩:=h;rfl
 ·obtain⟨a,m,rfl,l,o,k⟩:=h;refine⟨_,mG (lQ (sj (cj (sT HI (pv 0) HF (HA cm)) (cj cm (cj cm (cj (sj (cj kr (cj kr (cj kr (cj cm (cj cm (cj cm (cj cm dG)))))))) dG)))))),?_⟩;refine⟨_,rfl,_,rfl,a,_,rfl,l,λp r=>⟨ku (by simp),λg e=>⟨ku (by simp),λq b=>?_⟩⟩⟩;rw[Pd (by rw[Ad];omega)]at e b ⊢;have j:g≠p:=λz=>by rw[z,br]at e;cases e
  have i:q≠g:=λz=>by rw[z,br]at b;cases b
  rw[aX i]at b;have c:q≠p:=λz=>by rw[z,br]at b;cases b
  exact k q p g _ br (by rw[aX c.symm,aX j.symm,br]) c
theorem scDraw:FnScope ["_law_tape_here","_law_many","_law_found","_law_spot","_law_cell","_law_mixed"] ["_law_tape_here","_law_many"] (cE FQ):=⟨rfl,rfl,rfl,by decide +kernel,rfl,by decide +kernel,by decide +kernel⟩
theorem S5{R:Prop}{G:Int->Prop}(use:(∀c,G c)->R)(fin:∀c,G c):R:=use fin
theorem O5{R G:Prop}(use:G->R)(fin:G):R:=use fin
theorem OT(F:Fun K "_law_draw" "_law_draw" FQ f fd)(zl:mg "len"=af):FnOk P w K mg base cV 1 f fd ["_law_tape_here","_law_many"] FD:=by
 refine F.ok scDraw (λvs H Q E h=>?_) (λm_ A N s H vs Q E hr h=>?_)
 ·obtain⟨t,l,D,n,m,rfl,_⟩:=h;rfl
 ·obtain⟨t,l,D,n,m,rfl,T,hn,d,G,k⟩:=h;obtain⟨a,b,B,R,ha1⟩:=T.ob;have x:=T.ne;have U:=T.ls;have p:=T.len;refine⟨_,gK (qK (ke op_gt (ie ix_list (pv 0) cm (λ_ _=>rfl)) cm (nc _))
    (gK (gx (i:=2) scDraw.nd rfl (Cc rfl) (d4 jS (ie ix_list (pv 0) cm (λ_ _=>rfl)) (pv 1)))
     (gK (kU (d4 BI (ie ix_list (pv 0) cm (λ_ _=>rfl)) (pv 1)) (oU (pv 0) cm m7))
     (mG (lQ (pv 2))))) qt)
   (gK (gx (i:=3) scDraw.nd rfl (Cc rfl) (ie ix_list (pv 0) cm (λ_ _=>rfl)))
   (gK (kU (d4 op_add (pv 3) cm) (oU (pv 0) cm m7))
   (gK (gx (i:=4) scDraw.nd rfl (Cc rfl) cm)
   (gK (qK (ke op_gt (j7 qB (by rfl) zl PySem.boot_len (cj (ie ix_list (pv 0) cm (λ_ _=>rfl)) dG)) cm (nc _))
    (mG (gx (i:=4) scDraw.nd rfl (Cc rfl) (ie ix_list (ie ix_list (pv 0) cm (λ_ _=>rfl))
     (d4 jS (pv 3) (j7 qB (by rfl) zl PySem.boot_len (cj (ie ix_list (pv 0) cm (λ_ _=>rfl)) dG))) (λ_ _=>rfl)))) qt)
   (gK (qK (PW.pt (yy (ke SK (pv 4) (d4 DJ cm cm) (nc _))
     (FH (ke op_lt (pv 3) (j7 qB (by rfl) zl PySem.boot_len (cj (ie ix_list (pv 0) cm (λ_ _=>rfl)) dG)) (nc _)))))
    (gK (kU (d4 BI (pv 4) (pv 1)) (oU (pv 0) cm m7)) (mG (lQ (d4 jS (pv 4) (pv 1))))) qt)
   (gK (gx (i:=5) scDraw.nd rfl (Cc rfl) (d4 jS (d4 mC (d4 op_add (d4 op_add (d4 jS (pv 4) cm) (d4 mC (d4 mC cm (pv 3)) (pv 3))) cm) cm) cm))
   (mG (lQ (d4 jS (d4 jS (d4 mC (d4 jS (d4 op_add (d4 mC (pv 5) cm) (d4 mC (pv 3) cm)) cm) cm) cm) (pv 1)))))))))),?_⟩
  refine⟨_,rfl,t,_,2,_,rfl,rfl,SqL.of B,eW (j:=2) rfl,_,_,rfl,rfl,_,rfl,?_⟩;refine jr (λ_=>?_) (λ_=>?_)
  ·-- found=tape[2] % m;tape[2]=tape[2] // m;return found
   refine⟨_,rfl,t,_,2,_,rfl,rfl,SqL.of B,eW (j:=2) rfl,_,rfl,_,_,rfl,rfl,d,?_⟩;refine⟨_,rfl,t,_,2,_,rfl,rfl,SqL.of B,eW (j:=2) rfl,_,rfl,_,_,rfl,rfl,⟨d,G⟩,?_⟩;refine⟨_,rfl,t,_,2,2,rfl,rfl,B,rfl,?_⟩;refine⟨_,rfl,?_⟩;refine k _ _ (Int.emod_nonneg _ ⋯) (G7 _ d) ⟨⟨a,b / m,br,R,by omega⟩,(aX x.symm)▸U,p,(λz=>by rw[aX T.gne];exact T.ag z),T.gne⟩ Kp.tape
  ·-- spot=tape[1];tape[1]=spot+1;cell=0
   refine⟨_,rfl,t,_,1,_,rfl,rfl,SqL.of B,eW (j:=1) rfl,?_⟩;refine⟨_,rfl,_,_,rfl,rfl,_,rfl,t,_,1,1,rfl,rfl,B,rfl,?_⟩;have Y:∀o,upd H t o t=ae o:=λo=>br;have S:∀o,upd H t o l.s=ae (.lst (D.map V.int)):=λo=>(aX x.symm)▸U;generalize q:upd H t (.lst (((.ref l.s::.int a::.int b::kI l:List V)).set 1 (.int (a+1))))=L;have y:L t=ae (.lst (.ref l.s::.int (a+1)::.int b::kI l)):=q▸br;have C:L l.s=ae (.lst (D.map V.int)):=q▸S _;have W:Kp t H L:=q▸Kp.tape;have X:nt=ah->L l.g=ae (.lst qW):=q▸(aX T.gne)▸T.ag;refine⟨_,rfl,t,_,0,_,rfl,rfl,SqL.of y,eW (j:=0) rfl,l.s,_,rfl,.inl (SqL.of C),_,_,rfl,rfl,_,rfl,?_⟩;apply S5
   case use=>
    intro fin;refine jr (λhp=>?_) (λ_=>?_)
    ·have u:(0:Int) < ((D.map V.int).length:Int):=d_ hp;obtain⟨v,Z,hm⟩:=M0 (xs:=D.map V.int) (r:=a % ((D.map V.int).length:Int)) (Int.emod_nonneg _ ⋯) (G7 _ u);obtain⟨c,_,rfl⟩:=A6.mp hm;refine⟨_,rfl,t,_,0,_,rfl,rfl,SqL.of y,eW (j:=0) rfl,_,rfl,_,rfl,t,_,0,_,rfl,rfl,SqL.of y,eW (j:=0) rfl,l.s,_,rfl,.inl (SqL.of C),_,_,rfl,rfl,u,l.s,_,_,.int c,rfl,rfl,SqL.of C,Z,?_⟩;exact fin c
    ·exact fin 0
   case fin=>
    intro c;refine⟨_,rfl,_,_,rfl,rfl,⟨by decide,by decide,by decide⟩,_,_,rfl,rfl,_,rfl,?_⟩;apply O5
    case use=>
     intro fin;refine jr (λ_=>?_) (λ_=>?_)
     ·refine⟨_,rfl,_,rfl,t,_,0,_,rfl,rfl,SqL.of y,eW (j:=0) rfl,l.s,_,rfl,.inl (SqL.of C),_,_,rfl,rfl,_,rfl,?_⟩;refine jr (λ_=>?_) (λ_=>fin);refine⟨_,rfl,_,rfl,_,_,rfl,rfl,⟨d,G⟩,_,rfl,t,_,2,2,rfl,rfl,y,rfl,_,rfl,_,rfl,_,_,rfl,rfl,d,?_⟩;exact k _ _ (Int.emod_nonneg _ ⋯) (G7 _ d) ⟨⟨a+1,_,br,by omega,by omega⟩,(aX x.symm)▸C,p,(λz=>by rw[aX T.gne];exact X z),T.gne⟩ (W.trans Kp.tape)
     ·exact sJ fin
    case fin=>
     refine⟨_,rfl,_,_,rfl,rfl,(by show(0:Int) < 999331;decide),_,rfl,_,_,rfl,rfl,.inl ⟨by decide,by decide⟩,_,rfl,_,_,rfl,rfl,.inl ⟨by omega,by omega⟩,_,_,rfl,rfl,_,_,rfl,rfl,_,_,rfl,rfl,.inr ⟨by decide,by decide⟩,_,_,rfl,rfl,(by show(0:Int) < 999961;decide),?_⟩;refine⟨_,rfl,_,_,rfl,rfl,.inr ⟨by decide,by decide⟩,_,rfl,_,_,rfl,rfl,.inr ⟨by decide,by decide⟩,_,_,rfl,rfl,_,_,rfl,rfl,(by show(0:Int) < 999953;decide),_,_,rfl,rfl,.inr ⟨by decide,by decide⟩,_,_,rfl,rfl,(by show(0:Int) < 524287;decide),_,rfl,_,_,rfl,rfl,d,?_⟩;exact k _ _ (Int.emod_nonneg _ ⋯) (G7 _ d) ⟨⟨a+1,b,y,by omega,by omega⟩,C,p,X,T.gne⟩ W
end
end Nb
namespace Nb
open PySem L2 DL
theorem zE(P):(zL.map λx=>PySem.W.nsIn (KK P) D6 x)=zL.map λ_=>ae af:=by kernel_rfl
section
variable{P:Params}{h:Heap}{mg:Str->Option Ag}(X:(KK P).In h)(G:h.Ns D6 mg)
include X G
theorem BK(j:Nat)(d:Ds)(e:dL[j]?=ae d):(Fun (KK P) d.x d.x (cL d.i) d.f (kH d)/\mg d.x=ae (.ref d.f))/\C1 (KK P) (.ref d.f)=ah:=by
 obtain⟨b,a⟩:=Prod.mk.inj (GU (S3 P) e);obtain⟨a,c⟩:=Prod.mk.inj a;have k:C1 (KK P) (.ref d.f)=ah:=by
  unfold C1;simp only[a]
 exact⟨⟨Pj a c k,F0 X G b⟩,k⟩
theorem zK(x)(h:x∈zL):mg x=af:=by
 obtain⟨j,e⟩:=B6.mp h;exact PySem.W.mg_none_of X G (GU (zE P) e)
end
abbrev pR:A9:=PySem.W.OpenLaw.prog PySem.Challenge.rw_noteboard_k43_closed_lists_judged
structure Cv where
 P:A9
 w:Bj
 K:Af
 mg:Str->Option Ag
 base:Heap
abbrev HH(c:Cv)(k:Nat)(x:Str)(ps:List Str)(S:bb):Prop:=Has c.P c.w c.K c.mg c.base k x ps S
abbrev fR(c:Cv):Prop:=HH c 1 "_law_draw" ["_law_tape_here","_law_many"] bQ
abbrev rl(c:Cv):Prop:=HH c 1 "is_whole" Zb (bx jg)
abbrev vt(c:Cv):Prop:=HH c 1 "is_letters" ["thing","longest"] lB
abbrev xB(c:Cv):Prop:=HH c 2 "is_word" Zb (bx (bR 8))
abbrev AW(c:Cv):Prop:=HH c 2 "is_number" Zb (bx iK)
abbrev vo(c:Cv):Prop:=HH c 3 "is_value" Zb (bx c7)
abbrev zF(c:Cv):Prop:=HH c 2 "is_name" Zb (bx (bR 4))
abbrev yb(c:Cv):Prop:=HH c 4 "is_row" Zb (bx dw)
abbrev FX(c:Cv):Prop:=HH c 2 "is_age" Zb (bx eH)
abbrev CQ(c:Cv):Prop:=HH c 5 "is_note" Zb (bx fe)
abbrev HR(c:Cv):Prop:=HH c 1 "field_fits" ["field","value","having","bound"] jn
abbrev sP(c:Cv):Prop:=HH c 2 "fits" ["pattern","row","names"] nX
abbrev DZ(c:Cv):Prop:=HH c 1 "binds" ["pattern"] nN
abbrev Hl(c:Cv):Prop:=HH c 1 "next_value" ["value"] wg
abbrev wI(c:Cv):Prop:=HH c 2 "field_value" ["field","having"] nk
abbrev HJ(c:Cv):Prop:=HH c 3 "filled" ["template","names"] qy
abbrev HN(c:Cv):Prop:=HH c 2 "known_at" ["program","block","place"] uy
abbrev HD(c:Cv):Prop:=HH c 4 "is_named_value" Zb (bx fX)
abbrev DV(c:Cv):Prop:=HH c 5 "is_names" Zb (bx gi)
abbrev CM(c:Cv):Prop:=HH c 1 "has_hands_form" Zb (bx mi)
abbrev z5(c:Cv):Prop:=HH c 2 "has_stand_form" Zb (bx iW)
abbrev xf(c:Cv):Prop:=HH c 2 "is_within" ["thing","most"] m3
abbrev zX(c:Cv):Prop:=HH c 3 "is_placed" ["program","hand"] si
abbrev GD(c:Cv):Prop:=HH c 6 "has_known_names" ["program","hand"] qF
abbrev BV(c:Cv):Prop:=HH c 7 "fault_of" ["programs","thing"] v9
abbrev tQ(c:Cv):Prop:=HH c 1 "next_act" ["programs","stand","hand"] nj
abbrev BC(c:Cv):Prop:=HH c 3 "gets" ["programs","stand","hand"] uN
abbrev vI(c:Cv):Prop:=HH c 1 "gone_on" ["place","names"] l7
abbrev sH(c:Cv):Prop:=HH c 1 "gone_to" ["program","block","names"] oG
abbrev uQ(c:Cv):Prop:=HH c 1 "with_hand" ["hands","hand","place"] jd
abbrev xH(c:Cv):Prop:=HH c 4 "got" ["programs","stand","hand","act"] oR
abbrev yI(c:Cv):Prop:=HH c 3 "is_same_value" ["act","names"] uu
abbrev AB(c:Cv):Prop:=HH c 5 "hand_moved" ["programs","stand","hand"] vR
abbrev zO(c:Cv):Prop:=HH c 1 "aged" ["note"] uq
abbrev zf(c:Cv):Prop:=HH c 2 "clock_moved" ["stand"] v5
abbrev EA(c:Cv):Prop:=HH c 6 "after" ["programs","stand","mover"] rY
abbrev xS(c:Cv):Prop:=HH c 8 "is_stands" ["programs","thing"] rq
abbrev BR(c:Cv):Prop:=HH c 7 "leads_within" ["programs","stand","stands"] vC
abbrev EC(c:Cv):Prop:=HH c 9 "lets_closed" ["programs","stand","thing"] p6
abbrev l9(c:Cv):Prop:=HH c 2 "_law_value" Zf iS
abbrev qP(c:Cv):Prop:=HH c 2 "_law_size" Zf lY
abbrev CW(c:Cv):Prop:=HH c 3 "_law_pattern" Ze vZ
abbrev yT(c:Cv):Prop:=HH c 3 "_law_template" Ze uh
abbrev yj(c:Cv):Prop:=HH c 3 "_law_term" Ze rG
abbrev FG(c:Cv):Prop:=HH c 4 "_law_act" ["_law_tape_here","_law_known_here","_law_open_ones"] pF
abbrev GN(c:Cv):Prop:=HH c 5 "_law_program" Zf wF
abbrev sE(c:Cv):Prop:=HH c 3 "_law_notes" ["_law_tape_here","_law_most"] mY
abbrev vK(c:Cv):Prop:=HH c 1 "_law_known" ["_law_program_here","_law_block","_law_place"] rh
abbrev vG(c:Cv):Prop:=HH c 4 "_law_stand" ["_law_tape_here","_law_programs","_law_most"] pC
abbrev FA(c:Cv):Prop:=HH c 6 "_law_setting" Zf vi
abbrev yJ(c:Cv):Prop:=HH c 1 "_law_fits" ["_law_pattern_here","_law_row","_law_names"] wq
abbrev DU(c:Cv):Prop:=HH c 1 "_law_filled" ["_law_template_here","_law_names"] t8
abbrev zD(c:Cv):Prop:=HH c 1 "_law_act_at" ["_law_programs","_law_hands","_law_hand"] t7
abbrev tU(c:Cv):Prop:=HH c 2 "_law_got" ["_law_act_here","_law_notes_here","_law_names"] px
abbrev ql(c:Cv):Prop:=HH c 3 "_law_movers" ["_law_programs","_law_stand_here"] g9
abbrev qY(c:Cv):Prop:=HH c 3 "_law_moved" ["_law_programs","_law_stand_here","_law_mover"] gR
abbrev qg(c:Cv):Prop:=HasXO c.P c.w c.K c.mg c.base 4 "_law_gone" ["_law_programs","_law_stand_here","_law_most"] (l8 g9 gR)
abbrev uw(c:Cv):Prop:=HH c 2 "_law_odd" Zf lr
abbrev xm(c:Cv):Prop:=HH c 23 "_law_bent" ["_law_tape_here","_law_thing_here"] (kQ 20)
abbrev vO(c:Cv):Prop:=HH c 1 "_law_is_text" ["_law_thing_here","_law_most"] sM
abbrev pA(c:Cv):Prop:=HH c 1 "_law_is_whole" ["_law_thing_here","_law_least","_law_most"] jE
abbrev rL(c:Cv):Prop:=HH c 2 "_law_is_row" ["_law_thing_here"] jx
abbrev wz(c:Cv):Prop:=HH c 3 "_law_is_hand" ["_law_program_here","_law_thing_here"] wO
abbrev t9(c:Cv):Prop:=HH c 4 "_law_are_hands" Zg rf
abbrev xr(c:Cv):Prop:=HH c 5 "_law_is_stand" Zg pW
abbrev t6(c:Cv):Prop:=HH c 6 "_law_closed" ["_law_programs","_law_stand_here","_law_thing_here"] qD
abbrev wM(c:Cv):Prop:=HasN c.P c.w c.K c.mg c.base 5 "_law_others" ["_law_tape_here","_law_programs","_law_most"] su
abbrev xg(c:Cv):Prop:=HH c 24 "_law_thing" ["_law_tape_here","_law_programs","_law_some"] w4
section
variable{c:Cv}(F:∀(j:Nat) (d:Ds),dL[j]?=ae d->(Fun c.K d.x d.x (cL d.i) d.f (kH d)/\c.mg d.x=ae (.ref d.f))/\C1 c.K (.ref d.f)=ah)(z:∀x∈zL,c.mg x=af)(u0:c.mg "GREATEST_AGE"=ae (.int 20 197))(u1:c.mg "GREATEST_NUMBER"=ae (.int 99 195))(u2:c.mg "LONGEST_NAME"=ae (.int 4 191))(u3:c.mg "LONGEST_ROW"=ae (.int 4 193))(u4:c.mg "LONGEST_WORD"=ae (.int 8 189))(u5:c.mg "GETTING"=ae (.ref 112))(u6:∀H,SqT c.K H 112 ((Za:List Str).map V.str))
include F z u0 u1 u2 u3 u4 u5 u6
theorem M7:fR c:=Has.mk' (F 39 _ rfl).1.1 (F 39 _ rfl).1.2 (mP (F 39 _ rfl).1.1) (N4 (OT (F 39 _ rfl).1.1 (zU z (by trivial))))
theorem To:rl c:=aL (i:=6) 0 1 "is_whole" (F 0 _ rfl).1 (len:=Uq) Pw
theorem WI:vt c:=aL (i:=7) 0 2 "is_letters" (F 1 _ rfl).1 (len:=Mf) O9
theorem K0(h0:vt c):xB c:=aL (i:=8) 1 1 "is_word" (F 2 _ rfl).1 (len:=Pc) Wo
theorem Tw(h0:rl c):AW c:=aL (i:=9) 1 1 "is_number" (F 3 _ rfl).1 (len:=MR) WE
theorem KQ(h0:AW c)(h1:xB c):vo c:=aL (i:=10) 2 1 "is_value" (F 4 _ rfl).1 (len:=SM) Lv
theorem Ln(h0:vt c):zF c:=aL (i:=11) 1 1 "is_name" (F 5 _ rfl).1 (len:=SF) Pq
theorem Ra(h0:vo c):yb c:=aL (i:=12) 3 1 "is_row" (F 6 _ rfl).1 (len:=JI) Vx
theorem LW(h0:rl c):FX c:=aL (i:=13) 1 1 "is_age" (F 7 _ rfl).1 (len:=RM) PM
theorem VE(h0:FX c)(h1:yb c):CQ c:=aL (i:=14) 4 1 "is_note" (F 8 _ rfl).1 (len:=Q5) I3
theorem Ro:HR c:=aL (i:=16) 0 4 "field_fits" (F 9 _ rfl).1 JR
theorem Pe(h0:HR c):sP c:=aL (i:=17) 1 3 "fits" (F 10 _ rfl).1 Jl
theorem Qb:DZ c:=aL (i:=18) 0 1 "binds" (F 11 _ rfl).1 Og
theorem Tx:Hl c:=aL (i:=19) 0 1 "next_value" (F 12 _ rfl).1 S6
theorem MJ(h0:Hl c):wI c:=aL (i:=20) 1 2 "field_value" (F 13 _ rfl).1 Ri
theorem VF(h0:wI c):HJ c:=aL (i:=21) 2 2 "filled" (F 14 _ rfl).1 Rt
theorem PK(h0:DZ c):HN c:=aL (i:=24) 1 3 "known_at" (F 15 _ rfl).1 UI
theorem OB(h0:zF c)(h1:vo c):HD c:=aL (i:=26) 3 1 "is_named_value" (F 16 _ rfl).1 (len:=TY) P5
theorem LC(h0:HD c):DV c:=aL (i:=27) 4 1 "is_names" (F 17 _ rfl).1 (len:=J6) Pp
theorem VV:CM c:=aL (i:=28) 0 1 "has_hands_form" (F 18 _ rfl).1 (len:=Vb) Lp
theorem SS(h0:CM c):z5 c:=aL (i:=29) 1 1 "has_stand_form" (F 19 _ rfl).1 (len:=Pa) RX
theorem Qz(h0:rl c):xf c:=aL (i:=30) 1 2 "is_within" (F 20 _ rfl).1 KH
theorem OS(h0:xf c):zX c:=aL (i:=31) 2 2 "is_placed" (F 21 _ rfl).1 Sj
theorem Qp(h0:DV c)(h1:HN c):GD c:=aL (i:=32) 5 2 "has_known_names" (F 22 _ rfl).1 PN
theorem Tr(h0:GD c)(h1:z5 c)(h2:CQ c)(h3:zX c):BV c:=aL 6 2 "fault_of" (F 23 _ rfl).1 OM
theorem Qx:tQ c:=aL (i:=35) 0 3 "next_act" (F 24 _ rfl).1 M4
theorem JO(h0:sP c)(h1:tQ c):BC c:=aL (i:=36) 2 3 "gets" (F 25 _ rfl).1 Qf
theorem Kq:vI c:=aL (i:=37) 0 2 "gone_on" (F 26 _ rfl).1 L4
theorem P8:sH c:=aL (i:=38) 0 3 "gone_to" (F 27 _ rfl).1 Jg
theorem Vf:uQ c:=aL (i:=39) 0 3 "with_hand" (F 28 _ rfl).1 UK
theorem PY(h0:sP c)(h1:BC c)(h2:vI c)(h3:sH c)(h4:uQ c):xH c:=aL 3 4 "got" (F 29 _ rfl).1 UA
theorem Wr(h0:wI c):yI c:=aL (i:=41) 2 2 "is_same_value" (F 30 _ rfl).1 Vd
theorem O6(h0:HJ c)(h1:vI c)(h2:sH c)(h3:xH c)(h4:yI c)(h5:tQ c)(h6:uQ c):AB c:=aL 4 3 "hand_moved" (F 31 _ rfl).1 Nu
theorem QB:zO c:=aL (i:=43) 0 1 "aged" (F 32 _ rfl).1 Rp
theorem K7(h0:zO c):zf c:=aL (i:=44) 1 1 "clock_moved" (F 33 _ rfl).1 RW
theorem N1(h0:zf c)(h1:AB c)(h2:xf c):EA c:=aL (i:=45) 5 3 "after" (F 34 _ rfl).1 UC
theorem KG(h0:BV c):xS c:=aL (i:=47) 7 2 "is_stands" (F 35 _ rfl).1 Kx
theorem Tj(h0:EA c):BR c:=aL (i:=48) 6 3 "leads_within" (F 36 _ rfl).1 Ru
theorem Od(h0:xS c)(h1:BR c):EC c:=aL (i:=49) 8 3 "lets_closed" (F 37 _ rfl).1 L6
theorem VP(h0:fR c):l9 c:=aL (i:=53) 1 1 "_law_value" (F 40 _ rfl).1 Nc
theorem RY(h0:fR c):qP c:=aL (i:=54) 1 1 "_law_size" (F 41 _ rfl).1 Pr
theorem Qe(h0:fR c)(h1:qP c)(h2:l9 c):CW c:=aL 2 2 "_law_pattern" (F 42 _ rfl).1 JX
theorem Mz(h0:fR c)(h1:qP c)(h2:l9 c):yT c:=aL (i:=56) 2 2 "_law_template" (F 43 _ rfl).1 Oq
theorem UP(h0:fR c)(h1:l9 c):yj c:=aL (i:=57) 2 2 "_law_term" (F 44 _ rfl).1 SW
theorem N8(h0:fR c)(h1:CW c)(h2:yT c)(h3:yj c):FG c:=aL 3 3 "_law_act" (F 45 _ rfl).1 Ka
theorem JB(h0:FG c)(h1:fR c):GN c:=aL 4 1 "_law_program" (F 46 _ rfl).1 Td
theorem IT(h0:fR c)(h1:qP c)(h2:l9 c):sE c:=aL (i:=60) 2 2 "_law_notes" (F 47 _ rfl).1 Qk
theorem Tc:vK c:=aL (i:=61) 0 3 "_law_known" (F 48 _ rfl).1 Rb
theorem JJ(h0:fR c)(h1:vK c)(h2:sE c)(h3:l9 c):vG c:=aL 3 3 "_law_stand" (F 49 _ rfl).1 Vq
theorem Rx(h0:fR c)(h1:sE c)(h2:GN c)(h3:vG c):FA c:=aL 5 1 "_law_setting" (F 50 _ rfl).1 T8
theorem Vi:yJ c:=aL 0 3 "_law_fits" (F 51 _ rfl).1 MF
theorem Ql:DU c:=aL (i:=65) 0 2 "_law_filled" (F 52 _ rfl).1 Mt
theorem Qv:zD c:=aL (i:=66) 0 3 "_law_act_at" (F 53 _ rfl).1 Ie
theorem Wx(h0:yJ c):tU c:=aL (i:=67) 1 3 "_law_got" (F 54 _ rfl).1 Iw
theorem V9(h0:zD c)(h1:tU c):ql c:=aL (i:=68) 2 2 "_law_movers" (F 55 _ rfl).1 N0
theorem JT(h0:DU c)(h1:tU c):qY c:=aL 2 3 "_law_moved" (F 56 _ rfl).1 VA
theorem LS(h0:qY c)(h1:ql c):qg c:=Mi (i:=70) 3 "_law_gone" (F 57 _ rfl).1 UE PL
theorem QU(h0:fR c):uw c:=aL (i:=71) 1 1 "_law_odd" (F 58 _ rfl).1 U1
theorem M1(h0:fR c)(h1:uw c):xm c:=um 3 "_law_bent" (F 59 _ rfl).1 Tv (λ_ _ _ h=>h) Vo 20
theorem Uh:vO c:=aL (i:=73) 0 2 "_law_is_text" (F 60 _ rfl).1 JL
theorem Oj:pA c:=aL (i:=74) 0 3 "_law_is_whole" (F 61 _ rfl).1 WG
theorem Ss(h0:vO c)(h1:pA c):rL c:=aL (i:=75) 1 1 "_law_is_row" (F 62 _ rfl).1 (len:=L0) S1
theorem We(h0:rL c)(h1:pA c)(h2:vK c):wz c:=aL 2 2 "_law_is_hand" (F 63 _ rfl).1 LZ
theorem T6(h0:wz c):t9 c:=aL (i:=77) 3 2 "_law_are_hands" (F 64 _ rfl).1 Wb
theorem OH(h0:t9 c)(h1:rL c)(h2:pA c):xr c:=aL (i:=78) 4 2 "_law_is_stand" (F 65 _ rfl).1 Ip
theorem Nf(h0:xr c)(h1:qY c)(h2:ql c):t6 c:=aL (i:=79) 5 3 "_law_closed" (F 66 _ rfl).1 (len:=JH) Si
theorem OZ(h0:fR c)(h1:qg c)(h2:vG c):wM c:=tY (i:=80) 4 3 "_law_others" (F 67 _ rfl).1 J8
theorem Iq(h0:xm c)(h1:fR c)(h2:wM c):xg c:=aL 23 3 "_law_thing" (F 68 _ rfl).1 Ji
theorem UO(h0:t6 c)(h1:fR c)(h2:qg c)(h3:FA c)(h4:xg c)(h5:EC c):FnOk c.P c.w c.K c.mg c.base cV 25 (Ds.f ⟨82,"law",792,469,1,449,ah,806,6⟩) (kH ⟨82,"law",792,469,1,449,ah,806,6⟩) Zd (DL.spLaw c.K):=by
 have d:=mP (ps:=Zd) (F 38 _ rfl).1.1;have e:=K9 (P:=c.P) (w:=c.w) (mg:=c.mg) (base:=c.base) (F 38 _ rfl).1.1;exact ud (N:=["_law_script","_law_tape_here","_law_programs","_law_stand_here","_law_due","_law_some","_law_k","_law_thing_here","_law_first","_law_handed","_law_told"]) 24 (F 69 _ rfl).1.1 Nj rfl λnd g A a s H E b=>⟨gx nd rfl (Cc rfl) (pX e (b.mono ∎) rfl (F 38 _ rfl).1.2 (F 38 _ rfl).2 d .nil pV (cj (pv 0) dG)),kU (sj (cj kr (cj kr (cj kr (cj cm (cj cm dG)))))) (oU (pv 1) cm m7)⟩
end
theorem Rr(c:Cv)(F:∀(j:Nat) (d:Ds),dL[j]?=ae d->(Fun c.K d.x d.x (cL d.i) d.f (kH d)/\c.mg d.x=ae (.ref d.f))/\C1 c.K (.ref d.f)=ah)(z:∀x∈zL,c.mg x=af)(u0:c.mg "GREATEST_AGE"=ae (.int 20 197))(u1:c.mg "GREATEST_NUMBER"=ae (.int 99 195))(u2:c.mg "LONGEST_NAME"=ae (.int 4 191))(u3:c.mg "LONGEST_ROW"=ae (.int 4 193))(u4:c.mg "LONGEST_WORD"=ae (.int 8 189))(u5:c.mg "GETTING"=ae (.ref 112))(u6:∀H,SqT c.K H 112 ((Za:List Str).map V.str)):FnOk c.P c.w c.K c.mg c.base cV 25 (Ds.f ⟨82,"law",792,469,1,449,ah,806,6⟩) (kH ⟨82,"law",792,469,1,449,ah,806,6⟩) Zd (DL.spLaw c.K):=by
 have a__law_draw:=by apply M7<;>with_reducible assumption
 have a_is_whole:=by apply To<;>with_reducible assumption
 have a_is_letters:=by apply WI<;>with_reducible assumption
 have a_is_word:=by apply K0<;>with_reducible assumption
 have a_is_number:=by apply Tw<;>with_reducible assumption
 have a_is_value:=by apply KQ<;>with_reducible assumption
 have a_is_name:=by apply Ln<;>with_reducible assumption
 have a_is_row:=by apply Ra<;>with_reducible assumption
 have a_is_age:=by apply LW<;>with_reducible assumption
 have a_is_note:=by apply VE<;>with_reducible assumption
 have T:=by apply Ro<;>with_reducible assumption
 have a_fits:=by apply Pe<;>with_reducible assumption
 have a_binds:=by apply Qb<;>with_reducible assumption
 have a_next_value:=by apply Tx<;>with_reducible assumption
 have O:=by apply MJ<;>with_reducible assumption
 have a_filled:=by apply VF<;>with_reducible assumption
 have a_known_at:=by apply PK<;>with_reducible assumption
 have h:=by apply OB<;>with_reducible assumption
 have a_is_names:=by apply LC<;>with_reducible assumption
 have e:=by apply VV<;>with_reducible assumption
 have b:=by apply SS<;>with_reducible assumption
 have a_is_within:=by apply Qz<;>with_reducible assumption
 have a_is_placed:=by apply OS<;>with_reducible assumption
 have a:=by apply Qp<;>with_reducible assumption
 have a_fault_of:=by apply Tr<;>with_reducible assumption
 have a_next_act:=by apply Qx<;>with_reducible assumption
 have a_gets:=by apply JO<;>with_reducible assumption
 have a_gone_on:=by apply Kq<;>with_reducible assumption
 have a_gone_to:=by apply P8<;>with_reducible assumption
 have a_with_hand:=by apply Vf<;>with_reducible assumption
 have a_got:=by apply PY<;>with_reducible assumption
 have m:=by apply Wr<;>with_reducible assumption
 have a_hand_moved:=by apply O6<;>with_reducible assumption
 have a_aged:=by apply QB<;>with_reducible assumption
 have J:=by apply K7<;>with_reducible assumption
 have a_after:=by apply N1<;>with_reducible assumption
 have a_is_stands:=by apply KG<;>with_reducible assumption
 have u:=by apply Tj<;>with_reducible assumption
 have R:=by apply Od<;>with_reducible assumption
 have a__law_value:=by apply VP<;>with_reducible assumption
 have a__law_size:=by apply RY<;>with_reducible assumption
 have y:=by apply Qe<;>with_reducible assumption
 have q:=by apply Mz<;>with_reducible assumption
 have a__law_term:=by apply UP<;>with_reducible assumption
 have a__law_act:=by apply N8<;>with_reducible assumption
 have t:=by apply JB<;>with_reducible assumption
 have Z:=by apply IT<;>with_reducible assumption
 have Y:=by apply Tc<;>with_reducible assumption
 have a__law_stand:=by apply JJ<;>with_reducible assumption
 have s:=by apply Rx<;>with_reducible assumption
 have a__law_fits:=by apply Vi<;>with_reducible assumption
 have L:=by apply Ql<;>with_reducible assumption
 have G:=by apply Qv<;>with_reducible assumption
 have a__law_got:=by apply Wx<;>with_reducible assumption
 have E:ql c:=by apply V9<;>with_reducible assumption
 have a__law_moved:qY c:=by apply JT<;>with_reducible assumption
 have a__law_gone:qg c:=by apply LS<;>with_reducible assumption
 have a__law_odd:uw c:=by apply QU<;>with_reducible assumption
 have a__law_bent:xm c:=by apply M1<;>with_reducible assumption
 have v:vO c:=by apply Uh<;>with_reducible assumption
 have l:pA c:=by apply Oj<;>with_reducible assumption
 have M:rL c:=by apply Ss<;>with_reducible assumption
 have B:wz c:=by apply We<;>with_reducible assumption
 have k:t9 c:=by apply T6<;>with_reducible assumption
 have o:xr c:=by apply OH<;>with_reducible assumption
 have I:t6 c:=by apply Nf<;>with_reducible assumption
 have N:wM c:=by apply OZ<;>with_reducible assumption
 have U:xg c:=by apply Iq<;>with_reducible assumption
 apply UO<;>with_reducible assumption
theorem all_K(w:Bj)(mg)(fa)(h:Heap)(X:(KK w.params).In h)(G:h.Ns D6 mg)(hfa:mg "law"=ae (.ref fa)):
  ∃fd:Ck,(∀(s:Aj)(u:Ag),BindsTo s fd ⟨[u],[]⟩ [("_law_script",u)])/\∀base:Heap,(KK w.params).In base->base.Ns D6 mg->FnOk pR w (KK w.params) mg base cV 25 fa fd Zd (DL.spLaw (KK w.params)):=by
 have e:=hfa.symm.trans (BK X G 69 ⟨82,"law",792,469,1,449,ah,806,6⟩ rfl).1.2;cases e;exact⟨kH ⟨82,"law",792,469,1,449,ah,806,6⟩,λs v=>.of_eq rfl,λbase _ _=>Rr ⟨pR,w,KK w.params,mg,base⟩ (λj d e=>BK X G j d e) (zK X G) (F0 X G (by kernel_rfl)) (F0 X G (by kernel_rfl)) (F0 X G (by kernel_rfl)) (F0 X G (by kernel_rfl)) (F0 X G (by kernel_rfl)) (F0 X G (by kernel_rfl)) (λH=>.inr ⟨_,_,_,(show(KK w.params).lookup 112=ae (oT "tuple" (.seq #[(.str "take" 316),(.str "read" 317),(.str "look" 318)] 0)) by kernel_rfl),rfl,rfl,show 3<=As by decide,(.cons ⟨_,rfl⟩ (.cons ⟨_,rfl⟩ (.cons ⟨_,rfl⟩ .nil)))⟩)⟩
theorem walk{l:PySem.W.OpenLaw}{XP:(Str->Option Ag)->Heap->Prop}{K:Params->Af}(hn:l.most=ae 63)(hdf:d.params.defaults=[])
  (hY:∀(w:Bj)(h:Heap),YP w h->(K w.params).In h)
  (F:∀(w:Bj)(mg:Str->Option Ag)(fa:A_)(h:Heap),(K w.params).In h->h.Ns D6 mg->mg d.name=ae (.ref fa)->
   ∃fd:Ck,(∀(s:Aj)(u:Ag),BindsTo s fd ⟨[u],[]⟩ [("_law_script",u)])/\∀base:Heap,(K w.params).In base->base.Ns D6 mg->FnOk l.prog w (K w.params) mg base cV 25 fa fd Zd (DL.spLaw (K w.params))):
  PySem.W.WalkO q loose XP YP l.row.toRowW d [] (λf vs=>PySem.call f vs):=
 L2.walk_of hn ∎ hdf ⟨rfl,by decide,by decide,rfl⟩ hY F (λ_ _ a e c _ b=>⟨a,e,rfl,b,c,λ_=>rfl⟩) λ_ _ _ _ _ z=>z
end Nb
open PySem PySem.W PyProof.Rows
set_option maxRecDepth 100000 in
set_option maxHeartbeats 0 in
theorem PySem.Challenge.cw_noteboard_k43_closed_lists_judged_holds : PySem.Challenge.rw_noteboard_k43_closed_lists_judged.Holds := by
 refine holds_law Nb.said_ λsaid=>?_;refine holds_open (q:=Nb.qq) (loose:=Nb.lO) (Xt:=Nb.xT) (XP:=XL Nb.qq []) (Yf:=Hook.obs Nb.hK) (Ya:=Hook.val Nb.hK) (YP:=Hook.says Nb.hK) (d:=Nb.dW) (kwd:=[]) (N:=6000) Nb.left_ (Hook.of Nb.hK) (Hook.keeps Nb.hK) (λs e=>xl_of s (Bool.and_eq_true_iff.mp e).1) XL.keeps (by kernel_rfl) (by kernel_rfl) (by kernel_rfl) (λs e=>recFacts_of (Bool.and_eq_true_iff.mp e).2) (by kernel_rfl) said (by decide +kernel) ⟨rfl,rfl,rfl,rfl,rfl,by decide +kernel⟩ ?hw ?hc
 (case hw=>w_witness2)
 exact Nb.walk (l:=PySem.Challenge.rw_noteboard_k43_closed_lists_judged) (by kernel_rfl) (by kernel_rfl) (λw h Y=>kIn_of Y) Nb.all_K
