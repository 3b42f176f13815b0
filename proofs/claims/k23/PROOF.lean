import PyProof.Rows.All
import Wide.All
import OpenK.AllK
import Wide.FinOn
import Lean
import PyProof.EqAt
import PyProof.EqKinds
import PyProof.TupleCall
import PyProof.AttrMissHeap
import PyProof.Rows.RegFStrParts
import PySem.Challenge.RW_noteboard_k23_movers_that_are_none
set_option Elab.async false
set_option linter.all false
set_option maxRecDepth 100000
open PySem renaming wpAny_bind -> Aa, PyData -> Ab, Value -> Af, Shared -> Ai, wpAny_pure -> Aj, starEach -> As, sizeLine -> Ay, wpAny -> A2, model -> A6, Program -> A7, World -> Bk, Around -> Bu, wpAny_newObj_type -> Bx, bootBuiltins -> By, wpAny_callSpecial?_slot -> Bz, compareOp -> B3, wpAny_mono -> B4, FuncData -> B9, wpAny_call_entry -> Cb, wpAny_holding -> Ce, behindInMarks -> Cf, rawInt -> Cs, backTo -> Ct, swapsWith -> Da, codeAny_builtin -> Dd, wpAny_field -> Df, wpAny_setField -> Dn, mainGlobals -> Dt, wpAny_pyIter_tuple -> Dx, wpAny_seqItems -> Dz, foldedSetIterable -> D4, strKind -> D5, Builtin -> D7, assignEach -> D8, wpAny_setEntries_of -> Eb, wpAny_attempt -> Eg, sizeLine_eq -> Eh, wpAny_truthy_bool -> Ep, wpAny_loadPart_at -> Er, excClassObj -> Et, binaryOp -> Eu, pyNext -> E2, plainId_quiet -> E3, Scope -> E5, firstArgMember -> E9, SetTable -> Fb, wpAny_of_eq -> Fg, wpAny_typeOf -> Fi, sysModules -> Fj, wpAny_ite_false -> Fp, wpAny_setState_of -> Ft, mem_of_lookup -> Fw, isSubtype_type -> F2, IsPair -> F4, codeAny_mono -> F6, codeAny -> F7, wpAny_standAt -> Gh, attributeBase -> Gi, wpAny_setField_rec -> Gm, wpAny_Call_Name_kw -> Gn, Params -> Gp, cLine -> Gr, wpAny_fieldsOf -> Gx, wpAny_rule -> G5, wpAny_isInstance -> G6, wpAny_call -> G7, entryFor_of_tree -> G8, sliceBounds -> Ha, codeAny_call_builtin -> Hb, wpAny_passesOwn -> He, wpAny_isSubtype_exc -> Hh, tupleKind_room_in1 -> Hj
open List renaming length_map -> Ad, length_append -> Ak, getElem?_eq_getElem -> Al, set -> An, length_singleton -> Ap, length_cons -> Ar, mem_cons -> Au, getElem?_eq_some_iff -> Av, mem_cons_of_mem -> Aw, getElem?_map -> Ax, mem_cons_self -> A0, not_mem_nil -> A1, size_toArray -> A4, mem_of_getElem? -> A8, mem_append -> Ba, map_append -> Be, mem_append_right -> Bf, mem_singleton -> Bg, range -> Bi, append_assoc -> Bj, replicate -> Bn, mem_map -> Bo, find?_cons -> Bp, map_cons -> Bs, append_nil -> Bv, getElem?_set_ne -> Bw, mem_iff_getElem? -> B6, nil_append -> B8, length_set -> Cg, mem_range -> Ci, getElem?_append_right -> Cj, mem_filter -> Cp, length_range -> Cr, length_drop -> Cy, getElem_mem -> Cz, getElem?_append_left -> C2, map_congr_left -> C4, any_cons -> C6, toArray -> C8, length_take -> Dc, map_map -> Dg, nodup_cons -> Dl, drop_eq_getElem_cons -> Dp, mem_append_left -> Dw, replicate_succ -> D3, getElem?_set_self -> D6, any_eq_true -> Ea, map_eq_cons_iff -> Ej, getElem?_replicate -> Ew, filter_cons -> Ex, ext_getElem -> Ey, all_eq_true -> Ez, not_lt -> E7, set_cons_zero -> E8, of_mem_zip -> Fc, flatten_cons -> Fl, mem_of_mem_take -> Fq, getElem_inj -> Fu, map_eq_nil_iff -> F1, zip_cons_cons -> F9, mem_filterMap -> Ga, getElem?_set_self' -> Gd, findIdx?_eq_some_iff_getElem -> Gf, drop_zero -> Gj, length_filter_le -> Gu, getElem?_eq_none -> Gv, take_append_of_le_length -> G0, length_take_le' -> G1, eq_nil_of_length_eq_zero -> G2, flatMap_append -> G9, pairwise_singleton -> Hk
open PySem.Heap renaming get?_push_of_some -> Ae, lt_size -> Aq, get?_push_size -> Az, get?_update_self -> Bt, size_push -> Ca, SameBut -> C9, get?_update_other -> Dh, get?_none_of_le -> G3
open Bool renaming false_ne_true -> Ag, false_eq_true -> Cu, and_eq_true -> Du, eq_iff_iff -> G4
open PySem.W renaming Frag -> Ah, keepIn -> B5, findIn -> Co, kia_one -> C5, fnOf -> D0, mg_of -> D1, kas_rev -> Es, kitOne -> Fk, hideAll -> F0, codeIn -> Gb
open And renaming intro -> Am
open Nat renaming le_refl -> Ao, ne_of_lt -> A5, le_trans -> A9, lt_of_lt_of_le -> Bd, zero_le -> Br, lt_succ_of_lt -> Dk, le_succ -> Dm, ne_of_gt -> D9, zero_add -> Ek, lt_irrefl -> Fh, lt_succ_self -> Fy, le_of_lt -> Gq
open PySem.Value renaming ref -> A3, none -> Bh, type -> Ec, str -> F8, builtin -> Gw
open PyProof.Rows.KTD renaming datumAt -> Bb
open Option.some renaming inj -> Bc
open PySem.Heap.SameBut renaming update -> Bm
open Int renaming toNat_natCast -> Bq, eq_ofNat_of_zero_le -> Gg, natCast_nonneg -> Hf, emod_lt_of_pos -> Hg
open PySem.Obj renaming data_mapFields -> B7, mapSeq -> Cw, isFreed_of_fields -> Dq, putSet -> Eo, cls_mapFields -> Fn
open Or renaming inr -> Cc, inl -> C7
open PySem.Around renaming under_plainId -> Ck
open Array renaming getElem?_eq_getElem -> Cm, length_toList -> C3
open PyProof.Rows renaming seqObj -> Cn, envOfC -> Dv, slot_tuple_getitem -> Ef, callWith_type1 -> E4
open PySem.Builtin.SmallTypes renaming nextOf -> Cq, ownedTupleIsFree -> Dr, ownedTupleHandOut -> Hd
open Exists renaming intro -> De
open Sum renaming inr -> Di
open PySem.Str renaming ofString -> Dj
open PySem.PyData renaming str -> Dy, int -> E6, intsShort -> Gs, showable -> Gz
open Option renaming isSome_iff_exists -> Ei, map_some -> F3, isSome_map -> Ge, bind_eq_some_iff -> Hi
open True renaming intro -> El
open PySem.SetTable renaming grown -> Em, below -> En
open PySem.Builtin.Slice renaming slicePlaces -> Ff, sliceAdjust -> Gy
open PySem.Builtin.Tuple renaming tupleExact -> Fm
open PySem.Builtin.List renaming listTooLong -> Fo, listExtendWith -> Gt
open PySem.Builtin.Range renaming rangeSize -> Fs
open PySem.AutoSeq1 renaming wpAny_loadPart' -> Fv
open PySem.F renaming args_tuple_add_2 -> Fx, slot_tuple_iterator_next -> Fz, entry_tuple_add -> F5, slot_tuple_add -> Gc
open List.cons renaming inj -> Gk
open Option renaming some -> ae, none -> ah
open Bool renaming true -> ai, false -> aj
noncomputable section
local macro_rules|`(tactic|omega)=>`(tactic|lia)
local macro_rules|`(⋯)=>`(by omega)
local macro_rules|`(∅)=>`(by decide +kernel)
local macro_rules|`(∎)=>`(by decide)
set_option maxHeartbeats 4000000
namespace L2
open PySem PySem.Spec PyProof.Rows
def kc(s:Stmt):Arguments:=match s with
 |.FunctionDef _ a _ _ _ _ _ _ _ _=>a
 |_=>{ posonlyargs:=[],args:=[],vararg:=ah,kwonlyargs:=[],kw_defaults:=[],kwarg:=ah,defaults:=[]}
def fF(s:Stmt):List Stmt:=match s with
 |.FunctionDef _ _ b _ _ _ _ _ _ _=>b
 |_=>[]
def cD(s:Stmt):E5:=match s with
 |.FunctionDef _ _ _ _ _ _ sc _ _ _=>sc
 |_=>{ kind:=.function,names:=[],isGenerator:=aj,isCoroutine:=aj}
end L2
namespace Nb
open PySem L2
def cY(i:Nat):Stmt:=PySem.Challenge.pw_noteboard_k23_movers_that_are_none.main.body.getD i (.Pass ⟨0,0,0,0⟩)
abbrev KJ:Stmt:=cY 45
abbrev Rh:Stmt:=cY 46
abbrev pO:Stmt:=cY 72
abbrev AG:Stmt:=KJ
abbrev HU:Stmt:=Rh
abbrev oT(t:String)(d:Data):Obj:=⟨.type t,ah,d,#[]⟩
structure Ds where
 i:Nat
 x:Str
 t:Nat
 l:Nat
 n:Nat
 r:Nat
 b:Bool
 v:Nat
 m:Nat
abbrev Ds.c(d:Ds):Nat:=if d.b then d.r+5 else d.r+3
abbrev Ds.f(d:Ds):Nat:=if d.b then d.r+6 else d.r+4
abbrev PX(m:Nat):Af:=[(.str "noteboard.values" 291),(.str "noteboard.patterns" 302),(.str "noteboard.stands" 354),(.str "noteboard.moving" 370),(.str "noteboard.weaving" 490),(.str "noteboard.logs" 503),(.str "law_noteboard_k23_movers_that_are_none" 588)].getD m .none
abbrev lq(d:Ds):B9:=D0 d.x d.x (kc (cY d.i)) (fF (cY d.i)) (cD (cY d.i)) .none .none .none (PX d.m) ah (.ref d.c) .none
abbrev oF(d:Ds):Obj:=oT "function" (.func (lq d))
abbrev oC(d:Ds):Obj:=oT "code" (.fields #[.str d.x d.t,.str d.x (d.t+1),.str "/claim/cut.py" (d.t+2),.int d.l 0,.int d.n 0,.int 0 0,.int 0 0,.int 3 0,.ref d.r,.bool ai,.int 181 0,.ref (d.r+1),.none,if d.b then .ref (d.r+2)else .none,if d.b then .ref (d.r+3)else .none,.ref (if d.b then d.r+4 else d.r+2),.int d.v 0,.int d.l 0,.str "/claim/cut.py" (d.v+1)])
abbrev oE:List Af:=[.type "ValueError",.type "Exception",.type "BaseException",.type "object"]
abbrev oX(x:Str)(C N:Addr)(bs bm sub:List Af)(k a b:Nat):Obj:=Et x x C N bs bm ai [] sub aj ah ah (ae (.ref k)) ah (ae (.str x a)) (ae (.str x b)) (ae (.bool ai)) "ValueError.__new__"
def QY(s:Stmt):Stmt:=match s with
 |.ClassDef _ _ _ (b::_) _ _ _ _ _ _ _=>b
 |s=>s
abbrev uT:Stmt:=QY (cY 3)
abbrev yB:B9:=D0 "__init__" "NotReady.__init__" (kc uT) (fF uT) (cD uT) .none .none .none (.str "noteboard.errors" 187) ah (.ref 59) .none
abbrev eN(P:Gp)(x:Str)(t:Nat)(v:Af):DictEntry:=⟨PyData.keyHash P x,.str x t,v⟩
abbrev en(P:Gp)(d:Ds):DictEntry:=eN P d.x (d.v+2) (.ref d.f)
def dL:List Ds:=[⟨8,"is_whole",295,21,1,90,ai,299,0⟩,⟨10,"field_fits",304,24,4,97,ai,312,1⟩,⟨11,"fits",315,37,3,104,ai,325,1⟩,⟨12,"next_value",328,49,1,111,ai,332,1⟩,⟨13,"field_value",335,53,2,118,ai,341,1⟩,⟨14,"filled",344,58,2,125,aj,347,1⟩,⟨17,"first_stand",356,63,1,131,aj,359,2⟩,⟨18,"is_within",362,65,2,136,ai,367,2⟩,⟨20,"next_act",372,68,3,143,ai,381,3⟩,⟨21,"gets",384,73,3,150,ai,395,3⟩,⟨22,"gone_on",398,85,2,157,ai,403,3⟩,⟨23,"gone_to",406,87,3,164,aj,409,3⟩,⟨24,"with_hand",412,90,3,169,ai,418,3⟩,⟨25,"got",421,92,4,176,ai,432,3⟩,⟨26,"is_same_value",435,104,2,183,ai,441,3⟩,⟨27,"hand_moved",444,107,3,190,ai,454,3⟩,⟨28,"aged",457,124,1,197,ai,461,3⟩,⟨29,"clock_moved",464,126,1,204,aj,467,3⟩,⟨30,"after",470,128,3,209,ai,477,3⟩,⟨31,"moved",480,133,3,216,ai,487,3⟩,⟨33,"woven",492,139,3,223,ai,500,4⟩,⟨36,"first_board",515,147,1,231,ai,520,5⟩,⟨37,"clock_row",523,150,1,238,aj,526,5⟩,⟨38,"hand_row",529,153,4,243,ai,538,5⟩,⟨39,"row_of",541,161,4,250,ai,548,5⟩,⟨40,"went_by",551,165,1,257,ai,555,5⟩,⟨41,"board_behind",558,169,3,264,aj,561,5⟩,⟨42,"logged",564,175,3,269,ai,572,5⟩,⟨43,"log_of",575,181,2,276,ai,585,5⟩,⟨45,"_law_tape",590,192,1,283,ai,594,6⟩,⟨46,"_law_draw",597,194,2,290,ai,606,6⟩,⟨47,"_law_value",609,209,1,297,ai,613,6⟩,⟨48,"_law_size",616,211,1,304,ai,620,6⟩,⟨49,"_law_age",623,213,1,311,ai,627,6⟩,⟨50,"_law_pattern",630,215,2,318,ai,641,6⟩,⟨51,"_law_template",644,232,2,325,ai,652,6⟩,⟨52,"_law_term",655,241,2,332,ai,660,6⟩,⟨53,"_law_act",663,245,3,339,ai,673,6⟩,⟨54,"_law_program",676,258,1,346,aj,679,6⟩,⟨55,"_law_notes",682,275,2,351,aj,685,6⟩,⟨56,"_law_plan",688,281,1,356,aj,691,6⟩,⟨57,"_law_known",694,286,3,361,aj,697,6⟩,⟨58,"_law_stand",700,292,2,366,aj,703,6⟩,⟨59,"_law_fit",706,300,3,371,ai,718,6⟩,⟨60,"_law_next_act",721,320,3,378,ai,731,6⟩,⟨61,"_law_got",734,324,3,385,ai,743,6⟩,⟨62,"_law_can",746,333,3,392,ai,753,6⟩,⟨63,"_law_filled",756,338,2,399,ai,765,6⟩,⟨64,"_law_to_block",768,346,3,406,aj,771,6⟩,⟨65,"_law_of_term",774,349,2,411,ai,779,6⟩,⟨66,"_law_move",782,351,3,418,aj,785,6⟩,⟨67,"_law_movers",788,373,2,423,aj,791,6⟩,⟨68,"_law_walk",794,375,4,428,ai,805,6⟩,⟨69,"_law_first",808,385,1,435,aj,811,6⟩,⟨70,"_law_refused",814,387,4,440,ai,823,6⟩,⟨71,"_law_bad_mover",826,403,3,447,aj,829,6⟩,⟨72,"law",832,408,1,452,ai,845,6⟩]
def KK(P:Gp):Ah:=let e:=eN P
 (3,oT "dict" (.dict ([e "__name__" 165 (.str "law_noteboard_k23_movers_that_are_none" 588),e "__doc__" 166 .none,e "__package__" 167 .none,e "__loader__" 168 (.builtin "__main__.__loader__#opaque"),e "__spec__" 169 .none,e "__annotations__" 170 (.ref 6),e "__builtins__" 171 (.ref 4),e "__file__" 173 (.str "/claim/cut.py" 172),e "__cached__" 174 .none,e "BoardError" 206 (.ref 24),e "NoLine" 233 (.ref 44),e "NotReady" 258 (.ref 63),e "TooMany" 274 (.ref 75),e "NoRow" 290 (.ref 87),e "GREATEST_NUMBER" 294 (.int 99 293)]++((dL.drop 0).take 6).map (en P)++[e "GETTING" 353 (.ref 130)]++((dL.drop 6).take 15).map (en P)++[e "GOT" 514 (.ref 230)]++((dL.drop 21).take 36).map (en P)).toArray 74))::(dL.flatMap λd=>[(d.c,oC d),(d.f,oF d)])++[(130,oT "tuple" (.seq #[(.str "take" 350),(.str "read" 351),(.str "look" 352)] 0)),(230,oT "dict" (.dict #[(e "take" 505 (.str "takes" 506)),(e "read" 507 (.str "reads" 508)),(e "look" 509 (.str "looks" 510))] 3)),(2,⟨.none,ah,.dict #[] 0,#[]⟩),(23,oT "dict" (.dict #[(e "__module__" 196 (.str "noteboard.errors" 187)),(e "__firstlineno__" 200 (.int 2 199)),(e "__static_attributes__" 201 (.ref 22)),(e "__weakref__" 203 (.ref 25)),(e "__doc__" 204 .none)] 3)),(24,oX "BoardError" 24 23 [.type "ValueError"] oE [.ref 44,.ref 63,.ref 75,.ref 87] 15 189 197),(44,oX "NoLine" 44 43 [.ref 24] (.ref 24::oE) [] 28 207 215),(59,oT "code" (.fields #[.str "__init__" 246,.str "NotReady.__init__" 247,.str "/claim/cut.py" 248,.int 12 0,.int 2 0,.int 0 0,.int 0 0,.int 3 0,.ref 54,.bool ai,.int 181 0,.ref 55,.none,.ref 56,.ref 57,.ref 58,.int 251 0,.int 12 0,.str "/claim/cut.py" 252])),(60,oT "function" (.func yB)),(62,oT "dict" (.dict #[(e "__module__" 241 (.str "noteboard.errors" 187)),(e "__firstlineno__" 245 (.int 10 244)),(e "__init__" 253 (.ref 60)),(e "__static_attributes__" 255 (.ref 61)),(e "__doc__" 256 .none)] 2)),(63,oX "NotReady" 63 62 [.ref 24] (.ref 24::oE) [] 47 234 242),(75,oX "TooMany" 75 74 [.ref 24] (.ref 24::oE) [] 66 259 267),(87,oX "NoRow" 87 86 [.ref 24] (.ref 24::oE) [] 78 275 283)]
def aS:List Addr:=3::(dL.flatMap λd=>[d.c,d.f])++[130,230,2,23,24,44,59,60,62,63,75,87]
abbrev pp:A7:=PySem.Challenge.pw_noteboard_k23_movers_that_are_none
abbrev qq:A7:=PySem.W.view pp [72]
def lO:List Str:=(["BoardError","NoLine","NotReady","TooMany","NoRow","GREATEST_NUMBER","is_whole","field_fits","fits","next_value","field_value","filled","GETTING","first_stand","is_within","next_act","gets","gone_on","gone_to","with_hand","got","is_same_value","hand_moved","aged","clock_moved","after","moved","woven","GOT","first_board","clock_row","hand_row","row_of","went_by","board_behind","logged","log_of","_law_tape","_law_draw","_law_value","_law_size","_law_age","_law_pattern","_law_template","_law_term","_law_act","_law_program","_law_notes","_law_plan","_law_known","_law_stand","_law_fit","_law_next_act","_law_got","_law_can","_law_filled","_law_to_block","_law_of_term","_law_move","_law_movers","_law_walk","_law_first","_law_refused","_law_bad_mover"]:List String).map Dj
abbrev xT:Ai->Bool:=λs=>PySem.W.xlAt qq [] s&&PySem.W.recOk (PySem.W.RowW.records PySem.Challenge.rw_noteboard_k23_movers_that_are_none.row.toRowW) s
theorem said_:PySem.Challenge.rw_noteboard_k23_movers_that_are_none.wellSaid=ai:=by kernel_rfl
theorem aK:∀P,aS=(KK P).map (·.1):=λP=>by kernel_rfl
abbrev hK:PySem.W.Hook:=PySem.W.kHook KK aS aK
theorem ub{α β:Type}{o:Option α}{f g:α->Option β}{a b:β}(h:o.bind f=ae a)(h':o.bind g=ae b):o.map (λs=>(f s,g s))=ae (ae a,ae b):=by
 cases o with
 |none=>cases h
 |some s=>exact congrArg ae (Prod.ext h h')
theorem K7(w:Bk):(PySem.W.fencedOpening PySem.treeTable pp w 6000).bind (λs₀=>(PySem.W.topFrom PySem.treeTable pp (w.withFollow "special-get-raises" aj) 6000 s₀).map λs=>(PySem.W.openSeen qq lO (importedModules pp.main.body) xT ai s,hK.obs s))=ae (PySem.W.openGood qq lO,hK.val (w.withFollow "special-get-raises" aj)):=by kernel_rfl
theorem QS(w:Bk):(PySem.W.fencedOpening PySem.treeTable pp w 6000).bind (λs₀=>(PySem.W.topFrom PySem.treeTable pp (w.withFollow "special-get-raises" ai) 6000 s₀).map λs=>(PySem.W.openSeen qq lO (importedModules pp.main.body) xT ai s,hK.obs s))=ae (PySem.W.openGood qq lO,hK.val (w.withFollow "special-get-raises" ai)):=by kernel_rfl
theorem left_:PySem.W.LeftO pp qq lO xT hK.obs hK.val 6000:=PySem.W.LeftO.of_split "special-get-raises" λw=>ub (K7 w) (QS w)
def Sr(s:Stmt):Pos:=match s with
 |.FunctionDef _ _ _ _ _ _ _ _ _ p=>p
 |_=>⟨0,0,0,0⟩
def dW:DefRec:=⟨"law",kc pO,fF pO,cD pO,Sr pO⟩
theorem Qm(P):(dL.map λd=>(PySem.W.nsIn (KK P) Dt d.x,(KK P).lookup d.f,Gb (KK P) (.ref d.c) d.x))=dL.map λd=>(ae (ae (.ref d.f)),ae (oF d),ai):=by kernel_rfl
theorem xB{α β:Type}{f g:α->β}{l:List α}(h:l.map f=l.map g){j:Nat}{a:α}(e:l[j]?=ae a):f a=g a:=by
 have:=congrArg (λl=>l[j]?) h;simp only[Ax,e,F3]at this;exact Bc this
end Nb
namespace L2
open PySem PySem.Spec PyProof.Rows
abbrev aG:=Sum Int Str
def kJ:aG->Af->Bool
 |.inl k,v=>Value.isInt k v
 |.inr x,v=>Value.isStrOf x v
def tM(w:Bk):aG->Int
 |.inl k=>hashInt k
 |.inr x=>hashStr w x
theorem jh:∀{k:aG}{v:Af},kJ k v=ai->(∃i t,k=Sum.inl i/\v=Value.int i t)\/(∃x t,k=Di x/\v=F8 x t)
 |.inl i,v,h=>by
  obtain⟨t,e⟩:=Value.isInt_shape (k:=i) (v:=v) h;exact .inl ⟨i,t,rfl,e⟩
 |.inr x,v,h=>by
  obtain⟨t,e⟩:=Value.isStrOf_shape (x:=x) (v:=v) h;exact .inr ⟨x,t,rfl,e⟩
theorem MK(i)(t):kJ (.inl i) (.int i t)=ai:=by simp[kJ,Value.isInt]
theorem Oq(x)(t):kJ (.inr x) (.str x t)=ai:=by simp[kJ,Value.isStrOf]
theorem M9(a b):decide ((Sum.inl a:aG)=Sum.inl b)=(a==b):=by
 by_cases e:a=b
 ·subst e;simp
 ·have h:¬(Sum.inl a:aG)=Sum.inl b:=λq=>e (Sum.inl.inj q);rw[decide_eq_false h];exact(beq_eq_false_iff_ne.mpr e).symm
theorem O2(a b):decide ((Di a:aG)=Di b)=decide (a=b):=by
 by_cases e:a=b
 ·subst e;simp
 ·have h:¬(Di a:aG)=Di b:=λq=>e (Sum.inr.inj q);rw[decide_eq_false h,decide_eq_false e]
theorem Tq(a)(b):decide ((Sum.inl a:aG)=Di b)=aj:=decide_eq_false (λq=>nomatch q)
theorem Rr(a)(b):decide ((Di a:aG)=Sum.inl b)=aj:=decide_eq_false (λq=>nomatch q)
def fS(prog:A7)(w:Bk):PySem.KeyKind prog w aG where
 is:=kJ
 hash:=tM w
 inj:=λv a b ha hb=>by
  rcases jh ha with⟨i,t,rfl,rfl⟩|⟨x,t,rfl,rfl⟩
  ·rcases jh hb with⟨j,u,rfl,e⟩|⟨y,u,rfl,e⟩
   ·injection e with e1 _;rw[e1]
   ·exact nomatch e
  ·rcases jh hb with⟨j,u,rfl,e⟩|⟨y,u,rfl,e⟩
   ·exact nomatch e
   ·injection e with e1 _;rw[e1]
 byValue:=λk v h=>by
  rcases jh h with⟨i,t,rfl,rfl⟩|⟨x,t,rfl,rfl⟩<;>rfl
 pyHash:=λhv h=>by
  rcases jh hv with⟨i,t,rfl,rfl⟩|⟨x,t,rfl,rfl⟩
  ·exact wpAny_pyHash_int h
  ·exact wpAny_pyHash_str h
 eqBool:=λhu hv h=>by
  rcases jh hu with⟨i,t,rfl,rfl⟩|⟨x,t,rfl,rfl⟩
  ·rcases jh hv with⟨j,u,rfl,rfl⟩|⟨y,u,rfl,rfl⟩
   ·rw[M9]at h;exact wpAny_eqBool_int h
   ·rw[Tq]at h;exact SeqAt.EqAt.int_str i t y u _ _ _ _ h
  ·rcases jh hv with⟨j,u,rfl,rfl⟩|⟨y,u,rfl,rfl⟩
   ·rw[Rr]at h;exact SeqAt.EqAt.str_int x t j u _ _ _ _ h
   ·rw[O2]at h;exact wpAny_eqBool_str h
 «strs»:=λk x t v h=>by
  rcases jh h with⟨i,u,rfl,e⟩|⟨y,u,rfl,e⟩
  ·exact nomatch e
  ·injection e with e1 _;subst e1;cases v<;>rfl
theorem TU(prog)(w)(i)(t):(fS prog w).is (.inl i) (.int i t)=ai:=MK i t
theorem MI(prog)(w)(x)(t):(fS prog w).is (.inr x) (.str x t)=ai:=Oq x t
inductive V where
 |non|bl (b:Bool)|int (i:Int)|str (x:Str)|byt (b:Array UInt8)|flt (b:UInt64)|ref (a:Addr)|ty (n:String)
 deriving DecidableEq
def RelV:V->Af->Prop
 |.non,u=>u=Bh
 |.bl b,u=>u=Value.bool b
 |.int i,u=>∃t,u=Value.int i t
 |.str x,u=>∃t,u=F8 x t
 |.byt b,u=>∃t,u=Value.bytes b t
 |.flt b,u=>∃t,u=Value.float b t
 |.ref a,u=>u=A3 a
 |.ty n,u=>u=Ec n
abbrev Vals:List V->List Af->Prop:=Paired RelV
theorem Vals.length(r:Vals xs us):xs.length=us.length:=Paired.length r
theorem Vals.get:∀{xs:List V}{us:List Af}{i:Nat}{x:V},Vals xs us->xs[i]?=ae x->∃u,us[i]?=ae u/\RelV x u
 |_,_,_,_,.nil,e=>by simp at e
 |_,_,0,_,.cons r _,e=>by simp at e;subst e;exact⟨_,rfl,r⟩
 |_,_,i+1,x,.cons _ t,e=>by
  obtain⟨u,h1,h2⟩:=Vals.get (i:=i) (x:=x) t (by simpa using e);exact⟨u,by simpa using h1,h2⟩
theorem Vals.set(r:RelV x u):∀{xs:List V}{us:List Af}(i:Nat),Vals xs us->Vals (xs.set i x) (us.set i u)
 |_,_,_,.nil=>.nil
 |_,_,0,.cons _ t=>.cons r t
 |_,_,i+1,.cons q t=>.cons q (Vals.set r i t)
theorem Vals.append:∀{xs ys:List V}{us ws:List Af},Vals xs us->Vals ys ws->Vals (xs++ys) (us++ws)
 |_,_,_,_,.nil,s=>s
 |_,_,_,_,.cons r t,s=>.cons r (Vals.append t s)
theorem Vals.take:∀{xs:List V}{us:List Af}(n:Nat),Vals xs us->Vals (xs.take n) (us.take n)
 |_,_,0,_=>.nil
 |_,_,_+1,.nil=>.nil
 |_,_,n+1,.cons r t=>.cons r (Vals.take n t)
theorem Vals.drop:∀{xs:List V}{us:List Af}(n:Nat),Vals xs us->Vals (xs.drop n) (us.drop n)
 |_,_,0,r=>r
 |_,_,_+1,.nil=>.nil
 |_,_,n+1,.cons _ t=>Vals.drop n t
def RelO:Option V->Option Af->Prop
 |some v,ae u=>RelV v u
 |none,ah=>True
 |_,_=>False
def KV{κ:Type}:List (κ×V)->List (κ×Af)->Prop:=Paired λ(p:κ×V)(q:κ×Af)=>p.1=q.1/\RelV p.2 q.2
def kV:aG->V
 |.inl i=>.int i
 |.inr x=>.str x
inductive HO where
 |lst (xs:List V)
 |tup (xs:List V)
 |dK (kvs:List (aG×V))|dT (kvs:List (List aG×V))
 |set (S:Int->Bool) (n:Nat)
 |ins (C dx:Addr) (fs:List (Str×V))
 |own (x:Addr)
 |xd (fs:List (Str×V))
 |met (f x:Addr)
 |rng (lo hi:Int)
 |frz (o:Obj) (u:HO)
 |tbl (ps:Array Af)
 |ext (φ:Heap->Prop)
abbrev Hp:=Addr->Option HO
def upd(H:Hp)(a:Addr)(o:HO):Hp:=λb=>if b=a then ae o else H b
theorem bu:upd H a o a=ae o:=by unfold upd;rw[if_pos rfl]
theorem aM(h:b≠a):upd H a o b=H b:=by unfold upd;rw[if_neg h]
theorem FD:upd (upd H a o) a u=upd H a u:=by
 funext b;unfold upd;split<;>rfl
theorem yf{H:Hp}(h:H a=ae o)(h':H b=ae u)(d:o≠u):a≠b:=by
 intro e;subst e;rw[h]at h';exact d (Bc h')
theorem bO{H:Hp}(h:H a=ae o)(h':H b=ah):a≠b:=by
 intro e;subst e;rw[h]at h';cases h'
def IsTupP(h:Heap)(a:Addr)(items:Array Af):Prop:=∃o,h.get? a=ae o/\o.cls=.type "tuple"/\(∃n,o.data=.seq items n)/\o.dict=ah
theorem IsTupP.tup(x:IsTupP h a items):IsTup h a items:=let⟨o,e,c,d,_⟩:=x;⟨o,e,c,d⟩
theorem IsTupP.lt(x:IsTupP h a items):a < h.objs.size:=let⟨_,e,_⟩:=x;Aq e
theorem IsTupP.new(h:Heap)(items):IsTupP (h.push {cls:=.type "tuple",data:=.seq items}) h.objs.size items:=⟨_,Az _ rfl,rfl,⟨_,rfl⟩,rfl⟩
section
variable(P:A7)(w:Bk)
def ObjOk(H:Hp)(h:Heap)(a:Addr):HO->Prop
 |.lst xs=>xs.length<=Ay/\∃(its:List Af)(n:Nat),Vals xs its/\h.get? a=ae {cls:=.type "list",data:=.seq its.toArray n}
 |.tup xs=>xs.length<=Ay/\∃its:List Af,Vals xs its/\IsTupP h a its.toArray
 |.dK kvs=>kvs.length<=Ay/\(a==Fj)=aj/\∃vs,KV kvs vs/\h.DictOf (fS P w) a vs
 |.dT kvs=>kvs.length<=Ay/\(a==Fj)=aj/\∃xs:List (List aG×Addr×Af),
   Paired (λ(p:List aG×V)(q:List aG×Addr×Af)=>p.1=q.1/\H q.2.1=ae (.tup (p.1.map kV))/\RelV p.2 q.2.2) kvs xs /\
   ∃o es ep,h.get? a=ae o/\o.ExactDict/\o.data=.dict es ep/\es.toList=xs.map (entryOfKey (tupleKind (fS P w)))/\(xs.map (·.1)).Nodup
 |.set S n=>h.SetOf (intKind P w) a S n
 |.ins C dx fs=>H dx=ae (.own a)/\fs.length<=1000/\dx≠a/\h.get? a=ae (PySem.W.instObj C dx) /\
   ∃mA,h.Ns1 dx mA/\(∀f,RelO (fs.lookup f) (mA f))/\PySem.Within mA (fs.map (·.1))
 |.own _=>∃o,h.get? a=ae o
 |.xd fs=>∃mA,h.Ns1 a mA/\∀f,RelO (fs.lookup f) (mA f)
 |.rng lo hi=>∃t u v,h.get? a=ae {cls:=.type "range",data:=.fields #[.int lo t,.int hi u,.int 1 v]}
 |.frz o u=>h.get? a=ae o/\ObjOk H h a u
 |.tbl ps=>h.get? a=ae {cls:=.none,data:=.fields ps}
 |.met f x=>h.get? a=ae (PySem.W.methodObj (.ref f) (.ref x))
 |.ext φ=>φ h/\(∃o,h.get? a=ae o)/\∀h1 h2:Heap,φ h1->(∀o,h1.get? a=ae o->h2.get? a=ae o)->φ h2
def HOk(H:Hp)(h:Heap):Prop:=∀a o,H a=ae o->ObjOk P w H h a o
end
section
variable{P:A7}{w:Bk}{H H':Hp}{h h':Heap}{a:Addr}{o:HO}
theorem ObjOk.lt(x:ObjOk P w H h a o):a < h.objs.size:=by
 cases o with
 |lst xs=>obtain⟨_,_,_,_,e⟩:=x;exact Aq e
 |tup xs=>obtain⟨_,_,_,p⟩:=x;exact p.lt
 |dK kvs=>obtain⟨_,_,_,_,o,_,_,e,_⟩:=x;exact Aq e
 |dT kvs=>obtain⟨_,_,_,_,o,_,_,e,_⟩:=x;exact Aq e
 |set S n=>obtain⟨o,_,_,_,e,_⟩:=x;exact Aq e
 |ins C dx fs=>obtain⟨_,_,_,e,_⟩:=x;exact Aq e
 |own y=>obtain⟨_,e⟩:=x;exact Aq e
 |xd fs=>obtain⟨_,⟨_,_,_,e,_⟩,_⟩:=x;exact Aq e
 |rng lo hi=>obtain⟨_,_,_,e⟩:=x;exact Aq e
 |frz ob u=>obtain⟨e,_⟩:=x;exact Aq e
 |tbl ps=>exact Aq (show h.get? a=ae _ from x)
 |met f y=>exact Aq (show h.get? a=ae _ from x)
 |ext φ=>obtain⟨_,⟨_,e⟩,_⟩:=x;exact Aq e
theorem Paired.mapP:∀{l₁:List α}{l₂:List β},Paired F l₁ l₂->(∀a b,F a b->G a b)->Paired G l₁ l₂
 |_,_,.nil,_=>.nil
 |_,_,.cons r t,f=>.cons (f _ _ r) (Paired.mapP t f)
theorem ObjOk.stay(x:ObjOk P w H h a o)(k:∀b u,(b=a\/H b=ae (.own a))->h.get? b=ae u->h'.get? b=ae u)
  (ho:∀b,H b=ae (.own a)->H' b=ae (.own a)) (ht:∀b xs,H b=ae (.tup xs)->H' b=ae (.tup xs)):ObjOk P w H' h' a o:=by
 induction o with
 |lst xs=>obtain⟨z,its,n,r,e⟩:=x;exact⟨z,its,n,r,k _ _ (.inl rfl) e⟩
 |tup xs=>obtain⟨z,its,r,ob,e,c⟩:=x;exact⟨z,its,r,ob,k _ _ (.inl rfl) e,c⟩
 |dK kvs=>obtain⟨z,y,vs,r,ob,es,ep,e,c⟩:=x;exact⟨z,y,vs,r,ob,es,ep,k _ _ (.inl rfl) e,c⟩
 |dT kvs=>
  obtain⟨z,y,xs,r,ob,es,ep,e,c⟩:=x;exact⟨z,y,xs,Paired.mapP r λp q z=>⟨z.1,ht _ _ z.2.1,z.2.2⟩,ob,es,ep,k _ _ (.inl rfl) e,c⟩
 |set S n=>obtain⟨ob,es,ep,t,e,c⟩:=x;exact⟨ob,es,ep,t,k _ _ (.inl rfl) e,c⟩
 |ins C dx fs=>
  obtain⟨d,z,ne,e,mA,⟨od,es,ep,e2,c⟩,r⟩:=x;exact⟨ho _ d,z,ne,k _ _ (.inl rfl) e,mA,⟨od,es,ep,k _ _ (.inr d) e2,c⟩,r⟩
 |own y=>obtain⟨ob,e⟩:=x;exact⟨ob,k _ _ (.inl rfl) e⟩
 |xd fs=>obtain⟨mA,⟨od,es,ep,e,c⟩,r⟩:=x;exact⟨mA,⟨od,es,ep,k _ _ (.inl rfl) e,c⟩,r⟩
 |rng lo hi=>obtain⟨t,u,v,e⟩:=x;exact⟨t,u,v,k _ _ (.inl rfl) e⟩
 |frz ob u ih=>obtain⟨e,q⟩:=x;exact⟨k _ _ (.inl rfl) e,ih q⟩
 |tbl ps=>
  have e:h.get? a=ae {cls:=.none,data:=.fields ps}:=x;show h'.get? a=ae {cls:=.none,data:=.fields ps};exact k a _ (.inl rfl) e
 |met f y=>
  have e:h.get? a=ae (PySem.W.methodObj (.ref f) (.ref y)):=x;show h'.get? a=ae (PySem.W.methodObj (.ref f) (.ref y));exact k a _ (.inl rfl) e
 |ext φ=>obtain⟨p,⟨o,e⟩,st⟩:=x;exact⟨st _ _ p λo q=>k _ _ (.inl rfl) q,⟨o,k _ _ (.inl rfl) e⟩,st⟩
theorem HOk.lt(x:HOk P w H h)(e:H a=ae o):a < h.objs.size:=(x a o e).lt
theorem HOk.fresh(x:HOk P w H h)(e:h.objs.size<=a):H a=ah:=by
 cases q:H a with
 |none=>rfl
 |some u=>exact absurd (Bd (x.lt q) e) (Fh _)
theorem HOk.kept(x:HOk P w H h)(k:∀b u,h.get? b=ae u->h'.get? b=ae u):HOk P w H h':=λa o e=>
 (x a o e).stay (λb u _ q=>k b u q) (λ_ q=>q) λ_ _ q=>q
theorem HOk.laid(x:HOk P w H h)(k:∀b u,h.get? b=ae u->h'.get? b=ae u)(hp:h.objs.size<=a)(new:ObjOk P w (upd H a o) h' a o):HOk P w (upd H a o) h':=λb u e=>by
 have hn:=x.fresh hp;by_cases hb:b=a
 ·subst hb;rw[bu]at e;cases e;exact new
 ·rw[aM hb]at e;exact(x b u e).stay (λc v _ q=>k c v q) (λc q=>by rw[aM (bO q hn)];exact q) λc xs q=>by rw[aM (bO q hn)];exact q
end
def Rd(H:Hp)(a:Addr)(u:HO):Prop:=H a=ae u\/∃o,H a=ae (.frz o u)
theorem Rd.ok(r:Rd H a u)(x:HOk P w H h):ObjOk P w H h a u:=by
 rcases r with r|⟨o,r⟩
 ·exact x a u r
 ·obtain⟨_,q⟩:=x a _ r;exact q
def oj:Option HO->Prop
 |some (.lst _)=>True
 |some (.dK _)=>True
 |some (.dT _)=>True
 |some (.set _ _)=>True
 |some (.ins _ _ _)=>True
 |some (.ext _)=>True
 |_=>False
section
variable{P:A7}{w:Bk}{H:Hp}{h h':Heap}{x e:Addr}{o':HO}
theorem HOk.write(ok:HOk P w H h)(mu:oj (H x))(he:e=x\/H e=ae (.own x))(k:∀b u,b≠e->h.get? b=ae u->h'.get? b=ae u)(heo:∃u,h'.get? e=ae u)
  (new:ObjOk P w (upd H x o') h' x o'):HOk P w (upd H x o') h':=λb u q=>by
 have nown:∀c y,H c=ae (.own y)->c≠x:=λc y r z=>by subst z;rw[r]at mu;exact mu
 have ntup:∀c xs,H c=ae (.tup xs)->c≠x:=λc xs r z=>by subst z;rw[r]at mu;exact mu
 by_cases hb:b=x
 ·subst hb;rw[bu]at q;cases q;exact new
 ·rw[aM hb]at q;by_cases hbe:b=e
  ·have q':H b=ae (.own x):=by
    rcases he with z|z
    ·exact absurd (hbe.trans z) hb
    ·rw[hbe];exact z
   rw[q]at q';cases q';obtain⟨v,hv⟩:=heo;exact⟨v,by rw[hbe];exact hv⟩
  ·refine(ok b u q).stay (λc v hc r=>k c v ?_ r) (λc r=>by rw[aM (nown c b r)];exact r) λc xs r=>by rw[aM (ntup c xs r)];exact r
   rcases hc with rfl|hc
   ·exact hbe
   ·rintro rfl
    rcases he with z|z
    ·exact nown c b hc z
    ·rw[hc]at z;cases z;exact hb rfl
end
structure Un(fs ex:List Addr)(H H':Hp)(h h':Heap):Prop where
 keep:∀b o,h.get? b=ae o->H b=ah->b∉fs->b∉ex->h'.get? b=ae o
 slot:∀b o,h.get? b=ae o->H b=ah->b∈fs->b∉ex->∃sl,h'.get? b=ae {o with slots:=sl}
 free:∀b o,h.get? b=ae o->H b=ah->b∉ex->H' b=ah
 there:∀b o,h.get? b=ae o->b∉ex->∃o',h'.get? b=ae o'
 tups:∀b xs,H b=ae (.tup xs)->H' b=ae (.tup xs)
 frzs:∀b o u,H b=ae (.frz o u)->H' b=ae (.frz o u)
 tbls:∀b ps,H b=ae (.tbl ps)->∃more,H' b=ae (.tbl (ps++more))
section
variable{fs fs' ex ex':List Addr}{H H1 H2:Hp}{h h1 h2 h':Heap}{a x e:Addr}{o:HO}
theorem Un.any(u:Un fs ex H H1 h h1)(q:h.get? b=ae ob)(n:H b=ah)(hx:b∉ex):∃sl,h1.get? b=ae {ob with slots:=sl}:=by
 by_cases hb:b∈fs
 ·exact u.slot b ob q n hb hx
 ·exact⟨ob.slots,u.keep b ob q n hb hx⟩
theorem Un.kept(k:∀b u,h.get? b=ae u->h'.get? b=ae u):Un fs ex H H h h':=
 ⟨λb ob q _ _ _=>k b ob q,λb ob q _ _ _=>⟨ob.slots,k b ob q⟩,λ_ _ _ n _=>n,λb ob q _=>⟨ob,k b ob q⟩,λ_ _ q=>q,λ_ _ _ q=>q,λ_ ps q=>⟨#[],by rw[q];simp⟩⟩
theorem Un.refl:Un fs ex H H h h:=Un.kept λ_ _ q=>q
theorem Un.laid(k:∀b u,h.get? b=ae u->h'.get? b=ae u)(hp:h.objs.size<=a)(hn:H a=ah):Un fs ex H (upd H a o) h h' where
 keep:=λb u q _ _ _=>k b u q
 slot:=λb u q _ _ _=>⟨u.slots,k b u q⟩
 free:=λb u q n _=>by rw[aM (A5 (Bd (Aq q) hp))];exact n
 there:=λb u q _=>⟨u,k b u q⟩
 tups:=λb xs q=>by rw[aM (bO q hn)];exact q
 frzs:=λb u xs q=>by rw[aM (bO q hn)];exact q
 tbls:=λb ps q=>⟨#[],by rw[aM (bO q hn),q];simp⟩
theorem Un.write(mu:oj (H x))(he:e=x\/H e=ae (.own x))(k:∀b u,b≠e->h.get? b=ae u->h'.get? b=ae u)(heo:∃u,h'.get? e=ae u):Un fs ex H (upd H x o) h h':=by
 have hx:∀b,H b=ah->b≠x:=λb n z=>by subst z;rw[n]at mu;exact mu
 have hb:∀b,H b=ah->b≠e:=λb n z=>by
  subst z;rcases he with r|r
  ·exact hx b n r
  ·rw[n]at r;cases r
 have hm:∀b u,H b=ae u->¬oj (ae u)->b≠x:=λb u q nm z=>by subst z;rw[q]at mu;exact nm mu
 refine⟨λb u q n _ _=>k b u (hb b n) q,λb u q n _ _=>⟨u.slots,k b u (hb b n) q⟩,λb u q n _=>by rw[aM (hx b n)];exact n,λb u q _=>?_,
  λb xs q=>by rw[aM (hm b _ q λz=>z)];exact q,λb u xs q=>by rw[aM (hm b _ q λz=>z)];exact q,λb ps q=>⟨#[],by rw[aM (hm b _ q λz=>z),q];simp⟩⟩
 by_cases hbe:b=e
 ·subst hbe;exact heo
 ·exact⟨u,k b u hbe q⟩
end
def trk(h:Heap)(H:Hp):List Addr:=(Bi h.objs.size).filter λa=>(H a).isSome
def fw(h:Heap)(H:Hp):Heap:=F0 h (trk h H)
theorem K0(h:Heap)(H):(fw h H).objs.size=h.objs.size:=PySem.W.hideAll_size _ _
theorem OP(e:h.get? b=ae o)(n:H b=ah):(fw h H).get? b=ae o:=
 PySem.W.hideAll_get _ e λhm=>by
  have q:(H b).isSome=ai:=(Cp.mp hm).2;rw[n]at q;simp at q
theorem NN(e:(fw h H).get? b=ae o):h.get? b=ae o/\H b=ah:=by
 have e':h.get? b=ae o:=PySem.W.of_hideAll (trk h H) e;refine⟨e',?_⟩;cases q:H b with
 |none=>rfl
 |some x=>
  have hm:b∈trk h H:=Cp.mpr ⟨Ci.mpr (Aq e'),by simp[q]⟩;have z:(fw h H).get? b=ah:=PySem.W.hideAll_none (trk h H) hm;rw[z]at e;cases e
def Lz(g h:Heap)(L:Addr):List (Addr×Obj):=(Bi h.objs.size).filterMap λa=>if a=L\/(g.get? a).isSome=ai then ah else(h.get? a).map λo=>(a,o)
def rest(g h:Heap)(L d:Addr):List (Addr×Obj):=(Lz g h L).filter λp=>decide (p.1≠d)
structure Mod(K:Ah)(mg:Str->Option Af)(base:Heap):Prop where
 kin:K.In base
 glob:base.Ns Dt mg
 blt:∃mb,base.Ns builtinsNs mb/\∀x:Str,x≠"__name__"->mb x=By x
 nolimit:base.NoLimit
structure Cx where
 prog:A7
 w:Bk
 K:Ah
 mg:Str->Option Af
 base:Heap
 A:Bu
 N:List Str
 s₀:Ai
 H₀:Hp
 env:Env
 outer:List Env
 stack:List Env
 ex:List Addr
 fn:Str->Bool
 calm:Bool
 pn:List (Addr×Obj)
 xe:Af->Ai->Prop
def dg(l:List Env):List Addr:=l.filterMap (·.frame)
abbrev Cx.fs(X:Cx):List Addr:=dg X.outer
def fH(sc:E5)(x:Str):Prop:=sc.names.lookup x=ae .local\/sc.names.lookup x=ae .cell\/sc.names.lookup x=ae .free
def jq(sc:E5)(x:Str):Prop:=sc.names.lookup x=ae .local\/sc.names.lookup x=ae .cell
def vy(env:Env)(h:Heap)(m:Str->Option Af)(x:Str)(u:Af):Prop:=
 (env.kindOf x=ae .local/\m x=ae u)\/((env.kindOf x=ae .cell\/env.kindOf x=ae .free)/\∃c,env.cells.lookup x=ae c/\h.IsCell c (ae u))
structure Cx.Ok(X:Cx):Prop where
 mod:Mod X.K X.mg X.base
 kind:X.env.scope.kind=.function
 glob:X.env.globals=Dt
 blt:X.env.builtins=builtinsNs
 above:X.s₀.heap.objs.size<=X.env.locals
 inj:∀x y c,X.env.cells.lookup x=ae c->X.env.cells.lookup y=ae c->x=y
 has:∀x,(X.env.kindOf x=ae .cell\/X.env.kindOf x=ae .free)->∃c,X.env.cells.lookup x=ae c
 cab:∀x c,X.fn x=ai->X.env.cells.lookup x=ae c->X.s₀.heap.objs.size<=c
 hd:X.calm=ai->X.A.handled=ah
 frames:X.A.frames=ae X.stack
 stk:X.stack=X.outer\/(X.stack=X.env::X.outer/\X.env.frame=ae X.env.locals)
 exf:∀b∈X.ex,b≠X.env.locals/\∀x c,X.env.cells.lookup x=ae c->c≠b
 bs:∀b o,X.base.get? b=ae o->X.s₀.heap.get? b=ae o/\X.H₀ b=ah
 bsz:X.base.objs.size<=X.s₀.heap.objs.size
 noex:∀b o,X.base.get? b=ae o->b∉X.ex
 exfs:∀b∈X.ex,b∉X.fs
 funs:X.s₀.heap.FunFrames X.base X.outer
 frf:∀b∈X.fs,X.H₀ b=ah
structure Inv(X:Cx)(pins:List (Addr×Obj))(σ:List (Option V))(H:Hp)(s:Ai):Prop where
 ok:X.Ok
 os:s.os=X.s₀.os
 bare:AllBare s.gens
 base:Un X.fs X.ex X.H₀ H X.s₀.heap s.heap
 loc:∃m,s.heap.Ns X.env.locals m/\∀(i:Nat)(x:Str)(v:V),X.N[i]?=ae x->σ[i]?=ae (ae v)->fH X.env.scope x->∃u,RelV v u/\vy X.env s.heap m x u
 cell:∀x c,X.env.cells.lookup x=ae c->∃v,s.heap.IsCell c v
 free:H X.env.locals=ah
 freeC:∀x c,X.env.cells.lookup x=ae c->H c=ah
 pin:∀p∈X.pn++pins,s.heap.get? p.1=ae p.2/\H p.1=ah/\p.1≠X.env.locals/\p.1∉X.fs/\∀v,p.2.data≠.cell v
 hok:HOk X.prog X.w H s.heap
 len:σ.length=X.N.length
section
variable{X:Cx}{pins:List (Addr×Obj)}{σ:List (Option V)}{H H':Hp}{s:Ai}{h':Heap}
theorem Cx.Ok.nofr(ok:X.Ok)(e:X.base.get? b=ae o):b∉X.fs:=λhb=>by
 have:=(ok.funs.mem hb).1;rw[e]at this;cases this
theorem Inv.bs(I:Inv X pins σ H s):∀b o,X.base.get? b=ae o->s.heap.get? b=ae o/\H b=ah:=λb o e=>
 ⟨I.base.keep b o (I.ok.bs b o e).1 (I.ok.bs b o e).2 (I.ok.nofr e) (I.ok.noex b o e),I.base.free b o (I.ok.bs b o e).1 (I.ok.bs b o e).2 (I.ok.noex b o e)⟩
theorem Inv.bk(I:Inv X pins σ H s):∀b o,X.base.get? b=ae o->s.heap.get? b=ae o:=λb o e=>(I.bs b o e).1
theorem Inv.mod(I:Inv X pins σ H s):Mod X.K X.mg X.base:=I.ok.mod
theorem Inv.kIn(I:Inv X pins σ H s):X.K.In s.heap:=I.ok.mod.kin.keeps I.bk
theorem Inv.lt(I:Inv X pins σ H s):X.env.locals < s.heap.objs.size:=let⟨_,hn,_⟩:=I.loc;hn.lt
theorem Inv.sz(I:Inv X pins σ H s):X.s₀.heap.objs.size<=s.heap.objs.size:=A9 I.ok.above (Gq I.lt)
theorem Inv.nofs(I:Inv X pins σ H s){a:Addr}(h:s.heap.objs.size<=a):a∉X.fs:=λhb=>by
 obtain⟨_,o,ho,_⟩:=I.ok.funs.mem hb;exact absurd (Bd (Aq ho) (A9 I.sz h)) (Fh _)
theorem Inv.cne(I:Inv X pins σ H s):∀x c,X.env.cells.lookup x=ae c->c≠X.env.locals:=λx c e z=>by
 obtain⟨v,o,ho,hd⟩:=I.cell x c e;obtain⟨m,⟨o',es,ep,ho',hd',_⟩,_⟩:=I.loc;rw[z,ho']at ho;cases ho;rw[hd']at hd;cases hd
theorem Inv.funs(I:Inv X pins σ H s):s.heap.FunFrames X.base X.outer:=by
 have all:∀(l:List Env),(∀b∈dg l,b∈X.fs)->X.s₀.heap.FunFrames X.base l->s.heap.FunFrames X.base l:=by
  intro l
  induction l with
  |nil=>intro _ _;trivial
  |cons env r ih=>
   intro hs hl;obtain⟨hk,⟨L,o,hf,hn,ho,hd⟩,hr⟩:=hl;have hL:L∈X.fs:=hs L (by unfold dg;rw[List.filterMap_cons,hf];exact A0);obtain⟨sl,e⟩:=I.base.slot L o ho (I.ok.frf L hL) hL λz=>I.ok.exfs L z hL;exact⟨hk,⟨L,_,hf,hn,e,hd⟩,ih (λb hb=>hs b (by unfold dg;rw[List.filterMap_cons,hf];exact Aw _ hb)) hr⟩
 exact all X.outer (λ_ hb=>hb) I.ok.funs
theorem Inv.stack(I:Inv X pins σ H s):s.heap.FunFrames X.base X.stack:=by
 rcases I.ok.stk with e|⟨e,hf⟩
 ·rw[e];exact I.funs
 ·rw[e];obtain⟨m,hn,_⟩:=I.loc;refine .cons (by rw[I.ok.kind];decide) hf hn ?_ I.funs;exact G3 (A9 I.ok.bsz I.ok.above)
theorem Inv.stkSub(I:Inv X pins σ H s):∀b∈dg X.stack,b∈X.env.locals::X.fs:=λb hb=>by
 rcases I.ok.stk with e|⟨e,hf⟩
 ·rw[e]at hb;exact Aw _ hb
 ·rw[e]at hb;unfold dg at hb;rw[List.filterMap_cons,hf]at hb;exact hb
theorem Inv.stkFree(I:Inv X pins σ H s):∀b∈dg X.stack,H b=ah:=λb hb=>by
 rcases Au.mp (I.stkSub b hb)with e|hb
 ·rw[e];exact I.free
 ·obtain⟨_,o,ho,_⟩:=I.ok.funs.mem hb;exact I.base.free b o ho (I.ok.frf b hb) λz=>I.ok.exfs b z hb
theorem Inv.step{ch:List Addr}(I:Inv X pins σ H s)
  (hch:∀b∈ch,(b∈X.ex\/X.s₀.heap.objs.size<=b)/\b≠X.env.locals/\(∀x c,X.env.cells.lookup x=ae c->c≠b)/\∀p∈X.pn++pins,p.1≠b)
  (keep:∀b o,b≠X.env.locals->b∉X.fs->b∉ch->s.heap.get? b=ae o->H b=ah->h'.get? b=ae o)
  (slot:∀b o,b≠X.env.locals->b∈X.fs->b∉ch->s.heap.get? b=ae o->H b=ah->∃sl,h'.get? b=ae {o with slots:=sl}) (free:∀b o,b∉ch->s.heap.get? b=ae o->H b=ah->H' b=ah)
  (there:∀b o,b∉ch->s.heap.get? b=ae o->∃o',h'.get? b=ae o')
  (tups:∀b xs,H b=ae (.tup xs)->H' b=ae (.tup xs)) (frzs:∀b o u,H b=ae (.frz o u)->H' b=ae (.frz o u)) (tbls:∀b ps,H b=ae (.tbl ps)->∃more,H' b=ae (.tbl (ps++more)))
  (ns:∀m,s.heap.Ns X.env.locals m->h'.Ns X.env.locals m) (hok:HOk X.prog X.w H' h') (hg:AllBare g'):
  Inv X pins σ H' {s with heap:=h',gens:=g',drawn:=d',toks:=t'}:=by
 have neL:∀b o,X.s₀.heap.get? b=ae o->b≠X.env.locals:=λb o e=>A5 (Bd (Aq e) I.ok.above);have neC:∀b o,X.s₀.heap.get? b=ae o->b∉X.ex->b∉ch:=λb o e hx hb=>by
  rcases(hch b hb).1 with z|z
  ·exact hx z
  ·exact absurd (Bd (Aq e) z) (Fh _)
 have cellK:∀x c,X.env.cells.lookup x=ae c->∀v,s.heap.IsCell c v->h'.IsCell c v:=λx c e v ⟨o,ho,hd⟩=>by
  have nch:c∉ch:=λz=>(hch c z).2.2.1 x c e rfl;by_cases hc:c∈X.fs
  ·obtain⟨sl,q⟩:=slot c o (I.cne x c e) hc nch ho (I.freeC x c e);exact⟨_,q,hd⟩
  ·exact⟨o,keep c o (I.cne x c e) hc nch ho (I.freeC x c e),hd⟩
 refine⟨I.ok,I.os,hg,⟨λb o e n hb hx=>?_,λb o e n hb hx=>?_,λb o e n hx=>?_,λb o e hx=>?_,λb xs e=>tups b xs (I.base.tups b xs e),λb o xs e=>frzs b o xs (I.base.frzs b o xs e),λb ps e=>?_⟩,?_,λx c e=>?_,?_,λx c e=>?_,λp hp=>?_,hok,I.len⟩
 ·exact keep b o (neL b o e) hb (neC b o e hx) (I.base.keep b o e n hb hx) (I.base.free b o e n hx)
 ·obtain⟨sl,e1⟩:=I.base.slot b o e n hb hx;obtain⟨sl',e2⟩:=slot b _ (neL b o e) hb (neC b o e hx) e1 (I.base.free b o e n hx);exact⟨sl',e2⟩
 ·obtain⟨o',e1⟩:=I.base.there b o e hx;exact free b o' (neC b o e hx) e1 (I.base.free b o e n hx)
 ·obtain⟨o',e1⟩:=I.base.there b o e hx;exact there b o' (neC b o e hx) e1
 ·obtain⟨m1,e1⟩:=I.base.tbls b ps e;obtain⟨m2,e2⟩:=tbls b _ e1;exact⟨m1++m2,by rw[e2,Array.append_assoc]⟩
 ·obtain⟨m,hn,hl⟩:=I.loc;refine⟨m,ns m hn,λi x v e1 e2 e3=>?_⟩;obtain⟨u,r,l⟩:=hl i x v e1 e2 e3;refine⟨u,r,?_⟩;rcases l with l|⟨k,c,e,z⟩
  ·exact .inl l
  ·exact .inr ⟨k,c,e,cellK x c e _ z⟩
 ·obtain⟨v,z⟩:=I.cell x c e;exact⟨v,cellK x c e v z⟩
 ·obtain⟨m,⟨o,_,_,ho,_⟩,_⟩:=I.loc;exact free _ o (λz=>(hch _ z).2.1 rfl) ho I.free
 ·obtain⟨v,o,ho,hd⟩:=I.cell x c e;exact free c o (λz=>(hch c z).2.2.1 x c e rfl) ho (I.freeC x c e)
 ·obtain⟨e,n,ne,nf,d⟩:=I.pin p hp;have nch:p.1∉ch:=λz=>(hch p.1 z).2.2.2 p hp rfl;exact⟨keep p.1 p.2 ne nf nch e n,free p.1 p.2 nch e n,ne,nf,d⟩
theorem Inv.un(I:Inv X pins σ H s)(u:Un X.fs [] H H' s.heap h')(hok:HOk X.prog X.w H' h'):Inv X pins σ H' {s with heap:=h',toks:=t'}:=by
 obtain⟨m,⟨o,es,ep,ho,r⟩,_⟩:=id I.loc;obtain⟨sl,hL⟩:=u.any ho I.free (by simp);exact I.step (g':=s.gens) (d':=s.drawn) (ch:=[]) (λ_ z=>nomatch z) (λb o _ hb _ e n=>u.keep b o e n hb (by simp)) (λb o _ hb _ e n=>u.slot b o e n hb (by simp)) (λb o _ e n=>u.free b o e n (by simp)) (λb o _ e=>u.there b o e (by simp)) u.tups u.frzs u.tbls (λm' hm=>by
  obtain⟨o',es',ep',ho',r'⟩:=hm;rw[ho]at ho';cases ho';exact⟨_,es',ep',hL,r'⟩) hok I.bare
theorem Inv.call(I:Inv X pins σ H s)(u:Un (dg X.stack) ch H H' s.heap h')(hok:HOk X.prog X.w H' h')(hg:AllBare g')
  (hch:∀b∈ch,(b∈X.ex\/X.s₀.heap.objs.size<=b)/\b≠X.env.locals/\(∀x c,X.env.cells.lookup x=ae c->c≠b)/\∀p∈X.pn++pins,p.1≠b):
  Inv X pins σ H' {s with heap:=h',gens:=g',drawn:=d',toks:=t'}:=by
 obtain⟨m,⟨o,es,ep,ho,r⟩,_⟩:=id I.loc;obtain⟨sl,hL⟩:=u.any ho I.free λz=>(hch _ z).2.1 rfl;exact I.step (ch:=ch) hch (λb o hL hb hc e n=>u.keep b o e n (λz=>(Au.mp (I.stkSub b z)).elim hL hb) hc) (λb o _ _ hc e n=>u.any e n hc) (λb o hc e n=>u.free b o e n hc) (λb o hc e=>u.there b o e hc) u.tups u.frzs u.tbls (λm' hm=>by
  obtain⟨o',es',ep',ho',r'⟩:=hm;rw[ho]at ho';cases ho';exact⟨_,es',ep',hL,r'⟩) hok hg
theorem Inv.turned(I:Inv X pins σ H s)(k:∀b o,b≠it->s.heap.get? b=ae o->h'.get? b=ae o)(hn:H it=ah)(hL:it≠X.env.locals)
  (h1:it∈X.ex\/X.s₀.heap.objs.size<=it) (h2:∀x c,X.env.cells.lookup x=ae c->c≠it) (h3:∀p∈X.pn++pins,p.1≠it):Inv X pins σ H {s with heap:=h',toks:=t'}:=by
 have nit:∀b u,H b=ae u->b≠it:=λb u e z=>by rw[z,hn]at e;cases e
 refine I.step (g':=s.gens) (d':=s.drawn) (ch:=[it]) (λb hb=>?_) (λb o _ _ hc e _=>k b o (λz=>hc (by simp[z])) e) (λb o _ _ hc e _=>⟨o.slots,k b o (λz=>hc (by simp[z])) e⟩) (λ_ _ _ _ n=>n)
  (λb o hc e=>⟨o,k b o (λz=>hc (by simp[z])) e⟩) (λ_ _ e=>e) (λ_ _ _ e=>e) (λb ps e=>⟨#[],by rw[e];simp⟩) (λm hm=>?_) (λb u e=>?_) I.bare
 ·have e:b=it:=by simpa using hb
  subst e;exact⟨h1,hL,h2,h3⟩
 ·obtain⟨o,es,ep,ho,r⟩:=hm;exact⟨o,es,ep,k _ o (Ne.symm hL) ho,r⟩
 ·refine(I.hok b u e).stay (λc v hc q=>k c v ?_ q) (λ_ q=>q) λ_ _ q=>q;rcases hc with z|z
  ·rw[z];exact nit b u e
  ·exact nit c _ z
theorem Inv.tok(I:Inv X pins σ H s)(t):Inv X pins σ H {s with toks:=t}:=I.un (h':=s.heap) (t':=t) Un.refl I.hok
theorem Inv.kept(I:Inv X pins σ H s)(k:∀b u,s.heap.get? b=ae u->h'.get? b=ae u):Inv X pins σ H {s with heap:=h',toks:=t'}:=I.un (Un.kept k) (I.hok.kept k)
theorem Inv.laid{a:Addr}(I:Inv X pins σ H s)(k:∀b u,s.heap.get? b=ae u->h'.get? b=ae u)(hp:s.heap.objs.size<=a)(new:ObjOk X.prog X.w (upd H a o) h' a o):
  Inv X pins σ (upd H a o) {s with heap:=h',toks:=t'}:=I.un (Un.laid k hp (I.hok.fresh hp)) (I.hok.laid k hp new)
theorem Inv.write(I:Inv X pins σ H s)(mu:oj (H x))(he:e=x\/H e=ae (.own x))(k:∀b u,b≠e->s.heap.get? b=ae u->h'.get? b=ae u)(heo:∃u,h'.get? e=ae u)
  (new:ObjOk X.prog X.w (upd H x o) h' x o):Inv X pins σ (upd H x o) {s with heap:=h',toks:=t'}:=I.un (Un.write mu he k heo) (I.hok.write mu he k heo new)
theorem Inv.pins_of(I:Inv X pins σ H s)(h:∀p∈pins',s.heap.get? p.1=ae p.2/\H p.1=ah/\p.1≠X.env.locals/\p.1∉X.fs/\∀v,p.2.data≠.cell v):Inv X pins' σ H s:=
 ⟨I.ok,I.os,I.bare,I.base,I.loc,I.cell,I.free,I.freeC,λp hp=>(Ba.mp hp).elim (λz=>I.pin p (Dw _ z)) (h p),I.hok,I.len⟩
theorem ug{N:List Str}(hN:N.Nodup){i j:Nat}(a:N[i]?=ae x)(b:N[j]?=ae x):i=j:=by
 obtain⟨h1,e1⟩:=Av.mp a;obtain⟨h2,e2⟩:=Av.mp b;exact(Fu hN).mp (e1.trans e2.symm)
theorem ym(I:Inv X pins σ H s)(hN:X.N.Nodup)(hi:X.N[i]?=ae x)(hx:jq X.env.scope x)(r:RelV v u)
  (h:∀s',Inv X pins (σ.set i (ae v)) H s'->(∃a,C9 a s.heap s'.heap/\(a=X.env.locals\/X.env.cells.lookup x=ae a))->Q () s') (hf:X.fn x=ai\/X.env.scope.names.lookup x=ae .local:=by first|exact .inl rfl|exact .inr rfl|assumption):A2 M A (storeName X.env x u) Q E s:=by
 obtain⟨m,hn,hl⟩:=id I.loc;have hcls:(X.env.scope.kind==.class || (X.env.scope.kind==.module&&X.env.locals != X.env.globals))=aj:=by rw[I.ok.kind];rfl
 have hiσ:i < σ.length:=by rw[I.len];exact(Av.mp hi).1
 have cne:=I.cne;have tracked:∀{a:Addr}{h':Heap},(∃o,s.heap.get? a=ae o/\H a=ah)->C9 a s.heap h'->HOk X.prog X.w H h':=λ{a h'} ha hs b ob e=>by
  obtain⟨_,_,hfree⟩:=ha;refine(I.hok b ob e).stay (λc w' hc q=>(hs.2 c ?_).trans q) (λ_ q=>q) λ_ _ q=>q
  rintro rfl
  rcases hc with rfl|hc
  ·rw[hfree]at e;cases e
  ·rw[hfree]at hc;cases hc
 rcases hx with hk|hk
 ·refine wpAny_storeName_local hk hn (λh' hn' hs=>?_) hcls;obtain⟨oL,_,_,hoL,_⟩:=id hn;refine h _ ⟨I.ok,I.os,I.bare,⟨λb o e n hb hx=>?_,λb o e n hb hx=>?_,I.base.free,λb o e hx=>?_,I.base.tups,I.base.frzs,I.base.tbls⟩,⟨_,hn',λj y v' e1 e2 e3=>?_⟩,λy c e=>?_,I.free,I.freeC,λp hp=>?_,tracked ⟨oL,hoL,I.free⟩ hs,by simpa using I.len⟩ ⟨_,hs,.inl rfl⟩
  ·exact(hs.2 b (A5 (Bd (Aq e) I.ok.above))).trans (I.base.keep b o e n hb hx)
  ·obtain⟨sl,e1⟩:=I.base.slot b o e n hb hx;exact⟨sl,(hs.2 b (A5 (Bd (Aq e) I.ok.above))).trans e1⟩
  ·obtain⟨o',e1⟩:=I.base.there b o e hx;exact⟨o',(hs.2 b (A5 (Bd (Aq e) I.ok.above))).trans e1⟩
  ·by_cases hj:j=i
   ·subst hj;rw[hi]at e1;cases e1;rw[D6 hiσ]at e2;cases e2;exact⟨u,r,.inl ⟨hk,by simp⟩⟩
   ·rw[Bw (Ne.symm hj)]at e2;obtain⟨u',r',q⟩:=hl j y v' e1 e2 e3;refine⟨u',r',?_⟩;rcases q with⟨k,e⟩|⟨k,c,e,z⟩
    ·refine .inl ⟨k,?_⟩;have:y≠x:=λe=>hj (ug hN e1 (e▸hi));simp[this,e]
    ·exact .inr ⟨k,c,e,z.sameBut hs (cne y c e)⟩
  ·obtain⟨w',z⟩:=I.cell y c e;exact⟨w',z.sameBut hs (cne y c e)⟩
  ·obtain⟨e,n,ne,nf,d⟩:=I.pin p hp;exact⟨(hs.2 p.1 ne).trans e,n,ne,nf,d⟩
 ·have hfn:X.fn x=ai:=by
   rcases hf with z|z
   ·exact z
   ·rw[z]at hk;cases hk
  obtain⟨c,hc⟩:=I.ok.has x (.inl hk);obtain⟨w',z⟩:=I.cell x c hc;refine wpAny_storeName_cell I.ok.kind hk hc z (λh' hc' hs=>?_);obtain⟨oc,hoc,hocd⟩:=id z;refine h {s with heap:=h'} ⟨I.ok,I.os,I.bare,⟨λb o e n hb hx=>?_,λb o e n hb hx=>?_,I.base.free,λb o e hx=>?_,I.base.tups,I.base.frzs,I.base.tbls⟩,⟨m,hn.sameBut hs (Ne.symm (cne x c hc)),λj y v' e1 e2 e3=>?_⟩,λy c' e=>?_,I.free,I.freeC,λp hp=>?_,tracked ⟨oc,hoc,I.freeC x c hc⟩ hs,by simpa using I.len⟩ ⟨c,hs,.inr hc⟩
  ·exact(hs.2 b (A5 (Bd (Aq e) (I.ok.cab x c hfn hc)))).trans (I.base.keep b o e n hb hx)
  ·obtain⟨sl,e1⟩:=I.base.slot b o e n hb hx;exact⟨sl,(hs.2 b (A5 (Bd (Aq e) (I.ok.cab x c hfn hc)))).trans e1⟩
  ·obtain⟨o',e1⟩:=I.base.there b o e hx;exact⟨o',(hs.2 b (A5 (Bd (Aq e) (I.ok.cab x c hfn hc)))).trans e1⟩
  ·by_cases hj:j=i
   ·subst hj;rw[hi]at e1;cases e1;rw[D6 hiσ]at e2;cases e2;exact⟨u,r,.inr ⟨.inl hk,c,hc,hc'⟩⟩
   ·rw[Bw (Ne.symm hj)]at e2;obtain⟨u',r',q⟩:=hl j y v' e1 e2 e3;refine⟨u',r',?_⟩;rcases q with q|⟨k,c',e,z'⟩
    ·exact .inl q
    ·refine .inr ⟨k,c',e,z'.sameBut hs ?_⟩
     rintro rfl
     exact hj (ug hN e1 (I.ok.inj _ _ _ e hc▸hi))
  ·by_cases hcc:c'=c
   ·subst hcc;exact⟨_,hc'⟩
   ·obtain⟨w2,z2⟩:=I.cell y c' e;exact⟨w2,z2.sameBut hs hcc⟩
  ·obtain⟨e,n,ne,nf,d⟩:=I.pin p hp;refine⟨(hs.2 p.1 ?_).trans e,n,ne,nf,d⟩;intro q;rw[q,hoc]at e;have q':oc=p.2:=Bc e;exact d w' (by rw[<-q'];exact hocd)
theorem qB(I:Inv X pins σ H s)(hN:X.N.Nodup)(hi:X.N[i]?=ae x)(hx:jq X.env.scope x)(r:RelV v u)
  (h:∀s',Inv X pins (σ.set i (ae v)) H s'->Q () s') (hf:X.fn x=ai\/X.env.scope.names.lookup x=ae .local:=by first|exact .inl rfl|exact .inr rfl|assumption):A2 M A (storeName X.env x u) Q E s:=
 ym I hN hi hx r (λs' I' _=>h s' I') hf
theorem Inv.call'(I:Inv X pins σ H s)(ho:s'.os=s.os)(u:Un (dg X.stack) ch H H' s.heap s'.heap)(hok:HOk X.prog X.w H' s'.heap)(hg:AllBare s'.gens)
  (hch:∀b∈ch,(b∈X.ex\/X.s₀.heap.objs.size<=b)/\b≠X.env.locals/\(∀x c,X.env.cells.lookup x=ae c->c≠b)/\∀p∈X.pn++pins,p.1≠b):Inv X pins σ H' s':=by
 obtain⟨h',g',d',t',o'⟩:=s';have e:o'=s.os:=ho;subst e;exact I.call (g':=g') (t':=t') (d':=d') u hok hg hch
end
abbrev XK:=Af->Option Addr->Hp->Prop
abbrev St:=List (Option V)
abbrev VK:=V->Hp->Prop
abbrev TE:=St->Hp->VK->Prop
abbrev TT:=St->Hp->(Bool->Hp->Prop)->Prop
abbrev TA:=St->Hp->(List V->Hp->Prop)->Prop
structure Ends where
 nx:St->Hp->Prop
 rt:VK
 bk:St->Hp->Prop:=λ_ _=>False
 ct:St->Hp->Prop:=λ_ _=>False
abbrev TS:=Ends->St->Hp->Prop
def EP(X:Cx)(pins:List (Addr×Obj))(σ:St)(Q:VK)(u:Af)(s':Ai):Prop:=∃v H',Inv X pins σ H' s'/\RelV v u/\Q v H'
def TP(X:Cx)(pins:List (Addr×Obj))(σ:St)(Q:Bool->Hp->Prop)(b:Bool)(s':Ai):Prop:=∃H',Inv X pins σ H' s'/\Q b H'
def AP(X:Cx)(pins:List (Addr×Obj))(σ:St)(Q:List V->Hp->Prop)(us:List Af)(s':Ai):Prop:=∃vs H',Inv X pins σ H' s'/\Vals vs us/\Q vs H'
def SP(X:Cx)(pins:List (Addr×Obj))(D:Ends)(f:Flow)(s':Ai):Prop:=
 match f with
 |.next=>∃σ' H',Inv X pins σ' H' s'/\D.nx σ' H'
 |.brk=>∃σ' H',Inv X pins σ' H' s'/\D.bk σ' H'
 |.cont=>∃σ' H',Inv X pins σ' H' s'/\D.ct σ' H'
 |.ret u=>∃v σ' H',Inv X pins σ' H' s'/\RelV v u/\D.rt v H'
def PE(X:Cx)(e:Expr)(t:TE):Prop:=
 ∀(pins:List (Addr×Obj))(s:Ai)(σ:St)(H:Hp)(Q:VK),Inv X pins σ H s->t σ H Q->A2 (A6 X.prog X.w) X.A (eval e X.env) (EP X pins σ Q) X.xe s
def PT(X:Cx)(e:Expr)(t:TT):Prop:=
 ∀(pins:List (Addr×Obj))(s:Ai)(σ:St)(H:Hp)(Q:Bool->Hp->Prop),Inv X pins σ H s->t σ H Q->A2 (A6 X.prog X.w) X.A (isTrue e X.env (eval e X.env)) (TP X pins σ Q) X.xe s
def PW(X:Cx)(e:Expr)(t:TT):Prop:=
 ∀(whole:Sem Af)(pins:List (Addr×Obj))(s:Ai)(σ:St)(H:Hp)(Q:Bool->Hp->Prop),Inv X pins σ H s->t σ H Q->A2 (A6 X.prog X.w) X.A (isTrue e X.env whole) (TP X pins σ Q) X.xe s
theorem PW.pt(h:PW X e t):PT X e t:=h _
def PA(X:Cx)(es:List Expr)(t:TA):Prop:=
 ∀(pos:Pos)(pins:List (Addr×Obj))(s:Ai)(σ:St)(H:Hp)(Q:List V->Hp->Prop),Inv X pins σ H s->t σ H Q->A2 (A6 X.prog X.w) X.A (spliced (Ct pos (As es X.env))) (AP X pins σ Q) X.xe s
def PS(X:Cx)(st:Stmt)(t:TS):Prop:=
 ∀(pins:List (Addr×Obj))(s:Ai)(σ:St)(H:Hp)(D:Ends),Inv X pins σ H s->t D σ H->A2 (A6 X.prog X.w) X.A (exec st X.env) (SP X pins D) X.xe s
def PSs(X:Cx)(st:List Stmt)(t:TS):Prop:=
 ∀(pins:List (Addr×Obj))(s:Ai)(σ:St)(H:Hp)(D:Ends),Inv X pins σ H s->t D σ H->A2 (A6 X.prog X.w) X.A (execs st X.env) (SP X pins D) X.xe s
theorem aP(h:A2 M A t Q E s)(hQ:∀a s,Q a s->Q' a s):A2 M A t Q' E s:=B4 h hQ λ_ _ x=>x
section
variable{X:Cx}
theorem Uz(ha:PE X a ta)(hb:PE X b tb){σ:St}{R:V->V->Hp->Prop}(I:Inv X pins σ H s)(h:ta σ H λx H1=>tb σ H1 λy H2=>R x y H2)
   {Q:α->Ai->Prop} {f:Af->Af->Sem α}
  (hf:∀v u s2 x y H2,Inv X pins σ H2 s2->RelV x v->RelV y u->R x y H2->A2 (A6 X.prog X.w) X.A (f v u) Q X.xe s2):
  A2 (A6 X.prog X.w) X.A (eval a X.env) (λv s₁=>A2 (A6 X.prog X.w) X.A (eval b X.env) (λu s₂=>A2 (A6 X.prog X.w) X.A (f v u) Q X.xe s₂) X.xe s₁) X.xe s:=by
 refine aP (ha pins s σ H _ I h) λv s1 ⟨x,H1,I1,r1,q1⟩=>?_;refine aP (hb pins s1 σ H1 _ I1 q1) λu s2 ⟨y,H2,I2,r2,q2⟩=>?_;exact hf v u s2 x y H2 I2 r1 r2 q2
def cC(i:Nat):TE:=λσ H Q=>∃v,σ[i]?=ae (ae v)/\Q v H
def tC(v:V):TE:=λ_ H Q=>Q v H
theorem fJ{pos:Pos}(hN:X.N[i]?=ae x)(hv:fH X.env.scope x)(hd:(x==("__debug__":Str))=aj:=by decide)(hcd:(x==("__classdict__":Str))=aj:=by decide):PE X (.Name x pos) (cC i):=by
 intro pins s σ H Q I h;obtain⟨v,e,h⟩:=h;obtain⟨m,hn,hl⟩:=I.loc;obtain⟨u,r,l⟩:=hl i x v hN e hv;have fin:EP X pins σ Q u s:=⟨v,H,I,r,h⟩;rcases l with⟨hk,hm⟩|⟨hk,c,hc,hcell⟩
 ·exact wpAny_Name (wpAny_loadName_local I.ok.kind hk hn hm fin) hd
 ·rcases hk with hk|hk
  ·exact wpAny_Name (wpAny_loadName_cell I.ok.kind hk hc hcell fin) hd
  ·exact wpAny_Name (wpAny_loadName_free I.ok.kind hk hc hcell fin hcd) hd
theorem cH{i j pos}:PE X (.Constant (.int i) j pos) (tC (.int i)):=λ_ _ _ H _ I h=>wpAny_Constant_int ⟨.int i,H,I.tok _,⟨_,rfl⟩,h⟩
theorem Tf{b j pos}:PE X (.Constant (.bool b) j pos) (tC (.bl b)):=λ_ _ _ H _ I h=>Constant_bool ⟨.bl b,H,I,rfl,h⟩
theorem qK{j pos}:PE X (.Constant .none j pos) (tC .non):=λ_ _ _ H _ I h=>Constant_none ⟨.non,H,I,rfl,h⟩
theorem sk{x j pos}:PE X (.Constant (.str x) j pos) (tC (.str x)):=λ_ _ _ H _ I h=>Calls.Constant_str ⟨.str x,H,I.tok _,⟨_,rfl⟩,h⟩
def Gl(X:Cx)(x:Str):Prop:=X.env.kindOf x=ae .globalImplicit
theorem mF{σ:St}(I:Inv X pins σ H s)(hg:Gl X x)(hm:X.mg x=ae u)(h:Q u s)
  (hd:(x==("__debug__":Str))=aj:=by decide):A2 (A6 X.prog X.w) X.A (eval (.Name x pos) X.env) Q E s:=
 Calls.Name_function_global I.ok.kind hg (Calls.loadGlobal_global (by rw[I.ok.glob];exact I.mod.glob.keeps I.bk) hm h) hd
theorem mn{E:Af->Ai->Prop}{σ:St}{pos:Pos}{Q:Af->Ai->Prop}(I:Inv X pins σ H s)(hg:Gl X x)(hm:X.mg x=ah)(hv:By x=ae u)(h:Q u s)
  (hn:x≠"__name__":=by decide) (hd:(x==("__debug__":Str))=aj:=by decide):A2 (A6 X.prog X.w) X.A (eval (.Name x pos) X.env) Q E s:=by
 obtain⟨mb,h1,h2⟩:=I.mod.blt;exact Calls.Name_function_global I.ok.kind hg (Calls.loadGlobal_builtin (by rw[I.ok.glob];exact I.mod.glob.keeps I.bk) hm (by rw[I.ok.blt];exact h1.keeps I.bk) ((h2 x hn).trans hv) h) hd
theorem ju(hg:Gl X x)(hm:X.mg x=ae u)(r:RelV v u)(hd:(x==("__debug__":Str))=aj:=by decide):PE X (.Name x pos) (tC v):=
 λ_ _ _ H _ I h=>mF I hg hm ⟨v,H,I,r,h⟩ hd
theorem tL{pos:Pos}(hg:Gl X x)(hm:X.mg x=ah)(hv:By x=ae u)(r:RelV v u)(hn:x≠"__name__":=by decide)(hd:(x==("__debug__":Str))=aj:=by decide):PE X (.Name x pos) (tC v):=
 λ_ _ _ H _ I h=>mn I hg hm hv ⟨v,H,I,r,h⟩ hn hd
variable{a b:Expr}{ta tb:TE}{pos:Pos}
def PC(X:Cx)(op:CmpOp)(a b:Expr)(t:TE):Prop:=
 ∀(pins:List (Addr×Obj))(s:Ai)(σ:St)(H:Hp)(Q:VK),Inv X pins σ H s->t σ H Q->
  A2 (A6 X.prog X.w) X.A (eval a X.env) (λv s₁=>A2 (A6 X.prog X.w) X.A (eval b X.env) (λu s₂=>A2 (A6 X.prog X.w) X.A (B3 op v u) (EP X pins σ Q) X.xe s₂) X.xe s₁) X.xe s
theorem yV(b)(h:op≠.In)(h2:op≠.NotIn):Cf op b=aj:=by
 have e1:(op==CmpOp.In)=aj:=by cases op<;>first|rfl|exact absurd rfl h
 have e2:(op==CmpOp.NotIn)=aj:=by cases op<;>first|rfl|exact absurd rfl h2
 cases b<;>simp[Cf,e1,e2]
def tB(t:TE):TT:=λσ H Q=>t σ H λx H1=>∃c,x=.bl c/\Q c H1
theorem BW(h:PC X op a b t)(h1:Cf op b=aj:=by first|exact yV _ ∎ ∎|rfl):PE X (.Compare a [op] [b] pos) t:=λpins s σ H Q I hw=>wpAny_Compare1 (h pins s σ H Q I hw) h1
theorem Kn(h:PC X op a b t)(h1:Cf op b=aj:=by first|exact yV _ ∎ ∎|rfl):PT X (.Compare a [op] [b] pos) (tB t):=by
 intro pins s σ H Q I hw;refine wpAny_isTrue_Compare1 (aP (h pins s σ H _ I hw) λv s1 h1=>aP h1 λu s2 h2=>aP h2 λc s3 ⟨x,H1,I1,r1,q1⟩=>?_) h1;obtain⟨d,rfl,q⟩:=q1;cases r1;exact Ep ⟨H1,I1,q⟩
theorem oP(h:PE X e t)(he:∀whole,isTrue e X.env whole=(do let v <-whole;standAt e.pos;holding [v] (truthy v)):=by intro _;rfl):PT X e (tB t):=by
 intro pins s σ H Q I hw;refine isTrue_plain (aP (h pins s σ H _ I hw) λv s1 ⟨x,H1,I1,r1,q1⟩=>?_) (he _);obtain⟨d,rfl,q⟩:=q1;cases r1;exact Ep ⟨H1,I1,q⟩
variable{tA tB':TT}{rest:List Expr}
def nN(t u:TT):TT:=λσ H Q=>t σ H λc H1=>if c=ai then u σ H1 Q else Q aj H1
def xg(t u:TT):TT:=λσ H Q=>t σ H λc H1=>if c=ai then Q ai H1 else u σ H1 Q
def nQ(t:TT):TT:=λσ H Q=>t σ H λc H1=>Q (!c) H1
theorem vI(ha:PT X a tA):PW X (.BoolOp .And [a] pos) tA:=by
 intro wh pins s σ H Q I h;refine isTrue_and (aP (ha pins s σ H Q I h) λc s1 e=>?_);cases c with
 |true=>exact isTrue_and_nil e
 |false=>exact e
theorem Kh(ha:PT X a tA):PW X (.BoolOp .Or [a] pos) tA:=by
 intro wh pins s σ H Q I h;refine isTrue_or (aP (ha pins s σ H Q I h) λc s1 e=>?_);cases c with
 |false=>exact isTrue_or_nil e
 |true=>exact e
theorem qc(ha:PT X a tA)(hb:PW X (.BoolOp .And (b::rest) pos) tB'):PW X (.BoolOp .And (a::b::rest) pos) (nN tA tB'):=by
 intro wh pins s σ H Q I h;refine isTrue_and (aP (ha pins s σ H _ I h) λc s1 ⟨H1,I1,q1⟩=>?_);cases c with
 |true=>exact hb wh pins s1 σ H1 Q I1 q1
 |false=>exact⟨H1,I1,q1⟩
theorem JI(ha:PT X a tA)(hb:PW X (.BoolOp .Or (b::rest) pos) tB'):PW X (.BoolOp .Or (a::b::rest) pos) (xg tA tB'):=by
 intro wh pins s σ H Q I h;refine isTrue_or (aP (ha pins s σ H _ I h) λc s1 ⟨H1,I1,q1⟩=>?_);cases c with
 |true=>exact⟨H1,I1,q1⟩
 |false=>exact hb wh pins s1 σ H1 Q I1 q1
theorem Ih(ha:PT X a tA):PT X (.UnaryOp .Not a pos) (nQ tA):=by
 intro pins s σ H Q I h;exact isTrue_not (ha pins s σ H (λc H1=>Q (!c) H1) I h)
def zT(ta tb:TE):TE:=λσ H Q=>ta σ H λx H1=>∃c,x=.bl c/\if c=ai then tb σ H1 Q else Q (.bl aj) H1
def og(ta tb:TE):TE:=λσ H Q=>ta σ H λx H1=>∃c,x=.bl c/\if c=ai then Q (.bl ai) H1 else tb σ H1 Q
def AR(ta:TE):TE:=λσ H Q=>ta σ H λx H1=>∃c,x=.bl c/\Q (.bl (!c)) H1
theorem Sg{op}(h:PE X a t):PE X (.BoolOp op [a] pos) t:=λpins s σ H Q I hw=>BoolOp_one (h pins s σ H Q I hw)
theorem LK(ha:PE X a ta)(hb:PE X (.BoolOp .And (b::rest) pos) tb):PE X (.BoolOp .And (a::b::rest) pos) (zT ta tb):=by
 intro pins s σ H Q I h;refine BoolOp_and (aP (ha pins s σ H _ I h) λv s1 ⟨x,H1,I1,r1,q1⟩=>?_);obtain⟨c,rfl,q1⟩:=q1;cases r1;refine Ep ?_;cases c with
 |true=>exact hb pins s1 σ H1 Q I1 q1
 |false=>exact⟨.bl aj,H1,I1,rfl,q1⟩
theorem K9(ha:PE X a ta)(hb:PE X (.BoolOp .Or (b::rest) pos) tb):PE X (.BoolOp .Or (a::b::rest) pos) (og ta tb):=by
 intro pins s σ H Q I h;refine BoolOp_or (aP (ha pins s σ H _ I h) λv s1 ⟨x,H1,I1,r1,q1⟩=>?_);obtain⟨c,rfl,q1⟩:=q1;cases r1;refine Ep ?_;cases c with
 |false=>exact hb pins s1 σ H1 Q I1 q1
 |true=>exact⟨.bl ai,H1,I1,rfl,q1⟩
theorem RM(ha:PE X a ta):PE X (.UnaryOp .Not a pos) (AR ta):=by
 intro pins s σ H Q I h;refine UnaryOp_ (aP (ha pins s σ H _ I h) λv s1 ⟨x,H1,I1,r1,q1⟩=>?_);obtain⟨c,rfl,q1⟩:=q1;cases r1;exact not_of (Ep ⟨.bl (!c),H1,I1,rfl,q1⟩)
def yG(t:TT)(ta tb:TE):TE:=λσ H Q=>t σ H λc H1=>if c=ai then ta σ H1 Q else tb σ H1 Q
theorem Qs(hc:PT X c tA)(ha:PE X a ta)(hb:PE X b tb):PE X (.IfExp c a b pos) (yG tA ta tb):=by
 intro pins s σ H Q I h;refine wpAny_IfExp (aP (hc pins s σ H _ I h) λd s1 ⟨H1,I1,q1⟩=>?_);cases d with
 |true=>exact ha pins s1 σ H1 Q I1 q1
 |false=>exact hb pins s1 σ H1 Q I1 q1
end
def SqL(K:Ah)(H:Hp)(a:Addr)(xs:List V):Prop:=
 Rd H a (.lst xs) \/
  ∃(o:Obj)(its:Array Af)(n:Nat),K.lookup a=ae o/\o.cls=.type "list"/\o.dict=ah/\o.data=.seq its n/\its.size<=Ay/\Vals xs its.toList
def SqT(K:Ah)(H:Hp)(a:Addr)(xs:List V):Prop:=
 Rd H a (.tup xs) \/
  ∃(o:Obj)(its:Array Af)(n:Nat),K.lookup a=ae o/\o.cls=.type "tuple"/\o.data=.seq its n/\its.size<=Ay/\Vals xs its.toList
def tE:Af->Option V
 |.none=>ae .non
 |.bool b=>ae (.bl b)
 |.int i _=>ae (.int i)
 |.str x _=>ae (.str x)
 |.bytes b _=>ae (.byt b)
 |.float b _=>ae (.flt b)
 |.ref a=>ae (.ref a)
 |.type n=>ae (.ty n)
 |_=>ah
theorem RelV.abs(r:RelV x u):tE u=ae x:=by
 cases x with
 |non=>cases r;rfl
 |bl _=>cases r;rfl
 |int _=>obtain⟨t,rfl⟩:=r;rfl
 |str _=>obtain⟨t,rfl⟩:=r;rfl
 |byt _=>obtain⟨t,rfl⟩:=r;rfl
 |flt _=>obtain⟨t,rfl⟩:=r;rfl
 |ref _=>cases r;rfl
 |ty _=>cases r;rfl
theorem RelV.inj(r:RelV x u)(q:RelV y u):x=y:=Bc (r.abs.symm.trans q.abs)
theorem Vals.inj:∀{xs ys:List V}{us:List Af},Vals xs us->Vals ys us->xs=ys
 |_,_,_,.nil,.nil=>rfl
 |_,_,_,.cons r t,.cons r' t'=>by rw[r.inj r',Vals.inj t t']
section
variable{X:Cx}{pins:List (Addr×Obj)}{σ:St}{H:Hp}{s:Ai}{a:Addr}{xs ys:List V}
theorem SqL.of{K:Ah}(h:H a=ae (.lst xs)):SqL K H a xs:=.inl (.inl h)
theorem SqT.of{K:Ah}(h:H a=ae (.tup xs)):SqT K H a xs:=.inl (.inl h)
theorem Inv.list(I:Inv X pins σ H s)(h:SqL X.K H a xs):∃its:List Af,Vals xs its/\PlainL s.heap a its.toArray/\xs.length<=Ay:=by
 rcases h with h|⟨o,its,n,hk,hc,hd,hs,hz,r⟩
 ·obtain⟨z,its,n,r,e⟩:=h.ok I.hok;exact⟨its,r,⟨_,n,e,rfl,rfl,rfl⟩,z⟩
 ·refine⟨its.toList,r,⟨o,n,I.kIn a o hk,hc,hd,by simpa using hs⟩,?_⟩;have e:=r.length;simp only[C3]at e;omega
theorem Inv.tuple(I:Inv X pins σ H s)(h:SqT X.K H a xs):∃its:List Af,Vals xs its/\IsTup s.heap a its.toArray/\xs.length<=Ay:=by
 rcases h with h|⟨o,its,n,hk,hc,hs,hz,r⟩
 ·obtain⟨z,its,r,p⟩:=h.ok I.hok;exact⟨its,r,p.tup,z⟩
 ·refine⟨its.toList,r,⟨o,I.kIn a o hk,hc,n,by simpa using hs⟩,?_⟩;have e:=r.length;simp only[C3]at e;omega
theorem Inv.list_inj(I:Inv X pins σ H s)(h:SqL X.K H a xs)(h':SqL X.K H a ys):xs=ys:=by
 obtain⟨its,r,⟨o,n,e,_,_,d⟩,_⟩:=I.list h;obtain⟨its',r',⟨o',n',e',_,_,d'⟩,_⟩:=I.list h';rw[e]at e';cases e';rw[d]at d';injection d' with d1 _;have:its=its':=by simpa using congrArg Array.toList d1
 subst this;exact r.inj r'
theorem Inv.tuple_inj(I:Inv X pins σ H s)(h:SqT X.K H a xs)(h':SqT X.K H a ys):xs=ys:=by
 obtain⟨its,r,⟨o,e,_,n,d⟩,_⟩:=I.tuple h;obtain⟨its',r',⟨o',e',_,n',d'⟩,_⟩:=I.tuple h';rw[e]at e';cases e';rw[d]at d';injection d' with d1 _;have:its=its':=by simpa using congrArg Array.toList d1
 subst this;exact r.inj r'
end
abbrev Cx.wish(X:Cx)(E:Af->Ai->Prop):Cx:={ X with xe:=E}
abbrev Cx.nox(X:Cx):Cx:=X.wish λ_ _=>False
theorem Cx.Ok.wish{X:Cx}(ok:X.Ok)(E):(X.wish E).Ok:=
 ⟨ok.mod,ok.kind,ok.glob,ok.blt,ok.above,ok.inj,ok.has,ok.cab,ok.hd,ok.frames,ok.stk,ok.exf,ok.bs,ok.bsz,ok.noex,ok.exfs,ok.funs,ok.frf⟩
theorem Cx.Ok.unwish{X:Cx}(ok:(X.wish E).Ok):X.Ok:=
 ⟨ok.mod,ok.kind,ok.glob,ok.blt,ok.above,ok.inj,ok.has,ok.cab,ok.hd,ok.frames,ok.stk,ok.exf,ok.bs,ok.bsz,ok.noex,ok.exfs,ok.funs,ok.frf⟩
section
variable{X:Cx}{pins:List (Addr×Obj)}{σ:St}{H:Hp}{s:Ai}{E:Af->Ai->Prop}
theorem Inv.wish(I:Inv X pins σ H s)(E):Inv (X.wish E) pins σ H s:=⟨I.ok.wish E,I.os,I.bare,I.base,I.loc,I.cell,I.free,I.freeC,I.pin,I.hok,I.len⟩
theorem Inv.unwish(I:Inv (X.wish E) pins σ H s):Inv X pins σ H s:=⟨I.ok.unwish,I.os,I.bare,I.base,I.loc,I.cell,I.free,I.freeC,I.pin,I.hok,I.len⟩
theorem SP.unwish(h:SP (X.wish E) pins D f s'):SP X pins D f s':=by
 cases f with
 |next=>obtain⟨σ',H',I,q⟩:=h;exact⟨σ',H',I.unwish,q⟩
 |brk=>obtain⟨σ',H',I,q⟩:=h;exact⟨σ',H',I.unwish,q⟩
 |cont=>obtain⟨σ',H',I,q⟩:=h;exact⟨σ',H',I.unwish,q⟩
 |ret u=>obtain⟨v,σ',H',I,r,q⟩:=h;exact⟨v,σ',H',I.unwish,r,q⟩
theorem PSs.nox{st:List Stmt}(h:PSs X.nox st t):PSs X st t:=λpins s σ H D I hw=>
 B4 (h pins s σ H D (I.wish _) hw) (λ_ _ q=>q.unwish) λ_ _ z=>False.elim z
end
section
variable{X:Cx}{st:Stmt}{rest:List Stmt}{t u:TS}{e:Expr}{te:TE}{pos:Pos}
def yr:TS:=λD σ H=>D.nx σ H
def jI(t u:TS):TS:=λD σ H=>t {D with nx:=u D} σ H
theorem lY:PSs X [] yr:=λ_ _ σ H _ I h=>wpAny_execs_nil ⟨σ,H,I,h⟩
theorem gf(h1:PS X st t)(h2:PSs X rest u):PSs X (st::rest) (jI t u):=by
 intro pins s σ H D I h;refine wpAny_execs_cons (aP (h1 pins s σ H {D with nx:=u D} I h) λf s1 q=>?_);cases f with
 |next=>
  obtain⟨σ',H',I',q⟩:=q;exact h2 pins s1 σ' H' D I' q
 |ret v=>exact q
 |brk=>exact q
 |cont=>exact q
theorem fY(h1:PS X st t):PSs X [st] t:=by
 intro pins s σ H D I h;refine wpAny_execs_cons (aP (h1 pins s σ H D I h) λf s1 q=>?_);cases f with
 |next=>exact wpAny_execs_nil q
 |ret v=>exact q
 |brk=>exact q
 |cont=>exact q
theorem Inv.quiet{σ:St}(I:Inv X pins σ H s):interactive X.env=aj:=by simp[interactive,I.ok.kind]
def j9(te:TE):TS:=λD σ H=>te σ H λ_ H1=>D.nx σ H1
theorem qw(he:PE X e te)(hs:Da e ah pos.line X.env=pure aj:=by rfl):PS X (.Expr e pos) (j9 te):=by
 intro pins s σ H D I h;exact wpAny_Expr_any (aP (he pins s σ H _ I h) λv s1 ⟨x,H1,I1,r1,q1⟩=>⟨σ,H1,I1,q1⟩) I.quiet hs
def lR(te:TE):TS:=λD σ H=>te σ H D.rt
theorem me(he:PE X e te):PS X (.Return (ae e) pos) (lR te):=by
 intro pins s σ H D I h;exact wpAny_Return_some (aP (he pins s σ H _ I h) λv s1 ⟨x,H1,I1,r1,q1⟩=>⟨x,σ,H1,I1,r1,q1⟩)
def hZ(c:TT)(t u:TS):TS:=λD σ H=>c σ H λb H1=>if b=ai then t D σ H1 else u D σ H1
theorem jo(hc:PT X c tc)(ha:PSs X a t)(hb:PSs X b u):PS X (.If c a b pos) (hZ tc t u):=by
 intro pins s σ H D I h;refine wpAny_If (aP (hc pins s σ H _ I h) λd s1 ⟨H1,I1,q1⟩=>?_);cases d with
 |true=>exact ha pins s1 σ H1 D I1 q1
 |false=>exact hb pins s1 σ H1 D I1 q1
end
abbrev TG:=V->St->Hp->(St->Hp->Prop)->Prop
abbrev iy:=List V->St->Hp->(St->Hp->Prop)->Prop
def PG(X:Cx)(target:Expr)(t:TG):Prop:=
 ∀(pins:List (Addr×Obj))(s:Ai)(σ:St)(H:Hp)(v:V)(u:Af)(Q:St->Hp->Prop),Inv X pins σ H s->RelV v u->t v σ H Q->
  A2 (A6 X.prog X.w) X.A (assign target X.env u) (λ_ s'=>∃σ' H',Inv X pins σ' H' s'/\Q σ' H') X.xe s
def oK(X:Cx)(ts:List Expr)(t:iy):Prop:=
 ∀(pins:List (Addr×Obj))(s:Ai)(σ:St)(H:Hp)(vs:List V)(us:List Af)(Q:St->Hp->Prop),Inv X pins σ H s->Vals vs us->t vs σ H Q->
  A2 (A6 X.prog X.w) X.A (assignInOrder ((D8 ts X.env).map (·.2)) us) (λ_ s'=>∃σ' H',Inv X pins σ' H' s'/\Q σ' H') X.xe s
abbrev kK:=V->V->V->Hp->(Hp->Prop)->Prop
def mZ(X:Cx)(t:kK):Prop:=
 ∀(pins:List (Addr×Obj))(s:Ai)(σ:St)(H:Hp)(o i v:V)(ov iv u:Af)(Q:Hp->Prop),Inv X pins σ H s->RelV o ov->RelV i iv->RelV v u->t o i v H Q->
  A2 (A6 X.prog X.w) X.A (setItem ov iv u) (λ_ s'=>∃H',Inv X pins σ H' s'/\Q H') X.xe s
section
variable{X:Cx}{pos:Pos}
def gm(i:Nat):TG:=λv σ H Q=>Q (σ.set i (ae v)) H
theorem LA(hN:X.N.Nodup)(hi:X.N[i]?=ae x)(hx:jq X.env.scope x)(hf:X.fn x=ai\/X.env.scope.names.lookup x=ae .local:=by first|exact .inl rfl|exact .inr rfl|assumption):PG X (.Name x pos) (gm i):=by
 intro pins s σ H v u Q I r h;exact wpAny_assign_Name (qB I hN hi hx r (λs' I'=>⟨_,H,I',h⟩) hf)
def nR:iy:=λvs σ H Q=>vs=[]/\Q σ H
def zh(t:TG)(u:iy):iy:=λvs σ H Q=>∃v r,vs=v::r/\t v σ H λσ' H'=>u r σ' H' Q
theorem RI:oK X [] nR:=by
 intro pins s σ H vs us Q I r h;obtain⟨e,h⟩:=h;subst e;cases r;exact assignInOrder_nil ⟨σ,H,I,h⟩
theorem QX(h1:PG X e t)(h2:oK X es u)
  (hs:(D8 (e::es) X.env).map (·.2)=assign e X.env::(D8 es X.env).map (·.2):=by rfl):oK X (e::es) (zh t u):=by
 intro pins s σ H vs us Q I r h;obtain⟨v,vr,e1,h⟩:=h;subst e1;cases r with
 |cons r rr=>
  rw[hs];refine assignInOrder_cons (aP (h1 pins s σ H _ _ _ I r h) λ_ s1 ⟨σ1,H1,I1,q1⟩=>?_);exact h2 pins s1 σ1 H1 _ _ Q I1 rr q1
def ku(K:Ah)(n:Nat)(t:iy):TG:=λv σ H Q=>∃a xs,v=.ref a/\SqT K H a xs/\xs.length=n/\t xs σ H Q
theorem Mu{k:Nat}(hc:X.calm=ai)(h:oK X es t)
  (hn:(D8 es X.env).length=n:=by rfl) (hst:(D8 es X.env).findIdx? (·.1)=ah:=by rfl):PG X (.Tuple es k pos) (ku X.K n t):=by
 intro pins s σ H v u Q I r hw;obtain⟨a,xs,e1,hq,hl,hw⟩:=hw;subst e1;cases r;obtain⟨its,rv,ht,hz⟩:=I.tuple hq;refine assign_Tuple_tuple (I.ok.hd hc) ht (by simp[hn,<-hl,rv.length]) hst λh' hx=>?_;have I1:Inv X pins σ H {s with heap:=h'}:=I.kept (t':=s.toks) λb o e=>hx b o (A5 (Aq e)) e;exact h pins _ σ H xs _ Q I1 (by simpa using rv) hw
def oS(to ti:TE)(t:kK):TG:=λv σ H Q=>to σ H λo H1=>ti σ H1 λi H2=>t o i v H2 λH3=>Q σ H3
theorem qy(ho:PE X o to)(hi:PE X i ti)(hs:mZ X t)
  (ha:∀v,assign (.Subscript o i pos) X.env v=(do
   let ov <-holding [v] (eval o X.env)
   let iv <-holding [v,ov] (eval i X.env)
   standAt pos
   holding [v,ov,iv] (setItem ov iv v)
   release [v,ov,iv] []):=by intro _;rfl):PG X (.Subscript o i pos) (oS to ti t):=by
 intro pins s σ H v u Q I r h;rw[ha];refine Aa (Ce (aP (ho pins s σ H _ I h) λov s1 ⟨x,H1,I1,r1,q1⟩=>?_));refine Aa (Ce (aP (hi pins s1 σ H1 _ I1 q1) λiv s2 ⟨y,H2,I2,r2,q2⟩=>?_));refine Aa (Gh (Aa (Ce (aP (hs pins s2 σ H2 x y v ov iv u _ I2 r1 r2 r q2) λ_ s3 ⟨H3,I3,q3⟩=>?_))));exact wpAny_release ⟨σ,H3,I3,q3⟩
def dh(te:TE)(g:TG):TS:=λD σ H=>te σ H λx H1=>g x σ H1 D.nx
theorem nL(he:PE X e te)(hg:PG X tg g)(hs:swapsWithSole [tg] e pos.line X.env=pure aj:=by rfl)(hw:swappedStores [tg] e X.env=pure ah:=by rfl)
  (h1:(D8 [tg] X.env).map (·.2)=[assign tg X.env]:=by rfl):PS X (.Assign [tg] e pos) (dh te g):=by
 intro pins s σ H D I h;refine wpAny_Assign_stores (aP (he pins s σ H _ I h) λv s1 ⟨x,H1,I1,r1,q1⟩=>?_) hs hw;rw[h1];exact aP (hg pins s1 σ H1 x v _ I1 r1 q1) λ_ s2 q=>q
theorem gT(hN:X.N.Nodup)(hi:X.N[i]?=ae x)(hx:jq X.env.scope x)(he:PE X e te)(hs:Da e (ae (.Name x pos')) pos.line X.env=pure aj:=by rfl)(hf:X.fn x=ai\/X.env.scope.names.lookup x=ae .local:=by first|exact .inl rfl|exact .inr rfl|assumption):
  PS X (.Assign [.Name x pos'] e pos) (dh te (gm i)):=by
 intro pins s σ H D I h;refine wpAny_Assign_Name (aP (he pins s σ H _ I h) λv s1 ⟨y,H1,I1,r1,q1⟩=>?_) hs;exact qB I1 hN hi hx r1 (λs2 I2=>⟨_,H1,I2,q1⟩) hf
end
structure It where
 go:Nat->Hp->Prop
 yld:Nat->Hp->V->Hp->Prop
 stop:Nat->Hp->Prop
def cW(X:Cx)(pins:List (Addr×Obj))(H:Hp)(b:Addr):Prop:=
 H b=ah/\b≠X.env.locals/\b∉X.fs/\(b∈X.ex\/X.s₀.heap.objs.size<=b)/\(∀x c,X.env.cells.lookup x=ae c->c≠b)/\∀p∈X.pn++pins,p.1≠b
theorem Inv.fpOk{σ:St}{b:Addr}(I:Inv X pins σ H s)(hb:s.heap.objs.size<=b)(hn:H' b=ah):cW X pins H' b:=by
 refine⟨hn,D9 (Bd I.lt hb),I.nofs hb,.inr (A9 I.sz hb),λx c e z=>?_,λp hp z=>?_⟩
 ·obtain⟨v,q⟩:=I.cell x c e;exact absurd (Bd q.lt (by rw[z];exact hb)) (Fh _)
 ·exact absurd (Bd (Aq (I.pin p hp).1) (by rw[z];exact hb)) (Fh _)
structure Turn(P:A7)(w:Bk)(K:Ah)(tg:Expr)(J:It)(fp:List Addr)(it:Addr)(tn:Nat->Heap->Prop):Prop where
 mem:it∈fp
 obj:∀i h,tn i h->∀b∈fp,∃o,h.get? b=ae o/\∀v,o.data≠.cell v
 keep:∀i h h',tn i h->(∀b∈fp,∀o,h.get? b=ae o->h'.get? b=ae o)->tn i h'
 item:∀(X:Cx),X.prog=P->X.w=w->X.K=K->X.calm=ai->∀(i:Nat)(pins:List (Addr×Obj))(s:Ai)(σ:St)(H:Hp)(E:Af->Ai->Prop),Inv X pins σ H s->(∀b∈fp,cW X pins H b)->tn i s.heap->J.go i H->
  A2 (A6 P w) X.A (E2 (.ref it)) (λr s1=>∃u,r=ae u /\
   A2 (A6 P w) X.A (letOwnedTupleGo tg (.ref it) u) (λ_ s2=>∃x H',Inv X pins σ H' s2/\RelV x u/\J.yld i H x H'/\tn (i+1) s2.heap/\∀b∈fp,H' b=ah) E s1) E s
 done:∀(X:Cx),X.prog=P->X.w=w->X.K=K->X.calm=ai->∀(i:Nat)(pins:List (Addr×Obj))(s:Ai)(σ:St)(H:Hp)(E:Af->Ai->Prop),Inv X pins σ H s->(∀b∈fp,cW X pins H b)->tn i s.heap->J.stop i H->
  A2 (A6 P w) X.A (E2 (.ref it)) (λr s1=>r=ah/\Inv X pins σ H s1) E s
 self:∀(A:Bu)(i:Nat)(s:Ai)(Q:Af->Ai->Prop)(E:Af->Ai->Prop),tn i s.heap->Q (.ref it) s->A2 (A6 P w) A (pyIter (.ref it)) Q E s
abbrev TI:=St->Hp->(It->Hp->Prop)->Prop
def CI(X:Cx)(pins:List (Addr×Obj))(σ:St)(tg:Expr)(R:It->Hp->Prop)(itv:Af)(s2:Ai):Prop:=
 ∃(it:Addr)(fp:List Addr)(tn:Nat->Heap->Prop)(J:It)(H':Hp),itv=.ref it/\Inv X pins σ H' s2/\Turn X.prog X.w X.K tg J fp it tn/\tn 0 s2.heap/\(∀b∈fp,cW X pins H' b)/\R J H'
def PI(X:Cx)(tg iter:Expr)(wi:TI):Prop:=
 ∀(pins:List (Addr×Obj))(s:Ai)(σ:St)(H:Hp)(R:It->Hp->Prop),Inv X pins σ H s->wi σ H R->
  A2 (A6 X.prog X.w) X.A (eval iter X.env) (λv s1=>A2 (A6 X.prog X.w) X.A (pyIter v) (CI X pins σ tg R) X.xe s1) X.xe s
theorem vz(ho:s.heap.get? it=ae o)(hc:o.cls=.type n)(hd:o.data=.fields vs)
  (hn:["enumerate","zip","dict_itemiterator","dict_reverseitemiterator","odict_iterator","itertools.zip_longest","itertools.pairwise"].contains n=aj) (hQ:Q () s):A2 M A (letOwnedTupleGo tg (.ref it) u) Q E s:=by
 unfold letOwnedTupleGo;cases tg<;>first
  |exact Aj hQ
  | (cases u<;>first
    |exact Aj hQ
    | (refine Aa (wpAny_load ho ?_)
       rw[hc,hd];show A2 M A (if (["enumerate","zip","dict_itemiterator","dict_reverseitemiterator","odict_iterator","itertools.zip_longest","itertools.pairwise"].contains n&&vs[0]?==ae (Cs _))=ai then _ else _) Q E s;rw[if_neg (by intro h;rw[hn,Bool.false_and]at h;cases h)];exact Aj hQ))
def GG(K:Ah)(a:Addr):It:=
 ⟨λi H=>∃xs x,SqL K H a xs/\xs[i]?=ae x,λi H x H'=>H'=H/\∀xs,SqL K H a xs->xs[i]?=ae x,λi H=>∃xs,SqL K H a xs/\xs.length<=i⟩
def FU(K:Ah)(a:Addr):It:=
 ⟨λi H=>∃xs x,SqT K H a xs/\xs[i]?=ae x,λi H x H'=>H'=H/\∀xs,SqT K H a xs->xs[i]?=ae x,λi H=>∃xs,SqT K H a xs/\xs.length<=i⟩
def qe(lo:Int)(n:Nat):It:=⟨λi _=>i < n,λi H x H'=>H'=H/\x=.int (lo+i),λi _=>n<=i⟩
theorem KY{K:Ah}(a it):Turn P w K tg (GG K a) [it] it (λi h=>h.IsListIter it a i) where
 mem:=by simp
 obj:=λi h st b hb=>by
  have e:b=it:=by simpa using hb
  subst e;obtain⟨o,e,c,d⟩:=st;exact⟨o,e,λv z=>by rw[d]at z;cases z⟩
 keep:=λi h h' st k=>st.at λo e=>k it (by simp) o e
 item:=by
  intro X hP hw hK hc i pins s σ H E I hf st hg;subst hP hw hK;obtain⟨xs,x,hq,hx⟩:=hg;obtain⟨its,rv,p,hz⟩:=I.list hq;obtain⟨u,hu,ru⟩:=rv.get hx;obtain⟨f0,f1,f2,f3,f4,f5⟩:=hf it (by simp);refine wpAny_pyNext_list_item st p.isList (x:=u) (by simpa using hu) λh' st' sb=>?_;have I1:Inv X pins σ H {s with heap:=h'}:=I.turned (t':=s.toks) (λb o hb e=>(sb.2 b hb).trans e) f0 f1 f3 f4 f5;obtain⟨o,e,c,d⟩:=id st';exact⟨u,rfl,vz (s:={ s with heap:=h'}) e c d ∎ ⟨x,H,I1,ru,⟨rfl,λys hy=>by rw[I.list_inj hy hq];exact hx⟩,st',λb hb=>(hf b hb).1⟩⟩
 done:=by
  intro X hP hw hK hc i pins s σ H E I hf st hg;subst hP hw hK;obtain⟨xs,hq,hx⟩:=hg;obtain⟨its,rv,p,hz⟩:=I.list hq;obtain⟨f0,f1,f2,f3,f4,f5⟩:=hf it (by simp);have hl:=rv.length;exact wpAny_pyNext_list_end (I.ok.hd hc) st p.isList (by simp;omega) λh' eb=>⟨rfl,I.turned (t':=s.toks) (λb o hb e=>eb b o hb e) f0 f1 f3 f4 f5⟩
 self:=λ_ _ _ _ _ st h=>wpAny_pyIter_listiter st h
theorem LJ{K:Ah}(a it):Turn P w K tg (FU K a) [it] it (λi h=>h.IsTupleIter it a i) where
 mem:=by simp
 obj:=λi h st b hb=>by
  have e:b=it:=by simpa using hb
  subst e;obtain⟨o,e,c,d⟩:=st;exact⟨o,e,λv z=>by rw[d]at z;cases z⟩
 keep:=λi h h' st k=>st.at λo e=>k it (by simp) o e
 item:=by
  intro X hP hw hK hc i pins s σ H E I hf st hg;subst hP hw hK;obtain⟨xs,x,hq,hx⟩:=hg;obtain⟨its,rv,p,hz⟩:=I.tuple hq;obtain⟨u,hu,ru⟩:=rv.get hx;obtain⟨f0,f1,f2,f3,f4,f5⟩:=hf it (by simp);refine wpAny_pyNext_tuple_item st (show s.heap.IsTuple a its.toArray from p) (x:=u) (by simpa using hu) λh' st' sb=>?_;have I1:Inv X pins σ H {s with heap:=h'}:=I.turned (t':=s.toks) (λb o hb e=>(sb.2 b hb).trans e) f0 f1 f3 f4 f5;obtain⟨o,e,c,d⟩:=id st';exact⟨u,rfl,vz (s:={ s with heap:=h'}) e c d ∎ ⟨x,H,I1,ru,⟨rfl,λys hy=>by rw[I.tuple_inj hy hq];exact hx⟩,st',λb hb=>(hf b hb).1⟩⟩
 done:=by
  intro X hP hw hK hc i pins s σ H E I hf st hg;subst hP hw hK;obtain⟨xs,hq,hx⟩:=hg;obtain⟨its,rv,p,hz⟩:=I.tuple hq;obtain⟨f0,f1,f2,f3,f4,f5⟩:=hf it (by simp);have hl:=rv.length;exact wpAny_pyNext_tuple_end (I.ok.hd hc) st (show s.heap.IsTuple a its.toArray from p) (by simp;omega) λh' eb=>⟨rfl,I.turned (t':=s.toks) (λb o hb e=>eb b o hb e) f0 f1 f3 f4 f5⟩
 self:=λ_ _ _ _ _ st h=>wpAny_pyIter_tupleiter st h
theorem J6{K:Ah}(it)(lo)(n):Turn P w K tg (qe lo n) [it] it (λi h=>IsRangeIter h it (lo+(i:Nat)*1) ((n:Int)-(i:Nat)) 1) where
 mem:=by simp
 obj:=λi h st b hb=>by
  have e:b=it:=by simpa using hb
  subst e;exact⟨_,st,λv z=>by
   have z':Data.fields _=Data.cell v:=z;cases z'⟩
 keep:=λi h h' st k=>k it (by simp) _ st
 item:=by
  intro X hP hw hK hc i pins s σ H E I hf st hg;subst hP hw hK;obtain⟨f0,f1,f2,f3,f4,f5⟩:=hf it (by simp);have W:=Walks.range (prog:=X.prog) (w:=X.w) (I.ok.hd hc) it lo 1 n;refine W.item i s _ _ hg st λv h' tk hv st' kk=>?_;obtain⟨t,rfl⟩:=hv;have I1:Inv X pins σ H {s with heap:=h',toks:=tk}:=I.turned (λb o hb e=>kk b o (by simpa using hb) e) f0 f1 f3 f4 f5;refine⟨_,rfl,vz (s:={ s with heap:=h',toks:=tk}) (n:="range_iterator") st' rfl rfl ∎ ⟨.int (lo+i),H,I1,⟨t,?_⟩,⟨rfl,rfl⟩,st',λb hb=>(hf b hb).1⟩⟩;rw[Int.mul_one]
 done:=by
  intro X hP hw hK hc i pins s σ H E I hf st hg;subst hP hw hK;obtain⟨f0,f1,f2,f3,f4,f5⟩:=hf it (by simp);exact wpAny_pyNext_range_end (I.ok.hd hc) st (by have:n<=i:=hg;omega) λh' eb=>⟨rfl,I.turned (t':=s.toks) (λb o hb e=>eb b o hb e) f0 f1 f3 f4 f5⟩
 self:=λ_ _ _ _ _ st h=>wpAny_pyIter_rangeiter st h
section
variable{X:Cx}{tg:Expr}
def uQ(K:Ah)(tl:TE):TI:=λσ H R=>tl σ H λx H1=>∃a,x=.ref a/\(∃xs,SqL K H1 a xs)/\R (GG K a) H1
def kE(K:Ah)(tl:TE):TI:=λσ H R=>tl σ H λx H1=>∃a,x=.ref a/\(∃xs,SqT K H1 a xs)/\R (FU K a) H1
theorem Ov(hl:PE X l tl):PI X tg l (uQ X.K tl):=by
 intro pins s σ H R I h;refine aP (hl pins s σ H _ I h) λv s1 ⟨x,H1,I1,r1,q1⟩=>?_;obtain⟨a,e,⟨xs,hq⟩,q⟩:=q1;subst e;cases r1;obtain⟨its,rv,p,hz⟩:=I1.list hq;refine wpAny_pyIter_list p.isList ?_;refine⟨s1.heap.objs.size,[s1.heap.objs.size],_,_,H1,rfl,I1.kept (t':=s1.toks) λb o e=>Ae _ e,KY a _,⟨_,Az _ rfl,rfl,rfl⟩,λb hb=>?_,q⟩;have e:b=s1.heap.objs.size:=by simpa using hb
 subst e;exact I1.fpOk (Ao _) (I1.hok.fresh (Ao _))
theorem Rw(hl:PE X l tl):PI X tg l (kE X.K tl):=by
 intro pins s σ H R I h;refine aP (hl pins s σ H _ I h) λv s1 ⟨x,H1,I1,r1,q1⟩=>?_;obtain⟨a,e,⟨xs,hq⟩,q⟩:=q1;subst e;cases r1;obtain⟨its,rv,p,hz⟩:=I1.tuple hq;refine Dx (show s1.heap.IsTuple a its.toArray from p) ?_;refine⟨s1.heap.objs.size,[s1.heap.objs.size],_,_,H1,rfl,I1.kept (t':=s1.toks) λb o e=>Ae _ e,LJ a _,⟨_,Az _ rfl,rfl,rfl⟩,λb hb=>?_,q⟩;have e:b=s1.heap.objs.size:=by simpa using hb
 subst e;exact I1.fpOk (Ao _) (I1.hok.fresh (Ao _))
theorem P8{σ:St}{lo hi:Int}(I:Inv X pins σ H s)(h1:-(2 ^ 62)<=lo)(h2:lo < 2 ^ 62)(h3:-(2 ^ 62)<=hi)(h4:hi < 2 ^ 62)
  (q:R (qe lo (hi-lo).toNat) H):A2 (A6 X.prog X.w) X.A (pyIter (.ref s.heap.objs.size)) (CI X pins σ tg R) E {s with heap:=s.heap.push {cls:=.type "range",data:=.fields #[.int lo t,.int hi u,.int 1 v]},toks:=tk}:=by
 refine wpAny_pyIter_range (IsRange.new ..) (small_one h1 h2 h3 h4) ?_;have I1:Inv X pins σ H {s with heap:=s.heap.push {cls:=.type "range",data:=.fields #[.int lo t,.int hi u,.int 1 v]},toks:=tk}:=I.kept λb o e=>Ae _ e;refine⟨(s.heap.push {cls:=.type "range",data:=.fields #[.int lo t,.int hi u,.int 1 v]}).objs.size,[(s.heap.push {cls:=.type "range",data:=.fields #[.int lo t,.int hi u,.int 1 v]}).objs.size],_,_,H,rfl,
  I1.kept (t':=tk) λb o e=>Ae _ e,J6 _ lo (hi-lo).toNat,?_,λb hb=>?_,q⟩
 ·have e1:lo+((0:Nat):Int)*1=lo:=by simp
  have e2:(((hi-lo).toNat:Nat):Int)-((0:Nat):Int)=Fs lo hi 1:=by rw[rangeSize_one];split<;>omega
  show IsRangeIter _ _ (lo+((0:Nat):Int)*1) ((((hi-lo).toNat:Nat):Int)-((0:Nat):Int)) 1;rw[e1,e2];exact Az _ rfl
 ·have e:b=(s.heap.push {cls:=.type "range",data:=.fields #[.int lo t,.int hi u,.int 1 v]}).objs.size:=by simpa using hb
  subst e;exact I1.fpOk (Ao _) (I1.hok.fresh (Ao _))
def zM(ta:TA):TI:=λσ H R=>ta σ H λvs H1=>∃j:Int,vs=[.int j]/\-(2 ^ 62)<=j/\j < 2 ^ 62/\R (qe 0 j.toNat) H1
theorem LB(hg:Gl X "range")(hm:X.mg "range"=ah)(ha:PA X [a] ta)(hs:As [a] X.env=[(aj,eval a X.env)]:=by rfl):PI X tg (.Call (.Name "range" p) [a] [] pos) (zM ta):=by
 intro pins s σ H R I h;refine Call_ (mn I hg hm boot_range (E4 (aP (ha pos pins s σ H _ I h) λus s1 ⟨vs,H1,I1,r1,q1⟩=>?_) hs rfl));obtain⟨j,e,q1,q2,q⟩:=q1;subst e;cases r1 with
 |cons r rr=>
  cases rr;obtain⟨t,rfl⟩:=r;exact call_range_1 (P8 I1 ⋯ ⋯ q1 q2 (by simpa using q))
def lH(wi:TI)(g:TG)(tb:TS):TS:=λD σ H=>wi σ H λJ H1=>∃W:Nat->Nat->St->Hp->Prop,(∃m,W 0 m σ H1)/\∀i m σ H,W i m σ H->
 (J.stop i H/\D.nx σ H)\/(J.go i H/\∃N:St->Hp->Prop,(∀σ' H',N σ' H'->∃m',m' < m/\W (i+1) m' σ' H')/\∀x H',J.yld i H x H'->g x σ H' λσ2 H2=>tb {D with nx:=N,ct:=N,bk:=D.nx} σ2 H2)
def lX(fp:List Addr)(h:Heap):List (Addr×Obj):=fp.filterMap λb=>(h.get? b).map λo=>(b,o)
theorem mJ(hb:b∈fp)(e:h.get? b=ae o):(b,o)∈lX fp h:=Ga.mpr ⟨b,hb,by rw[e];rfl⟩
theorem Qp(hp:p∈lX fp h):p.1∈fp/\h.get? p.1=ae p.2:=by
 obtain⟨b,hb,e⟩:=Ga.mp hp;cases q:h.get? b with
 |none=>rw[q]at e;cases e
 |some o=>
  rw[q]at e;have e':(b,o)=p:=Bc e;subst e';exact⟨hb,q⟩
theorem Inv.pinned{σ:St}(I:Inv X pins σ H s)(hf:∀b∈fp,cW X pins H b)(ho:∀b∈fp,∃o,s.heap.get? b=ae o/\∀v,o.data≠.cell v):Inv X (pins++lX fp s.heap) σ H s:=
 I.pins_of λp hp=>(Ba.mp hp).elim (λz=>I.pin p (Bf _ z)) λz=>by
  obtain⟨hb,e⟩:=Qp z;obtain⟨f0,f1,f2,_⟩:=hf p.1 hb;obtain⟨o,e',d⟩:=ho p.1 hb;rw[e]at e';cases e';exact⟨e,f0,f1,f2,d⟩
theorem Inv.unpinned{σ:St}(I:Inv X (pins++pl) σ H s):Inv X pins σ H s:=I.pins_of λp hp=>I.pin p (Bf _ (Dw _ hp))
theorem DD(hp:PassesOwn (A6 X.prog X.w) X.A X.env X.xe)(hc:X.calm=ai)(hi:PI X tg iter wi)(hg:PG X tg g)(hb:PSs X body tb)
  (hs:∀x,D4 iter X.env x=pure x:=by intro _;rfl):PS X (.For tg iter body [] pos) (lH wi g tb):=by
 intro pins s σ H D I h;refine wpAny_For (aP (hi pins s σ H _ I h) λv s1 h1=>aP h1 λitv s2 h2=>?_) hs;obtain⟨it,fp,tn,J,H2,e,I2,T,st2,f2,W,⟨m0,w0⟩,turn⟩:=h2;subst e
 have stat:∀{H':Hp},(∀b∈fp,H' b=ah)->∀b∈fp,cW X pins H' b:=λhn b hb=>⟨hn b hb,(f2 b hb).2⟩;refine codeAny_forLoop_any (λn s'=>∃i σ' H',Inv X pins σ' H' s'/\tn i s'.heap/\(∀b∈fp,H' b=ah)/\W i n σ' H') ?_ m0 ⟨0,σ,H2,I2,st2,λb hb=>(f2 b hb).1,w0⟩
 rintro n s3 ⟨i,σ3,H3,I3,st3,fr3,w3⟩
 rcases turn i n σ3 H3 w3 with⟨stop,qn⟩|⟨go,N,hN,step⟩
 ·refine He hp (aP (T.done X rfl rfl rfl hc i pins s3 σ3 H3 X.xe I3 (stat fr3) st3 stop) λr s4 ⟨hr,I4⟩=>?_);subst hr;exact wpAny_execs_nil ⟨σ3,H3,I4,qn⟩
 ·refine He hp (aP (T.item X rfl rfl rfl hc i pins s3 σ3 H3 X.xe I3 (stat fr3) st3 go) λr s4 ⟨u,hr,h4⟩=>?_);subst hr;refine He hp (aP h4 λ_ s5 ⟨x,H5,I5,r5,y5,st5,fr5⟩=>?_);have I5':=I5.pinned (stat fr5) (T.obj _ _ st5);refine He hp (aP (hg _ s5 σ3 H5 x u _ I5' r5 (step x H5 y5)) λ_ s6 ⟨σ6,H6,I6,q6⟩=>?_);refine He hp (aP (hb _ s6 σ6 H6 _ I6 q6) λf s7 q7=>?_);have again:∀{σ7:St}{H7:Hp},Inv X (pins++lX fp s5.heap) σ7 H7 s7->N σ7 H7->∃m,m < n/\∃i σ' H',Inv X pins σ' H' s7/\tn i s7.heap/\(∀b∈fp,H' b=ah)/\W i m σ' H':=λ{σ7 H7} I7 n7=>by
   obtain⟨m',hm,w7⟩:=hN σ7 H7 n7;refine⟨m',hm,i+1,σ7,H7,I7.unpinned,T.keep _ _ _ st5 λb hb o e=>(I7.pin (b,o) (Bf _ (Bf _ (mJ hb e)))).1,λb hb=>?_,w7⟩;obtain⟨o,e,d⟩:=T.obj _ _ st5 b hb;exact(I7.pin (b,o) (Bf _ (Bf _ (mJ hb e)))).2.1
  cases f with
  |next=>obtain⟨σ7,H7,I7,n7⟩:=q7;exact again I7 n7
  |cont=>obtain⟨σ7,H7,I7,n7⟩:=q7;exact again I7 n7
  |brk=>obtain⟨σ7,H7,I7,q7⟩:=q7;exact⟨σ7,H7,I7.unpinned,q7⟩
  |ret v=>obtain⟨x7,σ7,H7,I7,r7,q7⟩:=q7;exact⟨x7,σ7,H7,I7.unpinned,r7,q7⟩
end
abbrev R2:=V->V->Hp->VK->Prop
def OpR(X:Cx)(f:Af->Af->Sem Af)(r:R2):Prop:=
 ∀(pins:List (Addr×Obj))(s:Ai)(σ:St)(H:Hp)(x y:V)(v u:Af)(Q:VK),Inv X pins σ H s->RelV x v->RelV y u->r x y H Q->
  A2 (A6 X.prog X.w) X.A (f v u) (EP X pins σ Q) X.xe s
def vw(X:Cx)(f:Af->Sem Af)(r:V->Hp->VK->Prop):Prop:=
 ∀(pins:List (Addr×Obj))(s:Ai)(σ:St)(H:Hp)(x:V)(v:Af)(Q:VK),Inv X pins σ H s->RelV x v->r x H Q->
  A2 (A6 X.prog X.w) X.A (f v) (EP X pins σ Q) X.xe s
def CallR(X:Cx)(f:Af)(r:List V->Hp->VK->Prop):Prop:=
 ∀(pins:List (Addr×Obj))(s:Ai)(σ:St)(H:Hp)(xs:List V)(us:List Af)(Q:VK),Inv X pins σ H s->Vals xs us->r xs H Q->
  A2 (A6 X.prog X.w) X.A (call f us) (EP X pins σ Q) X.xe s
def dF(r:R2)(ta tb:TE):TE:=λσ H Q=>ta σ H λx H1=>tb σ H1 λy H2=>r x y H2 Q
def CL(r:V->Hp->VK->Prop)(ta:TE):TE:=λσ H Q=>ta σ H λx H1=>r x H1 Q
def rI(C:Int->Int->Prop)(g:Int->Int->V):R2:=λx y H Q=>∃i j,x=.int i/\y=.int j/\C i j/\Q (g i j) H
def fW(g:Int->Int->V):R2:=λx y H Q=>∃i j,x=.int i/\y=.int j/\Q (g i j) H
def rU(g:Int->V):V->Hp->VK->Prop:=λx H Q=>∃i,x=.int i/\Q (g i) H
section
variable{X:Cx}{a b c:Expr}{ta tb tc:TE}{pos:Pos}
theorem kx(ha:PE X a ta)(hb:PE X b tb){σ:St}{R:V->V->Hp->Prop}(I:Inv X pins σ H s)
  (h:ta σ H λx H1=>tb σ H1 λy H2=>R x y H2)  {f:Af->Af->Sem Af}
  (hf:∀v u s2 x y H2,Inv X pins σ H2 s2->RelV x v->RelV y u->R x y H2->A2 (A6 X.prog X.w) X.A (f v u) Q X.xe s2):
  A2 (A6 X.prog X.w) X.A (eval a X.env) (λv s₁=>A2 (A6 X.prog X.w) X.A (eval b X.env) (λu s₂=>A2 (A6 X.prog X.w) X.A (f v u) Q X.xe s₂) X.xe s₁) X.xe s:=by
 refine aP (ha pins s σ H _ I h) λv s1 ⟨x,H1,I1,r1,q1⟩=>?_;refine aP (hb pins s1 σ H1 _ I1 q1) λu s2 ⟨y,H2,I2,r2,q2⟩=>?_;exact hf v u s2 x y H2 I2 r1 r2 q2
theorem d8(ho:OpR X (Eu op) r)(ha:PE X a ta)(hb:PE X b tb):PE X (.BinOp a op b pos) (dF r ta tb):=by
 intro pins s σ H Q I h;exact wpAny_BinOp (kx ha hb I h λv u s2 x y H2 I2 rx ry q=>ho pins s2 σ H2 x y v u Q I2 rx ry q)
theorem Q7(ho:vw X (unaryOp op) r)(ha:PE X a ta):PE X (.UnaryOp op a pos) (CL r ta):=by
 intro pins s σ H Q I h;exact UnaryOp_ (aP (ha pins s σ H _ I h) λv s1 ⟨x,H1,I1,r1,q1⟩=>ho pins s1 σ H1 x v Q I1 r1 q1)
theorem qf{g:Int->Int->Int}
  (rule:∀(i j:Int)(t u:Tok)(s:Ai)(Q:Af->Ai->Prop)(E:Af->Ai->Prop),C i j->Q (.int (g i j) s.toks) {s with toks:=s.toks+1}->A2 (A6 X.prog X.w) X.A (f (.int i t) (.int j u)) Q E s):
  OpR X f (rI C λi j=>.int (g i j)):=by
 intro pins s σ H x y v u Q I rx ry h;obtain⟨i,j,rfl,rfl,hc,q⟩:=h;obtain⟨t,rfl⟩:=rx;obtain⟨t',rfl⟩:=ry;exact rule i j t t' s _ _ hc ⟨.int (g i j),H,I.tok _,⟨_,rfl⟩,q⟩
theorem m4{g:Int->Int->Int}
  (rule:∀(i j:Int)(t u:Tok)(s:Ai)(Q:Af->Ai->Prop)(E:Af->Ai->Prop),Q (.int (g i j) s.toks) {s with toks:=s.toks+1}->A2 (A6 X.prog X.w) X.A (f (.int i t) (.int j u)) Q E s):
  OpR X f (fW λi j=>.int (g i j)):=by
 intro pins s σ H x y v u Q I rx ry h;obtain⟨i,j,rfl,rfl,q⟩:=h;obtain⟨t,rfl⟩:=rx;obtain⟨t',rfl⟩:=ry;exact rule i j t t' s _ _ ⟨.int (g i j),H,I.tok _,⟨_,rfl⟩,q⟩
theorem jR{g:Int->Int->Bool}
  (rule:∀(i j:Int)(t u:Tok)(s:Ai)(Q:Af->Ai->Prop)(E:Af->Ai->Prop),Q (.bool (g i j)) s->A2 (A6 X.prog X.w) X.A (f (.int i t) (.int j u)) Q E s):
  OpR X f (fW λi j=>.bl (g i j)):=by
 intro pins s σ H x y v u Q I rx ry h;obtain⟨i,j,rfl,rfl,q⟩:=h;obtain⟨t,rfl⟩:=rx;obtain⟨t',rfl⟩:=ry;exact rule i j t t' s _ _ ⟨.bl (g i j),H,I,rfl,q⟩
def vZ(i j:Int):Prop:=0 < j/\j < 1073741824
def i7(i j:Int):Prop:=0<=j/\j<=1000000/\i.natAbs < 2 ^ 64
def CMul(i j:Int):Prop:=(-(2 ^ 64) < i/\i < 2 ^ 64)\/(-(2 ^ 64) < j/\j < 2 ^ 64)
theorem CMul.ok(h:CMul i j):IntMulOk i j:=by
 rcases h with⟨h1,h2⟩|⟨h1,h2⟩
 ·exact .of_left (intBits_le_64 h1 h2)
 ·exact .of_right (intBits_le_64 h1 h2)
theorem op_add:OpR X (Eu .Add) (fW λi j=>.int (i+j)):=m4 λ_ _ _ _ _ _ _ q=>add_int q
theorem Qy:OpR X (Eu .Sub) (fW λi j=>.int (i-j)):=m4 λ_ _ _ _ _ _ _ q=>sub_int q
theorem mI:OpR X (Eu .Mult) (rI CMul λi j=>.int (i*j)):=qf λ_ _ _ _ _ _ _ hc q=>mul_int q hc.ok
theorem Ik:OpR X (Eu .FloorDiv) (rI vZ λi j=>.int (i / j)):=qf λi j _ _ _ _ _ hc q=>by
 have h1:(0:Int) < j:=hc.1;have h2:j < 1073741824:=hc.2;exact floordiv_int ⋯ (by rw[Int.fdiv_eq_ediv_of_nonneg i ⋯];exact q) (.inl (PyProof.noPylong_small ⋯))
theorem jM:OpR X (Eu .Mod) (rI (λ_ j=>0 < j) λi j=>.int (i % j)):=qf λi j _ _ _ _ _ hc q=>by
 have h1:(0:Int) < j:=hc;exact mod_int' ⋯ (by rw[Int.fmod_eq_emod_of_nonneg i ⋯];exact q)
theorem AM:OpR X (Eu .Pow) (rI i7 λi j=>.int (i ^ j.toNat)):=qf λ_ _ _ _ _ _ _ hc q=>pow_int_small hc.1 hc.2.1 hc.2.2 q
theorem Ph{g:Int->Int}
  (rule:∀(i:Int)(t:Tok)(s:Ai)(Q:Af->Ai->Prop)(E:Af->Ai->Prop),Q (.int (g i) s.toks) {s with toks:=s.toks+1}->A2 (A6 X.prog X.w) X.A (f (.int i t)) Q E s):
  vw X f (rU λi=>.int (g i)):=by
 intro pins s σ H x v Q I rx h;obtain⟨i,rfl,q⟩:=h;obtain⟨t,rfl⟩:=rx;exact rule i t s _ _ ⟨.int (g i),H,I.tok _,⟨_,rfl⟩,q⟩
theorem IV:vw X (unaryOp .USub) (rU λi=>.int (-i)):=Ph λ_ _ _ _ _ q=>neg_int q
end
def oY:V->V->Bool
 |.non,.non=>ai|.non,.int _=>ai|.int _,.non=>ai|.non,.bl _=>ai|.bl _,.non=>ai|.non,.str _=>ai|.str _,.non=>ai
 |.int _,.int _=>ai|.bl _,.bl _=>ai|.str _,.str _=>ai|.byt _,.byt _=>ai
 |.int _,.str _=>ai|.str _,.int _=>ai|.bl _,.str _=>ai|.str _,.bl _=>ai
 |_,_=>aj
def pL:R2:=λx y H Q=>oY x y=ai/\Q (.bl (decide (x=y))) H
def xP:R2:=λx y H Q=>oY x y=ai/\Q (.bl (!decide (x=y))) H
theorem GI:decide (V.int i=V.int j)=(i==j):=by
 rw[G4];simp
theorem yu:decide (V.bl i=V.bl j)=(i==j):=by
 rw[G4];simp
theorem HG:decide (V.str i=V.str j)=(i==j):=by
 rw[G4];simp
theorem BY:decide (V.byt i=V.byt j)=(i.toList==j.toList):=by
 rw[G4];cases i;cases j;simp
section
variable{X:Cx}{a b c:Expr}{ta tb tc:TE}{pos:Pos}
theorem cI{σ:St}(I:Inv X pins σ H s)(q:Q (.bl k) H)(e:k=k'):EP X pins σ Q (.bool k') s:=by
 subst e;exact⟨.bl k,H,I,rfl,q⟩
theorem op_eq:OpR X (B3 .Eq) pL:=by
 intro pins s σ H x y v u Q I rx ry h;obtain⟨hs,q⟩:=h;cases x with
 |non=>
  cases rx;cases y with
  |non=>cases ry;exact PySem.EqNone.eq_none_none (cI I q (by simp))
  |bl j=>cases ry;exact PySem.EqNone.eq_none_bool (cI I q (by simp))
  |int j=>obtain⟨t',rfl⟩:=ry;exact PySem.EqNone.eq_none_int (cI I q (by simp))
  |str j=>obtain⟨t',rfl⟩:=ry;exact PySem.EqNone.eq_none_str (cI I q (by simp))
  |_=>exact absurd (show aj=ai from hs) Ag
 |bl i=>
  cases rx;cases y with
  |non=>cases ry;exact PySem.EqNone.eq_bool_none (cI I q (by simp))
  |bl j=>cases ry;exact eq_bool (cI I q yu)
  |str j=>obtain⟨t',rfl⟩:=ry;exact PySem.EqMixed.eq_bool_str (cI I q (by simp))
  |_=>exact absurd (show aj=ai from hs) Ag
 |int i=>
  obtain⟨t,rfl⟩:=rx;cases y with
  |non=>cases ry;exact PySem.EqNone.eq_int_none (cI I q (by simp))
  |int j=>obtain⟨t',rfl⟩:=ry;exact eq_int (cI I q GI)
  |str j=>obtain⟨t',rfl⟩:=ry;exact PySem.EqMixed.eq_int_str (cI I q (by simp))
  |_=>exact absurd (show aj=ai from hs) Ag
 |str i=>
  obtain⟨t,rfl⟩:=rx;cases y with
  |non=>cases ry;exact PySem.EqNone.eq_str_none (cI I q (by simp))
  |bl j=>cases ry;exact PySem.EqMixed.eq_str_bool (cI I q (by simp))
  |int j=>obtain⟨t',rfl⟩:=ry;exact PySem.EqMixed.eq_str_int (cI I q (by simp))
  |str j=>obtain⟨t',rfl⟩:=ry;exact eq_str (cI I q HG)
  |_=>exact absurd (show aj=ai from hs) Ag
 |byt i=>
  obtain⟨t,rfl⟩:=rx;cases y with
  |byt j=>obtain⟨t',rfl⟩:=ry;exact PySem.W.eq_bytes (cI I q BY)
  |_=>exact absurd (show aj=ai from hs) Ag
 |_=>cases y<;>exact absurd (show aj=ai from hs) Ag
theorem Jn:OpR X (B3 .NotEq) xP:=by
 intro pins s σ H x y v u Q I rx ry h;obtain⟨hs,q⟩:=h;cases x with
 |non=>
  cases rx;cases y with
  |non=>cases ry;exact PySem.EqNone.ne_none_none (cI I q (by simp))
  |bl j=>cases ry;exact PySem.EqNone.ne_none_bool (cI I q (by simp))
  |int j=>obtain⟨t',rfl⟩:=ry;exact PySem.EqNone.ne_none_int (cI I q (by simp))
  |str j=>obtain⟨t',rfl⟩:=ry;exact PySem.EqNone.ne_none_str (cI I q (by simp))
  |_=>exact absurd (show aj=ai from hs) Ag
 |bl i=>
  cases rx;cases y with
  |non=>cases ry;exact PySem.EqNone.ne_bool_none (cI I q (by simp))
  |bl j=>cases ry;exact ne_bool (cI I q (congrArg not yu))
  |str j=>obtain⟨t',rfl⟩:=ry;exact PySem.EqMixed.ne_bool_str (cI I q (by simp))
  |_=>exact absurd (show aj=ai from hs) Ag
 |int i=>
  obtain⟨t,rfl⟩:=rx;cases y with
  |non=>cases ry;exact PySem.EqNone.ne_int_none (cI I q (by simp))
  |int j=>obtain⟨t',rfl⟩:=ry;exact ne_int (cI I q (congrArg not GI))
  |str j=>obtain⟨t',rfl⟩:=ry;exact PySem.EqMixed.ne_int_str (cI I q (by simp))
  |_=>exact absurd (show aj=ai from hs) Ag
 |str i=>
  obtain⟨t,rfl⟩:=rx;cases y with
  |non=>cases ry;exact PySem.EqNone.ne_str_none (cI I q (by simp))
  |bl j=>cases ry;exact PySem.EqMixed.ne_str_bool (cI I q (by simp))
  |int j=>obtain⟨t',rfl⟩:=ry;exact PySem.EqMixed.ne_str_int (cI I q (by simp))
  |str j=>obtain⟨t',rfl⟩:=ry;exact ne_str (cI I q (congrArg not HG))
  |_=>exact absurd (show aj=ai from hs) Ag
 |byt i=>
  obtain⟨t,rfl⟩:=rx;cases y with
  |byt j=>obtain⟨t',rfl⟩:=ry;exact PySem.W.ne_bytes (cI I q (congrArg not BY))
  |_=>exact absurd (show aj=ai from hs) Ag
 |_=>cases y<;>exact absurd (show aj=ai from hs) Ag
theorem op_lt:OpR X (B3 .Lt) (fW λi j=>.bl (decide (i < j))):=jR λ_ _ _ _ _ _ _ q=>lt_int q
theorem op_le:OpR X (B3 .LtE) (fW λi j=>.bl (decide (i<=j))):=jR λ_ _ _ _ _ _ _ q=>le_int q
theorem op_gt:OpR X (B3 .Gt) (fW λi j=>.bl (decide (j < i))):=jR λ_ _ _ _ _ _ _ q=>gt_int q
theorem LI:OpR X (B3 .GtE) (fW λi j=>.bl (decide (j<=i))):=jR λ_ _ _ _ _ _ _ q=>ge_int q
theorem KL:OpR X (B3 .Lt) (λx y H Q=>∃i j,x=.str i/\y=.str j/\Q (.bl (decide (i.cps.toList < j.cps.toList))) H):=by
 intro pins s σ H x y v u Q I rx ry h;obtain⟨i,j,rfl,rfl,q⟩:=h;obtain⟨t,rfl⟩:=rx;obtain⟨t',rfl⟩:=ry;exact lt_str (cI I q rfl)
theorem GH:OpR X (B3 .Is) (λx y H Q=>y=.non/\Q (.bl (decide (x=.non))) H):=by
 intro pins s σ H x y v u Q I rx ry h;obtain⟨rfl,q⟩:=h;cases ry;refine is_none_gen (cI I q ?_);cases x<;>first
  | (cases rx;rfl)
  | (obtain⟨t,rfl⟩:=rx;rfl)
theorem vJ:OpR X (B3 .IsNot) (λx y H Q=>y=.non/\Q (.bl (!decide (x=.non))) H):=by
 intro pins s σ H x y v u Q I rx ry h;obtain⟨rfl,q⟩:=h;cases ry;refine isnot_none_gen (cI I q ?_);cases x<;>first
  | (cases rx;rfl)
  | (obtain⟨t,rfl⟩:=rx;rfl)
theorem OpR.or(h:OpR X f r)(h':OpR X f r'):OpR X f (λx y H Q=>r x y H Q\/r' x y H Q):=by
 intro pins s σ H x y v u Q I rx ry q;rcases q with q|q
 ·exact h pins s σ H x y v u Q I rx ry q
 ·exact h' pins s σ H x y v u Q I rx ry q
theorem lg(b)(h:op≠.In:=by decide)(h2:op≠.NotIn:=by decide):Cf op b=aj:=by
 have e1:(op==CmpOp.In)=aj:=by cases op<;>first|rfl|exact absurd rfl h
 have e2:(op==CmpOp.NotIn)=aj:=by cases op<;>first|rfl|exact absurd rfl h2
 cases b<;>simp[Cf,e1,e2]
theorem Pe(ho:OpR X (B3 op) r)(ha:PE X a ta)(hb:PE X b tb)(hm:Cf op b=aj):PE X (.Compare a [op] [b] pos) (dF r ta tb):=by
 intro pins s σ H Q I h;exact wpAny_Compare1 (kx ha hb I h λv u s2 x y H2 I2 rx ry q=>ho pins s2 σ H2 x y v u Q I2 rx ry q) hm
def jP(t:TE):TT:=λσ H Q=>t σ H λx H'=>∃k,x=.bl k/\Q k H'
theorem jE(ho:OpR X (B3 op) r)(ha:PE X a ta)(hb:PE X b tb)(hm:Cf op b=aj):PT X (.Compare a [op] [b] pos) (jP (dF r ta tb)):=by
 intro pins s σ H Q I h;refine wpAny_isTrue_Compare1 (aP (ha pins s σ H _ I h) λv s1 ⟨x,H1,I1,r1,q1⟩=>aP (hb pins s1 σ H1 _ I1 q1) λu s2 ⟨y,H2,I2,r2,q2⟩=>
  aP (ho pins s2 σ H2 x y v u _ I2 r1 r2 q2) λc s3 ⟨z,H3,I3,r3,k,e,q3⟩=>?_) hm
 subst e;cases r3;exact Ep ⟨H3,I3,q3⟩
def t8(r r':R2)(ta tb tc:TE):TE:=λσ H Q=>ta σ H λx H1=>tb σ H1 λy H2=>r x y H2 λz H3=>∃k,z=.bl k /\
 (if k=ai then tc σ H3 λw' H4=>r' y w' H4 Q else Q (.bl aj) H3)
theorem PB(ho:OpR X (B3 op) r)(ho':OpR X (B3 op') r')(ha:PE X a ta)(hb:PE X b tb)(hc:PE X c tc)
  (hm:lastMarks [op,op'] [b,c]=aj:=by with_unfolding_all rfl):PE X (.Compare a [op,op'] [b,c] pos) (t8 r r' ta tb tc):=by
 intro pins s σ H Q I h;refine Compare_chain (aP (ha pins s σ H _ I h) λv s1 ⟨x,H1,I1,r1,q1⟩=>chain_link (aP (hb pins s1 σ H1 _ I1 q1) λu s2 ⟨y,H2,I2,r2,q2⟩=>
  aP (ho pins s2 σ H2 x y v u _ I2 r1 r2 q2) λd s3 ⟨z,H3,I3,r3,k,e,q3⟩=>?_)) hm
 subst e;cases r3;refine Ep ?_;cases k with
 |false=>exact ite_ff ⟨.bl aj,H3,I3,rfl,q3⟩
 |true=>exact ite_tt (chain_last (aP (hc pins s3 σ H3 _ I3 q3) λw' s4 ⟨z',H4,I4,r4,q4⟩=>ho' pins s4 σ H4 y z' u w' Q I4 r2 r4 q4))
theorem l9:(Ay:Nat) < 2 ^ 63:=by rw[Eh];decide
theorem op_add_str:OpR X (Eu .Add) (λx y H Q=>∃i j,x=.str i/\y=.str j/\i.length+j.length<=Ay/\Q (.str (i++j)) H):=by
 intro pins s σ H x y v u Q I rx ry h;obtain⟨i,j,rfl,rfl,hz,q⟩:=h;obtain⟨t,rfl⟩:=rx;obtain⟨t',rfl⟩:=ry;exact add_str (λt' tk=>⟨.str (i++j),H,I.tok _,⟨_,rfl⟩,q⟩) hz
theorem gS(r:Vals [x] us):∃u,us=[u]/\RelV x u:=by
 cases r with
 |cons r1 r2=>cases r2;exact⟨_,rfl,r1⟩
theorem nI(r:Vals [x,y] us):∃u w',us=[u,w']/\RelV x u/\RelV y w':=by
 cases r with
 |cons r1 r2=>
  cases r2 with
  |cons r3 r4=>cases r4;exact⟨_,_,rfl,r1,r3⟩
end
structure ObjM(h:Heap)(x dx C:Addr)(mA:Str->Option Af):Prop where
 obj:h.get? x=ae (PySem.W.instObj C dx)
 ns:h.Ns1 dx mA
 ne:dx≠x
theorem CF{h:Heap}(n:h.Ns1 dx mA):∃od,h.get? dx=ae od/\∀name,PySem.W.lookIn name od=ae (mA name):=by
 obtain⟨o,es,ep,ho,hd,hk,_,hm⟩:=n;refine⟨o,ho,λname=>?_⟩;have e:=hm name;unfold nsFind findBy at e;rw[<-Array.find?_toList]at e;unfold PySem.W.lookIn;rw[hd];dsimp only
 split
 ·rename_i y q;rw[q]at e;exact congrArg ae e
 ·rename_i q;rw[q]at e;have a:es.toList.any (·.refKey)=aj:=by
   rw[List.any_eq_false];intro y hy;obtain⟨z,t,hkey⟩:=hk y (Array.mem_toList_iff.mp hy);simp[DictEntry.refKey,hkey]
  have a':¬es.toList.any (·.refKey)=ai:=by rw[a];exact Ag
  rw[if_neg a'];exact congrArg ae e
theorem ObjM.look(I:ObjM h x dx C mA):∃od,PySem.W.InstAt h x (PySem.W.instObj C dx) C (ae od)/\∀name,PySem.W.lookIn name od=ae (mA name):=
 let⟨od,ho,hl⟩:=CF I.ns
 ⟨od,⟨I.obj,rfl,rfl,ho⟩,hl⟩
theorem RelO.some_of(r:RelO (ae v) o):∃u,o=ae u/\RelV v u:=by
 cases o with
 |none=>exact(show False from r).elim
 |some u=>exact⟨u,rfl,r⟩
theorem Ju(r:RelV v u):PySem.W.handedIn u=ai:=by
 cases v with
 |non=>cases(show u=Bh from r);rfl
 |bl b=>cases(show u=Value.bool b from r);rfl
 |int i=>obtain⟨t,e⟩:=(show ∃t,u=Value.int i t from r);cases e;rfl
 |str x=>obtain⟨t,e⟩:=(show ∃t,u=F8 x t from r);cases e;rfl
 |byt b=>obtain⟨t,e⟩:=(show ∃t,u=Value.bytes b t from r);cases e;rfl
 |flt b=>obtain⟨t,e⟩:=(show ∃t,u=Value.float b t from r);cases e;rfl
 |ref a=>cases(show u=A3 a from r);rfl
 |ty n=>cases(show u=Ec n from r);rfl
section
variable{P:A7}{w:Bk}{H H':Hp}{h h':Heap}{a C dx:Addr}{fs fs':List (Str×V)}
theorem RZ(hok:HOk P w H h)(e:H a=ae (.ins C dx fs)):∃mA,ObjM h a dx C mA/\(∀f,RelO (fs.lookup f) (mA f))/\PySem.Within mA (fs.map (·.1))/\fs.length<=1000/\H dx=ae (.own a):=by
 obtain⟨d,z,ne,ob,mA,n,r,q⟩:=(show ObjOk P w H h a (.ins C dx fs)from hok a _ e);exact⟨mA,⟨ob,n,ne⟩,r,q,z,d⟩
end
structure Cls(K:Ah)(C:Addr):Prop where
 pg:PySem.W.plainGet K C Str.empty=ai
 hd:PySem.W.hasDictIn K C=ai
 po:PySem.W.plainOver K C=ai
 sa:Co K (.ref C) "__setattr__"=ae (ae (.builtin "object.__setattr__"))
theorem Cls.get{K:Ah}(c:Cls K C)(f):PySem.W.plainGet K C f=ai:=c.pg
section
variable{X:Cx}{pins:List (Addr×Obj)}{σ:St}{H:Hp}{s:Ai}{a C dx:Addr}{fs:List (Str×V)}{f:Str}{v:V}{A:Bu}{E:Af->Ai->Prop}
theorem Mq(hb:Gi e f env (eval e env)=eval e env)
  (h:A2 (A6 prog w) A (eval e env) (λo s₁=>A2 (A6 prog w) A (getAttr o f ai) Q E s₁) E s):A2 (A6 prog w) A (eval (.Attribute e f pos) env) Q E s:=
 Attribute_any_ h (by rw[arm_eval_Attribute,hb])
end
section
variable{X:Cx}{pins:List (Addr×Obj)}{σ:St}{H:Hp}{s:Ai}{A:Bu}{E:Af->Ai->Prop}{Q:Af->Ai->Prop}{c:Af}{b:Bool}
inductive TyOf(K:Ah)(H:Hp):V->Af->Prop where
 |non:TyOf K H .non (.type "NoneType")
 |bl (x:Bool):TyOf K H (.bl x) (.type "bool")
 |int (i:Int):TyOf K H (.int i) (.type "int")
 |str (x:Str):TyOf K H (.str x) (.type "str")
 |flt (x:UInt64):TyOf K H (.flt x) (.type "float")
 |lst {a:Addr} {xs:List V} (e:H a=ae (.lst xs)):TyOf K H (.ref a) (.type "list")
 |frz {a:Addr} {o:Obj} {xs:List V} (e:H a=ae (.frz o (.lst xs))):TyOf K H (.ref a) (.type "list")
 |tup {a:Addr} {xs:List V} (e:H a=ae (.tup xs)):TyOf K H (.ref a) (.type "tuple")
 |dK {a:Addr} {kvs:List (aG×V)} (e:H a=ae (.dK kvs)):TyOf K H (.ref a) (.type "dict")
 |dT {a:Addr} {kvs:List (List aG×V)} (e:H a=ae (.dT kvs)):TyOf K H (.ref a) (.type "dict")
 |ins {a C dx:Addr} {fs:List (Str×V)} (e:H a=ae (.ins C dx fs)) (cl:Cls K C) (ha:Co K (.ref C) "__class__"=ae (ae (.builtin "object.__class__")))
   (hn:PySem.W.specialIn K (.builtin "object.__class__") "__get__"=ae (ae (.builtin "getset_descriptor.__get__"))) (htk:PySem.W.takesIn K (.builtin "object.__class__")=ae ai)
   (hm:PySem.W.mroIn K C (.type "object")=ae ai):TyOf K H (.ref a) (.ref C)
theorem Qz(I:Inv X pins σ H s)(rx:RelV x u)(ty:TyOf X.K H x t)(e:Fk X.K t c=ae b)(h:∀tk,Q (.bool b) {s with toks:=tk}):
  A2 (A6 X.prog X.w) A (call (.builtin "isinstance") [u,c]) Q E s:=by
 cases ty with
 |non=>cases(show u=Bh from rx);exact C5 PySem.W.kitx_none I.kIn El e (λz=>nomatch z) h
 |bl y=>cases(show u=Value.bool y from rx);exact C5 PySem.W.kitx_bool I.kIn El e (λz=>nomatch z) h
 |int i=>obtain⟨t,q⟩:=(show ∃t,u=Value.int i t from rx);cases q;exact C5 PySem.W.kitx_int I.kIn El e (λz=>nomatch z) h
 |str y=>obtain⟨t,q⟩:=(show ∃t,u=F8 y t from rx);cases q;exact C5 PySem.W.kitx_str I.kIn El e (λz=>nomatch z) h
 |flt y=>obtain⟨t,q⟩:=(show ∃t,u=Value.float y t from rx);cases q;exact C5 PySem.W.kitx_float I.kIn El e (λz=>nomatch z) h
 |@lst a xs ea=>
  cases(show u=A3 a from rx);obtain⟨_,_,n,_,h1⟩:=(show ObjOk X.prog X.w H s.heap a (.lst xs)from I.hok a _ ea);exact C5 PySem.W.kitx_list I.kIn ⟨_,h1,rfl⟩ e (λz=>nomatch z) h
 |@frz a ob xs ea=>
  cases(show u=A3 a from rx);obtain⟨_,_,_,n,_,h1⟩:=(show ObjOk X.prog X.w H s.heap a (.frz ob (.lst xs))from I.hok a _ ea);exact C5 PySem.W.kitx_list I.kIn ⟨_,h1,rfl⟩ e (λz=>nomatch z) h
 |@tup a xs ea=>
  cases(show u=A3 a from rx);obtain⟨_,_,_,p⟩:=(show ObjOk X.prog X.w H s.heap a (.tup xs)from I.hok a _ ea);obtain⟨o,h1,h2,_⟩:=p;exact C5 PySem.W.kitx_tuple I.kIn ⟨o,h1,h2⟩ e (λz=>nomatch z) h
 |@dK a kvs ea=>
  cases(show u=A3 a from rx);obtain⟨_,_,vs,_,p⟩:=(show ObjOk X.prog X.w H s.heap a (.dK kvs)from I.hok a _ ea);obtain⟨o,es,ep,h1,h2,_⟩:=p;exact C5 PySem.W.kitx_dict I.kIn ⟨o,h1,h2.1⟩ e (λz=>nomatch z) h
 |@dT a kvs ea=>
  cases(show u=A3 a from rx);obtain⟨_,_,xs,_,o,es,ep,h1,h2,_⟩:=(show ObjOk X.prog X.w H s.heap a (.dT kvs)from I.hok a _ ea);exact C5 PySem.W.kitx_dict I.kIn ⟨o,h1,h2.1⟩ e (λz=>nomatch z) h
 |@ins a C dx fs ea cl ha hn htk hm=>
  cases(show u=A3 a from rx);obtain⟨mA,O,_⟩:=RZ I.hok ea;obtain⟨od,J,_⟩:=O.look;exact C5 (PySem.W.kitx_own (cl.get _) cl.hd ha hn htk hm) I.kIn J e (λz=>nomatch z) h
end
structure Room(k:Nat)(A:Bu):Prop where
 hd:A.handled=ah
 dp:A.depth+3*k+5 < recursionLimit
 un:A.units+16*k+200 < Gr
 gd:A.guards=ae []
theorem Room.mono(r:Room k A)(h:j<=k):Room j A:=⟨r.hd,by have:=r.dp;omega,by have:=r.un;omega,r.gd⟩
theorem Room.deeper(r:Room (k+1) A)(env):Room k (A.deeper env):=
 ⟨r.hd,by have:=r.dp;show A.depth+1+3*k+5 < _;omega,by have:=r.un;show A.units+3+16*k+200 < _;omega,r.gd⟩
theorem Pw{A:Bu}:(A.under (.builtin "type.__call__" ⟨.ref C::us,kw⟩)).depth=A.depth+1:=by
 first|rfl|simp[Around.under,Code.weight,Code.isCreation,Code.isGuard,Code.isCaller,Code.frames,Code.isFrame,guardIds]
theorem TR{A:Bu}:(A.under (.builtin "type.__call__" ⟨.ref C::us,kw⟩)).units=A.units+1:=by
 first|rfl|simp[Around.under,Code.cUnits,Code.frames,Code.isFrame]
theorem Rm{A:Bu}:(A.under (.builtin "type.__call__" ⟨.ref C::us,kw⟩)).guards=A.guards:=by
 first|rfl|simp[Around.under,Code.weight,Code.isCreation,Code.isGuard,Code.isCaller,Code.frames,Code.isFrame,guardIds,Code.guards,pushGuards]
theorem Room.make(r:Room (k+1) A)(C)(us)(kw):Room k (A.under (.builtin "type.__call__" ⟨.ref C::us,kw⟩)):=
 ⟨r.hd,by have:=r.dp;rw[Pw];omega,by have:=r.un;rw[TR];omega,by rw[Rm];exact r.gd⟩
theorem Room.depth(r:Room k A):A.depth < recursionLimit:=by have:=r.dp;omega
theorem Room.units(r:Room k A):A.units+64 < Gr:=by have:=r.un;omega
theorem Room.units0(r:Room k A):A.units < Gr:=by have:=r.un;omega
def bS:TA:=λ_ H Q=>Q [] H
def dA(ta:TE)(tr:TA):TA:=λσ H Q=>ta σ H λx H1=>tr σ H1 λxs H2=>Q (x::xs) H2
section
variable{X:Cx}{e:Expr}{es:List Expr}{te:TE}{t:TA}{pos:Pos}
theorem dH:PA X [] bS:=λ_ _ _ _ H Q I h=>Calls.spliced_nil ⟨[],H,I,.nil,h⟩
theorem b9(ha:PE X e te)(hr:PA X es t)(hs:As (e::es) X.env=(aj,eval e X.env)::As es X.env:=by rfl):PA X (e::es) (dA te t):=by
 intro pos pins s σ H Q I h;rw[hs];show A2 _ _ (spliced ((aj,eval e X.env)::Ct pos (As es X.env))) _ _ s;refine Calls.spliced_cons (aP (ha pins s σ H _ I h) λu s1 ⟨x,H1,I1,r1,q1⟩=>?_);exact aP (hr pos pins s1 σ H1 _ I1 q1) λus s2 ⟨xs,H2,I2,r2,q2⟩=>⟨x::xs,H2,I2,.cons r1 r2,q2⟩
def iC(t:TA):TE:=λσ H Q=>t σ H λxs H1=>xs.length<=Ay/\∀p,H1 p=ah->Q (.ref p) (upd H1 p (.tup xs))
def pj(t:TA):TE:=λσ H Q=>t σ H λxs H1=>xs.length<=Ay/\∀p,H1 p=ah->Q (.ref p) (upd H1 p (.lst xs))
theorem ur{x1}(h:PA X es t):PE X (.Tuple es x1 pos) (iC t):=by
 intro pins s σ H Q I hq;refine wpAny_Tuple_spliced (aP (h pos pins s σ H _ I hq) λus s1 ⟨xs,H1,I1,r,z,q⟩=>⟨by rw[<-r.length];exact z,?_⟩);have hf:H1 s1.heap.objs.size=ah:=I1.hok.fresh (Ao _);refine⟨.ref s1.heap.objs.size,upd H1 s1.heap.objs.size (.tup xs),I1.laid (t':=s1.toks) (λb u e=>Ae _ e) (Ao _) ?_,rfl,q _ hf⟩;exact⟨z,us,r,IsTupP.new _ _⟩
theorem tF(h:PA X es t):PE X (.List es pos) (pj t):=by
 intro pins s σ H Q I hq;refine wpAny_List_spliced (aP (h pos pins s σ H _ I hq) λus s1 ⟨xs,H1,I1,r,z,q⟩=>⟨by rw[<-r.length];exact z,?_⟩);have hf:H1 s1.heap.objs.size=ah:=I1.hok.fresh (Ao _);refine⟨.ref s1.heap.objs.size,upd H1 s1.heap.objs.size (.lst xs),I1.laid (t':=s1.toks) (λb u e=>Ae _ e) (Ao _) ?_,rfl,q _ hf⟩;exact⟨z,us,0,r,Az _ rfl⟩
end
abbrev Sp:=List V->Hp->VK->XK->Prop
abbrev f7:=List Env->Hp->Ai->XK->Af->Ai->Prop
structure Env0(P:A7)(w:Bk)(K:Ah)(mg:Str->Option Af)(base:Heap)(A:Bu)(outer:List Env)(s:Ai)(H:Hp):Prop where
 frames:A.frames=ae outer
 mod:Mod K mg base
 bs:∀b o,base.get? b=ae o->s.heap.get? b=ae o/\H b=ah
 bsz:base.objs.size<=s.heap.objs.size
 funs:s.heap.FunFrames base outer
 frf:∀b∈dg outer,H b=ah
 hok:HOk P w H s.heap
 bare:AllBare s.gens
def CE(outer:List Env)(P:A7)(w:Bk)(H:Hp)(s:Ai)(Q:VK)(u:Af)(s':Ai):Prop:=
 ∃v H',s'.os=s.os/\AllBare s'.gens/\Un (dg outer) [] H H' s.heap s'.heap/\HOk P w H' s'.heap/\RelV v u/\Q v H'
def CR(CX:f7)(outer:List Env)(P:A7)(w:Bk)(H:Hp)(s:Ai)(Q:VK)(E:XK)(r:Result)(s':Ai):Prop:=
 match r with
 |.ok (.ret u)=>CE outer P w H s Q u s'
 |.ok _=>False
 |.error e=>CX outer H s E e s'
structure FnOk(P:A7)(w:Bk)(K:Ah)(mg:Str->Option Af)(base:Heap)(CX:f7)(k:Nat)(f:Addr)(fd:B9)(ps:List Str)(sp:Sp):Prop where
 len:∀vs H Q E,sp vs H Q E->vs.length=ps.length
 run:∀(A:Bu)(outer:List Env)(s:Ai)(H:Hp)(args:Args)(us:List Af)(vs:List V)(Q:VK)(E:XK),Room k A->Env0 P w K mg base A outer s H->BindsTo s fd args (ps.zip us)->Vals vs us->sp vs H Q E->
  F7 (A6 P w) A (.call (.ref f) args) (CR CX outer P w H s Q E) s
theorem FnOk.imp{K:Ah}(F:FnOk P w K mg base CX k f fd ps sp)
  (h:∀vs H Q E,sp' vs H Q E->sp vs H Q E):FnOk P w K mg base CX k f fd ps sp':=
 ⟨λvs H Q E q=>F.len vs H Q E (h _ _ _ _ q),λA outer s H args us vs Q E hr he hb hv hs=>F.run A outer s H args us vs Q E hr he hb hv (h _ _ _ _ hs)⟩
theorem Env0.make{K:Ah}(e:Env0 P w K mg base A outer s H)(C)(us)(kw):
  Env0 P w K mg base (A.under (.builtin "type.__call__" ⟨.ref C::us,kw⟩)) outer s H:=⟨by first|exact e.frames|(simpa[Around.under,Code.envs,Code.isFrame,pushEnvs]using e.frames),e.mod,e.bs,e.bsz,e.funs,e.frf,e.hok,e.bare⟩
section
variable{X:Cx}{pins:List (Addr×Obj)}{σ:St}{H:Hp}{s s':Ai}
theorem Inv.env0(I:Inv X pins σ H s):Env0 X.prog X.w X.K X.mg X.base X.A X.stack s H:=
 ⟨I.ok.frames,I.ok.mod,I.bs,A9 I.ok.bsz I.sz,I.stack,I.stkFree,I.hok,I.bare⟩
theorem Inv.after(I:Inv X pins σ H s)(h:CE X.stack X.prog X.w H s Q u s'):EP X pins σ Q u s':=by
 obtain⟨v,H',os,bare,un,hok,r,q⟩:=h;obtain⟨hh,g,d,t,os'⟩:=s';obtain rfl:os'=s.os:=os;exact⟨v,H',I.call (h':=hh) (g':=g) (d':=d) (t':=t) (ch:=[]) un hok bare (λb z=>absurd z (by simp)),r,q⟩
end
def ji(sp:Sp)(dvs:List V)(E:XK)(t:TA):TE:=λσ H Q=>t σ H λvs H1=>sp (vs++dvs) H1 Q E
def Binds(K:Ah)(fd:B9)(ps:List Str)(ds:List Af):Prop:=
 ∀(s:Ai)(us:List Af),K.In s.heap->(us++ds).length=ps.length->BindsTo s fd ⟨us,[]⟩ (ps.zip (us++ds))
theorem Binds.all{K:Ah}(h:∀us:List Af,us.length=ps.length->bindArgs fd ⟨us,[]⟩=pure (ps.zip us)):Binds K fd ps []:=λs us _ hl=>by
 rw[Bv]at hl ⊢;exact .of_eq (h us hl)
def sr(CX:f7)(X:Cx)(E:XK):Prop:=∀(pins:List (Addr×Obj))(σ:St)(H:Hp)(s:Ai)(e:Af)(s':Ai),Inv X pins σ H s->CX X.stack H s E e s'->X.xe e s'
section
variable{X:Cx}{CX:f7}{k:Nat}{f C:Addr}{fd:B9}{ps:List Str}{sp:Sp}{dvs:List V}{ds:List Af}{E:XK}{x m:Str}{p pos apos:Pos}{e o:Expr}{es:List Expr}{ta:TE}{t:TA}
theorem Th{σ:St}(F:FnOk X.prog X.w X.K X.mg X.base CX k f fd ps sp)(hr:Room k X.A)(hb:Binds X.K fd ps ds)(hd:Vals dvs ds)(hx:sr CX X E)
  (I:Inv X pins σ H s) (r:Vals vs us) (h:sp (vs++dvs) H Q E):A2 (A6 X.prog X.w) X.A (call (.ref f) us) (EP X pins σ Q) X.xe s:=by
 have r2:Vals (vs++dvs) (us++ds):=r.append hd;have hl:(us++ds).length=ps.length:=by rw[<-r2.length];exact F.len _ _ _ _ h
 refine G7 (F6 (F.run X.A X.stack s H ⟨us,[]⟩ (us++ds) (vs++dvs) Q E hr I.env0 (hb s us I.kIn hl) r2 h) λr s' hq=>?_);cases r with
 |error e=>exact hx pins σ H s e s' I hq
 |ok fl=>
  cases fl with
  |ret u=>exact I.after hq
  |next=>exact False.elim hq
  |brk=>exact False.elim hq
  |cont=>exact False.elim hq
theorem wA(F:FnOk X.prog X.w X.K X.mg X.base CX k f fd ps sp)(hr:Room k X.A)(hg:Gl X x)(hm:X.mg x=ae (.ref f))(hk:B5 X.K (.ref f)=ai)(hb:Binds X.K fd ps ds)(hd:Vals dvs ds)(hx:sr CX X E)
  (ha:PA X (e::es) t) (hdb:(x==("__debug__":Str))=aj:=by decide) (he:As (e::es) X.env=(aj,eval e X.env)::As es X.env:=by rfl) (hpl:(Ct pos (As es X.env)).any (·.1)=aj:=by rfl):
  PE X (.Call (.Name x p) (e::es) [] pos) (ji sp dvs E t):=by
 intro pins s σ H Q I h;refine Gn (mF I hg hm ?_ hdb);refine PySem.W.callWith_K (h₀:=X.base) I.ok.mod.kin hk (aP (ha pos pins s σ H _ I h) λus s1 ⟨vs,H1,I1,r,q⟩=>⟨I1.kIn,?_⟩) he hpl;exact Th F hr hb hd hx I1 r q
end
structure FnScope(N P:List Str)(sc:E5):Prop where
 kind:sc.kind=.function
 co:sc.isCoroutine=aj
 gen:sc.isGenerator=aj
 nd:N.Nodup
 pre:N.take P.length=P
 par:∀x∈P,sc.names.lookup x=ae .local\/sc.names.lookup x=ae .cell
 nofree:∀y∈sc.names,y.2≠.free
theorem zy{kindOf:Str->Option NameKind}:∀{binds:List (Str×Af)}{m:Str->Option Af},(∀v,(x,v)∉binds)->bindL kindOf binds m x=m x
 |[],_,_=>rfl
 | (n,v)::r,m,h=>by
  unfold bindL;rw[zy λw hw=>h w (Aw _ hw)]
  split
  ·have:x≠n:=by rintro rfl;exact h v A0
   simp[this]
  ·rfl
theorem HC{kindOf:Str->Option NameKind}:∀{binds:List (Str×Af)}{m:Str->Option Af},(∀v,(x,v)∉binds)->bindC kindOf binds m x=m x
 |[],_,_=>rfl
 | (n,v)::r,m,h=>by
  unfold bindC;rw[HC λw hw=>h w (Aw _ hw)]
  split
  ·rfl
  ·have:x≠n:=by rintro rfl;exact h v A0
   simp[this]
theorem FH{kindOf:Str->Option NameKind}:∀{P:List Str}{vs:List Af}{i:Nat}{m:Str->Option Af},P.Nodup->P[i]?=ae x->vs[i]?=ae v->kindOf x=ae .local->
  bindL kindOf (P.zip vs) m x=ae v
 |[],_,_,_,_,h,_,_=>by simp at h
 |_::_,[],_,_,_,_,h,_=>by simp at h
 |p::P,w::vs,0,m,nd,h1,h2,hk=>by
  simp at h1 h2;subst h1;subst h2;show bindL kindOf ((p,w)::P.zip vs) m p=_;unfold bindL;rw[zy λv hv=>(Dl.mp nd).1 (Fc hv).1,if_pos hk];simp
 |p::P,w::vs,i+1,m,nd,h1,h2,hk=>by
  show bindL kindOf ((p,w)::P.zip vs) m x=_;unfold bindL;exact FH (i:=i) (Dl.mp nd).2 (by simpa using h1) (by simpa using h2) hk
theorem yi{kindOf:Str->Option NameKind}:∀{P:List Str}{vs:List Af}{i:Nat}{m:Str->Option Af},P.Nodup->P[i]?=ae x->vs[i]?=ae v->kindOf x≠ae .local->
  bindC kindOf (P.zip vs) m x=ae v
 |[],_,_,_,_,h,_,_=>by simp at h
 |_::_,[],_,_,_,_,h,_=>by simp at h
 |p::P,w::vs,0,m,nd,h1,h2,hk=>by
  simp at h1 h2;subst h1;subst h2;show bindC kindOf ((p,w)::P.zip vs) m p=_;unfold bindC;rw[HC λv hv=>(Dl.mp nd).1 (Fc hv).1,if_neg hk];simp
 |p::P,w::vs,i+1,m,nd,h1,h2,hk=>by
  show bindC kindOf ((p,w)::P.zip vs) m x=_;unfold bindC;exact yi (i:=i) (Dl.mp nd).2 (by simpa using h1) (by simpa using h2) hk
def start(N:List Str)(vs:List V):St:=vs.map ae++Bn (N.length-vs.length) ah
def cO(CX:f7)(P:A7)(w:Bk)(K:Ah)(mg:Str->Option Af)(base:Heap)(N:List Str)(qual:Str)(scope:E5)(f:Addr)(cd:Af)(A:Bu)(outer:List Env)(s:Ai)(H:Hp)(E:XK):Cx where
 prog:=P
 w:=w
 K:=K
 mg:=mg
 base:=base
 A:=A.deeper (Dv qual scope s.heap.objs.size f cd)
 N:=N
 s₀:=s
 H₀:=H
 env:=Dv qual scope s.heap.objs.size f cd
 outer:=outer
 stack:=Dv qual scope s.heap.objs.size f cd::outer
 ex:=[]
 calm:=ai
 fn:=λ_=>ai
 pn:=[]
 xe:=λe s'=>A2 (A6 P w) (A.deeper (Dv qual scope s.heap.objs.size f cd)) (leaving (Dv qual scope s.heap.objs.size f cd) e) (λ_ s''=>CX outer H s E e s'') (λe' s''=>CX outer H s E e' s'') s'
theorem zS{sc:E5}(h:sc.names.lookup x=ae .cell):∃c,(cellsFrom n sc.names []).lookup x=ae c:=by
 have q:=PySem.W.cellsFrom_some sc.names n [] (.inl h);exact Ei.mp q
theorem Jd{K:Ah}
  (S:FnScope N ps scope) (hd:A.handled=ah) (e0:Env0 P w K mg base A outer s H) (hl:vs.length=ps.length) (r:Vals vs us)
  (x:InCallC s s.heap.objs.size (bindL (Dv qual scope s.heap.objs.size f cd).kindOf (ps.zip us) λ_=>ah) (cellsFrom (s.heap.objs.size+1) scope.names []) (bindC (Dv qual scope s.heap.objs.size f cd).kindOf (ps.zip us) λ_=>ah) s1):
  Inv (cO CX P w K mg base N qual scope f cd A outer s H E) [] (start N vs) H s1:=by
 have hpl:ps.length<=N.length:=by have:=congrArg List.length S.pre;rw[Dc]at this;omega
 obtain⟨h1,tk,rfl,hk⟩:=x.done;have noA:∀b:Addr,b∉(cO CX P w K mg base N qual scope f cd A outer s H E).ex:=λb z=>absurd (show b∈([]:List Addr)from z) (by simp);refine⟨⟨e0.mod,S.kind,rfl,rfl,Ao _,λy z c h1 h2=>?_,λy hy=>?_,λy c _ h=>?_,λ_=>hd,Around.frames_deeper e0.frames,.inr ⟨rfl,rfl⟩,λb z=>absurd z (noA b),e0.bs,e0.bsz,λb _ _=>noA b,λb z=>absurd z (noA b),e0.funs,e0.frf⟩,
  rfl,e0.bare,Un.kept hk,⟨_,x.toInCall.ns,λi y v h1 h2 h3=>?_⟩,λy c h=>⟨_,x.cell y c h⟩,e0.hok.fresh (Ao _),λy c h=>?_,λp hp=>absurd (show p∈([]:List (Addr×Obj))from hp) (by simp),e0.hok.kept hk,?_⟩
 ·exact name_of_addr x.apart (Fw h1) (Fw h2)
 ·have hy:scope.names.lookup y=ae .cell\/scope.names.lookup y=ae .free:=hy;rcases hy with hy|hy
  ·exact zS hy
  ·exact absurd rfl (S.nofree _ (Fw hy))
 ·exact Gq (x.above y c (Fw h))
 ·have hi:i < vs.length:=by
   unfold start at h2;by_cases hi:i < vs.length
   ·exact hi
   ·rw[Cj (by simpa using hi)]at h2;rw[Ew]at h2
    split at h2<;>cases h2
  have ha:vs[i]?=ae v:=by
   unfold start at h2;rw[C2 (by simpa using hi),Ax]at h2;cases e:vs[i]? with
   |none=>rw[e]at h2;cases h2
   |some a=>rw[e]at h2;cases h2;rfl
  obtain⟨u,hu,rv⟩:=r.get ha;have hp:ps[i]?=ae y:=by
   rw[<-S.pre,List.getElem?_take_of_lt ⋯];exact h1
  have ndP:ps.Nodup:=by rw[<-S.pre];exact S.nd.sublist (List.take_sublist _ _)
  refine⟨u,rv,?_⟩;rcases S.par y (A8 hp)with k|k
  ·exact .inl ⟨k,FH ndP hp hu k⟩
  ·obtain⟨c,e⟩:=zS (n:=s.heap.objs.size+1) k;refine .inr ⟨.inl k,c,e,?_⟩;have q:=x.cell y c e;rw[yi ndP hp hu (by show scope.names.lookup y≠_;rw[k];decide)]at q;exact q
 ·exact e0.hok.fresh (Gq (x.above y c (Fw h)))
 ·unfold start;show _=N.length;rw[Ak,Ad,List.length_replicate];omega
theorem rQ{K:Ah}{dV kV doc pm cdv ct oc:Af}
     (lk:K.lookup f=ae ⟨oc,od,.func (D0 name qual params body scope dV kV doc pm an cdv ct),osl⟩) (hcd:Gb K cdv qual=ai) (S:FnScope N ps scope)
  (len:∀vs H Q E,sp vs H Q E->vs.length=ps.length)
  (hbody:∀(A:Bu)(outer:List Env)(s:Ai)(H:Hp)(vs:List V)(Q:VK)(E:XK),Room k (A.deeper (Dv qual scope s.heap.objs.size f cdv))->sp vs H Q E->
   ∃t,PSs (cO CX P w K mg base N qual scope f cdv A outer s H E) body t/\t {nx:=λ_ H'=>Q .non H',rt:=Q} (start N vs) H):
  FnOk P w K mg base CX (k+1) f (D0 name qual params body scope dV kV doc pm an cdv ct) ps sp:=by
 refine⟨len,λA outer s H args us vs Q E hr e0 hb r hsp=>?_⟩;have hl:=len _ _ _ _ hsp;have KX:K.In s.heap:=e0.mod.kin.keeps λb o e=>(e0.bs b o e).1;have lim:s.heap.NoLimit:=e0.mod.nolimit.keeps λb o e=>(e0.bs b o e).1;have hkind:∀y∈ps.zip us,scope.names.lookup y.1=ae .local\/(scope.names.lookup y.1=ae .cell/\((cellsFrom (s.heap.objs.size+1) scope.names []).lookup y.1).isSome=ai):=λ⟨n,v⟩ hy=>by
  rcases S.par n (Fc hy).1 with q|q
  ·exact .inl q
  ·exact .inr ⟨q,PySem.W.cellsFrom_some _ _ _ (.inl q)⟩
 refine codeAny_call_function hr.depth (KX _ _ lk) rfl S.co S.gen rfl (PySem.W.codeRec_of KX hcd) (hb _ _ _ _ ?_);refine wpAny_newFunctionEnv_cells S.kind hkind λenv he s1 x=>?_;subst he;refine⟨lim.keeps x.toInCall.keep,codeAny_func ?_⟩;obtain⟨t,ht,hq⟩:=hbody A outer s H vs Q E (hr.deeper _) hsp;have I:Inv (cO CX P w K mg base N qual scope f cdv A outer s H E) [] (start N vs) H s1:=Jd S hr.hd e0 hl r x;refine B4 (ht [] s1 (start N vs) H _ I hq) (λfl s' hs=>?_) λe s' hs=>hs;have fin:∀{σ':St}{H':Hp}{v:V}{u:Af},Inv (cO CX P w K mg base N qual scope f cdv A outer s H E) [] σ' H' s'->RelV v u->Q v H'->CE outer P w H s Q u s':=
  λ{σ' H' v u} J rv q=>⟨v,H',J.os,J.bare,J.base,J.hok,rv,q⟩
 cases fl with
 |ret u=>
  obtain⟨v,σ',H',J,rv,q⟩:=hs;exact fin J rv q
 |next=>
  obtain⟨σ',H',J,q⟩:=hs;exact fin (v:=V.non) (u:=Bh) J rfl q
 |brk=>
  obtain⟨_,_,_,q⟩:=hs;exact False.elim q
 |cont=>
  obtain⟨_,_,_,q⟩:=hs;exact False.elim q
section
variable{X:Cx}{x:Str}{p pos:Pos}{e:Expr}{es:List Expr}{t:TA}{id T:String}{r:List V->Hp->VK->Prop}
def fC(r:List V->Hp->VK->Prop)(t:TA):TE:=λσ H Q=>t σ H λvs H1=>r vs H1 Q
theorem jg(hc:CallR X (.builtin id) r)(hg:Gl X x)(hm:X.mg x=ah)(hv:By x=ae (.builtin id))(ha:PA X (e::es) t)(hn:x≠"__name__":=by decide)(hdb:(x==("__debug__":Str))=aj:=by decide)
  (he:As (e::es) X.env=(aj,eval e X.env)::As es X.env:=by rfl) (hpl:(Ct pos (As es X.env)).any (·.1)=aj:=by rfl):PE X (.Call (.Name x p) (e::es) [] pos) (fC r t):=by
 intro pins s σ H Q I h;refine Gn (mn I hg hm hv ?_ hn hdb);exact PyProof.Rows.callWith_builtin1 (aP (ha pos pins s σ H _ I h) λus s1 ⟨vs,H1,I1,r1,q1⟩=>hc pins s1 σ H1 vs us Q I1 r1 q1) he hpl
theorem mK(hc:CallR X (.type T) r)(hg:Gl X x)(hm:X.mg x=ah)(hv:By x=ae (.type T))(ha:PA X (e::es) t)(hn:x≠"__name__":=by decide)(hdb:(x==("__debug__":Str))=aj:=by decide)
  (he:As (e::es) X.env=(aj,eval e X.env)::As es X.env:=by rfl) (hpl:(Ct pos (As es X.env)).any (·.1)=aj:=by rfl):PE X (.Call (.Name x p) (e::es) [] pos) (fC r t):=by
 intro pins s σ H Q I h;refine Gn (mn I hg hm hv ?_ hn hdb);exact E4 (aP (ha pos pins s σ H _ I h) λus s1 ⟨vs,H1,I1,r1,q1⟩=>hc pins s1 σ H1 vs us Q I1 r1 q1) he hpl
end
end L2
namespace HT
open PySem PyProof.Rows
section
variable{prog:A7}{w:Bk}{A:Bu}{E:Af->Ai->Prop}{s:Ai}
theorem cat_tup(ht:IsTup s.heap t vs.toArray)(hb:IsTup s.heap b ws.toArray)(hv:vs≠[])
  (h1:ws=[]->Q (.ref t) s) (h2:ws≠[]->Q (.ref s.heap.objs.size) {s with heap:=s.heap.push {cls:=.type "tuple",data:=.seq (vs++ws).toArray}})
  (hsz:vs.length+ws.length<=Ay):A2 (A6 prog w) A (Eu .Add (.ref t) (.ref b)) Q E s:=by
 obtain⟨⟨cls,dd,data,sl⟩,ho,hc,n,hd⟩:=id ht;obtain⟨⟨cls2,dd2,data2,sl2⟩,ho2,hc2,n2,hd2⟩:=id hb;simp only at hc hd hc2 hd2;subst hc hd hc2 hd2;have e:vs.toArray++ws.toArray=(vs++ws).toArray:=by simp
 by_cases hw:ws=[]
 ·exact concat_meets ⟨_,ho,rfl⟩ ⟨_,ho2,rfl⟩ noFill_tuple_add seq_tuple_add Gc F5 (Fx _ _)
   (tuple_addW1 t b vs.toArray ws.toArray n n2 dd dd2 sl sl2 (by simpa using hv) (by simp[hw])) ⟨ho,ho2,h1 hw⟩
 ·refine concat_meets ⟨_,ho,rfl⟩ ⟨_,ho2,rfl⟩ noFill_tuple_add seq_tuple_add Gc F5 (Fx _ _)
   (tuple_addW2 t b vs.toArray ws.toArray n n2 dd dd2 sl sl2 (by simpa using hv) (by simpa using hw) (by rw[A4,A4];exact hsz)) ⟨ho,ho2,?_⟩
  rw[e];exact h2 hw
def sIx(n d:Nat):Option Int->Nat
 |none=>d
 |some v=>if v < 0 then(v+(n:Int)).toNat else min v.toNat n
theorem sIx_none(n d):sIx n d ah=d:=rfl
theorem sIx_nat(n d k:Nat):sIx n d (ae (k:Int))=min k n:=by
 show(if (k:Int) < 0 then((k:Int)+(n:Int)).toNat else min (k:Int).toNat n)=min k n;rw[if_neg ⋯,Bq]
theorem Jf(n d)(hd:d<=n)(o):sIx n d o<=n:=by
 cases o with
 |none=>exact hd
 |some v=>
  show(if v < 0 then(v+(n:Int)).toNat else min v.toNat n)<=n;by_cases hv:v < 0
  ·rw[if_pos hv];omega
  ·rw[if_neg hv];exact Nat.min_le_right _ _
theorem yJ(v)(n d:Nat):(if v < 0 then max (v+(n:Int)) 0 else min v (n:Int))=((sIx n d (ae v):Nat):Int):=by
 show(if v < 0 then max (v+(n:Int)) 0 else min v (n:Int))=(((if v < 0 then(v+(n:Int)).toNat else min v.toNat n):Nat):Int);by_cases hv:v < 0
 ·simp only[if_pos hv];omega
 ·simp only[if_neg hv];omega
theorem QE(lo hi)(n:Nat):Gy lo hi 1 (n:Int)=(((sIx n 0 lo:Nat):Int),((sIx n n hi:Nat):Int)):=by
 have h1:¬((1:Int) < 0):=by omega
 unfold Gy;simp only[h1,if_false];refine Prod.ext ?_ ?_
 ·cases lo with
  |none=>rfl
  |some v=>exact yJ v n 0
 ·cases hi with
  |none=>rfl
  |some v=>exact yJ v n n
theorem QD(i j:Nat):Ff (i:Int) (j:Int) 1=j-i:=by
 unfold Ff;have h1:(1:Int) > 0:=by omega
 simp only[h1,if_true,Int.ediv_one]
 split<;>omega
theorem CG(p:IsPart v o)(h:Q o s):A2 (A6 prog w) A (Builtin.Slice.slicePartIndex v) Q E s:=by
 cases p with
 |none=>exact slicePart_none h
 |int i t=>exact slicePart_int h
theorem DW{lo hi:Option Int}{Q:Int×Int×Nat->Ai->Prop}(hs:s.heap.IsSliceOf sl vl vu .none)(pl:IsPart vl lo)(pu:IsPart vu hi)
  (h:Q (((sIx n 0 lo:Nat):Int),1,sIx n n hi-sIx n 0 lo) s):A2 (A6 prog w) A (Builtin.Slice.sliceApplied (.ref sl) (pure (n:Int))) Q E s:=by
 obtain⟨os,hos,hcs,hds⟩:=id hs;unfold Builtin.Slice.sliceApplied Builtin.Slice.sliceFields;refine Aa (Aa (Df hos hds (x:=vl) rfl (Aa (Df hos hds (x:=vu) rfl (Aa (Df hos hds (x:=.none) rfl (Aj ?_)))))));refine Aa (slicePart_none ?_);show A2 _ _ (if ((1:Int)==0)=ai then _ else _) _ _ s;rw[if_neg ∎];refine Aa (CG pl (Aa (CG pu (Aa (Aj ?_)))));show A2 _ _ (match Gy lo hi 1 (n:Int)with|(lo,hi)=>pure (lo,(1:Int),Ff lo hi 1)) _ _ s;rw[QE lo hi n];show A2 _ _ (pure (((sIx n 0 lo:Nat):Int),(1:Int),Ff ((sIx n 0 lo:Nat):Int) ((sIx n n hi:Nat):Int) 1)) _ _ s;rw[QD];exact Aj h
theorem Kd(xs:Array Af)(i k:Nat):((Bi k).filterMap λ(m:Nat)=>xs[((i:Int)+(m:Int)*1).toNat]?).toArray=((xs.toList.drop i).take k).toArray:=by
 have e:(λ(m:Nat)=>xs[((i:Int)+(m:Int)*1).toNat]?)=λm=>xs[i+m]?:=by
  funext m
  have:((i:Int)+(m:Int)*1).toNat=i+m:=by omega
  rw[this]
 rw[e];have:=pick_run xs i k;rw[List.filterMap_map]at this;have e2:((λx=>xs[x]?) ∘ λx=>i+x)=λm=>xs[i+m]?:=rfl;rw[e2]at this;rw[this]
theorem getItem_tuple_cut{lo hi:Option Int}(ht:IsTup s.heap t items)(hs:s.heap.IsSliceOf sl vl vu .none)(pl:IsPart vl lo)(pu:IsPart vu hi)
  (hw:¬(sIx items.size 0 lo=0/\sIx items.size items.size hi=items.size))
  (h:Q (.ref s.heap.objs.size) {s with heap:=s.heap.push {cls:=.type "tuple",data:=.seq ((items.toList.drop (sIx items.size 0 lo)).take (sIx items.size items.size hi-sIx items.size 0 lo)).toArray}})
  (hsz:items.size<=Ay):A2 (A6 prog w) A (getItem (.ref t) (.ref sl)) Q E s:=by
 have htake:sizeOk (.seq ((items.toList.drop (sIx items.size 0 lo)).take (sIx items.size items.size hi-sIx items.size 0 lo)).toArray):=by
  show((items.toList.drop (sIx items.size 0 lo)).take (sIx items.size items.size hi-sIx items.size 0 lo)).toArray.size<=Ay;rw[A4,Dc,Cy,C3];omega
 have hj:sIx items.size items.size hi<=items.size:=Jf _ _ (Ao _) hi;obtain⟨os,hos,hcs,hds⟩:=id hs;have hTs:s.TypeIs (.ref sl) "slice":=⟨os,hos,hcs⟩;unfold getItem
 try with_reducible refine Ce ?_
 first|refine Aa (Aj ?_)|skip
 refine Aa (wpAny_sequenceKey ht.typeIs ∎ ?_);refine Aa (Bz (name:=Dj "__getitem__") ht.typeIs Ef
  (Cb Ef ht.typeIs entry_tuple_getitem ?_ (args_tuple_getitem _ _)))
 show A2 _ _ (Builtin.Tuple.tupleItemsOf (.ref t)>>=_) _ _ s;refine Aa (tupleItemsOf_ ht ?_);refine Aa (Fi hTs ?_);rw[if_pos ∎];refine Aa (DW hs pl pu ?_);have hno:¬((((sIx items.size 0 lo:Nat):Int)==0&&(1:Int)==1&&(sIx items.size items.size hi-sIx items.size 0 lo)==items.size)=ai):=by
  intro q;rw[Du,Du]at q;have q1:((sIx items.size 0 lo:Nat):Int)=0:=eq_of_beq q.1.1;have q2:sIx items.size items.size hi-sIx items.size 0 lo=items.size:=eq_of_beq q.2;exact hw ⟨by omega,by omega⟩
 show A2 _ _ (if (((sIx items.size 0 lo:Nat):Int)==0&&(1:Int)==1&&(sIx items.size items.size hi-sIx items.size 0 lo)==items.size)=ai then _ else _) _ _ s;rw[if_neg hno,Kd]
 first
  |exact Aa (m:=Fm _) (Bx (Aj ⟨_,rfl,Aj h⟩) htake)
  |exact Aa (m:=Fm _) (Bx (Aa (Aj (Aj ⟨_,rfl,Aj h⟩))) htake)
  |exact Aa (Aa (m:=Fm _) (Bx (Aj (Aj ⟨_,rfl,Aj h⟩)) htake))
  |exact Aa (Aa (m:=Fm _) (Bx (Aj ⟨_,rfl,Aj h⟩) htake))
end
end HT
namespace L2
open PySem PySem.Spec PyProof.Rows
abbrev TO:=St->Hp->(Option Int->Hp->Prop)->Prop
def PO(X:Cx)(e:Option Expr)(t:TO):Prop:=
 ∀(pins:List (Addr×Obj))(s:Ai)(σ:St)(H:Hp)(Q:Option Int->Hp->Prop),Inv X pins σ H s->t σ H Q->
  A2 (A6 X.prog X.w) X.A (evalPart e X.env) (λu s'=>∃o H',Inv X pins σ H' s'/\IsPart u o/\Q o H') X.xe s
def xF:TO:=λ_ H Q=>Q ah H
def yI(t:TE):TO:=λσ H Q=>t σ H λx H1=>∃i,x=.int i/\Q (ae i) H1
section
variable{X:Cx}{e:Expr}{te:TE}{lo hi:Option Expr}{tl th:TO}{pos p2:Pos}
theorem EI:PO X ah xF:=by
 intro pins s σ H Q I h;rw[evalPart_none];exact Aj ⟨ah,H,I,.none,h⟩
theorem xI(h:PE X e te):PO X (ae e) (yI te):=by
 intro pins s σ H Q I hw;rw[evalPart_some];refine aP (h pins s σ H _ I hw) λu s1 ⟨x,H1,I1,r1,q1⟩=>?_;obtain⟨i,rfl,q⟩:=q1;obtain⟨t,rfl⟩:=r1;exact⟨ae i,H1,I1,.int i t,q⟩
def SlR(X:Cx)(r:V->Option Int->Option Int->Hp->VK->Prop):Prop:=
 ∀(pins:List (Addr×Obj))(s:Ai)(σ:St)(H:Hp)(x:V)(v vl vu:Af)(lo hi:Option Int)(sl:Addr)(Q:VK),Inv X pins σ H s->RelV x v->s.heap.IsSliceOf sl vl vu .none->IsPart vl lo->IsPart vu hi->r x lo hi H Q->
  ∃T id,typeLookup (.type T) "__getitem__"=pure (ae (.builtin id))/\s.TypeIs v T/\A2 (A6 X.prog X.w) X.A (getItem v (.ref sl)) (EP X pins σ Q) X.xe s
theorem SlR.or(h:SlR X r)(h':SlR X r'):SlR X (λx lo hi H Q=>r x lo hi H Q\/r' x lo hi H Q):=by
 intro pins s σ H x v vl vu lo hi sl Q I rx hs pl pu q;rcases q with q|q
 ·exact h pins s σ H x v vl vu lo hi sl Q I rx hs pl pu q
 ·exact h' pins s σ H x v vl vu lo hi sl Q I rx hs pl pu q
def sV(r:V->Option Int->Option Int->Hp->VK->Prop)(te:TE)(tl th:TO):TE:=λσ H Q=>te σ H λx H1=>tl σ H1 λl H2=>th σ H2 λu H3=>r x l u H3 Q
theorem u9(hr:SlR X r)(he:PE X e te)(hl:PO X lo tl)(hu:PO X hi th):PE X (.Subscript e (.Slice lo hi ah p2) pos) (sV r te tl th):=by
 intro pins s σ H Q I h;refine Subscript_ (aP (he pins s σ H _ I h) λv s1 ⟨x,H1,I1,r1,q1⟩=>?_);refine wpAny_Slice (aP (hl pins s1 σ H1 _ I1 q1) λvl s2 ⟨l,H2,I2,pl,q2⟩=>aP (hu pins s2 σ H2 _ I2 q2) λvu s3 ⟨u,H3,I3,pu,q3⟩=>?_);rw[evalPart_none];refine Aj ?_;have I4:Inv X pins σ H3 {s3 with heap:=s3.heap.push {cls:=.type "slice",data:=.fields #[vl,vu,.none]}}:=I3.kept (t':=s3.toks) λb ob q=>Ae _ q;obtain⟨T,id,hT,ht,hg⟩:=hr pins {s3 with heap:=s3.heap.push {cls:=.type "slice",data:=.fields #[vl,vu,.none]}} σ H3 x v vl vu l u s3.heap.objs.size Q I4 r1 (Heap.IsSliceOf.new ..) pl pu q3;show A2 (A6 X.prog X.w) X.A (subscriptTail e (.Slice lo hi ah p2) v (.ref s3.heap.objs.size)) (EP X pins σ Q) X.xe {s3 with heap:=s3.heap.push {cls:=.type "slice",data:=.fields #[vl,vu,.none]}};exact tail_any (ops:=[.ref s3.heap.objs.size,v]) ht hT hg (by with_unfolding_all rfl)
def eW(xs:List V)(lo hi:Option Int):List V:=(xs.drop (HT.sIx xs.length 0 lo)).take (HT.sIx xs.length xs.length hi-HT.sIx xs.length 0 lo)
theorem rA(xs:List V)(lo hi):(eW xs lo hi).length<=xs.length:=by
 unfold eW;rw[Dc,Cy];omega
def nX(K:Ah):V->Option Int->Option Int->Hp->VK->Prop:=λx lo hi H Q=>∃a xs,x=.ref a/\SqT K H a xs /\
 ¬(HT.sIx xs.length 0 lo=0/\HT.sIx xs.length xs.length hi=xs.length)/\∀p,H p=ah->Q (.ref p) (upd H p (.tup (eW xs lo hi)))
theorem sl_tup:SlR X (nX X.K):=by
 intro pins s σ H x v vl vu lo hi sl Q I rx hs pl pu h;obtain⟨a,xs,rfl,hx,hw,q⟩:=h;cases rx;obtain⟨its,r,ht,hz⟩:=I.tuple hx;have hlen:its.toArray.size=xs.length:=by rw[A4];exact r.length.symm
 refine⟨"tuple",_,PyProof.Rows.slot_tuple_getitem.lookup,ht.typeIs,?_⟩;refine HT.getItem_tuple_cut ht hs pl pu (by rw[hlen];exact hw) ?_ (by rw[hlen];exact hz);rw[hlen];refine⟨.ref s.heap.objs.size,_,I.laid (t':=s.toks) (o:=.tup (eW xs lo hi)) (λb ob q=>Ae _ q) (Ao _) ?_,rfl,q _ (I.hok.fresh (Ao _))⟩;exact⟨A9 (rA xs lo hi) hz,_,(r.drop (HT.sIx xs.length 0 lo)).take (HT.sIx xs.length xs.length hi-HT.sIx xs.length 0 lo),IsTupP.new _ _⟩
def AJ(K:Ah):R2:=λx y H Q=>∃a b xs ys,x=.ref a/\y=.ref b/\SqT K H a xs/\SqT K H b ys/\xs≠[]/\xs.length+ys.length<=Ay /\
 (ys=[]->Q (.ref a) H)/\(ys≠[]->∀p,H p=ah->Q (.ref p) (upd H p (.tup (xs++ys))))
theorem Vals.nil_iff(r:Vals xs us):us=[]↔xs=[]:=by
 cases r with
 |nil=>simp
 |cons _ _=>simp
theorem op_catT:OpR X (Eu .Add) (AJ X.K):=by
 intro pins s σ H x y v u Q I rx ry h;obtain⟨a,b,xs,ys,rfl,rfl,ha,hb,hx,hz,q1,q2⟩:=h;cases rx;cases ry;obtain⟨its,r1,p1,_⟩:=I.tuple ha;obtain⟨its2,r2,p2,_⟩:=I.tuple hb;refine HT.cat_tup p1 p2 (λz=>hx (r1.nil_iff.mp z)) (λz=>⟨.ref a,H,I,rfl,q1 (r2.nil_iff.mp z)⟩) (λz=>?_) (by rw[<-r1.length,<-r2.length];exact hz);refine⟨.ref s.heap.objs.size,_,I.laid (t':=s.toks) (o:=.tup (xs++ys)) (λb ob q=>Ae _ q) (Ao _) ?_,rfl,q2 (λw=>z (r2.nil_iff.mpr w)) _ (I.hok.fresh (Ao _))⟩;exact⟨by rw[Ak];exact hz,_,r1.append r2,IsTupP.new _ _⟩
end
def iI(n:Nat)(i:Int):Option Nat:=if 0<=i then(if i < n then ae i.toNat else ah)else if -(n:Int)<=i then ae (i+n).toNat else ah
def c7{α:Type}(xs:List α)(i:Int):Option α:=(iI xs.length i).bind λj=>xs[j]?
theorem HL(h:iI n i=ae j):seqIndex? i n=ae j/\j < n/\-(n:Int)<=i/\i < n:=by
 unfold iI at h;by_cases h0:0<=i
 ·rw[if_pos h0]at h;by_cases h1:i < n
  ·rw[if_pos h1]at h;have e:i.toNat=j:=Bc h;exact⟨by rw[seqIndex_of h0 h1,e],by omega,by omega,h1⟩
  ·rw[if_neg h1]at h;cases h
 ·rw[if_neg h0]at h;by_cases h1:-(n:Int)<=i
  ·rw[if_pos h1]at h;have e:(i+n).toNat=j:=Bc h;exact⟨by rw[seqIndex_neg ⋯ h1,e],by omega,h1,by omega⟩
  ·rw[if_neg h1]at h;cases h
theorem vU(h:c7 xs i=ae v):∃j,seqIndex? i xs.length=ae j/\xs[j]?=ae v/\j < xs.length/\-(xs.length:Int)<=i/\i < xs.length:=by
 unfold c7 at h;cases e:iI xs.length i with
 |none=>rw[e]at h;cases h
 |some j=>
  rw[e]at h;obtain⟨h1,h2,h3,h4⟩:=HL e;exact⟨j,h1,h,h2,h3,h4⟩
theorem fq{j:Nat}(h:xs[j]?=ae v):c7 xs (j:Int)=ae v:=by
 have hj:j < xs.length:=(Av.mp h).1;have e:iI xs.length (j:Int)=ae j:=by
  unfold iI;rw[if_pos ⋯,if_pos ⋯];simp
 unfold c7;rw[e];exact h
def mG(b:Expr):Prop:=∀o i,subscripted b aj o i=operate [o,i] (getItem o i)
def IxR(X:Cx)(r:R2):Prop:=
 ∀(value slice:Expr)(pins:List (Addr×Obj))(s:Ai)(σ:St)(H:Hp)(x y:V)(v u:Af)(Q:VK),Inv X pins σ H s->RelV x v->RelV y u->r x y H Q->
  subscripted slice aj v u=operate [v,u] (getItem v u)->A2 (A6 X.prog X.w) X.A (subscriptTail value slice v u) (EP X pins σ Q) X.xe s
def uN(X:Cx)(id:String)(r:V->List V->Hp->VK->Prop):Prop:=
 ∀(pins:List (Addr×Obj))(s:Ai)(σ:St)(H:Hp)(x:V)(xs:List V)(v:Af)(us:List Af)(Q:VK),Inv X pins σ H s->RelV x v->Vals xs us->r x xs H Q->
  A2 (A6 X.prog X.w) X.A (call (.builtin id) (v::us)) (EP X pins σ Q) X.xe s
section
variable{X:Cx}{a b:Expr}{ta tb:TE}{pos:Pos}
theorem IxR.or(h:IxR X r)(h':IxR X r'):IxR X (λx y H Q=>r x y H Q\/r' x y H Q):=by
 intro value slice pins s σ H x y v u Q I rx ry q hs;rcases q with q|q
 ·exact h value slice pins s σ H x y v u Q I rx ry q hs
 ·exact h' value slice pins s σ H x y v u Q I rx ry q hs
theorem gD(hr:IxR X r)(ha:PE X a ta)(hb:PE X b tb)(hs:mG b):PE X (.Subscript a b pos) (dF r ta tb):=by
 intro pins s σ H Q I h;exact Subscript_ (kx ha hb I h λv u s2 x y H2 I2 rx ry q=>hr a b pins s2 σ H2 x y v u Q I2 rx ry q (hs _ _))
def o4(K:Ah):R2:=λx y H Q=>∃p xs i v,x=.ref p/\y=.int i/\SqL K H p xs/\c7 xs i=ae v/\Q v H
def om(K:Ah):R2:=λx y H Q=>∃p xs i v,x=.ref p/\y=.int i/\SqT K H p xs/\c7 xs i=ae v/\Q v H
def nc:R2:=λx y H Q=>∃z i c,x=.str z/\y=.int i/\z.length<=Ay/\c7 z.cps.toList i=ae c/\Q (.str ⟨#[c]⟩) H
theorem ix_list:IxR X (o4 X.K):=by
 intro value slice pins s σ H x y v u Q I rx ry h hs;obtain⟨p,xs,i,z,rfl,rfl,hq,he,q⟩:=h;cases rx;obtain⟨t,rfl⟩:=ry;obtain⟨its,r,pl,hz⟩:=I.list hq;obtain⟨j,h1,h2,h3,h4,h5⟩:=vU he;obtain⟨w,ew,rw'⟩:=r.get h2;have hl:=r.length;have hn:=l9;have fin:EP X pins σ Q w s:=⟨z,H,I,rw',q⟩;by_cases h0:0<=i
 ·have hj:i.toNat=j:=by
   rw[seqIndex_of h0 h5]at h1;exact Bc h1
  exact item_listR pl.isList h0 ⋯ (by rw[hj];simpa using ew) fin hs
 ·have hj:(i+(its.toArray.size:Int)).toNat=j:=by
   rw[seqIndex_neg ⋯ h4]at h1;rw[A4,<-hl];exact Bc h1
  exact subscriptTail_builtinR (x:=w) pl.isList.typeIs slot_list_getitem.lookup
   (wpAny_getItem_list_neg (Q:=λr s'=>r=w/\EP X pins σ Q r s') pl.isList ⋯ (by rw[A4]<;>omega) ⋯ (by rw[hj];simpa using ew) ⟨rfl,fin⟩) hs
theorem ix_tup:IxR X (om X.K):=by
 intro value slice pins s σ H x y v u Q I rx ry h hs;obtain⟨p,xs,i,z,rfl,rfl,hq,he,q⟩:=h;cases rx;obtain⟨t,rfl⟩:=ry;obtain⟨its,r,pl,hz⟩:=I.tuple hq;obtain⟨j,h1,h2,h3,h4,h5⟩:=vU he;obtain⟨w,ew,rw'⟩:=r.get h2;have hl:=r.length;have hn:=l9;have fin:EP X pins σ Q w s:=⟨z,H,I,rw',q⟩;exact subscriptTail_builtinR (x:=w) pl.typeIs slot_tuple_getitem.lookup
  (getItem_tuple (j:=j) (Q:=λr s'=>r=w/\EP X pins σ Q r s') pl ⋯ ⋯ (by rw[A4,<-hl];exact h1) (by simpa using ew) ⟨rfl,fin⟩) hs
theorem Le:IxR X nc:=by
 intro value slice pins s σ H x y v u Q I rx ry h hs;obtain⟨z,i,c,rfl,rfl,hz,he,q⟩:=h;obtain⟨t,rfl⟩:=rx;obtain⟨t',rfl⟩:=ry;obtain⟨j,h1,h2,h3,h4,h5⟩:=vU he;have hl:z.cps.toList.length=z.length:=by simp[Str.length]
 rw[hl]at h1 h4 h5;have hn:=l9;exact tail_any (typeIs_str s z t) slot_str_getitem.lookup (getItem_str (c:=c) (by
  have e1:decide (i < -(2 ^ 63:Int))=aj:=decide_eq_false ⋯;have e2:decide (i ≥ 2 ^ 63)=aj:=decide_eq_false ⋯;rw[e1,e2,Bool.or_false]) (by rw[h1];simpa using h2) ⟨.str ⟨#[c]⟩,H,I.tok _,⟨_,rfl⟩,q⟩) hs
def jz(K:Ah):R2:=λx y H Q=>o4 K x y H Q\/om K x y H Q\/nc x y H Q
theorem qY:IxR X (jz X.K):=ix_list.or (ix_tup.or Le)
theorem O5(its:List Af)(n j)(u):Cw (·.setIfInBounds j u) {cls:=.type "list",data:=.seq its.toArray n}={ cls:=.type "list",data:=.seq (its.set j u).toArray n}:=by
 simp[Cw]
theorem Inv.lst{σ:St}{H:Hp}{s:Ai}{p:Addr}{xs:List V}(I:Inv X pins σ H s)(h:H p=ae (.lst xs)):
  ∃(its:List Af)(n:Nat),Vals xs its/\s.heap.get? p=ae {cls:=.type "list",data:=.seq its.toArray n}/\xs.length<=Ay:=by
 obtain⟨z,its,n,r,e⟩:=I.hok p _ h;exact⟨its,n,r,e,z⟩
theorem Inv.lstUpd{σ:St}{its its':List Af}(I:Inv X pins σ H s)(h:H p=ae (.lst xs))
  (ho:s.heap.get? p=ae {cls:=.type "list",data:=.seq its.toArray n}) (hf:f {cls:=.type "list",data:=.seq its.toArray n}={ cls:=.type "list",data:=.seq its'.toArray n'}) (r:Vals ys its') (hz:ys.length<=Ay) (t):
  Inv X pins σ (upd H p (.lst ys)) {s with heap:=s.heap.update p f,toks:=t}:=by
 have e:(s.heap.update p f).get? p=ae {cls:=.type "list",data:=.seq its'.toArray n'}:=by
  rw[Bt f ho (by rw[hf]<;>rfl),hf]
 refine I.write (x:=p) (e:=p) (by rw[h];trivial) (.inl rfl) (λb u hb q=>(Dh _ _ (Ne.symm hb)).trans q) ⟨_,e⟩ ?_;exact⟨hz,its',n',r,e⟩
def xA:V->V->V->Hp->(Hp->Prop)->Prop:=λo i v H Q=>∃p xs k j,o=.ref p/\i=.int k/\H p=ae (.lst xs)/\iI xs.length k=ae j/\Q (upd H p (.lst (xs.set j v)))
theorem qg:mZ X xA:=by
 intro pins s σ H o i v ov iv u Q I ro ri rv h;obtain⟨p,xs,k,j,rfl,rfl,hp,hj,q⟩:=h;cases ro;obtain⟨t,rfl⟩:=ri;obtain⟨its,n,r,ho,hz⟩:=I.lst hp;obtain⟨h1,h2,h3,h4⟩:=HL hj;have hl:=r.length;have hn:=l9;have I':Inv X pins σ (upd H p (.lst (xs.set j v))) {s with heap:=s.heap.update p (Cw (·.setIfInBounds j u))}:=
  I.lstUpd hp ho (O5 its n j u) (r.set rv j) (by rw[Cg];exact hz) s.toks
 by_cases h0:0<=k
 ·have hk:k.toNat=j:=by
   rw[seqIndex_of h0 h4]at h1;exact Bc h1
  exact PySem.W.ki_setAt ho h0 ⋯ (by rw[A4,<-hl];exact h4) (by rw[hk];exact⟨_,I',q⟩)
 ·have hk:(k+(its.toArray.size:Int)).toNat=j:=by
   rw[seqIndex_neg ⋯ h3]at h1;rw[A4,<-hl];exact Bc h1
  exact PySem.W.ki_setBack ho ⋯ (by rw[A4,<-hl];exact h3) ⋯ (by rw[hk];exact⟨_,I',q⟩)
theorem MP(lo hi)(n):(Ha lo hi ah n).1=((HT.sIx n 0 lo:Nat):Int)/\(Ha lo hi ah n).2.1=((HT.sIx n n hi:Nat):Int)/\(Ha lo hi ah n).2.2=1:=by
 refine⟨?_,?_,rfl⟩
 ·cases lo with
  |none=>simp[Ha,HT.sIx]
  |some i=>
   simp only[Ha,HT.sIx,Option.getD_none,show(1:Int) > 0 by decide,if_true];by_cases h:i < 0
   ·simp only[h,if_true]<;>omega
   ·simp only[h,if_false]<;>omega
 ·cases hi with
  |none=>simp[Ha,HT.sIx]
  |some i=>
   simp only[Ha,HT.sIx,Option.getD_none,show(1:Int) > 0 by decide,if_true];by_cases h:i < 0
   ·simp only[h,if_true]<;>omega
   ·simp only[h,if_false]<;>omega
theorem O3(its:List Af)(lo hi):slicePick its.toArray lo hi ah=((its.drop (HT.sIx its.length 0 lo)).take (HT.sIx its.length its.length hi-HT.sIx its.length 0 lo)).toArray:=by
 obtain⟨h1,h2,h3⟩:=MP lo hi its.toArray.size;unfold slicePick;rw[h1,h2,h3];simp only[sliceRange_one,pick_run,A4]<;>rfl
def o5(K:Ah):V->Option Int->Option Int->Hp->VK->Prop:=λx lo hi H Q=>∃a xs,x=.ref a/\SqL K H a xs/\∀p,H p=ah->Q (.ref p) (upd H p (.lst (eW xs lo hi)))
theorem FT:SlR X (o5 X.K):=by
 intro pins s σ H x v vl vu lo hi sl Q I rx hs pl pu h;obtain⟨a,xs,rfl,hx,q⟩:=h;cases rx;obtain⟨its,r,ht,hz⟩:=I.list hx;have hlen:=r.length;refine⟨"list",_,slot_list_getitem.lookup,ht.isList.typeIs,?_⟩;refine wpAny_getItem_list_slice ht.isList hs pl pu .none (by simp) ?_ (by rw[A4]<;>omega);rw[O3,<-hlen];refine⟨.ref s.heap.objs.size,_,I.laid (t':=s.toks) (o:=.lst (eW xs lo hi)) (λb ob q=>Ae _ q) (Ao _) ?_,rfl,q _ (I.hok.fresh (Ao _))⟩;exact⟨A9 (rA xs lo hi) hz,_,0,(r.drop (HT.sIx xs.length 0 lo)).take (HT.sIx xs.length xs.length hi-HT.sIx xs.length 0 lo),Az _ rfl⟩
def ic:V->Bool
 |.non=>ai
 |.bl _=>ai
 |.int _=>ai
 |.str _=>ai
 |_=>aj
def iK:V->V->Bool
 |.non,.non=>ai
 |.bl a,.bl b=>a==b
 |.bl a,.int b=>(if a then 1 else 0)==b
 |.int a,.bl b=>a==(if b then 1 else 0)
 |.int a,.int b=>a==b
 |.str a,.str b=>a==b
 |_,_=>aj
theorem xq(ry:RelV y u)(rx:RelV x v)(fy:ic y=ai)(fx:ic x=ai):SeqAt.EqAt A s u v (iK y x):=by
 cases y with
 |non=>
  cases ry;cases x with
  |non=>cases rx;exact SeqAt.EqAt.same _
  |bl b=>cases rx;exact SeqAt.EqAt.none_bool b
  |int b=>obtain⟨t,rfl⟩:=rx;exact SeqAt.EqAt.none_int b t
  |str b=>obtain⟨t,rfl⟩:=rx;exact SeqAt.EqAt.none_str b t
  |_=>exact absurd (show aj=ai from fx) Ag
 |bl a=>
  cases ry;cases x with
  |non=>cases rx;exact SeqAt.EqAt.bool_none a
  |bl b=>cases rx;exact SeqAt.EqAt.bool_bool a b
  |int b=>obtain⟨t,rfl⟩:=rx;exact SeqAt.EqAt.bool_int a b t
  |str b=>obtain⟨t,rfl⟩:=rx;exact SeqAt.EqAt.bool_str a b t
  |_=>exact absurd (show aj=ai from fx) Ag
 |int a=>
  obtain⟨t',rfl⟩:=ry;cases x with
  |non=>cases rx;exact SeqAt.EqAt.int_none a t'
  |bl b=>cases rx;exact SeqAt.EqAt.int_bool a t' b
  |int b=>obtain⟨t,rfl⟩:=rx;exact SeqAt.EqAt.int_int a t' b t
  |str b=>obtain⟨t,rfl⟩:=rx;exact SeqAt.EqAt.int_str a t' b t
  |_=>exact absurd (show aj=ai from fx) Ag
 |str a=>
  obtain⟨t',rfl⟩:=ry;cases x with
  |non=>cases rx;exact SeqAt.EqAt.str_none a t'
  |bl b=>cases rx;exact SeqAt.EqAt.str_bool a t' b
  |int b=>obtain⟨t,rfl⟩:=rx;exact SeqAt.EqAt.str_int a t' b t
  |str b=>obtain⟨t,rfl⟩:=rx;exact SeqAt.EqAt.str_str a t' b t
  |_=>exact absurd (show aj=ai from fx) Ag
 |_=>exact absurd (show aj=ai from fy) Ag
def gi(x:V)(u:Af):Bool:=match u with
 |.none=>iK .non x
 |.bool b=>iK (.bl b) x
 |.int i _=>iK (.int i) x
 |.str z _=>iK (.str z) x
 |_=>aj
theorem yK(r:RelV y u)(f:ic y=ai):gi x u=iK y x:=by
 cases y with
 |non=>cases r;rfl
 |bl b=>cases r;rfl
 |int i=>obtain⟨t,rfl⟩:=r;rfl
 |str z=>obtain⟨t,rfl⟩:=r;rfl
 |_=>exact absurd (show aj=ai from f) Ag
theorem nr:∀{xs:List V}{us:List Af},Vals xs us->xs.all ic=ai->us.any (gi x)=xs.any λy=>iK y x
 |_,_,.nil,_=>rfl
 |y::xs,u::us,.cons r t,f=>by
  rw[List.all_cons,Du]at f;rw[C6,C6,yK r f.1,nr t f.2]
theorem nW(rx:RelV x v)(fx:ic x=ai):∀{xs:List V}{us:List Af},Vals xs us->xs.all ic=ai->∀u∈us,SeqAt.EqAt A s u v (gi x u)
 |_,_,.nil,_=>λu hu=>by cases hu
 |y::xs,u::us,.cons r t,f=>λu' hu=>by
  rw[List.all_cons,Du]at f;rcases Au.mp hu with rfl|hu
  ·rw[yK r f.1];exact xq r rx f.1 fx
  ·exact nW rx fx t f.2 u' hu
def ql(x:V)(xs:List V):Bool:=xs.any λy=>iK y x
def il(K:Ah)(neg:Bool):R2:=λx y H Q=>∃p xs,y=.ref p/\(SqL K H p xs\/SqT K H p xs)/\ic x=ai/\xs.all ic=ai/\Q (.bl (if neg then !ql x xs else ql x xs)) H
theorem Uq:OpR X (B3 .In) (il X.K aj):=by
 intro pins s σ H x y v u Q I rx ry h;obtain⟨p,xs,rfl,hq,fx,fs,q⟩:=h;cases ry;rcases hq with hq|hq
 ·obtain⟨its,r,pl,hz⟩:=I.list hq;refine SeqAt.in_listAt (gi x) pl.isList (λw hw=>nW rx fx r fs w (by simpa using hw)) ⟨.bl _,H,I,rfl,?_⟩;rw[show its.toArray.any (gi x)=its.any (gi x) by simp,nr r fs];exact q
 ·obtain⟨its,r,pl,hz⟩:=I.tuple hq;refine SeqAt.in_tupleAt (gi x) pl (λw hw=>nW rx fx r fs w (by simpa using hw)) ⟨.bl _,H,I,rfl,?_⟩;rw[show its.toArray.any (gi x)=its.any (gi x) by simp,nr r fs];exact q
theorem S6:OpR X (B3 .NotIn) (il X.K ai):=by
 intro pins s σ H x y v u Q I rx ry h;obtain⟨p,xs,rfl,hq,fx,fs,q⟩:=h;cases ry;rcases hq with hq|hq
 ·obtain⟨its,r,pl,hz⟩:=I.list hq;refine SeqAt.notIn_listAt (gi x) pl.isList (λw hw=>nW rx fx r fs w (by simpa using hw)) ⟨.bl _,H,I,rfl,?_⟩;rw[show its.toArray.any (gi x)=its.any (gi x) by simp,nr r fs];exact q
 ·obtain⟨its,r,pl,hz⟩:=I.tuple hq;refine SeqAt.notIn_tupleAt (gi x) pl (λw hw=>nW rx fx r fs w (by simpa using hw)) ⟨.bl _,H,I,rfl,?_⟩;rw[show its.toArray.any (gi x)=its.any (gi x) by simp,nr r fs];exact q
theorem qG:CallR X (.builtin "len") (λxs H Q=>∃p ys,xs=[.ref p]/\(SqL X.K H p ys\/SqT X.K H p ys)/\Q (.int ys.length) H):=by
 intro pins s σ H xs us Q I r h;obtain⟨p,ys,rfl,hq,q⟩:=h;obtain⟨u,rfl,rx⟩:=gS r;cases rx;have hn:=l9;rcases hq with hq|hq
 ·obtain⟨its,r',pl,hz⟩:=I.list hq;have hlen:=r'.length;exact Calls.call_len_list pl.isList (by simp only[A4]<;>omega) ⟨.int ys.length,H,I.tok _,⟨s.toks+1,by rw[A4,hlen]⟩,q⟩
 ·obtain⟨its,r',pl,hz⟩:=I.tuple hq;have hlen:=r'.length;exact len_tuple pl (by simp only[A4]<;>omega) ⟨.int ys.length,H,I.tok _,⟨s.toks+1,by rw[A4,hlen]⟩,q⟩
theorem call_len_str:CallR X (.builtin "len") (λxs H Q=>∃z,xs=[.str z]/\z.length<=Ay/\Q (.int z.length) H):=by
 intro pins s σ H xs us Q I r h;obtain⟨z,rfl,hz,q⟩:=h;obtain⟨u,rfl,t,rfl⟩:=gS r;have hn:=l9;exact len_str ⋯ ⟨.int z.length,H,I.tok _,⟨_,rfl⟩,q⟩
theorem CallR.or(h:CallR X f r)(h':CallR X f r'):CallR X f (λxs H Q=>r xs H Q\/r' xs H Q):=by
 intro pins s σ H xs us Q I rs q;rcases q with q|q
 ·exact h pins s σ H xs us Q I rs q
 ·exact h' pins s σ H xs us Q I rs q
theorem RL:CallR X (.type "list") (λxs H Q=>∃p ys,xs=[.ref p]/\(SqL X.K H p ys\/SqT X.K H p ys)/\∀l,H l=ah->Q (.ref l) (upd H l (.lst ys))):=by
 intro pins s σ H xs us Q I r h;obtain⟨p,ys,rfl,hq,q⟩:=h;obtain⟨u,rfl,rx⟩:=gS r;cases rx;have fin:∀(its:List Af),Vals ys its->ys.length<=Ay->∀(h':Heap)(c':Nat),(∀b o',s.heap.get? b=ae o'->h'.get? b=ae o')->
   h'.get? s.heap.objs.size=ae {cls:=.type "list",dict:=ah,data:=.seq its.toArray c',slots:=#[]}->EP X pins σ Q (.ref s.heap.objs.size) {s with heap:=h'}:=λits r' hz h' c' kp e=>
  ⟨.ref s.heap.objs.size,_,I.laid (t':=s.toks) kp (Ao _) (show ObjOk X.prog X.w _ h' _ (.lst ys)from⟨hz,its,c',r',e⟩),rfl,q _ (I.hok.fresh (Ao _))⟩
 rcases hq with hq|hq
 ·obtain⟨its,r',pl,hz⟩:=I.list hq;have hlen:=r'.length;obtain⟨o,ho,hc,n,hd⟩:=pl.isList;exact call_list_seq p (.inl rfl) ho hc hd (λh' c' kp e=>fin its r' hz h' c' kp e) (by simp only[A4]<;>omega)
 ·obtain⟨its,r',pl,hz⟩:=I.tuple hq;have hlen:=r'.length;obtain⟨o,ho,hc,n,hd⟩:=pl;exact call_list_seq p (.inr rfl) ho hc hd (λh' c' kp e=>fin its r' hz h' c' kp e) (by simp only[A4]<;>omega)
theorem Pq:CallR X (.type "tuple") (λxs H Q=>∃p ys,xs=[.ref p]/\((SqL X.K H p ys/\∀l,H l=ah->Q (.ref l) (upd H l (.tup ys)))\/(SqT X.K H p ys/\Q (.ref p) H))):=by
 intro pins s σ H xs us Q I r h;obtain⟨p,ys,rfl,h⟩:=h;obtain⟨u,rfl,rx⟩:=gS r;cases rx;rcases h with⟨hq,q⟩|⟨hq,q⟩
 ·obtain⟨its,r',pl,hz⟩:=I.list hq;have hlen:=r'.length;refine call_tuple_list pl.isList (λh' kp=>?_) (by simp only[A4]<;>omega);have I1:Inv X pins σ H {s with heap:=h'}:=I.kept (t':=s.toks) kp;have I2:Inv X pins σ (upd H h'.objs.size (.tup ys)) {s with heap:=h'.push {cls:=.type "tuple",data:=.seq its.toArray}}:=
   I1.laid (t':=s.toks) (λb o e=>Ae _ e) (Ao _) (show ObjOk X.prog X.w _ _ _ (.tup ys)from⟨hz,its,r',IsTupP.new _ _⟩)
  exact⟨.ref h'.objs.size,_,I2,rfl,q _ (I1.hok.fresh (Ao _))⟩
 ·obtain⟨its,r',pl,hz⟩:=I.tuple hq;exact call_tuple_same pl ⟨.ref p,H,I,rfl,q⟩
def wX(K:Ah)(T:String)(x:V)(H:Hp):Prop:=match x with
 |.str _=>T="str"
 |.int _=>T="int"
 |.ref p=>(T="list"/\∃xs,SqL K H p xs)\/(T="tuple"/\∃o,K.lookup p=ae o/\o.cls=.type "tuple"/\o.dict=ah) \/
   (T="dict"/\((∃kvs,H p=ae (.dK kvs))\/∃kvs,H p=ae (.dT kvs)))\/(T="set"/\∃S n,H p=ae (.set S n))
 |_=>False
theorem CN{σ:St}(I:Inv X pins σ H s)(r:RelV x v)(ty:wX X.K T x H):
  s.TypeIs v T/\∀a,v=.ref a->∃ob,s.heap.get? a=ae ob/\ob.dict=ah:=by
 cases x with
 |str z=>
  obtain⟨t,rfl⟩:=r;cases(show T="str" from ty);exact⟨typeIs_str s z t,λ_ e=>nomatch e⟩
 |int i=>
  obtain⟨t,rfl⟩:=r;cases(show T="int" from ty);exact⟨typeIs_int s i t,λ_ e=>nomatch e⟩
 |ref p=>
  cases r;rcases ty with⟨rfl,xs,hq⟩|⟨rfl,o,hk,hc,hd⟩|⟨rfl,hk⟩|⟨rfl,S,n,hk⟩
  ·obtain⟨its,_,pl,_⟩:=I.list hq;refine⟨pl.isList.typeIs,λa e=>?_⟩;cases e;obtain⟨o,n,e,c,hd,_⟩:=pl;exact⟨o,e,hd⟩
  ·refine⟨⟨o,I.kIn p o hk,hc⟩,λa e=>?_⟩;cases e;exact⟨o,I.kIn _ o hk,hd⟩
  ·have z:∃o,s.heap.get? p=ae o/\o.ExactDict:=by
    rcases hk with⟨kvs,hk⟩|⟨kvs,hk⟩
    ·obtain⟨_,_,_,_,o,_,_,e,ex,_⟩:=I.hok p _ hk;exact⟨o,e,ex⟩
    ·obtain⟨_,_,_,_,o,_,_,e,ex,_⟩:=I.hok p _ hk;exact⟨o,e,ex⟩
   obtain⟨o,e,ex⟩:=z;refine⟨⟨o,e,ex.1⟩,λa e2=>?_⟩;cases e2;exact⟨o,e,ex.2.1⟩
  ·obtain⟨o,_,_,_,e,ex,_⟩:=I.hok p _ hk;refine⟨⟨o,e,ex.1⟩,λa e2=>?_⟩;cases e2;exact⟨o,e,ex.2.1⟩
 |_=>exact False.elim ty
def ph(K:Ah)(T:String)(r:V->List V->Hp->VK->Prop)(to:TE):TE:=λσ H Q=>to σ H λx H1=>wX K T x H1/\r x [] H1 Q
def tQ(K:Ah)(T:String)(r:V->List V->Hp->VK->Prop)(to:TE)(t:TA):TE:=λσ H Q=>to σ H λx H1=>wX K T x H1/\t σ H1 λxs H2=>r x xs H2 Q
variable{o e:Expr}{es:List Expr}{to:TE}{t:TA}{name:Str}{apos cpos:Pos}{T id:String}{r:V->List V->Hp->VK->Prop}
theorem R8(pa:PlainAttrs T)(slot:Slot T name id)(hty:typeOf (.builtin id)=pure (.type "method_descriptor"))(hm:uN X id r)(ho:PE X o to)
  (hbase:Gi o name X.env (eval o X.env)=eval o X.env:=by rfl) (hline:(apos.endLine==cpos.line)=ai:=by rfl):PE X (.Call (.Attribute o name apos) [] [] cpos) (ph X.K T r to):=by
 intro pins s σ H Q I h;refine wpAny_Call_method0_late hbase hline (aP (ho pins s σ H _ I h) λv s1 ⟨x,H1,I1,r1,ty,q1⟩=>?_);obtain⟨h1,h2⟩:=CN I1 r1 ty;exact⟨T,id,pa,slot,hty,h1,h2,Calls.callWith_builtin rfl (PySem.evalArgs_none (hm pins s1 σ H1 x [] v [] Q I1 r1 .nil q1))⟩
theorem BO(pa:PlainAttrs T)(slot:Slot T name id)(hty:typeOf (.builtin id)=pure (.type "method_descriptor"))(hm:uN X id r)(ho:PE X o to)(ha:PA X (e::es) t)
  (hbase:Gi o name X.env (eval o X.env)=eval o X.env:=by rfl)
  (hfew:((Ct cpos (As (e::es) X.env)).all (λx=>!x.1)&&(backToKw cpos (keywordEach [] X.env)).all (λx=>x.1.isSome)
   && decide ((e::es).length+([]:List Keyword).length+(if ([]:List Keyword).isEmpty then 0 else 1) < 30))=ai:=by rfl)
  (hline:(apos.endLine==cpos.line)=ai:=by rfl) (hs:As (e::es) X.env=(aj,eval e X.env)::As es X.env:=by rfl) (hplain:(Ct cpos (As es X.env)).any (·.1)=aj:=by rfl):
  PE X (.Call (.Attribute o name apos) (e::es) [] cpos) (tQ X.K T r to t):=by
 intro pins s σ H Q I h;refine wpAny_Call_method_late hbase hfew hline rfl (aP (ho pins s σ H _ I h) λv s1 ⟨x,H1,I1,r1,ty,q1⟩=>?_);obtain⟨h1,h2⟩:=CN I1 r1 ty;refine⟨T,id,pa,slot,hty,h1,h2,?_⟩;have hA:=ha cpos pins s1 σ H1 _ I1 q1;rw[hs]at hA ⊢;refine Calls.callWith_builtin (by show(aj || (Ct cpos (As es X.env)).any (·.1))=aj;rw[hplain]<;>rfl) (Calls.evalArgs_plain ?_);exact aP hA λus s2 ⟨vs,H2,I2,r2,q2⟩=>hm pins s2 σ H2 x vs v us Q I2 r1 r2 q2
end
def FN(X:Cx)(id:String)(r:V->List V->Hp->VK->Prop):Prop:=
 ∀(pins:List (Addr×Obj))(s:Ai)(σ:St)(H:Hp)(x:V)(xs:List V)(v:Af)(us:List Af)(Q:VK),Inv X pins σ H s->RelV x v->Vals xs us->r x xs H Q->
  A2 (A6 X.prog X.w) X.A (call (.builtin id) (v::us)) (EP X pins σ Q) X.xe s
theorem Vals.one:∀{x:V}{us:List Af},Vals [x] us->∃u,us=[u]/\RelV x u
 |_,_,.cons r .nil=>⟨_,rfl,r⟩
theorem Vals.zero:∀{us:List Af},Vals [] us->us=[]
 |_,.nil=>rfl
theorem Vals.rep(h:Vals xs us):∀k:Nat,Vals (Bn k xs).flatten (Bn k us).flatten
 |0=>.nil
 |k+1=>by
  rw[D3,D3,Fl,Fl];exact Vals.append h (Vals.rep h k)
theorem BG(its:List Af):∀(k:Nat)(acc:List Af),
  List.foldl (λx1 x2=>x1++x2) acc.toArray (Bn k its.toArray)=(acc++(Bn k its).flatten).toArray
 |0,acc=>by simp
 |k+1,acc=>by
  have e:acc.toArray++its.toArray=(acc++its).toArray:=by simp
  have e2:(acc++its)++(Bn k its).flatten=acc++(Bn (k+1) its).flatten:=by
   rw[D3,Fl,Bj]
  rw[<-e2,<-BG its k (acc++its),<-e,D3,List.foldl_cons]
section
variable{X:Cx}{pins:List (Addr×Obj)}{σ:St}{H:Hp}{s:Ai}{l b:Addr}{xs ys zs:List V}
theorem Inv.lset{its its':List Af}(I:Inv X pins σ H s)(hH:H l=ae (.lst xs))
  (e:s.heap.get? l=ae {cls:=.type "list",data:=.seq its.toArray n}) (hf:f its.toArray=its'.toArray) (hv:Vals ys its') (hz:ys.length<=Ay):
  Inv X pins σ (upd H l (.lst ys)) {s with heap:=s.heap.update l (Cw f),toks:=t'}:=by
 have q:=PySem.IsL.update e f;rw[hf]at q;refine I.write (x:=l) (e:=l) (by rw[hH];exact trivial) (.inl rfl) (λb' u hb hu=>(Dh s.heap (Cw f) (Ne.symm hb)).trans hu) ⟨_,q⟩ ?_;exact⟨hz,its',_,hv,q⟩
theorem Inv.lnew(I:Inv X pins σ H s)(hv:Vals ys its)(hz:ys.length<=Ay):
  Inv X pins σ (upd H s.heap.objs.size (.lst ys)) {s with heap:=s.heap.push {cls:=.type "list",data:=.seq its.toArray},toks:=t'}:=
 I.laid (λ_ _ q=>Ae _ q) (Ao _) ⟨hz,its,0,hv,Az _ rfl⟩
theorem Inv.fresh(I:Inv X pins σ H s):H s.heap.objs.size=ah:=I.hok.fresh (Ao _)
theorem Inv.lstM(I:Inv X pins σ H s)(hH:H l=ae (.lst xs)):xs.length<=Ay/\∃(its:List Af)(n:Nat),Vals xs its/\xs.length=its.length/\s.heap.get? l=ae {cls:=.type "list",data:=.seq its.toArray n}:=by
 obtain⟨z,its,n,r,e⟩:=I.hok l _ hH;exact⟨z,its,n,r,r.length,e⟩
theorem zN(h:n<=Ay):Fo n=aj:=by
 unfold Fo;exact decide_eq_false ⋯
end
section
variable{X:Cx}
def yN:V->List V->Hp->VK->Prop:=λx vs H Q=>∃l xs y,x=.ref l/\vs=[y]/\H l=ae (.lst xs)/\xs.length < Ay/\Q .non (upd H l (.lst (xs++[y])))
theorem v5:FN X "list.append" yN:=by
 intro pins s σ H x vs v us Q I rx rv h;obtain⟨l,xs,y,rfl,rfl,hH,hz,q⟩:=h;cases rx;obtain⟨u,rfl,ru⟩:=rv.one;obtain⟨z,its,n,r,hl,e⟩:=I.lstM hH;refine call_meets F.slot_list_append ⟨_,e,rfl⟩ F.entry_list_append (F.args_list_append_2 _ _) (PySem.list_append l its.toArray n u (by rw[A4];omega)) ⟨e,?_⟩;refine⟨.non,_,I.lset (its':=its++[u]) hH e (by simp) (r.append (.cons ru .nil)) ?_,rfl,q⟩;rw[Ak,Ap];omega
def zX:V->List V->Hp->VK->Prop:=λx vs H Q=>∃l b xs zs,x=.ref l/\vs=[.ref b]/\H l=ae (.lst xs)/\H b=ae (.lst zs)/\xs.length+zs.length<=Ay/\Q .non (upd H l (.lst (xs++zs)))
theorem P6:FN X "list.extend" zX:=by
 intro pins s σ H x vs v us Q I rx rv h;obtain⟨l,b,xs,zs,rfl,rfl,hH,hB,hz,q⟩:=h;cases rx;obtain⟨u,rfl,ru⟩:=rv.one;cases ru;obtain⟨z,its,n,r,hl,e⟩:=I.lstM hH;obtain⟨z2,its2,n2,r2,hl2,e2⟩:=I.lstM hB;have hsz:its.toArray.size+its2.toArray.size<=Ay:=by rw[A4,A4];omega
 have hlong:¬(!its.toArray.isEmpty&&Fo (its.toArray.size+its2.toArray.size))=ai:=by
  rw[zN hsz,Bool.and_false];exact Ag
 refine call_meets F.slot_list_extend ⟨_,e,rfl⟩ F.entry_list_extend (F.args_list_extend_2 _ _)
  (AutoSeq1.list_extend_list_list_0 l its.toArray n b its2.toArray n2 hlong (by rw[A4];omega) ⋯) ⟨e,e2,?_⟩
 refine⟨.non,_,I.lset (its':=its++its2) hH e (by simp) (r.append r2) ?_,rfl,q⟩;rw[Ak];omega
def iY:R2:=λx y H Q=>∃l b xs zs,x=.ref l/\y=.ref b/\H l=ae (.lst xs)/\H b=ae (.lst zs)/\xs.length+zs.length<=Ay/\∀p,H p=ah->Q (.ref p) (upd H p (.lst (xs++zs)))
theorem uv:OpR X (Eu .Add) iY:=by
 intro pins s σ H x y v u Q I rx ry h;obtain⟨l,b,xs,zs,rfl,rfl,hH,hB,hz,q⟩:=h;cases rx;cases ry;obtain⟨z,its,n,r,hl,e⟩:=I.lstM hH;obtain⟨z2,its2,n2,r2,hl2,e2⟩:=I.lstM hB;refine PySem.P.add_list e e2 ?_ (by rw[A4,A4];omega);have ea:its.toArray++its2.toArray=(its++its2).toArray:=by simp
 rw[ea];exact⟨.ref _,_,I.lnew (t':=s.toks) (r.append r2) (by rw[Ak];omega),rfl,q _ I.fresh⟩
def px:R2:=λx y H Q=>∃l k xs,x=.ref l/\y=.int k/\H l=ae (.lst xs)/\-(2 ^ 63)<=k/\k < 2 ^ 63/\xs.length*k.toNat<=Ay /\
 ∀p,H p=ah->Q (.ref p) (upd H p (.lst (Bn k.toNat xs).flatten))
theorem rf{α:Type}(xs:List α)(k):(Bn k xs).flatten.length=k*xs.length:=by
 induction k with
 |zero=>simp
 |succ k ih=>rw[D3,Fl,Ak,ih,Nat.succ_mul,Nat.add_comm]
theorem MB:OpR X (Eu .Mult) px:=by
 intro pins s σ H x y v u Q I rx ry h;obtain⟨l,k,xs,rfl,rfl,hH,h1,h2,hz,q⟩:=h;cases rx;obtain⟨t,rfl⟩:=ry;obtain⟨z,its,n,r,hl,e⟩:=I.lstM hH;have hlen:its.toArray.size*k.toNat<=Ay:=by rw[A4,<-hl];exact hz
 have hcap:¬its.toArray.size*k.toNat > (2 ^ 63-1) / 8:=by
  have:(Ay:Nat)<=(2 ^ 63-1) / 8:=by decide
  omega
 have hfit:¬(!Builtin.List.listFitsIndex k)=ai:=by
  rw[fitsIndex_both h1 h2];exact Ag
 have hlong:¬Fo (its.toArray.size*k.toNat)=ai:=by
  rw[zN hlen];exact Ag
 have hnew:List.foldl (λx1 x2=>x1++x2) #[] (Bn (if its.toArray.isEmpty=ai then 0 else k.toNat) its.toArray)=(Bn k.toNat its).flatten.toArray:=by
  have f0:∀m:Nat,List.foldl (λx1 x2=>x1++x2) #[] (Bn m its.toArray)=(Bn m its).flatten.toArray:=λm=>by
   have:=BG its m [];rw[B8]at this;exact this
  rw[f0];cases its with
  |nil=>simp
  |cons a r'=>rw[if_neg (by simp)]
 refine wpAny_binaryOp_repeat_ref (T:="list") (U:="int") ∎ ⟨_,e,rfl⟩ (λs'=>typeIs_int s' k t) noFill_list_mul F.fills_int_mul F.slot_int_rmul repeat_list F.slot_int_index.lookup
  (call_meets F.slot_int_rmul (typeIs_int s k t) F.entry_int_rmul (F.args_int_rmul_2 _ _) (int___rmul___int_list k t l its.toArray n)
   ⟨e,rfl,⟨_,e,rfl⟩,call_meets F.slot_list_mul ⟨_,e,rfl⟩ F.entry_list_mul (F.args_list_mul_2 _ _) (AutoListH.list___mul___list_int_3 l its.toArray n k t hfit hcap hlong) ⟨e,?_⟩⟩)
 rw[hnew];exact⟨.ref _,_,I.lnew (t':=s.toks) (r.rep k.toNat) (by rw[rf,Nat.mul_comm];exact hz),rfl,q _ I.fresh⟩
end
section
variable{κ:Type}[DecidableEq κ]
def bY(kvs:List (κ×V))(k:κ):Option V:=(kvs.find? λkv=>decide (kv.1=k)).map (·.2)
def bR(kvs:List (κ×V))(k:κ)(v:V):List (κ×V):=
 if (kvs.any λkv=>decide (kv.1=k))=ai then kvs.map (λkv=>if kv.1=k then(kv.1,v)else kv)else kvs++[(k,v)]
theorem sD{p:κ×V}(e:p.1=k):bY (p::r) k=ae p.2:=by simp[bY,Bp,e]
theorem sY{p:κ×V}(e:¬p.1=k):bY (p::r) k=bY r k:=by simp[bY,Bp,e]
theorem xk(k):∀kvs:List (κ×V),(kvs.any λkv=>decide (kv.1=k))=(bY kvs k).isSome
 |[]=>rfl
 |p::r=>by
  rw[C6];by_cases e:p.1=k
  ·simp only[sD e,decide_eq_true e,Bool.true_or,Option.isSome_some]
  ·rw[sY e,decide_eq_false e,Bool.false_or];exact xk k r
theorem pW(kvs:List (κ×V))(k)(v):(bR kvs k v).length<=kvs.length+1:=by
 unfold bR
 split
 ·rw[Ad];omega
 ·rw[Ak,Ar,List.length_nil];omega
theorem RelO.isSome_eq(r:RelO o u):o.isSome=u.isSome:=by
 cases o with
 |none=>cases u with
  |none=>rfl
  |some _=>exact(show False from r).elim
 |some _=>cases u with
  |none=>exact(show False from r).elim
  |some _=>rfl
theorem KV.val(r:KV kvs vs)(k:κ):RelO (bY kvs k) (valueAt vs k):=by
 unfold KV at r
 induction r with
 |nil=>exact El
 |@cons p q ps qs h t ih=>
  obtain⟨h1,h2⟩:=h;by_cases e:p.1=k
  ·have e':q.1=k:=h1.symm.trans e;have b:valueAt (q::qs) k=ae q.2:=by simp[valueAt,Bp,e']
   rw[sD e,b];exact h2
  ·have e':¬q.1=k:=λz=>e (h1.trans z);have b:valueAt (q::qs) k=valueAt qs k:=by simp[valueAt,Bp,e']
   rw[sY e,b];exact ih
theorem KV.any(r:KV kvs vs)(k:κ):(kvs.any λkv=>decide (kv.1=k))=vs.any λkv=>decide (kv.1=k):=by
 unfold KV at r
 induction r with
 |nil=>rfl
 |cons h t ih=>rw[C6,C6,ih,h.1]
theorem KV.repl(r:KV kvs vs)(k:κ)(ry:RelV y u):
  KV (kvs.map λkv=>if kv.1=k then(kv.1,y)else kv) (vs.map λkv=>if kv.1=k then(kv.1,u)else kv):=by
 unfold KV at r ⊢
 induction r with
 |nil=>exact .nil
 |@cons p q ps qs h t ih=>
  rw[Bs,Bs];refine .cons ?_ ih;obtain⟨h1,h2⟩:=h;by_cases e:p.1=k
  ·rw[if_pos e,if_pos (h1.symm.trans e)];exact⟨h1,ry⟩
  ·rw[if_neg e,if_neg (λz=>e (h1.trans z))];exact⟨h1,h2⟩
theorem KV.put(r:KV kvs vs)(k:κ)(ry:RelV y u):KV (bR kvs k y) (stored vs k u):=by
 unfold bR stored;rw[r.any k];by_cases e:(vs.any λkv=>decide (kv.1=k))=ai
 ·rw[if_pos e,if_pos e];exact r.repl k ry
 ·rw[if_neg e,if_neg e];exact Paired.snoc r ⟨rfl,ry⟩
theorem KV.length{vs:List (κ×Af)}(r:KV kvs vs):kvs.length=vs.length:=Paired.length r
end
theorem mQ(r:RelV (kV k) u):(fS P w).is k u=ai:=by
 cases k with
 |inl i=>obtain⟨t,e⟩:=(show ∃t,u=Value.int i t from r);subst e;exact TU P w i t
 |inr x=>obtain⟨t,e⟩:=(show ∃t,u=F8 x t from r);subst e;exact MI P w x t
theorem yZ:∀{ks:List aG}{us:List Af},Vals (ks.map kV) us->ItemsAre (fS P w) ks us
 |[],_,r=>by rw[List.map_nil]at r;cases r;exact .nil
 |k::ks,_,r=>by
  rw[Bs]at r;cases r with
  |cons h t=>exact .cons (mQ h) (yZ t)
abbrev KT(H:Hp):List (List aG×V)->List (List aG×Addr×Af)->Prop:=Paired λp q=>p.1=q.1/\H q.2.1=ae (.tup (p.1.map kV))/\RelV p.2 q.2.2
theorem KT.val(r:KT H kvs xs)(k):RelO (bY kvs k) ((atKey xs k).map (·.2)):=by
 induction r with
 |nil=>exact El
 |@cons p q ps qs h t ih=>
  obtain⟨h1,_,h2⟩:=h;by_cases e:p.1=k
  ·have e':q.1=k:=h1.symm.trans e;have b:atKey (q::qs) k=ae q.2:=by simp[atKey,Bp,e']
   rw[sD e,b];exact h2
  ·have e':¬q.1=k:=λz=>e (h1.trans z);have b:atKey (q::qs) k=atKey qs k:=by simp[atKey,Bp,e']
   rw[sY e,b];exact ih
theorem KT.repl(r:KT H kvs xs)(k)(ry:RelV y u):
  KT H (kvs.map λkv=>if kv.1=k then(kv.1,y)else kv) (xs.map (putAt k u)):=by
 induction r with
 |nil=>exact .nil
 |@cons p q ps qs h t ih=>
  rw[Bs,Bs];refine .cons ?_ ih;obtain⟨h1,h2,h3⟩:=h;unfold putAt;by_cases e:p.1=k
  ·rw[if_pos e,if_pos (h1.symm.trans e)];exact⟨h1,h2,ry⟩
  ·rw[if_neg e,if_neg (λz=>e (h1.trans z))];exact⟨h1,h2,h3⟩
theorem KT.put(r:KT H kvs xs)(k:List aG)(hb:H b=ae (.tup (k.map kV)))(ry:RelV y u):
  KT H (bR kvs k y) (storedH xs k b u):=by
 have e:(kvs.any λkv=>decide (kv.1=k))=(atKey xs k).isSome:=by
  rw[xk,(r.val k).isSome_eq,Ge]
 unfold bR storedH;rw[e];by_cases q:(atKey xs k).isSome=ai
 ·rw[if_pos q,if_pos q];exact r.repl k ry
 ·rw[if_neg q,if_neg q];exact Paired.snoc r ⟨rfl,hb,ry⟩
theorem KT.keeps(r:KT H kvs xs)(ht:∀b ys,H b=ae (.tup ys)->H' b=ae (.tup ys)):KT H' kvs xs:=
 Paired.mapP r λ_ _ z=>⟨z.1,ht _ _ z.2.1,z.2.2⟩
section
variable{P:A7}{w:Bk}{H:Hp}{h:Heap}{a:Addr}
theorem AA(ok:HOk P w H h)(e:Rd H a u):ObjOk P w H h a u:=e.ok ok
theorem m8(ok:HOk P w H h)(e:Rd H a (.dK kvs)):kvs.length<=Ay/\(a==Fj)=aj/\∃vs,KV kvs vs/\h.DictOf (fS P w) a vs:=
 show ObjOk P w H h a (.dK kvs)from AA ok e
theorem BA(ok:HOk P w H h)(e:H a=ae (.dK kvs)):kvs.length<=Ay/\(a==Fj)=aj/\∃vs,KV kvs vs/\h.DictOf (fS P w) a vs:=m8 ok (.inl e)
theorem ny(ok:HOk P w H h)(e:H a=ae (.tup (ks.map kV))):(tupleKind (fS P w)).is h ks a:=by
 obtain⟨_,its,r,o,h1,h2,⟨n,h3⟩,_⟩:=(show ObjOk P w H h a (.tup (ks.map kV))from ok a _ e);exact⟨o,its.toArray,n,h1,h2,h3,by simpa using yZ r⟩
theorem nO(ok:HOk P w H h)(e:Rd H a (.dT kvs)):kvs.length<=Ay/\(a==Fj)=aj /\
  ∃xs,KT H kvs xs/\h.DictOfH (tupleKind (fS P w)) a xs:=by
 obtain⟨z,y,xs,r,o,es,ep,h1,h2,h3,h4,h5⟩:=(show ObjOk P w H h a (.dT kvs)from AA ok e);refine⟨z,y,xs,r,o,es,ep,h1,h2,h3,h4,λx hx=>?_,h5⟩;have all:∀{l:List (List aG×V)}{m:List (List aG×Addr×Af)},KT H l m->∀x∈m,(tupleKind (fS P w)).is h x.1 x.2.1:=by
  intro l m q
  induction q with
  |nil=>intro x hx;exact nomatch hx
  |@cons p q ps qs hq t ih=>
   intro x hx;rcases Au.mp hx with e|hx
   ·subst e;exact ny ok (by rw[<-hq.1];exact hq.2.1)
   ·exact ih x hx
 exact all r x hx
theorem Ng(ok:HOk P w H h)(e:H a=ae (.dT kvs)):kvs.length<=Ay/\(a==Fj)=aj /\
  ∃xs,KT H kvs xs/\h.DictOfH (tupleKind (fS P w)) a xs:=nO ok (.inl e)
end
def DGet(H:Hp)(a:Addr)(y:V)(r:Option V):Prop:=
 (∃kvs k,Rd H a (.dK kvs)/\y=kV k/\r=bY kvs k)\/∃kvs k b,Rd H a (.dT kvs)/\y=.ref b/\H b=ae (.tup (k.map kV))/\r=bY kvs k
def DPut(H:Hp)(a:Addr)(y v:V)(H':Hp):Prop:=
 (∃kvs k,H a=ae (.dK kvs)/\y=kV k/\kvs.length < Ay/\H'=upd H a (.dK (bR kvs k v))) \/
 ∃kvs k b,H a=ae (.dT kvs)/\y=.ref b/\H b=ae (.tup (k.map kV))/\kvs.length < Ay/\H'=upd H a (.dT (bR kvs k v))
theorem DGet.t(e:H a=ae (.dT kvs))(eb:H b=ae (.tup (k.map kV))):DGet H a (.ref b) (bY kvs k):=.inr ⟨kvs,k,b,.inl e,rfl,eb,rfl⟩
theorem DPut.k{k:aG}(e:H a=ae (.dK kvs))(hl:kvs.length < Ay):DPut H a (kV k) v (upd H a (.dK (bR kvs k v))):=.inl ⟨kvs,k,e,rfl,hl,rfl⟩
theorem DPut.t{k:List aG}(e:H a=ae (.dT kvs))(eb:H b=ae (.tup (k.map kV)))(hl:kvs.length < Ay):
  DPut H a (.ref b) v (upd H a (.dT (bR kvs k v))):=.inr ⟨kvs,k,b,e,rfl,eb,hl,rfl⟩
section
variable{X:Cx}{pins:List (Addr×Obj)}{σ:St}{H:Hp}{s:Ai}{a:Addr}{y v:V}{u r:Af}{o:Option V}{A:Bu}{E:Af->Ai->Prop}
theorem Inv.big(I:Inv X pins σ H s):Fj < s.heap.objs.size:=by
 have h:Dt < s.heap.objs.size:=(I.mod.glob.keeps I.bk).lt;exact Nat.lt_trans ∎ h
theorem NZ(hu:A.units+1 < Gr)(I:Inv X pins σ H s)(g:DGet H a y (ae v))(ry:RelV y u)(h:∀w' s',Inv X pins σ H s'->RelV v w'->Q w' s'):
  A2 (A6 X.prog X.w) A (getItem (.ref a) u) Q E s:=by
 rcases g with⟨kvs,k,e,ey,l⟩|⟨kvs,k,b,e,ey,eb,l⟩
 ·subst ey;obtain⟨z,hd,vs,rel,dd⟩:=m8 I.hok e;obtain⟨w',hw,rw'⟩:=RelO.some_of (v:=v) (o:=valueAt vs k) (by rw[l];exact rel.val k);exact wpAny_getItem_of (mQ ry) dd.mapOf hw (h w' _ (I.tok _) rw')
 ·subst ey;cases(show u=A3 b from ry);obtain⟨z,hd,xs,rel,dd⟩:=nO I.hok e;obtain⟨w',hw,rw'⟩:=RelO.some_of (v:=v) (o:=(atKey xs k).map (·.2)) (by rw[l];exact rel.val k);obtain⟨p,hp,hp2⟩:=Option.map_eq_some_iff.mp hw;refine wpAny_getItem_heap (Hj hu) (ny I.hok eb) dd hp ?_;rw[hp2];exact h w' _ (I.tok _) rw'
theorem vn(hu:A.units+1 < Gr)(I:Inv X pins σ H s)(g:DGet H a y o)(ry:RelV y u)(h:∀s',Inv X pins σ H s'->Q (.bool o.isSome) s'):
  A2 (A6 X.prog X.w) A (B3 .In u (.ref a)) Q E s:=by
 rcases g with⟨kvs,k,e,ey,l⟩|⟨kvs,k,b,e,ey,eb,l⟩
 ·subst ey;obtain⟨z,hd,vs,rel,dd⟩:=m8 I.hok e;refine wpAny_in_of (mQ ry) hd dd.mapOf ?_;rw[<-(rel.val k).isSome_eq,<-l];exact h _ (I.tok _)
 ·subst ey;cases(show u=A3 b from ry);obtain⟨z,hd,xs,rel,dd⟩:=nO I.hok e;refine wpAny_in_heap (Hj hu) (ny I.hok eb) hd dd ?_;have q:=(rel.val k).isSome_eq;rw[Ge]at q;rw[<-q,<-l];exact h _ (I.tok _)
theorem SM(hu:A.units+1 < Gr)(I:Inv X pins σ H s)(g:DGet H a y o)(ry:RelV y u)(h:∀s',Inv X pins σ H s'->Q (.bool (!o.isSome)) s'):
  A2 (A6 X.prog X.w) A (B3 .NotIn u (.ref a)) Q E s:=by
 rcases g with⟨kvs,k,e,ey,l⟩|⟨kvs,k,b,e,ey,eb,l⟩
 ·subst ey;obtain⟨z,hd,vs,rel,dd⟩:=m8 I.hok e;refine wpAny_notIn_of (mQ ry) hd dd.mapOf ?_;rw[<-(rel.val k).isSome_eq,<-l];exact h _ (I.tok _)
 ·subst ey;cases(show u=A3 b from ry);obtain⟨z,hd,xs,rel,dd⟩:=nO I.hok e;refine wpAny_notIn_heap (Hj hu) (ny I.hok eb) hd dd ?_;have q:=(rel.val k).isSome_eq;rw[Ge]at q;rw[<-q,<-l];exact h _ (I.tok _)
theorem uf(I:Inv X pins σ H s)(mu:oj (H a))(hs:C9 a s.heap h')(he:∃q,h'.get? a=ae q)(new:ObjOk X.prog X.w (upd H a ob) h' a ob):
  Inv X pins σ (upd H a ob) {s with heap:=h',toks:=t'}:=
 I.write (x:=a) (e:=a) mu (.inl rfl) (λb q hb z=>(hs.2 b hb).trans z) he new
theorem Iu(z:kvs.length<=Ay)(hd:(a==Fj)=aj)(rel:KV kvs vs)(dd:h'.DictOf (fS P w) a vs):
  ObjOk P w H' h' a (.dK kvs):=⟨z,hd,vs,rel,dd⟩
theorem So(hu:A.units+1 < Gr)(I:Inv X pins σ H s)(g:DPut H a y v H')(ry:RelV y u)(rv:RelV v r)(h:∀s',Inv X pins σ H' s'->Q () s'):
  A2 (A6 X.prog X.w) A (setItem (.ref a) u r) Q E s:=by
 rcases g with⟨kvs,k,e,ey,l,eH⟩|⟨kvs,k,b,e,ey,eb,l,eH⟩
 ·subst ey eH;obtain⟨z,hd,vs,rel,dd⟩:=BA I.hok e;have hz:vs.length<=Ay:=by rw[<-rel.length];exact z
  have hl:(bR kvs k v).length<=Ay:=by have:=pW kvs k v;omega
  refine wpAny_setItem_pairs (hsz:=hz) (mQ ry) dd λh' dd' hs=>h _ ?_;have he:∃q,h'.get? a=ae q:=let⟨q,_,_,hq,_⟩:=dd';⟨q,hq⟩;exact uf I (by rw[e];exact El) hs he (Iu hl hd (rel.put k rv) dd')
 ·subst ey eH;cases(show u=A3 b from ry);obtain⟨z,hd,xs,rel,dd⟩:=Ng I.hok e;have hz:xs.length<=Ay:=by rw[<-Paired.length rel];exact z
  have hl:(bR kvs k v).length<=Ay:=by have:=pW kvs k v;omega
  refine wpAny_setItem_heap (hsz:=hz) (Hj hu) (ny I.hok eb) dd λh' dd' hs=>h _ ?_;obtain⟨q,es,ep,hq,h2,h3,h4,_,h5⟩:=dd';refine uf I (by rw[e];exact El) hs ⟨q,hq⟩ ⟨hl,hd,_,(rel.put k eb rv).keeps λc ys ec=>?_,q,es,ep,hq,h2,h3,h4,h5⟩;rw[aM (yf ec e (λz=>nomatch z))];exact ec
end
def kz(i:Expr):Prop:=∀ov iv,subscripted i aj ov iv=operate [ov,iv] (getItem ov iv)
theorem Pc{T id:String}
  (hl:typeLookup (.type T) "__getitem__"=pure (ae (.builtin id))) (hs:kz slice)
  (h:A2 (A6 prog w) A (eval value env) (λo s₁=>A2 (A6 prog w) A (eval slice env) (λi s₂=>s₂.TypeIs o T/\A2 (A6 prog w) A (getItem o i) Q E s₂) E s₁) E s):
  A2 (A6 prog w) A (eval (.Subscript value slice pos) env) Q E s:=by
 refine Subscript_ (B4 h (λo s₁ h₁=>B4 h₁ (λi s₂ h₂=>?_) λ_ _ x=>x) λ_ _ x=>x);obtain⟨hT,h₂⟩:=h₂;unfold subscriptTail;refine Aa ?_;rw[getitemInPython_of_ne hT.not_modules];refine Aa (wpAny_specialOf hT hl ?_);have fin:A2 (A6 prog w) A (subscripted slice aj o i) (λr s₃=>A2 (A6 prog w) A (letTemporaryGo value o r>>=λ_=>pure r) Q E s₃) E s₂:=by
  rw[hs o i];exact wpAny_operating (B4 h₂ (λr s₃ h₃=>Aa (wpAny_letTemporaryGo (Aj h₃))) λ_ _ x=>x)
 first
  |exact Aj (Aa fin)
  |exact Aa (Aj (Aa fin))
  |exact Aa fin
theorem MH{σ:St}(I:Inv X pins σ H s)(g:DGet H a y o):s.TypeIs (.ref a) "dict":=by
 rcases g with⟨kvs,k,e,_,_⟩|⟨kvs,k,b,e,_,_,_⟩
 ·obtain⟨_,_,vs,_,dd⟩:=m8 I.hok e;exact dd.typeIs
 ·obtain⟨_,_,xs,_,dd⟩:=nO I.hok e;exact dd.typeIs
def EY(td ty:TE):TE:=λσ H Q=>td σ H λx H1=>ty σ H1 λy H2=>∃a v,x=.ref a/\DGet H2 a y (ae v)/\Q v H2
def kR(ty td:TE):TE:=λσ H Q=>ty σ H λy H1=>td σ H1 λx H2=>∃a o,x=.ref a/\DGet H2 a y o/\Q (.bl o.isSome) H2
def nP(ty td:TE):TE:=λσ H Q=>ty σ H λy H1=>td σ H1 λx H2=>∃a o,x=.ref a/\DGet H2 a y o/\Q (.bl (!o.isSome)) H2
def uY(td ty tv:TE):TS:=λD σ H=>tv σ H λv H1=>td σ H1 λx H2=>ty σ H2 λy H3=>∃a H4,x=.ref a/\DPut H3 a y v H4/\D.nx σ H4
section
variable{X:Cx}{o i e value:Expr}{pos pos' tpos:Pos}{td ty tv:TE}
theorem Jq(hu:X.A.units+1 < Gr)(ho:PE X o td)(hi:PE X i ty)(hs:kz i):PE X (.Subscript o i pos) (EY td ty):=by
 intro pins s σ H Q I h;refine Pc PySem.F.slot_dict_getitem.lookup hs (aP (ho pins s σ H _ I h) λu s1 ⟨x,H1,I1,rx,q1⟩=>aP (hi pins s1 σ H1 _ I1 q1) λiv s2 ⟨y,H2,I2,ry,a,v,ex,g,q2⟩=>?_);subst ex;obtain rfl:u=A3 a:=rx;exact⟨MH I2 g,NZ hu I2 g ry λw' s3 I3 rw'=>⟨v,H2,I3,rw',q2⟩⟩
theorem IZ(hu:X.A.units+1 < Gr)(hi:PE X i ty)(ho:PE X o td):PC X .In i o (kR ty td):=by
 intro pins s σ H Q I h;refine aP (hi pins s σ H _ I h) λiv s1 ⟨y,H1,I1,ry,q1⟩=>aP (ho pins s1 σ H1 _ I1 q1) λu s2 ⟨x,H2,I2,rx,a,ov,ex,g,q2⟩=>?_;subst ex;obtain rfl:u=A3 a:=rx;exact vn hu I2 g ry λs3 I3=>⟨.bl ov.isSome,H2,I3,rfl,q2⟩
theorem IE(hu:X.A.units+1 < Gr)(hi:PE X i ty)(ho:PE X o td):PC X .NotIn i o (nP ty td):=by
 intro pins s σ H Q I h;refine aP (hi pins s σ H _ I h) λiv s1 ⟨y,H1,I1,ry,q1⟩=>aP (ho pins s1 σ H1 _ I1 q1) λu s2 ⟨x,H2,I2,rx,a,ov,ex,g,q2⟩=>?_;subst ex;obtain rfl:u=A3 a:=rx;exact SM hu I2 g ry λs3 I3=>⟨.bl (!ov.isSome),H2,I3,rfl,q2⟩
theorem EW(hu:X.A.units+1 < Gr)(ho:PE X o td)(hi:PE X i ty)(hv:PE X value tv)(hs:Da value (ae (.Subscript o i pos')) pos.line X.env=pure aj):
  PS X (.Assign [.Subscript o i pos'] value pos) (uY td ty tv):=by
 intro pins s σ H D I h;refine wpAny_Assign_Subscript (aP (hv pins s σ H _ I h) λr s1 ⟨v,H1,I1,rv,q1⟩=>aP (ho pins s1 σ H1 _ I1 q1) λu s2 ⟨x,H2,I2,rx,q2⟩=>aP (hi pins s2 σ H2 _ I2 q2) λiv s3 ⟨y,H3,I3,ry,a,H4,ex,g,q3⟩=>?_) hs;subst ex;obtain rfl:u=A3 a:=rx;exact So hu I3 g ry rv λs4 I4=>⟨σ,H4,I4,q3⟩
end
theorem DU(h:Heap)(hb:Fj < h.objs.size):ObjOk P w H (h.push {cls:=.type "dict",data:=.dict #[]}) h.objs.size (.dK []):=
 ⟨Br _,beq_eq_false_iff_ne.mpr (Ne.symm (A5 hb)),[],.nil,Heap.DictOf.new h⟩
theorem Qi(h:Heap)(hb:Fj < h.objs.size):ObjOk P w H (h.push {cls:=.type "dict",data:=.dict #[]}) h.objs.size (.dT []):=
 ⟨Br _,beq_eq_false_iff_ne.mpr (Ne.symm (A5 hb)),[],.nil,_,#[],0,Az _ rfl,⟨rfl,rfl,rfl⟩,rfl,rfl,List.nodup_nil⟩
def zp:TE:=λ_ H Q=>∀p,H p=ah->Q (.ref p) (upd H p (.dK []))
def EM:TE:=λ_ H Q=>∀p,H p=ah->Q (.ref p) (upd H p (.dT []))
section
variable{X:Cx}{pos:Pos}
theorem I0:PE X (.Dict [] [] pos) zp:=λpins s σ H Q I h=>
 wpAny_Dict_empty ⟨.ref s.heap.objs.size,_,I.laid (a:=s.heap.objs.size) (o:=.dK []) (t':=s.toks) (λ_ _ q=>Ae _ q) (Ao _) (DU s.heap I.big),rfl,h _ (I.hok.fresh (Ao _))⟩
theorem S5:PE X (.Dict [] [] pos) EM:=λpins s σ H Q I h=>
 wpAny_Dict_empty ⟨.ref s.heap.objs.size,_,I.laid (a:=s.heap.objs.size) (o:=.dT []) (t':=s.toks) (λ_ _ q=>Ae _ q) (Ao _) (Qi s.heap I.big),rfl,h _ (I.hok.fresh (Ao _))⟩
end
def kQ(kvs more:List (aG×V)):List (aG×V):=more.foldl (λacc kv=>bR acc kv.1 kv.2) kvs
end L2
namespace Att
open PySem PySem.W PySem.Calls PyProof.Rows
theorem IU:∀(ns:List Int)(vs:List Af),WellAll P h vs (ns.map WData.int)->IntsAre vs ns:=by
 intro ns
 induction ns with
 |nil=>
  intro vs w;rw[List.map_nil]at w;cases w;exact .nil
 |cons n ns ih=>
  intro vs w;rw[Bs]at w;cases w with
  |cons a b=>
   cases a;exact .cons _ _ (ih _ b)
theorem Tz{l:OpenLaw}(hn:l.most=ae n)
  (hpre:l.row.toRowW.claim.pre args=ai) (hwl:WellAll P h vals args):
  ∃a vs ns,vals=[A3 a]/\args=[WData.list (ns.map WData.int)]/\h.get? a=ae {cls:=.type "list",data:=.seq vs.toArray}/\IntsAre vs ns/\ns.length<=n:=by
 have hsh:WShape.hasAll [] args [.list .int]=ai:=(pre_splitW hpre).1;have hc:l.pre.holds [] {args:=args}=ai:=(pre_splitW hpre).2;obtain⟨d,r,rfl,h1,h2⟩:=hasAllW_cons hsh;obtain rfl:=hasAllW_nil h2;obtain⟨xs,rfl,h3⟩:=hasW_list h1;obtain⟨ns,rfl⟩:=items_int h3;have hlen:ns.length<=n:=by
  unfold OpenLaw.pre at hc;have h4:(WTm.not (.lt (.lit (.int (n:Int))) (.len (.arg 0)))).holds [] {args:=[.list (ns.map .int)]}=ai:=by
   have h4:=(holds_andW hc).1;rw[hn]at h4;exact h4
  have h5:=condW_of h4 (w_not (w_lt w_lit (w_len_list (w_arg rfl))));rw[Ad]at h5;refine Nat.le_of_not_lt λq=>?_;have q':(n:Int) < ((ns.length:Nat):Int):=by omega
  first
   | (rw[decide_eq_true q']at h5;exact absurd h5 ∎)
   | (simp at h5;omega)
 cases hwl with
 |cons w1 w2=>
  cases w2;cases w1 with
  |list ho hall=>exact⟨_,_,ns,rfl,rfl,ho,IU ns _ hall,hlen⟩
theorem Rv(l:OpenLaw)(args):l.row.toRowW.claim.post args (.bool ai) args=ai:=
 postW_of (r:=l.row.toRowW) (X:=(ai==ai))
  (show WShape.has [] (.bool ai) .bool=ai by first|rfl|decide|simp[WShape.has,WShape.arms,WShape.armsAll])
  (show(WTm.eq .res (.lit (.bool ai))).value [] {args:=args,res:=ae (.bool ai),after:=args}=ae (.bool (ai==ai))from w_eq_bool (w_res rfl) w_lit) rfl
theorem attach_call{l:OpenLaw}
  (hn:l.most=ae n) (hdf:d.params.defaults=[])
  (call:∀(w:Bk)(s₀ s₁:Ai)(mg mb:Str->Option Af)(fa:Addr)(o:Obj)(pm cd doc:Af)(a:Addr)(vs:List Af)(ns:List Int),
   Ground q loose [] XP w s₀ mg mb s₁.heap->YP w s₁.heap->
   s₁.heap.get? fa=ae o->o.data=.func (docDef d.name d.params d.body d.scope pm cd doc)->s₁.heap.CodeRec cd d.name->mg d.name=ae (.ref fa)->
   s₁.heap.get? a=ae {cls:=.type "list",data:=.seq vs.toArray}->IntsAre vs ns->ns.length<=n->s₁.gens=#[]->
   F7 (A6 l.prog w) callerA (.call (.ref fa) ⟨[.ref a],[]⟩) (λr s'=>r=.ok (.ret (.bool ai))/\OldK s₁.heap s'.heap/\s'.os=s₁.os/\AllBare s'.gens) s₁):
  WalkO q loose XP YP l.row.toRowW d [] (λf vs=>PySem.call f vs):=by
 intro w s₀ s₁ mg mb G Y fa o pm cd doc dV kV ho hd hcd hD hmg hg args vals as hpre hlay hrd hwl hlo;obtain rfl:dV=.none:=Dflts.none hD hdf;obtain rfl:kV=.none:=Dflts.noKw hD;obtain⟨a,vs,ns,rfl,rfl,hobj,hints,hlen⟩:=Tz hn hpre hwl;refine enter_call (F6 (call w s₀ s₁ mg mb fa o pm cd doc a vs ns G Y ho (fd_plain hd) hcd hmg hobj hints hlen hg) λr s' hq=>?_);obtain⟨rfl,h2,h3,h4⟩:=hq;exact⟨.inl ⟨.bool ai,.bool ai,[],rfl,λ_=>rfl,.bool ai,Rv l _,λ_=>⟨List.Pairwise.nil,λ_ hm=>(nomatch hm)⟩⟩,h2,h3,h4⟩
end Att
namespace L2
open PySem PySem.Spec PyProof.Rows
theorem AF:∀{vs:List Af}{ns:List Int},IntsAre vs ns->Vals (ns.map V.int) vs
 |_,_,.nil=>.nil
 |_,_,.cons n t h=>.cons ⟨t,rfl⟩ (AF h)
def lE(H:Hp):Prop:=∀b,H b=ah\/∃o xs,H b=ae (.frz o (.lst xs))
theorem Tu{K:Ah}
  (KX:K.In s₁.heap) (hns:s₁.heap.Ns Dt mg) (hb:s₁.heap.Ns builtinsNs mb) (hbb:∀x:Str,x≠"__name__"->mb x=By x) (hlim:s₁.heap.NoLimit) (hg:s₁.gens=#[])
  (ha:s₁.heap.get? a=ae {cls:=.type "list",data:=.seq vs.toArray}) (hi:IntsAre vs ns) (hl:ns.length<=Ay) (hr:Room k callerA)
  (F:∀base:Heap,K.In base->base.Ns Dt mg->FnOk P w K mg base CX k fa fd [x] sp) (hbind:∀(s:Ai)(u:Af),BindsTo s fd ⟨[u],[]⟩ [(x,u)])
  (hsp:∀H:Hp,lE H->SqL K H a (ns.map V.int)->sp [.ref a] H (λv _=>v=.bl ai) λ_ _ _=>False)
  (hCX:∀H e s',CX [] H s₁ (λ_ _ _=>False) e s'->False):
  F7 (A6 P w) callerA (.call (.ref fa) ⟨[.ref a],[]⟩) (λr s'=>r=.ok (.ret (.bool ai))/\OldK s₁.heap s'.heap/\s'.os=s₁.os/\AllBare s'.gens) s₁:=by
 have rv:=AF hi;have lenV:=hi.length
 have core:∀H:Hp,lE H->SqL K H a (ns.map V.int)->HOk P w H s₁.heap->(∀b,H b≠ah->b=a)->(H a≠ah->K.lookup a=ah)->
   F7 (A6 P w) callerA (.call (.ref fa) ⟨[.ref a],[]⟩) (λr s'=>r=.ok (.ret (.bool ai))/\OldK s₁.heap s'.heap/\s'.os=s₁.os/\AllBare s'.gens) s₁:=by
  intro H hO hS hok hA hK;have base_of:∀{b:Addr}{o:Obj},s₁.heap.get? b=ae o->H b=ah->(fw s₁.heap H).get? b=ae o:=λe n=>OP e n;have noA:∀{b:Addr}{o:Obj}{es:Array DictEntry}{ep:Nat},s₁.heap.get? b=ae o->o.data=.dict es ep->H b=ah:=λ{b o es ep} e d=>by
   cases q:H b with
   |none=>rfl
   |some u=>
    have e':b=a:=hA b (by rw[q];simp);subst e';rw[ha]at e;cases e;have d':Data.seq vs.toArray _=Data.dict es ep:=d;cases d'
  have nsK:∀{b:Addr}{m:Str->Option Af},s₁.heap.Ns b m->(fw s₁.heap H).Ns b m:=λ{b m} ⟨o,es,ep,e,d,r⟩=>⟨o,es,ep,base_of e (noA e d),d,r⟩;have hKb:K.In (fw s₁.heap H):=λb o e=>base_of (KX b o e) (by
   cases q:H b with
   |none=>rfl
   |some u=>
    have e':b=a:=hA b (by rw[q];simp);subst e';rw[hK (by rw[q];simp)]at e;cases e)
  have hM:Mod K mg (fw s₁.heap H):=⟨hKb,nsK hns,⟨mb,nsK hb,hbb⟩,let⟨mc,h1,h2⟩:=hlim;⟨mc,nsK h1,h2⟩⟩;have e0:Env0 P w K mg (fw s₁.heap H) callerA [] s₁ H:=⟨rfl,hM,λb o e=>NN e,Nat.le_of_eq (K0 _ _),trivial,λb hb=>absurd (show b∈([]:List Addr)from hb) (by simp),hok,.of_eq hg⟩;refine F6 ((F _ hKb (nsK hns)).run callerA [] s₁ H ⟨[.ref a],[]⟩ [.ref a] [.ref a] _ _ hr e0 (hbind s₁ (.ref a)) (.cons rfl .nil) (hsp H hO hS)) λr s' h=>?_;cases r with
  |error e=>exact(hCX H e s' h).elim
  |ok fl=>
   cases fl with
   |next=>exact False.elim h
   |brk=>exact False.elim h
   |cont=>exact False.elim h
   |ret u=>
    obtain⟨v,H',os,bare,un,hok',r',q⟩:=h;have q':v=.bl ai:=q;subst q';obtain rfl:u=Value.bool ai:=r';refine⟨rfl,OldK.of_keep λb o e=>?_,os,bare⟩;cases q:H b with
    |none=>exact un.keep b o e q (by intro z;exact absurd (show b∈([]:List Addr)from z) (by simp)) (by simp)
    |some u=>
     rcases hO b with z|⟨ob,xs,z⟩
     ·rw[q]at z;cases z
     ·have z2:=un.frzs b ob _ z;obtain⟨e1,_⟩:=hok b _ z;obtain⟨e2,_⟩:=hok' b _ z2;rw[e]at e1;cases e1;exact e2
 cases hk:K.lookup a with
 |some o=>
  have e:=KX a o hk;rw[ha]at e;cases e;refine core (λ_=>ah) (λ_=>.inl rfl) (.inr ⟨_,vs.toArray,_,hk,rfl,rfl,rfl,by rw[A4,lenV];exact hl,by simpa using rv⟩) (λb u z=>by have z':(ah:Option HO)=ae u:=z;cases z') (λb z=>absurd rfl z) λz=>absurd rfl z
 |none=>
  refine core (λb=>if b=a then ae (.frz {cls:=.type "list",data:=.seq vs.toArray} (.lst (ns.map V.int)))else ah) (λb=>?_) (.inl (.inr ⟨{cls:=.type "list",data:=.seq vs.toArray},if_pos rfl⟩)) (λb u z=>?_) (λb z=>?_) λ_=>hk
  ·by_cases hb:b=a
   ·exact .inr ⟨_,_,if_pos hb⟩
   ·exact .inl (if_neg hb)
  ·by_cases hb:b=a
   ·have z':=(if_pos hb).symm.trans z;cases z';subst hb;exact⟨ha,by rw[Ad];exact hl,vs,_,rv,ha⟩
   ·have z':=(if_neg hb).symm.trans z;cases z'
  ·by_cases hb:b=a
   ·exact hb
   ·exact absurd (if_neg hb) z
theorem walk_of{l:PySem.W.OpenLaw}{K:Gp->Ah}{CX:Bk->f7}{sp:Bk->Sp}
  (hn:l.most=ae n) (hn2:n<=Ay) (hdf:d.params.defaults=[]) (hr:Room k callerA)
  (hY:∀(w:Bk)(h:Heap),YP w h->(K w.params).In h)
  (F:∀(w:Bk)(mg:Str->Option Af)(fa:Addr)(h:Heap),(K w.params).In h->h.Ns Dt mg->mg d.name=ae (.ref fa)->
   ∃fd:B9,(∀(s:Ai)(u:Af),BindsTo s fd ⟨[u],[]⟩ [(x,u)]) /\
    ∀base:Heap,(K w.params).In base->base.Ns Dt mg->FnOk l.prog w (K w.params) mg base (CX w) k fa fd [x] (sp w))
  (hsp:∀(w:Bk)(H:Hp)(a:Addr)(ns:List Int),ns.length<=n->lE H->SqL (K w.params) H a (ns.map V.int)->sp w [.ref a] H (λv _=>v=.bl ai) λ_ _ _=>False)
  (hCX:∀(w:Bk)(H:Hp)(s:Ai)(e:Af)(s':Ai),CX w [] H s (λ_ _ _=>False) e s'->False):
  PySem.W.WalkO q loose XP YP l.row.toRowW d [] (λf vs=>PySem.call f vs):=by
 refine Att.attach_call hn hdf λw s₀ s₁ mg mb fa o pm cd doc a vs ns G Y ho hd hcd hmg hobj hints hlen hg=>?_;have KX:=hY w _ Y;obtain⟨fd,hb,hF⟩:=F w mg fa _ KX G.T.g hmg;exact Tu KX G.T.g G.T.b G.T.builtins G.T.nolimit hg hobj hints (A9 hlen hn2) hr hF hb (λH hO hS=>hsp w H a ns hlen hO hS) λH e s'=>hCX w H s₁ e s'
abbrev c9:f7:=λ_ _ _ _ _ _=>False
abbrev E0:XK:=λ_ _ _=>False
theorem wK:sr c9 X E0:=λ_ _ _ _ _ _ _ h=>h.elim
structure Fun(K:Ah)(x qual:Str)(st:Stmt)(f:Addr)(fd:B9):Prop where
 ex:∃(oc:Af)(od:Option Addr)(kV doc pm:Af)(an:Option Addr)(cdv ct:Af)(osl:Array (Option Af)),
  fd=D0 x qual (kc st) (fF st) (cD st) .none kV doc pm an cdv ct/\K.lookup f=ae ⟨oc,od,.func fd,osl⟩/\Gb K cdv qual=ai
 kp:B5 K (.ref f)=ai
section
variable{P:A7}{w:Bk}{K:Ah}{mg:Str->Option Af}{base:Heap}
theorem Fun.ok{st:Stmt}(F:Fun K x qual st f fd)(S:FnScope N ps (cD st))(len:∀vs H Q E,sp vs H Q E->vs.length=ps.length)
  (hbody:∀(cdv:Af)(A:Bu)(outer:List Env)(s:Ai)(H:Hp)(vs:List V)(Q:VK)(E:XK),Room k (A.deeper (Dv qual (cD st) s.heap.objs.size f cdv))->sp vs H Q E->
   ∃t,PSs (cO c9 P w K mg base N qual (cD st) f cdv A outer s H E).nox (fF st) t/\t {nx:=λ_ H'=>Q .non H',rt:=Q} (start N vs) H):FnOk P w K mg base c9 (k+1) f fd ps sp:=by
 obtain⟨oc,od,kV,doc,pm,an,cdv,ct,osl,rfl,lk,hcd⟩:=F.ex;refine rQ lk hcd S len λA outer s H vs Q E hr hsp=>?_;obtain⟨t,h,q⟩:=hbody cdv A outer s H vs Q E hr hsp;exact⟨t,h.nox,q⟩
theorem Fun.binds{st:Stmt}(F:Fun K x qual st f fd)
  (h:∀(kV doc pm:Af)(an:Option Addr)(cdv ct:Af)(us:List Af),us.length=ps.length->bindArgs (D0 x qual (kc st) (fF st) (cD st) .none kV doc pm an cdv ct) ⟨us,[]⟩=pure (ps.zip us)):Binds K fd ps []:=by
 obtain⟨oc,od,kV,doc,pm,an,cdv,ct,osl,rfl,lk,hcd⟩:=F.ex;exact .all (h kV doc pm an cdv ct)
theorem GY{st:Stmt}{kV doc pm cdv ct:Af}(l:K.lookup f=ae ⟨oc,od,.func (D0 x qual (kc st) (fF st) (cD st) .none kV doc pm an cdv ct),osl⟩)
  (c:Gb K cdv qual=ai) (k:B5 K (.ref f)=ai):Fun K x qual st f (D0 x qual (kc st) (fF st) (cD st) .none kV doc pm an cdv ct):=⟨⟨oc,od,kV,doc,pm,an,cdv,ct,osl,rfl,l,c⟩,k⟩
end
theorem zr(h:n<=1000):n < Ay:=Nat.lt_of_le_of_lt h ∎
section
variable{X:Cx}
theorem pv(i){pos:Pos}(hN:X.N[i]?=ae x:=by rfl)(hv:fH X.env.scope x:=by first|exact C7 rfl|exact Cc (C7 rfl)|exact Cc (Cc rfl))(hd:(x==("__debug__":Str))=aj:=by decide)
  (hcd:(x==("__classdict__":Str))=aj:=by decide):PE X (.Name x pos) (cC i):=fJ hN hv hd hcd
end
theorem uU{A B:Prop}(h:B):if aj=ai then A else B:=by
 rw[if_neg Ag];exact h
theorem jF{c A B:Prop}[Decidable c](h1:c->A)(h2:¬c->B):if c then A else B:=by
 by_cases h:c
 ·rw[if_pos h];exact h1 h
 ·rw[if_neg h];exact h2 h
def gX(H H':Hp):Prop:=∀b o,H b=ae o->H' b=ae o
end L2
namespace Nb
open PySem L2
def mU:Bool:=ai
def qN:List V:=[.non,.non,.non,.int 1,.int 2,.int 3,.int 20]
def jD:List Ab:=[.none,.none,.none,.int 1,.int 2,.int 3,.int 20]
end Nb
namespace L2
open PySem PySem.Spec PyProof.Rows
section
variable{prog:A7}{w:Bk}{A:Bu}{R:Result->Ai->Prop}{s:Ai}
theorem zg(I:Nat->Ai->Prop)
  (turn:∀n s,I n s->A2 (A6 prog w) A (E2 it) (λr s₁=>match r with
   |none=>R (.ok .next) s₁
   |some v=>A2 (A6 prog w) A (letOwnedTupleGo target it v) (λ_ s₁'=>A2 (A6 prog w) A (assign target env v) (λ_ s₂=>
     A2 (A6 prog w) A (forIn ifs ai λc r=>if r=ai then do let ok <-isTrue c env (eval c env);pure (ForInStep.yield ok)else pure (ForInStep.yield r)) (λok s₃=>
      if ok=ai then A2 (A6 prog w) A (eval elt env) (λx s₄=>
       A2 (A6 prog w) A (call (.builtin "list.append") [acc,x]) (λ_ s₅=>∃m,m < n/\I m s₅) (λ_ _=>False) s₄) (λ_ _=>False) s₃
      else ∃m,m < n/\I m s₃) (λ_ _=>False) s₂) (λ_ _=>False) s₁') (λ_ _=>False) s₁) (λ_ _=>False) s)
  (n) (h:I n s):F7 (A6 prog w) A (.compLoop (.ListComp elt [⟨target,iter,ifs,0⟩] scope pos) 0 it acc env) R s:=by
 refine codeAny_loop rfl I (λn s hI=>?_) n h;show A2 _ A ((compTurn (.ListComp elt [⟨target,iter,ifs,0⟩] scope pos) 0 it acc env).onRaise (λx=>do noteFrame x env;theTreesLotGoes x)) _ _ s;refine wpAny_noted ?_;rw[compTurn_list];refine Aa (Gh (Aa (B4 (turn n s hI) (λr s₁ h₁=>?_) λ_ _ f=>f.elim)));cases r with
 |none=>exact Aj h₁
 |some v=>
  refine Aa (B4 h₁ (λ_ s₁' h₁'=>?_) λ_ _ f=>f.elim);refine Aa (B4 h₁' (λ_ s₂ h₂=>Aa (B4 h₂ (λok s₃ h₃=>?_) λ_ _ f=>f.elim)) λ_ _ f=>f.elim);cases ok with
  |false=>exact Aj ⟨rfl,h₃⟩
  |true=>
   exact Aa (Aa (B4 h₃ (λx s₄ h₄=>Aa (B4 h₄ (λ_ s₅ h₅=>Aj (Aj ⟨rfl,h₅⟩)) λ_ _ f=>f.elim)) λ_ _ f=>f.elim))
end
def c6(X:Cx)(N:List Str)(scope:E5)(cl:List (Str×Addr))(s:Ai)(H:Hp)(fp:List Addr):Cx:=
 { X with N:=N,s₀:=s,H₀:=H,env:=compEnvC scope cl s.heap.objs.size X.env,outer:=X.stack,ex:=fp,fn:=λ_=>aj,pn:=[],xe:=λ_ _=>False}
structure CompSc(X:Cx)(N:List Str)(scope:E5)(cl:List (Str×Addr))(fr:List (Option Nat)):Prop where
 clos:closureFor scope X.env=pure cl
 kind:scope.kind=.function
 nocell:∀y∈scope.names,y.2≠.cell
 names:∀y∈scope.names,y.2=.local->scope.names.lookup y.1=ae .local
 sub:∀x c,cl.lookup x=ae c->X.env.cells.lookup x=ae c
 has:∀x,((relabel scope X.env).names.lookup x=ae .cell\/(relabel scope X.env).names.lookup x=ae .free)->∃c,cl.lookup x=ae c
 len:fr.length=N.length
 fre:∀(j i:Nat),fr[j]?=ae (ae i)->∃x,N[j]?=ae x/\X.N[i]?=ae x/\fH X.env.scope x/\(X.env.kindOf x=ae .cell\/X.env.kindOf x=ae .free) /\
  ((relabel scope X.env).names.lookup x=ae .cell\/(relabel scope X.env).names.lookup x=ae .free)/\cl.lookup x=X.env.cells.lookup x
theorem qv{κ:Type}:∀{l:List (Str×κ)}{x:Str}{k:κ},l.lookup x=ae k->(x,k)∈l
 |[],_,_,h=>nomatch h
 | (y,k')::r,x,k,h=>by
  rw[List.lookup_cons]at h;cases e:x==y with
  |true=>
   rw[e]at h;have e':x=y:=by simpa using e
   have h':k'=k:=Bc h;rw[e',h'];exact A0
  |false=>
   rw[e]at h;exact Aw _ (qv h)
theorem HA{κ:Type}:∀{l:List (Str×κ)}{x:Str},x∈l.map (·.1)->∃k,l.lookup x=ae k
 |[],_,h=>absurd h (by simp)
 | (y,k')::r,x,h=>by
  rw[List.lookup_cons];cases e:x==y with
  |true=>exact⟨k',rfl⟩
  |false=>
   have ne:¬x=y:=λz=>by rw[z]at e;simp at e
   have h':x∈y::r.map (·.1):=h;rcases Au.mp h' with z|z
   ·exact absurd z ne
   ·exact HA z
theorem OW{X:Cx}{cl:List (Str×Addr)}(nm)(ks)(hrel:(relabel scope X.env).names=nm)(hks:cl.map (·.1)=ks)(h3:∀y∈nm,(y.2=.cell\/y.2=.free)->y.1∈ks):
  ∀x,((relabel scope X.env).names.lookup x=ae .cell\/(relabel scope X.env).names.lookup x=ae .free)->∃c,cl.lookup x=ae c:=by
 intro x h;rw[hrel]at h;refine HA ?_;rw[hks];rcases h with h|h
 ·exact h3 _ (qv h) (.inl rfl)
 ·exact h3 _ (qv h) (.inr rfl)
def dG(fr:List (Option Nat))(σ:St):St:=fr.map λo=>o.bind λi=>(σ[i]?).bind id
theorem J2{j:Nat}(h:(dG fr σ)[j]?=ae (ae v)):∃i,fr[j]?=ae (ae i)/\σ[i]?=ae (ae v):=by
 unfold dG at h;rw[Ax]at h;cases e:fr[j]? with
 |none=>rw[e]at h;cases h
 |some o=>
  rw[e]at h;cases o with
  |none=>cases h
  |some i=>
   refine⟨i,rfl,?_⟩;have h':(σ[i]?).bind id=ae v:=Bc h;cases e2:σ[i]? with
   |none=>rw[e2]at h';cases h'
   |some o2=>
    rw[e2]at h';have h2:o2=ae v:=h';rw[h2]
def oU(X:Cx)(ifs:List Expr)(tt:TT):Prop:=
 ∀(pins:List (Addr×Obj))(s:Ai)(σ:St)(H:Hp)(Q:Bool->Hp->Prop),Inv X pins σ H s->tt σ H Q->
  A2 (A6 X.prog X.w) X.A (forIn ifs ai λc r=>if r=ai then do let ok <-isTrue c X.env (eval c X.env);pure (ForInStep.yield ok)else pure (ForInStep.yield r)) (TP X pins σ Q) X.xe s
def FG:TT:=λ_ H Q=>Q ai H
theorem OX:oU X [] FG:=λ_ _ _ H _ I h=>wpAny_tests_nil ⟨H,I,h⟩
theorem Ou(h:PT X c tt):oU X [c] tt:=λpins s σ H Q I q=>wpAny_tests_one (h pins s σ H Q I q)
def n9(fr:List (Option Nat))(wi:TI)(g:TG)(tt:TT)(te:TE):TE:=λσ H Q=>wi σ H λJ H1=>∀D,H1 D=ah->
 ∃W:Nat->Nat->List V->St->Hp->Prop,(∃m,W 0 m [] (dG fr σ) (upd H1 D (.lst [])))/\∀i m ys τ H,W i m ys τ H->
  ((J.stop i H/\Q (.ref D) H)\/(J.go i H/\ys.length < Ay/\∀x H',J.yld i H x H'->g x τ H' λτ2 H2=>tt τ2 H2 λb H3=>
   if b=ai then te τ2 H3 (λy H4=>H4 D=ae (.lst ys)/\∃m',m' < m/\W (i+1) m' (ys++[y]) τ2 (upd H4 D (.lst (ys++[y]))))else ∃m',m' < m/\W (i+1) m' ys τ2 H3))
section
variable{X:Cx}{N:List Str}{scope:E5}{cl:List (Str×Addr)}{fr:List (Option Nat)}{pins:List (Addr×Obj)}{σ:St}{H:Hp}{s:Ai}{fp:List Addr}
theorem Lm(S:CompSc X N scope cl fr)(I:Inv X pins σ H s)(hf:∀b∈fp,cW X pins H b)(hlt:∀b∈fp,b < s.heap.objs.size):(c6 X N scope cl s H fp).Ok where
 mod:=I.ok.mod
 kind:=S.kind
 glob:=I.ok.glob
 blt:=I.ok.blt
 above:=Ao _
 inj:=λx y c a b=>I.ok.inj x y c (S.sub x c a) (S.sub y c b)
 has:=λx h=>S.has x h
 cab:=λx c h=>nomatch h
 hd:=I.ok.hd
 frames:=I.ok.frames
 stk:=.inl rfl
 exf:=λb hb=>⟨A5 (hlt b hb),λx c e=>(hf b hb).2.2.2.2.1 x c (S.sub x c e)⟩
 bs:=I.bs
 bsz:=A9 I.ok.bsz I.sz
 noex:=λb o e hb=>by
  rcases(hf b hb).2.2.2.1 with z|z
  ·exact I.ok.noex b o e z
  ·exact absurd (Bd (Aq (I.ok.bs b o e).1) z) (Fh _)
 exfs:=λb hb z=>by
  rcases Au.mp (I.stkSub b z)with e|e
  ·exact(hf b hb).2.1 e
  ·exact(hf b hb).2.2.1 e
 funs:=I.stack
 frf:=I.stkFree
theorem GP(S:CompSc X N scope cl fr)(I:Inv X pins σ H s)(hf:∀b∈fp,cW X pins H b)(hlt:∀b∈fp,b < s.heap.objs.size)
   (hsb:C9 s.heap.objs.size (s.heap.push ob) h₁)  (hn:h₁.Ns s.heap.objs.size m):
  Inv (c6 X N scope cl s H fp) [] (dG fr σ) H {s with heap:=h₁,toks:=t'}:=by
 have old:∀b o,s.heap.get? b=ae o->h₁.get? b=ae o:=λb o e=>(hsb.2 b (A5 (Aq e))).trans (Ae _ e);refine⟨Lm S I hf hlt,rfl,I.bare,Un.kept old,⟨m,hn,λj x v e1 e2 e3=>?_⟩,λx c e=>?_,I.fresh,λx c e=>I.freeC x c (S.sub x c e),λp hp=>?_,I.hok.kept old,?_⟩
 ·obtain⟨i,f1,f2⟩:=J2 e2;obtain⟨y,g1,g2,g3,g4,g5,g6⟩:=S.fre j i f1;have e1':N[j]?=ae x:=e1;rw[g1]at e1';have exy:y=x:=Bc e1';subst exy;obtain⟨m0,hn0,hl⟩:=I.loc;obtain⟨u,r,l⟩:=hl i y v g2 f2 g3;refine⟨u,r,.inr ⟨g5,?_⟩⟩;rcases l with⟨k,_⟩|⟨k,c,e,z⟩
  ·rcases g4 with q|q
   ·rw[q]at k;cases k
   ·rw[q]at k;cases k
  ·exact⟨c,g6.trans e,z.keeps old⟩
 ·obtain⟨v,z⟩:=I.cell x c (S.sub x c e);exact⟨v,z.keeps old⟩
 ·exact absurd hp (by simp[c6])
 ·show(dG fr σ).length=N.length;unfold dG;rw[Ad,S.len]
theorem xC{τ:St}(I:Inv X pins σ H s0)(hf:∀b∈fp,cW X pins H b)(I':Inv (c6 X N scope cl s0 H fp) [] τ H' s')(hs:C9 s0.heap.objs.size s'.heap h'):
  Inv X pins σ H' {s' with heap:=h'}:=by
 have hC:H' s0.heap.objs.size=ah:=I'.free;have u:Un (dg X.stack) fp H H' s0.heap s'.heap:=I'.base;have ne:∀b o,s0.heap.get? b=ae o->b≠s0.heap.objs.size:=λb o e=>A5 (Aq e);have hok':HOk X.prog X.w H' h':=λb o e=>by
  have q:ObjOk X.prog X.w H' s'.heap b o:=I'.hok b o e;refine q.stay (λc v hc z=>(hs.2 c ?_).trans z) (λ_ z=>z) λ_ _ z=>z
  rintro rfl
  rcases hc with z|z
  ·rw[<-z,hC]at e;cases e
  ·rw[hC]at z;cases z
 refine I.call' (s':={ s' with heap:=h'}) (ch:=fp) I'.os ?_ hok' I'.bare λb hb=>?_
 ·refine⟨λb o e n h1 h2=>(hs.2 b (ne b o e)).trans (u.keep b o e n h1 h2),λb o e n h1 h2=>?_,u.free,λb o e h2=>?_,u.tups,u.frzs,u.tbls⟩
  ·obtain⟨sl,z⟩:=u.slot b o e n h1 h2;exact⟨sl,(hs.2 b (ne b o e)).trans z⟩
  ·obtain⟨o',z⟩:=u.there b o e h2;exact⟨o',(hs.2 b (ne b o e)).trans z⟩
 ·obtain⟨_,f1,_,f3,f4,f5⟩:=hf b hb;exact⟨f3,f1,f4,f5⟩
end
theorem Sv
  (hc:X.calm=ai) (S:CompSc X N scope cl fr) (hi:PI X tg iter wi) (hg:∀s H fp,PG (c6 X N scope cl s H fp) tg g) (ht:∀s H fp,oU (c6 X N scope cl s H fp) ifs tt)
  (he:∀s H fp,PE (c6 X N scope cl s H fp) elt te) (hs:∀x,D4 iter X.env x=pure x:=by intro _;rfl):
  PE X (.ListComp elt [⟨tg,iter,ifs,0⟩] scope pos) (n9 fr wi g tt te):=by
 intro pins s σ H Q I h;rw[eval_ListComp];refine wpAny_comprehension_free (use:=ah) (cl:=cl) rfl hs S.clos S.kind S.names (aP (hi pins s σ H _ I h) λv s1 h1=>aP h1 λitv s2 h2=>?_);obtain⟨it,fp,tn,J,H2,e,I2,T,st2,f2,q⟩:=h2;subst e;refine Bx (wpAny_newFunctionEnv S.nocell (by intro y hy;simp at hy) (λh₁ hn hsb=>?_) S.kind);dsimp only at hn hsb ⊢;obtain⟨W,⟨m0,w0⟩,turn⟩:=q s2.heap.objs.size I2.fresh
 have I3:Inv X pins σ (upd H2 s2.heap.objs.size (.lst [])) {s2 with heap:=s2.heap.push {cls:=.type "list",dict:=ah,data:=.seq ([]:List Af).toArray}}:=I2.lnew (its:=[]) (t':=s2.toks) .nil (Br _);have key:∀s3:Ai,s3={ s2 with heap:=s2.heap.push {cls:=.type "list",dict:=ah,data:=.seq ([]:List Af).toArray}}->Inv X pins σ (upd H2 s2.heap.objs.size (.lst [])) s3->
   ∀(ob:Obj)(mm:Str->Option Af),C9 s3.heap.objs.size (s3.heap.push ob) h₁->h₁.Ns s3.heap.objs.size mm->
   F7 (A6 X.prog X.w) X.A (.compStart (.ListComp elt [⟨tg,iter,ifs,0⟩] scope pos) 0 (.ref it) (.ref s2.heap.objs.size) (compEnvC scope cl s3.heap.objs.size X.env))
    (compPost (A6 X.prog X.w) X.A X.xe ah (EP X pins σ Q) (.ref s2.heap.objs.size) s3.heap.objs.size) {s3 with heap:=h₁,toks:=s3.toks+([]:List (Str×Af)).length}:=?key
 ·exact key _ rfl I3 _ _ hsb hn
 clear I3 hn hsb;intro s3 hs3 I3 ob mm hsb hn;have hfp:∀b∈fp,∃o,s2.heap.get? b=ae o:=λb hb=>let⟨o,e,_⟩:=T.obj _ _ st2 b hb;⟨o,e⟩;have up:∀b o,s2.heap.get? b=ae o->s3.heap.get? b=ae o:=λb o e=>by rw[hs3];exact Ae _ e
 have f3:∀b∈fp,cW X pins (upd H2 s2.heap.objs.size (.lst [])) b:=λb hb=>by
  obtain⟨o,e⟩:=hfp b hb;obtain⟨g0,gr⟩:=f2 b hb;exact⟨by rw[aM (A5 (Aq e))];exact g0,gr⟩
 have hlt:∀b∈fp,b < s3.heap.objs.size:=λb hb=>let⟨o,e⟩:=hfp b hb;Aq (up b o e);generalize hH3:upd H2 s2.heap.objs.size (.lst [])=H3 at I3 f3 w0;have I4:=GP (t':=s3.toks+([]:List (Str×Af)).length) S I3 f3 hlt hsb hn;have st4:tn 0 h₁:=T.keep _ _ _ st2 λb hb o e=>(hsb.2 b (A5 (Aq (up b o e)))).trans (Ae _ (up b o e));have stat:∀{H':Hp},(∀b∈fp,H' b=ah)->∀b∈fp,cW (c6 X N scope cl s3 H3 fp) [] H' b:=λhn b hb=>by
  obtain⟨_,k1,k2,k3,k4,k5⟩:=f3 b hb;refine⟨hn b hb,A5 (hlt b hb),λz=>?_,.inl hb,λx c e=>k4 x c (S.sub x c e),λp hp=>absurd hp (by simp[c6])⟩;rcases Au.mp (I3.stkSub b z)with e|e
  ·exact k1 e
  ·exact k2 e
 have loop:F7 (A6 X.prog X.w) X.A (.compLoop (.ListComp elt [⟨tg,iter,ifs,0⟩] scope pos) 0 (.ref it) (.ref s2.heap.objs.size) (compEnvC scope cl s3.heap.objs.size X.env))
   (compPost (A6 X.prog X.w) X.A X.xe ah (EP X pins σ Q) (.ref s2.heap.objs.size) s3.heap.objs.size) {s3 with heap:=h₁,toks:=s3.toks+([]:List (Str×Af)).length}:=by
  refine zg (λn s'=>∃i ys τ Hc,Inv (c6 X N scope cl s3 H3 fp) [] τ Hc s'/\tn i s'.heap/\(∀b∈fp,Hc b=ah)/\W i n ys τ Hc) ?_ m0 ⟨0,[],dG fr σ,H3,I4,st4,λb hb=>(f3 b hb).1,w0⟩
  rintro n s5 ⟨i,ys,τ,Hc,I5,st5,fr5,w5⟩
  rcases turn i n ys τ Hc w5 with⟨stop,qn⟩|⟨go,hz,step⟩
  ·refine aP (T.done (c6 X N scope cl s3 H3 fp) rfl rfl rfl hc i [] s5 τ Hc (λ_ _=>False) I5 (stat fr5) st5 stop) λr s6 ⟨hr,I6⟩=>?_;subst hr;obtain⟨mm,hm,_⟩:=I6.loc;exact⟨mm,hm,λh' hs'=>⟨.ref s2.heap.objs.size,Hc,xC I3 f3 I6 hs',rfl,qn⟩⟩
  ·refine aP (T.item (c6 X N scope cl s3 H3 fp) rfl rfl rfl hc i [] s5 τ Hc (λ_ _=>False) I5 (stat fr5) st5 go) λr s6 ⟨u,hr,h6⟩=>?_;subst hr;refine aP h6 λ_ s7 ⟨x,H7,I7,r7,y7,st7,fr7⟩=>?_;have I7':=I7.pinned (stat fr7) (T.obj _ _ st7);refine aP (hg s3 H3 fp _ s7 τ H7 x u _ I7' r7 (step x H7 y7)) λ_ s8 ⟨τ8,H8,I8,q8⟩=>?_;refine aP (ht s3 H3 fp _ s8 τ8 H8 _ I8 q8) λok s9 ⟨H9,I9,q9⟩=>?_;have keep:∀{st:Ai}{τ':St}{H':Hp},Inv (c6 X N scope cl s3 H3 fp) ([]++lX fp s7.heap) τ' H' st->tn (i+1) st.heap/\∀b∈fp,H' b=ah:=λ{st τ' H'} Ix=>by
    refine⟨T.keep _ _ _ st7 λb hb o e=>(Ix.pin (b,o) (Bf _ (Bf _ (mJ hb e)))).1,λb hb=>?_⟩;obtain⟨o,e,d⟩:=T.obj _ _ st7 b hb;exact(Ix.pin (b,o) (Bf _ (Bf _ (mJ hb e)))).2.1
   cases ok with
   |false=>
    rw[if_neg Ag]at q9 ⊢;obtain⟨m',hm,w9⟩:=q9;obtain⟨k1,k2⟩:=keep I9;exact⟨m',hm,i+1,ys,τ8,H9,I9.unpinned,k1,k2,w9⟩
   |true=>
    rw[if_pos rfl]at q9 ⊢;refine aP (he s3 H3 fp _ s9 τ8 H9 _ I9 q9) λxv s10 ⟨y,H10,I10,r10,hD,m',hm,w10⟩=>?_;refine aP (v5 _ s10 τ8 H10 (.ref s2.heap.objs.size) [y] (.ref s2.heap.objs.size) [xv] (λz H'=>∃m',m' < n/\W (i+1) m' (ys++[y]) τ8 H') I10 rfl (.cons r10 .nil) ⟨_,ys,y,rfl,rfl,hD,hz,m',hm,w10⟩) λz s11 ⟨z',H11,I11,_,m'',hm',w11⟩=>?_;obtain⟨k1,k2⟩:=keep I11;exact⟨m'',hm',i+1,ys++[y],τ8,H11,I11.unpinned,k1,k2,w11⟩
 exact codeAny_compStart_list loop (T.self _ 0 _ _ _ st4 loop)
mutual
inductive RdD(K:Ah)(H:Hp):V->Ab->Prop
 |non:RdD K H .non .none
 |bl (b:Bool):RdD K H (.bl b) (.bool b)
 |int (i:Int):RdD K H (.int i) (.int i)
 |str (x:Str):RdD K H (.str x) (.str x)
 |lst {a:Addr} {xs:List V} {ds:List Ab}:SqL K H a xs->RdAll K H xs ds->RdD K H (.ref a) (.list ds)
 |tup {a:Addr} {xs:List V} {ds:List Ab}:SqT K H a xs->RdAll K H xs ds->RdD K H (.ref a) (.tuple ds)
inductive RdAll(K:Ah)(H:Hp):List V->List Ab->Prop
 |nil:RdAll K H [] []
 |cons {x:V} {xs:List V} {d:Ab} {ds:List Ab}:RdD K H x d->RdAll K H xs ds->RdAll K H (x::xs) (d::ds)
end
section
variable{X:Cx}{pins:List (Addr×Obj)}{σ:St}{H:Hp}{s:Ai}
mutual
theorem RdD.reads(I:Inv X pins σ H s):∀{v:V}{d:Ab}{u:Af},RdD X.K H v d->RelV v u->∃as,Reads s.heap u d as
 |_,_,u,.non,r=>by
  cases(show u=Bh from r);exact⟨_,.none⟩
 |_,_,u,.bl b,r=>by
  cases(show u=Value.bool b from r);exact⟨_,.bool b⟩
 |_,_,u,.int i,r=>by
  obtain⟨t,rfl⟩:=(show ∃t,u=Value.int i t from r);exact⟨_,.int i t⟩
 |_,_,u,.str x,r=>by
  obtain⟨t,rfl⟩:=(show ∃t,u=F8 x t from r);exact⟨_,.str x t⟩
 |_,_,u,.lst (a:=a) h1 h2,r=>by
  cases(show u=A3 a from r);obtain⟨its,rv,⟨o,n,e,c,_,d⟩,_⟩:=I.list h1;obtain⟨as,ha⟩:=RdAll.reads I h2 rv;exact⟨_,.list e c d (by simpa using ha)⟩
 |_,_,u,.tup (a:=a) h1 h2,r=>by
  cases(show u=A3 a from r);obtain⟨its,rv,⟨o,e,c,n,d⟩,_⟩:=I.tuple h1;obtain⟨as,ha⟩:=RdAll.reads I h2 rv;exact⟨_,.tuple e c d (by simpa using ha)⟩
theorem RdAll.reads(I:Inv X pins σ H s):∀{vs:List V}{ds:List Ab}{us:List Af},RdAll X.K H vs ds->Vals vs us->∃as,ReadsAll s.heap us ds as
 |_,_,_,.nil,.nil=>⟨_,.nil⟩
 |_,_,_,.cons h1 h2,.cons r1 r2=>by
  obtain⟨as,ha⟩:=RdD.reads I h1 r1;obtain⟨bs,hb⟩:=RdAll.reads I h2 r2;exact⟨_,.cons ha hb⟩
end
end
def xw(d:Ab):Prop:=PyData.canLay0 d=ai/\PyData.depth d<=20/\PyData.weight d<=2 ^ 20/\Gs 13 d=ai/\Gz d=ai
def qS(K:Ah):R2:=λx y H Q=>∃a b xs,x=.ref a/\y=.ref b/\SqL K H a xs/\SqL K H b []/\Q (.bl xs.isEmpty) H
theorem QH(hu:X.A.units < Gr):OpR X (B3 .Eq) (qS X.K):=by
 intro pins s σ H x y v u Q I rx ry h;obtain⟨a,b,xs,rfl,rfl,ha,hb,q⟩:=h;cases(show v=A3 a from rx);cases(show u=A3 b from ry);obtain⟨its,r1,p1,_⟩:=I.list ha;obtain⟨its2,r2,p2,_⟩:=I.list hb;have e2:its2=[]:=Vals.zero r2;subst e2;cases r1 with
 |nil=>exact PySem.SeqAt.eq_listAt (e:=λ_=>ai) p1.isList p2.isList rfl hu (λj h1=>absurd h1 (by simp)) ⟨.bl ai,H,I,(by rfl),q⟩
 |cons r1 r3=>exact PySem.SeqAt.eq_list_lengthsAt p1.isList p2.isList (by simp) hu ⟨.bl aj,H,I,rfl,q⟩
def FO(K:Ah):R2:=λx y H Q=>∃a b xs ys,x=.ref a/\y=.ref b/\SqT K H a xs/\SqT K H b ys/\ys≠[]/\xs.length+ys.length<=Ay /\
 (xs=[]->Q (.ref b) H)/\(xs≠[]->∀p,H p=ah->Q (.ref p) (upd H p (.tup (xs++ys))))
theorem op_catA:OpR X (Eu .Add) (FO X.K):=by
 intro pins s σ H x y v u Q I rx ry h;obtain⟨a,b,xs,ys,rfl,rfl,ha,hb,hy,hz,q0,q2⟩:=h;by_cases hx:xs=[]
 ·cases(show v=A3 a from rx);cases(show u=A3 b from ry);obtain⟨its,r1,p1,_⟩:=I.tuple ha;obtain⟨its2,r2,p2,_⟩:=I.tuple hb;obtain⟨⟨cls,dd,data,sl⟩,ho,hc,n,hd⟩:=id p1;obtain⟨⟨cls2,dd2,data2,sl2⟩,ho2,hc2,n2,hd2⟩:=id p2;simp only at hc hd hc2 hd2;subst hc hd hc2 hd2;have hi:its=[]:=r1.nil_iff.mpr hx;exact concat_meets ⟨_,ho,rfl⟩ ⟨_,ho2,rfl⟩ noFill_tuple_add seq_tuple_add Gc F5 (Fx _ _)
   (tuple_addW0 a b its.toArray its2.toArray n n2 dd dd2 sl sl2 (by simp[hi])) ⟨ho,ho2,⟨.ref b,H,I,rfl,q0 hx⟩⟩
 ·exact op_catT pins s σ H (.ref a) (.ref b) v u Q I rx ry ⟨a,b,xs,ys,rfl,rfl,ha,hb,hx,hz,λe=>absurd e hy,λ_=>q2 hx⟩
theorem AN:CallR X (.builtin "isinstance") (λxs H Q=>∃x t b,xs=[x,.ty T]/\TyOf X.K H x t/\Fk X.K t (.type T)=ae b/\Q (.bl b) H):=by
 intro pins s σ H xs us Q I r h;obtain⟨x,t,b,rfl,ty,e,q⟩:=h;obtain⟨u,u',rfl,ru,ru'⟩:=nI r;cases(show u'=Ec T from ru');exact Qz I ru ty e λtk=>⟨.bl b,H,I.tok tk,rfl,q⟩
section
variable{prog:A7}{w:Bk}{A:Bu}{E:Af->Ai->Prop}{s:Ai}
theorem DX:entryFor table "dict.update.loop"=ae D7.«dict.update.loop»:=G8 (by kernel_rfl)
theorem rl:plainId "dict.update.loop"=ai:=by decide +kernel
theorem Te:typeLookup (.type "tuple") "keys"=pure ah:=by rw[typeLookup_type,builtinLookup_eq_fast];kernel_rfl
theorem Nk(p:IsTup s.heap a its.toArray)(h:Q its s):A2 (A6 prog w) A (Builtin.Dict.pairItems (.ref a)) Q E s:=by
 obtain⟨o,ho,hc,n,hd⟩:=id p;unfold Builtin.Dict.pairItems;refine Aa (Fi (show s.TypeIs (.ref a) "tuple" from⟨o,ho,hc⟩) ?_);rw[if_pos ∎];refine Aa (Dz ho hd (Aj ?_));simpa using h
set_option maxRecDepth 8000 in
theorem M5
  (hx:s.heap.get? a=ae o) (hc:o.cls=.type "tuple") (hdat:o.data=.seq xs k) (hd:o.dict=ah) (hmiss:typeLookup (.type "tuple") name=pure ah) (hname:(["__module__","__name__","__qualname__","__doc__","__annotations__"]:List Str).contains name=aj) (hA:A.handled=ah)
  (h:∀h' tk e,Heap.NewExcOf s.heap h' e "AttributeError"->Q ah {s with heap:=h',toks:=tk}) (hsz:name.length+100<=Ay:=by size_fits):
  A2 (A6 prog w) A (getAttr? (.ref a) name) Q E s:=by
 obtain⟨c,dct,dat,sl⟩:=o;simp only at hc hdat hd;subst hc hdat hd;obtain⟨hp,g,d,tk,os⟩:=s;have hT:∀tk',(⟨hp,g,d,tk',os⟩:Ai).TypeIs (.ref a) "tuple":=λ_=>⟨_,hx,rfl⟩;have f1:=sub_AttributeError;have f3:=F.slot_tuple_getattribute.lookup;have f4:=F.slot_tuple_getattribute.bind (.ref a);have f5:=am_tuple_getattr_none;unfold getAttr? getAttrBy? getAttrBy
 repeat (any_goals (first|assumption|exact hT _|((with_reducible show A2 _ _ (call (Gw "tuple.__getattribute__") _ _) _ _ _);refine call_meets F.slot_tuple_getattribute (hT _) am_entry_tuple_getattribute (F.args_tuple_getattribute_2 _ _) (meets_getattribute_miss_tuple a xs k sl name _ hmiss hname hsz) ⟨hx,hA,λh' tk' e hx'=>?_⟩)|wp_step))
 obtain⟨t',u',he⟩:=hx'.there;show A2 _ _ (getattributeRaised _ _ _ _ _ _ _) _ _ _;unfold getattributeRaised
 repeat (any_goals (first|assumption|wp_step))
 exact h _ _ _ hx'.of
end
section
variable{X:Cx}{pins:List (Addr×Obj)}{σ:St}{A:Bu}{R:Result->Ai->Prop}
theorem SqT.upd{K:Ah}(h:H a=ae (.tup xs))(hd:a≠d):(L2.upd H d o) a=ae (.tup xs):=by rw[aM hd];exact h
theorem OC(hA:A.handled=ah)(ps:List (Addr×aG×V)):∀(n i:Nat)(H:Hp)(s:Ai)(kvs:List (aG×V)),n+i=ps.length->Inv X pins σ H s->H d=ae (.dK kvs)->kvs.length+n<=Ay->
  H src=ae (.tup (ps.map λp=>.ref p.1))->(∀p∈ps,H p.1=ae (.tup [kV p.2.1,p.2.2]))->s.heap.IsTupleIter it src i->cW X pins H it->
  (∀H' s',Inv X pins σ H' s'->H'=L2.upd H d (.dK (kQ kvs ((ps.drop i).map (·.2))))->R (.ok (.ret .none)) s')->
  F7 (A6 X.prog X.w) A (.builtin "dict.update.loop" ⟨[.ref d,.ref it,Cs i,.none],[]⟩) R s:=by
 intro n
 induction n with
 |zero=>
  intro i H s kvs hn I hd hz hs hp st f hR;obtain⟨its,rv,p,_⟩:=I.tuple (SqT.of (K:=X.K) hs);obtain⟨f0,f1,f2,f3,f4,f5⟩:=f;refine Dd DX ?_;rw[Ck rl _];show A2 _ _ (E2 (.ref it)>>=_) _ _ s;have hl:=rv.length;rw[Ad]at hl;refine Aa (wpAny_pyNext_tuple_end (A:=A.in1) hA st (show s.heap.IsTuple src its.toArray from p) (by simp;omega) λh' eb=>?_);show A2 _ _ (Builtin.Dict.addKeywords d []>>=_) _ _ _;refine Aa (Aj (Aj ?_));refine hR H _ (I.turned (t':=s.toks) (λb o hb e=>eb b o hb e) f0 f1 f3 f4 f5) ?_;have e1:ps.drop i=[]:=List.drop_eq_nil_of_le ⋯;rw[e1]
  funext b
  unfold L2.upd
  split
  ·rename_i hb;rw[hb,hd];rfl
  ·rfl
 |succ n ih=>
  intro i H s kvs hn I hd hz hs hp st f hR;obtain⟨its,rv,p,_⟩:=I.tuple (SqT.of (K:=X.K) hs);obtain⟨f0,f1,f2,f3,f4,f5⟩:=id f;have hi:i < ps.length:=by omega
  have hpi:(ps.map λp=>V.ref p.1)[i]?=ae (V.ref (ps[i]).1):=by simp[hi]
  obtain⟨u,hu,ru⟩:=rv.get hpi;cases(show u=A3 (ps[i]).1 from ru);have hmem:ps[i]∈ps:=Cz hi;have hq:=hp _ hmem;refine Dd DX ?_;rw[Ck rl _];show A2 _ _ (E2 (.ref it)>>=_) _ _ s;refine Aa (wpAny_pyNext_tuple_item st (show s.heap.IsTuple src its.toArray from p) (x:=A3 (ps[i]).1) (by simpa using hu) λh1 st1 sb=>?_);have I1:Inv X pins σ H {s with heap:=h1}:=I.turned (t':=s.toks) (λb o hb e=>(sb.2 b hb).trans e) f0 f1 f3 f4 f5;obtain⟨its1,rv1,p1,_⟩:=I1.tuple (SqT.of (K:=X.K) hq);obtain⟨u1,u2,rfl,r1,r2⟩:=nI rv1;refine Aa (Ce ?_);refine Aa (wpAny_tryCatch (Nk p1 ?_));obtain⟨z,hdS,vs,rel,dd⟩:=BA I1.hok hd;have hz1:vs.length<=Ay:=by rw[<-rel.length];exact z
  have hl1:=pW kvs (ps[i]).2.1 (ps[i]).2.2;refine Ce (wpAny_dictSet_pairs (hsz:=hz1) (mQ r1) dd λh2 dd2 hs2=>?_);have he2:∃q,h2.get? d=ae q:=let⟨q,_,_,hq,_⟩:=dd2;⟨q,hq⟩;have I2:=uf (t':=s.toks+1) I1 (by rw[hd];exact El) hs2 he2 (Iu ⋯ hdS (rel.put (ps[i]).2.1 r2) dd2);have nd:∀b xs,H b=ae (.tup xs)->b≠d:=λb xs e z=>by rw[z,hd]at e;cases e
  have nit:it≠d:=λz=>by rw[z,hd]at f0;cases f0
  have hc:((i:Int)+1)=((i+1:Nat):Int):=by push_cast;rfl
  show A2 _ _ (pure (Fin.again (.builtin "dict.update.loop" ⟨[.ref d,.ref it,Cs ((i:Int)+1),.none],[]⟩))) _ _ _;refine Aj ⟨E3 rl _,?_⟩;rw[hc];refine ih (i+1) _ _ (bR kvs (ps[i]).2.1 (ps[i]).2.2) ⋯ I2 bu ⋯ (SqT.upd (K:=X.K) hs (nd _ _ hs)) (λq hq'=>SqT.upd (K:=X.K) (hp q hq') (nd _ _ (hp q hq'))) (by
   obtain⟨o,e,r⟩:=st1;exact⟨o,(hs2.2 it nit).trans e,r⟩) ⟨by rw[aM nit];exact f0,f1,f2,f3,f4,f5⟩ λH' s' I' e=>?_
  refine hR H' s' I' ?_;rw[e,FD,Dp hi];rfl
theorem fh(h:n<=1000):n<=Ay:=Gq (zr h)
theorem LQ(hh:X.A.handled=ah):CallR X (.type "dict") (λxs H Q=>∃(src:Addr)(ps:List (Addr×aG×V)),xs=[.ref src]/\H src=ae (.tup (ps.map λp=>V.ref p.1))/\(∀p∈ps,H p.1=ae (.tup [kV p.2.1,p.2.2]))/\ps.length<=1000 /\
  ∀l,H l=ah->Q (.ref l) (L2.upd H l (.dK (kQ [] (ps.map (·.2)))))):=by
 intro pins s σ H xs us Q I r h;obtain⟨src,ps,rfl,hs,hp,hlen,q⟩:=h;obtain⟨u,rfl,ru⟩:=gS r;cases(show u=A3 src from ru);have big:=I.big;refine callType_codes (Q₁:=λobj s₁=>obj=.ref s.heap.objs.size/\s₁={ s with heap:=s.heap.push {cls:=.type "dict",data:=.dict #[]}}) F.kt_called_dict (F.kt_typeCall_dict_1 _) F.entry_dict_init (kt_code_dict_new _ ⟨rfl,rfl⟩) ?_
 rintro obj s₁ ⟨rfl,rfl⟩
 have hfr:H s.heap.objs.size=ah:=I.fresh;have I1:Inv X pins σ (L2.upd H s.heap.objs.size (.dK [])) {s with heap:=s.heap.push {cls:=.type "dict",data:=.dict #[]}}:=I.laid (t':=s.toks) (λb o e=>Ae _ e) (Ao _) (DU s.heap big);have nd:∀b xs,H b=ae (.tup xs)->b≠s.heap.objs.size:=λb xs e z=>by rw[z,hfr]at e;cases e
 have hs1:=SqT.upd (K:=X.K) (o:=.dK []) hs (nd _ _ hs);obtain⟨zz,its,rv,o,ho,hc,⟨n,hdat⟩,hd⟩:=(show ObjOk X.prog X.w _ _ src (.tup _)from I1.hok src _ hs1);have hnew:(s.heap.push {cls:=.type "dict",data:=.dict #[]}).DictOf (fS X.prog X.w) s.heap.objs.size []:=Heap.DictOf.new s.heap;refine⟨hnew.typeIs,F.args_dict_init_2 _ _,?_⟩;unfold D7.«dict.__init__»;refine Aa ?_;unfold Builtin.Dict.selfAndRest;refine Aa (wpAny_notOrdered_dict hnew.typeIs ?_);show A2 _ _ (pure (s.heap.objs.size,[A3 src])) _ _ _;refine Aj ?_;show A2 _ _ (Builtin.Dict.updateFrom "dict.__init__" s.heap.objs.size (.ref src) [] .none) _ _ _;unfold Builtin.Dict.updateFrom;refine Aa (Fi (T:="tuple") ⟨o,ho,hc⟩ ?_);rw[if_pos ∎];refine Aa (M5 ho hc hdat hd Te ∅ hh (λh' tk e ne=>?_));have I2:=I1.kept (t':=tk) ne.keeps;have p2:IsTup h' src its.toArray:=IsTup.keeps ⟨o,ho,hc,n,hdat⟩ ne.keeps;show A2 _ _ (rule _>>=_) _ _ _;refine Aa (G5 ?_);refine Aa (Dx (show Heap.IsTuple h' src its.toArray from p2) ?_);refine Aj ⟨E3 rl _,?_⟩;have I3:=I2.kept (t':=tk) (λb o e=>Ae {cls:=.type "tuple_iterator",data:=.fields #[.ref src,.int 0 0]} e);refine OC (A:=X.A.in1) hh ps ps.length 0 _ _ [] ⋯ I3 bu (by simp only[List.length_nil];exact fh ⋯) hs1 (λq hq=>SqT.upd (K:=X.K) (hp q hq) (nd _ _ (hp q hq))) ⟨_,Az _ rfl,rfl,rfl⟩ (I2.fpOk (Ao _) I2.fresh) λH' s' I' e=>?_;refine⟨rfl,.ref s.heap.objs.size,H',I',rfl,?_⟩;rw[e,FD];exact q _ hfr
end
theorem TF:OpR X (B3 .LtE) (λx y H Q=>∃i j,x=.str i/\y=.str j/\Q (.bl (!decide (j.cps.toList < i.cps.toList))) H):=by
 intro pins s σ H x y v u Q I rx ry h;obtain⟨i,j,rfl,rfl,q⟩:=h;obtain⟨t,rfl⟩:=rx;obtain⟨t',rfl⟩:=ry;exact P.le_str (cI I q rfl)
theorem RN:OpR X (B3 .Gt) (λx y H Q=>∃i j,x=.str i/\y=.str j/\Q (.bl (decide (j.cps.toList < i.cps.toList))) H):=by
 intro pins s σ H x y v u Q I rx ry h;obtain⟨i,j,rfl,rfl,q⟩:=h;obtain⟨t,rfl⟩:=rx;obtain⟨t',rfl⟩:=ry;exact P.gt_str (cI I q rfl)
def qk:Ab->String
 |.none=>"NoneType"
 |.bool _=>"bool"
 |.int _=>"int"
 |.str _=>"str"
 |.list _=>"list"
 |.tuple _=>"tuple"
 |.dict _=>"dict"
def gj(T:String)(d:Ab):Bool:=qk d==T || (T=="int"&&qk d=="bool")
def bq(h:Str):Ab->Bool
 |.str x=>decide (x=h)
 |_=>aj
theorem EB{cpos pos pos':Pos}
  (hN:X.N.Nodup) (hix:X.N[i]?=ae x) (hx:X.env.scope.names.lookup x=ae .local)
  (hc:X.calm=ai) (S:CompSc X N scope cl fr) (hi:PI X tg iter wi) (hg:∀s H fp,PG (c6 X N scope cl s H fp) tg g) (ht:∀s H fp,oU (c6 X N scope cl s H fp) ifs tt)
  (he:∀s H fp,PE (c6 X N scope cl s H fp) elt te) (hs:∀x,D4 iter X.env x=pure x:=by intro _;rfl)
  (hsw:Da (.ListComp elt [⟨tg,iter,ifs,0⟩] scope cpos) (ae (.Name x pos')) pos.line X.env=pure ai:=by rfl):
  PS X (.Assign [.Name x pos'] (.ListComp elt [⟨tg,iter,ifs,0⟩] scope cpos) pos) (dh (n9 fr wi g tt te) (gm i)):=by
 intro pins s σ H D I h;rw[exec_Assign_Name_used _ _ _ _ hsw];refine Aa (Gh (Aa ?_));show A2 _ _ (do let _ <-comprehension (.ListComp elt [⟨tg,iter,ifs,0⟩] scope cpos) scope X.env (firstIterPos [⟨tg,iter,ifs,0⟩] cpos) (newList []) (firstAsync [⟨tg,iter,ifs,0⟩]) (firstIter [⟨tg,iter,ifs,0⟩] X.env) (ae (assign (.Name x pos') X.env))) _ _ s;refine Aa ?_;have fin:∀(u:Unit)(s':Ai),SP X pins D .next s'->A2 (A6 X.prog X.w) X.A (pure Flow.next) (SP X pins D) X.xe s':=λ_ s' z=>Aj z
 refine aP (Q:=λ_ s'=>SP X pins D .next s') ?_ λ_ s' z=>Aj (Aj z);refine wpAny_comprehension_free (use:=ae (assign (.Name x pos') X.env)) (cl:=cl) rfl hs S.clos S.kind S.names (aP (hi pins s σ H _ I h) λv s1 h1=>aP h1 λitv s2 h2=>?_);obtain⟨it,fp,tn,J,H2,e,I2,T,st2,f2,q⟩:=h2;subst e;refine Bx (wpAny_newFunctionEnv S.nocell (by intro y hy;simp at hy) (λh₁ hn hsb=>?_) S.kind);dsimp only at hn hsb ⊢;obtain⟨W,⟨m0,w0⟩,turn⟩:=q s2.heap.objs.size I2.fresh
 have I3:Inv X pins σ (upd H2 s2.heap.objs.size (.lst [])) {s2 with heap:=s2.heap.push {cls:=.type "list",dict:=ah,data:=.seq ([]:List Af).toArray}}:=I2.lnew (its:=[]) (t':=s2.toks) .nil (Br _);have key:∀s3:Ai,s3={ s2 with heap:=s2.heap.push {cls:=.type "list",dict:=ah,data:=.seq ([]:List Af).toArray}}->Inv X pins σ (upd H2 s2.heap.objs.size (.lst [])) s3->
   ∀(ob:Obj)(mm:Str->Option Af),C9 s3.heap.objs.size (s3.heap.push ob) h₁->h₁.Ns s3.heap.objs.size mm->
   F7 (A6 X.prog X.w) X.A (.compStart (.ListComp elt [⟨tg,iter,ifs,0⟩] scope cpos) 0 (.ref it) (.ref s2.heap.objs.size) (compEnvC scope cl s3.heap.objs.size X.env))
    (compPost (A6 X.prog X.w) X.A X.xe (ae (assign (.Name x pos') X.env)) (λ_ s'=>SP X pins D .next s') (.ref s2.heap.objs.size) s3.heap.objs.size) {s3 with heap:=h₁,toks:=s3.toks+([]:List (Str×Af)).length}:=?key
 ·exact key _ rfl I3 _ _ hsb hn
 clear I3 hn hsb;intro s3 hs3 I3 ob mm hsb hn;have hfp:∀b∈fp,∃o,s2.heap.get? b=ae o:=λb hb=>let⟨o,e,_⟩:=T.obj _ _ st2 b hb;⟨o,e⟩;have up:∀b o,s2.heap.get? b=ae o->s3.heap.get? b=ae o:=λb o e=>by rw[hs3];exact Ae _ e
 have f3:∀b∈fp,cW X pins (upd H2 s2.heap.objs.size (.lst [])) b:=λb hb=>by
  obtain⟨o,e⟩:=hfp b hb;obtain⟨g0,gr⟩:=f2 b hb;exact⟨by rw[aM (A5 (Aq e))];exact g0,gr⟩
 have hlt:∀b∈fp,b < s3.heap.objs.size:=λb hb=>let⟨o,e⟩:=hfp b hb;Aq (up b o e);generalize hH3:upd H2 s2.heap.objs.size (.lst [])=H3 at I3 f3 w0;have I4:=GP (t':=s3.toks+([]:List (Str×Af)).length) S I3 f3 hlt hsb hn;have st4:tn 0 h₁:=T.keep _ _ _ st2 λb hb o e=>(hsb.2 b (A5 (Aq (up b o e)))).trans (Ae _ (up b o e));have stat:∀{H':Hp},(∀b∈fp,H' b=ah)->∀b∈fp,cW (c6 X N scope cl s3 H3 fp) [] H' b:=λhn b hb=>by
  obtain⟨_,k1,k2,k3,k4,k5⟩:=f3 b hb;refine⟨hn b hb,A5 (hlt b hb),λz=>?_,.inl hb,λx c e=>k4 x c (S.sub x c e),λp hp=>absurd hp (by simp[c6])⟩;rcases Au.mp (I3.stkSub b z)with e|e
  ·exact k1 e
  ·exact k2 e
 have loop:F7 (A6 X.prog X.w) X.A (.compLoop (.ListComp elt [⟨tg,iter,ifs,0⟩] scope cpos) 0 (.ref it) (.ref s2.heap.objs.size) (compEnvC scope cl s3.heap.objs.size X.env))
   (compPost (A6 X.prog X.w) X.A X.xe (ae (assign (.Name x pos') X.env)) (λ_ s'=>SP X pins D .next s') (.ref s2.heap.objs.size) s3.heap.objs.size) {s3 with heap:=h₁,toks:=s3.toks+([]:List (Str×Af)).length}:=by
  refine zg (λn s'=>∃i ys τ Hc,Inv (c6 X N scope cl s3 H3 fp) [] τ Hc s'/\tn i s'.heap/\(∀b∈fp,Hc b=ah)/\W i n ys τ Hc) ?_ m0 ⟨0,[],dG fr σ,H3,I4,st4,λb hb=>(f3 b hb).1,w0⟩
  rintro n s5 ⟨i,ys,τ,Hc,I5,st5,fr5,w5⟩
  rcases turn i n ys τ Hc w5 with⟨stop,qn⟩|⟨go,hz,step⟩
  ·refine aP (T.done (c6 X N scope cl s3 H3 fp) rfl rfl rfl hc i [] s5 τ Hc (λ_ _=>False) I5 (stat fr5) st5 stop) λr s6 ⟨hr,I6⟩=>?_;subst hr;obtain⟨mm,hm,_⟩:=I6.loc;have I6x:Inv X pins σ Hc s6:=xC I3 f3 I6 (Heap.SameBut.refl _ _);have hC:Hc s3.heap.objs.size=ah:=I6.free;obtain⟨_,c1,_,c3,c4,c5⟩:=I3.fpOk (H':=Hc) (Ao _) hC;show A2 (A6 X.prog X.w) X.A (assign (.Name x pos') X.env (.ref s2.heap.objs.size)) _ X.xe s6;refine wpAny_assign_Name (ym I6x hN hix (.inl hx) (show RelV (.ref s2.heap.objs.size) (A3 s2.heap.objs.size)from rfl) (λs7 I7 hsb=>?_) (.inr hx));obtain⟨ad,hsb,had⟩:=hsb;have hne:s3.heap.objs.size≠ad:=by
    rcases had with z|z
    ·rw[z];exact c1
    ·exact λq=>c4 x ad z q.symm
   obtain⟨oo,es,ep,ho,rr⟩:=hm;refine⟨mm,⟨oo,es,ep,(hsb.2 _ hne).trans ho,rr⟩,λh' hs'=>⟨_,Hc,?_,qn⟩⟩;have ne:∀b,b∉[s3.heap.objs.size]->b≠s3.heap.objs.size:=λb z q=>z (by rw[q];exact Bg.mpr rfl);have hok':HOk X.prog X.w Hc h':=λb o e=>by
    refine(I7.hok b o e).stay (λc v hc z=>(hs'.2 c ?_).trans z) (λ_ z=>z) λ_ _ z=>z
    rintro rfl
    rcases hc with z|z
    ·rw[<-z,hC]at e;cases e
    ·rw[hC]at z;cases z
   refine I7.call' (s':={ s7 with heap:=h'}) (ch:=[s3.heap.objs.size]) rfl ?_ hok' I7.bare λb hb=>?_
   ·exact⟨λb o e n h1 h2=>(hs'.2 b (ne b h2)).trans e,λb o e n h1 h2=>⟨o.slots,(hs'.2 b (ne b h2)).trans e⟩,λb o e n h2=>n,λb o e h2=>⟨o,(hs'.2 b (ne b h2)).trans e⟩,λ_ _ z=>z,λ_ _ _ z=>z,λb ps z=>⟨#[],by rw[Array.append_empty];exact z⟩⟩
   ·cases Bg.mp hb;exact⟨c3,c1,c4,c5⟩
  ·refine aP (T.item (c6 X N scope cl s3 H3 fp) rfl rfl rfl hc i [] s5 τ Hc (λ_ _=>False) I5 (stat fr5) st5 go) λr s6 ⟨u,hr,h6⟩=>?_;subst hr;refine aP h6 λ_ s7 ⟨x,H7,I7,r7,y7,st7,fr7⟩=>?_;have I7':=I7.pinned (stat fr7) (T.obj _ _ st7);refine aP (hg s3 H3 fp _ s7 τ H7 x u _ I7' r7 (step x H7 y7)) λ_ s8 ⟨τ8,H8,I8,q8⟩=>?_;refine aP (ht s3 H3 fp _ s8 τ8 H8 _ I8 q8) λok s9 ⟨H9,I9,q9⟩=>?_;have keep:∀{st:Ai}{τ':St}{H':Hp},Inv (c6 X N scope cl s3 H3 fp) ([]++lX fp s7.heap) τ' H' st->tn (i+1) st.heap/\∀b∈fp,H' b=ah:=λ{st τ' H'} Ix=>by
    refine⟨T.keep _ _ _ st7 λb hb o e=>(Ix.pin (b,o) (Bf _ (Bf _ (mJ hb e)))).1,λb hb=>?_⟩;obtain⟨o,e,d⟩:=T.obj _ _ st7 b hb;exact(Ix.pin (b,o) (Bf _ (Bf _ (mJ hb e)))).2.1
   cases ok with
   |false=>
    rw[if_neg Ag]at q9 ⊢;obtain⟨m',hm,w9⟩:=q9;obtain⟨k1,k2⟩:=keep I9;exact⟨m',hm,i+1,ys,τ8,H9,I9.unpinned,k1,k2,w9⟩
   |true=>
    rw[if_pos rfl]at q9 ⊢;refine aP (he s3 H3 fp _ s9 τ8 H9 _ I9 q9) λxv s10 ⟨y,H10,I10,r10,hD,m',hm,w10⟩=>?_;refine aP (v5 _ s10 τ8 H10 (.ref s2.heap.objs.size) [y] (.ref s2.heap.objs.size) [xv] (λz H'=>∃m',m' < n/\W (i+1) m' (ys++[y]) τ8 H') I10 rfl (.cons r10 .nil) ⟨_,ys,y,rfl,rfl,hD,hz,m',hm,w10⟩) λz s11 ⟨z',H11,I11,_,m'',hm',w11⟩=>?_;obtain⟨k1,k2⟩:=keep I11;exact⟨m'',hm',i+1,ys++[y],τ8,H11,I11.unpinned,k1,k2,w11⟩
 exact codeAny_compStart_list loop (T.self _ 0 _ _ _ st4 loop)
end L2
set_option Elab.async false
set_option maxRecDepth 100000
namespace Nb
open PySem L2
def Kp(t:Addr)(H H':Hp):Prop:=∀b o,H b=ae o->b≠t->H' b=ae o
theorem Kp.refl(t)(H):Kp t H H:=λ_ _ h _=>h
theorem Kp.trans(a:Kp t H H1)(b:Kp t H1 H2):Kp t H H2:=λc o h n=>b c o (a c o h n) n
theorem Kp.new(h:H p=ah):Kp t H (upd H p o):=λc o' e _=>by
 rw[aM (bO e h)];exact e
theorem Kp.tape:Kp t H (upd H t o):=λc o' e n=>by
 rw[aM n];exact e
structure TL where
 s:Addr
 g:Addr
def jx(l:TL):List V:=if mU=ai then[.ref l.g]else[]
structure Tp(H:Hp)(t:Addr)(l:TL)(ns:List Int)(n:Int):Prop where
 ob:∃a b:Int,H t=ae (.lst (.ref l.s::.int a::.int b::jx l))/\0<=a/\a<=n
 ls:H l.s=ae (.lst (ns.map V.int))
 len:ns.length<=63
 ag:mU=ai->H l.g=ae (.lst qN)
 gne:l.g≠t
theorem Tp.ne(T:Tp H t l ns n):t≠l.s:=by
 obtain⟨a,b,h,_⟩:=T.ob;refine yf h T.ls λz=>?_;have z':(.ref l.s::.int a::.int b::jx l:List V)=ns.map V.int:=HO.lst.inj z;cases ns with
 |nil=>cases z'
 |cons m r=>
  rw[Bs]at z';have:=(Gk z').1;cases this
theorem Tp.other(T:Tp H t l ns n)(h1:t≠p)(h2:l.s≠p)(h3:mU=ai->l.g≠p):Tp (upd H p o) t l ns n:=by
 obtain⟨a,b,e,h⟩:=T.ob;exact⟨⟨a,b,by rw[aM h1];exact e,h⟩,by rw[aM h2];exact T.ls,T.len,λz=>by rw[aM (h3 z)];exact T.ag z,T.gne⟩
theorem Tp.new(T:Tp H t l ns n)(h:H p=ah):Tp (upd H p o) t l ns n:=by
 obtain⟨a,b,e,_⟩:=T.ob;exact T.other (bO e h) (bO T.ls h) λz=>bO (T.ag z) h
theorem OE{xs:List V}{r:Int}(h0:0<=r)(h1:r < xs.length):∃v,c7 xs r=ae v/\v∈xs:=by
 obtain⟨j,rfl⟩:=Gg h0;have hj:j < xs.length:=by omega
 exact⟨xs[j],fq (Al hj),Cz hj⟩
theorem small(h:n<=1000):n<=Ay:=Gq (zr h)
theorem Hu:By "tuple"=ae (.type "tuple"):=by decide +kernel
theorem K2:By "dict"=ae (.type "dict"):=by decide +kernel
theorem S0:By "int"=ae (.type "int"):=by decide +kernel
theorem Nq:By "str"=ae (.type "str"):=by decide +kernel
theorem NF:By "repr"=ae (.builtin "repr"):=by decide +kernel
theorem GB:By "isinstance"=ae (.builtin "isinstance"):=by decide +kernel
theorem FR:By "list"=ae (.type "list"):=by decide +kernel
theorem Tc:By "bool"=ae (.type "bool"):=by decide +kernel
theorem Np(h:xs.length<=63):eW xs ah (ae 63)=xs:=by
 unfold eW;have e1:HT.sIx xs.length 0 ah=0:=rfl;have e2:HT.sIx xs.length xs.length (ae 63)=xs.length:=by
  have e:=HT.sIx_nat xs.length xs.length 63;rw[show((63:Nat):Int)=63 from rfl]at e;rw[e];omega
 rw[e1,e2,Gj,Nat.sub_zero,List.take_length]
def n8(K:Ah):Sp:=λvs H Q _=>∃(a:Addr)(ns:List Int),vs=[.ref a]/\SqL K H a (ns.map V.int)/\ns.length<=63 /\
 ∀(t:Addr)(l:TL)(H':Hp),Tp H' t l ns 0->(∀b o,H b=ae o->H' b=ae o)->Q (.ref t) H'
def CA:Sp:=λvs H Q _=>∃(t:Addr)(l:TL)(ns:List Int)(n many:Int),vs=[.ref t,.int many]/\Tp H t l ns n/\n < 2 ^ 40/\0 < many/\many < 1073741824 /\
 ∀(r:Int)(H':Hp),0<=r->r < many->Tp H' t l ns (n+1)->Kp t H H'->Q (.int r) H'
end Nb
namespace DL
open PySem L2 Nb
abbrev D:=Ab
mutual
inductive RdX(H:Hp)(B:Addr->Prop):V->Ab->Prop
 |non:RdX H B .non .none
 |bl (b:Bool):RdX H B (.bl b) (.bool b)
 |int (i:Int):RdX H B (.int i) (.int i)
 |str (x:Str) (h:x.length<=Ay):RdX H B (.str x) (.str x)
 |lst {a:Addr} {xs:List V} {ds:List Ab}:H a=ae (.lst xs)->¬B a->xs.length<=Ay->RdXs H B xs ds->RdX H B (.ref a) (.list ds)
 |tup {a:Addr} {xs:List V} {ds:List Ab}:H a=ae (.tup xs)->¬B a->xs.length<=Ay->RdXs H B xs ds->RdX H B (.ref a) (.tuple ds)
inductive RdXs(H:Hp)(B:Addr->Prop):List V->List Ab->Prop
 |nil:RdXs H B [] []
 |cons {x:V} {xs:List V} {d:Ab} {ds:List Ab}:RdX H B x d->RdXs H B xs ds->RdXs H B (x::xs) (d::ds)
end
mutual
theorem RdX.move{H H':Hp}{B B':Addr->Prop}(k:∀b o,H b=ae o->¬B b->H' b=ae o/\¬B' b):∀{v:V}{d:Ab},RdX H B v d->RdX H' B' v d
 |_,_,.non=>.non
 |_,_,.bl b=>.bl b
 |_,_,.int i=>.int i
 |_,_,.str x h=>.str x h
 |_,_,.lst h1 h2 h3 h4=>.lst (k _ _ h1 h2).1 (k _ _ h1 h2).2 h3 (RdXs.move k h4)
 |_,_,.tup h1 h2 h3 h4=>.tup (k _ _ h1 h2).1 (k _ _ h1 h2).2 h3 (RdXs.move k h4)
theorem RdXs.move{H H':Hp}{B B':Addr->Prop}(k:∀b o,H b=ae o->¬B b->H' b=ae o/\¬B' b):∀{vs:List V}{ds:List Ab},RdXs H B vs ds->RdXs H' B' vs ds
 |_,_,.nil=>.nil
 |_,_,.cons h1 h2=>.cons (RdX.move k h1) (RdXs.move k h2)
end
section
variable{H H':Hp}{B B':Addr->Prop}{v:V}{d:Ab}{vs ws:List V}{ds es:List Ab}{t:Addr}
theorem RdX.kp(k:Kp t H H')(ht:B t)(h:RdX H B v d):RdX H' B v d:=h.move λb o e n=>⟨k b o e λz=>n (z▸ht),n⟩
theorem RdXs.kp(k:Kp t H H')(ht:B t)(h:RdXs H B vs ds):RdXs H' B vs ds:=h.move λb o e n=>⟨k b o e λz=>n (z▸ht),n⟩
theorem RdX.less(k:∀b,B' b->B b)(h:RdX H B v d):RdX H B' v d:=h.move λb o e n=>⟨e,λz=>n (k b z)⟩
theorem RdXs.less(k:∀b,B' b->B b)(h:RdXs H B vs ds):RdXs H B' vs ds:=h.move λb o e n=>⟨e,λz=>n (k b z)⟩
theorem RdXs.keep(k:∀b o,H b=ae o->¬B b->H' b=ae o)(h:RdXs H B vs ds):RdXs H' B vs ds:=h.move λb o e n=>⟨k b o e n,n⟩
theorem RdXs.len:∀{vs:List V}{ds:List Ab},RdXs H B vs ds->vs.length=ds.length
 |_,_,.nil=>rfl
 |_,_,.cons _ t=>by rw[Ar,Ar,RdXs.len t]
theorem RdXs.get:∀{vs:List V}{ds:List Ab}{i:Nat}{v:V},RdXs H B vs ds->vs[i]?=ae v->∃d,ds[i]?=ae d/\RdX H B v d
 |_,_,_,_,.nil,e=>by simp at e
 |_,_,0,_,.cons h _,e=>by
  simp at e;subst e;exact⟨_,rfl,h⟩
 |_,_,i+1,v,.cons _ t,e=>by
  obtain⟨d,h1,h2⟩:=RdXs.get (i:=i) (v:=v) t (by simpa using e);exact⟨d,by simpa using h1,h2⟩
theorem RdXs.getD:∀{vs:List V}{ds:List Ab}{i:Nat}{d:Ab},RdXs H B vs ds->ds[i]?=ae d->∃v,vs[i]?=ae v/\RdX H B v d
 |_,_,_,_,.nil,e=>by simp at e
 |_,_,0,_,.cons h _,e=>by
  simp at e;subst e;exact⟨_,rfl,h⟩
 |_,_,i+1,d,.cons _ t,e=>by
  obtain⟨v,h1,h2⟩:=RdXs.getD (i:=i) (d:=d) t (by simpa using e);exact⟨v,by simpa using h1,h2⟩
theorem RdXs.append:∀{vs ws:List V}{ds es:List Ab},RdXs H B vs ds->RdXs H B ws es->RdXs H B (vs++ws) (ds++es)
 |_,_,_,_,.nil,h=>h
 |_,_,_,_,.cons h1 h2,h=>.cons h1 (RdXs.append h2 h)
theorem RdXs.set:∀{vs:List V}{ds:List Ab}(i:Nat){v:V}{d:Ab},RdXs H B vs ds->RdX H B v d->RdXs H B (vs.set i v) (ds.set i d)
 |_,_,_,_,_,.nil,_=>.nil
 |_,_,0,_,_,.cons _ t,h=>.cons h t
 |_,_,i+1,_,_,.cons q t,h=>.cons q (RdXs.set i t h)
theorem RdXs.take:∀{vs:List V}{ds:List Ab}(n:Nat),RdXs H B vs ds->RdXs H B (vs.take n) (ds.take n)
 |_,_,0,_=>.nil
 |_,_,_+1,.nil=>.nil
 |_,_,n+1,.cons r t=>.cons r (RdXs.take n t)
theorem RdXs.drop:∀{vs:List V}{ds:List Ab}(n:Nat),RdXs H B vs ds->RdXs H B (vs.drop n) (ds.drop n)
 |_,_,0,r=>r
 |_,_,_+1,.nil=>.nil
 |_,_,n+1,.cons _ t=>RdXs.drop n t
end
mutual
theorem RdX.rd{K:Ah}{H:Hp}{B:Addr->Prop}:∀{v:V}{d:Ab},RdX H B v d->RdD K H v d
 |_,_,.non=>.non
 |_,_,.bl b=>.bl b
 |_,_,.int i=>.int i
 |_,_,.str x h=>.str x
 |_,_,.lst h1 h2 h3 h4=>.lst (SqL.of h1) (RdXs.rd h4)
 |_,_,.tup h1 h2 h3 h4=>.tup (SqT.of h1) (RdXs.rd h4)
theorem RdXs.rd{K:Ah}{H:Hp}{B:Addr->Prop}:∀{vs:List V}{ds:List Ab},RdXs H B vs ds->RdAll K H vs ds
 |_,_,.nil=>.nil
 |_,_,.cons h1 h2=>.cons (RdX.rd h1) (RdXs.rd h2)
end
inductive Ob where
 |o|p (d:Ab)|k (m:List (aG×Ab))|q (d:Ab) (m:List (aG×Ab))
inductive Wv where
 |d (x:Ab)|tp|dk (kvs:List (aG×Ab))|ln (ds:List Ab)|ob (o:Ob)
def Wv.lent:Wv->Bool
 |.dk _=>ai
 |.ln _=>ai
 |_=>aj
inductive SV where
 |w (x:Wv)|own (ds:List Ab)|odk (kvs:List (aG×Ab))|odt (kvs:List (List aG×Ab))
abbrev Sl:=List (Option SV)
def RdK(H:Hp)(B:Addr->Prop):List (aG×V)->List (aG×Ab)->Prop:=Paired λp q=>p.1=q.1/\RdX H B p.2 q.2
theorem RdK.move(k:∀b o,H b=ae o->¬B b->H' b=ae o/\¬B' b)(h:RdK H B l m):RdK H' B' l m:=
 Paired.mapP h λ_ _ z=>⟨z.1,z.2.move k⟩
def RdT(H:Hp)(B:Addr->Prop):List (List aG×V)->List (List aG×Ab)->Prop:=Paired λp q=>p.1=q.1/\RdX H B p.2 q.2
theorem RdT.move(k:∀b o,H b=ae o->¬B b->H' b=ae o/\¬B' b)(h:RdT H B l m):RdT H' B' l m:=
 Paired.mapP h λ_ _ z=>⟨z.1,z.2.move k⟩
def ORel(H:Hp)(B:Addr->Prop)(v:V):Ob->Prop
 |.o=>∃a,v=.ref a
 |.p d=>∃a x y,v=.ref a/\H a=ae (.tup [x,y])/\¬B a/\RdX H B x d
 |.k m=>∃a l,v=.ref a/\H a=ae (.dK l)/\¬B a/\RdK H B l m
 |.q d m=>∃a x b l,v=.ref a/\H a=ae (.tup [x,.ref b])/\¬B a/\RdX H B x d/\H b=ae (.dK l)/\¬B b/\RdK H B l m
theorem ORel.move(k:∀b o,H b=ae o->¬B b->H' b=ae o/\¬B' b)(h:ORel H B v o):ORel H' B' v o:=by
 cases o with
 |o=>exact h
 |p d=>
  obtain⟨a,x,y,e,h1,h2,h3⟩:=h;exact⟨a,x,y,e,(k _ _ h1 h2).1,(k _ _ h1 h2).2,h3.move k⟩
 |k m=>
  obtain⟨a,l,e,h1,h2,h3⟩:=h;exact⟨a,l,e,(k _ _ h1 h2).1,(k _ _ h1 h2).2,h3.move k⟩
 |q d m=>
  obtain⟨a,x,b,l,e,h1,h2,h3,h4,h5,h6⟩:=h;exact⟨a,x,b,l,e,(k _ _ h1 h2).1,(k _ _ h1 h2).2,h3.move k,(k _ _ h4 h5).1,(k _ _ h4 h5).2,h6.move k⟩
def WRel(H:Hp)(B:Addr->Prop)(t:Addr)(v:V):Wv->Prop
 |.d x=>RdX H B v x
 |.tp=>v=.ref t
 |.dk kvs=>∃a l,v=.ref a/\H a=ae (.dK l)/\a≠t/\RdK H B l kvs
 |.ln ds=>∃a xs,v=.ref a/\H a=ae (.lst xs)/\a≠t/\xs.length<=Ay/\RdXs H B xs ds
 |.ob o=>ORel H B v o
def SRel(H0:Hp)(H:Hp)(B:Addr->Prop)(t:Addr)(v:V):SV->Prop
 |.w x=>WRel H B t v x/\(x.lent=ai->∃a,v=.ref a/\H0 a≠ah)
 |.own ds=>∃a xs,v=.ref a/\H a=ae (.lst xs)/\B a/\H0 a=ah/\xs.length<=Ay/\RdXs H B xs ds
 |.odk kvs=>∃a l,v=.ref a/\H a=ae (.dK l)/\B a/\H0 a=ah/\l.length<=1000/\RdK H B l kvs
 |.odt kvs=>∃a l,v=.ref a/\H a=ae (.dT l)/\B a/\H0 a=ah/\l.length<=1000/\RdT H B l kvs
def SV.isOwn:SV->Bool
 |.w _=>aj
 |_=>ai
structure Ctx where
 t:Addr
 l:TL
 ns:List Int
 H0:Hp
 B0:Addr->Prop
 fz:Hp
structure Rel(C:Ctx)(H:Hp)(B:Addr->Prop)(σ:St)(δ:Sl)(n:Int):Prop where
 tp:Tp H C.t C.l C.ns n
 kp:Kp C.t C.H0 H
 t0:C.H0 C.t≠ah
 l0:C.H0 C.l.s≠ah
 g0:mU=ai->C.H0 C.l.g≠ah
 fz:∀b o,C.fz b=ae o->H b=ae o/\¬B b
 bt:B C.t
 b0:∀b,C.B0 b->B b
 ba:∀b,B b->H b≠ah
 a0:∀b,C.B0 b->C.H0 b≠ah
 sl:∀(i:Nat)(x:SV),δ[i]?=ae (ae x)->∃v,σ[i]?=ae (ae v)/\SRel C.H0 H B C.t v x
 ow:∀(i j:Nat)(x y:SV)(v:V),δ[i]?=ae (ae x)->δ[j]?=ae (ae y)->x.isOwn=ai->y.isOwn=ai->σ[i]?=ae (ae v)->σ[j]?=ae (ae v)->i=j
 len:σ.length=δ.length
theorem WRel.kp(k:Kp t H H')(ht:B t)(h:WRel H B t v x):WRel H' B t v x:=by
 cases x with
 |d x=>exact RdX.kp k ht h
 |tp=>exact h
 |dk kvs=>
  obtain⟨a,l,e,h1,h2,h3⟩:=h;exact⟨a,l,e,k _ _ h1 h2,h2,h3.move λb o e n=>⟨k b o e λz=>n (z▸ht),n⟩⟩
 |ln ds=>
  obtain⟨a,l,e,h1,h2,h3,h4⟩:=h;exact⟨a,l,e,k _ _ h1 h2,h2,h3,h4.kp k ht⟩
 |ob o=>exact ORel.move (λb o e n=>⟨k b o e λz=>n (z▸ht),n⟩) h
theorem WRel.less(k:∀b,B' b->B b)(h:WRel H B t v x):WRel H B' t v x:=by
 cases x with
 |d x=>exact RdX.less k h
 |tp=>exact h
 |dk kvs=>
  obtain⟨a,l,e,h1,h2,h3⟩:=h;exact⟨a,l,e,h1,h2,h3.move λb o e n=>⟨e,λz=>n (k b z)⟩⟩
 |ln ds=>
  obtain⟨a,l,e,h1,h2,h3,h4⟩:=h;exact⟨a,l,e,h1,h2,h3,h4.less k⟩
 |ob o=>exact ORel.move (λb o e n=>⟨e,λz=>n (k b z)⟩) h
theorem SRel.kp(k:Kp t H H')(ht:B t)(t0:H0 t≠ah)(h:SRel H0 H B t v x):SRel H0 H' B t v x:=by
 cases x with
 |w x=>exact⟨h.1.kp k ht,h.2⟩
 |own ds=>
  obtain⟨a,xs,e,h1,h2,h3,h4,h5⟩:=h;exact⟨a,xs,e,k _ _ h1 (λz=>t0 (z▸h3)),h2,h3,h4,h5.kp k ht⟩
 |odk kvs=>
  obtain⟨a,l,e,h1,h2,h3,h4,h5⟩:=h;exact⟨a,l,e,k _ _ h1 (λz=>t0 (z▸h3)),h2,h3,h4,h5.move λb o e n=>⟨k b o e λz=>n (z▸ht),n⟩⟩
 |odt kvs=>
  obtain⟨a,l,e,h1,h2,h3,h4,h5⟩:=h;exact⟨a,l,e,k _ _ h1 (λz=>t0 (z▸h3)),h2,h3,h4,h5.move λb o e n=>⟨k b o e λz=>n (z▸ht),n⟩⟩
theorem Rel.step(R:Rel C H B σ δ n)(T:Tp H' C.t C.l C.ns n')(k:Kp C.t H H'):Rel C H' B σ δ n' where
 tp:=T
 kp:=R.kp.trans k
 t0:=R.t0
 l0:=R.l0
 g0:=R.g0
 fz:=λb o e=>⟨k b o (R.fz b o e).1 λz=>(R.fz b o e).2 (z▸R.bt),(R.fz b o e).2⟩
 bt:=R.bt
 b0:=R.b0
 ba:=λb hb e=>by
  by_cases z:b=C.t
  ·subst z;obtain⟨x,y,h,_⟩:=T.ob;rw[h]at e;cases e
  ·cases q:H b with
   |none=>exact R.ba b hb q
   |some o=>rw[k b o q z]at e;cases e
 a0:=R.a0
 sl:=λi x e=>by
  obtain⟨v,h1,h2⟩:=R.sl i x e;exact⟨v,h1,h2.kp k R.bt R.t0⟩
 ow:=R.ow
 len:=R.len
theorem Rel.new(R:Rel C H B σ δ n)(h:H p=ah):Rel C (upd H p o) B σ δ n:=R.step (R.tp.new h) (Kp.new h)
theorem Rel.nb(R:Rel C H B σ δ n)(h:H p=ah):¬B p:=λz=>R.ba p z h
theorem gg{α:Type}{l:List (Option α)}{x y:α}(h:(l.set i (ae x))[j]?=ae (ae y)):(j=i/\y=x)\/(j≠i/\l[j]?=ae (ae y)):=by
 by_cases e:i=j
 ·subst e;rw[Gd]at h;cases q:l[i]? with
  |none=>rw[q]at h;cases h
  |some z=>
   rw[q]at h;exact .inl ⟨rfl,(Bc (Bc h)).symm⟩
 ·rw[Bw e]at h;exact .inr ⟨λz=>e z.symm,h⟩
theorem qM{α:Type}{l:List (Option α)}{x y:Option α}(h:(l.set i x)[i]?=ae y):i < l.length:=by
 have:=(Av.mp h).1;rwa [Cg]at this
theorem qo{α:Type}{l:List (Option α)}{x:α}(h:i < l.length):(l.set i (ae x))[i]?=ae (ae x):=by simp[h]
theorem kg{α:Type}{l:List (Option α)}{x:α}(h:j≠i):(l.set i (ae x))[j]?=l[j]?:=Bw (λz=>h z.symm)
theorem Rel.set(R:Rel C H B σ δ n)(h:WRel H B C.t v x)(hx:x.lent=aj):Rel C H B (σ.set i (ae v)) (δ.set i (ae (.w x))) n where
 tp:=R.tp
 kp:=R.kp
 t0:=R.t0
 l0:=R.l0
 g0:=R.g0
 fz:=R.fz
 bt:=R.bt
 b0:=R.b0
 ba:=R.ba
 a0:=R.a0
 sl:=λj y e=>by
  rcases gg e with⟨rfl,rfl⟩|⟨ne,e'⟩
  ·exact⟨v,qo (by rw[R.len];exact qM e),h,λz=>by rw[hx]at z;cases z⟩
  ·obtain⟨u,h1,h2⟩:=R.sl j y e';exact⟨u,by rw[kg ne];exact h1,h2⟩
 ow:=λj k y z u e1 e2 o1 o2 f1 f2=>by
  rcases gg e1 with⟨rfl,rfl⟩|⟨ne1,e1'⟩
  ·cases o1
  ·rcases gg e2 with⟨rfl,rfl⟩|⟨ne2,e2'⟩
   ·cases o2
   ·rw[kg ne1]at f1;rw[kg ne2]at f2;exact R.ow j k y z u e1' e2' o1 o2 f1 f2
 len:=by rw[Cg,Cg];exact R.len
theorem Rel.mut(R:Rel C H B σ δ n)(hb:B a)(h0:C.H0 a=ah)
  (ho:∀(i:Nat)(x:SV),δ[i]?=ae (ae x)->x.isOwn=ai->σ[i]?≠ae (ae (.ref a))):Rel C (upd H a o) B σ δ n where
 tp:=R.tp.other (λz=>R.t0 (z▸h0)) (λz=>R.l0 (z▸h0)) (λe z=>R.g0 e (z▸h0))
 kp:=λb o' e ne=>by
  rw[aM (bO e h0)];exact R.kp b o' e ne
 t0:=R.t0
 l0:=R.l0
 g0:=R.g0
 fz:=λb o' e=>⟨by rw[aM λ(z:b=a)=>(R.fz b o' e).2 (z▸hb)];exact(R.fz b o' e).1,(R.fz b o' e).2⟩
 bt:=R.bt
 b0:=R.b0
 ba:=λb hb' e=>by
  by_cases z:b=a
  ·rw[z,bu]at e;cases e
  ·rw[aM z]at e;exact R.ba b hb' e
 a0:=R.a0
 sl:=λi x e=>by
  obtain⟨v,h1,h2⟩:=R.sl i x e;have mv:∀b o',H b=ae o'->¬B b->upd H a o b=ae o'/\¬B b:=λb o' e n=>⟨by rw[aM λ(z:b=a)=>n (z▸hb)];exact e,n⟩;refine⟨v,h1,?_⟩;cases x with
  |w x=>
   refine⟨?_,h2.2⟩;cases x with
   |d x=>exact h2.1.move mv
   |tp=>exact h2.1
   |dk kvs=>
    obtain⟨a',l,e1,e2,e3,e4⟩:=h2.1;obtain⟨a'',f1,f2⟩:=h2.2 rfl;rw[e1]at f1;cases f1;exact⟨a',l,e1,by rw[aM λ(z:a'=a)=>f2 (z▸h0)];exact e2,e3,e4.move mv⟩
   |ln ds=>
    obtain⟨a',l,e1,e2,e3,e4,e5⟩:=h2.1;obtain⟨a'',f1,f2⟩:=h2.2 rfl;rw[e1]at f1;cases f1;exact⟨a',l,e1,by rw[aM λ(z:a'=a)=>f2 (z▸h0)];exact e2,e3,e4,e5.move mv⟩
   |ob o=>exact ORel.move mv h2.1
  |own ds=>
   obtain⟨a',xs,e1,e2,e3,e4,e5,e6⟩:=h2;have ne:a'≠a:=λz=>ho i _ e rfl (by rw[h1,e1,z]);exact⟨a',xs,e1,by rw[aM ne];exact e2,e3,e4,e5,e6.move mv⟩
  |odk kvs=>
   obtain⟨a',xs,e1,e2,e3,e4,e5,e6⟩:=h2;have ne:a'≠a:=λz=>ho i _ e rfl (by rw[h1,e1,z]);exact⟨a',xs,e1,by rw[aM ne];exact e2,e3,e4,e5,e6.move mv⟩
  |odt kvs=>
   obtain⟨a',xs,e1,e2,e3,e4,e5,e6⟩:=h2;have ne:a'≠a:=λz=>ho i _ e rfl (by rw[h1,e1,z]);exact⟨a',xs,e1,by rw[aM ne];exact e2,e3,e4,e5,e6.move mv⟩
 ow:=R.ow
 len:=R.len
theorem Rel.mutOwn(R:Rel C H B σ δ n)(hi:δ[i]?=ae (ae x))(hx:x.isOwn=ai)(hσ:σ[i]?=ae (ae (.ref a)))(hb:B a)(h0:C.H0 a=ah)
  (h:SRel C.H0 (upd H a o) B C.t (.ref a) x') (hx':x'.isOwn=ai):Rel C (upd H a o) B σ (δ.set i (ae x')) n:=by
 have R1:Rel C H B σ (δ.set i ah) n:={
  tp:=R.tp,kp:=R.kp,t0:=R.t0,l0:=R.l0,g0:=R.g0,fz:=R.fz,bt:=R.bt,b0:=R.b0,ba:=R.ba,a0:=R.a0
  sl:=λj y e=>by
   by_cases z:i=j
   ·subst z;rw[Gd]at e;rw[hi]at e;cases e
   ·rw[Bw z]at e;exact R.sl j y e
  ow:=λj k y z u e1 e2 o1 o2 f1 f2=>by
   have g:∀{m:Nat}{w:SV},(δ.set i ah)[m]?=ae (ae w)->δ[m]?=ae (ae w):=λ{m w} e=>by
    by_cases q:i=m
    ·subst q;rw[Gd,hi]at e;cases e
    ·rwa [Bw q]at e
   exact R.ow j k y z u (g e1) (g e2) o1 o2 f1 f2
  len:=by rw[Cg];exact R.len}
 have R2:Rel C (upd H a o) B σ (δ.set i ah) n:=R1.mut hb h0 λj y e oy f=>by
  by_cases z:i=j
  ·subst z;rw[Gd,hi]at e;cases e
  ·rw[Bw z]at e;exact z (R.ow i j x y _ hi e hx oy hσ f)
 have hlt:i < δ.length:=(Av.mp hi).1;exact{
  tp:=R2.tp,kp:=R2.kp,t0:=R2.t0,l0:=R2.l0,g0:=R2.g0,fz:=R2.fz,bt:=R2.bt,b0:=R2.b0,ba:=R2.ba,a0:=R2.a0
  sl:=λj y e=>by
   rcases gg e with⟨rfl,rfl⟩|⟨ne,e'⟩
   ·exact⟨_,hσ,h⟩
   ·exact R2.sl j y (by rw[Bw λz=>ne z.symm];exact e')
  ow:=λj k y z u e1 e2 o1 o2 f1 f2=>by
   rcases gg e1 with⟨rfl,rfl⟩|⟨ne1,e1'⟩
   ·rcases gg e2 with⟨rfl,rfl⟩|⟨ne2,e2'⟩
    ·rfl
    ·exact R.ow _ _ x z u hi e2' hx o2 f1 f2
   ·rcases gg e2 with⟨rfl,rfl⟩|⟨ne2,e2'⟩
    ·exact R.ow _ _ y x u e1' hi o1 hx f1 f2
    ·exact R.ow j k y z u e1' e2' o1 o2 f1 f2
  len:=by rw[Cg];exact R.len}
theorem Rel.own(R:Rel C H B σ δ n)(R':Rel C H' B σ δ n')(k:Kp C.t H H')(h0:H a=ah)(h1:H' a≠ah)(hx:x.isOwn=ai)
  (h:SRel C.H0 H' (λb=>B b\/b=a) C.t (.ref a) x):Rel C H' (λb=>B b\/b=a) (σ.set i (ae (.ref a))) (δ.set i (ae x)) n' where
 tp:=R'.tp
 kp:=R'.kp
 t0:=R'.t0
 l0:=R'.l0
 g0:=R'.g0
 fz:=λb o e=>⟨(R'.fz b o e).1,λz=>z.elim (R'.fz b o e).2 λq=>bO (R.fz b o e).1 h0 q⟩
 bt:=.inl R.bt
 b0:=λb z=>.inl (R.b0 b z)
 ba:=λb z=>z.elim (R'.ba b) λq=>q▸h1
 a0:=R.a0
 sl:=λj y e=>by
  have hta:C.t≠a:=λz=>by
   obtain⟨_,_,q,_⟩:=R.tp.ob;rw[z,h0]at q;cases q
  have mv:∀b o',H b=ae o'->¬B b->H' b=ae o'/\¬(B b\/b=a):=λb o' e n=>⟨k b o' e λz=>n (z▸R.bt),λz=>z.elim n λq=>bO e h0 q⟩;rcases gg e with⟨rfl,rfl⟩|⟨ne,e'⟩
  ·exact⟨_,qo (by rw[R.len];exact qM e),h⟩
  ·obtain⟨v,f1,f2⟩:=R.sl j y e';refine⟨v,by rw[kg ne];exact f1,?_⟩;cases y with
   |w y=>
    refine⟨?_,f2.2⟩;cases y with
    |d y=>exact f2.1.move mv
    |tp=>exact f2.1
    |dk kvs=>
     obtain⟨a',l,e1,e2,e3,e4⟩:=f2.1;exact⟨a',l,e1,k _ _ e2 e3,e3,e4.move mv⟩
    |ln ds=>
     obtain⟨a',l,e1,e2,e3,e4,e5⟩:=f2.1;exact⟨a',l,e1,k _ _ e2 e3,e3,e4,e5.move mv⟩
    |ob o=>exact ORel.move mv f2.1
   |own ds=>
    obtain⟨a',xs,e1,e2,e3,e4,e5,e6⟩:=f2;exact⟨a',xs,e1,k _ _ e2 (λz=>R.t0 (z▸e4)),.inl e3,e4,e5,e6.move mv⟩
   |odk kvs=>
    obtain⟨a',xs,e1,e2,e3,e4,e5,e6⟩:=f2;exact⟨a',xs,e1,k _ _ e2 (λz=>R.t0 (z▸e4)),.inl e3,e4,e5,e6.move mv⟩
   |odt kvs=>
    obtain⟨a',xs,e1,e2,e3,e4,e5,e6⟩:=f2;exact⟨a',xs,e1,k _ _ e2 (λz=>R.t0 (z▸e4)),.inl e3,e4,e5,e6.move mv⟩
 ow:=λj m y z u e1 e2 o1 o2 f1 f2=>by
  have out:∀{p:Nat}{w:SV},δ[p]?=ae (ae w)->w.isOwn=ai->σ[p]?=ae (ae (.ref a))->False:=λ{p w} e ow f=>by
   obtain⟨v,g1,g2⟩:=R.sl p w e;rw[f]at g1;cases g1;cases w with
   |w _=>cases ow
   |own ds=>
    obtain⟨a',xs,e1,e2,_⟩:=g2;cases e1;rw[h0]at e2;cases e2
   |odk ds=>
    obtain⟨a',xs,e1,e2,_⟩:=g2;cases e1;rw[h0]at e2;cases e2
   |odt ds=>
    obtain⟨a',xs,e1,e2,_⟩:=g2;cases e1;rw[h0]at e2;cases e2
  rcases gg e1 with⟨rfl,rfl⟩|⟨ne1,e1'⟩
  ·rcases gg e2 with⟨rfl,rfl⟩|⟨ne2,e2'⟩
   ·rfl
   ·rw[qo (by rw[R.len];exact qM e1)]at f1;rw[kg ne2]at f2;cases f1;exact(out e2' o2 f2).elim
  ·rcases gg e2 with⟨rfl,rfl⟩|⟨ne2,e2'⟩
   ·rw[qo (by rw[R.len];exact qM e2)]at f2;rw[kg ne1]at f1;cases f2;exact(out e1' o1 f1).elim
   ·rw[kg ne1]at f1;rw[kg ne2]at f2;exact R.ow j m y z u e1' e2' o1 o2 f1 f2
 len:=by rw[Cg,Cg];exact R.len
theorem Rel.give(R:Rel C H B σ δ n)(hi:δ[i]?=ae (ae x))(ox:x.isOwn=ai)(hv:σ[i]?=ae (ae (.ref a)))(e4:C.H0 a=ah)(hy:WRel H (λb=>B b/\b≠a) C.t (.ref a) y)(hl:y.lent=aj):Rel C H (λb=>B b/\b≠a) σ (δ.set i (ae (.w y))) n:=by
 have less:∀b,(B b/\b≠a)->B b:=λb z=>z.1;exact{
  tp:=R.tp,kp:=R.kp,t0:=R.t0,l0:=R.l0,g0:=R.g0
  fz:=λb o e=>⟨(R.fz b o e).1,λz=>(R.fz b o e).2 z.1⟩
  bt:=⟨R.bt,λz=>R.t0 (z▸e4)⟩
  b0:=λb z=>⟨R.b0 b z,λq=>R.a0 b z (q▸e4)⟩
  ba:=λb z=>R.ba b z.1
  a0:=R.a0
  sl:=λj y' e=>by
   rcases gg e with⟨rfl,rfl⟩|⟨ne,e'⟩
   ·exact⟨_,hv,hy,λz=>by rw[hl]at z;cases z⟩
   ·obtain⟨u,f1,f2⟩:=R.sl j y' e';refine⟨u,f1,?_⟩;cases y' with
    |w y=>exact⟨f2.1.less less,f2.2⟩
    |own ds'=>
     obtain⟨a',xs',g1,g2,g3,g4,g5,g6⟩:=f2;refine⟨a',xs',g1,g2,⟨g3,λz=>?_⟩,g4,g5,g6.less less⟩;exact ne (R.ow j i _ _ _ e' hi rfl ox f1 (by rw[hv,g1,z]))
    |odk ds'=>
     obtain⟨a',xs',g1,g2,g3,g4,g5,g6⟩:=f2;refine⟨a',xs',g1,g2,⟨g3,λz=>?_⟩,g4,g5,g6.move λb o e n=>⟨e,λz=>n z.1⟩⟩;exact ne (R.ow j i _ _ _ e' hi rfl ox f1 (by rw[hv,g1,z]))
    |odt ds'=>
     obtain⟨a',xs',g1,g2,g3,g4,g5,g6⟩:=f2;refine⟨a',xs',g1,g2,⟨g3,λz=>?_⟩,g4,g5,g6.move λb o e n=>⟨e,λz=>n z.1⟩⟩;exact ne (R.ow j i _ _ _ e' hi rfl ox f1 (by rw[hv,g1,z]))
  ow:=λj k y z u e1 e2 o1 o2 f1 f2=>by
   rcases gg e1 with⟨rfl,rfl⟩|⟨ne1,e1'⟩
   ·cases o1
   ·rcases gg e2 with⟨rfl,rfl⟩|⟨ne2,e2'⟩
    ·cases o2
    ·exact R.ow j k y z u e1' e2' o1 o2 f1 f2
  len:=by rw[Cg];exact R.len}
theorem Rel.frz{n:Int}{i:Nat}{ds:List Ab}(R:Rel C H B σ δ n)(hi:δ[i]?=ae (ae (.own ds))):∃B',Rel C H B' σ (δ.set i (ae (.w (.d (.list ds))))) n:=by
 obtain⟨v,hv,a,xs,rfl,e2,e3,e4,e5,e6⟩:=R.sl i _ hi;exact⟨_,R.give hi rfl hv e4 (show RdX H _ (.ref a) (.list ds)from .lst e2 (λz=>z.2 rfl) e5 (e6.less λb z=>z.1)) rfl⟩
theorem Rel.frzK(R:Rel C H B σ δ n)(hi:δ[i]?=ae (ae (.odk m))):∃B',Rel C H B' σ (δ.set i (ae (.w (.ob (.k m))))) n:=by
 obtain⟨v,hv,a,xs,rfl,e2,e3,e4,e5,e6⟩:=R.sl i _ hi;exact⟨_,R.give hi rfl hv e4 ⟨a,xs,rfl,e2,λz=>z.2 rfl,e6.move λb o e n=>⟨e,λz=>n z.1⟩⟩ rfl⟩
abbrev DQ:=Wv->Int->Prop
abbrev DT:=Sl->Int->DQ->Prop
abbrev cj:=Sl->Int->(Bool->Int->Prop)->Prop
abbrev dZ:=Sl->Int->(List Wv->Int->Prop)->Prop
inductive ARel(H:Hp)(B:Addr->Prop)(t:Addr):List V->List Wv->Prop
 |nil:ARel H B t [] []
 |cons {v:V} {vs:List V} {x:Wv} {xs:List Wv}:WRel H B t v x->ARel H B t vs xs->ARel H B t (v::vs) (x::xs)
theorem ARel.kp(k:Kp t H H')(ht:B t):∀{vs:List V}{xs:List Wv},ARel H B t vs xs->ARel H' B t vs xs
 |_,_,.nil=>.nil
 |_,_,.cons a b=>.cons (a.kp k ht) (ARel.kp k ht b)
theorem ARel.len:∀{vs:List V}{xs:List Wv},ARel H B t vs xs->vs.length=xs.length
 |_,_,.nil=>rfl
 |_,_,.cons _ b=>by rw[Ar,Ar,ARel.len b]
def ee(t:TE)(w:DT):Prop:=∀(C:Ctx)(H:Hp)(B:Addr->Prop)(σ:St)(δ:Sl)(n:Int)(Q:DQ)(Q':VK),Rel C H B σ δ n->w δ n Q->
 (∀v x H' n',Rel C H' B σ δ n'->Kp C.t H H'->WRel H' B C.t v x->Q x n'->Q' v H')->t σ H Q'
def jQ(t:TT)(w:cj):Prop:=∀(C:Ctx)(H:Hp)(B:Addr->Prop)(σ:St)(δ:Sl)(n:Int)(Q:Bool->Int->Prop)(Q':Bool->Hp->Prop),Rel C H B σ δ n->w δ n Q->
 (∀b H' n',Rel C H' B σ δ n'->Kp C.t H H'->Q b n'->Q' b H')->t σ H Q'
def gR(t:TA)(w:dZ):Prop:=∀(C:Ctx)(H:Hp)(B:Addr->Prop)(σ:St)(δ:Sl)(n:Int)(Q:List Wv->Int->Prop)(Q':List V->Hp->Prop),Rel C H B σ δ n->w δ n Q->
 (∀vs xs H' n',Rel C H' B σ δ n'->Kp C.t H H'->ARel H' B C.t vs xs->Q xs n'->Q' vs H')->t σ H Q'
abbrev fk:=Sl->Int->(List Ab->Int->Prop)->Prop
def jB(t:TE)(w:fk):Prop:=∀(C:Ctx)(H:Hp)(B:Addr->Prop)(σ:St)(δ:Sl)(n:Int)(Q:List Ab->Int->Prop)(Q':VK),Rel C H B σ δ n->w δ n Q->
 (∀a xs ds H' n',Rel C H' B σ δ n'->Kp C.t H H'->H a=ah->H' a=ae (.lst xs)->xs.length<=Ay->RdXs H' (λb=>B b\/b=a) xs ds->Q ds n'->Q' (.ref a) H')->t σ H Q'
structure DE(X:Cx)(e:Expr)(t:TE)(w:DT):Prop where
 pe:PE X e t
 sd:ee t w
structure DC(X:Cx)(e:Expr)(t:TT)(w:cj):Prop where
 pt:PT X e t
 sd:jQ t w
structure DCW(X:Cx)(e:Expr)(t:TT)(w:cj):Prop where
 pw:PW X e t
 sd:jQ t w
structure DA(X:Cx)(es:List Expr)(t:TA)(w:dZ):Prop where
 pa:PA X es t
 sd:gR t w
structure DF(X:Cx)(e:Expr)(t:TE)(w:fk):Prop where
 pe:PE X e t
 sd:jB t w
variable{X:Cx}{a b c e:Expr}{ta tb tc te:TE}{wa wb wc we:DT}{pos:Pos}
def ak(i:Nat):DT:=λδ n Q=>match δ[i]? with
 |some (ae (.w x))=>Q x n
 |_=>False
theorem iz(i){p:Pos}(hN:X.N[i]?=ae x:=by rfl)(hv:fH X.env.scope x:=by first|exact C7 rfl|exact Cc (C7 rfl)|exact Cc (Cc rfl))(hd:(x==("__debug__":Str))=aj:=by decide)
  (hcd:(x==("__classdict__":Str))=aj:=by decide):DE X (.Name x p) (cC i) (ak i):=⟨fJ hN hv hd hcd,λC H B σ δ n Q Q' R h k=>by
 unfold ak at h
 split at h
 ·rename_i x e;obtain⟨v,h1,h2⟩:=R.sl i _ e;exact⟨v,h1,k v x H n R (Kp.refl _ _) h2.1 h⟩
 ·exact h.elim⟩
def wC(d:Ab):DT:=λ_ n Q=>Q (.d d) n
theorem o7(h:∀H B,RdX H B v d):ee (tC v) (wC d):=λC H B σ δ n Q Q' R q k=>k v (.d d) H n R (Kp.refl _ _) (h H B) q
theorem vm{i j p}:DE X (.Constant (.int i) j p) (tC (.int i)) (wC (.int i)):=⟨cH,o7 λ_ _=>.int i⟩
theorem wg{i j p}:DE X (.Constant (.bool i) j p) (tC (.bl i)) (wC (.bool i)):=⟨Tf,o7 λ_ _=>.bl i⟩
theorem M1{j p}:DE X (.Constant .none j p) (tC .non) (wC .none):=⟨qK,o7 λ_ _=>.non⟩
theorem pV{x j p}(h:Str.length x<=Ay:=by decide +kernel):DE X (.Constant (.str x) j p) (tC (.str x)) (wC (.str x)):=⟨sk,o7 λ_ _=>.str x h⟩
theorem LY(hg:Gl X x)(hm:X.mg x=ae (.int i tk))(hd:(x==("__debug__":Str))=aj:=by decide):DE X (.Name x p) (tC (.int i)) (wC (.int i)):=⟨ju hg hm ⟨tk,rfl⟩ hd,o7 λ_ _=>.int i⟩
def w2(wa wb:DT)(g:Wv->Wv->Int->DQ->Prop):DT:=λδ n Q=>wa δ n λx n1=>wb δ n1 λy n2=>g x y n2 Q
def bw(r:R2)(g:Wv->Wv->Int->DQ->Prop):Prop:=∀(C:Ctx)(H:Hp)(B:Addr->Prop)(σ:St)(δ:Sl)(n:Int)(x y:V)(p q:Wv)(Q:DQ)(Q':VK),Rel C H B σ δ n->WRel H B C.t x p->WRel H B C.t y q->g p q n Q->
 (∀v x H' n',Rel C H' B σ δ n'->Kp C.t H H'->WRel H' B C.t v x->Q x n'->Q' v H')->r x y H Q'
theorem mM(hr:bw r g)(ha:ee ta wa)(hb:ee tb wb):ee (dF r ta tb) (w2 wa wb g):=λC H B σ δ n Q Q' R h k=>
 ha C H B σ δ n _ _ R h λv x H1 n1 R1 k1 r1 q1=>hb C H1 B σ δ n1 _ _ R1 q1 λu y H2 n2 R2 k2 r2 q2=>
  hr C H2 B σ δ n2 v u x y Q Q' R2 (r1.kp k2 R1.bt) r2 q2 λz p H3 n3 R3 k3 r3 q3=>k z p H3 n3 R3 ((k1.trans k2).trans k3) r3 q3
theorem h9(ho:OpR X (Eu op) r)(hr:bw r g)(ha:DE X a ta wa)(hb:DE X b tb wb):DE X (.BinOp a op b pos) (dF r ta tb) (w2 wa wb g):=
 ⟨d8 ho ha.pe hb.pe,mM hr ha.sd hb.sd⟩
theorem wZ(ho:OpR X (B3 op) r)(hr:bw r g)(ha:DE X a ta wa)(hb:DE X b tb wb)(hm:Cf op b=aj):DE X (.Compare a [op] [b] pos) (dF r ta tb) (w2 wa wb g):=
 ⟨Pe ho ha.pe hb.pe hm,mM hr ha.sd hb.sd⟩
def cT(w:DT):cj:=λδ n Q=>w δ n λx n'=>match x with
 |.d (.bool k)=>Q k n'
 |_=>False
theorem wd(h:RdX H B v d):WRel H B t v (.d d):=h
theorem kY(h:ee t w):jQ (jP t) (cT w):=λC H B σ δ n Q Q' R q k=>
 h C H B σ δ n _ _ R q λv x H' n' R' k' r' q'=>by
  split at q'
  ·rename_i b;cases(show RdX H' B v (.bool b)from r');exact⟨b,rfl,k b H' n' R' k' q'⟩
  ·exact q'.elim
theorem gL(ho:OpR X (B3 op) r)(hr:bw r g)(ha:DE X a ta wa)(hb:DE X b tb wb)(hm:Cf op b=aj):DC X (.Compare a [op] [b] pos) (jP (dF r ta tb)) (cT (w2 wa wb g)):=
 ⟨jE ho ha.pe hb.pe hm,kY (mM hr ha.sd hb.sd)⟩
theorem Rq(h:DE X e t w)(he:∀whole,isTrue e X.env whole=(do let v <-whole;standAt e.pos;holding [v] (truthy v)):=by intro _;rfl):DC X e (jP t) (cT w):=⟨oP h.pe he,kY h.sd⟩
def gP(x:Wv)(A B:Prop):Prop:=match x with
 |.d (.bool ai)=>A
 |.d (.bool aj)=>B
 |_=>False
theorem CU(b)(A B):gP (.d (.bool b)) A B=if b=ai then A else B:=by cases b<;>simp[gP]
def nU(g g':Wv->Wv->Int->DQ->Prop)(wa wb wc:DT):DT:=λδ n Q=>wa δ n λx n1=>wb δ n1 λy n2=>g x y n2 λz n3=>gP z (wc δ n3 λu n4=>g' y u n4 Q) (Q (.d (.bool aj)) n3)
theorem IH(hr:bw r g)(hr':bw r' g')(ha:ee ta wa)(hb:ee tb wb)(hc:ee tc wc):ee (t8 r r' ta tb tc) (nU g g' wa wb wc):=λC H B σ δ n Q Q' R h k=>
 ha C H B σ δ n _ _ R h λv x H1 n1 R1 k1 r1 q1=>hb C H1 B σ δ n1 _ _ R1 q1 λu y H2 n2 R2 k2 r2 q2=>
  hr C H2 B σ δ n2 v u x y _ _ R2 (r1.kp k2 R1.bt) r2 q2 λz p H3 n3 R3 k3 r3 q3=>by
   have k13:=(k1.trans k2).trans k3;unfold gP at q3
   split at q3
   ·cases(show RdX H3 B z (.bool ai)from r3);refine⟨ai,rfl,?_⟩;rw[if_pos rfl];exact hc C H3 B σ δ n3 _ _ R3 q3 λw0 x0 H4 n4 R4 k4 r4 q4=>hr' C H4 B σ δ n4 u w0 y x0 Q Q' R4 ((r2.kp k3 R2.bt).kp k4 R3.bt) r4 q4 λz p H5 n5 R5 k5 r5 q5=>k z p H5 n5 R5 ((k13.trans k4).trans k5) r5 q5
   ·cases(show RdX H3 B z (.bool aj)from r3);refine⟨aj,rfl,?_⟩;rw[if_neg Ag];exact k _ _ H3 n3 R3 k13 (wd (.bl aj)) q3
   ·exact q3.elim
theorem T6(ho:OpR X (B3 op) r)(hr:bw r g)(ho':OpR X (B3 op') r')(hr':bw r' g')(ha:DE X a ta wa)(hb:DE X b tb wb)(hc:DE X c tc wc)
  (hm:lastMarks [op,op'] [b,c]=aj:=by with_unfolding_all rfl):DE X (.Compare a [op,op'] [b,c] pos) (t8 r r' ta tb tc) (nU g g' wa wb wc):=⟨PB ho ho' ha.pe hb.pe hc.pe hm,IH hr hr' ha.sd hb.sd hc.sd⟩
variable{tA tB':TT}{cA cB:cj}{rest:List Expr}
def dU(u v:cj):cj:=λδ n Q=>u δ n λb n1=>if b=ai then v δ n1 Q else Q aj n1
def ia(u v:cj):cj:=λδ n Q=>u δ n λb n1=>if b=ai then Q ai n1 else v δ n1 Q
def dv(u:cj):cj:=λδ n Q=>u δ n λb n1=>Q (!b) n1
theorem cw_and1(h:DC X a tA cA):DCW X (.BoolOp .And [a] pos) tA cA:=⟨vI h.pt,h.sd⟩
theorem cw_or1(h:DC X a tA cA):DCW X (.BoolOp .Or [a] pos) tA cA:=⟨Kh h.pt,h.sd⟩
theorem cw_and(h:DC X a tA cA)(h2:DCW X (.BoolOp .And (b::rest) pos) tB' cB):DCW X (.BoolOp .And (a::b::rest) pos) (nN tA tB') (dU cA cB):=⟨qc h.pt h2.pw,λC H B σ δ n Q Q' R q k=>
 h.sd C H B σ δ n _ _ R q λb H1 n1 R1 k1 q1=>by
  cases b with
  |true=>
   rw[if_pos rfl]at q1 ⊢;exact h2.sd C H1 B σ δ n1 _ _ R1 q1 λb H2 n2 R2 k2 q2=>k b H2 n2 R2 (k1.trans k2) q2
  |false=>
   rw[if_neg Ag]at q1 ⊢;exact k aj H1 n1 R1 k1 q1⟩
theorem cw_or(h:DC X a tA cA)(h2:DCW X (.BoolOp .Or (b::rest) pos) tB' cB):DCW X (.BoolOp .Or (a::b::rest) pos) (xg tA tB') (ia cA cB):=⟨JI h.pt h2.pw,λC H B σ δ n Q Q' R q k=>
 h.sd C H B σ δ n _ _ R q λb H1 n1 R1 k1 q1=>by
  cases b with
  |true=>
   rw[if_pos rfl]at q1 ⊢;exact k ai H1 n1 R1 k1 q1
  |false=>
   rw[if_neg Ag]at q1 ⊢;exact h2.sd C H1 B σ δ n1 _ _ R1 q1 λb H2 n2 R2 k2 q2=>k b H2 n2 R2 (k1.trans k2) q2⟩
theorem DCW.cc(h:DCW X a tA cA):DC X a tA cA:=⟨h.pw.pt,h.sd⟩
theorem Oi(h:DC X a tA cA):DC X (.UnaryOp .Not a pos) (nQ tA) (dv cA):=⟨Ih h.pt,λC H B σ δ n Q Q' R q k=>h.sd C H B σ δ n _ _ R q λb H1 n1 R1 k1 q1=>k (!b) H1 n1 R1 k1 q1⟩
def fP(u v:DT):DT:=λδ n Q=>u δ n λx n1=>gP x (v δ n1 Q) (Q (.d (.bool aj)) n1)
def rj(u v:DT):DT:=λδ n Q=>u δ n λx n1=>gP x (Q (.d (.bool ai)) n1) (v δ n1 Q)
def nF(u:DT):DT:=λδ n Q=>u δ n λx n1=>match x with
 |.d (.bool b)=>Q (.d (.bool !b)) n1
 |_=>False
theorem Ro{op}(h:DE X a ta wa):DE X (.BoolOp op [a] pos) ta wa:=⟨Sg h.pe,h.sd⟩
theorem Tb(h:DE X a ta wa)(h2:DE X (.BoolOp .And (b::rest) pos) tb wb):DE X (.BoolOp .And (a::b::rest) pos) (zT ta tb) (fP wa wb):=⟨LK h.pe h2.pe,λC H B σ δ n Q Q' R q k=>
 h.sd C H B σ δ n _ _ R q λv x H1 n1 R1 k1 r1 q1=>by
  unfold gP at q1
  split at q1
  ·cases(show RdX H1 B v (.bool ai)from r1);refine⟨ai,rfl,?_⟩;rw[if_pos rfl];exact h2.sd C H1 B σ δ n1 _ _ R1 q1 λv x H2 n2 R2 k2 r2 q2=>k v x H2 n2 R2 (k1.trans k2) r2 q2
  ·cases(show RdX H1 B v (.bool aj)from r1);refine⟨aj,rfl,?_⟩;rw[if_neg Ag];exact k _ _ H1 n1 R1 k1 (wd (.bl aj)) q1
  ·exact q1.elim⟩
theorem uK(h:DE X a ta wa)(h2:DE X (.BoolOp .Or (b::rest) pos) tb wb):DE X (.BoolOp .Or (a::b::rest) pos) (og ta tb) (rj wa wb):=⟨K9 h.pe h2.pe,λC H B σ δ n Q Q' R q k=>
 h.sd C H B σ δ n _ _ R q λv x H1 n1 R1 k1 r1 q1=>by
  unfold gP at q1
  split at q1
  ·cases(show RdX H1 B v (.bool ai)from r1);refine⟨ai,rfl,?_⟩;rw[if_pos rfl];exact k _ _ H1 n1 R1 k1 (wd (.bl ai)) q1
  ·cases(show RdX H1 B v (.bool aj)from r1);refine⟨aj,rfl,?_⟩;rw[if_neg Ag];exact h2.sd C H1 B σ δ n1 _ _ R1 q1 λv x H2 n2 R2 k2 r2 q2=>k v x H2 n2 R2 (k1.trans k2) r2 q2
  ·exact q1.elim⟩
theorem P5(h:DE X a ta wa):DE X (.UnaryOp .Not a pos) (AR ta) (nF wa):=⟨RM h.pe,λC H B σ δ n Q Q' R q k=>
 h.sd C H B σ δ n _ _ R q λv x H1 n1 R1 k1 r1 q1=>by
  split at q1
  ·rename_i b;cases(show RdX H1 B v (.bool b)from r1);exact⟨b,rfl,k _ _ H1 n1 R1 k1 (wd (.bl _)) q1⟩
  ·exact q1.elim⟩
def fD(u:cj)(v w:DT):DT:=λδ n Q=>u δ n λb n1=>if b=ai then v δ n1 Q else w δ n1 Q
theorem OL(h:DC X c tA cA)(h1:DE X a ta wa)(h2:DE X b tb wb):DE X (.IfExp c a b pos) (yG tA ta tb) (fD cA wa wb):=⟨Qs h.pt h1.pe h2.pe,λC H B σ δ n Q Q' R q k=>
 h.sd C H B σ δ n _ _ R q λb H1 n1 R1 k1 q1=>by
  cases b with
  |true=>
   rw[if_pos rfl]at q1 ⊢;exact h1.sd C H1 B σ δ n1 _ _ R1 q1 λv x H2 n2 R2 k2 r2 q2=>k v x H2 n2 R2 (k1.trans k2) r2 q2
  |false=>
   rw[if_neg Ag]at q1 ⊢;exact h2.sd C H1 B σ δ n1 _ _ R1 q1 λv x H2 n2 R2 k2 r2 q2=>k v x H2 n2 R2 (k1.trans k2) r2 q2⟩
variable{es:List Expr}{tR:TA}{wR:dZ}
def ao:dZ:=λ_ n Q=>Q [] n
def aq(w:DT)(r:dZ):dZ:=λδ n Q=>w δ n λx n1=>r δ n1 λxs n2=>Q (x::xs) n2
theorem qV:DA X [] bS ao:=⟨dH,λC H B σ δ n Q Q' R q k=>k [] [] H n R (Kp.refl _ _) .nil q⟩
theorem jn(h:DE X e te we)(hr:DA X es tR wR)(hs:As (e::es) X.env=(aj,eval e X.env)::As es X.env:=by rfl):DA X (e::es) (dA te tR) (aq we wR):=⟨b9 h.pe hr.pa hs,λC H B σ δ n Q Q' R q k=>
 h.sd C H B σ δ n _ _ R q λv x H1 n1 R1 k1 r1 q1=>hr.sd C H1 B σ δ n1 _ _ R1 q1 λvs xs H2 n2 R2 k2 r2 q2=>k (v::vs) (x::xs) H2 n2 R2 (k1.trans k2) (.cons (r1.kp k2 R1.bt) r2) q2⟩
def iL:List Wv->Option (List Ab)
 |[]=>ae []
 |.d x::r=>(iL r).map (x::·)
 |_::_=>ah
theorem ARel.plain:∀{vs:List V}{xs:List Wv}{ds:List Ab},ARel H B t vs xs->iL xs=ae ds->RdXs H B vs ds
 |_,_,_,.nil,h=>by
  cases h;exact .nil
 |_,_,ds,.cons (x:=x) (xs:=xs) a b,h=>by
  cases x with
  |d x=>
   have h':(iL xs).map (x::·)=ae ds:=h;cases e:iL xs with
   |none=>rw[e]at h';cases h'
   |some es=>
    rw[e]at h';cases h';exact .cons a (ARel.plain b e)
  |tp=>cases h
  |dk _=>cases h
  |ln _=>cases h
  |ob _=>cases h
theorem RdXs.fresh(h:RdXs H B vs ds)(hp:H p=ah):RdXs (upd H p o) (λb=>B b\/b=p) vs ds:=
 h.move λb o' e n=>⟨by rw[aM (bO e hp)];exact e,λz=>z.elim n λq=>bO e hp q⟩
def aw(w:dZ):DT:=λδ n Q=>w δ n λxs n1=>match iL xs with
 |some ds=>ds.length<=1000/\Q (.d (.tuple ds)) n1
 |none=>False
theorem M4{x1}(h:DA X es tR wR):DE X (.Tuple es x1 pos) (iC tR) (aw wR):=⟨ur h.pa,λC H B σ δ n Q Q' R q k=>
 h.sd C H B σ δ n _ _ R q λvs xs H1 n1 R1 k1 r1 q1=>by
  split at q1
  ·rename_i ds e;have r:=r1.plain e;have hl:vs.length<=Ay:=by rw[r.len];exact small q1.1
   refine⟨hl,λp hp=>k _ _ _ n1 (R1.new hp) (k1.trans (Kp.new hp)) (wd (show RdX _ B (.ref p) (.tuple ds)from ?_)) q1.2⟩;exact .tup bu (R1.nb hp) hl ((r.fresh hp).less λb z=>.inl z)
  ·exact q1.elim⟩
def aO(w:dZ):fk:=λδ n Q=>w δ n λxs n1=>match iL xs with
 |some ds=>ds.length<=1000/\Q ds n1
 |none=>False
theorem Jb(h:DA X es tR wR):DF X (.List es pos) (pj tR) (aO wR):=⟨tF h.pa,λC H B σ δ n Q Q' R q k=>
 h.sd C H B σ δ n _ _ R q λvs xs H1 n1 R1 k1 r1 q1=>by
  split at q1
  ·rename_i ds e;have r:=r1.plain e;have hl:vs.length<=Ay:=by rw[r.len];exact small q1.1
   have hn:∀p,H1 p=ah->H p=ah:=λp hp=>by
    cases q:H p with
    |none=>rfl
    |some o=>
     by_cases z:p=C.t
     ·subst z;obtain⟨_,_,h,_⟩:=R1.tp.ob;rw[h]at hp;cases hp
     ·rw[k1 p o q z]at hp;cases hp
   exact⟨hl,λp hp=>k p vs ds _ n1 (R1.new hp) (k1.trans (Kp.new hp)) (hn p hp) bu hl (r.fresh hp) q1.2⟩
  ·exact q1.elim⟩
def br(w:fk):DT:=λδ n Q=>w δ n λds n1=>Q (.d (.list ds)) n1
theorem Sn(h:jB t w):ee t (br w):=λC H B σ δ n Q Q' R q k=>
 h C H B σ δ n _ _ R q λa xs ds H' n' R' k' h0 h1 h2 h3 q'=>k _ _ H' n' R' k' (wd (show RdX H' B (.ref a) (.list ds)from .lst h1 (R.nb h0) h2 (h3.less λb z=>.inl z))) q'
theorem DF.d(h:DF X e t w):DE X e t (br w):=⟨h.pe,Sn h.sd⟩
theorem Rel.was(R1:Rel C H1 B σ δ n1)(k1:Kp C.t H H1)(hp:H1 p=ah):H p=ah:=by
 cases q:H p with
 |none=>rfl
 |some o=>
  by_cases z:p=C.t
  ·subst z;obtain⟨_,_,h,_⟩:=R1.tp.ob;rw[h]at hp;cases hp
  ·rw[k1 p o q z]at hp;cases hp
abbrev bo:=List Wv->Int->DQ->Prop
def fB(S:bo):Sp:=λvs H Q _=>∃(t:Addr)(l:TL)(ns:List Int)(B:Addr->Prop)(ws:List Wv)(n:Int)(Q0:DQ),Tp H t l ns n/\B t/\(∀b,B b->H b≠ah)/\ARel H B t vs ws/\S ws n Q0 /\
 ∀w n',Q0 w n'->∀v H',Tp H' t l ns n'->Kp t H H'->WRel H' B t v w->Q v H'
section
variable{X:Cx}{e:Expr}{es:List Expr}{pos p:Pos}{tR:TA}{wR:dZ}
def aF(S:bo)(w:dZ):DT:=λδ n Q=>w δ n λxs n1=>S xs n1 Q
theorem MT(h:gR t w):ee (ji (fB S) [] E0 t) (aF S w):=λC H B σ δ n Q Q' R q k=>
 h C H B σ δ n _ _ R q λvs xs H1 n1 R1 k1 r1 q1=>by
  refine⟨C.t,C.l,C.ns,B,xs,n1,Q,R1.tp,R1.bt,R1.ba,by rw[Bv];exact r1,q1,λw n' q2 v H' T' k' r'=>?_⟩;exact k v w H' n' (R1.step T' k') (k1.trans k') r' q2
theorem Ug(F:FnOk X.prog X.w X.K X.mg X.base c9 k f fd ps (fB S))(hr:Room k X.A)(hg:Gl X x)(hm:X.mg x=ae (.ref f))(hk:B5 X.K (.ref f)=ai)(hb:Binds X.K fd ps [])
  (ha:DA X (e::es) tR wR) (hdb:(x==("__debug__":Str))=aj:=by decide) (he:As (e::es) X.env=(aj,eval e X.env)::As es X.env:=by rfl) (hpl:(Ct pos (As es X.env)).any (·.1)=aj:=by rfl):
  DE X (.Call (.Name x p) (e::es) [] pos) (ji (fB S) [] E0 tR) (aF S wR):=⟨wA F hr hg hm hk hb .nil wK ha.pa hdb he hpl,MT ha.sd⟩
def eZ(r:List V->Hp->VK->Prop)(g:List Wv->Int->DQ->Prop):Prop:=∀(C:Ctx)(H:Hp)(B:Addr->Prop)(σ:St)(δ:Sl)(n:Int)(vs:List V)(xs:List Wv)(Q:DQ)(Q':VK),Rel C H B σ δ n->ARel H B C.t vs xs->g xs n Q->
 (∀v x H' n',Rel C H' B σ δ n'->Kp C.t H H'->WRel H' B C.t v x->Q x n'->Q' v H')->r vs H Q'
def wB(g:List Wv->Int->DQ->Prop)(w:dZ):DT:=λδ n Q=>w δ n λxs n1=>g xs n1 Q
theorem DM(hr:eZ r g)(h:gR t w):ee (fC r t) (wB g w):=λC H B σ δ n Q Q' R q k=>
 h C H B σ δ n _ _ R q λvs xs H1 n1 R1 k1 r1 q1=>hr C H1 B σ δ n1 vs xs Q Q' R1 r1 q1 λv x H2 n2 R2 k2 r2 q2=>k v x H2 n2 R2 (k1.trans k2) r2 q2
theorem uG{id:String}(hc:CallR X (.builtin id) r)(hr:eZ r g)(hg:Gl X x)(hm:X.mg x=ah)(hv:By x=ae (.builtin id))(ha:DA X (e::es) tR wR)(hn:x≠"__name__":=by decide)(hdb:(x==("__debug__":Str))=aj:=by decide)
  (he:As (e::es) X.env=(aj,eval e X.env)::As es X.env:=by rfl) (hpl:(Ct pos (As es X.env)).any (·.1)=aj:=by rfl):DE X (.Call (.Name x p) (e::es) [] pos) (fC r tR) (wB g wR):=⟨jg hc hg hm hv ha.pa hn hdb he hpl,DM hr ha.sd⟩
theorem yP(hc:CallR X (.type T) r)(hr:eZ r g)(hg:Gl X x)(hm:X.mg x=ah)(hv:By x=ae (.type T))(ha:DA X (e::es) tR wR)(hn:x≠"__name__":=by decide)(hdb:(x==("__debug__":Str))=aj:=by decide)
  (he:As (e::es) X.env=(aj,eval e X.env)::As es X.env:=by rfl) (hpl:(Ct pos (As es X.env)).any (·.1)=aj:=by rfl):DE X (.Call (.Name x p) (e::es) [] pos) (fC r tR) (wB g wR):=⟨mK hc hg hm hv ha.pa hn hdb he hpl,DM hr ha.sd⟩
end
structure DEnds where
 nx:Sl->Int->Prop
 rt:DQ
 bk:Sl->Int->Prop:=λ_ _=>False
 ct:Sl->Int->Prop:=λ_ _=>False
 rn:List Ab->Int->Prop:=λ_ _=>False
abbrev aH:=Sl->Int->DEnds->Prop
structure EndsOk(C:Ctx)(K:DEnds)(D:Ends):Prop where
 nx:∀H B σ δ n,Rel C H B σ δ n->K.nx δ n->D.nx σ H
 rt:∀H B σ δ n v w,Rel C H B σ δ n->WRel H B C.t v w->K.rt w n->D.rt v H
 bk:∀H B σ δ n,Rel C H B σ δ n->K.bk δ n->D.bk σ H
 ct:∀H B σ δ n,Rel C H B σ δ n->K.ct δ n->D.ct σ H
 rn:∀H B σ δ n a xs ds,Rel C H B σ δ n->C.H0 a=ah->H a=ae (.lst xs)->xs.length<=Ay->RdXs H (λb=>B b\/b=a) xs ds->K.rn ds n->D.rt (.ref a) H
def iB(T:TS)(W:aH):Prop:=∀(C:Ctx)(H:Hp)(B:Addr->Prop)(σ:St)(δ:Sl)(n:Int)(K:DEnds)(D:Ends),Rel C H B σ δ n->W δ n K->EndsOk C K D->T D σ H
structure DS(X:Cx)(st:Stmt)(T:TS)(W:aH):Prop where
 ps:PS X st T
 sd:iB T W
structure DSs(X:Cx)(st:List Stmt)(T:TS)(W:aH):Prop where
 ps:PSs X st T
 sd:iB T W
section
variable{X:Cx}{st:Stmt}{rest:List Stmt}{T U:TS}{W V':aH}{e:Expr}{te:TE}{we:DT}{pos:Pos}
def aL:aH:=λδ n K=>K.nx δ n
def av(W V:aH):aH:=λδ n K=>W δ n {K with nx:=λδ n=>V δ n K}
theorem JN:DSs X [] yr aL:=⟨lY,λC H B σ δ n K D R h E=>E.nx H B σ δ n R h⟩
theorem sW(h:DS X st T W)(h2:DSs X rest U V'):DSs X (st::rest) (jI T U) (av W V'):=⟨gf h.ps h2.ps,λC H B σ δ n K D R q E=>
 h.sd C H B σ δ n _ _ R q ⟨λH B σ δ n R q=>h2.sd C H B σ δ n K D R q E,E.rt,E.bk,E.ct,E.rn⟩⟩
theorem zR(h:DS X st T W):DSs X [st] T W:=⟨fY h.ps,h.sd⟩
def aA(w:DT):aH:=λδ n K=>w δ n K.rt
theorem HS(h:DE X e te we):DS X (.Return (ae e) pos) (lR te) (aA we):=⟨me h.pe,λC H B σ δ n K D R q E=>
 h.sd C H B σ δ n _ _ R q λv x H' n' R' _ r' q'=>E.rt H' B σ δ n' v x R' r' q'⟩
def aJ(c:cj)(W V:aH):aH:=λδ n K=>c δ n λb n1=>if b=ai then W δ n1 K else V δ n1 K
theorem tG{a b:List Stmt}{tc:TT}(hc:DC X c tc cc)(ha:DSs X a T W)(hb:DSs X b U V'):DS X (.If c a b pos) (hZ tc T U) (aJ cc W V'):=⟨jo hc.pt ha.ps hb.ps,λC H B σ δ n K D R q E=>
 hc.sd C H B σ δ n _ _ R q λb H1 n1 R1 _ q1=>by
  cases b with
  |true=>
   rw[if_pos rfl]at q1 ⊢;exact ha.sd C H1 B σ δ n1 K D R1 q1 E
  |false=>
   rw[if_neg Ag]at q1 ⊢;exact hb.sd C H1 B σ δ n1 K D R1 q1 E⟩
def aB(i:Nat)(w:DT):aH:=λδ n K=>w δ n λx n1=>match x with
 |.d d=>K.nx (δ.set i (ae (.w (.d d)))) n1
 |.tp=>K.nx (δ.set i (ae (.w .tp))) n1
 |.dk _=>False
 |.ln _=>False
 |.ob o=>K.nx (δ.set i (ae (.w (.ob o)))) n1
theorem zP(hN:X.N.Nodup)(hi:X.N[i]?=ae x)(hx:jq X.env.scope x)(he:DE X e te we)(hs:Da e (ae (.Name x pos')) pos.line X.env=pure aj:=by rfl)(hf:X.fn x=ai\/X.env.scope.names.lookup x=ae .local:=by first|exact .inl rfl|exact .inr rfl|assumption):
  DS X (.Assign [.Name x pos'] e pos) (dh te (gm i)) (aB i we):=⟨gT hN hi hx he.pe hs hf,λC H B σ δ n K D R q E=>
 he.sd C H B σ δ n _ _ R q λv x H1 n1 R1 _ r1 q1=>by
  cases x with
  |d d=>exact E.nx _ _ _ _ _ (R1.set r1 rfl) q1
  |tp=>exact E.nx _ _ _ _ _ (R1.set r1 rfl) q1
  |dk _=>exact q1.elim
  |ln _=>exact q1.elim
  |ob o=>exact E.nx _ _ _ _ _ (R1.set r1 rfl) q1⟩
def bC(i:Nat)(w:fk):aH:=λδ n K=>w δ n λds n1=>K.nx (δ.set i (ae (.own ds))) n1
theorem Rel.h0{a:Addr}(R:Rel C H B σ δ n)(h:H a=ah):C.H0 a=ah:=R.was R.kp h
theorem Mp(hN:X.N.Nodup)(hi:X.N[i]?=ae x)(hx:jq X.env.scope x)(he:DF X e te w)(hs:Da e (ae (.Name x pos')) pos.line X.env=pure aj:=by rfl)(hf:X.fn x=ai\/X.env.scope.names.lookup x=ae .local:=by first|exact .inl rfl|exact .inr rfl|assumption):
  DS X (.Assign [.Name x pos'] e pos) (dh te (gm i)) (bC i w):=⟨gT hN hi hx he.pe hs hf,λC H B σ δ n K D R q E=>
 he.sd C H B σ δ n _ _ R q λa xs ds H1 n1 R1 k1 h0 h1 h2 h3 q1=>by
  refine E.nx _ _ _ _ _ (R.own R1 k1 h0 (by rw[h1];exact λz=>nomatch z) rfl ?_) q1;exact⟨a,xs,rfl,h1,.inr rfl,R.h0 h0,h2,h3⟩⟩
def bL(i:Nat)(W:aH):aH:=λδ n K=>match δ[i]? with
 |some (ae (.own ds))=>W (δ.set i (ae (.w (.d (.list ds))))) n K
 |some (ae (.odk m))=>W (δ.set i (ae (.w (.ob (.k m))))) n K
 |_=>W δ n K
theorem Ni(i)(h:DSs X sts T W):DSs X sts T (bL i W):=⟨h.ps,λC H B σ δ n K D R q E=>by
 unfold bL at q
 split at q
 ·rename_i ds e;obtain⟨B',R'⟩:=R.frz e;exact h.sd C H B' σ _ n K D R' q E
 ·rename_i m e;obtain⟨B',R'⟩:=R.frzK e;exact h.sd C H B' σ _ n K D R' q E
 ·exact h.sd C H B σ δ n K D R q E⟩
def a8(i:Nat)(w:DT):aH:=λδ n K=>match δ[i]? with
 |some (ae (.own ds))=>w δ n λx n1=>match x with
  |.d d=>ds.length < 1000000/\K.nx (δ.set i (ae (.own (ds++[d])))) n1
  |_=>False
 |_=>False
theorem zG(h:n < 1000000):n < Ay:=Nat.lt_trans h ∎
theorem P7{xp ap cp:Pos}(hN:X.N[i]?=ae x)(he:DE X e te we)(hv:fH X.env.scope x:=by first|exact C7 rfl|exact Cc (C7 rfl)|exact Cc (Cc rfl))(hd:(x==("__debug__":Str))=aj:=by decide)
  (hcd:(x==("__classdict__":Str))=aj:=by decide)
  (hbase:Gi (.Name x xp) "append" X.env (eval (.Name x xp) X.env)=eval (.Name x xp) X.env:=by rfl)
  (hfew:((Ct cp (As [e] X.env)).all (λx=>!x.1)&&(backToKw cp (keywordEach [] X.env)).all (λx=>x.1.isSome)
   && decide ([e].length+([]:List Keyword).length+(if ([]:List Keyword).isEmpty then 0 else 1) < 30))=ai:=by rfl)
  (hline:(ap.endLine==cp.line)=ai:=by rfl) (hs:As [e] X.env=[(aj,eval e X.env)]:=by rfl) (hplain:(Ct cp (As [] X.env)).any (·.1)=aj:=by rfl)
  (hsw:Da (.Call (.Attribute (.Name x xp) "append" ap) [e] [] cp) ah pos.line X.env=pure aj:=by rfl):
  DS X (.Expr (.Call (.Attribute (.Name x xp) "append" ap) [e] [] cp) pos) (j9 (tQ X.K "list" yN (cC i) (dA te bS))) (a8 i we):=
 ⟨qw (BO PySem.F.plainAttrs_list PySem.F.slot_list_append PySem.F.type_list_append v5 (fJ hN hv hd hcd) (b9 he.pe dH hs) hbase hfew hline hs hplain) hsw,λC H B σ δ n K D R q E=>by
  unfold a8 at q
  split at q
  ·rename_i ds ei;obtain⟨v,hv,a,xs,rfl,e2,e3,e4,e5,e6⟩:=R.sl i _ ei;refine⟨_,hv,.inl ⟨rfl,_,SqL.of e2⟩,he.sd C H B σ δ n _ _ R q λu y H1 n1 R1 k1 r1 q1=>?_⟩;cases y with
   |d d=>
    have hat:a≠C.t:=λz=>R.t0 (z▸e4);have e2':=k1 _ _ e2 hat;refine⟨a,xs,u,rfl,rfl,e2',zG (by rw[e6.len];exact q1.1),?_⟩;refine E.nx _ _ _ _ _ (R1.mutOwn ei rfl hv e3 e4 ?_ rfl) q1.2;refine⟨a,xs++[u],rfl,bu,e3,e4,?_,?_⟩
    ·rw[Ak,e6.len];exact zG q1.1
    ·refine RdXs.keep (λb o e n=>?_) ((e6.kp k1 R.bt).append (.cons r1 .nil));rw[aM λ(z:b=a)=>n (z▸e3)];exact e
   |tp=>exact q1.elim
   |dk _=>exact q1.elim
   |ln _=>exact q1.elim
   |ob _=>exact q1.elim
  ·exact q.elim⟩
end
def gH(N:List Str)(ws:List Wv):Sl:=ws.map (λx=>ae (.w x))++Bn (N.length-ws.length) ah
def bN(S:bo)(W:aH)(N:List Str):Prop:=∀ws n Q,S ws n Q->W (gH N ws) n {nx:=λ_ n=>Q (.d .none) n,rt:=Q}
theorem ARel.get:∀{vs:List V}{xs:List Wv}{i:Nat}{x:Wv},ARel H B t vs xs->xs[i]?=ae x->∃v,vs[i]?=ae v/\WRel H B t v x
 |_,_,_,_,.nil,e=>by simp at e
 |_,_,0,_,.cons h _,e=>by
  simp at e;subst e;exact⟨_,rfl,h⟩
 |_,_,i+1,x,.cons _ r,e=>by
  obtain⟨v,h1,h2⟩:=ARel.get (i:=i) (x:=x) r (by simpa using e);exact⟨v,by simpa using h1,h2⟩
theorem uB(T:Tp H t l ns n)(bt:B t)(ba:∀b,B b->H b≠ah)(r:ARel H B t vs ws):Rel ⟨t,l,ns,H,B,λ_=>ah⟩ H B (L2.start N vs) (gH N ws) n where
 tp:=T
 kp:=Kp.refl _ _
 t0:=by
  obtain⟨_,_,h,_⟩:=T.ob;show H t≠ah;rw[h];exact λz=>nomatch z
 l0:=by
  show H l.s≠ah;rw[T.ls];exact λz=>nomatch z
 g0:=λe=>by
  show H l.g≠ah;rw[T.ag e];exact λz=>nomatch z
 fz:=λb o e=>nomatch e
 bt:=bt
 b0:=λ_ z=>z
 ba:=ba
 a0:=ba
 sl:=λi x e=>by
  have hl:=r.len;unfold gH at e;rw[List.getElem?_append]at e
  split at e
  ·rename_i hi;rw[Ad]at hi;rw[Ax]at e;cases q:ws[i]? with
   |none=>rw[q]at e;cases e
   |some y=>
    rw[q]at e;cases e;obtain⟨v,h1,h2⟩:=r.get q;refine⟨v,?_,h2,λz=>?_⟩
    ·unfold L2.start;rw[C2 (by rw[Ad,hl];exact hi),Ax,h1];rfl
    ·cases y with
     |d _=>cases z
     |tp=>cases z
     |dk _=>
      obtain⟨a,l',f1,f2,_⟩:=h2;exact⟨a,f1,by show H a≠ah;rw[f2];exact λz=>nomatch z⟩
     |ln _=>
      obtain⟨a,l',f1,f2,_⟩:=h2;exact⟨a,f1,by show H a≠ah;rw[f2];exact λz=>nomatch z⟩
     |ob _=>cases z
  ·rw[Ew]at e
   split at e
   ·cases e
   ·cases e
 ow:=λi j x y v e1 e2 o1 o2 _ _=>by
  unfold gH at e1;rw[List.getElem?_append]at e1
  split at e1
  ·rw[Ax]at e1;cases q:ws[i]? with
   |none=>rw[q]at e1;cases e1
   |some y=>
    rw[q]at e1;cases e1;cases o1
  ·rw[Ew]at e1
   split at e1
   ·cases e1
   ·cases e1
 len:=by
  unfold L2.start gH;rw[Ak,Ak,Ad,Ad,List.length_replicate,List.length_replicate,r.len]
section
variable{P:A7}{w:Bk}{K:Ah}{mg:Str->Option Af}{base:Heap}
theorem Fun.okD(F:Fun K x qual st f fd)(Sc:FnScope N ps (cD st))(len:∀ws n Q,S ws n Q->ws.length=ps.length)
  (hbody:∀(cdv:Af)(A:Bu)(outer:List Env)(s:Ai)(H:Hp)(E:XK),Room k (A.deeper (Dv qual (cD st) s.heap.objs.size f cdv))->
   ∃T W,DSs (cO c9 P w K mg base N qual (cD st) f cdv A outer s H E).nox (fF st) T W/\∀ws n Q,S ws n Q->W (gH N ws) n {nx:=λ_ n=>Q (.d .none) n,rt:=Q}):FnOk P w K mg base c9 (k+1) f fd ps (fB S):=by
 refine F.ok Sc (λvs H Q E h=>?_) (λcdv A outer s H vs Q E hr h=>?_)
 ·obtain⟨t,l,ns,B,ws,n,Q0,_,_,_,r,q,_⟩:=h;rw[r.len];exact len ws n Q0 q
 ·obtain⟨t,l,ns,B,ws,n,Q0,T,bt,ba,r,q,kk⟩:=h;obtain⟨T',W,d,hw⟩:=hbody cdv A outer s H E hr;refine⟨T',d.ps,d.sd ⟨t,l,ns,H,B,λ_=>ah⟩ H B _ _ n _ _ (uB T bt ba r) (hw ws n Q0 q) ⟨?_,?_,?_,?_,λ_ _ _ _ _ _ _ _ _ _ _ _ _ z=>z.elim⟩⟩
  ·exact λH' B' σ δ n' R' q'=>kk _ _ q' .non H' R'.tp R'.kp (show RdX H' B .non .none from .non)
  ·exact λH' B' σ δ n' v x R' r' q'=>kk _ _ q' v H' R'.tp R'.kp (r'.less R'.b0)
  ·exact λ_ _ _ _ _ _ z=>z.elim
  ·exact λ_ _ _ _ _ _ z=>z.elim
end
section
variable{X:Cx}{a b c e:Expr}{ta tb tc te:TE}{wa wb wc we:DT}{pos p:Pos}
def gI(Cd:Int->Int->Prop)(f:Int->Int->Ab):Wv->Wv->Int->DQ->Prop:=λx y n Q=>match x,y with
 |.d (.int i),.d (.int j)=>Cd i j/\Q (.d (f i j)) n
 |_,_=>False
theorem AH(h:∀i j H B,RdX H B (g i j) (f i j)):bw (rI Cd g) (gI Cd f):=λC H B σ δ n x y p q Q Q' R rx ry h1 k=>by
 unfold gI at h1
 split at h1
 ·rename_i i j;cases(show RdX H B x (.int i)from rx);cases(show RdX H B y (.int j)from ry);exact⟨i,j,rfl,rfl,h1.1,k _ _ H n R (Kp.refl _ _) (wd (h i j H B)) h1.2⟩
 ·exact h1.elim
def cx(f:Int->Int->Ab):Wv->Wv->Int->DQ->Prop:=λx y n Q=>match x,y with
 |.d (.int i),.d (.int j)=>Q (.d (f i j)) n
 |_,_=>False
theorem zW(h:∀i j H B,RdX H B (g i j) (f i j)):bw (fW g) (cx f):=λC H B σ δ n x y p q Q Q' R rx ry h1 k=>by
 unfold cx at h1
 split at h1
 ·rename_i i j;cases(show RdX H B x (.int i)from rx);cases(show RdX H B y (.int j)from ry);exact⟨i,j,rfl,rfl,k _ _ H n R (Kp.refl _ _) (wd (h i j H B)) h1⟩
 ·exact h1.elim
theorem NW(ha:DE X a ta wa)(hb:DE X b tb wb):DE X (.BinOp a .Sub b pos) (dF (fW λi j=>.int (i-j)) ta tb) (w2 wa wb (cx λi j=>.int (i-j))):=h9 Qy (zW λ_ _ _ _=>.int _) ha hb
theorem RD(ha:DE X a ta wa)(hb:DE X b tb wb):DE X (.BinOp a .Pow b pos) (dF (rI i7 λi j=>.int (i ^ j.toNat)) ta tb) (w2 wa wb (gI i7 λi j=>.int (i ^ j.toNat))):=h9 AM (AH λ_ _ _ _=>.int _) ha hb
theorem O7(ha:DE X a ta wa)(hb:DE X b tb wb):DE X (.BinOp a .Mod b pos) (dF (rI (λ_ j=>0 < j) λi j=>.int (i % j)) ta tb) (w2 wa wb (gI (λ_ j=>0 < j) λi j=>.int (i % j))):=h9 jM (AH λ_ _ _ _=>.int _) ha hb
def cJ(w:DT):DT:=λδ n Q=>w δ n λx n1=>match x with
 |.d (.int i)=>Q (.d (.int (-i))) n1
 |_=>False
theorem SU(ha:DE X a ta wa):DE X (.UnaryOp .USub a pos) (CL (rU λi=>.int (-i)) ta) (cJ wa):=⟨Q7 IV ha.pe,λC H B σ δ n Q Q' R q k=>ha.sd C H B σ δ n _ _ R q λv x H1 n1 R1 k1 r1 q1=>by
 split at q1
 ·rename_i i;cases(show RdX H1 B v (.int i)from r1);exact⟨i,rfl,k _ _ H1 n1 R1 k1 (wd (.int _)) q1⟩
 ·exact q1.elim⟩
def kZ:Wv->Wv->Int->DQ->Prop:=λx y n Q=>match x,y with
 |.d (.int i),.d (.int j)=>Q (.d (.int (i+j))) n
 |.d (.str i),.d (.str j)=>i.length+j.length<=Ay/\Q (.d (.str (i++j))) n
 |.d (.tuple i),.d (.tuple j)=>(i≠[]\/j≠[])/\i.length+j.length<=Ay/\Q (.d (.tuple (i++j))) n
 |.d (.list i),.d (.list j)=>i.length+j.length<=Ay/\Q (.d (.list (i++j))) n
 |_,_=>False
def qp(K:Ah):R2:=λx y H Q=>(fW λi j=>.int (i+j)) x y H Q\/(∃i j,x=.str i/\y=.str j/\i.length+j.length<=Ay/\Q (.str (i++j)) H)\/FO K x y H Q\/AJ K x y H Q\/iY x y H Q
theorem op_addA:OpR X (Eu .Add) (qp X.K):=
 op_add.or (op_add_str.or (op_catA.or (op_catT.or uv)))
theorem LV(i j:Str):(i++j).length=i.length+j.length:=Array.size_append
theorem KA:bw (qp K) kZ:=λC H B σ δ n x y p q Q Q' R rx ry h1 k=>by
 unfold kZ at h1
 split at h1
 ·rename_i i j;cases(show RdX H B x (.int i)from rx);cases(show RdX H B y (.int j)from ry);exact .inl ⟨i,j,rfl,rfl,k _ _ H n R (Kp.refl _ _) (wd (.int _)) h1⟩
 ·rename_i i j;cases(show RdX H B x (.str i)from rx);cases(show RdX H B y (.str j)from ry);exact .inr (.inl ⟨i,j,rfl,rfl,h1.1,k _ _ H n R (Kp.refl _ _) (wd (show RdX H B _ (.str (i++j))from .str _ (by rw[LV];exact h1.1))) h1.2⟩)
 ·rename_i i j;cases(show RdX H B x (.tuple i)from rx)with
  |@tup ax xs _ e1 e2 e3 e4=>
   cases(show RdX H B y (.tuple j)from ry)with
   |@tup ay ys _ f1 f2 f3 f4=>
    obtain⟨ne,hl,q⟩:=h1;have hl':xs.length+ys.length<=Ay:=by rw[e4.len,f4.len];exact hl
    have new:∀pn,H pn=ah->Q' (.ref pn) (upd H pn (.tup (xs++ys))):=λpn hp=>by
     refine k _ _ _ n (R.new hp) (Kp.new hp) (wd (show RdX _ B _ (.tuple (i++j))from .tup bu (R.nb hp) (by rw[Ak];exact hl') ?_)) q;exact((e4.append f4).fresh hp).less λb z=>.inl z
    by_cases hy:ys=[]
    ·have hx:xs≠[]:=λz=>by
      subst hy z;cases e4;cases f4;exact ne.elim (λq=>q rfl) λq=>q rfl
     refine .inr (.inr (.inr (.inl ⟨ax,ay,xs,ys,rfl,rfl,SqT.of e1,SqT.of f1,hx,hl',λ_=>?_,λ_=>new⟩)));subst hy;cases f4;rw[Bv]at q;exact k _ _ H n R (Kp.refl _ _) (wd (show RdX H B _ (.tuple i)from .tup e1 e2 e3 e4)) q
    ·refine .inr (.inr (.inl ⟨ax,ay,xs,ys,rfl,rfl,SqT.of e1,SqT.of f1,hy,hl',λz=>?_,λ_=>new⟩));subst z;cases e4;exact k _ _ H n R (Kp.refl _ _) (wd (show RdX H B _ (.tuple j)from .tup f1 f2 f3 f4)) q
 ·rename_i i j;cases(show RdX H B x (.list i)from rx)with
  |@lst ax xs _ e1 e2 e3 e4=>
   cases(show RdX H B y (.list j)from ry)with
   |@lst ay ys _ f1 f2 f3 f4=>
    obtain⟨hl,q⟩:=h1;have hl':xs.length+ys.length<=Ay:=by rw[e4.len,f4.len];exact hl
    refine .inr (.inr (.inr (.inr ⟨ax,ay,xs,ys,rfl,rfl,e1,f1,hl',λpn hp=>?_⟩)));refine k _ _ _ n (R.new hp) (Kp.new hp) (wd (show RdX _ B _ (.list (i++j))from .lst bu (R.nb hp) (by rw[Ak];exact hl') ?_)) q;exact((e4.append f4).fresh hp).less λb z=>.inl z
 ·exact h1.elim
def iX(f:Int->Int->Bool)(h:List Nat->List Nat->Bool):Wv->Wv->Int->DQ->Prop:=λx y n Q=>match x,y with
 |.d (.int i),.d (.int j)=>Q (.d (.bool (f i j))) n
 |.d (.str i),.d (.str j)=>Q (.d (.bool (h i.cps.toList j.cps.toList))) n
 |_,_=>False
theorem wN:bw (λx y H Q=>(fW λi j=>.bl (f i j)) x y H Q\/∃i j,x=.str i/\y=.str j/\Q (.bl (h i.cps.toList j.cps.toList)) H) (iX f h):=λC H B σ δ n x y p q Q Q' R rx ry h1 k=>by
 unfold iX at h1
 split at h1
 ·rename_i i j;cases(show RdX H B x (.int i)from rx);cases(show RdX H B y (.int j)from ry);exact .inl ⟨i,j,rfl,rfl,k _ _ H n R (Kp.refl _ _) (wd (.bl _)) h1⟩
 ·rename_i i j;cases(show RdX H B x (.str i)from rx);cases(show RdX H B y (.str j)from ry);exact .inr ⟨i,j,rfl,rfl,k _ _ H n R (Kp.refl _ _) (wd (.bl _)) h1⟩
 ·exact h1.elim
abbrev ir:=iX (λi j=>decide (i < j)) (λi j=>decide (i < j))
abbrev jG:=iX (λi j=>decide (i<=j)) (λi j=>!decide (j < i))
abbrev mq:=iX (λi j=>decide (j < i)) (λi j=>decide (j < i))
def oR:R2:=λx y H Q=>(fW λi j=>.bl (decide (i < j))) x y H Q\/∃i j,x=.str i/\y=.str j/\Q (.bl (decide (i.cps.toList < j.cps.toList))) H
theorem JO:OpR X (B3 .Lt) oR:=op_lt.or KL
def nt:R2:=λx y H Q=>(fW λi j=>.bl (decide (i<=j))) x y H Q\/∃i j,x=.str i/\y=.str j/\Q (.bl (!decide (j.cps.toList < i.cps.toList))) H
theorem Hv:OpR X (B3 .LtE) nt:=op_le.or TF
def oO:R2:=λx y H Q=>(fW λi j=>.bl (decide (j < i))) x y H Q\/∃i j,x=.str i/\y=.str j/\Q (.bl (decide (j.cps.toList < i.cps.toList))) H
theorem Qa:OpR X (B3 .Gt) oO:=op_gt.or RN
theorem T7:bw oR ir:=wN (f:=λi j=>decide (i < j)) (h:=λi j=>decide (i < j))
theorem BD:bw nt jG:=wN (f:=λi j=>decide (i<=j)) (h:=λi j=>!decide (j < i))
theorem KQ:bw oO mq:=wN (f:=λi j=>decide (j < i)) (h:=λi j=>decide (j < i))
def iS:Ab->Ab->Option Bool
 |.none,.none=>ae ai
 |.none,.int _=>ae aj
 |.int _,.none=>ae aj
 |.none,.bool _=>ae aj
 |.bool _,.none=>ae aj
 |.none,.str _=>ae aj
 |.str _,.none=>ae aj
 |.int i,.int j=>ae (decide (i=j))
 |.bool i,.bool j=>ae (decide (i=j))
 |.str i,.str j=>ae (decide (i=j))
 |.int _,.str _=>ae aj
 |.str _,.int _=>ae aj
 |.bool _,.str _=>ae aj
 |.str _,.bool _=>ae aj
 |.list _,.str _=>ae aj
 |.tuple _,.str _=>ae aj
 |.dict _,.str _=>ae aj
 |.list xs,.list []=>ae xs.isEmpty
 |_,_=>ah
def pH:R2:=λx y H Q=>∃d h B,RdX H B x d/\y=.str h/\Q (.bl (bq h d)) H
theorem vT(x y):decide (V.str x=V.str y)=decide (x=y):=by
 by_cases z:x=y
 ·rw[z,decide_eq_true rfl,decide_eq_true rfl]
 ·rw[decide_eq_false z,decide_eq_false λw=>z (V.str.inj w)]
theorem HH(x y):decide (V.int x=V.int y)=decide (x=y):=by
 by_cases z:x=y
 ·rw[z,decide_eq_true rfl,decide_eq_true rfl]
 ·rw[decide_eq_false z,decide_eq_false λw=>z (V.int.inj w)]
theorem GN(x y):decide (V.bl x=V.bl y)=decide (x=y):=by
 by_cases z:x=y
 ·rw[z,decide_eq_true rfl,decide_eq_true rfl]
 ·rw[decide_eq_false z,decide_eq_false λw=>z (V.bl.inj w)]
theorem Jp(hu:X.A.units < Gr):OpR X (B3 .Eq) pH:=by
 intro pins s σ H x y v u Q I rx ry h;obtain⟨d,hh,B,hd,rfl,q⟩:=h;cases hd with
 |non=>exact op_eq pins s σ H _ _ v u Q I rx ry ⟨rfl,q⟩
 |bl b=>exact op_eq pins s σ H _ _ v u Q I rx ry ⟨rfl,q⟩
 |int i=>exact op_eq pins s σ H _ _ v u Q I rx ry ⟨rfl,q⟩
 |str x hx=>
  refine op_eq pins s σ H _ _ v u Q I rx ry ⟨rfl,?_⟩;rw[vT];exact q
 |@lst a xs ds h1 h2 h3 h4=>
  cases(show v=A3 a from rx);obtain⟨t,rfl⟩:=(show ∃t,u=F8 hh t from ry);obtain⟨its,_,p,_⟩:=I.list (SqL.of (K:=X.K) h1);exact PySem.SeqAt.RcAt.list_str hh t p.isList hu _ _ _ _ ⟨.bl aj,H,I,rfl,q⟩
 |@tup a xs ds h1 h2 h3 h4=>
  cases(show v=A3 a from rx);obtain⟨t,rfl⟩:=(show ∃t,u=F8 hh t from ry);obtain⟨its,_,p,_⟩:=I.tuple (SqT.of (K:=X.K) h1);exact PySem.SeqAt.RcAt.tuple_str hh t (show s.heap.IsTuple a its.toArray from p) hu _ _ _ _ ⟨.bl aj,H,I,rfl,q⟩
def aT:Wv->Wv->Int->DQ->Prop:=λx y n Q=>match x,y with
 |.d a,.d b=>match iS a b with
  |some r=>Q (.d (.bool r)) n
  |none=>False
 |_,_=>False
theorem NJ(hu:X.A.units < Gr):OpR X (B3 .Eq) (λx y H Q=>pL x y H Q\/pH x y H Q\/qS X.K x y H Q):=op_eq.or ((Jp hu).or (QH hu))
theorem IT:bw (λx y H Q=>pL x y H Q\/pH x y H Q\/qS K x y H Q) aT:=λC H B σ δ n x y p q Q Q' R rx ry h1 k=>by
 unfold aT at h1
 split at h1
 ·rename_i da db;have rx:RdX H B x da:=rx;have ry:RdX H B y db:=ry;have fin:∀r:Bool,Q (.d (.bool r)) n->Q' (.bl r) H:=λr q=>k _ _ H n R (Kp.refl _ _) (wd (.bl r)) q
  split at h1
  ·rename_i r er;have h1:=fin r h1;cases rx with
   |non=>cases ry<;>first|(cases er;done)|(cases er;exact .inl ⟨rfl,h1⟩)
   |bl i=>cases ry<;>first|(cases er;done)|(cases er;exact .inl ⟨rfl,by first|exact h1|(rw[GN];exact h1)⟩)
   |int i=>cases ry<;>first|(cases er;done)|(cases er;exact .inl ⟨rfl,by first|exact h1|(rw[HH];exact h1)⟩)
   |str i hi=>cases ry<;>first|(cases er;done)|(cases er;exact .inl ⟨rfl,by first|exact h1|(rw[vT];exact h1)⟩)
   |@lst ax xs ds e1 e2 e3 e4=>
    cases ry with
    |str j hj=>cases er;exact .inr (.inl ⟨_,j,B,.lst e1 e2 e3 e4,rfl,h1⟩)
    |@lst ay ys es f1 f2 f3 f4=>
     cases f4 with
     |nil=>
      have er:ae ds.isEmpty=ae r:=er;cases er;refine .inr (.inr ⟨ax,ay,xs,rfl,rfl,SqL.of e1,SqL.of f1,?_⟩);have:xs.isEmpty=ds.isEmpty:=by cases e4<;>rfl
      rw[this];exact h1
     |cons _ _=>cases er
    |_=>cases er
   |@tup ax xs ds e1 e2 e3 e4=>
    cases ry with
    |str j hj=>cases er;exact .inr (.inl ⟨_,j,B,.tup e1 e2 e3 e4,rfl,h1⟩)
    |_=>cases er
  ·exact h1.elim
 ·exact h1.elim
def O8(a b:Ab):Option Bool:=match a,b with
 |.list _,_=>ah
 |.tuple _,_=>ah
 |a,b=>(iS a b).map not
def eu:Wv->Wv->Int->DQ->Prop:=λx y n Q=>match x,y with
 |.d a,.d b=>match O8 a b with
  |some r=>Q (.d (.bool r)) n
  |none=>False
 |_,_=>False
theorem Ri:bw xP eu:=λC H B σ δ n x y p q Q Q' R rx ry h1 k=>by
 unfold eu at h1
 split at h1
 ·rename_i da db;have rx:RdX H B x da:=rx;have ry:RdX H B y db:=ry;have fin:∀r:Bool,Q (.d (.bool r)) n->Q' (.bl r) H:=λr q=>k _ _ H n R (Kp.refl _ _) (wd (.bl r)) q
  split at h1
  ·rename_i r er;have h1:=fin r h1;cases rx with
   |non=>cases ry<;>first|(cases er;done)|(cases er;exact⟨rfl,h1⟩)
   |bl i=>cases ry<;>first|(cases er;done)|(cases er;exact⟨rfl,by first|exact h1|(rw[GN];exact h1)⟩)
   |int i=>cases ry<;>first|(cases er;done)|(cases er;exact⟨rfl,by first|exact h1|(rw[HH];exact h1)⟩)
   |str i hi=>cases ry<;>first|(cases er;done)|(cases er;exact⟨rfl,by first|exact h1|(rw[vT];exact h1)⟩)
   |lst _ _ _ _=>cases er
   |tup _ _ _ _=>cases er
  ·exact h1.elim
 ·exact h1.elim
def iu:Ab->Bool
 |.none=>ai
 |_=>aj
def cm(neg:Bool):Wv->Wv->Int->DQ->Prop:=λx y n Q=>match x,y with
 |.d a,.d .none=>Q (.d (.bool (if neg then !iu a else iu a))) n
 |_,_=>False
theorem zt(h:RdX H B v d):decide (v=.non)=iu d:=by cases h<;>rfl
theorem yj:bw (λx y H Q=>y=.non/\Q (.bl (decide (x=.non))) H) (cm aj):=λC H B σ δ n x y p q Q Q' R rx ry h1 k=>by
 unfold cm at h1
 split at h1
 ·rename_i da;cases(show RdX H B y .none from ry);exact⟨rfl,k _ _ H n R (Kp.refl _ _) (wd (show RdX H B _ (.bool (iu da))from by rw[zt rx];exact .bl _)) h1⟩
 ·exact h1.elim
theorem xQ:bw (λx y H Q=>y=.non/\Q (.bl (!decide (x=.non))) H) (cm ai):=λC H B σ δ n x y p q Q Q' R rx ry h1 k=>by
 unfold cm at h1
 split at h1
 ·rename_i da;cases(show RdX H B y .none from ry);exact⟨rfl,k _ _ H n R (Kp.refl _ _) (wd (show RdX H B _ (.bool (!iu da))from by rw[zt rx];exact .bl _)) h1⟩
 ·exact h1.elim
def eI:Ab->Bool
 |.none=>ai
 |.bool _=>ai
 |.int _=>ai
 |.str _=>ai
 |_=>aj
def qC:Ab->Ab->Bool
 |.none,.none=>ai
 |.bool a,.bool b=>a==b
 |.bool a,.int b=>(if a then 1 else 0)==b
 |.int a,.bool b=>a==(if b then 1 else 0)
 |.int a,.int b=>a==b
 |.str a,.str b=>a==b
 |_,_=>aj
def bI(x:Ab)(ds:List Ab):Bool:=ds.any λy=>qC y x
theorem kr(h:RdX H B v d)(f:eI d=ai):ic v=ai:=by cases h<;>first|rfl|cases f
theorem ka:∀{vs:List V}{ds:List Ab},RdXs H B vs ds->ds.all eI=ai->vs.all ic=ai
 |_,_,.nil,_=>rfl
 |_,_,.cons h r,f=>by
  rw[List.all_cons,Du]at f ⊢;exact⟨kr h f.1,ka r f.2⟩
theorem Ry{d e:Ab}(h:RdX H B v d)(h2:RdX H B u e):iK v u=qC d e:=by cases h<;>cases h2<;>rfl
theorem lI(h:RdX H B v d):∀{vs:List V}{ds:List Ab},RdXs H B vs ds->ql v vs=bI d ds
 |_,_,.nil=>rfl
 |_,_,.cons h1 r=>by
  have:=lI h r;unfold ql bI at this ⊢;rw[C6,C6,this,Ry h1 h]
def fZ(neg:Bool):Wv->Wv->Int->DQ->Prop:=λx y n Q=>match x,y with
 |.d a,.d (.tuple ds)=>eI a=ai/\ds.all eI=ai/\Q (.d (.bool (if neg then !bI a ds else bI a ds))) n
 |.d a,.d (.list ds)=>eI a=ai/\ds.all eI=ai/\Q (.d (.bool (if neg then !bI a ds else bI a ds))) n
 |_,_=>False
theorem lF:bw (il K neg) (fZ neg):=λC H B σ δ n x y p q Q Q' R rx ry h1 k=>by
 unfold fZ at h1
 split at h1
 ·rename_i da ds;obtain⟨f1,f2,q⟩:=h1;have rx:RdX H B x da:=rx;cases(show RdX H B y (.tuple ds)from ry)with
  |@tup ay ys _ e1 e2 e3 e4=>
   refine⟨ay,ys,rfl,.inr (SqT.of e1),kr rx f1,ka e4 f2,?_⟩;rw[lI rx e4];exact k _ _ H n R (Kp.refl _ _) (wd (.bl _)) q
 ·rename_i da ds;obtain⟨f1,f2,q⟩:=h1;have rx:RdX H B x da:=rx;cases(show RdX H B y (.list ds)from ry)with
  |@lst ay ys _ e1 e2 e3 e4=>
   refine⟨ay,ys,rfl,.inl (SqL.of e1),kr rx f1,ka e4 f2,?_⟩;rw[lI rx e4];exact k _ _ H n R (Kp.refl _ _) (wd (.bl _)) q
 ·exact h1.elim
def az:Wv->Wv->Int->DQ->Prop:=λx y n Q=>match x,y with
 |.d (.list ds),.d (.int i)=>match c7 ds i with
  |some d=>Q (.d d) n
  |none=>False
 |.d (.tuple ds),.d (.int i)=>match c7 ds i with
  |some d=>Q (.d d) n
  |none=>False
 |.d (.str z),.d (.int i)=>match c7 z.cps.toList i with
  |some c=>Q (.d (.str ⟨#[c]⟩)) n
  |none=>False
 |_,_=>False
theorem uW(r:RdXs H B vs ds)(h:c7 ds i=ae d):∃v,c7 vs i=ae v/\RdX H B v d:=by
 unfold c7 at h ⊢;rw[r.len];cases e:iI ds.length i with
 |none=>rw[e]at h;cases h
 |some j=>
  rw[e]at h;exact r.getD h
theorem l4:bw (jz K) az:=λC H B σ δ n x y p q Q Q' R rx ry h1 k=>by
 unfold az at h1
 split at h1
 ·rename_i ds i
  split at h1
  ·rename_i d e;cases(show RdX H B y (.int i)from ry);cases(show RdX H B x (.list ds)from rx)with
   |@lst ay ys _ e1 e2 e3 e4=>
    obtain⟨v,f1,f2⟩:=uW e4 e;exact .inl ⟨ay,ys,i,v,rfl,rfl,SqL.of e1,f1,k _ _ H n R (Kp.refl _ _) (wd f2) h1⟩
  ·exact h1.elim
 ·rename_i ds i
  split at h1
  ·rename_i d e;cases(show RdX H B y (.int i)from ry);cases(show RdX H B x (.tuple ds)from rx)with
   |@tup ay ys _ e1 e2 e3 e4=>
    obtain⟨v,f1,f2⟩:=uW e4 e;exact .inr (.inl ⟨ay,ys,i,v,rfl,rfl,SqT.of e1,f1,k _ _ H n R (Kp.refl _ _) (wd f2) h1⟩)
  ·exact h1.elim
 ·rename_i z i
  split at h1
  ·rename_i c e;cases(show RdX H B y (.int i)from ry);cases(show RdX H B x (.str z)from rx)with
   |str _ hz=>exact .inr (.inr ⟨z,i,c,rfl,rfl,hz,e,k _ _ H n R (Kp.refl _ _) (wd (show RdX H B _ (.str ⟨#[c]⟩)from .str _ (by show 1<=Ay;decide))) h1⟩)
  ·exact h1.elim
 ·exact h1.elim
theorem tD(ha:DE X a ta wa)(hb:DE X b tb wb)(hs:mG b:=by exact λ_ _=>rfl):DE X (.Subscript a b pos) (dF (jz X.K) ta tb) (w2 wa wb az):=⟨gD qY ha.pe hb.pe hs,mM l4 ha.sd hb.sd⟩
def bF:List Wv->Int->DQ->Prop:=λxs n Q=>match xs with
 |[.d (.str x)]=>Q (.d (.int x.length)) n
 |[.d (.list ds)]=>Q (.d (.int ds.length)) n
 |[.d (.tuple ds)]=>Q (.d (.int ds.length)) n
 |_=>False
theorem M3:CallR X (.builtin "len") (λxs H Q=>(∃z,xs=[.str z]/\z.length<=Ay/\Q (.int z.length) H)\/∃p ys,xs=[.ref p]/\(SqL X.K H p ys\/SqT X.K H p ys)/\Q (.int ys.length) H):=call_len_str.or qG
theorem RA:eZ (λxs H Q=>(∃z,xs=[.str z]/\z.length<=Ay/\Q (.int z.length) H)\/∃p ys,xs=[.ref p]/\(SqL K H p ys\/SqT K H p ys)/\Q (.int ys.length) H) bF:=λC H B σ δ n vs xs Q Q' R r h k=>by
 unfold bF at h
 split at h
 ·rename_i x;cases r with
  |cons r1 r2=>
   cases r2;cases(show RdX H B _ (.str x)from r1)with
   |str _ hz=>exact .inl ⟨x,rfl,hz,k _ _ H n R (Kp.refl _ _) (wd (.int _)) h⟩
 ·rename_i ds;cases r with
  |cons r1 r2=>
   cases r2;cases(show RdX H B _ (.list ds)from r1)with
   |@lst ay ys _ e1 e2 e3 e4=>
    refine .inr ⟨ay,ys,rfl,.inl (SqL.of e1),?_⟩;rw[e4.len];exact k _ _ H n R (Kp.refl _ _) (wd (.int _)) h
 ·rename_i ds;cases r with
  |cons r1 r2=>
   cases r2;cases(show RdX H B _ (.tuple ds)from r1)with
   |@tup ay ys _ e1 e2 e3 e4=>
    refine .inr ⟨ay,ys,rfl,.inr (SqT.of e1),?_⟩;rw[e4.len];exact k _ _ H n R (Kp.refl _ _) (wd (.int _)) h
 ·exact h.elim
theorem PH(h:RdX H B v d):TyOf K H v (.type (qk d)):=by
 cases h with
 |non=>exact .non
 |bl b=>exact .bl b
 |int i=>exact .int i
 |str x h=>exact .str x
 |lst h1 h2 h3 h4=>exact .lst h1
 |tup h1 h2 h3 h4=>exact .tup h1
theorem RF(h:RdX H B v d)(hT:T="int"\/T="bool"\/T="str"\/T="tuple"\/T="list"):Fk K (.type (qk d)) (.type T)=ae (gj T d):=by
 cases h<;>rcases hT with rfl|rfl|rfl|rfl|rfl<;>rfl
def di(T:String)(w:DT):DT:=λδ n Q=>w δ n λx n1=>match x with
 |.d d=>Q (.d (.bool (gj T d))) n1
 |_=>False
theorem MV{p p2:Pos}(hT:T="int"\/T="bool"\/T="str"\/T="tuple"\/T="list")(hg:Gl X "isinstance")(hm:X.mg "isinstance"=ah)(hg2:Gl X x)(hm2:X.mg x=ah)(hv:By x=ae (.type T))(ha:DE X a ta wa)(hn:x≠"__name__":=by decide)(hdb:(x==("__debug__":Str))=aj:=by decide)
  (he:As [a,.Name x p2] X.env=(aj,eval a X.env)::As [.Name x p2] X.env:=by rfl) (he2:As [.Name x p2] X.env=(aj,eval (.Name x p2) X.env)::As [] X.env:=by rfl) (hpl:(Ct pos (As [.Name x p2] X.env)).any (·.1)=aj:=by rfl):
  DE X (.Call (.Name "isinstance" p) [a,.Name x p2] [] pos) (fC (λxs H Q=>∃x t b,xs=[x,.ty T]/\TyOf X.K H x t/\Fk X.K t (.type T)=ae b/\Q (.bl b) H) (dA ta (dA (tC (.ty T)) bS))) (di T wa):=
 ⟨jg (AN (T:=T)) hg hm GB (b9 ha.pe (b9 (tL (v:=.ty T) hg2 hm2 hv rfl hn hdb) dH he2) he) ∎ ∎ he hpl,λC H B σ δ n Q Q' R q k=>ha.sd C H B σ δ n _ _ R q λv x H1 n1 R1 k1 r1 q1=>by
  cases x with
  |d d=>exact⟨v,_,_,rfl,PH r1,RF (show RdX H1 B v d from r1) hT,k _ _ H1 n1 R1 k1 (wd (.bl _)) q1⟩
  |tp=>exact q1.elim
  |dk _=>exact q1.elim
  |ln _=>exact q1.elim
  |ob _=>exact q1.elim⟩
def Uw:List Wv->Int->DQ->Prop:=λxs n Q=>match xs with
 |[.d (.list ds)]=>xw (.list ds)/\Q (.d (.str (PyData.shown (.list ds)))) n
 |[.d (.tuple ds)]=>xw (.tuple ds)/\Q (.d (.str (PyData.shown (.tuple ds)))) n
 |_=>False
def dM:List Wv->Int->DQ->Prop:=λxs n Q=>match xs with
 |[.d (.list ds)]=>Q (.d (.tuple ds)) n
 |[.d (.tuple ds)]=>Q (.d (.tuple ds)) n
 |_=>False
theorem Li:eZ (λxs H Q=>∃p ys,xs=[.ref p]/\((SqL K H p ys/\∀l,H l=ah->Q (.ref l) (upd H l (.tup ys)))\/(SqT K H p ys/\Q (.ref p) H))) dM:=λC H B σ δ n vs xs Q Q' R r h k=>by
 unfold dM at h
 split at h
 ·rename_i ds;cases r with
  |cons r1 r2=>
   cases r2;cases(show RdX H B _ (.list ds)from r1)with
   |@lst ay ys _ e1 e2 e3 e4=>
    refine⟨ay,ys,rfl,.inl ⟨SqL.of e1,λl hl=>?_⟩⟩;exact k _ _ _ n (R.new hl) (Kp.new hl) (wd (show RdX _ B _ (.tuple ds)from .tup bu (R.nb hl) e3 ((e4.fresh hl).less λb z=>.inl z))) h
 ·rename_i ds;cases r with
  |cons r1 r2=>
   cases r2;cases(show RdX H B _ (.tuple ds)from r1)with
   |@tup ay ys _ e1 e2 e3 e4=>exact⟨ay,ys,rfl,.inr ⟨SqT.of e1,k _ _ H n R (Kp.refl _ _) (wd (show RdX H B _ (.tuple ds)from .tup e1 e2 e3 e4)) h⟩⟩
 ·exact h.elim
end
structure ItOk(fz:Hp)(J:It)(ds:List Ab):Prop where
 le:ds.length<=Ay
 go:∀i H,(∀b o,fz b=ae o->H b=ae o)->i < ds.length->J.go i H
 stop:∀H,(∀b o,fz b=ae o->H b=ae o)->J.stop ds.length H
 yld:∀i H x H' d,(∀b o,fz b=ae o->H b=ae o)->ds[i]?=ae d->J.yld i H x H'->gX H H'/\∀B,(∀b o,fz b=ae o->¬B b)->(∀b,B b->H b≠ah)->RdX H' B x d
def nH(H:Hp)(B:Addr->Prop)(fz:Hp):Prop:=(∀b o,fz b=ae o->H b=ae o/\¬B b)/\∀b o,H b=ae o->¬B b->fz b=ae o
abbrev gJ:=Sl->Int->(List Ab->Int->Prop)->Prop
def sF(wi:TI)(v:gJ):Prop:=∀(C:Ctx)(H:Hp)(B:Addr->Prop)(σ:St)(δ:Sl)(n:Int)(Q:List Ab->Int->Prop)(Q':It->Hp->Prop),Rel C H B σ δ n->v δ n Q->
 (∀J ds H' n',Rel C H' B σ δ n'->Kp C.t H H'->(∀fz,nH H' B fz->ItOk fz J ds)->Q ds n'->Q' J H')->wi σ H Q'
structure DI(X:Cx)(tg iter:Expr)(wi:TI)(v:gJ):Prop where
 pi:PI X tg iter wi
 sd:sF wi v
section
variable{X:Cx}{tg a b c e:Expr}{ta tb te:TE}{wa wb we:DT}{pos p:Pos}
def je(w:DT):gJ:=λδ n Q=>w δ n λx n1=>match x with
 |.d (.list ds)=>Q ds n1
 |_=>False
def dS(w:DT):gJ:=λδ n Q=>w δ n λx n1=>match x with
 |.d (.tuple ds)=>Q ds n1
 |_=>False
theorem PF(ha:DE X a ta wa):DI X tg a (uQ X.K ta) (je wa):=⟨Ov ha.pe,λC H B σ δ n Q Q' R q k=>ha.sd C H B σ δ n _ _ R q λv x H1 n1 R1 k1 r1 q1=>by
 split at q1
 ·rename_i ds;cases(show RdX H1 B v (.list ds)from r1)with
  |@lst ay ys _ e1 e2 e3 e4=>
   refine⟨ay,rfl,⟨ys,SqL.of e1⟩,k _ ds H1 n1 R1 k1 (λfz th=>?_) q1⟩;have hfz:fz ay=ae (.lst ys):=th.2 _ _ e1 e2;refine⟨by rw[<-e4.len];exact e3,λi H hH hi=>?_,λH hH=>?_,λi H x H' d hH hd hy=>?_⟩
   ·rw[<-e4.len]at hi;exact⟨ys,ys[i],SqL.of (hH _ _ hfz),Al hi⟩
   ·exact⟨ys,SqL.of (hH _ _ hfz),by rw[e4.len];exact Ao _⟩
   ·obtain⟨rfl,hy⟩:=hy;refine⟨λ_ _ z=>z,λB' hB hBa=>?_⟩;obtain⟨u,hu,ru⟩:=e4.getD hd;have:=hy _ (SqL.of (hH _ _ hfz));rw[hu]at this;cases this;exact ru.move λb o e ne=>⟨hH _ _ (th.2 _ _ e ne),hB _ _ (th.2 _ _ e ne)⟩
 ·exact q1.elim⟩
theorem K1(ha:DE X a ta wa):DI X tg a (kE X.K ta) (dS wa):=⟨Rw ha.pe,λC H B σ δ n Q Q' R q k=>ha.sd C H B σ δ n _ _ R q λv x H1 n1 R1 k1 r1 q1=>by
 split at q1
 ·rename_i ds;cases(show RdX H1 B v (.tuple ds)from r1)with
  |@tup ay ys _ e1 e2 e3 e4=>
   refine⟨ay,rfl,⟨ys,SqT.of e1⟩,k _ ds H1 n1 R1 k1 (λfz th=>?_) q1⟩;have hfz:fz ay=ae (.tup ys):=th.2 _ _ e1 e2;refine⟨by rw[<-e4.len];exact e3,λi H hH hi=>?_,λH hH=>?_,λi H x H' d hH hd hy=>?_⟩
   ·rw[<-e4.len]at hi;exact⟨ys,ys[i],SqT.of (hH _ _ hfz),Al hi⟩
   ·exact⟨ys,SqT.of (hH _ _ hfz),by rw[e4.len];exact Ao _⟩
   ·obtain⟨rfl,hy⟩:=hy;refine⟨λ_ _ z=>z,λB' hB hBa=>?_⟩;obtain⟨u,hu,ru⟩:=e4.getD hd;have:=hy _ (SqT.of (hH _ _ hfz));rw[hu]at this;cases this;exact ru.move λb o e ne=>⟨hH _ _ (th.2 _ _ e ne),hB _ _ (th.2 _ _ e ne)⟩
 ·exact q1.elim⟩
def bM(lo:Int)(n:Nat):List Ab:=(Bi n).map λi=>.int (lo+(i:Nat))
def dC(w:DT):gJ:=λδ n Q=>w δ n λx n1=>match x with
 |.d (.int j)=>(-(2 ^ 62)<=j/\j<=1000000)/\Q (bM 0 j.toNat) n1
 |_=>False
theorem IX(fz)(lo)(n)(hn:n<=1000000):ItOk fz (qe lo n) (bM lo n):=by
 have hl:(bM lo n).length=n:=by unfold bM;simp
 refine⟨?_,λi H hH hi=>?_,λH hH=>?_,λi H y H' d hH hd hy=>?_⟩
 ·rw[hl];exact A9 hn ∎
 ·rw[hl]at hi;exact hi
 ·show n<=(bM lo n).length;rw[hl];exact Ao _
 ·obtain⟨rfl,rfl⟩:=hy;refine⟨λ_ _ z=>z,λB' hB hBa=>?_⟩;unfold bM at hd;rw[Ax]at hd;cases e:(Bi n)[i]? with
  |none=>rw[e]at hd;cases hd
  |some j=>
   rw[e]at hd;have:j=i:=by
    obtain⟨h1,h2⟩:=Av.mp e;rw[List.getElem_range]at h2;exact h2.symm
   subst this;cases hd;exact .int _
theorem TN(hg:Gl X "range")(hm:X.mg "range"=ah)(ha:DE X a ta wa)(hs:As [a] X.env=[(aj,eval a X.env)]:=by rfl):DI X tg (.Call (.Name "range" p) [a] [] pos) (zM (dA ta bS)) (dC wa):=⟨LB hg hm (b9 ha.pe dH hs) hs,λC H B σ δ n Q Q' R q k=>ha.sd C H B σ δ n _ _ R q λv x H1 n1 R1 k1 r1 q1=>by
 split at q1
 ·rename_i j;cases(show RdX H1 B v (.int j)from r1);refine⟨j,rfl,q1.1.1,by have:=q1.1.2;have:(2:Int)^62=4611686018427387904:=∎;omega,k _ (bM 0 j.toNat) H1 n1 R1 k1 (λfz _=>IX fz 0 j.toNat (by have:=q1.1.2;omega)) q1.2⟩
 ·exact q1.elim⟩
end
abbrev d7:=Ab->Sl->(Sl->Prop)->Prop
def vd(g:TG)(v:d7):Prop:=∀(C:Ctx)(H:Hp)(B:Addr->Prop)(σ:St)(δ:Sl)(n:Int)(x:V)(d:Ab)(Q:Sl->Prop)(Q':St->Hp->Prop),Rel C H B σ δ n->RdX H B x d->v d δ Q->
 (∀σ' δ',Rel C H B σ' δ' n->Q δ'->Q' σ' H)->g x σ H Q'
structure DG(X:Cx)(tg:Expr)(g:TG)(v:d7):Prop where
 pg:PG X tg g
 sd:vd g v
section
variable{X:Cx}{pos:Pos}
def aI(i:Nat):d7:=λd δ Q=>Q (δ.set i (ae (.w (.d d))))
theorem Jg(hN:X.N.Nodup)(hi:X.N[i]?=ae x)(hx:jq X.env.scope x)(hf:X.fn x=ai\/X.env.scope.names.lookup x=ae .local:=by first|exact .inl rfl|exact .inr rfl|assumption):DG X (.Name x pos) (gm i) (aI i):=
 ⟨LA hN hi hx hf,λC H B σ δ n x d Q Q' R r q k=>k _ _ (R.set (x:=.d d) r rfl) q⟩
end
def dJ(g:d7)(W:aH)(K:DEnds):List Ab->Sl->Int->Prop
 |[],δ,n=>K.nx δ n
 |d::r,δ,n=>g d δ λδ'=>W δ' n {K with nx:=dJ g W K r,ct:=dJ g W K r,bk:=K.nx}
def aW(v:gJ)(g:d7)(W:aH):aH:=λδ n K=>v δ n λds n1=>dJ g W K ds δ n1
def cv(H:Hp)(B:Addr->Prop):Hp:=λb=>open Classical in if B b then ah else H b
theorem kf(H)(B):nH H B (cv H B):=by
 refine⟨λb o e=>?_,λb o e n=>?_⟩
 ·unfold cv at e
  split at e
  ·cases e
  ·rename_i h;exact⟨e,h⟩
 ·unfold cv;rw[if_neg n];exact e
theorem Rel.refz(R:Rel C H B σ δ n):Rel {C with fz:=cv H B} H B σ δ n:=
 ⟨R.tp,R.kp,R.t0,R.l0,R.g0,(kf H B).1,R.bt,R.b0,R.ba,R.a0,R.sl,R.ow,R.len⟩
theorem Rel.unfz{fz:Hp}(R:Rel {C with fz:=fz} H B σ δ n)(h:∀b o,C.fz b=ae o->fz b=ae o):Rel C H B σ δ n:=
 ⟨R.tp,R.kp,R.t0,R.l0,R.g0,λb o e=>R.fz b o (h b o e),R.bt,R.b0,R.ba,R.a0,R.sl,R.ow,R.len⟩
theorem Rel.same(R:Rel C H B σ δ n)(k:gX H H'):Rel C H' B σ δ n:=by
 obtain⟨a,b,e,h⟩:=R.tp.ob;exact R.step ⟨⟨a,b,k _ _ e,h⟩,k _ _ R.tp.ls,R.tp.len,λz=>k _ _ (R.tp.ag z),R.tp.gne⟩ λb o e _=>k b o e
section
variable{X:Cx}{tg iter:Expr}{body:List Stmt}{wi:TI}{v:gJ}{g:TG}{gd:d7}{T:TS}{W:aH}{pos:Pos}
theorem Rp(hi:DI X tg iter wi v)(hg:DG X tg g gd)(hb:DSs X body T W)(hp:PassesOwn (A6 X.prog X.w) X.A X.env X.xe:=by exact PassesOwn.never)(hc:X.calm=ai:=by rfl)
  (hs:∀x,D4 iter X.env x=pure x:=by intro _;rfl):DS X (.For tg iter body [] pos) (lH wi g T) (aW v gd W):=⟨DD hp hc hi.pi hg.pg hb.ps hs,λC H B σ δ n K D R q E=>
 hi.sd C H B σ δ n _ _ R q λJ ds H1 n1 R1 k1 hJ q1=>by
  have ok:=hJ (cv H1 B) (kf H1 B);have R1':=R1.refz;have eM:∀{H B' σ δ n},Rel {C with fz:=cv H1 B} H B' σ δ n->Rel C H B' σ δ n:=λR=>R.unfz λb o e=>(kf H1 B).2 b o (R1.fz b o e).1 (R1.fz b o e).2;refine⟨λi m σ H=>m=ds.length-i/\i<=ds.length/\∃B' δ n,Rel {C with fz:=cv H1 B} H B' σ δ n/\dJ gd W K (ds.drop i) δ n,⟨ds.length,by simp,Br _,B,δ,n1,R1',by simpa using q1⟩,?_⟩
  rintro i m σ2 H2 ⟨rfl,hi,B2,δ2,n2,R2,q2⟩
  have hfz:∀b o,cv H1 B b=ae o->H2 b=ae o:=λb o e=>(R2.fz b o e).1;by_cases hlt:i < ds.length
  ·rw[Dp hlt]at q2;refine .inr ⟨ok.go i H2 hfz hlt,λσ3 H3=>∃B' δ n,Rel {C with fz:=cv H1 B} H3 B' σ3 δ n/\dJ gd W K (ds.drop (i+1)) δ n,λσ' H' z=>⟨ds.length-(i+1),by omega,rfl,hlt,z⟩,λx H' hy=>?_⟩;obtain⟨sm,rd⟩:=ok.yld i H2 x H' ds[i] hfz (Al hlt) hy;have R3:=R2.same sm;refine hg.sd _ H' B2 σ2 δ2 n2 x ds[i] _ _ R3 (rd B2 (λb o e=>(R2.fz b o e).2) R2.ba) q2 λσ' δ' R4 q4=>?_;refine hb.sd _ H' B2 σ' δ' n2 _ _ R4 q4 ⟨?_,?_,?_,?_,λH B σ δ n a xs ds R h0 h1 h2 h3 q=>E.rn H B σ δ n a xs ds (eM R) h0 h1 h2 h3 q⟩
   ·exact λH B σ δ n R q=>⟨B,δ,n,R,q⟩
   ·exact λH B σ δ n v w R r q=>E.rt H B σ δ n v w (eM R) r q
   ·exact λH B σ δ n R q=>E.nx H B σ δ n (eM R) q
   ·exact λH B σ δ n R q=>⟨B,δ,n,R,q⟩
  ·have e:i=ds.length:=by omega
   subst e;rw[List.drop_length]at q2;exact .inl ⟨ok.stop H2 hfz,E.nx H2 B2 σ2 δ2 n2 (eM R2) q2⟩⟩
end
def jN(fr:List (Option Nat))(δ:Sl):Sl:=fr.map λo=>o.bind λi=>match δ[i]? with
 |some (ae (.w x))=>ae (.w x)
 |some (ae (.odk kvs))=>ae (.w (.dk kvs))
 |some (ae (.own ds))=>ae (.w (.ln ds))
 |_=>ah
def cM(g:d7)(c:cj)(w:DT)(Q:List Ab->Int->Prop):List Ab->List Ab->Sl->Int->Prop
 |[],acc,_,n=>Q acc n
 |d::r,acc,δ,n=>g d δ λδ'=>c δ' n λb n1=>if b=ai then w δ' n1 λx n2=>match x with
   |.d y=>cM g c w Q r (acc++[y]) δ' n2
   |_=>False
  else cM g c w Q r acc δ' n1
def cG(fr:List (Option Nat))(v:gJ)(g:d7)(c:cj)(w:DT):fk:=λδ n Q=>v δ n λds n1=>cM g c w Q ds [] (jN fr δ) n1
structure DIf(X:Cx)(ifs:List Expr)(t:TT)(c:cj):Prop where
 pf:oU X ifs t
 sd:jQ t c
def cQ:cj:=λ_ n Q=>Q ai n
theorem Sk:DIf X [] FG cQ:=⟨OX,λC H B σ δ n Q Q' R q k=>k ai H n R (Kp.refl _ _) q⟩
theorem Nd(h:DC X c t cc):DIf X [c] t cc:=⟨Ou h.pt,h.sd⟩
theorem IK(fr:List (Option Nat))(σ):(dG fr σ).length=fr.length:=by unfold dG;rw[Ad]
theorem LO(fr:List (Option Nat))(δ):(jN fr δ).length=fr.length:=by unfold jN;rw[Ad]
theorem tO{j:Nat}(h:(jN fr δ)[j]?=ae (ae x)):∃i y,fr[j]?=ae (ae i)/\δ[i]?=ae (ae y)/\((∃z,x=.w z/\y=.w z)\/(∃kvs,x=.w (.dk kvs)/\y=.odk kvs)\/∃ds,x=.w (.ln ds)/\y=.own ds):=by
 unfold jN at h;rw[Ax]at h;cases e:fr[j]? with
 |none=>rw[e]at h;cases h
 |some o=>
  rw[e]at h;cases o with
  |none=>cases h
  |some i=>
   have h':=Bc h;dsimp only[Option.bind]at h'
   split at h'
   ·rename_i z ez;cases h';exact⟨i,_,rfl,ez,.inl ⟨z,rfl,rfl⟩⟩
   ·rename_i kvs ez;cases h';exact⟨i,_,rfl,ez,.inr (.inl ⟨kvs,rfl,rfl⟩)⟩
   ·rename_i ds ez;cases h';exact⟨i,_,rfl,ez,.inr (.inr ⟨ds,rfl,rfl⟩)⟩
   ·cases h'
theorem Jl{j i:Nat}(h:fr[j]?=ae (ae i))(h2:σ[i]?=ae (ae v)):(dG fr σ)[j]?=ae (ae v):=by
 unfold dG;rw[Ax,h];show ae ((σ[i]?).bind id)=_;rw[h2];rfl
theorem PN(R:Rel C H B σ δ n)(hL:H L=ah):
  Rel ⟨C.t,C.l,C.ns,H,B,cv H B⟩ (upd H L (.lst [])) (λb=>B b\/b=L) (dG fr σ) (jN fr δ) n where
 tp:=R.tp.new hL
 kp:=Kp.new hL
 t0:=R.ba _ R.bt
 l0:=by
  show H C.l.s≠ah;rw[R.tp.ls];exact λz=>nomatch z
 g0:=λe=>by
  show H C.l.g≠ah;rw[R.tp.ag e];exact λz=>nomatch z
 fz:=λb o e=>by
  obtain⟨e1,e2⟩:=(kf H B).1 b o e;exact⟨by rw[aM (bO e1 hL)];exact e1,λz=>z.elim e2 λq=>bO e1 hL q⟩
 bt:=.inl R.bt
 b0:=λb z=>.inl z
 ba:=λb z e=>by
  by_cases q:b=L
  ·rw[q,bu]at e;cases e
  ·rw[aM q]at e;exact R.ba b (z.resolve_right q) e
 a0:=R.ba
 sl:=λj x e=>by
  have mv:∀b o',H b=ae o'->¬B b->upd H L (.lst []) b=ae o'/\¬(B b\/b=L):=λb o' e n=>⟨by rw[aM (bO e hL)];exact e,λz=>z.elim n λq=>bO e hL q⟩;obtain⟨i,y,e1,e2,hy⟩:=tO e;obtain⟨v,f1,f2⟩:=R.sl i y e2;refine⟨v,Jl e1 f1,?_⟩;rcases hy with⟨z,rfl,rfl⟩|⟨kvs,rfl,rfl⟩|⟨ds,rfl,rfl⟩
  ·cases z with
   |d d=>exact⟨f2.1.move mv,λz=>by cases z⟩
   |tp=>exact⟨f2.1,λz=>by cases z⟩
   |ln ds=>
    obtain⟨a,l,g1,g2,g3,g4,g5⟩:=f2.1;exact⟨⟨a,l,g1,by rw[aM (bO g2 hL)];exact g2,g3,g4,g5.move mv⟩,λ_=>⟨a,g1,by show H a≠ah;rw[g2];exact λz=>nomatch z⟩⟩
   |dk kvs=>
    obtain⟨a,l,g1,g2,g3,g4⟩:=f2.1;exact⟨⟨a,l,g1,by rw[aM (bO g2 hL)];exact g2,g3,g4.move mv⟩,λ_=>⟨a,g1,by show H a≠ah;rw[g2];exact λz=>nomatch z⟩⟩
   |ob o=>
    refine⟨?_,λz=>by cases z⟩;exact ORel.move mv f2.1
  ·obtain⟨a,l,g1,g2,g3,g4,g5,g6⟩:=f2;exact⟨⟨a,l,g1,by rw[aM (bO g2 hL)];exact g2,λz=>R.t0 (z▸g4),g6.move mv⟩,λ_=>⟨a,g1,by show H a≠ah;rw[g2];exact λz=>nomatch z⟩⟩
  ·obtain⟨a,l,g1,g2,g3,g4,g5,g6⟩:=f2;exact⟨⟨a,l,g1,by rw[aM (bO g2 hL)];exact g2,λz=>R.t0 (z▸g4),g5,g6.move mv⟩,λ_=>⟨a,g1,by show H a≠ah;rw[g2];exact λz=>nomatch z⟩⟩
 ow:=λi j x y v e1 e2 o1 o2 _ _=>by
  obtain⟨_,_,_,_,hy⟩:=tO e1;rcases hy with⟨z,rfl,_⟩|⟨kvs,rfl,_⟩|⟨ds,rfl,_⟩
  ·cases o1
  ·cases o1
  ·cases o1
 len:=by rw[IK,LO]
section
variable{X:Cx}{elt tg iter:Expr}{ifs:List Expr}{scope:E5}{cl:List (Str×Addr)}{pos:Pos}{N:List Str}{fr:List (Option Nat)}{wi:TI}{v:gJ}{g:TG}{gd:d7}{tt:TT}{cc:cj}{te:TE}{we:DT}
def ij(δ:Sl):Prop:=∀(i:Nat)(x:SV),δ[i]?=ae (ae x)->x.isOwn=aj
theorem Mg(fr)(δ):ij (jN fr δ):=λi x e=>by
 obtain⟨_,_,_,_,hy⟩:=tO e;rcases hy with⟨z,rfl,_⟩|⟨kvs,rfl,_⟩|⟨ds,rfl,_⟩<;>rfl
def lr(v:d7):Prop:=∀d δ Q,ij δ->v d δ Q->v d δ λδ'=>ij δ'/\Q δ'
theorem vY(i):lr (aI i):=λd δ Q h q=>⟨λj x e=>by
 rcases gg e with⟨_,rfl⟩|⟨_,e'⟩
 ·rfl
 ·exact h j x e',q⟩
theorem vg(hc:X.calm=ai)(S:CompSc X N scope cl fr)(hi:DI X tg iter wi v)(hg:∀s H fp,DG (c6 X N scope cl s H fp) tg g gd)(ht:∀s H fp,DIf (c6 X N scope cl s H fp) ifs tt cc)
  (he:∀s H fp,DE (c6 X N scope cl s H fp) elt te we) (hno:lr gd) (hs:∀x,D4 iter X.env x=pure x:=by intro _;rfl):
  DF X (.ListComp elt [⟨tg,iter,ifs,0⟩] scope pos) (n9 fr wi g tt te) (cG fr v gd cc we):=by
 refine⟨Sv hc S hi.pi (λs H fp=>(hg s H fp).pg) (λs H fp=>(ht s H fp).pf) (λs H fp=>(he s H fp).pe) hs,λC H B σ δ n Q Q' R q k=>hi.sd C H B σ δ n _ _ R q λJ ds H1 n1 R1 k1 hJ q1=>λL hL=>?_⟩;have sg:=(hg X.s₀ X.H₀ []).sd;have st:=(ht X.s₀ X.H₀ []).sd;have se:=(he X.s₀ X.H₀ []).sd;have ok:=hJ (cv H1 B) (kf H1 B);have hLt:L≠C.t:=λz=>R1.ba _ R1.bt (z▸hL);refine⟨λi m ys τ H=>m=ds.length-i/\i<=ds.length/\ys.length<=i/\∃δ' n' acc,Rel ⟨C.t,C.l,C.ns,H1,B,cv H1 B⟩ H (λb=>B b\/b=L) τ δ' n'/\ij δ'/\H L=ae (.lst ys)/\RdXs H (λb=>B b\/b=L) ys acc/\cM gd cc we Q (ds.drop i) acc δ' n',
  ⟨ds.length,by simp,Br _,Br _,jN fr δ,n1,[],PN R1 hL,Mg fr δ,bu,.nil,by simpa using q1⟩,?_⟩
 rintro i m ys τ H2 ⟨rfl,hi,hys,δ2,n2,acc,R2,no2,hL2,rd2,q2⟩
 have hfz:∀b o,cv H1 B b=ae o->H2 b=ae o:=λb o e=>(R2.fz b o e).1;by_cases hlt:i < ds.length
 ·rw[Dp hlt]at q2;refine .inr ⟨ok.go i H2 hfz hlt,Bd (Nat.lt_of_le_of_lt hys hlt) ok.le,λx H' hy=>?_⟩;obtain⟨sm,rd⟩:=ok.yld i H2 x H' ds[i] hfz (Al hlt) hy;have R3:=R2.same sm;refine sg _ H' _ τ δ2 n2 x ds[i] _ _ R3 (rd _ (λb o e=>(R2.fz b o e).2) R2.ba) (hno _ _ _ no2 q2) λτ3 δ3 R4 ⟨no3,q4⟩=>?_;refine st _ H' _ τ3 δ3 n2 _ _ R4 q4 λb H4 n4 R5 k5 q5=>?_;have hL4:H4 L=ae (.lst ys):=k5 _ _ (sm _ _ hL2) hLt;have rd4:RdXs H4 (λb=>B b\/b=L) ys acc:=(rd2.keep λb o e _=>sm b o e).kp k5 R4.bt;cases b with
  |false=>
   rw[if_neg Ag]at q5 ⊢;exact⟨ds.length-(i+1),by omega,rfl,hlt,by omega,δ3,n4,acc,R5,no3,hL4,rd4,q5⟩
  |true=>
   rw[if_pos rfl]at q5 ⊢;refine se _ H4 _ τ3 δ3 n4 _ _ R5 q5 λu y H5 n5 R6 k6 r6 q6=>?_;cases y with
   |d y=>
    have hL5:H5 L=ae (.lst ys):=k6 _ _ hL4 hLt;refine⟨hL5,ds.length-(i+1),by omega,rfl,hlt,by rw[Ak,Ap];omega,δ3,n5,acc++[y],R6.mut (.inr rfl) hL λj z e o=>absurd (no3 j z e) (by rw[o];exact λq=>nomatch q),no3,bu,?_,q6⟩;refine RdXs.keep (λb o e n=>?_) ((rd4.kp k6 R5.bt).append (.cons r6 .nil));rw[aM λ(z:b=L)=>n (.inr z)];exact e
   |tp=>exact q6.elim
   |dk _=>exact q6.elim
   |ln _=>exact q6.elim
   |ob _=>exact q6.elim
 ·have e:i=ds.length:=by omega
  subst e;rw[List.drop_length]at q2;refine .inl ⟨ok.stop H2 hfz,k L ys acc H2 n2 (R1.step R2.tp R2.kp) (k1.trans R2.kp) (R1.was k1 hL) hL2 (A9 hys ok.le) rd2 q2⟩
end
abbrev eD:=List Ab->Sl->(Sl->Prop)->Prop
def SH(g:iy)(v:eD):Prop:=∀(C:Ctx)(H:Hp)(B:Addr->Prop)(σ:St)(δ:Sl)(n:Int)(xs:List V)(ds:List Ab)(Q:Sl->Prop)(Q':St->Hp->Prop),Rel C H B σ δ n->RdXs H B xs ds->v ds δ Q->
 (∀σ' δ',Rel C H B σ' δ' n->Q δ'->Q' σ' H)->g xs σ H Q'
structure DGs(X:Cx)(ts:List Expr)(g:iy)(v:eD):Prop where
 pg:oK X ts g
 sd:SH g v
def cz:eD:=λds δ Q=>match ds with
 |[]=>Q δ
 |_=>False
def bB(v:d7)(r:eD):eD:=λds δ Q=>match ds with
 |d::ds=>v d δ λδ'=>r ds δ' Q
 |[]=>False
def dO(n:Nat)(r:eD):d7:=λd δ Q=>match d with
 |.tuple ds=>ds.length=n/\r ds δ Q
 |_=>False
theorem OI:∀ds δ Q,ij δ->cz ds δ Q->cz ds δ λδ'=>ij δ'/\Q δ':=λds δ Q h q=>by
 cases ds with
 |nil=>exact⟨h,q⟩
 |cons _ _=>exact q
theorem Ic(mono:∀d δ (Q Q':Sl->Prop),(∀δ',Q δ'->Q' δ')->v d δ Q->v d δ Q')(hv:lr v)(hr:∀ds δ Q,ij δ->r ds δ Q->r ds δ λδ'=>ij δ'/\Q δ'):∀ds δ Q,ij δ->bB v r ds δ Q->bB v r ds δ λδ'=>ij δ'/\Q δ':=λds δ Q h q=>by
 cases ds with
 |nil=>exact q
 |cons d ds=>exact mono d δ _ _ (λδ' z=>hr ds δ' Q z.1 z.2) (hv d δ _ h q)
theorem T9(hr:∀ds δ Q,ij δ->r ds δ Q->r ds δ λδ'=>ij δ'/\Q δ'):lr (dO n r):=λd δ Q h q=>by
 unfold dO at q ⊢
 split at q
 ·exact⟨q.1,hr _ _ _ h q.2⟩
 ·exact q.elim
theorem Lp(i j n):lr (dO n (bB (aI i) (bB (aI j) cz))):=
 T9 (Ic (λ_ _ _ _ h q=>h _ q) (vY i) (Ic (λ_ _ _ _ h q=>h _ q) (vY j) OI))
section
variable{X:Cx}{pos:Pos}
theorem Mc:DGs X [] nR cz:=⟨RI,λC H B σ δ n xs ds Q Q' R r q k=>by
 cases r with
 |nil=>exact⟨rfl,k σ δ R q⟩
 |cons _ _=>exact q.elim⟩
end
section
variable{X:Cx}{pos:Pos}
theorem Ki(h1:DG X e t v)(h2:DGs X es u r)
  (hs:(D8 (e::es) X.env).map (·.2)=assign e X.env::(D8 es X.env).map (·.2):=by rfl):DGs X (e::es) (zh t u) (bB v r):=⟨QX h1.pg h2.pg hs,λC H B σ δ n xs ds Q Q' R rr q k=>by
 cases rr with
 |nil=>exact q.elim
 |cons r1 r2=>exact⟨_,_,rfl,h1.sd C H B σ δ n _ _ _ _ R r1 q λσ' δ' R' q'=>h2.sd C H B σ' δ' n _ _ _ _ R' r2 q' k⟩⟩
theorem Lq{k:Nat}{n:Nat}(h:DGs X es t r)(hc:X.calm=ai:=by rfl)
  (hn:(D8 es X.env).length=n:=by rfl) (hst:(D8 es X.env).findIdx? (·.1)=ah:=by rfl):DG X (.Tuple es k pos) (ku X.K n t) (dO n r):=⟨Mu hc h.pg hn hst,λC H B σ δ n' x d Q Q' R rr q k=>by
 unfold dO at q
 split at q
 ·rename_i ds;cases rr with
  |@tup ay ys _ e1 e2 e3 e4=>exact⟨ay,ys,rfl,SqT.of e1,by rw[e4.len];exact q.1,h.sd C H B σ δ n' _ _ _ _ R e4 q.2 k⟩
 ·exact q.elim⟩
def sG:List Ab->Option (List Str)
 |[]=>ae []
 |.str b::r=>(sG r).map (b::·)
 |_::_=>ah
def Uy(w w':DT):DT:=λδ n Q=>w δ n λx n1=>match x with
 |.d (.str z)=>w' δ n1 λy n2=>match y with
  |.d (.list ds)=>match sG ds with
   |some ys=>(ys.map (·.length)).sum+ys.length*z.length<=16777216/\Q (.d (.str (Txt.join z ys))) n2
   |none=>False
  |.d (.tuple ds)=>match sG ds with
   |some ys=>(ys.map (·.length)).sum+ys.length*z.length<=16777216/\Q (.d (.str (Txt.join z ys))) n2
   |none=>False
  |_=>False
 |_=>False
def jw(i:Nat)(wj w:DT):aH:=λδ n K=>match δ[i]? with
 |some (ae (.own ds))=>w δ n λx n1=>wj δ n1 λj n2=>match x,j with
  |.d d,.d (.int k)=>match iI ds.length k with
   |some m=>K.nx (δ.set i (ae (.own (ds.set m d)))) n2
   |none=>False
  |_,_=>False
 |_=>False
theorem RV{xp sp:Pos}(hN:X.N[i]?=ae x)(hj:DE X j tj wj)(he:DE X e te we)(hv:fH X.env.scope x:=by first|exact C7 rfl|exact Cc (C7 rfl)|exact Cc (Cc rfl))(hd:(x==("__debug__":Str))=aj:=by decide)
  (hcd:(x==("__classdict__":Str))=aj:=by decide)
  (ha:∀v,assign (.Subscript (.Name x xp) j sp) X.env v=(do
   let ov <-holding [v] (eval (.Name x xp) X.env)
   let iv <-holding [v,ov] (eval j X.env)
   standAt sp
   holding [v,ov,iv] (setItem ov iv v)
   release [v,ov,iv] []):=by intro _;rfl)
  (hs:swapsWithSole [.Subscript (.Name x xp) j sp] e pos.line X.env=pure aj:=by rfl) (hw:swappedStores [.Subscript (.Name x xp) j sp] e X.env=pure ah:=by rfl)
  (h1:(D8 [.Subscript (.Name x xp) j sp] X.env).map (·.2)=[assign (.Subscript (.Name x xp) j sp) X.env]:=by rfl):
  DS X (.Assign [.Subscript (.Name x xp) j sp] e pos) (dh te (oS (cC i) tj xA)) (jw i wj we):=
 ⟨nL he.pe (qy (fJ hN hv hd hcd) hj.pe qg ha) hs hw h1,λC H B σ δ n K D R q E=>by
  unfold jw at q
  split at q
  ·rename_i ds ei;refine he.sd C H B σ δ n _ _ R q λu y H1 n1 R1 k1 r1 q1=>?_;obtain⟨v,hv,a,xs,rfl,e2,e3,e4,e5,e6⟩:=R1.sl i _ ei;refine⟨_,hv,hj.sd C H1 B σ δ n1 _ _ R1 q1 λw z H2 n2 R2 k2 r2 q2=>?_⟩
   split at q2
   ·rename_i d k
    split at q2
    ·rename_i m em;cases(show RdX H2 B w (.int k)from r2);have hat:a≠C.t:=λz=>R.t0 (z▸e4);have e2':=k2 _ _ e2 hat;have r1':RdX H2 B u d:=r1.kp k2 R1.bt;refine⟨a,xs,k,m,rfl,rfl,e2',by rw[e6.len];exact em,?_⟩;refine E.nx _ _ _ _ _ (R2.mutOwn ei rfl hv e3 e4 ?_ rfl) q2;refine⟨a,xs.set m u,rfl,bu,e3,e4,by rw[Cg];exact e5,?_⟩;refine RdXs.keep (λb o e n=>?_) (RdXs.set m (e6.kp k2 R1.bt) r1');rw[aM λ(z:b=a)=>n (z▸e3)];exact e
    ·exact q2.elim
   ·exact q2.elim
  ·exact q.elim⟩
end
structure Has(P:A7)(w:Bk)(K:Ah)(mg:Str->Option Af)(base:Heap)(k:Nat)(x:Str)(ps:List Str)(S:bo):Prop where
 ex:∃(f:Addr)(fd:B9),FnOk P w K mg base c9 k f fd ps (fB S)/\Binds K fd ps []/\mg x=ae (.ref f)/\B5 K (.ref f)=ai
section
variable{P:A7}{w:Bk}{K:Ah}{mg:Str->Option Af}{base:Heap}
theorem Has.mk'(F:Fun K x qual st f fd)(m:mg x=ae (.ref f))(b:Binds K fd ps [])(h:FnOk P w K mg base c9 k f fd ps (fB S)):Has P w K mg base k x ps S:=⟨f,fd,h,b,m,F.kp⟩
end
theorem KO{pos p:Pos}(h:Has X.prog X.w X.K X.mg X.base k x ps S)(hr:Room k X.A)(hg:Gl X x)
  (ha:DA X (e::es) tR wR) (hdb:(x==("__debug__":Str))=aj:=by decide) (he:As (e::es) X.env=(aj,eval e X.env)::As es X.env:=by rfl) (hpl:(Ct pos (As es X.env)).any (·.1)=aj:=by rfl):
  DE X (.Call (.Name x p) (e::es) [] pos) (ji (fB S) [] E0 tR) (aF S wR):=by
 obtain⟨f,fd,h1,h2,h3,h4⟩:=h.ex;exact Ug h1 hr hg h3 h4 h2 ha hdb he hpl
theorem J3{cl cells:List (Str×Addr)}(h:∀y∈cl,cells.lookup y.1=ae y.2):∀x c,cl.lookup x=ae c->cells.lookup x=ae c:=λx c e=>h _ (qv e)
def ck:bo:=λws n Q=>match ws with
 |[.tp,.d (.int many)]=>(n < 2 ^ 40/\0 < many/\many < 1073741824)/\∀r:Int,0<=r->r < many->Q (.d (.int r)) (n+1)
 |_=>False
section
variable{P:A7}{w:Bk}{K:Ah}{mg:Str->Option Af}{base:Heap}
theorem QP(h:FnOk P w K mg base c9 k f fd ps CA):FnOk P w K mg base c9 k f fd ps (fB ck):=h.imp λvs H Q E hs=>by
 obtain⟨t,l,ns,B,ws,n,Q0,T,bt,ba,r,q,kk⟩:=hs;unfold ck at q
 split at q
 ·rename_i many;cases r with
  |cons r1 r2=>
   cases r2 with
   |cons r3 r4=>
    cases r4;cases(show _=V.ref t from r1);cases(show RdX H B _ (.int many)from r3);exact⟨t,l,ns,n,many,rfl,T,q.1.1,q.1.2.1,q.1.2.2,λr H' h0 h1 T' k'=>kk _ _ (q.2 r h0 h1) _ H' T' k' (.int r)⟩
 ·exact q.elim
def spLaw(K:Ah):Sp:=λvs H Q _=>∃(a:Addr)(ns:List Int),vs=[.ref a]/\SqL K H a (ns.map V.int)/\ns.length<=63/\∀H',Q (.bl ai) H'
def oH:DEnds:={ nx:=λ_ _=>False,rt:=λw _=>w=.d (.bool ai)}
theorem JF{a:V}(T:Tp H t l ns 0):Rel ⟨t,l,ns,H,λb=>b=t,λ_=>ah⟩ H (λb=>b=t) (ae a::ae (.ref t)::Bn k ah) (ah::ae (.w .tp)::Bn k ah) 0 where
 tp:=T
 kp:=Kp.refl _ _
 t0:=by
  obtain⟨_,_,h,_⟩:=T.ob;show H t≠ah;rw[h];exact λz=>nomatch z
 l0:=by
  show H l.s≠ah;rw[T.ls];exact λz=>nomatch z
 g0:=λe=>by
  show H l.g≠ah;rw[T.ag e];exact λz=>nomatch z
 fz:=λb o e=>nomatch e
 bt:=rfl
 b0:=λ_ z=>z
 ba:=λb z=>by
  obtain⟨_,_,h,_⟩:=T.ob;rw[z,h];exact λz=>nomatch z
 a0:=λb z=>by
  obtain⟨_,_,h,_⟩:=T.ob;show H b≠ah;rw[show b=t from z,h];exact λz=>nomatch z
 sl:=λi x e=>by
  rcases i with _|_|i
  ·cases e
  ·cases e;exact⟨_,rfl,rfl,λz=>by cases z⟩
  ·have e':(Bn k (ah:Option SV))[i]?=ae (ae x):=e;rw[Ew]at e'
   split at e'
   ·cases e'
   ·cases e'
 ow:=λi j x y v e1 e2 o1 o2 f1 f2=>by
  rcases i with _|_|i
  ·cases e1
  ·cases e1;cases o1
  ·have e':(Bn k (ah:Option SV))[i]?=ae (ae x):=e1;rw[Ew]at e'
   split at e'
   ·cases e'
   ·cases e'
 len:=by simp
theorem La(F:Fun K "law" "law" st f fd)(Sc:FnScope N ["_law_script"] (cD st))
  (GT:FnOk P w K mg base c9 1 fT fdT ["_law_script"] (n8 K)) (bT:Binds K fdT ["_law_script"] []) (mT:mg "_law_tape"=ae (.ref fT)) (kT:B5 K (.ref fT)=ai)
  (hN:∀v,start N [v]=ae v::ah::Bn (N.length-2) ah)
  (hW:W (ah::ae (.w .tp)::Bn (N.length-2) ah) 0 oH)
  (hbody:∀(cdv:Af)(A:Bu)(outer:List Env)(s:Ai)(H:Hp)(E:XK),Room k (A.deeper (Dv "law" (cD st) s.heap.objs.size f cdv))->
   ∃s0 rest T,fF st=s0::rest/\PS (cO c9 P w K mg base N "law" (cD st) f cdv A outer s H E).nox s0 (dh (ji (n8 K) [] E0 (dA (cC 0) bS)) (gm 1))/\DSs (cO c9 P w K mg base N "law" (cD st) f cdv A outer s H E).nox rest T W):
  FnOk P w K mg base c9 (k+1) f fd ["_law_script"] (spLaw K):=by
 refine F.ok Sc (λvs H Q E h=>?_) (λcdv A outer s H vs Q E hr h=>?_)
 ·obtain⟨a,ns,rfl,_⟩:=h;rfl
 ·obtain⟨a,ns,rfl,hS,hl,kk⟩:=h;obtain⟨s0,rest,T,e,p0,d⟩:=hbody cdv A outer s H E hr;rw[e];refine⟨_,gf p0 d.ps,?_⟩;rw[hN];refine⟨_,rfl,a,ns,rfl,hS,hl,λt l H1 T1 _=>?_⟩;refine d.sd ⟨t,l,ns,H1,λb=>b=t,λ_=>ah⟩ H1 (λb=>b=t) _ _ 0 oH _ (JF (a:=.ref a) (k:=N.length-2) T1) hW ⟨?_,?_,?_,?_,λ_ _ _ _ _ _ _ _ _ _ _ _ _ z=>z.elim⟩
  ·exact λ_ _ _ _ _ _ z=>z.elim
  ·intro H B σ δ n v w R r z;have z:w=.d (.bool ai):=z;subst z;cases(show RdX H B v (.bool ai)from r);exact kk H
  ·exact λ_ _ _ _ _ _ z=>z.elim
  ·exact λ_ _ _ _ _ _ z=>z.elim
end
section
variable{X:Cx}{elt tg iter:Expr}{ifs:List Expr}{scope:E5}{cl:List (Str×Addr)}{cpos pos pos':Pos}{N:List Str}{fr:List (Option Nat)}{wi:TI}{v:gJ}{g:TG}{gd:d7}{tt:TT}{cc:cj}{te:TE}{we:DT}{i:Nat}{x:Str}
theorem Of(h:jB t w):iB (dh t (gm i)) (bC i w):=λC H B σ δ n K D R q E=>
 h C H B σ δ n _ _ R q λa xs ds H1 n1 R1 k1 h0 h1 h2 h3 q1=>by
  refine E.nx _ _ _ _ _ (R.own R1 k1 h0 (by rw[h1];exact λz=>nomatch z) rfl ?_) q1;exact⟨a,xs,rfl,h1,.inr rfl,R.h0 h0,h2,h3⟩
theorem Tr(h:ee t w):iB (dh t (gm i)) (aB i w):=λC H B σ δ n K D R q E=>
 h C H B σ δ n _ _ R q λv x H1 n1 R1 _ r1 q1=>by
  cases x with
  |d d=>exact E.nx _ _ _ _ _ (R1.set r1 rfl) q1
  |tp=>exact E.nx _ _ _ _ _ (R1.set r1 rfl) q1
  |dk _=>exact q1.elim
  |ln _=>exact q1.elim
  |ob _=>exact E.nx _ _ _ _ _ (R1.set r1 rfl) q1
theorem Pn(hN:X.N.Nodup)(hix:X.N[i]?=ae x)(hx:X.env.scope.names.lookup x=ae .local)(hc:X.calm=ai)(S:CompSc X N scope cl fr)(hi:DI X tg iter wi v)(hg:∀s H fp,DG (c6 X N scope cl s H fp) tg g gd)(ht:∀s H fp,DIf (c6 X N scope cl s H fp) ifs tt cc)
  (he:∀s H fp,DE (c6 X N scope cl s H fp) elt te we) (hno:lr gd) (hs:∀x,D4 iter X.env x=pure x:=by intro _;rfl)
  (hsw:Da (.ListComp elt [⟨tg,iter,ifs,0⟩] scope cpos) (ae (.Name x pos')) pos.line X.env=pure ai:=by rfl):
  DS X (.Assign [.Name x pos'] (.ListComp elt [⟨tg,iter,ifs,0⟩] scope cpos) pos) (dh (n9 fr wi g tt te) (gm i)) (bC i (cG fr v gd cc we)):=
 ⟨EB hN hix hx hc S hi.pi (λs H fp=>(hg s H fp).pg) (λs H fp=>(ht s H fp).pf) (λs H fp=>(he s H fp).pe) hs hsw,Of (vg (pos:=cpos) hc S hi hg ht he hno hs).sd⟩
theorem K4(hN:X.N.Nodup)(hix:X.N[i]?=ae x)(hx:X.env.scope.names.lookup x=ae .local)(hc:X.calm=ai)(S:CompSc X N scope cl fr)(hi:DI X tg iter wi v)(hg:∀s H fp,DG (c6 X N scope cl s H fp) tg g gd)(ht:∀s H fp,DIf (c6 X N scope cl s H fp) ifs tt cc)
  (he:∀s H fp,DE (c6 X N scope cl s H fp) elt te we) (hno:lr gd) (hs:∀x,D4 iter X.env x=pure x:=by intro _;rfl)
  (hsw:Da (.ListComp elt [⟨tg,iter,ifs,0⟩] scope cpos) (ae (.Name x pos')) pos.line X.env=pure ai:=by rfl):
  DS X (.Assign [.Name x pos'] (.ListComp elt [⟨tg,iter,ifs,0⟩] scope cpos) pos) (dh (n9 fr wi g tt te) (gm i)) (aB i (br (cG fr v gd cc we))):=
 ⟨EB hN hix hx hc S hi.pi (λs H fp=>(hg s H fp).pg) (λs H fp=>(ht s H fp).pf) (λs H fp=>(he s H fp).pe) hs hsw,Tr (vg (pos:=cpos) hc S hi hg ht he hno hs).d.sd⟩
end
section
variable{X:Cx}{tg a b c e:Expr}{ta tb tc te:TE}{wa wb wc we:DT}{pos p:Pos}{K:Ah}
theorem tV(ha:DE X a ta wa)(hb:DE X b tb wb)(hK:X.K=K:=by rfl)(hs:mG b:=by exact λ_ _=>rfl):DE X (.Subscript a b pos) (dF (jz K) ta tb) (w2 wa wb az):=by subst hK;exact tD ha hb hs
def uX(K:Ah)(T:String):List V->Hp->VK->Prop:=λxs H Q=>∃x t b,xs=[x,.ty T]/\TyOf K H x t/\Fk K t (.type T)=ae b/\Q (.bl b) H
theorem JA{p p2:Pos}(hT:T="int"\/T="bool"\/T="str"\/T="tuple"\/T="list")(hg:Gl X "isinstance")(hm:X.mg "isinstance"=ah)(hg2:Gl X x)(hm2:X.mg x=ah)(hv:By x=ae (.type T))(ha:DE X a ta wa)(hK:X.K=K:=by rfl)(hn:x≠"__name__":=by decide)(hdb:(x==("__debug__":Str))=aj:=by decide)
  (he:As [a,.Name x p2] X.env=(aj,eval a X.env)::As [.Name x p2] X.env:=by rfl) (he2:As [.Name x p2] X.env=(aj,eval (.Name x p2) X.env)::As [] X.env:=by rfl) (hpl:(Ct pos (As [.Name x p2] X.env)).any (·.1)=aj:=by rfl):
  DE X (.Call (.Name "isinstance" p) [a,.Name x p2] [] pos) (fC (uX K T) (dA ta (dA (tC (.ty T)) bS))) (di T wa):=by subst hK;exact MV hT hg hm hg2 hm2 hv ha hn hdb he he2 hpl
def lP(K:Ah):R2:=λx y H Q=>pL x y H Q\/pH x y H Q\/qS K x y H Q
theorem o3(hu:X.A.units < Gr)(hK:X.K=K:=by rfl):OpR X (B3 .Eq) (lP K):=by subst hK;exact NJ hu
theorem m6:bw (lP K) aT:=IT
theorem tu(hK:X.K=K:=by rfl):OpR X (B3 .In) (il K aj):=by subst hK;exact Uq
theorem rq(hK:X.K=K:=by rfl):OpR X (B3 .NotIn) (il K ai):=by subst hK;exact S6
def v7(K:Ah):List V->Hp->VK->Prop:=λxs H Q=>(∃z,xs=[.str z]/\z.length<=Ay/\Q (.int z.length) H)\/∃p ys,xs=[.ref p]/\(SqL K H p ys\/SqT K H p ys)/\Q (.int ys.length) H
theorem yU(hK:X.K=K:=by rfl):CallR X (.builtin "len") (v7 K):=by subst hK;exact M3
theorem yo:eZ (v7 K) bF:=RA
def wz(K:Ah):List V->Hp->VK->Prop:=λxs H Q=>∃p ys,xs=[.ref p]/\((SqL K H p ys/\∀l,H l=ah->Q (.ref l) (upd H l (.tup ys)))\/(SqT K H p ys/\Q (.ref p) H))
theorem EE(hK:X.K=K:=by rfl):CallR X (.type "tuple") (wz K):=by subst hK;exact Pq
theorem xl:eZ (wz K) dM:=Li
def yw(K:Ah):List V->Hp->VK->Prop:=λxs H Q=>∃p ys,xs=[.ref p]/\(SqL K H p ys\/SqT K H p ys)/\∀l,H l=ah->Q (.ref l) (upd H l (.lst ys))
theorem LS(hK:X.K=K:=by rfl):CallR X (.type "list") (yw K):=by subst hK;exact RL
theorem Ny(ha:DE X a ta wa)(hK:X.K=K:=by rfl):DI X tg a (uQ K ta) (je wa):=by subst hK;exact PF ha
theorem TZ(ha:DE X a ta wa)(hK:X.K=K:=by rfl):DI X tg a (kE K ta) (dS wa):=by subst hK;exact K1 ha
theorem NA{k:Nat}{n:Nat}(h:DGs X es t r)(hc:X.calm=ai:=by rfl)(hK:X.K=K:=by rfl)
  (hn:(D8 es X.env).length=n:=by rfl) (hst:(D8 es X.env).findIdx? (·.1)=ah:=by rfl):DG X (.Tuple es k pos) (ku K n t) (dO n r):=by subst hK;exact Lq h hc hn hst
end
end DL
local macro_rules|`(⇑$n:num)=>`(DL.wC (.int $n))
local macro_rules|`(↥$n:num)=>`(DL.ak $n)
namespace KS
open PySem PySem.W PyProof.Rows
def run{α:Type}(c:Nat->Nat->Bool):KasT α->α
 |.ret a=>a
 |.ask i j k=>run c (k (c i j))
theorem mO(c)(f:α->KasT β):∀t:KasT α,run c (t.bind f)=run c (f (run c t))
 |.ret _=>rfl
 |.ask i j k=>mO c f (k (c i j))
def Wi{α:Type}(n:Nat)(P:α->Prop):KasT α->Prop
 |.ret a=>P a
 |.ask i j k=>i < n/\j < n/\∀b,Wi n P (k b)
theorem Wi.bind{f:α->KasT β}(hf:∀a,P a->Wi n R (f a)):∀{t:KasT α},Wi n P t->Wi n R (t.bind f)
 |.ret a,h=>hf a h
 |.ask i j k,h=>⟨h.1,h.2.1,λb=>Wi.bind hf (h.2.2 b)⟩
theorem Wi.out(c):∀{t:KasT α},Wi n P t->P (run c t)
 |.ret a,h=>h
 |.ask i j k,h=>Wi.out c (t:=k (c i j)) (h.2.2 (c i j))
theorem wp_run{St:Ai->Prop}
  (hc:∀i j C s,i < n->j < n->St s->(∀s',St s'->C (c i j) s')->cmp i j C s):∀(t:KasT α)(s:Ai),Wi n P t->St s->(∀s',St s'->Q (run c t) s')->t.kasWp cmp Q s
 |.ret a,s,_,hs,h=>h s hs
 |.ask i j k,s,w,hs,h=>hc i j _ s w.1 w.2.1 hs λs' hs'=>wp_run hc (k (c i j)) s' (w.2.2 _) hs' h
def Lo(n:Nat)(p:Array Nat):Prop:=∀i,p.getD i 0 < n
theorem j4(p:Array Nat)(i):p.getD i 0=(p[i]?).getD 0:=by simp
theorem Rk(hn:0 < n)(h:∀x∈p,x < n):Lo n p:=λi=>by
 rw[j4];cases e:p[i]? with
 |none=>exact hn
 |some x=>exact h x (Array.mem_of_getElem? e)
def Pm(n:Nat)(p:Array Nat):Prop:=p.Perm (C8 (Bi n))
theorem Pm.size(h:Pm n p):p.size=n:=by rw[Array.Perm.size_eq h];simp
theorem Pm.lo(hn:0 < n)(h:Pm n p):Lo n p:=Rk hn λx hx=>by
 have:x∈C8 (Bi n):=(Array.Perm.mem_iff h).mp hx;simpa using this
theorem Pm.rev(h:Pm n p)(i j):Pm n (Es p i j):=(mirror_perm p i j _).trans h
theorem Pm.bub(h:Pm n p)(i j):Pm n (bubble p i j):=(bubble_perm p i j).trans h
section
variable{n:Nat}(hn:0 < n)
include hn
theorem v3(h:Lo n p):∀f m,Wi n (λ_=>True) (kas_asc p f m)
 |0,m=>trivial
 |f+1,m=>⟨h _,h _,λb=>by
  cases b with
  |true=>exact trivial
  |false=>exact v3 h f (m+1)⟩
theorem qx:∀f (p:Array Nat) m q,Pm n p->Wi n (λr=>Pm n r.1) (kas_desc f p m q)
 |0,p,m,q,h=>h
 |f+1,p,m,q,h=>⟨h.lo hn _,h.lo hn _,λb=>by
  cases b with
  |true=>
   show Wi n _ (if q > 0 then _ else _)
   split
   ·exact qx f _ _ _ (h.rev _ _)
   ·exact qx f _ _ _ h
  |false=>exact⟨h.lo hn _,h.lo hn _,λd=>by
    cases d with
    |true=>exact h
    |false=>exact qx f _ _ _ h⟩⟩
theorem ya(m nrem)(h:Pm n p):Wi n (λr=>Pm n r.2) (kas_tail3 m nrem p):=by
 unfold kas_tail3;refine Wi.bind (P:=λ_=>True) (λa _=>?_) (v3 hn ((h.rev 0 m).lo hn) _ _);show Pm n (Es p 0 m);exact h.rev _ _
theorem yR(m nrem)(h:Pm n p):Wi n (λr=>Pm n r.2) (kas_descPart m nrem p):=
 Wi.bind (λr hr=>by
  show Wi n _ (if r.2.2 > 0 then _ else _)
  split
  ·exact ya hn _ _ (Pm.rev hr _ _)
  ·exact ya hn _ _ hr) (qx hn _ p _ _ h)
theorem Q6(nrem)(h:Pm n p):Wi n (λr=>Pm n r.2) (kas_count nrem p):=
 Wi.bind (λm _=>by
  show Wi n _ (if (m==nrem)=ai then _ else if m > 1 then _ else _)
  split
  ·exact h
  ·split
   ·exact⟨h.lo hn _,h.lo hn _,λb=>by
     cases b with
     |true=>exact h
     |false=>exact yR hn _ _ (h.rev _ _)⟩
   ·exact yR hn _ _ h) (v3 hn (h.lo hn) _ _)
theorem tN(h:Lo n p)(k):∀f l r,Wi n (λ_=>True) (kas_place p k f l r)
 |0,l,r=>trivial
 |f+1,l,r=>by
  show Wi n _ (if l ≥ r then _ else _)
  split
  ·exact trivial
  ·exact⟨h _,h _,λb=>by
    cases b with
    |true=>exact tN h k f _ _
    |false=>exact tN h k f _ _⟩
theorem GU:∀f (p:Array Nat) k,Pm n p->Wi n (Pm n) (kas_bin f p k)
 |0,p,k,h=>h
 |f+1,p,k,h=>Wi.bind (λl _=>GU f _ _ (h.bub _ _)) (tN hn (h.lo hn) k _ _ _)
theorem wi_sort:Wi n (Pm n) (kas_sort n):=
 Wi.bind (λr hr=>by
  show Wi n _ (if r.1 < n then _ else _)
  split
  ·exact GU hn _ _ _ hr
  ·exact hr) (Q6 hn n (Array.Perm.refl _))
end
structure Ord(lt:Nat->Nat->Bool):Prop where
 asym:∀i j,lt i j=ai->lt j i=aj
 ltr:∀i j k,lt j i=aj->lt k j=aj->lt k i=aj
section
variable{lt:Nat->Nat->Bool}(O:Ord lt)
def g(p:Array Nat)(i:Nat):Nat:=p.getD i 0
def SP(lt:Nat->Nat->Bool)(p:Array Nat)(n:Nat):Prop:=∀i j,i < j->j < n->lt (g p j) (g p i)=aj
def DP(lt:Nat->Nat->Bool)(p:Array Nat)(n:Nat):Prop:=∀i j,i < j->j < n->lt (g p i) (g p j)=aj
def Sim(lt:Nat->Nat->Bool)(x y:Nat):Prop:=lt x y=aj/\lt y x=aj
include O
theorem jm(i):lt i i=aj:=by
 cases e:lt i i with
 |false=>rfl
 |true=>exact(O.asym i i e).symm.trans e |>.symm▸rfl
theorem Sim.eq(h1:Sim lt a x)(h2:Sim lt b y):lt a b=lt x y:=by
 cases e:lt x y with
 |false=>exact O.ltr _ _ _ h2.2 (O.ltr _ _ _ e h1.1)
 |true=>
  cases e2:lt a b with
  |true=>rfl
  |false=>
   have:lt x y=aj:=O.ltr _ _ _ h2.1 (O.ltr _ _ _ e2 h1.2);rw[this]at e;cases e
theorem SP.snoc(h:SP lt p n)(h1:1<=n)(e:lt (g p n) (g p (n-1))=aj):SP lt p (n+1):=λi j hij hj=>by
 by_cases q:j < n
 ·exact h i j hij q
 ·have:j=n:=by omega
  subst this;by_cases r:i=j-1
  ·subst r;exact e
  ·exact O.ltr _ _ _ (h i (j-1) ⋯ ⋯) e
theorem uZ:∀f n,1<=n->SP lt p n->n<=run lt (kas_asc p f n)/\run lt (kas_asc p f n)<=n+f/\SP lt p (run lt (kas_asc p f n))/\(run lt (kas_asc p f n)=n+f\/lt (g p (run lt (kas_asc p f n))) (g p (run lt (kas_asc p f n)-1))=ai)
 |0,n,h1,h=>⟨Ao _,Ao _,h,.inl rfl⟩
 |f+1,n,h1,h=>by
  have e:run lt (kas_asc p (f+1) n)=run lt (if lt (g p n) (g p (n-1))=ai then .ret n else kas_asc p f (n+1)):=rfl;rw[e];cases q:lt (g p n) (g p (n-1))with
  |true=>exact⟨Ao _,Nat.le_add_right _ _,h,.inr q⟩
  |false=>
   rw[if_neg Ag];obtain⟨a1,a2,a3,a4⟩:=uZ f (n+1) ⋯ (SP.snoc O h h1 q);exact⟨by omega,by omega,a3,a4.imp (λz=>by omega) id⟩
omit O
theorem rY(hj:j<=p.size)(k):g (Es p i j) k=if i<=k/\k < j then g p (i+j-1-k)else g p k:=by
 unfold g Es;rw[j4,j4,j4,getElem?_mirror hj _ ⋯];by_cases h:i<=k/\k < j
 ·rw[if_pos h];by_cases q:(i<=k/\k < i+(j-i) / 2)\/(j-(j-i) / 2<=k/\k < j)
  ·rw[if_pos q]
  ·rw[if_neg q];have:i+j-1-k=k:=by omega
   rw[this]
 ·rw[if_neg h,if_neg ⋯]
include O
theorem tw(hj:j<=p.size)(h:∀a b,i<=a->a < j->i<=b->b < j->Sim lt (g p a) (g p b))(k):Sim lt (g (Es p i j) k) (g p k):=by
 rw[rY hj]
 split
 ·rename_i q;exact h _ _ ⋯ ⋯ q.1 q.2
 ·exact⟨jm O _,jm O _⟩
theorem DP.sim(h:DP lt p n)(s:∀k,Sim lt (g p' k) (g p k)):DP lt p' n:=λi j hij hj=>(Sim.eq O (s i) (s j)).trans (h i j hij hj)
theorem DP.snoc(h:DP lt p n)(h1:1<=n)(e:lt (g p (n-1)) (g p n)=aj):DP lt p (n+1):=λi j hij hj=>by
 by_cases q:j < n
 ·exact h i j hij q
 ·have:j=n:=by omega
  subst this;by_cases r:i=j-1
  ·subst r;exact e
  ·exact O.ltr _ _ _ e (h i (j-1) ⋯ ⋯)
omit O
def wM(lt:Nat->Nat->Bool)(sz n f:Nat)(r:Array Nat×Nat×Nat):Prop:=
 r.1.size=sz/\n<=r.2.1/\r.2.1<=n+f/\r.2.2+1<=r.2.1/\DP lt r.1 r.2.1/\(∀a b,r.2.1-(r.2.2+1)<=a->a < r.2.1->r.2.1-(r.2.2+1)<=b->b < r.2.1->Sim lt (g r.1 a) (g r.1 b))
def jT(lt:Nat->Nat->Bool)(sz nrem:Nat)(r:Nat×Array Nat):Prop:=r.2.size=sz/\1<=r.1/\r.1<=nrem/\SP lt r.2 r.1
def tU(lt:Nat->Nat->Bool)(p:Array Nat)(k m:Nat):Prop:=m<=k/\(∀i,i < m->lt (g p k) (g p i)=aj)/\(∀i,m<=i->i < k->lt (g p k) (g p i)=ai)
include O
theorem pF:∀f (p:Array Nat) n q,q+1<=n->n+f<=p.size->DP lt p n->(∀a b,n-(q+1)<=a->a < n->n-(q+1)<=b->b < n->Sim lt (g p a) (g p b))->
  wM lt p.size n f (run lt (kas_desc f p n q))
 |0,p,n,q,h1,h2,h3,h4=>⟨rfl,Ao _,Ao _,h1,h3,h4⟩
 |f+1,p,n,q,h1,h2,h3,h4=>by
  have one:∀(p':Array Nat)(m:Nat)(a b:Nat),m+1-(0+1)<=a->a < m+1->m+1-(0+1)<=b->b < m+1->Sim lt (g p' a) (g p' b):=λp' m a b ha ha' hb hb'=>by
   have e1:a=m:=by omega
   have e2:b=m:=by omega
   rw[e1,e2];exact⟨jm O _,jm O _⟩
  show wM lt p.size n (f+1) (run lt (if lt (g p n) (g p (n-1))=ai then(if q > 0 then kas_desc f (Es p (n-(q+1)) n) (n+1) 0 else kas_desc f p (n+1) 0)else .ask (p.getD (n-1) 0) (p.getD n 0) λd=>if d=ai then .ret (p,n,q)else kas_desc f p (n+1) (q+1)));cases c1:lt (g p n) (g p (n-1))with
  |true=>
   rw[if_pos rfl];by_cases hq:q > 0
   ·rw[if_pos hq];have sim:=tw O (p:=p) (i:=n-(q+1)) (j:=n) ⋯ h4;have hd:DP lt (Es p (n-(q+1)) n) (n+1):=DP.sim O (DP.snoc O h3 ⋯ (O.asym _ _ c1)) sim;have hs:(Es p (n-(q+1)) n).size=p.size:=mirror_size _ _ _ _;obtain⟨a1,a2,a3,a4,a5,a6⟩:=pF f (Es p (n-(q+1)) n) (n+1) 0 ⋯ (by rw[hs];omega) hd (one _ n);exact⟨a1.trans hs,by omega,by omega,a4,a5,a6⟩
   ·rw[if_neg hq];obtain⟨a1,a2,a3,a4,a5,a6⟩:=pF f p (n+1) 0 ⋯ ⋯ (DP.snoc O h3 ⋯ (O.asym _ _ c1)) (one _ n);exact⟨a1,by omega,by omega,a4,a5,a6⟩
  |false=>
   rw[if_neg Ag];show wM lt p.size n (f+1) (run lt (if lt (g p (n-1)) (g p n)=ai then .ret (p,n,q)else kas_desc f p (n+1) (q+1)));cases c2:lt (g p (n-1)) (g p n)with
   |true=>exact⟨rfl,Ao _,by show n<=n+(f+1);omega,h1,h3,h4⟩
   |false=>
    rw[if_neg Ag];have s1:Sim lt (g p n) (g p (n-1)):=⟨c1,c2⟩;have tr:∀{x y z:Nat},Sim lt x y->Sim lt y z->Sim lt x z:=λh h'=>⟨O.ltr _ _ _ h'.1 h.1,O.ltr _ _ _ h.2 h'.2⟩;obtain⟨a1,a2,a3,a4,a5,a6⟩:=pF f p (n+1) (q+1) ⋯ ⋯ (DP.snoc O h3 ⋯ c2) (λa b ha ha' hb hb'=>by
     have key:∀x,n+1-(q+1+1)<=x->x < n+1->Sim lt (g p x) (g p (n-1)):=λx hx hx'=>by
      by_cases e:x=n
      ·rw[e];exact s1
      ·exact h4 x (n-1) ⋯ ⋯ ⋯ ⋯
     have kb:=key b hb hb';exact tr (key a ha ha') ⟨kb.2,kb.1⟩)
    exact⟨a1,by omega,by omega,a4,a5,a6⟩
theorem BR(h1:1<=n)(hn:n<=nrem)(hz:nrem<=p.size)(h:DP lt p n):jT lt p.size nrem (run lt (kas_tail3 n nrem p)):=by
 unfold kas_tail3;rw[mO];have hs:(Es p 0 n).size=p.size:=mirror_size _ _ _ _;have sp:SP lt (Es p 0 n) n:=λi j hij hj=>by
  rw[rY ⋯,rY ⋯,if_pos ⟨Br _,hj⟩,if_pos ⟨Br _,by omega⟩];exact h _ _ ⋯ ⋯
 obtain⟨a1,a2,a3,_⟩:=uZ O (p:=Es p 0 n) (nrem-n) n h1 sp;exact⟨hs,by show 1<=run lt (kas_asc (Es p 0 n) (nrem-n) n);omega,by show run lt (kas_asc (Es p 0 n) (nrem-n) n)<=nrem;omega,a3⟩
theorem BC(h1:1<=n)(hn:n+1<=nrem)(hz:nrem<=p.size)(h:DP lt p (n+1)):jT lt p.size nrem (run lt (kas_descPart n nrem p)):=by
 unfold kas_descPart;rw[mO];obtain⟨a1,a2,a3,a4,a5,a6⟩:=pF O (nrem-(n+1)) p (n+1) 0 ⋯ ⋯ h (λa b ha ha' hb hb'=>by
  have e1:a=n:=by omega
  have e2:b=n:=by omega
  rw[e1,e2];exact⟨jm O _,jm O _⟩)
 generalize run lt (kas_desc (nrem-(n+1)) p (n+1) 0)=r at a1 a2 a3 a4 a5 a6;by_cases hq:r.2.2 > 0
 ·rw[if_pos hq];have hs:(Es r.1 (r.2.1-(r.2.2+1)) r.2.1).size=r.1.size:=mirror_size _ _ _ _;obtain⟨b1,b2⟩:=BR O (p:=Es r.1 (r.2.1-(r.2.2+1)) r.2.1) (n:=r.2.1) (nrem:=nrem) ⋯ ⋯ (by rw[hs];omega) (DP.sim O a5 (tw O ⋯ a6));exact⟨b1.trans (hs.trans a1),b2⟩
 ·rw[if_neg hq];obtain⟨b1,b2⟩:=BR O (p:=r.1) (n:=r.2.1) (nrem:=nrem) ⋯ ⋯ ⋯ a5;exact⟨b1.trans a1,b2⟩
theorem Jz(h1:1<=nrem)(hz:nrem<=p.size):jT lt p.size nrem (run lt (kas_count nrem p)):=by
 unfold kas_count;rw[mO];obtain⟨a1,a2,a3,a4⟩:=uZ O (p:=p) (nrem-1) 1 (Ao _) (λi j hij hj=>by omega);generalize run lt (kas_asc p (nrem-1) 1)=m at a1 a2 a3 a4;by_cases q:(m==nrem)=ai
 ·rw[if_pos q];exact⟨rfl,a1,by show m<=nrem;omega,a3⟩
 ·rw[if_neg q];have hm:m≠nrem:=λz=>q (by rw[z];exact beq_self_eq_true _);have a4:lt (g p m) (g p (m-1))=ai:=a4.resolve_left ⋯;by_cases hm1:m > 1
  ·rw[if_pos hm1];show jT lt p.size nrem (run lt (if lt (g p 0) (g p (m-1))=ai then .ret (m,p)else kas_descPart m nrem (Es p 0 m)));cases c:lt (g p 0) (g p (m-1))with
   |true=>exact⟨rfl,a1,by show m<=nrem;omega,a3⟩
   |false=>
    rw[if_neg Ag];have hs:(Es p 0 m).size=p.size:=mirror_size _ _ _ _;have up:∀a b,a < m->b < m->lt (g p b) (g p a)=aj:=λa b ha hb=>by
     have le0:lt (g p a) (g p 0)=aj:=by
      by_cases z:a=0
      ·rw[z];exact jm O _
      ·exact a3 0 a ⋯ ha
     have leb:lt (g p (m-1)) (g p b)=aj:=by
      by_cases z:b=m-1
      ·rw[z];exact jm O _
      ·exact a3 b (m-1) ⋯ ⋯
     have l1:lt (g p b) (g p 0)=aj:=by
      by_cases z:b=0
      ·rw[z];exact jm O _
      ·exact a3 0 b ⋯ hb
     have l2:lt (g p 0) (g p a)=aj:=O.ltr _ _ _ (by
      by_cases z:a=m-1
      ·rw[z];exact jm O _
      ·exact a3 a (m-1) ⋯ ⋯) c
     exact O.ltr _ _ _ l2 l1
    have all:∀a b,0<=a->a < m->0<=b->b < m->Sim lt (g p a) (g p b):=λa b _ ha _ hb=>⟨up b a hb ha,up a b ha hb⟩;have sim:=tw O (p:=p) (i:=0) (j:=m) ⋯ all;have dp:DP lt p (m+1):=DP.snoc O (λi j hij hj=>up j i hj ⋯) a1 (O.asym _ _ a4);obtain⟨b1,b2⟩:=BC O (p:=Es p 0 m) (n:=m) (nrem:=nrem) a1 ⋯ (by rw[hs];omega) (DP.sim O dp sim);exact⟨b1.trans hs,b2⟩
  ·rw[if_neg hm1];have e:m=1:=by omega
   subst e;exact BC O (p:=p) (Ao _) ⋯ hz (DP.snoc O (λi j hij hj=>by omega) (Ao _) (O.asym _ _ a4))
theorem vh(h:SP lt p k):∀f l r,l<=r->r<=k->r-l<=f->(∀i,i < l->lt (g p k) (g p i)=aj)->(∀i,r<=i->i < k->lt (g p k) (g p i)=ai)->
  tU lt p k (run lt (kas_place p k f l r))
 |0,l,r,hlr,hr,hf,h1,h2=>by
  have e:l=r:=by omega
  subst e;exact⟨hr,h1,h2⟩
 |f+1,l,r,hlr,hr,hf,h1,h2=>by
  show tU lt p k (run lt (if l ≥ r then .ret l else .ask (p.getD k 0) (p.getD ((l+r) / 2) 0) λc=>if c=ai then kas_place p k f l ((l+r) / 2)else kas_place p k f ((l+r) / 2+1) r));by_cases q:l ≥ r
  ·rw[if_pos q];have e:l=r:=by omega
   subst e;exact⟨hr,h1,h2⟩
  ·rw[if_neg q];show tU lt p k (run lt (if lt (g p k) (g p ((l+r) / 2))=ai then kas_place p k f l ((l+r) / 2)else kas_place p k f ((l+r) / 2+1) r));cases c:lt (g p k) (g p ((l+r) / 2))with
   |true=>
    rw[if_pos rfl];refine vh h f l ((l+r) / 2) ⋯ ⋯ ⋯ h1 λi hi hik=>?_;by_cases e:i=(l+r) / 2
    ·rw[e];exact c
    ·cases z:lt (g p k) (g p i)with
     |true=>rfl
     |false=>
      have:=O.ltr _ _ _ (h ((l+r) / 2) i ⋯ hik) z;rw[this]at c;cases c
   |false=>
    rw[if_neg Ag];refine vh h f ((l+r) / 2+1) r ⋯ hr ⋯ (λi hi=>?_) h2;by_cases e:i=(l+r) / 2
    ·rw[e];exact c
    ·exact O.ltr _ _ _ (h i ((l+r) / 2) ⋯ ⋯) c
omit O
theorem GL(hk:k < p.size)(hl:l<=k)(i):g (bubble p k (k-l)) i=if i=l then g p k else if l < i/\i<=k then g p (i-1)else g p i:=by
 unfold g;rw[j4,getElem?_bubble hk _ ⋯,j4,j4,j4];have e:k-(k-l)=l:=by omega
 rw[e];by_cases h1:i=l
 ·rw[if_pos h1,if_pos h1]
 ·rw[if_neg h1,if_neg h1];by_cases h2:l < i/\i<=k
  ·rw[if_pos h2,if_pos h2]
  ·rw[if_neg h2,if_neg h2]
include O
theorem xJ:∀f (p:Array Nat) k,1<=k->k+f<=p.size->SP lt p k->SP lt (run lt (kas_bin f p k)) (k+f)
 |0,p,k,h1,hz,h=>h
 |f+1,p,k,h1,hz,h=>by
  show SP lt (run lt ((kas_place p k k 0 k).bind λl=>kas_bin f (bubble p k (k-l)) (k+1))) (k+(f+1));rw[mO];obtain⟨b1,b2,b3⟩:=vh O h k 0 k (Br _) (Ao _) ⋯ (λi hi=>by omega) (λi hi hi'=>by omega);generalize run lt (kas_place p k k 0 k)=l at b1 b2 b3;have sp:SP lt (bubble p k (k-l)) (k+1):=λi j hij hj=>by
   rw[GL ⋯ b1,GL ⋯ b1];by_cases e1:j=l
   ·rw[if_pos e1,if_neg ⋯,if_neg ⋯];exact b2 i ⋯
   ·rw[if_neg e1];by_cases e2:l < j/\j<=k
    ·rw[if_pos e2];by_cases e3:i=l
     ·rw[if_pos e3];exact O.asym _ _ (b3 (j-1) ⋯ ⋯)
     ·rw[if_neg e3];by_cases e4:l < i/\i<=k
      ·rw[if_pos e4];exact h (i-1) (j-1) ⋯ ⋯
      ·rw[if_neg e4];exact h i (j-1) ⋯ ⋯
    ·rw[if_neg e2,if_neg ⋯,if_neg ⋯];exact h i j hij ⋯
  have:=xJ f (bubble p k (k-l)) (k+1) ⋯ (by rw[bubble_size];omega) sp;have e:k+1+f=k+(f+1):=by omega
  rwa [e]at this
theorem sort_ok(h1:1<=n):SP lt (run lt (kas_sort n)) n:=by
 unfold kas_sort;rw[mO];obtain⟨a1,a2,a3,a4⟩:=Jz O (p:=C8 (Bi n)) (nrem:=n) h1 (by simp);generalize run lt (kas_count n (C8 (Bi n)))=r at a1 a2 a3 a4;have hs:r.2.size=n:=by rw[a1];simp
 by_cases q:r.1 < n
 ·rw[if_pos q];have e:max r.1 1=r.1:=by omega
  rw[e];have:=xJ O (n-r.1) r.2 r.1 a2 ⋯ a4;have e2:r.1+(n-r.1)=n:=by omega
  rwa [e2]at this
 ·rw[if_neg q];have e:r.1=n:=by omega
  rw[e]at a4;exact a4
end
end KS
namespace KS
open PySem PySem.W PySem.Calls PyProof.Rows
section
variable{prog:A7}{w:Bk}{A:Bu}{E:Af->Ai->Prop}{s:Ai}{a:Addr}{vs:List Af}
theorem ls_sort(ho:s.heap.get? a=ae (Cn "list" vs.toArray n))(h2:2<=vs.length)(h64:vs.length < 64)
  (h:∀e1 h',h'.get? a=ae (Cn "list" #[] e1)->(∀b o,b≠a->s.heap.get? b=ae o->h'.get? b=ae o)->
   A2 (A6 prog w) A (keyKind' vs.toArray) (λκ s'=>(kas_sort vs.length).kasWp (kas_ask prog w A κ vs)
    (λp s''=>s''.heap.get? a=ae (Cn "list" #[] e1)/\∀h3 c,C9 a s''.heap h3->h3.get? a=ae (Cn "list" (C8 (p.toList.map λi=>vs.getD i Bh)) c)->P (.done (.ret .none)) {s'' with heap:=h3}) s') (λ_ _=>False) {s with heap:=h'}):
  A2 (A6 prog w) A (D7.«list.sort» ⟨[.ref a],[]⟩) P E s:=by
 have ha:a < s.heap.objs.size:=Aq ho;have s1:=Bm s.heap a (Cw λ_=>(#[]:Array Af));obtain⟨e1,ho1⟩:∃e1,(s.heap.update a (Cw λ_=>(#[]:Array Af))).get? a=ae (Cn "list" #[] e1):=⟨_,get?_update_seq ho λ_=>#[]⟩;have ask:=h e1 (((s.heap.update a (Cw λ_=>(#[]:Array Af))).push (Cn "tuple" vs.toArray 0)).push (Cn "list" #[] 0)) (Ae _ (Ae _ ho1))
  λb o hb e=>Ae _ (Ae _ ((s1.2 b hb).trans e))
 rw[list_sort_plain];refine Aa (listItems_at ho rfl ?_);refine Aa (listUpdate_at ho rfl ?_ (by rw[A4,Eh];omega) (Br _));refine Aa (seqEpoch_at ho1 rfl ?_);refine Aa (wpAny_newTuple ?_ (by show vs.length<=_;rw[Eh];omega));refine Aa (wpAny_newList ?_ (Br _));refine Ce ?_;show A2 (A6 prog w) A _ P E {s with heap:=((s.heap.update a (Cw λ_=>(#[]:Array Af))).push (Cn "tuple" vs.toArray 0)).push (Cn "list" #[] 0)};dsimp only;have hn2:¬vs.toArray.size < 2:=by rw[A4];omega
 rw[if_neg hn2,if_neg hn2];refine Aa (B4 ask (λκ s0 hk=>?_) λ_ _ x=>x.elim);refine Aa (B4 (kat_run (Q:=λst' s'=>∃p:Array Nat,p.size=vs.length/\arrOf st'=p.map (kas_item (vs.toArray.zip vs.toArray))/\failedOf st'=ah/\s'.heap.get? a=ae (Cn "list" #[] e1)/\∀h3 c,C9 a s'.heap h3->h3.get? a=ae (Cn "list" (C8 (p.toList.map λi=>vs.getD i Bh)) c)->P (.done (.ret .none)) {s' with heap:=h3})
  rfl h2 h64 (λp' st' s' a1 a2 a3 a4=>⟨p',a1,a2,a3,a4⟩) hk) ?_ λ_ _ e=>e)
 rintro⟨⟨⟩,st'⟩ s' ⟨p,hp,har,hf,na,k⟩
 dsimp only;have hout:=kat_snds rfl har;have hsz:(C8 (p.toList.map λi=>vs.getD i Bh)).size=vs.length:=by rw[A4,Ad,C3,hp]
 rw[hout];have s2:=Bm s'.heap a (Cw λ_=>C8 (p.toList.map λi=>vs.getD i Bh));obtain⟨c2,hc2⟩:∃c2,(s'.heap.update a (Cw λ_=>C8 (p.toList.map λi=>vs.getD i Bh))).get? a=ae (Cn "list" (C8 (p.toList.map λi=>vs.getD i Bh)) c2):=⟨_,get?_update_seq na λ_=>C8 (p.toList.map λi=>vs.getD i Bh)⟩;refine Aa (seqEpoch_at na rfl ?_);refine Aa (listUpdate_at na rfl ?_ (Br _) (A9 (Nat.le_of_eq hsz) (by rw[Eh];omega)));rw[hf];simp only[bne_self_eq_false,Cu,if_false];exact Aj (k _ c2 s2 hc2)
theorem ls_short(ho:s.heap.get? a=ae (Cn "list" vs.toArray n))(h2:vs.length < 2)
  (h:∀h' c,h'.get? a=ae (Cn "list" vs.toArray c)->(∀b o,b≠a->s.heap.get? b=ae o->h'.get? b=ae o)->P (.done (.ret .none)) {s with heap:=h'}):
  A2 (A6 prog w) A (D7.«list.sort» ⟨[.ref a],[]⟩) P E s:=by
 have ha:a < s.heap.objs.size:=Aq ho;have s1:=Bm s.heap a (Cw λ_=>(#[]:Array Af));obtain⟨e1,ho1⟩:∃e1,(s.heap.update a (Cw λ_=>(#[]:Array Af))).get? a=ae (Cn "list" #[] e1):=⟨_,get?_update_seq ho λ_=>#[]⟩;have ho6:(((s.heap.update a (Cw λ_=>(#[]:Array Af))).push (Cn "tuple" vs.toArray 0)).push (Cn "list" #[] 0)).get? a=ae (Cn "list" #[] e1):=Ae _ (Ae _ ho1);rw[list_sort_plain];refine Aa (listItems_at ho rfl ?_);refine Aa (listUpdate_at ho rfl ?_ (by rw[A4,Eh];omega) (Br _));refine Aa (seqEpoch_at ho1 rfl ?_);refine Aa (wpAny_newTuple ?_ (by show vs.length<=_;rw[Eh];omega));refine Aa (wpAny_newList ?_ (Br _));refine Ce ?_;show A2 (A6 prog w) A _ P E {s with heap:=((s.heap.update a (Cw λ_=>(#[]:Array Af))).push (Cn "tuple" vs.toArray 0)).push (Cn "list" #[] 0)};dsimp only;have hn2:vs.toArray.size < 2:=by rw[A4];omega
 rw[if_pos hn2,if_pos hn2];refine Aa (Aj ?_);rw[StateT.run_pure];refine Aa (Aj ?_);dsimp only;refine Aa (seqEpoch_at ho6 rfl ?_);refine Aa (listUpdate_at ho6 rfl ?_ (hsz2:=by rw[Array.size_map];show(pairsOf vs).size<=_;rw[pairsOf_size,Eh];omega));simp only[bne_self_eq_false,Cu,if_false];have e:(arrOf (SortSt.mk' general' (vs.toArray.zip vs.toArray) #[] 7 ah)).map (·.2)=vs.toArray:=by
  show(vs.toArray.zip vs.toArray).map (·.2)=vs.toArray;apply Array.toList_inj.mp;simp only[Array.toList_map,Array.toList_zip];exact List.map_snd_zip (Ao _)
 have s2:=Bm (((s.heap.update a (Cw λ_=>(#[]:Array Af))).push (Cn "tuple" vs.toArray 0)).push (Cn "list" #[] 0)) a (Cw λ_=>(arrOf (SortSt.mk' general' (vs.toArray.zip vs.toArray) #[] 7 ah)).map (·.2));refine Aj (h _ _ (by rw[e];exact get?_update_seq ho6 λ_=>vs.toArray) λb o hb q=>(s2.2 b hb).trans (Ae _ (Ae _ ((s1.2 b hb).trans q))))
theorem sorted_of(hcol:A2 (A6 prog w) A.in1 (collect r) R E s)
  (h:∀vs s1,R vs s1->vs.length<=Ay/\A2 (A6 prog w) A.in1.in1 (D7.«list.sort» ⟨[.ref s1.heap.objs.size],[]⟩) (λf s2=>f=.done (.ret .none)/\Q (.ref s1.heap.objs.size) s2) E {s1 with heap:=s1.heap.push (Cn "list" vs.toArray 0)}):
  A2 (A6 prog w) A (call (.builtin "sorted") [r]) Q E s:=by
 refine Calls.call_function_entry kind_sorted plain_sorted entry_sorted (args_sorted1 _) ?_;unfold D7.«sorted»;refine Aa (m:=checkCount "sorted" 1 1 _) (Aj ?_);refine Aa (B4 hcol (λvs s1 hr=>?_) λ_ _ e=>e);obtain⟨hl,hs⟩:=h vs s1 hr;refine Aa (wpAny_newList ?_ hl);have hoL:(s1.heap.push (Cn "list" vs.toArray 0)).get? s1.heap.objs.size=ae (Cn "list" vs.toArray 0):=Az _ rfl;refine Aa (Ce (Cb (s:={ s1 with heap:=s1.heap.push (Cn "list" vs.toArray 0)}) slot_list_sort ⟨_,hoL,rfl⟩ entry_list_sort ?body (args_list_sort _)))
 case body=>
  refine B4 hs (λf s2 hf=>?_) λ_ _ e=>e;obtain⟨rfl,hq⟩:=hf;exact⟨_,rfl,Aj ⟨_,rfl,hq⟩⟩
def ItsOk(h:Heap)(as:List Addr)(ks:List Str)(xs:List Af):Prop:=
 as.length=ks.length/\as.length=xs.length/\∀(j:Nat)(a:Addr),as[j]?=ae a->∃k t x,ks[j]?=ae k/\xs[j]?=ae x/\h.get? a=ae {cls:=.type "tuple",data:=.seq #[.str k t,x]}
def ltK(ks:List Str)(i j:Nat):Bool:=decide ((ks.getD i ⟨#[]⟩).cps.toList < (ks.getD j ⟨#[]⟩).cps.toList)
theorem Kb(x y:List Nat)(h:x < y):¬y < x:=λz=>List.lt_irrefl x (List.lt_trans h z)
theorem ordK(ks):Ord (ltK ks) where
 asym:=λi j h=>by
  unfold ltK at h ⊢;exact decide_eq_false (Kb _ _ (of_decide_eq_true h))
 ltr:=λi j k h1 h2=>by
  unfold ltK at h1 h2 ⊢;have h1:=of_decide_eq_false h1;have h2:=of_decide_eq_false h2;refine decide_eq_false λz=>?_;have l1:=E7.mp h1;have l2:=E7.mp h2;exact absurd z (E7.mpr (List.le_trans l1 l2))
theorem katTups:∀{as:List Addr}{ks:List Str}{xs:List Af},ItsOk h as ks xs->∃fs:List Af,KatTups h (as.map A3) fs/\fs.length=as.length/\∀f∈fs,∃k t,f=.str k t
 |[],ks,xs,_=>⟨[],trivial,rfl,λf hf=>nomatch hf⟩
 |a::as,ks,xs,I=>by
  obtain⟨l1,l2,hp⟩:=I;obtain⟨k,t,x,e1,e2,e3⟩:=hp 0 a rfl;cases ks with
  |nil=>cases e1
  |cons k0 ks=>
   cases xs with
   |nil=>cases e2
   |cons x0 xs=>
    obtain⟨fs,f1,f2,f3⟩:=katTups (h:=h) (as:=as) (ks:=ks) (xs:=xs) ⟨by simpa using l1,by simpa using l2,λj b hb=>by
     obtain⟨k',t',x',g1,g2,g3⟩:=hp (j+1) b (by simpa using hb);exact⟨k',t',x',by simpa using g1,by simpa using g2,g3⟩⟩
    refine⟨.str k t::fs,.cons e3 rfl rfl rfl f1,by simp[f2],λf hf=>?_⟩;rcases Au.mp hf with rfl|z
    ·exact⟨k,t,rfl⟩
    ·exact f3 f z
end
section
variable{prog:A7}{w:Bk}{A:Bu}{E:Af->Ai->Prop}{s:Ai}{a:Addr}{as:List Addr}{ks:List Str}{xs:List Af}
theorem ask_items(hI:ItsOk s.heap as ks xs)(nd:ks.Nodup)(hx:∀x∈xs,∀(s:Ai),SeqAt.EqAt A s x x ai)(hi:i < as.length)(hj:j < as.length)(h:C (ltK ks i j) s):
  kas_ask prog w A (tuples' ai) (as.map A3) i j C s:=by
 obtain⟨l1,l2,hp⟩:=hI;obtain⟨k1,t1,x1,e1,e2,e3⟩:=hp i as[i] (Al hi);obtain⟨k2,t2,x2,f1,f2,f3⟩:=hp j as[j] (Al hj);unfold kas_ask;have g1:(as.map A3).getD i Bh=.ref as[i]:=by simp[hi]
 have g2:(as.map A3).getD j Bh=.ref as[j]:=by simp[hj]
 rw[g1,g2];have c1:ks.getD i ⟨#[]⟩=k1:=by simp[e1]
 have c2:ks.getD j ⟨#[]⟩=k2:=by simp[f1]
 have hc:ltK ks i j=decide (k1.cps.toList < k2.cps.toList):=by unfold ltK;rw[c1,c2]
 rw[hc]at h;refine kat_lt e3 rfl f3 rfl ?_;refine kat_cons (wpAny_eqBool_str ?_);by_cases e:k1=k2
 ·rw[decide_eq_true e];have hij:i=j:=by
   have hi':i < ks.length:=by omega
   have hj':j < ks.length:=by omega
   have q1:ks[i]=k1:=by have:=Al hi';rw[e1]at this;exact(Bc this).symm
   have q2:ks[j]=k2:=by have:=Al hj';rw[f1]at this;exact(Bc this).symm
   exact(Fu nd).mp (q1.trans (e.trans q2.symm))
  subst hij;rw[e2]at f2;cases f2;refine kat_yes (kat_cons ?_);refine hx x1 (A8 e2) s _ _ _ _ ?_;refine kat_yes (kat_nil ?_);rw[e]at h;have:decide (k2.cps.toList < k2.cps.toList)=aj:=decide_eq_false (List.lt_irrefl _);rw[this]at h;exact h
 ·rw[decide_eq_false e];exact kat_no (oneLt_str h)
end
end KS
namespace L2
open PySem PySem.Spec PyProof.Rows PySem.W
def jZ(d v:Addr):HO:=.ext λh=>h.get? v=ae {cls:=.type "dict_items",data:=.fields #[.ref d]}
theorem Ts:uN X "dict.items" (λx vs H Q=>∃d kvs,x=.ref d/\vs=[]/\H d=ae (.dK kvs)/\∀v,H v=ah->Q (.ref v) (upd H v (jZ d v))):=by
 intro pins s σ H x xs v us Q I rx rv h;obtain⟨d,kvs,rfl,rfl,hd,q⟩:=h;cases rx;cases rv.zero;obtain⟨z,hsys,vs',rel,hD⟩:=I.hok d _ hd;refine call_meetsIn PySem.F.slot_dict_items hD.typeIs PySem.F.entry_dict_items (PySem.F.args_dict_items_1 _) (meets_dict_items (fS X.prog X.w) d hsys) ⟨⟨vs',hD⟩,?_⟩;have e:(s.heap.push ({cls:=.type "dict_items",data:=.fields #[.ref d]}:Obj)).get? s.heap.objs.size=ae {cls:=.type "dict_items",data:=.fields #[.ref d]}:=Az _ rfl;exact⟨.ref s.heap.objs.size,_,I.laid (t':=s.toks) (o:=jZ d s.heap.objs.size) (λb ob q=>Ae _ q) (Ao _) ⟨e,⟨_,e⟩,λh1 h2 q k=>k _ q⟩,rfl,q _ (I.hok.fresh (Ao _))⟩
def fG(as:List Addr)(ks:List Str)(xv:List V)(i:Nat):Addr×Str×V:=(as.getD i 0,ks.getD i ⟨#[]⟩,xv.getD i .non)
def fV(H:Hp)(D:Addr)(l:List V)(as:List Addr)(ks:List Str)(xv:List V):Hp:=λb=>if b=D then ae (.lst l)else match as.idxOf? b with
 |some j=>ae (.tup [.str (ks.getD j ⟨#[]⟩),xv.getD j .non])
 |none=>H b
theorem qT{as:List Addr}(h:as.idxOf? b=ae j):as[j]?=ae b:=by
 unfold List.idxOf? at h;obtain⟨h1,h2,_⟩:=Gf.mp h;rw[Al h1];rw[beq_iff_eq]at h2;rw[h2]
theorem Kq{as:List Addr}(h:as.idxOf? b=ah):b∉as:=λhb=>by
 unfold List.idxOf? at h;rw[List.findIdx?_eq_none_iff]at h;have:=h b hb;simp at this
theorem L3{as:List Addr}(nd:as.Nodup)(h:as[j]?=ae a):as.idxOf? a=ae j:=by
 obtain⟨h1,h2⟩:=Av.mp h;cases e:as.idxOf? a with
 |none=>exact absurd (A8 h) (Kq e)
 |some i=>
  have e':=qT e;obtain⟨h3,h4⟩:=Av.mp e';rw[(Fu nd).mp (h4.trans h2.symm)]
section
variable{X:Cx}{pins:List (Addr×Obj)}{σ:St}{H:Hp}{s:Ai}
theorem AO{idx:List Nat}(I:Inv X pins σ H s)(hk:∀b o,s.heap.get? b=ae o->h3.get? b=ae o)
  (hI:KS.ItsOk h3 as ks xs) (hx:Vals xv xs) (hup:∀a∈as,s.heap.objs.size<=a) (nd:as.Nodup) (hD:∀b o,s.heap.get? b=ae o->b≠D) (hDH:H D=ah) (hDa:D∉as) (hl:as.length < 64) (hidx:idx.Perm (Bi as.length))
  (hL:h3.get? D=ae (Cn "list" (C8 (idx.map λi=>(as.map A3).getD i Bh)) c))
  (q:∀H',gX H H'->H D=ah->(∀a∈as,H a=ah)->H' D=ae (.lst (idx.map λi=>V.ref (fG as ks xv i).1))->(∀i∈idx,H' (fG as ks xv i).1=ae (.tup [.str (fG as ks xv i).2.1,(fG as ks xv i).2.2]))->Q (.ref D) H'):
  EP X pins σ Q (.ref D) {s with heap:=h3,toks:=tk}:=by
 obtain⟨l1,l2,hp⟩:=hI;have lx:=hx.length;have old:∀{b o},H b=ae o->b < s.heap.objs.size:=λe=>I.hok.lt e;have hidlt:∀i∈idx,i < as.length:=λi hi=>Ci.mp (hidx.mem_iff.mp hi);have hlen:idx.length=as.length:=by rw[hidx.length_eq,Cr]
 have hsame:gX H (fV H D (idx.map λi=>V.ref (fG as ks xv i).1) as ks xv):=λb o e=>by
  unfold fV;rw[if_neg (λz=>by rw[z,hDH]at e;cases e)];cases q:as.idxOf? b with
  |none=>exact e
  |some j=>
   have:=hup b (A8 (qT q));exact absurd (old e) (Nat.not_lt.mpr this)
 have hvals:Vals (idx.map λi=>V.ref (fG as ks xv i).1) (idx.map λi=>(as.map A3).getD i Bh):=by
  have:∀l:List Nat,(∀i∈l,i < as.length)->Vals (l.map λi=>V.ref (fG as ks xv i).1) (l.map λi=>(as.map A3).getD i Bh):=by
   intro l
   induction l with
   |nil=>intro _;exact .nil
   |cons i r ih=>
    intro hl;have hi:=hl i A0;refine .cons ?_ (ih λj hj=>hl j (Aw _ hj));show(as.map A3).getD i Bh=A3 (as.getD i 0);simp[hi]
  exact this idx hidlt
 have hnew:HOk X.prog X.w (fV H D (idx.map λi=>V.ref (fG as ks xv i).1) as ks xv) h3:=λb o e=>by
  by_cases hb:b=D
  ·subst hb;unfold fV at e;rw[if_pos rfl]at e;cases e;refine⟨?_,_,c,hvals,hL⟩;rw[Ad,hlen];exact fh ⋯
  ·have e2:=e;unfold fV at e2;rw[if_neg hb]at e2;cases qi:as.idxOf? b with
   |none=>
    rw[qi]at e2;refine(I.hok b o e2).stay (λcc u _ z=>hk cc u z) (λcc z=>hsame _ _ z) λcc ys z=>hsame _ _ z
   |some j=>
    rw[qi]at e2;cases e2;obtain⟨k,t,x,g1,g2,g3⟩:=hp j b (qT qi);have hjl:j < xv.length:=by
     have:=(Av.mp g2).1;omega
    have ev:RelV (xv.getD j .non) x:=by
     obtain⟨u,hu,ru⟩:=hx.get (Al hjl);rw[g2]at hu;cases hu;have:xv.getD j .non=xv[j]:=by simp[hjl]
     rw[this];exact ru
    have ek:ks.getD j ⟨#[]⟩=k:=by simp[g1]
    refine⟨by show 2<=Ay;decide,[.str k t,x],.cons (by rw[ek];exact⟨t,rfl⟩) (.cons ev .nil),?_⟩;exact⟨_,g3,rfl,⟨_,rfl⟩,rfl⟩
 refine⟨.ref D,_,I.call' (s':={ s with heap:=h3,toks:=tk}) (ch:=[]) rfl ?_ hnew I.bare (λb hb=>nomatch hb),rfl,q _ hsame hDH (λa ha=>I.hok.fresh (hup a ha)) (by unfold fV;rw[if_pos rfl]) λi hi=>?_⟩
 ·refine⟨λb o e n _ _=>hk b o e,λb o e n _ _=>⟨o.slots,hk b o e⟩,λb o e n _=>?_,λb o e _=>⟨o,hk b o e⟩,λb ys z=>hsame _ _ z,λb o' u z=>hsame _ _ z,λb ps z=>⟨#[],by rw[Array.append_empty];exact hsame _ _ z⟩⟩;have hlt:=Aq e;unfold fV;rw[if_neg (hD b o e)];cases qi:as.idxOf? b with
  |none=>exact n
  |some j=>exact absurd hlt (Nat.not_lt.mpr (hup b (A8 (qT qi))))
 ·have hi':=hidlt i hi;have ea:(fG as ks xv i).1=as[i]:=by show as.getD i 0=_;simp[hi']
  have eg:as[i]?=ae as[i]:=Al hi';have ne:as[i]≠D:=λz=>hDa (z▸Cz hi');rw[ea];unfold fV;rw[if_neg ne,L3 nd eg];rfl
end
def HI:List V->Hp->VK->Prop:=λxs H Q=>∃(v d:Addr)(ks:List Str)(xv:List V),xs=[.ref v]/\H v=ae (jZ d v)/\ks.length=xv.length/\H d=ae (.dK ((ks.zip xv).map λp=>((Di p.1:aG),p.2)))/\ks.length < 64/\ks.Nodup/\xv.all ic=ai /\
 ∀(D:Addr)(as:List Addr)(idx:List Nat)(H':Hp),as.length=ks.length->idx.Perm (Bi ks.length)->(idx.map λi=>ks.getD i ⟨#[]⟩).Pairwise (λa b=>¬b.cps.toList < a.cps.toList)->gX H H'->H D=ah->(∀a∈as,H a=ah)->
  H' D=ae (.lst (idx.map λi=>V.ref (fG as ks xv i).1))->(∀i∈idx,H' (fG as ks xv i).1=ae (.tup [.str (fG as ks xv i).2.1,(fG as ks xv i).2.2]))->Q (.ref D) H'
theorem CV{xs:List Af}:∀{ks:List Str}{xv:List V}{vs:List (aG×Af)},ks.length=xv.length->KV ((ks.zip xv).map λp=>((Di p.1:aG),p.2)) vs->vs.length=ks.length/\Vals xv (vs.map (·.2))/\vs.map (·.1)=ks.map (Di:Str->aG)
 |[],[],_,_,.nil=>⟨rfl,.nil,rfl⟩
 |k::ks,x::xv,_,hl,.cons r rr=>by
  obtain⟨h1,h2,h3⟩:=CV (xs:=xs) (ks:=ks) (xv:=xv) (by simpa using hl) rr;refine⟨by simp[h1],.cons r.2 h2,?_⟩;rw[Bs,Bs,h3,<-r.1]
theorem zx(hz:p.size=n)(h:KS.SP (KS.ltK ks) p n):(p.toList.map λi=>ks.getD i ⟨#[]⟩).Pairwise (λa b=>¬b.cps.toList < a.cps.toList):=by
 rw[List.pairwise_iff_getElem];intro i j hi hj hij;rw[Ad,C3,hz]at hi hj;have:=h i j hij hj;unfold KS.ltK KS.g at this;have e1:p.getD i 0=p[i]:=by simp[hz,hi]
 have e2:p.getD j 0=p[j]:=by simp[hz,hj]
 rw[e1,e2]at this;simp only[List.getElem_map,Array.getElem_toList];exact of_decide_eq_false this
theorem P4(hh:X.A.handled=ah):CallR X (.builtin "sorted") HI:=by
 intro pins s σ H xs us Q I r h;obtain⟨v,d,ks,xv,rfl,hv,hl,hd,h64,nd,fl,q⟩:=h;obtain⟨u,rfl,ru⟩:=gS r;cases(show u=A3 v from ru);have ov:s.heap.get? v=ae {cls:=.type "dict_items",data:=.fields #[.ref d]}:=(I.hok v _ hv).1;obtain⟨z,hsys,vs',rel,hDict⟩:=I.hok d _ hd;obtain⟨ep,hat⟩:=hDict.dictAt;obtain⟨lv,hvals,hkeys⟩:=CV (xs:=[]) hl rel;refine KS.sorted_of (R:=λvs s1=>∃(h':Heap)(tk:Nat)(as:List Addr),vs=as.map A3/\s1={ s with heap:=h',toks:=tk}/\(∀b o,s.heap.get? b=ae o->h'.get? b=ae o)/\as.length=vs'.length/\KdxG (fS X.prog X.w) vs' s.heap.objs.size h' as)
  (kdx_collect (knd:=fS X.prog X.w) (kvs:=vs') (ep:=ep) hh ⟨_,ov,rfl,rfl⟩ hat (by rw[lv];exact fh ⋯) λh' tk as hk hl hG=>⟨h',tk,as,rfl,rfl,hk,hl,hG⟩) ?_
 rintro vs s1 ⟨h',tk,as,rfl,rfl,hk,hla,hG⟩
 have hlen:as.length=ks.length:=hla.trans lv;have its:KS.ItsOk h' as ks (vs'.map (·.2)):=⟨hlen,by rw[Ad,hla],λj a ha=>by
  obtain⟨key,k,x,e1,e2,e3⟩:=hG.pairs j a ha;have hk1:(vs'.map (·.1))[j]?=ae k:=by rw[Ax,e1];rfl
  rw[hkeys,Ax]at hk1;cases eq:ks[j]? with
  |none=>rw[eq]at hk1;cases hk1
  |some k0=>
   rw[eq]at hk1;have hk2:(Di k0:aG)=k:=Bc hk1;subst hk2;rcases jh (k:=Di k0) (v:=key) (show kJ (Di k0) key=ai from e2)with⟨i,t,z,_⟩|⟨y,t,z,rfl⟩
   ·cases z
   ·cases z;exact⟨k0,t,x,rfl,by rw[Ax,e1];rfl,e3⟩⟩
 have hup:∀a∈as,s.heap.objs.size<=a:=λa ha=>Gq (hG.above a ha);have ndA:as.Nodup:=hG.rise.imp λh=>A5 h;have hDa:h'.objs.size∉as:=λhm=>Fh _ (hG.there hm);have hs':∀b o,s.heap.get? b=ae o->b≠h'.objs.size:=λb o e=>A5 (Aq (hk b o e));have hsH:H h'.objs.size=ah:=(I.hok.kept hk).fresh (Ao _);refine⟨by rw[Ad,hlen];exact fh ⋯,?_⟩;have hoL:(h'.push (Cn "list" (as.map A3).toArray 0)).get? h'.objs.size=ae (Cn "list" (as.map A3).toArray 0):=Az _ rfl;have its2:∀h4:Heap,(∀b o,b≠h'.objs.size->(h'.push (Cn "list" (as.map A3).toArray 0)).get? b=ae o->h4.get? b=ae o)->KS.ItsOk h4 as ks (vs'.map (·.2)):=λh4 k4=>⟨its.1,its.2.1,λj a ha=>by
  obtain⟨k,t,x,e1,e2,e3⟩:=its.2.2 j a ha;exact⟨k,t,x,e1,e2,k4 a _ (λz=>hDa (z▸A8 ha)) (Ae _ e3)⟩⟩
 have keep4:∀h4:Heap,(∀b o,b≠h'.objs.size->(h'.push (Cn "list" (as.map A3).toArray 0)).get? b=ae o->h4.get? b=ae o)->∀b o,s.heap.get? b=ae o->h4.get? b=ae o:=λh4 k4 b o e=>
  k4 b o (hs' b o e) (Ae _ (hk b o e))
 by_cases h2:2<=(as.map A3).length
 ·refine KS.ls_sort (s:={ s with heap:=h'.push (Cn "list" (as.map A3).toArray 0),toks:=tk}) hoL h2 (by rw[Ad];omega) λe1 h4 ha4 k4=>?_;have its4:=its2 h4 k4;obtain⟨fs,f1,f2,f3⟩:=KS.katTups its4;rw[Ad]at h2;refine kat_kind (s:={ s with heap:=h4,toks:=tk}) (T:=Ec "str") f1 ⋯ (λf hf=>?_) rfl ?_
  ·obtain⟨k,t,rfl⟩:=f3 f hf;exact .now
  ·rw[Ad];have hn:0 < as.length:=by omega
   have hwi:=KS.wi_sort hn;refine KS.wp_run (n:=as.length) (P:=KS.Pm as.length) (c:=KS.ltK ks) (St:=λs'=>s'={ s with heap:=h4,toks:=tk}) (λi j C s' hi hj hs hC=>?_) _ _ hwi rfl λs' hs'=>?_
   ·subst hs;refine KS.ask_items its4 nd (λx hx s''=>?_) hi hj (hC _ rfl);obtain⟨j,hj⟩:=B6.mp hx;have hjl:j < xv.length:=by
     have:=(Av.mp hj).1;rw[Ad]at this;omega
    obtain⟨u,hu,ru⟩:=hvals.get (Al hjl);rw[hj]at hu;cases hu;have fx:ic xv[j]=ai:=Ez.mp fl _ (Cz hjl);have:=xq (A:=X.A.in1.in1) (s:=s'') ru ru fx fx;have e1:iK xv[j] xv[j]=ai:=by
     cases ex:xv[j]<;>simp[iK]<;>(rw[ex]at fx;cases fx)
    rw[e1]at this;exact this
   ·subst hs';refine⟨ha4,λh3 c sb hL3=>⟨rfl,?_⟩⟩;have hpm:KS.Pm as.length (KS.run (KS.ltK ks) (kas_sort as.length)):=KS.Wi.out _ hwi;have hsp:=KS.sort_ok (KS.ordK ks) (n:=as.length) hn;have hsz:=hpm.size;have hidx:(KS.run (KS.ltK ks) (kas_sort as.length)).toList.Perm (Bi as.length):=by
     have:=Array.perm_iff_toList_perm.mp hpm;simpa using this
    have k3:∀b o,b≠h'.objs.size->(h'.push (Cn "list" (as.map A3).toArray 0)).get? b=ae o->h3.get? b=ae o:=λb o hb e=>(sb.2 b hb).trans (k4 b o hb e);exact AO (s:=s) (tk:=tk) (xv:=xv) I (keep4 h3 k3) (its2 h3 k3) hvals hup ndA hs' hsH hDa ⋯ hidx hL3 λH' a1 a2 a3 a4 a5=>q _ as _ H' hlen (by rw[<-hlen];exact hidx) (zx hsz hsp) a1 a2 a3 a4 a5
 ·refine KS.ls_short (s:={ s with heap:=h'.push (Cn "list" (as.map A3).toArray 0),toks:=tk}) hoL ⋯ λh4 c ha4 k4=>⟨rfl,?_⟩;rw[Ad]at h2;have el:as.map A3=(Bi as.length).map λi=>(as.map A3).getD i Bh:=by
   apply Ey (by simp);intro i h1 h2;simp at h1;simp[h1]
  rw[el]at ha4;refine AO (s:=s) (tk:=tk) (xv:=xv) (idx:=Bi as.length) I (keep4 h4 k4) (its2 h4 k4) hvals hup ndA hs' hsH hDa ⋯ (List.Perm.refl _) ha4 λH' a1 a2 a3 a4 a5=>q _ as _ H' hlen (by rw[<-hlen]) ?_ a1 a2 a3 a4 a5;have:(Bi as.length).length<=1:=by simp;omega
  match hr:Bi as.length,this with
  |[],_=>exact .nil
  |[i],_=>exact Hk _ _
def jH(vs:List Af)(ks:List Str):Prop:=vs.length=ks.length/\∀(j:Nat) v,vs[j]?=ae v->∃k t,ks[j]?=ae k/\v=.str k t
theorem Hy(h:jH vs ks):∀(idx:List Nat),(∀i∈idx,i < ks.length)->Vals ((idx.map λi=>ks.getD i ⟨#[]⟩).map V.str) (idx.map λi=>vs.getD i Bh)
 |[],_=>.nil
 |i::r,hi=>by
  have h1:=hi i A0;have h2:i < vs.length:=by rw[h.1];exact h1
  obtain⟨k,t,e1,e2⟩:=h.2 i vs[i] (Al h2);refine .cons ⟨t,?_⟩ (Hy h r λj hj=>hi j (Aw _ hj));simp[h2,e1,e2]
theorem NY{ks:List Str}{idx:List Nat}(h:idx.Perm (Bi ks.length)):(idx.map λi=>ks.getD i ⟨#[]⟩).Perm ks:=by
 have h1:=h.map λi=>ks.getD i (⟨#[]⟩:Str);have h2:(Bi ks.length).map (λi=>ks.getD i (⟨#[]⟩:Str))=ks:=by
  apply Ey (by simp);intro i h1 h2;simp[h2]
 rw[h2]at h1;exact h1
end L2
namespace L2
open PySem PySem.Spec PyProof.Rows
section
variable{prog:A7}{w:Bk}{A:Bu}{E:Af->Ai->Prop}{s:Ai}
theorem vC(hit:s.heap.IsTupleIter it t i)(ht:s.heap.IsTuple t items)(hx:items[i]?=ae x)
  (hQ:∀h',h'.IsTupleIter it t (i+1)->C9 it s.heap h'->Q x {s with heap:=h'}):A2 (A6 prog w) A (Cq (.ref it)) Q E s:=by
 obtain⟨o,ho,hc,hd⟩:=id hit;obtain⟨ol,hol,_,nl,hdl⟩:=ht;unfold Cq;refine Aa (Bz (name:=Dj "__next__") hit.typeIs Fz
  (Cb Fz hit.typeIs F.entry_tuple_iterator_next ?_ (F.args_tuple_iterator_next_1 _)))
 show A2 _ _ (field (.ref it) 0>>=_) _ _ s;refine Aa (Df ho hd (x:=.ref t) rfl ?_);show A2 _ _ (if (A3 t==Bh)=ai then _ else _) _ _ s;rw[if_neg (show ¬((A3 t==Bh)=ai)from Ag)];show A2 _ _ (field (.ref it) 1>>=_) _ _ s;refine Aa (Df ho hd (x:=.int i 0) rfl ?_);show A2 _ _ (seqItems? (.ref t)>>=_) _ _ s;refine Aa (Dz hol hdl ?_);simp only[Bq,hx];refine Aa (Dn ho hd (by simp) (Aj ⟨x,rfl,Aj (hQ _ ?_ (Bm ..))⟩));exact⟨_,Bt _ ho (Dq (B7 hd _)),(Fn ..).trans hc,by
  rw[B7 hd];simp[Cs]⟩
theorem IC(hh:A.handled=ah)(hit:s.heap.IsTupleIter it t i)(ht:s.heap.IsTuple t items)(hx:items[i]?=ah)
  (hE:∀h' e,Heap.ExtBut it s.heap h'->(∃o,h'.get? e=ae o/\o.cls=.type "StopIteration")->E (.ref e) {s with heap:=h'}):
  A2 (A6 prog w) A (Cq (.ref it)) Q E s:=by
 obtain⟨o,ho,hc,hd⟩:=id hit;obtain⟨ol,hol,_,nl,hdl⟩:=ht;unfold Cq;refine Aa (Bz (name:=Dj "__next__") hit.typeIs Fz
  (Cb Fz hit.typeIs F.entry_tuple_iterator_next ?_ (F.args_tuple_iterator_next_1 _)))
 show A2 _ _ (field (.ref it) 0>>=_) _ _ s;refine Aa (Df ho hd (x:=.ref t) rfl ?_);show A2 _ _ (if (A3 t==Bh)=ai then _ else _) _ _ s;rw[if_neg (show ¬((A3 t==Bh)=ai)from Ag)];show A2 _ _ (field (.ref it) 1>>=_) _ _ s;refine Aa (Df ho hd (x:=.int i 0) rfl ?_);show A2 _ _ (seqItems? (.ref t)>>=_) _ _ s;refine Aa (Dz hol hdl ?_);simp only[Bq,hx];refine Aa (G5 (Aa (Dn ho hd (by simp) ?_)));show A2 _ _ (newExc (.type "StopIteration") []>>=_) _ _ _;refine Aa ?_;simp only[newExc,newTuple];refine Aa (Bx ?_ (by size_fits));refine Aa (m:=E9 _ _) (Fg (a:=Bh) (by first|rfl|(simp only[E9];rfl)) ?_);refine Bx ?_ (by size_fits);simp only[raiseNew];refine Aa (wpAny_handled ?_)
 first|rw[show A.in1.handled=ah from hh]|rw[hh]
 refine Aa (Aj (wpAny_throw ?_));exact hE _ _ (((Bm ..).extBut.push _).push _) ⟨_,Az _ rfl,rfl⟩
theorem Ta{z TI TO i1 i2 l1 l2:Addr}{Q:Af->Ai->Prop}(D:ZipApart z TI TO i1 i2 l1 l2)
  (hz:IsZip s.heap z TI TO .none) (hTI:F4 s.heap TI (.ref i1) (.ref i2)) (hTO:F4 s.heap TO a b)
  (h1:s.heap.IsTupleIter i1 l1 k) (h2:s.heap.IsTupleIter i2 l2 k) (hl1:s.heap.IsTuple l1 xs) (hl2:s.heap.IsTuple l2 ys) (hx:xs[k]?=ae x) (hy:ys[k]?=ae y)
  (hQ:∀h',IsZip h' z TI TO (Cs s.heap.objs.size)->F4 h' TO x y->h'.IsTupleIter i1 l1 (k+1)->h'.IsTupleIter i2 l2 (k+1)->F4 h' s.heap.objs.size x y->h'.objs.size=s.heap.objs.size+1->
   (∀c o,c≠z->c≠TO->c≠i1->c≠i2->s.heap.get? c=ae o->h'.get? c=ae o)->Q (.ref s.heap.objs.size) {s with heap:=h'}):
  A2 (A6 prog w) A (D7.«zip.__next__» ⟨[.ref z],[]⟩) (λfin s'=>∃v,fin=.done (.ret v)/\Q v s') E s:=by
 show A2 _ _ (field (.ref z) 2>>=_) _ _ _;refine Aa (Df hz rfl (x:=.bool aj) rfl ?_);show A2 _ _ (field (.ref z) 3>>=_) _ _ _;refine Aa (Df hz rfl (x:=.ref TI) rfl ?_);refine Aa (Dz hTI rfl ?_);show A2 _ _ (Dr (.ref z)>>=_) _ _ _;refine Aa ?_;unfold Dr;refine Aa (Df hz rfl (x:=.none) rfl (Aj ?_));simp only[if_true];refine Aa (G5 ?_);refine Aa (Df hz rfl (x:=.ref TO) rfl ?_);refine Aa (Gm hz (by simp) λg1 hz1 s1=>?_)
 replace hz1:IsZip g1 z TI TO .ellipsis:=hz1
 refine Aa ?_;simp only[List.zipIdx_cons,List.zipIdx_nil,List.forIn_cons,List.forIn_nil];refine Aa (Aa (wpAny_onRaise ?_));show A2 _ _ (Cq (.ref i1)>>=_) _ _ _;refine Aa (vC (h1.extBut s1.extBut D.i1z) (hl1.extBut s1.extBut D.l1z) hx λg2 t2 s2=>Aj ?_);have p2:F4 g2 TO a b:=s2.extBut _ _ D.TOi1 (s1.extBut _ _ D.TOz hTO);refine Aa (Dz p2 rfl ?_);refine Aa (wpAny_updateSeq_pair p2 λg3 p3 s3=>?_)
 replace p3:F4 g3 TO x b:=p3
 refine Aa (wpAny_letGo (Aj ?_));refine Aa (Aa (wpAny_onRaise ?_));show A2 _ _ (Cq (.ref i2)>>=_) _ _ _;refine Aa (vC (((h2.extBut s1.extBut D.i2z).extBut s2.extBut D.i12.symm).extBut s3.extBut D.TOi2.symm)
  (((hl2.extBut s1.extBut D.l2z).extBut s2.extBut D.l2i1).extBut s3.extBut D.l2TO) hy λg4 t4 s4=>Aj ?_)
 have p4:F4 g4 TO x b:=s4.extBut _ _ D.TOi2 p3;refine Aa (Dz p4 rfl ?_);refine Aa (wpAny_updateSeq_pair p4 λg5 p5 s5=>?_)
 replace p5:F4 g5 TO x y:=p5
 refine Aa (wpAny_letGo (Aj (Aj ?_)));refine Aa (Dz p5 rfl ?_);refine Aa (wpAny_newTuple ?_);have sz:g5.objs.size=s.heap.objs.size:=by rw[s5.1,s4.1,s3.1,s2.1,s1.1]
 have z5:IsZip g5 z TI TO .ellipsis:=s5.extBut _ _ D.TOz.symm (s4.extBut _ _ D.i2z.symm (s3.extBut _ _ D.TOz.symm (s2.extBut _ _ D.i1z.symm hz1)));have k5:∀c o,c≠z->c≠TO->c≠i1->c≠i2->s.heap.get? c=ae o->g5.get? c=ae o:=λc o c1 c2 c3 c4 e=>
  s5.extBut _ _ c2 (s4.extBut _ _ c4 (s3.extBut _ _ c2 (s2.extBut _ _ c3 (s1.extBut _ _ c1 e))))
 have u1:g5.IsTupleIter i1 l1 (k+1):=((t2.extBut s3.extBut D.TOi1.symm).extBut s4.extBut D.i12).extBut s5.extBut D.TOi1.symm;have u2:g5.IsTupleIter i2 l2 (k+1):=t4.extBut s5.extBut D.TOi2.symm;have zlt:z < g5.objs.size:=Aq z5;show A2 _ _ (Hd (.ref z) (.ref g5.objs.size)>>=_) _ _ _;refine Aa ?_;unfold Hd;have z6:IsZip (g5.push {cls:=.type "tuple",data:=.seq #[x,y]}) z TI TO .ellipsis:=Ae _ z5;refine Aa (Gm z6 (by simp) λg7 z7 s7=>?_)
 replace z7:IsZip g7 z TI TO (Cs g5.objs.size):=z7
 refine Gm z7 (by simp) λg8 z8 s8=>?_
 replace z8:IsZip g8 z TI TO (Cs g5.objs.size):=z8
 have up:∀c o,c≠z->g5.get? c=ae o->g8.get? c=ae o:=λc o c1 e=>s8.extBut _ _ c1 (s7.extBut _ _ c1 (Ae _ e));have T8:F4 g8 g5.objs.size x y:=s8.extBut _ _ (D9 zlt) (s7.extBut _ _ (D9 zlt) (Az _ rfl));have e8:g8.objs.size=g5.objs.size+1:=by rw[s8.1,s7.1,Ca]
 rw[sz]at z8 T8 e8;refine Aj ⟨_,rfl,?_⟩;show Q (.ref g5.objs.size) _;rw[sz];exact hQ g8 z8 (up _ _ D.TOz p5) (u1.at λo e=>up _ o D.i1z e) (u2.at λo e=>up _ o D.i2z e) T8 e8 λc o c1 c2 c3 c4 e=>up c o c1 (k5 c o c1 c2 c3 c4 e)
theorem LW{z TI TO i1 i2 l1 l2:Addr}(hh:A.handled=ah)(D:ZipApart z TI TO i1 i2 l1 l2)
  (hz:IsZip s.heap z TI TO .none) (hTI:F4 s.heap TI (.ref i1) (.ref i2)) (h1:s.heap.IsTupleIter i1 l1 k) (hl1:s.heap.IsTuple l1 xs) (hx:xs[k]?=ah)
  (hE:∀h' e,(∀c o,c≠z->c≠i1->s.heap.get? c=ae o->h'.get? c=ae o)->(∃o,h'.get? e=ae o/\o.cls=.type "StopIteration")->E (.ref e) {s with heap:=h'}):
  A2 (A6 prog w) A (D7.«zip.__next__» ⟨[.ref z],[]⟩) Q E s:=by
 show A2 _ _ (field (.ref z) 2>>=_) _ _ _;refine Aa (Df hz rfl (x:=.bool aj) rfl ?_);show A2 _ _ (field (.ref z) 3>>=_) _ _ _;refine Aa (Df hz rfl (x:=.ref TI) rfl ?_);refine Aa (Dz hTI rfl ?_);show A2 _ _ (Dr (.ref z)>>=_) _ _ _;refine Aa ?_;unfold Dr;refine Aa (Df hz rfl (x:=.none) rfl (Aj ?_));simp only[if_true];refine Aa (G5 ?_);refine Aa (Df hz rfl (x:=.ref TO) rfl ?_);refine Aa (Gm hz (by simp) λg1 hz1 s1=>?_)
 replace hz1:IsZip g1 z TI TO .ellipsis:=hz1
 refine Aa ?_;simp only[List.zipIdx_cons,List.zipIdx_nil,List.forIn_cons,List.forIn_nil];refine Aa (Aa (wpAny_onRaise ?_));show A2 _ _ (Cq (.ref i1)>>=_) _ _ _;refine Aa (IC hh (h1.extBut s1.extBut D.i1z) (hl1.extBut s1.extBut D.l1z) hx λg2 e s2 he=>?_);obtain⟨oe,hoe,hce⟩:=he;have z2:IsZip g2 z TI TO .ellipsis:=s2 _ _ D.i1z.symm hz1;have hez:e≠z:=λx=>by subst x;rw[z2]at hoe;cases hoe;simp at hce
 refine Gm z2 (by simp) λg3 _ s3=>hE g3 e (λc o c1 c3 x=>s3.extBut _ _ c1 (s2 _ _ c3 (s1.extBut _ _ c1 x))) ⟨oe,s3.extBut _ _ hez hoe,hce⟩
theorem J0{z TI TO i1 i2 l1 l2:Addr}(D:ZipApart z TI TO i1 i2 l1 l2)
  (hz:IsZip s.heap z TI TO .none) (hTI:F4 s.heap TI (.ref i1) (.ref i2)) (hTO:F4 s.heap TO a b)
  (h1:s.heap.IsTupleIter i1 l1 k) (h2:s.heap.IsTupleIter i2 l2 k) (hl1:s.heap.IsTuple l1 xs) (hl2:s.heap.IsTuple l2 ys) (hx:xs[k]?=ae x) (hy:ys[k]?=ae y)
  (hQ:∀h',IsZip h' z TI TO (Cs s.heap.objs.size)->F4 h' TO x y->h'.IsTupleIter i1 l1 (k+1)->h'.IsTupleIter i2 l2 (k+1)->F4 h' s.heap.objs.size x y->h'.objs.size=s.heap.objs.size+1->
   (∀c o,c≠z->c≠TO->c≠i1->c≠i2->s.heap.get? c=ae o->h'.get? c=ae o)->Q (ae (.ref s.heap.objs.size)) {s with heap:=h'}):
  A2 (A6 prog w) A (E2 (.ref z)) Q E s:=by
 have hT:s.TypeIs (.ref z) "zip":=⟨_,hz,rfl⟩;unfold E2;exact Aa (Eg (Bz (name:=Dj "__next__") hT F.slot_zip_next
  (Cb F.slot_zip_next hT F.entry_zip_next
   (Ta D hz hTI hTO h1 h2 hl1 hl2 hx hy λh' a1 a2 a3 a4 a5 a6 a7=>Aj (hQ h' a1 a2 a3 a4 a5 a6 a7)) (F.args_zip_next_1 _))))
theorem QM{z TI TO i1 i2 l1 l2:Addr}(hh:A.handled=ah)(D:ZipApart z TI TO i1 i2 l1 l2)
  (hz:IsZip s.heap z TI TO .none) (hTI:F4 s.heap TI (.ref i1) (.ref i2)) (h1:s.heap.IsTupleIter i1 l1 k) (hl1:s.heap.IsTuple l1 xs) (hx:xs[k]?=ah)
  (hQ:∀h',(∀c o,c≠z->c≠i1->s.heap.get? c=ae o->h'.get? c=ae o)->Q ah {s with heap:=h'}):A2 (A6 prog w) A (E2 (.ref z)) Q E s:=by
 have hT:s.TypeIs (.ref z) "zip":=⟨_,hz,rfl⟩;unfold E2;refine Aa (Eg (Bz (name:=Dj "__next__") hT F.slot_zip_next
  (Cb F.slot_zip_next hT F.entry_zip_next (LW hh D hz hTI h1 hl1 hx λh' e hk he=>?_) (F.args_zip_next_1 _))))
 obtain⟨o,ho,hc⟩:=he;refine Aa (G6 (T:="StopIteration") (b:=ai) ⟨o,ho,hc⟩ isSubtype_stop ?_);exact Aj (hQ _ hk)
end
abbrev pP(h:Heap)(l1:Addr):Heap:=h.push {cls:=.type "tuple_iterator",data:=.fields #[.ref l1,.int 0 0]}
abbrev qz(h:Heap)(l1 l2:Addr):Heap:=(pP h l1).push {cls:=.type "tuple_iterator",data:=.fields #[.ref l2,.int 0 0]}
abbrev rm(h:Heap)(l1 l2:Addr):Heap:=(qz h l1 l2).push {cls:=.type "tuple",data:=.seq #[.ref h.objs.size,.ref (pP h l1).objs.size]}
abbrev pI(h:Heap)(l1 l2:Addr):Heap:=(rm h l1 l2).push {cls:=.type "tuple",data:=.seq #[.none,.none]}
abbrev mN(h:Heap)(l1 l2:Addr):Heap:=(pI h l1 l2).push {cls:=.type "zip",data:=.fields #[.none,.bool aj,.bool aj,.ref (qz h l1 l2).objs.size,.ref (rm h l1 l2).objs.size]}
theorem Pj(l1 l2)(xs ys):
  Meets (D7.«zip.__new__» ⟨[.type "zip",.ref l1,.ref l2],[]⟩) (λ_ R s=>s.heap.IsTuple l1 xs/\s.heap.IsTuple l2 ys /\
   R (.ok (.ret (.ref (pI s.heap l1 l2).objs.size))) {s with heap:=mN s.heap l1 l2}):=
 .of_wp λprog w A R s h=>by
  obtain⟨hp,g,d,tk,os⟩:=s;obtain⟨hl1,hl2,h⟩:=h;have hsub:=sub_zip;have hL1:Heap.IsTuple (Shared.heap ⟨hp,g,d,tk,os⟩) l1 xs:=hl1;have hL2:Heap.IsTuple (Shared.heap ⟨hp.push {cls:=.type "tuple_iterator",data:=.fields #[.ref l1,.int 0 0]},g,d,tk,os⟩) l2 ys:=Heap.IsTuple.push hl2 _
  wp_walk using Dx hL1,Dx hL2
  exact⟨_,rfl,h⟩
section
variable{prog:A7}{w:Bk}{A:Bu}{E:Af->Ai->Prop}{s:Ai}
theorem MY(hl1:s.heap.IsTuple l1 xs)(hl2:s.heap.IsTuple l2 ys)
  (h:∀h',IsZip h' (s.heap.objs.size+4) (s.heap.objs.size+2) (s.heap.objs.size+3) .none->F4 h' (s.heap.objs.size+2) (.ref s.heap.objs.size) (.ref (s.heap.objs.size+1))->
   F4 h' (s.heap.objs.size+3) .none .none->h'.IsTupleIter s.heap.objs.size l1 0->h'.IsTupleIter (s.heap.objs.size+1) l2 0->
   (∀c o,s.heap.get? c=ae o->h'.get? c=ae o)->Q (.ref (s.heap.objs.size+4)) {s with heap:=h'}):
  A2 (A6 prog w) A (call (.type "zip") [.ref l1,.ref l2]) Q E s:=by
 refine callType_new F.called_zip ∎ (F.typeCall_zip_2 _ _) (F.newCall_zip_2 _ _) (λobj=>F.args_object_init_3 obj _ _) F.entry_zip_new
  (Pj l1 l2 xs ys) ⟨hl1,hl2,?_⟩
 have z1:(pP s.heap l1).objs.size=s.heap.objs.size+1:=Ca ..;have z2:(qz s.heap l1 l2).objs.size=s.heap.objs.size+2:=by rw[Ca,z1]
 have z3:(rm s.heap l1 l2).objs.size=s.heap.objs.size+3:=by rw[Ca,z2]
 have z4:(pI s.heap l1 l2).objs.size=s.heap.objs.size+4:=by rw[Ca,z3]
 have g5:(mN s.heap l1 l2).get? (pI s.heap l1 l2).objs.size=ae _:=Az _ rfl;have g4:(mN s.heap l1 l2).get? (rm s.heap l1 l2).objs.size=ae _:=Ae _ (Az _ rfl);have g3:(mN s.heap l1 l2).get? (qz s.heap l1 l2).objs.size=ae _:=Ae _ (Ae _ (Az _ rfl));have g2:(mN s.heap l1 l2).get? (pP s.heap l1).objs.size=ae _:=Ae _ (Ae _ (Ae _ (Az _ rfl)));have g1:(mN s.heap l1 l2).get? s.heap.objs.size=ae _:=Ae _ (Ae _ (Ae _ (Ae _ (Az _ rfl))));show _/\_;rw[z2,z3,z4]at g5;rw[z1,z2]at g3;rw[z3]at g4;rw[z1]at g2;rw[z4];exact⟨⟨_,g5,rfl⟩,h _ g5 g3 g4 ⟨_,g1,rfl,rfl⟩ ⟨_,g2,rfl,rfl⟩ λc o x=>
  Ae _ (Ae _ (Ae _ (Ae _ (Ae _ x))))⟩
end
def BJ(K:Ah)(a b:Addr):It:=
 ⟨λi H=>∃xs ys x y,SqT K H a xs/\SqT K H b ys/\xs[i]?=ae x/\ys[i]?=ae y,
  λi H v H'=>∃T x y,v=.ref T/\H T=ah/\H'=upd H T (.tup [x,y])/\(∀xs,SqT K H a xs->xs[i]?=ae x)/\∀ys,SqT K H b ys->ys[i]?=ae y,
  λi H=>∃xs,SqT K H a xs/\xs.length<=i⟩
theorem Inv.many{σ:St}{s:Ai}{h':Heap}{fp:List Addr}{a:Addr}(I:Inv X pins σ H s)(hf:∀b∈fp,cW X pins H b)(k:∀b u,b∉fp->s.heap.get? b=ae u->h'.get? b=ae u)
  (ha:s.heap.objs.size<=a) (new:ObjOk X.prog X.w (upd H a o) h' a o):Inv X pins σ (upd H a o) {s with heap:=h',toks:=t'}:=by
 have hn:H a=ah:=I.hok.fresh ha;have nf:∀b u,H b=ae u->b∉fp:=λb u e z=>by rw[(hf b z).1]at e;cases e
 refine I.call' (s':={ s with heap:=h',toks:=t'}) (ch:=fp) rfl ⟨λb u q _ _ z=>k b u z q,λb u q _ _ z=>⟨u.slots,k b u z q⟩,λb u q n _=>?_,λb u q z=>⟨u,k b u z q⟩,λb xs q=>?_,λb u xs q=>?_,λb ps q=>⟨#[],?_⟩⟩ (λb u e=>?_) I.bare (λb hb=>?_)
 ·rw[aM (A5 (Bd (Aq q) ha))];exact n
 ·rw[aM (bO q hn)];exact q
 ·rw[aM (bO q hn)];exact q
 ·rw[aM (bO q hn),q];simp
 ·by_cases z:b=a
  ·subst z;rw[bu]at e;cases e;exact new
  ·rw[aM z]at e;refine(I.hok b u e).stay (λc v hc q=>k c v ?_ q) (λc q=>?_) λc ys q=>?_
   ·rcases hc with z|z
    ·rw[z];exact nf b u e
    ·exact nf c _ z
   ·rw[aM (bO q hn)];exact q
   ·rw[aM (bO q hn)];exact q
 ·obtain⟨f0,f1,f2,f3,f4,f5⟩:=hf b hb;exact⟨f3,f1,f4,f5⟩
theorem Inv.many0{σ:St}{fp:List Addr}(I:Inv X pins σ H s)(hf:∀b∈fp,cW X pins H b)(k:∀b u,b∉fp->s.heap.get? b=ae u->h'.get? b=ae u):Inv X pins σ H {s with heap:=h',toks:=t'}:=by
 have nf:∀b u,H b=ae u->b∉fp:=λb u e z=>by rw[(hf b z).1]at e;cases e
 refine I.call' (s':={ s with heap:=h',toks:=t'}) (ch:=fp) rfl ⟨λb u q _ _ z=>k b u z q,λb u q _ _ z=>⟨u.slots,k b u z q⟩,λb u q n _=>n,λb u q z=>⟨u,k b u z q⟩,λb xs q=>q,λb u xs q=>q,λb ps q=>⟨#[],by rw[q];simp⟩⟩ (λb u e=>?_) I.bare (λb hb=>?_)
 ·refine(I.hok b u e).stay (λc v hc q=>k c v ?_ q) (λc q=>q) λc ys q=>q;rcases hc with z|z
  ·rw[z];exact nf b u e
  ·exact nf c _ z
 ·obtain⟨f0,f1,f2,f3,f4,f5⟩:=hf b hb;exact⟨f3,f1,f4,f5⟩
theorem OS{K:Ah}{a b z TI TO i1 i2:Addr}(D:ZipApart z TI TO i1 i2 a b):Turn P w K (.Tuple elts kk pos) (BJ K a b) [z,TI,TO,i1,i2] z
  (λi h=>IsZip h z TI TO .none/\F4 h TI (.ref i1) (.ref i2)/\(∃x y,F4 h TO x y)/\h.IsTupleIter i1 a i/\h.IsTupleIter i2 b i) where
 mem:=by simp
 obj:=λi h st c hc=>by
  obtain⟨hz,hI,⟨x,y,hO⟩,⟨o1,e1,c1,d1⟩,⟨o2,e2,c2,d2⟩⟩:=st;simp only[Au,A1,or_false]at hc;rcases hc with rfl|rfl|rfl|rfl|rfl
  ·exact⟨_,hz,λv q=>by have q':Data.fields _=Data.cell v:=q;cases q'⟩
  ·exact⟨_,hI,λv q=>by have q':Data.seq _ _=Data.cell v:=q;cases q'⟩
  ·exact⟨_,hO,λv q=>by have q':Data.seq _ _=Data.cell v:=q;cases q'⟩
  ·exact⟨o1,e1,λv q=>by rw[d1]at q;cases q⟩
  ·exact⟨o2,e2,λv q=>by rw[d2]at q;cases q⟩
 keep:=λi h h' st k=>by
  obtain⟨hz,hI,⟨x,y,hO⟩,h1,h2⟩:=st;exact⟨k z (by simp) _ hz,k TI (by simp) _ hI,⟨x,y,k TO (by simp) _ hO⟩,h1.at λo e=>k i1 (by simp) o e,h2.at λo e=>k i2 (by simp) o e⟩
 item:=by
  intro X hP hw hK hc i pins s σ H E I hf st hg;subst hP hw hK;obtain⟨hz,hI,⟨x0,y0,hO⟩,h1,h2⟩:=st;obtain⟨xs,ys,x,y,qa,qb,ex,ey⟩:=hg;obtain⟨its,rv,p,_⟩:=I.tuple qa;obtain⟨jts,rw',p',_⟩:=I.tuple qb;obtain⟨u,hu,ru⟩:=rv.get ex;obtain⟨u',hu',ru'⟩:=rw'.get ey;refine J0 D hz hI hO h1 h2 (show s.heap.IsTuple a its.toArray from p) (show s.heap.IsTuple b jts.toArray from p') (x:=u) (y:=u') (by simpa using hu) (by simpa using hu') λh' a1 a2 a3 a4 a5 a6 a7=>⟨_,rfl,?_⟩;refine wpAny_letOwnedTupleGo_zip (s:={ s with heap:=h'}) a1 λh'' b1 b2=>?_;have T:h''.get? s.heap.objs.size=ae {cls:=.type "tuple",data:=.seq #[u,u']}:=b2.extBut _ _ (D9 (Aq hz)) a5;have Tn:H s.heap.objs.size=ah:=I.hok.fresh (Ao _);have kp:∀c o,c∉[z,TI,TO,i1,i2]->s.heap.get? c=ae o->h''.get? c=ae o:=λc o hc e=>by
   simp only[Au,A1,or_false,not_or]at hc;exact b2.extBut _ _ hc.1 (a7 c o hc.1 hc.2.2.1 hc.2.2.2.1 hc.2.2.2.2 e)
  refine⟨.ref s.heap.objs.size,upd H s.heap.objs.size (.tup [x,y]),I.many (t':=s.toks) hf kp (Ao _) ⟨by show 2<=Ay;decide,[u,u'],.cons ru (.cons ru' .nil),_,T,rfl,⟨_,rfl⟩,rfl⟩,rfl,⟨_,x,y,rfl,Tn,rfl,λzs q=>by rw[I.tuple_inj q qa];exact ex,λzs q=>by rw[I.tuple_inj q qb];exact ey⟩,
   ⟨b1,b2.extBut _ _ D.TIz (a7 _ _ D.TIz D.TITO D.TIi1 D.TIi2 hI),⟨_,_,b2.extBut _ _ D.TOz a2⟩,a3.extBut b2.extBut D.i1z,a4.extBut b2.extBut D.i2z⟩,λc hc=>?_⟩
  have hlt:c < s.heap.objs.size:=by
   simp only[Au,A1,or_false]at hc;rcases hc with rfl|rfl|rfl|rfl|rfl
   ·exact Aq hz
   ·exact Aq hI
   ·exact Aq hO
   ·obtain⟨_,e,_⟩:=h1;exact Aq e
   ·obtain⟨_,e,_⟩:=h2;exact Aq e
  rw[aM (A5 hlt)];exact(hf c hc).1
 done:=by
  intro X hP hw hK hc i pins s σ H E I hf st hg;subst hP hw hK;obtain⟨hz,hI,_,h1,h2⟩:=st;obtain⟨xs,hq,hx⟩:=hg;obtain⟨its,rv,p,_⟩:=I.tuple hq;have hl:=rv.length;refine QM (I.ok.hd hc) D hz hI h1 (show s.heap.IsTuple a its.toArray from p) (by simp;omega) λh' k=>⟨rfl,I.many0 (t':=s.toks) hf λc o hc e=>?_⟩;simp only[Au,A1,or_false,not_or]at hc;exact k c o hc.1 hc.2.2.2.1 e
 self:=λ_ _ _ _ _ st h=>wpAny_pyIter_zip st.1 h
def o8(K:Ah)(ta:TA):TI:=λσ H R=>ta σ H λvs H1=>∃a b,vs=[.ref a,.ref b]/\(∃xs,SqT K H1 a xs)/\(∃ys,SqT K H1 b ys)/\R (BJ K a b) H1
theorem OT:By "zip"=ae (.type "zip"):=by decide +kernel
theorem Ms{elts:List Expr}{kk:Nat}{tpos:Pos}{p pos:Pos}(hg:Gl X "zip")(hm:X.mg "zip"=ah)(ha:PA X [e1,e2] ta)(hs:As [e1,e2] X.env=[(aj,eval e1 X.env),(aj,eval e2 X.env)]:=by rfl)(hs2:As [e2] X.env=[(aj,eval e2 X.env)]:=by rfl):
  PI X (.Tuple elts kk tpos) (.Call (.Name "zip" p) [e1,e2] [] pos) (o8 X.K ta):=by
 intro pins s σ H R I h;refine Call_ (mn I hg hm OT (E4 (aP (ha pos pins s σ H _ I h) λus s1 ⟨vs,H1,I1,r1,q1⟩=>?_) (by rw[hs,hs2]) (by rw[hs2];rfl)));obtain⟨a,b,e,⟨xs,qa⟩,⟨ys,qb⟩,q⟩:=q1;subst e;cases r1 with
 |cons r rr=>
  cases rr with
  |cons r' rr=>
   cases rr;cases r;cases r';obtain⟨its,rv,pp,_⟩:=I1.tuple qa;obtain⟨jts,rw',pp',_⟩:=I1.tuple qb;have la:a < s1.heap.objs.size:=by obtain⟨_,e,_⟩:=id pp;exact Aq e
   have lb:b < s1.heap.objs.size:=by obtain⟨_,e,_⟩:=id pp';exact Aq e
   refine MY (show s1.heap.IsTuple a its.toArray from pp) (show s1.heap.IsTuple b jts.toArray from pp') λh' a1 a2 a3 a4 a5 a6=>wpAny_pyIter_zip (s:={ s1 with heap:=h'}) a1 ?_;refine⟨_,_,_,_,H1,rfl,I1.kept (t':=s1.toks) a6,OS (zipApart_new la lb),⟨a1,a2,⟨_,_,a3⟩,a4,a5⟩,λc hc=>?_,q⟩;have hlt:s1.heap.objs.size<=c:=by
    simp only[Au,A1,or_false]at hc;rcases hc with rfl|rfl|rfl|rfl|rfl<;>omega
   exact I1.fpOk hlt (I1.hok.fresh hlt)
theorem AU(hh:A.handled=ah)(it t)(hne:t≠it)(xs:Array Af):Draws P w A it [it,t] xs.size (λi v=>xs[i]?=ae v) (λi h=>h.IsTupleIter it t i/\h.IsTuple t xs) where
 live:=λ_ _ z=>by obtain⟨⟨o,q,_⟩,_⟩:=z;exact⟨o,q⟩
 frame:=λ_ _ _ z k=>⟨z.1.at λo e=>k it (.head _) o e,z.2.at λo e=>k t (.tail _ (.head _)) o e⟩
 item:=λi s Q E hi z k=>vC z.1 z.2 (x:=xs[i]) (Cm hi) λh' a b=>k _ h' s.toks (Cm hi) ⟨a,z.2.extBut b.extBut hne⟩ b
 done:=λs Q E z k=>IC hh z.1 z.2 (by simp) k
abbrev pJ(h:Heap)(l:Addr):Heap:=h.push {cls:=.type "tuple_iterator",data:=.fields #[.ref l,.int 0 0]}
abbrev sS(h:Heap)(l:Addr):Heap:=(pJ h l).push {cls:=.type "enumerate",data:=.fields #[.none,.bool aj,.ref h.objs.size,Cs 0,.none,.none]}
theorem QQ(l)(xs)(n)(dc)(sl):
  Meets (D7.«enumerate.__new__» ⟨[.type "enumerate",.ref l],[]⟩) (λ_ R s=>s.heap.get? l=ae {cls:=.type "tuple",dict:=dc,data:=.seq xs n,slots:=sl} /\
   R (.ok (.ret (.ref (pJ s.heap l).objs.size))) {s with heap:=sS s.heap l}):=
 .of_wp λP w A R s h=>by
  obtain⟨hp,g,d,tk,os⟩:=s;obtain⟨hl,h⟩:=h;have hsub:=sub_enumerate;have hT:Heap.IsTuple (Shared.heap ⟨hp,g,d,tk,os⟩) l xs:=⟨_,hl,rfl,n,rfl⟩
  wp_walk using Fv hl
  refine wpAny_stack_any λst=>Aj ?_
  split
  ·rename_i c _ _ _ _ _;cases(c==Ec "enumerate")
   ·wp_walk using Fv hl,Dx hT
    exact⟨_,rfl,h⟩
   ·wp_walk using Fv hl,Dx hT
    exact⟨_,rfl,h⟩
  ·wp_walk using Fv hl,Dx hT
   exact⟨_,rfl,h⟩
section
variable{prog:A7}{w:Bk}{A:Bu}{E:Af->Ai->Prop}{s:Ai}
theorem Nw(hl:s.heap.IsTuple l xs)
  (h:∀h',IsEnum h' (s.heap.objs.size+1) s.heap.objs.size 0 .none->h'.IsTupleIter s.heap.objs.size l 0->(∀c o,s.heap.get? c=ae o->h'.get? c=ae o)->Q (.ref (s.heap.objs.size+1)) {s with heap:=h'}):
  A2 (A6 prog w) A (call (.type "enumerate") [.ref l]) Q E s:=by
 obtain⟨⟨c,dc,dt,sl⟩,hl,hc,n,hd⟩:=hl;obtain rfl:c=.type "tuple":=hc;obtain rfl:dt=.seq xs n:=hd;refine callType_new F.called_enumerate ∎ (F.typeCall_enumerate_1 _) (F.newCall_enumerate_1 _) (λo=>F.args_object_init_2 o _) F.entry_enumerate_new (QQ l xs n dc sl) ⟨hl,?_⟩;have z1:(pJ s.heap l).objs.size=s.heap.objs.size+1:=Ca ..;have g2:(sS s.heap l).get? (pJ s.heap l).objs.size=ae _:=Az _ rfl;have g1:(sS s.heap l).get? s.heap.objs.size=ae _:=Ae _ (Az _ rfl);show _/\_;rw[z1]at g2 ⊢;exact⟨⟨_,g2,rfl⟩,h _ g2 ⟨_,g1,rfl,rfl⟩ λc o x=>Ae _ (Ae _ x)⟩
end
def yg(K:Ah)(a:Addr):It:=
 ⟨λi H=>∃xs x,SqT K H a xs/\xs[i]?=ae x,
  λi H v H'=>∃T x,v=.ref T/\H T=ah/\H'=upd H T (.tup [.int i,x])/\∀xs,SqT K H a xs->xs[i]?=ae x,
  λi H=>∃xs,SqT K H a xs/\xs.length=i⟩
theorem L4{K:Ah}(h1:e≠it)(h2:a≠it)(h3:e≠a):Turn P w K (.Tuple elts kk pos) (yg K a) [e,it] e
  (λi h=>(∃old,IsEnum h e it i old)/\h.IsTupleIter it a i) where
 mem:=by simp
 obj:=λi h st c hc=>by
  obtain⟨⟨x,he⟩,⟨o1,e1,c1,d1⟩⟩:=st;simp only[Au,A1,or_false]at hc;rcases hc with rfl|rfl
  ·exact⟨_,he,λv q=>by have q':Data.fields _=Data.cell v:=q;cases q'⟩
  ·exact⟨o1,e1,λv q=>by rw[d1]at q;cases q⟩
 keep:=λi h h' st k=>⟨st.1.imp λ_ q=>k e (by simp) _ q,st.2.at λo q=>k it (by simp) o q⟩
 item:=by
  intro X hP hw hK hc i pins s σ H E I hf st hg;subst hP hw hK;obtain⟨⟨old,he⟩,hi⟩:=st;obtain⟨xs,x,qa,ex⟩:=hg;obtain⟨its,rv,p,_⟩:=I.tuple qa;obtain⟨u,hu,ru⟩:=rv.get ex;have hlt:i < its.toArray.size:=by simpa using(Av.mp hu).1
  have hef:e∉[it,a]:=λz=>by
   simp only[Au,A1,or_false]at z;exact z.elim h1 h3
  refine wpAny_pyNext_enum_itemD (AU (A:=X.A.in1) (I.ok.hd hc) it a h2 its.toArray) he ⟨hi,show s.heap.IsTuple a its.toArray from p⟩ hlt h1 hef λy h' tk a1 a2 a3 a4 a5 a6=>⟨_,rfl,?_⟩;obtain rfl:u=y:=by
   rw[List.getElem?_toArray,hu]at a1;cases a1;rfl
  refine wpAny_letOwnedTupleGo_enum (s:={ s with heap:=h',toks:=tk+1}) a2 λh'' b1 b2=>?_;have T:h''.get? s.heap.objs.size=ae {cls:=.type "tuple",data:=.seq #[.int i tk,u]}:=b2.extBut _ _ (D9 (Aq he)) a4;have Tn:H s.heap.objs.size=ah:=I.hok.fresh (Ao _);have kp:∀c o,c∉[e,it]->s.heap.get? c=ae o->h''.get? c=ae o:=λc o hc e=>by
   simp only[Au,A1,or_false,not_or]at hc;exact b2.extBut _ _ hc.1 (a6 c o hc.1 hc.2 e)
  refine⟨.ref s.heap.objs.size,upd H s.heap.objs.size (.tup [.int i,x]),I.many (t':=tk+1) hf kp (Ao _) ⟨by show 2<=Ay;decide,[.int i tk,u],.cons ⟨tk,rfl⟩ (.cons ru .nil),_,T,rfl,⟨_,rfl⟩,rfl⟩,rfl,⟨_,x,rfl,Tn,rfl,λzs q=>by rw[I.tuple_inj q qa];exact ex⟩,
   ⟨⟨u,by rw[show((i+1:Nat):Int)=(i:Int)+1 from rfl];exact b1⟩,a3.1.extBut b2.extBut h1.symm⟩,λc hc=>?_⟩
  have hlt:c < s.heap.objs.size:=by
   simp only[Au,A1,or_false]at hc;rcases hc with rfl|rfl
   ·exact Aq he
   ·obtain⟨_,e,_⟩:=hi;exact Aq e
  rw[aM (A5 hlt)];exact(hf c hc).1
 done:=by
  intro X hP hw hK hc i pins s σ H E I hf st hg;subst hP hw hK;obtain⟨⟨old,he⟩,hi⟩:=st;obtain⟨xs,hq,hx⟩:=hg;obtain⟨its,rv,p,_⟩:=I.tuple hq;have hl:=rv.length;have hs:its.toArray.size=i:=by simp;omega
  refine wpAny_pyNext_enum_endD (AU (A:=X.A.in1) (I.ok.hd hc) it a h2 its.toArray) he (by rw[hs];exact⟨hi,p⟩) λh' k=>⟨rfl,I.many0 (t':=s.toks) hf λc o hc e=>?_⟩;simp only[Au,A1,or_false,not_or]at hc;exact k c o hc.2 e
 self:=λ_ _ _ _ _ st h=>wpAny_pyIter_enum st.1.choose_spec h
end L2
namespace DL
open PySem L2 Nb
def bW(kvs:List (aG×Ab))(k:aG):Option Ab:=(kvs.find? λkv=>decide (kv.1=k)).map (·.2)
def fg(kvs:List (aG×Ab))(k:aG)(v:Ab):List (aG×Ab):=
 if (kvs.any λkv=>decide (kv.1=k))=ai then kvs.map (λkv=>if kv.1=k then(kv.1,v)else kv)else kvs++[(k,v)]
def l5(kvs more:List (aG×Ab)):List (aG×Ab):=more.foldl (λacc kv=>fg acc kv.1 kv.2) kvs
section
variable{H H':Hp}{B B':Addr->Prop}{l:List (aG×V)}{m:List (aG×Ab)}{v:V}{d:Ab}{t:Addr}
theorem RdK.len(h:RdK H B l m):l.length=m.length:=by
 unfold RdK at h
 induction h with
 |nil=>rfl
 |cons _ _ ih=>rw[Ar,Ar,ih]
theorem RdK.val(h:RdK H B l m)(k):(bY l k=ah/\bW m k=ah)\/∃v d,bY l k=ae v/\bW m k=ae d/\RdX H B v d:=by
 unfold RdK at h
 induction h with
 |nil=>exact .inl ⟨rfl,rfl⟩
 |@cons p q ps qs r _ ih=>
  by_cases e:p.1=k
  ·have e':q.1=k:=r.1▸e;exact .inr ⟨p.2,q.2,by simp[bY,Bp,e],by simp[bW,Bp,e'],r.2⟩
  ·have e':¬q.1=k:=r.1▸e;have a1:bY (p::ps) k=bY ps k:=by simp[bY,Bp,e]
   have a2:bW (q::qs) k=bW qs k:=by simp[bW,Bp,e']
   rw[a1,a2];exact ih
theorem RdK.any(h:RdK H B l m)(k):(l.any λkv=>decide (kv.1=k))=(m.any λkv=>decide (kv.1=k)):=by
 unfold RdK at h
 induction h with
 |nil=>rfl
 |cons r _ ih=>rw[C6,C6,ih,r.1]
theorem RdK.map(h:RdK H B l m)(r:RdX H B v d)(k):RdK H B (l.map λkv=>if kv.1=k then(kv.1,v)else kv) (m.map λkv=>if kv.1=k then(kv.1,d)else kv):=by
 unfold RdK at h ⊢
 induction h with
 |nil=>exact .nil
 |@cons p q ps qs r' _ ih=>
  rw[Bs,Bs];refine .cons ?_ ih;by_cases e:p.1=k
  ·rw[if_pos e,if_pos (r'.1▸e:q.1=k)];exact⟨r'.1,r⟩
  ·rw[if_neg e,if_neg (r'.1▸e:¬q.1=k)];exact r'
theorem RdK.append(h:RdK H B l m)(h2:RdK H B l2 m2):RdK H B (l++l2) (m++m2):=by
 unfold RdK at h ⊢
 induction h with
 |nil=>exact h2
 |cons r' _ ih=>exact .cons r' ih
theorem RdK.put(h:RdK H B l m)(r:RdX H B v d)(k):RdK H B (bR l k v) (fg m k d):=by
 unfold bR fg;rw[h.any k]
 split
 ·exact h.map r k
 ·exact h.append (.cons ⟨rfl,r⟩ .nil)
theorem RdK.merge(h2:RdK H B l2 m2):∀{l:List (aG×V)}{m:List (aG×Ab)},RdK H B l m->RdK H B (kQ l l2) (l5 m m2):=by
 unfold RdK at h2
 induction h2 with
 |nil=>intro l m h;exact h
 |@cons p q ps qs r _ ih=>
  intro l m h;show RdK H B (kQ (bR l p.1 p.2) ps) (l5 (fg m q.1 q.2) qs);rw[r.1];exact ih (h.put r.2 _)
theorem xE(l:List (aG×V))(k)(v):(bR l k v).length<=l.length+1:=by
 unfold bR
 split
 ·rw[Ad];omega
 ·rw[Ak];exact Ao _
theorem RS(l2:List (aG×V)):∀l:List (aG×V),(kQ l l2).length<=l.length+l2.length:=by
 induction l2 with
 |nil=>intro l;exact Ao _
 |cons p r ih=>
  intro l;show(kQ (bR l p.1 p.2) r).length<=_;have:=ih (bR l p.1 p.2);have:=xE l p.1 p.2;rw[Ar];omega
end
section
variable{X:Cx}{a b c e o i f:Expr}{ta tb te td ty tx:TE}{wa wb we wd' wy wx:DT}{pos p:Pos}{K:Ah}
def dq(i:Nat):DT:=λδ n Q=>match δ[i]? with
 |some (ae (.odk kvs))=>Q (.dk kvs) n
 |some (ae (.w x))=>Q x n
 |_=>False
theorem NI(i)(hN:X.N[i]?=ae x:=by rfl)(hv:fH X.env.scope x:=by first|exact C7 rfl|exact Cc (C7 rfl)|exact Cc (Cc rfl))(hd:(x==("__debug__":Str))=aj:=by decide)
  (hcd:(x==("__classdict__":Str))=aj:=by decide):DE X (.Name x p) (cC i) (dq i):=⟨fJ hN hv hd hcd,λC H B σ δ n Q Q' R h k=>by
 unfold dq at h
 split at h
 ·rename_i kvs e;obtain⟨v,h1,a,l,rfl,g2,g3,g4,g5,g6⟩:=R.sl i _ e;exact⟨_,h1,k _ (.dk kvs) H n R (Kp.refl _ _) ⟨a,l,rfl,g2,λz=>R.t0 (z▸g4),g6⟩ h⟩
 ·rename_i x e;obtain⟨v,h1,h2⟩:=R.sl i _ e;exact⟨v,h1,k v x H n R (Kp.refl _ _) h2.1 h⟩
 ·exact h.elim⟩
def gv:Wv->Wv->Int->DQ->Prop:=λx y n Q=>match x,y with
 |.dk kvs,.d (.str k)=>match bW kvs (.inr k)with
  |some d=>Q (.d d) n
  |none=>False
 |_,_=>False
theorem J9(hu:X.A.units+64 < Gr)(ho:DE X o td wd')(hi:DE X i ty wy)(hs:kz i:=by exact λ_ _=>rfl):DE X (.Subscript o i pos) (EY td ty) (w2 wd' wy gv):=⟨Jq ⋯ ho.pe hi.pe hs,λC H B σ δ n Q Q' R h k=>
 ho.sd C H B σ δ n _ _ R h λv x H1 n1 R1 k1 r1 q1=>hi.sd C H1 B σ δ n1 _ _ R1 q1 λu y H2 n2 R2 k2 r2 q2=>by
  have r1':=r1.kp k2 R1.bt;unfold gv at q2
  split at q2
  ·rename_i kvs key;obtain⟨a,l,rfl,g1,g2,g3⟩:=r1';cases(show RdX H2 B u (.str key)from r2);rcases g3.val (.inr key)with⟨e1,e2⟩|⟨v,d,e1,e2,e3⟩
   ·rw[e2]at q2;exact q2.elim
   ·rw[e2]at q2;exact⟨a,v,rfl,.inl ⟨l,.inr key,.inl g1,rfl,e1.symm⟩,k v (.d d) H2 n2 R2 (k1.trans k2) e3 q2⟩
  ·exact q2.elim⟩
def fc(neg:Bool):Wv->Wv->Int->DQ->Prop:=λx y n Q=>match x,y with
 |.d (.str k),.dk kvs=>Q (.d (.bool (if neg then !(bW kvs (.inr k)).isSome else(bW kvs (.inr k)).isSome))) n
 |_,_=>False
theorem Mt(hi:DE X i ty wy)(ho:DE X o td wd'):ee (kR ty td) (w2 wy wd' (fc aj)):=λC H B σ δ n Q Q' R h k=>
 hi.sd C H B σ δ n _ _ R h λv x H1 n1 R1 k1 r1 q1=>ho.sd C H1 B σ δ n1 _ _ R1 q1 λu y H2 n2 R2 k2 r2 q2=>by
  have r1':=r1.kp k2 R1.bt;unfold fc at q2
  split at q2
  ·rename_i key kvs;obtain⟨a,l,rfl,g1,g2,g3⟩:=r2;cases(show RdX H2 B v (.str key)from r1');refine⟨a,bY l (.inr key),rfl,.inl ⟨l,.inr key,.inl g1,rfl,rfl⟩,k _ _ H2 n2 R2 (k1.trans k2) (wd (.bl _)) ?_⟩;rcases g3.val (.inr key)with⟨e1,e2⟩|⟨v,d,e1,e2,e3⟩
   ·rw[e1];rw[e2]at q2;exact q2
   ·rw[e1];rw[e2]at q2;exact q2
  ·exact q2.elim
theorem PM(hi:DE X i ty wy)(ho:DE X o td wd'):ee (nP ty td) (w2 wy wd' (fc ai)):=λC H B σ δ n Q Q' R h k=>
 hi.sd C H B σ δ n _ _ R h λv x H1 n1 R1 k1 r1 q1=>ho.sd C H1 B σ δ n1 _ _ R1 q1 λu y H2 n2 R2 k2 r2 q2=>by
  have r1':=r1.kp k2 R1.bt;unfold fc at q2
  split at q2
  ·rename_i key kvs;obtain⟨a,l,rfl,g1,g2,g3⟩:=r2;cases(show RdX H2 B v (.str key)from r1');refine⟨a,bY l (.inr key),rfl,.inl ⟨l,.inr key,.inl g1,rfl,rfl⟩,k _ _ H2 n2 R2 (k1.trans k2) (wd (.bl _)) ?_⟩;rcases g3.val (.inr key)with⟨e1,e2⟩|⟨v,d,e1,e2,e3⟩
   ·rw[e1];rw[e2]at q2;exact q2
   ·rw[e1];rw[e2]at q2;exact q2
  ·exact q2.elim
theorem Tx(hu:X.A.units+64 < Gr)(hi:DE X i ty wy)(ho:DE X o td wd')(hm:Cf .In o=aj:=by with_unfolding_all rfl):DE X (.Compare i [.In] [o] pos) (kR ty td) (w2 wy wd' (fc aj)):=⟨BW (IZ ⋯ hi.pe ho.pe) hm,Mt hi ho⟩
theorem Pp(hu:X.A.units+64 < Gr)(hi:DE X i ty wy)(ho:DE X o td wd')(hm:Cf .NotIn o=aj:=by with_unfolding_all rfl):DE X (.Compare i [.NotIn] [o] pos) (nP ty td) (w2 wy wd' (fc ai)):=⟨BW (IE ⋯ hi.pe ho.pe) hm,PM hi ho⟩
abbrev kd:=Sl->Int->(List (aG×Ab)->Int->Prop)->Prop
def u7(t:TE)(w:kd):Prop:=∀(C:Ctx)(H:Hp)(B:Addr->Prop)(σ:St)(δ:Sl)(n:Int)(Q:List (aG×Ab)->Int->Prop)(Q':VK),Rel C H B σ δ n->w δ n Q->
 (∀a l kvs H' n',Rel C H' B σ δ n'->Kp C.t H H'->H a=ah->H' a=ae (.dK l)->l.length<=1000->RdK H' (λb=>B b\/b=a) l kvs->Q kvs n'->Q' (.ref a) H')->t σ H Q'
structure DN(X:Cx)(e:Expr)(t:TE)(w:kd):Prop where
 pe:PE X e t
 sd:u7 t w
def kB:kd:=λ_ n Q=>Q [] n
theorem Ol:DN X (.Dict [] [] pos) zp kB:=⟨I0,λC H B σ δ n Q Q' R q k=>λa ha=>k a [] [] _ n (R.new ha) (Kp.new ha) ha bu (Br _) .nil q⟩
def lC:List Ab->Option (List (aG×Ab))
 |[]=>ae []
 |.tuple [.str k,d]::r=>(lC r).map ((.inr k,d)::·)
 |_=>ah
theorem xy:∀{xs:List V}{ds:List Ab}{ps:List (aG×Ab)},RdXs H B xs ds->lC ds=ae ps->∃qs:List (Addr×aG×V),xs=qs.map (λp=>V.ref p.1)/\(∀p∈qs,H p.1=ae (.tup [kV p.2.1,p.2.2]))/\RdK H B (qs.map (·.2)) ps
 |_,_,ps,.nil,h=>by
  cases h;exact⟨[],rfl,λp (hp:p∈[])=>absurd hp A1,Paired.nil⟩
 |_,_,ps,.cons (d:=d) (ds:=ds) h1 h2,h=>by
  unfold lC at h
  split at h
  ·rename_i e;cases e
  ·rename_i k d' r e;cases e;cases e2:lC ds with
   |none=>rw[e2]at h;cases h
   |some ps'=>
    rw[e2]at h;cases h;obtain⟨qs,f1,f2,f3⟩:=xy h2 e2;cases h1 with
    |@tup a ys _ g1 g2 g3 g4=>
     cases g4 with
     |cons c1 c2=>
      cases c2 with
      |cons c3 c4=>
       cases c4;cases c1;refine⟨(a,.inr k,_)::qs,by rw[f1];rfl,λp hp=>?_,.cons ⟨rfl,c3⟩ f3⟩;rcases Au.mp hp with rfl|z
       ·exact g1
       ·exact f2 p z
  ·cases h
def yD:List V->Hp->VK->Prop:=λxs H Q=>∃(src:Addr)(ps:List (Addr×aG×V)),xs=[.ref src]/\H src=ae (.tup (ps.map λp=>V.ref p.1))/\(∀p∈ps,H p.1=ae (.tup [kV p.2.1,p.2.2]))/\ps.length<=1000 /\
  ∀l,H l=ah->Q (.ref l) (L2.upd H l (.dK (kQ [] (ps.map (·.2)))))
def i8(w:DT):kd:=λδ n Q=>w δ n λx n1=>match x with
 |.d (.tuple ds)=>match lC ds with
  |some ps=>ds.length<=1000/\Q (l5 [] ps) n1
  |none=>False
 |_=>False
theorem CJ(hh:X.A.handled=ah)(hg:Gl X "dict")(hm:X.mg "dict"=ah)(he:DE X e te we)(hv:By "dict"=ae (.type "dict"):=by decide +kernel)
  (he':As [e] X.env=(aj,eval e X.env)::As [] X.env:=by rfl) (hpl:(Ct pos (As [] X.env)).any (·.1)=aj:=by rfl):DN X (.Call (.Name "dict" p) [e] [] pos) (fC yD (dA te bS)) (i8 we):=
 ⟨mK (LQ hh) hg hm hv (b9 he.pe dH he') ∎ ∎ he' hpl,λC H B σ δ n Q Q' R q k=>
  he.sd C H B σ δ n _ _ R q λv x H1 n1 R1 k1 r1 q1=>by
   split at q1
   ·rename_i ds
    split at q1
    ·rename_i ps ep;cases(show RdX H1 B v (.tuple ds)from r1)with
     |@tup a ys _ g1 g2 g3 g4=>
      obtain⟨qs,f1,f2,f3⟩:=xy g4 ep;subst f1;have hl:qs.length<=1000:=by have:=g4.len;rw[Ad]at this;rw[this];exact q1.1
      refine⟨a,qs,rfl,g1,f2,hl,λl hl0=>?_⟩;refine k l _ (l5 [] ps) _ n1 (R1.new hl0) (k1.trans (Kp.new hl0)) (R1.was k1 hl0) bu ?_ ?_ q1.2
      ·have:=RS (qs.map (·.2)) [];rw[Ad]at this;have z:([]:List (aG×V)).length=0:=rfl;omega
      ·refine RdK.merge ?_ .nil;exact f3.move λb o e n=>⟨by rw[aM (bO e hl0)];exact e,λz=>z.elim n λq=>bO e hl0 q⟩
    ·exact q1.elim
   ·exact q1.elim⟩
def jk(i:Nat)(w:kd):aH:=λδ n K=>w δ n λkvs n1=>K.nx (δ.set i (ae (.odk kvs))) n1
theorem RH{i:Nat}(hN:X.N.Nodup)(hi:X.N[i]?=ae x)(hx:jq X.env.scope x)(he:DN X e te w)(hs:Da e (ae (.Name x pos')) pos.line X.env=pure aj:=by rfl)(hf:X.fn x=ai\/X.env.scope.names.lookup x=ae .local:=by first|exact .inl rfl|exact .inr rfl|assumption):
  DS X (.Assign [.Name x pos'] e pos) (dh te (gm i)) (jk i w):=⟨gT hN hi hx he.pe hs hf,λC H B σ δ n K D R q E=>
 he.sd C H B σ δ n _ _ R q λa l kvs H1 n1 R1 k1 h0 h1 h2 h3 q1=>by
  refine E.nx _ _ _ _ _ (R.own R1 k1 h0 (by rw[h1];exact λz=>nomatch z) rfl ?_) q1;exact⟨a,l,rfl,h1,.inr rfl,R.h0 h0,h2,h3⟩⟩
def mD(i:Nat)(wy wv:DT):aH:=λδ n K=>match δ[i]? with
 |some (ae (.odk kvs))=>wv δ n λv n1=>wy δ n1 λy n2=>match v,y with
  |.d d,.d (.str k)=>kvs.length < 1000/\K.nx (δ.set i (ae (.odk (fg kvs (.inr k) d)))) n2
  |_,_=>False
 |_=>False
theorem Uj{i:Nat}{xp sp:Pos}(hu:X.A.units+64 < Gr)(hN:X.N[i]?=ae x)(hj:DE X j tj wj)(he:DE X e te we)(hv:fH X.env.scope x:=by first|exact C7 rfl|exact Cc (C7 rfl)|exact Cc (Cc rfl))(hd:(x==("__debug__":Str))=aj:=by decide)
  (hcd:(x==("__classdict__":Str))=aj:=by decide) (hs:Da e (ae (.Subscript (.Name x xp) j sp)) pos.line X.env=pure aj:=by rfl):
  DS X (.Assign [.Subscript (.Name x xp) j sp] e pos) (uY (cC i) tj te) (mD i wj we):=
 ⟨EW ⋯ (fJ hN hv hd hcd) hj.pe he.pe hs,λC H B σ δ n K D R q E=>by
  unfold mD at q
  split at q
  ·rename_i kvs ei;refine he.sd C H B σ δ n _ _ R q λu y H1 n1 R1 k1 r1 q1=>?_;obtain⟨v,hv,a,l,rfl,e2,e3,e4,e5,e6⟩:=R1.sl i _ ei;refine⟨_,hv,hj.sd C H1 B σ δ n1 _ _ R1 q1 λw z H2 n2 R2 k2 r2 q2=>?_⟩
   split at q2
   ·rename_i d key;cases(show RdX H2 B w (.str key)from r2);have hat:a≠C.t:=λz=>R.t0 (z▸e4);have e2':=k2 _ _ e2 hat;have r1':RdX H2 B u d:=r1.kp k2 R1.bt;have e6':RdK H2 B l kvs:=e6.move λb o e n=>⟨k2 b o e λz=>n (z▸R1.bt),n⟩;have hl:l.length < 1000:=by rw[e6'.len];exact q2.1
    refine⟨a,_,rfl,DPut.k (k:=.inr key) e2' (Bd hl (fh (Ao _))),?_⟩;refine E.nx _ _ _ _ _ (R2.mutOwn ei rfl hv e3 e4 ?_ rfl) q2.2;refine⟨a,_,rfl,bu,e3,e4,?_,?_⟩
    ·have:=xE l (.inr key) u;omega
    ·exact(e6'.put r1' _).move λb o e n=>⟨by rw[aM λ(z:b=a)=>n (z▸e3)];exact e,n⟩
   ·exact q2.elim
  ·exact q.elim⟩
def Uu(i:Nat):DT:=λδ n Q=>match δ[i]? with
 |some (ae (.own ds))=>Q (.d (.int ds.length)) n
 |_=>False
def ma(i:Nat)(w:DT):DT:=λδ n Q=>w δ n λx n1=>match x,δ[i]? with
 |.d a,ae (ae (.own ds))=>eI a=ai/\ds.all eI=ai/\Q (.d (.bool (bI a ds))) n1
 |_,_=>False
theorem Qq{i:Nat}(h:ee ta wa):ee (dF (il K aj) ta (cC i)) (ma i wa):=λC H B σ δ n Q Q' R q k=>
 h C H B σ δ n _ _ R q λv x H1 n1 R1 k1 r1 q1=>by
  split at q1
  ·rename_i da ds e;have r1:RdX H1 B v da:=r1;obtain⟨u,h1,a,xs,rfl,g2,g3,g4,g5,g6⟩:=R1.sl i _ e;refine⟨_,h1,a,xs,rfl,.inl (SqL.of g2),kr r1 q1.1,ka g6 q1.2.1,k _ _ H1 n1 R1 k1 (wd (.bl _)) ?_⟩;rw[lI r1 g6];exact q1.2.2
  ·exact q1.elim
theorem Mr(i){x:Str}{xp:Pos}(ha:DE X a ta wa)(hK:X.K=K:=by rfl)(hN:X.N[i]?=ae x:=by rfl)(hv:fH X.env.scope x:=by first|exact C7 rfl|exact Cc (C7 rfl)|exact Cc (Cc rfl))(hd:(x==("__debug__":Str))=aj:=by decide)
  (hcd:(x==("__classdict__":Str))=aj:=by decide) (hm:Cf .In (Expr.Name x xp)=aj:=by with_unfolding_all rfl):DC X (.Compare a [.In] [.Name x xp] pos) (jP (dF (il K aj) ta (cC i))) (cT (ma i wa)):=
 ⟨jE (tu hK) ha.pe (fJ hN hv hd hcd) hm,kY (Qq ha.sd)⟩
end
section
variable{X:Cx}{a b c e o i f:Expr}{ta tb te td ty tx:TE}{wa wb we wd' wy wx:DT}{pos p:Pos}{K:Ah}
def bb(ps:List (Str×Ab)):List (aG×Ab):=ps.map λp=>(Di p.1,p.2)
def jt(ps:List (Str×Ab)):Prop:=ps.Pairwise λa b=>¬b.1.cps.toList < a.1.cps.toList
def nS(w:DT):fk:=λδ n Q=>w δ n λx n1=>match x with
 |.dk kvs=>∃ps:List (Str×Ab),kvs=bb ps/\ps.length < 64/\(ps.map (·.1)).Nodup/\(∀p∈ps,p.1.length<=1000/\eI p.2=ai)/\∀ps':List (Str×Ab),ps'.Perm ps->jt ps'->Q (ps'.map λp=>.tuple [.str p.1,p.2]) n1
 |_=>False
theorem zZ:∀{l:List (aG×V)}{ps:List (Str×Ab)},RdK H B l (bb ps)->∃xv:List V,xv.length=ps.length/\l=(((ps.map (·.1)).zip xv).map λp=>((Di p.1:aG),p.2))/\RdXs H B xv (ps.map (·.2))
 |[],[],_=>⟨[],rfl,rfl,.nil⟩
 |[],_::_,h=>nomatch h
 |_::_,[],h=>nomatch h
 |q::l,p::ps,.cons r h=>by
  obtain⟨xv,e1,e2,e3⟩:=zZ (l:=l) (ps:=ps) h;refine⟨q.2::xv,by simp[e1],?_,.cons r.2 e3⟩;rw[e2];have r1:q.1=(Di p.1:aG):=r.1;have:q=((Di p.1:aG),q.2):=by rw[<-r1]
  rw[this];rfl
def Tg:V->List V->Hp->VK->Prop:=λx vs H Q=>∃d kvs,x=.ref d/\vs=[]/\H d=ae (.dK kvs)/\∀v,H v=ah->Q (.ref v) (upd H v (jZ d v))
theorem HM{α β:Type}{f:α->β}{l:List α}{i:Nat}{x:α}{y:β}(h:i < l.length):(l.map f).getD i y=f (l.getD i x):=by simp[h]
theorem Tt{ap ip:Pos}(hh:X.A.handled=ah)(hg:Gl X "sorted")(hm:X.mg "sorted"=ah)(ho:DE X o td wd')(hv:By "sorted"=ae (.builtin "sorted"):=by decide +kernel)(hK:X.K=K:=by rfl)
  (hbase:Gi o "items" X.env (eval o X.env)=eval o X.env:=by rfl) (hline:(ap.endLine==ip.line)=ai:=by rfl)
  (he':As [Expr.Call (.Attribute o "items" ap) [] [] ip] X.env=(aj,eval (Expr.Call (.Attribute o "items" ap) [] [] ip) X.env)::As [] X.env:=by rfl) (hpl:(Ct pos (As [] X.env)).any (·.1)=aj:=by rfl):
  DF X (.Call (.Name "sorted" p) [.Call (.Attribute o "items" ap) [] [] ip] [] pos) (fC HI (dA (ph K "dict" Tg td) bS)) (nS wd'):=by
 subst hK;refine⟨jg (P4 hh) hg hm hv (b9 (R8 PySem.F.plainAttrs_dict PySem.F.slot_dict_items PySem.F.type_dict_items Ts ho.pe hbase hline) dH he') ∎ ∎ he' hpl,λC H B σ δ n Q Q' R q k=>
  ho.sd C H B σ δ n _ _ R q λv x H1 n1 R1 k1 r1 q1=>?_⟩
 cases x with
 |d _=>exact q1.elim
 |tp=>exact q1.elim
 |ln _=>exact q1.elim
 |ob _=>exact q1.elim
 |dk kvs=>
  obtain⟨a,l,rfl,g1,g2,g3⟩:=r1;obtain⟨ps,rfl,h64,nd,hps,kq⟩:=q1;obtain⟨xv,ex1,ex2,ex3⟩:=zZ g3;refine⟨.inr (.inr (.inl ⟨rfl,.inl ⟨l,g1⟩⟩)),a,l,rfl,rfl,g1,λv hv=>?_⟩;have R2:=R1.new (o:=jZ a v) hv;have kp2:Kp C.t H1 (upd H1 v (jZ a v)):=Kp.new hv;have hne:a≠v:=bO g1 hv;refine⟨v,a,ps.map (·.1),xv,rfl,bu,by rw[Ad,ex1],by rw[aM hne,g1,ex2],by rw[Ad];exact h64,nd,ka ex3 ?_,λD as idx H' hla hidx hpw sm hD has hD' hit=>?_⟩
  ·rw[Ez];intro d hd;obtain⟨p,hp,rfl⟩:=Bo.mp hd;exact(hps p hp).2
  ·rw[Ad]at hla hidx;have R3:=R2.same sm;have k3:Kp C.t H H':=(k1.trans kp2).trans λb o e _=>sm b o e;have hDn:H D=ah:=R1.was k1 (by
    cases q:H1 D with
    |none=>rfl
    |some o=>
     have:upd H1 v (jZ a v) D=ae o:=by rw[aM (bO q hv)];exact q
     rw[hD]at this;cases this)
   have hlt:∀i∈idx,i < ps.length:=λi hi=>Ci.mp (hidx.mem_iff.mp hi);have lidx:idx.length=ps.length:=by rw[hidx.length_eq,Cr]
   refine k D _ _ H' n1 R3 k3 hDn hD' (by rw[Ad,lidx];exact fh ⋯) ?_ (kq (idx.map λi=>ps.getD i (⟨#[]⟩,.none)) ?_ ?_)
   ·rw[Dg];have key:∀m:List Nat,(∀i∈m,i∈idx)->RdXs H' (λb=>B b\/b=D) (m.map λi=>V.ref (fG as (ps.map (·.1)) xv i).1) (m.map ((λp=>PyData.tuple [.str p.1,p.2]) ∘ λi=>ps.getD i (⟨#[]⟩,.none))):=by
     intro m
     induction m with
     |nil=>intro _;exact .nil
     |cons i r ih=>
      intro hm;have hi:=hm i A0;have hil:=hlt i hi;refine .cons ?_ (ih λj hj=>hm j (Aw _ hj));have ht:=hit i hi;have hia:i < as.length:=by rw[hla];exact hil
      have eA:(fG as (ps.map (·.1)) xv i).1=as[i]:=by show as.getD i 0=_;simp[hia]
      have eK:(fG as (ps.map (·.1)) xv i).2.1=ps[i].1:=by show(ps.map (·.1)).getD i ⟨#[]⟩=_;simp[hil]
      have hix:i < xv.length:=by rw[ex1];exact hil
      have eX:(fG as (ps.map (·.1)) xv i).2.2=xv[i]:=by show xv.getD i .non=_;simp[hix]
      rw[eA,eK,eX]at ht;show RdX H' _ (.ref (fG as (ps.map (·.1)) xv i).1) _;rw[eA];have eP:ps.getD i (⟨#[]⟩,.none)=ps[i]:=by simp[hil]
      show RdX H' _ (.ref as[i]) (.tuple [.str (ps.getD i (⟨#[]⟩,.none)).1,(ps.getD i (⟨#[]⟩,.none)).2]);rw[eP];have hAn:=has as[i] (Cz hia);have nB:¬B as[i]:=R2.nb hAn;have nD:as[i]≠D:=λz=>by rw[z,hD']at ht;cases ht
      refine .tup ht (λz=>z.elim nB nD) (by show 2<=Ay;decide) (.cons (.str _ (fh (hps ps[i] (Cz hil)).1)) (.cons ?_ .nil));obtain⟨d,f1,f2⟩:=ex3.get (Al hix);rw[Ax,Al hil]at f1;cases f1;exact f2.move λb o e n=>⟨sm b o (by rw[aM (bO e hv)];exact e),λz=>z.elim n λq=>by
       have e2:upd H1 v (jZ a v) b=ae o:=by rw[aM (bO e hv)];exact e
       rw[q,hD]at e2;cases e2⟩
    exact key idx λ_ h=>h
   ·have h1:=hidx.map λi=>ps.getD i ((⟨#[]⟩:Str),PyData.none);have h2:(Bi ps.length).map (λi=>ps.getD i ((⟨#[]⟩:Str),PyData.none))=ps:=by
     apply Ey (by simp);intro i h1 h2;simp[h2]
    rw[h2]at h1;exact h1
   ·unfold jt;rw[List.pairwise_map];rw[List.pairwise_map]at hpw;refine List.Pairwise.imp_of_mem (λ{x y} hx hy h=>?_) hpw;rw[HM (x:=((⟨#[]⟩:Str),PyData.none)) (hlt x hx),HM (x:=((⟨#[]⟩:Str),PyData.none)) (hlt y hy)]at h;exact h
theorem qA:∀{ys:List Str},(∀y∈ys,y.length<=1000)->RdXs H B (ys.map V.str) (ys.map .str)
 |[],_=>.nil
 |y::r,h=>.cons (.str _ (fh (h y A0))) (qA λz hz=>h z (Aw _ hz))
def S9:List Wv->Int->DQ->Prop:=λxs n Q=>match xs with
 |[.d (.int i)]=>Q (.d (.int i)) n
 |[.d (.bool b)]=>Q (.d (.int (if b then 1 else 0))) n
 |_=>False
def df(xs ys:List Ab):List Ab:=List.zipWith (λx y=>.tuple [x,y]) xs ys
def kA(w w':DT):gJ:=λδ n Q=>w δ n λx n1=>w' δ n1 λy n2=>match x,y with
 |.d (.tuple xs),.d (.tuple ys)=>xs.length=ys.length/\Q (df xs ys) n2
 |_,_=>False
theorem Mb{elts:List Expr}{kk:Nat}{tpos:Pos}(hg:Gl X "zip")(hm:X.mg "zip"=ah)(ha:DE X a ta wa)(hb:DE X b tb wb)(hK:X.K=K:=by rfl)(hs:As [a,b] X.env=[(aj,eval a X.env),(aj,eval b X.env)]:=by rfl)(hs2:As [b] X.env=[(aj,eval b X.env)]:=by rfl)
  (he1:As [a,b] X.env=(aj,eval a X.env)::As [b] X.env:=by rfl) (he2:As [b] X.env=(aj,eval b X.env)::As [] X.env:=by rfl):
  DI X (.Tuple elts kk tpos) (.Call (.Name "zip" p) [a,b] [] pos) (o8 K (dA ta (dA tb bS))) (kA wa wb):=by
 subst hK;refine⟨Ms hg hm (b9 ha.pe (b9 hb.pe dH he2) he1) hs hs2,λC H B σ δ n Q Q' R q k=>ha.sd C H B σ δ n _ _ R q λv x H1 n1 R1 k1 r1 q1=>hb.sd C H1 B σ δ n1 _ _ R1 q1 λu y H2 n2 R2 k2 r2 q2=>?_⟩;have r1':=r1.kp k2 R1.bt
 split at q2
 ·rename_i xs ys;cases(show RdX H2 B v (.tuple xs)from r1')with
  |@tup aa vs _ e1 e2 e3 e4=>
   cases(show RdX H2 B u (.tuple ys)from r2)with
   |@tup ab ws _ f1 f2 f3 f4=>
    refine⟨aa,ab,rfl,⟨vs,SqT.of e1⟩,⟨ws,SqT.of f1⟩,k _ (df xs ys) H2 n2 R2 (k1.trans k2) (λfz th=>?_) q2.2⟩;have za:fz aa=ae (.tup vs):=th.2 _ _ e1 e2;have zb:fz ab=ae (.tup ws):=th.2 _ _ f1 f2;have lz:(df xs ys).length=xs.length:=by unfold df;rw[List.length_zipWith,q2.1,Nat.min_self]
    refine⟨by rw[lz,<-e4.len];exact e3,λi H hH hi=>?_,λH hH=>?_,λi H x H' d hH hd hy=>?_⟩
    ·rw[lz]at hi;have h1:i < vs.length:=by rw[e4.len];exact hi
     have h2:i < ws.length:=by rw[f4.len,<-q2.1];exact hi
     exact⟨vs,ws,vs[i],ws[i],SqT.of (hH _ _ za),SqT.of (hH _ _ zb),Al h1,Al h2⟩
    ·exact⟨vs,SqT.of (hH _ _ za),by rw[lz,e4.len];exact Ao _⟩
    ·obtain⟨T,x1,y1,rfl,hT,rfl,hx,hy⟩:=hy;refine⟨λb o e=>by rw[aM (bO e hT)];exact e,λB' hB hBa=>?_⟩;have hi:i < xs.length:=by rw[<-lz];exact(Av.mp hd).1
     have hi2:i < ys.length:=by rw[<-q2.1];exact hi
     have ed:d=.tuple [xs[i],ys[i]]:=by
      unfold df at hd;rw[List.getElem?_zipWith,Al hi,Al hi2]at hd;exact(Bc hd).symm
     subst ed;obtain⟨u1,hu1,ru1⟩:=e4.getD (Al hi);obtain⟨u2,hu2,ru2⟩:=f4.getD (Al hi2);have t1:=hx _ (SqT.of (hH _ _ za));have t2:=hy _ (SqT.of (hH _ _ zb));rw[hu1]at t1;rw[hu2]at t2;cases t1;cases t2;have mv:∀b o,H2 b=ae o->¬B b->upd H T (.tup [x1,y1]) b=ae o/\¬B' b:=λb o e ne=>by
      have:=hH _ _ (th.2 _ _ e ne);exact⟨by rw[aM (bO this hT)];exact this,hB _ _ (th.2 _ _ e ne)⟩
     exact .tup bu (λz=>hBa T z hT) (by show 2<=Ay;decide) (.cons (ru1.move mv) (.cons (ru2.move mv) .nil))
 ·exact q2.elim
end
end DL
namespace L2
open PySem PySem.Spec PyProof.Rows PySem.SeqAt
end L2
namespace DL
open PySem L2 Nb
end DL
namespace L2
open PySem PySem.Spec PyProof.Rows PySem.W
section
variable{prog:A7}{w:Bk}{A:Bu}{E:Af->Ai->Prop}{s:Ai}
theorem Ui(hn:n≠0)(h:∀i dr,i < n->Q i {s with drawn:=dr}):A2 (A6 prog w) A (choose src n) Q E s:=
 λ_ _ _=>⟨hn,h _ _ (Nat.mod_lt _ (Nat.pos_of_ne_zero hn))⟩
theorem t6{α:Type}:∀(l:List α)(i:Nat)(h:i < l.length),(l[i]::l.eraseIdx i).Perm l
 |x::r,0,_=>List.Perm.refl _
 |x::r,i+1,h=>(List.Perm.swap x (r[i]'(Nat.lt_of_succ_lt_succ h)) (r.eraseIdx i)).trans ((t6 r i (Nat.lt_of_succ_lt_succ h)).cons x)
theorem EG:∀(n:Nat)(xs:List α)(s:Ai){Q:List α->Ai->Prop},xs.length=n->(∀ys dr,ys.Perm xs->Q ys {s with drawn:=dr})->A2 (A6 prog w) A (drawOrder n xs) Q E s
 |0,xs,s,Q,hl,h=>by
  cases G2 hl;exact Aj (h [] s.drawn (List.Perm.refl _))
 |n+1,[],s,Q,hl,h=>by cases hl
 |n+1,x::r,s,Q,hl,h=>by
  unfold drawOrder;refine Aa (Ui (by simp) λi dr hi=>?_);rw[Al hi];dsimp only;refine Aa (EG n _ _ (by rw[List.length_eraseIdx_of_lt hi];simp at hl ⊢;omega) λys dr' hp=>Aj (h _ dr' ?_));exact(hp.cons _).trans (t6 _ _ hi)
theorem ID(next):∀(fuel k:Nat)(left:List α)(out:Array α),left.length=fuel->(pickOrder.go next fuel k left out).toList.Perm (out.toList++left)
 |0,k,left,out,hl=>by
  cases G2 hl;simp[pickOrder.go]
 |fuel+1,k,left,out,hl=>by
  have hi:next k % left.length < left.length:=Nat.mod_lt _ ⋯
  unfold pickOrder.go;rw[Al hi];dsimp only;refine(ID next fuel (k+1) _ _ (by rw[List.length_eraseIdx_of_lt hi];omega)).trans ?_;rw[Array.toList_push,Bj];exact List.Perm.append_left _ (t6 _ _ hi)
theorem JP(next)(xs:Array α):(pickOrder next xs).toList.Perm xs.toList:=by
 have:=ID next xs.size 0 xs.toList #[] (by simp)
 simpa[pickOrder]using this
def cU(w:Bk):Bool:=w.params.followText "set-order"
theorem pC(h:Q (cU w) s):A2 (A6 prog w) A setsByText Q E s:=by
 unfold setsByText;exact Aa (wpAny_askSetting (Aj h))
structure SetTb(w:Bk)(h:Heap)(a:Addr)(es:Array (Int×Af))(ep:Nat)(t:Fb):Prop where
 obj:∃o,h.get? a=ae o/\o.ExactSet/\o.data=.set es ep t
 fits:t.fits es.size=ai
 led:t.led=!cU w
 plain:t.plain=ai->es.size=0
theorem SetTb.move(x:SetTb w h a es ep t)(k:∀o,h.get? a=ae o->h'.get? a=ae o):SetTb w h' a es ep t:=
 ⟨let⟨o,e,r⟩:=x.obj;⟨o,k o e,r⟩,x.fits,x.led,x.plain⟩
theorem SetTb.typeIs(x:SetTb w s.heap a es ep t):s.TypeIs (.ref a) "set":=let⟨o,e,r,_⟩:=x.obj;⟨o,e,r.1⟩
theorem SetTb.lt(x:SetTb w h a es ep t):a < h.objs.size:=let⟨_,e,_⟩:=x.obj;Aq e
theorem Ua(t:Fb)(n):(t.orStandIn n).led=t.led:=by
 unfold SetTable.orStandIn
 split<;>rfl
theorem Kt(t:Fb)(es)(h)(x):(layNew t es h x).2.1.led=t.led:=by
 unfold layNew
 split
 ·exact Ua _ _
 ·rfl
theorem Nf{t t':Fb}(h:t.relaid hs n=ae (t',ord)):t'.led=t.led/\t'.plain=t.plain:=by
 unfold SetTable.relaid SetTable.laid at h;cases hc:SetTable.layClean (SetTable.sizeAbove n-1) hs with
 |none=>rw[hc]at h;cases h
 |some ow=>
  rw[hc]at h;cases h;exact⟨rfl,rfl⟩
theorem FC(t:Fb)(es)(n):(relayAll t es n).2.1.led=t.led/\((relayAll t es n).2.1.plain=ai->t.plain=ai):=by
 unfold relayAll
 split
 ·rename_i t' ord he;obtain⟨h1,h2⟩:=Nf he;dsimp only
  split
  ·exact⟨h1,λz=>h2▸z⟩
  ·exact⟨rfl,λz=>by simp[SetTable.standIn]at z⟩
 ·exact⟨rfl,λz=>by simp[SetTable.standIn]at z⟩
def fQ(v:Af):Str:=match v with
 |.str k _=>k
 |_=>⟨#[]⟩
def cn(es:Array (Int×Af)):List Str:=es.toList.map λe=>fQ e.2
def TxEs(w:Bk)(es:Array (Int×Af)):Prop:=∀e∈es.toList,∃k t,e.2=.str k t/\e.1=hashStr w k
theorem TxEs.elems(h:TxEs w es):ElemsOf (D5 prog w) es.toList:=λe he=>by
 obtain⟨k,t,e1,e2⟩:=h e he;refine⟨⟨k,?_,e2⟩,by rw[e1];rfl⟩;rw[e1];simp[D5,Value.isStrOf]
def iH(w:Bk)(h:Heap)(a:Addr)(seen:List Str):Prop:=∃es ep t,SetTb w h a es ep t/\TxEs w es/\(cn es).Nodup/\(∀k,k∈cn es↔k∈seen)/\es.size<=seen.length
end
theorem CB:entryFor table "set.update.loop"=ae D7.«set.update.loop»:=G8 (by kernel_rfl)
theorem sO:plainId "set.update.loop"=ai:=by decide +kernel
section
variable{prog:A7}{w:Bk}{A:Bu}{E:Af->Ai->Prop}{s:Ai}
theorem Ub{seen:List Str}(hx:TxEs w es)(nd:(cn es).Nodup)(hm:∀k,k∈cn es↔k∈seen)(hl:es.size<=seen.length)(hk:k∉cn es)
  (p:es'.toList.Perm (es.toList++[(hashStr w k,.str k tk)])):TxEs w es'/\(cn es').Nodup/\(∀k',k'∈cn es'↔k'∈seen++[k])/\es'.size<=(seen++[k]).length/\es'.size=es.size+1:=by
 have pk:(cn es').Perm (cn es++[k]):=by
  have:=p.map λe=>fQ e.2;rw[Be]at this;exact this
 have hz:es'.size=es.size+1:=by
  have:=p.length_eq;simpa using this
 refine⟨λe he=>?_,pk.nodup_iff.mpr ?_,λk'=>?_,by rw[hz,Ak];exact Nat.succ_le_succ hl,hz⟩
 ·rcases Ba.mp (p.mem_iff.mp he)with h|h
  ·exact hx e h
  ·rw[Bg]at h;subst h;exact⟨k,tk,rfl,rfl⟩
 ·rw[List.nodup_append];exact⟨nd,Hk _ _,λa ha b hb e=>hk (by rw[Bg]at hb;rw[<-hb,<-e];exact ha)⟩
 ·rw[pk.mem_iff,Ba,Ba,hm k']
theorem GD(hx:TxEs w es)(nd:(cn es).Nodup)(p:es'.toList.Perm es.toList):TxEs w es'/\(cn es').Nodup/\(∀k',k'∈cn es'↔k'∈cn es)/\es'.size=es.size:=by
 have pk:(cn es').Perm (cn es):=List.Perm.map (λe:Int×Af=>fQ e.2) p;exact⟨λe he=>hx e (p.mem_iff.mp he),pk.nodup_iff.mpr nd,λk'=>pk.mem_iff,by have:=p.length_eq;simpa using this⟩
theorem Px{seen:List Str}(hS:iH w s.heap a seen)(hb:seen.length < 1000)
  (h:∀b h',C9 a s.heap h'->iH w h' a (seen++[k])->Q b {s with heap:=h'}):A2 (A6 prog w) A (setAddHashed a (.str k tk) (hashStr w k)) Q E s:=by
 obtain⟨es,ep,t,T,hx,nd,hm,hl⟩:=hS;obtain⟨o,ho,hex,hd⟩:=T.obj;have hel:ElemsOf (D5 prog w) es.toList:=hx.elems;have hsz:es.size < scanBound:=by unfold scanBound;omega
 have hkey:(D5 prog w).is k (.str k tk)=ai:=by simp[D5,Value.isStrOf]
 unfold setAddHashed setAddHashedIn;refine Ce (Aa (Ft ho hd T.fits ?_));dsimp only;rw[byScan_of (knd:=D5 prog w) (x:=.str k tk) rfl hsz hel];simp only[↓reduceIte];unfold setAddByScan;refine Aa (Aa (G5 (Aa (wpAny_setScan_of (knd:=D5 prog w) (k:=k) hkey ho hd T.fits hel ?_))));cases hr:es.toList.findIdx? (λe=>(D5 prog w).is k e.2)with
 |some j=>
  dsimp only;obtain⟨hj,hpj,_⟩:=Gf.mp hr;have hk:k∈cn es:=by
   obtain⟨u,hu⟩:=Value.isStrOf_shape hpj;exact Bo.mpr ⟨es.toList[j],Cz hj,by rw[hu];rfl⟩
  refine Aj (Aj (h _ s.heap (Heap.SameBut.refl a s.heap) ⟨es,ep,t,T,hx,nd,λk'=>?_,by rw[Ak];omega⟩));rw[hm k',Ba,Bg];exact⟨.inl,λz=>z.elim id λe=>e▸(hm k).mp hk⟩
 |none=>
  dsimp only;have hk:k∉cn es:=λz=>by
   obtain⟨e,he,e2⟩:=Bo.mp z;obtain⟨k',t',e3,_⟩:=hx e he;have q:=List.findIdx?_eq_none_iff.mp hr e he;rw[e3]at e2 q;have e2:k'=k:=e2;subst e2;simp[D5,Value.isStrOf]at q
  have hgw:∀(b:Bool){s₁:Ai}{Q':Unit->Ai->Prop},Q' () s₁->A2 (A6 prog w) A (match b with|true=>rule "set.scan.the-table-gave-way"|false=>pure ()) Q' E s₁:=
   λb s₁ Q' hq=>by cases b with
    |true=>exact G5 hq
    |false=>exact Aj hq
  have hp:=layNew_perm t es (hashStr w k) (.str k tk);have hf:=layNew_fits t es (hashStr w k) (.str k tk);have hle:=Kt t es (hashStr w k) (.str k tk);have eh:(D5 prog w).hash k=hashStr w k:=rfl
  try rw[eh]
  generalize layNew t es (hashStr w k) (.str k tk)=L at hp hf hle ⊢;obtain⟨es1,t1,wd,gave⟩:=L;dsimp only at hp hf hle ⊢;rw[Array.toList_push]at hp;obtain⟨x1,n1,m1,l1,z1⟩:=Ub hx nd hm hl hk hp;refine Aa (hgw _ ?_)
  split
  ·refine Aa ?_;rw[hashByValue_scannable 8 rfl];refine Aj ?_;have hpl:({t1 with plain:=aj}:Fb).plain=aj:=rfl;have hft:({t1 with plain:=aj}:Fb).fits es1.size=ai:=SetTable.fits_plain_off hf;have hld:({t1 with plain:=aj}:Fb).led=t.led:=hle;simp only[plainKind,Cu,↓reduceIte];generalize({t1 with plain:=aj}:Fb)=t2 at hpl hft hld ⊢;have hb1:es1.size < scanBound:=by unfold scanBound;omega
   refine Aa (wpAny_storeSet_of ho hd ?_ (fits_of_scanBound hb1));have g1:(s.heap.update a (Eo es1 t2)).get? a=ae {o with data:=.set es1 (ep+1) t2}:=by
    have:=Bt (Eo es1 t2) ho (by rw[putSet_of es1 t2 hd];rfl);rw[putSet_of es1 t2 hd]at this;exact this
   have sb1:=Bm s.heap a (Eo es1 t2)
   split
   ·have hp2:=relayAll_perm t2 es1 (Em es1.size);have hf2:=relayAll_fits t2 es1 (Em es1.size);obtain⟨hl2,hq2⟩:=FC t2 es1 (Em es1.size);generalize relayAll t2 es1 (Em es1.size)=R at hp2 hf2 hl2 hq2 ⊢;obtain⟨es2,t3,gave2⟩:=R;dsimp only at hp2 hf2 hl2 hq2 ⊢;obtain⟨x2,n2,m2,z2⟩:=GD x1 n1 hp2;refine Aa (hgw _ ?_);refine Aa (wpAny_storeSet_of g1 rfl ?_ (fits_of_scanBound (by rw[z2];exact hb1)));have g2:((s.heap.update a (Eo es1 t2)).update a (Eo es2 t3)).get? a=ae {o with data:=.set es2 (ep+1+1) t3}:=by
     have:=Bt (Eo es2 t3) g1 (by rw[putSet_of es2 t3 rfl];rfl);rw[putSet_of es2 t3 rfl]at this;exact this
    refine Aj (Aj (h _ _ (sb1.trans (Bm _ a _)) ⟨es2,ep+1+1,t3,⟨⟨_,g2,hex,rfl⟩,hf2,by rw[hl2,hld];exact T.led,λz=>?_⟩,x2,n2,λk'=>(m2 k').trans (m1 k'),by rw[z2];exact l1⟩));have:=hq2 z;rw[hpl]at this;cases this
   ·refine Aj (Aj (h _ _ sb1 ⟨es1,ep+1,t2,⟨⟨_,g1,hex,rfl⟩,hft,by rw[hld];exact T.led,λz=>?_⟩,x1,n1,m1,l1⟩));rw[hpl]at z;cases z
  ·rename_i hpl0;have hpl:t1.plain=aj:=by simpa using hpl0
   have hft:=hf;have hld:=hle;refine Aa (Aj ?_);simp only[↓reduceIte];clear hf hle hpl0;generalize t1=t2 at hpl hft hld ⊢;have hb1:es1.size < scanBound:=by unfold scanBound;omega
   refine Aa (wpAny_storeSet_of ho hd ?_ (fits_of_scanBound hb1));have g1:(s.heap.update a (Eo es1 t2)).get? a=ae {o with data:=.set es1 (ep+1) t2}:=by
    have:=Bt (Eo es1 t2) ho (by rw[putSet_of es1 t2 hd];rfl);rw[putSet_of es1 t2 hd]at this;exact this
   have sb1:=Bm s.heap a (Eo es1 t2)
   split
   ·have hp2:=relayAll_perm t2 es1 (Em es1.size);have hf2:=relayAll_fits t2 es1 (Em es1.size);obtain⟨hl2,hq2⟩:=FC t2 es1 (Em es1.size);generalize relayAll t2 es1 (Em es1.size)=R at hp2 hf2 hl2 hq2 ⊢;obtain⟨es2,t3,gave2⟩:=R;dsimp only at hp2 hf2 hl2 hq2 ⊢;obtain⟨x2,n2,m2,z2⟩:=GD x1 n1 hp2;refine Aa (hgw _ ?_);refine Aa (wpAny_storeSet_of g1 rfl ?_ (fits_of_scanBound (by rw[z2];exact hb1)));have g2:((s.heap.update a (Eo es1 t2)).update a (Eo es2 t3)).get? a=ae {o with data:=.set es2 (ep+1+1) t3}:=by
     have:=Bt (Eo es2 t3) g1 (by rw[putSet_of es2 t3 rfl];rfl);rw[putSet_of es2 t3 rfl]at this;exact this
    refine Aj (Aj (h _ _ (sb1.trans (Bm _ a _)) ⟨es2,ep+1+1,t3,⟨⟨_,g2,hex,rfl⟩,hf2,by rw[hl2,hld];exact T.led,λz=>?_⟩,x2,n2,λk'=>(m2 k').trans (m1 k'),by rw[z2];exact l1⟩));have:=hq2 z;rw[hpl]at this;cases this
   ·refine Aj (Aj (h _ _ sb1 ⟨es1,ep+1,t2,⟨⟨_,g1,hex,rfl⟩,hft,by rw[hld];exact T.led,λz=>?_⟩,x1,n1,m1,l1⟩));rw[hpl]at z;cases z
def iN(ks:List Str)(i:Nat)(v:Af):Prop:=∃k t,ks[i]?=ae k/\v=.str k t
theorem Om{St:Nat->Ai->Prop}(W:WalksS prog w A.in1 I fp wr G n (iN ks) St)(S)(hSf:S∉fp)(hn:ks.length=n)(hb:n < 64):
  ∀(m i:Nat)(s:Ai),n-i=m->i<=n->St i s->iH w s.heap S (ks.take i)->
   (∀s',Moved (S::wr) G s s'->iH w s'.heap S ks->R (.ok (.ret .none)) s')->F7 (A6 prog w) A (.builtin "set.update.loop" ⟨[.ref S,.ref I],[]⟩) R s:=by
 have hSw:S∉wr:=λh=>hSf (W.sub _ h);have hsub:∀b∈wr,b∈S::wr:=λb hb=>Aw _ hb;have mv:∀{h h':Heap}{seen:List Str},(∀o,h.get? S=ae o->h'.get? S=ae o)->iH w h S seen->iH w h' S seen:=λk x=>by
  obtain⟨es,ep,t,T,r⟩:=x;exact⟨es,ep,t,T.move k,r⟩
 intro m
 induction m with
 |zero=>
  intro i s hk hi hst hS hR;have hin:i=n:=by omega
  subst hin;refine Dd CB ?_;rw[Ck sO _];show A2 _ A.in1 (E2 (.ref I)>>=_) _ _ s;refine Aa (W.done s _ _ hst λs' hm=>?_);show A2 _ A.in1 (ret Bh) _ _ s';rw[<-hn,List.take_length]at hS;exact Aj (hR s' (hm.mono hsub) (mv (λo e=>hm.heap S _ hSw e) hS))
 |succ m ih=>
  intro i s hk hi hst hS hR;have hlt:i < n:=by omega
  refine Dd CB ?_;rw[Ck sO _];show A2 _ A.in1 (E2 (.ref I)>>=_) _ _ s;refine Aa (W.item i s _ _ hlt hst λv s' hP hst' hm=>?_);obtain⟨k,t,hk1,rfl⟩:=hP;have hS':=mv (λo e=>hm.heap S _ hSw e) hS;show A2 _ A.in1 (holding [F8 k t] (setAdd S (.str k t))>>=_) _ _ s';refine Aa (Ce ?_);unfold setAdd;refine Ce ?_;refine Aa (wpAny_pyHash_str ?_);refine Px (s:={ s' with toks:=s'.toks+1}) hS' (by rw[Dc];omega) λb h' hsb hS2=>?_;have et:ks.take i++[k]=ks.take (i+1):=by
   rw[List.take_add_one,hk1];rfl
  rw[et]at hS2;refine Aj ⟨E3 sO _,ih (i+1) _ ⋯ hlt (W.frame _ s' _ _ hst' (Dm _) λb hb o e=>?_) hS2 λs'' hm'' hS''=>?_⟩
  ·rw[hsb.2 b (λh:b=S=>hSf (by rw[<-h];exact hb))];exact e
  ·refine hR s'' (Moved.trans W.gtrans ((hm.mono hsub).then_heap (Dm _) λb o hb e=>?_) hm'') hS'';rw[hsb.2 b (λh:b=S=>hb (by rw[h];exact A0))];exact e
end
theorem slot_setit_next:Slot "set_iterator" "__next__" "set_iterator.__next__":=Slot.of (owner:="set_iterator") (n:="__next__") (by rw[typeLookup_type,builtinLookup_eq_fast];kernel_rfl)
 ∅ ∅ ∅ (by first|exact .inl ∅|exact .inr ∅) (by rw[F2];kernel_rfl)
theorem mi:entryFor table "set_iterator.__next__"=ae D7.«set_iterator.__next__»:=G8 (by kernel_rfl)
theorem mf(a):argsOk "set_iterator.__next__" ⟨[a],[]⟩:=by unfold argsOk;kernel_rfl
theorem AX:Slot "set_iterator" "__iter__" "set_iterator.__iter__":=Slot.of (owner:="set_iterator") (n:="__iter__") (by rw[typeLookup_type,builtinLookup_eq_fast];kernel_rfl)
 ∅ ∅ ∅ (by first|exact .inl ∅|exact .inr ∅) (by rw[F2];kernel_rfl)
theorem Lw:entryFor table "set_iterator.__iter__"=ae D7.«dict_keyiterator.__iter__»:=by exact entryFor_alias (id':="dict_keyiterator.__iter__") (by kernel_rfl) rfl ∅ (by kernel_rfl)
theorem Rf(a):argsOk "set_iterator.__iter__" ⟨[a],[]⟩:=by unfold argsOk;kernel_rfl
theorem Qt:entryFor table "set.__iter__"=ae D7.«frozenset.__iter__»:=by exact entryFor_alias (id':="frozenset.__iter__") (by kernel_rfl) rfl ∅ (by kernel_rfl)
def SetIt(h:Heap)(I:Addr)(first:Af)(i:Nat)(a:Addr)(n ep:Nat):Prop:=∃o,h.get? I=ae o/\o.cls=.type "set_iterator"/\o.data=.fields #[first,.int i 0,.ref a,.int n 0,.int ep 0]
section
variable{prog:A7}{w:Bk}{A:Bu}{E:Af->Ai->Prop}{s:Ai}{I a T:Addr}{n ep i j:Nat}{es:Array (Int×Af)}{t:Fb}{first:Af}
theorem SetIt.typeIs(x:SetIt s.heap I first i a n ep):s.TypeIs (.ref I) "set_iterator":=let⟨o,e,c,_⟩:=x;⟨o,e,c⟩
theorem SetIt.move(x:SetIt h I first i a n ep)(k:∀o,h.get? I=ae o->h'.get? I=ae o):SetIt h' I first i a n ep:=let⟨o,e,r⟩:=x;⟨o,k o e,r⟩
theorem oQ(hit:SetIt s.heap I first i a n ep)(h:Q (.ref I) s):A2 (A6 prog w) A (pyIter (.ref I)) Q E s:=by
 refine wpAny_pyIter_slot hit.typeIs AX (Cb AX hit.typeIs Lw ?_ (Rf _));show A2 _ _ (ret (.ref I)) _ _ s;exact Aj ⟨_,rfl,"set_iterator",_,hit.typeIs,slot_setit_next.lookup,h⟩
theorem OG(hit:SetIt s.heap I (.ref T) i a n ep)(hs:SetTb w s.heap a es ep t)(hn:es.size=n)(hT:s.heap.IsTuple T pl)(hp:pl[i]?=ae (.int j 0))(hx:es[j]?=ae x)
  (hQ:∀h',SetIt h' I (.ref T) (i+1) a n ep->C9 I s.heap h'->Q (ae x.2) {s with heap:=h'}):A2 (A6 prog w) A (E2 (.ref I)) Q E s:=by
 obtain⟨o,ho,hc,hd⟩:=id hit;obtain⟨oa,hoa,_,hda⟩:=hs.obj;obtain⟨ol,hol,_,nl,hdl⟩:=hT;unfold E2;refine Aa (Eg (Bz (name:=Dj "__next__") hit.typeIs slot_setit_next (Cb slot_setit_next hit.typeIs mi ?_ (mf _))));refine Aa (Aj ?_);refine Aa (Gx ho hd ?_);dsimp only;refine Aa (Eb hoa hda hs.fits ?_);rw[if_neg (by rw[hn];simp)];refine Aa (Dz hol hdl ?_);simp only[Bq,hp];refine Aa ?_;unfold setNextDrawn;refine Aa (Ft hoa hda hs.fits ?_);simp only[Bq,bne_self_eq_false,Cu,if_false,hx];refine Aj ?_;refine Aa (Dn ho hd (by simp) (Aj ⟨x.2,rfl,Aj (hQ _ ?_ (Bm ..))⟩));exact⟨_,Bt _ ho (Dq (B7 hd _)),(Fn ..).trans hc,by
  rw[B7 hd];simp[Cs]⟩
theorem LR(hh:A.handled=ah)(hit:SetIt s.heap I (.ref T) i a n ep)(hs:SetTb w s.heap a es ep t)(hn:es.size=n)(hT:s.heap.IsTuple T pl)(hp:pl[i]?=ah)
  (hQ:∀h',Heap.ExtBut I s.heap h'->Q ah {s with heap:=h'}):A2 (A6 prog w) A (E2 (.ref I)) Q E s:=by
 obtain⟨ol,hol,_,nl,hdl⟩:=hT;obtain⟨o,ho,hc,hd⟩:=id hit;obtain⟨oa,hoa,_,hda⟩:=hs.obj;unfold E2;refine Aa (Eg (Bz (name:=Dj "__next__") hit.typeIs slot_setit_next (Cb slot_setit_next hit.typeIs mi ?_ (mf _))));refine Aa (Aj ?_);refine Aa (Gx ho hd ?_);dsimp only;refine Aa (Eb hoa hda hs.fits ?_);rw[if_neg (by rw[hn];simp)];refine Aa (Dz hol hdl ?_);simp only[Bq,hp];refine Aa (Dn ho hd (by simp) ?_);have ho2:=Bt (Obj.mapFields (·.setIfInBounds 0 (Cs 0))) ho (Dq (B7 hd _));have hd2:=B7 hd (·.setIfInBounds 0 (Cs 0));refine Aa (Dn ho2 hd2 (by simp) ?_);refine Aa ?_;simp only[newExc,newTuple];refine Aa (Bx ?_ (by size_fits));refine Aa (m:=E9 _ _) (Fg (a:=Bh) (by first|rfl|(simp only[E9];rfl)) ?_);refine Bx ?_ (by size_fits);simp only[raiseNew];refine Aa (wpAny_handled ?_)
 first|rw[show A.in1.handled=ah from hh]|rw[hh]
 refine Aa (Aj (wpAny_throw ?_));refine Aa (G6 (T:="StopIteration") (b:=ai) ⟨_,Az _ rfl,rfl⟩ isSubtype_stop ?_);exact Aj (hQ _ (((((Bm ..).trans (Bm ..)).extBut).push _).push _))
def j6(w:Bk)(a:Addr)(ep:Nat)(es:Array (Int×Af)):Array (Int×Af):=pickOrder (w.params.setOrder a ep) es
theorem EH(hb:cU w=ai)(hs:SetTb w s.heap a es ep t)(h:Q (((j6 w a ep es)[i]?).map λe=>(e.2,k)) s):A2 (A6 prog w) A (setNext a k i ep) Q E s:=by
 obtain⟨oa,hoa,_,hda⟩:=hs.obj;unfold setNext;refine Aa (Ft hoa hda hs.fits ?_);dsimp only;refine Aa (pC ?_);rw[hb];simp only[↓reduceIte,bne_self_eq_false,Cu,if_false];refine Aa ?_;unfold setWalk;refine Aa (Ft hoa hda hs.fits ?_);dsimp only;refine Aa (pC ?_);rw[hb];simp only[↓reduceIte];refine Aa (wpAny_askSetting (Aj (Aj h)))
theorem LF(hb:cU w=ai)(hit:SetIt s.heap I (.int 0 0) i a n ep)(hs:SetTb w s.heap a es ep t)(hn:es.size=n)(hx:(j6 w a ep es)[i]?=ae x)
  (hQ:∀h',SetIt h' I (.int 0 0) (i+1) a n ep->C9 I s.heap h'->Q (ae x.2) {s with heap:=h'}):A2 (A6 prog w) A (E2 (.ref I)) Q E s:=by
 obtain⟨o,ho,hc,hd⟩:=id hit;obtain⟨oa,hoa,_,hda⟩:=hs.obj;unfold E2;refine Aa (Eg (Bz (name:=Dj "__next__") hit.typeIs slot_setit_next (Cb slot_setit_next hit.typeIs mi ?_ (mf _))));refine Aa (Aj ?_);refine Aa (Gx ho hd ?_);dsimp only;refine Aa (Eb hoa hda hs.fits ?_);rw[if_neg (by rw[hn];simp)];refine Aa (EH hb hs ?_);simp only[Bq,hx,F3];refine Aa (Dn ho hd (by simp) ?_);have ho2:=Bt (Obj.mapFields (·.setIfInBounds 0 (Cs ((0:Int).toNat:Nat)))) ho (Dq (B7 hd _));have hd2:=B7 hd (·.setIfInBounds 0 (Cs ((0:Int).toNat:Nat)));refine Aa (Dn ho2 hd2 (by simp) (Aj ⟨x.2,rfl,Aj (hQ _ ?_ ((Bm ..).trans (Bm ..)))⟩));exact⟨_,Bt _ ho2 (Dq (B7 hd2 _)),(Fn ..).trans ((Fn ..).trans hc),by
  rw[B7 hd2];simp[Cs]⟩
theorem Rz(hh:A.handled=ah)(hb:cU w=ai)(hit:SetIt s.heap I (.int 0 0) i a n ep)(hs:SetTb w s.heap a es ep t)(hn:es.size=n)(hx:(j6 w a ep es)[i]?=ah)
  (hQ:∀h',Heap.ExtBut I s.heap h'->Q ah {s with heap:=h'}):A2 (A6 prog w) A (E2 (.ref I)) Q E s:=by
 obtain⟨o,ho,hc,hd⟩:=id hit;obtain⟨oa,hoa,_,hda⟩:=hs.obj;unfold E2;refine Aa (Eg (Bz (name:=Dj "__next__") hit.typeIs slot_setit_next (Cb slot_setit_next hit.typeIs mi ?_ (mf _))));refine Aa (Aj ?_);refine Aa (Gx ho hd ?_);dsimp only;refine Aa (Eb hoa hda hs.fits ?_);rw[if_neg (by rw[hn];simp)];refine Aa (EH hb hs ?_);simp only[Bq,hx,Option.map_none];refine Aa (Dn ho hd (by simp) ?_);refine Aa ?_;simp only[newExc,newTuple];refine Aa (Bx ?_ (by size_fits));refine Aa (m:=E9 _ _) (Fg (a:=Bh) (by first|rfl|(simp only[E9];rfl)) ?_);refine Bx ?_ (by size_fits);simp only[raiseNew];refine Aa (wpAny_handled ?_)
 first|rw[show A.in1.handled=ah from hh]|rw[hh]
 refine Aa (Aj (wpAny_throw ?_));refine Aa (G6 (T:="StopIteration") (b:=ai) ⟨_,Az _ rfl,rfl⟩ isSubtype_stop ?_);exact Aj (hQ _ (((Bm ..).extBut.push _).push _))
theorem xo(hb:cU w=aj)(h1:es.size<=1)(hs:SetTb w s.heap a es ep t)
  (h:Q (match es[En t.place k]?,t.place[En t.place k]? with
   |some (_,x),ae j=>ae (x,j+1)
   |_,_=>ah) s):A2 (A6 prog w) A (setNext a k i ep) Q E s:=by
 obtain⟨oa,hoa,_,hda⟩:=hs.obj;have hl:t.led=ai:=by rw[hs.led,hb];rfl
 unfold setNext;refine Aa (Ft hoa hda hs.fits ?_);dsimp only;refine Aa (pC ?_);rw[hb];simp only[Cu,↓reduceIte];have hd:(!t.plain&&decide (es.size > 1))=aj:=by
  have:decide (es.size > 1)=aj:=decide_eq_false ⋯;rw[this,Bool.and_false]
 split
 ·rename_i z;have z':(!t.plain&&decide (es.size > 1))=ai:=z;rw[hd]at z';cases z'
 ·refine Aa (Fg (a:=()) ?_ (Aj h));show(if (!t.led&&!es.isEmpty)=ai then unsupported "set:maker-not-led" else pure ())=pure ();rw[hl];rfl
theorem CZ:En #[j] 0=0/\En #[j] (j+1)=1:=by
 constructor
 ·simp[En,SetTable.below.go]
 ·simp[En,SetTable.below.go]
theorem Nn(hb:cU w=aj)(hp:t.place=#[j])(he:es=#[x])(hit:SetIt s.heap I (.int 0 0) 0 a 1 ep)(hs:SetTb w s.heap a es ep t)
  (hQ:∀h',SetIt h' I (.int ((j+1:Nat):Int) 0) 1 a 1 ep->C9 I s.heap h'->Q (ae x.2) {s with heap:=h'}):A2 (A6 prog w) A (E2 (.ref I)) Q E s:=by
 have hn:es.size=1:=by rw[he];rfl
 obtain⟨o,ho,hc,hd⟩:=id hit;obtain⟨oa,hoa,_,hda⟩:=hs.obj;unfold E2;refine Aa (Eg (Bz (name:=Dj "__next__") hit.typeIs slot_setit_next (Cb slot_setit_next hit.typeIs mi ?_ (mf _))));refine Aa (Aj ?_);refine Aa (Gx ho hd ?_);dsimp only;refine Aa (Eb hoa hda hs.fits ?_);rw[if_neg (by rw[hn];simp)];refine Aa (xo hb ⋯ hs ?_);have b1:En t.place (0:Int).toNat=0:=by rw[hp];exact CZ.1
 rw[b1,hp,he];show A2 _ _ (setField (.ref I) 0 (Cs ((j+1:Nat):Int))>>=_) _ _ _;refine Aa (Dn ho hd (by simp) ?_);have ho2:=Bt (Obj.mapFields (·.setIfInBounds 0 (Cs ((j+1:Nat):Int)))) ho (Dq (B7 hd _));have hd2:=B7 hd (·.setIfInBounds 0 (Cs ((j+1:Nat):Int)));refine Aa (Dn ho2 hd2 (by simp) (Aj ⟨x.2,rfl,Aj (hQ _ ?_ ((Bm ..).trans (Bm ..)))⟩));exact⟨_,Bt _ ho2 (Dq (B7 hd2 _)),(Fn ..).trans ((Fn ..).trans hc),by
  rw[B7 hd2];simp[Cs]⟩
theorem xN(hh:A.handled=ah)(hb:cU w=aj)(h1:es.size<=1)(hk:es[En t.place k]?=ah)(hit:SetIt s.heap I (.int (k:Int) 0) i a n ep)(hs:SetTb w s.heap a es ep t)(hn:es.size=n)
  (hQ:∀h',Heap.ExtBut I s.heap h'->Q ah {s with heap:=h'}):A2 (A6 prog w) A (E2 (.ref I)) Q E s:=by
 obtain⟨o,ho,hc,hd⟩:=id hit;obtain⟨oa,hoa,_,hda⟩:=hs.obj;unfold E2;refine Aa (Eg (Bz (name:=Dj "__next__") hit.typeIs slot_setit_next (Cb slot_setit_next hit.typeIs mi ?_ (mf _))));refine Aa (Aj ?_);refine Aa (Gx ho hd ?_);dsimp only;refine Aa (Eb hoa hda hs.fits ?_);rw[if_neg (by rw[hn];simp)];refine Aa (xo hb h1 hs ?_);rw[Bq,hk];dsimp only;refine Aa (Dn ho hd (by simp) ?_);refine Aa ?_;simp only[newExc,newTuple];refine Aa (Bx ?_ (by size_fits));refine Aa (m:=E9 _ _) (Fg (a:=Bh) (by first|rfl|(simp only[E9];rfl)) ?_);refine Bx ?_ (by size_fits);simp only[raiseNew];refine Aa (wpAny_handled ?_)
 first|rw[show A.in1.handled=ah from hh]|rw[hh]
 refine Aa (Aj (wpAny_throw ?_));refine Aa (G6 (T:="StopIteration") (b:=ai) ⟨_,Az _ rfl,rfl⟩ isSubtype_stop ?_);exact Aj (hQ _ (((Bm ..).extBut.push _).push _))
end
section
variable{prog:A7}{w:Bk}{A:Bu}{E:Af->Ai->Prop}{s:Ai}{a:Addr}{ep:Nat}{es:Array (Int×Af)}{t:Fb}
def ki(vs:List (Int×Af))(i:Nat)(v:Af):Prop:=∃e,vs[i]?=ae e/\v=e.2
structure SetWk(prog:A7)(w:Bk)(sz:Nat)(h':Heap)(a I:Addr)(vs:List (Int×Af)):Prop where
 above:sz<=I
 walk:∃(fp:List Addr)(St:Nat->Heap->Prop),(∀b∈fp,b=a\/sz<=b)/\(∀b∈fp,b < h'.objs.size)/\(∀A:Bu,A.handled=ah->Walks prog w A I fp [I] vs.length (ki vs) St)/\St 0 h'
theorem TQ{α:Type}{xs:Array α}{d:α}(h:j < xs.size):xs[j]?=ae (xs.getD j d):=by
 simp[h]
theorem O4{ys:List Nat}(hp:ys.Perm (Bi n))(hn:es.size=n):(ys.map λj=>es.getD j (0,Bh)).Perm es.toList:=by
 have h1:=hp.map λj=>es.getD j ((0:Int),Bh);have h2:(Bi n).map (λj=>es.getD j ((0:Int),Bh))=es.toList:=by
  apply Ey (by simp[hn]);intro i h1 h2;simp at h2;simp[h2]
 rw[h2]at h1;exact h1
theorem Mx{ys:List Nat}(hne:a≠I)(hTI:T≠I)(hp:ys.Perm (Bi n))(hn:es.size=n)(A:Bu)(hh:A.handled=ah):
  Walks prog w A I [I,a,T] [I] (ys.map λj=>es.getD j (0,Bh)).length (ki (ys.map λj=>es.getD j (0,Bh)))
   (λi h=>SetIt h I (.ref T) i a n ep/\SetTb w h a es ep t/\h.IsTuple T (ys.map λ(j:Nat)=>Value.int (j:Int) 0).toArray) where
 sub:=λb hb=>by simp at hb;simp[hb]
 frame:=λ_ _ _ st hk=>⟨st.1.move λo e=>hk I (by simp) o e,st.2.1.move λo e=>hk a (by simp) o e,let⟨o,e,r⟩:=st.2.2;⟨o,hk T (by simp) o e,r⟩⟩
 item:=λi s Q E hi st hQ=>by
  rw[Ad]at hi;have hj:ys[i] < es.size:=by rw[hn];exact Ci.mp (hp.mem_iff.mp (Cz hi))
  refine OG (j:=ys[i]) st.1 st.2.1 hn st.2.2 (by simp[hi]) (TQ (d:=(0,Bh)) hj) λh' hit' hs'=>?_;refine hQ _ h' s.toks ⟨_,by rw[Ax,Al hi];rfl,rfl⟩ ⟨hit',st.2.1.move λo e=>(hs'.2 a hne).trans e,let⟨o,e,r⟩:=st.2.2;⟨o,(hs'.2 T hTI).trans e,r⟩⟩ λb o hb e=>hs'.extBut b o (λh=>hb (by simp[h])) e
 done:=λs Q E st hQ=>LR hh st.1 st.2.1 hn st.2.2 (by simp) λh' he'=>hQ h' s.toks λb o hb e=>he' b o (λh=>hb (by simp[h])) e
 self:=λ_ _ _ _ st hQ=>oQ st.1 hQ
theorem Ky(hb:cU w=ai)(hne:a≠I)(hn:es.size=n)(A:Bu)(hh:A.handled=ah):
  Walks prog w A I [I,a] [I] (j6 w a ep es).toList.length (ki (j6 w a ep es).toList) (λi h=>SetIt h I (.int 0 0) i a n ep/\SetTb w h a es ep t) where
 sub:=λb hb=>by simp at hb;simp[hb]
 frame:=λ_ _ _ st hk=>⟨st.1.move λo e=>hk I (by simp) o e,st.2.move λo e=>hk a (by simp) o e⟩
 item:=λi s Q E hi st hQ=>by
  rw[C3]at hi;have hx:(j6 w a ep es)[i]?=ae (j6 w a ep es)[i]:=Cm hi;refine LF hb st.1 st.2 hn hx λh' hit' hs'=>?_;exact hQ _ h' s.toks ⟨_,by rw[Array.getElem?_toList];exact hx,rfl⟩ ⟨hit',st.2.move λo e=>(hs'.2 a hne).trans e⟩ λb o hb e=>hs'.extBut b o (λh=>hb (by simp[h])) e
 done:=λs Q E st hQ=>Rz hh hb st.1 st.2 hn (by simp) λh' he'=>hQ h' s.toks λb o hb e=>he' b o (λh=>hb (by simp[h])) e
 self:=λ_ _ _ _ st hQ=>oQ st.1 hQ
theorem KU(hb:cU w=aj)(hn:es.size=0)(A:Bu)(hh:A.handled=ah):
  Walks prog w A I [I,a] [I] ([]:List (Int×Af)).length (ki []) (λ_ h=>SetIt h I (.int ((0:Nat):Int) 0) 0 a 0 ep/\SetTb w h a es ep t) where
 sub:=λb hb=>by simp at hb;simp[hb]
 frame:=λ_ _ _ st hk=>⟨st.1.move λo e=>hk I (by simp) o e,st.2.move λo e=>hk a (by simp) o e⟩
 item:=λi s Q E hi st hQ=>by simp at hi
 done:=λs Q E st hQ=>xN (k:=0) hh hb ⋯ (by rw[Array.getElem?_eq_none];omega) st.1 st.2 hn λh' he'=>hQ h' s.toks λb o hb e=>he' b o (λh=>hb (by simp[h])) e
 self:=λ_ _ _ _ st hQ=>oQ st.1 hQ
theorem MQ(hb:cU w=aj)(hne:a≠I)(he:es=#[x])(hp:t.place=#[j])(A:Bu)(hh:A.handled=ah):
  Walks prog w A I [I,a] [I] [x].length (ki [x]) (λi h=>((i=0/\SetIt h I (.int 0 0) 0 a 1 ep)\/(i=1/\SetIt h I (.int ((j+1:Nat):Int) 0) 1 a 1 ep))/\SetTb w h a es ep t) where
 sub:=λb hb=>by simp at hb;simp[hb]
 frame:=λ_ _ _ st hk=>⟨st.1.imp (λz=>⟨z.1,z.2.move λo e=>hk I (by simp) o e⟩) (λz=>⟨z.1,z.2.move λo e=>hk I (by simp) o e⟩),st.2.move λo e=>hk a (by simp) o e⟩
 item:=λi s Q E hi st hQ=>by
  have hi0:i=0:=by simpa using hi
  subst hi0;rcases st.1 with⟨_,z⟩|⟨z,_⟩
  ·refine Nn hb hp he z st.2 λh' hit' hs'=>?_;exact hQ _ h' s.toks ⟨x,rfl,rfl⟩ ⟨.inr ⟨rfl,hit'⟩,st.2.move λo e=>(hs'.2 a hne).trans e⟩ λb o hb e=>hs'.extBut b o (λh=>hb (by simp[h])) e
  ·cases z
 done:=λs Q E st hQ=>by
  rcases st.1 with⟨z,_⟩|⟨_,z⟩
  ·cases z
  ·refine xN (k:=j+1) hh hb (by rw[he];exact Ao 1) ?_ z st.2 (by rw[he];rfl) λh' he'=>hQ h' s.toks λb o hb e=>he' b o (λh=>hb (by simp[h])) e;rw[hp,CZ.2,he];rfl
 self:=λi s Q E st hQ=>by
  rcases st.1 with⟨_,z⟩|⟨_,z⟩
  ·exact oQ z hQ
  ·exact oQ z hQ
theorem OQ(hs:SetTb w s.heap a es ep t)(h64:es.size < 64)
  (h:∀(h':Heap)(dr:Drawn)(I:Addr)(vs:List (Int×Af)),vs.Perm es.toList->(∀b o,s.heap.get? b=ae o->h'.get? b=ae o)->SetWk prog w s.heap.objs.size h' a I vs->Q (.ref I) {s with heap:=h',drawn:=dr}):
  A2 (A6 prog w) A (pyIter (.ref a)) Q E s:=by
 obtain⟨oa,hoa,hex,hda⟩:=hs.obj;have hlt:=hs.lt;refine wpAny_pyIter_slot hs.typeIs F.slot_set_iter (Cb F.slot_set_iter hs.typeIs Qt ?_ (F.args_set_iter_1 _));refine Aa (Aj ?_);refine Aa (Aa (Eb hoa hda hs.fits (Aj ?_)));refine Aa ?_;unfold setDrawn;refine Aa (Ft hoa hda hs.fits ?_);dsimp only;refine Aa (pC ?_);refine Aj ?_
 split
 ·rename_i hd;refine Aa (EG es.size (Bi es.size) s (by simp) λys dr hp=>?_);have hly:ys.length=es.size:=by rw[hp.length_eq,Cr]
  refine Aa (wpAny_newTuple ?_ (by rw[Ad,hly,Eh];omega));have hoa1:=Ae ({cls:=.type "tuple",data:=.seq (ys.map λ(i:Nat)=>Cs i).toArray}:Obj) hoa;refine Aa (wpAny_setEpoch_of hoa1 hda hs.fits ?_);refine Aa (Bx (Aj ⟨_,rfl,"set_iterator",_,⟨_,Az _ rfl,rfl⟩,slot_setit_next.lookup,?_⟩));have hT:(s.heap.push ({cls:=.type "tuple",data:=.seq (ys.map λ(i:Nat)=>Cs i).toArray}:Obj)).get? s.heap.objs.size=ae {cls:=.type "tuple",data:=.seq (ys.map λ(i:Nat)=>Cs i).toArray}:=Az _ rfl;refine h _ dr _ (ys.map λj=>es.getD j (0,Bh)) (O4 hp rfl) (λb o e=>Ae _ (Ae _ e)) ⟨by rw[Ca];exact Dm _,[_,a,s.heap.objs.size],_,λb hb=>?_,λb hb=>?_,λA hh=>Mx (t:=t) (ep:=ep) (T:=s.heap.objs.size) (by rw[Ca];exact A5 (Dk hlt)) (by rw[Ca];exact A5 (Fy _)) hp rfl A hh,⟨⟨_,Az _ rfl,rfl,rfl⟩,hs.move λo e=>Ae _ (Ae _ e),⟨_,Ae _ hT,rfl,_,rfl⟩⟩⟩
  ·simp only[Au,A1,or_false]at hb;rcases hb with rfl|rfl|rfl
   ·rw[Ca];exact .inr (Dm _)
   ·exact .inl rfl
   ·exact .inr (Ao _)
  ·simp only[Au,A1,or_false]at hb;rw[Ca,Ca];rcases hb with rfl|rfl|rfl
   ·rw[Ca];exact Fy _
   ·exact Dk (Dk hlt)
   ·exact Dk (Fy _)
 ·rename_i hd;refine Aa (Aj ?_);refine Aa (wpAny_setEpoch_of hoa hda hs.fits ?_);refine Aa (Bx (Aj ⟨_,rfl,"set_iterator",_,⟨_,Az _ rfl,rfl⟩,slot_setit_next.lookup,?_⟩));have hit:SetIt (s.heap.push {cls:=.type "set_iterator",data:=.fields #[Cs 0,Cs 0,.ref a,Cs es.size,Cs ep]}) s.heap.objs.size (.int 0 0) 0 a es.size ep:=⟨_,Az _ rfl,rfl,rfl⟩;have hst:SetTb w (s.heap.push {cls:=.type "set_iterator",data:=.fields #[Cs 0,Cs 0,.ref a,Cs es.size,Cs ep]}) a es ep t:=hs.move λo e=>Ae _ e;have kp:∀b o,s.heap.get? b=ae o->(s.heap.push {cls:=.type "set_iterator",data:=.fields #[Cs 0,Cs 0,.ref a,Cs es.size,Cs ep]}).get? b=ae o:=λb o e=>Ae _ e;have f1:∀b∈[s.heap.objs.size,a],b=a\/s.heap.objs.size<=b:=λb hb=>by
   simp only[Au,A1,or_false]at hb;rcases hb with rfl|rfl
   ·exact .inr (Ao _)
   ·exact .inl rfl
  have f2:∀b∈[s.heap.objs.size,a],b < (s.heap.push {cls:=.type "set_iterator",data:=.fields #[Cs 0,Cs 0,.ref a,Cs es.size,Cs ep]}).objs.size:=λb hb=>by
   simp only[Au,A1,or_false]at hb;rw[Ca];rcases hb with rfl|rfl
   ·exact Fy _
   ·exact Dk hlt
  have hne:a≠s.heap.objs.size:=A5 hlt;cases hb:cU w with
  |true=>exact h _ s.drawn _ (j6 w a ep es).toList (JP _ _) kp ⟨Ao _,[s.heap.objs.size,a],_,f1,f2,λA hh=>Ky (t:=t) hb hne rfl A hh,⟨hit,hst⟩⟩
  |false=>
   have hd0:¬((!cU w&&(!t.plain&&decide (es.size > 1)))=ai):=hd;have hd':(!cU w&&(!t.plain&&decide (es.size > 1)))=aj:=by simpa using hd0
   have h1:es.size<=1:=by
    rw[hb]at hd';by_cases hz:es.size<=1
    ·exact hz
    ·have hg:decide (es.size > 1)=ai:=decide_eq_true ⋯;rw[hg]at hd';have hpl:t.plain=ai:=by simpa using hd'
     have:=hs.plain hpl;omega
   by_cases h0:es.size=0
   ·have e0:es.toList=[]:=G2 (by simpa using h0);refine h _ s.drawn _ [] (by rw[e0]) kp ⟨Ao _,[s.heap.objs.size,a],_,f1,f2,λA hh=>KU (t:=t) (ep:=ep) hb h0 A hh,⟨?_,hst⟩⟩;rw[h0]at hit ⊢;exact hit
   ·have h1':es.size=1:=by omega
    obtain⟨x,hx⟩:∃x,es=#[x]:=by
     have:es.toList.length=1:=by simpa using h1'
     obtain⟨x,hx⟩:=List.length_eq_one_iff.mp this;exact⟨x,Array.toList_inj.mp hx⟩
    have hps:t.place.size=1:=by
     have:=hs.fits;simp only[SetTable.fits,Du,beq_iff_eq]at this;rw[this.1,h1']
    obtain⟨j,hj⟩:∃j,t.place=#[j]:=by
     have:t.place.toList.length=1:=by simpa using hps
     obtain⟨x,hx⟩:=List.length_eq_one_iff.mp this;exact⟨x,Array.toList_inj.mp hx⟩
    refine h _ s.drawn _ [x] (by rw[hx]) kp ⟨Ao _,[s.heap.objs.size,a],_,f1,f2,λA hh=>MQ (t:=t) (ep:=ep) hb hne hx hj A hh,⟨.inl ⟨rfl,?_⟩,hst⟩⟩;rw[h1']at hit ⊢;exact hit
end
theorem Oz:entryFor table "proto.collect"=ae D7.«proto.collect»:=G8 (by kernel_rfl)
theorem IP:entryFor table "list.__iadd__"=ae D7.«list.__iadd__»:=G8 (by kernel_rfl)
section
variable{prog:A7}{w:Bk}{A:Bu}{E:Af->Ai->Prop}{s:Ai}{a:Addr}{ep:Nat}{es:Array (Int×Af)}{t:Fb}
theorem RR(hT:s.TypeIs (.ref a) "set")(h:Q aj s):A2 (A6 prog w) A (Builtin.List.listLengthHint (.ref a)) Q E s:=by
 unfold Builtin.List.listLengthHint;refine Aa (wpAny_specialOf hT F.slot_set_len.lookup ?_);generalize hid:("set.__len__":String)=id0
 wp_delta
 rw[show splitId id0=ae ("set","__len__")from by subst hid;decide +kernel];subst hid;refine Aa (G6 (T:="set") (b:=ai) hT (by rw[F2];kernel_rfl) ?_);refine wpAny_ite_split (λhab=>absurd hab ∎) (λ_=>?_);refine wpAny_ite_split (λ_=>?_) (λhab=>absurd ∅ hab);refine Aa (Fi hT ?_);exact Aj h
theorem Js(hh:A.handled=ah)(hs:SetTb w s.heap a es ep t)(h64:es.size < 64)(S)(hSa:S≠a)(res)(hS:s.heap.get? S=ae {cls:=.type "list",data:=.seq #[]})
  (hR:∀h' tk dr (vs:List (Int×Af)) acc c,vs.Perm es.toList->(∀b o,b≠S->s.heap.get? b=ae o->h'.get? b=ae o)->h'.get? S=ae {cls:=.type "list",dict:=ah,data:=.seq acc c,slots:=#[]}->ItemsOf (ki vs) acc vs.length->R (.ok (.ret res)) {s with heap:=h',toks:=tk,drawn:=dr}):
  A2 (A6 prog w) A.in1 (Gt (.ref S) (.ref a) res)
   (λfin s'=>match fin with|.done f=>R (.ok f) s'|.again c'=>c'.quiet=ai/\F7 (A6 prog w) A c' R s') (λe s'=>R (.error e) s') s:=by
 unfold Gt;refine Aa (Fi (T:="set") hs.typeIs ?_);have h1:Builtin.List.listSameRef (.ref S) (.ref a)=aj:=by simp[Builtin.List.listSameRef,hSa]
 have h2:(Ec "set"==Ec "list")=aj:=by decide
 have h3:(Ec "set"==Ec "tuple")=aj:=by decide
 simp only[h1,h2,h3,Bool.or_false,Cu,if_false];refine Aa (OQ (A:=A.in1) hs h64 λh' dr I vs hp hk hw=>?_);obtain⟨hI,fp,St,hf1,hf2,W,st⟩:=hw;have hSlt:S < s.heap.objs.size:=Aq hS;have hSf:S∉fp:=λhm=>(hf1 S hm).elim hSa λz=>Fh _ (Bd hSlt z);have hS1:=hk S _ hS;have hlen:vs.length=es.size:=by rw[hp.length_eq,C3]
 have key:∀(h:Heap)(c₁ tk:Nat),St 0 h->(∀b o,b≠S->s.heap.get? b=ae o->h.get? b=ae o)->
   h.get? S=ae {cls:=.type "list",data:=.seq #[] c₁}->F7 (A6 prog w) A (.builtin "list.extend.loop" ⟨[.ref S,.ref I,res],[]⟩) R {s with heap:=h,toks:=tk,drawn:=dr}:=by
  intro h c₁ tk hst hk2 hS₁;refine codeAny_extend_loopS (W A.in1 hh).toS (by rw[hlen,Eh];omega) S hSf res vs.length 0 _ #[] c₁ rfl (Br _) hst hS₁ (ItemsOf.nil _) λs' acc' c' hm hS' hacc=>?_;rw[Moved.eq_with hm];refine hR s'.heap s'.toks dr vs acc' c' hp (λb o hb e=>hm.heap b o (λhmem=>?_) (hk2 b o hb e)) hS' hacc;rcases Au.mp hmem with e'|hmem
  ·exact hb e'
  ·have hbI:=Bg.mp hmem;exact absurd (Aq e) (by rw[hbI];exact Nat.not_lt.mpr hI)
 refine Aa (Ce (RR (s:={ s with heap:=h',drawn:=dr}) (hs.move λo e=>hk a o e).typeIs ?_));refine wpAny_ite_split (λ_=>?_) (λ_=>Aj ⟨E3 PySem.F.plain_extend_loop _,key _ 0 _ st (λb o _ e=>hk b o e) hS1⟩);refine Aa (G5 ?_);refine Aa ?_;show A2 _ _ (updateSeq S (·.push .none)>>=λ_=>updateSeq S (·.pop)) _ _ _;refine Aa (wpAny_updateSeq hS1 rfl ?_);have hS₂:=Bt (Cw (·.push Bh)) hS1 rfl;refine wpAny_updateSeq (hz:=by seq_fits) hS₂ rfl ?_;have hS₃:=Bt (Cw (·.pop)) hS₂ rfl;refine Aj ⟨E3 PySem.F.plain_extend_loop _,key _ _ _ ?_ (λb o hb e=>?_) hS₃⟩
 ·refine(W A hh).frame 0 _ _ st λb hb o e=>?_;have hbS:b≠S:=λh=>hSf (h▸hb);exact(Dh _ _ (Ne.symm hbS)).trans ((Dh _ _ (Ne.symm hbS)).trans e)
 ·exact(Dh _ _ (Ne.symm hb)).trans ((Dh _ _ (Ne.symm hb)).trans (hk b o e))
theorem DJ(h:ItemsOf (ki vs) acc vs.length):acc.toList=vs.map (·.2):=by
 apply List.ext_getElem?;intro i;by_cases hi:i < vs.length
 ·have hi2:i < acc.size:=by rw[h.1];exact hi
  obtain⟨e,e1,e2⟩:=h.2 i acc[i] (Cm hi2);rw[Ax,e1,Array.getElem?_toList,Cm hi2,e2];rfl
 ·rw[Gv (by rw[C3,h.1];omega),Gv (by rw[Ad];omega)]
theorem JB(hh:A.handled=ah)(hs:SetTb w s.heap a es ep t)(h64:es.size < 64)
  (h:∀(h':Heap)(tk:Nat)(dr:Drawn)(vs:List (Int×Af)),vs.Perm es.toList->(∀b o,s.heap.get? b=ae o->h'.get? b=ae o)->R (vs.map (·.2)) {s with heap:=h',toks:=tk,drawn:=dr}):
  A2 (A6 prog w) A (collect (.ref a)) R E s:=by
 unfold collect;refine Aa (wpAny_runValue (Dd Oz ?_));rw[Ck PySem.F.plain_proto_collect _];show A2 _ A.in1 (newList []>>=λl=>again (.builtin "list.__iadd__" ⟨[l,.ref a],[]⟩)) _ _ s;refine Aa (Bx ?_);refine Aj ⟨E3 PySem.F.plain_list_iadd _,Dd IP ?_⟩;rw[Ck PySem.F.plain_list_iadd _];have hS₁:(s.heap.push {cls:=.type "list",data:=.seq ([]:List Af).toArray}).get? s.heap.objs.size=ae {cls:=.type "list",data:=.seq #[]}:=Az _ rfl;show A2 _ A.in1 (Gt (.ref s.heap.objs.size) (.ref a) (.ref s.heap.objs.size)) _ _ _;have key:=Js (prog:=prog) (A:=A) (s:={ s with heap:=s.heap.push {cls:=.type "list",data:=.seq ([]:List Af).toArray}})
  (R:=λ(q:Result)(s':Ai)=>∃(h':Heap)(tk:Nat)(dr:Drawn)(vs:List (Int×Af))(acc':Array Af)(c':Nat),q=.ok (.ret (.ref s.heap.objs.size))/\s'={ s with heap:=h',toks:=tk,drawn:=dr}/\vs.Perm es.toList /\
   (∀b o,s.heap.get? b=ae o->h'.get? b=ae o)/\h'.get? s.heap.objs.size=ae {cls:=.type "list",dict:=ah,data:=.seq acc' c',slots:=#[]}/\ItemsOf (ki vs) acc' vs.length)
  hh (hs.move λo e=>Ae _ e) h64 s.heap.objs.size (D9 hs.lt) (.ref s.heap.objs.size) hS₁
  (λh' tk dr vs acc' c' hp hk hS' hacc=>⟨h',tk,dr,vs,acc',c',rfl,rfl,hp,λb o e=>hk b o (A5 (Aq e)) (Ae _ e),hS',hacc⟩)
 refine B4 key (λfin s' x=>?_) λe s' x=>?_
 ·cases fin with
  |done f=>
   obtain⟨h',tk,dr,vs,acc',c',e,rfl,hp,hk,hS',hacc⟩:=x;cases e;show A2 _ A (load s.heap.objs.size>>=_) _ _ _;refine Aa (wpAny_load hS' ?_);refine Aj ?_;rw[DJ hacc];exact h h' tk dr vs hp hk
  |again c₁=>
   refine⟨x.1,F6 x.2 λq s₂ y=>?_⟩;obtain⟨h',tk,dr,vs,acc',c',rfl,rfl,hp,hk,hS',hacc⟩:=y;show A2 _ A (load s.heap.objs.size>>=_) _ _ _;refine Aa (wpAny_load hS' ?_);refine Aj ?_;rw[DJ hacc];exact h h' tk dr vs hp hk
 ·obtain⟨_,_,_,_,_,_,z,_⟩:=x;cases z
end
def dQ(w:Bk):Obj:={ cls:=.type "set",dict:=ah,data:=.set #[] 0 (.fresh 0 0 (!cU w))}
section
variable{prog:A7}{w:Bk}{A:Bu}{E:Af->Ai->Prop}{s:Ai}
theorem Lc(e:h.get? a=ae (dQ w)):iH w h a []:=
 ⟨#[],0,.fresh 0 0 (!cU w),⟨⟨_,e,⟨rfl,rfl,rfl⟩,rfl⟩,rfl,rfl,λ_=>rfl⟩,λe he=>by simp at he,List.Pairwise.nil,λk=>by simp[cn],Ao _⟩
theorem IM(a)(h:Q₁ (.ref s.heap.objs.size) {s with heap:=s.heap.push (dQ w)}):
  F7 (A6 prog w) A (.call (.builtin "set.__new__") ⟨[.type "set",a],[]⟩) (wants Q₁ E) s:=by
 refine codeAny_of_tree ?_;show A2 _ A.in1 (do checkBuiltinCall "set.__new__" ⟨[.type "set",a],[]⟩;again (.builtin "set.__new__" ⟨[.type "set",a],[]⟩)) _ _ s;refine Aa (Fg (F.newCall_set_1 a) (Aj ⟨E3 F.plain_set_new _,Dd F.entry_set_new ?_⟩));rw[Ck F.plain_set_new _];unfold D7.«set.__new__» Builtin.Frozenset.newClass;have hsub:=sub_set_self;obtain⟨hp,g,d,tk,os⟩:=s;dsimp only
 wp_walk
 refine wpAny_askSetting (Aj ?_);dsimp only;simp only[newObj];exact Aa (wpAny_alloc (Aj (Aj h)))
structure TxSrc(prog:A7)(w:Bk)(T:String)(x:Addr)(ks:List Str)(OK:Heap->Prop):Prop where
 type:∀s:Ai,OK s.heap->s.TypeIs (.ref x) T
 there:∀h:Heap,OK h->x < h.objs.size
 keep:∀h h':Heap,OK h->(∀o,h.get? x=ae o->h'.get? x=ae o)->OK h'
 notSet:isSubtype (.type T) (.type "set")=pure aj
 notFrozen:isSubtype (.type T) (.type "frozenset")=pure aj
 notDict:(Ec T==Ec "dict")=aj
 iter:∀s:Ai,OK s.heap->∃(oI:Obj)(St:Nat->Heap->Prop),
  (∀(A:Bu)(E:Af->Ai->Prop)(Q:Af->Ai->Prop),Q (.ref s.heap.objs.size) {s with heap:=s.heap.push oI}->A2 (A6 prog w) A (pyIter (.ref x)) Q E s) /\
  (∀A:Bu,A.handled=ah->Walks prog w A s.heap.objs.size [s.heap.objs.size,x] [s.heap.objs.size] ks.length (iN ks) St)/\St 0 (s.heap.push oI)
set_option maxHeartbeats 3200000 in
theorem HW(K:TxSrc prog w T x ks OK)(hh:A.handled=ah)(hok:OK s.heap)(h64:ks.length < 64)
  (h:∀(h':Heap)(tk:Nat),iH w h' s.heap.objs.size ks->(∀b o,b < s.heap.objs.size->s.heap.get? b=ae o->h'.get? b=ae o)->Q (.ref s.heap.objs.size) {s with heap:=h',toks:=tk}):
  A2 (A6 prog w) A (call (.type "set") [.ref x]) Q E s:=by
 obtain⟨c,tl,hmro⟩:=F.called_set.mro;have hmade:=F.called_set.made;have hsub:=F.called_set.sub;refine G7 (codeAny_of_tree ?_);show A2 _ _ (callAny (.type "set") _) _ _ _;refine Aj ⟨Code.quiet_builtin _ ∅,Dd F.entry_type_call ?_⟩;rw[Around.under_plain (weight_type_call_type "set" [.ref x] []) rfl];have h1:=F.called_set.notType;have h2:=F.called_set.canCreate;have hct:=F.typeCall_set_1 (.ref x)
 repeat (any_goals (first|assumption|wp_step))
 refine F6 (IM (.ref x) (E:=E) (Q₁:=λobj s₁=>obj=.ref s.heap.objs.size/\s₁={ s with heap:=s.heap.push (dQ w)}) ⟨rfl,rfl⟩) λr s₁ hr=>?_;cases r with
 |error e=>exact hr
 |ok fl=>
  cases fl with
  |ret obj=>
   obtain⟨rfl,rfl⟩:=hr;have hS:(s.heap.push (dQ w)).get? s.heap.objs.size=ae (dQ w):=Az _ rfl;have hT:Shared.TypeIs {s with heap:=s.heap.push (dQ w)} (.ref s.heap.objs.size) "set":=⟨_,hS,rfl⟩;have hli:=F.called_set.init.lookup;have hbi:=F.called_set.init.bind (.ref s.heap.objs.size)
   repeat (any_goals (first|assumption|wp_step))
   refine F6 (Hb (R:=wants (λr s₂=>r=.none/\∃h' tk,s₂={ s with heap:=h',toks:=tk}/\iH w h' s.heap.objs.size ks /\
     (∀b o,b < s.heap.objs.size->s.heap.get? b=ae o->h'.get? b=ae o)) E) F.called_set.init.plain F.entry_set_init (check_set_init_1 hT ?_)) λr₂ s₂ hr₂=>?_
   ·have hok1:OK (s.heap.push (dQ w)):=K.keep _ _ hok λo e=>Ae _ e;have hTx:Shared.TypeIs {s with heap:=s.heap.push (dQ w)} (.ref x) T:=K.type {s with heap:=s.heap.push (dQ w)} hok1;have hsls:=K.notSet;have hslf:=K.notFrozen;have hne:=K.notDict;unfold D7.«set.__init__» noKeywords Builtin.Frozenset.updateFrom;generalize hPI:pyIter=PI
    wp_walk
    subst hPI;have hh3:A.in1.in1.in1.handled=ah:=by simp[hh]
    obtain⟨oI,St,hit,W,st⟩:=K.iter {s with heap:=s.heap.push (dQ w)} hok1;refine hit _ _ _ ?_;refine Aa (wpAny_runValue ?_);have hxS:x < s.heap.objs.size:=K.there _ hok;have hSf:s.heap.objs.size∉[(s.heap.push (dQ w)).objs.size,x]:=by
     rw[Ca];simp only[Au,Bg,A1,or_false,not_or];exact⟨A5 (Fy _),D9 hxS⟩
    refine Om (W _ hh3).toS s.heap.objs.size hSf rfl h64 (ks.length-0) 0 _ ⋯ (Br _) st (Lc (Ae _ hS)) ?_;intro s' hm hS';obtain⟨h',g',d',tk',os'⟩:=s';have eg:g'=s.gens:=hm.gens;have ed:d'=s.drawn:=hm.drawn;have eo:os'=s.os:=hm.os;subst eg;subst ed;subst eo;show A2 _ _ _ _ _ _;refine Aj ?_;show A2 _ _ (ret Bh) _ _ _;refine Aj ⟨rfl,h',tk',rfl,hS',λb o hb e=>?_⟩;have hb1:b≠s.heap.objs.size:=A5 hb;have hb2:b≠(s.heap.push (dQ w)).objs.size:=by
     rw[Ca];exact A5 (Dk hb)
    exact hm.heap b o (by simp only[Au,Bg,A1,or_false,not_or];exact⟨hb1,hb2⟩) (Ae _ (Ae _ e))
   ·cases r₂ with
    |error e=>exact hr₂
    |ok fl₂=>
     cases fl₂ with
     |ret r=>
      obtain⟨rfl,h',tk,rfl,hS',hk'⟩:=hr₂
      repeat (any_goals (first|assumption|wp_step))
      exact h _ _ hS' hk'
     |_=>exact hr₂.elim
  |_=>exact hr.elim
theorem TK(hk:∀i v,items[i]?=ae v->iN ks i v)(hl:items.size=ks.length):TxSrc prog w "list" x ks (λh=>h.IsList x items) where
 type:=λs h=>h.typeIs
 there:=λh hl=>let⟨_,e,_⟩:=hl;Aq e
 keep:=λh h' hl k=>let⟨o,e,r⟩:=hl;⟨o,k o e,r⟩
 notSet:=by rw[F2];kernel_rfl
 notFrozen:=by rw[F2];kernel_rfl
 notDict:=by decide
 iter:=λs hok=>⟨_,(λi h=>h.IsListIter s.heap.objs.size x i/\h.IsList x items),(λA E Q hq=>wpAny_pyIter_list hok hq),(λA hh=>by
  have W:=Walks.list (prog:=prog) (w:=w) hh s.heap.objs.size x (A5 (let⟨_,e,_⟩:=hok;Aq e)) items;refine⟨W.sub,W.frame,λi s Q E hi st hQ=>W.item i s Q E (by rw[hl];exact hi) st λv h' tk hv a b=>hQ v h' tk (hk i v hv) a b,?_,W.self⟩;rw[<-hl];exact W.done),⟨⟨_,Az _ rfl,rfl,rfl⟩,hok.push _⟩⟩
theorem RQ(hk:∀i v,items[i]?=ae v->iN ks i v)(hl:items.size=ks.length):TxSrc prog w "tuple" x ks (λh=>h.IsTuple x items) where
 type:=λs h=>h.typeIs
 there:=λh hl=>let⟨_,e,_⟩:=hl;Aq e
 keep:=λh h' hl k=>let⟨o,e,r⟩:=hl;⟨o,k o e,r⟩
 notSet:=by rw[F2];kernel_rfl
 notFrozen:=by rw[F2];kernel_rfl
 notDict:=by decide
 iter:=λs hok=>⟨_,(λi h=>h.IsTupleIter s.heap.objs.size x i/\h.IsTuple x items),(λA E Q hq=>Dx hok hq),(λA hh=>by
  have W:=Walks.tuple (prog:=prog) (w:=w) hh s.heap.objs.size x (A5 (let⟨_,e,_⟩:=hok;Aq e)) items;refine⟨W.sub,W.frame,λi s Q E hi st hQ=>W.item i s Q E (by rw[hl];exact hi) st λv h' tk hv a b=>hQ v h' tk (hk i v hv) a b,?_,W.self⟩;rw[<-hl];exact W.done),⟨⟨_,Az _ rfl,rfl,rfl⟩,hok.push _⟩⟩
end
def iE(w:Bk)(v:Addr)(ks:List Str):HO:=.ext λh=>iH w h v ks
def uy(w:Bk):List V->Hp->VK->Prop:=λxs H Q=>∃(a:Addr)(ks:List Str),xs=[.ref a]/\(H a=ae (.lst (ks.map V.str))\/H a=ae (.tup (ks.map V.str)))/\ks.length < 64/\∀v,H v=ah->Q (.ref v) (upd H v (iE w v ks))
theorem CS(h:Vals (ks.map V.str) vs)(i)(v)(e:vs.toArray[i]?=ae v):iN ks i v:=by
 have e':vs[i]?=ae v:=by simpa using e
 have hl:=h.length;rw[Ad]at hl;have hi:i < ks.length:=by rw[hl];exact(Av.mp e').1
 obtain⟨u,hu,ru⟩:=h.get (show(ks.map V.str)[i]?=ae (V.str ks[i]) by rw[Ax,Al hi];rfl);rw[e']at hu;cases hu;obtain⟨t,ht⟩:=ru;exact⟨ks[i],t,Al hi,ht⟩
theorem HR{ks:List Str}(h:Vals (ks.map V.str) vs):vs.toArray.size=ks.length:=by
 have hl:=h.length;rw[Ad]at hl;rw[A4,<-hl]
theorem KR(hh:X.A.handled=ah):CallR X (.type "set") (uy X.w):=by
 intro pins s σ H xs us Q I r h;obtain⟨a,ks,rfl,ha,h64,q⟩:=h;obtain⟨u,rfl,ru⟩:=gS r;cases(show u=A3 a from ru);have fin:∀(h':Heap)(tk:Nat),iH X.w h' s.heap.objs.size ks->(∀b o,b < s.heap.objs.size->s.heap.get? b=ae o->h'.get? b=ae o)->EP X pins σ Q (.ref s.heap.objs.size) {s with heap:=h',toks:=tk}:=λh' tk hS hk=>by
  have hob:∃o,h'.get? s.heap.objs.size=ae o:=by
   obtain⟨es,ep,t,T,_⟩:=hS;obtain⟨o,e,_⟩:=T.obj;exact⟨o,e⟩
  refine⟨.ref s.heap.objs.size,_,I.laid (t':=tk) (o:=iE X.w s.heap.objs.size ks) (λb o e=>hk b o (Aq e) e) (Ao _) ⟨hS,hob,λh1 h2 q k=>?_⟩,rfl,q _ (I.hok.fresh (Ao _))⟩;obtain⟨es,ep,t,T,r⟩:=q;exact⟨es,ep,t,T.move λo e=>k _ e,r⟩
 rcases ha with ha|ha
 ·obtain⟨hl,vs,c,hv,hL⟩:=I.hok a _ ha;exact HW (TK (CS hv) (HR hv)) hh ⟨_,hL,rfl,_,rfl⟩ h64 fin
 ·obtain⟨hl,vs,hv,o,ho,hc,⟨n,hd⟩,_⟩:=I.hok a _ ha;exact HW (RQ (CS hv) (HR hv)) hh ⟨o,ho,hc,n,hd⟩ h64 fin
theorem Inv.drew{σ:St}(I:Inv X pins σ H s)(dr):Inv X pins σ H {s with drawn:=dr}:=⟨I.ok,I.os,I.bare,I.base,I.loc,I.cell,I.free,I.freeC,I.pin,I.hok,I.len⟩
theorem T4{σ:St}{h':Heap}(I:Inv X pins σ H s)(hkp:∀b o,s.heap.get? b=ae o->h'.get? b=ae o)(hT:jH vs ks)(h64:ks.length < 64)
  (q:∀(D:Addr)(ys:List Str),ys.Perm ks->ys.Pairwise (λa b=>¬b.cps.toList < a.cps.toList)->H D=ah->Q (.ref D) (upd H D (.lst (ys.map V.str)))):
  vs.length<=Ay/\A2 (A6 X.prog X.w) X.A.in1.in1 (D7.«list.sort» ⟨[.ref h'.objs.size],[]⟩) (λf s2=>f=.done (.ret .none)/\EP X pins σ Q (.ref h'.objs.size) s2) X.xe {s with heap:=h'.push (Cn "list" vs.toArray 0),toks:=tk}:=by
 have hl:=hT.1;refine⟨by rw[hl];exact fh ⋯,?_⟩;have hoL:(h'.push (Cn "list" vs.toArray 0)).get? h'.objs.size=ae (Cn "list" vs.toArray 0):=Az _ rfl;have hs':∀b o,s.heap.get? b=ae o->b≠h'.objs.size:=λb o e=>A5 (Aq (hkp b o e));have fin:∀(idx:List Nat)(h3:Heap)(c:Nat),idx.Perm (Bi ks.length)->(idx.map λi=>ks.getD i ⟨#[]⟩).Pairwise (λa b=>¬b.cps.toList < a.cps.toList)->
   (∀b o,b≠h'.objs.size->(h'.push (Cn "list" vs.toArray 0)).get? b=ae o->h3.get? b=ae o)->h3.get? h'.objs.size=ae (Cn "list" (C8 (idx.map λi=>vs.getD i Bh)) c)->EP X pins σ Q (.ref h'.objs.size) {s with heap:=h3,toks:=tk}:=λidx h3 c hp hw k3 hL=>by
  have I1:Inv X pins σ H {s with heap:=h',toks:=tk}:=I.kept hkp;have hn:H h'.objs.size=ah:=I1.hok.fresh (Ao _);refine⟨.ref h'.objs.size,_,I1.laid (t':=tk) (h':=h3) (o:=.lst ((idx.map λi=>ks.getD i ⟨#[]⟩).map V.str)) (λb o e=>k3 b o (A5 (Aq e)) (Ae _ e)) (Ao _) ⟨?_,_,c,Hy hT idx (λi hi=>Ci.mp (hp.mem_iff.mp hi)),hL⟩,rfl,q _ _ (NY hp) hw hn⟩;rw[Ad,Ad,hp.length_eq,Cr];exact fh ⋯
 by_cases h2:2<=vs.length
 ·refine KS.ls_sort (s:={ s with heap:=h'.push (Cn "list" vs.toArray 0),toks:=tk}) hoL h2 ⋯ λe1 h4 ha4 k4=>?_;refine kas_kind (s:={ s with heap:=h4,toks:=tk}) (T:=Ec "str") h2 (λf hf=>?_) rfl rfl ?_
  ·obtain⟨j,hj⟩:=B6.mp hf;obtain⟨k,t,_,rfl⟩:=hT.2 j f hj;exact .now
  ·have hn:0 < vs.length:=by omega
   have hwi:=KS.wi_sort hn;refine KS.wp_run (n:=vs.length) (P:=KS.Pm vs.length) (c:=KS.ltK ks) (St:=λs'=>s'={ s with heap:=h4,toks:=tk}) (λi j C s' hi hj hs hC=>?_) _ _ hwi rfl λs' hs'=>?_
   ·subst hs;obtain⟨k1,t1,a1,a2⟩:=hT.2 i vs[i] (Al hi);obtain⟨k2,t2,b1,b2⟩:=hT.2 j vs[j] (Al hj);unfold kas_ask;have g1:vs.getD i Bh=.str k1 t1:=by simp[hi,a2]
    have g2:vs.getD j Bh=.str k2 t2:=by simp[hj,b2]
    rw[g1,g2];have c1:ks.getD i ⟨#[]⟩=k1:=by simp[a1]
    have c2:ks.getD j ⟨#[]⟩=k2:=by simp[b1]
    have:=hC _ rfl;unfold KS.ltK at this;rw[c1,c2]at this;exact kas_lt_str this
   ·subst hs';refine⟨ha4,λh3 c sb hL3=>⟨rfl,?_⟩⟩;have hpm:KS.Pm vs.length (KS.run (KS.ltK ks) (kas_sort vs.length)):=KS.Wi.out _ hwi;have hsp:=KS.sort_ok (KS.ordK ks) (n:=vs.length) hn;have hsz:=hpm.size;have hidx:(KS.run (KS.ltK ks) (kas_sort vs.length)).toList.Perm (Bi vs.length):=by
     have:=Array.perm_iff_toList_perm.mp hpm;simpa using this
    refine fin _ h3 c (by rw[<-hl];exact hidx) (zx hsz hsp) (λb o hb e=>(sb.2 b hb).trans (k4 b o hb e)) hL3
 ·refine KS.ls_short (s:={ s with heap:=h'.push (Cn "list" vs.toArray 0),toks:=tk}) hoL ⋯ λh4 c ha4 k4=>⟨rfl,?_⟩;have el:vs=(Bi ks.length).map λi=>vs.getD i Bh:=by
   apply Ey (by simp[hl]);intro i h1 h2;simp[h1]
  have ha5:h4.get? h'.objs.size=ae (Cn "list" (C8 ((Bi ks.length).map λi=>vs.getD i Bh)) c):=by rw[<-el];exact ha4
  refine fin (Bi ks.length) h4 c (List.Perm.refl _) ?_ k4 ha5;have:(Bi ks.length).length<=1:=by simp;omega
  match hr:Bi ks.length,this with
  |[],_=>exact .nil
  |[i],_=>exact Hk _ _
def sf(w:Bk):List V->Hp->VK->Prop:=λxs H Q=>∃(v:Addr)(ks:List Str),xs=[.ref v]/\H v=ae (iE w v ks)/\ks.length < 64 /\
 ∀(D:Addr)(ys:List Str),ys.Nodup->(∀k,k∈ys↔k∈ks)->ys.Pairwise (λa b=>¬b.cps.toList < a.cps.toList)->H D=ah->Q (.ref D) (upd H D (.lst (ys.map V.str)))
theorem RE{es vs:List (Int×Af)}(h:∀e∈es,∃k t,e.2=.str k t/\e.1=hashStr w k)(p:vs.Perm es):jH (vs.map (·.2)) (vs.map λe=>fQ e.2):=by
 refine⟨by rw[Ad,Ad],λj v hj=>?_⟩;rw[Ax]at hj;cases e:vs[j]? with
 |none=>rw[e]at hj;cases hj
 |some x=>
  rw[e]at hj;obtain⟨k,t,e1,_⟩:=h x (p.mem_iff.mp (A8 e));have hv:x.2=v:=Bc hj;refine⟨k,t,?_,hv▸e1⟩;rw[Ax,e];show ae (fQ x.2)=ae k;rw[e1];rfl
theorem RJ(hh:X.A.handled=ah):CallR X (.builtin "sorted") (sf X.w):=by
 intro pins s σ H xs us Q I r h;obtain⟨v,ks,rfl,hv,h64,q⟩:=h;obtain⟨u,rfl,ru⟩:=gS r;cases(show u=A3 v from ru);obtain⟨es,ep,t,T,hx,nd,hm,hl⟩:=(I.hok v _ hv).1;have h64':es.size < 64:=Nat.lt_of_le_of_lt hl h64;refine KS.sorted_of (R:=λvs s1=>∃(h':Heap)(tk:Nat)(dr:Drawn)(ys:List Str),s1={ s with heap:=h',toks:=tk,drawn:=dr}/\(∀b o,s.heap.get? b=ae o->h'.get? b=ae o)/\jH vs ys/\ys.Nodup/\(∀k,k∈ys↔k∈ks)/\ys.length < 64)
  (JB hh T h64' λh' tk dr vs hp hk=>?_) ?_
 ·have pk:(vs.map λe=>fQ e.2).Perm (cn es):=List.Perm.map (λe:Int×Af=>fQ e.2) hp;exact⟨h',tk,dr,vs.map λe=>fQ e.2,rfl,hk,RE hx hp,pk.nodup_iff.mpr nd,λk=>pk.mem_iff.trans (hm k),by rw[Ad,hp.length_eq,C3];exact h64'⟩
 rintro vs s1 ⟨h',tk,dr,ys,rfl,hkp,hT,nd',hm',h64'⟩
 exact T4 (s:={ s with drawn:=dr}) (I.drew dr) hkp hT h64' λD zs hp hw hD=>q D zs (hp.nodup_iff.mpr nd') (λk=>hp.mem_iff.trans (hm' k)) hw hD
end L2
namespace DL
open PySem L2 Nb
section
variable{X:Cx}{o:Expr}{td:TE}{wd':DT}{pos p p2 ip:Pos}{W:Bk}
def iV(ys:List Str):Prop:=ys.Pairwise λa b=>¬b.cps.toList < a.cps.toList
def sT(w:DT):fk:=λδ n Q=>w δ n λx n1=>∃ks:List Str,(x=.d (.list (ks.map .str))\/x=.d (.tuple (ks.map .str)))/\ks.length < 64/\(∀k∈ks,k.length<=1000) /\
 ∀ys:List Str,ys.Nodup->(∀k,k∈ys↔k∈ks)->iV ys->Q (ys.map .str) n1
theorem GW{α:Type}:∀{xs ys:List α},xs.Nodup->(∀x∈xs,x∈ys)->xs.length<=ys.length
 |[],_,_,_=>Br _
 |x::xs,ys,nd,h=>by
  obtain⟨h1,h2⟩:=Dl.mp nd;obtain⟨l,r,e⟩:=List.append_of_mem (h x A0);have:=GW (ys:=l++r) h2 λz hz=>by
   have hm:=h z (Aw _ hz);rw[e]at hm;rcases Ba.mp hm with q|q
   ·exact Dw _ q
   ·rcases Au.mp q with q|q
    ·exact absurd (q▸hz) h1
    ·exact Bf _ q
  rw[e];simp only[Ar,Ak]at this ⊢;omega
theorem vP:∀{xs:List V}{ks:List Str},RdXs H B xs (ks.map .str)->xs=ks.map V.str
 |[],[],_=>rfl
 |_::_,[],h=>nomatch h
 |[],_::_,h=>nomatch h
 |x::xs,k::ks,.cons h t=>by
  cases h;rw[vP t];rfl
theorem Sh(hh:X.A.handled=ah)(hg:Gl X "sorted")(hm:X.mg "sorted"=ah)(hg2:Gl X "set")(hm2:X.mg "set"=ah)(ho:DE X o td wd')(hW:X.w=W:=by rfl)(hv:By "sorted"=ae (.builtin "sorted"):=by decide +kernel)(hv2:By "set"=ae (.type "set"):=by decide +kernel)
  (he2:As [o] X.env=(aj,eval o X.env)::As [] X.env:=by rfl) (hpl2:(Ct ip (As [] X.env)).any (·.1)=aj:=by rfl)
  (he':As [Expr.Call (.Name "set" p2) [o] [] ip] X.env=(aj,eval (Expr.Call (.Name "set" p2) [o] [] ip) X.env)::As [] X.env:=by rfl) (hpl:(Ct pos (As [] X.env)).any (·.1)=aj:=by rfl):
  DF X (.Call (.Name "sorted" p) [.Call (.Name "set" p2) [o] [] ip] [] pos) (fC (sf W) (dA (fC (uy W) (dA td bS)) bS)) (sT wd'):=by
 subst hW;refine⟨jg (RJ hh) hg hm hv (b9 (mK (KR hh) hg2 hm2 hv2 (b9 ho.pe dH he2) ∎ ∎ he2 hpl2) dH he') ∎ ∎ he' hpl,λC H B σ δ n Q Q' R q k=>
  ho.sd C H B σ δ n _ _ R q λv x H1 n1 R1 k1 r1 q1=>?_⟩
 obtain⟨ks,hx,h64,hk,kq⟩:=q1;have key:∀a:Addr,v=.ref a->(H1 a=ae (.lst (ks.map V.str))\/H1 a=ae (.tup (ks.map V.str)))->fC (sf X.w) (dA (λσ H Q=>uy X.w [v] H Q) bS) σ H1 Q':=λa ea ha=>by
  subst ea;refine⟨a,ks,rfl,ha,h64,λu hu=>⟨u,ks,rfl,bu,h64,λD ys nd hm hw hD=>?_⟩⟩;have R2:=R1.new (o:=iE X.w u ks) hu;have hD1:H1 D=ah:=by
   cases e:H1 D with
   |none=>rfl
   |some ob=>
    have:upd H1 u (iE X.w u ks) D=ae ob:=by rw[aM (bO e hu)];exact e
    rw[hD]at this;cases this
  have hy:∀y∈ys,y.length<=1000:=λy hy=>hk y ((hm y).mp hy);refine k D _ _ _ n1 (R2.new hD) ((k1.trans (Kp.new hu)).trans (Kp.new hD)) (R1.was k1 hD1) bu ?_ (qA hy) (kq ys nd hm hw);rw[Ad];have:ys.length<=ks.length:=GW nd λy hy=>(hm y).mp hy;exact fh ⋯
 rcases hx with rfl|rfl
 ·cases(show RdX H1 B v (.list (ks.map .str))from r1)with
  |@lst a xs _ e1 e2 e3 e4=>exact key a rfl (.inl (by rw[e1,vP e4]))
 ·cases(show RdX H1 B v (.tuple (ks.map .str))from r1)with
  |@tup a xs _ e1 e2 e3 e4=>exact key a rfl (.inr (by rw[e1,vP e4]))
variable{a:Expr}{ta:TE}{wa:DT}{K:Ah}
end
section
variable{X:Cx}{a b c e o i f:Expr}{ta tb te td ty tx:TE}{wa wb we wd' wy wx:DT}{pos p:Pos}{K:Ah}
def ft(i:Nat):DT:=λδ n Q=>match δ[i]? with
 |some (ae (.own ds))=>Q (.ln ds) n
 |some (ae (.w x))=>Q x n
 |_=>False
theorem OO(i)(hN:X.N[i]?=ae x:=by rfl)(hv:fH X.env.scope x:=by first|exact C7 rfl|exact Cc (C7 rfl)|exact Cc (Cc rfl))(hd:(x==("__debug__":Str))=aj:=by decide)
  (hcd:(x==("__classdict__":Str))=aj:=by decide):DE X (.Name x p) (cC i) (ft i):=⟨fJ hN hv hd hcd,λC H B σ δ n Q Q' R h k=>by
 unfold ft at h
 split at h
 ·rename_i ds e;obtain⟨v,h1,a,xs,rfl,g2,g3,g4,g5,g6⟩:=R.sl i _ e;exact⟨_,h1,k _ (.ln ds) H n R (Kp.refl _ _) ⟨a,xs,rfl,g2,λz=>R.t0 (z▸g4),g5,g6⟩ h⟩
 ·rename_i x e;obtain⟨v,h1,h2⟩:=R.sl i _ e;exact⟨v,h1,k v x H n R (Kp.refl _ _) h2.1 h⟩
 ·exact h.elim⟩
def aZ:Wv->Wv->Int->DQ->Prop:=λx y n Q=>match x with
 |.ln ds=>match y with
  |.d (.int i)=>match c7 ds i with
   |some d=>Q (.d d) n
   |none=>False
  |_=>False
 |x=>az x y n Q
theorem R0:bw (jz K) aZ:=λC H B σ δ n x y p q Q Q' R rx ry h1 k=>by
 cases p with
 |ln ds=>
  unfold aZ at h1;dsimp only at h1
  split at h1
  ·rename_i i
   split at h1
   ·rename_i d e;cases(show RdX H B y (.int i)from ry);obtain⟨ay,ys,rfl,e1,e2,e3,e4⟩:=rx;obtain⟨v,f1,f2⟩:=uW e4 e;exact .inl ⟨ay,ys,i,v,rfl,rfl,SqL.of e1,f1,k _ _ H n R (Kp.refl _ _) (wd f2) h1⟩
   ·exact h1.elim
  ·exact h1.elim
 |d _=>exact l4 C H B σ δ n x y _ q Q Q' R rx ry h1 k
 |tp=>exact l4 C H B σ δ n x y _ q Q Q' R rx ry h1 k
 |dk _=>exact l4 C H B σ δ n x y _ q Q Q' R rx ry h1 k
 |ob _=>exact l4 C H B σ δ n x y _ q Q Q' R rx ry h1 k
theorem Nr(ha:DE X a ta wa)(hb:DE X b tb wb)(hK:X.K=K:=by rfl)(hs:mG b:=by exact λ_ _=>rfl):DE X (.Subscript a b pos) (dF (jz K) ta tb) (w2 wa wb aZ):=by
 subst hK;exact⟨gD qY ha.pe hb.pe hs,mM R0 ha.sd hb.sd⟩
def eV(neg:Bool):Wv->Wv->Int->DQ->Prop:=λx y n Q=>match y with
 |.ln ds=>match x with
  |.d a=>eI a=ai/\ds.all eI=ai/\Q (.d (.bool (if neg then !bI a ds else bI a ds))) n
  |_=>False
 |y=>fZ neg x y n Q
theorem Ks:bw (il K neg) (eV neg):=λC H B σ δ n x y p q Q Q' R rx ry h1 k=>by
 cases q with
 |ln ds=>
  unfold eV at h1;dsimp only at h1
  split at h1
  ·rename_i da;obtain⟨f1,f2,q⟩:=h1;have rx:RdX H B x da:=rx;obtain⟨ay,ys,rfl,e1,e2,e3,e4⟩:=ry;refine⟨ay,ys,rfl,.inl (SqL.of e1),kr rx f1,ka e4 f2,?_⟩;rw[lI rx e4];exact k _ _ H n R (Kp.refl _ _) (wd (.bl _)) q
  ·exact h1.elim
 |d _=>exact lF C H B σ δ n x y p _ Q Q' R rx ry h1 k
 |tp=>exact lF C H B σ δ n x y p _ Q Q' R rx ry h1 k
 |dk _=>exact lF C H B σ δ n x y p _ Q Q' R rx ry h1 k
 |ob _=>exact lF C H B σ δ n x y p _ Q Q' R rx ry h1 k
def fO:List Wv->Int->DQ->Prop:=λxs n Q=>match xs with
 |[.ln ds]=>Q (.d (.int ds.length)) n
 |xs=>bF xs n Q
theorem Ut:eZ (v7 K) fO:=λC H B σ δ n vs xs Q Q' R r h k=>by
 unfold fO at h
 split at h
 ·rename_i ds;cases r with
  |cons r1 r2=>
   cases r2;obtain⟨ay,ys,rfl,e1,e2,e3,e4⟩:=r1;refine .inr ⟨ay,ys,rfl,.inl (SqL.of e1),?_⟩;rw[e4.len];exact k _ _ H n R (Kp.refl _ _) (wd (.int _)) h
 ·exact yo C H B σ δ n vs xs Q Q' R r h k
def cL:Wv->Wv->Int->DQ->Prop:=λx y n Q=>match x,y with
 |.ln ds,.d (.list [])=>Q (.d (.bool ds.isEmpty)) n
 |x,y=>aT x y n Q
theorem TB:bw (lP K) cL:=λC H B σ δ n x y p q Q Q' R rx ry h1 k=>by
 unfold cL at h1
 split at h1
 ·rename_i ds;obtain⟨ax,xs,rfl,e1,e2,e3,e4⟩:=rx;cases(show RdX H B y (.list [])from ry)with
  |@lst ay ys _ f1 f2 f3 f4=>
   cases f4;refine .inr (.inr ⟨ax,ay,xs,rfl,rfl,SqL.of e1,SqL.of f1,?_⟩);have:xs.isEmpty=ds.isEmpty:=by cases e4<;>rfl
   rw[this];exact k _ _ H n R (Kp.refl _ _) (wd (.bl _)) h1
 ·exact m6 C H B σ δ n x y p q Q Q' R rx ry h1 k
def gh:Wv->Option (List Ab)
 |.ln ds=>ae ds
 |.d (.list ds)=>ae ds
 |_=>ah
def eU:Wv->Wv->Int->DQ->Prop:=λx y n Q=>match gh x,gh y with
 |some i,ae j=>i.length+j.length<=Ay/\Q (.d (.list (i++j))) n
 |_,_=>False
theorem qD(h:WRel H B t v x)(e:gh x=ae ds):∃a xs,v=.ref a/\H a=ae (.lst xs)/\xs.length<=Ay/\RdXs H B xs ds:=by
 cases x with
 |ln es=>
  cases e;obtain⟨a,xs,h1,h2,h3,h4,h5⟩:=h;exact⟨a,xs,h1,h2,h4,h5⟩
 |d y=>
  cases y with
  |list es=>
   cases e;cases(show RdX H B v (.list ds)from h)with
   |@lst a xs _ e1 e2 e3 e4=>exact⟨a,xs,rfl,e1,e3,e4⟩
  |_=>cases e
 |tp=>cases e
 |dk _=>cases e
 |ob _=>cases e
theorem Kz:bw iY eU:=λC H B σ δ n x y p q Q Q' R rx ry h1 k=>by
 unfold eU at h1
 split at h1
 ·rename_i i j ei ej;obtain⟨ax,xs,rfl,e1,e3,e4⟩:=qD rx ei;obtain⟨ay,ys,rfl,f1,f3,f4⟩:=qD ry ej;obtain⟨hl,q⟩:=h1;have hl':xs.length+ys.length<=Ay:=by rw[e4.len,f4.len];exact hl
  refine⟨ax,ay,xs,ys,rfl,rfl,e1,f1,hl',λpn hp=>?_⟩;refine k _ _ _ n (R.new hp) (Kp.new hp) (wd (show RdX _ B _ (.list (i++j))from .lst bu (R.nb hp) (by rw[Ak];exact hl') ?_)) q;exact((e4.append f4).fresh hp).less λb z=>.inl z
 ·exact h1.elim
theorem SR(ha:DE X a ta wa)(hb:DE X b tb wb):DE X (.BinOp a .Add b pos) (dF iY ta tb) (w2 wa wb eU):=h9 uv Kz ha hb
end
section
variable{X:Cx}{a b c e o i f:Expr}{ta tb te td ty tx:TE}{wa wb we wd' wy wx:DT}{pos p:Pos}{K:Ah}
def dB(w:DT)(g:d7):aH:=λδ n K=>w δ n λx n1=>match x with
 |.d d=>g d δ λδ'=>K.nx δ' n1
 |_=>False
theorem QI(he:DE X e te we)(hg:DG X tg g gd)(hs:swapsWithSole [tg] e pos.line X.env=pure aj:=by rfl)(hw:swappedStores [tg] e X.env=pure ah:=by rfl)
  (h1:(D8 [tg] X.env).map (·.2)=[assign tg X.env]:=by rfl):DS X (.Assign [tg] e pos) (dh te g) (dB we gd):=⟨nL he.pe hg.pg hs hw h1,λC H B σ δ n K D R q E=>
 he.sd C H B σ δ n _ _ R q λv x H1 n1 R1 k1 r1 q1=>by
  cases x with
  |d d=>exact hg.sd C H1 B σ δ n1 v d _ _ R1 r1 q1 λσ' δ' R' q'=>E.nx _ _ _ _ _ R' q'
  |tp=>exact q1.elim
  |dk _=>exact q1.elim
  |ln _=>exact q1.elim
  |ob _=>exact q1.elim⟩
def oA:Wv->Option (List Ab)
 |.ln ds=>ae ds
 |.d (.list ds)=>ae ds
 |.d (.tuple ds)=>ae ds
 |_=>ah
theorem JX(h:WRel H B t v x)(e:oA x=ae ds):∃a xs,v=.ref a/\(SqL K H a xs\/SqT K H a xs)/\xs.length<=Ay/\RdXs H B xs ds:=by
 cases x with
 |ln es=>
  cases e;obtain⟨a,xs,h1,h2,h3,h4,h5⟩:=h;exact⟨a,xs,h1,.inl (SqL.of h2),h4,h5⟩
 |d y=>
  cases y with
  |list es=>
   cases e;cases(show RdX H B v (.list ds)from h)with
   |@lst a xs _ e1 e2 e3 e4=>exact⟨a,xs,rfl,.inl (SqL.of e1),e3,e4⟩
  |tuple es=>
   cases e;cases(show RdX H B v (.tuple ds)from h)with
   |@tup a xs _ e1 e2 e3 e4=>exact⟨a,xs,rfl,.inr (SqT.of e1),e3,e4⟩
  |_=>cases e
 |tp=>cases e
 |dk _=>cases e
 |ob _=>cases e
def ll(w:DT):fk:=λδ n Q=>w δ n λx n1=>match oA x with
 |some ds=>Q ds n1
 |none=>False
theorem Pa(hg:Gl X "list")(hm:X.mg "list"=ah)(ho:DE X o td wd')(hK:X.K=K:=by rfl)(he:As [o] X.env=(aj,eval o X.env)::As [] X.env:=by rfl)(hpl:(Ct pos (As [] X.env)).any (·.1)=aj:=by rfl):
  DF X (.Call (.Name "list" p) [o] [] pos) (fC (yw K) (dA td bS)) (ll wd'):=
 ⟨mK (LS hK) hg hm FR (b9 ho.pe dH he) ∎ ∎ he hpl,λC H B σ δ n Q Q' R q k=>ho.sd C H B σ δ n _ _ R q λv x H1 n1 R1 k1 r1 q1=>by
  split at q1
  ·rename_i ds ex;obtain⟨a,xs,rfl,h1,h2,h3⟩:=JX (K:=K) r1 ex;refine⟨a,xs,rfl,h1,λl hl=>?_⟩;exact k l xs ds _ n1 (R1.new hl) (k1.trans (Kp.new hl)) (R1.was k1 hl) bu h2 (h3.fresh hl) q1
  ·exact q1.elim⟩
def iw:List Wv->Int->DQ->Prop:=λxs n Q=>match xs with
 |[.ln ds]=>Q (.d (.tuple ds)) n
 |xs=>dM xs n Q
theorem Jo:eZ (wz K) iw:=λC H B σ δ n vs xs Q Q' R r h k=>by
 unfold iw at h
 split at h
 ·rename_i ds;cases r with
  |cons r1 r2=>
   cases r2;obtain⟨ay,ys,rfl,e1,e2,e3,e4⟩:=r1;refine⟨ay,ys,rfl,.inl ⟨SqL.of e1,λl hl=>?_⟩⟩;refine k _ _ _ n (R.new hl) (Kp.new hl) (wd (show RdX _ B _ (.tuple ds)from .tup bu (R.nb hl) e3 ?_)) h;exact(e4.fresh hl).less λb z=>.inl z
 ·exact xl C H B σ δ n vs xs Q Q' R r h k
def gw(i:Nat)(w:DT):aH:=λδ n K=>match δ[i]? with
 |some (ae (.own ds))=>w δ n λx n1=>match x with
  |.d (.list es)=>(ds.length < 1000000/\es.length < 1000000)/\K.nx (δ.set i (ae (.own (ds++es)))) n1
  |_=>False
 |_=>False
theorem GR(h:n < 1000000)(h':m < 1000000):n+m<=Ay:=by
 have:2000000<=Ay:=by decide
 omega
theorem Qn{i:Nat}{xp ap cp:Pos}(hN:X.N[i]?=ae x)(he:DE X e te we)(hv:fH X.env.scope x:=by first|exact C7 rfl|exact Cc (C7 rfl)|exact Cc (Cc rfl))(hd:(x==("__debug__":Str))=aj:=by decide)
  (hcd:(x==("__classdict__":Str))=aj:=by decide)
  (hbase:Gi (.Name x xp) "extend" X.env (eval (.Name x xp) X.env)=eval (.Name x xp) X.env:=by rfl)
  (hfew:((Ct cp (As [e] X.env)).all (λx=>!x.1)&&(backToKw cp (keywordEach [] X.env)).all (λx=>x.1.isSome)
   && decide ([e].length+([]:List Keyword).length+(if ([]:List Keyword).isEmpty then 0 else 1) < 30))=ai:=by rfl)
  (hline:(ap.endLine==cp.line)=ai:=by rfl) (hs:As [e] X.env=[(aj,eval e X.env)]:=by rfl) (hplain:(Ct cp (As [] X.env)).any (·.1)=aj:=by rfl)
  (hsw:Da (.Call (.Attribute (.Name x xp) "extend" ap) [e] [] cp) ah pos.line X.env=pure aj:=by rfl):
  DS X (.Expr (.Call (.Attribute (.Name x xp) "extend" ap) [e] [] cp) pos) (j9 (tQ X.K "list" zX (cC i) (dA te bS))) (gw i we):=
 ⟨qw (BO PySem.F.plainAttrs_list PySem.F.slot_list_extend PySem.F.type_list_extend P6 (fJ hN hv hd hcd) (b9 he.pe dH hs) hbase hfew hline hs hplain) hsw,λC H B σ δ n K D R q E=>by
  unfold gw at q
  split at q
  ·rename_i ds ei;obtain⟨v,hv,a,xs,rfl,e2,e3,e4,e5,e6⟩:=R.sl i _ ei;refine⟨_,hv,.inl ⟨rfl,_,SqL.of e2⟩,he.sd C H B σ δ n _ _ R q λu y H1 n1 R1 k1 r1 q1=>?_⟩
   split at q1
   ·rename_i es;have hat:a≠C.t:=λz=>R.t0 (z▸e4);have e2':=k1 _ _ e2 hat;cases(show RdX H1 B u (.list es)from r1)with
    |@lst b zs _ f1 f2 f3 f4=>
     have hl:xs.length+zs.length<=Ay:=by rw[e6.len,f4.len];exact GR q1.1.1 q1.1.2
     refine⟨a,b,xs,zs,rfl,rfl,e2',f1,hl,?_⟩;refine E.nx _ _ _ _ _ (R1.mutOwn ei rfl hv e3 e4 ?_ rfl) q1.2;refine⟨a,xs++zs,rfl,bu,e3,e4,by rw[Ak];exact hl,?_⟩;refine RdXs.keep (λb o e n=>?_) ((e6.kp k1 R.bt).append f4);rw[aM λ(z:b=a)=>n (z▸e3)];exact e
   ·exact q1.elim
  ·exact q.elim⟩
theorem Tv(H)(B):RdXs H B qN jD:=.cons .non (.cons .non (.cons .non (.cons (.int _) (.cons (.int _) (.cons (.int _) (.cons (.int _) .nil))))))
def fM(i:Nat):DT:=λδ n Q=>match δ[i]? with
 |some (ae (.w .tp))=>Q (.ln jD) n
 |_=>False
theorem LX(i){x:Str}{ix:Int}{p p2:Pos}{jj}(hK:X.K=K:=by rfl)(hN:X.N[i]?=ae x:=by rfl)(hv:fH X.env.scope x:=by first|exact C7 rfl|exact Cc (C7 rfl)|exact Cc (Cc rfl))(hd:(x==("__debug__":Str))=aj:=by decide)
  (hcd:(x==("__classdict__":Str))=aj:=by decide):DE X (.Subscript (.Name x p) (.Constant (.int 3) jj p2) pos) (dF (jz K) (cC i) (tC (.int 3))) (fM i):=by
 subst hK;refine⟨gD qY (fJ hN hv hd hcd) cH (λ_ _=>rfl),λC H B σ δ n Q Q' R h k=>?_⟩;unfold fM at h
 split at h
 ·rename_i e;obtain⟨v,h1,h2⟩:=R.sl i _ e;cases(show v=.ref C.t from h2.1);obtain⟨a,b,ho,_⟩:=R.tp.ob;refine⟨_,h1,.inl ⟨C.t,_,3,.ref C.l.g,rfl,rfl,SqL.of ho,fq (j:=3) rfl,k _ (.ln jD) H n R (Kp.refl _ _) ⟨C.l.g,qN,rfl,R.tp.ag rfl,R.tp.gne,by decide,Tv _ _⟩ h⟩⟩
 ·exact h.elim
end
end DL
namespace L2
open PySem PySem.Spec PyProof.Rows
end L2
namespace DL
open PySem L2 Nb
end DL
namespace HT
open PySem PyProof.Rows
open PySem.SeqAt
open PySem.AutoSeq1 (wpAny_loadPart')
open PySem.MeetsSeq PySem.MeetsSeq2 PySem.MeetsSeq3
section
variable{prog:A7}{w:Bk}{A:Bu}{E:Af->Ai->Prop}{s:Ai}
theorem getItem_tuple_whole{lo hi:Option Int}(ht:IsTup s.heap t items)(hs:s.heap.IsSliceOf sl vl vu .none)(pl:IsPart vl lo)(pu:IsPart vu hi)
  (h0:sIx items.size 0 lo=0) (h1:sIx items.size items.size hi=items.size) (h:Q (.ref t) s):A2 (A6 prog w) A (getItem (.ref t) (.ref sl)) Q E s:=by
 obtain⟨os,hos,hcs,hds⟩:=id hs;have hTs:s.TypeIs (.ref sl) "slice":=⟨os,hos,hcs⟩;unfold getItem
 try with_reducible refine Ce ?_
 first|refine Aa (Aj ?_)|skip
 refine Aa (wpAny_sequenceKey ht.typeIs ∎ ?_);refine Aa (Bz (name:=Dj "__getitem__") ht.typeIs Ef
  (Cb Ef ht.typeIs entry_tuple_getitem ?_ (args_tuple_getitem _ _)))
 show A2 _ _ (Builtin.Tuple.tupleItemsOf (.ref t)>>=_) _ _ s;refine Aa (tupleItemsOf_ ht ?_);refine Aa (Fi hTs ?_);rw[if_pos ∎];refine Aa (DW hs pl pu ?_);have hyes:(((sIx items.size 0 lo:Nat):Int)==0&&(1:Int)==1&&(sIx items.size items.size hi-sIx items.size 0 lo)==items.size)=ai:=by
  rw[h0,h1];simp
 show A2 _ _ (if (((sIx items.size 0 lo:Nat):Int)==0&&(1:Int)==1&&(sIx items.size items.size hi-sIx items.size 0 lo)==items.size)=ai then _ else _) _ _ s;rw[if_pos hyes];unfold Builtin.Tuple.tupleIsExact;refine Aa (Aa (Fi ht.typeIs (Aj ?_)));rw[if_pos ∎];exact Aa (G5 (Aj ⟨_,rfl,Aj h⟩))
end
end HT
namespace L2
open PySem PySem.Spec PyProof.Rows
def oJ(K:Ah):V->Option Int->Option Int->Hp->VK->Prop:=λx lo hi H Q=>∃a xs,x=.ref a/\SqT K H a xs/\HT.sIx xs.length 0 lo=0/\HT.sIx xs.length xs.length hi=xs.length/\Q (.ref a) H
theorem JQ:SlR X (oJ X.K):=by
 intro pins s σ H x v vl vu lo hi sl Q I rx hs pl pu h;obtain⟨a,xs,rfl,hx,h0,h1,q⟩:=h;cases rx;obtain⟨its,r,ht,hz⟩:=I.tuple hx;have hlen:its.toArray.size=xs.length:=by rw[A4];exact r.length.symm
 refine⟨"tuple",_,PyProof.Rows.slot_tuple_getitem.lookup,ht.typeIs,?_⟩;exact HT.getItem_tuple_whole ht hs pl pu (by rw[hlen];exact h0) (by rw[hlen];exact h1) ⟨.ref a,H,I,rfl,q⟩
end L2
namespace DL
open PySem L2 Nb
section
variable{X:Cx}{e:Expr}{te:TE}{we:DT}{pos p2:Pos}{K:Ah}{lo hi:Option Expr}
abbrev kl:=Sl->Int->(Option Int->Int->Prop)->Prop
def cR:kl:=λ_ n Q=>Q ah n
def cP(w:DT):kl:=λδ n Q=>w δ n λx n1=>match x with
 |.d (.int i)=>Q (ae i) n1
 |_=>False
def IG(t:TO)(w:kl):Prop:=∀(C:Ctx)(H:Hp)(B:Addr->Prop)(σ:St)(δ:Sl)(n:Int)(Q:Option Int->Int->Prop)(Q':Option Int->Hp->Prop),Rel C H B σ δ n->w δ n Q->
 (∀o H' n',Rel C H' B σ δ n'->Kp C.t H H'->Q o n'->Q' o H')->t σ H Q'
structure DOp(X:Cx)(o:Option Expr)(t:TO)(w:kl):Prop where
 po:PO X o t
 sd:IG t w
theorem SO:DOp X ah xF cR:=⟨EI,λC H B σ δ n Q Q' R q k=>k ah H n R (Kp.refl _ _) q⟩
theorem RP(h:DE X e te we):DOp X (ae e) (yI te) (cP we):=⟨xI h.pe,λC H B σ δ n Q Q' R q k=>h.sd C H B σ δ n _ _ R q λv x H1 n1 R1 k1 r1 q1=>by
 split at q1
 ·rename_i i;cases(show RdX H1 B v (.int i)from r1);exact⟨i,rfl,k (ae i) H1 n1 R1 k1 q1⟩
 ·exact q1.elim⟩
def du(xs:List Ab)(lo hi:Option Int):List Ab:=(xs.drop (HT.sIx xs.length 0 lo)).take (HT.sIx xs.length xs.length hi-HT.sIx xs.length 0 lo)
def eO(w:DT)(l u:kl):DT:=λδ n Q=>w δ n λx n1=>l δ n1 λa n2=>u δ n2 λb n3=>match x with
 |.d (.tuple ds)=>Q (.d (.tuple (du ds a b))) n3
 |_=>False
def wD(K:Ah):V->Option Int->Option Int->Hp->VK->Prop:=λx lo hi H Q=>nX K x lo hi H Q\/oJ K x lo hi H Q
theorem Qx(he:DE X e te we)(hl:DOp X lo tl wl)(hh:DOp X hi th wh)(hK:X.K=K:=by rfl):DE X (.Subscript e (.Slice lo hi ah p2) pos) (sV (wD K) te tl th) (eO we wl wh):=by
 subst hK;refine⟨u9 (sl_tup.or JQ) he.pe hl.po hh.po,λC H B σ δ n Q Q' R q k=>he.sd C H B σ δ n _ _ R q λv x H1 n1 R1 k1 r1 q1=>
  hl.sd C H1 B σ δ n1 _ _ R1 q1 λa H2 n2 R2 k2 q2=>hh.sd C H2 B σ δ n2 _ _ R2 q2 λb H3 n3 R3 k3 q3=>?_⟩
 split at q3
 ·rename_i ds;have r3:RdX H3 B v (.tuple ds):=(r1.kp k2 R1.bt).kp k3 R2.bt;cases r3 with
  |@tup aa xs _ e1 e2 e3 e4=>
   have kk:=(k1.trans k2).trans k3;by_cases hw:HT.sIx xs.length 0 a=0/\HT.sIx xs.length xs.length b=xs.length
   ·refine .inr ⟨aa,xs,rfl,SqT.of e1,hw.1,hw.2,k _ _ H3 n3 R3 kk (wd (show RdX H3 B _ (.tuple ds)from .tup e1 e2 e3 e4)) ?_⟩;have:du ds a b=ds:=by
     unfold du;rw[<-e4.len,hw.1,hw.2,Gj,Nat.sub_zero,e4.len,List.take_length]
    rw[this]at q3;exact q3
   ·refine .inl ⟨aa,xs,rfl,SqT.of e1,hw,λp hp=>?_⟩;refine k _ _ _ n3 (R3.new hp) (kk.trans (Kp.new hp)) (wd (show RdX _ B _ (.tuple (du ds a b))from .tup bu (R3.nb hp) (A9 (rA xs a b) e3) ?_)) q3;unfold du eW;rw[<-e4.len];exact(((e4.drop _).take _).fresh hp).less λb z=>.inl z
 ·exact q3.elim
end
end DL
namespace Nb
open PySem L2
end Nb
namespace DL
open PySem L2 Nb
section
variable{X:Cx}{tg a b c e o i f:Expr}{ta tb te td ty tx:TE}{wa wb we wd' wy wx:DT}{pos p:Pos}{K:Ah}
def Ux(i:Nat)(w:DT):aH:=λδ n K=>match δ[i]? with
 |some (ae (.own ds))=>w δ n λx n1=>match x with
  |.d (.tuple es)=>(ds.length < 1000000/\es.length < 1000000)/\K.nx (δ.set i (ae (.own (ds++es)))) n1
  |_=>False
 |_=>False
def iR(hs:List Str)(w:DT):DT:=λδ n Q=>w δ n λx n1=>match x with
 |.d a=>eI a=ai/\Q (.d (.bool (bI a (hs.map .str)))) n1
 |_=>False
theorem J4(hl:∀h∈hs,h.length<=1000)(hq:∀H,SqT K H q (hs.map V.str))(h:ee ta wa):ee (dF (il K aj) ta (tC (.ref q))) (iR hs wa):=λC H B σ δ n Q Q' R z k=>
 h C H B σ δ n _ _ R z λv x H1 n1 R1 k1 r1 q1=>by
  split at q1
  ·rename_i da;have r1:RdX H1 B v da:=r1;have rs:RdXs H1 B (hs.map V.str) (hs.map .str):=qA hl;refine⟨q,_,rfl,.inr (hq H1),kr r1 q1.1,ka rs ?_,k _ _ H1 n1 R1 k1 (wd (.bl _)) ?_⟩
   ·rw[List.all_map];exact Ez.mpr λ_ _=>rfl
   ·rw[lI r1 rs];exact q1.2
  ·exact q1.elim
theorem Kf{xp:Pos}(ha:DE X a ta wa)(hg:Gl X x)(hm:X.mg x=ae (.ref q))(hq:∀H,SqT K H q (hs.map V.str))(hl:∀h∈hs,h.length<=1000:=by decide +kernel)(hK:X.K=K:=by rfl)(hd:(x==("__debug__":Str))=aj:=by decide)
  (hmk:Cf .In (Expr.Name x xp)=aj:=by with_unfolding_all rfl):DC X (.Compare a [.In] [.Name x xp] pos) (jP (dF (il K aj) ta (tC (.ref q)))) (cT (iR hs wa)):=
 ⟨jE (tu hK) ha.pe (ju hg hm rfl hd) hmk,kY (J4 hl hq ha.sd)⟩
end
abbrev eF:=List Wv->Int->(List Ab->Int->Prop)->Prop
def lZ(S:eF):Sp:=λvs H Q _=>∃(t:Addr)(l:TL)(ns:List Int)(B:Addr->Prop)(ws:List Wv)(n:Int)(Q0:List Ab->Int->Prop),Tp H t l ns n/\B t/\(∀b,B b->H b≠ah)/\ARel H B t vs ws/\S ws n Q0 /\
 ∀ds n',Q0 ds n'->∀a xs H',Tp H' t l ns n'->Kp t H H'->H a=ah->H' a=ae (.lst xs)->xs.length<=Ay->RdXs H' (λb=>B b\/b=a) xs ds->Q (.ref a) H'
section
variable{X:Cx}{e:Expr}{es:List Expr}{pos p:Pos}{tR:TA}{wR:dZ}{te:TE}{we:DT}
def oV(S:eF)(w:dZ):fk:=λδ n Q=>w δ n λxs n1=>S xs n1 Q
theorem MZ(h:gR t w):jB (ji (lZ S) [] E0 t) (oV S w):=λC H B σ δ n Q Q' R q k=>
 h C H B σ δ n _ _ R q λvs xs H1 n1 R1 k1 r1 q1=>by
  refine⟨C.t,C.l,C.ns,B,xs,n1,Q,R1.tp,R1.bt,R1.ba,by rw[Bv];exact r1,q1,λds n' q2 a ys H' T' k' h0 h1 h2 h3=>?_⟩;exact k a ys ds H' n' (R1.step T' k') (k1.trans k') (R1.was k1 h0) h1 h2 h3 q2
structure HasN(P:A7)(w:Bk)(K:Ah)(mg:Str->Option Af)(base:Heap)(k:Nat)(x:Str)(ps:List Str)(S:eF):Prop where
 ex:∃(f:Addr)(fd:B9),FnOk P w K mg base c9 k f fd ps (lZ S)/\Binds K fd ps []/\mg x=ae (.ref f)/\B5 K (.ref f)=ai
theorem HasN.mk'(F:Fun K x qual st f fd)(m:mg x=ae (.ref f))(b:Binds K fd ps [])(h:FnOk P w K mg base c9 k f fd ps (lZ S)):HasN P w K mg base k x ps S:=⟨f,fd,h,b,m,F.kp⟩
theorem PY(h:HasN X.prog X.w X.K X.mg X.base k x ps S)(hr:Room k X.A)(hg:Gl X x)
  (ha:DA X (e::es) tR wR) (hdb:(x==("__debug__":Str))=aj:=by decide) (he:As (e::es) X.env=(aj,eval e X.env)::As es X.env:=by rfl) (hpl:(Ct pos (As es X.env)).any (·.1)=aj:=by rfl):
  DF X (.Call (.Name x p) (e::es) [] pos) (ji (lZ S) [] E0 tR) (oV S wR):=by
 obtain⟨f,fd,h1,h2,h3,h4⟩:=h.ex;exact⟨wA h1 hr hg h3 h4 h2 .nil wK ha.pa hdb he hpl,MZ ha.sd⟩
def qZ(w:fk):aH:=λδ n K=>w δ n K.rn
theorem RT(h:DF X e te w):DS X (.Return (ae e) pos) (lR te) (qZ w):=⟨me h.pe,λC H B σ δ n K D R q E=>
 h.sd C H B σ δ n _ _ R q λa xs ds H' n' R' k' h0 h1 h2 h3 q'=>E.rn H' B σ δ n' a xs ds R' (R.h0 h0) h1 h2 h3 q'⟩
end
section
variable{P:A7}{w:Bk}{K:Ah}{mg:Str->Option Af}{base:Heap}
theorem Fun.okN(F:Fun K x qual st f fd)(Sc:FnScope N ps (cD st))(len:∀ws n Q,S ws n Q->ws.length=ps.length)
  (hbody:∀(cdv:Af)(A:Bu)(outer:List Env)(s:Ai)(H:Hp)(E:XK),Room k (A.deeper (Dv qual (cD st) s.heap.objs.size f cdv))->
   ∃T W,DSs (cO c9 P w K mg base N qual (cD st) f cdv A outer s H E).nox (fF st) T W/\∀ws n Q,S ws n Q->W (gH N ws) n {nx:=λ_ _=>False,rt:=λ_ _=>False,rn:=Q}):FnOk P w K mg base c9 (k+1) f fd ps (lZ S):=by
 refine F.ok Sc (λvs H Q E h=>?_) (λcdv A outer s H vs Q E hr h=>?_)
 ·obtain⟨t,l,ns,B,ws,n,Q0,_,_,_,r,q,_⟩:=h;rw[r.len];exact len ws n Q0 q
 ·obtain⟨t,l,ns,B,ws,n,Q0,T,bt,ba,r,q,kk⟩:=h;obtain⟨T',W,d,hw⟩:=hbody cdv A outer s H E hr;refine⟨T',d.ps,d.sd ⟨t,l,ns,H,B,λ_=>ah⟩ H B _ _ n _ _ (uB T bt ba r) (hw ws n Q0 q) ⟨?_,?_,?_,?_,?_⟩⟩
  ·exact λ_ _ _ _ _ _ z=>z.elim
  ·exact λ_ _ _ _ _ _ _ _ _ z=>z.elim
  ·exact λ_ _ _ _ _ _ z=>z.elim
  ·exact λ_ _ _ _ _ _ z=>z.elim
  ·exact λH' B' σ δ n' a xs ds R' h0 h1 h2 h3 q'=>kk _ _ q' a xs H' R'.tp R'.kp h0 h1 h2 (h3.less λb z=>z.elim (λz=>.inl (R'.b0 b z)) .inr)
end
end DL
namespace Nb
open PySem L2
def gC(K:Ah)(q:Addr)(D:List (Str×Str)):Prop:=(q==Fj)=aj/\∃(o:Obj)(es:Array DictEntry)(ep:Nat),K.lookup q=ae o/\o.ExactDict/\o.data=.dict es ep/\PyProof.Rows.KTD.Rows (λ(d:Str) v=>∃t,v=.str d t) es.toList D
def gy(D:List (Str×Str)):List (Str×PyProof.Rows.KTD.Dat):=D.map λp=>(p.1,.flat (.str p.2))
theorem yx(k):∀D:List (Str×Str),Bb k (gy D)=(Bb k D).map λs=>.flat (.str s)
 |[]=>rfl
 | (x,s)::D=>by
  show(if decide (k=x)=ai then ae _ else Bb k (gy D))=Option.map _ (if decide (k=x)=ai then ae s else Bb k D);rw[yx k D]
  split<;>rfl
theorem CH(k)(D):PyProof.Rows.KTD.inKeys k (gy D)=(Bb k D).isSome:=by
 rw[<-PyProof.Rows.KTD.isSome_datumAt,yx,Ge]
theorem HQ:∀D:List (Str×Str),(∀s,Bb k D=ae s->∀t,P (.str s t))->PyProof.Rows.KTD.EachL h k P (gy D)
 |[],_=>trivial
 | (x,s)::D,hp=>by
  by_cases hx:k=x
  ·refine PyProof.Rows.KTD.eachL_hit hx (PyProof.Rows.KTD.opened_str λt=>hp s ?_ t);show(if decide (k=x)=ai then ae s else Bb k D)=ae s;rw[if_pos (decide_eq_true hx)]
  ·refine PyProof.Rows.KTD.eachL_miss hx (HQ D λs' hs' t=>hp s' ?_ t);show(if decide (k=x)=ai then ae s else Bb k D)=ae s';rw[if_neg (by simp[hx])];exact hs'
theorem AV:∀D:List (Str×Str),((gy D).all λp=>PyProof.Rows.KTD.plain p.2)=ai
 |[]=>rfl
 |_::D=>by
  show(ai&&(gy D).all λp=>PyProof.Rows.KTD.plain p.2)=ai;rw[AV D];rfl
section
variable{X:Cx}{pins:List (Addr×Obj)}{σ:St}{H:Hp}{s:Ai}{q:Addr}{D:List (Str×Str)}
theorem zJ(I:Inv X pins σ H s)(h:gC X.K q D):PyProof.Rows.KTD.Here s.heap s.heap q (gy D):=by
 obtain⟨h1,o,es,ep,hk,h2,h3,h4⟩:=h;exact⟨⟨h1,o,es,ep,I.kIn q o hk,h2,h3,PyProof.Rows.KTD.Rows.mono (f:=λd:Str=>PyProof.Rows.KTD.Dat.flat (.str d)) (R':=PyProof.Rows.KTD.Dat.At s.heap) (λd v ⟨t,e⟩=>by subst e;exact PyProof.V.Flat.str _ _) h4⟩,λ_ _ e=>e⟩
def k8(K:Ah):R2:=λx y H Q=>∃k q D d,x=.ref q/\y=.str k/\gC K q D/\Bb k D=ae d/\Q (.str d) H
theorem Pl:IxR X (k8 X.K):=by
 intro value slice pins s σ H x y v u Q I rx ry h hs;obtain⟨k,q,D,d,rfl,rfl,hT,hd,hq⟩:=h;obtain⟨t,rfl⟩:=ry;cases rx;refine PyProof.Rows.KTD.item_textA (zJ I hT) (AV D) (by rw[CH,hd];rfl) (HQ D λd' hd' t'=>?_) hs;rw[hd]at hd';cases hd';exact⟨.str d,H,I.kept (t':=s.toks+1) λ_ _ e=>e,⟨t',rfl⟩,hq⟩
end
end Nb
namespace DL
open PySem L2 Nb
section
variable{X:Cx}{a b c e o i f:Expr}{ta tb te ty:TE}{wa wb we wy:DT}{pos p xp:Pos}{K:Ah}{D:List (Str×Str)}{q:Addr}{x:Str}
def RG(D:List (Str×Str))(w:DT):DT:=λδ n Q=>w δ n λx n1=>match x with
 |.d (.str k)=>Q (.d (.bool (Bb k D).isSome)) n1
 |_=>False
def iU(D:List (Str×Str))(w:DT):DT:=λδ n Q=>w δ n λx n1=>match x with
 |.d (.str k)=>match Bb k D with
  |some s=>s.length<=1000/\Q (.d (.str s)) n1
  |none=>False
 |_=>False
theorem Tw(h:n<=1000):n<=Ay:=A9 h ∎
theorem PU(hK:X.K=K:=by rfl):IxR X (k8 K):=by subst hK;exact Pl
theorem Pr(hi:DE X i ty wy)(hg:Gl X x)(hm:X.mg x=ae (.ref q))(hq:gC K q D)(hs:mG i:=by exact λ_ _=>rfl)(hK:X.K=K:=by rfl)(hd:(x==("__debug__":Str))=aj:=by decide):
  DE X (.Subscript (.Name x xp) i pos) (dF (k8 K) (tC (.ref q)) ty) (iU D wy):=⟨gD (PU hK) (ju hg hm rfl hd) hi.pe hs,λC H B σ δ n Q Q' R z k=>
 hi.sd C H B σ δ n _ _ R z λv x H1 n1 R1 k1 r1 q1=>by
  split at q1
  ·rename_i key
   split at q1
   ·rename_i s es;cases(show RdX H1 B v (.str key)from r1);exact⟨key,q,D,s,rfl,rfl,hq,es,k _ _ H1 n1 R1 k1 (wd (.str _ (Tw q1.1))) q1.2⟩
   ·exact q1.elim
  ·exact q1.elim⟩
def ko(wa wb:DT):fk:=λδ n Q=>wa δ n λx n1=>wb δ n1 λy n2=>match gh x,gh y with
 |some i,ae j=>i.length+j.length<=Ay/\Q (i++j) n2
 |_,_=>False
theorem NK(ha:DE X a ta wa)(hb:DE X b tb wb):DF X (.BinOp a .Add b pos) (dF iY ta tb) (ko wa wb):=⟨d8 uv ha.pe hb.pe,λC H B σ δ n Q Q' R z k=>
 ha.sd C H B σ δ n _ _ R z λv x H1 n1 R1 k1 r1 q1=>hb.sd C H1 B σ δ n1 _ _ R1 q1 λu y H2 n2 R2 k2 r2 q2=>by
  have r1':=r1.kp k2 R1.bt
  split at q2
  ·rename_i i j ei ej;obtain⟨ax,xs,rfl,e1,e3,e4⟩:=qD r1' ei;obtain⟨ay,ys,rfl,f1,f3,f4⟩:=qD r2 ej;obtain⟨hl,q⟩:=q2;have hl':xs.length+ys.length<=Ay:=by rw[e4.len,f4.len];exact hl
   refine⟨ax,ay,xs,ys,rfl,rfl,e1,f1,hl',λpn hp=>?_⟩;refine k pn (xs++ys) (i++j) _ n2 (R2.new hp) ((k1.trans k2).trans (Kp.new hp)) (R2.was (k1.trans k2) hp) bu (by rw[Ak];exact hl') ((e4.append f4).fresh hp) q
  ·exact q2.elim⟩
end
end DL
namespace L2
open PySem PySem.Spec PyProof.Rows PySem.SeqAt PySem.W
end L2
namespace L2
open PySem PySem.Spec PyProof.Rows
end L2
namespace L2
open PySem PySem.Spec PyProof.Rows PySem.W
end L2
namespace L2
open PySem PySem.Spec PyProof.Rows
end L2
namespace L2
open PySem PySem.Spec PyProof.Rows PySem.SeqAt PySem.W
end L2
namespace DL
open PySem L2 Nb
end DL
namespace L2
open PySem PySem.Spec PyProof.Rows PySem.SeqAt PySem.W
end L2
namespace DL
open PySem L2 Nb
section
variable{X:Cx}{o:Expr}{td:TE}{wd':DT}{pos p p2:Pos}{K:Ah}
def vD:aG->Ab
 |.inl i=>.int i
 |.inr x=>.str x
def ou(k:List aG):Ab:=.tuple (k.map vD)
theorem xH{k:List aG}:∀{vs:List V},RdXs H B vs (k.map vD)->vs=k.map kV:=by
 induction k with
 |nil=>intro vs h;cases h;rfl
 |cons x k ih=>
  intro vs h;cases h with
  |cons h t=>
   rw[ih t];cases x with
   |inl i=>cases(show RdX H B _ (.int i)from h);rfl
   |inr x=>cases(show RdX H B _ (.str x)from h);rfl
end
end DL
namespace HT
open PySem PyProof.Rows
end HT
namespace L2
open PySem PySem.Spec PyProof.Rows
end L2
namespace DL
open PySem L2 Nb
end DL
namespace L2
open PySem PySem.Spec PyProof.Rows PySem.SeqAt
end L2
namespace DL
open PySem L2 Nb
end DL
namespace L2
open PySem PySem.Spec PyProof.Rows
end L2
namespace DL
open PySem L2 Nb
end DL
namespace L2
open PySem PySem.Spec PyProof.Rows
def vS(K:Ah):R2:=λx y H Q=>∃a b ys,x=.ref a/\y=.ref b/\SqT K H a []/\SqT K H b ys/\Q (.ref b) H
theorem Rx:OpR X (Eu .Add) (vS X.K):=by
 intro pins s σ H x y v u Q I rx ry h;obtain⟨a,b,ys,rfl,rfl,ha,hb,q0⟩:=h;cases(show v=A3 a from rx);cases(show u=A3 b from ry);obtain⟨its,r1,p1,_⟩:=I.tuple ha;obtain⟨its2,r2,p2,_⟩:=I.tuple hb;obtain⟨⟨cls,dd,data,sl⟩,ho,hc,n,hd⟩:=id p1;obtain⟨⟨cls2,dd2,data2,sl2⟩,ho2,hc2,n2,hd2⟩:=id p2;simp only at hc hd hc2 hd2;subst hc hd hc2 hd2;have hi:its=[]:=r1.nil_iff.mpr rfl;exact concat_meets ⟨_,ho,rfl⟩ ⟨_,ho2,rfl⟩ noFill_tuple_add seq_tuple_add Gc F5 (Fx _ _)
  (tuple_addW0 a b its.toArray its2.toArray n n2 dd dd2 sl sl2 (by simp[hi])) ⟨ho,ho2,⟨.ref b,H,I,rfl,q0⟩⟩
end L2
namespace DL
open PySem L2 Nb
section
variable{X:Cx}{a b:Expr}{ta tb:TE}{wa wb:DT}{pos p:Pos}{K:Ah}
def eR:Wv->Wv->Int->DQ->Prop:=λx y n Q=>match x,y with
 |.d (.tuple []),.d (.tuple j)=>Q (.d (.tuple j)) n
 |x,y=>kZ x y n Q
theorem Us:bw (λx y H Q=>qp K x y H Q\/vS K x y H Q) eR:=λC H B σ δ n x y p q Q Q' R rx ry h1 k=>by
 unfold eR at h1
 split at h1
 ·rename_i j;cases(show RdX H B x (.tuple [])from rx)with
  |@tup ax xs _ e1 e2 e3 e4=>
   cases(show RdX H B y (.tuple j)from ry)with
   |@tup ay ys _ f1 f2 f3 f4=>
    cases e4;exact .inr ⟨ax,ay,ys,rfl,rfl,SqT.of e1,SqT.of f1,k _ _ H n R (Kp.refl _ _) (wd (show RdX H B _ (.tuple j)from .tup f1 f2 f3 f4)) h1⟩
 ·exact .inl (KA C H B σ δ n x y _ _ Q Q' R rx ry h1 k)
theorem PJ(ha:DE X a ta wa)(hb:DE X b tb wb)(hK:X.K=K:=by rfl):DE X (.BinOp a .Add b pos) (dF (λx y H Q=>qp K x y H Q\/vS K x y H Q) ta tb) (w2 wa wb eR):=by
 subst hK;exact h9 (op_addA.or Rx) Us ha hb
end
end DL
namespace L2
open PySem PySem.Spec PyProof.Rows
end L2
namespace DL
open PySem L2 Nb
end DL
namespace L2
open PySem PySem.Spec PyProof.Rows
end L2
namespace DL
open PySem L2 Nb
end DL
namespace L2
open PySem PySem.Spec PyProof.Rows
end L2
namespace DL
open PySem L2 Nb
end DL
namespace L2
open PySem PySem.Spec PyProof.Rows
end L2
namespace DL
open PySem L2 Nb
theorem Q3(ha:DE X a ta wa)(hb:DE X b tb wb):DE X (.BinOp a .Add b pos) (dF (fW λi j=>.int (i+j)) ta tb) (w2 wa wb (cx λi j=>.int (i+j))):=h9 op_add (zW λ_ _ _ _=>.int _) ha hb
section
variable{X:Cx}{a b e o i f:Expr}{ta tb te td ty:TE}{wa wb we wd' wy:DT}{pos p p2:Pos}{K:Ah}
def dY(neg:Bool):Wv->Wv->Int->DQ->Prop:=λx y n Q=>(∃o,x=.ob o/\y=.d .none/\Q (.d (.bool neg)) n)\/cm neg x y n Q
theorem GZ{o:Ob}(h:WRel H B t v (.ob o)):∃a,v=.ref a:=by
 cases o with
 |o=>exact h
 |p d=>obtain⟨a,_,_,e,_⟩:=h;exact⟨a,e⟩
 |k m=>obtain⟨a,_,e,_⟩:=h;exact⟨a,e⟩
 |q d m=>obtain⟨a,_,_,_,e,_⟩:=h;exact⟨a,e⟩
theorem K6:bw (λx y H Q=>y=.non/\Q (.bl (decide (x=.non))) H) (dY aj):=λC H B σ δ n x y p q Q Q' R rx ry h1 k=>by
 rcases h1 with⟨o,rfl,rfl,h⟩|h
 ·obtain⟨a,rfl⟩:=GZ rx;cases(show RdX H B y .none from ry);exact⟨rfl,k _ _ H n R (Kp.refl _ _) (wd (.bl _)) h⟩
 ·exact yj C H B σ δ n x y p q Q Q' R rx ry h k
theorem EJ:bw (λx y H Q=>y=.non/\Q (.bl (!decide (x=.non))) H) (dY ai):=λC H B σ δ n x y p q Q Q' R rx ry h1 k=>by
 rcases h1 with⟨o,rfl,rfl,h⟩|h
 ·obtain⟨a,rfl⟩:=GZ rx;cases(show RdX H B y .none from ry);exact⟨rfl,k _ _ H n R (Kp.refl _ _) (wd (.bl _)) h⟩
 ·exact xQ C H B σ δ n x y p q Q Q' R rx ry h k
def vp(w w':DT):DT:=λδ n Q=>w δ n λx n1=>w' δ n1 λy n2=>∃d m,x=.d d/\y=.ob (.k m)/\Q (.ob (.q d m)) n2
theorem MX{x1}(ha:DE X a ta wa)(hb:DE X b tb wb)(he:As [a,b] X.env=(aj,eval a X.env)::As [b] X.env:=by rfl)(he':As [b] X.env=(aj,eval b X.env)::As [] X.env:=by rfl):DE X (.Tuple [a,b] x1 pos) (iC (dA ta (dA tb bS))) (vp wa wb):=
 ⟨ur (b9 ha.pe (b9 hb.pe dH he') he),λC H B σ δ n Q Q' R q k=>
  ha.sd C H B σ δ n _ _ R q λv x H1 n1 R1 k1 r1 q1=>hb.sd C H1 B σ δ n1 _ _ R1 q1 λu y H2 n2 R2 k2 r2 q2=>by
   obtain⟨d,m,rfl,rfl,q3⟩:=q2;have r1':RdX H2 B v d:=r1.kp k2 R1.bt;obtain⟨b,l,rfl,g1,g2,g3⟩:=r2;refine⟨small (show 2<=1000 by decide),λp hp=>k _ (.ob (.q d m)) _ n2 (R2.new hp) ((k1.trans k2).trans (Kp.new hp)) ⟨p,v,b,l,rfl,bu,R2.nb hp,?_,?_,g2,?_⟩ q3⟩
   ·exact r1'.kp (Kp.new (t:=C.t) hp) R2.bt
   ·exact Kp.new (t:=C.t) hp _ _ g1 λz=>g2 (z▸R2.bt)
   ·exact g3.move λb o e n=>⟨Kp.new (t:=C.t) hp b o e λz=>n (z▸R2.bt),n⟩⟩
def bc:Wv->Wv->Int->DQ->Prop:=λx y n Q=>(∃d m,x=.ob (.q d m)/\((y=.d (.int 0)/\Q (.d d) n)\/(y=.d (.int 1)/\Q (.dk m) n)))\/az x y n Q
theorem JR:bw (jz K) bc:=λC H B σ δ n x y p q Q Q' R rx ry h1 k=>by
 rcases h1 with⟨d,m,rfl,h⟩|h
 ·obtain⟨a,v,b,l,rfl,e2,e3,e4,e5,e6,e7⟩:=rx;rcases h with⟨rfl,h⟩|⟨rfl,h⟩
  ·cases(show RdX H B y (.int 0)from ry);exact .inr (.inl ⟨a,[v,.ref b],0,v,rfl,rfl,SqT.of e2,rfl,k _ _ H n R (Kp.refl _ _) (wd e4) h⟩)
  ·cases(show RdX H B y (.int 1)from ry);exact .inr (.inl ⟨a,[v,.ref b],1,.ref b,rfl,rfl,SqT.of e2,rfl,k _ (.dk m) H n R (Kp.refl _ _) ⟨b,l,rfl,e5,λz=>e6 (z▸R.bt),e7⟩ h⟩)
 ·exact l4 C H B σ δ n x y p q Q Q' R rx ry h k
theorem Na(ha:DE X a ta wa)(hb:DE X b tb wb)(hK:X.K=K:=by rfl)(hs:mG b:=by exact λ_ _=>rfl):DE X (.Subscript a b pos) (dF (jz K) ta tb) (w2 wa wb bc):=by
 subst hK;exact⟨gD qY ha.pe hb.pe hs,mM JR ha.sd hb.sd⟩
end
section
variable{X:Cx}{a b e o:Expr}{ta tb te td ty:TE}{wa wb we wd' wy:DT}{pos p p2:Pos}{K:Ah}{H:Hp}{B:Addr->Prop}{l:List (List aG×V)}{m:List (List aG×Ab)}
def gW(m:List (List aG×Ab))(k:List aG):Bool:=m.any λkv=>decide (kv.1=k)
def gA(m:List (List aG×Ab))(k:List aG)(d:Ab):List (List aG×Ab):=if gW m k=ai then m.map (λkv=>if kv.1=k then(kv.1,d)else kv)else m++[(k,d)]
theorem RdT.any(h:RdT H B l m)(k):(l.any λkv=>decide (kv.1=k))=gW m k:=by
 unfold RdT at h;unfold gW
 induction h with
 |nil=>rfl
 |cons r _ ih=>rw[C6,C6,ih,r.1]
theorem RdT.isSome(h:RdT H B l m)(k):(bY l k).isSome=gW m k:=by
 rw[<-h.any k];unfold bY;rw[Ge,List.isSome_find?]
theorem RdT.len(h:RdT H B l m):l.length=m.length:=by
 unfold RdT at h
 induction h with
 |nil=>rfl
 |cons _ _ ih=>rw[Ar,Ar,ih]
theorem RdT.map(h:RdT H B l m)(r:RdX H B v d)(k):RdT H B (l.map λkv=>if kv.1=k then(kv.1,v)else kv) (m.map λkv=>if kv.1=k then(kv.1,d)else kv):=by
 unfold RdT at h ⊢
 induction h with
 |nil=>exact .nil
 |@cons p q ps qs z _ ih=>
  rw[Bs,Bs];refine .cons ?_ ih;by_cases e:p.1=k
  ·have e':q.1=k:=z.1▸e;rw[if_pos e,if_pos e'];exact⟨z.1,r⟩
  ·have e':¬q.1=k:=z.1▸e;rw[if_neg e,if_neg e'];exact z
theorem RdT.snoc(h:RdT H B l m)(r:RdX H B v d)(k):RdT H B (l++[(k,v)]) (m++[(k,d)]):=by
 unfold RdT at h ⊢
 induction h with
 |nil=>exact .cons ⟨rfl,r⟩ .nil
 |cons z _ ih=>exact .cons z ih
theorem RdT.put(h:RdT H B l m)(r:RdX H B v d)(k):RdT H B (bR l k v) (gA m k d):=by
 unfold bR gA;rw[h.any k]
 split
 ·exact h.map r k
 ·exact h.snoc r k
def pQ(i:Nat):aH:=λδ n K=>K.nx (δ.set i (ae (.odt []))) n
theorem Rn(hN:X.N.Nodup)(hi:X.N[i]?=ae x)(hx:jq X.env.scope x)(hs:Da (.Dict [] [] p) (ae (.Name x pos')) pos.line X.env=pure aj:=by rfl)(hf:X.fn x=ai\/X.env.scope.names.lookup x=ae .local:=by first|exact .inl rfl|exact .inr rfl|assumption):
  DS X (.Assign [.Name x pos'] (.Dict [] [] p) pos) (dh EM (gm i)) (pQ i):=⟨gT hN hi hx S5 hs hf,λC H B σ δ n K D R q E=>λa ha=>by
  refine E.nx _ _ _ _ _ (R.own (R.new ha) (Kp.new ha) ha (by rw[bu];exact λz=>nomatch z) rfl ?_) q;exact⟨a,[],rfl,bu,.inr rfl,R.h0 ha,Br _,.nil⟩⟩
def pN(i:Nat)(w:DT):DT:=λδ n Q=>w δ n λx n1=>∃k kvs,x=.d (ou k)/\δ[i]?=ae (ae (.odt kvs))/\Q (.d (.bool !gW kvs k)) n1
theorem R7(hi:DE X a ta wa):ee (nP ta (cC i)) (pN i wa):=λC H B σ δ n Q Q' R h k=>
 hi.sd C H B σ δ n _ _ R h λv x H1 n1 R1 k1 r1 q1=>by
  obtain⟨key,kvs,rfl,e,q⟩:=q1;obtain⟨w,h1,b,l,rfl,g2,g3,g4,g5,g6⟩:=R1.sl i _ e;refine⟨_,h1,?_⟩;cases(show RdX H1 B v (.tuple (key.map vD))from r1)with
  |@tup c zs _ i1 i2 i3 i4=>
   have ez:=xH i4;subst ez;refine⟨b,bY l key,rfl,DGet.t g2 i1,k _ _ H1 n1 R1 k1 (wd (.bl _)) ?_⟩;rw[g6.isSome key];exact q
theorem NP{xp:Pos}(hu:X.A.units+64 < Gr)(hN:X.N[i]?=ae x)(hi:DE X a ta wa)(hv:fH X.env.scope x:=by first|exact C7 rfl|exact Cc (C7 rfl)|exact Cc (Cc rfl))(hd:(x==("__debug__":Str))=aj:=by decide)
  (hcd:(x==("__classdict__":Str))=aj:=by decide) (hm:Cf .NotIn (.Name x xp)=aj:=by with_unfolding_all rfl):DC X (.Compare a [.NotIn] [.Name x xp] pos) (jP (nP ta (cC i))) (cT (pN i wa)):=⟨Kn (IE ⋯ hi.pe (fJ hN hv hd hcd)) hm,kY (R7 hi)⟩
def yy(i:Nat)(wy wv:DT):aH:=λδ n K=>wv δ n λv n1=>∃kvs,δ[i]?=ae (ae (.odt kvs))/\wy δ n1 λy n2=>∃k d,v=.d d/\y=.d (ou k)/\kvs.length < 1000/\K.nx (δ.set i (ae (.odt (gA kvs k d)))) n2
theorem SN{xp sp:Pos}(hu:X.A.units+64 < Gr)(hN:X.N[i]?=ae x)(hj:DE X j tj wj)(he:DE X e te we)(hv:fH X.env.scope x:=by first|exact C7 rfl|exact Cc (C7 rfl)|exact Cc (Cc rfl))(hd:(x==("__debug__":Str))=aj:=by decide)
  (hcd:(x==("__classdict__":Str))=aj:=by decide) (hs:Da e (ae (.Subscript (.Name x xp) j sp)) pos.line X.env=pure aj:=by rfl):
  DS X (.Assign [.Subscript (.Name x xp) j sp] e pos) (uY (cC i) tj te) (yy i wj we):=
 ⟨EW ⋯ (fJ hN hv hd hcd) hj.pe he.pe hs,λC H B σ δ n K D R q E=>
  he.sd C H B σ δ n _ _ R q λu y H1 n1 R1 k1 r1 q1=>by
   obtain⟨kvs,ei,q1⟩:=q1;obtain⟨v,hv,a,l,rfl,e2,e3,e4,e5,e6⟩:=R1.sl i _ ei;refine⟨_,hv,hj.sd C H1 B σ δ n1 _ _ R1 q1 λw z H2 n2 R2 k2 r2 q2=>?_⟩;obtain⟨key,d,rfl,rfl,hl0,q2⟩:=q2;have hat:a≠C.t:=λz=>R.t0 (z▸e4);have e2':=k2 _ _ e2 hat;have r1':RdX H2 B u d:=RdX.kp k2 R1.bt r1;have e6':RdT H2 B l kvs:=e6.move λb o e n=>⟨k2 b o e λz=>n (z▸R1.bt),n⟩;have hl:l.length < 1000:=by rw[e6'.len];exact hl0
   cases(show RdX H2 B w (.tuple (key.map vD))from r2)with
   |@tup c zs _ i1 i2 i3 i4=>
    have ez:=xH i4;subst ez;refine⟨a,_,rfl,DPut.t e2' i1 (Bd hl (fh (Ao _))),?_⟩;refine E.nx _ _ _ _ _ (R2.mutOwn ei rfl hv e3 e4 ?_ rfl) q2;refine⟨a,_,rfl,bu,e3,e4,?_,?_⟩
    ·have:=pW l key u;omega
    ·exact(e6'.put r1' _).move λb o e n=>⟨by rw[aM λ(z:b=a)=>n (z▸e3)];exact e,n⟩⟩
end
section
variable{X:Cx}{a b e o i f:Expr}{ta tb te td ty:TE}{wa wb we wd' wy:DT}{pos p p2:Pos}{K:Ah}
def gZ(k:Int)(xs:List Ab):List Ab:=xs.zipIdx.map λq=>.tuple [.int (k+q.2),q.1]
theorem mB:(gZ k xs).length=xs.length:=by unfold gZ;rw[Ad,List.length_zipIdx]
theorem AI{i:Nat}(h:(gZ k xs)[i]?=ae d):∃x,xs[i]?=ae x/\d=.tuple [.int (k+i),x]:=by
 unfold gZ at h;rw[Ax,List.getElem?_zipIdx]at h;cases e:xs[i]? with
 |none=>rw[e]at h;cases h
 |some x=>
  rw[e]at h;refine⟨x,rfl,?_⟩;have:=Bc h;rw[<-this,Ek]
theorem mz:gZ k (x::xs)=.tuple [.int k,x]::gZ (k+1) xs:=by
 refine List.ext_getElem? λi=>?_;unfold gZ;cases i with
 |zero=>rw[List.zipIdx_cons,Bs,List.getElem?_cons_zero,List.getElem?_cons_zero,Int.natCast_zero,Int.add_zero]
 |succ i=>
  rw[List.getElem?_cons_succ,Ax,Ax,List.getElem?_zipIdx,List.getElem?_zipIdx,List.getElem?_cons_succ];cases xs[i]? with
  |none=>rfl
  |some y=>
   show ae (PyData.tuple [.int (k+(0+(i+1):Nat)),y])=ae (.tuple [.int (k+1+(0+i:Nat)),y]);have:k+(0+(i+1):Nat)=k+1+(0+i:Nat):=by omega
   rw[this]
def nJ(hs:List Str)(w:DT):DT:=λδ n Q=>w δ n λx n1=>∃a,x=.d a/\eI a=ai/\Q (.d (.bool !bI a (hs.map .str))) n1
theorem Oj(hl:∀h∈hs,h.length<=1000)(hq:∀H,SqT K H q (hs.map V.str))(h:ee ta wa):ee (dF (il K ai) ta (tC (.ref q))) (nJ hs wa):=λC H B σ δ n Q Q' R z k=>
 h C H B σ δ n _ _ R z λv x H1 n1 R1 k1 r1 q1=>by
  obtain⟨da,rfl,q1⟩:=q1;have r1:RdX H1 B v da:=r1;have rs:RdXs H1 B (hs.map V.str) (hs.map .str):=qA hl;refine⟨q,_,rfl,.inr (hq H1),kr r1 q1.1,ka rs ?_,k _ _ H1 n1 R1 k1 (wd (.bl _)) ?_⟩
  ·rw[List.all_map];exact Ez.mpr λ_ _=>rfl
  ·rw[lI r1 rs];exact q1.2
theorem RB{xp:Pos}(ha:DE X a ta wa)(hg:Gl X x)(hm:X.mg x=ae (.ref q))(hq:∀H,SqT K H q (hs.map V.str))(hl:∀h∈hs,h.length<=1000:=by decide +kernel)(hK:X.K=K:=by rfl)(hd:(x==("__debug__":Str))=aj:=by decide)
  (hmk:Cf .NotIn (Expr.Name x xp)=aj:=by with_unfolding_all rfl):DC X (.Compare a [.NotIn] [.Name x xp] pos) (jP (dF (il K ai) ta (tC (.ref q)))) (cT (nJ hs wa)):=
 ⟨jE (rq hK) ha.pe (ju hg hm rfl hd) hmk,kY (Oj hl hq ha.sd)⟩
end
section
variable{X:Cx}{e:Expr}{te:TE}{we:DT}{pos p:Pos}
def kX(w:kd):DT:=λδ n Q=>w δ n λkvs n1=>Q (.dk kvs) n1
theorem DN.d(h:DN X e te w):DE X e te (kX w):=⟨h.pe,λC H B σ δ n Q Q' R q k=>
 h.sd C H B σ δ n _ _ R q λa l kvs H' n' R' k' h0 h1 h2 h3 q1=>by
  refine k _ (.dk kvs) H' n' R' k' ⟨a,l,rfl,h1,λz=>?_,h3.move λb o e n=>⟨e,λz=>n (.inl z)⟩⟩ q1;obtain⟨_,_,q,_⟩:=R.tp.ob;rw[<-z,h0]at q;cases q⟩
abbrev o9(w:DT):DT:=kX (i8 w)
theorem TH(hh:X.A.handled=ah)(hg:Gl X "dict")(hm:X.mg "dict"=ah)(he:DE X e te we)(he':As [e] X.env=(aj,eval e X.env)::As [] X.env:=by rfl)(hpl:(Ct pos (As [] X.env)).any (·.1)=aj:=by rfl):DE X (.Call (.Name "dict" p) [e] [] pos) (fC yD (dA te bS)) (o9 we):=
 (CJ hh hg hm he ∅ he' hpl).d
end
section
variable{X:Cx}{e:Expr}{te:TE}{we:DT}{pos p2:Pos}{K:Ah}
def UA(w:DT):cj:=λδ n Q=>w δ n λx n1=>match x with
 |.d (.list ds)=>Q (!ds.isEmpty) n1
 |_=>False
def iO(w:DT)(l u:kl):DT:=λδ n Q=>w δ n λx n1=>l δ n1 λa n2=>u δ n2 λb n3=>match x with
 |.d (.list ds)=>Q (.d (.list (du ds a b))) n3
 |_=>False
theorem Oy(he:DE X e te we)(hl:DOp X lo tl wl)(hh:DOp X hi th wh)(hK:X.K=K:=by rfl):DE X (.Subscript e (.Slice lo hi ah p2) pos) (sV (o5 K) te tl th) (iO we wl wh):=by
 subst hK;refine⟨u9 FT he.pe hl.po hh.po,λC H B σ δ n Q Q' R q k=>he.sd C H B σ δ n _ _ R q λv x H1 n1 R1 k1 r1 q1=>
  hl.sd C H1 B σ δ n1 _ _ R1 q1 λa H2 n2 R2 k2 q2=>hh.sd C H2 B σ δ n2 _ _ R2 q2 λb H3 n3 R3 k3 q3=>?_⟩
 split at q3
 ·rename_i ds;have r3:RdX H3 B v (.list ds):=(r1.kp k2 R1.bt).kp k3 R2.bt;cases r3 with
  |@lst aa xs _ e1 e2 e3 e4=>
   have kk:=(k1.trans k2).trans k3;refine⟨aa,xs,rfl,SqL.of e1,λp hp=>?_⟩;refine k _ _ _ n3 (R3.new hp) (kk.trans (Kp.new hp)) (wd (show RdX _ B _ (.list (du ds a b))from .lst bu (R3.nb hp) (A9 (rA xs a b) e3) ?_)) q3;unfold du eW;rw[<-e4.len];exact(((e4.drop _).take _).fresh hp).less λb z=>.inl z
 ·exact q3.elim
end
end DL
namespace L2
open PySem PySem.Spec PyProof.Rows
def nT(K:Ah)(a:Addr):It:=
 ⟨λi H=>∃xs x,SqL K H a xs/\xs[i]?=ae x,
  λi H v H'=>∃T x,v=.ref T/\H T=ah/\H'=upd H T (.tup [.int i,x])/\∀xs,SqL K H a xs->xs[i]?=ae x,
  λi H=>∃xs,SqL K H a xs/\xs.length=i⟩
theorem L6{K:Ah}(h1:e≠it)(h2:a≠it)(h3:e≠a):Turn P w K (.Tuple elts kk pos) (nT K a) [e,it] e
  (λi h=>(∃old,IsEnum h e it i old)/\h.IsListIter it a i) where
 mem:=by simp
 obj:=λi h st c hc=>by
  obtain⟨⟨x,he⟩,⟨o1,e1,c1,d1⟩⟩:=st;simp only[Au,A1,or_false]at hc;rcases hc with rfl|rfl
  ·exact⟨_,he,λv q=>by have q':Data.fields _=Data.cell v:=q;cases q'⟩
  ·exact⟨o1,e1,λv q=>by rw[d1]at q;cases q⟩
 keep:=λi h h' st k=>⟨st.1.imp λ_ q=>k e (by simp) _ q,st.2.at λo q=>k it (by simp) o q⟩
 item:=by
  intro X hP hw hK hc i pins s σ H E I hf st hg;subst hP hw hK;obtain⟨⟨old,he⟩,hi⟩:=st;obtain⟨xs,x,qa,ex⟩:=hg;obtain⟨its,rv,p,_⟩:=I.list qa;obtain⟨u,hu,ru⟩:=rv.get ex;have hlt:i < its.toArray.size:=by simpa using(Av.mp hu).1
  have hef:e∉[it,a]:=λz=>by
   simp only[Au,A1,or_false]at z;exact z.elim h1 h3
  refine wpAny_pyNext_enum_itemD (Draws.list (A:=X.A.in1) (I.ok.hd hc) it a h2 its.toArray) he ⟨hi,p.isList⟩ hlt h1 hef λy h' tk a1 a2 a3 a4 a5 a6=>⟨_,rfl,?_⟩;obtain rfl:u=y:=by
   rw[List.getElem?_toArray,hu]at a1;cases a1;rfl
  refine wpAny_letOwnedTupleGo_enum (s:={ s with heap:=h',toks:=tk+1}) a2 λh'' b1 b2=>?_;have T:h''.get? s.heap.objs.size=ae {cls:=.type "tuple",data:=.seq #[.int i tk,u]}:=b2.extBut _ _ (D9 (Aq he)) a4;have Tn:H s.heap.objs.size=ah:=I.hok.fresh (Ao _);have kp:∀c o,c∉[e,it]->s.heap.get? c=ae o->h''.get? c=ae o:=λc o hc e=>by
   simp only[Au,A1,or_false,not_or]at hc;exact b2.extBut _ _ hc.1 (a6 c o hc.1 hc.2 e)
  refine⟨.ref s.heap.objs.size,upd H s.heap.objs.size (.tup [.int i,x]),I.many (t':=tk+1) hf kp (Ao _) ⟨by show 2<=Ay;decide,[.int i tk,u],.cons ⟨tk,rfl⟩ (.cons ru .nil),_,T,rfl,⟨_,rfl⟩,rfl⟩,rfl,⟨_,x,rfl,Tn,rfl,λzs q=>by rw[I.list_inj q qa];exact ex⟩,
   ⟨⟨u,by rw[show((i+1:Nat):Int)=(i:Int)+1 from rfl];exact b1⟩,a3.1.extBut b2.extBut h1.symm⟩,λc hc=>?_⟩
  have hlt:c < s.heap.objs.size:=by
   simp only[Au,A1,or_false]at hc;rcases hc with rfl|rfl
   ·exact Aq he
   ·obtain⟨_,e,_⟩:=hi;exact Aq e
  rw[aM (A5 hlt)];exact(hf c hc).1
 done:=by
  intro X hP hw hK hc i pins s σ H E I hf st hg;subst hP hw hK;obtain⟨⟨old,he⟩,hi⟩:=st;obtain⟨xs,hq,hx⟩:=hg;obtain⟨its,rv,p,_⟩:=I.list hq;have hl:=rv.length;have hs:its.toArray.size=i:=by simp;omega
  refine wpAny_pyNext_enum_endD (Draws.list (A:=X.A.in1) (I.ok.hd hc) it a h2 its.toArray) he (by rw[hs];exact⟨hi,p.isList⟩) λh' k=>⟨rfl,I.many0 (t':=s.toks) hf λc o hc e=>?_⟩;simp only[Au,A1,or_false,not_or]at hc;exact k c o hc.2 e
 self:=λ_ _ _ _ _ st h=>wpAny_pyIter_enum st.1.choose_spec h
def CM(K:Ah)(ta:TA):TI:=λσ H R=>ta σ H λvs H1=>∃a,vs=[.ref a]/\((∃xs,SqT K H1 a xs)/\R (yg K a) H1\/(∃xs,SqL K H1 a xs)/\R (nT K a) H1)
theorem Ma(hg:Gl X "enumerate")(hm:X.mg "enumerate"=ah)(ha:PA X [e1] ta)(hs:As [e1] X.env=[(aj,eval e1 X.env)]:=by rfl):
  PI X (.Tuple elts kk tpos) (.Call (.Name "enumerate" p) [e1] [] pos) (CM X.K ta):=by
 intro pins s σ H R I h;refine Call_ (mn I hg hm boot_enumerate (E4 (aP (ha pos pins s σ H _ I h) λus s1 ⟨vs,H1,I1,r1,q1⟩=>?_) (by rw[hs];rfl) rfl));obtain⟨a,e,q⟩:=q1;subst e;cases r1 with
 |cons r rr=>
  cases rr;cases r;have fp:∀c∈[s1.heap.objs.size+1,s1.heap.objs.size],s1.heap.objs.size<=c:=λc hc=>by
   simp only[Au,A1,or_false]at hc;rcases hc with rfl|rfl<;>omega
  rcases q with⟨⟨xs,qa⟩,q⟩|⟨⟨xs,qa⟩,q⟩
  ·obtain⟨its,rv,pp,_⟩:=I1.tuple qa;have la:a < s1.heap.objs.size:=by obtain⟨_,e,_⟩:=id pp;exact Aq e
   refine Nw (show s1.heap.IsTuple a its.toArray from pp) λh' a1 a2 a3=>wpAny_pyIter_enum (s:={ s1 with heap:=h'}) a1 ?_;exact⟨_,_,_,_,H1,rfl,I1.kept (t':=s1.toks) a3,L4 (Nat.succ_ne_self _) (A5 la) (D9 (Dk la)),⟨⟨_,a1⟩,a2⟩,λc hc=>I1.fpOk (fp c hc) (I1.hok.fresh (fp c hc)),q⟩
  ·obtain⟨its,rv,pp,_⟩:=I1.list qa;have la:a < s1.heap.objs.size:=by obtain⟨_,e,_⟩:=pp.isList;exact Aq e
   refine call_enumerate_list pp.isList λh' a1 a2 _ a3=>wpAny_pyIter_enum (s:={ s1 with heap:=h'}) a1 ?_;exact⟨_,_,_,_,H1,rfl,I1.kept (t':=s1.toks) a3,L6 (Nat.succ_ne_self _) (A5 la) (D9 (Dk la)),⟨⟨_,a1⟩,a2⟩,λc hc=>I1.fpOk (fp c hc) (I1.hok.fresh (fp c hc)),q⟩
end L2
namespace DL
open PySem L2 Nb
section
variable{X:Cx}{a:Expr}{ta:TE}{wa:DT}{pos p:Pos}{K:Ah}
def k9(w:DT):gJ:=λδ n Q=>w δ n λx n1=>∃xs,(x=.d (.tuple xs)\/x=.d (.list xs))/\Q (gZ 0 xs) n1
theorem N9{elts:List Expr}{kk:Nat}{tpos:Pos}(hg:Gl X "enumerate")(hm:X.mg "enumerate"=ah)(ha:DE X a ta wa)(hK:X.K=K:=by rfl)(hs:As [a] X.env=[(aj,eval a X.env)]:=by rfl)(he1:As [a] X.env=(aj,eval a X.env)::As [] X.env:=by rfl):
  DI X (.Tuple elts kk tpos) (.Call (.Name "enumerate" p) [a] [] pos) (CM K (dA ta bS)) (k9 wa):=by
 subst hK;refine⟨Ma hg hm (b9 ha.pe dH he1) hs,λC H B σ δ n Q Q' R q k=>ha.sd C H B σ δ n _ _ R q λv x H1 n1 R1 k1 r1 q1=>?_⟩;obtain⟨xs,rfl|rfl,q2⟩:=q1
 ·cases(show RdX H1 B v (.tuple xs)from r1)with
  |@tup aa vs _ e1 e2 e3 e4=>
   refine⟨aa,rfl,.inl ⟨⟨vs,SqT.of e1⟩,k _ (gZ 0 xs) H1 n1 R1 k1 (λfz th=>?_) q2⟩⟩;have za:fz aa=ae (.tup vs):=th.2 _ _ e1 e2;refine⟨by rw[mB,<-e4.len];exact e3,λi H hH hi=>?_,λH hH=>?_,λi H x H' d hH hd hy=>?_⟩
   ·rw[mB]at hi;have h1:i < vs.length:=by rw[e4.len];exact hi
    exact⟨vs,vs[i],SqT.of (hH _ _ za),Al h1⟩
   ·exact⟨vs,SqT.of (hH _ _ za),by rw[mB,e4.len]⟩
   ·obtain⟨T,x1,rfl,hT,rfl,hx⟩:=hy;refine⟨λb o e=>by rw[aM (bO e hT)];exact e,λB' hB hBa=>?_⟩;obtain⟨y,hy,rfl⟩:=AI hd;obtain⟨u1,hu1,ru1⟩:=e4.getD hy;have t1:=hx _ (SqT.of (hH _ _ za));rw[hu1]at t1;cases t1;have mv:∀b o,H1 b=ae o->¬B b->upd H T (.tup [.int i,x1]) b=ae o/\¬B' b:=λb o e ne=>by
     have:=hH _ _ (th.2 _ _ e ne);exact⟨by rw[aM (bO this hT)];exact this,hB _ _ (th.2 _ _ e ne)⟩
    rw[Int.zero_add];exact .tup bu (λz=>hBa T z hT) (by show 2<=Ay;decide) (.cons (.int _) (.cons (ru1.move mv) .nil))
 ·cases(show RdX H1 B v (.list xs)from r1)with
  |@lst aa vs _ e1 e2 e3 e4=>
   refine⟨aa,rfl,.inr ⟨⟨vs,SqL.of e1⟩,k _ (gZ 0 xs) H1 n1 R1 k1 (λfz th=>?_) q2⟩⟩;have za:fz aa=ae (.lst vs):=th.2 _ _ e1 e2;refine⟨by rw[mB,<-e4.len];exact e3,λi H hH hi=>?_,λH hH=>?_,λi H x H' d hH hd hy=>?_⟩
   ·rw[mB]at hi;have h1:i < vs.length:=by rw[e4.len];exact hi
    exact⟨vs,vs[i],SqL.of (hH _ _ za),Al h1⟩
   ·exact⟨vs,SqL.of (hH _ _ za),by rw[mB,e4.len]⟩
   ·obtain⟨T,x1,rfl,hT,rfl,hx⟩:=hy;refine⟨λb o e=>by rw[aM (bO e hT)];exact e,λB' hB hBa=>?_⟩;obtain⟨y,hy,rfl⟩:=AI hd;obtain⟨u1,hu1,ru1⟩:=e4.getD hy;have t1:=hx _ (SqL.of (hH _ _ za));rw[hu1]at t1;cases t1;have mv:∀b o,H1 b=ae o->¬B b->upd H T (.tup [.int i,x1]) b=ae o/\¬B' b:=λb o e ne=>by
     have:=hH _ _ (th.2 _ _ e ne);exact⟨by rw[aM (bO this hT)];exact this,hB _ _ (th.2 _ _ e ne)⟩
    rw[Int.zero_add];exact .tup bu (λz=>hBa T z hT) (by show 2<=Ay;decide) (.cons (.int _) (.cons (ru1.move mv) .nil))
end
end DL
namespace L2
open PySem PySem.Spec PyProof.Rows
def fm(n:Nat):List V:=(Bi n).map λi=>V.int ((i:Nat):Int)
theorem si:∀{l:List Nat},(∀i∈l,RelV (f i) (g i))->Vals (l.map f) (l.map g)
 |[],_=>.nil
 |i::r,h=>.cons (h i A0) (si λj hj=>h j (Aw _ hj))
theorem SJ{n:Nat}(hh:A.handled=ah)(hr:IsRange s.heap r a b c t u v)(hs:Builtin.Range.small a b c=ai)(hn:Fs a b c=(n:Int))(hl:n<=2 ^ 24)(hS:s.heap.get? S=ae {cls:=.type "list",data:=.seq #[]})
  (h:∀(h':Heap)(tk:Nat)(acc:Array Af)(c':Nat),(∀(b:Addr)(o:Obj),b≠S->s.heap.get? b=ae o->h'.get? b=ae o)->h'.get? S=ae {cls:=.type "list",data:=.seq acc c'}->ItemsOf (λi v=>∃t,v=.int (a+(i:Int)*c) t) acc n->R (.ok (.ret (.ref S))) {s with heap:=h',toks:=tk}):F7 (A6 prog w) A (Code.builtin "list.__iadd__" ⟨[.ref S,.ref r],[]⟩) R s:=by
 refine Dd F.entry_list_iadd ?_;rw[Ck F.plain_list_iadd];exact wpAny_extend_range hh hr hs hn hl S (.ref S) 0 hS h
theorem Qk{n:Nat}(hh:A.handled=ah)(hr:IsRange s.heap r a b c t u v)(hs:Builtin.Range.small a b c=ai)(hn:Fs a b c=(n:Int))(hl:n<=2 ^ 24)
  (h:∀(h':Heap)(tk:Nat)(acc:Array Af),(∀(b:Addr)(o:Obj),s.heap.get? b=ae o->h'.get? b=ae o)->ItemsOf (λi v=>∃t,v=.int (a+(i:Int)*c) t) acc n->Q acc.toList {s with heap:=h',toks:=tk}):A2 (A6 prog w) A (collect (.ref r)) Q E s:=by
 unfold collect;refine Aa (wpAny_runValue (Dd F.entry_proto_collect ?_));rw[Ck F.plain_proto_collect];refine Aa (Bx (Aj ⟨E3 F.plain_list_iadd _,SJ hh (Ae _ hr) hs hn hl (Az s.heap rfl) λh' tk acc c' hk hS hI=>?_⟩));refine Aa (wpAny_load hS ?_);exact Aj (h h' tk acc (λb o e=>hk b o (A5 (Aq e)) (Ae _ e)) hI)
theorem Q5{n:Nat}(hh:A.handled=ah)(hr:IsRange s.heap r a b c t u v)(hs:Builtin.Range.small a b c=ai)(hn:Fs a b c=(n:Int))(hl:n<=1000)
  (h:∀(h':Heap)(tk:Nat)(acc:Array Af),(∀(b:Addr)(o:Obj),s.heap.get? b=ae o->h'.get? b=ae o)->ItemsOf (λi v=>∃t,v=.int (a+(i:Int)*c) t) acc n->Q (.ref h'.objs.size) {s with heap:=h'.push {cls:=.type "tuple",data:=.seq acc},toks:=tk}):A2 (A6 prog w) A (call (.type "tuple") [.ref r]) Q E s:=by
 refine callType_codes (Q₁:=λv s₁=>s₁.TypeIs v "tuple"/\Q v s₁) F.called_tuple (F.typeCall_tuple_1 (.ref r)) F.entry_object_init ?_ λobj s₁ h₁=>⟨h₁.1,F.args_object_init_2 obj (.ref r),object_init_meets F.called_tuple.init.lookup F.called_tuple.made ∎ prog w A.in1 _ s₁ ⟨h₁.1,rfl,h₁.2⟩⟩;refine codeAny_of_tree ?_;refine Aa (Fg (F.newCall_tuple_1 (.ref r)) (Aj ⟨E3 F.plain_tuple_new _,Dd F.entry_tuple_new ?_⟩));rw[Ck F.plain_tuple_new];unfold D7.«tuple.__new__»;refine Aa (Aj ?_);refine Fp (by rfl) ?_;refine Aa (Fg sub_tuple_self ?_);refine Fp (by rfl) ?_;refine Fp (by rfl) ?_;refine Aa (Fg madeHere_tuple ?_);refine Aa (Fg init_tuple_lookup ?_);refine wpAny_ite_true (by rfl) ?_;refine Aa ?_;refine wpAny_ite_true (by rfl) ?_;refine Aj (Aa ?_);unfold checkCount;refine Fp (by rfl) ?_;refine Fp (by rfl) ?_;refine Fp (by rfl) ?_;refine Aj ?_;refine wpAny_ite_true (by rfl) ?_;refine Aa ?_;refine Aa (Fi (T:="range") ⟨_,hr,rfl⟩ (Aj ?_));refine Fp (by rfl) ?_;refine Aa (Qk hh hr hs hn ⋯ λh' tk acc hk hI=>?_);refine Aa (Aj ?_);refine Aa ?_;refine Bx ?_ ?_
 ·exact Aj ⟨⟨_,Az _ rfl,rfl⟩,h h' tk acc hk hI⟩
 show acc.size<=Ay;rw[hI.1,Eh];omega
def Ho:List V->Hp->VK->Prop:=λxs H Q=>∃j:Int,xs=[.int j]/\∀D,H D=ah->Q (.ref D) (upd H D (.rng 0 j))
theorem Kv:CallR X (.type "range") Ho:=by
 intro pins s σ H xs us Q I r h;obtain⟨j,rfl,q⟩:=h;obtain⟨u,rfl,ru⟩:=gS r;obtain⟨t,rfl⟩:=ru;refine call_range_1 ⟨.ref s.heap.objs.size,_,I.laid (t':=s.toks+1+1) (o:=.rng 0 j) (λb o e=>Ae _ e) (Ao _) ⟨_,_,_,Az _ rfl⟩,rfl,q _ I.fresh⟩
def Mv:List V->Hp->VK->Prop:=λxs H Q=>∃(a:Addr)(j:Nat),xs=[.ref a]/\H a=ae (.rng 0 j)/\j<=1000/\∀D,H D=ah->Q (.ref D) (upd H D (.lst (fm j)))
theorem Uv(hh:X.A.handled=ah):CallR X (.type "list") Mv:=by
 intro pins s σ H xs us Q I r h;obtain⟨a,j,rfl,ha,hj,q⟩:=h;obtain⟨u,rfl,ru⟩:=gS r;cases(show u=A3 a from ru);obtain⟨t,u,v,e⟩:=I.hok a _ ha;have p62:(2:Int)^62=4611686018427387904:=by decide
 have p24:(2:Nat)^24=16777216:=by decide
 refine call_list_range (n:=j) hh e (small_one ⋯ ⋯ ⋯ ⋯) (by rw[rangeSize_one];split<;>omega) ⋯ λh' tk acc c k hL hI=>?_;refine⟨.ref s.heap.objs.size,_,I.laid (t':=tk) (h':=h') (o:=.lst (fm j)) k (Ao _) ⟨?_,acc.toList,c,?_,by simpa using hL⟩,rfl,q _ I.fresh⟩
 ·unfold fm;rw[Ad,Cr];exact fh ⋯
 ·have:acc.toList=(Bi j).map λi=>acc.toList.getD i .none:=by
   apply Ey (by simp[hI.1]);intro i h1 h2;simp at h1;simp[h1]
  rw[this];refine si λi hi=>?_;have hi:=Ci.mp hi;have hi2:i < acc.size:=by rw[hI.1];exact hi
  obtain⟨t,e⟩:=hI.2 i acc[i] (Cm hi2);refine⟨t,?_⟩;simp[hi2,e]
def Hw:List V->Hp->VK->Prop:=λxs H Q=>∃(a:Addr)(j:Nat),xs=[.ref a]/\H a=ae (.rng 0 j)/\j<=1000/\∀D,H D=ah->Q (.ref D) (upd H D (.tup (fm j)))
theorem JC(hh:X.A.handled=ah):CallR X (.type "tuple") Hw:=by
 intro pins s σ H xs us Q I r h;obtain⟨a,j,rfl,ha,hj,q⟩:=h;obtain⟨u,rfl,ru⟩:=gS r;cases(show u=A3 a from ru);obtain⟨t,u,v,e⟩:=I.hok a _ ha;have p62:(2:Int)^62=4611686018427387904:=by decide
 refine Q5 (n:=j) hh e (small_one ⋯ ⋯ ⋯ ⋯) (by rw[rangeSize_one];split<;>omega) hj λh' tk acc k hI=>?_;have I1:Inv X pins σ H {s with heap:=h',toks:=tk}:=I.kept (t':=tk) k;have I2:Inv X pins σ (upd H h'.objs.size (.tup (fm j))) {s with heap:=h'.push {cls:=.type "tuple",data:=.seq acc},toks:=tk}:=
  I1.laid (t':=tk) (λb o e=>Ae _ e) (Ao _) (show ObjOk X.prog X.w _ _ _ (.tup (fm j))from⟨?_,acc.toList,?_,IsTupP.new _ _⟩)
 ·exact⟨.ref h'.objs.size,_,I2,rfl,q _ (I1.hok.fresh (Ao _))⟩
 ·unfold fm;rw[Ad,Cr];exact fh ⋯
 ·have:acc.toList=(Bi j).map λi=>acc.toList.getD i .none:=by
   apply Ey (by simp[hI.1]);intro i h1 h2;simp at h1;simp[h1]
  rw[this];refine si λi hi=>?_;have hi:=Ci.mp hi;have hi2:i < acc.size:=by rw[hI.1];exact hi
  obtain⟨t,e⟩:=hI.2 i acc[i] (Cm hi2);refine⟨t,?_⟩;simp[hi2,e]
end L2
namespace DL
open PySem L2 Nb
section
variable{X:Cx}{a o:Expr}{ta td:TE}{wa wd':DT}{pos p p2 p3 xp:Pos}{K:Ah}{x:Str}{q:Addr}{D:List (Str×Str)}
def DB(n:Nat):List Ab:=(Bi n).map λi=>.int ((i:Nat):Int)
theorem z0{g:Nat->Int}:∀{l:List Nat},RdXs H B (l.map λi=>V.int (g i)) (l.map λi=>.int (g i))
 |[]=>.nil
 |_::_=>.cons (.int _) z0
theorem OB(h:j<=1000):(fm j).length<=Ay:=by
 unfold fm;rw[Ad,Cr];exact fh h
def wQ(w:DT):DT:=λδ n Q=>w δ n λx n1=>∃j:Nat,x=.d (.int j)/\j<=1000/\Q (.d (.tuple (DB j))) n1
theorem OF(hh:X.A.handled=ah)(hg:Gl X "tuple")(hm:X.mg "tuple"=ah)(hg2:Gl X "range")(hm2:X.mg "range"=ah)(ho:DE X o td wd')
  (he':As [o] X.env=(aj,eval o X.env)::As [] X.env:=by rfl) (hpl:(Ct p3 (As [] X.env)).any (·.1)=aj:=by rfl)
  (he2:As [.Call (.Name "range" p2) [o] [] p3] X.env=(aj,eval (.Call (.Name "range" p2) [o] [] p3) X.env)::As [] X.env:=by rfl) (hpl2:(Ct pos (As [] X.env)).any (·.1)=aj:=by rfl):
  DE X (.Call (.Name "tuple" p) [.Call (.Name "range" p2) [o] [] p3] [] pos) (fC Hw (dA (fC Ho (dA td bS)) bS)) (wQ wd'):=by
 refine⟨mK (JC hh) hg hm Hu (b9 (mK Kv hg2 hm2 PyProof.Rows.boot_range (b9 ho.pe dH he') ∎ ∎ he' hpl) dH he2) ∎ ∎ he2 hpl2,λC H B σ δ n Q Q' R q k=>
  ho.sd C H B σ δ n _ _ R q λv x H1 n1 R1 k1 r1 q1=>?_⟩
 obtain⟨j,rfl,hj,kq⟩:=q1;cases(show RdX H1 B v (.int j)from r1);refine⟨j,rfl,λD hD=>⟨D,j,rfl,bu,hj,λD2 hD2=>?_⟩⟩;have k2:=k1.trans (Kp.new (o:=.rng 0 (j:Int)) hD);have R2:=R1.new (o:=.rng 0 (j:Int)) hD;exact k _ _ _ n1 (R2.new hD2) (k2.trans (Kp.new hD2)) (wd (show RdX _ B _ (.tuple (DB j))from .tup bu (R2.nb hD2) (OB hj) z0)) kq
def o6(D:List (Str×Str))(w:DT):DT:=λδ n Q=>w δ n λx n1=>match x with
 |.d (.str k)=>Q (.d (.bool !(Bb k D).isSome)) n1
 |_=>False
def yh(K:Ah):R2:=λx y H Q=>∃k q D,x=.str k/\y=.ref q/\gC K q D/\Q (.bl !(Bb k D).isSome) H
theorem SA:OpR X (B3 .NotIn) (yh X.K):=by
 intro pins s σ H x y v u Q I rx ry h;obtain⟨k,q,D,rfl,rfl,hT,hq⟩:=h;obtain⟨t,rfl⟩:=rx;cases ry;refine PyProof.Rows.KTD.notin_text (zJ I hT) ?_;rw[CH];exact⟨.bl _,H,I.kept (t':=s.toks+1) λ_ _ e=>e,rfl,hq⟩
theorem Jk(ha:DE X a ta wa)(hg:Gl X x)(hm:X.mg x=ae (.ref q))(hq:gC K q D)(hK:X.K=K:=by rfl)(hd:(x==("__debug__":Str))=aj:=by decide)
  (hmk:Cf .NotIn (Expr.Name x xp)=aj:=by with_unfolding_all rfl):DC X (.Compare a [.NotIn] [.Name x xp] pos) (jP (dF (yh K) ta (tC (.ref q)))) (cT (o6 D wa)):=by
 subst hK;refine⟨jE SA ha.pe (ju hg hm rfl hd) hmk,kY λC H B σ δ n Q Q' R z k=>ha.sd C H B σ δ n _ _ R z λv x H1 n1 R1 k1 r1 q1=>?_⟩
 split at q1
 ·rename_i key;cases(show RdX H1 B v (.str key)from r1);exact⟨key,q,D,rfl,rfl,hq,k _ _ H1 n1 R1 k1 (wd (.bl _)) q1⟩
 ·exact q1.elim
end
section
variable{X:Cx}{K:Ah}
structure SmlA(d:Ab):Prop where
 lay:PyData.canLay0 d=ai
 dep:PyData.depth d<=20
 shw:Gz d=ai
 len:d.shown.length<=Ay
def GF(K:Ah):List V->Hp->VK->Prop:=λxs H Q=>∃x d,xs=[x]/\RdD K H x d/\SmlA d/\Q (.str d.shown) H
theorem Sy(hg:X.A.guards=ae [])(hu:X.A.units+64 < Gr)(hK:X.K=K:=by rfl):CallR X (.builtin "repr") (GF K):=by
 subst hK;intro pins s σ H xs us Q I r h;obtain⟨x,d,rfl,hd,hs,q⟩:=h;obtain⟨u,rfl,ru⟩:=gS r;have hsh:=hs.shw;have hln:=hs.len;cases hd with
 |non=>
  cases(show u=Bh from ru);exact P.repr_of_none ⟨.str _,H,I.tok _,⟨_,rfl⟩,q⟩
 |bl b=>
  cases(show u=Value.bool b from ru);exact P.repr_of_bool ⟨.str _,H,I.tok _,⟨_,rfl⟩,by cases b<;>exact q⟩
 |int i=>
  obtain⟨t,rfl⟩:=(show ∃t,u=Value.int i t from ru);exact P.repr_of_int (of_decide_eq_true hsh) ⟨.str _,H,I.tok _,⟨_,rfl⟩,q⟩
 |str y=>
  obtain⟨t,rfl⟩:=(show ∃t,u=F8 y t from ru);exact P.repr_of_str ⟨.str _,H,I.tok _,⟨_,rfl⟩,q⟩ hln
 |@lst a _ _ h1 h2=>
  cases(show u=A3 a from ru);obtain⟨as,hr⟩:=RdD.reads I (RdD.lst h1 h2) (show RelV (.ref a) (A3 a)from rfl);have hdp:=hs.dep;refine repr_of_reads' hr hsh (PyData.noDict_hsm (PyData.hasDict_of_canLay _ hs.lay)) hg ⋯ (λ_ _ e=>e) (λh' u tk hk=>?_) hln;exact⟨.str _,H,I.kept hk,⟨u,rfl⟩,q⟩
 |@tup a _ _ h1 h2=>
  cases(show u=A3 a from ru);obtain⟨as,hr⟩:=RdD.reads I (RdD.tup h1 h2) (show RelV (.ref a) (A3 a)from rfl);have hdp:=hs.dep;refine repr_of_reads' hr hsh (PyData.noDict_hsm (PyData.hasDict_of_canLay _ hs.lay)) hg ⋯ (λ_ _ e=>e) (λh' u tk hk=>?_) hln;exact⟨.str _,H,I.kept hk,⟨u,rfl⟩,q⟩
def qU:List Wv->Int->DQ->Prop:=λxs n Q=>match xs with
 |[.d d]=>SmlA d/\Q (.d (.str d.shown)) n
 |_=>False
theorem JM:eZ (GF K) qU:=λC H B σ δ n vs xs Q Q' R r h k=>by
 unfold qU at h
 split at h
 ·rename_i d;cases r with
  |cons r1 r2=>
   cases r2;have r1:RdX H B _ d:=r1;exact⟨_,d,rfl,r1.rd,h.1,k _ _ H n R (Kp.refl _ _) (wd (show RdX H B _ (.str _)from .str _ h.1.len)) h.2⟩
 ·exact h.elim
end
end DL
namespace Nb
open PySem L2
abbrev tx(d:Ab):List Nat:=(PyData.shown d).cps.toList
def kP(e:List Nat):Prop:=∃r,e=93::r\/e=41::r\/e=44::41::r
def knd:Ab->Nat
 |.none=>0
 |.bool ai=>1
 |.bool aj=>2
 |.int _=>3
 |.str _=>4
 |.list _=>5
 |.tuple _=>6
 |.dict _=>7
end Nb
namespace L2
open PySem PySem.Spec PyProof.Rows
section
variable{prog:A7}{w:Bk}{A:Bu}{E:Af->Ai->Prop}{h:Heap}{g:Array GenState}{d:Drawn}{t:Nat}{os:OsState}
variable{nm q:Str}{C N:Addr}{bs bm bmB:List Af}{hdct:Bool}{sn:List Str}{sub:List Af}{ab:Bool}{col:Option Bool}{dd:Option Addr}{k0 k1 k2 k3 k5:Option Af}{B newId initId:String}
theorem NB(F:ExcBaseFacts B newId initId bmB)(T:OwnTail h bmB bm){K:Ah}{rest:List Af}
  (hC:h.get? C=ae (Et nm q C N bs bm hdct sn sub ab col dd k0 k1 k2 k3 k5 newId)) (X:K.In h) (hi:Co K (.ref C) "__init__"=ae (ae (.ref fI)))
  (hfI:h.get? fI=ae oI) (hfc:oI.cls=.type "function")
  (hq:∀h' e,Heap.MadeExcOf h h' e (.ref C) rest->e=h.objs.size+1->
   A2 (A6 prog w) A (call (.ref fI) (.ref e::rest)) (λr s'=>r=.none/\Q (.done (.ret (.ref e))) s') E ⟨h',g,d,t,os⟩) (hrest:rest.length<=Ay):
  A2 (A6 prog w) A (D7.«type.__call__» ⟨.ref C::rest,[]⟩) Q E ⟨h,g,d,t,os⟩:=by
 repeat (first|with_reducible refine Er hC ?_|with_reducible refine wpAny_madeBy_exc hC ?_|wp_step)
 refine codeAny_call_builtin_code (Code.quiet_builtin _ F.quiet) (wpAny_check_new_subT F T hC ?_);refine codeAny_exc_new_subT F T hC ?_ hrest;show A2 _ _ _ _ _ _;have hC₁:=Ae {cls:=.ref C,data:=.fields #[.ref h.objs.size,.none,.none,.none,.bool aj,.none]}
  (Ae {cls:=.type "tuple",data:=.seq rest.toArray} hC)
 have hfI₁:=Ae {cls:=.ref C,data:=.fields #[.ref h.objs.size,.none,.none,.none,.bool aj,.none]}
  (Ae {cls:=.type "tuple",data:=.seq rest.toArray} hfI)
 have X₁:=X.keeps (h':=(h.push {cls:=.type "tuple",data:=.seq rest.toArray}).push {cls:=.ref C,data:=.fields #[.ref h.objs.size,.none,.none,.none,.bool aj,.none]}) λb o e=>Ae _ (Ae _ e);have hget:((h.push {cls:=.type "tuple",data:=.seq rest.toArray}).push
   { cls:=.ref C,data:=.fields #[.ref h.objs.size,.none,.none,.none,.bool aj,.none]}).get? (h.objs.size+1)=ae
   { cls:=.ref C,data:=.fields #[.ref h.objs.size,.none,.none,.none,.bool aj,.none]}:=by heap_get
 have hcC:(A3 C::bm).contains (.ref C)=ai:=by simp
 unfold isInstance
 repeat (first|with_reducible refine Er hget ?_|(with_reducible refine Hh hC₁ ?_;rw[hcC])|wp_step)
 show A2 _ _ (typeLookup (.ref C) _) _ _ _;refine(PySem.W.looks_findIn X₁ hi).at ?_;refine Ce (Aa ?_);unfold bindSpecial;refine Aa (Fi (T:="function") ⟨_,hfI₁,hfc⟩ ?_);rw[if_pos ∎];refine Aj (Aa (B4 (hq _ (h.objs.size+1) ⟨λb o hb=>Ae _ (Ae _ hb),G3 (Dm _),h.objs.size,hget,G3 (Ao _),?_⟩ rfl) (λr s' hr=>?_) λ_ _ x=>x))
 ·exact Ae _ (Heap.get?_push_at rfl rfl)
 ·obtain⟨rfl,hQ⟩:=hr
  wp_walk
  exact hQ
theorem QJ(F:ExcBaseFacts B newId initId bmB)(T:OwnTail h bmB bm){K:Ah}{rest:List Af}
  (hC:h.get? C=ae (Et nm q C N bs bm hdct sn sub ab col dd k0 k1 k2 k3 k5 newId)) (X:K.In h) (hi:Co K (.ref C) "__init__"=ae (ae (.ref fI)))
  (hfI:h.get? fI=ae oI) (hfc:oI.cls=.type "function")
  (hq:∀h' e,Heap.MadeExcOf h h' e (.ref C) rest->e=h.objs.size+1->
   A2 (A6 prog w) (A.under (.builtin "type.__call__" ⟨.ref C::rest,[]⟩)) (call (.ref fI) (.ref e::rest)) (λr s'=>r=.none/\Q (.ref e) s') E ⟨h',g,d,t,os⟩) (hrest:rest.length<=Ay):
  A2 (A6 prog w) A (call (.ref C) rest) Q E ⟨h,g,d,t,os⟩:=by
 have f1:=tc_lookup;have f2:=tc_bind (.ref C);have hT:(⟨h,g,d,t,os⟩:Ai).TypeIs (.ref C) "type":=⟨_,hC,rfl⟩;refine G7 (codeAny_of_tree ?_);show A2 _ _ (callAny (.ref C) _) _ _ _
 repeat (any_goals (first|assumption|with_reducible refine Er hC ?_|wp_step))
 refine⟨rfl,?_⟩;refine codeAny_call_builtin_at (Code.quiet_builtin _ ∅) entry_typeCall (wpAny_check_type_call_sub hC (NB (hrest:=hrest) F T hC X hi hfI hfc λh' e hm he=>?_));exact hq h' e hm he
end
abbrev jW(t:Addr):Data:=.fields #[.ref t,.none,.none,.none,.bool aj,.none]
section
variable{prog:A7}{w:Bk}{A:Bu}{E:Af->Ai->Prop}{h:Heap}{g:Array GenState}{d:Drawn}{t:Nat}{os:OsState}
variable{nm q:Str}{C N e t0:Addr}{bs bm bmB:List Af}{hdct:Bool}{sn:List Str}{sub:List Af}{ab:Bool}{col:Option Bool}{dd:Option Addr}{k0 k1 k2 k3 k5:Option Af}{B newId initId:String}
theorem Sx(F:ExcBaseFacts B newId initId bmB)(T:OwnTail h bmB bm){rest:List Af}
  (hC:h.get? C=ae (Et nm q C N bs bm hdct sn sub ab col dd k0 k1 k2 k3 k5 newId)) (he:h.get? e=ae {cls:=.ref C,data:=jW t0})
  (hq:∀h',(∀b o,b≠e->h.get? b=ae o->h'.get? b=ae o)->h'.get? e=ae {cls:=.ref C,data:=jW h.objs.size}->h.get? h.objs.size=ah->h.objs.size<=h'.objs.size->Q .none ⟨h',g,d,t,os⟩) (hrest:rest.length<=Ay):
  A2 (A6 prog w) A (call (.builtin initId) (.ref e::rest)) Q E ⟨h,g,d,t,os⟩:=by
 refine G7 (Hb F.init.plain F.initEntry (wpAny_check_init_subT F T hC he rfl ?_));have hlt:=Aq he
 wp_walk
 refine hq _ (λb o hbe hb=>?_) ?_ (G3 (Ao _)) ?_
 ·rw[Dh _ _ (Ne.symm hbe)];exact Ae _ hb
 ·rw[Bt _ (Ae _ he) rfl];rfl
 ·simp only[Heap.size_update,Ca];omega
end
end L2
namespace L2
open PySem PySem.Spec PyProof.Rows PySem.W Builtin Builtin.ObjectAttr
abbrev ib:List Af:=[.type "ValueError",.type "Exception",.type "BaseException",.type "object"]
section
variable{prog:A7}{w:Bk}{A:Bu}{E:Af->Ai->Prop}{s:Ai}{K:Frag}{C C0 x:Addr}{vs:Array Af}{sl:Array (Option Af)}{name:Str}{v:Af}{cd:ClassData}{Q:Unit->Ai->Prop}
theorem vN(X:K.In s.heap)(hx:s.heap.get? x=ae ⟨.ref C,ah,.fields vs,sl⟩)(hs:findIn K (.ref C) "__setattr__"=ae (ae (.builtin "object.__setattr__")))
  (hc:clsIn K C=ae cd) (hm:cd.mro=.ref C::.ref C0::ib) (hd:cd.hasDict=ai) (ht:findIn K (.ref C) name=ae ah)
  (hq:∀h',(∀b o,b≠x->s.heap.get? b=ae o->h'.get? b=ae o)->h'.get? x=ae ⟨.ref C,ae s.heap.objs.size,.fields vs,sl⟩->h'.Ns1 s.heap.objs.size (λy=>if y=name then ae v else ah)->
   Q () {s with heap:=h',toks:=s.toks+2}):
  A2 (A6 prog w) A (setAttr (.ref x) name v) Q E s:=by
 have J:InstAt s.heap x ⟨.ref C,ah,.fields vs,sl⟩ C ah:=⟨hx,rfl,rfl,trivial⟩;have SF:=PySem.F.store_object;refine set_plain X J hs ?_;have ne:cd.mro.isEmpty=aj:=by rw[hm];rfl
 have sub:Looks (A6 prog w) s.heap (isInstance (.ref x) (.type "object")) ai:=J.type.andThen (looks_mroIn X (by unfold mroIn;rw[hc,Option.bind_some,if_neg (by rw[ne];decide),hm];rfl));refine Hb SF.slot.plain SF.entry (@check_slot (A6 prog w) _ _ {s with toks:=s.toks+1} "object.__setattr__" "object" "__setattr__" (.ref x) [.str name s.toks,v] [] _ SF.kind SF.split sub (SF.args (.ref x) (.str name s.toks) v) ?_);have hmr:Looks (A6 prog w) s.heap (mroOf (.ref C)) cd.mro:=(looks_clsIn X hc).andThen .now;rw[osa_eq,refuse_eq];refine Aa (Aa (J.type.here (s:={ s with toks:=s.toks+1}) (Aa (hmr.here (s:={ s with toks:=s.toks+1}) ?_))));rw[hm,refuseLoop_ref,refuseLoop_ref,PySem.F.store_ValueError.passes];refine Aj (Aa (J.type.here (s:={ s with toks:=s.toks+1}) (Aa ((looks_findIn X ht).here (s:={ s with toks:=s.toks+1}) (Aa (Aj ?_))))));show A2 _ _ (storeInOwnDict (.ref x) (.ref C) (.str name s.toks) name v aj) _ _ _;refine Aa (Aj (Aa (Aa (wpAny_loadPart hx (Aa (Looks.here (s:={ s with toks:=s.toks+1}) (looks_clsIn X hc) ?_))))));rw[hd];rw[if_neg ∎];show A2 _ _ (if (!ai || !typeHasDict (A3 C))=ai then pure ah else do
  let d <-alloc {cls:=Ec "dict",data:=Data.dict #[]}
  update x λo=>{ cls:=o.cls,dict:=ae d,data:=o.data,slots:=o.slots}
  dictMade (A3 C) x d) _ _ _
 rw[if_neg (by simp[typeHasDict])];have hx₁:(s.heap.push {cls:=.type "dict",data:=.dict #[]}).get? x=ae ⟨.ref C,ah,.fields vs,sl⟩:=Ae _ hx;have hxs:x≠s.heap.objs.size:=A5 (Aq hx);refine Aa (wpAny_alloc' ?_);refine Aa (wpAny_update' hx₁ ?_);refine Aj ?_;have hgd:((s.heap.push {cls:=.type "dict",data:=.dict #[]}).update x λo=>{ cls:=o.cls,dict:=ae s.heap.objs.size,data:=o.data,slots:=o.slots}).get? s.heap.objs.size
   = ae {cls:=.type "dict",data:=.dict #[]}:=
  (Heap.get?_update_ne _ _ _ _ hxs.symm).trans (Heap.get?_push_at rfl rfl)
 have hnd:((s.heap.push {cls:=.type "dict",data:=.dict #[]}).update x λo=>{ cls:=o.cls,dict:=ae s.heap.objs.size,data:=o.data,slots:=o.slots}).Ns s.heap.objs.size (λ_=>ah):=
  ⟨_,#[],_,hgd,rfl,λe he=>absurd he (by simp),λ_=>rfl⟩
 show A2 _ _ (storeInDict s.heap.objs.size (.str name s.toks) name v) _ _ _;unfold storeInDict newKeyGuard;refine Aa (Aj (Aa (wpAny_nsSet1 (Heap.Ns1.of_empty hnd) λh' hn' hs'=>?_)));obtain⟨oD,esD,epD,hoD,hdD,hcD⟩:=hn'.count (Within.cons name v Within.nil);refine Aa (wpAny_lookBehind hoD (by rw[hdD];exact pastItsLine_dict (A9 hcD (by rw[Ar,List.length_nil,Eh];omega))) ?_);refine Aj (hq h' (λb ob hbx hb=>?_) ?_ ?_)
 ·exact(hs'.2 b (A5 (Aq hb))).trans ((Heap.get?_update_ne _ _ _ _ hbx).trans (Ae _ hb))
 ·exact(hs'.2 x hxs).trans (Bt _ hx₁ rfl)
 ·exact hn'
end
end L2
namespace L2
open PySem PySem.Spec PyProof.Rows
def xO(a C:Addr)(d:Option Addr)(t:Addr):HO:=.ext λh=>h.get? a=ae ⟨.ref C,d,jW t,#[]⟩
theorem ua(e:h.get? a=ae ⟨.ref C,d,jW t,#[]⟩):ObjOk P w H h a (xO a C d t):=⟨e,⟨_,e⟩,λ_ _ p k=>k _ p⟩
structure XCl(K:Ah)(C C0:Addr):Prop where
 obj:∃nm q N bs sn sub ab col dd k0 k1 k2 k3 k5,K.lookup C=ae (Et nm q C N bs (.ref C0::ib) ai sn sub ab col dd k0 k1 k2 k3 k5 "ValueError.__new__")
 base:∃nm q N bs sn sub ab col dd k0 k1 k2 k3 k5 ni,K.lookup C0=ae (Et nm q C0 N bs ib ai sn sub ab col dd k0 k1 k2 k3 k5 ni)
 tail:∀h,K.In h->OwnTail h ib (.ref C0::ib)
 sa:Co K (.ref C) "__setattr__"=ae (ae (.builtin "object.__setattr__"))
 kp:B5 K (.ref C)=ai
 rd0:PySem.W.readsIn K C0 (.type "type")=ai
 sp0:PySem.W.specialIn K (.ref C0) "__getattribute__"=ae (ae (.builtin "type.__getattribute__"))
 in0:PySem.W.findCls K (.ref C0) (.type "type") "__init__"=ae (.val (.builtin "ValueError.__init__"))
def Uc(C:Addr)(t:TA):TE:=λσ H Q=>t σ H λvs H1=>∃ea v t0,vs=[.ref ea,v]/\H1 ea=ae (xO ea C ah t0)/\∀t1,Q .non (upd H1 ea (xO ea C ah t1))
def Mh(C:Addr)(f:Str)(ta tv:TE):TS:=λD σ H=>tv σ H λy H1=>ta σ H1 λx H2=>∃ea t0,x=.ref ea/\H2 ea=ae (xO ea C ah t0) /\
 ∀dx,H2 dx=ah->dx≠ea->D.nx σ (upd (upd H2 dx (.xd [(f,y)])) ea (xO ea C (ae dx) t0))
section
variable{X:Cx}{C C0:Addr}{x0 f:Str}{p apos pos pos':Pos}{e o value:Expr}{es:List Expr}{t:TA}{ta tv:TE}
theorem Lx{pl:Sem Bool}(c:XCl X.K C C0)(hg:Gl X x0)(hm:X.mg x0=ae (.ref C0))(ha:PA X (e::es) t)(hdb:(x0==("__debug__":Str))=aj:=by decide)
  (he:As (e::es) X.env=(aj,eval e X.env)::As es X.env:=by rfl) (hpl:(Ct pos (As es X.env)).any (·.1)=aj:=by rfl)
  (ht:eval (.Call (.Attribute (.Name x0 p) "__init__" apos) (e::es) [] pos) X.env=(do
   let ov <-eval (.Name x0 p) X.env
   standAt apos.atName
   let(f,first) <-holding [ov] (getMethod ov "__init__" pl)
   callWith pos f first (Ct pos (As (e::es) X.env)) (backToKw pos (keywordEach [] X.env))):=by rfl):
  PE X (.Call (.Attribute (.Name x0 p) "__init__" apos) (e::es) [] pos) (Uc C t):=by
 intro pins s σ H Q I h;refine PySem.W.methodCall_KW (pl:=pl) (mF I hg hm ?_ hdb) ht;refine PySem.W.method_cls I.kIn c.sp0 (PySem.W.cls_value I.kIn c.rd0 c.in0 rfl ?_);refine PyProof.Rows.callWith_builtin1 (aP (ha pos pins _ σ H _ (I.tok _) h) λus s1 ⟨vs,H1,I2,r,ea,v,t0,ev,hx,q⟩=>?_) he hpl;subst ev;obtain⟨hh,g,d,tk,os⟩:=s1;obtain⟨u1,u2,rfl,r1,r2⟩:=nI r;obtain rfl:u1=A3 ea:=r1
 ·obtain⟨nm,q',N,bs,sn,sub,ab,col,dd,k0,k1,k2,k3,k5,hC⟩:=c.obj;refine Sx PySem.F.excBase_ValueError (c.tail _ I2.kIn) (I2.kIn _ _ hC) (I2.hok _ _ hx).1 (λh' k e' hn hs=>?_) (by show 1<=Ay;decide);exact⟨.non,_,I2.write (x:=ea) (e:=ea) (by rw[hx];exact El) (.inl rfl) (λb u hb z=>k b u hb z) ⟨_,e'⟩ (ua e'),rfl,q _⟩
theorem Sq(c:XCl X.K C C0):∃cd,PySem.W.clsIn X.K C=ae cd/\cd.mro=.ref C::.ref C0::ib/\cd.hasDict=ai:=by
 obtain⟨nm,q',N,bs,sn,sub,ab,col,dd,k0,k1,k2,k3,k5,hC⟩:=c.obj;exact⟨_,by unfold PySem.W.clsIn;rw[hC],rfl,rfl⟩
theorem KW(c:XCl X.K C C0)(hf:Co X.K (.ref C) f=ae ah)(ha:PE X o ta)(hv:PE X value tv)(hs:Da value (ae (.Attribute o f pos')) pos.line X.env=pure aj):
  PS X (.Assign [.Attribute o f pos'] value pos) (Mh C f ta tv):=by
 intro pins s σ H D I h;refine plainObj_wpAny_Assign_Attribute (aP (hv pins s σ H _ I h) λu s1 ⟨y,H1,I1,ry,q⟩=>aP (ha pins s1 σ H1 _ I1 q) λov s2 ⟨x,H2,I2,rx,ea,t0,ex,he,q2⟩=>?_) hs;subst ex;obtain rfl:ov=A3 ea:=rx;obtain⟨cd,hcd,hmr,hdi⟩:=Sq c;refine vN I2.kIn (I2.hok _ _ he).1 c.sa hcd hmr hdi hf λh' k e' nd=>?_;have hfr:H2 s2.heap.objs.size=ah:=I2.hok.fresh (Ao _);have hne:s2.heap.objs.size≠ea:=D9 (I2.hok.lt he);have n1:∀b,H2 b=ah->b≠ea:=λb n z=>by subst z;rw[n]at he;cases he
 have n2:∀b u,H2 b=ae u->b≠s2.heap.objs.size:=λb u q z=>by subst z;rw[q]at hfr;cases hfr
 have n3:∀b u,H2 b=ae u->u≠xO ea C ah t0->b≠ea:=λb u q d z=>by subst z;rw[q]at he;exact d (Bc he)
 have ud:∀b u,H2 b=ae u->u≠xO ea C ah t0->upd (upd H2 s2.heap.objs.size (.xd [(f,y)])) ea (xO ea C (ae s2.heap.objs.size) t0) b=ae u:=λb u q d=>by
  rw[aM (n3 b u q d),aM (n2 b u q)];exact q
 refine⟨σ,_,I2.un (H':=upd (upd H2 s2.heap.objs.size (.xd [(f,y)])) ea (xO ea C (ae s2.heap.objs.size) t0)) (h':=h') ⟨λb ob z n _ _=>k b ob (n1 b n) z,λb ob z n _ _=>⟨ob.slots,k b ob (n1 b n) z⟩,λb ob z n _=>?_,λb ob z _=>?_,
  λb xs z=>ud b _ z (λd=>by cases d),λb ob xs z=>ud b _ z (λd=>by cases d),λb ps z=>⟨#[],by rw[ud b _ z (λd=>by cases d)];simp⟩⟩ ?_,q2 _ hfr hne⟩
 ·rw[aM (n1 b n),aM (A5 (Aq z))];exact n
 ·by_cases hb:b=ea
  ·subst hb;exact⟨_,e'⟩
  ·exact⟨ob,k b ob hb z⟩
 ·intro b ob z;by_cases hb:b=ea
  ·subst hb;rw[bu]at z;cases z;exact ua e'
  ·rw[aM hb]at z;by_cases hd:b=s2.heap.objs.size
   ·subst hd;rw[bu]at z;cases z;refine⟨_,nd,λg=>?_⟩;by_cases hg:g=f
    ·subst hg;rw[if_pos rfl];simp only[List.lookup,beq_self_eq_true];exact ry
    ·rw[if_neg hg];simp only[List.lookup,beq_false_of_ne hg];exact El
   ·rw[aM hd]at z;refine(I2.hok b ob z).stay (λc' v hc r=>k c' v ?_ r) (λc' r=>ud c' _ r (λd=>by cases d)) λc' xs r=>ud c' _ r (λd=>by cases d);rcases hc with rfl|hc
    ·exact hb
    ·exact n3 c' _ hc (λd=>by cases d)
end
open Sem (wp)
def DK(h h':Heap):Prop:=∀(b:Nat)(o:Obj),h.objs[b]?=ae o->∃o',h'.objs[b]?=ae o'/\o'.dict=o.dict
theorem DK.refl(h):DK h h:=λ_ o e=>⟨o,e,rfl⟩
theorem DK.trans(x:DK h h1)(y:DK h1 h2):DK h h2:=λb o e=>by
 obtain⟨o1,e1,d1⟩:=x b o e;obtain⟨o2,e2,d2⟩:=y b o1 e1;exact⟨o2,e2,d2.trans d1⟩
theorem DK.upd(hf:∀o,(f o).dict=o.dict):DK h (h.update a f):=λb o e=>by
 obtain⟨objs,l⟩:=h;show ∃o',(objs.modify a f)[b]?=ae o'/\_;rw[Array.getElem?_modify];have e':objs[b]?=ae o:=e;rw[e']
 split
 ·exact⟨f o,rfl,hf o⟩
 ·exact⟨o,rfl,rfl⟩
theorem DK.push:DK h (h.push o):=λb u e=>by
 obtain⟨objs,l⟩:=h;have e':objs[b]?=ae u:=e;have hb:b < objs.size:=(Array.getElem?_eq_some_iff.mp e').1;refine⟨u,?_,rfl⟩;show(objs.push o)[b]?=ae u;rw[Array.getElem?_push_lt hb];exact(Cm hb).symm.trans e'
structure KD{α:Type}(t:Sem α):Prop where
 out:∀(M:Model)(Γ:PySem.Ctx)(P:α->Pos->Ai->Prop)(Ee:Af->Pos->Ai->Prop)(p:Pos)(s:Ai),wp M Γ t P Ee p s->wp M Γ t (λa p' s'=>P a p' s'/\DK s.heap s'.heap) Ee p s
namespace KD
variable{α β:Type}
theorem pure(a):KD (Pure.pure a:Sem α):=⟨λ_ _ _ _ _ s h=>⟨h,DK.refl _⟩⟩
theorem unsup(w):KD (PySem.unsupported w:Sem α):=⟨λ_ _ _ _ _ _ h=>h⟩
theorem bind{f:α->Sem β}(hm:KD m)(hf:∀a,KD (f a)):KD (m>>=f):=⟨λM Γ P Ee p s h=>by
 rw[Sem.wp_bind']at h ⊢;exact Sem.wp_mono M Γ m (λa p' s' h'=>Sem.wp_mono M Γ (f a) (λb p2 s2 h2=>⟨h2.1,h'.2.trans h2.2⟩) (λ_ _ _ x=>x) p' s' ((hf a).out M Γ P Ee p' s' h'.1)) (λ_ _ _ x=>x) p s (hm.out M Γ _ Ee p s h)⟩
theorem ite[Decidable c](ht:KD t)(hu:KD u):KD (if c then t else u):=by split<;>assumption
theorem load(a):KD (PySem.load a):=⟨λM Γ P Ee p s h=>by
 unfold PySem.load at h ⊢;rw[Sem.wp_load]at h ⊢;obtain⟨o,e,h⟩:=h;exact⟨o,e,h,DK.refl _⟩⟩
theorem update(a)(f)(hf:∀o,(f o).dict=o.dict):KD (PySem.update a f):=⟨λM Γ P Ee p s h=>by
 unfold PySem.update at h ⊢;rw[Sem.wp_update]at h ⊢;exact⟨h.1,h.2,DK.upd hf⟩⟩
theorem stack:KD PySem.stack:=⟨λM Γ P Ee p s h=>by
 unfold PySem.stack at h ⊢;rw[Sem.wp_stack]at h ⊢;exact⟨h,DK.refl _⟩⟩
theorem alloc(o):KD (PySem.alloc o):=⟨λM Γ P Ee p s h=>by
 unfold PySem.alloc at h ⊢;rw[Sem.wp_alloc]at h ⊢;exact⟨h,DK.push⟩⟩
theorem field(v)(i):KD (PySem.field v i):=⟨λ_ Γ P Ee p s h=>(wp_field_iff Γ v i _ Ee p s).mpr (by
 obtain⟨a,o,vs,x,e,ho,hd,hx,h⟩:=(wp_field_iff Γ v i P Ee p s).mp h;exact⟨a,o,vs,x,e,ho,hd,hx,h,DK.refl _⟩)⟩
theorem setField(v)(i)(x):KD (PySem.setField v i x):=⟨λ_ Γ P Ee p s h=>(wp_setField_iff Γ v i x _ Ee p s).mpr (by
 obtain⟨a,o,vs,e,ho,hd,hi,h⟩:=(wp_setField_iff Γ v i x P Ee p s).mp h;exact⟨a,o,vs,e,ho,hd,hi,h,DK.upd λo=>by unfold Obj.mapFields;split<;>rfl⟩)⟩
theorem Ko(env)(outer):KD (behindIsImport env outer):=by
 unfold behindIsImport
 repeat' with_reducible first|assumption|exact KD.pure _|exact KD.field _ _|apply KD.ite|apply KD.bind|intro _
theorem under:KD underTheClaimsCaller:=by
 unfold underTheClaimsCaller;exact KD.bind KD.stack λ_=>KD.pure _
theorem eM(env)(i)(l):KD (keptBack env i l):=by
 cases l with
 |nil=>unfold keptBack;exact KD.ite (KD.pure _) (KD.bind under λ_=>KD.pure _)
 |cons=>exact KD.pure _
theorem GA:∀l:List Env,KD (readyFrames l)
 |[]=>KD.pure _
 |env::outer=>by
  have ih:=GA outer;unfold readyFrames
  split
  ·exact KD.bind (KD.load _) λ_=>KD.ite (KD.pure _) (KD.bind (Ko _ _) λ_=>KD.bind (eM _ _ _) λ_=>KD.bind (KD.update _ _ λ_=>rfl) λ_=>ih)
  ·exact KD.unsup _
theorem obj(l):KD (frameObject l):=by
 cases l with
 |nil=>exact KD.pure _
 |cons env outer=>unfold frameObject;exact KD.bind (GA _) λ_=>KD.pure _
theorem frameOf(env):KD (PySem.frameOf env):=by
 unfold PySem.frameOf frameEnvs;refine KD.bind (KD.bind KD.stack λ_=>KD.pure _) λ_=>KD.bind (obj _) λr=>?_
 split
 ·exact KD.pure _
 ·exact KD.unsup _
theorem place(f)(b):KD (entryPlaceOf f b):=by
 unfold entryPlaceOf;refine KD.bind KD.stack λ_=>?_
 split<;>exact KD.pure _
theorem flight(e)(f):KD (setFlight e f):=by
 unfold setFlight;exact KD.bind (KD.field _ _) λ_=>KD.ite (KD.setField _ _ _) (KD.pure _)
theorem tJ(ty)(vs):KD (newObj (.type ty) (.fields vs)):=by
 have tl:KD (newObjAsIs (.type ty) (.fields vs)):=by unfold newObjAsIs;exact KD.bind (KD.alloc _) λ_=>KD.pure _
 unfold newObj;by_cases h:vs.size > Ay+2
 ·dsimp only;rw[if_pos h];exact KD.bind (KD.unsup _) λ_=>tl
 ·dsimp only;rw[if_neg h];exact tl
theorem entry(a b c d e)(l):KD (EntryCells.newEntry a b c d e l):=tJ _ _
theorem note(e)(env):KD (noteFrame e env):=by
 unfold noteFrame
 split
 ·refine KD.bind (KD.field _ _) λ_=>?_;have tl:∀(h:Af)(b:Bool)(f:Addr),KD (do PySem.setField e 1 (<-EntryCells.newEntry h (<-PySem.frameOf env) .none (Cs f) .none (<-entryPlaceOf f b))):=λh b f=>
   KD.bind (frameOf _) λ_=>KD.bind (place _ _) λ_=>KD.bind (entry _ _ _ _ _ _) λ_=>KD.setField _ _ _
  exact KD.ite (KD.bind (KD.field _ _) λ_=>KD.ite (KD.pure _) (KD.bind (KD.setField _ _ _) λ_=>tl _ _ _)) (tl _ _ _)
 ·exact KD.unsup _
theorem leave(env)(e):KD (leaving env e):=KD.bind (note _ _) λ_=>flight _ _
theorem any(k:KD t)(h:A2 M A t Q E s):A2 M A t (λa s'=>Q a s'/\DK s.heap s'.heap) E s:=
 λΓ p hΓ=>k.out M Γ _ _ p s (h Γ p hΓ)
end KD
def pU(C:Addr)(f:Str):Sp:=λvs H Q _=>∃ea v t0,vs=[.ref ea,v]/\H ea=ae (xO ea C ah t0)/\∀dx t1,H dx=ah->dx≠ea->Q .non (upd (upd H dx (.xd [(f,v)])) ea (xO ea C (ae dx) t1))
theorem HP(n:b≠a):upd (upd (upd H a o) b u) a v=upd (upd H b u) a v:=by
 funext c
 by_cases h:c=a
 ·subst h;rw[bu,bu]
 ·rw[aM h,aM h];by_cases h2:c=b
  ·subst h2;rw[bu,bu]
  ·rw[aM h2,aM h2,aM h]
section
variable{CX:f7}{P:A7}{w:Bk}{K:Ah}{mg:Str->Option Af}{base:Heap}{k:Nat}{fI C C0:Addr}{name qual f:Str}{params:Arguments}{body:List Stmt}{scope:E5}{dV kV doc pm cdv ct oc:Af}{an od:Option Addr}{osl:Array (Option Af)}
theorem N4(lk:K.lookup fI=ae ⟨oc,od,.func (D0 name qual params body scope dV kV doc pm an cdv ct),osl⟩)(hcd:Gb K cdv qual=ai)(S:FnScope ["self",f] ["self",f] scope)
  (hb:body=[.Expr (.Call (.Attribute (.Name "BoardError" p1) "__init__" p2) [.Name "self" p3,.Name f p4] [] p5) p6,.Assign [.Attribute (.Name "self" p7) f p8] (.Name f p9) p10])
  (c:XCl K C C0) (hf:Co K (.ref C) f=ae ah) (hm:mg "BoardError"=ae (.ref C0)) (hg:scope.names.lookup ("BoardError":Str)=ae .globalImplicit) (v0:fH scope "self") (v1:fH scope f)
  {pl:Env->Sem Bool} (ht:∀env:Env,eval (.Call (.Attribute (.Name "BoardError" p1) "__init__" p2) [.Name "self" p3,.Name f p4] [] p5) env=(do
   let ov <-eval (.Name "BoardError" p1) env
   standAt p2.atName
   let(f',first) <-holding [ov] (getMethod ov "__init__" (pl env))
   callWith p5 f' first (Ct p5 (As [.Name "self" p3,.Name f p4] env)) (backToKw p5 (keywordEach [] env))))
  (hd1:(f==("__debug__":Str))=aj) (hd2:(f==("__classdict__":Str))=aj)
  (hs:∀env,Da (.Name f p9) (ae (.Attribute (.Name "self" p7) f p8)) p10.line env=pure aj):
  FnOk P w K mg base CX (k+1) fI (D0 name qual params body scope dV kV doc pm an cdv ct) ["self",f] (pU C f):=by
 subst hb;refine rQ lk hcd S (λvs H Q E h=>by obtain⟨_,_,_,rfl,_⟩:=h;rfl) λA outer s H vs Q E hr h=>?_;obtain⟨ea,v,t0,rfl,he,q⟩:=h;refine⟨_,gf (qw (Lx (C:=C) (C0:=C0) c hg hm (b9 (fJ (i:=0) rfl v0) (b9 (fJ (i:=1) rfl v1 hd1 hd2) dH)) (ht:=ht _))) (fY (KW (C:=C) c hf (fJ (i:=0) rfl v0) (fJ (i:=1) rfl v1 hd1 hd2) (hs _))),?_⟩;refine⟨.ref ea,rfl,v,rfl,ea,v,t0,rfl,he,λt1=>⟨v,rfl,.ref ea,rfl,ea,t1,rfl,bu,λdx hdx hne=>?_⟩⟩;rw[aM hne]at hdx;rw[HP hne];exact q dx t1 hdx hne
end
section
variable{X:Cx}{CX:f7}{k:Nat}{fI C C0:Addr}{fd:B9}{oI:Obj}{f x:Str}{p pos:Pos}{e:Expr}{te:TE}{pins:List (Addr×Obj)}{σ:St}{H:Hp}{s:Ai}{Q:Af->Ai->Prop}
theorem Jr(c:XCl X.K C C0)(hi:Co X.K (.ref C) "__init__"=ae (ae (.ref fI)))(lkf:X.K.lookup fI=ae oI)(hfc:oI.cls=.type "function")
  (F:FnOk X.prog X.w X.K X.mg X.base CX k fI fd ["self",f] (pU C f)) (hr:Room (k+1) X.A) (hg:Gl X x) (hm:X.mg x=ae (.ref C)) (hb:Binds X.K fd ["self",f] []) (hx:∀outer H s e s',¬CX outer H s (λ_ _ _=>False) e s')
  (ha:PE X e te) (I:Inv X pins σ H s)
   (h:te σ H Qv) (hq:∀(v:V)(H1:Hp)(ea dx t:Addr)(s':Ai),Qv v H1->X.s₀.heap.objs.size<=ea->H1 ea=ah->H1 dx=ah->dx≠ea->Inv X pins σ (upd (upd H1 dx (.xd [(f,v)])) ea (xO ea C (ae dx) t)) s'->Q (.ref ea) s')
  (hdb:(x==("__debug__":Str))=aj:=by decide) (he:As [e] X.env=(aj,eval e X.env)::As [] X.env:=by rfl) (hpl:(Ct pos (As [] X.env)).any (·.1)=aj:=by rfl):
  A2 (A6 X.prog X.w) X.A (eval (.Call (.Name x p) [e] [] pos) X.env) Q X.xe s:=by
 refine Gn (mF I hg hm ?_ hdb);refine PySem.W.callWith_K (h₀:=X.base) I.ok.mod.kin c.kp (aP (b9 ha dH he pos pins s σ H (λvs H1=>match vs with|[v]=>Qv v H1|_=>False) I h) λus s1 ⟨vs,H1,I1,r,q⟩=>⟨I1.kIn,?_⟩) he hpl;rcases vs with _|⟨v,_|⟨v2,vr⟩⟩
 ·exact q.elim
 ·dsimp only at q;obtain⟨u,rfl,r1⟩:=gS r;have sz:=I1.sz;obtain⟨hh,g,d,tk,os⟩:=s1;obtain⟨nm,q',N,bs,sn,sub,ab,col,dd,k0,k1,k2,k3,k5,hC⟩:=c.obj;refine QJ PySem.F.excBase_ValueError (c.tail _ I1.kIn) (I1.kIn _ _ hC) I1.kIn hi (I1.kIn _ _ lkf) hfc (λh' ea hm' he'=>?_) (by show 1<=Ay;decide);subst he';obtain⟨t,h1,h2,h3⟩:=hm'.there;have hf1:H1 (hh.objs.size+1)=ah:=I1.hok.fresh (Dm _);have I2:=I1.laid (a:=hh.objs.size+1) (o:=xO (hh.objs.size+1) C ah t) (t':=tk) (λb u z=>hm'.keeps b u z) (Dm _) (ua h1);refine G7 (F6 (F.run _ X.stack _ _ ⟨[.ref (hh.objs.size+1),u],[]⟩ [.ref (hh.objs.size+1),u] [.ref (hh.objs.size+1),v] (λv' H2=>v'=.non/\∃dx t1,H1 dx=ah/\dx≠hh.objs.size+1/\H2=upd (upd H1 dx (.xd [(f,v)])) (hh.objs.size+1) (xO (hh.objs.size+1) C (ae dx) t1)) (λ_ _ _=>False) (hr.make C [u] [])
   (I2.env0.make C [u] []) (hb _ _ I2.kIn rfl) (.cons rfl (.cons r1 .nil)) ⟨_,_,t,rfl,bu,λdx t1 hdx hne=>⟨rfl,dx,t1,by rw[aM hne]at hdx;exact hdx,hne,HP hne⟩⟩) λr s' hq'=>?_)
  cases r with
  |error e=>exact absurd hq' (hx _ _ _ _ _)
  |ok fl=>
   cases fl with
   |ret u'=>
    obtain⟨v',H',I3,rv,ev,dx,t1,hdx,hne,eH⟩:=I2.after hq';subst ev eH;exact⟨rv,hq _ _ _ dx t1 s' q (A9 sz (Dm _)) hf1 hdx hne I3⟩
   |next=>exact False.elim hq'
   |brk=>exact False.elim hq'
   |cont=>exact False.elim hq'
 ·exact q.elim
end
def jX(H:Hp)(a:Addr):Hp:=λb=>if b=a then ah else H b
theorem nM:jX H a a=ah:=by unfold jX;rw[if_pos rfl]
theorem nK(h:b≠a):jX H a b=H b:=by unfold jX;rw[if_neg h]
theorem JK(n:H a=ah):jX (upd H a o) a=H:=by
 funext b
 by_cases h:b=a
 ·subst h;rw[nM,n]
 ·rw[nK h,aM h]
structure Fly(P:A7)(w:Bk)(outer:List Env)(H:Hp)(s:Ai)(B:Heap)(t ea C dx:Addr)(H':Hp)(s':Ai):Prop where
 fly:Heap.FlyingW B outer ea (.ref C) (.ref t) s'.heap
 dict:∃o,s'.heap.get? ea=ae o/\o.dict=ae dx
 os:s'.os=s.os
 bare:AllBare s'.gens
 un:Un (dg outer) [] H H' s.heap s'.heap
 hok:HOk P w H' s'.heap
 hea:H' ea=ah
 new:s.heap.objs.size<=ea
 old:∀(b:Addr)(o:Obj),s.heap.get? b=ae o->b∉dg outer->∀o',s'.heap.get? b=ae o'->B.get? b=ae o'
 trk:∀(b:Addr)(u:HO)(o:Obj),H' b=ae u->s'.heap.get? b=ae o->B.get? b=ae o
def lG(P:A7)(w:Bk):f7:=λouter H s E e s'=>∃B t ea C dx H',e=.ref ea/\Fly P w outer H s B t ea C dx H' s'/\E (.ref C) (ae dx) H'
section
variable{M:Model}{A:Bu}{E:Af->Ai->Prop}{env:Env}{s:Ai}{C N:Addr}{nm q:Str}{bs bm:List Af}{hdct:Bool}{sn:List Str}{sub:List Af}{ab:Bool}{col:Option Bool}{dd:Option Addr}{k0 k1 k2 k3 k5:Option Af}{newId:String}
theorem zj(hbase:bm.contains (.type "BaseException")=ai)(hh:A.handled=ah)
  (h:A2 M A x (λv s₁=>∃e t d,v=.ref e/\s₁.heap.get? C=ae (Et nm q C N bs bm hdct sn sub ab col dd k0 k1 k2 k3 k5 newId) /\
   s₁.heap.get? e=ae ⟨.ref C,d,jW t,#[]⟩/\E (.ref e) s₁) E s):
  A2 M A (raiseStmt env (ae x) ah) Q E s:=by
 have hcB:(A3 C::bm).contains (.type "BaseException")=ai:=by rw[List.contains_cons,hbase,Bool.or_true]
 unfold raiseStmt;refine Aa (B4 h (λv s₁ h₁=>?_) λ_ _ x=>x);obtain⟨e,t,d',rfl,hC,he,hE⟩:=h₁;obtain⟨hp,g,d,tk,os⟩:=s₁
 repeat (first|with_reducible refine Er he ?_|with_reducible refine Er hC ?_|(with_reducible refine Hh hC ?_;rw[hcB])|wp_step)
 exact wpAny_raiseNew_none hh hE
end
def v9(X:Cx)(C:Addr)(EX:St->Addr->Addr->Hp->Prop):Prop:=∀(pins:List (Addr×Obj))(σ:St)(H:Hp)(s:Ai)(ea dx t:Addr),Inv X pins σ H s->H ea=ae (xO ea C (ae dx) t)->X.s₀.heap.objs.size<=ea->EX σ C dx (jX H ea)->X.xe (.ref ea) s
def v8(C:Addr)(f:Str)(EX:St->Addr->Addr->Hp->Prop)(te:TE):TS:=λ_ σ H=>te σ H λv H1=>∀ea dx,H1 ea=ah->H1 dx=ah->dx≠ea->EX σ C dx (upd H1 dx (.xd [(f,v)]))
section
variable{X:Cx}{CX:f7}{k:Nat}{fI C C0:Addr}{fd:B9}{oI:Obj}{f x:Str}{p cpos pos:Pos}{e:Expr}{te:TE}{EX:St->Addr->Addr->Hp->Prop}
theorem Sa(c:XCl X.K C C0)(hi:Co X.K (.ref C) "__init__"=ae (ae (.ref fI)))(lkf:X.K.lookup fI=ae oI)(hfc:oI.cls=.type "function")
  (F:FnOk X.prog X.w X.K X.mg X.base CX k fI fd ["self",f] (pU C f)) (hr:Room (k+1) X.A) (hg:Gl X x) (hm:X.mg x=ae (.ref C)) (hb:Binds X.K fd ["self",f] []) (hx:∀outer H s e s',¬CX outer H s (λ_ _ _=>False) e s')
  (hl:v9 X C EX) (ha:PE X e te)
  (hdb:(x==("__debug__":Str))=aj:=by decide) (he:As [e] X.env=(aj,eval e X.env)::As [] X.env:=by rfl) (hpl:(Ct cpos (As [] X.env)).any (·.1)=aj:=by rfl):
  PS X (.Raise (ae (.Call (.Name x p) [e] [] cpos)) ah pos) (v8 C f EX te):=by
 intro pins s σ H D I h;obtain⟨nm,q',N,bs,sn,sub,ab,col,dd,k0,k1,k2,k3,k5,hC⟩:=c.obj;have mk:A2 (A6 X.prog X.w) X.A (eval (.Call (.Name x p) [e] [] cpos) X.env) (λv s₁=>∃e t d,v=.ref e/\s₁.heap.get? C=ae (Et nm q' C N bs (.ref C0::ib) ai sn sub ab col dd k0 k1 k2 k3 k5 "ValueError.__new__") /\
   s₁.heap.get? e=ae ⟨.ref C,d,jW t,#[]⟩/\X.xe (.ref e) s₁) X.xe s:=
  Jr c hi lkf hfc F hr hg hm hb hx ha I (Q:=λv s₁=>∃e t d,v=.ref e/\s₁.heap.get? C=ae (Et nm q' C N bs (.ref C0::ib) ai sn sub ab col dd k0 k1 k2 k3 k5 "ValueError.__new__") /\
   s₁.heap.get? e=ae ⟨.ref C,d,jW t,#[]⟩/\X.xe (.ref e) s₁) h (λv H1 ea dx t s' q sz n1 n2 ne I'=>⟨ea,t,ae dx,rfl,I'.kIn _ _ hC,(I'.hok _ _ bu).1,hl pins σ _ s' ea dx t I' bu sz (by
    rw[JK (by rw[aM (Ne.symm ne)];exact n1)];exact q ea dx n1 n2 ne)⟩) hdb he hpl
 have hh:X.A.handled=ah:=hr.hd;rw[arm_exec_Raise]
 first
  |exact Aa (Gh (zj (C:=C) rfl hh (Aa (B4 mk (λv s₃ h₃=>Aa (Gh (Aj h₃))) λ_ _ x=>x))))
  | (simp only[evalOpt,Option.map];exact Aa (Gh (zj (C:=C) rfl hh (Aa (B4 mk (λv s₃ h₃=>Aa (Gh (Aj h₃))) λ_ _ x=>x)))))
end
theorem ObjOk.has(x:ObjOk P w H h a o):∃ob,h.get? a=ae ob:=by
 cases o with
 |lst xs=>obtain⟨_,_,_,_,e⟩:=x;exact⟨_,e⟩
 |tup xs=>obtain⟨_,_,_,o,e,_⟩:=x;exact⟨_,e⟩
 |dK kvs=>obtain⟨_,_,_,_,o,_,_,e,_⟩:=x;exact⟨_,e⟩
 |dT kvs=>obtain⟨_,_,_,_,o,_,_,e,_⟩:=x;exact⟨_,e⟩
 |set S n=>obtain⟨o,_,_,_,e,_⟩:=x;exact⟨_,e⟩
 |ins C dx fs=>obtain⟨_,_,_,e,_⟩:=x;exact⟨_,e⟩
 |own y=>exact x
 |xd fs=>obtain⟨_,⟨_,_,_,e,_⟩,_⟩:=x;exact⟨_,e⟩
 |rng lo hi=>obtain⟨_,_,_,e⟩:=x;exact⟨_,e⟩
 |frz ob u=>obtain⟨e,_⟩:=x;exact⟨_,e⟩
 |tbl ps=>exact⟨_,x⟩
 |met f y=>exact⟨_,x⟩
 |ext φ=>exact x.2.1
theorem FL{h:Heap}(e:h.get? a=ae o):h.objs[a]?=ae o:=(Heap.get?_some_iff.mp e).1
theorem zD(k:DK h h')(e:h.get? a=ae o)(e':h'.get? a=ae o'):o'.dict=o.dict:=by
 obtain⟨u,hu,d⟩:=k a o (FL e);rw[FL e']at hu;cases hu;exact d
section
variable{P:A7}{w:Bk}{K:Ah}{mg:Str->Option Af}{base:Heap}{N:List Str}{qual:Str}{scope:E5}{f:Addr}{cd:Af}{A:Bu}{outer:List Env}{s₀:Ai}{H₀:Hp}{E:XK}{C:Addr}
theorem IJ:v9 (cO (lG P w) P w K mg base N qual scope f cd A outer s₀ H₀ E) C λ_ C dx H=>E (.ref C) (ae dx) H:=by
 intro pins σ H s ea dx t I he sz hE;have get:s.heap.get? ea=ae ⟨.ref C,ae dx,jW t,#[]⟩:=(I.hok _ _ he).1;have sz':s₀.heap.objs.size<=ea:=sz;have stf:=I.stkFree;have fr:s.heap.FunFrames base (Dv qual scope s₀.heap.objs.size f cd::outer):=I.stack;have hfrs:∀b,b∈dg (Dv qual scope s₀.heap.objs.size f cd::outer)↔b=s₀.heap.objs.size\/b∈dg outer:=λb=>by
  show b∈s₀.heap.objs.size::dg outer↔_;exact Au
 have ob:Un (dg outer) [] H₀ H s₀.heap s.heap:=I.base;have inB:∀b o,s.heap.get? b=ae o->b≠ea->b≠s₀.heap.objs.size->b∉dg outer->(F0 s.heap (ea::dg (Dv qual scope s₀.heap.objs.size f cd::outer))).get? b=ae o:=λb o e n1 n2 n3=>
  PySem.W.hideAll_get _ e λhm=>(Au.mp hm).elim n1 λz=>((hfrs b).mp z).elim n2 n3
 have lt0:∀b o,s₀.heap.get? b=ae o->b≠ea/\b≠s₀.heap.objs.size:=λb o e=>⟨A5 (Bd (Aq e) sz'),A5 (Aq e)⟩;have trkB:∀b u o,H b=ae u->b≠ea->s.heap.get? b=ae o->(F0 s.heap (ea::dg (Dv qual scope s₀.heap.objs.size f cd::outer))).get? b=ae o:=λb u o q n e=>
  PySem.W.hideAll_get _ e λhm=>(Au.mp hm).elim n λz=>by rw[stf b z]at q;cases q
 have fdat:∀b∈dg outer,∀o sl,s₀.heap.get? b=ae o->∀vs,({o with slots:=sl}:Obj).data≠.fields vs:=λb hb o sl e=>by
  obtain⟨_,o',e',hd⟩:=I.ok.funs.mem hb;rw[show s₀.heap.get? b=ae o' from e']at e;cases e;exact hd
 show A2 (A6 P w) (A.deeper (Dv qual scope s₀.heap.objs.size f cd)) (leaving (Dv qual scope s₀.heap.objs.size f cd) (.ref ea)) _ _ s;refine B4 ((KD.leave _ _).any (wpAny_leaving_firstW (base:=F0 s.heap (ea::dg (Dv qual scope s₀.heap.objs.size f cd::outer))) (E:=λ_ _=>False) (Q:=λ_ s''=>∃h',Heap.LeftW (F0 s.heap (ea::dg (Dv qual scope s₀.heap.objs.size f cd::outer))) (Dv qual scope s₀.heap.objs.size f cd::outer) ea (.ref C) (.ref t) s.heap h'/\s''={ s with heap:=h'})
  I.ok.frames (PySem.W.funFrames_hide fr λenv he a ha=>.tail _ (Ga.mpr ⟨env,he,ha⟩)) rfl get (λb o q=>PySem.W.of_hideAll _ q) (PySem.W.hideAll_none _ (.head _)) rfl rfl rfl λh' hL=>⟨h',hL,rfl⟩)) (λ_ s'' h=>?_) λ_ _ z=>z.elim
 obtain⟨⟨h',⟨k1,⟨_,_,k2⟩,k3,k4⟩,rfl⟩,dk⟩:=h;have hen:(F0 s.heap (ea::dg (Dv qual scope s₀.heap.objs.size f cd::outer))).get? ea=ah:=PySem.W.hideAll_none _ (.head _);have slo:∀b o,s₀.heap.get? b=ae o->H₀ b=ah->b∈dg outer->∃sl,h'.get? b=ae {o with slots:=sl}:=λb o e n hb=>by
  obtain⟨sl,e1⟩:=ob.slot b o e n hb (by simp);obtain⟨sl',e2⟩:=k4 b _ e1 (fdat b hb o sl e);exact⟨sl',e2⟩
 have nea:∀b u,H b=ae u->u≠xO ea C (ae dx) t->b≠ea:=λb u q d z=>by subst z;rw[q]at he;exact d (Bc he)
 have dn:∀b u,H b=ae u->u≠xO ea C (ae dx) t->jX H ea b=ae u:=λb u q d=>by rw[nK (nea b u q d)];exact q
 refine⟨_,t,ea,C,dx,jX H ea,rfl,⟨⟨k1,hen,k2,k3⟩,?_,I.os,I.bare,⟨λb o e n hb _=>?_,λb o e n hb _=>slo b o e n hb,λb o e n _=>?_,λb o e _=>?_,λb xs q=>dn b _ (ob.tups b xs q) λd=>(by cases d),
  λb o u q=>dn b _ (ob.frzs b o u q) λd=>(by cases d),λb ps q=>by obtain⟨more,z⟩:=ob.tbls b ps q;exact⟨more,dn b _ z λd=>(by cases d)⟩⟩,?_,nM,sz',?_,?_⟩,hE⟩
 ·obtain⟨oe,vs,T,oT,ts,he',_⟩:=k3;exact⟨oe,he',zD dk get he'⟩
 ·exact k1 b o (inB b o (ob.keep b o e n hb (by simp)) (lt0 b o e).1 (lt0 b o e).2 hb)
 ·have:=ob.free b o e n (by simp);by_cases h:b=ea
  ·subst h;exact nM
  ·rw[nK h];exact this
 ·by_cases hb:b∈dg outer
  ·obtain⟨sl,e2⟩:=slo b o e (I.ok.frf b hb) hb;exact⟨_,e2⟩
  ·obtain⟨o1,e1⟩:=ob.there b o e (by simp);exact⟨o1,k1 b o1 (inB b o1 e1 (lt0 b o e).1 (lt0 b o e).2 hb)⟩
 ·intro b u q;have hb:b≠ea:=λz=>by subst z;rw[nM]at q;cases q
  rw[nK hb]at q;refine(I.hok b u q).stay (λc v hc z=>k1 c v ?_) (λc r=>dn c _ r λd=>(by cases d)) λc xs r=>dn c _ r λd=>(by cases d);rcases hc with rfl|hc
  ·exact trkB c u v q hb z
  ·exact trkB c _ v hc (nea c _ hc λd=>(by cases d)) z
 ·intro b o e hb o' e';obtain⟨o1,e1⟩:=ob.there b o e (by simp);have z:=inB b o1 e1 (lt0 b o e).1 (lt0 b o e).2 hb;have z':h'.get? b=ae o1:=k1 b o1 z;rw[show h'.get? b=ae o' from e']at z';cases z';exact z
 ·intro b u o q e';have hb:b≠ea:=λz=>by subst z;rw[nM]at q;cases q
  rw[nK hb]at q;obtain⟨o1,e1⟩:=(I.hok b u q).has;have z:=trkB b u o1 q hb e1;have z':h'.get? b=ae o1:=k1 b o1 z;rw[show h'.get? b=ae o from e']at z';cases z';exact z
end
def yO(a C dx:Addr):HO:=.ext λh=>∃vs sl,h.get? a=ae ⟨.ref C,ae dx,.fields vs,sl⟩
theorem LU(e:h.get? a=ae ⟨.ref C,ae dx,.fields vs,sl⟩):ObjOk P w H h a (yO a C dx):=
 ⟨⟨vs,sl,e⟩,⟨_,e⟩,λ_ _ ⟨vs,sl,p⟩ k=>⟨vs,sl,k _ p⟩⟩
section
variable{X:Cx}{pins:List (Addr×Obj)}{σ:St}{H H':Hp}{s s1:Ai}{B h:Heap}{t ea C dx:Addr}
theorem Tj(I:Inv X pins σ H s)(F:Fly X.prog X.w X.stack H s B t ea C dx H' s1)(k1:B.StaysIn h)(k4:s1.heap.UpToSlots h):Un (dg X.stack) [] H H' s.heap h/\HOk X.prog X.w H' h:=by
 have fdat:∀b∈dg X.stack,∀o sl,s.heap.get? b=ae o->∀vs,({o with slots:=sl}:Obj).data≠.fields vs:=λb hb o sl e=>by
  obtain⟨_,o',e',hd⟩:=I.stack.mem hb;rw[show s.heap.get? b=ae o' from e']at e;cases e;exact hd
 have slo:∀b o,s.heap.get? b=ae o->H b=ah->b∈dg X.stack->∃sl,h.get? b=ae {o with slots:=sl}:=λb o e n hb=>by
  obtain⟨sl,e1⟩:=F.un.slot b o e n hb (by simp);obtain⟨sl',e2⟩:=k4 b _ e1 (fdat b hb o sl e);exact⟨sl',e2⟩
 refine⟨⟨λb o e n hb _=>?_,λb o e n hb _=>slo b o e n hb,F.un.free,λb o e _=>?_,F.un.tups,F.un.frzs,F.un.tbls⟩,λb u q=>?_⟩
 ·exact k1 b o (F.old b o e hb o (F.un.keep b o e n hb (by simp)))
 ·by_cases hb:b∈dg X.stack
  ·obtain⟨sl,e2⟩:=slo b o e (I.stkFree b hb) hb;exact⟨_,e2⟩
  ·obtain⟨o1,e1⟩:=F.un.there b o e (by simp);exact⟨o1,k1 b o1 (F.old b o e hb o1 e1)⟩
 ·refine(F.hok b u q).stay (λc v hc z=>k1 c v ?_) (λc r=>r) λc xs r=>r;rcases hc with rfl|hc
  ·exact F.trk c u v q z
  ·exact F.trk c _ v hc z
theorem L7(I:Inv X pins σ H s)(F:Fly X.prog X.w X.stack H s B t ea C dx H' s1)(k1:B.StaysIn h)(k4:s1.heap.UpToSlots h)
  (e:h.get? ea=ae ⟨.ref C,ae dx,.fields vs,sl⟩) (tk):Inv X pins σ (upd H' ea (yO ea C dx)) {s1 with heap:=h,toks:=tk}:=by
 obtain⟨u,hok⟩:=Tj I F k1 k4;have ne:∀b o,H' b=ae o->b≠ea:=λb o q=>bO q F.hea;refine I.call' (s':={ s1 with heap:=h,toks:=tk}) (ch:=[]) F.os ⟨u.keep,u.slot,λb o z n hx=>?_,u.there,λb xs q=>?_,λb o xs q=>?_,λb ps q=>?_⟩ (λb o q=>?_) F.bare (λb z=>absurd z (by simp))
 ·rw[aM (A5 (Bd (Aq z) F.new))];exact u.free b o z n hx
 ·rw[aM (ne b _ (u.tups b xs q))];exact u.tups b xs q
 ·rw[aM (ne b _ (u.frzs b o xs q))];exact u.frzs b o xs q
 ·obtain⟨more,z⟩:=u.tbls b ps q;exact⟨more,by rw[aM (ne b _ z)];exact z⟩
 ·by_cases hb:b=ea
  ·subst hb;rw[bu]at q;cases q;exact LU e
  ·rw[aM hb]at q;exact(hok b o q).stay (λc v _ z=>z) (λc r=>by rw[aM (ne c _ r)];exact r) λc xs r=>by rw[aM (ne c _ r)];exact r
end
section
variable{M:Model}{A:Bu}{E:Af->Ai->Prop}{h:Heap}{g:Array GenState}{d:Drawn}{t:Nat}{os:OsState}
variable{nm q:Str}{C C1 N:Addr}{bs bm:List Af}{hdct:Bool}{sn:List Str}{sub:List Af}{ab:Bool}{col:Option Bool}{dd:Option Addr}{k0 k1 k2 k3 k5:Option Af}{newId:String}
variable{nm' q':Str}{N':Addr}{bs' bm':List Af}{hdct':Bool}{sn':List Str}{sub':List Af}{ab':Bool}{col':Option Bool}{dd':Option Addr}{j0 j1 j2 j3 j5:Option Af}{newId':String}
theorem NU(hC:h.get? C=ae (Et nm q C N bs bm hdct sn sub ab col dd k0 k1 k2 k3 k5 newId))(hC1:h.get? C1=ae (Et nm' q' C1 N' bs' bm' hdct' sn' sub' ab' col' dd' j0 j1 j2 j3 j5 newId'))
  (he:h.get? e=ae o) (hc:o.cls=.ref C) (hb1:bm'.contains (.type "BaseException")=ai) (hm:(A3 C::bm).contains (.ref C1)=ai) (hq:Q ai ⟨h,g,d,t,os⟩):A2 M A (excMatches (.ref e) (.ref C1)) Q E ⟨h,g,d,t,os⟩:=by
 have hcB:(A3 C1::bm').contains (.type "BaseException")=ai:=by rw[List.contains_cons,hb1,Bool.or_true]
 have f:=tc_notTuple;unfold excMatches
 repeat (first|with_reducible refine Er hC1 ?_|(with_reducible refine Er he ?_;rw[hc])|(with_reducible refine Hh hC1 ?_;rw[hcB])|(with_reducible refine Hh hC ?_;rw[hm])|wp_step)
 exact hq
end
section
variable{X:Cx}{pins:List (Addr×Obj)}{σ:St}{H:Hp}{s:Ai}
theorem qW(I:Inv X pins σ H s)(hN:X.N.Nodup)(hi:X.N[i]?=ae x)(hk:X.env.scope.names.lookup x=ae .local)
  (h:∀s',Inv X pins (σ.set i ah) H s'->Q () s'):A2 M A (do bindName X.env x .none;unbindBehindTheSuite X.env x pos) Q E s:=by
 have hiσ:i < σ.length:=by rw[I.len];exact(Av.mp hi).1
 refine Aa (wpAny_bindName (qB I hN hi (.inl hk) (v:=.non) (u:=.none) rfl (λs1 I1=>?_) (.inr hk)));unfold unbindBehindTheSuite;refine wpAny_onRaise ?_;obtain⟨m,hn,hl⟩:=id I1.loc;have hcls:(X.env.scope.kind==.class || (X.env.scope.kind==.module&&X.env.locals != X.env.globals))=aj:=by rw[I.ok.kind];rfl
 obtain⟨u,ru,lu⟩:=hl i x .non hi (D6 hiσ) (.inl hk);have hm:m x=ae u:=by
  rcases lu with⟨_,z⟩|⟨z,_⟩
  ·exact z
  ·rcases z with z|z
   ·rw[show X.env.kindOf x=ae .local from hk]at z;cases z
   ·rw[show X.env.kindOf x=ae .local from hk]at z;cases z
 have cne:=I1.cne;refine wpAny_unbindName_local hk hn hm hcls λh' u' hn' hs=>h _ ?_;refine⟨I1.ok,I1.os,I1.bare,⟨λb o e n hb hx=>?_,λb o e n hb hx=>?_,I1.base.free,λb o e hx=>?_,I1.base.tups,I1.base.frzs,I1.base.tbls⟩,⟨_,hn',λj y v' e1 e2 e3=>?_⟩,λy c e=>?_,I1.free,I1.freeC,λp hp=>?_,λb ob e=>?_,?_⟩
 ·exact(hs.2 b (A5 (Bd (Aq e) I1.ok.above))).trans (I1.base.keep b o e n hb hx)
 ·obtain⟨sl,e1⟩:=I1.base.slot b o e n hb hx;exact⟨sl,(hs.2 b (A5 (Bd (Aq e) I1.ok.above))).trans e1⟩
 ·obtain⟨o',e1⟩:=I1.base.there b o e hx;exact⟨o',(hs.2 b (A5 (Bd (Aq e) I1.ok.above))).trans e1⟩
 ·by_cases hj:j=i
  ·subst hj;rw[D6 hiσ]at e2;cases e2
  ·have e2':(σ.set i (ae V.non))[j]?=ae (ae v'):=by rw[Bw (Ne.symm hj)]at e2 ⊢;exact e2
   obtain⟨u'',r',q⟩:=hl j y v' e1 e2' e3;refine⟨u'',r',?_⟩;rcases q with⟨k,e⟩|⟨k,c,e,z⟩
   ·refine .inl ⟨k,?_⟩;have:y≠x:=λe=>hj (ug hN e1 (e▸hi));simp[this,e]
   ·exact .inr ⟨k,c,e,z.sameBut hs (cne y c e)⟩
 ·obtain⟨w',z⟩:=I1.cell y c e;exact⟨w',z.sameBut hs (cne y c e)⟩
 ·obtain⟨e,n,ne,nf,d⟩:=I1.pin p hp;exact⟨(hs.2 p.1 ne).trans e,n,ne,nf,d⟩
 ·refine(I1.hok b ob e).stay (λc w' hc q=>(hs.2 c ?_).trans q) (λ_ q=>q) λ_ _ q=>q
  rintro rfl
  rcases hc with rfl|hc
  ·rw[I1.free]at e;cases e
  ·rw[I1.free]at hc;cases hc
 ·have:=I1.len;rw[Cg]at this ⊢;exact this
end
abbrev Cx.inTry(X:Cx)(pn:List (Addr×Obj))(W:Af->Ai->Prop):Cx:={ X with pn:=pn,xe:=W}
abbrev Cx.inExc(X:Cx)(e:Af):Cx:={ X with A:=X.A.mark (ae e),calm:=aj,xe:=λ_ _=>False}
section
variable{X:Cx}{pins pins':List (Addr×Obj)}{σ:St}{H:Hp}{s:Ai}{W:Af->Ai->Prop}{e:Af}
theorem Cx.Ok.toTry(ok:X.Ok){pn:List (Addr×Obj)}:(X.inTry pn W).Ok:=
 ⟨ok.mod,ok.kind,ok.glob,ok.blt,ok.above,ok.inj,ok.has,ok.cab,ok.hd,ok.frames,ok.stk,ok.exf,ok.bs,ok.bsz,ok.noex,ok.exfs,ok.funs,ok.frf⟩
theorem Cx.Ok.ofTry{pn:List (Addr×Obj)}(ok:(X.inTry pn W).Ok):X.Ok:=
 ⟨ok.mod,ok.kind,ok.glob,ok.blt,ok.above,ok.inj,ok.has,ok.cab,ok.hd,ok.frames,ok.stk,ok.exf,ok.bs,ok.bsz,ok.noex,ok.exfs,ok.funs,ok.frf⟩
theorem Inv.toTry(I:Inv X pins σ H s):Inv (X.inTry (X.pn++pins) W) [] σ H s:=⟨I.ok.toTry,I.os,I.bare,I.base,I.loc,I.cell,I.free,I.freeC,λp hp=>I.pin p (by rw[Bv]at hp;exact hp),I.hok,I.len⟩
theorem Inv.ofTry(I:Inv (X.inTry (X.pn++pins) W) pins' σ H s):Inv X pins σ H s:=⟨I.ok.ofTry,I.os,I.bare,I.base,I.loc,I.cell,I.free,I.freeC,λp hp=>I.pin p (Dw _ hp),I.hok,I.len⟩
theorem Cx.Ok.toExc(ok:X.Ok):(X.inExc e).Ok:=
 ⟨ok.mod,ok.kind,ok.glob,ok.blt,ok.above,ok.inj,ok.has,ok.cab,(λz=>nomatch z),ok.frames,ok.stk,ok.exf,ok.bs,ok.bsz,ok.noex,ok.exfs,ok.funs,ok.frf⟩
theorem Inv.toExc(I:Inv X pins σ H s):Inv (X.inExc e) pins σ H s:=⟨I.ok.toExc,I.os,I.bare,I.base,I.loc,I.cell,I.free,I.freeC,I.pin,I.hok,I.len⟩
theorem Inv.ofExc(ok:X.Ok)(I:Inv (X.inExc e) pins σ H s):Inv X pins σ H s:=⟨ok,I.os,I.bare,I.base,I.loc,I.cell,I.free,I.freeC,I.pin,I.hok,I.len⟩
end
def kP(i:Nat)(D:Ends):Ends:={ nx:=λσ H=>D.nx (σ.set i ah) H,rt:=D.rt,bk:=λσ H=>D.bk (σ.set i ah) H,ct:=λσ H=>D.ct (σ.set i ah) H}
def kU(K:Ah)(C0:Addr)(i:Nat)(th:TS)(D:Ends):St->XK:=λσ cl dd H=>∃C dx,cl=.ref C/\dd=ae dx/\XCl K C C0/\∀ea,H ea=ah->th (kP i D) (σ.set i (ae (.ref ea))) (upd H ea (yO ea C dx))
def ly(K:Ah)(C0:Addr)(i:Nat)(tb:(St->XK)->TS)(th:TS):TS:=λD σ H=>tb (kU K C0 i th D) D σ H
section
variable{X:Cx}{C0:Addr}{body suite:List Stmt}{b0:Stmt}{i:Nat}{x n:Str}{np hpos pos:Pos}{tb:(St->XK)->TS}{th:TS}
theorem Uk(hst:X.stack=X.env::X.outer)(hfr:X.env.frame=ae X.env.locals)(hg:Gl X x)(hm:X.mg x=ae (.ref C0))(hN:X.N.Nodup)(hi:X.N[i]?=ae n)(hk:X.env.scope.names.lookup n=ae .local)
  (hb:∀(pn:List (Addr×Obj))(W:Af->Ai->Prop)(EX:St->XK),(∀pins σ H s e s',Inv (X.inTry pn W) pins σ H s->lG X.prog X.w X.stack H s (EX σ) e s'->W e s')->PSs (X.inTry pn W) body (tb EX))
  (hs:∀e,PSs (X.inExc e) (b0::suite) th) (hdb:(x==("__debug__":Str))=aj:=by decide):
  PS X (.Try body [.ExceptHandler (ae (.Name x np)) (ae n) (b0::suite) hpos] [] [] pos) (ly X.K C0 i tb th):=by
 intro pins s σ H D I h;refine wpAny_Try_except (B4 (hb (X.pn++pins) _ (kU X.K C0 i th D) ?_ [] s σ H D I.toTry h) (λf s₁ q=>?_) λe s₁ z=>z)
 ·intro pins' σ' H1 s1 e s2 I1 hcx;obtain⟨B,t,ea,C,dx,H',rfl,F,C1,dx1,e1,e2,c,q⟩:=hcx;cases e1;cases e2;have I2:Inv X pins σ' H1 s1:=I1.ofTry;have fly:=F.fly;rw[hst]at fly;obtain⟨o2,ho2,hd2⟩:=F.dict;have frm:X.A.frames=ae (X.env::X.outer):=by rw[<-hst];exact I2.ok.frames
  refine B4 ((KD.note _ _).any (wpAny_looks_onW (E:=λ_ _=>False) (Q:=λ_ s''=>∃h',Heap.HeldW B (X.env::X.outer) ea (.ref C) (.ref t) X.env.locals h'/\s2.heap.UpToSlots h'/\s''={ s2 with heap:=h'}) frm hfr fly λh' a b=>⟨h',a,b,rfl⟩)) (λ_ s₃ hh=>?_) λ_ _ z=>z.elim;obtain⟨⟨h4,held,sm4,rfl⟩,dk4⟩:=hh;refine B4 ((KD.flight _ _).any (wpAny_landsW (E:=λ_ _=>False) (Q:=λ_ s''=>∃h',Heap.FlyingW B (X.env::X.outer) ea (.ref C) (.ref t) h'/\h4.UpToSlots h'/\s''={ s2 with heap:=h'}) held λh' a b=>⟨h',a,b,rfl⟩)) (λ_ s₃ hh=>?_) λ_ _ z=>z.elim;obtain⟨⟨h5,fly5,sm5,rfl⟩,dk5⟩:=hh;have inv:∀h6,Heap.FlyingW B (X.env::X.outer) ea (.ref C) (.ref t) h6->s2.heap.UpToSlots h6->DK s2.heap h6->∀tk,Inv X pins σ' (upd H' ea (yO ea C dx)) {s2 with heap:=h6,toks:=tk}:=λh6 f6 sm6 dk6 tk=>by
   obtain⟨oe,vs,e1,e2,e3,_⟩:=f6.first;have d6:=(zD dk6 ho2 e1).trans hd2;obtain⟨oc,od,odt,osl⟩:=oe;dsimp only at e2 e3 d6;subst e2 e3 d6;exact L7 I2 F f6.1 sm6 e1 tk
  have I5:=inv h5 fly5 (sm4.trans sm5) (dk4.trans dk5) s2.toks;obtain⟨nm,q',N,bs,sn,sub,ab,col,dd,k0,k1,k2,k3,k5,hC⟩:=c.obj;obtain⟨nm1,q1,N1,bs1,sn1,sub1,ab1,col1,dd1,j0,j1,j2,j3,j5,ni,hC0⟩:=c.base;obtain⟨oe,he1,he2⟩:=fly5.there;refine wpAny_handleBy_cons (codeAny_handlers_test (mF (X:=X.inExc (.ref ea)) I5.toExc hg hm ?_ hdb)) (by intro z;cases z);refine NU (I5.kIn _ _ hC) (I5.kIn _ _ hC0) he1 he2 ∎ (by simp) ?_;refine codeAny_handlers_suite_as ?_;refine B4 ((KD.flight _ _).any (lands_againW (E:=λ_ _=>False) (Q:=λ_ s''=>∃h',Heap.FlyingW B (X.env::X.outer) ea (.ref C) (.ref t) h'/\h5.UpToSlots h'/\s''={ s2 with heap:=h'}) fly5 λh' a b=>⟨h',a,b,rfl⟩)) (λ_ s₃ hh=>?_) λ_ _ z=>z.elim;obtain⟨⟨h6,fly6,sm6,rfl⟩,dk6⟩:=hh;have I6:=inv h6 fly6 ((sm4.trans sm5).trans sm6) ((dk4.trans dk5).trans dk6) s2.toks;refine qB (X:=X.inExc (.ref ea)) I6.toExc hN hi (.inl hk) (v:=.ref ea) rfl (λs7 I7=>?_) (.inr hk);refine B4 (hs (.ref ea) pins s7 _ _ (kP i D) I7 (q ea F.hea)) (λf s8 h8=>?_) λ_ _ z=>z.elim;show A2 _ X.A (do bindName X.env n .none;unbindBehindTheSuite X.env n hpos) (λ_ s₃=>SP X pins D f s₃) X.xe s8;cases f with
  |next=>
   obtain⟨σ2,H2,I8,q8⟩:=h8;exact qW (I8.ofExc I2.ok) hN hi hk λs9 I9=>⟨_,H2,I9,q8⟩
  |brk=>
   obtain⟨σ2,H2,I8,q8⟩:=h8;exact qW (I8.ofExc I2.ok) hN hi hk λs9 I9=>⟨_,H2,I9,q8⟩
  |cont=>
   obtain⟨σ2,H2,I8,q8⟩:=h8;exact qW (I8.ofExc I2.ok) hN hi hk λs9 I9=>⟨_,H2,I9,q8⟩
  |ret u=>
   obtain⟨v,σ2,H2,I8,r8,q8⟩:=h8;exact qW (I8.ofExc I2.ok) hN hi hk λs9 I9=>⟨v,_,H2,I9,r8,q8⟩
 ·cases f with
  |next=>
   obtain⟨σ2,H2,I8,q8⟩:=q;exact wpAny_execs_nil ⟨σ2,H2,I8.ofTry,q8⟩
  |brk=>obtain⟨σ2,H2,I8,q8⟩:=q;exact⟨σ2,H2,I8.ofTry,q8⟩
  |cont=>obtain⟨σ2,H2,I8,q8⟩:=q;exact⟨σ2,H2,I8.ofTry,q8⟩
  |ret u=>obtain⟨v,σ2,H2,I8,r8,q8⟩:=q;exact⟨v,σ2,H2,I8.ofTry,r8,q8⟩
end
end L2
namespace L2
open PySem PySem.Spec PyProof.Rows PySem.W Builtin Builtin.ObjectAttr
section
variable{prog:A7}{w:Bk}{A:Bu}{E:Af->Ai->Prop}{s:Ai}{K:Frag}{x C:Addr}{ox:Obj}{od:Option Obj}{name:Str}
structure XGet(K:Frag)(C:Addr):Prop where
 ga:findIn K (.ref C) "__getattribute__"=ae (ae (.builtin "BaseException.__getattribute__"))
 hk:findIn K (.ref C) "__getattr__"=ae ah
 sub:subIn K (.ref C) (.type "BaseException")=ae ai
theorem xK{fill expr:Bool}(X:K.In s.heap)(I:InstAt s.heap x ox C od)(G:XGet K C)
  (h:A2 (A6 prog w) A.in1 (D7.«object.__getattribute__» ⟨[.ref x,.str name tk],[]⟩) (λfin s'=>match fin with|.done (.ret v)=>A2 (A6 prog w) A (handedOut v) Q E s'|_=>False) (λ_ _=>False) s):
  A2 (A6 prog w) A (getAttrBy (.ref x) (.str name tk) fill expr) Q E s:=by
 have FX:=PySem.F.excAttr_ValueError;have ht:Looks (A6 prog w) s.heap (typeOf (.ref x)) (.ref C):=I.type;unfold getAttrBy;refine Ce (Aa (ht.here (Aa ((looks_findIn X G.ga).here ?_))));dsimp only;rw[show(onTheHeap (A3 C)&&Gw "BaseException.__getattribute__"==Gw "object.__getattribute__")=aj from by rw[show(Gw "BaseException.__getattribute__"==Gw "object.__getattribute__")=aj from by decide +kernel,Bool.and_false],if_neg ∎];refine Aa ((looks_hook X (mc:=.ref C) (r:=ah) (show(if onTheHeap (A3 C)=ai then findIn K (A3 C) "__getattr__" else ae ah)=ae ah from G.hk)).here (Aa (Eg (Ce ?_))));unfold callGetattribute;rw[show(expr&&onTheHeap (Gw "BaseException.__getattribute__"))=aj from Bool.and_false _,if_neg ∎];unfold boundAndCalled;rw[FX.ga.bind];refine Aa (Aj ?_);show A2 _ _ (call (.builtin "BaseException.__getattribute__") [.ref x,.str name tk]) _ _ _;refine G7 (Hb FX.ga.plain PySem.F.entry_bexc_ga ?_);refine @check_slot (A6 prog w) _ _ s "BaseException.__getattribute__" "BaseException" "__getattribute__" (.ref x) [.str name tk] [] _ ∅ ∅ (ht.andThen (looks_subIn X G.sub)) (PySem.F.args_bexc_ga (.ref x) (.str name tk)) ?_;refine B4 h (λfin s' z=>?_) λ_ _ z=>z.elim;rcases fin with(_|_|_|_)|_<;>first|exact z|exact z.elim
theorem MF(X:K.In s.heap)(I:InstAt s.heap x ox C od)(G:XGet K C)(hf:findObj K C od name=ae (.value v))(hh:handedIn v=ai)(h:Q v {s with toks:=s.toks+1}):
  A2 (A6 prog w) A (getAttr (.ref x) name expr) Q E s:=by
 unfold getAttr;refine Aa (wpAny_mkText (xK (s:={ s with toks:=s.toks+1}) X I G ?_));have L0:=I.type (M:=A6 prog w);have L1:=looks_find (M:=A6 prog w) X I hf;refine Aa (Aj (Aa (Aj (Aa (L0.here (s:={ s with toks:=s.toks+1}) (Aa (L1.here (s:={ s with toks:=s.toks+1}) ?_)))))));refine Aj ?_;show A2 _ _ (handedOut v) _ _ _;rw[handedOut_of hh];exact Aj h
theorem sJ(X:K.In s.heap)(I:InstAt s.heap x ox C (ae o))(G:XGet K C)(hf:findObj K C (ae o) "__class__"=ae (.bind (.builtin "getset_descriptor.__get__") (.builtin "object.__class__")))
  (hm:mroIn K C (.type "object")=ae ai) (h:Q (ae (.ref C)) {s with toks:=s.toks+1}):A2 (A6 prog w) A (getAttr? (.ref x) "__class__") Q E s:=by
 unfold getAttr? getAttrBy?;refine Aa (wpAny_mkText (Aa (Eg (B4 (xK (s:={ s with toks:=s.toks+1}) (E:=λ_ _=>False) (Q:=λv s'=>Q (ae v) s') X I G ?_) (λv s' hv=>Aj hv) λ_ _ z=>z.elim))));have L0:=I.type (M:=A6 prog w);have L1:=looks_find (M:=A6 prog w) X I hf;refine Aa (Aj (Aa (Aj (Aa (L0.here (s:={ s with toks:=s.toks+1}) (Aa (L1.here (s:={ s with toks:=s.toks+1}) ?_)))))));show A2 _ _ (bindTo _ _ _ _) _ _ _;unfold bindTo;refine Aa (Ce (G7 (class_get (s:={ s with toks:=s.toks+1}) (ox:=ox) (od:=ae o) X I hm ?_)));exact Aj (handed_on rfl h)
structure XCla(K:Frag)(C:Addr):Prop extends XGet K C where
 hd:hasDictIn K C=ai
 cl:findIn K (.ref C) "__class__"=ae (ae (.builtin "object.__class__"))
 gt:specialIn K (.builtin "object.__class__") "__get__"=ae (ae (.builtin "getset_descriptor.__get__"))
 tk:takesIn K (.builtin "object.__class__")=ae ai
 mr:mroIn K C (.type "object")=ae ai
theorem oz(G:XCla K C):KitX K (.ref x) (.ref C) (λh=>InstAt h x ox C (ae o)) where
 ty:=λ_ _ _ I=>I.type
 it:=λ_ _ X _=>by
  obtain⟨cd,hc,_⟩:=any_some G.hd;unfold clsIn at hc
  split at hc
  ·rename_i c' d' cd' sl' ho;intro A' Q' E' s' k q;unfold isType loadHead;exact Aa (wpAny_loadPart (k _ _ (X _ _ ho)) (Aj q))
  ·cases hc
 ne:=λh tp dd its n sl X htp=>by
  obtain⟨cd,hc,_⟩:=any_some G.hd;unfold clsIn at hc
  split at hc
  ·rename_i c' d' cd' sl' ho;refine beq_false_of_ne λz=>?_;cases z;rw[X _ _ ho]at htp;cases htp
  ·cases hc
 ca:=λX I h=>sJ X I G.toXGet (findObj_data (by obtain⟨cd,hc,_⟩:=any_some G.hd;rw[hc];rfl) G.cl G.gt G.tk) G.mr h
end
section
variable{X:Cx}{pins:List (Addr×Obj)}{σ:St}{H:Hp}{s:Ai}{ea C dx:Addr}{fs:List (Str×V)}
theorem tY(I:Inv X pins σ H s)(he:H ea=ae (yO ea C dx))(hd:H dx=ae (.xd fs)):∃ox o,InstAt s.heap ea ox C (ae o)/\∀f v,fs.lookup f=ae v->∃u,RelV v u/\lookIn f o=ae (ae u):=by
 obtain⟨⟨vs,sl,e⟩,_⟩:=I.hok _ _ he;obtain⟨mA,n1,hr⟩:=(show ObjOk X.prog X.w H s.heap dx (.xd fs)from I.hok _ _ hd);obtain⟨o,ho,hl'⟩:=CF n1;refine⟨_,o,⟨e,rfl,rfl,ho⟩,λf v hl=>?_⟩;obtain⟨u,hu',ru⟩:=RelO.some_of (v:=v) (o:=mA f) (by rw[<-hl];exact hr f);exact⟨u,ru,by rw[hl' f,hu']⟩
theorem DH{p p2 pos:Pos}(hg:Gl X "isinstance")(hm:X.mg "isinstance"=ah)(hc:PE X (.Name x2 p2) (tC v))(hv:∀u,RelV v u->u=c)(G:XCla X.K C)(hb:kitOne X.K (.ref C) c=ae b)(ha:PE X e te)
  (he:As [e,.Name x2 p2] X.env=(aj,eval e X.env)::As [.Name x2 p2] X.env:=by rfl) (he2:As [.Name x2 p2] X.env=(aj,eval (.Name x2 p2) X.env)::As [] X.env:=by rfl) (hpl:(Ct pos (As [.Name x2 p2] X.env)).any (·.1)=aj:=by rfl):
  PE X (.Call (.Name "isinstance" p) [e,.Name x2 p2] [] pos) (fC (λxs H Q=>∃ea dx fs,xs=[.ref ea,v]/\H ea=ae (yO ea C dx)/\H dx=ae (.xd fs)/\Q (.bl b) H) (dA te (dA (tC v) bS))):=by
 refine jg (λpins s σ H xs us Q I r h=>?_) hg hm PyProof.Rows.Boot.«isinstance» (b9 ha (b9 hc dH he2) he) (he:=he) (hpl:=hpl);obtain⟨ea,dx,fs,rfl,h1,h2,q⟩:=h;obtain⟨u1,u2,rfl,r1,r2⟩:=nI r;obtain rfl:u1=A3 ea:=r1;cases hv u2 r2;obtain⟨ox,o,J,_⟩:=tY I h1 h2;exact kia_one (oz G) I.kIn J hb (λz=>nomatch z) λtk=>⟨.bl b,H,I.tok _,rfl,q⟩
def Sz(C:Addr)(f:Str)(te:TE):TE:=λσ H Q=>te σ H λx H1=>∃ea dx fs v,x=.ref ea/\H1 ea=ae (yO ea C dx)/\H1 dx=ae (.xd fs)/\fs.lookup f=ae v/\Q v H1
theorem HY(G:XCla X.K C)(hf:findIn X.K (.ref C) f=ae ah)(ha:PE X e te)(hb:Gi e f X.env (eval e X.env)=eval e X.env:=by rfl):PE X (.Attribute e f pos) (Sz C f te):=by
 intro pins s σ H Q I h;refine Mq hb (aP (ha pins s σ H _ I h) λu s1 ⟨x,H1,I1,rx,ea,dx,fs,v,ex,h1,h2,hl,q⟩=>?_);subst ex;obtain rfl:u=A3 ea:=rx;obtain⟨ox,o,J,hv⟩:=tY I1 h1 h2;obtain⟨u',ru,hu⟩:=hv f v hl;exact MF I1.kIn J G.toXGet (findObj_own G.hd hf rfl hu) (Ju ru) ⟨v,H1,I1.tok _,ru,q⟩
end
end L2
namespace DL
open PySem L2
def CD(C:Ctx)(fz:Hp):Prop:=∀b o,C.fz b=ae o->fz b=ae o
def fL(C:Ctx)(T:TS)(W:aH):Prop:=∀(fz:Hp),CD C fz->∀(H:Hp)(B:Addr->Prop)(σ:St)(δ:Sl)(n:Int)(K:DEnds)(D:Ends),Rel {C with fz:=fz} H B σ δ n->W δ n K->EndsOk {C with fz:=fz} K D->T D σ H
structure DR(C:Ctx)(X:Cx)(st:Stmt)(T:TS)(W:aH):Prop where
 ps:PS X st T
 sd:fL C T W
structure DRs(C:Ctx)(X:Cx)(st:List Stmt)(T:TS)(W:aH):Prop where
 ps:PSs X st T
 sd:fL C T W
def l8(C:Ctx)(f:Str)(Cl:Addr)(EX:St->Addr->Addr->Hp->Prop)(Ed:Int->Sl->Int->Prop):Prop:=
 ∀(fz:Hp),CD C fz->∀(H:Hp)(B:Addr->Prop)(σ:St)(δ:Sl)(n:Int)(i:Int)(dx:Addr),Rel {C with fz:=fz} H B σ δ n->Ed i δ n->H dx=ae (.xd [(f,.int i)])->EX σ Cl dx H
section
variable{C:Ctx}{X:Cx}{st:Stmt}{rest:List Stmt}{T U:TS}{W V':aH}{e:Expr}{te:TE}{we:DT}{pos:Pos}
theorem DS.r(h:DS X st T W):DR C X st T W:=⟨h.ps,λfz _=>h.sd {C with fz:=fz}⟩
theorem DSs.r(h:DSs X l T W):DRs C X l T W:=⟨h.ps,λfz _=>h.sd {C with fz:=fz}⟩
theorem Mn(h:DR C X st T W)(h2:DRs C X rest U V'):DRs C X (st::rest) (jI T U) (av W V'):=⟨gf h.ps h2.ps,λfz hz H B σ δ n K D R q E=>
 h.sd fz hz H B σ δ n _ _ R q ⟨λH B σ δ n R q=>h2.sd fz hz H B σ δ n K D R q E,E.rt,E.bk,E.ct,E.rn⟩⟩
theorem Se(h:DR C X st T W):DRs C X [st] T W:=⟨fY h.ps,h.sd⟩
theorem sZ(hc:DC X c tc cc)(ha:DRs C X a T W)(hb:DRs C X b U V'):DR C X (.If c a b pos) (hZ tc T U) (aJ cc W V'):=⟨jo hc.pt ha.ps hb.ps,λfz hz H B σ δ n K D R q E=>
 hc.sd {C with fz:=fz} H B σ δ n _ _ R q λb H1 n1 R1 _ q1=>by
  cases b with
  |true=>
   rw[if_pos rfl]at q1 ⊢;exact ha.sd fz hz H1 B σ δ n1 K D R1 q1 E
  |false=>
   rw[if_neg Ag]at q1 ⊢;exact hb.sd fz hz H1 B σ δ n1 K D R1 q1 E⟩
theorem Rg(hi:DI X tg iter wi v)(hg:DG X tg g gd)(hb:DRs C X body T W)(hp:PassesOwn (A6 X.prog X.w) X.A X.env X.xe)(hc:X.calm=ai:=by rfl)
  (hs:∀x,D4 iter X.env x=pure x:=by intro _;rfl):DR C X (.For tg iter body [] pos) (lH wi g T) (aW v gd W):=⟨DD hp hc hi.pi hg.pg hb.ps hs,λfz hz H B σ δ n K D R q E=>
 hi.sd {C with fz:=fz} H B σ δ n _ _ R q λJ ds H1 n1 R1 k1 hJ q1=>by
  have ok:=hJ (cv H1 B) (kf H1 B);have R1':Rel {C with fz:=cv H1 B} H1 B σ δ n1:=R1.refz;have eM:∀{H B' σ δ n},Rel {C with fz:=cv H1 B} H B' σ δ n->Rel {C with fz:=fz} H B' σ δ n:=λR=>Rel.unfz (C:={ C with fz:=fz}) R λb o e=>(kf H1 B).2 b o (R1.fz b o e).1 (R1.fz b o e).2;refine⟨λi m σ H=>m=ds.length-i/\i<=ds.length/\∃B' δ n,Rel {C with fz:=cv H1 B} H B' σ δ n/\dJ gd W K (ds.drop i) δ n,⟨ds.length,by simp,Br _,B,δ,n1,R1',by simpa using q1⟩,?_⟩
  rintro i m σ2 H2 ⟨rfl,hi,B2,δ2,n2,R2,q2⟩
  have hfz:∀b o,cv H1 B b=ae o->H2 b=ae o:=λb o e=>(R2.fz b o e).1;by_cases hlt:i < ds.length
  ·rw[Dp hlt]at q2;refine .inr ⟨ok.go i H2 hfz hlt,λσ3 H3=>∃B' δ n,Rel {C with fz:=cv H1 B} H3 B' σ3 δ n/\dJ gd W K (ds.drop (i+1)) δ n,λσ' H' z=>⟨ds.length-(i+1),by omega,rfl,hlt,z⟩,λx H' hy=>?_⟩;obtain⟨sm,rd⟩:=ok.yld i H2 x H' ds[i] hfz (Al hlt) hy;have R3:=R2.same sm;refine hg.sd _ H' B2 σ2 δ2 n2 x ds[i] _ _ R3 (rd B2 (λb o e=>(R2.fz b o e).2) R2.ba) q2 λσ' δ' R4 q4=>?_;refine hb.sd _ (λb o e=>(kf H1 B).2 b o (R1.fz b o (hz b o e)).1 (R1.fz b o (hz b o e)).2) H' B2 σ' δ' n2 _ _ R4 q4 ⟨?_,?_,?_,?_,λH B σ δ n a xs ds R h0 h1 h2 h3 q=>E.rn H B σ δ n a xs ds (eM R) h0 h1 h2 h3 q⟩
   ·exact λH B σ δ n R q=>⟨B,δ,n,R,q⟩
   ·exact λH B σ δ n v w R r q=>E.rt H B σ δ n v w (eM R) r q
   ·exact λH B σ δ n R q=>E.nx H B σ δ n (eM R) q
   ·exact λH B σ δ n R q=>⟨B,δ,n,R,q⟩
  ·have e:i=ds.length:=by omega
   subst e;rw[List.drop_length]at q2;exact .inl ⟨ok.stop H2 hfz,E.nx H2 B2 σ2 δ2 n2 (eM R2) q2⟩⟩
def mP(w:DT)(Ed:Int->Sl->Int->Prop):aH:=λδ n _=>w δ n λx n1=>∃i,x=.d (.int i)/\Ed i δ n1
theorem QT(h:ee te we)(L:l8 C f Cl EX Ed):fL C (v8 Cl f EX te) (mP we Ed):=λfz hz H B σ δ n K D R q E=>
 h {C with fz:=fz} H B σ δ n _ _ R q λv x H1 n1 R1 k1 r1 q1=>by
  obtain⟨i,rfl,q2⟩:=q1;cases(show RdX H1 B v (.int i)from r1);intro ea dx n1' n2' ne;refine L fz hz (upd H1 dx (.xd [(f,.int i)])) B σ δ n1 i dx (R1.same λb o z=>?_) q2 bu;rw[aM (bO z n2')];exact z
end
end DL
namespace DL
open PySem L2 Nb
abbrev dE:=List Wv->Int->(Int->Prop)->(Int->Int->Prop)->Prop
def kG(Cl:Addr)(f:Str)(S:dE):Sp:=λvs H Q E=>∃(t:Addr)(l:TL)(ns:List Int)(B:Addr->Prop)(ws:List Wv)(n:Int)(Q0:Int->Prop)(E1:Int->Int->Prop),Tp H t l ns n/\B t/\(∀b,B b->H b≠ah)/\ARel H B t vs ws/\S ws n Q0 E1 /\
 (∀n',Q0 n'->∀v H',Tp H' t l ns n'->Kp t H H'->Q v H')/\∀i n',E1 i n'->∀dx H',Tp H' t l ns n'->Kp t H H'->H' dx=ae (.xd [(f,.int i)])->E (.ref Cl) (ae dx) H'
def nh(Q:Int->Prop):DEnds:={ nx:=λ_ n=>Q n,rt:=λ_ n=>Q n,rn:=λ_ n=>Q n}
section
variable{P:A7}{w:Bk}{K:Ah}{mg:Str->Option Af}{base:Heap}
theorem Fun.okE{W:(Int->Sl->Int->Prop)->aH}(F:Fun K x qual st fa fd)(Sc:FnScope N ps (cD st))(len:∀ws n Q E,S ws n Q E->ws.length=ps.length)
  (hbody:∀(cdv:Af)(A:Bu)(outer:List Env)(s:Ai)(H:Hp)(E:XK),Room k (A.deeper (Dv qual (cD st) s.heap.objs.size fa cdv))->
   ∀C Ed,l8 C f Cl (λ_ Cl dx H'=>E (.ref Cl) (ae dx) H') Ed->∃T,DRs C (cO (lG P w) P w K mg base N qual (cD st) fa cdv A outer s H E) (fF st) T (W Ed))
  (body:∀ws n Q E,S ws n Q E->W (λi _ n=>E i n) (gH N ws) n (nh Q)):FnOk P w K mg base (lG P w) (k+1) fa fd ps (kG Cl f S):=by
 obtain⟨oc,od,kV,doc,pm,an,cdv,ct,osl,rfl,lk,hcd⟩:=F.ex;refine rQ lk hcd Sc (λvs H Q E h=>?_) λA outer s H vs Q E hr h=>?_
 ·obtain⟨t,l,ns,B,ws,n,Q0,E1,_,_,_,r,q,_⟩:=h;rw[r.len];exact len ws n Q0 E1 q
 ·obtain⟨t,l,ns,B,ws,n,Q0,E1,T,bt,ba,r,q,kq,ke⟩:=h;obtain⟨T',d⟩:=hbody cdv A outer s H E hr ⟨t,l,ns,H,B,λ_=>ah⟩ (λi _ n=>E1 i n) λfz _ H' B' σ δ n' i dx R e hx=>ke i n' e dx H' R.tp R.kp hx;refine⟨T',d.ps,d.sd (λ_=>ah) (λ_ _ z=>z) H B _ _ n _ _ (uB T bt ba r) (body ws n Q0 E1 q) ⟨?_,?_,?_,?_,?_⟩⟩
  ·exact λH' B' σ δ n' R' q'=>kq n' q' .non H' R'.tp R'.kp
  ·exact λH' B' σ δ n' v x R' r' q'=>kq n' q' v H' R'.tp R'.kp
  ·exact λ_ _ _ _ _ _ z=>z.elim
  ·exact λ_ _ _ _ _ _ z=>z.elim
  ·exact λH' B' σ δ n' a xs ds R' h0 h1 h2 h3 q'=>kq n' q' (.ref a) H' R'.tp R'.kp
structure HasE(P:A7)(w:Bk)(K:Ah)(mg:Str->Option Af)(base:Heap)(k:Nat)(x:Str)(ps:List Str)(Cl:Addr)(f:Str)(S:dE):Prop where
 ex:∃(fa:Addr)(fd:B9),FnOk P w K mg base (lG P w) k fa fd ps (kG Cl f S)/\Binds K fd ps []/\mg x=ae (.ref fa)/\B5 K (.ref fa)=ai
end
end DL
namespace L2
open PySem PySem.Spec PyProof.Rows
def mC(sp:Sp)(EX:St->XK)(t:TA):TE:=λσ H Q=>t σ H λvs H1=>sp vs H1 Q (EX σ)
theorem Pz{p pos:Pos}(F:FnOk X.prog X.w X.K X.mg X.base CX k f fd ps sp)(hr:Room k X.A)(hg:Gl X x)(hm:X.mg x=ae (.ref f))(hk:B5 X.K (.ref f)=ai)(hb:Binds X.K fd ps [])
  (hx:∀pins σ H s e s',Inv X pins σ H s->CX X.stack H s (EX σ) e s'->X.xe e s') (ha:PA X (e::es) t) (hdb:(x==("__debug__":Str))=aj:=by decide) (he:As (e::es) X.env=(aj,eval e X.env)::As es X.env:=by rfl) (hpl:(Ct pos (As es X.env)).any (·.1)=aj:=by rfl):
  PE X (.Call (.Name x p) (e::es) [] pos) (mC sp EX t):=by
 intro pins s σ H Q I h;refine Gn (mF I hg hm ?_ hdb);refine PySem.W.callWith_K (h₀:=X.base) I.ok.mod.kin hk (aP (ha pos pins s σ H _ I h) λus s1 ⟨vs,H1,I1,r,q⟩=>⟨I1.kIn,?_⟩) he hpl;have hl:us.length=ps.length:=by rw[<-r.length];exact F.len _ _ _ _ q
 have hb':=hb s1 us I1.kIn (by rw[Bv];exact hl);rw[Bv]at hb';refine G7 (F6 (F.run X.A X.stack s1 H1 ⟨us,[]⟩ us vs Q (EX σ) hr I1.env0 hb' r q) λr s' hq=>?_);cases r with
 |error e=>exact hx pins σ H1 s1 e s' I1 hq
 |ok fl=>
  cases fl with
  |ret u=>exact I1.after hq
  |next=>exact False.elim hq
  |brk=>exact False.elim hq
  |cont=>exact False.elim hq
end L2
namespace DL
open PySem L2 Nb
def jr(S:dE)(w:dZ)(Ed:Int->Sl->Int->Prop):aH:=λδ n K=>w δ n λxs n1=>S xs n1 (λn2=>K.nx δ n2) λi n2=>Ed i δ n2
theorem w6(h:gR t w)(L:l8 C f Cl (λσ Cl dx H=>EX σ (.ref Cl) (ae dx) H) Ed):fL C (j9 (mC (kG Cl f S) EX t)) (jr S w Ed):=λfz hz H B σ δ n K D R q E=>
 h {C with fz:=fz} H B σ δ n _ _ R q λvs xs H1 n1 R1 k1 r1 q1=>
  ⟨C.t,C.l,C.ns,B,xs,n1,_,_,R1.tp,R1.bt,R1.ba,r1,q1,λn' q2 v H' T' k'=>E.nx H' B σ δ n' (R1.step T' k') q2,λi n' q2 dx H' T' k' hx=>L fz hz H' B σ δ n' i dx (R1.step T' k') q2 hx⟩
theorem vi{α:Type}{l:List (Option α)}{y:α}(e:(l.set i ah)[j]?=ae (ae y)):j≠i/\l[j]?=ae (ae y):=by
 by_cases h:j=i
 ·subst h;rw[List.getElem?_set]at e
  split at e
  ·split at e<;>cases e
  ·rename_i z;exact absurd rfl z
 ·exact⟨h,by rw[Bw (Ne.symm h)]at e;exact e⟩
theorem Rel.drop(R:Rel C H B σ δ n):Rel C H B (σ.set i ah) (δ.set i ah) n where
 tp:=R.tp
 kp:=R.kp
 t0:=R.t0
 l0:=R.l0
 g0:=R.g0
 fz:=R.fz
 bt:=R.bt
 b0:=R.b0
 ba:=R.ba
 a0:=R.a0
 sl:=λj y e=>by
  obtain⟨ne,e'⟩:=vi e;obtain⟨u,h1,h2⟩:=R.sl j y e';exact⟨u,by rw[Bw (Ne.symm ne)];exact h1,h2⟩
 ow:=λj k y z u e1 e2 o1 o2 f1 f2=>by
  obtain⟨ne1,e1'⟩:=vi e1;obtain⟨ne2,e2'⟩:=vi e2;rw[Bw (Ne.symm ne1)]at f1;rw[Bw (Ne.symm ne2)]at f2;exact R.ow j k y z u e1' e2' o1 o2 f1 f2
 len:=by rw[Cg,Cg];exact R.len
def Suite(f:Str)(Cl:Addr)(ie j:Nat)(th:TS):Prop:=∀(D:Ends)(σ:St)(H:Hp)(ea dx:Addr)(i:Int),σ[ie]?=ae (ae (.ref ea))->H ea=ae (yO ea Cl dx)->H dx=ae (.xd [(f,.int i)])->
 (∀H',gX H H'->D.nx (σ.set j (ae (.int i))) H')->th D σ H
def jK(ie j:Nat)(Wb:(Int->Sl->Int->Prop)->aH):aH:=λδ n K=>Wb (λi δ' n'=>ie < δ'.length/\K.nx ((δ'.set j (ae (.w (.d (.int i))))).set ie ah) n') δ n K
theorem RK(c:XCl K' Cl C0)(hj:j≠ie)(hth:Suite f Cl ie j th)
  (hsd:∀C EX Ed,l8 C f Cl (λσ Cl dx H=>EX σ (.ref Cl) (ae dx) H) Ed->fL C (tb EX) (Wb Ed)):iB (ly K' C0 ie tb th) (jK ie j Wb):=λC H B σ δ n K D R q E=>by
 refine hsd C (kU K' C0 ie th D) _ (λfz hz H1 B1 σ1 δ1 n1 i dx R1 e1 hx=>?_) C.fz (λ_ _ z=>z) H B σ δ n K D R q E;refine⟨Cl,dx,rfl,rfl,c,λea hea=>hth _ _ _ ea dx i ?_ bu (by rw[aM (bO hx hea)];exact hx) λH' sm=>?_⟩
 ·exact D6 (by rw[R1.len];exact e1.1)
 ·have R2:Rel C H1 B1 σ1 δ1 n1:=R1.unfz hz;have R3:=R2.same (H':=H') λb o z=>sm b o (by rw[aM (bO z hea)];exact z);have R4:=(R3.set (i:=j) (v:=.int i) (x:=.d (.int i)) (show RdX H' B1 (.int i) (.int i)from .int i) rfl).drop (i:=ie);show D.nx (((σ1.set ie (ae (.ref ea))).set j (ae (.int i))).set ie ah) H';have e:((σ1.set ie (ae (.ref ea))).set j (ae (.int i))).set ie ah=(σ1.set j (ae (.int i))).set ie ah:=by rw[List.set_comm _ _ hj.symm,List.set_set]
  rw[e];exact E.nx H' B1 _ _ n1 R4 e1.2
end DL
namespace L2
open PySem PySem.Spec PyProof.Rows PySem.W
theorem EN:∀(cs:List Addr)(its:List Af),Vals (cs.map V.ref) its->its=cs.map A3
 |[],_,.nil=>rfl
 |c::cs,_,.cons a b=>by rw[EN cs _ b,show _=A3 c from a];rfl
section
variable{X:Cx}{Cl c1 c2 c3:Addr}{xc xf xe x1 x2 x3:Str}{ie j:Nat}{f:Str}
theorem Py{p pos tp:Pos}{cs:List Addr}(hg:Gl X "isinstance")(hm:X.mg "isinstance"=ah)(G:XCla X.K Cl)(hb:kitAny X.K (.ref Cl) (cs.map A3)=ae b)(ha:PE X e te)(hc:PE X (.Tuple es x' tp) (iC tc))
  (he:As [e,.Tuple es x' tp] X.env=(aj,eval e X.env)::As [.Tuple es x' tp] X.env:=by rfl) (he2:As [.Tuple es x' tp] X.env=(aj,eval (.Tuple es x' tp) X.env)::As [] X.env:=by rfl) (hpl:(Ct pos (As [.Tuple es x' tp] X.env)).any (·.1)=aj:=by rfl):
  PE X (.Call (.Name "isinstance" p) [e,.Tuple es x' tp] [] pos) (fC (λxs H Q=>∃ea dx fs t,xs=[.ref ea,.ref t]/\H ea=ae (yO ea Cl dx)/\H dx=ae (.xd fs)/\H t=ae (.tup (cs.map V.ref))/\Q (.bl b) H) (dA te (dA (iC tc) bS))):=by
 refine jg (λpins s σ H xs us Q I r h=>?_) hg hm PyProof.Rows.Boot.«isinstance» (b9 ha (b9 hc dH he2) he) (he:=he) (hpl:=hpl);obtain⟨ea,dx,fs,t,rfl,h1,h2,h3,q⟩:=h;obtain⟨u1,u2,rfl,r1,r2⟩:=nI r;obtain rfl:u1=A3 ea:=r1;obtain rfl:u2=A3 t:=r2;obtain⟨ox,o,J,_⟩:=tY I h1 h2;obtain⟨_,its,rv,ot,e1,e2,⟨n,e3⟩,e4⟩:=(show ObjOk X.prog X.w H s.heap t (.tup (cs.map V.ref))from I.hok _ _ h3);have ei:=EN cs its rv;subst ei;obtain⟨oc,od,odt,osl⟩:=ot;dsimp only at e2 e3 e4;subst e2 e3 e4;exact kia_tup (oz G) I.kIn J e1 hb (λz=>nomatch z) λtk=>⟨.bl b,H,I.tok _,rfl,q⟩
theorem MO{q0 q1 q2 q3 q4 q5 q6 q7 q8 q9 q10 q11 q12 q13 q14 q15 q16 q17 q18 q19 q20 q21 q22 q23 q24 q25 q26 q27 q28 q29 q30 q31 q32 q33 q34:Pos}(hN:X.N.Nodup)(hj:X.N[j]?=ae xf)(he:X.N[ie]?=ae xe)(hjl:X.env.scope.names.lookup xf=ae .local)(hel:X.env.scope.names.lookup xe=ae .local)(hne:j≠ie)
  (hgI:Gl X "isinstance") (hmI:X.mg "isinstance"=ah) (hgV:Gl X "ValueError") (hmV:X.mg "ValueError"=ah) (hgb:Gl X "bool") (hmb:X.mg "bool"=ah) (hgc:Gl X xc) (hmc:X.mg xc=ae (.ref Cl))
  (hg1:Gl X x1) (hm1:X.mg x1=ae (.ref c1)) (hg2:Gl X x2) (hm2:X.mg x2=ae (.ref c2)) (hg3:Gl X x3) (hm3:X.mg x3=ae (.ref c3)) (G:XCla X.K Cl) (hf:findIn X.K (.ref Cl) f=ae ah)
  (hV:kitOne X.K (.ref Cl) (.type "ValueError")=ae ai) (hT:kitAny X.K (.ref Cl) [.ref c1,.ref c2,.ref c3]=ae aj)
  (d1:(xc==("__debug__":Str))=aj) (d2:(x1==("__debug__":Str))=aj) (d3:(x2==("__debug__":Str))=aj) (d4:(x3==("__debug__":Str))=aj) (d5:(xe==("__debug__":Str))=aj) (d6:(xe==("__classdict__":Str))=aj)
  (s1:Da (.Constant (.str "other") k1 q1) (ae (.Name xf q0)) q2.line X.env=pure aj) (s2:Da (.Attribute (.Name xe q16) f q17) (ae (.Name xf q15)) q18.line X.env=pure aj)
  (s3:Da (.Constant (.str "other") k2 q32) (ae (.Name xf q31)) q33.line X.env=pure aj):
  ∃th,(∀e0,PSs (X.inExc e0) [.Assign [.Name xf q0] (.Constant (.str "other") k1 q1) q2,
   .If (.BoolOp .And [.Call (.Name "isinstance" q3) [.Name xe q4,.Name xc q5] [] q6,.Call (.Name "isinstance" q7) [.Name xe q8,.Name "ValueError" q9] [] q10,.UnaryOp .Not (.Call (.Name "isinstance" q11) [.Attribute (.Name xe q12) f q13,.Name "bool" q14] [] q19) q20] q21) [.Assign [.Name xf q15] (.Attribute (.Name xe q16) f q17) q18] [] q22,
   .If (.Call (.Name "isinstance" q23) [.Name xe q26,.Tuple [.Name x1 q27,.Name x2 q28,.Name x3 q29] kt q30] [] q24) [.Assign [.Name xf q31] (.Constant (.str "other") k2 q32) q33] [] q25] th)/\DL.Suite f Cl ie j th:=by
 have ve:∀{e0:Af}{q:Pos},PE (X.inExc e0) (.Name xe q) (cC ie):=fJ he (.inl hel) d5 d6;have k:kitOne X.K (.ref Cl) (.ref Cl)=ae ai:=by unfold kitOne;rw[if_pos (beq_self_eq_true _)]
 apply De;refine⟨λe0=>?a,?b⟩
 case a=>exact gf (gT hN hj (.inl hjl) sk s1 (.inr hjl)) (gf (jo (PW.pt (qc (oP (DH hgI hmI (ju (v:=.ref Cl) hgc hmc rfl d1) (λu r=>r) G k ve))
  (qc (oP (DH hgI hmI (tL (v:=.ty "ValueError") hgV hmV PyProof.Rows.Boot.«ValueError» rfl) (λu r=>r) G hV ve))
   (vI (Ih (oP (jg (show CallR (X.inExc e0) (.builtin "isinstance") (λxs H Q=>∃x t b,xs=[x,V.ty "bool"]/\TyOf X.K H x t/\kitOne X.K t (.type "bool")=ae b/\Q (.bl b) H)from AN) hgI hmI PyProof.Rows.Boot.«isinstance» (b9 (HY G hf ve) (b9 (tL (v:=.ty "bool") hgb hmb PyProof.Rows.Boot.«bool» rfl) dH)))))))))
   (fY (gT hN hj (.inl hjl) (HY G hf ve) s2 (.inr hjl))) lY)
  (fY (jo (oP (Py (cs:=[c1,c2,c3]) hgI hmI G hT ve (ur (b9 (ju (v:=.ref c1) hg1 hm1 rfl d2) (b9 (ju (v:=.ref c2) hg2 hm2 rfl d3) (b9 (ju (v:=.ref c3) hg3 hm3 rfl d4) dH)))))) (fY (gT hN hj (.inl hjl) sk s3 (.inr hjl))) lY)))
 intro D σ H ea dx i he1 hH hx kq;have e1:(σ.set j (ae (.str "other")))[ie]?=ae (ae (.ref ea)):=by rw[Bw hne];exact he1
 have e2:((σ.set j (ae (.str "other"))).set j (ae (.int i)))[ie]?=ae (ae (.ref ea)):=by rw[Bw hne];exact e1
 have lk:List.lookup f [(f,V.int i)]=ae (.int i):=by simp only[List.lookup,beq_self_eq_true]
 show jI _ _ D (σ.set j (ae (.str "other"))) H;refine⟨.ref ea,e1,ea,dx,_,rfl,hH,hx,ai,rfl,?_⟩;show if ai=ai then _ else _
 rw[if_pos rfl];refine⟨.ref ea,e1,ea,dx,_,rfl,hH,hx,ai,rfl,?_⟩;show if ai=ai then _ else _
 rw[if_pos rfl];refine⟨.ref ea,e1,ea,dx,_,.int i,rfl,hH,hx,lk,.int i,.type "int",aj,rfl,.int i,?_,aj,rfl,?_⟩
 ·unfold kitOne kitCls;rw[if_neg ∅];rfl
 show if ai=ai then _ else _
 rw[if_pos rfl];refine⟨.ref ea,e1,ea,dx,_,.int i,rfl,hH,hx,lk,?_⟩;dsimp only[gm];refine⟨.ref ea,e2,by show 3<=Ay;decide,λp hp=>?_⟩;have n1:ea≠p:=bO hH hp;have n2:dx≠p:=bO hx hp;refine⟨ea,dx,_,p,rfl,by rw[aM n1];exact hH,by rw[aM n2];exact hx,bu,aj,rfl,?_⟩;show if aj=ai then _ else _
 rw[if_neg Ag];show D.nx ((σ.set j (ae (.str "other"))).set j (ae (.int i))) _;rw[List.set_set];exact kq _ λb o z=>by rw[aM (bO z hp)];exact z
end
end L2
namespace DL
open PySem L2 Nb
section
variable{X:Cx}{a b:Expr}{ta tb:TE}{wa wb:DT}{pos:Pos}
def wm(wa wb:DT):fk:=λδ n Q=>wa δ n λx n1=>wb δ n1 λy n2=>∃(ds:List Ab)(k:Nat),x=.d (.list ds)/\y=.d (.int k)/\k<=20/\ds.length<=40/\Q (Bn k ds).flatten n2
theorem HN:∀{xs ys:List V}{ds es:List Ab},RdXs H B xs ds->RdXs H B ys es->RdXs H B (xs++ys) (ds++es)
 |_,_,_,_,.nil,h=>h
 |_,_,_,_,.cons a b,h=>.cons a (HN b h)
theorem AB(h:RdXs H B xs ds):∀k:Nat,RdXs H B (Bn k xs).flatten (Bn k ds).flatten
 |0=>.nil
 |k+1=>by rw[D3,Fl,D3,Fl];exact HN h (AB h k)
theorem xM:∀{xs:List V}{ds:List Ab},RdXs H B xs ds->xs.length=ds.length
 |_,_,.nil=>rfl
 |_,_,.cons _ b=>congrArg (·+1) (xM b)
theorem Sw(ha:DE X a ta wa)(hb:DE X b tb wb):DF X (.BinOp a .Mult b pos) (dF px ta tb) (wm wa wb):=⟨d8 MB ha.pe hb.pe,λC H B σ δ n Q Q' R z k=>
 ha.sd C H B σ δ n _ _ R z λv x H1 n1 R1 k1 r1 q1=>hb.sd C H1 B σ δ n1 _ _ R1 q1 λu y H2 n2 R2 k2 r2 q2=>by
  obtain⟨ds,m,rfl,rfl,hm,hl,kq⟩:=q2;cases(show RdX H2 B u (.int m)from r2);cases(show RdX H2 B v (.list ds)from r1.kp k2 R1.bt)with
  |@lst l xs _ e1 e2 e3 e4=>
   have hx:=xM e4;have hb:xs.length*m<=800:=by
    have:=Nat.mul_le_mul (show xs.length<=40 by omega) hm;omega
   refine⟨l,m,_,rfl,rfl,e1,by omega,?_,?_,λD hD=>?_⟩
   ·have:(2:Int)^63=9223372036854775808:=by decide
    omega
   ·rw[Bq];exact fh ⋯
   ·rw[Bq];refine k D _ _ _ n2 (R2.new hD) ((k1.trans k2).trans (Kp.new hD)) (R2.was (k1.trans k2) hD) bu ?_ ((AB e4 m).fresh hD) kq;rw[rf,Nat.mul_comm];exact fh ⋯⟩
end
end DL
namespace Nb
open PySem L2 DL
def zv(c:Nat):Bool:=!decide ([c] < ("a":Str).cps.toList)&&!decide (("z":Str).cps.toList < [c])
theorem rg{rest:Sl}(P:Ab->Prop)(p)(f)(hp:∀d n Q',P d->Q' (p d) n->c (ae (.w (.d d))::rest) n Q')(h:∀d n Q',P d->Q' (.d (f d)) n->w (ae (.w (.d d))::rest) n Q'):
  ∀(items acc:List Ab)(x:Option SV)(n:Int),(∀d∈items,P d)->Q (acc++(items.filter p).map f) n->cM (aI 0) c w Q items acc (x::rest) n
 |[],acc,x,n,hP,q=>by
  rw[List.filter_nil,List.map_nil,Bv]at q;exact q
 |d::r,acc,x,n,hP,q=>by
  simp only[cM,aI,E8];refine hp d n _ (hP d A0) ?_;cases e:p d with
  |true=>
   rw[if_pos rfl];refine h d n _ (hP d A0) ?_;refine rg P p f hp h r (acc++[f d]) _ n (λe he=>hP e (Aw _ he)) ?_;rw[List.filter_cons_of_pos e]at q;rw[Bj];exact q
  |false=>
   rw[if_neg Ag];refine rg P p f hp h r acc _ n (λe he=>hP e (Aw _ he)) ?_;rw[List.filter_cons_of_neg (by rw[e];exact Ag)]at q;exact q
def okD:Ab->Bool
 |.str y=>!decide (y.cps.toList < ("a":Str).cps.toList)&&!decide (("z":Str).cps.toList < y.cps.toList)
 |_=>aj
theorem GX{r:Int}(h0:0<=r)(h1:r < xs.length):∃v,c7 xs r=ae v/\v∈xs:=by
 obtain⟨j,rfl⟩:=Gg h0;have hj:j < xs.length:=by omega
 exact⟨xs[j],fq (Al hj),Cz hj⟩
theorem l6(d):gj "str" d=match d with|.str _=>ai|_=>aj:=by cases d<;>rfl
theorem jb{A B:Prop}(h1:b=ai->A)(h2:b=aj->B):if b=ai then A else B:=by
 cases b with
 |true=>rw[if_pos rfl];exact h1 rfl
 |false=>rw[if_neg Ag];exact h2 rfl
theorem xX(h:n < 2 ^ 40)(h0:0 < many)(h1:many < 1073741824)(k:∀r:Int,0<=r->r < many->Q (.d (.int r)) (n+1)):ck [.tp,.d (.int many)] n Q:=⟨⟨h,h0,h1⟩,k⟩
theorem rP(h0:0<=r)(h1:r < (ds.length:Int))(k:∀d∈ds,Q (.d d) n):az (.d (.list ds)) (.d (.int r)) n Q:=by
 obtain⟨v,hv,hm⟩:=GX h0 h1;show match c7 ds r with|some d=>Q (.d d) n|none=>False
 simp only[hv];exact k v hm
theorem Rb{rest:Sl}(c:Nat)(h:∀d n Q',n+(c:Int) < 2 ^ 39->(∀y n',n'<=n+(c:Int)->Q' (.d y) n')->w (ae (.w (.d d))::rest) n Q'):
  ∀(items acc:List Ab)(x:Option SV)(n:Int),n+(c:Int)*(items.length:Int) < 2 ^ 39->(∀ds n',n'<=n+(c:Int)*(items.length:Int)->Q ds n')->cM (aI 0) cQ w Q items acc (x::rest) n
 |[],acc,x,n,hn,q=>q acc n (by simp)
 |d::r,acc,x,n,hn,q=>by
  simp only[cM,aI,cQ,if_true,E8];rw[Ar]at hn q;have e:(c:Int)*((r.length+1:Nat):Int)=(c:Int)*(r.length:Int)+c:=by rw[Int.natCast_add,Int.mul_add];simp
  rw[e]at hn q;have hc:0<=(c:Int)*(r.length:Int):=Int.mul_nonneg (Hf _) (Hf _);refine h d n _ ⋯ λy n' hn'=>?_;exact Rb c h r (acc++[y]) _ n' ⋯ λds n'' h''=>q ds n'' ⋯
theorem fj(n):(bM 0 n).length=n:=by unfold bM;simp
theorem sE{rest:Sl}(P:Ab->Prop)(c:Nat)(h:∀d n Q',n+(c:Int) < 2 ^ 39->(∀y n',P y->n'<=n+(c:Int)->Q' (.d y) n')->w (ae (.w (.d d))::rest) n Q'):
  ∀(items acc:List Ab)(x:Option SV)(n:Int),n+(c:Int)*(items.length:Int) < 2 ^ 39->(∀ds n',ds.length=items.length->(∀d∈ds,P d)->n'<=n+(c:Int)*(items.length:Int)->Q (acc++ds) n')->cM (aI 0) cQ w Q items acc (x::rest) n
 |[],acc,x,n,hn,q=>by
  have:=q [] n rfl (by simp) (by simp);rwa [Bv]at this
 |d::r,acc,x,n,hn,q=>by
  simp only[cM,aI,cQ,if_true,E8];rw[Ar]at hn q;have e:(c:Int)*((r.length+1:Nat):Int)=(c:Int)*(r.length:Int)+c:=by rw[Int.natCast_add,Int.mul_add];simp
  rw[e]at hn q;have hc:0<=(c:Int)*(r.length:Int):=Int.mul_nonneg (Hf _) (Hf _);refine h d n _ ⋯ λy n' hy hn'=>?_;refine sE P c h r (acc++[y]) _ n' ⋯ λds n'' hl hds h''=>?_;rw[Bj];refine q (y::ds) n'' (by rw[Ar,hl]) (λd hd=>?_) ⋯;rcases Au.mp hd with rfl|z
  ·exact hy
  ·exact hds d z
theorem eq_str(a)(h):iS a (.str h)=ae (bq h a):=by cases a<;>rfl
theorem eq_int(i j):iS (.int i) (.int j)=ae (decide (i=j)):=rfl
theorem Sj(a)(r:List α):c7 (a::r) 0=ae a:=fq (j:=0) rfl
theorem Q1(a b)(r:List α):c7 (a::b::r) 1=ae b:=fq (j:=1) rfl
section
variable{δ:Sl}{n:Int}{Q:DQ}{K:DEnds}{W V:aH}{i j:Nat}{a b d:Ab}{r ds:List Ab}{h:Str}
theorem aC(h:W δ n {K with nx:=λδ n=>V δ n K}):av W V δ n K:=h
theorem au(e:δ[i]?=ae (ae (.w x)))(k:Q x n):ak i δ n Q:=by unfold ak;rw[e];exact k
theorem oN{m:Nat}(e:δ[i]?=ae (ae (.w (.d (.tuple ds)))))(e2:ds[m]?=ae a)(k:Q (.d a) n):w2 (ak i) (wC (.int (m:Int))) az δ n Q:=by
 unfold w2;refine au e ?_;unfold wC az;simp only[fq e2];exact k
theorem dj(e:δ[i]?=ae (ae (.w (.d (.tuple (a::r))))))(k:Q (.d a) n):w2 (ak i) (wC (.int 0)) az δ n Q:=oN (m:=0) e rfl k
theorem de(e:δ[i]?=ae (ae (.w (.d (.tuple (a::b::r))))))(k:Q (.d b) n):w2 (ak i) (wC (.int 1)) az δ n Q:=oN (m:=1) e rfl k
theorem gM(e:δ[i]?=ae (ae (.w (.d d))))(k:Q (.d (.bool (bq h d))) n):w2 (ak i) (wC (.str h)) aT δ n Q:=by
 unfold w2;refine au e ?_;unfold wC aT;simp only[eq_str];exact k
theorem j8(e:δ[i]?=ae (ae (.w (.d (.tuple (a::r))))))(k:Q (.d (.bool (bq h a))) n):w2 (w2 (ak i) (wC (.int 0)) az) (wC (.str h)) aT δ n Q:=by
 show w2 (ak i) (wC (.int 0)) az δ n λx n1=>wC (.str h) δ n1 λy n2=>aT x y n2 Q;refine dj e ?_;unfold wC aT;simp only[eq_str];exact k
theorem cZ(k:c δ n λb n1=>if b=ai then W δ n1 K else V δ n1 K):aJ c W V δ n K:=k
theorem BQ(e:δ[i]?=ae (ae (.w (.d d))))(hT:bq h d=ai->W δ n K)(hF:bq h d=aj->V δ n K):aJ (cT (w2 (ak i) (wC (.str h)) aT)) W V δ n K:=by
 unfold aJ cT;exact gM e (jb hT hF)
theorem sX(e:δ[i]?=ae (ae (.w (.d (.tuple (a::r))))))(hT:bq h a=ai->W δ n K)(hF:bq h a=aj->V δ n K):aJ (cT (w2 (w2 (ak i) (wC (.int 0)) az) (wC (.str h)) aT)) W V δ n K:=by
 unfold aJ cT;exact j8 e (jb hT hF)
theorem mh(e:δ[i]?=ae (ae (.w (.d d))))(z:bq h d=aj)(hF:V δ n K):aJ (cT (w2 (ak i) (wC (.str h)) aT)) W V δ n K:=BQ e (λq=>by rw[z]at q;cases q) λ_=>hF
theorem zw(e:δ[i]?=ae (ae (.w (.d d))))(z:bq h d=ai)(hT:W δ n K):aJ (cT (w2 (ak i) (wC (.str h)) aT)) W V δ n K:=BQ e (λ_=>hT) λq=>by rw[z]at q;cases q
theorem jJ(e:δ[i]?=ae (ae (.w (.d (.tuple (a::r))))))(z:bq h a=aj)(hF:V δ n K):aJ (cT (w2 (w2 (ak i) (wC (.int 0)) az) (wC (.str h)) aT)) W V δ n K:=sX e (λq=>by rw[z]at q;cases q) λ_=>hF
theorem m3(e:δ[i]?=ae (ae (.w (.d (.tuple (a::r))))))(z:bq h a=ai)(hT:W δ n K):aJ (cT (w2 (w2 (ak i) (wC (.int 0)) az) (wC (.str h)) aT)) W V δ n K:=sX e (λ_=>hT) λq=>by rw[z]at q;cases q
end
theorem sq:bq "is" (.str "is")=ai:=by decide +kernel
theorem R9:bq "is" (.str "any")=aj:=by decide +kernel
theorem Ji:bq "is" (.str "word")=aj:=by decide +kernel
theorem P0:bq "is" (.str "number")=aj:=by decide +kernel
theorem Kl:bq "is" (.str "bind")=aj:=by decide +kernel
theorem sj:bq "is" (.str "as")=aj:=by decide +kernel
theorem JZ:bq "word" (.str "word")=ai:=by decide +kernel
theorem Qc:bq "word" (.str "number")=aj:=by decide +kernel
theorem Ku:bq "as" (.str "bind")=aj:=by decide +kernel
theorem RU:bq "as" (.str "as")=ai:=by decide +kernel
theorem tP:bq "bind" (.str "bind")=ai:=by decide +kernel
section
variable{δ:Sl}{n:Int}{Q:DQ}{K:DEnds}{W V:aH}{i j:Nat}{a b d:Ab}{r ds:List Ab}
theorem ar(k:wa δ n λx n1=>wb δ n1 λy n2=>g x y n2 Q):w2 wa wb g δ n Q:=k
theorem bE(h:∀Q:DQ,Q (.d x) n->w δ n Q)(k:K.nx (δ.set i (ae (.w (.d x)))) n):aB i w δ n K:=h _ k
theorem iD(k:K.nx (δ.set i (ae (.own []))) n):bC i (aO ao) δ n K:=⟨Br _,k⟩
theorem cg(k:Q (.d a) n):az (.d (.tuple (a::r))) (.d (.int 0)) n Q:=by
 show(match c7 (a::r) 0 with|some d=>Q (.d d) n|none=>False);rw[Sj];exact k
theorem e9(k:Q (.d b) n):az (.d (.tuple (a::b::r))) (.d (.int 1)) n Q:=by
 show(match c7 (a::b::r) 1 with|some d=>Q (.d d) n|none=>False);rw[Q1];exact k
theorem dz(k:Q (.d c) n):az (.d (.tuple (a::b::c::r))) (.d (.int 2)) n Q:=by
 show(match c7 (a::b::c::r) 2 with|some d=>Q (.d d) n|none=>False);rw[show c7 (a::b::c::r) 2=ae c from fq (j:=2) rfl];exact k
theorem aD(k:Q (.d c) n):wC c δ n Q:=k
theorem aR(k:w δ n λx n1=>g [x] n1 Q):wB g (aq w ao) δ n Q:=k
theorem cq(k:w δ n λx n1=>S [x] n1 Q):aF S (aq w ao) δ n Q:=k
theorem bV(k:w δ n λx n1=>w' δ n1 λy n2=>S [x,y] n2 Q):aF S (aq w (aq w' ao)) δ n Q:=k
theorem bH(k:w δ n λx n1=>w' δ n1 λy n2=>w'' δ n2 λz n3=>S [x,y,z] n3 Q):aF S (aq w (aq w' (aq w'' ao))) δ n Q:=k
theorem a9(k:w δ n λds n1=>Q (.d (.list ds)) n1):br w δ n Q:=k
theorem i9{Q:List Ab->Int->Prop}(hw:∀Q:DQ,Q (.d (.tuple ds)) n->w δ n Q)(k:cM g c e Q ds [] (jN fr δ) n):cG fr (dS w) g c e δ n Q:=by
 unfold cG dS;exact hw _ k
theorem tI(e:δ[i]?=ae (ae (.w (.d (.tuple ds)))))(k:Q (.d (.int ds.length)) n):wB bF (aq (ak i) ao) δ n Q:=aR (au e k)
theorem LN(e:δ[j]?=ae (ae (.w (.d (.tuple ds)))))(k:K.nx (δ.set i (ae (.own ds))) n):bC i (ll (ak j)) δ n K:=by
 unfold bC ll;exact au e k
theorem aY(k:w δ n K.rt):aA w δ n K:=k
theorem QA(ha:∀Q:DQ,Q (.d (.int x)) n->wa δ n Q)(hb:∀Q:DQ,Q (.d (.int y)) n->wb δ n Q)(hc:∀Q:DQ,Q (.d (.int z)) n->wc δ n Q)(h:x<=y)(k:Q (.d (.bool (decide (y<=z)))) n):nU jG jG wa wb wc δ n Q:=by
 refine ha _ (hb _ ?_);show gP (.d (.bool (decide (x<=y)))) (wc δ n λu n4=>jG (.d (.int y)) u n4 Q) (Q (.d (.bool aj)) n);rw[decide_eq_true h];exact hc _ k
theorem gG(e:δ[i]?=ae (ae (.own ds)))(k:W (δ.set i (ae (.w (.d (.list ds))))) n K):bL i W δ n K:=by
 unfold bL;rw[e];exact k
theorem S7(hu:∀Q:DQ,Q (.d (.bool ai)) n->u δ n Q)(hv:v δ n Q):fP u v δ n Q:=hu _ hv
theorem aE{Q:Bool->Int->Prop}(hw:∀Q':DQ,Q' (.d (.bool k)) n->w δ n Q')(q:Q k n):cT w δ n Q:=hw _ q
theorem bf(hc:∀Q:Bool->Int->Prop,Q aj n->C δ n Q)(hF:V δ n K):aJ C W V δ n K:=hc _ (by show if aj=ai then _ else _;rw[if_neg Ag];exact hF)
theorem bz(hc:∀Q:Bool->Int->Prop,Q ai n->C δ n Q)(hT:W δ n K):aJ C W V δ n K:=hc _ (by show if ai=ai then _ else _;rw[if_pos rfl];exact hT)
theorem g9{Q:Bool->Int->Prop}(ha:∀Q:Bool->Int->Prop,Q aj n->A δ n Q)(hb:B δ n Q):ia A B δ n Q:=ha _ (by show if aj=ai then _ else _;rw[if_neg Ag];exact hb)
theorem mj{Q:Bool->Int->Prop}(ha:∀Q:Bool->Int->Prop,Q ai n->A δ n Q)(k:Q ai n):ia A B δ n Q:=ha _ (by show if ai=ai then _ else _;rw[if_pos rfl];exact k)
theorem rD{Q:Bool->Int->Prop}(ha:∀Q:Bool->Int->Prop,Q ai n->A δ n Q)(hb:B δ n Q):dU A B δ n Q:=ha _ (by show if ai=ai then _ else _;rw[if_pos rfl];exact hb)
theorem ml{Q:Bool->Int->Prop}(ha:∀Q:Bool->Int->Prop,Q k n->A δ n Q)(q:Q (!k) n):dv A δ n Q:=ha _ q
end
theorem fA(I:List Ab->Sl->Int->Prop)(h0:∀δ n,I [] δ n->K.nx δ n)
  (h1:∀d r δ n (N:Sl->Int->Prop),I (d::r) δ n->(∀δ n,I r δ n->N δ n)->g d δ λδ'=>W δ' n {K with nx:=N,ct:=N,bk:=K.nx}):∀ds δ n,I ds δ n->dJ g W K ds δ n
 |[],δ,n,h=>h0 δ n h
 |d::r,δ,n,h=>h1 d r δ n (dJ g W K r) h (fA I h0 h1 r)
section
variable{δ:Sl}{n m:Int}{Q:DQ}{K:DEnds}{W V:aH}{i j:Nat}{ds:List Ab}
theorem gY(e0:δ[0]?=ae (ae (.w .tp)))(hw:∀Q:DQ,Q (.d (.int m)) n->w δ n Q)(h:n < 2 ^ 40)(h0:0 < m)(h1:m < 1073741824)(k:∀r:Int,0<=r->r < m->Q (.d (.int r)) (n+1)):aF ck (aq ↥0 (aq w ao)) δ n Q:=
 bV (au e0 (hw _ (xX h h0 h1 k)))
theorem jl(e0:δ[0]?=ae (ae (.w .tp)))(h:n < 2 ^ 40)(h0:0 < m)(h1:m < 1073741824)(k:∀r:Int,0<=r->r < m->Q (.d (.int r)) (n+1)):aF ck (aq ↥0 (aq (wC (.int m)) ao)) δ n Q:=gY e0 (λQ q=>aD q) h h0 h1 k
theorem um(e0:δ[0]?=ae (ae (.w .tp)))(h:n < 2 ^ 40)(h0:0 < m)(h1:m < 1073741824)(k:∀r:Int,0<=r->r < m->K.nx (δ.set i (ae (.w (.d (.int r))))) (n+1)):aB i (aF ck (aq ↥0 (aq (wC (.int m)) ao))) δ n K:=jl e0 h h0 h1 k
theorem sU(h0:0<=r)(h1:r < (ds.length:Int))(k:∀d∈ds,Q (.d d) n):aZ (.ln ds) (.d (.int r)) n Q:=by
 obtain⟨v,hv,hm⟩:=GX h0 h1;show(match c7 ds r with|some d=>Q (.d d) n|none=>False);rw[hv];exact k v hm
theorem i6(h0:0<=r)(h1:r < (ds.length:Int))(k:∀d∈ds,Q (.d d) n):aZ (.d (.list ds)) (.d (.int r)) n Q:=rP h0 h1 k
theorem mx(e:δ[i]?=ae (ae (.own ds)))(k:Q (.ln ds) n):ft i δ n Q:=by
 unfold ft;rw[e];exact k
theorem lp(e:δ[i]?=ae (ae (.own es)))(hw:∀Q:DQ,Q (.d x) m->w δ n Q)(hl:es.length < 1000000)(k:K.nx (δ.set i (ae (.own (es++[x])))) m):a8 i w δ n K:=by
 unfold a8;rw[e];exact hw _ (Am hl k)
theorem iF(e:δ[i]?=ae (ae (.own es)))(k:w δ n λx n1=>match x with
  |.d d=>es.length < 1000000/\K.nx (δ.set i (ae (.own (es++[d])))) n1
  |_=>False):a8 i w δ n K:=by
 unfold a8;rw[e];exact k
theorem cy(k:w δ n λx n1=>w' δ n1 λy n2=>match iL [x,y]with
  |some ds=>ds.length<=1000/\Q (.d (.tuple ds)) n2
  |none=>False):aw (aq w (aq w' ao)) δ n Q:=k
theorem gK(k:w δ n λx n1=>w' δ n1 λy n2=>w'' δ n2 λz n3=>match iL [x,y,z]with
  |some ds=>ds.length<=1000/\Q (.d (.tuple ds)) n3
  |none=>False):aw (aq w (aq w' (aq w'' ao))) δ n Q:=k
theorem lQ(k:Q (.d (.tuple ds)) n):iw [.d (.list ds)] n Q:=k
theorem wG(k:Q (.d (.bool (decide (a < b)))) n):ir (.d (.int a)) (.d (.int b)) n Q:=k
theorem kD(e:δ[i]?=ae (ae (.w (.d (.int a)))))(hT:a < b->W δ n K)(hF:¬a < b->V δ n K):aJ (cT (w2 (ak i) (wC (.int b)) ir)) W V δ n K:=by
 refine cZ (ar (au e (aD ?_)));show if decide (a < b)=ai then _ else _
 by_cases h:a < b
 ·rw[if_pos (decide_eq_true h)];exact hT h
 ·rw[if_neg (by simpa using h)];exact hF h
end
section
variable{δ:Sl}{n m:Int}{Q:DQ}{K:DEnds}{W V:aH}{i j:Nat}{ds:List Ab}
theorem Hl(k:w δ n λx n1=>w' δ n1 λy n2=>w'' δ n2 λz n3=>v δ n3 λu n4=>match iL [x,y,z,u]with
  |some ds=>ds.length<=1000/\Q (.d (.tuple ds)) n4
  |none=>False):aw (aq w (aq w' (aq w'' (aq v ao)))) δ n Q:=k
theorem jY(k:Q (.d (.list [])) n):br (aO ao) δ n Q:=Am (Br _) k
theorem jA(k:Q (.d (.bool ds.isEmpty)) n):cL (.ln ds) (.d (.list [])) n Q:=k
theorem k7(k:Q (.d (.bool (decide (a=b)))) n):cL (.d (.int a)) (.d (.int b)) n Q:=k
theorem nV(e:δ[i]?=ae (ae (.w (.d (.int a)))))(hT:a=b->W δ n K)(hF:¬a=b->V δ n K):aJ (cT (w2 (ak i) (wC (.int b)) cL)) W V δ n K:=by
 refine cZ (ar (au e (aD ?_)));show if decide (a=b)=ai then _ else _
 by_cases h:a=b
 ·rw[if_pos (decide_eq_true h)];exact hT h
 ·rw[if_neg (by simpa using h)];exact hF h
theorem wq(e:δ[i]?=ae (ae (.w (.d (.int a)))))(hT:b < a->W δ n K)(hF:¬b < a->V δ n K):aJ (cT (w2 (ak i) (wC (.int b)) mq)) W V δ n K:=by
 refine cZ (ar (au e (aD ?_)));show if decide (b < a)=ai then _ else _
 by_cases h:b < a
 ·rw[if_pos (decide_eq_true h)];exact hT h
 ·rw[if_neg (by simpa using h)];exact hF h
end
theorem qE(hs:List Str):(hs.map Dy).all eI=ai:=by
 rw[Ez];intro d hd;obtain⟨x,_,rfl⟩:=Bo.mp hd;rfl
theorem BI{n m:Int}(e:δ[0]?=ae (ae (.w .tp)))(hl:∀Q:DQ,Q (.d (.list L)) n->wl δ n Q)(hn:n < 2 ^ 40)(hm:m=L.length)(h0:0 < m)(h1:m < 1000)(hL:∀d∈L,∃j:Nat,j<=M/\d=.int j)(hM:M<=1000)(k:∀j:Nat,j<=M->dJ g W K (bM 0 j) δ (n+1)):
  aW (dC (w2 wl (aF ck (aq ↥0 (aq (wC (.int m)) ao))) aZ)) g W δ n K:=by
 unfold aW dC;refine ar (hl _ (jl e hn h0 ⋯ λr r0 r1=>i6 r0 ⋯ λd hd=>?_));obtain⟨j,hj,rfl⟩:=hL d hd;refine Am ⟨by omega,by omega⟩ ?_;rw[Bq];exact k j hj
theorem Rj(k:Q (.d (.int ds.length)) n):fO [.ln ds] n Q:=k
theorem bJ(h:xs[i]?=ae x)(k:Q (.d x) n):az (.d (.tuple xs)) (.d (.int (i:Nat))) n Q:=by
 show(match c7 xs ((i:Nat):Int)with|some d=>Q (.d d) n|none=>False);rw[fq h];exact k
theorem vt(xs:List Ab)(hp:p<=xs.length):du xs ah (ae (p:Int))=xs.take p:=by
 unfold du;rw[HT.sIx_nat];show(xs.drop 0).take (min p xs.length-0)=_;rw[Gj,Nat.sub_zero,Nat.min_eq_left hp]
abbrev Nm:=List (Str×Ab)
inductive Fd where
 |is (v:Ab)|any|word|number|bind (x:Str)|as (x:Str)
def Fd.d:Fd->Ab
 |.is v=>.tuple [.str "is",v]
 |.any=>.tuple [.str "any"]
 |.word=>.tuple [.str "word"]
 |.number=>.tuple [.str "number"]
 |.bind x=>.tuple [.str "bind",.str x]
 |.as x=>.tuple [.str "as",.str x]
abbrev oW(x:Str):Prop:=x.length<=4/\PyData.strOk x=ai
def cb:Ab->Bool
 |.str x=>decide (x.length<=8)&&(PyData.strOk x&&decide (x="a"\/x="ab"\/x="go"))
 |.int i=>decide (0<=i)&&(decide (i<=99)&&(decide (PyData.weight (.int i)<=20)&&(Gs 13 (.int i)&&Gz (.int i))))
 |_=>aj
def Fd.ok:Fd->Prop
 |.is v=>cb v=ai
 |.bind x=>oW x
 |.as x=>oW x
 |_=>True
def fe(a b:Ab):Bool:=(iS a b).getD aj
theorem mE(ha:cb a=ai)(hb:cb b=ai):iS a b=ae (fe a b):=by
 cases a<;>first|cases ha|(cases b<;>first|cases hb|rfl)
theorem KH(ha:cb a=ai)(hb:cb b=ai)(h:fe a b=ai):a=b:=by
 cases a<;>first|cases ha|(cases b<;>first|cases hb|cases h|(rw[show _=_ from of_decide_eq_true h]))
theorem HD(ha:cb a=ai):eI a=ai:=by cases a<;>first|cases ha|rfl
def iT:Ab->Bool
 |.str _=>ai
 |_=>aj
def iG:Ab->Bool
 |.int _=>ai
 |_=>aj
def look(ps:Nm)(x:Str):Option Ab:=(ps.find? λp=>decide (p.1=x)).map (·.2)
def put(ps:Nm)(x:Str)(v:Ab):Nm:=if (ps.any λp=>decide (p.1=x))=ai then ps.map (λp=>if p.1=x then(p.1,v)else p)else ps++[(x,v)]
theorem OU(a b):decide ((Di a:aG)=Di b)=decide (a=b):=by
 by_cases z:a=b
 ·rw[z,decide_eq_true rfl,decide_eq_true rfl]
 ·rw[decide_eq_false z,decide_eq_false λw=>z (Sum.inr.inj w)]
theorem jS(ps:Nm)(x):bW (bb ps) (.inr x)=look ps x:=by
 induction ps with
 |nil=>rfl
 |cons p r ih=>
  by_cases e:p.1=x
  ·have a1:bW (bb (p::r)) (.inr x)=ae p.2:=by simp[bW,bb,Bp,e]
   have a2:look (p::r) x=ae p.2:=by simp[look,Bp,e]
   rw[a1,a2]
  ·have a1:bW (bb (p::r)) (.inr x)=bW (bb r) (.inr x):=by simp[bW,bb,Bp,e]
   have a2:look (p::r) x=look r x:=by simp[look,Bp,e]
   rw[a1,a2,ih]
theorem M7(ps:Nm)(x):((bb ps).any λkv=>decide (kv.1=(Di x:aG)))=(ps.any λp=>decide (p.1=x)):=by
 unfold bb;rw[List.any_map]
 congr 1
 funext p
 exact OU _ _
theorem rE(ps:Nm)(x)(v):fg (bb ps) (.inr x) v=bb (put ps x v):=by
 unfold fg put;rw[M7]
 split
 ·unfold bb;rw[Dg,Dg];apply C4;intro p _;show(if (Di p.1:aG)=Di x then _ else _)=_;by_cases e:p.1=x
  ·rw[if_pos (congrArg Di e)];show _=(Di (if p.1=x then(p.1,v)else p).1,(if p.1=x then(p.1,v)else p).2);rw[if_pos e]
  ·rw[if_neg λz=>e (Sum.inr.inj z)];show _=(Di (if p.1=x then(p.1,v)else p).1,(if p.1=x then(p.1,v)else p).2);rw[if_neg e]
 ·unfold bb;rw[Be];rfl
theorem lL(h:look ps x=ae v):(x,v)∈ps:=by
 unfold look at h;cases e:ps.find? λp=>decide (p.1=x)with
 |none=>rw[e]at h;cases h
 |some p=>
  rw[e]at h;have h1:=List.find?_some e;have h2:p.1=x:=of_decide_eq_true h1;have h3:p.2=v:=Bc h;have:=List.mem_of_find?_eq_some e;rw[<-h2,<-h3];exact this
theorem pS(ps:Nm)(x):(ps.any λp=>decide (p.1=x))=(look ps x).isSome:=by
 induction ps with
 |nil=>rfl
 |cons p r ih=>
  by_cases e:p.1=x
  ·have a2:look (p::r) x=ae p.2:=by simp[look,Bp,e]
   rw[a2,C6,decide_eq_true e];rfl
  ·have a2:look (p::r) x=look r x:=by simp[look,Bp,e]
   rw[a2,C6,decide_eq_false e,Bool.false_or,ih]
theorem AD(ps:Nm)(x)(v):(put ps x v).map (·.1)=if (ps.any λp=>decide (p.1=x))=ai then ps.map (·.1)else ps.map (·.1)++[x]:=by
 unfold put
 split
 ·rw[Dg];apply C4;intro p _;show(if p.1=x then(p.1,v)else p).1=p.1
  split<;>rfl
 ·rw[Be];rfl
theorem tK(h:(ps.map (·.1)).Nodup):((put ps x v).map (·.1)).Nodup:=by
 rw[AD]
 split
 ·exact h
 ·rename_i e;rw[List.nodup_append];refine⟨h,by simp,λa ha b hb z=>?_⟩;have hb:b=x:=by simpa using hb
  obtain⟨p,hp,rfl⟩:=Bo.mp ha;exact e (Ea.mpr ⟨p,hp,decide_eq_true (z.trans hb)⟩)
theorem qO(ps:Nm)(x)(v):(put ps x v).length<=ps.length+1:=by
 unfold put
 split
 ·rw[Ad];omega
 ·rw[Ak];exact Ao _
def fX(p:Str×Ab):Prop:=oW p.1/\cb p.2=ai
theorem mV(h:∀p∈ps,fX p)(hx:oW x)(hv:cb v=ai):∀p∈put ps x v,fX p:=by
 intro p hp;unfold put at hp
 split at hp
 ·obtain⟨q,hq,rfl⟩:=Bo.mp hp
  split
  ·exact⟨(h q hq).1,hv⟩
  ·exact h q hq
 ·rcases Ba.mp hp with hp|hp
  ·exact h p hp
  ·have:p=(x,v):=by simpa using hp
   subst this;exact⟨hx,hv⟩
theorem RO(nd:(ps.map (·.1)).Nodup)(h:look ps x=ae v):put ps x v=ps:=by
 unfold put;rw[pS,h,if_pos (show(ae v).isSome=ai from rfl)];have hm:=lL h;have:ps.map (λp=>if p.1=x then(p.1,v)else p)=ps.map id:=by
  apply C4;intro p hp
  split
  ·rename_i e;have:p=(x,v):=by
    obtain⟨i,hi⟩:=B6.mp hp;obtain⟨j,hj⟩:=B6.mp hm;have a1:(ps.map (·.1))[i]?=ae x:=by rw[Ax,hi];exact congrArg ae e
    have a2:(ps.map (·.1))[j]?=ae x:=by rw[Ax,hj];rfl
    obtain⟨b1,b2⟩:=Av.mp a1;obtain⟨c1,c2⟩:=Av.mp a2;have:=(Fu nd).mp (b2.trans c2.symm);rw[this,hj]at hi;exact(Bc hi).symm
   rw[this];rfl
  ·rfl
 rw[this,List.map_id]
theorem EF(ps)(x)(v):look (put ps x v) x=ae v:=by
 unfold put;rw[pS]
 split
 ·rename_i e
  induction ps with
  |nil=>cases e
  |cons p r ih=>
   by_cases z:p.1=x
   ·simp[look,Bp,z]
   ·have a2:look (p::r) x=look r x:=by simp[look,Bp,z]
    rw[a2]at e;rw[Bs,if_neg z];have a3:look (p::r.map λp=>if p.1=x then(p.1,v)else p) x=look (r.map λp=>if p.1=x then(p.1,v)else p) x:=by simp[look,Bp,z]
    rw[a3];exact ih e
 ·rename_i e;have:look ps x=ah:=by cases q:look ps x with|none=>rfl|some _=>rw[q]at e;exact absurd rfl e
  unfold look at this ⊢;rw[List.find?_append];cases q:ps.find? λp=>decide (p.1=x)with
  |some p=>rw[q]at this;cases this
  |none=>simp
theorem Iw(h:y≠x):look (put ps x v) y=look ps y:=by
 unfold put
 split
 ·induction ps with
  |nil=>rfl
  |cons p r ih=>
   rw[Bs];have key:look (r.map λp=>if p.1=x then(p.1,v)else p) y=look r y:=by
    rename_i e;by_cases q:(r.any λp=>decide (p.1=x))=ai
    ·exact ih q
    ·have:r.map (λp=>if p.1=x then(p.1,v)else p)=r.map id:=by
      apply C4;intro p hp;rw[if_neg λz=>q (Ea.mpr ⟨p,hp,decide_eq_true z⟩)];rfl
     rw[this,List.map_id]
   by_cases z:p.1=x
   ·rw[if_pos z];have n1:¬p.1=y:=λw=>h (w.symm.trans z);have a1:look ((p.1,v)::r.map λp=>if p.1=x then(p.1,v)else p) y=look (r.map λp=>if p.1=x then(p.1,v)else p) y:=by simp[look,Bp,n1]
    have a2:look (p::r) y=look r y:=by simp[look,Bp,n1]
    rw[a1,a2,key]
   ·rw[if_neg z];by_cases w:p.1=y
    ·simp[look,Bp,w]
    ·have a1:look (p::r.map λp=>if p.1=x then(p.1,v)else p) y=look (r.map λp=>if p.1=x then(p.1,v)else p) y:=by simp[look,Bp,w]
     have a2:look (p::r) y=look r y:=by simp[look,Bp,w]
     rw[a1,a2,key]
 ·unfold look;rw[List.find?_append];have:[(x,v)].find? (λp=>decide (p.1=y))=ah:=by simp[λz=>h (Eq.symm z),Ne.symm h]
  rw[this,Option.or_none]
def gV(f:Fd)(v:Ab)(h bs:Nm):Bool:=match f with
 |.is w=>fe w v
 |.any=>ai
 |.word=>iT v
 |.number=>iG v
 |.as x=>match look h x with
  |some w=>fe w v
  |none=>aj
 |.bind x=>match look bs x with
  |some w=>fe w v
  |none=>ai
def wk:List (Fd×Ab)->Nm->List Str->Option Nm
 |[],h,_=>ae h
 | (.is w,v)::r,h,hs=>if fe w v=ai then wk r h hs else ah
 | (.any,_)::r,h,hs=>wk r h hs
 | (.word,v)::r,h,hs=>if iT v=ai then wk r h hs else ah
 | (.number,v)::r,h,hs=>if iG v=ai then wk r h hs else ah
 | (.as x,v)::r,h,hs=>match look h x with
  |some w=>if fe w v=ai then wk r h hs else ah
  |none=>ah
 | (.bind x,v)::r,h,hs=>if x∈hs then(match look h x with
   |some w=>if fe w v=ai then wk r h hs else ah
   |none=>ah)else wk r (put h x v) (hs++[x])
def iW(p:Str×Ab):Ab:=.tuple [.str p.1,p.2]
def bZ(ps:Nm):Ab:=.tuple (ps.map iW)
def cV(fs:List Fd):Ab:=.tuple (fs.map Fd.d)
def okN(ps:Nm):Prop:=ps.length<=40/\(ps.map (·.1)).Nodup/\∀p∈ps,fX p
def pd(fs:List Fd):Prop:=1<=fs.length/\fs.length<=4/\∀f∈fs,f.ok
def qI(row:List Ab):Prop:=(row.length<=4/\1<=row.length)/\∀d∈row,cb d=ai
theorem yz(x y:Str)(h1:¬x.cps.toList < y.cps.toList)(h2:¬y.cps.toList < x.cps.toList):x=y:=by
 have:x.cps.toList=y.cps.toList:=List.le_antisymm (E7.mp h2) (E7.mp h1);have e:=Array.toList_inj.mp this;cases x;cases y;simp only at e;rw[e]
theorem J5{h a b:Nm}(nd:(h.map (·.1)).Nodup)(ha:a.Perm h)(hb:b.Perm h)(ra:jt a)(rb:jt b):a=b:=by
 refine List.Perm.eq_of_pairwise (λx y hx hy l1 l2=>?_) ra rb (ha.trans hb.symm);have e:x.1=y.1:=yz _ _ l2 l1;have hx':=ha.mem_iff.mp hx;have hy':=hb.mem_iff.mp hy;obtain⟨i,hi⟩:=B6.mp hx';obtain⟨j,hj⟩:=B6.mp hy';have a1:(h.map (·.1))[i]?=ae x.1:=by rw[Ax,hi];rfl
 have a2:(h.map (·.1))[j]?=ae x.1:=by rw[Ax,hj,e];rfl
 obtain⟨b1,b2⟩:=Av.mp a1;obtain⟨c1,c2⟩:=Av.mp a2;have:=(Fu nd).mp (b2.trans c2.symm);rw[this,hj]at hi;exact(Bc hi).symm
theorem kj:∀(l:List (Fd×Ab))(h:Nm)(hs:List Str)(k:Nm),(h.map (·.1)).Nodup->wk l h hs=ae k->(k.map (·.1)).Nodup
 |[],h,hs,k,nd,e=>by cases e;exact nd
 | (.is w,v)::r,h,hs,k,nd,e=>by unfold wk at e;split at e;exact kj r h hs k nd e;cases e
 | (.any,v)::r,h,hs,k,nd,e=>by unfold wk at e;exact kj r h hs k nd e
 | (.word,v)::r,h,hs,k,nd,e=>by unfold wk at e;split at e;exact kj r h hs k nd e;cases e
 | (.number,v)::r,h,hs,k,nd,e=>by unfold wk at e;split at e;exact kj r h hs k nd e;cases e
 | (.as x,v)::r,h,hs,k,nd,e=>by
  unfold wk at e
  split at e
  ·split at e
   ·exact kj r h hs k nd e
   ·cases e
  ·cases e
 | (.bind x,v)::r,h,hs,k,nd,e=>by
  unfold wk at e
  split at e
  ·split at e
   ·split at e
    ·exact kj r h hs k nd e
    ·cases e
   ·cases e
  ·exact kj r _ _ k (tK nd) e
def uP(a b:Str×Ab):Bool:=decide (¬b.1.cps.toList < a.1.cps.toList)
def cw(h:Nm):Nm:=h.mergeSort uP
theorem FW(h):(cw h).Perm h:=List.mergeSort_perm h uP
theorem zo(h):jt (cw h):=by
 have:=List.pairwise_mergeSort (le:=uP) (λa b c x y=>decide_eq_true (E7.mpr (List.le_trans (E7.mp (of_decide_eq_true x)) (E7.mp (of_decide_eq_true y))))) (λa b=>?_) h
 ·exact List.Pairwise.imp (λx=>of_decide_eq_true x) this
 ·rw[Bool.or_eq_true];rcases List.le_total a.1.cps.toList b.1.cps.toList with z|z
  ·exact .inl (decide_eq_true (E7.mpr z))
  ·exact .inr (decide_eq_true (E7.mpr z))
theorem yp{h h':Nm}(nd:(h.map (·.1)).Nodup)(p:h'.Perm h)(r:jt h'):h'=cw h:=J5 nd p (FW h) r (zo h)
def c8(fs:List Fd)(row:List Ab)(nm:Nm):Nm:=(wk (fs.zip row) nm []).getD []
def cu(fs:List Fd)(row:List Ab)(nm:Nm):Bool:=decide (fs.length=row.length)&&(wk (fs.zip row) nm []).isSome
def fN(fs:List Fd)(row:List Ab)(nm:Nm):Ab:=if cu fs row nm=ai then bZ (cw (c8 fs row nm))else .none
def nj(fs:List Fd)(row:List Ab)(ps:Nm)(r:Ab):Prop:=
 if fs.length=row.length then match wk (fs.zip row) ps []with
  |none=>r=.none
  |some h=>r=bZ (cw h)
 else r=.none
theorem KZ(h:nj fs row ps r):r=fN fs row ps:=by
 unfold nj at h;unfold fN cu c8;by_cases e:fs.length=row.length
 ·rw[if_pos e]at h;rw[decide_eq_true e,Bool.true_and];cases q:wk (fs.zip row) ps []with
  |none=>rw[q]at h;rw[if_neg (by rw[Option.isSome_none];exact Ag)];exact h
  |some x=>rw[q]at h;rw[if_pos (show(ae x).isSome=ai from rfl)];exact h
 ·rw[if_neg e]at h;rw[decide_eq_false e,if_neg (by rw[Bool.false_and];exact Ag)];exact h
def jL:bo:=λws n Q=>∃(f:Fd)(v:Ab)(hp bp:Nm),ws=[.d f.d,.d v,.dk (bb hp),.dk (bb bp)]/\f.ok/\cb v=ai/\(∀p∈hp,fX p)/\(∀p∈bp,fX p)/\Q (.d (.bool (gV f v hp bp))) n
def pY:bo:=λws n Q=>∃(fs:List Fd)(row:List Ab)(nm:Nm),ws=[.d (cV fs),.d (.tuple row),.d (bZ nm)]/\pd fs/\qI row/\okN nm/\Q (.d (fN fs row nm)) n
def dy(ys:List Str):Ab:=.tuple (ys.map .str)
def pE:List Ab:=[.str "a",.int 0,.int 1,.str "ab",.str "go",.int 99]
inductive Fe where
 |any|word|num|isv (d:Ab)|bind (k:Str)|as (k:Str)|nx (k:Str)
def Fe.hd:Fe->Str
 |.any=>"any"
 |.word=>"word"
 |.num=>"number"
 |.isv _=>"is"
 |.bind _=>"bind"
 |.as _=>"as"
 |.nx _=>"next"
def Fe.tl:Fe->List Ab
 |.any=>[]
 |.word=>[]
 |.num=>[]
 |.isv d=>[d]
 |.bind k=>[.str k]
 |.as k=>[.str k]
 |.nx k=>[.str k]
def Fe.d(f:Fe):Ab:=.tuple (.str f.hd::f.tl)
abbrev fU(k:Str):Prop:=oW k
def Fe.ok:Fe->Prop
 |.isv d=>cb d=ai
 |.bind k=>fU k
 |.as k=>fU k
 |.nx k=>fU k
 |_=>True
def Fe.bd:Fe->Option Str
 |.bind k=>ae k
 |_=>ah
def Fe.us:Fe->Option Str
 |.as k=>ae k
 |.nx k=>ae k
 |_=>ah
def bh(fs:List Fe):List Str:=fs.filterMap Fe.bd
def Fe.pt:Fe->Bool
 |.nx _=>aj
 |_=>ai
def Fe.tm:Fe->Bool
 |.isv _=>ai
 |.as _=>ai
 |.nx _=>ai
 |_=>aj
def Fe.te:Fe->Bool
 |.isv _=>ai
 |.as _=>ai
 |_=>aj
def dR(fs:List Fe):Prop:=fs.length<=4/\∀f∈fs,f.ok
def rF:List Str->List Fe->Prop
 |_,[]=>True
 |ks,f::r=>(∀k,f.us=ae k->k∈ks)/\rF (ks++f.bd.toList) r
inductive Ac where
 |lay (fs:List Fe) (age:Ab)|take (fs:List Fe)|read (fs:List Fe)|look (fs:List Fe) (b:Nat)|same (f g:Fe) (b:Nat)|go (b:Nat)
def dI(fs:List Fe):Ab:=.tuple (fs.map Fe.d)
def Ac.d:Ac->Ab
 |.lay fs age=>.tuple [.str "lay",dI fs,age]
 |.take fs=>.tuple [.str "take",dI fs]
 |.read fs=>.tuple [.str "read",dI fs]
 |.look fs b=>.tuple [.str "look",dI fs,.int b]
 |.same f g b=>.tuple [.str "same",f.d,g.d,.int b]
 |.go b=>.tuple [.str "go",.int b]
def Ac.bs:Ac->List Str
 |.take fs=>bh fs
 |.read fs=>bh fs
 |.look fs _=>bh fs
 |_=>[]
def Ac.fs:Ac->List Fe
 |.lay fs _=>fs
 |.take fs=>fs
 |.read fs=>fs
 |.look fs _=>fs
 |.same f g _=>[f,g]
 |.go _=>[]
def Ac.to:Ac->Option Nat
 |.look _ b=>ae b
 |.same _ _ b=>ae b
 |.go b=>ae b
 |_=>ah
def Ac.right(wants:List (List Str))(ks:List Str)(a:Ac):Prop:=rF ks a.fs/\∀b,a.to=ae b->∃w,wants[b]?=ae w/\∀k∈w,k∈ks
def hU(d:Ab):Prop:=d=.none\/∃i:Int,d=.int i/\1<=i/\i<=20
def gp(fs:List Fe):Prop:=1<=fs.length/\∀f∈fs,f.pt=ai
def Ac.pat:Ac->Prop
 |.take fs=>gp fs
 |.read fs=>gp fs
 |.look fs _=>gp fs
 |.lay fs age=>(∀f∈fs,f.tm=ai)/\hU age/\1<=fs.length
 |.same f g _=>f.te=ai/\g.te=ai
 |.go _=>True
def lN(a:Ac):Prop:=dR a.fs/\a.pat
abbrev Bl:=List Str×List Ac
def fE(b:Bl):Ab:=.tuple [dy b.1,.tuple (b.2.map Ac.d)]
def eB(bs:List Bl):Ab:=.tuple (bs.map fE)
def kn(w:List Str)(as:List Ac)(p:Nat):List Str:=w++(as.take p).flatMap Ac.bs
def lA(b:Bl):Prop:=b.1.length<=4/\(∀k∈b.1,fU k)/\b.2.length<=8/\(∀a∈b.2,lN a)/\b.1.Nodup/\iV b.1
def ky(wants:List (List Str))(b:Bl):Prop:=∀(p:Nat)(a:Ac),b.2[p]?=ae a->a.right wants (kn b.1 b.2 p)
def jd:bo:=λws n Q=>ws=[.tp]/\n < 2 ^ 39/\∀v∈pE,Q (.d v) (n+1)
def mS:bo:=λws n Q=>ws=[.tp]/\n < 2 ^ 39/\∀m:Nat,1<=m->m<=4->Q (.d (.int m)) (n+1)
def uJ:bo:=λws n Q=>∃ks:List Str,ws=[.tp,.ln (ks.map .str)]/\ks.length<=1000/\(∀k∈ks,fU k)/\n+9 < 2 ^ 39/\∀(fs:List Fe)(n':Int),1<=fs.length->dR fs->(∀f∈fs,f.tm=ai)->rF ks fs->n'<=n+9->Q (.d (dI fs)) n'
def qr:bo:=λws n Q=>∃ks:List Str,ws=[.tp,.ln (ks.map .str)]/\ks.length<=1000/\(∀k∈ks,fU k)/\n+2 < 2 ^ 39/\∀(f:Fe)(n':Int),f.ok->f.te=ai->(∀k,f.us=ae k->k∈ks)->n'<=n+2->Q (.d f.d) n'
def oh:bo:=λws n Q=>∃(ks:List Str)(os:List Nat)(wants:List (List Str)),ws=[.tp,.ln (ks.map .str),.d (.list (os.map λb=>.int (b:Nat)))]/\ks.length<=1000/\(∀k∈ks,fU k)/\0 < os.length/\os.length<=1000 /\
 (∀b∈os,∃w,wants[b]?=ae w/\∀k∈w,k∈ks)/\n+11 < 2 ^ 39/\∀(a:Ac)(n':Int),lN a->a.right wants ks->n'<=n+11->Q (.d (.tuple [a.d,.list (a.bs.map .str)])) n'
def qj(bs:List Bl):Prop:=1<=bs.length/\bs.length<=6/\∀b∈bs,lA b/\ky (bs.map (·.1)) b
def vB:bo:=λws n Q=>∃(ks:List Str)(v:Wv),ws=[.tp,v]/\gh v=ae (ks.map .str)/\ks.length<=1000/\(∀k∈ks,fU k)/\n+9 < 2 ^ 39/\∀(fs:List Fe)(n':Int),1<=fs.length->dR fs->(∀f∈fs,f.pt=ai)->rF ks fs->n'<=n+9->Q (.d (.tuple [dI fs,.list ((bh fs).map .str)])) n'
def iJ(bs:List Bl):Prop:=∃w,bs.map (·.1)=[]::w
def uw:bo:=λws n Q=>ws=[.tp]/\n+600 < 2 ^ 39/\∀(bs:List Bl)(n':Int),qj bs->iJ bs->n'<=n+600->Q (.d (eB bs)) n'
abbrev Hn:=Nat×Nat×Nm
def bG(h:Hn):Ab:=.tuple [.int h.1,.int h.2.1,bZ h.2.2]
abbrev Nt:=List Ab×Ab
def dD(q:Nt):Ab:=.tuple [.tuple q.1,q.2]
def cE(ns:List Nt):Ab:=.tuple (ns.map dD)
def bg(hs:List Hn)(ns:List Nt):Ab:=.tuple [.tuple (hs.map bG),cE ns]
abbrev Pg:=List (List Bl)
def aX(ps:Pg):Ab:=.tuple (ps.map eB)
def bQ(ps:Pg):Prop:=ps.length<=5/\∀P∈ps,qj P
def uC(q:Nt):Prop:=qI q.1/\hU q.2
def bX(m:Nat)(ns:List Nt):Prop:=ns.length<=m/\∀q∈ns,uC q
structure okHn(b:Bl)(h:Hn):Prop where
 pl:h.2.1<=b.2.length
 nd:(h.2.2.map (·.1)).Nodup
 ok:∀p∈h.2.2,fX p
 up:jt h.2.2
 mem:∀k,k∈h.2.2.map (·.1)↔k∈kn b.1 b.2 h.2.1
 ln:h.2.2.length<=40
theorem okHn.n(H:okHn b h):okN h.2.2:=⟨H.ln,H.nd,H.ok⟩
def okHs(ps:Pg)(hs:List Hn):Prop:=hs.length=ps.length/\∀(i:Nat)(P:List Bl),ps[i]?=ae P->∃(h:Hn)(b:Bl),hs[i]?=ae h/\P[h.1]?=ae b/\okHn b h
def bA(ps:Pg)(hs:List Hn)(h:Nat):Option Ac:=ps[h]?.bind λP=>hs[h]?.bind λx=>P[x.1]?.bind λb=>b.2[x.2.1]?
def rN:Option Ac->Ab
 |none=>.none
 |some a=>a.d
def Fe.fd:Fe->Fd
 |.any=>.any
 |.word=>.word
 |.num=>.number
 |.isv d=>.is d
 |.bind k=>.bind k
 |.as k=>.as k
 |.nx _=>.any
def Ac.pf:Ac->Option (List Fd)
 |.take fs=>ae (fs.map Fe.fd)
 |.read fs=>ae (fs.map Fe.fd)
 |.look fs _=>ae (fs.map Fe.fd)
 |_=>ah
def Ac.wt:Ac->Bool
 |.take _=>ai
 |.read _=>ai
 |_=>aj
def aV(fs:List Fd)(nm:Nm)(ns:List Nt):Option Nat:=ns.findIdx? λq=>cu fs q.1 nm
def jc(hs:List Hn)(h:Nat):Nm:=(hs[h]?.map (·.2.2)).getD []
def bj(ps:Pg)(hs:List Hn)(ns:List Nt)(h:Nat):Option Nat:=(bA ps hs h).bind λa=>a.pf.bind λfs=>aV fs (jc hs h) ns
def cK(ps:Pg)(hs:List Hn)(ns:List Nt)(h:Nat):Bool:=((bA ps hs h).map λa=>!a.wt || (bj ps hs ns h).isSome).getD aj
def gz:Option Nat->Ab
 |none=>.none
 |some i=>.int i
def bP(ns:List Nt)(i:Nat):List Ab:=(ns[i]?.map (·.1)).getD []
def eE(ps:Pg)(hs:List Hn)(ns:List Nt)(h:Nat):Option (Nat×Nm):=(bA ps hs h).bind λa=>a.pf.bind λfs=>(aV fs (jc hs h) ns).map λi=>(i,c8 fs (bP ns i) (jc hs h))
def gx:Option (Nat×Nm)->Wv
 |none=>.d .none
 |some (i,h)=>.ob (.q (.int i) (bb h))
def dX(fs:List Fd)(row:List Ab)(nm:Nm):Wv:=if cu fs row nm=ai then .ob (.k (bb (c8 fs row nm)))else .d .none
def b6(ps:Pg)(hs:List Hn)(ns:List Nt):Prop:=bQ ps/\okHs ps hs/\bX 100 ns
def jU:Ab->Ab
 |.int i=>if i=99 then .int 0 else .int (i+1)
 |d=>d
def gc(nm:Nm)(k:Str):Ab:=(look nm k).getD .none
def dN(nm:Nm):Fe->Ab
 |.isv d=>d
 |.as k=>gc nm k
 |.nx k=>jU (gc nm k)
 |_=>.none
def cS(fs:List Fe)(nm:Nm):List Ab:=fs.map (dN nm)
def lD(P:List Bl)(b:Nat):List Str:=(P[b]?.map (·.1)).getD []
def bK(P:List Bl)(b:Nat)(nm:Nm):Hn:=(b,0,nm.filter λp=>decide (p.1∈lD P b))
def b8(x:Hn)(nm:Nm):Hn:=(x.1,x.2.1+1,nm)
def aU(hs:List Hn)(h:Nat)(x:Hn):List Hn:=hs.take h++x::hs.drop (h+1)
def iZ:Ab->Ab
 |.int i=>.int (i-1)
 |d=>d
def cX:Ab->Bool
 |.int i=>decide (i=1)
 |_=>aj
def dw(ns:List Nt):List Nt:=(ns.filter λq=>!cX q.2).map λq=>(q.1,iZ q.2)
def cf(ns:List Nt)(i:Nat):List Nt:=ns.take i++ns.drop (i+1)
def bx(fs:List Fe)(x:Hn)(ns:List Nt):Option (Nat×Hn):=(aV (fs.map Fe.fd) x.2.2 ns).map λi=>(i,b8 x (cw (c8 (fs.map Fe.fd) (bP ns i) x.2.2)))
def nG(P:List Bl)(x:Hn)(ns:List Nt):Ac->Option (Hn×List Nt)
 |.lay fs age=>ae (b8 x x.2.2,ns++[(cS fs x.2.2,age)])
 |.go b=>ae (bK P b x.2.2,ns)
 |.same f g b=>ae (if fe (dN x.2.2 f) (dN x.2.2 g)=ai then b8 x x.2.2 else bK P b x.2.2,ns)
 |.take fs=>(bx fs x ns).map λq=>(q.2,cf ns q.1)
 |.read fs=>(bx fs x ns).map λq=>(q.2,ns)
 |.look fs b=>match bx fs x ns with
  |some q=>ae (q.2,ns)
  |none=>ae (bK P b x.2.2,ns)
def eG(ps:Pg)(hs:List Hn)(ns:List Nt)(h:Nat):Option (List Hn×List Nt):=ps[h]?.bind λP=>hs[h]?.bind λx=>(bA ps hs h).bind λa=>(nG P x ns a).map λr=>(aU hs h r.1,r.2)
def bU(ps:Pg)(hs:List Hn)(ns:List Nt)(m:Nat):Option (List Hn×List Nt):=if m=ps.length then ae (hs,dw ns)else eG ps hs ns m
def gF:Option (List Hn×List Nt)->Ab
 |none=>.none
 |some r=>bg r.1 r.2
def eL(nm:Nm)(f:Fe):Prop:=f.ok/\f.tm=ai/\∀k,f.us=ae k->∃v,look nm k=ae v/\cb v=ai
def uE:Ab->Bool
 |.int _=>ai
 |_=>aj
def wH(b:Ab)(m:Int):Bool:=match b with
 |.int i=>decide (0<=i)&&decide (i<=m)
 |_=>aj
def lU(ps:Pg)(b:Ab):Option Nat:=match b with
 |.int i=>if 0<=i/\i<=(ps.length:Int)then ae i.toNat else ah
 |_=>ah
def eJ(ps:Pg)(hs:List Hn)(ns:List Nt)(b:Ab):Option (List Hn×List Nt):=(lU ps b).bind (bU ps hs ns)
def uF:bo:=λws n Q=>∃b,ws=[.d b]/\Q (.d (.bool (uE b))) n
def vX:bo:=λws n Q=>∃(b:Ab)(m:Int),ws=[.d b,.d (.int m)]/\Q (.d (.bool (wH b m))) n
def uI:bo:=λws n Q=>∃v,ws=[.d v]/\cb v=ai/\Q (.d (jU v)) n
def oM:bo:=λws n Q=>∃(f:Fe)(nm:Nm),ws=[.d f.d,.dk (bb nm)]/\eL nm f/\Q (.d (dN nm f)) n
def rO:bo:=λws n Q=>∃(fs:List Fe)(nm:Nm),ws=[.d (dI fs),.d (bZ nm)]/\fs.length<=4/\(∀f∈fs,eL nm f)/\okN nm/\Q (.d (.tuple (cS fs nm))) n
def uH:bo:=λws n Q=>∃(fs:List Fe)(nm:Nm),ws=[.d (dI fs),.dk (bb nm)]/\fs.length<=4/\(∀f∈fs,eL nm f)/\Q (.d (.tuple (cS fs nm))) n
def qQ:bo:=λws n Q=>∃(f:Fe)(nm:Nm),ws=[.d f.d,.d (bZ nm)]/\eL nm f/\f.te=ai/\okN nm/\Q (.d (dN nm f)) n
def vM:bo:=λws n Q=>∃(f g:Fe)(b:Nat)(nm:Nm),ws=[.d (Ac.same f g b).d,.d (bZ nm)]/\eL nm f/\eL nm g/\f.te=ai/\g.te=ai/\okN nm/\Q (.d (.bool (fe (dN nm f) (dN nm g)))) n
def mL:bo:=λws n Q=>∃(x:Hn)(nm:Nm),ws=[.d (bG x),.d (bZ nm)]/\Q (.d (bG (b8 x nm))) n
def pB:bo:=λws n Q=>∃(P:List Bl)(b:Nat)(nm:Nm)(w:Bl),ws=[.d (eB P),.d (.int b),.d (bZ nm)]/\P[b]?=ae w/\w.1.length<=4/\Q (.d (bG (bK P b nm))) n
def lM:bo:=λws n Q=>∃(P:List Bl)(b:Nat)(nm:Nm)(w:Bl),ws=[.d (eB P),.d (bZ nm),.d (.int b)]/\P[b]?=ae w/\w.1.length<=4/\okN nm/\jt nm/\w.1.Nodup/\iV w.1/\(∀k∈w.1,k∈nm.map (·.1))/\Q (.d (bG (bK P b nm))) n
def jy:bo:=λws n Q=>∃(hs:List Hn)(h:Nat)(x:Hn),ws=[.d (.tuple (hs.map bG)),.d (.int h),.d (bG x)]/\h < hs.length/\hs.length<=5/\Q (.d (.tuple ((aU hs h x).map bG))) n
def nY:bo:=λws n Q=>∃(ps:Pg)(hs:List Hn)(ns:List Nt)(h:Nat)(a:Ac),ws=[.d (aX ps),.d (bg hs ns),.d (.int h),.d a.d]/\b6 ps hs ns/\h < ps.length/\bA ps hs h=ae a/\a.pf.isSome=ai/\Q (.d (gF (eG ps hs ns h))) n
def uO:bo:=λws n Q=>∃(ps:Pg)(hs:List Hn)(ns:List Nt)(h:Nat),ws=[.d (aX ps),.d (bg hs ns),.d (.int h)]/\b6 ps hs ns/\h < ps.length/\Q (.d (gF (eG ps hs ns h))) n
def vG:bo:=λws n Q=>∃q:Nt,ws=[.d (dD q)]/\hU q.2/\Q (.d (dD (q.1,iZ q.2))) n
def sC:bo:=λws n Q=>∃(hs:List Hn)(ns:List Nt),ws=[.d (bg hs ns)]/\(∀q∈ns,hU q.2)/\Q (.d (bg hs (dw ns))) n
def lW:bo:=λws n Q=>∃(ps:Pg)(hs:List Hn)(ns:List Nt)(b:Ab),ws=[.d (aX ps),.d (bg hs ns),.d b]/\b6 ps hs ns/\Q (.d (gF (eJ ps hs ns b))) n
def O9:bo:=λws n Q=>∃(ps:Pg)(hs:List Hn)(ns:List Nt)(m:Nat)(r:List Hn×List Nt),ws=[.d (aX ps),.d (bg hs ns),.d (.int m)]/\b6 ps hs ns/\m<=ps.length/\bU ps hs ns m=ae r/\Q (.d (bg r.1 r.2)) n
def qd:bo:=O9
def iM:bo:=λws n Q=>∃(ps:Pg)(hs:List Hn)(ns:List Nt)(h:Nat),ws=[.d (aX ps),.d (bg hs ns),.d (.int h)]/\okHs ps hs/\h < ps.length/\Q (.d (rN (bA ps hs h))) n
def lV:bo:=λws n Q=>∃(ps:Pg)(hs:List Hn)(ns:List Nt)(h:Nat),ws=[.d (aX ps),.d (bg hs ns),.d (.int h)]/\b6 ps hs ns/\h < ps.length/\Q (.d (gz (bj ps hs ns h))) n
def pT:bo:=λws n Q=>∃(ps:Pg)(hs:List Hn)(ns:List Nt)(h:Nat),ws=[.d (aX ps),.d (bg hs ns),.d (.int h)]/\b6 ps hs ns/\h < ps.length/\Q (gx (eE ps hs ns h)) n
def mw:bo:=λws n Q=>∃(ps:Pg)(hs:List Hn)(ns:List Nt)(h:Nat),ws=[.d (aX ps),.d (bg hs ns),.d (.int h)]/\b6 ps hs ns/\h < ps.length/\Q (.d (.bool (cK ps hs ns h))) n
def sy:bo:=λws n Q=>∃(fs:List Fd)(row:List Ab)(nm:Nm),ws=[.d (cV fs),.d (.tuple row),.d (bZ nm)]/\pd fs/\qI row/\okN nm/\Q (dX fs row nm) n
def oi:bo:=λws n Q=>ws=[.tp]/\n < 2 ^ 39/\∀v∈jD,Q (.d v) (n+1)
def m7:bo:=λws n Q=>∃m:Nat,ws=[.tp,.d (.int m)]/\m<=12/\n+100 < 2 ^ 39/\∀(ns:List Nt)(n':Int),bX m ns->n'<=n+100->Q (.d (cE ns)) n'
def tW:bo:=λws n Q=>ws=[.tp]/\n+4200 < 2 ^ 39/\∀(ps:Pg)(ns:List Nt)(n':Int),bQ ps->(∀P∈ps,iJ P)->bX 12 ns->n'<=n+4200->Q (.d (.tuple [aX ps,cE ns])) n'
def tH:bo:=λws n Q=>∃(P:List Bl)(i p:Nat)(b:Bl),ws=[.d (eB P),.d (.int i),.d (.int p)]/\P[i]?=ae b/\lA b/\p<=b.2.length/\∀ys:List Str,ys.Nodup->(∀k∈ys,fU k)->iV ys->(∀k,k∈ys↔k∈kn b.1 b.2 p)->Q (.d (.list (ys.map .str))) n
def vK:bo:=λws n Q=>∃ps:Pg,ws=[.tp,.d (aX ps)]/\bQ ps/\n+400 < 2 ^ 39/\∀(hs:List Hn)(ns:List Nt)(n':Int),okHs ps hs->bX 6 ns->n'<=n+400->Q (.d (bg hs ns)) n'
def fR(ps:Pg)(hs:List Hn)(ns:List Nt):List Ab:=((Bi ps.length).filter (cK ps hs ns)).map λh=>.int (h:Nat)
abbrev Sd:=List Hn×List Nt
def cF(s:Sd):Ab:=bg s.1 s.2
def aQ(L:List Nat):List Ab:=L.map λi=>.int (i:Nat)
def sQ:eF:=λws n Q=>∃(ps:Pg)(hs:List Hn)(ns:List Nt),ws=[.d (aX ps),.d (bg hs ns)]/\b6 ps hs ns/\Q (fR ps hs ns++[.int ps.length]) n
structure Wlk(ps:Pg)(s0:Sd)(L:List Nat)(S:List Sd):Prop where
 len:S.length=L.length+1
 fst:S[0]?=ae s0
 ok:∀i s,S[i]?=ae s->okHs ps s.1/\bX (12+i) s.2
 st:∀i m,L[i]?=ae m->m<=ps.length/\∃s t,S[i]?=ae s/\S[i+1]?=ae t/\bU ps s.1 s.2 m=ae t
def uo:bo:=λws n Q=>∃(ps:Pg)(s:Sd)(mo:Nat),ws=[.tp,.d (aX ps),.d (cF s),.d (.int mo)]/\mo<=16/\bQ ps/\okHs ps s.1/\bX 12 s.2/\n+62 < 2 ^ 39/\∀(L:List Nat)(S:List Sd)(n':Int),Wlk ps s L S->L.length<=16->n'<=n+62->Q (.d (.tuple [.list (aQ L),.list (S.map cF)])) n'
def eT(ps:Pg):List Hn:=ps.map λ_=>(0,0,[])
def pZ:bo:=λws n Q=>∃(ps:Pg)(ns:List Nt),ws=[.d (.tuple [aX ps,cE ns])]/\ps.length<=5/\Q (.d (bg (eT ps) ns)) n
def f9(nu:List Nat)(ns:List Nt):List Nat:=((nu.zip ns).filter λp=>cX p.2.2).map (·.1)
def gB(nu:List Nat)(g:Option Nat):Option Nat:=g.bind (nu[·]?)
def eY(nu:List Nat)(g:Option Nat):Ab:=gz (gB nu g)
def jv(ps:Pg)(s:Sd)(nu:List Nat)(fr m:Nat):Ac->Ab×List Nat×Nat
 |.lay fs age=>(.tuple [.str "lays",.int m,.int fr,dD (cS fs (jc s.1 m),age)],nu++[fr],fr+1)
 |.take _=>(.tuple [.str "takes",.int m,eY nu (bj ps s.1 s.2 m)],nu.filter (λx=>!decide (ae x=gB nu (bj ps s.1 s.2 m))),fr)
 |.read _=>(.tuple [.str "reads",.int m,eY nu (bj ps s.1 s.2 m)],nu,fr)
 |.look _ _=>(.tuple [.str "looks",.int m,eY nu (bj ps s.1 s.2 m)],nu,fr)
 |.same _ _ _=>(.tuple [.str "goes",.int m],nu,fr)
 |.go _=>(.tuple [.str "goes",.int m],nu,fr)
def b7(ps:Pg)(s:Sd)(nu:List Nat)(fr m:Nat):Ab×List Nat×Nat:=
 if m=ps.length then(.tuple [.str "clock",.tuple (aQ (f9 nu s.2))],nu.filter (λx=>!decide (x∈f9 nu s.2)),fr)
 else match bA ps s.1 m with
  |some a=>jv ps s nu fr m a
  |none=>(.none,nu,fr)
structure okNu(s:Sd)(nu:List Nat)(fr:Nat):Prop where
 nd:nu.Nodup
 len:nu.length=s.2.length
 lt:∀x∈nu,x < fr
def d9(s:Sd)(nu:List Nat)(fr:Nat):Ab:=.tuple [cF s,.tuple (aQ nu),.int fr]
def sv:bo:=pZ
def sH:bo:=λws n Q=>∃(ps:Pg)(ns:List Nt),ws=[.d (.tuple [aX ps,cE ns])]/\ps.length<=5/\ns.length<=12/\Q (.d (d9 (eT ps,ns) (Bi ns.length) ns.length)) n
def uL:bo:=λws n Q=>∃(s:Sd)(nu:List Nat)(fr:Nat),ws=[.d (d9 s nu fr)]/\nu.length=s.2.length/\(∀q∈s.2,hU q.2)/\Q (.d (.tuple [.str "clock",.tuple (aQ (f9 nu s.2))])) n
structure okBd(ps:Pg)(s t:Sd)(nu:List Nat)(fr m:Nat):Prop where
 st:b6 ps s.1 s.2
 nu:okNu s nu fr
 le:m<=ps.length
 af:bU ps s.1 s.2 m=ae t
def vq:bo:=λws n Q=>∃(ps:Pg)(s t:Sd)(nu:List Nat)(fr m:Nat),ws=[.d (aX ps),.d (d9 s nu fr),.d (.int m),.d (cF t)]/\okBd ps s t nu fr m/\m < ps.length/\Q (.d (b7 ps s nu fr m).1) n
def sR:bo:=λws n Q=>∃(ps:Pg)(s t:Sd)(nu:List Nat)(fr m:Nat),ws=[.d (aX ps),.d (d9 s nu fr),.d (.int m),.d (cF t)]/\okBd ps s t nu fr m/\Q (.d (b7 ps s nu fr m).1) n
def gQ:Ab->List Ab
 |.tuple (.str h::r)=>if h="clock" then(match r with|.tuple l::_=>l|_=>[])else if h="takes" then(r.drop 1).take 1 else[]
 |_=>[]
def nv:Ab->Prop
 |.tuple (.str h::r)=>(h="clock"/\∃l,r=[.tuple l])\/(h="takes"/\∃a b,r=[a,b])\/(h≠"clock"/\h≠"takes")
 |_=>False
def wO:bo:=λws n Q=>∃row,ws=[.d row]/\nv row/\Q (.d (.tuple (gQ row))) n
def vx:bo:=λws n Q=>∃(ps:Pg)(s t:Sd)(nu:List Nat)(fr m:Nat),ws=[.d (d9 s nu fr),.d (b7 ps s nu fr m).1,.d (cF t)]/\okBd ps s t nu fr m/\nu.length<=200/\Q (.d (d9 t (b7 ps s nu fr m).2.1 (b7 ps s nu fr m).2.2)) n
def ja(ps:Pg)(b:Ab):Nat:=(lU ps b).getD 0
def kO(ps:Pg)(s:Sd)(nu:List Nat)(fr:Nat)(b:Ab):Ab:=match eJ ps s.1 s.2 b with
 |none=>.none
 |some t=>.tuple [(b7 ps s nu fr (ja ps b)).1,d9 t (b7 ps s nu fr (ja ps b)).2.1 (b7 ps s nu fr (ja ps b)).2.2]
def vO:bo:=λws n Q=>∃(ps:Pg)(s:Sd)(nu:List Nat)(fr:Nat)(b:Ab),ws=[.d (aX ps),.d (d9 s nu fr),.d b]/\b6 ps s.1 s.2/\okNu s nu fr/\Q (.d (kO ps s nu fr b)) n
def wF(ps:Pg)(ns:List Nt):Prop:=bQ ps/\okHs ps (eT ps)/\bX 12 ns
def eQ(ps:Pg):Sd->List Ab->Option Nat
 |_,[]=>ah
 |s,b::r=>match eJ ps s.1 s.2 b with
  |none=>ae 0
  |some t=>(eQ ps t r).map (·+1)
def kI:Option Nat->Ab
 |none=>.str "told"
 |some k=>.int k
def fK(o:Option Nat)(n:Int)(Q:Int->Prop)(E:Int->Int->Prop):Prop:=match o with
 |none=>Q n
 |some k=>E k n
def kH{α:Type}:Option α->Option Nat
 |none=>ae 0
 |some _=>ah
def m5:dE:=λws n Q E=>∃(ps:Pg)(hs:List Hn)(ns:List Nt)(b:Ab),ws=[.d (aX ps),.d (bg hs ns),.d b]/\b6 ps hs ns/\fK (kH (eJ ps hs ns b)) n Q E
def mW:dE:=λws n Q E=>∃(ps:Pg)(s:Sd)(bs:List Ab)(v:Ab),ws=[.d (aX ps),.d (cF s),.d v]/\(v=.list bs\/v=.tuple bs)/\bQ ps/\okHs ps s.1/\bX 12 s.2/\bs.length<=20/\fK (eQ ps s bs) n Q E
def nE:dE:=λws n Q E=>∃(ps:Pg)(ns:List Nt)(bs:List Ab),ws=[.d (.tuple [aX ps,cE ns]),.d (.list bs)]/\bQ ps/\okHs ps (eT ps)/\bX 12 ns/\bs.length<=20/\fK (eQ ps (eT ps,ns) bs) n Q E
def ik:bo:=λws n Q=>∃(dr:Str)(p s v:Ab),ws=[.d (.str dr),.d p,.d s,.d v] /\
 ((∃(ps:Pg)(hs:List Hn)(ns:List Nt)(x:Ab),dr="moved"/\p=.tuple [aX ps,x]/\s=bg hs ns/\b6 ps hs ns/\Q (.d (kI (kH (eJ ps hs ns v)))) n) \/
  (∃(ps:Pg)(t:Sd)(x:Ab)(bs:List Ab),dr="woven"/\p=.tuple [aX ps,x]/\s=cF t/\(v=.list bs\/v=.tuple bs)/\bQ ps/\okHs ps t.1/\bX 12 t.2/\bs.length<=20/\Q (.d (kI (eQ ps t bs))) n) \/
  ∃(ps:Pg)(ns:List Nt)(bs:List Ab),dr="log"/\p=.tuple [aX ps,cE ns]/\v=.list bs/\bQ ps/\okHs ps (eT ps)/\bX 12 ns/\bs.length<=20/\Q (.d (kI (eQ ps (eT ps,ns) bs))) n)
def mR(b:Ab):Prop:=PyData.canLay0 b=ai/\PyData.depth b<=4/\PyData.weight b<=120/\Gs 40 b=ai/\Gz b=ai
def pM:bo:=λws n Q=>∃(ps:Pg)(hs:List Hn)(ns:List Nt),ws=[.tp,.d (aX ps),.d (bg hs ns)]/\b6 ps hs ns/\n+4 < 2 ^ 39/\∀b,eJ ps hs ns b=ah->mR b->Q (.d b) (n+1)
abbrev Pt:aH:=(aA (fP (di "int" ↥0) (nF (di "bool" ↥0))))
abbrev BK:aH:=(av (aB 4 (w2 ↥0 ⇑0 az)) (av (aJ (cT (w2 ↥4 (wC (.str "is")) aT)) (aA (w2 (w2 ↥0 ⇑1 az) ↥1 aT)) aL) (av (aJ (cT (w2 ↥4 (wC (.str "word")) aT)) (aA (di "str" ↥1)) aL) (av (aJ (cT (w2 ↥4 (wC (.str "number")) aT)) (aA (di "int" ↥1)) aL) (av (aJ (cT (w2 ↥4 (wC (.str "as")) aT)) (aA (fP (w2 (w2 ↥0 ⇑1 az) (dq 2) (fc aj)) (w2 (w2 (dq 2) (w2 ↥0 ⇑1 az) gv) ↥1 aT))) aL) (av (aJ (cT (w2 ↥4 (wC (.str "bind")) aT)) (aA (rj (w2 (w2 ↥0 ⇑1 az) (dq 3) (fc ai)) (w2 (w2 (dq 3) (w2 ↥0 ⇑1 az) gv) ↥1 aT))) aL) (aA (wC (.bool ai)))))))))
abbrev uV:aH:=(av (aJ (cT (w2 (wB bF (aq ↥0 ao)) (wB bF (aq ↥1 ao)) eu)) (aA (wC .none)) aL) (av (jk 3 (i8 ↥2)) (av (jk 4 kB) (av (aW (kA ↥0 ↥1) (dO 2 (bB (aI 5) (bB (aI 6) cz))) (av (aJ (dv (cT (aF jL (aq ↥5 (aq ↥6 (aq (dq 3) (aq (dq 4) ao))))))) (aA (wC .none)) aL) (aJ (cT (w2 (w2 ↥5 ⇑0 az) (wC (.str "bind")) aT)) (av (mD 4 (w2 ↥5 ⇑1 az) ↥6) (mD 3 (w2 ↥5 ⇑1 az) ↥6)) aL))) (aA (wB dM (aq (br (nS (dq 3))) ao)))))))
abbrev Ir:aH:=(av (aJ (cT (di "str" ↥0)) (aA ↥0) aL) (aA (fD (cT (w2 ↥0 ⇑99 aT)) ⇑0 (w2 ↥0 ⇑1 (cx λi j=>.int (i+j))))))
abbrev BZ:aH:=(av (aJ (cT (w2 (w2 ↥0 ⇑0 az) (wC (.str "is")) aT)) (aA (w2 ↥0 ⇑1 az)) aL) (av (aB 2 (w2 (dq 1) (w2 ↥0 ⇑1 az) gv)) (aA (fD (cT (w2 (w2 ↥0 ⇑0 az) (wC (.str "next")) aT)) (aF uI (aq ↥2 ao)) ↥2))))
abbrev xj:aH:=(av (jk 2 (i8 ↥1)) (aA (wB dM (aq (br (cG [ah,ae 2] (dS ↥0) (aI 0) cQ (aF oM (aq ↥0 (aq (dq 1) ao))))) ao))))
abbrev EU:aH:=(aA (aw (aq (wB dM (aq (br (cG [ah] (dS (w2 ↥0 ⇑0 az)) (aI 0) cQ (aw (aq ⇑0 (aq ⇑0 (aq (aw ao) ao)))))) ao)) (aq (wB dM (aq (w2 ↥0 ⇑1 az) ao)) ao))))
abbrev FQ:aH:=(aA (fP (aF uF (aq ↥0 ao)) (nU jG jG ⇑0 ↥0 ↥1)))
abbrev FI:aH:=(av (aB 3 (w2 (w2 (w2 ↥1 ⇑0 az) ↥2 az) ⇑0 az)) (av (aB 4 (w2 (w2 (w2 ↥1 ⇑0 az) ↥2 az) ⇑1 az)) (av (aB 5 (w2 (w2 (w2 ↥0 ↥2 az) ↥3 az) ⇑1 az)) (aA (fD (cT (w2 ↥4 (wB bF (aq ↥5 ao)) ir)) (w2 ↥5 ↥4 az) (wC .none))))))
abbrev Zg:List Str:=["take","read","look"]
abbrev EK:aH:=(av (aB 3 (aF iM (aq ↥0 (aq ↥1 (aq ↥2 ao))))) (av (aJ (ia (cT (w2 ↥3 (wC .none) (cm aj))) (cT (nJ Zg (w2 ↥3 ⇑0 az)))) (aA (wC .none)) aL) (av (aB 4 (w2 (w2 (w2 ↥1 ⇑0 az) ↥2 az) ⇑2 az)) (av (pQ 5) (av (aW (k9 (w2 ↥1 ⇑1 az)) (dO 2 (bB (aI 6) (bB (aI 7) cz))) (aJ (cT (pN 5 (w2 ↥7 ⇑0 az))) (av (aJ (cT (w2 (aF pY (aq (w2 ↥3 ⇑1 az) (aq (w2 ↥7 ⇑0 az) (aq ↥4 ao)))) (wC .none) (cm ai))) (aA ↥6) aL) (yy 5 (w2 ↥7 ⇑0 az) (wC (.bool ai)))) aL)) (aA (wC .none)))))))
abbrev BN:aH:=(aA (aw (aq (w2 ↥0 ⇑0 az) (aq (w2 (w2 ↥0 ⇑1 az) ⇑1 (cx λi j=>.int (i+j))) (aq ↥1 ao)))))
abbrev yC:aH:=(av (aB 3 (w2 (w2 ↥0 ↥1 az) ⇑0 az)) (aA (aw (aq ↥1 (aq ⇑0 (aq (wB dM (aq (br (cG [ah,ae 3] (dS ↥2) (aI 0) (cT (w2 (w2 ↥0 ⇑0 az) ↥1 (fZ aj))) ↥0)) ao)) ao))))))
abbrev FA:aH:=(aA (w2 (w2 (eO ↥0 cR (cP ↥1)) (aw (aq ↥2 ao)) eR) (eO ↥0 (cP (w2 ↥1 ⇑1 (cx λi j=>.int (i+j)))) cR) eR))
abbrev rT:aH:=(av (aB 4 (w2 (w2 ↥1 ⇑0 az) ↥2 az)) (av (aB 5 (w2 ↥1 ⇑1 az)) (av (aB 6 (aF lV (aq ↥0 (aq ↥1 (aq ↥2 ao))))) (av (aJ (cT (w2 ↥6 (wC .none) (cm aj))) (av (aJ (cT (w2 (w2 ↥3 ⇑0 az) (wC (.str "look")) eu)) (aA (wC .none)) aL) (aA (aw (aq (aF jy (aq (w2 ↥1 ⇑0 az) (aq ↥2 (aq (aF pB (aq (w2 ↥0 ↥2 az) (aq (w2 ↥3 ⇑2 az) (aq (w2 ↥4 ⇑2 az) ao)))) ao)))) (aq ↥5 ao))))) aL) (av (aB 7 (aF pY (aq (w2 ↥3 ⇑1 az) (aq (w2 (w2 ↥5 ↥6 az) ⇑0 az) (aq (w2 ↥4 ⇑2 az) ao))))) (av (aJ (cT (w2 (w2 ↥3 ⇑0 az) (wC (.str "take")) aT)) (aB 5 (w2 (eO ↥5 cR (cP ↥6)) (eO ↥5 (cP (w2 ↥6 ⇑1 (cx λi j=>.int (i+j)))) cR) eR)) aL) (aA (aw (aq (aF jy (aq (w2 ↥1 ⇑0 az) (aq ↥2 (aq (aF mL (aq ↥4 (aq ↥7 ao))) ao)))) (aq ↥5 ao))))))))))
abbrev yT:aH:=(av (jk 2 (i8 ↥1)) (aA (w2 (aF oM (aq (w2 ↥0 ⇑1 az) (aq (dq 2) ao))) (aF oM (aq (w2 ↥0 ⇑2 az) (aq (dq 2) ao))) aT)))
abbrev yS:aH:=(av (aB 3 (aF iM (aq ↥0 (aq ↥1 (aq ↥2 ao))))) (av (aJ (cT (w2 ↥3 (wC .none) (cm aj))) (aA (wC .none)) aL) (av (aJ (cT (iR Zg (w2 ↥3 ⇑0 az))) (aA (aF nY (aq ↥0 (aq ↥1 (aq ↥2 (aq ↥3 ao)))))) aL) (av (aB 4 (w2 (w2 ↥1 ⇑0 az) ↥2 az)) (av (aB 5 (w2 ↥1 ⇑1 az)) (av (aB 6 (w2 ↥4 ⇑2 az)) (av (aJ (cT (w2 (w2 ↥3 ⇑0 az) (wC (.str "lay")) aT)) (av (aB 5 (w2 ↥5 (aw (aq (aw (aq (aF rO (aq (w2 ↥3 ⇑1 az) (aq ↥6 ao))) (aq (w2 ↥3 ⇑2 az) ao))) ao)) eR)) (aB 4 (aF mL (aq ↥4 (aq ↥6 ao))))) (aJ (dU (cT (w2 (w2 ↥3 ⇑0 az) (wC (.str "same")) aT)) (cT (aF vM (aq ↥3 (aq ↥6 ao))))) (aB 4 (aF mL (aq ↥4 (aq ↥6 ao)))) (aB 4 (aF pB (aq (w2 ↥0 ↥2 az) (aq (w2 ↥3 (cJ ⇑1) az) (aq ↥6 ao))))))) (aA (aw (aq (aF jy (aq (w2 ↥1 ⇑0 az) (aq ↥2 (aq ↥4 ao)))) (aq ↥5 ao)))))))))))
abbrev HV:aH:=(aA (fD (cT (w2 (w2 ↥0 ⇑1 az) (wC .none) (cm aj))) ↥0 (aw (aq (w2 ↥0 ⇑0 az) (aq (w2 (w2 ↥0 ⇑1 az) ⇑1 (cx λi j=>.int (i-j))) ao)))))
abbrev IB:aH:=(aA (aw (aq (w2 ↥0 ⇑0 az) (aq (wB dM (aq (br (cG [ah] (dS (w2 ↥0 ⇑1 az)) (aI 0) (cT (w2 (w2 ↥0 ⇑1 az) ⇑1 eu)) (aF vG (aq ↥0 ao)))) ao)) ao))))
abbrev yb:aH:=(av (aB 3 (wB bF (aq ↥0 ao))) (av (aJ (dv (cT (aF vX (aq ↥2 (aq ↥3 ao))))) (aA (wC .none)) aL) (aA (fD (cT (w2 ↥2 ↥3 aT)) (aF sC (aq ↥1 ao)) (aF uO (aq ↥0 (aq ↥1 (aq ↥2 ao))))))))
abbrev EZ:aH:=(av (aB 1 (wB bF (aq (w2 ↥0 ⇑1 az) ao))) (aA (aw (aq (aF sv (aq ↥0 ao)) (aq (wQ ↥1) (aq ↥1 ao))))))
abbrev yM:aH:=(av (aB 1 (br (cG [ah,ah] (kA (w2 (w2 ↥0 ⇑0 az) ⇑1 az) (w2 ↥0 ⇑1 az)) (dO 2 (bB (aI 0) (bB (aI 1) cz))) (cT (w2 (w2 ↥0 ⇑1 az) ⇑1 aT)) ↥1))) (aA (aw (aq (wC (.str "clock")) (aq (wB dM (aq ↥1 ao)) ao)))))
abbrev xt:aH:=(av (aB 4 (aF iM (aq ↥0 (aq (w2 ↥1 ⇑0 az) (aq ↥2 ao))))) (av (aJ (cT (w2 (w2 ↥4 ⇑0 az) (wC (.str "lay")) aT)) (aA (aw (aq (wC (.str "lays")) (aq ↥2 (aq (w2 ↥1 ⇑2 az) (aq (w2 (w2 ↥3 ⇑1 az) (cJ ⇑1) az) ao)))))) aL) (av (aJ (cT (o6 [("take","takes"),("read","reads"),("look","looks")] (w2 ↥4 ⇑0 az))) (aA (aw (aq (wC (.str "goes")) (aq ↥2 ao)))) aL) (av (aB 5 (aF lV (aq ↥0 (aq (w2 ↥1 ⇑0 az) (aq ↥2 ao))))) (aA (aw (aq (iU [("take","takes"),("read","reads"),("look","looks")] (w2 ↥4 ⇑0 az)) (aq ↥2 (aq (fD (cT (w2 ↥5 (wC .none) (cm aj))) (wC .none) (w2 (w2 ↥1 ⇑1 az) ↥5 az)) ao)))))))))
abbrev xW:aH:=(av (aJ (cT (w2 ↥2 (wB bF (aq ↥0 ao)) aT)) (aA (aF uL (aq ↥1 ao))) aL) (aA (aF vq (aq ↥0 (aq ↥1 (aq ↥2 (aq ↥3 ao)))))))
abbrev Hm:aH:=(av (aJ (cT (w2 (w2 ↥0 ⇑0 az) (wC (.str "clock")) aT)) (aA (w2 ↥0 ⇑1 az)) aL) (aA (fD (cT (w2 (w2 ↥0 ⇑0 az) (wC (.str "takes")) aT)) (aw (aq (w2 ↥0 ⇑2 az) ao)) (aw ao))))
abbrev rC:aH:=(av (aB 3 (aF wO (aq ↥1 ao))) (av (aB 4 (wB dM (aq (br (cG [ah,ae 3] (dS (w2 ↥0 ⇑1 az)) (aI 0) (cT (w2 ↥0 ↥1 (fZ ai))) ↥0)) ao))) (av (aJ (cT (w2 (w2 ↥1 ⇑0 az) (wC (.str "lays")) aT)) (aA (aw (aq ↥2 (aq (w2 ↥4 (aw (aq (w2 ↥1 ⇑2 az) ao)) eR) (aq (w2 (w2 ↥0 ⇑2 az) ⇑1 (cx λi j=>.int (i+j))) ao))))) aL) (aA (aw (aq ↥2 (aq ↥4 (aq (w2 ↥0 ⇑2 az) ao))))))))
abbrev CW:aH:=(av (aB 3 (aF lW (aq ↥0 (aq (w2 ↥1 ⇑0 az) (aq ↥2 ao))))) (av (aJ (cT (w2 ↥3 (wC .none) (cm aj))) (aA (wC .none)) aL) (av (aB 4 (aF sR (aq ↥0 (aq ↥1 (aq ↥2 (aq ↥3 ao)))))) (aA (aw (aq ↥4 (aq (aF vx (aq ↥1 (aq ↥4 (aq ↥3 ao)))) ao)))))))
abbrev zd:aH:=(aA (w2 (br (aO (aq (wC (.str "a")) (aq ⇑0 (aq (wC (.str "a")) (aq ⇑1 (aq (wC (.str "ab")) (aq (wC (.str "go")) (aq ⇑99 (aq ⇑0 ao)))))))))) (aF ck (aq ↥0 (aq ⇑8 ao))) az))
abbrev Ia:aH:=(aA (w2 (br (aO (aq ⇑1 (aq ⇑2 (aq ⇑2 (aq ⇑2 (aq ⇑1 (aq ⇑3 (aq ⇑4 ao))))))))) (aF ck (aq ↥0 (aq ⇑7 ao))) az))
abbrev xZ:aH:=(aA (w2 (fM 0) (aF ck (aq ↥0 (aq (wB fO (aq (fM 0) ao)) ao))) aZ))
abbrev AK:aH:=(av (bC 2 (aO ao)) (av (bC 3 (aO ao)) (av (aW (dC (aF mS (aq ↥0 ao))) (aI 4) (av (aB 5 (aF ck (aq ↥0 (aq ⇑9 ao)))) (av (aB 6 (w2 ↥1 (ft 3) eU)) (aJ (cT (w2 ↥5 ⇑3 ir)) (a8 2 (aw (aq (wC (.str "is")) (aq (aF jd (aq ↥0 ao)) ao)))) (aJ (cT (w2 ↥5 ⇑6 ir)) (a8 2 (w2 (br (aO (aq (aw (aq (wC (.str "any")) ao)) (aq (aw (aq (wC (.str "word")) ao)) (aq (aw (aq (wC (.str "number")) ao)) ao))))) (w2 ↥5 ⇑3 (cx λi j=>.int (i-j))) aZ)) (aJ (ia (cT (w2 ↥5 ⇑8 ir)) (cT (w2 ↥6 (br (aO ao)) cL))) (av (aB 7 (w2 (br (aO (aq (wC (.str "n")) (aq (wC (.str "nm")) (aq (wC (.str "go")) (aq (wC (.str "m")) ao)))))) (aF ck (aq ↥0 (aq ⇑4 ao))) aZ)) (av (a8 3 ↥7) (a8 2 (aw (aq (wC (.str "bind")) (aq ↥7 ao)))))) (a8 2 (aw (aq (wC (.str "as")) (aq (w2 ↥6 (aF ck (aq ↥0 (aq (wB fO (aq ↥6 ao)) ao))) aZ) ao)))))))))) (bL 2 (bL 3 (aA (aw (aq (wB iw (aq ↥2 ao)) (aq ↥3 ao)))))))))
abbrev GK:aH:=(av (bC 2 (aO ao)) (av (aW (dC (aF mS (aq ↥0 ao))) (aI 3) (av (aB 4 (aF ck (aq ↥0 (aq ⇑6 ao)))) (aJ (ia (cT (w2 ↥4 ⇑3 ir)) (cT (w2 ↥1 (br (aO ao)) cL))) (a8 2 (aw (aq (wC (.str "is")) (aq (aF jd (aq ↥0 ao)) ao)))) (a8 2 (aw (aq (w2 (br (aO (aq (wC (.str "as")) (aq (wC (.str "as")) (aq (wC (.str "next")) ao))))) (w2 ↥4 ⇑3 (cx λi j=>.int (i-j))) aZ) (aq (w2 ↥1 (aF ck (aq ↥0 (aq (wB fO (aq ↥1 ao)) ao))) aZ) ao))))))) (bL 2 (aA (wB iw (aq ↥2 ao))))))
abbrev zQ:aH:=(av (aJ (ia (cT (w2 ↥1 (br (aO ao)) cL)) (cT (w2 (aF ck (aq ↥0 (aq ⇑2 ao))) ⇑0 cL))) (aA (aw (aq (wC (.str "is")) (aq (aF jd (aq ↥0 ao)) ao)))) aL) (aA (aw (aq (wC (.str "as")) (aq (w2 ↥1 (aF ck (aq ↥0 (aq (wB fO (aq ↥1 ao)) ao))) aZ) ao)))))
abbrev CQ:aH:=(av (aB 3 (aF ck (aq ↥0 (aq ⇑12 ao)))) (av (aJ (cT (w2 ↥3 ⇑4 ir)) (aA (aw (aq (aw (aq (wC (.str "lay")) (aq (aF uJ (aq ↥0 (aq ↥1 ao))) (aq (aF oi (aq ↥0 ao)) ao)))) (aq (br (aO ao)) ao)))) aL) (av (aB 4 (w2 ↥2 (aF ck (aq ↥0 (aq (wB fO (aq ↥2 ao)) ao))) aZ)) (av (aJ (cT (w2 ↥3 ⇑10 cL)) (aA (aw (aq (aw (aq (wC (.str "same")) (aq (aF qr (aq ↥0 (aq ↥1 ao))) (aq (aF qr (aq ↥0 (aq ↥1 ao))) (aq ↥4 ao))))) (aq (br (aO ao)) ao)))) aL) (av (aJ (cT (w2 ↥3 ⇑11 cL)) (aA (aw (aq (aw (aq (wC (.str "go")) (aq ↥4 ao))) (aq (br (aO ao)) ao)))) aL) (av (dB (aF vB (aq ↥0 (aq ↥1 ao))) (dO 2 (bB (aI 5) (bB (aI 6) cz)))) (av (aJ (cT (w2 ↥3 ⇑7 mq)) (aA (aw (aq (aw (aq (wC (.str "look")) (aq ↥5 (aq ↥4 ao)))) (aq ↥6 ao)))) aL) (aA (aw (aq (aw (aq (w2 (br (aO (aq (wC (.str "take")) (aq (wC (.str "take")) (aq (wC (.str "take")) (aq (wC (.str "read")) ao)))))) (w2 ↥3 ⇑4 (cx λi j=>.int (i-j))) aZ) (aq ↥5 ao))) (aq ↥6 ao)))))))))))
abbrev BS:aH:=(av (bC 1 (aO (aq (aw ao) ao))) (av (aW (dC (w2 (br (aO (aq ⇑0 (aq ⇑1 (aq ⇑2 (aq ⇑1 (aq ⇑0 (aq ⇑2 (aq ⇑5 ao))))))))) (aF ck (aq ↥0 (aq ⇑7 ao))) aZ)) (aI 2) (a8 1 (w2 (br (aO (aq (aw ao) (aq (aw (aq (wC (.str "n")) ao)) (aq (aw (aq (wC (.str "go")) (aq (wC (.str "n")) ao))) (aq (aw (aq (wC (.str "nm")) ao)) (aq (aw ao) ao))))))) (aF ck (aq ↥0 (aq ⇑5 ao))) aZ))) (av (bC 3 (aO ao)) (bL 1 (av (aW (je ↥1) (aI 4) (av (bC 5 (ll ↥4)) (av (bC 6 (aO ao)) (av (aW (dC (w2 (br (aO (aq ⇑2 (aq ⇑3 (aq ⇑1 (aq ⇑4 (aq ⇑2 (aq ⇑0 (aq ⇑3 (aq ⇑8 ao)))))))))) (aF ck (aq ↥0 (aq ⇑8 ao))) aZ)) (aI 2) (av (aB 8 (br (cG [ah,ae 5,ae 1] (dC (wB fO (aq ↥1 ao))) (aI 0) (cT (w2 (br (cG [ah,ae 1] (dS (w2 ↥2 ↥0 aZ)) (aI 0) (cT (w2 ↥0 ↥1 (eV ai))) ↥0)) (br (aO ao)) cL)) ↥0))) (av (dB (aF oh (aq ↥0 (aq (ft 5) (aq ↥8 ao)))) (dO 2 (bB (aI 9) (bB (aI 10) cz)))) (av (a8 6 ↥9) (aW (je ↥10) (aI 7) (aJ (cT (w2 ↥7 (ft 5) (eV ai))) (a8 5 ↥7) aL)))))) (bL 6 (a8 3 (aw (aq ↥4 (aq (wB iw (aq ↥6 ao)) ao))))))))) (bL 3 (aA (wB iw (aq ↥3 ao)))))))))
abbrev FV:aH:=(av (bC 2 (aO ao)) (av (aW (dC (aF ck (aq ↥0 (aq (w2 ↥1 ⇑1 (cx λi j=>.int (i+j))) ao)))) (aI 3) (av (aB 4 (wB iw (aq (br (cG [ah,ae 0] (dC (aF mS (aq ↥0 ao))) (aI 0) cQ (aF jd (aq ↥1 ao)))) ao))) (a8 2 (aw (aq ↥4 (aq (aF oi (aq ↥0 ao)) ao)))))) (bL 2 (aA (wB iw (aq ↥2 ao))))))
abbrev yY:aH:=(av (bC 1 (cG [ah,ae 0] (dC (w2 (br (aO (aq ⇑2 (aq ⇑1 (aq ⇑2 (aq ⇑3 (aq ⇑2 (aq ⇑1 (aq ⇑0 (aq ⇑5 ao)))))))))) (aF ck (aq ↥0 (aq ⇑8 ao))) aZ)) (aI 0) cQ (aF uw (aq ↥1 ao)))) (av (aJ (dU (cT (w2 (wB fO (aq (ft 1) ao)) ⇑2 cL)) (cT (w2 (aF ck (aq ↥0 (aq ⇑4 ao))) ⇑0 cL))) (jw 1 ⇑1 (w2 (ft 1) ⇑0 aZ)) aL) (bL 1 (aA (aw (aq (wB iw (aq ↥1 ao)) (aq (aF m7 (aq ↥0 (aq (w2 (br (aO (aq ⇑4 (aq ⇑3 (aq ⇑6 (aq ⇑12 ao)))))) (aF ck (aq ↥0 (aq ⇑4 ao))) aZ) ao))) ao)))))))
abbrev zH:aH:=(av (bC 3 (ll (w2 (w2 ↥0 ↥1 az) ⇑0 az))) (av (aW (dS (eO (w2 (w2 ↥0 ↥1 az) ⇑1 az) cR (cP ↥2))) (aI 4) (aJ (cT (w2 (w2 ↥4 ⇑0 az) (aw (aq (wC (.str "take")) (aq (wC (.str "read")) (aq (wC (.str "look")) ao)))) (fZ aj))) (gw 3 (br (cG [ah] (dS (w2 ↥4 ⇑1 az)) (aI 0) (cT (w2 (w2 ↥0 ⇑0 az) (wC (.str "bind")) aT)) (w2 ↥0 ⇑1 az)))) aL)) (bL 3 (aA (br (sT ↥3))))))
abbrev Ie:aH:=(av (bC 2 (aO ao)) (av (aW (dS ↥1) (aI 3) (av (aB 4 (aF ck (aq ↥0 (aq (wB bF (aq ↥3 ao)) ao)))) (av (aB 5 (aF ck (aq ↥0 (aq (w2 (wB bF (aq (w2 (w2 ↥3 ↥4 az) ⇑1 az) ao)) ⇑1 (cx λi j=>.int (i+j))) ao)))) (av (aB 6 (wB dM (aq (br (cG [ah,ae 0] (je (aF tH (aq ↥3 (aq ↥4 (aq ↥5 ao))))) (aI 0) cQ (aw (aq ↥0 (aq (aF jd (aq ↥1 ao)) ao))))) ao))) (a8 2 (aw (aq ↥4 (aq ↥5 (aq ↥6 ao))))))))) (bL 2 (aA (aw (aq (wB dM (aq ↥2 ao)) (aq (aF m7 (aq ↥0 (aq ⇑6 ao))) ao)))))))
abbrev uh:aH:=(av (aJ (cT (w2 (wB bF (aq ↥0 ao)) (wB bF (aq ↥1 ao)) eu)) (aA (wC .none)) aL) (av (jk 3 (i8 ↥2)) (av (bC 4 (aO ao)) (av (aW (kA ↥0 ↥1) (dO 2 (bB (aI 5) (bB (aI 6) cz))) (av (aB 7 (w2 ↥5 ⇑0 az)) (av (aB 8 (wC (.bool ai))) (av (aJ (cT (w2 ↥7 (wC (.str "is")) aT)) (aB 8 (w2 (w2 ↥5 ⇑1 az) ↥6 aT)) (aJ (cT (w2 ↥7 (aw (aq (wC (.str "word")) (aq (wC (.str "number")) ao))) (fZ aj))) (aB 8 (w2 (di "str" ↥6) (w2 ↥7 (wC (.str "word")) aT) aT)) (aJ (ia (cT (w2 ↥7 (wC (.str "as")) aT)) (dU (cT (w2 ↥7 (wC (.str "bind")) aT)) (cT (ma 4 (w2 ↥5 ⇑1 az))))) (aB 8 (fP (w2 (w2 ↥5 ⇑1 az) (dq 3) (fc aj)) (w2 (w2 (dq 3) (w2 ↥5 ⇑1 az) gv) ↥6 aT))) (aJ (cT (w2 ↥7 (wC (.str "bind")) aT)) (av (mD 3 (w2 ↥5 ⇑1 az) ↥6) (a8 4 (w2 ↥5 ⇑1 az))) aL)))) (aJ (dv (cT ↥8)) (aA (wC .none)) aL))))) (bL 3 (aA ↥3))))))
abbrev EA:aH:=(av (dB (w2 (w2 ↥1 ⇑0 az) ↥2 az) (dO 3 (bB (aI 3) (bB (aI 4) (bB (aI 5) cz))))) (av (aB 6 (w2 (w2 (w2 ↥0 ↥2 az) ↥3 az) ⇑1 az)) (aA (fD (cT (w2 ↥4 (wB bF (aq ↥6 ao)) ir)) (w2 ↥6 ↥4 az) (wC .none)))))
abbrev BV:aH:=(av (aB 3 (aF iM (aq ↥0 (aq ↥1 (aq ↥2 ao))))) (av (aJ (ia (cT (w2 ↥3 (wC .none) (dY aj))) (cT (w2 (w2 ↥3 ⇑0 az) (aw (aq (wC (.str "take")) (aq (wC (.str "read")) (aq (wC (.str "look")) ao)))) (fZ ai)))) (aA (wC .none)) aL) (av (aW (dC (wB bF (aq (w2 ↥1 ⇑1 az) ao))) (aI 4) (av (aB 5 (aF sy (aq (w2 ↥3 ⇑1 az) (aq (w2 (w2 (w2 ↥1 ⇑1 az) ↥4 az) ⇑0 az) (aq (w2 (w2 (w2 ↥1 ⇑0 az) ↥2 az) ⇑2 az) ao))))) (aJ (cT (w2 ↥5 (wC .none) (dY ai))) (aA (vp ↥4 ↥5)) aL))) (aA (wC .none)))))
abbrev Ii:aH:=(av (aB 3 (aF iM (aq ↥0 (aq ↥1 (aq ↥2 ao))))) (av (aJ (cT (w2 ↥3 (wC .none) (dY aj))) (aA (wC (.bool aj))) aL) (aA (rj (w2 (w2 ↥3 ⇑0 az) (aw (aq (wC (.str "take")) (aq (wC (.str "read")) ao))) (fZ ai)) (w2 (aF pT (aq ↥0 (aq ↥1 (aq ↥2 ao)))) (wC .none) (dY ai))))))
abbrev AS:aH:=(av (bC 2 (aO ao)) (av (aW (dS ↥0) (dO 2 (bB (aI 3) (bB (aI 4) cz))) (av (aB 5 (fD (cT (w2 ↥3 (wC (.str "is")) aT)) ↥4 (w2 (dq 1) ↥4 gv))) (av (aJ (dU (cT (w2 ↥3 (wC (.str "next")) aT)) (dv (cT (di "str" ↥5)))) (aB 5 (w2 (w2 ↥5 ⇑1 (cx λi j=>.int (i+j))) ⇑100 (gI (λ_ j=>0 < j) λi j=>.int (i % j)))) aL) (a8 2 ↥5)))) (bL 2 (aA (wB dM (aq ↥2 ao))))))
abbrev FK:aH:=(av (jk 3 (i8 ↥1)) (aA (aw (aq ↥2 (aq ⇑0 (aq (wB dM (aq (br (cG [ah,ae 3] (dS (w2 (w2 ↥0 ↥2 az) ⇑0 az)) (aI 0) cQ (aw (aq ↥0 (aq (w2 (dq 1) ↥0 gv) ao))))) ao)) ao))))))
abbrev yq:aH:=(aA (fD (cT (w2 (w2 ↥0 ⇑0 az) (wC (.str "is")) aT)) (w2 ↥0 ⇑1 az) (w2 (o9 ↥1) (w2 ↥0 ⇑1 az) gv)))
abbrev xR:aH:=(av (dB ↥1 (dO 2 (bB (aI 3) (bB (aI 4) cz)))) (av (aJ (cT (w2 ↥2 (wB bF (aq ↥0 ao)) aT)) (aA (aw (aq ↥3 (aq (wB dM (aq (br (cG [ah,ah] (dS ↥4) (dO 2 (bB (aI 0) (bB (aI 1) cz))) (cT (w2 ↥1 ⇑1 eu)) (aw (aq ↥0 (aq (fD (cT (w2 ↥1 (wC .none) (dY aj))) (wC .none) (w2 ↥1 ⇑1 (cx λi j=>.int (i-j)))) ao))))) ao)) ao)))) aL) (av (aB 5 (aF iM (aq ↥0 (aq ↥1 (aq ↥2 ao))))) (av (dB (w2 ↥3 ↥2 bc) (dO 3 (bB (aI 6) (bB (aI 7) (bB (aI 8) cz))))) (av (aB 9 (aF pT (aq ↥0 (aq ↥1 (aq ↥2 ao))))) (av (aB 10 (aw (aq ↥6 (aq (w2 ↥7 ⇑1 (cx λi j=>.int (i+j))) (aq ↥8 ao))))) (av (aJ (cT (w2 (w2 ↥5 ⇑0 bc) (wC (.str "lay")) aT)) (aB 4 (w2 ↥4 (aw (aq (aw (aq (aF uH (aq (w2 ↥5 ⇑1 bc) (aq (o9 ↥8) ao))) (aq (w2 ↥5 ⇑2 bc) ao))) ao)) eR)) (aJ (cT (w2 (w2 ↥5 ⇑0 bc) (wC (.str "go")) aT)) (aB 10 (aF lM (aq (w2 ↥0 ↥2 bc) (aq ↥8 (aq (w2 ↥5 ⇑1 bc) ao))))) (aJ (cT (w2 (w2 ↥5 ⇑0 bc) (wC (.str "same")) aT)) (aJ (cT (w2 (aF qQ (aq (w2 ↥5 ⇑1 bc) (aq ↥8 ao))) (aF qQ (aq (w2 ↥5 ⇑2 bc) (aq ↥8 ao))) eu)) (aB 10 (aF lM (aq (w2 ↥0 ↥2 bc) (aq ↥8 (aq (w2 ↥5 ⇑3 bc) ao))))) aL) (aJ (cT (w2 ↥9 (wC .none) (dY aj))) (aB 10 (aF lM (aq (w2 ↥0 ↥2 bc) (aq ↥8 (aq (w2 ↥5 ⇑2 bc) ao))))) (av (aB 10 (aw (aq ↥6 (aq (w2 ↥7 ⇑1 (cx λi j=>.int (i+j))) (aq (wB dM (aq (br (nS (w2 ↥9 ⇑1 bc))) ao)) ao))))) (aJ (cT (w2 (w2 ↥5 ⇑0 bc) (wC (.str "take")) aT)) (aB 4 (w2 (eO ↥4 cR (cP (w2 ↥9 ⇑0 bc))) (eO ↥4 (cP (w2 (w2 ↥9 ⇑0 bc) ⇑1 (cx λi j=>.int (i+j)))) cR) eR)) aL)))))) (aA (aw (aq (w2 (w2 (eO ↥3 cR (cP ↥2)) (aw (aq ↥10 ao)) eR) (eO ↥3 (cP (w2 ↥2 ⇑1 (cx λi j=>.int (i+j)))) cR) eR) (aq ↥4 ao)))))))))))
abbrev GQ:aH:=(qZ (ko (br (cG [ah,ae 0,ae 1] (dC (wB bF (aq ↥0 ao))) (aI 0) (cT (aF mw (aq ↥1 (aq ↥2 (aq ↥0 ao))))) ↥0)) (br (aO (aq (wB bF (aq ↥0 ao)) ao)))))
abbrev AQ:aH:=(av (bC 4 (aO ao)) (av (bC 5 (aO (aq ↥2 ao))) (av (aW (dC (aF ck (aq ↥0 (aq (w2 ↥3 ⇑1 (cx λi j=>.int (i+j))) ao)))) (aI 6) (av (aB 7 (br (oV sQ (aq ↥1 (aq (w2 (ft 5) (cJ ⇑1) aZ) ao))))) (av (aJ (dU (cT (w2 (wB fO (aq ↥7 ao)) ⇑1 mq)) (cT (w2 (aF ck (aq ↥0 (aq ⇑5 ao))) ⇑0 mq))) (aB 7 (iO ↥7 cR (cP (cJ ⇑1)))) aL) (av (a8 4 (w2 ↥7 (aF ck (aq ↥0 (aq (wB fO (aq ↥7 ao)) ao))) aZ)) (a8 5 (aF qd (aq ↥1 (aq (w2 (ft 5) (cJ ⇑1) aZ) (aq (w2 (ft 4) (cJ ⇑1) aZ) ao))))))))) (bL 5 (bL 4 (aA (aw (aq ↥4 (aq ↥5 ao)))))))))
abbrev yl:aH:=(aA (aw (aq (wB dM (aq (br (cG [ah] (dS (w2 ↥0 ⇑0 az)) (aI 0) cQ (aw (aq ⇑0 (aq ⇑0 (aq (aw ao) ao)))))) ao)) (aq (w2 ↥0 ⇑1 az) ao))))
abbrev FF:aH:=(av (aB 3 (wB bF (aq ↥1 ao))) (av (aB 4 (br (aO (aq (cJ ⇑1) (aq (w2 ↥3 ⇑1 (cx λi j=>.int (i+j))) (aq (w2 ⇑10 ⇑30 (gI i7 λi j=>.int (i ^ j.toNat))) (aq (wC (.bool ai)) (aq (wC (.bool aj)) (aq (wC .none) (aq (wC (.str "0")) (aq (wC (.str "")) (aq (aw (aq ⇑0 ao)) (aq (br (aO (aq ⇑0 ao))) (aq (aw ao) (aq (br (aO (aq (br (aO ao)) ao))) ao))))))))))))))) (av (aB 4 (w2 ↥4 (br (wm (br (cG [ah,ae 1,ae 2] (dC ↥3) (aI 0) (dv (cT (aF mw (aq ↥1 (aq ↥2 (aq ↥0 ao)))))) ↥0)) ⇑4)) eU)) (aA (w2 ↥4 (aF ck (aq ↥0 (aq (wB bF (aq ↥4 ao)) ao))) az)))))
abbrev z9:aH:=(av (aW (dC ⇑3) (aI 2) (av (aB 3 (aF tW (aq ↥1 ao))) (av (aB 4 (aF vK (aq ↥1 (aq (w2 ↥3 ⇑0 az) ao)))) (av (aJ (cT (w2 (aF ik (aq (wC (.str "moved")) (aq ↥3 (aq ↥4 (aq (aF pM (aq ↥1 (aq (w2 ↥3 ⇑0 az) (aq ↥4 ao)))) ao))))) ⇑0 eu)) (aA (wC (.bool aj))) aL) (av (dB (aF uo (aq ↥1 (aq (w2 ↥3 ⇑0 az) (aq (aF pZ (aq ↥3 ao)) (aq ⇑9 ao))))) (dO 2 (bB (aI 5) (bB (aI 6) cz)))) (av (aB 7 (aF ck (aq ↥1 (aq (w2 (wB bF (aq ↥5 ao)) ⇑1 (cx λi j=>.int (i+j))) ao)))) (av (aB 8 (w2 (w2 (iO ↥5 cR (cP ↥7)) (br (aO (aq (aF pM (aq ↥1 (aq (w2 ↥3 ⇑0 az) (aq (w2 ↥6 ↥7 az) ao)))) ao))) eU) (iO ↥5 (cP ↥7) cR) eU)) (av (aB 9 (wB qU (aq ↥8 ao))) (av (aJ (ia (cT (w2 (aF ik (aq (wC (.str "woven")) (aq ↥3 (aq (w2 ↥6 ⇑0 az) (aq ↥8 ao))))) ↥7 eu)) (cT (w2 (aF ik (aq (wC (.str "log")) (aq ↥3 (aq (wC .none) (aq ↥8 ao))))) ↥7 eu))) (aA (wC (.bool aj))) aL) (av (aJ (cT (w2 (aF ik (aq (wC (.str "woven")) (aq ↥3 (aq (w2 ↥6 ⇑0 az) (aq (wB dM (aq ↥8 ao)) ao))))) ↥7 eu)) (aA (wC (.bool aj))) aL) (av (aJ (ia (cT (w2 (wB qU (aq ↥8 ao)) ↥9 eu)) (cT (w2 (aF ik (aq (wC (.str "woven")) (aq ↥3 (aq (w2 ↥6 ⇑0 az) (aq (iO ↥8 cR (cP ↥7)) ao))))) (wC (.str "told")) eu))) (aA (wC (.bool aj))) aL) (aJ (cT (w2 (aF ik (aq (wC (.str "log")) (aq ↥3 (aq (wC .none) (aq (iO ↥8 cR (cP ↥7)) ao))))) (wC (.str "told")) eu)) (aA (wC (.bool aj))) aL)))))))))))) (aA (w2 (aF ik (aq (wC (.str "moved")) (aq (aw (aq (aw ao) (aq (aw ao) ao))) (aq (aw (aq (aw ao) (aq (aw ao) ao))) (aq ⇑1 ao))))) ⇑0 aT)))
abbrev Ib(Ed:Int->Sl->Int->Prop):aH:=(av (aB 3 (aF lW (aq ↥0 (aq ↥1 (aq ↥2 ao))))) (av (aJ (cT (w2 ↥3 (wC .none) (cm aj))) (mP ⇑0 Ed) aL) (aA ↥3)))
abbrev Io(Ed:Int->Sl->Int->Prop):aH:=(av (aW (k9 ↥2) (dO 2 (bB (aI 3) (bB (aI 4) cz))) (av (aB 1 (aF lW (aq ↥0 (aq ↥1 (aq ↥4 ao))))) (aJ (cT (w2 ↥1 (wC .none) (cm aj))) (mP ↥3 Ed) aL))) (aA ↥1))
abbrev zA(Ed:Int->Sl->Int->Prop):aH:=(av (aB 2 (aF sH (aq ↥0 ao))) (av (bC 3 (aO ao)) (av (aW (k9 ↥1) (dO 2 (bB (aI 4) (bB (aI 5) cz))) (av (aB 6 (aF vO (aq (w2 ↥0 ⇑0 az) (aq ↥2 (aq ↥5 ao))))) (av (aJ (cT (w2 ↥6 (wC .none) (cm aj))) (mP ↥4 Ed) aL) (av (a8 3 (w2 ↥6 ⇑0 az)) (aB 2 (w2 ↥6 ⇑1 az)))))) (bL 3 (aA ↥3)))))
abbrev II(Ed:Int->Sl->Int->Prop):aH:=aJ (cT (w2 ↥0 (wC (.str "moved")) aT)) (jr m5 (aq (w2 ↥1 ⇑0 az) (aq ↥2 (aq ↥3 ao))) Ed) (aJ (cT (w2 ↥0 (wC (.str "woven")) aT)) (jr mW (aq (w2 ↥1 ⇑0 az) (aq ↥2 (aq ↥3 ao))) Ed) (jr nE (aq ↥1 (aq ↥3 ao)) Ed))
abbrev sN:aH:=(av (aB 4 (wC (.str "told"))) (av (jK 5 4 II) (aA ↥4)))
theorem JJ:bN jL BK ["field","value","having","bound","head"]:=λws n Q h=>by
 obtain⟨f,v,hp,bp,rfl,fok,hv,hh,hb,k⟩:=h;show BK [ae (.w (.d f.d)),ae (.w (.d v)),ae (.w (.dk (bb hp))),ae (.w (.dk (bb bp))),ah] n {nx:=λ_ n=>Q (.d .none) n,rt:=Q};cases f with
 |is w=>
  show(match iS w v with|some r=>Q (.d (.bool r)) n|none=>False);rw[mE (show cb w=ai from fok) hv];exact k
 |any=>exact k
 |word=>
  show Q (.d (.bool (gj "str" v))) n;cases v<;>exact k
 |number=>
  show Q (.d (.bool (gj "int" v))) n;cases v<;>first|cases hv|exact k
 |as x=>
  show gP (.d (.bool (bW (bb hp) (.inr x)).isSome)) (match bW (bb hp) (.inr x)with|some d=>(match iS d v with|some r=>Q (.d (.bool r)) n|none=>False)|none=>False) (Q (.d (.bool aj)) n);rw[jS];unfold gV at k;cases e:look hp x with
  |none=>
   simp only[e]at k;exact k
  |some w=>
   simp only[e]at k;show(match iS w v with|some r=>Q (.d (.bool r)) n|none=>False);rw[mE (hh _ (lL e)).2 hv];exact k
 |bind x=>
  show gP (.d (.bool (!(bW (bb bp) (.inr x)).isSome))) (Q (.d (.bool ai)) n) (match bW (bb bp) (.inr x)with|some d=>(match iS d v with|some r=>Q (.d (.bool r)) n|none=>False)|none=>False);rw[jS];unfold gV at k;cases e:look bp x with
  |none=>
   simp only[e]at k;exact k
  |some w=>
   simp only[e]at k;show(match iS w v with|some r=>Q (.d (.bool r)) n|none=>False);rw[mE (hb _ (lL e)).2 hv];exact k
theorem FY[Decidable p]{A B:Prop}(h1:p->A)(h2:¬p->B):if decide p=ai then A else B:=by
 by_cases z:p
 ·rw[if_pos (decide_eq_true z)];exact h1 z
 ·rw[if_neg (by rw[decide_eq_false z];exact Ag)];exact h2 z
theorem uc:∀ps:Nm,lC (ps.map iW)=ae (bb ps)
 |[]=>rfl
 |p::r=>by
  show(lC (r.map iW)).map _=_;rw[uc r];rfl
theorem PR(h:x∉l.map (·.1)):put l x v=l++[(x,v)]:=by
 unfold put;rw[if_neg λz=>by
  obtain⟨p,hp,e⟩:=Ea.mp z;exact h (Bo.mpr ⟨p,hp,of_decide_eq_true e⟩)]
theorem uz:∀(r l:Nm),((l++r).map (·.1)).Nodup->l5 (bb l) (bb r)=bb (l++r)
 |[],l,_=>by rw[Bv];rfl
 |p::r,l,nd=>by
  have e:l++p::r=(l++[p])++r:=by simp
  show l5 (fg (bb l) (.inr p.1) p.2) (bb r)=_;rw[rE,PR,e]
  ·exact uz r (l++[p]) (by rw[<-e];exact nd)
  ·intro z;rw[Be,Bs,List.nodup_append]at nd;exact nd.2.2 _ z _ A0 rfl
theorem nz(e:δ[j]?=ae (ae (.w (.d (bZ ps)))))(ok:okN ps)(k:K.nx (δ.set i (ae (.odk (bb ps)))) n):jk i (i8 (ak j)) δ n K:=by
 unfold jk i8;refine au e ?_;unfold bZ;simp only[uc];refine⟨by rw[Ad];have:=ok.1;omega,?_⟩;have:=uz ps [] (by rw[B8];exact ok.2.1);rw[B8]at this;rw[show([]:List (aG×Ab))=bb []from rfl,this];exact k
section
variable{δ:Sl}{n:Int}{K:DEnds}{W V:aH}{Q:DQ}
theorem FP(k:Q (.d (.bool (!decide (i=j)))) n):eu (.d (.int i)) (.d (.int j)) n Q:=k
theorem yF(e0:δ[0]?=ae (ae (.w (.d (.tuple xs)))))(e1:δ[1]?=ae (ae (.w (.d (.tuple ys)))))(hT:xs.length≠ys.length->W δ n K)(hF:xs.length=ys.length->V δ n K):
  aJ (cT (w2 (wB bF (aq ↥0 ao)) (wB bF (aq ↥1 ao)) eu)) W V δ n K:=by
 unfold aJ cT w2 wB aq ao;refine au e0 ?_;show ak 1 δ n _;refine au e1 ?_;dsimp only[bF];refine FP ?_;refine jb (λh=>hT λz=>?_) λh=>hF ?_
 ·rw[z,decide_eq_true rfl]at h;cases h
 ·by_cases z:(xs.length:Int)=(ys.length:Int)
  ·exact Int.ofNat.inj z
  ·rw[decide_eq_false z]at h;cases h
theorem Jw(e5:δ[5]?=ae (ae (.w (.d g.d))))(e6:δ[6]?=ae (ae (.w (.d v))))(e3:δ[3]?=ae (ae (.odk (bb hp))))(e4:δ[4]?=ae (ae (.odk (bb bp))))(gok:g.ok)(hv:cb v=ai)(hh:∀p∈hp,fX p)(hb:∀p∈bp,fX p)
  (hT:gV g v hp bp=aj->W δ n K) (hF:gV g v hp bp=ai->V δ n K):aJ (dv (cT (aF jL (aq ↥5 (aq ↥6 (aq (dq 3) (aq (dq 4) ao))))))) W V δ n K:=by
 unfold aJ dv cT aF aq ao;refine au e5 ?_;refine au e6 ?_;unfold dq;simp only[e3,e4];refine⟨g,v,hp,bp,rfl,gok,hv,hh,hb,?_⟩;refine jb (λh=>hT ?_) λh=>hF ?_
 ·cases q:gV g v hp bp with|false=>rfl|true=>rw[q]at h;cases h
 ·cases q:gV g v hp bp with|true=>rfl|false=>rw[q]at h;cases h
variable{xs:List Ab}{j:Nat}{a b v:Ab}{r:List Ab}
end
def pq(gs:List Fd)(vs:List Ab)(hp:Nm)(hs:List Str)(r:Ab):Prop:=match wk (gs.zip vs) hp hs with
 |none=>r=.none
 |some h=>r=bZ (cw h)
theorem L8(h1:∀x,x∈hs↔(look bp x).isSome=ai)(h2:∀x w,look bp x=ae w->look hp x=ae w)(h:gV g v hp bp=aj):pq (g::gs) (v::vs) hp hs .none:=by
 have key:wk ((g,v)::gs.zip vs) hp hs=ah:=by
  cases g with
  |is w=>unfold wk;rw[if_neg (by rw[show fe w v=aj from h];exact Ag)]
  |any=>cases h
  |word=>unfold wk;rw[if_neg (by rw[show iT v=aj from h];exact Ag)]
  |number=>unfold wk;rw[if_neg (by rw[show iG v=aj from h];exact Ag)]
  |as x=>
   unfold wk;unfold gV at h;cases q:look hp x with
   |none=>rfl
   |some w=>
    simp only[q]at h;simp only[h,Cu,if_false]
  |bind x=>
   unfold wk;unfold gV at h;cases q:look bp x with
   |none=>simp only[q]at h;cases h
   |some w=>
    simp only[q]at h;rw[if_pos ((h1 x).mpr (by rw[q];rfl)),h2 x w q];simp only[h,Cu,if_false]
 unfold pq;rw[F9,key]
theorem OD(ng:∀x,g≠.bind x)(h:gV g v hp bp=ai):wk ((g,v)::l) hp hs=wk l hp hs:=by
 cases g with
 |is w=>rw[wk,if_pos (show fe w v=ai from h)]
 |any=>rw[wk]
 |word=>rw[wk,if_pos (show iT v=ai from h)]
 |number=>rw[wk,if_pos (show iG v=ai from h)]
 |as x=>
  rw[wk];unfold gV at h;cases q:look hp x with
  |none=>simp only[q]at h;cases h
  |some w=>
   simp only[q]at h;simp only[h,if_true]
 |bind x=>exact absurd rfl (ng x)
def Fd.hd:Fd->Str
 |.is _=>"is"
 |.any=>"any"
 |.word=>"word"
 |.number=>"number"
 |.bind _=>"bind"
 |.as _=>"as"
def Fd.tl:Fd->List Ab
 |.is v=>[v]
 |.bind x=>[.str x]
 |.as x=>[.str x]
 |_=>[]
theorem Fd.parts(g:Fd):g.d=.tuple (.str g.hd::g.tl):=by cases g<;>rfl
theorem my(x):∀hs:List Str,bI (.str x) (hs.map .str)=decide (x∈hs)
 |[]=>by simp[bI]
 |y::r=>by
  show(qC (.str y) (.str x) || bI (.str x) (r.map .str))=_;rw[my x r];have e:qC (.str y) (.str x)=decide (x=y):=by
   show(y==x)=_;by_cases z:x=y
   ·subst z;rw[decide_eq_true rfl];exact beq_self_eq_true _
   ·rw[decide_eq_false z];exact beq_eq_false_iff_ne.mpr λw=>z w.symm
  rw[e];by_cases z:x=y
  ·subst z;simp
  ·rw[decide_eq_false z,Bool.false_or];by_cases q:x∈r
   ·rw[decide_eq_true q,decide_eq_true (Aw _ q)]
   ·rw[decide_eq_false q,decide_eq_false (by simp[z,q])]
theorem OV(nd:(hp.map (·.1)).Nodup)(h:p∈hp):look hp p.1=ae p.2:=by
 cases q:look hp p.1 with
 |none=>
  have a:=pS hp p.1;rw[q]at a;have b:(hp.any λq=>decide (q.1=p.1))=ai:=Ea.mpr ⟨p,h,decide_eq_true rfl⟩;rw[b]at a;cases a
 |some v=>
  have hm:=lL q;obtain⟨i,hi⟩:=B6.mp h;obtain⟨j,hj⟩:=B6.mp hm;have a1:(hp.map (·.1))[i]?=ae p.1:=by rw[Ax,hi];rfl
  have a2:(hp.map (·.1))[j]?=ae p.1:=by rw[Ax,hj];rfl
  obtain⟨b1,b2⟩:=Av.mp a1;obtain⟨c1,c2⟩:=Av.mp a2;have:=(Fu nd).mp (b2.trans c2.symm);rw[this,hj]at hi;have:=Bc hi;rw[<-this]
theorem K8(k:K.nx (δ.set i (ae (.odk (bb [])))) n):jk i kB δ n K:=k
theorem CC(e0:δ[0]?=ae (ae (.w (.d (.tuple xs)))))(e1:δ[1]?=ae (ae (.w (.d (.tuple ys)))))(hl:xs.length=ys.length)(k:dJ g W K (df xs ys) δ n):aW (kA ↥0 ↥1) g W δ n K:=by
 unfold aW kA;exact au e0 (au e1 ⟨hl,k⟩)
theorem Lu:bN pY uV ["pattern","row","names","having","bound","field","value"]:=λws n Q h=>by
 obtain⟨fs,row,nm,rfl,okp,okr,okn,k0⟩:=h;have k:∀r,nj fs row nm r->Q (.d r) n:=λr hr=>by rw[KZ hr];exact k0
 show uV [ae (.w (.d (cV fs))),ae (.w (.d (.tuple row))),ae (.w (.d (bZ nm))),ah,ah,ah,ah] n {nx:=λ_ n=>Q (.d .none) n,rt:=Q};unfold uV;refine aC (yF (xs:=fs.map Fd.d) (ys:=row) rfl rfl (λne=>?_) λel=>?_)
 ·show Q (.d .none) n;refine k .none ?_;unfold nj;rw[Ad]at ne;rw[if_neg ne]
 ·rw[Ad]at el;dsimp only[aL];refine aC (nz rfl okn ?_);dsimp only[An];refine aC (K8 ?_);dsimp only[An];refine aC (CC (xs:=fs.map Fd.d) (ys:=row) rfl rfl (by rw[Ad];exact el) ?_);refine fA (λds δ m=>m=n/\∃(gs:List Fd)(vs:List Ab)(hp bp:Nm)(hs:List Str)(y z:Option SV),ds=df (gs.map Fd.d) vs/\gs.length=vs.length/\δ=[ae (.w (.d (cV fs))),ae (.w (.d (.tuple row))),ae (.w (.d (bZ nm))),ae (.odk (bb hp)),ae (.odk (bb bp)),y,z] /\
   (∀g∈gs,g.ok)/\(∀d∈vs,cb d=ai)/\(hp.map (·.1)).Nodup/\(∀p∈hp,fX p)/\(∀p∈bp,fX p)/\hp.length+gs.length<=48/\bp.length+gs.length<=48/\(∀x,x∈hs↔(look bp x).isSome=ai)/\(∀x w,look bp x=ae w->look hp x=ae w)/\∀r,pq gs vs hp hs r->Q (.d r) n) ?_ ?_ _ _ _ ?_
  ·rintro δ m ⟨rfl,gs,vs,hp,bp,hs,y,z,e,hl,rfl,gok,vok,nd,hok,bok,l1,l2,i1,i2,kq⟩
   have:gs=[]:=by
    cases gs with
    |nil=>rfl
    |cons g gs=>cases vs with|nil=>cases hl|cons v vs=>cases e
   subst this;rw[List.length_nil]at l1;show ∃ps':Nm,bb hp=bb ps'/\_;refine⟨hp,rfl,by omega,nd,λp hp'=>⟨A9 (hok p hp').1.1 ∎,HD (hok p hp').2⟩,λps' p1 r1=>?_⟩;exact kq (.tuple (ps'.map iW)) (by show PyData.tuple (ps'.map iW)=bZ (cw hp);rw[yp nd p1 r1];rfl)
  ·rintro d r δ m N ⟨rfl,gs,vs,hp,bp,hs,y,z,e,hl,rfl,gok,vok,nd,hok,bok,l1,l2,i1,i2,kq⟩ hN
   cases gs with
   |nil=>cases e
   |cons g gs=>
    cases vs with
    |nil=>cases hl
    |cons v vs=>
     have e1:d=.tuple [g.d,v]:=by have:=congrArg (λl=>l.head?) e;simpa[df]using this
     have e2:r=df (gs.map Fd.d) vs:=by have:=congrArg List.tail e;simpa[df]using this
     subst e1 e2;rw[Ar]at l1 l2;rw[Ar,Ar]at hl;have gk:=gok g A0;have vk:=vok v A0;refine⟨rfl,?_⟩;dsimp only[bB,aI,cz,An];refine aC (Jw rfl rfl rfl rfl gk vk hok bok (λff=>?_) λff=>?_)
     ·exact kq .none (L8 i1 i2 ff)
     ·dsimp only[aL];have go:(∀x,g≠.bind x)->N [ae (.w (.d (cV fs))),ae (.w (.d (.tuple row))),ae (.w (.d (bZ nm))),ae (.odk (bb hp)),ae (.odk (bb bp)),ae (.w (.d g.d)),ae (.w (.d v))] m:=λng=>by
       refine hN _ _ ⟨rfl,gs,vs,hp,bp,hs,_,_,rfl,by omega,rfl,λg hg=>gok g (Aw _ hg),λd hd=>vok d (Aw _ hd),nd,hok,bok,by omega,by omega,i1,i2,λr hr=>kq r ?_⟩;unfold pq at hr ⊢;rw[F9,OD ng ff];exact hr
      cases g with
      |is w=>exact go λx z=>nomatch z
      |any=>exact go λx z=>nomatch z
      |word=>exact go λx z=>nomatch z
      |number=>exact go λx z=>nomatch z
      |as x=>exact go λx z=>nomatch z
      |bind x=>
       refine m3 (a:=.str "bind") (r:=[.str x]) rfl tP ?_;show(bb bp).length < 1000/\(bb hp).length < 1000/\N [ae (.w (.d (cV fs))),ae (.w (.d (.tuple row))),ae (.w (.d (bZ nm))),ae (.odk (fg (bb hp) (.inr x) v)),ae (.odk (fg (bb bp) (.inr x) v)),ae (.w (.d (Fd.d (.bind x)))),ae (.w (.d v))] m;rw[rE,rE];refine⟨by unfold bb;rw[Ad];omega,by unfold bb;rw[Ad];omega,?_⟩;have p1:=qO hp x v;have p2:=qO bp x v;refine hN _ _ ⟨rfl,gs,vs,put hp x v,put bp x v,if x∈hs then hs else hs++[x],_,_,rfl,by omega,rfl,λg hg=>gok g (Aw _ hg),λd hd=>vok d (Aw _ hd),tK nd,mV hok gk vk,mV bok gk vk,by omega,by omega,λy=>?_,λy w hw=>?_,λr hr=>kq r ?_⟩
       ·by_cases q:y=x
        ·subst q;rw[EF];refine⟨λ_=>rfl,λ_=>?_⟩
         split
         ·assumption
         ·exact Bf _ (Bg.mpr rfl)
        ·rw[Iw q,<-i1]
         split
         ·exact Iff.rfl
         ·simp[q]
       ·by_cases q:y=x
        ·subst q;rw[EF]at hw ⊢;exact hw
        ·rw[Iw q]at hw ⊢;exact i2 y w hw
       ·unfold pq at hr ⊢;rw[F9,wk];by_cases q:x∈hs
        ·rw[if_pos q]at hr ⊢;cases lb:look bp x with
         |none=>rw[i1,lb]at q;cases q
         |some w=>
          have lh:=i2 x w lb;unfold gV at ff;simp only[lb]at ff;have wv:w=v:=KH (bok _ (lL lb)).2 vk ff;subst wv;rw[RO nd lh]at hr;simp only[lh,ff,if_true];exact hr
        ·rw[if_neg q]at hr ⊢;exact hr
  ·refine⟨rfl,fs,row,nm,[],[],ah,ah,rfl,el,rfl,okp.2.2,okr.2,okn.2.1,okn.2.2,λ_ z=>absurd z A1,by have:=okp.2.1;have:=okn.1;omega,by have:=okp.2.1;simp;omega,λx=>⟨λz=>absurd z A1,λz=>by cases z⟩,λx w z=>(nomatch z),λr hr=>k r ?_⟩;unfold nj;rw[if_pos el];exact hr
abbrev Ze:List Str:=["_law_tape_here"]
theorem Kc:bN jd zd Ze:=λws n Q h=>by
 obtain⟨rfl,hn,k⟩:=h;show zd [ae (.w .tp)] n _;refine aY (ar (a9 (Am ∎ ?_)));dsimp only;refine jl (m:=8) rfl ⋯ ∎ ∎ λr h0 h1=>rP (ds:=[.str "a",.int 0,.str "a",.int 1,.str "ab",.str "go",.int 99,.int 0]) h0 h1 λd hd=>k d ?_;simp only[Au,A1,or_false]at hd;rcases hd with rfl|rfl|rfl|rfl|rfl|rfl|rfl|rfl<;>simp[pE]
theorem MJ:bN mS Ia Ze:=λws n Q h=>by
 obtain⟨rfl,hn,k⟩:=h;show Ia [ae (.w .tp)] n _;refine aY (ar (a9 (Am ∎ ?_)));dsimp only;refine jl (m:=7) rfl ⋯ ∎ ∎ λr h0 h1=>rP (ds:=[.int 1,.int 2,.int 2,.int 2,.int 1,.int 3,.int 4]) h0 h1 λd hd=>?_;simp only[Au,A1,or_false]at hd;rcases hd with rfl|rfl|rfl|rfl|rfl|rfl|rfl
 ·exact k 1 ∎ ∎
 ·exact k 2 ∎ ∎
 ·exact k 2 ∎ ∎
 ·exact k 2 ∎ ∎
 ·exact k 1 ∎ ∎
 ·exact k 3 ∎ ∎
 ·exact k 4 ∎ ∎
theorem BU(e:δ[0]?=ae (ae (.w .tp)))(hn:n < 2 ^ 39)(k:∀m:Nat,1<=m->m<=4->dJ g W K (bM 0 m) δ (n+1)):aW (dC (aF mS (aq ↥0 ao))) g W δ n K:=by
 unfold aW dC;refine cq (au e (Am rfl ⟨hn,λm h1 h4=>?_⟩));refine Am ⟨by omega,by omega⟩ ?_;rw[Bq];exact k m h1 h4
theorem wI{rest:Sl}(g)(hno:∀(f:Fe) (n:Int) (Q':Bool->Int->Prop),g f=ah->Q' aj n->c (ae (.w (.d f.d))::rest) n Q')
  (hyes:∀(f:Fe)(n:Int)(Q':Bool->Int->Prop)(y:Ab),g f=ae y->Q' ai n->c (ae (.w (.d f.d))::rest) n Q') (hw:∀(f:Fe)(n:Int)(Q':DQ)(y:Ab),g f=ae y->Q' (.d y) n->w (ae (.w (.d f.d))::rest) n Q'):
  ∀(fs:List Fe)(acc:List Ab)(x:Option SV)(n:Int),Q (acc++fs.filterMap g) n->cM (aI 0) c w Q (fs.map Fe.d) acc (x::rest) n
 |[],acc,x,n,q=>by
  rw[List.filterMap_nil,Bv]at q;exact q
 |f::r,acc,x,n,q=>by
  rw[Bs];simp only[cM,aI,E8];cases e:g f with
  |none=>
   refine hno f n _ e ?_;rw[if_neg Ag];refine wI g hno hyes hw r acc _ n ?_;rw[List.filterMap_cons_none e]at q;exact q
  |some y=>
   refine hyes f n _ y e ?_;rw[if_pos rfl];refine hw f n _ y e ?_;refine wI g hno hyes hw r (acc++[y]) _ n ?_;rw[List.filterMap_cons_some e]at q;rw[Bj];exact q
def jO(o:Option Str):Option Ab:=o.map .str
theorem IY(g)(fs:List Fe):fs.filterMap (λf=>jO (g f))=(fs.filterMap g).map .str:=by
 rw[List.map_filterMap];rfl
theorem Lr(f:Fe):bq "bind" (.str f.hd)=f.bd.isSome:=by
 cases f with
 |any=>exact(show bq "bind" (.str "any")=aj by decide +kernel)
 |word=>exact(show bq "bind" (.str "word")=aj by decide +kernel)
 |num=>exact(show bq "bind" (.str "number")=aj by decide +kernel)
 |isv _=>exact(show bq "bind" (.str "is")=aj by decide +kernel)
 |bind _=>exact(show bq "bind" (.str "bind")=ai by decide +kernel)
 |as _=>exact(show bq "bind" (.str "as")=aj by decide +kernel)
 |nx _=>exact(show bq "bind" (.str "next")=aj by decide +kernel)
theorem OY{f:Fe}(h:f.bd=ae k):f.d=.tuple [.str f.hd,.str k]:=by
 cases f<;>cases h;rfl
theorem zY(h:jO o=ae y):∃k,o=ae k/\y=.str k:=by
 cases o with
 |none=>cases h
 |some k=>cases h;exact⟨k,rfl,rfl⟩
theorem Md(h:jO o=ah):o=ah:=by
 cases o with
 |none=>rfl
 |some k=>cases h
theorem qH(h:dR fs):∀k∈bh fs,fU k:=λk hk=>by
 obtain⟨f,hf,e⟩:=Ga.mp hk;have:=h.2 f hf;cases f<;>cases e;exact this
theorem qt(h:dR fs):(bh fs).length<=4:=A9 (List.length_filterMap_le _ _) h.1
theorem QR(e:δ[0]?=ae (ae (.w (.d (.tuple [a,b])))))(k:Q (.d b) n):w2 ↥0 (wC (.int 1)) az δ n Q:=de (r:=[]) e k
theorem EC{f:Fe}{rest:Sl}(k:Q' f.bd.isSome n):cT (w2 (w2 ↥0 (wC (.int 0)) az) (wC (.str "bind")) aT) (ae (.w (.d f.d))::rest) n Q':=by
 refine j8 (i:=0) (a:=.str f.hd) (r:=f.tl) rfl ?_;show Q' (bq "bind" (.str f.hd)) n;rw[Lr];exact k
theorem SW(fs:List Fe)(n)(k:Q ((bh fs).map .str) n):
  cM (aI 0) (cT (w2 (w2 ↥0 (wC (.int 0)) az) (wC (.str "bind")) aT)) (w2 ↥0 (wC (.int 1)) az) Q (fs.map Fe.d) [] [ah] n:=by
 refine wI (λf=>jO f.bd) (λf n Q' e q=>EC ?_) (λf n Q' y e q=>EC ?_) (λf n Q' y e q=>?_) fs [] ah n ?_
 ·rw[Md e];exact q
 ·obtain⟨x,e1,_⟩:=zY e;rw[e1];exact q
 ·obtain⟨x,e1,rfl⟩:=zY e;exact QR (by rw[OY e1];rfl) q
 ·rw[IY];exact k
theorem Hs(hw:∀Q:DQ,Q (.d (.str s)) n->w δ n Q)(e:bI (.str s) (hs.map .str)=b)(q:Q b n):cT (iR hs w) δ n Q:=hw _ (Am rfl (by show Q (bI (.str s) (hs.map .str)) n;rw[e];exact q))
theorem wU{a:Ac}(h:dR a.fs):(∀k∈a.bs,fU k)/\a.bs.length<=4:=by
 cases a with
 |take fs=>exact⟨qH h,qt h⟩
 |read fs=>exact⟨qH h,qt h⟩
 |look fs b=>exact⟨qH h,qt h⟩
 |lay fs b=>exact⟨λk hk=>by simp[Ac.bs]at hk,by simp[Ac.bs]⟩
 |same f g b=>exact⟨λk hk=>by simp[Ac.bs]at hk,by simp[Ac.bs]⟩
 |go b=>exact⟨λk hk=>by simp[Ac.bs]at hk,by simp[Ac.bs]⟩
theorem t7:∀{ys ks:List Str},ys.Nodup->(∀k∈ys,k∈ks)->ys.length<=ks.length
 |[],_,_,_=>Br _
 |y::ys,ks,h,hs=>by
  obtain⟨h1,h2⟩:=Dl.mp h;have hm:=hs y A0;have:=t7 (ks:=ks.erase y) h2 λk hk=>(List.mem_erase_of_ne (λ(e:k=y)=>h1 (e▸hk))).mpr (hs k (Aw _ hk));rw[List.length_erase_of_mem hm]at this;have:=List.length_pos_of_mem hm;rw[Ar];omega
structure KnI(w:List Str)(dn:List Ac)(L:List Str):Prop where
 mem:∀k,k∈L↔k∈w++dn.flatMap Ac.bs
 len:L.length<=4+4*dn.length
 ok:∀k∈L,fU k
theorem KnI.first(h:w.length<=4)(ok:∀k∈w,fU k):KnI w [] w:=⟨λk=>by simp,by simpa using h,ok⟩
theorem KnI.skip(I:KnI w dn L)(e:a.bs=[]):KnI w (dn++[a]) L:=
 ⟨λk=>by rw[I.mem k,G9];simp[e],by rw[Ak,Ap];have:=I.len;omega,I.ok⟩
theorem KnI.more(I:KnI w dn L)(h:∀k,k∈ys↔k∈a.bs)(hl:ys.length<=4)(ok:dR a.fs):KnI w (dn++[a]) (L++ys):=
 ⟨λk=>by rw[Ba,I.mem k,h k,G9,<-Bj];simp[or_assoc],by rw[Ak,Ak,Ap];have:=I.len;omega,λk hk=>by
  rcases Ba.mp hk with z|z
  ·exact I.ok k z
  ·exact(wU ok).1 k ((h k).mp z)⟩
theorem oB(h:v∈pE):cb v=ai:=by
 simp only[pE,Au,A1,or_false]at h;rcases h with rfl|rfl|rfl|rfl|rfl|rfl<;>decide +kernel
theorem T5(hv:gh v=ae a)(hl:a.length+b.length<=Ay)(q:Q (.d (.list (a++b))) n):eU v (.ln b) n Q:=by
 unfold eU;rw[hv];exact⟨hl,q⟩
theorem Qe(e0:δ[0]?=ae (ae (.w .tp)))(h:n < 2 ^ 39)(k:∀v∈jD,Q (.d v) (n+1)):w2 (fM 0) (aF ck (aq ↥0 (aq (wB fO (aq (fM 0) ao)) ao))) aZ δ n Q:=by
 have ht:∀(n:Int)(Q:DQ),Q (.ln jD) n->fM 0 δ n Q:=λn Q q=>by unfold fM;rw[e0];exact q
 exact ar (ht _ _ (gY (m:=7) e0 (λQ q=>aR (ht _ _ q)) ⋯ ∎ ∎ λr h0 h1=>sU h0 h1 k))
theorem IQ(f:Fe)(r):bh (f::r)=f.bd.toList++bh r:=by cases f<;>rfl
theorem Kj(fs)(f:Fe):bh (fs++[f])=bh fs++f.bd.toList:=by
 unfold bh;rw[List.filterMap_append];cases f<;>rfl
theorem sA:∀{fs:List Fe}{ks:List Str}{f:Fe},rF ks fs->(∀k,f.us=ae k->k∈ks++bh fs)->rF ks (fs++[f])
 |[],ks,f,_,h=>⟨λk hk=>by simpa[bh]using h k hk,trivial⟩
 |g::r,ks,f,h1,h2=>⟨h1.1,sA h1.2 λk hk=>by
  have:=h2 k hk;rw[IQ,<-Bj]at this;exact this⟩
theorem xa{f:Ab}{ks:List Str}(h:f∈ks.map .str):∃s∈ks,f=.str s:=by
 obtain⟨s,hs,rfl⟩:=Bo.mp h;exact⟨s,hs,rfl⟩
def vj(kv:Wv)(ks:List Str)(n0:Int)(ds:List Ab)(δ:Sl)(n:Int):Prop:=∃(fs:List Fe)(x y z u:Option SV),δ=[ae (.w .tp),ae (.w kv),ae (.own (fs.map Fe.d)),ae (.own ((bh fs).map .str)),x,y,z,u]/\1<=fs.length+ds.length/\fs.length+ds.length<=4/\(∀f∈fs,f.ok/\f.pt=ai)/\rF ks fs/\n+2*(ds.length:Int)<=n0+9
theorem QK:bN vB AK ["_law_tape_here","_law_known_here","_law_fields","_law_bound","_law_k","_law_way","_law_some","_law_name"]:=λws n0 Q h=>by
 obtain⟨ks,kv,rfl,hkv,hks,hok,hn0,k⟩:=h;show AK [ae (.w .tp),ae (.w kv),ah,ah,ah,ah,ah,ah] n0 _;refine aC (iD ?_);dsimp only[An];refine aC (iD ?_);dsimp only[An];refine aC (BU rfl ⋯ λm h1 h4=>?_);refine fA (vj kv ks n0) (λδ n I=>?_) (λd r δ n N I kN=>?_) _ _ _ ⟨[],ah,ah,ah,ah,rfl,by rw[fj];simpa using h1,by rw[fj];simpa using h4,λf hf=>(by simp at hf),trivial,by rw[fj];omega⟩
 ·obtain⟨fs,x,y,z,u,rfl,hf1,hf,hfo,hr,hn⟩:=I;dsimp only;refine gG rfl ?_;dsimp only[An];refine gG rfl ?_;dsimp only[An];exact aY (cy (aR (au rfl (lQ (au rfl (Am (show 2<=1000 by decide) (k fs n (by simpa using hf1) ⟨by simpa using hf,λf z=>(hfo f z).1⟩ (λf z=>(hfo f z).2) hr (by simpa using hn))))))))
 ·obtain⟨fs,x,y,z,u,rfl,hf1,hf,hfo,hr,hn⟩:=I;rw[Ar]at hf1 hf hn;dsimp only[aI,An];have hfl:(fs.map Fe.d).length < 1000000:=by rw[Ad];omega
  have hbl:(bh fs).length<=4:=A9 (List.length_filterMap_le _ _) ⋯;have hbo:∀s∈ks++bh fs,fU s:=λs hs=>(Ba.mp hs).elim (hok s) λz=>qH (fs:=fs) ⟨by omega,λf z=>(hfo f z).1⟩ s z;have nxt:∀(f:Fe)(n':Int)(y z u:Option SV)(B:List Ab),f.ok/\f.pt=ai->(∀k,f.us=ae k->k∈ks++bh fs)->n'<=n+2->B=(bh fs).map .str++f.bd.toList.map .str->N [ae (.w .tp),ae (.w kv),ae (.own (fs.map Fe.d++[f.d])),ae (.own B),ae (.w (.d d)),y,z,u] n':=λf n' y z u B fo fu hn' hB=>
   kN _ _ ⟨fs++[f],ae (.w (.d d)),y,z,u,by rw[hB,Be,Kj,Be];rfl,by rw[Ak,Ap];omega,by rw[Ak,Ap];omega,λg hg=>(Ba.mp hg).elim (hfo g) λz=>by rw[Bg]at z;subst z;exact fo,sA hr fu,by omega⟩
  have nxtN:∀(f:Fe)(n':Int)(y z u:Option SV),f.bd=ah->f.ok/\f.pt=ai->(∀k,f.us=ae k->k∈ks++bh fs)->n'<=n+2->N [ae (.w .tp),ae (.w kv),ae (.own (fs.map Fe.d++[f.d])),ae (.own ((bh fs).map .str)),ae (.w (.d d)),y,z,u] n':=λf n' y z u fb fo fu hn'=>
   nxt f n' y z u _ fo fu hn' (by rw[fb];exact(Bv _).symm)
  refine aC (um (m:=9) rfl ⋯ ∎ ∎ λw w0 w1=>?_);dsimp only[An];refine aC (bE (x:=.list (ks.map .str++(bh fs).map .str)) (λQ q=>ar (au rfl (mx rfl (T5 hkv (GR (by rw[Ad];omega) (by rw[Ad];omega)) q)))) ?_);dsimp only[An];refine kD rfl (λhw=>?_) (λhw=>?_)
  ·refine iF rfl (cy (aD (cq (au rfl (Am rfl ⟨by omega,λv hv=>?_⟩)))));exact Am (show 2<=1000 by decide) (Am hfl (nxtN (.isv v) _ _ _ _ rfl ⟨oB hv,rfl⟩ (λk hk=>by cases hk) ⋯))
  ·refine kD rfl (λhw6=>?_) (λhw6=>?_)
   ·refine iF rfl (ar (a9 (Am ∎ (Am ∎ (Am ∎ (Am ∎ ?_))))));dsimp only;refine ar (au rfl (aD ?_));dsimp only[cx];refine i6 (ds:=[.tuple [.str "any"],.tuple [.str "word"],.tuple [.str "number"]]) (r:=w-3) ⋯ (show w-3 < 3 by omega) λf hf'=>?_;simp only[Au,A1,or_false]at hf';rcases hf' with rfl|rfl|rfl
    ·exact Am hfl (nxtN .any _ _ _ _ rfl ⟨trivial,rfl⟩ (λk hk=>by cases hk) ⋯)
    ·exact Am hfl (nxtN .word _ _ _ _ rfl ⟨trivial,rfl⟩ (λk hk=>by cases hk) ⋯)
    ·exact Am hfl (nxtN .num _ _ _ _ rfl ⟨trivial,rfl⟩ (λk hk=>by cases hk) ⋯)
   ·have bind:∀(K:DEnds)(L:List Ab),(∀δ n,N δ n->K.nx δ n)->av (aB 7 (w2 (br (aO (aq (wC (.str "n")) (aq (wC (.str "nm")) (aq (wC (.str "go")) (aq (wC (.str "m")) ao)))))) (aF ck (aq ↥0 (aq ⇑4 ao))) aZ)) (av (a8 3 ↥7) (a8 2 (aw (aq (wC (.str "bind")) (aq ↥7 ao)))))
      [ae (.w .tp),ae (.w kv),ae (.own (fs.map Fe.d)),ae (.own ((bh fs).map .str)),ae (.w (.d d)),ae (.w (.d (.int w))),ae (.w (.d (.list L))),u] (n+1) K:=λK L hK=>by
     refine aC (show w2 _ _ _ _ _ _ from ar (a9 (Am ∎ ?_)));dsimp only;refine jl (m:=4) rfl ⋯ ∎ ∎ λr r0 r1=>i6 (ds:=[.str "n",.str "nm",.str "go",.str "m"]) r0 r1 λf hf'=>?_;have:∃s:Str,f=.str s/\fU s:=by
      simp only[Au,A1,or_false]at hf';rcases hf' with rfl|rfl|rfl|rfl<;>exact⟨_,rfl,by decide +kernel,by decide +kernel⟩
     obtain⟨s,rfl,so⟩:=this;dsimp only[An];refine aC (lp rfl (λQ q=>au rfl q) (by rw[Ad];omega) ?_);dsimp only[An];refine lp (x:=.tuple [.str "bind",.str s]) rfl (λQ q=>cy (aD (au rfl (Am (show 2<=1000 by decide) q)))) hfl (hK _ _ ?_);exact nxt (.bind s) (n+1+1) _ _ _ _ ⟨so,rfl⟩ (λk hk=>by cases hk) ⋯ rfl
    by_cases hw8:w < 8
    ·refine bz (λQ q=>mj (λQ q=>aE (k:=ai) (λQ q=>ar (au rfl (aD ?_))) q) q) (bind _ _ λ_ _ z=>z);show Q (.d (.bool (decide (w < 8)))) _;rw[decide_eq_true hw8];exact q
    ·have hmem:∀f∈ks.map Dy++(bh fs).map Dy,∃s∈ks++bh fs,f=.str s:=λf hf=>xa (by rw[Be];exact hf);have hlen:(ks.map Dy++(bh fs).map Dy).length<=2000:=by rw[Ak,Ad,Ad];omega
     generalize(ks.map Dy++(bh fs).map Dy)=L at hmem hlen;cases L with
     |nil=>
      refine bz (λQ q=>g9 (λQ q=>aE (k:=aj) (λQ q=>ar (au rfl (aD ?_))) q) (aE (k:=ai) (λQ q=>ar (au rfl (a9 (Am (Br _) q)))) q)) (bind _ _ λ_ _ z=>z);show Q (.d (.bool (decide (w < 8)))) _;rw[decide_eq_false hw8];exact q
     |cons a l=>
      refine bf (λQ q=>g9 (λQ q=>aE (k:=aj) (λQ q=>ar (au rfl (aD ?_))) q) (aE (k:=aj) (λQ q=>ar (au rfl (a9 (Am (Br _) q)))) q)) ?_
      ·show Q (.d (.bool (decide (w < 8)))) _;rw[decide_eq_false hw8];exact q
      ·refine iF rfl (cy (aD (ar (au rfl ?_))));refine gY (m:=(a::l).length) rfl (λQ q=>aR (au rfl q)) ⋯ (by rw[Ar];omega) ⋯ λr r0 r1=>i6 r0 r1 λf hf'=>?_;obtain⟨s,hs,rfl⟩:=hmem f hf';exact Am (show 2<=1000 by decide) (Am hfl (nxtN (.as s) _ _ _ _ rfl ⟨hbo s hs,rfl⟩ (λk hk=>by cases hk;exact hs) ⋯))
theorem FE(h:v∈jD):hU v:=by
 simp only[jD,Au,A1,or_false]at h;rcases h with rfl|rfl|rfl|rfl|rfl|rfl|rfl<;>first|exact .inl rfl|exact .inr ⟨_,rfl,by decide,by decide⟩
theorem Lf:bN oi xZ Ze:=λws n Q h=>by
 obtain⟨rfl,hn,k⟩:=h;show xZ [ae (.w .tp)] n _;exact aY (Qe rfl hn k)
theorem Il(e0:δ[0]?=ae (ae (.w .tp)))(h:n < 2 ^ 39)(k:∀v∈jD,Q (.d v) (n+1)):aF oi (aq ↥0 ao) δ n Q:=cq (au e0 ⟨rfl,h,k⟩)
def uM(ks:List Str)(n0:Int)(ds:List Ab)(δ:Sl)(n:Int):Prop:=∃(fs:List Fe)(x y:Option SV),δ=[ae (.w .tp),ae (.w (.ln (ks.map .str))),ae (.own (fs.map Fe.d)),x,y]/\fs.length+ds.length<=4/\1<=fs.length+ds.length/\(∀f∈fs,f.ok/\f.tm=ai)/\rF ks fs/\n+2*(ds.length:Int)<=n0+9
theorem SI:bN uJ GK ["_law_tape_here","_law_known_here","_law_fields","_law_k","_law_way"]:=λws n0 Q h=>by
 obtain⟨ks,rfl,hks,hok,hn0,k⟩:=h;show GK [ae (.w .tp),ae (.w (.ln (ks.map .str))),ah,ah,ah] n0 _;refine aC (iD ?_);dsimp only[An];refine aC (BU rfl ⋯ λm h1 h4=>?_);refine fA (uM ks n0) (λδ n I=>?_) (λd r δ n N I kN=>?_) _ _ _ ⟨[],ah,ah,rfl,by rw[fj];simpa using h4,by rw[fj];simpa using h1,λf hf=>(by simp at hf),trivial,by rw[fj];omega⟩
 ·obtain⟨fs,x,y,rfl,hf,hf1,hfo,hr,hn⟩:=I;dsimp only;refine gG rfl ?_;dsimp only[An];exact aY (aR (au rfl (lQ (k fs n (by simpa using hf1) ⟨by simpa using hf,λf z=>(hfo f z).1⟩ (λf z=>(hfo f z).2) hr (by simpa using hn)))))
 ·obtain⟨fs,x,y,rfl,hf,hf1,hfo,hr,hn⟩:=I;rw[Ar]at hf hf1 hn;dsimp only[aI,An];have hfl:(fs.map Fe.d).length < 1000000:=by rw[Ad];omega
  have nxt:∀(f:Fe)(n':Int)(y:Option SV),f.ok/\f.tm=ai->(∀k,f.us=ae k->k∈ks)->n'<=n+2->N [ae (.w .tp),ae (.w (.ln (ks.map .str))),ae (.own (fs.map Fe.d++[f.d])),ae (.w (.d d)),y] n':=λf n' y fo fu hn'=>
   kN _ _ ⟨fs++[f],ae (.w (.d d)),y,by rw[Be];rfl,by rw[Ak,Ap];omega,by rw[Ak,Ap];omega,λg hg=>(Ba.mp hg).elim (hfo g) λz=>by rw[Bg]at z;subst z;exact fo,sA hr λk hk=>Dw _ (fu k hk),by omega⟩
  refine aC (um (m:=6) rfl ⋯ ∎ ∎ λw w0 w1=>?_);dsimp only[An];have isv:∀K:DEnds,(∀δ n,N δ n->K.nx δ n)->a8 2 (aw (aq (wC (.str "is")) (aq (aF jd (aq ↥0 ao)) ao))) [ae (.w .tp),ae (.w (.ln (ks.map .str))),ae (.own (fs.map Fe.d)),ae (.w (.d d)),ae (.w (.d (.int w)))] (n+1) K:=λK hK=>
   iF rfl (cy (aD (cq (au rfl (Am rfl ⟨by omega,λv hv=>Am (show 2<=1000 by decide) (Am hfl (hK _ _ (nxt (.isv v) _ _ ⟨oB hv,rfl⟩ (λk hk=>by cases hk) ⋯)))⟩)))))
  by_cases hw3:w < 3
  ·refine bz (λQ q=>mj (λQ q=>aE (k:=ai) (λQ q=>ar (au rfl (aD ?_))) q) q) (isv _ λ_ _ z=>z);show Q (.d (.bool (decide (w < 3)))) _;rw[decide_eq_true hw3];exact q
  ·have ct3:∀Q:DQ,Q (.d (.bool aj)) (n+1)->w2 ↥4 (wC (.int 3)) ir [ae (.w .tp),ae (.w (.ln (ks.map .str))),ae (.own (fs.map Fe.d)),ae (.w (.d d)),ae (.w (.d (.int w)))] (n+1) Q:=λQ q=>ar (au rfl (aD (by
    show Q (.d (.bool (decide (w < 3)))) _;rw[decide_eq_false hw3];exact q)))
   cases ks with
   |nil=>exact bz (λQ q=>g9 (λQ q=>aE (k:=aj) ct3 q) (aE (k:=ai) (λQ q=>ar (au rfl (jY (jA q)))) q)) (isv _ λ_ _ z=>z)
   |cons a l=>
    refine bf (λQ q=>g9 (λQ q=>aE (k:=aj) ct3 q) (aE (k:=aj) (λQ q=>ar (au rfl (jY (jA q)))) q)) ?_;refine iF rfl (cy (ar (a9 (Am ∎ ?_))));dsimp only;refine ar (au rfl (aD ?_));dsimp only[cx];refine i6 (ds:=[.str "as",.str "as",.str "next"]) (r:=w-3) ⋯ (show w-3 < 3 by omega) λf hf'=>?_;refine ar (au rfl ?_);have hl:((a::l).map Dy).length<=1000:=by rw[Ad];exact hks
    refine gY (m:=((a::l).map Dy).length) rfl (λQ q=>aR (au rfl q)) ⋯ (by rw[Ad,Ar];omega) ⋯ λr r0 r1=>sU r0 r1 λf' hf''=>?_;obtain⟨s,hs,rfl⟩:=xa hf'';simp only[Au,A1,or_false]at hf';rcases hf' with rfl|rfl|rfl
    ·exact Am (show 2<=1000 by decide) (Am hfl (nxt (.as s) _ _ ⟨hok s hs,rfl⟩ (λk hk=>by cases hk;exact hs) ⋯))
    ·exact Am (show 2<=1000 by decide) (Am hfl (nxt (.as s) _ _ ⟨hok s hs,rfl⟩ (λk hk=>by cases hk;exact hs) ⋯))
    ·exact Am (show 2<=1000 by decide) (Am hfl (nxt (.nx s) _ _ ⟨hok s hs,rfl⟩ (λk hk=>by cases hk;exact hs) ⋯))
abbrev Zd:List Str:=["_law_tape_here","_law_known_here"]
theorem SX:bN qr zQ Zd:=λws n Q h=>by
 obtain⟨ks,rfl,hks,hok,hn0,k⟩:=h;show zQ [ae (.w .tp),ae (.w (.ln (ks.map .str)))] n _;have isv:∀n',n'<=n+1->aA (aw (aq (wC (.str "is")) (aq (aF jd (aq ↥0 ao)) ao))) [ae (.w .tp),ae (.w (.ln (ks.map .str)))] n' {nx:=λ_ n=>Q (.d .none) n,rt:=Q}:=λn' hn'=>
  aY (cy (aD (cq (au rfl (Am rfl ⟨by omega,λv hv=>Am (show 2<=1000 by decide) (k (.isv v) _ (oB hv) rfl (λk hk=>by cases hk) ⋯)⟩)))))
 cases ks with
 |nil=>exact aC (bz (λQ q=>mj (λQ q=>aE (k:=ai) (λQ q=>ar (au rfl (jY (jA q)))) q) q) (isv n ⋯))
 |cons a l=>
  refine aC (cZ (g9 (λQ q=>aE (k:=aj) (λQ q=>ar (au rfl (jY (jA q)))) q) ?_));refine ar (jl (m:=2) rfl ⋯ ∎ ∎ λr r0 r1=>aD (k7 ?_));show if decide (r=0)=ai then _ else _
  by_cases h:r=0
  ·rw[if_pos (decide_eq_true h)];exact isv (n+1) ⋯
  ·rw[if_neg (by simpa using h)];dsimp only[aL];refine aY (cy (aD (ar (au rfl ?_))));have hl:((a::l).map Dy).length<=1000:=by rw[Ad];exact hks
   refine gY (m:=((a::l).map Dy).length) rfl (λQ q=>aR (au rfl q)) ⋯ (by rw[Ad,Ar];omega) ⋯ λr r0 r1=>sU r0 r1 λf' hf''=>?_;obtain⟨s,hs,rfl⟩:=xa hf'';exact Am (show 2<=1000 by decide) (k (.as s) _ (hok s hs) rfl (λk hk=>by cases hk;exact hs) ⋯)
theorem Rt:bN oh CQ ["_law_tape_here","_law_known_here","_law_open_ones","_law_way","_law_block","_law_pattern_here","_law_bound"]:=λws n Q h=>by
 obtain⟨ks,os,wants,rfl,hks,hok,ho,ho',hop,hn0,k⟩:=h;show CQ [ae (.w .tp),ae (.w (.ln (ks.map .str))),ae (.w (.d (.list (os.map λb=>.int (b:Nat))))),ah,ah,ah,ah] n _;refine aC (um (m:=12) rfl ⋯ ∎ ∎ λw w0 w1=>?_);dsimp only[An];refine aC (kD rfl (λhw=>?_) (λhw=>?_))
 ·refine aY (cy (gK (aD (bV (au rfl (au rfl (De ks ⟨rfl,hks,hok,by omega,λfs n' hf1 hfs htm hrf hn'=>?_⟩)))))));refine Il rfl ⋯ λv hv=>?_;exact Am (show 3<=1000 by decide) (jY (Am (show 2<=1000 by decide) (k (.lay fs v) _ ⟨hfs,htm,FE hv,hf1⟩ ⟨hrf,λb hb=>by cases hb⟩ ⋯)))
 dsimp only[aL];refine aC (show aB 4 _ _ _ _ from ar (au rfl ?_));refine gY (m:=(os.map λb:Nat=>E6 (b:Nat)).length) rfl (λQ q=>aR (au rfl q)) ⋯ (by rw[Ad];omega) (by rw[Ad];omega) λr r0 r1=>i6 r0 r1 λb hb=>?_;obtain⟨b,hbo,rfl⟩:=Bo.mp hb;have hto:=hop b hbo;dsimp only[An];refine aC (nV rfl (λh10=>?_) (λh10=>?_))
 ·refine aY (cy (Hl (aD (bV (au rfl (au rfl (De ks ⟨rfl,hks,hok,by omega,λf n' fo fb fu hn'=>?_⟩)))))));refine bV (au rfl (au rfl (De ks ⟨rfl,hks,hok,by omega,λg n'' go gb gu hn''=>?_⟩)));refine au rfl (Am (show 4<=1000 by decide) (jY (Am (show 2<=1000 by decide) (k (.same f g b) _ ⟨⟨show 2<=4 by decide,λe he=>?_⟩,fb,gb⟩ ⟨⟨fu,λk hk=>Dw _ (gu k hk),trivial⟩,λb' hb'=>by cases hb';exact hto⟩ ⋯))));simp only[Ac.fs,Au,A1,or_false]at he;rcases he with rfl|rfl
  ·exact fo
  ·exact go
 dsimp only[aL];refine aC (nV rfl (λh11=>?_) (λh11=>?_))
 ·exact aY (cy (cy (aD (au rfl (Am (show 2<=1000 by decide) (jY (Am (show 2<=1000 by decide) (k (.go b) _ ⟨⟨show 0<=4 by decide,λe he=>by simp[Ac.fs]at he⟩,trivial⟩ ⟨trivial,λb' hb'=>by cases hb';exact hto⟩ ⋯))))))))
 dsimp only[aL];refine aC ?_;unfold dB;refine bV (au rfl (au rfl (De ks ⟨.ln (ks.map .str),rfl,rfl,hks,hok,by omega,λfs n' hf1 hfs hpt hrf hn'=>?_⟩)));refine Am rfl ?_;dsimp only[bB,cz,aI,An];refine aC (wq rfl (λh7=>?_) (λh7=>?_))
 ·exact aY (cy (gK (aD (au rfl (au rfl (Am (show 3<=1000 by decide) (au rfl (Am (show 2<=1000 by decide) (k (.look fs b) _ ⟨hfs,hf1,hpt⟩ ⟨hrf,λb' hb'=>by cases hb';exact hto⟩ ⋯)))))))))
 dsimp only[aL];refine aY (cy (cy (ar (a9 (Am ∎ ?_)))));dsimp only;refine ar (au rfl (aD ?_));dsimp only[cx];refine i6 (ds:=[.str "take",.str "take",.str "take",.str "read"]) (r:=w-4) ⋯ (show w-4 < 4 by omega) λf hf'=>?_;simp only[Au,A1,or_false]at hf';rcases hf' with rfl|rfl|rfl|rfl
 ·exact au rfl (Am (show 2<=1000 by decide) (au rfl (Am (show 2<=1000 by decide) (k (.take fs) _ ⟨hfs,hf1,hpt⟩ ⟨hrf,λb' hb'=>by cases hb'⟩ ⋯))))
 ·exact au rfl (Am (show 2<=1000 by decide) (au rfl (Am (show 2<=1000 by decide) (k (.take fs) _ ⟨hfs,hf1,hpt⟩ ⟨hrf,λb' hb'=>by cases hb'⟩ ⋯))))
 ·exact au rfl (Am (show 2<=1000 by decide) (au rfl (Am (show 2<=1000 by decide) (k (.take fs) _ ⟨hfs,hf1,hpt⟩ ⟨hrf,λb' hb'=>by cases hb'⟩ ⋯))))
 ·exact au rfl (Am (show 2<=1000 by decide) (au rfl (Am (show 2<=1000 by decide) (k (.read fs) _ ⟨hfs,hf1,hpt⟩ ⟨hrf,λb' hb'=>by cases hb'⟩ ⋯))))
def iq:List (List Str):=[[],["n"],["go","n"],["nm"]]
theorem MA(h:w∈iq):w.length<=4/\(∀k∈w,fU k)/\w.Nodup/\iV w:=by
 have key:∀w∈iq,w.length<=4/\(∀k∈w,k.length<=4/\PyData.strOk k=ai)/\w.Nodup/\w.Pairwise λa b=>¬b.cps.toList < a.cps.toList:=by decide +kernel
 exact key w h
theorem SD(ss ks:List Str)(k:Q ((ss.map Dy).filter λx=>!bI x (ks.map .str)) n):
  cM (aI 0) (cT (w2 ↥0 ↥1 (eV ai))) ↥0 Q (ss.map .str) [] [ah,ae (.w (.ln (ks.map .str)))] n:=by
 refine rg (λd=>∃s:Str,d=.str s) (λx=>!bI x (ks.map .str)) id (λd n Q' hd q=>?_) (λd n Q' hd q=>au rfl q) _ [] ah n (λd hd=>?_) ?_
 ·obtain⟨s,rfl⟩:=hd;exact aE (k:=!bI (.str s) (ks.map .str)) (λQ q=>ar (au rfl (au rfl (Am rfl ⟨qE ks,q⟩)))) q
 ·obtain⟨s,_,rfl⟩:=Bo.mp hd;exact⟨s,rfl⟩
 ·rw[B8,List.map_id];exact k
theorem TV(ss ks:List Str):((ss.map Dy).filter λx=>!bI x (ks.map .str)).isEmpty=decide (∀k∈ss,k∈ks):=by
 rw[G4,List.isEmpty_iff,List.filter_eq_nil_iff,decide_eq_true_iff]
 constructor
 ·intro h k hk;have:=h (.str k) (Bo.mpr ⟨k,hk,rfl⟩);rw[my]at this;simpa using this
 ·intro h d hd;obtain⟨k,hk,rfl⟩:=Bo.mp hd;rw[my,decide_eq_true (h k hk)];simp
def rz(ws:List (List Str))(ks:List Str):Ab->Bool
 |.int j=>decide (∀k∈ws.getD j.toNat [],k∈ks)
 |_=>aj
def jV(ws:List (List Str))(ks:List Str):List Nat:=(Bi ws.length).filter λb=>decide (∀k∈ws.getD b [],k∈ks)
theorem Qg(ws:List (List Str))(ks):(bM 0 ws.length).filter (rz ws ks)=(jV ws ks).map λb=>.int (b:Nat):=by
 unfold bM jV;rw[List.filter_map];have e:(λi:Nat=>E6 (0+(i:Int)))=λb=>.int (b:Nat):=funext λi=>by rw[Int.zero_add]
 rw[e];rfl
theorem Pk(ws:List (List Str))(ks:List Str)(k:Q ((jV ws ks).map λb=>.int (b:Nat)) n):
  cM (aI 0) (cT (w2 (br (cG [ah,ae 1] (dS (w2 ↥2 ↥0 aZ)) (aI 0) (cT (w2 ↥0 ↥1 (eV ai))) ↥0)) (br (aO ao)) cL)) ↥0 Q (bM 0 ws.length) [] [ah,ae (.w (.ln (ks.map .str))),ae (.w (.d (.list (ws.map dy))))] n:=by
 refine rg (λd=>∃j:Nat,j < ws.length/\d=.int j) (rz ws ks) id (λd n Q' hd q=>?_) (λd n Q' hd q=>au rfl q) _ [] ah n (λd hd=>?_) ?_
 ·obtain⟨j,hj,rfl⟩:=hd;have hg:(ws.map dy)[j]?=ae (.tuple (ws[j].map .str)):=by rw[Ax,Al hj];rfl
  refine aE (k:=rz ws ks (.int j)) (λQ q=>ar (a9 (i9 (ds:=ws[j].map .str) (λQ q=>ar (au rfl (au rfl ?_))) (SD ws[j] ks (jY ?_))))) q
  ·show(match c7 (ws.map dy) (j:Int)with|some d=>Q (.d d) n|none=>False);rw[fq hg];exact q
  ·have eo:rz ws ks (.int j)=((ws[j].map Dy).filter λx=>!bI x (ks.map .str)).isEmpty:=by
    rw[TV];show decide (∀k∈ws.getD (j:Int).toNat [],k∈ks)=_;rw[Bq,List.getD_eq_getElem?_getD,Al hj,Option.getD_some]
   rw[eo]at q;exact q
 ·unfold bM at hd;obtain⟨j,hj,rfl⟩:=Bo.mp hd;exact⟨j,Ci.mp hj,by rw[Int.zero_add]⟩
 ·rw[B8,List.map_id,Qg];exact k
theorem QG(h:ws=[]::w0):0 < (jV ws ks).length:=
 List.length_pos_of_mem (a:=0) (Cp.mpr ⟨Ci.mpr (by rw[h];simp),by subst h;simp⟩)
theorem Mi(h:b∈jV ws ks):∃w,ws[b]?=ae w/\∀k∈w,k∈ks:=by
 obtain⟨h1,h2⟩:=Cp.mp h;have hj:=Ci.mp h1;refine⟨ws[b],Al hj,?_⟩;have:=of_decide_eq_true h2;rw[List.getD_eq_getElem?_getD,Al hj,Option.getD_some]at this;exact this
theorem yc:∀{fs:List Fe}{ks ks':List Str},(∀k∈ks,k∈ks')->rF ks fs->rF ks' fs
 |[],_,_,_,_=>trivial
 |f::r,ks,ks',h,z=>⟨λk hk=>h k (z.1 k hk),yc (λk hk=>(Ba.mp hk).elim (λq=>Dw _ (h k q)) λq=>Bf _ q) z.2⟩
theorem Ac.right_mono{a:Ac}(h:∀k∈ks,k∈ks')(z:a.right ws ks):a.right ws ks':=
 ⟨yc h z.1,λb hb=>by obtain⟨w,h1,h2⟩:=z.2 b hb;exact⟨w,h1,λk hk=>h k (h2 k hk)⟩⟩
theorem Mk(h:ky ws (w,as))(hk:∀k∈ks,k∈w++as.flatMap Ac.bs)(ha:a.right ws ks):ky ws (w,as++[a]):=λp b hb=>by
 dsimp only at hb ⊢;by_cases hp:p < as.length
 ·rw[C2 hp]at hb;have:=h p b hb;unfold kn at this ⊢;rw[G0 (Gq hp)];exact this
 ·rw[Cj ⋯]at hb;have e0:p-as.length=0:=by
   by_cases e:p-as.length=0
   ·exact e
   ·rw[Gv (by rw[Ap];omega)]at hb;cases hb
  rw[e0]at hb;cases hb;have ep:p=as.length:=by omega
  subst ep;refine Ac.right_mono (λk z=>?_) ha;unfold kn;rw[G0 (Ao _),List.take_length];exact hk k z
structure ActO(ws:List (List Str))(want ks:List Str)(acts:List Ac):Prop where
 mem:∀k,k∈ks↔k∈want++acts.flatMap Ac.bs
 ok:∀k∈ks,fU k
 fs:∀a∈acts,lN a
 ri:ky ws (want,acts)
def mY(ws:List (List Str))(bl:List Ab)(want:List Str)(nb:Int)(ds:List Ab)(δ:Sl)(n:Int):Prop:=∃(ks:List Str)(acts:List Ac)(x2 x7 x8 x9 x10:Option SV),
 δ=[ae (.w .tp),ae (.w (.d (.list (ws.map dy)))),x2,ae (.own bl),ae (.w (.d (dy want))),ae (.own (ks.map .str)),ae (.own (acts.map Ac.d)),x7,x8,x9,x10]/\ActO ws want ks acts/\ks.length+4*ds.length<=40/\acts.length+ds.length<=8/\n+11*(ds.length:Int)<=nb+89
theorem Pu(hw0:ws=[]::w0)(hwl:ws.length<=6)(hnb:nb+89 < 2 ^ 39)(O:ActO ws want ks acts)(hk:ks.length+4*(r.length+1)<=40)(ha:acts.length+(r.length+1)<=8)(hn:n+11*((r.length:Int)+1)<=nb+89)
  (kN:∀δ n,mY ws bl want nb r δ n->K.nx δ n):
  av (aB 8 (br (cG [ah,ae 5,ae 1] (dC (wB fO (aq ↥1 ao))) (aI 0) (cT (w2 (br (cG [ah,ae 1] (dS (w2 ↥2 ↥0 aZ)) (aI 0) (cT (w2 ↥0 ↥1 (eV ai))) ↥0)) (br (aO ao)) cL)) ↥0))) (av (dB (aF oh (aq ↥0 (aq (ft 5) (aq ↥8 ao)))) (dO 2 (bB (aI 9) (bB (aI 10) cz)))) (av (a8 6 ↥9) (aW (je ↥10) (aI 7) (aJ (cT (w2 ↥7 (ft 5) (eV ai))) (a8 5 ↥7) aL))))
   [ae (.w .tp),ae (.w (.d (.list (ws.map dy)))),ae (.w (.d d)),ae (.own bl),ae (.w (.d (dy want))),ae (.own (ks.map .str)),ae (.own (acts.map Ac.d)),x7,x8,x9,x10] n K:=by
 refine aC (show aB 8 _ _ _ _ from a9 ?_);unfold cG dC;refine aR (au rfl ?_);refine Am ⟨by omega,by rw[Ad];omega⟩ ?_;rw[Bq,Ad];refine Pk ws ks ?_;dsimp only[An];refine aC ?_;unfold dB;have ol:(jV ws ks).length<=6:=A9 (Gu _ _) (by rw[Cr];exact hwl);refine bH (au rfl (mx rfl (au rfl ?_)));refine De ks (De (jV ws ks) (De ws ⟨rfl,by omega,O.ok,QG hw0,by omega,λb hb=>Mi hb,by omega,λact n' hfs hri hn'=>?_⟩));refine Am rfl ?_;dsimp only[bB,cz,aI,An];refine aC (lp rfl (λQ q=>au rfl q) (by rw[Ad];omega) ?_);dsimp only[An];unfold aW je;refine au rfl ?_;dsimp only;have hbs:=wU hfs.1;refine fA (λds δ n''=>∃(ks' dn bs':List Str)(x7:Option SV),ds=bs'.map .str/\dn++bs'=act.bs/\(∀k,k∈ks'↔k∈ks++dn)/\n''=n'/\δ=[ae (.w .tp),ae (.w (.d (.list (ws.map dy)))),ae (.w (.d d)),ae (.own bl),ae (.w (.d (dy want))),ae (.own (ks'.map .str)),ae (.own (acts.map Ac.d++[act.d])),x7,ae (.w (.d (.list ((jV ws ks).map λb=>.int (b:Nat))))),ae (.w (.d act.d)),ae (.w (.d (.list (act.bs.map .str))))]/\ks'.length+bs'.length<=ks.length+4)
  (λδ n'' I=>?_) (λe r' δ n'' N I kN'=>?_) _ _ _ ⟨ks,[],act.bs,x7,rfl,rfl,λk=>by simp,rfl,rfl,by have:=hbs.2;omega⟩
 ·obtain⟨ks',dn,bs',x7,e,hdn,hm,rfl,rfl,hk'⟩:=I;cases F1.mp e.symm;rw[Bv]at hdn;subst hdn;have hm':∀k,k∈ks'↔k∈want++(acts++[act]).flatMap Ac.bs:=λk=>by
   rw[hm k,Ba,O.mem k,G9,<-Bj,Ba (s:=want++acts.flatMap Ac.bs)];simp
  refine kN _ _ ⟨ks',acts++[act],_,_,_,_,_,by rw[Be];rfl,⟨hm',λk z=>?_,λa z=>?_,Mk O.ri (λk z=>(O.mem k).mp z) hri⟩,by omega,by rw[Ak,Ap];omega,by omega⟩
  ·exact(Ba.mp ((hm k).mp z)).elim (O.ok k) (hbs.1 k)
  ·rcases Ba.mp z with z|z
   ·exact O.fs a z
   ·rw[Bg]at z;subst z;exact hfs
 ·obtain⟨ks',dn,bs',x7,e',hdn,hm,rfl,rfl,hk'⟩:=I;obtain⟨s,bs'',rfl,rfl,rfl⟩:=Ej.mp e'.symm;rw[Ar]at hk';dsimp only[aI,An];have hdn':(dn++[s])++bs''=act.bs:=by rw[Bj];exact hdn
  refine cZ (ar (au rfl (mx rfl (Am rfl ⟨qE ks',?_⟩))));refine jb (λz=>?_) (λz=>?_)
  ·refine lp rfl (λQ q=>au rfl q) (by rw[Ad];omega) (kN' _ _ ⟨ks'++[s],dn++[s],bs'',ae (.w (.d (.str s))),rfl,hdn',λk=>?_,rfl,?_,by rw[Ak,Ap];omega⟩)
   ·rw[Ba,hm k,<-Bj,Ba (s:=ks++dn)]
   ·rw[Be];rfl
  ·have hs:s∈ks':=by
    have z':(!bI (.str s) (ks'.map .str))=aj:=z;rw[my]at z';simpa using z'
   refine kN' _ _ ⟨ks',dn++[s],bs'',ae (.w (.d (.str s))),rfl,hdn',λk=>?_,rfl,rfl,by omega⟩;rw[<-Bj,Ba (s:=ks++dn),Bg,<-hm k];exact⟨.inl,λq=>q.elim id λe=>e▸hs⟩
def vW(n0:Int)(ds:List Ab)(δ:Sl)(n:Int):Prop:=∃(more:List (List Str))(x2:Option SV),δ=[ae (.w .tp),ae (.own (([]::more).map dy)),x2,ah,ah,ah,ah,ah,ah,ah,ah]/\more.length+ds.length<=5/\(∀w∈more,w∈iq)/\n+(ds.length:Int)<=n0+6
def nq(ws:List (List Str))(n0:Int)(ds:List Ab)(δ:Sl)(n:Int):Prop:=∃(bl:List Bl)(re:List (List Str))(x2 x4 x5 x6 x7 x8 x9 x10:Option SV),
 δ=[ae (.w .tp),ae (.w (.d (.list (ws.map dy)))),x2,ae (.own (bl.map fE)),x4,x5,x6,x7,x8,x9,x10]/\ds=re.map dy/\bl.map (·.1)++re=ws/\(∀b∈bl,lA b/\ky ws b)/\n+90*(ds.length:Int)<=n0+600
theorem Ud{bl:List Bl}(hw:∀w∈ws,w∈iq)(hw0:ws=[]::w0)(hwl:ws.length<=6)(hn0:n0+600 < 2 ^ 39)(hb:bl.map (·.1)++want::re=ws)(hbo:∀b∈bl,lA b/\ky ws b)(hn:n+90*((re.length:Int)+1)<=n0+600)
  (kN:∀δ n,nq ws n0 (re.map dy) δ n->K.nx δ n):
  av (bC 5 (ll ↥4)) (av (bC 6 (aO ao)) (av (aW (dC (w2 (br (aO (aq ⇑2 (aq ⇑3 (aq ⇑1 (aq ⇑4 (aq ⇑2 (aq ⇑0 (aq ⇑3 (aq ⇑8 ao)))))))))) (aF ck (aq ↥0 (aq ⇑8 ao))) aZ)) (aI 2) (av (aB 8 (br (cG [ah,ae 5,ae 1] (dC (wB fO (aq ↥1 ao))) (aI 0) (cT (w2 (br (cG [ah,ae 1] (dS (w2 ↥2 ↥0 aZ)) (aI 0) (cT (w2 ↥0 ↥1 (eV ai))) ↥0)) (br (aO ao)) cL)) ↥0))) (av (dB (aF oh (aq ↥0 (aq (ft 5) (aq ↥8 ao)))) (dO 2 (bB (aI 9) (bB (aI 10) cz)))) (av (a8 6 ↥9) (aW (je ↥10) (aI 7) (aJ (cT (w2 ↥7 (ft 5) (eV ai))) (a8 5 ↥7) aL)))))) (bL 6 (a8 3 (aw (aq ↥4 (aq (wB iw (aq ↥6 ao)) ao)))))))
   [ae (.w .tp),ae (.w (.d (.list (ws.map dy)))),x2,ae (.own (bl.map fE)),ae (.w (.d (dy want))),x5,x6,x7,x8,x9,x10] n K:=by
 obtain⟨hss,hso,hnd,hup⟩:=MA (hw want (by rw[<-hb];exact Bf _ A0));have hbl:bl.length+(re.length+1)<=6:=by rw[<-hb,Ak,Ad,Ar]at hwl;exact hwl
 refine aC (LN (ds:=want.map .str) rfl ?_);dsimp only[An];refine aC (iD ?_);dsimp only[An];refine aC (BI (L:=[.int 2,.int 3,.int 1,.int 4,.int 2,.int 0,.int 3,.int 8]) (M:=8) rfl (λQ q=>a9 (Am ∎ q)) ⋯ rfl ∎ ∎ (λd hd=>?_) ∎ λj hj=>?_)
 ·simp only[Au,A1,or_false]at hd;rcases hd with rfl|rfl|rfl|rfl|rfl|rfl|rfl|rfl
  ·exact⟨2,by decide,rfl⟩
  ·exact⟨3,by decide,rfl⟩
  ·exact⟨1,by decide,rfl⟩
  ·exact⟨4,by decide,rfl⟩
  ·exact⟨2,by decide,rfl⟩
  ·exact⟨0,by decide,rfl⟩
  ·exact⟨3,by decide,rfl⟩
  ·exact⟨8,by decide,rfl⟩
 refine fA (mY ws (bl.map fE) want n) (λδ n' I=>?_) (λd r' δ n' N I kN'=>?_) _ _ _ ⟨want,[],_,_,_,_,_,rfl,⟨λk=>by simp,hso,λa ha=>by simp at ha,λp a ha=>by simp at ha⟩,by rw[fj];omega,by rw[fj];simpa using hj,by rw[fj];omega⟩
 ·obtain⟨ks,acts,y2,y7,y8,y9,y10,rfl,O,_,ha,hn'⟩:=I;dsimp only;refine gG rfl ?_;dsimp only[An];refine iF rfl (cy (au rfl (aR (au rfl (lQ ?_)))));have ha':acts.length<=8:=by simpa using ha
  refine Am (show 2<=1000 by decide) (Am (by rw[Ad];omega) (kN _ _ ⟨bl++[(want,acts)],re,_,_,_,_,_,_,_,_,by rw[Be];rfl,rfl,by rw[Be,Bj];exact hb,λb z=>?_,?_⟩))
  ·rcases Ba.mp z with z|z
   ·exact hbo b z
   ·rw[Bg]at z;subst z;exact⟨⟨hss,hso,ha',O.fs,hnd,hup⟩,O.ri⟩
  ·have h0:n'<=n+89:=by simpa using hn'
   rw[Ad];omega
 ·obtain⟨ks,acts,y2,y7,y8,y9,y10,rfl,O,hk,ha,hn'⟩:=I;rw[Ar]at hk ha hn';dsimp only[aI,An];exact Pu hw0 hwl ⋯ O hk ha ⋯ kN'
theorem LL:bN uw BS ["_law_tape_here","_law_wants","_law_k","_law_blocks","_law_want","_law_known_here","_law_acts","_law_name","_law_open_ones","_law_act_here","_law_bound"]:=λws n0 Q h=>by
 obtain⟨rfl,hn0,k⟩:=h;show BS [ae (.w .tp),ah,ah,ah,ah,ah,ah,ah,ah,ah,ah] n0 _;refine aC (show bC 1 _ _ _ _ from Am (Br _) (Am ∎ ?_));dsimp only[An];refine aC (BI (L:=[.int 0,.int 1,.int 2,.int 1,.int 0,.int 2,.int 5]) (M:=5) rfl (λQ q=>a9 (Am ∎ q)) ⋯ rfl ∎ ∎ (λd hd=>?_) ∎ λj hj=>?_)
 ·simp only[Au,A1,or_false]at hd;rcases hd with rfl|rfl|rfl|rfl|rfl|rfl|rfl
  ·exact⟨0,by decide,rfl⟩
  ·exact⟨1,by decide,rfl⟩
  ·exact⟨2,by decide,rfl⟩
  ·exact⟨1,by decide,rfl⟩
  ·exact⟨0,by decide,rfl⟩
  ·exact⟨2,by decide,rfl⟩
  ·exact⟨5,by decide,rfl⟩
 refine fA (vW n0) (λδ n I=>?_) (λd r δ n N I kN=>?_) _ _ _ ⟨[],ah,rfl,by rw[fj];simpa using hj,λd hd=>by simp at hd,by rw[fj];omega⟩
 ·obtain⟨more,x2,rfl,hl,hm,hn⟩:=I;dsimp only;refine aC (iD ?_);dsimp only[An];refine gG rfl ?_;dsimp only[An];refine aC ?_;unfold aW je;refine au rfl ?_;dsimp only;have hw:∀w∈([]:List Str)::more,w∈iq:=λd hd=>by
   rcases Au.mp hd with rfl|z
   ·simp[iq]
   ·exact hm d z
  have hwl:(([]:List Str)::more).length<=6:=by rw[Ar];simp at hl;omega
  refine fA (nq ([]::more) n0) (λδ n' I=>?_) (λd r δ n' N I kN=>?_) _ _ _ ⟨[],[]::more,_,_,_,_,_,_,_,_,rfl,rfl,rfl,λb hb=>by simp at hb,?_⟩
  ·obtain⟨bl,re,y2,y4,y5,y6,y7,y8,y9,y10,rfl,er,hb,hbo,hn'⟩:=I;cases F1.mp er.symm;rw[Bv]at hb;dsimp only;refine gG rfl ?_;dsimp only[An];refine aY (aR (au rfl (lQ (k bl n' ⟨by have:=congrArg List.length hb;simp at this;omega,?_,λb z=>⟨(hbo b z).1,by rw[hb];exact(hbo b z).2⟩⟩ ⟨more,hb⟩ (by simpa using hn')))));rw[<-hb,Ad]at hwl;exact hwl
  ·obtain⟨bl,re,y2,y4,y5,y6,y7,y8,y9,y10,rfl,er,hb,hbo,hn'⟩:=I;obtain⟨want,re,rfl,rfl,rfl⟩:=Ej.mp er.symm;rw[Ar,Ad]at hn';dsimp only[aI,An];exact Ud hw rfl hwl hn0 hb hbo ⋯ kN
  ·have h1:n<=n0+6:=by simpa using hn
   have h2:(((([]:List Str)::more).map dy).length:Int)<=6:=by rw[Ad];omega
   omega
 ·obtain⟨more,x2,rfl,hl,hm,hn⟩:=I;rw[Ar]at hl hn;dsimp only[aI,An];refine iF rfl (ar (a9 (Am ∎ (Am ∎ (Am ∎ (Am ∎ (Am ∎ (Am ∎ ?_))))))));dsimp only;refine jl (m:=5) rfl ⋯ ∎ ∎ λq q0 q1=>i6 (ds:=[dy [],dy ["n"],dy ["go","n"],dy ["nm"],dy []]) q0 q1 λw hw=>?_;have:∃v∈iq,w=dy v:=by
   simp only[Au,A1,or_false]at hw;rcases hw with rfl|rfl|rfl|rfl|rfl
   ·exact⟨[],by simp[iq],rfl⟩
   ·exact⟨["n"],by simp[iq],rfl⟩
   ·exact⟨["go","n"],by simp[iq],rfl⟩
   ·exact⟨["nm"],by simp[iq],rfl⟩
   ·exact⟨[],by simp[iq],rfl⟩
  obtain⟨v,hv,rfl⟩:=this;refine Am (by rw[Ad,Ar];omega) (kN _ _ ⟨more++[v],ae (.w (.d d)),?_,by rw[Ak,Ap];omega,λe he=>?_,by omega⟩)
  ·rw[show([]::(more++[v]):List (List Str))=([]::more)++[v]from rfl,Be];rfl
  rcases Ba.mp he with z|z
  ·exact hm e z
  ·rw[Bg]at z;subst z;exact hv
section
variable{δ:Sl}{n:Int}{K:DEnds}{i:Nat}{s a b c:Str}{r:List Ab}{k:Bool}{Q:Bool->Int->Prop}
theorem CO(e:δ[i]?=ae (ae (.w (.d (.tuple (.str s::r))))))(h:bI (.str s) [.str a,.str b,.str c]=k)(q:Q k n):cT (w2 (w2 (ak i) (wC (.int 0)) az) (aw (aq (wC (.str a)) (aq (wC (.str b)) (aq (wC (.str c)) ao)))) (fZ aj)) δ n Q:=by
 refine ar (dj e ?_);show 3<=1000/\eI (.str s)=ai/\_/\Q (bI (.str s) [.str a,.str b,.str c]) n;exact⟨by decide,rfl,rfl,by rw[h];exact q⟩
theorem qu(ha:∀Q:Bool->Int->Prop,Q aj n->A δ n Q)(q:Q aj n):dU A B δ n Q:=ha _ (by show if aj=ai then _ else _;rw[if_neg Ag];exact q)
end
theorem TY(e:δ[i]?=ae (ae (.own es)))(k:w δ n λx n1=>match x with
  |.d (.list fs)=>(es.length < 1000000/\fs.length < 1000000)/\K.nx (δ.set i (ae (.own (es++fs)))) n1
  |_=>False):gw i w δ n K:=by
 unfold gw;rw[e];exact k
theorem Nc:bN tH zH ["_law_program_here","_law_block","_law_place","_law_found","_law_act_here"]:=λws n Q h=>by
 obtain⟨bs,i,p,⟨w,as⟩,rfl,hi,⟨hb1,hb2,hb3,hb4,_,_⟩,hp,k⟩:=h;dsimp only at hb1 hb2 hb3 hb4 hp k;have hi':(bs.map fE)[i]?=ae (fE (w,as)):=by rw[Ax,hi];rfl
 show zH [ae (.w (.d (.tuple (bs.map fE)))),ae (.w (.d (.int i))),ae (.w (.d (.int p))),ah,ah] n _;refine aC (show bC 3 (ll _) _ _ _ from ar (ar (au rfl (au rfl (bJ hi' (aD (cg ?_)))))));dsimp only[dy,An];refine aC ?_;unfold aW dS eO;refine ar (ar (au rfl (au rfl (bJ hi' (aD (e9 ?_))))));dsimp only[cR,cP];refine au rfl ?_;dsimp only;rw[vt _ (by rw[Ad];exact hp),<-List.map_take];refine fA (λds δ n'=>∃(dn re:List Ac)(L:List Str)(x:Option SV),ds=re.map Ac.d/\dn++re=as.take p/\n'=n/\δ=[ae (.w (.d (.tuple (bs.map fE)))),ae (.w (.d (.int i))),ae (.w (.d (.int p))),ae (.own (L.map .str)),x]/\KnI w dn L) (λδ n' I=>?_) (λd r δ n' N I kN=>?_) _ _ _
  ⟨[],as.take p,w,ah,rfl,rfl,rfl,rfl,KnI.first hb1 hb2⟩
 ·obtain⟨dn,re,L,x,e,hdn,rfl,rfl,I⟩:=I;cases F1.mp e.symm;rw[Bv]at hdn;subst hdn;dsimp only;refine gG rfl ?_;dsimp only[An];have hl:(as.take p).length<=8:=A9 (List.length_take_le _ _) ⋯;have hI:=I.len;refine aY (a9 (show sT _ _ _ _ from au rfl ?_));exact De L ⟨.inl rfl,by omega,λx hx=>A9 (I.ok x hx).1 ∎,λys a b c=>k ys a (λz hz=>I.ok z ((b z).mp hz)) c λz=>(b z).trans (I.mem z)⟩
 ·obtain⟨dn,re,L,x,e,hdn,rfl,rfl,I⟩:=I;obtain⟨a,re,rfl,rfl,rfl⟩:=Ej.mp e.symm;dsimp only[aI,An];have ha:dR a.fs:=(hb4 a (Fq (i:=p) (by rw[<-hdn];exact Bf _ A0))).1;have hlen:L.length<=36:=by
   have h1:dn.length+(re.length+1)=(as.take p).length:=by rw[<-hdn,Ak,Ar]
   have h3:=I.len;have h4:(as.take p).length<=as.length:=G1 _ _;omega
  have hdn':(dn++[a])++re=as.take p:=by rw[Bj];exact hdn
  have nxt:∀L',KnI w (dn++[a]) L'->N [ae (.w (.d (.tuple (bs.map fE)))),ae (.w (.d (.int i))),ae (.w (.d (.int p))),ae (.own (L'.map .str)),ae (.w (.d a.d))] n':=λL' I'=>kN _ _ ⟨dn++[a],re,L',_,rfl,hdn',rfl,rfl,I'⟩;have get:∀(K:DEnds)(hK:∀δ n,N δ n->K.nx δ n)(s:Str)(fs:List Fe)(r:List Ab),a.d=.tuple (.str s::dI fs::r)->bI (.str s) [.str "take",.str "read",.str "look"]=ai->a.bs=bh fs->a.fs=fs->aJ (cT (w2 (w2 ↥4 ⇑0 az) (aw (aq (wC (.str "take")) (aq (wC (.str "read")) (aq (wC (.str "look")) ao)))) (fZ aj))) (gw 3 (br (cG [ah] (dS (w2 ↥4 ⇑1 az)) (aI 0) (cT (w2 (w2 ↥0 ⇑0 az) (wC (.str "bind")) aT)) (w2 ↥0 ⇑1 az)))) aL
    [ae (.w (.d (.tuple (bs.map fE)))),ae (.w (.d (.int i))),ae (.w (.d (.int p))),ae (.own (L.map .str)),ae (.w (.d a.d))] n' K:=λK hK s fs r e1 e2 e3 e4=>by
   rw[e1]at nxt ⊢;refine bz (λQ q=>CO rfl e2 q) ?_;have hb:(bh fs).length<=4:=qt (e4▸ha);refine TY rfl (a9 (i9 (ds:=fs.map Fe.d) (λQ q=>de rfl q) (SW fs n' ?_)));refine Am ⟨by rw[Ad];omega,by rw[Ad];omega⟩ ?_;have:=nxt (L++bh fs) (I.more (λk=>by rw[e3]) hb ha);rw[Be]at this;exact hK _ _ this
  have skip:∀(K:DEnds)(hK:∀δ n,N δ n->K.nx δ n)(s:Str)(r:List Ab),a.d=.tuple (.str s::r)->bI (.str s) [.str "take",.str "read",.str "look"]=aj->a.bs=[]->aJ (cT (w2 (w2 ↥4 ⇑0 az) (aw (aq (wC (.str "take")) (aq (wC (.str "read")) (aq (wC (.str "look")) ao)))) (fZ aj))) (gw 3 (br (cG [ah] (dS (w2 ↥4 ⇑1 az)) (aI 0) (cT (w2 (w2 ↥0 ⇑0 az) (wC (.str "bind")) aT)) (w2 ↥0 ⇑1 az)))) aL
    [ae (.w (.d (.tuple (bs.map fE)))),ae (.w (.d (.int i))),ae (.w (.d (.int p))),ae (.own (L.map .str)),ae (.w (.d a.d))] n' K:=λK hK s r e1 e2 e3=>by
   rw[e1]at nxt ⊢;refine bf (λQ q=>CO rfl e2 q) (hK _ _ (nxt L (I.skip e3)))
  cases a with
  |lay fs age=>exact skip _ (λ_ _ z=>z) "lay" [dI fs,age] rfl ∅ rfl
  |take fs=>exact get _ (λ_ _ z=>z) "take" fs [] rfl ∅ rfl rfl
  |read fs=>exact get _ (λ_ _ z=>z) "read" fs [] rfl ∅ rfl rfl
  |look fs b=>exact get _ (λ_ _ z=>z) "look" fs [.int b] rfl ∅ rfl rfl
  |same f g b=>exact skip _ (λ_ _ z=>z) "same" [f.d,g.d,.int b] rfl ∅ rfl
  |go b=>exact skip _ (λ_ _ z=>z) "go" [.int b] rfl ∅ rfl
theorem CK{α:Type}{f:α->Ab}{P:α->Prop}:∀{ds:List Ab},(∀d∈ds,∃x,P x/\d=f x)->∃xs:List α,ds=xs.map f/\∀x∈xs,P x
 |[],_=>⟨[],rfl,λx hx=>by simp at hx⟩
 |d::r,h=>by
  obtain⟨x,hx,rfl⟩:=h d A0;obtain⟨xs,rfl,hxs⟩:=CK λe he=>h e (Aw _ he);exact⟨x::xs,rfl,λy hy=>(Au.mp hy).elim (λe=>e▸hx) (hxs y)⟩
def uS(m:Nat)(n0:Int)(ds:List Ab)(δ:Sl)(n:Int):Prop:=∃(ns:List Nt)(x y:Option SV),δ=[ae (.w .tp),ae (.w (.d (.int m))),ae (.own (ns.map dD)),x,y]/\ns.length+ds.length<=m/\(∀q∈ns,uC q)/\n+6*(ds.length:Int)<=n0+100
theorem LD:bN m7 FV ["_law_tape_here","_law_most","_law_found","_law_k","_law_row"]:=λws n0 Q h=>by
 obtain⟨m,rfl,hm,hn0,k⟩:=h;show FV [ae (.w .tp),ae (.w (.d (.int m))),ah,ah,ah] n0 _;refine aC (iD ?_);dsimp only[An];refine aC ?_;unfold aW dC;refine gY (m:=(m:Int)+1) rfl (λQ q=>ar (au rfl (aD q))) ⋯ ⋯ ⋯ λr r0 r1=>?_;refine Am ⟨by omega,by omega⟩ ?_;have hr:r.toNat<=m:=by omega
 refine fA (uS m n0) (λδ n I=>?_) (λd r' δ n N I kN=>?_) _ _ _ ⟨[],ah,ah,rfl,by rw[fj];simpa using hr,λd hd=>by simp at hd,by rw[fj];omega⟩
 ·obtain⟨ns,x,y,rfl,hl,hns,hn⟩:=I;dsimp only;refine gG rfl ?_;dsimp only[An];exact aY (aR (au rfl (lQ (k ns n ⟨by simpa using hl,hns⟩ (by simpa using hn)))))
 ·obtain⟨ns,x,y,rfl,hl,hns,hn⟩:=I;rw[Ar]at hl hn;dsimp only[aI,An];refine aC (show aB 4 _ _ _ _ from aR (a9 ?_));unfold cG;dsimp only;refine cq (au rfl (Am rfl ⟨by omega,λs s1 s4=>?_⟩));refine Am ⟨by omega,by omega⟩ ?_;rw[Bq];refine sE (λv=>cb v=ai) 1 (λd n Q' hn q=>cq (au rfl (Am rfl ⟨by omega,λv hv=>q v _ (oB hv) ⋯⟩))) _ [] ah _ (by rw[fj];omega) λrow n' hrl hrow hn'=>?_;rw[fj]at hrl hn';rw[B8];refine lQ ?_;dsimp only[An];refine iF rfl (cy (au rfl (Il rfl ⋯ λv hv=>?_)));refine Am (show 2<=1000 by decide) (Am (by rw[Ad];omega) (kN _ _ ⟨ns++[(row,v)],_,_,by rw[Be];rfl,by rw[Ak,Ap];omega,λe he=>?_,by omega⟩));rcases Ba.mp he with z|z
  ·exact hns e z
  ·rw[Bg]at z;subst z;exact⟨⟨⟨by show row.length<=4;omega,by show 1<=row.length;omega⟩,hrow⟩,FE hv⟩
theorem Ul:bN tW yY ["_law_tape_here","_law_programs"]:=λws n0 Q h=>by
 obtain⟨rfl,hn0,k⟩:=h;show yY [ae (.w .tp),ah] n0 _;refine aC (show bC 1 _ _ _ _ from ?_);unfold bC cG dC;refine ar (a9 (Am ∎ ?_));dsimp only;refine jl (m:=8) rfl ⋯ ∎ ∎ λq q0 q1=>i6 (ds:=[.int 2,.int 1,.int 2,.int 3,.int 2,.int 1,.int 0,.int 5]) q0 q1 λd hd=>?_;have hj:∃j:Nat,j<=5/\d=.int j:=by
  simp only[Au,A1,or_false]at hd;rcases hd with rfl|rfl|rfl|rfl|rfl|rfl|rfl|rfl
  ·exact⟨2,by decide,rfl⟩
  ·exact⟨1,by decide,rfl⟩
  ·exact⟨2,by decide,rfl⟩
  ·exact⟨3,by decide,rfl⟩
  ·exact⟨2,by decide,rfl⟩
  ·exact⟨1,by decide,rfl⟩
  ·exact⟨0,by decide,rfl⟩
  ·exact⟨5,by decide,rfl⟩
 obtain⟨j,hj,rfl⟩:=hj;refine Am ⟨by omega,by omega⟩ ?_;rw[Bq];refine sE (λd=>∃P,(qj P/\iJ P)/\d=eB P) 600 (λd n Q' hn q=>cq (au rfl (Am rfl ⟨by omega,λP n' hP hP' hn'=>q (eB P) n' ⟨P,⟨hP,hP'⟩,rfl⟩ ⋯⟩))) _ [] ah _ (by rw[fj];omega) λds n1 hpl hps0 hn1=>?_;rw[fj]at hpl hn1;rw[B8];obtain⟨ps,rfl,hps⟩:=CK hps0;clear hps0;rw[Ad]at hpl;dsimp only[An];have rest:∀(ps':Pg)(n2:Int),ps'.length<=5->(∀P∈ps',qj P/\iJ P)->n2<=n1+1->bL 1 (aA (aw (aq (wB iw (aq ↥1 ao)) (aq (aF m7 (aq ↥0 (aq (w2 (br (aO (aq ⇑4 (aq ⇑3 (aq ⇑6 (aq ⇑12 ao)))))) (aF ck (aq ↥0 (aq ⇑4 ao))) aZ) ao))) ao)))) [ae (.w .tp),ae (.own (ps'.map eB))] n2 {nx:=λ_ n=>Q (.d .none) n,rt:=Q}:=λps' n2 hl' hp' hn2=>by
  refine gG rfl ?_;dsimp only[An];refine aY (cy (aR (au rfl (lQ (bV (au rfl (ar (a9 (Am ∎ ?_)))))))));dsimp only;refine jl (m:=4) rfl ⋯ ∎ ∎ λr r0 r1=>i6 (ds:=[.int 4,.int 3,.int 6,.int 12]) r0 r1 λd hd=>?_;have hm:∃m:Nat,m<=12/\d=.int m:=by
   simp only[Au,A1,or_false]at hd;rcases hd with rfl|rfl|rfl|rfl
   ·exact⟨4,by decide,rfl⟩
   ·exact⟨3,by decide,rfl⟩
   ·exact⟨6,by decide,rfl⟩
   ·exact⟨12,by decide,rfl⟩
  obtain⟨m,hm,rfl⟩:=hm;exact De m ⟨rfl,hm,by omega,λns n' hns hn'=>Am (show 2<=1000 by decide) (k ps' _ n' ⟨hl',λP hP=>(hp' P hP).1⟩ (λP hP=>(hp' P hP).2) ⟨A9 hns.1 hm,hns.2⟩ ⋯)⟩
 refine aC (cZ ?_);refine(show cT _ _ _ _ from ar (aR (mx rfl (Rj (aD (k7 ?_))))));rw[Ad];show if decide ((ps.length:Int)=2)=ai then _ else _
 by_cases h2:(ps.length:Int)=2
 ·rw[if_pos (decide_eq_true h2)];refine ar (jl (m:=4) rfl ⋯ ∎ ∎ λq q0 q1=>aD (k7 ?_));show if decide (q=0)=ai then _ else _
  by_cases hq:q=0
  ·rw[if_pos (decide_eq_true hq)];have hl2:ps.length=2:=by omega
   obtain⟨P,P',rfl⟩:∃P P',ps=[P,P']:=by
    match ps,hl2 with
    |[P,P'],_=>exact⟨P,P',rfl⟩
   refine(show jw 1 _ _ _ _ _ from ar (mx rfl (aD ?_)));refine(show aZ (.ln [eB P,eB P']) (.d (.int 0)) _ _ from ?_);refine rest [P,P] _ (show 2<=5 by decide) (λR hR=>?_) ⋯;simp only[Au,A1,or_false,or_self]at hR;subst hR;exact hps _ A0
  ·rw[if_neg (by simpa using hq)];exact rest ps _ ⋯ hps ⋯
 ·rw[if_neg (by simpa using h2)];exact rest ps _ ⋯ hps ⋯
theorem dP(k:Q (.d (.int (i+j))) n):cx (λi j=>.int (i+j)) (.d (.int i)) (.d (.int j)) n Q:=k
theorem zC:∀(ys:List Str)(acc:Nm)(x:Option SV)(n:Int),n+(ys.length:Int) < 2 ^ 39->(∀p∈acc,cb p.2=ai)->(∀(nm:Nm)(n':Int),nm.map (·.1)=acc.map (·.1)++ys->(∀p∈nm,cb p.2=ai)->n'<=n+(ys.length:Int)->Q (nm.map iW) n')->
  cM (aI 0) cQ (aw (aq ↥0 (aq (aF jd (aq ↥1 ao)) ao))) Q (ys.map .str) (acc.map iW) [x,ae (.w .tp)] n
 |[],acc,x,n,_,ha,q=>q acc n (by rw[Bv]) ha ⋯
 |y::ys,acc,x,n,hn,ha,q=>by
  rw[Ar]at hn q;simp only[Bs,cM,aI,cQ,if_true,E8];refine cy (au rfl (cq (au rfl (Am rfl ⟨by omega,λv hv=>Am (show 2<=1000 by decide) ?_⟩))));have:=zC (Q:=Q) ys (acc++[(y,v)]) (ae (.w (.d (.str y)))) (n+1) ⋯ (λp hp=>(Ba.mp hp).elim (ha p) λz=>by rw[Bg.mp z];exact oB hv) λnm n' e hm hn'=>q nm n' (by rw[e,Be,Bj];rfl) hm ⋯;rw[Be]at this;exact this
theorem RW(as:List Ac)(h:∀a∈as,lN a):(as.flatMap Ac.bs).length<=4*as.length:=by
 induction as with
 |nil=>exact Br _
 |cons a r ih=>
  rw[List.flatMap_cons,Ak,Ar];have:=(wU (h a A0).1).2;have:=ih λb hb=>h b (Aw _ hb);omega
theorem Iv(ob:lA b)(p):(kn b.1 b.2 p).length<=36:=by
 unfold kn;rw[Ak];have:=RW (b.2.take p) λa ha=>ob.2.2.2.1 a (Fq ha);have:=List.length_take_le p b.2;have:=ob.1;have:=ob.2.2.1;have:=G1 p b.2;omega
def Nx(ps:Pg)(n0:Int)(ds:List Ab)(δ:Sl)(n:Int):Prop:=∃(hs:List Hn)(re:Pg)(x4 x5 x6 x7:Option SV),δ=[ae (.w .tp),ae (.w (.d (aX ps))),ae (.own (hs.map bG)),x4,x5,x6,x7]/\ds=re.map eB/\re=ps.drop hs.length/\hs.length<=ps.length /\
 (∀(i:Nat)(P:List Bl),i < hs.length->ps[i]?=ae P->∃(h:Hn)(b:Bl),hs[i]?=ae h/\P[h.1]?=ae b/\okHn b h)/\n+42*(ds.length:Int)<=n0+210
theorem Lb:bN vK Ie ["_law_tape_here","_law_programs","_law_hands","_law_program_here","_law_block","_law_place","_law_names"]:=λws n0 Q h=>by
 obtain⟨ps,rfl,⟨hpl,hps⟩,hn0,k⟩:=h;show Ie [ae (.w .tp),ae (.w (.d (aX ps))),ah,ah,ah,ah,ah] n0 _;refine aC (iD ?_);dsimp only[An];refine aC ?_;unfold aW dS;refine au rfl ?_;dsimp only[aX];refine fA (Nx ps n0) (λδ n I=>?_) (λd r δ n N I kN=>?_) _ _ _ ⟨[],ps,ah,ah,ah,ah,rfl,rfl,rfl,Br _,λi P hi=>absurd hi (Nat.not_lt_zero _),by rw[Ad];omega⟩
 ·obtain⟨hs,re,x4,x5,x6,x7,rfl,er,hre,hle,hok,hn⟩:=I;have e0:=F1.mp er.symm;rw[e0]at hre;have hlen:ps.length<=hs.length:=List.drop_eq_nil_iff.mp hre.symm;dsimp only;refine gG rfl ?_;dsimp only[An];refine aY (cy (aR (au rfl (bV (au rfl (aD (De 6 ⟨rfl,by decide,by simp at hn;omega,λns n' hns hn'=>?_⟩)))))));exact Am (show 2<=1000 by decide) (k hs ns n' ⟨by omega,λi P hi=>hok i P (by have:=(Av.mp hi).1;omega) hi⟩ hns (by simp at hn;omega))
 ·obtain⟨hs,re,x4,x5,x6,x7,rfl,er,hre,hle,hok,hn⟩:=I;obtain⟨P,re',rfl,rfl,rfl⟩:=Ej.mp er.symm;rw[Ar,Ad]at hn;have hlt:hs.length < ps.length:=by
   have:=congrArg List.length hre;rw[Ar,Cy]at this;omega
  have hcons:=Dp hlt;rw[<-hre]at hcons;obtain⟨hP,hre'⟩:=Gk hcons;have hPg:ps[hs.length]?=ae P:=by rw[Al hlt,hP]
  obtain⟨g1,g2,g3⟩:=hps P (A8 hPg);dsimp only[aI,An];refine aC (show aB 4 _ _ _ _ from gY (m:=(P.map fE).length) rfl (λQ q=>aR (au rfl q)) ⋯ (by rw[Ad];omega) (by rw[Ad];omega) λr r0 r1=>?_);rw[Ad]at r1;obtain⟨b,hb⟩:∃b:Nat,r=(b:Int):=⟨r.toNat,by omega⟩;subst hb;have hbl:b < P.length:=by omega
  obtain⟨bl,hbl'⟩:∃bl:Bl,P[b]?=ae bl:=⟨P[b],Al hbl⟩;obtain⟨w,as⟩:=bl;have hi':(P.map fE)[b]?=ae (fE (w,as)):=by rw[Ax,hbl'];rfl
  obtain⟨ob,_⟩:=g3 (w,as) (A8 hbl');have has:as.length<=8:=ob.2.2.1;dsimp only[An];refine aC (show aB 5 _ _ _ _ from gY (m:=((as.map Ac.d).length:Int)+1) rfl (λQ q=>ar (aR (ar (ar (au rfl (au rfl (bJ hi' (aD (e9 ?_)))))))) ) ⋯ ⋯ (by rw[Ad];omega) λr r0' r1'=>?_)
  ·exact dP q
  rw[Ad]at r1';obtain⟨p,hp⟩:∃p:Nat,r=(p:Int):=⟨r.toNat,by omega⟩;subst hp;dsimp only[An];refine aC (show aB 6 _ _ _ _ from aR (a9 ?_));unfold cG je;dsimp only;refine bH (au rfl (au rfl (au rfl (De P ⟨b,p,(w,as),rfl,hbl',ob,by show p<=as.length;omega,λys hnd hyo hup hmem=>?_⟩))));have hys:ys.length<=36:=A9 (t7 hnd λz hz=>(hmem z).mp hz) (Iv ob p);dsimp only;refine zC ys [] ah _ ⋯ (λp hp=>by simp at hp) λnm n' hnm hnv hn'=>?_;rw[List.map_nil,B8]at hnm;have hnl:nm.length=ys.length:=by rw[<-hnm,Ad]
  have onm:okHn (w,as) (b,p,nm):=⟨by show p<=as.length;omega,by show(nm.map (·.1)).Nodup;rw[hnm];exact hnd,λq hq=>⟨hyo _ (by rw[<-hnm];exact Bo.mpr ⟨q,hq,rfl⟩),hnv q hq⟩,(by have q:iV (nm.map (·.1)):=(by rw[hnm];exact hup);unfold iV at q;rw[List.pairwise_map]at q;exact q),λk=>by show k∈nm.map (·.1)↔_;rw[hnm];exact hmem k,by show nm.length<=40;omega⟩;dsimp only[dM,An];refine iF rfl (gK (au rfl (au rfl (au rfl ?_))));refine Am (show 3<=1000 by decide) (Am (by rw[Ad];omega) (kN _ _ ⟨hs++[(b,p,nm)],re',_,_,_,_,by rw[Be];rfl,rfl,by rw[Ak,Ap];exact hre',by rw[Ak,Ap];omega,λi P' hi hP'=>?_,by rw[Ad];omega⟩));rw[Ak,Ap]at hi;by_cases z:i < hs.length
  ·obtain⟨h,b',q1,q2,q3⟩:=hok i P' z hP';exact⟨h,b',by rw[C2 z];exact q1,q2,q3⟩
  ·have z':i=hs.length:=by omega
   subst z';rw[hPg]at hP';cases hP';exact⟨(b,p,nm),(w,as),by simp,hbl',onm⟩
theorem gE(hu:∀Q:Bool->Int->Prop,Q b n->u δ n Q)(k:if b=ai then v δ n Q else w δ n Q):fD u v w δ n Q:=hu _ k
theorem j7{α:Type}{rest:Sl}(f g)(p):∀(xs:List α)(acc:List Ab)(x:Option SV)(n:Int),(∀a∈xs,∀(n:Int)(Q':Bool->Int->Prop),Q' (p a) n->c (ae (.w (.d (f a)))::rest) n Q')->(∀a∈xs,∀(n:Int)(Q':DQ),Q' (.d (g a)) n->w (ae (.w (.d (f a)))::rest) n Q')->Q (acc++(xs.filter p).map g) n->cM (aI 0) c w Q (xs.map f) acc (x::rest) n
 |[],acc,x,n,_,_,q=>by rw[List.filter_nil,List.map_nil,Bv]at q;exact q
 |a::r,acc,x,n,hp,h,q=>by
  simp only[Bs,cM,aI,E8];refine hp a A0 n _ ?_;cases e:p a with
  |true=>
   simp only[if_true];refine h a A0 n _ (j7 f g p r (acc++[g a]) _ n (λb hb=>hp b (Aw _ hb)) (λb hb=>h b (Aw _ hb)) ?_);rw[Ex,if_pos e,Bs]at q;rw[Bj];exact q
  |false=>
   simp only[Cu,if_false];refine j7 f g p r acc _ n (λb hb=>hp b (Aw _ hb)) (λb hb=>h b (Aw _ hb)) ?_;rw[Ex,if_neg (by rw[e];exact Ag)]at q;exact q
structure HandAt(ps:Pg)(hs:List Hn)(h:Nat)(P:List Bl)(xb xp:Nat)(nm:Nm)(w:List Str)(as:List Ac):Prop where
 prog:ps[h]?=ae P
 hand:hs[h]?=ae (xb,xp,nm)
 blk:P[xb]?=ae (w,as)
 hn:okHn (w,as) (xb,xp,nm)
theorem ig(ok:okHs ps hs)(hh:h < ps.length):∃P xb xp nm w as,HandAt ps hs h P xb xp nm w as:=by
 have hP:ps[h]?=ae ps[h]:=Al hh;obtain⟨⟨xb,xp,xn⟩,⟨w,as⟩,e1,e2,e3⟩:=ok.2 h _ hP;exact⟨_,xb,xp,xn,w,as,hP,e1,e2,e3⟩
section
variable{ps:Pg}{hs:List Hn}{h:Nat}{P:List Bl}{xb xp:Nat}{nm:Nm}{w:List Str}{as:List Ac}
theorem HandAt.act(H:HandAt ps hs h P xb xp nm w as):bA ps hs h=as[xp]?:=by
 unfold bA;rw[H.prog,H.hand];show(P[xb]?.bind λb=>b.2[xp]?)=_;rw[H.blk];rfl
theorem HandAt.nms(H:HandAt ps hs h P xb xp nm w as):okN nm:=H.hn.n
theorem HandAt.nmq(H:HandAt ps hs h P xb xp nm w as):jc hs h=nm:=by unfold jc;rw[H.hand];rfl
theorem HandAt.ok(H:HandAt ps hs h P xb xp nm w as)(ok:bQ ps)(e:bA ps hs h=ae a):lN a:=by
 rw[H.act]at e;have hP:=(ok.2 P (A8 H.prog)).2.2 (w,as) (A8 H.blk);exact hP.1.2.2.2.1 a (A8 e)
theorem HandAt.hD(H:HandAt ps hs h P xb xp nm w as):(hs.map bG)[h]?=ae (.tuple [.int xb,.int xp,bZ nm]):=by rw[Ax,H.hand];rfl
theorem HandAt.pD(H:HandAt ps hs h P xb xp nm w as):(ps.map eB)[h]?=ae (.tuple (P.map fE)):=by rw[Ax,H.prog];rfl
theorem HandAt.bD(H:HandAt ps hs h P xb xp nm w as):(P.map fE)[xb]?=ae (.tuple [dy w,.tuple (as.map Ac.d)]):=by rw[Ax,H.blk];rfl
end
theorem ET{i j xp:Nat}{as:List Ac}(e4:δ[j]?=ae (ae (.w (.d (.int xp)))))(e5:δ[i]?=ae (ae (.w (.d (.tuple (as.map Ac.d))))))(k:Q (.d (rN as[xp]?)) n):fD (cT (w2 (ak j) (wB bF (aq (ak i) ao)) ir)) (w2 (ak i) (ak j) az) (wC .none) δ n Q:=by
 refine gE (b:=decide ((xp:Int) < ((as.map Ac.d).length:Nat))) (λQ q=>aE (λQ q=>ar (au e4 (aR (au e5 (wG q))))) q) ?_;rw[Ad];by_cases z:(xp:Int) < (as.length:Nat)
 ·rw[if_pos (decide_eq_true z)];have zl:xp < as.length:=by omega
  have ha:(as.map Ac.d)[xp]?=ae (Ac.d as[xp]):=by rw[Ax,Al zl];rfl
  rw[Al zl]at k;exact ar (au e5 (au e4 (bJ ha k)))
 ·rw[if_neg (by simpa using z)];rw[Gv ⋯]at k;exact aD k
theorem Ru:bN iM FI ["programs","stand","hand","block","place","acts"]:=λws n Q h=>by
 obtain⟨ps,hs,ns,h,rfl,hok,hh,k⟩:=h;obtain⟨P,xb,xp,nm,w,as,H⟩:=ig hok hh;rw[H.act]at k;show FI [ae (.w (.d (aX ps))),ae (.w (.d (bg hs ns))),ae (.w (.d (.int h))),ah,ah,ah] n _;refine aC (bE (x:=.int xb) (λQ q=>ar (ar (ar (au rfl (aD (cg (au rfl (bJ H.hD (aD (cg q)))))))))) ?_);dsimp only[An];refine aC (bE (x:=.int xp) (λQ q=>ar (ar (ar (au rfl (aD (cg (au rfl (bJ H.hD (aD (e9 q)))))))))) ?_);dsimp only[An];refine aC (bE (x:=.tuple (as.map Ac.d)) (λQ q=>ar (ar (ar (au rfl (au rfl (bJ H.pD (au rfl (bJ H.bD (aD (e9 q)))))))))) ?_);dsimp only[An];exact aY (ET rfl rfl k)
theorem NG:bN iM EA ["_law_programs","_law_stand_here","_law_hand","_law_block","_law_place","_law_names","_law_acts"]:=λws n Q h=>by
 obtain⟨ps,hs,ns,h,rfl,hok,hh,k⟩:=h;obtain⟨P,xb,xp,nm,w,as,H⟩:=ig hok hh;rw[H.act]at k;show EA [ae (.w (.d (aX ps))),ae (.w (.d (bg hs ns))),ae (.w (.d (.int h))),ah,ah,ah,ah] n _;refine aC ?_;unfold dB;refine ar (ar (au rfl (aD (cg (au rfl (bJ H.hD ?_))))));refine Am rfl ?_;dsimp only[bB,cz,aI,An];refine aC (bE (x:=.tuple (as.map Ac.d)) (λQ q=>ar (ar (ar (au rfl (au rfl (bJ H.pD (au rfl (bJ H.bD (aD (e9 q)))))))))) ?_);dsimp only[An];exact aY (ET rfl rfl k)
section
variable{δ:Sl}{n:Int}{K:DEnds}{a v:Ab}{r:List Ab}{x:Str}{hp:Nm}{hs:List Str}{W V:aH}
theorem xD(e:δ[8]?=ae (ae (.w (.d (.bool b)))))(kT:b=ai->K.nx δ n)(kF:b=aj->K.rt (.d .none) n):aJ (dv (cT ↥8)) (aA (wC .none)) aL δ n K:=by
 refine cZ (ml (k:=b) (λQ q=>aE (λQ q=>au e q) q) ?_);cases b with
 |true=>exact kT rfl
 |false=>exact kF rfl
def rK(hp:Nm)(x:Str)(v:Ab):Bool:=((look hp x).map λw=>fe w v).getD aj
theorem HZ(e5:δ[5]?=ae (ae (.w (.d (.tuple (a::.str x::r))))))(e3:δ[3]?=ae (ae (.odk (bb hp))))(e6:δ[6]?=ae (ae (.w (.d v))))(hv:cb v=ai)(hok:∀p∈hp,fX p)(k:K.nx (δ.set 8 (ae (.w (.d (.bool (rK hp x v)))))) n):
  aB 8 (fP (w2 (w2 ↥5 (wC (.int 1)) az) (dq 3) (fc aj)) (w2 (w2 (dq 3) (w2 ↥5 (wC (.int 1)) az) gv) ↥6 aT)) δ n K:=by
 unfold aB fP;refine ar (de e5 ?_);have pk:∀(n:Int)(Q:DQ),Q (.dk (bb hp)) n->dq 3 δ n Q:=λn Q q=>by unfold dq;rw[e3];exact q
 refine pk _ _ ?_;show gP (.d (.bool (bW (bb hp) (.inr x)).isSome)) _ _;rw[jS];unfold rK at k;cases q:look hp x with
 |none=>rw[q]at k;exact k
 |some w=>
  rw[q]at k;rw[Option.isSome_some,CU,if_pos rfl];refine ar (ar (pk _ _ (de e5 ?_)));unfold gv;simp only[jS,q];refine au e6 ?_;unfold aT;simp only[mE (hok _ (lL q)).2 hv];exact k
theorem ze(hg:g=.as x\/g=.bind x/\x∈hs):wk ((g,v)::l) hp hs=if rK hp x v=ai then wk l hp hs else ah:=by
 unfold rK;rcases hg with rfl|⟨rfl,hx⟩
 ·rw[wk];cases q:look hp x with
  |none=>rw[Option.map_none,Option.getD_none,if_neg Ag]
  |some w=>rw[F3,Option.getD_some]
 ·rw[wk,if_pos hx];cases q:look hp x with
  |none=>rw[Option.map_none,Option.getD_none,if_neg Ag]
  |some w=>rw[F3,Option.getD_some]
theorem i0{s a b:Str}(e:δ[i]?=ae (ae (.w (.d (.str s)))))(h:bI (.str s) [.str a,.str b]=k)(q:Q k n):cT (w2 (ak i) (aw (aq (wC (.str a)) (aq (wC (.str b)) ao))) (fZ aj)) δ n Q:=by
 refine ar (au e ?_);show 2<=1000/\eI (.str s)=ai/\_/\Q (bI (.str s) [.str a,.str b]) n;exact⟨by decide,rfl,rfl,by rw[h];exact q⟩
theorem MM(s)(e7:δ[7]?=ae (ae (.w (.d (.str s)))))(h1:bq "as" (.str s)=aj)(h2:bq "bind" (.str s)=aj)(hF:V δ n K):
  aJ (ia (cT (w2 ↥7 (wC (.str "as")) aT)) (dU (cT (w2 ↥7 (wC (.str "bind")) aT)) (cT (ma 4 (w2 ↥5 (wC (.int 1)) az))))) W V δ n K:=by
 refine bf (λQ q=>g9 (λQ q=>gM e7 ?_) (qu (λQ q=>gM e7 ?_) q)) hF
 ·show Q (bq "as" (.str s)) n;rw[h1];exact q
 ·show Q (bq "bind" (.str s)) n;rw[h2];exact q
theorem NC(e7:δ[7]?=ae (ae (.w (.d (.str "bind")))))(e5:δ[5]?=ae (ae (.w (.d (.tuple [.str "bind",.str x])))))(e4:δ[4]?=ae (ae (.own (hs.map .str))))(hT:x∈hs->W δ n K)(hF:x∉hs->V δ n K):
  aJ (ia (cT (w2 ↥7 (wC (.str "as")) aT)) (dU (cT (w2 ↥7 (wC (.str "bind")) aT)) (cT (ma 4 (w2 ↥5 (wC (.int 1)) az))))) W V δ n K:=by
 refine cZ (g9 (λQ q=>gM e7 ?_) (rD (λQ q=>gM e7 ?_) ?_))
 ·show Q (bq "as" (.str "bind")) n;rw[Ku];exact q
 ·show Q (bq "bind" (.str "bind")) n;rw[tP];exact q
 ·unfold cT ma;refine de e5 ?_;rw[e4];refine⟨rfl,qE hs,?_⟩;show if bI (.str x) (hs.map .str)=ai then _ else _
  rw[my];exact FY hT hF
end
theorem N3(e:δ[i]?=ae (ae (.odk kvs)))(k:W (δ.set i (ae (.w (.ob (.k kvs))))) n K):bL i W δ n K:=by
 unfold bL;rw[e];exact k
def oZ:Option Nm->Wv
 |none=>.d .none
 |some h=>.ob (.k (bb h))
theorem Jy(h:¬fs.length=row.length):dX fs row nm=.d .none:=by
 unfold dX cu;rw[decide_eq_false h,if_neg (by rw[Bool.false_and];exact Ag)]
theorem Qf(h:fs.length=row.length):dX fs row nm=oZ (wk (fs.zip row) nm []):=by
 unfold dX cu c8;rw[decide_eq_true h,Bool.true_and];cases wk (fs.zip row) nm []with
 |none=>rw[if_neg (by rw[Option.isSome_none];exact Ag)];rfl
 |some x=>rw[if_pos (show(ae x).isSome=ai from rfl)];rfl
theorem Ll:bN sy uh ["_law_pattern_here","_law_row","_law_names","_law_has","_law_mine","_law_field","_law_value_here","_law_word","_law_good"]:=λws n Q h=>by
 obtain⟨fs,row,nm,rfl,okp,okr,okn,k⟩:=h;show uh [ae (.w (.d (cV fs))),ae (.w (.d (.tuple row))),ae (.w (.d (bZ nm))),ah,ah,ah,ah,ah,ah] n {nx:=λ_ n=>Q (.d .none) n,rt:=Q};unfold uh;refine aC (yF (xs:=fs.map Fd.d) (ys:=row) rfl rfl (λne=>?_) λel=>?_)
 ·show Q (.d .none) n;rw[Ad]at ne;rw[Jy ne]at k;exact k
 ·rw[Ad]at el;rw[Qf el]at k;dsimp only[aL];refine aC (nz rfl okn ?_);dsimp only[An];refine aC (iD ?_);dsimp only[An];refine aC (CC (xs:=fs.map Fd.d) (ys:=row) rfl rfl (by rw[Ad];exact el) ?_);refine fA (λds δ m=>m=n/\∃(gs:List Fd)(vs:List Ab)(hp:Nm)(hs:List Str)(y z u t:Option SV),ds=df (gs.map Fd.d) vs/\gs.length=vs.length/\δ=[ae (.w (.d (cV fs))),ae (.w (.d (.tuple row))),ae (.w (.d (bZ nm))),ae (.odk (bb hp)),ae (.own (hs.map .str)),y,z,u,t] /\
   (∀g∈gs,g.ok)/\(∀d∈vs,cb d=ai)/\(hp.map (·.1)).Nodup/\(∀p∈hp,fX p)/\hp.length+gs.length<=48/\hs.length+gs.length<=48/\Q (oZ (wk (gs.zip vs) hp hs)) n) ?_ ?_ _ _ _ ?_
  ·rintro δ m ⟨rfl,gs,vs,hp,hs,y,z,u,t,e,hl,rfl,gok,vok,nd,hok,l1,l2,kq⟩
   have:gs=[]:=by
    cases gs with
    |nil=>rfl
    |cons g gs=>cases vs with|nil=>cases hl|cons v vs=>cases e
   subst this;dsimp only;refine N3 rfl ?_;dsimp only[An];exact aY (au rfl (show Q (.ob (.k (bb hp))) m from kq))
  ·rintro d r δ m N ⟨rfl,gs,vs,hp,hs,y,z,u,t,e,hl,rfl,gok,vok,nd,hok,l1,l2,kq⟩ hN
   cases gs with
   |nil=>cases e
   |cons g gs=>
    cases vs with
    |nil=>cases hl
    |cons v vs=>
     have e1:d=.tuple [g.d,v]:=by have:=congrArg (λl=>l.head?) e;simpa[df]using this
     have e2:r=df (gs.map Fd.d) vs:=by have:=congrArg List.tail e;simpa[df]using this
     subst e1 e2;rw[Ar]at l1 l2;rw[Ar,Ar]at hl;have gk:=gok g A0;have vk:=vok v A0;rw[F9]at kq;have no:(wk ((g,v)::gs.zip vs) hp hs=ah)->Q (.d .none) m:=λw=>by rw[w]at kq;exact kq
     have go:∀(hp':Nm)(hs':List Str)(y z u t:Option SV),wk ((g,v)::gs.zip vs) hp hs=wk (gs.zip vs) hp' hs'->(hp'.map (·.1)).Nodup->(∀p∈hp',fX p)->hp'.length<=hp.length+1->hs'.length<=hs.length+1->
       N [ae (.w (.d (cV fs))),ae (.w (.d (.tuple row))),ae (.w (.d (bZ nm))),ae (.odk (bb hp')),ae (.own (hs'.map .str)),y,z,u,t] m:=λhp' hs' y z u t hw a1 a2 a3 a4=>
      hN _ _ ⟨rfl,gs,vs,hp',hs',y,z,u,t,rfl,by omega,rfl,λg hg=>gok g (Aw _ hg),λd hd=>vok d (Aw _ hd),a1,a2,by omega,by omega,by rw[<-hw];exact kq⟩
     have fin:∀(b:Bool)(y z u:Option SV)(hw:wk ((g,v)::gs.zip vs) hp hs=if b=ai then wk (gs.zip vs) hp hs else ah),aJ (dv (cT ↥8)) (aA (wC .none)) aL [ae (.w (.d (cV fs))),ae (.w (.d (.tuple row))),ae (.w (.d (bZ nm))),ae (.odk (bb hp)),ae (.own (hs.map .str)),y,z,u,ae (.w (.d (.bool b)))] m {nx:=N,ct:=N,bk:=λδ n_1=>bL 3 (aA ↥3) δ n_1 {nx:=λ_ n=>Q (.d .none) n,rt:=Q},rt:=Q}:=λb y z u hw=>
      xD rfl (λz'=>go hp hs _ _ _ _ (by rw[hw,if_pos z']) nd hok ⋯ ⋯) (λz'=>no (by rw[hw,if_neg (by rw[z'];exact Ag)]))
     refine⟨rfl,?_⟩;dsimp only[bB,aI,cz,An];refine aC (bE (x:=.str g.hd) (λQ q=>dj (r:=g.tl) (by rw[Fd.parts];rfl) q) ?_);dsimp only[An];refine aC (bE (x:=.bool ai) (λQ q=>aD q) ?_);dsimp only[An];cases g with
     |any=>
      refine aC (mh (d:=.str "any") rfl R9 (bf (λQ q=>i0 (s:="any") rfl ∅ q) (MM "any" rfl ∅ ∅ (mh (d:=.str "any") rfl ∅ ?_))));dsimp only[aL];exact fin ai _ _ _ (by rw[wk,if_pos rfl])
     |is w=>
      refine aC (zw (d:=.str "is") rfl sq (bE (x:=.bool (fe w v)) (λQ q=>ar (de (a:=.str "is") (b:=w) (r:=[]) rfl (au rfl ?_))) ?_))
      ·unfold aT;simp only[mE (show cb w=ai from gk) vk];exact q
      dsimp only[An];exact fin _ _ _ _ (by rw[wk])
     |word=>
      refine aC (mh (d:=.str "word") rfl Ji (bz (λQ q=>i0 (s:="word") rfl ∅ q) (bE (x:=.bool (iT v)) (λQ q=>ar ?_) ?_)))
      ·unfold di;refine au rfl (gM (d:=.str "word") rfl ?_);rw[JZ];cases v with
       |str s=>rw[l6];exact q
       |int i=>rw[l6];exact q
       |_=>cases vk
      dsimp only[An];exact fin _ _ _ _ (by rw[wk])
     |number=>
      refine aC (mh (d:=.str "number") rfl P0 (bz (λQ q=>i0 (s:="number") rfl ∅ q) (bE (x:=.bool (iG v)) (λQ q=>ar ?_) ?_)))
      ·unfold di;refine au rfl (gM (d:=.str "number") rfl ?_);rw[Qc];cases v with
       |str s=>rw[l6];exact q
       |int i=>rw[l6];exact q
       |_=>cases vk
      dsimp only[An];exact fin _ _ _ _ (by rw[wk])
     |as x=>
      refine aC (mh (d:=.str "as") rfl sj (bf (λQ q=>i0 (s:="as") rfl ∅ q) (bz (λQ q=>mj (λQ q=>gM (d:=.str "as") rfl ?_) q) (HZ (a:=.str "as") (x:=x) (r:=[]) rfl rfl rfl vk hok ?_))))
      ·show Q (bq "as" (.str "as")) m;rw[RU];exact q
      dsimp only[An];exact fin _ _ _ _ (ze (.inl rfl))
     |bind x=>
      refine aC (mh (d:=.str "bind") rfl Kl (bf (λQ q=>i0 (s:="bind") rfl ∅ q) (NC (hs:=hs) rfl rfl rfl (λhx=>HZ (a:=.str "bind") (x:=x) (r:=[]) rfl rfl rfl vk hok ?_) λhx=>zw (d:=.str "bind") rfl tP ?_)))
      ·dsimp only[An];exact fin _ _ _ _ (ze (.inr ⟨rfl,hx⟩))
      ·refine aC ?_;unfold mD;refine(show(match ae (ae (SV.odk (bb hp)))with|some (ae (.odk kvs))=>_|_=>False)from ?_);refine au rfl (de (a:=.str "bind") (b:=.str x) (r:=[]) rfl ⟨by unfold bb;rw[Ad];omega,?_⟩);rw[rE];dsimp only[An];refine lp (x:=.str x) (es:=hs.map .str) rfl (λQ q=>de (a:=.str "bind") (b:=.str x) (r:=[]) rfl q) (by rw[Ad];omega) ?_;dsimp only[An];have:=go (put hp x v) (hs++[x]) (ae (.w (.d (.tuple [.str "bind",.str x])))) (ae (.w (.d v))) (ae (.w (.d (.str "bind")))) (ae (.w (.d (.bool ai)))) (by rw[wk,if_neg hx]) (tK nd) (mV hok gk vk) (qO _ _ _) (by rw[Ak];exact Ao _);rw[Be]at this;exact xD (b:=ai) rfl (λ_=>this) (λz=>by cases z)
  ·exact⟨rfl,fs,row,nm,[],ah,ah,ah,ah,rfl,el,rfl,okp.2.2,okr.2,okn.2.1,okn.2.2,by have:=okp.2.1;have:=okn.1;omega,by have:=okp.2.1;simpa using A9 this ∎,k⟩
theorem Im:∀{row:List Ab},(∀d∈row,cb d=ai)->∃k:List aG,row=k.map DL.vD
 |[],_=>⟨[],rfl⟩
 |d::r,h=>by
  obtain⟨k,rfl⟩:=Im λe he=>h e (Aw _ he);have hd:=h d A0;cases d with
  |int i=>exact⟨.inl i::k,rfl⟩
  |str x=>exact⟨.inr x::k,rfl⟩
  |_=>cases hd
theorem GC(k)(m):bM k (m+1)=.int k::bM (k+1) m:=by
 unfold bM;rw[List.range_succ_eq_map,Bs,Dg]
 congr 1
 ·rw[show((0:Nat):Int)=0 from rfl,Int.add_zero]
 ·refine C4 λi _=>?_;show E6 (k+((i+1:Nat):Int))=.int (k+1+(i:Int));have:k+((i+1:Nat):Int)=k+1+(i:Int):=by omega
  rw[this]
theorem uu(h:f.pt=ai):(Fe.fd f).d=f.d:=by cases f<;>first|rfl|cases h
theorem mH(ok:dR fs)(h:gp fs):dI fs=cV (fs.map Fe.fd)/\pd (fs.map Fe.fd):=by
 refine⟨?_,by rw[Ad];exact h.1,by rw[Ad];exact ok.1,λg hg=>?_⟩
 ·unfold dI cV;rw[Dg]
  congr 1
  exact C4 λf hf=>(uu (h.2 f hf)).symm
 ·obtain⟨f,hf,rfl⟩:=Bo.mp hg;have:=ok.2 f hf;cases f<;>first|exact this|trivial
theorem sP{a:Ac}(h:a.pf=ah):a.wt=aj/\∃s r,a.d=.tuple (.str s::r)/\bI (.str s) [.str "take",.str "read",.str "look"]=aj/\bI (.str s) [.str "take",.str "read"]=aj:=by
 cases a with
 |lay fs age=>exact⟨rfl,"lay",_,rfl,by decide +kernel,by decide +kernel⟩
 |same f g b=>exact⟨rfl,"same",_,rfl,by decide +kernel,by decide +kernel⟩
 |go b=>exact⟨rfl,"go",_,rfl,by decide +kernel,by decide +kernel⟩
 |take fs=>cases h
 |read fs=>cases h
 |look fs b=>cases h
theorem rB(h:a.pf=ae fs)(ok:lN a):pd fs/\∃s r,a.d=.tuple (.str s::cV fs::r)/\bI (.str s) [.str "take",.str "read",.str "look"]=ai/\bI (.str s) [.str "take",.str "read"]=a.wt:=by
 cases a with
 |lay fs age=>cases h
 |same f g b=>cases h
 |go b=>cases h
 |take gs=>
  cases h;obtain⟨e,o⟩:=mH (fs:=gs) ok.1 ok.2;exact⟨o,"take",[],by rw[<-e];rfl,by decide +kernel,show bI (.str "take") [.str "take",.str "read"]=ai by decide +kernel⟩
 |read gs=>
  cases h;obtain⟨e,o⟩:=mH (fs:=gs) ok.1 ok.2;exact⟨o,"read",[],by rw[<-e];rfl,by decide +kernel,show bI (.str "read") [.str "take",.str "read"]=ai by decide +kernel⟩
 |look gs b=>
  cases h;obtain⟨e,o⟩:=mH (fs:=gs) ok.1 ok.2;exact⟨o,"look",[.int b],by rw[<-e];rfl,by decide +kernel,show bI (.str "look") [.str "take",.str "read"]=aj by decide +kernel⟩
theorem Oh(fs)(row)(nm):iu (fN fs row nm)=!cu fs row nm:=by
 unfold fN;cases cu fs row nm<;>rfl
theorem rh:aV fs nm (q::r)=if cu fs q.1 nm=ai then ae 0 else(aV fs nm r).map (·+1):=by
 unfold aV;rw[List.findIdx?_cons]
theorem Ql(h:gW (gA m k d) k'=ai):k'=k\/gW m k'=ai:=by
 unfold gA at h
 split at h
 ·unfold gW at h ⊢;rw[List.any_map,Ea]at h;obtain⟨p,hp,e⟩:=h;refine .inr (Ea.mpr ⟨p,hp,?_⟩);have e':=of_decide_eq_true e;dsimp only at e';by_cases z:p.1=k
  ·rw[if_pos z]at e';exact decide_eq_true e'
  ·rw[if_neg z]at e';exact decide_eq_true e'
 ·unfold gW at h ⊢;rw[List.any_append,Bool.or_eq_true]at h;rcases h with h|h
  ·exact .inr h
  ·simp at h;exact .inl h.symm
theorem Jx:(gA m k d).length<=m.length+1:=by
 unfold gA
 split
 ·rw[Ad];omega
 ·rw[Ak];exact Ao _
section
variable{δ:Sl}{n:Int}{Q:DQ}{K:DEnds}{W V:aH}{i:Nat}
theorem fi{neg:Bool}(k:Q (.d (.bool (if neg then !iu a else iu a))) n):cm neg (.d a) (.d .none) n Q:=k
theorem jf{neg:Bool}(k:Q (.d (.bool (if neg then !iu a else iu a))) n):dY neg (.d a) (.d .none) n Q:=.inr k
theorem rR(k:Q (.d (.bool neg)) n):dY neg (.ob o) (.d .none) n Q:=.inl ⟨o,rfl,rfl,k⟩
theorem DZ{Q:Bool->Int->Prop}(e:δ[i]?=ae (ae (.w (.d (.tuple (.str s::r))))))(h:bI (.str s) [.str a,.str b,.str c]=k)(q:Q (!k) n):cT (w2 (w2 (ak i) (wC (.int 0)) az) (aw (aq (wC (.str a)) (aq (wC (.str b)) (aq (wC (.str c)) ao)))) (fZ ai)) δ n Q:=by
 refine ar (dj e ?_);show 3<=1000/\eI (.str s)=ai/\_/\Q (!bI (.str s) [.str a,.str b,.str c]) n;exact⟨by decide,rfl,rfl,by rw[h];exact q⟩
theorem MC(e:δ[i]?=ae (ae (.w (.d (.tuple (.str s::r))))))(h:bI (.str s) [.str a,.str b]=k)(q:Q (.d (.bool !k)) n):w2 (w2 (ak i) (wC (.int 0)) az) (aw (aq (wC (.str a)) (aq (wC (.str b)) ao))) (fZ ai) δ n Q:=by
 refine ar (dj e ?_);show 2<=1000/\eI (.str s)=ai/\_/\Q (.d (.bool !bI (.str s) [.str a,.str b])) n;exact⟨by decide,rfl,rfl,by rw[h];exact q⟩
theorem BB{Q:Bool->Int->Prop}(e:δ[i]?=ae (ae (.w (.d (.tuple (.str s::r))))))(h:bI (.str s) (hs.map .str)=k)(q:Q (!k) n):cT (nJ hs (w2 (ak i) (wC (.int 0)) az)) δ n Q:=by
 unfold cT nJ;exact dj e ⟨_,rfl,rfl,by rw[h];exact q⟩
theorem nZ(e0:δ[i]?=ae (ae (.w (.d (aX ps)))))(e1:δ[j]?=ae (ae (.w (.d (bg hs ns)))))(e2:δ[l]?=ae (ae (.w (.d (.int h)))))(ok:okHs ps hs)(hh:h < ps.length)(k:Q (.d (rN (bA ps hs h))) n):aF iM (aq (ak i) (aq (ak j) (aq (ak l) ao))) δ n Q:=
 bH (au e0 (au e1 (au e2 ⟨ps,hs,ns,h,rfl,ok,hh,k⟩)))
end
theorem JY:bN lV EK ["programs","stand","hand","act","names","tried","place","note"]:=λws n Q h=>by
 obtain⟨ps,hs,ns,h,rfl,⟨okp,okh,okn⟩,hh,k⟩:=h;obtain⟨P,xb,xp,nm,w,as,H⟩:=ig okh hh;unfold bj at k;rw[H.nmq]at k;show EK [ae (.w (.d (aX ps))),ae (.w (.d (bg hs ns))),ae (.w (.d (.int h))),ah,ah,ah,ah,ah] n _;refine aC (bE (λQ q=>nZ rfl rfl rfl okh hh q) ?_);dsimp only[An];cases ea:bA ps hs h with
 |none=>
  rw[ea]at k;exact aC (bz (λQ q=>mj (λQ q=>aE (k:=ai) (λQ q=>ar (au rfl (aD (fi q)))) q) q) (aY (aD k)))
 |some a=>
  rw[ea]at k;have k:Q (.d (gz (a.pf.bind λfs=>aV fs nm ns))) n:=k;have oa:=H.ok okp ea;show av _ _ [ae (.w (.d (aX ps))),ae (.w (.d (bg hs ns))),ae (.w (.d (.int h))),ae (.w (.d a.d)),ah,ah,ah,ah] n _;have g1:∀(s:Str)(r:List Ab),iu (PyData.tuple (.str s::r))=aj:=λ_ _=>rfl;cases ef:a.pf with
  |none=>
   rw[ef]at k;obtain⟨_,s,r,e,h1,_⟩:=sP ef;rw[e];exact aC (bz (λQ q=>g9 (λQ q=>aE (k:=aj) (λQ q=>ar (au rfl (aD (fi q)))) q) (BB rfl h1 q)) (aY (aD k)))
  |some fs=>
   rw[ef]at k;have k:Q (.d (gz (aV fs nm ns))) n:=k;obtain⟨of,s,r,e,h1,_⟩:=rB ef oa;rw[e];refine aC (bf (λQ q=>g9 (λQ q=>aE (k:=aj) (λQ q=>ar (au rfl (aD (fi q)))) q) (BB rfl h1 q)) ?_);dsimp only[aL];refine aC (bE (x:=bZ nm) (λQ q=>ar (ar (ar (au rfl (aD (cg (au rfl (bJ H.hD (aD (dz q)))))))))) ?_);dsimp only[An];refine aC (show pQ 5 _ _ _ from ?_);unfold pQ;dsimp only[An];refine aC ?_;unfold aW k9;refine ar (au rfl (aD (e9 ⟨ns.map dD,.inl rfl,?_⟩)));refine fA (λds δ m=>m=n/\∃(re:List Nt)(j:Nat)(kvs:List (List aG×Ab))(x6 x7:Option SV),ds=gZ j (re.map dD)/\δ=[ae (.w (.d (aX ps))),ae (.w (.d (bg hs ns))),ae (.w (.d (.int h))),ae (.w (.d (.tuple (.str s::cV fs::r)))),ae (.w (.d (bZ nm))),ae (.odt kvs),x6,x7] /\
    (∀q∈re,uC q)/\kvs.length+re.length<=100/\(∀key,gW kvs key=ai->cu fs (key.map DL.vD) nm=aj)/\Q (.d (gz ((aV fs nm re).map (·+j)))) n) (λδ m I=>?_) (λd r' δ m N I kN=>?_) _ _ _ ⟨rfl,ns,0,[],ah,ah,rfl,rfl,okn.2,by have:=okn.1;simpa using this,λkey z=>(by cases z),?_⟩
   ·obtain⟨rfl,re,j,kvs,x6,x7,ed,rfl,_,_,_,kq⟩:=I;have:re=[]:=by
     cases re with
     |nil=>rfl
     |cons q re=>rw[Bs,mz]at ed;cases ed
    subst this;exact(show Q (.d .none) m from kq)
   ·obtain⟨rfl,re,j,kvs,x6,x7,ed,rfl,hre,hl,ht,kq⟩:=I;cases re with
    |nil=>cases ed
    |cons q re=>
     rw[Bs,mz]at ed;obtain⟨rfl,rfl⟩:=Gk ed;rw[Ar]at hl;have oq:=hre q A0;obtain⟨key,ek⟩:=Im oq.1.2;have nxt:∀kvs',kvs'.length<=kvs.length+1->(∀key,gW kvs' key=ai->cu fs (key.map DL.vD) nm=aj)->cu fs q.1 nm=aj->N [ae (.w (.d (aX ps))),ae (.w (.d (bg hs ns))),ae (.w (.d (.int h))),ae (.w (.d (.tuple (.str s::cV fs::r)))),ae (.w (.d (bZ nm))),ae (.odt kvs'),ae (.w (.d (.int j))),ae (.w (.d (dD q)))] m:=λkvs' a1 a2 a3=>by
      refine kN _ _ ⟨rfl,re,j+1,kvs',_,_,by rw[show((j+1:Nat):Int)=(j:Int)+1 from rfl],rfl,λx hx=>hre x (Aw _ hx),by omega,a2,?_⟩;rw[rh,if_neg (by rw[a3];exact Ag),Option.map_map]at kq;have:((λx=>x+j) ∘ λx=>x+1)=λx=>x+(j+1):=funext λx=>by show x+1+j=x+(j+1);omega
      rw[this]at kq;exact kq
     refine⟨rfl,?_⟩;dsimp only[bB,cz,aI,An];refine cZ (show pN 5 _ _ _ _ from dj rfl ⟨key,kvs,by rw[ek];rfl,rfl,?_⟩);show if (!gW kvs key)=ai then _ else _
     cases et:gW kvs key with
     |true=>
      rw[if_neg (by rw[Bool.not_true];exact Ag)];exact nxt kvs ⋯ ht (by rw[ek];exact ht key et)
     |false=>
      rw[if_pos (show(!aj)=ai from rfl)];refine aC (cZ (ar (bH (de rfl (dj rfl (au rfl ⟨fs,q.1,nm,rfl,of,oq.1,H.nms,?_⟩))))));refine aD (fi ?_);show if (!iu (fN fs q.1 nm))=ai then _ else _
      rw[Oh,Bool.not_not];cases eb:cu fs q.1 nm with
      |true=>
       rw[if_pos rfl];rw[rh,if_pos eb,F3,Ek]at kq;exact aY (au rfl kq)
      |false=>
       rw[if_neg Ag];dsimp only[aL];refine aD ⟨kvs,rfl,dj rfl ⟨key,.bool ai,rfl,by rw[ek];rfl,by omega,?_⟩⟩;dsimp only[An];refine nxt _ Jx (λkey' z=>?_) eb;rcases Ql z with rfl|z
       ·rw[<-ek];exact eb
       ·exact ht key' z
   ·have:(λx:Nat=>x+0)=id:=rfl;rw[this,Option.map_id];exact k
theorem rV(h:∀Q:DQ,Q (dX fs row nm) n->w δ n Q)(k:K.nx (δ.set i (ae (.w (dX fs row nm)))) n):aB i w δ n K:=by
 refine h _ ?_
 revert k
 unfold dX
 split<;>exact id
theorem uq(h:∀Q:DQ,Q (gx o) n->w δ n Q)(k:K.nx (δ.set i (ae (.w (gx o)))) n):aB i w δ n K:=by
 refine h _ ?_;cases o<;>exact k
theorem MN(ps)(hs)(ns)(h):(eE ps hs ns h).map (·.1)=bj ps hs ns h:=by
 unfold eE bj;cases bA ps hs h with
 |none=>rfl
 |some a=>
  show((a.pf.bind _).map _)=a.pf.bind _;cases a.pf with
  |none=>rfl
  |some fs=>
   show((aV fs (jc hs h) ns).map _).map _=aV fs (jc hs h) ns;rw[Option.map_map];exact Option.map_id'
theorem QW:bN pT BV ["_law_programs","_law_stand_here","_law_hand","_law_act_here","_law_place","_law_has"]:=λws n Q h=>by
 obtain⟨ps,hs,ns,h,rfl,⟨okp,okh,okn⟩,hh,k⟩:=h;obtain⟨P,xb,xp,nm,w,as,H⟩:=ig okh hh;unfold eE at k;rw[H.nmq]at k;show BV [ae (.w (.d (aX ps))),ae (.w (.d (bg hs ns))),ae (.w (.d (.int h))),ah,ah,ah] n _;refine aC (bE (λQ q=>nZ rfl rfl rfl okh hh q) ?_);dsimp only[An];cases ea:bA ps hs h with
 |none=>
  rw[ea]at k;exact aC (bz (λQ q=>mj (λQ q=>aE (k:=ai) (λQ q=>ar (au rfl (aD (jf q)))) q) q) (aY (aD k)))
 |some a=>
  rw[ea]at k;have k:Q (gx (a.pf.bind λfs=>(aV fs nm ns).map λi=>(i,c8 fs (bP ns i) nm))) n:=k;have oa:=H.ok okp ea;show av _ _ [ae (.w (.d (aX ps))),ae (.w (.d (bg hs ns))),ae (.w (.d (.int h))),ae (.w (.d a.d)),ah,ah] n _;cases ef:a.pf with
  |none=>
   rw[ef]at k;obtain⟨_,s,r,e,h1,_⟩:=sP ef;rw[e];exact aC (bz (λQ q=>g9 (λQ q=>aE (k:=aj) (λQ q=>ar (au rfl (aD (jf q)))) q) (DZ rfl h1 q)) (aY (aD k)))
  |some fs=>
   rw[ef]at k;have k:Q (gx ((aV fs nm ns).map λi=>(i,c8 fs (bP ns i) nm))) n:=k;obtain⟨of,s,r,e,h1,_⟩:=rB ef oa;rw[e];refine aC (bf (λQ q=>g9 (λQ q=>aE (k:=aj) (λQ q=>ar (au rfl (aD (jf q)))) q) (DZ rfl h1 q)) ?_);dsimp only[aL];refine aC ?_;unfold aW dC;refine aR (ar (au rfl (aD (e9 ?_))));refine Am ⟨by omega,by rw[Ad];have:=okn.1;omega⟩ ?_;rw[Bq,Ad];refine fA (λds δ m=>m=n/\∃(dn re:List Nt)(x6 x7:Option SV),ds=bM (dn.length:Nat) re.length/\dn++re=ns/\δ=[ae (.w (.d (aX ps))),ae (.w (.d (bg hs ns))),ae (.w (.d (.int h))),ae (.w (.d (.tuple (.str s::cV fs::r)))),x6,x7] /\
    Q (gx ((aV fs nm re).map λi=>(i+dn.length,c8 fs (bP ns (i+dn.length)) nm))) n) (λδ m I=>?_) (λd r' δ m N I kN=>?_) _ _ _ ⟨rfl,[],ns,ah,ah,rfl,rfl,rfl,?_⟩
   ·obtain⟨rfl,dn,re,x6,x7,ed,en,rfl,kq⟩:=I;have:re=[]:=by
     cases re with
     |nil=>rfl
     |cons q re=>rw[Ar,GC]at ed;cases ed
    subst this;exact(show Q (.d .none) m from kq)
   ·obtain⟨rfl,dn,re,x6,x7,ed,en,rfl,kq⟩:=I;cases re with
    |nil=>cases ed
    |cons q re=>
     rw[Ar,GC]at ed;obtain⟨rfl,rfl⟩:=Gk ed;have hq:ns[dn.length]?=ae q:=by rw[<-en];simp
     have oq:=okn.2 q (A8 hq);have hq':(ns.map dD)[dn.length]?=ae (.tuple [.tuple q.1,q.2]):=by rw[Ax,hq];rfl
     dsimp only[aI,An];refine aC (rV (fs:=fs) (row:=q.1) (nm:=nm) (λQ q'=>?_) ?_)
     ·refine bH (de rfl ?_);refine ar (ar (ar (au rfl (aD (e9 (au rfl (bJ hq' (aD (cg ?_)))))))));refine ar (ar (ar (au rfl (aD (cg (au rfl (bJ H.hD (aD (dz ?_)))))))));exact⟨fs,q.1,nm,rfl,of,oq.1,H.nms,q'⟩
     dsimp only[An];cases eb:cu fs q.1 nm with
     |true=>
      rw[rh,if_pos eb,F3,Ek,show bP ns dn.length=q.1 by unfold bP;rw[hq];rfl]at kq;rw[show dX fs q.1 nm=.ob (.k (bb (c8 fs q.1 nm))) by unfold dX;rw[if_pos eb]];refine bz (λQ q=>aE (k:=ai) (λQ q=>ar (au rfl (aD (rR q)))) q) (aY (show vp _ _ _ _ _ from au rfl (au rfl ⟨_,_,rfl,rfl,kq⟩)))
     |false=>
      rw[show dX fs q.1 nm=.d .none by unfold dX;rw[if_neg (by rw[eb];exact Ag)]];refine bf (λQ q=>aE (k:=aj) (λQ q=>ar (au rfl (aD (jf q)))) q) (kN _ _ ⟨rfl,dn++[q],re,_,_,?_,by rw[Bj];exact en,rfl,?_⟩)
      ·rw[Ak,Ap];rw[show((dn.length+1:Nat):Int)=(dn.length:Int)+1 from rfl]
      ·rw[rh,if_neg (by rw[eb];exact Ag),Option.map_map]at kq;have:((λi=>(i+dn.length,c8 fs (bP ns (i+dn.length)) nm)) ∘ λx=>x+1)=λi=>(i+(dn++[q]).length,c8 fs (bP ns (i+(dn++[q]).length)) nm):=funext λx=>by
        show(x+1+dn.length,c8 fs (bP ns (x+1+dn.length)) nm)=_;have e:x+1+dn.length=x+(dn++[q]).length:=by rw[Ak,Ap];omega
        rw[e]
       rw[this]at kq;exact kq
   ·exact k
theorem ui(e:bA ps hs h=ae a):cK ps hs ns h=(!a.wt || (bj ps hs ns h).isSome):=by unfold cK;rw[e];rfl
theorem Km(oa:lN a):∃s r,a.d=.tuple (.str s::r)/\bI (.str s) [.str "take",.str "read"]=a.wt:=by
 cases ef:a.pf with
 |none=>
  obtain⟨hw,s,r,e,_,h2⟩:=sP ef;exact⟨s,r,e,by rw[h2,hw]⟩
 |some fs=>
  obtain⟨_,s,r,e,_,h2⟩:=rB ef oa;exact⟨s,_,e,h2⟩
theorem Me:bN mw Ii ["_law_programs","_law_stand_here","_law_hand","_law_act_here"]:=λws n Q h=>by
 obtain⟨ps,hs,ns,h,rfl,ok,hh,k⟩:=h;obtain⟨P,xb,xp,nm,w,as,H⟩:=ig ok.2.1 hh;show Ii [ae (.w (.d (aX ps))),ae (.w (.d (bg hs ns))),ae (.w (.d (.int h))),ah] n _;refine aC (bE (λQ q=>nZ rfl rfl rfl ok.2.1 hh q) ?_);dsimp only[An];cases ea:bA ps hs h with
 |none=>
  unfold cK at k;rw[ea]at k;exact aC (bz (λQ q=>aE (k:=ai) (λQ q=>ar (au rfl (aD (jf q)))) q) (aY (aD k)))
 |some a=>
  rw[ui ea]at k;obtain⟨s,r,e,h2⟩:=Km (H.ok ok.1 ea);show av _ _ [ae (.w (.d (aX ps))),ae (.w (.d (bg hs ns))),ae (.w (.d (.int h))),ae (.w (.d a.d))] n _;rw[e];refine aC (bf (λQ q=>aE (k:=aj) (λQ q=>ar (au rfl (aD (jf q)))) q) ?_);dsimp only[aL];refine aY (show rj _ _ _ _ _ from MC rfl h2 ?_);rw[CU];cases hw:a.wt with
  |false=>rw[hw]at k;exact k
  |true=>
   rw[hw]at k;rw[if_neg ∎];refine ar (bH (au rfl (au rfl (au rfl ⟨ps,hs,ns,h,rfl,ok,hh,aD ?_⟩))));rw[<-MN]at k;cases eg:eE ps hs ns h with
   |none=>rw[eg]at k;exact jf k
   |some i=>rw[eg]at k;exact rR k
theorem QC(ok:b6 ps hs ns)(k:Q (fR ps hs ns) n):cM (aI 0) (cT (aF mw (aq ↥1 (aq ↥2 (aq ↥0 ao))))) ↥0 Q (bM 0 ps.length) [] [ah,ae (.w (.d (aX ps))),ae (.w (.d (bg hs ns)))] n:=by
 have e:bM 0 ps.length=(Bi ps.length).map λh=>.int (h:Nat):=by
  unfold bM;exact C4 λi _=>by rw[Int.zero_add]
 rw[e];refine j7 (λh:Nat=>E6 (h:Nat)) (λh:Nat=>E6 (h:Nat)) (cK ps hs ns) _ [] ah n (λh hh n Q' q=>?_) (λh hh n Q' q=>au rfl q) (by rw[B8];exact k);exact bH (au rfl (au rfl (au rfl ⟨ps,hs,ns,h,rfl,ok,Ci.mp hh,q⟩)))
section
variable{δ:Sl}{n:Int}{Q:DQ}{w u:DT}{ds i j:List Ab}
theorem HE(xs:List Ab)(hp:p<=xs.length):du xs (ae (p:Int)) ah=xs.drop p:=by
 unfold du;rw[HT.sIx_nat,HT.sIx_none,Nat.min_eq_left hp];exact List.take_of_length_le (by rw[Cy];exact Ao _)
theorem lT(k:w δ n λx n1=>match iL [x]with
  |some ds=>ds.length<=1000/\Q (.d (.tuple ds)) n1
  |none=>False):aw (aq w ao) δ n Q:=k
theorem qm{p:Nat}(hw:∀Q:DQ,Q (.d (.tuple ds)) n->w δ n Q)(hu:∀Q:DQ,Q (.d (.int p)) n->u δ n Q)(hp:p<=ds.length)(k:Q (.d (.tuple (ds.take p))) n):eO w cR (cP u) δ n Q:=by
 unfold eO;refine hw _ ?_;dsimp only[cR,cP];refine hu _ ?_;dsimp only;rw[vt _ hp];exact k
theorem pK{p:Nat}(hw:∀Q:DQ,Q (.d (.tuple ds)) n->w δ n Q)(hu:∀Q:DQ,Q (.d (.int p)) n->u δ n Q)(hp:p<=ds.length)(k:Q (.d (.tuple (ds.drop p))) n):eO w (cP u) cR δ n Q:=by
 unfold eO;refine hw _ ?_;dsimp only[cR,cP];refine hu _ ?_;dsimp only;rw[HE _ hp];exact k
theorem jC(h:i.length+j.length<=1000000)(k:Q (.d (.tuple (i++j))) n):eR (.d (.tuple i)) (.d (.tuple j)) n Q:=by
 cases i with
 |nil=>exact k
 |cons a r=>exact⟨.inl (λz=>nomatch z),A9 h ∎,k⟩
end
theorem IL:bN uF Pt ["thing"]:=λws n Q h=>by
 obtain⟨b,rfl,k⟩:=h;cases b<;>exact k
theorem Mo(h1:∀Q:DQ,Q (.d (.int a)) n->u δ n Q)(h2:∀Q:DQ,Q (.d (.int x)) n->v δ n Q)(h3:∀Q:DQ,Q (.d (.int b)) n->w δ n Q)(k:Q (.d (.bool (decide (a<=x)&&decide (x<=b)))) n):nU jG jG u v w δ n Q:=by
 by_cases e:a<=x
 ·refine QA h1 h2 h3 e ?_;rw[decide_eq_true e,Bool.true_and]at k;exact k
 ·rw[decide_eq_false e,Bool.false_and]at k;refine h1 _ (h2 _ ?_);show gP (.d (.bool (decide (a<=x)))) (w δ n λu n4=>jG (.d (.int x)) u n4 Q) (Q (.d (.bool aj)) n);rw[decide_eq_false e];exact k
theorem S4:bN vX FQ ["thing","most"]:=λws n Q h=>by
 obtain⟨b,m,rfl,k⟩:=h;show FQ [ae (.w (.d b)),ae (.w (.d (.int m)))] n _;cases b with
 |int i=>exact aY (S7 (λQ q=>cq (au rfl ⟨_,rfl,q⟩)) (Mo (λQ q=>aD q) (λQ q=>au rfl q) (λQ q=>au rfl q) k))
 |_=>exact aY (cq (au rfl ⟨_,rfl,k⟩))
theorem Lv:bN uI Ir ["value"]:=λws n Q h=>by
 obtain⟨v,rfl,hv,k⟩:=h;show Ir [ae (.w (.d v))] n {nx:=λ_ n=>Q (.d .none) n,rt:=Q};cases v with
 |str x=>exact k
 |int i=>
  have k:Q (.d (if i=99 then E6 0 else E6 (i+1))) n:=k;show if decide (i=99)=ai then Q (.d (.int 0)) n else Q (.d (.int (i+1))) n
  refine FY (λe=>?_) λe=>?_
  ·rw[if_pos e]at k;exact k
  ·rw[if_neg e]at k;exact k
 |_=>cases hv
theorem L9:bN oM BZ ["field","having","value"]:=λws n Q h=>by
 obtain⟨f,nm,rfl,⟨_,tm,us⟩,k⟩:=h;show BZ [ae (.w (.d f.d)),ae (.w (.dk (bb nm))),ah] n {nx:=λ_ n=>Q (.d .none) n,rt:=Q};cases f with
 |isv d=>exact k
 |as x=>
  obtain⟨v,e,hv⟩:=us x rfl;have k:Q (.d ((look nm x).getD .none)) n:=k;rw[e]at k;refine aC (jJ (h:="is") (a:=.str "as") rfl ∅ ?_);dsimp only[aL];refine aC ?_;show(match bW (bb nm) (.inr x)with|some d=>_|none=>False);rw[jS,e];exact k
 |nx x=>
  obtain⟨v,e,hv⟩:=us x rfl;have k:Q (.d (jU ((look nm x).getD .none))) n:=k;rw[e]at k;refine aC (jJ (h:="is") (a:=.str "next") rfl ∅ ?_);dsimp only[aL];refine aC ?_;show(match bW (bb nm) (.inr x)with|some d=>_|none=>False);rw[jS,e];exact⟨v,rfl,hv,k⟩
 |_=>cases tm
theorem Ra(q:Q ai n):cQ δ n Q:=q
theorem qJ{α:Type}{rest:Sl}(f g)(xs:List α)(x)(n)(h:∀a∈xs,∀(n:Int) (Q':DQ),Q' (.d (g a)) n->w (ae (.w (.d (f a)))::rest) n Q')(q:Q (xs.map g) n):cM (aI 0) cQ w Q (xs.map f) [] (x::rest) n:=by
 refine j7 f g (λ_=>ai) xs [] x n (λa _ n Q' q=>Ra q) h ?_;rw[B8,List.filter_eq_self.mpr λ_ _=>rfl];exact q
theorem pX(k:Q (.d (.tuple ds)) n):dM [.d (.list ds)] n Q:=k
theorem N0:bN rO xj ["template","names","having"]:=λws n Q h=>by
 obtain⟨fs,nm,rfl,hl,ok,okn,k⟩:=h;show xj [ae (.w (.d (dI fs))),ae (.w (.d (bZ nm))),ah] n {nx:=λ_ n=>Q (.d .none) n,rt:=Q};refine aC (nz rfl okn ?_);dsimp only[An];refine aY (aR (a9 (i9 (ds:=fs.map Fe.d) (λQ q=>au rfl q) ?_)));show cM _ _ _ _ _ _ [ah,ae (.w (.dk (bb nm)))] n;exact qJ Fe.d (dN nm) fs ah n (λf hf n Q' q=>bV (au rfl (show dq 1 _ _ _ from⟨f,nm,rfl,ok f hf,q⟩))) (pX k)
theorem Qo:bN mL BN ["place","names"]:=λws n Q h=>by
 obtain⟨x,nm,rfl,k⟩:=h;show BN [ae (.w (.d (bG x))),ae (.w (.d (bZ nm)))] n _;exact aY (gK (dj rfl (ar (de rfl (aD (dP (au rfl (Am (show 3<=1000 by decide) k))))))))
theorem NO:bN pB yC ["program","block","names","wanted"]:=λws n Q h=>by
 obtain⟨P,b,nm,⟨w,as⟩,rfl,hb,hw,k⟩:=h;have hbD:(P.map fE)[b]?=ae (.tuple [dy w,.tuple (as.map Ac.d)]):=by rw[Ax,hb];rfl
 have ew:lD P b=w:=by unfold lD;rw[hb];rfl
 unfold bK at k;rw[ew]at k;show yC [ae (.w (.d (eB P))),ae (.w (.d (.int b))),ae (.w (.d (bZ nm))),ah] n _;refine aC (bE (x:=dy w) (λQ q=>ar (ar (au rfl (au rfl (bJ hbD (aD (cg q))))))) ?_);dsimp only[An];refine aY (gK (au rfl (aD (aR (a9 (i9 (ds:=nm.map iW) (λQ q=>au rfl q) ?_))))));show cM _ _ _ _ _ _ [ah,ae (.w (.d (dy w)))] n;refine j7 iW iW (λp=>decide (p.1∈w)) nm [] ah n (λp _ n Q' q=>aE (k:=decide (p.1∈w)) (λQ q=>ar (dj rfl (au rfl ⟨rfl,qE w,?_⟩))) q) (λp _ n Q' q=>au rfl q) ?_
 ·show Q (.d (.bool (bI (.str p.1) (w.map .str)))) n;rw[my];exact q
 ·exact Am (show 3<=1000 by decide) k
theorem P1:bN jy FA ["hands","hand","place"]:=λws n Q h=>by
 obtain⟨hs,h,x,rfl,hh,hl,k⟩:=h;show FA [ae (.w (.d (.tuple (hs.map bG)))),ae (.w (.d (.int h))),ae (.w (.d (bG x)))] n _;have hd:(aU hs h x).map bG=((hs.map bG).take h++[bG x])++(hs.map bG).drop (h+1):=by
  unfold aU;rw[Be,Bs,List.map_take,List.map_drop,Bj];rfl
 rw[hd]at k;have l1:((hs.map bG).take h).length<=5:=A9 (G1 _ _) (by rw[Ad];exact hl);have l2:((hs.map bG).drop (h+1)).length<=5:=by rw[Cy,Ad];omega
 refine aY (ar (ar (qm (p:=h) (λQ q=>au rfl q) (λQ q=>au rfl q) (by rw[Ad];omega) (lT (au rfl (Am (show 1<=1000 by decide) (jC (by rw[Ap];omega) ?_)))))));exact pK (p:=h+1) (λQ q=>au rfl q) (λQ q=>ar (au rfl (aD (dP q)))) (by rw[Ad];omega) (jC (by rw[Ak,Ap];omega) k)
theorem JV:bN vG HV ["note"]:=λws n Q h=>by
 obtain⟨⟨row,a⟩,rfl,ha,k⟩:=h;show HV [ae (.w (.d (dD (row,a))))] n _;rcases ha with rfl|⟨i,rfl,_⟩
 ·exact aY (gE (b:=ai) (λQ q=>aE (k:=ai) (λQ q=>ar (de rfl (aD (fi q)))) q) (by rw[if_pos rfl];exact au rfl k))
 ·exact aY (gE (b:=aj) (λQ q=>aE (k:=aj) (λQ q=>ar (de rfl (aD (fi q)))) q) (by rw[if_neg Ag];exact cy (dj rfl (ar (de rfl (aD (Am (show 2<=1000 by decide) k)))))))
theorem FJ(ha:hU a)(k:Q (.d (.bool (!cX a))) n):eu (.d a) (.d (.int 1)) n Q:=by
 rcases ha with rfl|⟨i,rfl,_⟩<;>exact k
theorem Um:bN sC IB ["stand"]:=λws n Q h=>by
 obtain⟨hs,ns,rfl,ha,k⟩:=h;show IB [ae (.w (.d (bg hs ns)))] n _;refine aY (cy (dj rfl (aR (a9 (i9 (ds:=ns.map dD) (λQ q=>de rfl q) ?_)))));show cM _ _ _ _ _ _ [ah] n;refine j7 dD (λq=>dD (q.1,iZ q.2)) (λq=>!cX q.2) ns [] ah n (λq hq n Q' k'=>aE (λQ q'=>ar (de rfl (aD (FJ (ha q hq) q')))) k') (λq hq n Q' k'=>cq (au rfl ⟨q,rfl,ha q hq,k'⟩)) ?_;refine Am (show 2<=1000 by decide) ?_;unfold bg cE dw at k;rw[Dg]at k;exact k
theorem JW:∀j:Fin 100,cb (.int ((j.val:Nat):Int))=ai:=by decide +kernel
theorem mX(h0:0<=i)(h1:i<=99):cb (.int i)=ai:=by
 have:=JW ⟨i.toNat,by omega⟩;rw[show((i.toNat:Nat):Int)=i by omega]at this;exact this
theorem BL(h:cb (.int i)=ai):0<=i/\i<=99:=by
 simp only[cb,Du,decide_eq_true_eq]at h;exact⟨h.1,h.2.1⟩
theorem tS(h:cb v=ai):cb (jU v)=ai:=by
 cases v with
 |str x=>exact h
 |int i=>
  obtain⟨h0,h1⟩:=BL h;show cb (if i=99 then .int 0 else .int (i+1))=ai
  split
  ·exact mX ∎ ∎
  ·exact mX ⋯ ⋯
 |_=>cases h
theorem iQ(h:eL nm f):cb (dN nm f)=ai:=by
 obtain⟨ok,tm,us⟩:=h;cases f with
 |isv d=>exact ok
 |as k=>obtain⟨v,e,hv⟩:=us k rfl;show cb ((look nm k).getD .none)=ai;rw[e];exact hv
 |nx k=>obtain⟨v,e,hv⟩:=us k rfl;show cb (jU ((look nm k).getD .none))=ai;rw[e];exact tS hv
 |_=>cases tm
theorem Q8(ha:cb a=ai)(hb:cb b=ai)(k:Q (.d (.bool (fe a b))) n):aT (.d a) (.d b) n Q:=by
 unfold aT;simp only[mE ha hb];exact k
theorem KG:bN vM yT ["act","names","having"]:=λws n Q h=>by
 obtain⟨f,g,b,nm,rfl,hf,hg,_,_,okn,k⟩:=h;show yT [ae (.w (.d (.tuple [.str "same",f.d,g.d,.int b]))),ae (.w (.d (bZ nm))),ah] n _;refine aC (nz rfl okn ?_);dsimp only[An];exact aY (ar (bV (de rfl (show dq 2 _ _ _ from⟨f,nm,rfl,hf,bV (ar (au rfl (aD (dz (show dq 2 _ _ _ from⟨g,nm,rfl,hg,Q8 (iQ hf) (iQ hg) k⟩)))))⟩))))
theorem rJ(h:aV fs nm ns=ae i):∃q,ns[i]?=ae q/\cu fs q.1 nm=ai:=by
 unfold aV at h;rw[Gf]at h;obtain⟨hl,h1,_⟩:=h;exact⟨ns[i],Al hl,h1⟩
theorem NQ(h:cu fs row nm=ai):fN fs row nm=bZ (cw (c8 fs row nm)):=by unfold fN;rw[if_pos h]
theorem km(H:HandAt ps hs h P xb xp nm w as)(e:bA ps hs h=ae a):eG ps hs ns h=(nG P (xb,xp,nm) ns a).map λr=>(aU hs h r.1,r.2):=by
 unfold eG;rw[H.prog,H.hand,e];rfl
theorem gU(e:aV (fs.map Fe.fd) x.2.2 ns=ah):bx fs x ns=ah:=by unfold bx;rw[e];rfl
theorem gN(e:aV (fs.map Fe.fd) x.2.2 ns=ae i):bx fs x ns=ae (i,b8 x (cw (c8 (fs.map Fe.fd) (bP ns i) x.2.2))):=by unfold bx;rw[e];rfl
theorem vR(k:Q (.d (.bool (!bq h (.str s)))) n):eu (.d (.str s)) (.d (.str h)) n Q:=k
theorem GV(ns:List Nt)(i):(cf ns i).map dD=(ns.map dD).take i++(ns.map dD).drop (i+1):=by unfold cf;rw[Be,List.map_take,List.map_drop]
section
variable{ps:Pg}{hs:List Hn}{ns:List Nt}{h:Nat}{P:List Bl}{xb xp:Nat}{nm:Nm}{w:List Str}{as:List Ac}{n:Int}{Q:DQ}
theorem va(e1:δ[i1]?=ae (ae (.w (.d (bg hs ns)))))(e2:δ[i2]?=ae (ae (.w (.d (.int h)))))(e5:δ[i5]?=ae (ae (.w (.d (cE ns')))))(hx:∀Q:DQ,Q (.d (bG x)) n->w2' δ n Q)(hh:h < hs.length)(hl:hs.length<=5)(k:Q (.d (bg (aU hs h x) ns')) n):
  aw (aq (aF jy (aq (w2 (ak i1) ⇑0 az) (aq (ak i2) (aq w2' ao)))) (aq (ak i5) ao)) δ n Q:=
 cy (bH (dj e1 (au e2 (hx _ ⟨hs,h,x,rfl,hh,hl,au e5 (Am (show 2<=1000 by decide) k)⟩))))
theorem uA(H:HandAt ps hs h P xb xp nm w as)(okp:bQ ps)(okh:okHs ps hs)(okn:bX 100 ns)(hh:h < ps.length)(ea:bA ps hs h=ae a)(ed:a.d=.tuple (.str s::dI gs::r))(hpf:a.pf=ae (gs.map Fe.fd))(hof:dR gs)(hpat:gp gs)
  (kN:aV (gs.map Fe.fd) nm ns=ah->av (aJ (cT (w2 (w2 ↥3 ⇑0 az) (wC (.str "look")) eu)) (aA (wC .none)) aL) (aA (aw (aq (aF jy (aq (w2 ↥1 ⇑0 az) (aq ↥2 (aq (aF pB (aq (w2 ↥0 ↥2 az) (aq (w2 ↥3 ⇑2 az) (aq (w2 ↥4 ⇑2 az) ao)))) ao)))) (aq ↥5 ao))))
   [ae (.w (.d (aX ps))),ae (.w (.d (bg hs ns))),ae (.w (.d (.int h))),ae (.w (.d (.tuple (.str s::dI gs::r)))),ae (.w (.d (bG (xb,xp,nm)))),ae (.w (.d (cE ns))),ae (.w (.d .none)),ah] n {nx:=λ_ _=>True,rt:=Q})
  (kS:∀i ns',aV (gs.map Fe.fd) nm ns=ae i->ns'=(if bq "take" (.str s)=ai then cf ns i else ns)->Q (.d (bg (aU hs h (b8 (xb,xp,nm) (cw (c8 (gs.map Fe.fd) (bP ns i) nm)))) ns')) n):
  rT [ae (.w (.d (aX ps))),ae (.w (.d (bg hs ns))),ae (.w (.d (.int h))),ae (.w (.d a.d)),ah,ah,ah,ah] n {nx:=λ_ n=>Q (.d .none) n,rt:=Q}:=by
 rw[ed];obtain⟨ep,op⟩:=mH hof hpat;have hlt:h < hs.length:=by rw[okh.1];exact hh
 have hl5:hs.length<=5:=by rw[okh.1];exact okp.1
 refine aC (bE (x:=bG (xb,xp,nm)) (λQ q=>ar (ar (au rfl (aD (cg (au rfl (bJ H.hD q))))))) ?_);dsimp only[An];refine aC (bE (x:=cE ns) (λQ q=>de rfl q) ?_);dsimp only[An];have eg:bj ps hs ns h=aV (gs.map Fe.fd) nm ns:=by
  unfold bj;rw[ea,H.nmq];show(a.pf.bind _)=_;rw[hpf];rfl
 refine aC (bE (x:=gz (aV (gs.map Fe.fd) nm ns)) (λQ q=>bH (au rfl (au rfl (au rfl ⟨ps,hs,ns,h,rfl,⟨okp,okh,okn⟩,hh,by rw[eg];exact q⟩)))) ?_);dsimp only[An];cases eq:aV (gs.map Fe.fd) nm ns with
 |none=>exact aC (bz (λQ q=>aE (k:=ai) (λQ q=>ar (au rfl (aD (fi q)))) q) (kN eq))
 |some i=>
  obtain⟨⟨row,age⟩,hq,hf⟩:=rJ eq;have hi:i < ns.length:=(Av.mp hq).1;have hq':(ns.map dD)[i]?=ae (.tuple [.tuple row,age]):=by rw[Ax,hq];rfl
  have er:bP ns i=row:=by unfold bP;rw[hq];rfl
  have oq:=okn.2 _ (A8 hq);refine aC (bf (λQ q=>aE (k:=aj) (λQ q=>ar (au rfl (aD (fi q)))) q) ?_);dsimp only[aL];refine aC (bE (x:=bZ (cw (c8 (gs.map Fe.fd) (bP ns i) nm))) (λQ q=>?_) ?_)
  ·refine bH (de rfl (ar (ar (au rfl (au rfl (bJ hq' (aD (cg ?_))))))));refine ar (au rfl (aD (dz ⟨gs.map Fe.fd,row,nm,by rw[ep],op,oq.1,H.nms,?_⟩)));rw[NQ hf];rw[er]at q;exact q
  dsimp only[An];have fin:∀ns',ns'=(if bq "take" (.str s)=ai then cf ns i else ns)->aA (aw (aq (aF jy (aq (w2 ↥1 ⇑0 az) (aq ↥2 (aq (aF mL (aq ↥4 (aq ↥7 ao))) ao)))) (aq ↥5 ao)))
    [ae (.w (.d (aX ps))),ae (.w (.d (bg hs ns))),ae (.w (.d (.int h))),ae (.w (.d (.tuple (.str s::dI gs::r)))),ae (.w (.d (bG (xb,xp,nm)))),ae (.w (.d (cE ns'))),ae (.w (.d (.int i))),ae (.w (.d (bZ (cw (c8 (gs.map Fe.fd) (bP ns i) nm)))))] n {nx:=λ_ n=>Q (.d .none) n,rt:=Q}:=λns' e'=>
   aY (va (x:=b8 (xb,xp,nm) (cw (c8 (gs.map Fe.fd) (bP ns i) nm))) rfl rfl rfl (λQ q=>bV (au rfl (au rfl ⟨(xb,xp,nm),_,rfl,q⟩))) hlt hl5 (kS i ns' eq e'))
  refine aC (sX rfl (λz=>?_) λz=>?_)
  ·refine bE (x:=cE (cf ns i)) (λQ q=>ar (qm (p:=i) (λQ q=>au rfl q) (λQ q=>au rfl q) (by rw[Ad];omega) (pK (p:=i+1) (λQ q=>au rfl q) (λQ q=>ar (au rfl (aD (dP q)))) (by rw[Ad];omega) (jC ?_ ?_)))) ?_
   ·have:=okn.1;rw[Dc,Cy,Ad];omega
   ·unfold cE at q;rw[GV]at q;exact q
   ·dsimp only[An];exact fin (cf ns i) (by rw[if_pos z])
  ·dsimp only[aL];exact fin ns (by rw[if_neg (by rw[z];exact Ag)])
end
theorem PL:bN nY rT ["programs","stand","hand","act","place","notes","number","names"]:=λws n Q h=>by
 obtain⟨ps,hs,ns,h,a,rfl,⟨okp,okh,okn⟩,hh,ea,hp,k⟩:=h;obtain⟨P,xb,xp,nm,w,as,H⟩:=ig okh hh;have oa:=H.ok okp ea;rw[km H ea]at k;have hlt:h < hs.length:=by rw[okh.1];exact hh
 have hl5:hs.length<=5:=by rw[okh.1];exact okp.1
 show rT [ae (.w (.d (aX ps))),ae (.w (.d (bg hs ns))),ae (.w (.d (.int h))),ae (.w (.d a.d)),ah,ah,ah,ah] n _;cases a with
 |lay fs age=>cases hp
 |same f g b=>cases hp
 |go b=>cases hp
 |take gs=>
  refine uA (s:="take") (gs:=gs) (r:=[]) H okp okh okn hh ea rfl rfl oa.1 oa.2 (λe=>?_) λi ns' e e'=>?_
  ·have k:Q (.d (gF (((bx gs (xb,xp,nm) ns).map λq=>(q.2,cf ns q.1)).map λr=>(aU hs h r.1,r.2)))) n:=k;rw[gU e]at k;exact aC (bz (λQ q=>aE (k:=ai) (λQ q=>ar (dj rfl (aD (vR (by rw[show bq "look" (.str "take")=aj by decide +kernel];exact q))))) q) (aY (aD k)))
  ·rw[if_pos ∅]at e';rw[e'];have k:Q (.d (gF (((bx gs (xb,xp,nm) ns).map λq=>(q.2,cf ns q.1)).map λr=>(aU hs h r.1,r.2)))) n:=k;rw[gN e]at k;exact k
 |read gs=>
  refine uA (s:="read") (gs:=gs) (r:=[]) H okp okh okn hh ea rfl rfl oa.1 oa.2 (λe=>?_) λi ns' e e'=>?_
  ·have k:Q (.d (gF (((bx gs (xb,xp,nm) ns).map λq=>(q.2,ns)).map λr=>(aU hs h r.1,r.2)))) n:=k;rw[gU e]at k;exact aC (bz (λQ q=>aE (k:=ai) (λQ q=>ar (dj rfl (aD (vR (by rw[show bq "look" (.str "read")=aj by decide +kernel];exact q))))) q) (aY (aD k)))
  ·rw[if_neg ∅]at e';rw[e'];have k:Q (.d (gF (((bx gs (xb,xp,nm) ns).map λq=>(q.2,ns)).map λr=>(aU hs h r.1,r.2)))) n:=k;rw[gN e]at k;exact k
 |look gs b=>
  refine uA (s:="look") (gs:=gs) (r:=[.int b]) H okp okh okn hh ea rfl rfl oa.1 oa.2 (λe=>?_) λi ns' e e'=>?_
  ·have k:Q (.d (gF ((match bx gs (xb,xp,nm) ns with|some q=>ae (q.2,ns)|none=>ae (bK P b nm,ns):Option (Hn×List Nt)).map λr=>(aU hs h r.1,r.2)))) n:=k;rw[gU e]at k;have hr:=(okp.2 P (A8 H.prog)).2.2 (w,as) (A8 H.blk);rw[H.act]at ea;obtain⟨wb,hwb,_⟩:=(hr.2 xp _ ea).2 b rfl;rw[Ax]at hwb;obtain⟨bl,hbl,_⟩:=Option.map_eq_some_iff.mp hwb;have obl:=((okp.2 P (A8 H.prog)).2.2 bl (A8 hbl)).1;refine aC (bf (λQ q=>aE (k:=aj) (λQ q=>ar (dj rfl (aD (vR (by rw[show bq "look" (.str "look")=ai by decide +kernel];exact q))))) q) ?_);dsimp only[aL];refine aY (va (x:=bK P b nm) rfl rfl rfl (λQ q=>?_) hlt hl5 k);refine bH (ar (au rfl (au rfl (bJ H.pD ?_))));refine ar (au rfl (aD (dz ?_)));exact ar (au rfl (aD (dz ⟨P,b,nm,bl,rfl,hbl,obl.1,q⟩)))
  ·rw[if_neg ∅]at e';rw[e'];have k:Q (.d (gF ((match bx gs (xb,xp,nm) ns with|some q=>ae (q.2,ns)|none=>ae (bK P b nm,ns):Option (Hn×List Nt)).map λr=>(aU hs h r.1,r.2)))) n:=k;rw[gN e]at k;exact k
theorem eC(k:w δ n λx n1=>w' δ n1 λy n2=>w'' δ n2 λz n3=>v δ n3 λu n4=>S [x,y,z,u] n4 Q):aF S (aq w (aq w' (aq w'' (aq v ao)))) δ n Q:=k
theorem yt(h:k∈nm.map (·.1)):∃v,look nm k=ae v:=by
 obtain⟨p,hp,e⟩:=Bo.mp h;have:(nm.any λp=>decide (p.1=k))=ai:=Ea.mpr ⟨p,hp,decide_eq_true e⟩;rw[pS]at this;exact Ei.mp this
theorem Pb{f:Fe}(h:f.tm=ai):f.bd=ah:=by cases f<;>first|rfl|cases h
theorem qR{f:Fe}(h:f.te=ai):f.tm=ai:=by cases f<;>first|rfl|cases h
theorem ux:∀{fs:List Fe}{ks:List Str},rF ks fs->(∀f∈fs,f.tm=ai)->∀f∈fs,∀k,f.us=ae k->k∈ks
 |[],_,_,_,f,hf,_,_=>by simp at hf
 |g::r,ks,h,ht,f,hf,k,hk=>by
  rcases Au.mp hf with rfl|hf
  ·exact h.1 k hk
  ·have h2:=h.2;rw[Pb (ht g A0)]at h2;have:=ux h2 (λx hx=>ht x (Aw _ hx)) f hf k hk;simpa using this
section
variable{ps:Pg}{hs:List Hn}{ns:List Nt}{h:Nat}{P:List Bl}{xb xp:Nat}{nm:Nm}{w:List Str}{as:List Ac}{n:Int}{Q:DQ}
theorem HandAt.okb(H:HandAt ps hs h P xb xp nm w as)(okp:bQ ps):lA (w,as)/\ky (P.map (·.1)) (w,as):=(okp.2 P (A8 H.prog)).2.2 (w,as) (A8 H.blk)
theorem HandAt.right(H:HandAt ps hs h P xb xp nm w as)(okp:bQ ps)(e:bA ps hs h=ae a):a.right (P.map (·.1)) (kn w as xp):=by
 rw[H.act]at e;exact(H.okb okp).2 xp a e
theorem HandAt.fv(H:HandAt ps hs h P xb xp nm w as)(ok:f.ok)(tm:f.tm=ai)(us:∀k,f.us=ae k->k∈kn w as xp):eL nm f:=⟨ok,tm,λk hk=>by
 obtain⟨v,e⟩:=yt ((H.hn.mem k).mpr (us k hk));exact⟨v,e,(H.hn.ok _ (lL e)).2⟩⟩
theorem HandAt.lay(H:HandAt ps hs h P xb xp nm w as)(okp:bQ ps)(e:bA ps hs h=ae (.lay fs age)):fs.length<=4/\∀f∈fs,eL nm f:=by
 have oa:=H.ok okp e;have r:=(H.right okp e).1;exact⟨oa.1.1,λf hf=>H.fv (oa.1.2 f hf) (oa.2.1 f hf) (ux r oa.2.1 f hf)⟩
theorem HandAt.same(H:HandAt ps hs h P xb xp nm w as)(okp:bQ ps)(e:bA ps hs h=ae (.same f g b)):eL nm f/\eL nm g/\f.te=ai/\g.te=ai:=by
 have oa:=H.ok okp e;have r:=ux (H.right okp e).1 (λx hx=>by
  simp only[Ac.fs,Au,A1,or_false]at hx;rcases hx with rfl|rfl
  ·exact qR oa.2.1
  ·exact qR oa.2.2)
 exact⟨H.fv (oa.1.2 f (by simp[Ac.fs])) (qR oa.2.1) (r f (by simp[Ac.fs])),H.fv (oa.1.2 g (by simp[Ac.fs])) (qR oa.2.2) (r g (by simp[Ac.fs])),oa.2.1,oa.2.2⟩
theorem HandAt.to(H:HandAt ps hs h P xb xp nm w as)(okp:bQ ps)(e:bA ps hs h=ae a)(hb:a.to=ae b):∃bl:Bl,P[b]?=ae bl/\lA bl/\∀k∈bl.1,k∈nm.map (·.1):=by
 obtain⟨wb,hwb,hk⟩:=(H.right okp e).2 b hb;rw[Ax]at hwb;obtain⟨bl,hbl,rfl⟩:=Option.map_eq_some_iff.mp hwb;exact⟨bl,hbl,((okp.2 P (A8 H.prog)).2.2 bl (A8 hbl)).1,λk z=>(H.hn.mem k).mpr (hk k z)⟩
end
theorem KC(e:δ[i]?=ae (ae (.w (.d (.tuple [a,b])))))(k:Q (.d b) n):w2 (ak i) (cJ (wC (.int 1))) az δ n Q:=ar (au e k)
theorem JS(e:δ[i]?=ae (ae (.w (.d (.tuple [a,b,c,d])))))(k:Q (.d d) n):w2 (ak i) (cJ (wC (.int 1))) az δ n Q:=ar (au e k)
theorem Nu:bN uO yS ["programs","stand","hand","act","place","notes","names"]:=λws n Q h=>by
 obtain⟨ps,hs,ns,h,rfl,⟨okp,okh,okn⟩,hh,k⟩:=h;obtain⟨P,xb,xp,nm,w,as,H⟩:=ig okh hh;have hlt:h < hs.length:=by rw[okh.1];exact hh
 have hl5:hs.length<=5:=by rw[okh.1];exact okp.1
 show yS [ae (.w (.d (aX ps))),ae (.w (.d (bg hs ns))),ae (.w (.d (.int h))),ah,ah,ah,ah] n _;refine aC (bE (λQ q=>nZ rfl rfl rfl okh hh q) ?_);dsimp only[An];cases ea:bA ps hs h with
 |none=>
  unfold eG at k;rw[H.prog,H.hand,ea]at k;exact aC (bz (λQ q=>aE (k:=ai) (λQ q=>ar (au rfl (aD (fi q)))) q) (aY (aD k)))
 |some a=>
  have oa:=H.ok okp ea;show av _ _ [ae (.w (.d (aX ps))),ae (.w (.d (bg hs ns))),ae (.w (.d (.int h))),ae (.w (.d a.d)),ah,ah,ah] n _;cases ef:a.pf with
  |some fs=>
   obtain⟨of,s,r,e,h1,_⟩:=rB ef oa;have ha:Q (.d (gF (eG ps hs ns h))) n->aF nY (aq ↥0 (aq ↥1 (aq ↥2 (aq ↥3 ao)))) [ae (.w (.d (aX ps))),ae (.w (.d (bg hs ns))),ae (.w (.d (.int h))),ae (.w (.d a.d)),ah,ah,ah] n Q:=λk=>
    eC (au rfl (au rfl (au rfl (au rfl ⟨ps,hs,ns,h,a,rfl,⟨okp,okh,okn⟩,hh,ea,by rw[ef];rfl,k⟩))))
   rw[e]at ha ⊢;refine aC (bf (λQ q=>aE (k:=aj) (λQ q=>ar (au rfl (aD (fi q)))) q) ?_);dsimp only[aL];exact aC (bz (λQ q=>Hs (λQ q=>dj rfl q) h1 q) (aY (ha k)))
  |none=>
   rw[km H ea]at k;have pre:∀(V:aH)(s:Str)(r:List Ab),a.d=.tuple (.str s::r)->bI (.str s) [.str "take",.str "read",.str "look"]=aj->
     V [ae (.w (.d (aX ps))),ae (.w (.d (bg hs ns))),ae (.w (.d (.int h))),ae (.w (.d a.d)),ae (.w (.d (bG (xb,xp,nm)))),ae (.w (.d (cE ns))),ae (.w (.d (bZ nm)))] n {nx:=λ_ n=>Q (.d .none) n,rt:=Q}->
     av (aJ (cT (w2 ↥3 (wC .none) (cm aj))) (aA (wC .none)) aL) (av (aJ (cT (iR Zg (w2 ↥3 ⇑0 az))) (aA (aF nY (aq ↥0 (aq ↥1 (aq ↥2 (aq ↥3 ao)))))) aL) (av (aB 4 (w2 (w2 ↥1 ⇑0 az) ↥2 az)) (av (aB 5 (w2 ↥1 ⇑1 az)) (av (aB 6 (w2 ↥4 ⇑2 az)) V))))
      [ae (.w (.d (aX ps))),ae (.w (.d (bg hs ns))),ae (.w (.d (.int h))),ae (.w (.d a.d)),ah,ah,ah] n {nx:=λ_ n=>Q (.d .none) n,rt:=Q}:=λV s r e h1 kk=>by
    rw[e]at kk ⊢;refine aC (bf (λQ q=>aE (k:=aj) (λQ q=>ar (au rfl (aD (fi q)))) q) ?_);dsimp only[aL];refine aC (bf (λQ q=>Hs (λQ q=>dj rfl q) h1 q) ?_);dsimp only[aL];refine aC (bE (x:=bG (xb,xp,nm)) (λQ q=>ar (ar (au rfl (aD (cg (au rfl (bJ H.hD q))))))) ?_);dsimp only[An];refine aC (bE (x:=cE ns) (λQ q=>de rfl q) ?_);dsimp only[An];refine aC (bE (x:=bZ nm) (λQ q=>ar (au rfl (aD (dz q)))) ?_);dsimp only[An];exact kk
   have fin:∀(x:Hn)(ns':List Nt)(d:Ab),Q (.d (bg (aU hs h x) ns')) n->aA (aw (aq (aF jy (aq (w2 ↥1 ⇑0 az) (aq ↥2 (aq ↥4 ao)))) (aq ↥5 ao))) [ae (.w (.d (aX ps))),ae (.w (.d (bg hs ns))),ae (.w (.d (.int h))),ae (.w (.d d)),ae (.w (.d (bG x))),ae (.w (.d (cE ns'))),ae (.w (.d (bZ nm)))] n {nx:=λ_ n=>Q (.d .none) n,rt:=Q}:=λx ns' d q=>
    aY (va (x:=x) rfl rfl rfl (λQ q=>au rfl q) hlt hl5 q)
   cases a with
   |take fs=>cases ef
   |read fs=>cases ef
   |look fs b=>cases ef
   |lay fs age=>
    obtain⟨hl4,hfv⟩:=H.lay okp ea;refine pre _ "lay" [dI fs,age] rfl ∅ ?_;refine aC (m3 (a:=.str "lay") rfl ∅ (aC ?_));refine bE (x:=cE (ns++[(cS fs nm,age)])) (λQ q=>?_) ?_
    ·refine ar (au rfl (lT (cy (bV (de rfl (au rfl ⟨fs,nm,rfl,hl4,hfv,H.nms,?_⟩))))));refine ar (au rfl (aD (dz (Am (show 2<=1000 by decide) (Am (show 1<=1000 by decide) (jC (by rw[Ad,Ap];have:=okn.1;omega) ?_))))));unfold cE at q;rw[Be]at q;exact q
    ·dsimp only[An];refine bE (x:=bG (b8 (xb,xp,nm) nm)) (λQ q=>bV (au rfl (au rfl ⟨(xb,xp,nm),nm,rfl,q⟩))) ?_;dsimp only[An];exact fin _ _ _ k
   |same f g b=>
    obtain⟨hf,hg,tf,tg⟩:=H.same okp ea;obtain⟨bl,hbl,obl,_⟩:=H.to okp ea (b:=b) rfl;refine pre _ "same" [f.d,g.d,.int b] rfl ∅ ?_;refine aC (jJ (a:=.str "same") rfl ∅ (cZ (rD (λQ q=>j8 (a:=.str "same") rfl ?_) ?_)))
    ·rw[show bq "same" (.str "same")=ai by decide +kernel];exact q
    refine(show cT _ _ _ _ from bV (au rfl (au rfl ⟨f,g,b,nm,rfl,hf,hg,tf,tg,H.nms,?_⟩)));have k:Q (.d (bg (aU hs h (if fe (dN nm f) (dN nm g)=ai then b8 (xb,xp,nm) nm else bK P b nm)) ns)) n:=k;refine jb (λz=>?_) λz=>?_
    ·rw[if_pos z]at k;refine bE (x:=bG (b8 (xb,xp,nm) nm)) (λQ q=>bV (au rfl (au rfl ⟨(xb,xp,nm),nm,rfl,q⟩))) ?_;dsimp only[An];exact fin _ _ _ k
    ·rw[if_neg (by rw[z];exact Ag)]at k;refine bE (x:=bG (bK P b nm)) (λQ q=>bH (ar (au rfl (au rfl (bJ H.pD (JS rfl (au rfl ⟨P,b,nm,bl,rfl,hbl,obl.1,q⟩))))))) ?_;dsimp only[An];exact fin _ _ _ k
   |go b=>
    obtain⟨bl,hbl,obl,_⟩:=H.to okp ea (b:=b) rfl;refine pre _ "go" [.int b] rfl ∅ ?_;refine aC (jJ (a:=.str "go") rfl ∅ (bf (λQ q=>qu (λQ q=>j8 (a:=.str "go") rfl ?_) q) ?_))
    ·rw[show bq "same" (.str "go")=aj by decide +kernel];exact q
    refine bE (x:=bG (bK P b nm)) (λQ q=>bH (ar (au rfl (au rfl (bJ H.pD (KC rfl (au rfl ⟨P,b,nm,bl,rfl,hbl,obl.1,q⟩))))))) ?_;dsimp only[An];exact fin _ _ _ k
theorem Oe(k:Q (.d (.bool (decide (a=b)))) n):aT (.d (.int a)) (.d (.int b)) n Q:=k
theorem yd(ps:Pg)(i:Int):lU ps (.int i)=if 0<=i/\i<=(ps.length:Int)then ae i.toNat else ah:=rfl
theorem pG(em:lU ps b=ae m):b=.int m/\m<=ps.length:=by
 cases b with
 |int i=>
  rw[yd]at em;by_cases z:0<=i/\i<=(ps.length:Int)
  ·rw[if_pos z]at em;cases em;exact⟨by congr 1;omega,by omega⟩
  ·rw[if_neg z]at em;cases em
 |_=>cases em
theorem Pf(em:lU ps b=ah):wH b ps.length=aj:=by
 cases b with
 |int i=>
  rw[yd]at em;by_cases z:0<=i/\i<=(ps.length:Int)
  ·rw[if_pos z]at em;cases em
  ·show(decide (0<=i)&&decide (i<=(ps.length:Int)))=aj;rw[Bool.and_eq_false_iff,decide_eq_false_iff_not,decide_eq_false_iff_not];omega
 |_=>rfl
theorem QN:bN lW yb ["programs","stand","mover","clock"]:=λws n Q h=>by
 obtain⟨ps,hs,ns,b,rfl,ok,k⟩:=h;show yb [ae (.w (.d (aX ps))),ae (.w (.d (bg hs ns))),ae (.w (.d b)),ah] n _;refine aC (bE (x:=.int ps.length) (λQ q=>aR (au rfl (show Q (.d (.int ((ps.map eB).length:Nat))) n by rw[Ad];exact q))) ?_);dsimp only[An];unfold eJ at k;cases em:lU ps b with
 |none=>
  rw[em]at k;have ew:=Pf em;exact aC (bz (λQ q=>ml (k:=aj) (λQ q=>aE (k:=aj) (λQ q=>bV (au rfl (au rfl ⟨_,_,rfl,by rw[ew];exact q⟩))) q) q) (aY (aD k)))
 |some m=>
  rw[em]at k;have k:Q (.d (gF (bU ps hs ns m))) n:=k;obtain⟨rfl,hm⟩:=pG em;have ew:wH (.int m) ps.length=ai:=by
   show(decide (0<=(m:Int))&&decide ((m:Int)<=(ps.length:Int)))=ai;rw[decide_eq_true ⋯,decide_eq_true ⋯];rfl
  refine aC (bf (λQ q=>ml (k:=ai) (λQ q=>aE (k:=ai) (λQ q=>bV (au rfl (au rfl ⟨_,_,rfl,by rw[ew];exact q⟩))) q) q) ?_);dsimp only[aL];unfold bU at k;refine aY (gE (b:=decide ((m:Int)=ps.length)) (λQ q=>aE (λQ q=>ar (au rfl (au rfl (Oe q)))) q) ?_);by_cases e:m=ps.length
  ·rw[if_pos e]at k;rw[if_pos (decide_eq_true ⋯)];exact cq (au rfl ⟨hs,ns,rfl,λq hq=>(ok.2.2.2 q hq).2,k⟩)
  ·rw[if_neg e]at k;rw[if_neg (by rw[decide_eq_false ⋯];exact Ag)];exact bH (au rfl (au rfl (au rfl ⟨ps,hs,ns,m,rfl,ok,by omega,k⟩)))
theorem DY(e:δ[i]?=ae (ae (.w x)))(k:Q x n):dq i δ n Q:=by unfold dq;rw[e];exact k
theorem xG(e:δ[j]?=ae (ae (.w (.d (bZ ps)))))(ok:okN ps)(k:Q (.dk (bb ps)) n):o9 (ak j) δ n Q:=by
 unfold o9 kX i8;refine au e ?_;unfold bZ;simp only[uc];refine⟨by rw[Ad];have:=ok.1;omega,?_⟩;have:=uz ps [] (by rw[B8];exact ok.2.1);rw[B8]at this;rw[show([]:List (aG×Ab))=bb []from rfl,this];exact k
theorem Td(h:cb (.int i)=ai):jU (.int i)=.int ((i+1) % 100):=by
 obtain⟨h0,h1⟩:=BL h;show(if i=99 then E6 0 else E6 (i+1))=_
 split
 ·rename_i e;subst e;rfl
 ·rw[Int.emod_eq_of_lt ⋯ ⋯]
theorem Q4:bN uH AS ["_law_template_here","_law_has","_law_row","_law_word","_law_thing","_law_value_here"]:=λws n Q h=>by
 obtain⟨fs,nm,rfl,hl,ok,k⟩:=h;show AS [ae (.w (.d (dI fs))),ae (.w (.dk (bb nm))),ah,ah,ah,ah] n _;refine aC (iD ?_);dsimp only[An];refine aC ?_;unfold aW dS;refine au rfl ?_;dsimp only[dI];refine fA (λds δ m=>m=n/\∃(dn re:List Fe)(x y z:Option SV),ds=re.map Fe.d/\dn++re=fs/\δ=[ae (.w (.d (dI fs))),ae (.w (.dk (bb nm))),ae (.own (dn.map (dN nm))),x,y,z]) (λδ m I=>?_) (λd r δ m N I kN=>?_) _ _ _ ⟨rfl,[],fs,ah,ah,ah,rfl,rfl,rfl⟩
 ·obtain⟨rfl,dn,re,x,y,z,ed,en,rfl⟩:=I;cases F1.mp ed.symm;rw[Bv]at en;subst en;dsimp only;refine gG rfl ?_;dsimp only[An];exact aY (aR (au rfl (pX k)))
 ·obtain⟨rfl,dn,re,x,y,z,ed,en,rfl⟩:=I;obtain⟨f,re,rfl,rfl,rfl⟩:=Ej.mp ed.symm;have hf:=ok f (by rw[<-en];exact Bf _ A0);have hdn:dn.length < 1000000:=by
   have:=congrArg List.length en;rw[Ak]at this;omega
  have nxt:∀(x y z:Option SV),N [ae (.w (.d (dI fs))),ae (.w (.dk (bb nm))),ae (.own (dn.map (dN nm)++[dN nm f])),x,y,z] m:=λx y z=>
   kN _ _ ⟨rfl,dn++[f],re,x,y,z,rfl,by rw[Bj];exact en,by rw[Be];rfl⟩
  obtain⟨fo,tm,us⟩:=hf;have app:∀(K:DEnds)(x y:Option SV)(v:Ab),v=dN nm f->(∀δ n,N δ n->K.nx δ n)->a8 2 ↥5 [ae (.w (.d (dI fs))),ae (.w (.dk (bb nm))),ae (.own (dn.map (dN nm))),x,y,ae (.w (.d v))] m K:=λK x y v e hK=>
   lp rfl (λQ q=>au rfl q) (by rw[Ad];exact hdn) (by subst e;exact hK _ _ (nxt _ _ _))
  have named:∀(K:DEnds)(s x:Str)(v:Ab),look nm x=ae v->bq "is" (.str s)=aj->(∀δ n,N δ n->K.nx δ n)->(av (aJ (dU (cT (w2 ↥3 (wC (.str "next")) aT)) (dv (cT (di "str" ↥5)))) (aB 5 (w2 (w2 ↥5 ⇑1 (cx λi j=>.int (i+j))) ⇑100 (gI (λ_ j=>0 < j) λi j=>.int (i % j)))) aL) (a8 2 ↥5)) [ae (.w (.d (dI fs))),ae (.w (.dk (bb nm))),ae (.own (dn.map (dN nm))),ae (.w (.d (.str s))),ae (.w (.d (.str x))),ae (.w (.d v))] m K->
    av (aB 5 (fD (cT (w2 ↥3 (wC (.str "is")) aT)) ↥4 (w2 (dq 1) ↥4 gv))) (av (aJ (dU (cT (w2 ↥3 (wC (.str "next")) aT)) (dv (cT (di "str" ↥5)))) (aB 5 (w2 (w2 ↥5 ⇑1 (cx λi j=>.int (i+j))) ⇑100 (gI (λ_ j=>0 < j) λi j=>.int (i % j)))) aL) (a8 2 ↥5)) [ae (.w (.d (dI fs))),ae (.w (.dk (bb nm))),ae (.own (dn.map (dN nm))),ae (.w (.d (.str s))),ae (.w (.d (.str x))),z] m K:=λK s x v e hs hK kk=>by
   refine aC (bE (x:=v) (λQ q=>gE (b:=aj) (λQ q=>aE (λQ q=>gM (d:=.str s) rfl (by rw[hs];exact q)) q) ?_) ?_)
   ·rw[if_neg Ag];refine ar (DY rfl (au rfl ?_));unfold gv;simp only[jS,e];exact q
   ·dsimp only[An];exact kk
  refine⟨(by cases f<;>first|rfl|cases tm),?_⟩;cases f with
  |isv d=>
   dsimp only[Fe.hd,Fe.tl,bB,cz,aI,An];refine aC (bE (x:=d) (λQ q=>gE (b:=ai) (λQ q=>aE (λQ q=>gM (d:=.str "is") rfl (by rw[sq];exact q)) q) (by rw[if_pos rfl];exact au rfl q)) ?_);dsimp only[An];refine aC (bf (λQ q=>qu (λQ q=>gM (d:=.str "is") rfl (by rw[show bq "next" (.str "is")=aj by decide +kernel];exact q)) q) ?_);dsimp only[aL];exact app _ _ _ _ rfl λ_ _ z=>z
  |as x=>
   obtain⟨v,e,hv⟩:=us x rfl;dsimp only[Fe.hd,Fe.tl,bB,cz,aI,An];refine named _ "as" x v e sj (λ_ _ z=>z) ?_;refine aC (bf (λQ q=>qu (λQ q=>gM (d:=.str "as") rfl (by rw[show bq "next" (.str "as")=aj by decide +kernel];exact q)) q) ?_);dsimp only[aL];exact app _ _ _ _ (by show v=gc nm x;unfold gc;rw[e];rfl) λ_ _ z=>z
  |nx x=>
   obtain⟨v,e,hv⟩:=us x rfl;have ev:dN nm (.nx x)=jU v:=by show jU (gc nm x)=_;unfold gc;rw[e];rfl
   dsimp only[Fe.hd,Fe.tl,bB,cz,aI,An];refine named _ "next" x v e ∅ (λ_ _ z=>z) ?_;cases v with
   |str t=>
    refine aC (bf (λQ q=>rD (λQ q=>gM (d:=.str "next") rfl (by rw[show bq "next" (.str "next")=ai by decide +kernel];exact q)) (ml (k:=ai) (λQ q=>aE (k:=ai) (λQ q=>show di _ _ _ _ _ from au rfl (show Q (.d (.bool (gj "str" (.str t)))) m by rw[l6];exact q)) q) q)) ?_);dsimp only[aL];exact app _ _ _ _ (by rw[ev];rfl) λ_ _ z=>z
   |int i=>
    refine aC (bz (λQ q=>rD (λQ q=>gM (d:=.str "next") rfl (by rw[show bq "next" (.str "next")=ai by decide +kernel];exact q)) (ml (k:=aj) (λQ q=>aE (k:=aj) (λQ q=>show di _ _ _ _ _ from au rfl (show Q (.d (.bool (gj "str" (.int i)))) m by rw[l6];exact q)) q) q)) ?_);refine bE (x:=.int ((i+1) % 100)) (λQ q=>ar (ar (au rfl (aD (dP (aD ⟨show(0:Int) < 100 by decide,q⟩)))))) ?_;dsimp only[An];exact app _ _ _ _ (by rw[ev,Td hv]) λ_ _ z=>z
   |_=>cases hv
  |_=>cases tm
theorem Uo:bN qQ yq ["_law_term_here","_law_names"]:=λws n Q h=>by
 obtain⟨f,nm,rfl,⟨fo,tm,us⟩,te,okn,k⟩:=h;show yq [ae (.w (.d f.d)),ae (.w (.d (bZ nm)))] n _;cases f with
 |isv d=>exact aY (gE (b:=ai) (λQ q=>aE (λQ q=>j8 (a:=.str "is") rfl (by rw[sq];exact q)) q) (by rw[if_pos rfl];exact de rfl k))
 |as x=>
  obtain⟨v,e,hv⟩:=us x rfl;have k:Q (.d (gc nm x)) n:=k;unfold gc at k;rw[e]at k;refine aY (gE (b:=aj) (λQ q=>aE (λQ q=>j8 (a:=.str "as") rfl (by rw[sj];exact q)) q) ?_);rw[if_neg Ag];refine ar (xG rfl okn (de (a:=.str "as") (b:=.str x) (r:=[]) rfl ?_));unfold gv;simp only[jS,e];exact k
 |_=>cases te
theorem DV:∀{xs ys:List Str},xs.Nodup->ys.Nodup->(∀k,k∈xs↔k∈ys)->iV xs->iV ys->xs=ys
 |[],[],_,_,_,_,_=>rfl
 |[],y::ys,_,_,h,_,_=>by have:=(h y).mpr A0;simp at this
 |x::xs,[],_,_,h,_,_=>by have:=(h x).mp A0;simp at this
 |x::xs,y::ys,n1,n2,h,u1,u2=>by
  obtain⟨a1,b1⟩:=Dl.mp n1;obtain⟨a2,b2⟩:=Dl.mp n2;obtain⟨c1,d1⟩:=List.pairwise_cons.mp u1;obtain⟨c2,d2⟩:=List.pairwise_cons.mp u2;have e:x=y:=by
   rcases Au.mp ((h x).mp A0)with e|hx
   ·exact e
   ·rcases Au.mp ((h y).mpr A0)with e|hy
    ·exact e.symm
    ·exact yz _ _ (c2 x hx) (c1 y hy)
  subst e;rw[DV b1 b2 (λk=>⟨λhk=>?_,λhk=>?_⟩) d1 d2]
  ·rcases Au.mp ((h k).mp (Aw _ hk))with e|q
   ·exact absurd (e▸hk) a1
   ·exact q
  ·rcases Au.mp ((h k).mpr (Aw _ hk))with e|q
   ·exact absurd (e▸hk) a2
   ·exact q
theorem ye{nm:Nm}(nd:(nm.map (·.1)).Nodup)(up:jt nm)(wn:w.Nodup)(wu:iV w)(sub:∀k∈w,k∈nm.map (·.1)):nm.filter (λp=>decide (p.1∈w))=w.map λk=>(k,gc nm k):=by
 have ek:(nm.filter λp=>decide (p.1∈w)).map (·.1)=w:=by
  refine DV ?_ wn (λk=>⟨λhk=>?_,λhk=>?_⟩) ?_ wu
  ·exact List.Nodup.sublist (List.Sublist.map _ List.filter_sublist) nd
  ·obtain⟨p,hp,rfl⟩:=Bo.mp hk;exact of_decide_eq_true (Cp.mp hp).2
  ·obtain⟨p,hp,rfl⟩:=Bo.mp (sub k hk);exact Bo.mpr ⟨p,Cp.mpr ⟨hp,decide_eq_true hk⟩,rfl⟩
  ·unfold iV;rw[List.pairwise_map];exact List.Pairwise.sublist List.filter_sublist up
 have e2:(nm.filter λp=>decide (p.1∈w))=(nm.filter λp=>decide (p.1∈w)).map λp=>(p.1,gc nm p.1):=by
  have:(nm.filter λp=>decide (p.1∈w)).map id=(nm.filter λp=>decide (p.1∈w)).map λp=>(p.1,gc nm p.1):=by
   refine C4 λp hp=>?_;have:=OV nd (Cp.mp hp).1;show p=(p.1,gc nm p.1);unfold gc;rw[this];rfl
  rw[List.map_id]at this;exact this
 rw[e2]
 conv=>rhs;rw[<-ek]
 rw[Dg];rfl
theorem JL:bN lM FK ["_law_program_here","_law_names","_law_block","_law_has"]:=λws n Q h=>by
 obtain⟨P,b,nm,⟨w,as⟩,rfl,hb,hw,okn,up,wn,wu,sub,k⟩:=h;have hbD:(P.map fE)[b]?=ae (.tuple [dy w,.tuple (as.map Ac.d)]):=by rw[Ax,hb];rfl
 have ew:lD P b=w:=by unfold lD;rw[hb];rfl
 unfold bK at k;rw[ew,ye okn.2.1 up wn wu sub]at k;show FK [ae (.w (.d (eB P))),ae (.w (.d (bZ nm))),ae (.w (.d (.int b))),ah] n _;refine aC (nz rfl okn ?_);dsimp only[An];refine aY (gK (au rfl (aD (aR (a9 (i9 (ds:=w.map .str) (λQ q=>ar (ar (au rfl (au rfl (bJ hbD (aD (cg q)))))) ) ?_))))));show cM _ _ _ _ _ _ [ah,ae (.w (.dk (bb nm)))] n;refine qJ .str (λx=>iW (x,gc nm x)) w ah n (λx hx n Q' q=>?_) ?_
 ·obtain⟨v,e⟩:=yt (sub x hx);refine cy (au rfl (ar (DY rfl (au rfl ?_))));unfold gv;simp only[jS,e];unfold gc at q;rw[e]at q;exact Am (show 2<=1000 by decide) q
 ·refine Am (show 3<=1000 by decide) ?_;unfold bG bZ at k;rw[Dg]at k;exact k
theorem zk:∀(ns:List Nt)(acc:List Ab)(x y:Option SV)(n:Int),(∀q∈ns,hU q.2)->Q (acc++(dw ns).map dD) n->
  cM (dO 2 (bB (aI 0) (bB (aI 1) cz))) (cT (w2 ↥1 ⇑1 eu)) (aw (aq ↥0 (aq (fD (cT (w2 ↥1 (wC .none) (dY aj))) (wC .none) (w2 ↥1 ⇑1 (cx λi j=>.int (i-j)))) ao))) Q (ns.map dD) acc [x,y] n
 |[],acc,x,y,n,_,q=>by
  have:dw []=[]:=rfl;rw[this,List.map_nil,Bv]at q;exact q
 | (row,a)::r,acc,x,y,n,h,q=>by
  have ha:hU a:=h (row,a) A0;have ih:=λacc x y n q=>zk (Q:=Q) r acc x y n (λq hq=>h q (Aw _ hq)) q;rw[Bs];refine(show dO 2 _ (dD (row,a)) [x,y] _ from⟨rfl,?_⟩);dsimp only[bB,cz,aI,An];refine aE (k:=!cX a) (λQ q=>ar (au rfl (aD (FJ ha q)))) ?_;show if (!cX a)=ai then _ else _
  have e0:dw ((row,a)::r)=(if (!cX a)=ai then[(row,iZ a)]else[])++dw r:=by
   unfold dw;rw[Ex];dsimp only
   split<;>rfl
  rw[e0]at q;cases hi:cX a with
  |true=>
   rw[hi,if_neg ∎,B8]at q;rw[if_neg ∎];exact ih _ _ _ _ q
  |false=>
   rw[hi,if_pos ∎,Be,<-Bj]at q;rw[if_pos ∎];rcases ha with rfl|⟨i,rfl,_⟩
   ·exact cy (au rfl (gE (b:=ai) (λQ q=>aE (k:=ai) (λQ q=>ar (au rfl (aD (jf q)))) q) (by rw[if_pos rfl];exact aD (Am (show 2<=1000 by decide) (ih _ _ _ _ q)))))
   ·exact cy (au rfl (gE (b:=aj) (λQ q=>aE (k:=aj) (λQ q=>ar (au rfl (aD (jf q)))) q) (by rw[if_neg Ag];exact ar (au rfl (aD (Am (show 2<=1000 by decide) (ih _ _ _ _ q)))))))
section
variable{δ:Sl}{n:Int}{Q:DQ}{K:DEnds}{W V:aH}{i:Nat}{s h:Str}{r:List Ab}{b c d e:Ab}
theorem l7(k:az x y n Q):bc x y n Q:=.inr k
theorem QF(k:Q (.d (.bool (bq h (.str s)))) n):aT (.d (.str s)) (.d (.str h)) n Q:=k
theorem uj(e:δ[i]?=ae (ae (.w (.d (.tuple (.str s::r))))))(k:if bq h (.str s)=ai then W δ n K else V δ n K):aJ (cT (w2 (w2 (ak i) (wC (.int 0)) bc) (wC (.str h)) aT)) W V δ n K:=
 cZ (show cT _ _ _ _ from ar (ar (au e (aD (l7 (cg (aD (QF k))))))))
theorem wJ(e:δ[i]?=ae (ae (.w (.d (.tuple (.str s::r))))))(z:bq h (.str s)=ai)(k:W δ n K):aJ (cT (w2 (w2 (ak i) (wC (.int 0)) bc) (wC (.str h)) aT)) W V δ n K:=uj e (by rw[if_pos z];exact k)
theorem iA(e:δ[i]?=ae (ae (.w (.d (.tuple (.str s::r))))))(z:bq h (.str s)=aj)(k:V δ n K):aJ (cT (w2 (w2 (ak i) (wC (.int 0)) bc) (wC (.str h)) aT)) W V δ n K:=uj e (by rw[if_neg (by rw[z];exact Ag)];exact k)
theorem lj(e:δ[i]?=ae (ae (.w (.d (.tuple (b::c::r))))))(k:Q (.d c) n):w2 (ak i) (wC (.int 1)) bc δ n Q:=ar (au e (aD (l7 (e9 k))))
theorem lJ(e:δ[i]?=ae (ae (.w (.d (.tuple (b::c::d::r))))))(k:Q (.d d) n):w2 (ak i) (wC (.int 2)) bc δ n Q:=ar (au e (aD (l7 (dz k))))
theorem rL(e':δ[i]?=ae (ae (.w (.d (.tuple [b,c,d,e])))))(k:Q (.d e) n):w2 (ak i) (wC (.int 3)) bc δ n Q:=ar (au e' (aD (l7 k)))
theorem yQ(e':δ[i]?=ae (ae (.w (.ob (.q d m)))))(k:Q (.d d) n):w2 (ak i) (wC (.int 0)) bc δ n Q:=ar (au e' (aD (.inl ⟨d,m,rfl,.inl ⟨rfl,k⟩⟩)))
theorem Og(e':δ[i]?=ae (ae (.w (.ob (.q d m)))))(k:Q (.dk m) n):w2 (ak i) (wC (.int 1)) bc δ n Q:=ar (au e' (aD (.inl ⟨d,m,rfl,.inr ⟨rfl,k⟩⟩)))
theorem Ja(ha:cb a=ai)(hb:cb b=ai)(k:Q (.d (.bool (!fe a b))) n):eu (.d a) (.d b) n Q:=by
 cases a with
 |str x=>cases b with
  |str y=>exact k
  |int j=>exact k
  |_=>cases hb
 |int i=>cases b with
  |str y=>exact k
  |int j=>exact k
  |_=>cases hb
 |_=>cases ha
end
theorem EL(nd:(nm.map (·.1)).Nodup)(h:cu fs row nm=ai):((c8 fs row nm).map (·.1)).Nodup/\(wk (fs.zip row) nm []=ae (c8 fs row nm)):=by
 unfold cu at h;rw[Du]at h;unfold c8;obtain⟨x,hx⟩:=Ei.mp h.2;rw[hx];exact⟨kj _ _ _ _ nd hx,rfl⟩
theorem pz:∀(l:List (Fd×Ab))(h:Nm)(hs:List Str)(k:Nm),(∀p∈l,p.1.ok/\cb p.2=ai)->(∀p∈h,fX p)->wk l h hs=ae k->(∀p∈k,fX p)/\k.length<=h.length+l.length
 |[],h,hs,k,_,ho,e=>by cases e;exact⟨ho,Ao _⟩
 | (f,v)::r,h,hs,k,hl,ho,e=>by
  have hr:∀p∈r,p.1.ok/\cb p.2=ai:=λp hp=>hl p (Aw _ hp);have same:wk r h hs=ae k->(∀p∈k,fX p)/\k.length<=h.length+((f,v)::r).length:=λe=>by
   have:=pz r h hs k hr ho e;exact⟨this.1,by rw[Ar];omega⟩
  cases f with
  |is w=>unfold wk at e;split at e;exact same e;cases e
  |any=>unfold wk at e;exact same e
  |word=>unfold wk at e;split at e;exact same e;cases e
  |number=>unfold wk at e;split at e;exact same e;cases e
  |as x=>
   unfold wk at e
   split at e
   ·split at e
    ·exact same e
    ·cases e
   ·cases e
  |bind x=>
   unfold wk at e
   split at e
   ·split at e
    ·split at e
     ·exact same e
     ·cases e
    ·cases e
   ·have hb:=hl _ A0;have:=pz r (put h x v) (hs++[x]) k hr (mV ho hb.1 hb.2) e;have:=qO h x v;exact⟨by have:=pz r (put h x v) (hs++[x]) k hr (mV ho hb.1 hb.2) e;exact this.1,by rw[Ar];omega⟩
theorem AW(of:pd fs)(or:qI row):∀p∈fs.zip row,p.1.ok/\cb p.2=ai:=λp hp=>by
 obtain⟨p1,p2⟩:=p;exact⟨of.2.2 _ (Fc hp).1,or.2 _ (Fc hp).2⟩
theorem LP:bN qd xR ["_law_programs","_law_stand_here","_law_mover","_law_hands","_law_notes_here","_law_act_here","_law_block","_law_place","_law_names","_law_found","_law_hand"]:=λws n Q h=>by
 obtain⟨ps,hs,ns,m,r,rfl,⟨okp,okh,okn⟩,hm,e,k⟩:=h;show xR [ae (.w (.d (aX ps))),ae (.w (.d (bg hs ns))),ae (.w (.d (.int m))),ah,ah,ah,ah,ah,ah,ah,ah] n _;refine aC ?_;unfold dB;refine au rfl (Am rfl ?_);dsimp only[bB,cz,aI,An];unfold bU at e;refine aC (cZ (aE (k:=decide ((m:Int)=(ps.length:Nat))) (λQ q=>ar (au rfl (aR (au rfl ?_)))) ?_))
 ·show Q (.d (.bool (decide ((m:Int)=((ps.map eB).length:Nat))))) n;rw[Ad];exact q
 by_cases em:m=ps.length
 ·rw[if_pos em]at e;cases e;show if decide ((m:Int)=(ps.length:Nat))=ai then _ else _
  rw[if_pos (decide_eq_true ⋯)];refine aY (cy (au rfl (aR (a9 (i9 (ds:=ns.map dD) (λQ q=>au rfl q) ?_)))));show cM _ _ _ _ _ _ [ah,ah] n;exact zk ns [] ah ah n (λq hq=>(okn.2 q hq).2) (Am (show 2<=1000 by decide) k)
 rw[if_neg em]at e;show if decide ((m:Int)=(ps.length:Nat))=ai then _ else _
 rw[if_neg (by rw[decide_eq_false ⋯];exact Ag)];dsimp only[aL];have hh:m < ps.length:=by omega
 obtain⟨P,xb,xp,nm,w,as,H⟩:=ig okh hh;have hlt:m < hs.length:=by rw[okh.1];exact hh
 have hl5:hs.length<=5:=by rw[okh.1];exact okp.1
 refine aC (bE (λQ q=>nZ rfl rfl rfl okh hh q) ?_);dsimp only[An];cases ea:bA ps hs m with
 |none=>
  unfold eG at e;rw[H.prog,H.hand,ea]at e;cases e
 |some a=>
 rw[km H ea]at e;have oa:=H.ok okp ea;refine aC ?_;refine ar (au rfl (au rfl (l7 (bJ H.hD ?_))));refine Am rfl ?_;dsimp only[bB,cz,aI,An];refine aC (uq (o:=eE ps hs ns m) (λQ q=>bH (au rfl (au rfl (au rfl ⟨ps,hs,ns,m,rfl,⟨okp,okh,okn⟩,hh,q⟩)))) ?_);dsimp only[An];refine aC (bE (x:=bG (b8 (xb,xp,nm) nm)) (λQ q=>gK (au rfl (ar (au rfl (aD (dP (au rfl (Am (show 3<=1000 by decide) q)))))))) ?_);dsimp only[An];have fin:∀(x:Hn)(ns':List Nt)(x5 x6 x7 x8 x9:Option SV),Q (.d (bg (aU hs m x) ns')) n->aA (aw (aq (w2 (w2 (eO ↥3 cR (cP ↥2)) (aw (aq ↥10 ao)) eR) (eO ↥3 (cP (w2 ↥2 ⇑1 (cx λi j=>.int (i+j)))) cR) eR) (aq ↥4 ao)))
   [ae (.w (.d (aX ps))),ae (.w (.d (bg hs ns))),ae (.w (.d (.int m))),ae (.w (.d (.tuple (hs.map bG)))),ae (.w (.d (cE ns'))),x5,x6,x7,x8,x9,ae (.w (.d (bG x)))] n {nx:=λ_ n=>Q (.d .none) n,rt:=Q}:=λx ns' x5 x6 x7 x8 x9 q=>by
  have hd:(aU hs m x).map bG=((hs.map bG).take m++[bG x])++(hs.map bG).drop (m+1):=by
   unfold aU;rw[Be,Bs,List.map_take,List.map_drop,Bj];rfl
  unfold bg at q;rw[hd]at q;have l1:((hs.map bG).take m).length<=5:=A9 (G1 _ _) (by rw[Ad];exact hl5);have l2:((hs.map bG).drop (m+1)).length<=5:=by rw[Cy,Ad];omega
  refine aY (cy (ar (ar (qm (p:=m) (λQ q=>au rfl q) (λQ q=>au rfl q) (by rw[Ad];omega) (lT (au rfl (Am (show 1<=1000 by decide) (jC (by rw[Ap];omega) ?_))))))));exact pK (p:=m+1) (λQ q=>au rfl q) (λQ q=>ar (au rfl (aD (dP q)))) (by rw[Ad];omega) (jC (by rw[Ak,Ap];omega) (au rfl (Am (show 2<=1000 by decide) q)))
 have toB:∀(b:Nat),a.to=ae b->∀(x5 x9:Option SV)(i5:DT),(∀Q:DQ,Q (.d (.int b)) n->i5 [ae (.w (.d (aX ps))),ae (.w (.d (bg hs ns))),ae (.w (.d (.int m))),ae (.w (.d (.tuple (hs.map bG)))),ae (.w (.d (cE ns))),x5,ae (.w (.d (.int xb))),ae (.w (.d (.int xp))),ae (.w (.d (bZ nm))),x9,ae (.w (.d (bG (b8 (xb,xp,nm) nm))))] n Q)->∀K:DEnds,
   (∀δ n,aA (aw (aq (w2 (w2 (eO ↥3 cR (cP ↥2)) (aw (aq ↥10 ao)) eR) (eO ↥3 (cP (w2 ↥2 ⇑1 (cx λi j=>.int (i+j)))) cR) eR) (aq ↥4 ao))) δ n {nx:=λ_ n=>Q (.d .none) n,rt:=Q}->K.nx δ n)->Q (.d (bg (aU hs m (bK P b nm)) ns)) n->
   aB 10 (aF lM (aq (w2 ↥0 ↥2 bc) (aq ↥8 (aq i5 ao)))) [ae (.w (.d (aX ps))),ae (.w (.d (bg hs ns))),ae (.w (.d (.int m))),ae (.w (.d (.tuple (hs.map bG)))),ae (.w (.d (cE ns))),x5,ae (.w (.d (.int xb))),ae (.w (.d (.int xp))),ae (.w (.d (bZ nm))),x9,ae (.w (.d (bG (b8 (xb,xp,nm) nm))))] n K:=λb hb x5 x9 i5 h5 K hK q=>by
  obtain⟨bl,hbl,obl,sub⟩:=H.to okp ea hb;refine bE (x:=bG (bK P b nm)) (λQ q=>bH (ar (au rfl (au rfl (l7 (bJ H.pD (au rfl (h5 _ ⟨P,b,nm,bl,rfl,hbl,obl.1,H.nms,H.hn.up,obl.2.2.2.2.1,obl.2.2.2.2.2,sub,q⟩))))))) ) ?_;dsimp only[An];exact hK _ _ (fin _ _ _ _ _ _ _ q)
 have getY:∀(s:Str)(gs:List Fe)(r5:List Ab)(i:Nat),a.pf=ae (gs.map Fe.fd)->dR gs->gp gs->aV (gs.map Fe.fd) nm ns=ae i->∀K:DEnds,
   (∀δ n,aA (aw (aq (w2 (w2 (eO ↥3 cR (cP ↥2)) (aw (aq ↥10 ao)) eR) (eO ↥3 (cP (w2 ↥2 ⇑1 (cx λi j=>.int (i+j)))) cR) eR) (aq ↥4 ao))) δ n {nx:=λ_ n=>Q (.d .none) n,rt:=Q}->K.nx δ n)->
   Q (.d (bg (aU hs m (b8 (xb,xp,nm) (cw (c8 (gs.map Fe.fd) (bP ns i) nm)))) (if bq "take" (.str s)=ai then cf ns i else ns))) n->
   aJ (cT (w2 ↥9 (wC .none) (dY aj))) (aB 10 (aF lM (aq (w2 ↥0 ↥2 bc) (aq ↥8 (aq (w2 ↥5 ⇑2 bc) ao))))) (av (aB 10 (aw (aq ↥6 (aq (w2 ↥7 ⇑1 (cx λi j=>.int (i+j))) (aq (wB dM (aq (br (nS (w2 ↥9 ⇑1 bc))) ao)) ao))))) (aJ (cT (w2 (w2 ↥5 ⇑0 bc) (wC (.str "take")) aT)) (aB 4 (w2 (eO ↥4 cR (cP (w2 ↥9 ⇑0 bc))) (eO ↥4 (cP (w2 (w2 ↥9 ⇑0 bc) ⇑1 (cx λi j=>.int (i+j)))) cR) eR)) aL))
    [ae (.w (.d (aX ps))),ae (.w (.d (bg hs ns))),ae (.w (.d (.int m))),ae (.w (.d (.tuple (hs.map bG)))),ae (.w (.d (cE ns))),ae (.w (.d (.tuple (.str s::r5)))),ae (.w (.d (.int xb))),ae (.w (.d (.int xp))),ae (.w (.d (bZ nm))),ae (.w (gx (eE ps hs ns m))),ae (.w (.d (bG (b8 (xb,xp,nm) nm))))] n K:=λs gs r5 i hpf hof hpat ei K hK q=>by
  have eg:eE ps hs ns m=ae (i,c8 (gs.map Fe.fd) (bP ns i) nm):=by
   unfold eE;rw[ea,H.nmq];show(a.pf.bind _)=_;rw[hpf];show(aV _ _ _).map _=_;rw[ei];rfl
  obtain⟨⟨row,age⟩,hq,hf⟩:=rJ ei;have hi:i < ns.length:=(Av.mp hq).1;have er:bP ns i=row:=by unfold bP;rw[hq];rfl
  have oq:=okn.2 _ (A8 hq);obtain⟨ep,op⟩:=mH hof hpat;rw[er]at q eg;obtain⟨nd,ew⟩:=EL H.hn.nd hf;obtain⟨wo,wl⟩:=pz _ _ _ _ (AW op oq.1) H.hn.ok ew;have wl':(c8 (gs.map Fe.fd) row nm).length < 64:=by
   have h1:=H.hn.ln;have h2:((gs.map Fe.fd).zip row).length<=4:=by rw[List.length_zip];have:=op.2.1;omega
   have h3:nm.length<=40:=h1;have h4:(c8 (gs.map Fe.fd) row nm).length<=nm.length+((gs.map Fe.fd).zip row).length:=wl;omega
  rw[eg];refine bf (λQ q=>aE (k:=aj) (λQ q=>ar (au rfl (aD (rR q)))) q) (aC ?_);refine bE (x:=bG (b8 (xb,xp,nm) (cw (c8 (gs.map Fe.fd) row nm)))) (λQ q=>?_) ?_
  ·refine gK (au rfl (ar (au rfl (aD (dP ?_)))));refine aR (a9 ?_);refine(show nS _ _ _ _ from Og rfl ?_);refine⟨_,rfl,wl',nd,λp hp=>⟨A9 (wo p hp).1.1 ∎,HD (wo p hp).2⟩,λps' p1 r1=>?_⟩;refine Am (show 3<=1000 by decide) ?_;rw[yp nd p1 r1];exact q
  dsimp only[An];refine uj rfl ?_;refine jb (λz=>?_) λz=>?_
  ·rw[if_pos z]at q;refine bE (x:=cE (cf ns i)) (λQ q=>ar (qm (p:=i) (λQ q=>au rfl q) (λQ q=>yQ rfl q) (by rw[Ad];omega) (pK (p:=i+1) (λQ q=>au rfl q) (λQ q=>ar (yQ rfl (aD (dP q)))) (by rw[Ad];omega) (jC ?_ ?_)))) ?_
   ·have:=okn.1;rw[Dc,Cy,Ad];omega
   ·unfold cE at q;rw[GV]at q;exact q
   ·dsimp only[An];exact hK _ _ (fin _ _ _ _ _ _ _ q)
  ·rw[if_neg (by rw[z];exact Ag)]at q;exact hK _ _ (fin _ _ _ _ _ _ _ q)
 cases a with
 |lay fs age=>
  obtain⟨hl4,hfv⟩:=H.lay okp ea;cases e;refine aC (wJ (s:="lay") rfl ∅ ?_);refine bE (x:=cE (ns++[(cS fs nm,age)])) (λQ q=>?_) ?_
  ·refine ar (au rfl (lT (cy (bV (lj rfl (xG rfl H.nms ⟨fs,nm,rfl,hl4,hfv,?_⟩))))));refine lJ rfl (Am (show 2<=1000 by decide) (Am (show 1<=1000 by decide) (jC (by rw[Ad,Ap];have:=okn.1;omega) ?_)));unfold cE at q;rw[Be]at q;exact q
  ·dsimp only[An];exact fin _ _ _ _ _ _ _ k
 |go b=>
  cases e;refine aC (iA (s:="go") rfl ∅ (wJ (s:="go") rfl ∅ ?_));exact toB b rfl _ _ _ (λQ q=>lj rfl q) _ (λ_ _ z=>z) k
 |same f g b=>
  obtain⟨hf,hg,tf,tg⟩:=H.same okp ea;cases e;refine aC (iA (s:="same") rfl ∅ (iA (s:="same") rfl ∅ (wJ (s:="same") rfl ∅ ?_)));refine cZ (show cT _ _ _ _ from ar (bV (lj rfl (au rfl ⟨f,nm,rfl,hf,tf,H.nms,bV (lJ rfl (au rfl ⟨g,nm,rfl,hg,tg,H.nms,Ja (iQ hf) (iQ hg) ?_⟩))⟩))));have k:Q (.d (bg (aU hs m (if fe (dN nm f) (dN nm g)=ai then b8 (xb,xp,nm) nm else bK P b nm)) ns)) n:=k;show if (!fe (dN nm f) (dN nm g))=ai then _ else _
  cases z:fe (dN nm f) (dN nm g)with
  |true=>
   rw[z,if_pos rfl]at k;rw[if_neg ∎];exact fin _ _ _ _ _ _ _ k
  |false=>
   rw[z,if_neg Ag]at k;rw[if_pos ∎];exact toB b rfl _ _ _ (λQ q=>rL rfl q) _ (λ_ _ z=>z) k
 |take gs=>
  have e:(((bx gs (xb,xp,nm) ns).map λq=>(q.2,cf ns q.1)).map λr=>(aU hs m r.1,r.2))=ae r:=e;refine aC (iA (s:="take") rfl ∅ (iA (s:="take") rfl ∅ (iA (s:="take") rfl ∅ ?_)));cases ei:aV (gs.map Fe.fd) nm ns with
  |none=>rw[gU ei]at e;cases e
  |some i=>
   rw[gN ei]at e;cases e;exact getY "take" gs [dI gs] i rfl oa.1 oa.2 ei _ (λ_ _ z=>z) (by rw[if_pos ∅];exact k)
 |read gs=>
  have e:(((bx gs (xb,xp,nm) ns).map λq=>(q.2,ns)).map λr=>(aU hs m r.1,r.2))=ae r:=e;refine aC (iA (s:="read") rfl ∅ (iA (s:="read") rfl ∅ (iA (s:="read") rfl ∅ ?_)));cases ei:aV (gs.map Fe.fd) nm ns with
  |none=>rw[gU ei]at e;cases e
  |some i=>
   rw[gN ei]at e;cases e;exact getY "read" gs [dI gs] i rfl oa.1 oa.2 ei _ (λ_ _ z=>z) (by rw[if_neg ∅];exact k)
 |look gs b=>
  have e:((match bx gs (xb,xp,nm) ns with|some q=>ae (q.2,ns)|none=>ae (bK P b nm,ns):Option (Hn×List Nt)).map λr=>(aU hs m r.1,r.2))=ae r:=e;refine aC (iA (s:="look") rfl ∅ (iA (s:="look") rfl ∅ (iA (s:="look") rfl ∅ ?_)));cases ei:aV (gs.map Fe.fd) nm ns with
  |none=>
   rw[gU ei]at e;cases e;have eg:eE ps hs ns m=ah:=by
    unfold eE;rw[ea,H.nmq];show(aV _ _ _).map _=_;rw[ei];rfl
   rw[eg];refine bz (λQ q=>aE (k:=ai) (λQ q=>ar (au rfl (aD (jf q)))) q) ?_;exact toB b rfl _ _ _ (λQ q=>lJ rfl q) _ (λ_ _ z=>z) k
  |some i=>
   rw[gN ei]at e;cases e;exact getY "look" gs [dI gs,.int b] i rfl oa.1 oa.2 ei _ (λ_ _ z=>z) (by rw[if_neg ∅];exact k)
theorem TM(hh:h < hs.length):aU hs h x=hs.set h x:=by
 rw[List.set_eq_take_append_cons_drop,if_pos hh];rfl
theorem okHs.put(ok:okHs ps hs)(hP:ps[h]?=ae P)(hb:P[x.1]?=ae b)(hx:okHn b x):okHs ps (aU hs h x):=by
 have hh:h < hs.length:=by rw[ok.1];exact(Av.mp hP).1
 rw[TM hh];refine⟨by rw[Cg];exact ok.1,λi P' hi=>?_⟩;by_cases e:h=i
 ·subst e;rw[hP]at hi;cases hi;exact⟨x,b,D6 hh,hb,hx⟩
 ·obtain⟨h',b',e1,e2,e3⟩:=ok.2 i P' hi;exact⟨h',b',by rw[Bw e];exact e1,e2,e3⟩
theorem Ig(h:as[p]?=ae a):kn w as (p+1)=kn w as p++a.bs:=by
 unfold kn;rw[List.take_add_one,h,G9,Bj];simp
theorem sI:∀(l:List (Fd×Ab))(h:Nm)(hs:List Str)(k:Nm),(∀x∈hs,x∈h.map (·.1))->wk l h hs=ae k->∀x,x∈k.map (·.1)↔x∈h.map (·.1)\/∃p∈l,p.1=.bind x
 |[],h,hs,k,_,e,x=>by cases e;simp
 | (f,v)::r,h,hs,k,hh,e,x=>by
  have same:wk r h hs=ae k->(∀y,f=.bind y->y∈h.map (·.1))->(x∈k.map (·.1)↔x∈h.map (·.1)\/∃p∈(f,v)::r,p.1=.bind x):=λe nb=>by
   rw[sI r h hs k hh e x]
   constructor
   ·rintro(q|⟨p,hp,q⟩)
    ·exact .inl q
    ·exact .inr ⟨p,Aw _ hp,q⟩
   ·rintro(q|⟨p,hp,q⟩)
    ·exact .inl q
    ·rcases Au.mp hp with rfl|hp
     ·exact .inl (nb x q)
     ·exact .inr ⟨p,hp,q⟩
  cases f with
  |is w=>unfold wk at e;split at e;exact same e (λy z=>by cases z);cases e
  |any=>unfold wk at e;exact same e (λy z=>by cases z)
  |word=>unfold wk at e;split at e;exact same e (λy z=>by cases z);cases e
  |number=>unfold wk at e;split at e;exact same e (λy z=>by cases z);cases e
  |as y=>
   unfold wk at e
   split at e
   ·split at e
    ·exact same e (λy z=>by cases z)
    ·cases e
   ·cases e
  |bind y=>
   unfold wk at e
   split at e
   ·rename_i hy
    split at e
    ·split at e
     ·exact same e (λz q=>by cases q;exact hh y hy)
     ·cases e
    ·cases e
   ·have pk:∀z,z∈(put h y v).map (·.1)↔z∈h.map (·.1)\/z=y:=λz=>by
     rw[AD]
     split
     ·rename_i q;obtain⟨p,hp,q⟩:=Ea.mp q;have hy:y∈h.map (·.1):=Bo.mpr ⟨p,hp,of_decide_eq_true q⟩;exact⟨.inl,λq=>q.elim id λq=>q▸hy⟩
     ·rw[Ba,Bg]
    rw[sI r (put h y v) (hs++[y]) k (λz hz=>(pk z).mpr ((Ba.mp hz).elim (λq=>.inl (hh z q)) λq=>.inr (Bg.mp q))) e x,pk x]
    constructor
    ·rintro((q|rfl)|⟨p,hp,q⟩)
     ·exact .inl q
     ·exact .inr ⟨_,A0,rfl⟩
     ·exact .inr ⟨p,Aw _ hp,q⟩
    ·rintro(q|⟨p,hp,q⟩)
     ·exact .inl (.inl q)
     ·rcases Au.mp hp with rfl|hp
      ·cases q;exact .inl (.inr rfl)
      ·exact .inr ⟨p,hp,q⟩
theorem LZ{row:List Ab}(hp:∀f∈gs,f.pt=ai)(hl:(gs.map Fe.fd).length=row.length)(x):(∃p∈(gs.map Fe.fd).zip row,p.1=.bind x)↔x∈bh gs:=by
 unfold bh;rw[Ga]
 constructor
 ·rintro⟨⟨a,b⟩,hp',e⟩
  obtain⟨f,hf,e'⟩:=Bo.mp (Fc hp').1;refine⟨f,hf,?_⟩;have e:a=.bind x:=e;rw[e]at e';cases f<;>first|(cases e';rfl)|cases e'
 ·rintro⟨f,hf,e⟩
  have ef:f=.bind x:=by cases f<;>first|(cases e;rfl)|cases e
  subst ef;obtain⟨i,hi⟩:=B6.mp hf;have hil:=(Av.mp hi).1;rw[Ad]at hl;refine⟨(.bind x,row[i]'⋯),B6.mpr ⟨i,?_⟩,rfl⟩;rw[List.getElem?_zip_eq_some];exact⟨by rw[Ax,hi];rfl,Al ⋯⟩
theorem KI(h:hU d)(h1:cX d=aj):hU (iZ d):=by
 rcases h with rfl|⟨i,rfl,h0,h2⟩
 ·exact .inl rfl
 ·have:¬i=1:=by simpa[cX]using h1
  exact .inr ⟨i-1,rfl,by omega,by omega⟩
theorem Nv(h:bX m ns):bX m (dw ns):=by
 unfold dw;refine⟨by rw[Ad];exact A9 (Gu _ _) h.1,λq hq=>?_⟩;obtain⟨p,hp,rfl⟩:=Bo.mp hq;obtain⟨h1,h2⟩:=Cp.mp hp;exact⟨(h.2 p h1).1,KI (h.2 p h1).2 (by simpa using h2)⟩
theorem vv(okp:bQ ps)(okh:okHs ps hs)(okn:bX M ns)(hm:m<=ps.length)(e:bU ps hs ns m=ae r):okHs ps r.1/\bX (M+1) r.2:=by
 unfold bU at e;by_cases em:m=ps.length
 ·rw[if_pos em]at e;cases e;have:=Nv okn;exact⟨okh,Nat.le_succ_of_le this.1,this.2⟩
 rw[if_neg em]at e;have hh:m < ps.length:=by omega
 obtain⟨P,xb,xp,nm,w,as,H⟩:=ig okh hh;cases ea:bA ps hs m with
 |none=>
  unfold eG at e;rw[H.prog,H.hand,ea]at e;cases e
 |some a=>
 rw[km H ea]at e;have oa:=H.ok okp ea;have ea':=ea;rw[H.act]at ea';have hxp:xp < as.length:=(Av.mp ea').1;have okn':bX (M+1) ns:=⟨Nat.le_succ_of_le okn.1,okn.2⟩;have on:a.bs=[]->okHs ps (aU hs m (b8 (xb,xp,nm) nm)):=λhb=>okh.put H.prog (x:=b8 (xb,xp,nm) nm) H.blk ⟨hxp,H.hn.nd,H.hn.ok,H.hn.up,λk=>by
  show k∈nm.map (·.1)↔k∈kn w as (xp+1);rw[Ig ea',hb,Bv];exact H.hn.mem k,H.hn.ln⟩
 have to:∀b,a.to=ae b->okHs ps (aU hs m (bK P b nm)):=λb hb=>by
  obtain⟨bl,hbl,obl,sub⟩:=H.to okp ea hb;have ew:lD P b=bl.1:=by unfold lD;rw[hbl];rfl
  refine okh.put H.prog (x:=bK P b nm) hbl ?_;have en:(bK P b nm).2.2=bl.1.map λk=>(k,gc nm k):=by
   unfold bK;rw[ew];exact ye H.hn.nd H.hn.up obl.2.2.2.2.1 obl.2.2.2.2.2 sub
  have ek:(bK P b nm).2.2.map (·.1)=bl.1:=by rw[en,Dg];exact List.map_id' _
  have sl:(bK P b nm).2.2.Sublist nm:=List.filter_sublist;refine⟨Br _,by rw[ek];exact obl.2.2.2.2.1,λp hp=>H.hn.ok p (sl.subset hp),List.Pairwise.sublist sl H.hn.up,λk=>by rw[ek];unfold kn;show _↔k∈bl.1++(bl.2.take 0).flatMap Ac.bs;simp,A9 sl.length_le H.hn.ln⟩
 have get:∀(gs:List Fe)(i:Nat),a.pf=ae (gs.map Fe.fd)->a.bs=bh gs->dR gs->gp gs->aV (gs.map Fe.fd) nm ns=ae i->okHs ps (aU hs m (b8 (xb,xp,nm) (cw (c8 (gs.map Fe.fd) (bP ns i) nm)))):=λgs i hpf hbs hof hpat ei=>by
  obtain⟨⟨row,age⟩,hq,hf⟩:=rJ ei;have er:bP ns i=row:=by unfold bP;rw[hq];rfl
  rw[er];have oq:=okn.2 _ (A8 hq);obtain⟨ep,op⟩:=mH hof hpat;obtain⟨nd,ew⟩:=EL H.hn.nd hf;obtain⟨wo,_⟩:=pz _ _ _ _ (AW op oq.1) H.hn.ok ew;have hlen:(gs.map Fe.fd).length=row.length:=by
   unfold cu at hf;rw[Du]at hf;exact of_decide_eq_true hf.1
  have pm:=FW (c8 (gs.map Fe.fd) row nm);have pk:((cw (c8 (gs.map Fe.fd) row nm)).map (·.1)).Perm ((c8 (gs.map Fe.fd) row nm).map (·.1)):=pm.map _;have hmem:∀k,k∈(cw (c8 (gs.map Fe.fd) row nm)).map (·.1)↔k∈kn w as (xp+1):=λk=>by
   rw[pk.mem_iff,sI _ _ _ _ (λx hx=>by simp at hx) ew k,LZ hpat.2 hlen,Ig ea',Ba,hbs];exact or_congr (H.hn.mem k) Iff.rfl
  have nd':=pk.nodup_iff.mpr nd;refine okh.put H.prog (x:=b8 (xb,xp,nm) _) H.blk ⟨hxp,nd',λp hp=>wo p (pm.mem_iff.mp hp),zo _,hmem,?_⟩;have:=t7 nd' (ks:=kn w as (xp+1)) λk hk=>(hmem k).mp hk;rw[Ad]at this;have h36:=Iv (H.okb okp).1 (xp+1);exact A9 this (A9 h36 ∎)
 cases a with
 |lay fs age=>
  cases e;obtain⟨hl4,hfv⟩:=H.lay okp ea;refine⟨on rfl,by rw[Ak,Ap];have:=okn.1;omega,λq hq=>?_⟩;rcases Ba.mp hq with hq|hq
  ·exact okn.2 q hq
  ·rw[Bg.mp hq];exact⟨⟨⟨by show(cS fs nm).length<=4;unfold cS;rw[Ad];exact hl4,by show 1<=(cS fs nm).length;unfold cS;rw[Ad];exact oa.2.2.2⟩,λd hd=>by
    obtain⟨f,hf,rfl⟩:=Bo.mp hd;exact iQ (hfv f hf)⟩,oa.2.2.1⟩
 |go b=>cases e;exact⟨to b rfl,okn'⟩
 |same f g b=>
  cases e;refine⟨?_,okn'⟩;show okHs ps (aU hs m (if fe (dN nm f) (dN nm g)=ai then b8 (xb,xp,nm) nm else bK P b nm))
  split
  ·exact on rfl
  ·exact to b rfl
 |take gs=>
  have e:(((bx gs (xb,xp,nm) ns).map λq=>(q.2,cf ns q.1)).map λr=>(aU hs m r.1,r.2))=ae r:=e;cases ei:aV (gs.map Fe.fd) nm ns with
  |none=>rw[gU ei]at e;cases e
  |some i=>
   rw[gN ei]at e;cases e;refine⟨get gs i rfl rfl oa.1 oa.2 ei,?_,λq hq=>?_⟩
   ·show(cf ns i).length<=_;unfold cf;rw[Ak,Dc,Cy];have:=okn.1;omega
   ·rcases Ba.mp hq with hq|hq
    ·exact okn.2 q (Fq hq)
    ·exact okn.2 q (List.mem_of_mem_drop hq)
 |read gs=>
  have e:(((bx gs (xb,xp,nm) ns).map λq=>(q.2,ns)).map λr=>(aU hs m r.1,r.2))=ae r:=e;cases ei:aV (gs.map Fe.fd) nm ns with
  |none=>rw[gU ei]at e;cases e
  |some i=>
   rw[gN ei]at e;cases e;exact⟨get gs i rfl rfl oa.1 oa.2 ei,okn'⟩
 |look gs b=>
  have e:((match bx gs (xb,xp,nm) ns with|some q=>ae (q.2,ns)|none=>ae (bK P b nm,ns):Option (Hn×List Nt)).map λr=>(aU hs m r.1,r.2))=ae r:=e;cases ei:aV (gs.map Fe.fd) nm ns with
  |none=>
   rw[gU ei]at e;cases e;exact⟨to b rfl,okn'⟩
  |some i=>
   rw[gN ei]at e;cases e;exact⟨get gs i rfl rfl oa.1 oa.2 ei,okn'⟩
theorem OR(okh:okHs ps hs)(hh:m < ps.length)(h:cK ps hs ns m=ai):∃r,bU ps hs ns m=ae r:=by
 obtain⟨P,xb,xp,nm,w,as,H⟩:=ig okh hh;unfold bU;rw[if_neg ⋯];cases ea:bA ps hs m with
 |none=>unfold cK at h;rw[ea]at h;cases h
 |some a=>
 rw[ui ea]at h;rw[km H ea];have eg:∀gs:List Fe,a.pf=ae (gs.map Fe.fd)->bj ps hs ns m=aV (gs.map Fe.fd) nm ns:=λgs hpf=>by
  unfold bj;rw[ea,H.nmq];show(a.pf.bind _)=_;rw[hpf];rfl
 have gt:∀gs:List Fe,(bj ps hs ns m).isSome=ai->a.pf=ae (gs.map Fe.fd)->∃q,bx gs (xb,xp,nm) ns=ae q:=λgs h1 h2=>by
  rw[eg gs h2]at h1;obtain⟨i,hi⟩:=Ei.mp h1;exact⟨_,gN hi⟩
 cases a with
 |lay fs age=>exact⟨_,rfl⟩
 |go b=>exact⟨_,rfl⟩
 |same f g b=>exact⟨_,rfl⟩
 |take gs=>
  obtain⟨q,hq⟩:=gt gs h rfl;show ∃r,(((bx gs (xb,xp,nm) ns).map λq=>(q.2,cf ns q.1)).map λr=>(aU hs m r.1,r.2))=ae r;rw[hq];exact⟨_,rfl⟩
 |read gs=>
  obtain⟨q,hq⟩:=gt gs h rfl;show ∃r,(((bx gs (xb,xp,nm) ns).map λq=>(q.2,ns)).map λr=>(aU hs m r.1,r.2))=ae r;rw[hq];exact⟨_,rfl⟩
 |look gs b=>
  show ∃r,((match bx gs (xb,xp,nm) ns with|some q=>ae (q.2,ns)|none=>ae (bK P b nm,ns):Option (Hn×List Nt)).map λr=>(aU hs m r.1,r.2))=ae r;cases bx gs (xb,xp,nm) ns with
  |none=>exact⟨_,rfl⟩
  |some q=>exact⟨_,rfl⟩
theorem Ld(k:w δ n λx n1=>w' δ n1 λy n2=>S [x,y] n2 Q):oV S (aq w (aq w' ao)) δ n Q:=k
theorem vc(k:Q (.d (.bool aj)) n):eu (.d (.str s)) (.d (.str s)) n Q:=by
 show Q (.d (.bool (!bq s (.str s)))) n;have:bq s (.str s)=ai:=by unfold bq;exact decide_eq_true rfl
 rw[this];exact k
theorem KP{j:Int}(m:Nat)(ej:j=m)(hm:m<=1000)(k:dJ g W K (bM 0 m) δ n):aW (dC (wC (.int j))) g W δ n K:=by
 subst ej;exact⟨⟨by omega,by omega⟩,by rw[Bq];exact k⟩
theorem xm(L)(m):aQ (L++[m])=aQ L++[.int m]:=Be
theorem hX(L:List Nat):(aQ L).length=L.length:=Ad _
theorem TX(okh:okHs ps hs)(hm:m<=ps.length)(c:m=ps.length\/cK ps hs ns m=ai):∃q,bU ps hs ns m=ae q:=by
 by_cases e:m=ps.length
 ·exact⟨_,by unfold bU;rw[if_pos e]⟩
 ·exact OR okh ⋯ (c.resolve_left e)
section
variable{δ:Sl}{n:Int}{Q:DQ}
theorem MD(e1:δ[1]?=ae (ae (.w .tp)))(hw:∀Q:DQ,Q (.d (.int m)) n->w δ n Q)(h:n < 2 ^ 40)(h0:0 < m)(h1:m < 1073741824)(k:∀r:Int,0<=r->r < m->Q (.d (.int r)) (n+1)):aF ck (aq ↥1 (aq w ao)) δ n Q:=
 bV (au e1 (hw _ (xX h h0 h1 k)))
end
theorem TJ:bN pZ yl ["_law_plan_here"]:=λws n Q h=>by
 obtain⟨ps,ns,rfl,hp,k⟩:=h;show yl [ae (.w (.d (.tuple [aX ps,cE ns])))] n _;refine aY (cy (aR (a9 (i9 (ds:=ps.map eB) (λQ q=>ar (au rfl (aD (cg q)))) ?_))));show cM _ _ _ _ _ _ [ah] n;refine qJ eB (λ_=>bG (0,0,[])) ps ah n (λP hP n Q' q=>gK (aD (aD (show aw ao _ _ _ from Am ∎ (Am (show 3<=1000 by decide) q))))) ?_;refine(show dM _ _ _ from ar (au rfl (aD (bJ (i:=1) rfl (Am (show 2<=1000 by decide) ?_)))));have e:(eT ps).map bG=ps.map λ_=>bG (0,0,[]):=by unfold eT;rw[Dg];rfl
 unfold bg at k;rw[e]at k;exact k
theorem Od(hp:bQ ps)(hf:∀P∈ps,iJ P):okHs ps (eT ps):=by
 refine⟨Ad _,λi P hi=>?_⟩;obtain⟨w,hw⟩:=hf P (A8 hi);obtain⟨b,r,rfl,hb,_⟩:=Ej.mp hw;refine⟨(0,0,[]),b,?_,rfl,Br _,List.nodup_nil,λp hp=>(by simp at hp),List.Pairwise.nil,λk=>?_,Br _⟩
 ·unfold eT;rw[Ax,hi];rfl
 ·show k∈([]:List Str)↔k∈kn b.1 b.2 0;unfold kn;rw[hb];simp
theorem uD(k:w δ n λx n1=>match iL [x]with
  |some ds=>ds.length<=1000/\Q ds n1
  |none=>False):aO (aq w ao) δ n Q:=k
theorem zm:(fR ps hs ns).length<=ps.length:=by
 unfold fR;rw[Ad];exact A9 (Gu _ _) (by rw[Cr];exact Ao _)
theorem J1:∀ws n Q,sQ ws n Q->GQ (gH ["_law_programs","_law_stand_here"] ws) n {nx:=λ_ _=>False,rt:=λ_ _=>False,rn:=Q}:=λws n Q h=>by
 obtain⟨ps,hs,ns,rfl,ok,k⟩:=h;show GQ [ae (.w (.d (aX ps))),ae (.w (.d (bg hs ns)))] n _;refine(show qZ _ _ _ _ from ?_);unfold qZ ko;refine a9 ?_;unfold cG dC;refine tI (ds:=ps.map eB) rfl (Am ⟨by omega,by rw[Ad];have:=ok.1.1;omega⟩ ?_);rw[Bq,Ad];refine QC ok ?_;refine a9 (uD (tI (ds:=ps.map eB) rfl (Am (show 1<=1000 by decide) ?_)));rw[Ad];refine Am ?_ k;have h1:=zm (ps:=ps) (hs:=hs) (ns:=ns);have:=ok.1.1;show(fR ps hs ns).length+1<=_;exact fh ⋯
theorem zc(l)(x:α):c7 (l++[x]) (-1)=ae x:=by
 have e:iI (l++[x]).length (-1)=ae l.length:=by
  unfold iI;rw[Ak,Ap,if_neg ⋯,if_pos ⋯]
  congr 1
  omega
 unfold c7;rw[e];show(l++[x])[l.length]?=ae x;rw[Cj (Ao _),Nat.sub_self];rfl
theorem Je(xs:List Ab):du xs ah (ae (-1))=xs.take (xs.length-1):=by
 have e:HT.sIx xs.length xs.length (ae (-1))=xs.length-1:=by
  show(if (-1:Int) < 0 then((-1:Int)+(xs.length:Int)).toNat else min (-1:Int).toNat xs.length)=_;rw[if_pos ∎];omega
 unfold du;rw[HT.sIx_none,Gj,Nat.sub_zero,e]
section
variable{δ:Sl}{n:Int}{Q:DQ}{i:Nat}
theorem rZ(e:δ[i]?=ae (ae (.own (xs++[x]))))(k:Q (.d x) n):w2 (ft i) (cJ ⇑1) aZ δ n Q:=by
 refine ar (mx e ?_);show(match c7 (xs++[x]) (-1)with|some d=>Q (.d d) n|none=>False);rw[zc];exact k
theorem zu(k:Q (.d (.bool (decide (b < a)))) n):mq (.d (.int a)) (.d (.int b)) n Q:=k
theorem yk(e:δ[i]?=ae (ae (.w (.d (.list ds)))))(k:Q (.d (.int ds.length)) n):wB fO (aq (ak i) ao) δ n Q:=aR (au e k)
end
theorem Wlk.snoc{s z r:Sd}(W:Wlk ps s L (S++[z]))(okp:bQ ps)(hm:m<=ps.length)(e:bU ps z.1 z.2 m=ae r):Wlk ps s (L++[m]) (S++[z]++[r]):=by
 have hS:S.length=L.length:=by have:=W.len;rw[Ak,Ap]at this;omega
 have hz:(S++[z])[S.length]?=ae z:=by rw[Cj (Ao _),Nat.sub_self];rfl
 have hr:(S++[z]++[r])[S.length+1]?=ae r:=by rw[Cj (by rw[Ak,Ap];exact Ao _),Ak,Ap,Nat.sub_self];rfl
 have up:∀i x,(S++[z])[i]?=ae x->(S++[z]++[r])[i]?=ae x:=λi x h=>by rw[C2 (Av.mp h).1];exact h
 refine⟨?_,up _ _ W.fst,λi x h=>?_,λi k h=>?_⟩
 ·rw[Ak,W.len,Ap,Ak,Ap]
 ·by_cases hi:i < (S++[z]).length
  ·rw[C2 hi]at h;exact W.ok i x h
  ·have hl:=(Av.mp h).1;rw[Ak,Ak,Ap,Ap]at hl;rw[Ak,Ap]at hi;obtain rfl:i=S.length+1:=by omega
   rw[hr]at h;cases h;obtain⟨h1,h2⟩:=W.ok _ _ hz;exact vv okp h1 h2 hm e
 ·by_cases hi:i < L.length
  ·rw[C2 hi]at h;obtain⟨h1,a,b,h2,h3,h4⟩:=W.st i k h;exact⟨h1,a,b,up _ _ h2,up _ _ h3,h4⟩
  ·have hl:=(Av.mp h).1;rw[Ak,Ap]at hl;obtain rfl:i=S.length:=by omega
   rw[Cj ⋯,show S.length-L.length=0 by omega]at h;cases h;exact⟨hm,z,r,up _ _ hz,hr,e⟩
def pb(ps:Pg)(z:Sd)(ds:List Ab):Prop:=0 < ds.length/\ds.length<=6/\∀d∈ds,∃m:Nat,d=.int m/\m<=ps.length/\(m=ps.length\/cK ps z.1 z.2 m=ai)
def oG(ps:Pg)(s:Sd)(mo:Nat)(n0:Int)(l:Nat)(δ:Sl)(n:Int):Prop:=∃(L:List Nat)(S:List Sd)(z:Sd)(x6 x7:Option SV),δ=[ae (.w .tp),ae (.w (.d (aX ps))),ae (.w (.d (cF s))),ae (.w (.d (.int mo))),ae (.own (aQ L)),ae (.own (S.map cF++[cF z])),x6,x7]/\Wlk ps s L (S++[z])/\L.length+l<=16/\n+2*(l:Int)<=n0+62
theorem uR(okp:bQ ps)(W:Wlk ps s L (S++[z]))(hd:pb ps z ds)(hL:L.length+(l+1)<=16)(hn:n+1+2*(l:Int)<=n0+62)(hn0:n0+62 < 2 ^ 39)(kN:∀δ n,oG ps s mo n0 l δ n->K.nx δ n):
  av (a8 4 (w2 ↥7 (aF ck (aq ↥0 (aq (wB fO (aq ↥7 ao)) ao))) aZ)) (a8 5 (aF qd (aq ↥1 (aq (w2 (ft 5) (cJ ⇑1) aZ) (aq (w2 (ft 4) (cJ ⇑1) aZ) ao)))))
   [ae (.w .tp),ae (.w (.d (aX ps))),ae (.w (.d (cF s))),ae (.w (.d (.int mo))),ae (.own (aQ L)),ae (.own (S.map cF++[cF z])),x6,ae (.w (.d (.list ds)))] n K:=by
 obtain⟨d0,d6,dm⟩:=hd;have hS:S.length=L.length:=by have:=W.len;rw[Ak,Ap]at this;omega
 have hz:(S++[z])[S.length]?=ae z:=by rw[Cj (Ao _),Nat.sub_self];rfl
 obtain⟨ok1,ok2⟩:=W.ok _ _ hz;have ok:b6 ps z.1 z.2:=⟨okp,ok1,A9 ok2.1 ⋯,ok2.2⟩;refine aC (iF rfl (ar (au rfl (gY (m:=(ds.length:Nat)) rfl (λQ q=>yk rfl q) ⋯ ⋯ ⋯ λr r0 r1=>i6 r0 r1 λd hd=>?_))));obtain⟨m,rfl,hm,hc⟩:=dm d hd;obtain⟨r,er⟩:=TX ok1 hm hc;refine Am (by rw[hX];omega) ?_;dsimp only[An];refine iF rfl (bH (au rfl (rZ rfl (rZ rfl ⟨ps,z.1,z.2,m,r,rfl,ok,hm,er,?_⟩))));refine Am (by rw[Ak,Ad,Ap];omega) (kN _ _ ⟨L++[m],S++[z],r,x6,ae (.w (.d (.list ds))),?_,W.snoc okp hm er,by rw[Ak,Ap];omega,by omega⟩);rw[xm,Be];rfl
theorem SK(hp:ps.length<=5):pb ps z (fR ps z.1 z.2++[.int ps.length]):=by
 have h1:=zm (ps:=ps) (hs:=z.1) (ns:=z.2);refine⟨by rw[Ak,Ap];omega,by rw[Ak,Ap];omega,λd hd=>?_⟩;rcases Ba.mp hd with q|q
 ·unfold fR at q;obtain⟨m,hm,rfl⟩:=Bo.mp q;obtain⟨h2,h3⟩:=Cp.mp hm;have:=Ci.mp h2;exact⟨m,rfl,by omega,.inr h3⟩
 ·rw[Bg]at q;exact⟨ps.length,q,Ao _,.inl rfl⟩
theorem Kw:bN uo AQ ["_law_tape_here","_law_programs","_law_stand_here","_law_most","_law_movers_here","_law_stands","_law_k","_law_some"]:=λws n0 Q h=>by
 obtain⟨ps,s,mo,rfl,hmo,okp,okh,okn,hn0,k⟩:=h;show AQ [ae (.w .tp),ae (.w (.d (aX ps))),ae (.w (.d (cF s))),ae (.w (.d (.int mo))),ah,ah,ah,ah] n0 _;refine aC (iD ?_);dsimp only[An];refine aC (show bC 5 _ _ _ _ from uD (au rfl (Am (show 1<=1000 by decide) ?_)));dsimp only[An];refine aC ?_;unfold aW dC;refine gY (m:=(mo:Int)+1) rfl (λQ q=>ar (au rfl (aD (dP q)))) ⋯ ⋯ ⋯ λr r0 r1=>?_;refine Am ⟨by omega,by omega⟩ ?_;have W0:Wlk ps s [] ([]++[s]):=⟨rfl,rfl,λi x h=>by
  cases i with
  |zero=>cases h;exact⟨okh,okn⟩
  |succ i=>simp at h,λi m h=>by simp at h⟩
 refine fA (λds δ n=>oG ps s mo n0 ds.length δ n) (λδ n I=>?_) (λd t δ n N I kN=>?_) _ _ _ ⟨[],[],s,ah,ah,rfl,W0,by rw[fj];show 0+_<=16;omega,by rw[fj];omega⟩
 ·obtain⟨L,S,z,x6,x7,rfl,W,hL,hn⟩:=I;dsimp only;refine gG rfl ?_;dsimp only[An];refine gG rfl ?_;dsimp only[An];refine aY (cy (au rfl (au rfl (Am (show 2<=1000 by decide) ?_))));have:=k L (S++[z]) n W (by simpa using hL) (by simpa using hn);rw[Be]at this;exact this
 ·obtain⟨L,S,z,x6,x7,rfl,W,hL,hn⟩:=I;rw[Ar]at hL hn;dsimp only[aI,An];have hz:(S++[z])[S.length]?=ae z:=by rw[Cj (Ao _),Nat.sub_self];rfl
  have hS:S.length=L.length:=by have:=W.len;rw[Ak,Ap]at this;omega
  obtain⟨ok1,ok2⟩:=W.ok _ _ hz;refine aC (show aB 7 _ _ _ _ from a9 (Ld (au rfl (rZ rfl ⟨ps,z.1,z.2,rfl,⟨okp,ok1,A9 ok2.1 ⋯,ok2.2⟩,?_⟩))));dsimp only[An];have M:=SK (z:=z) okp.1;generalize fR ps z.1 z.2++[.int ps.length]=ds at M;refine aC (cZ ?_);refine(show cT _ _ _ _ from ar (yk rfl (aD (zu ?_))));refine jb (λz1=>?_) λ_=>?_
  ·have h1:1 < ds.length:=by have:=of_decide_eq_true z1;omega
   refine ar (gY (m:=5) rfl (λQ q=>aD q) ⋯ ⋯ ⋯ λr r0 r1=>aD (zu ?_));refine jb (λ_=>?_) λ_=>?_
   ·refine(show aB 7 _ _ _ _ from ?_);unfold aB iO cR cP;refine au rfl ?_;show(_:Prop);dsimp only[cJ,wC];rw[Je];dsimp only[An];refine uR okp W ⟨by rw[Dc];omega,A9 (List.length_take_le _ _) (by have:=M.2.1;omega),λd hd=>M.2.2 d (Fq hd)⟩ ⋯ ⋯ hn0 kN
   ·dsimp only[aL];exact uR okp W M ⋯ ⋯ hn0 kN
  ·dsimp only[aL];exact uR okp W M ⋯ ⋯ hn0 kN
theorem AY(x)(nu)(q:Nt)(ns):f9 (x::nu) (q::ns)=if cX q.2=ai then x::f9 nu ns else f9 nu ns:=by
 unfold f9;rw[F9,Ex];dsimp only
 split<;>rfl
theorem M6(h:x∈f9 nu ns):x∈nu:=by
 obtain⟨⟨a,b⟩,hp,rfl⟩:=Bo.mp h;exact(Fc (Cp.mp hp).1).1
theorem AL:∀(nu:List Nat)(ns:List Nt),nu.Nodup->nu.length=ns.length->(nu.filter λx=>!decide (x∈f9 nu ns)).length=(dw ns).length
 |[],[],_,_=>rfl
 |[],_::_,_,h=>nomatch h
 |_::_,[],_,h=>nomatch h
 |x::nu,q::ns,nd,hl=>by
  obtain⟨a,b⟩:=Dl.mp nd;have ih:=AL nu ns b (Nat.succ.inj hl);have hx:x∉f9 nu ns:=λz=>a (M6 z);have ec:(dw (q::ns)).length=(if cX q.2=ai then 0 else 1)+(dw ns).length:=by
   unfold dw;rw[Ex];cases cX q.2
   ·exact Nat.add_comm _ _
   ·exact(Ek _).symm
  rw[AY,ec,<-ih];cases e:cX q.2 with
  |true=>
   rw[if_pos rfl,if_pos rfl,Ex,if_neg (by simp),Ek]
   congr 1
   refine List.filter_congr λy hy=>?_;have:y≠x:=λz=>a (z▸hy);simp[this]
  |false=>
   rw[if_neg Ag,if_neg Ag,Ex,if_pos (by simp[hx]),Ar,Nat.add_comm]
theorem sM(h:i < nu.length):gB nu (ae i)=ae nu[i]:=Al h
theorem xx(h:i < nu.length):eY nu (ae i)=.int (nu[i]:Nat):=by
 unfold eY;rw[sM h];rfl
theorem Sf{nu:List Nat}(nd:nu.Nodup)(h:i < nu.length):(nu.filter λx=>!decide (ae x=gB nu (ae i))).length=nu.length-1:=by
 rw[sM h];have:(nu.filter λx=>!decide (ae x=ae nu[i]))=nu.erase nu[i]:=by
  rw[nd.erase_eq_filter];refine List.filter_congr λy _=>?_;by_cases z:y=nu[i]
  ·rw[<-z];simp
  ·simp[z]
 rw[this,List.length_erase_of_mem (Cz h)]
def ND(ps:Pg)(s t:Sd)(m:Nat)(nm:Nm):Ac->Prop
 |.lay fs age=>t.2=s.2++[(cS fs nm,age)]
 |.take _=>∃i,bj ps s.1 s.2 m=ae i/\i < s.2.length/\t.2=cf s.2 i
 |.read _=>t.2=s.2/\∃i,bj ps s.1 s.2 m=ae i/\i < s.2.length
 |.look _ _=>t.2=s.2/\∀i,bj ps s.1 s.2 m=ae i->i < s.2.length
 |_=>t.2=s.2
theorem vb{s t:Sd}(okh:okHs ps s.1)(hm:m < ps.length)(af:bU ps s.1 s.2 m=ae t):∃P xb xp nm w as a,HandAt ps s.1 m P xb xp nm w as/\bA ps s.1 m=ae a/\ND ps s t m nm a:=by
 obtain⟨P,xb,xp,nm,w,as,H⟩:=ig okh hm;unfold bU at af;rw[if_neg ⋯]at af;cases ea:bA ps s.1 m with
 |none=>
  unfold eG at af;rw[H.prog,H.hand,ea]at af;cases af
 |some a=>
 refine⟨P,xb,xp,nm,w,as,a,H,rfl,?_⟩;rw[km H ea]at af;have eg:∀gs:List Fe,a.pf=ae (gs.map Fe.fd)->bj ps s.1 s.2 m=aV (gs.map Fe.fd) nm s.2:=λgs hpf=>by
  unfold bj;rw[ea,H.nmq];show(a.pf.bind _)=_;rw[hpf];rfl
 have lt:∀{gs:List Fe}{i:Nat},aV (gs.map Fe.fd) nm s.2=ae i->i < s.2.length:=λh=>by
  obtain⟨q,hq,_⟩:=rJ h;exact(Av.mp hq).1
 cases a with
 |lay fs age=>cases af;rfl
 |go b=>cases af;rfl
 |same f g b=>cases af;rfl
 |take gs=>
  have af:(((bx gs (xb,xp,nm) s.2).map λq=>(q.2,cf s.2 q.1)).map λr=>(aU s.1 m r.1,r.2))=ae t:=af;cases ei:aV (gs.map Fe.fd) nm s.2 with
  |none=>rw[gU ei]at af;cases af
  |some i=>rw[gN ei]at af;cases af;exact⟨i,by rw[eg gs rfl,ei],lt ei,rfl⟩
 |read gs=>
  have af:(((bx gs (xb,xp,nm) s.2).map λq=>(q.2,s.2)).map λr=>(aU s.1 m r.1,r.2))=ae t:=af;cases ei:aV (gs.map Fe.fd) nm s.2 with
  |none=>rw[gU ei]at af;cases af
  |some i=>rw[gN ei]at af;cases af;exact⟨rfl,i,by rw[eg gs rfl,ei],lt ei⟩
 |look gs b=>
  have af:((match bx gs (xb,xp,nm) s.2 with|some q=>ae (q.2,s.2)|none=>ae (bK P b nm,s.2):Option (Hn×List Nt)).map λr=>(aU s.1 m r.1,r.2))=ae t:=af;refine⟨?_,λi h=>lt (by rw[<-eg gs rfl];exact h)⟩;cases ei:aV (gs.map Fe.fd) nm s.2 with
  |none=>rw[gU ei]at af;cases af;rfl
  |some i=>rw[gN ei]at af;cases af;rfl
theorem vf:b7 ps s nu fr ps.length=(.tuple [.str "clock",.tuple (aQ (f9 nu s.2))],nu.filter (λx=>!decide (x∈f9 nu s.2)),fr):=by unfold b7;rw[if_pos rfl]
theorem w4(hm:m < ps.length)(ea:bA ps s.1 m=ae a):b7 ps s nu fr m=jv ps s nu fr m a:=by
 unfold b7;rw[if_neg ⋯,ea]
theorem RY(B:okBd ps s t nu fr m):okNu t (b7 ps s nu fr m).2.1 (b7 ps s nu fr m).2.2/\(b7 ps s nu fr m).2.2<=fr+1:=by
 obtain⟨st,⟨nd,len,lt⟩,le,af⟩:=B;by_cases em:m=ps.length
 ·subst em;unfold bU at af;rw[if_pos rfl]at af;cases af;rw[vf];exact⟨⟨nd.filter _,AL nu s.2 nd len,λx hx=>lt x (Cp.mp hx).1⟩,Dm _⟩
 ·have hm:m < ps.length:=by omega
  obtain⟨P,xb,xp,nm,w,as,a,H,ea,T⟩:=vb st.2.1 hm af;rw[w4 hm ea];cases a with
  |lay fs age=>
   have T:t.2=s.2++[(cS fs nm,age)]:=T;refine⟨⟨?_,?_,λx hx=>?_⟩,Ao _⟩
   ·exact List.nodup_append.mpr ⟨nd,Dl.mpr ⟨A1,List.nodup_nil⟩,λx hx y hy e=>by rw[Bg.mp hy]at e;have:=lt x hx;omega⟩
   ·show(nu++[fr]).length=t.2.length;rw[T,Ak,Ak,len];rfl
   ·rcases Ba.mp hx with hx|hx
    ·exact Dk (lt x hx)
    ·rw[Bg.mp hx];exact Fy _
  |take gs=>
   obtain⟨i,eg,hi,T⟩:=T;refine⟨⟨nd.filter _,?_,λx hx=>lt x (Cp.mp hx).1⟩,Dm _⟩;show(nu.filter λx=>!decide (ae x=gB nu (bj ps s.1 s.2 m))).length=_;rw[eg,Sf nd ⋯,T];unfold cf;rw[Ak,Dc,Cy];omega
  |read gs=>exact⟨⟨nd,by rw[T.1];exact len,lt⟩,Dm _⟩
  |look gs b=>exact⟨⟨nd,by rw[T.1];exact len,lt⟩,Dm _⟩
  |go b=>exact⟨⟨nd,by rw[show t.2=s.2 from T];exact len,lt⟩,Dm _⟩
  |same f g b=>exact⟨⟨nd,by rw[show t.2=s.2 from T];exact len,lt⟩,Dm _⟩
theorem Qu(s:Sd):okNu s (Bi s.2.length) s.2.length:=⟨List.nodup_range,Cr,λ_ hx=>Ci.mp hx⟩
theorem O1(ha:hU a)(k:Q (.d (.bool (cX a))) n):aT (.d a) (.d (.int 1)) n Q:=by
 rcases ha with rfl|⟨i,rfl,_⟩
 ·exact k
 ·exact k
theorem SS:bN sv EU ["plan"]:=λws n Q h=>by
 obtain⟨ps,ns,rfl,hp,k⟩:=h;show EU [ae (.w (.d (.tuple [aX ps,cE ns])))] n _;refine aY (cy (aR (a9 (i9 (ds:=ps.map eB) (λQ q=>ar (au rfl (aD (cg q)))) ?_))));show cM _ _ _ _ _ _ [ah] n;refine qJ eB (λ_=>bG (0,0,[])) ps ah n (λP hP n Q' q=>gK (aD (aD (show aw ao _ _ _ from Am ∎ (Am (show 3<=1000 by decide) q))))) ?_;refine(show dM _ _ _ from aR (ar (au rfl (aD (bJ (i:=1) rfl (show dM [.d (.tuple (ns.map dD))] _ _ from Am (show 2<=1000 by decide) ?_))))));have e:(eT ps).map bG=ps.map λ_=>bG (0,0,[]):=by unfold eT;rw[Dg];rfl
 unfold bg at k;rw[e]at k;exact k
theorem Ur:bN sH EZ ["plan","many"]:=λws n Q h=>by
 obtain⟨ps,ns,rfl,hp,hn,k⟩:=h;show EZ [ae (.w (.d (.tuple [aX ps,cE ns]))),ah] n _;refine aC (bE (x:=.int ns.length) (λQ q=>aR (de rfl (show Q (.d (.int ((ns.map dD).length:Nat))) n by rw[Ad];exact q))) ?_);dsimp only[An];exact aY (gK (cq (au rfl ⟨ps,ns,rfl,hp,(show wQ _ _ _ _ from au rfl ⟨ns.length,rfl,by omega,au rfl (Am (show 3<=1000 by decide) k)⟩)⟩)))
theorem yA:∀(ns:List Nt)(nu:List Nat)(acc:List Ab)(x y:Option SV)(n:Int),nu.length=ns.length->(∀q∈ns,hU q.2)->Q (acc++aQ (f9 nu ns)) n->
  cM (dO 2 (bB (aI 0) (bB (aI 1) cz))) (cT (w2 (w2 ↥0 ⇑1 az) ⇑1 aT)) ↥1 Q (df (ns.map dD) (aQ nu)) acc [x,y] n
 |[],[],acc,x,y,n,_,_,q=>by
  rw[show aQ (f9 [] [])=[]from rfl,Bv]at q;exact q
 |[],_::_,_,_,_,_,h,_,_=>nomatch h
 |_::_,[],_,_,_,_,h,_,_=>nomatch h
 |q::ns,i::nu,acc,x,y,n,hl,h,k=>by
  have ih:=λacc x y k=>yA (Q:=Q) ns nu acc x y n (Nat.succ.inj hl) (λq hq=>h q (Aw _ hq)) k;refine(show dO 2 _ (.tuple [dD q,.int i]) [x,y] _ from⟨rfl,?_⟩);dsimp only[bB,cz,aI,An];refine aE (k:=cX q.2) (λQ q'=>ar (de (a:=.tuple q.1) (b:=q.2) (r:=[]) rfl (aD (O1 (h q A0) q')))) ?_;rw[AY]at k;refine jb (λz=>?_) λz=>?_
  ·rw[if_pos z]at k;exact au rfl (ih _ _ _ (by rw[Bj];exact k))
  ·rw[if_neg (by rw[z];exact Ag)]at k;exact ih _ _ _ k
theorem To:bN uL yM ["board","gone"]:=λws n Q h=>by
 obtain⟨s,nu,fr,rfl,hl,ha,k⟩:=h;show yM [ae (.w (.d (d9 s nu fr))),ah] n _;refine aC (show aB 1 _ _ _ _ from a9 ?_);unfold cG kA;refine ar (dj (a:=cF s) rfl (aD (e9 (a:=.tuple (s.1.map bG)) (b:=cE s.2) (r:=[]) (de (b:=.tuple (aQ nu)) rfl (Am ?_ ?_)))))
 ·rw[Ad,hX,hl]
 show cM _ _ _ _ _ _ [ah,ah] n;refine yA s.2 nu [] ah ah n hl ha ?_;dsimp only[An,B8];exact aY (cy (aD (aR (au rfl (pX (Am (show 2<=1000 by decide) k))))))
abbrev pA:List (Str×Str):=[("take","takes"),("read","reads"),("look","looks")]
theorem CP{D:List (Str×Str)}(hw:∀Q:DQ,Q (.d (.str s)) n->w δ n Q)(e:(!(Bb s D).isSome)=b)(q:Q b n):cT (o6 D w) δ n Q:=by
 refine hw _ ?_;show Q (!(Bb s D).isSome) n;rw[e];exact q
theorem M0{D:List (Str×Str)}(hw:∀Q:DQ,Q (.d (.str s)) n->w δ n Q)(e:Bb s D=ae r)(hl:r.length<=1000)(q:Q (.d (.str r)) n):iU D w δ n Q:=by
 refine hw _ ?_;dsimp only;rw[e];exact⟨hl,q⟩
theorem JG(k:Q (.d x) n):az (.d (.tuple (xs++[x]))) (.d (.int (-1))) n Q:=by
 show(match c7 (xs++[x]) (-1)with|some d=>Q (.d d) n|none=>False);rw[zc];exact k
theorem KN(k:Q (.d x) n):cJ (wC (.int 1)) δ n (λy n2=>az (.d (.tuple (xs++[x]))) y n2 Q):=JG k
theorem wW{h:Str}(h1:h≠"clock")(h2:h≠"takes"):gQ (.tuple (.str h::r))=[]:=by simp only[gQ,if_neg h1,if_neg h2]
theorem NL{nu:List Nat}(hi:i < nu.length)(k:Q (.d (eY nu (ae i))) n):az (.d (.tuple (aQ nu))) (.d (.int i)) n Q:=by
 rw[xx hi]at k;exact bJ (by unfold aQ;rw[Ax,Al hi];rfl) k
theorem Lk:bN vq xt ["programs","board","hand","behind","act","place"]:=λws n Q h=>by
 obtain⟨ps,s,t,nu,fr,m,rfl,B,hm,k⟩:=h;obtain⟨P,xb,xp,nm,w,as,a,H,ea,T⟩:=vb B.st.2.1 hm B.af;rw[w4 hm ea]at k;show xt [ae (.w (.d (aX ps))),ae (.w (.d (d9 s nu fr))),ae (.w (.d (.int m))),ae (.w (.d (cF t))),ah,ah] n _;refine aC (bE (x:=a.d) (λQ q=>bH (au rfl (dj (a:=cF s) rfl (au rfl ⟨ps,s.1,s.2,m,rfl,B.st.2.1,hm,by rw[ea];exact q⟩)))) ?_);dsimp only[An];have go:∀(x:Str)(r:List Ab),bq "lay" (.str x)=aj->(!(Bb x pA).isSome)=ai->a.d=.tuple (.str x::r)->Q (.d (.tuple [.str "goes",.int m])) n->
   (av (aJ (cT (w2 (w2 ↥4 ⇑0 az) (wC (.str "lay")) aT)) (aA (aw (aq (wC (.str "lays")) (aq ↥2 (aq (w2 ↥1 ⇑2 az) (aq (w2 (w2 ↥3 ⇑1 az) (cJ ⇑1) az) ao)))))) aL) (av (aJ (cT (o6 [("take","takes"),("read","reads"),("look","looks")] (w2 ↥4 ⇑0 az))) (aA (aw (aq (wC (.str "goes")) (aq ↥2 ao)))) aL) (av (aB 5 (aF lV (aq ↥0 (aq (w2 ↥1 ⇑0 az) (aq ↥2 ao))))) (aA (aw (aq (iU [("take","takes"),("read","reads"),("look","looks")] (w2 ↥4 ⇑0 az)) (aq ↥2 (aq (fD (cT (w2 ↥5 (wC .none) (cm aj))) (wC .none) (w2 (w2 ↥1 ⇑1 az) ↥5 az)) ao))))))))
    [ae (.w (.d (aX ps))),ae (.w (.d (d9 s nu fr))),ae (.w (.d (.int m))),ae (.w (.d (cF t))),ae (.w (.d a.d)),ah] n {nx:=λ_ n=>Q (.d .none) n,rt:=Q}:=λx r h1 h2 e q=>by
  rw[e];refine aC (jJ (a:=.str x) rfl h1 ?_);dsimp only[aL];exact aC (bz (λQ q=>CP (λQ q=>dj rfl q) h2 q) (aY (cy (aD (au rfl (Am (show 2<=1000 by decide) q))))))
 have get:∀(x y:Str)(r:List Ab),bq "lay" (.str x)=aj->Bb x pA=ae y->y.length<=1000->(∀i,bj ps s.1 s.2 m=ae i->i < s.2.length)->a.d=.tuple (.str x::r)->Q (.d (.tuple [.str y,.int m,eY nu (bj ps s.1 s.2 m)])) n->
   (av (aJ (cT (w2 (w2 ↥4 ⇑0 az) (wC (.str "lay")) aT)) (aA (aw (aq (wC (.str "lays")) (aq ↥2 (aq (w2 ↥1 ⇑2 az) (aq (w2 (w2 ↥3 ⇑1 az) (cJ ⇑1) az) ao)))))) aL) (av (aJ (cT (o6 [("take","takes"),("read","reads"),("look","looks")] (w2 ↥4 ⇑0 az))) (aA (aw (aq (wC (.str "goes")) (aq ↥2 ao)))) aL) (av (aB 5 (aF lV (aq ↥0 (aq (w2 ↥1 ⇑0 az) (aq ↥2 ao))))) (aA (aw (aq (iU [("take","takes"),("read","reads"),("look","looks")] (w2 ↥4 ⇑0 az)) (aq ↥2 (aq (fD (cT (w2 ↥5 (wC .none) (cm aj))) (wC .none) (w2 (w2 ↥1 ⇑1 az) ↥5 az)) ao))))))))
    [ae (.w (.d (aX ps))),ae (.w (.d (d9 s nu fr))),ae (.w (.d (.int m))),ae (.w (.d (cF t))),ae (.w (.d a.d)),ah] n {nx:=λ_ n=>Q (.d .none) n,rt:=Q}:=λx y r h1 h2 h3 lt e q=>by
  rw[e];refine aC (jJ (a:=.str x) rfl h1 ?_);dsimp only[aL];refine aC (bf (λQ q=>CP (λQ q=>dj rfl q) (by rw[h2];rfl) q) ?_);dsimp only[aL];refine aC (bE (x:=gz (bj ps s.1 s.2 m)) (λQ q=>bH (au rfl (dj (a:=cF s) rfl (au rfl ⟨ps,s.1,s.2,m,rfl,B.st,hm,q⟩)))) ?_);dsimp only[An];refine aY (gK (M0 (λQ q=>dj rfl q) h2 h3 (au rfl ?_)));cases eg:bj ps s.1 s.2 m with
  |none=>
   rw[eg]at q;exact gE (b:=ai) (λQ q=>aE (k:=ai) (λQ q=>ar (au rfl (aD (fi q)))) q) (by rw[if_pos rfl];exact aD (Am (show 3<=1000 by decide) q))
  |some i=>
   rw[eg]at q;have hi:i < nu.length:=by rw[B.nu.len];exact lt i eg
   exact gE (b:=aj) (λQ q=>aE (k:=aj) (λQ q=>ar (au rfl (aD (fi q)))) q) (by rw[if_neg Ag];exact ar (de (b:=.tuple (aQ nu)) rfl (au rfl (NL hi (Am (show 3<=1000 by decide) q)))))
 cases a with
 |lay fs age=>
  have T:t.2=s.2++[(cS fs nm,age)]:=T;have k:Q (.d (.tuple [.str "lays",.int m,.int fr,dD (cS fs (jc s.1 m),age)])) n:=k;rw[H.nmq]at k;refine aC (m3 (a:=.str "lay") rfl ∅ ?_);refine aY (Hl (aD (au rfl (ar (au rfl (aD (dz (ar (de (a:=.tuple (t.1.map bG)) (b:=cE t.2) (r:=[]) rfl ?_)))))))));unfold cE;rw[T,Be];exact KN (xs:=s.2.map dD) (x:=dD (cS fs nm,age)) (Am (show 4<=1000 by decide) k)
 |take gs=>obtain⟨i,eg,hi,_⟩:=T;exact get "take" "takes" _ ∅ ∅ ∅ (λj h=>by rw[eg]at h;cases h;exact hi) rfl k
 |read gs=>obtain⟨_,i,eg,hi⟩:=T;exact get "read" "reads" _ ∅ ∅ ∅ (λj h=>by rw[eg]at h;cases h;exact hi) rfl k
 |look gs b=>exact get "look" "looks" _ ∅ ∅ ∅ T.2 rfl k
 |same f g b=>exact go "same" _ ∅ ∅ rfl k
 |go b=>exact go "go" _ ∅ ∅ rfl k
theorem Ln:bN sR xW ["programs","board","mover","behind"]:=λws n Q h=>by
 obtain⟨ps,s,t,nu,fr,m,rfl,B,k⟩:=h;show xW [ae (.w (.d (aX ps))),ae (.w (.d (d9 s nu fr))),ae (.w (.d (.int m))),ae (.w (.d (cF t)))] n _;refine aC (cZ (aE (k:=decide ((m:Int)=(ps.length:Nat))) (λQ q=>ar (au rfl (aR (au rfl ?_)))) ?_))
 ·show Q (.d (.bool (decide ((m:Int)=((ps.map eB).length:Nat))))) n;rw[Ad];exact q
 by_cases em:m=ps.length
 ·subst em;rw[vf]at k;show if decide _=ai then _ else _
  rw[if_pos (decide_eq_true rfl)];exact aY (cq (au rfl ⟨s,nu,fr,rfl,B.nu.len,λq hq=>(B.st.2.2.2 q hq).2,k⟩))
 ·show if decide _=ai then _ else _
  rw[if_neg (by rw[decide_eq_false ⋯];exact Ag)];dsimp only[aL];exact aY (eC (au rfl (au rfl (au rfl (au rfl ⟨ps,s,t,nu,fr,m,rfl,B,by have:=B.le;omega,k⟩)))))
theorem yE(z:x≠h):bq h (.str x)=aj:=decide_eq_false z
theorem Jc:bN wO Hm ["row"]:=λws n Q h=>by
 obtain⟨row,rfl,ok,k⟩:=h;show Hm [ae (.w (.d row))] n _;cases row with
 |tuple l=>cases l with
  |nil=>exact ok.elim
  |cons d r=>cases d with
   |str h=>
    rcases ok with⟨rfl,l,rfl⟩|⟨rfl,a,b,rfl⟩|⟨h1,h2⟩
    ·have k:Q (.d (.tuple l)) n:=k;exact aC (m3 (a:=.str "clock") rfl ∅ (aY (de rfl k)))
    ·have k:Q (.d (.tuple [b])) n:=k;refine aC (jJ (a:=.str "takes") rfl ∅ ?_);dsimp only[aL];exact aY (gE (b:=ai) (λQ q=>aE (λQ q=>j8 (a:=.str "takes") rfl (by rw[show bq "takes" (.str "takes")=ai by decide +kernel];exact q)) q) (by rw[if_pos rfl];exact lT (ar (au rfl (aD (dz (Am (show 1<=1000 by decide) k)))))))
    ·rw[wW h1 h2]at k;refine aC (jJ (a:=.str h) rfl (yE h1) ?_);dsimp only[aL];exact aY (gE (b:=aj) (λQ q=>aE (λQ q=>j8 (a:=.str h) rfl (by rw[yE h2];exact q)) q) (by rw[if_neg Ag];exact(show aw ao _ _ _ from Am ∎ k)))
   |_=>exact ok.elim
 |_=>exact ok.elim
theorem O0(l):(aQ l).all eI=ai:=by
 rw[Ez];intro d hd;obtain⟨i,_,rfl⟩:=Bo.mp hd;rfl
theorem yW(x:Nat):∀l:List Nat,bI (.int x) (aQ l)=decide (x∈l)
 |[]=>rfl
 |y::l=>by
  show(((y:Int)==(x:Int)) || bI (.int x) (aQ l))=_;rw[yW x l];by_cases e:x=y
  ·subst e;simp
  ·have:((y:Int)==(x:Int))=aj:=by simp;omega
   simp[this,e]
theorem OZ(x i:Nat):bI (.int x) [.int i]=decide (ae x=ae i):=by
 show(((i:Int)==(x:Int)) || false)=_;by_cases e:x=i
 ·subst e;simp
 ·have h1:((i:Int)==(x:Int))=aj:=by simp;omega
  rw[h1,decide_eq_false λz=>e (Bc z)];rfl
theorem OA(nu:List Nat)(hf:wl.all eI=ai)(q:Q (aQ (nu.filter λx=>!bI (.int x) wl)) n):
  cM (aI 0) (cT (w2 ↥0 ↥1 (fZ ai))) ↥0 Q (aQ nu) [] [ah,ae (.w (.d (.tuple wl)))] n:=
 j7 (λi:Nat=>.int i) (λi:Nat=>.int i) (λx=>!bI (.int x) wl) nu [] ah n (λa _ n Q' q=>aE (k:=!bI (.int a) wl) (λQ q=>ar (au rfl (au rfl (Am rfl (Am hf q))))) q) (λa _ n Q' q=>au rfl q) (by rw[B8];exact q)
theorem qX(hr:nv row)(hf:(gQ row).all eI=ai)
  (k:(av (aJ (cT (w2 (w2 ↥1 ⇑0 az) (wC (.str "lays")) aT)) (aA (aw (aq ↥2 (aq (w2 ↥4 (aw (aq (w2 ↥1 ⇑2 az) ao)) eR) (aq (w2 (w2 ↥0 ⇑2 az) ⇑1 (cx λi j=>.int (i+j))) ao))))) aL) (aA (aw (aq ↥2 (aq ↥4 (aq (w2 ↥0 ⇑2 az) ao))))))
   [ae (.w (.d (d9 s nu fr))),ae (.w (.d row)),ae (.w (.d (cF t))),ae (.w (.d (.tuple (gQ row)))),ae (.w (.d (.tuple (aQ (nu.filter λx=>!bI (.int x) (gQ row))))))] n K):
  rC [ae (.w (.d (d9 s nu fr))),ae (.w (.d row)),ae (.w (.d (cF t))),ah,ah] n K:=by
 refine aC (bE (x:=.tuple (gQ row)) (λQ q=>cq (au rfl ⟨row,rfl,hr,q⟩)) ?_);dsimp only[An];refine aC (bE (x:=.tuple (aQ (nu.filter λx=>!bI (.int x) (gQ row)))) (λQ q=>aR (a9 (i9 (ds:=aQ nu) (λQ q=>de rfl q) ?_))) k);show cM _ _ _ _ _ _ [ah,ae (.w (.d (.tuple (gQ row))))] n;exact OA nu hf (pX q)
theorem GO(nu:List Nat):(nu.filter λx:Nat=>!bI (.int (x:Int)) [])=nu:=List.filter_eq_self.mpr λ_ _=>rfl
theorem MG:bN vx rC ["board","row","behind","went","numbers"]:=λws n Q h=>by
 obtain⟨ps,s,t,nu,fr,m,rfl,B,hl,k⟩:=h;show rC [ae (.w (.d (d9 s nu fr))),ae (.w (.d (b7 ps s nu fr m).1)),ae (.w (.d (cF t))),ah,ah] n _;have tail:∀(x:Str)(r:List Ab)(nu':List Nat),bq "lays" (.str x)=aj->Q (.d (d9 t nu' fr)) n->∀wl,(av (aJ (cT (w2 (w2 ↥1 ⇑0 az) (wC (.str "lays")) aT)) (aA (aw (aq ↥2 (aq (w2 ↥4 (aw (aq (w2 ↥1 ⇑2 az) ao)) eR) (aq (w2 (w2 ↥0 ⇑2 az) ⇑1 (cx λi j=>.int (i+j))) ao))))) aL) (aA (aw (aq ↥2 (aq ↥4 (aq (w2 ↥0 ⇑2 az) ao))))))
   [ae (.w (.d (d9 s nu fr))),ae (.w (.d (.tuple (.str x::r)))),ae (.w (.d (cF t))),ae (.w (.d wl)),ae (.w (.d (.tuple (aQ nu'))))] n {nx:=λ_ n=>Q (.d .none) n,rt:=Q}:=λx r nu' h1 q wl=>by
  refine aC (jJ (a:=.str x) rfl h1 ?_);dsimp only[aL];exact aY (gK (au rfl (au rfl (ar (au rfl (aD (dz (Am (show 3<=1000 by decide) q))))))))
 by_cases em:m=ps.length
 ·subst em;rw[vf]at k ⊢;refine qX (.inl ⟨rfl,_,rfl⟩) (O0 _) ?_;refine tail "clock" _ _ ∅ ?_ _;rw[show(λx:Nat=>!bI (.int x) (gQ (.tuple [.str "clock",.tuple (aQ (f9 nu s.2))])))=λx=>!decide (x∈f9 nu s.2)from funext λx=>by rw[<-yW];rfl];exact k
 ·have hm:m < ps.length:=by have:=B.le;omega
  obtain⟨P,xb,xp,nm,w,as,a,H,ea,T⟩:=vb B.st.2.1 hm B.af;rw[w4 hm ea]at k ⊢;have oth:∀(x:Str)(r:List Ab),x≠"clock"->x≠"takes"->bq "lays" (.str x)=aj->Q (.d (d9 t nu fr)) n->rC [ae (.w (.d (d9 s nu fr))),ae (.w (.d (.tuple (.str x::r)))),ae (.w (.d (cF t))),ah,ah] n {nx:=λ_ n=>Q (.d .none) n,rt:=Q}:=λx r h1 h2 h3 q=>by
   have e:gQ (.tuple (.str x::r))=[]:=wW h1 h2;refine qX (.inr (.inr ⟨h1,h2⟩)) (by rw[e];rfl) ?_;rw[e,GO];exact tail x r _ h3 q _
  cases a with
  |lay fs age=>
   dsimp only[jv]at k ⊢;have e:gQ (.tuple [.str "lays",.int m,.int fr,dD (cS fs (jc s.1 m),age)])=[]:=wW ∎ ∎;refine qX (.inr (.inr ⟨by decide,by decide⟩)) (by rw[e];rfl) ?_;rw[e,GO];refine aC (m3 (a:=.str "lays") rfl ∅ ?_);refine aY (gK (au rfl (ar (au rfl (lT (ar (au rfl (aD (dz (Am (show 1<=1000 by decide) (jC (by rw[hX,Ap];omega) ?_)))))))))));refine ar (ar (au rfl (aD (dz (aD (dP (Am (show 3<=1000 by decide) ?_)))))));have k:Q (.d (.tuple [cF t,.tuple (aQ (nu++[fr])),.int ((fr+1:Nat):Int)])) n:=k;rw[xm]at k;exact k
  |take gs=>
   obtain⟨i,eg,hi,_⟩:=T;dsimp only[jv]at k ⊢;have hi':i < nu.length:=by rw[B.nu.len];exact hi
   have ed:eY nu (bj ps s.1 s.2 m)=.int (nu[i]:Nat):=by rw[eg];exact xx hi'
   refine qX (.inr (.inl ⟨rfl,_,_,rfl⟩)) (show[eY nu (bj ps s.1 s.2 m)].all eI=ai by rw[ed];rfl) ?_;refine tail "takes" _ _ ∅ ?_ _;have en:gB nu (bj ps s.1 s.2 m)=ae nu[i]:=by rw[eg];exact sM hi'
   rw[show(λx:Nat=>!bI (.int x) (gQ (.tuple [.str "takes",.int m,eY nu (bj ps s.1 s.2 m)])))=λx:Nat=>!decide (ae x=gB nu (bj ps s.1 s.2 m))from funext λx=>by rw[en,<-OZ,ed];rfl];exact k
  |read gs=>exact oth "reads" _ ∎ ∎ ∅ k
  |look gs b=>exact oth "looks" _ ∎ ∎ ∅ k
  |same f g b=>exact oth "goes" _ ∎ ∎ ∅ k
  |go b=>exact oth "goes" _ ∎ ∎ ∅ k
theorem Uh:bN vO CW ["programs","board","mover","behind","row"]:=λws n Q h=>by
 obtain⟨ps,s,nu,fr,b,rfl,ok,okn,k⟩:=h;show CW [ae (.w (.d (aX ps))),ae (.w (.d (d9 s nu fr))),ae (.w (.d b)),ah,ah] n _;unfold kO at k;have call:∀Q:DQ,Q (.d (gF (eJ ps s.1 s.2 b))) n->aF lW (aq ↥0 (aq (w2 ↥1 ⇑0 az) (aq ↥2 ao))) [ae (.w (.d (aX ps))),ae (.w (.d (d9 s nu fr))),ae (.w (.d b)),ah,ah] n Q:=λQ q=>bH (au rfl (dj (a:=cF s) rfl (au rfl ⟨ps,s.1,s.2,b,rfl,ok,q⟩)));cases ea:eJ ps s.1 s.2 b with
 |none=>
  rw[ea]at k call;refine aC (bE (x:=.none) call ?_);dsimp only[An];exact aC (bz (λQ q=>aE (k:=ai) (λQ q=>ar (au rfl (aD q))) q) (aY (aD k)))
 |some t=>
  rw[ea]at k call;obtain⟨m,em,af⟩:=Hi.mp ea;obtain⟨rfl,hm⟩:=pG em;have en:ja ps (.int m)=m:=by unfold ja;rw[em];rfl
  rw[en]at k;have B:okBd ps s t nu fr m:=⟨ok,okn,hm,af⟩;refine aC (bE (x:=cF t) call ?_);dsimp only[An];refine aC (bf (λQ q=>aE (k:=aj) (λQ q=>ar (au rfl (aD (fi q)))) q) ?_);dsimp only[aL];refine aC (bE (x:=(b7 ps s nu fr m).1) (λQ q=>eC (au rfl (au rfl (au rfl (au rfl ⟨ps,s,t,nu,fr,m,rfl,B,q⟩))))) ?_);dsimp only[An];exact aY (cy (au rfl (bH (au rfl (au rfl (au rfl ⟨ps,s,t,nu,fr,m,rfl,B,by rw[B.nu.len];have:=B.st.2.2.1;omega,Am (show 2<=1000 by decide) k⟩))))))
theorem Nj(a)(M):aQ (a::M)=.int a::aQ M:=rfl
structure LtI(ps:Pg)(s:Sd)(nu:List Nat)(fr l:Nat):Prop where
 okh:okHs ps s.1
 okn:bX (60-l) s.2
 nk:okNu s nu fr
 fr:fr+l<=60
 hl:l<=40
theorem LtI.st{fr l:Nat}(okp:bQ ps)(I:LtI ps s nu fr l):b6 ps s.1 s.2:=⟨okp,I.okh,A9 I.okn.1 ⋯,I.okn.2⟩
theorem LtI.step{s t:Sd}{fr l m:Nat}(okp:bQ ps)(I:LtI ps s nu fr (l+1))(hm:m<=ps.length)(af:bU ps s.1 s.2 m=ae t):okBd ps s t nu fr m/\LtI ps t (b7 ps s nu fr m).2.1 (b7 ps s nu fr m).2.2 l:=by
 have B:okBd ps s t nu fr m:=⟨I.st okp,I.nk,hm,af⟩;obtain⟨k1,k2⟩:=vv okp I.okh I.okn hm af;obtain⟨n1,n2⟩:=RY B;have h1:=I.hl;have h2:=I.fr;exact⟨B,k1,⟨A9 k2.1 ⋯,k2.2⟩,n1,by omega,by omega⟩
theorem vH(h:wF ps ns)(hl:l<=40):LtI ps (eT ps,ns) (Bi ns.length) ns.length l:=by
 have:=h.2.2.1;exact⟨h.2.1,⟨by show ns.length<=_;omega,h.2.2.2⟩,Qu (eT ps,ns),by omega,hl⟩
theorem wV(hw:∀Q:DQ,Q (.d (.int i)) n->w δ n Q)(k:Ed i δ n):mP w Ed δ n K:=hw _ ⟨i,rfl,k⟩
theorem Nz:∀ws n Q E,m5 ws n Q E->Ib (λi _ n=>E i n) (gH ["programs","stand","mover","behind"] ws) n (nh Q):=λws n Q E h=>by
 obtain⟨ps,hs,ns,b,rfl,ok,k⟩:=h;show Ib _ [ae (.w (.d (aX ps))),ae (.w (.d (bg hs ns))),ae (.w (.d b)),ah] n _;refine aC (bE (x:=gF (eJ ps hs ns b)) (λQ q=>bH (au rfl (au rfl (au rfl ⟨ps,hs,ns,b,rfl,ok,q⟩)))) ?_);dsimp only[An];cases e:eJ ps hs ns b with
 |none=>
  rw[e]at k;exact aC (bz (λQ q=>aE (k:=ai) (λQ q=>ar (au rfl (aD (fi q)))) q) (wV (i:=0) (λQ q=>aD q) k))
 |some t=>
  rw[e]at k;refine aC (bf (λQ q=>aE (k:=aj) (λQ q=>ar (au rfl (aD (fi q)))) q) ?_);dsimp only[aL];exact aY (au rfl k)
theorem Sm(okp:bQ ps)(okh:okHs ps hs)(okn:bX M ns)(e:eJ ps hs ns b=ae t):okHs ps t.1/\bX (M+1) t.2:=by
 obtain⟨m,em,af⟩:=Hi.mp e;obtain⟨_,hm⟩:=pG em;exact vv okp okh okn hm af
theorem vQ(e:eJ ps s.1 s.2 b=ah):eQ ps s (b::r)=ae 0:=by rw[eQ,e]
theorem tZ{s t:Sd}(e:eJ ps s.1 s.2 b=ae t):eQ ps s (b::r)=(eQ ps t r).map (·+1):=by rw[eQ,e]
theorem yn{o:Option Nat}(h:fK ((o.map (·+1)).map (j+·)) n Q E):fK (o.map ((j+1)+·)) n Q E:=by
 cases o with
 |none=>exact h
 |some k=>exact(show E ((j+1+k:Nat):Int) n from by rw[show j+1+k=j+(k+1) by omega];exact h)
theorem Oo:∀ws n Q E,mW ws n Q E->Io (λi _ n=>E i n) (gH ["programs","stand","movers","place","mover"] ws) n (nh Q):=λws n Q E h=>by
 obtain⟨ps,s,bs,v,rfl,hv,okp,okh,okn,hl,k⟩:=h;show Io _ [ae (.w (.d (aX ps))),ae (.w (.d (cF s))),ae (.w (.d v)),ah,ah] n _;refine aC ?_;unfold aW k9;refine au rfl ⟨bs,by rcases hv with rfl|rfl;exact .inr rfl;exact .inl rfl,?_⟩;refine fA (λds δ m=>m=n/\∃(j:Nat)(r:List Ab)(s:Sd)(x3 x4:Option SV),ds=gZ j r/\δ=[ae (.w (.d (aX ps))),ae (.w (.d (cF s))),ae (.w (.d v)),x3,x4]/\okHs ps s.1/\bX (12+j) s.2/\j+r.length<=20/\fK ((eQ ps s r).map (j+·)) n Q E)
  (λδ m I=>?_) (λd r δ m N I kN=>?_) _ _ _ ⟨rfl,0,bs,s,ah,ah,rfl,rfl,okh,okn,by omega,by
   cases e:eQ ps s bs with
   |none=>rw[e]at k;exact k
   |some i=>rw[e]at k;exact(show E ((0+i:Nat):Int) n from by rw[Ek];exact k)⟩
 ·obtain⟨rfl,j,r,s,x3,x4,ed,rfl,okh,okn,hl,k⟩:=I;cases r with
  |nil=>
   dsimp only;exact aY (au rfl k)
  |cons b r=>rw[mz]at ed;cases ed
 ·obtain⟨rfl,j,r',s,x3,x4,ed,rfl,okh,okn,hl,k⟩:=I;cases r' with
  |nil=>cases ed
  |cons b r'=>
   rw[mz]at ed;obtain⟨rfl,rfl⟩:=Gk ed;rw[Ar]at hl;refine⟨rfl,?_⟩;dsimp only[bB,cz,aI,An];refine aC (bE (x:=gF (eJ ps s.1 s.2 b)) (λQ q=>bH (au rfl (au rfl (au rfl ⟨ps,s.1,s.2,b,rfl,⟨okp,okh,A9 okn.1 ⋯,okn.2⟩,q⟩)))) ?_);dsimp only[An];cases e:eJ ps s.1 s.2 b with
   |none=>
    rw[vQ e]at k;exact bz (λQ q=>aE (k:=ai) (λQ q=>ar (au rfl (aD (fi q)))) q) (wV (i:=j) (λQ q=>au rfl q) k)
   |some t=>
    rw[tZ e]at k;obtain⟨k1,k2⟩:=Sm okp okh okn e;refine bf (λQ q=>aE (k:=aj) (λQ q=>ar (au rfl (aD (fi q)))) q) ?_;dsimp only[aL];exact kN _ _ ⟨rfl,j+1,r',t,_,_,by rw[show((j+1:Nat):Int)=(j:Int)+1 from rfl],rfl,k1,k2,by omega,yn k⟩
theorem Ka(e:eJ ps s.1 s.2 b=ah):kO ps s nu fr b=.none:=by unfold kO;rw[e]
theorem Mj{s t:Sd}(e:eJ ps s.1 s.2 b=ae t):kO ps s nu fr b=.tuple [(b7 ps s nu fr (ja ps b)).1,d9 t (b7 ps s nu fr (ja ps b)).2.1 (b7 ps s nu fr (ja ps b)).2.2]:=by unfold kO;rw[e]
theorem QZ:∀ws n Q E,nE ws n Q E->zA (λi _ n=>E i n) (gH ["plan","movers","board","log","place","mover","step"] ws) n (nh Q):=λws n Q E h=>by
 obtain⟨ps,ns,bs,rfl,okp,okh,okn,hl,k⟩:=h;show zA _ [ae (.w (.d (.tuple [aX ps,cE ns]))),ae (.w (.d (.list bs))),ah,ah,ah,ah,ah] n _;refine aC (bE (λQ q=>cq (au rfl ⟨ps,ns,rfl,okp.1,okn.1,q⟩)) ?_);dsimp only[An];refine aC (iD ?_);dsimp only[An];refine aC ?_;unfold aW k9;refine au rfl ⟨bs,.inr rfl,?_⟩;refine fA (λds δ m=>m=n/\∃(j:Nat)(r:List Ab)(s:Sd)(nu:List Nat)(fr:Nat)(R:List Ab)(x4 x5 x6:Option SV),ds=gZ j r/\δ=[ae (.w (.d (.tuple [aX ps,cE ns]))),ae (.w (.d (.list bs))),ae (.w (.d (d9 s nu fr))),ae (.own R),x4,x5,x6]/\LtI ps s nu fr r.length/\R.length=j/\j+r.length<=20/\fK ((eQ ps s r).map (j+·)) n Q E)
  (λδ m I=>?_) (λd r δ m N I kN=>?_) _ _ _ ⟨rfl,0,bs,(eT ps,ns),Bi ns.length,ns.length,[],ah,ah,ah,rfl,rfl,vH ⟨okp,okh,okn⟩ ⋯,rfl,by omega,by
   cases e:eQ ps (eT ps,ns) bs with
   |none=>rw[e]at k;exact k
   |some i=>rw[e]at k;exact(show E ((0+i:Nat):Int) n from by rw[Ek];exact k)⟩
 ·obtain⟨rfl,j,r,s,nu,fr,R,x4,x5,x6,ed,rfl,I,hR,hl,k⟩:=I;cases r with
  |nil=>
   dsimp only;exact gG rfl (aY (au rfl k))
  |cons b r=>rw[mz]at ed;cases ed
 ·obtain⟨rfl,j,r',s,nu,fr,R,x4,x5,x6,ed,rfl,I,hR,hl,k⟩:=I;cases r' with
  |nil=>cases ed
  |cons b r'=>
   rw[mz]at ed;obtain⟨rfl,rfl⟩:=Gk ed;rw[Ar]at hl I;refine⟨rfl,?_⟩;dsimp only[bB,cz,aI,An];refine aC (bE (x:=kO ps s nu fr b) (λQ q=>bH (dj (a:=aX ps) rfl (au rfl (au rfl ⟨ps,s,nu,fr,b,rfl,I.st okp,I.nk,q⟩)))) ?_);dsimp only[An];cases e:eJ ps s.1 s.2 b with
   |none=>
    rw[vQ e]at k;rw[Ka e];exact aC (bz (λQ q=>aE (k:=ai) (λQ q=>ar (au rfl (aD (fi q)))) q) (wV (i:=j) (λQ q=>au rfl q) k))
   |some t=>
    rw[tZ e]at k;rw[Mj e];obtain⟨m,em,af⟩:=Hi.mp e;obtain⟨eb,hm⟩:=pG em;have en:ja ps b=m:=by unfold ja;rw[em];rfl
    rw[en];obtain⟨B,J⟩:=I.step okp hm af;refine aC (bf (λQ q=>aE (k:=aj) (λQ q=>ar (au rfl (aD (fi q)))) q) ?_);dsimp only[aL];refine aC (lp rfl (λQ q=>dj rfl q) ⋯ ?_);dsimp only[An];refine bE (λQ q=>de rfl q) ?_;dsimp only[An];exact kN _ _ ⟨rfl,j+1,r',t,_,_,_,_,_,_,by rw[show((j+1:Nat):Int)=(j:Int)+1 from rfl],rfl,J,by rw[Ak,Ap];omega,by omega,yn k⟩
theorem xY(k:w δ n λx n1=>w' δ n1 λy n2=>w'' δ n2 λz n3=>S [x,y,z] n3 (λn4=>K.nx δ n4) λi n4=>Ed i δ n4):jr S (aq w (aq w' (aq w'' ao))) Ed δ n K:=k
theorem O6(k:w δ n λx n1=>w' δ n1 λy n2=>S [x,y] n2 (λn4=>K.nx δ n4) λi n4=>Ed i δ n4):jr S (aq w (aq w' ao)) Ed δ n K:=k
theorem vo{Q:DQ}(h:Q (.d (kI o)) n)(h1:Q (.d (.str "told")) n->P n)(h2:∀k:Nat,Q (.d (.int k)) n->E k n):fK o n P E:=by
 cases o with
 |none=>exact h1 h
 |some k=>exact h2 k h
abbrev Za:List Str:=["_law_door","_law_plan_here","_law_stand_here","_law_thing","_law_found","e"]
theorem Oa:bN ik sN Za:=λws n Q h=>by
 obtain⟨dr,p,s,v,rfl,h⟩:=h;show sN [ae (.w (.d (.str dr))),ae (.w (.d p)),ae (.w (.d s)),ae (.w (.d v)),ah,ah] n _;refine aC (bE (λQ q=>aD q) ?_);dsimp only[An];refine aC ?_;unfold jK;rcases h with⟨ps,hs,ns,x,rfl,rfl,rfl,ok,k⟩|⟨ps,t,x,bs,rfl,rfl,rfl,hv,okp,okh,okn,hl,k⟩|⟨ps,ns,bs,rfl,rfl,rfl,okp,okh,okn,hl,k⟩
 ·refine bz (λQ q=>aE (k:=ai) (λQ q=>ar (au rfl (aD q))) q) ?_;refine xY (dj (a:=aX ps) rfl (au rfl (au rfl ⟨ps,hs,ns,v,rfl,ok,?_⟩)));refine vo k (λq=>?_) λi q=>?_
  ·dsimp only;exact aY (au rfl q)
  ·dsimp only[An];exact⟨(by decide:5<6),aY (au rfl q)⟩
 ·refine bf (λQ q=>aE (k:=aj) (λQ q=>ar (au rfl (aD q))) q) ?_;refine bz (λQ q=>aE (k:=ai) (λQ q=>ar (au rfl (aD q))) q) ?_;refine xY (dj (a:=aX ps) rfl (au rfl (au rfl ⟨ps,t,bs,v,rfl,hv,okp,okh,okn,hl,?_⟩)));refine vo k (λq=>?_) λi q=>?_
  ·dsimp only;exact aY (au rfl q)
  ·dsimp only[An];exact⟨(by decide:5<6),aY (au rfl q)⟩
 ·refine bf (λQ q=>aE (k:=aj) (λQ q=>ar (au rfl (aD q))) q) ?_;refine bf (λQ q=>aE (k:=aj) (λQ q=>ar (au rfl (aD q))) q) ?_;refine O6 (au rfl (au rfl ⟨ps,ns,bs,rfl,okp,okh,okn,hl,?_⟩));refine vo k (λq=>?_) λi q=>?_
  ·dsimp only;exact aY (au rfl q)
  ·dsimp only[An];exact⟨(by decide:5<6),aY (au rfl q)⟩
theorem Mw(okh:okHs ps hs)(hh:m < ps.length)(h:cK ps hs ns m=aj):bU ps hs ns m=ah:=by
 obtain⟨P,xb,xp,nm,w,as,H⟩:=ig okh hh;unfold bU;rw[if_neg ⋯];cases ea:bA ps hs m with
 |none=>
  unfold eG;rw[ea];cases ps[m]? with
  |none=>rfl
  |some P'=>cases hs[m]?<;>rfl
 |some a=>
  rw[ui ea]at h;rw[km H ea];have gn:∀gs:List Fe,(bj ps hs ns m).isSome=aj->a.pf=ae (gs.map Fe.fd)->bx gs (xb,xp,nm) ns=ah:=λgs h1 h2=>by
   have eg:bj ps hs ns m=aV (gs.map Fe.fd) nm ns:=by
    unfold bj;rw[ea,H.nmq];show(a.pf.bind _)=_;rw[h2];rfl
   rw[eg]at h1;refine gU ?_;cases e:aV (gs.map Fe.fd) nm ns with
   |none=>rfl
   |some i=>rw[e]at h1;cases h1
  cases a with
  |lay fs age=>cases h
  |go b=>cases h
  |same f g b=>cases h
  |look fs b=>cases h
  |take gs=>
   show(((bx gs (xb,xp,nm) ns).map λq=>(q.2,cf ns q.1)).map λr=>(aU hs m r.1,r.2))=ah;rw[gn gs h rfl];rfl
  |read gs=>
   show(((bx gs (xb,xp,nm) ns).map λq=>(q.2,ns)).map λr=>(aU hs m r.1,r.2))=ah;rw[gn gs h rfl];rfl
def iP(ps:Pg)(hs:List Hn)(ns:List Nt):List Ab:=((Bi ps.length).filter λh=>!cK ps hs ns h).map λh=>.int (h:Nat)
theorem Ly(ok:b6 ps hs ns)(k:Q (iP ps hs ns) n):cM (aI 0) (dv (cT (aF mw (aq ↥1 (aq ↥2 (aq ↥0 ao)))))) ↥0 Q (bM 0 ps.length) [] [ah,ae (.w (.d (aX ps))),ae (.w (.d (bg hs ns)))] n:=by
 have e:bM 0 ps.length=(Bi ps.length).map λh=>.int (h:Nat):=by
  unfold bM;exact C4 λi _=>by rw[Int.zero_add]
 rw[e];refine j7 (λh:Nat=>E6 (h:Nat)) (λh:Nat=>E6 (h:Nat)) (λh=>!cK ps hs ns h) _ [] ah n (λh hh n Q' q=>?_) (λh hh n Q' q=>au rfl q) (by rw[B8];exact k);exact ml (k:=cK ps hs ns h) (λQ q=>aE (k:=cK ps hs ns h) (λQ q=>bH (au rfl (au rfl (au rfl ⟨ps,hs,ns,h,rfl,ok,Ci.mp hh,q⟩)))) q) q
theorem zf:(iP ps hs ns).length<=ps.length:=by
 unfold iP;rw[Ad];exact A9 (Gu _ _) (by rw[Cr];exact Ao _)
theorem rX(h0:0<=i)(h1:i<=9):mR (.int i):=by
 have:i=0\/i=1\/i=2\/i=3\/i=4\/i=5\/i=6\/i=7\/i=8\/i=9:=by omega
 rcases this with rfl|rfl|rfl|rfl|rfl|rfl|rfl|rfl|rfl|rfl<;>exact⟨by decide +kernel,by decide +kernel,by decide +kernel,by decide +kernel,by decide +kernel⟩
def md(ps:Pg)(hs:List Hn)(ns:List Nt):List Ab:=[.int (-1),.int (ps.length+1),.int (10 ^ 30),.bool ai,.bool aj,.none,.str "0",.str "",.tuple [.int 0],.list [.int 0],.tuple [],.list [.list []]]++(Bn 4 (iP ps hs ns)).flatten
theorem QB(ok:b6 ps hs ns):∀b∈md ps hs ns,eJ ps hs ns b=ah/\mR b:=by
 intro b hb;have hp:ps.length<=5:=ok.1.1;rcases Ba.mp hb with hb|hb
 ·simp only[Au,A1,or_false]at hb;rcases hb with rfl|rfl|rfl|rfl|rfl|rfl|rfl|rfl|rfl|rfl|rfl|rfl
  ·exact⟨rfl,by decide +kernel,by decide +kernel,by decide +kernel,by decide +kernel,by decide +kernel⟩
  ·refine⟨?_,rX ⋯ ⋯⟩;show(if 0<=(ps.length:Int)+1/\(ps.length:Int)+1<=(ps.length:Int)then _ else ah:Option Nat).bind _=ah;rw[if_neg ⋯];rfl
  ·refine⟨?_,by decide +kernel,by decide +kernel,by decide +kernel,by decide +kernel,by decide +kernel⟩;show(if 0<=(10 ^ 30:Int)/\(10 ^ 30:Int)<=(ps.length:Int)then _ else ah:Option Nat).bind _=ah;have:(10:Int) ^ 30=1000000000000000000000000000000:=by decide +kernel
   rw[if_neg (by omega)];rfl
  all_goals exact⟨rfl,by decide +kernel,by decide +kernel,by decide +kernel,by decide +kernel,by decide +kernel⟩
 ·obtain⟨l,hl,hb⟩:=List.mem_flatten.mp hb;cases(List.mem_replicate.mp hl).2;obtain⟨h,hh,rfl⟩:=Bo.mp hb;obtain⟨h1,h2⟩:=Cp.mp hh;have h3:=Ci.mp h1;have hc:cK ps hs ns h=aj:=by cases e:cK ps hs ns h<;>simp_all
  refine⟨?_,rX ⋯ ⋯⟩;show(if 0<=(h:Int)/\(h:Int)<=(ps.length:Int)then ae (h:Int).toNat else ah:Option Nat).bind (bU ps hs ns)=ah;rw[if_pos ⟨by omega,by omega⟩];exact Mw ok.2.1 h3 hc
theorem QO(h0:0<=r)(h1:r < (ds.length:Int))(k:∀d∈ds,Q (.d d) n):az (.d (.list ds)) (.d (.int r)) n Q:=by
 obtain⟨m,rfl⟩:=Gg h0;have hm:m < ds.length:=by omega
 show(match c7 ds (m:Int)with|some d=>Q (.d d) n|none=>False);rw[fq (Al hm)];exact k _ (Cz hm)
theorem MU:bN pM FF ["_law_tape_here","_law_programs","_law_stand_here","_law_many","_law_some"]:=λws n Q h=>by
 obtain⟨ps,hs,ns,rfl,ok,hn,k⟩:=h;have hp:ps.length<=5:=ok.1.1;show FF [ae (.w .tp),ae (.w (.d (aX ps))),ae (.w (.d (bg hs ns))),ah,ah] n _;refine aC (bE (x:=.int ps.length) (λQ q=>tI (ds:=ps.map eB) rfl (by rw[Ad];exact q)) ?_);dsimp only[An];refine aC (bE (x:=.list [.int (-1),.int (ps.length+1),.int (10 ^ 30),.bool ai,.bool aj,.none,.str "0",.str "",.tuple [.int 0],.list [.int 0],.tuple [],.list [.list []]]) (λQ q=>?_) ?_)
 ·refine a9 ?_;show i7 10 30/\(1<=1000/\(1<=1000/\(0<=1000/\(0<=1000/\(1<=1000/\(12<=1000/\Q (.d (.list [.int (-1),.int (ps.length+1),.int (10 ^ 30),.bool ai,.bool aj,.none,.str "0",.str "",.tuple [.int 0],.list [.int 0],.tuple [],.list [.list []]])) n))))));exact⟨⟨by decide,by decide,by decide⟩,by decide,by decide,by decide,by decide,by decide,by decide,q⟩
 dsimp only[An];refine aC (bE (x:=.list (md ps hs ns)) (λQ q=>?_) ?_)
 ·refine ar (au rfl (a9 ?_));unfold wm;refine a9 ?_;unfold cG dC;refine au rfl (Am ⟨by omega,by omega⟩ ?_);rw[Bq];refine Ly ok ?_;have hl:=zf (ps:=ps) (hs:=hs) (ns:=ns);refine aD ⟨iP ps hs ns,4,rfl,rfl,by decide,by omega,?_⟩;refine⟨fh ?_,q⟩;rw[rf];show 12+4*_<=1000;omega
 dsimp only[An];have hl:12<=(md ps hs ns).length/\(md ps hs ns).length<=1000:=by
  have hl:=zf (ps:=ps) (hs:=hs) (ns:=ns);unfold md;rw[Ak,rf];show 12<=12+_/\12+_<=1000;omega
 refine aY (ar (au rfl (gY (m:=((md ps hs ns).length:Int)) rfl (λQ q=>aR (au rfl q)) ⋯ ⋯ ⋯ λr r0 r1=>QO r0 r1 λb hb=>?_)));obtain⟨h1,h2⟩:=QB ok b hb;exact k b h1 h2
theorem Ml{ps:Pg}(h:m<=ps.length):eJ ps hs ns (.int m)=bU ps hs ns m:=by
 show(if 0<=(m:Int)/\(m:Int)<=(ps.length:Int)then ae (m:Int).toNat else ah:Option Nat).bind (bU ps hs ns)=_;rw[if_pos ⟨by omega,by omega⟩];rfl
theorem sh(W:Wlk ps s0 L S)(r):∀(k i:Nat)(s t:Sd),i+k<=L.length->S[i]?=ae s->S[i+k]?=ae t->eQ ps s (aQ ((L.drop i).take k)++r)=(eQ ps t r).map (k+·)
 |0,i,s,t,_,e1,e2=>by
  rw[Nat.add_zero,e1]at e2;cases e2;show eQ ps s r=_;cases eQ ps s r with
  |none=>rfl
  |some x=>show ae x=ae (0+x);rw[Ek]
 |k+1,i,s,t,hk,e1,e2=>by
  have hi:i < L.length:=by omega
  obtain⟨hm,s',t',f1,f2,f3⟩:=W.st i _ (Al hi);rw[e1]at f1;cases f1;rw[Dp hi,List.take_succ_cons,Nj,List.cons_append,tZ (by rw[Ml hm];exact f3),sh W r k (i+1) t' t ⋯ f2 (by rw[show i+1+k=i+(k+1) by omega];exact e2)];cases eQ ps t r with
  |none=>rfl
  |some x=>show ae (k+x+1)=ae (k+1+x);congr 1;omega
theorem Iq:∀ds:List Ab,(∀d∈ds,mR d)->PyData.canLayAll0 ds=ai/\PyData.depthAll ds<=4/\PyData.weightAll ds<=121*ds.length/\PyData.intsShortAll 40 ds=ai/\PyData.showableAll ds=ai
 |[],_=>⟨rfl,Br _,Br _,rfl,rfl⟩
 |d::r,h=>by
  obtain⟨a1,a2,a3,a4,a5⟩:=Iq r λx hx=>h x (Aw _ hx);obtain⟨b1,b2,b3,b4,b5⟩:=h d A0;refine⟨?_,?_,?_,?_,?_⟩
  ·rw[PyData.canLayAll0,a1,b1];rfl
  ·rw[PyData.depthAll];omega
  ·rw[PyData.weightAll,Ar,Nat.mul_succ];omega
  ·rw[PyData.intsShortAll,a4,b4];rfl
  ·rw[PyData.showableAll,a5,b5];rfl
theorem Nh(h:∀d∈ds,mR d)(hl:ds.length<=20):SmlA (.list ds):=by
 obtain⟨a1,a2,a3,a4,a5⟩:=Iq ds h;have:=Nat.mul_le_mul_left 121 hl;have c0:PyData.canLay0 (.list ds)=ai:=by rw[PyData.canLay0];exact a1
 have c3:PyData.weight (.list ds)<=2420:=by rw[PyData.weight];omega
 have c4:Gs 40 (.list ds)=ai:=by rw[Gs];exact a4
 refine⟨c0,by rw[PyData.depth];omega,by rw[Gz];exact a5,?_⟩;have h2:=PyData.shown_le 40 ∎ _ (PyData.leavesShort_of_canLay0 40 _ c0 c4);rw[Eh];omega
section
variable{δ:Sl}{n n':Int}{Q:DQ}{K:DEnds}{W V:aH}
theorem vE(hc:∀Q:Bool->Int->Prop,Q aj n'->C δ n Q)(hF:V δ n' K):aJ C W V δ n K:=hc _ (by show if aj=ai then _ else _;rw[if_neg Ag];exact hF)
theorem tq{Q:Bool->Int->Prop}(hw:∀Q':DQ,Q' (.d (.bool k)) n'->w δ n Q')(q:Q k n'):cT w δ n Q:=hw _ q
theorem NM(e:δ[i]?=ae (ae (.w (.d (.list ds)))))(k:Q (.d (.int ds.length)) n):wB bF (aq (ak i) ao) δ n Q:=aR (au e k)
theorem Kg(k:Q (.d (.tuple ds)) n):dM [.d (.list ds)] n Q:=k
theorem xV(ok:b6 ps hs ns)(e:kH (eJ ps hs ns v)=o)(k:Q (.d (kI o)) n):ik [.d (.str "moved"),.d (.tuple [aX ps,x]),.d (bg hs ns),.d v] n Q:=by
 subst e;exact⟨_,_,_,_,rfl,.inl ⟨ps,hs,ns,x,rfl,rfl,rfl,ok,k⟩⟩
structure RfK(ps:Pg)(ns:List Nt)(bs:List Ab)(o:Option Nat):Prop where
 okp:bQ ps
 okh:okHs ps (eT ps)
 okn:bX 12 ns
 len:bs.length<=20
 is:eQ ps (eT ps,ns) bs=o
theorem rS(h:RfK ps ns bs o)(hv:v=.list bs\/v=.tuple bs)(k:Q (.d (kI o)) n):ik [.d (.str "woven"),.d (.tuple [aX ps,cE ns]),.d (cF (eT ps,ns)),.d v] n Q:=by
 cases h.is;exact⟨_,_,_,_,rfl,.inr (.inl ⟨ps,_,_,bs,rfl,rfl,rfl,hv,h.okp,h.okh,h.okn,h.len,k⟩)⟩
theorem BF(h:RfK ps ns bs o)(k:Q (.d (kI o)) n):ik [.d (.str "log"),.d (.tuple [aX ps,cE ns]),.d s,.d (.list bs)] n Q:=by
 cases h.is;exact⟨_,_,_,_,rfl,.inr (.inr ⟨ps,ns,bs,rfl,rfl,rfl,h.okp,h.okh,h.okn,h.len,k⟩)⟩
theorem rW{ds:List Ab}(hr:r<=ds.length)(e1:δ[i]?=ae (ae (.w (.d (.list ds)))))(e2:δ[j]?=ae (ae (.w (.d (.int r)))))(k:Q (.d (.list (ds.take r))) n):iO (ak i) cR (cP (ak j)) δ n Q:=by
 unfold iO cR cP;refine au e1 (au e2 ?_);dsimp only;rw[vt ds hr];exact k
theorem Mm{ds:List Ab}(hr:r<=ds.length)(e1:δ[i]?=ae (ae (.w (.d (.list ds)))))(e2:δ[j]?=ae (ae (.w (.d (.int r)))))(k:Q (.d (.list (ds.drop r))) n):iO (ak i) (cP (ak j)) cR δ n Q:=by
 unfold iO cR cP;refine au e1 (au e2 ?_);dsimp only;rw[HE ds hr];exact k
theorem rG{m:Nat}(e:ds[m]?=ae d)(k:Q (.d d) n):az (.d (.list ds)) (.d (.int m)) n Q:=by
 show(match c7 ds (m:Int)with|some d=>Q (.d d) n|none=>False);rw[fq e];exact k
theorem CT(h:a.length+b.length<=1000)(k:Q (.d (.list (a++b))) n):eU (.d (.list a)) (.d (.list b)) n Q:=⟨fh h,k⟩
theorem rH(k:Q (.d (.bool aj)) n):eu (.d (.int i)) (.d (.int i)) n Q:=FP (by rw[decide_eq_true rfl];exact k)
end
theorem IW(W:Wlk ps s0 L S)(hr:r<=L.length)(e:S[r]?=ae t)(hb:eJ ps t.1 t.2 b=ah)(x):eQ ps s0 (aQ (L.take r)++b::x)=ae r:=by
 have:=sh W (b::x) r 0 s0 t ⋯ W.fst (by rw[Ek];exact e);rw[Gj,vQ hb]at this;exact this
theorem SQ(W:Wlk ps s0 L S)(hr:r<=L.length)(e:S[r]?=ae t):eQ ps s0 (aQ (L.take r))=ah:=by
 have:=sh W [] r 0 s0 t ⋯ W.fst (by rw[Ek];exact e);rw[Gj,Bv]at this;exact this
abbrev Zb:List Str:=["_law_script","_law_tape_here","_law_k","_law_plan_here","_law_some","_law_movers_here","_law_stands","_law_at","_law_bad","_law_kept"]
theorem Jt:z9 (ah::ae (.w .tp)::Bn (List.length Zb-2) ah) 0 oH:=by
 show z9 [ah,ae (.w .tp),ah,ah,ah,ah,ah,ah,ah,ah] 0 oH;refine aC (KP 3 rfl ∎ ?_);refine fA (λds δ n=>(∃x2 x3 x4 x5 x6 x7 x8 x9:Option SV,δ=[ah,ae (.w .tp),x2,x3,x4,x5,x6,x7,x8,x9])/\n+4700*(ds.length:Int)<=19000) (λδ n I=>?_) (λd' t δ n N I kN=>?_) _ _ _ ⟨⟨_,_,_,_,_,_,_,_,rfl⟩,by rw[fj];omega⟩
 ·obtain⟨⟨x2,x3,x4,x5,x6,x7,x8,x9,rfl⟩,hn⟩:=I;dsimp only;have ok:b6 [] [] []:=⟨⟨by decide,λ_ h=>nomatch h⟩,⟨rfl,λi P h=>nomatch h⟩,⟨by decide,λ_ h=>nomatch h⟩⟩;refine aY (ar (eC (aD (cy (show aw ao _ _ _ from Am ∎ (show aw ao _ _ _ from Am ∎ (Am (show 2<=1000 by decide) (cy (show aw ao _ _ _ from Am ∎ (show aw ao _ _ _ from Am ∎ (Am (show 2<=1000 by decide) (aD (xV (ps:=[]) (hs:=[]) (ns:=[]) (x:=.tuple []) (o:=ae 0) ok rfl (aD ?_))))))))))))));rfl
 ·obtain⟨⟨x2,x3,x4,x5,x6,x7,x8,x9,rfl⟩,hn⟩:=I;rw[Ar]at hn;dsimp only[aI,An];refine aC (show aB 3 _ _ _ _ from cq (au rfl (Am rfl ⟨by omega,λps ns0 n0 hp hf okn0 hn0=>?_⟩)));dsimp only[An];have okh:=Od hp hf;refine aC (show aB 4 _ _ _ _ from bV (au rfl (ar (au rfl (aD (cg ⟨ps,rfl,hp,by omega,λhs ns n1 okh1 okn1 hn1=>?_⟩))))));dsimp only[An];have ok1:b6 ps hs ns:=⟨hp,okh1,A9 okn1.1 ⋯,okn1.2⟩;refine aC (vE (n':=n1+1) (λQ q=>tq (k:=aj) (λQ q=>ar (eC (aD (au rfl (au rfl (bH (au rfl (ar (au rfl (aD (cg (au rfl ⟨ps,hs,ns,rfl,ok1,by omega,λb hb _=>?_⟩)))))))))))) q) ?_)
  ·exact xV ok1 (o:=ae 0) (by rw[hb];rfl) (aD (rH q))
  dsimp only[aL];refine aC (show dB _ _ _ _ _ from eC (au rfl (ar (au rfl (aD (cg (cq (au rfl ⟨ps,ns0,rfl,hp.1,aD ⟨ps,(eT ps,ns0),9,rfl,by decide,hp,okh,okn0,by omega,λL S n2 W hL hn2=>⟨rfl,?_⟩⟩⟩))))))));dsimp only[bB,cz,aI,An];refine aC (show aB 7 _ _ _ _ from MD (m:=(L.length:Int)+1) rfl (λQ q=>ar (NM rfl (aD (dP (by rw[hX];exact q))))) ⋯ ⋯ ⋯ λr r0 r1=>?_);obtain⟨r,rfl⟩:=Gg r0;have hr:r<=L.length:=by omega
  have hrS:r < S.length:=by rw[W.len];omega
  dsimp only[An];obtain⟨t,et⟩:∃t,S[r]?=ae t:=⟨_,Al hrS⟩;obtain⟨okt,ont⟩:=W.ok r t et;have zv:b6 ps t.1 t.2:=⟨hp,okt,A9 ont.1 ⋯,ont.2⟩;have eS:(S.map cF)[r]?=ae (bg t.1 t.2):=by rw[Ax,et];rfl
  have e0:(S.map cF)[0]?=ae (cF (eT ps,ns0)):=by rw[Ax,W.fst];rfl
  have hi:r<=(aQ L).length:=by rw[hX];exact hr
  have tk:(aQ L).take r=aQ (L.take r):=by unfold aQ;rw[List.map_take]
  have dr:(aQ L).drop r=aQ (L.drop r):=by unfold aQ;rw[List.map_drop]
  have lt:(L.take r).length=r:=by rw[Dc];omega
  have ld:(L.drop r).length=L.length-r:=Cy ..;have okm:∀m∈L,mR (.int (m:Nat)):=λm hm=>by
   obtain⟨i,e⟩:=B6.mp hm;have:=(W.st i m e).1;have:=hp.1;exact rX ⋯ ⋯
  refine aC (show aB 8 _ _ _ _ from ar (ar (rW hi rfl rfl (a9 (uD (bH (au rfl (ar (au rfl (aD (cg (ar (au rfl (au rfl (rG eS ⟨ps,t.1,t.2,rfl,zv,by omega,λb hb sb=>?_⟩)))))))))))))));refine Am (show 1<=1000 by decide) (CT ?_ (Mm hi rfl rfl (CT ?_ ?_)))
  ·rw[tk,hX,lt];show r+1<=1000;omega
  ·rw[Ak,tk,dr,hX,hX,lt,ld];show r+1+_<=1000;omega
  have eb:(aQ L).take r++[b]++(aQ L).drop r=aQ (L.take r)++b::aQ (L.drop r):=by rw[tk,dr,Bj];rfl
  rw[eb];generalize hB:aQ (L.take r)++b::aQ (L.drop r)=B;have lB:B.length=L.length+1:=by rw[<-hB,Ak,Ar,hX,hX,lt,ld];omega
  have tB:B.take r=aQ (L.take r):=by rw[<-hB,G0 (by rw[hX,lt];exact Ao _),List.take_of_length_le (by rw[hX,lt];exact Ao _)]
  have sB:SmlA (.list B):=Nh (λd hd=>by
   rw[<-hB]at hd;rcases Ba.mp hd with h|h
   ·obtain⟨m,hm,rfl⟩:=Bo.mp h;exact okm m (Fq hm)
   ·rcases Au.mp h with rfl|h
    ·exact sb
    ·obtain⟨m,hm,rfl⟩:=Bo.mp h;exact okm m (List.mem_of_mem_drop hm)) ⋯
  have k1:RfK ps ns0 B (ae r):=⟨hp,okh,okn0,by omega,by rw[<-hB];exact IW W hr et hb _⟩;have k2:RfK ps ns0 (B.take r) ah:=⟨hp,okh,okn0,by rw[tB,hX,lt];omega,by rw[tB];exact SQ W hr et⟩;have hrB:r<=B.length:=by omega
  dsimp only[An];refine aC (bE (x:=.str (PyData.shown (.list B))) (λQ q=>aR (au rfl ⟨sB,q⟩)) ?_);dsimp only[An];refine aC (bf (λQ q=>g9 (λQ q=>aE (k:=aj) (λQ q=>ar (eC (aD (au rfl (ar (au rfl (aD (rG e0 (au rfl (rS k1 (.inl rfl) (au rfl (rH q)))))))))))) q) (aE (k:=aj) (λQ q=>ar (eC (aD (au rfl (aD (au rfl (BF k1 (au rfl (rH q))))))))) q)) ?_);dsimp only[aL];refine aC (bf (λQ q=>aE (k:=aj) (λQ q=>ar (eC (aD (au rfl (ar (au rfl (aD (rG e0 (aR (au rfl (Kg (rS (v:=.tuple B) k1 (.inr rfl) (au rfl (rH q)))))))))))))) q) ?_);dsimp only[aL];refine aC (bf (λQ q=>g9 (λQ q=>aE (k:=aj) (λQ q=>ar (aR (au rfl ⟨sB,au rfl (vc q)⟩))) q) (aE (k:=aj) (λQ q=>ar (eC (aD (au rfl (ar (au rfl (aD (rG e0 (rW hrB rfl rfl (rS k2 (.inl rfl) (aD (vc q)))))))))))) q)) ?_);dsimp only[aL];refine bf (λQ q=>aE (k:=aj) (λQ q=>ar (eC (aD (au rfl (aD (rW hrB rfl rfl (BF k2 (aD (vc q))))))))) q) ?_;dsimp only[aL];exact kN _ _ ⟨⟨_,_,_,_,_,_,_,_,rfl⟩,by omega⟩
end Nb
namespace Nb
open PySem L2
section
variable{P:A7}{w:Bk}{K:Ah}{mg:Str->Option Af}{base:Heap}
abbrev Zc:List Str:=["_law_script"]
theorem Qh:FnScope Zc Zc (cD AG):=⟨rfl,rfl,rfl,by decide +kernel,rfl,by decide +kernel,by decide +kernel⟩
theorem TC(F:Fun K "_law_tape" "_law_tape" AG f fd):FnOk P w K mg base c9 1 f fd Zc (n8 K):=by
 refine F.ok Qh (λvs H Q E h=>?_) (λcdv A outer s H vs Q E hr h=>?_)
 ·obtain⟨a,ns,rfl,_⟩:=h;rfl
 ·obtain⟨a,ns,rfl,hS,hl,k⟩:=h;refine⟨_,fY (me (tF (b9 (u9 FT (pv 0) EI (xI cH)) (b9 cH (b9 cH (b9 (tF (b9 qK (b9 qK (b9 qK (b9 cH (b9 cH (b9 cH (b9 cH dH)))))))) dH)))))),?_⟩;refine⟨_,rfl,_,rfl,a,_,rfl,hS,λp hp=>⟨small (by simp),λg hg=>⟨small (by simp),λq hq=>?_⟩⟩⟩;rw[Np (by rw[Ad];exact hl)]at hg hq ⊢;have hgp:g≠p:=λz=>by rw[z,bu]at hg;cases hg
  have hg0:H g=ah:=by rw[aM hgp]at hg;exact hg
  have hqg:q≠g:=λz=>by rw[z,bu]at hq;cases hq
  rw[aM hqg]at hq;have hqp:q≠p:=λz=>by rw[z,bu]at hq;cases hq
  have hq0:H q=ah:=by rw[aM hqp]at hq;exact hq
  refine k q ⟨p,g⟩ _ ⟨⟨0,0,bu,Int.le_refl _,Int.le_refl _⟩,by rw[aM hqp.symm,aM hgp.symm,bu],hl,(λz=>by rw[aM hqg.symm,bu];rfl),hqg.symm⟩ λb o e=>?_;rw[aM (bO e hq0),aM (bO e hg0),aM (bO e hp)];exact e
abbrev Zh:List Str:=["_law_tape_here","_law_many"]
theorem scDraw:FnScope ["_law_tape_here","_law_many","_law_found","_law_spot","_law_cell","_law_mixed"] Zh (cD HU):=⟨rfl,rfl,rfl,by decide +kernel,rfl,by decide +kernel,by decide +kernel⟩
theorem Qw{R:Prop}{G:Int->Prop}(use:(∀c,G c)->R)(fin:∀c,G c):R:=use fin
theorem M8{R G:Prop}(use:G->R)(fin:G):R:=use fin
theorem OM(F:Fun K "_law_draw" "_law_draw" HU f fd)(zl:mg "len"=ah):FnOk P w K mg base c9 1 f fd Zh CA:=by
 refine F.ok scDraw (λvs H Q E h=>?_) (λcdv A outer s H vs Q E hr h=>?_)
 ·obtain⟨t,l,ns,n,many,rfl,_⟩:=h;rfl
 ·obtain⟨t,l,ns,n,many,rfl,T,hn,hm0,hm1,k⟩:=h;obtain⟨a,b,ht,ha0,ha1⟩:=T.ob;have ntl:=T.ne;have hl:=T.ls;have hlen:=T.len;refine⟨_,gf (jo (jE op_gt (gD ix_list (pv 0) cH (λ_ _=>rfl)) cH (lg _))
    (gf (gT (i:=2) scDraw.nd rfl (C7 rfl) (d8 jM (gD ix_list (pv 0) cH (λ_ _=>rfl)) (pv 1)))
     (gf (nL (d8 Ik (gD ix_list (pv 0) cH (λ_ _=>rfl)) (pv 1)) (qy (pv 0) cH qg))
     (fY (me (pv 2))))) lY)
   (gf (gT (i:=3) scDraw.nd rfl (C7 rfl) (gD ix_list (pv 0) cH (λ_ _=>rfl)))
   (gf (nL (d8 op_add (pv 3) cH) (qy (pv 0) cH qg))
   (gf (gT (i:=4) scDraw.nd rfl (C7 rfl) cH)
   (gf (jo (jE op_gt (jg qG (by rfl) zl PySem.boot_len (b9 (gD ix_list (pv 0) cH (λ_ _=>rfl)) dH)) cH (lg _))
    (fY (gT (i:=4) scDraw.nd rfl (C7 rfl) (gD ix_list (gD ix_list (pv 0) cH (λ_ _=>rfl))
     (d8 jM (pv 3) (jg qG (by rfl) zl PySem.boot_len (b9 (gD ix_list (pv 0) cH (λ_ _=>rfl)) dH))) (λ_ _=>rfl)))) lY)
   (gf (jo (PW.pt (qc (jE LI (pv 4) (d8 AM cH cH) (lg _))
     (vI (jE op_lt (pv 3) (jg qG (by rfl) zl PySem.boot_len (b9 (gD ix_list (pv 0) cH (λ_ _=>rfl)) dH)) (lg _)))))
    (gf (nL (d8 Ik (pv 4) (pv 1)) (qy (pv 0) cH qg)) (fY (me (d8 jM (pv 4) (pv 1))))) lY)
   (gf (gT (i:=5) scDraw.nd rfl (C7 rfl) (d8 jM (d8 mI (d8 op_add (d8 op_add (d8 jM (pv 4) cH) (d8 mI (d8 mI cH (pv 3)) (pv 3))) cH) cH) cH))
   (fY (me (d8 jM (d8 jM (d8 mI (d8 jM (d8 op_add (d8 mI (pv 5) cH) (d8 mI (pv 3) cH)) cH) cH) cH) (pv 1)))))))))),?_⟩
  refine⟨_,rfl,t,_,2,_,rfl,rfl,SqL.of ht,fq (j:=2) rfl,_,_,rfl,rfl,_,rfl,?_⟩;refine jF (λ_=>?_) (λ_=>?_)
  ·-- found=tape[2] % many;tape[2]=tape[2] // many;return found
   refine⟨_,rfl,t,_,2,_,rfl,rfl,SqL.of ht,fq (j:=2) rfl,_,rfl,_,_,rfl,rfl,hm0,?_⟩;refine⟨_,rfl,t,_,2,_,rfl,rfl,SqL.of ht,fq (j:=2) rfl,_,rfl,_,_,rfl,rfl,⟨hm0,hm1⟩,?_⟩;refine⟨_,rfl,t,_,2,2,rfl,rfl,ht,rfl,?_⟩;refine⟨_,rfl,?_⟩;refine k _ _ (Int.emod_nonneg _ ⋯) (Hg _ hm0) ⟨⟨a,b / many,bu,ha0,by omega⟩,by rw[aM ntl.symm];exact hl,hlen,(λz=>by rw[aM T.gne];exact T.ag z),T.gne⟩ Kp.tape
  ·-- spot=tape[1];tape[1]=spot+1;cell=0
   refine⟨_,rfl,t,_,1,_,rfl,rfl,SqL.of ht,fq (j:=1) rfl,?_⟩;refine⟨_,rfl,_,_,rfl,rfl,_,rfl,t,_,1,1,rfl,rfl,ht,rfl,?_⟩;have ht1:∀o,upd H t o t=ae o:=λo=>bu;have hl1:∀o,upd H t o l.s=ae (.lst (ns.map V.int)):=λo=>by rw[aM ntl.symm];exact hl
   generalize hH1:upd H t (.lst (((.ref l.s::.int a::.int b::jx l:List V)).set 1 (.int (a+1))))=H1;have g1:H1 t=ae (.lst (.ref l.s::.int (a+1)::.int b::jx l)):=by rw[<-hH1];exact bu
   have g2:H1 l.s=ae (.lst (ns.map V.int)):=by rw[<-hH1];exact hl1 _
   have g3:Kp t H H1:=by rw[<-hH1];exact Kp.tape
   have g4:mU=ai->H1 l.g=ae (.lst qN):=λz=>by rw[<-hH1,aM T.gne];exact T.ag z
   refine⟨_,rfl,t,_,0,_,rfl,rfl,SqL.of g1,fq (j:=0) rfl,l.s,_,rfl,.inl (SqL.of g2),_,_,rfl,rfl,_,rfl,?_⟩;apply Qw
   case use=>
    intro fin;refine jF (λhp=>?_) (λ_=>?_)
    ·have hpos:(0:Int) < ((ns.map V.int).length:Int):=of_decide_eq_true hp;obtain⟨v,hv,hm⟩:=OE (xs:=ns.map V.int) (r:=a % ((ns.map V.int).length:Int)) (Int.emod_nonneg _ ⋯) (Hg _ hpos);obtain⟨c,_,rfl⟩:=Bo.mp hm;refine⟨_,rfl,t,_,0,_,rfl,rfl,SqL.of g1,fq (j:=0) rfl,_,rfl,_,rfl,t,_,0,_,rfl,rfl,SqL.of g1,fq (j:=0) rfl,l.s,_,rfl,.inl (SqL.of g2),_,_,rfl,rfl,hpos,l.s,_,_,.int c,rfl,rfl,SqL.of g2,hv,?_⟩;exact fin c
    ·exact fin 0
   case fin=>
    intro c;refine⟨_,rfl,_,_,rfl,rfl,⟨by decide,by decide,by decide⟩,_,_,rfl,rfl,_,rfl,?_⟩;apply M8
    case use=>
     intro fin;refine jF (λ_=>?_) (λ_=>?_)
     ·refine⟨_,rfl,_,rfl,t,_,0,_,rfl,rfl,SqL.of g1,fq (j:=0) rfl,l.s,_,rfl,.inl (SqL.of g2),_,_,rfl,rfl,_,rfl,?_⟩;refine jF (λ_=>?_) (λ_=>fin);refine⟨_,rfl,_,rfl,_,_,rfl,rfl,⟨hm0,hm1⟩,_,rfl,t,_,2,2,rfl,rfl,g1,rfl,_,rfl,_,rfl,_,_,rfl,rfl,hm0,?_⟩;exact k _ _ (Int.emod_nonneg _ ⋯) (Hg _ hm0) ⟨⟨a+1,_,bu,by omega,by omega⟩,by rw[aM ntl.symm];exact g2,hlen,(λz=>by rw[aM T.gne];exact g4 z),T.gne⟩ (g3.trans Kp.tape)
     ·exact uU fin
    case fin=>
     refine⟨_,rfl,_,_,rfl,rfl,(by show(0:Int) < 999331;decide),_,rfl,_,_,rfl,rfl,.inl ⟨by decide,by decide⟩,_,rfl,_,_,rfl,rfl,.inl ⟨by omega,by omega⟩,_,_,rfl,rfl,_,_,rfl,rfl,_,_,rfl,rfl,.inr ⟨by decide,by decide⟩,_,_,rfl,rfl,(by show(0:Int) < 999961;decide),?_⟩;refine⟨_,rfl,_,_,rfl,rfl,.inr ⟨by decide,by decide⟩,_,rfl,_,_,rfl,rfl,.inr ⟨by decide,by decide⟩,_,_,rfl,rfl,_,_,rfl,rfl,(by show(0:Int) < 999953;decide),_,_,rfl,rfl,.inr ⟨by decide,by decide⟩,_,_,rfl,rfl,(by show(0:Int) < 524287;decide),_,rfl,_,_,rfl,rfl,hm0,?_⟩;exact k _ _ (Int.emod_nonneg _ ⋯) (Hg _ hm0) ⟨⟨a+1,b,g1,by omega,by omega⟩,g2,hlen,g4,T.gne⟩ g3
end
end Nb
namespace Nb
open PySem L2 DL
theorem N5{α:Type}{us:List α}(h:us.length=1):∃a,us=[a]:=match us,h with|[a],_=>⟨a,rfl⟩
theorem zi{α:Type}{us:List α}(h:us.length=2):∃a b,us=[a,b]:=match us,h with|[a,b],_=>⟨a,b,rfl⟩
theorem Lj{α:Type}{us:List α}(h:us.length=3):∃a b c,us=[a,b,c]:=match us,h with|[a,b,c],_=>⟨a,b,c,rfl⟩
theorem NT{α:Type}{us:List α}(h:us.length=4):∃a b c d,us=[a,b,c,d]:=match us,h with|[a,b,c,d],_=>⟨a,b,c,d,rfl⟩
theorem T2{α:Type}{us:List α}(h:us.length=5):∃a b c d e,us=[a,b,c,d,e]:=match us,h with|[a,b,c,d,e],_=>⟨a,b,c,d,e,rfl⟩
theorem rk{N ps:List Str}{S:E5}(h1:S.kind=.function:=by rfl)(h2:S.isCoroutine=aj:=by rfl)(h3:S.isGenerator=aj:=by rfl)(h4:N.Nodup:=by decide +kernel)(h5:N.take ps.length=ps:=by rfl)(h6:∀x∈ps,S.names.lookup x=ae .local\/S.names.lookup x=ae .cell:=by decide +kernel)(h7:∀y∈S.names,y.2≠.free:=by decide +kernel):FnScope N ps S:=⟨h1,h2,h3,h4,h5,h6,h7⟩
theorem wY(h:Has X.prog X.w X.K X.mg X.base k x ps S)(hr:Room k' X.A)(ha:DA X (e::es) tR wR)(hk:k<=k')(hg:Gl X x)(hdb:(x==("__debug__":Str))=aj)(he:As (e::es) X.env=(aj,eval e X.env)::As es X.env)(hpl:(Ct pos (As es X.env)).any (·.1)=aj):DE X (.Call (.Name x p) (e::es) [] pos) (ji (fB S) [] E0 tR) (aF S wR):=KO h (hr.mono hk) hg ha hdb he hpl
theorem vL(h:HasN X.prog X.w X.K X.mg X.base k x ps S)(hr:Room k' X.A)(ha:DA X (e::es) tR wR)(hk:k<=k')(hg:Gl X x)(hdb:(x==("__debug__":Str))=aj)(he:As (e::es) X.env=(aj,eval e X.env)::As es X.env)(hpl:(Ct pos (As es X.env)).any (·.1)=aj):DF X (.Call (.Name x p) (e::es) [] pos) (ji (lZ S) [] E0 tR) (oV S wR):=PY h (hr.mono hk) hg ha hdb he hpl
def RC:NameKind->Bool
 |.local=>ai
 |_=>aj
def xS:NameKind->Bool
 |.free=>ai
 |_=>aj
def m9(sc:E5):List Str:=(sc.names.filter λy=>xS y.2).map (·.1)
def cN(sc:E5):List Str:=((sc.names.drop 1).filter λy=>RC y.2).map (·.1)++m9 sc
def n6(sc:E5)(cells:List (Str×Addr)):List (Str×Addr):=(m9 sc).reverse.map λx=>(x,(cells.lookup x).getD 0)
def qP(sc:E5):List (Str×NameKind):=sc.names.map λy=>(y.1,bif xS y.2 then .cell else y.2)
inductive Frs(X:Cx)(sc:E5):List (Option Nat)->List Str->Prop
 |nil:Frs X sc [] []
 |own {f:List (Option Nat)} {x:Str} {N:List Str} (h:Frs X sc f N):Frs X sc (ah::f) (x::N)
 |free {f:List (Option Nat)} {x:Str} {N:List Str} {i:Nat} (h1:X.N[i]?=ae x) (h2:fH X.env.scope x) (h3:X.env.kindOf x=ae .cell\/X.env.kindOf x=ae .free) (h4:(qP sc).lookup x=ae .cell\/(qP sc).lookup x=ae .free) (h5:(n6 sc X.env.cells).lookup x=X.env.cells.lookup x) (h:Frs X sc f N):Frs X sc (ae i::f) (x::N)
theorem Frs.len(h:Frs X sc f N):f.length=N.length:=by
 induction h with
 |nil=>rfl
 |own _ ih=>rw[Ar,Ar,ih]
 |free _ _ _ _ _ _ ih=>rw[Ar,Ar,ih]
theorem Qb(h1:closureFor sc X.env=pure (n6 sc X.env.cells))(h2:sc.kind=.function)(h3:∀y∈sc.names,y.2≠.cell)(h4:∀y∈sc.names,y.2=.local->sc.names.lookup y.1=ae .local)(h5:((m9 sc).all λx=>(X.env.cells.lookup x).isSome)=ai)(h6:(relabel sc X.env).names=qP sc)(h7:∀y∈qP sc,(y.2=.cell\/y.2=.free)->y.1∈(m9 sc).reverse)(h8:Frs X sc f (cN sc)):CompSc X (cN sc) sc (n6 sc X.env.cells) f:=by
 refine⟨h1,h2,h3,h4,J3 λy hy=>?_,OW _ _ h6 (show(n6 sc X.env.cells).map (·.1)=(m9 sc).reverse by unfold n6;rw[Dg];exact List.map_id' _) h7,h8.len,?_⟩
 ·obtain⟨x,hx,rfl⟩:=Bo.mp hy;obtain⟨c,hc⟩:=Ei.mp (Ez.mp h5 x (List.mem_reverse.mp hx));show X.env.cells.lookup x=ae ((X.env.cells.lookup x).getD 0);rw[hc];rfl
 ·intro j i h;rw[h6];clear h1 h2 h3 h4 h5 h6 h7;generalize cN sc=N at h8 ⊢
  induction h8 generalizing j with
  |nil=>cases h
  |own _ ih=>cases j with
   |zero=>cases h
   |succ j=>exact ih j h
  |free a b c d e _ ih=>cases j with
   |zero=>cases h;exact⟨_,rfl,a,b,c,d,e⟩
   |succ j=>exact ih j h
theorem PK(h:Frs X sc f N):Frs X sc f N:=h
theorem kC(h:X.K=K):(c6 X N sc cl s H fp).K=K:=h
theorem nC(h:N.Nodup):(c6 X N sc cl s H fp).N.Nodup:=h
def zL:List Str:=["ValueError","bool","dict","enumerate","int","isinstance","len","list","range","repr","set","sorted","str","tuple","zip"]
theorem zU{mg:Str->Option Af}(z:∀x∈zL,mg x=ah)(h:x∈zL):mg x=ah:=z x h
theorem QL:By "set"=ae (.type "set"):=by decide +kernel
theorem Ls:By "sorted"=ae (.builtin "sorted"):=by decide +kernel
structure NR(P:A7)(w:Bk)(K:Ah)(mg:Str->Option Af)(base:Heap):Prop where
 cl:XCl K 63 24
 hi:Co K (.ref 63) "__init__"=ae (ae (.ref 60))
 fn:∃oI fd,K.lookup 60=ae oI/\oI.cls=.type "function"/\FnOk P w K mg base c9 1 60 fd ["self","place"] (pU 63 "place")/\Binds K fd ["self","place"] []
 ga:mg "NotReady"=ae (.ref 63)
theorem IS(R:NR X.prog X.w X.K X.mg X.base)(hl:v9 X 63 EX)(L:l8 C "place" 63 EX Ed)(hr:Room k' X.A)(d:DE X e te we)(hk:2<=k')(hg:Gl X "NotReady")
  (he:As [e] X.env=(aj,eval e X.env)::As [] X.env) (hpl:(Ct cpos (As [] X.env)).any (·.1)=aj):DR C X (.Raise (ae (.Call (.Name "NotReady" p) [e] [] cpos)) ah pos) (v8 63 "place" EX te) (mP we Ed):=by
 obtain⟨oI,fd,h1,h2,h3,h4⟩:=R.fn;exact⟨Sa R.cl R.hi h1 h2 h3 (hr.mono hk) hg R.ga h4 (λ_ _ _ _ _ z=>z) hl d.pe ∎ he hpl,QT d.sd L⟩
theorem LH(h:DSs X l T (bL i W)):DRs C X l T (bL i W):=h.r
theorem Ti(h:DR C X e t w):DR C X e t w:=h
theorem sL(h:DRs C X e t w):DRs C X e t w:=h
theorem MS{b rest:List Stmt}(e:b=st::rest)(h:DRs C X (st::rest) T W):DRs C X b T W:=e▸h
section
variable{P:A7}{w:Bk}{K:Ah}{mg:Str->Option Af}{base:Heap}{fa:Addr}{fd:B9}
theorem Qj{w:DT}(h:DE X e t w):DE X e t w:=h
theorem NV{w:dZ}(h:DA X e t w):DA X e t w:=h
theorem N8{w:aH}(h:DS X e t w):DS X e t w:=h
theorem tX{w:aH}(h:DSs X e t w):DSs X e t w:=h
theorem QV{w:cj}(h:DC X e t w):DC X e t w:=h
theorem Jm{w:fk}(h:DF X e t w):DF X e t w:=h
theorem RX{w:gJ}(h:DI X g e t w):DI X g e t w:=h
theorem HF{b rest:List Stmt}(e:b=st::rest)(h:DSs X (st::rest) T W):DSs X b T W:=e▸h
theorem nA(F:Fun K x x st fa fd)(h:∀(kV doc pm:Af) (an:Option Addr) (cdv ct:Af) (us:List Af),us.length=ps.length->bindArgs (D0 x x (kc st) (fF st) (cD st) .none kV doc pm an cdv ct) ⟨us,[]⟩=pure (ps.zip us):=by
 intro _ _ _ _ _ _ us hl
 first
  |obtain⟨_,rfl⟩:=N5 hl;rfl
  |obtain⟨_,_,rfl⟩:=zi hl;rfl
  |obtain⟨_,_,_,rfl⟩:=Lj hl;rfl
  |obtain⟨_,_,_,_,rfl⟩:=NT hl;rfl
  |obtain⟨_,_,_,_,_,rfl⟩:=T2 hl;rfl):Binds K fd ps []:=F.binds h
def r9(x:Str)(st:Stmt)(ps:List Str):Prop:=∀{K:Ah}{fa:Addr}{fd:B9},Fun K x x st fa fd->Binds K fd ps []
def gO(P:A7)(w:Bk)(K:Ah)(mg:Str->Option Af)(base:Heap)(k:Nat)(x:Str)(i:Nat)(fa:Addr)(N:List Str)(b:List Stmt)(W:aH):Prop:=N.Nodup->∀(cdv:Af)(A:Bu)(outer:List Env)(s:Ai)(H:Hp)(E:XK),Room k (A.deeper (Dv x (cD (cY i)) s.heap.objs.size fa cdv))->∃T,DSs (cO c9 P w K mg base N x (cD (cY i)) fa cdv A outer s H E).nox b T W
theorem Iy{α:Type}{p:α->Prop}(h:∃T,p T:=by
 apply De
 first
  |apply HF (by exact rfl)
  |apply MS (by exact rfl)
  |skip
 repeat' first
  |with_reducible first|exact Tc|exact K2|exact S0|exact GB|exact PySem.boot_len|exact FR|exact PyProof.Rows.boot_range|exact NF|exact QL|exact Ls|exact Nq|exact Hu
  |with_reducible first|apply Room.units|apply Room.units0|apply Room.hd|apply Room.gd
  |exact rfl
  |exact C7 rfl
  |exact Cc (C7 rfl)
  |exact Cc (Cc rfl)
  |exact Cc rfl
  | (with_reducible apply Qj;with_reducible first|apply iz|apply vm|apply tV|apply wY|apply pV|apply M4|apply M1|apply Nr|apply Na|apply uG (yU ?_) yo ?_ ?_ ?_ ?_ ?_ ?_ ?_ ?_|apply yP (EE ?_) xl ?_ ?_ ?_ ?_ ?_ ?_ ?_ ?_|apply NI|apply Q3|apply wg|apply OL|apply PJ|apply Qx|apply wZ (o3 ?_ ?_) m6|apply uG (yU ?_) Ut ?_ ?_ ?_ ?_ ?_ ?_ ?_ ?_|apply OO|apply JA|apply J9|apply SU|apply yP (EE ?_) Jo ?_ ?_ ?_ ?_ ?_ ?_ ?_ ?_|apply NW|apply Oy|apply Tb|apply SR|apply Tx|apply uK|apply LX|apply TH|apply uG (Sy ?_ ?_ ?_) JM ?_ ?_ ?_ ?_ ?_ ?_ ?_ ?_|apply P5|apply Pp|apply LY|apply OF|apply Pr|apply MX|apply O7|apply RD|apply wZ (rq ?_) lF|apply wZ vJ EJ|apply T6 Hv BD Hv BD ?_ ?_ ?_ ?_|apply Ro|apply DF.d)
  | (with_reducible apply NV;with_reducible first|apply jn|apply qV)
  | ((with_reducible apply N8);first|((with_reducible apply K4);case hx=>exact rfl)|((with_reducible apply Pn);case hx=>exact rfl)|with_reducible first|apply HS|apply zP|apply tG|apply P7|apply Rp|apply Mp|apply RH|apply QI|apply Uj|apply Rn|apply SN|apply RV|apply Qn|apply RT)
  | (with_reducible apply tX;with_reducible first|apply Ni|apply sW|apply JN|apply zR)
  | ((with_reducible apply QV);first|(with_reducible apply DCW.cc;with_reducible first|apply cw_and|apply cw_or)|with_reducible first|apply gL (o3 ?_ ?_) m6|apply gL Jn Ri|apply gL (o3 ?_ ?_) TB|apply gL JO T7|apply gL GH yj|apply Oi|apply gL GH K6|apply gL (tu ?_) lF|apply gL Qa KQ|apply gL (rq ?_) lF|apply gL (rq ?_) Ks|apply RB|apply NP|apply Kf|apply Jk|apply Mr|apply gL vJ xQ|apply gL vJ EJ|apply Rq)
  | (with_reducible apply Jm;with_reducible first|apply Jb|apply vg|apply Tt|apply Pa|apply Sh|apply NK|apply Sw|apply vL)
  | (with_reducible apply RX;with_reducible first|apply TN|apply Mb|apply N9|apply TZ|apply Ny)
  |with_reducible first|apply Jg|apply Ki|apply vY|apply SO|apply RP|apply NA|apply Mc|apply Nd|apply cw_or|apply cw_or1|apply Sk|apply CJ|apply cw_and|apply cw_and1|apply Lp|apply Ol|apply Qb
  | (with_reducible apply Ti;with_reducible first|apply IS|apply sZ|apply Rg|apply DS.r)
  | (with_reducible apply sL;with_reducible first|apply LH|apply Mn|apply Se|apply DSs.r)
  |exact IJ
  |assumption
  |with_reducible first|apply kC|apply nC
  | ((with_reducible apply PK);first|apply Frs.nil|apply Frs.own|apply Frs.free)
  |exact lg _
  |exact λ_ _=>rfl
  |exact λ_=>rfl
  |exact zU (by assumption) ∅
  |exact PassesOwn.never
  |exact PassesOwn.leaving
  |exact⟨rfl,rfl,rfl,rfl⟩
  |with_unfolding_all rfl
  |decide
  |decide +kernel
  |exact Cc (Cc (C7 rfl))
  |exact Cc (Cc (Cc (C7 rfl)))
  |exact Cc (Cc (Cc (Cc rfl)))
  |intro(_:Ai) _ _
  |exact(0:Int)):∃T,p T:=h
theorem uk(h:gO P w K mg base k x i fa N b W:=by intro nd cdv A outer s H E hr;exact Iy):gO P w K mg base k x i fa N b W:=h
theorem aN(k p)(x)(F:Fun K x x (cY i) fa fd/\mg x=ae (.ref fa))(body:bN S W N)(len:∀ws n Q,S ws n Q->ws.length=p:=by(intro _ _ _ h;(repeat obtain⟨_,h⟩:=h);subst_vars;rfl))(hp:(N.take p).length=p:=by rfl)(Sc:FnScope N (N.take p) (cD (cY i)):=by exact rk)(b:r9 x (cY i) (N.take p):=by intro _ _ _ F;exact nA F)
  (h:gO P w K mg base k x i fa N (fF (cY i)) W:=by exact uk):Has P w K mg base (k+1) x (N.take p) S:=
 Has.mk' F.1 F.2 (b F.1) (Fun.okD F.1 Sc (λws n Q q=>by rw[hp];exact len ws n Q q) λcdv A outer s H E hr=>(h Sc.nd cdv A outer s H E hr).elim λT d=>⟨T,W,d,body⟩)
theorem t9{N:List Str}(k p)(x)(F:Fun K x x (cY i) fa fd/\mg x=ae (.ref fa))(body:∀ws n Q,S ws n Q->W (gH N ws) n {nx:=λ_ _=>False,rt:=λ_ _=>False,rn:=Q})(len:∀ws n Q,S ws n Q->ws.length=p:=by(intro _ _ _ h;(repeat obtain⟨_,h⟩:=h);subst_vars;rfl))(hp:(N.take p).length=p:=by rfl)(Sc:FnScope N (N.take p) (cD (cY i)):=by exact rk)(b:r9 x (cY i) (N.take p):=by intro _ _ _ F;exact nA F)
  (h:gO P w K mg base k x i fa N (fF (cY i)) W:=by exact uk):HasN P w K mg base (k+1) x (N.take p) S:=
 HasN.mk' F.1 F.2 (b F.1) (Fun.okN F.1 Sc (λws n Q q=>by rw[hp];exact len ws n Q q) λcdv A outer s H E hr=>(h Sc.nd cdv A outer s H E hr).elim λT d=>⟨T,W,d,body⟩)
theorem PV{rest:List Stmt}(k)(F:Fun K "law" "law" (cY i) fa fd)(GT:FnOk P w K mg base c9 1 fT fdT Zc (n8 K))(bT:Binds K fdT Zc [])(mT:mg "_law_tape"=ae (.ref fT))(kT:B5 K (.ref fT)=ai)(hW:W (ah::ae (.w .tp)::Bn (N.length-2) ah) 0 oH)(e:fF (cY i)=s0::rest)(h0:N.Nodup->∀(cdv:Af) (A:Bu) (outer:List Env) (s:Ai) (H:Hp) (E:XK),Room k (A.deeper (Dv "law" (cD (cY i)) s.heap.objs.size fa cdv))->PS (cO c9 P w K mg base N "law" (cD (cY i)) fa cdv A outer s H E).nox s0 (dh (ji (n8 K) [] E0 (dA (cC 0) bS)) (gm 1)))(hN:∀v,start N [v]=ae v::ah::Bn (N.length-2) ah:=by intro _;rfl)(Sc:FnScope N Zc (cD (cY i)):=by exact rk)
  (h:gO P w K mg base k "law" i fa N rest W:=by exact uk):FnOk P w K mg base c9 (k+1) fa fd Zc (DL.spLaw K):=
 La F Sc GT bT mT kT hN hW λcdv A outer s H E hr=>(h Sc.nd cdv A outer s H E hr).elim λT d=>⟨s0,rest,T,e,h0 Sc.nd cdv A outer s H E hr,d⟩
def P9(P:A7)(w:Bk)(K:Ah)(mg:Str->Option Af)(base:Heap)(k:Nat)(x:Str)(i:Nat)(fa:Addr)(N:List Str)(b:List Stmt)(W:(Int->Sl->Int->Prop)->aH):Prop:=N.Nodup->∀(cdv:Af)(A:Bu)(outer:List Env)(s:Ai)(H:Hp)(E:XK),Room k (A.deeper (Dv x (cD (cY i)) s.heap.objs.size fa cdv))->∀(C:DL.Ctx)(Ed:Int->Sl->Int->Prop),l8 C "place" 63 (λ_ Cl dx H'=>E (.ref Cl) (ae dx) H') Ed->∃T,DRs C (cO (lG P w) P w K mg base N x (cD (cY i)) fa cdv A outer s H E) b T (W Ed)
theorem lK{N:List Str}(k)(x)(F:(Fun K x x (cY i) fa fd/\mg x=ae (.ref fa))/\B5 K (.ref fa)=ai)(len:∀ws n Q E,S ws n Q E->ws.length=p)(body:∀ws n Q E,S ws n Q E->W (λi _ n=>E i n) (gH N ws) n (nh Q))(hp:(N.take p).length=p:=by rfl)(Sc:FnScope N (N.take p) (cD (cY i)):=by exact rk)(b:r9 x (cY i) (N.take p):=by intro _ _ _ F;exact nA F)
  (h:P9 P w K mg base k x i fa N (fF (cY i)) W:=by intro nd cdv A outer s H E hr C Ed hL;exact Iy):HasE P w K mg base (k+1) x (N.take p) 63 "place" S:=
 ⟨⟨fa,fd,Fun.okE F.1.1 Sc (λws n Q E q=>by rw[hp];exact len ws n Q E q) (λcdv A outer s H E hr C Ed hL=>h Sc.nd cdv A outer s H E hr C Ed hL) body,b F.1.1,F.1.2,F.2⟩⟩
end
theorem PQ:∀ws n Q E,m5 ws n Q E->ws.length=3:=λws n Q E h=>by obtain⟨_,_,_,_,rfl,_⟩:=h;rfl
theorem PD:∀ws n Q E,mW ws n Q E->ws.length=3:=λws n Q E h=>by obtain⟨_,_,_,_,rfl,_⟩:=h;rfl
theorem J8:∀ws n Q E,nE ws n Q E->ws.length=2:=λws n Q E h=>by obtain⟨_,_,_,rfl,_⟩:=h;rfl
def Hx(X:Cx)(EX:St->XK):Prop:=∀pins σ H s e s',Inv X pins σ H s->lG X.prog X.w X.stack H s (EX σ) e s'->X.xe e s'
section
variable{X:Cx}{k k':Nat}{S:dE}{ps:List Str}{x:Str}{p pos pos':Pos}{e:Expr}{es:List Expr}{t:TA}{wa:dZ}{EX:St->XK}
structure CalE(X:Cx)(S:dE)(st:Stmt)(t:TA)(wa:dZ):Prop where
 ps:∀EX,Hx X EX->PS X st (j9 (mC (kG 63 "place" S) EX t))
 sd:gR t wa
theorem lS(h:HasE X.prog X.w X.K X.mg X.base k x ps 63 "place" S)(hr:Room k' X.A)(hk:k<=k')(ha:DA X (e::es) t wa)(hg:Gl X x)(hdb:(x==("__debug__":Str))=aj:=by decide)(he:As (e::es) X.env=(aj,eval e X.env)::As es X.env:=by rfl)(hpl:(Ct pos (As es X.env)).any (·.1)=aj:=by rfl)
  (hs:Da (.Call (.Name x p) (e::es) [] pos) ah pos'.line X.env=pure aj:=by rfl):CalE X S (.Expr (.Call (.Name x p) (e::es) [] pos) pos') t wa:=by
 obtain⟨fa,fd,F,b,hm,kp⟩:=h.ex;exact⟨λEX hx=>qw (Pz F (hr.mono hk) hg hm kp b hx ha.pa hdb he hpl) hs,ha.sd⟩
theorem GJ(hc:DC X c tc cc)(ha:fL C T W)(hb:fL C U V'):fL C (hZ tc T U) (aJ cc W V'):=λfz hz H B σ δ n K D R q E=>
 hc.sd {C with fz:=fz} H B σ δ n _ _ R q λb H1 n1 R1 _ q1=>by
  cases b with
  |true=>
   rw[if_pos rfl]at q1 ⊢;exact ha fz hz H1 B σ δ n1 K D R1 q1 E
  |false=>
   rw[if_neg Ag]at q1 ⊢;exact hb fz hz H1 B σ δ n1 K D R1 q1 E
theorem LM{w1 w2 w3:dZ}
  (hst:X.stack=X.env::X.outer) (hfr:X.env.frame=ae X.env.locals) (hg0:Gl X "BoardError") (hm0:X.mg "BoardError"=ae (.ref 24)) (cl:XCl X.K 63 24) (hN:X.N.Nodup) (hi:X.N[5]?=ae ("e":Str)) (hk:X.env.scope.names.lookup ("e":Str)=ae .local)
  (d1:∀pn W,DC (X.inTry pn W) c1 tc1 cc1) (a1:∀pn W,CalE (X.inTry pn W) S1 st1 t1 w1) (d2:∀pn W,DC (X.inTry pn W) c2 tc2 cc2) (a2:∀pn W,CalE (X.inTry pn W) S2 st2 t2 w2) (a3:∀pn W,CalE (X.inTry pn W) S3 st3 t3 w3)
  (hs:∀e0,PSs (X.inExc e0) (b0::suite) th) (su:Suite "place" 63 5 4 th):
  DS X (.Try [.If c1 [st1] [.If c2 [st2] [st3] i2] i1] [.ExceptHandler (ae (.Name "BoardError" np)) (ae "e") (b0::suite) hpos] [] [] pos)
   (ly X.K 24 5 (λEX=>hZ tc1 (j9 (mC (kG 63 "place" S1) EX t1)) (hZ tc2 (j9 (mC (kG 63 "place" S2) EX t2)) (j9 (mC (kG 63 "place" S3) EX t3)))) th)
   (jK 5 4 λEd=>aJ cc1 (jr S1 w1 Ed) (aJ cc2 (jr S2 w2 Ed) (jr S3 w3 Ed))):=by
 refine⟨Uk hst hfr hg0 hm0 hN hi hk (λpn W EX hx=>?_) hs ∎,RK cl ∎ su λC EX Ed L=>?_⟩
 ·exact fY (jo (d1 pn W).pt (fY ((a1 pn W).ps EX hx)) (fY (jo (d2 pn W).pt (fY ((a2 pn W).ps EX hx)) (fY ((a3 pn W).ps EX hx)))))
 ·exact GJ (d1 [] λ_ _=>True) (w6 (a1 [] λ_ _=>True).sd L) (GJ (d2 [] λ_ _=>True) (w6 (a2 [] λ_ _=>True).sd L) (w6 (a3 [] λ_ _=>True).sd L))
end
structure NX(K:Ah)(mg:Str->Option Af):Prop where
 cla:XCla K 63
 fp:Co K (.ref 63) "place"=ae ah
 kv:Fk K (.ref 63) (.type "ValueError")=ae ai
 kt:PySem.W.kitAny K (.ref 63) [.ref 44,.ref 87,.ref 75]=ae aj
 g0:mg "BoardError"=ae (.ref 24)
 g1:mg "NoLine"=ae (.ref 44)
 g2:mg "NoRow"=ae (.ref 87)
 g3:mg "TooMany"=ae (.ref 75)
section
variable{P:A7}{w:Bk}{K:Ah}{mg:Str->Option Af}{base:Heap}{fa:Addr}{fd:B9}
theorem SE(R:NR P w K mg base)(Y:NX K mg)(hm:HasE P w K mg base kM "moved" ["programs","stand","mover"] 63 "place" m5)(hw:HasE P w K mg base kW "woven" ["programs","stand","movers"] 63 "place" mW)(hl:HasE P w K mg base kL "log_of" ["plan","movers"] 63 "place" nE)
  (z:∀x∈zL,mg x=ah) (zI:mg "isinstance"=ah) (zV:mg "ValueError"=ah) (zB:mg "bool"=ah)  (k1:kM<=k) (k2:kW<=k) (k3:kL<=k):gO P w K mg base k "_law_refused" 70 fa Za (fF (cY 70)) sN:=by
 intro nd cdv A outer s H E hr;obtain⟨th,hs,su⟩:=MO (X:=(cO c9 P w K mg base Za "_law_refused" (cD (cY 70)) fa cdv A outer s H E).nox) (Cl:=63) (c1:=44) (c2:=87) (c3:=75) (xc:="NotReady") (xf:="_law_found") (xe:="e") (x1:="NoLine") (x2:="NoRow") (x3:="TooMany") (ie:=5) (j:=4) (f:="place") (k1:=0) (k2:=0) (kt:=0)
  (q0:=⟨397,8,397,18⟩) (q1:=⟨397,21,397,28⟩) (q2:=⟨397,8,397,28⟩) (q3:=⟨398,11,398,21⟩) (q4:=⟨398,22,398,23⟩) (q5:=⟨398,25,398,33⟩) (q6:=⟨398,11,398,34⟩) (q7:=⟨398,39,398,49⟩) (q8:=⟨398,50,398,51⟩) (q9:=⟨398,53,398,63⟩) (q10:=⟨398,39,398,64⟩) (q11:=⟨398,74,398,84⟩) (q12:=⟨398,85,398,86⟩) (q13:=⟨398,85,398,92⟩) (q14:=⟨398,94,398,98⟩) (q19:=⟨398,74,398,99⟩) (q20:=⟨398,70,398,99⟩) (q21:=⟨398,11,398,100⟩) (q15:=⟨399,12,399,22⟩) (q16:=⟨399,25,399,26⟩) (q17:=⟨399,25,399,32⟩) (q18:=⟨399,12,399,32⟩) (q22:=⟨398,8,399,32⟩)
  (q23:=⟨400,11,400,21⟩) (q26:=⟨400,22,400,23⟩) (q27:=⟨400,26,400,32⟩) (q28:=⟨400,34,400,39⟩) (q29:=⟨400,41,400,48⟩) (q30:=⟨400,25,400,49⟩) (q24:=⟨400,11,400,50⟩) (q31:=⟨401,12,401,22⟩) (q32:=⟨401,25,401,32⟩) (q33:=⟨401,12,401,32⟩) (q25:=⟨400,8,401,32⟩) (q34:=⟨0,0,0,0⟩)
  nd rfl rfl rfl rfl ∎ rfl zI rfl zV rfl zB rfl R.ga rfl Y.g1 rfl Y.g2 rfl Y.g3 Y.cla Y.fp Y.kv Y.kt ∎ ∎ ∎ ∎ ∎ ∎ rfl rfl rfl
 refine⟨_,HF rfl (sW (zP (i:=4) nd rfl (.inl rfl) pV) (sW (LM rfl rfl rfl Y.g0 R.cl nd rfl rfl (λpn W=>gL (o3 (K:=K) hr.units0) m6 (iz 0) pV (lg _)) (λpn W=>lS hm hr k1 (jn (tV (K:=K) (iz 1) vm) (jn (iz 2) (jn (iz 3) qV))) rfl) (λpn W=>gL (o3 (K:=K) hr.units0) m6 (iz 0) pV (lg _))
  (λpn W=>lS hw hr k2 (jn (tV (K:=K) (iz 1) vm) (jn (iz 2) (jn (iz 3) qV))) rfl) (λpn W=>lS hl hr k3 (jn (iz 1) (jn (iz 3) qV)) rfl) hs su) (zR (HS (iz 4)))))⟩
end
theorem zE(P):(zL.map λx=>PySem.W.nsIn (KK P) Dt x)=zL.map λ_=>ae ah:=by kernel_rfl
section
variable{P:Gp}{h:Heap}{mg:Str->Option Af}(X:(KK P).In h)(G:h.Ns Dt mg)
include X G
theorem AE(j:Nat)(d:Ds)(e:dL[j]?=ae d):(Fun (KK P) d.x d.x (cY d.i) d.f (lq d)/\mg d.x=ae (.ref d.f))/\B5 (KK P) (.ref d.f)=ai:=by
 have q:=xB (Qm P) e;obtain⟨q1,q2⟩:=Prod.mk.inj q;obtain⟨q2,q3⟩:=Prod.mk.inj q2;have k:B5 (KK P) (.ref d.f)=ai:=by
  unfold B5;simp only[q2]
 exact⟨⟨GY q2 q3 k,D1 X G q1⟩,k⟩
theorem zK(x)(h:x∈zL):mg x=ah:=by
 obtain⟨j,e⟩:=B6.mp h;exact PySem.W.mg_none_of X G (xB (zE P) e)
end
theorem kh(P):Co (KK P) (.ref 63) "__setattr__"=ae (ae (.builtin "object.__setattr__"))/\B5 (KK P) (.ref 63)=ai/\PySem.W.readsIn (KK P) 24 (.type "type")=ai/\PySem.W.specialIn (KK P) (.ref 24) "__getattribute__"=ae (ae (.builtin "type.__getattribute__"))/\PySem.W.findCls (KK P) (.ref 24) (.type "type") "__init__"=ae (.val (.builtin "ValueError.__init__"))/\Co (KK P) (.ref 63) "__init__"=ae (ae (.ref 60))/\Co (KK P) (.ref 63) "place"=ae ah:=
 ⟨by kernel_rfl,by kernel_rfl,by kernel_rfl,by kernel_rfl,by kernel_rfl,by kernel_rfl,by kernel_rfl⟩
theorem PZ(P):XCla (KK P) 63:=⟨⟨by kernel_rfl,by kernel_rfl,by kernel_rfl⟩,by kernel_rfl,by kernel_rfl,by kernel_rfl,by kernel_rfl,by kernel_rfl⟩
theorem js(P):(KK P).lookup 24=ae (oX "BoardError" 24 23 [.type "ValueError"] ib [.ref 44,.ref 63,.ref 75,.ref 87] 15 189 197)/\(KK P).lookup 63=ae (oX "NotReady" 63 62 [.ref 24] (.ref 24::ib) [] 47 234 242)/\(KK P).lookup 60=ae (oT "function" (.func yB))/\Gb (KK P) (.ref 59) "NotReady.__init__"=ai:=⟨by kernel_rfl,by kernel_rfl,by kernel_rfl,by kernel_rfl⟩
theorem y3(P):Fk (KK P) (.ref 63) (.type "ValueError")=ae ai/\PySem.W.kitAny (KK P) (.ref 63) [.ref 44,.ref 87,.ref 75]=ae aj:=⟨by kernel_rfl,by kernel_rfl⟩
theorem Ss(P):(KK P).lookup 23=ae (oT "dict" (.dict #[eN P "__module__" 196 (.str "noteboard.errors" 187),eN P "__firstlineno__" 200 (.int 2 199),eN P "__static_attributes__" 201 (.ref 22),eN P "__weakref__" 203 (.ref 25),eN P "__doc__" 204 .none] 3)):=by kernel_rfl
theorem Lh(P)(X:(KK P).In h):OwnTail h ib (.ref 24::ib):=.own (X _ _ (js P).1) ⟨_,_,_,X _ _ (Ss P),rfl,λe he=>(by
 simp only[List.mem_toArray,Au,A1,or_false]at he;rcases he with rfl|rfl|rfl|rfl|rfl<;>exact⟨_,_,rfl⟩),λ_=>rfl⟩ (by kernel_rfl) .base
theorem ED(P):XCl (KK P) 63 24 where
 obj:=⟨_,_,_,_,_,_,_,_,_,_,_,_,_,_,(js P).2.1⟩
 base:=⟨_,_,_,_,_,_,_,_,_,_,_,_,_,_,_,(js P).1⟩
 tail:=λh X=>Lh P X
 sa:=(kh P).1
 kp:=(kh P).2.1
 rd0:=(kh P).2.2.1
 sp0:=(kh P).2.2.2.1
 in0:=(kh P).2.2.2.2.1
theorem QU(g0:mg "BoardError"=ae (.ref 24))(g:mg "NotReady"=ae (.ref 63)):NR p w (KK w.params) mg base where
 cl:=ED _
 hi:=(kh _).2.2.2.2.2.1
 fn:=⟨_,_,(js _).2.2.1,rfl,N4 (js _).2.2.1 (js _).2.2.2 ⟨rfl,rfl,rfl,by decide +kernel,rfl,by decide +kernel,by decide +kernel⟩ rfl (ED _) (kh _).2.2.2.2.2.2 g0 rfl (.inl rfl) (.inl rfl) (λ_=>rfl) ∎ ∎ (λ_=>rfl),
  Fun.binds (GY (js _).2.2.1 (js _).2.2.2 (by unfold B5;simp only[(js _).2.2.1])) λ_ _ _ _ _ _ us hl=>by obtain⟨_,_,rfl⟩:=zi hl;rfl⟩
 ga:=g
abbrev pR:A7:=PySem.W.OpenLaw.prog PySem.Challenge.rw_noteboard_k23_movers_that_are_none
structure Cv where
 P:A7
 w:Bk
 K:Ah
 mg:Str->Option Af
 base:Heap
abbrev gq(c:Cv):Prop:=Has c.P c.w c.K c.mg c.base 1 "_law_draw" Zh ck
abbrev HK(c:Cv):Prop:=Has c.P c.w c.K c.mg c.base 1 "is_whole" ["thing"] uF
abbrev BH(c:Cv):Prop:=Has c.P c.w c.K c.mg c.base 1 "field_fits" ["field","value","having","bound"] jL
abbrev rM(c:Cv):Prop:=Has c.P c.w c.K c.mg c.base 2 "fits" ["pattern","row","names"] pY
abbrev xU(c:Cv):Prop:=Has c.P c.w c.K c.mg c.base 1 "next_value" ["value"] uI
abbrev tT(c:Cv):Prop:=Has c.P c.w c.K c.mg c.base 2 "field_value" ["field","having"] oM
abbrev zO(c:Cv):Prop:=Has c.P c.w c.K c.mg c.base 3 "filled" ["template","names"] rO
abbrev DO(c:Cv):Prop:=Has c.P c.w c.K c.mg c.base 1 "first_stand" ["plan"] sv
abbrev zq(c:Cv):Prop:=Has c.P c.w c.K c.mg c.base 2 "is_within" ["thing","most"] vX
abbrev qF(c:Cv):Prop:=Has c.P c.w c.K c.mg c.base 1 "next_act" ["programs","stand","hand"] iM
abbrev vF(c:Cv):Prop:=Has c.P c.w c.K c.mg c.base 3 "gets" ["programs","stand","hand"] lV
abbrev ue(c:Cv):Prop:=Has c.P c.w c.K c.mg c.base 1 "gone_on" ["place","names"] mL
abbrev vA(c:Cv):Prop:=Has c.P c.w c.K c.mg c.base 1 "gone_to" ["program","block","names"] pB
abbrev w8(c:Cv):Prop:=Has c.P c.w c.K c.mg c.base 1 "with_hand" ["hands","hand","place"] jy
abbrev CY(c:Cv):Prop:=Has c.P c.w c.K c.mg c.base 4 "got" ["programs","stand","hand","act"] nY
abbrev EV(c:Cv):Prop:=Has c.P c.w c.K c.mg c.base 3 "is_same_value" ["act","names"] vM
abbrev IF(c:Cv):Prop:=Has c.P c.w c.K c.mg c.base 5 "hand_moved" ["programs","stand","hand"] uO
abbrev ES(c:Cv):Prop:=Has c.P c.w c.K c.mg c.base 1 "aged" ["note"] vG
abbrev ER(c:Cv):Prop:=Has c.P c.w c.K c.mg c.base 2 "clock_moved" ["stand"] sC
abbrev qL(c:Cv):Prop:=Has c.P c.w c.K c.mg c.base 6 "after" ["programs","stand","mover"] lW
abbrev EO(c:Cv):Prop:=Has c.P c.w c.K c.mg c.base 2 "first_board" ["plan"] sH
abbrev zF(c:Cv):Prop:=Has c.P c.w c.K c.mg c.base 1 "clock_row" ["board"] uL
abbrev xr(c:Cv):Prop:=Has c.P c.w c.K c.mg c.base 4 "hand_row" ["programs","board","hand","behind"] vq
abbrev yH(c:Cv):Prop:=Has c.P c.w c.K c.mg c.base 5 "row_of" ["programs","board","mover","behind"] sR
abbrev FZ(c:Cv):Prop:=Has c.P c.w c.K c.mg c.base 1 "went_by" ["row"] wO
abbrev Ht(c:Cv):Prop:=Has c.P c.w c.K c.mg c.base 2 "board_behind" ["board","row","behind"] vx
abbrev xi(c:Cv):Prop:=Has c.P c.w c.K c.mg c.base 7 "logged" ["programs","board","mover"] vO
abbrev l3(c:Cv):Prop:=Has c.P c.w c.K c.mg c.base 2 "_law_value" Ze jd
abbrev qh(c:Cv):Prop:=Has c.P c.w c.K c.mg c.base 2 "_law_size" Ze mS
abbrev wL(c:Cv):Prop:=Has c.P c.w c.K c.mg c.base 2 "_law_age" Ze oi
abbrev Hr(c:Cv):Prop:=Has c.P c.w c.K c.mg c.base 3 "_law_pattern" Zd vB
abbrev yX(c:Cv):Prop:=Has c.P c.w c.K c.mg c.base 3 "_law_template" Zd uJ
abbrev xh(c:Cv):Prop:=Has c.P c.w c.K c.mg c.base 3 "_law_term" Zd qr
abbrev BX(c:Cv):Prop:=Has c.P c.w c.K c.mg c.base 4 "_law_act" ["_law_tape_here","_law_known_here","_law_open_ones"] oh
abbrev Iz(c:Cv):Prop:=Has c.P c.w c.K c.mg c.base 5 "_law_program" Ze uw
abbrev t5(c:Cv):Prop:=Has c.P c.w c.K c.mg c.base 3 "_law_notes" ["_law_tape_here","_law_most"] m7
abbrev HB(c:Cv):Prop:=Has c.P c.w c.K c.mg c.base 6 "_law_plan" Ze tW
abbrev IA(c:Cv):Prop:=Has c.P c.w c.K c.mg c.base 1 "_law_known" ["_law_program_here","_law_block","_law_place"] tH
abbrev BM(c:Cv):Prop:=Has c.P c.w c.K c.mg c.base 4 "_law_stand" ["_law_tape_here","_law_programs"] vK
abbrev HJ(c:Cv):Prop:=Has c.P c.w c.K c.mg c.base 1 "_law_fit" ["_law_pattern_here","_law_row","_law_names"] sy
abbrev Zf:List Str:=["_law_programs","_law_stand_here","_law_hand"]
abbrev rp(c:Cv):Prop:=Has c.P c.w c.K c.mg c.base 1 "_law_next_act" Zf iM
abbrev sx(c:Cv):Prop:=Has c.P c.w c.K c.mg c.base 2 "_law_got" Zf pT
abbrev vV(c:Cv):Prop:=Has c.P c.w c.K c.mg c.base 3 "_law_can" Zf mw
abbrev HX(c:Cv):Prop:=Has c.P c.w c.K c.mg c.base 1 "_law_filled" ["_law_template_here","_law_has"] uH
abbrev GS(c:Cv):Prop:=Has c.P c.w c.K c.mg c.base 1 "_law_to_block" ["_law_program_here","_law_names","_law_block"] lM
abbrev Ij(c:Cv):Prop:=Has c.P c.w c.K c.mg c.base 1 "_law_of_term" ["_law_term_here","_law_names"] qQ
abbrev Hq(c:Cv):Prop:=Has c.P c.w c.K c.mg c.base 3 "_law_move" ["_law_programs","_law_stand_here","_law_mover"] qd
abbrev BP(c:Cv):Prop:=HasN c.P c.w c.K c.mg c.base 4 "_law_movers" ["_law_programs","_law_stand_here"] sQ
abbrev Hz(c:Cv):Prop:=Has c.P c.w c.K c.mg c.base 5 "_law_walk" ["_law_tape_here","_law_programs","_law_stand_here","_law_most"] uo
abbrev yv(c:Cv):Prop:=Has c.P c.w c.K c.mg c.base 1 "_law_first" ["_law_plan_here"] pZ
abbrev AZ(c:Cv):Prop:=Has c.P c.w c.K c.mg c.base 4 "_law_bad_mover" ["_law_tape_here","_law_programs","_law_stand_here"] pM
abbrev BE(c:Cv):Prop:=HasE c.P c.w c.K c.mg c.base 7 "moved" ["programs","stand","mover"] 63 "place" m5
abbrev xu(c:Cv):Prop:=HasE c.P c.w c.K c.mg c.base 7 "woven" ["programs","stand","movers"] 63 "place" mW
abbrev yL(c:Cv):Prop:=HasE c.P c.w c.K c.mg c.base 8 "log_of" ["plan","movers"] 63 "place" nE
abbrev Ip(c:Cv):Prop:=Has c.P c.w c.K c.mg c.base 9 "_law_refused" ["_law_door","_law_plan_here","_law_stand_here","_law_thing"] ik
section
variable{c:Cv}(F:∀(j:Nat) (d:Ds),dL[j]?=ae d->(Fun c.K d.x d.x (cY d.i) d.f (lq d)/\c.mg d.x=ae (.ref d.f))/\B5 c.K (.ref d.f)=ai)(z:∀x∈zL,c.mg x=ah)(u0:c.mg "GREATEST_NUMBER"=ae (.int 99 293))(u1:c.mg "GETTING"=ae (.ref 130))(u2:∀H,SqT c.K H 130 ((Zg:List Str).map V.str))(u3:c.mg "GOT"=ae (.ref 230))(u4:gC c.K 230 [("take","takes"),("read","reads"),("look","looks")])(u5:NR c.P c.w c.K c.mg c.base)(u6:NX c.K c.mg)
include F z u0 u1 u2 u3 u4 u5 u6
theorem T3:gq c:=Has.mk' (F 30 _ rfl).1.1 (F 30 _ rfl).1.2 (nA (F 30 _ rfl).1.1) (QP (OM (F 30 _ rfl).1.1 (zU z ∅)))
theorem Po:HK c:=aN (i:=8) 0 1 "is_whole" (F 0 _ rfl).1 IL
theorem S8:BH c:=aN (i:=10) 0 4 "field_fits" (F 1 _ rfl).1 JJ
theorem Mf(h0:BH c):rM c:=aN (i:=11) 1 3 "fits" (F 2 _ rfl).1 Lu
theorem LG:xU c:=aN (i:=12) 0 1 "next_value" (F 3 _ rfl).1 Lv
theorem Kx(h0:xU c):tT c:=aN (i:=13) 1 2 "field_value" (F 4 _ rfl).1 L9
theorem JH(h0:tT c):zO c:=aN (i:=14) 2 2 "filled" (F 5 _ rfl).1 N0
theorem Jh:DO c:=aN (i:=17) 0 1 "first_stand" (F 6 _ rfl).1 SS
theorem Ox(h0:HK c):zq c:=aN (i:=18) 1 2 "is_within" (F 7 _ rfl).1 S4
theorem Su:qF c:=aN (i:=20) 0 3 "next_act" (F 8 _ rfl).1 Ru
theorem Rl(h0:rM c)(h1:qF c):vF c:=aN (i:=21) 2 3 "gets" (F 9 _ rfl).1 JY
theorem NH:ue c:=aN (i:=22) 0 2 "gone_on" (F 10 _ rfl).1 Qo
theorem Sb:vA c:=aN (i:=23) 0 3 "gone_to" (F 11 _ rfl).1 NO
theorem N6:w8 c:=aN (i:=24) 0 3 "with_hand" (F 12 _ rfl).1 P1
theorem Pd(h0:rM c)(h1:vF c)(h2:ue c)(h3:vA c)(h4:w8 c):CY c:=aN (i:=25) 3 4 "got" (F 13 _ rfl).1 PL
theorem N7(h0:tT c):EV c:=aN (i:=26) 2 2 "is_same_value" (F 14 _ rfl).1 KG
theorem SY(h0:zO c)(h1:ue c)(h2:vA c)(h3:CY c)(h4:EV c)(h5:qF c)(h6:w8 c):IF c:=aN (i:=27) 4 3 "hand_moved" (F 15 _ rfl).1 Nu
theorem Qd:ES c:=aN (i:=28) 0 1 "aged" (F 16 _ rfl).1 JV
theorem Ow(h0:ES c):ER c:=aN (i:=29) 1 1 "clock_moved" (F 17 _ rfl).1 Um
theorem MR(h0:ER c)(h1:IF c)(h2:zq c):qL c:=aN (i:=30) 5 3 "after" (F 18 _ rfl).1 QN
theorem Ot(h0:qL c):BE c:=lK (i:=31) 6 "moved" (F 19 _ rfl) PQ Nz
theorem Oc(h0:qL c):xu c:=lK (i:=33) 6 "woven" (F 20 _ rfl) PD Oo
theorem P2(h0:DO c):EO c:=aN (i:=36) 1 1 "first_board" (F 21 _ rfl).1 Ur
theorem Q9:zF c:=aN (i:=37) 0 1 "clock_row" (F 22 _ rfl).1 To
theorem Ke(h0:vF c)(h1:qF c):xr c:=aN (i:=38) 3 4 "hand_row" (F 23 _ rfl).1 Lk
theorem Kr(h0:zF c)(h1:xr c):yH c:=aN (i:=39) 4 4 "row_of" (F 24 _ rfl).1 Ln
theorem NS:FZ c:=aN (i:=40) 0 1 "went_by" (F 25 _ rfl).1 Jc
theorem Nl(h0:FZ c):Ht c:=aN (i:=41) 1 3 "board_behind" (F 26 _ rfl).1 MG
theorem Qr(h0:qL c)(h1:Ht c)(h2:yH c):xi c:=aN (i:=42) 6 3 "logged" (F 27 _ rfl).1 Uh
theorem N2(h0:EO c)(h1:xi c):yL c:=lK (i:=43) 7 "log_of" (F 28 _ rfl) J8 QZ
theorem L5(h0:gq c):l3 c:=aN (i:=47) 1 1 "_law_value" (F 31 _ rfl).1 Kc
theorem Kk(h0:gq c):qh c:=aN (i:=48) 1 1 "_law_size" (F 32 _ rfl).1 MJ
theorem MW(h0:gq c):wL c:=aN (i:=49) 1 1 "_law_age" (F 33 _ rfl).1 Lf
theorem Q2(h0:gq c)(h1:qh c)(h2:l3 c):Hr c:=aN (i:=50) 2 2 "_law_pattern" (F 34 _ rfl).1 QK
theorem JU(h0:gq c)(h1:qh c)(h2:l3 c):yX c:=aN (i:=51) 2 2 "_law_template" (F 35 _ rfl).1 SI
theorem OJ(h0:gq c)(h1:l3 c):xh c:=aN (i:=52) 2 2 "_law_term" (F 36 _ rfl).1 SX
theorem JT(h0:wL c)(h1:gq c)(h2:Hr c)(h3:yX c)(h4:xh c):BX c:=aN (i:=53) 3 3 "_law_act" (F 37 _ rfl).1 Rt
theorem Jv(h0:BX c)(h1:gq c):Iz c:=aN (i:=54) 4 1 "_law_program" (F 38 _ rfl).1 LL
theorem Rc(h0:wL c)(h1:gq c)(h2:qh c)(h3:l3 c):t5 c:=aN (i:=55) 2 2 "_law_notes" (F 39 _ rfl).1 LD
theorem ME(h0:gq c)(h1:t5 c)(h2:Iz c):HB c:=aN (i:=56) 5 1 "_law_plan" (F 40 _ rfl).1 Ul
theorem Mz:IA c:=aN (i:=57) 0 3 "_law_known" (F 41 _ rfl).1 Nc
theorem JD(h0:gq c)(h1:IA c)(h2:t5 c)(h3:l3 c):BM c:=aN (i:=58) 3 2 "_law_stand" (F 42 _ rfl).1 Lb
theorem LC:HJ c:=aN (i:=59) 0 3 "_law_fit" (F 43 _ rfl).1 Ll
theorem Lg:rp c:=aN (i:=60) 0 3 "_law_next_act" (F 44 _ rfl).1 NG
theorem K5(h0:HJ c)(h1:rp c):sx c:=aN (i:=61) 1 3 "_law_got" (F 45 _ rfl).1 QW
theorem Jj(h0:sx c)(h1:rp c):vV c:=aN (i:=62) 2 3 "_law_can" (F 46 _ rfl).1 Me
theorem JE:HX c:=aN (i:=63) 0 2 "_law_filled" (F 47 _ rfl).1 Q4
theorem ML:GS c:=aN (i:=64) 0 3 "_law_to_block" (F 48 _ rfl).1 JL
theorem Ue:Ij c:=aN (i:=65) 0 2 "_law_of_term" (F 49 _ rfl).1 Uo
theorem Si(h0:HX c)(h1:sx c)(h2:rp c)(h3:Ij c)(h4:GS c):Hq c:=aN (i:=66) 2 3 "_law_move" (F 50 _ rfl).1 LP
theorem J7(h0:vV c):BP c:=t9 (i:=67) 3 2 "_law_movers" (F 51 _ rfl).1 J1
theorem OH(h0:gq c)(h1:Hq c)(h2:BP c):Hz c:=aN (i:=68) 4 4 "_law_walk" (F 52 _ rfl).1 Kw
theorem SG:yv c:=aN (i:=69) 0 1 "_law_first" (F 53 _ rfl).1 TJ
theorem ON(h0:BE c)(h1:xu c)(h2:yL c):Ip c:=aN (i:=70) 8 4 "_law_refused" (F 54 _ rfl).1 Oa (len:=fun _ _ _ h=>by obtain⟨_,_,_,_,rfl,_⟩:=h;rfl) (h:=SE u5 u6 h0 h1 h2 z (zU z ∅) (zU z ∅) (zU z ∅) ∎ ∎ ∎)
theorem My(h0:vV c)(h1:gq c):AZ c:=aN (i:=71) 3 3 "_law_bad_mover" (F 55 _ rfl).1 MU
theorem Up(h0:AZ c)(h1:gq c)(h2:yv c)(h3:HB c)(h4:Ip c)(h5:BM c)(h6:Hz c):FnOk c.P c.w c.K c.mg c.base c9 10 (Ds.f ⟨72,"law",832,408,1,452,ai,845,6⟩) (lq ⟨72,"law",832,408,1,452,ai,845,6⟩) Zc (DL.spLaw c.K):=by
 have bT:=nA (ps:=Zc) (F 29 _ rfl).1.1;have GT:=TC (P:=c.P) (w:=c.w) (mg:=c.mg) (base:=c.base) (F 29 _ rfl).1.1;exact PV (i:=72) (N:=Zb) 9 (F 56 _ rfl).1.1 GT bT (F 29 _ rfl).1.2 (F 29 _ rfl).2 Jt rfl λnd cdv A outer s H E hr=>gT (i:=1) nd rfl (C7 rfl) (wA GT (hr.mono ∎) rfl (F 29 _ rfl).1.2 (F 29 _ rfl).2 bT .nil wK (b9 (pv 0) dH))
end
theorem K3(c:Cv)(F:∀(j:Nat) (d:Ds),dL[j]?=ae d->(Fun c.K d.x d.x (cY d.i) d.f (lq d)/\c.mg d.x=ae (.ref d.f))/\B5 c.K (.ref d.f)=ai)(z:∀x∈zL,c.mg x=ah)(u0:c.mg "GREATEST_NUMBER"=ae (.int 99 293))(u1:c.mg "GETTING"=ae (.ref 130))(u2:∀H,SqT c.K H 130 ((Zg:List Str).map V.str))(u3:c.mg "GOT"=ae (.ref 230))(u4:gC c.K 230 [("take","takes"),("read","reads"),("look","looks")])(u5:NR c.P c.w c.K c.mg c.base)(u6:NX c.K c.mg):FnOk c.P c.w c.K c.mg c.base c9 10 (Ds.f ⟨72,"law",832,408,1,452,ai,845,6⟩) (lq ⟨72,"law",832,408,1,452,ai,845,6⟩) Zc (DL.spLaw c.K):=by
 have a__law_draw:=T3 F z u0 u1 u2 u3 u4 u5 u6;have a_is_whole:=Po F z u0 u1 u2 u3 u4 u5 u6;have a_field_fits:=S8 F z u0 u1 u2 u3 u4 u5 u6;have a_fits:=Mf F z u0 u1 u2 u3 u4 u5 u6 a_field_fits;have a_next_value:=LG F z u0 u1 u2 u3 u4 u5 u6;have a_field_value:=Kx F z u0 u1 u2 u3 u4 u5 u6 a_next_value;have a_filled:=JH F z u0 u1 u2 u3 u4 u5 u6 a_field_value;have a_first_stand:=Jh F z u0 u1 u2 u3 u4 u5 u6;have a_is_within:=Ox F z u0 u1 u2 u3 u4 u5 u6 a_is_whole;have a_next_act:=Su F z u0 u1 u2 u3 u4 u5 u6;have a_gets:=Rl F z u0 u1 u2 u3 u4 u5 u6 a_fits a_next_act;have a_gone_on:=NH F z u0 u1 u2 u3 u4 u5 u6;have a_gone_to:=Sb F z u0 u1 u2 u3 u4 u5 u6;have a_with_hand:=N6 F z u0 u1 u2 u3 u4 u5 u6;have a_got:=Pd F z u0 u1 u2 u3 u4 u5 u6 a_fits a_gets a_gone_on a_gone_to a_with_hand;have a_is_same_value:=N7 F z u0 u1 u2 u3 u4 u5 u6 a_field_value;have a_hand_moved:=SY F z u0 u1 u2 u3 u4 u5 u6 a_filled a_gone_on a_gone_to a_got a_is_same_value a_next_act a_with_hand;have a_aged:=Qd F z u0 u1 u2 u3 u4 u5 u6;have a_clock_moved:=Ow F z u0 u1 u2 u3 u4 u5 u6 a_aged;have a_after:=MR F z u0 u1 u2 u3 u4 u5 u6 a_clock_moved a_hand_moved a_is_within;have a_moved:=Ot F z u0 u1 u2 u3 u4 u5 u6 a_after;have a_woven:=Oc F z u0 u1 u2 u3 u4 u5 u6 a_after;have a_first_board:=P2 F z u0 u1 u2 u3 u4 u5 u6 a_first_stand;have a_clock_row:=Q9 F z u0 u1 u2 u3 u4 u5 u6;have a_hand_row:=Ke F z u0 u1 u2 u3 u4 u5 u6 a_gets a_next_act;have a_row_of:=Kr F z u0 u1 u2 u3 u4 u5 u6 a_clock_row a_hand_row;have a_went_by:=NS F z u0 u1 u2 u3 u4 u5 u6;have a_board_behind:=Nl F z u0 u1 u2 u3 u4 u5 u6 a_went_by;have a_logged:=Qr F z u0 u1 u2 u3 u4 u5 u6 a_after a_board_behind a_row_of;have a_log_of:=N2 F z u0 u1 u2 u3 u4 u5 u6 a_first_board a_logged;have a__law_value:=L5 F z u0 u1 u2 u3 u4 u5 u6 a__law_draw;have a__law_size:=Kk F z u0 u1 u2 u3 u4 u5 u6 a__law_draw;have a__law_age:=MW F z u0 u1 u2 u3 u4 u5 u6 a__law_draw;have a__law_pattern:=Q2 F z u0 u1 u2 u3 u4 u5 u6 a__law_draw a__law_size a__law_value;have a__law_template:=JU F z u0 u1 u2 u3 u4 u5 u6 a__law_draw a__law_size a__law_value;have a__law_term:=OJ F z u0 u1 u2 u3 u4 u5 u6 a__law_draw a__law_value;have a__law_act:=JT F z u0 u1 u2 u3 u4 u5 u6 a__law_age a__law_draw a__law_pattern a__law_template a__law_term;have a__law_program:=Jv F z u0 u1 u2 u3 u4 u5 u6 a__law_act a__law_draw;have a__law_notes:=Rc F z u0 u1 u2 u3 u4 u5 u6 a__law_age a__law_draw a__law_size a__law_value;have a__law_plan:=ME F z u0 u1 u2 u3 u4 u5 u6 a__law_draw a__law_notes a__law_program;have a__law_known:=Mz F z u0 u1 u2 u3 u4 u5 u6;have a__law_stand:=JD F z u0 u1 u2 u3 u4 u5 u6 a__law_draw a__law_known a__law_notes a__law_value;have a__law_fit:=LC F z u0 u1 u2 u3 u4 u5 u6;have a__law_next_act:=Lg F z u0 u1 u2 u3 u4 u5 u6;have a__law_got:=K5 F z u0 u1 u2 u3 u4 u5 u6 a__law_fit a__law_next_act;have a__law_can:=Jj F z u0 u1 u2 u3 u4 u5 u6 a__law_got a__law_next_act;have a__law_filled:=JE F z u0 u1 u2 u3 u4 u5 u6;have a__law_to_block:=ML F z u0 u1 u2 u3 u4 u5 u6;have a__law_of_term:=Ue F z u0 u1 u2 u3 u4 u5 u6;have a__law_move:=Si F z u0 u1 u2 u3 u4 u5 u6 a__law_filled a__law_got a__law_next_act a__law_of_term a__law_to_block;have a__law_movers:=J7 F z u0 u1 u2 u3 u4 u5 u6 a__law_can;have a__law_walk:=OH F z u0 u1 u2 u3 u4 u5 u6 a__law_draw a__law_move a__law_movers;have a__law_first:=SG F z u0 u1 u2 u3 u4 u5 u6;have a__law_refused:=ON F z u0 u1 u2 u3 u4 u5 u6 a_moved a_woven a_log_of;have a__law_bad_mover:=My F z u0 u1 u2 u3 u4 u5 u6 a__law_can a__law_draw;exact Up F z u0 u1 u2 u3 u4 u5 u6 a__law_bad_mover a__law_draw a__law_first a__law_plan a__law_refused a__law_stand a__law_walk
theorem all_K(w:Bk)(mg)(fa)(h:Heap)(X:(KK w.params).In h)(G:h.Ns Dt mg)(hfa:mg "law"=ae (.ref fa)):
  ∃fd:B9,(∀(s:Ai)(u:Af),BindsTo s fd ⟨[u],[]⟩ [("_law_script",u)])/\∀base:Heap,(KK w.params).In base->base.Ns Dt mg->FnOk pR w (KK w.params) mg base c9 10 fa fd Zc (DL.spLaw (KK w.params)):=by
 have e:=hfa.symm.trans (AE X G 56 ⟨72,"law",832,408,1,452,ai,845,6⟩ rfl).1.2;cases e;exact⟨lq ⟨72,"law",832,408,1,452,ai,845,6⟩,λs v=>.of_eq rfl,λbase _ _=>K3 ⟨pR,w,KK w.params,mg,base⟩ (λj d e=>AE X G j d e) (zK X G) (D1 X G (by kernel_rfl)) (D1 X G (by kernel_rfl)) (λH=>.inr ⟨_,_,_,(show(KK w.params).lookup 130=ae (oT "tuple" (.seq #[(.str "take" 350),(.str "read" 351),(.str "look" 352)] 0)) by kernel_rfl),rfl,rfl,show 3<=Ay by decide,(.cons ⟨_,rfl⟩ (.cons ⟨_,rfl⟩ (.cons ⟨_,rfl⟩ .nil)))⟩) (D1 X G (by kernel_rfl)) ⟨by decide,_,_,_,(show(KK w.params).lookup 230=ae (oT "dict" (.dict #[(eN w.params "take" 505 (.str "takes" 506)),(eN w.params "read" 507 (.str "reads" 508)),(eN w.params "look" 509 (.str "looks" 510))] 3)) by kernel_rfl),⟨rfl,rfl,rfl⟩,rfl,(.cons rfl ⟨_,rfl⟩ (.cons rfl ⟨_,rfl⟩ (.cons rfl ⟨_,rfl⟩ .nil)))⟩ (QU (D1 X G (by kernel_rfl)) (D1 X G (by kernel_rfl))) ⟨PZ _,(kh _).2.2.2.2.2.2,(y3 _).1,(y3 _).2,D1 X G (by kernel_rfl),D1 X G (by kernel_rfl),D1 X G (by kernel_rfl),D1 X G (by kernel_rfl)⟩⟩
theorem walk{l:PySem.W.OpenLaw}{K:Gp->Ah}(hn:l.most=ae 63)(hdf:d.params.defaults=[])
  (hY:∀(w:Bk)(h:Heap),YP w h->(K w.params).In h)
  (F:∀(w:Bk)(mg:Str->Option Af)(fa:Addr)(h:Heap),(K w.params).In h->h.Ns Dt mg->mg d.name=ae (.ref fa)->
   ∃fd:B9,(∀(s:Ai)(u:Af),BindsTo s fd ⟨[u],[]⟩ [("_law_script",u)])/\∀base:Heap,(K w.params).In base->base.Ns Dt mg->FnOk l.prog w (K w.params) mg base c9 10 fa fd Zc (DL.spLaw (K w.params))):
  PySem.W.WalkO q loose XP YP l.row.toRowW d [] (λf vs=>PySem.call f vs):=
 L2.walk_of (n:=63) (k:=10) (x:="_law_script") (CX:=λ_=>c9) (sp:=λw=>DL.spLaw (K w.params)) hn ∎ hdf ⟨rfl,by decide,by decide,rfl⟩ hY F (λ_ _ a ns hl _ hS=>⟨a,ns,rfl,hS,hl,λ_=>rfl⟩) λ_ _ _ _ _ z=>z
end Nb
open PySem PySem.W PyProof.Rows
set_option maxRecDepth 100000 in
set_option maxHeartbeats 0 in
theorem PySem.Challenge.cw_noteboard_k23_movers_that_are_none_holds : PySem.Challenge.rw_noteboard_k23_movers_that_are_none.Holds := by
 refine holds_law Nb.said_ λsaid=>?_;refine holds_open (q:=Nb.qq) (loose:=Nb.lO) (Xt:=Nb.xT) (XP:=XL Nb.qq []) (Yf:=Hook.obs Nb.hK) (Ya:=Hook.val Nb.hK) (YP:=Hook.says Nb.hK) (d:=Nb.dW) (kwd:=[]) (N:=6000) Nb.left_ (Hook.of Nb.hK) (Hook.keeps Nb.hK) (λs e=>xl_of s (Bool.and_eq_true_iff.mp e).1) XL.keeps (by kernel_rfl) (by kernel_rfl) (by kernel_rfl) (λs e=>recFacts_of (Bool.and_eq_true_iff.mp e).2) (by kernel_rfl) said (by decide +kernel) ⟨rfl,rfl,rfl,rfl,rfl,by decide +kernel⟩ ?hw ?hc
 (case hw=>w_witness2)
 exact Nb.walk (l:=PySem.Challenge.rw_noteboard_k23_movers_that_are_none) (by kernel_rfl) (by kernel_rfl) (λw h Y=>kIn_of Y) Nb.all_K
