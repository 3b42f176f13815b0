import PyProof.Rows.All
import Wide.All
import OpenK.AllK
import Wide.FinOn
import Lean
import PyProof.EqAt
import PyProof.EqKinds
import PyProof.TupleCall
import PyProof.AttrMissHeap
import PyProof.Rows.RegFStrParts
import PySem.Challenge.RW_noteboard_k30_whole_let_by_logs_are_weav
set_option Elab.async false
set_option linter.all false
set_option maxRecDepth 100000
open PySem renaming PyData -> Aa, wpAny_bind -> Ad, Value -> Ak, Shared -> Ap, starEach -> Au, wpAny_pure -> Ay, sizeLine -> Az, wpAny -> A9, Program -> Bg, model -> Bh, compareOp -> Bx, bootBuiltins -> By, World -> B3, wpAny_newObj_type -> Cc, behindInMarks -> Cf, Around -> Cj, FuncData -> Ct, wpAny_field -> Cw, backTo -> Cy, assignEach -> Dc, wpAny_callSpecial?_slot -> Dd, wpAny_mono -> Dh, mainGlobals -> Dl, swapsWith -> Dw, wpAny_holding -> Dy, wpAny_truthy_bool -> D0, foldedSetIterable -> D1, wpAny_call_entry -> D6, wpAny_pyIter_tuple -> D9, sysModules -> Ea, wpAny_seqItems -> En, cLine -> Eo, binaryOp -> Ep, Scope -> Er, sizeLine_eq -> Ew, wpAny_ite_false -> E1, codeAny_builtin -> E2, attributeBase -> E4, mem_of_lookup -> Fc, IsPair -> Fm, wpAny_typeOf -> Fp, holding -> Fz, wpAny_setField_rec -> F3, assign -> F4, sliceBounds -> Gh, wpAny_passesOwn -> Gk, tupleKind_room_in1 -> Gr
open List renaming length_map -> Ab, getElem?_eq_getElem -> Af, length_append -> Ai, set -> Al, length_cons -> Am, mem_cons -> Ao, not_mem_nil -> Aq, mem_cons_of_mem -> Ar, mem_cons_self -> As, getElem?_eq_some_iff -> Av, getElem?_map -> Aw, length_singleton -> Ax, size_toArray -> A1, range -> A3, mem_of_getElem? -> A4, mem_map -> A7, map_cons -> Bb, mem_append -> Bc, map_append -> Bd, mem_append_right -> Be, mem_singleton -> Bj, length_take -> Bn, append_assoc -> Bp, find?_cons -> Bq, length_drop -> Br, map_map -> Bt, nil_append -> Bv, append_nil -> Bw, length_set -> B1, mem_range -> B6, getElem?_set_ne -> B7, mem_iff_getElem? -> B8, mem_filter -> B9, nodup_cons -> Ca, getElem?_append_right -> Cb, getElem_mem -> Cg, map_congr_left -> Ck, length_range -> Cu, filter_cons_of_pos -> C0, filter_cons_of_neg -> C1, drop_eq_getElem_cons -> C2, any_cons -> C5, toArray -> C6, getElem?_set_self' -> C8, filter_cons -> C9, replicate -> De, getElem?_append_left -> Di, length_filter_le -> Dj, ext_getElem -> Dn, any_eq_true -> Dp, all_eq_true -> Dq, mem_of_mem_take -> Du, length -> Dv, set_cons_zero -> D4, of_mem_zip -> Eb, mem_append_left -> Ec, filter_eq_self -> Eg, getElem?_replicate -> Eh, not_lt -> El, pairwise_map -> Ey, mem_of_mem_drop -> E6, getElem_inj -> E8, getElem?_zip_eq_some -> Fh, filter_sublist -> Fk, zip_cons_cons -> Fu, take_of_length_le -> F0, getElem?_set_self -> F1, map_id -> Gb, map_eq_cons_iff -> Gc, length_reverse -> Ge, filterMap_cons -> Gf, mem_filterMap -> Gi, pairwise_singleton -> Gs, getElem?_cons_succ -> Gt, findIdx?_eq_some_iff_getElem -> Gv
open Bool renaming false_ne_true -> Ae, and_eq_true -> Bf, true_and -> Fo, eq_iff_iff -> Fq, false_eq_true -> Fv
open PySem.Heap renaming get?_push_of_some -> Ag, lt_size -> A0, get?_push_size -> A5, SameBut -> Ed, size_push -> F2
open PySem.W renaming Frag -> Ah, keepIn -> Cz, kia_one -> C3, kas_rev -> Ef, fnOf -> E3, kia_tup -> Fj
open And renaming intro -> Aj
open Nat renaming le_refl -> An, le_trans -> A2, ne_of_lt -> Bk, zero_le -> Bm, lt_of_lt_of_le -> Bo, le_of_ble_eq_true -> C4, lt_irrefl -> Ex, ne_of_gt -> Fg, le_succ -> Fy, sub_self -> F5, le_of_lt -> F6
open PySem.Value renaming ref -> A6, none -> Bu, type -> Ee, str -> Fs, int -> F8
open Option.some renaming inj -> A8
open PyProof.Rows.KTD renaming datumAt -> Ba
open Int renaming toNat_natCast -> Bi, emod_lt_of_pos -> D5, emod_nonneg -> Eu, natCast_nonneg -> Gn, eq_ofNat_of_zero_le -> Gu
open Or renaming inr -> Bs, inl -> Ce
open PySem.PyData renaming eqv -> Bz, canLay0 -> B4, depth -> B5, str -> Co, int -> Cp, showable -> Dx, intsShort -> D3, weight -> Es, canLayAll0 -> Et, strOk -> E5, depthAll -> Fl
open PyProof.Rows renaming seqObj -> Ci, slot_tuple_getitem -> Cq, envOfC -> D7, callWith_type1 -> Ei, boot_range -> Gg, get?_update_seq -> Gm
open PySem.Builtin.Slice renaming slicePlaces -> Cm, sliceAdjust -> Da, sliceApplied -> Em
open PySem.Builtin.Tuple renaming tupleExact -> Cn, tupleItemsOf -> F9
open PySem.Builtin.SmallTypes renaming nextOf -> Cr, ownedTupleIsFree -> Dk, ownedTupleHandOut -> Gj
open PySem.Obj renaming mapSeq -> Cs
open True renaming intro -> C7
open Array renaming length_toList -> Df, getElem?_eq_getElem -> D8
open Sum renaming inr -> Dg, inl -> Dt
open Option renaming isSome_iff_exists -> Dm, isSome_map -> Fx, getD_some -> F7, map_some -> Ga, bind_eq_some_iff -> Gq
open PySem.Heap.SameBut renaming update -> Dr
open Int.ofNat renaming inj -> Dz
open List.cons renaming inj -> Ej
open Exists renaming intro -> Ek
open PySem.Around renaming under_plainId -> Ez
open PySem.Builtin.Range renaming rangeSize -> E7
open PySem.AutoSeq1 renaming wpAny_loadPart' -> E9
open PySem.Str renaming ofString -> Fb
open PySem.F renaming args_tuple_add_2 -> Ff, slot_tuple_iterator_next -> Fi, entry_tuple_add -> Fn, slot_tuple_add -> Fw, plainAttrs_list -> Gp
open PySem.PyData.tuple renaming inj -> Ft
open PySem.Builtin.List renaming listTooLong -> Gd
open Option renaming some -> ae, none -> ah
open Bool renaming true -> ai, false -> aj
noncomputable section
local macro_rules|`(tactic|omega)=>`(tactic|lia)
local macro_rules|`(⋯)=>`(by omega)
local macro_rules|`(∅)=>`(by decide +kernel)
local macro_rules|`(∎)=>`(by decide)
set_option maxHeartbeats 4000000
namespace L2
open PySem PySem.Spec PyProof.Rows
def lQ(s:Stmt):Arguments:=match s with
 |.FunctionDef _ a _ _ _ _ _ _ _ _=>a
 |_=>{ posonlyargs:=[],args:=[],vararg:=ah,kwonlyargs:=[],kw_defaults:=[],kwarg:=ah,defaults:=[]}
def gP(s:Stmt):List Stmt:=match s with
 |.FunctionDef _ _ b _ _ _ _ _ _ _=>b
 |_=>[]
def dH(s:Stmt):Er:=match s with
 |.FunctionDef _ _ _ _ _ _ sc _ _ _=>sc
 |_=>{ kind:=.function,names:=[],isGenerator:=aj,isCoroutine:=aj}
end L2
namespace Nb
open PySem L2
def dX(i:Nat):Stmt:=PySem.Challenge.pw_noteboard_k30_whole_let_by_logs_are_weav.main.body.getD i (.Pass ⟨0,0,0,0⟩)
abbrev MT:Stmt:=dX 46
abbrev JZ:Stmt:=dX 47
abbrev sD:Stmt:=dX 75
abbrev GR:Stmt:=MT
abbrev BJ:Stmt:=JZ
abbrev oT(t:String)(d:Data):Obj:=⟨.type t,ah,d,#[]⟩
structure Ds where
 i:Nat
 x:Str
 t:Nat
 l:Nat
 n:Nat
 r:Nat
 b:Bool
 v:Nat
 m:Nat
abbrev Ds.c(d:Ds):Nat:=if d.b then d.r+5 else d.r+3
abbrev Ds.f(d:Ds):Nat:=if d.b then d.r+6 else d.r+4
abbrev RY(m:Nat):Ak:=[(.str "noteboard.kinds" 232),(.str "noteboard.values" 247),(.str "noteboard.patterns" 258),(.str "noteboard.stands" 310),(.str "noteboard.moving" 326),(.str "noteboard.logs" 436),(.str "noteboard.weaving" 540),(.str "law_noteboard_k30_whole_let_by_logs_are_weav" 553)].getD m .none
abbrev lH(d:Ds):Ct:=E3 d.x d.x (lQ (dX d.i)) (gP (dX d.i)) (dH (dX d.i)) .none .none .none (RY d.m) ah (.ref d.c) .none
abbrev oF(d:Ds):Obj:=oT "function" (.func (lH d))
abbrev oC(d:Ds):Obj:=oT "code" (.fields #[.str d.x d.t,.str d.x (d.t+1),.str "/claim/cut.py" (d.t+2),.int d.l 0,.int d.n 0,.int 0 0,.int 0 0,.int 3 0,.ref d.r,.bool ai,.int 181 0,.ref (d.r+1),.none,if d.b then .ref (d.r+2)else .none,if d.b then .ref (d.r+3)else .none,.ref (if d.b then d.r+4 else d.r+2),.int d.v 0,.int d.l 0,.str "/claim/cut.py" (d.v+1)])
abbrev eN(P:Params)(x:Str)(t:Nat)(v:Ak):DictEntry:=⟨PyData.keyHash P x,.str x t,v⟩
abbrev en(P:Params)(d:Ds):DictEntry:=eN P d.x (d.v+2) (.ref d.f)
def dL:List Ds:=[⟨4,"kind_of",234,10,1,47,ai,238,0⟩,⟨5,"are_alike",241,20,2,54,aj,244,0⟩,⟨8,"is_whole",251,30,1,59,ai,255,1⟩,⟨10,"field_fits",260,33,4,66,ai,268,2⟩,⟨11,"fits",271,46,3,73,ai,281,2⟩,⟨12,"next_value",284,58,1,80,ai,288,2⟩,⟨13,"field_value",291,62,2,87,ai,297,2⟩,⟨14,"filled",300,67,2,94,aj,303,2⟩,⟨17,"first_stand",312,72,1,100,aj,315,3⟩,⟨18,"is_within",318,74,2,105,ai,323,3⟩,⟨20,"next_act",328,77,3,112,ai,337,4⟩,⟨21,"gets",340,82,3,119,ai,351,4⟩,⟨22,"gone_on",354,94,2,126,ai,359,4⟩,⟨23,"gone_to",362,96,3,133,aj,365,4⟩,⟨24,"with_hand",368,99,3,138,ai,374,4⟩,⟨25,"got",377,101,4,145,ai,388,4⟩,⟨26,"is_same_value",391,113,2,152,ai,397,4⟩,⟨27,"hand_moved",400,116,3,159,ai,410,4⟩,⟨28,"aged",413,133,1,166,ai,417,4⟩,⟨29,"clock_moved",420,135,1,173,aj,423,4⟩,⟨30,"after",426,137,3,178,ai,433,4⟩,⟨33,"first_board",448,144,1,186,ai,453,5⟩,⟨34,"clock_row",456,147,1,193,aj,459,5⟩,⟨35,"hand_row",462,150,4,198,ai,471,5⟩,⟨36,"row_of",474,158,4,205,ai,481,5⟩,⟨37,"went_by",484,162,1,212,ai,488,5⟩,⟨38,"board_behind",491,166,3,219,aj,494,5⟩,⟨39,"logged",497,172,3,224,ai,505,5⟩,⟨40,"log_of",508,178,2,231,ai,518,5⟩,⟨41,"mover_told",521,188,2,238,ai,526,5⟩,⟨42,"lets_log",529,192,2,245,ai,537,5⟩,⟨44,"woven",542,203,3,252,ai,550,6⟩,⟨46,"_law_tape",555,210,1,259,ai,559,7⟩,⟨47,"_law_draw",562,212,2,266,ai,571,7⟩,⟨48,"_law_value",574,227,1,273,ai,578,7⟩,⟨49,"_law_size",581,229,1,280,ai,585,7⟩,⟨50,"_law_age",588,231,1,287,ai,592,7⟩,⟨51,"_law_pattern",595,233,2,294,ai,606,7⟩,⟨52,"_law_template",609,250,2,301,ai,617,7⟩,⟨53,"_law_term",620,259,2,308,ai,625,7⟩,⟨54,"_law_act",628,263,3,315,ai,638,7⟩,⟨55,"_law_program",641,276,1,322,aj,644,7⟩,⟨56,"_law_notes",647,293,2,327,aj,650,7⟩,⟨57,"_law_plan",653,299,1,332,aj,656,7⟩,⟨58,"_law_fit",659,304,3,337,ai,671,7⟩,⟨59,"_law_next_act",674,324,3,344,ai,684,7⟩,⟨60,"_law_got",687,328,3,351,ai,696,7⟩,⟨61,"_law_can",699,337,3,358,ai,706,7⟩,⟨62,"_law_filled",709,342,2,365,ai,718,7⟩,⟨63,"_law_to_block",721,350,3,372,aj,724,7⟩,⟨64,"_law_of_term",727,353,2,377,ai,732,7⟩,⟨65,"_law_move",735,355,3,384,aj,738,7⟩,⟨66,"_law_movers",741,377,2,389,aj,744,7⟩,⟨67,"_law_walk",747,379,4,394,ai,758,7⟩,⟨68,"_law_first",761,389,1,401,aj,764,7⟩,⟨69,"_law_row",767,391,5,406,aj,770,7⟩,⟨70,"_law_log",773,406,2,411,ai,786,7⟩,⟨71,"_law_bent_row",789,417,2,418,aj,792,7⟩,⟨72,"_law_bent_log",795,437,3,423,ai,804,7⟩,⟨73,"_law_book",807,456,2,430,aj,810,7⟩,⟨74,"_law_is_so",813,481,2,435,aj,816,7⟩,⟨75,"law",819,490,1,440,ai,831,7⟩]
def KK(P:Params):Ah:=let e:=eN P
 (3,oT "dict" (.dict ([e "__name__" 165 (.str "law_noteboard_k30_whole_let_by_logs_are_weav" 553),e "__doc__" 166 .none,e "__package__" 167 .none,e "__loader__" 168 (.builtin "__main__.__loader__#opaque"),e "__spec__" 169 .none,e "__annotations__" 170 (.ref 6),e "__builtins__" 171 (.ref 4),e "__file__" 173 (.str "/claim/cut.py" 172),e "__cached__" 174 .none,e "BoardError" 206 (.ref 24),e "NotReady" 231 (.ref 44)]++((dL.drop 0).take 2).map (en P)++[e "GREATEST_NUMBER" 250 (.int 99 249)]++((dL.drop 2).take 6).map (en P)++[e "GETTING" 309 (.ref 99)]++((dL.drop 8).take 13).map (en P)++[e "GOT" 447 (.ref 185)]++((dL.drop 21).take 41).map (en P)).toArray 76))::(dL.flatMap λd=>[(d.c,oC d),(d.f,oF d)])++[(99,oT "tuple" (.seq #[(.str "take" 306),(.str "read" 307),(.str "look" 308)] 0)),(185,oT "dict" (.dict #[(e "take" 438 (.str "takes" 439)),(e "read" 440 (.str "reads" 441)),(e "look" 442 (.str "looks" 443))] 3))]
def aS:List Addr:=3::(dL.flatMap λd=>[d.c,d.f])++[99,185]
abbrev pp:Bg:=PySem.Challenge.pw_noteboard_k30_whole_let_by_logs_are_weav
abbrev qq:Bg:=PySem.W.view pp [75]
def lO:List Str:=(["BoardError","NotReady","kind_of","are_alike","GREATEST_NUMBER","is_whole","field_fits","fits","next_value","field_value","filled","GETTING","first_stand","is_within","next_act","gets","gone_on","gone_to","with_hand","got","is_same_value","hand_moved","aged","clock_moved","after","GOT","first_board","clock_row","hand_row","row_of","went_by","board_behind","logged","log_of","mover_told","lets_log","woven","_law_tape","_law_draw","_law_value","_law_size","_law_age","_law_pattern","_law_template","_law_term","_law_act","_law_program","_law_notes","_law_plan","_law_fit","_law_next_act","_law_got","_law_can","_law_filled","_law_to_block","_law_of_term","_law_move","_law_movers","_law_walk","_law_first","_law_row","_law_log","_law_bent_row","_law_bent_log","_law_book","_law_is_so"]:List String).map Fb
abbrev xT:Ap->Bool:=λs=>PySem.W.xlAt qq [] s&&PySem.W.recOk (PySem.W.RowW.records PySem.Challenge.rw_noteboard_k30_whole_let_by_logs_are_weav.row.toRowW) s
theorem said_:PySem.Challenge.rw_noteboard_k30_whole_let_by_logs_are_weav.wellSaid=ai:=by kernel_rfl
theorem aK:∀P,aS=(KK P).map (·.1):=λP=>by kernel_rfl
abbrev hK:PySem.W.Hook:=PySem.W.kHook KK aS aK
theorem u5{α β:Type}{o:Option α}{f g:α->Option β}{a b:β}(h:o.bind f=ae a)(h':o.bind g=ae b):o.map (λs=>(f s,g s))=ae (ae a,ae b):=by
 cases o with
 |none=>cases h
 |some s=>exact congrArg ae (Prod.ext h h')
theorem Ti(w:B3):(PySem.W.fencedOpening PySem.treeTable pp w 3000).bind (λs₀=>(PySem.W.topFrom PySem.treeTable pp (w.withFollow "special-get-raises" aj) 3000 s₀).map λs=>(PySem.W.openSeen qq lO (importedModules pp.main.body) xT ai s,hK.obs s))=ae (PySem.W.openGood qq lO,hK.val (w.withFollow "special-get-raises" aj)):=by kernel_rfl
theorem SU(w:B3):(PySem.W.fencedOpening PySem.treeTable pp w 3000).bind (λs₀=>(PySem.W.topFrom PySem.treeTable pp (w.withFollow "special-get-raises" ai) 3000 s₀).map λs=>(PySem.W.openSeen qq lO (importedModules pp.main.body) xT ai s,hK.obs s))=ae (PySem.W.openGood qq lO,hK.val (w.withFollow "special-get-raises" ai)):=by kernel_rfl
theorem left_:PySem.W.LeftO pp qq lO xT hK.obs hK.val 3000:=PySem.W.LeftO.of_split "special-get-raises" λw=>u5 (Ti w) (SU w)
def U5(s:Stmt):Pos:=match s with
 |.FunctionDef _ _ _ _ _ _ _ _ _ p=>p
 |_=>⟨0,0,0,0⟩
def dW:DefRec:=⟨"law",lQ sD,gP sD,dH sD,U5 sD⟩
theorem UC(P):(dL.map λd=>(PySem.W.nsIn (KK P) Dl d.x,(KK P).lookup d.f,PySem.W.codeIn (KK P) (.ref d.c) d.x))=dL.map λd=>(ae (ae (.ref d.f)),ae (oF d),ai):=by kernel_rfl
theorem IF{α β:Type}{f g:α->β}{l:List α}(h:l.map f=l.map g){j:Nat}{a:α}(e:l[j]?=ae a):f a=g a:=by
 have:=congrArg (λl=>l[j]?) h;simp only[Aw,e,Ga]at this;exact A8 this
end Nb
namespace L2
open PySem PySem.Spec PyProof.Rows
abbrev aG:=Sum Int Str
def jI:aG->Ak->Bool
 |.inl k,v=>Value.isInt k v
 |.inr x,v=>Value.isStrOf x v
def yf(w:B3):aG->Int
 |.inl k=>hashInt k
 |.inr x=>hashStr w x
theorem iJ:∀{k:aG}{v:Ak},jI k v=ai->(∃i t,k=Dt i/\v=F8 i t)\/(∃x t,k=Dg x/\v=Fs x t)
 |.inl i,v,h=>by
  obtain⟨t,e⟩:=Value.isInt_shape (k:=i) (v:=v) h;exact .inl ⟨i,t,rfl,e⟩
 |.inr x,v,h=>by
  obtain⟨t,e⟩:=Value.isStrOf_shape (x:=x) (v:=v) h;exact .inr ⟨x,t,rfl,e⟩
theorem Ph(i)(t):jI (.inl i) (.int i t)=ai:=by simp[jI,Value.isInt]
theorem LR(x)(t):jI (.inr x) (.str x t)=ai:=by simp[jI,Value.isStrOf]
theorem Og(a b):decide ((Dt a:aG)=Dt b)=(a==b):=by
 by_cases e:a=b
 ·subst e;simp
 ·have h:¬(Dt a:aG)=Dt b:=λq=>e (Sum.inl.inj q);rw[decide_eq_false h];exact(beq_eq_false_iff_ne.mpr e).symm
theorem P8(a b):decide ((Dg a:aG)=Dg b)=decide (a=b):=by
 by_cases e:a=b
 ·subst e;simp
 ·have h:¬(Dg a:aG)=Dg b:=λq=>e (Sum.inr.inj q);rw[decide_eq_false h,decide_eq_false e]
theorem PZ(a)(b):decide ((Dt a:aG)=Dg b)=aj:=decide_eq_false (λq=>nomatch q)
theorem Oo(a)(b):decide ((Dg a:aG)=Dt b)=aj:=decide_eq_false (λq=>nomatch q)
def eZ(prog:Bg)(w:B3):PySem.KeyKind prog w aG where
 is:=jI
 hash:=yf w
 inj:=λv a b ha hb=>by
  rcases iJ ha with⟨i,t,rfl,rfl⟩|⟨x,t,rfl,rfl⟩
  ·rcases iJ hb with⟨j,u,rfl,e⟩|⟨y,u,rfl,e⟩
   ·injection e with e1 _;rw[e1]
   ·exact nomatch e
  ·rcases iJ hb with⟨j,u,rfl,e⟩|⟨y,u,rfl,e⟩
   ·exact nomatch e
   ·injection e with e1 _;rw[e1]
 byValue:=λk v h=>by
  rcases iJ h with⟨i,t,rfl,rfl⟩|⟨x,t,rfl,rfl⟩<;>rfl
 pyHash:=λhv h=>by
  rcases iJ hv with⟨i,t,rfl,rfl⟩|⟨x,t,rfl,rfl⟩
  ·exact wpAny_pyHash_int h
  ·exact wpAny_pyHash_str h
 eqBool:=λhu hv h=>by
  rcases iJ hu with⟨i,t,rfl,rfl⟩|⟨x,t,rfl,rfl⟩
  ·rcases iJ hv with⟨j,u,rfl,rfl⟩|⟨y,u,rfl,rfl⟩
   ·rw[Og]at h;exact wpAny_eqBool_int h
   ·rw[PZ]at h;exact SeqAt.EqAt.int_str i t y u _ _ _ _ h
  ·rcases iJ hv with⟨j,u,rfl,rfl⟩|⟨y,u,rfl,rfl⟩
   ·rw[Oo]at h;exact SeqAt.EqAt.str_int x t j u _ _ _ _ h
   ·rw[P8]at h;exact wpAny_eqBool_str h
 «strs»:=λk x t v h=>by
  rcases iJ h with⟨i,u,rfl,e⟩|⟨y,u,rfl,e⟩
  ·exact nomatch e
  ·injection e with e1 _;subst e1;cases v<;>rfl
theorem Ls(prog)(w)(i)(t):(eZ prog w).is (.inl i) (.int i t)=ai:=Ph i t
theorem KY(prog)(w)(x)(t):(eZ prog w).is (.inr x) (.str x t)=ai:=LR x t
inductive V where
 |non|bl (b:Bool)|int (i:Int)|str (x:Str)|byt (b:Array UInt8)|flt (b:UInt64)|ref (a:Addr)|ty (n:String)
 deriving DecidableEq
def RelV:V->Ak->Prop
 |.non,u=>u=Bu
 |.bl b,u=>u=Value.bool b
 |.int i,u=>∃t,u=F8 i t
 |.str x,u=>∃t,u=Fs x t
 |.byt b,u=>∃t,u=Value.bytes b t
 |.flt b,u=>∃t,u=Value.float b t
 |.ref a,u=>u=A6 a
 |.ty n,u=>u=Ee n
abbrev Vals:List V->List Ak->Prop:=Paired RelV
theorem Vals.length(r:Vals xs us):xs.length=us.length:=Paired.length r
theorem Vals.get:∀{xs:List V}{us:List Ak}{i:Nat}{x:V},Vals xs us->xs[i]?=ae x->∃u,us[i]?=ae u/\RelV x u
 |_,_,_,_,.nil,e=>by simp at e
 |_,_,0,_,.cons r _,e=>by simp at e;subst e;exact⟨_,rfl,r⟩
 |_,_,i+1,x,.cons _ t,e=>by
  obtain⟨u,h1,h2⟩:=Vals.get (i:=i) (x:=x) t (by simpa using e);exact⟨u,by simpa using h1,h2⟩
theorem Vals.set(r:RelV x u):∀{xs:List V}{us:List Ak}(i:Nat),Vals xs us->Vals (xs.set i x) (us.set i u)
 |_,_,_,.nil=>.nil
 |_,_,0,.cons _ t=>.cons r t
 |_,_,i+1,.cons q t=>.cons q (Vals.set r i t)
theorem Vals.append:∀{xs ys:List V}{us ws:List Ak},Vals xs us->Vals ys ws->Vals (xs++ys) (us++ws)
 |_,_,_,_,.nil,s=>s
 |_,_,_,_,.cons r t,s=>.cons r (Vals.append t s)
theorem Vals.take:∀{xs:List V}{us:List Ak}(n:Nat),Vals xs us->Vals (xs.take n) (us.take n)
 |_,_,0,_=>.nil
 |_,_,_+1,.nil=>.nil
 |_,_,n+1,.cons r t=>.cons r (Vals.take n t)
theorem Vals.drop:∀{xs:List V}{us:List Ak}(n:Nat),Vals xs us->Vals (xs.drop n) (us.drop n)
 |_,_,0,r=>r
 |_,_,_+1,.nil=>.nil
 |_,_,n+1,.cons _ t=>Vals.drop n t
def RelO:Option V->Option Ak->Prop
 |some v,ae u=>RelV v u
 |none,ah=>True
 |_,_=>False
def KV{κ:Type}:List (κ×V)->List (κ×Ak)->Prop:=Paired λ(p:κ×V)(q:κ×Ak)=>p.1=q.1/\RelV p.2 q.2
def kV:aG->V
 |.inl i=>.int i
 |.inr x=>.str x
inductive HO where
 |lst (xs:List V)
 |tup (xs:List V)
 |dK (kvs:List (aG×V))|dT (kvs:List (List aG×V))
 |set (S:Int->Bool) (n:Nat)
 |ins (C dx:Addr) (fs:List (Str×V))
 |own (x:Addr)
 |xd (fs:List (Str×V))
 |met (f x:Addr)
 |rng (lo hi:Int)
 |frz (o:Obj) (u:HO)
 |tbl (ps:Array Ak)
 |ext (φ:Heap->Prop)
abbrev Hp:=Addr->Option HO
def upd(H:Hp)(a:Addr)(o:HO):Hp:=λb=>if b=a then ae o else H b
theorem bB:upd H a o a=ae o:=by unfold upd;rw[if_pos rfl]
theorem aY(h:b≠a):upd H a o b=H b:=by unfold upd;rw[if_neg h]
theorem Je:upd (upd H a o) a u=upd H a u:=by
 funext b;unfold upd;split<;>rfl
theorem EH{H:Hp}(h:H a=ae o)(h':H b=ae u)(d:o≠u):a≠b:=by
 intro e;subst e;rw[h]at h';exact d (A8 h')
theorem cR{H:Hp}(h:H a=ae o)(h':H b=ah):a≠b:=by
 intro e;subst e;rw[h]at h';cases h'
def IsTupP(h:Heap)(a:Addr)(items:Array Ak):Prop:=∃o,h.get? a=ae o/\o.cls=.type "tuple"/\(∃n,o.data=.seq items n)/\o.dict=ah
theorem IsTupP.tup(x:IsTupP h a items):IsTup h a items:=let⟨o,e,c,d,_⟩:=x;⟨o,e,c,d⟩
theorem IsTupP.lt(x:IsTupP h a items):a < h.objs.size:=let⟨_,e,_⟩:=x;A0 e
theorem IsTupP.new(h:Heap)(items):IsTupP (h.push {cls:=.type "tuple",data:=.seq items}) h.objs.size items:=⟨_,A5 _ rfl,rfl,⟨_,rfl⟩,rfl⟩
section
variable(P:Bg)(w:B3)
def ObjOk(H:Hp)(h:Heap)(a:Addr):HO->Prop
 |.lst xs=>xs.length<=Az/\∃(its:List Ak)(n:Nat),Vals xs its/\h.get? a=ae {cls:=.type "list",data:=.seq its.toArray n}
 |.tup xs=>xs.length<=Az/\∃its:List Ak,Vals xs its/\IsTupP h a its.toArray
 |.dK kvs=>kvs.length<=Az/\(a==Ea)=aj/\∃vs,KV kvs vs/\h.DictOf (eZ P w) a vs
 |.dT kvs=>kvs.length<=Az/\(a==Ea)=aj/\∃xs:List (List aG×Addr×Ak),
   Paired (λ(p:List aG×V)(q:List aG×Addr×Ak)=>p.1=q.1/\H q.2.1=ae (.tup (p.1.map kV))/\RelV p.2 q.2.2) kvs xs /\
   ∃o es ep,h.get? a=ae o/\o.ExactDict/\o.data=.dict es ep/\es.toList=xs.map (entryOfKey (tupleKind (eZ P w)))/\(xs.map (·.1)).Nodup
 |.set S n=>h.SetOf (intKind P w) a S n
 |.ins C dx fs=>H dx=ae (.own a)/\fs.length<=1000/\dx≠a/\h.get? a=ae (PySem.W.instObj C dx) /\
   ∃mA,h.Ns1 dx mA/\(∀f,RelO (fs.lookup f) (mA f))/\PySem.Within mA (fs.map (·.1))
 |.own _=>∃o,h.get? a=ae o
 |.xd fs=>∃mA,h.Ns1 a mA/\∀f,RelO (fs.lookup f) (mA f)
 |.rng lo hi=>∃t u v,h.get? a=ae {cls:=.type "range",data:=.fields #[.int lo t,.int hi u,.int 1 v]}
 |.frz o u=>h.get? a=ae o/\ObjOk H h a u
 |.tbl ps=>h.get? a=ae {cls:=.none,data:=.fields ps}
 |.met f x=>h.get? a=ae (PySem.W.methodObj (.ref f) (.ref x))
 |.ext φ=>φ h/\(∃o,h.get? a=ae o)/\∀h1 h2:Heap,φ h1->(∀o,h1.get? a=ae o->h2.get? a=ae o)->φ h2
def HOk(H:Hp)(h:Heap):Prop:=∀a o,H a=ae o->ObjOk P w H h a o
end
section
variable{P:Bg}{w:B3}{H H':Hp}{h h':Heap}{a:Addr}{o:HO}
theorem ObjOk.lt(x:ObjOk P w H h a o):a < h.objs.size:=by
 cases o with
 |lst xs=>obtain⟨_,_,_,_,e⟩:=x;exact A0 e
 |tup xs=>obtain⟨_,_,_,p⟩:=x;exact p.lt
 |dK kvs=>obtain⟨_,_,_,_,o,_,_,e,_⟩:=x;exact A0 e
 |dT kvs=>obtain⟨_,_,_,_,o,_,_,e,_⟩:=x;exact A0 e
 |set S n=>obtain⟨o,_,_,_,e,_⟩:=x;exact A0 e
 |ins C dx fs=>obtain⟨_,_,_,e,_⟩:=x;exact A0 e
 |own y=>obtain⟨_,e⟩:=x;exact A0 e
 |xd fs=>obtain⟨_,⟨_,_,_,e,_⟩,_⟩:=x;exact A0 e
 |rng lo hi=>obtain⟨_,_,_,e⟩:=x;exact A0 e
 |frz ob u=>obtain⟨e,_⟩:=x;exact A0 e
 |tbl ps=>exact A0 (show h.get? a=ae _ from x)
 |met f y=>exact A0 (show h.get? a=ae _ from x)
 |ext φ=>obtain⟨_,⟨_,e⟩,_⟩:=x;exact A0 e
theorem Paired.mapP:∀{l₁:List α}{l₂:List β},Paired F l₁ l₂->(∀a b,F a b->G a b)->Paired G l₁ l₂
 |_,_,.nil,_=>.nil
 |_,_,.cons r t,f=>.cons (f _ _ r) (Paired.mapP t f)
theorem ObjOk.stay(x:ObjOk P w H h a o)(k:∀b u,(b=a\/H b=ae (.own a))->h.get? b=ae u->h'.get? b=ae u)
  (ho:∀b,H b=ae (.own a)->H' b=ae (.own a)) (ht:∀b xs,H b=ae (.tup xs)->H' b=ae (.tup xs)):ObjOk P w H' h' a o:=by
 induction o with
 |lst xs=>obtain⟨z,its,n,r,e⟩:=x;exact⟨z,its,n,r,k _ _ (.inl rfl) e⟩
 |tup xs=>obtain⟨z,its,r,ob,e,c⟩:=x;exact⟨z,its,r,ob,k _ _ (.inl rfl) e,c⟩
 |dK kvs=>obtain⟨z,y,vs,r,ob,es,ep,e,c⟩:=x;exact⟨z,y,vs,r,ob,es,ep,k _ _ (.inl rfl) e,c⟩
 |dT kvs=>
  obtain⟨z,y,xs,r,ob,es,ep,e,c⟩:=x;exact⟨z,y,xs,Paired.mapP r λp q z=>⟨z.1,ht _ _ z.2.1,z.2.2⟩,ob,es,ep,k _ _ (.inl rfl) e,c⟩
 |set S n=>obtain⟨ob,es,ep,t,e,c⟩:=x;exact⟨ob,es,ep,t,k _ _ (.inl rfl) e,c⟩
 |ins C dx fs=>
  obtain⟨d,z,ne,e,mA,⟨od,es,ep,e2,c⟩,r⟩:=x;exact⟨ho _ d,z,ne,k _ _ (.inl rfl) e,mA,⟨od,es,ep,k _ _ (.inr d) e2,c⟩,r⟩
 |own y=>obtain⟨ob,e⟩:=x;exact⟨ob,k _ _ (.inl rfl) e⟩
 |xd fs=>obtain⟨mA,⟨od,es,ep,e,c⟩,r⟩:=x;exact⟨mA,⟨od,es,ep,k _ _ (.inl rfl) e,c⟩,r⟩
 |rng lo hi=>obtain⟨t,u,v,e⟩:=x;exact⟨t,u,v,k _ _ (.inl rfl) e⟩
 |frz ob u ih=>obtain⟨e,q⟩:=x;exact⟨k _ _ (.inl rfl) e,ih q⟩
 |tbl ps=>
  have e:h.get? a=ae {cls:=.none,data:=.fields ps}:=x;show h'.get? a=ae {cls:=.none,data:=.fields ps};exact k a _ (.inl rfl) e
 |met f y=>
  have e:h.get? a=ae (PySem.W.methodObj (.ref f) (.ref y)):=x;show h'.get? a=ae (PySem.W.methodObj (.ref f) (.ref y));exact k a _ (.inl rfl) e
 |ext φ=>obtain⟨p,⟨o,e⟩,st⟩:=x;exact⟨st _ _ p λo q=>k _ _ (.inl rfl) q,⟨o,k _ _ (.inl rfl) e⟩,st⟩
theorem HOk.lt(x:HOk P w H h)(e:H a=ae o):a < h.objs.size:=(x a o e).lt
theorem HOk.fresh(x:HOk P w H h)(e:h.objs.size<=a):H a=ah:=by
 cases q:H a with
 |none=>rfl
 |some u=>exact absurd (Bo (x.lt q) e) (Ex _)
theorem HOk.kept(x:HOk P w H h)(k:∀b u,h.get? b=ae u->h'.get? b=ae u):HOk P w H h':=λa o e=>
 (x a o e).stay (λb u _ q=>k b u q) (λ_ q=>q) λ_ _ q=>q
theorem HOk.laid(x:HOk P w H h)(k:∀b u,h.get? b=ae u->h'.get? b=ae u)(hp:h.objs.size<=a)(new:ObjOk P w (upd H a o) h' a o):HOk P w (upd H a o) h':=λb u e=>by
 have hn:=x.fresh hp;by_cases hb:b=a
 ·subst hb;rw[bB]at e;cases e;exact new
 ·rw[aY hb]at e;exact(x b u e).stay (λc v _ q=>k c v q) (λc q=>by rw[aY (cR q hn)];exact q) λc xs q=>by rw[aY (cR q hn)];exact q
end
def Rd(H:Hp)(a:Addr)(u:HO):Prop:=H a=ae u\/∃o,H a=ae (.frz o u)
theorem Rd.ok(r:Rd H a u)(x:HOk P w H h):ObjOk P w H h a u:=by
 rcases r with r|⟨o,r⟩
 ·exact x a u r
 ·obtain⟨_,q⟩:=x a _ r;exact q
def ot:Option HO->Prop
 |some (.lst _)=>True
 |some (.dK _)=>True
 |some (.dT _)=>True
 |some (.set _ _)=>True
 |some (.ins _ _ _)=>True
 |some (.ext _)=>True
 |_=>False
section
variable{P:Bg}{w:B3}{H:Hp}{h h':Heap}{x e:Addr}{o':HO}
theorem HOk.write(ok:HOk P w H h)(mu:ot (H x))(he:e=x\/H e=ae (.own x))(k:∀b u,b≠e->h.get? b=ae u->h'.get? b=ae u)(heo:∃u,h'.get? e=ae u)
  (new:ObjOk P w (upd H x o') h' x o'):HOk P w (upd H x o') h':=λb u q=>by
 have nown:∀c y,H c=ae (.own y)->c≠x:=λc y r z=>by subst z;rw[r]at mu;exact mu
 have ntup:∀c xs,H c=ae (.tup xs)->c≠x:=λc xs r z=>by subst z;rw[r]at mu;exact mu
 by_cases hb:b=x
 ·subst hb;rw[bB]at q;cases q;exact new
 ·rw[aY hb]at q;by_cases hbe:b=e
  ·have q':H b=ae (.own x):=by
    rcases he with z|z
    ·exact absurd (hbe.trans z) hb
    ·rw[hbe];exact z
   rw[q]at q';cases q';obtain⟨v,hv⟩:=heo;exact⟨v,by rw[hbe];exact hv⟩
  ·refine(ok b u q).stay (λc v hc r=>k c v ?_ r) (λc r=>by rw[aY (nown c b r)];exact r) λc xs r=>by rw[aY (ntup c xs r)];exact r
   rcases hc with rfl|hc
   ·exact hbe
   ·rintro rfl
    rcases he with z|z
    ·exact nown c b hc z
    ·rw[hc]at z;cases z;exact hb rfl
end
structure Un(fs ex:List Addr)(H H':Hp)(h h':Heap):Prop where
 keep:∀b o,h.get? b=ae o->H b=ah->b∉fs->b∉ex->h'.get? b=ae o
 slot:∀b o,h.get? b=ae o->H b=ah->b∈fs->b∉ex->∃sl,h'.get? b=ae {o with slots:=sl}
 free:∀b o,h.get? b=ae o->H b=ah->b∉ex->H' b=ah
 there:∀b o,h.get? b=ae o->b∉ex->∃o',h'.get? b=ae o'
 tups:∀b xs,H b=ae (.tup xs)->H' b=ae (.tup xs)
 frzs:∀b o u,H b=ae (.frz o u)->H' b=ae (.frz o u)
 tbls:∀b ps,H b=ae (.tbl ps)->∃more,H' b=ae (.tbl (ps++more))
section
variable{fs fs' ex ex':List Addr}{H H1 H2:Hp}{h h1 h2 h':Heap}{a x e:Addr}{o:HO}
theorem Un.any(u:Un fs ex H H1 h h1)(q:h.get? b=ae ob)(n:H b=ah)(hx:b∉ex):∃sl,h1.get? b=ae {ob with slots:=sl}:=by
 by_cases hb:b∈fs
 ·exact u.slot b ob q n hb hx
 ·exact⟨ob.slots,u.keep b ob q n hb hx⟩
theorem Un.kept(k:∀b u,h.get? b=ae u->h'.get? b=ae u):Un fs ex H H h h':=
 ⟨λb ob q _ _ _=>k b ob q,λb ob q _ _ _=>⟨ob.slots,k b ob q⟩,λ_ _ _ n _=>n,λb ob q _=>⟨ob,k b ob q⟩,λ_ _ q=>q,λ_ _ _ q=>q,λ_ ps q=>⟨#[],by rw[q];simp⟩⟩
theorem Un.refl:Un fs ex H H h h:=Un.kept λ_ _ q=>q
theorem Un.laid(k:∀b u,h.get? b=ae u->h'.get? b=ae u)(hp:h.objs.size<=a)(hn:H a=ah):Un fs ex H (upd H a o) h h' where
 keep:=λb u q _ _ _=>k b u q
 slot:=λb u q _ _ _=>⟨u.slots,k b u q⟩
 free:=λb u q n _=>by rw[aY (Bk (Bo (A0 q) hp))];exact n
 there:=λb u q _=>⟨u,k b u q⟩
 tups:=λb xs q=>by rw[aY (cR q hn)];exact q
 frzs:=λb u xs q=>by rw[aY (cR q hn)];exact q
 tbls:=λb ps q=>⟨#[],by rw[aY (cR q hn),q];simp⟩
theorem Un.write(mu:ot (H x))(he:e=x\/H e=ae (.own x))(k:∀b u,b≠e->h.get? b=ae u->h'.get? b=ae u)(heo:∃u,h'.get? e=ae u):Un fs ex H (upd H x o) h h':=by
 have hx:∀b,H b=ah->b≠x:=λb n z=>by subst z;rw[n]at mu;exact mu
 have hb:∀b,H b=ah->b≠e:=λb n z=>by
  subst z;rcases he with r|r
  ·exact hx b n r
  ·rw[n]at r;cases r
 have hm:∀b u,H b=ae u->¬ot (ae u)->b≠x:=λb u q nm z=>by subst z;rw[q]at mu;exact nm mu
 refine⟨λb u q n _ _=>k b u (hb b n) q,λb u q n _ _=>⟨u.slots,k b u (hb b n) q⟩,λb u q n _=>by rw[aY (hx b n)];exact n,λb u q _=>?_,
  λb xs q=>by rw[aY (hm b _ q λz=>z)];exact q,λb u xs q=>by rw[aY (hm b _ q λz=>z)];exact q,λb ps q=>⟨#[],by rw[aY (hm b _ q λz=>z),q];simp⟩⟩
 by_cases hbe:b=e
 ·subst hbe;exact heo
 ·exact⟨u,k b u hbe q⟩
end
def sH(h:Heap)(H:Hp):List Addr:=(A3 h.objs.size).filter λa=>(H a).isSome
def fX(h:Heap)(H:Hp):Heap:=PySem.W.hideAll h (sH h H)
theorem Qa(h:Heap)(H):(fX h H).objs.size=h.objs.size:=PySem.W.hideAll_size _ _
theorem Nz(e:h.get? b=ae o)(n:H b=ah):(fX h H).get? b=ae o:=
 PySem.W.hideAll_get _ e λhm=>by
  have q:(H b).isSome=ai:=(B9.mp hm).2;rw[n]at q;simp at q
theorem UM(e:(fX h H).get? b=ae o):h.get? b=ae o/\H b=ah:=by
 have e':h.get? b=ae o:=PySem.W.of_hideAll (sH h H) e;refine⟨e',?_⟩;cases q:H b with
 |none=>rfl
 |some x=>
  have hm:b∈sH h H:=B9.mpr ⟨B6.mpr (A0 e'),by simp[q]⟩;have z:(fX h H).get? b=ah:=PySem.W.hideAll_none (sH h H) hm;rw[z]at e;cases e
def Ld(g h:Heap)(L:Addr):List (Addr×Obj):=(A3 h.objs.size).filterMap λa=>if a=L\/(g.get? a).isSome=ai then ah else(h.get? a).map λo=>(a,o)
def aR(g h:Heap)(L d:Addr):List (Addr×Obj):=(Ld g h L).filter λp=>decide (p.1≠d)
structure Mod(K:Ah)(mg:Str->Option Ak)(base:Heap):Prop where
 kin:K.In base
 glob:base.Ns Dl mg
 blt:∃mb,base.Ns builtinsNs mb/\∀x:Str,x≠"__name__"->mb x=By x
 nolimit:base.NoLimit
structure Cx where
 prog:Bg
 w:B3
 K:Ah
 mg:Str->Option Ak
 base:Heap
 A:Cj
 N:List Str
 s₀:Ap
 H₀:Hp
 env:Env
 outer:List Env
 stack:List Env
 ex:List Addr
 fn:Str->Bool
 calm:Bool
 pn:List (Addr×Obj)
 xe:Ak->Ap->Prop
def iF(l:List Env):List Addr:=l.filterMap (·.frame)
abbrev Cx.fs(X:Cx):List Addr:=iF X.outer
def fj(sc:Er)(x:Str):Prop:=sc.names.lookup x=ae .local\/sc.names.lookup x=ae .cell\/sc.names.lookup x=ae .free
def ki(sc:Er)(x:Str):Prop:=sc.names.lookup x=ae .local\/sc.names.lookup x=ae .cell
def xA(env:Env)(h:Heap)(m:Str->Option Ak)(x:Str)(u:Ak):Prop:=
 (env.kindOf x=ae .local/\m x=ae u)\/((env.kindOf x=ae .cell\/env.kindOf x=ae .free)/\∃c,env.cells.lookup x=ae c/\h.IsCell c (ae u))
structure Cx.Ok(X:Cx):Prop where
 mod:Mod X.K X.mg X.base
 kind:X.env.scope.kind=.function
 glob:X.env.globals=Dl
 blt:X.env.builtins=builtinsNs
 above:X.s₀.heap.objs.size<=X.env.locals
 inj:∀x y c,X.env.cells.lookup x=ae c->X.env.cells.lookup y=ae c->x=y
 has:∀x,(X.env.kindOf x=ae .cell\/X.env.kindOf x=ae .free)->∃c,X.env.cells.lookup x=ae c
 cab:∀x c,X.fn x=ai->X.env.cells.lookup x=ae c->X.s₀.heap.objs.size<=c
 hd:X.calm=ai->X.A.handled=ah
 frames:X.A.frames=ae X.stack
 stk:X.stack=X.outer\/(X.stack=X.env::X.outer/\X.env.frame=ae X.env.locals)
 exf:∀b∈X.ex,b≠X.env.locals/\∀x c,X.env.cells.lookup x=ae c->c≠b
 bs:∀b o,X.base.get? b=ae o->X.s₀.heap.get? b=ae o/\X.H₀ b=ah
 bsz:X.base.objs.size<=X.s₀.heap.objs.size
 noex:∀b o,X.base.get? b=ae o->b∉X.ex
 exfs:∀b∈X.ex,b∉X.fs
 funs:X.s₀.heap.FunFrames X.base X.outer
 frf:∀b∈X.fs,X.H₀ b=ah
structure Inv(X:Cx)(pins:List (Addr×Obj))(σ:List (Option V))(H:Hp)(s:Ap):Prop where
 ok:X.Ok
 os:s.os=X.s₀.os
 bare:AllBare s.gens
 base:Un X.fs X.ex X.H₀ H X.s₀.heap s.heap
 loc:∃m,s.heap.Ns X.env.locals m/\∀(i:Nat)(x:Str)(v:V),X.N[i]?=ae x->σ[i]?=ae (ae v)->fj X.env.scope x->∃u,RelV v u/\xA X.env s.heap m x u
 cell:∀x c,X.env.cells.lookup x=ae c->∃v,s.heap.IsCell c v
 free:H X.env.locals=ah
 freeC:∀x c,X.env.cells.lookup x=ae c->H c=ah
 pin:∀p∈X.pn++pins,s.heap.get? p.1=ae p.2/\H p.1=ah/\p.1≠X.env.locals/\p.1∉X.fs/\∀v,p.2.data≠.cell v
 hok:HOk X.prog X.w H s.heap
 len:σ.length=X.N.length
section
variable{X:Cx}{pins:List (Addr×Obj)}{σ:List (Option V)}{H H':Hp}{s:Ap}{h':Heap}
theorem Cx.Ok.nofr(ok:X.Ok)(e:X.base.get? b=ae o):b∉X.fs:=λhb=>by
 have:=(ok.funs.mem hb).1;rw[e]at this;cases this
theorem Inv.bs(I:Inv X pins σ H s):∀b o,X.base.get? b=ae o->s.heap.get? b=ae o/\H b=ah:=λb o e=>
 ⟨I.base.keep b o (I.ok.bs b o e).1 (I.ok.bs b o e).2 (I.ok.nofr e) (I.ok.noex b o e),I.base.free b o (I.ok.bs b o e).1 (I.ok.bs b o e).2 (I.ok.noex b o e)⟩
theorem Inv.bk(I:Inv X pins σ H s):∀b o,X.base.get? b=ae o->s.heap.get? b=ae o:=λb o e=>(I.bs b o e).1
theorem Inv.mod(I:Inv X pins σ H s):Mod X.K X.mg X.base:=I.ok.mod
theorem Inv.kIn(I:Inv X pins σ H s):X.K.In s.heap:=I.ok.mod.kin.keeps I.bk
theorem Inv.lt(I:Inv X pins σ H s):X.env.locals < s.heap.objs.size:=let⟨_,hn,_⟩:=I.loc;hn.lt
theorem Inv.sz(I:Inv X pins σ H s):X.s₀.heap.objs.size<=s.heap.objs.size:=A2 I.ok.above (F6 I.lt)
theorem Inv.nofs(I:Inv X pins σ H s){a:Addr}(h:s.heap.objs.size<=a):a∉X.fs:=λhb=>by
 obtain⟨_,o,ho,_⟩:=I.ok.funs.mem hb;exact absurd (Bo (A0 ho) (A2 I.sz h)) (Ex _)
theorem Inv.cne(I:Inv X pins σ H s):∀x c,X.env.cells.lookup x=ae c->c≠X.env.locals:=λx c e z=>by
 obtain⟨v,o,ho,hd⟩:=I.cell x c e;obtain⟨m,⟨o',es,ep,ho',hd',_⟩,_⟩:=I.loc;rw[z,ho']at ho;cases ho;rw[hd']at hd;cases hd
theorem Inv.funs(I:Inv X pins σ H s):s.heap.FunFrames X.base X.outer:=by
 have all:∀(l:List Env),(∀b∈iF l,b∈X.fs)->X.s₀.heap.FunFrames X.base l->s.heap.FunFrames X.base l:=by
  intro l
  induction l with
  |nil=>intro _ _;trivial
  |cons env r ih=>
   intro hs hl;obtain⟨hk,⟨L,o,hf,hn,ho,hd⟩,hr⟩:=hl;have hL:L∈X.fs:=hs L (by unfold iF;rw[Gf,hf];exact As);obtain⟨sl,e⟩:=I.base.slot L o ho (I.ok.frf L hL) hL λz=>I.ok.exfs L z hL;exact⟨hk,⟨L,_,hf,hn,e,hd⟩,ih (λb hb=>hs b (by unfold iF;rw[Gf,hf];exact Ar _ hb)) hr⟩
 exact all X.outer (λ_ hb=>hb) I.ok.funs
theorem Inv.stack(I:Inv X pins σ H s):s.heap.FunFrames X.base X.stack:=by
 rcases I.ok.stk with e|⟨e,hf⟩
 ·rw[e];exact I.funs
 ·rw[e];obtain⟨m,hn,_⟩:=I.loc;refine .cons (by rw[I.ok.kind];decide) hf hn ?_ I.funs;exact Heap.get?_none_of_le (A2 I.ok.bsz I.ok.above)
theorem Inv.stkSub(I:Inv X pins σ H s):∀b∈iF X.stack,b∈X.env.locals::X.fs:=λb hb=>by
 rcases I.ok.stk with e|⟨e,hf⟩
 ·rw[e]at hb;exact Ar _ hb
 ·rw[e]at hb;unfold iF at hb;rw[Gf,hf]at hb;exact hb
theorem Inv.stkFree(I:Inv X pins σ H s):∀b∈iF X.stack,H b=ah:=λb hb=>by
 rcases Ao.mp (I.stkSub b hb)with e|hb
 ·rw[e];exact I.free
 ·obtain⟨_,o,ho,_⟩:=I.ok.funs.mem hb;exact I.base.free b o ho (I.ok.frf b hb) λz=>I.ok.exfs b z hb
theorem Inv.step{ch:List Addr}(I:Inv X pins σ H s)
  (hch:∀b∈ch,(b∈X.ex\/X.s₀.heap.objs.size<=b)/\b≠X.env.locals/\(∀x c,X.env.cells.lookup x=ae c->c≠b)/\∀p∈X.pn++pins,p.1≠b)
  (keep:∀b o,b≠X.env.locals->b∉X.fs->b∉ch->s.heap.get? b=ae o->H b=ah->h'.get? b=ae o)
  (slot:∀b o,b≠X.env.locals->b∈X.fs->b∉ch->s.heap.get? b=ae o->H b=ah->∃sl,h'.get? b=ae {o with slots:=sl}) (free:∀b o,b∉ch->s.heap.get? b=ae o->H b=ah->H' b=ah)
  (there:∀b o,b∉ch->s.heap.get? b=ae o->∃o',h'.get? b=ae o')
  (tups:∀b xs,H b=ae (.tup xs)->H' b=ae (.tup xs)) (frzs:∀b o u,H b=ae (.frz o u)->H' b=ae (.frz o u)) (tbls:∀b ps,H b=ae (.tbl ps)->∃more,H' b=ae (.tbl (ps++more)))
  (ns:∀m,s.heap.Ns X.env.locals m->h'.Ns X.env.locals m) (hok:HOk X.prog X.w H' h') (hg:AllBare g'):
  Inv X pins σ H' {s with heap:=h',gens:=g',drawn:=d',toks:=t'}:=by
 have neL:∀b o,X.s₀.heap.get? b=ae o->b≠X.env.locals:=λb o e=>Bk (Bo (A0 e) I.ok.above);have neC:∀b o,X.s₀.heap.get? b=ae o->b∉X.ex->b∉ch:=λb o e hx hb=>by
  rcases(hch b hb).1 with z|z
  ·exact hx z
  ·exact absurd (Bo (A0 e) z) (Ex _)
 have cellK:∀x c,X.env.cells.lookup x=ae c->∀v,s.heap.IsCell c v->h'.IsCell c v:=λx c e v ⟨o,ho,hd⟩=>by
  have nch:c∉ch:=λz=>(hch c z).2.2.1 x c e rfl;by_cases hc:c∈X.fs
  ·obtain⟨sl,q⟩:=slot c o (I.cne x c e) hc nch ho (I.freeC x c e);exact⟨_,q,hd⟩
  ·exact⟨o,keep c o (I.cne x c e) hc nch ho (I.freeC x c e),hd⟩
 refine⟨I.ok,I.os,hg,⟨λb o e n hb hx=>?_,λb o e n hb hx=>?_,λb o e n hx=>?_,λb o e hx=>?_,λb xs e=>tups b xs (I.base.tups b xs e),λb o xs e=>frzs b o xs (I.base.frzs b o xs e),λb ps e=>?_⟩,?_,λx c e=>?_,?_,λx c e=>?_,λp hp=>?_,hok,I.len⟩
 ·exact keep b o (neL b o e) hb (neC b o e hx) (I.base.keep b o e n hb hx) (I.base.free b o e n hx)
 ·obtain⟨sl,e1⟩:=I.base.slot b o e n hb hx;obtain⟨sl',e2⟩:=slot b _ (neL b o e) hb (neC b o e hx) e1 (I.base.free b o e n hx);exact⟨sl',e2⟩
 ·obtain⟨o',e1⟩:=I.base.there b o e hx;exact free b o' (neC b o e hx) e1 (I.base.free b o e n hx)
 ·obtain⟨o',e1⟩:=I.base.there b o e hx;exact there b o' (neC b o e hx) e1
 ·obtain⟨m1,e1⟩:=I.base.tbls b ps e;obtain⟨m2,e2⟩:=tbls b _ e1;exact⟨m1++m2,by rw[e2,Array.append_assoc]⟩
 ·obtain⟨m,hn,hl⟩:=I.loc;refine⟨m,ns m hn,λi x v e1 e2 e3=>?_⟩;obtain⟨u,r,l⟩:=hl i x v e1 e2 e3;refine⟨u,r,?_⟩;rcases l with l|⟨k,c,e,z⟩
  ·exact .inl l
  ·exact .inr ⟨k,c,e,cellK x c e _ z⟩
 ·obtain⟨v,z⟩:=I.cell x c e;exact⟨v,cellK x c e v z⟩
 ·obtain⟨m,⟨o,_,_,ho,_⟩,_⟩:=I.loc;exact free _ o (λz=>(hch _ z).2.1 rfl) ho I.free
 ·obtain⟨v,o,ho,hd⟩:=I.cell x c e;exact free c o (λz=>(hch c z).2.2.1 x c e rfl) ho (I.freeC x c e)
 ·obtain⟨e,n,ne,nf,d⟩:=I.pin p hp;have nch:p.1∉ch:=λz=>(hch p.1 z).2.2.2 p hp rfl;exact⟨keep p.1 p.2 ne nf nch e n,free p.1 p.2 nch e n,ne,nf,d⟩
theorem Inv.un(I:Inv X pins σ H s)(u:Un X.fs [] H H' s.heap h')(hok:HOk X.prog X.w H' h'):Inv X pins σ H' {s with heap:=h',toks:=t'}:=by
 obtain⟨m,⟨o,es,ep,ho,r⟩,_⟩:=id I.loc;obtain⟨sl,hL⟩:=u.any ho I.free (by simp);exact I.step (g':=s.gens) (d':=s.drawn) (ch:=[]) (λ_ z=>nomatch z) (λb o _ hb _ e n=>u.keep b o e n hb (by simp)) (λb o _ hb _ e n=>u.slot b o e n hb (by simp)) (λb o _ e n=>u.free b o e n (by simp)) (λb o _ e=>u.there b o e (by simp)) u.tups u.frzs u.tbls (λm' hm=>by
  obtain⟨o',es',ep',ho',r'⟩:=hm;rw[ho]at ho';cases ho';exact⟨_,es',ep',hL,r'⟩) hok I.bare
theorem Inv.call(I:Inv X pins σ H s)(u:Un (iF X.stack) ch H H' s.heap h')(hok:HOk X.prog X.w H' h')(hg:AllBare g')
  (hch:∀b∈ch,(b∈X.ex\/X.s₀.heap.objs.size<=b)/\b≠X.env.locals/\(∀x c,X.env.cells.lookup x=ae c->c≠b)/\∀p∈X.pn++pins,p.1≠b):
  Inv X pins σ H' {s with heap:=h',gens:=g',drawn:=d',toks:=t'}:=by
 obtain⟨m,⟨o,es,ep,ho,r⟩,_⟩:=id I.loc;obtain⟨sl,hL⟩:=u.any ho I.free λz=>(hch _ z).2.1 rfl;exact I.step (ch:=ch) hch (λb o hL hb hc e n=>u.keep b o e n (λz=>(Ao.mp (I.stkSub b z)).elim hL hb) hc) (λb o _ _ hc e n=>u.any e n hc) (λb o hc e n=>u.free b o e n hc) (λb o hc e=>u.there b o e hc) u.tups u.frzs u.tbls (λm' hm=>by
  obtain⟨o',es',ep',ho',r'⟩:=hm;rw[ho]at ho';cases ho';exact⟨_,es',ep',hL,r'⟩) hok hg
theorem Inv.turned(I:Inv X pins σ H s)(k:∀b o,b≠it->s.heap.get? b=ae o->h'.get? b=ae o)(hn:H it=ah)(hL:it≠X.env.locals)
  (h1:it∈X.ex\/X.s₀.heap.objs.size<=it) (h2:∀x c,X.env.cells.lookup x=ae c->c≠it) (h3:∀p∈X.pn++pins,p.1≠it):Inv X pins σ H {s with heap:=h',toks:=t'}:=by
 have nit:∀b u,H b=ae u->b≠it:=λb u e z=>by rw[z,hn]at e;cases e
 refine I.step (g':=s.gens) (d':=s.drawn) (ch:=[it]) (λb hb=>?_) (λb o _ _ hc e _=>k b o (λz=>hc (by simp[z])) e) (λb o _ _ hc e _=>⟨o.slots,k b o (λz=>hc (by simp[z])) e⟩) (λ_ _ _ _ n=>n)
  (λb o hc e=>⟨o,k b o (λz=>hc (by simp[z])) e⟩) (λ_ _ e=>e) (λ_ _ _ e=>e) (λb ps e=>⟨#[],by rw[e];simp⟩) (λm hm=>?_) (λb u e=>?_) I.bare
 ·have e:b=it:=by simpa using hb
  subst e;exact⟨h1,hL,h2,h3⟩
 ·obtain⟨o,es,ep,ho,r⟩:=hm;exact⟨o,es,ep,k _ o (Ne.symm hL) ho,r⟩
 ·refine(I.hok b u e).stay (λc v hc q=>k c v ?_ q) (λ_ q=>q) λ_ _ q=>q;rcases hc with z|z
  ·rw[z];exact nit b u e
  ·exact nit c _ z
theorem Inv.tok(I:Inv X pins σ H s)(t):Inv X pins σ H {s with toks:=t}:=I.un (h':=s.heap) (t':=t) Un.refl I.hok
theorem Inv.kept(I:Inv X pins σ H s)(k:∀b u,s.heap.get? b=ae u->h'.get? b=ae u):Inv X pins σ H {s with heap:=h',toks:=t'}:=I.un (Un.kept k) (I.hok.kept k)
theorem Inv.laid{a:Addr}(I:Inv X pins σ H s)(k:∀b u,s.heap.get? b=ae u->h'.get? b=ae u)(hp:s.heap.objs.size<=a)(new:ObjOk X.prog X.w (upd H a o) h' a o):
  Inv X pins σ (upd H a o) {s with heap:=h',toks:=t'}:=I.un (Un.laid k hp (I.hok.fresh hp)) (I.hok.laid k hp new)
theorem Inv.write(I:Inv X pins σ H s)(mu:ot (H x))(he:e=x\/H e=ae (.own x))(k:∀b u,b≠e->s.heap.get? b=ae u->h'.get? b=ae u)(heo:∃u,h'.get? e=ae u)
  (new:ObjOk X.prog X.w (upd H x o) h' x o):Inv X pins σ (upd H x o) {s with heap:=h',toks:=t'}:=I.un (Un.write mu he k heo) (I.hok.write mu he k heo new)
theorem Inv.pins_of(I:Inv X pins σ H s)(h:∀p∈pins',s.heap.get? p.1=ae p.2/\H p.1=ah/\p.1≠X.env.locals/\p.1∉X.fs/\∀v,p.2.data≠.cell v):Inv X pins' σ H s:=
 ⟨I.ok,I.os,I.bare,I.base,I.loc,I.cell,I.free,I.freeC,λp hp=>(Bc.mp hp).elim (λz=>I.pin p (Ec _ z)) (h p),I.hok,I.len⟩
theorem yI{N:List Str}(hN:N.Nodup){i j:Nat}(a:N[i]?=ae x)(b:N[j]?=ae x):i=j:=by
 obtain⟨h1,e1⟩:=Av.mp a;obtain⟨h2,e2⟩:=Av.mp b;exact(E8 hN).mp (e1.trans e2.symm)
theorem AN(I:Inv X pins σ H s)(hN:X.N.Nodup)(hi:X.N[i]?=ae x)(hx:ki X.env.scope x)(r:RelV v u)
  (h:∀s',Inv X pins (σ.set i (ae v)) H s'->(∃a,Ed a s.heap s'.heap/\(a=X.env.locals\/X.env.cells.lookup x=ae a))->Q () s') (hf:X.fn x=ai\/X.env.scope.names.lookup x=ae .local:=by first|exact .inl rfl|exact .inr rfl|assumption):A9 M A (storeName X.env x u) Q E s:=by
 obtain⟨m,hn,hl⟩:=id I.loc;have hcls:(X.env.scope.kind==.class || (X.env.scope.kind==.module&&X.env.locals != X.env.globals))=aj:=by rw[I.ok.kind];rfl
 have hiσ:i < σ.length:=by rw[I.len];exact(Av.mp hi).1
 have cne:=I.cne;have tracked:∀{a:Addr}{h':Heap},(∃o,s.heap.get? a=ae o/\H a=ah)->Ed a s.heap h'->HOk X.prog X.w H h':=λ{a h'} ha hs b ob e=>by
  obtain⟨_,_,hfree⟩:=ha;refine(I.hok b ob e).stay (λc w' hc q=>(hs.2 c ?_).trans q) (λ_ q=>q) λ_ _ q=>q
  rintro rfl
  rcases hc with rfl|hc
  ·rw[hfree]at e;cases e
  ·rw[hfree]at hc;cases hc
 rcases hx with hk|hk
 ·refine wpAny_storeName_local hk hn (λh' hn' hs=>?_) hcls;obtain⟨oL,_,_,hoL,_⟩:=id hn;refine h _ ⟨I.ok,I.os,I.bare,⟨λb o e n hb hx=>?_,λb o e n hb hx=>?_,I.base.free,λb o e hx=>?_,I.base.tups,I.base.frzs,I.base.tbls⟩,⟨_,hn',λj y v' e1 e2 e3=>?_⟩,λy c e=>?_,I.free,I.freeC,λp hp=>?_,tracked ⟨oL,hoL,I.free⟩ hs,by simpa using I.len⟩ ⟨_,hs,.inl rfl⟩
  ·exact(hs.2 b (Bk (Bo (A0 e) I.ok.above))).trans (I.base.keep b o e n hb hx)
  ·obtain⟨sl,e1⟩:=I.base.slot b o e n hb hx;exact⟨sl,(hs.2 b (Bk (Bo (A0 e) I.ok.above))).trans e1⟩
  ·obtain⟨o',e1⟩:=I.base.there b o e hx;exact⟨o',(hs.2 b (Bk (Bo (A0 e) I.ok.above))).trans e1⟩
  ·by_cases hj:j=i
   ·subst hj;rw[hi]at e1;cases e1;rw[F1 hiσ]at e2;cases e2;exact⟨u,r,.inl ⟨hk,by simp⟩⟩
   ·rw[B7 (Ne.symm hj)]at e2;obtain⟨u',r',q⟩:=hl j y v' e1 e2 e3;refine⟨u',r',?_⟩;rcases q with⟨k,e⟩|⟨k,c,e,z⟩
    ·refine .inl ⟨k,?_⟩;have:y≠x:=λe=>hj (yI hN e1 (e▸hi));simp[this,e]
    ·exact .inr ⟨k,c,e,z.sameBut hs (cne y c e)⟩
  ·obtain⟨w',z⟩:=I.cell y c e;exact⟨w',z.sameBut hs (cne y c e)⟩
  ·obtain⟨e,n,ne,nf,d⟩:=I.pin p hp;exact⟨(hs.2 p.1 ne).trans e,n,ne,nf,d⟩
 ·have hfn:X.fn x=ai:=by
   rcases hf with z|z
   ·exact z
   ·rw[z]at hk;cases hk
  obtain⟨c,hc⟩:=I.ok.has x (.inl hk);obtain⟨w',z⟩:=I.cell x c hc;refine wpAny_storeName_cell I.ok.kind hk hc z (λh' hc' hs=>?_);obtain⟨oc,hoc,hocd⟩:=id z;refine h {s with heap:=h'} ⟨I.ok,I.os,I.bare,⟨λb o e n hb hx=>?_,λb o e n hb hx=>?_,I.base.free,λb o e hx=>?_,I.base.tups,I.base.frzs,I.base.tbls⟩,⟨m,hn.sameBut hs (Ne.symm (cne x c hc)),λj y v' e1 e2 e3=>?_⟩,λy c' e=>?_,I.free,I.freeC,λp hp=>?_,tracked ⟨oc,hoc,I.freeC x c hc⟩ hs,by simpa using I.len⟩ ⟨c,hs,.inr hc⟩
  ·exact(hs.2 b (Bk (Bo (A0 e) (I.ok.cab x c hfn hc)))).trans (I.base.keep b o e n hb hx)
  ·obtain⟨sl,e1⟩:=I.base.slot b o e n hb hx;exact⟨sl,(hs.2 b (Bk (Bo (A0 e) (I.ok.cab x c hfn hc)))).trans e1⟩
  ·obtain⟨o',e1⟩:=I.base.there b o e hx;exact⟨o',(hs.2 b (Bk (Bo (A0 e) (I.ok.cab x c hfn hc)))).trans e1⟩
  ·by_cases hj:j=i
   ·subst hj;rw[hi]at e1;cases e1;rw[F1 hiσ]at e2;cases e2;exact⟨u,r,.inr ⟨.inl hk,c,hc,hc'⟩⟩
   ·rw[B7 (Ne.symm hj)]at e2;obtain⟨u',r',q⟩:=hl j y v' e1 e2 e3;refine⟨u',r',?_⟩;rcases q with q|⟨k,c',e,z'⟩
    ·exact .inl q
    ·refine .inr ⟨k,c',e,z'.sameBut hs ?_⟩
     rintro rfl
     exact hj (yI hN e1 (I.ok.inj _ _ _ e hc▸hi))
  ·by_cases hcc:c'=c
   ·subst hcc;exact⟨_,hc'⟩
   ·obtain⟨w2,z2⟩:=I.cell y c' e;exact⟨w2,z2.sameBut hs hcc⟩
  ·obtain⟨e,n,ne,nf,d⟩:=I.pin p hp;refine⟨(hs.2 p.1 ?_).trans e,n,ne,nf,d⟩;intro q;rw[q,hoc]at e;have q':oc=p.2:=A8 e;exact d w' (by rw[<-q'];exact hocd)
theorem EA(I:Inv X pins σ H s)(hN:X.N.Nodup)(hi:X.N[i]?=ae x)(hx:ki X.env.scope x)(r:RelV v u)
  (h:∀s',Inv X pins (σ.set i (ae v)) H s'->Q () s') (hf:X.fn x=ai\/X.env.scope.names.lookup x=ae .local:=by first|exact .inl rfl|exact .inr rfl|assumption):A9 M A (storeName X.env x u) Q E s:=
 AN I hN hi hx r (λs' I' _=>h s' I') hf
theorem Inv.call'(I:Inv X pins σ H s)(ho:s'.os=s.os)(u:Un (iF X.stack) ch H H' s.heap s'.heap)(hok:HOk X.prog X.w H' s'.heap)(hg:AllBare s'.gens)
  (hch:∀b∈ch,(b∈X.ex\/X.s₀.heap.objs.size<=b)/\b≠X.env.locals/\(∀x c,X.env.cells.lookup x=ae c->c≠b)/\∀p∈X.pn++pins,p.1≠b):Inv X pins σ H' s':=by
 obtain⟨h',g',d',t',o'⟩:=s';have e:o'=s.os:=ho;subst e;exact I.call (g':=g') (t':=t') (d':=d') u hok hg hch
end
abbrev XK:=Ak->Option Addr->Hp->Prop
abbrev St:=List (Option V)
abbrev VK:=V->Hp->Prop
abbrev TE:=St->Hp->VK->Prop
abbrev TT:=St->Hp->(Bool->Hp->Prop)->Prop
abbrev TA:=St->Hp->(List V->Hp->Prop)->Prop
structure Ends where
 nx:St->Hp->Prop
 rt:VK
 bk:St->Hp->Prop:=λ_ _=>False
 ct:St->Hp->Prop:=λ_ _=>False
abbrev TS:=Ends->St->Hp->Prop
def EP(X:Cx)(pins:List (Addr×Obj))(σ:St)(Q:VK)(u:Ak)(s':Ap):Prop:=∃v H',Inv X pins σ H' s'/\RelV v u/\Q v H'
def TP(X:Cx)(pins:List (Addr×Obj))(σ:St)(Q:Bool->Hp->Prop)(b:Bool)(s':Ap):Prop:=∃H',Inv X pins σ H' s'/\Q b H'
def AP(X:Cx)(pins:List (Addr×Obj))(σ:St)(Q:List V->Hp->Prop)(us:List Ak)(s':Ap):Prop:=∃vs H',Inv X pins σ H' s'/\Vals vs us/\Q vs H'
def SP(X:Cx)(pins:List (Addr×Obj))(D:Ends)(f:Flow)(s':Ap):Prop:=
 match f with
 |.next=>∃σ' H',Inv X pins σ' H' s'/\D.nx σ' H'
 |.brk=>∃σ' H',Inv X pins σ' H' s'/\D.bk σ' H'
 |.cont=>∃σ' H',Inv X pins σ' H' s'/\D.ct σ' H'
 |.ret u=>∃v σ' H',Inv X pins σ' H' s'/\RelV v u/\D.rt v H'
def PE(X:Cx)(e:Expr)(t:TE):Prop:=
 ∀(pins:List (Addr×Obj))(s:Ap)(σ:St)(H:Hp)(Q:VK),Inv X pins σ H s->t σ H Q->A9 (Bh X.prog X.w) X.A (eval e X.env) (EP X pins σ Q) X.xe s
def PT(X:Cx)(e:Expr)(t:TT):Prop:=
 ∀(pins:List (Addr×Obj))(s:Ap)(σ:St)(H:Hp)(Q:Bool->Hp->Prop),Inv X pins σ H s->t σ H Q->A9 (Bh X.prog X.w) X.A (isTrue e X.env (eval e X.env)) (TP X pins σ Q) X.xe s
def PW(X:Cx)(e:Expr)(t:TT):Prop:=
 ∀(whole:Sem Ak)(pins:List (Addr×Obj))(s:Ap)(σ:St)(H:Hp)(Q:Bool->Hp->Prop),Inv X pins σ H s->t σ H Q->A9 (Bh X.prog X.w) X.A (isTrue e X.env whole) (TP X pins σ Q) X.xe s
theorem PW.pt(h:PW X e t):PT X e t:=h _
def PA(X:Cx)(es:List Expr)(t:TA):Prop:=
 ∀(pos:Pos)(pins:List (Addr×Obj))(s:Ap)(σ:St)(H:Hp)(Q:List V->Hp->Prop),Inv X pins σ H s->t σ H Q->A9 (Bh X.prog X.w) X.A (spliced (Cy pos (Au es X.env))) (AP X pins σ Q) X.xe s
def PS(X:Cx)(st:Stmt)(t:TS):Prop:=
 ∀(pins:List (Addr×Obj))(s:Ap)(σ:St)(H:Hp)(D:Ends),Inv X pins σ H s->t D σ H->A9 (Bh X.prog X.w) X.A (exec st X.env) (SP X pins D) X.xe s
def PSs(X:Cx)(st:List Stmt)(t:TS):Prop:=
 ∀(pins:List (Addr×Obj))(s:Ap)(σ:St)(H:Hp)(D:Ends),Inv X pins σ H s->t D σ H->A9 (Bh X.prog X.w) X.A (execs st X.env) (SP X pins D) X.xe s
theorem a9(h:A9 M A t Q E s)(hQ:∀a s,Q a s->Q' a s):A9 M A t Q' E s:=Dh h hQ λ_ _ x=>x
section
variable{X:Cx}
theorem VH(ha:PE X a ta)(hb:PE X b tb){σ:St}{R:V->V->Hp->Prop}(I:Inv X pins σ H s)(h:ta σ H λx H1=>tb σ H1 λy H2=>R x y H2)
  {α:Type} {Q:α->Ap->Prop} {f:Ak->Ak->Sem α}
  (hf:∀v u s2 x y H2,Inv X pins σ H2 s2->RelV x v->RelV y u->R x y H2->A9 (Bh X.prog X.w) X.A (f v u) Q X.xe s2):
  A9 (Bh X.prog X.w) X.A (eval a X.env) (λv s₁=>A9 (Bh X.prog X.w) X.A (eval b X.env) (λu s₂=>A9 (Bh X.prog X.w) X.A (f v u) Q X.xe s₂) X.xe s₁) X.xe s:=by
 refine a9 (ha pins s σ H _ I h) λv s1 ⟨x,H1,I1,r1,q1⟩=>?_;refine a9 (hb pins s1 σ H1 _ I1 q1) λu s2 ⟨y,H2,I2,r2,q2⟩=>?_;exact hf v u s2 x y H2 I2 r1 r2 q2
def cq(i:Nat):TE:=λσ H Q=>∃v,σ[i]?=ae (ae v)/\Q v H
def tC(v:V):TE:=λ_ H Q=>Q v H
theorem fW{pos:Pos}(hN:X.N[i]?=ae x)(hv:fj X.env.scope x)(hd:(x==("__debug__":Str))=aj:=by decide)(hcd:(x==("__classdict__":Str))=aj:=by decide):PE X (.Name x pos) (cq i):=by
 intro pins s σ H Q I h;obtain⟨v,e,h⟩:=h;obtain⟨m,hn,hl⟩:=I.loc;obtain⟨u,r,l⟩:=hl i x v hN e hv;have fin:EP X pins σ Q u s:=⟨v,H,I,r,h⟩;rcases l with⟨hk,hm⟩|⟨hk,c,hc,hcell⟩
 ·exact wpAny_Name (wpAny_loadName_local I.ok.kind hk hn hm fin) hd
 ·rcases hk with hk|hk
  ·exact wpAny_Name (wpAny_loadName_cell I.ok.kind hk hc hcell fin) hd
  ·exact wpAny_Name (wpAny_loadName_free I.ok.kind hk hc hcell fin hcd) hd
theorem df{i j pos}:PE X (.Constant (.int i) j pos) (tC (.int i)):=λ_ _ _ H _ I h=>wpAny_Constant_int ⟨.int i,H,I.tok _,⟨_,rfl⟩,h⟩
theorem Pp{b j pos}:PE X (.Constant (.bool b) j pos) (tC (.bl b)):=λ_ _ _ H _ I h=>Constant_bool ⟨.bl b,H,I,rfl,h⟩
theorem rP{j pos}:PE X (.Constant .none j pos) (tC .non):=λ_ _ _ H _ I h=>Constant_none ⟨.non,H,I,rfl,h⟩
theorem J5{x j pos}:PE X (.Constant (.str x) j pos) (tC (.str x)):=λ_ _ _ H _ I h=>Calls.Constant_str ⟨.str x,H,I.tok _,⟨_,rfl⟩,h⟩
def Gl(X:Cx)(x:Str):Prop:=X.env.kindOf x=ae .globalImplicit
theorem CH{σ:St}(I:Inv X pins σ H s)(hg:Gl X x)(hm:X.mg x=ae u)(h:Q u s)
  (hd:(x==("__debug__":Str))=aj:=by decide):A9 (Bh X.prog X.w) X.A (eval (.Name x pos) X.env) Q E s:=
 Calls.Name_function_global I.ok.kind hg (Calls.loadGlobal_global (by rw[I.ok.glob];exact I.mod.glob.keeps I.bk) hm h) hd
theorem mD{E:Ak->Ap->Prop}{σ:St}{u:Ak}{pos:Pos}{Q:Ak->Ap->Prop}(I:Inv X pins σ H s)(hg:Gl X x)(hm:X.mg x=ah)(hv:By x=ae u)(h:Q u s)
  (hn:x≠"__name__":=by decide) (hd:(x==("__debug__":Str))=aj:=by decide):A9 (Bh X.prog X.w) X.A (eval (.Name x pos) X.env) Q E s:=by
 obtain⟨mb,h1,h2⟩:=I.mod.blt;exact Calls.Name_function_global I.ok.kind hg (Calls.loadGlobal_builtin (by rw[I.ok.glob];exact I.mod.glob.keeps I.bk) hm (by rw[I.ok.blt];exact h1.keeps I.bk) ((h2 x hn).trans hv) h) hd
theorem pM(hg:Gl X x)(hm:X.mg x=ae u)(r:RelV v u)(hd:(x==("__debug__":Str))=aj:=by decide):PE X (.Name x pos) (tC v):=
 λ_ _ _ H _ I h=>CH I hg hm ⟨v,H,I,r,h⟩ hd
theorem vP{pos:Pos}(hg:Gl X x)(hm:X.mg x=ah)(hv:By x=ae u)(r:RelV v u)(hn:x≠"__name__":=by decide)(hd:(x==("__debug__":Str))=aj:=by decide):PE X (.Name x pos) (tC v):=
 λ_ _ _ H _ I h=>mD I hg hm hv ⟨v,H,I,r,h⟩ hn hd
variable{a b:Expr}{ta tb:TE}{pos:Pos}
def PC(X:Cx)(op:CmpOp)(a b:Expr)(t:TE):Prop:=
 ∀(pins:List (Addr×Obj))(s:Ap)(σ:St)(H:Hp)(Q:VK),Inv X pins σ H s->t σ H Q->
  A9 (Bh X.prog X.w) X.A (eval a X.env) (λv s₁=>A9 (Bh X.prog X.w) X.A (eval b X.env) (λu s₂=>A9 (Bh X.prog X.w) X.A (Bx op v u) (EP X pins σ Q) X.xe s₂) X.xe s₁) X.xe s
theorem yN(b)(h:op≠.In)(h2:op≠.NotIn):Cf op b=aj:=by
 have e1:(op==CmpOp.In)=aj:=by cases op<;>first|rfl|exact absurd rfl h
 have e2:(op==CmpOp.NotIn)=aj:=by cases op<;>first|rfl|exact absurd rfl h2
 cases b<;>simp[Cf,e1,e2]
def tB(t:TE):TT:=λσ H Q=>t σ H λx H1=>∃c,x=.bl c/\Q c H1
theorem yR(h:PC X op a b t)(h1:Cf op b=aj:=by first|exact yN _ ∎ ∎|rfl):PE X (.Compare a [op] [b] pos) t:=λpins s σ H Q I hw=>wpAny_Compare1 (h pins s σ H Q I hw) h1
theorem FA(h:PC X op a b t)(h1:Cf op b=aj:=by first|exact yN _ ∎ ∎|rfl):PT X (.Compare a [op] [b] pos) (tB t):=by
 intro pins s σ H Q I hw;refine wpAny_isTrue_Compare1 (a9 (h pins s σ H _ I hw) λv s1 h1=>a9 h1 λu s2 h2=>a9 h2 λc s3 ⟨x,H1,I1,r1,q1⟩=>?_) h1;obtain⟨d,rfl,q⟩:=q1;cases r1;exact D0 ⟨H1,I1,q⟩
theorem OT(h:PE X e t)(he:∀whole,isTrue e X.env whole=(do let v <-whole;standAt e.pos;Fz [v] (truthy v)):=by intro _;rfl):PT X e (tB t):=by
 intro pins s σ H Q I hw;refine isTrue_plain (a9 (h pins s σ H _ I hw) λv s1 ⟨x,H1,I1,r1,q1⟩=>?_) (he _);obtain⟨d,rfl,q⟩:=q1;cases r1;exact D0 ⟨H1,I1,q⟩
variable{tA tB':TT}{aR:List Expr}
def ou(t u:TT):TT:=λσ H Q=>t σ H λc H1=>if c=ai then u σ H1 Q else Q aj H1
def FG(t u:TT):TT:=λσ H Q=>t σ H λc H1=>if c=ai then Q ai H1 else u σ H1 Q
def oW(t:TT):TT:=λσ H Q=>t σ H λc H1=>Q (!c) H1
theorem GB(ha:PT X a tA):PW X (.BoolOp .And [a] pos) tA:=by
 intro wh pins s σ H Q I h;refine isTrue_and (a9 (ha pins s σ H Q I h) λc s1 e=>?_);cases c with
 |true=>exact isTrue_and_nil e
 |false=>exact e
theorem RU(ha:PT X a tA):PW X (.BoolOp .Or [a] pos) tA:=by
 intro wh pins s σ H Q I h;refine isTrue_or (a9 (ha pins s σ H Q I h) λc s1 e=>?_);cases c with
 |false=>exact isTrue_or_nil e
 |true=>exact e
theorem Iq(ha:PT X a tA)(hb:PW X (.BoolOp .And (b::aR) pos) tB'):PW X (.BoolOp .And (a::b::aR) pos) (ou tA tB'):=by
 intro wh pins s σ H Q I h;refine isTrue_and (a9 (ha pins s σ H _ I h) λc s1 ⟨H1,I1,q1⟩=>?_);cases c with
 |true=>exact hb wh pins s1 σ H1 Q I1 q1
 |false=>exact⟨H1,I1,q1⟩
theorem T5(ha:PT X a tA)(hb:PW X (.BoolOp .Or (b::aR) pos) tB'):PW X (.BoolOp .Or (a::b::aR) pos) (FG tA tB'):=by
 intro wh pins s σ H Q I h;refine isTrue_or (a9 (ha pins s σ H _ I h) λc s1 ⟨H1,I1,q1⟩=>?_);cases c with
 |true=>exact⟨H1,I1,q1⟩
 |false=>exact hb wh pins s1 σ H1 Q I1 q1
theorem Nn(ha:PT X a tA):PT X (.UnaryOp .Not a pos) (oW tA):=by
 intro pins s σ H Q I h;exact isTrue_not (ha pins s σ H (λc H1=>Q (!c) H1) I h)
def CT(ta tb:TE):TE:=λσ H Q=>ta σ H λx H1=>∃c,x=.bl c/\if c=ai then tb σ H1 Q else Q (.bl aj) H1
def nO(ta tb:TE):TE:=λσ H Q=>ta σ H λx H1=>∃c,x=.bl c/\if c=ai then Q (.bl ai) H1 else tb σ H1 Q
def zq(ta:TE):TE:=λσ H Q=>ta σ H λx H1=>∃c,x=.bl c/\Q (.bl (!c)) H1
theorem OE{op}(h:PE X a t):PE X (.BoolOp op [a] pos) t:=λpins s σ H Q I hw=>BoolOp_one (h pins s σ H Q I hw)
theorem Qr(ha:PE X a ta)(hb:PE X (.BoolOp .And (b::aR) pos) tb):PE X (.BoolOp .And (a::b::aR) pos) (CT ta tb):=by
 intro pins s σ H Q I h;refine BoolOp_and (a9 (ha pins s σ H _ I h) λv s1 ⟨x,H1,I1,r1,q1⟩=>?_);obtain⟨c,rfl,q1⟩:=q1;cases r1;refine D0 ?_;cases c with
 |true=>exact hb pins s1 σ H1 Q I1 q1
 |false=>exact⟨.bl aj,H1,I1,rfl,q1⟩
theorem O4(ha:PE X a ta)(hb:PE X (.BoolOp .Or (b::aR) pos) tb):PE X (.BoolOp .Or (a::b::aR) pos) (nO ta tb):=by
 intro pins s σ H Q I h;refine BoolOp_or (a9 (ha pins s σ H _ I h) λv s1 ⟨x,H1,I1,r1,q1⟩=>?_);obtain⟨c,rfl,q1⟩:=q1;cases r1;refine D0 ?_;cases c with
 |false=>exact hb pins s1 σ H1 Q I1 q1
 |true=>exact⟨.bl ai,H1,I1,rfl,q1⟩
theorem Rw(ha:PE X a ta):PE X (.UnaryOp .Not a pos) (zq ta):=by
 intro pins s σ H Q I h;refine UnaryOp_ (a9 (ha pins s σ H _ I h) λv s1 ⟨x,H1,I1,r1,q1⟩=>?_);obtain⟨c,rfl,q1⟩:=q1;cases r1;exact not_of (D0 ⟨.bl (!c),H1,I1,rfl,q1⟩)
def EE(t:TT)(ta tb:TE):TE:=λσ H Q=>t σ H λc H1=>if c=ai then ta σ H1 Q else tb σ H1 Q
theorem Oz(hc:PT X c tA)(ha:PE X a ta)(hb:PE X b tb):PE X (.IfExp c a b pos) (EE tA ta tb):=by
 intro pins s σ H Q I h;refine wpAny_IfExp (a9 (hc pins s σ H _ I h) λd s1 ⟨H1,I1,q1⟩=>?_);cases d with
 |true=>exact ha pins s1 σ H1 Q I1 q1
 |false=>exact hb pins s1 σ H1 Q I1 q1
end
def SqL(K:Ah)(H:Hp)(a:Addr)(xs:List V):Prop:=
 Rd H a (.lst xs) \/
  ∃(o:Obj)(its:Array Ak)(n:Nat),K.lookup a=ae o/\o.cls=.type "list"/\o.dict=ah/\o.data=.seq its n/\its.size<=Az/\Vals xs its.toList
def SqT(K:Ah)(H:Hp)(a:Addr)(xs:List V):Prop:=
 Rd H a (.tup xs) \/
  ∃(o:Obj)(its:Array Ak)(n:Nat),K.lookup a=ae o/\o.cls=.type "tuple"/\o.data=.seq its n/\its.size<=Az/\Vals xs its.toList
def vK:Ak->Option V
 |.none=>ae .non
 |.bool b=>ae (.bl b)
 |.int i _=>ae (.int i)
 |.str x _=>ae (.str x)
 |.bytes b _=>ae (.byt b)
 |.float b _=>ae (.flt b)
 |.ref a=>ae (.ref a)
 |.type n=>ae (.ty n)
 |_=>ah
theorem RelV.abs(r:RelV x u):vK u=ae x:=by
 cases x with
 |non=>cases r;rfl
 |bl _=>cases r;rfl
 |int _=>obtain⟨t,rfl⟩:=r;rfl
 |str _=>obtain⟨t,rfl⟩:=r;rfl
 |byt _=>obtain⟨t,rfl⟩:=r;rfl
 |flt _=>obtain⟨t,rfl⟩:=r;rfl
 |ref _=>cases r;rfl
 |ty _=>cases r;rfl
theorem RelV.inj(r:RelV x u)(q:RelV y u):x=y:=A8 (r.abs.symm.trans q.abs)
theorem Vals.inj:∀{xs ys:List V}{us:List Ak},Vals xs us->Vals ys us->xs=ys
 |_,_,_,.nil,.nil=>rfl
 |_,_,_,.cons r t,.cons r' t'=>by rw[r.inj r',Vals.inj t t']
section
variable{X:Cx}{pins:List (Addr×Obj)}{σ:St}{H:Hp}{s:Ap}{a:Addr}{xs ys:List V}
theorem SqL.of{K:Ah}(h:H a=ae (.lst xs)):SqL K H a xs:=.inl (.inl h)
theorem SqT.of{K:Ah}(h:H a=ae (.tup xs)):SqT K H a xs:=.inl (.inl h)
theorem Inv.list(I:Inv X pins σ H s)(h:SqL X.K H a xs):∃its:List Ak,Vals xs its/\PlainL s.heap a its.toArray/\xs.length<=Az:=by
 rcases h with h|⟨o,its,n,hk,hc,hd,hs,hz,r⟩
 ·obtain⟨z,its,n,r,e⟩:=h.ok I.hok;exact⟨its,r,⟨_,n,e,rfl,rfl,rfl⟩,z⟩
 ·refine⟨its.toList,r,⟨o,n,I.kIn a o hk,hc,hd,by simpa using hs⟩,?_⟩;have e:=r.length;simp only[Df]at e;omega
theorem Inv.tuple(I:Inv X pins σ H s)(h:SqT X.K H a xs):∃its:List Ak,Vals xs its/\IsTup s.heap a its.toArray/\xs.length<=Az:=by
 rcases h with h|⟨o,its,n,hk,hc,hs,hz,r⟩
 ·obtain⟨z,its,r,p⟩:=h.ok I.hok;exact⟨its,r,p.tup,z⟩
 ·refine⟨its.toList,r,⟨o,I.kIn a o hk,hc,n,by simpa using hs⟩,?_⟩;have e:=r.length;simp only[Df]at e;omega
theorem Inv.list_inj(I:Inv X pins σ H s)(h:SqL X.K H a xs)(h':SqL X.K H a ys):xs=ys:=by
 obtain⟨its,r,⟨o,n,e,_,_,d⟩,_⟩:=I.list h;obtain⟨its',r',⟨o',n',e',_,_,d'⟩,_⟩:=I.list h';rw[e]at e';cases e';rw[d]at d';injection d' with d1 _;have:its=its':=by simpa using congrArg Array.toList d1
 subst this;exact r.inj r'
theorem Inv.tuple_inj(I:Inv X pins σ H s)(h:SqT X.K H a xs)(h':SqT X.K H a ys):xs=ys:=by
 obtain⟨its,r,⟨o,e,_,n,d⟩,_⟩:=I.tuple h;obtain⟨its',r',⟨o',e',_,n',d'⟩,_⟩:=I.tuple h';rw[e]at e';cases e';rw[d]at d';injection d' with d1 _;have:its=its':=by simpa using congrArg Array.toList d1
 subst this;exact r.inj r'
end
abbrev Cx.wish(X:Cx)(E:Ak->Ap->Prop):Cx:={ X with xe:=E}
abbrev Cx.nox(X:Cx):Cx:=X.wish λ_ _=>False
theorem Cx.Ok.wish{X:Cx}(ok:X.Ok)(E):(X.wish E).Ok:=
 ⟨ok.mod,ok.kind,ok.glob,ok.blt,ok.above,ok.inj,ok.has,ok.cab,ok.hd,ok.frames,ok.stk,ok.exf,ok.bs,ok.bsz,ok.noex,ok.exfs,ok.funs,ok.frf⟩
theorem Cx.Ok.unwish{X:Cx}(ok:(X.wish E).Ok):X.Ok:=
 ⟨ok.mod,ok.kind,ok.glob,ok.blt,ok.above,ok.inj,ok.has,ok.cab,ok.hd,ok.frames,ok.stk,ok.exf,ok.bs,ok.bsz,ok.noex,ok.exfs,ok.funs,ok.frf⟩
section
variable{X:Cx}{pins:List (Addr×Obj)}{σ:St}{H:Hp}{s:Ap}{E:Ak->Ap->Prop}
theorem Inv.wish(I:Inv X pins σ H s)(E):Inv (X.wish E) pins σ H s:=⟨I.ok.wish E,I.os,I.bare,I.base,I.loc,I.cell,I.free,I.freeC,I.pin,I.hok,I.len⟩
theorem Inv.unwish(I:Inv (X.wish E) pins σ H s):Inv X pins σ H s:=⟨I.ok.unwish,I.os,I.bare,I.base,I.loc,I.cell,I.free,I.freeC,I.pin,I.hok,I.len⟩
theorem SP.unwish(h:SP (X.wish E) pins D f s'):SP X pins D f s':=by
 cases f with
 |next=>obtain⟨σ',H',I,q⟩:=h;exact⟨σ',H',I.unwish,q⟩
 |brk=>obtain⟨σ',H',I,q⟩:=h;exact⟨σ',H',I.unwish,q⟩
 |cont=>obtain⟨σ',H',I,q⟩:=h;exact⟨σ',H',I.unwish,q⟩
 |ret u=>obtain⟨v,σ',H',I,r,q⟩:=h;exact⟨v,σ',H',I.unwish,r,q⟩
theorem PSs.nox{st:List Stmt}(h:PSs X.nox st t):PSs X st t:=λpins s σ H D I hw=>
 Dh (h pins s σ H D (I.wish _) hw) (λ_ _ q=>q.unwish) λ_ _ z=>False.elim z
end
section
variable{X:Cx}{st:Stmt}{aR:List Stmt}{t u:TS}{e:Expr}{te:TE}{pos:Pos}
def AL:TS:=λD σ H=>D.nx σ H
def pP(t u:TS):TS:=λD σ H=>t {D with nx:=u D} σ H
theorem rT:PSs X [] AL:=λ_ _ σ H _ I h=>wpAny_execs_nil ⟨σ,H,I,h⟩
theorem iT(h1:PS X st t)(h2:PSs X aR u):PSs X (st::aR) (pP t u):=by
 intro pins s σ H D I h;refine wpAny_execs_cons (a9 (h1 pins s σ H {D with nx:=u D} I h) λf s1 q=>?_);cases f with
 |next=>
  obtain⟨σ',H',I',q⟩:=q;exact h2 pins s1 σ' H' D I' q
 |ret v=>exact q
 |brk=>exact q
 |cont=>exact q
theorem m7(h1:PS X st t):PSs X [st] t:=by
 intro pins s σ H D I h;refine wpAny_execs_cons (a9 (h1 pins s σ H D I h) λf s1 q=>?_);cases f with
 |next=>exact wpAny_execs_nil q
 |ret v=>exact q
 |brk=>exact q
 |cont=>exact q
theorem Inv.quiet{σ:St}(I:Inv X pins σ H s):interactive X.env=aj:=by simp[interactive,I.ok.kind]
def oz(te:TE):TS:=λD σ H=>te σ H λ_ H1=>D.nx σ H1
theorem rV(he:PE X e te)(hs:Dw e ah pos.line X.env=pure aj:=by rfl):PS X (.Expr e pos) (oz te):=by
 intro pins s σ H D I h;exact wpAny_Expr_any (a9 (he pins s σ H _ I h) λv s1 ⟨x,H1,I1,r1,q1⟩=>⟨σ,H1,I1,q1⟩) I.quiet hs
def jR(te:TE):TS:=λD σ H=>te σ H D.rt
theorem l7(he:PE X e te):PS X (.Return (ae e) pos) (jR te):=by
 intro pins s σ H D I h;exact wpAny_Return_some (a9 (he pins s σ H _ I h) λv s1 ⟨x,H1,I1,r1,q1⟩=>⟨x,σ,H1,I1,r1,q1⟩)
def oj(c:TT)(t u:TS):TS:=λD σ H=>c σ H λb H1=>if b=ai then t D σ H1 else u D σ H1
theorem qL(hc:PT X c tc)(ha:PSs X a t)(hb:PSs X b u):PS X (.If c a b pos) (oj tc t u):=by
 intro pins s σ H D I h;refine wpAny_If (a9 (hc pins s σ H _ I h) λd s1 ⟨H1,I1,q1⟩=>?_);cases d with
 |true=>exact ha pins s1 σ H1 D I1 q1
 |false=>exact hb pins s1 σ H1 D I1 q1
end
abbrev TG:=V->St->Hp->(St->Hp->Prop)->Prop
abbrev iE:=List V->St->Hp->(St->Hp->Prop)->Prop
def PG(X:Cx)(target:Expr)(t:TG):Prop:=
 ∀(pins:List (Addr×Obj))(s:Ap)(σ:St)(H:Hp)(v:V)(u:Ak)(Q:St->Hp->Prop),Inv X pins σ H s->RelV v u->t v σ H Q->
  A9 (Bh X.prog X.w) X.A (F4 target X.env u) (λ_ s'=>∃σ' H',Inv X pins σ' H' s'/\Q σ' H') X.xe s
def p7(X:Cx)(ts:List Expr)(t:iE):Prop:=
 ∀(pins:List (Addr×Obj))(s:Ap)(σ:St)(H:Hp)(vs:List V)(us:List Ak)(Q:St->Hp->Prop),Inv X pins σ H s->Vals vs us->t vs σ H Q->
  A9 (Bh X.prog X.w) X.A (assignInOrder ((Dc ts X.env).map (·.2)) us) (λ_ s'=>∃σ' H',Inv X pins σ' H' s'/\Q σ' H') X.xe s
abbrev mh:=V->V->V->Hp->(Hp->Prop)->Prop
def pU(X:Cx)(t:mh):Prop:=
 ∀(pins:List (Addr×Obj))(s:Ap)(σ:St)(H:Hp)(o i v:V)(ov iv u:Ak)(Q:Hp->Prop),Inv X pins σ H s->RelV o ov->RelV i iv->RelV v u->t o i v H Q->
  A9 (Bh X.prog X.w) X.A (setItem ov iv u) (λ_ s'=>∃H',Inv X pins σ H' s'/\Q H') X.xe s
section
variable{X:Cx}{pos:Pos}
def g9(i:Nat):TG:=λv σ H Q=>Q (σ.set i (ae v)) H
theorem Qf(hN:X.N.Nodup)(hi:X.N[i]?=ae x)(hx:ki X.env.scope x)(hf:X.fn x=ai\/X.env.scope.names.lookup x=ae .local:=by first|exact .inl rfl|exact .inr rfl|assumption):PG X (.Name x pos) (g9 i):=by
 intro pins s σ H v u Q I r h;exact wpAny_assign_Name (EA I hN hi hx r (λs' I'=>⟨_,H,I',h⟩) hf)
def mf:iE:=λvs σ H Q=>vs=[]/\Q σ H
def qu(t:TG)(u:iE):iE:=λvs σ H Q=>∃v r,vs=v::r/\t v σ H λσ' H'=>u r σ' H' Q
theorem CK:p7 X [] mf:=by
 intro pins s σ H vs us Q I r h;obtain⟨e,h⟩:=h;subst e;cases r;exact assignInOrder_nil ⟨σ,H,I,h⟩
theorem ub(h1:PG X e t)(h2:p7 X es u)
  (hs:(Dc (e::es) X.env).map (·.2)=F4 e X.env::(Dc es X.env).map (·.2):=by rfl):p7 X (e::es) (qu t u):=by
 intro pins s σ H vs us Q I r h;obtain⟨v,vr,e1,h⟩:=h;subst e1;cases r with
 |cons r rr=>
  rw[hs];refine assignInOrder_cons (a9 (h1 pins s σ H _ _ _ I r h) λ_ s1 ⟨σ1,H1,I1,q1⟩=>?_);exact h2 pins s1 σ1 H1 _ _ Q I1 rr q1
def jX(K:Ah)(n:Nat)(t:iE):TG:=λv σ H Q=>∃a xs,v=.ref a/\SqT K H a xs/\xs.length=n/\t xs σ H Q
theorem FI{k:Nat}(hc:X.calm=ai)(h:p7 X es t)
  (hn:(Dc es X.env).length=n:=by rfl) (hst:(Dc es X.env).findIdx? (·.1)=ah:=by rfl):PG X (.Tuple es k pos) (jX X.K n t):=by
 intro pins s σ H v u Q I r hw;obtain⟨a,xs,e1,hq,hl,hw⟩:=hw;subst e1;cases r;obtain⟨its,rv,ht,hz⟩:=I.tuple hq;refine assign_Tuple_tuple (I.ok.hd hc) ht (by simp[hn,<-hl,rv.length]) hst λh' hx=>?_;have I1:Inv X pins σ H {s with heap:=h'}:=I.kept (t':=s.toks) λb o e=>hx b o (Bk (A0 e)) e;exact h pins _ σ H xs _ Q I1 (by simpa using rv) hw
def jJ(to ti:TE)(t:mh):TG:=λv σ H Q=>to σ H λo H1=>ti σ H1 λi H2=>t o i v H2 λH3=>Q σ H3
theorem nG(ho:PE X o to)(hi:PE X i ti)(hs:pU X t)
  (ha:∀v,F4 (.Subscript o i pos) X.env v=(do
   let ov <-Fz [v] (eval o X.env)
   let iv <-Fz [v,ov] (eval i X.env)
   standAt pos
   Fz [v,ov,iv] (setItem ov iv v)
   release [v,ov,iv] []):=by intro _;rfl):PG X (.Subscript o i pos) (jJ to ti t):=by
 intro pins s σ H v u Q I r h;rw[ha];refine Ad (Dy (a9 (ho pins s σ H _ I h) λov s1 ⟨x,H1,I1,r1,q1⟩=>?_));refine Ad (Dy (a9 (hi pins s1 σ H1 _ I1 q1) λiv s2 ⟨y,H2,I2,r2,q2⟩=>?_));refine Ad (wpAny_standAt (Ad (Dy (a9 (hs pins s2 σ H2 x y v ov iv u _ I2 r1 r2 r q2) λ_ s3 ⟨H3,I3,q3⟩=>?_))));exact wpAny_release ⟨σ,H3,I3,q3⟩
def dE(te:TE)(g:TG):TS:=λD σ H=>te σ H λx H1=>g x σ H1 D.nx
theorem mI(he:PE X e te)(hg:PG X tg g)(hs:swapsWithSole [tg] e pos.line X.env=pure aj:=by rfl)(hw:swappedStores [tg] e X.env=pure ah:=by rfl)
  (h1:(Dc [tg] X.env).map (·.2)=[F4 tg X.env]:=by rfl):PS X (.Assign [tg] e pos) (dE te g):=by
 intro pins s σ H D I h;refine wpAny_Assign_stores (a9 (he pins s σ H _ I h) λv s1 ⟨x,H1,I1,r1,q1⟩=>?_) hs hw;rw[h1];exact a9 (hg pins s1 σ H1 x v _ I1 r1 q1) λ_ s2 q=>q
theorem jF(hN:X.N.Nodup)(hi:X.N[i]?=ae x)(hx:ki X.env.scope x)(he:PE X e te)(hs:Dw e (ae (.Name x pos')) pos.line X.env=pure aj:=by rfl)(hf:X.fn x=ai\/X.env.scope.names.lookup x=ae .local:=by first|exact .inl rfl|exact .inr rfl|assumption):
  PS X (.Assign [.Name x pos'] e pos) (dE te (g9 i)):=by
 intro pins s σ H D I h;refine wpAny_Assign_Name (a9 (he pins s σ H _ I h) λv s1 ⟨y,H1,I1,r1,q1⟩=>?_) hs;exact EA I1 hN hi hx r1 (λs2 I2=>⟨_,H1,I2,q1⟩) hf
end
structure It where
 go:Nat->Hp->Prop
 yld:Nat->Hp->V->Hp->Prop
 stop:Nat->Hp->Prop
def dF(X:Cx)(pins:List (Addr×Obj))(H:Hp)(b:Addr):Prop:=
 H b=ah/\b≠X.env.locals/\b∉X.fs/\(b∈X.ex\/X.s₀.heap.objs.size<=b)/\(∀x c,X.env.cells.lookup x=ae c->c≠b)/\∀p∈X.pn++pins,p.1≠b
theorem Inv.fpOk{σ:St}{b:Addr}(I:Inv X pins σ H s)(hb:s.heap.objs.size<=b)(hn:H' b=ah):dF X pins H' b:=by
 refine⟨hn,Fg (Bo I.lt hb),I.nofs hb,.inr (A2 I.sz hb),λx c e z=>?_,λp hp z=>?_⟩
 ·obtain⟨v,q⟩:=I.cell x c e;exact absurd (Bo q.lt (by rw[z];exact hb)) (Ex _)
 ·exact absurd (Bo (A0 (I.pin p hp).1) (by rw[z];exact hb)) (Ex _)
structure Turn(P:Bg)(w:B3)(K:Ah)(tg:Expr)(J:It)(fp:List Addr)(it:Addr)(tn:Nat->Heap->Prop):Prop where
 mem:it∈fp
 obj:∀i h,tn i h->∀b∈fp,∃o,h.get? b=ae o/\∀v,o.data≠.cell v
 keep:∀i h h',tn i h->(∀b∈fp,∀o,h.get? b=ae o->h'.get? b=ae o)->tn i h'
 item:∀(X:Cx),X.prog=P->X.w=w->X.K=K->X.calm=ai->∀(i:Nat)(pins:List (Addr×Obj))(s:Ap)(σ:St)(H:Hp)(E:Ak->Ap->Prop),Inv X pins σ H s->(∀b∈fp,dF X pins H b)->tn i s.heap->J.go i H->
  A9 (Bh P w) X.A (pyNext (.ref it)) (λr s1=>∃u,r=ae u /\
   A9 (Bh P w) X.A (letOwnedTupleGo tg (.ref it) u) (λ_ s2=>∃x H',Inv X pins σ H' s2/\RelV x u/\J.yld i H x H'/\tn (i+1) s2.heap/\∀b∈fp,H' b=ah) E s1) E s
 done:∀(X:Cx),X.prog=P->X.w=w->X.K=K->X.calm=ai->∀(i:Nat)(pins:List (Addr×Obj))(s:Ap)(σ:St)(H:Hp)(E:Ak->Ap->Prop),Inv X pins σ H s->(∀b∈fp,dF X pins H b)->tn i s.heap->J.stop i H->
  A9 (Bh P w) X.A (pyNext (.ref it)) (λr s1=>r=ah/\Inv X pins σ H s1) E s
 self:∀(A:Cj)(i:Nat)(s:Ap)(Q:Ak->Ap->Prop)(E:Ak->Ap->Prop),tn i s.heap->Q (.ref it) s->A9 (Bh P w) A (pyIter (.ref it)) Q E s
abbrev TI:=St->Hp->(It->Hp->Prop)->Prop
def zj(X:Cx)(pins:List (Addr×Obj))(σ:St)(tg:Expr)(R:It->Hp->Prop)(itv:Ak)(s2:Ap):Prop:=
 ∃(it:Addr)(fp:List Addr)(tn:Nat->Heap->Prop)(J:It)(H':Hp),itv=.ref it/\Inv X pins σ H' s2/\Turn X.prog X.w X.K tg J fp it tn/\tn 0 s2.heap/\(∀b∈fp,dF X pins H' b)/\R J H'
def PI(X:Cx)(tg iter:Expr)(wi:TI):Prop:=
 ∀(pins:List (Addr×Obj))(s:Ap)(σ:St)(H:Hp)(R:It->Hp->Prop),Inv X pins σ H s->wi σ H R->
  A9 (Bh X.prog X.w) X.A (eval iter X.env) (λv s1=>A9 (Bh X.prog X.w) X.A (pyIter v) (zj X pins σ tg R) X.xe s1) X.xe s
theorem r9(ho:s.heap.get? it=ae o)(hc:o.cls=.type n)(hd:o.data=.fields vs)
  (hn:["enumerate","zip","dict_itemiterator","dict_reverseitemiterator","odict_iterator","itertools.zip_longest","itertools.pairwise"].contains n=aj) (hQ:Q () s):A9 M A (letOwnedTupleGo tg (.ref it) u) Q E s:=by
 unfold letOwnedTupleGo;cases tg<;>first
  |exact Ay hQ
  | (cases u<;>first
    |exact Ay hQ
    | (refine Ad (wpAny_load ho ?_)
       rw[hc,hd];show A9 M A (if (["enumerate","zip","dict_itemiterator","dict_reverseitemiterator","odict_iterator","itertools.zip_longest","itertools.pairwise"].contains n&&vs[0]?==ae (rawInt _))=ai then _ else _) Q E s;rw[if_neg (by intro h;rw[hn,Bool.false_and]at h;cases h)];exact Ay hQ))
def HR(K:Ah)(a:Addr):It:=
 ⟨λi H=>∃xs x,SqL K H a xs/\xs[i]?=ae x,λi H x H'=>H'=H/\∀xs,SqL K H a xs->xs[i]?=ae x,λi H=>∃xs,SqL K H a xs/\xs.length<=i⟩
def CZ(K:Ah)(a:Addr):It:=
 ⟨λi H=>∃xs x,SqT K H a xs/\xs[i]?=ae x,λi H x H'=>H'=H/\∀xs,SqT K H a xs->xs[i]?=ae x,λi H=>∃xs,SqT K H a xs/\xs.length<=i⟩
def tI(lo:Int)(n:Nat):It:=⟨λi _=>i < n,λi H x H'=>H'=H/\x=.int (lo+i),λi _=>n<=i⟩
theorem Q4{K:Ah}(a it):Turn P w K tg (HR K a) [it] it (λi h=>h.IsListIter it a i) where
 mem:=by simp
 obj:=λi h st b hb=>by
  have e:b=it:=by simpa using hb
  subst e;obtain⟨o,e,c,d⟩:=st;exact⟨o,e,λv z=>by rw[d]at z;cases z⟩
 keep:=λi h h' st k=>st.at λo e=>k it (by simp) o e
 item:=by
  intro X hP hw hK hc i pins s σ H E I hf st hg;subst hP hw hK;obtain⟨xs,x,hq,hx⟩:=hg;obtain⟨its,rv,p,hz⟩:=I.list hq;obtain⟨u,hu,ru⟩:=rv.get hx;obtain⟨f0,f1,f2,f3,f4,f5⟩:=hf it (by simp);refine wpAny_pyNext_list_item st p.isList (x:=u) (by simpa using hu) λh' st' sb=>?_;have I1:Inv X pins σ H {s with heap:=h'}:=I.turned (t':=s.toks) (λb o hb e=>(sb.2 b hb).trans e) f0 f1 f3 f4 f5;obtain⟨o,e,c,d⟩:=id st';exact⟨u,rfl,r9 (s:={ s with heap:=h'}) e c d ∎ ⟨x,H,I1,ru,⟨rfl,λys hy=>by rw[I.list_inj hy hq];exact hx⟩,st',λb hb=>(hf b hb).1⟩⟩
 done:=by
  intro X hP hw hK hc i pins s σ H E I hf st hg;subst hP hw hK;obtain⟨xs,hq,hx⟩:=hg;obtain⟨its,rv,p,hz⟩:=I.list hq;obtain⟨f0,f1,f2,f3,f4,f5⟩:=hf it (by simp);have hl:=rv.length;exact wpAny_pyNext_list_end (I.ok.hd hc) st p.isList (by simp;omega) λh' eb=>⟨rfl,I.turned (t':=s.toks) (λb o hb e=>eb b o hb e) f0 f1 f3 f4 f5⟩
 self:=λ_ _ _ _ _ st h=>wpAny_pyIter_listiter st h
theorem OX{K:Ah}(a it):Turn P w K tg (CZ K a) [it] it (λi h=>h.IsTupleIter it a i) where
 mem:=by simp
 obj:=λi h st b hb=>by
  have e:b=it:=by simpa using hb
  subst e;obtain⟨o,e,c,d⟩:=st;exact⟨o,e,λv z=>by rw[d]at z;cases z⟩
 keep:=λi h h' st k=>st.at λo e=>k it (by simp) o e
 item:=by
  intro X hP hw hK hc i pins s σ H E I hf st hg;subst hP hw hK;obtain⟨xs,x,hq,hx⟩:=hg;obtain⟨its,rv,p,hz⟩:=I.tuple hq;obtain⟨u,hu,ru⟩:=rv.get hx;obtain⟨f0,f1,f2,f3,f4,f5⟩:=hf it (by simp);refine wpAny_pyNext_tuple_item st (show s.heap.IsTuple a its.toArray from p) (x:=u) (by simpa using hu) λh' st' sb=>?_;have I1:Inv X pins σ H {s with heap:=h'}:=I.turned (t':=s.toks) (λb o hb e=>(sb.2 b hb).trans e) f0 f1 f3 f4 f5;obtain⟨o,e,c,d⟩:=id st';exact⟨u,rfl,r9 (s:={ s with heap:=h'}) e c d ∎ ⟨x,H,I1,ru,⟨rfl,λys hy=>by rw[I.tuple_inj hy hq];exact hx⟩,st',λb hb=>(hf b hb).1⟩⟩
 done:=by
  intro X hP hw hK hc i pins s σ H E I hf st hg;subst hP hw hK;obtain⟨xs,hq,hx⟩:=hg;obtain⟨its,rv,p,hz⟩:=I.tuple hq;obtain⟨f0,f1,f2,f3,f4,f5⟩:=hf it (by simp);have hl:=rv.length;exact wpAny_pyNext_tuple_end (I.ok.hd hc) st (show s.heap.IsTuple a its.toArray from p) (by simp;omega) λh' eb=>⟨rfl,I.turned (t':=s.toks) (λb o hb e=>eb b o hb e) f0 f1 f3 f4 f5⟩
 self:=λ_ _ _ _ _ st h=>wpAny_pyIter_tupleiter st h
theorem N5{K:Ah}(it)(lo)(n):Turn P w K tg (tI lo n) [it] it (λi h=>IsRangeIter h it (lo+(i:Nat)*1) ((n:Int)-(i:Nat)) 1) where
 mem:=by simp
 obj:=λi h st b hb=>by
  have e:b=it:=by simpa using hb
  subst e;exact⟨_,st,λv z=>by
   have z':Data.fields _=Data.cell v:=z;cases z'⟩
 keep:=λi h h' st k=>k it (by simp) _ st
 item:=by
  intro X hP hw hK hc i pins s σ H E I hf st hg;subst hP hw hK;obtain⟨f0,f1,f2,f3,f4,f5⟩:=hf it (by simp);have W:=Walks.range (prog:=X.prog) (w:=X.w) (I.ok.hd hc) it lo 1 n;refine W.item i s _ _ hg st λv h' tk hv st' kk=>?_;obtain⟨t,rfl⟩:=hv;have I1:Inv X pins σ H {s with heap:=h',toks:=tk}:=I.turned (λb o hb e=>kk b o (by simpa using hb) e) f0 f1 f3 f4 f5;refine⟨_,rfl,r9 (s:={ s with heap:=h',toks:=tk}) (n:="range_iterator") st' rfl rfl ∎ ⟨.int (lo+i),H,I1,⟨t,?_⟩,⟨rfl,rfl⟩,st',λb hb=>(hf b hb).1⟩⟩;rw[Int.mul_one]
 done:=by
  intro X hP hw hK hc i pins s σ H E I hf st hg;subst hP hw hK;obtain⟨f0,f1,f2,f3,f4,f5⟩:=hf it (by simp);exact wpAny_pyNext_range_end (I.ok.hd hc) st (by have:n<=i:=hg;omega) λh' eb=>⟨rfl,I.turned (t':=s.toks) (λb o hb e=>eb b o hb e) f0 f1 f3 f4 f5⟩
 self:=λ_ _ _ _ _ st h=>wpAny_pyIter_rangeiter st h
section
variable{X:Cx}{tg:Expr}
def ui(K:Ah)(tl:TE):TI:=λσ H R=>tl σ H λx H1=>∃a,x=.ref a/\(∃xs,SqL K H1 a xs)/\R (HR K a) H1
def lV(K:Ah)(tl:TE):TI:=λσ H R=>tl σ H λx H1=>∃a,x=.ref a/\(∃xs,SqT K H1 a xs)/\R (CZ K a) H1
theorem LB(hl:PE X l tl):PI X tg l (ui X.K tl):=by
 intro pins s σ H R I h;refine a9 (hl pins s σ H _ I h) λv s1 ⟨x,H1,I1,r1,q1⟩=>?_;obtain⟨a,e,⟨xs,hq⟩,q⟩:=q1;subst e;cases r1;obtain⟨its,rv,p,hz⟩:=I1.list hq;refine wpAny_pyIter_list p.isList ?_;refine⟨s1.heap.objs.size,[s1.heap.objs.size],_,_,H1,rfl,I1.kept (t':=s1.toks) λb o e=>Ag _ e,Q4 a _,⟨_,A5 _ rfl,rfl,rfl⟩,λb hb=>?_,q⟩;have e:b=s1.heap.objs.size:=by simpa using hb
 subst e;exact I1.fpOk (An _) (I1.hok.fresh (An _))
theorem Ka(hl:PE X l tl):PI X tg l (lV X.K tl):=by
 intro pins s σ H R I h;refine a9 (hl pins s σ H _ I h) λv s1 ⟨x,H1,I1,r1,q1⟩=>?_;obtain⟨a,e,⟨xs,hq⟩,q⟩:=q1;subst e;cases r1;obtain⟨its,rv,p,hz⟩:=I1.tuple hq;refine D9 (show s1.heap.IsTuple a its.toArray from p) ?_;refine⟨s1.heap.objs.size,[s1.heap.objs.size],_,_,H1,rfl,I1.kept (t':=s1.toks) λb o e=>Ag _ e,OX a _,⟨_,A5 _ rfl,rfl,rfl⟩,λb hb=>?_,q⟩;have e:b=s1.heap.objs.size:=by simpa using hb
 subst e;exact I1.fpOk (An _) (I1.hok.fresh (An _))
theorem VF{σ:St}{s:Ap}{lo hi:Int}(I:Inv X pins σ H s)(h1:-(2 ^ 62)<=lo)(h2:lo < 2 ^ 62)(h3:-(2 ^ 62)<=hi)(h4:hi < 2 ^ 62)
  (q:R (tI lo (hi-lo).toNat) H):A9 (Bh X.prog X.w) X.A (pyIter (.ref s.heap.objs.size)) (zj X pins σ tg R) E {s with heap:=s.heap.push {cls:=.type "range",data:=.fields #[.int lo t,.int hi u,.int 1 v]},toks:=tk}:=by
 refine wpAny_pyIter_range (IsRange.new ..) (small_one h1 h2 h3 h4) ?_;have I1:Inv X pins σ H {s with heap:=s.heap.push {cls:=.type "range",data:=.fields #[.int lo t,.int hi u,.int 1 v]},toks:=tk}:=I.kept λb o e=>Ag _ e;refine⟨(s.heap.push {cls:=.type "range",data:=.fields #[.int lo t,.int hi u,.int 1 v]}).objs.size,[(s.heap.push {cls:=.type "range",data:=.fields #[.int lo t,.int hi u,.int 1 v]}).objs.size],_,_,H,rfl,
  I1.kept (t':=tk) λb o e=>Ag _ e,N5 _ lo (hi-lo).toNat,?_,λb hb=>?_,q⟩
 ·have e1:lo+((0:Nat):Int)*1=lo:=by simp
  have e2:(((hi-lo).toNat:Nat):Int)-((0:Nat):Int)=E7 lo hi 1:=by rw[rangeSize_one];split<;>omega
  show IsRangeIter _ _ (lo+((0:Nat):Int)*1) ((((hi-lo).toNat:Nat):Int)-((0:Nat):Int)) 1;rw[e1,e2];exact A5 _ rfl
 ·have e:b=(s.heap.push {cls:=.type "range",data:=.fields #[.int lo t,.int hi u,.int 1 v]}).objs.size:=by simpa using hb
  subst e;exact I1.fpOk (An _) (I1.hok.fresh (An _))
def CD(ta:TA):TI:=λσ H R=>ta σ H λvs H1=>∃j:Int,vs=[.int j]/\-(2 ^ 62)<=j/\j < 2 ^ 62/\R (tI 0 j.toNat) H1
theorem Um(hg:Gl X "range")(hm:X.mg "range"=ah)(ha:PA X [a] ta)(hs:Au [a] X.env=[(aj,eval a X.env)]:=by rfl):PI X tg (.Call (.Name "range" p) [a] [] pos) (CD ta):=by
 intro pins s σ H R I h;refine Call_ (mD I hg hm boot_range (Ei (a9 (ha pos pins s σ H _ I h) λus s1 ⟨vs,H1,I1,r1,q1⟩=>?_) hs rfl));obtain⟨j,e,q1,q2,q⟩:=q1;subst e;cases r1 with
 |cons r rr=>
  cases rr;obtain⟨t,rfl⟩:=r;exact call_range_1 (VF I1 ⋯ ⋯ q1 q2 (by simpa using q))
def p9(wi:TI)(g:TG)(tb:TS):TS:=λD σ H=>wi σ H λJ H1=>∃W:Nat->Nat->St->Hp->Prop,(∃m,W 0 m σ H1)/\∀i m σ H,W i m σ H->
 (J.stop i H/\D.nx σ H)\/(J.go i H/\∃N:St->Hp->Prop,(∀σ' H',N σ' H'->∃m',m' < m/\W (i+1) m' σ' H')/\∀x H',J.yld i H x H'->g x σ H' λσ2 H2=>tb {D with nx:=N,ct:=N,bk:=D.nx} σ2 H2)
def mW(fp:List Addr)(h:Heap):List (Addr×Obj):=fp.filterMap λb=>(h.get? b).map λo=>(b,o)
theorem mU(hb:b∈fp)(e:h.get? b=ae o):(b,o)∈mW fp h:=Gi.mpr ⟨b,hb,by rw[e];rfl⟩
theorem RG(hp:p∈mW fp h):p.1∈fp/\h.get? p.1=ae p.2:=by
 obtain⟨b,hb,e⟩:=Gi.mp hp;cases q:h.get? b with
 |none=>rw[q]at e;cases e
 |some o=>
  rw[q]at e;have e':(b,o)=p:=A8 e;subst e';exact⟨hb,q⟩
theorem Inv.pinned{σ:St}(I:Inv X pins σ H s)(hf:∀b∈fp,dF X pins H b)(ho:∀b∈fp,∃o,s.heap.get? b=ae o/\∀v,o.data≠.cell v):Inv X (pins++mW fp s.heap) σ H s:=
 I.pins_of λp hp=>(Bc.mp hp).elim (λz=>I.pin p (Be _ z)) λz=>by
  obtain⟨hb,e⟩:=RG z;obtain⟨f0,f1,f2,_⟩:=hf p.1 hb;obtain⟨o,e',d⟩:=ho p.1 hb;rw[e]at e';cases e';exact⟨e,f0,f1,f2,d⟩
theorem Inv.unpinned{σ:St}(I:Inv X (pins++pl) σ H s):Inv X pins σ H s:=I.pins_of λp hp=>I.pin p (Be _ (Ec _ hp))
theorem L4(hp:PassesOwn (Bh X.prog X.w) X.A X.env X.xe)(hc:X.calm=ai)(hi:PI X tg iter wi)(hg:PG X tg g)(hb:PSs X body tb)
  (hs:∀x,D1 iter X.env x=pure x:=by intro _;rfl):PS X (.For tg iter body [] pos) (p9 wi g tb):=by
 intro pins s σ H D I h;refine wpAny_For (a9 (hi pins s σ H _ I h) λv s1 h1=>a9 h1 λitv s2 h2=>?_) hs;obtain⟨it,fp,tn,J,H2,e,I2,T,st2,f2,W,⟨m0,w0⟩,turn⟩:=h2;subst e
 have stat:∀{H':Hp},(∀b∈fp,H' b=ah)->∀b∈fp,dF X pins H' b:=λhn b hb=>⟨hn b hb,(f2 b hb).2⟩;refine codeAny_forLoop_any (λn s'=>∃i σ' H',Inv X pins σ' H' s'/\tn i s'.heap/\(∀b∈fp,H' b=ah)/\W i n σ' H') ?_ m0 ⟨0,σ,H2,I2,st2,λb hb=>(f2 b hb).1,w0⟩
 rintro n s3 ⟨i,σ3,H3,I3,st3,fr3,w3⟩
 rcases turn i n σ3 H3 w3 with⟨stop,qn⟩|⟨go,N,hN,step⟩
 ·refine Gk hp (a9 (T.done X rfl rfl rfl hc i pins s3 σ3 H3 X.xe I3 (stat fr3) st3 stop) λr s4 ⟨hr,I4⟩=>?_);subst hr;exact wpAny_execs_nil ⟨σ3,H3,I4,qn⟩
 ·refine Gk hp (a9 (T.item X rfl rfl rfl hc i pins s3 σ3 H3 X.xe I3 (stat fr3) st3 go) λr s4 ⟨u,hr,h4⟩=>?_);subst hr;refine Gk hp (a9 h4 λ_ s5 ⟨x,H5,I5,r5,y5,st5,fr5⟩=>?_);have I5':=I5.pinned (stat fr5) (T.obj _ _ st5);refine Gk hp (a9 (hg _ s5 σ3 H5 x u _ I5' r5 (step x H5 y5)) λ_ s6 ⟨σ6,H6,I6,q6⟩=>?_);refine Gk hp (a9 (hb _ s6 σ6 H6 _ I6 q6) λf s7 q7=>?_);have again:∀{σ7:St}{H7:Hp},Inv X (pins++mW fp s5.heap) σ7 H7 s7->N σ7 H7->∃m,m < n/\∃i σ' H',Inv X pins σ' H' s7/\tn i s7.heap/\(∀b∈fp,H' b=ah)/\W i m σ' H':=λ{σ7 H7} I7 n7=>by
   obtain⟨m',hm,w7⟩:=hN σ7 H7 n7;refine⟨m',hm,i+1,σ7,H7,I7.unpinned,T.keep _ _ _ st5 λb hb o e=>(I7.pin (b,o) (Be _ (Be _ (mU hb e)))).1,λb hb=>?_,w7⟩;obtain⟨o,e,d⟩:=T.obj _ _ st5 b hb;exact(I7.pin (b,o) (Be _ (Be _ (mU hb e)))).2.1
  cases f with
  |next=>obtain⟨σ7,H7,I7,n7⟩:=q7;exact again I7 n7
  |cont=>obtain⟨σ7,H7,I7,n7⟩:=q7;exact again I7 n7
  |brk=>obtain⟨σ7,H7,I7,q7⟩:=q7;exact⟨σ7,H7,I7.unpinned,q7⟩
  |ret v=>obtain⟨x7,σ7,H7,I7,r7,q7⟩:=q7;exact⟨x7,σ7,H7,I7.unpinned,r7,q7⟩
end
abbrev R2:=V->V->Hp->VK->Prop
def OpR(X:Cx)(f:Ak->Ak->Sem Ak)(r:R2):Prop:=
 ∀(pins:List (Addr×Obj))(s:Ap)(σ:St)(H:Hp)(x y:V)(v u:Ak)(Q:VK),Inv X pins σ H s->RelV x v->RelV y u->r x y H Q->
  A9 (Bh X.prog X.w) X.A (f v u) (EP X pins σ Q) X.xe s
def uE(X:Cx)(f:Ak->Sem Ak)(r:V->Hp->VK->Prop):Prop:=
 ∀(pins:List (Addr×Obj))(s:Ap)(σ:St)(H:Hp)(x:V)(v:Ak)(Q:VK),Inv X pins σ H s->RelV x v->r x H Q->
  A9 (Bh X.prog X.w) X.A (f v) (EP X pins σ Q) X.xe s
def CallR(X:Cx)(f:Ak)(r:List V->Hp->VK->Prop):Prop:=
 ∀(pins:List (Addr×Obj))(s:Ap)(σ:St)(H:Hp)(xs:List V)(us:List Ak)(Q:VK),Inv X pins σ H s->Vals xs us->r xs H Q->
  A9 (Bh X.prog X.w) X.A (call f us) (EP X pins σ Q) X.xe s
def d3(r:R2)(ta tb:TE):TE:=λσ H Q=>ta σ H λx H1=>tb σ H1 λy H2=>r x y H2 Q
def uh(r:V->Hp->VK->Prop)(ta:TE):TE:=λσ H Q=>ta σ H λx H1=>r x H1 Q
def rI(C:Int->Int->Prop)(g:Int->Int->V):R2:=λx y H Q=>∃i j,x=.int i/\y=.int j/\C i j/\Q (g i j) H
def gz(g:Int->Int->V):R2:=λx y H Q=>∃i j,x=.int i/\y=.int j/\Q (g i j) H
def rU(g:Int->V):V->Hp->VK->Prop:=λx H Q=>∃i,x=.int i/\Q (g i) H
section
variable{X:Cx}{a b c:Expr}{ta tb tc:TE}{pos:Pos}
theorem l4(ha:PE X a ta)(hb:PE X b tb){σ:St}{R:V->V->Hp->Prop}(I:Inv X pins σ H s)
  (h:ta σ H λx H1=>tb σ H1 λy H2=>R x y H2) {Q:Ak->Ap->Prop} {f:Ak->Ak->Sem Ak}
  (hf:∀v u s2 x y H2,Inv X pins σ H2 s2->RelV x v->RelV y u->R x y H2->A9 (Bh X.prog X.w) X.A (f v u) Q X.xe s2):
  A9 (Bh X.prog X.w) X.A (eval a X.env) (λv s₁=>A9 (Bh X.prog X.w) X.A (eval b X.env) (λu s₂=>A9 (Bh X.prog X.w) X.A (f v u) Q X.xe s₂) X.xe s₁) X.xe s:=by
 refine a9 (ha pins s σ H _ I h) λv s1 ⟨x,H1,I1,r1,q1⟩=>?_;refine a9 (hb pins s1 σ H1 _ I1 q1) λu s2 ⟨y,H2,I2,r2,q2⟩=>?_;exact hf v u s2 x y H2 I2 r1 r2 q2
theorem fi(ho:OpR X (Ep op) r)(ha:PE X a ta)(hb:PE X b tb):PE X (.BinOp a op b pos) (d3 r ta tb):=by
 intro pins s σ H Q I h;exact wpAny_BinOp (l4 ha hb I h λv u s2 x y H2 I2 rx ry q=>ho pins s2 σ H2 x y v u Q I2 rx ry q)
theorem AG(ho:uE X (unaryOp op) r)(ha:PE X a ta):PE X (.UnaryOp op a pos) (uh r ta):=by
 intro pins s σ H Q I h;exact UnaryOp_ (a9 (ha pins s σ H _ I h) λv s1 ⟨x,H1,I1,r1,q1⟩=>ho pins s1 σ H1 x v Q I1 r1 q1)
theorem qO{g:Int->Int->Int}
  (rule:∀(i j:Int)(t u:Tok)(s:Ap)(Q:Ak->Ap->Prop)(E:Ak->Ap->Prop),C i j->Q (.int (g i j) s.toks) {s with toks:=s.toks+1}->A9 (Bh X.prog X.w) X.A (f (.int i t) (.int j u)) Q E s):
  OpR X f (rI C λi j=>.int (g i j)):=by
 intro pins s σ H x y v u Q I rx ry h;obtain⟨i,j,rfl,rfl,hc,q⟩:=h;obtain⟨t,rfl⟩:=rx;obtain⟨t',rfl⟩:=ry;exact rule i j t t' s _ _ hc ⟨.int (g i j),H,I.tok _,⟨_,rfl⟩,q⟩
theorem nU{g:Int->Int->Int}
  (rule:∀(i j:Int)(t u:Tok)(s:Ap)(Q:Ak->Ap->Prop)(E:Ak->Ap->Prop),Q (.int (g i j) s.toks) {s with toks:=s.toks+1}->A9 (Bh X.prog X.w) X.A (f (.int i t) (.int j u)) Q E s):
  OpR X f (gz λi j=>.int (g i j)):=by
 intro pins s σ H x y v u Q I rx ry h;obtain⟨i,j,rfl,rfl,q⟩:=h;obtain⟨t,rfl⟩:=rx;obtain⟨t',rfl⟩:=ry;exact rule i j t t' s _ _ ⟨.int (g i j),H,I.tok _,⟨_,rfl⟩,q⟩
theorem kz{g:Int->Int->Bool}
  (rule:∀(i j:Int)(t u:Tok)(s:Ap)(Q:Ak->Ap->Prop)(E:Ak->Ap->Prop),Q (.bool (g i j)) s->A9 (Bh X.prog X.w) X.A (f (.int i t) (.int j u)) Q E s):
  OpR X f (gz λi j=>.bl (g i j)):=by
 intro pins s σ H x y v u Q I rx ry h;obtain⟨i,j,rfl,rfl,q⟩:=h;obtain⟨t,rfl⟩:=rx;obtain⟨t',rfl⟩:=ry;exact rule i j t t' s _ _ ⟨.bl (g i j),H,I,rfl,q⟩
def xk(i j:Int):Prop:=0 < j/\j < 1073741824
def tP(i j:Int):Prop:=0<=j/\j<=1000000/\i.natAbs < 2 ^ 64
def CMul(i j:Int):Prop:=(-(2 ^ 64) < i/\i < 2 ^ 64)\/(-(2 ^ 64) < j/\j < 2 ^ 64)
theorem CMul.ok(h:CMul i j):IntMulOk i j:=by
 rcases h with⟨h1,h2⟩|⟨h1,h2⟩
 ·exact .of_left (intBits_le_64 h1 h2)
 ·exact .of_right (intBits_le_64 h1 h2)
theorem op_add:OpR X (Ep .Add) (gz λi j=>.int (i+j)):=nU λ_ _ _ _ _ _ _ q=>add_int q
theorem M4:OpR X (Ep .Sub) (gz λi j=>.int (i-j)):=nU λ_ _ _ _ _ _ _ q=>sub_int q
theorem mO:OpR X (Ep .Mult) (rI CMul λi j=>.int (i*j)):=qO λ_ _ _ _ _ _ _ hc q=>mul_int q hc.ok
theorem AY:OpR X (Ep .FloorDiv) (rI xk λi j=>.int (i / j)):=qO λi j _ _ _ _ _ hc q=>by
 have h1:(0:Int) < j:=hc.1;have h2:j < 1073741824:=hc.2;exact floordiv_int ⋯ (by rw[Int.fdiv_eq_ediv_of_nonneg i ⋯];exact q) (.inl (PyProof.noPylong_small ⋯))
theorem j9:OpR X (Ep .Mod) (rI (λ_ j=>0 < j) λi j=>.int (i % j)):=qO λi j _ _ _ _ _ hc q=>by
 have h1:(0:Int) < j:=hc;exact mod_int' ⋯ (by rw[Int.fmod_eq_emod_of_nonneg i ⋯];exact q)
theorem U6:OpR X (Ep .Pow) (rI tP λi j=>.int (i ^ j.toNat)):=qO λ_ _ _ _ _ _ _ hc q=>pow_int_small hc.1 hc.2.1 hc.2.2 q
theorem JB{g:Int->Int}
  (rule:∀(i:Int)(t:Tok)(s:Ap)(Q:Ak->Ap->Prop)(E:Ak->Ap->Prop),Q (.int (g i) s.toks) {s with toks:=s.toks+1}->A9 (Bh X.prog X.w) X.A (f (.int i t)) Q E s):
  uE X f (rU λi=>.int (g i)):=by
 intro pins s σ H x v Q I rx h;obtain⟨i,rfl,q⟩:=h;obtain⟨t,rfl⟩:=rx;exact rule i t s _ _ ⟨.int (g i),H,I.tok _,⟨_,rfl⟩,q⟩
theorem EG:uE X (unaryOp .USub) (rU λi=>.int (-i)):=JB λ_ _ _ _ _ q=>neg_int q
end
def og:V->V->Bool
 |.non,.non=>ai|.non,.int _=>ai|.int _,.non=>ai|.non,.bl _=>ai|.bl _,.non=>ai|.non,.str _=>ai|.str _,.non=>ai
 |.int _,.int _=>ai|.bl _,.bl _=>ai|.str _,.str _=>ai|.byt _,.byt _=>ai
 |.int _,.str _=>ai|.str _,.int _=>ai|.bl _,.str _=>ai|.str _,.bl _=>ai
 |_,_=>aj
def sU:R2:=λx y H Q=>og x y=ai/\Q (.bl (decide (x=y))) H
def zx:R2:=λx y H Q=>og x y=ai/\Q (.bl (!decide (x=y))) H
theorem EB:decide (V.int i=V.int j)=(i==j):=by
 rw[Fq];simp
theorem zc:decide (V.bl i=V.bl j)=(i==j):=by
 rw[Fq];simp
theorem DX:decide (V.str i=V.str j)=(i==j):=by
 rw[Fq];simp
theorem DH:decide (V.byt i=V.byt j)=(i.toList==j.toList):=by
 rw[Fq];cases i;cases j;simp
section
variable{X:Cx}{a b c:Expr}{ta tb tc:TE}{pos:Pos}
theorem di{σ:St}(I:Inv X pins σ H s)(q:Q (.bl k) H)(e:k=k'):EP X pins σ Q (.bool k') s:=by
 subst e;exact⟨.bl k,H,I,rfl,q⟩
theorem op_eq:OpR X (Bx .Eq) sU:=by
 intro pins s σ H x y v u Q I rx ry h;obtain⟨hs,q⟩:=h;cases x with
 |non=>
  cases rx;cases y with
  |non=>cases ry;exact PySem.EqNone.eq_none_none (di I q (by simp))
  |bl j=>cases ry;exact PySem.EqNone.eq_none_bool (di I q (by simp))
  |int j=>obtain⟨t',rfl⟩:=ry;exact PySem.EqNone.eq_none_int (di I q (by simp))
  |str j=>obtain⟨t',rfl⟩:=ry;exact PySem.EqNone.eq_none_str (di I q (by simp))
  |_=>exact absurd (show aj=ai from hs) Ae
 |bl i=>
  cases rx;cases y with
  |non=>cases ry;exact PySem.EqNone.eq_bool_none (di I q (by simp))
  |bl j=>cases ry;exact eq_bool (di I q zc)
  |str j=>obtain⟨t',rfl⟩:=ry;exact PySem.EqMixed.eq_bool_str (di I q (by simp))
  |_=>exact absurd (show aj=ai from hs) Ae
 |int i=>
  obtain⟨t,rfl⟩:=rx;cases y with
  |non=>cases ry;exact PySem.EqNone.eq_int_none (di I q (by simp))
  |int j=>obtain⟨t',rfl⟩:=ry;exact eq_int (di I q EB)
  |str j=>obtain⟨t',rfl⟩:=ry;exact PySem.EqMixed.eq_int_str (di I q (by simp))
  |_=>exact absurd (show aj=ai from hs) Ae
 |str i=>
  obtain⟨t,rfl⟩:=rx;cases y with
  |non=>cases ry;exact PySem.EqNone.eq_str_none (di I q (by simp))
  |bl j=>cases ry;exact PySem.EqMixed.eq_str_bool (di I q (by simp))
  |int j=>obtain⟨t',rfl⟩:=ry;exact PySem.EqMixed.eq_str_int (di I q (by simp))
  |str j=>obtain⟨t',rfl⟩:=ry;exact eq_str (di I q DX)
  |_=>exact absurd (show aj=ai from hs) Ae
 |byt i=>
  obtain⟨t,rfl⟩:=rx;cases y with
  |byt j=>obtain⟨t',rfl⟩:=ry;exact PySem.W.eq_bytes (di I q DH)
  |_=>exact absurd (show aj=ai from hs) Ae
 |_=>cases y<;>exact absurd (show aj=ai from hs) Ae
theorem Ua:OpR X (Bx .NotEq) zx:=by
 intro pins s σ H x y v u Q I rx ry h;obtain⟨hs,q⟩:=h;cases x with
 |non=>
  cases rx;cases y with
  |non=>cases ry;exact PySem.EqNone.ne_none_none (di I q (by simp))
  |bl j=>cases ry;exact PySem.EqNone.ne_none_bool (di I q (by simp))
  |int j=>obtain⟨t',rfl⟩:=ry;exact PySem.EqNone.ne_none_int (di I q (by simp))
  |str j=>obtain⟨t',rfl⟩:=ry;exact PySem.EqNone.ne_none_str (di I q (by simp))
  |_=>exact absurd (show aj=ai from hs) Ae
 |bl i=>
  cases rx;cases y with
  |non=>cases ry;exact PySem.EqNone.ne_bool_none (di I q (by simp))
  |bl j=>cases ry;exact ne_bool (di I q (congrArg not zc))
  |str j=>obtain⟨t',rfl⟩:=ry;exact PySem.EqMixed.ne_bool_str (di I q (by simp))
  |_=>exact absurd (show aj=ai from hs) Ae
 |int i=>
  obtain⟨t,rfl⟩:=rx;cases y with
  |non=>cases ry;exact PySem.EqNone.ne_int_none (di I q (by simp))
  |int j=>obtain⟨t',rfl⟩:=ry;exact ne_int (di I q (congrArg not EB))
  |str j=>obtain⟨t',rfl⟩:=ry;exact PySem.EqMixed.ne_int_str (di I q (by simp))
  |_=>exact absurd (show aj=ai from hs) Ae
 |str i=>
  obtain⟨t,rfl⟩:=rx;cases y with
  |non=>cases ry;exact PySem.EqNone.ne_str_none (di I q (by simp))
  |bl j=>cases ry;exact PySem.EqMixed.ne_str_bool (di I q (by simp))
  |int j=>obtain⟨t',rfl⟩:=ry;exact PySem.EqMixed.ne_str_int (di I q (by simp))
  |str j=>obtain⟨t',rfl⟩:=ry;exact ne_str (di I q (congrArg not DX))
  |_=>exact absurd (show aj=ai from hs) Ae
 |byt i=>
  obtain⟨t,rfl⟩:=rx;cases y with
  |byt j=>obtain⟨t',rfl⟩:=ry;exact PySem.W.ne_bytes (di I q (congrArg not DH))
  |_=>exact absurd (show aj=ai from hs) Ae
 |_=>cases y<;>exact absurd (show aj=ai from hs) Ae
theorem op_lt:OpR X (Bx .Lt) (gz λi j=>.bl (decide (i < j))):=kz λ_ _ _ _ _ _ _ q=>lt_int q
theorem op_le:OpR X (Bx .LtE) (gz λi j=>.bl (decide (i<=j))):=kz λ_ _ _ _ _ _ _ q=>le_int q
theorem op_gt:OpR X (Bx .Gt) (gz λi j=>.bl (decide (j < i))):=kz λ_ _ _ _ _ _ _ q=>gt_int q
theorem PJ:OpR X (Bx .GtE) (gz λi j=>.bl (decide (j<=i))):=kz λ_ _ _ _ _ _ _ q=>ge_int q
theorem Nk:OpR X (Bx .Lt) (λx y H Q=>∃i j,x=.str i/\y=.str j/\Q (.bl (decide (i.cps.toList < j.cps.toList))) H):=by
 intro pins s σ H x y v u Q I rx ry h;obtain⟨i,j,rfl,rfl,q⟩:=h;obtain⟨t,rfl⟩:=rx;obtain⟨t',rfl⟩:=ry;exact lt_str (di I q rfl)
theorem CO:OpR X (Bx .Is) (λx y H Q=>y=.non/\Q (.bl (decide (x=.non))) H):=by
 intro pins s σ H x y v u Q I rx ry h;obtain⟨rfl,q⟩:=h;cases ry;refine is_none_gen (di I q ?_);cases x<;>first
  | (cases rx;rfl)
  | (obtain⟨t,rfl⟩:=rx;rfl)
theorem yv:OpR X (Bx .IsNot) (λx y H Q=>y=.non/\Q (.bl (!decide (x=.non))) H):=by
 intro pins s σ H x y v u Q I rx ry h;obtain⟨rfl,q⟩:=h;cases ry;refine isnot_none_gen (di I q ?_);cases x<;>first
  | (cases rx;rfl)
  | (obtain⟨t,rfl⟩:=rx;rfl)
theorem OpR.or(h:OpR X f r)(h':OpR X f r'):OpR X f (λx y H Q=>r x y H Q\/r' x y H Q):=by
 intro pins s σ H x y v u Q I rx ry q;rcases q with q|q
 ·exact h pins s σ H x y v u Q I rx ry q
 ·exact h' pins s σ H x y v u Q I rx ry q
theorem oI(b)(h:op≠.In:=by decide)(h2:op≠.NotIn:=by decide):Cf op b=aj:=by
 have e1:(op==CmpOp.In)=aj:=by cases op<;>first|rfl|exact absurd rfl h
 have e2:(op==CmpOp.NotIn)=aj:=by cases op<;>first|rfl|exact absurd rfl h2
 cases b<;>simp[Cf,e1,e2]
theorem OS(ho:OpR X (Bx op) r)(ha:PE X a ta)(hb:PE X b tb)(hm:Cf op b=aj):PE X (.Compare a [op] [b] pos) (d3 r ta tb):=by
 intro pins s σ H Q I h;exact wpAny_Compare1 (l4 ha hb I h λv u s2 x y H2 I2 rx ry q=>ho pins s2 σ H2 x y v u Q I2 rx ry q) hm
def jz(t:TE):TT:=λσ H Q=>t σ H λx H'=>∃k,x=.bl k/\Q k H'
theorem kB(ho:OpR X (Bx op) r)(ha:PE X a ta)(hb:PE X b tb)(hm:Cf op b=aj):PT X (.Compare a [op] [b] pos) (jz (d3 r ta tb)):=by
 intro pins s σ H Q I h;refine wpAny_isTrue_Compare1 (a9 (ha pins s σ H _ I h) λv s1 ⟨x,H1,I1,r1,q1⟩=>a9 (hb pins s1 σ H1 _ I1 q1) λu s2 ⟨y,H2,I2,r2,q2⟩=>
  a9 (ho pins s2 σ H2 x y v u _ I2 r1 r2 q2) λc s3 ⟨z,H3,I3,r3,k,e,q3⟩=>?_) hm
 subst e;cases r3;exact D0 ⟨H3,I3,q3⟩
def uv(r r':R2)(ta tb tc:TE):TE:=λσ H Q=>ta σ H λx H1=>tb σ H1 λy H2=>r x y H2 λz H3=>∃k,z=.bl k /\
 (if k=ai then tc σ H3 λw' H4=>r' y w' H4 Q else Q (.bl aj) H3)
theorem Rz(ho:OpR X (Bx op) r)(ho':OpR X (Bx op') r')(ha:PE X a ta)(hb:PE X b tb)(hc:PE X c tc)
  (hm:lastMarks [op,op'] [b,c]=aj:=by with_unfolding_all rfl):PE X (.Compare a [op,op'] [b,c] pos) (uv r r' ta tb tc):=by
 intro pins s σ H Q I h;refine Compare_chain (a9 (ha pins s σ H _ I h) λv s1 ⟨x,H1,I1,r1,q1⟩=>chain_link (a9 (hb pins s1 σ H1 _ I1 q1) λu s2 ⟨y,H2,I2,r2,q2⟩=>
  a9 (ho pins s2 σ H2 x y v u _ I2 r1 r2 q2) λd s3 ⟨z,H3,I3,r3,k,e,q3⟩=>?_)) hm
 subst e;cases r3;refine D0 ?_;cases k with
 |false=>exact ite_ff ⟨.bl aj,H3,I3,rfl,q3⟩
 |true=>exact ite_tt (chain_last (a9 (hc pins s3 σ H3 _ I3 q3) λw' s4 ⟨z',H4,I4,r4,q4⟩=>ho' pins s4 σ H4 y z' u w' Q I4 r2 r4 q4))
theorem nv:(Az:Nat) < 2 ^ 63:=by rw[Ew];decide
theorem op_add_str:OpR X (Ep .Add) (λx y H Q=>∃i j,x=.str i/\y=.str j/\i.length+j.length<=Az/\Q (.str (i++j)) H):=by
 intro pins s σ H x y v u Q I rx ry h;obtain⟨i,j,rfl,rfl,hz,q⟩:=h;obtain⟨t,rfl⟩:=rx;obtain⟨t',rfl⟩:=ry;exact add_str (λt' tk=>⟨.str (i++j),H,I.tok _,⟨_,rfl⟩,q⟩) hz
theorem gX(r:Vals [x] us):∃u,us=[u]/\RelV x u:=by
 cases r with
 |cons r1 r2=>cases r2;exact⟨_,rfl,r1⟩
theorem qk(r:Vals [x,y] us):∃u w',us=[u,w']/\RelV x u/\RelV y w':=by
 cases r with
 |cons r1 r2=>
  cases r2 with
  |cons r3 r4=>cases r4;exact⟨_,_,rfl,r1,r3⟩
end
structure ObjM(h:Heap)(x dx C:Addr)(mA:Str->Option Ak):Prop where
 obj:h.get? x=ae (PySem.W.instObj C dx)
 ns:h.Ns1 dx mA
 ne:dx≠x
theorem U4{h:Heap}(n:h.Ns1 dx mA):∃od,h.get? dx=ae od/\∀name,PySem.W.lookIn name od=ae (mA name):=by
 obtain⟨o,es,ep,ho,hd,hk,_,hm⟩:=n;refine⟨o,ho,λname=>?_⟩;have e:=hm name;unfold nsFind findBy at e;rw[<-Array.find?_toList]at e;unfold PySem.W.lookIn;rw[hd];dsimp only
 split
 ·rename_i y q;rw[q]at e;exact congrArg ae e
 ·rename_i q;rw[q]at e;have a:es.toList.any (·.refKey)=aj:=by
   rw[List.any_eq_false];intro y hy;obtain⟨z,t,hkey⟩:=hk y (Array.mem_toList_iff.mp hy);simp[DictEntry.refKey,hkey]
  have a':¬es.toList.any (·.refKey)=ai:=by rw[a];exact Ae
  rw[if_neg a'];exact congrArg ae e
theorem ObjM.look(I:ObjM h x dx C mA):∃od,PySem.W.InstAt h x (PySem.W.instObj C dx) C (ae od)/\∀name,PySem.W.lookIn name od=ae (mA name):=
 let⟨od,ho,hl⟩:=U4 I.ns
 ⟨od,⟨I.obj,rfl,rfl,ho⟩,hl⟩
theorem RelO.some_of(r:RelO (ae v) o):∃u,o=ae u/\RelV v u:=by
 cases o with
 |none=>exact(show False from r).elim
 |some u=>exact⟨u,rfl,r⟩
section
variable{P:Bg}{w:B3}{H H':Hp}{h h':Heap}{a C dx:Addr}{fs fs':List (Str×V)}
theorem Ro(hok:HOk P w H h)(e:H a=ae (.ins C dx fs)):∃mA,ObjM h a dx C mA/\(∀f,RelO (fs.lookup f) (mA f))/\PySem.Within mA (fs.map (·.1))/\fs.length<=1000/\H dx=ae (.own a):=by
 obtain⟨d,z,ne,ob,mA,n,r,q⟩:=(show ObjOk P w H h a (.ins C dx fs)from hok a _ e);exact⟨mA,⟨ob,n,ne⟩,r,q,z,d⟩
end
structure Cls(K:Ah)(C:Addr):Prop where
 pg:PySem.W.plainGet K C Str.empty=ai
 hd:PySem.W.hasDictIn K C=ai
 po:PySem.W.plainOver K C=ai
 sa:PySem.W.findIn K (.ref C) "__setattr__"=ae (ae (.builtin "object.__setattr__"))
theorem Cls.get{K:Ah}(c:Cls K C)(f):PySem.W.plainGet K C f=ai:=c.pg
section
variable{X:Cx}{pins:List (Addr×Obj)}{σ:St}{H:Hp}{s:Ap}{A:Cj}{E:Ak->Ap->Prop}{Q:Ak->Ap->Prop}{c:Ak}{b:Bool}
inductive TyOf(K:Ah)(H:Hp):V->Ak->Prop where
 |non:TyOf K H .non (.type "NoneType")
 |bl (x:Bool):TyOf K H (.bl x) (.type "bool")
 |int (i:Int):TyOf K H (.int i) (.type "int")
 |str (x:Str):TyOf K H (.str x) (.type "str")
 |flt (x:UInt64):TyOf K H (.flt x) (.type "float")
 |lst {a:Addr} {xs:List V} (e:H a=ae (.lst xs)):TyOf K H (.ref a) (.type "list")
 |frz {a:Addr} {o:Obj} {xs:List V} (e:H a=ae (.frz o (.lst xs))):TyOf K H (.ref a) (.type "list")
 |tup {a:Addr} {xs:List V} (e:H a=ae (.tup xs)):TyOf K H (.ref a) (.type "tuple")
 |dK {a:Addr} {kvs:List (aG×V)} (e:H a=ae (.dK kvs)):TyOf K H (.ref a) (.type "dict")
 |dT {a:Addr} {kvs:List (List aG×V)} (e:H a=ae (.dT kvs)):TyOf K H (.ref a) (.type "dict")
 |ins {a C dx:Addr} {fs:List (Str×V)} (e:H a=ae (.ins C dx fs)) (cl:Cls K C) (ha:PySem.W.findIn K (.ref C) "__class__"=ae (ae (.builtin "object.__class__")))
   (hn:PySem.W.specialIn K (.builtin "object.__class__") "__get__"=ae (ae (.builtin "getset_descriptor.__get__"))) (htk:PySem.W.takesIn K (.builtin "object.__class__")=ae ai)
   (hm:PySem.W.mroIn K C (.type "object")=ae ai):TyOf K H (.ref a) (.ref C)
theorem Mc(I:Inv X pins σ H s)(rx:RelV x u)(ty:TyOf X.K H x t)(e:PySem.W.kitOne X.K t c=ae b)(h:∀tk,Q (.bool b) {s with toks:=tk}):
  A9 (Bh X.prog X.w) A (call (.builtin "isinstance") [u,c]) Q E s:=by
 cases ty with
 |non=>cases(show u=Bu from rx);exact C3 PySem.W.kitx_none I.kIn C7 e (λz=>nomatch z) h
 |bl y=>cases(show u=Value.bool y from rx);exact C3 PySem.W.kitx_bool I.kIn C7 e (λz=>nomatch z) h
 |int i=>obtain⟨t,q⟩:=(show ∃t,u=F8 i t from rx);cases q;exact C3 PySem.W.kitx_int I.kIn C7 e (λz=>nomatch z) h
 |str y=>obtain⟨t,q⟩:=(show ∃t,u=Fs y t from rx);cases q;exact C3 PySem.W.kitx_str I.kIn C7 e (λz=>nomatch z) h
 |flt y=>obtain⟨t,q⟩:=(show ∃t,u=Value.float y t from rx);cases q;exact C3 PySem.W.kitx_float I.kIn C7 e (λz=>nomatch z) h
 |@lst a xs ea=>
  cases(show u=A6 a from rx);obtain⟨_,_,n,_,h1⟩:=(show ObjOk X.prog X.w H s.heap a (.lst xs)from I.hok a _ ea);exact C3 PySem.W.kitx_list I.kIn ⟨_,h1,rfl⟩ e (λz=>nomatch z) h
 |@frz a ob xs ea=>
  cases(show u=A6 a from rx);obtain⟨_,_,_,n,_,h1⟩:=(show ObjOk X.prog X.w H s.heap a (.frz ob (.lst xs))from I.hok a _ ea);exact C3 PySem.W.kitx_list I.kIn ⟨_,h1,rfl⟩ e (λz=>nomatch z) h
 |@tup a xs ea=>
  cases(show u=A6 a from rx);obtain⟨_,_,_,p⟩:=(show ObjOk X.prog X.w H s.heap a (.tup xs)from I.hok a _ ea);obtain⟨o,h1,h2,_⟩:=p;exact C3 PySem.W.kitx_tuple I.kIn ⟨o,h1,h2⟩ e (λz=>nomatch z) h
 |@dK a kvs ea=>
  cases(show u=A6 a from rx);obtain⟨_,_,vs,_,p⟩:=(show ObjOk X.prog X.w H s.heap a (.dK kvs)from I.hok a _ ea);obtain⟨o,es,ep,h1,h2,_⟩:=p;exact C3 PySem.W.kitx_dict I.kIn ⟨o,h1,h2.1⟩ e (λz=>nomatch z) h
 |@dT a kvs ea=>
  cases(show u=A6 a from rx);obtain⟨_,_,xs,_,o,es,ep,h1,h2,_⟩:=(show ObjOk X.prog X.w H s.heap a (.dT kvs)from I.hok a _ ea);exact C3 PySem.W.kitx_dict I.kIn ⟨o,h1,h2.1⟩ e (λz=>nomatch z) h
 |@ins a C dx fs ea cl ha hn htk hm=>
  cases(show u=A6 a from rx);obtain⟨mA,O,_⟩:=Ro I.hok ea;obtain⟨od,J,_⟩:=O.look;exact C3 (PySem.W.kitx_own (cl.get _) cl.hd ha hn htk hm) I.kIn J e (λz=>nomatch z) h
end
structure Room(k:Nat)(A:Cj):Prop where
 hd:A.handled=ah
 dp:A.depth+3*k+5 < recursionLimit
 un:A.units+16*k+200 < Eo
 gd:A.guards=ae []
theorem Room.mono(r:Room k A)(h:j<=k):Room j A:=⟨r.hd,by have:=r.dp;omega,by have:=r.un;omega,r.gd⟩
theorem Room.deeper(r:Room (k+1) A)(env):Room k (A.deeper env):=
 ⟨r.hd,by have:=r.dp;show A.depth+1+3*k+5 < _;omega,by have:=r.un;show A.units+3+16*k+200 < _;omega,r.gd⟩
theorem Room.depth(r:Room k A):A.depth < recursionLimit:=by have:=r.dp;omega
theorem Room.units(r:Room k A):A.units+64 < Eo:=by have:=r.un;omega
theorem Room.units0(r:Room k A):A.units < Eo:=by have:=r.un;omega
def ck:TA:=λ_ H Q=>Q [] H
def dB(ta:TE)(tr:TA):TA:=λσ H Q=>ta σ H λx H1=>tr σ H1 λxs H2=>Q (x::xs) H2
section
variable{X:Cx}{e:Expr}{es:List Expr}{te:TE}{t:TA}{pos:Pos}
theorem eI:PA X [] ck:=λ_ _ _ _ H Q I h=>Calls.spliced_nil ⟨[],H,I,.nil,h⟩
theorem cU(ha:PE X e te)(hr:PA X es t)(hs:Au (e::es) X.env=(aj,eval e X.env)::Au es X.env:=by rfl):PA X (e::es) (dB te t):=by
 intro pos pins s σ H Q I h;rw[hs];show A9 _ _ (spliced ((aj,eval e X.env)::Cy pos (Au es X.env))) _ _ s;refine Calls.spliced_cons (a9 (ha pins s σ H _ I h) λu s1 ⟨x,H1,I1,r1,q1⟩=>?_);exact a9 (hr pos pins s1 σ H1 _ I1 q1) λus s2 ⟨xs,H2,I2,r2,q2⟩=>⟨x::xs,H2,I2,.cons r1 r2,q2⟩
def kj(t:TA):TE:=λσ H Q=>t σ H λxs H1=>xs.length<=Az/\∀p,H1 p=ah->Q (.ref p) (upd H1 p (.tup xs))
def oG(t:TA):TE:=λσ H Q=>t σ H λxs H1=>xs.length<=Az/\∀p,H1 p=ah->Q (.ref p) (upd H1 p (.lst xs))
theorem yc{x1}(h:PA X es t):PE X (.Tuple es x1 pos) (kj t):=by
 intro pins s σ H Q I hq;refine wpAny_Tuple_spliced (a9 (h pos pins s σ H _ I hq) λus s1 ⟨xs,H1,I1,r,z,q⟩=>⟨by rw[<-r.length];exact z,?_⟩);have hf:H1 s1.heap.objs.size=ah:=I1.hok.fresh (An _);refine⟨.ref s1.heap.objs.size,upd H1 s1.heap.objs.size (.tup xs),I1.laid (t':=s1.toks) (λb u e=>Ag _ e) (An _) ?_,rfl,q _ hf⟩;exact⟨z,us,r,IsTupP.new _ _⟩
theorem wU(h:PA X es t):PE X (.List es pos) (oG t):=by
 intro pins s σ H Q I hq;refine wpAny_List_spliced (a9 (h pos pins s σ H _ I hq) λus s1 ⟨xs,H1,I1,r,z,q⟩=>⟨by rw[<-r.length];exact z,?_⟩);have hf:H1 s1.heap.objs.size=ah:=I1.hok.fresh (An _);refine⟨.ref s1.heap.objs.size,upd H1 s1.heap.objs.size (.lst xs),I1.laid (t':=s1.toks) (λb u e=>Ag _ e) (An _) ?_,rfl,q _ hf⟩;exact⟨z,us,0,r,A5 _ rfl⟩
end
abbrev Sp:=List V->Hp->VK->XK->Prop
abbrev jn:=List Env->Hp->Ap->XK->Ak->Ap->Prop
structure Env0(P:Bg)(w:B3)(K:Ah)(mg:Str->Option Ak)(base:Heap)(A:Cj)(outer:List Env)(s:Ap)(H:Hp):Prop where
 frames:A.frames=ae outer
 mod:Mod K mg base
 bs:∀b o,base.get? b=ae o->s.heap.get? b=ae o/\H b=ah
 bsz:base.objs.size<=s.heap.objs.size
 funs:s.heap.FunFrames base outer
 frf:∀b∈iF outer,H b=ah
 hok:HOk P w H s.heap
 bare:AllBare s.gens
def CE(outer:List Env)(P:Bg)(w:B3)(H:Hp)(s:Ap)(Q:VK)(u:Ak)(s':Ap):Prop:=
 ∃v H',s'.os=s.os/\AllBare s'.gens/\Un (iF outer) [] H H' s.heap s'.heap/\HOk P w H' s'.heap/\RelV v u/\Q v H'
def CR(CX:jn)(outer:List Env)(P:Bg)(w:B3)(H:Hp)(s:Ap)(Q:VK)(E:XK)(r:Result)(s':Ap):Prop:=
 match r with
 |.ok (.ret u)=>CE outer P w H s Q u s'
 |.ok _=>False
 |.error e=>CX outer H s E e s'
structure FnOk(P:Bg)(w:B3)(K:Ah)(mg:Str->Option Ak)(base:Heap)(CX:jn)(k:Nat)(f:Addr)(fd:Ct)(ps:List Str)(sp:Sp):Prop where
 len:∀vs H Q E,sp vs H Q E->vs.length=ps.length
 run:∀(A:Cj)(outer:List Env)(s:Ap)(H:Hp)(args:Args)(us:List Ak)(vs:List V)(Q:VK)(E:XK),Room k A->Env0 P w K mg base A outer s H->BindsTo s fd args (ps.zip us)->Vals vs us->sp vs H Q E->
  codeAny (Bh P w) A (.call (.ref f) args) (CR CX outer P w H s Q E) s
theorem FnOk.imp{K:Ah}(F:FnOk P w K mg base CX k f fd ps sp)
  (h:∀vs H Q E,sp' vs H Q E->sp vs H Q E):FnOk P w K mg base CX k f fd ps sp':=
 ⟨λvs H Q E q=>F.len vs H Q E (h _ _ _ _ q),λA outer s H args us vs Q E hr he hb hv hs=>F.run A outer s H args us vs Q E hr he hb hv (h _ _ _ _ hs)⟩
section
variable{X:Cx}{pins:List (Addr×Obj)}{σ:St}{H:Hp}{s s':Ap}
theorem Inv.env0(I:Inv X pins σ H s):Env0 X.prog X.w X.K X.mg X.base X.A X.stack s H:=
 ⟨I.ok.frames,I.ok.mod,I.bs,A2 I.ok.bsz I.sz,I.stack,I.stkFree,I.hok,I.bare⟩
theorem Inv.after(I:Inv X pins σ H s)(h:CE X.stack X.prog X.w H s Q u s'):EP X pins σ Q u s':=by
 obtain⟨v,H',os,bare,un,hok,r,q⟩:=h;obtain⟨hh,g,d,t,os'⟩:=s';obtain rfl:os'=s.os:=os;exact⟨v,H',I.call (h':=hh) (g':=g) (d':=d) (t':=t) (ch:=[]) un hok bare (λb z=>absurd z (by simp)),r,q⟩
end
def jD(sp:Sp)(dvs:List V)(E:XK)(t:TA):TE:=λσ H Q=>t σ H λvs H1=>sp (vs++dvs) H1 Q E
def Binds(K:Ah)(fd:Ct)(ps:List Str)(ds:List Ak):Prop:=
 ∀(s:Ap)(us:List Ak),K.In s.heap->(us++ds).length=ps.length->BindsTo s fd ⟨us,[]⟩ (ps.zip (us++ds))
theorem Binds.all{K:Ah}(h:∀us:List Ak,us.length=ps.length->bindArgs fd ⟨us,[]⟩=pure (ps.zip us)):Binds K fd ps []:=λs us _ hl=>by
 rw[Bw]at hl ⊢;exact .of_eq (h us hl)
def wH(CX:jn)(X:Cx)(E:XK):Prop:=∀(pins:List (Addr×Obj))(σ:St)(H:Hp)(s:Ap)(e:Ak)(s':Ap),Inv X pins σ H s->CX X.stack H s E e s'->X.xe e s'
section
variable{X:Cx}{CX:jn}{k:Nat}{f C:Addr}{fd:Ct}{ps:List Str}{sp:Sp}{dvs:List V}{ds:List Ak}{E:XK}{x m:Str}{p pos apos:Pos}{e o:Expr}{es:List Expr}{ta:TE}{t:TA}
theorem Vv{σ:St}(F:FnOk X.prog X.w X.K X.mg X.base CX k f fd ps sp)(hr:Room k X.A)(hb:Binds X.K fd ps ds)(hd:Vals dvs ds)(hx:wH CX X E)
  (I:Inv X pins σ H s) (r:Vals vs us) (h:sp (vs++dvs) H Q E):A9 (Bh X.prog X.w) X.A (call (.ref f) us) (EP X pins σ Q) X.xe s:=by
 have r2:Vals (vs++dvs) (us++ds):=r.append hd;have hl:(us++ds).length=ps.length:=by rw[<-r2.length];exact F.len _ _ _ _ h
 refine wpAny_call (codeAny_mono (F.run X.A X.stack s H ⟨us,[]⟩ (us++ds) (vs++dvs) Q E hr I.env0 (hb s us I.kIn hl) r2 h) λr s' hq=>?_);cases r with
 |error e=>exact hx pins σ H s e s' I hq
 |ok fl=>
  cases fl with
  |ret u=>exact I.after hq
  |next=>exact False.elim hq
  |brk=>exact False.elim hq
  |cont=>exact False.elim hq
theorem vL(F:FnOk X.prog X.w X.K X.mg X.base CX k f fd ps sp)(hr:Room k X.A)(hg:Gl X x)(hm:X.mg x=ae (.ref f))(hk:Cz X.K (.ref f)=ai)(hb:Binds X.K fd ps ds)(hd:Vals dvs ds)(hx:wH CX X E)
  (ha:PA X (e::es) t) (hdb:(x==("__debug__":Str))=aj:=by decide) (he:Au (e::es) X.env=(aj,eval e X.env)::Au es X.env:=by rfl) (hpl:(Cy pos (Au es X.env)).any (·.1)=aj:=by rfl):
  PE X (.Call (.Name x p) (e::es) [] pos) (jD sp dvs E t):=by
 intro pins s σ H Q I h;refine wpAny_Call_Name_kw (CH I hg hm ?_ hdb);refine PySem.W.callWith_K (h₀:=X.base) I.ok.mod.kin hk (a9 (ha pos pins s σ H _ I h) λus s1 ⟨vs,H1,I1,r,q⟩=>⟨I1.kIn,?_⟩) he hpl;exact Vv F hr hb hd hx I1 r q
end
structure FnScope(N P:List Str)(sc:Er):Prop where
 kind:sc.kind=.function
 co:sc.isCoroutine=aj
 gen:sc.isGenerator=aj
 nd:N.Nodup
 pre:N.take P.length=P
 par:∀x∈P,sc.names.lookup x=ae .local\/sc.names.lookup x=ae .cell
 nofree:∀y∈sc.names,y.2≠.free
theorem G0{kindOf:Str->Option NameKind}:∀{binds:List (Str×Ak)}{m:Str->Option Ak},(∀v,(x,v)∉binds)->bindL kindOf binds m x=m x
 |[],_,_=>rfl
 | (n,v)::r,m,h=>by
  unfold bindL;rw[G0 λw hw=>h w (Ar _ hw)]
  split
  ·have:x≠n:=by rintro rfl;exact h v As
   simp[this]
  ·rfl
theorem GO{kindOf:Str->Option NameKind}:∀{binds:List (Str×Ak)}{m:Str->Option Ak},(∀v,(x,v)∉binds)->bindC kindOf binds m x=m x
 |[],_,_=>rfl
 | (n,v)::r,m,h=>by
  unfold bindC;rw[GO λw hw=>h w (Ar _ hw)]
  split
  ·rfl
  ·have:x≠n:=by rintro rfl;exact h v As
   simp[this]
theorem Ib{kindOf:Str->Option NameKind}:∀{P:List Str}{vs:List Ak}{i:Nat}{m:Str->Option Ak},P.Nodup->P[i]?=ae x->vs[i]?=ae v->kindOf x=ae .local->
  bindL kindOf (P.zip vs) m x=ae v
 |[],_,_,_,_,h,_,_=>by simp at h
 |_::_,[],_,_,_,_,h,_=>by simp at h
 |p::P,w::vs,0,m,nd,h1,h2,hk=>by
  simp at h1 h2;subst h1;subst h2;show bindL kindOf ((p,w)::P.zip vs) m p=_;unfold bindL;rw[G0 λv hv=>(Ca.mp nd).1 (Eb hv).1,if_pos hk];simp
 |p::P,w::vs,i+1,m,nd,h1,h2,hk=>by
  show bindL kindOf ((p,w)::P.zip vs) m x=_;unfold bindL;exact Ib (i:=i) (Ca.mp nd).2 (by simpa using h1) (by simpa using h2) hk
theorem GK{kindOf:Str->Option NameKind}:∀{P:List Str}{vs:List Ak}{i:Nat}{m:Str->Option Ak},P.Nodup->P[i]?=ae x->vs[i]?=ae v->kindOf x≠ae .local->
  bindC kindOf (P.zip vs) m x=ae v
 |[],_,_,_,_,h,_,_=>by simp at h
 |_::_,[],_,_,_,_,h,_=>by simp at h
 |p::P,w::vs,0,m,nd,h1,h2,hk=>by
  simp at h1 h2;subst h1;subst h2;show bindC kindOf ((p,w)::P.zip vs) m p=_;unfold bindC;rw[GO λv hv=>(Ca.mp nd).1 (Eb hv).1,if_neg hk];simp
 |p::P,w::vs,i+1,m,nd,h1,h2,hk=>by
  show bindC kindOf ((p,w)::P.zip vs) m x=_;unfold bindC;exact GK (i:=i) (Ca.mp nd).2 (by simpa using h1) (by simpa using h2) hk
def start(N:List Str)(vs:List V):St:=vs.map ae++De (N.length-vs.length) ah
def eE(CX:jn)(P:Bg)(w:B3)(K:Ah)(mg:Str->Option Ak)(base:Heap)(N:List Str)(qual:Str)(scope:Er)(f:Addr)(cd:Ak)(A:Cj)(outer:List Env)(s:Ap)(H:Hp)(E:XK):Cx where
 prog:=P
 w:=w
 K:=K
 mg:=mg
 base:=base
 A:=A.deeper (envOfC qual scope s.heap.objs.size f cd)
 N:=N
 s₀:=s
 H₀:=H
 env:=envOfC qual scope s.heap.objs.size f cd
 outer:=outer
 stack:=envOfC qual scope s.heap.objs.size f cd::outer
 ex:=[]
 calm:=ai
 fn:=λ_=>ai
 pn:=[]
 xe:=λe s'=>A9 (Bh P w) (A.deeper (envOfC qual scope s.heap.objs.size f cd)) (leaving (envOfC qual scope s.heap.objs.size f cd) e) (λ_ s''=>CX outer H s E e s'') (λe' s''=>CX outer H s E e' s'') s'
theorem Hy{sc:Er}(h:sc.names.lookup x=ae .cell):∃c,(cellsFrom n sc.names []).lookup x=ae c:=by
 have q:=PySem.W.cellsFrom_some sc.names n [] (.inl h);exact Dm.mp q
theorem PV{K:Ah}{vs:List V}
  (S:FnScope N ps scope) (hd:A.handled=ah) (e0:Env0 P w K mg base A outer s H) (hl:vs.length=ps.length) (r:Vals vs us)
  (x:InCallC s s.heap.objs.size (bindL (envOfC qual scope s.heap.objs.size f cd).kindOf (ps.zip us) λ_=>ah) (cellsFrom (s.heap.objs.size+1) scope.names []) (bindC (envOfC qual scope s.heap.objs.size f cd).kindOf (ps.zip us) λ_=>ah) s1):
  Inv (eE CX P w K mg base N qual scope f cd A outer s H E) [] (start N vs) H s1:=by
 have hpl:ps.length<=N.length:=by have:=congrArg Dv S.pre;rw[Bn]at this;omega
 obtain⟨h1,tk,rfl,hk⟩:=x.done;have noA:∀b:Addr,b∉(eE CX P w K mg base N qual scope f cd A outer s H E).ex:=λb z=>absurd (show b∈([]:List Addr)from z) (by simp);refine⟨⟨e0.mod,S.kind,rfl,rfl,An _,λy z c h1 h2=>?_,λy hy=>?_,λy c _ h=>?_,λ_=>hd,Around.frames_deeper e0.frames,.inr ⟨rfl,rfl⟩,λb z=>absurd z (noA b),e0.bs,e0.bsz,λb _ _=>noA b,λb z=>absurd z (noA b),e0.funs,e0.frf⟩,
  rfl,e0.bare,Un.kept hk,⟨_,x.toInCall.ns,λi y v h1 h2 h3=>?_⟩,λy c h=>⟨_,x.cell y c h⟩,e0.hok.fresh (An _),λy c h=>?_,λp hp=>absurd (show p∈([]:List (Addr×Obj))from hp) (by simp),e0.hok.kept hk,?_⟩
 ·exact name_of_addr x.apart (Fc h1) (Fc h2)
 ·have hy:scope.names.lookup y=ae .cell\/scope.names.lookup y=ae .free:=hy;rcases hy with hy|hy
  ·exact Hy hy
  ·exact absurd rfl (S.nofree _ (Fc hy))
 ·exact F6 (x.above y c (Fc h))
 ·have hi:i < vs.length:=by
   unfold start at h2;by_cases hi:i < vs.length
   ·exact hi
   ·rw[Cb (by simpa using hi)]at h2;rw[Eh]at h2
    split at h2<;>cases h2
  have ha:vs[i]?=ae v:=by
   unfold start at h2;rw[Di (by simpa using hi),Aw]at h2;cases e:vs[i]? with
   |none=>rw[e]at h2;cases h2
   |some a=>rw[e]at h2;cases h2;rfl
  obtain⟨u,hu,rv⟩:=r.get ha;have hp:ps[i]?=ae y:=by
   rw[<-S.pre,List.getElem?_take_of_lt ⋯];exact h1
  have ndP:ps.Nodup:=by rw[<-S.pre];exact S.nd.sublist (List.take_sublist _ _)
  refine⟨u,rv,?_⟩;rcases S.par y (A4 hp)with k|k
  ·exact .inl ⟨k,Ib ndP hp hu k⟩
  ·obtain⟨c,e⟩:=Hy (n:=s.heap.objs.size+1) k;refine .inr ⟨.inl k,c,e,?_⟩;have q:=x.cell y c e;rw[GK ndP hp hu (by show scope.names.lookup y≠_;rw[k];decide)]at q;exact q
 ·exact e0.hok.fresh (F6 (x.above y c (Fc h)))
 ·unfold start;show _=N.length;rw[Ai,Ab,List.length_replicate];omega
theorem Qu{K:Ah}{dV kV doc pm cdv ct oc:Ak}
     (lk:K.lookup f=ae ⟨oc,od,.func (E3 name qual params body scope dV kV doc pm an cdv ct),osl⟩) (hcd:PySem.W.codeIn K cdv qual=ai) (S:FnScope N ps scope)
  (len:∀vs H Q E,sp vs H Q E->vs.length=ps.length)
  (hbody:∀(A:Cj)(outer:List Env)(s:Ap)(H:Hp)(vs:List V)(Q:VK)(E:XK),Room k (A.deeper (envOfC qual scope s.heap.objs.size f cdv))->sp vs H Q E->
   ∃t,PSs (eE CX P w K mg base N qual scope f cdv A outer s H E) body t/\t {nx:=λ_ H'=>Q .non H',rt:=Q} (start N vs) H):
  FnOk P w K mg base CX (k+1) f (E3 name qual params body scope dV kV doc pm an cdv ct) ps sp:=by
 refine⟨len,λA outer s H args us vs Q E hr e0 hb r hsp=>?_⟩;have hl:=len _ _ _ _ hsp;have KX:K.In s.heap:=e0.mod.kin.keeps λb o e=>(e0.bs b o e).1;have lim:s.heap.NoLimit:=e0.mod.nolimit.keeps λb o e=>(e0.bs b o e).1;have hkind:∀y∈ps.zip us,scope.names.lookup y.1=ae .local\/(scope.names.lookup y.1=ae .cell/\((cellsFrom (s.heap.objs.size+1) scope.names []).lookup y.1).isSome=ai):=λ⟨n,v⟩ hy=>by
  rcases S.par n (Eb hy).1 with q|q
  ·exact .inl q
  ·exact .inr ⟨q,PySem.W.cellsFrom_some _ _ _ (.inl q)⟩
 refine codeAny_call_function hr.depth (KX _ _ lk) rfl S.co S.gen rfl (PySem.W.codeRec_of KX hcd) (hb _ _ _ _ ?_);refine wpAny_newFunctionEnv_cells S.kind hkind λenv he s1 x=>?_;subst he;refine⟨lim.keeps x.toInCall.keep,codeAny_func ?_⟩;obtain⟨t,ht,hq⟩:=hbody A outer s H vs Q E (hr.deeper _) hsp;have I:Inv (eE CX P w K mg base N qual scope f cdv A outer s H E) [] (start N vs) H s1:=PV S hr.hd e0 hl r x;refine Dh (ht [] s1 (start N vs) H _ I hq) (λfl s' hs=>?_) λe s' hs=>hs;have fin:∀{σ':St}{H':Hp}{v:V}{u:Ak},Inv (eE CX P w K mg base N qual scope f cdv A outer s H E) [] σ' H' s'->RelV v u->Q v H'->CE outer P w H s Q u s':=
  λ{σ' H' v u} J rv q=>⟨v,H',J.os,J.bare,J.base,J.hok,rv,q⟩
 cases fl with
 |ret u=>
  obtain⟨v,σ',H',J,rv,q⟩:=hs;exact fin J rv q
 |next=>
  obtain⟨σ',H',J,q⟩:=hs;exact fin (v:=V.non) (u:=Bu) J rfl q
 |brk=>
  obtain⟨_,_,_,q⟩:=hs;exact False.elim q
 |cont=>
  obtain⟨_,_,_,q⟩:=hs;exact False.elim q
section
variable{X:Cx}{x:Str}{p pos:Pos}{e:Expr}{es:List Expr}{t:TA}{id T:String}{r:List V->Hp->VK->Prop}
def fU(r:List V->Hp->VK->Prop)(t:TA):TE:=λσ H Q=>t σ H λvs H1=>r vs H1 Q
theorem jP(hc:CallR X (.builtin id) r)(hg:Gl X x)(hm:X.mg x=ah)(hv:By x=ae (.builtin id))(ha:PA X (e::es) t)(hn:x≠"__name__":=by decide)(hdb:(x==("__debug__":Str))=aj:=by decide)
  (he:Au (e::es) X.env=(aj,eval e X.env)::Au es X.env:=by rfl) (hpl:(Cy pos (Au es X.env)).any (·.1)=aj:=by rfl):PE X (.Call (.Name x p) (e::es) [] pos) (fU r t):=by
 intro pins s σ H Q I h;refine wpAny_Call_Name_kw (mD I hg hm hv ?_ hn hdb);exact PyProof.Rows.callWith_builtin1 (a9 (ha pos pins s σ H _ I h) λus s1 ⟨vs,H1,I1,r1,q1⟩=>hc pins s1 σ H1 vs us Q I1 r1 q1) he hpl
theorem kI(hc:CallR X (.type T) r)(hg:Gl X x)(hm:X.mg x=ah)(hv:By x=ae (.type T))(ha:PA X (e::es) t)(hn:x≠"__name__":=by decide)(hdb:(x==("__debug__":Str))=aj:=by decide)
  (he:Au (e::es) X.env=(aj,eval e X.env)::Au es X.env:=by rfl) (hpl:(Cy pos (Au es X.env)).any (·.1)=aj:=by rfl):PE X (.Call (.Name x p) (e::es) [] pos) (fU r t):=by
 intro pins s σ H Q I h;refine wpAny_Call_Name_kw (mD I hg hm hv ?_ hn hdb);exact Ei (a9 (ha pos pins s σ H _ I h) λus s1 ⟨vs,H1,I1,r1,q1⟩=>hc pins s1 σ H1 vs us Q I1 r1 q1) he hpl
end
end L2
namespace HT
open PySem PyProof.Rows
section
variable{prog:Bg}{w:B3}{A:Cj}{E:Ak->Ap->Prop}{s:Ap}
theorem cat_tup(ht:IsTup s.heap t vs.toArray)(hb:IsTup s.heap b ws.toArray)(hv:vs≠[])
  (h1:ws=[]->Q (.ref t) s) (h2:ws≠[]->Q (.ref s.heap.objs.size) {s with heap:=s.heap.push {cls:=.type "tuple",data:=.seq (vs++ws).toArray}})
  (hsz:vs.length+ws.length<=Az):A9 (Bh prog w) A (Ep .Add (.ref t) (.ref b)) Q E s:=by
 obtain⟨⟨cls,dd,data,sl⟩,ho,hc,n,hd⟩:=id ht;obtain⟨⟨cls2,dd2,data2,sl2⟩,ho2,hc2,n2,hd2⟩:=id hb;simp only at hc hd hc2 hd2;subst hc hd hc2 hd2;have e:vs.toArray++ws.toArray=(vs++ws).toArray:=by simp
 by_cases hw:ws=[]
 ·exact concat_meets ⟨_,ho,rfl⟩ ⟨_,ho2,rfl⟩ noFill_tuple_add seq_tuple_add Fw Fn (Ff _ _)
   (tuple_addW1 t b vs.toArray ws.toArray n n2 dd dd2 sl sl2 (by simpa using hv) (by simp[hw])) ⟨ho,ho2,h1 hw⟩
 ·refine concat_meets ⟨_,ho,rfl⟩ ⟨_,ho2,rfl⟩ noFill_tuple_add seq_tuple_add Fw Fn (Ff _ _)
   (tuple_addW2 t b vs.toArray ws.toArray n n2 dd dd2 sl sl2 (by simpa using hv) (by simpa using hw) (by rw[A1,A1];exact hsz)) ⟨ho,ho2,?_⟩
  rw[e];exact h2 hw
def sIx(n d:Nat):Option Int->Nat
 |none=>d
 |some v=>if v < 0 then(v+(n:Int)).toNat else min v.toNat n
theorem sIx_none(n d):sIx n d ah=d:=rfl
theorem sIx_nat(n d k:Nat):sIx n d (ae (k:Int))=min k n:=by
 show(if (k:Int) < 0 then((k:Int)+(n:Int)).toNat else min (k:Int).toNat n)=min k n;rw[if_neg ⋯,Bi]
theorem PQ(n d)(hd:d<=n)(o):sIx n d o<=n:=by
 cases o with
 |none=>exact hd
 |some v=>
  show(if v < 0 then(v+(n:Int)).toNat else min v.toNat n)<=n;by_cases hv:v < 0
  ·rw[if_pos hv];omega
  ·rw[if_neg hv];exact Nat.min_le_right _ _
theorem Jl(v)(n d:Nat):(if v < 0 then max (v+(n:Int)) 0 else min v (n:Int))=((sIx n d (ae v):Nat):Int):=by
 show(if v < 0 then max (v+(n:Int)) 0 else min v (n:Int))=(((if v < 0 then(v+(n:Int)).toNat else min v.toNat n):Nat):Int);by_cases hv:v < 0
 ·simp only[if_pos hv];omega
 ·simp only[if_neg hv];omega
theorem PF(lo hi)(n:Nat):Da lo hi 1 (n:Int)=(((sIx n 0 lo:Nat):Int),((sIx n n hi:Nat):Int)):=by
 have h1:¬((1:Int) < 0):=by omega
 unfold Da;simp only[h1,if_false];refine Prod.ext ?_ ?_
 ·cases lo with
  |none=>rfl
  |some v=>exact Jl v n 0
 ·cases hi with
  |none=>rfl
  |some v=>exact Jl v n n
theorem Lc(i j:Nat):Cm (i:Int) (j:Int) 1=j-i:=by
 unfold Cm;have h1:(1:Int) > 0:=by omega
 simp only[h1,if_true,Int.ediv_one]
 split<;>omega
theorem ze(p:IsPart v o)(h:Q o s):A9 (Bh prog w) A (Builtin.Slice.slicePartIndex v) Q E s:=by
 cases p with
 |none=>exact slicePart_none h
 |int i t=>exact slicePart_int h
theorem FD{lo hi:Option Int}{Q:Int×Int×Nat->Ap->Prop}(hs:s.heap.IsSliceOf sl vl vu .none)(pl:IsPart vl lo)(pu:IsPart vu hi)
  (h:Q (((sIx n 0 lo:Nat):Int),1,sIx n n hi-sIx n 0 lo) s):A9 (Bh prog w) A (Em (.ref sl) (pure (n:Int))) Q E s:=by
 obtain⟨os,hos,hcs,hds⟩:=id hs;unfold Em Builtin.Slice.sliceFields;refine Ad (Ad (Cw hos hds (x:=vl) rfl (Ad (Cw hos hds (x:=vu) rfl (Ad (Cw hos hds (x:=.none) rfl (Ay ?_)))))));refine Ad (slicePart_none ?_);show A9 _ _ (if ((1:Int)==0)=ai then _ else _) _ _ s;rw[if_neg ∎];refine Ad (ze pl (Ad (ze pu (Ad (Ay ?_)))));show A9 _ _ (match Da lo hi 1 (n:Int)with|(lo,hi)=>pure (lo,(1:Int),Cm lo hi 1)) _ _ s;rw[PF lo hi n];show A9 _ _ (pure (((sIx n 0 lo:Nat):Int),(1:Int),Cm ((sIx n 0 lo:Nat):Int) ((sIx n n hi:Nat):Int) 1)) _ _ s;rw[Lc];exact Ay h
theorem Kn(xs:Array Ak)(i k:Nat):((A3 k).filterMap λ(m:Nat)=>xs[((i:Int)+(m:Int)*1).toNat]?).toArray=((xs.toList.drop i).take k).toArray:=by
 have e:(λ(m:Nat)=>xs[((i:Int)+(m:Int)*1).toNat]?)=λm=>xs[i+m]?:=by
  funext m
  have:((i:Int)+(m:Int)*1).toNat=i+m:=by omega
  rw[this]
 rw[e];have:=pick_run xs i k;rw[List.filterMap_map]at this;have e2:((λx=>xs[x]?) ∘ λx=>i+x)=λm=>xs[i+m]?:=rfl;rw[e2]at this;rw[this]
theorem getItem_tuple_cut{lo hi:Option Int}(ht:IsTup s.heap t items)(hs:s.heap.IsSliceOf sl vl vu .none)(pl:IsPart vl lo)(pu:IsPart vu hi)
  (hw:¬(sIx items.size 0 lo=0/\sIx items.size items.size hi=items.size))
  (h:Q (.ref s.heap.objs.size) {s with heap:=s.heap.push {cls:=.type "tuple",data:=.seq ((items.toList.drop (sIx items.size 0 lo)).take (sIx items.size items.size hi-sIx items.size 0 lo)).toArray}})
  (hsz:items.size<=Az):A9 (Bh prog w) A (getItem (.ref t) (.ref sl)) Q E s:=by
 have htake:sizeOk (.seq ((items.toList.drop (sIx items.size 0 lo)).take (sIx items.size items.size hi-sIx items.size 0 lo)).toArray):=by
  show((items.toList.drop (sIx items.size 0 lo)).take (sIx items.size items.size hi-sIx items.size 0 lo)).toArray.size<=Az;rw[A1,Bn,Br,Df];omega
 have hj:sIx items.size items.size hi<=items.size:=PQ _ _ (An _) hi;obtain⟨os,hos,hcs,hds⟩:=id hs;have hTs:s.TypeIs (.ref sl) "slice":=⟨os,hos,hcs⟩;unfold getItem
 try with_reducible refine Dy ?_
 first|refine Ad (Ay ?_)|skip
 refine Ad (wpAny_sequenceKey ht.typeIs ∎ ?_);refine Ad (Dd (name:=Fb "__getitem__") ht.typeIs Cq
  (D6 Cq ht.typeIs entry_tuple_getitem ?_ (args_tuple_getitem _ _)))
 show A9 _ _ (F9 (.ref t)>>=_) _ _ s;refine Ad (tupleItemsOf_ ht ?_);refine Ad (Fp hTs ?_);rw[if_pos ∎];refine Ad (FD hs pl pu ?_);have hno:¬((((sIx items.size 0 lo:Nat):Int)==0&&(1:Int)==1&&(sIx items.size items.size hi-sIx items.size 0 lo)==items.size)=ai):=by
  intro q;rw[Bf,Bf]at q;have q1:((sIx items.size 0 lo:Nat):Int)=0:=eq_of_beq q.1.1;have q2:sIx items.size items.size hi-sIx items.size 0 lo=items.size:=eq_of_beq q.2;exact hw ⟨by omega,by omega⟩
 show A9 _ _ (if (((sIx items.size 0 lo:Nat):Int)==0&&(1:Int)==1&&(sIx items.size items.size hi-sIx items.size 0 lo)==items.size)=ai then _ else _) _ _ s;rw[if_neg hno,Kn]
 first
  |exact Ad (m:=Cn _) (Cc (Ay ⟨_,rfl,Ay h⟩) htake)
  |exact Ad (m:=Cn _) (Cc (Ad (Ay (Ay ⟨_,rfl,Ay h⟩))) htake)
  |exact Ad (Ad (m:=Cn _) (Cc (Ay (Ay ⟨_,rfl,Ay h⟩)) htake))
  |exact Ad (Ad (m:=Cn _) (Cc (Ay ⟨_,rfl,Ay h⟩) htake))
end
end HT
namespace L2
open PySem PySem.Spec PyProof.Rows
abbrev TO:=St->Hp->(Option Int->Hp->Prop)->Prop
def PO(X:Cx)(e:Option Expr)(t:TO):Prop:=
 ∀(pins:List (Addr×Obj))(s:Ap)(σ:St)(H:Hp)(Q:Option Int->Hp->Prop),Inv X pins σ H s->t σ H Q->
  A9 (Bh X.prog X.w) X.A (evalPart e X.env) (λu s'=>∃o H',Inv X pins σ H' s'/\IsPart u o/\Q o H') X.xe s
def Gy:TO:=λ_ H Q=>Q ah H
def BV(t:TE):TO:=λσ H Q=>t σ H λx H1=>∃i,x=.int i/\Q (ae i) H1
section
variable{X:Cx}{e:Expr}{te:TE}{lo hi:Option Expr}{tl th:TO}{pos p2:Pos}
theorem BR:PO X ah Gy:=by
 intro pins s σ H Q I h;rw[evalPart_none];exact Ay ⟨ah,H,I,.none,h⟩
theorem Ha(h:PE X e te):PO X (ae e) (BV te):=by
 intro pins s σ H Q I hw;rw[evalPart_some];refine a9 (h pins s σ H _ I hw) λu s1 ⟨x,H1,I1,r1,q1⟩=>?_;obtain⟨i,rfl,q⟩:=q1;obtain⟨t,rfl⟩:=r1;exact⟨ae i,H1,I1,.int i t,q⟩
def SlR(X:Cx)(r:V->Option Int->Option Int->Hp->VK->Prop):Prop:=
 ∀(pins:List (Addr×Obj))(s:Ap)(σ:St)(H:Hp)(x:V)(v vl vu:Ak)(lo hi:Option Int)(sl:Addr)(Q:VK),Inv X pins σ H s->RelV x v->s.heap.IsSliceOf sl vl vu .none->IsPart vl lo->IsPart vu hi->r x lo hi H Q->
  ∃T id,typeLookup (.type T) "__getitem__"=pure (ae (.builtin id))/\s.TypeIs v T/\A9 (Bh X.prog X.w) X.A (getItem v (.ref sl)) (EP X pins σ Q) X.xe s
theorem SlR.or(h:SlR X r)(h':SlR X r'):SlR X (λx lo hi H Q=>r x lo hi H Q\/r' x lo hi H Q):=by
 intro pins s σ H x v vl vu lo hi sl Q I rx hs pl pu q;rcases q with q|q
 ·exact h pins s σ H x v vl vu lo hi sl Q I rx hs pl pu q
 ·exact h' pins s σ H x v vl vu lo hi sl Q I rx hs pl pu q
def qz(r:V->Option Int->Option Int->Hp->VK->Prop)(te:TE)(tl th:TO):TE:=λσ H Q=>te σ H λx H1=>tl σ H1 λl H2=>th σ H2 λu H3=>r x l u H3 Q
theorem rC(hr:SlR X r)(he:PE X e te)(hl:PO X lo tl)(hu:PO X hi th):PE X (.Subscript e (.Slice lo hi ah p2) pos) (qz r te tl th):=by
 intro pins s σ H Q I h;refine Subscript_ (a9 (he pins s σ H _ I h) λv s1 ⟨x,H1,I1,r1,q1⟩=>?_);refine wpAny_Slice (a9 (hl pins s1 σ H1 _ I1 q1) λvl s2 ⟨l,H2,I2,pl,q2⟩=>a9 (hu pins s2 σ H2 _ I2 q2) λvu s3 ⟨u,H3,I3,pu,q3⟩=>?_);rw[evalPart_none];refine Ay ?_;have I4:Inv X pins σ H3 {s3 with heap:=s3.heap.push {cls:=.type "slice",data:=.fields #[vl,vu,.none]}}:=I3.kept (t':=s3.toks) λb ob q=>Ag _ q;obtain⟨T,id,hT,ht,hg⟩:=hr pins {s3 with heap:=s3.heap.push {cls:=.type "slice",data:=.fields #[vl,vu,.none]}} σ H3 x v vl vu l u s3.heap.objs.size Q I4 r1 (Heap.IsSliceOf.new ..) pl pu q3;show A9 (Bh X.prog X.w) X.A (subscriptTail e (.Slice lo hi ah p2) v (.ref s3.heap.objs.size)) (EP X pins σ Q) X.xe {s3 with heap:=s3.heap.push {cls:=.type "slice",data:=.fields #[vl,vu,.none]}};exact tail_any (ops:=[.ref s3.heap.objs.size,v]) ht hT hg (by with_unfolding_all rfl)
def fe(xs:List V)(lo hi:Option Int):List V:=(xs.drop (HT.sIx xs.length 0 lo)).take (HT.sIx xs.length xs.length hi-HT.sIx xs.length 0 lo)
theorem pG(xs:List V)(lo hi):(fe xs lo hi).length<=xs.length:=by
 unfold fe;rw[Bn,Br];omega
def qc(K:Ah):V->Option Int->Option Int->Hp->VK->Prop:=λx lo hi H Q=>∃a xs,x=.ref a/\SqT K H a xs /\
 ¬(HT.sIx xs.length 0 lo=0/\HT.sIx xs.length xs.length hi=xs.length)/\∀p,H p=ah->Q (.ref p) (upd H p (.tup (fe xs lo hi)))
theorem sl_tup:SlR X (qc X.K):=by
 intro pins s σ H x v vl vu lo hi sl Q I rx hs pl pu h;obtain⟨a,xs,rfl,hx,hw,q⟩:=h;cases rx;obtain⟨its,r,ht,hz⟩:=I.tuple hx;have hlen:its.toArray.size=xs.length:=by rw[A1];exact r.length.symm
 refine⟨"tuple",_,PyProof.Rows.slot_tuple_getitem.lookup,ht.typeIs,?_⟩;refine HT.getItem_tuple_cut ht hs pl pu (by rw[hlen];exact hw) ?_ (by rw[hlen];exact hz);rw[hlen];refine⟨.ref s.heap.objs.size,_,I.laid (t':=s.toks) (o:=.tup (fe xs lo hi)) (λb ob q=>Ag _ q) (An _) ?_,rfl,q _ (I.hok.fresh (An _))⟩;exact⟨A2 (pG xs lo hi) hz,_,(r.drop (HT.sIx xs.length 0 lo)).take (HT.sIx xs.length xs.length hi-HT.sIx xs.length 0 lo),IsTupP.new _ _⟩
def zw(K:Ah):R2:=λx y H Q=>∃a b xs ys,x=.ref a/\y=.ref b/\SqT K H a xs/\SqT K H b ys/\xs≠[]/\xs.length+ys.length<=Az /\
 (ys=[]->Q (.ref a) H)/\(ys≠[]->∀p,H p=ah->Q (.ref p) (upd H p (.tup (xs++ys))))
theorem Vals.nil_iff(r:Vals xs us):us=[]↔xs=[]:=by
 cases r with
 |nil=>simp
 |cons _ _=>simp
theorem op_catT:OpR X (Ep .Add) (zw X.K):=by
 intro pins s σ H x y v u Q I rx ry h;obtain⟨a,b,xs,ys,rfl,rfl,ha,hb,hx,hz,q1,q2⟩:=h;cases rx;cases ry;obtain⟨its,r1,p1,_⟩:=I.tuple ha;obtain⟨its2,r2,p2,_⟩:=I.tuple hb;refine HT.cat_tup p1 p2 (λz=>hx (r1.nil_iff.mp z)) (λz=>⟨.ref a,H,I,rfl,q1 (r2.nil_iff.mp z)⟩) (λz=>?_) (by rw[<-r1.length,<-r2.length];exact hz);refine⟨.ref s.heap.objs.size,_,I.laid (t':=s.toks) (o:=.tup (xs++ys)) (λb ob q=>Ag _ q) (An _) ?_,rfl,q2 (λw=>z (r2.nil_iff.mpr w)) _ (I.hok.fresh (An _))⟩;exact⟨by rw[Ai];exact hz,_,r1.append r2,IsTupP.new _ _⟩
end
def fc(n:Nat)(i:Int):Option Nat:=if 0<=i then(if i < n then ae i.toNat else ah)else if -(n:Int)<=i then ae (i+n).toNat else ah
def cX{α:Type}(xs:List α)(i:Int):Option α:=(fc xs.length i).bind λj=>xs[j]?
theorem vZ(h:fc n i=ae j):seqIndex? i n=ae j/\j < n/\-(n:Int)<=i/\i < n:=by
 unfold fc at h;by_cases h0:0<=i
 ·rw[if_pos h0]at h;by_cases h1:i < n
  ·rw[if_pos h1]at h;have e:i.toNat=j:=A8 h;exact⟨by rw[seqIndex_of h0 h1,e],by omega,by omega,h1⟩
  ·rw[if_neg h1]at h;cases h
 ·rw[if_neg h0]at h;by_cases h1:-(n:Int)<=i
  ·rw[if_pos h1]at h;have e:(i+n).toNat=j:=A8 h;exact⟨by rw[seqIndex_neg ⋯ h1,e],by omega,h1,by omega⟩
  ·rw[if_neg h1]at h;cases h
theorem vx(h:cX xs i=ae v):∃j,seqIndex? i xs.length=ae j/\xs[j]?=ae v/\j < xs.length/\-(xs.length:Int)<=i/\i < xs.length:=by
 unfold cX at h;cases e:fc xs.length i with
 |none=>rw[e]at h;cases h
 |some j=>
  rw[e]at h;obtain⟨h1,h2,h3,h4⟩:=vZ e;exact⟨j,h1,h,h2,h3,h4⟩
theorem fG{j:Nat}(h:xs[j]?=ae v):cX xs (j:Int)=ae v:=by
 have hj:j < xs.length:=(Av.mp h).1;have e:fc xs.length (j:Int)=ae j:=by
  unfold fc;rw[if_pos ⋯,if_pos ⋯];simp
 unfold cX;rw[e];exact h
def mY(b:Expr):Prop:=∀o i,subscripted b aj o i=operate [o,i] (getItem o i)
def IxR(X:Cx)(r:R2):Prop:=
 ∀(value slice:Expr)(pins:List (Addr×Obj))(s:Ap)(σ:St)(H:Hp)(x y:V)(v u:Ak)(Q:VK),Inv X pins σ H s->RelV x v->RelV y u->r x y H Q->
  subscripted slice aj v u=operate [v,u] (getItem v u)->A9 (Bh X.prog X.w) X.A (subscriptTail value slice v u) (EP X pins σ Q) X.xe s
def uN(X:Cx)(id:String)(r:V->List V->Hp->VK->Prop):Prop:=
 ∀(pins:List (Addr×Obj))(s:Ap)(σ:St)(H:Hp)(x:V)(xs:List V)(v:Ak)(us:List Ak)(Q:VK),Inv X pins σ H s->RelV x v->Vals xs us->r x xs H Q->
  A9 (Bh X.prog X.w) X.A (call (.builtin id) (v::us)) (EP X pins σ Q) X.xe s
section
variable{X:Cx}{a b:Expr}{ta tb:TE}{pos:Pos}
theorem IxR.or(h:IxR X r)(h':IxR X r'):IxR X (λx y H Q=>r x y H Q\/r' x y H Q):=by
 intro value slice pins s σ H x y v u Q I rx ry q hs;rcases q with q|q
 ·exact h value slice pins s σ H x y v u Q I rx ry q hs
 ·exact h' value slice pins s σ H x y v u Q I rx ry q hs
theorem gZ(hr:IxR X r)(ha:PE X a ta)(hb:PE X b tb)(hs:mY b):PE X (.Subscript a b pos) (d3 r ta tb):=by
 intro pins s σ H Q I h;exact Subscript_ (l4 ha hb I h λv u s2 x y H2 I2 rx ry q=>hr a b pins s2 σ H2 x y v u Q I2 rx ry q (hs _ _))
def pj(K:Ah):R2:=λx y H Q=>∃p xs i v,x=.ref p/\y=.int i/\SqL K H p xs/\cX xs i=ae v/\Q v H
def o9(K:Ah):R2:=λx y H Q=>∃p xs i v,x=.ref p/\y=.int i/\SqT K H p xs/\cX xs i=ae v/\Q v H
def nM:R2:=λx y H Q=>∃z i c,x=.str z/\y=.int i/\z.length<=Az/\cX z.cps.toList i=ae c/\Q (.str ⟨#[c]⟩) H
theorem ix_list:IxR X (pj X.K):=by
 intro value slice pins s σ H x y v u Q I rx ry h hs;obtain⟨p,xs,i,z,rfl,rfl,hq,he,q⟩:=h;cases rx;obtain⟨t,rfl⟩:=ry;obtain⟨its,r,pl,hz⟩:=I.list hq;obtain⟨j,h1,h2,h3,h4,h5⟩:=vx he;obtain⟨w,ew,rw'⟩:=r.get h2;have hl:=r.length;have hn:=nv;have fin:EP X pins σ Q w s:=⟨z,H,I,rw',q⟩;by_cases h0:0<=i
 ·have hj:i.toNat=j:=by
   rw[seqIndex_of h0 h5]at h1;exact A8 h1
  exact item_listR pl.isList h0 ⋯ (by rw[hj];simpa using ew) fin hs
 ·have hj:(i+(its.toArray.size:Int)).toNat=j:=by
   rw[seqIndex_neg ⋯ h4]at h1;rw[A1,<-hl];exact A8 h1
  exact subscriptTail_builtinR (x:=w) pl.isList.typeIs slot_list_getitem.lookup
   (wpAny_getItem_list_neg (Q:=λr s'=>r=w/\EP X pins σ Q r s') pl.isList ⋯ (by rw[A1]<;>omega) ⋯ (by rw[hj];simpa using ew) ⟨rfl,fin⟩) hs
theorem ix_tup:IxR X (o9 X.K):=by
 intro value slice pins s σ H x y v u Q I rx ry h hs;obtain⟨p,xs,i,z,rfl,rfl,hq,he,q⟩:=h;cases rx;obtain⟨t,rfl⟩:=ry;obtain⟨its,r,pl,hz⟩:=I.tuple hq;obtain⟨j,h1,h2,h3,h4,h5⟩:=vx he;obtain⟨w,ew,rw'⟩:=r.get h2;have hl:=r.length;have hn:=nv;have fin:EP X pins σ Q w s:=⟨z,H,I,rw',q⟩;exact subscriptTail_builtinR (x:=w) pl.typeIs slot_tuple_getitem.lookup
  (getItem_tuple (j:=j) (Q:=λr s'=>r=w/\EP X pins σ Q r s') pl ⋯ ⋯ (by rw[A1,<-hl];exact h1) (by simpa using ew) ⟨rfl,fin⟩) hs
theorem Tc:IxR X nM:=by
 intro value slice pins s σ H x y v u Q I rx ry h hs;obtain⟨z,i,c,rfl,rfl,hz,he,q⟩:=h;obtain⟨t,rfl⟩:=rx;obtain⟨t',rfl⟩:=ry;obtain⟨j,h1,h2,h3,h4,h5⟩:=vx he;have hl:z.cps.toList.length=z.length:=by simp[Str.length]
 rw[hl]at h1 h4 h5;have hn:=nv;exact tail_any (typeIs_str s z t) slot_str_getitem.lookup (getItem_str (c:=c) (by
  have e1:decide (i < -(2 ^ 63:Int))=aj:=decide_eq_false ⋯;have e2:decide (i ≥ 2 ^ 63)=aj:=decide_eq_false ⋯;rw[e1,e2,Bool.or_false]) (by rw[h1];simpa using h2) ⟨.str ⟨#[c]⟩,H,I.tok _,⟨_,rfl⟩,q⟩) hs
def kA(K:Ah):R2:=λx y H Q=>pj K x y H Q\/o9 K x y H Q\/nM x y H Q
theorem sN:IxR X (kA X.K):=ix_list.or (ix_tup.or Tc)
theorem Rk(its:List Ak)(n j)(u):Cs (·.setIfInBounds j u) {cls:=.type "list",data:=.seq its.toArray n}={ cls:=.type "list",data:=.seq (its.set j u).toArray n}:=by
 simp[Cs]
theorem Inv.lst{σ:St}{H:Hp}{s:Ap}{p:Addr}{xs:List V}(I:Inv X pins σ H s)(h:H p=ae (.lst xs)):
  ∃(its:List Ak)(n:Nat),Vals xs its/\s.heap.get? p=ae {cls:=.type "list",data:=.seq its.toArray n}/\xs.length<=Az:=by
 obtain⟨z,its,n,r,e⟩:=I.hok p _ h;exact⟨its,n,r,e,z⟩
theorem Inv.lstUpd{σ:St}{its its':List Ak}(I:Inv X pins σ H s)(h:H p=ae (.lst xs))
  (ho:s.heap.get? p=ae {cls:=.type "list",data:=.seq its.toArray n}) (hf:f {cls:=.type "list",data:=.seq its.toArray n}={ cls:=.type "list",data:=.seq its'.toArray n'}) (r:Vals ys its') (hz:ys.length<=Az) (t):
  Inv X pins σ (upd H p (.lst ys)) {s with heap:=s.heap.update p f,toks:=t}:=by
 have e:(s.heap.update p f).get? p=ae {cls:=.type "list",data:=.seq its'.toArray n'}:=by
  rw[Heap.get?_update_self f ho (by rw[hf]<;>rfl),hf]
 refine I.write (x:=p) (e:=p) (by rw[h];trivial) (.inl rfl) (λb u hb q=>(Heap.get?_update_other _ _ (Ne.symm hb)).trans q) ⟨_,e⟩ ?_;exact⟨hz,its',n',r,e⟩
def rB:V->V->V->Hp->(Hp->Prop)->Prop:=λo i v H Q=>∃p xs k j,o=.ref p/\i=.int k/\H p=ae (.lst xs)/\fc xs.length k=ae j/\Q (upd H p (.lst (xs.set j v)))
theorem m3:pU X rB:=by
 intro pins s σ H o i v ov iv u Q I ro ri rv h;obtain⟨p,xs,k,j,rfl,rfl,hp,hj,q⟩:=h;cases ro;obtain⟨t,rfl⟩:=ri;obtain⟨its,n,r,ho,hz⟩:=I.lst hp;obtain⟨h1,h2,h3,h4⟩:=vZ hj;have hl:=r.length;have hn:=nv;have I':Inv X pins σ (upd H p (.lst (xs.set j v))) {s with heap:=s.heap.update p (Cs (·.setIfInBounds j u))}:=
  I.lstUpd hp ho (Rk its n j u) (r.set rv j) (by rw[B1];exact hz) s.toks
 by_cases h0:0<=k
 ·have hk:k.toNat=j:=by
   rw[seqIndex_of h0 h4]at h1;exact A8 h1
  exact PySem.W.ki_setAt ho h0 ⋯ (by rw[A1,<-hl];exact h4) (by rw[hk];exact⟨_,I',q⟩)
 ·have hk:(k+(its.toArray.size:Int)).toNat=j:=by
   rw[seqIndex_neg ⋯ h3]at h1;rw[A1,<-hl];exact A8 h1
  exact PySem.W.ki_setBack ho ⋯ (by rw[A1,<-hl];exact h3) ⋯ (by rw[hk];exact⟨_,I',q⟩)
theorem Sq(lo hi)(n):(Gh lo hi ah n).1=((HT.sIx n 0 lo:Nat):Int)/\(Gh lo hi ah n).2.1=((HT.sIx n n hi:Nat):Int)/\(Gh lo hi ah n).2.2=1:=by
 refine⟨?_,?_,rfl⟩
 ·cases lo with
  |none=>simp[Gh,HT.sIx]
  |some i=>
   simp only[Gh,HT.sIx,Option.getD_none,show(1:Int) > 0 by decide,if_true];by_cases h:i < 0
   ·simp only[h,if_true]<;>omega
   ·simp only[h,if_false]<;>omega
 ·cases hi with
  |none=>simp[Gh,HT.sIx]
  |some i=>
   simp only[Gh,HT.sIx,Option.getD_none,show(1:Int) > 0 by decide,if_true];by_cases h:i < 0
   ·simp only[h,if_true]<;>omega
   ·simp only[h,if_false]<;>omega
theorem OK(its:List Ak)(lo hi):slicePick its.toArray lo hi ah=((its.drop (HT.sIx its.length 0 lo)).take (HT.sIx its.length its.length hi-HT.sIx its.length 0 lo)).toArray:=by
 obtain⟨h1,h2,h3⟩:=Sq lo hi its.toArray.size;unfold slicePick;rw[h1,h2,h3];simp only[sliceRange_one,pick_run,A1]<;>rfl
def lR(K:Ah):V->Option Int->Option Int->Hp->VK->Prop:=λx lo hi H Q=>∃a xs,x=.ref a/\SqL K H a xs/\∀p,H p=ah->Q (.ref p) (upd H p (.lst (fe xs lo hi)))
theorem uP:SlR X (lR X.K):=by
 intro pins s σ H x v vl vu lo hi sl Q I rx hs pl pu h;obtain⟨a,xs,rfl,hx,q⟩:=h;cases rx;obtain⟨its,r,ht,hz⟩:=I.list hx;have hlen:=r.length;refine⟨"list",_,slot_list_getitem.lookup,ht.isList.typeIs,?_⟩;refine wpAny_getItem_list_slice ht.isList hs pl pu .none (by simp) ?_ (by rw[A1]<;>omega);rw[OK,<-hlen];refine⟨.ref s.heap.objs.size,_,I.laid (t':=s.toks) (o:=.lst (fe xs lo hi)) (λb ob q=>Ag _ q) (An _) ?_,rfl,q _ (I.hok.fresh (An _))⟩;exact⟨A2 (pG xs lo hi) hz,_,0,(r.drop (HT.sIx xs.length 0 lo)).take (HT.sIx xs.length xs.length hi-HT.sIx xs.length 0 lo),A5 _ rfl⟩
def iL:V->Bool
 |.non=>ai
 |.bl _=>ai
 |.int _=>ai
 |.str _=>ai
 |_=>aj
def jo:V->V->Bool
 |.non,.non=>ai
 |.bl a,.bl b=>a==b
 |.bl a,.int b=>(if a then 1 else 0)==b
 |.int a,.bl b=>a==(if b then 1 else 0)
 |.int a,.int b=>a==b
 |.str a,.str b=>a==b
 |_,_=>aj
theorem Jq(ry:RelV y u)(rx:RelV x v)(fy:iL y=ai)(fx:iL x=ai):SeqAt.EqAt A s u v (jo y x):=by
 cases y with
 |non=>
  cases ry;cases x with
  |non=>cases rx;exact SeqAt.EqAt.same _
  |bl b=>cases rx;exact SeqAt.EqAt.none_bool b
  |int b=>obtain⟨t,rfl⟩:=rx;exact SeqAt.EqAt.none_int b t
  |str b=>obtain⟨t,rfl⟩:=rx;exact SeqAt.EqAt.none_str b t
  |_=>exact absurd (show aj=ai from fx) Ae
 |bl a=>
  cases ry;cases x with
  |non=>cases rx;exact SeqAt.EqAt.bool_none a
  |bl b=>cases rx;exact SeqAt.EqAt.bool_bool a b
  |int b=>obtain⟨t,rfl⟩:=rx;exact SeqAt.EqAt.bool_int a b t
  |str b=>obtain⟨t,rfl⟩:=rx;exact SeqAt.EqAt.bool_str a b t
  |_=>exact absurd (show aj=ai from fx) Ae
 |int a=>
  obtain⟨t',rfl⟩:=ry;cases x with
  |non=>cases rx;exact SeqAt.EqAt.int_none a t'
  |bl b=>cases rx;exact SeqAt.EqAt.int_bool a t' b
  |int b=>obtain⟨t,rfl⟩:=rx;exact SeqAt.EqAt.int_int a t' b t
  |str b=>obtain⟨t,rfl⟩:=rx;exact SeqAt.EqAt.int_str a t' b t
  |_=>exact absurd (show aj=ai from fx) Ae
 |str a=>
  obtain⟨t',rfl⟩:=ry;cases x with
  |non=>cases rx;exact SeqAt.EqAt.str_none a t'
  |bl b=>cases rx;exact SeqAt.EqAt.str_bool a t' b
  |int b=>obtain⟨t,rfl⟩:=rx;exact SeqAt.EqAt.str_int a t' b t
  |str b=>obtain⟨t,rfl⟩:=rx;exact SeqAt.EqAt.str_str a t' b t
  |_=>exact absurd (show aj=ai from fx) Ae
 |_=>exact absurd (show aj=ai from fy) Ae
def gQ(x:V)(u:Ak):Bool:=match u with
 |.none=>jo .non x
 |.bool b=>jo (.bl b) x
 |.int i _=>jo (.int i) x
 |.str z _=>jo (.str z) x
 |_=>aj
theorem zd(r:RelV y u)(f:iL y=ai):gQ x u=jo y x:=by
 cases y with
 |non=>cases r;rfl
 |bl b=>cases r;rfl
 |int i=>obtain⟨t,rfl⟩:=r;rfl
 |str z=>obtain⟨t,rfl⟩:=r;rfl
 |_=>exact absurd (show aj=ai from f) Ae
theorem pY:∀{xs:List V}{us:List Ak},Vals xs us->xs.all iL=ai->us.any (gQ x)=xs.any λy=>jo y x
 |_,_,.nil,_=>rfl
 |y::xs,u::us,.cons r t,f=>by
  rw[List.all_cons,Bf]at f;rw[C5,C5,zd r f.1,pY t f.2]
theorem pA(rx:RelV x v)(fx:iL x=ai):∀{xs:List V}{us:List Ak},Vals xs us->xs.all iL=ai->∀u∈us,SeqAt.EqAt A s u v (gQ x u)
 |_,_,.nil,_=>λu hu=>by cases hu
 |y::xs,u::us,.cons r t,f=>λu' hu=>by
  rw[List.all_cons,Bf]at f;rcases Ao.mp hu with rfl|hu
  ·rw[zd r f.1];exact Jq r rx f.1 fx
  ·exact pA rx fx t f.2 u' hu
def rj(x:V)(xs:List V):Bool:=xs.any λy=>jo y x
def iO(K:Ah)(neg:Bool):R2:=λx y H Q=>∃p xs,y=.ref p/\(SqL K H p xs\/SqT K H p xs)/\iL x=ai/\xs.all iL=ai/\Q (.bl (if neg then !rj x xs else rj x xs)) H
theorem Lf:OpR X (Bx .In) (iO X.K aj):=by
 intro pins s σ H x y v u Q I rx ry h;obtain⟨p,xs,rfl,hq,fx,fs,q⟩:=h;cases ry;rcases hq with hq|hq
 ·obtain⟨its,r,pl,hz⟩:=I.list hq;refine SeqAt.in_listAt (gQ x) pl.isList (λw hw=>pA rx fx r fs w (by simpa using hw)) ⟨.bl _,H,I,rfl,?_⟩;rw[show its.toArray.any (gQ x)=its.any (gQ x) by simp,pY r fs];exact q
 ·obtain⟨its,r,pl,hz⟩:=I.tuple hq;refine SeqAt.in_tupleAt (gQ x) pl (λw hw=>pA rx fx r fs w (by simpa using hw)) ⟨.bl _,H,I,rfl,?_⟩;rw[show its.toArray.any (gQ x)=its.any (gQ x) by simp,pY r fs];exact q
theorem PN:OpR X (Bx .NotIn) (iO X.K ai):=by
 intro pins s σ H x y v u Q I rx ry h;obtain⟨p,xs,rfl,hq,fx,fs,q⟩:=h;cases ry;rcases hq with hq|hq
 ·obtain⟨its,r,pl,hz⟩:=I.list hq;refine SeqAt.notIn_listAt (gQ x) pl.isList (λw hw=>pA rx fx r fs w (by simpa using hw)) ⟨.bl _,H,I,rfl,?_⟩;rw[show its.toArray.any (gQ x)=its.any (gQ x) by simp,pY r fs];exact q
 ·obtain⟨its,r,pl,hz⟩:=I.tuple hq;refine SeqAt.notIn_tupleAt (gQ x) pl (λw hw=>pA rx fx r fs w (by simpa using hw)) ⟨.bl _,H,I,rfl,?_⟩;rw[show its.toArray.any (gQ x)=its.any (gQ x) by simp,pY r fs];exact q
theorem sj:CallR X (.builtin "len") (λxs H Q=>∃p ys,xs=[.ref p]/\(SqL X.K H p ys\/SqT X.K H p ys)/\Q (.int ys.length) H):=by
 intro pins s σ H xs us Q I r h;obtain⟨p,ys,rfl,hq,q⟩:=h;obtain⟨u,rfl,rx⟩:=gX r;cases rx;have hn:=nv;rcases hq with hq|hq
 ·obtain⟨its,r',pl,hz⟩:=I.list hq;have hlen:=r'.length;exact Calls.call_len_list pl.isList (by simp only[A1]<;>omega) ⟨.int ys.length,H,I.tok _,⟨s.toks+1,by rw[A1,hlen]⟩,q⟩
 ·obtain⟨its,r',pl,hz⟩:=I.tuple hq;have hlen:=r'.length;exact len_tuple pl (by simp only[A1]<;>omega) ⟨.int ys.length,H,I.tok _,⟨s.toks+1,by rw[A1,hlen]⟩,q⟩
theorem call_len_str:CallR X (.builtin "len") (λxs H Q=>∃z,xs=[.str z]/\z.length<=Az/\Q (.int z.length) H):=by
 intro pins s σ H xs us Q I r h;obtain⟨z,rfl,hz,q⟩:=h;obtain⟨u,rfl,t,rfl⟩:=gX r;have hn:=nv;exact len_str ⋯ ⟨.int z.length,H,I.tok _,⟨_,rfl⟩,q⟩
theorem CallR.or(h:CallR X f r)(h':CallR X f r'):CallR X f (λxs H Q=>r xs H Q\/r' xs H Q):=by
 intro pins s σ H xs us Q I rs q;rcases q with q|q
 ·exact h pins s σ H xs us Q I rs q
 ·exact h' pins s σ H xs us Q I rs q
theorem U7:CallR X (.type "list") (λxs H Q=>∃p ys,xs=[.ref p]/\(SqL X.K H p ys\/SqT X.K H p ys)/\∀l,H l=ah->Q (.ref l) (upd H l (.lst ys))):=by
 intro pins s σ H xs us Q I r h;obtain⟨p,ys,rfl,hq,q⟩:=h;obtain⟨u,rfl,rx⟩:=gX r;cases rx;have fin:∀(its:List Ak),Vals ys its->ys.length<=Az->∀(h':Heap)(c':Nat),(∀b o',s.heap.get? b=ae o'->h'.get? b=ae o')->
   h'.get? s.heap.objs.size=ae {cls:=.type "list",dict:=ah,data:=.seq its.toArray c',slots:=#[]}->EP X pins σ Q (.ref s.heap.objs.size) {s with heap:=h'}:=λits r' hz h' c' kp e=>
  ⟨.ref s.heap.objs.size,_,I.laid (t':=s.toks) kp (An _) (show ObjOk X.prog X.w _ h' _ (.lst ys)from⟨hz,its,c',r',e⟩),rfl,q _ (I.hok.fresh (An _))⟩
 rcases hq with hq|hq
 ·obtain⟨its,r',pl,hz⟩:=I.list hq;have hlen:=r'.length;obtain⟨o,ho,hc,n,hd⟩:=pl.isList;exact call_list_seq p (.inl rfl) ho hc hd (λh' c' kp e=>fin its r' hz h' c' kp e) (by simp only[A1]<;>omega)
 ·obtain⟨its,r',pl,hz⟩:=I.tuple hq;have hlen:=r'.length;obtain⟨o,ho,hc,n,hd⟩:=pl;exact call_list_seq p (.inr rfl) ho hc hd (λh' c' kp e=>fin its r' hz h' c' kp e) (by simp only[A1]<;>omega)
theorem Lr:CallR X (.type "tuple") (λxs H Q=>∃p ys,xs=[.ref p]/\((SqL X.K H p ys/\∀l,H l=ah->Q (.ref l) (upd H l (.tup ys)))\/(SqT X.K H p ys/\Q (.ref p) H))):=by
 intro pins s σ H xs us Q I r h;obtain⟨p,ys,rfl,h⟩:=h;obtain⟨u,rfl,rx⟩:=gX r;cases rx;rcases h with⟨hq,q⟩|⟨hq,q⟩
 ·obtain⟨its,r',pl,hz⟩:=I.list hq;have hlen:=r'.length;refine call_tuple_list pl.isList (λh' kp=>?_) (by simp only[A1]<;>omega);have I1:Inv X pins σ H {s with heap:=h'}:=I.kept (t':=s.toks) kp;have I2:Inv X pins σ (upd H h'.objs.size (.tup ys)) {s with heap:=h'.push {cls:=.type "tuple",data:=.seq its.toArray}}:=
   I1.laid (t':=s.toks) (λb o e=>Ag _ e) (An _) (show ObjOk X.prog X.w _ _ _ (.tup ys)from⟨hz,its,r',IsTupP.new _ _⟩)
  exact⟨.ref h'.objs.size,_,I2,rfl,q _ (I1.hok.fresh (An _))⟩
 ·obtain⟨its,r',pl,hz⟩:=I.tuple hq;exact call_tuple_same pl ⟨.ref p,H,I,rfl,q⟩
def xO(K:Ah)(T:String)(x:V)(H:Hp):Prop:=match x with
 |.str _=>T="str"
 |.int _=>T="int"
 |.ref p=>(T="list"/\∃xs,SqL K H p xs)\/(T="tuple"/\∃o,K.lookup p=ae o/\o.cls=.type "tuple"/\o.dict=ah) \/
   (T="dict"/\((∃kvs,H p=ae (.dK kvs))\/∃kvs,H p=ae (.dT kvs)))\/(T="set"/\∃S n,H p=ae (.set S n))
 |_=>False
theorem HE{σ:St}(I:Inv X pins σ H s)(r:RelV x v)(ty:xO X.K T x H):
  s.TypeIs v T/\∀a,v=.ref a->∃ob,s.heap.get? a=ae ob/\ob.dict=ah:=by
 cases x with
 |str z=>
  obtain⟨t,rfl⟩:=r;cases(show T="str" from ty);exact⟨typeIs_str s z t,λ_ e=>nomatch e⟩
 |int i=>
  obtain⟨t,rfl⟩:=r;cases(show T="int" from ty);exact⟨typeIs_int s i t,λ_ e=>nomatch e⟩
 |ref p=>
  cases r;rcases ty with⟨rfl,xs,hq⟩|⟨rfl,o,hk,hc,hd⟩|⟨rfl,hk⟩|⟨rfl,S,n,hk⟩
  ·obtain⟨its,_,pl,_⟩:=I.list hq;refine⟨pl.isList.typeIs,λa e=>?_⟩;cases e;obtain⟨o,n,e,c,hd,_⟩:=pl;exact⟨o,e,hd⟩
  ·refine⟨⟨o,I.kIn p o hk,hc⟩,λa e=>?_⟩;cases e;exact⟨o,I.kIn _ o hk,hd⟩
  ·have z:∃o,s.heap.get? p=ae o/\o.ExactDict:=by
    rcases hk with⟨kvs,hk⟩|⟨kvs,hk⟩
    ·obtain⟨_,_,_,_,o,_,_,e,ex,_⟩:=I.hok p _ hk;exact⟨o,e,ex⟩
    ·obtain⟨_,_,_,_,o,_,_,e,ex,_⟩:=I.hok p _ hk;exact⟨o,e,ex⟩
   obtain⟨o,e,ex⟩:=z;refine⟨⟨o,e,ex.1⟩,λa e2=>?_⟩;cases e2;exact⟨o,e,ex.2.1⟩
  ·obtain⟨o,_,_,_,e,ex,_⟩:=I.hok p _ hk;refine⟨⟨o,e,ex.1⟩,λa e2=>?_⟩;cases e2;exact⟨o,e,ex.2.1⟩
 |_=>exact False.elim ty
def pO(K:Ah)(T:String)(r:V->List V->Hp->VK->Prop)(to:TE):TE:=λσ H Q=>to σ H λx H1=>xO K T x H1/\r x [] H1 Q
def sX(K:Ah)(T:String)(r:V->List V->Hp->VK->Prop)(to:TE)(t:TA):TE:=λσ H Q=>to σ H λx H1=>xO K T x H1/\t σ H1 λxs H2=>r x xs H2 Q
variable{o e:Expr}{es:List Expr}{to:TE}{t:TA}{name:Str}{apos cpos:Pos}{T id:String}{r:V->List V->Hp->VK->Prop}
theorem UU(pa:PlainAttrs T)(slot:Slot T name id)(hty:typeOf (.builtin id)=pure (.type "method_descriptor"))(hm:uN X id r)(ho:PE X o to)
  (hbase:E4 o name X.env (eval o X.env)=eval o X.env:=by rfl) (hline:(apos.endLine==cpos.line)=ai:=by rfl):PE X (.Call (.Attribute o name apos) [] [] cpos) (pO X.K T r to):=by
 intro pins s σ H Q I h;refine wpAny_Call_method0_late hbase hline (a9 (ho pins s σ H _ I h) λv s1 ⟨x,H1,I1,r1,ty,q1⟩=>?_);obtain⟨h1,h2⟩:=HE I1 r1 ty;exact⟨T,id,pa,slot,hty,h1,h2,Calls.callWith_builtin rfl (PySem.evalArgs_none (hm pins s1 σ H1 x [] v [] Q I1 r1 .nil q1))⟩
theorem yd(pa:PlainAttrs T)(slot:Slot T name id)(hty:typeOf (.builtin id)=pure (.type "method_descriptor"))(hm:uN X id r)(ho:PE X o to)(ha:PA X (e::es) t)
  (hbase:E4 o name X.env (eval o X.env)=eval o X.env:=by rfl)
  (hfew:((Cy cpos (Au (e::es) X.env)).all (λx=>!x.1)&&(backToKw cpos (keywordEach [] X.env)).all (λx=>x.1.isSome)
   && decide ((e::es).length+([]:List Keyword).length+(if ([]:List Keyword).isEmpty then 0 else 1) < 30))=ai:=by rfl)
  (hline:(apos.endLine==cpos.line)=ai:=by rfl) (hs:Au (e::es) X.env=(aj,eval e X.env)::Au es X.env:=by rfl) (hplain:(Cy cpos (Au es X.env)).any (·.1)=aj:=by rfl):
  PE X (.Call (.Attribute o name apos) (e::es) [] cpos) (sX X.K T r to t):=by
 intro pins s σ H Q I h;refine wpAny_Call_method_late hbase hfew hline rfl (a9 (ho pins s σ H _ I h) λv s1 ⟨x,H1,I1,r1,ty,q1⟩=>?_);obtain⟨h1,h2⟩:=HE I1 r1 ty;refine⟨T,id,pa,slot,hty,h1,h2,?_⟩;have hA:=ha cpos pins s1 σ H1 _ I1 q1;rw[hs]at hA ⊢;refine Calls.callWith_builtin (by show(aj || (Cy cpos (Au es X.env)).any (·.1))=aj;rw[hplain]<;>rfl) (Calls.evalArgs_plain ?_);exact a9 hA λus s2 ⟨vs,H2,I2,r2,q2⟩=>hm pins s2 σ H2 x vs v us Q I2 r1 r2 q2
end
def rk(X:Cx)(id:String)(r:V->List V->Hp->VK->Prop):Prop:=
 ∀(pins:List (Addr×Obj))(s:Ap)(σ:St)(H:Hp)(x:V)(xs:List V)(v:Ak)(us:List Ak)(Q:VK),Inv X pins σ H s->RelV x v->Vals xs us->r x xs H Q->
  A9 (Bh X.prog X.w) X.A (call (.builtin id) (v::us)) (EP X pins σ Q) X.xe s
theorem Vals.one:∀{x:V}{us:List Ak},Vals [x] us->∃u,us=[u]/\RelV x u
 |_,_,.cons r .nil=>⟨_,rfl,r⟩
theorem Vals.zero:∀{us:List Ak},Vals [] us->us=[]
 |_,.nil=>rfl
theorem Vals.eraseIdx:∀{xs:List V}{us:List Ak}(i:Nat),Vals xs us->Vals (xs.eraseIdx i) (us.eraseIdx i)
 |_,_,_,.nil=>.nil
 |_,_,0,.cons _ t=>t
 |_,_,i+1,.cons r t=>.cons r (Vals.eraseIdx i t)
theorem Vals.reverse(h:Vals xs us):Vals xs.reverse us.reverse:=by
 induction h with
 |nil=>exact .nil
 |cons r t ih=>rw[List.reverse_cons,List.reverse_cons];exact Vals.append ih (.cons r .nil)
theorem v3{α:Type}:∀(l:List α)(i:Nat),(l.eraseIdx i).length<=l.length
 |[],_=>An _
 |_::_,0=>Fy _
 |_::r,i+1=>Nat.succ_le_succ (v3 r i)
section
variable{X:Cx}{pins:List (Addr×Obj)}{σ:St}{H:Hp}{s:Ap}{l b:Addr}{xs ys zs:List V}
theorem Inv.lset{its its':List Ak}(I:Inv X pins σ H s)(hH:H l=ae (.lst xs))
  (e:s.heap.get? l=ae {cls:=.type "list",data:=.seq its.toArray n}) (hf:f its.toArray=its'.toArray) (hv:Vals ys its') (hz:ys.length<=Az):
  Inv X pins σ (upd H l (.lst ys)) {s with heap:=s.heap.update l (Cs f),toks:=t'}:=by
 have q:=PySem.IsL.update e f;rw[hf]at q;refine I.write (x:=l) (e:=l) (by rw[hH];exact trivial) (.inl rfl) (λb' u hb hu=>(Heap.get?_update_other s.heap (Cs f) (Ne.symm hb)).trans hu) ⟨_,q⟩ ?_;exact⟨hz,its',_,hv,q⟩
theorem Inv.lnew(I:Inv X pins σ H s)(hv:Vals ys its)(hz:ys.length<=Az):
  Inv X pins σ (upd H s.heap.objs.size (.lst ys)) {s with heap:=s.heap.push {cls:=.type "list",data:=.seq its.toArray},toks:=t'}:=
 I.laid (λ_ _ q=>Ag _ q) (An _) ⟨hz,its,0,hv,A5 _ rfl⟩
theorem Inv.fresh(I:Inv X pins σ H s):H s.heap.objs.size=ah:=I.hok.fresh (An _)
theorem Inv.lstM(I:Inv X pins σ H s)(hH:H l=ae (.lst xs)):xs.length<=Az/\∃(its:List Ak)(n:Nat),Vals xs its/\xs.length=its.length/\s.heap.get? l=ae {cls:=.type "list",data:=.seq its.toArray n}:=by
 obtain⟨z,its,n,r,e⟩:=I.hok l _ hH;exact⟨z,its,n,r,r.length,e⟩
theorem NA(h:n<=Az):Gd n=aj:=by
 unfold Gd;exact decide_eq_false ⋯
end
section
variable{X:Cx}
def Ie:V->List V->Hp->VK->Prop:=λx vs H Q=>∃l xs y,x=.ref l/\vs=[y]/\H l=ae (.lst xs)/\xs.length < Az/\Q .non (upd H l (.lst (xs++[y])))
theorem vC:rk X "list.append" Ie:=by
 intro pins s σ H x vs v us Q I rx rv h;obtain⟨l,xs,y,rfl,rfl,hH,hz,q⟩:=h;cases rx;obtain⟨u,rfl,ru⟩:=rv.one;obtain⟨z,its,n,r,hl,e⟩:=I.lstM hH;refine call_meets F.slot_list_append ⟨_,e,rfl⟩ F.entry_list_append (F.args_list_append_2 _ _) (PySem.list_append l its.toArray n u (by rw[A1];omega)) ⟨e,?_⟩;refine⟨.non,_,I.lset (its':=its++[u]) hH e (by simp) (r.append (.cons ru .nil)) ?_,rfl,q⟩;rw[Ai,Ax];omega
def O8:V->List V->Hp->VK->Prop:=λx vs H Q=>∃l b xs zs,x=.ref l/\vs=[.ref b]/\H l=ae (.lst xs)/\H b=ae (.lst zs)/\xs.length+zs.length<=Az/\Q .non (upd H l (.lst (xs++zs)))
theorem VM:rk X "list.extend" O8:=by
 intro pins s σ H x vs v us Q I rx rv h;obtain⟨l,b,xs,zs,rfl,rfl,hH,hB,hz,q⟩:=h;cases rx;obtain⟨u,rfl,ru⟩:=rv.one;cases ru;obtain⟨z,its,n,r,hl,e⟩:=I.lstM hH;obtain⟨z2,its2,n2,r2,hl2,e2⟩:=I.lstM hB;have hsz:its.toArray.size+its2.toArray.size<=Az:=by rw[A1,A1];omega
 have hlong:¬(!its.toArray.isEmpty&&Gd (its.toArray.size+its2.toArray.size))=ai:=by
  rw[NA hsz,Bool.and_false];exact Ae
 refine call_meets F.slot_list_extend ⟨_,e,rfl⟩ F.entry_list_extend (F.args_list_extend_2 _ _)
  (AutoSeq1.list_extend_list_list_0 l its.toArray n b its2.toArray n2 hlong (by rw[A1];omega) ⋯) ⟨e,e2,?_⟩
 refine⟨.non,_,I.lset (its':=its++its2) hH e (by simp) (r.append r2) ?_,rfl,q⟩;rw[Ai];omega
def HY:V->List V->Hp->VK->Prop:=λx vs H Q=>∃l xs i k y,x=.ref l/\vs=[.int i]/\H l=ae (.lst xs)/\-(2 ^ 63)<=i/\i < 2 ^ 63/\seqIndex? i xs.length=ae k/\xs[k]?=ae y/\Q y (upd H l (.lst (xs.eraseIdx k)))
theorem Ng:rk X "list.pop" HY:=by
 intro pins s σ H x vs v us Q I rx rv h;obtain⟨l,xs,i,k,y,rfl,rfl,hH,h1,h2,hk,hy,q⟩:=h;cases rx;obtain⟨u,rfl,ru⟩:=rv.one;obtain⟨t,rfl⟩:=ru;obtain⟨z,its,n,r,hl,e⟩:=I.lstM hH;obtain⟨w,hw,rw'⟩:=r.get hy;refine call_meets F.slot_list_pop ⟨_,e,rfl⟩ F.entry_list_pop (F.args_list_pop_2 _ _)
  (MeetsSeq.list_pop_at l its.toArray n i t k w (fitsIndex_both h1 h2) (by rw[A1,<-hl];exact hk) (by rw[<-Array.getElem?_toList];exact hw) (by rw[A1];omega)) ⟨e,?_⟩
 refine⟨y,_,I.lset (its':=its.eraseIdx k) hH e ?_ (r.eraseIdx k) ?_,rw',q⟩
 ·show its.toArray.eraseIdxIfInBounds k=(its.eraseIdx k).toArray;rw[List.eraseIdxIfInBounds_toArray]
 ·have:=v3 xs k;omega
def jh:R2:=λx y H Q=>∃l b xs zs,x=.ref l/\y=.ref b/\H l=ae (.lst xs)/\H b=ae (.lst zs)/\xs.length+zs.length<=Az/\∀p,H p=ah->Q (.ref p) (upd H p (.lst (xs++zs)))
theorem vv:OpR X (Ep .Add) jh:=by
 intro pins s σ H x y v u Q I rx ry h;obtain⟨l,b,xs,zs,rfl,rfl,hH,hB,hz,q⟩:=h;cases rx;cases ry;obtain⟨z,its,n,r,hl,e⟩:=I.lstM hH;obtain⟨z2,its2,n2,r2,hl2,e2⟩:=I.lstM hB;refine PySem.P.add_list e e2 ?_ (by rw[A1,A1];omega);have ea:its.toArray++its2.toArray=(its++its2).toArray:=by simp
 rw[ea];exact⟨.ref _,_,I.lnew (t':=s.toks) (r.append r2) (by rw[Ai];omega),rfl,q _ I.fresh⟩
end
section
variable{κ:Type}[DecidableEq κ]
def cj(kvs:List (κ×V))(k:κ):Option V:=(kvs.find? λkv=>decide (kv.1=k)).map (·.2)
def cI(kvs:List (κ×V))(k:κ)(v:V):List (κ×V):=
 if (kvs.any λkv=>decide (kv.1=k))=ai then kvs.map (λkv=>if kv.1=k then(kv.1,v)else kv)else kvs++[(k,v)]
def ll(kvs:List (κ×V))(k:κ):List (κ×V):=kvs.filter λkv=>decide (kv.1≠k)
theorem xH{p:κ×V}(e:p.1=k):cj (p::r) k=ae p.2:=by simp[cj,Bq,e]
theorem tK{p:κ×V}(e:¬p.1=k):cj (p::r) k=cj r k:=by simp[cj,Bq,e]
theorem Iw(k):∀kvs:List (κ×V),(kvs.any λkv=>decide (kv.1=k))=(cj kvs k).isSome
 |[]=>rfl
 |p::r=>by
  rw[C5];by_cases e:p.1=k
  ·simp only[xH e,decide_eq_true e,Bool.true_or,Option.isSome_some]
  ·rw[tK e,decide_eq_false e,Bool.false_or];exact Iw k r
theorem rZ(kvs:List (κ×V))(k)(v):(cI kvs k v).length<=kvs.length+1:=by
 unfold cI
 split
 ·rw[Ab];omega
 ·rw[Ai,Am,List.length_nil];omega
theorem RelO.isSome_eq(r:RelO o u):o.isSome=u.isSome:=by
 cases o with
 |none=>cases u with
  |none=>rfl
  |some _=>exact(show False from r).elim
 |some _=>cases u with
  |none=>exact(show False from r).elim
  |some _=>rfl
theorem KV.val(r:KV kvs vs)(k:κ):RelO (cj kvs k) (valueAt vs k):=by
 unfold KV at r
 induction r with
 |nil=>exact C7
 |@cons p q ps qs h t ih=>
  obtain⟨h1,h2⟩:=h;by_cases e:p.1=k
  ·have e':q.1=k:=h1.symm.trans e;have b:valueAt (q::qs) k=ae q.2:=by simp[valueAt,Bq,e']
   rw[xH e,b];exact h2
  ·have e':¬q.1=k:=λz=>e (h1.trans z);have b:valueAt (q::qs) k=valueAt qs k:=by simp[valueAt,Bq,e']
   rw[tK e,b];exact ih
theorem KV.any(r:KV kvs vs)(k:κ):(kvs.any λkv=>decide (kv.1=k))=vs.any λkv=>decide (kv.1=k):=by
 unfold KV at r
 induction r with
 |nil=>rfl
 |cons h t ih=>rw[C5,C5,ih,h.1]
theorem KV.repl(r:KV kvs vs)(k:κ)(ry:RelV y u):
  KV (kvs.map λkv=>if kv.1=k then(kv.1,y)else kv) (vs.map λkv=>if kv.1=k then(kv.1,u)else kv):=by
 unfold KV at r ⊢
 induction r with
 |nil=>exact .nil
 |@cons p q ps qs h t ih=>
  rw[Bb,Bb];refine .cons ?_ ih;obtain⟨h1,h2⟩:=h;by_cases e:p.1=k
  ·rw[if_pos e,if_pos (h1.symm.trans e)];exact⟨h1,ry⟩
  ·rw[if_neg e,if_neg (λz=>e (h1.trans z))];exact⟨h1,h2⟩
theorem KV.put(r:KV kvs vs)(k:κ)(ry:RelV y u):KV (cI kvs k y) (stored vs k u):=by
 unfold cI stored;rw[r.any k];by_cases e:(vs.any λkv=>decide (kv.1=k))=ai
 ·rw[if_pos e,if_pos e];exact r.repl k ry
 ·rw[if_neg e,if_neg e];exact Paired.snoc r ⟨rfl,ry⟩
theorem KV.drop(r:KV kvs vs)(k:κ):KV (ll kvs k) (without vs k):=by
 unfold KV at r ⊢;unfold ll without
 induction r with
 |nil=>exact .nil
 |@cons p q ps qs h t ih=>
  obtain⟨h1,h2⟩:=h;rw[C9,C9];by_cases e:p.1=k
  ·have a:¬decide (p.1≠k)=ai:=by simp[e]
   have b:¬decide (q.1≠k)=ai:=by simp[h1.symm.trans e]
   rw[if_neg a,if_neg b];exact ih
  ·have e':¬q.1=k:=λz=>e (h1.trans z);have a:decide (p.1≠k)=ai:=by simp[e]
   have b:decide (q.1≠k)=ai:=by simp[e']
   rw[if_pos a,if_pos b];exact .cons ⟨h1,h2⟩ ih
theorem KV.length{vs:List (κ×Ak)}(r:KV kvs vs):kvs.length=vs.length:=Paired.length r
theorem uA(kvs:List (κ×V))(k):(ll kvs k).length<=kvs.length:=Dj _ _
end
theorem lr(r:RelV (kV k) u):(eZ P w).is k u=ai:=by
 cases k with
 |inl i=>obtain⟨t,e⟩:=(show ∃t,u=F8 i t from r);subst e;exact Ls P w i t
 |inr x=>obtain⟨t,e⟩:=(show ∃t,u=Fs x t from r);subst e;exact KY P w x t
theorem IB:∀{ks:List aG}{us:List Ak},Vals (ks.map kV) us->ItemsAre (eZ P w) ks us
 |[],_,r=>by rw[List.map_nil]at r;cases r;exact .nil
 |k::ks,_,r=>by
  rw[Bb]at r;cases r with
  |cons h t=>exact .cons (lr h) (IB t)
abbrev KT(H:Hp):List (List aG×V)->List (List aG×Addr×Ak)->Prop:=Paired λp q=>p.1=q.1/\H q.2.1=ae (.tup (p.1.map kV))/\RelV p.2 q.2.2
theorem KT.val(r:KT H kvs xs)(k):RelO (cj kvs k) ((atKey xs k).map (·.2)):=by
 induction r with
 |nil=>exact C7
 |@cons p q ps qs h t ih=>
  obtain⟨h1,_,h2⟩:=h;by_cases e:p.1=k
  ·have e':q.1=k:=h1.symm.trans e;have b:atKey (q::qs) k=ae q.2:=by simp[atKey,Bq,e']
   rw[xH e,b];exact h2
  ·have e':¬q.1=k:=λz=>e (h1.trans z);have b:atKey (q::qs) k=atKey qs k:=by simp[atKey,Bq,e']
   rw[tK e,b];exact ih
theorem KT.repl(r:KT H kvs xs)(k)(ry:RelV y u):
  KT H (kvs.map λkv=>if kv.1=k then(kv.1,y)else kv) (xs.map (putAt k u)):=by
 induction r with
 |nil=>exact .nil
 |@cons p q ps qs h t ih=>
  rw[Bb,Bb];refine .cons ?_ ih;obtain⟨h1,h2,h3⟩:=h;unfold putAt;by_cases e:p.1=k
  ·rw[if_pos e,if_pos (h1.symm.trans e)];exact⟨h1,h2,ry⟩
  ·rw[if_neg e,if_neg (λz=>e (h1.trans z))];exact⟨h1,h2,h3⟩
theorem KT.put(r:KT H kvs xs)(k:List aG)(hb:H b=ae (.tup (k.map kV)))(ry:RelV y u):
  KT H (cI kvs k y) (storedH xs k b u):=by
 have e:(kvs.any λkv=>decide (kv.1=k))=(atKey xs k).isSome:=by
  rw[Iw,(r.val k).isSome_eq,Fx]
 unfold cI storedH;rw[e];by_cases q:(atKey xs k).isSome=ai
 ·rw[if_pos q,if_pos q];exact r.repl k ry
 ·rw[if_neg q,if_neg q];exact Paired.snoc r ⟨rfl,hb,ry⟩
theorem KT.keeps(r:KT H kvs xs)(ht:∀b ys,H b=ae (.tup ys)->H' b=ae (.tup ys)):KT H' kvs xs:=
 Paired.mapP r λ_ _ z=>⟨z.1,ht _ _ z.2.1,z.2.2⟩
section
variable{P:Bg}{w:B3}{H:Hp}{h:Heap}{a:Addr}
theorem Im(ok:HOk P w H h)(e:Rd H a u):ObjOk P w H h a u:=e.ok ok
theorem m4(ok:HOk P w H h)(e:Rd H a (.dK kvs)):kvs.length<=Az/\(a==Ea)=aj/\∃vs,KV kvs vs/\h.DictOf (eZ P w) a vs:=
 show ObjOk P w H h a (.dK kvs)from Im ok e
theorem qM(ok:HOk P w H h)(e:H a=ae (.dK kvs)):kvs.length<=Az/\(a==Ea)=aj/\∃vs,KV kvs vs/\h.DictOf (eZ P w) a vs:=m4 ok (.inl e)
theorem qg(ok:HOk P w H h)(e:H a=ae (.tup (ks.map kV))):(tupleKind (eZ P w)).is h ks a:=by
 obtain⟨_,its,r,o,h1,h2,⟨n,h3⟩,_⟩:=(show ObjOk P w H h a (.tup (ks.map kV))from ok a _ e);exact⟨o,its.toArray,n,h1,h2,h3,by simpa using IB r⟩
theorem mw(ok:HOk P w H h)(e:Rd H a (.dT kvs)):kvs.length<=Az/\(a==Ea)=aj /\
  ∃xs,KT H kvs xs/\h.DictOfH (tupleKind (eZ P w)) a xs:=by
 obtain⟨z,y,xs,r,o,es,ep,h1,h2,h3,h4,h5⟩:=(show ObjOk P w H h a (.dT kvs)from Im ok e);refine⟨z,y,xs,r,o,es,ep,h1,h2,h3,h4,λx hx=>?_,h5⟩;have all:∀{l:List (List aG×V)}{m:List (List aG×Addr×Ak)},KT H l m->∀x∈m,(tupleKind (eZ P w)).is h x.1 x.2.1:=by
  intro l m q
  induction q with
  |nil=>intro x hx;exact nomatch hx
  |@cons p q ps qs hq t ih=>
   intro x hx;rcases Ao.mp hx with e|hx
   ·subst e;exact qg ok (by rw[<-hq.1];exact hq.2.1)
   ·exact ih x hx
 exact all r x hx
theorem LL(ok:HOk P w H h)(e:H a=ae (.dT kvs)):kvs.length<=Az/\(a==Ea)=aj /\
  ∃xs,KT H kvs xs/\h.DictOfH (tupleKind (eZ P w)) a xs:=mw ok (.inl e)
end
def DGet(H:Hp)(a:Addr)(y:V)(r:Option V):Prop:=
 (∃kvs k,Rd H a (.dK kvs)/\y=kV k/\r=cj kvs k)\/∃kvs k b,Rd H a (.dT kvs)/\y=.ref b/\H b=ae (.tup (k.map kV))/\r=cj kvs k
def DPut(H:Hp)(a:Addr)(y v:V)(H':Hp):Prop:=
 (∃kvs k,H a=ae (.dK kvs)/\y=kV k/\kvs.length < Az/\H'=upd H a (.dK (cI kvs k v))) \/
 ∃kvs k b,H a=ae (.dT kvs)/\y=.ref b/\H b=ae (.tup (k.map kV))/\kvs.length < Az/\H'=upd H a (.dT (cI kvs k v))
theorem DGet.t(e:H a=ae (.dT kvs))(eb:H b=ae (.tup (k.map kV))):DGet H a (.ref b) (cj kvs k):=.inr ⟨kvs,k,b,.inl e,rfl,eb,rfl⟩
theorem DPut.k{k:aG}(e:H a=ae (.dK kvs))(hl:kvs.length < Az):DPut H a (kV k) v (upd H a (.dK (cI kvs k v))):=.inl ⟨kvs,k,e,rfl,hl,rfl⟩
theorem DPut.t{k:List aG}(e:H a=ae (.dT kvs))(eb:H b=ae (.tup (k.map kV)))(hl:kvs.length < Az):
  DPut H a (.ref b) v (upd H a (.dT (cI kvs k v))):=.inr ⟨kvs,k,b,e,rfl,eb,hl,rfl⟩
section
variable{X:Cx}{pins:List (Addr×Obj)}{σ:St}{H:Hp}{s:Ap}{a:Addr}{y v:V}{u r:Ak}{o:Option V}{A:Cj}{E:Ak->Ap->Prop}
theorem Inv.big(I:Inv X pins σ H s):Ea < s.heap.objs.size:=by
 have h:Dl < s.heap.objs.size:=(I.mod.glob.keeps I.bk).lt;exact Nat.lt_trans ∎ h
theorem S8(hu:A.units+1 < Eo)(I:Inv X pins σ H s)(g:DGet H a y (ae v))(ry:RelV y u)(h:∀w' s',Inv X pins σ H s'->RelV v w'->Q w' s'):
  A9 (Bh X.prog X.w) A (getItem (.ref a) u) Q E s:=by
 rcases g with⟨kvs,k,e,ey,l⟩|⟨kvs,k,b,e,ey,eb,l⟩
 ·subst ey;obtain⟨z,hd,vs,rel,dd⟩:=m4 I.hok e;obtain⟨w',hw,rw'⟩:=RelO.some_of (v:=v) (o:=valueAt vs k) (by rw[l];exact rel.val k);exact wpAny_getItem_of (lr ry) dd.mapOf hw (h w' _ (I.tok _) rw')
 ·subst ey;cases(show u=A6 b from ry);obtain⟨z,hd,xs,rel,dd⟩:=mw I.hok e;obtain⟨w',hw,rw'⟩:=RelO.some_of (v:=v) (o:=(atKey xs k).map (·.2)) (by rw[l];exact rel.val k);obtain⟨p,hp,hp2⟩:=Option.map_eq_some_iff.mp hw;refine wpAny_getItem_heap (Gr hu) (qg I.hok eb) dd hp ?_;rw[hp2];exact h w' _ (I.tok _) rw'
theorem vF(hu:A.units+1 < Eo)(I:Inv X pins σ H s)(g:DGet H a y o)(ry:RelV y u)(h:∀s',Inv X pins σ H s'->Q (.bool o.isSome) s'):
  A9 (Bh X.prog X.w) A (Bx .In u (.ref a)) Q E s:=by
 rcases g with⟨kvs,k,e,ey,l⟩|⟨kvs,k,b,e,ey,eb,l⟩
 ·subst ey;obtain⟨z,hd,vs,rel,dd⟩:=m4 I.hok e;refine wpAny_in_of (lr ry) hd dd.mapOf ?_;rw[<-(rel.val k).isSome_eq,<-l];exact h _ (I.tok _)
 ·subst ey;cases(show u=A6 b from ry);obtain⟨z,hd,xs,rel,dd⟩:=mw I.hok e;refine wpAny_in_heap (Gr hu) (qg I.hok eb) hd dd ?_;have q:=(rel.val k).isSome_eq;rw[Fx]at q;rw[<-q,<-l];exact h _ (I.tok _)
theorem J6(hu:A.units+1 < Eo)(I:Inv X pins σ H s)(g:DGet H a y o)(ry:RelV y u)(h:∀s',Inv X pins σ H s'->Q (.bool (!o.isSome)) s'):
  A9 (Bh X.prog X.w) A (Bx .NotIn u (.ref a)) Q E s:=by
 rcases g with⟨kvs,k,e,ey,l⟩|⟨kvs,k,b,e,ey,eb,l⟩
 ·subst ey;obtain⟨z,hd,vs,rel,dd⟩:=m4 I.hok e;refine wpAny_notIn_of (lr ry) hd dd.mapOf ?_;rw[<-(rel.val k).isSome_eq,<-l];exact h _ (I.tok _)
 ·subst ey;cases(show u=A6 b from ry);obtain⟨z,hd,xs,rel,dd⟩:=mw I.hok e;refine wpAny_notIn_heap (Gr hu) (qg I.hok eb) hd dd ?_;have q:=(rel.val k).isSome_eq;rw[Fx]at q;rw[<-q,<-l];exact h _ (I.tok _)
theorem mE(I:Inv X pins σ H s)(mu:ot (H a))(hs:Ed a s.heap h')(he:∃q,h'.get? a=ae q)(new:ObjOk X.prog X.w (upd H a ob) h' a ob):
  Inv X pins σ (upd H a ob) {s with heap:=h',toks:=t'}:=
 I.write (x:=a) (e:=a) mu (.inl rfl) (λb q hb z=>(hs.2 b hb).trans z) he new
theorem sI(z:kvs.length<=Az)(hd:(a==Ea)=aj)(rel:KV kvs vs)(dd:h'.DictOf (eZ P w) a vs):
  ObjOk P w H' h' a (.dK kvs):=⟨z,hd,vs,rel,dd⟩
theorem Ol(hu:A.units+1 < Eo)(I:Inv X pins σ H s)(g:DPut H a y v H')(ry:RelV y u)(rv:RelV v r)(h:∀s',Inv X pins σ H' s'->Q () s'):
  A9 (Bh X.prog X.w) A (setItem (.ref a) u r) Q E s:=by
 rcases g with⟨kvs,k,e,ey,l,eH⟩|⟨kvs,k,b,e,ey,eb,l,eH⟩
 ·subst ey eH;obtain⟨z,hd,vs,rel,dd⟩:=qM I.hok e;have hz:vs.length<=Az:=by rw[<-rel.length];exact z
  have hl:(cI kvs k v).length<=Az:=by have:=rZ kvs k v;omega
  refine wpAny_setItem_pairs (hsz:=hz) (lr ry) dd λh' dd' hs=>h _ ?_;have he:∃q,h'.get? a=ae q:=let⟨q,_,_,hq,_⟩:=dd';⟨q,hq⟩;exact mE I (by rw[e];exact C7) hs he (sI hl hd (rel.put k rv) dd')
 ·subst ey eH;cases(show u=A6 b from ry);obtain⟨z,hd,xs,rel,dd⟩:=LL I.hok e;have hz:xs.length<=Az:=by rw[<-Paired.length rel];exact z
  have hl:(cI kvs k v).length<=Az:=by have:=rZ kvs k v;omega
  refine wpAny_setItem_heap (hsz:=hz) (Gr hu) (qg I.hok eb) dd λh' dd' hs=>h _ ?_;obtain⟨q,es,ep,hq,h2,h3,h4,_,h5⟩:=dd';refine mE I (by rw[e];exact C7) hs ⟨q,hq⟩ ⟨hl,hd,_,(rel.put k eb rv).keeps λc ys ec=>?_,q,es,ep,hq,h2,h3,h4,h5⟩;rw[aY (EH ec e (λz=>nomatch z))];exact ec
end
section
variable{X:Cx}{pins:List (Addr×Obj)}{σ:St}{H:Hp}{s:Ap}{a:Addr}{kvs:List (aG×V)}{k:aG}{u:Ak}{A:Cj}{E:Ak->Ap->Prop}
theorem VP(I:Inv X pins σ H s)(e:H a=ae (.dK kvs))(ry:RelV (kV k) u)(l:(cj kvs k).isSome=ai)(h:∀s',Inv X pins σ (upd H a (.dK (ll kvs k))) s'->Q () s'):
  A9 (Bh X.prog X.w) A (delItem (.ref a) u) Q E s:=by
 obtain⟨z,hd,vs,rel,dd⟩:=qM I.hok e;refine wpAny_delItem_slot dd.typeIs ∎ PySem.F.slot_dict_delitem
  (call_meetsIn PySem.F.slot_dict_delitem dd.typeIs PySem.F.entry_dict_delitem (PySem.F.args_dict_delitem_2 _ _) (meets_dict_delitem_pairs (eZ X.prog X.w) a (lr ry)) ⟨vs,dd,by rw[<-rel.length];exact z,by rw[<-(rel.val k).isSome_eq];exact l,λh' dd' hs=>h _ ?_⟩)
 have he:∃q,h'.get? a=ae q:=let⟨q,_,_,hq,_⟩:=dd';⟨q,hq⟩;exact mE I (by rw[e];exact C7) hs he (sI (A2 (uA kvs k) z) hd (rel.drop k) dd')
theorem VC(I:Inv X pins σ H s)(e:H a=ae (.dK kvs))(ry:RelV (kV k) u)(l:cj kvs k=ae v)(hm:more=[]\/∃x,more=[x])
  (h:∀w' s',Inv X pins σ (upd H a (.dK (ll kvs k))) s'->RelV v w'->Q w' s'):A9 (Bh X.prog X.w) A (call (.builtin "dict.pop") (.ref a::u::more)) Q E s:=by
 obtain⟨z,hd,vs,rel,dd⟩:=qM I.hok e;obtain⟨w',hw,rw'⟩:=RelO.some_of (v:=v) (o:=valueAt vs k) (by rw[<-l];exact rel.val k);have hp:(keyPart u).isSome=ai:=by
  cases k with
  |inl i=>obtain⟨t,q⟩:=(show ∃t,u=F8 i t from ry);subst q;rfl
  |inr x=>obtain⟨t,q⟩:=(show ∃t,u=Fs x t from ry);subst q;rfl
 have ha:argsOk "dict.pop" ⟨.ref a::u::more,[]⟩:=by
  rcases hm with q|⟨x,q⟩
  ·subst q;exact PySem.F.args_dict_pop_2 _ _
  ·subst q;exact PySem.F.args_dict_pop_3 _ _ _
 refine call_meetsIn PySem.F.slot_dict_pop dd.typeIs PySem.F.entry_dict_pop ha (meets_dict_pop_there (eZ X.prog X.w) a (lr ry) more hm hp)
  ⟨vs,w',dd,by rw[<-rel.length];exact z,hw,λh' dd' hs=>h w' _ ?_ rw'⟩
 have he:∃q,h'.get? a=ae q:=let⟨q,_,_,hq,_⟩:=dd';⟨q,hq⟩;exact mE I (by rw[e];exact C7) hs he (sI (A2 (uA kvs k) z) hd (rel.drop k) dd')
end
def ib(i:Expr):Prop:=∀ov iv,subscripted i aj ov iv=operate [ov,iv] (getItem ov iv)
theorem Rp{T id:String}
  (hl:typeLookup (.type T) "__getitem__"=pure (ae (.builtin id))) (hs:ib slice)
  (h:A9 (Bh prog w) A (eval value env) (λo s₁=>A9 (Bh prog w) A (eval slice env) (λi s₂=>s₂.TypeIs o T/\A9 (Bh prog w) A (getItem o i) Q E s₂) E s₁) E s):
  A9 (Bh prog w) A (eval (.Subscript value slice pos) env) Q E s:=by
 refine Subscript_ (Dh h (λo s₁ h₁=>Dh h₁ (λi s₂ h₂=>?_) λ_ _ x=>x) λ_ _ x=>x);obtain⟨hT,h₂⟩:=h₂;unfold subscriptTail;refine Ad ?_;rw[getitemInPython_of_ne hT.not_modules];refine Ad (wpAny_specialOf hT hl ?_);have fin:A9 (Bh prog w) A (subscripted slice aj o i) (λr s₃=>A9 (Bh prog w) A (letTemporaryGo value o r>>=λ_=>pure r) Q E s₃) E s₂:=by
  rw[hs o i];exact wpAny_operating (Dh h₂ (λr s₃ h₃=>Ad (wpAny_letTemporaryGo (Ay h₃))) λ_ _ x=>x)
 first
  |exact Ay (Ad fin)
  |exact Ad (Ay (Ad fin))
  |exact Ad fin
theorem Vi{σ:St}(I:Inv X pins σ H s)(g:DGet H a y o):s.TypeIs (.ref a) "dict":=by
 rcases g with⟨kvs,k,e,_,_⟩|⟨kvs,k,b,e,_,_,_⟩
 ·obtain⟨_,_,vs,_,dd⟩:=m4 I.hok e;exact dd.typeIs
 ·obtain⟨_,_,xs,_,dd⟩:=mw I.hok e;exact dd.typeIs
def qe(td ty:TE):TE:=λσ H Q=>td σ H λx H1=>ty σ H1 λy H2=>∃a v,x=.ref a/\DGet H2 a y (ae v)/\Q v H2
def lW(ty td:TE):TE:=λσ H Q=>ty σ H λy H1=>td σ H1 λx H2=>∃a o,x=.ref a/\DGet H2 a y o/\Q (.bl o.isSome) H2
def mq(ty td:TE):TE:=λσ H Q=>ty σ H λy H1=>td σ H1 λx H2=>∃a o,x=.ref a/\DGet H2 a y o/\Q (.bl (!o.isSome)) H2
def rp(td ty tv:TE):TS:=λD σ H=>tv σ H λv H1=>td σ H1 λx H2=>ty σ H2 λy H3=>∃a H4,x=.ref a/\DPut H3 a y v H4/\D.nx σ H4
section
variable{X:Cx}{o i e value:Expr}{pos pos' tpos:Pos}{td ty tv:TE}
theorem sR(hu:X.A.units+1 < Eo)(ho:PE X o td)(hi:PE X i ty)(hs:ib i):PE X (.Subscript o i pos) (qe td ty):=by
 intro pins s σ H Q I h;refine Rp PySem.F.slot_dict_getitem.lookup hs (a9 (ho pins s σ H _ I h) λu s1 ⟨x,H1,I1,rx,q1⟩=>a9 (hi pins s1 σ H1 _ I1 q1) λiv s2 ⟨y,H2,I2,ry,a,v,ex,g,q2⟩=>?_);subst ex;obtain rfl:u=A6 a:=rx;exact⟨Vi I2 g,S8 hu I2 g ry λw' s3 I3 rw'=>⟨v,H2,I3,rw',q2⟩⟩
theorem Qb(hu:X.A.units+1 < Eo)(hi:PE X i ty)(ho:PE X o td):PC X .In i o (lW ty td):=by
 intro pins s σ H Q I h;refine a9 (hi pins s σ H _ I h) λiv s1 ⟨y,H1,I1,ry,q1⟩=>a9 (ho pins s1 σ H1 _ I1 q1) λu s2 ⟨x,H2,I2,rx,a,ov,ex,g,q2⟩=>?_;subst ex;obtain rfl:u=A6 a:=rx;exact vF hu I2 g ry λs3 I3=>⟨.bl ov.isSome,H2,I3,rfl,q2⟩
theorem yz(hu:X.A.units+1 < Eo)(hi:PE X i ty)(ho:PE X o td):PC X .NotIn i o (mq ty td):=by
 intro pins s σ H Q I h;refine a9 (hi pins s σ H _ I h) λiv s1 ⟨y,H1,I1,ry,q1⟩=>a9 (ho pins s1 σ H1 _ I1 q1) λu s2 ⟨x,H2,I2,rx,a,ov,ex,g,q2⟩=>?_;subst ex;obtain rfl:u=A6 a:=rx;exact J6 hu I2 g ry λs3 I3=>⟨.bl (!ov.isSome),H2,I3,rfl,q2⟩
theorem ux(hu:X.A.units+1 < Eo)(ho:PE X o td)(hi:PE X i ty)(hv:PE X value tv)(hs:Dw value (ae (.Subscript o i pos')) pos.line X.env=pure aj):
  PS X (.Assign [.Subscript o i pos'] value pos) (rp td ty tv):=by
 intro pins s σ H D I h;refine wpAny_Assign_Subscript (a9 (hv pins s σ H _ I h) λr s1 ⟨v,H1,I1,rv,q1⟩=>a9 (ho pins s1 σ H1 _ I1 q1) λu s2 ⟨x,H2,I2,rx,q2⟩=>a9 (hi pins s2 σ H2 _ I2 q2) λiv s3 ⟨y,H3,I3,ry,a,H4,ex,g,q3⟩=>?_) hs;subst ex;obtain rfl:u=A6 a:=rx;exact Ol hu I3 g ry rv λs4 I4=>⟨σ,H4,I4,q3⟩
end
theorem HL(h:Heap)(hb:Ea < h.objs.size):ObjOk P w H (h.push {cls:=.type "dict",data:=.dict #[]}) h.objs.size (.dK []):=
 ⟨Bm _,beq_eq_false_iff_ne.mpr (Ne.symm (Bk hb)),[],.nil,Heap.DictOf.new h⟩
theorem LA(h:Heap)(hb:Ea < h.objs.size):ObjOk P w H (h.push {cls:=.type "dict",data:=.dict #[]}) h.objs.size (.dT []):=
 ⟨Bm _,beq_eq_false_iff_ne.mpr (Ne.symm (Bk hb)),[],.nil,_,#[],0,A5 _ rfl,⟨rfl,rfl,rfl⟩,rfl,rfl,List.nodup_nil⟩
def DO:TE:=λ_ H Q=>∀p,H p=ah->Q (.ref p) (upd H p (.dK []))
def Jn:TE:=λ_ H Q=>∀p,H p=ah->Q (.ref p) (upd H p (.dT []))
section
variable{X:Cx}{pos:Pos}
theorem Jv:PE X (.Dict [] [] pos) DO:=λpins s σ H Q I h=>
 wpAny_Dict_empty ⟨.ref s.heap.objs.size,_,I.laid (a:=s.heap.objs.size) (o:=.dK []) (t':=s.toks) (λ_ _ q=>Ag _ q) (An _) (HL s.heap I.big),rfl,h _ (I.hok.fresh (An _))⟩
theorem UH:PE X (.Dict [] [] pos) Jn:=λpins s σ H Q I h=>
 wpAny_Dict_empty ⟨.ref s.heap.objs.size,_,I.laid (a:=s.heap.objs.size) (o:=.dT []) (t':=s.toks) (λ_ _ q=>Ag _ q) (An _) (LA s.heap I.big),rfl,h _ (I.hok.fresh (An _))⟩
end
def lP(kvs more:List (aG×V)):List (aG×V):=more.foldl (λacc kv=>cI acc kv.1 kv.2) kvs
structure M1(X:Cx)(o:Expr)(m:Str)(apos:Pos)(e:Expr)(cpos:Pos):Prop where
 base:E4 o m X.env (eval o X.env)=eval o X.env
 few:((Cy cpos (Au [e] X.env)).all (λx=>!x.1)&&(backToKw cpos (keywordEach [] X.env)).all (λx=>x.1.isSome)
  && decide (([e]:List Expr).length+([]:List Keyword).length+(if ([]:List Keyword).isEmpty then 0 else 1) < 30))=ai
 line:(apos.endLine==cpos.line)=ai
 trees:Cy cpos (Au [e] X.env)=[(aj,eval e X.env)]
def yP(H:Hp)(a:Addr):Prop:=(∃kvs,Rd H a (.dK kvs))\/∃kvs,Rd H a (.dT kvs)
theorem JK{σ:St}(I:Inv X pins σ H s)(d:yP H a):
  s.TypeIs (.ref a) "dict"/\(∀b,A6 a=.ref b->∃ob,s.heap.get? b=ae ob/\ob.dict=ah)/\(a==Ea)=aj:=by
 rcases d with⟨kvs,e⟩|⟨kvs,e⟩
 ·obtain⟨_,hd,vs,_,dd⟩:=m4 I.hok e;refine⟨dd.typeIs,λb q=>?_,hd⟩;cases q;obtain⟨ob,_,_,h1,h2,_⟩:=dd;exact⟨ob,h1,h2.2.1⟩
 ·obtain⟨_,hd,xs,_,dd⟩:=mw I.hok e;refine⟨dd.typeIs,λb q=>?_,hd⟩;cases q;obtain⟨ob,_,_,h1,h2,_⟩:=dd;exact⟨ob,h1,h2.2.1⟩
def EV(td ty:TE):TE:=λσ H Q=>td σ H λx H1=>∃a,x=.ref a/\yP H1 a/\ty σ H1 λy H2=>∃kvs k v,H2 a=ae (.dK kvs)/\y=kV k/\cj kvs k=ae v/\Q v (upd H2 a (.dK (ll kvs k)))
section
variable{X:Cx}{o e f:Expr}{apos cpos:Pos}{td ty tx:TE}
theorem LJ(ho:PE X o td)(he:PE X e ty)(m:M1 X o "pop" apos e cpos):PE X (.Call (.Attribute o "pop" apos) [e] [] cpos) (EV td ty):=by
 intro pins s σ H Q I h;refine wpAny_Call_method m.base m.few m.line PySem.F.plainAttrs_dict PySem.F.slot_dict_pop PySem.F.type_dict_pop (a9 (ho pins s σ H _ I h) λu s1 ⟨x,H1,I1,rx,a,ex,d,q1⟩=>?_);subst ex;obtain rfl:u=A6 a:=rx;obtain⟨t1,t2,_⟩:=JK I1 d;refine⟨t1,t2,?_⟩;rw[m.trees];refine Calls.callWith_builtin rfl (Calls.evalArgs_plain (Calls.spliced_cons (a9 (he pins s1 σ H1 _ I1 q1) λiv s2 ⟨y,H2,I2,ry,kvs,k,v,ea,ey,l,q2⟩=>Calls.spliced_nil ?_)));subst ey;exact VC I2 ea ry l (.inl rfl) λw' s3 I3 rw'=>⟨v,_,I3,rw',q2⟩
end
end L2
namespace Att
open PySem PySem.W PySem.Calls PyProof.Rows
theorem RB:∀(ns:List Int)(vs:List Ak),WellAll P h vs (ns.map WData.int)->IntsAre vs ns:=by
 intro ns
 induction ns with
 |nil=>
  intro vs w;rw[List.map_nil]at w;cases w;exact .nil
 |cons n ns ih=>
  intro vs w;rw[Bb]at w;cases w with
  |cons a b=>
   cases a;exact .cons _ _ (ih _ b)
theorem Tq{l:OpenLaw}(hn:l.most=ae n)
  (hpre:l.row.toRowW.claim.pre args=ai) (hwl:WellAll P h vals args):
  ∃a vs ns,vals=[A6 a]/\args=[WData.list (ns.map WData.int)]/\h.get? a=ae {cls:=.type "list",data:=.seq vs.toArray}/\IntsAre vs ns/\ns.length<=n:=by
 have hsh:WShape.hasAll [] args [.list .int]=ai:=(pre_splitW hpre).1;have hc:l.pre.holds [] {args:=args}=ai:=(pre_splitW hpre).2;obtain⟨d,r,rfl,h1,h2⟩:=hasAllW_cons hsh;obtain rfl:=hasAllW_nil h2;obtain⟨xs,rfl,h3⟩:=hasW_list h1;obtain⟨ns,rfl⟩:=items_int h3;have hlen:ns.length<=n:=by
  unfold OpenLaw.pre at hc;have h4:(WTm.not (.lt (.lit (.int (n:Int))) (.len (.arg 0)))).holds [] {args:=[.list (ns.map .int)]}=ai:=by
   have h4:=(holds_andW hc).1;rw[hn]at h4;exact h4
  have h5:=condW_of h4 (w_not (w_lt w_lit (w_len_list (w_arg rfl))));rw[Ab]at h5;refine Nat.le_of_not_lt λq=>?_;have q':(n:Int) < ((ns.length:Nat):Int):=by omega
  first
   | (rw[decide_eq_true q']at h5;exact absurd h5 ∎)
   | (simp at h5;omega)
 cases hwl with
 |cons w1 w2=>
  cases w2;cases w1 with
  |list ho hall=>exact⟨_,_,ns,rfl,rfl,ho,RB ns _ hall,hlen⟩
theorem SA(l:OpenLaw)(args):l.row.toRowW.claim.post args (.bool ai) args=ai:=
 postW_of (r:=l.row.toRowW) (X:=(ai==ai))
  (show WShape.has [] (.bool ai) .bool=ai by first|rfl|decide|simp[WShape.has,WShape.arms,WShape.armsAll])
  (show(WTm.eq .res (.lit (.bool ai))).value [] {args:=args,res:=ae (.bool ai),after:=args}=ae (.bool (ai==ai))from w_eq_bool (w_res rfl) w_lit) rfl
theorem attach_call{l:OpenLaw}
  (hn:l.most=ae n) (hdf:d.params.defaults=[])
  (call:∀(w:B3)(s₀ s₁:Ap)(mg mb:Str->Option Ak)(fa:Addr)(o:Obj)(pm cd doc:Ak)(a:Addr)(vs:List Ak)(ns:List Int),
   Ground q loose [] XP w s₀ mg mb s₁.heap->YP w s₁.heap->
   s₁.heap.get? fa=ae o->o.data=.func (docDef d.name d.params d.body d.scope pm cd doc)->s₁.heap.CodeRec cd d.name->mg d.name=ae (.ref fa)->
   s₁.heap.get? a=ae {cls:=.type "list",data:=.seq vs.toArray}->IntsAre vs ns->ns.length<=n->s₁.gens=#[]->
   codeAny (Bh l.prog w) callerA (.call (.ref fa) ⟨[.ref a],[]⟩) (λr s'=>r=.ok (.ret (.bool ai))/\OldK s₁.heap s'.heap/\s'.os=s₁.os/\AllBare s'.gens) s₁):
  WalkO q loose XP YP l.row.toRowW d [] (λf vs=>PySem.call f vs):=by
 intro w s₀ s₁ mg mb G Y fa o pm cd doc dV kV ho hd hcd hD hmg hg args vals as hpre hlay hrd hwl hlo;obtain rfl:dV=.none:=Dflts.none hD hdf;obtain rfl:kV=.none:=Dflts.noKw hD;obtain⟨a,vs,ns,rfl,rfl,hobj,hints,hlen⟩:=Tq hn hpre hwl;refine enter_call (codeAny_mono (call w s₀ s₁ mg mb fa o pm cd doc a vs ns G Y ho (fd_plain hd) hcd hmg hobj hints hlen hg) λr s' hq=>?_);obtain⟨rfl,h2,h3,h4⟩:=hq;exact⟨.inl ⟨.bool ai,.bool ai,[],rfl,λ_=>rfl,.bool ai,SA l _,λ_=>⟨List.Pairwise.nil,λ_ hm=>(nomatch hm)⟩⟩,h2,h3,h4⟩
end Att
namespace L2
open PySem PySem.Spec PyProof.Rows
theorem yK:∀{vs:List Ak}{ns:List Int},IntsAre vs ns->Vals (ns.map V.int) vs
 |_,_,.nil=>.nil
 |_,_,.cons n t h=>.cons ⟨t,rfl⟩ (yK h)
def mn(H:Hp):Prop:=∀b,H b=ah\/∃o xs,H b=ae (.frz o (.lst xs))
theorem Mo{K:Ah}
  (KX:K.In s₁.heap) (hns:s₁.heap.Ns Dl mg) (hb:s₁.heap.Ns builtinsNs mb) (hbb:∀x:Str,x≠"__name__"->mb x=By x) (hlim:s₁.heap.NoLimit) (hg:s₁.gens=#[])
  (ha:s₁.heap.get? a=ae {cls:=.type "list",data:=.seq vs.toArray}) (hi:IntsAre vs ns) (hl:ns.length<=Az) (hr:Room k callerA)
  (F:∀base:Heap,K.In base->base.Ns Dl mg->FnOk P w K mg base CX k fa fd [x] sp) (hbind:∀(s:Ap)(u:Ak),BindsTo s fd ⟨[u],[]⟩ [(x,u)])
  (hsp:∀H:Hp,mn H->SqL K H a (ns.map V.int)->sp [.ref a] H (λv _=>v=.bl ai) λ_ _ _=>False)
  (hCX:∀H e s',CX [] H s₁ (λ_ _ _=>False) e s'->False):
  codeAny (Bh P w) callerA (.call (.ref fa) ⟨[.ref a],[]⟩) (λr s'=>r=.ok (.ret (.bool ai))/\OldK s₁.heap s'.heap/\s'.os=s₁.os/\AllBare s'.gens) s₁:=by
 have rv:=yK hi;have lenV:=hi.length
 have core:∀H:Hp,mn H->SqL K H a (ns.map V.int)->HOk P w H s₁.heap->(∀b,H b≠ah->b=a)->(H a≠ah->K.lookup a=ah)->
   codeAny (Bh P w) callerA (.call (.ref fa) ⟨[.ref a],[]⟩) (λr s'=>r=.ok (.ret (.bool ai))/\OldK s₁.heap s'.heap/\s'.os=s₁.os/\AllBare s'.gens) s₁:=by
  intro H hO hS hok hA hK;have base_of:∀{b:Addr}{o:Obj},s₁.heap.get? b=ae o->H b=ah->(fX s₁.heap H).get? b=ae o:=λe n=>Nz e n;have noA:∀{b:Addr}{o:Obj}{es:Array DictEntry}{ep:Nat},s₁.heap.get? b=ae o->o.data=.dict es ep->H b=ah:=λ{b o es ep} e d=>by
   cases q:H b with
   |none=>rfl
   |some u=>
    have e':b=a:=hA b (by rw[q];simp);subst e';rw[ha]at e;cases e;have d':Data.seq vs.toArray _=Data.dict es ep:=d;cases d'
  have nsK:∀{b:Addr}{m:Str->Option Ak},s₁.heap.Ns b m->(fX s₁.heap H).Ns b m:=λ{b m} ⟨o,es,ep,e,d,r⟩=>⟨o,es,ep,base_of e (noA e d),d,r⟩;have hKb:K.In (fX s₁.heap H):=λb o e=>base_of (KX b o e) (by
   cases q:H b with
   |none=>rfl
   |some u=>
    have e':b=a:=hA b (by rw[q];simp);subst e';rw[hK (by rw[q];simp)]at e;cases e)
  have hM:Mod K mg (fX s₁.heap H):=⟨hKb,nsK hns,⟨mb,nsK hb,hbb⟩,let⟨mc,h1,h2⟩:=hlim;⟨mc,nsK h1,h2⟩⟩;have e0:Env0 P w K mg (fX s₁.heap H) callerA [] s₁ H:=⟨rfl,hM,λb o e=>UM e,Nat.le_of_eq (Qa _ _),trivial,λb hb=>absurd (show b∈([]:List Addr)from hb) (by simp),hok,.of_eq hg⟩;refine codeAny_mono ((F _ hKb (nsK hns)).run callerA [] s₁ H ⟨[.ref a],[]⟩ [.ref a] [.ref a] _ _ hr e0 (hbind s₁ (.ref a)) (.cons rfl .nil) (hsp H hO hS)) λr s' h=>?_;cases r with
  |error e=>exact(hCX H e s' h).elim
  |ok fl=>
   cases fl with
   |next=>exact False.elim h
   |brk=>exact False.elim h
   |cont=>exact False.elim h
   |ret u=>
    obtain⟨v,H',os,bare,un,hok',r',q⟩:=h;have q':v=.bl ai:=q;subst q';obtain rfl:u=Value.bool ai:=r';refine⟨rfl,OldK.of_keep λb o e=>?_,os,bare⟩;cases q:H b with
    |none=>exact un.keep b o e q (by intro z;exact absurd (show b∈([]:List Addr)from z) (by simp)) (by simp)
    |some u=>
     rcases hO b with z|⟨ob,xs,z⟩
     ·rw[q]at z;cases z
     ·have z2:=un.frzs b ob _ z;obtain⟨e1,_⟩:=hok b _ z;obtain⟨e2,_⟩:=hok' b _ z2;rw[e]at e1;cases e1;exact e2
 cases hk:K.lookup a with
 |some o=>
  have e:=KX a o hk;rw[ha]at e;cases e;refine core (λ_=>ah) (λ_=>.inl rfl) (.inr ⟨_,vs.toArray,_,hk,rfl,rfl,rfl,by rw[A1,lenV];exact hl,by simpa using rv⟩) (λb u z=>by have z':(ah:Option HO)=ae u:=z;cases z') (λb z=>absurd rfl z) λz=>absurd rfl z
 |none=>
  refine core (λb=>if b=a then ae (.frz {cls:=.type "list",data:=.seq vs.toArray} (.lst (ns.map V.int)))else ah) (λb=>?_) (.inl (.inr ⟨{cls:=.type "list",data:=.seq vs.toArray},if_pos rfl⟩)) (λb u z=>?_) (λb z=>?_) λ_=>hk
  ·by_cases hb:b=a
   ·exact .inr ⟨_,_,if_pos hb⟩
   ·exact .inl (if_neg hb)
  ·by_cases hb:b=a
   ·have z':=(if_pos hb).symm.trans z;cases z';subst hb;exact⟨ha,by rw[Ab];exact hl,vs,_,rv,ha⟩
   ·have z':=(if_neg hb).symm.trans z;cases z'
  ·by_cases hb:b=a
   ·exact hb
   ·exact absurd (if_neg hb) z
theorem walk_of{l:PySem.W.OpenLaw}{d:DefRec}{K:Params->Ah}{CX:B3->jn}{sp:B3->Sp}
  (hn:l.most=ae n) (hn2:n<=Az) (hdf:d.params.defaults=[]) (hr:Room k callerA)
  (hY:∀(w:B3)(h:Heap),YP w h->(K w.params).In h)
  (F:∀(w:B3)(mg:Str->Option Ak)(fa:Addr)(h:Heap),(K w.params).In h->h.Ns Dl mg->mg d.name=ae (.ref fa)->
   ∃fd:Ct,(∀(s:Ap)(u:Ak),BindsTo s fd ⟨[u],[]⟩ [(x,u)]) /\
    ∀base:Heap,(K w.params).In base->base.Ns Dl mg->FnOk l.prog w (K w.params) mg base (CX w) k fa fd [x] (sp w))
  (hsp:∀(w:B3)(H:Hp)(a:Addr)(ns:List Int),ns.length<=n->mn H->SqL (K w.params) H a (ns.map V.int)->sp w [.ref a] H (λv _=>v=.bl ai) λ_ _ _=>False)
  (hCX:∀(w:B3)(H:Hp)(s:Ap)(e:Ak)(s':Ap),CX w [] H s (λ_ _ _=>False) e s'->False):
  PySem.W.WalkO q loose XP YP l.row.toRowW d [] (λf vs=>PySem.call f vs):=by
 refine Att.attach_call hn hdf λw s₀ s₁ mg mb fa o pm cd doc a vs ns G Y ho hd hcd hmg hobj hints hlen hg=>?_;have KX:=hY w _ Y;obtain⟨fd,hb,hF⟩:=F w mg fa _ KX G.T.g hmg;exact Mo KX G.T.g G.T.b G.T.builtins G.T.nolimit hg hobj hints (A2 hlen hn2) hr hF hb (λH hO hS=>hsp w H a ns hlen hO hS) λH e s'=>hCX w H s₁ e s'
abbrev dS:jn:=λ_ _ _ _ _ _=>False
abbrev E0:XK:=λ_ _ _=>False
theorem uS:wH dS X E0:=λ_ _ _ _ _ _ _ h=>h.elim
structure Fun(K:Ah)(x qual:Str)(st:Stmt)(f:Addr)(fd:Ct):Prop where
 ex:∃(oc:Ak)(od:Option Addr)(kV doc pm:Ak)(an:Option Addr)(cdv ct:Ak)(osl:Array (Option Ak)),
  fd=E3 x qual (lQ st) (gP st) (dH st) .none kV doc pm an cdv ct/\K.lookup f=ae ⟨oc,od,.func fd,osl⟩/\PySem.W.codeIn K cdv qual=ai
 kp:Cz K (.ref f)=ai
section
variable{P:Bg}{w:B3}{K:Ah}{mg:Str->Option Ak}{base:Heap}
theorem Fun.ok{st:Stmt}(F:Fun K x qual st f fd)(S:FnScope N ps (dH st))(len:∀vs H Q E,sp vs H Q E->vs.length=ps.length)
  (hbody:∀(cdv:Ak)(A:Cj)(outer:List Env)(s:Ap)(H:Hp)(vs:List V)(Q:VK)(E:XK),Room k (A.deeper (envOfC qual (dH st) s.heap.objs.size f cdv))->sp vs H Q E->
   ∃t,PSs (eE dS P w K mg base N qual (dH st) f cdv A outer s H E).nox (gP st) t/\t {nx:=λ_ H'=>Q .non H',rt:=Q} (start N vs) H):FnOk P w K mg base dS (k+1) f fd ps sp:=by
 obtain⟨oc,od,kV,doc,pm,an,cdv,ct,osl,rfl,lk,hcd⟩:=F.ex;refine Qu lk hcd S len λA outer s H vs Q E hr hsp=>?_;obtain⟨t,h,q⟩:=hbody cdv A outer s H vs Q E hr hsp;exact⟨t,h.nox,q⟩
theorem Fun.binds{st:Stmt}(F:Fun K x qual st f fd)
  (h:∀(kV doc pm:Ak)(an:Option Addr)(cdv ct:Ak)(us:List Ak),us.length=ps.length->bindArgs (E3 x qual (lQ st) (gP st) (dH st) .none kV doc pm an cdv ct) ⟨us,[]⟩=pure (ps.zip us)):Binds K fd ps []:=by
 obtain⟨oc,od,kV,doc,pm,an,cdv,ct,osl,rfl,lk,hcd⟩:=F.ex;exact .all (h kV doc pm an cdv ct)
theorem N2{st:Stmt}{kV doc pm cdv ct:Ak}(l:K.lookup f=ae ⟨oc,od,.func (E3 x qual (lQ st) (gP st) (dH st) .none kV doc pm an cdv ct),osl⟩)
  (c:PySem.W.codeIn K cdv qual=ai) (k:Cz K (.ref f)=ai):Fun K x qual st f (E3 x qual (lQ st) (gP st) (dH st) .none kV doc pm an cdv ct):=⟨⟨oc,od,kV,doc,pm,an,cdv,ct,osl,rfl,l,c⟩,k⟩
end
theorem GA(h:n<=1000):n < Az:=Nat.lt_of_le_of_lt h ∎
section
variable{X:Cx}
theorem pv(i){pos:Pos}(hN:X.N[i]?=ae x:=by rfl)(hv:fj X.env.scope x:=by first|exact Ce rfl|exact Bs (Ce rfl)|exact Bs (Bs rfl))(hd:(x==("__debug__":Str))=aj:=by decide)
  (hcd:(x==("__classdict__":Str))=aj:=by decide):PE X (.Name x pos) (cq i):=fW hN hv hd hcd
end
theorem t8{A B:Prop}(h:B):if aj=ai then A else B:=by
 rw[if_neg Ae];exact h
theorem jY{c A B:Prop}[Decidable c](h1:c->A)(h2:¬c->B):if c then A else B:=by
 by_cases h:c
 ·rw[if_pos h];exact h1 h
 ·rw[if_neg h];exact h2 h
def i0(H H':Hp):Prop:=∀b o,H b=ae o->H' b=ae o
end L2
namespace Nb
open PySem L2
def pb:Bool:=ai
def sP:List V:=[.non,.non,.non,.int 1,.int 2,.int 3,.int 20]
def kD:List Aa:=[.none,.none,.none,.int 1,.int 2,.int 3,.int 20]
end Nb
namespace L2
open PySem PySem.Spec PyProof.Rows
section
variable{prog:Bg}{w:B3}{A:Cj}{R:Result->Ap->Prop}{s:Ap}
theorem IU(I:Nat->Ap->Prop)
  (turn:∀n s,I n s->A9 (Bh prog w) A (pyNext it) (λr s₁=>match r with
   |none=>R (.ok .next) s₁
   |some v=>A9 (Bh prog w) A (letOwnedTupleGo target it v) (λ_ s₁'=>A9 (Bh prog w) A (F4 target env v) (λ_ s₂=>
     A9 (Bh prog w) A (forIn ifs ai λc r=>if r=ai then do let ok <-isTrue c env (eval c env);pure (ForInStep.yield ok)else pure (ForInStep.yield r)) (λok s₃=>
      if ok=ai then A9 (Bh prog w) A (eval elt env) (λx s₄=>
       A9 (Bh prog w) A (call (.builtin "list.append") [acc,x]) (λ_ s₅=>∃m,m < n/\I m s₅) (λ_ _=>False) s₄) (λ_ _=>False) s₃
      else ∃m,m < n/\I m s₃) (λ_ _=>False) s₂) (λ_ _=>False) s₁') (λ_ _=>False) s₁) (λ_ _=>False) s)
  (n) (h:I n s):codeAny (Bh prog w) A (.compLoop (.ListComp elt [⟨target,iter,ifs,0⟩] scope pos) 0 it acc env) R s:=by
 refine codeAny_loop rfl I (λn s hI=>?_) n h;show A9 _ A ((compTurn (.ListComp elt [⟨target,iter,ifs,0⟩] scope pos) 0 it acc env).onRaise (λx=>do noteFrame x env;theTreesLotGoes x)) _ _ s;refine wpAny_noted ?_;rw[compTurn_list];refine Ad (wpAny_standAt (Ad (Dh (turn n s hI) (λr s₁ h₁=>?_) λ_ _ f=>f.elim)));cases r with
 |none=>exact Ay h₁
 |some v=>
  refine Ad (Dh h₁ (λ_ s₁' h₁'=>?_) λ_ _ f=>f.elim);refine Ad (Dh h₁' (λ_ s₂ h₂=>Ad (Dh h₂ (λok s₃ h₃=>?_) λ_ _ f=>f.elim)) λ_ _ f=>f.elim);cases ok with
  |false=>exact Ay ⟨rfl,h₃⟩
  |true=>
   exact Ad (Ad (Dh h₃ (λx s₄ h₄=>Ad (Dh h₄ (λ_ s₅ h₅=>Ay (Ay ⟨rfl,h₅⟩)) λ_ _ f=>f.elim)) λ_ _ f=>f.elim))
end
def dh(X:Cx)(N:List Str)(scope:Er)(cl:List (Str×Addr))(s:Ap)(H:Hp)(fp:List Addr):Cx:=
 { X with N:=N,s₀:=s,H₀:=H,env:=compEnvC scope cl s.heap.objs.size X.env,outer:=X.stack,ex:=fp,fn:=λ_=>aj,pn:=[],xe:=λ_ _=>False}
structure CompSc(X:Cx)(N:List Str)(scope:Er)(cl:List (Str×Addr))(fr:List (Option Nat)):Prop where
 clos:closureFor scope X.env=pure cl
 kind:scope.kind=.function
 nocell:∀y∈scope.names,y.2≠.cell
 names:∀y∈scope.names,y.2=.local->scope.names.lookup y.1=ae .local
 sub:∀x c,cl.lookup x=ae c->X.env.cells.lookup x=ae c
 has:∀x,((relabel scope X.env).names.lookup x=ae .cell\/(relabel scope X.env).names.lookup x=ae .free)->∃c,cl.lookup x=ae c
 len:fr.length=N.length
 fre:∀(j i:Nat),fr[j]?=ae (ae i)->∃x,N[j]?=ae x/\X.N[i]?=ae x/\fj X.env.scope x/\(X.env.kindOf x=ae .cell\/X.env.kindOf x=ae .free) /\
  ((relabel scope X.env).names.lookup x=ae .cell\/(relabel scope X.env).names.lookup x=ae .free)/\cl.lookup x=X.env.cells.lookup x
theorem sG{κ:Type}:∀{l:List (Str×κ)}{x:Str}{k:κ},l.lookup x=ae k->(x,k)∈l
 |[],_,_,h=>nomatch h
 | (y,k')::r,x,k,h=>by
  rw[List.lookup_cons]at h;cases e:x==y with
  |true=>
   rw[e]at h;have e':x=y:=by simpa using e
   have h':k'=k:=A8 h;rw[e',h'];exact As
  |false=>
   rw[e]at h;exact Ar _ (sG h)
theorem Hj{κ:Type}:∀{l:List (Str×κ)}{x:Str},x∈l.map (·.1)->∃k,l.lookup x=ae k
 |[],_,h=>absurd h (by simp)
 | (y,k')::r,x,h=>by
  rw[List.lookup_cons];cases e:x==y with
  |true=>exact⟨k',rfl⟩
  |false=>
   have ne:¬x=y:=λz=>by rw[z]at e;simp at e
   have h':x∈y::r.map (·.1):=h;rcases Ao.mp h' with z|z
   ·exact absurd z ne
   ·exact Hj z
theorem Vo{X:Cx}{cl:List (Str×Addr)}(nm)(ks)(hrel:(relabel scope X.env).names=nm)(hks:cl.map (·.1)=ks)(h3:∀y∈nm,(y.2=.cell\/y.2=.free)->y.1∈ks):
  ∀x,((relabel scope X.env).names.lookup x=ae .cell\/(relabel scope X.env).names.lookup x=ae .free)->∃c,cl.lookup x=ae c:=by
 intro x h;rw[hrel]at h;refine Hj ?_;rw[hks];rcases h with h|h
 ·exact h3 _ (sG h) (.inl rfl)
 ·exact h3 _ (sG h) (.inr rfl)
def eC(fr:List (Option Nat))(σ:St):St:=fr.map λo=>o.bind λi=>(σ[i]?).bind id
theorem Rn{j:Nat}(h:(eC fr σ)[j]?=ae (ae v)):∃i,fr[j]?=ae (ae i)/\σ[i]?=ae (ae v):=by
 unfold eC at h;rw[Aw]at h;cases e:fr[j]? with
 |none=>rw[e]at h;cases h
 |some o=>
  rw[e]at h;cases o with
  |none=>cases h
  |some i=>
   refine⟨i,rfl,?_⟩;have h':(σ[i]?).bind id=ae v:=A8 h;cases e2:σ[i]? with
   |none=>rw[e2]at h';cases h'
   |some o2=>
    rw[e2]at h';have h2:o2=ae v:=h';rw[h2]
def pE(X:Cx)(ifs:List Expr)(tt:TT):Prop:=
 ∀(pins:List (Addr×Obj))(s:Ap)(σ:St)(H:Hp)(Q:Bool->Hp->Prop),Inv X pins σ H s->tt σ H Q->
  A9 (Bh X.prog X.w) X.A (forIn ifs ai λc r=>if r=ai then do let ok <-isTrue c X.env (eval c X.env);pure (ForInStep.yield ok)else pure (ForInStep.yield r)) (TP X pins σ Q) X.xe s
def Hu:TT:=λ_ H Q=>Q ai H
theorem Sj:pE X [] Hu:=λ_ _ _ H _ I h=>wpAny_tests_nil ⟨H,I,h⟩
theorem Po(h:PT X c tt):pE X [c] tt:=λpins s σ H Q I q=>wpAny_tests_one (h pins s σ H Q I q)
def mz(fr:List (Option Nat))(wi:TI)(g:TG)(tt:TT)(te:TE):TE:=λσ H Q=>wi σ H λJ H1=>∀D,H1 D=ah->
 ∃W:Nat->Nat->List V->St->Hp->Prop,(∃m,W 0 m [] (eC fr σ) (upd H1 D (.lst [])))/\∀i m ys τ H,W i m ys τ H->
  ((J.stop i H/\Q (.ref D) H)\/(J.go i H/\ys.length < Az/\∀x H',J.yld i H x H'->g x τ H' λτ2 H2=>tt τ2 H2 λb H3=>
   if b=ai then te τ2 H3 (λy H4=>H4 D=ae (.lst ys)/\∃m',m' < m/\W (i+1) m' (ys++[y]) τ2 (upd H4 D (.lst (ys++[y]))))else ∃m',m' < m/\W (i+1) m' ys τ2 H3))
section
variable{X:Cx}{N:List Str}{scope:Er}{cl:List (Str×Addr)}{fr:List (Option Nat)}{pins:List (Addr×Obj)}{σ:St}{H:Hp}{s:Ap}{fp:List Addr}
theorem JP(S:CompSc X N scope cl fr)(I:Inv X pins σ H s)(hf:∀b∈fp,dF X pins H b)(hlt:∀b∈fp,b < s.heap.objs.size):(dh X N scope cl s H fp).Ok where
 mod:=I.ok.mod
 kind:=S.kind
 glob:=I.ok.glob
 blt:=I.ok.blt
 above:=An _
 inj:=λx y c a b=>I.ok.inj x y c (S.sub x c a) (S.sub y c b)
 has:=λx h=>S.has x h
 cab:=λx c h=>nomatch h
 hd:=I.ok.hd
 frames:=I.ok.frames
 stk:=.inl rfl
 exf:=λb hb=>⟨Bk (hlt b hb),λx c e=>(hf b hb).2.2.2.2.1 x c (S.sub x c e)⟩
 bs:=I.bs
 bsz:=A2 I.ok.bsz I.sz
 noex:=λb o e hb=>by
  rcases(hf b hb).2.2.2.1 with z|z
  ·exact I.ok.noex b o e z
  ·exact absurd (Bo (A0 (I.ok.bs b o e).1) z) (Ex _)
 exfs:=λb hb z=>by
  rcases Ao.mp (I.stkSub b z)with e|e
  ·exact(hf b hb).2.1 e
  ·exact(hf b hb).2.2.1 e
 funs:=I.stack
 frf:=I.stkFree
theorem AM(S:CompSc X N scope cl fr)(I:Inv X pins σ H s)(hf:∀b∈fp,dF X pins H b)(hlt:∀b∈fp,b < s.heap.objs.size)
   (hsb:Ed s.heap.objs.size (s.heap.push ob) h₁)  (hn:h₁.Ns s.heap.objs.size m):
  Inv (dh X N scope cl s H fp) [] (eC fr σ) H {s with heap:=h₁,toks:=t'}:=by
 have old:∀b o,s.heap.get? b=ae o->h₁.get? b=ae o:=λb o e=>(hsb.2 b (Bk (A0 e))).trans (Ag _ e);refine⟨JP S I hf hlt,rfl,I.bare,Un.kept old,⟨m,hn,λj x v e1 e2 e3=>?_⟩,λx c e=>?_,I.fresh,λx c e=>I.freeC x c (S.sub x c e),λp hp=>?_,I.hok.kept old,?_⟩
 ·obtain⟨i,f1,f2⟩:=Rn e2;obtain⟨y,g1,g2,g3,g4,g5,g6⟩:=S.fre j i f1;have e1':N[j]?=ae x:=e1;rw[g1]at e1';have exy:y=x:=A8 e1';subst exy;obtain⟨m0,hn0,hl⟩:=I.loc;obtain⟨u,r,l⟩:=hl i y v g2 f2 g3;refine⟨u,r,.inr ⟨g5,?_⟩⟩;rcases l with⟨k,_⟩|⟨k,c,e,z⟩
  ·rcases g4 with q|q
   ·rw[q]at k;cases k
   ·rw[q]at k;cases k
  ·exact⟨c,g6.trans e,z.keeps old⟩
 ·obtain⟨v,z⟩:=I.cell x c (S.sub x c e);exact⟨v,z.keeps old⟩
 ·exact absurd hp (by simp[dh])
 ·show(eC fr σ).length=N.length;unfold eC;rw[Ab,S.len]
theorem FE{τ:St}(I:Inv X pins σ H s0)(hf:∀b∈fp,dF X pins H b)(I':Inv (dh X N scope cl s0 H fp) [] τ H' s')(hs:Ed s0.heap.objs.size s'.heap h'):
  Inv X pins σ H' {s' with heap:=h'}:=by
 have hC:H' s0.heap.objs.size=ah:=I'.free;have u:Un (iF X.stack) fp H H' s0.heap s'.heap:=I'.base;have ne:∀b o,s0.heap.get? b=ae o->b≠s0.heap.objs.size:=λb o e=>Bk (A0 e);have hok':HOk X.prog X.w H' h':=λb o e=>by
  have q:ObjOk X.prog X.w H' s'.heap b o:=I'.hok b o e;refine q.stay (λc v hc z=>(hs.2 c ?_).trans z) (λ_ z=>z) λ_ _ z=>z
  rintro rfl
  rcases hc with z|z
  ·rw[<-z,hC]at e;cases e
  ·rw[hC]at z;cases z
 refine I.call' (s':={ s' with heap:=h'}) (ch:=fp) I'.os ?_ hok' I'.bare λb hb=>?_
 ·refine⟨λb o e n h1 h2=>(hs.2 b (ne b o e)).trans (u.keep b o e n h1 h2),λb o e n h1 h2=>?_,u.free,λb o e h2=>?_,u.tups,u.frzs,u.tbls⟩
  ·obtain⟨sl,z⟩:=u.slot b o e n h1 h2;exact⟨sl,(hs.2 b (ne b o e)).trans z⟩
  ·obtain⟨o',z⟩:=u.there b o e h2;exact⟨o',(hs.2 b (ne b o e)).trans z⟩
 ·obtain⟨_,f1,_,f3,f4,f5⟩:=hf b hb;exact⟨f3,f1,f4,f5⟩
end
theorem QT
  (hc:X.calm=ai) (S:CompSc X N scope cl fr) (hi:PI X tg iter wi) (hg:∀s H fp,PG (dh X N scope cl s H fp) tg g) (ht:∀s H fp,pE (dh X N scope cl s H fp) ifs tt)
  (he:∀s H fp,PE (dh X N scope cl s H fp) elt te) (hs:∀x,D1 iter X.env x=pure x:=by intro _;rfl):
  PE X (.ListComp elt [⟨tg,iter,ifs,0⟩] scope pos) (mz fr wi g tt te):=by
 intro pins s σ H Q I h;rw[eval_ListComp];refine wpAny_comprehension_free (use:=ah) (cl:=cl) rfl hs S.clos S.kind S.names (a9 (hi pins s σ H _ I h) λv s1 h1=>a9 h1 λitv s2 h2=>?_);obtain⟨it,fp,tn,J,H2,e,I2,T,st2,f2,q⟩:=h2;subst e;refine Cc (wpAny_newFunctionEnv S.nocell (by intro y hy;simp at hy) (λh₁ hn hsb=>?_) S.kind);dsimp only at hn hsb ⊢;obtain⟨W,⟨m0,w0⟩,turn⟩:=q s2.heap.objs.size I2.fresh
 have I3:Inv X pins σ (upd H2 s2.heap.objs.size (.lst [])) {s2 with heap:=s2.heap.push {cls:=.type "list",dict:=ah,data:=.seq ([]:List Ak).toArray}}:=I2.lnew (its:=[]) (t':=s2.toks) .nil (Bm _);have key:∀s3:Ap,s3={ s2 with heap:=s2.heap.push {cls:=.type "list",dict:=ah,data:=.seq ([]:List Ak).toArray}}->Inv X pins σ (upd H2 s2.heap.objs.size (.lst [])) s3->
   ∀(ob:Obj)(mm:Str->Option Ak),Ed s3.heap.objs.size (s3.heap.push ob) h₁->h₁.Ns s3.heap.objs.size mm->
   codeAny (Bh X.prog X.w) X.A (.compStart (.ListComp elt [⟨tg,iter,ifs,0⟩] scope pos) 0 (.ref it) (.ref s2.heap.objs.size) (compEnvC scope cl s3.heap.objs.size X.env))
    (compPost (Bh X.prog X.w) X.A X.xe ah (EP X pins σ Q) (.ref s2.heap.objs.size) s3.heap.objs.size) {s3 with heap:=h₁,toks:=s3.toks+([]:List (Str×Ak)).length}:=?key
 ·exact key _ rfl I3 _ _ hsb hn
 clear I3 hn hsb;intro s3 hs3 I3 ob mm hsb hn;have hfp:∀b∈fp,∃o,s2.heap.get? b=ae o:=λb hb=>let⟨o,e,_⟩:=T.obj _ _ st2 b hb;⟨o,e⟩;have up:∀b o,s2.heap.get? b=ae o->s3.heap.get? b=ae o:=λb o e=>by rw[hs3];exact Ag _ e
 have f3:∀b∈fp,dF X pins (upd H2 s2.heap.objs.size (.lst [])) b:=λb hb=>by
  obtain⟨o,e⟩:=hfp b hb;obtain⟨g0,gr⟩:=f2 b hb;exact⟨by rw[aY (Bk (A0 e))];exact g0,gr⟩
 have hlt:∀b∈fp,b < s3.heap.objs.size:=λb hb=>let⟨o,e⟩:=hfp b hb;A0 (up b o e);generalize hH3:upd H2 s2.heap.objs.size (.lst [])=H3 at I3 f3 w0;have I4:=AM (t':=s3.toks+([]:List (Str×Ak)).length) S I3 f3 hlt hsb hn;have st4:tn 0 h₁:=T.keep _ _ _ st2 λb hb o e=>(hsb.2 b (Bk (A0 (up b o e)))).trans (Ag _ (up b o e));have stat:∀{H':Hp},(∀b∈fp,H' b=ah)->∀b∈fp,dF (dh X N scope cl s3 H3 fp) [] H' b:=λhn b hb=>by
  obtain⟨_,k1,k2,k3,k4,k5⟩:=f3 b hb;refine⟨hn b hb,Bk (hlt b hb),λz=>?_,.inl hb,λx c e=>k4 x c (S.sub x c e),λp hp=>absurd hp (by simp[dh])⟩;rcases Ao.mp (I3.stkSub b z)with e|e
  ·exact k1 e
  ·exact k2 e
 have loop:codeAny (Bh X.prog X.w) X.A (.compLoop (.ListComp elt [⟨tg,iter,ifs,0⟩] scope pos) 0 (.ref it) (.ref s2.heap.objs.size) (compEnvC scope cl s3.heap.objs.size X.env))
   (compPost (Bh X.prog X.w) X.A X.xe ah (EP X pins σ Q) (.ref s2.heap.objs.size) s3.heap.objs.size) {s3 with heap:=h₁,toks:=s3.toks+([]:List (Str×Ak)).length}:=by
  refine IU (λn s'=>∃i ys τ Hc,Inv (dh X N scope cl s3 H3 fp) [] τ Hc s'/\tn i s'.heap/\(∀b∈fp,Hc b=ah)/\W i n ys τ Hc) ?_ m0 ⟨0,[],eC fr σ,H3,I4,st4,λb hb=>(f3 b hb).1,w0⟩
  rintro n s5 ⟨i,ys,τ,Hc,I5,st5,fr5,w5⟩
  rcases turn i n ys τ Hc w5 with⟨stop,qn⟩|⟨go,hz,step⟩
  ·refine a9 (T.done (dh X N scope cl s3 H3 fp) rfl rfl rfl hc i [] s5 τ Hc (λ_ _=>False) I5 (stat fr5) st5 stop) λr s6 ⟨hr,I6⟩=>?_;subst hr;obtain⟨mm,hm,_⟩:=I6.loc;exact⟨mm,hm,λh' hs'=>⟨.ref s2.heap.objs.size,Hc,FE I3 f3 I6 hs',rfl,qn⟩⟩
  ·refine a9 (T.item (dh X N scope cl s3 H3 fp) rfl rfl rfl hc i [] s5 τ Hc (λ_ _=>False) I5 (stat fr5) st5 go) λr s6 ⟨u,hr,h6⟩=>?_;subst hr;refine a9 h6 λ_ s7 ⟨x,H7,I7,r7,y7,st7,fr7⟩=>?_;have I7':=I7.pinned (stat fr7) (T.obj _ _ st7);refine a9 (hg s3 H3 fp _ s7 τ H7 x u _ I7' r7 (step x H7 y7)) λ_ s8 ⟨τ8,H8,I8,q8⟩=>?_;refine a9 (ht s3 H3 fp _ s8 τ8 H8 _ I8 q8) λok s9 ⟨H9,I9,q9⟩=>?_;have keep:∀{st:Ap}{τ':St}{H':Hp},Inv (dh X N scope cl s3 H3 fp) ([]++mW fp s7.heap) τ' H' st->tn (i+1) st.heap/\∀b∈fp,H' b=ah:=λ{st τ' H'} Ix=>by
    refine⟨T.keep _ _ _ st7 λb hb o e=>(Ix.pin (b,o) (Be _ (Be _ (mU hb e)))).1,λb hb=>?_⟩;obtain⟨o,e,d⟩:=T.obj _ _ st7 b hb;exact(Ix.pin (b,o) (Be _ (Be _ (mU hb e)))).2.1
   cases ok with
   |false=>
    rw[if_neg Ae]at q9 ⊢;obtain⟨m',hm,w9⟩:=q9;obtain⟨k1,k2⟩:=keep I9;exact⟨m',hm,i+1,ys,τ8,H9,I9.unpinned,k1,k2,w9⟩
   |true=>
    rw[if_pos rfl]at q9 ⊢;refine a9 (he s3 H3 fp _ s9 τ8 H9 _ I9 q9) λxv s10 ⟨y,H10,I10,r10,hD,m',hm,w10⟩=>?_;refine a9 (vC _ s10 τ8 H10 (.ref s2.heap.objs.size) [y] (.ref s2.heap.objs.size) [xv] (λz H'=>∃m',m' < n/\W (i+1) m' (ys++[y]) τ8 H') I10 rfl (.cons r10 .nil) ⟨_,ys,y,rfl,rfl,hD,hz,m',hm,w10⟩) λz s11 ⟨z',H11,I11,_,m'',hm',w11⟩=>?_;obtain⟨k1,k2⟩:=keep I11;exact⟨m'',hm',i+1,ys++[y],τ8,H11,I11.unpinned,k1,k2,w11⟩
 exact codeAny_compStart_list loop (T.self _ 0 _ _ _ st4 loop)
mutual
inductive RdD(K:Ah)(H:Hp):V->Aa->Prop
 |non:RdD K H .non .none
 |bl (b:Bool):RdD K H (.bl b) (.bool b)
 |int (i:Int):RdD K H (.int i) (.int i)
 |str (x:Str):RdD K H (.str x) (.str x)
 |lst {a:Addr} {xs:List V} {ds:List Aa}:SqL K H a xs->RdAll K H xs ds->RdD K H (.ref a) (.list ds)
 |tup {a:Addr} {xs:List V} {ds:List Aa}:SqT K H a xs->RdAll K H xs ds->RdD K H (.ref a) (.tuple ds)
inductive RdAll(K:Ah)(H:Hp):List V->List Aa->Prop
 |nil:RdAll K H [] []
 |cons {x:V} {xs:List V} {d:Aa} {ds:List Aa}:RdD K H x d->RdAll K H xs ds->RdAll K H (x::xs) (d::ds)
end
section
variable{X:Cx}{pins:List (Addr×Obj)}{σ:St}{H:Hp}{s:Ap}
mutual
theorem RdD.reads(I:Inv X pins σ H s):∀{v:V}{d:Aa}{u:Ak},RdD X.K H v d->RelV v u->∃as,Reads s.heap u d as
 |_,_,u,.non,r=>by
  cases(show u=Bu from r);exact⟨_,.none⟩
 |_,_,u,.bl b,r=>by
  cases(show u=Value.bool b from r);exact⟨_,.bool b⟩
 |_,_,u,.int i,r=>by
  obtain⟨t,rfl⟩:=(show ∃t,u=F8 i t from r);exact⟨_,.int i t⟩
 |_,_,u,.str x,r=>by
  obtain⟨t,rfl⟩:=(show ∃t,u=Fs x t from r);exact⟨_,.str x t⟩
 |_,_,u,.lst (a:=a) h1 h2,r=>by
  cases(show u=A6 a from r);obtain⟨its,rv,⟨o,n,e,c,_,d⟩,_⟩:=I.list h1;obtain⟨as,ha⟩:=RdAll.reads I h2 rv;exact⟨_,.list e c d (by simpa using ha)⟩
 |_,_,u,.tup (a:=a) h1 h2,r=>by
  cases(show u=A6 a from r);obtain⟨its,rv,⟨o,e,c,n,d⟩,_⟩:=I.tuple h1;obtain⟨as,ha⟩:=RdAll.reads I h2 rv;exact⟨_,.tuple e c d (by simpa using ha)⟩
theorem RdAll.reads(I:Inv X pins σ H s):∀{vs:List V}{ds:List Aa}{us:List Ak},RdAll X.K H vs ds->Vals vs us->∃as,ReadsAll s.heap us ds as
 |_,_,_,.nil,.nil=>⟨_,.nil⟩
 |_,_,_,.cons h1 h2,.cons r1 r2=>by
  obtain⟨as,ha⟩:=RdD.reads I h1 r1;obtain⟨bs,hb⟩:=RdAll.reads I h2 r2;exact⟨_,.cons ha hb⟩
end
end
def Small(d:Aa):Prop:=B4 d=ai/\B5 d<=20/\Es d<=2 ^ 20/\D3 13 d=ai/\Dx d=ai
theorem Small.len(h:Small d):d.shown.length<=Az:=by
 have hl:PyData.layable0 d=ai:=by
  unfold PyData.layable0;rw[h.1,decide_eq_true (show B5 d<=64 by have:=h.2.1;omega),decide_eq_true h.2.2.1];rfl
 have:=shown_le13 hl h.2.2.2.1;rw[Ew];omega
def qE(K:Ah):R2:=λx y H Q=>∃a b xs,x=.ref a/\y=.ref b/\SqL K H a xs/\SqL K H b []/\Q (.bl xs.isEmpty) H
theorem Om(hu:X.A.units < Eo):OpR X (Bx .Eq) (qE X.K):=by
 intro pins s σ H x y v u Q I rx ry h;obtain⟨a,b,xs,rfl,rfl,ha,hb,q⟩:=h;cases(show v=A6 a from rx);cases(show u=A6 b from ry);obtain⟨its,r1,p1,_⟩:=I.list ha;obtain⟨its2,r2,p2,_⟩:=I.list hb;have e2:its2=[]:=Vals.zero r2;subst e2;cases r1 with
 |nil=>exact PySem.SeqAt.eq_listAt (e:=λ_=>ai) p1.isList p2.isList rfl hu (λj h1=>absurd h1 (by simp)) ⟨.bl ai,H,I,(by rfl),q⟩
 |cons r1 r3=>exact PySem.SeqAt.eq_list_lengthsAt p1.isList p2.isList (by simp) hu ⟨.bl aj,H,I,rfl,q⟩
def CL(K:Ah):R2:=λx y H Q=>∃a b xs ys,x=.ref a/\y=.ref b/\SqT K H a xs/\SqT K H b ys/\ys≠[]/\xs.length+ys.length<=Az /\
 (xs=[]->Q (.ref b) H)/\(xs≠[]->∀p,H p=ah->Q (.ref p) (upd H p (.tup (xs++ys))))
theorem op_catA:OpR X (Ep .Add) (CL X.K):=by
 intro pins s σ H x y v u Q I rx ry h;obtain⟨a,b,xs,ys,rfl,rfl,ha,hb,hy,hz,q0,q2⟩:=h;by_cases hx:xs=[]
 ·cases(show v=A6 a from rx);cases(show u=A6 b from ry);obtain⟨its,r1,p1,_⟩:=I.tuple ha;obtain⟨its2,r2,p2,_⟩:=I.tuple hb;obtain⟨⟨cls,dd,data,sl⟩,ho,hc,n,hd⟩:=id p1;obtain⟨⟨cls2,dd2,data2,sl2⟩,ho2,hc2,n2,hd2⟩:=id p2;simp only at hc hd hc2 hd2;subst hc hd hc2 hd2;have hi:its=[]:=r1.nil_iff.mpr hx;exact concat_meets ⟨_,ho,rfl⟩ ⟨_,ho2,rfl⟩ noFill_tuple_add seq_tuple_add Fw Fn (Ff _ _)
   (tuple_addW0 a b its.toArray its2.toArray n n2 dd dd2 sl sl2 (by simp[hi])) ⟨ho,ho2,⟨.ref b,H,I,rfl,q0 hx⟩⟩
 ·exact op_catT pins s σ H (.ref a) (.ref b) v u Q I rx ry ⟨a,b,xs,ys,rfl,rfl,ha,hb,hx,hz,λe=>absurd e hy,λ_=>q2 hx⟩
theorem O1:CallR X (.builtin "isinstance") (λxs H Q=>∃x t b,xs=[x,.ty T]/\TyOf X.K H x t/\PySem.W.kitOne X.K t (.type T)=ae b/\Q (.bl b) H):=by
 intro pins s σ H xs us Q I r h;obtain⟨x,t,b,rfl,ty,e,q⟩:=h;obtain⟨u,u',rfl,ru,ru'⟩:=qk r;cases(show u'=Ee T from ru');exact Mc I ru ty e λtk=>⟨.bl b,H,I.tok tk,rfl,q⟩
section
variable{prog:Bg}{w:B3}{A:Cj}{E:Ak->Ap->Prop}{s:Ap}
theorem HK:entryFor table "dict.update.loop"=ae Builtin.«dict.update.loop»:=entryFor_of_tree (by kernel_rfl)
theorem qx:plainId "dict.update.loop"=ai:=by decide +kernel
theorem UA:typeLookup (.type "tuple") "keys"=pure ah:=by rw[typeLookup_type,builtinLookup_eq_fast];kernel_rfl
theorem QV(p:IsTup s.heap a its.toArray)(h:Q its s):A9 (Bh prog w) A (Builtin.Dict.pairItems (.ref a)) Q E s:=by
 obtain⟨o,ho,hc,n,hd⟩:=id p;unfold Builtin.Dict.pairItems;refine Ad (Fp (show s.TypeIs (.ref a) "tuple" from⟨o,ho,hc⟩) ?_);rw[if_pos ∎];refine Ad (En ho hd (Ay ?_));simpa using h
set_option maxRecDepth 8000 in
theorem Mq
  (hx:s.heap.get? a=ae o) (hc:o.cls=.type "tuple") (hdat:o.data=.seq xs k) (hd:o.dict=ah) (hmiss:typeLookup (.type "tuple") name=pure ah) (hname:(["__module__","__name__","__qualname__","__doc__","__annotations__"]:List Str).contains name=aj) (hA:A.handled=ah)
  (h:∀h' tk e,Heap.NewExcOf s.heap h' e "AttributeError"->Q ah {s with heap:=h',toks:=tk}) (hsz:name.length+100<=Az:=by size_fits):
  A9 (Bh prog w) A (getAttr? (.ref a) name) Q E s:=by
 obtain⟨c,dct,dat,sl⟩:=o;simp only at hc hdat hd;subst hc hdat hd;obtain⟨hp,g,d,tk,os⟩:=s;have hT:∀tk',(⟨hp,g,d,tk',os⟩:Ap).TypeIs (.ref a) "tuple":=λ_=>⟨_,hx,rfl⟩;have f1:=sub_AttributeError;have f3:=F.slot_tuple_getattribute.lookup;have f4:=F.slot_tuple_getattribute.bind (.ref a);have f5:=am_tuple_getattr_none;unfold getAttr? getAttrBy? getAttrBy
 repeat (any_goals (first|assumption|exact hT _|((with_reducible show A9 _ _ (call (Value.builtin "tuple.__getattribute__") _ _) _ _ _);refine call_meets F.slot_tuple_getattribute (hT _) am_entry_tuple_getattribute (F.args_tuple_getattribute_2 _ _) (meets_getattribute_miss_tuple a xs k sl name _ hmiss hname hsz) ⟨hx,hA,λh' tk' e hx'=>?_⟩)|wp_step))
 obtain⟨t',u',he⟩:=hx'.there;show A9 _ _ (getattributeRaised _ _ _ _ _ _ _) _ _ _;unfold getattributeRaised
 repeat (any_goals (first|assumption|wp_step))
 exact h _ _ _ hx'.of
end
section
variable{X:Cx}{pins:List (Addr×Obj)}{σ:St}{A:Cj}{R:Result->Ap->Prop}
theorem SqT.upd{K:Ah}(h:H a=ae (.tup xs))(hd:a≠d):(L2.upd H d o) a=ae (.tup xs):=by rw[aY hd];exact h
theorem N3(hA:A.handled=ah)(ps:List (Addr×aG×V)):∀(n i:Nat)(H:Hp)(s:Ap)(kvs:List (aG×V)),n+i=ps.length->Inv X pins σ H s->H d=ae (.dK kvs)->kvs.length+n<=Az->
  H src=ae (.tup (ps.map λp=>.ref p.1))->(∀p∈ps,H p.1=ae (.tup [kV p.2.1,p.2.2]))->s.heap.IsTupleIter it src i->dF X pins H it->
  (∀H' s',Inv X pins σ H' s'->H'=L2.upd H d (.dK (lP kvs ((ps.drop i).map (·.2))))->R (.ok (.ret .none)) s')->
  codeAny (Bh X.prog X.w) A (.builtin "dict.update.loop" ⟨[.ref d,.ref it,rawInt i,.none],[]⟩) R s:=by
 intro n
 induction n with
 |zero=>
  intro i H s kvs hn I hd hz hs hp st f hR;obtain⟨its,rv,p,_⟩:=I.tuple (SqT.of (K:=X.K) hs);obtain⟨f0,f1,f2,f3,f4,f5⟩:=f;refine E2 HK ?_;rw[Ez qx _];show A9 _ _ (pyNext (.ref it)>>=_) _ _ s;have hl:=rv.length;rw[Ab]at hl;refine Ad (wpAny_pyNext_tuple_end (A:=A.in1) hA st (show s.heap.IsTuple src its.toArray from p) (by simp;omega) λh' eb=>?_);show A9 _ _ (Builtin.Dict.addKeywords d []>>=_) _ _ _;refine Ad (Ay (Ay ?_));refine hR H _ (I.turned (t':=s.toks) (λb o hb e=>eb b o hb e) f0 f1 f3 f4 f5) ?_;have e1:ps.drop i=[]:=List.drop_eq_nil_of_le ⋯;rw[e1]
  funext b
  unfold L2.upd
  split
  ·rename_i hb;rw[hb,hd];rfl
  ·rfl
 |succ n ih=>
  intro i H s kvs hn I hd hz hs hp st f hR;obtain⟨its,rv,p,_⟩:=I.tuple (SqT.of (K:=X.K) hs);obtain⟨f0,f1,f2,f3,f4,f5⟩:=id f;have hi:i < ps.length:=by omega
  have hpi:(ps.map λp=>V.ref p.1)[i]?=ae (V.ref (ps[i]).1):=by simp[hi]
  obtain⟨u,hu,ru⟩:=rv.get hpi;cases(show u=A6 (ps[i]).1 from ru);have hmem:ps[i]∈ps:=Cg hi;have hq:=hp _ hmem;refine E2 HK ?_;rw[Ez qx _];show A9 _ _ (pyNext (.ref it)>>=_) _ _ s;refine Ad (wpAny_pyNext_tuple_item st (show s.heap.IsTuple src its.toArray from p) (x:=A6 (ps[i]).1) (by simpa using hu) λh1 st1 sb=>?_);have I1:Inv X pins σ H {s with heap:=h1}:=I.turned (t':=s.toks) (λb o hb e=>(sb.2 b hb).trans e) f0 f1 f3 f4 f5;obtain⟨its1,rv1,p1,_⟩:=I1.tuple (SqT.of (K:=X.K) hq);obtain⟨u1,u2,rfl,r1,r2⟩:=qk rv1;refine Ad (Dy ?_);refine Ad (wpAny_tryCatch (QV p1 ?_));obtain⟨z,hdS,vs,rel,dd⟩:=qM I1.hok hd;have hz1:vs.length<=Az:=by rw[<-rel.length];exact z
  have hl1:=rZ kvs (ps[i]).2.1 (ps[i]).2.2;refine Dy (wpAny_dictSet_pairs (hsz:=hz1) (lr r1) dd λh2 dd2 hs2=>?_);have he2:∃q,h2.get? d=ae q:=let⟨q,_,_,hq,_⟩:=dd2;⟨q,hq⟩;have I2:=mE (t':=s.toks+1) I1 (by rw[hd];exact C7) hs2 he2 (sI ⋯ hdS (rel.put (ps[i]).2.1 r2) dd2);have nd:∀b xs,H b=ae (.tup xs)->b≠d:=λb xs e z=>by rw[z,hd]at e;cases e
  have nit:it≠d:=λz=>by rw[z,hd]at f0;cases f0
  have hc:((i:Int)+1)=((i+1:Nat):Int):=by push_cast;rfl
  show A9 _ _ (pure (Fin.again (.builtin "dict.update.loop" ⟨[.ref d,.ref it,rawInt ((i:Int)+1),.none],[]⟩))) _ _ _;refine Ay ⟨plainId_quiet qx _,?_⟩;rw[hc];refine ih (i+1) _ _ (cI kvs (ps[i]).2.1 (ps[i]).2.2) ⋯ I2 bB ⋯ (SqT.upd (K:=X.K) hs (nd _ _ hs)) (λq hq'=>SqT.upd (K:=X.K) (hp q hq') (nd _ _ (hp q hq'))) (by
   obtain⟨o,e,r⟩:=st1;exact⟨o,(hs2.2 it nit).trans e,r⟩) ⟨by rw[aY nit];exact f0,f1,f2,f3,f4,f5⟩ λH' s' I' e=>?_
  refine hR H' s' I' ?_;rw[e,Je,C2 hi];rfl
theorem eF(h:n<=1000):n<=Az:=F6 (GA h)
theorem NZ(hh:X.A.handled=ah):CallR X (.type "dict") (λxs H Q=>∃(src:Addr)(ps:List (Addr×aG×V)),xs=[.ref src]/\H src=ae (.tup (ps.map λp=>V.ref p.1))/\(∀p∈ps,H p.1=ae (.tup [kV p.2.1,p.2.2]))/\ps.length<=1000 /\
  ∀l,H l=ah->Q (.ref l) (L2.upd H l (.dK (lP [] (ps.map (·.2)))))):=by
 intro pins s σ H xs us Q I r h;obtain⟨src,ps,rfl,hs,hp,hlen,q⟩:=h;obtain⟨u,rfl,ru⟩:=gX r;cases(show u=A6 src from ru);have big:=I.big;refine callType_codes (Q₁:=λobj s₁=>obj=.ref s.heap.objs.size/\s₁={ s with heap:=s.heap.push {cls:=.type "dict",data:=.dict #[]}}) F.kt_called_dict (F.kt_typeCall_dict_1 _) F.entry_dict_init (kt_code_dict_new _ ⟨rfl,rfl⟩) ?_
 rintro obj s₁ ⟨rfl,rfl⟩
 have hfr:H s.heap.objs.size=ah:=I.fresh;have I1:Inv X pins σ (L2.upd H s.heap.objs.size (.dK [])) {s with heap:=s.heap.push {cls:=.type "dict",data:=.dict #[]}}:=I.laid (t':=s.toks) (λb o e=>Ag _ e) (An _) (HL s.heap big);have nd:∀b xs,H b=ae (.tup xs)->b≠s.heap.objs.size:=λb xs e z=>by rw[z,hfr]at e;cases e
 have hs1:=SqT.upd (K:=X.K) (o:=.dK []) hs (nd _ _ hs);obtain⟨zz,its,rv,o,ho,hc,⟨n,hdat⟩,hd⟩:=(show ObjOk X.prog X.w _ _ src (.tup _)from I1.hok src _ hs1);have hnew:(s.heap.push {cls:=.type "dict",data:=.dict #[]}).DictOf (eZ X.prog X.w) s.heap.objs.size []:=Heap.DictOf.new s.heap;refine⟨hnew.typeIs,F.args_dict_init_2 _ _,?_⟩;unfold Builtin.«dict.__init__»;refine Ad ?_;unfold Builtin.Dict.selfAndRest;refine Ad (wpAny_notOrdered_dict hnew.typeIs ?_);show A9 _ _ (pure (s.heap.objs.size,[A6 src])) _ _ _;refine Ay ?_;show A9 _ _ (Builtin.Dict.updateFrom "dict.__init__" s.heap.objs.size (.ref src) [] .none) _ _ _;unfold Builtin.Dict.updateFrom;refine Ad (Fp (T:="tuple") ⟨o,ho,hc⟩ ?_);rw[if_pos ∎];refine Ad (Mq ho hc hdat hd UA ∅ hh (λh' tk e ne=>?_));have I2:=I1.kept (t':=tk) ne.keeps;have p2:IsTup h' src its.toArray:=IsTup.keeps ⟨o,ho,hc,n,hdat⟩ ne.keeps;show A9 _ _ (rule _>>=_) _ _ _;refine Ad (wpAny_rule ?_);refine Ad (D9 (show Heap.IsTuple h' src its.toArray from p2) ?_);refine Ay ⟨plainId_quiet qx _,?_⟩;have I3:=I2.kept (t':=tk) (λb o e=>Ag {cls:=.type "tuple_iterator",data:=.fields #[.ref src,.int 0 0]} e);refine N3 (A:=X.A.in1) hh ps ps.length 0 _ _ [] ⋯ I3 bB (by simp only[List.length_nil];exact eF ⋯) hs1 (λq hq=>SqT.upd (K:=X.K) (hp q hq) (nd _ _ (hp q hq))) ⟨_,A5 _ rfl,rfl,rfl⟩ (I2.fpOk (An _) I2.fresh) λH' s' I' e=>?_;refine⟨rfl,.ref s.heap.objs.size,H',I',rfl,?_⟩;rw[e,Je];exact q _ hfr
end
theorem NR(bs:List Bool):((A3 bs.length).all λi=>(bs[i]?).getD ai)=bs.all id:=by
 rw[Fq,Dq,Dq]
 constructor
 ·intro h b hb;obtain⟨i,hi,rfl⟩:=List.mem_iff_getElem.mp hb;have:=h i (B6.mpr hi);rw[Af hi]at this;exact this
 ·intro h i hi;have hi':=B6.mp hi;rw[Af hi'];exact h _ (Cg hi')
theorem NY(hh:X.A.handled=ah):CallR X (.builtin "all") (λxs H Q=>∃(p:Addr)(bs:List Bool),xs=[.ref p]/\H p=ae (.lst (bs.map V.bl))/\Q (.bl (bs.all id)) H):=by
 intro pins s σ H xs us Q I r h;obtain⟨p,bs,rfl,hp,q⟩:=h;obtain⟨u,rfl,ru⟩:=gX r;cases(show u=A6 p from ru);obtain⟨its,rv,pl,_⟩:=I.list (SqL.of (K:=X.K) hp);have hl:s.heap.IsList p its.toArray:=pl.isList;have hlt:p < s.heap.objs.size:=by obtain⟨_,e,_⟩:=hl;exact A0 e
 have hlen:bs.length=its.length:=by have:=rv.length;rwa [Ab]at this
 refine call_all_walk (wpAny_pyIter_list hl ?_);refine⟨s.heap.objs.size,[s.heap.objs.size,p],[s.heap.objs.size],its.toArray.size,_,_,λi=>(bs[i]?).getD ai,rfl,Walks.list (A:=X.A.in1) hh _ p (Bk hlt) its.toArray,
  ⟨⟨_,A5 _ rfl,rfl,rfl⟩,hl.push _⟩,λi v s' Q' E' hP hQ=>?_,λh' tk hk=>?_⟩
 ·have hi:its[i]?=ae v:=by simpa using hP
  have hib:i < bs.length:=by rw[hlen];exact(Av.mp hi).1
  have hx:(bs.map V.bl)[i]?=ae (V.bl bs[i]):=by simp[hib]
  obtain⟨u,hu,ru⟩:=rv.get hx;rw[hi]at hu;cases(A8 hu);cases(show v=Value.bool bs[i]from ru);dsimp only at hQ;rw[Af hib,F7]at hQ;exact D0 hQ
 ·have e:((A3 its.toArray.size).all λi=>(bs[i]?).getD ai)=bs.all id:=by
   rw[A1,<-hlen];exact NR bs
  rw[e];refine⟨.bl (bs.all id),H,I.kept λb x e=>hk b x (λhm=>?_) (Ag _ e),rfl,q⟩;rw[Bj.mp hm]at e;exact Ex _ (A0 e)
theorem Tb:OpR X (Bx .LtE) (λx y H Q=>∃i j,x=.str i/\y=.str j/\Q (.bl (!decide (j.cps.toList < i.cps.toList))) H):=by
 intro pins s σ H x y v u Q I rx ry h;obtain⟨i,j,rfl,rfl,q⟩:=h;obtain⟨t,rfl⟩:=rx;obtain⟨t',rfl⟩:=ry;exact P.le_str (di I q rfl)
theorem Ql:OpR X (Bx .Gt) (λx y H Q=>∃i j,x=.str i/\y=.str j/\Q (.bl (decide (j.cps.toList < i.cps.toList))) H):=by
 intro pins s σ H x y v u Q I rx ry h;obtain⟨i,j,rfl,rfl,q⟩:=h;obtain⟨t,rfl⟩:=rx;obtain⟨t',rfl⟩:=ry;exact P.gt_str (di I q rfl)
def sV:Aa->String
 |.none=>"NoneType"
 |.bool _=>"bool"
 |.int _=>"int"
 |.str _=>"str"
 |.list _=>"list"
 |.tuple _=>"tuple"
 |.dict _=>"dict"
def dQ(T:String)(d:Aa):Bool:=sV d==T || (T=="int"&&sV d=="bool")
def bL(h:Str):Aa->Bool
 |.str x=>decide (x=h)
 |_=>aj
theorem zy{cpos pos pos':Pos}
  (hN:X.N.Nodup) (hix:X.N[i]?=ae x) (hx:X.env.scope.names.lookup x=ae .local)
  (hc:X.calm=ai) (S:CompSc X N scope cl fr) (hi:PI X tg iter wi) (hg:∀s H fp,PG (dh X N scope cl s H fp) tg g) (ht:∀s H fp,pE (dh X N scope cl s H fp) ifs tt)
  (he:∀s H fp,PE (dh X N scope cl s H fp) elt te) (hs:∀x,D1 iter X.env x=pure x:=by intro _;rfl)
  (hsw:Dw (.ListComp elt [⟨tg,iter,ifs,0⟩] scope cpos) (ae (.Name x pos')) pos.line X.env=pure ai:=by rfl):
  PS X (.Assign [.Name x pos'] (.ListComp elt [⟨tg,iter,ifs,0⟩] scope cpos) pos) (dE (mz fr wi g tt te) (g9 i)):=by
 intro pins s σ H D I h;rw[exec_Assign_Name_used _ _ _ _ hsw];refine Ad (wpAny_standAt (Ad ?_));show A9 _ _ (do let _ <-comprehension (.ListComp elt [⟨tg,iter,ifs,0⟩] scope cpos) scope X.env (firstIterPos [⟨tg,iter,ifs,0⟩] cpos) (newList []) (firstAsync [⟨tg,iter,ifs,0⟩]) (firstIter [⟨tg,iter,ifs,0⟩] X.env) (ae (F4 (.Name x pos') X.env))) _ _ s;refine Ad ?_;have fin:∀(u:Unit)(s':Ap),SP X pins D .next s'->A9 (Bh X.prog X.w) X.A (pure Flow.next) (SP X pins D) X.xe s':=λ_ s' z=>Ay z
 refine a9 (Q:=λ_ s'=>SP X pins D .next s') ?_ λ_ s' z=>Ay (Ay z);refine wpAny_comprehension_free (use:=ae (F4 (.Name x pos') X.env)) (cl:=cl) rfl hs S.clos S.kind S.names (a9 (hi pins s σ H _ I h) λv s1 h1=>a9 h1 λitv s2 h2=>?_);obtain⟨it,fp,tn,J,H2,e,I2,T,st2,f2,q⟩:=h2;subst e;refine Cc (wpAny_newFunctionEnv S.nocell (by intro y hy;simp at hy) (λh₁ hn hsb=>?_) S.kind);dsimp only at hn hsb ⊢;obtain⟨W,⟨m0,w0⟩,turn⟩:=q s2.heap.objs.size I2.fresh
 have I3:Inv X pins σ (upd H2 s2.heap.objs.size (.lst [])) {s2 with heap:=s2.heap.push {cls:=.type "list",dict:=ah,data:=.seq ([]:List Ak).toArray}}:=I2.lnew (its:=[]) (t':=s2.toks) .nil (Bm _);have key:∀s3:Ap,s3={ s2 with heap:=s2.heap.push {cls:=.type "list",dict:=ah,data:=.seq ([]:List Ak).toArray}}->Inv X pins σ (upd H2 s2.heap.objs.size (.lst [])) s3->
   ∀(ob:Obj)(mm:Str->Option Ak),Ed s3.heap.objs.size (s3.heap.push ob) h₁->h₁.Ns s3.heap.objs.size mm->
   codeAny (Bh X.prog X.w) X.A (.compStart (.ListComp elt [⟨tg,iter,ifs,0⟩] scope cpos) 0 (.ref it) (.ref s2.heap.objs.size) (compEnvC scope cl s3.heap.objs.size X.env))
    (compPost (Bh X.prog X.w) X.A X.xe (ae (F4 (.Name x pos') X.env)) (λ_ s'=>SP X pins D .next s') (.ref s2.heap.objs.size) s3.heap.objs.size) {s3 with heap:=h₁,toks:=s3.toks+([]:List (Str×Ak)).length}:=?key
 ·exact key _ rfl I3 _ _ hsb hn
 clear I3 hn hsb;intro s3 hs3 I3 ob mm hsb hn;have hfp:∀b∈fp,∃o,s2.heap.get? b=ae o:=λb hb=>let⟨o,e,_⟩:=T.obj _ _ st2 b hb;⟨o,e⟩;have up:∀b o,s2.heap.get? b=ae o->s3.heap.get? b=ae o:=λb o e=>by rw[hs3];exact Ag _ e
 have f3:∀b∈fp,dF X pins (upd H2 s2.heap.objs.size (.lst [])) b:=λb hb=>by
  obtain⟨o,e⟩:=hfp b hb;obtain⟨g0,gr⟩:=f2 b hb;exact⟨by rw[aY (Bk (A0 e))];exact g0,gr⟩
 have hlt:∀b∈fp,b < s3.heap.objs.size:=λb hb=>let⟨o,e⟩:=hfp b hb;A0 (up b o e);generalize hH3:upd H2 s2.heap.objs.size (.lst [])=H3 at I3 f3 w0;have I4:=AM (t':=s3.toks+([]:List (Str×Ak)).length) S I3 f3 hlt hsb hn;have st4:tn 0 h₁:=T.keep _ _ _ st2 λb hb o e=>(hsb.2 b (Bk (A0 (up b o e)))).trans (Ag _ (up b o e));have stat:∀{H':Hp},(∀b∈fp,H' b=ah)->∀b∈fp,dF (dh X N scope cl s3 H3 fp) [] H' b:=λhn b hb=>by
  obtain⟨_,k1,k2,k3,k4,k5⟩:=f3 b hb;refine⟨hn b hb,Bk (hlt b hb),λz=>?_,.inl hb,λx c e=>k4 x c (S.sub x c e),λp hp=>absurd hp (by simp[dh])⟩;rcases Ao.mp (I3.stkSub b z)with e|e
  ·exact k1 e
  ·exact k2 e
 have loop:codeAny (Bh X.prog X.w) X.A (.compLoop (.ListComp elt [⟨tg,iter,ifs,0⟩] scope cpos) 0 (.ref it) (.ref s2.heap.objs.size) (compEnvC scope cl s3.heap.objs.size X.env))
   (compPost (Bh X.prog X.w) X.A X.xe (ae (F4 (.Name x pos') X.env)) (λ_ s'=>SP X pins D .next s') (.ref s2.heap.objs.size) s3.heap.objs.size) {s3 with heap:=h₁,toks:=s3.toks+([]:List (Str×Ak)).length}:=by
  refine IU (λn s'=>∃i ys τ Hc,Inv (dh X N scope cl s3 H3 fp) [] τ Hc s'/\tn i s'.heap/\(∀b∈fp,Hc b=ah)/\W i n ys τ Hc) ?_ m0 ⟨0,[],eC fr σ,H3,I4,st4,λb hb=>(f3 b hb).1,w0⟩
  rintro n s5 ⟨i,ys,τ,Hc,I5,st5,fr5,w5⟩
  rcases turn i n ys τ Hc w5 with⟨stop,qn⟩|⟨go,hz,step⟩
  ·refine a9 (T.done (dh X N scope cl s3 H3 fp) rfl rfl rfl hc i [] s5 τ Hc (λ_ _=>False) I5 (stat fr5) st5 stop) λr s6 ⟨hr,I6⟩=>?_;subst hr;obtain⟨mm,hm,_⟩:=I6.loc;have I6x:Inv X pins σ Hc s6:=FE I3 f3 I6 (Heap.SameBut.refl _ _);have hC:Hc s3.heap.objs.size=ah:=I6.free;obtain⟨_,c1,_,c3,c4,c5⟩:=I3.fpOk (H':=Hc) (An _) hC;show A9 (Bh X.prog X.w) X.A (F4 (.Name x pos') X.env (.ref s2.heap.objs.size)) _ X.xe s6;refine wpAny_assign_Name (AN I6x hN hix (.inl hx) (show RelV (.ref s2.heap.objs.size) (A6 s2.heap.objs.size)from rfl) (λs7 I7 hsb=>?_) (.inr hx));obtain⟨ad,hsb,had⟩:=hsb;have hne:s3.heap.objs.size≠ad:=by
    rcases had with z|z
    ·rw[z];exact c1
    ·exact λq=>c4 x ad z q.symm
   obtain⟨oo,es,ep,ho,rr⟩:=hm;refine⟨mm,⟨oo,es,ep,(hsb.2 _ hne).trans ho,rr⟩,λh' hs'=>⟨_,Hc,?_,qn⟩⟩;have ne:∀b,b∉[s3.heap.objs.size]->b≠s3.heap.objs.size:=λb z q=>z (by rw[q];exact Bj.mpr rfl);have hok':HOk X.prog X.w Hc h':=λb o e=>by
    refine(I7.hok b o e).stay (λc v hc z=>(hs'.2 c ?_).trans z) (λ_ z=>z) λ_ _ z=>z
    rintro rfl
    rcases hc with z|z
    ·rw[<-z,hC]at e;cases e
    ·rw[hC]at z;cases z
   refine I7.call' (s':={ s7 with heap:=h'}) (ch:=[s3.heap.objs.size]) rfl ?_ hok' I7.bare λb hb=>?_
   ·exact⟨λb o e n h1 h2=>(hs'.2 b (ne b h2)).trans e,λb o e n h1 h2=>⟨o.slots,(hs'.2 b (ne b h2)).trans e⟩,λb o e n h2=>n,λb o e h2=>⟨o,(hs'.2 b (ne b h2)).trans e⟩,λ_ _ z=>z,λ_ _ _ z=>z,λb ps z=>⟨#[],by rw[Array.append_empty];exact z⟩⟩
   ·cases Bj.mp hb;exact⟨c3,c1,c4,c5⟩
  ·refine a9 (T.item (dh X N scope cl s3 H3 fp) rfl rfl rfl hc i [] s5 τ Hc (λ_ _=>False) I5 (stat fr5) st5 go) λr s6 ⟨u,hr,h6⟩=>?_;subst hr;refine a9 h6 λ_ s7 ⟨x,H7,I7,r7,y7,st7,fr7⟩=>?_;have I7':=I7.pinned (stat fr7) (T.obj _ _ st7);refine a9 (hg s3 H3 fp _ s7 τ H7 x u _ I7' r7 (step x H7 y7)) λ_ s8 ⟨τ8,H8,I8,q8⟩=>?_;refine a9 (ht s3 H3 fp _ s8 τ8 H8 _ I8 q8) λok s9 ⟨H9,I9,q9⟩=>?_;have keep:∀{st:Ap}{τ':St}{H':Hp},Inv (dh X N scope cl s3 H3 fp) ([]++mW fp s7.heap) τ' H' st->tn (i+1) st.heap/\∀b∈fp,H' b=ah:=λ{st τ' H'} Ix=>by
    refine⟨T.keep _ _ _ st7 λb hb o e=>(Ix.pin (b,o) (Be _ (Be _ (mU hb e)))).1,λb hb=>?_⟩;obtain⟨o,e,d⟩:=T.obj _ _ st7 b hb;exact(Ix.pin (b,o) (Be _ (Be _ (mU hb e)))).2.1
   cases ok with
   |false=>
    rw[if_neg Ae]at q9 ⊢;obtain⟨m',hm,w9⟩:=q9;obtain⟨k1,k2⟩:=keep I9;exact⟨m',hm,i+1,ys,τ8,H9,I9.unpinned,k1,k2,w9⟩
   |true=>
    rw[if_pos rfl]at q9 ⊢;refine a9 (he s3 H3 fp _ s9 τ8 H9 _ I9 q9) λxv s10 ⟨y,H10,I10,r10,hD,m',hm,w10⟩=>?_;refine a9 (vC _ s10 τ8 H10 (.ref s2.heap.objs.size) [y] (.ref s2.heap.objs.size) [xv] (λz H'=>∃m',m' < n/\W (i+1) m' (ys++[y]) τ8 H') I10 rfl (.cons r10 .nil) ⟨_,ys,y,rfl,rfl,hD,hz,m',hm,w10⟩) λz s11 ⟨z',H11,I11,_,m'',hm',w11⟩=>?_;obtain⟨k1,k2⟩:=keep I11;exact⟨m'',hm',i+1,ys++[y],τ8,H11,I11.unpinned,k1,k2,w11⟩
 exact codeAny_compStart_list loop (T.self _ 0 _ _ _ st4 loop)
end L2
set_option Elab.async false
set_option maxRecDepth 100000
namespace Nb
open PySem L2
def Kp(t:Addr)(H H':Hp):Prop:=∀b o,H b=ae o->b≠t->H' b=ae o
theorem Kp.refl(t)(H):Kp t H H:=λ_ _ h _=>h
theorem Kp.trans(a:Kp t H H1)(b:Kp t H1 H2):Kp t H H2:=λc o h n=>b c o (a c o h n) n
theorem Kp.new(h:H p=ah):Kp t H (upd H p o):=λc o' e _=>by
 rw[aY (cR e h)];exact e
theorem Kp.tape:Kp t H (upd H t o):=λc o' e n=>by
 rw[aY n];exact e
structure TL where
 s:Addr
 g:Addr
def j4(l:TL):List V:=if pb=ai then[.ref l.g]else[]
structure Tp(H:Hp)(t:Addr)(l:TL)(ns:List Int)(n:Int):Prop where
 ob:∃a b:Int,H t=ae (.lst (.ref l.s::.int a::.int b::j4 l))/\0<=a/\a<=n
 ls:H l.s=ae (.lst (ns.map V.int))
 len:ns.length<=63
 ag:pb=ai->H l.g=ae (.lst sP)
 gne:l.g≠t
theorem Tp.ne(T:Tp H t l ns n):t≠l.s:=by
 obtain⟨a,b,h,_⟩:=T.ob;refine EH h T.ls λz=>?_;have z':(.ref l.s::.int a::.int b::j4 l:List V)=ns.map V.int:=HO.lst.inj z;cases ns with
 |nil=>cases z'
 |cons m r=>
  rw[Bb]at z';have:=(Ej z').1;cases this
theorem Tp.other(T:Tp H t l ns n)(h1:t≠p)(h2:l.s≠p)(h3:pb=ai->l.g≠p):Tp (upd H p o) t l ns n:=by
 obtain⟨a,b,e,h⟩:=T.ob;exact⟨⟨a,b,by rw[aY h1];exact e,h⟩,by rw[aY h2];exact T.ls,T.len,λz=>by rw[aY (h3 z)];exact T.ag z,T.gne⟩
theorem Tp.new(T:Tp H t l ns n)(h:H p=ah):Tp (upd H p o) t l ns n:=by
 obtain⟨a,b,e,_⟩:=T.ob;exact T.other (cR e h) (cR T.ls h) λz=>cR (T.ag z) h
theorem KQ{xs:List V}{r:Int}(h0:0<=r)(h1:r < xs.length):∃v,cX xs r=ae v/\v∈xs:=by
 obtain⟨j,rfl⟩:=Gu h0;have hj:j < xs.length:=by omega
 exact⟨xs[j],fG (Af hj),Cg hj⟩
theorem small(h:n<=1000):n<=Az:=F6 (GA h)
theorem yA:By "tuple"=ae (.type "tuple"):=by decide +kernel
theorem Sb:By "dict"=ae (.type "dict"):=by decide +kernel
theorem QL:By "int"=ae (.type "int"):=by decide +kernel
theorem LM:By "str"=ae (.type "str"):=by decide +kernel
theorem M5:By "repr"=ae (.builtin "repr"):=by decide +kernel
theorem wL:By "isinstance"=ae (.builtin "isinstance"):=by decide +kernel
theorem PB:By "all"=ae (.builtin "all"):=by decide +kernel
theorem qj:By "list"=ae (.type "list"):=by decide +kernel
theorem Ks:By "bool"=ae (.type "bool"):=by decide +kernel
theorem UJ(h:xs.length<=63):fe xs ah (ae 63)=xs:=by
 unfold fe;have e1:HT.sIx xs.length 0 ah=0:=rfl;have e2:HT.sIx xs.length xs.length (ae 63)=xs.length:=by
  have e:=HT.sIx_nat xs.length xs.length 63;rw[show((63:Nat):Int)=63 from rfl]at e;rw[e];omega
 rw[e1,e2,List.drop_zero,Nat.sub_zero,List.take_length]
def pH(K:Ah):Sp:=λvs H Q _=>∃(a:Addr)(ns:List Int),vs=[.ref a]/\SqL K H a (ns.map V.int)/\ns.length<=63 /\
 ∀(t:Addr)(l:TL)(H':Hp),Tp H' t l ns 0->(∀b o,H b=ae o->H' b=ae o)->Q (.ref t) H'
def Hb:Sp:=λvs H Q _=>∃(t:Addr)(l:TL)(ns:List Int)(n many:Int),vs=[.ref t,.int many]/\Tp H t l ns n/\n < 2 ^ 40/\0 < many/\many < 1073741824 /\
 ∀(r:Int)(H':Hp),0<=r->r < many->Tp H' t l ns (n+1)->Kp t H H'->Q (.int r) H'
end Nb
namespace DL
open PySem L2 Nb
abbrev D:=Aa
mutual
inductive RdX(H:Hp)(B:Addr->Prop):V->Aa->Prop
 |non:RdX H B .non .none
 |bl (b:Bool):RdX H B (.bl b) (.bool b)
 |int (i:Int):RdX H B (.int i) (.int i)
 |str (x:Str) (h:x.length<=Az):RdX H B (.str x) (.str x)
 |lst {a:Addr} {xs:List V} {ds:List Aa}:H a=ae (.lst xs)->¬B a->xs.length<=Az->RdXs H B xs ds->RdX H B (.ref a) (.list ds)
 |tup {a:Addr} {xs:List V} {ds:List Aa}:H a=ae (.tup xs)->¬B a->xs.length<=Az->RdXs H B xs ds->RdX H B (.ref a) (.tuple ds)
inductive RdXs(H:Hp)(B:Addr->Prop):List V->List Aa->Prop
 |nil:RdXs H B [] []
 |cons {x:V} {xs:List V} {d:Aa} {ds:List Aa}:RdX H B x d->RdXs H B xs ds->RdXs H B (x::xs) (d::ds)
end
mutual
theorem RdX.move{H H':Hp}{B B':Addr->Prop}(k:∀b o,H b=ae o->¬B b->H' b=ae o/\¬B' b):∀{v:V}{d:Aa},RdX H B v d->RdX H' B' v d
 |_,_,.non=>.non
 |_,_,.bl b=>.bl b
 |_,_,.int i=>.int i
 |_,_,.str x h=>.str x h
 |_,_,.lst h1 h2 h3 h4=>.lst (k _ _ h1 h2).1 (k _ _ h1 h2).2 h3 (RdXs.move k h4)
 |_,_,.tup h1 h2 h3 h4=>.tup (k _ _ h1 h2).1 (k _ _ h1 h2).2 h3 (RdXs.move k h4)
theorem RdXs.move{H H':Hp}{B B':Addr->Prop}(k:∀b o,H b=ae o->¬B b->H' b=ae o/\¬B' b):∀{vs:List V}{ds:List Aa},RdXs H B vs ds->RdXs H' B' vs ds
 |_,_,.nil=>.nil
 |_,_,.cons h1 h2=>.cons (RdX.move k h1) (RdXs.move k h2)
end
section
variable{H H':Hp}{B B':Addr->Prop}{v:V}{d:Aa}{vs ws:List V}{ds es:List Aa}{t:Addr}
theorem RdX.kp(k:Kp t H H')(ht:B t)(h:RdX H B v d):RdX H' B v d:=h.move λb o e n=>⟨k b o e λz=>n (z▸ht),n⟩
theorem RdXs.kp(k:Kp t H H')(ht:B t)(h:RdXs H B vs ds):RdXs H' B vs ds:=h.move λb o e n=>⟨k b o e λz=>n (z▸ht),n⟩
theorem RdX.less(k:∀b,B' b->B b)(h:RdX H B v d):RdX H B' v d:=h.move λb o e n=>⟨e,λz=>n (k b z)⟩
theorem RdXs.less(k:∀b,B' b->B b)(h:RdXs H B vs ds):RdXs H B' vs ds:=h.move λb o e n=>⟨e,λz=>n (k b z)⟩
theorem RdXs.keep(k:∀b o,H b=ae o->¬B b->H' b=ae o)(h:RdXs H B vs ds):RdXs H' B vs ds:=h.move λb o e n=>⟨k b o e n,n⟩
theorem RdXs.len:∀{vs:List V}{ds:List Aa},RdXs H B vs ds->vs.length=ds.length
 |_,_,.nil=>rfl
 |_,_,.cons _ t=>by rw[Am,Am,RdXs.len t]
theorem RdXs.get:∀{vs:List V}{ds:List Aa}{i:Nat}{v:V},RdXs H B vs ds->vs[i]?=ae v->∃d,ds[i]?=ae d/\RdX H B v d
 |_,_,_,_,.nil,e=>by simp at e
 |_,_,0,_,.cons h _,e=>by
  simp at e;subst e;exact⟨_,rfl,h⟩
 |_,_,i+1,v,.cons _ t,e=>by
  obtain⟨d,h1,h2⟩:=RdXs.get (i:=i) (v:=v) t (by simpa using e);exact⟨d,by simpa using h1,h2⟩
theorem RdXs.getD:∀{vs:List V}{ds:List Aa}{i:Nat}{d:Aa},RdXs H B vs ds->ds[i]?=ae d->∃v,vs[i]?=ae v/\RdX H B v d
 |_,_,_,_,.nil,e=>by simp at e
 |_,_,0,_,.cons h _,e=>by
  simp at e;subst e;exact⟨_,rfl,h⟩
 |_,_,i+1,d,.cons _ t,e=>by
  obtain⟨v,h1,h2⟩:=RdXs.getD (i:=i) (d:=d) t (by simpa using e);exact⟨v,by simpa using h1,h2⟩
theorem RdXs.append:∀{vs ws:List V}{ds es:List Aa},RdXs H B vs ds->RdXs H B ws es->RdXs H B (vs++ws) (ds++es)
 |_,_,_,_,.nil,h=>h
 |_,_,_,_,.cons h1 h2,h=>.cons h1 (RdXs.append h2 h)
theorem RdXs.set:∀{vs:List V}{ds:List Aa}(i:Nat){v:V}{d:Aa},RdXs H B vs ds->RdX H B v d->RdXs H B (vs.set i v) (ds.set i d)
 |_,_,_,_,_,.nil,_=>.nil
 |_,_,0,_,_,.cons _ t,h=>.cons h t
 |_,_,i+1,_,_,.cons q t,h=>.cons q (RdXs.set i t h)
theorem RdXs.take:∀{vs:List V}{ds:List Aa}(n:Nat),RdXs H B vs ds->RdXs H B (vs.take n) (ds.take n)
 |_,_,0,_=>.nil
 |_,_,_+1,.nil=>.nil
 |_,_,n+1,.cons r t=>.cons r (RdXs.take n t)
theorem RdXs.drop:∀{vs:List V}{ds:List Aa}(n:Nat),RdXs H B vs ds->RdXs H B (vs.drop n) (ds.drop n)
 |_,_,0,r=>r
 |_,_,_+1,.nil=>.nil
 |_,_,n+1,.cons _ t=>RdXs.drop n t
end
mutual
theorem RdX.rd{K:Ah}{H:Hp}{B:Addr->Prop}:∀{v:V}{d:Aa},RdX H B v d->RdD K H v d
 |_,_,.non=>.non
 |_,_,.bl b=>.bl b
 |_,_,.int i=>.int i
 |_,_,.str x h=>.str x
 |_,_,.lst h1 h2 h3 h4=>.lst (SqL.of h1) (RdXs.rd h4)
 |_,_,.tup h1 h2 h3 h4=>.tup (SqT.of h1) (RdXs.rd h4)
theorem RdXs.rd{K:Ah}{H:Hp}{B:Addr->Prop}:∀{vs:List V}{ds:List Aa},RdXs H B vs ds->RdAll K H vs ds
 |_,_,.nil=>.nil
 |_,_,.cons h1 h2=>.cons (RdX.rd h1) (RdXs.rd h2)
end
inductive Ob where
 |o|p (d:Aa)|k (m:List (aG×Aa))|q (d:Aa) (m:List (aG×Aa))|f (m:List (aG×Aa))
inductive Wv where
 |d (x:Aa)|tp|dk (kvs:List (aG×Aa))|ln (ds:List Aa)|ob (o:Ob)
def Wv.lent:Wv->Bool
 |.dk _=>ai
 |.ln _=>ai
 |_=>aj
inductive SV where
 |w (x:Wv)|own (ds:List Aa)|odk (kvs:List (aG×Aa))|odt (kvs:List (List aG×Aa))
abbrev Sl:=List (Option SV)
def RdK(H:Hp)(B:Addr->Prop):List (aG×V)->List (aG×Aa)->Prop:=Paired λp q=>p.1=q.1/\RdX H B p.2 q.2
theorem RdK.move(k:∀b o,H b=ae o->¬B b->H' b=ae o/\¬B' b)(h:RdK H B l m):RdK H' B' l m:=
 Paired.mapP h λ_ _ z=>⟨z.1,z.2.move k⟩
def RdT(H:Hp)(B:Addr->Prop):List (List aG×V)->List (List aG×Aa)->Prop:=Paired λp q=>p.1=q.1/\RdX H B p.2 q.2
theorem RdT.move(k:∀b o,H b=ae o->¬B b->H' b=ae o/\¬B' b)(h:RdT H B l m):RdT H' B' l m:=
 Paired.mapP h λ_ _ z=>⟨z.1,z.2.move k⟩
def ORel(H:Hp)(B:Addr->Prop)(v:V):Ob->Prop
 |.o=>∃a,v=.ref a
 |.p d=>∃a x y,v=.ref a/\H a=ae (.tup [x,y])/\¬B a/\RdX H B x d
 |.k m=>∃a l,v=.ref a/\H a=ae (.dK l)/\¬B a/\RdK H B l m
 |.f m=>∃a o l,v=.ref a/\H a=ae (.frz o (.dK l))/\¬B a/\RdK H B l m
 |.q d m=>∃a x b l,v=.ref a/\H a=ae (.tup [x,.ref b])/\¬B a/\RdX H B x d/\H b=ae (.dK l)/\¬B b/\RdK H B l m
theorem ORel.move(k:∀b o,H b=ae o->¬B b->H' b=ae o/\¬B' b)(h:ORel H B v o):ORel H' B' v o:=by
 cases o with
 |o=>exact h
 |p d=>
  obtain⟨a,x,y,e,h1,h2,h3⟩:=h;exact⟨a,x,y,e,(k _ _ h1 h2).1,(k _ _ h1 h2).2,h3.move k⟩
 |k m=>
  obtain⟨a,l,e,h1,h2,h3⟩:=h;exact⟨a,l,e,(k _ _ h1 h2).1,(k _ _ h1 h2).2,h3.move k⟩
 |f m=>
  obtain⟨a,o,l,e,h1,h2,h3⟩:=h;exact⟨a,o,l,e,(k _ _ h1 h2).1,(k _ _ h1 h2).2,h3.move k⟩
 |q d m=>
  obtain⟨a,x,b,l,e,h1,h2,h3,h4,h5,h6⟩:=h;exact⟨a,x,b,l,e,(k _ _ h1 h2).1,(k _ _ h1 h2).2,h3.move k,(k _ _ h4 h5).1,(k _ _ h4 h5).2,h6.move k⟩
def WRel(H:Hp)(B:Addr->Prop)(t:Addr)(v:V):Wv->Prop
 |.d x=>RdX H B v x
 |.tp=>v=.ref t
 |.dk kvs=>∃a l,v=.ref a/\H a=ae (.dK l)/\a≠t/\RdK H B l kvs
 |.ln ds=>∃a xs,v=.ref a/\H a=ae (.lst xs)/\a≠t/\xs.length<=Az/\RdXs H B xs ds
 |.ob o=>ORel H B v o
def SRel(H0:Hp)(H:Hp)(B:Addr->Prop)(t:Addr)(v:V):SV->Prop
 |.w x=>WRel H B t v x/\(x.lent=ai->∃a,v=.ref a/\H0 a≠ah)
 |.own ds=>∃a xs,v=.ref a/\H a=ae (.lst xs)/\B a/\H0 a=ah/\xs.length<=Az/\RdXs H B xs ds
 |.odk kvs=>∃a l,v=.ref a/\H a=ae (.dK l)/\B a/\H0 a=ah/\l.length<=1000/\RdK H B l kvs
 |.odt kvs=>∃a l,v=.ref a/\H a=ae (.dT l)/\B a/\H0 a=ah/\l.length<=1000/\RdT H B l kvs
def SV.isOwn:SV->Bool
 |.w _=>aj
 |_=>ai
structure Ctx where
 t:Addr
 l:TL
 ns:List Int
 H0:Hp
 B0:Addr->Prop
 fz:Hp
structure Rel(C:Ctx)(H:Hp)(B:Addr->Prop)(σ:St)(δ:Sl)(n:Int):Prop where
 tp:Tp H C.t C.l C.ns n
 kp:Kp C.t C.H0 H
 t0:C.H0 C.t≠ah
 l0:C.H0 C.l.s≠ah
 g0:pb=ai->C.H0 C.l.g≠ah
 fz:∀b o,C.fz b=ae o->H b=ae o/\¬B b
 bt:B C.t
 b0:∀b,C.B0 b->B b
 ba:∀b,B b->H b≠ah
 a0:∀b,C.B0 b->C.H0 b≠ah
 sl:∀(i:Nat)(x:SV),δ[i]?=ae (ae x)->∃v,σ[i]?=ae (ae v)/\SRel C.H0 H B C.t v x
 ow:∀(i j:Nat)(x y:SV)(v:V),δ[i]?=ae (ae x)->δ[j]?=ae (ae y)->x.isOwn=ai->y.isOwn=ai->σ[i]?=ae (ae v)->σ[j]?=ae (ae v)->i=j
 len:σ.length=δ.length
theorem WRel.kp(k:Kp t H H')(ht:B t)(h:WRel H B t v x):WRel H' B t v x:=by
 cases x with
 |d x=>exact RdX.kp k ht h
 |tp=>exact h
 |dk kvs=>
  obtain⟨a,l,e,h1,h2,h3⟩:=h;exact⟨a,l,e,k _ _ h1 h2,h2,h3.move λb o e n=>⟨k b o e λz=>n (z▸ht),n⟩⟩
 |ln ds=>
  obtain⟨a,l,e,h1,h2,h3,h4⟩:=h;exact⟨a,l,e,k _ _ h1 h2,h2,h3,h4.kp k ht⟩
 |ob o=>exact ORel.move (λb o e n=>⟨k b o e λz=>n (z▸ht),n⟩) h
theorem WRel.less(k:∀b,B' b->B b)(h:WRel H B t v x):WRel H B' t v x:=by
 cases x with
 |d x=>exact RdX.less k h
 |tp=>exact h
 |dk kvs=>
  obtain⟨a,l,e,h1,h2,h3⟩:=h;exact⟨a,l,e,h1,h2,h3.move λb o e n=>⟨e,λz=>n (k b z)⟩⟩
 |ln ds=>
  obtain⟨a,l,e,h1,h2,h3,h4⟩:=h;exact⟨a,l,e,h1,h2,h3,h4.less k⟩
 |ob o=>exact ORel.move (λb o e n=>⟨e,λz=>n (k b z)⟩) h
theorem SRel.kp(k:Kp t H H')(ht:B t)(t0:H0 t≠ah)(h:SRel H0 H B t v x):SRel H0 H' B t v x:=by
 cases x with
 |w x=>exact⟨h.1.kp k ht,h.2⟩
 |own ds=>
  obtain⟨a,xs,e,h1,h2,h3,h4,h5⟩:=h;exact⟨a,xs,e,k _ _ h1 (λz=>t0 (z▸h3)),h2,h3,h4,h5.kp k ht⟩
 |odk kvs=>
  obtain⟨a,l,e,h1,h2,h3,h4,h5⟩:=h;exact⟨a,l,e,k _ _ h1 (λz=>t0 (z▸h3)),h2,h3,h4,h5.move λb o e n=>⟨k b o e λz=>n (z▸ht),n⟩⟩
 |odt kvs=>
  obtain⟨a,l,e,h1,h2,h3,h4,h5⟩:=h;exact⟨a,l,e,k _ _ h1 (λz=>t0 (z▸h3)),h2,h3,h4,h5.move λb o e n=>⟨k b o e λz=>n (z▸ht),n⟩⟩
theorem Rel.step(R:Rel C H B σ δ n)(T:Tp H' C.t C.l C.ns n')(k:Kp C.t H H'):Rel C H' B σ δ n' where
 tp:=T
 kp:=R.kp.trans k
 t0:=R.t0
 l0:=R.l0
 g0:=R.g0
 fz:=λb o e=>⟨k b o (R.fz b o e).1 λz=>(R.fz b o e).2 (z▸R.bt),(R.fz b o e).2⟩
 bt:=R.bt
 b0:=R.b0
 ba:=λb hb e=>by
  by_cases z:b=C.t
  ·subst z;obtain⟨x,y,h,_⟩:=T.ob;rw[h]at e;cases e
  ·cases q:H b with
   |none=>exact R.ba b hb q
   |some o=>rw[k b o q z]at e;cases e
 a0:=R.a0
 sl:=λi x e=>by
  obtain⟨v,h1,h2⟩:=R.sl i x e;exact⟨v,h1,h2.kp k R.bt R.t0⟩
 ow:=R.ow
 len:=R.len
theorem Rel.new(R:Rel C H B σ δ n)(h:H p=ah):Rel C (upd H p o) B σ δ n:=R.step (R.tp.new h) (Kp.new h)
theorem Rel.nb(R:Rel C H B σ δ n)(h:H p=ah):¬B p:=λz=>R.ba p z h
theorem f7{α:Type}{l:List (Option α)}{x y:α}(h:(l.set i (ae x))[j]?=ae (ae y)):(j=i/\y=x)\/(j≠i/\l[j]?=ae (ae y)):=by
 by_cases e:i=j
 ·subst e;rw[C8]at h;cases q:l[i]? with
  |none=>rw[q]at h;cases h
  |some z=>
   rw[q]at h;exact .inl ⟨rfl,(A8 (A8 h)).symm⟩
 ·rw[B7 e]at h;exact .inr ⟨λz=>e z.symm,h⟩
theorem qJ{α:Type}{l:List (Option α)}{x y:Option α}(h:(l.set i x)[i]?=ae y):i < l.length:=by
 have:=(Av.mp h).1;rwa [B1]at this
theorem si{α:Type}{l:List (Option α)}{x:α}(h:i < l.length):(l.set i (ae x))[i]?=ae (ae x):=by simp[h]
theorem lp{α:Type}{l:List (Option α)}{x:α}(h:j≠i):(l.set i (ae x))[j]?=l[j]?:=B7 (λz=>h z.symm)
theorem Rel.set(R:Rel C H B σ δ n)(h:WRel H B C.t v x)(hx:x.lent=aj):Rel C H B (σ.set i (ae v)) (δ.set i (ae (.w x))) n where
 tp:=R.tp
 kp:=R.kp
 t0:=R.t0
 l0:=R.l0
 g0:=R.g0
 fz:=R.fz
 bt:=R.bt
 b0:=R.b0
 ba:=R.ba
 a0:=R.a0
 sl:=λj y e=>by
  rcases f7 e with⟨rfl,rfl⟩|⟨ne,e'⟩
  ·exact⟨v,si (by rw[R.len];exact qJ e),h,λz=>by rw[hx]at z;cases z⟩
  ·obtain⟨u,h1,h2⟩:=R.sl j y e';exact⟨u,by rw[lp ne];exact h1,h2⟩
 ow:=λj k y z u e1 e2 o1 o2 f1 f2=>by
  rcases f7 e1 with⟨rfl,rfl⟩|⟨ne1,e1'⟩
  ·cases o1
  ·rcases f7 e2 with⟨rfl,rfl⟩|⟨ne2,e2'⟩
   ·cases o2
   ·rw[lp ne1]at f1;rw[lp ne2]at f2;exact R.ow j k y z u e1' e2' o1 o2 f1 f2
 len:=by rw[B1,B1];exact R.len
theorem Rel.mut(R:Rel C H B σ δ n)(hb:B a)(h0:C.H0 a=ah)
  (ho:∀(i:Nat)(x:SV),δ[i]?=ae (ae x)->x.isOwn=ai->σ[i]?≠ae (ae (.ref a))):Rel C (upd H a o) B σ δ n where
 tp:=R.tp.other (λz=>R.t0 (z▸h0)) (λz=>R.l0 (z▸h0)) (λe z=>R.g0 e (z▸h0))
 kp:=λb o' e ne=>by
  rw[aY (cR e h0)];exact R.kp b o' e ne
 t0:=R.t0
 l0:=R.l0
 g0:=R.g0
 fz:=λb o' e=>⟨by rw[aY λ(z:b=a)=>(R.fz b o' e).2 (z▸hb)];exact(R.fz b o' e).1,(R.fz b o' e).2⟩
 bt:=R.bt
 b0:=R.b0
 ba:=λb hb' e=>by
  by_cases z:b=a
  ·rw[z,bB]at e;cases e
  ·rw[aY z]at e;exact R.ba b hb' e
 a0:=R.a0
 sl:=λi x e=>by
  obtain⟨v,h1,h2⟩:=R.sl i x e;have mv:∀b o',H b=ae o'->¬B b->upd H a o b=ae o'/\¬B b:=λb o' e n=>⟨by rw[aY λ(z:b=a)=>n (z▸hb)];exact e,n⟩;refine⟨v,h1,?_⟩;cases x with
  |w x=>
   refine⟨?_,h2.2⟩;cases x with
   |d x=>exact h2.1.move mv
   |tp=>exact h2.1
   |dk kvs=>
    obtain⟨a',l,e1,e2,e3,e4⟩:=h2.1;obtain⟨a'',f1,f2⟩:=h2.2 rfl;rw[e1]at f1;cases f1;exact⟨a',l,e1,by rw[aY λ(z:a'=a)=>f2 (z▸h0)];exact e2,e3,e4.move mv⟩
   |ln ds=>
    obtain⟨a',l,e1,e2,e3,e4,e5⟩:=h2.1;obtain⟨a'',f1,f2⟩:=h2.2 rfl;rw[e1]at f1;cases f1;exact⟨a',l,e1,by rw[aY λ(z:a'=a)=>f2 (z▸h0)];exact e2,e3,e4,e5.move mv⟩
   |ob o=>exact ORel.move mv h2.1
  |own ds=>
   obtain⟨a',xs,e1,e2,e3,e4,e5,e6⟩:=h2;have ne:a'≠a:=λz=>ho i _ e rfl (by rw[h1,e1,z]);exact⟨a',xs,e1,by rw[aY ne];exact e2,e3,e4,e5,e6.move mv⟩
  |odk kvs=>
   obtain⟨a',xs,e1,e2,e3,e4,e5,e6⟩:=h2;have ne:a'≠a:=λz=>ho i _ e rfl (by rw[h1,e1,z]);exact⟨a',xs,e1,by rw[aY ne];exact e2,e3,e4,e5,e6.move mv⟩
  |odt kvs=>
   obtain⟨a',xs,e1,e2,e3,e4,e5,e6⟩:=h2;have ne:a'≠a:=λz=>ho i _ e rfl (by rw[h1,e1,z]);exact⟨a',xs,e1,by rw[aY ne];exact e2,e3,e4,e5,e6.move mv⟩
 ow:=R.ow
 len:=R.len
theorem Rel.mutOwn(R:Rel C H B σ δ n)(hi:δ[i]?=ae (ae x))(hx:x.isOwn=ai)(hσ:σ[i]?=ae (ae (.ref a)))(hb:B a)(h0:C.H0 a=ah)
  (h:SRel C.H0 (upd H a o) B C.t (.ref a) x') (hx':x'.isOwn=ai):Rel C (upd H a o) B σ (δ.set i (ae x')) n:=by
 have R1:Rel C H B σ (δ.set i ah) n:={
  tp:=R.tp,kp:=R.kp,t0:=R.t0,l0:=R.l0,g0:=R.g0,fz:=R.fz,bt:=R.bt,b0:=R.b0,ba:=R.ba,a0:=R.a0
  sl:=λj y e=>by
   by_cases z:i=j
   ·subst z;rw[C8]at e;rw[hi]at e;cases e
   ·rw[B7 z]at e;exact R.sl j y e
  ow:=λj k y z u e1 e2 o1 o2 f1 f2=>by
   have g:∀{m:Nat}{w:SV},(δ.set i ah)[m]?=ae (ae w)->δ[m]?=ae (ae w):=λ{m w} e=>by
    by_cases q:i=m
    ·subst q;rw[C8,hi]at e;cases e
    ·rwa [B7 q]at e
   exact R.ow j k y z u (g e1) (g e2) o1 o2 f1 f2
  len:=by rw[B1];exact R.len}
 have R2:Rel C (upd H a o) B σ (δ.set i ah) n:=R1.mut hb h0 λj y e oy f=>by
  by_cases z:i=j
  ·subst z;rw[C8,hi]at e;cases e
  ·rw[B7 z]at e;exact z (R.ow i j x y _ hi e hx oy hσ f)
 have hlt:i < δ.length:=(Av.mp hi).1;exact{
  tp:=R2.tp,kp:=R2.kp,t0:=R2.t0,l0:=R2.l0,g0:=R2.g0,fz:=R2.fz,bt:=R2.bt,b0:=R2.b0,ba:=R2.ba,a0:=R2.a0
  sl:=λj y e=>by
   rcases f7 e with⟨rfl,rfl⟩|⟨ne,e'⟩
   ·exact⟨_,hσ,h⟩
   ·exact R2.sl j y (by rw[B7 λz=>ne z.symm];exact e')
  ow:=λj k y z u e1 e2 o1 o2 f1 f2=>by
   rcases f7 e1 with⟨rfl,rfl⟩|⟨ne1,e1'⟩
   ·rcases f7 e2 with⟨rfl,rfl⟩|⟨ne2,e2'⟩
    ·rfl
    ·exact R.ow _ _ x z u hi e2' hx o2 f1 f2
   ·rcases f7 e2 with⟨rfl,rfl⟩|⟨ne2,e2'⟩
    ·exact R.ow _ _ y x u e1' hi o1 hx f1 f2
    ·exact R.ow j k y z u e1' e2' o1 o2 f1 f2
  len:=by rw[B1];exact R.len}
theorem Rel.own(R:Rel C H B σ δ n)(R':Rel C H' B σ δ n')(k:Kp C.t H H')(h0:H a=ah)(h1:H' a≠ah)(hx:x.isOwn=ai)
  (h:SRel C.H0 H' (λb=>B b\/b=a) C.t (.ref a) x):Rel C H' (λb=>B b\/b=a) (σ.set i (ae (.ref a))) (δ.set i (ae x)) n' where
 tp:=R'.tp
 kp:=R'.kp
 t0:=R'.t0
 l0:=R'.l0
 g0:=R'.g0
 fz:=λb o e=>⟨(R'.fz b o e).1,λz=>z.elim (R'.fz b o e).2 λq=>cR (R.fz b o e).1 h0 q⟩
 bt:=.inl R.bt
 b0:=λb z=>.inl (R.b0 b z)
 ba:=λb z=>z.elim (R'.ba b) λq=>q▸h1
 a0:=R.a0
 sl:=λj y e=>by
  have hta:C.t≠a:=λz=>by
   obtain⟨_,_,q,_⟩:=R.tp.ob;rw[z,h0]at q;cases q
  have mv:∀b o',H b=ae o'->¬B b->H' b=ae o'/\¬(B b\/b=a):=λb o' e n=>⟨k b o' e λz=>n (z▸R.bt),λz=>z.elim n λq=>cR e h0 q⟩;rcases f7 e with⟨rfl,rfl⟩|⟨ne,e'⟩
  ·exact⟨_,si (by rw[R.len];exact qJ e),h⟩
  ·obtain⟨v,f1,f2⟩:=R.sl j y e';refine⟨v,by rw[lp ne];exact f1,?_⟩;cases y with
   |w y=>
    refine⟨?_,f2.2⟩;cases y with
    |d y=>exact f2.1.move mv
    |tp=>exact f2.1
    |dk kvs=>
     obtain⟨a',l,e1,e2,e3,e4⟩:=f2.1;exact⟨a',l,e1,k _ _ e2 e3,e3,e4.move mv⟩
    |ln ds=>
     obtain⟨a',l,e1,e2,e3,e4,e5⟩:=f2.1;exact⟨a',l,e1,k _ _ e2 e3,e3,e4,e5.move mv⟩
    |ob o=>exact ORel.move mv f2.1
   |own ds=>
    obtain⟨a',xs,e1,e2,e3,e4,e5,e6⟩:=f2;exact⟨a',xs,e1,k _ _ e2 (λz=>R.t0 (z▸e4)),.inl e3,e4,e5,e6.move mv⟩
   |odk kvs=>
    obtain⟨a',xs,e1,e2,e3,e4,e5,e6⟩:=f2;exact⟨a',xs,e1,k _ _ e2 (λz=>R.t0 (z▸e4)),.inl e3,e4,e5,e6.move mv⟩
   |odt kvs=>
    obtain⟨a',xs,e1,e2,e3,e4,e5,e6⟩:=f2;exact⟨a',xs,e1,k _ _ e2 (λz=>R.t0 (z▸e4)),.inl e3,e4,e5,e6.move mv⟩
 ow:=λj m y z u e1 e2 o1 o2 f1 f2=>by
  have out:∀{p:Nat}{w:SV},δ[p]?=ae (ae w)->w.isOwn=ai->σ[p]?=ae (ae (.ref a))->False:=λ{p w} e ow f=>by
   obtain⟨v,g1,g2⟩:=R.sl p w e;rw[f]at g1;cases g1;cases w with
   |w _=>cases ow
   |own ds=>
    obtain⟨a',xs,e1,e2,_⟩:=g2;cases e1;rw[h0]at e2;cases e2
   |odk ds=>
    obtain⟨a',xs,e1,e2,_⟩:=g2;cases e1;rw[h0]at e2;cases e2
   |odt ds=>
    obtain⟨a',xs,e1,e2,_⟩:=g2;cases e1;rw[h0]at e2;cases e2
  rcases f7 e1 with⟨rfl,rfl⟩|⟨ne1,e1'⟩
  ·rcases f7 e2 with⟨rfl,rfl⟩|⟨ne2,e2'⟩
   ·rfl
   ·rw[si (by rw[R.len];exact qJ e1)]at f1;rw[lp ne2]at f2;cases f1;exact(out e2' o2 f2).elim
  ·rcases f7 e2 with⟨rfl,rfl⟩|⟨ne2,e2'⟩
   ·rw[si (by rw[R.len];exact qJ e2)]at f2;rw[lp ne1]at f1;cases f2;exact(out e1' o1 f1).elim
   ·rw[lp ne1]at f1;rw[lp ne2]at f2;exact R.ow j m y z u e1' e2' o1 o2 f1 f2
 len:=by rw[B1,B1];exact R.len
theorem Rel.give(R:Rel C H B σ δ n)(hi:δ[i]?=ae (ae x))(ox:x.isOwn=ai)(hv:σ[i]?=ae (ae (.ref a)))(e4:C.H0 a=ah)(hy:WRel H (λb=>B b/\b≠a) C.t (.ref a) y)(hl:y.lent=aj):Rel C H (λb=>B b/\b≠a) σ (δ.set i (ae (.w y))) n:=by
 have less:∀b,(B b/\b≠a)->B b:=λb z=>z.1;exact{
  tp:=R.tp,kp:=R.kp,t0:=R.t0,l0:=R.l0,g0:=R.g0
  fz:=λb o e=>⟨(R.fz b o e).1,λz=>(R.fz b o e).2 z.1⟩
  bt:=⟨R.bt,λz=>R.t0 (z▸e4)⟩
  b0:=λb z=>⟨R.b0 b z,λq=>R.a0 b z (q▸e4)⟩
  ba:=λb z=>R.ba b z.1
  a0:=R.a0
  sl:=λj y' e=>by
   rcases f7 e with⟨rfl,rfl⟩|⟨ne,e'⟩
   ·exact⟨_,hv,hy,λz=>by rw[hl]at z;cases z⟩
   ·obtain⟨u,f1,f2⟩:=R.sl j y' e';refine⟨u,f1,?_⟩;cases y' with
    |w y=>exact⟨f2.1.less less,f2.2⟩
    |own ds'=>
     obtain⟨a',xs',g1,g2,g3,g4,g5,g6⟩:=f2;refine⟨a',xs',g1,g2,⟨g3,λz=>?_⟩,g4,g5,g6.less less⟩;exact ne (R.ow j i _ _ _ e' hi rfl ox f1 (by rw[hv,g1,z]))
    |odk ds'=>
     obtain⟨a',xs',g1,g2,g3,g4,g5,g6⟩:=f2;refine⟨a',xs',g1,g2,⟨g3,λz=>?_⟩,g4,g5,g6.move λb o e n=>⟨e,λz=>n z.1⟩⟩;exact ne (R.ow j i _ _ _ e' hi rfl ox f1 (by rw[hv,g1,z]))
    |odt ds'=>
     obtain⟨a',xs',g1,g2,g3,g4,g5,g6⟩:=f2;refine⟨a',xs',g1,g2,⟨g3,λz=>?_⟩,g4,g5,g6.move λb o e n=>⟨e,λz=>n z.1⟩⟩;exact ne (R.ow j i _ _ _ e' hi rfl ox f1 (by rw[hv,g1,z]))
  ow:=λj k y z u e1 e2 o1 o2 f1 f2=>by
   rcases f7 e1 with⟨rfl,rfl⟩|⟨ne1,e1'⟩
   ·cases o1
   ·rcases f7 e2 with⟨rfl,rfl⟩|⟨ne2,e2'⟩
    ·cases o2
    ·exact R.ow j k y z u e1' e2' o1 o2 f1 f2
  len:=by rw[B1];exact R.len}
theorem Rel.frz{n:Int}{i:Nat}{ds:List Aa}(R:Rel C H B σ δ n)(hi:δ[i]?=ae (ae (.own ds))):∃B',Rel C H B' σ (δ.set i (ae (.w (.d (.list ds))))) n:=by
 obtain⟨v,hv,a,xs,rfl,e2,e3,e4,e5,e6⟩:=R.sl i _ hi;exact⟨_,R.give hi rfl hv e4 (show RdX H _ (.ref a) (.list ds)from .lst e2 (λz=>z.2 rfl) e5 (e6.less λb z=>z.1)) rfl⟩
theorem Rel.frzK(R:Rel C H B σ δ n)(hi:δ[i]?=ae (ae (.odk m))):∃B',Rel C H B' σ (δ.set i (ae (.w (.ob (.k m))))) n:=by
 obtain⟨v,hv,a,xs,rfl,e2,e3,e4,e5,e6⟩:=R.sl i _ hi;exact⟨_,R.give hi rfl hv e4 ⟨a,xs,rfl,e2,λz=>z.2 rfl,e6.move λb o e n=>⟨e,λz=>n z.1⟩⟩ rfl⟩
abbrev DQ:=Wv->Int->Prop
abbrev DT:=Sl->Int->DQ->Prop
abbrev c6:=Sl->Int->(Bool->Int->Prop)->Prop
abbrev fw:=Sl->Int->(List Wv->Int->Prop)->Prop
inductive ARel(H:Hp)(B:Addr->Prop)(t:Addr):List V->List Wv->Prop
 |nil:ARel H B t [] []
 |cons {v:V} {vs:List V} {x:Wv} {xs:List Wv}:WRel H B t v x->ARel H B t vs xs->ARel H B t (v::vs) (x::xs)
theorem ARel.kp(k:Kp t H H')(ht:B t):∀{vs:List V}{xs:List Wv},ARel H B t vs xs->ARel H' B t vs xs
 |_,_,.nil=>.nil
 |_,_,.cons a b=>.cons (a.kp k ht) (ARel.kp k ht b)
theorem ARel.len:∀{vs:List V}{xs:List Wv},ARel H B t vs xs->vs.length=xs.length
 |_,_,.nil=>rfl
 |_,_,.cons _ b=>by rw[Am,Am,ARel.len b]
def eY(t:TE)(w:DT):Prop:=∀(C:Ctx)(H:Hp)(B:Addr->Prop)(σ:St)(δ:Sl)(n:Int)(Q:DQ)(Q':VK),Rel C H B σ δ n->w δ n Q->
 (∀v x H' n',Rel C H' B σ δ n'->Kp C.t H H'->WRel H' B C.t v x->Q x n'->Q' v H')->t σ H Q'
def jS(t:TT)(w:c6):Prop:=∀(C:Ctx)(H:Hp)(B:Addr->Prop)(σ:St)(δ:Sl)(n:Int)(Q:Bool->Int->Prop)(Q':Bool->Hp->Prop),Rel C H B σ δ n->w δ n Q->
 (∀b H' n',Rel C H' B σ δ n'->Kp C.t H H'->Q b n'->Q' b H')->t σ H Q'
def ky(t:TA)(w:fw):Prop:=∀(C:Ctx)(H:Hp)(B:Addr->Prop)(σ:St)(δ:Sl)(n:Int)(Q:List Wv->Int->Prop)(Q':List V->Hp->Prop),Rel C H B σ δ n->w δ n Q->
 (∀vs xs H' n',Rel C H' B σ δ n'->Kp C.t H H'->ARel H' B C.t vs xs->Q xs n'->Q' vs H')->t σ H Q'
abbrev eW:=Sl->Int->(List Aa->Int->Prop)->Prop
def jV(t:TE)(w:eW):Prop:=∀(C:Ctx)(H:Hp)(B:Addr->Prop)(σ:St)(δ:Sl)(n:Int)(Q:List Aa->Int->Prop)(Q':VK),Rel C H B σ δ n->w δ n Q->
 (∀a xs ds H' n',Rel C H' B σ δ n'->Kp C.t H H'->H a=ah->H' a=ae (.lst xs)->xs.length<=Az->RdXs H' (λb=>B b\/b=a) xs ds->Q ds n'->Q' (.ref a) H')->t σ H Q'
structure DE(X:Cx)(e:Expr)(t:TE)(w:DT):Prop where
 pe:PE X e t
 sd:eY t w
structure DC(X:Cx)(e:Expr)(t:TT)(w:c6):Prop where
 pt:PT X e t
 sd:jS t w
structure DCW(X:Cx)(e:Expr)(t:TT)(w:c6):Prop where
 pw:PW X e t
 sd:jS t w
structure DA(X:Cx)(es:List Expr)(t:TA)(w:fw):Prop where
 pa:PA X es t
 sd:ky t w
structure DF(X:Cx)(e:Expr)(t:TE)(w:eW):Prop where
 pe:PE X e t
 sd:jV t w
variable{X:Cx}{a b c e:Expr}{ta tb tc te:TE}{wa wb wc we:DT}{pos:Pos}
def ak(i:Nat):DT:=λδ n Q=>match δ[i]? with
 |some (ae (.w x))=>Q x n
 |_=>False
theorem Pw(i){p:Pos}(hN:X.N[i]?=ae x:=by rfl)(hv:fj X.env.scope x:=by first|exact Ce rfl|exact Bs (Ce rfl)|exact Bs (Bs rfl))(hd:(x==("__debug__":Str))=aj:=by decide)
  (hcd:(x==("__classdict__":Str))=aj:=by decide):DE X (.Name x p) (cq i) (ak i):=⟨fW hN hv hd hcd,λC H B σ δ n Q Q' R h k=>by
 unfold ak at h
 split at h
 ·rename_i x e;obtain⟨v,h1,h2⟩:=R.sl i _ e;exact⟨v,h1,k v x H n R (Kp.refl _ _) h2.1 h⟩
 ·exact h.elim⟩
def wC(d:Aa):DT:=λ_ n Q=>Q (.d d) n
theorem oO(h:∀H B,RdX H B v d):eY (tC v) (wC d):=λC H B σ δ n Q Q' R q k=>k v (.d d) H n R (Kp.refl _ _) (h H B) q
theorem Ul{i j p}:DE X (.Constant (.int i) j p) (tC (.int i)) (wC (.int i)):=⟨df,oO λ_ _=>.int i⟩
theorem uR{i j p}:DE X (.Constant (.bool i) j p) (tC (.bl i)) (wC (.bool i)):=⟨Pp,oO λ_ _=>.bl i⟩
theorem RI{j p}:DE X (.Constant .none j p) (tC .non) (wC .none):=⟨rP,oO λ_ _=>.non⟩
theorem Kx{x j p}(h:Str.length x<=Az:=by decide +kernel):DE X (.Constant (.str x) j p) (tC (.str x)) (wC (.str x)):=⟨J5,oO λ_ _=>.str x h⟩
theorem MV(hg:Gl X x)(hm:X.mg x=ae (.int i tk))(hd:(x==("__debug__":Str))=aj:=by decide):DE X (.Name x p) (tC (.int i)) (wC (.int i)):=⟨pM hg hm ⟨tk,rfl⟩ hd,oO λ_ _=>.int i⟩
def w2(wa wb:DT)(g:Wv->Wv->Int->DQ->Prop):DT:=λδ n Q=>wa δ n λx n1=>wb δ n1 λy n2=>g x y n2 Q
def bE(r:R2)(g:Wv->Wv->Int->DQ->Prop):Prop:=∀(C:Ctx)(H:Hp)(B:Addr->Prop)(σ:St)(δ:Sl)(n:Int)(x y:V)(p q:Wv)(Q:DQ)(Q':VK),Rel C H B σ δ n->WRel H B C.t x p->WRel H B C.t y q->g p q n Q->
 (∀v x H' n',Rel C H' B σ δ n'->Kp C.t H H'->WRel H' B C.t v x->Q x n'->Q' v H')->r x y H Q'
theorem mB(hr:bE r g)(ha:eY ta wa)(hb:eY tb wb):eY (d3 r ta tb) (w2 wa wb g):=λC H B σ δ n Q Q' R h k=>
 ha C H B σ δ n _ _ R h λv x H1 n1 R1 k1 r1 q1=>hb C H1 B σ δ n1 _ _ R1 q1 λu y H2 n2 R2 k2 r2 q2=>
  hr C H2 B σ δ n2 v u x y Q Q' R2 (r1.kp k2 R1.bt) r2 q2 λz p H3 n3 R3 k3 r3 q3=>k z p H3 n3 R3 ((k1.trans k2).trans k3) r3 q3
theorem ic(ho:OpR X (Ep op) r)(hr:bE r g)(ha:DE X a ta wa)(hb:DE X b tb wb):DE X (.BinOp a op b pos) (d3 r ta tb) (w2 wa wb g):=
 ⟨fi ho ha.pe hb.pe,mB hr ha.sd hb.sd⟩
theorem mZ(ho:OpR X (Bx op) r)(hr:bE r g)(ha:DE X a ta wa)(hb:DE X b tb wb)(hm:Cf op b=aj):DE X (.Compare a [op] [b] pos) (d3 r ta tb) (w2 wa wb g):=
 ⟨OS ho ha.pe hb.pe hm,mB hr ha.sd hb.sd⟩
def cT(w:DT):c6:=λδ n Q=>w δ n λx n'=>match x with
 |.d (.bool k)=>Q k n'
 |_=>False
theorem wd(h:RdX H B v d):WRel H B t v (.d d):=h
theorem kU(h:eY t w):jS (jz t) (cT w):=λC H B σ δ n Q Q' R q k=>
 h C H B σ δ n _ _ R q λv x H' n' R' k' r' q'=>by
  split at q'
  ·rename_i b;cases(show RdX H' B v (.bool b)from r');exact⟨b,rfl,k b H' n' R' k' q'⟩
  ·exact q'.elim
theorem gV(ho:OpR X (Bx op) r)(hr:bE r g)(ha:DE X a ta wa)(hb:DE X b tb wb)(hm:Cf op b=aj):DC X (.Compare a [op] [b] pos) (jz (d3 r ta tb)) (cT (w2 wa wb g)):=
 ⟨kB ho ha.pe hb.pe hm,kU (mB hr ha.sd hb.sd)⟩
theorem Mz(h:DE X e t w)(he:∀whole,isTrue e X.env whole=(do let v <-whole;standAt e.pos;Fz [v] (truthy v)):=by intro _;rfl):DC X e (jz t) (cT w):=⟨OT h.pe he,kU h.sd⟩
def hZ(x:Wv)(A B:Prop):Prop:=match x with
 |.d (.bool ai)=>A
 |.d (.bool aj)=>B
 |_=>False
theorem Gz(b)(A B):hZ (.d (.bool b)) A B=if b=ai then A else B:=by cases b<;>simp[hZ]
def ph(g g':Wv->Wv->Int->DQ->Prop)(wa wb wc:DT):DT:=λδ n Q=>wa δ n λx n1=>wb δ n1 λy n2=>g x y n2 λz n3=>hZ z (wc δ n3 λu n4=>g' y u n4 Q) (Q (.d (.bool aj)) n3)
theorem L7(hr:bE r g)(hr':bE r' g')(ha:eY ta wa)(hb:eY tb wb)(hc:eY tc wc):eY (uv r r' ta tb tc) (ph g g' wa wb wc):=λC H B σ δ n Q Q' R h k=>
 ha C H B σ δ n _ _ R h λv x H1 n1 R1 k1 r1 q1=>hb C H1 B σ δ n1 _ _ R1 q1 λu y H2 n2 R2 k2 r2 q2=>
  hr C H2 B σ δ n2 v u x y _ _ R2 (r1.kp k2 R1.bt) r2 q2 λz p H3 n3 R3 k3 r3 q3=>by
   have k13:=(k1.trans k2).trans k3;unfold hZ at q3
   split at q3
   ·cases(show RdX H3 B z (.bool ai)from r3);refine⟨ai,rfl,?_⟩;rw[if_pos rfl];exact hc C H3 B σ δ n3 _ _ R3 q3 λw0 x0 H4 n4 R4 k4 r4 q4=>hr' C H4 B σ δ n4 u w0 y x0 Q Q' R4 ((r2.kp k3 R2.bt).kp k4 R3.bt) r4 q4 λz p H5 n5 R5 k5 r5 q5=>k z p H5 n5 R5 ((k13.trans k4).trans k5) r5 q5
   ·cases(show RdX H3 B z (.bool aj)from r3);refine⟨aj,rfl,?_⟩;rw[if_neg Ae];exact k _ _ H3 n3 R3 k13 (wd (.bl aj)) q3
   ·exact q3.elim
theorem Qq(ho:OpR X (Bx op) r)(hr:bE r g)(ho':OpR X (Bx op') r')(hr':bE r' g')(ha:DE X a ta wa)(hb:DE X b tb wb)(hc:DE X c tc wc)
  (hm:lastMarks [op,op'] [b,c]=aj:=by with_unfolding_all rfl):DE X (.Compare a [op,op'] [b,c] pos) (uv r r' ta tb tc) (ph g g' wa wb wc):=⟨Rz ho ho' ha.pe hb.pe hc.pe hm,L7 hr hr' ha.sd hb.sd hc.sd⟩
variable{tA tB':TT}{cA cB:c6}{aR:List Expr}
def dJ(u v:c6):c6:=λδ n Q=>u δ n λb n1=>if b=ai then v δ n1 Q else Q aj n1
def hU(u v:c6):c6:=λδ n Q=>u δ n λb n1=>if b=ai then Q ai n1 else v δ n1 Q
def cQ(u:c6):c6:=λδ n Q=>u δ n λb n1=>Q (!b) n1
theorem cw_and1(h:DC X a tA cA):DCW X (.BoolOp .And [a] pos) tA cA:=⟨GB h.pt,h.sd⟩
theorem cw_or1(h:DC X a tA cA):DCW X (.BoolOp .Or [a] pos) tA cA:=⟨RU h.pt,h.sd⟩
theorem cw_and(h:DC X a tA cA)(h2:DCW X (.BoolOp .And (b::aR) pos) tB' cB):DCW X (.BoolOp .And (a::b::aR) pos) (ou tA tB') (dJ cA cB):=⟨Iq h.pt h2.pw,λC H B σ δ n Q Q' R q k=>
 h.sd C H B σ δ n _ _ R q λb H1 n1 R1 k1 q1=>by
  cases b with
  |true=>
   rw[if_pos rfl]at q1 ⊢;exact h2.sd C H1 B σ δ n1 _ _ R1 q1 λb H2 n2 R2 k2 q2=>k b H2 n2 R2 (k1.trans k2) q2
  |false=>
   rw[if_neg Ae]at q1 ⊢;exact k aj H1 n1 R1 k1 q1⟩
theorem cw_or(h:DC X a tA cA)(h2:DCW X (.BoolOp .Or (b::aR) pos) tB' cB):DCW X (.BoolOp .Or (a::b::aR) pos) (FG tA tB') (hU cA cB):=⟨T5 h.pt h2.pw,λC H B σ δ n Q Q' R q k=>
 h.sd C H B σ δ n _ _ R q λb H1 n1 R1 k1 q1=>by
  cases b with
  |true=>
   rw[if_pos rfl]at q1 ⊢;exact k ai H1 n1 R1 k1 q1
  |false=>
   rw[if_neg Ae]at q1 ⊢;exact h2.sd C H1 B σ δ n1 _ _ R1 q1 λb H2 n2 R2 k2 q2=>k b H2 n2 R2 (k1.trans k2) q2⟩
theorem DCW.cc(h:DCW X a tA cA):DC X a tA cA:=⟨h.pw.pt,h.sd⟩
theorem KD(h:DC X a tA cA):DC X (.UnaryOp .Not a pos) (oW tA) (cQ cA):=⟨Nn h.pt,λC H B σ δ n Q Q' R q k=>h.sd C H B σ δ n _ _ R q λb H1 n1 R1 k1 q1=>k (!b) H1 n1 R1 k1 q1⟩
def fY(u v:DT):DT:=λδ n Q=>u δ n λx n1=>hZ x (v δ n1 Q) (Q (.d (.bool aj)) n1)
def qV(u v:DT):DT:=λδ n Q=>u δ n λx n1=>hZ x (Q (.d (.bool ai)) n1) (v δ n1 Q)
def nZ(u:DT):DT:=λδ n Q=>u δ n λx n1=>match x with
 |.d (.bool b)=>Q (.d (.bool !b)) n1
 |_=>False
theorem Ov{op}(h:DE X a ta wa):DE X (.BoolOp op [a] pos) ta wa:=⟨OE h.pe,h.sd⟩
theorem QM(h:DE X a ta wa)(h2:DE X (.BoolOp .And (b::aR) pos) tb wb):DE X (.BoolOp .And (a::b::aR) pos) (CT ta tb) (fY wa wb):=⟨Qr h.pe h2.pe,λC H B σ δ n Q Q' R q k=>
 h.sd C H B σ δ n _ _ R q λv x H1 n1 R1 k1 r1 q1=>by
  unfold hZ at q1
  split at q1
  ·cases(show RdX H1 B v (.bool ai)from r1);refine⟨ai,rfl,?_⟩;rw[if_pos rfl];exact h2.sd C H1 B σ δ n1 _ _ R1 q1 λv x H2 n2 R2 k2 r2 q2=>k v x H2 n2 R2 (k1.trans k2) r2 q2
  ·cases(show RdX H1 B v (.bool aj)from r1);refine⟨aj,rfl,?_⟩;rw[if_neg Ae];exact k _ _ H1 n1 R1 k1 (wd (.bl aj)) q1
  ·exact q1.elim⟩
theorem wQ(h:DE X a ta wa)(h2:DE X (.BoolOp .Or (b::aR) pos) tb wb):DE X (.BoolOp .Or (a::b::aR) pos) (nO ta tb) (qV wa wb):=⟨O4 h.pe h2.pe,λC H B σ δ n Q Q' R q k=>
 h.sd C H B σ δ n _ _ R q λv x H1 n1 R1 k1 r1 q1=>by
  unfold hZ at q1
  split at q1
  ·cases(show RdX H1 B v (.bool ai)from r1);refine⟨ai,rfl,?_⟩;rw[if_pos rfl];exact k _ _ H1 n1 R1 k1 (wd (.bl ai)) q1
  ·cases(show RdX H1 B v (.bool aj)from r1);refine⟨aj,rfl,?_⟩;rw[if_neg Ae];exact h2.sd C H1 B σ δ n1 _ _ R1 q1 λv x H2 n2 R2 k2 r2 q2=>k v x H2 n2 R2 (k1.trans k2) r2 q2
  ·exact q1.elim⟩
theorem Kd(h:DE X a ta wa):DE X (.UnaryOp .Not a pos) (zq ta) (nZ wa):=⟨Rw h.pe,λC H B σ δ n Q Q' R q k=>
 h.sd C H B σ δ n _ _ R q λv x H1 n1 R1 k1 r1 q1=>by
  split at q1
  ·rename_i b;cases(show RdX H1 B v (.bool b)from r1);exact⟨b,rfl,k _ _ H1 n1 R1 k1 (wd (.bl _)) q1⟩
  ·exact q1.elim⟩
def eu(u:c6)(v w:DT):DT:=λδ n Q=>u δ n λb n1=>if b=ai then v δ n1 Q else w δ n1 Q
theorem Mb(h:DC X c tA cA)(h1:DE X a ta wa)(h2:DE X b tb wb):DE X (.IfExp c a b pos) (EE tA ta tb) (eu cA wa wb):=⟨Oz h.pt h1.pe h2.pe,λC H B σ δ n Q Q' R q k=>
 h.sd C H B σ δ n _ _ R q λb H1 n1 R1 k1 q1=>by
  cases b with
  |true=>
   rw[if_pos rfl]at q1 ⊢;exact h1.sd C H1 B σ δ n1 _ _ R1 q1 λv x H2 n2 R2 k2 r2 q2=>k v x H2 n2 R2 (k1.trans k2) r2 q2
  |false=>
   rw[if_neg Ae]at q1 ⊢;exact h2.sd C H1 B σ δ n1 _ _ R1 q1 λv x H2 n2 R2 k2 r2 q2=>k v x H2 n2 R2 (k1.trans k2) r2 q2⟩
variable{es:List Expr}{tR:TA}{wR:fw}
def ao:fw:=λ_ n Q=>Q [] n
def aq(w:DT)(r:fw):fw:=λδ n Q=>w δ n λx n1=>r δ n1 λxs n2=>Q (x::xs) n2
theorem OL:DA X [] ck ao:=⟨eI,λC H B σ δ n Q Q' R q k=>k [] [] H n R (Kp.refl _ _) .nil q⟩
theorem SI(h:DE X e te we)(hr:DA X es tR wR)(hs:Au (e::es) X.env=(aj,eval e X.env)::Au es X.env:=by rfl):DA X (e::es) (dB te tR) (aq we wR):=⟨cU h.pe hr.pa hs,λC H B σ δ n Q Q' R q k=>
 h.sd C H B σ δ n _ _ R q λv x H1 n1 R1 k1 r1 q1=>hr.sd C H1 B σ δ n1 _ _ R1 q1 λvs xs H2 n2 R2 k2 r2 q2=>k (v::vs) (x::xs) H2 n2 R2 (k1.trans k2) (.cons (r1.kp k2 R1.bt) r2) q2⟩
def iq:List Wv->Option (List Aa)
 |[]=>ae []
 |.d x::r=>(iq r).map (x::·)
 |_::_=>ah
theorem ARel.plain:∀{vs:List V}{xs:List Wv}{ds:List Aa},ARel H B t vs xs->iq xs=ae ds->RdXs H B vs ds
 |_,_,_,.nil,h=>by
  cases h;exact .nil
 |_,_,ds,.cons (x:=x) (xs:=xs) a b,h=>by
  cases x with
  |d x=>
   have h':(iq xs).map (x::·)=ae ds:=h;cases e:iq xs with
   |none=>rw[e]at h';cases h'
   |some es=>
    rw[e]at h';cases h';exact .cons a (ARel.plain b e)
  |tp=>cases h
  |dk _=>cases h
  |ln _=>cases h
  |ob _=>cases h
theorem RdXs.fresh(h:RdXs H B vs ds)(hp:H p=ah):RdXs (upd H p o) (λb=>B b\/b=p) vs ds:=
 h.move λb o' e n=>⟨by rw[aY (cR e hp)];exact e,λz=>z.elim n λq=>cR e hp q⟩
def aw(w:fw):DT:=λδ n Q=>w δ n λxs n1=>match iq xs with
 |some ds=>ds.length<=1000/\Q (.d (.tuple ds)) n1
 |none=>False
theorem Q5{x1}(h:DA X es tR wR):DE X (.Tuple es x1 pos) (kj tR) (aw wR):=⟨yc h.pa,λC H B σ δ n Q Q' R q k=>
 h.sd C H B σ δ n _ _ R q λvs xs H1 n1 R1 k1 r1 q1=>by
  split at q1
  ·rename_i ds e;have r:=r1.plain e;have hl:vs.length<=Az:=by rw[r.len];exact small q1.1
   refine⟨hl,λp hp=>k _ _ _ n1 (R1.new hp) (k1.trans (Kp.new hp)) (wd (show RdX _ B (.ref p) (.tuple ds)from ?_)) q1.2⟩;exact .tup bB (R1.nb hp) hl ((r.fresh hp).less λb z=>.inl z)
  ·exact q1.elim⟩
def aN(w:fw):eW:=λδ n Q=>w δ n λxs n1=>match iq xs with
 |some ds=>ds.length<=1000/\Q ds n1
 |none=>False
theorem RK(h:DA X es tR wR):DF X (.List es pos) (oG tR) (aN wR):=⟨wU h.pa,λC H B σ δ n Q Q' R q k=>
 h.sd C H B σ δ n _ _ R q λvs xs H1 n1 R1 k1 r1 q1=>by
  split at q1
  ·rename_i ds e;have r:=r1.plain e;have hl:vs.length<=Az:=by rw[r.len];exact small q1.1
   have hn:∀p,H1 p=ah->H p=ah:=λp hp=>by
    cases q:H p with
    |none=>rfl
    |some o=>
     by_cases z:p=C.t
     ·subst z;obtain⟨_,_,h,_⟩:=R1.tp.ob;rw[h]at hp;cases hp
     ·rw[k1 p o q z]at hp;cases hp
   exact⟨hl,λp hp=>k p vs ds _ n1 (R1.new hp) (k1.trans (Kp.new hp)) (hn p hp) bB hl (r.fresh hp) q1.2⟩
  ·exact q1.elim⟩
def aZ(w:eW):DT:=λδ n Q=>w δ n λds n1=>Q (.d (.list ds)) n1
theorem P6(h:jV t w):eY t (aZ w):=λC H B σ δ n Q Q' R q k=>
 h C H B σ δ n _ _ R q λa xs ds H' n' R' k' h0 h1 h2 h3 q'=>k _ _ H' n' R' k' (wd (show RdX H' B (.ref a) (.list ds)from .lst h1 (R.nb h0) h2 (h3.less λb z=>.inl z))) q'
theorem DF.d(h:DF X e t w):DE X e t (aZ w):=⟨h.pe,P6 h.sd⟩
theorem Rel.was(R1:Rel C H1 B σ δ n1)(k1:Kp C.t H H1)(hp:H1 p=ah):H p=ah:=by
 cases q:H p with
 |none=>rfl
 |some o=>
  by_cases z:p=C.t
  ·subst z;obtain⟨_,_,h,_⟩:=R1.tp.ob;rw[h]at hp;cases hp
  ·rw[k1 p o q z]at hp;cases hp
abbrev bu:=List Wv->Int->DQ->Prop
def fQ(S:bu):Sp:=λvs H Q _=>∃(t:Addr)(l:TL)(ns:List Int)(B:Addr->Prop)(ws:List Wv)(n:Int)(Q0:DQ),Tp H t l ns n/\B t/\(∀b,B b->H b≠ah)/\ARel H B t vs ws/\S ws n Q0 /\
 ∀w n',Q0 w n'->∀v H',Tp H' t l ns n'->Kp t H H'->WRel H' B t v w->Q v H'
section
variable{X:Cx}{e:Expr}{es:List Expr}{pos p:Pos}{tR:TA}{wR:fw}
def aH(S:bu)(w:fw):DT:=λδ n Q=>w δ n λxs n1=>S xs n1 Q
theorem Np(h:ky t w):eY (jD (fQ S) [] E0 t) (aH S w):=λC H B σ δ n Q Q' R q k=>
 h C H B σ δ n _ _ R q λvs xs H1 n1 R1 k1 r1 q1=>by
  refine⟨C.t,C.l,C.ns,B,xs,n1,Q,R1.tp,R1.bt,R1.ba,by rw[Bw];exact r1,q1,λw n' q2 v H' T' k' r'=>?_⟩;exact k v w H' n' (R1.step T' k') (k1.trans k') r' q2
theorem SX(F:FnOk X.prog X.w X.K X.mg X.base dS k f fd ps (fQ S))(hr:Room k X.A)(hg:Gl X x)(hm:X.mg x=ae (.ref f))(hk:Cz X.K (.ref f)=ai)(hb:Binds X.K fd ps [])
  (ha:DA X (e::es) tR wR) (hdb:(x==("__debug__":Str))=aj:=by decide) (he:Au (e::es) X.env=(aj,eval e X.env)::Au es X.env:=by rfl) (hpl:(Cy pos (Au es X.env)).any (·.1)=aj:=by rfl):
  DE X (.Call (.Name x p) (e::es) [] pos) (jD (fQ S) [] E0 tR) (aH S wR):=⟨vL F hr hg hm hk hb .nil uS ha.pa hdb he hpl,Np ha.sd⟩
def eJ(r:List V->Hp->VK->Prop)(g:List Wv->Int->DQ->Prop):Prop:=∀(C:Ctx)(H:Hp)(B:Addr->Prop)(σ:St)(δ:Sl)(n:Int)(vs:List V)(xs:List Wv)(Q:DQ)(Q':VK),Rel C H B σ δ n->ARel H B C.t vs xs->g xs n Q->
 (∀v x H' n',Rel C H' B σ δ n'->Kp C.t H H'->WRel H' B C.t v x->Q x n'->Q' v H')->r vs H Q'
def wB(g:List Wv->Int->DQ->Prop)(w:fw):DT:=λδ n Q=>w δ n λxs n1=>g xs n1 Q
theorem yX(hr:eJ r g)(h:ky t w):eY (fU r t) (wB g w):=λC H B σ δ n Q Q' R q k=>
 h C H B σ δ n _ _ R q λvs xs H1 n1 R1 k1 r1 q1=>hr C H1 B σ δ n1 vs xs Q Q' R1 r1 q1 λv x H2 n2 R2 k2 r2 q2=>k v x H2 n2 R2 (k1.trans k2) r2 q2
theorem sY{id:String}(hc:CallR X (.builtin id) r)(hr:eJ r g)(hg:Gl X x)(hm:X.mg x=ah)(hv:By x=ae (.builtin id))(ha:DA X (e::es) tR wR)(hn:x≠"__name__":=by decide)(hdb:(x==("__debug__":Str))=aj:=by decide)
  (he:Au (e::es) X.env=(aj,eval e X.env)::Au es X.env:=by rfl) (hpl:(Cy pos (Au es X.env)).any (·.1)=aj:=by rfl):DE X (.Call (.Name x p) (e::es) [] pos) (fU r tR) (wB g wR):=⟨jP hc hg hm hv ha.pa hn hdb he hpl,yX hr ha.sd⟩
theorem uq(hc:CallR X (.type T) r)(hr:eJ r g)(hg:Gl X x)(hm:X.mg x=ah)(hv:By x=ae (.type T))(ha:DA X (e::es) tR wR)(hn:x≠"__name__":=by decide)(hdb:(x==("__debug__":Str))=aj:=by decide)
  (he:Au (e::es) X.env=(aj,eval e X.env)::Au es X.env:=by rfl) (hpl:(Cy pos (Au es X.env)).any (·.1)=aj:=by rfl):DE X (.Call (.Name x p) (e::es) [] pos) (fU r tR) (wB g wR):=⟨kI hc hg hm hv ha.pa hn hdb he hpl,yX hr ha.sd⟩
end
structure DEnds where
 nx:Sl->Int->Prop
 rt:DQ
 bk:Sl->Int->Prop:=λ_ _=>False
 ct:Sl->Int->Prop:=λ_ _=>False
 rn:List Aa->Int->Prop:=λ_ _=>False
abbrev aP:=Sl->Int->DEnds->Prop
structure EndsOk(C:Ctx)(K:DEnds)(D:Ends):Prop where
 nx:∀H B σ δ n,Rel C H B σ δ n->K.nx δ n->D.nx σ H
 rt:∀H B σ δ n v w,Rel C H B σ δ n->WRel H B C.t v w->K.rt w n->D.rt v H
 bk:∀H B σ δ n,Rel C H B σ δ n->K.bk δ n->D.bk σ H
 ct:∀H B σ δ n,Rel C H B σ δ n->K.ct δ n->D.ct σ H
 rn:∀H B σ δ n a xs ds,Rel C H B σ δ n->C.H0 a=ah->H a=ae (.lst xs)->xs.length<=Az->RdXs H (λb=>B b\/b=a) xs ds->K.rn ds n->D.rt (.ref a) H
def kd(T:TS)(W:aP):Prop:=∀(C:Ctx)(H:Hp)(B:Addr->Prop)(σ:St)(δ:Sl)(n:Int)(K:DEnds)(D:Ends),Rel C H B σ δ n->W δ n K->EndsOk C K D->T D σ H
structure DS(X:Cx)(st:Stmt)(T:TS)(W:aP):Prop where
 ps:PS X st T
 sd:kd T W
structure DSs(X:Cx)(st:List Stmt)(T:TS)(W:aP):Prop where
 ps:PSs X st T
 sd:kd T W
section
variable{X:Cx}{st:Stmt}{aR:List Stmt}{T U:TS}{W V':aP}{e:Expr}{te:TE}{we:DT}{pos:Pos}
def aM:aP:=λδ n K=>K.nx δ n
def av(W V:aP):aP:=λδ n K=>W δ n {K with nx:=λδ n=>V δ n K}
theorem NJ:DSs X [] AL aM:=⟨rT,λC H B σ δ n K D R h E=>E.nx H B σ δ n R h⟩
theorem RC(h:DS X st T W)(h2:DSs X aR U V'):DSs X (st::aR) (pP T U) (av W V'):=⟨iT h.ps h2.ps,λC H B σ δ n K D R q E=>
 h.sd C H B σ δ n _ _ R q ⟨λH B σ δ n R q=>h2.sd C H B σ δ n K D R q E,E.rt,E.bk,E.ct,E.rn⟩⟩
theorem MA(h:DS X st T W):DSs X [st] T W:=⟨m7 h.ps,h.sd⟩
def az(w:DT):aP:=λδ n K=>w δ n K.rt
theorem P5(h:DE X e te we):DS X (.Return (ae e) pos) (jR te) (az we):=⟨l7 h.pe,λC H B σ δ n K D R q E=>
 h.sd C H B σ δ n _ _ R q λv x H' n' R' _ r' q'=>E.rt H' B σ δ n' v x R' r' q'⟩
def aJ(c:c6)(W V:aP):aP:=λδ n K=>c δ n λb n1=>if b=ai then W δ n1 K else V δ n1 K
theorem vT{a b:List Stmt}{tc:TT}(hc:DC X c tc cc)(ha:DSs X a T W)(hb:DSs X b U V'):DS X (.If c a b pos) (oj tc T U) (aJ cc W V'):=⟨qL hc.pt ha.ps hb.ps,λC H B σ δ n K D R q E=>
 hc.sd C H B σ δ n _ _ R q λb H1 n1 R1 _ q1=>by
  cases b with
  |true=>
   rw[if_pos rfl]at q1 ⊢;exact ha.sd C H1 B σ δ n1 K D R1 q1 E
  |false=>
   rw[if_neg Ae]at q1 ⊢;exact hb.sd C H1 B σ δ n1 K D R1 q1 E⟩
def aB(i:Nat)(w:DT):aP:=λδ n K=>w δ n λx n1=>match x with
 |.d d=>K.nx (δ.set i (ae (.w (.d d)))) n1
 |.tp=>K.nx (δ.set i (ae (.w .tp))) n1
 |.dk _=>False
 |.ln _=>False
 |.ob o=>K.nx (δ.set i (ae (.w (.ob o)))) n1
theorem Kk(hN:X.N.Nodup)(hi:X.N[i]?=ae x)(hx:ki X.env.scope x)(he:DE X e te we)(hs:Dw e (ae (.Name x pos')) pos.line X.env=pure aj:=by rfl)(hf:X.fn x=ai\/X.env.scope.names.lookup x=ae .local:=by first|exact .inl rfl|exact .inr rfl|assumption):
  DS X (.Assign [.Name x pos'] e pos) (dE te (g9 i)) (aB i we):=⟨jF hN hi hx he.pe hs hf,λC H B σ δ n K D R q E=>
 he.sd C H B σ δ n _ _ R q λv x H1 n1 R1 _ r1 q1=>by
  cases x with
  |d d=>exact E.nx _ _ _ _ _ (R1.set r1 rfl) q1
  |tp=>exact E.nx _ _ _ _ _ (R1.set r1 rfl) q1
  |dk _=>exact q1.elim
  |ln _=>exact q1.elim
  |ob o=>exact E.nx _ _ _ _ _ (R1.set r1 rfl) q1⟩
def bz(i:Nat)(w:eW):aP:=λδ n K=>w δ n λds n1=>K.nx (δ.set i (ae (.own ds))) n1
theorem Rel.h0{a:Addr}(R:Rel C H B σ δ n)(h:H a=ah):C.H0 a=ah:=R.was R.kp h
theorem Rm(hN:X.N.Nodup)(hi:X.N[i]?=ae x)(hx:ki X.env.scope x)(he:DF X e te w)(hs:Dw e (ae (.Name x pos')) pos.line X.env=pure aj:=by rfl)(hf:X.fn x=ai\/X.env.scope.names.lookup x=ae .local:=by first|exact .inl rfl|exact .inr rfl|assumption):
  DS X (.Assign [.Name x pos'] e pos) (dE te (g9 i)) (bz i w):=⟨jF hN hi hx he.pe hs hf,λC H B σ δ n K D R q E=>
 he.sd C H B σ δ n _ _ R q λa xs ds H1 n1 R1 k1 h0 h1 h2 h3 q1=>by
  refine E.nx _ _ _ _ _ (R.own R1 k1 h0 (by rw[h1];exact λz=>nomatch z) rfl ?_) q1;exact⟨a,xs,rfl,h1,.inr rfl,R.h0 h0,h2,h3⟩⟩
def bH(i:Nat)(W:aP):aP:=λδ n K=>match δ[i]? with
 |some (ae (.own ds))=>W (δ.set i (ae (.w (.d (.list ds))))) n K
 |some (ae (.odk m))=>W (δ.set i (ae (.w (.ob (.k m))))) n K
 |_=>W δ n K
theorem T4(i)(h:DSs X sts T W):DSs X sts T (bH i W):=⟨h.ps,λC H B σ δ n K D R q E=>by
 unfold bH at q
 split at q
 ·rename_i ds e;obtain⟨B',R'⟩:=R.frz e;exact h.sd C H B' σ _ n K D R' q E
 ·rename_i m e;obtain⟨B',R'⟩:=R.frzK e;exact h.sd C H B' σ _ n K D R' q E
 ·exact h.sd C H B σ δ n K D R q E⟩
def bq(i:Nat)(w:DT):aP:=λδ n K=>match δ[i]? with
 |some (ae (.own ds))=>w δ n λx n1=>match x with
  |.d d=>ds.length < 1000000/\K.nx (δ.set i (ae (.own (ds++[d])))) n1
  |_=>False
 |_=>False
theorem GS(h:n < 1000000):n < Az:=Nat.lt_trans h ∎
theorem RP{xp ap cp:Pos}(hN:X.N[i]?=ae x)(he:DE X e te we)(hv:fj X.env.scope x:=by first|exact Ce rfl|exact Bs (Ce rfl)|exact Bs (Bs rfl))(hd:(x==("__debug__":Str))=aj:=by decide)
  (hcd:(x==("__classdict__":Str))=aj:=by decide)
  (hbase:E4 (.Name x xp) "append" X.env (eval (.Name x xp) X.env)=eval (.Name x xp) X.env:=by rfl)
  (hfew:((Cy cp (Au [e] X.env)).all (λx=>!x.1)&&(backToKw cp (keywordEach [] X.env)).all (λx=>x.1.isSome)
   && decide ([e].length+([]:List Keyword).length+(if ([]:List Keyword).isEmpty then 0 else 1) < 30))=ai:=by rfl)
  (hline:(ap.endLine==cp.line)=ai:=by rfl) (hs:Au [e] X.env=[(aj,eval e X.env)]:=by rfl) (hplain:(Cy cp (Au [] X.env)).any (·.1)=aj:=by rfl)
  (hsw:Dw (.Call (.Attribute (.Name x xp) "append" ap) [e] [] cp) ah pos.line X.env=pure aj:=by rfl):
  DS X (.Expr (.Call (.Attribute (.Name x xp) "append" ap) [e] [] cp) pos) (oz (sX X.K "list" Ie (cq i) (dB te ck))) (bq i we):=
 ⟨rV (yd Gp PySem.F.slot_list_append PySem.F.type_list_append vC (fW hN hv hd hcd) (cU he.pe eI hs) hbase hfew hline hs hplain) hsw,λC H B σ δ n K D R q E=>by
  unfold bq at q
  split at q
  ·rename_i ds ei;obtain⟨v,hv,a,xs,rfl,e2,e3,e4,e5,e6⟩:=R.sl i _ ei;refine⟨_,hv,.inl ⟨rfl,_,SqL.of e2⟩,he.sd C H B σ δ n _ _ R q λu y H1 n1 R1 k1 r1 q1=>?_⟩;cases y with
   |d d=>
    have hat:a≠C.t:=λz=>R.t0 (z▸e4);have e2':=k1 _ _ e2 hat;refine⟨a,xs,u,rfl,rfl,e2',GS (by rw[e6.len];exact q1.1),?_⟩;refine E.nx _ _ _ _ _ (R1.mutOwn ei rfl hv e3 e4 ?_ rfl) q1.2;refine⟨a,xs++[u],rfl,bB,e3,e4,?_,?_⟩
    ·rw[Ai,e6.len];exact GS q1.1
    ·refine RdXs.keep (λb o e n=>?_) ((e6.kp k1 R.bt).append (.cons r1 .nil));rw[aY λ(z:b=a)=>n (z▸e3)];exact e
   |tp=>exact q1.elim
   |dk _=>exact q1.elim
   |ln _=>exact q1.elim
   |ob _=>exact q1.elim
  ·exact q.elim⟩
end
def iK(N:List Str)(ws:List Wv):Sl:=ws.map (λx=>ae (.w x))++De (N.length-ws.length) ah
def bV(S:bu)(W:aP)(N:List Str):Prop:=∀ws n Q,S ws n Q->W (iK N ws) n {nx:=λ_ n=>Q (.d .none) n,rt:=Q}
theorem ARel.get:∀{vs:List V}{xs:List Wv}{i:Nat}{x:Wv},ARel H B t vs xs->xs[i]?=ae x->∃v,vs[i]?=ae v/\WRel H B t v x
 |_,_,_,_,.nil,e=>by simp at e
 |_,_,0,_,.cons h _,e=>by
  simp at e;subst e;exact⟨_,rfl,h⟩
 |_,_,i+1,x,.cons _ r,e=>by
  obtain⟨v,h1,h2⟩:=ARel.get (i:=i) (x:=x) r (by simpa using e);exact⟨v,by simpa using h1,h2⟩
theorem ED(T:Tp H t l ns n)(bt:B t)(ba:∀b,B b->H b≠ah)(r:ARel H B t vs ws):Rel ⟨t,l,ns,H,B,λ_=>ah⟩ H B (L2.start N vs) (iK N ws) n where
 tp:=T
 kp:=Kp.refl _ _
 t0:=by
  obtain⟨_,_,h,_⟩:=T.ob;show H t≠ah;rw[h];exact λz=>nomatch z
 l0:=by
  show H l.s≠ah;rw[T.ls];exact λz=>nomatch z
 g0:=λe=>by
  show H l.g≠ah;rw[T.ag e];exact λz=>nomatch z
 fz:=λb o e=>nomatch e
 bt:=bt
 b0:=λ_ z=>z
 ba:=ba
 a0:=ba
 sl:=λi x e=>by
  have hl:=r.len;unfold iK at e;rw[List.getElem?_append]at e
  split at e
  ·rename_i hi;rw[Ab]at hi;rw[Aw]at e;cases q:ws[i]? with
   |none=>rw[q]at e;cases e
   |some y=>
    rw[q]at e;cases e;obtain⟨v,h1,h2⟩:=r.get q;refine⟨v,?_,h2,λz=>?_⟩
    ·unfold L2.start;rw[Di (by rw[Ab,hl];exact hi),Aw,h1];rfl
    ·cases y with
     |d _=>cases z
     |tp=>cases z
     |dk _=>
      obtain⟨a,l',f1,f2,_⟩:=h2;exact⟨a,f1,by show H a≠ah;rw[f2];exact λz=>nomatch z⟩
     |ln _=>
      obtain⟨a,l',f1,f2,_⟩:=h2;exact⟨a,f1,by show H a≠ah;rw[f2];exact λz=>nomatch z⟩
     |ob _=>cases z
  ·rw[Eh]at e
   split at e
   ·cases e
   ·cases e
 ow:=λi j x y v e1 e2 o1 o2 _ _=>by
  unfold iK at e1;rw[List.getElem?_append]at e1
  split at e1
  ·rw[Aw]at e1;cases q:ws[i]? with
   |none=>rw[q]at e1;cases e1
   |some y=>
    rw[q]at e1;cases e1;cases o1
  ·rw[Eh]at e1
   split at e1
   ·cases e1
   ·cases e1
 len:=by
  unfold L2.start iK;rw[Ai,Ai,Ab,Ab,List.length_replicate,List.length_replicate,r.len]
section
variable{P:Bg}{w:B3}{K:Ah}{mg:Str->Option Ak}{base:Heap}
theorem Fun.okD(F:Fun K x qual st f fd)(Sc:FnScope N ps (dH st))(len:∀ws n Q,S ws n Q->ws.length=ps.length)
  (hbody:∀(cdv:Ak)(A:Cj)(outer:List Env)(s:Ap)(H:Hp)(E:XK),Room k (A.deeper (D7 qual (dH st) s.heap.objs.size f cdv))->
   ∃T W,DSs (eE dS P w K mg base N qual (dH st) f cdv A outer s H E).nox (gP st) T W/\∀ws n Q,S ws n Q->W (iK N ws) n {nx:=λ_ n=>Q (.d .none) n,rt:=Q}):FnOk P w K mg base dS (k+1) f fd ps (fQ S):=by
 refine F.ok Sc (λvs H Q E h=>?_) (λcdv A outer s H vs Q E hr h=>?_)
 ·obtain⟨t,l,ns,B,ws,n,Q0,_,_,_,r,q,_⟩:=h;rw[r.len];exact len ws n Q0 q
 ·obtain⟨t,l,ns,B,ws,n,Q0,T,bt,ba,r,q,kk⟩:=h;obtain⟨T',W,d,hw⟩:=hbody cdv A outer s H E hr;refine⟨T',d.ps,d.sd ⟨t,l,ns,H,B,λ_=>ah⟩ H B _ _ n _ _ (ED T bt ba r) (hw ws n Q0 q) ⟨?_,?_,?_,?_,λ_ _ _ _ _ _ _ _ _ _ _ _ _ z=>z.elim⟩⟩
  ·exact λH' B' σ δ n' R' q'=>kk _ _ q' .non H' R'.tp R'.kp (show RdX H' B .non .none from .non)
  ·exact λH' B' σ δ n' v x R' r' q'=>kk _ _ q' v H' R'.tp R'.kp (r'.less R'.b0)
  ·exact λ_ _ _ _ _ _ z=>z.elim
  ·exact λ_ _ _ _ _ _ z=>z.elim
end
section
variable{X:Cx}{a b c e:Expr}{ta tb tc te:TE}{wa wb wc we:DT}{pos p:Pos}
def gI(Cd:Int->Int->Prop)(f:Int->Int->Aa):Wv->Wv->Int->DQ->Prop:=λx y n Q=>match x,y with
 |.d (.int i),.d (.int j)=>Cd i j/\Q (.d (f i j)) n
 |_,_=>False
theorem KN(h:∀i j H B,RdX H B (g i j) (f i j)):bE (rI Cd g) (gI Cd f):=λC H B σ δ n x y p q Q Q' R rx ry h1 k=>by
 unfold gI at h1
 split at h1
 ·rename_i i j;cases(show RdX H B x (.int i)from rx);cases(show RdX H B y (.int j)from ry);exact⟨i,j,rfl,rfl,h1.1,k _ _ H n R (Kp.refl _ _) (wd (h i j H B)) h1.2⟩
 ·exact h1.elim
def bY(f:Int->Int->Aa):Wv->Wv->Int->DQ->Prop:=λx y n Q=>match x,y with
 |.d (.int i),.d (.int j)=>Q (.d (f i j)) n
 |_,_=>False
theorem CM(h:∀i j H B,RdX H B (g i j) (f i j)):bE (gz g) (bY f):=λC H B σ δ n x y p q Q Q' R rx ry h1 k=>by
 unfold bY at h1
 split at h1
 ·rename_i i j;cases(show RdX H B x (.int i)from rx);cases(show RdX H B y (.int j)from ry);exact⟨i,j,rfl,rfl,k _ _ H n R (Kp.refl _ _) (wd (h i j H B)) h1⟩
 ·exact h1.elim
theorem TK(ha:DE X a ta wa)(hb:DE X b tb wb):DE X (.BinOp a .Sub b pos) (d3 (gz λi j=>.int (i-j)) ta tb) (w2 wa wb (bY λi j=>.int (i-j))):=ic M4 (CM λ_ _ _ _=>.int _) ha hb
theorem Lh(ha:DE X a ta wa)(hb:DE X b tb wb):DE X (.BinOp a .Mod b pos) (d3 (rI (λ_ j=>0 < j) λi j=>.int (i % j)) ta tb) (w2 wa wb (gI (λ_ j=>0 < j) λi j=>.int (i % j))):=ic j9 (KN λ_ _ _ _=>.int _) ha hb
def cx(w:DT):DT:=λδ n Q=>w δ n λx n1=>match x with
 |.d (.int i)=>Q (.d (.int (-i))) n1
 |_=>False
theorem Qs(ha:DE X a ta wa):DE X (.UnaryOp .USub a pos) (uh (rU λi=>.int (-i)) ta) (cx wa):=⟨AG EG ha.pe,λC H B σ δ n Q Q' R q k=>ha.sd C H B σ δ n _ _ R q λv x H1 n1 R1 k1 r1 q1=>by
 split at q1
 ·rename_i i;cases(show RdX H1 B v (.int i)from r1);exact⟨i,rfl,k _ _ H1 n1 R1 k1 (wd (.int _)) q1⟩
 ·exact q1.elim⟩
def fD:Wv->Wv->Int->DQ->Prop:=λx y n Q=>match x,y with
 |.d (.int i),.d (.int j)=>Q (.d (.int (i+j))) n
 |.d (.str i),.d (.str j)=>i.length+j.length<=Az/\Q (.d (.str (i++j))) n
 |.d (.tuple i),.d (.tuple j)=>(i≠[]\/j≠[])/\i.length+j.length<=Az/\Q (.d (.tuple (i++j))) n
 |.d (.list i),.d (.list j)=>i.length+j.length<=Az/\Q (.d (.list (i++j))) n
 |_,_=>False
def ni(K:Ah):R2:=λx y H Q=>(gz λi j=>.int (i+j)) x y H Q\/(∃i j,x=.str i/\y=.str j/\i.length+j.length<=Az/\Q (.str (i++j)) H)\/CL K x y H Q\/zw K x y H Q\/jh x y H Q
theorem op_addA:OpR X (Ep .Add) (ni X.K):=
 op_add.or (op_add_str.or (op_catA.or (op_catT.or vv)))
theorem LP(i j:Str):(i++j).length=i.length+j.length:=Array.size_append
theorem zN:bE (ni K) fD:=λC H B σ δ n x y p q Q Q' R rx ry h1 k=>by
 unfold fD at h1
 split at h1
 ·rename_i i j;cases(show RdX H B x (.int i)from rx);cases(show RdX H B y (.int j)from ry);exact .inl ⟨i,j,rfl,rfl,k _ _ H n R (Kp.refl _ _) (wd (.int _)) h1⟩
 ·rename_i i j;cases(show RdX H B x (.str i)from rx);cases(show RdX H B y (.str j)from ry);exact .inr (.inl ⟨i,j,rfl,rfl,h1.1,k _ _ H n R (Kp.refl _ _) (wd (show RdX H B _ (.str (i++j))from .str _ (by rw[LP];exact h1.1))) h1.2⟩)
 ·rename_i i j;cases(show RdX H B x (.tuple i)from rx)with
  |@tup ax xs _ e1 e2 e3 e4=>
   cases(show RdX H B y (.tuple j)from ry)with
   |@tup ay ys _ f1 f2 f3 f4=>
    obtain⟨ne,hl,q⟩:=h1;have hl':xs.length+ys.length<=Az:=by rw[e4.len,f4.len];exact hl
    have new:∀pn,H pn=ah->Q' (.ref pn) (upd H pn (.tup (xs++ys))):=λpn hp=>by
     refine k _ _ _ n (R.new hp) (Kp.new hp) (wd (show RdX _ B _ (.tuple (i++j))from .tup bB (R.nb hp) (by rw[Ai];exact hl') ?_)) q;exact((e4.append f4).fresh hp).less λb z=>.inl z
    by_cases hy:ys=[]
    ·have hx:xs≠[]:=λz=>by
      subst hy z;cases e4;cases f4;exact ne.elim (λq=>q rfl) λq=>q rfl
     refine .inr (.inr (.inr (.inl ⟨ax,ay,xs,ys,rfl,rfl,SqT.of e1,SqT.of f1,hx,hl',λ_=>?_,λ_=>new⟩)));subst hy;cases f4;rw[Bw]at q;exact k _ _ H n R (Kp.refl _ _) (wd (show RdX H B _ (.tuple i)from .tup e1 e2 e3 e4)) q
    ·refine .inr (.inr (.inl ⟨ax,ay,xs,ys,rfl,rfl,SqT.of e1,SqT.of f1,hy,hl',λz=>?_,λ_=>new⟩));subst z;cases e4;exact k _ _ H n R (Kp.refl _ _) (wd (show RdX H B _ (.tuple j)from .tup f1 f2 f3 f4)) q
 ·rename_i i j;cases(show RdX H B x (.list i)from rx)with
  |@lst ax xs _ e1 e2 e3 e4=>
   cases(show RdX H B y (.list j)from ry)with
   |@lst ay ys _ f1 f2 f3 f4=>
    obtain⟨hl,q⟩:=h1;have hl':xs.length+ys.length<=Az:=by rw[e4.len,f4.len];exact hl
    refine .inr (.inr (.inr (.inr ⟨ax,ay,xs,ys,rfl,rfl,e1,f1,hl',λpn hp=>?_⟩)));refine k _ _ _ n (R.new hp) (Kp.new hp) (wd (show RdX _ B _ (.list (i++j))from .lst bB (R.nb hp) (by rw[Ai];exact hl') ?_)) q;exact((e4.append f4).fresh hp).less λb z=>.inl z
 ·exact h1.elim
theorem S2(ha:DE X a ta wa)(hb:DE X b tb wb):DE X (.BinOp a .Add b pos) (d3 (ni X.K) ta tb) (w2 wa wb fD):=ic op_addA zN ha hb
def ji(f:Int->Int->Bool)(h:List Nat->List Nat->Bool):Wv->Wv->Int->DQ->Prop:=λx y n Q=>match x,y with
 |.d (.int i),.d (.int j)=>Q (.d (.bool (f i j))) n
 |.d (.str i),.d (.str j)=>Q (.d (.bool (h i.cps.toList j.cps.toList))) n
 |_,_=>False
theorem ud:bE (λx y H Q=>(gz λi j=>.bl (f i j)) x y H Q\/∃i j,x=.str i/\y=.str j/\Q (.bl (h i.cps.toList j.cps.toList)) H) (ji f h):=λC H B σ δ n x y p q Q Q' R rx ry h1 k=>by
 unfold ji at h1
 split at h1
 ·rename_i i j;cases(show RdX H B x (.int i)from rx);cases(show RdX H B y (.int j)from ry);exact .inl ⟨i,j,rfl,rfl,k _ _ H n R (Kp.refl _ _) (wd (.bl _)) h1⟩
 ·rename_i i j;cases(show RdX H B x (.str i)from rx);cases(show RdX H B y (.str j)from ry);exact .inr ⟨i,j,rfl,rfl,k _ _ H n R (Kp.refl _ _) (wd (.bl _)) h1⟩
 ·exact h1.elim
abbrev gM:=ji (λi j=>decide (i < j)) (λi j=>decide (i < j))
abbrev j3:=ji (λi j=>decide (i<=j)) (λi j=>!decide (j < i))
abbrev lM:=ji (λi j=>decide (j < i)) (λi j=>decide (j < i))
def pJ:R2:=λx y H Q=>(gz λi j=>.bl (decide (i < j))) x y H Q\/∃i j,x=.str i/\y=.str j/\Q (.bl (decide (i.cps.toList < j.cps.toList))) H
theorem Me:OpR X (Bx .Lt) pJ:=op_lt.or Nk
def nT:R2:=λx y H Q=>(gz λi j=>.bl (decide (i<=j))) x y H Q\/∃i j,x=.str i/\y=.str j/\Q (.bl (!decide (j.cps.toList < i.cps.toList))) H
theorem AE:OpR X (Bx .LtE) nT:=op_le.or Tb
def nW:R2:=λx y H Q=>(gz λi j=>.bl (decide (j < i))) x y H Q\/∃i j,x=.str i/\y=.str j/\Q (.bl (decide (j.cps.toList < i.cps.toList))) H
theorem Iz:OpR X (Bx .Gt) nW:=op_gt.or Ql
theorem RE:bE pJ gM:=ud (f:=λi j=>decide (i < j)) (h:=λi j=>decide (i < j))
theorem CJ:bE nT j3:=ud (f:=λi j=>decide (i<=j)) (h:=λi j=>!decide (j < i))
theorem ES:bE nW lM:=ud (f:=λi j=>decide (j < i)) (h:=λi j=>decide (j < i))
def jq:Aa->Aa->Option Bool
 |.none,.none=>ae ai
 |.none,.int _=>ae aj
 |.int _,.none=>ae aj
 |.none,.bool _=>ae aj
 |.bool _,.none=>ae aj
 |.none,.str _=>ae aj
 |.str _,.none=>ae aj
 |.int i,.int j=>ae (decide (i=j))
 |.bool i,.bool j=>ae (decide (i=j))
 |.str i,.str j=>ae (decide (i=j))
 |.int _,.str _=>ae aj
 |.str _,.int _=>ae aj
 |.bool _,.str _=>ae aj
 |.str _,.bool _=>ae aj
 |.list _,.str _=>ae aj
 |.tuple _,.str _=>ae aj
 |.dict _,.str _=>ae aj
 |.list xs,.list []=>ae xs.isEmpty
 |_,_=>ah
def rJ:R2:=λx y H Q=>∃d h B,RdX H B x d/\y=.str h/\Q (.bl (bL h d)) H
theorem yx(x y):decide (V.str x=V.str y)=decide (x=y):=by
 by_cases z:x=y
 ·rw[z,decide_eq_true rfl,decide_eq_true rfl]
 ·rw[decide_eq_false z,decide_eq_false λw=>z (V.str.inj w)]
theorem yZ(x y):decide (V.int x=V.int y)=decide (x=y):=by
 by_cases z:x=y
 ·rw[z,decide_eq_true rfl,decide_eq_true rfl]
 ·rw[decide_eq_false z,decide_eq_false λw=>z (V.int.inj w)]
theorem G4(x y):decide (V.bl x=V.bl y)=decide (x=y):=by
 by_cases z:x=y
 ·rw[z,decide_eq_true rfl,decide_eq_true rfl]
 ·rw[decide_eq_false z,decide_eq_false λw=>z (V.bl.inj w)]
theorem L3(hu:X.A.units < Eo):OpR X (Bx .Eq) rJ:=by
 intro pins s σ H x y v u Q I rx ry h;obtain⟨d,hh,B,hd,rfl,q⟩:=h;cases hd with
 |non=>exact op_eq pins s σ H _ _ v u Q I rx ry ⟨rfl,q⟩
 |bl b=>exact op_eq pins s σ H _ _ v u Q I rx ry ⟨rfl,q⟩
 |int i=>exact op_eq pins s σ H _ _ v u Q I rx ry ⟨rfl,q⟩
 |str x hx=>
  refine op_eq pins s σ H _ _ v u Q I rx ry ⟨rfl,?_⟩;rw[yx];exact q
 |@lst a xs ds h1 h2 h3 h4=>
  cases(show v=A6 a from rx);obtain⟨t,rfl⟩:=(show ∃t,u=Fs hh t from ry);obtain⟨its,_,p,_⟩:=I.list (SqL.of (K:=X.K) h1);exact PySem.SeqAt.RcAt.list_str hh t p.isList hu _ _ _ _ ⟨.bl aj,H,I,rfl,q⟩
 |@tup a xs ds h1 h2 h3 h4=>
  cases(show v=A6 a from rx);obtain⟨t,rfl⟩:=(show ∃t,u=Fs hh t from ry);obtain⟨its,_,p,_⟩:=I.tuple (SqT.of (K:=X.K) h1);exact PySem.SeqAt.RcAt.tuple_str hh t (show s.heap.IsTuple a its.toArray from p) hu _ _ _ _ ⟨.bl aj,H,I,rfl,q⟩
def aT:Wv->Wv->Int->DQ->Prop:=λx y n Q=>match x,y with
 |.d a,.d b=>match jq a b with
  |some r=>Q (.d (.bool r)) n
  |none=>False
 |_,_=>False
theorem MQ(hu:X.A.units < Eo):OpR X (Bx .Eq) (λx y H Q=>sU x y H Q\/rJ x y H Q\/qE X.K x y H Q):=op_eq.or ((L3 hu).or (Om hu))
theorem LY:bE (λx y H Q=>sU x y H Q\/rJ x y H Q\/qE K x y H Q) aT:=λC H B σ δ n x y p q Q Q' R rx ry h1 k=>by
 unfold aT at h1
 split at h1
 ·rename_i da db;have rx:RdX H B x da:=rx;have ry:RdX H B y db:=ry;have fin:∀r:Bool,Q (.d (.bool r)) n->Q' (.bl r) H:=λr q=>k _ _ H n R (Kp.refl _ _) (wd (.bl r)) q
  split at h1
  ·rename_i r er;have h1:=fin r h1;cases rx with
   |non=>cases ry<;>first|(cases er;done)|(cases er;exact .inl ⟨rfl,h1⟩)
   |bl i=>cases ry<;>first|(cases er;done)|(cases er;exact .inl ⟨rfl,by first|exact h1|(rw[G4];exact h1)⟩)
   |int i=>cases ry<;>first|(cases er;done)|(cases er;exact .inl ⟨rfl,by first|exact h1|(rw[yZ];exact h1)⟩)
   |str i hi=>cases ry<;>first|(cases er;done)|(cases er;exact .inl ⟨rfl,by first|exact h1|(rw[yx];exact h1)⟩)
   |@lst ax xs ds e1 e2 e3 e4=>
    cases ry with
    |str j hj=>cases er;exact .inr (.inl ⟨_,j,B,.lst e1 e2 e3 e4,rfl,h1⟩)
    |@lst ay ys es f1 f2 f3 f4=>
     cases f4 with
     |nil=>
      have er:ae ds.isEmpty=ae r:=er;cases er;refine .inr (.inr ⟨ax,ay,xs,rfl,rfl,SqL.of e1,SqL.of f1,?_⟩);have:xs.isEmpty=ds.isEmpty:=by cases e4<;>rfl
      rw[this];exact h1
     |cons _ _=>cases er
    |_=>cases er
   |@tup ax xs ds e1 e2 e3 e4=>
    cases ry with
    |str j hj=>cases er;exact .inr (.inl ⟨_,j,B,.tup e1 e2 e3 e4,rfl,h1⟩)
    |_=>cases er
  ·exact h1.elim
 ·exact h1.elim
def QS(a b:Aa):Option Bool:=match a,b with
 |.list _,_=>ah
 |.tuple _,_=>ah
 |a,b=>(jq a b).map not
def eO:Wv->Wv->Int->DQ->Prop:=λx y n Q=>match x,y with
 |.d a,.d b=>match QS a b with
  |some r=>Q (.d (.bool r)) n
  |none=>False
 |_,_=>False
theorem KR:bE zx eO:=λC H B σ δ n x y p q Q Q' R rx ry h1 k=>by
 unfold eO at h1
 split at h1
 ·rename_i da db;have rx:RdX H B x da:=rx;have ry:RdX H B y db:=ry;have fin:∀r:Bool,Q (.d (.bool r)) n->Q' (.bl r) H:=λr q=>k _ _ H n R (Kp.refl _ _) (wd (.bl r)) q
  split at h1
  ·rename_i r er;have h1:=fin r h1;cases rx with
   |non=>cases ry<;>first|(cases er;done)|(cases er;exact⟨rfl,h1⟩)
   |bl i=>cases ry<;>first|(cases er;done)|(cases er;exact⟨rfl,by first|exact h1|(rw[G4];exact h1)⟩)
   |int i=>cases ry<;>first|(cases er;done)|(cases er;exact⟨rfl,by first|exact h1|(rw[yZ];exact h1)⟩)
   |str i hi=>cases ry<;>first|(cases er;done)|(cases er;exact⟨rfl,by first|exact h1|(rw[yx];exact h1)⟩)
   |lst _ _ _ _=>cases er
   |tup _ _ _ _=>cases er
  ·exact h1.elim
 ·exact h1.elim
def gc:Aa->Bool
 |.none=>ai
 |_=>aj
def bJ(neg:Bool):Wv->Wv->Int->DQ->Prop:=λx y n Q=>match x,y with
 |.d a,.d .none=>Q (.d (.bool (if neg then !gc a else gc a))) n
 |_,_=>False
theorem AF(h:RdX H B v d):decide (v=.non)=gc d:=by cases h<;>rfl
theorem EN:bE (λx y H Q=>y=.non/\Q (.bl (decide (x=.non))) H) (bJ aj):=λC H B σ δ n x y p q Q Q' R rx ry h1 k=>by
 unfold bJ at h1
 split at h1
 ·rename_i da;cases(show RdX H B y .none from ry);exact⟨rfl,k _ _ H n R (Kp.refl _ _) (wd (show RdX H B _ (.bool (gc da))from by rw[AF rx];exact .bl _)) h1⟩
 ·exact h1.elim
theorem IA:bE (λx y H Q=>y=.non/\Q (.bl (!decide (x=.non))) H) (bJ ai):=λC H B σ δ n x y p q Q Q' R rx ry h1 k=>by
 unfold bJ at h1
 split at h1
 ·rename_i da;cases(show RdX H B y .none from ry);exact⟨rfl,k _ _ H n R (Kp.refl _ _) (wd (show RdX H B _ (.bool (!gc da))from by rw[AF rx];exact .bl _)) h1⟩
 ·exact h1.elim
def fA:Aa->Bool
 |.none=>ai
 |.bool _=>ai
 |.int _=>ai
 |.str _=>ai
 |_=>aj
def rE:Aa->Aa->Bool
 |.none,.none=>ai
 |.bool a,.bool b=>a==b
 |.bool a,.int b=>(if a then 1 else 0)==b
 |.int a,.bool b=>a==(if b then 1 else 0)
 |.int a,.int b=>a==b
 |.str a,.str b=>a==b
 |_,_=>aj
def bU(x:Aa)(ds:List Aa):Bool:=ds.any λy=>rE y x
theorem lI(h:RdX H B v d)(f:fA d=ai):iL v=ai:=by cases h<;>first|rfl|cases f
theorem kW:∀{vs:List V}{ds:List Aa},RdXs H B vs ds->ds.all fA=ai->vs.all iL=ai
 |_,_,.nil,_=>rfl
 |_,_,.cons h r,f=>by
  rw[List.all_cons,Bf]at f ⊢;exact⟨lI h f.1,kW r f.2⟩
theorem U0{d e:Aa}(h:RdX H B v d)(h2:RdX H B u e):jo v u=rE d e:=by cases h<;>cases h2<;>rfl
theorem l6(h:RdX H B v d):∀{vs:List V}{ds:List Aa},RdXs H B vs ds->rj v vs=bU d ds
 |_,_,.nil=>rfl
 |_,_,.cons h1 r=>by
  have:=l6 h r;unfold rj bU at this ⊢;rw[C5,C5,this,U0 h1 h]
def fO(neg:Bool):Wv->Wv->Int->DQ->Prop:=λx y n Q=>match x,y with
 |.d a,.d (.tuple ds)=>fA a=ai/\ds.all fA=ai/\Q (.d (.bool (if neg then !bU a ds else bU a ds))) n
 |.d a,.d (.list ds)=>fA a=ai/\ds.all fA=ai/\Q (.d (.bool (if neg then !bU a ds else bU a ds))) n
 |_,_=>False
theorem mi:bE (iO K neg) (fO neg):=λC H B σ δ n x y p q Q Q' R rx ry h1 k=>by
 unfold fO at h1
 split at h1
 ·rename_i da ds;obtain⟨f1,f2,q⟩:=h1;have rx:RdX H B x da:=rx;cases(show RdX H B y (.tuple ds)from ry)with
  |@tup ay ys _ e1 e2 e3 e4=>
   refine⟨ay,ys,rfl,.inr (SqT.of e1),lI rx f1,kW e4 f2,?_⟩;rw[l6 rx e4];exact k _ _ H n R (Kp.refl _ _) (wd (.bl _)) q
 ·rename_i da ds;obtain⟨f1,f2,q⟩:=h1;have rx:RdX H B x da:=rx;cases(show RdX H B y (.list ds)from ry)with
  |@lst ay ys _ e1 e2 e3 e4=>
   refine⟨ay,ys,rfl,.inl (SqL.of e1),lI rx f1,kW e4 f2,?_⟩;rw[l6 rx e4];exact k _ _ H n R (Kp.refl _ _) (wd (.bl _)) q
 ·exact h1.elim
def aA:Wv->Wv->Int->DQ->Prop:=λx y n Q=>match x,y with
 |.d (.list ds),.d (.int i)=>match cX ds i with
  |some d=>Q (.d d) n
  |none=>False
 |.d (.tuple ds),.d (.int i)=>match cX ds i with
  |some d=>Q (.d d) n
  |none=>False
 |.d (.str z),.d (.int i)=>match cX z.cps.toList i with
  |some c=>Q (.d (.str ⟨#[c]⟩)) n
  |none=>False
 |_,_=>False
theorem tQ(r:RdXs H B vs ds)(h:cX ds i=ae d):∃v,cX vs i=ae v/\RdX H B v d:=by
 unfold cX at h ⊢;rw[r.len];cases e:fc ds.length i with
 |none=>rw[e]at h;cases h
 |some j=>
  rw[e]at h;exact r.getD h
theorem nJ:bE (kA K) aA:=λC H B σ δ n x y p q Q Q' R rx ry h1 k=>by
 unfold aA at h1
 split at h1
 ·rename_i ds i
  split at h1
  ·rename_i d e;cases(show RdX H B y (.int i)from ry);cases(show RdX H B x (.list ds)from rx)with
   |@lst ay ys _ e1 e2 e3 e4=>
    obtain⟨v,f1,f2⟩:=tQ e4 e;exact .inl ⟨ay,ys,i,v,rfl,rfl,SqL.of e1,f1,k _ _ H n R (Kp.refl _ _) (wd f2) h1⟩
  ·exact h1.elim
 ·rename_i ds i
  split at h1
  ·rename_i d e;cases(show RdX H B y (.int i)from ry);cases(show RdX H B x (.tuple ds)from rx)with
   |@tup ay ys _ e1 e2 e3 e4=>
    obtain⟨v,f1,f2⟩:=tQ e4 e;exact .inr (.inl ⟨ay,ys,i,v,rfl,rfl,SqT.of e1,f1,k _ _ H n R (Kp.refl _ _) (wd f2) h1⟩)
  ·exact h1.elim
 ·rename_i z i
  split at h1
  ·rename_i c e;cases(show RdX H B y (.int i)from ry);cases(show RdX H B x (.str z)from rx)with
   |str _ hz=>exact .inr (.inr ⟨z,i,c,rfl,rfl,hz,e,k _ _ H n R (Kp.refl _ _) (wd (show RdX H B _ (.str ⟨#[c]⟩)from .str _ (by show 1<=Az;decide))) h1⟩)
  ·exact h1.elim
 ·exact h1.elim
theorem w6(ha:DE X a ta wa)(hb:DE X b tb wb)(hs:mY b:=by exact λ_ _=>rfl):DE X (.Subscript a b pos) (d3 (kA X.K) ta tb) (w2 wa wb aA):=⟨gZ sN ha.pe hb.pe hs,mB nJ ha.sd hb.sd⟩
def bj:List Wv->Int->DQ->Prop:=λxs n Q=>match xs with
 |[.d (.str x)]=>Q (.d (.int x.length)) n
 |[.d (.list ds)]=>Q (.d (.int ds.length)) n
 |[.d (.tuple ds)]=>Q (.d (.int ds.length)) n
 |_=>False
theorem Rb:CallR X (.builtin "len") (λxs H Q=>(∃z,xs=[.str z]/\z.length<=Az/\Q (.int z.length) H)\/∃p ys,xs=[.ref p]/\(SqL X.K H p ys\/SqT X.K H p ys)/\Q (.int ys.length) H):=call_len_str.or sj
theorem Sv:eJ (λxs H Q=>(∃z,xs=[.str z]/\z.length<=Az/\Q (.int z.length) H)\/∃p ys,xs=[.ref p]/\(SqL K H p ys\/SqT K H p ys)/\Q (.int ys.length) H) bj:=λC H B σ δ n vs xs Q Q' R r h k=>by
 unfold bj at h
 split at h
 ·rename_i x;cases r with
  |cons r1 r2=>
   cases r2;cases(show RdX H B _ (.str x)from r1)with
   |str _ hz=>exact .inl ⟨x,rfl,hz,k _ _ H n R (Kp.refl _ _) (wd (.int _)) h⟩
 ·rename_i ds;cases r with
  |cons r1 r2=>
   cases r2;cases(show RdX H B _ (.list ds)from r1)with
   |@lst ay ys _ e1 e2 e3 e4=>
    refine .inr ⟨ay,ys,rfl,.inl (SqL.of e1),?_⟩;rw[e4.len];exact k _ _ H n R (Kp.refl _ _) (wd (.int _)) h
 ·rename_i ds;cases r with
  |cons r1 r2=>
   cases r2;cases(show RdX H B _ (.tuple ds)from r1)with
   |@tup ay ys _ e1 e2 e3 e4=>
    refine .inr ⟨ay,ys,rfl,.inr (SqT.of e1),?_⟩;rw[e4.len];exact k _ _ H n R (Kp.refl _ _) (wd (.int _)) h
 ·exact h.elim
theorem Ud(h:RdX H B v d):TyOf K H v (.type (sV d)):=by
 cases h with
 |non=>exact .non
 |bl b=>exact .bl b
 |int i=>exact .int i
 |str x h=>exact .str x
 |lst h1 h2 h3 h4=>exact .lst h1
 |tup h1 h2 h3 h4=>exact .tup h1
theorem Qg(h:RdX H B v d)(hT:T="int"\/T="bool"\/T="str"\/T="tuple"\/T="list"):PySem.W.kitOne K (.type (sV d)) (.type T)=ae (dQ T d):=by
 cases h<;>rcases hT with rfl|rfl|rfl|rfl|rfl<;>rfl
def cb(T:String)(w:DT):DT:=λδ n Q=>w δ n λx n1=>match x with
 |.d d=>Q (.d (.bool (dQ T d))) n1
 |_=>False
theorem Mn{p p2:Pos}(hT:T="int"\/T="bool"\/T="str"\/T="tuple"\/T="list")(hg:Gl X "isinstance")(hm:X.mg "isinstance"=ah)(hg2:Gl X x)(hm2:X.mg x=ah)(hv:By x=ae (.type T))(ha:DE X a ta wa)(hn:x≠"__name__":=by decide)(hdb:(x==("__debug__":Str))=aj:=by decide)
  (he:Au [a,.Name x p2] X.env=(aj,eval a X.env)::Au [.Name x p2] X.env:=by rfl) (he2:Au [.Name x p2] X.env=(aj,eval (.Name x p2) X.env)::Au [] X.env:=by rfl) (hpl:(Cy pos (Au [.Name x p2] X.env)).any (·.1)=aj:=by rfl):
  DE X (.Call (.Name "isinstance" p) [a,.Name x p2] [] pos) (fU (λxs H Q=>∃x t b,xs=[x,.ty T]/\TyOf X.K H x t/\PySem.W.kitOne X.K t (.type T)=ae b/\Q (.bl b) H) (dB ta (dB (tC (.ty T)) ck))) (cb T wa):=
 ⟨jP (O1 (T:=T)) hg hm wL (cU ha.pe (cU (vP (v:=.ty T) hg2 hm2 hv rfl hn hdb) eI he2) he) ∎ ∎ he hpl,λC H B σ δ n Q Q' R q k=>ha.sd C H B σ δ n _ _ R q λv x H1 n1 R1 k1 r1 q1=>by
  cases x with
  |d d=>exact⟨v,_,_,rfl,Ud r1,Qg (show RdX H1 B v d from r1) hT,k _ _ H1 n1 R1 k1 (wd (.bl _)) q1⟩
  |tp=>exact q1.elim
  |dk _=>exact q1.elim
  |ln _=>exact q1.elim
  |ob _=>exact q1.elim⟩
def VR:List Wv->Int->DQ->Prop:=λxs n Q=>match xs with
 |[.d (.list ds)]=>Small (.list ds)/\Q (.d (.str (PyData.shown (.list ds)))) n
 |[.d (.tuple ds)]=>Small (.tuple ds)/\Q (.d (.str (PyData.shown (.tuple ds)))) n
 |_=>False
def kM:List Aa->Option (List Bool)
 |[]=>ae []
 |.bool b::r=>(kM r).map (b::·)
 |_::_=>ah
theorem GD:∀{vs:List V}{ds:List Aa}{bs:List Bool},RdXs H B vs ds->kM ds=ae bs->vs=bs.map V.bl
 |_,_,bs,.nil,h=>by
  cases h;rfl
 |_,_,bs,.cons (d:=d) (ds:=ds) h1 h2,h=>by
  cases h1 with
  |bl b=>
   have h':(kM ds).map (b::·)=ae bs:=h;cases e:kM ds with
   |none=>rw[e]at h';cases h'
   |some cs=>
    rw[e]at h';cases h';rw[GD h2 e];rfl
  |_=>cases h
def ma:List Wv->Int->DQ->Prop:=λxs n Q=>match xs with
 |[.d (.list ds)]=>match kM ds with
  |some bs=>Q (.d (.bool (bs.all id))) n
  |none=>False
 |_=>False
theorem Ry:eJ (λxs H Q=>∃(p:Addr)(bs:List Bool),xs=[.ref p]/\H p=ae (.lst (bs.map V.bl))/\Q (.bl (bs.all id)) H) ma:=λC H B σ δ n vs xs Q Q' R r h k=>by
 unfold ma at h
 split at h
 ·rename_i ds
  split at h
  ·rename_i bs e;cases r with
   |cons r1 r2=>
    cases r2;cases(show RdX H B _ (.list ds)from r1)with
    |@lst ay ys _ e1 e2 e3 e4=>
     exact⟨ay,bs,rfl,by rw[<-GD e4 e];exact e1,k _ _ H n R (Kp.refl _ _) (wd (.bl _)) h⟩
  ·exact h.elim
 ·exact h.elim
def dY:List Wv->Int->DQ->Prop:=λxs n Q=>match xs with
 |[.d (.list ds)]=>Q (.d (.tuple ds)) n
 |[.d (.tuple ds)]=>Q (.d (.tuple ds)) n
 |_=>False
theorem K0:eJ (λxs H Q=>∃p ys,xs=[.ref p]/\((SqL K H p ys/\∀l,H l=ah->Q (.ref l) (upd H l (.tup ys)))\/(SqT K H p ys/\Q (.ref p) H))) dY:=λC H B σ δ n vs xs Q Q' R r h k=>by
 unfold dY at h
 split at h
 ·rename_i ds;cases r with
  |cons r1 r2=>
   cases r2;cases(show RdX H B _ (.list ds)from r1)with
   |@lst ay ys _ e1 e2 e3 e4=>
    refine⟨ay,ys,rfl,.inl ⟨SqL.of e1,λl hl=>?_⟩⟩;exact k _ _ _ n (R.new hl) (Kp.new hl) (wd (show RdX _ B _ (.tuple ds)from .tup bB (R.nb hl) e3 ((e4.fresh hl).less λb z=>.inl z))) h
 ·rename_i ds;cases r with
  |cons r1 r2=>
   cases r2;cases(show RdX H B _ (.tuple ds)from r1)with
   |@tup ay ys _ e1 e2 e3 e4=>exact⟨ay,ys,rfl,.inr ⟨SqT.of e1,k _ _ H n R (Kp.refl _ _) (wd (show RdX H B _ (.tuple ds)from .tup e1 e2 e3 e4)) h⟩⟩
 ·exact h.elim
def gG:List Wv->Int->DQ->Prop:=λxs n Q=>match xs with
 |[.d (.list ds)]=>Q (.d (.list ds)) n
 |[.d (.tuple ds)]=>Q (.d (.list ds)) n
 |_=>False
theorem Mh:eJ (λxs H Q=>∃p ys,xs=[.ref p]/\(SqL K H p ys\/SqT K H p ys)/\∀l,H l=ah->Q (.ref l) (upd H l (.lst ys))) gG:=λC H B σ δ n vs xs Q Q' R r h k=>by
 unfold gG at h
 split at h
 ·rename_i ds;cases r with
  |cons r1 r2=>
   cases r2;cases(show RdX H B _ (.list ds)from r1)with
   |@lst ay ys _ e1 e2 e3 e4=>
    refine⟨ay,ys,rfl,.inl (SqL.of e1),λl hl=>?_⟩;exact k _ _ _ n (R.new hl) (Kp.new hl) (wd (show RdX _ B _ (.list ds)from .lst bB (R.nb hl) e3 ((e4.fresh hl).less λb z=>.inl z))) h
 ·rename_i ds;cases r with
  |cons r1 r2=>
   cases r2;cases(show RdX H B _ (.tuple ds)from r1)with
   |@tup ay ys _ e1 e2 e3 e4=>
    refine⟨ay,ys,rfl,.inr (SqT.of e1),λl hl=>?_⟩;exact k _ _ _ n (R.new hl) (Kp.new hl) (wd (show RdX _ B _ (.list ds)from .lst bB (R.nb hl) e3 ((e4.fresh hl).less λb z=>.inl z))) h
 ·exact h.elim
end
structure ItOk(fz:Hp)(J:It)(ds:List Aa):Prop where
 le:ds.length<=Az
 go:∀i H,(∀b o,fz b=ae o->H b=ae o)->i < ds.length->J.go i H
 stop:∀H,(∀b o,fz b=ae o->H b=ae o)->J.stop ds.length H
 yld:∀i H x H' d,(∀b o,fz b=ae o->H b=ae o)->ds[i]?=ae d->J.yld i H x H'->i0 H H'/\∀B,(∀b o,fz b=ae o->¬B b)->(∀b,B b->H b≠ah)->RdX H' B x d
def thaw(H:Hp)(B:Addr->Prop)(fz:Hp):Prop:=(∀b o,fz b=ae o->H b=ae o/\¬B b)/\∀b o,H b=ae o->¬B b->fz b=ae o
abbrev gU:=Sl->Int->(List Aa->Int->Prop)->Prop
def t9(wi:TI)(v:gU):Prop:=∀(C:Ctx)(H:Hp)(B:Addr->Prop)(σ:St)(δ:Sl)(n:Int)(Q:List Aa->Int->Prop)(Q':It->Hp->Prop),Rel C H B σ δ n->v δ n Q->
 (∀J ds H' n',Rel C H' B σ δ n'->Kp C.t H H'->(∀fz,thaw H' B fz->ItOk fz J ds)->Q ds n'->Q' J H')->wi σ H Q'
structure DI(X:Cx)(tg iter:Expr)(wi:TI)(v:gU):Prop where
 pi:PI X tg iter wi
 sd:t9 wi v
section
variable{X:Cx}{tg a b c e:Expr}{ta tb te:TE}{wa wb we:DT}{pos p:Pos}
def d5(w:DT):gU:=λδ n Q=>w δ n λx n1=>match x with
 |.d (.list ds)=>Q ds n1
 |_=>False
def eQ(w:DT):gU:=λδ n Q=>w δ n λx n1=>match x with
 |.d (.tuple ds)=>Q ds n1
 |_=>False
theorem S7(ha:DE X a ta wa):DI X tg a (ui X.K ta) (d5 wa):=⟨LB ha.pe,λC H B σ δ n Q Q' R q k=>ha.sd C H B σ δ n _ _ R q λv x H1 n1 R1 k1 r1 q1=>by
 split at q1
 ·rename_i ds;cases(show RdX H1 B v (.list ds)from r1)with
  |@lst ay ys _ e1 e2 e3 e4=>
   refine⟨ay,rfl,⟨ys,SqL.of e1⟩,k _ ds H1 n1 R1 k1 (λfz th=>?_) q1⟩;have hfz:fz ay=ae (.lst ys):=th.2 _ _ e1 e2;refine⟨by rw[<-e4.len];exact e3,λi H hH hi=>?_,λH hH=>?_,λi H x H' d hH hd hy=>?_⟩
   ·rw[<-e4.len]at hi;exact⟨ys,ys[i],SqL.of (hH _ _ hfz),Af hi⟩
   ·exact⟨ys,SqL.of (hH _ _ hfz),by rw[e4.len];exact An _⟩
   ·obtain⟨rfl,hy⟩:=hy;refine⟨λ_ _ z=>z,λB' hB hBa=>?_⟩;obtain⟨u,hu,ru⟩:=e4.getD hd;have:=hy _ (SqL.of (hH _ _ hfz));rw[hu]at this;cases this;exact ru.move λb o e ne=>⟨hH _ _ (th.2 _ _ e ne),hB _ _ (th.2 _ _ e ne)⟩
 ·exact q1.elim⟩
theorem RS(ha:DE X a ta wa):DI X tg a (lV X.K ta) (eQ wa):=⟨Ka ha.pe,λC H B σ δ n Q Q' R q k=>ha.sd C H B σ δ n _ _ R q λv x H1 n1 R1 k1 r1 q1=>by
 split at q1
 ·rename_i ds;cases(show RdX H1 B v (.tuple ds)from r1)with
  |@tup ay ys _ e1 e2 e3 e4=>
   refine⟨ay,rfl,⟨ys,SqT.of e1⟩,k _ ds H1 n1 R1 k1 (λfz th=>?_) q1⟩;have hfz:fz ay=ae (.tup ys):=th.2 _ _ e1 e2;refine⟨by rw[<-e4.len];exact e3,λi H hH hi=>?_,λH hH=>?_,λi H x H' d hH hd hy=>?_⟩
   ·rw[<-e4.len]at hi;exact⟨ys,ys[i],SqT.of (hH _ _ hfz),Af hi⟩
   ·exact⟨ys,SqT.of (hH _ _ hfz),by rw[e4.len];exact An _⟩
   ·obtain⟨rfl,hy⟩:=hy;refine⟨λ_ _ z=>z,λB' hB hBa=>?_⟩;obtain⟨u,hu,ru⟩:=e4.getD hd;have:=hy _ (SqT.of (hH _ _ hfz));rw[hu]at this;cases this;exact ru.move λb o e ne=>⟨hH _ _ (th.2 _ _ e ne),hB _ _ (th.2 _ _ e ne)⟩
 ·exact q1.elim⟩
def b9(lo:Int)(n:Nat):List Aa:=(A3 n).map λi=>.int (lo+(i:Nat))
def dv(w:DT):gU:=λδ n Q=>w δ n λx n1=>match x with
 |.d (.int j)=>(-(2 ^ 62)<=j/\j<=1000000)/\Q (b9 0 j.toNat) n1
 |_=>False
theorem Ue(fz)(lo)(n)(hn:n<=1000000):ItOk fz (tI lo n) (b9 lo n):=by
 have hl:(b9 lo n).length=n:=by unfold b9;simp
 refine⟨?_,λi H hH hi=>?_,λH hH=>?_,λi H y H' d hH hd hy=>?_⟩
 ·rw[hl];exact A2 hn ∎
 ·rw[hl]at hi;exact hi
 ·show n<=(b9 lo n).length;rw[hl];exact An _
 ·obtain⟨rfl,rfl⟩:=hy;refine⟨λ_ _ z=>z,λB' hB hBa=>?_⟩;unfold b9 at hd;rw[Aw]at hd;cases e:(A3 n)[i]? with
  |none=>rw[e]at hd;cases hd
  |some j=>
   rw[e]at hd;have:j=i:=by
    obtain⟨h1,h2⟩:=Av.mp e;rw[List.getElem_range]at h2;exact h2.symm
   subst this;cases hd;exact .int _
theorem L6(hg:Gl X "range")(hm:X.mg "range"=ah)(ha:DE X a ta wa)(hs:Au [a] X.env=[(aj,eval a X.env)]:=by rfl):DI X tg (.Call (.Name "range" p) [a] [] pos) (CD (dB ta ck)) (dv wa):=⟨Um hg hm (cU ha.pe eI hs) hs,λC H B σ δ n Q Q' R q k=>ha.sd C H B σ δ n _ _ R q λv x H1 n1 R1 k1 r1 q1=>by
 split at q1
 ·rename_i j;cases(show RdX H1 B v (.int j)from r1);refine⟨j,rfl,q1.1.1,by have:=q1.1.2;have:(2:Int)^62=4611686018427387904:=∎;omega,k _ (b9 0 j.toNat) H1 n1 R1 k1 (λfz _=>Ue fz 0 j.toNat (by have:=q1.1.2;omega)) q1.2⟩
 ·exact q1.elim⟩
end
abbrev d9:=Aa->Sl->(Sl->Prop)->Prop
def tS(g:TG)(v:d9):Prop:=∀(C:Ctx)(H:Hp)(B:Addr->Prop)(σ:St)(δ:Sl)(n:Int)(x:V)(d:Aa)(Q:Sl->Prop)(Q':St->Hp->Prop),Rel C H B σ δ n->RdX H B x d->v d δ Q->
 (∀σ' δ',Rel C H B σ' δ' n->Q δ'->Q' σ' H)->g x σ H Q'
structure DG(X:Cx)(tg:Expr)(g:TG)(v:d9):Prop where
 pg:PG X tg g
 sd:tS g v
section
variable{X:Cx}{pos:Pos}
def aI(i:Nat):d9:=λd δ Q=>Q (δ.set i (ae (.w (.d d))))
theorem Vb(hN:X.N.Nodup)(hi:X.N[i]?=ae x)(hx:ki X.env.scope x)(hf:X.fn x=ai\/X.env.scope.names.lookup x=ae .local:=by first|exact .inl rfl|exact .inr rfl|assumption):DG X (.Name x pos) (g9 i) (aI i):=
 ⟨Qf hN hi hx hf,λC H B σ δ n x d Q Q' R r q k=>k _ _ (R.set (x:=.d d) r rfl) q⟩
end
def eM(g:d9)(W:aP)(K:DEnds):List Aa->Sl->Int->Prop
 |[],δ,n=>K.nx δ n
 |d::r,δ,n=>g d δ λδ'=>W δ' n {K with nx:=eM g W K r,ct:=eM g W K r,bk:=K.nx}
def aW(v:gU)(g:d9)(W:aP):aP:=λδ n K=>v δ n λds n1=>eM g W K ds δ n1
def eG(H:Hp)(B:Addr->Prop):Hp:=λb=>open Classical in if B b then ah else H b
theorem pT(H)(B):thaw H B (eG H B):=by
 refine⟨λb o e=>?_,λb o e n=>?_⟩
 ·unfold eG at e
  split at e
  ·cases e
  ·rename_i h;exact⟨e,h⟩
 ·unfold eG;rw[if_neg n];exact e
theorem Rel.refz(R:Rel C H B σ δ n):Rel {C with fz:=eG H B} H B σ δ n:=
 ⟨R.tp,R.kp,R.t0,R.l0,R.g0,(pT H B).1,R.bt,R.b0,R.ba,R.a0,R.sl,R.ow,R.len⟩
theorem Rel.unfz{fz:Hp}(R:Rel {C with fz:=fz} H B σ δ n)(h:∀b o,C.fz b=ae o->fz b=ae o):Rel C H B σ δ n:=
 ⟨R.tp,R.kp,R.t0,R.l0,R.g0,λb o e=>R.fz b o (h b o e),R.bt,R.b0,R.ba,R.a0,R.sl,R.ow,R.len⟩
theorem Rel.same(R:Rel C H B σ δ n)(k:i0 H H'):Rel C H' B σ δ n:=by
 obtain⟨a,b,e,h⟩:=R.tp.ob;exact R.step ⟨⟨a,b,k _ _ e,h⟩,k _ _ R.tp.ls,R.tp.len,λz=>k _ _ (R.tp.ag z),R.tp.gne⟩ λb o e _=>k b o e
section
variable{X:Cx}{tg iter:Expr}{body:List Stmt}{wi:TI}{v:gU}{g:TG}{gd:d9}{T:TS}{W:aP}{pos:Pos}
theorem Jy(hi:DI X tg iter wi v)(hg:DG X tg g gd)(hb:DSs X body T W)(hp:PassesOwn (Bh X.prog X.w) X.A X.env X.xe:=by exact PassesOwn.never)(hc:X.calm=ai:=by rfl)
  (hs:∀x,D1 iter X.env x=pure x:=by intro _;rfl):DS X (.For tg iter body [] pos) (p9 wi g T) (aW v gd W):=⟨L4 hp hc hi.pi hg.pg hb.ps hs,λC H B σ δ n K D R q E=>
 hi.sd C H B σ δ n _ _ R q λJ ds H1 n1 R1 k1 hJ q1=>by
  have ok:=hJ (eG H1 B) (pT H1 B);have R1':=R1.refz;have back:∀{H B' σ δ n},Rel {C with fz:=eG H1 B} H B' σ δ n->Rel C H B' σ δ n:=λR=>R.unfz λb o e=>(pT H1 B).2 b o (R1.fz b o e).1 (R1.fz b o e).2;refine⟨λi m σ H=>m=ds.length-i/\i<=ds.length/\∃B' δ n,Rel {C with fz:=eG H1 B} H B' σ δ n/\eM gd W K (ds.drop i) δ n,⟨ds.length,by simp,Bm _,B,δ,n1,R1',by simpa using q1⟩,?_⟩
  rintro i m σ2 H2 ⟨rfl,hi,B2,δ2,n2,R2,q2⟩
  have hfz:∀b o,eG H1 B b=ae o->H2 b=ae o:=λb o e=>(R2.fz b o e).1;by_cases hlt:i < ds.length
  ·rw[C2 hlt]at q2;refine .inr ⟨ok.go i H2 hfz hlt,λσ3 H3=>∃B' δ n,Rel {C with fz:=eG H1 B} H3 B' σ3 δ n/\eM gd W K (ds.drop (i+1)) δ n,λσ' H' z=>⟨ds.length-(i+1),by omega,rfl,hlt,z⟩,λx H' hy=>?_⟩;obtain⟨sm,rd⟩:=ok.yld i H2 x H' ds[i] hfz (Af hlt) hy;have R3:=R2.same sm;refine hg.sd _ H' B2 σ2 δ2 n2 x ds[i] _ _ R3 (rd B2 (λb o e=>(R2.fz b o e).2) R2.ba) q2 λσ' δ' R4 q4=>?_;refine hb.sd _ H' B2 σ' δ' n2 _ _ R4 q4 ⟨?_,?_,?_,?_,λH B σ δ n a xs ds R h0 h1 h2 h3 q=>E.rn H B σ δ n a xs ds (back R) h0 h1 h2 h3 q⟩
   ·exact λH B σ δ n R q=>⟨B,δ,n,R,q⟩
   ·exact λH B σ δ n v w R r q=>E.rt H B σ δ n v w (back R) r q
   ·exact λH B σ δ n R q=>E.nx H B σ δ n (back R) q
   ·exact λH B σ δ n R q=>⟨B,δ,n,R,q⟩
  ·have e:i=ds.length:=by omega
   subst e;rw[List.drop_length]at q2;exact .inl ⟨ok.stop H2 hfz,E.nx H2 B2 σ2 δ2 n2 (back R2) q2⟩⟩
end
def jx(fr:List (Option Nat))(δ:Sl):Sl:=fr.map λo=>o.bind λi=>match δ[i]? with
 |some (ae (.w x))=>ae (.w x)
 |some (ae (.odk kvs))=>ae (.w (.dk kvs))
 |some (ae (.own ds))=>ae (.w (.ln ds))
 |_=>ah
def c7(g:d9)(c:c6)(w:DT)(Q:List Aa->Int->Prop):List Aa->List Aa->Sl->Int->Prop
 |[],acc,_,n=>Q acc n
 |d::r,acc,δ,n=>g d δ λδ'=>c δ' n λb n1=>if b=ai then w δ' n1 λx n2=>match x with
   |.d y=>c7 g c w Q r (acc++[y]) δ' n2
   |_=>False
  else c7 g c w Q r acc δ' n1
def cL(fr:List (Option Nat))(v:gU)(g:d9)(c:c6)(w:DT):eW:=λδ n Q=>v δ n λds n1=>c7 g c w Q ds [] (jx fr δ) n1
structure DIf(X:Cx)(ifs:List Expr)(t:TT)(c:c6):Prop where
 pf:pE X ifs t
 sd:jS t c
def cG:c6:=λ_ n Q=>Q ai n
theorem Px:DIf X [] Hu cG:=⟨Sj,λC H B σ δ n Q Q' R q k=>k ai H n R (Kp.refl _ _) q⟩
theorem Tj(h:DC X c t cc):DIf X [c] t cc:=⟨Po h.pt,h.sd⟩
theorem Pa(fr:List (Option Nat))(σ):(eC fr σ).length=fr.length:=by unfold eC;rw[Ab]
theorem Kr(fr:List (Option Nat))(δ):(jx fr δ).length=fr.length:=by unfold jx;rw[Ab]
theorem t6{j:Nat}(h:(jx fr δ)[j]?=ae (ae x)):∃i y,fr[j]?=ae (ae i)/\δ[i]?=ae (ae y)/\((∃z,x=.w z/\y=.w z)\/(∃kvs,x=.w (.dk kvs)/\y=.odk kvs)\/∃ds,x=.w (.ln ds)/\y=.own ds):=by
 unfold jx at h;rw[Aw]at h;cases e:fr[j]? with
 |none=>rw[e]at h;cases h
 |some o=>
  rw[e]at h;cases o with
  |none=>cases h
  |some i=>
   have h':=A8 h;dsimp only[Option.bind]at h'
   split at h'
   ·rename_i z ez;cases h';exact⟨i,_,rfl,ez,.inl ⟨z,rfl,rfl⟩⟩
   ·rename_i kvs ez;cases h';exact⟨i,_,rfl,ez,.inr (.inl ⟨kvs,rfl,rfl⟩)⟩
   ·rename_i ds ez;cases h';exact⟨i,_,rfl,ez,.inr (.inr ⟨ds,rfl,rfl⟩)⟩
   ·cases h'
theorem JA{j i:Nat}(h:fr[j]?=ae (ae i))(h2:σ[i]?=ae (ae v)):(eC fr σ)[j]?=ae (ae v):=by
 unfold eC;rw[Aw,h];show ae ((σ[i]?).bind id)=_;rw[h2];rfl
theorem SN(R:Rel C H B σ δ n)(hL:H L=ah):
  Rel ⟨C.t,C.l,C.ns,H,B,eG H B⟩ (upd H L (.lst [])) (λb=>B b\/b=L) (eC fr σ) (jx fr δ) n where
 tp:=R.tp.new hL
 kp:=Kp.new hL
 t0:=R.ba _ R.bt
 l0:=by
  show H C.l.s≠ah;rw[R.tp.ls];exact λz=>nomatch z
 g0:=λe=>by
  show H C.l.g≠ah;rw[R.tp.ag e];exact λz=>nomatch z
 fz:=λb o e=>by
  obtain⟨e1,e2⟩:=(pT H B).1 b o e;exact⟨by rw[aY (cR e1 hL)];exact e1,λz=>z.elim e2 λq=>cR e1 hL q⟩
 bt:=.inl R.bt
 b0:=λb z=>.inl z
 ba:=λb z e=>by
  by_cases q:b=L
  ·rw[q,bB]at e;cases e
  ·rw[aY q]at e;exact R.ba b (z.resolve_right q) e
 a0:=R.ba
 sl:=λj x e=>by
  have mv:∀b o',H b=ae o'->¬B b->upd H L (.lst []) b=ae o'/\¬(B b\/b=L):=λb o' e n=>⟨by rw[aY (cR e hL)];exact e,λz=>z.elim n λq=>cR e hL q⟩;obtain⟨i,y,e1,e2,hy⟩:=t6 e;obtain⟨v,f1,f2⟩:=R.sl i y e2;refine⟨v,JA e1 f1,?_⟩;rcases hy with⟨z,rfl,rfl⟩|⟨kvs,rfl,rfl⟩|⟨ds,rfl,rfl⟩
  ·cases z with
   |d d=>exact⟨f2.1.move mv,λz=>by cases z⟩
   |tp=>exact⟨f2.1,λz=>by cases z⟩
   |ln ds=>
    obtain⟨a,l,g1,g2,g3,g4,g5⟩:=f2.1;exact⟨⟨a,l,g1,by rw[aY (cR g2 hL)];exact g2,g3,g4,g5.move mv⟩,λ_=>⟨a,g1,by show H a≠ah;rw[g2];exact λz=>nomatch z⟩⟩
   |dk kvs=>
    obtain⟨a,l,g1,g2,g3,g4⟩:=f2.1;exact⟨⟨a,l,g1,by rw[aY (cR g2 hL)];exact g2,g3,g4.move mv⟩,λ_=>⟨a,g1,by show H a≠ah;rw[g2];exact λz=>nomatch z⟩⟩
   |ob o=>
    refine⟨?_,λz=>by cases z⟩;exact ORel.move mv f2.1
  ·obtain⟨a,l,g1,g2,g3,g4,g5,g6⟩:=f2;exact⟨⟨a,l,g1,by rw[aY (cR g2 hL)];exact g2,λz=>R.t0 (z▸g4),g6.move mv⟩,λ_=>⟨a,g1,by show H a≠ah;rw[g2];exact λz=>nomatch z⟩⟩
  ·obtain⟨a,l,g1,g2,g3,g4,g5,g6⟩:=f2;exact⟨⟨a,l,g1,by rw[aY (cR g2 hL)];exact g2,λz=>R.t0 (z▸g4),g5,g6.move mv⟩,λ_=>⟨a,g1,by show H a≠ah;rw[g2];exact λz=>nomatch z⟩⟩
 ow:=λi j x y v e1 e2 o1 o2 _ _=>by
  obtain⟨_,_,_,_,hy⟩:=t6 e1;rcases hy with⟨z,rfl,_⟩|⟨kvs,rfl,_⟩|⟨ds,rfl,_⟩
  ·cases o1
  ·cases o1
  ·cases o1
 len:=by rw[Pa,Kr]
section
variable{X:Cx}{elt tg iter:Expr}{ifs:List Expr}{scope:Er}{cl:List (Str×Addr)}{pos:Pos}{N:List Str}{fr:List (Option Nat)}{wi:TI}{v:gU}{g:TG}{gd:d9}{tt:TT}{cc:c6}{te:TE}{we:DT}
def iP(δ:Sl):Prop:=∀(i:Nat)(x:SV),δ[i]?=ae (ae x)->x.isOwn=aj
theorem K8(fr)(δ):iP (jx fr δ):=λi x e=>by
 obtain⟨_,_,_,_,hy⟩:=t6 e;rcases hy with⟨z,rfl,_⟩|⟨kvs,rfl,_⟩|⟨ds,rfl,_⟩<;>rfl
def kQ(v:d9):Prop:=∀d δ Q,iP δ->v d δ Q->v d δ λδ'=>iP δ'/\Q δ'
theorem xZ(i):kQ (aI i):=λd δ Q h q=>⟨λj x e=>by
 rcases f7 e with⟨_,rfl⟩|⟨_,e'⟩
 ·rfl
 ·exact h j x e',q⟩
theorem sT(hc:X.calm=ai)(S:CompSc X N scope cl fr)(hi:DI X tg iter wi v)(hg:∀s H fp,DG (dh X N scope cl s H fp) tg g gd)(ht:∀s H fp,DIf (dh X N scope cl s H fp) ifs tt cc)
  (he:∀s H fp,DE (dh X N scope cl s H fp) elt te we) (hno:kQ gd) (hs:∀x,D1 iter X.env x=pure x:=by intro _;rfl):
  DF X (.ListComp elt [⟨tg,iter,ifs,0⟩] scope pos) (mz fr wi g tt te) (cL fr v gd cc we):=by
 refine⟨QT hc S hi.pi (λs H fp=>(hg s H fp).pg) (λs H fp=>(ht s H fp).pf) (λs H fp=>(he s H fp).pe) hs,λC H B σ δ n Q Q' R q k=>hi.sd C H B σ δ n _ _ R q λJ ds H1 n1 R1 k1 hJ q1=>λL hL=>?_⟩;have sg:=(hg X.s₀ X.H₀ []).sd;have st:=(ht X.s₀ X.H₀ []).sd;have se:=(he X.s₀ X.H₀ []).sd;have ok:=hJ (eG H1 B) (pT H1 B);have hLt:L≠C.t:=λz=>R1.ba _ R1.bt (z▸hL);refine⟨λi m ys τ H=>m=ds.length-i/\i<=ds.length/\ys.length<=i/\∃δ' n' acc,Rel ⟨C.t,C.l,C.ns,H1,B,eG H1 B⟩ H (λb=>B b\/b=L) τ δ' n'/\iP δ'/\H L=ae (.lst ys)/\RdXs H (λb=>B b\/b=L) ys acc/\c7 gd cc we Q (ds.drop i) acc δ' n',
  ⟨ds.length,by simp,Bm _,Bm _,jx fr δ,n1,[],SN R1 hL,K8 fr δ,bB,.nil,by simpa using q1⟩,?_⟩
 rintro i m ys τ H2 ⟨rfl,hi,hys,δ2,n2,acc,R2,no2,hL2,rd2,q2⟩
 have hfz:∀b o,eG H1 B b=ae o->H2 b=ae o:=λb o e=>(R2.fz b o e).1;by_cases hlt:i < ds.length
 ·rw[C2 hlt]at q2;refine .inr ⟨ok.go i H2 hfz hlt,Bo (Nat.lt_of_le_of_lt hys hlt) ok.le,λx H' hy=>?_⟩;obtain⟨sm,rd⟩:=ok.yld i H2 x H' ds[i] hfz (Af hlt) hy;have R3:=R2.same sm;refine sg _ H' _ τ δ2 n2 x ds[i] _ _ R3 (rd _ (λb o e=>(R2.fz b o e).2) R2.ba) (hno _ _ _ no2 q2) λτ3 δ3 R4 ⟨no3,q4⟩=>?_;refine st _ H' _ τ3 δ3 n2 _ _ R4 q4 λb H4 n4 R5 k5 q5=>?_;have hL4:H4 L=ae (.lst ys):=k5 _ _ (sm _ _ hL2) hLt;have rd4:RdXs H4 (λb=>B b\/b=L) ys acc:=(rd2.keep λb o e _=>sm b o e).kp k5 R4.bt;cases b with
  |false=>
   rw[if_neg Ae]at q5 ⊢;exact⟨ds.length-(i+1),by omega,rfl,hlt,by omega,δ3,n4,acc,R5,no3,hL4,rd4,q5⟩
  |true=>
   rw[if_pos rfl]at q5 ⊢;refine se _ H4 _ τ3 δ3 n4 _ _ R5 q5 λu y H5 n5 R6 k6 r6 q6=>?_;cases y with
   |d y=>
    have hL5:H5 L=ae (.lst ys):=k6 _ _ hL4 hLt;refine⟨hL5,ds.length-(i+1),by omega,rfl,hlt,by rw[Ai,Ax];omega,δ3,n5,acc++[y],R6.mut (.inr rfl) hL λj z e o=>absurd (no3 j z e) (by rw[o];exact λq=>nomatch q),no3,bB,?_,q6⟩;refine RdXs.keep (λb o e n=>?_) ((rd4.kp k6 R5.bt).append (.cons r6 .nil));rw[aY λ(z:b=L)=>n (.inr z)];exact e
   |tp=>exact q6.elim
   |dk _=>exact q6.elim
   |ln _=>exact q6.elim
   |ob _=>exact q6.elim
 ·have e:i=ds.length:=by omega
  subst e;rw[List.drop_length]at q2;refine .inl ⟨ok.stop H2 hfz,k L ys acc H2 n2 (R1.step R2.tp R2.kp) (k1.trans R2.kp) (R1.was k1 hL) hL2 (A2 hys ok.le) rd2 q2⟩
end
abbrev fh:=List Aa->Sl->(Sl->Prop)->Prop
def Uc(g:iE)(v:fh):Prop:=∀(C:Ctx)(H:Hp)(B:Addr->Prop)(σ:St)(δ:Sl)(n:Int)(xs:List V)(ds:List Aa)(Q:Sl->Prop)(Q':St->Hp->Prop),Rel C H B σ δ n->RdXs H B xs ds->v ds δ Q->
 (∀σ' δ',Rel C H B σ' δ' n->Q δ'->Q' σ' H)->g xs σ H Q'
structure DGs(X:Cx)(ts:List Expr)(g:iE)(v:fh):Prop where
 pg:p7 X ts g
 sd:Uc g v
def cv:fh:=λds δ Q=>match ds with
 |[]=>Q δ
 |_=>False
def br(v:d9)(r:fh):fh:=λds δ Q=>match ds with
 |d::ds=>v d δ λδ'=>r ds δ' Q
 |[]=>False
def du(n:Nat)(r:fh):d9:=λd δ Q=>match d with
 |.tuple ds=>ds.length=n/\r ds δ Q
 |_=>False
theorem Oj:∀ds δ Q,iP δ->cv ds δ Q->cv ds δ λδ'=>iP δ'/\Q δ':=λds δ Q h q=>by
 cases ds with
 |nil=>exact⟨h,q⟩
 |cons _ _=>exact q
theorem HF(mono:∀d δ (Q Q':Sl->Prop),(∀δ',Q δ'->Q' δ')->v d δ Q->v d δ Q')(hv:kQ v)(hr:∀ds δ Q,iP δ->r ds δ Q->r ds δ λδ'=>iP δ'/\Q δ'):∀ds δ Q,iP δ->br v r ds δ Q->br v r ds δ λδ'=>iP δ'/\Q δ':=λds δ Q h q=>by
 cases ds with
 |nil=>exact q
 |cons d ds=>exact mono d δ _ _ (λδ' z=>hr ds δ' Q z.1 z.2) (hv d δ _ h q)
theorem U8(hr:∀ds δ Q,iP δ->r ds δ Q->r ds δ λδ'=>iP δ'/\Q δ'):kQ (du n r):=λd δ Q h q=>by
 unfold du at q ⊢
 split at q
 ·exact⟨q.1,hr _ _ _ h q.2⟩
 ·exact q.elim
theorem Jx(i j n):kQ (du n (br (aI i) (br (aI j) cv))):=
 U8 (HF (λ_ _ _ _ h q=>h _ q) (xZ i) (HF (λ_ _ _ _ h q=>h _ q) (xZ j) Oj))
section
variable{X:Cx}{pos:Pos}
theorem LH:DGs X [] mf cv:=⟨CK,λC H B σ δ n xs ds Q Q' R r q k=>by
 cases r with
 |nil=>exact⟨rfl,k σ δ R q⟩
 |cons _ _=>exact q.elim⟩
end
section
variable{X:Cx}{pos:Pos}
theorem Ta(h1:DG X e t v)(h2:DGs X es u r)
  (hs:(Dc (e::es) X.env).map (·.2)=F4 e X.env::(Dc es X.env).map (·.2):=by rfl):DGs X (e::es) (qu t u) (br v r):=⟨ub h1.pg h2.pg hs,λC H B σ δ n xs ds Q Q' R rr q k=>by
 cases rr with
 |nil=>exact q.elim
 |cons r1 r2=>exact⟨_,_,rfl,h1.sd C H B σ δ n _ _ _ _ R r1 q λσ' δ' R' q'=>h2.sd C H B σ' δ' n _ _ _ _ R' r2 q' k⟩⟩
theorem Ot{k:Nat}{n:Nat}(h:DGs X es t r)(hc:X.calm=ai:=by rfl)
  (hn:(Dc es X.env).length=n:=by rfl) (hst:(Dc es X.env).findIdx? (·.1)=ah:=by rfl):DG X (.Tuple es k pos) (jX X.K n t) (du n r):=⟨FI hc h.pg hn hst,λC H B σ δ n' x d Q Q' R rr q k=>by
 unfold du at q
 split at q
 ·rename_i ds;cases rr with
  |@tup ay ys _ e1 e2 e3 e4=>exact⟨ay,ys,rfl,SqT.of e1,by rw[e4.len];exact q.1,h.sd C H B σ δ n' _ _ _ _ R e4 q.2 k⟩
 ·exact q.elim⟩
def uG:List Aa->Option (List Str)
 |[]=>ae []
 |.str b::r=>(uG r).map (b::·)
 |_::_=>ah
def VN(w w':DT):DT:=λδ n Q=>w δ n λx n1=>match x with
 |.d (.str z)=>w' δ n1 λy n2=>match y with
  |.d (.list ds)=>match uG ds with
   |some ys=>(ys.map (·.length)).sum+ys.length*z.length<=16777216/\Q (.d (.str (Txt.join z ys))) n2
   |none=>False
  |.d (.tuple ds)=>match uG ds with
   |some ys=>(ys.map (·.length)).sum+ys.length*z.length<=16777216/\Q (.d (.str (Txt.join z ys))) n2
   |none=>False
  |_=>False
 |_=>False
def fP(i:Nat)(wj w:DT):aP:=λδ n K=>match δ[i]? with
 |some (ae (.own ds))=>w δ n λx n1=>wj δ n1 λj n2=>match x,j with
  |.d d,.d (.int k)=>match fc ds.length k with
   |some m=>K.nx (δ.set i (ae (.own (ds.set m d)))) n2
   |none=>False
  |_,_=>False
 |_=>False
theorem LU{xp sp:Pos}(hN:X.N[i]?=ae x)(hj:DE X j tj wj)(he:DE X e te we)(hv:fj X.env.scope x:=by first|exact Ce rfl|exact Bs (Ce rfl)|exact Bs (Bs rfl))(hd:(x==("__debug__":Str))=aj:=by decide)
  (hcd:(x==("__classdict__":Str))=aj:=by decide)
  (ha:∀v,F4 (.Subscript (.Name x xp) j sp) X.env v=(do
   let ov <-Fz [v] (eval (.Name x xp) X.env)
   let iv <-Fz [v,ov] (eval j X.env)
   standAt sp
   Fz [v,ov,iv] (setItem ov iv v)
   release [v,ov,iv] []):=by intro _;rfl)
  (hs:swapsWithSole [.Subscript (.Name x xp) j sp] e pos.line X.env=pure aj:=by rfl) (hw:swappedStores [.Subscript (.Name x xp) j sp] e X.env=pure ah:=by rfl)
  (h1:(Dc [.Subscript (.Name x xp) j sp] X.env).map (·.2)=[F4 (.Subscript (.Name x xp) j sp) X.env]:=by rfl):
  DS X (.Assign [.Subscript (.Name x xp) j sp] e pos) (dE te (jJ (cq i) tj rB)) (fP i wj we):=
 ⟨mI he.pe (nG (fW hN hv hd hcd) hj.pe m3 ha) hs hw h1,λC H B σ δ n K D R q E=>by
  unfold fP at q
  split at q
  ·rename_i ds ei;refine he.sd C H B σ δ n _ _ R q λu y H1 n1 R1 k1 r1 q1=>?_;obtain⟨v,hv,a,xs,rfl,e2,e3,e4,e5,e6⟩:=R1.sl i _ ei;refine⟨_,hv,hj.sd C H1 B σ δ n1 _ _ R1 q1 λw z H2 n2 R2 k2 r2 q2=>?_⟩
   split at q2
   ·rename_i d k
    split at q2
    ·rename_i m em;cases(show RdX H2 B w (.int k)from r2);have hat:a≠C.t:=λz=>R.t0 (z▸e4);have e2':=k2 _ _ e2 hat;have r1':RdX H2 B u d:=r1.kp k2 R1.bt;refine⟨a,xs,k,m,rfl,rfl,e2',by rw[e6.len];exact em,?_⟩;refine E.nx _ _ _ _ _ (R2.mutOwn ei rfl hv e3 e4 ?_ rfl) q2;refine⟨a,xs.set m u,rfl,bB,e3,e4,by rw[B1];exact e5,?_⟩;refine RdXs.keep (λb o e n=>?_) (RdXs.set m (e6.kp k2 R1.bt) r1');rw[aY λ(z:b=a)=>n (z▸e3)];exact e
    ·exact q2.elim
   ·exact q2.elim
  ·exact q.elim⟩
end
structure Has(P:Bg)(w:B3)(K:Ah)(mg:Str->Option Ak)(base:Heap)(k:Nat)(x:Str)(ps:List Str)(S:bu):Prop where
 ex:∃(f:Addr)(fd:Ct),FnOk P w K mg base dS k f fd ps (fQ S)/\Binds K fd ps []/\mg x=ae (.ref f)/\Cz K (.ref f)=ai
section
variable{P:Bg}{w:B3}{K:Ah}{mg:Str->Option Ak}{base:Heap}
theorem Has.mk'(F:Fun K x qual st f fd)(m:mg x=ae (.ref f))(b:Binds K fd ps [])(h:FnOk P w K mg base dS k f fd ps (fQ S)):Has P w K mg base k x ps S:=⟨f,fd,h,b,m,F.kp⟩
end
theorem Pl{pos p:Pos}(h:Has X.prog X.w X.K X.mg X.base k x ps S)(hr:Room k X.A)(hg:Gl X x)
  (ha:DA X (e::es) tR wR) (hdb:(x==("__debug__":Str))=aj:=by decide) (he:Au (e::es) X.env=(aj,eval e X.env)::Au es X.env:=by rfl) (hpl:(Cy pos (Au es X.env)).any (·.1)=aj:=by rfl):
  DE X (.Call (.Name x p) (e::es) [] pos) (jD (fQ S) [] E0 tR) (aH S wR):=by
 obtain⟨f,fd,h1,h2,h3,h4⟩:=h.ex;exact SX h1 hr hg h3 h4 h2 ha hdb he hpl
theorem K3{cl cells:List (Str×Addr)}(h:∀y∈cl,cells.lookup y.1=ae y.2):∀x c,cl.lookup x=ae c->cells.lookup x=ae c:=λx c e=>h _ (sG e)
def cy:bu:=λws n Q=>match ws with
 |[.tp,.d (.int many)]=>(n < 2 ^ 40/\0 < many/\many < 1073741824)/\∀r:Int,0<=r->r < many->Q (.d (.int r)) (n+1)
 |_=>False
section
variable{P:Bg}{w:B3}{K:Ah}{mg:Str->Option Ak}{base:Heap}
theorem Sx(h:FnOk P w K mg base dS k f fd ps Hb):FnOk P w K mg base dS k f fd ps (fQ cy):=h.imp λvs H Q E hs=>by
 obtain⟨t,l,ns,B,ws,n,Q0,T,bt,ba,r,q,kk⟩:=hs;unfold cy at q
 split at q
 ·rename_i many;cases r with
  |cons r1 r2=>
   cases r2 with
   |cons r3 r4=>
    cases r4;cases(show _=V.ref t from r1);cases(show RdX H B _ (.int many)from r3);exact⟨t,l,ns,n,many,rfl,T,q.1.1,q.1.2.1,q.1.2.2,λr H' h0 h1 T' k'=>kk _ _ (q.2 r h0 h1) _ H' T' k' (.int r)⟩
 ·exact q.elim
def spLaw(K:Ah):Sp:=λvs H Q _=>∃(a:Addr)(ns:List Int),vs=[.ref a]/\SqL K H a (ns.map V.int)/\ns.length<=63/\∀H',Q (.bl ai) H'
def n6:DEnds:={ nx:=λ_ _=>False,rt:=λw _=>w=.d (.bool ai)}
theorem Ur{a:V}(T:Tp H t l ns 0):Rel ⟨t,l,ns,H,λb=>b=t,λ_=>ah⟩ H (λb=>b=t) (ae a::ae (.ref t)::De k ah) (ah::ae (.w .tp)::De k ah) 0 where
 tp:=T
 kp:=Kp.refl _ _
 t0:=by
  obtain⟨_,_,h,_⟩:=T.ob;show H t≠ah;rw[h];exact λz=>nomatch z
 l0:=by
  show H l.s≠ah;rw[T.ls];exact λz=>nomatch z
 g0:=λe=>by
  show H l.g≠ah;rw[T.ag e];exact λz=>nomatch z
 fz:=λb o e=>nomatch e
 bt:=rfl
 b0:=λ_ z=>z
 ba:=λb z=>by
  obtain⟨_,_,h,_⟩:=T.ob;rw[z,h];exact λz=>nomatch z
 a0:=λb z=>by
  obtain⟨_,_,h,_⟩:=T.ob;show H b≠ah;rw[show b=t from z,h];exact λz=>nomatch z
 sl:=λi x e=>by
  rcases i with _|_|i
  ·cases e
  ·cases e;exact⟨_,rfl,rfl,λz=>by cases z⟩
  ·have e':(De k (ah:Option SV))[i]?=ae (ae x):=e;rw[Eh]at e'
   split at e'
   ·cases e'
   ·cases e'
 ow:=λi j x y v e1 e2 o1 o2 f1 f2=>by
  rcases i with _|_|i
  ·cases e1
  ·cases e1;cases o1
  ·have e':(De k (ah:Option SV))[i]?=ae (ae x):=e1;rw[Eh]at e'
   split at e'
   ·cases e'
   ·cases e'
 len:=by simp
theorem SO(F:Fun K "law" "law" st f fd)(Sc:FnScope N ["_law_script"] (dH st))
  (GT:FnOk P w K mg base dS 1 fT fdT ["_law_script"] (pH K)) (bT:Binds K fdT ["_law_script"] []) (mT:mg "_law_tape"=ae (.ref fT)) (kT:Cz K (.ref fT)=ai)
  (hN:∀v,start N [v]=ae v::ah::De (N.length-2) ah)
  (hW:W (ah::ae (.w .tp)::De (N.length-2) ah) 0 n6)
  (hbody:∀(cdv:Ak)(A:Cj)(outer:List Env)(s:Ap)(H:Hp)(E:XK),Room k (A.deeper (D7 "law" (dH st) s.heap.objs.size f cdv))->
   ∃s0 aR T,gP st=s0::aR/\PS (eE dS P w K mg base N "law" (dH st) f cdv A outer s H E).nox s0 (dE (jD (pH K) [] E0 (dB (cq 0) ck)) (g9 1))/\DSs (eE dS P w K mg base N "law" (dH st) f cdv A outer s H E).nox aR T W):
  FnOk P w K mg base dS (k+1) f fd ["_law_script"] (spLaw K):=by
 refine F.ok Sc (λvs H Q E h=>?_) (λcdv A outer s H vs Q E hr h=>?_)
 ·obtain⟨a,ns,rfl,_⟩:=h;rfl
 ·obtain⟨a,ns,rfl,hS,hl,kk⟩:=h;obtain⟨s0,aR,T,e,p0,d⟩:=hbody cdv A outer s H E hr;rw[e];refine⟨_,iT p0 d.ps,?_⟩;rw[hN];refine⟨_,rfl,a,ns,rfl,hS,hl,λt l H1 T1 _=>?_⟩;refine d.sd ⟨t,l,ns,H1,λb=>b=t,λ_=>ah⟩ H1 (λb=>b=t) _ _ 0 n6 _ (Ur (a:=.ref a) (k:=N.length-2) T1) hW ⟨?_,?_,?_,?_,λ_ _ _ _ _ _ _ _ _ _ _ _ _ z=>z.elim⟩
  ·exact λ_ _ _ _ _ _ z=>z.elim
  ·intro H B σ δ n v w R r z;have z:w=.d (.bool ai):=z;subst z;cases(show RdX H B v (.bool ai)from r);exact kk H
  ·exact λ_ _ _ _ _ _ z=>z.elim
  ·exact λ_ _ _ _ _ _ z=>z.elim
end
section
variable{X:Cx}{elt tg iter:Expr}{ifs:List Expr}{scope:Er}{cl:List (Str×Addr)}{cpos pos pos':Pos}{N:List Str}{fr:List (Option Nat)}{wi:TI}{v:gU}{g:TG}{gd:d9}{tt:TT}{cc:c6}{te:TE}{we:DT}{i:Nat}{x:Str}
theorem LQ(h:jV t w):kd (dE t (g9 i)) (bz i w):=λC H B σ δ n K D R q E=>
 h C H B σ δ n _ _ R q λa xs ds H1 n1 R1 k1 h0 h1 h2 h3 q1=>by
  refine E.nx _ _ _ _ _ (R.own R1 k1 h0 (by rw[h1];exact λz=>nomatch z) rfl ?_) q1;exact⟨a,xs,rfl,h1,.inr rfl,R.h0 h0,h2,h3⟩
theorem Mv(h:eY t w):kd (dE t (g9 i)) (aB i w):=λC H B σ δ n K D R q E=>
 h C H B σ δ n _ _ R q λv x H1 n1 R1 _ r1 q1=>by
  cases x with
  |d d=>exact E.nx _ _ _ _ _ (R1.set r1 rfl) q1
  |tp=>exact E.nx _ _ _ _ _ (R1.set r1 rfl) q1
  |dk _=>exact q1.elim
  |ln _=>exact q1.elim
  |ob _=>exact E.nx _ _ _ _ _ (R1.set r1 rfl) q1
theorem VG(hN:X.N.Nodup)(hix:X.N[i]?=ae x)(hx:X.env.scope.names.lookup x=ae .local)(hc:X.calm=ai)(S:CompSc X N scope cl fr)(hi:DI X tg iter wi v)(hg:∀s H fp,DG (dh X N scope cl s H fp) tg g gd)(ht:∀s H fp,DIf (dh X N scope cl s H fp) ifs tt cc)
  (he:∀s H fp,DE (dh X N scope cl s H fp) elt te we) (hno:kQ gd) (hs:∀x,D1 iter X.env x=pure x:=by intro _;rfl)
  (hsw:Dw (.ListComp elt [⟨tg,iter,ifs,0⟩] scope cpos) (ae (.Name x pos')) pos.line X.env=pure ai:=by rfl):
  DS X (.Assign [.Name x pos'] (.ListComp elt [⟨tg,iter,ifs,0⟩] scope cpos) pos) (dE (mz fr wi g tt te) (g9 i)) (bz i (cL fr v gd cc we)):=
 ⟨zy hN hix hx hc S hi.pi (λs H fp=>(hg s H fp).pg) (λs H fp=>(ht s H fp).pf) (λs H fp=>(he s H fp).pe) hs hsw,LQ (sT (pos:=cpos) hc S hi hg ht he hno hs).sd⟩
theorem VA(hN:X.N.Nodup)(hix:X.N[i]?=ae x)(hx:X.env.scope.names.lookup x=ae .local)(hc:X.calm=ai)(S:CompSc X N scope cl fr)(hi:DI X tg iter wi v)(hg:∀s H fp,DG (dh X N scope cl s H fp) tg g gd)(ht:∀s H fp,DIf (dh X N scope cl s H fp) ifs tt cc)
  (he:∀s H fp,DE (dh X N scope cl s H fp) elt te we) (hno:kQ gd) (hs:∀x,D1 iter X.env x=pure x:=by intro _;rfl)
  (hsw:Dw (.ListComp elt [⟨tg,iter,ifs,0⟩] scope cpos) (ae (.Name x pos')) pos.line X.env=pure ai:=by rfl):
  DS X (.Assign [.Name x pos'] (.ListComp elt [⟨tg,iter,ifs,0⟩] scope cpos) pos) (dE (mz fr wi g tt te) (g9 i)) (aB i (aZ (cL fr v gd cc we))):=
 ⟨zy hN hix hx hc S hi.pi (λs H fp=>(hg s H fp).pg) (λs H fp=>(ht s H fp).pf) (λs H fp=>(he s H fp).pe) hs hsw,Mv (sT (pos:=cpos) hc S hi hg ht he hno hs).d.sd⟩
end
section
variable{X:Cx}{tg a b c e:Expr}{ta tb tc te:TE}{wa wb wc we:DT}{pos p:Pos}{K:Ah}
theorem Rj(ha:DE X a ta wa)(hb:DE X b tb wb)(hK:X.K=K:=by rfl):DE X (.BinOp a .Add b pos) (d3 (ni K) ta tb) (w2 wa wb fD):=by subst hK;exact S2 ha hb
theorem ON(ha:DE X a ta wa)(hb:DE X b tb wb)(hK:X.K=K:=by rfl)(hs:mY b:=by exact λ_ _=>rfl):DE X (.Subscript a b pos) (d3 (kA K) ta tb) (w2 wa wb aA):=by subst hK;exact w6 ha hb hs
def vo(K:Ah)(T:String):List V->Hp->VK->Prop:=λxs H Q=>∃x t b,xs=[x,.ty T]/\TyOf K H x t/\PySem.W.kitOne K t (.type T)=ae b/\Q (.bl b) H
theorem Sa{p p2:Pos}(hT:T="int"\/T="bool"\/T="str"\/T="tuple"\/T="list")(hg:Gl X "isinstance")(hm:X.mg "isinstance"=ah)(hg2:Gl X x)(hm2:X.mg x=ah)(hv:By x=ae (.type T))(ha:DE X a ta wa)(hK:X.K=K:=by rfl)(hn:x≠"__name__":=by decide)(hdb:(x==("__debug__":Str))=aj:=by decide)
  (he:Au [a,.Name x p2] X.env=(aj,eval a X.env)::Au [.Name x p2] X.env:=by rfl) (he2:Au [.Name x p2] X.env=(aj,eval (.Name x p2) X.env)::Au [] X.env:=by rfl) (hpl:(Cy pos (Au [.Name x p2] X.env)).any (·.1)=aj:=by rfl):
  DE X (.Call (.Name "isinstance" p) [a,.Name x p2] [] pos) (fU (vo K T) (dB ta (dB (tC (.ty T)) ck))) (cb T wa):=by subst hK;exact Mn hT hg hm hg2 hm2 hv ha hn hdb he he2 hpl
def mj(K:Ah):R2:=λx y H Q=>sU x y H Q\/rJ x y H Q\/qE K x y H Q
theorem uM(hu:X.A.units < Eo)(hK:X.K=K:=by rfl):OpR X (Bx .Eq) (mj K):=by subst hK;exact MQ hu
theorem yC:bE (mj K) aT:=LY
theorem ur(hK:X.K=K:=by rfl):OpR X (Bx .In) (iO K aj):=by subst hK;exact Lf
theorem qB(hK:X.K=K:=by rfl):OpR X (Bx .NotIn) (iO K ai):=by subst hK;exact PN
def xN(K:Ah):List V->Hp->VK->Prop:=λxs H Q=>(∃z,xs=[.str z]/\z.length<=Az/\Q (.int z.length) H)\/∃p ys,xs=[.ref p]/\(SqL K H p ys\/SqT K H p ys)/\Q (.int ys.length) H
theorem Jc(hK:X.K=K:=by rfl):CallR X (.builtin "len") (xN K):=by subst hK;exact Rb
theorem DR:eJ (xN K) bj:=Sv
def xy(K:Ah):List V->Hp->VK->Prop:=λxs H Q=>∃p ys,xs=[.ref p]/\((SqL K H p ys/\∀l,H l=ah->Q (.ref l) (upd H l (.tup ys)))\/(SqT K H p ys/\Q (.ref p) H))
theorem yV(hK:X.K=K:=by rfl):CallR X (.type "tuple") (xy K):=by subst hK;exact Lr
theorem AZ:eJ (xy K) dY:=K0
def tU(K:Ah):List V->Hp->VK->Prop:=λxs H Q=>∃p ys,xs=[.ref p]/\(SqL K H p ys\/SqT K H p ys)/\∀l,H l=ah->Q (.ref l) (upd H l (.lst ys))
theorem GJ(hK:X.K=K:=by rfl):CallR X (.type "list") (tU K):=by subst hK;exact U7
theorem Lp:eJ (tU K) gG:=Mh
theorem JF(ha:DE X a ta wa)(hK:X.K=K:=by rfl):DI X tg a (ui K ta) (d5 wa):=by subst hK;exact S7 ha
theorem Tf(ha:DE X a ta wa)(hK:X.K=K:=by rfl):DI X tg a (lV K ta) (eQ wa):=by subst hK;exact RS ha
theorem LK{k:Nat}{n:Nat}(h:DGs X es t r)(hc:X.calm=ai:=by rfl)(hK:X.K=K:=by rfl)
  (hn:(Dc es X.env).length=n:=by rfl) (hst:(Dc es X.env).findIdx? (·.1)=ah:=by rfl):DG X (.Tuple es k pos) (jX K n t) (du n r):=by subst hK;exact Ot h hc hn hst
end
end DL
local macro_rules|`(⇑$n:num)=>`(DL.wC (.int $n))
local macro_rules|`(↥$n:num)=>`(DL.ak $n)
namespace KS
open PySem PySem.W PyProof.Rows
def run{α:Type}(c:Nat->Nat->Bool):KasT α->α
 |.ret a=>a
 |.ask i j k=>run c (k (c i j))
theorem nI(c)(f:α->KasT β):∀t:KasT α,run c (t.bind f)=run c (f (run c t))
 |.ret _=>rfl
 |.ask i j k=>nI c f (k (c i j))
def Wi{α:Type}(n:Nat)(P:α->Prop):KasT α->Prop
 |.ret a=>P a
 |.ask i j k=>i < n/\j < n/\∀b,Wi n P (k b)
theorem Wi.bind{f:α->KasT β}(hf:∀a,P a->Wi n R (f a)):∀{t:KasT α},Wi n P t->Wi n R (t.bind f)
 |.ret a,h=>hf a h
 |.ask i j k,h=>⟨h.1,h.2.1,λb=>Wi.bind hf (h.2.2 b)⟩
theorem Wi.out(c):∀{t:KasT α},Wi n P t->P (run c t)
 |.ret a,h=>h
 |.ask i j k,h=>Wi.out c (t:=k (c i j)) (h.2.2 (c i j))
theorem wp_run{St:Ap->Prop}
  (hc:∀i j C s,i < n->j < n->St s->(∀s',St s'->C (c i j) s')->cmp i j C s):∀(t:KasT α)(s:Ap),Wi n P t->St s->(∀s',St s'->Q (run c t) s')->t.kasWp cmp Q s
 |.ret a,s,_,hs,h=>h s hs
 |.ask i j k,s,w,hs,h=>hc i j _ s w.1 w.2.1 hs λs' hs'=>wp_run hc (k (c i j)) s' (w.2.2 _) hs' h
def Lo(n:Nat)(p:Array Nat):Prop:=∀i,p.getD i 0 < n
theorem lu(p:Array Nat)(i):p.getD i 0=(p[i]?).getD 0:=by simp
theorem UO(hn:0 < n)(h:∀x∈p,x < n):Lo n p:=λi=>by
 rw[lu];cases e:p[i]? with
 |none=>exact hn
 |some x=>exact h x (Array.mem_of_getElem? e)
def Pm(n:Nat)(p:Array Nat):Prop:=p.Perm (C6 (A3 n))
theorem Pm.size(h:Pm n p):p.size=n:=by rw[Array.Perm.size_eq h];simp
theorem Pm.lo(hn:0 < n)(h:Pm n p):Lo n p:=UO hn λx hx=>by
 have:x∈C6 (A3 n):=(Array.Perm.mem_iff h).mp hx;simpa using this
theorem Pm.rev(h:Pm n p)(i j):Pm n (Ef p i j):=(mirror_perm p i j _).trans h
theorem Pm.bub(h:Pm n p)(i j):Pm n (bubble p i j):=(bubble_perm p i j).trans h
section
variable{n:Nat}(hn:0 < n)
include hn
theorem va(h:Lo n p):∀f m,Wi n (λ_=>True) (kas_asc p f m)
 |0,m=>trivial
 |f+1,m=>⟨h _,h _,λb=>by
  cases b with
  |true=>exact trivial
  |false=>exact va h f (m+1)⟩
theorem qS:∀f (p:Array Nat) m q,Pm n p->Wi n (λr=>Pm n r.1) (kas_desc f p m q)
 |0,p,m,q,h=>h
 |f+1,p,m,q,h=>⟨h.lo hn _,h.lo hn _,λb=>by
  cases b with
  |true=>
   show Wi n _ (if q > 0 then _ else _)
   split
   ·exact qS f _ _ _ (h.rev _ _)
   ·exact qS f _ _ _ h
  |false=>exact⟨h.lo hn _,h.lo hn _,λd=>by
    cases d with
    |true=>exact h
    |false=>exact qS f _ _ _ h⟩⟩
theorem Hz(m nrem)(h:Pm n p):Wi n (λr=>Pm n r.2) (kas_tail3 m nrem p):=by
 unfold kas_tail3;refine Wi.bind (P:=λ_=>True) (λa _=>?_) (va hn ((h.rev 0 m).lo hn) _ _);show Pm n (Ef p 0 m);exact h.rev _ _
theorem GL(m nrem)(h:Pm n p):Wi n (λr=>Pm n r.2) (kas_descPart m nrem p):=
 Wi.bind (λr hr=>by
  show Wi n _ (if r.2.2 > 0 then _ else _)
  split
  ·exact Hz hn _ _ (Pm.rev hr _ _)
  ·exact Hz hn _ _ hr) (qS hn _ p _ _ h)
theorem Vr(nrem)(h:Pm n p):Wi n (λr=>Pm n r.2) (kas_count nrem p):=
 Wi.bind (λm _=>by
  show Wi n _ (if (m==nrem)=ai then _ else if m > 1 then _ else _)
  split
  ·exact h
  ·split
   ·exact⟨h.lo hn _,h.lo hn _,λb=>by
     cases b with
     |true=>exact h
     |false=>exact GL hn _ _ (h.rev _ _)⟩
   ·exact GL hn _ _ h) (va hn (h.lo hn) _ _)
theorem yy(h:Lo n p)(k):∀f l r,Wi n (λ_=>True) (kas_place p k f l r)
 |0,l,r=>trivial
 |f+1,l,r=>by
  show Wi n _ (if l ≥ r then _ else _)
  split
  ·exact trivial
  ·exact⟨h _,h _,λb=>by
    cases b with
    |true=>exact yy h k f _ _
    |false=>exact yy h k f _ _⟩
theorem Iv:∀f (p:Array Nat) k,Pm n p->Wi n (Pm n) (kas_bin f p k)
 |0,p,k,h=>h
 |f+1,p,k,h=>Wi.bind (λl _=>Iv f _ _ (h.bub _ _)) (yy hn (h.lo hn) k _ _ _)
theorem wi_sort:Wi n (Pm n) (kas_sort n):=
 Wi.bind (λr hr=>by
  show Wi n _ (if r.1 < n then _ else _)
  split
  ·exact Iv hn _ _ _ hr
  ·exact hr) (Vr hn n (Array.Perm.refl _))
end
structure Ord(lt:Nat->Nat->Bool):Prop where
 asym:∀i j,lt i j=ai->lt j i=aj
 ltr:∀i j k,lt j i=aj->lt k j=aj->lt k i=aj
section
variable{lt:Nat->Nat->Bool}(O:Ord lt)
def g(p:Array Nat)(i:Nat):Nat:=p.getD i 0
def SP(lt:Nat->Nat->Bool)(p:Array Nat)(n:Nat):Prop:=∀i j,i < j->j < n->lt (g p j) (g p i)=aj
def DP(lt:Nat->Nat->Bool)(p:Array Nat)(n:Nat):Prop:=∀i j,i < j->j < n->lt (g p i) (g p j)=aj
def Sim(lt:Nat->Nat->Bool)(x y:Nat):Prop:=lt x y=aj/\lt y x=aj
include O
theorem jy(i):lt i i=aj:=by
 cases e:lt i i with
 |false=>rfl
 |true=>exact(O.asym i i e).symm.trans e |>.symm▸rfl
theorem Sim.eq(h1:Sim lt a x)(h2:Sim lt b y):lt a b=lt x y:=by
 cases e:lt x y with
 |false=>exact O.ltr _ _ _ h2.2 (O.ltr _ _ _ e h1.1)
 |true=>
  cases e2:lt a b with
  |true=>rfl
  |false=>
   have:lt x y=aj:=O.ltr _ _ _ h2.1 (O.ltr _ _ _ e2 h1.2);rw[this]at e;cases e
theorem SP.snoc(h:SP lt p n)(h1:1<=n)(e:lt (g p n) (g p (n-1))=aj):SP lt p (n+1):=λi j hij hj=>by
 by_cases q:j < n
 ·exact h i j hij q
 ·have:j=n:=by omega
  subst this;by_cases r:i=j-1
  ·subst r;exact e
  ·exact O.ltr _ _ _ (h i (j-1) ⋯ ⋯) e
theorem vB:∀f n,1<=n->SP lt p n->n<=run lt (kas_asc p f n)/\run lt (kas_asc p f n)<=n+f/\SP lt p (run lt (kas_asc p f n))/\(run lt (kas_asc p f n)=n+f\/lt (g p (run lt (kas_asc p f n))) (g p (run lt (kas_asc p f n)-1))=ai)
 |0,n,h1,h=>⟨An _,An _,h,.inl rfl⟩
 |f+1,n,h1,h=>by
  have e:run lt (kas_asc p (f+1) n)=run lt (if lt (g p n) (g p (n-1))=ai then .ret n else kas_asc p f (n+1)):=rfl;rw[e];cases q:lt (g p n) (g p (n-1))with
  |true=>exact⟨An _,Nat.le_add_right _ _,h,.inr q⟩
  |false=>
   rw[if_neg Ae];obtain⟨a1,a2,a3,a4⟩:=vB f (n+1) ⋯ (SP.snoc O h h1 q);exact⟨by omega,by omega,a3,a4.imp (λz=>by omega) id⟩
omit O
theorem uk(hj:j<=p.size)(k):g (Ef p i j) k=if i<=k/\k < j then g p (i+j-1-k)else g p k:=by
 unfold g Ef;rw[lu,lu,lu,getElem?_mirror hj _ ⋯];by_cases h:i<=k/\k < j
 ·rw[if_pos h];by_cases q:(i<=k/\k < i+(j-i) / 2)\/(j-(j-i) / 2<=k/\k < j)
  ·rw[if_pos q]
  ·rw[if_neg q];have:i+j-1-k=k:=by omega
   rw[this]
 ·rw[if_neg h,if_neg ⋯]
include O
theorem uo(hj:j<=p.size)(h:∀a b,i<=a->a < j->i<=b->b < j->Sim lt (g p a) (g p b))(k):Sim lt (g (Ef p i j) k) (g p k):=by
 rw[uk hj]
 split
 ·rename_i q;exact h _ _ ⋯ ⋯ q.1 q.2
 ·exact⟨jy O _,jy O _⟩
theorem DP.sim(h:DP lt p n)(s:∀k,Sim lt (g p' k) (g p k)):DP lt p' n:=λi j hij hj=>(Sim.eq O (s i) (s j)).trans (h i j hij hj)
theorem DP.snoc(h:DP lt p n)(h1:1<=n)(e:lt (g p (n-1)) (g p n)=aj):DP lt p (n+1):=λi j hij hj=>by
 by_cases q:j < n
 ·exact h i j hij q
 ·have:j=n:=by omega
  subst this;by_cases r:i=j-1
  ·subst r;exact e
  ·exact O.ltr _ _ _ e (h i (j-1) ⋯ ⋯)
omit O
def vd(lt:Nat->Nat->Bool)(sz n f:Nat)(r:Array Nat×Nat×Nat):Prop:=
 r.1.size=sz/\n<=r.2.1/\r.2.1<=n+f/\r.2.2+1<=r.2.1/\DP lt r.1 r.2.1/\(∀a b,r.2.1-(r.2.2+1)<=a->a < r.2.1->r.2.1-(r.2.2+1)<=b->b < r.2.1->Sim lt (g r.1 a) (g r.1 b))
def kc(lt:Nat->Nat->Bool)(sz nrem:Nat)(r:Nat×Array Nat):Prop:=r.2.size=sz/\1<=r.1/\r.1<=nrem/\SP lt r.2 r.1
def uK(lt:Nat->Nat->Bool)(p:Array Nat)(k m:Nat):Prop:=m<=k/\(∀i,i < m->lt (g p k) (g p i)=aj)/\(∀i,m<=i->i < k->lt (g p k) (g p i)=ai)
include O
theorem qH:∀f (p:Array Nat) n q,q+1<=n->n+f<=p.size->DP lt p n->(∀a b,n-(q+1)<=a->a < n->n-(q+1)<=b->b < n->Sim lt (g p a) (g p b))->
  vd lt p.size n f (run lt (kas_desc f p n q))
 |0,p,n,q,h1,h2,h3,h4=>⟨rfl,An _,An _,h1,h3,h4⟩
 |f+1,p,n,q,h1,h2,h3,h4=>by
  have one:∀(p':Array Nat)(m:Nat)(a b:Nat),m+1-(0+1)<=a->a < m+1->m+1-(0+1)<=b->b < m+1->Sim lt (g p' a) (g p' b):=λp' m a b ha ha' hb hb'=>by
   have e1:a=m:=by omega
   have e2:b=m:=by omega
   rw[e1,e2];exact⟨jy O _,jy O _⟩
  show vd lt p.size n (f+1) (run lt (if lt (g p n) (g p (n-1))=ai then(if q > 0 then kas_desc f (Ef p (n-(q+1)) n) (n+1) 0 else kas_desc f p (n+1) 0)else .ask (p.getD (n-1) 0) (p.getD n 0) λd=>if d=ai then .ret (p,n,q)else kas_desc f p (n+1) (q+1)));cases c1:lt (g p n) (g p (n-1))with
  |true=>
   rw[if_pos rfl];by_cases hq:q > 0
   ·rw[if_pos hq];have sim:=uo O (p:=p) (i:=n-(q+1)) (j:=n) ⋯ h4;have hd:DP lt (Ef p (n-(q+1)) n) (n+1):=DP.sim O (DP.snoc O h3 ⋯ (O.asym _ _ c1)) sim;have hs:(Ef p (n-(q+1)) n).size=p.size:=mirror_size _ _ _ _;obtain⟨a1,a2,a3,a4,a5,a6⟩:=qH f (Ef p (n-(q+1)) n) (n+1) 0 ⋯ (by rw[hs];omega) hd (one _ n);exact⟨a1.trans hs,by omega,by omega,a4,a5,a6⟩
   ·rw[if_neg hq];obtain⟨a1,a2,a3,a4,a5,a6⟩:=qH f p (n+1) 0 ⋯ ⋯ (DP.snoc O h3 ⋯ (O.asym _ _ c1)) (one _ n);exact⟨a1,by omega,by omega,a4,a5,a6⟩
  |false=>
   rw[if_neg Ae];show vd lt p.size n (f+1) (run lt (if lt (g p (n-1)) (g p n)=ai then .ret (p,n,q)else kas_desc f p (n+1) (q+1)));cases c2:lt (g p (n-1)) (g p n)with
   |true=>exact⟨rfl,An _,by show n<=n+(f+1);omega,h1,h3,h4⟩
   |false=>
    rw[if_neg Ae];have s1:Sim lt (g p n) (g p (n-1)):=⟨c1,c2⟩;have tr:∀{x y z:Nat},Sim lt x y->Sim lt y z->Sim lt x z:=λh h'=>⟨O.ltr _ _ _ h'.1 h.1,O.ltr _ _ _ h.2 h'.2⟩;obtain⟨a1,a2,a3,a4,a5,a6⟩:=qH f p (n+1) (q+1) ⋯ ⋯ (DP.snoc O h3 ⋯ c2) (λa b ha ha' hb hb'=>by
     have key:∀x,n+1-(q+1+1)<=x->x < n+1->Sim lt (g p x) (g p (n-1)):=λx hx hx'=>by
      by_cases e:x=n
      ·rw[e];exact s1
      ·exact h4 x (n-1) ⋯ ⋯ ⋯ ⋯
     have kb:=key b hb hb';exact tr (key a ha ha') ⟨kb.2,kb.1⟩)
    exact⟨a1,by omega,by omega,a4,a5,a6⟩
theorem Jr(h1:1<=n)(hn:n<=nrem)(hz:nrem<=p.size)(h:DP lt p n):kc lt p.size nrem (run lt (kas_tail3 n nrem p)):=by
 unfold kas_tail3;rw[nI];have hs:(Ef p 0 n).size=p.size:=mirror_size _ _ _ _;have sp:SP lt (Ef p 0 n) n:=λi j hij hj=>by
  rw[uk ⋯,uk ⋯,if_pos ⟨Bm _,hj⟩,if_pos ⟨Bm _,by omega⟩];exact h _ _ ⋯ ⋯
 obtain⟨a1,a2,a3,_⟩:=vB O (p:=Ef p 0 n) (nrem-n) n h1 sp;exact⟨hs,by show 1<=run lt (kas_asc (Ef p 0 n) (nrem-n) n);omega,by show run lt (kas_asc (Ef p 0 n) (nrem-n) n)<=nrem;omega,a3⟩
theorem zr(h1:1<=n)(hn:n+1<=nrem)(hz:nrem<=p.size)(h:DP lt p (n+1)):kc lt p.size nrem (run lt (kas_descPart n nrem p)):=by
 unfold kas_descPart;rw[nI];obtain⟨a1,a2,a3,a4,a5,a6⟩:=qH O (nrem-(n+1)) p (n+1) 0 ⋯ ⋯ h (λa b ha ha' hb hb'=>by
  have e1:a=n:=by omega
  have e2:b=n:=by omega
  rw[e1,e2];exact⟨jy O _,jy O _⟩)
 generalize run lt (kas_desc (nrem-(n+1)) p (n+1) 0)=r at a1 a2 a3 a4 a5 a6;by_cases hq:r.2.2 > 0
 ·rw[if_pos hq];have hs:(Ef r.1 (r.2.1-(r.2.2+1)) r.2.1).size=r.1.size:=mirror_size _ _ _ _;obtain⟨b1,b2⟩:=Jr O (p:=Ef r.1 (r.2.1-(r.2.2+1)) r.2.1) (n:=r.2.1) (nrem:=nrem) ⋯ ⋯ (by rw[hs];omega) (DP.sim O a5 (uo O ⋯ a6));exact⟨b1.trans (hs.trans a1),b2⟩
 ·rw[if_neg hq];obtain⟨b1,b2⟩:=Jr O (p:=r.1) (n:=r.2.1) (nrem:=nrem) ⋯ ⋯ ⋯ a5;exact⟨b1.trans a1,b2⟩
theorem Lk(h1:1<=nrem)(hz:nrem<=p.size):kc lt p.size nrem (run lt (kas_count nrem p)):=by
 unfold kas_count;rw[nI];obtain⟨a1,a2,a3,a4⟩:=vB O (p:=p) (nrem-1) 1 (An _) (λi j hij hj=>by omega);generalize run lt (kas_asc p (nrem-1) 1)=m at a1 a2 a3 a4;by_cases q:(m==nrem)=ai
 ·rw[if_pos q];exact⟨rfl,a1,by show m<=nrem;omega,a3⟩
 ·rw[if_neg q];have hm:m≠nrem:=λz=>q (by rw[z];exact beq_self_eq_true _);have a4:lt (g p m) (g p (m-1))=ai:=a4.resolve_left ⋯;by_cases hm1:m > 1
  ·rw[if_pos hm1];show kc lt p.size nrem (run lt (if lt (g p 0) (g p (m-1))=ai then .ret (m,p)else kas_descPart m nrem (Ef p 0 m)));cases c:lt (g p 0) (g p (m-1))with
   |true=>exact⟨rfl,a1,by show m<=nrem;omega,a3⟩
   |false=>
    rw[if_neg Ae];have hs:(Ef p 0 m).size=p.size:=mirror_size _ _ _ _;have up:∀a b,a < m->b < m->lt (g p b) (g p a)=aj:=λa b ha hb=>by
     have le0:lt (g p a) (g p 0)=aj:=by
      by_cases z:a=0
      ·rw[z];exact jy O _
      ·exact a3 0 a ⋯ ha
     have leb:lt (g p (m-1)) (g p b)=aj:=by
      by_cases z:b=m-1
      ·rw[z];exact jy O _
      ·exact a3 b (m-1) ⋯ ⋯
     have l1:lt (g p b) (g p 0)=aj:=by
      by_cases z:b=0
      ·rw[z];exact jy O _
      ·exact a3 0 b ⋯ hb
     have l2:lt (g p 0) (g p a)=aj:=O.ltr _ _ _ (by
      by_cases z:a=m-1
      ·rw[z];exact jy O _
      ·exact a3 a (m-1) ⋯ ⋯) c
     exact O.ltr _ _ _ l2 l1
    have all:∀a b,0<=a->a < m->0<=b->b < m->Sim lt (g p a) (g p b):=λa b _ ha _ hb=>⟨up b a hb ha,up a b ha hb⟩;have sim:=uo O (p:=p) (i:=0) (j:=m) ⋯ all;have dp:DP lt p (m+1):=DP.snoc O (λi j hij hj=>up j i hj ⋯) a1 (O.asym _ _ a4);obtain⟨b1,b2⟩:=zr O (p:=Ef p 0 m) (n:=m) (nrem:=nrem) a1 ⋯ (by rw[hs];omega) (DP.sim O dp sim);exact⟨b1.trans hs,b2⟩
  ·rw[if_neg hm1];have e:m=1:=by omega
   subst e;exact zr O (p:=p) (An _) ⋯ hz (DP.snoc O (λi j hij hj=>by omega) (An _) (O.asym _ _ a4))
theorem vY(h:SP lt p k):∀f l r,l<=r->r<=k->r-l<=f->(∀i,i < l->lt (g p k) (g p i)=aj)->(∀i,r<=i->i < k->lt (g p k) (g p i)=ai)->
  uK lt p k (run lt (kas_place p k f l r))
 |0,l,r,hlr,hr,hf,h1,h2=>by
  have e:l=r:=by omega
  subst e;exact⟨hr,h1,h2⟩
 |f+1,l,r,hlr,hr,hf,h1,h2=>by
  show uK lt p k (run lt (if l ≥ r then .ret l else .ask (p.getD k 0) (p.getD ((l+r) / 2) 0) λc=>if c=ai then kas_place p k f l ((l+r) / 2)else kas_place p k f ((l+r) / 2+1) r));by_cases q:l ≥ r
  ·rw[if_pos q];have e:l=r:=by omega
   subst e;exact⟨hr,h1,h2⟩
  ·rw[if_neg q];show uK lt p k (run lt (if lt (g p k) (g p ((l+r) / 2))=ai then kas_place p k f l ((l+r) / 2)else kas_place p k f ((l+r) / 2+1) r));cases c:lt (g p k) (g p ((l+r) / 2))with
   |true=>
    rw[if_pos rfl];refine vY h f l ((l+r) / 2) ⋯ ⋯ ⋯ h1 λi hi hik=>?_;by_cases e:i=(l+r) / 2
    ·rw[e];exact c
    ·cases z:lt (g p k) (g p i)with
     |true=>rfl
     |false=>
      have:=O.ltr _ _ _ (h ((l+r) / 2) i ⋯ hik) z;rw[this]at c;cases c
   |false=>
    rw[if_neg Ae];refine vY h f ((l+r) / 2+1) r ⋯ hr ⋯ (λi hi=>?_) h2;by_cases e:i=(l+r) / 2
    ·rw[e];exact c
    ·exact O.ltr _ _ _ (h i ((l+r) / 2) ⋯ ⋯) c
omit O
theorem IK(hk:k < p.size)(hl:l<=k)(i):g (bubble p k (k-l)) i=if i=l then g p k else if l < i/\i<=k then g p (i-1)else g p i:=by
 unfold g;rw[lu,getElem?_bubble hk _ ⋯,lu,lu,lu];have e:k-(k-l)=l:=by omega
 rw[e];by_cases h1:i=l
 ·rw[if_pos h1,if_pos h1]
 ·rw[if_neg h1,if_neg h1];by_cases h2:l < i/\i<=k
  ·rw[if_pos h2,if_pos h2]
  ·rw[if_neg h2,if_neg h2]
include O
theorem BI:∀f (p:Array Nat) k,1<=k->k+f<=p.size->SP lt p k->SP lt (run lt (kas_bin f p k)) (k+f)
 |0,p,k,h1,hz,h=>h
 |f+1,p,k,h1,hz,h=>by
  show SP lt (run lt ((kas_place p k k 0 k).bind λl=>kas_bin f (bubble p k (k-l)) (k+1))) (k+(f+1));rw[nI];obtain⟨b1,b2,b3⟩:=vY O h k 0 k (Bm _) (An _) ⋯ (λi hi=>by omega) (λi hi hi'=>by omega);generalize run lt (kas_place p k k 0 k)=l at b1 b2 b3;have sp:SP lt (bubble p k (k-l)) (k+1):=λi j hij hj=>by
   rw[IK ⋯ b1,IK ⋯ b1];by_cases e1:j=l
   ·rw[if_pos e1,if_neg ⋯,if_neg ⋯];exact b2 i ⋯
   ·rw[if_neg e1];by_cases e2:l < j/\j<=k
    ·rw[if_pos e2];by_cases e3:i=l
     ·rw[if_pos e3];exact O.asym _ _ (b3 (j-1) ⋯ ⋯)
     ·rw[if_neg e3];by_cases e4:l < i/\i<=k
      ·rw[if_pos e4];exact h (i-1) (j-1) ⋯ ⋯
      ·rw[if_neg e4];exact h i (j-1) ⋯ ⋯
    ·rw[if_neg e2,if_neg ⋯,if_neg ⋯];exact h i j hij ⋯
  have:=BI f (bubble p k (k-l)) (k+1) ⋯ (by rw[bubble_size];omega) sp;have e:k+1+f=k+(f+1):=by omega
  rwa [e]at this
theorem sort_ok(h1:1<=n):SP lt (run lt (kas_sort n)) n:=by
 unfold kas_sort;rw[nI];obtain⟨a1,a2,a3,a4⟩:=Lk O (p:=C6 (A3 n)) (nrem:=n) h1 (by simp);generalize run lt (kas_count n (C6 (A3 n)))=r at a1 a2 a3 a4;have hs:r.2.size=n:=by rw[a1];simp
 by_cases q:r.1 < n
 ·rw[if_pos q];have e:max r.1 1=r.1:=by omega
  rw[e];have:=BI O (n-r.1) r.2 r.1 a2 ⋯ a4;have e2:r.1+(n-r.1)=n:=by omega
  rwa [e2]at this
 ·rw[if_neg q];have e:r.1=n:=by omega
  rw[e]at a4;exact a4
end
end KS
namespace KS
open PySem PySem.W PySem.Calls PyProof.Rows
section
variable{prog:Bg}{w:B3}{A:Cj}{E:Ak->Ap->Prop}{s:Ap}{a:Addr}{vs:List Ak}
theorem ls_sort(ho:s.heap.get? a=ae (Ci "list" vs.toArray n))(h2:2<=vs.length)(h64:vs.length < 64)
  (h:∀e1 h',h'.get? a=ae (Ci "list" #[] e1)->(∀b o,b≠a->s.heap.get? b=ae o->h'.get? b=ae o)->
   A9 (Bh prog w) A (keyKind' vs.toArray) (λκ s'=>(kas_sort vs.length).kasWp (kas_ask prog w A κ vs)
    (λp s''=>s''.heap.get? a=ae (Ci "list" #[] e1)/\∀h3 c,Ed a s''.heap h3->h3.get? a=ae (Ci "list" (C6 (p.toList.map λi=>vs.getD i Bu)) c)->P (.done (.ret .none)) {s'' with heap:=h3}) s') (λ_ _=>False) {s with heap:=h'}):
  A9 (Bh prog w) A (Builtin.«list.sort» ⟨[.ref a],[]⟩) P E s:=by
 have ha:a < s.heap.objs.size:=A0 ho;have s1:=Dr s.heap a (Cs λ_=>(#[]:Array Ak));obtain⟨e1,ho1⟩:∃e1,(s.heap.update a (Cs λ_=>(#[]:Array Ak))).get? a=ae (Ci "list" #[] e1):=⟨_,Gm ho λ_=>#[]⟩;have ask:=h e1 (((s.heap.update a (Cs λ_=>(#[]:Array Ak))).push (Ci "tuple" vs.toArray 0)).push (Ci "list" #[] 0)) (Ag _ (Ag _ ho1))
  λb o hb e=>Ag _ (Ag _ ((s1.2 b hb).trans e))
 rw[list_sort_plain];refine Ad (listItems_at ho rfl ?_);refine Ad (listUpdate_at ho rfl ?_ (by rw[A1,Ew];omega) (Bm _));refine Ad (seqEpoch_at ho1 rfl ?_);refine Ad (wpAny_newTuple ?_ (by show vs.length<=_;rw[Ew];omega));refine Ad (wpAny_newList ?_ (Bm _));refine Dy ?_;show A9 (Bh prog w) A _ P E {s with heap:=((s.heap.update a (Cs λ_=>(#[]:Array Ak))).push (Ci "tuple" vs.toArray 0)).push (Ci "list" #[] 0)};dsimp only;have hn2:¬vs.toArray.size < 2:=by rw[A1];omega
 rw[if_neg hn2,if_neg hn2];refine Ad (Dh ask (λκ s0 hk=>?_) λ_ _ x=>x.elim);refine Ad (Dh (kat_run (Q:=λst' s'=>∃p:Array Nat,p.size=vs.length/\arrOf st'=p.map (kas_item (vs.toArray.zip vs.toArray))/\failedOf st'=ah/\s'.heap.get? a=ae (Ci "list" #[] e1)/\∀h3 c,Ed a s'.heap h3->h3.get? a=ae (Ci "list" (C6 (p.toList.map λi=>vs.getD i Bu)) c)->P (.done (.ret .none)) {s' with heap:=h3})
  rfl h2 h64 (λp' st' s' a1 a2 a3 a4=>⟨p',a1,a2,a3,a4⟩) hk) ?_ λ_ _ e=>e)
 rintro⟨⟨⟩,st'⟩ s' ⟨p,hp,har,hf,na,k⟩
 dsimp only;have hout:=kat_snds rfl har;have hsz:(C6 (p.toList.map λi=>vs.getD i Bu)).size=vs.length:=by rw[A1,Ab,Df,hp]
 rw[hout];have s2:=Dr s'.heap a (Cs λ_=>C6 (p.toList.map λi=>vs.getD i Bu));obtain⟨c2,hc2⟩:∃c2,(s'.heap.update a (Cs λ_=>C6 (p.toList.map λi=>vs.getD i Bu))).get? a=ae (Ci "list" (C6 (p.toList.map λi=>vs.getD i Bu)) c2):=⟨_,Gm na λ_=>C6 (p.toList.map λi=>vs.getD i Bu)⟩;refine Ad (seqEpoch_at na rfl ?_);refine Ad (listUpdate_at na rfl ?_ (Bm _) (A2 (Nat.le_of_eq hsz) (by rw[Ew];omega)));rw[hf];simp only[bne_self_eq_false,Fv,if_false];exact Ay (k _ c2 s2 hc2)
theorem ls_short(ho:s.heap.get? a=ae (Ci "list" vs.toArray n))(h2:vs.length < 2)
  (h:∀h' c,h'.get? a=ae (Ci "list" vs.toArray c)->(∀b o,b≠a->s.heap.get? b=ae o->h'.get? b=ae o)->P (.done (.ret .none)) {s with heap:=h'}):
  A9 (Bh prog w) A (Builtin.«list.sort» ⟨[.ref a],[]⟩) P E s:=by
 have ha:a < s.heap.objs.size:=A0 ho;have s1:=Dr s.heap a (Cs λ_=>(#[]:Array Ak));obtain⟨e1,ho1⟩:∃e1,(s.heap.update a (Cs λ_=>(#[]:Array Ak))).get? a=ae (Ci "list" #[] e1):=⟨_,Gm ho λ_=>#[]⟩;have ho6:(((s.heap.update a (Cs λ_=>(#[]:Array Ak))).push (Ci "tuple" vs.toArray 0)).push (Ci "list" #[] 0)).get? a=ae (Ci "list" #[] e1):=Ag _ (Ag _ ho1);rw[list_sort_plain];refine Ad (listItems_at ho rfl ?_);refine Ad (listUpdate_at ho rfl ?_ (by rw[A1,Ew];omega) (Bm _));refine Ad (seqEpoch_at ho1 rfl ?_);refine Ad (wpAny_newTuple ?_ (by show vs.length<=_;rw[Ew];omega));refine Ad (wpAny_newList ?_ (Bm _));refine Dy ?_;show A9 (Bh prog w) A _ P E {s with heap:=((s.heap.update a (Cs λ_=>(#[]:Array Ak))).push (Ci "tuple" vs.toArray 0)).push (Ci "list" #[] 0)};dsimp only;have hn2:vs.toArray.size < 2:=by rw[A1];omega
 rw[if_pos hn2,if_pos hn2];refine Ad (Ay ?_);rw[StateT.run_pure];refine Ad (Ay ?_);dsimp only;refine Ad (seqEpoch_at ho6 rfl ?_);refine Ad (listUpdate_at ho6 rfl ?_ (hsz2:=by rw[Array.size_map];show(pairsOf vs).size<=_;rw[pairsOf_size,Ew];omega));simp only[bne_self_eq_false,Fv,if_false];have e:(arrOf (SortSt.mk' general' (vs.toArray.zip vs.toArray) #[] 7 ah)).map (·.2)=vs.toArray:=by
  show(vs.toArray.zip vs.toArray).map (·.2)=vs.toArray;apply Array.toList_inj.mp;simp only[Array.toList_map,Array.toList_zip];exact List.map_snd_zip (An _)
 have s2:=Dr (((s.heap.update a (Cs λ_=>(#[]:Array Ak))).push (Ci "tuple" vs.toArray 0)).push (Ci "list" #[] 0)) a (Cs λ_=>(arrOf (SortSt.mk' general' (vs.toArray.zip vs.toArray) #[] 7 ah)).map (·.2));refine Ay (h _ _ (by rw[e];exact Gm ho6 λ_=>vs.toArray) λb o hb q=>(s2.2 b hb).trans (Ag _ (Ag _ ((s1.2 b hb).trans q))))
theorem sorted_of(hcol:A9 (Bh prog w) A.in1 (collect r) R E s)
  (h:∀vs s1,R vs s1->vs.length<=Az/\A9 (Bh prog w) A.in1.in1 (Builtin.«list.sort» ⟨[.ref s1.heap.objs.size],[]⟩) (λf s2=>f=.done (.ret .none)/\Q (.ref s1.heap.objs.size) s2) E {s1 with heap:=s1.heap.push (Ci "list" vs.toArray 0)}):
  A9 (Bh prog w) A (call (.builtin "sorted") [r]) Q E s:=by
 refine Calls.call_function_entry kind_sorted plain_sorted entry_sorted (args_sorted1 _) ?_;unfold Builtin.«sorted»;refine Ad (m:=checkCount "sorted" 1 1 _) (Ay ?_);refine Ad (Dh hcol (λvs s1 hr=>?_) λ_ _ e=>e);obtain⟨hl,hs⟩:=h vs s1 hr;refine Ad (wpAny_newList ?_ hl);have hoL:(s1.heap.push (Ci "list" vs.toArray 0)).get? s1.heap.objs.size=ae (Ci "list" vs.toArray 0):=A5 _ rfl;refine Ad (Dy (D6 (s:={ s1 with heap:=s1.heap.push (Ci "list" vs.toArray 0)}) slot_list_sort ⟨_,hoL,rfl⟩ entry_list_sort ?body (args_list_sort _)))
 case body=>
  refine Dh hs (λf s2 hf=>?_) λ_ _ e=>e;obtain⟨rfl,hq⟩:=hf;exact⟨_,rfl,Ay ⟨_,rfl,hq⟩⟩
def ItsOk(h:Heap)(as:List Addr)(ks:List Str)(xs:List Ak):Prop:=
 as.length=ks.length/\as.length=xs.length/\∀(j:Nat)(a:Addr),as[j]?=ae a->∃k t x,ks[j]?=ae k/\xs[j]?=ae x/\h.get? a=ae {cls:=.type "tuple",data:=.seq #[.str k t,x]}
def ltK(ks:List Str)(i j:Nat):Bool:=decide ((ks.getD i ⟨#[]⟩).cps.toList < (ks.getD j ⟨#[]⟩).cps.toList)
theorem Uv(x y:List Nat)(h:x < y):¬y < x:=λz=>List.lt_irrefl x (List.lt_trans h z)
theorem ordK(ks):Ord (ltK ks) where
 asym:=λi j h=>by
  unfold ltK at h ⊢;exact decide_eq_false (Uv _ _ (of_decide_eq_true h))
 ltr:=λi j k h1 h2=>by
  unfold ltK at h1 h2 ⊢;have h1:=of_decide_eq_false h1;have h2:=of_decide_eq_false h2;refine decide_eq_false λz=>?_;have l1:=El.mp h1;have l2:=El.mp h2;exact absurd z (El.mpr (List.le_trans l1 l2))
theorem katTups:∀{as:List Addr}{ks:List Str}{xs:List Ak},ItsOk h as ks xs->∃fs:List Ak,KatTups h (as.map A6) fs/\fs.length=as.length/\∀f∈fs,∃k t,f=.str k t
 |[],ks,xs,_=>⟨[],trivial,rfl,λf hf=>nomatch hf⟩
 |a::as,ks,xs,I=>by
  obtain⟨l1,l2,hp⟩:=I;obtain⟨k,t,x,e1,e2,e3⟩:=hp 0 a rfl;cases ks with
  |nil=>cases e1
  |cons k0 ks=>
   cases xs with
   |nil=>cases e2
   |cons x0 xs=>
    obtain⟨fs,f1,f2,f3⟩:=katTups (h:=h) (as:=as) (ks:=ks) (xs:=xs) ⟨by simpa using l1,by simpa using l2,λj b hb=>by
     obtain⟨k',t',x',g1,g2,g3⟩:=hp (j+1) b (by simpa using hb);exact⟨k',t',x',by simpa using g1,by simpa using g2,g3⟩⟩
    refine⟨.str k t::fs,.cons e3 rfl rfl rfl f1,by simp[f2],λf hf=>?_⟩;rcases Ao.mp hf with rfl|z
    ·exact⟨k,t,rfl⟩
    ·exact f3 f z
end
section
variable{prog:Bg}{w:B3}{A:Cj}{E:Ak->Ap->Prop}{s:Ap}{a:Addr}{as:List Addr}{ks:List Str}{xs:List Ak}
theorem ask_items(hI:ItsOk s.heap as ks xs)(nd:ks.Nodup)(hx:∀x∈xs,∀(s:Ap),SeqAt.EqAt A s x x ai)(hi:i < as.length)(hj:j < as.length)(h:C (ltK ks i j) s):
  kas_ask prog w A (tuples' ai) (as.map A6) i j C s:=by
 obtain⟨l1,l2,hp⟩:=hI;obtain⟨k1,t1,x1,e1,e2,e3⟩:=hp i as[i] (Af hi);obtain⟨k2,t2,x2,f1,f2,f3⟩:=hp j as[j] (Af hj);unfold kas_ask;have g1:(as.map A6).getD i Bu=.ref as[i]:=by simp[hi]
 have g2:(as.map A6).getD j Bu=.ref as[j]:=by simp[hj]
 rw[g1,g2];have c1:ks.getD i ⟨#[]⟩=k1:=by simp[e1]
 have c2:ks.getD j ⟨#[]⟩=k2:=by simp[f1]
 have hc:ltK ks i j=decide (k1.cps.toList < k2.cps.toList):=by unfold ltK;rw[c1,c2]
 rw[hc]at h;refine kat_lt e3 rfl f3 rfl ?_;refine kat_cons (wpAny_eqBool_str ?_);by_cases e:k1=k2
 ·rw[decide_eq_true e];have hij:i=j:=by
   have hi':i < ks.length:=by omega
   have hj':j < ks.length:=by omega
   have q1:ks[i]=k1:=by have:=Af hi';rw[e1]at this;exact(A8 this).symm
   have q2:ks[j]=k2:=by have:=Af hj';rw[f1]at this;exact(A8 this).symm
   exact(E8 nd).mp (q1.trans (e.trans q2.symm))
  subst hij;rw[e2]at f2;cases f2;refine kat_yes (kat_cons ?_);refine hx x1 (A4 e2) s _ _ _ _ ?_;refine kat_yes (kat_nil ?_);rw[e]at h;have:decide (k2.cps.toList < k2.cps.toList)=aj:=decide_eq_false (List.lt_irrefl _);rw[this]at h;exact h
 ·rw[decide_eq_false e];exact kat_no (oneLt_str h)
end
end KS
namespace L2
open PySem PySem.Spec PyProof.Rows PySem.W
def kY(d v:Addr):HO:=.ext λh=>h.get? v=ae {cls:=.type "dict_items",data:=.fields #[.ref d]}
theorem Q6:uN X "dict.items" (λx vs H Q=>∃d kvs,x=.ref d/\vs=[]/\H d=ae (.dK kvs)/\∀v,H v=ah->Q (.ref v) (upd H v (kY d v))):=by
 intro pins s σ H x xs v us Q I rx rv h;obtain⟨d,kvs,rfl,rfl,hd,q⟩:=h;cases rx;cases rv.zero;obtain⟨z,hsys,vs',rel,hD⟩:=I.hok d _ hd;refine call_meetsIn PySem.F.slot_dict_items hD.typeIs PySem.F.entry_dict_items (PySem.F.args_dict_items_1 _) (meets_dict_items (eZ X.prog X.w) d hsys) ⟨⟨vs',hD⟩,?_⟩;have e:(s.heap.push ({cls:=.type "dict_items",data:=.fields #[.ref d]}:Obj)).get? s.heap.objs.size=ae {cls:=.type "dict_items",data:=.fields #[.ref d]}:=A5 _ rfl;exact⟨.ref s.heap.objs.size,_,I.laid (t':=s.toks) (o:=kY d s.heap.objs.size) (λb ob q=>Ag _ q) (An _) ⟨e,⟨_,e⟩,λh1 h2 q k=>k _ q⟩,rfl,q _ (I.hok.fresh (An _))⟩
def f9(as:List Addr)(ks:List Str)(xv:List V)(i:Nat):Addr×Str×V:=(as.getD i 0,ks.getD i ⟨#[]⟩,xv.getD i .non)
def gi(H:Hp)(D:Addr)(l:List V)(as:List Addr)(ks:List Str)(xv:List V):Hp:=λb=>if b=D then ae (.lst l)else match as.idxOf? b with
 |some j=>ae (.tup [.str (ks.getD j ⟨#[]⟩),xv.getD j .non])
 |none=>H b
theorem tw{as:List Addr}(h:as.idxOf? b=ae j):as[j]?=ae b:=by
 unfold List.idxOf? at h;obtain⟨h1,h2,_⟩:=Gv.mp h;rw[Af h1];rw[beq_iff_eq]at h2;rw[h2]
theorem RZ{as:List Addr}(h:as.idxOf? b=ah):b∉as:=λhb=>by
 unfold List.idxOf? at h;rw[List.findIdx?_eq_none_iff]at h;have:=h b hb;simp at this
theorem Tz{as:List Addr}(nd:as.Nodup)(h:as[j]?=ae a):as.idxOf? a=ae j:=by
 obtain⟨h1,h2⟩:=Av.mp h;cases e:as.idxOf? a with
 |none=>exact absurd (A4 h) (RZ e)
 |some i=>
  have e':=tw e;obtain⟨h3,h4⟩:=Av.mp e';rw[(E8 nd).mp (h4.trans h2.symm)]
section
variable{X:Cx}{pins:List (Addr×Obj)}{σ:St}{H:Hp}{s:Ap}
theorem GN{idx:List Nat}(I:Inv X pins σ H s)(hk:∀b o,s.heap.get? b=ae o->h3.get? b=ae o)
  (hI:KS.ItsOk h3 as ks xs) (hx:Vals xv xs) (hup:∀a∈as,s.heap.objs.size<=a) (nd:as.Nodup) (hD:∀b o,s.heap.get? b=ae o->b≠D) (hDH:H D=ah) (hDa:D∉as) (hl:as.length < 64) (hidx:idx.Perm (A3 as.length))
  (hL:h3.get? D=ae (Ci "list" (C6 (idx.map λi=>(as.map A6).getD i Bu)) c))
  (q:∀H',i0 H H'->H D=ah->(∀a∈as,H a=ah)->H' D=ae (.lst (idx.map λi=>V.ref (f9 as ks xv i).1))->(∀i∈idx,H' (f9 as ks xv i).1=ae (.tup [.str (f9 as ks xv i).2.1,(f9 as ks xv i).2.2]))->Q (.ref D) H'):
  EP X pins σ Q (.ref D) {s with heap:=h3,toks:=tk}:=by
 obtain⟨l1,l2,hp⟩:=hI;have lx:=hx.length;have old:∀{b o},H b=ae o->b < s.heap.objs.size:=λe=>I.hok.lt e;have hidlt:∀i∈idx,i < as.length:=λi hi=>B6.mp (hidx.mem_iff.mp hi);have hlen:idx.length=as.length:=by rw[hidx.length_eq,Cu]
 have hsame:i0 H (gi H D (idx.map λi=>V.ref (f9 as ks xv i).1) as ks xv):=λb o e=>by
  unfold gi;rw[if_neg (λz=>by rw[z,hDH]at e;cases e)];cases q:as.idxOf? b with
  |none=>exact e
  |some j=>
   have:=hup b (A4 (tw q));exact absurd (old e) (Nat.not_lt.mpr this)
 have hvals:Vals (idx.map λi=>V.ref (f9 as ks xv i).1) (idx.map λi=>(as.map A6).getD i Bu):=by
  have:∀l:List Nat,(∀i∈l,i < as.length)->Vals (l.map λi=>V.ref (f9 as ks xv i).1) (l.map λi=>(as.map A6).getD i Bu):=by
   intro l
   induction l with
   |nil=>intro _;exact .nil
   |cons i r ih=>
    intro hl;have hi:=hl i As;refine .cons ?_ (ih λj hj=>hl j (Ar _ hj));show(as.map A6).getD i Bu=A6 (as.getD i 0);simp[hi]
  exact this idx hidlt
 have hnew:HOk X.prog X.w (gi H D (idx.map λi=>V.ref (f9 as ks xv i).1) as ks xv) h3:=λb o e=>by
  by_cases hb:b=D
  ·subst hb;unfold gi at e;rw[if_pos rfl]at e;cases e;refine⟨?_,_,c,hvals,hL⟩;rw[Ab,hlen];exact eF ⋯
  ·have e2:=e;unfold gi at e2;rw[if_neg hb]at e2;cases qi:as.idxOf? b with
   |none=>
    rw[qi]at e2;refine(I.hok b o e2).stay (λcc u _ z=>hk cc u z) (λcc z=>hsame _ _ z) λcc ys z=>hsame _ _ z
   |some j=>
    rw[qi]at e2;cases e2;obtain⟨k,t,x,g1,g2,g3⟩:=hp j b (tw qi);have hjl:j < xv.length:=by
     have:=(Av.mp g2).1;omega
    have ev:RelV (xv.getD j .non) x:=by
     obtain⟨u,hu,ru⟩:=hx.get (Af hjl);rw[g2]at hu;cases hu;have:xv.getD j .non=xv[j]:=by simp[hjl]
     rw[this];exact ru
    have ek:ks.getD j ⟨#[]⟩=k:=by simp[g1]
    refine⟨by show 2<=Az;decide,[.str k t,x],.cons (by rw[ek];exact⟨t,rfl⟩) (.cons ev .nil),?_⟩;exact⟨_,g3,rfl,⟨_,rfl⟩,rfl⟩
 refine⟨.ref D,_,I.call' (s':={ s with heap:=h3,toks:=tk}) (ch:=[]) rfl ?_ hnew I.bare (λb hb=>nomatch hb),rfl,q _ hsame hDH (λa ha=>I.hok.fresh (hup a ha)) (by unfold gi;rw[if_pos rfl]) λi hi=>?_⟩
 ·refine⟨λb o e n _ _=>hk b o e,λb o e n _ _=>⟨o.slots,hk b o e⟩,λb o e n _=>?_,λb o e _=>⟨o,hk b o e⟩,λb ys z=>hsame _ _ z,λb o' u z=>hsame _ _ z,λb ps z=>⟨#[],by rw[Array.append_empty];exact hsame _ _ z⟩⟩;have hlt:=A0 e;unfold gi;rw[if_neg (hD b o e)];cases qi:as.idxOf? b with
  |none=>exact n
  |some j=>exact absurd hlt (Nat.not_lt.mpr (hup b (A4 (tw qi))))
 ·have hi':=hidlt i hi;have ea:(f9 as ks xv i).1=as[i]:=by show as.getD i 0=_;simp[hi']
  have eg:as[i]?=ae as[i]:=Af hi';have ne:as[i]≠D:=λz=>hDa (z▸Cg hi');rw[ea];unfold gi;rw[if_neg ne,Tz nd eg];rfl
end
def AH:List V->Hp->VK->Prop:=λxs H Q=>∃(v d:Addr)(ks:List Str)(xv:List V),xs=[.ref v]/\H v=ae (kY d v)/\ks.length=xv.length/\H d=ae (.dK ((ks.zip xv).map λp=>((Dg p.1:aG),p.2)))/\ks.length < 64/\ks.Nodup/\xv.all iL=ai /\
 ∀(D:Addr)(as:List Addr)(idx:List Nat)(H':Hp),as.length=ks.length->idx.Perm (A3 ks.length)->(idx.map λi=>ks.getD i ⟨#[]⟩).Pairwise (λa b=>¬b.cps.toList < a.cps.toList)->i0 H H'->H D=ah->(∀a∈as,H a=ah)->
  H' D=ae (.lst (idx.map λi=>V.ref (f9 as ks xv i).1))->(∀i∈idx,H' (f9 as ks xv i).1=ae (.tup [.str (f9 as ks xv i).2.1,(f9 as ks xv i).2.2]))->Q (.ref D) H'
theorem FF{xs:List Ak}:∀{ks:List Str}{xv:List V}{vs:List (aG×Ak)},ks.length=xv.length->KV ((ks.zip xv).map λp=>((Dg p.1:aG),p.2)) vs->vs.length=ks.length/\Vals xv (vs.map (·.2))/\vs.map (·.1)=ks.map (Dg:Str->aG)
 |[],[],_,_,.nil=>⟨rfl,.nil,rfl⟩
 |k::ks,x::xv,_,hl,.cons r rr=>by
  obtain⟨h1,h2,h3⟩:=FF (xs:=xs) (ks:=ks) (xv:=xv) (by simpa using hl) rr;refine⟨by simp[h1],.cons r.2 h2,?_⟩;rw[Bb,Bb,h3,<-r.1]
theorem QP(hz:p.size=n)(h:KS.SP (KS.ltK ks) p n):(p.toList.map λi=>ks.getD i ⟨#[]⟩).Pairwise (λa b=>¬b.cps.toList < a.cps.toList):=by
 rw[List.pairwise_iff_getElem];intro i j hi hj hij;rw[Ab,Df,hz]at hi hj;have:=h i j hij hj;unfold KS.ltK KS.g at this;have e1:p.getD i 0=p[i]:=by simp[hz,hi]
 have e2:p.getD j 0=p[j]:=by simp[hz,hj]
 rw[e1,e2]at this;simp only[List.getElem_map,Array.getElem_toList];exact of_decide_eq_false this
theorem Sy(hh:X.A.handled=ah):CallR X (.builtin "sorted") AH:=by
 intro pins s σ H xs us Q I r h;obtain⟨v,d,ks,xv,rfl,hv,hl,hd,h64,nd,fl,q⟩:=h;obtain⟨u,rfl,ru⟩:=gX r;cases(show u=A6 v from ru);have ov:s.heap.get? v=ae {cls:=.type "dict_items",data:=.fields #[.ref d]}:=(I.hok v _ hv).1;obtain⟨z,hsys,vs',rel,hDict⟩:=I.hok d _ hd;obtain⟨ep,hat⟩:=hDict.dictAt;obtain⟨lv,hvals,hkeys⟩:=FF (xs:=[]) hl rel;refine KS.sorted_of (R:=λvs s1=>∃(h':Heap)(tk:Nat)(as:List Addr),vs=as.map A6/\s1={ s with heap:=h',toks:=tk}/\(∀b o,s.heap.get? b=ae o->h'.get? b=ae o)/\as.length=vs'.length/\KdxG (eZ X.prog X.w) vs' s.heap.objs.size h' as)
  (kdx_collect (knd:=eZ X.prog X.w) (kvs:=vs') (ep:=ep) hh ⟨_,ov,rfl,rfl⟩ hat (by rw[lv];exact eF ⋯) λh' tk as hk hl hG=>⟨h',tk,as,rfl,rfl,hk,hl,hG⟩) ?_
 rintro vs s1 ⟨h',tk,as,rfl,rfl,hk,hla,hG⟩
 have hlen:as.length=ks.length:=hla.trans lv;have its:KS.ItsOk h' as ks (vs'.map (·.2)):=⟨hlen,by rw[Ab,hla],λj a ha=>by
  obtain⟨key,k,x,e1,e2,e3⟩:=hG.pairs j a ha;have hk1:(vs'.map (·.1))[j]?=ae k:=by rw[Aw,e1];rfl
  rw[hkeys,Aw]at hk1;cases eq:ks[j]? with
  |none=>rw[eq]at hk1;cases hk1
  |some k0=>
   rw[eq]at hk1;have hk2:(Dg k0:aG)=k:=A8 hk1;subst hk2;rcases iJ (k:=Dg k0) (v:=key) (show jI (Dg k0) key=ai from e2)with⟨i,t,z,_⟩|⟨y,t,z,rfl⟩
   ·cases z
   ·cases z;exact⟨k0,t,x,rfl,by rw[Aw,e1];rfl,e3⟩⟩
 have hup:∀a∈as,s.heap.objs.size<=a:=λa ha=>F6 (hG.above a ha);have ndA:as.Nodup:=hG.rise.imp λh=>Bk h;have hDa:h'.objs.size∉as:=λhm=>Ex _ (hG.there hm);have hs':∀b o,s.heap.get? b=ae o->b≠h'.objs.size:=λb o e=>Bk (A0 (hk b o e));have hsH:H h'.objs.size=ah:=(I.hok.kept hk).fresh (An _);refine⟨by rw[Ab,hlen];exact eF ⋯,?_⟩;have hoL:(h'.push (Ci "list" (as.map A6).toArray 0)).get? h'.objs.size=ae (Ci "list" (as.map A6).toArray 0):=A5 _ rfl;have its2:∀h4:Heap,(∀b o,b≠h'.objs.size->(h'.push (Ci "list" (as.map A6).toArray 0)).get? b=ae o->h4.get? b=ae o)->KS.ItsOk h4 as ks (vs'.map (·.2)):=λh4 k4=>⟨its.1,its.2.1,λj a ha=>by
  obtain⟨k,t,x,e1,e2,e3⟩:=its.2.2 j a ha;exact⟨k,t,x,e1,e2,k4 a _ (λz=>hDa (z▸A4 ha)) (Ag _ e3)⟩⟩
 have keep4:∀h4:Heap,(∀b o,b≠h'.objs.size->(h'.push (Ci "list" (as.map A6).toArray 0)).get? b=ae o->h4.get? b=ae o)->∀b o,s.heap.get? b=ae o->h4.get? b=ae o:=λh4 k4 b o e=>
  k4 b o (hs' b o e) (Ag _ (hk b o e))
 by_cases h2:2<=(as.map A6).length
 ·refine KS.ls_sort (s:={ s with heap:=h'.push (Ci "list" (as.map A6).toArray 0),toks:=tk}) hoL h2 (by rw[Ab];omega) λe1 h4 ha4 k4=>?_;have its4:=its2 h4 k4;obtain⟨fs,f1,f2,f3⟩:=KS.katTups its4;rw[Ab]at h2;refine kat_kind (s:={ s with heap:=h4,toks:=tk}) (T:=Ee "str") f1 ⋯ (λf hf=>?_) rfl ?_
  ·obtain⟨k,t,rfl⟩:=f3 f hf;exact .now
  ·rw[Ab];have hn:0 < as.length:=by omega
   have hwi:=KS.wi_sort hn;refine KS.wp_run (n:=as.length) (P:=KS.Pm as.length) (c:=KS.ltK ks) (St:=λs'=>s'={ s with heap:=h4,toks:=tk}) (λi j C s' hi hj hs hC=>?_) _ _ hwi rfl λs' hs'=>?_
   ·subst hs;refine KS.ask_items its4 nd (λx hx s''=>?_) hi hj (hC _ rfl);obtain⟨j,hj⟩:=B8.mp hx;have hjl:j < xv.length:=by
     have:=(Av.mp hj).1;rw[Ab]at this;omega
    obtain⟨u,hu,ru⟩:=hvals.get (Af hjl);rw[hj]at hu;cases hu;have fx:iL xv[j]=ai:=Dq.mp fl _ (Cg hjl);have:=Jq (A:=X.A.in1.in1) (s:=s'') ru ru fx fx;have e1:jo xv[j] xv[j]=ai:=by
     cases ex:xv[j]<;>simp[jo]<;>(rw[ex]at fx;cases fx)
    rw[e1]at this;exact this
   ·subst hs';refine⟨ha4,λh3 c sb hL3=>⟨rfl,?_⟩⟩;have hpm:KS.Pm as.length (KS.run (KS.ltK ks) (kas_sort as.length)):=KS.Wi.out _ hwi;have hsp:=KS.sort_ok (KS.ordK ks) (n:=as.length) hn;have hsz:=hpm.size;have hidx:(KS.run (KS.ltK ks) (kas_sort as.length)).toList.Perm (A3 as.length):=by
     have:=Array.perm_iff_toList_perm.mp hpm;simpa using this
    have k3:∀b o,b≠h'.objs.size->(h'.push (Ci "list" (as.map A6).toArray 0)).get? b=ae o->h3.get? b=ae o:=λb o hb e=>(sb.2 b hb).trans (k4 b o hb e);exact GN (s:=s) (tk:=tk) (xv:=xv) I (keep4 h3 k3) (its2 h3 k3) hvals hup ndA hs' hsH hDa ⋯ hidx hL3 λH' a1 a2 a3 a4 a5=>q _ as _ H' hlen (by rw[<-hlen];exact hidx) (QP hsz hsp) a1 a2 a3 a4 a5
 ·refine KS.ls_short (s:={ s with heap:=h'.push (Ci "list" (as.map A6).toArray 0),toks:=tk}) hoL ⋯ λh4 c ha4 k4=>⟨rfl,?_⟩;rw[Ab]at h2;have el:as.map A6=(A3 as.length).map λi=>(as.map A6).getD i Bu:=by
   apply Dn (by simp);intro i h1 h2;simp at h1;simp[h1]
  rw[el]at ha4;refine GN (s:=s) (tk:=tk) (xv:=xv) (idx:=A3 as.length) I (keep4 h4 k4) (its2 h4 k4) hvals hup ndA hs' hsH hDa ⋯ (List.Perm.refl _) ha4 λH' a1 a2 a3 a4 a5=>q _ as _ H' hlen (by rw[<-hlen]) ?_ a1 a2 a3 a4 a5;have:(A3 as.length).length<=1:=by simp;omega
  match hr:A3 as.length,this with
  |[],_=>exact .nil
  |[i],_=>exact Gs _ _
theorem HH{vs:List (aG×Ak)}(h:KV l vs):vs.map (·.1)=l.map (·.1):=by
 unfold KV at h
 induction h with
 |nil=>rfl
 |cons r _ ih=>rw[Bb,Bb,ih,r.1]
end L2
namespace L2
open PySem PySem.Spec PyProof.Rows
section
variable{prog:Bg}{w:B3}{A:Cj}{E:Ak->Ap->Prop}{s:Ap}
theorem uZ(hit:s.heap.IsTupleIter it t i)(ht:s.heap.IsTuple t items)(hx:items[i]?=ae x)
  (hQ:∀h',h'.IsTupleIter it t (i+1)->Ed it s.heap h'->Q x {s with heap:=h'}):A9 (Bh prog w) A (Cr (.ref it)) Q E s:=by
 obtain⟨o,ho,hc,hd⟩:=id hit;obtain⟨ol,hol,_,nl,hdl⟩:=ht;unfold Cr;refine Ad (Dd (name:=Fb "__next__") hit.typeIs Fi
  (D6 Fi hit.typeIs F.entry_tuple_iterator_next ?_ (F.args_tuple_iterator_next_1 _)))
 show A9 _ _ (field (.ref it) 0>>=_) _ _ s;refine Ad (Cw ho hd (x:=.ref t) rfl ?_);show A9 _ _ (if (A6 t==Bu)=ai then _ else _) _ _ s;rw[if_neg (show ¬((A6 t==Bu)=ai)from Ae)];show A9 _ _ (field (.ref it) 1>>=_) _ _ s;refine Ad (Cw ho hd (x:=.int i 0) rfl ?_);show A9 _ _ (seqItems? (.ref t)>>=_) _ _ s;refine Ad (En hol hdl ?_);simp only[Bi,hx];refine Ad (wpAny_setField ho hd (by simp) (Ay ⟨x,rfl,Ay (hQ _ ?_ (Dr ..))⟩));exact⟨_,Heap.get?_update_self _ ho (Obj.isFreed_of_fields (Obj.data_mapFields hd _)),(Obj.cls_mapFields ..).trans hc,by
  rw[Obj.data_mapFields hd];simp[rawInt]⟩
theorem zZ(hh:A.handled=ah)(hit:s.heap.IsTupleIter it t i)(ht:s.heap.IsTuple t items)(hx:items[i]?=ah)
  (hE:∀h' e,Heap.ExtBut it s.heap h'->(∃o,h'.get? e=ae o/\o.cls=.type "StopIteration")->E (.ref e) {s with heap:=h'}):
  A9 (Bh prog w) A (Cr (.ref it)) Q E s:=by
 obtain⟨o,ho,hc,hd⟩:=id hit;obtain⟨ol,hol,_,nl,hdl⟩:=ht;unfold Cr;refine Ad (Dd (name:=Fb "__next__") hit.typeIs Fi
  (D6 Fi hit.typeIs F.entry_tuple_iterator_next ?_ (F.args_tuple_iterator_next_1 _)))
 show A9 _ _ (field (.ref it) 0>>=_) _ _ s;refine Ad (Cw ho hd (x:=.ref t) rfl ?_);show A9 _ _ (if (A6 t==Bu)=ai then _ else _) _ _ s;rw[if_neg (show ¬((A6 t==Bu)=ai)from Ae)];show A9 _ _ (field (.ref it) 1>>=_) _ _ s;refine Ad (Cw ho hd (x:=.int i 0) rfl ?_);show A9 _ _ (seqItems? (.ref t)>>=_) _ _ s;refine Ad (En hol hdl ?_);simp only[Bi,hx];refine Ad (wpAny_rule (Ad (wpAny_setField ho hd (by simp) ?_)));show A9 _ _ (newExc (.type "StopIteration") []>>=_) _ _ _;refine Ad ?_;simp only[newExc,newTuple];refine Ad (Cc ?_ (by size_fits));refine Ad (m:=firstArgMember _ _) (wpAny_of_eq (a:=Bu) (by first|rfl|(simp only[firstArgMember];rfl)) ?_);refine Cc ?_ (by size_fits);simp only[raiseNew];refine Ad (wpAny_handled ?_)
 first|rw[show A.in1.handled=ah from hh]|rw[hh]
 refine Ad (Ay (wpAny_throw ?_));exact hE _ _ (((Dr ..).extBut.push _).push _) ⟨_,A5 _ rfl,rfl⟩
theorem Uy{z TI TO i1 i2 l1 l2:Addr}{Q:Ak->Ap->Prop}(D:ZipApart z TI TO i1 i2 l1 l2)
  (hz:IsZip s.heap z TI TO .none) (hTI:Fm s.heap TI (.ref i1) (.ref i2)) (hTO:Fm s.heap TO a b)
  (h1:s.heap.IsTupleIter i1 l1 k) (h2:s.heap.IsTupleIter i2 l2 k) (hl1:s.heap.IsTuple l1 xs) (hl2:s.heap.IsTuple l2 ys) (hx:xs[k]?=ae x) (hy:ys[k]?=ae y)
  (hQ:∀h',IsZip h' z TI TO (rawInt s.heap.objs.size)->Fm h' TO x y->h'.IsTupleIter i1 l1 (k+1)->h'.IsTupleIter i2 l2 (k+1)->Fm h' s.heap.objs.size x y->h'.objs.size=s.heap.objs.size+1->
   (∀c o,c≠z->c≠TO->c≠i1->c≠i2->s.heap.get? c=ae o->h'.get? c=ae o)->Q (.ref s.heap.objs.size) {s with heap:=h'}):
  A9 (Bh prog w) A (Builtin.«zip.__next__» ⟨[.ref z],[]⟩) (λfin s'=>∃v,fin=.done (.ret v)/\Q v s') E s:=by
 show A9 _ _ (field (.ref z) 2>>=_) _ _ _;refine Ad (Cw hz rfl (x:=.bool aj) rfl ?_);show A9 _ _ (field (.ref z) 3>>=_) _ _ _;refine Ad (Cw hz rfl (x:=.ref TI) rfl ?_);refine Ad (En hTI rfl ?_);show A9 _ _ (Dk (.ref z)>>=_) _ _ _;refine Ad ?_;unfold Dk;refine Ad (Cw hz rfl (x:=.none) rfl (Ay ?_));simp only[if_true];refine Ad (wpAny_rule ?_);refine Ad (Cw hz rfl (x:=.ref TO) rfl ?_);refine Ad (F3 hz (by simp) λg1 hz1 s1=>?_)
 replace hz1:IsZip g1 z TI TO .ellipsis:=hz1
 refine Ad ?_;simp only[List.zipIdx_cons,List.zipIdx_nil,List.forIn_cons,List.forIn_nil];refine Ad (Ad (wpAny_onRaise ?_));show A9 _ _ (Cr (.ref i1)>>=_) _ _ _;refine Ad (uZ (h1.extBut s1.extBut D.i1z) (hl1.extBut s1.extBut D.l1z) hx λg2 t2 s2=>Ay ?_);have p2:Fm g2 TO a b:=s2.extBut _ _ D.TOi1 (s1.extBut _ _ D.TOz hTO);refine Ad (En p2 rfl ?_);refine Ad (wpAny_updateSeq_pair p2 λg3 p3 s3=>?_)
 replace p3:Fm g3 TO x b:=p3
 refine Ad (wpAny_letGo (Ay ?_));refine Ad (Ad (wpAny_onRaise ?_));show A9 _ _ (Cr (.ref i2)>>=_) _ _ _;refine Ad (uZ (((h2.extBut s1.extBut D.i2z).extBut s2.extBut D.i12.symm).extBut s3.extBut D.TOi2.symm)
  (((hl2.extBut s1.extBut D.l2z).extBut s2.extBut D.l2i1).extBut s3.extBut D.l2TO) hy λg4 t4 s4=>Ay ?_)
 have p4:Fm g4 TO x b:=s4.extBut _ _ D.TOi2 p3;refine Ad (En p4 rfl ?_);refine Ad (wpAny_updateSeq_pair p4 λg5 p5 s5=>?_)
 replace p5:Fm g5 TO x y:=p5
 refine Ad (wpAny_letGo (Ay (Ay ?_)));refine Ad (En p5 rfl ?_);refine Ad (wpAny_newTuple ?_);have sz:g5.objs.size=s.heap.objs.size:=by rw[s5.1,s4.1,s3.1,s2.1,s1.1]
 have z5:IsZip g5 z TI TO .ellipsis:=s5.extBut _ _ D.TOz.symm (s4.extBut _ _ D.i2z.symm (s3.extBut _ _ D.TOz.symm (s2.extBut _ _ D.i1z.symm hz1)));have k5:∀c o,c≠z->c≠TO->c≠i1->c≠i2->s.heap.get? c=ae o->g5.get? c=ae o:=λc o c1 c2 c3 c4 e=>
  s5.extBut _ _ c2 (s4.extBut _ _ c4 (s3.extBut _ _ c2 (s2.extBut _ _ c3 (s1.extBut _ _ c1 e))))
 have u1:g5.IsTupleIter i1 l1 (k+1):=((t2.extBut s3.extBut D.TOi1.symm).extBut s4.extBut D.i12).extBut s5.extBut D.TOi1.symm;have u2:g5.IsTupleIter i2 l2 (k+1):=t4.extBut s5.extBut D.TOi2.symm;have zlt:z < g5.objs.size:=A0 z5;show A9 _ _ (Gj (.ref z) (.ref g5.objs.size)>>=_) _ _ _;refine Ad ?_;unfold Gj;have z6:IsZip (g5.push {cls:=.type "tuple",data:=.seq #[x,y]}) z TI TO .ellipsis:=Ag _ z5;refine Ad (F3 z6 (by simp) λg7 z7 s7=>?_)
 replace z7:IsZip g7 z TI TO (rawInt g5.objs.size):=z7
 refine F3 z7 (by simp) λg8 z8 s8=>?_
 replace z8:IsZip g8 z TI TO (rawInt g5.objs.size):=z8
 have up:∀c o,c≠z->g5.get? c=ae o->g8.get? c=ae o:=λc o c1 e=>s8.extBut _ _ c1 (s7.extBut _ _ c1 (Ag _ e));have T8:Fm g8 g5.objs.size x y:=s8.extBut _ _ (Fg zlt) (s7.extBut _ _ (Fg zlt) (A5 _ rfl));have e8:g8.objs.size=g5.objs.size+1:=by rw[s8.1,s7.1,F2]
 rw[sz]at z8 T8 e8;refine Ay ⟨_,rfl,?_⟩;show Q (.ref g5.objs.size) _;rw[sz];exact hQ g8 z8 (up _ _ D.TOz p5) (u1.at λo e=>up _ o D.i1z e) (u2.at λo e=>up _ o D.i2z e) T8 e8 λc o c1 c2 c3 c4 e=>up c o c1 (k5 c o c1 c2 c3 c4 e)
theorem P9{z TI TO i1 i2 l1 l2:Addr}(hh:A.handled=ah)(D:ZipApart z TI TO i1 i2 l1 l2)
  (hz:IsZip s.heap z TI TO .none) (hTI:Fm s.heap TI (.ref i1) (.ref i2)) (h1:s.heap.IsTupleIter i1 l1 k) (hl1:s.heap.IsTuple l1 xs) (hx:xs[k]?=ah)
  (hE:∀h' e,(∀c o,c≠z->c≠i1->s.heap.get? c=ae o->h'.get? c=ae o)->(∃o,h'.get? e=ae o/\o.cls=.type "StopIteration")->E (.ref e) {s with heap:=h'}):
  A9 (Bh prog w) A (Builtin.«zip.__next__» ⟨[.ref z],[]⟩) Q E s:=by
 show A9 _ _ (field (.ref z) 2>>=_) _ _ _;refine Ad (Cw hz rfl (x:=.bool aj) rfl ?_);show A9 _ _ (field (.ref z) 3>>=_) _ _ _;refine Ad (Cw hz rfl (x:=.ref TI) rfl ?_);refine Ad (En hTI rfl ?_);show A9 _ _ (Dk (.ref z)>>=_) _ _ _;refine Ad ?_;unfold Dk;refine Ad (Cw hz rfl (x:=.none) rfl (Ay ?_));simp only[if_true];refine Ad (wpAny_rule ?_);refine Ad (Cw hz rfl (x:=.ref TO) rfl ?_);refine Ad (F3 hz (by simp) λg1 hz1 s1=>?_)
 replace hz1:IsZip g1 z TI TO .ellipsis:=hz1
 refine Ad ?_;simp only[List.zipIdx_cons,List.zipIdx_nil,List.forIn_cons,List.forIn_nil];refine Ad (Ad (wpAny_onRaise ?_));show A9 _ _ (Cr (.ref i1)>>=_) _ _ _;refine Ad (zZ hh (h1.extBut s1.extBut D.i1z) (hl1.extBut s1.extBut D.l1z) hx λg2 e s2 he=>?_);obtain⟨oe,hoe,hce⟩:=he;have z2:IsZip g2 z TI TO .ellipsis:=s2 _ _ D.i1z.symm hz1;have hez:e≠z:=λx=>by subst x;rw[z2]at hoe;cases hoe;simp at hce
 refine F3 z2 (by simp) λg3 _ s3=>hE g3 e (λc o c1 c3 x=>s3.extBut _ _ c1 (s2 _ _ c3 (s1.extBut _ _ c1 x))) ⟨oe,s3.extBut _ _ hez hoe,hce⟩
theorem Ln{z TI TO i1 i2 l1 l2:Addr}(D:ZipApart z TI TO i1 i2 l1 l2)
  (hz:IsZip s.heap z TI TO .none) (hTI:Fm s.heap TI (.ref i1) (.ref i2)) (hTO:Fm s.heap TO a b)
  (h1:s.heap.IsTupleIter i1 l1 k) (h2:s.heap.IsTupleIter i2 l2 k) (hl1:s.heap.IsTuple l1 xs) (hl2:s.heap.IsTuple l2 ys) (hx:xs[k]?=ae x) (hy:ys[k]?=ae y)
  (hQ:∀h',IsZip h' z TI TO (rawInt s.heap.objs.size)->Fm h' TO x y->h'.IsTupleIter i1 l1 (k+1)->h'.IsTupleIter i2 l2 (k+1)->Fm h' s.heap.objs.size x y->h'.objs.size=s.heap.objs.size+1->
   (∀c o,c≠z->c≠TO->c≠i1->c≠i2->s.heap.get? c=ae o->h'.get? c=ae o)->Q (ae (.ref s.heap.objs.size)) {s with heap:=h'}):
  A9 (Bh prog w) A (pyNext (.ref z)) Q E s:=by
 have hT:s.TypeIs (.ref z) "zip":=⟨_,hz,rfl⟩;unfold pyNext;exact Ad (wpAny_attempt (Dd (name:=Fb "__next__") hT F.slot_zip_next
  (D6 F.slot_zip_next hT F.entry_zip_next
   (Uy D hz hTI hTO h1 h2 hl1 hl2 hx hy λh' a1 a2 a3 a4 a5 a6 a7=>Ay (hQ h' a1 a2 a3 a4 a5 a6 a7)) (F.args_zip_next_1 _))))
theorem PU{z TI TO i1 i2 l1 l2:Addr}(hh:A.handled=ah)(D:ZipApart z TI TO i1 i2 l1 l2)
  (hz:IsZip s.heap z TI TO .none) (hTI:Fm s.heap TI (.ref i1) (.ref i2)) (h1:s.heap.IsTupleIter i1 l1 k) (hl1:s.heap.IsTuple l1 xs) (hx:xs[k]?=ah)
  (hQ:∀h',(∀c o,c≠z->c≠i1->s.heap.get? c=ae o->h'.get? c=ae o)->Q ah {s with heap:=h'}):A9 (Bh prog w) A (pyNext (.ref z)) Q E s:=by
 have hT:s.TypeIs (.ref z) "zip":=⟨_,hz,rfl⟩;unfold pyNext;refine Ad (wpAny_attempt (Dd (name:=Fb "__next__") hT F.slot_zip_next
  (D6 F.slot_zip_next hT F.entry_zip_next (P9 hh D hz hTI h1 hl1 hx λh' e hk he=>?_) (F.args_zip_next_1 _))))
 obtain⟨o,ho,hc⟩:=he;refine Ad (wpAny_isInstance (T:="StopIteration") (b:=ai) ⟨o,ho,hc⟩ isSubtype_stop ?_);exact Ay (hQ _ hk)
end
abbrev qF(h:Heap)(l1:Addr):Heap:=h.push {cls:=.type "tuple_iterator",data:=.fields #[.ref l1,.int 0 0]}
abbrev tu(h:Heap)(l1 l2:Addr):Heap:=(qF h l1).push {cls:=.type "tuple_iterator",data:=.fields #[.ref l2,.int 0 0]}
abbrev qt(h:Heap)(l1 l2:Addr):Heap:=(tu h l1 l2).push {cls:=.type "tuple",data:=.seq #[.ref h.objs.size,.ref (qF h l1).objs.size]}
abbrev qX(h:Heap)(l1 l2:Addr):Heap:=(qt h l1 l2).push {cls:=.type "tuple",data:=.seq #[.none,.none]}
abbrev mF(h:Heap)(l1 l2:Addr):Heap:=(qX h l1 l2).push {cls:=.type "zip",data:=.fields #[.none,.bool aj,.bool aj,.ref (tu h l1 l2).objs.size,.ref (qt h l1 l2).objs.size]}
theorem N1(l1 l2)(xs ys):
  Meets (Builtin.«zip.__new__» ⟨[.type "zip",.ref l1,.ref l2],[]⟩) (λ_ R s=>s.heap.IsTuple l1 xs/\s.heap.IsTuple l2 ys /\
   R (.ok (.ret (.ref (qX s.heap l1 l2).objs.size))) {s with heap:=mF s.heap l1 l2}):=
 .of_wp λprog w A R s h=>by
  obtain⟨hp,g,d,tk,os⟩:=s;obtain⟨hl1,hl2,h⟩:=h;have hsub:=sub_zip;have hL1:Heap.IsTuple (Shared.heap ⟨hp,g,d,tk,os⟩) l1 xs:=hl1;have hL2:Heap.IsTuple (Shared.heap ⟨hp.push {cls:=.type "tuple_iterator",data:=.fields #[.ref l1,.int 0 0]},g,d,tk,os⟩) l2 ys:=Heap.IsTuple.push hl2 _
  wp_walk using D9 hL1,D9 hL2
  exact⟨_,rfl,h⟩
section
variable{prog:Bg}{w:B3}{A:Cj}{E:Ak->Ap->Prop}{s:Ap}
theorem NM(hl1:s.heap.IsTuple l1 xs)(hl2:s.heap.IsTuple l2 ys)
  (h:∀h',IsZip h' (s.heap.objs.size+4) (s.heap.objs.size+2) (s.heap.objs.size+3) .none->Fm h' (s.heap.objs.size+2) (.ref s.heap.objs.size) (.ref (s.heap.objs.size+1))->
   Fm h' (s.heap.objs.size+3) .none .none->h'.IsTupleIter s.heap.objs.size l1 0->h'.IsTupleIter (s.heap.objs.size+1) l2 0->
   (∀c o,s.heap.get? c=ae o->h'.get? c=ae o)->Q (.ref (s.heap.objs.size+4)) {s with heap:=h'}):
  A9 (Bh prog w) A (call (.type "zip") [.ref l1,.ref l2]) Q E s:=by
 refine callType_new F.called_zip ∎ (F.typeCall_zip_2 _ _) (F.newCall_zip_2 _ _) (λobj=>F.args_object_init_3 obj _ _) F.entry_zip_new
  (N1 l1 l2 xs ys) ⟨hl1,hl2,?_⟩
 have z1:(qF s.heap l1).objs.size=s.heap.objs.size+1:=F2 ..;have z2:(tu s.heap l1 l2).objs.size=s.heap.objs.size+2:=by rw[F2,z1]
 have z3:(qt s.heap l1 l2).objs.size=s.heap.objs.size+3:=by rw[F2,z2]
 have z4:(qX s.heap l1 l2).objs.size=s.heap.objs.size+4:=by rw[F2,z3]
 have g5:(mF s.heap l1 l2).get? (qX s.heap l1 l2).objs.size=ae _:=A5 _ rfl;have g4:(mF s.heap l1 l2).get? (qt s.heap l1 l2).objs.size=ae _:=Ag _ (A5 _ rfl);have g3:(mF s.heap l1 l2).get? (tu s.heap l1 l2).objs.size=ae _:=Ag _ (Ag _ (A5 _ rfl));have g2:(mF s.heap l1 l2).get? (qF s.heap l1).objs.size=ae _:=Ag _ (Ag _ (Ag _ (A5 _ rfl)));have g1:(mF s.heap l1 l2).get? s.heap.objs.size=ae _:=Ag _ (Ag _ (Ag _ (Ag _ (A5 _ rfl))));show _/\_;rw[z2,z3,z4]at g5;rw[z1,z2]at g3;rw[z3]at g4;rw[z1]at g2;rw[z4];exact⟨⟨_,g5,rfl⟩,h _ g5 g3 g4 ⟨_,g1,rfl,rfl⟩ ⟨_,g2,rfl,rfl⟩ λc o x=>
  Ag _ (Ag _ (Ag _ (Ag _ (Ag _ x))))⟩
end
def IL(K:Ah)(a b:Addr):It:=
 ⟨λi H=>∃xs ys x y,SqT K H a xs/\SqT K H b ys/\xs[i]?=ae x/\ys[i]?=ae y,
  λi H v H'=>∃T x y,v=.ref T/\H T=ah/\H'=upd H T (.tup [x,y])/\(∀xs,SqT K H a xs->xs[i]?=ae x)/\∀ys,SqT K H b ys->ys[i]?=ae y,
  λi H=>∃xs,SqT K H a xs/\xs.length<=i⟩
theorem Inv.many{X:Cx}{σ:St}{s:Ap}{h':Heap}{fp:List Addr}{a:Addr}{o:HO}(I:Inv X pins σ H s)(hf:∀b∈fp,dF X pins H b)(k:∀b u,b∉fp->s.heap.get? b=ae u->h'.get? b=ae u)
  (ha:s.heap.objs.size<=a) (new:ObjOk X.prog X.w (upd H a o) h' a o):Inv X pins σ (upd H a o) {s with heap:=h',toks:=t'}:=by
 have hn:H a=ah:=I.hok.fresh ha;have nf:∀b u,H b=ae u->b∉fp:=λb u e z=>by rw[(hf b z).1]at e;cases e
 refine I.call' (s':={ s with heap:=h',toks:=t'}) (ch:=fp) rfl ⟨λb u q _ _ z=>k b u z q,λb u q _ _ z=>⟨u.slots,k b u z q⟩,λb u q n _=>?_,λb u q z=>⟨u,k b u z q⟩,λb xs q=>?_,λb u xs q=>?_,λb ps q=>⟨#[],?_⟩⟩ (λb u e=>?_) I.bare (λb hb=>?_)
 ·rw[aY (Bk (Bo (A0 q) ha))];exact n
 ·rw[aY (cR q hn)];exact q
 ·rw[aY (cR q hn)];exact q
 ·rw[aY (cR q hn),q];simp
 ·by_cases z:b=a
  ·subst z;rw[bB]at e;cases e;exact new
  ·rw[aY z]at e;refine(I.hok b u e).stay (λc v hc q=>k c v ?_ q) (λc q=>?_) λc ys q=>?_
   ·rcases hc with z|z
    ·rw[z];exact nf b u e
    ·exact nf c _ z
   ·rw[aY (cR q hn)];exact q
   ·rw[aY (cR q hn)];exact q
 ·obtain⟨f0,f1,f2,f3,f4,f5⟩:=hf b hb;exact⟨f3,f1,f4,f5⟩
theorem Inv.many0{σ:St}{s:Ap}{h':Heap}{fp:List Addr}(I:Inv X pins σ H s)(hf:∀b∈fp,dF X pins H b)(k:∀b u,b∉fp->s.heap.get? b=ae u->h'.get? b=ae u):Inv X pins σ H {s with heap:=h',toks:=t'}:=by
 have nf:∀b u,H b=ae u->b∉fp:=λb u e z=>by rw[(hf b z).1]at e;cases e
 refine I.call' (s':={ s with heap:=h',toks:=t'}) (ch:=fp) rfl ⟨λb u q _ _ z=>k b u z q,λb u q _ _ z=>⟨u.slots,k b u z q⟩,λb u q n _=>n,λb u q z=>⟨u,k b u z q⟩,λb xs q=>q,λb u xs q=>q,λb ps q=>⟨#[],by rw[q];simp⟩⟩ (λb u e=>?_) I.bare (λb hb=>?_)
 ·refine(I.hok b u e).stay (λc v hc q=>k c v ?_ q) (λc q=>q) λc ys q=>q;rcases hc with z|z
  ·rw[z];exact nf b u e
  ·exact nf c _ z
 ·obtain⟨f0,f1,f2,f3,f4,f5⟩:=hf b hb;exact⟨f3,f1,f4,f5⟩
theorem OJ{K:Ah}{a b z TI TO i1 i2:Addr}(D:ZipApart z TI TO i1 i2 a b):Turn P w K (.Tuple elts kk pos) (IL K a b) [z,TI,TO,i1,i2] z
  (λi h=>IsZip h z TI TO .none/\Fm h TI (.ref i1) (.ref i2)/\(∃x y,Fm h TO x y)/\h.IsTupleIter i1 a i/\h.IsTupleIter i2 b i) where
 mem:=by simp
 obj:=λi h st c hc=>by
  obtain⟨hz,hI,⟨x,y,hO⟩,⟨o1,e1,c1,d1⟩,⟨o2,e2,c2,d2⟩⟩:=st;simp only[Ao,Aq,or_false]at hc;rcases hc with rfl|rfl|rfl|rfl|rfl
  ·exact⟨_,hz,λv q=>by have q':Data.fields _=Data.cell v:=q;cases q'⟩
  ·exact⟨_,hI,λv q=>by have q':Data.seq _ _=Data.cell v:=q;cases q'⟩
  ·exact⟨_,hO,λv q=>by have q':Data.seq _ _=Data.cell v:=q;cases q'⟩
  ·exact⟨o1,e1,λv q=>by rw[d1]at q;cases q⟩
  ·exact⟨o2,e2,λv q=>by rw[d2]at q;cases q⟩
 keep:=λi h h' st k=>by
  obtain⟨hz,hI,⟨x,y,hO⟩,h1,h2⟩:=st;exact⟨k z (by simp) _ hz,k TI (by simp) _ hI,⟨x,y,k TO (by simp) _ hO⟩,h1.at λo e=>k i1 (by simp) o e,h2.at λo e=>k i2 (by simp) o e⟩
 item:=by
  intro X hP hw hK hc i pins s σ H E I hf st hg;subst hP hw hK;obtain⟨hz,hI,⟨x0,y0,hO⟩,h1,h2⟩:=st;obtain⟨xs,ys,x,y,qa,qb,ex,ey⟩:=hg;obtain⟨its,rv,p,_⟩:=I.tuple qa;obtain⟨jts,rw',p',_⟩:=I.tuple qb;obtain⟨u,hu,ru⟩:=rv.get ex;obtain⟨u',hu',ru'⟩:=rw'.get ey;refine Ln D hz hI hO h1 h2 (show s.heap.IsTuple a its.toArray from p) (show s.heap.IsTuple b jts.toArray from p') (x:=u) (y:=u') (by simpa using hu) (by simpa using hu') λh' a1 a2 a3 a4 a5 a6 a7=>⟨_,rfl,?_⟩;refine wpAny_letOwnedTupleGo_zip (s:={ s with heap:=h'}) a1 λh'' b1 b2=>?_;have T:h''.get? s.heap.objs.size=ae {cls:=.type "tuple",data:=.seq #[u,u']}:=b2.extBut _ _ (Fg (A0 hz)) a5;have Tn:H s.heap.objs.size=ah:=I.hok.fresh (An _);have kp:∀c o,c∉[z,TI,TO,i1,i2]->s.heap.get? c=ae o->h''.get? c=ae o:=λc o hc e=>by
   simp only[Ao,Aq,or_false,not_or]at hc;exact b2.extBut _ _ hc.1 (a7 c o hc.1 hc.2.2.1 hc.2.2.2.1 hc.2.2.2.2 e)
  refine⟨.ref s.heap.objs.size,upd H s.heap.objs.size (.tup [x,y]),I.many (t':=s.toks) hf kp (An _) ⟨by show 2<=Az;decide,[u,u'],.cons ru (.cons ru' .nil),_,T,rfl,⟨_,rfl⟩,rfl⟩,rfl,⟨_,x,y,rfl,Tn,rfl,λzs q=>by rw[I.tuple_inj q qa];exact ex,λzs q=>by rw[I.tuple_inj q qb];exact ey⟩,
   ⟨b1,b2.extBut _ _ D.TIz (a7 _ _ D.TIz D.TITO D.TIi1 D.TIi2 hI),⟨_,_,b2.extBut _ _ D.TOz a2⟩,a3.extBut b2.extBut D.i1z,a4.extBut b2.extBut D.i2z⟩,λc hc=>?_⟩
  have hlt:c < s.heap.objs.size:=by
   simp only[Ao,Aq,or_false]at hc;rcases hc with rfl|rfl|rfl|rfl|rfl
   ·exact A0 hz
   ·exact A0 hI
   ·exact A0 hO
   ·obtain⟨_,e,_⟩:=h1;exact A0 e
   ·obtain⟨_,e,_⟩:=h2;exact A0 e
  rw[aY (Bk hlt)];exact(hf c hc).1
 done:=by
  intro X hP hw hK hc i pins s σ H E I hf st hg;subst hP hw hK;obtain⟨hz,hI,_,h1,h2⟩:=st;obtain⟨xs,hq,hx⟩:=hg;obtain⟨its,rv,p,_⟩:=I.tuple hq;have hl:=rv.length;refine PU (I.ok.hd hc) D hz hI h1 (show s.heap.IsTuple a its.toArray from p) (by simp;omega) λh' k=>⟨rfl,I.many0 (t':=s.toks) hf λc o hc e=>?_⟩;simp only[Ao,Aq,or_false,not_or]at hc;exact k c o hc.1 hc.2.2.2.1 e
 self:=λ_ _ _ _ _ st h=>wpAny_pyIter_zip st.1 h
def nR(K:Ah)(ta:TA):TI:=λσ H R=>ta σ H λvs H1=>∃a b,vs=[.ref a,.ref b]/\(∃xs,SqT K H1 a xs)/\(∃ys,SqT K H1 b ys)/\R (IL K a b) H1
theorem Mg:By "zip"=ae (.type "zip"):=by decide +kernel
theorem N9{X:Cx}{elts:List Expr}{kk:Nat}{tpos:Pos}{p pos:Pos}(hg:Gl X "zip")(hm:X.mg "zip"=ah)(ha:PA X [e1,e2] ta)(hs:Au [e1,e2] X.env=[(aj,eval e1 X.env),(aj,eval e2 X.env)]:=by rfl)(hs2:Au [e2] X.env=[(aj,eval e2 X.env)]:=by rfl):
  PI X (.Tuple elts kk tpos) (.Call (.Name "zip" p) [e1,e2] [] pos) (nR X.K ta):=by
 intro pins s σ H R I h;refine Call_ (mD I hg hm Mg (Ei (a9 (ha pos pins s σ H _ I h) λus s1 ⟨vs,H1,I1,r1,q1⟩=>?_) (by rw[hs,hs2]) (by rw[hs2];rfl)));obtain⟨a,b,e,⟨xs,qa⟩,⟨ys,qb⟩,q⟩:=q1;subst e;cases r1 with
 |cons r rr=>
  cases rr with
  |cons r' rr=>
   cases rr;cases r;cases r';obtain⟨its,rv,pp,_⟩:=I1.tuple qa;obtain⟨jts,rw',pp',_⟩:=I1.tuple qb;have la:a < s1.heap.objs.size:=by obtain⟨_,e,_⟩:=id pp;exact A0 e
   have lb:b < s1.heap.objs.size:=by obtain⟨_,e,_⟩:=id pp';exact A0 e
   refine NM (show s1.heap.IsTuple a its.toArray from pp) (show s1.heap.IsTuple b jts.toArray from pp') λh' a1 a2 a3 a4 a5 a6=>wpAny_pyIter_zip (s:={ s1 with heap:=h'}) a1 ?_;refine⟨_,_,_,_,H1,rfl,I1.kept (t':=s1.toks) a6,OJ (zipApart_new la lb),⟨a1,a2,⟨_,_,a3⟩,a4,a5⟩,λc hc=>?_,q⟩;have hlt:s1.heap.objs.size<=c:=by
    simp only[Ao,Aq,or_false]at hc;rcases hc with rfl|rfl|rfl|rfl|rfl<;>omega
   exact I1.fpOk hlt (I1.hok.fresh hlt)
theorem IZ(hh:A.handled=ah)(it t)(hne:t≠it)(xs:Array Ak):Draws P w A it [it,t] xs.size (λi v=>xs[i]?=ae v) (λi h=>h.IsTupleIter it t i/\h.IsTuple t xs) where
 live:=λ_ _ z=>by obtain⟨⟨o,q,_⟩,_⟩:=z;exact⟨o,q⟩
 frame:=λ_ _ _ z k=>⟨z.1.at λo e=>k it (.head _) o e,z.2.at λo e=>k t (.tail _ (.head _)) o e⟩
 item:=λi s Q E hi z k=>uZ z.1 z.2 (x:=xs[i]) (D8 hi) λh' a b=>k _ h' s.toks (D8 hi) ⟨a,z.2.extBut b.extBut hne⟩ b
 done:=λs Q E z k=>zZ hh z.1 z.2 (by simp) k
abbrev su(h:Heap)(l:Addr):Heap:=h.push {cls:=.type "tuple_iterator",data:=.fields #[.ref l,.int 0 0]}
abbrev yg(h:Heap)(l:Addr):Heap:=(su h l).push {cls:=.type "enumerate",data:=.fields #[.none,.bool aj,.ref h.objs.size,rawInt 0,.none,.none]}
theorem QX(l)(xs)(n)(dc)(sl):
  Meets (Builtin.«enumerate.__new__» ⟨[.type "enumerate",.ref l],[]⟩) (λ_ R s=>s.heap.get? l=ae {cls:=.type "tuple",dict:=dc,data:=.seq xs n,slots:=sl} /\
   R (.ok (.ret (.ref (su s.heap l).objs.size))) {s with heap:=yg s.heap l}):=
 .of_wp λP w A R s h=>by
  obtain⟨hp,g,d,tk,os⟩:=s;obtain⟨hl,h⟩:=h;have hsub:=sub_enumerate;have hT:Heap.IsTuple (Shared.heap ⟨hp,g,d,tk,os⟩) l xs:=⟨_,hl,rfl,n,rfl⟩
  wp_walk using E9 hl
  refine wpAny_stack_any λst=>Ay ?_
  split
  ·rename_i c _ _ _ _ _;cases(c==Ee "enumerate")
   ·wp_walk using E9 hl,D9 hT
    exact⟨_,rfl,h⟩
   ·wp_walk using E9 hl,D9 hT
    exact⟨_,rfl,h⟩
  ·wp_walk using E9 hl,D9 hT
   exact⟨_,rfl,h⟩
section
variable{prog:Bg}{w:B3}{A:Cj}{E:Ak->Ap->Prop}{s:Ap}
theorem OP(hl:s.heap.IsTuple l xs)
  (h:∀h',IsEnum h' (s.heap.objs.size+1) s.heap.objs.size 0 .none->h'.IsTupleIter s.heap.objs.size l 0->(∀c o,s.heap.get? c=ae o->h'.get? c=ae o)->Q (.ref (s.heap.objs.size+1)) {s with heap:=h'}):
  A9 (Bh prog w) A (call (.type "enumerate") [.ref l]) Q E s:=by
 obtain⟨⟨c,dc,dt,sl⟩,hl,hc,n,hd⟩:=hl;obtain rfl:c=.type "tuple":=hc;obtain rfl:dt=.seq xs n:=hd;refine callType_new F.called_enumerate ∎ (F.typeCall_enumerate_1 _) (F.newCall_enumerate_1 _) (λo=>F.args_object_init_2 o _) F.entry_enumerate_new (QX l xs n dc sl) ⟨hl,?_⟩;have z1:(su s.heap l).objs.size=s.heap.objs.size+1:=F2 ..;have g2:(yg s.heap l).get? (su s.heap l).objs.size=ae _:=A5 _ rfl;have g1:(yg s.heap l).get? s.heap.objs.size=ae _:=Ag _ (A5 _ rfl);show _/\_;rw[z1]at g2 ⊢;exact⟨⟨_,g2,rfl⟩,h _ g2 ⟨_,g1,rfl,rfl⟩ λc o x=>Ag _ (Ag _ x)⟩
end
def EW(K:Ah)(a:Addr):It:=
 ⟨λi H=>∃xs x,SqT K H a xs/\xs[i]?=ae x,
  λi H v H'=>∃T x,v=.ref T/\H T=ah/\H'=upd H T (.tup [.int i,x])/\∀xs,SqT K H a xs->xs[i]?=ae x,
  λi H=>∃xs,SqT K H a xs/\xs.length=i⟩
theorem K4{K:Ah}(h1:e≠it)(h2:a≠it)(h3:e≠a):Turn P w K (.Tuple elts kk pos) (EW K a) [e,it] e
  (λi h=>(∃old,IsEnum h e it i old)/\h.IsTupleIter it a i) where
 mem:=by simp
 obj:=λi h st c hc=>by
  obtain⟨⟨x,he⟩,⟨o1,e1,c1,d1⟩⟩:=st;simp only[Ao,Aq,or_false]at hc;rcases hc with rfl|rfl
  ·exact⟨_,he,λv q=>by have q':Data.fields _=Data.cell v:=q;cases q'⟩
  ·exact⟨o1,e1,λv q=>by rw[d1]at q;cases q⟩
 keep:=λi h h' st k=>⟨st.1.imp λ_ q=>k e (by simp) _ q,st.2.at λo q=>k it (by simp) o q⟩
 item:=by
  intro X hP hw hK hc i pins s σ H E I hf st hg;subst hP hw hK;obtain⟨⟨old,he⟩,hi⟩:=st;obtain⟨xs,x,qa,ex⟩:=hg;obtain⟨its,rv,p,_⟩:=I.tuple qa;obtain⟨u,hu,ru⟩:=rv.get ex;have hlt:i < its.toArray.size:=by simpa using(Av.mp hu).1
  have hef:e∉[it,a]:=λz=>by
   simp only[Ao,Aq,or_false]at z;exact z.elim h1 h3
  refine wpAny_pyNext_enum_itemD (IZ (A:=X.A.in1) (I.ok.hd hc) it a h2 its.toArray) he ⟨hi,show s.heap.IsTuple a its.toArray from p⟩ hlt h1 hef λy h' tk a1 a2 a3 a4 a5 a6=>⟨_,rfl,?_⟩;obtain rfl:u=y:=by
   rw[List.getElem?_toArray,hu]at a1;cases a1;rfl
  refine wpAny_letOwnedTupleGo_enum (s:={ s with heap:=h',toks:=tk+1}) a2 λh'' b1 b2=>?_;have T:h''.get? s.heap.objs.size=ae {cls:=.type "tuple",data:=.seq #[.int i tk,u]}:=b2.extBut _ _ (Fg (A0 he)) a4;have Tn:H s.heap.objs.size=ah:=I.hok.fresh (An _);have kp:∀c o,c∉[e,it]->s.heap.get? c=ae o->h''.get? c=ae o:=λc o hc e=>by
   simp only[Ao,Aq,or_false,not_or]at hc;exact b2.extBut _ _ hc.1 (a6 c o hc.1 hc.2 e)
  refine⟨.ref s.heap.objs.size,upd H s.heap.objs.size (.tup [.int i,x]),I.many (t':=tk+1) hf kp (An _) ⟨by show 2<=Az;decide,[.int i tk,u],.cons ⟨tk,rfl⟩ (.cons ru .nil),_,T,rfl,⟨_,rfl⟩,rfl⟩,rfl,⟨_,x,rfl,Tn,rfl,λzs q=>by rw[I.tuple_inj q qa];exact ex⟩,
   ⟨⟨u,by rw[show((i+1:Nat):Int)=(i:Int)+1 from rfl];exact b1⟩,a3.1.extBut b2.extBut h1.symm⟩,λc hc=>?_⟩
  have hlt:c < s.heap.objs.size:=by
   simp only[Ao,Aq,or_false]at hc;rcases hc with rfl|rfl
   ·exact A0 he
   ·obtain⟨_,e,_⟩:=hi;exact A0 e
  rw[aY (Bk hlt)];exact(hf c hc).1
 done:=by
  intro X hP hw hK hc i pins s σ H E I hf st hg;subst hP hw hK;obtain⟨⟨old,he⟩,hi⟩:=st;obtain⟨xs,hq,hx⟩:=hg;obtain⟨its,rv,p,_⟩:=I.tuple hq;have hl:=rv.length;have hs:its.toArray.size=i:=by simp;omega
  refine wpAny_pyNext_enum_endD (IZ (A:=X.A.in1) (I.ok.hd hc) it a h2 its.toArray) he (by rw[hs];exact⟨hi,p⟩) λh' k=>⟨rfl,I.many0 (t':=s.toks) hf λc o hc e=>?_⟩;simp only[Ao,Aq,or_false,not_or]at hc;exact k c o hc.2 e
 self:=λ_ _ _ _ _ st h=>wpAny_pyIter_enum st.1.choose_spec h
end L2
namespace DL
open PySem L2 Nb
def bh(kvs:List (aG×Aa))(k:aG):Option Aa:=(kvs.find? λkv=>decide (kv.1=k)).map (·.2)
def dD(kvs:List (aG×Aa))(k:aG)(v:Aa):List (aG×Aa):=
 if (kvs.any λkv=>decide (kv.1=k))=ai then kvs.map (λkv=>if kv.1=k then(kv.1,v)else kv)else kvs++[(k,v)]
def mx(kvs more:List (aG×Aa)):List (aG×Aa):=more.foldl (λacc kv=>dD acc kv.1 kv.2) kvs
section
variable{H H':Hp}{B B':Addr->Prop}{l:List (aG×V)}{m:List (aG×Aa)}{v:V}{d:Aa}{t:Addr}
theorem RdK.len(h:RdK H B l m):l.length=m.length:=by
 unfold RdK at h
 induction h with
 |nil=>rfl
 |cons _ _ ih=>rw[Am,Am,ih]
theorem RdK.val(h:RdK H B l m)(k):(cj l k=ah/\bh m k=ah)\/∃v d,cj l k=ae v/\bh m k=ae d/\RdX H B v d:=by
 unfold RdK at h
 induction h with
 |nil=>exact .inl ⟨rfl,rfl⟩
 |@cons p q ps qs r _ ih=>
  by_cases e:p.1=k
  ·have e':q.1=k:=r.1▸e;exact .inr ⟨p.2,q.2,by simp[cj,Bq,e],by simp[bh,Bq,e'],r.2⟩
  ·have e':¬q.1=k:=r.1▸e;have a1:cj (p::ps) k=cj ps k:=by simp[cj,Bq,e]
   have a2:bh (q::qs) k=bh qs k:=by simp[bh,Bq,e']
   rw[a1,a2];exact ih
theorem RdK.any(h:RdK H B l m)(k):(l.any λkv=>decide (kv.1=k))=(m.any λkv=>decide (kv.1=k)):=by
 unfold RdK at h
 induction h with
 |nil=>rfl
 |cons r _ ih=>rw[C5,C5,ih,r.1]
theorem RdK.map(h:RdK H B l m)(r:RdX H B v d)(k):RdK H B (l.map λkv=>if kv.1=k then(kv.1,v)else kv) (m.map λkv=>if kv.1=k then(kv.1,d)else kv):=by
 unfold RdK at h ⊢
 induction h with
 |nil=>exact .nil
 |@cons p q ps qs r' _ ih=>
  rw[Bb,Bb];refine .cons ?_ ih;by_cases e:p.1=k
  ·rw[if_pos e,if_pos (r'.1▸e:q.1=k)];exact⟨r'.1,r⟩
  ·rw[if_neg e,if_neg (r'.1▸e:¬q.1=k)];exact r'
theorem RdK.append(h:RdK H B l m)(h2:RdK H B l2 m2):RdK H B (l++l2) (m++m2):=by
 unfold RdK at h ⊢
 induction h with
 |nil=>exact h2
 |cons r' _ ih=>exact .cons r' ih
theorem RdK.put(h:RdK H B l m)(r:RdX H B v d)(k):RdK H B (cI l k v) (dD m k d):=by
 unfold cI dD;rw[h.any k]
 split
 ·exact h.map r k
 ·exact h.append (.cons ⟨rfl,r⟩ .nil)
theorem RdK.merge(h2:RdK H B l2 m2):∀{l:List (aG×V)}{m:List (aG×Aa)},RdK H B l m->RdK H B (lP l l2) (mx m m2):=by
 unfold RdK at h2
 induction h2 with
 |nil=>intro l m h;exact h
 |@cons p q ps qs r _ ih=>
  intro l m h;show RdK H B (lP (cI l p.1 p.2) ps) (mx (dD m q.1 q.2) qs);rw[r.1];exact ih (h.put r.2 _)
theorem xW(l:List (aG×V))(k)(v):(cI l k v).length<=l.length+1:=by
 unfold cI
 split
 ·rw[Ab];omega
 ·rw[Ai];exact An _
theorem SY(l2:List (aG×V)):∀l:List (aG×V),(lP l l2).length<=l.length+l2.length:=by
 induction l2 with
 |nil=>intro l;exact An _
 |cons p r ih=>
  intro l;show(lP (cI l p.1 p.2) r).length<=_;have:=ih (cI l p.1 p.2);have:=xW l p.1 p.2;rw[Am];omega
end
section
variable{X:Cx}{a b c e o i f:Expr}{ta tb te td ty tx:TE}{wa wb we wd' wy wx:DT}{pos p:Pos}{K:Ah}
def cS(i:Nat):DT:=λδ n Q=>match δ[i]? with
 |some (ae (.odk kvs))=>Q (.dk kvs) n
 |some (ae (.w x))=>Q x n
 |_=>False
theorem Lu(i)(hN:X.N[i]?=ae x:=by rfl)(hv:fj X.env.scope x:=by first|exact Ce rfl|exact Bs (Ce rfl)|exact Bs (Bs rfl))(hd:(x==("__debug__":Str))=aj:=by decide)
  (hcd:(x==("__classdict__":Str))=aj:=by decide):DE X (.Name x p) (cq i) (cS i):=⟨fW hN hv hd hcd,λC H B σ δ n Q Q' R h k=>by
 unfold cS at h
 split at h
 ·rename_i kvs e;obtain⟨v,h1,a,l,rfl,g2,g3,g4,g5,g6⟩:=R.sl i _ e;exact⟨_,h1,k _ (.dk kvs) H n R (Kp.refl _ _) ⟨a,l,rfl,g2,λz=>R.t0 (z▸g4),g6⟩ h⟩
 ·rename_i x e;obtain⟨v,h1,h2⟩:=R.sl i _ e;exact⟨v,h1,k v x H n R (Kp.refl _ _) h2.1 h⟩
 ·exact h.elim⟩
def gN:Wv->Wv->Int->DQ->Prop:=λx y n Q=>match x,y with
 |.dk kvs,.d (.str k)=>match bh kvs (.inr k)with
  |some d=>Q (.d d) n
  |none=>False
 |_,_=>False
theorem Jw(hu:X.A.units+64 < Eo)(ho:DE X o td wd')(hi:DE X i ty wy)(hs:ib i:=by exact λ_ _=>rfl):DE X (.Subscript o i pos) (qe td ty) (w2 wd' wy gN):=⟨sR ⋯ ho.pe hi.pe hs,λC H B σ δ n Q Q' R h k=>
 ho.sd C H B σ δ n _ _ R h λv x H1 n1 R1 k1 r1 q1=>hi.sd C H1 B σ δ n1 _ _ R1 q1 λu y H2 n2 R2 k2 r2 q2=>by
  have r1':=r1.kp k2 R1.bt;unfold gN at q2
  split at q2
  ·rename_i kvs key;obtain⟨a,l,rfl,g1,g2,g3⟩:=r1';cases(show RdX H2 B u (.str key)from r2);rcases g3.val (.inr key)with⟨e1,e2⟩|⟨v,d,e1,e2,e3⟩
   ·rw[e2]at q2;exact q2.elim
   ·rw[e2]at q2;exact⟨a,v,rfl,.inl ⟨l,.inr key,.inl g1,rfl,e1.symm⟩,k v (.d d) H2 n2 R2 (k1.trans k2) e3 q2⟩
  ·exact q2.elim⟩
def fE(neg:Bool):Wv->Wv->Int->DQ->Prop:=λx y n Q=>match x,y with
 |.d (.str k),.dk kvs=>Q (.d (.bool (if neg then !(bh kvs (.inr k)).isSome else(bh kvs (.inr k)).isSome))) n
 |_,_=>False
theorem Kc(hi:DE X i ty wy)(ho:DE X o td wd'):eY (lW ty td) (w2 wy wd' (fE aj)):=λC H B σ δ n Q Q' R h k=>
 hi.sd C H B σ δ n _ _ R h λv x H1 n1 R1 k1 r1 q1=>ho.sd C H1 B σ δ n1 _ _ R1 q1 λu y H2 n2 R2 k2 r2 q2=>by
  have r1':=r1.kp k2 R1.bt;unfold fE at q2
  split at q2
  ·rename_i key kvs;obtain⟨a,l,rfl,g1,g2,g3⟩:=r2;cases(show RdX H2 B v (.str key)from r1');refine⟨a,cj l (.inr key),rfl,.inl ⟨l,.inr key,.inl g1,rfl,rfl⟩,k _ _ H2 n2 R2 (k1.trans k2) (wd (.bl _)) ?_⟩;rcases g3.val (.inr key)with⟨e1,e2⟩|⟨v,d,e1,e2,e3⟩
   ·rw[e1];rw[e2]at q2;exact q2
   ·rw[e1];rw[e2]at q2;exact q2
  ·exact q2.elim
theorem TX(hi:DE X i ty wy)(ho:DE X o td wd'):eY (mq ty td) (w2 wy wd' (fE ai)):=λC H B σ δ n Q Q' R h k=>
 hi.sd C H B σ δ n _ _ R h λv x H1 n1 R1 k1 r1 q1=>ho.sd C H1 B σ δ n1 _ _ R1 q1 λu y H2 n2 R2 k2 r2 q2=>by
  have r1':=r1.kp k2 R1.bt;unfold fE at q2
  split at q2
  ·rename_i key kvs;obtain⟨a,l,rfl,g1,g2,g3⟩:=r2;cases(show RdX H2 B v (.str key)from r1');refine⟨a,cj l (.inr key),rfl,.inl ⟨l,.inr key,.inl g1,rfl,rfl⟩,k _ _ H2 n2 R2 (k1.trans k2) (wd (.bl _)) ?_⟩;rcases g3.val (.inr key)with⟨e1,e2⟩|⟨v,d,e1,e2,e3⟩
   ·rw[e1];rw[e2]at q2;exact q2
   ·rw[e1];rw[e2]at q2;exact q2
  ·exact q2.elim
theorem Kz(hu:X.A.units+64 < Eo)(hi:DE X i ty wy)(ho:DE X o td wd')(hm:Cf .In o=aj:=by with_unfolding_all rfl):DE X (.Compare i [.In] [o] pos) (lW ty td) (w2 wy wd' (fE aj)):=⟨yR (Qb ⋯ hi.pe ho.pe) hm,Kc hi ho⟩
theorem KU(hu:X.A.units+64 < Eo)(hi:DE X i ty wy)(ho:DE X o td wd')(hm:Cf .NotIn o=aj:=by with_unfolding_all rfl):DE X (.Compare i [.NotIn] [o] pos) (mq ty td) (w2 wy wd' (fE ai)):=⟨yR (yz ⋯ hi.pe ho.pe) hm,TX hi ho⟩
abbrev kL:=Sl->Int->(List (aG×Aa)->Int->Prop)->Prop
def vn(t:TE)(w:kL):Prop:=∀(C:Ctx)(H:Hp)(B:Addr->Prop)(σ:St)(δ:Sl)(n:Int)(Q:List (aG×Aa)->Int->Prop)(Q':VK),Rel C H B σ δ n->w δ n Q->
 (∀a l kvs H' n',Rel C H' B σ δ n'->Kp C.t H H'->H a=ah->H' a=ae (.dK l)->l.length<=1000->RdK H' (λb=>B b\/b=a) l kvs->Q kvs n'->Q' (.ref a) H')->t σ H Q'
structure DN(X:Cx)(e:Expr)(t:TE)(w:kL):Prop where
 pe:PE X e t
 sd:vn t w
def jg:kL:=λ_ n Q=>Q [] n
theorem MW:DN X (.Dict [] [] pos) DO jg:=⟨Jv,λC H B σ δ n Q Q' R q k=>λa ha=>k a [] [] _ n (R.new ha) (Kp.new ha) ha bB (Bm _) .nil q⟩
def lF:List Aa->Option (List (aG×Aa))
 |[]=>ae []
 |.tuple [.str k,d]::r=>(lF r).map ((.inr k,d)::·)
 |_=>ah
theorem HN:∀{xs:List V}{ds:List Aa}{ps:List (aG×Aa)},RdXs H B xs ds->lF ds=ae ps->∃qs:List (Addr×aG×V),xs=qs.map (λp=>V.ref p.1)/\(∀p∈qs,H p.1=ae (.tup [kV p.2.1,p.2.2]))/\RdK H B (qs.map (·.2)) ps
 |_,_,ps,.nil,h=>by
  cases h;exact⟨[],rfl,λp (hp:p∈[])=>absurd hp Aq,Paired.nil⟩
 |_,_,ps,.cons (d:=d) (ds:=ds) h1 h2,h=>by
  unfold lF at h
  split at h
  ·rename_i e;cases e
  ·rename_i k d' r e;cases e;cases e2:lF ds with
   |none=>rw[e2]at h;cases h
   |some ps'=>
    rw[e2]at h;cases h;obtain⟨qs,f1,f2,f3⟩:=HN h2 e2;cases h1 with
    |@tup a ys _ g1 g2 g3 g4=>
     cases g4 with
     |cons c1 c2=>
      cases c2 with
      |cons c3 c4=>
       cases c4;cases c1;refine⟨(a,.inr k,_)::qs,by rw[f1];rfl,λp hp=>?_,.cons ⟨rfl,c3⟩ f3⟩;rcases Ao.mp hp with rfl|z
       ·exact g1
       ·exact f2 p z
  ·cases h
def yM:List V->Hp->VK->Prop:=λxs H Q=>∃(src:Addr)(ps:List (Addr×aG×V)),xs=[.ref src]/\H src=ae (.tup (ps.map λp=>V.ref p.1))/\(∀p∈ps,H p.1=ae (.tup [kV p.2.1,p.2.2]))/\ps.length<=1000 /\
  ∀l,H l=ah->Q (.ref l) (L2.upd H l (.dK (lP [] (ps.map (·.2)))))
def i8(w:DT):kL:=λδ n Q=>w δ n λx n1=>match x with
 |.d (.tuple ds)=>match lF ds with
  |some ps=>ds.length<=1000/\Q (mx [] ps) n1
  |none=>False
 |_=>False
theorem FO(hh:X.A.handled=ah)(hg:Gl X "dict")(hm:X.mg "dict"=ah)(he:DE X e te we)(hv:By "dict"=ae (.type "dict"):=by decide +kernel)
  (he':Au [e] X.env=(aj,eval e X.env)::Au [] X.env:=by rfl) (hpl:(Cy pos (Au [] X.env)).any (·.1)=aj:=by rfl):DN X (.Call (.Name "dict" p) [e] [] pos) (fU yM (dB te ck)) (i8 we):=
 ⟨kI (NZ hh) hg hm hv (cU he.pe eI he') ∎ ∎ he' hpl,λC H B σ δ n Q Q' R q k=>
  he.sd C H B σ δ n _ _ R q λv x H1 n1 R1 k1 r1 q1=>by
   split at q1
   ·rename_i ds
    split at q1
    ·rename_i ps ep;cases(show RdX H1 B v (.tuple ds)from r1)with
     |@tup a ys _ g1 g2 g3 g4=>
      obtain⟨qs,f1,f2,f3⟩:=HN g4 ep;subst f1;have hl:qs.length<=1000:=by have:=g4.len;rw[Ab]at this;rw[this];exact q1.1
      refine⟨a,qs,rfl,g1,f2,hl,λl hl0=>?_⟩;refine k l _ (mx [] ps) _ n1 (R1.new hl0) (k1.trans (Kp.new hl0)) (R1.was k1 hl0) bB ?_ ?_ q1.2
      ·have:=SY (qs.map (·.2)) [];rw[Ab]at this;have z:([]:List (aG×V)).length=0:=rfl;omega
      ·refine RdK.merge ?_ .nil;exact f3.move λb o e n=>⟨by rw[aY (cR e hl0)];exact e,λz=>z.elim n λq=>cR e hl0 q⟩
    ·exact q1.elim
   ·exact q1.elim⟩
def iN(i:Nat)(w:kL):aP:=λδ n K=>w δ n λkvs n1=>K.nx (δ.set i (ae (.odk kvs))) n1
theorem Ui{i:Nat}(hN:X.N.Nodup)(hi:X.N[i]?=ae x)(hx:ki X.env.scope x)(he:DN X e te w)(hs:Dw e (ae (.Name x pos')) pos.line X.env=pure aj:=by rfl)(hf:X.fn x=ai\/X.env.scope.names.lookup x=ae .local:=by first|exact .inl rfl|exact .inr rfl|assumption):
  DS X (.Assign [.Name x pos'] e pos) (dE te (g9 i)) (iN i w):=⟨jF hN hi hx he.pe hs hf,λC H B σ δ n K D R q E=>
 he.sd C H B σ δ n _ _ R q λa l kvs H1 n1 R1 k1 h0 h1 h2 h3 q1=>by
  refine E.nx _ _ _ _ _ (R.own R1 k1 h0 (by rw[h1];exact λz=>nomatch z) rfl ?_) q1;exact⟨a,l,rfl,h1,.inr rfl,R.h0 h0,h2,h3⟩⟩
def nz(i:Nat)(wy wv:DT):aP:=λδ n K=>match δ[i]? with
 |some (ae (.odk kvs))=>wv δ n λv n1=>wy δ n1 λy n2=>match v,y with
  |.d d,.d (.str k)=>kvs.length < 1000/\K.nx (δ.set i (ae (.odk (dD kvs (.inr k) d)))) n2
  |_,_=>False
 |_=>False
theorem LS{i:Nat}{xp sp:Pos}(hu:X.A.units+64 < Eo)(hN:X.N[i]?=ae x)(hj:DE X j tj wj)(he:DE X e te we)(hv:fj X.env.scope x:=by first|exact Ce rfl|exact Bs (Ce rfl)|exact Bs (Bs rfl))(hd:(x==("__debug__":Str))=aj:=by decide)
  (hcd:(x==("__classdict__":Str))=aj:=by decide) (hs:Dw e (ae (.Subscript (.Name x xp) j sp)) pos.line X.env=pure aj:=by rfl):
  DS X (.Assign [.Subscript (.Name x xp) j sp] e pos) (rp (cq i) tj te) (nz i wj we):=
 ⟨ux ⋯ (fW hN hv hd hcd) hj.pe he.pe hs,λC H B σ δ n K D R q E=>by
  unfold nz at q
  split at q
  ·rename_i kvs ei;refine he.sd C H B σ δ n _ _ R q λu y H1 n1 R1 k1 r1 q1=>?_;obtain⟨v,hv,a,l,rfl,e2,e3,e4,e5,e6⟩:=R1.sl i _ ei;refine⟨_,hv,hj.sd C H1 B σ δ n1 _ _ R1 q1 λw z H2 n2 R2 k2 r2 q2=>?_⟩
   split at q2
   ·rename_i d key;cases(show RdX H2 B w (.str key)from r2);have hat:a≠C.t:=λz=>R.t0 (z▸e4);have e2':=k2 _ _ e2 hat;have r1':RdX H2 B u d:=r1.kp k2 R1.bt;have e6':RdK H2 B l kvs:=e6.move λb o e n=>⟨k2 b o e λz=>n (z▸R1.bt),n⟩;have hl:l.length < 1000:=by rw[e6'.len];exact q2.1
    refine⟨a,_,rfl,DPut.k (k:=.inr key) e2' (Bo hl (eF (An _))),?_⟩;refine E.nx _ _ _ _ _ (R2.mutOwn ei rfl hv e3 e4 ?_ rfl) q2.2;refine⟨a,_,rfl,bB,e3,e4,?_,?_⟩
    ·have:=xW l (.inr key) u;omega
    ·exact(e6'.put r1' _).move λb o e n=>⟨by rw[aY λ(z:b=a)=>n (z▸e3)];exact e,n⟩
   ·exact q2.elim
  ·exact q.elim⟩
def VO(i:Nat):DT:=λδ n Q=>match δ[i]? with
 |some (ae (.own ds))=>Q (.d (.int ds.length)) n
 |_=>False
def nh(i:Nat)(w:DT):DT:=λδ n Q=>w δ n λx n1=>match x,δ[i]? with
 |.d a,ae (ae (.own ds))=>fA a=ai/\ds.all fA=ai/\Q (.d (.bool (bU a ds))) n1
 |_,_=>False
theorem NV{i:Nat}(h:eY ta wa):eY (d3 (iO K aj) ta (cq i)) (nh i wa):=λC H B σ δ n Q Q' R q k=>
 h C H B σ δ n _ _ R q λv x H1 n1 R1 k1 r1 q1=>by
  split at q1
  ·rename_i da ds e;have r1:RdX H1 B v da:=r1;obtain⟨u,h1,a,xs,rfl,g2,g3,g4,g5,g6⟩:=R1.sl i _ e;refine⟨_,h1,a,xs,rfl,.inl (SqL.of g2),lI r1 q1.1,kW g6 q1.2.1,k _ _ H1 n1 R1 k1 (wd (.bl _)) ?_⟩;rw[l6 r1 g6];exact q1.2.2
  ·exact q1.elim
theorem MX(i){x:Str}{xp:Pos}(ha:DE X a ta wa)(hK:X.K=K:=by rfl)(hN:X.N[i]?=ae x:=by rfl)(hv:fj X.env.scope x:=by first|exact Ce rfl|exact Bs (Ce rfl)|exact Bs (Bs rfl))(hd:(x==("__debug__":Str))=aj:=by decide)
  (hcd:(x==("__classdict__":Str))=aj:=by decide) (hm:Cf .In (Expr.Name x xp)=aj:=by with_unfolding_all rfl):DC X (.Compare a [.In] [.Name x xp] pos) (jz (d3 (iO K aj) ta (cq i))) (cT (nh i wa)):=
 ⟨kB (ur hK) ha.pe (fW hN hv hd hcd) hm,kU (NV ha.sd)⟩
end
section
variable{X:Cx}{a b c e o i f:Expr}{ta tb te td ty tx:TE}{wa wb we wd' wy wx:DT}{pos p:Pos}{K:Ah}
def bx(ps:List (Str×Aa)):List (aG×Aa):=ps.map λp=>(Dg p.1,p.2)
def j0(ps:List (Str×Aa)):Prop:=ps.Pairwise λa b=>¬b.1.cps.toList < a.1.cps.toList
def qd(w:DT):eW:=λδ n Q=>w δ n λx n1=>match x with
 |.dk kvs=>∃ps:List (Str×Aa),kvs=bx ps/\ps.length < 64/\(ps.map (·.1)).Nodup/\(∀p∈ps,p.1.length<=1000/\fA p.2=ai)/\∀ps':List (Str×Aa),ps'.Perm ps->j0 ps'->Q (ps'.map λp=>.tuple [.str p.1,p.2]) n1
 |_=>False
theorem AA:∀{l:List (aG×V)}{ps:List (Str×Aa)},RdK H B l (bx ps)->∃xv:List V,xv.length=ps.length/\l=(((ps.map (·.1)).zip xv).map λp=>((Dg p.1:aG),p.2))/\RdXs H B xv (ps.map (·.2))
 |[],[],_=>⟨[],rfl,rfl,.nil⟩
 |[],_::_,h=>nomatch h
 |_::_,[],h=>nomatch h
 |q::l,p::ps,.cons r h=>by
  obtain⟨xv,e1,e2,e3⟩:=AA (l:=l) (ps:=ps) h;refine⟨q.2::xv,by simp[e1],?_,.cons r.2 e3⟩;rw[e2];have r1:q.1=(Dg p.1:aG):=r.1;have:q=((Dg p.1:aG),q.2):=by rw[<-r1]
  rw[this];rfl
def RF:V->List V->Hp->VK->Prop:=λx vs H Q=>∃d kvs,x=.ref d/\vs=[]/\H d=ae (.dK kvs)/\∀v,H v=ah->Q (.ref v) (upd H v (kY d v))
theorem EU{α β:Type}{f:α->β}{l:List α}{i:Nat}{x:α}{y:β}(h:i < l.length):(l.map f).getD i y=f (l.getD i x):=by simp[h]
theorem VB{ap ip:Pos}(hh:X.A.handled=ah)(hg:Gl X "sorted")(hm:X.mg "sorted"=ah)(ho:DE X o td wd')(hv:By "sorted"=ae (.builtin "sorted"):=by decide +kernel)(hK:X.K=K:=by rfl)
  (hbase:E4 o "items" X.env (eval o X.env)=eval o X.env:=by rfl) (hline:(ap.endLine==ip.line)=ai:=by rfl)
  (he':Au [Expr.Call (.Attribute o "items" ap) [] [] ip] X.env=(aj,eval (Expr.Call (.Attribute o "items" ap) [] [] ip) X.env)::Au [] X.env:=by rfl) (hpl:(Cy pos (Au [] X.env)).any (·.1)=aj:=by rfl):
  DF X (.Call (.Name "sorted" p) [.Call (.Attribute o "items" ap) [] [] ip] [] pos) (fU AH (dB (pO K "dict" RF td) ck)) (qd wd'):=by
 subst hK;refine⟨jP (Sy hh) hg hm hv (cU (UU PySem.F.plainAttrs_dict PySem.F.slot_dict_items PySem.F.type_dict_items Q6 ho.pe hbase hline) eI he') ∎ ∎ he' hpl,λC H B σ δ n Q Q' R q k=>
  ho.sd C H B σ δ n _ _ R q λv x H1 n1 R1 k1 r1 q1=>?_⟩
 cases x with
 |d _=>exact q1.elim
 |tp=>exact q1.elim
 |ln _=>exact q1.elim
 |ob _=>exact q1.elim
 |dk kvs=>
  obtain⟨a,l,rfl,g1,g2,g3⟩:=r1;obtain⟨ps,rfl,h64,nd,hps,kq⟩:=q1;obtain⟨xv,ex1,ex2,ex3⟩:=AA g3;refine⟨.inr (.inr (.inl ⟨rfl,.inl ⟨l,g1⟩⟩)),a,l,rfl,rfl,g1,λv hv=>?_⟩;have R2:=R1.new (o:=kY a v) hv;have kp2:Kp C.t H1 (upd H1 v (kY a v)):=Kp.new hv;have hne:a≠v:=cR g1 hv;refine⟨v,a,ps.map (·.1),xv,rfl,bB,by rw[Ab,ex1],by rw[aY hne,g1,ex2],by rw[Ab];exact h64,nd,kW ex3 ?_,λD as idx H' hla hidx hpw sm hD has hD' hit=>?_⟩
  ·rw[Dq];intro d hd;obtain⟨p,hp,rfl⟩:=A7.mp hd;exact(hps p hp).2
  ·rw[Ab]at hla hidx;have R3:=R2.same sm;have k3:Kp C.t H H':=(k1.trans kp2).trans λb o e _=>sm b o e;have hDn:H D=ah:=R1.was k1 (by
    cases q:H1 D with
    |none=>rfl
    |some o=>
     have:upd H1 v (kY a v) D=ae o:=by rw[aY (cR q hv)];exact q
     rw[hD]at this;cases this)
   have hlt:∀i∈idx,i < ps.length:=λi hi=>B6.mp (hidx.mem_iff.mp hi);have lidx:idx.length=ps.length:=by rw[hidx.length_eq,Cu]
   refine k D _ _ H' n1 R3 k3 hDn hD' (by rw[Ab,lidx];exact eF ⋯) ?_ (kq (idx.map λi=>ps.getD i (⟨#[]⟩,.none)) ?_ ?_)
   ·rw[Bt];have key:∀m:List Nat,(∀i∈m,i∈idx)->RdXs H' (λb=>B b\/b=D) (m.map λi=>V.ref (f9 as (ps.map (·.1)) xv i).1) (m.map ((λp=>PyData.tuple [.str p.1,p.2]) ∘ λi=>ps.getD i (⟨#[]⟩,.none))):=by
     intro m
     induction m with
     |nil=>intro _;exact .nil
     |cons i r ih=>
      intro hm;have hi:=hm i As;have hil:=hlt i hi;refine .cons ?_ (ih λj hj=>hm j (Ar _ hj));have ht:=hit i hi;have hia:i < as.length:=by rw[hla];exact hil
      have eA:(f9 as (ps.map (·.1)) xv i).1=as[i]:=by show as.getD i 0=_;simp[hia]
      have eK:(f9 as (ps.map (·.1)) xv i).2.1=ps[i].1:=by show(ps.map (·.1)).getD i ⟨#[]⟩=_;simp[hil]
      have hix:i < xv.length:=by rw[ex1];exact hil
      have eX:(f9 as (ps.map (·.1)) xv i).2.2=xv[i]:=by show xv.getD i .non=_;simp[hix]
      rw[eA,eK,eX]at ht;show RdX H' _ (.ref (f9 as (ps.map (·.1)) xv i).1) _;rw[eA];have eP:ps.getD i (⟨#[]⟩,.none)=ps[i]:=by simp[hil]
      show RdX H' _ (.ref as[i]) (.tuple [.str (ps.getD i (⟨#[]⟩,.none)).1,(ps.getD i (⟨#[]⟩,.none)).2]);rw[eP];have hAn:=has as[i] (Cg hia);have nB:¬B as[i]:=R2.nb hAn;have nD:as[i]≠D:=λz=>by rw[z,hD']at ht;cases ht
      refine .tup ht (λz=>z.elim nB nD) (by show 2<=Az;decide) (.cons (.str _ (eF (hps ps[i] (Cg hil)).1)) (.cons ?_ .nil));obtain⟨d,f1,f2⟩:=ex3.get (Af hix);rw[Aw,Af hil]at f1;cases f1;exact f2.move λb o e n=>⟨sm b o (by rw[aY (cR e hv)];exact e),λz=>z.elim n λq=>by
       have e2:upd H1 v (kY a v) b=ae o:=by rw[aY (cR e hv)];exact e
       rw[q,hD]at e2;cases e2⟩
    exact key idx λ_ h=>h
   ·have h1:=hidx.map λi=>ps.getD i ((⟨#[]⟩:Str),PyData.none);have h2:(A3 ps.length).map (λi=>ps.getD i ((⟨#[]⟩:Str),PyData.none))=ps:=by
     apply Dn (by simp);intro i h1 h2;simp[h2]
    rw[h2]at h1;exact h1
   ·unfold j0;rw[Ey];rw[Ey]at hpw;refine List.Pairwise.imp_of_mem (λ{x y} hx hy h=>?_) hpw;rw[EU (x:=((⟨#[]⟩:Str),PyData.none)) (hlt x hx),EU (x:=((⟨#[]⟩:Str),PyData.none)) (hlt y hy)]at h;exact h
theorem wq:∀{ys:List Str},(∀y∈ys,y.length<=1000)->RdXs H B (ys.map V.str) (ys.map .str)
 |[],_=>.nil
 |y::r,h=>.cons (.str _ (eF (h y As))) (wq λz hz=>h z (Ar _ hz))
def MJ:List Wv->Int->DQ->Prop:=λxs n Q=>match xs with
 |[.d (.int i)]=>Q (.d (.int i)) n
 |[.d (.bool b)]=>Q (.d (.int (if b then 1 else 0))) n
 |_=>False
def dz(xs ys:List Aa):List Aa:=List.zipWith (λx y=>.tuple [x,y]) xs ys
def jN(w w':DT):gU:=λδ n Q=>w δ n λx n1=>w' δ n1 λy n2=>match x,y with
 |.d (.tuple xs),.d (.tuple ys)=>xs.length=ys.length/\Q (dz xs ys) n2
 |_,_=>False
theorem Mi{elts:List Expr}{kk:Nat}{tpos:Pos}(hg:Gl X "zip")(hm:X.mg "zip"=ah)(ha:DE X a ta wa)(hb:DE X b tb wb)(hK:X.K=K:=by rfl)(hs:Au [a,b] X.env=[(aj,eval a X.env),(aj,eval b X.env)]:=by rfl)(hs2:Au [b] X.env=[(aj,eval b X.env)]:=by rfl)
  (he1:Au [a,b] X.env=(aj,eval a X.env)::Au [b] X.env:=by rfl) (he2:Au [b] X.env=(aj,eval b X.env)::Au [] X.env:=by rfl):
  DI X (.Tuple elts kk tpos) (.Call (.Name "zip" p) [a,b] [] pos) (nR K (dB ta (dB tb ck))) (jN wa wb):=by
 subst hK;refine⟨N9 hg hm (cU ha.pe (cU hb.pe eI he2) he1) hs hs2,λC H B σ δ n Q Q' R q k=>ha.sd C H B σ δ n _ _ R q λv x H1 n1 R1 k1 r1 q1=>hb.sd C H1 B σ δ n1 _ _ R1 q1 λu y H2 n2 R2 k2 r2 q2=>?_⟩;have r1':=r1.kp k2 R1.bt
 split at q2
 ·rename_i xs ys;cases(show RdX H2 B v (.tuple xs)from r1')with
  |@tup aa vs _ e1 e2 e3 e4=>
   cases(show RdX H2 B u (.tuple ys)from r2)with
   |@tup ab ws _ f1 f2 f3 f4=>
    refine⟨aa,ab,rfl,⟨vs,SqT.of e1⟩,⟨ws,SqT.of f1⟩,k _ (dz xs ys) H2 n2 R2 (k1.trans k2) (λfz th=>?_) q2.2⟩;have za:fz aa=ae (.tup vs):=th.2 _ _ e1 e2;have zb:fz ab=ae (.tup ws):=th.2 _ _ f1 f2;have lz:(dz xs ys).length=xs.length:=by unfold dz;rw[List.length_zipWith,q2.1,Nat.min_self]
    refine⟨by rw[lz,<-e4.len];exact e3,λi H hH hi=>?_,λH hH=>?_,λi H x H' d hH hd hy=>?_⟩
    ·rw[lz]at hi;have h1:i < vs.length:=by rw[e4.len];exact hi
     have h2:i < ws.length:=by rw[f4.len,<-q2.1];exact hi
     exact⟨vs,ws,vs[i],ws[i],SqT.of (hH _ _ za),SqT.of (hH _ _ zb),Af h1,Af h2⟩
    ·exact⟨vs,SqT.of (hH _ _ za),by rw[lz,e4.len];exact An _⟩
    ·obtain⟨T,x1,y1,rfl,hT,rfl,hx,hy⟩:=hy;refine⟨λb o e=>by rw[aY (cR e hT)];exact e,λB' hB hBa=>?_⟩;have hi:i < xs.length:=by rw[<-lz];exact(Av.mp hd).1
     have hi2:i < ys.length:=by rw[<-q2.1];exact hi
     have ed:d=.tuple [xs[i],ys[i]]:=by
      unfold dz at hd;rw[List.getElem?_zipWith,Af hi,Af hi2]at hd;exact(A8 hd).symm
     subst ed;obtain⟨u1,hu1,ru1⟩:=e4.getD (Af hi);obtain⟨u2,hu2,ru2⟩:=f4.getD (Af hi2);have t1:=hx _ (SqT.of (hH _ _ za));have t2:=hy _ (SqT.of (hH _ _ zb));rw[hu1]at t1;rw[hu2]at t2;cases t1;cases t2;have mv:∀b o,H2 b=ae o->¬B b->upd H T (.tup [x1,y1]) b=ae o/\¬B' b:=λb o e ne=>by
      have:=hH _ _ (th.2 _ _ e ne);exact⟨by rw[aY (cR this hT)];exact this,hB _ _ (th.2 _ _ e ne)⟩
     exact .tup bB (λz=>hBa T z hT) (by show 2<=Az;decide) (.cons (ru1.move mv) (.cons (ru2.move mv) .nil))
 ·exact q2.elim
end
end DL
namespace L2
open PySem PySem.Spec PyProof.Rows PySem.SeqAt
end L2
namespace DL
open PySem L2 Nb
section
variable{X:Cx}{K:Ah}
def uO(K:Ah)(f:Aa->Aa->Option Bool):R2:=λx y H Q=>∃d e b,RdD K H x d/\RdD K H y e/\d.canLay0=ai/\e.canLay0=ai/\d.depth<=20/\e.depth<=20/\f d e=ae b/\Q (.bl b) H
theorem zQ(hu:X.A.units+64 < Eo)(hK:X.K=K:=by rfl):OpR X (Bx .Eq) (uO K λd e=>ae (Bz d e)):=by
 subst hK;intro pins s σ H x y v u Q I rx ry h;obtain⟨d,e,b,h1,h2,h3,h4,h5,h6,h7,q⟩:=h;cases h7;obtain⟨as,r1⟩:=RdD.reads I h1 rx;obtain⟨bs,r2⟩:=RdD.reads I h2 ry;exact SeqAt.compareEq_reads r1 r2 h3 h4 ⋯ ⟨.bl _,H,I,rfl,q⟩
theorem P4(hu:X.A.units+64 < Eo)(hK:X.K=K:=by rfl):OpR X (Bx .NotEq) (uO K λd e=>ae (!Bz d e)):=by
 subst hK;intro pins s σ H x y v u Q I rx ry h;obtain⟨d,e,b,h1,h2,h3,h4,h5,h6,h7,q⟩:=h;cases h7;obtain⟨as,r1⟩:=RdD.reads I h1 rx;obtain⟨bs,r2⟩:=RdD.reads I h2 ry;exact SeqAt.compareNe_reads r1 r2 h3 h4 ⋯ ⟨.bl _,H,I,rfl,q⟩
def iV(f:Aa->Aa->Option Bool):Wv->Wv->Int->DQ->Prop:=λx y n Q=>match x,y with
 |.d d,.d e=>d.canLay0=ai/\e.canLay0=ai/\d.depth<=20/\e.depth<=20/\∃b,f d e=ae b/\Q (.d (.bool b)) n
 |_,_=>False
theorem tN:bE (uO K f) (iV f):=λC H B σ δ n x y p q Q Q' R rx ry h1 k=>by
 unfold iV at h1
 split at h1
 ·rename_i d e;obtain⟨a1,a2,a3,a4,b,a5,a6⟩:=h1;exact⟨d,e,b,RdX.rd rx,RdX.rd ry,a1,a2,a3,a4,a5,k _ _ H n R (Kp.refl _ _) (wd (.bl b)) a6⟩
 ·exact h1.elim
end
end DL
namespace L2
open PySem PySem.Spec PyProof.Rows PySem.W
end L2
namespace DL
open PySem L2 Nb
section
variable{X:Cx}{o:Expr}{td:TE}{wd':DT}{pos p p2 ip:Pos}{W:B3}
def me(ys:List Str):Prop:=ys.Pairwise λa b=>¬b.cps.toList < a.cps.toList
variable{a:Expr}{ta:TE}{wa:DT}{K:Ah}
end
section
variable{X:Cx}{a b c e o i f:Expr}{ta tb te td ty tx:TE}{wa wb we wd' wy wx:DT}{pos p:Pos}{K:Ah}
def dM(i:Nat):DT:=λδ n Q=>match δ[i]? with
 |some (ae (.own ds))=>Q (.ln ds) n
 |some (ae (.w x))=>Q x n
 |_=>False
theorem RM(i)(hN:X.N[i]?=ae x:=by rfl)(hv:fj X.env.scope x:=by first|exact Ce rfl|exact Bs (Ce rfl)|exact Bs (Bs rfl))(hd:(x==("__debug__":Str))=aj:=by decide)
  (hcd:(x==("__classdict__":Str))=aj:=by decide):DE X (.Name x p) (cq i) (dM i):=⟨fW hN hv hd hcd,λC H B σ δ n Q Q' R h k=>by
 unfold dM at h
 split at h
 ·rename_i ds e;obtain⟨v,h1,a,xs,rfl,g2,g3,g4,g5,g6⟩:=R.sl i _ e;exact⟨_,h1,k _ (.ln ds) H n R (Kp.refl _ _) ⟨a,xs,rfl,g2,λz=>R.t0 (z▸g4),g5,g6⟩ h⟩
 ·rename_i x e;obtain⟨v,h1,h2⟩:=R.sl i _ e;exact⟨v,h1,k v x H n R (Kp.refl _ _) h2.1 h⟩
 ·exact h.elim⟩
def aX:Wv->Wv->Int->DQ->Prop:=λx y n Q=>match x with
 |.ln ds=>match y with
  |.d (.int i)=>match cX ds i with
   |some d=>Q (.d d) n
   |none=>False
  |_=>False
 |x=>aA x y n Q
theorem Tv:bE (kA K) aX:=λC H B σ δ n x y p q Q Q' R rx ry h1 k=>by
 cases p with
 |ln ds=>
  unfold aX at h1;dsimp only at h1
  split at h1
  ·rename_i i
   split at h1
   ·rename_i d e;cases(show RdX H B y (.int i)from ry);obtain⟨ay,ys,rfl,e1,e2,e3,e4⟩:=rx;obtain⟨v,f1,f2⟩:=tQ e4 e;exact .inl ⟨ay,ys,i,v,rfl,rfl,SqL.of e1,f1,k _ _ H n R (Kp.refl _ _) (wd f2) h1⟩
   ·exact h1.elim
  ·exact h1.elim
 |d _=>exact nJ C H B σ δ n x y _ q Q Q' R rx ry h1 k
 |tp=>exact nJ C H B σ δ n x y _ q Q Q' R rx ry h1 k
 |dk _=>exact nJ C H B σ δ n x y _ q Q Q' R rx ry h1 k
 |ob _=>exact nJ C H B σ δ n x y _ q Q Q' R rx ry h1 k
theorem Qt(ha:DE X a ta wa)(hb:DE X b tb wb)(hK:X.K=K:=by rfl)(hs:mY b:=by exact λ_ _=>rfl):DE X (.Subscript a b pos) (d3 (kA K) ta tb) (w2 wa wb aX):=by
 subst hK;exact⟨gZ sN ha.pe hb.pe hs,mB Tv ha.sd hb.sd⟩
def fB(neg:Bool):Wv->Wv->Int->DQ->Prop:=λx y n Q=>match y with
 |.ln ds=>match x with
  |.d a=>fA a=ai/\ds.all fA=ai/\Q (.d (.bool (if neg then !bU a ds else bU a ds))) n
  |_=>False
 |y=>fO neg x y n Q
theorem M8:bE (iO K neg) (fB neg):=λC H B σ δ n x y p q Q Q' R rx ry h1 k=>by
 cases q with
 |ln ds=>
  unfold fB at h1;dsimp only at h1
  split at h1
  ·rename_i da;obtain⟨f1,f2,q⟩:=h1;have rx:RdX H B x da:=rx;obtain⟨ay,ys,rfl,e1,e2,e3,e4⟩:=ry;refine⟨ay,ys,rfl,.inl (SqL.of e1),lI rx f1,kW e4 f2,?_⟩;rw[l6 rx e4];exact k _ _ H n R (Kp.refl _ _) (wd (.bl _)) q
  ·exact h1.elim
 |d _=>exact mi C H B σ δ n x y p _ Q Q' R rx ry h1 k
 |tp=>exact mi C H B σ δ n x y p _ Q Q' R rx ry h1 k
 |dk _=>exact mi C H B σ δ n x y p _ Q Q' R rx ry h1 k
 |ob _=>exact mi C H B σ δ n x y p _ Q Q' R rx ry h1 k
def gf:List Wv->Int->DQ->Prop:=λxs n Q=>match xs with
 |[.ln ds]=>Q (.d (.int ds.length)) n
 |xs=>bj xs n Q
theorem Kl:eJ (xN K) gf:=λC H B σ δ n vs xs Q Q' R r h k=>by
 unfold gf at h
 split at h
 ·rename_i ds;cases r with
  |cons r1 r2=>
   cases r2;obtain⟨ay,ys,rfl,e1,e2,e3,e4⟩:=r1;refine .inr ⟨ay,ys,rfl,.inl (SqL.of e1),?_⟩;rw[e4.len];exact k _ _ H n R (Kp.refl _ _) (wd (.int _)) h
 ·exact DR C H B σ δ n vs xs Q Q' R r h k
def cn:Wv->Wv->Int->DQ->Prop:=λx y n Q=>match x,y with
 |.ln ds,.d (.list [])=>Q (.d (.bool ds.isEmpty)) n
 |x,y=>aT x y n Q
theorem Li:bE (mj K) cn:=λC H B σ δ n x y p q Q Q' R rx ry h1 k=>by
 unfold cn at h1
 split at h1
 ·rename_i ds;obtain⟨ax,xs,rfl,e1,e2,e3,e4⟩:=rx;cases(show RdX H B y (.list [])from ry)with
  |@lst ay ys _ f1 f2 f3 f4=>
   cases f4;refine .inr (.inr ⟨ax,ay,xs,rfl,rfl,SqL.of e1,SqL.of f1,?_⟩);have:xs.isEmpty=ds.isEmpty:=by cases e4<;>rfl
   rw[this];exact k _ _ H n R (Kp.refl _ _) (wd (.bl _)) h1
 ·exact yC C H B σ δ n x y p q Q Q' R rx ry h1 k
def fI:Wv->Option (List Aa)
 |.ln ds=>ae ds
 |.d (.list ds)=>ae ds
 |_=>ah
def dP:Wv->Wv->Int->DQ->Prop:=λx y n Q=>match fI x,fI y with
 |some i,ae j=>i.length+j.length<=Az/\Q (.d (.list (i++j))) n
 |_,_=>False
theorem nS(h:WRel H B t v x)(e:fI x=ae ds):∃a xs,v=.ref a/\H a=ae (.lst xs)/\xs.length<=Az/\RdXs H B xs ds:=by
 cases x with
 |ln es=>
  cases e;obtain⟨a,xs,h1,h2,h3,h4,h5⟩:=h;exact⟨a,xs,h1,h2,h4,h5⟩
 |d y=>
  cases y with
  |list es=>
   cases e;cases(show RdX H B v (.list ds)from h)with
   |@lst a xs _ e1 e2 e3 e4=>exact⟨a,xs,rfl,e1,e3,e4⟩
  |_=>cases e
 |tp=>cases e
 |dk _=>cases e
 |ob _=>cases e
theorem QI:bE jh dP:=λC H B σ δ n x y p q Q Q' R rx ry h1 k=>by
 unfold dP at h1
 split at h1
 ·rename_i i j ei ej;obtain⟨ax,xs,rfl,e1,e3,e4⟩:=nS rx ei;obtain⟨ay,ys,rfl,f1,f3,f4⟩:=nS ry ej;obtain⟨hl,q⟩:=h1;have hl':xs.length+ys.length<=Az:=by rw[e4.len,f4.len];exact hl
  refine⟨ax,ay,xs,ys,rfl,rfl,e1,f1,hl',λpn hp=>?_⟩;refine k _ _ _ n (R.new hp) (Kp.new hp) (wd (show RdX _ B _ (.list (i++j))from .lst bB (R.nb hp) (by rw[Ai];exact hl') ?_)) q;exact((e4.append f4).fresh hp).less λb z=>.inl z
 ·exact h1.elim
theorem Rv(ha:DE X a ta wa)(hb:DE X b tb wb):DE X (.BinOp a .Add b pos) (d3 jh ta tb) (w2 wa wb dP):=ic vv QI ha hb
end
section
variable{X:Cx}{a b c e o i f:Expr}{ta tb te td ty tx:TE}{wa wb we wd' wy wx:DT}{pos p:Pos}{K:Ah}
def cP(w:DT)(g:d9):aP:=λδ n K=>w δ n λx n1=>match x with
 |.d d=>g d δ λδ'=>K.nx δ' n1
 |_=>False
theorem Nr(he:DE X e te we)(hg:DG X tg g gd)(hs:swapsWithSole [tg] e pos.line X.env=pure aj:=by rfl)(hw:swappedStores [tg] e X.env=pure ah:=by rfl)
  (h1:(Dc [tg] X.env).map (·.2)=[F4 tg X.env]:=by rfl):DS X (.Assign [tg] e pos) (dE te g) (cP we gd):=⟨mI he.pe hg.pg hs hw h1,λC H B σ δ n K D R q E=>
 he.sd C H B σ δ n _ _ R q λv x H1 n1 R1 k1 r1 q1=>by
  cases x with
  |d d=>exact hg.sd C H1 B σ δ n1 v d _ _ R1 r1 q1 λσ' δ' R' q'=>E.nx _ _ _ _ _ R' q'
  |tp=>exact q1.elim
  |dk _=>exact q1.elim
  |ln _=>exact q1.elim
  |ob _=>exact q1.elim⟩
def p8:Wv->Option (List Aa)
 |.ln ds=>ae ds
 |.d (.list ds)=>ae ds
 |.d (.tuple ds)=>ae ds
 |_=>ah
theorem VD(h:WRel H B t v x)(e:p8 x=ae ds):∃a xs,v=.ref a/\(SqL K H a xs\/SqT K H a xs)/\xs.length<=Az/\RdXs H B xs ds:=by
 cases x with
 |ln es=>
  cases e;obtain⟨a,xs,h1,h2,h3,h4,h5⟩:=h;exact⟨a,xs,h1,.inl (SqL.of h2),h4,h5⟩
 |d y=>
  cases y with
  |list es=>
   cases e;cases(show RdX H B v (.list ds)from h)with
   |@lst a xs _ e1 e2 e3 e4=>exact⟨a,xs,rfl,.inl (SqL.of e1),e3,e4⟩
  |tuple es=>
   cases e;cases(show RdX H B v (.tuple ds)from h)with
   |@tup a xs _ e1 e2 e3 e4=>exact⟨a,xs,rfl,.inr (SqT.of e1),e3,e4⟩
  |_=>cases e
 |tp=>cases e
 |dk _=>cases e
 |ob _=>cases e
def jt(w:DT):eW:=λδ n Q=>w δ n λx n1=>match p8 x with
 |some ds=>Q ds n1
 |none=>False
theorem Qm(hg:Gl X "list")(hm:X.mg "list"=ah)(ho:DE X o td wd')(hK:X.K=K:=by rfl)(he:Au [o] X.env=(aj,eval o X.env)::Au [] X.env:=by rfl)(hpl:(Cy pos (Au [] X.env)).any (·.1)=aj:=by rfl):
  DF X (.Call (.Name "list" p) [o] [] pos) (fU (tU K) (dB td ck)) (jt wd'):=
 ⟨kI (GJ hK) hg hm qj (cU ho.pe eI he) ∎ ∎ he hpl,λC H B σ δ n Q Q' R q k=>ho.sd C H B σ δ n _ _ R q λv x H1 n1 R1 k1 r1 q1=>by
  split at q1
  ·rename_i ds ex;obtain⟨a,xs,rfl,h1,h2,h3⟩:=VD (K:=K) r1 ex;refine⟨a,xs,rfl,h1,λl hl=>?_⟩;exact k l xs ds _ n1 (R1.new hl) (k1.trans (Kp.new hl)) (R1.was k1 hl) bB h2 (h3.fresh hl) q1
  ·exact q1.elim⟩
def iB:List Wv->Int->DQ->Prop:=λxs n Q=>match xs with
 |[.ln ds]=>Q (.d (.tuple ds)) n
 |xs=>dY xs n Q
theorem Lq:eJ (xy K) iB:=λC H B σ δ n vs xs Q Q' R r h k=>by
 unfold iB at h
 split at h
 ·rename_i ds;cases r with
  |cons r1 r2=>
   cases r2;obtain⟨ay,ys,rfl,e1,e2,e3,e4⟩:=r1;refine⟨ay,ys,rfl,.inl ⟨SqL.of e1,λl hl=>?_⟩⟩;refine k _ _ _ n (R.new hl) (Kp.new hl) (wd (show RdX _ B _ (.tuple ds)from .tup bB (R.nb hl) e3 ?_)) h;exact(e4.fresh hl).less λb z=>.inl z
 ·exact AZ C H B σ δ n vs xs Q Q' R r h k
def JT(i:Nat)(w:DT):aP:=λδ n K=>match δ[i]? with
 |some (ae (.own ds))=>w δ n λx n1=>match x with
  |.d (.list es)=>(ds.length < 1000000/\es.length < 1000000)/\K.nx (δ.set i (ae (.own (ds++es)))) n1
  |_=>False
 |_=>False
theorem SK(h:n < 1000000)(h':m < 1000000):n+m<=Az:=by
 have:2000000<=Az:=by decide
 omega
theorem ME(H)(B):RdXs H B sP kD:=.cons .non (.cons .non (.cons .non (.cons (.int _) (.cons (.int _) (.cons (.int _) (.cons (.int _) .nil))))))
def gp(i:Nat):DT:=λδ n Q=>match δ[i]? with
 |some (ae (.w .tp))=>Q (.ln kD) n
 |_=>False
theorem Pt(i){x:Str}{ix:Int}{p p2:Pos}{jj}(hK:X.K=K:=by rfl)(hN:X.N[i]?=ae x:=by rfl)(hv:fj X.env.scope x:=by first|exact Ce rfl|exact Bs (Ce rfl)|exact Bs (Bs rfl))(hd:(x==("__debug__":Str))=aj:=by decide)
  (hcd:(x==("__classdict__":Str))=aj:=by decide):DE X (.Subscript (.Name x p) (.Constant (.int 3) jj p2) pos) (d3 (kA K) (cq i) (tC (.int 3))) (gp i):=by
 subst hK;refine⟨gZ sN (fW hN hv hd hcd) df (λ_ _=>rfl),λC H B σ δ n Q Q' R h k=>?_⟩;unfold gp at h
 split at h
 ·rename_i e;obtain⟨v,h1,h2⟩:=R.sl i _ e;cases(show v=.ref C.t from h2.1);obtain⟨a,b,ho,_⟩:=R.tp.ob;refine⟨_,h1,.inl ⟨C.t,_,3,.ref C.l.g,rfl,rfl,SqL.of ho,fG (j:=3) rfl,k _ (.ln kD) H n R (Kp.refl _ _) ⟨C.l.g,sP,rfl,R.tp.ag rfl,R.tp.gne,by decide,ME _ _⟩ h⟩⟩
 ·exact h.elim
end
section
variable{X:Cx}{e:Expr}{st:Stmt}{sts:List Stmt}
def xq:aP:=λ_ _ _=>False
theorem M7:DSs X sts (λ_ _ _=>False) xq:=⟨λ_ _ _ _ _ _ h=>h.elim,λ_ _ _ _ _ _ _ _ _ h _=>h.elim⟩
end
end DL
namespace L2
open PySem PySem.Spec PyProof.Rows
end L2
namespace DL
open PySem L2 Nb
end DL
namespace HT
open PySem PyProof.Rows
open PySem.SeqAt
open PySem.AutoSeq1 (wpAny_loadPart')
open PySem.MeetsSeq PySem.MeetsSeq2 PySem.MeetsSeq3
section
variable{prog:Bg}{w:B3}{A:Cj}{E:Ak->Ap->Prop}{s:Ap}
theorem getItem_tuple_whole{lo hi:Option Int}(ht:IsTup s.heap t items)(hs:s.heap.IsSliceOf sl vl vu .none)(pl:IsPart vl lo)(pu:IsPart vu hi)
  (h0:sIx items.size 0 lo=0) (h1:sIx items.size items.size hi=items.size) (h:Q (.ref t) s):A9 (Bh prog w) A (getItem (.ref t) (.ref sl)) Q E s:=by
 obtain⟨os,hos,hcs,hds⟩:=id hs;have hTs:s.TypeIs (.ref sl) "slice":=⟨os,hos,hcs⟩;unfold getItem
 try with_reducible refine Dy ?_
 first|refine Ad (Ay ?_)|skip
 refine Ad (wpAny_sequenceKey ht.typeIs ∎ ?_);refine Ad (Dd (name:=Fb "__getitem__") ht.typeIs Cq
  (D6 Cq ht.typeIs entry_tuple_getitem ?_ (args_tuple_getitem _ _)))
 show A9 _ _ (F9 (.ref t)>>=_) _ _ s;refine Ad (tupleItemsOf_ ht ?_);refine Ad (Fp hTs ?_);rw[if_pos ∎];refine Ad (FD hs pl pu ?_);have hyes:(((sIx items.size 0 lo:Nat):Int)==0&&(1:Int)==1&&(sIx items.size items.size hi-sIx items.size 0 lo)==items.size)=ai:=by
  rw[h0,h1];simp
 show A9 _ _ (if (((sIx items.size 0 lo:Nat):Int)==0&&(1:Int)==1&&(sIx items.size items.size hi-sIx items.size 0 lo)==items.size)=ai then _ else _) _ _ s;rw[if_pos hyes];unfold Builtin.Tuple.tupleIsExact;refine Ad (Ad (Fp ht.typeIs (Ay ?_)));rw[if_pos ∎];exact Ad (wpAny_rule (Ay ⟨_,rfl,Ay h⟩))
end
end HT
namespace L2
open PySem PySem.Spec PyProof.Rows
def nY(K:Ah):V->Option Int->Option Int->Hp->VK->Prop:=λx lo hi H Q=>∃a xs,x=.ref a/\SqT K H a xs/\HT.sIx xs.length 0 lo=0/\HT.sIx xs.length xs.length hi=xs.length/\Q (.ref a) H
theorem JV:SlR X (nY X.K):=by
 intro pins s σ H x v vl vu lo hi sl Q I rx hs pl pu h;obtain⟨a,xs,rfl,hx,h0,h1,q⟩:=h;cases rx;obtain⟨its,r,ht,hz⟩:=I.tuple hx;have hlen:its.toArray.size=xs.length:=by rw[A1];exact r.length.symm
 refine⟨"tuple",_,PyProof.Rows.slot_tuple_getitem.lookup,ht.typeIs,?_⟩;exact HT.getItem_tuple_whole ht hs pl pu (by rw[hlen];exact h0) (by rw[hlen];exact h1) ⟨.ref a,H,I,rfl,q⟩
end L2
namespace DL
open PySem L2 Nb
section
variable{X:Cx}{e:Expr}{te:TE}{we:DT}{pos p2:Pos}{K:Ah}{lo hi:Option Expr}
abbrev jH:=Sl->Int->(Option Int->Int->Prop)->Prop
def cm:jH:=λ_ n Q=>Q ah n
def cf(w:DT):jH:=λδ n Q=>w δ n λx n1=>match x with
 |.d (.int i)=>Q (ae i) n1
 |_=>False
def Nh(t:TO)(w:jH):Prop:=∀(C:Ctx)(H:Hp)(B:Addr->Prop)(σ:St)(δ:Sl)(n:Int)(Q:Option Int->Int->Prop)(Q':Option Int->Hp->Prop),Rel C H B σ δ n->w δ n Q->
 (∀o H' n',Rel C H' B σ δ n'->Kp C.t H H'->Q o n'->Q' o H')->t σ H Q'
structure DOp(X:Cx)(o:Option Expr)(t:TO)(w:jH):Prop where
 po:PO X o t
 sd:Nh t w
theorem Vd:DOp X ah Gy cm:=⟨BR,λC H B σ δ n Q Q' R q k=>k ah H n R (Kp.refl _ _) q⟩
theorem PL(h:DE X e te we):DOp X (ae e) (BV te) (cf we):=⟨Ha h.pe,λC H B σ δ n Q Q' R q k=>h.sd C H B σ δ n _ _ R q λv x H1 n1 R1 k1 r1 q1=>by
 split at q1
 ·rename_i i;cases(show RdX H1 B v (.int i)from r1);exact⟨i,rfl,k (ae i) H1 n1 R1 k1 q1⟩
 ·exact q1.elim⟩
def bF(xs:List Aa)(lo hi:Option Int):List Aa:=(xs.drop (HT.sIx xs.length 0 lo)).take (HT.sIx xs.length xs.length hi-HT.sIx xs.length 0 lo)
def cC(w:DT)(l u:jH):DT:=λδ n Q=>w δ n λx n1=>l δ n1 λa n2=>u δ n2 λb n3=>match x with
 |.d (.tuple ds)=>Q (.d (.tuple (bF ds a b))) n3
 |_=>False
def xo(K:Ah):V->Option Int->Option Int->Hp->VK->Prop:=λx lo hi H Q=>qc K x lo hi H Q\/nY K x lo hi H Q
theorem Ku(he:DE X e te we)(hl:DOp X lo tl wl)(hh:DOp X hi th wh)(hK:X.K=K:=by rfl):DE X (.Subscript e (.Slice lo hi ah p2) pos) (qz (xo K) te tl th) (cC we wl wh):=by
 subst hK;refine⟨rC (sl_tup.or JV) he.pe hl.po hh.po,λC H B σ δ n Q Q' R q k=>he.sd C H B σ δ n _ _ R q λv x H1 n1 R1 k1 r1 q1=>
  hl.sd C H1 B σ δ n1 _ _ R1 q1 λa H2 n2 R2 k2 q2=>hh.sd C H2 B σ δ n2 _ _ R2 q2 λb H3 n3 R3 k3 q3=>?_⟩
 split at q3
 ·rename_i ds;have r3:RdX H3 B v (.tuple ds):=(r1.kp k2 R1.bt).kp k3 R2.bt;cases r3 with
  |@tup aa xs _ e1 e2 e3 e4=>
   have kk:=(k1.trans k2).trans k3;by_cases hw:HT.sIx xs.length 0 a=0/\HT.sIx xs.length xs.length b=xs.length
   ·refine .inr ⟨aa,xs,rfl,SqT.of e1,hw.1,hw.2,k _ _ H3 n3 R3 kk (wd (show RdX H3 B _ (.tuple ds)from .tup e1 e2 e3 e4)) ?_⟩;have:bF ds a b=ds:=by
     unfold bF;rw[<-e4.len,hw.1,hw.2,List.drop_zero,Nat.sub_zero,e4.len,List.take_length]
    rw[this]at q3;exact q3
   ·refine .inl ⟨aa,xs,rfl,SqT.of e1,hw,λp hp=>?_⟩;refine k _ _ _ n3 (R3.new hp) (kk.trans (Kp.new hp)) (wd (show RdX _ B _ (.tuple (bF ds a b))from .tup bB (R3.nb hp) (A2 (pG xs a b) e3) ?_)) q3;unfold bF fe;rw[<-e4.len];exact(((e4.drop _).take _).fresh hp).less λb z=>.inl z
 ·exact q3.elim
end
end DL
namespace Nb
open PySem L2
end Nb
namespace DL
open PySem L2 Nb
section
variable{X:Cx}{tg a b c e o i f:Expr}{ta tb te td ty tx:TE}{wa wb we wd' wy wx:DT}{pos p:Pos}{K:Ah}
def VQ(i:Nat)(w:DT):aP:=λδ n K=>match δ[i]? with
 |some (ae (.own ds))=>w δ n λx n1=>match x with
  |.d (.tuple es)=>(ds.length < 1000000/\es.length < 1000000)/\K.nx (δ.set i (ae (.own (ds++es)))) n1
  |_=>False
 |_=>False
def ju(hs:List Str)(w:DT):DT:=λδ n Q=>w δ n λx n1=>match x with
 |.d a=>fA a=ai/\Q (.d (.bool (bU a (hs.map .str)))) n1
 |_=>False
theorem RW(hl:∀h∈hs,h.length<=1000)(hq:∀H,SqT K H q (hs.map V.str))(h:eY ta wa):eY (d3 (iO K aj) ta (tC (.ref q))) (ju hs wa):=λC H B σ δ n Q Q' R z k=>
 h C H B σ δ n _ _ R z λv x H1 n1 R1 k1 r1 q1=>by
  split at q1
  ·rename_i da;have r1:RdX H1 B v da:=r1;have rs:RdXs H1 B (hs.map V.str) (hs.map .str):=wq hl;refine⟨q,_,rfl,.inr (hq H1),lI r1 q1.1,kW rs ?_,k _ _ H1 n1 R1 k1 (wd (.bl _)) ?_⟩
   ·rw[List.all_map];exact Dq.mpr λ_ _=>rfl
   ·rw[l6 r1 rs];exact q1.2
  ·exact q1.elim
theorem O9{xp:Pos}(ha:DE X a ta wa)(hg:Gl X x)(hm:X.mg x=ae (.ref q))(hq:∀H,SqT K H q (hs.map V.str))(hl:∀h∈hs,h.length<=1000:=by decide +kernel)(hK:X.K=K:=by rfl)(hd:(x==("__debug__":Str))=aj:=by decide)
  (hmk:Cf .In (Expr.Name x xp)=aj:=by with_unfolding_all rfl):DC X (.Compare a [.In] [.Name x xp] pos) (jz (d3 (iO K aj) ta (tC (.ref q)))) (cT (ju hs wa)):=
 ⟨kB (ur hK) ha.pe (pM hg hm rfl hd) hmk,kU (RW hl hq ha.sd)⟩
end
abbrev eU:=List Wv->Int->(List Aa->Int->Prop)->Prop
def ny(S:eU):Sp:=λvs H Q _=>∃(t:Addr)(l:TL)(ns:List Int)(B:Addr->Prop)(ws:List Wv)(n:Int)(Q0:List Aa->Int->Prop),Tp H t l ns n/\B t/\(∀b,B b->H b≠ah)/\ARel H B t vs ws/\S ws n Q0 /\
 ∀ds n',Q0 ds n'->∀a xs H',Tp H' t l ns n'->Kp t H H'->H a=ah->H' a=ae (.lst xs)->xs.length<=Az->RdXs H' (λb=>B b\/b=a) xs ds->Q (.ref a) H'
section
variable{X:Cx}{e:Expr}{es:List Expr}{pos p:Pos}{tR:TA}{wR:fw}{te:TE}{we:DT}
def my(S:eU)(w:fw):eW:=λδ n Q=>w δ n λxs n1=>S xs n1 Q
theorem UB(h:ky t w):jV (jD (ny S) [] E0 t) (my S w):=λC H B σ δ n Q Q' R q k=>
 h C H B σ δ n _ _ R q λvs xs H1 n1 R1 k1 r1 q1=>by
  refine⟨C.t,C.l,C.ns,B,xs,n1,Q,R1.tp,R1.bt,R1.ba,by rw[Bw];exact r1,q1,λds n' q2 a ys H' T' k' h0 h1 h2 h3=>?_⟩;exact k a ys ds H' n' (R1.step T' k') (k1.trans k') (R1.was k1 h0) h1 h2 h3 q2
structure HasN(P:Bg)(w:B3)(K:Ah)(mg:Str->Option Ak)(base:Heap)(k:Nat)(x:Str)(ps:List Str)(S:eU):Prop where
 ex:∃(f:Addr)(fd:Ct),FnOk P w K mg base dS k f fd ps (ny S)/\Binds K fd ps []/\mg x=ae (.ref f)/\Cz K (.ref f)=ai
theorem HasN.mk'(F:Fun K x qual st f fd)(m:mg x=ae (.ref f))(b:Binds K fd ps [])(h:FnOk P w K mg base dS k f fd ps (ny S)):HasN P w K mg base k x ps S:=⟨f,fd,h,b,m,F.kp⟩
theorem P0(h:HasN X.prog X.w X.K X.mg X.base k x ps S)(hr:Room k X.A)(hg:Gl X x)
  (ha:DA X (e::es) tR wR) (hdb:(x==("__debug__":Str))=aj:=by decide) (he:Au (e::es) X.env=(aj,eval e X.env)::Au es X.env:=by rfl) (hpl:(Cy pos (Au es X.env)).any (·.1)=aj:=by rfl):
  DF X (.Call (.Name x p) (e::es) [] pos) (jD (ny S) [] E0 tR) (my S wR):=by
 obtain⟨f,fd,h1,h2,h3,h4⟩:=h.ex;exact⟨vL h1 hr hg h3 h4 h2 .nil uS ha.pa hdb he hpl,UB ha.sd⟩
def rD(w:eW):aP:=λδ n K=>w δ n K.rn
theorem Ky(h:DF X e te w):DS X (.Return (ae e) pos) (jR te) (rD w):=⟨l7 h.pe,λC H B σ δ n K D R q E=>
 h.sd C H B σ δ n _ _ R q λa xs ds H' n' R' k' h0 h1 h2 h3 q'=>E.rn H' B σ δ n' a xs ds R' (R.h0 h0) h1 h2 h3 q'⟩
def uw(i:Nat):aP:=λδ n K=>match δ[i]? with
 |some (ae (.own ds))=>K.rn ds n
 |_=>False
theorem Kt(i){xp:Pos}(hN:X.N[i]?=ae x:=by rfl)(hv:fj X.env.scope x:=by first|exact Ce rfl|exact Bs (Ce rfl)|exact Bs (Bs rfl))(hd:(x==("__debug__":Str))=aj:=by decide)
  (hcd:(x==("__classdict__":Str))=aj:=by decide):DS X (.Return (ae (.Name x xp)) pos) (jR (cq i)) (uw i):=⟨l7 (fW hN hv hd hcd),λC H B σ δ n K D R q E=>by
 unfold uw at q
 split at q
 ·rename_i ds ei;obtain⟨v,hv,a,xs,rfl,e2,e3,e4,e5,e6⟩:=R.sl i _ ei;exact⟨_,hv,E.rn H B σ δ n a xs ds R e4 e2 e5 (e6.less λb z=>z.elim id λe=>e▸e3) q⟩
 ·exact q.elim⟩
theorem RdXs.rev:∀{vs:List V}{ds:List Aa},RdXs H B vs ds->RdXs H B vs.reverse ds.reverse
 |_,_,.nil=>.nil
 |_,_,.cons h r=>by
  rw[List.reverse_cons,List.reverse_cons];exact(RdXs.rev r).append (.cons h .nil)
end
section
variable{P:Bg}{w:B3}{K:Ah}{mg:Str->Option Ak}{base:Heap}
theorem Fun.okN(F:Fun K x qual st f fd)(Sc:FnScope N ps (dH st))(len:∀ws n Q,S ws n Q->ws.length=ps.length)
  (hbody:∀(cdv:Ak)(A:Cj)(outer:List Env)(s:Ap)(H:Hp)(E:XK),Room k (A.deeper (D7 qual (dH st) s.heap.objs.size f cdv))->
   ∃T W,DSs (eE dS P w K mg base N qual (dH st) f cdv A outer s H E).nox (gP st) T W/\∀ws n Q,S ws n Q->W (iK N ws) n {nx:=λ_ _=>False,rt:=λ_ _=>False,rn:=Q}):FnOk P w K mg base dS (k+1) f fd ps (ny S):=by
 refine F.ok Sc (λvs H Q E h=>?_) (λcdv A outer s H vs Q E hr h=>?_)
 ·obtain⟨t,l,ns,B,ws,n,Q0,_,_,_,r,q,_⟩:=h;rw[r.len];exact len ws n Q0 q
 ·obtain⟨t,l,ns,B,ws,n,Q0,T,bt,ba,r,q,kk⟩:=h;obtain⟨T',W,d,hw⟩:=hbody cdv A outer s H E hr;refine⟨T',d.ps,d.sd ⟨t,l,ns,H,B,λ_=>ah⟩ H B _ _ n _ _ (ED T bt ba r) (hw ws n Q0 q) ⟨?_,?_,?_,?_,?_⟩⟩
  ·exact λ_ _ _ _ _ _ z=>z.elim
  ·exact λ_ _ _ _ _ _ _ _ _ z=>z.elim
  ·exact λ_ _ _ _ _ _ z=>z.elim
  ·exact λ_ _ _ _ _ _ z=>z.elim
  ·exact λH' B' σ δ n' a xs ds R' h0 h1 h2 h3 q'=>kk _ _ q' a xs H' R'.tp R'.kp h0 h1 h2 (h3.less λb z=>z.elim (λz=>.inl (R'.b0 b z)) .inr)
end
end DL
namespace Nb
open PySem L2
def gL(K:Ah)(q:Addr)(D:List (Str×Str)):Prop:=(q==Ea)=aj/\∃(o:Obj)(es:Array DictEntry)(ep:Nat),K.lookup q=ae o/\o.ExactDict/\o.data=.dict es ep/\PyProof.Rows.KTD.Rows (λ(d:Str) v=>∃t,v=.str d t) es.toList D
def gC(D:List (Str×Str)):List (Str×PyProof.Rows.KTD.Dat):=D.map λp=>(p.1,.flat (.str p.2))
theorem Jp(k):∀D:List (Str×Str),Ba k (gC D)=(Ba k D).map λs=>.flat (.str s)
 |[]=>rfl
 | (x,s)::D=>by
  show(if decide (k=x)=ai then ae _ else Ba k (gC D))=Option.map _ (if decide (k=x)=ai then ae s else Ba k D);rw[Jp k D]
  split<;>rfl
theorem DJ(k)(D):PyProof.Rows.KTD.inKeys k (gC D)=(Ba k D).isSome:=by
 rw[<-PyProof.Rows.KTD.isSome_datumAt,Jp,Fx]
theorem zt:∀D:List (Str×Str),(∀s,Ba k D=ae s->∀t,P (.str s t))->PyProof.Rows.KTD.EachL h k P (gC D)
 |[],_=>trivial
 | (x,s)::D,hp=>by
  by_cases hx:k=x
  ·refine PyProof.Rows.KTD.eachL_hit hx (PyProof.Rows.KTD.opened_str λt=>hp s ?_ t);show(if decide (k=x)=ai then ae s else Ba k D)=ae s;rw[if_pos (decide_eq_true hx)]
  ·refine PyProof.Rows.KTD.eachL_miss hx (zt D λs' hs' t=>hp s' ?_ t);show(if decide (k=x)=ai then ae s else Ba k D)=ae s';rw[if_neg (by simp[hx])];exact hs'
theorem BP:∀D:List (Str×Str),((gC D).all λp=>PyProof.Rows.KTD.plain p.2)=ai
 |[]=>rfl
 |_::D=>by
  show(ai&&(gC D).all λp=>PyProof.Rows.KTD.plain p.2)=ai;rw[BP D];rfl
section
variable{X:Cx}{pins:List (Addr×Obj)}{σ:St}{H:Hp}{s:Ap}{q:Addr}{D:List (Str×Str)}
theorem DD(I:Inv X pins σ H s)(h:gL X.K q D):PyProof.Rows.KTD.Here s.heap s.heap q (gC D):=by
 obtain⟨h1,o,es,ep,hk,h2,h3,h4⟩:=h;exact⟨⟨h1,o,es,ep,I.kIn q o hk,h2,h3,PyProof.Rows.KTD.Rows.mono (f:=λd:Str=>PyProof.Rows.KTD.Dat.flat (.str d)) (R':=PyProof.Rows.KTD.Dat.At s.heap) (λd v ⟨t,e⟩=>by subst e;exact PyProof.V.Flat.str _ _) h4⟩,λ_ _ e=>e⟩
def lY(K:Ah):R2:=λx y H Q=>∃k q D d,x=.ref q/\y=.str k/\gL K q D/\Ba k D=ae d/\Q (.str d) H
theorem Pb:IxR X (lY X.K):=by
 intro value slice pins s σ H x y v u Q I rx ry h hs;obtain⟨k,q,D,d,rfl,rfl,hT,hd,hq⟩:=h;obtain⟨t,rfl⟩:=ry;cases rx;refine PyProof.Rows.KTD.item_textA (DD I hT) (BP D) (by rw[DJ,hd];rfl) (zt D λd' hd' t'=>?_) hs;rw[hd]at hd';cases hd';exact⟨.str d,H,I.kept (t':=s.toks+1) λ_ _ e=>e,⟨t',rfl⟩,hq⟩
end
end Nb
namespace DL
open PySem L2 Nb
section
variable{X:Cx}{a b c e o i f:Expr}{ta tb te ty:TE}{wa wb we wy:DT}{pos p xp:Pos}{K:Ah}{D:List (Str×Str)}{q:Addr}{x:Str}
def RN(D:List (Str×Str))(w:DT):DT:=λδ n Q=>w δ n λx n1=>match x with
 |.d (.str k)=>Q (.d (.bool (Ba k D).isSome)) n1
 |_=>False
def i6(D:List (Str×Str))(w:DT):DT:=λδ n Q=>w δ n λx n1=>match x with
 |.d (.str k)=>match Ba k D with
  |some s=>s.length<=1000/\Q (.d (.str s)) n1
  |none=>False
 |_=>False
theorem R7(h:n<=1000):n<=Az:=A2 h ∎
theorem Ms(hK:X.K=K:=by rfl):IxR X (lY K):=by subst hK;exact Pb
theorem L0(hi:DE X i ty wy)(hg:Gl X x)(hm:X.mg x=ae (.ref q))(hq:gL K q D)(hs:mY i:=by exact λ_ _=>rfl)(hK:X.K=K:=by rfl)(hd:(x==("__debug__":Str))=aj:=by decide):
  DE X (.Subscript (.Name x xp) i pos) (d3 (lY K) (tC (.ref q)) ty) (i6 D wy):=⟨gZ (Ms hK) (pM hg hm rfl hd) hi.pe hs,λC H B σ δ n Q Q' R z k=>
 hi.sd C H B σ δ n _ _ R z λv x H1 n1 R1 k1 r1 q1=>by
  split at q1
  ·rename_i key
   split at q1
   ·rename_i s es;cases(show RdX H1 B v (.str key)from r1);exact⟨key,q,D,s,rfl,rfl,hq,es,k _ _ H1 n1 R1 k1 (wd (.str _ (R7 q1.1))) q1.2⟩
   ·exact q1.elim
  ·exact q1.elim⟩
def ia(wa wb:DT):eW:=λδ n Q=>wa δ n λx n1=>wb δ n1 λy n2=>match fI x,fI y with
 |some i,ae j=>i.length+j.length<=Az/\Q (i++j) n2
 |_,_=>False
theorem NT(ha:DE X a ta wa)(hb:DE X b tb wb):DF X (.BinOp a .Add b pos) (d3 jh ta tb) (ia wa wb):=⟨fi vv ha.pe hb.pe,λC H B σ δ n Q Q' R z k=>
 ha.sd C H B σ δ n _ _ R z λv x H1 n1 R1 k1 r1 q1=>hb.sd C H1 B σ δ n1 _ _ R1 q1 λu y H2 n2 R2 k2 r2 q2=>by
  have r1':=r1.kp k2 R1.bt
  split at q2
  ·rename_i i j ei ej;obtain⟨ax,xs,rfl,e1,e3,e4⟩:=nS r1' ei;obtain⟨ay,ys,rfl,f1,f3,f4⟩:=nS r2 ej;obtain⟨hl,q⟩:=q2;have hl':xs.length+ys.length<=Az:=by rw[e4.len,f4.len];exact hl
   refine⟨ax,ay,xs,ys,rfl,rfl,e1,f1,hl',λpn hp=>?_⟩;refine k pn (xs++ys) (i++j) _ n2 (R2.new hp) ((k1.trans k2).trans (Kp.new hp)) (R2.was (k1.trans k2) hp) bB (by rw[Ai];exact hl') ((e4.append f4).fresh hp) q
  ·exact q2.elim⟩
end
end DL
namespace L2
open PySem PySem.Spec PyProof.Rows PySem.SeqAt PySem.W
end L2
namespace L2
open PySem PySem.Spec PyProof.Rows
end L2
namespace L2
open PySem PySem.Spec PyProof.Rows PySem.W
end L2
namespace L2
open PySem PySem.Spec PyProof.Rows
end L2
namespace L2
open PySem PySem.Spec PyProof.Rows PySem.SeqAt PySem.W
section
variable{prog:Bg}{w:B3}{A:Cj}{E:Ak->Ap->Prop}{s:Ap}
theorem OQ(ho:s.heap.get? l=ae o)(hc:o.cls=.type T)(hT:T="list"\/T="tuple")(hd:o.data=.seq items.toArray n)(hz:items.length<=Az)
  (h:∀h',(∀b u,s.heap.get? b=ae u->h'.get? b=ae u)->s.heap.objs.size<=h'.objs.size->Q items {s with heap:=h'}):A9 (Bh prog w) A (collect (.ref l)) Q E s:=by
 have sb:=Dr (s.heap.push (Ci "list" #[] 0)) s.heap.objs.size (Cs (·++items.toArray));have q:=h ((s.heap.push (Ci "list" #[] 0)).update s.heap.objs.size (Cs (·++items.toArray))) (λb u e=>(sb.2 b (Bk (A0 e))).trans (Ag _ e)) (by rw[Heap.size_update,size_push'];exact Fy _);unfold collect;refine Ad (wpAny_runValue (E2 entry_proto_collect' ?_));show A9 _ _ (do again (.builtin "list.__iadd__" ⟨[<-newList [],.ref l],[]⟩)) _ _ s;refine Ad (wpAny_newList (Ay ⟨Code.quiet_builtin _ ∅,E2 entry_list_iadd' ?_⟩));show A9 _ _ (Builtin.List.listExtendWith (.ref s.heap.objs.size) (.ref l) (.ref s.heap.objs.size)) _ _ {s with heap:=s.heap.push (Ci "list" #[] 0)};unfold Builtin.List.listExtendWith;have ho':(s.heap.push (Ci "list" #[] 0)).get? l=ae o:=Ag _ ho;refine Ad (Fp (T:=T) ⟨o,ho',hc⟩ ?_);have ht:(Builtin.List.listSameRef (.ref s.heap.objs.size) (.ref l) || Ee T==Ee "list" || Ee T==Ee "tuple")=ai:=by
  rcases hT with rfl|rfl<;>simp
 rw[if_pos ht];refine Ad (listItems_at ho' hd ?_);refine Ad (listItems_at (xs:=#[]) (n:=0) (A5 _ rfl) rfl ?_);rw[if_neg (by simp)];refine Ad (listUpdate_at (xs:=#[]) (n:=0) (A5 _ rfl) rfl ?_ (Bm _) (by simp only[Array.size_append,A1,List.length_nil];omega));refine Ay ?_;show A9 (Bh prog w) A (do
   let o <-load s.heap.objs.size
   match o.data with
   |.seq xs _=>pure xs.toList
   |_=>unsupported "internal:collect") Q E {s with heap:=(s.heap.push (Ci "list" #[] 0)).update s.heap.objs.size (Cs (·++items.toArray))}
 refine Ad (wpAny_load (Gm (A5 _ rfl) _) ?_);show A9 _ _ (pure ((#[]:Array Ak)++items.toArray).toList) Q E _;rw[show((#[]:Array Ak)++items.toArray).toList=items by simp];exact Ay q
end
section
variable{X:Cx}
theorem Pc(h0:0<=i)(h1:i<=1000):Builtin.List.listFitsIndex i=ai:=fitsIndex_both ⋯ ⋯
def zY:V->List V->Hp->VK->Prop:=λx vs H Q=>∃l xs i y,x=.ref l/\vs=[.int i,y]/\H l=ae (.lst xs)/\0<=i/\i<=xs.length/\xs.length < 1000/\Q .non (upd H l (.lst (xs.take i.toNat++y::xs.drop i.toNat)))
theorem GF(h:Vals xs vs):∀k:Nat,Vals (xs.take k) (vs.take k)/\Vals (xs.drop k) (vs.drop k):=by
 induction h with
 |nil=>intro k;rw[List.take_nil,List.take_nil,List.drop_nil,List.drop_nil];exact⟨.nil,.nil⟩
 |cons r hr ih=>
  intro k;cases k with
  |zero=>exact⟨.nil,.cons r hr⟩
  |succ k=>exact⟨.cons r (ih k).1,(ih k).2⟩
theorem T7:rk X "list.insert" zY:=by
 intro pins s σ H x vs v us Q I rx rv h;obtain⟨l,xs,i,y,rfl,rfl,hH,h0,h1,h2,q⟩:=h;cases rx;obtain⟨u1,u,rfl,⟨t,rfl⟩,ru⟩:=qk rv;obtain⟨z,its,n,r,hl,e⟩:=I.lstM hH;refine call_meets F.slot_list_insert ⟨_,e,rfl⟩ F.entry_list_insert (F.args_list_insert_3 _ _ _) (AutoSeq1.list_insert_list_int_val_1 l its.toArray n i t u (by rw[Pc h0 ⋯];simp) (by rw[A1];omega)) ⟨e,?_⟩;refine⟨.non,_,I.lset (its':=its.take i.toNat++u::its.drop i.toNat) hH e ?_ ((GF r _).1.append (.cons ru (GF r _).2)) ?_,rfl,q⟩
 ·have e1:(if i < 0 then(i+((its.toArray.size:Nat):Int)).toNat else min i.toNat its.toArray.size)=i.toNat:=by
   rw[if_neg ⋯,A1];omega
  show(its.toArray.extract 0 (if i < 0 then(i+((its.toArray.size:Nat):Int)).toNat else min i.toNat its.toArray.size)).push u++its.toArray.extract (if i < 0 then(i+((its.toArray.size:Nat):Int)).toNat else min i.toNat its.toArray.size) its.toArray.size=_;rw[e1];apply Array.toList_inj.mp;simp;exact F0 (by rw[Br];exact An _)
 ·rw[Ai,Am,Bn,Br,Ew];omega
def pd(neg:Bool):R2:=λx y H Q=>∃a b,x=.bl a/\y=.bl b/\Q (.bl (if neg then a != b else a==b)) H
theorem N7:OpR X (Bx .Is) (pd aj):=by
 intro pins s σ H x y v u Q I rx ry h;obtain⟨a,b,rfl,rfl,q⟩:=h;cases rx;cases ry;exact is_bool (di I q rfl)
end
end L2
namespace DL
open PySem L2 Nb
section
variable{X:Cx}{a b c e o i f:Expr}{ta tb te td ty tx:TE}{wa wb we wd' wy wx:DT}{pos p:Pos}{K:Ah}
def iW(i:Nat)(wa wb:DT):aP:=λδ n K=>match δ[i]? with
 |some (ae (.own ds))=>wa δ n λx n1=>wb δ n1 λy n2=>match x,y with
  |.d (.int k),.d d=>(0<=k/\k<=ds.length/\ds.length < 1000)/\K.nx (δ.set i (ae (.own (ds.take k.toNat++d::ds.drop k.toNat)))) n2
  |_,_=>False
 |_=>False
theorem RdXs.takes:∀{vs:List V}{ds:List Aa},RdXs H B vs ds->∀k:Nat,RdXs H B (vs.take k) (ds.take k)/\RdXs H B (vs.drop k) (ds.drop k)
 |_,_,.nil,k=>by rw[List.take_nil,List.take_nil,List.drop_nil,List.drop_nil];exact⟨.nil,.nil⟩
 |_,_,.cons h r,0=>⟨.nil,.cons h r⟩
 |_,_,.cons h r,k+1=>⟨.cons h (RdXs.takes r k).1,(RdXs.takes r k).2⟩
theorem Qj{i:Nat}{xp ap cp:Pos}(hN:X.N[i]?=ae x)(ha:DE X a ta wa)(hb:DE X b tb wb)(hv:fj X.env.scope x:=by first|exact Ce rfl|exact Bs (Ce rfl)|exact Bs (Bs rfl))(hd:(x==("__debug__":Str))=aj:=by decide)
  (hcd:(x==("__classdict__":Str))=aj:=by decide)
  (hbase:E4 (.Name x xp) "insert" X.env (eval (.Name x xp) X.env)=eval (.Name x xp) X.env:=by rfl)
  (hfew:((Cy cp (Au [a,b] X.env)).all (λx=>!x.1)&&(backToKw cp (keywordEach [] X.env)).all (λx=>x.1.isSome)
   && decide ([a,b].length+([]:List Keyword).length+(if ([]:List Keyword).isEmpty then 0 else 1) < 30))=ai:=by rfl)
  (hline:(ap.endLine==cp.line)=ai:=by rfl) (hs:Au [a,b] X.env=(aj,eval a X.env)::Au [b] X.env:=by rfl) (hs2:Au [b] X.env=(aj,eval b X.env)::Au [] X.env:=by rfl) (hplain:(Cy cp (Au [b] X.env)).any (·.1)=aj:=by rfl)
  (hsw:Dw (.Call (.Attribute (.Name x xp) "insert" ap) [a,b] [] cp) ah pos.line X.env=pure aj:=by rfl):
  DS X (.Expr (.Call (.Attribute (.Name x xp) "insert" ap) [a,b] [] cp) pos) (oz (sX X.K "list" zY (cq i) (dB ta (dB tb ck)))) (iW i wa wb):=
 ⟨rV (yd Gp PySem.F.slot_list_insert PySem.F.type_list_insert T7 (fW hN hv hd hcd) (cU ha.pe (cU hb.pe eI hs2) hs) hbase hfew hline hs hplain) hsw,λC H B σ δ n K D R q E=>by
  unfold iW at q
  split at q
  ·rename_i ds ei;obtain⟨v,hv,aa,xs,rfl,e2,e3,e4,e5,e6⟩:=R.sl i _ ei;refine⟨_,hv,.inl ⟨rfl,_,SqL.of e2⟩,ha.sd C H B σ δ n _ _ R q λu x H1 n1 R1 k1 r1 q1=>hb.sd C H1 B σ δ n1 _ _ R1 q1 λu2 y H2 n2 R2 k2 r2 q2=>?_⟩
   split at q2
   ·rename_i kk d;obtain⟨⟨q3,q4,q5⟩,q6⟩:=q2;cases(show RdX H1 B u (.int kk)from r1);have hat:aa≠C.t:=λz=>R.t0 (z▸e4);have e2':=k2 _ _ (k1 _ _ e2 hat) hat;have hle:=e6.len;have r3:RdXs H2 B xs ds:=(e6.kp k1 R.bt).kp k2 R.bt;refine⟨aa,xs,kk,u2,rfl,rfl,e2',q3,by omega,by omega,?_⟩;refine E.nx _ _ _ _ _ (R2.mutOwn ei rfl hv e3 e4 ?_ rfl) q6;refine⟨aa,xs.take kk.toNat++u2::xs.drop kk.toNat,rfl,bB,e3,e4,?_,?_⟩
    ·rw[Ai,Am,Bn,Br];exact eF ⋯
    ·refine RdXs.keep (λb o e n=>?_) ((r3.takes _).1.append (.cons r2 (r3.takes _).2));rw[aY λ(z:b=aa)=>n (z▸e3)];exact e
   ·exact q2.elim
  ·exact q.elim⟩
def jd(neg:Bool):Wv->Wv->Int->DQ->Prop:=λx y n Q=>match x,y with
 |.d (.bool a),.d (.bool b)=>Q (.d (.bool (if neg then a != b else a==b))) n
 |_,_=>False
theorem Of:bE (pd neg) (jd neg):=λC H B σ δ n x y p q Q Q' R rx ry h1 k=>by
 unfold jd at h1
 split at h1
 ·rename_i u v;cases(show RdX H B x (.bool u)from rx);cases(show RdX H B y (.bool v)from ry);exact⟨u,v,rfl,rfl,k _ _ H n R (Kp.refl _ _) (wd (.bl _)) h1⟩
 ·exact h1.elim
end
end DL
namespace L2
open PySem PySem.Spec PyProof.Rows PySem.SeqAt PySem.W
section
variable{X:Cx}
theorem m6:∀{ds:List Aa},Et ds=ai->∀d∈ds,B4 d=ai/\B5 d<=Fl ds
 |e::r,c,d,hd=>by
  rw[Et,Bf]at c;rw[Fl];rcases Ao.mp hd with rfl|z
  ·exact⟨c.1,by omega⟩
  ·have:=m6 c.2 d z;exact⟨this.1,by omega⟩
end
end L2
namespace DL
open PySem L2 Nb
section
variable{X:Cx}{a b c e o i f:Expr}{ta tb te td ty tx:TE}{wa wb we wd' wy wx:DT}{pos p:Pos}{K:Ah}
theorem RdXs.erase:∀{vs:List V}{ds:List Aa},RdXs H B vs ds->∀k:Nat,RdXs H B (vs.eraseIdx k) (ds.eraseIdx k)
 |_,_,.nil,_=>.nil
 |_,_,.cons h r,0=>r
 |_,_,.cons h r,k+1=>.cons h (RdXs.erase r k)
end
section
variable{X:Cx}{o:Expr}{td:TE}{wd':DT}{pos p p2:Pos}{K:Ah}
def vD:aG->Aa
 |.inl i=>.int i
 |.inr x=>.str x
def nN(k:List aG):Aa:=.tuple (k.map vD)
theorem IY{k:List aG}:∀{vs:List V},RdXs H B vs (k.map vD)->vs=k.map kV:=by
 induction k with
 |nil=>intro vs h;cases h;rfl
 |cons x k ih=>
  intro vs h;cases h with
  |cons h t=>
   rw[ih t];cases x with
   |inl i=>cases(show RdX H B _ (.int i)from h);rfl
   |inr x=>cases(show RdX H B _ (.str x)from h);rfl
end
end DL
namespace HT
open PySem PyProof.Rows
section
variable{prog:Bg}{w:B3}{A:Cj}{E:Ak->Ap->Prop}{s:Ap}
theorem Q8(n:Nat):Da ah ah (-1) (n:Int)=((n:Int)-1,-1):=by
 unfold Da;simp
theorem RL(n:Nat):Cm ((n:Int)-1) (-1) (-1)=n:=by
 unfold Cm;simp only[show ¬((-1:Int) > 0) by decide,if_false];by_cases h:n=0
 ·subst h;rfl
 ·have h1:(-1:Int) < (n:Int)-1:=by omega
  have h2:((n:Int)-1 - -1-1) / - -1+1=(n:Int):=by simp;try omega
  have h3:((n:Int)-1 > -1):=by omega
  simp only[h3,if_true];rw[h2];exact Bi n
theorem Sz{n:Nat}(hs:s.heap.IsSliceOf sl .none .none (.int (-1) t))(h:Q ((n:Int)-1,-1,n) s):
  A9 (Bh prog w) A (Em (.ref sl) (pure (n:Int))) Q E s:=by
 obtain⟨os,hos,hcs,hds⟩:=id hs;unfold Em Builtin.Slice.sliceFields;refine Ad (Ad (Cw hos hds (x:=.none) rfl (Ad (Cw hos hds (x:=.none) rfl (Ad (Cw hos hds (x:=.int (-1) t) rfl (Ay ?_)))))));refine Ad (slicePart_int ?_);show A9 _ _ (if ((-1:Int)==0)=ai then _ else _) _ _ s;rw[if_neg ∎];refine Ad (slicePart_none (Ad (slicePart_none (Ad (Ay ?_)))));show A9 _ _ (match Da ah ah (-1) (n:Int)with|(lo,hi)=>pure (lo,(-1:Int),Cm lo hi (-1))) _ _ s;rw[Q8 n];show A9 _ _ (pure ((n:Int)-1,(-1:Int),Cm ((n:Int)-1) (-1) (-1))) _ _ s;rw[RL];exact Ay h
theorem K2(xs:Array Ak):((A3 xs.size).filterMap λ(m:Nat)=>xs[((xs.size:Int)-1+(m:Int)*(-1)).toNat]?).toArray=xs.toList.reverse.toArray:=by
 congr 1
 have e:∀m∈A3 xs.size,xs[((xs.size:Int)-1+(m:Int)*(-1)).toNat]?=ae (xs.getD (xs.size-1-m) Bu):=λm hm=>by
  have hm:=B6.mp hm;have e1:((xs.size:Int)-1+(m:Int)*(-1)).toNat=xs.size-1-m:=by omega
  have e2:xs.size-1-m < xs.size:=by omega
  rw[e1,D8 e2];simp[e2]
 have fm:∀l:List Nat,(∀m∈l,m∈A3 xs.size)->(l.filterMap λ(m:Nat)=>xs[((xs.size:Int)-1+(m:Int)*(-1)).toNat]?)=l.map λm=>xs.getD (xs.size-1-m) Bu:=by
  intro l
  induction l with
  |nil=>intro _;rfl
  |cons m r ih=>
   intro hm;rw[Gf,e m (hm m As),Bb,ih λk hk=>hm k (Ar _ hk)]
 rw[fm _ λm hm=>hm];apply Dn
 ·simp
 ·intro i h1 h2;simp at h1;have:xs.size-1-i < xs.size:=by omega
  simp[List.getElem_reverse,this]
theorem getItem_tuple_rev(ht:IsTup s.heap t items)(hs:s.heap.IsSliceOf sl .none .none (.int (-1) tk))
  (h:Q (.ref s.heap.objs.size) {s with heap:=s.heap.push {cls:=.type "tuple",data:=.seq items.toList.reverse.toArray}}) (hsz:items.size<=Az):A9 (Bh prog w) A (getItem (.ref t) (.ref sl)) Q E s:=by
 have htake:sizeOk (.seq items.toList.reverse.toArray):=by
  show items.toList.reverse.toArray.size<=Az;rw[A1,Ge,Df];exact hsz
 obtain⟨os,hos,hcs,hds⟩:=id hs;have hTs:s.TypeIs (.ref sl) "slice":=⟨os,hos,hcs⟩;unfold getItem
 try with_reducible refine Dy ?_
 first|refine Ad (Ay ?_)|skip
 refine Ad (wpAny_sequenceKey ht.typeIs ∎ ?_);refine Ad (Dd (name:=Fb "__getitem__") ht.typeIs Cq
  (D6 Cq ht.typeIs entry_tuple_getitem ?_ (args_tuple_getitem _ _)))
 show A9 _ _ (F9 (.ref t)>>=_) _ _ s;refine Ad (tupleItemsOf_ ht ?_);refine Ad (Fp hTs ?_);rw[if_pos ∎];refine Ad (Sz hs ?_);have hno:¬(((items.size:Int)-1==0&&(-1:Int)==1&&items.size==items.size)=ai):=by
  intro q;rw[Bf,Bf]at q;exact absurd q.1.2 ∎
 show A9 _ _ (if ((items.size:Int)-1==0&&(-1:Int)==1&&items.size==items.size)=ai then _ else _) _ _ s;rw[if_neg hno,K2]
 first
  |exact Ad (m:=Cn _) (Cc (Ay ⟨_,rfl,Ay h⟩) htake)
  |exact Ad (m:=Cn _) (Cc (Ad (Ay (Ay ⟨_,rfl,Ay h⟩))) htake)
  |exact Ad (Ad (m:=Cn _) (Cc (Ay (Ay ⟨_,rfl,Ay h⟩)) htake))
  |exact Ad (Ad (m:=Cn _) (Cc (Ay ⟨_,rfl,Ay h⟩) htake))
end
end HT
namespace L2
open PySem PySem.Spec PyProof.Rows
section
variable{X:Cx}{e st:Expr}{te ts:TE}{pos p2:Pos}
def Jg(K:Ah)(te ts:TE):TE:=λσ H Q=>te σ H λx H1=>ts σ H1 λy H2=>∃a xs,x=.ref a/\y=.int (-1)/\SqT K H2 a xs/\∀p,H2 p=ah->Q (.ref p) (upd H2 p (.tup xs.reverse))
theorem UG(he:PE X e te)(hs:PE X st ts)(hev:evalPart (ae st) X.env=eval st X.env:=by rfl):PE X (.Subscript e (.Slice ah ah (ae st) p2) pos) (Jg X.K te ts):=by
 intro pins s σ H Q I h;refine Subscript_ (a9 (he pins s σ H _ I h) λv s1 ⟨x,H1,I1,r1,q1⟩=>?_);refine wpAny_Slice ?_;rw[evalPart_none];refine Ay (Ay ?_);rw[hev];refine a9 (hs pins s1 σ H1 _ I1 q1) λvs s3 ⟨y,H3,I3,ry,a,xs,ex,ey,hx,q⟩=>?_;subst ex;subst ey;cases r1;obtain⟨tk,rfl⟩:=ry;have I4:Inv X pins σ H3 {s3 with heap:=s3.heap.push {cls:=.type "slice",data:=.fields #[.none,.none,.int (-1) tk]}}:=I3.kept (t':=s3.toks) λb ob q=>Ag _ q;obtain⟨its,r,ht,hz⟩:=I4.tuple hx;have hlen:its.toArray.size=xs.length:=by rw[A1];exact r.length.symm
 show A9 (Bh X.prog X.w) X.A (subscriptTail e (.Slice ah ah (ae st) p2) (.ref a) (.ref s3.heap.objs.size)) (EP X pins σ Q) X.xe {s3 with heap:=s3.heap.push {cls:=.type "slice",data:=.fields #[.none,.none,.int (-1) tk]}};refine tail_any (ops:=[.ref a,.ref s3.heap.objs.size]) ht.typeIs PyProof.Rows.slot_tuple_getitem.lookup (HT.getItem_tuple_rev ht (Heap.IsSliceOf.new ..) ?_ (by rw[hlen];exact hz)) (by with_unfolding_all rfl);refine⟨.ref _,_,I4.laid (t':=s3.toks) (o:=.tup xs.reverse) (λb ob q=>Ag _ q) (An _) ?_,rfl,q _ (I4.hok.fresh (An _))⟩;exact⟨by rw[Ge];exact hz,its.reverse,r.reverse,IsTupP.new _ _⟩
end
end L2
namespace DL
open PySem L2 Nb
section
variable{X:Cx}{a b c e o i f:Expr}{ta tb te td ty tx:TE}{wa wb we wd' wy wx:DT}{pos p p2 p3 p4:Pos}{K:Ah}
def jK(w:DT):DT:=λδ n Q=>w δ n λx n1=>match x with
 |.d (.tuple ds)=>Q (.d (.tuple ds.reverse)) n1
 |_=>False
theorem JG{jj}(he:DE X e te we)(hK:X.K=K:=by rfl):DE X (.Subscript e (.Slice ah ah (ae (.UnaryOp .USub (.Constant (.int 1) jj p3) p4)) p2) pos) (Jg K te (uh (rU λi=>.int (-i)) (tC (.int 1)))) (jK we):=by
 subst hK;refine⟨UG he.pe (AG EG df),λC H B σ δ n Q Q' R q k=>he.sd C H B σ δ n _ _ R q λv x H1 n1 R1 k1 r1 q1=>?_⟩
 split at q1
 ·rename_i ds;cases(show RdX H1 B v (.tuple ds)from r1)with
  |@tup ay ys _ e1 e2 e3 e4=>
   refine⟨1,rfl,ay,ys,rfl,rfl,SqT.of e1,λp hp=>k _ _ _ n1 (R1.new hp) (k1.trans (Kp.new hp)) (wd (show RdX _ B _ (.tuple ds.reverse)from .tup bB (R1.nb hp) (by rw[Ge];exact e3) ?_)) q1⟩;exact((RdXs.rev e4).fresh hp).less λb z=>.inl z
 ·exact q1.elim
end
end DL
namespace L2
open PySem PySem.Spec PyProof.Rows PySem.SeqAt
end L2
namespace DL
open PySem L2 Nb
end DL
namespace L2
open PySem PySem.Spec PyProof.Rows
end L2
namespace DL
open PySem L2 Nb
end DL
namespace L2
open PySem PySem.Spec PyProof.Rows
def xt(K:Ah):R2:=λx y H Q=>∃a b ys,x=.ref a/\y=.ref b/\SqT K H a []/\SqT K H b ys/\Q (.ref b) H
theorem Lj:OpR X (Ep .Add) (xt X.K):=by
 intro pins s σ H x y v u Q I rx ry h;obtain⟨a,b,ys,rfl,rfl,ha,hb,q0⟩:=h;cases(show v=A6 a from rx);cases(show u=A6 b from ry);obtain⟨its,r1,p1,_⟩:=I.tuple ha;obtain⟨its2,r2,p2,_⟩:=I.tuple hb;obtain⟨⟨cls,dd,data,sl⟩,ho,hc,n,hd⟩:=id p1;obtain⟨⟨cls2,dd2,data2,sl2⟩,ho2,hc2,n2,hd2⟩:=id p2;simp only at hc hd hc2 hd2;subst hc hd hc2 hd2;have hi:its=[]:=r1.nil_iff.mpr rfl;exact concat_meets ⟨_,ho,rfl⟩ ⟨_,ho2,rfl⟩ noFill_tuple_add seq_tuple_add Fw Fn (Ff _ _)
  (tuple_addW0 a b its.toArray its2.toArray n n2 dd dd2 sl sl2 (by simp[hi])) ⟨ho,ho2,⟨.ref b,H,I,rfl,q0⟩⟩
end L2
namespace DL
open PySem L2 Nb
section
variable{X:Cx}{a b:Expr}{ta tb:TE}{wa wb:DT}{pos p:Pos}{K:Ah}
def cY:Wv->Wv->Int->DQ->Prop:=λx y n Q=>match x,y with
 |.d (.tuple []),.d (.tuple j)=>Q (.d (.tuple j)) n
 |x,y=>fD x y n Q
theorem M0:bE (λx y H Q=>ni K x y H Q\/xt K x y H Q) cY:=λC H B σ δ n x y p q Q Q' R rx ry h1 k=>by
 unfold cY at h1
 split at h1
 ·rename_i j;cases(show RdX H B x (.tuple [])from rx)with
  |@tup ax xs _ e1 e2 e3 e4=>
   cases(show RdX H B y (.tuple j)from ry)with
   |@tup ay ys _ f1 f2 f3 f4=>
    cases e4;exact .inr ⟨ax,ay,ys,rfl,rfl,SqT.of e1,SqT.of f1,k _ _ H n R (Kp.refl _ _) (wd (show RdX H B _ (.tuple j)from .tup f1 f2 f3 f4)) h1⟩
 ·exact .inl (zN C H B σ δ n x y _ _ Q Q' R rx ry h1 k)
theorem UP(ha:DE X a ta wa)(hb:DE X b tb wb)(hK:X.K=K:=by rfl):DE X (.BinOp a .Add b pos) (d3 (λx y H Q=>ni K x y H Q\/xt K x y H Q) ta tb) (w2 wa wb cY):=by
 subst hK;exact ic (op_addA.or Lj) M0 ha hb
end
end DL
namespace L2
open PySem PySem.Spec PyProof.Rows
end L2
namespace DL
open PySem L2 Nb
end DL
namespace L2
open PySem PySem.Spec PyProof.Rows
end L2
namespace DL
open PySem L2 Nb
end DL
namespace L2
open PySem PySem.Spec PyProof.Rows
end L2
namespace DL
open PySem L2 Nb
end DL
namespace L2
open PySem PySem.Spec PyProof.Rows
end L2
namespace DL
open PySem L2 Nb
theorem To(ha:DE X a ta wa)(hb:DE X b tb wb):DE X (.BinOp a .Add b pos) (d3 (gz λi j=>.int (i+j)) ta tb) (w2 wa wb (bY λi j=>.int (i+j))):=ic op_add (CM λ_ _ _ _=>.int _) ha hb
section
variable{X:Cx}{a b e o i f:Expr}{ta tb te td ty:TE}{wa wb we wd' wy:DT}{pos p p2:Pos}{K:Ah}
def dO(neg:Bool):Wv->Wv->Int->DQ->Prop:=λx y n Q=>(∃o,x=.ob o/\y=.d .none/\Q (.d (.bool neg)) n)\/bJ neg x y n Q
theorem BG{o:Ob}(h:WRel H B t v (.ob o)):∃a,v=.ref a:=by
 cases o with
 |o=>exact h
 |p d=>obtain⟨a,_,_,e,_⟩:=h;exact⟨a,e⟩
 |k m=>obtain⟨a,_,e,_⟩:=h;exact⟨a,e⟩
 |f m=>obtain⟨a,_,_,e,_⟩:=h;exact⟨a,e⟩
 |q d m=>obtain⟨a,_,_,_,e,_⟩:=h;exact⟨a,e⟩
theorem My:bE (λx y H Q=>y=.non/\Q (.bl (decide (x=.non))) H) (dO aj):=λC H B σ δ n x y p q Q Q' R rx ry h1 k=>by
 rcases h1 with⟨o,rfl,rfl,h⟩|h
 ·obtain⟨a,rfl⟩:=BG rx;cases(show RdX H B y .none from ry);exact⟨rfl,k _ _ H n R (Kp.refl _ _) (wd (.bl _)) h⟩
 ·exact EN C H B σ δ n x y p q Q Q' R rx ry h k
theorem z9:bE (λx y H Q=>y=.non/\Q (.bl (!decide (x=.non))) H) (dO ai):=λC H B σ δ n x y p q Q Q' R rx ry h1 k=>by
 rcases h1 with⟨o,rfl,rfl,h⟩|h
 ·obtain⟨a,rfl⟩:=BG rx;cases(show RdX H B y .none from ry);exact⟨rfl,k _ _ H n R (Kp.refl _ _) (wd (.bl _)) h⟩
 ·exact IA C H B σ δ n x y p q Q Q' R rx ry h k
def yj(w w':DT):DT:=λδ n Q=>w δ n λx n1=>w' δ n1 λy n2=>∃d m,x=.d d/\y=.ob (.k m)/\Q (.ob (.q d m)) n2
theorem Ve{x1}(ha:DE X a ta wa)(hb:DE X b tb wb)(he:Au [a,b] X.env=(aj,eval a X.env)::Au [b] X.env:=by rfl)(he':Au [b] X.env=(aj,eval b X.env)::Au [] X.env:=by rfl):DE X (.Tuple [a,b] x1 pos) (kj (dB ta (dB tb ck))) (yj wa wb):=
 ⟨yc (cU ha.pe (cU hb.pe eI he') he),λC H B σ δ n Q Q' R q k=>
  ha.sd C H B σ δ n _ _ R q λv x H1 n1 R1 k1 r1 q1=>hb.sd C H1 B σ δ n1 _ _ R1 q1 λu y H2 n2 R2 k2 r2 q2=>by
   obtain⟨d,m,rfl,rfl,q3⟩:=q2;have r1':RdX H2 B v d:=r1.kp k2 R1.bt;obtain⟨b,l,rfl,g1,g2,g3⟩:=r2;refine⟨small (show 2<=1000 by decide),λp hp=>k _ (.ob (.q d m)) _ n2 (R2.new hp) ((k1.trans k2).trans (Kp.new hp)) ⟨p,v,b,l,rfl,bB,R2.nb hp,?_,?_,g2,?_⟩ q3⟩
   ·exact r1'.kp (Kp.new (t:=C.t) hp) R2.bt
   ·exact Kp.new (t:=C.t) hp _ _ g1 λz=>g2 (z▸R2.bt)
   ·exact g3.move λb o e n=>⟨Kp.new (t:=C.t) hp b o e λz=>n (z▸R2.bt),n⟩⟩
def aO:Wv->Wv->Int->DQ->Prop:=λx y n Q=>(∃d m,x=.ob (.q d m)/\((y=.d (.int 0)/\Q (.d d) n)\/(y=.d (.int 1)/\Q (.dk m) n)))\/aA x y n Q
theorem LX:bE (kA K) aO:=λC H B σ δ n x y p q Q Q' R rx ry h1 k=>by
 rcases h1 with⟨d,m,rfl,h⟩|h
 ·obtain⟨a,v,b,l,rfl,e2,e3,e4,e5,e6,e7⟩:=rx;rcases h with⟨rfl,h⟩|⟨rfl,h⟩
  ·cases(show RdX H B y (.int 0)from ry);exact .inr (.inl ⟨a,[v,.ref b],0,v,rfl,rfl,SqT.of e2,rfl,k _ _ H n R (Kp.refl _ _) (wd e4) h⟩)
  ·cases(show RdX H B y (.int 1)from ry);exact .inr (.inl ⟨a,[v,.ref b],1,.ref b,rfl,rfl,SqT.of e2,rfl,k _ (.dk m) H n R (Kp.refl _ _) ⟨b,l,rfl,e5,λz=>e6 (z▸R.bt),e7⟩ h⟩)
 ·exact nJ C H B σ δ n x y p q Q Q' R rx ry h k
theorem ML(ha:DE X a ta wa)(hb:DE X b tb wb)(hK:X.K=K:=by rfl)(hs:mY b:=by exact λ_ _=>rfl):DE X (.Subscript a b pos) (d3 (kA K) ta tb) (w2 wa wb aO):=by
 subst hK;exact⟨gZ sN ha.pe hb.pe hs,mB LX ha.sd hb.sd⟩
end
section
variable{X:Cx}{a b e o:Expr}{ta tb te td ty:TE}{wa wb we wd' wy:DT}{pos p p2:Pos}{K:Ah}{H:Hp}{B:Addr->Prop}{l:List (List aG×V)}{m:List (List aG×Aa)}
def iA(m:List (List aG×Aa))(k:List aG):Bool:=m.any λkv=>decide (kv.1=k)
def gO(m:List (List aG×Aa))(k:List aG)(d:Aa):List (List aG×Aa):=if iA m k=ai then m.map (λkv=>if kv.1=k then(kv.1,d)else kv)else m++[(k,d)]
theorem RdT.any(h:RdT H B l m)(k):(l.any λkv=>decide (kv.1=k))=iA m k:=by
 unfold RdT at h;unfold iA
 induction h with
 |nil=>rfl
 |cons r _ ih=>rw[C5,C5,ih,r.1]
theorem RdT.isSome(h:RdT H B l m)(k):(cj l k).isSome=iA m k:=by
 rw[<-h.any k];unfold cj;rw[Fx,List.isSome_find?]
theorem RdT.len(h:RdT H B l m):l.length=m.length:=by
 unfold RdT at h
 induction h with
 |nil=>rfl
 |cons _ _ ih=>rw[Am,Am,ih]
theorem RdT.map(h:RdT H B l m)(r:RdX H B v d)(k):RdT H B (l.map λkv=>if kv.1=k then(kv.1,v)else kv) (m.map λkv=>if kv.1=k then(kv.1,d)else kv):=by
 unfold RdT at h ⊢
 induction h with
 |nil=>exact .nil
 |@cons p q ps qs z _ ih=>
  rw[Bb,Bb];refine .cons ?_ ih;by_cases e:p.1=k
  ·have e':q.1=k:=z.1▸e;rw[if_pos e,if_pos e'];exact⟨z.1,r⟩
  ·have e':¬q.1=k:=z.1▸e;rw[if_neg e,if_neg e'];exact z
theorem RdT.snoc(h:RdT H B l m)(r:RdX H B v d)(k):RdT H B (l++[(k,v)]) (m++[(k,d)]):=by
 unfold RdT at h ⊢
 induction h with
 |nil=>exact .cons ⟨rfl,r⟩ .nil
 |cons z _ ih=>exact .cons z ih
theorem RdT.put(h:RdT H B l m)(r:RdX H B v d)(k):RdT H B (cI l k v) (gO m k d):=by
 unfold cI gO;rw[h.any k]
 split
 ·exact h.map r k
 ·exact h.snoc r k
def qQ(i:Nat):aP:=λδ n K=>K.nx (δ.set i (ae (.odt []))) n
theorem S3(hN:X.N.Nodup)(hi:X.N[i]?=ae x)(hx:ki X.env.scope x)(hs:Dw (.Dict [] [] p) (ae (.Name x pos')) pos.line X.env=pure aj:=by rfl)(hf:X.fn x=ai\/X.env.scope.names.lookup x=ae .local:=by first|exact .inl rfl|exact .inr rfl|assumption):
  DS X (.Assign [.Name x pos'] (.Dict [] [] p) pos) (dE Jn (g9 i)) (qQ i):=⟨jF hN hi hx UH hs hf,λC H B σ δ n K D R q E=>λa ha=>by
  refine E.nx _ _ _ _ _ (R.own (R.new ha) (Kp.new ha) ha (by rw[bB];exact λz=>nomatch z) rfl ?_) q;exact⟨a,[],rfl,bB,.inr rfl,R.h0 ha,Bm _,.nil⟩⟩
def qI(i:Nat)(w:DT):DT:=λδ n Q=>w δ n λx n1=>∃k kvs,x=.d (nN k)/\δ[i]?=ae (ae (.odt kvs))/\Q (.d (.bool !iA kvs k)) n1
theorem Uj(hi:DE X a ta wa):eY (mq ta (cq i)) (qI i wa):=λC H B σ δ n Q Q' R h k=>
 hi.sd C H B σ δ n _ _ R h λv x H1 n1 R1 k1 r1 q1=>by
  obtain⟨key,kvs,rfl,e,q⟩:=q1;obtain⟨w,h1,b,l,rfl,g2,g3,g4,g5,g6⟩:=R1.sl i _ e;refine⟨_,h1,?_⟩;cases(show RdX H1 B v (.tuple (key.map vD))from r1)with
  |@tup c zs _ i1 i2 i3 i4=>
   have ez:=IY i4;subst ez;refine⟨b,cj l key,rfl,DGet.t g2 i1,k _ _ H1 n1 R1 k1 (wd (.bl _)) ?_⟩;rw[g6.isSome key];exact q
theorem KO{xp:Pos}(hu:X.A.units+64 < Eo)(hN:X.N[i]?=ae x)(hi:DE X a ta wa)(hv:fj X.env.scope x:=by first|exact Ce rfl|exact Bs (Ce rfl)|exact Bs (Bs rfl))(hd:(x==("__debug__":Str))=aj:=by decide)
  (hcd:(x==("__classdict__":Str))=aj:=by decide) (hm:Cf .NotIn (.Name x xp)=aj:=by with_unfolding_all rfl):DC X (.Compare a [.NotIn] [.Name x xp] pos) (jz (mq ta (cq i))) (cT (qI i wa)):=⟨FA (yz ⋯ hi.pe (fW hN hv hd hcd)) hm,kU (Uj hi)⟩
def HP(i:Nat)(wy wv:DT):aP:=λδ n K=>wv δ n λv n1=>∃kvs,δ[i]?=ae (ae (.odt kvs))/\wy δ n1 λy n2=>∃k d,v=.d d/\y=.d (nN k)/\kvs.length < 1000/\K.nx (δ.set i (ae (.odt (gO kvs k d)))) n2
theorem SS{xp sp:Pos}(hu:X.A.units+64 < Eo)(hN:X.N[i]?=ae x)(hj:DE X j tj wj)(he:DE X e te we)(hv:fj X.env.scope x:=by first|exact Ce rfl|exact Bs (Ce rfl)|exact Bs (Bs rfl))(hd:(x==("__debug__":Str))=aj:=by decide)
  (hcd:(x==("__classdict__":Str))=aj:=by decide) (hs:Dw e (ae (.Subscript (.Name x xp) j sp)) pos.line X.env=pure aj:=by rfl):
  DS X (.Assign [.Subscript (.Name x xp) j sp] e pos) (rp (cq i) tj te) (HP i wj we):=
 ⟨ux ⋯ (fW hN hv hd hcd) hj.pe he.pe hs,λC H B σ δ n K D R q E=>
  he.sd C H B σ δ n _ _ R q λu y H1 n1 R1 k1 r1 q1=>by
   obtain⟨kvs,ei,q1⟩:=q1;obtain⟨v,hv,a,l,rfl,e2,e3,e4,e5,e6⟩:=R1.sl i _ ei;refine⟨_,hv,hj.sd C H1 B σ δ n1 _ _ R1 q1 λw z H2 n2 R2 k2 r2 q2=>?_⟩;obtain⟨key,d,rfl,rfl,hl0,q2⟩:=q2;have hat:a≠C.t:=λz=>R.t0 (z▸e4);have e2':=k2 _ _ e2 hat;have r1':RdX H2 B u d:=RdX.kp k2 R1.bt r1;have e6':RdT H2 B l kvs:=e6.move λb o e n=>⟨k2 b o e λz=>n (z▸R1.bt),n⟩;have hl:l.length < 1000:=by rw[e6'.len];exact hl0
   cases(show RdX H2 B w (.tuple (key.map vD))from r2)with
   |@tup c zs _ i1 i2 i3 i4=>
    have ez:=IY i4;subst ez;refine⟨a,_,rfl,DPut.t e2' i1 (Bo hl (eF (An _))),?_⟩;refine E.nx _ _ _ _ _ (R2.mutOwn ei rfl hv e3 e4 ?_ rfl) q2;refine⟨a,_,rfl,bB,e3,e4,?_,?_⟩
    ·have:=rZ l key u;omega
    ·exact(e6'.put r1' _).move λb o e n=>⟨by rw[aY λ(z:b=a)=>n (z▸e3)];exact e,n⟩⟩
end
section
variable{X:Cx}{a b e o i f:Expr}{ta tb te td ty:TE}{wa wb we wd' wy:DT}{pos p p2:Pos}{K:Ah}
def ik(k:Int)(xs:List Aa):List Aa:=xs.zipIdx.map λq=>.tuple [.int (k+q.2),q.1]
theorem mM:(ik k xs).length=xs.length:=by unfold ik;rw[Ab,List.length_zipIdx]
theorem zJ{i:Nat}(h:(ik k xs)[i]?=ae d):∃x,xs[i]?=ae x/\d=.tuple [.int (k+i),x]:=by
 unfold ik at h;rw[Aw,List.getElem?_zipIdx]at h;cases e:xs[i]? with
 |none=>rw[e]at h;cases h
 |some x=>
  rw[e]at h;refine⟨x,rfl,?_⟩;have:=A8 h;rw[<-this,Nat.zero_add]
theorem nq:ik k (x::xs)=.tuple [.int k,x]::ik (k+1) xs:=by
 refine List.ext_getElem? λi=>?_;unfold ik;cases i with
 |zero=>rw[List.zipIdx_cons,Bb,List.getElem?_cons_zero,List.getElem?_cons_zero,Int.natCast_zero,Int.add_zero]
 |succ i=>
  rw[Gt,Aw,Aw,List.getElem?_zipIdx,List.getElem?_zipIdx,Gt];cases xs[i]? with
  |none=>rfl
  |some y=>
   show ae (PyData.tuple [.int (k+(0+(i+1):Nat)),y])=ae (.tuple [.int (k+1+(0+i:Nat)),y]);have:k+(0+(i+1):Nat)=k+1+(0+i:Nat):=by omega
   rw[this]
def p6(hs:List Str)(w:DT):DT:=λδ n Q=>w δ n λx n1=>∃a,x=.d a/\fA a=ai/\Q (.d (.bool !bU a (hs.map .str))) n1
theorem JR(hl:∀h∈hs,h.length<=1000)(hq:∀H,SqT K H q (hs.map V.str))(h:eY ta wa):eY (d3 (iO K ai) ta (tC (.ref q))) (p6 hs wa):=λC H B σ δ n Q Q' R z k=>
 h C H B σ δ n _ _ R z λv x H1 n1 R1 k1 r1 q1=>by
  obtain⟨da,rfl,q1⟩:=q1;have r1:RdX H1 B v da:=r1;have rs:RdXs H1 B (hs.map V.str) (hs.map .str):=wq hl;refine⟨q,_,rfl,.inr (hq H1),lI r1 q1.1,kW rs ?_,k _ _ H1 n1 R1 k1 (wd (.bl _)) ?_⟩
  ·rw[List.all_map];exact Dq.mpr λ_ _=>rfl
  ·rw[l6 r1 rs];exact q1.2
theorem Kw{xp:Pos}(ha:DE X a ta wa)(hg:Gl X x)(hm:X.mg x=ae (.ref q))(hq:∀H,SqT K H q (hs.map V.str))(hl:∀h∈hs,h.length<=1000:=by decide +kernel)(hK:X.K=K:=by rfl)(hd:(x==("__debug__":Str))=aj:=by decide)
  (hmk:Cf .NotIn (Expr.Name x xp)=aj:=by with_unfolding_all rfl):DC X (.Compare a [.NotIn] [.Name x xp] pos) (jz (d3 (iO K ai) ta (tC (.ref q)))) (cT (p6 hs wa)):=
 ⟨kB (qB hK) ha.pe (pM hg hm rfl hd) hmk,kU (JR hl hq ha.sd)⟩
end
section
variable{X:Cx}{e:Expr}{te:TE}{we:DT}{pos p:Pos}
def kE(w:kL):DT:=λδ n Q=>w δ n λkvs n1=>Q (.dk kvs) n1
theorem DN.d(h:DN X e te w):DE X e te (kE w):=⟨h.pe,λC H B σ δ n Q Q' R q k=>
 h.sd C H B σ δ n _ _ R q λa l kvs H' n' R' k' h0 h1 h2 h3 q1=>by
  refine k _ (.dk kvs) H' n' R' k' ⟨a,l,rfl,h1,λz=>?_,h3.move λb o e n=>⟨e,λz=>n (.inl z)⟩⟩ q1;obtain⟨_,_,q,_⟩:=R.tp.ob;rw[<-z,h0]at q;cases q⟩
abbrev lE(w:DT):DT:=kE (i8 w)
theorem JU(hh:X.A.handled=ah)(hg:Gl X "dict")(hm:X.mg "dict"=ah)(he:DE X e te we)(he':Au [e] X.env=(aj,eval e X.env)::Au [] X.env:=by rfl)(hpl:(Cy pos (Au [] X.env)).any (·.1)=aj:=by rfl):DE X (.Call (.Name "dict" p) [e] [] pos) (fU yM (dB te ck)) (lE we):=
 (FO hh hg hm he ∅ he' hpl).d
end
section
variable{X:Cx}{e:Expr}{te:TE}{we:DT}{pos p2:Pos}{K:Ah}
def VJ(w:DT):c6:=λδ n Q=>w δ n λx n1=>match x with
 |.d (.list ds)=>Q (!ds.isEmpty) n1
 |_=>False
def vN(w:DT)(l u:jH):DT:=λδ n Q=>w δ n λx n1=>l δ n1 λa n2=>u δ n2 λb n3=>match x with
 |.d (.list ds)=>Q (.d (.list (bF ds a b))) n3
 |_=>False
theorem PK(he:DE X e te we)(hl:DOp X lo tl wl)(hh:DOp X hi th wh)(hK:X.K=K:=by rfl):DE X (.Subscript e (.Slice lo hi ah p2) pos) (qz (lR K) te tl th) (vN we wl wh):=by
 subst hK;refine⟨rC uP he.pe hl.po hh.po,λC H B σ δ n Q Q' R q k=>he.sd C H B σ δ n _ _ R q λv x H1 n1 R1 k1 r1 q1=>
  hl.sd C H1 B σ δ n1 _ _ R1 q1 λa H2 n2 R2 k2 q2=>hh.sd C H2 B σ δ n2 _ _ R2 q2 λb H3 n3 R3 k3 q3=>?_⟩
 split at q3
 ·rename_i ds;have r3:RdX H3 B v (.list ds):=(r1.kp k2 R1.bt).kp k3 R2.bt;cases r3 with
  |@lst aa xs _ e1 e2 e3 e4=>
   have kk:=(k1.trans k2).trans k3;refine⟨aa,xs,rfl,SqL.of e1,λp hp=>?_⟩;refine k _ _ _ n3 (R3.new hp) (kk.trans (Kp.new hp)) (wd (show RdX _ B _ (.list (bF ds a b))from .lst bB (R3.nb hp) (A2 (pG xs a b) e3) ?_)) q3;unfold bF fe;rw[<-e4.len];exact(((e4.drop _).take _).fresh hp).less λb z=>.inl z
 ·exact q3.elim
end
end DL
namespace L2
open PySem PySem.Spec PyProof.Rows
def pF(K:Ah)(a:Addr):It:=
 ⟨λi H=>∃xs x,SqL K H a xs/\xs[i]?=ae x,
  λi H v H'=>∃T x,v=.ref T/\H T=ah/\H'=upd H T (.tup [.int i,x])/\∀xs,SqL K H a xs->xs[i]?=ae x,
  λi H=>∃xs,SqL K H a xs/\xs.length=i⟩
theorem MU{K:Ah}(h1:e≠it)(h2:a≠it)(h3:e≠a):Turn P w K (.Tuple elts kk pos) (pF K a) [e,it] e
  (λi h=>(∃old,IsEnum h e it i old)/\h.IsListIter it a i) where
 mem:=by simp
 obj:=λi h st c hc=>by
  obtain⟨⟨x,he⟩,⟨o1,e1,c1,d1⟩⟩:=st;simp only[Ao,Aq,or_false]at hc;rcases hc with rfl|rfl
  ·exact⟨_,he,λv q=>by have q':Data.fields _=Data.cell v:=q;cases q'⟩
  ·exact⟨o1,e1,λv q=>by rw[d1]at q;cases q⟩
 keep:=λi h h' st k=>⟨st.1.imp λ_ q=>k e (by simp) _ q,st.2.at λo q=>k it (by simp) o q⟩
 item:=by
  intro X hP hw hK hc i pins s σ H E I hf st hg;subst hP hw hK;obtain⟨⟨old,he⟩,hi⟩:=st;obtain⟨xs,x,qa,ex⟩:=hg;obtain⟨its,rv,p,_⟩:=I.list qa;obtain⟨u,hu,ru⟩:=rv.get ex;have hlt:i < its.toArray.size:=by simpa using(Av.mp hu).1
  have hef:e∉[it,a]:=λz=>by
   simp only[Ao,Aq,or_false]at z;exact z.elim h1 h3
  refine wpAny_pyNext_enum_itemD (Draws.list (A:=X.A.in1) (I.ok.hd hc) it a h2 its.toArray) he ⟨hi,p.isList⟩ hlt h1 hef λy h' tk a1 a2 a3 a4 a5 a6=>⟨_,rfl,?_⟩;obtain rfl:u=y:=by
   rw[List.getElem?_toArray,hu]at a1;cases a1;rfl
  refine wpAny_letOwnedTupleGo_enum (s:={ s with heap:=h',toks:=tk+1}) a2 λh'' b1 b2=>?_;have T:h''.get? s.heap.objs.size=ae {cls:=.type "tuple",data:=.seq #[.int i tk,u]}:=b2.extBut _ _ (Fg (A0 he)) a4;have Tn:H s.heap.objs.size=ah:=I.hok.fresh (An _);have kp:∀c o,c∉[e,it]->s.heap.get? c=ae o->h''.get? c=ae o:=λc o hc e=>by
   simp only[Ao,Aq,or_false,not_or]at hc;exact b2.extBut _ _ hc.1 (a6 c o hc.1 hc.2 e)
  refine⟨.ref s.heap.objs.size,upd H s.heap.objs.size (.tup [.int i,x]),I.many (t':=tk+1) hf kp (An _) ⟨by show 2<=Az;decide,[.int i tk,u],.cons ⟨tk,rfl⟩ (.cons ru .nil),_,T,rfl,⟨_,rfl⟩,rfl⟩,rfl,⟨_,x,rfl,Tn,rfl,λzs q=>by rw[I.list_inj q qa];exact ex⟩,
   ⟨⟨u,by rw[show((i+1:Nat):Int)=(i:Int)+1 from rfl];exact b1⟩,a3.1.extBut b2.extBut h1.symm⟩,λc hc=>?_⟩
  have hlt:c < s.heap.objs.size:=by
   simp only[Ao,Aq,or_false]at hc;rcases hc with rfl|rfl
   ·exact A0 he
   ·obtain⟨_,e,_⟩:=hi;exact A0 e
  rw[aY (Bk hlt)];exact(hf c hc).1
 done:=by
  intro X hP hw hK hc i pins s σ H E I hf st hg;subst hP hw hK;obtain⟨⟨old,he⟩,hi⟩:=st;obtain⟨xs,hq,hx⟩:=hg;obtain⟨its,rv,p,_⟩:=I.list hq;have hl:=rv.length;have hs:its.toArray.size=i:=by simp;omega
  refine wpAny_pyNext_enum_endD (Draws.list (A:=X.A.in1) (I.ok.hd hc) it a h2 its.toArray) he (by rw[hs];exact⟨hi,p.isList⟩) λh' k=>⟨rfl,I.many0 (t':=s.toks) hf λc o hc e=>?_⟩;simp only[Ao,Aq,or_false,not_or]at hc;exact k c o hc.2 e
 self:=λ_ _ _ _ _ st h=>wpAny_pyIter_enum st.1.choose_spec h
def HV(K:Ah)(ta:TA):TI:=λσ H R=>ta σ H λvs H1=>∃a,vs=[.ref a]/\((∃xs,SqT K H1 a xs)/\R (EW K a) H1\/(∃xs,SqL K H1 a xs)/\R (pF K a) H1)
theorem JS(hg:Gl X "enumerate")(hm:X.mg "enumerate"=ah)(ha:PA X [e1] ta)(hs:Au [e1] X.env=[(aj,eval e1 X.env)]:=by rfl):
  PI X (.Tuple elts kk tpos) (.Call (.Name "enumerate" p) [e1] [] pos) (HV X.K ta):=by
 intro pins s σ H R I h;refine Call_ (mD I hg hm boot_enumerate (Ei (a9 (ha pos pins s σ H _ I h) λus s1 ⟨vs,H1,I1,r1,q1⟩=>?_) (by rw[hs];rfl) rfl));obtain⟨a,e,q⟩:=q1;subst e;cases r1 with
 |cons r rr=>
  cases rr;cases r;have fp:∀c∈[s1.heap.objs.size+1,s1.heap.objs.size],s1.heap.objs.size<=c:=λc hc=>by
   simp only[Ao,Aq,or_false]at hc;rcases hc with rfl|rfl<;>omega
  rcases q with⟨⟨xs,qa⟩,q⟩|⟨⟨xs,qa⟩,q⟩
  ·obtain⟨its,rv,pp,_⟩:=I1.tuple qa;have la:a < s1.heap.objs.size:=by obtain⟨_,e,_⟩:=id pp;exact A0 e
   refine OP (show s1.heap.IsTuple a its.toArray from pp) λh' a1 a2 a3=>wpAny_pyIter_enum (s:={ s1 with heap:=h'}) a1 ?_;exact⟨_,_,_,_,H1,rfl,I1.kept (t':=s1.toks) a3,K4 (Nat.succ_ne_self _) (Bk la) (Fg (Nat.lt_succ_of_lt la)),⟨⟨_,a1⟩,a2⟩,λc hc=>I1.fpOk (fp c hc) (I1.hok.fresh (fp c hc)),q⟩
  ·obtain⟨its,rv,pp,_⟩:=I1.list qa;have la:a < s1.heap.objs.size:=by obtain⟨_,e,_⟩:=pp.isList;exact A0 e
   refine call_enumerate_list pp.isList λh' a1 a2 _ a3=>wpAny_pyIter_enum (s:={ s1 with heap:=h'}) a1 ?_;exact⟨_,_,_,_,H1,rfl,I1.kept (t':=s1.toks) a3,MU (Nat.succ_ne_self _) (Bk la) (Fg (Nat.lt_succ_of_lt la)),⟨⟨_,a1⟩,a2⟩,λc hc=>I1.fpOk (fp c hc) (I1.hok.fresh (fp c hc)),q⟩
end L2
namespace DL
open PySem L2 Nb
section
variable{X:Cx}{a:Expr}{ta:TE}{wa:DT}{pos p:Pos}{K:Ah}
def md(w:DT):gU:=λδ n Q=>w δ n λx n1=>∃xs,(x=.d (.tuple xs)\/x=.d (.list xs))/\Q (ik 0 xs) n1
theorem Qd{elts:List Expr}{kk:Nat}{tpos:Pos}(hg:Gl X "enumerate")(hm:X.mg "enumerate"=ah)(ha:DE X a ta wa)(hK:X.K=K:=by rfl)(hs:Au [a] X.env=[(aj,eval a X.env)]:=by rfl)(he1:Au [a] X.env=(aj,eval a X.env)::Au [] X.env:=by rfl):
  DI X (.Tuple elts kk tpos) (.Call (.Name "enumerate" p) [a] [] pos) (HV K (dB ta ck)) (md wa):=by
 subst hK;refine⟨JS hg hm (cU ha.pe eI he1) hs,λC H B σ δ n Q Q' R q k=>ha.sd C H B σ δ n _ _ R q λv x H1 n1 R1 k1 r1 q1=>?_⟩;obtain⟨xs,rfl|rfl,q2⟩:=q1
 ·cases(show RdX H1 B v (.tuple xs)from r1)with
  |@tup aa vs _ e1 e2 e3 e4=>
   refine⟨aa,rfl,.inl ⟨⟨vs,SqT.of e1⟩,k _ (ik 0 xs) H1 n1 R1 k1 (λfz th=>?_) q2⟩⟩;have za:fz aa=ae (.tup vs):=th.2 _ _ e1 e2;refine⟨by rw[mM,<-e4.len];exact e3,λi H hH hi=>?_,λH hH=>?_,λi H x H' d hH hd hy=>?_⟩
   ·rw[mM]at hi;have h1:i < vs.length:=by rw[e4.len];exact hi
    exact⟨vs,vs[i],SqT.of (hH _ _ za),Af h1⟩
   ·exact⟨vs,SqT.of (hH _ _ za),by rw[mM,e4.len]⟩
   ·obtain⟨T,x1,rfl,hT,rfl,hx⟩:=hy;refine⟨λb o e=>by rw[aY (cR e hT)];exact e,λB' hB hBa=>?_⟩;obtain⟨y,hy,rfl⟩:=zJ hd;obtain⟨u1,hu1,ru1⟩:=e4.getD hy;have t1:=hx _ (SqT.of (hH _ _ za));rw[hu1]at t1;cases t1;have mv:∀b o,H1 b=ae o->¬B b->upd H T (.tup [.int i,x1]) b=ae o/\¬B' b:=λb o e ne=>by
     have:=hH _ _ (th.2 _ _ e ne);exact⟨by rw[aY (cR this hT)];exact this,hB _ _ (th.2 _ _ e ne)⟩
    rw[Int.zero_add];exact .tup bB (λz=>hBa T z hT) (by show 2<=Az;decide) (.cons (.int _) (.cons (ru1.move mv) .nil))
 ·cases(show RdX H1 B v (.list xs)from r1)with
  |@lst aa vs _ e1 e2 e3 e4=>
   refine⟨aa,rfl,.inr ⟨⟨vs,SqL.of e1⟩,k _ (ik 0 xs) H1 n1 R1 k1 (λfz th=>?_) q2⟩⟩;have za:fz aa=ae (.lst vs):=th.2 _ _ e1 e2;refine⟨by rw[mM,<-e4.len];exact e3,λi H hH hi=>?_,λH hH=>?_,λi H x H' d hH hd hy=>?_⟩
   ·rw[mM]at hi;have h1:i < vs.length:=by rw[e4.len];exact hi
    exact⟨vs,vs[i],SqL.of (hH _ _ za),Af h1⟩
   ·exact⟨vs,SqL.of (hH _ _ za),by rw[mM,e4.len]⟩
   ·obtain⟨T,x1,rfl,hT,rfl,hx⟩:=hy;refine⟨λb o e=>by rw[aY (cR e hT)];exact e,λB' hB hBa=>?_⟩;obtain⟨y,hy,rfl⟩:=zJ hd;obtain⟨u1,hu1,ru1⟩:=e4.getD hy;have t1:=hx _ (SqL.of (hH _ _ za));rw[hu1]at t1;cases t1;have mv:∀b o,H1 b=ae o->¬B b->upd H T (.tup [.int i,x1]) b=ae o/\¬B' b:=λb o e ne=>by
     have:=hH _ _ (th.2 _ _ e ne);exact⟨by rw[aY (cR this hT)];exact this,hB _ _ (th.2 _ _ e ne)⟩
    rw[Int.zero_add];exact .tup bB (λz=>hBa T z hT) (by show 2<=Az;decide) (.cons (.int _) (.cons (ru1.move mv) .nil))
end
end DL
namespace L2
open PySem PySem.Spec PyProof.Rows
def fV(n:Nat):List V:=(A3 n).map λi=>V.int ((i:Nat):Int)
theorem xf:∀{l:List Nat},(∀i∈l,RelV (f i) (g i))->Vals (l.map f) (l.map g)
 |[],_=>.nil
 |i::r,h=>.cons (h i As) (xf λj hj=>h j (Ar _ hj))
theorem JM{n:Nat}(hh:A.handled=ah)(hr:IsRange s.heap r a b c t u v)(hs:Builtin.Range.small a b c=ai)(hn:E7 a b c=(n:Int))(hl:n<=2 ^ 24)(hS:s.heap.get? S=ae {cls:=.type "list",data:=.seq #[]})
  (h:∀(h':Heap)(tk:Nat)(acc:Array Ak)(c':Nat),(∀(b:Addr)(o:Obj),b≠S->s.heap.get? b=ae o->h'.get? b=ae o)->h'.get? S=ae {cls:=.type "list",data:=.seq acc c'}->ItemsOf (λi v=>∃t,v=.int (a+(i:Int)*c) t) acc n->R (.ok (.ret (.ref S))) {s with heap:=h',toks:=tk}):codeAny (Bh prog w) A (Code.builtin "list.__iadd__" ⟨[.ref S,.ref r],[]⟩) R s:=by
 refine E2 F.entry_list_iadd ?_;rw[Ez F.plain_list_iadd];exact wpAny_extend_range hh hr hs hn hl S (.ref S) 0 hS h
theorem PM{n:Nat}(hh:A.handled=ah)(hr:IsRange s.heap r a b c t u v)(hs:Builtin.Range.small a b c=ai)(hn:E7 a b c=(n:Int))(hl:n<=2 ^ 24)
  (h:∀(h':Heap)(tk:Nat)(acc:Array Ak),(∀(b:Addr)(o:Obj),s.heap.get? b=ae o->h'.get? b=ae o)->ItemsOf (λi v=>∃t,v=.int (a+(i:Int)*c) t) acc n->Q acc.toList {s with heap:=h',toks:=tk}):A9 (Bh prog w) A (collect (.ref r)) Q E s:=by
 unfold collect;refine Ad (wpAny_runValue (E2 F.entry_proto_collect ?_));rw[Ez F.plain_proto_collect];refine Ad (Cc (Ay ⟨plainId_quiet F.plain_list_iadd _,JM hh (Ag _ hr) hs hn hl (A5 s.heap rfl) λh' tk acc c' hk hS hI=>?_⟩));refine Ad (wpAny_load hS ?_);exact Ay (h h' tk acc (λb o e=>hk b o (Bk (A0 e)) (Ag _ e)) hI)
theorem MC{n:Nat}(hh:A.handled=ah)(hr:IsRange s.heap r a b c t u v)(hs:Builtin.Range.small a b c=ai)(hn:E7 a b c=(n:Int))(hl:n<=1000)
  (h:∀(h':Heap)(tk:Nat)(acc:Array Ak),(∀(b:Addr)(o:Obj),s.heap.get? b=ae o->h'.get? b=ae o)->ItemsOf (λi v=>∃t,v=.int (a+(i:Int)*c) t) acc n->Q (.ref h'.objs.size) {s with heap:=h'.push {cls:=.type "tuple",data:=.seq acc},toks:=tk}):A9 (Bh prog w) A (call (.type "tuple") [.ref r]) Q E s:=by
 refine callType_codes (Q₁:=λv s₁=>s₁.TypeIs v "tuple"/\Q v s₁) F.called_tuple (F.typeCall_tuple_1 (.ref r)) F.entry_object_init ?_ λobj s₁ h₁=>⟨h₁.1,F.args_object_init_2 obj (.ref r),object_init_meets F.called_tuple.init.lookup F.called_tuple.made ∎ prog w A.in1 _ s₁ ⟨h₁.1,rfl,h₁.2⟩⟩;refine codeAny_of_tree ?_;refine Ad (wpAny_of_eq (F.newCall_tuple_1 (.ref r)) (Ay ⟨plainId_quiet F.plain_tuple_new _,E2 F.entry_tuple_new ?_⟩));rw[Ez F.plain_tuple_new];unfold Builtin.«tuple.__new__»;refine Ad (Ay ?_);refine E1 (by rfl) ?_;refine Ad (wpAny_of_eq sub_tuple_self ?_);refine E1 (by rfl) ?_;refine E1 (by rfl) ?_;refine Ad (wpAny_of_eq madeHere_tuple ?_);refine Ad (wpAny_of_eq init_tuple_lookup ?_);refine wpAny_ite_true (by rfl) ?_;refine Ad ?_;refine wpAny_ite_true (by rfl) ?_;refine Ay (Ad ?_);unfold checkCount;refine E1 (by rfl) ?_;refine E1 (by rfl) ?_;refine E1 (by rfl) ?_;refine Ay ?_;refine wpAny_ite_true (by rfl) ?_;refine Ad ?_;refine Ad (Fp (T:="range") ⟨_,hr,rfl⟩ (Ay ?_));refine E1 (by rfl) ?_;refine Ad (PM hh hr hs hn ⋯ λh' tk acc hk hI=>?_);refine Ad (Ay ?_);refine Ad ?_;refine Cc ?_ ?_
 ·exact Ay ⟨⟨_,A5 _ rfl,rfl⟩,h h' tk acc hk hI⟩
 show acc.size<=Az;rw[hI.1,Ew];omega
def uQ:List V->Hp->VK->Prop:=λxs H Q=>∃j:Int,xs=[.int j]/\∀D,H D=ah->Q (.ref D) (upd H D (.rng 0 j))
theorem FL:CallR X (.type "range") uQ:=by
 intro pins s σ H xs us Q I r h;obtain⟨j,rfl,q⟩:=h;obtain⟨u,rfl,ru⟩:=gX r;obtain⟨t,rfl⟩:=ru;refine call_range_1 ⟨.ref s.heap.objs.size,_,I.laid (t':=s.toks+1+1) (o:=.rng 0 j) (λb o e=>Ag _ e) (An _) ⟨_,_,_,A5 _ rfl⟩,rfl,q _ I.fresh⟩
def EL:List V->Hp->VK->Prop:=λxs H Q=>∃(a:Addr)(j:Nat),xs=[.ref a]/\H a=ae (.rng 0 j)/\j<=1000/\∀D,H D=ah->Q (.ref D) (upd H D (.lst (fV j)))
theorem Uk(hh:X.A.handled=ah):CallR X (.type "list") EL:=by
 intro pins s σ H xs us Q I r h;obtain⟨a,j,rfl,ha,hj,q⟩:=h;obtain⟨u,rfl,ru⟩:=gX r;cases(show u=A6 a from ru);obtain⟨t,u,v,e⟩:=I.hok a _ ha;have p62:(2:Int)^62=4611686018427387904:=by decide
 have p24:(2:Nat)^24=16777216:=by decide
 refine call_list_range (n:=j) hh e (small_one ⋯ ⋯ ⋯ ⋯) (by rw[rangeSize_one];split<;>omega) ⋯ λh' tk acc c k hL hI=>?_;refine⟨.ref s.heap.objs.size,_,I.laid (t':=tk) (h':=h') (o:=.lst (fV j)) k (An _) ⟨?_,acc.toList,c,?_,by simpa using hL⟩,rfl,q _ I.fresh⟩
 ·unfold fV;rw[Ab,Cu];exact eF ⋯
 ·have:acc.toList=(A3 j).map λi=>acc.toList.getD i .none:=by
   apply Dn (by simp[hI.1]);intro i h1 h2;simp at h1;simp[h1]
  rw[this];refine xf λi hi=>?_;have hi:=B6.mp hi;have hi2:i < acc.size:=by rw[hI.1];exact hi
  obtain⟨t,e⟩:=hI.2 i acc[i] (D8 hi2);refine⟨t,?_⟩;simp[hi2,e]
def Jb:List V->Hp->VK->Prop:=λxs H Q=>∃(a:Addr)(j:Nat),xs=[.ref a]/\H a=ae (.rng 0 j)/\j<=1000/\∀D,H D=ah->Q (.ref D) (upd H D (.tup (fV j)))
theorem P7(hh:X.A.handled=ah):CallR X (.type "tuple") Jb:=by
 intro pins s σ H xs us Q I r h;obtain⟨a,j,rfl,ha,hj,q⟩:=h;obtain⟨u,rfl,ru⟩:=gX r;cases(show u=A6 a from ru);obtain⟨t,u,v,e⟩:=I.hok a _ ha;have p62:(2:Int)^62=4611686018427387904:=by decide
 refine MC (n:=j) hh e (small_one ⋯ ⋯ ⋯ ⋯) (by rw[rangeSize_one];split<;>omega) hj λh' tk acc k hI=>?_;have I1:Inv X pins σ H {s with heap:=h',toks:=tk}:=I.kept (t':=tk) k;have I2:Inv X pins σ (upd H h'.objs.size (.tup (fV j))) {s with heap:=h'.push {cls:=.type "tuple",data:=.seq acc},toks:=tk}:=
  I1.laid (t':=tk) (λb o e=>Ag _ e) (An _) (show ObjOk X.prog X.w _ _ _ (.tup (fV j))from⟨?_,acc.toList,?_,IsTupP.new _ _⟩)
 ·exact⟨.ref h'.objs.size,_,I2,rfl,q _ (I1.hok.fresh (An _))⟩
 ·unfold fV;rw[Ab,Cu];exact eF ⋯
 ·have:acc.toList=(A3 j).map λi=>acc.toList.getD i .none:=by
   apply Dn (by simp[hI.1]);intro i h1 h2;simp at h1;simp[h1]
  rw[this];refine xf λi hi=>?_;have hi:=B6.mp hi;have hi2:i < acc.size:=by rw[hI.1];exact hi
  obtain⟨t,e⟩:=hI.2 i acc[i] (D8 hi2);refine⟨t,?_⟩;simp[hi2,e]
end L2
namespace DL
open PySem L2 Nb
section
variable{X:Cx}{a o:Expr}{ta td:TE}{wa wd':DT}{pos p p2 p3 xp:Pos}{K:Ah}{x:Str}{q:Addr}{D:List (Str×Str)}
def uH(n:Nat):List Aa:=(A3 n).map λi=>.int ((i:Nat):Int)
theorem vW{g:Nat->Int}:∀{l:List Nat},RdXs H B (l.map λi=>V.int (g i)) (l.map λi=>.int (g i))
 |[]=>.nil
 |_::_=>.cons (.int _) vW
theorem ID(h:j<=1000):(fV j).length<=Az:=by
 unfold fV;rw[Ab,Cu];exact eF h
def xB(w:DT):eW:=λδ n Q=>w δ n λx n1=>∃j:Nat,x=.d (.int j)/\j<=1000/\Q (uH j) n1
theorem M3(hh:X.A.handled=ah)(hg:Gl X "list")(hm:X.mg "list"=ah)(hg2:Gl X "range")(hm2:X.mg "range"=ah)(ho:DE X o td wd')
  (he':Au [o] X.env=(aj,eval o X.env)::Au [] X.env:=by rfl) (hpl:(Cy p3 (Au [] X.env)).any (·.1)=aj:=by rfl)
  (he2:Au [.Call (.Name "range" p2) [o] [] p3] X.env=(aj,eval (.Call (.Name "range" p2) [o] [] p3) X.env)::Au [] X.env:=by rfl) (hpl2:(Cy pos (Au [] X.env)).any (·.1)=aj:=by rfl):
  DF X (.Call (.Name "list" p) [.Call (.Name "range" p2) [o] [] p3] [] pos) (fU EL (dB (fU uQ (dB td ck)) ck)) (xB wd'):=by
 refine⟨kI (Uk hh) hg hm qj (cU (kI FL hg2 hm2 Gg (cU ho.pe eI he') ∎ ∎ he' hpl) eI he2) ∎ ∎ he2 hpl2,λC H B σ δ n Q Q' R q k=>
  ho.sd C H B σ δ n _ _ R q λv x H1 n1 R1 k1 r1 q1=>?_⟩
 obtain⟨j,rfl,hj,kq⟩:=q1;cases(show RdX H1 B v (.int j)from r1);refine⟨j,rfl,λD hD=>⟨D,j,rfl,bB,hj,λD2 hD2=>?_⟩⟩;have k2:=k1.trans (Kp.new (o:=.rng 0 (j:Int)) hD);have R2:=R1.new (o:=.rng 0 (j:Int)) hD;exact k D2 _ _ _ n1 (R2.new hD2) (k2.trans (Kp.new hD2)) (R2.was k2 hD2) bB (ID hj) vW kq
def yn(w:DT):DT:=λδ n Q=>w δ n λx n1=>∃j:Nat,x=.d (.int j)/\j<=1000/\Q (.d (.tuple (uH j))) n1
theorem Kv(hh:X.A.handled=ah)(hg:Gl X "tuple")(hm:X.mg "tuple"=ah)(hg2:Gl X "range")(hm2:X.mg "range"=ah)(ho:DE X o td wd')
  (he':Au [o] X.env=(aj,eval o X.env)::Au [] X.env:=by rfl) (hpl:(Cy p3 (Au [] X.env)).any (·.1)=aj:=by rfl)
  (he2:Au [.Call (.Name "range" p2) [o] [] p3] X.env=(aj,eval (.Call (.Name "range" p2) [o] [] p3) X.env)::Au [] X.env:=by rfl) (hpl2:(Cy pos (Au [] X.env)).any (·.1)=aj:=by rfl):
  DE X (.Call (.Name "tuple" p) [.Call (.Name "range" p2) [o] [] p3] [] pos) (fU Jb (dB (fU uQ (dB td ck)) ck)) (yn wd'):=by
 refine⟨kI (P7 hh) hg hm yA (cU (kI FL hg2 hm2 Gg (cU ho.pe eI he') ∎ ∎ he' hpl) eI he2) ∎ ∎ he2 hpl2,λC H B σ δ n Q Q' R q k=>
  ho.sd C H B σ δ n _ _ R q λv x H1 n1 R1 k1 r1 q1=>?_⟩
 obtain⟨j,rfl,hj,kq⟩:=q1;cases(show RdX H1 B v (.int j)from r1);refine⟨j,rfl,λD hD=>⟨D,j,rfl,bB,hj,λD2 hD2=>?_⟩⟩;have k2:=k1.trans (Kp.new (o:=.rng 0 (j:Int)) hD);have R2:=R1.new (o:=.rng 0 (j:Int)) hD;exact k _ _ _ n1 (R2.new hD2) (k2.trans (Kp.new hD2)) (wd (show RdX _ B _ (.tuple (uH j))from .tup bB (R2.nb hD2) (ID hj) vW)) kq
def qh(D:List (Str×Str))(w:DT):DT:=λδ n Q=>w δ n λx n1=>match x with
 |.d (.str k)=>Q (.d (.bool !(Ba k D).isSome)) n1
 |_=>False
def BY(K:Ah):R2:=λx y H Q=>∃k q D,x=.str k/\y=.ref q/\gL K q D/\Q (.bl !(Ba k D).isSome) H
theorem Vn:OpR X (Bx .NotIn) (BY X.K):=by
 intro pins s σ H x y v u Q I rx ry h;obtain⟨k,q,D,rfl,rfl,hT,hq⟩:=h;obtain⟨t,rfl⟩:=rx;cases ry;refine PyProof.Rows.KTD.notin_text (DD I hT) ?_;rw[DJ];exact⟨.bl _,H,I.kept (t':=s.toks+1) λ_ _ e=>e,rfl,hq⟩
theorem R8(ha:DE X a ta wa)(hg:Gl X x)(hm:X.mg x=ae (.ref q))(hq:gL K q D)(hK:X.K=K:=by rfl)(hd:(x==("__debug__":Str))=aj:=by decide)
  (hmk:Cf .NotIn (Expr.Name x xp)=aj:=by with_unfolding_all rfl):DC X (.Compare a [.NotIn] [.Name x xp] pos) (jz (d3 (BY K) ta (tC (.ref q)))) (cT (qh D wa)):=by
 subst hK;refine⟨kB Vn ha.pe (pM hg hm rfl hd) hmk,kU λC H B σ δ n Q Q' R z k=>ha.sd C H B σ δ n _ _ R z λv x H1 n1 R1 k1 r1 q1=>?_⟩
 split at q1
 ·rename_i key;cases(show RdX H1 B v (.str key)from r1);exact⟨key,q,D,rfl,rfl,hq,k _ _ H1 n1 R1 k1 (wd (.bl _)) q1⟩
 ·exact q1.elim
end
def lU:Aa->Bool
 |.list _=>ai
 |.tuple _=>ai
 |_=>aj
section
variable{X:Cx}{a:Expr}{ta:TE}{wa:DT}{pos p:Pos}{K:Ah}
def Jd(K:Ah):List V->Hp->VK->Prop:=λxs H Q=>∃x d q,xs=[x,.ref q]/\H q=ae (.tup [.ty "tuple",.ty "list"])/\RdD K H x d/\Q (.bl (lU d)) H
theorem Tw(hK:X.K=K:=by rfl):CallR X (.builtin "isinstance") (Jd K):=by
 subst hK;intro pins s σ H xs us Q I r h;obtain⟨x,d,q,rfl,hq,hd,k⟩:=h;obtain⟨u,u',rfl,ru,ru'⟩:=qk r;cases(show u'=A6 q from ru');obtain⟨_,vs,rv,pp⟩:=(show ObjOk X.prog X.w H s.heap q (.tup [.ty "tuple",.ty "list"])from I.hok q _ hq);obtain⟨⟨cls,dd,dt,sl⟩,h1,h2,⟨n,h3⟩,_⟩:=pp;obtain⟨v1,v2,rfl,r1,r2⟩:=qk rv;cases(show v1=Ee "tuple" from r1);cases(show v2=Ee "list" from r2);cases(show cls=Ee "tuple" from h2);cases(show dt=.seq _ n from h3);cases hd with
 |non=>cases(show u=Bu from ru);exact Fj PySem.W.kitx_none I.kIn C7 h1 rfl (λz=>nomatch z) λtk=>⟨.bl aj,H,I.tok tk,rfl,k⟩
 |bl y=>cases(show u=Value.bool y from ru);exact Fj PySem.W.kitx_bool I.kIn C7 h1 rfl (λz=>nomatch z) λtk=>⟨.bl aj,H,I.tok tk,rfl,k⟩
 |int i=>obtain⟨t,z⟩:=(show ∃t,u=F8 i t from ru);cases z;exact Fj PySem.W.kitx_int I.kIn C7 h1 rfl (λz=>nomatch z) λtk=>⟨.bl aj,H,I.tok tk,rfl,k⟩
 |str y=>obtain⟨t,z⟩:=(show ∃t,u=Fs y t from ru);cases z;exact Fj PySem.W.kitx_str I.kIn C7 h1 rfl (λz=>nomatch z) λtk=>⟨.bl aj,H,I.tok tk,rfl,k⟩
 |@lst a xs ds ea eb=>
  cases(show u=A6 a from ru);obtain⟨its,_,pl,_⟩:=I.list ea;obtain⟨o,e1,e2,_⟩:=pl.isList;exact Fj PySem.W.kitx_list I.kIn ⟨o,e1,e2⟩ h1 rfl (λz=>nomatch z) λtk=>⟨.bl ai,H,I.tok tk,rfl,k⟩
 |@tup a xs ds ea eb=>
  cases(show u=A6 a from ru);obtain⟨its,_,pl,_⟩:=I.tuple ea;obtain⟨o,e1,e2,_⟩:=pl;exact Fj PySem.W.kitx_tuple I.kIn ⟨o,e1,e2⟩ h1 rfl (λz=>nomatch z) λtk=>⟨.bl ai,H,I.tok tk,rfl,k⟩
def xX(w:DT):DT:=λδ n Q=>w δ n λx n1=>match x with
 |.d d=>Q (.d (.bool (lU d))) n1
 |_=>False
theorem Ri{p1 p2 tp:Pos}{kt:Nat}(hg:Gl X "isinstance")(hm:X.mg "isinstance"=ah)(hg1:Gl X "tuple")(hm1:X.mg "tuple"=ah)(hg2:Gl X "list")(hm2:X.mg "list"=ah)(ha:DE X a ta wa)(hK:X.K=K:=by rfl)
  (he:Au [a,.Tuple [.Name "tuple" p1,.Name "list" p2] kt tp] X.env=(aj,eval a X.env)::Au [.Tuple [.Name "tuple" p1,.Name "list" p2] kt tp] X.env:=by rfl) (he2:Au [.Tuple [.Name "tuple" p1,.Name "list" p2] kt tp] X.env=(aj,eval (.Tuple [.Name "tuple" p1,.Name "list" p2] kt tp) X.env)::Au [] X.env:=by rfl)
  (he3:Au [.Name "tuple" p1,.Name "list" p2] X.env=(aj,eval (.Name "tuple" p1) X.env)::Au [.Name "list" p2] X.env:=by rfl) (he4:Au [.Name "list" p2] X.env=(aj,eval (.Name "list" p2) X.env)::Au [] X.env:=by rfl)
  (hpl:(Cy pos (Au [.Tuple [.Name "tuple" p1,.Name "list" p2] kt tp] X.env)).any (·.1)=aj:=by rfl):
  DE X (.Call (.Name "isinstance" p) [a,.Tuple [.Name "tuple" p1,.Name "list" p2] kt tp] [] pos) (fU (Jd K) (dB ta (dB (kj (dB (tC (.ty "tuple")) (dB (tC (.ty "list")) ck))) ck))) (xX wa):=by
 refine⟨jP (Tw hK) hg hm wL (cU ha.pe (cU (yc (cU (vP (v:=.ty "tuple") hg1 hm1 yA rfl) (cU (vP (v:=.ty "list") hg2 hm2 qj rfl) eI he4) he3)) eI he2) he) ∎ ∎ he hpl,λC H B σ δ n Q Q' R q k=>ha.sd C H B σ δ n _ _ R q λv x H1 n1 R1 k1 r1 q1=>?_⟩;cases x with
 |d d=>
  refine⟨by show 2<=Az;decide,λt ht=>?_⟩;refine⟨v,d,t,rfl,bB,?_,k _ _ _ n1 (R1.new ht) (k1.trans (Kp.new ht)) (wd (.bl _)) q1⟩;have r1:RdX H1 B v d:=r1;exact(r1.move λb o e nb=>⟨by rw[aY (cR e ht)];exact e,nb⟩).rd
 |tp=>exact q1.elim
 |dk _=>exact q1.elim
 |ln _=>exact q1.elim
 |ob _=>exact q1.elim
def qf(i:Nat)(wa:DT):aP:=λδ n K=>match δ[i]? with
 |some (ae (.own ds))=>wa δ n λx n1=>∃m:Nat,x=.d (.int m)/\m < ds.length/\K.nx (δ.set i (ae (.own (ds.eraseIdx m)))) n1
 |_=>False
theorem NU{xp ap cp:Pos}(hN:X.N[i]?=ae x)(ha:DE X a ta wa)(hv:fj X.env.scope x:=by first|exact Ce rfl|exact Bs (Ce rfl)|exact Bs (Bs rfl))(hd:(x==("__debug__":Str))=aj:=by decide)
  (hcd:(x==("__classdict__":Str))=aj:=by decide)
  (hbase:E4 (.Name x xp) "pop" X.env (eval (.Name x xp) X.env)=eval (.Name x xp) X.env:=by rfl)
  (hfew:((Cy cp (Au [a] X.env)).all (λx=>!x.1)&&(backToKw cp (keywordEach [] X.env)).all (λx=>x.1.isSome)
   && decide ([a].length+([]:List Keyword).length+(if ([]:List Keyword).isEmpty then 0 else 1) < 30))=ai:=by rfl)
  (hline:(ap.endLine==cp.line)=ai:=by rfl) (hs:Au [a] X.env=[(aj,eval a X.env)]:=by rfl) (hplain:(Cy cp (Au [] X.env)).any (·.1)=aj:=by rfl)
  (hsw:Dw (.Call (.Attribute (.Name x xp) "pop" ap) [a] [] cp) ah pos.line X.env=pure aj:=by rfl):
  DS X (.Expr (.Call (.Attribute (.Name x xp) "pop" ap) [a] [] cp) pos) (oz (sX X.K "list" HY (cq i) (dB ta ck))) (qf i wa):=
 ⟨rV (yd Gp PySem.F.slot_list_pop PySem.F.type_list_pop Ng (fW hN hv hd hcd) (cU ha.pe eI hs) hbase hfew hline hs hplain) hsw,λC H B σ δ n K D R q E=>by
  unfold qf at q
  split at q
  ·rename_i ds ei;obtain⟨v,hv,aa,xs,rfl,e2,e3,e4,e5,e6⟩:=R.sl i _ ei;refine⟨_,hv,.inl ⟨rfl,_,SqL.of e2⟩,ha.sd C H B σ δ n _ _ R q λu y H1 n1 R1 k1 r1 q1=>?_⟩;obtain⟨m,rfl,hm,q1⟩:=q1;cases(show RdX H1 B u (.int m)from r1);have hat:aa≠C.t:=λz=>R.t0 (z▸e4);have e2':=k1 _ _ e2 hat;have hle:=e6.len;have g6:=e6.kp k1 R.bt;obtain⟨w,hw,rw'⟩:=g6.getD (Af hm);have hsz:xs.length<=Az:=e5;have h2:Az=16777216:=by decide
   refine⟨aa,xs,(m:Nat),m,w,rfl,rfl,e2',by omega,by omega,?_,hw,?_⟩
   ·exact(vZ (show fc xs.length (m:Nat)=ae m from by unfold fc;rw[if_pos ⋯,if_pos ⋯];rfl)).1
   ·refine E.nx _ _ _ _ _ (R1.mutOwn ei rfl hv e3 e4 ?_ rfl) q1;refine⟨aa,xs.eraseIdx m,rfl,bB,e3,e4,?_,RdXs.keep (λb o e n=>?_) (g6.erase m)⟩
    ·have:=v3 xs m;omega
    ·rw[aY λ(z:b=aa)=>n (z▸e3)];exact e
  ·exact q.elim⟩
def uT(i:Nat)(we wj wk:DT):aP:=λδ n K=>we δ n λv n1=>∃ds d1 d2,δ[i]?=ae (ae (.own ds))/\v=.d (.tuple [d1,d2])/\wj δ n1 λy n2=>∃(k1:Int)(m1:Nat),y=.d (.int k1)/\fc ds.length k1=ae m1 /\
 wk (δ.set i (ae (.own (ds.set m1 d1)))) n2 λz n3=>∃(k2:Int)(m2:Nat),z=.d (.int k2)/\fc ds.length k2=ae m2/\K.nx (δ.set i (ae (.own ((ds.set m1 d1).set m2 d2)))) n3
theorem VE{xp sp xp2 sp2 tp:Pos}{kt:Nat}(hN:X.N[i]?=ae x)(he:DE X e te we)(hj:DE X j tj wj)(hk:DE X k tk wk)(hc:X.calm=ai:=by rfl)(hv:fj X.env.scope x:=by first|exact Ce rfl|exact Bs (Ce rfl)|exact Bs (Bs rfl))(hd:(x==("__debug__":Str))=aj:=by decide)
  (hcd:(x==("__classdict__":Str))=aj:=by decide)
  (ha:∀v,F4 (.Subscript (.Name x xp) j sp) X.env v=(do
   let ov <-Fz [v] (eval (.Name x xp) X.env)
   let iv <-Fz [v,ov] (eval j X.env)
   standAt sp
   Fz [v,ov,iv] (setItem ov iv v)
   release [v,ov,iv] []):=by intro _;rfl)
  (hb:∀v,F4 (.Subscript (.Name x xp2) k sp2) X.env v=(do
   let ov <-Fz [v] (eval (.Name x xp2) X.env)
   let iv <-Fz [v,ov] (eval k X.env)
   standAt sp2
   Fz [v,ov,iv] (setItem ov iv v)
   release [v,ov,iv] []):=by intro _;rfl)
  (hn:(Dc [.Subscript (.Name x xp) j sp,.Subscript (.Name x xp2) k sp2] X.env).length=2:=by rfl) (hst:(Dc [.Subscript (.Name x xp) j sp,.Subscript (.Name x xp2) k sp2] X.env).findIdx? (·.1)=ah:=by rfl)
  (hs:swapsWithSole [.Tuple [.Subscript (.Name x xp) j sp,.Subscript (.Name x xp2) k sp2] kt tp] e pos.line X.env=pure aj:=by rfl) (hw:swappedStores [.Tuple [.Subscript (.Name x xp) j sp,.Subscript (.Name x xp2) k sp2] kt tp] e X.env=pure ah:=by rfl)
  (h1:(Dc [.Tuple [.Subscript (.Name x xp) j sp,.Subscript (.Name x xp2) k sp2] kt tp] X.env).map (·.2)=[F4 (.Tuple [.Subscript (.Name x xp) j sp,.Subscript (.Name x xp2) k sp2] kt tp) X.env]:=by rfl):
  DS X (.Assign [.Tuple [.Subscript (.Name x xp) j sp,.Subscript (.Name x xp2) k sp2] kt tp] e pos) (dE te (jX X.K 2 (qu (jJ (cq i) tj rB) (qu (jJ (cq i) tk rB) mf)))) (uT i we wj wk):=
 ⟨mI he.pe (FI hc (ub (nG (fW hN hv hd hcd) hj.pe m3 ha) (ub (nG (fW hN hv hd hcd) hk.pe m3 hb) CK)) hn hst) hs hw h1,λC H B σ δ n K D R q E=>he.sd C H B σ δ n _ _ R q λu y H1 n1 R1 k1 r1 q1=>by
  obtain⟨ds,d1,d2,ei,rfl,q1⟩:=q1;cases(show RdX H1 B u (.tuple [d1,d2])from r1)with
  |@tup t ys _ f1 f2 f3 f4=>
   cases f4 with
   |@cons v1 _ _ _ g1 f5=>
    cases f5 with
    |@cons v2 _ _ _ g2 f6=>
     cases f6;obtain⟨v,hv,a,xs,rfl,e2,e3,e4,e5,e6⟩:=R1.sl i _ ei;refine⟨t,[v1,v2],rfl,SqT.of f1,rfl,v1,[v2],rfl,_,hv,hj.sd C H1 B σ δ n1 _ _ R1 q1 λw z H2 n2 R2 k2 r2 q2=>?_⟩;obtain⟨i1,m1,rfl,em,q2⟩:=q2;cases(show RdX H2 B w (.int i1)from r2);have hat:a≠C.t:=λz=>R.t0 (z▸e4);have e2':=k2 _ _ e2 hat;refine⟨a,xs,i1,m1,rfl,rfl,e2',by rw[e6.len];exact em,?_⟩;have keep:∀b o,H2 b=ae o->¬B b->upd H2 a (.lst (xs.set m1 v1)) b=ae o:=λb o e n=>by rw[aY λ(z:b=a)=>n (z▸e3)];exact e
     have g1':RdX H2 B v1 d1:=g1.kp k2 R1.bt;have g2':RdX (upd H2 a (.lst (xs.set m1 v1))) B v2 d2:=(g2.kp k2 R1.bt).move λb o e n=>⟨keep b o e n,n⟩;have R3:Rel C (upd H2 a (.lst (xs.set m1 v1))) B σ (δ.set i (ae (.own (ds.set m1 d1)))) n2:=
      R2.mutOwn ei rfl hv e3 e4 ⟨a,xs.set m1 v1,rfl,bB,e3,e4,by rw[B1];exact e5,RdXs.keep keep (RdXs.set m1 (e6.kp k2 R1.bt) g1')⟩ rfl
     refine⟨v2,[],rfl,_,hv,hk.sd C _ B σ _ n2 _ _ R3 q2 λw2 z2 H4 n4 R4 k4 r4 q4=>?_⟩;obtain⟨i2,m2,rfl,em2,q4⟩:=q4;cases(show RdX H4 B w2 (.int i2)from r4);have hil:i < δ.length:=by
      have:=Av.mp ei;exact this.1
     have ei4:(δ.set i (ae (SV.own (ds.set m1 d1))))[i]?=ae (ae (.own (ds.set m1 d1))):=by rw[F1 hil]
     obtain⟨v',hv',a',xs',rfl,b2,b3,b4,b5,b6⟩:=R4.sl i _ ei4;have ea:a'=a:=by
      rw[hv]at hv';exact(V.ref.inj (A8 (A8 hv'))).symm
     subst ea;refine⟨a',xs',i2,m2,rfl,rfl,b2,by rw[b6.len,B1];exact em2,rfl,?_⟩;have:=R4.mutOwn ei4 rfl hv' b3 b4 (x':=.own ((ds.set m1 d1).set m2 d2)) (o:=.lst (xs'.set m2 v2)) ⟨a',xs'.set m2 v2,rfl,bB,b3,b4,by rw[B1];exact b5,RdXs.keep (λb o e n=>by rw[aY λ(z:b=a')=>n (z▸b3)];exact e) (RdXs.set m2 b6 (g2'.kp k4 R3.bt))⟩ rfl;rw[List.set_set]at this;exact E.nx _ _ _ _ _ this q4⟩
end
section
variable{X:Cx}{K:Ah}
structure SmlA(d:Aa):Prop where
 lay:B4 d=ai
 dep:B5 d<=20
 shw:Dx d=ai
 len:d.shown.length<=Az
def EK(K:Ah):List V->Hp->VK->Prop:=λxs H Q=>∃x d,xs=[x]/\RdD K H x d/\SmlA d/\Q (.str d.shown) H
theorem MM(hg:X.A.guards=ae [])(hu:X.A.units+64 < Eo)(hK:X.K=K:=by rfl):CallR X (.builtin "repr") (EK K):=by
 subst hK;intro pins s σ H xs us Q I r h;obtain⟨x,d,rfl,hd,hs,q⟩:=h;obtain⟨u,rfl,ru⟩:=gX r;have hsh:=hs.shw;have hln:=hs.len;cases hd with
 |non=>
  cases(show u=Bu from ru);exact P.repr_of_none ⟨.str _,H,I.tok _,⟨_,rfl⟩,q⟩
 |bl b=>
  cases(show u=Value.bool b from ru);exact P.repr_of_bool ⟨.str _,H,I.tok _,⟨_,rfl⟩,by cases b<;>exact q⟩
 |int i=>
  obtain⟨t,rfl⟩:=(show ∃t,u=F8 i t from ru);exact P.repr_of_int (of_decide_eq_true hsh) ⟨.str _,H,I.tok _,⟨_,rfl⟩,q⟩
 |str y=>
  obtain⟨t,rfl⟩:=(show ∃t,u=Fs y t from ru);exact P.repr_of_str ⟨.str _,H,I.tok _,⟨_,rfl⟩,q⟩ hln
 |@lst a _ _ h1 h2=>
  cases(show u=A6 a from ru);obtain⟨as,hr⟩:=RdD.reads I (RdD.lst h1 h2) (show RelV (.ref a) (A6 a)from rfl);have hdp:=hs.dep;refine repr_of_reads' hr hsh (PyData.noDict_hsm (PyData.hasDict_of_canLay _ hs.lay)) hg ⋯ (λ_ _ e=>e) (λh' u tk hk=>?_) hln;exact⟨.str _,H,I.kept hk,⟨u,rfl⟩,q⟩
 |@tup a _ _ h1 h2=>
  cases(show u=A6 a from ru);obtain⟨as,hr⟩:=RdD.reads I (RdD.tup h1 h2) (show RelV (.ref a) (A6 a)from rfl);have hdp:=hs.dep;refine repr_of_reads' hr hsh (PyData.noDict_hsm (PyData.hasDict_of_canLay _ hs.lay)) hg ⋯ (λ_ _ e=>e) (λh' u tk hk=>?_) hln;exact⟨.str _,H,I.kept hk,⟨u,rfl⟩,q⟩
def lX:List Wv->Int->DQ->Prop:=λxs n Q=>match xs with
 |[.d d]=>SmlA d/\Q (.d (.str d.shown)) n
 |_=>False
theorem QR:eJ (EK K) lX:=λC H B σ δ n vs xs Q Q' R r h k=>by
 unfold lX at h
 split at h
 ·rename_i d;cases r with
  |cons r1 r2=>
   cases r2;have r1:RdX H B _ d:=r1;exact⟨_,d,rfl,r1.rd,h.1,k _ _ H n R (Kp.refl _ _) (wd (show RdX H B _ (.str _)from .str _ h.1.len)) h.2⟩
 ·exact h.elim
end
section
variable{X:Cx}{e:Expr}{te:TE}{we:DT}{pos p2:Pos}{K:Ah}
def kO(w:DT)(l u:jH):DT:=λδ n Q=>w δ n λx n1=>l δ n1 λa n2=>u δ n2 λb n3=>match fI x with
 |some ds=>Q (.d (.list (bF ds a b))) n3
 |none=>False
theorem Ra(he:DE X e te we)(hl:DOp X lo tl wl)(hh:DOp X hi th wh)(hK:X.K=K:=by rfl):DE X (.Subscript e (.Slice lo hi ah p2) pos) (qz (lR K) te tl th) (kO we wl wh):=by
 subst hK;refine⟨rC uP he.pe hl.po hh.po,λC H B σ δ n Q Q' R q k=>he.sd C H B σ δ n _ _ R q λv x H1 n1 R1 k1 r1 q1=>
  hl.sd C H1 B σ δ n1 _ _ R1 q1 λa H2 n2 R2 k2 q2=>hh.sd C H2 B σ δ n2 _ _ R2 q2 λb H3 n3 R3 k3 q3=>?_⟩
 split at q3
 ·rename_i ds ex;have r3:=(r1.kp k2 R1.bt).kp k3 R2.bt;obtain⟨aa,xs,rfl,e1,e3,e4⟩:=nS r3 ex;have kk:=(k1.trans k2).trans k3;refine⟨aa,xs,rfl,SqL.of e1,λp hp=>?_⟩;refine k _ _ _ n3 (R3.new hp) (kk.trans (Kp.new hp)) (wd (show RdX _ B _ (.list (bF ds a b))from .lst bB (R3.nb hp) (A2 (pG xs a b) e3) ?_)) q3;unfold bF fe;rw[<-e4.len];exact(((e4.drop _).take _).fresh hp).less λb z=>.inl z
 ·exact q3.elim
end
end DL
namespace L2
open PySem PySem.Spec PyProof.Rows PySem.W
def gJ(vs:List Ak)(ks:List Int):Prop:=vs.length=ks.length/\∀(j:Nat) v,vs[j]?=ae v->∃k t,ks[j]?=ae k/\v=.int k t
theorem wM(h:gJ vs ks):∀(idx:List Nat),(∀i∈idx,i < ks.length)->Vals ((idx.map λi=>ks.getD i 0).map V.int) (idx.map λi=>vs.getD i Bu)
 |[],_=>.nil
 |i::r,hi=>by
  have h1:=hi i As;have h2:i < vs.length:=by rw[h.1];exact h1
  obtain⟨k,t,e1,e2⟩:=h.2 i vs[i] (Af h2);refine .cons ⟨t,?_⟩ (wM h r λj hj=>hi j (Ar _ hj));simp[h2,e1,e2]
theorem Ow{ks:List Int}{idx:List Nat}(h:idx.Perm (A3 ks.length)):(idx.map λi=>ks.getD i 0).Perm ks:=by
 have h1:=h.map λi=>ks.getD i (0:Int);have h2:(A3 ks.length).map (λi=>ks.getD i (0:Int))=ks:=by
  apply Dn (by simp);intro i h1 h2;simp[h2]
 rw[h2]at h1;exact h1
def kg(ks:List Int)(i j:Nat):Bool:=decide (ks.getD i 0 < ks.getD j 0)
theorem v9(ks):KS.Ord (kg ks) where
 asym:=λi j h=>by
  unfold kg at h ⊢;have:=of_decide_eq_true h;exact decide_eq_false ⋯
 ltr:=λi j k h1 h2=>by
  unfold kg at h1 h2 ⊢;have h1:=of_decide_eq_false h1;have h2:=of_decide_eq_false h2;exact decide_eq_false ⋯
theorem Rr(hz:p.size=n)(h:KS.SP (kg ks) p n):(p.toList.map λi=>ks.getD i 0).Pairwise (λa b=>a<=b):=by
 rw[List.pairwise_iff_getElem];intro i j hi hj hij;rw[Ab,Df,hz]at hi hj;have:=h i j hij hj;unfold kg KS.g at this;have e1:p.getD i 0=p[i]:=by simp[hz,hi]
 have e2:p.getD j 0=p[j]:=by simp[hz,hj]
 rw[e1,e2]at this;simp only[List.getElem_map,Array.getElem_toList];have:=of_decide_eq_false this;omega
theorem zo{σ:St}{h':Heap}(I:Inv X pins σ H s)(hkp:∀b o,s.heap.get? b=ae o->h'.get? b=ae o)(hT:gJ vs ks)(h64:ks.length < 64)
  (q:∀(D:Addr)(ys:List Int),ys.Perm ks->ys.Pairwise (λa b=>a<=b)->H D=ah->Q (.ref D) (upd H D (.lst (ys.map V.int)))):
  vs.length<=Az/\A9 (Bh X.prog X.w) X.A.in1.in1 (Builtin.«list.sort» ⟨[.ref h'.objs.size],[]⟩) (λf s2=>f=.done (.ret .none)/\EP X pins σ Q (.ref h'.objs.size) s2) X.xe {s with heap:=h'.push (Ci "list" vs.toArray 0),toks:=tk}:=by
 have hl:=hT.1;refine⟨by rw[hl];exact eF ⋯,?_⟩;have hoL:(h'.push (Ci "list" vs.toArray 0)).get? h'.objs.size=ae (Ci "list" vs.toArray 0):=A5 _ rfl;have fin:∀(idx:List Nat)(h3:Heap)(c:Nat),idx.Perm (A3 ks.length)->(idx.map λi=>ks.getD i 0).Pairwise (λa b=>a<=b)->
   (∀b o,b≠h'.objs.size->(h'.push (Ci "list" vs.toArray 0)).get? b=ae o->h3.get? b=ae o)->h3.get? h'.objs.size=ae (Ci "list" (C6 (idx.map λi=>vs.getD i Bu)) c)->EP X pins σ Q (.ref h'.objs.size) {s with heap:=h3,toks:=tk}:=λidx h3 c hp hw k3 hL=>by
  have I1:Inv X pins σ H {s with heap:=h',toks:=tk}:=I.kept hkp;have hn:H h'.objs.size=ah:=I1.hok.fresh (An _);refine⟨.ref h'.objs.size,_,I1.laid (t':=tk) (h':=h3) (o:=.lst ((idx.map λi=>ks.getD i 0).map V.int)) (λb o e=>k3 b o (Bk (A0 e)) (Ag _ e)) (An _) ⟨?_,_,c,wM hT idx (λi hi=>B6.mp (hp.mem_iff.mp hi)),hL⟩,rfl,q _ _ (Ow hp) hw hn⟩;rw[Ab,Ab,hp.length_eq,Cu];exact eF ⋯
 by_cases h2:2<=vs.length
 ·refine KS.ls_sort (s:={ s with heap:=h'.push (Ci "list" vs.toArray 0),toks:=tk}) hoL h2 ⋯ λe1 h4 ha4 k4=>?_;refine kas_kind (s:={ s with heap:=h4,toks:=tk}) (T:=Ee "int") h2 (λf hf=>?_) rfl rfl ?_
  ·obtain⟨j,hj⟩:=B8.mp hf;obtain⟨k,t,_,rfl⟩:=hT.2 j f hj;exact .now
  ·have hn:0 < vs.length:=by omega
   have hwi:=KS.wi_sort hn;refine KS.wp_run (n:=vs.length) (P:=KS.Pm vs.length) (c:=kg ks) (St:=λs'=>s'={ s with heap:=h4,toks:=tk}) (λi j C s' hi hj hs hC=>?_) _ _ hwi rfl λs' hs'=>?_
   ·subst hs;obtain⟨k1,t1,a1,a2⟩:=hT.2 i vs[i] (Af hi);obtain⟨k2,t2,b1,b2⟩:=hT.2 j vs[j] (Af hj);unfold kas_ask;have g1:vs.getD i Bu=.int k1 t1:=by simp[hi,a2]
    have g2:vs.getD j Bu=.int k2 t2:=by simp[hj,b2]
    rw[g1,g2];have c1:ks.getD i 0=k1:=by simp[a1]
    have c2:ks.getD j 0=k2:=by simp[b1]
    have:=hC _ rfl;unfold kg at this;rw[c1,c2]at this;rw[keyLt'_oneType];exact oneLt_int this
   ·subst hs';refine⟨ha4,λh3 c sb hL3=>⟨rfl,?_⟩⟩;have hpm:KS.Pm vs.length (KS.run (kg ks) (kas_sort vs.length)):=KS.Wi.out _ hwi;have hsp:=KS.sort_ok (v9 ks) (n:=vs.length) hn;have hsz:=hpm.size;have hidx:(KS.run (kg ks) (kas_sort vs.length)).toList.Perm (A3 vs.length):=by
     have:=Array.perm_iff_toList_perm.mp hpm;simpa using this
    refine fin _ h3 c (by rw[<-hl];exact hidx) (Rr hsz hsp) (λb o hb e=>(sb.2 b hb).trans (k4 b o hb e)) hL3
 ·refine KS.ls_short (s:={ s with heap:=h'.push (Ci "list" vs.toArray 0),toks:=tk}) hoL ⋯ λh4 c ha4 k4=>⟨rfl,?_⟩;have el:vs=(A3 ks.length).map λi=>vs.getD i Bu:=by
   apply Dn (by simp[hl]);intro i h1 h2;simp[h1]
  have ha5:h4.get? h'.objs.size=ae (Ci "list" (C6 ((A3 ks.length).map λi=>vs.getD i Bu)) c):=by rw[<-el];exact ha4
  refine fin (A3 ks.length) h4 c (List.Perm.refl _) ?_ k4 ha5;have:(A3 ks.length).length<=1:=by simp;omega
  match hr:A3 ks.length,this with
  |[],_=>exact .nil
  |[i],_=>exact Gs _ _
theorem G7{vs':List (aG×Ak)}{ks:List Int}{acc:Array Ak}(hkeys:vs'.map (·.1)=ks.map (Dt:Int->aG))(h1:acc.size=vs'.length)(h2:∀(i:Nat) (v:Ak),acc[i]?=ae v->∃k x,vs'[i]?=ae (k,x)/\(eZ P w).is k v=ai):gJ acc.toList ks:=by
 have hlen:vs'.length=ks.length:=by have:=congrArg Dv hkeys;simpa using this
 refine⟨by rw[Df,h1,hlen],λj v hj=>?_⟩;obtain⟨k,x,e1,e2⟩:=h2 j v (by simpa using hj);have hk1:(vs'.map (·.1))[j]?=ae k:=by rw[Aw,e1];rfl
 rw[hkeys,Aw]at hk1;cases eq:ks[j]? with
 |none=>rw[eq]at hk1;cases hk1
 |some k0=>
  rw[eq]at hk1;have hk2:(Dt k0:aG)=k:=A8 hk1;subst hk2;rcases iJ (k:=Dt k0) (v:=v) (show jI (Dt k0) v=ai from e2)with⟨i,t,z,rfl⟩|⟨y,t,z,rfl⟩
  ·cases z;exact⟨k0,t,rfl,rfl⟩
  ·cases z
def yL:List V->Hp->VK->Prop:=λxs H Q=>∃(d:Addr)(l:List (aG×V))(ks:List Int),xs=[.ref d]/\H d=ae (.dK l)/\l.map (·.1)=ks.map (Dt:Int->aG)/\ks.length < 64 /\
 ∀(D:Addr)(ys:List Int),ys.Perm ks->ys.Pairwise (λa b=>a<=b)->H D=ah->Q (.ref D) (upd H D (.lst (ys.map V.int)))
theorem NK(hh:X.A.handled=ah):CallR X (.builtin "sorted") yL:=by
 intro pins s σ H xs us Q I r h;obtain⟨d,l,ks,rfl,hd,hk,h64,q⟩:=h;obtain⟨u,rfl,ru⟩:=gX r;cases(show u=A6 d from ru);obtain⟨z,hsys,vs',rel,hDict⟩:=I.hok d _ hd;obtain⟨ep,hat⟩:=hDict.dictAt;have hkeys:vs'.map (·.1)=ks.map (Dt:Int->aG):=(HH rel).trans hk;have hlen:vs'.length=ks.length:=by have:=congrArg Dv hkeys;simpa using this
 refine KS.sorted_of (R:=λvs s1=>∃(h':Heap)(tk:Nat),s1={ s with heap:=h',toks:=tk}/\(∀b o,s.heap.get? b=ae o->h'.get? b=ae o)/\gJ vs ks)
  (kdu_collect (kdl_dict (knd:=eZ X.prog X.w) (kvs:=vs') (ep:=ep) hsys) hh hat (by rw[hlen];exact eF ⋯) λh' tk acc hk' hI=>⟨h',tk,rfl,hk',G7 hkeys hI.1 hI.2⟩) ?_
 rintro vs s1 ⟨h',tk,rfl,hkp,hT⟩
 exact zo (s:=s) I hkp hT h64 q
def GV:List V->Hp->VK->Prop:=λxs H Q=>∃(d:Addr)(l:List (aG×V))(ks:List Int),xs=[.ref d]/\H d=ae (.dK l)/\l.map (·.1)=ks.map (Dt:Int->aG)/\∀D,H D=ah->Q (.ref D) (upd H D (.lst (ks.map V.int)))
theorem QG(h:gJ vs ks):Vals (ks.map V.int) vs:=by
 have:=wM h (A3 ks.length) λi hi=>B6.mp hi;have e1:(A3 ks.length).map (λi=>ks.getD i 0)=ks:=by
  apply Dn (by simp);intro i h1 h2;simp[h2]
 have e2:(A3 ks.length).map (λi=>vs.getD i Bu)=vs:=by
  apply Dn (by simp[h.1]);intro i h1 h2;simp[h2]
 rw[e1,e2]at this;exact this
theorem NH(hh:X.A.handled=ah):CallR X (.type "list") GV:=by
 intro pins s σ H xs us Q I r h;obtain⟨d,l,ks,rfl,hd,hk,q⟩:=h;obtain⟨u,rfl,ru⟩:=gX r;cases(show u=A6 d from ru);obtain⟨z,hsys,vs',rel,hDict⟩:=I.hok d _ hd;obtain⟨ep,hat⟩:=hDict.dictAt;have hkeys:vs'.map (·.1)=ks.map (Dt:Int->aG):=(HH rel).trans hk;have hlen:vs'.length=ks.length:=by have:=congrArg Dv hkeys;simpa using this
 have hlen2:l.length=ks.length:=by have:=congrArg Dv hk;simpa using this
 refine kdl_call (kdl_dict (knd:=eZ X.prog X.w) (kvs:=vs') (ep:=ep) hsys) hh hat (by rw[hlen,<-hlen2];exact z) λh' tk acc c hkp hL hI=>?_;have hT:=G7 hkeys hI.1 hI.2;refine⟨.ref s.heap.objs.size,_,I.laid (t':=tk) (h':=h') (o:=.lst (ks.map V.int)) hkp (An _) ⟨by rw[Ab,<-hlen2];exact z,acc.toList,c,QG hT,hL⟩,rfl,q _ (I.hok.fresh (An _))⟩
theorem AB:∀{ks:List Int}{vs:List Ak},Vals (ks.map V.int) vs->gJ vs ks
 |[],_,.nil=>⟨rfl,λj v e=>by cases e⟩
 |k::ks,_,.cons (b:=u) r rr=>by
  obtain⟨h1,h2⟩:=AB rr;obtain⟨t,rfl⟩:=(show ∃t,u=F8 k t from r);refine⟨by rw[Am,Am,h1],λj v e=>?_⟩;cases j with
  |zero=>cases e;exact⟨k,t,rfl,rfl⟩
  |succ j=>exact h2 j v e
def BF:List V->Hp->VK->Prop:=λxs H Q=>∃(a:Addr)(ks:List Int),xs=[.ref a]/\H a=ae (.lst (ks.map V.int))/\ks.length < 64 /\
 ∀(D:Addr)(ys:List Int),ys.Perm ks->ys.Pairwise (λa b=>a<=b)->H D=ah->Q (.ref D) (upd H D (.lst (ys.map V.int)))
theorem QY:CallR X (.builtin "sorted") BF:=by
 intro pins s σ H xs us Q I r h;obtain⟨a,ks,rfl,ha,h64,q⟩:=h;obtain⟨u,rfl,ru⟩:=gX r;cases(show u=A6 a from ru);obtain⟨z,vs,c,rv,ho⟩:=I.hok a _ ha;have hT:=AB rv;refine KS.sorted_of (R:=λvs s1=>∃(h':Heap)(tk:Nat),s1={ s with heap:=h',toks:=tk}/\(∀b o,s.heap.get? b=ae o->h'.get? b=ae o)/\gJ vs ks)
  (OQ ho rfl (.inl rfl) rfl (by rw[hT.1];exact eF ⋯) λh' hk' _=>⟨h',s.toks,rfl,hk',hT⟩) ?_
 rintro vs s1 ⟨h',tk,rfl,hkp,hT⟩
 exact zo (s:=s) I hkp hT h64 q
def HM(a:Addr)(o:Obj)(l:List (aG×V)):It:=
 ⟨λi H=>H a=ae (.frz o (.dK l))/\i < l.length,λi H x H'=>H'=H/\∃k v,l[i]?=ae (k,v)/\x=kV k,λi H=>H a=ae (.frz o (.dK l))/\l.length<=i⟩
theorem Kq(h:KV l vs):∀{i:Nat}{k:aG}{v:V},l[i]?=ae (k,v)->∃w,vs[i]?=ae (k,w):=by
 unfold KV at h
 induction h with
 |nil=>intro i k v e;cases e
 |@cons p q ps qs r t ih=>
  intro i k v e;cases i with
  |zero=>
   cases e;exact⟨q.2,by show ae q=ae (k,q.2);rw[show k=q.1 from r.1]⟩
  |succ i=>exact ih e
theorem wK(hd:o.data=.dict es ep)(ok:ObjOk P w H h a (.frz o (.dK l))):(a==Ea)=aj/\∃vs,KV l vs/\h.DictAt (eZ P w) a vs ep:=by
 obtain⟨g,z,hs,vs,rel,dd⟩:=ok;refine⟨hs,vs,rel,?_⟩;obtain⟨o',es',ep',h1,h2,h3,h4⟩:=dd;rw[g]at h1;cases h1;rw[hd]at h3;cases h3;exact⟨o,es,g,h2,hd,h4⟩
theorem Se(h:(eZ P w).is k u=ai):RelV (kV k) u:=by
 rcases iJ (k:=k) (v:=u) (show jI k u=ai from h)with⟨i,t,rfl,rfl⟩|⟨y,t,rfl,rfl⟩
 ·exact⟨t,rfl⟩
 ·exact⟨t,rfl⟩
theorem RX{K:Ah}(hd:o.data=.dict es ep):Turn P w K tg (HM a o l) [it] it (λi h=>h.IsKeyIter it a i l.length ep) where
 mem:=by simp
 obj:=λi h st b hb=>by
  have e:b=it:=by simpa using hb
  subst e;obtain⟨o,e,c,d⟩:=st;exact⟨o,e,λv z=>by rw[d]at z;cases z⟩
 keep:=λi h h' st k=>st.at λo e=>k it (by simp) o e
 item:=by
  intro X hP hw hK hc i pins s σ H E I hf st hg;subst hP hw hK;obtain⟨ha,hi⟩:=hg;obtain⟨_,vs,rel,dd⟩:=wK hd (I.hok a _ ha);obtain⟨⟨k,v⟩,hx⟩:∃p,l[i]?=ae p:=⟨l[i],Af hi⟩;obtain⟨w',hw'⟩:=Kq rel hx;obtain⟨f0,f1,f2,f3,f4,f5⟩:=hf it (by simp);have hlen:l.length=vs.length:=rel.length;rw[hlen]at st;refine wpAny_pyNext_dict_item st dd hw' λkey h' hkey st' sb=>?_;have I1:Inv X pins σ H {s with heap:=h'}:=I.turned (t':=s.toks) (λb o hb e=>(sb.2 b hb).trans e) f0 f1 f3 f4 f5;obtain⟨o',e,c,d⟩:=id st';exact⟨key,rfl,r9 (s:={ s with heap:=h'}) e c d ∎ ⟨kV k,H,I1,Se hkey,⟨rfl,k,v,hx,rfl⟩,by rw[hlen];exact st',λb hb=>(hf b hb).1⟩⟩
 done:=by
  intro X hP hw hK hc i pins s σ H E I hf st hg;subst hP hw hK;obtain⟨ha,hi⟩:=hg;obtain⟨_,vs,rel,dd⟩:=wK hd (I.hok a _ ha);obtain⟨f0,f1,f2,f3,f4,f5⟩:=hf it (by simp);have hlen:l.length=vs.length:=rel.length;rw[hlen]at st;exact wpAny_pyNext_dict_end (I.ok.hd hc) st dd (List.getElem?_eq_none ⋯) λh' eb=>⟨rfl,I.turned (t':=s.toks) (λb o hb e=>eb b o hb e) f0 f1 f3 f4 f5⟩
 self:=λ_ _ _ _ _ st h=>wpAny_pyIter_keyiter st h
def vb(tl:TE):TI:=λσ H R=>tl σ H λx H1=>∃a o l,x=.ref a/\H1 a=ae (.frz o (.dK l))/\R (HM a o l) H1
theorem Vf(hl:PE X l tl):PI X tg l (vb tl):=by
 intro pins s σ H R I h;refine a9 (hl pins s σ H _ I h) λv s1 ⟨x,H1,I1,r1,q1⟩=>?_;obtain⟨a,o,ls,e,hq,q⟩:=q1;subst e;cases r1;have ok:=I1.hok a _ hq;obtain⟨g,z,hs,vs,rel,o',es,ep,h1,h2,h3,h4⟩:=id ok;rw[g]at h1;cases h1;obtain⟨_,vs,rel,dd⟩:=wK h3 ok;refine wpAny_pyIter_dict hs dd ?_;refine⟨s1.heap.objs.size,[s1.heap.objs.size],_,_,H1,rfl,I1.kept (t':=s1.toks) λb o e=>Ag _ e,RX (l:=ls) h3,⟨_,A5 _ rfl,rfl,by rw[show ls.length=vs.length from rel.length];rfl⟩,λb hb=>?_,q⟩;have e:b=s1.heap.objs.size:=by simpa using hb
 subst e;exact I1.fpOk (An _) (I1.hok.fresh (An _))
theorem Inv.freeze{σ:St}(I:Inv X pins σ H s)(e:H a=ae (.dK l)):∃o,Inv X pins σ (upd H a (.frz o (.dK l))) s:=by
 obtain⟨z,hs,vs,rel,dd⟩:=I.hok a _ e;obtain⟨o,es,ep,h1,h2⟩:=id dd;exact⟨o,mE (h':=s.heap) (t':=s.toks) I (by rw[e];exact C7) ⟨rfl,λ_ _=>rfl⟩ ⟨o,h1⟩ ⟨h1,z,hs,vs,rel,dd⟩⟩
theorem Inv.thaw{σ:St}(I:Inv X pins σ H s)(e:H a=ae (.frz o (.dK l)))(no:∀o u,X.H₀ a≠ae (.frz o u)):Inv X pins σ (upd H a (.dK l)) s:=by
 have ne:∀{b:Addr},H b=ah->b≠a:=λh z=>by rw[z,e]at h;cases h
 have nt:∀{b:Addr}{xs:List V},H b=ae (.tup xs)->b≠a:=λh z=>by rw[z,e]at h;cases h
 refine⟨I.ok,I.os,I.bare,⟨I.base.keep,I.base.slot,λb ob q n hx=>?_,I.base.there,λb xs q=>?_,λb ob u q=>?_,λb ps q=>?_⟩,I.loc,I.cell,?_,λx c q=>?_,λp hp=>?_,λb u q=>?_,I.len⟩
 ·have:=I.base.free b ob q n hx;rw[aY (ne this)];exact this
 ·have:=I.base.tups b xs q;rw[aY (nt this)];exact this
 ·have:=I.base.frzs b ob u q;rw[aY λ(z:b=a)=>no ob u (z▸q)];exact this
 ·obtain⟨m,q2⟩:=I.base.tbls b ps q;refine⟨m,?_⟩;rw[aY λ(z:b=a)=>by rw[z,e]at q2;cases q2];exact q2
 ·rw[aY (ne I.free)];exact I.free
 ·rw[aY (ne (I.freeC x c q))];exact I.freeC x c q
 ·obtain⟨h1,h2,h3,h4,h5⟩:=I.pin p hp;exact⟨h1,by rw[aY (ne h2)];exact h2,h3,h4,h5⟩
 ·by_cases hb:b=a
  ·subst hb;rw[bB]at q;cases q;exact(I.hok b _ e).2
  ·rw[aY hb]at q;refine(I.hok b u q).stay (λc v _ r=>r) (λc r=>?_) λc xs r=>?_
   ·rw[aY λ(z:c=a)=>by rw[z,e]at r;cases r];exact r
   ·rw[aY (nt r)];exact r
def BN(a:Addr)(l:List (aG×V))(t:TE):TE:=λσ H Q=>H a=ae (.dK l)/\∀o,t σ (upd H a (.frz o (.dK l))) λv H'=>H' a=ae (.frz o (.dK l))/\Q v (upd H' a (.dK l))
theorem Kh(h:PE X e t):PE X e (λσ H Q=>∃a l,BN a l t σ H Q):=by
 intro pins s σ H Q I hq;obtain⟨a,l,ha,q⟩:=hq;obtain⟨o,I1⟩:=I.freeze ha;have no:∀o u,X.H₀ a≠ae (.frz o u):=λo u z=>by
  have:=I.base.frzs a o u z;rw[ha]at this;cases this
 exact a9 (h pins s σ _ _ I1 (q o)) λv s1 ⟨x,H1,I2,r,ha2,q2⟩=>⟨x,_,I2.thaw ha2 no,r,q2⟩
end L2
namespace DL
open PySem L2 Nb
section
variable{X:Cx}{a b c e o i f:Expr}{ta tb te td ty tx:TE}{wa wb we wd' wy wx:DT}{pos p:Pos}{K:Ah}
def nH:Wv->Wv->Int->DQ->Prop:=λx y n Q=>match x,y with
 |.dk kvs,.d (.int k)=>match bh kvs (.inl k)with
  |some d=>Q (.d d) n
  |none=>False
 |_,_=>False
theorem Sw(hu:X.A.units+64 < Eo)(ho:DE X o td wd')(hi:DE X i ty wy)(hs:ib i:=by exact λ_ _=>rfl):DE X (.Subscript o i pos) (qe td ty) (w2 wd' wy nH):=⟨sR ⋯ ho.pe hi.pe hs,λC H B σ δ n Q Q' R h k=>
 ho.sd C H B σ δ n _ _ R h λv x H1 n1 R1 k1 r1 q1=>hi.sd C H1 B σ δ n1 _ _ R1 q1 λu y H2 n2 R2 k2 r2 q2=>by
  have r1':=r1.kp k2 R1.bt;unfold nH at q2
  split at q2
  ·rename_i kvs key;obtain⟨a,l,rfl,g1,g2,g3⟩:=r1';cases(show RdX H2 B u (.int key)from r2);rcases g3.val (.inl key)with⟨e1,e2⟩|⟨v,d,e1,e2,e3⟩
   ·rw[e2]at q2;exact q2.elim
   ·rw[e2]at q2;exact⟨a,v,rfl,.inl ⟨l,.inl key,.inl g1,rfl,e1.symm⟩,k v (.d d) H2 n2 R2 (k1.trans k2) e3 q2⟩
  ·exact q2.elim⟩
def mH:Wv->Wv->Int->DQ->Prop:=λx y n Q=>match x,y with
 |.d (.int k),.dk kvs=>Q (.d (.bool (!(bh kvs (.inl k)).isSome))) n
 |_,_=>False
theorem NW(hi:DE X i ty wy)(ho:DE X o td wd'):eY (mq ty td) (w2 wy wd' mH):=λC H B σ δ n Q Q' R h k=>
 hi.sd C H B σ δ n _ _ R h λv x H1 n1 R1 k1 r1 q1=>ho.sd C H1 B σ δ n1 _ _ R1 q1 λu y H2 n2 R2 k2 r2 q2=>by
  have r1':=r1.kp k2 R1.bt;unfold mH at q2
  split at q2
  ·rename_i key kvs;obtain⟨a,l,rfl,g1,g2,g3⟩:=r2;cases(show RdX H2 B v (.int key)from r1');refine⟨a,cj l (.inl key),rfl,.inl ⟨l,.inl key,.inl g1,rfl,rfl⟩,k _ _ H2 n2 R2 (k1.trans k2) (wd (.bl _)) ?_⟩;rcases g3.val (.inl key)with⟨e1,e2⟩|⟨v,d,e1,e2,e3⟩
   ·rw[e1];rw[e2]at q2;exact q2
   ·rw[e1];rw[e2]at q2;exact q2
  ·exact q2.elim
theorem Rl(hu:X.A.units+64 < Eo)(hi:DE X i ty wy)(ho:DE X o td wd')(hm:Cf .NotIn o=aj:=by with_unfolding_all rfl):DC X (.Compare i [.NotIn] [o] pos) (jz (mq ty td)) (cT (w2 wy wd' mH)):=⟨FA (yz ⋯ hi.pe ho.pe) hm,kU (NW hi ho)⟩
def jG(i:Nat)(wy wv:DT):aP:=λδ n K=>match δ[i]? with
 |some (ae (.odk kvs))=>wv δ n λv n1=>wy δ n1 λy n2=>match v,y with
  |.d d,.d (.int k)=>kvs.length < 1000/\K.nx (δ.set i (ae (.odk (dD kvs (.inl k) d)))) n2
  |_,_=>False
 |_=>False
theorem MO{i:Nat}{xp sp:Pos}(hu:X.A.units+64 < Eo)(hN:X.N[i]?=ae x)(hj:DE X j tj wj)(he:DE X e te we)(hv:fj X.env.scope x:=by first|exact Ce rfl|exact Bs (Ce rfl)|exact Bs (Bs rfl))(hd:(x==("__debug__":Str))=aj:=by decide)
  (hcd:(x==("__classdict__":Str))=aj:=by decide) (hs:Dw e (ae (.Subscript (.Name x xp) j sp)) pos.line X.env=pure aj:=by rfl):
  DS X (.Assign [.Subscript (.Name x xp) j sp] e pos) (rp (cq i) tj te) (jG i wj we):=
 ⟨ux ⋯ (fW hN hv hd hcd) hj.pe he.pe hs,λC H B σ δ n K D R q E=>by
  unfold jG at q
  split at q
  ·rename_i kvs ei;refine he.sd C H B σ δ n _ _ R q λu y H1 n1 R1 k1 r1 q1=>?_;obtain⟨v,hv,a,l,rfl,e2,e3,e4,e5,e6⟩:=R1.sl i _ ei;refine⟨_,hv,hj.sd C H1 B σ δ n1 _ _ R1 q1 λw z H2 n2 R2 k2 r2 q2=>?_⟩
   split at q2
   ·rename_i d key;cases(show RdX H2 B w (.int key)from r2);have hat:a≠C.t:=λz=>R.t0 (z▸e4);have e2':=k2 _ _ e2 hat;have r1':RdX H2 B u d:=r1.kp k2 R1.bt;have e6':RdK H2 B l kvs:=e6.move λb o e n=>⟨k2 b o e λz=>n (z▸R1.bt),n⟩;have hl:l.length < 1000:=by rw[e6'.len];exact q2.1
    refine⟨a,_,rfl,DPut.k (k:=.inl key) e2' (Bo hl (eF (An _))),?_⟩;refine E.nx _ _ _ _ _ (R2.mutOwn ei rfl hv e3 e4 ?_ rfl) q2.2;refine⟨a,_,rfl,bB,e3,e4,?_,?_⟩
    ·have:=xW l (.inl key) u;omega
    ·exact(e6'.put r1' _).move λb o e n=>⟨by rw[aY λ(z:b=a)=>n (z▸e3)];exact e,n⟩
   ·exact q2.elim
  ·exact q.elim⟩
def pK(kvs:List (aG×Aa))(k:aG):List (aG×Aa):=kvs.filter λkv=>decide (kv.1≠k)
theorem RdK.drop(h:RdK H B l m)(k):RdK H B (ll l k) (pK m k):=by
 unfold RdK at h ⊢
 induction h with
 |nil=>exact .nil
 |@cons p q ps qs r t ih=>
  unfold ll pK at ih ⊢;by_cases e:p.1=k
  ·rw[C1 (by simpa using e),C1 (by simpa[<-r.1]using e)];exact ih
  ·rw[C0 (by simpa using e),C0 (by simpa[<-r.1]using e)];exact .cons r ih
def jQ(i:Nat)(wy:DT):aP:=λδ n K=>match δ[i]? with
 |some (ae (.odk kvs))=>wy δ n λy n1=>∃k d,y=.d (.int k)/\bh kvs (.inl k)=ae d/\K.nx (δ.set i (ae (.odk (pK kvs (.inl k))))) n1
 |_=>False
theorem Lb{i:Nat}{xp ap cp:Pos}(hN:X.N[i]?=ae x)(ha:DE X a ta wa)(hv:fj X.env.scope x:=by first|exact Ce rfl|exact Bs (Ce rfl)|exact Bs (Bs rfl))(hd:(x==("__debug__":Str))=aj:=by decide)
  (hcd:(x==("__classdict__":Str))=aj:=by decide)
  (hbase:E4 (.Name x xp) "pop" X.env (eval (.Name x xp) X.env)=eval (.Name x xp) X.env:=by rfl)
  (hfew:((Cy cp (Au [a] X.env)).all (λx=>!x.1)&&(backToKw cp (keywordEach [] X.env)).all (λx=>x.1.isSome)
   && decide ([a].length+([]:List Keyword).length+(if ([]:List Keyword).isEmpty then 0 else 1) < 30))=ai:=by rfl)
  (hline:(ap.endLine==cp.line)=ai:=by rfl) (htr:Cy cp (Au [a] X.env)=[(aj,eval a X.env)]:=by rfl)
  (hsw:Dw (.Call (.Attribute (.Name x xp) "pop" ap) [a] [] cp) ah pos.line X.env=pure aj:=by rfl):
  DS X (.Expr (.Call (.Attribute (.Name x xp) "pop" ap) [a] [] cp) pos) (oz (EV (cq i) ta)) (jQ i wa):=
 ⟨rV (LJ (fW hN hv hd hcd) ha.pe ⟨hbase,hfew,hline,htr⟩) hsw,λC H B σ δ n K D R q E=>by
  unfold jQ at q
  split at q
  ·rename_i kvs ei;obtain⟨v,hv,aa,l,rfl,e2,e3,e4,e5,e6⟩:=R.sl i _ ei;refine⟨_,hv,aa,rfl,.inl ⟨l,.inl e2⟩,ha.sd C H B σ δ n _ _ R q λu y H1 n1 R1 k1 r1 q1=>?_⟩;obtain⟨k,d,rfl,hk,q1⟩:=q1;cases(show RdX H1 B u (.int k)from r1);have hat:aa≠C.t:=λz=>R.t0 (z▸e4);have e2':=k1 _ _ e2 hat;have e6':RdK H1 B l kvs:=e6.move λb o e n=>⟨k1 b o e λz=>n (z▸R.bt),n⟩;rcases e6'.val (.inl k)with⟨g1,g2⟩|⟨w,d',g1,g2,g3⟩
   ·rw[g2]at hk;cases hk
   ·refine⟨l,.inl k,w,e2',rfl,g1,?_⟩;refine E.nx _ _ _ _ _ (R1.mutOwn ei rfl hv e3 e4 ?_ rfl) q1;refine⟨aa,_,rfl,bB,e3,e4,?_,(e6'.drop _).move λb o e n=>⟨by rw[aY λ(z:b=aa)=>n (z▸e3)];exact e,n⟩⟩;exact A2 (uA _ _) e5
  ·exact q.elim⟩
end
section
variable{X:Cx}{o:Expr}{td:TE}{wd':DT}{pos p:Pos}{K:Ah}
def de(ps:List (Int×Aa)):List (aG×Aa):=ps.map λp=>(Dt p.1,p.2)
theorem PX(h:RdK H B l m):l.map (·.1)=m.map (·.1):=by
 unfold RdK at h
 induction h with
 |nil=>rfl
 |cons r _ ih=>rw[Bb,Bb,ih,r.1]
theorem vG(h:RdK H B l (de ps)):l.map (·.1)=(ps.map (·.1)).map (Dt:Int->aG):=by
 rw[PX h];unfold de;rw[Bt,Bt];rfl
theorem oR:∀ys:List Int,RdXs H B (ys.map V.int) (ys.map .int)
 |[]=>.nil
 |y::r=>.cons (.int _) (oR r)
theorem xJ:∀{xs:List V}{ks:List Int},RdXs H B xs (ks.map .int)->xs=ks.map V.int
 |[],[],_=>rfl
 |_::_,[],h=>nomatch h
 |[],_::_,h=>nomatch h
 |x::xs,k::ks,.cons h t=>by
  cases h;rw[xJ t];rfl
def VL(w:DT):eW:=λδ n Q=>w δ n λx n1=>match x with
 |.dk kvs=>∃ps:List (Int×Aa),kvs=de ps/\ps.length < 64/\∀ys:List Int,ys.Perm (ps.map (·.1))->ys.Pairwise (λa b=>a<=b)->Q (ys.map .int) n1
 |_=>False
def oE(w:DT):eW:=λδ n Q=>w δ n λx n1=>match x with
 |.dk kvs=>∃ps:List (Int×Aa),kvs=de ps/\ps.length<=1000/\Q (ps.map λp=>.int p.1) n1
 |_=>False
theorem Ub(hh:X.A.handled=ah)(hg:Gl X "list")(hm:X.mg "list"=ah)(ho:DE X o td wd')
  (he':Au [o] X.env=(aj,eval o X.env)::Au [] X.env:=by rfl) (hpl:(Cy pos (Au [] X.env)).any (·.1)=aj:=by rfl):
  DF X (.Call (.Name "list" p) [o] [] pos) (fU GV (dB td ck)) (oE wd'):=by
 refine⟨kI (NH hh) hg hm qj (cU ho.pe eI he') ∎ ∎ he' hpl,λC H B σ δ n Q Q' R q k=>
  ho.sd C H B σ δ n _ _ R q λv x H1 n1 R1 k1 r1 q1=>?_⟩
 cases x with
 |d _=>exact q1.elim
 |tp=>exact q1.elim
 |ln _=>exact q1.elim
 |ob _=>exact q1.elim
 |dk kvs=>
  obtain⟨a,l,rfl,g1,g2,g3⟩:=r1;obtain⟨ps,rfl,hl,kq⟩:=q1;refine⟨a,l,ps.map (·.1),rfl,g1,vG g3,λD hD=>?_⟩;refine k D _ ((ps.map (·.1)).map .int) _ n1 (R1.new hD) (k1.trans (Kp.new hD)) (R1.was k1 hD) bB ?_ (oR _) (by rw[Bt];exact kq);rw[Ab,Ab];exact eF hl
def rg(w:DT):eW:=λδ n Q=>w δ n λx n1=>∃ks:List Int,x=.d (.list (ks.map .int))/\ks.length < 64/\∀ys:List Int,ys.Perm ks->ys.Pairwise (λa b=>a<=b)->Q (ys.map .int) n1
theorem Qo(hg:Gl X "sorted")(hm:X.mg "sorted"=ah)(ho:DE X o td wd')(hv:By "sorted"=ae (.builtin "sorted"):=by decide +kernel)
  (he':Au [o] X.env=(aj,eval o X.env)::Au [] X.env:=by rfl) (hpl:(Cy pos (Au [] X.env)).any (·.1)=aj:=by rfl):
  DF X (.Call (.Name "sorted" p) [o] [] pos) (fU BF (dB td ck)) (rg wd'):=by
 refine⟨jP QY hg hm hv (cU ho.pe eI he') ∎ ∎ he' hpl,λC H B σ δ n Q Q' R q k=>
  ho.sd C H B σ δ n _ _ R q λv x H1 n1 R1 k1 r1 q1=>?_⟩
 obtain⟨ks,rfl,h64,kq⟩:=q1;cases(show RdX H1 B v (.list (ks.map .int))from r1)with
 |@lst aa xs _ e1 e2 e3 e4=>
  have:=xJ e4;subst this;refine⟨aa,ks,rfl,e1,h64,λD ys hp hw hD=>?_⟩;refine k D _ _ _ n1 (R1.new hD) (k1.trans (Kp.new hD)) (R1.was k1 hD) bB ?_ (oR ys) (kq ys hp hw);rw[Ab,hp.length_eq];exact eF ⋯
end
theorem Rel.freeze(R:Rel C H B σ δ n)(hi:δ[i]?=ae (ae (.odk m))):
  ∃a l,σ[i]?=ae (ae (.ref a))/\H a=ae (.dK l)/\B a/\C.H0 a=ah/\a≠C.t/\∀o,Rel C (upd H a (.frz o (.dK l))) (λb=>B b/\b≠a) σ (δ.set i (ae (.w (.ob (.f m))))) n:=by
 obtain⟨v,hσ,a,l,rfl,e2,hb,h0,e5,e6⟩:=R.sl i _ hi;have hat:a≠C.t:=λz=>R.t0 (z▸h0);refine⟨a,l,hσ,e2,hb,h0,hat,λo=>?_⟩;have R1:Rel C H B σ (δ.set i ah) n:={
  tp:=R.tp,kp:=R.kp,t0:=R.t0,l0:=R.l0,g0:=R.g0,fz:=R.fz,bt:=R.bt,b0:=R.b0,ba:=R.ba,a0:=R.a0
  sl:=λj y e=>by
   by_cases z:i=j
   ·subst z;rw[C8]at e;rw[hi]at e;cases e
   ·rw[B7 z]at e;exact R.sl j y e
  ow:=λj k y z u e1 e2 o1 o2 f1 f2=>by
   have g:∀{m:Nat}{w:SV},(δ.set i ah)[m]?=ae (ae w)->δ[m]?=ae (ae w):=λ{m w} e=>by
    by_cases q:i=m
    ·subst q;rw[C8,hi]at e;cases e
    ·rwa [B7 q]at e
   exact R.ow j k y z u (g e1) (g e2) o1 o2 f1 f2
  len:=by rw[B1];exact R.len}
 have R2:Rel C (upd H a (.frz o (.dK l))) B σ (δ.set i ah) n:=R1.mut hb h0 λj y e oy f=>by
  by_cases z:i=j
  ·subst z;rw[C8,hi]at e;cases e
  ·rw[B7 z]at e;exact z (R.ow i j _ y _ hi e rfl oy hσ f)
 have less:∀b,(B b/\b≠a)->B b:=λb z=>z.1;exact{
  tp:=R2.tp,kp:=R2.kp,t0:=R2.t0,l0:=R2.l0,g0:=R2.g0
  fz:=λb o e=>⟨(R2.fz b o e).1,λz=>(R2.fz b o e).2 z.1⟩
  bt:=⟨R.bt,λz=>R.t0 (z▸h0)⟩
  b0:=λb z=>⟨R.b0 b z,λq=>R.a0 b z (q▸h0)⟩
  ba:=λb z=>R2.ba b z.1
  a0:=R.a0
  sl:=λj y' e=>by
   rcases f7 e with⟨rfl,rfl⟩|⟨ne,e'⟩
   ·refine⟨_,hσ,⟨a,o,l,rfl,bB,λz=>z.2 rfl,e6.move λb ob e n=>⟨?_,λz=>n z.1⟩⟩,λz=>by cases z⟩;rw[aY λ(z:b=a)=>n (z▸hb)];exact e
   ·obtain⟨u,f1,f2⟩:=R2.sl j y' (by rw[B7 λz=>ne z.symm];exact e');refine⟨u,f1,?_⟩;cases y' with
    |w y=>exact⟨f2.1.less less,f2.2⟩
    |own ds'=>
     obtain⟨a',xs',g1,g2,g3,g4,g5,g6⟩:=f2;refine⟨a',xs',g1,g2,⟨g3,λz=>?_⟩,g4,g5,g6.less less⟩;exact ne (R.ow j i _ _ _ e' hi rfl rfl f1 (by rw[hσ,g1,z]))
    |odk ds'=>
     obtain⟨a',xs',g1,g2,g3,g4,g5,g6⟩:=f2;refine⟨a',xs',g1,g2,⟨g3,λz=>?_⟩,g4,g5,g6.move λb o e n=>⟨e,λz=>n z.1⟩⟩;exact ne (R.ow j i _ _ _ e' hi rfl rfl f1 (by rw[hσ,g1,z]))
    |odt ds'=>
     obtain⟨a',xs',g1,g2,g3,g4,g5,g6⟩:=f2;refine⟨a',xs',g1,g2,⟨g3,λz=>?_⟩,g4,g5,g6.move λb o e n=>⟨e,λz=>n z.1⟩⟩;exact ne (R.ow j i _ _ _ e' hi rfl rfl f1 (by rw[hσ,g1,z]))
  ow:=λj k y z u e1 e2 o1 o2 f1 f2=>by
   rcases f7 e1 with⟨rfl,rfl⟩|⟨ne1,e1'⟩
   ·cases o1
   ·rcases f7 e2 with⟨rfl,rfl⟩|⟨ne2,e2'⟩
    ·cases o2
    ·exact R.ow j k y z u e1' e2' o1 o2 f1 f2
  len:=by rw[B1];exact R.len}
section
variable{X:Cx}{elt tg iter o i:Expr}{ifs:List Expr}{scope:Er}{cl:List (Str×Addr)}{pos p:Pos}{N:List Str}{fr:List (Option Nat)}{g:TG}{gd:d9}{tt:TT}{cc:c6}{te td ty:TE}{we wd' wy:DT}
def yu(i:Nat):gU:=λδ n Q=>∃ps:List (Int×Aa),δ[i]?=ae (ae (.w (.ob (.f (de ps)))))/\ps.length<=1000/\Q (ps.map λp=>.int p.1) n
theorem Uu{xp:Pos}(i)(hN:X.N[i]?=ae x:=by rfl)(hv:fj X.env.scope x:=by first|exact Ce rfl|exact Bs (Ce rfl)|exact Bs (Bs rfl))(hd:(x==("__debug__":Str))=aj:=by decide)
  (hcd:(x==("__classdict__":Str))=aj:=by decide):DI X tg (.Name x xp) (vb (cq i)) (yu i):=⟨Vf (fW hN hv hd hcd),λC H B σ δ n Q Q' R q k=>by
 obtain⟨ps,e,hl,q⟩:=q;obtain⟨v,h1,⟨a,o,l,rfl,g1,g2,g3⟩,_⟩:=R.sl i _ e;have hk:=vG g3;have hlen:l.length=ps.length:=by have:=congrArg Dv hk;simpa using this
 refine⟨_,h1,a,o,l,rfl,g1,k _ _ H n R (Kp.refl _ _) (λfz th=>?_) q⟩;have hfz:fz a=ae (.frz o (.dK l)):=th.2 _ _ g1 g2;refine⟨by rw[Ab];exact eF hl,λj H hH hj=>?_,λH hH=>?_,λj H x H' d hH hd' hy=>?_⟩
 ·rw[Ab]at hj;exact⟨hH _ _ hfz,by rw[hlen];exact hj⟩
 ·exact⟨hH _ _ hfz,by rw[Ab,hlen];exact An _⟩
 ·obtain⟨rfl,key,w,hx,rfl⟩:=hy;refine⟨λ_ _ z=>z,λB' hB hBa=>?_⟩;have hk1:(l.map (·.1))[j]?=ae key:=by rw[Aw,hx];rfl
  rw[hk,Aw,Aw]at hk1;rw[Aw]at hd';cases ep:ps[j]? with
  |none=>rw[ep]at hd';cases hd'
  |some p=>
   rw[ep]at hd' hk1;cases hd';cases hk1;exact .int _⟩
def mV:Wv->Wv->Int->DQ->Prop:=λx y n Q=>match x,y with
 |.ob (.f kvs),.d (.int k)=>match bh kvs (.inl k)with
  |some d=>Q (.d d) n
  |none=>False
 |_,_=>False
theorem O0(hu:X.A.units+64 < Eo)(ho:DE X o td wd')(hi:DE X i ty wy)(hs:ib i:=by exact λ_ _=>rfl):DE X (.Subscript o i pos) (qe td ty) (w2 wd' wy mV):=⟨sR ⋯ ho.pe hi.pe hs,λC H B σ δ n Q Q' R h k=>
 ho.sd C H B σ δ n _ _ R h λv x H1 n1 R1 k1 r1 q1=>hi.sd C H1 B σ δ n1 _ _ R1 q1 λu y H2 n2 R2 k2 r2 q2=>by
  have r1':=r1.kp k2 R1.bt;unfold mV at q2
  split at q2
  ·rename_i kvs key;obtain⟨a,o,l,rfl,g1,g2,g3⟩:=r1';cases(show RdX H2 B u (.int key)from r2);rcases g3.val (.inl key)with⟨e1,e2⟩|⟨v,d,e1,e2,e3⟩
   ·rw[e2]at q2;exact q2.elim
   ·rw[e2]at q2;exact⟨a,v,rfl,.inl ⟨l,.inl key,.inr ⟨o,g1⟩,rfl,e1.symm⟩,k v (.d d) H2 n2 R2 (k1.trans k2) e3 q2⟩
  ·exact q2.elim⟩
def oK(i:Nat)(fr:List (Option Nat))(gd:d9)(cc:c6)(we:DT):eW:=λδ n Q=>∃ps:List (Int×Aa),δ[i]?=ae (ae (.odk (de ps)))/\cL fr (yu i) gd cc we (δ.set i (ae (.w (.ob (.f (de ps)))))) n λds n'=>∃ks:List Int,ds=ks.map .int/\Q ds n'
theorem JO{xp:Pos}(i)(hc:X.calm=ai)(S:CompSc X N scope cl fr)(hg:∀s H fp,DG (dh X N scope cl s H fp) tg g gd)(ht:∀s H fp,DIf (dh X N scope cl s H fp) ifs tt cc)
  (he:∀s H fp,DE (dh X N scope cl s H fp) elt te we) (hno:kQ gd) (hN:X.N[i]?=ae x:=by rfl) (hv:fj X.env.scope x:=by first|exact Ce rfl|exact Bs (Ce rfl)|exact Bs (Bs rfl)) (hd:(x==("__debug__":Str))=aj:=by decide)
  (hcd:(x==("__classdict__":Str))=aj:=by decide) (hs:∀y,D1 (.Name x xp) X.env y=pure y:=by intro _;rfl):
  DF X (.ListComp elt [⟨tg,.Name x xp,ifs,0⟩] scope pos) (λσ H Q=>∃a l,BN a l (mz fr (vb (cq i)) g tt te) σ H Q) (oK i fr gd cc we):=by
 have F:=sT (pos:=pos) hc S (Uu (X:=X) (tg:=tg) (xp:=xp) i hN hv hd hcd) hg ht he hno hs;refine⟨Kh F.pe,λC H B σ δ n Q Q' R q k=>?_⟩;obtain⟨ps,ei,q⟩:=q;obtain⟨a,l,hσ,e2,hb,h0,hat,rf⟩:=R.freeze ei;refine⟨a,l,e2,λo=>?_⟩;refine F.sd C _ _ σ _ n _ _ (rf o) q λL xs ds H1 n1 R1 k1 hL hL1 hle rd q1=>?_;obtain⟨ks,rfl,q1⟩:=q1;have ha1:H1 a=ae (.frz o (.dK l)):=k1 _ _ bB hat;have hLa:L≠a:=λz=>by rw[z,bB]at hL;cases hL
 have hLn:H L=ah:=by rw[aY hLa]at hL;exact hL
 have kk:Kp C.t H (upd H1 a (.dK l)):=λb ob e hbt=>by
  by_cases z:b=a
  ·rw[z]at e ⊢;rw[bB];rw[e2]at e;exact e
  ·rw[aY z];exact k1 b ob (by rw[aY z];exact e) hbt
 refine⟨ha1,k L xs _ _ n1 (R.step (R1.tp.other (λz=>R.t0 (z▸h0)) (λz=>R.l0 (z▸h0)) (λe z=>R.g0 e (z▸h0))) kk) kk hLn (by rw[aY hLa];exact hL1) hle ?_ q1⟩;rw[xJ rd];exact oR ks
end
section
variable{X:Cx}{o i:Expr}{td ty:TE}{wd' wy:DT}{pos p:Pos}
def wY:Wv->Option (List (aG×Aa))
 |.dk m=>ae m
 |.ob (.k m)=>ae m
 |_=>ah
theorem zh(h:WRel H B t v x)(e:wY x=ae m):∃a l,v=.ref a/\H a=ae (.dK l)/\RdK H B l m:=by
 cases x with
 |dk kvs=>
  cases e;obtain⟨a,l,e1,e2,_,e3⟩:=h;exact⟨a,l,e1,e2,e3⟩
 |ob q=>
  cases q with
  |k kvs=>
   cases e;obtain⟨a,l,e1,e2,_,e3⟩:=h;exact⟨a,l,e1,e2,e3⟩
  |_=>cases e
 |_=>cases e
def Gx:Wv->Wv->Int->DQ->Prop:=λx y n Q=>∃m k d,wY x=ae m/\y=.d (.int k)/\bh m (.inl k)=ae d/\Q (.d d) n
theorem SE(hu:X.A.units+64 < Eo)(ho:DE X o td wd')(hi:DE X i ty wy)(hs:ib i:=by exact λ_ _=>rfl):DE X (.Subscript o i pos) (qe td ty) (w2 wd' wy Gx):=⟨sR ⋯ ho.pe hi.pe hs,λC H B σ δ n Q Q' R h k=>
 ho.sd C H B σ δ n _ _ R h λv x H1 n1 R1 k1 r1 q1=>hi.sd C H1 B σ δ n1 _ _ R1 q1 λu y H2 n2 R2 k2 r2 q2=>by
  have r1':=r1.kp k2 R1.bt;obtain⟨m,key,d,ex,rfl,hv,q2⟩:=q2;obtain⟨a,l,rfl,g1,g3⟩:=zh r1' ex;cases(show RdX H2 B u (.int key)from r2);rcases g3.val (.inl key)with⟨e1,e2⟩|⟨v,d',e1,e2,e3⟩
  ·rw[e2]at hv;cases hv
  ·rw[e2]at hv;cases hv;exact⟨a,v,rfl,.inl ⟨l,.inl key,.inl g1,rfl,e1.symm⟩,k v (.d d) H2 n2 R2 (k1.trans k2) e3 q2⟩⟩
def qC(w:DT):eW:=λδ n Q=>w δ n λx n1=>∃ps:List (Int×Aa),wY x=ae (de ps)/\ps.length < 64/\∀ys:List Int,ys.Perm (ps.map (·.1))->ys.Pairwise (λa b=>a<=b)->Q (ys.map .int) n1
theorem Sn(hh:X.A.handled=ah)(hg:Gl X "sorted")(hm:X.mg "sorted"=ah)(ho:DE X o td wd')(hv:By "sorted"=ae (.builtin "sorted"):=by decide +kernel)
  (he':Au [o] X.env=(aj,eval o X.env)::Au [] X.env:=by rfl) (hpl:(Cy pos (Au [] X.env)).any (·.1)=aj:=by rfl):
  DF X (.Call (.Name "sorted" p) [o] [] pos) (fU yL (dB td ck)) (qC wd'):=by
 refine⟨jP (NK hh) hg hm hv (cU ho.pe eI he') ∎ ∎ he' hpl,λC H B σ δ n Q Q' R q k=>
  ho.sd C H B σ δ n _ _ R q λv x H1 n1 R1 k1 r1 q1=>?_⟩
 obtain⟨ps,ex,h64,kq⟩:=q1;obtain⟨a,l,rfl,g1,g3⟩:=zh r1 ex;refine⟨a,l,ps.map (·.1),rfl,g1,vG g3,by rw[Ab];exact h64,λD ys hp hw hD=>?_⟩;refine k D _ _ _ n1 (R1.new hD) (k1.trans (Kp.new hD)) (R1.was k1 hD) bB ?_ (oR ys) (kq ys hp hw);rw[Ab,hp.length_eq,Ab];exact eF ⋯
end
end DL
namespace Nb
open PySem L2
abbrev tx(d:Aa):List Nat:=(PyData.shown d).cps.toList
def lK(x:Str):Bool:=x.cps.toList.all λc=>decide (97<=c)&&decide (c<=122)
mutual
def cg:Aa->Bool
 |.none=>ai
 |.bool _=>ai
 |.int i=>decide (-2<=i)&&decide (i<=300)
 |.str x=>lK x
 |.list xs=>kZ xs
 |.tuple xs=>kZ xs
 |.dict _=>aj
def kZ:List Aa->Bool
 |[]=>ai
 |x::xs=>cg x&&kZ xs
end
theorem sF:∀{xs:List Aa},kZ xs=ai->∀x∈xs,cg x=ai
 |[],_,x,hx=>nomatch hx
 |y::xs,h,x,hx=>by
  rw[kZ,Bf]at h;rcases Ao.mp hx with rfl|hx
  ·exact h.1
  ·exact sF h.2 x hx
theorem uI:∀{xs:List Aa},(∀x∈xs,cg x=ai)->kZ xs=ai
 |[],_=>by rw[kZ]
 |y::xs,h=>by rw[kZ,h y As,uI λx hx=>h x (Ar _ hx)];rfl
theorem sh:∀{xs:List Aa}{n:Nat},Fl xs<=n->∀x∈xs,B5 x<=n
 |[],_,_,x,hx=>nomatch hx
 |y::xs,n,h,x,hx=>by
  rw[Fl]at h;rcases Ao.mp hx with rfl|hx
  ·omega
  ·exact sh ⋯ x hx
def knd:Aa->Nat
 |.none=>0
 |.bool ai=>1
 |.bool aj=>2
 |.int _=>3
 |.str _=>4
 |.list _=>5
 |.tuple _=>6
 |.dict _=>7
end Nb
namespace Nb
open PySem L2 DL
theorem xC{aR:Sl}(P:Aa->Prop)(f)(h:∀d n Q',P d->Q' (.d (f d)) n->w (ae (.w (.d d))::aR) n Q'):∀(items acc:List Aa)(x:Option SV)(n:Int),(∀d∈items,P d)->Q (acc++items.map f) n->c7 (aI 0) cG w Q items acc (x::aR) n
 |[],acc,x,n,hP,q=>by
  rw[List.map_nil,Bw]at q;exact q
 |d::r,acc,x,n,hP,q=>by
  simp only[c7,aI,cG,if_true,D4];refine h d n _ (hP d As) ?_;refine xC P f h r (acc++[f d]) _ n (λe he=>hP e (Ar _ he)) ?_;rw[Bp];exact q
theorem rY{aR:Sl}(P:Aa->Prop)(p)(f)(hp:∀d n Q',P d->Q' (p d) n->c (ae (.w (.d d))::aR) n Q')(h:∀d n Q',P d->Q' (.d (f d)) n->w (ae (.w (.d d))::aR) n Q'):
  ∀(items acc:List Aa)(x:Option SV)(n:Int),(∀d∈items,P d)->Q (acc++(items.filter p).map f) n->c7 (aI 0) c w Q items acc (x::aR) n
 |[],acc,x,n,hP,q=>by
  rw[List.filter_nil,List.map_nil,Bw]at q;exact q
 |d::r,acc,x,n,hP,q=>by
  simp only[c7,aI,D4];refine hp d n _ (hP d As) ?_;cases e:p d with
  |true=>
   rw[if_pos rfl];refine h d n _ (hP d As) ?_;refine rY P p f hp h r (acc++[f d]) _ n (λe he=>hP e (Ar _ he)) ?_;rw[C0 e]at q;rw[Bp];exact q
  |false=>
   rw[if_neg Ae];refine rY P p f hp h r acc _ n (λe he=>hP e (Ar _ he)) ?_;rw[C1 (by rw[e];exact Ae)]at q;exact q
def okD:Aa->Bool
 |.str y=>!decide (y.cps.toList < ("a":Str).cps.toList)&&!decide (("z":Str).cps.toList < y.cps.toList)
 |_=>aj
theorem zF{α:Type}(f):∀l:List α,kM (l.map λa=>.bool (f a))=ae (l.map f)
 |[]=>rfl
 |a::r=>by
  show(kM (r.map λa=>.bool (f a))).map _=_;rw[zF f r];rfl
theorem G9{r:Int}(h0:0<=r)(h1:r < xs.length):∃v,cX xs r=ae v/\v∈xs:=by
 obtain⟨j,rfl⟩:=Gu h0;have hj:j < xs.length:=by omega
 exact⟨xs[j],fG (Af hj),Cg hj⟩
theorem mK(d):dQ "str" d=match d with|.str _=>ai|_=>aj:=by cases d<;>rfl
theorem jv{A B:Prop}(h1:b=ai->A)(h2:b=aj->B):if b=ai then A else B:=by
 cases b with
 |true=>rw[if_pos rfl];exact h1 rfl
 |false=>rw[if_neg Ae];exact h2 rfl
theorem MY(h:n < 2 ^ 40)(h0:0 < many)(h1:many < 1073741824)(k:∀r:Int,0<=r->r < many->Q (.d (.int r)) (n+1)):cy [.tp,.d (.int many)] n Q:=⟨⟨h,h0,h1⟩,k⟩
theorem i7(h0:0<=r)(h1:r < (ds.length:Int))(k:∀d∈ds,Q (.d d) n):aA (.d (.list ds)) (.d (.int r)) n Q:=by
 obtain⟨v,hv,hm⟩:=G9 h0 h1;show match cX ds r with|some d=>Q (.d d) n|none=>False
 simp only[hv];exact k v hm
theorem Tt{aR:Sl}(c:Nat)(h:∀d n Q',n+(c:Int) < 2 ^ 39->(∀y n',n'<=n+(c:Int)->Q' (.d y) n')->w (ae (.w (.d d))::aR) n Q'):
  ∀(items acc:List Aa)(x:Option SV)(n:Int),n+(c:Int)*(items.length:Int) < 2 ^ 39->(∀ds n',n'<=n+(c:Int)*(items.length:Int)->Q ds n')->c7 (aI 0) cG w Q items acc (x::aR) n
 |[],acc,x,n,hn,q=>q acc n (by simp)
 |d::r,acc,x,n,hn,q=>by
  simp only[c7,aI,cG,if_true,D4];rw[Am]at hn q;have e:(c:Int)*((r.length+1:Nat):Int)=(c:Int)*(r.length:Int)+c:=by rw[Int.natCast_add,Int.mul_add];simp
  rw[e]at hn q;have hc:0<=(c:Int)*(r.length:Int):=Int.mul_nonneg (Gn _) (Gn _);refine h d n _ ⋯ λy n' hn'=>?_;exact Tt c h r (acc++[y]) _ n' ⋯ λds n'' h''=>q ds n'' ⋯
theorem e9(n):(b9 0 n).length=n:=by unfold b9;simp
theorem xI{aR:Sl}(P:Aa->Prop)(c:Nat)(h:∀d n Q',n+(c:Int) < 2 ^ 39->(∀y n',P y->n'<=n+(c:Int)->Q' (.d y) n')->w (ae (.w (.d d))::aR) n Q'):
  ∀(items acc:List Aa)(x:Option SV)(n:Int),n+(c:Int)*(items.length:Int) < 2 ^ 39->(∀ds n',ds.length=items.length->(∀d∈ds,P d)->n'<=n+(c:Int)*(items.length:Int)->Q (acc++ds) n')->c7 (aI 0) cG w Q items acc (x::aR) n
 |[],acc,x,n,hn,q=>by
  have:=q [] n rfl (by simp) (by simp);rwa [Bw]at this
 |d::r,acc,x,n,hn,q=>by
  simp only[c7,aI,cG,if_true,D4];rw[Am]at hn q;have e:(c:Int)*((r.length+1:Nat):Int)=(c:Int)*(r.length:Int)+c:=by rw[Int.natCast_add,Int.mul_add];simp
  rw[e]at hn q;have hc:0<=(c:Int)*(r.length:Int):=Int.mul_nonneg (Gn _) (Gn _);refine h d n _ ⋯ λy n' hy hn'=>?_;refine xI P c h r (acc++[y]) _ n' ⋯ λds n'' hl hds h''=>?_;rw[Bp];refine q (y::ds) n'' (by rw[Am,hl]) (λd hd=>?_) ⋯;rcases Ao.mp hd with rfl|z
  ·exact hy
  ·exact hds d z
theorem eq_str(a)(h):jq a (.str h)=ae (bL h a):=by cases a<;>rfl
theorem eq_int(i j):jq (.int i) (.int j)=ae (decide (i=j)):=rfl
theorem AI(a)(r:List α):cX (a::r) 0=ae a:=fG (j:=0) rfl
theorem yD(a b)(r:List α):cX (a::b::r) 1=ae b:=fG (j:=1) rfl
section
variable{δ:Sl}{n:Int}{Q:DQ}{K:DEnds}{W V:aP}{i j:Nat}{a b d:Aa}{r ds:List Aa}{h:Str}
theorem aE(h:W δ n {K with nx:=λδ n=>V δ n K}):av W V δ n K:=h
theorem au(e:δ[i]?=ae (ae (.w x)))(k:Q x n):ak i δ n Q:=by unfold ak;rw[e];exact k
theorem oH{m:Nat}(e:δ[i]?=ae (ae (.w (.d (.tuple ds)))))(e2:ds[m]?=ae a)(k:Q (.d a) n):w2 (ak i) (wC (.int (m:Int))) aA δ n Q:=by
 unfold w2;refine au e ?_;unfold wC aA;simp only[fG e2];exact k
theorem d4(e:δ[i]?=ae (ae (.w (.d (.tuple (a::r))))))(k:Q (.d a) n):w2 (ak i) (wC (.int 0)) aA δ n Q:=oH (m:=0) e rfl k
theorem dZ(e:δ[i]?=ae (ae (.w (.d (.tuple (a::b::r))))))(k:Q (.d b) n):w2 (ak i) (wC (.int 1)) aA δ n Q:=oH (m:=1) e rfl k
theorem gW(e:δ[i]?=ae (ae (.w (.d d))))(k:Q (.d (.bool (bL h d))) n):w2 (ak i) (wC (.str h)) aT δ n Q:=by
 unfold w2;refine au e ?_;unfold wC aT;simp only[eq_str];exact k
theorem lJ(e:δ[i]?=ae (ae (.w (.d (.tuple (a::r))))))(k:Q (.d (.bool (bL h a))) n):w2 (w2 (ak i) (wC (.int 0)) aA) (wC (.str h)) aT δ n Q:=by
 show w2 (ak i) (wC (.int 0)) aA δ n λx n1=>wC (.str h) δ n1 λy n2=>aT x y n2 Q;refine d4 e ?_;unfold wC aT;simp only[eq_str];exact k
theorem dq(k:c δ n λb n1=>if b=ai then W δ n1 K else V δ n1 K):aJ c W V δ n K:=k
theorem Hi(e:δ[i]?=ae (ae (.w (.d d))))(hT:bL h d=ai->W δ n K)(hF:bL h d=aj->V δ n K):aJ (cT (w2 (ak i) (wC (.str h)) aT)) W V δ n K:=by
 unfold aJ cT;exact gW e (jv hT hF)
theorem wX(e:δ[i]?=ae (ae (.w (.d (.tuple (a::r))))))(hT:bL h a=ai->W δ n K)(hF:bL h a=aj->V δ n K):aJ (cT (w2 (w2 (ak i) (wC (.int 0)) aA) (wC (.str h)) aT)) W V δ n K:=by
 unfold aJ cT;exact lJ e (jv hT hF)
theorem mJ(e:δ[i]?=ae (ae (.w (.d d))))(z:bL h d=aj)(hF:V δ n K):aJ (cT (w2 (ak i) (wC (.str h)) aT)) W V δ n K:=Hi e (λq=>by rw[z]at q;cases q) λ_=>hF
theorem DV(e:δ[i]?=ae (ae (.w (.d d))))(z:bL h d=ai)(hT:W δ n K):aJ (cT (w2 (ak i) (wC (.str h)) aT)) W V δ n K:=Hi e (λ_=>hT) λq=>by rw[z]at q;cases q
theorem ku(e:δ[i]?=ae (ae (.w (.d (.tuple (a::r))))))(z:bL h a=aj)(hF:V δ n K):aJ (cT (w2 (w2 (ak i) (wC (.int 0)) aA) (wC (.str h)) aT)) W V δ n K:=wX e (λq=>by rw[z]at q;cases q) λ_=>hF
theorem oX(e:δ[i]?=ae (ae (.w (.d (.tuple (a::r))))))(z:bL h a=ai)(hT:W δ n K):aJ (cT (w2 (w2 (ak i) (wC (.int 0)) aA) (wC (.str h)) aT)) W V δ n K:=wX e (λ_=>hT) λq=>by rw[z]at q;cases q
end
theorem vj:bL "is" (.str "is")=ai:=by decide +kernel
theorem Q7:bL "is" (.str "any")=aj:=by decide +kernel
theorem QU:bL "is" (.str "word")=aj:=by decide +kernel
theorem T3:bL "is" (.str "number")=aj:=by decide +kernel
theorem RD:bL "is" (.str "bind")=aj:=by decide +kernel
theorem u7:bL "is" (.str "as")=aj:=by decide +kernel
theorem Ox:bL "word" (.str "word")=ai:=by decide +kernel
theorem QC:bL "word" (.str "number")=aj:=by decide +kernel
theorem OO:bL "as" (.str "bind")=aj:=by decide +kernel
theorem Up:bL "as" (.str "as")=ai:=by decide +kernel
theorem vw:bL "bind" (.str "bind")=ai:=by decide +kernel
section
variable{δ:Sl}{n:Int}{Q:DQ}{K:DEnds}{W V:aP}{i j:Nat}{a b d:Aa}{r ds:List Aa}
theorem ar(k:wa δ n λx n1=>wb δ n1 λy n2=>g x y n2 Q):w2 wa wb g δ n Q:=k
theorem bA(h:∀Q:DQ,Q (.d x) n->w δ n Q)(k:K.nx (δ.set i (ae (.w (.d x)))) n):aB i w δ n K:=h _ k
theorem iM(k:K.nx (δ.set i (ae (.own []))) n):bz i (aN ao) δ n K:=⟨Bm _,k⟩
theorem bO(k:Q (.d a) n):aA (.d (.tuple (a::r))) (.d (.int 0)) n Q:=by
 show(match cX (a::r) 0 with|some d=>Q (.d d) n|none=>False);rw[AI];exact k
theorem cV(k:Q (.d b) n):aA (.d (.tuple (a::b::r))) (.d (.int 1)) n Q:=by
 show(match cX (a::b::r) 1 with|some d=>Q (.d d) n|none=>False);rw[yD];exact k
theorem cW(k:Q (.d c) n):aA (.d (.tuple (a::b::c::r))) (.d (.int 2)) n Q:=by
 show(match cX (a::b::c::r) 2 with|some d=>Q (.d d) n|none=>False);rw[show cX (a::b::c::r) 2=ae c from fG (j:=2) rfl];exact k
theorem aC(k:Q (.d c) n):wC c δ n Q:=k
theorem aU(k:w δ n λx n1=>g [x] n1 Q):wB g (aq w ao) δ n Q:=k
theorem cF(k:w δ n λx n1=>S [x] n1 Q):aH S (aq w ao) δ n Q:=k
theorem bG(k:w δ n λx n1=>w' δ n1 λy n2=>S [x,y] n2 Q):aH S (aq w (aq w' ao)) δ n Q:=k
theorem b7(k:w δ n λx n1=>w' δ n1 λy n2=>w'' δ n2 λz n3=>S [x,y,z] n3 Q):aH S (aq w (aq w' (aq w'' ao))) δ n Q:=k
theorem bb(k:w δ n λds n1=>Q (.d (.list ds)) n1):aZ w δ n Q:=k
theorem jA{Q:List Aa->Int->Prop}(hw:∀Q:DQ,Q (.d (.tuple ds)) n->w δ n Q)(k:c7 g c e Q ds [] (jx fr δ) n):cL fr (eQ w) g c e δ n Q:=by
 unfold cL eQ;exact hw _ k
theorem Hq(e:δ[i]?=ae (ae (.w (.d (.tuple ds)))))(k:Q (.d (.int ds.length)) n):wB bj (aq (ak i) ao) δ n Q:=aU (au e k)
theorem J4(e:δ[j]?=ae (ae (.w (.d (.tuple ds)))))(k:K.nx (δ.set i (ae (.own ds))) n):bz i (jt (ak j)) δ n K:=by
 unfold bz jt;exact au e k
theorem bc(k:w δ n K.rt):az w δ n K:=k
theorem S1(ha:∀Q:DQ,Q (.d (.int x)) n->wa δ n Q)(hb:∀Q:DQ,Q (.d (.int y)) n->wb δ n Q)(hc:∀Q:DQ,Q (.d (.int z)) n->wc δ n Q)(h:x<=y)(k:Q (.d (.bool (decide (y<=z)))) n):ph j3 j3 wa wb wc δ n Q:=by
 refine ha _ (hb _ ?_);show hZ (.d (.bool (decide (x<=y)))) (wc δ n λu n4=>j3 (.d (.int y)) u n4 Q) (Q (.d (.bool aj)) n);rw[decide_eq_true h];exact hc _ k
theorem gy(e:δ[i]?=ae (ae (.own ds)))(k:W (δ.set i (ae (.w (.d (.list ds))))) n K):bH i W δ n K:=by
 unfold bH;rw[e];exact k
theorem yT(hu:∀Q:DQ,Q (.d (.bool ai)) n->u δ n Q)(hv:v δ n Q):fY u v δ n Q:=hu _ hv
theorem aF{Q:Bool->Int->Prop}(hw:∀Q':DQ,Q' (.d (.bool k)) n->w δ n Q')(q:Q k n):cT w δ n Q:=hw _ q
theorem aQ(hc:∀Q:Bool->Int->Prop,Q aj n->C δ n Q)(hF:V δ n K):aJ C W V δ n K:=hc _ (by show if aj=ai then _ else _;rw[if_neg Ae];exact hF)
theorem bw(hc:∀Q:Bool->Int->Prop,Q ai n->C δ n Q)(hT:W δ n K):aJ C W V δ n K:=hc _ (by show if ai=ai then _ else _;rw[if_pos rfl];exact hT)
theorem gH{Q:Bool->Int->Prop}(ha:∀Q:Bool->Int->Prop,Q aj n->A δ n Q)(hb:B δ n Q):hU A B δ n Q:=ha _ (by show if aj=ai then _ else _;rw[if_neg Ae];exact hb)
theorem k7{Q:Bool->Int->Prop}(ha:∀Q:Bool->Int->Prop,Q ai n->A δ n Q)(k:Q ai n):hU A B δ n Q:=ha _ (by show if ai=ai then _ else _;rw[if_pos rfl];exact k)
theorem lN{Q:Bool->Int->Prop}(ha:∀Q:Bool->Int->Prop,Q ai n->A δ n Q)(hb:B δ n Q):dJ A B δ n Q:=ha _ (by show if ai=ai then _ else _;rw[if_pos rfl];exact hb)
theorem jC{Q:Bool->Int->Prop}(ha:∀Q:Bool->Int->Prop,Q k n->A δ n Q)(q:Q (!k) n):cQ A δ n Q:=ha _ q
end
theorem eV(I:List Aa->Sl->Int->Prop)(h0:∀δ n,I [] δ n->K.nx δ n)
  (h1:∀d r δ n (N:Sl->Int->Prop),I (d::r) δ n->(∀δ n,I r δ n->N δ n)->g d δ λδ'=>W δ' n {K with nx:=N,ct:=N,bk:=K.nx}):∀ds δ n,I ds δ n->eM g W K ds δ n
 |[],δ,n,h=>h0 δ n h
 |d::r,δ,n,h=>h1 d r δ n (eM g W K r) h (eV I h0 h1 r)
section
variable{δ:Sl}{n m:Int}{Q:DQ}{K:DEnds}{W V:aP}{i j:Nat}{ds:List Aa}
theorem iI(e0:δ[0]?=ae (ae (.w .tp)))(hw:∀Q:DQ,Q (.d (.int m)) n->w δ n Q)(h:n < 2 ^ 40)(h0:0 < m)(h1:m < 1073741824)(k:∀r:Int,0<=r->r < m->Q (.d (.int r)) (n+1)):aH cy (aq ↥0 (aq w ao)) δ n Q:=
 bG (au e0 (hw _ (MY h h0 h1 k)))
theorem gn(e0:δ[0]?=ae (ae (.w .tp)))(h:n < 2 ^ 40)(h0:0 < m)(h1:m < 1073741824)(k:∀r:Int,0<=r->r < m->Q (.d (.int r)) (n+1)):aH cy (aq ↥0 (aq (wC (.int m)) ao)) δ n Q:=iI e0 (λQ q=>aC q) h h0 h1 k
theorem oJ(e0:δ[0]?=ae (ae (.w .tp)))(h:n < 2 ^ 40)(h0:0 < m)(h1:m < 1073741824)(k:∀r:Int,0<=r->r < m->K.nx (δ.set i (ae (.w (.d (.int r))))) (n+1)):aB i (aH cy (aq ↥0 (aq (wC (.int m)) ao))) δ n K:=gn e0 h h0 h1 k
theorem oZ(h0:0<=r)(h1:r < (ds.length:Int))(k:∀d∈ds,Q (.d d) n):aX (.ln ds) (.d (.int r)) n Q:=by
 obtain⟨v,hv,hm⟩:=G9 h0 h1;show(match cX ds r with|some d=>Q (.d d) n|none=>False);rw[hv];exact k v hm
theorem iX(h0:0<=r)(h1:r < (ds.length:Int))(k:∀d∈ds,Q (.d d) n):aX (.d (.list ds)) (.d (.int r)) n Q:=i7 h0 h1 k
theorem gw(e:δ[i]?=ae (ae (.own ds)))(k:Q (.ln ds) n):dM i δ n Q:=by
 unfold dM;rw[e];exact k
theorem jW(e:δ[i]?=ae (ae (.own es)))(hw:∀Q:DQ,Q (.d x) m->w δ n Q)(hl:es.length < 1000000)(k:K.nx (δ.set i (ae (.own (es++[x])))) m):bq i w δ n K:=by
 unfold bq;rw[e];exact hw _ (Aj hl k)
theorem jm(e:δ[i]?=ae (ae (.own es)))(k:w δ n λx n1=>match x with
  |.d d=>es.length < 1000000/\K.nx (δ.set i (ae (.own (es++[d])))) n1
  |_=>False):bq i w δ n K:=by
 unfold bq;rw[e];exact k
theorem cZ(k:w δ n λx n1=>w' δ n1 λy n2=>match iq [x,y]with
  |some ds=>ds.length<=1000/\Q (.d (.tuple ds)) n2
  |none=>False):aw (aq w (aq w' ao)) δ n Q:=k
theorem fZ(k:w δ n λx n1=>w' δ n1 λy n2=>w'' δ n2 λz n3=>match iq [x,y,z]with
  |some ds=>ds.length<=1000/\Q (.d (.tuple ds)) n3
  |none=>False):aw (aq w (aq w' (aq w'' ao))) δ n Q:=k
theorem kR(k:Q (.d (.tuple ds)) n):iB [.d (.list ds)] n Q:=k
theorem xY(k:Q (.d (.bool (decide (a < b)))) n):gM (.d (.int a)) (.d (.int b)) n Q:=k
theorem l3(e:δ[i]?=ae (ae (.w (.d (.int a)))))(hT:a < b->W δ n K)(hF:¬a < b->V δ n K):aJ (cT (w2 (ak i) (wC (.int b)) gM)) W V δ n K:=by
 refine dq (ar (au e (aC ?_)));show if decide (a < b)=ai then _ else _
 by_cases h:a < b
 ·rw[if_pos (decide_eq_true h)];exact hT h
 ·rw[if_neg (by simpa using h)];exact hF h
end
section
variable{δ:Sl}{n m:Int}{Q:DQ}{K:DEnds}{W V:aP}{i j:Nat}{ds:List Aa}
theorem uf(k:w δ n λx n1=>w' δ n1 λy n2=>w'' δ n2 λz n3=>v δ n3 λu n4=>match iq [x,y,z,u]with
  |some ds=>ds.length<=1000/\Q (.d (.tuple ds)) n4
  |none=>False):aw (aq w (aq w' (aq w'' (aq v ao)))) δ n Q:=k
theorem kK(k:Q (.d (.list [])) n):aZ (aN ao) δ n Q:=Aj (Bm _) k
theorem jk(k:Q (.d (.bool ds.isEmpty)) n):cn (.ln ds) (.d (.list [])) n Q:=k
theorem l5(k:Q (.d (.bool (decide (a=b)))) n):cn (.d (.int a)) (.d (.int b)) n Q:=k
theorem pS(e:δ[i]?=ae (ae (.w (.d (.int a)))))(hT:a=b->W δ n K)(hF:¬a=b->V δ n K):aJ (cT (w2 (ak i) (wC (.int b)) cn)) W V δ n K:=by
 refine dq (ar (au e (aC ?_)));show if decide (a=b)=ai then _ else _
 by_cases h:a=b
 ·rw[if_pos (decide_eq_true h)];exact hT h
 ·rw[if_neg (by simpa using h)];exact hF h
theorem vz(e:δ[i]?=ae (ae (.w (.d (.int a)))))(hT:b < a->W δ n K)(hF:¬b < a->V δ n K):aJ (cT (w2 (ak i) (wC (.int b)) lM)) W V δ n K:=by
 refine dq (ar (au e (aC ?_)));show if decide (b < a)=ai then _ else _
 by_cases h:b < a
 ·rw[if_pos (decide_eq_true h)];exact hT h
 ·rw[if_neg (by simpa using h)];exact hF h
end
theorem sq(hs:List Str):(hs.map Co).all fA=ai:=by
 rw[Dq];intro d hd;obtain⟨x,_,rfl⟩:=A7.mp hd;rfl
theorem GG{n m:Int}(e:δ[0]?=ae (ae (.w .tp)))(hl:∀Q:DQ,Q (.d (.list L)) n->wl δ n Q)(hn:n < 2 ^ 40)(hm:m=L.length)(h0:0 < m)(h1:m < 1000)(hL:∀d∈L,∃j:Nat,j<=M/\d=.int j)(hM:M<=1000)(k:∀j:Nat,j<=M->eM g W K (b9 0 j) δ (n+1)):
  aW (dv (w2 wl (aH cy (aq ↥0 (aq (wC (.int m)) ao))) aX)) g W δ n K:=by
 unfold aW dv;refine ar (hl _ (gn e hn h0 ⋯ λr r0 r1=>iX r0 ⋯ λd hd=>?_));obtain⟨j,hj,rfl⟩:=hL d hd;refine Aj ⟨by omega,by omega⟩ ?_;rw[Bi];exact k j hj
theorem DU(k:Q (.d (.int ds.length)) n):gf [.ln ds] n Q:=k
theorem bN(h:xs[i]?=ae x)(k:Q (.d x) n):aA (.d (.tuple xs)) (.d (.int (i:Nat))) n Q:=by
 show(match cX xs ((i:Nat):Int)with|some d=>Q (.d d) n|none=>False);rw[fG h];exact k
theorem ND(xs:List Aa)(hp:p<=xs.length):bF xs ah (ae (p:Int))=xs.take p:=by
 unfold bF;rw[HT.sIx_nat];show(xs.drop 0).take (min p xs.length-0)=_;rw[List.drop_zero,Nat.sub_zero,Nat.min_eq_left hp]
abbrev Nm:=List (Str×Aa)
inductive Fd where
 |is (v:Aa)|any|word|number|bind (x:Str)|as (x:Str)
def Fd.d:Fd->Aa
 |.is v=>.tuple [.str "is",v]
 |.any=>.tuple [.str "any"]
 |.word=>.tuple [.str "word"]
 |.number=>.tuple [.str "number"]
 |.bind x=>.tuple [.str "bind",.str x]
 |.as x=>.tuple [.str "as",.str x]
abbrev pZ(x:Str):Prop:=x.length<=4/\E5 x=ai
def cz:Aa->Bool
 |.str x=>decide (x.length<=8)&&(E5 x&&decide (x="a"\/x="ab"\/x="go"))
 |.int i=>decide (0<=i)&&(decide (i<=99)&&(decide (Es (.int i)<=20)&&(D3 13 (.int i)&&Dx (.int i))))
 |_=>aj
def Fd.ok:Fd->Prop
 |.is v=>cz v=ai
 |.bind x=>pZ x
 |.as x=>pZ x
 |_=>True
def fC(a b:Aa):Bool:=(jq a b).getD aj
theorem mN(ha:cz a=ai)(hb:cz b=ai):jq a b=ae (fC a b):=by
 cases a<;>first|cases ha|(cases b<;>first|cases hb|rfl)
theorem Lx(ha:cz a=ai)(hb:cz b=ai)(h:fC a b=ai):a=b:=by
 cases a<;>first|cases ha|(cases b<;>first|cases hb|cases h|(rw[show _=_ from of_decide_eq_true h]))
theorem FN(ha:cz a=ai):fA a=ai:=by cases a<;>first|cases ha|rfl
def jc:Aa->Bool
 |.str _=>ai
 |_=>aj
def i9:Aa->Bool
 |.int _=>ai
 |_=>aj
def look(ps:Nm)(x:Str):Option Aa:=(ps.find? λp=>decide (p.1=x)).map (·.2)
def put(ps:Nm)(x:Str)(v:Aa):Nm:=if (ps.any λp=>decide (p.1=x))=ai then ps.map (λp=>if p.1=x then(p.1,v)else p)else ps++[(x,v)]
theorem RQ(a b):decide ((Dg a:aG)=Dg b)=decide (a=b):=by
 by_cases z:a=b
 ·rw[z,decide_eq_true rfl,decide_eq_true rfl]
 ·rw[decide_eq_false z,decide_eq_false λw=>z (Sum.inr.inj w)]
theorem kG(ps:Nm)(x):bh (bx ps) (.inr x)=look ps x:=by
 induction ps with
 |nil=>rfl
 |cons p r ih=>
  by_cases e:p.1=x
  ·have a1:bh (bx (p::r)) (.inr x)=ae p.2:=by simp[bh,bx,Bq,e]
   have a2:look (p::r) x=ae p.2:=by simp[look,Bq,e]
   rw[a1,a2]
  ·have a1:bh (bx (p::r)) (.inr x)=bh (bx r) (.inr x):=by simp[bh,bx,Bq,e]
   have a2:look (p::r) x=look r x:=by simp[look,Bq,e]
   rw[a1,a2,ih]
theorem JC(ps:Nm)(x):((bx ps).any λkv=>decide (kv.1=(Dg x:aG)))=(ps.any λp=>decide (p.1=x)):=by
 unfold bx;rw[List.any_map]
 congr 1
 funext p
 exact RQ _ _
theorem qG(ps:Nm)(x)(v):dD (bx ps) (.inr x) v=bx (put ps x v):=by
 unfold dD put;rw[JC]
 split
 ·unfold bx;rw[Bt,Bt];apply Ck;intro p _;show(if (Dg p.1:aG)=Dg x then _ else _)=_;by_cases e:p.1=x
  ·rw[if_pos (congrArg Dg e)];show _=(Dg (if p.1=x then(p.1,v)else p).1,(if p.1=x then(p.1,v)else p).2);rw[if_pos e]
  ·rw[if_neg λz=>e (Sum.inr.inj z)];show _=(Dg (if p.1=x then(p.1,v)else p).1,(if p.1=x then(p.1,v)else p).2);rw[if_neg e]
 ·unfold bx;rw[Bd];rfl
theorem lS(h:look ps x=ae v):(x,v)∈ps:=by
 unfold look at h;cases e:ps.find? λp=>decide (p.1=x)with
 |none=>rw[e]at h;cases h
 |some p=>
  rw[e]at h;have h1:=List.find?_some e;have h2:p.1=x:=of_decide_eq_true h1;have h3:p.2=v:=A8 h;have:=List.mem_of_find?_eq_some e;rw[<-h2,<-h3];exact this
theorem tJ(ps:Nm)(x):(ps.any λp=>decide (p.1=x))=(look ps x).isSome:=by
 induction ps with
 |nil=>rfl
 |cons p r ih=>
  by_cases e:p.1=x
  ·have a2:look (p::r) x=ae p.2:=by simp[look,Bq,e]
   rw[a2,C5,decide_eq_true e];rfl
  ·have a2:look (p::r) x=look r x:=by simp[look,Bq,e]
   rw[a2,C5,decide_eq_false e,Bool.false_or,ih]
theorem yH(ps:Nm)(x)(v):(put ps x v).map (·.1)=if (ps.any λp=>decide (p.1=x))=ai then ps.map (·.1)else ps.map (·.1)++[x]:=by
 unfold put
 split
 ·rw[Bt];apply Ck;intro p _;show(if p.1=x then(p.1,v)else p).1=p.1
  split<;>rfl
 ·rw[Bd];rfl
theorem xl(h:(ps.map (·.1)).Nodup):((put ps x v).map (·.1)).Nodup:=by
 rw[yH]
 split
 ·exact h
 ·rename_i e;rw[List.nodup_append];refine⟨h,by simp,λa ha b hb z=>?_⟩;have hb:b=x:=by simpa using hb
  obtain⟨p,hp,rfl⟩:=A7.mp ha;exact e (Dp.mpr ⟨p,hp,decide_eq_true (z.trans hb)⟩)
theorem sQ(ps:Nm)(x)(v):(put ps x v).length<=ps.length+1:=by
 unfold put
 split
 ·rw[Ab];omega
 ·rw[Ai];exact An _
def gx(p:Str×Aa):Prop:=pZ p.1/\cz p.2=ai
theorem pQ(h:∀p∈ps,gx p)(hx:pZ x)(hv:cz v=ai):∀p∈put ps x v,gx p:=by
 intro p hp;unfold put at hp
 split at hp
 ·obtain⟨q,hq,rfl⟩:=A7.mp hp
  split
  ·exact⟨(h q hq).1,hv⟩
  ·exact h q hq
 ·rcases Bc.mp hp with hp|hp
  ·exact h p hp
  ·have:p=(x,v):=by simpa using hp
   subst this;exact⟨hx,hv⟩
theorem JN(nd:(ps.map (·.1)).Nodup)(h:look ps x=ae v):put ps x v=ps:=by
 unfold put;rw[tJ,h,if_pos (show(ae v).isSome=ai from rfl)];have hm:=lS h;have:ps.map (λp=>if p.1=x then(p.1,v)else p)=ps.map id:=by
  apply Ck;intro p hp
  split
  ·rename_i e;have:p=(x,v):=by
    obtain⟨i,hi⟩:=B8.mp hp;obtain⟨j,hj⟩:=B8.mp hm;have a1:(ps.map (·.1))[i]?=ae x:=by rw[Aw,hi];exact congrArg ae e
    have a2:(ps.map (·.1))[j]?=ae x:=by rw[Aw,hj];rfl
    obtain⟨b1,b2⟩:=Av.mp a1;obtain⟨c1,c2⟩:=Av.mp a2;have:=(E8 nd).mp (b2.trans c2.symm);rw[this,hj]at hi;exact(A8 hi).symm
   rw[this];rfl
  ·rfl
 rw[this,Gb]
theorem GP(ps)(x)(v):look (put ps x v) x=ae v:=by
 unfold put;rw[tJ]
 split
 ·rename_i e
  induction ps with
  |nil=>cases e
  |cons p r ih=>
   by_cases z:p.1=x
   ·simp[look,Bq,z]
   ·have a2:look (p::r) x=look r x:=by simp[look,Bq,z]
    rw[a2]at e;rw[Bb,if_neg z];have a3:look (p::r.map λp=>if p.1=x then(p.1,v)else p) x=look (r.map λp=>if p.1=x then(p.1,v)else p) x:=by simp[look,Bq,z]
    rw[a3];exact ih e
 ·rename_i e;have:look ps x=ah:=by cases q:look ps x with|none=>rfl|some _=>rw[q]at e;exact absurd rfl e
  unfold look at this ⊢;rw[List.find?_append];cases q:ps.find? λp=>decide (p.1=x)with
  |some p=>rw[q]at this;cases this
  |none=>simp
theorem Hw(h:y≠x):look (put ps x v) y=look ps y:=by
 unfold put
 split
 ·induction ps with
  |nil=>rfl
  |cons p r ih=>
   rw[Bb];have key:look (r.map λp=>if p.1=x then(p.1,v)else p) y=look r y:=by
    rename_i e;by_cases q:(r.any λp=>decide (p.1=x))=ai
    ·exact ih q
    ·have:r.map (λp=>if p.1=x then(p.1,v)else p)=r.map id:=by
      apply Ck;intro p hp;rw[if_neg λz=>q (Dp.mpr ⟨p,hp,decide_eq_true z⟩)];rfl
     rw[this,Gb]
   by_cases z:p.1=x
   ·rw[if_pos z];have n1:¬p.1=y:=λw=>h (w.symm.trans z);have a1:look ((p.1,v)::r.map λp=>if p.1=x then(p.1,v)else p) y=look (r.map λp=>if p.1=x then(p.1,v)else p) y:=by simp[look,Bq,n1]
    have a2:look (p::r) y=look r y:=by simp[look,Bq,n1]
    rw[a1,a2,key]
   ·rw[if_neg z];by_cases w:p.1=y
    ·simp[look,Bq,w]
    ·have a1:look (p::r.map λp=>if p.1=x then(p.1,v)else p) y=look (r.map λp=>if p.1=x then(p.1,v)else p) y:=by simp[look,Bq,w]
     have a2:look (p::r) y=look r y:=by simp[look,Bq,w]
     rw[a1,a2,key]
 ·unfold look;rw[List.find?_append];have:[(x,v)].find? (λp=>decide (p.1=y))=ah:=by simp[λz=>h (Eq.symm z),Ne.symm h]
  rw[this,Option.or_none]
def il(f:Fd)(v:Aa)(h bs:Nm):Bool:=match f with
 |.is w=>fC w v
 |.any=>ai
 |.word=>jc v
 |.number=>i9 v
 |.as x=>match look h x with
  |some w=>fC w v
  |none=>aj
 |.bind x=>match look bs x with
  |some w=>fC w v
  |none=>ai
def wk:List (Fd×Aa)->Nm->List Str->Option Nm
 |[],h,_=>ae h
 | (.is w,v)::r,h,hs=>if fC w v=ai then wk r h hs else ah
 | (.any,_)::r,h,hs=>wk r h hs
 | (.word,v)::r,h,hs=>if jc v=ai then wk r h hs else ah
 | (.number,v)::r,h,hs=>if i9 v=ai then wk r h hs else ah
 | (.as x,v)::r,h,hs=>match look h x with
  |some w=>if fC w v=ai then wk r h hs else ah
  |none=>ah
 | (.bind x,v)::r,h,hs=>if x∈hs then(match look h x with
   |some w=>if fC w v=ai then wk r h hs else ah
   |none=>ah)else wk r (put h x v) (hs++[x])
def ko(p:Str×Aa):Aa:=.tuple [.str p.1,p.2]
def cJ(ps:Nm):Aa:=.tuple (ps.map ko)
def dC(fs:List Fd):Aa:=.tuple (fs.map Fd.d)
def okN(ps:Nm):Prop:=ps.length<=40/\(ps.map (·.1)).Nodup/\∀p∈ps,gx p
def qp(fs:List Fd):Prop:=1<=fs.length/\fs.length<=4/\∀f∈fs,f.ok
def sL(row:List Aa):Prop:=(row.length<=4/\1<=row.length)/\∀d∈row,cz d=ai
theorem I0(x y:Str)(h1:¬x.cps.toList < y.cps.toList)(h2:¬y.cps.toList < x.cps.toList):x=y:=by
 have:x.cps.toList=y.cps.toList:=List.le_antisymm (El.mp h2) (El.mp h1);have e:=Array.toList_inj.mp this;cases x;cases y;simp only at e;rw[e]
theorem Le{h a b:Nm}(nd:(h.map (·.1)).Nodup)(ha:a.Perm h)(hb:b.Perm h)(ra:j0 a)(rb:j0 b):a=b:=by
 refine List.Perm.eq_of_pairwise (λx y hx hy l1 l2=>?_) ra rb (ha.trans hb.symm);have e:x.1=y.1:=I0 _ _ l2 l1;have hx':=ha.mem_iff.mp hx;have hy':=hb.mem_iff.mp hy;obtain⟨i,hi⟩:=B8.mp hx';obtain⟨j,hj⟩:=B8.mp hy';have a1:(h.map (·.1))[i]?=ae x.1:=by rw[Aw,hi];rfl
 have a2:(h.map (·.1))[j]?=ae x.1:=by rw[Aw,hj,e];rfl
 obtain⟨b1,b2⟩:=Av.mp a1;obtain⟨c1,c2⟩:=Av.mp a2;have:=(E8 nd).mp (b2.trans c2.symm);rw[this,hj]at hi;exact(A8 hi).symm
theorem lB:∀(l:List (Fd×Aa))(h:Nm)(hs:List Str)(k:Nm),(h.map (·.1)).Nodup->wk l h hs=ae k->(k.map (·.1)).Nodup
 |[],h,hs,k,nd,e=>by cases e;exact nd
 | (.is w,v)::r,h,hs,k,nd,e=>by unfold wk at e;split at e;exact lB r h hs k nd e;cases e
 | (.any,v)::r,h,hs,k,nd,e=>by unfold wk at e;exact lB r h hs k nd e
 | (.word,v)::r,h,hs,k,nd,e=>by unfold wk at e;split at e;exact lB r h hs k nd e;cases e
 | (.number,v)::r,h,hs,k,nd,e=>by unfold wk at e;split at e;exact lB r h hs k nd e;cases e
 | (.as x,v)::r,h,hs,k,nd,e=>by
  unfold wk at e
  split at e
  ·split at e
   ·exact lB r h hs k nd e
   ·cases e
  ·cases e
 | (.bind x,v)::r,h,hs,k,nd,e=>by
  unfold wk at e
  split at e
  ·split at e
   ·split at e
    ·exact lB r h hs k nd e
    ·cases e
   ·cases e
  ·exact lB r _ _ k (xl nd) e
def yB(a b:Str×Aa):Bool:=decide (¬b.1.cps.toList < a.1.cps.toList)
def c9(h:Nm):Nm:=h.mergeSort yB
theorem zp(h):(c9 h).Perm h:=List.mergeSort_perm h yB
theorem zC(h):j0 (c9 h):=by
 have:=List.pairwise_mergeSort (le:=yB) (λa b c x y=>decide_eq_true (El.mpr (List.le_trans (El.mp (of_decide_eq_true x)) (El.mp (of_decide_eq_true y))))) (λa b=>?_) h
 ·exact List.Pairwise.imp (λx=>of_decide_eq_true x) this
 ·rw[Bool.or_eq_true];rcases List.le_total a.1.cps.toList b.1.cps.toList with z|z
  ·exact .inl (decide_eq_true (El.mpr z))
  ·exact .inr (decide_eq_true (El.mpr z))
theorem Jh{h h':Nm}(nd:(h.map (·.1)).Nodup)(p:h'.Perm h)(r:j0 h'):h'=c9 h:=Le nd p (zp h) r (zC h)
def dI(fs:List Fd)(row:List Aa)(nm:Nm):Nm:=(wk (fs.zip row) nm []).getD []
def c8(fs:List Fd)(row:List Aa)(nm:Nm):Bool:=decide (fs.length=row.length)&&(wk (fs.zip row) nm []).isSome
def gm(fs:List Fd)(row:List Aa)(nm:Nm):Aa:=if c8 fs row nm=ai then cJ (c9 (dI fs row nm))else .none
def pW(fs:List Fd)(row:List Aa)(ps:Nm)(r:Aa):Prop:=
 if fs.length=row.length then match wk (fs.zip row) ps []with
  |none=>r=.none
  |some h=>r=cJ (c9 h)
 else r=.none
theorem UD(h:pW fs row ps r):r=gm fs row ps:=by
 unfold pW at h;unfold gm c8 dI;by_cases e:fs.length=row.length
 ·rw[if_pos e]at h;rw[decide_eq_true e,Fo];cases q:wk (fs.zip row) ps []with
  |none=>rw[q]at h;rw[if_neg (by rw[Option.isSome_none];exact Ae)];exact h
  |some x=>rw[q]at h;rw[if_pos (show(ae x).isSome=ai from rfl)];exact h
 ·rw[if_neg e]at h;rw[decide_eq_false e,if_neg (by rw[Bool.false_and];exact Ae)];exact h
def jO:bu:=λws n Q=>∃(f:Fd)(v:Aa)(hp bp:Nm),ws=[.d f.d,.d v,.dk (bx hp),.dk (bx bp)]/\f.ok/\cz v=ai/\(∀p∈hp,gx p)/\(∀p∈bp,gx p)/\Q (.d (.bool (il f v hp bp))) n
def qA:bu:=λws n Q=>∃(fs:List Fd)(row:List Aa)(nm:Nm),ws=[.d (dC fs),.d (.tuple row),.d (cJ nm)]/\qp fs/\sL row/\okN nm/\Q (.d (gm fs row nm)) n
def eh(ys:List Str):Aa:=.tuple (ys.map .str)
def sW:List Aa:=[.str "a",.int 0,.int 1,.str "ab",.str "go",.int 99]
inductive Fe where
 |any|word|num|isv (d:Aa)|bind (k:Str)|as (k:Str)|nx (k:Str)
def Fe.hd:Fe->Str
 |.any=>"any"
 |.word=>"word"
 |.num=>"number"
 |.isv _=>"is"
 |.bind _=>"bind"
 |.as _=>"as"
 |.nx _=>"next"
def Fe.tl:Fe->List Aa
 |.any=>[]
 |.word=>[]
 |.num=>[]
 |.isv d=>[d]
 |.bind k=>[.str k]
 |.as k=>[.str k]
 |.nx k=>[.str k]
def Fe.d(f:Fe):Aa:=.tuple (.str f.hd::f.tl)
abbrev gT(k:Str):Prop:=pZ k
def Fe.ok:Fe->Prop
 |.isv d=>cz d=ai
 |.bind k=>gT k
 |.as k=>gT k
 |.nx k=>gT k
 |_=>True
def Fe.bd:Fe->Option Str
 |.bind k=>ae k
 |_=>ah
def Fe.us:Fe->Option Str
 |.as k=>ae k
 |.nx k=>ae k
 |_=>ah
def bM(fs:List Fe):List Str:=fs.filterMap Fe.bd
def Fe.pt:Fe->Bool
 |.nx _=>aj
 |_=>ai
def Fe.tm:Fe->Bool
 |.isv _=>ai
 |.as _=>ai
 |.nx _=>ai
 |_=>aj
def Fe.te:Fe->Bool
 |.isv _=>ai
 |.as _=>ai
 |_=>aj
def fL(fs:List Fe):Prop:=fs.length<=4/\∀f∈fs,f.ok
def rF:List Str->List Fe->Prop
 |_,[]=>True
 |ks,f::r=>(∀k,f.us=ae k->k∈ks)/\rF (ks++f.bd.toList) r
inductive Ac where
 |lay (fs:List Fe) (age:Aa)|take (fs:List Fe)|read (fs:List Fe)|look (fs:List Fe) (b:Nat)|same (f g:Fe) (b:Nat)|go (b:Nat)
def eS(fs:List Fe):Aa:=.tuple (fs.map Fe.d)
def Ac.d:Ac->Aa
 |.lay fs age=>.tuple [.str "lay",eS fs,age]
 |.take fs=>.tuple [.str "take",eS fs]
 |.read fs=>.tuple [.str "read",eS fs]
 |.look fs b=>.tuple [.str "look",eS fs,.int b]
 |.same f g b=>.tuple [.str "same",f.d,g.d,.int b]
 |.go b=>.tuple [.str "go",.int b]
def Ac.bs:Ac->List Str
 |.take fs=>bM fs
 |.read fs=>bM fs
 |.look fs _=>bM fs
 |_=>[]
def Ac.fs:Ac->List Fe
 |.lay fs _=>fs
 |.take fs=>fs
 |.read fs=>fs
 |.look fs _=>fs
 |.same f g _=>[f,g]
 |.go _=>[]
def Ac.to:Ac->Option Nat
 |.look _ b=>ae b
 |.same _ _ b=>ae b
 |.go b=>ae b
 |_=>ah
def Ac.right(wants:List (List Str))(ks:List Str)(a:Ac):Prop:=rF ks a.fs/\∀b,a.to=ae b->∃w,wants[b]?=ae w/\∀k∈w,k∈ks
def ft(d:Aa):Prop:=d=.none\/∃i:Int,d=.int i/\1<=i/\i<=20
def gK(fs:List Fe):Prop:=1<=fs.length/\∀f∈fs,f.pt=ai
def Ac.pat:Ac->Prop
 |.take fs=>gK fs
 |.read fs=>gK fs
 |.look fs _=>gK fs
 |.lay fs age=>(∀f∈fs,f.tm=ai)/\ft age/\1<=fs.length
 |.same f g _=>f.te=ai/\g.te=ai
 |.go _=>True
def ml(a:Ac):Prop:=fL a.fs/\a.pat
abbrev Bl:=List Str×List Ac
def kP(b:Bl):Aa:=.tuple [eh b.1,.tuple (b.2.map Ac.d)]
def fg(bs:List Bl):Aa:=.tuple (bs.map kP)
def kn(w:List Str)(as:List Ac)(p:Nat):List Str:=w++(as.take p).flatMap Ac.bs
def mC(b:Bl):Prop:=b.1.length<=4/\(∀k∈b.1,gT k)/\b.2.length<=8/\(∀a∈b.2,ml a)/\b.1.Nodup/\me b.1
def l9(wants:List (List Str))(b:Bl):Prop:=∀(p:Nat)(a:Ac),b.2[p]?=ae a->a.right wants (kn b.1 b.2 p)
def lD:bu:=λws n Q=>ws=[.tp]/\n < 2 ^ 39/\∀v∈sW,Q (.d v) (n+1)
def mG:bu:=λws n Q=>ws=[.tp]/\n < 2 ^ 39/\∀m:Nat,1<=m->m<=4->Q (.d (.int m)) (n+1)
def ya:bu:=λws n Q=>∃ks:List Str,ws=[.tp,.ln (ks.map .str)]/\ks.length<=1000/\(∀k∈ks,gT k)/\n+9 < 2 ^ 39/\∀(fs:List Fe)(n':Int),1<=fs.length->fL fs->(∀f∈fs,f.tm=ai)->rF ks fs->n'<=n+9->Q (.d (eS fs)) n'
def rM:bu:=λws n Q=>∃ks:List Str,ws=[.tp,.ln (ks.map .str)]/\ks.length<=1000/\(∀k∈ks,gT k)/\n+2 < 2 ^ 39/\∀(f:Fe)(n':Int),f.ok->f.te=ai->(∀k,f.us=ae k->k∈ks)->n'<=n+2->Q (.d f.d) n'
def px:bu:=λws n Q=>∃(ks:List Str)(os:List Nat)(wants:List (List Str)),ws=[.tp,.ln (ks.map .str),.d (.list (os.map λb=>.int (b:Nat)))]/\ks.length<=1000/\(∀k∈ks,gT k)/\0 < os.length/\os.length<=1000 /\
 (∀b∈os,∃w,wants[b]?=ae w/\∀k∈w,k∈ks)/\n+11 < 2 ^ 39/\∀(a:Ac)(n':Int),ml a->a.right wants ks->n'<=n+11->Q (.d (.tuple [a.d,.list (a.bs.map .str)])) n'
def qZ(bs:List Bl):Prop:=1<=bs.length/\bs.length<=6/\∀b∈bs,mC b/\l9 (bs.map (·.1)) b
def wV:bu:=λws n Q=>∃(ks:List Str)(v:Wv),ws=[.tp,v]/\fI v=ae (ks.map .str)/\ks.length<=1000/\(∀k∈ks,gT k)/\n+9 < 2 ^ 39/\∀(fs:List Fe)(n':Int),1<=fs.length->fL fs->(∀f∈fs,f.pt=ai)->rF ks fs->n'<=n+9->Q (.d (.tuple [eS fs,.list ((bM fs).map .str)])) n'
def iZ(bs:List Bl):Prop:=∃w,bs.map (·.1)=[]::w
def ue:bu:=λws n Q=>ws=[.tp]/\n+600 < 2 ^ 39/\∀(bs:List Bl)(n':Int),qZ bs->iZ bs->n'<=n+600->Q (.d (fg bs)) n'
abbrev Hn:=Nat×Nat×Nm
def bW(h:Hn):Aa:=.tuple [.int h.1,.int h.2.1,cJ h.2.2]
abbrev Nt:=List Aa×Aa
def bI(q:Nt):Aa:=.tuple [.tuple q.1,q.2]
def bK(ns:List Nt):Aa:=.tuple (ns.map bI)
def bQ(hs:List Hn)(ns:List Nt):Aa:=.tuple [.tuple (hs.map bW),bK ns]
abbrev Pg:=List (List Bl)
def a8(ps:Pg):Aa:=.tuple (ps.map fg)
def cH(ps:Pg):Prop:=ps.length<=5/\∀P∈ps,qZ P
def kh(q:Nt):Prop:=sL q.1/\ft q.2
def dg(m:Nat)(ns:List Nt):Prop:=ns.length<=m/\∀q∈ns,kh q
structure okHn(b:Bl)(h:Hn):Prop where
 pl:h.2.1<=b.2.length
 nd:(h.2.2.map (·.1)).Nodup
 ok:∀p∈h.2.2,gx p
 up:j0 h.2.2
 mem:∀k,k∈h.2.2.map (·.1)↔k∈kn b.1 b.2 h.2.1
 ln:h.2.2.length<=40
theorem okHn.n(H:okHn b h):okN h.2.2:=⟨H.ln,H.nd,H.ok⟩
def okHs(ps:Pg)(hs:List Hn):Prop:=hs.length=ps.length/\∀(i:Nat)(P:List Bl),ps[i]?=ae P->∃(h:Hn)(b:Bl),hs[i]?=ae h/\P[h.1]?=ae b/\okHn b h
def bP(ps:Pg)(hs:List Hn)(h:Nat):Option Ac:=ps[h]?.bind λP=>hs[h]?.bind λx=>P[x.1]?.bind λb=>b.2[x.2.1]?
def tZ:Option Ac->Aa
 |none=>.none
 |some a=>a.d
def Fe.fd:Fe->Fd
 |.any=>.any
 |.word=>.word
 |.num=>.number
 |.isv d=>.is d
 |.bind k=>.bind k
 |.as k=>.as k
 |.nx _=>.any
def Ac.pf:Ac->Option (List Fd)
 |.take fs=>ae (fs.map Fe.fd)
 |.read fs=>ae (fs.map Fe.fd)
 |.look fs _=>ae (fs.map Fe.fd)
 |_=>ah
def Ac.wt:Ac->Bool
 |.take _=>ai
 |.read _=>ai
 |_=>aj
def bg(fs:List Fd)(nm:Nm)(ns:List Nt):Option Nat:=ns.findIdx? λq=>c8 fs q.1 nm
def iw(hs:List Hn)(h:Nat):Nm:=(hs[h]?.map (·.2.2)).getD []
def bf(ps:Pg)(hs:List Hn)(ns:List Nt)(h:Nat):Option Nat:=(bP ps hs h).bind λa=>a.pf.bind λfs=>bg fs (iw hs h) ns
def fH(ps:Pg)(hs:List Hn)(ns:List Nt)(h:Nat):Bool:=((bP ps hs h).map λa=>!a.wt || (bf ps hs ns h).isSome).getD aj
def fS:Option Nat->Aa
 |none=>.none
 |some i=>.int i
def cw(ns:List Nt)(i:Nat):List Aa:=(ns[i]?.map (·.1)).getD []
def dG(ps:Pg)(hs:List Hn)(ns:List Nt)(h:Nat):Option (Nat×Nm):=(bP ps hs h).bind λa=>a.pf.bind λfs=>(bg fs (iw hs h) ns).map λi=>(i,dI fs (cw ns i) (iw hs h))
def gg:Option (Nat×Nm)->Wv
 |none=>.d .none
 |some (i,h)=>.ob (.q (.int i) (bx h))
def eT(fs:List Fd)(row:List Aa)(nm:Nm):Wv:=if c8 fs row nm=ai then .ob (.k (bx (dI fs row nm)))else .d .none
def eD(ps:Pg)(hs:List Hn)(ns:List Nt):Prop:=cH ps/\okHs ps hs/\dg 100 ns
def k9:Aa->Aa
 |.int i=>if i=99 then .int 0 else .int (i+1)
 |d=>d
def gA(nm:Nm)(k:Str):Aa:=(look nm k).getD .none
def eL(nm:Nm):Fe->Aa
 |.isv d=>d
 |.as k=>gA nm k
 |.nx k=>k9 (gA nm k)
 |_=>.none
def cu(fs:List Fe)(nm:Nm):List Aa:=fs.map (eL nm)
def lT(P:List Bl)(b:Nat):List Str:=(P[b]?.map (·.1)).getD []
def b8(P:List Bl)(b:Nat)(nm:Nm):Hn:=(b,0,nm.filter λp=>decide (p.1∈lT P b))
def cO(x:Hn)(nm:Nm):Hn:=(x.1,x.2.1+1,nm)
def bo(hs:List Hn)(h:Nat)(x:Hn):List Hn:=hs.take h++x::hs.drop (h+1)
def gF:Aa->Aa
 |.int i=>.int (i-1)
 |d=>d
def bX:Aa->Bool
 |.int i=>decide (i=1)
 |_=>aj
def dw(ns:List Nt):List Nt:=(ns.filter λq=>!bX q.2).map λq=>(q.1,gF q.2)
def cE(ns:List Nt)(i:Nat):List Nt:=ns.take i++ns.drop (i+1)
def bZ(fs:List Fe)(x:Hn)(ns:List Nt):Option (Nat×Hn):=(bg (fs.map Fe.fd) x.2.2 ns).map λi=>(i,cO x (c9 (dI (fs.map Fe.fd) (cw ns i) x.2.2)))
def oh(P:List Bl)(x:Hn)(ns:List Nt):Ac->Option (Hn×List Nt)
 |.lay fs age=>ae (cO x x.2.2,ns++[(cu fs x.2.2,age)])
 |.go b=>ae (b8 P b x.2.2,ns)
 |.same f g b=>ae (if fC (eL x.2.2 f) (eL x.2.2 g)=ai then cO x x.2.2 else b8 P b x.2.2,ns)
 |.take fs=>(bZ fs x ns).map λq=>(q.2,cE ns q.1)
 |.read fs=>(bZ fs x ns).map λq=>(q.2,ns)
 |.look fs b=>match bZ fs x ns with
  |some q=>ae (q.2,ns)
  |none=>ae (b8 P b x.2.2,ns)
def fM(ps:Pg)(hs:List Hn)(ns:List Nt)(h:Nat):Option (List Hn×List Nt):=ps[h]?.bind λP=>hs[h]?.bind λx=>(bP ps hs h).bind λa=>(oh P x ns a).map λr=>(bo hs h r.1,r.2)
def cD(ps:Pg)(hs:List Hn)(ns:List Nt)(m:Nat):Option (List Hn×List Nt):=if m=ps.length then ae (hs,dw ns)else fM ps hs ns m
def ie:Option (List Hn×List Nt)->Aa
 |none=>.none
 |some r=>bQ r.1 r.2
def fk(nm:Nm)(f:Fe):Prop:=f.ok/\f.tm=ai/\∀k,f.us=ae k->∃v,look nm k=ae v/\cz v=ai
def uu:Aa->Bool
 |.int _=>ai
 |_=>aj
def tX(b:Aa)(m:Int):Bool:=match b with
 |.int i=>decide (0<=i)&&decide (i<=m)
 |_=>aj
def kJ(ps:Pg)(b:Aa):Option Nat:=match b with
 |.int i=>if 0<=i/\i<=(ps.length:Int)then ae i.toNat else ah
 |_=>ah
def gR(ps:Pg)(hs:List Hn)(ns:List Nt)(b:Aa):Option (List Hn×List Nt):=(kJ ps b).bind (cD ps hs ns)
def vt:bu:=λws n Q=>∃b,ws=[.d b]/\Q (.d (.bool (uu b))) n
def uJ:bu:=λws n Q=>∃(b:Aa)(m:Int),ws=[.d b,.d (.int m)]/\Q (.d (.bool (tX b m))) n
def xE:bu:=λws n Q=>∃v,ws=[.d v]/\cz v=ai/\Q (.d (k9 v)) n
def o7:bu:=λws n Q=>∃(f:Fe)(nm:Nm),ws=[.d f.d,.dk (bx nm)]/\fk nm f/\Q (.d (eL nm f)) n
def ug:bu:=λws n Q=>∃(fs:List Fe)(nm:Nm),ws=[.d (eS fs),.d (cJ nm)]/\fs.length<=4/\(∀f∈fs,fk nm f)/\okN nm/\Q (.d (.tuple (cu fs nm))) n
def qr:bu:=λws n Q=>∃(fs:List Fe)(nm:Nm),ws=[.d (eS fs),.dk (bx nm)]/\fs.length<=4/\(∀f∈fs,fk nm f)/\Q (.d (.tuple (cu fs nm))) n
def sC:bu:=λws n Q=>∃(f:Fe)(nm:Nm),ws=[.d f.d,.d (cJ nm)]/\fk nm f/\f.te=ai/\okN nm/\Q (.d (eL nm f)) n
def xr:bu:=λws n Q=>∃(f g:Fe)(b:Nat)(nm:Nm),ws=[.d (Ac.same f g b).d,.d (cJ nm)]/\fk nm f/\fk nm g/\f.te=ai/\g.te=ai/\okN nm/\Q (.d (.bool (fC (eL nm f) (eL nm g)))) n
def nF:bu:=λws n Q=>∃(x:Hn)(nm:Nm),ws=[.d (bW x),.d (cJ nm)]/\Q (.d (bW (cO x nm))) n
def oN:bu:=λws n Q=>∃(P:List Bl)(b:Nat)(nm:Nm)(w:Bl),ws=[.d (fg P),.d (.int b),.d (cJ nm)]/\P[b]?=ae w/\w.1.length<=4/\Q (.d (bW (b8 P b nm))) n
def lZ:bu:=λws n Q=>∃(P:List Bl)(b:Nat)(nm:Nm)(w:Bl),ws=[.d (fg P),.d (cJ nm),.d (.int b)]/\P[b]?=ae w/\w.1.length<=4/\okN nm/\j0 nm/\w.1.Nodup/\me w.1/\(∀k∈w.1,k∈nm.map (·.1))/\Q (.d (bW (b8 P b nm))) n
def jT:bu:=λws n Q=>∃(hs:List Hn)(h:Nat)(x:Hn),ws=[.d (.tuple (hs.map bW)),.d (.int h),.d (bW x)]/\h < hs.length/\hs.length<=5/\Q (.d (.tuple ((bo hs h x).map bW))) n
def oM:bu:=λws n Q=>∃(ps:Pg)(hs:List Hn)(ns:List Nt)(h:Nat)(a:Ac),ws=[.d (a8 ps),.d (bQ hs ns),.d (.int h),.d a.d]/\eD ps hs ns/\h < ps.length/\bP ps hs h=ae a/\a.pf.isSome=ai/\Q (.d (ie (fM ps hs ns h))) n
def t5:bu:=λws n Q=>∃(ps:Pg)(hs:List Hn)(ns:List Nt)(h:Nat),ws=[.d (a8 ps),.d (bQ hs ns),.d (.int h)]/\eD ps hs ns/\h < ps.length/\Q (.d (ie (fM ps hs ns h))) n
def vI:bu:=λws n Q=>∃q:Nt,ws=[.d (bI q)]/\ft q.2/\Q (.d (bI (q.1,gF q.2))) n
def wA:bu:=λws n Q=>∃(hs:List Hn)(ns:List Nt),ws=[.d (bQ hs ns)]/\(∀q∈ns,ft q.2)/\Q (.d (bQ hs (dw ns))) n
def pL:bu:=λws n Q=>∃(ps:Pg)(hs:List Hn)(ns:List Nt)(b:Aa),ws=[.d (a8 ps),.d (bQ hs ns),.d b]/\eD ps hs ns/\Q (.d (ie (gR ps hs ns b))) n
def Ou:bu:=λws n Q=>∃(ps:Pg)(hs:List Hn)(ns:List Nt)(m:Nat)(r:List Hn×List Nt),ws=[.d (a8 ps),.d (bQ hs ns),.d (.int m)]/\eD ps hs ns/\m<=ps.length/\cD ps hs ns m=ae r/\Q (.d (bQ r.1 r.2)) n
def qm:bu:=Ou
def iH:bu:=λws n Q=>∃(ps:Pg)(hs:List Hn)(ns:List Nt)(h:Nat),ws=[.d (a8 ps),.d (bQ hs ns),.d (.int h)]/\okHs ps hs/\h < ps.length/\Q (.d (tZ (bP ps hs h))) n
def mQ:bu:=λws n Q=>∃(ps:Pg)(hs:List Hn)(ns:List Nt)(h:Nat),ws=[.d (a8 ps),.d (bQ hs ns),.d (.int h)]/\eD ps hs ns/\h < ps.length/\Q (.d (fS (bf ps hs ns h))) n
def nL:bu:=λws n Q=>∃(ps:Pg)(hs:List Hn)(ns:List Nt)(h:Nat),ws=[.d (a8 ps),.d (bQ hs ns),.d (.int h)]/\eD ps hs ns/\h < ps.length/\Q (gg (dG ps hs ns h)) n
def sS:bu:=λws n Q=>∃(ps:Pg)(hs:List Hn)(ns:List Nt)(h:Nat),ws=[.d (a8 ps),.d (bQ hs ns),.d (.int h)]/\eD ps hs ns/\h < ps.length/\Q (.d (.bool (fH ps hs ns h))) n
def uy:bu:=λws n Q=>∃(fs:List Fd)(row:List Aa)(nm:Nm),ws=[.d (dC fs),.d (.tuple row),.d (cJ nm)]/\qp fs/\sL row/\okN nm/\Q (eT fs row nm) n
def pq:bu:=λws n Q=>ws=[.tp]/\n < 2 ^ 39/\∀v∈kD,Q (.d v) (n+1)
def tH:bu:=λws n Q=>∃m:Nat,ws=[.tp,.d (.int m)]/\m<=12/\n+100 < 2 ^ 39/\∀(ns:List Nt)(n':Int),dg m ns->n'<=n+100->Q (.d (bK ns)) n'
def uB:bu:=λws n Q=>ws=[.tp]/\n+4200 < 2 ^ 39/\∀(ps:Pg)(ns:List Nt)(n':Int),cH ps->(∀P∈ps,iZ P)->dg 12 ns->n'<=n+4200->Q (.d (.tuple [a8 ps,bK ns])) n'
def gv(ps:Pg)(hs:List Hn)(ns:List Nt):List Aa:=((A3 ps.length).filter (fH ps hs ns)).map λh=>.int (h:Nat)
abbrev Sd:=List Hn×List Nt
def cM(s:Sd):Aa:=bQ s.1 s.2
inductive Wov(ps:Pg):Sd->List Nat->Sd->Prop
 |nil {s:Sd}:Wov ps s [] s
 |cons {s t u:Sd} {m:Nat} {L:List Nat}:m<=ps.length->cD ps s.1 s.2 m=ae t->Wov ps t L u->Wov ps s (m::L) u
def aD(L:List Nat):List Aa:=L.map λi=>.int (i:Nat)
def wI:eU:=λws n Q=>∃(ps:Pg)(hs:List Hn)(ns:List Nt),ws=[.d (a8 ps),.d (bQ hs ns)]/\eD ps hs ns/\Q (gv ps hs ns++[.int ps.length]) n
structure Wlk(ps:Pg)(s0:Sd)(L:List Nat)(S:List Sd):Prop where
 len:S.length=L.length+1
 fst:S[0]?=ae s0
 ok:∀i s,S[i]?=ae s->okHs ps s.1/\dg (12+i) s.2
 st:∀i m,L[i]?=ae m->m<=ps.length/\∃s t,S[i]?=ae s/\S[i+1]?=ae t/\cD ps s.1 s.2 m=ae t
def rQ:bu:=λws n Q=>∃(ps:Pg)(s:Sd)(mo:Nat),ws=[.tp,.d (a8 ps),.d (cM s),.d (.int mo)]/\mo<=16/\cH ps/\okHs ps s.1/\dg 12 s.2/\n+62 < 2 ^ 39/\∀(L:List Nat)(S:List Sd)(n':Int),Wlk ps s L S->L.length<=16->n'<=n+62->Q (.d (.tuple [.list (aD L),.list (S.map cM)])) n'
def d8(ps:Pg):List Hn:=ps.map λ_=>(0,0,[])
def m8:bu:=λws n Q=>∃(ps:Pg)(ns:List Nt),ws=[.d (.tuple [a8 ps,bK ns])]/\ps.length<=5/\Q (.d (bQ (d8 ps) ns)) n
def cK(nu:List Nat)(ns:List Nt):List Nat:=((nu.zip ns).filter λp=>bX p.2.2).map (·.1)
def fJ(nu:List Nat)(g:Option Nat):Option Nat:=g.bind (nu[·]?)
def dr(nu:List Nat)(g:Option Nat):Aa:=fS (fJ nu g)
def gh(ps:Pg)(s:Sd)(nu:List Nat)(fr m:Nat):Ac->Aa×List Nat×Nat
 |.lay fs age=>(.tuple [.str "lays",.int m,.int fr,bI (cu fs (iw s.1 m),age)],nu++[fr],fr+1)
 |.take _=>(.tuple [.str "takes",.int m,dr nu (bf ps s.1 s.2 m)],nu.filter (λx=>!decide (ae x=fJ nu (bf ps s.1 s.2 m))),fr)
 |.read _=>(.tuple [.str "reads",.int m,dr nu (bf ps s.1 s.2 m)],nu,fr)
 |.look _ _=>(.tuple [.str "looks",.int m,dr nu (bf ps s.1 s.2 m)],nu,fr)
 |.same _ _ _=>(.tuple [.str "goes",.int m],nu,fr)
 |.go _=>(.tuple [.str "goes",.int m],nu,fr)
def aL(ps:Pg)(s:Sd)(nu:List Nat)(fr m:Nat):Aa×List Nat×Nat:=
 if m=ps.length then(.tuple [.str "clock",.tuple (aD (cK nu s.2))],nu.filter (λx=>!decide (x∈cK nu s.2)),fr)
 else match bP ps s.1 m with
  |some a=>gh ps s nu fr m a
  |none=>(.none,nu,fr)
structure okNu(s:Sd)(nu:List Nat)(fr:Nat):Prop where
 nd:nu.Nodup
 len:nu.length=s.2.length
 lt:∀x∈nu,x < fr
inductive Lgs(ps:Pg):Sd->List Nat->Nat->List Nat->List Aa->Prop
 |nil {s:Sd} {nu:List Nat} {fr:Nat}:Lgs ps s nu fr [] []
 |cons {s t:Sd} {nu:List Nat} {fr m:Nat} {L:List Nat} {R:List Aa}:m<=ps.length->cD ps s.1 s.2 m=ae t->Lgs ps t (aL ps s nu fr m).2.1 (aL ps s nu fr m).2.2 L R->Lgs ps s nu fr (m::L) ((aL ps s nu fr m).1::R)
def dN(s:Sd)(nu:List Nat)(fr:Nat):Aa:=.tuple [cM s,.tuple (aD nu),.int fr]
def rR:bu:=m8
def sO:bu:=λws n Q=>∃(ps:Pg)(ns:List Nt),ws=[.d (.tuple [a8 ps,bK ns])]/\ps.length<=5/\ns.length<=12/\Q (.d (dN (d8 ps,ns) (A3 ns.length) ns.length)) n
def xg:bu:=λws n Q=>∃(s:Sd)(nu:List Nat)(fr:Nat),ws=[.d (dN s nu fr)]/\nu.length=s.2.length/\(∀q∈s.2,ft q.2)/\Q (.d (.tuple [.str "clock",.tuple (aD (cK nu s.2))])) n
structure okBd(ps:Pg)(s t:Sd)(nu:List Nat)(fr m:Nat):Prop where
 st:eD ps s.1 s.2
 nu:okNu s nu fr
 le:m<=ps.length
 af:cD ps s.1 s.2 m=ae t
def uU:bu:=λws n Q=>∃(ps:Pg)(s t:Sd)(nu:List Nat)(fr m:Nat),ws=[.d (a8 ps),.d (dN s nu fr),.d (.int m),.d (cM t)]/\okBd ps s t nu fr m/\m < ps.length/\Q (.d (aL ps s nu fr m).1) n
def vh:bu:=λws n Q=>∃(ps:Pg)(s t:Sd)(nu:List Nat)(fr m:Nat),ws=[.d (a8 ps),.d (dN s nu fr),.d (.int m),.d (cM t)]/\okBd ps s t nu fr m/\Q (.d (aL ps s nu fr m).1) n
def ig:Aa->List Aa
 |.tuple (.str h::r)=>if h="clock" then(match r with|.tuple l::_=>l|_=>[])else if h="takes" then(r.drop 1).take 1 else[]
 |_=>[]
def nX:Aa->Prop
 |.tuple (.str h::r)=>(h="clock"/\∃l,r=[.tuple l])\/(h="takes"/\∃a b,r=[a,b])\/(h≠"clock"/\h≠"takes")
 |_=>False
def xM:bu:=λws n Q=>∃row,ws=[.d row]/\nX row/\Q (.d (.tuple (ig row))) n
def vy:bu:=λws n Q=>∃(ps:Pg)(s t:Sd)(nu:List Nat)(fr m:Nat),ws=[.d (dN s nu fr),.d (aL ps s nu fr m).1,.d (cM t)]/\okBd ps s t nu fr m/\nu.length<=200/\Q (.d (dN t (aL ps s nu fr m).2.1 (aL ps s nu fr m).2.2)) n
def fq(ps:Pg)(b:Aa):Nat:=(kJ ps b).getD 0
def ke(ps:Pg)(s:Sd)(nu:List Nat)(fr:Nat)(b:Aa):Aa:=match gR ps s.1 s.2 b with
 |none=>.none
 |some t=>.tuple [(aL ps s nu fr (fq ps b)).1,dN t (aL ps s nu fr (fq ps b)).2.1 (aL ps s nu fr (fq ps b)).2.2]
def qv:bu:=λws n Q=>∃(ps:Pg)(s:Sd)(nu:List Nat)(fr:Nat)(b:Aa),ws=[.d (a8 ps),.d (dN s nu fr),.d b]/\eD ps s.1 s.2/\okNu s nu fr/\Q (.d (ke ps s nu fr b)) n
def kr(ps:Pg)(ns:List Nt)(L:List Nat)(R:List Aa):Prop:=cH ps/\okHs ps (d8 ps)/\dg 12 ns/\L.length<=40/\Lgs ps (d8 ps,ns) (A3 ns.length) ns.length L R
def uz:bu:=λws n Q=>∃(ps:Pg)(s t:Sd)(nu:List Nat)(fr m:Nat),ws=[.d (a8 ps),.d (cM s),.d (.list (aD nu)),.d (.int fr),.d (.int m)]/\okBd ps s t nu fr m/\Q (.d (.tuple [(aL ps s nu fr m).1,.list (aD (aL ps s nu fr m).2.1),.int (aL ps s nu fr m).2.2])) n
def vU:bu:=λws n Q=>∃(ps:Pg)(ns:List Nt)(L:List Nat)(R:List Aa),ws=[.d (.tuple [a8 ps,bK ns]),.d (.list (aD L))]/\kr ps ns L R/\Q (.d (.list R)) n
def iG:Aa->Bool
 |.str x=>decide (x="clock")
 |_=>aj
def d7(ps:Pg):Aa->Aa
 |.tuple (a::b::_)=>if iG a=ai then .int ps.length else b
 |_=>.none
open Classical in
def gq(x d:Aa):Bool:=decide (x=d)
open Classical in
theorem km(h:x=d):gq x d=ai:=by unfold gq;exact decide_eq_true h
open Classical in
theorem kx(h:x≠d):gq x d=aj:=by unfold gq;exact decide_eq_false h
def iC(ps:Pg):Sd->List Nat->Nat->List Aa->Bool
 |_,_,_,[]=>ai
 |s,nu,fr,d::r=>match gR ps s.1 s.2 (d7 ps d)with
  |none=>aj
  |some t=>gq (aL ps s nu fr (fq ps (d7 ps d))).1 d&&iC ps t (aL ps s nu fr (fq ps (d7 ps d))).2.1 (aL ps s nu fr (fq ps (d7 ps d))).2.2 r
def fK(ps:Pg)(ns:List Nt):Aa->Bool
 |.list rs=>iC ps (d8 ps,ns) (A3 ns.length) ns.length rs
 |_=>aj
def CA(k w:Nat)(d:Aa):Prop:=B4 d=ai/\B5 d<=k/\Es d<=w/\D3 13 d=ai/\Dx d=ai
def okY(d:Aa):Prop:=cg d=ai/\CA 6 20000 d
def okTh(d:Aa):Prop:=(cg d=ai/\CA 8 900000 d)/\∀rs,d=.list rs->rs.length<=40/\∀r∈rs,okY r
def ij(ps:Pg)(ns:List Nt):Prop:=cH ps/\okHs ps (d8 ps)/\dg 12 ns
def hV(d:Aa):Prop:=(∃(m k:Nat)(q:Nt),d=.tuple [.str "lays",.int m,.int k,bI q]/\m<=90/\k<=90/\kh q)\/(∃(h:Str)(m:Nat)(g:Option Nat),d=.tuple [.str h,.int m,fS g]/\(h="takes"\/h="reads"\/h="looks")/\m<=90/\∀i,g=ae i->i<=90) \/
 (∃m:Nat,d=.tuple [.str "goes",.int m]/\m<=90)\/∃l:List Nat,d=.tuple [.str "clock",.tuple (aD l)]/\l.length<=60/\∀i∈l,i<=90
mutual
def fR:Aa->Bool
 |.list _=>aj
 |.dict _=>aj
 |.tuple xs=>lL xs
 |_=>ai
def lL:List Aa->Bool
 |[]=>ai
 |x::xs=>fR x&&lL xs
end
def iU:Aa->Str
 |.none=>"none"
 |.bool _=>"truth"
 |.int _=>"number"
 |.str _=>"text"
 |.tuple _=>"tuple"
 |_=>"list"
def nA:bu:=λws n Q=>∃d,ws=[.d d]/\cg d=ai/\Q (.d (.str (iU d))) n
def ka:Nat->bu
 |0=>λ_ _ _=>False
 |k+1=>λws n Q=>∃x y,ws=[.d x,.d y]/\fR x=ai/\cg x=ai/\cg y=ai/\B5 x<=k/\B4 x=ai/\B4 y=ai/\B5 y<=20/\Q (.d (.bool (gq x y))) n
def yt:bu:=λws n Q=>∃ps d,ws=[.d (a8 ps),.d d]/\okY d/\Q (.d (d7 ps d)) n
def ql:bu:=λws n Q=>∃ps ns d,ws=[.d (.tuple [a8 ps,bK ns]),.d d]/\ij ps ns/\okTh d/\Q (.d (.bool (fK ps ns d))) n
def vV:bu:=λws n Q=>∃row,ws=[.tp,.d row]/\hV row/\n+3 < 2 ^ 39/\∀(d:Aa)(n':Int),okY d->n'<=n+3->Q (.d d) n'
def xG:bu:=λws n Q=>∃l m:List Aa,ws=[.tp,.d (.list l),.d (.list m)]/\l.length<=16/\m.length<=16/\(∀r∈l,hV r)/\(∀r∈m,hV r)/\n+5 < 2 ^ 39/\∀(d:Aa)(n':Int),okTh d->n'<=n+5->Q (.d d) n'
def t7:eU:=λws n Q=>∃(ps:Pg)(ns:List Nt)(L:List Nat)(R:List Aa)(v:Aa),ws=[.d (.tuple [a8 ps,bK ns]),.d v]/\(v=.tuple (aD L)\/v=.list (aD L))/\kr ps ns L R/\Q R n
def xa:bu:=λws n Q=>∃(ps:Pg)(s t:Sd)(L:List Nat)(v:Aa),ws=[.d (a8 ps),.d (cM s),.d v]/\(v=.tuple (aD L)\/v=.list (aD L))/\cH ps/\okHs ps s.1/\dg (100-L.length) s.2/\L.length<=40/\Wov ps s L t/\Q (.d (cM t)) n
def eB(ps:Pg):Sd->List Nat->Nat->List Aa->Sd×List Nat×Nat
 |s,nu,fr,[]=>(s,nu,fr)
 |s,nu,fr,d::r=>match gR ps s.1 s.2 (d7 ps d)with
  |none=>(s,nu,fr)
  |some t=>eB ps t (aL ps s nu fr (fq ps (d7 ps d))).2.1 (aL ps s nu fr (fq ps (d7 ps d))).2.2 r
def bC(nu:List Nat)(ns:List Nt):List (Int×Aa):=(nu.map λi:Nat=>(i:Int)).zip (ns.map bI)
def rA(ps:Pg)(ns:List Nt)(R:List Aa):List (Int×Aa):=bC (eB ps (d8 ps,ns) (A3 ns.length) ns.length R).2.1 (eB ps (d8 ps,ns) (A3 ns.length) ns.length R).1.2
def pB(ps:Pg)(ns:List Nt)(R:List Aa):Prop:=ij ps ns/\R.length<=40/\(∀r∈R,okY r)/\fK ps ns (.list R)=ai
def wz:bu:=λws n Q=>∃ps ns R,ws=[.d (.tuple [a8 ps,bK ns]),.d (.list R)]/\pB ps ns R/\Q (.ob (.k (de (rA ps ns R)))) n
def xQ:bu:=λws n Q=>∃ps ns R,ws=[.d (.tuple [a8 ps,bK ns]),.d (.list R)]/\pB ps ns R/\Q (.d (.bool ai)) n
abbrev AX:aP:=(av (aJ (cT (w2 ↥0 (wC .none) (bJ aj))) (az (wC (.str "none"))) aM) (av (aJ (cT (cb "bool" ↥0)) (az (wC (.str "truth"))) aM) (av (aJ (cT (cb "int" ↥0)) (az (wC (.str "number"))) aM) (av (aJ (cT (cb "str" ↥0)) (az (wC (.str "text"))) aM) (az (eu (cT (cb "tuple" ↥0)) (wC (.str "tuple")) (wC (.str "list"))))))))
abbrev EZ(Sf:bu):aP:=(av (aJ (cT (w2 (aH nA (aq ↥0 ao)) (aH nA (aq ↥1 ao)) eO)) (az (wC (.bool aj))) aM) (av (aJ (cQ (cT (xX ↥0))) (az (w2 ↥0 ↥1 (iV λd e=>ae (Bz d e)))) aM) (av (aJ (cT (w2 (wB bj (aq ↥0 ao)) (wB bj (aq ↥1 ao)) eO)) (az (wC (.bool aj))) aM) (az (wB ma (aq (aZ (cL [ah,ah] (jN ↥0 ↥1) (du 2 (br (aI 0) (br (aI 1) cv))) cG (aH Sf (aq ↥0 (aq ↥1 ao))))) ao))))))
abbrev Vp:aP:=(az (fY (cb "int" ↥0) (nZ (cb "bool" ↥0))))
abbrev EX:aP:=(av (aB 4 (w2 ↥0 ⇑0 aA)) (av (aJ (cT (w2 ↥4 (wC (.str "is")) aT)) (az (w2 (w2 ↥0 ⇑1 aA) ↥1 aT)) aM) (av (aJ (cT (w2 ↥4 (wC (.str "word")) aT)) (az (cb "str" ↥1)) aM) (av (aJ (cT (w2 ↥4 (wC (.str "number")) aT)) (az (cb "int" ↥1)) aM) (av (aJ (cT (w2 ↥4 (wC (.str "as")) aT)) (az (fY (w2 (w2 ↥0 ⇑1 aA) (cS 2) (fE aj)) (w2 (w2 (cS 2) (w2 ↥0 ⇑1 aA) gN) ↥1 aT))) aM) (av (aJ (cT (w2 ↥4 (wC (.str "bind")) aT)) (az (qV (w2 (w2 ↥0 ⇑1 aA) (cS 3) (fE ai)) (w2 (w2 (cS 3) (w2 ↥0 ⇑1 aA) gN) ↥1 aT))) aM) (az (wC (.bool ai)))))))))
abbrev wD:aP:=(av (aJ (cT (w2 (wB bj (aq ↥0 ao)) (wB bj (aq ↥1 ao)) eO)) (az (wC .none)) aM) (av (iN 3 (i8 ↥2)) (av (iN 4 jg) (av (aW (jN ↥0 ↥1) (du 2 (br (aI 5) (br (aI 6) cv))) (av (aJ (cQ (cT (aH jO (aq ↥5 (aq ↥6 (aq (cS 3) (aq (cS 4) ao))))))) (az (wC .none)) aM) (aJ (cT (w2 (w2 ↥5 ⇑0 aA) (wC (.str "bind")) aT)) (av (nz 4 (w2 ↥5 ⇑1 aA) ↥6) (nz 3 (w2 ↥5 ⇑1 aA) ↥6)) aM))) (az (wB dY (aq (aZ (qd (cS 3))) ao)))))))
abbrev zT:aP:=(av (aJ (cT (cb "str" ↥0)) (az ↥0) aM) (az (eu (cT (w2 ↥0 ⇑99 aT)) ⇑0 (w2 ↥0 ⇑1 (bY λi j=>.int (i+j))))))
abbrev Hf:aP:=(av (aJ (cT (w2 (w2 ↥0 ⇑0 aA) (wC (.str "is")) aT)) (az (w2 ↥0 ⇑1 aA)) aM) (av (aB 2 (w2 (cS 1) (w2 ↥0 ⇑1 aA) gN)) (az (eu (cT (w2 (w2 ↥0 ⇑0 aA) (wC (.str "next")) aT)) (aH xE (aq ↥2 ao)) ↥2))))
abbrev yG:aP:=(av (iN 2 (i8 ↥1)) (az (wB dY (aq (aZ (cL [ah,ae 2] (eQ ↥0) (aI 0) cG (aH o7 (aq ↥0 (aq (cS 1) ao))))) ao))))
abbrev CG:aP:=(az (aw (aq (wB dY (aq (aZ (cL [ah] (eQ (w2 ↥0 ⇑0 aA)) (aI 0) cG (aw (aq ⇑0 (aq ⇑0 (aq (aw ao) ao)))))) ao)) (aq (wB dY (aq (w2 ↥0 ⇑1 aA) ao)) ao))))
abbrev BQ:aP:=(az (fY (aH vt (aq ↥0 ao)) (ph j3 j3 ⇑0 ↥0 ↥1)))
abbrev Hv:aP:=(av (aB 3 (w2 (w2 (w2 ↥1 ⇑0 aA) ↥2 aA) ⇑0 aA)) (av (aB 4 (w2 (w2 (w2 ↥1 ⇑0 aA) ↥2 aA) ⇑1 aA)) (av (aB 5 (w2 (w2 (w2 ↥0 ↥2 aA) ↥3 aA) ⇑1 aA)) (az (eu (cT (w2 ↥4 (wB bj (aq ↥5 ao)) gM)) (w2 ↥5 ↥4 aA) (wC .none))))))
abbrev Ze:List Str:=["take","read","look"]
abbrev Jk:aP:=(av (aB 3 (aH iH (aq ↥0 (aq ↥1 (aq ↥2 ao))))) (av (aJ (hU (cT (w2 ↥3 (wC .none) (bJ aj))) (cT (p6 Ze (w2 ↥3 ⇑0 aA)))) (az (wC .none)) aM) (av (aB 4 (w2 (w2 (w2 ↥1 ⇑0 aA) ↥2 aA) ⇑2 aA)) (av (qQ 5) (av (aW (md (w2 ↥1 ⇑1 aA)) (du 2 (br (aI 6) (br (aI 7) cv))) (aJ (cT (qI 5 (w2 ↥7 ⇑0 aA))) (av (aJ (cT (w2 (aH qA (aq (w2 ↥3 ⇑1 aA) (aq (w2 ↥7 ⇑0 aA) (aq ↥4 ao)))) (wC .none) (bJ ai))) (az ↥6) aM) (HP 5 (w2 ↥7 ⇑0 aA) (wC (.bool ai)))) aM)) (az (wC .none)))))))
abbrev DZ:aP:=(az (aw (aq (w2 ↥0 ⇑0 aA) (aq (w2 (w2 ↥0 ⇑1 aA) ⇑1 (bY λi j=>.int (i+j))) (aq ↥1 ao)))))
abbrev zg:aP:=(av (aB 3 (w2 (w2 ↥0 ↥1 aA) ⇑0 aA)) (az (aw (aq ↥1 (aq ⇑0 (aq (wB dY (aq (aZ (cL [ah,ae 3] (eQ ↥2) (aI 0) (cT (w2 (w2 ↥0 ⇑0 aA) ↥1 (fO aj))) ↥0)) ao)) ao))))))
abbrev GZ:aP:=(az (w2 (w2 (cC ↥0 cm (cf ↥1)) (aw (aq ↥2 ao)) cY) (cC ↥0 (cf (w2 ↥1 ⇑1 (bY λi j=>.int (i+j)))) cm) cY))
abbrev wm:aP:=(av (aB 4 (w2 (w2 ↥1 ⇑0 aA) ↥2 aA)) (av (aB 5 (w2 ↥1 ⇑1 aA)) (av (aB 6 (aH mQ (aq ↥0 (aq ↥1 (aq ↥2 ao))))) (av (aJ (cT (w2 ↥6 (wC .none) (bJ aj))) (av (aJ (cT (w2 (w2 ↥3 ⇑0 aA) (wC (.str "look")) eO)) (az (wC .none)) aM) (az (aw (aq (aH jT (aq (w2 ↥1 ⇑0 aA) (aq ↥2 (aq (aH oN (aq (w2 ↥0 ↥2 aA) (aq (w2 ↥3 ⇑2 aA) (aq (w2 ↥4 ⇑2 aA) ao)))) ao)))) (aq ↥5 ao))))) aM) (av (aB 7 (aH qA (aq (w2 ↥3 ⇑1 aA) (aq (w2 (w2 ↥5 ↥6 aA) ⇑0 aA) (aq (w2 ↥4 ⇑2 aA) ao))))) (av (aJ (cT (w2 (w2 ↥3 ⇑0 aA) (wC (.str "take")) aT)) (aB 5 (w2 (cC ↥5 cm (cf ↥6)) (cC ↥5 (cf (w2 ↥6 ⇑1 (bY λi j=>.int (i+j)))) cm) cY)) aM) (az (aw (aq (aH jT (aq (w2 ↥1 ⇑0 aA) (aq ↥2 (aq (aH nF (aq ↥4 (aq ↥7 ao))) ao)))) (aq ↥5 ao))))))))))
abbrev yY:aP:=(av (iN 2 (i8 ↥1)) (az (w2 (aH o7 (aq (w2 ↥0 ⇑1 aA) (aq (cS 2) ao))) (aH o7 (aq (w2 ↥0 ⇑2 aA) (aq (cS 2) ao))) aT)))
abbrev zv:aP:=(av (aB 3 (aH iH (aq ↥0 (aq ↥1 (aq ↥2 ao))))) (av (aJ (cT (w2 ↥3 (wC .none) (bJ aj))) (az (wC .none)) aM) (av (aJ (cT (ju Ze (w2 ↥3 ⇑0 aA))) (az (aH oM (aq ↥0 (aq ↥1 (aq ↥2 (aq ↥3 ao)))))) aM) (av (aB 4 (w2 (w2 ↥1 ⇑0 aA) ↥2 aA)) (av (aB 5 (w2 ↥1 ⇑1 aA)) (av (aB 6 (w2 ↥4 ⇑2 aA)) (av (aJ (cT (w2 (w2 ↥3 ⇑0 aA) (wC (.str "lay")) aT)) (av (aB 5 (w2 ↥5 (aw (aq (aw (aq (aH ug (aq (w2 ↥3 ⇑1 aA) (aq ↥6 ao))) (aq (w2 ↥3 ⇑2 aA) ao))) ao)) cY)) (aB 4 (aH nF (aq ↥4 (aq ↥6 ao))))) (aJ (dJ (cT (w2 (w2 ↥3 ⇑0 aA) (wC (.str "same")) aT)) (cT (aH xr (aq ↥3 (aq ↥6 ao))))) (aB 4 (aH nF (aq ↥4 (aq ↥6 ao)))) (aB 4 (aH oN (aq (w2 ↥0 ↥2 aA) (aq (w2 ↥3 (cx ⇑1) aA) (aq ↥6 ao))))))) (az (aw (aq (aH jT (aq (w2 ↥1 ⇑0 aA) (aq ↥2 (aq ↥4 ao)))) (aq ↥5 ao)))))))))))
abbrev yF:aP:=(az (eu (cT (w2 (w2 ↥0 ⇑1 aA) (wC .none) (bJ aj))) ↥0 (aw (aq (w2 ↥0 ⇑0 aA) (aq (w2 (w2 ↥0 ⇑1 aA) ⇑1 (bY λi j=>.int (i-j))) ao)))))
abbrev IT:aP:=(az (aw (aq (w2 ↥0 ⇑0 aA) (aq (wB dY (aq (aZ (cL [ah] (eQ (w2 ↥0 ⇑1 aA)) (aI 0) (cT (w2 (w2 ↥0 ⇑1 aA) ⇑1 eO)) (aH vI (aq ↥0 ao)))) ao)) ao))))
abbrev Ip:aP:=(av (aB 3 (wB bj (aq ↥0 ao))) (av (aJ (cQ (cT (aH uJ (aq ↥2 (aq ↥3 ao))))) (az (wC .none)) aM) (az (eu (cT (w2 ↥2 ↥3 aT)) (aH wA (aq ↥1 ao)) (aH t5 (aq ↥0 (aq ↥1 (aq ↥2 ao))))))))
abbrev IH:aP:=(av (aB 1 (wB bj (aq (w2 ↥0 ⇑1 aA) ao))) (az (aw (aq (aH rR (aq ↥0 ao)) (aq (yn ↥1) (aq ↥1 ao))))))
abbrev yE:aP:=(av (aB 1 (aZ (cL [ah,ah] (jN (w2 (w2 ↥0 ⇑0 aA) ⇑1 aA) (w2 ↥0 ⇑1 aA)) (du 2 (br (aI 0) (br (aI 1) cv))) (cT (w2 (w2 ↥0 ⇑1 aA) ⇑1 aT)) ↥1))) (az (aw (aq (wC (.str "clock")) (aq (wB dY (aq ↥1 ao)) ao)))))
abbrev IS:aP:=(av (aB 4 (aH iH (aq ↥0 (aq (w2 ↥1 ⇑0 aA) (aq ↥2 ao))))) (av (aJ (cT (w2 (w2 ↥4 ⇑0 aA) (wC (.str "lay")) aT)) (az (aw (aq (wC (.str "lays")) (aq ↥2 (aq (w2 ↥1 ⇑2 aA) (aq (w2 (w2 ↥3 ⇑1 aA) (cx ⇑1) aA) ao)))))) aM) (av (aJ (cT (qh [("take","takes"),("read","reads"),("look","looks")] (w2 ↥4 ⇑0 aA))) (az (aw (aq (wC (.str "goes")) (aq ↥2 ao)))) aM) (av (aB 5 (aH mQ (aq ↥0 (aq (w2 ↥1 ⇑0 aA) (aq ↥2 ao))))) (az (aw (aq (i6 [("take","takes"),("read","reads"),("look","looks")] (w2 ↥4 ⇑0 aA)) (aq ↥2 (aq (eu (cT (w2 ↥5 (wC .none) (bJ aj))) (wC .none) (w2 (w2 ↥1 ⇑1 aA) ↥5 aA)) ao)))))))))
abbrev AS:aP:=(av (aJ (cT (w2 ↥2 (wB bj (aq ↥0 ao)) aT)) (az (aH xg (aq ↥1 ao))) aM) (az (aH uU (aq ↥0 (aq ↥1 (aq ↥2 (aq ↥3 ao)))))))
abbrev G8:aP:=(av (aJ (cT (w2 (w2 ↥0 ⇑0 aA) (wC (.str "clock")) aT)) (az (w2 ↥0 ⇑1 aA)) aM) (az (eu (cT (w2 (w2 ↥0 ⇑0 aA) (wC (.str "takes")) aT)) (aw (aq (w2 ↥0 ⇑2 aA) ao)) (aw ao))))
abbrev qW:aP:=(av (aB 3 (aH xM (aq ↥1 ao))) (av (aB 4 (wB dY (aq (aZ (cL [ah,ae 3] (eQ (w2 ↥0 ⇑1 aA)) (aI 0) (cT (w2 ↥0 ↥1 (fO ai))) ↥0)) ao))) (av (aJ (cT (w2 (w2 ↥1 ⇑0 aA) (wC (.str "lays")) aT)) (az (aw (aq ↥2 (aq (w2 ↥4 (aw (aq (w2 ↥1 ⇑2 aA) ao)) cY) (aq (w2 (w2 ↥0 ⇑2 aA) ⇑1 (bY λi j=>.int (i+j))) ao))))) aM) (az (aw (aq ↥2 (aq ↥4 (aq (w2 ↥0 ⇑2 aA) ao))))))))
abbrev ET:aP:=(av (aB 3 (aH pL (aq ↥0 (aq (w2 ↥1 ⇑0 aA) (aq ↥2 ao))))) (av (aJ (cT (w2 ↥3 (wC .none) (bJ aj))) (az (wC .none)) aM) (av (aB 4 (aH vh (aq ↥0 (aq ↥1 (aq ↥2 (aq ↥3 ao)))))) (az (aw (aq ↥4 (aq (aH vy (aq ↥1 (aq ↥4 (aq ↥3 ao)))) ao)))))))
abbrev GX:aP:=(av (aB 2 (aH sO (aq ↥0 ao))) (av (bz 3 (aN ao)) (av (aW (md ↥1) (du 2 (br (aI 4) (br (aI 5) cv))) (av (aB 6 (aH qv (aq (w2 ↥0 ⇑0 aA) (aq ↥2 (aq ↥5 ao))))) (av (aJ (cT (w2 ↥6 (wC .none) (bJ aj))) xq aM) (av (bq 3 (w2 ↥6 ⇑0 aA)) (aB 2 (w2 ↥6 ⇑1 aA)))))) (uw 3))))
abbrev Hh:aP:=(av (aJ (hU (cQ (cT (cb "tuple" ↥1))) (cT (w2 (wB bj (aq ↥1 ao)) ⇑2 gM))) (az (wC .none)) aM) (az (eu (cT (w2 (w2 ↥1 ⇑0 aA) (wC (.str "clock")) (iV λd e=>ae (Bz d e)))) (wB bj (aq ↥0 ao)) (w2 ↥1 ⇑1 aA))))
abbrev HQ:aP:=(av (aJ (cQ (cT (cb "list" ↥1))) (az (wC (.bool aj))) aM) (av (aB 2 (aH sO (aq ↥0 ao))) (av (aW (d5 ↥1) (aI 3) (av (aB 4 (aH qv (aq (w2 ↥0 ⇑0 aA) (aq ↥2 (aq (aH yt (aq (w2 ↥0 ⇑0 aA) (aq ↥3 ao))) ao))))) (av (aJ (hU (cT (w2 ↥4 (wC .none) (bJ aj))) (cQ (cT (aH (ka 6) (aq (w2 ↥4 ⇑0 aA) (aq ↥3 ao)))))) (az (wC (.bool aj))) aM) (aB 2 (w2 ↥4 ⇑1 aA))))) (az (wC (.bool ai))))))
abbrev Ja:aP:=(av (aW (md ↥2) (du 2 (br (aI 3) (br (aI 4) cv))) (av (aB 1 (aH pL (aq ↥0 (aq ↥1 (aq ↥4 ao))))) (aJ (cT (w2 ↥1 (wC .none) (bJ aj))) xq aM))) (az ↥1))
abbrev Ji:aP:=(az (w2 (aZ (aN (aq (wC (.str "a")) (aq ⇑0 (aq (wC (.str "a")) (aq ⇑1 (aq (wC (.str "ab")) (aq (wC (.str "go")) (aq ⇑99 (aq ⇑0 ao)))))))))) (aH cy (aq ↥0 (aq ⇑8 ao))) aA))
abbrev BX:aP:=(az (w2 (aZ (aN (aq ⇑1 (aq ⇑2 (aq ⇑2 (aq ⇑2 (aq ⇑1 (aq ⇑3 (aq ⇑4 ao))))))))) (aH cy (aq ↥0 (aq ⇑7 ao))) aA))
abbrev FJ:aP:=(az (w2 (gp 0) (aH cy (aq ↥0 (aq (wB gf (aq (gp 0) ao)) ao))) aX))
abbrev Jm:aP:=(av (bz 2 (aN ao)) (av (bz 3 (aN ao)) (av (aW (dv (aH mG (aq ↥0 ao))) (aI 4) (av (aB 5 (aH cy (aq ↥0 (aq ⇑9 ao)))) (av (aB 6 (w2 ↥1 (dM 3) dP)) (aJ (cT (w2 ↥5 ⇑3 gM)) (bq 2 (aw (aq (wC (.str "is")) (aq (aH lD (aq ↥0 ao)) ao)))) (aJ (cT (w2 ↥5 ⇑6 gM)) (bq 2 (w2 (aZ (aN (aq (aw (aq (wC (.str "any")) ao)) (aq (aw (aq (wC (.str "word")) ao)) (aq (aw (aq (wC (.str "number")) ao)) ao))))) (w2 ↥5 ⇑3 (bY λi j=>.int (i-j))) aX)) (aJ (hU (cT (w2 ↥5 ⇑8 gM)) (cT (w2 ↥6 (aZ (aN ao)) cn))) (av (aB 7 (w2 (aZ (aN (aq (wC (.str "n")) (aq (wC (.str "nm")) (aq (wC (.str "go")) (aq (wC (.str "m")) ao)))))) (aH cy (aq ↥0 (aq ⇑4 ao))) aX)) (av (bq 3 ↥7) (bq 2 (aw (aq (wC (.str "bind")) (aq ↥7 ao)))))) (bq 2 (aw (aq (wC (.str "as")) (aq (w2 ↥6 (aH cy (aq ↥0 (aq (wB gf (aq ↥6 ao)) ao))) aX) ao)))))))))) (bH 2 (bH 3 (az (aw (aq (wB iB (aq ↥2 ao)) (aq ↥3 ao)))))))))
abbrev IQ:aP:=(av (bz 2 (aN ao)) (av (aW (dv (aH mG (aq ↥0 ao))) (aI 3) (av (aB 4 (aH cy (aq ↥0 (aq ⇑6 ao)))) (aJ (hU (cT (w2 ↥4 ⇑3 gM)) (cT (w2 ↥1 (aZ (aN ao)) cn))) (bq 2 (aw (aq (wC (.str "is")) (aq (aH lD (aq ↥0 ao)) ao)))) (bq 2 (aw (aq (w2 (aZ (aN (aq (wC (.str "as")) (aq (wC (.str "as")) (aq (wC (.str "next")) ao))))) (w2 ↥4 ⇑3 (bY λi j=>.int (i-j))) aX) (aq (w2 ↥1 (aH cy (aq ↥0 (aq (wB gf (aq ↥1 ao)) ao))) aX) ao))))))) (bH 2 (az (wB iB (aq ↥2 ao))))))
abbrev IX:aP:=(av (aJ (hU (cT (w2 ↥1 (aZ (aN ao)) cn)) (cT (w2 (aH cy (aq ↥0 (aq ⇑2 ao))) ⇑0 cn))) (az (aw (aq (wC (.str "is")) (aq (aH lD (aq ↥0 ao)) ao)))) aM) (az (aw (aq (wC (.str "as")) (aq (w2 ↥1 (aH cy (aq ↥0 (aq (wB gf (aq ↥1 ao)) ao))) aX) ao)))))
abbrev FZ:aP:=(av (aB 3 (aH cy (aq ↥0 (aq ⇑12 ao)))) (av (aJ (cT (w2 ↥3 ⇑4 gM)) (az (aw (aq (aw (aq (wC (.str "lay")) (aq (aH ya (aq ↥0 (aq ↥1 ao))) (aq (aH pq (aq ↥0 ao)) ao)))) (aq (aZ (aN ao)) ao)))) aM) (av (aB 4 (w2 ↥2 (aH cy (aq ↥0 (aq (wB gf (aq ↥2 ao)) ao))) aX)) (av (aJ (cT (w2 ↥3 ⇑10 cn)) (az (aw (aq (aw (aq (wC (.str "same")) (aq (aH rM (aq ↥0 (aq ↥1 ao))) (aq (aH rM (aq ↥0 (aq ↥1 ao))) (aq ↥4 ao))))) (aq (aZ (aN ao)) ao)))) aM) (av (aJ (cT (w2 ↥3 ⇑11 cn)) (az (aw (aq (aw (aq (wC (.str "go")) (aq ↥4 ao))) (aq (aZ (aN ao)) ao)))) aM) (av (cP (aH wV (aq ↥0 (aq ↥1 ao))) (du 2 (br (aI 5) (br (aI 6) cv)))) (av (aJ (cT (w2 ↥3 ⇑7 lM)) (az (aw (aq (aw (aq (wC (.str "look")) (aq ↥5 (aq ↥4 ao)))) (aq ↥6 ao)))) aM) (az (aw (aq (aw (aq (w2 (aZ (aN (aq (wC (.str "take")) (aq (wC (.str "take")) (aq (wC (.str "take")) (aq (wC (.str "read")) ao)))))) (w2 ↥3 ⇑4 (bY λi j=>.int (i-j))) aX) (aq ↥5 ao))) (aq ↥6 ao)))))))))))
abbrev BD:aP:=(av (bz 1 (aN (aq (aw ao) ao))) (av (aW (dv (w2 (aZ (aN (aq ⇑0 (aq ⇑1 (aq ⇑2 (aq ⇑1 (aq ⇑0 (aq ⇑2 (aq ⇑5 ao))))))))) (aH cy (aq ↥0 (aq ⇑7 ao))) aX)) (aI 2) (bq 1 (w2 (aZ (aN (aq (aw ao) (aq (aw (aq (wC (.str "n")) ao)) (aq (aw (aq (wC (.str "go")) (aq (wC (.str "n")) ao))) (aq (aw (aq (wC (.str "nm")) ao)) (aq (aw ao) ao))))))) (aH cy (aq ↥0 (aq ⇑5 ao))) aX))) (av (bz 3 (aN ao)) (bH 1 (av (aW (d5 ↥1) (aI 4) (av (bz 5 (jt ↥4)) (av (bz 6 (aN ao)) (av (aW (dv (w2 (aZ (aN (aq ⇑2 (aq ⇑3 (aq ⇑1 (aq ⇑4 (aq ⇑2 (aq ⇑0 (aq ⇑3 (aq ⇑8 ao)))))))))) (aH cy (aq ↥0 (aq ⇑8 ao))) aX)) (aI 2) (av (aB 8 (aZ (cL [ah,ae 5,ae 1] (dv (wB gf (aq ↥1 ao))) (aI 0) (cT (w2 (aZ (cL [ah,ae 1] (eQ (w2 ↥2 ↥0 aX)) (aI 0) (cT (w2 ↥0 ↥1 (fB ai))) ↥0)) (aZ (aN ao)) cn)) ↥0))) (av (cP (aH px (aq ↥0 (aq (dM 5) (aq ↥8 ao)))) (du 2 (br (aI 9) (br (aI 10) cv)))) (av (bq 6 ↥9) (aW (d5 ↥10) (aI 7) (aJ (cT (w2 ↥7 (dM 5) (fB ai))) (bq 5 ↥7) aM)))))) (bH 6 (bq 3 (aw (aq ↥4 (aq (wB iB (aq ↥6 ao)) ao))))))))) (bH 3 (az (wB iB (aq ↥3 ao)))))))))
abbrev DK:aP:=(av (bz 2 (aN ao)) (av (aW (dv (aH cy (aq ↥0 (aq (w2 ↥1 ⇑1 (bY λi j=>.int (i+j))) ao)))) (aI 3) (av (aB 4 (wB iB (aq (aZ (cL [ah,ae 0] (dv (aH mG (aq ↥0 ao))) (aI 0) cG (aH lD (aq ↥1 ao)))) ao))) (bq 2 (aw (aq ↥4 (aq (aH pq (aq ↥0 ao)) ao)))))) (bH 2 (az (wB iB (aq ↥2 ao))))))
abbrev Jo:aP:=(av (bz 1 (cL [ah,ae 0] (dv (w2 (aZ (aN (aq ⇑2 (aq ⇑1 (aq ⇑2 (aq ⇑3 (aq ⇑2 (aq ⇑1 (aq ⇑0 (aq ⇑5 ao)))))))))) (aH cy (aq ↥0 (aq ⇑8 ao))) aX)) (aI 0) cG (aH ue (aq ↥1 ao)))) (av (aJ (dJ (cT (w2 (wB gf (aq (dM 1) ao)) ⇑2 cn)) (cT (w2 (aH cy (aq ↥0 (aq ⇑4 ao))) ⇑0 cn))) (fP 1 ⇑1 (w2 (dM 1) ⇑0 aX)) aM) (bH 1 (az (aw (aq (wB iB (aq ↥1 ao)) (aq (aH tH (aq ↥0 (aq (w2 (aZ (aN (aq ⇑4 (aq ⇑3 (aq ⇑6 (aq ⇑12 ao)))))) (aH cy (aq ↥0 (aq ⇑4 ao))) aX) ao))) ao)))))))
abbrev vA:aP:=(av (aJ (cT (w2 (wB bj (aq ↥0 ao)) (wB bj (aq ↥1 ao)) eO)) (az (wC .none)) aM) (av (iN 3 (i8 ↥2)) (av (bz 4 (aN ao)) (av (aW (jN ↥0 ↥1) (du 2 (br (aI 5) (br (aI 6) cv))) (av (aB 7 (w2 ↥5 ⇑0 aA)) (av (aB 8 (wC (.bool ai))) (av (aJ (cT (w2 ↥7 (wC (.str "is")) aT)) (aB 8 (w2 (w2 ↥5 ⇑1 aA) ↥6 aT)) (aJ (cT (w2 ↥7 (aw (aq (wC (.str "word")) (aq (wC (.str "number")) ao))) (fO aj))) (aB 8 (w2 (cb "str" ↥6) (w2 ↥7 (wC (.str "word")) aT) aT)) (aJ (hU (cT (w2 ↥7 (wC (.str "as")) aT)) (dJ (cT (w2 ↥7 (wC (.str "bind")) aT)) (cT (nh 4 (w2 ↥5 ⇑1 aA))))) (aB 8 (fY (w2 (w2 ↥5 ⇑1 aA) (cS 3) (fE aj)) (w2 (w2 (cS 3) (w2 ↥5 ⇑1 aA) gN) ↥6 aT))) (aJ (cT (w2 ↥7 (wC (.str "bind")) aT)) (av (nz 3 (w2 ↥5 ⇑1 aA) ↥6) (bq 4 (w2 ↥5 ⇑1 aA))) aM)))) (aJ (cQ (cT ↥8)) (az (wC .none)) aM))))) (bH 3 (az ↥3))))))
abbrev HA:aP:=(av (cP (w2 (w2 ↥1 ⇑0 aA) ↥2 aA) (du 3 (br (aI 3) (br (aI 4) (br (aI 5) cv))))) (av (aB 6 (w2 (w2 (w2 ↥0 ↥2 aA) ↥3 aA) ⇑1 aA)) (az (eu (cT (w2 ↥4 (wB bj (aq ↥6 ao)) gM)) (w2 ↥6 ↥4 aA) (wC .none)))))
abbrev zW:aP:=(av (aB 3 (aH iH (aq ↥0 (aq ↥1 (aq ↥2 ao))))) (av (aJ (hU (cT (w2 ↥3 (wC .none) (dO aj))) (cT (w2 (w2 ↥3 ⇑0 aA) (aw (aq (wC (.str "take")) (aq (wC (.str "read")) (aq (wC (.str "look")) ao)))) (fO ai)))) (az (wC .none)) aM) (av (aW (dv (wB bj (aq (w2 ↥1 ⇑1 aA) ao))) (aI 4) (av (aB 5 (aH uy (aq (w2 ↥3 ⇑1 aA) (aq (w2 (w2 (w2 ↥1 ⇑1 aA) ↥4 aA) ⇑0 aA) (aq (w2 (w2 (w2 ↥1 ⇑0 aA) ↥2 aA) ⇑2 aA) ao))))) (aJ (cT (w2 ↥5 (wC .none) (dO ai))) (az (yj ↥4 ↥5)) aM))) (az (wC .none)))))
abbrev GH:aP:=(av (aB 3 (aH iH (aq ↥0 (aq ↥1 (aq ↥2 ao))))) (av (aJ (cT (w2 ↥3 (wC .none) (dO aj))) (az (wC (.bool aj))) aM) (az (qV (w2 (w2 ↥3 ⇑0 aA) (aw (aq (wC (.str "take")) (aq (wC (.str "read")) ao))) (fO ai)) (w2 (aH nL (aq ↥0 (aq ↥1 (aq ↥2 ao)))) (wC .none) (dO ai))))))
abbrev FK:aP:=(av (bz 2 (aN ao)) (av (aW (eQ ↥0) (du 2 (br (aI 3) (br (aI 4) cv))) (av (aB 5 (eu (cT (w2 ↥3 (wC (.str "is")) aT)) ↥4 (w2 (cS 1) ↥4 gN))) (av (aJ (dJ (cT (w2 ↥3 (wC (.str "next")) aT)) (cQ (cT (cb "str" ↥5)))) (aB 5 (w2 (w2 ↥5 ⇑1 (bY λi j=>.int (i+j))) ⇑100 (gI (λ_ j=>0 < j) λi j=>.int (i % j)))) aM) (bq 2 ↥5)))) (bH 2 (az (wB dY (aq ↥2 ao))))))
abbrev zi:aP:=(av (iN 3 (i8 ↥1)) (az (aw (aq ↥2 (aq ⇑0 (aq (wB dY (aq (aZ (cL [ah,ae 3] (eQ (w2 (w2 ↥0 ↥2 aA) ⇑0 aA)) (aI 0) cG (aw (aq ↥0 (aq (w2 (cS 1) ↥0 gN) ao))))) ao)) ao))))))
abbrev CF:aP:=(az (eu (cT (w2 (w2 ↥0 ⇑0 aA) (wC (.str "is")) aT)) (w2 ↥0 ⇑1 aA) (w2 (lE ↥1) (w2 ↥0 ⇑1 aA) gN)))
abbrev AK:aP:=(av (cP ↥1 (du 2 (br (aI 3) (br (aI 4) cv)))) (av (aJ (cT (w2 ↥2 (wB bj (aq ↥0 ao)) aT)) (az (aw (aq ↥3 (aq (wB dY (aq (aZ (cL [ah,ah] (eQ ↥4) (du 2 (br (aI 0) (br (aI 1) cv))) (cT (w2 ↥1 ⇑1 eO)) (aw (aq ↥0 (aq (eu (cT (w2 ↥1 (wC .none) (dO aj))) (wC .none) (w2 ↥1 ⇑1 (bY λi j=>.int (i-j)))) ao))))) ao)) ao)))) aM) (av (aB 5 (aH iH (aq ↥0 (aq ↥1 (aq ↥2 ao))))) (av (cP (w2 ↥3 ↥2 aO) (du 3 (br (aI 6) (br (aI 7) (br (aI 8) cv))))) (av (aB 9 (aH nL (aq ↥0 (aq ↥1 (aq ↥2 ao))))) (av (aB 10 (aw (aq ↥6 (aq (w2 ↥7 ⇑1 (bY λi j=>.int (i+j))) (aq ↥8 ao))))) (av (aJ (cT (w2 (w2 ↥5 ⇑0 aO) (wC (.str "lay")) aT)) (aB 4 (w2 ↥4 (aw (aq (aw (aq (aH qr (aq (w2 ↥5 ⇑1 aO) (aq (lE ↥8) ao))) (aq (w2 ↥5 ⇑2 aO) ao))) ao)) cY)) (aJ (cT (w2 (w2 ↥5 ⇑0 aO) (wC (.str "go")) aT)) (aB 10 (aH lZ (aq (w2 ↥0 ↥2 aO) (aq ↥8 (aq (w2 ↥5 ⇑1 aO) ao))))) (aJ (cT (w2 (w2 ↥5 ⇑0 aO) (wC (.str "same")) aT)) (aJ (cT (w2 (aH sC (aq (w2 ↥5 ⇑1 aO) (aq ↥8 ao))) (aH sC (aq (w2 ↥5 ⇑2 aO) (aq ↥8 ao))) eO)) (aB 10 (aH lZ (aq (w2 ↥0 ↥2 aO) (aq ↥8 (aq (w2 ↥5 ⇑3 aO) ao))))) aM) (aJ (cT (w2 ↥9 (wC .none) (dO aj))) (aB 10 (aH lZ (aq (w2 ↥0 ↥2 aO) (aq ↥8 (aq (w2 ↥5 ⇑2 aO) ao))))) (av (aB 10 (aw (aq ↥6 (aq (w2 ↥7 ⇑1 (bY λi j=>.int (i+j))) (aq (wB dY (aq (aZ (qd (w2 ↥9 ⇑1 aO))) ao)) ao))))) (aJ (cT (w2 (w2 ↥5 ⇑0 aO) (wC (.str "take")) aT)) (aB 4 (w2 (cC ↥4 cm (cf (w2 ↥9 ⇑0 aO))) (cC ↥4 (cf (w2 (w2 ↥9 ⇑0 aO) ⇑1 (bY λi j=>.int (i+j)))) cm) cY)) aM)))))) (az (aw (aq (w2 (w2 (cC ↥3 cm (cf ↥2)) (aw (aq ↥10 ao)) cY) (cC ↥3 (cf (w2 ↥2 ⇑1 (bY λi j=>.int (i+j)))) cm) cY) (aq ↥4 ao)))))))))))
abbrev BH:aP:=(rD (ia (aZ (cL [ah,ae 0,ae 1] (dv (wB bj (aq ↥0 ao))) (aI 0) (cT (aH sS (aq ↥1 (aq ↥2 (aq ↥0 ao))))) ↥0)) (aZ (aN (aq (wB bj (aq ↥0 ao)) ao)))))
abbrev HG:aP:=(av (bz 4 (aN ao)) (av (bz 5 (aN (aq ↥2 ao))) (av (aW (dv (aH cy (aq ↥0 (aq (w2 ↥3 ⇑1 (bY λi j=>.int (i+j))) ao)))) (aI 6) (av (aB 7 (aZ (my wI (aq ↥1 (aq (w2 (dM 5) (cx ⇑1) aX) ao))))) (av (aJ (dJ (cT (w2 (wB gf (aq ↥7 ao)) ⇑1 lM)) (cT (w2 (aH cy (aq ↥0 (aq ⇑5 ao))) ⇑0 lM))) (aB 7 (vN ↥7 cm (cf (cx ⇑1)))) aM) (av (bq 4 (w2 ↥7 (aH cy (aq ↥0 (aq (wB gf (aq ↥7 ao)) ao))) aX)) (bq 5 (aH qm (aq ↥1 (aq (w2 (dM 5) (cx ⇑1) aX) (aq (w2 (dM 4) (cx ⇑1) aX) ao))))))))) (bH 5 (bH 4 (az (aw (aq ↥4 (aq ↥5 ao)))))))))
abbrev HD:aP:=(az (aw (aq (wB dY (aq (aZ (cL [ah] (eQ (w2 ↥0 ⇑0 aA)) (aI 0) cG (aw (aq ⇑0 (aq ⇑0 (aq (aw ao) ao)))))) ao)) (aq (w2 ↥0 ⇑1 aA) ao))))
abbrev Hr:aP:=(av (aJ (cT (w2 ↥4 (wB bj (aq ↥0 ao)) aT)) (av (aB 5 (aZ (cL [ah,ae 2,ae 1] (dv (wB bj (aq ↥2 ao))) (aI 0) (cT (w2 (w2 (w2 (w2 ↥2 ⇑1 aO) ↥0 aO) ⇑1 aO) ⇑1 aT)) (w2 ↥1 ↥0 aO)))) (az (aw (aq (aw (aq (wC (.str "clock")) (aq (wB dY (aq ↥5 ao)) ao))) (aq (aZ (cL [ah,ae 5] (d5 ↥2) (aI 0) (cT (w2 ↥0 ↥1 (fO ai))) ↥0)) (aq ↥3 ao)))))) aM) (av (aB 7 (aH iH (aq ↥0 (aq ↥1 (aq ↥4 ao))))) (av (aJ (cT (w2 (w2 ↥7 ⇑0 aO) (wC (.str "lay")) aT)) (av (aB 8 (aw (aq (aH qr (aq (w2 ↥7 ⇑1 aO) (aq (lE (w2 (w2 (w2 ↥1 ⇑0 aO) ↥4 aO) ⇑2 aO)) ao))) (aq (w2 ↥7 ⇑2 aO) ao)))) (az (aw (aq (aw (aq (wC (.str "lays")) (aq ↥4 (aq ↥3 (aq ↥8 ao))))) (aq (w2 ↥2 (aZ (aN (aq ↥3 ao))) dP) (aq (w2 ↥3 ⇑1 (bY λi j=>.int (i+j))) ao)))))) aM) (av (aJ (cT (w2 (w2 ↥7 ⇑0 aO) (aw (aq (wC (.str "same")) (aq (wC (.str "go")) ao))) (fO aj))) (az (aw (aq (aw (aq (wC (.str "goes")) (aq ↥4 ao))) (aq ↥2 (aq ↥3 ao))))) aM) (av (aB 9 (aH nL (aq ↥0 (aq ↥1 (aq ↥4 ao))))) (av (aB 6 (eu (cT (w2 ↥9 (wC .none) (dO aj))) (wC .none) (w2 ↥2 (w2 ↥9 ⇑0 aO) aO))) (av (aJ (cT (w2 (w2 ↥7 ⇑0 aO) (wC (.str "take")) aT)) (aB 2 (aZ (cL [ah,ae 6] (d5 ↥2) (aI 0) (cT (w2 ↥0 ↥1 eO)) ↥0))) aM) (az (aw (aq (aw (aq (w2 (w2 ↥7 ⇑0 aO) (wC (.str "s")) fD) (aq ↥4 (aq ↥6 ao)))) (aq ↥2 (aq ↥3 ao))))))))))))
abbrev GU:aP:=(av (cP ↥0 (du 2 (br (aI 2) (br (aI 3) cv)))) (av (aB 4 (aH m8 (aq ↥0 ao))) (av (aB 5 (aZ (xB (wB bj (aq ↥3 ao))))) (av (aB 6 (wB bj (aq ↥3 ao))) (av (bz 7 (aN ao)) (av (aW (d5 ↥1) (aI 8) (av (cP (aH uz (aq ↥2 (aq ↥4 (aq ↥5 (aq ↥6 (aq ↥8 ao)))))) (du 3 (br (aI 9) (br (aI 5) (br (aI 6) cv))))) (av (bq 7 ↥9) (aB 4 (aH qm (aq ↥2 (aq ↥4 (aq ↥8 ao)))))))) (bH 7 (az ↥7))))))))
abbrev FQ:aP:=(av (aB 2 (aH cy (aq ↥0 (aq ⇑6 ao)))) (av (aJ (cT (w2 ↥2 ⇑0 aT)) (az (w2 (aw (aq (w2 (aZ (aN (aq (wC (.str "lays")) (aq (wC (.str "takes")) (aq (wC (.str "reads")) (aq (wC (.str "looks")) (aq (wC (.str "goes")) (aq (wC (.str "clock")) ao)))))))) (aH cy (aq ↥0 (aq ⇑6 ao))) aA) ao)) (cC ↥1 (cf ⇑1) cm) cY)) aM) (av (aJ (cT (w2 ↥2 ⇑1 aT)) (az (w2 (aZ (aN (aq (w2 ↥1 (aw (aq ⇑0 ao)) cY) (aq (cC ↥1 cm (cf (cx ⇑1))) (aq (wB gG (aq ↥1 ao)) (aq (cC ↥1 cm (cf ⇑1)) ao)))))) (aH cy (aq ↥0 (aq ⇑4 ao))) aA)) aM) (av (aB 3 (w2 ⇑1 (aH cy (aq ↥0 (aq (w2 (wB bj (aq ↥1 ao)) ⇑1 (bY λi j=>.int (i-j))) ao))) (bY λi j=>.int (i+j)))) (av (aB 4 (w2 ↥1 ↥3 aA)) (av (aJ (cT (w2 ↥4 (wC .none) (bJ aj))) (az (w2 (w2 (cC ↥1 cm (cf ↥3)) (aw (aq (w2 (aZ (aN (aq ⇑0 (aq (wC (.bool aj)) (aq ⇑1 ao))))) (aH cy (aq ↥0 (aq ⇑3 ao))) aA) ao)) cY) (cC ↥1 (cf (w2 ↥3 ⇑1 (bY λi j=>.int (i+j)))) cm) cY)) aM) (av (aJ (cT (cb "int" ↥4)) (aB 4 (w2 (aZ (aN (aq (w2 ↥4 ⇑1 (bY λi j=>.int (i+j))) (aq (w2 ↥4 ⇑1 (bY λi j=>.int (i-j))) (aq (w2 ↥4 ⇑0 lM) (aq (wC .none) (aq ⇑0 ao))))))) (aH cy (aq ↥0 (aq ⇑5 ao))) aA)) (aJ (cT (w2 (w2 ↥1 ⇑0 aA) (wC (.str "lays")) aT)) (av (aB 5 (aZ (aN (aq (aw (aq (w2 ↥4 ⇑0 aA) (aq ⇑1 ao))) (aq (aw (aq (w2 ↥4 ⇑0 aA) (aq (wC .none) ao))) (aq (aw (aq (w2 (w2 ↥4 ⇑0 aA) (aw (aq (wC (.str "a")) ao)) cY) (aq (w2 ↥4 ⇑1 aA) ao))) (aq (aw (aq (wB gG (aq (w2 ↥4 ⇑0 aA) ao)) (aq (w2 ↥4 ⇑1 aA) ao))) (aq (wB gG (aq ↥4 ao)) ao)))))))) (av (aB 5 (w2 ↥5 (aZ (aN (aq (aw (aq (w2 (cC (w2 ↥4 ⇑0 aA) cm (cf (cx ⇑1))) (aw (aq (w2 (w2 (w2 ↥4 ⇑0 aA) (cx ⇑1) aA) ⇑1 aT) ao)) cY) (aq (w2 ↥4 ⇑1 aA) ao))) (aq (aw (aq (w2 ↥4 ⇑0 aA) (aq (w2 (w2 ↥4 ⇑1 aA) ⇑1 aT) ao))) ao)))) dP)) (aB 4 (w2 ↥5 (aH cy (aq ↥0 (aq ⇑7 ao))) aA)))) (av (aB 5 (aZ (aN (aq (w2 ↥4 (aw (aq ⇑0 ao)) cY) (aq (cC ↥4 (cf ⇑1) cm) (aq (wB gG (aq ↥4 ao)) (aq (jK ↥4) (aq (w2 ↥4 (cC ↥4 cm (cf ⇑1)) cY) ao)))))))) (aB 4 (w2 (w2 ↥5 (aZ (aN (aq (wB dY (aq (aZ (cL [ah] (eQ ↥4) (aI 0) cG (w2 ↥0 ⇑1 aT))) ao)) ao))) dP) (aH cy (aq ↥0 (aq ⇑6 ao))) aA))))) (az (w2 (w2 (cC ↥1 cm (cf ↥3)) (aw (aq ↥4 ao)) cY) (cC ↥1 (cf (w2 ↥3 ⇑1 (bY λi j=>.int (i+j)))) cm) cY)))))))))
abbrev FW:aP:=(av (bz 3 (jt ↥1)) (av (aB 4 (aH cy (aq ↥0 (aq ⇑10 ao)))) (av (aJ (cT (w2 (dM 3) (aZ (aN ao)) cn)) (az (w2 (aZ (aN (aq (aZ (aN (aq (aw (aq (wC (.str "clock")) (aq (aw ao) ao))) ao))) (aq (aZ (aN (aq (aw (aq (wC (.str "goes")) (aq ⇑0 ao))) ao))) (aq (aw ao) (aq (wC .none) (aq (aZ (aN (aq (aw ao) ao))) ao))))))) (w2 ↥4 ⇑5 (gI (λ_ j=>0 < j) λi j=>.int (i % j))) aX)) aM) (av (aB 5 (aH cy (aq ↥0 (aq (wB gf (aq (dM 3) ao)) ao)))) (av (aJ (cT (w2 ↥4 ⇑0 cn)) (qf 3 ↥5) (aJ (cT (w2 ↥4 ⇑1 cn)) (iW 3 ↥5 (w2 (dM 3) ↥5 aX)) (aJ (cT (w2 ↥4 ⇑2 cn)) (bz 3 (ia (kO (dM 3) cm (cf ↥5)) (kO ↥2 (cf ↥5) cm))) (aJ (cT (w2 ↥4 ⇑3 cn)) (uT 3 (aw (aq (w2 (dM 3) (w2 ↥5 ⇑1 (bY λi j=>.int (i-j))) aX) (aq (w2 (dM 3) ↥5 aX) ao))) ↥5 (w2 ↥5 ⇑1 (bY λi j=>.int (i-j)))) (aJ (cT (w2 ↥4 ⇑4 cn)) (bH 3 (az (w2 (aZ (aN (aq (wB iB (aq ↥3 ao)) (aq (w2 ↥3 (aZ (aN (aq (aw ao) ao))) dP) (aq (w2 ↥3 (aZ (aN (aq (wC .none) ao))) dP) (aq (kO ↥3 cm (cf ↥5)) ao)))))) (aH cy (aq ↥0 (aq ⇑4 ao))) aX))) (fP 3 ↥5 (aH vV (aq ↥0 (aq (w2 (dM 3) ↥5 aX) ao))))))))) (bH 3 (az ↥3)))))))
abbrev DM:aP:=(av (iN 2 jg) (av (aW (dv (wB bj (aq (w2 ↥0 ⇑1 aA) ao))) (aI 3) (jG 2 ↥3 (w2 (w2 ↥0 ⇑1 aA) ↥3 aA))) (av (aB 4 (wB bj (aq (w2 ↥0 ⇑1 aA) ao))) (av (aW (d5 ↥1) (aI 5) (aJ (cT (w2 (w2 ↥5 ⇑0 aA) (wC (.str "lays")) aT)) (av (aJ (cT (w2 (w2 ↥5 ⇑2 aA) ↥4 (iV λd e=>ae (!Bz d e)))) (az (wC .none)) aM) (av (jG 2 ↥4 (w2 ↥5 ⇑3 aA)) (aB 4 (w2 ↥4 ⇑1 (bY λi j=>.int (i+j)))))) (aJ (dJ (cT (w2 (w2 ↥5 ⇑0 aA) (aw (aq (wC (.str "takes")) (aq (wC (.str "reads")) (aq (wC (.str "looks")) ao)))) (fO aj))) (cT (w2 (w2 ↥5 ⇑2 aA) (wC .none) (bJ ai)))) (av (aJ (cT (w2 (w2 ↥5 ⇑2 aA) (cS 2) mH)) (az (wC .none)) aM) (aJ (cT (w2 (w2 ↥5 ⇑0 aA) (wC (.str "takes")) aT)) (jQ 2 (w2 ↥5 ⇑2 aA)) aM)) (aJ (cT (w2 (w2 ↥5 ⇑0 aA) (wC (.str "clock")) aT)) (av (aJ (cT (w2 (wB gG (aq (w2 ↥5 ⇑1 aA) ao)) (aZ (rg (aZ (oK 2 [ah,ae 2] (aI 0) (cT (w2 (w2 (w2 ↥1 ↥0 mV) ⇑1 aA) ⇑1 aT)) ↥0)))) (iV λd e=>ae (!Bz d e)))) (az (wC .none)) aM) (av (aW (eQ (w2 ↥5 ⇑1 aA)) (aI 3) (jQ 2 ↥3)) (aW (d5 (aZ (oE (cS 2)))) (aI 3) (av (cP (w2 (cS 2) ↥3 nH) (du 2 (br (aI 6) (br (aI 7) cv)))) (jG 2 ↥3 (aw (aq ↥6 (aq (eu (cT (w2 ↥7 (wC .none) (bJ aj))) (wC .none) (w2 ↥7 ⇑1 (bY λi j=>.int (i-j)))) ao)))))))) aM)))) (bH 2 (az ↥2))))))
abbrev FT:aP:=(av (aB 2 (aH wz (aq ↥0 (aq ↥1 ao)))) (av (aJ (cT (w2 ↥2 (wC .none) (dO aj))) (az (wC (.bool aj))) aM) (av (aB 3 (aZ (cL [ah,ae 0] (d5 ↥1) (aI 0) cG (eu (cT (w2 (w2 ↥0 ⇑0 aA) (wC (.str "clock")) aT)) (wB bj (aq (w2 ↥1 ⇑0 aA) ao)) (w2 ↥0 ⇑1 aA))))) (av (aJ (cT (w2 (wB lX (aq (aZ (my t7 (aq ↥0 (aq ↥3 ao)))) ao)) (wB lX (aq ↥1 ao)) eO)) (az (wC (.bool aj))) aM) (av (aB 4 (w2 (aH xa (aq (w2 ↥0 ⇑0 aA) (aq (aH rR (aq ↥0 ao)) (aq ↥3 ao)))) ⇑1 aA)) (az (w2 (wB lX (aq ↥4 ao)) (wB lX (aq (wB dY (aq (aZ (cL [ah,ae 2] (d5 (aZ (qC ↥2))) (aI 0) cG (w2 ↥1 ↥0 Gx))) ao)) ao)) aT)))))))
abbrev yS:aP:=(av (aB 2 (aH uB (aq ↥1 ao))) (av (bz 3 (aN ao)) (av (aW (dv ⇑2) (aI 4) (av (cP (aH rQ (aq ↥1 (aq (w2 ↥2 ⇑0 aX) (aq (aH m8 (aq ↥2 ao)) (aq ⇑16 ao))))) (du 2 (br (aI 5) (br (aI 6) cv)))) (bq 3 (aH vU (aq ↥2 (aq ↥5 ao)))))) (av (bz 7 (jt (dM 3))) (av (aW (dv ⇑6) (aI 4) (bq 7 (aH xG (aq ↥1 (aq (w2 (dM 3) (w2 ↥4 ⇑2 (gI (λ_ j=>0 < j) λi j=>.int (i % j))) aX) (aq (w2 (dM 3) (w2 ⇑1 (w2 ↥4 ⇑2 (gI (λ_ j=>0 < j) λi j=>.int (i % j))) (bY λi j=>.int (i-j))) aX) ao)))))) (bH 7 (av (aW (d5 ↥7) (aI 8) (aJ (dJ (cT (aH ql (aq ↥2 (aq ↥8 ao)))) (cQ (cT (aH xQ (aq ↥2 (aq ↥8 ao)))))) (az (wC (.bool aj))) aM)) (bH 3 (az (fY (w2 (aH ql (aq ↥2 (aq (w2 ↥3 ⇑0 aX) ao))) (wC (.bool ai)) (jd aj)) (w2 (aH ql (aq ↥2 (aq (w2 ↥3 ⇑1 aX) ao))) (wC (.bool ai)) (jd aj))))))))))))
theorem RO:bV jO EX ["field","value","having","bound","head"]:=λws n Q h=>by
 obtain⟨f,v,hp,bp,rfl,fok,hv,hh,hb,k⟩:=h;show EX [ae (.w (.d f.d)),ae (.w (.d v)),ae (.w (.dk (bx hp))),ae (.w (.dk (bx bp))),ah] n {nx:=λ_ n=>Q (.d .none) n,rt:=Q};cases f with
 |is w=>
  show(match jq w v with|some r=>Q (.d (.bool r)) n|none=>False);rw[mN (show cz w=ai from fok) hv];exact k
 |any=>exact k
 |word=>
  show Q (.d (.bool (dQ "str" v))) n;cases v<;>exact k
 |number=>
  show Q (.d (.bool (dQ "int" v))) n;cases v<;>first|cases hv|exact k
 |as x=>
  show hZ (.d (.bool (bh (bx hp) (.inr x)).isSome)) (match bh (bx hp) (.inr x)with|some d=>(match jq d v with|some r=>Q (.d (.bool r)) n|none=>False)|none=>False) (Q (.d (.bool aj)) n);rw[kG];unfold il at k;cases e:look hp x with
  |none=>
   simp only[e]at k;exact k
  |some w=>
   simp only[e]at k;show(match jq w v with|some r=>Q (.d (.bool r)) n|none=>False);rw[mN (hh _ (lS e)).2 hv];exact k
 |bind x=>
  show hZ (.d (.bool (!(bh (bx bp) (.inr x)).isSome))) (Q (.d (.bool ai)) n) (match bh (bx bp) (.inr x)with|some d=>(match jq d v with|some r=>Q (.d (.bool r)) n|none=>False)|none=>False);rw[kG];unfold il at k;cases e:look bp x with
  |none=>
   simp only[e]at k;exact k
  |some w=>
   simp only[e]at k;show(match jq w v with|some r=>Q (.d (.bool r)) n|none=>False);rw[mN (hb _ (lS e)).2 hv];exact k
theorem IC[Decidable p]{A B:Prop}(h1:p->A)(h2:¬p->B):if decide p=ai then A else B:=by
 by_cases z:p
 ·rw[if_pos (decide_eq_true z)];exact h1 z
 ·rw[if_neg (by rw[decide_eq_false z];exact Ae)];exact h2 z
theorem rS:∀ps:Nm,lF (ps.map ko)=ae (bx ps)
 |[]=>rfl
 |p::r=>by
  show(lF (r.map ko)).map _=_;rw[rS r];rfl
theorem Vw(h:x∉l.map (·.1)):put l x v=l++[(x,v)]:=by
 unfold put;rw[if_neg λz=>by
  obtain⟨p,hp,e⟩:=Dp.mp z;exact h (A7.mpr ⟨p,hp,of_decide_eq_true e⟩)]
theorem rq:∀(r l:Nm),((l++r).map (·.1)).Nodup->mx (bx l) (bx r)=bx (l++r)
 |[],l,_=>by rw[Bw];rfl
 |p::r,l,nd=>by
  have e:l++p::r=(l++[p])++r:=by simp
  show mx (dD (bx l) (.inr p.1) p.2) (bx r)=_;rw[qG,Vw,e]
  ·exact rq r (l++[p]) (by rw[<-e];exact nd)
  ·intro z;rw[Bd,Bb,List.nodup_append]at nd;exact nd.2.2 _ z _ As rfl
theorem oV(e:δ[j]?=ae (ae (.w (.d (cJ ps)))))(ok:okN ps)(k:K.nx (δ.set i (ae (.odk (bx ps)))) n):iN i (i8 (ak j)) δ n K:=by
 unfold iN i8;refine au e ?_;unfold cJ;simp only[rS];refine⟨by rw[Ab];have:=ok.1;omega,?_⟩;have:=rq ps [] (by rw[Bv];exact ok.2.1);rw[Bv]at this;rw[show([]:List (aG×Aa))=bx []from rfl,this];exact k
section
variable{δ:Sl}{n:Int}{K:DEnds}{W V:aP}{Q:DQ}
theorem Uz(k:Q (.d (.bool (!decide (i=j)))) n):eO (.d (.int i)) (.d (.int j)) n Q:=k
theorem zm(e0:δ[0]?=ae (ae (.w (.d (.tuple xs)))))(e1:δ[1]?=ae (ae (.w (.d (.tuple ys)))))(hT:xs.length≠ys.length->W δ n K)(hF:xs.length=ys.length->V δ n K):
  aJ (cT (w2 (wB bj (aq ↥0 ao)) (wB bj (aq ↥1 ao)) eO)) W V δ n K:=by
 unfold aJ cT w2 wB aq ao;refine au e0 ?_;show ak 1 δ n _;refine au e1 ?_;dsimp only[bj];refine Uz ?_;refine jv (λh=>hT λz=>?_) λh=>hF ?_
 ·rw[z,decide_eq_true rfl]at h;cases h
 ·by_cases z:(xs.length:Int)=(ys.length:Int)
  ·exact Dz z
  ·rw[decide_eq_false z]at h;cases h
theorem Tu(e5:δ[5]?=ae (ae (.w (.d g.d))))(e6:δ[6]?=ae (ae (.w (.d v))))(e3:δ[3]?=ae (ae (.odk (bx hp))))(e4:δ[4]?=ae (ae (.odk (bx bp))))(gok:g.ok)(hv:cz v=ai)(hh:∀p∈hp,gx p)(hb:∀p∈bp,gx p)
  (hT:il g v hp bp=aj->W δ n K) (hF:il g v hp bp=ai->V δ n K):aJ (cQ (cT (aH jO (aq ↥5 (aq ↥6 (aq (cS 3) (aq (cS 4) ao))))))) W V δ n K:=by
 unfold aJ cQ cT aH aq ao;refine au e5 ?_;refine au e6 ?_;unfold cS;simp only[e3,e4];refine⟨g,v,hp,bp,rfl,gok,hv,hh,hb,?_⟩;refine jv (λh=>hT ?_) λh=>hF ?_
 ·cases q:il g v hp bp with|false=>rfl|true=>rw[q]at h;cases h
 ·cases q:il g v hp bp with|true=>rfl|false=>rw[q]at h;cases h
variable{xs:List Aa}{j:Nat}{a b v:Aa}{r:List Aa}
end
def oU(gs:List Fd)(vs:List Aa)(hp:Nm)(hs:List Str)(r:Aa):Prop:=match wk (gs.zip vs) hp hs with
 |none=>r=.none
 |some h=>r=cJ (c9 h)
theorem Mx(h1:∀x,x∈hs↔(look bp x).isSome=ai)(h2:∀x w,look bp x=ae w->look hp x=ae w)(h:il g v hp bp=aj):oU (g::gs) (v::vs) hp hs .none:=by
 have key:wk ((g,v)::gs.zip vs) hp hs=ah:=by
  cases g with
  |is w=>unfold wk;rw[if_neg (by rw[show fC w v=aj from h];exact Ae)]
  |any=>cases h
  |word=>unfold wk;rw[if_neg (by rw[show jc v=aj from h];exact Ae)]
  |number=>unfold wk;rw[if_neg (by rw[show i9 v=aj from h];exact Ae)]
  |as x=>
   unfold wk;unfold il at h;cases q:look hp x with
   |none=>rfl
   |some w=>
    simp only[q]at h;simp only[h,Fv,if_false]
  |bind x=>
   unfold wk;unfold il at h;cases q:look bp x with
   |none=>simp only[q]at h;cases h
   |some w=>
    simp only[q]at h;rw[if_pos ((h1 x).mpr (by rw[q];rfl)),h2 x w q];simp only[h,Fv,if_false]
 unfold oU;rw[Fu,key]
theorem Sr(ng:∀x,g≠.bind x)(h:il g v hp bp=ai):wk ((g,v)::l) hp hs=wk l hp hs:=by
 cases g with
 |is w=>rw[wk,if_pos (show fC w v=ai from h)]
 |any=>rw[wk]
 |word=>rw[wk,if_pos (show jc v=ai from h)]
 |number=>rw[wk,if_pos (show i9 v=ai from h)]
 |as x=>
  rw[wk];unfold il at h;cases q:look hp x with
  |none=>simp only[q]at h;cases h
  |some w=>
   simp only[q]at h;simp only[h,if_true]
 |bind x=>exact absurd rfl (ng x)
def Fd.hd:Fd->Str
 |.is _=>"is"
 |.any=>"any"
 |.word=>"word"
 |.number=>"number"
 |.bind _=>"bind"
 |.as _=>"as"
def Fd.tl:Fd->List Aa
 |.is v=>[v]
 |.bind x=>[.str x]
 |.as x=>[.str x]
 |_=>[]
theorem Fd.parts(g:Fd):g.d=.tuple (.str g.hd::g.tl):=by cases g<;>rfl
theorem nr(x):∀hs:List Str,bU (.str x) (hs.map .str)=decide (x∈hs)
 |[]=>by simp[bU]
 |y::r=>by
  show(rE (.str y) (.str x) || bU (.str x) (r.map .str))=_;rw[nr x r];have e:rE (.str y) (.str x)=decide (x=y):=by
   show(y==x)=_;by_cases z:x=y
   ·subst z;rw[decide_eq_true rfl];exact beq_self_eq_true _
   ·rw[decide_eq_false z];exact beq_eq_false_iff_ne.mpr λw=>z w.symm
  rw[e];by_cases z:x=y
  ·subst z;simp
  ·rw[decide_eq_false z,Bool.false_or];by_cases q:x∈r
   ·rw[decide_eq_true q,decide_eq_true (Ar _ q)]
   ·rw[decide_eq_false q,decide_eq_false (by simp[z,q])]
theorem JE(nd:(hp.map (·.1)).Nodup)(h:p∈hp):look hp p.1=ae p.2:=by
 cases q:look hp p.1 with
 |none=>
  have a:=tJ hp p.1;rw[q]at a;have b:(hp.any λq=>decide (q.1=p.1))=ai:=Dp.mpr ⟨p,h,decide_eq_true rfl⟩;rw[b]at a;cases a
 |some v=>
  have hm:=lS q;obtain⟨i,hi⟩:=B8.mp h;obtain⟨j,hj⟩:=B8.mp hm;have a1:(hp.map (·.1))[i]?=ae p.1:=by rw[Aw,hi];rfl
  have a2:(hp.map (·.1))[j]?=ae p.1:=by rw[Aw,hj];rfl
  obtain⟨b1,b2⟩:=Av.mp a1;obtain⟨c1,c2⟩:=Av.mp a2;have:=(E8 nd).mp (b2.trans c2.symm);rw[this,hj]at hi;have:=A8 hi;rw[<-this]
theorem TR(k:K.nx (δ.set i (ae (.odk (bx [])))) n):iN i jg δ n K:=k
theorem CC(e0:δ[0]?=ae (ae (.w (.d (.tuple xs)))))(e1:δ[1]?=ae (ae (.w (.d (.tuple ys)))))(hl:xs.length=ys.length)(k:eM g W K (dz xs ys) δ n):aW (jN ↥0 ↥1) g W δ n K:=by
 unfold aW jN;exact au e0 (au e1 ⟨hl,k⟩)
theorem S9:bV qA wD ["pattern","row","names","having","bound","field","value"]:=λws n Q h=>by
 obtain⟨fs,row,nm,rfl,okp,okr,okn,k0⟩:=h;have k:∀r,pW fs row nm r->Q (.d r) n:=λr hr=>by rw[UD hr];exact k0
 show wD [ae (.w (.d (dC fs))),ae (.w (.d (.tuple row))),ae (.w (.d (cJ nm))),ah,ah,ah,ah] n {nx:=λ_ n=>Q (.d .none) n,rt:=Q};unfold wD;refine aE (zm (xs:=fs.map Fd.d) (ys:=row) rfl rfl (λne=>?_) λel=>?_)
 ·show Q (.d .none) n;refine k .none ?_;unfold pW;rw[Ab]at ne;rw[if_neg ne]
 ·rw[Ab]at el;dsimp only[aM];refine aE (oV rfl okn ?_);dsimp only[Al];refine aE (TR ?_);dsimp only[Al];refine aE (CC (xs:=fs.map Fd.d) (ys:=row) rfl rfl (by rw[Ab];exact el) ?_);refine eV (λds δ m=>m=n/\∃(gs:List Fd)(vs:List Aa)(hp bp:Nm)(hs:List Str)(y z:Option SV),ds=dz (gs.map Fd.d) vs/\gs.length=vs.length/\δ=[ae (.w (.d (dC fs))),ae (.w (.d (.tuple row))),ae (.w (.d (cJ nm))),ae (.odk (bx hp)),ae (.odk (bx bp)),y,z] /\
   (∀g∈gs,g.ok)/\(∀d∈vs,cz d=ai)/\(hp.map (·.1)).Nodup/\(∀p∈hp,gx p)/\(∀p∈bp,gx p)/\hp.length+gs.length<=48/\bp.length+gs.length<=48/\(∀x,x∈hs↔(look bp x).isSome=ai)/\(∀x w,look bp x=ae w->look hp x=ae w)/\∀r,oU gs vs hp hs r->Q (.d r) n) ?_ ?_ _ _ _ ?_
  ·rintro δ m ⟨rfl,gs,vs,hp,bp,hs,y,z,e,hl,rfl,gok,vok,nd,hok,bok,l1,l2,i1,i2,kq⟩
   have:gs=[]:=by
    cases gs with
    |nil=>rfl
    |cons g gs=>cases vs with|nil=>cases hl|cons v vs=>cases e
   subst this;rw[List.length_nil]at l1;show ∃ps':Nm,bx hp=bx ps'/\_;refine⟨hp,rfl,by omega,nd,λp hp'=>⟨A2 (hok p hp').1.1 ∎,FN (hok p hp').2⟩,λps' p1 r1=>?_⟩;exact kq (.tuple (ps'.map ko)) (by show PyData.tuple (ps'.map ko)=cJ (c9 hp);rw[Jh nd p1 r1];rfl)
  ·rintro d r δ m N ⟨rfl,gs,vs,hp,bp,hs,y,z,e,hl,rfl,gok,vok,nd,hok,bok,l1,l2,i1,i2,kq⟩ hN
   cases gs with
   |nil=>cases e
   |cons g gs=>
    cases vs with
    |nil=>cases hl
    |cons v vs=>
     have e1:d=.tuple [g.d,v]:=by have:=congrArg (λl=>l.head?) e;simpa[dz]using this
     have e2:r=dz (gs.map Fd.d) vs:=by have:=congrArg List.tail e;simpa[dz]using this
     subst e1 e2;rw[Am]at l1 l2;rw[Am,Am]at hl;have gk:=gok g As;have vk:=vok v As;refine⟨rfl,?_⟩;dsimp only[br,aI,cv,Al];refine aE (Tu rfl rfl rfl rfl gk vk hok bok (λff=>?_) λff=>?_)
     ·exact kq .none (Mx i1 i2 ff)
     ·dsimp only[aM];have go:(∀x,g≠.bind x)->N [ae (.w (.d (dC fs))),ae (.w (.d (.tuple row))),ae (.w (.d (cJ nm))),ae (.odk (bx hp)),ae (.odk (bx bp)),ae (.w (.d g.d)),ae (.w (.d v))] m:=λng=>by
       refine hN _ _ ⟨rfl,gs,vs,hp,bp,hs,_,_,rfl,by omega,rfl,λg hg=>gok g (Ar _ hg),λd hd=>vok d (Ar _ hd),nd,hok,bok,by omega,by omega,i1,i2,λr hr=>kq r ?_⟩;unfold oU at hr ⊢;rw[Fu,Sr ng ff];exact hr
      cases g with
      |is w=>exact go λx z=>nomatch z
      |any=>exact go λx z=>nomatch z
      |word=>exact go λx z=>nomatch z
      |number=>exact go λx z=>nomatch z
      |as x=>exact go λx z=>nomatch z
      |bind x=>
       refine oX (a:=.str "bind") (r:=[.str x]) rfl vw ?_;show(bx bp).length < 1000/\(bx hp).length < 1000/\N [ae (.w (.d (dC fs))),ae (.w (.d (.tuple row))),ae (.w (.d (cJ nm))),ae (.odk (dD (bx hp) (.inr x) v)),ae (.odk (dD (bx bp) (.inr x) v)),ae (.w (.d (Fd.d (.bind x)))),ae (.w (.d v))] m;rw[qG,qG];refine⟨by unfold bx;rw[Ab];omega,by unfold bx;rw[Ab];omega,?_⟩;have p1:=sQ hp x v;have p2:=sQ bp x v;refine hN _ _ ⟨rfl,gs,vs,put hp x v,put bp x v,if x∈hs then hs else hs++[x],_,_,rfl,by omega,rfl,λg hg=>gok g (Ar _ hg),λd hd=>vok d (Ar _ hd),xl nd,pQ hok gk vk,pQ bok gk vk,by omega,by omega,λy=>?_,λy w hw=>?_,λr hr=>kq r ?_⟩
       ·by_cases q:y=x
        ·subst q;rw[GP];refine⟨λ_=>rfl,λ_=>?_⟩
         split
         ·assumption
         ·exact Be _ (Bj.mpr rfl)
        ·rw[Hw q,<-i1]
         split
         ·exact Iff.rfl
         ·simp[q]
       ·by_cases q:y=x
        ·subst q;rw[GP]at hw ⊢;exact hw
        ·rw[Hw q]at hw ⊢;exact i2 y w hw
       ·unfold oU at hr ⊢;rw[Fu,wk];by_cases q:x∈hs
        ·rw[if_pos q]at hr ⊢;cases lb:look bp x with
         |none=>rw[i1,lb]at q;cases q
         |some w=>
          have lh:=i2 x w lb;unfold il at ff;simp only[lb]at ff;have wv:w=v:=Lx (bok _ (lS lb)).2 vk ff;subst wv;rw[JN nd lh]at hr;simp only[lh,ff,if_true];exact hr
        ·rw[if_neg q]at hr ⊢;exact hr
  ·refine⟨rfl,fs,row,nm,[],[],ah,ah,rfl,el,rfl,okp.2.2,okr.2,okn.2.1,okn.2.2,λ_ z=>absurd z Aq,by have:=okp.2.1;have:=okn.1;omega,by have:=okp.2.1;simp;omega,λx=>⟨λz=>absurd z Aq,λz=>by cases z⟩,λx w z=>(nomatch z),λr hr=>k r ?_⟩;unfold pW;rw[if_pos el];exact hr
abbrev Zc:List Str:=["_law_tape_here"]
theorem P2:bV lD Ji Zc:=λws n Q h=>by
 obtain⟨rfl,hn,k⟩:=h;show Ji [ae (.w .tp)] n _;refine bc (ar (bb (Aj ∎ ?_)));dsimp only;refine gn (m:=8) rfl ⋯ ∎ ∎ λr h0 h1=>i7 (ds:=[.str "a",.int 0,.str "a",.int 1,.str "ab",.str "go",.int 99,.int 0]) h0 h1 λd hd=>k d ?_;simp only[Ao,Aq,or_false]at hd;rcases hd with rfl|rfl|rfl|rfl|rfl|rfl|rfl|rfl<;>simp[sW]
theorem TQ:bV mG BX Zc:=λws n Q h=>by
 obtain⟨rfl,hn,k⟩:=h;show BX [ae (.w .tp)] n _;refine bc (ar (bb (Aj ∎ ?_)));dsimp only;refine gn (m:=7) rfl ⋯ ∎ ∎ λr h0 h1=>i7 (ds:=[.int 1,.int 2,.int 2,.int 2,.int 1,.int 3,.int 4]) h0 h1 λd hd=>?_;simp only[Ao,Aq,or_false]at hd;rcases hd with rfl|rfl|rfl|rfl|rfl|rfl|rfl
 ·exact k 1 ∎ ∎
 ·exact k 2 ∎ ∎
 ·exact k 2 ∎ ∎
 ·exact k 2 ∎ ∎
 ·exact k 1 ∎ ∎
 ·exact k 3 ∎ ∎
 ·exact k 4 ∎ ∎
theorem AR(e:δ[0]?=ae (ae (.w .tp)))(hn:n < 2 ^ 39)(k:∀m:Nat,1<=m->m<=4->eM g W K (b9 0 m) δ (n+1)):aW (dv (aH mG (aq ↥0 ao))) g W δ n K:=by
 unfold aW dv;refine cF (au e (Aj rfl ⟨hn,λm h1 h4=>?_⟩));refine Aj ⟨by omega,by omega⟩ ?_;rw[Bi];exact k m h1 h4
theorem rX(h:fL fs):∀k∈bM fs,gT k:=λk hk=>by
 obtain⟨f,hf,e⟩:=Gi.mp hk;have:=h.2 f hf;cases f<;>cases e;exact this
theorem xh(h:fL fs):(bM fs).length<=4:=A2 (List.length_filterMap_le _ _) h.1
theorem BC(hw:∀Q:DQ,Q (.d (.str s)) n->w δ n Q)(e:bU (.str s) (hs.map .str)=b)(q:Q b n):cT (ju hs w) δ n Q:=hw _ (Aj rfl (by show Q (bU (.str s) (hs.map .str)) n;rw[e];exact q))
theorem BZ{a:Ac}(h:fL a.fs):(∀k∈a.bs,gT k)/\a.bs.length<=4:=by
 cases a with
 |take fs=>exact⟨rX h,xh h⟩
 |read fs=>exact⟨rX h,xh h⟩
 |look fs b=>exact⟨rX h,xh h⟩
 |lay fs b=>exact⟨λk hk=>by simp[Ac.bs]at hk,by simp[Ac.bs]⟩
 |same f g b=>exact⟨λk hk=>by simp[Ac.bs]at hk,by simp[Ac.bs]⟩
 |go b=>exact⟨λk hk=>by simp[Ac.bs]at hk,by simp[Ac.bs]⟩
theorem G5:∀{ys ks:List Str},ys.Nodup->(∀k∈ys,k∈ks)->ys.length<=ks.length
 |[],_,_,_=>Bm _
 |y::ys,ks,h,hs=>by
  obtain⟨h1,h2⟩:=Ca.mp h;have hm:=hs y As;have:=G5 (ks:=ks.erase y) h2 λk hk=>(List.mem_erase_of_ne (λ(e:k=y)=>h1 (e▸hk))).mpr (hs k (Ar _ hk));rw[List.length_erase_of_mem hm]at this;have:=List.length_pos_of_mem hm;rw[Am];omega
theorem r8(h:v∈sW):cz v=ai:=by
 simp only[sW,Ao,Aq,or_false]at h;rcases h with rfl|rfl|rfl|rfl|rfl|rfl<;>decide +kernel
theorem TC(hv:fI v=ae a)(hl:a.length+b.length<=Az)(q:Q (.d (.list (a++b))) n):dP v (.ln b) n Q:=by
 unfold dP;rw[hv];exact⟨hl,q⟩
theorem J1(e0:δ[0]?=ae (ae (.w .tp)))(h:n < 2 ^ 39)(k:∀v∈kD,Q (.d v) (n+1)):w2 (gp 0) (aH cy (aq ↥0 (aq (wB gf (aq (gp 0) ao)) ao))) aX δ n Q:=by
 have ht:∀(n:Int)(Q:DQ),Q (.ln kD) n->gp 0 δ n Q:=λn Q q=>by unfold gp;rw[e0];exact q
 exact ar (ht _ _ (iI (m:=7) e0 (λQ q=>aU (ht _ _ q)) ⋯ ∎ ∎ λr h0 h1=>oZ h0 h1 k))
theorem Pd(f:Fe)(r):bM (f::r)=f.bd.toList++bM r:=by cases f<;>rfl
theorem Kb(fs)(f:Fe):bM (fs++[f])=bM fs++f.bd.toList:=by
 unfold bM;rw[List.filterMap_append];cases f<;>rfl
theorem uY:∀{fs:List Fe}{ks:List Str}{f:Fe},rF ks fs->(∀k,f.us=ae k->k∈ks++bM fs)->rF ks (fs++[f])
 |[],ks,f,_,h=>⟨λk hk=>by simpa[bM]using h k hk,trivial⟩
 |g::r,ks,f,h1,h2=>⟨h1.1,uY h1.2 λk hk=>by
  have:=h2 k hk;rw[Pd,<-Bp]at this;exact this⟩
theorem tM{f:Aa}{ks:List Str}(h:f∈ks.map .str):∃s∈ks,f=.str s:=by
 obtain⟨s,hs,rfl⟩:=A7.mp h;exact⟨s,hs,rfl⟩
def xc(kv:Wv)(ks:List Str)(n0:Int)(ds:List Aa)(δ:Sl)(n:Int):Prop:=∃(fs:List Fe)(x y z u:Option SV),δ=[ae (.w .tp),ae (.w kv),ae (.own (fs.map Fe.d)),ae (.own ((bM fs).map .str)),x,y,z,u]/\1<=fs.length+ds.length/\fs.length+ds.length<=4/\(∀f∈fs,f.ok/\f.pt=ai)/\rF ks fs/\n+2*(ds.length:Int)<=n0+9
theorem KH:bV wV Jm ["_law_tape_here","_law_known","_law_fields","_law_bound","_law_k","_law_way","_law_some","_law_name"]:=λws n0 Q h=>by
 obtain⟨ks,kv,rfl,hkv,hks,hok,hn0,k⟩:=h;show Jm [ae (.w .tp),ae (.w kv),ah,ah,ah,ah,ah,ah] n0 _;refine aE (iM ?_);dsimp only[Al];refine aE (iM ?_);dsimp only[Al];refine aE (AR rfl ⋯ λm h1 h4=>?_);refine eV (xc kv ks n0) (λδ n I=>?_) (λd r δ n N I kN=>?_) _ _ _ ⟨[],ah,ah,ah,ah,rfl,by rw[e9];simpa using h1,by rw[e9];simpa using h4,λf hf=>(by simp at hf),trivial,by rw[e9];omega⟩
 ·obtain⟨fs,x,y,z,u,rfl,hf1,hf,hfo,hr,hn⟩:=I;dsimp only;refine gy rfl ?_;dsimp only[Al];refine gy rfl ?_;dsimp only[Al];exact bc (cZ (aU (au rfl (kR (au rfl (Aj (show 2<=1000 by decide) (k fs n (by simpa using hf1) ⟨by simpa using hf,λf z=>(hfo f z).1⟩ (λf z=>(hfo f z).2) hr (by simpa using hn))))))))
 ·obtain⟨fs,x,y,z,u,rfl,hf1,hf,hfo,hr,hn⟩:=I;rw[Am]at hf1 hf hn;dsimp only[aI,Al];have hfl:(fs.map Fe.d).length < 1000000:=by rw[Ab];omega
  have hbl:(bM fs).length<=4:=A2 (List.length_filterMap_le _ _) ⋯;have hbo:∀s∈ks++bM fs,gT s:=λs hs=>(Bc.mp hs).elim (hok s) λz=>rX (fs:=fs) ⟨by omega,λf z=>(hfo f z).1⟩ s z;have nxt:∀(f:Fe)(n':Int)(y z u:Option SV)(B:List Aa),f.ok/\f.pt=ai->(∀k,f.us=ae k->k∈ks++bM fs)->n'<=n+2->B=(bM fs).map .str++f.bd.toList.map .str->N [ae (.w .tp),ae (.w kv),ae (.own (fs.map Fe.d++[f.d])),ae (.own B),ae (.w (.d d)),y,z,u] n':=λf n' y z u B fo fu hn' hB=>
   kN _ _ ⟨fs++[f],ae (.w (.d d)),y,z,u,by rw[hB,Bd,Kb,Bd];rfl,by rw[Ai,Ax];omega,by rw[Ai,Ax];omega,λg hg=>(Bc.mp hg).elim (hfo g) λz=>by rw[Bj]at z;subst z;exact fo,uY hr fu,by omega⟩
  have nxtN:∀(f:Fe)(n':Int)(y z u:Option SV),f.bd=ah->f.ok/\f.pt=ai->(∀k,f.us=ae k->k∈ks++bM fs)->n'<=n+2->N [ae (.w .tp),ae (.w kv),ae (.own (fs.map Fe.d++[f.d])),ae (.own ((bM fs).map .str)),ae (.w (.d d)),y,z,u] n':=λf n' y z u fb fo fu hn'=>
   nxt f n' y z u _ fo fu hn' (by rw[fb];exact(Bw _).symm)
  refine aE (oJ (m:=9) rfl ⋯ ∎ ∎ λw w0 w1=>?_);dsimp only[Al];refine aE (bA (x:=.list (ks.map .str++(bM fs).map .str)) (λQ q=>ar (au rfl (gw rfl (TC hkv (SK (by rw[Ab];omega) (by rw[Ab];omega)) q)))) ?_);dsimp only[Al];refine l3 rfl (λhw=>?_) (λhw=>?_)
  ·refine jm rfl (cZ (aC (cF (au rfl (Aj rfl ⟨by omega,λv hv=>?_⟩)))));exact Aj (show 2<=1000 by decide) (Aj hfl (nxtN (.isv v) _ _ _ _ rfl ⟨r8 hv,rfl⟩ (λk hk=>by cases hk) ⋯))
  ·refine l3 rfl (λhw6=>?_) (λhw6=>?_)
   ·refine jm rfl (ar (bb (Aj ∎ (Aj ∎ (Aj ∎ (Aj ∎ ?_))))));dsimp only;refine ar (au rfl (aC ?_));dsimp only[bY];refine iX (ds:=[.tuple [.str "any"],.tuple [.str "word"],.tuple [.str "number"]]) (r:=w-3) ⋯ (show w-3 < 3 by omega) λf hf'=>?_;simp only[Ao,Aq,or_false]at hf';rcases hf' with rfl|rfl|rfl
    ·exact Aj hfl (nxtN .any _ _ _ _ rfl ⟨trivial,rfl⟩ (λk hk=>by cases hk) ⋯)
    ·exact Aj hfl (nxtN .word _ _ _ _ rfl ⟨trivial,rfl⟩ (λk hk=>by cases hk) ⋯)
    ·exact Aj hfl (nxtN .num _ _ _ _ rfl ⟨trivial,rfl⟩ (λk hk=>by cases hk) ⋯)
   ·have bind:∀(K:DEnds)(L:List Aa),(∀δ n,N δ n->K.nx δ n)->av (aB 7 (w2 (aZ (aN (aq (wC (.str "n")) (aq (wC (.str "nm")) (aq (wC (.str "go")) (aq (wC (.str "m")) ao)))))) (aH cy (aq ↥0 (aq ⇑4 ao))) aX)) (av (bq 3 ↥7) (bq 2 (aw (aq (wC (.str "bind")) (aq ↥7 ao)))))
      [ae (.w .tp),ae (.w kv),ae (.own (fs.map Fe.d)),ae (.own ((bM fs).map .str)),ae (.w (.d d)),ae (.w (.d (.int w))),ae (.w (.d (.list L))),u] (n+1) K:=λK L hK=>by
     refine aE (show w2 _ _ _ _ _ _ from ar (bb (Aj ∎ ?_)));dsimp only;refine gn (m:=4) rfl ⋯ ∎ ∎ λr r0 r1=>iX (ds:=[.str "n",.str "nm",.str "go",.str "m"]) r0 r1 λf hf'=>?_;have:∃s:Str,f=.str s/\gT s:=by
      simp only[Ao,Aq,or_false]at hf';rcases hf' with rfl|rfl|rfl|rfl<;>exact⟨_,rfl,by decide +kernel,by decide +kernel⟩
     obtain⟨s,rfl,so⟩:=this;dsimp only[Al];refine aE (jW rfl (λQ q=>au rfl q) (by rw[Ab];omega) ?_);dsimp only[Al];refine jW (x:=.tuple [.str "bind",.str s]) rfl (λQ q=>cZ (aC (au rfl (Aj (show 2<=1000 by decide) q)))) hfl (hK _ _ ?_);exact nxt (.bind s) (n+1+1) _ _ _ _ ⟨so,rfl⟩ (λk hk=>by cases hk) ⋯ rfl
    by_cases hw8:w < 8
    ·refine bw (λQ q=>k7 (λQ q=>aF (k:=ai) (λQ q=>ar (au rfl (aC ?_))) q) q) (bind _ _ λ_ _ z=>z);show Q (.d (.bool (decide (w < 8)))) _;rw[decide_eq_true hw8];exact q
    ·have hmem:∀f∈ks.map Co++(bM fs).map Co,∃s∈ks++bM fs,f=.str s:=λf hf=>tM (by rw[Bd];exact hf);have hlen:(ks.map Co++(bM fs).map Co).length<=2000:=by rw[Ai,Ab,Ab];omega
     generalize(ks.map Co++(bM fs).map Co)=L at hmem hlen;cases L with
     |nil=>
      refine bw (λQ q=>gH (λQ q=>aF (k:=aj) (λQ q=>ar (au rfl (aC ?_))) q) (aF (k:=ai) (λQ q=>ar (au rfl (bb (Aj (Bm _) q)))) q)) (bind _ _ λ_ _ z=>z);show Q (.d (.bool (decide (w < 8)))) _;rw[decide_eq_false hw8];exact q
     |cons a l=>
      refine aQ (λQ q=>gH (λQ q=>aF (k:=aj) (λQ q=>ar (au rfl (aC ?_))) q) (aF (k:=aj) (λQ q=>ar (au rfl (bb (Aj (Bm _) q)))) q)) ?_
      ·show Q (.d (.bool (decide (w < 8)))) _;rw[decide_eq_false hw8];exact q
      ·refine jm rfl (cZ (aC (ar (au rfl ?_))));refine iI (m:=(a::l).length) rfl (λQ q=>aU (au rfl q)) ⋯ (by rw[Am];omega) ⋯ λr r0 r1=>iX r0 r1 λf hf'=>?_;obtain⟨s,hs,rfl⟩:=hmem f hf';exact Aj (show 2<=1000 by decide) (Aj hfl (nxtN (.as s) _ _ _ _ rfl ⟨hbo s hs,rfl⟩ (λk hk=>by cases hk;exact hs) ⋯))
theorem zA(h:v∈kD):ft v:=by
 simp only[kD,Ao,Aq,or_false]at h;rcases h with rfl|rfl|rfl|rfl|rfl|rfl|rfl<;>first|exact .inl rfl|exact .inr ⟨_,rfl,by decide,by decide⟩
theorem UK:bV pq FJ Zc:=λws n Q h=>by
 obtain⟨rfl,hn,k⟩:=h;show FJ [ae (.w .tp)] n _;exact bc (J1 rfl hn k)
theorem FV(e0:δ[0]?=ae (ae (.w .tp)))(h:n < 2 ^ 39)(k:∀v∈kD,Q (.d v) (n+1)):aH pq (aq ↥0 ao) δ n Q:=cF (au e0 ⟨rfl,h,k⟩)
def xm(ks:List Str)(n0:Int)(ds:List Aa)(δ:Sl)(n:Int):Prop:=∃(fs:List Fe)(x y:Option SV),δ=[ae (.w .tp),ae (.w (.ln (ks.map .str))),ae (.own (fs.map Fe.d)),x,y]/\fs.length+ds.length<=4/\1<=fs.length+ds.length/\(∀f∈fs,f.ok/\f.tm=ai)/\rF ks fs/\n+2*(ds.length:Int)<=n0+9
theorem JD:bV ya IQ ["_law_tape_here","_law_known","_law_fields","_law_k","_law_way"]:=λws n0 Q h=>by
 obtain⟨ks,rfl,hks,hok,hn0,k⟩:=h;show IQ [ae (.w .tp),ae (.w (.ln (ks.map .str))),ah,ah,ah] n0 _;refine aE (iM ?_);dsimp only[Al];refine aE (AR rfl ⋯ λm h1 h4=>?_);refine eV (xm ks n0) (λδ n I=>?_) (λd r δ n N I kN=>?_) _ _ _ ⟨[],ah,ah,rfl,by rw[e9];simpa using h4,by rw[e9];simpa using h1,λf hf=>(by simp at hf),trivial,by rw[e9];omega⟩
 ·obtain⟨fs,x,y,rfl,hf,hf1,hfo,hr,hn⟩:=I;dsimp only;refine gy rfl ?_;dsimp only[Al];exact bc (aU (au rfl (kR (k fs n (by simpa using hf1) ⟨by simpa using hf,λf z=>(hfo f z).1⟩ (λf z=>(hfo f z).2) hr (by simpa using hn)))))
 ·obtain⟨fs,x,y,rfl,hf,hf1,hfo,hr,hn⟩:=I;rw[Am]at hf hf1 hn;dsimp only[aI,Al];have hfl:(fs.map Fe.d).length < 1000000:=by rw[Ab];omega
  have nxt:∀(f:Fe)(n':Int)(y:Option SV),f.ok/\f.tm=ai->(∀k,f.us=ae k->k∈ks)->n'<=n+2->N [ae (.w .tp),ae (.w (.ln (ks.map .str))),ae (.own (fs.map Fe.d++[f.d])),ae (.w (.d d)),y] n':=λf n' y fo fu hn'=>
   kN _ _ ⟨fs++[f],ae (.w (.d d)),y,by rw[Bd];rfl,by rw[Ai,Ax];omega,by rw[Ai,Ax];omega,λg hg=>(Bc.mp hg).elim (hfo g) λz=>by rw[Bj]at z;subst z;exact fo,uY hr λk hk=>Ec _ (fu k hk),by omega⟩
  refine aE (oJ (m:=6) rfl ⋯ ∎ ∎ λw w0 w1=>?_);dsimp only[Al];have isv:∀K:DEnds,(∀δ n,N δ n->K.nx δ n)->bq 2 (aw (aq (wC (.str "is")) (aq (aH lD (aq ↥0 ao)) ao))) [ae (.w .tp),ae (.w (.ln (ks.map .str))),ae (.own (fs.map Fe.d)),ae (.w (.d d)),ae (.w (.d (.int w)))] (n+1) K:=λK hK=>
   jm rfl (cZ (aC (cF (au rfl (Aj rfl ⟨by omega,λv hv=>Aj (show 2<=1000 by decide) (Aj hfl (hK _ _ (nxt (.isv v) _ _ ⟨r8 hv,rfl⟩ (λk hk=>by cases hk) ⋯)))⟩)))))
  by_cases hw3:w < 3
  ·refine bw (λQ q=>k7 (λQ q=>aF (k:=ai) (λQ q=>ar (au rfl (aC ?_))) q) q) (isv _ λ_ _ z=>z);show Q (.d (.bool (decide (w < 3)))) _;rw[decide_eq_true hw3];exact q
  ·have ct3:∀Q:DQ,Q (.d (.bool aj)) (n+1)->w2 ↥4 (wC (.int 3)) gM [ae (.w .tp),ae (.w (.ln (ks.map .str))),ae (.own (fs.map Fe.d)),ae (.w (.d d)),ae (.w (.d (.int w)))] (n+1) Q:=λQ q=>ar (au rfl (aC (by
    show Q (.d (.bool (decide (w < 3)))) _;rw[decide_eq_false hw3];exact q)))
   cases ks with
   |nil=>exact bw (λQ q=>gH (λQ q=>aF (k:=aj) ct3 q) (aF (k:=ai) (λQ q=>ar (au rfl (kK (jk q)))) q)) (isv _ λ_ _ z=>z)
   |cons a l=>
    refine aQ (λQ q=>gH (λQ q=>aF (k:=aj) ct3 q) (aF (k:=aj) (λQ q=>ar (au rfl (kK (jk q)))) q)) ?_;refine jm rfl (cZ (ar (bb (Aj ∎ ?_))));dsimp only;refine ar (au rfl (aC ?_));dsimp only[bY];refine iX (ds:=[.str "as",.str "as",.str "next"]) (r:=w-3) ⋯ (show w-3 < 3 by omega) λf hf'=>?_;refine ar (au rfl ?_);have hl:((a::l).map Co).length<=1000:=by rw[Ab];exact hks
    refine iI (m:=((a::l).map Co).length) rfl (λQ q=>aU (au rfl q)) ⋯ (by rw[Ab,Am];omega) ⋯ λr r0 r1=>oZ r0 r1 λf' hf''=>?_;obtain⟨s,hs,rfl⟩:=tM hf'';simp only[Ao,Aq,or_false]at hf';rcases hf' with rfl|rfl|rfl
    ·exact Aj (show 2<=1000 by decide) (Aj hfl (nxt (.as s) _ _ ⟨hok s hs,rfl⟩ (λk hk=>by cases hk;exact hs) ⋯))
    ·exact Aj (show 2<=1000 by decide) (Aj hfl (nxt (.as s) _ _ ⟨hok s hs,rfl⟩ (λk hk=>by cases hk;exact hs) ⋯))
    ·exact Aj (show 2<=1000 by decide) (Aj hfl (nxt (.nx s) _ _ ⟨hok s hs,rfl⟩ (λk hk=>by cases hk;exact hs) ⋯))
abbrev Zd:List Str:=["_law_tape_here","_law_known"]
theorem Qk:bV rM IX Zd:=λws n Q h=>by
 obtain⟨ks,rfl,hks,hok,hn0,k⟩:=h;show IX [ae (.w .tp),ae (.w (.ln (ks.map .str)))] n _;have isv:∀n',n'<=n+1->az (aw (aq (wC (.str "is")) (aq (aH lD (aq ↥0 ao)) ao))) [ae (.w .tp),ae (.w (.ln (ks.map .str)))] n' {nx:=λ_ n=>Q (.d .none) n,rt:=Q}:=λn' hn'=>
  bc (cZ (aC (cF (au rfl (Aj rfl ⟨by omega,λv hv=>Aj (show 2<=1000 by decide) (k (.isv v) _ (r8 hv) rfl (λk hk=>by cases hk) ⋯)⟩)))))
 cases ks with
 |nil=>exact aE (bw (λQ q=>k7 (λQ q=>aF (k:=ai) (λQ q=>ar (au rfl (kK (jk q)))) q) q) (isv n ⋯))
 |cons a l=>
  refine aE (dq (gH (λQ q=>aF (k:=aj) (λQ q=>ar (au rfl (kK (jk q)))) q) ?_));refine ar (gn (m:=2) rfl ⋯ ∎ ∎ λr r0 r1=>aC (l5 ?_));show if decide (r=0)=ai then _ else _
  by_cases h:r=0
  ·rw[if_pos (decide_eq_true h)];exact isv (n+1) ⋯
  ·rw[if_neg (by simpa using h)];dsimp only[aM];refine bc (cZ (aC (ar (au rfl ?_))));have hl:((a::l).map Co).length<=1000:=by rw[Ab];exact hks
   refine iI (m:=((a::l).map Co).length) rfl (λQ q=>aU (au rfl q)) ⋯ (by rw[Ab,Am];omega) ⋯ λr r0 r1=>oZ r0 r1 λf' hf''=>?_;obtain⟨s,hs,rfl⟩:=tM hf'';exact Aj (show 2<=1000 by decide) (k (.as s) _ (hok s hs) rfl (λk hk=>by cases hk;exact hs) ⋯)
theorem OR:bV px FZ ["_law_tape_here","_law_known","_law_open_ones","_law_way","_law_block","_law_pattern_here","_law_bound"]:=λws n Q h=>by
 obtain⟨ks,os,wants,rfl,hks,hok,ho,ho',hop,hn0,k⟩:=h;show FZ [ae (.w .tp),ae (.w (.ln (ks.map .str))),ae (.w (.d (.list (os.map λb=>.int (b:Nat))))),ah,ah,ah,ah] n _;refine aE (oJ (m:=12) rfl ⋯ ∎ ∎ λw w0 w1=>?_);dsimp only[Al];refine aE (l3 rfl (λhw=>?_) (λhw=>?_))
 ·refine bc (cZ (fZ (aC (bG (au rfl (au rfl (Ek ks ⟨rfl,hks,hok,by omega,λfs n' hf1 hfs htm hrf hn'=>?_⟩)))))));refine FV rfl ⋯ λv hv=>?_;exact Aj (show 3<=1000 by decide) (kK (Aj (show 2<=1000 by decide) (k (.lay fs v) _ ⟨hfs,htm,zA hv,hf1⟩ ⟨hrf,λb hb=>by cases hb⟩ ⋯)))
 dsimp only[aM];refine aE (show aB 4 _ _ _ _ from ar (au rfl ?_));refine iI (m:=(os.map λb:Nat=>Cp (b:Nat)).length) rfl (λQ q=>aU (au rfl q)) ⋯ (by rw[Ab];omega) (by rw[Ab];omega) λr r0 r1=>iX r0 r1 λb hb=>?_;obtain⟨b,hbo,rfl⟩:=A7.mp hb;have hto:=hop b hbo;dsimp only[Al];refine aE (pS rfl (λh10=>?_) (λh10=>?_))
 ·refine bc (cZ (uf (aC (bG (au rfl (au rfl (Ek ks ⟨rfl,hks,hok,by omega,λf n' fo fb fu hn'=>?_⟩)))))));refine bG (au rfl (au rfl (Ek ks ⟨rfl,hks,hok,by omega,λg n'' go gb gu hn''=>?_⟩)));refine au rfl (Aj (show 4<=1000 by decide) (kK (Aj (show 2<=1000 by decide) (k (.same f g b) _ ⟨⟨show 2<=4 by decide,λe he=>?_⟩,fb,gb⟩ ⟨⟨fu,λk hk=>Ec _ (gu k hk),trivial⟩,λb' hb'=>by cases hb';exact hto⟩ ⋯))));simp only[Ac.fs,Ao,Aq,or_false]at he;rcases he with rfl|rfl
  ·exact fo
  ·exact go
 dsimp only[aM];refine aE (pS rfl (λh11=>?_) (λh11=>?_))
 ·exact bc (cZ (cZ (aC (au rfl (Aj (show 2<=1000 by decide) (kK (Aj (show 2<=1000 by decide) (k (.go b) _ ⟨⟨show 0<=4 by decide,λe he=>by simp[Ac.fs]at he⟩,trivial⟩ ⟨trivial,λb' hb'=>by cases hb';exact hto⟩ ⋯))))))))
 dsimp only[aM];refine aE ?_;unfold cP;refine bG (au rfl (au rfl (Ek ks ⟨.ln (ks.map .str),rfl,rfl,hks,hok,by omega,λfs n' hf1 hfs hpt hrf hn'=>?_⟩)));refine Aj rfl ?_;dsimp only[br,cv,aI,Al];refine aE (vz rfl (λh7=>?_) (λh7=>?_))
 ·exact bc (cZ (fZ (aC (au rfl (au rfl (Aj (show 3<=1000 by decide) (au rfl (Aj (show 2<=1000 by decide) (k (.look fs b) _ ⟨hfs,hf1,hpt⟩ ⟨hrf,λb' hb'=>by cases hb';exact hto⟩ ⋯)))))))))
 dsimp only[aM];refine bc (cZ (cZ (ar (bb (Aj ∎ ?_)))));dsimp only;refine ar (au rfl (aC ?_));dsimp only[bY];refine iX (ds:=[.str "take",.str "take",.str "take",.str "read"]) (r:=w-4) ⋯ (show w-4 < 4 by omega) λf hf'=>?_;simp only[Ao,Aq,or_false]at hf';rcases hf' with rfl|rfl|rfl|rfl
 ·exact au rfl (Aj (show 2<=1000 by decide) (au rfl (Aj (show 2<=1000 by decide) (k (.take fs) _ ⟨hfs,hf1,hpt⟩ ⟨hrf,λb' hb'=>by cases hb'⟩ ⋯))))
 ·exact au rfl (Aj (show 2<=1000 by decide) (au rfl (Aj (show 2<=1000 by decide) (k (.take fs) _ ⟨hfs,hf1,hpt⟩ ⟨hrf,λb' hb'=>by cases hb'⟩ ⋯))))
 ·exact au rfl (Aj (show 2<=1000 by decide) (au rfl (Aj (show 2<=1000 by decide) (k (.take fs) _ ⟨hfs,hf1,hpt⟩ ⟨hrf,λb' hb'=>by cases hb'⟩ ⋯))))
 ·exact au rfl (Aj (show 2<=1000 by decide) (au rfl (Aj (show 2<=1000 by decide) (k (.read fs) _ ⟨hfs,hf1,hpt⟩ ⟨hrf,λb' hb'=>by cases hb'⟩ ⋯))))
def iS:List (List Str):=[[],["n"],["go","n"],["nm"]]
theorem MS(h:w∈iS):w.length<=4/\(∀k∈w,gT k)/\w.Nodup/\me w:=by
 have key:∀w∈iS,w.length<=4/\(∀k∈w,k.length<=4/\E5 k=ai)/\w.Nodup/\w.Pairwise λa b=>¬b.cps.toList < a.cps.toList:=by decide +kernel
 exact key w h
theorem Ko(ss ks:List Str)(k:Q ((ss.map Co).filter λx=>!bU x (ks.map .str)) n):
  c7 (aI 0) (cT (w2 ↥0 ↥1 (fB ai))) ↥0 Q (ss.map .str) [] [ah,ae (.w (.ln (ks.map .str)))] n:=by
 refine rY (λd=>∃s:Str,d=.str s) (λx=>!bU x (ks.map .str)) id (λd n Q' hd q=>?_) (λd n Q' hd q=>au rfl q) _ [] ah n (λd hd=>?_) ?_
 ·obtain⟨s,rfl⟩:=hd;exact aF (k:=!bU (.str s) (ks.map .str)) (λQ q=>ar (au rfl (au rfl (Aj rfl ⟨sq ks,q⟩)))) q
 ·obtain⟨s,_,rfl⟩:=A7.mp hd;exact⟨s,rfl⟩
 ·rw[Bv,Gb];exact k
theorem Vy(ss ks:List Str):((ss.map Co).filter λx=>!bU x (ks.map .str)).isEmpty=decide (∀k∈ss,k∈ks):=by
 rw[Fq,List.isEmpty_iff,List.filter_eq_nil_iff,decide_eq_true_iff]
 constructor
 ·intro h k hk;have:=h (.str k) (A7.mpr ⟨k,hk,rfl⟩);rw[nr]at this;simpa using this
 ·intro h d hd;obtain⟨k,hk,rfl⟩:=A7.mp hd;rw[nr,decide_eq_true (h k hk)];simp
def rz(ws:List (List Str))(ks:List Str):Aa->Bool
 |.int j=>decide (∀k∈ws.getD j.toNat [],k∈ks)
 |_=>aj
def kX(ws:List (List Str))(ks:List Str):List Nat:=(A3 ws.length).filter λb=>decide (∀k∈ws.getD b [],k∈ks)
theorem RV(ws:List (List Str))(ks):(b9 0 ws.length).filter (rz ws ks)=(kX ws ks).map λb=>.int (b:Nat):=by
 unfold b9 kX;rw[List.filter_map];have e:(λi:Nat=>Cp (0+(i:Int)))=λb=>.int (b:Nat):=funext λi=>by rw[Int.zero_add]
 rw[e];rfl
theorem J7(ws:List (List Str))(ks:List Str)(k:Q ((kX ws ks).map λb=>.int (b:Nat)) n):
  c7 (aI 0) (cT (w2 (aZ (cL [ah,ae 1] (eQ (w2 ↥2 ↥0 aX)) (aI 0) (cT (w2 ↥0 ↥1 (fB ai))) ↥0)) (aZ (aN ao)) cn)) ↥0 Q (b9 0 ws.length) [] [ah,ae (.w (.ln (ks.map .str))),ae (.w (.d (.list (ws.map eh))))] n:=by
 refine rY (λd=>∃j:Nat,j < ws.length/\d=.int j) (rz ws ks) id (λd n Q' hd q=>?_) (λd n Q' hd q=>au rfl q) _ [] ah n (λd hd=>?_) ?_
 ·obtain⟨j,hj,rfl⟩:=hd;have hg:(ws.map eh)[j]?=ae (.tuple (ws[j].map .str)):=by rw[Aw,Af hj];rfl
  refine aF (k:=rz ws ks (.int j)) (λQ q=>ar (bb (jA (ds:=ws[j].map .str) (λQ q=>ar (au rfl (au rfl ?_))) (Ko ws[j] ks (kK ?_))))) q
  ·show(match cX (ws.map eh) (j:Int)with|some d=>Q (.d d) n|none=>False);rw[fG hg];exact q
  ·have eo:rz ws ks (.int j)=((ws[j].map Co).filter λx=>!bU x (ks.map .str)).isEmpty:=by
    rw[Vy];show decide (∀k∈ws.getD (j:Int).toNat [],k∈ks)=_;rw[Bi,List.getD_eq_getElem?_getD,Af hj,F7]
   rw[eo]at q;exact q
 ·unfold b9 at hd;obtain⟨j,hj,rfl⟩:=A7.mp hd;exact⟨j,B6.mp hj,by rw[Int.zero_add]⟩
 ·rw[Bv,Gb,RV];exact k
theorem SG(h:ws=[]::w0):0 < (kX ws ks).length:=
 List.length_pos_of_mem (a:=0) (B9.mpr ⟨B6.mpr (by rw[h];simp),by subst h;simp⟩)
theorem TM(h:b∈kX ws ks):∃w,ws[b]?=ae w/\∀k∈w,k∈ks:=by
 obtain⟨h1,h2⟩:=B9.mp h;have hj:=B6.mp h1;refine⟨ws[b],Af hj,?_⟩;have:=of_decide_eq_true h2;rw[List.getD_eq_getElem?_getD,Af hj,F7]at this;exact this
theorem zP:∀{fs:List Fe}{ks ks':List Str},(∀k∈ks,k∈ks')->rF ks fs->rF ks' fs
 |[],_,_,_,_=>trivial
 |f::r,ks,ks',h,z=>⟨λk hk=>h k (z.1 k hk),zP (λk hk=>(Bc.mp hk).elim (λq=>Ec _ (h k q)) λq=>Be _ q) z.2⟩
theorem Ac.right_mono{a:Ac}(h:∀k∈ks,k∈ks')(z:a.right ws ks):a.right ws ks':=
 ⟨zP h z.1,λb hb=>by obtain⟨w,h1,h2⟩:=z.2 b hb;exact⟨w,h1,λk hk=>h k (h2 k hk)⟩⟩
theorem Vh(h:l9 ws (w,as))(hk:∀k∈ks,k∈w++as.flatMap Ac.bs)(ha:a.right ws ks):l9 ws (w,as++[a]):=λp b hb=>by
 dsimp only at hb ⊢;by_cases hp:p < as.length
 ·rw[Di hp]at hb;have:=h p b hb;unfold kn at this ⊢;rw[List.take_append_of_le_length (F6 hp)];exact this
 ·rw[Cb ⋯]at hb;have e0:p-as.length=0:=by
   by_cases e:p-as.length=0
   ·exact e
   ·rw[List.getElem?_eq_none (by rw[Ax];omega)]at hb;cases hb
  rw[e0]at hb;cases hb;have ep:p=as.length:=by omega
  subst ep;refine Ac.right_mono (λk z=>?_) ha;unfold kn;rw[List.take_append_of_le_length (An _),List.take_length];exact hk k z
structure ActO(ws:List (List Str))(want ks:List Str)(acts:List Ac):Prop where
 mem:∀k,k∈ks↔k∈want++acts.flatMap Ac.bs
 ok:∀k∈ks,gT k
 fs:∀a∈acts,ml a
 ri:l9 ws (want,acts)
def pX(ws:List (List Str))(bl:List Aa)(want:List Str)(nb:Int)(ds:List Aa)(δ:Sl)(n:Int):Prop:=∃(ks:List Str)(acts:List Ac)(x2 x7 x8 x9 x10:Option SV),
 δ=[ae (.w .tp),ae (.w (.d (.list (ws.map eh)))),x2,ae (.own bl),ae (.w (.d (eh want))),ae (.own (ks.map .str)),ae (.own (acts.map Ac.d)),x7,x8,x9,x10]/\ActO ws want ks acts/\ks.length+4*ds.length<=40/\acts.length+ds.length<=8/\n+11*(ds.length:Int)<=nb+89
theorem Uw(hw0:ws=[]::w0)(hwl:ws.length<=6)(hnb:nb+89 < 2 ^ 39)(O:ActO ws want ks acts)(hk:ks.length+4*(r.length+1)<=40)(ha:acts.length+(r.length+1)<=8)(hn:n+11*((r.length:Int)+1)<=nb+89)
  (kN:∀δ n,pX ws bl want nb r δ n->K.nx δ n):
  av (aB 8 (aZ (cL [ah,ae 5,ae 1] (dv (wB gf (aq ↥1 ao))) (aI 0) (cT (w2 (aZ (cL [ah,ae 1] (eQ (w2 ↥2 ↥0 aX)) (aI 0) (cT (w2 ↥0 ↥1 (fB ai))) ↥0)) (aZ (aN ao)) cn)) ↥0))) (av (cP (aH px (aq ↥0 (aq (dM 5) (aq ↥8 ao)))) (du 2 (br (aI 9) (br (aI 10) cv)))) (av (bq 6 ↥9) (aW (d5 ↥10) (aI 7) (aJ (cT (w2 ↥7 (dM 5) (fB ai))) (bq 5 ↥7) aM))))
   [ae (.w .tp),ae (.w (.d (.list (ws.map eh)))),ae (.w (.d d)),ae (.own bl),ae (.w (.d (eh want))),ae (.own (ks.map .str)),ae (.own (acts.map Ac.d)),x7,x8,x9,x10] n K:=by
 refine aE (show aB 8 _ _ _ _ from bb ?_);unfold cL dv;refine aU (au rfl ?_);refine Aj ⟨by omega,by rw[Ab];omega⟩ ?_;rw[Bi,Ab];refine J7 ws ks ?_;dsimp only[Al];refine aE ?_;unfold cP;have ol:(kX ws ks).length<=6:=A2 (Dj _ _) (by rw[Cu];exact hwl);refine b7 (au rfl (gw rfl (au rfl ?_)));refine Ek ks (Ek (kX ws ks) (Ek ws ⟨rfl,by omega,O.ok,SG hw0,by omega,λb hb=>TM hb,by omega,λact n' hfs hri hn'=>?_⟩));refine Aj rfl ?_;dsimp only[br,cv,aI,Al];refine aE (jW rfl (λQ q=>au rfl q) (by rw[Ab];omega) ?_);dsimp only[Al];unfold aW d5;refine au rfl ?_;dsimp only;have hbs:=BZ hfs.1;refine eV (λds δ n''=>∃(ks' dn bs':List Str)(x7:Option SV),ds=bs'.map .str/\dn++bs'=act.bs/\(∀k,k∈ks'↔k∈ks++dn)/\n''=n'/\δ=[ae (.w .tp),ae (.w (.d (.list (ws.map eh)))),ae (.w (.d d)),ae (.own bl),ae (.w (.d (eh want))),ae (.own (ks'.map .str)),ae (.own (acts.map Ac.d++[act.d])),x7,ae (.w (.d (.list ((kX ws ks).map λb=>.int (b:Nat))))),ae (.w (.d act.d)),ae (.w (.d (.list (act.bs.map .str))))]/\ks'.length+bs'.length<=ks.length+4)
  (λδ n'' I=>?_) (λe r' δ n'' N I kN'=>?_) _ _ _ ⟨ks,[],act.bs,x7,rfl,rfl,λk=>by simp,rfl,rfl,by have:=hbs.2;omega⟩
 ·obtain⟨ks',dn,bs',x7,e,hdn,hm,rfl,rfl,hk'⟩:=I;cases List.map_eq_nil_iff.mp e.symm;rw[Bw]at hdn;subst hdn;have hm':∀k,k∈ks'↔k∈want++(acts++[act]).flatMap Ac.bs:=λk=>by
   rw[hm k,Bc,O.mem k,List.flatMap_append,<-Bp,Bc (s:=want++acts.flatMap Ac.bs)];simp
  refine kN _ _ ⟨ks',acts++[act],_,_,_,_,_,by rw[Bd];rfl,⟨hm',λk z=>?_,λa z=>?_,Vh O.ri (λk z=>(O.mem k).mp z) hri⟩,by omega,by rw[Ai,Ax];omega,by omega⟩
  ·exact(Bc.mp ((hm k).mp z)).elim (O.ok k) (hbs.1 k)
  ·rcases Bc.mp z with z|z
   ·exact O.fs a z
   ·rw[Bj]at z;subst z;exact hfs
 ·obtain⟨ks',dn,bs',x7,e',hdn,hm,rfl,rfl,hk'⟩:=I;obtain⟨s,bs'',rfl,rfl,rfl⟩:=Gc.mp e'.symm;rw[Am]at hk';dsimp only[aI,Al];have hdn':(dn++[s])++bs''=act.bs:=by rw[Bp];exact hdn
  refine dq (ar (au rfl (gw rfl (Aj rfl ⟨sq ks',?_⟩))));refine jv (λz=>?_) (λz=>?_)
  ·refine jW rfl (λQ q=>au rfl q) (by rw[Ab];omega) (kN' _ _ ⟨ks'++[s],dn++[s],bs'',ae (.w (.d (.str s))),rfl,hdn',λk=>?_,rfl,?_,by rw[Ai,Ax];omega⟩)
   ·rw[Bc,hm k,<-Bp,Bc (s:=ks++dn)]
   ·rw[Bd];rfl
  ·have hs:s∈ks':=by
    have z':(!bU (.str s) (ks'.map .str))=aj:=z;rw[nr]at z';simpa using z'
   refine kN' _ _ ⟨ks',dn++[s],bs'',ae (.w (.d (.str s))),rfl,hdn',λk=>?_,rfl,rfl,by omega⟩;rw[<-Bp,Bc (s:=ks++dn),Bj,<-hm k];exact⟨.inl,λq=>q.elim id λe=>e▸hs⟩
def wZ(n0:Int)(ds:List Aa)(δ:Sl)(n:Int):Prop:=∃(more:List (List Str))(x2:Option SV),δ=[ae (.w .tp),ae (.own (([]::more).map eh)),x2,ah,ah,ah,ah,ah,ah,ah,ah]/\more.length+ds.length<=5/\(∀w∈more,w∈iS)/\n+(ds.length:Int)<=n0+6
def pz(ws:List (List Str))(n0:Int)(ds:List Aa)(δ:Sl)(n:Int):Prop:=∃(bl:List Bl)(re:List (List Str))(x2 x4 x5 x6 x7 x8 x9 x10:Option SV),
 δ=[ae (.w .tp),ae (.w (.d (.list (ws.map eh)))),x2,ae (.own (bl.map kP)),x4,x5,x6,x7,x8,x9,x10]/\ds=re.map eh/\bl.map (·.1)++re=ws/\(∀b∈bl,mC b/\l9 ws b)/\n+90*(ds.length:Int)<=n0+600
theorem Ts{bl:List Bl}(hw:∀w∈ws,w∈iS)(hw0:ws=[]::w0)(hwl:ws.length<=6)(hn0:n0+600 < 2 ^ 39)(hb:bl.map (·.1)++want::re=ws)(hbo:∀b∈bl,mC b/\l9 ws b)(hn:n+90*((re.length:Int)+1)<=n0+600)
  (kN:∀δ n,pz ws n0 (re.map eh) δ n->K.nx δ n):
  av (bz 5 (jt ↥4)) (av (bz 6 (aN ao)) (av (aW (dv (w2 (aZ (aN (aq ⇑2 (aq ⇑3 (aq ⇑1 (aq ⇑4 (aq ⇑2 (aq ⇑0 (aq ⇑3 (aq ⇑8 ao)))))))))) (aH cy (aq ↥0 (aq ⇑8 ao))) aX)) (aI 2) (av (aB 8 (aZ (cL [ah,ae 5,ae 1] (dv (wB gf (aq ↥1 ao))) (aI 0) (cT (w2 (aZ (cL [ah,ae 1] (eQ (w2 ↥2 ↥0 aX)) (aI 0) (cT (w2 ↥0 ↥1 (fB ai))) ↥0)) (aZ (aN ao)) cn)) ↥0))) (av (cP (aH px (aq ↥0 (aq (dM 5) (aq ↥8 ao)))) (du 2 (br (aI 9) (br (aI 10) cv)))) (av (bq 6 ↥9) (aW (d5 ↥10) (aI 7) (aJ (cT (w2 ↥7 (dM 5) (fB ai))) (bq 5 ↥7) aM)))))) (bH 6 (bq 3 (aw (aq ↥4 (aq (wB iB (aq ↥6 ao)) ao)))))))
   [ae (.w .tp),ae (.w (.d (.list (ws.map eh)))),x2,ae (.own (bl.map kP)),ae (.w (.d (eh want))),x5,x6,x7,x8,x9,x10] n K:=by
 obtain⟨hss,hso,hnd,hup⟩:=MS (hw want (by rw[<-hb];exact Be _ As));have hbl:bl.length+(re.length+1)<=6:=by rw[<-hb,Ai,Ab,Am]at hwl;exact hwl
 refine aE (J4 (ds:=want.map .str) rfl ?_);dsimp only[Al];refine aE (iM ?_);dsimp only[Al];refine aE (GG (L:=[.int 2,.int 3,.int 1,.int 4,.int 2,.int 0,.int 3,.int 8]) (M:=8) rfl (λQ q=>bb (Aj ∎ q)) ⋯ rfl ∎ ∎ (λd hd=>?_) ∎ λj hj=>?_)
 ·simp only[Ao,Aq,or_false]at hd;rcases hd with rfl|rfl|rfl|rfl|rfl|rfl|rfl|rfl
  ·exact⟨2,by decide,rfl⟩
  ·exact⟨3,by decide,rfl⟩
  ·exact⟨1,by decide,rfl⟩
  ·exact⟨4,by decide,rfl⟩
  ·exact⟨2,by decide,rfl⟩
  ·exact⟨0,by decide,rfl⟩
  ·exact⟨3,by decide,rfl⟩
  ·exact⟨8,by decide,rfl⟩
 refine eV (pX ws (bl.map kP) want n) (λδ n' I=>?_) (λd r' δ n' N I kN'=>?_) _ _ _ ⟨want,[],_,_,_,_,_,rfl,⟨λk=>by simp,hso,λa ha=>by simp at ha,λp a ha=>by simp at ha⟩,by rw[e9];omega,by rw[e9];simpa using hj,by rw[e9];omega⟩
 ·obtain⟨ks,acts,y2,y7,y8,y9,y10,rfl,O,_,ha,hn'⟩:=I;dsimp only;refine gy rfl ?_;dsimp only[Al];refine jm rfl (cZ (au rfl (aU (au rfl (kR ?_)))));have ha':acts.length<=8:=by simpa using ha
  refine Aj (show 2<=1000 by decide) (Aj (by rw[Ab];omega) (kN _ _ ⟨bl++[(want,acts)],re,_,_,_,_,_,_,_,_,by rw[Bd];rfl,rfl,by rw[Bd,Bp];exact hb,λb z=>?_,?_⟩))
  ·rcases Bc.mp z with z|z
   ·exact hbo b z
   ·rw[Bj]at z;subst z;exact⟨⟨hss,hso,ha',O.fs,hnd,hup⟩,O.ri⟩
  ·have h0:n'<=n+89:=by simpa using hn'
   rw[Ab];omega
 ·obtain⟨ks,acts,y2,y7,y8,y9,y10,rfl,O,hk,ha,hn'⟩:=I;rw[Am]at hk ha hn';dsimp only[aI,Al];exact Uw hw0 hwl ⋯ O hk ha ⋯ kN'
theorem JY:bV ue BD ["_law_tape_here","_law_wants","_law_k","_law_blocks","_law_want","_law_known","_law_acts","_law_name","_law_open_ones","_law_act_here","_law_bound"]:=λws n0 Q h=>by
 obtain⟨rfl,hn0,k⟩:=h;show BD [ae (.w .tp),ah,ah,ah,ah,ah,ah,ah,ah,ah,ah] n0 _;refine aE (show bz 1 _ _ _ _ from Aj (Bm _) (Aj ∎ ?_));dsimp only[Al];refine aE (GG (L:=[.int 0,.int 1,.int 2,.int 1,.int 0,.int 2,.int 5]) (M:=5) rfl (λQ q=>bb (Aj ∎ q)) ⋯ rfl ∎ ∎ (λd hd=>?_) ∎ λj hj=>?_)
 ·simp only[Ao,Aq,or_false]at hd;rcases hd with rfl|rfl|rfl|rfl|rfl|rfl|rfl
  ·exact⟨0,by decide,rfl⟩
  ·exact⟨1,by decide,rfl⟩
  ·exact⟨2,by decide,rfl⟩
  ·exact⟨1,by decide,rfl⟩
  ·exact⟨0,by decide,rfl⟩
  ·exact⟨2,by decide,rfl⟩
  ·exact⟨5,by decide,rfl⟩
 refine eV (wZ n0) (λδ n I=>?_) (λd r δ n N I kN=>?_) _ _ _ ⟨[],ah,rfl,by rw[e9];simpa using hj,λd hd=>by simp at hd,by rw[e9];omega⟩
 ·obtain⟨more,x2,rfl,hl,hm,hn⟩:=I;dsimp only;refine aE (iM ?_);dsimp only[Al];refine gy rfl ?_;dsimp only[Al];refine aE ?_;unfold aW d5;refine au rfl ?_;dsimp only;have hw:∀w∈([]:List Str)::more,w∈iS:=λd hd=>by
   rcases Ao.mp hd with rfl|z
   ·simp[iS]
   ·exact hm d z
  have hwl:(([]:List Str)::more).length<=6:=by rw[Am];simp at hl;omega
  refine eV (pz ([]::more) n0) (λδ n' I=>?_) (λd r δ n' N I kN=>?_) _ _ _ ⟨[],[]::more,_,_,_,_,_,_,_,_,rfl,rfl,rfl,λb hb=>by simp at hb,?_⟩
  ·obtain⟨bl,re,y2,y4,y5,y6,y7,y8,y9,y10,rfl,er,hb,hbo,hn'⟩:=I;cases List.map_eq_nil_iff.mp er.symm;rw[Bw]at hb;dsimp only;refine gy rfl ?_;dsimp only[Al];refine bc (aU (au rfl (kR (k bl n' ⟨by have:=congrArg Dv hb;simp at this;omega,?_,λb z=>⟨(hbo b z).1,by rw[hb];exact(hbo b z).2⟩⟩ ⟨more,hb⟩ (by simpa using hn')))));rw[<-hb,Ab]at hwl;exact hwl
  ·obtain⟨bl,re,y2,y4,y5,y6,y7,y8,y9,y10,rfl,er,hb,hbo,hn'⟩:=I;obtain⟨want,re,rfl,rfl,rfl⟩:=Gc.mp er.symm;rw[Am,Ab]at hn';dsimp only[aI,Al];exact Ts hw rfl hwl hn0 hb hbo ⋯ kN
  ·have h1:n<=n0+6:=by simpa using hn
   have h2:(((([]:List Str)::more).map eh).length:Int)<=6:=by rw[Ab];omega
   omega
 ·obtain⟨more,x2,rfl,hl,hm,hn⟩:=I;rw[Am]at hl hn;dsimp only[aI,Al];refine jm rfl (ar (bb (Aj ∎ (Aj ∎ (Aj ∎ (Aj ∎ (Aj ∎ (Aj ∎ ?_))))))));dsimp only;refine gn (m:=5) rfl ⋯ ∎ ∎ λq q0 q1=>iX (ds:=[eh [],eh ["n"],eh ["go","n"],eh ["nm"],eh []]) q0 q1 λw hw=>?_;have:∃v∈iS,w=eh v:=by
   simp only[Ao,Aq,or_false]at hw;rcases hw with rfl|rfl|rfl|rfl|rfl
   ·exact⟨[],by simp[iS],rfl⟩
   ·exact⟨["n"],by simp[iS],rfl⟩
   ·exact⟨["go","n"],by simp[iS],rfl⟩
   ·exact⟨["nm"],by simp[iS],rfl⟩
   ·exact⟨[],by simp[iS],rfl⟩
  obtain⟨v,hv,rfl⟩:=this;refine Aj (by rw[Ab,Am];omega) (kN _ _ ⟨more++[v],ae (.w (.d d)),?_,by rw[Ai,Ax];omega,λe he=>?_,by omega⟩)
  ·rw[show([]::(more++[v]):List (List Str))=([]::more)++[v]from rfl,Bd];rfl
  rcases Bc.mp he with z|z
  ·exact hm e z
  ·rw[Bj]at z;subst z;exact hv
section
variable{δ:Sl}{n:Int}{K:DEnds}{i:Nat}{s a b c:Str}{r:List Aa}{k:Bool}{Q:Bool->Int->Prop}
theorem mr(ha:∀Q:Bool->Int->Prop,Q aj n->A δ n Q)(q:Q aj n):dJ A B δ n Q:=ha _ (by show if aj=ai then _ else _;rw[if_neg Ae];exact q)
end
theorem G1{α:Type}{f:α->Aa}{P:α->Prop}:∀{ds:List Aa},(∀d∈ds,∃x,P x/\d=f x)->∃xs:List α,ds=xs.map f/\∀x∈xs,P x
 |[],_=>⟨[],rfl,λx hx=>by simp at hx⟩
 |d::r,h=>by
  obtain⟨x,hx,rfl⟩:=h d As;obtain⟨xs,rfl,hxs⟩:=G1 λe he=>h e (Ar _ he);exact⟨x::xs,rfl,λy hy=>(Ao.mp hy).elim (λe=>e▸hx) (hxs y)⟩
def vi(m:Nat)(n0:Int)(ds:List Aa)(δ:Sl)(n:Int):Prop:=∃(ns:List Nt)(x y:Option SV),δ=[ae (.w .tp),ae (.w (.d (.int m))),ae (.own (ns.map bI)),x,y]/\ns.length+ds.length<=m/\(∀q∈ns,kh q)/\n+6*(ds.length:Int)<=n0+100
theorem Nl:bV tH DK ["_law_tape_here","_law_most","_law_found","_law_k","_law_row_here"]:=λws n0 Q h=>by
 obtain⟨m,rfl,hm,hn0,k⟩:=h;show DK [ae (.w .tp),ae (.w (.d (.int m))),ah,ah,ah] n0 _;refine aE (iM ?_);dsimp only[Al];refine aE ?_;unfold aW dv;refine iI (m:=(m:Int)+1) rfl (λQ q=>ar (au rfl (aC q))) ⋯ ⋯ ⋯ λr r0 r1=>?_;refine Aj ⟨by omega,by omega⟩ ?_;have hr:r.toNat<=m:=by omega
 refine eV (vi m n0) (λδ n I=>?_) (λd r' δ n N I kN=>?_) _ _ _ ⟨[],ah,ah,rfl,by rw[e9];simpa using hr,λd hd=>by simp at hd,by rw[e9];omega⟩
 ·obtain⟨ns,x,y,rfl,hl,hns,hn⟩:=I;dsimp only;refine gy rfl ?_;dsimp only[Al];exact bc (aU (au rfl (kR (k ns n ⟨by simpa using hl,hns⟩ (by simpa using hn)))))
 ·obtain⟨ns,x,y,rfl,hl,hns,hn⟩:=I;rw[Am]at hl hn;dsimp only[aI,Al];refine aE (show aB 4 _ _ _ _ from aU (bb ?_));unfold cL;dsimp only;refine cF (au rfl (Aj rfl ⟨by omega,λs s1 s4=>?_⟩));refine Aj ⟨by omega,by omega⟩ ?_;rw[Bi];refine xI (λv=>cz v=ai) 1 (λd n Q' hn q=>cF (au rfl (Aj rfl ⟨by omega,λv hv=>q v _ (r8 hv) ⋯⟩))) _ [] ah _ (by rw[e9];omega) λrow n' hrl hrow hn'=>?_;rw[e9]at hrl hn';rw[Bv];refine kR ?_;dsimp only[Al];refine jm rfl (cZ (au rfl (FV rfl ⋯ λv hv=>?_)));refine Aj (show 2<=1000 by decide) (Aj (by rw[Ab];omega) (kN _ _ ⟨ns++[(row,v)],_,_,by rw[Bd];rfl,by rw[Ai,Ax];omega,λe he=>?_,by omega⟩));rcases Bc.mp he with z|z
  ·exact hns e z
  ·rw[Bj]at z;subst z;exact⟨⟨⟨by show row.length<=4;omega,by show 1<=row.length;omega⟩,hrow⟩,zA hv⟩
theorem Vu:bV uB Jo ["_law_tape_here","_law_programs"]:=λws n0 Q h=>by
 obtain⟨rfl,hn0,k⟩:=h;show Jo [ae (.w .tp),ah] n0 _;refine aE (show bz 1 _ _ _ _ from ?_);unfold bz cL dv;refine ar (bb (Aj ∎ ?_));dsimp only;refine gn (m:=8) rfl ⋯ ∎ ∎ λq q0 q1=>iX (ds:=[.int 2,.int 1,.int 2,.int 3,.int 2,.int 1,.int 0,.int 5]) q0 q1 λd hd=>?_;have hj:∃j:Nat,j<=5/\d=.int j:=by
  simp only[Ao,Aq,or_false]at hd;rcases hd with rfl|rfl|rfl|rfl|rfl|rfl|rfl|rfl
  ·exact⟨2,by decide,rfl⟩
  ·exact⟨1,by decide,rfl⟩
  ·exact⟨2,by decide,rfl⟩
  ·exact⟨3,by decide,rfl⟩
  ·exact⟨2,by decide,rfl⟩
  ·exact⟨1,by decide,rfl⟩
  ·exact⟨0,by decide,rfl⟩
  ·exact⟨5,by decide,rfl⟩
 obtain⟨j,hj,rfl⟩:=hj;refine Aj ⟨by omega,by omega⟩ ?_;rw[Bi];refine xI (λd=>∃P,(qZ P/\iZ P)/\d=fg P) 600 (λd n Q' hn q=>cF (au rfl (Aj rfl ⟨by omega,λP n' hP hP' hn'=>q (fg P) n' ⟨P,⟨hP,hP'⟩,rfl⟩ ⋯⟩))) _ [] ah _ (by rw[e9];omega) λds n1 hpl hps0 hn1=>?_;rw[e9]at hpl hn1;rw[Bv];obtain⟨ps,rfl,hps⟩:=G1 hps0;clear hps0;rw[Ab]at hpl;dsimp only[Al];have aR:∀(ps':Pg)(n2:Int),ps'.length<=5->(∀P∈ps',qZ P/\iZ P)->n2<=n1+1->bH 1 (az (aw (aq (wB iB (aq ↥1 ao)) (aq (aH tH (aq ↥0 (aq (w2 (aZ (aN (aq ⇑4 (aq ⇑3 (aq ⇑6 (aq ⇑12 ao)))))) (aH cy (aq ↥0 (aq ⇑4 ao))) aX) ao))) ao)))) [ae (.w .tp),ae (.own (ps'.map fg))] n2 {nx:=λ_ n=>Q (.d .none) n,rt:=Q}:=λps' n2 hl' hp' hn2=>by
  refine gy rfl ?_;dsimp only[Al];refine bc (cZ (aU (au rfl (kR (bG (au rfl (ar (bb (Aj ∎ ?_)))))))));dsimp only;refine gn (m:=4) rfl ⋯ ∎ ∎ λr r0 r1=>iX (ds:=[.int 4,.int 3,.int 6,.int 12]) r0 r1 λd hd=>?_;have hm:∃m:Nat,m<=12/\d=.int m:=by
   simp only[Ao,Aq,or_false]at hd;rcases hd with rfl|rfl|rfl|rfl
   ·exact⟨4,by decide,rfl⟩
   ·exact⟨3,by decide,rfl⟩
   ·exact⟨6,by decide,rfl⟩
   ·exact⟨12,by decide,rfl⟩
  obtain⟨m,hm,rfl⟩:=hm;exact Ek m ⟨rfl,hm,by omega,λns n' hns hn'=>Aj (show 2<=1000 by decide) (k ps' _ n' ⟨hl',λP hP=>(hp' P hP).1⟩ (λP hP=>(hp' P hP).2) ⟨A2 hns.1 hm,hns.2⟩ ⋯)⟩
 refine aE (dq ?_);refine(show cT _ _ _ _ from ar (aU (gw rfl (DU (aC (l5 ?_))))));rw[Ab];show if decide ((ps.length:Int)=2)=ai then _ else _
 by_cases h2:(ps.length:Int)=2
 ·rw[if_pos (decide_eq_true h2)];refine ar (gn (m:=4) rfl ⋯ ∎ ∎ λq q0 q1=>aC (l5 ?_));show if decide (q=0)=ai then _ else _
  by_cases hq:q=0
  ·rw[if_pos (decide_eq_true hq)];have hl2:ps.length=2:=by omega
   obtain⟨P,P',rfl⟩:∃P P',ps=[P,P']:=by
    match ps,hl2 with
    |[P,P'],_=>exact⟨P,P',rfl⟩
   refine(show fP 1 _ _ _ _ _ from ar (gw rfl (aC ?_)));refine(show aX (.ln [fg P,fg P']) (.d (.int 0)) _ _ from ?_);refine aR [P,P] _ (show 2<=5 by decide) (λR hR=>?_) ⋯;simp only[Ao,Aq,or_false,or_self]at hR;subst hR;exact hps _ As
  ·rw[if_neg (by simpa using hq)];exact aR ps _ ⋯ hps ⋯
 ·rw[if_neg (by simpa using h2)];exact aR ps _ ⋯ hps ⋯
theorem dA(k:Q (.d (.int (i+j))) n):bY (λi j=>.int (i+j)) (.d (.int i)) (.d (.int j)) n Q:=k
theorem OI(as:List Ac)(h:∀a∈as,ml a):(as.flatMap Ac.bs).length<=4*as.length:=by
 induction as with
 |nil=>exact Bm _
 |cons a r ih=>
  rw[List.flatMap_cons,Ai,Am];have:=(BZ (h a As).1).2;have:=ih λb hb=>h b (Ar _ hb);omega
theorem Si(ob:mC b)(p):(kn b.1 b.2 p).length<=36:=by
 unfold kn;rw[Ai];have:=OI (b.2.take p) λa ha=>ob.2.2.2.1 a (Du ha);have:=List.length_take_le p b.2;have:=ob.1;have:=ob.2.2.1;have:=List.length_take_le' p b.2;omega
theorem fN(hu:∀Q:Bool->Int->Prop,Q b n->u δ n Q)(k:if b=ai then v δ n Q else w δ n Q):eu u v w δ n Q:=hu _ k
theorem iR{α:Type}{aR:Sl}(f g)(p):∀(xs:List α)(acc:List Aa)(x:Option SV)(n:Int),(∀a∈xs,∀(n:Int)(Q':Bool->Int->Prop),Q' (p a) n->c (ae (.w (.d (f a)))::aR) n Q')->(∀a∈xs,∀(n:Int)(Q':DQ),Q' (.d (g a)) n->w (ae (.w (.d (f a)))::aR) n Q')->Q (acc++(xs.filter p).map g) n->c7 (aI 0) c w Q (xs.map f) acc (x::aR) n
 |[],acc,x,n,_,_,q=>by rw[List.filter_nil,List.map_nil,Bw]at q;exact q
 |a::r,acc,x,n,hp,h,q=>by
  simp only[Bb,c7,aI,D4];refine hp a As n _ ?_;cases e:p a with
  |true=>
   simp only[if_true];refine h a As n _ (iR f g p r (acc++[g a]) _ n (λb hb=>hp b (Ar _ hb)) (λb hb=>h b (Ar _ hb)) ?_);rw[C9,if_pos e,Bb]at q;rw[Bp];exact q
  |false=>
   simp only[Fv,if_false];refine iR f g p r acc _ n (λb hb=>hp b (Ar _ hb)) (λb hb=>h b (Ar _ hb)) ?_;rw[C9,if_neg (by rw[e];exact Ae)]at q;exact q
structure HandAt(ps:Pg)(hs:List Hn)(h:Nat)(P:List Bl)(xb xp:Nat)(nm:Nm)(w:List Str)(as:List Ac):Prop where
 prog:ps[h]?=ae P
 hand:hs[h]?=ae (xb,xp,nm)
 blk:P[xb]?=ae (w,as)
 hn:okHn (w,as) (xb,xp,nm)
theorem je(ok:okHs ps hs)(hh:h < ps.length):∃P xb xp nm w as,HandAt ps hs h P xb xp nm w as:=by
 have hP:ps[h]?=ae ps[h]:=Af hh;obtain⟨⟨xb,xp,xn⟩,⟨w,as⟩,e1,e2,e3⟩:=ok.2 h _ hP;exact⟨_,xb,xp,xn,w,as,hP,e1,e2,e3⟩
section
variable{ps:Pg}{hs:List Hn}{h:Nat}{P:List Bl}{xb xp:Nat}{nm:Nm}{w:List Str}{as:List Ac}
theorem HandAt.act(H:HandAt ps hs h P xb xp nm w as):bP ps hs h=as[xp]?:=by
 unfold bP;rw[H.prog,H.hand];show(P[xb]?.bind λb=>b.2[xp]?)=_;rw[H.blk];rfl
theorem HandAt.nms(H:HandAt ps hs h P xb xp nm w as):okN nm:=H.hn.n
theorem HandAt.nmq(H:HandAt ps hs h P xb xp nm w as):iw hs h=nm:=by unfold iw;rw[H.hand];rfl
theorem HandAt.ok(H:HandAt ps hs h P xb xp nm w as)(ok:cH ps)(e:bP ps hs h=ae a):ml a:=by
 rw[H.act]at e;have hP:=(ok.2 P (A4 H.prog)).2.2 (w,as) (A4 H.blk);exact hP.1.2.2.2.1 a (A4 e)
theorem HandAt.hD(H:HandAt ps hs h P xb xp nm w as):(hs.map bW)[h]?=ae (.tuple [.int xb,.int xp,cJ nm]):=by rw[Aw,H.hand];rfl
theorem HandAt.pD(H:HandAt ps hs h P xb xp nm w as):(ps.map fg)[h]?=ae (.tuple (P.map kP)):=by rw[Aw,H.prog];rfl
theorem HandAt.bD(H:HandAt ps hs h P xb xp nm w as):(P.map kP)[xb]?=ae (.tuple [eh w,.tuple (as.map Ac.d)]):=by rw[Aw,H.blk];rfl
end
theorem DB{i j xp:Nat}{as:List Ac}(e4:δ[j]?=ae (ae (.w (.d (.int xp)))))(e5:δ[i]?=ae (ae (.w (.d (.tuple (as.map Ac.d))))))(k:Q (.d (tZ as[xp]?)) n):eu (cT (w2 (ak j) (wB bj (aq (ak i) ao)) gM)) (w2 (ak i) (ak j) aA) (wC .none) δ n Q:=by
 refine fN (b:=decide ((xp:Int) < ((as.map Ac.d).length:Nat))) (λQ q=>aF (λQ q=>ar (au e4 (aU (au e5 (xY q))))) q) ?_;rw[Ab];by_cases z:(xp:Int) < (as.length:Nat)
 ·rw[if_pos (decide_eq_true z)];have zl:xp < as.length:=by omega
  have ha:(as.map Ac.d)[xp]?=ae (Ac.d as[xp]):=by rw[Aw,Af zl];rfl
  rw[Af zl]at k;exact ar (au e5 (au e4 (bN ha k)))
 ·rw[if_neg (by simpa using z)];rw[List.getElem?_eq_none ⋯]at k;exact aC k
theorem Ke:bV iH Hv ["programs","stand","hand","block","place","acts"]:=λws n Q h=>by
 obtain⟨ps,hs,ns,h,rfl,hok,hh,k⟩:=h;obtain⟨P,xb,xp,nm,w,as,H⟩:=je hok hh;rw[H.act]at k;show Hv [ae (.w (.d (a8 ps))),ae (.w (.d (bQ hs ns))),ae (.w (.d (.int h))),ah,ah,ah] n _;refine aE (bA (x:=.int xb) (λQ q=>ar (ar (ar (au rfl (aC (bO (au rfl (bN H.hD (aC (bO q)))))))))) ?_);dsimp only[Al];refine aE (bA (x:=.int xp) (λQ q=>ar (ar (ar (au rfl (aC (bO (au rfl (bN H.hD (aC (cV q)))))))))) ?_);dsimp only[Al];refine aE (bA (x:=.tuple (as.map Ac.d)) (λQ q=>ar (ar (ar (au rfl (au rfl (bN H.pD (au rfl (bN H.bD (aC (cV q)))))))))) ?_);dsimp only[Al];exact bc (DB rfl rfl k)
theorem Ut:bV iH HA ["_law_programs","_law_stand","_law_hand","_law_block","_law_place","_law_names","_law_acts"]:=λws n Q h=>by
 obtain⟨ps,hs,ns,h,rfl,hok,hh,k⟩:=h;obtain⟨P,xb,xp,nm,w,as,H⟩:=je hok hh;rw[H.act]at k;show HA [ae (.w (.d (a8 ps))),ae (.w (.d (bQ hs ns))),ae (.w (.d (.int h))),ah,ah,ah,ah] n _;refine aE ?_;unfold cP;refine ar (ar (au rfl (aC (bO (au rfl (bN H.hD ?_))))));refine Aj rfl ?_;dsimp only[br,cv,aI,Al];refine aE (bA (x:=.tuple (as.map Ac.d)) (λQ q=>ar (ar (ar (au rfl (au rfl (bN H.pD (au rfl (bN H.bD (aC (cV q)))))))))) ?_);dsimp only[Al];exact bc (DB rfl rfl k)
section
variable{δ:Sl}{n:Int}{K:DEnds}{a v:Aa}{r:List Aa}{x:Str}{hp:Nm}{hs:List Str}{W V:aP}
theorem IW(e:δ[8]?=ae (ae (.w (.d (.bool b)))))(kT:b=ai->K.nx δ n)(kF:b=aj->K.rt (.d .none) n):aJ (cQ (cT ↥8)) (az (wC .none)) aM δ n K:=by
 refine dq (jC (k:=b) (λQ q=>aF (λQ q=>au e q) q) ?_);cases b with
 |true=>exact kT rfl
 |false=>exact kF rfl
def qP(hp:Nm)(x:Str)(v:Aa):Bool:=((look hp x).map λw=>fC w v).getD aj
theorem HW(e5:δ[5]?=ae (ae (.w (.d (.tuple (a::.str x::r))))))(e3:δ[3]?=ae (ae (.odk (bx hp))))(e6:δ[6]?=ae (ae (.w (.d v))))(hv:cz v=ai)(hok:∀p∈hp,gx p)(k:K.nx (δ.set 8 (ae (.w (.d (.bool (qP hp x v)))))) n):
  aB 8 (fY (w2 (w2 ↥5 (wC (.int 1)) aA) (cS 3) (fE aj)) (w2 (w2 (cS 3) (w2 ↥5 (wC (.int 1)) aA) gN) ↥6 aT)) δ n K:=by
 unfold aB fY;refine ar (dZ e5 ?_);have pk:∀(n:Int)(Q:DQ),Q (.dk (bx hp)) n->cS 3 δ n Q:=λn Q q=>by unfold cS;rw[e3];exact q
 refine pk _ _ ?_;show hZ (.d (.bool (bh (bx hp) (.inr x)).isSome)) _ _;rw[kG];unfold qP at k;cases q:look hp x with
 |none=>rw[q]at k;exact k
 |some w=>
  rw[q]at k;rw[Option.isSome_some,Gz,if_pos rfl];refine ar (ar (pk _ _ (dZ e5 ?_)));unfold gN;simp only[kG,q];refine au e6 ?_;unfold aT;simp only[mN (hok _ (lS q)).2 hv];exact k
theorem II(hg:g=.as x\/g=.bind x/\x∈hs):wk ((g,v)::l) hp hs=if qP hp x v=ai then wk l hp hs else ah:=by
 unfold qP;rcases hg with rfl|⟨rfl,hx⟩
 ·rw[wk];cases q:look hp x with
  |none=>rw[Option.map_none,Option.getD_none,if_neg Ae]
  |some w=>rw[Ga,F7]
 ·rw[wk,if_pos hx];cases q:look hp x with
  |none=>rw[Option.map_none,Option.getD_none,if_neg Ae]
  |some w=>rw[Ga,F7]
theorem jl{s a b:Str}(e:δ[i]?=ae (ae (.w (.d (.str s)))))(h:bU (.str s) [.str a,.str b]=k)(q:Q k n):cT (w2 (ak i) (aw (aq (wC (.str a)) (aq (wC (.str b)) ao))) (fO aj)) δ n Q:=by
 refine ar (au e ?_);show 2<=1000/\fA (.str s)=ai/\_/\Q (bU (.str s) [.str a,.str b]) n;exact⟨by decide,rfl,rfl,by rw[h];exact q⟩
theorem T2(s)(e7:δ[7]?=ae (ae (.w (.d (.str s)))))(h1:bL "as" (.str s)=aj)(h2:bL "bind" (.str s)=aj)(hF:V δ n K):
  aJ (hU (cT (w2 ↥7 (wC (.str "as")) aT)) (dJ (cT (w2 ↥7 (wC (.str "bind")) aT)) (cT (nh 4 (w2 ↥5 (wC (.int 1)) aA))))) W V δ n K:=by
 refine aQ (λQ q=>gH (λQ q=>gW e7 ?_) (mr (λQ q=>gW e7 ?_) q)) hF
 ·show Q (bL "as" (.str s)) n;rw[h1];exact q
 ·show Q (bL "bind" (.str s)) n;rw[h2];exact q
theorem Ki(e7:δ[7]?=ae (ae (.w (.d (.str "bind")))))(e5:δ[5]?=ae (ae (.w (.d (.tuple [.str "bind",.str x])))))(e4:δ[4]?=ae (ae (.own (hs.map .str))))(hT:x∈hs->W δ n K)(hF:x∉hs->V δ n K):
  aJ (hU (cT (w2 ↥7 (wC (.str "as")) aT)) (dJ (cT (w2 ↥7 (wC (.str "bind")) aT)) (cT (nh 4 (w2 ↥5 (wC (.int 1)) aA))))) W V δ n K:=by
 refine dq (gH (λQ q=>gW e7 ?_) (lN (λQ q=>gW e7 ?_) ?_))
 ·show Q (bL "as" (.str "bind")) n;rw[OO];exact q
 ·show Q (bL "bind" (.str "bind")) n;rw[vw];exact q
 ·unfold cT nh;refine dZ e5 ?_;rw[e4];refine⟨rfl,sq hs,?_⟩;show if bU (.str x) (hs.map .str)=ai then _ else _
  rw[nr];exact IC hT hF
end
theorem SF(e:δ[i]?=ae (ae (.odk kvs)))(k:W (δ.set i (ae (.w (.ob (.k kvs))))) n K):bH i W δ n K:=by
 unfold bH;rw[e];exact k
def oB:Option Nm->Wv
 |none=>.d .none
 |some h=>.ob (.k (bx h))
theorem Qw(h:¬fs.length=row.length):eT fs row nm=.d .none:=by
 unfold eT c8;rw[decide_eq_false h,if_neg (by rw[Bool.false_and];exact Ae)]
theorem JJ(h:fs.length=row.length):eT fs row nm=oB (wk (fs.zip row) nm []):=by
 unfold eT c8 dI;rw[decide_eq_true h,Fo];cases wk (fs.zip row) nm []with
 |none=>rw[if_neg (by rw[Option.isSome_none];exact Ae)];rfl
 |some x=>rw[if_pos (show(ae x).isSome=ai from rfl)];rfl
theorem OC:bV uy vA ["_law_pattern_here","_law_row_here","_law_names","_law_has","_law_mine","_law_field","_law_value_here","_law_word","_law_good"]:=λws n Q h=>by
 obtain⟨fs,row,nm,rfl,okp,okr,okn,k⟩:=h;show vA [ae (.w (.d (dC fs))),ae (.w (.d (.tuple row))),ae (.w (.d (cJ nm))),ah,ah,ah,ah,ah,ah] n {nx:=λ_ n=>Q (.d .none) n,rt:=Q};unfold vA;refine aE (zm (xs:=fs.map Fd.d) (ys:=row) rfl rfl (λne=>?_) λel=>?_)
 ·show Q (.d .none) n;rw[Ab]at ne;rw[Qw ne]at k;exact k
 ·rw[Ab]at el;rw[JJ el]at k;dsimp only[aM];refine aE (oV rfl okn ?_);dsimp only[Al];refine aE (iM ?_);dsimp only[Al];refine aE (CC (xs:=fs.map Fd.d) (ys:=row) rfl rfl (by rw[Ab];exact el) ?_);refine eV (λds δ m=>m=n/\∃(gs:List Fd)(vs:List Aa)(hp:Nm)(hs:List Str)(y z u t:Option SV),ds=dz (gs.map Fd.d) vs/\gs.length=vs.length/\δ=[ae (.w (.d (dC fs))),ae (.w (.d (.tuple row))),ae (.w (.d (cJ nm))),ae (.odk (bx hp)),ae (.own (hs.map .str)),y,z,u,t] /\
   (∀g∈gs,g.ok)/\(∀d∈vs,cz d=ai)/\(hp.map (·.1)).Nodup/\(∀p∈hp,gx p)/\hp.length+gs.length<=48/\hs.length+gs.length<=48/\Q (oB (wk (gs.zip vs) hp hs)) n) ?_ ?_ _ _ _ ?_
  ·rintro δ m ⟨rfl,gs,vs,hp,hs,y,z,u,t,e,hl,rfl,gok,vok,nd,hok,l1,l2,kq⟩
   have:gs=[]:=by
    cases gs with
    |nil=>rfl
    |cons g gs=>cases vs with|nil=>cases hl|cons v vs=>cases e
   subst this;dsimp only;refine SF rfl ?_;dsimp only[Al];exact bc (au rfl (show Q (.ob (.k (bx hp))) m from kq))
  ·rintro d r δ m N ⟨rfl,gs,vs,hp,hs,y,z,u,t,e,hl,rfl,gok,vok,nd,hok,l1,l2,kq⟩ hN
   cases gs with
   |nil=>cases e
   |cons g gs=>
    cases vs with
    |nil=>cases hl
    |cons v vs=>
     have e1:d=.tuple [g.d,v]:=by have:=congrArg (λl=>l.head?) e;simpa[dz]using this
     have e2:r=dz (gs.map Fd.d) vs:=by have:=congrArg List.tail e;simpa[dz]using this
     subst e1 e2;rw[Am]at l1 l2;rw[Am,Am]at hl;have gk:=gok g As;have vk:=vok v As;rw[Fu]at kq;have no:(wk ((g,v)::gs.zip vs) hp hs=ah)->Q (.d .none) m:=λw=>by rw[w]at kq;exact kq
     have go:∀(hp':Nm)(hs':List Str)(y z u t:Option SV),wk ((g,v)::gs.zip vs) hp hs=wk (gs.zip vs) hp' hs'->(hp'.map (·.1)).Nodup->(∀p∈hp',gx p)->hp'.length<=hp.length+1->hs'.length<=hs.length+1->
       N [ae (.w (.d (dC fs))),ae (.w (.d (.tuple row))),ae (.w (.d (cJ nm))),ae (.odk (bx hp')),ae (.own (hs'.map .str)),y,z,u,t] m:=λhp' hs' y z u t hw a1 a2 a3 a4=>
      hN _ _ ⟨rfl,gs,vs,hp',hs',y,z,u,t,rfl,by omega,rfl,λg hg=>gok g (Ar _ hg),λd hd=>vok d (Ar _ hd),a1,a2,by omega,by omega,by rw[<-hw];exact kq⟩
     have fin:∀(b:Bool)(y z u:Option SV)(hw:wk ((g,v)::gs.zip vs) hp hs=if b=ai then wk (gs.zip vs) hp hs else ah),aJ (cQ (cT ↥8)) (az (wC .none)) aM [ae (.w (.d (dC fs))),ae (.w (.d (.tuple row))),ae (.w (.d (cJ nm))),ae (.odk (bx hp)),ae (.own (hs.map .str)),y,z,u,ae (.w (.d (.bool b)))] m {nx:=N,ct:=N,bk:=λδ n_1=>bH 3 (az ↥3) δ n_1 {nx:=λ_ n=>Q (.d .none) n,rt:=Q},rt:=Q}:=λb y z u hw=>
      IW rfl (λz'=>go hp hs _ _ _ _ (by rw[hw,if_pos z']) nd hok ⋯ ⋯) (λz'=>no (by rw[hw,if_neg (by rw[z'];exact Ae)]))
     refine⟨rfl,?_⟩;dsimp only[br,aI,cv,Al];refine aE (bA (x:=.str g.hd) (λQ q=>d4 (r:=g.tl) (by rw[Fd.parts];rfl) q) ?_);dsimp only[Al];refine aE (bA (x:=.bool ai) (λQ q=>aC q) ?_);dsimp only[Al];cases g with
     |any=>
      refine aE (mJ (d:=.str "any") rfl Q7 (aQ (λQ q=>jl (s:="any") rfl ∅ q) (T2 "any" rfl ∅ ∅ (mJ (d:=.str "any") rfl ∅ ?_))));dsimp only[aM];exact fin ai _ _ _ (by rw[wk,if_pos rfl])
     |is w=>
      refine aE (DV (d:=.str "is") rfl vj (bA (x:=.bool (fC w v)) (λQ q=>ar (dZ (a:=.str "is") (b:=w) (r:=[]) rfl (au rfl ?_))) ?_))
      ·unfold aT;simp only[mN (show cz w=ai from gk) vk];exact q
      dsimp only[Al];exact fin _ _ _ _ (by rw[wk])
     |word=>
      refine aE (mJ (d:=.str "word") rfl QU (bw (λQ q=>jl (s:="word") rfl ∅ q) (bA (x:=.bool (jc v)) (λQ q=>ar ?_) ?_)))
      ·unfold cb;refine au rfl (gW (d:=.str "word") rfl ?_);rw[Ox];cases v with
       |str s=>rw[mK];exact q
       |int i=>rw[mK];exact q
       |_=>cases vk
      dsimp only[Al];exact fin _ _ _ _ (by rw[wk])
     |number=>
      refine aE (mJ (d:=.str "number") rfl T3 (bw (λQ q=>jl (s:="number") rfl ∅ q) (bA (x:=.bool (i9 v)) (λQ q=>ar ?_) ?_)))
      ·unfold cb;refine au rfl (gW (d:=.str "number") rfl ?_);rw[QC];cases v with
       |str s=>rw[mK];exact q
       |int i=>rw[mK];exact q
       |_=>cases vk
      dsimp only[Al];exact fin _ _ _ _ (by rw[wk])
     |as x=>
      refine aE (mJ (d:=.str "as") rfl u7 (aQ (λQ q=>jl (s:="as") rfl ∅ q) (bw (λQ q=>k7 (λQ q=>gW (d:=.str "as") rfl ?_) q) (HW (a:=.str "as") (x:=x) (r:=[]) rfl rfl rfl vk hok ?_))))
      ·show Q (bL "as" (.str "as")) m;rw[Up];exact q
      dsimp only[Al];exact fin _ _ _ _ (II (.inl rfl))
     |bind x=>
      refine aE (mJ (d:=.str "bind") rfl RD (aQ (λQ q=>jl (s:="bind") rfl ∅ q) (Ki (hs:=hs) rfl rfl rfl (λhx=>HW (a:=.str "bind") (x:=x) (r:=[]) rfl rfl rfl vk hok ?_) λhx=>DV (d:=.str "bind") rfl vw ?_)))
      ·dsimp only[Al];exact fin _ _ _ _ (II (.inr ⟨rfl,hx⟩))
      ·refine aE ?_;unfold nz;refine(show(match ae (ae (SV.odk (bx hp)))with|some (ae (.odk kvs))=>_|_=>False)from ?_);refine au rfl (dZ (a:=.str "bind") (b:=.str x) (r:=[]) rfl ⟨by unfold bx;rw[Ab];omega,?_⟩);rw[qG];dsimp only[Al];refine jW (x:=.str x) (es:=hs.map .str) rfl (λQ q=>dZ (a:=.str "bind") (b:=.str x) (r:=[]) rfl q) (by rw[Ab];omega) ?_;dsimp only[Al];have:=go (put hp x v) (hs++[x]) (ae (.w (.d (.tuple [.str "bind",.str x])))) (ae (.w (.d v))) (ae (.w (.d (.str "bind")))) (ae (.w (.d (.bool ai)))) (by rw[wk,if_neg hx]) (xl nd) (pQ hok gk vk) (sQ _ _ _) (by rw[Ai];exact An _);rw[Bd]at this;exact IW (b:=ai) rfl (λ_=>this) (λz=>by cases z)
  ·exact⟨rfl,fs,row,nm,[],ah,ah,ah,ah,rfl,el,rfl,okp.2.2,okr.2,okn.2.1,okn.2.2,by have:=okp.2.1;have:=okn.1;omega,by have:=okp.2.1;simpa using A2 this ∎,k⟩
theorem BA:∀{row:List Aa},(∀d∈row,cz d=ai)->∃k:List aG,row=k.map DL.vD
 |[],_=>⟨[],rfl⟩
 |d::r,h=>by
  obtain⟨k,rfl⟩:=BA λe he=>h e (Ar _ he);have hd:=h d As;cases d with
  |int i=>exact⟨.inl i::k,rfl⟩
  |str x=>exact⟨.inr x::k,rfl⟩
  |_=>cases hd
theorem EM(k)(m):b9 k (m+1)=.int k::b9 (k+1) m:=by
 unfold b9;rw[List.range_succ_eq_map,Bb,Bt]
 congr 1
 ·rw[show((0:Nat):Int)=0 from rfl,Int.add_zero]
 ·refine Ck λi _=>?_;show Cp (k+((i+1:Nat):Int))=.int (k+1+(i:Int));have:k+((i+1:Nat):Int)=k+1+(i:Int):=by omega
  rw[this]
theorem um(h:f.pt=ai):(Fe.fd f).d=f.d:=by cases f<;>first|rfl|cases h
theorem mS(ok:fL fs)(h:gK fs):eS fs=dC (fs.map Fe.fd)/\qp (fs.map Fe.fd):=by
 refine⟨?_,by rw[Ab];exact h.1,by rw[Ab];exact ok.1,λg hg=>?_⟩
 ·unfold eS dC;rw[Bt]
  congr 1
  exact Ck λf hf=>(um (h.2 f hf)).symm
 ·obtain⟨f,hf,rfl⟩:=A7.mp hg;have:=ok.2 f hf;cases f<;>first|exact this|trivial
theorem vm{a:Ac}(h:a.pf=ah):a.wt=aj/\∃s r,a.d=.tuple (.str s::r)/\bU (.str s) [.str "take",.str "read",.str "look"]=aj/\bU (.str s) [.str "take",.str "read"]=aj:=by
 cases a with
 |lay fs age=>exact⟨rfl,"lay",_,rfl,by decide +kernel,by decide +kernel⟩
 |same f g b=>exact⟨rfl,"same",_,rfl,by decide +kernel,by decide +kernel⟩
 |go b=>exact⟨rfl,"go",_,rfl,by decide +kernel,by decide +kernel⟩
 |take fs=>cases h
 |read fs=>cases h
 |look fs b=>cases h
theorem rW(h:a.pf=ae fs)(ok:ml a):qp fs/\∃s r,a.d=.tuple (.str s::dC fs::r)/\bU (.str s) [.str "take",.str "read",.str "look"]=ai/\bU (.str s) [.str "take",.str "read"]=a.wt:=by
 cases a with
 |lay fs age=>cases h
 |same f g b=>cases h
 |go b=>cases h
 |take gs=>
  cases h;obtain⟨e,o⟩:=mS (fs:=gs) ok.1 ok.2;exact⟨o,"take",[],by rw[<-e];rfl,by decide +kernel,show bU (.str "take") [.str "take",.str "read"]=ai by decide +kernel⟩
 |read gs=>
  cases h;obtain⟨e,o⟩:=mS (fs:=gs) ok.1 ok.2;exact⟨o,"read",[],by rw[<-e];rfl,by decide +kernel,show bU (.str "read") [.str "take",.str "read"]=ai by decide +kernel⟩
 |look gs b=>
  cases h;obtain⟨e,o⟩:=mS (fs:=gs) ok.1 ok.2;exact⟨o,"look",[.int b],by rw[<-e];rfl,by decide +kernel,show bU (.str "look") [.str "take",.str "read"]=aj by decide +kernel⟩
theorem O2(fs)(row)(nm):gc (gm fs row nm)=!c8 fs row nm:=by
 unfold gm;cases c8 fs row nm<;>rfl
theorem sZ:bg fs nm (q::r)=if c8 fs q.1 nm=ai then ae 0 else(bg fs nm r).map (·+1):=by
 unfold bg;rw[List.findIdx?_cons]
theorem Sh(h:iA (gO m k d) k'=ai):k'=k\/iA m k'=ai:=by
 unfold gO at h
 split at h
 ·unfold iA at h ⊢;rw[List.any_map,Dp]at h;obtain⟨p,hp,e⟩:=h;refine .inr (Dp.mpr ⟨p,hp,?_⟩);have e':=of_decide_eq_true e;dsimp only at e';by_cases z:p.1=k
  ·rw[if_pos z]at e';exact decide_eq_true e'
  ·rw[if_neg z]at e';exact decide_eq_true e'
 ·unfold iA at h ⊢;rw[List.any_append,Bool.or_eq_true]at h;rcases h with h|h
  ·exact .inr h
  ·simp at h;exact .inl h.symm
theorem TU:(gO m k d).length<=m.length+1:=by
 unfold gO
 split
 ·rw[Ab];omega
 ·rw[Ai];exact An _
section
variable{δ:Sl}{n:Int}{Q:DQ}{K:DEnds}{W V:aP}{i:Nat}
theorem gB{neg:Bool}(k:Q (.d (.bool (if neg then !gc a else gc a))) n):bJ neg (.d a) (.d .none) n Q:=k
theorem jb{neg:Bool}(k:Q (.d (.bool (if neg then !gc a else gc a))) n):dO neg (.d a) (.d .none) n Q:=.inr k
theorem rh(k:Q (.d (.bool neg)) n):dO neg (.ob o) (.d .none) n Q:=.inl ⟨o,rfl,rfl,k⟩
theorem FX{Q:Bool->Int->Prop}(e:δ[i]?=ae (ae (.w (.d (.tuple (.str s::r))))))(h:bU (.str s) [.str a,.str b,.str c]=k)(q:Q (!k) n):cT (w2 (w2 (ak i) (wC (.int 0)) aA) (aw (aq (wC (.str a)) (aq (wC (.str b)) (aq (wC (.str c)) ao)))) (fO ai)) δ n Q:=by
 refine ar (d4 e ?_);show 3<=1000/\fA (.str s)=ai/\_/\Q (!bU (.str s) [.str a,.str b,.str c]) n;exact⟨by decide,rfl,rfl,by rw[h];exact q⟩
theorem Lm(e:δ[i]?=ae (ae (.w (.d (.tuple (.str s::r))))))(h:bU (.str s) [.str a,.str b]=k)(q:Q (.d (.bool !k)) n):w2 (w2 (ak i) (wC (.int 0)) aA) (aw (aq (wC (.str a)) (aq (wC (.str b)) ao))) (fO ai) δ n Q:=by
 refine ar (d4 e ?_);show 2<=1000/\fA (.str s)=ai/\_/\Q (.d (.bool !bU (.str s) [.str a,.str b])) n;exact⟨by decide,rfl,rfl,by rw[h];exact q⟩
theorem G6{Q:Bool->Int->Prop}(e:δ[i]?=ae (ae (.w (.d (.tuple (.str s::r))))))(h:bU (.str s) (hs.map .str)=k)(q:Q (!k) n):cT (p6 hs (w2 (ak i) (wC (.int 0)) aA)) δ n Q:=by
 unfold cT p6;exact d4 e ⟨_,rfl,rfl,by rw[h];exact q⟩
theorem nj(e0:δ[i]?=ae (ae (.w (.d (a8 ps)))))(e1:δ[j]?=ae (ae (.w (.d (bQ hs ns)))))(e2:δ[l]?=ae (ae (.w (.d (.int h)))))(ok:okHs ps hs)(hh:h < ps.length)(k:Q (.d (tZ (bP ps hs h))) n):aH iH (aq (ak i) (aq (ak j) (aq (ak l) ao))) δ n Q:=
 b7 (au e0 (au e1 (au e2 ⟨ps,hs,ns,h,rfl,ok,hh,k⟩)))
end
theorem JI:bV mQ Jk ["programs","stand","hand","act","names","tried","place","note"]:=λws n Q h=>by
 obtain⟨ps,hs,ns,h,rfl,⟨okp,okh,okn⟩,hh,k⟩:=h;obtain⟨P,xb,xp,nm,w,as,H⟩:=je okh hh;unfold bf at k;rw[H.nmq]at k;show Jk [ae (.w (.d (a8 ps))),ae (.w (.d (bQ hs ns))),ae (.w (.d (.int h))),ah,ah,ah,ah,ah] n _;refine aE (bA (λQ q=>nj rfl rfl rfl okh hh q) ?_);dsimp only[Al];cases ea:bP ps hs h with
 |none=>
  rw[ea]at k;exact aE (bw (λQ q=>k7 (λQ q=>aF (k:=ai) (λQ q=>ar (au rfl (aC (gB q)))) q) q) (bc (aC k)))
 |some a=>
  rw[ea]at k;have k:Q (.d (fS (a.pf.bind λfs=>bg fs nm ns))) n:=k;have oa:=H.ok okp ea;show av _ _ [ae (.w (.d (a8 ps))),ae (.w (.d (bQ hs ns))),ae (.w (.d (.int h))),ae (.w (.d a.d)),ah,ah,ah,ah] n _;have g1:∀(s:Str)(r:List Aa),gc (PyData.tuple (.str s::r))=aj:=λ_ _=>rfl;cases ef:a.pf with
  |none=>
   rw[ef]at k;obtain⟨_,s,r,e,h1,_⟩:=vm ef;rw[e];exact aE (bw (λQ q=>gH (λQ q=>aF (k:=aj) (λQ q=>ar (au rfl (aC (gB q)))) q) (G6 rfl h1 q)) (bc (aC k)))
  |some fs=>
   rw[ef]at k;have k:Q (.d (fS (bg fs nm ns))) n:=k;obtain⟨of,s,r,e,h1,_⟩:=rW ef oa;rw[e];refine aE (aQ (λQ q=>gH (λQ q=>aF (k:=aj) (λQ q=>ar (au rfl (aC (gB q)))) q) (G6 rfl h1 q)) ?_);dsimp only[aM];refine aE (bA (x:=cJ nm) (λQ q=>ar (ar (ar (au rfl (aC (bO (au rfl (bN H.hD (aC (cW q)))))))))) ?_);dsimp only[Al];refine aE (show qQ 5 _ _ _ from ?_);unfold qQ;dsimp only[Al];refine aE ?_;unfold aW md;refine ar (au rfl (aC (cV ⟨ns.map bI,.inl rfl,?_⟩)));refine eV (λds δ m=>m=n/\∃(re:List Nt)(j:Nat)(kvs:List (List aG×Aa))(x6 x7:Option SV),ds=ik j (re.map bI)/\δ=[ae (.w (.d (a8 ps))),ae (.w (.d (bQ hs ns))),ae (.w (.d (.int h))),ae (.w (.d (.tuple (.str s::dC fs::r)))),ae (.w (.d (cJ nm))),ae (.odt kvs),x6,x7] /\
    (∀q∈re,kh q)/\kvs.length+re.length<=100/\(∀key,iA kvs key=ai->c8 fs (key.map DL.vD) nm=aj)/\Q (.d (fS ((bg fs nm re).map (·+j)))) n) (λδ m I=>?_) (λd r' δ m N I kN=>?_) _ _ _ ⟨rfl,ns,0,[],ah,ah,rfl,rfl,okn.2,by have:=okn.1;simpa using this,λkey z=>(by cases z),?_⟩
   ·obtain⟨rfl,re,j,kvs,x6,x7,ed,rfl,_,_,_,kq⟩:=I;have:re=[]:=by
     cases re with
     |nil=>rfl
     |cons q re=>rw[Bb,nq]at ed;cases ed
    subst this;exact(show Q (.d .none) m from kq)
   ·obtain⟨rfl,re,j,kvs,x6,x7,ed,rfl,hre,hl,ht,kq⟩:=I;cases re with
    |nil=>cases ed
    |cons q re=>
     rw[Bb,nq]at ed;obtain⟨rfl,rfl⟩:=Ej ed;rw[Am]at hl;have oq:=hre q As;obtain⟨key,ek⟩:=BA oq.1.2;have nxt:∀kvs',kvs'.length<=kvs.length+1->(∀key,iA kvs' key=ai->c8 fs (key.map DL.vD) nm=aj)->c8 fs q.1 nm=aj->N [ae (.w (.d (a8 ps))),ae (.w (.d (bQ hs ns))),ae (.w (.d (.int h))),ae (.w (.d (.tuple (.str s::dC fs::r)))),ae (.w (.d (cJ nm))),ae (.odt kvs'),ae (.w (.d (.int j))),ae (.w (.d (bI q)))] m:=λkvs' a1 a2 a3=>by
      refine kN _ _ ⟨rfl,re,j+1,kvs',_,_,by rw[show((j+1:Nat):Int)=(j:Int)+1 from rfl],rfl,λx hx=>hre x (Ar _ hx),by omega,a2,?_⟩;rw[sZ,if_neg (by rw[a3];exact Ae),Option.map_map]at kq;have:((λx=>x+j) ∘ λx=>x+1)=λx=>x+(j+1):=funext λx=>by show x+1+j=x+(j+1);omega
      rw[this]at kq;exact kq
     refine⟨rfl,?_⟩;dsimp only[br,cv,aI,Al];refine dq (show qI 5 _ _ _ _ from d4 rfl ⟨key,kvs,by rw[ek];rfl,rfl,?_⟩);show if (!iA kvs key)=ai then _ else _
     cases et:iA kvs key with
     |true=>
      rw[if_neg (by rw[Bool.not_true];exact Ae)];exact nxt kvs ⋯ ht (by rw[ek];exact ht key et)
     |false=>
      rw[if_pos (show(!aj)=ai from rfl)];refine aE (dq (ar (b7 (dZ rfl (d4 rfl (au rfl ⟨fs,q.1,nm,rfl,of,oq.1,H.nms,?_⟩))))));refine aC (gB ?_);show if (!gc (gm fs q.1 nm))=ai then _ else _
      rw[O2,Bool.not_not];cases eb:c8 fs q.1 nm with
      |true=>
       rw[if_pos rfl];rw[sZ,if_pos eb,Ga,Nat.zero_add]at kq;exact bc (au rfl kq)
      |false=>
       rw[if_neg Ae];dsimp only[aM];refine aC ⟨kvs,rfl,d4 rfl ⟨key,.bool ai,rfl,by rw[ek];rfl,by omega,?_⟩⟩;dsimp only[Al];refine nxt _ TU (λkey' z=>?_) eb;rcases Sh z with rfl|z
       ·rw[<-ek];exact eb
       ·exact ht key' z
   ·have:(λx:Nat=>x+0)=id:=rfl;rw[this,Option.map_id];exact k
theorem yq(h:∀Q:DQ,Q (eT fs row nm) n->w δ n Q)(k:K.nx (δ.set i (ae (.w (eT fs row nm)))) n):aB i w δ n K:=by
 refine h _ ?_
 revert k
 unfold eT
 split<;>exact id
theorem o8(h:∀Q:DQ,Q (gg o) n->w δ n Q)(k:K.nx (δ.set i (ae (.w (gg o)))) n):aB i w δ n K:=by
 refine h _ ?_;cases o<;>exact k
theorem UR(ps)(hs)(ns)(h):(dG ps hs ns h).map (·.1)=bf ps hs ns h:=by
 unfold dG bf;cases bP ps hs h with
 |none=>rfl
 |some a=>
  show((a.pf.bind _).map _)=a.pf.bind _;cases a.pf with
  |none=>rfl
  |some fs=>
   show((bg fs (iw hs h) ns).map _).map _=bg fs (iw hs h) ns;rw[Option.map_map];exact Option.map_id'
theorem SR:bV nL zW ["_law_programs","_law_stand","_law_hand","_law_act_here","_law_place","_law_has"]:=λws n Q h=>by
 obtain⟨ps,hs,ns,h,rfl,⟨okp,okh,okn⟩,hh,k⟩:=h;obtain⟨P,xb,xp,nm,w,as,H⟩:=je okh hh;unfold dG at k;rw[H.nmq]at k;show zW [ae (.w (.d (a8 ps))),ae (.w (.d (bQ hs ns))),ae (.w (.d (.int h))),ah,ah,ah] n _;refine aE (bA (λQ q=>nj rfl rfl rfl okh hh q) ?_);dsimp only[Al];cases ea:bP ps hs h with
 |none=>
  rw[ea]at k;exact aE (bw (λQ q=>k7 (λQ q=>aF (k:=ai) (λQ q=>ar (au rfl (aC (jb q)))) q) q) (bc (aC k)))
 |some a=>
  rw[ea]at k;have k:Q (gg (a.pf.bind λfs=>(bg fs nm ns).map λi=>(i,dI fs (cw ns i) nm))) n:=k;have oa:=H.ok okp ea;show av _ _ [ae (.w (.d (a8 ps))),ae (.w (.d (bQ hs ns))),ae (.w (.d (.int h))),ae (.w (.d a.d)),ah,ah] n _;cases ef:a.pf with
  |none=>
   rw[ef]at k;obtain⟨_,s,r,e,h1,_⟩:=vm ef;rw[e];exact aE (bw (λQ q=>gH (λQ q=>aF (k:=aj) (λQ q=>ar (au rfl (aC (jb q)))) q) (FX rfl h1 q)) (bc (aC k)))
  |some fs=>
   rw[ef]at k;have k:Q (gg ((bg fs nm ns).map λi=>(i,dI fs (cw ns i) nm))) n:=k;obtain⟨of,s,r,e,h1,_⟩:=rW ef oa;rw[e];refine aE (aQ (λQ q=>gH (λQ q=>aF (k:=aj) (λQ q=>ar (au rfl (aC (jb q)))) q) (FX rfl h1 q)) ?_);dsimp only[aM];refine aE ?_;unfold aW dv;refine aU (ar (au rfl (aC (cV ?_))));refine Aj ⟨by omega,by rw[Ab];have:=okn.1;omega⟩ ?_;rw[Bi,Ab];refine eV (λds δ m=>m=n/\∃(dn re:List Nt)(x6 x7:Option SV),ds=b9 (dn.length:Nat) re.length/\dn++re=ns/\δ=[ae (.w (.d (a8 ps))),ae (.w (.d (bQ hs ns))),ae (.w (.d (.int h))),ae (.w (.d (.tuple (.str s::dC fs::r)))),x6,x7] /\
    Q (gg ((bg fs nm re).map λi=>(i+dn.length,dI fs (cw ns (i+dn.length)) nm))) n) (λδ m I=>?_) (λd r' δ m N I kN=>?_) _ _ _ ⟨rfl,[],ns,ah,ah,rfl,rfl,rfl,?_⟩
   ·obtain⟨rfl,dn,re,x6,x7,ed,en,rfl,kq⟩:=I;have:re=[]:=by
     cases re with
     |nil=>rfl
     |cons q re=>rw[Am,EM]at ed;cases ed
    subst this;exact(show Q (.d .none) m from kq)
   ·obtain⟨rfl,dn,re,x6,x7,ed,en,rfl,kq⟩:=I;cases re with
    |nil=>cases ed
    |cons q re=>
     rw[Am,EM]at ed;obtain⟨rfl,rfl⟩:=Ej ed;have hq:ns[dn.length]?=ae q:=by rw[<-en];simp
     have oq:=okn.2 q (A4 hq);have hq':(ns.map bI)[dn.length]?=ae (.tuple [.tuple q.1,q.2]):=by rw[Aw,hq];rfl
     dsimp only[aI,Al];refine aE (yq (fs:=fs) (row:=q.1) (nm:=nm) (λQ q'=>?_) ?_)
     ·refine b7 (dZ rfl ?_);refine ar (ar (ar (au rfl (aC (cV (au rfl (bN hq' (aC (bO ?_)))))))));refine ar (ar (ar (au rfl (aC (bO (au rfl (bN H.hD (aC (cW ?_)))))))));exact⟨fs,q.1,nm,rfl,of,oq.1,H.nms,q'⟩
     dsimp only[Al];cases eb:c8 fs q.1 nm with
     |true=>
      rw[sZ,if_pos eb,Ga,Nat.zero_add,show cw ns dn.length=q.1 by unfold cw;rw[hq];rfl]at kq;rw[show eT fs q.1 nm=.ob (.k (bx (dI fs q.1 nm))) by unfold eT;rw[if_pos eb]];refine bw (λQ q=>aF (k:=ai) (λQ q=>ar (au rfl (aC (rh q)))) q) (bc (show yj _ _ _ _ _ from au rfl (au rfl ⟨_,_,rfl,rfl,kq⟩)))
     |false=>
      rw[show eT fs q.1 nm=.d .none by unfold eT;rw[if_neg (by rw[eb];exact Ae)]];refine aQ (λQ q=>aF (k:=aj) (λQ q=>ar (au rfl (aC (jb q)))) q) (kN _ _ ⟨rfl,dn++[q],re,_,_,?_,by rw[Bp];exact en,rfl,?_⟩)
      ·rw[Ai,Ax];rw[show((dn.length+1:Nat):Int)=(dn.length:Int)+1 from rfl]
      ·rw[sZ,if_neg (by rw[eb];exact Ae),Option.map_map]at kq;have:((λi=>(i+dn.length,dI fs (cw ns (i+dn.length)) nm)) ∘ λx=>x+1)=λi=>(i+(dn++[q]).length,dI fs (cw ns (i+(dn++[q]).length)) nm):=funext λx=>by
        show(x+1+dn.length,dI fs (cw ns (x+1+dn.length)) nm)=_;have e:x+1+dn.length=x+(dn++[q]).length:=by rw[Ai,Ax];omega
        rw[e]
       rw[this]at kq;exact kq
   ·exact k
theorem Ik(e:bP ps hs h=ae a):fH ps hs ns h=(!a.wt || (bf ps hs ns h).isSome):=by unfold fH;rw[e];rfl
theorem OY(oa:ml a):∃s r,a.d=.tuple (.str s::r)/\bU (.str s) [.str "take",.str "read"]=a.wt:=by
 cases ef:a.pf with
 |none=>
  obtain⟨hw,s,r,e,_,h2⟩:=vm ef;exact⟨s,r,e,by rw[h2,hw]⟩
 |some fs=>
  obtain⟨_,s,r,e,_,h2⟩:=rW ef oa;exact⟨s,_,e,h2⟩
theorem MN:bV sS GH ["_law_programs","_law_stand","_law_hand","_law_act_here"]:=λws n Q h=>by
 obtain⟨ps,hs,ns,h,rfl,ok,hh,k⟩:=h;obtain⟨P,xb,xp,nm,w,as,H⟩:=je ok.2.1 hh;show GH [ae (.w (.d (a8 ps))),ae (.w (.d (bQ hs ns))),ae (.w (.d (.int h))),ah] n _;refine aE (bA (λQ q=>nj rfl rfl rfl ok.2.1 hh q) ?_);dsimp only[Al];cases ea:bP ps hs h with
 |none=>
  unfold fH at k;rw[ea]at k;exact aE (bw (λQ q=>aF (k:=ai) (λQ q=>ar (au rfl (aC (jb q)))) q) (bc (aC k)))
 |some a=>
  rw[Ik ea]at k;obtain⟨s,r,e,h2⟩:=OY (H.ok ok.1 ea);show av _ _ [ae (.w (.d (a8 ps))),ae (.w (.d (bQ hs ns))),ae (.w (.d (.int h))),ae (.w (.d a.d))] n _;rw[e];refine aE (aQ (λQ q=>aF (k:=aj) (λQ q=>ar (au rfl (aC (jb q)))) q) ?_);dsimp only[aM];refine bc (show qV _ _ _ _ _ from Lm rfl h2 ?_);rw[Gz];cases hw:a.wt with
  |false=>rw[hw]at k;exact k
  |true=>
   rw[hw]at k;rw[if_neg ∎];refine ar (b7 (au rfl (au rfl (au rfl ⟨ps,hs,ns,h,rfl,ok,hh,aC ?_⟩))));rw[<-UR]at k;cases eg:dG ps hs ns h with
   |none=>rw[eg]at k;exact jb k
   |some i=>rw[eg]at k;exact rh k
theorem TF(ok:eD ps hs ns)(k:Q (gv ps hs ns) n):c7 (aI 0) (cT (aH sS (aq ↥1 (aq ↥2 (aq ↥0 ao))))) ↥0 Q (b9 0 ps.length) [] [ah,ae (.w (.d (a8 ps))),ae (.w (.d (bQ hs ns)))] n:=by
 have e:b9 0 ps.length=(A3 ps.length).map λh=>.int (h:Nat):=by
  unfold b9;exact Ck λi _=>by rw[Int.zero_add]
 rw[e];refine iR (λh:Nat=>Cp (h:Nat)) (λh:Nat=>Cp (h:Nat)) (fH ps hs ns) _ [] ah n (λh hh n Q' q=>?_) (λh hh n Q' q=>au rfl q) (by rw[Bv];exact k);exact b7 (au rfl (au rfl (au rfl ⟨ps,hs,ns,h,rfl,ok,B6.mp hh,q⟩)))
section
variable{δ:Sl}{n:Int}{Q:DQ}{w u:DT}{ds i j:List Aa}
theorem R9(xs:List Aa)(hp:p<=xs.length):bF xs (ae (p:Int)) ah=xs.drop p:=by
 unfold bF;rw[HT.sIx_nat,HT.sIx_none,Nat.min_eq_left hp];exact F0 (by rw[Br];exact An _)
theorem jM(k:w δ n λx n1=>match iq [x]with
  |some ds=>ds.length<=1000/\Q (.d (.tuple ds)) n1
  |none=>False):aw (aq w ao) δ n Q:=k
theorem mR{p:Nat}(hw:∀Q:DQ,Q (.d (.tuple ds)) n->w δ n Q)(hu:∀Q:DQ,Q (.d (.int p)) n->u δ n Q)(hp:p<=ds.length)(k:Q (.d (.tuple (ds.take p))) n):cC w cm (cf u) δ n Q:=by
 unfold cC;refine hw _ ?_;dsimp only[cm,cf];refine hu _ ?_;dsimp only;rw[ND _ hp];exact k
theorem m9{p:Nat}(hw:∀Q:DQ,Q (.d (.tuple ds)) n->w δ n Q)(hu:∀Q:DQ,Q (.d (.int p)) n->u δ n Q)(hp:p<=ds.length)(k:Q (.d (.tuple (ds.drop p))) n):cC w (cf u) cm δ n Q:=by
 unfold cC;refine hw _ ?_;dsimp only[cm,cf];refine hu _ ?_;dsimp only;rw[R9 _ hp];exact k
theorem gE(h:i.length+j.length<=1000000)(k:Q (.d (.tuple (i++j))) n):cY (.d (.tuple i)) (.d (.tuple j)) n Q:=by
 cases i with
 |nil=>exact k
 |cons a r=>exact⟨.inl (λz=>nomatch z),A2 h ∎,k⟩
end
theorem Q1:bV vt Vp ["thing"]:=λws n Q h=>by
 obtain⟨b,rfl,k⟩:=h;cases b<;>exact k
theorem K6(h1:∀Q:DQ,Q (.d (.int a)) n->u δ n Q)(h2:∀Q:DQ,Q (.d (.int x)) n->v δ n Q)(h3:∀Q:DQ,Q (.d (.int b)) n->w δ n Q)(k:Q (.d (.bool (decide (a<=x)&&decide (x<=b)))) n):ph j3 j3 u v w δ n Q:=by
 by_cases e:a<=x
 ·refine S1 h1 h2 h3 e ?_;rw[decide_eq_true e,Fo]at k;exact k
 ·rw[decide_eq_false e,Bool.false_and]at k;refine h1 _ (h2 _ ?_);show hZ (.d (.bool (decide (a<=x)))) (w δ n λu n4=>j3 (.d (.int x)) u n4 Q) (Q (.d (.bool aj)) n);rw[decide_eq_false e];exact k
theorem LZ:bV uJ BQ ["thing","most"]:=λws n Q h=>by
 obtain⟨b,m,rfl,k⟩:=h;show BQ [ae (.w (.d b)),ae (.w (.d (.int m)))] n _;cases b with
 |int i=>exact bc (yT (λQ q=>cF (au rfl ⟨_,rfl,q⟩)) (K6 (λQ q=>aC q) (λQ q=>au rfl q) (λQ q=>au rfl q) k))
 |_=>exact bc (cF (au rfl ⟨_,rfl,k⟩))
theorem U2:bV xE zT ["value"]:=λws n Q h=>by
 obtain⟨v,rfl,hv,k⟩:=h;show zT [ae (.w (.d v))] n {nx:=λ_ n=>Q (.d .none) n,rt:=Q};cases v with
 |str x=>exact k
 |int i=>
  have k:Q (.d (if i=99 then Cp 0 else Cp (i+1))) n:=k;show if decide (i=99)=ai then Q (.d (.int 0)) n else Q (.d (.int (i+1))) n
  refine IC (λe=>?_) λe=>?_
  ·rw[if_pos e]at k;exact k
  ·rw[if_neg e]at k;exact k
 |_=>cases hv
theorem LG:bV o7 Hf ["field","having","value"]:=λws n Q h=>by
 obtain⟨f,nm,rfl,⟨_,tm,us⟩,k⟩:=h;show Hf [ae (.w (.d f.d)),ae (.w (.dk (bx nm))),ah] n {nx:=λ_ n=>Q (.d .none) n,rt:=Q};cases f with
 |isv d=>exact k
 |as x=>
  obtain⟨v,e,hv⟩:=us x rfl;have k:Q (.d ((look nm x).getD .none)) n:=k;rw[e]at k;refine aE (ku (h:="is") (a:=.str "as") rfl ∅ ?_);dsimp only[aM];refine aE ?_;show(match bh (bx nm) (.inr x)with|some d=>_|none=>False);rw[kG,e];exact k
 |nx x=>
  obtain⟨v,e,hv⟩:=us x rfl;have k:Q (.d (k9 ((look nm x).getD .none))) n:=k;rw[e]at k;refine aE (ku (h:="is") (a:=.str "next") rfl ∅ ?_);dsimp only[aM];refine aE ?_;show(match bh (bx nm) (.inr x)with|some d=>_|none=>False);rw[kG,e];exact⟨v,rfl,hv,k⟩
 |_=>cases tm
theorem J2(q:Q ai n):cG δ n Q:=q
theorem qK{α:Type}{aR:Sl}(f g)(xs:List α)(x)(n)(h:∀a∈xs,∀(n:Int) (Q':DQ),Q' (.d (g a)) n->w (ae (.w (.d (f a)))::aR) n Q')(q:Q (xs.map g) n):c7 (aI 0) cG w Q (xs.map f) [] (x::aR) n:=by
 refine iR f g (λ_=>ai) xs [] x n (λa _ n Q' q=>J2 q) h ?_;rw[Bv,Eg.mpr λ_ _=>rfl];exact q
theorem oi(k:Q (.d (.tuple ds)) n):dY [.d (.list ds)] n Q:=k
theorem QZ:bV ug yG ["template","names","having"]:=λws n Q h=>by
 obtain⟨fs,nm,rfl,hl,ok,okn,k⟩:=h;show yG [ae (.w (.d (eS fs))),ae (.w (.d (cJ nm))),ah] n {nx:=λ_ n=>Q (.d .none) n,rt:=Q};refine aE (oV rfl okn ?_);dsimp only[Al];refine bc (aU (bb (jA (ds:=fs.map Fe.d) (λQ q=>au rfl q) ?_)));show c7 _ _ _ _ _ _ [ah,ae (.w (.dk (bx nm)))] n;exact qK Fe.d (eL nm) fs ah n (λf hf n Q' q=>bG (au rfl (show cS 1 _ _ _ from⟨f,nm,rfl,ok f hf,q⟩))) (oi k)
theorem N6:bV nF DZ ["place","names"]:=λws n Q h=>by
 obtain⟨x,nm,rfl,k⟩:=h;show DZ [ae (.w (.d (bW x))),ae (.w (.d (cJ nm)))] n _;exact bc (fZ (d4 rfl (ar (dZ rfl (aC (dA (au rfl (Aj (show 3<=1000 by decide) k))))))))
theorem MG:bV oN zg ["program","block","names","wanted"]:=λws n Q h=>by
 obtain⟨P,b,nm,⟨w,as⟩,rfl,hb,hw,k⟩:=h;have hbD:(P.map kP)[b]?=ae (.tuple [eh w,.tuple (as.map Ac.d)]):=by rw[Aw,hb];rfl
 have ew:lT P b=w:=by unfold lT;rw[hb];rfl
 unfold b8 at k;rw[ew]at k;show zg [ae (.w (.d (fg P))),ae (.w (.d (.int b))),ae (.w (.d (cJ nm))),ah] n _;refine aE (bA (x:=eh w) (λQ q=>ar (ar (au rfl (au rfl (bN hbD (aC (bO q))))))) ?_);dsimp only[Al];refine bc (fZ (au rfl (aC (aU (bb (jA (ds:=nm.map ko) (λQ q=>au rfl q) ?_))))));show c7 _ _ _ _ _ _ [ah,ae (.w (.d (eh w)))] n;refine iR ko ko (λp=>decide (p.1∈w)) nm [] ah n (λp _ n Q' q=>aF (k:=decide (p.1∈w)) (λQ q=>ar (d4 rfl (au rfl ⟨rfl,sq w,?_⟩))) q) (λp _ n Q' q=>au rfl q) ?_
 ·show Q (.d (.bool (bU (.str p.1) (w.map .str)))) n;rw[nr];exact q
 ·exact Aj (show 3<=1000 by decide) k
theorem Oi:bV jT GZ ["hands","hand","place"]:=λws n Q h=>by
 obtain⟨hs,h,x,rfl,hh,hl,k⟩:=h;show GZ [ae (.w (.d (.tuple (hs.map bW)))),ae (.w (.d (.int h))),ae (.w (.d (bW x)))] n _;have hd:(bo hs h x).map bW=((hs.map bW).take h++[bW x])++(hs.map bW).drop (h+1):=by
  unfold bo;rw[Bd,Bb,List.map_take,List.map_drop,Bp];rfl
 rw[hd]at k;have l1:((hs.map bW).take h).length<=5:=A2 (List.length_take_le' _ _) (by rw[Ab];exact hl);have l2:((hs.map bW).drop (h+1)).length<=5:=by rw[Br,Ab];omega
 refine bc (ar (ar (mR (p:=h) (λQ q=>au rfl q) (λQ q=>au rfl q) (by rw[Ab];omega) (jM (au rfl (Aj (show 1<=1000 by decide) (gE (by rw[Ax];omega) ?_)))))));exact m9 (p:=h+1) (λQ q=>au rfl q) (λQ q=>ar (au rfl (aC (dA q)))) (by rw[Ab];omega) (gE (by rw[Ai,Ax];omega) k)
theorem Lg:bV vI yF ["note"]:=λws n Q h=>by
 obtain⟨⟨row,a⟩,rfl,ha,k⟩:=h;show yF [ae (.w (.d (bI (row,a))))] n _;rcases ha with rfl|⟨i,rfl,_⟩
 ·exact bc (fN (b:=ai) (λQ q=>aF (k:=ai) (λQ q=>ar (dZ rfl (aC (gB q)))) q) (by rw[if_pos rfl];exact au rfl k))
 ·exact bc (fN (b:=aj) (λQ q=>aF (k:=aj) (λQ q=>ar (dZ rfl (aC (gB q)))) q) (by rw[if_neg Ae];exact cZ (d4 rfl (ar (dZ rfl (aC (Aj (show 2<=1000 by decide) k)))))))
theorem CW(ha:ft a)(k:Q (.d (.bool (!bX a))) n):eO (.d a) (.d (.int 1)) n Q:=by
 rcases ha with rfl|⟨i,rfl,_⟩<;>exact k
theorem QJ:bV wA IT ["stand"]:=λws n Q h=>by
 obtain⟨hs,ns,rfl,ha,k⟩:=h;show IT [ae (.w (.d (bQ hs ns)))] n _;refine bc (cZ (d4 rfl (aU (bb (jA (ds:=ns.map bI) (λQ q=>dZ rfl q) ?_)))));show c7 _ _ _ _ _ _ [ah] n;refine iR bI (λq=>bI (q.1,gF q.2)) (λq=>!bX q.2) ns [] ah n (λq hq n Q' k'=>aF (λQ q'=>ar (dZ rfl (aC (CW (ha q hq) q')))) k') (λq hq n Q' k'=>cF (au rfl ⟨q,rfl,ha q hq,k'⟩)) ?_;refine Aj (show 2<=1000 by decide) ?_;unfold bQ bK dw at k;rw[Bt]at k;exact k
theorem QW:∀j:Fin 100,cz (.int ((j.val:Nat):Int))=ai:=by decide +kernel
theorem iY(h0:0<=i)(h1:i<=99):cz (.int i)=ai:=by
 have:=QW ⟨i.toNat,by omega⟩;rw[show((i.toNat:Nat):Int)=i by omega]at this;exact this
theorem zk(h:cz (.int i)=ai):0<=i/\i<=99:=by
 simp only[cz,Bf,decide_eq_true_eq]at h;exact⟨h.1,h.2.1⟩
theorem yb(h:cz v=ai):cz (k9 v)=ai:=by
 cases v with
 |str x=>exact h
 |int i=>
  obtain⟨h0,h1⟩:=zk h;show cz (if i=99 then .int 0 else .int (i+1))=ai
  split
  ·exact iY ∎ ∎
  ·exact iY ⋯ ⋯
 |_=>cases h
theorem iu(h:fk nm f):cz (eL nm f)=ai:=by
 obtain⟨ok,tm,us⟩:=h;cases f with
 |isv d=>exact ok
 |as k=>obtain⟨v,e,hv⟩:=us k rfl;show cz ((look nm k).getD .none)=ai;rw[e];exact hv
 |nx k=>obtain⟨v,e,hv⟩:=us k rfl;show cz (k9 ((look nm k).getD .none))=ai;rw[e];exact yb hv
 |_=>cases tm
theorem Mt(ha:cz a=ai)(hb:cz b=ai)(k:Q (.d (.bool (fC a b))) n):aT (.d a) (.d b) n Q:=by
 unfold aT;simp only[mN ha hb];exact k
theorem LO:bV xr yY ["act","names","having"]:=λws n Q h=>by
 obtain⟨f,g,b,nm,rfl,hf,hg,_,_,okn,k⟩:=h;show yY [ae (.w (.d (.tuple [.str "same",f.d,g.d,.int b]))),ae (.w (.d (cJ nm))),ah] n _;refine aE (oV rfl okn ?_);dsimp only[Al];exact bc (ar (bG (dZ rfl (show cS 2 _ _ _ from⟨f,nm,rfl,hf,bG (ar (au rfl (aC (cW (show cS 2 _ _ _ from⟨g,nm,rfl,hg,Mt (iu hf) (iu hg) k⟩)))))⟩))))
theorem rK(h:bg fs nm ns=ae i):∃q,ns[i]?=ae q/\c8 fs q.1 nm=ai:=by
 unfold bg at h;rw[Gv]at h;obtain⟨hl,h1,_⟩:=h;exact⟨ns[i],Af hl,h1⟩
theorem Q2(h:c8 fs row nm=ai):gm fs row nm=cJ (c9 (dI fs row nm)):=by unfold gm;rw[if_pos h]
theorem nK(H:HandAt ps hs h P xb xp nm w as)(e:bP ps hs h=ae a):fM ps hs ns h=(oh P (xb,xp,nm) ns a).map λr=>(bo hs h r.1,r.2):=by
 unfold fM;rw[H.prog,H.hand,e];rfl
theorem iQ(e:bg (fs.map Fe.fd) x.2.2 ns=ah):bZ fs x ns=ah:=by unfold bZ;rw[e];rfl
theorem iD(e:bg (fs.map Fe.fd) x.2.2 ns=ae i):bZ fs x ns=ae (i,cO x (c9 (dI (fs.map Fe.fd) (cw ns i) x.2.2))):=by unfold bZ;rw[e];rfl
theorem yp(k:Q (.d (.bool (!bL h (.str s)))) n):eO (.d (.str s)) (.d (.str h)) n Q:=k
theorem CS(ns:List Nt)(i):(cE ns i).map bI=(ns.map bI).take i++(ns.map bI).drop (i+1):=by unfold cE;rw[Bd,List.map_take,List.map_drop]
section
variable{ps:Pg}{hs:List Hn}{ns:List Nt}{h:Nat}{P:List Bl}{xb xp:Nat}{nm:Nm}{w:List Str}{as:List Ac}{n:Int}{Q:DQ}
theorem xV(e1:δ[i1]?=ae (ae (.w (.d (bQ hs ns)))))(e2:δ[i2]?=ae (ae (.w (.d (.int h)))))(e5:δ[i5]?=ae (ae (.w (.d (bK ns')))))(hx:∀Q:DQ,Q (.d (bW x)) n->w2' δ n Q)(hh:h < hs.length)(hl:hs.length<=5)(k:Q (.d (bQ (bo hs h x) ns')) n):
  aw (aq (aH jT (aq (w2 (ak i1) ⇑0 aA) (aq (ak i2) (aq w2' ao)))) (aq (ak i5) ao)) δ n Q:=
 cZ (b7 (d4 e1 (au e2 (hx _ ⟨hs,h,x,rfl,hh,hl,au e5 (Aj (show 2<=1000 by decide) k)⟩))))
theorem wO(H:HandAt ps hs h P xb xp nm w as)(okp:cH ps)(okh:okHs ps hs)(okn:dg 100 ns)(hh:h < ps.length)(ea:bP ps hs h=ae a)(ed:a.d=.tuple (.str s::eS gs::r))(hpf:a.pf=ae (gs.map Fe.fd))(hof:fL gs)(hpat:gK gs)
  (kN:bg (gs.map Fe.fd) nm ns=ah->av (aJ (cT (w2 (w2 ↥3 ⇑0 aA) (wC (.str "look")) eO)) (az (wC .none)) aM) (az (aw (aq (aH jT (aq (w2 ↥1 ⇑0 aA) (aq ↥2 (aq (aH oN (aq (w2 ↥0 ↥2 aA) (aq (w2 ↥3 ⇑2 aA) (aq (w2 ↥4 ⇑2 aA) ao)))) ao)))) (aq ↥5 ao))))
   [ae (.w (.d (a8 ps))),ae (.w (.d (bQ hs ns))),ae (.w (.d (.int h))),ae (.w (.d (.tuple (.str s::eS gs::r)))),ae (.w (.d (bW (xb,xp,nm)))),ae (.w (.d (bK ns))),ae (.w (.d .none)),ah] n {nx:=λ_ _=>True,rt:=Q})
  (kS:∀i ns',bg (gs.map Fe.fd) nm ns=ae i->ns'=(if bL "take" (.str s)=ai then cE ns i else ns)->Q (.d (bQ (bo hs h (cO (xb,xp,nm) (c9 (dI (gs.map Fe.fd) (cw ns i) nm)))) ns')) n):
  wm [ae (.w (.d (a8 ps))),ae (.w (.d (bQ hs ns))),ae (.w (.d (.int h))),ae (.w (.d a.d)),ah,ah,ah,ah] n {nx:=λ_ n=>Q (.d .none) n,rt:=Q}:=by
 rw[ed];obtain⟨ep,op⟩:=mS hof hpat;have hlt:h < hs.length:=by rw[okh.1];exact hh
 have hl5:hs.length<=5:=by rw[okh.1];exact okp.1
 refine aE (bA (x:=bW (xb,xp,nm)) (λQ q=>ar (ar (au rfl (aC (bO (au rfl (bN H.hD q))))))) ?_);dsimp only[Al];refine aE (bA (x:=bK ns) (λQ q=>dZ rfl q) ?_);dsimp only[Al];have eg:bf ps hs ns h=bg (gs.map Fe.fd) nm ns:=by
  unfold bf;rw[ea,H.nmq];show(a.pf.bind _)=_;rw[hpf];rfl
 refine aE (bA (x:=fS (bg (gs.map Fe.fd) nm ns)) (λQ q=>b7 (au rfl (au rfl (au rfl ⟨ps,hs,ns,h,rfl,⟨okp,okh,okn⟩,hh,by rw[eg];exact q⟩)))) ?_);dsimp only[Al];cases eq:bg (gs.map Fe.fd) nm ns with
 |none=>exact aE (bw (λQ q=>aF (k:=ai) (λQ q=>ar (au rfl (aC (gB q)))) q) (kN eq))
 |some i=>
  obtain⟨⟨row,age⟩,hq,hf⟩:=rK eq;have hi:i < ns.length:=(Av.mp hq).1;have hq':(ns.map bI)[i]?=ae (.tuple [.tuple row,age]):=by rw[Aw,hq];rfl
  have er:cw ns i=row:=by unfold cw;rw[hq];rfl
  have oq:=okn.2 _ (A4 hq);refine aE (aQ (λQ q=>aF (k:=aj) (λQ q=>ar (au rfl (aC (gB q)))) q) ?_);dsimp only[aM];refine aE (bA (x:=cJ (c9 (dI (gs.map Fe.fd) (cw ns i) nm))) (λQ q=>?_) ?_)
  ·refine b7 (dZ rfl (ar (ar (au rfl (au rfl (bN hq' (aC (bO ?_))))))));refine ar (au rfl (aC (cW ⟨gs.map Fe.fd,row,nm,by rw[ep],op,oq.1,H.nms,?_⟩)));rw[Q2 hf];rw[er]at q;exact q
  dsimp only[Al];have fin:∀ns',ns'=(if bL "take" (.str s)=ai then cE ns i else ns)->az (aw (aq (aH jT (aq (w2 ↥1 ⇑0 aA) (aq ↥2 (aq (aH nF (aq ↥4 (aq ↥7 ao))) ao)))) (aq ↥5 ao)))
    [ae (.w (.d (a8 ps))),ae (.w (.d (bQ hs ns))),ae (.w (.d (.int h))),ae (.w (.d (.tuple (.str s::eS gs::r)))),ae (.w (.d (bW (xb,xp,nm)))),ae (.w (.d (bK ns'))),ae (.w (.d (.int i))),ae (.w (.d (cJ (c9 (dI (gs.map Fe.fd) (cw ns i) nm)))))] n {nx:=λ_ n=>Q (.d .none) n,rt:=Q}:=λns' e'=>
   bc (xV (x:=cO (xb,xp,nm) (c9 (dI (gs.map Fe.fd) (cw ns i) nm))) rfl rfl rfl (λQ q=>bG (au rfl (au rfl ⟨(xb,xp,nm),_,rfl,q⟩))) hlt hl5 (kS i ns' eq e'))
  refine aE (wX rfl (λz=>?_) λz=>?_)
  ·refine bA (x:=bK (cE ns i)) (λQ q=>ar (mR (p:=i) (λQ q=>au rfl q) (λQ q=>au rfl q) (by rw[Ab];omega) (m9 (p:=i+1) (λQ q=>au rfl q) (λQ q=>ar (au rfl (aC (dA q)))) (by rw[Ab];omega) (gE ?_ ?_)))) ?_
   ·have:=okn.1;rw[Bn,Br,Ab];omega
   ·unfold bK at q;rw[CS]at q;exact q
   ·dsimp only[Al];exact fin (cE ns i) (by rw[if_pos z])
  ·dsimp only[aM];exact fin ns (by rw[if_neg (by rw[z];exact Ae)])
end
theorem LW:bV oM wm ["programs","stand","hand","act","place","notes","number","names"]:=λws n Q h=>by
 obtain⟨ps,hs,ns,h,a,rfl,⟨okp,okh,okn⟩,hh,ea,hp,k⟩:=h;obtain⟨P,xb,xp,nm,w,as,H⟩:=je okh hh;have oa:=H.ok okp ea;rw[nK H ea]at k;have hlt:h < hs.length:=by rw[okh.1];exact hh
 have hl5:hs.length<=5:=by rw[okh.1];exact okp.1
 show wm [ae (.w (.d (a8 ps))),ae (.w (.d (bQ hs ns))),ae (.w (.d (.int h))),ae (.w (.d a.d)),ah,ah,ah,ah] n _;cases a with
 |lay fs age=>cases hp
 |same f g b=>cases hp
 |go b=>cases hp
 |take gs=>
  refine wO (s:="take") (gs:=gs) (r:=[]) H okp okh okn hh ea rfl rfl oa.1 oa.2 (λe=>?_) λi ns' e e'=>?_
  ·have k:Q (.d (ie (((bZ gs (xb,xp,nm) ns).map λq=>(q.2,cE ns q.1)).map λr=>(bo hs h r.1,r.2)))) n:=k;rw[iQ e]at k;exact aE (bw (λQ q=>aF (k:=ai) (λQ q=>ar (d4 rfl (aC (yp (by rw[show bL "look" (.str "take")=aj by decide +kernel];exact q))))) q) (bc (aC k)))
  ·rw[if_pos ∅]at e';rw[e'];have k:Q (.d (ie (((bZ gs (xb,xp,nm) ns).map λq=>(q.2,cE ns q.1)).map λr=>(bo hs h r.1,r.2)))) n:=k;rw[iD e]at k;exact k
 |read gs=>
  refine wO (s:="read") (gs:=gs) (r:=[]) H okp okh okn hh ea rfl rfl oa.1 oa.2 (λe=>?_) λi ns' e e'=>?_
  ·have k:Q (.d (ie (((bZ gs (xb,xp,nm) ns).map λq=>(q.2,ns)).map λr=>(bo hs h r.1,r.2)))) n:=k;rw[iQ e]at k;exact aE (bw (λQ q=>aF (k:=ai) (λQ q=>ar (d4 rfl (aC (yp (by rw[show bL "look" (.str "read")=aj by decide +kernel];exact q))))) q) (bc (aC k)))
  ·rw[if_neg ∅]at e';rw[e'];have k:Q (.d (ie (((bZ gs (xb,xp,nm) ns).map λq=>(q.2,ns)).map λr=>(bo hs h r.1,r.2)))) n:=k;rw[iD e]at k;exact k
 |look gs b=>
  refine wO (s:="look") (gs:=gs) (r:=[.int b]) H okp okh okn hh ea rfl rfl oa.1 oa.2 (λe=>?_) λi ns' e e'=>?_
  ·have k:Q (.d (ie ((match bZ gs (xb,xp,nm) ns with|some q=>ae (q.2,ns)|none=>ae (b8 P b nm,ns):Option (Hn×List Nt)).map λr=>(bo hs h r.1,r.2)))) n:=k;rw[iQ e]at k;have hr:=(okp.2 P (A4 H.prog)).2.2 (w,as) (A4 H.blk);rw[H.act]at ea;obtain⟨wb,hwb,_⟩:=(hr.2 xp _ ea).2 b rfl;rw[Aw]at hwb;obtain⟨bl,hbl,_⟩:=Option.map_eq_some_iff.mp hwb;have obl:=((okp.2 P (A4 H.prog)).2.2 bl (A4 hbl)).1;refine aE (aQ (λQ q=>aF (k:=aj) (λQ q=>ar (d4 rfl (aC (yp (by rw[show bL "look" (.str "look")=ai by decide +kernel];exact q))))) q) ?_);dsimp only[aM];refine bc (xV (x:=b8 P b nm) rfl rfl rfl (λQ q=>?_) hlt hl5 k);refine b7 (ar (au rfl (au rfl (bN H.pD ?_))));refine ar (au rfl (aC (cW ?_)));exact ar (au rfl (aC (cW ⟨P,b,nm,bl,rfl,hbl,obl.1,q⟩)))
  ·rw[if_neg ∅]at e';rw[e'];have k:Q (.d (ie ((match bZ gs (xb,xp,nm) ns with|some q=>ae (q.2,ns)|none=>ae (b8 P b nm,ns):Option (Hn×List Nt)).map λr=>(bo hs h r.1,r.2)))) n:=k;rw[iD e]at k;exact k
theorem kf(k:w δ n λx n1=>w' δ n1 λy n2=>w'' δ n2 λz n3=>v δ n3 λu n4=>S [x,y,z,u] n4 Q):aH S (aq w (aq w' (aq w'' (aq v ao)))) δ n Q:=k
theorem BS(h:k∈nm.map (·.1)):∃v,look nm k=ae v:=by
 obtain⟨p,hp,e⟩:=A7.mp h;have:(nm.any λp=>decide (p.1=k))=ai:=Dp.mpr ⟨p,hp,decide_eq_true e⟩;rw[tJ]at this;exact Dm.mp this
theorem Ma{f:Fe}(h:f.tm=ai):f.bd=ah:=by cases f<;>first|rfl|cases h
theorem tD{f:Fe}(h:f.te=ai):f.tm=ai:=by cases f<;>first|rfl|cases h
theorem vH:∀{fs:List Fe}{ks:List Str},rF ks fs->(∀f∈fs,f.tm=ai)->∀f∈fs,∀k,f.us=ae k->k∈ks
 |[],_,_,_,f,hf,_,_=>by simp at hf
 |g::r,ks,h,ht,f,hf,k,hk=>by
  rcases Ao.mp hf with rfl|hf
  ·exact h.1 k hk
  ·have h2:=h.2;rw[Ma (ht g As)]at h2;have:=vH h2 (λx hx=>ht x (Ar _ hx)) f hf k hk;simpa using this
section
variable{ps:Pg}{hs:List Hn}{ns:List Nt}{h:Nat}{P:List Bl}{xb xp:Nat}{nm:Nm}{w:List Str}{as:List Ac}{n:Int}{Q:DQ}
theorem HandAt.okb(H:HandAt ps hs h P xb xp nm w as)(okp:cH ps):mC (w,as)/\l9 (P.map (·.1)) (w,as):=(okp.2 P (A4 H.prog)).2.2 (w,as) (A4 H.blk)
theorem HandAt.right(H:HandAt ps hs h P xb xp nm w as)(okp:cH ps)(e:bP ps hs h=ae a):a.right (P.map (·.1)) (kn w as xp):=by
 rw[H.act]at e;exact(H.okb okp).2 xp a e
theorem HandAt.fv(H:HandAt ps hs h P xb xp nm w as)(ok:f.ok)(tm:f.tm=ai)(us:∀k,f.us=ae k->k∈kn w as xp):fk nm f:=⟨ok,tm,λk hk=>by
 obtain⟨v,e⟩:=BS ((H.hn.mem k).mpr (us k hk));exact⟨v,e,(H.hn.ok _ (lS e)).2⟩⟩
theorem HandAt.lay(H:HandAt ps hs h P xb xp nm w as)(okp:cH ps)(e:bP ps hs h=ae (.lay fs age)):fs.length<=4/\∀f∈fs,fk nm f:=by
 have oa:=H.ok okp e;have r:=(H.right okp e).1;exact⟨oa.1.1,λf hf=>H.fv (oa.1.2 f hf) (oa.2.1 f hf) (vH r oa.2.1 f hf)⟩
theorem HandAt.same(H:HandAt ps hs h P xb xp nm w as)(okp:cH ps)(e:bP ps hs h=ae (.same f g b)):fk nm f/\fk nm g/\f.te=ai/\g.te=ai:=by
 have oa:=H.ok okp e;have r:=vH (H.right okp e).1 (λx hx=>by
  simp only[Ac.fs,Ao,Aq,or_false]at hx;rcases hx with rfl|rfl
  ·exact tD oa.2.1
  ·exact tD oa.2.2)
 exact⟨H.fv (oa.1.2 f (by simp[Ac.fs])) (tD oa.2.1) (r f (by simp[Ac.fs])),H.fv (oa.1.2 g (by simp[Ac.fs])) (tD oa.2.2) (r g (by simp[Ac.fs])),oa.2.1,oa.2.2⟩
theorem HandAt.to(H:HandAt ps hs h P xb xp nm w as)(okp:cH ps)(e:bP ps hs h=ae a)(hb:a.to=ae b):∃bl:Bl,P[b]?=ae bl/\mC bl/\∀k∈bl.1,k∈nm.map (·.1):=by
 obtain⟨wb,hwb,hk⟩:=(H.right okp e).2 b hb;rw[Aw]at hwb;obtain⟨bl,hbl,rfl⟩:=Option.map_eq_some_iff.mp hwb;exact⟨bl,hbl,((okp.2 P (A4 H.prog)).2.2 bl (A4 hbl)).1,λk z=>(H.hn.mem k).mpr (hk k z)⟩
end
theorem OF(e:δ[i]?=ae (ae (.w (.d (.tuple [a,b])))))(k:Q (.d b) n):w2 (ak i) (cx (wC (.int 1))) aA δ n Q:=ar (au e k)
theorem UN(e:δ[i]?=ae (ae (.w (.d (.tuple [a,b,c,d])))))(k:Q (.d d) n):w2 (ak i) (cx (wC (.int 1))) aA δ n Q:=ar (au e k)
theorem Vk:bV t5 zv ["programs","stand","hand","act","place","notes","names"]:=λws n Q h=>by
 obtain⟨ps,hs,ns,h,rfl,⟨okp,okh,okn⟩,hh,k⟩:=h;obtain⟨P,xb,xp,nm,w,as,H⟩:=je okh hh;have hlt:h < hs.length:=by rw[okh.1];exact hh
 have hl5:hs.length<=5:=by rw[okh.1];exact okp.1
 show zv [ae (.w (.d (a8 ps))),ae (.w (.d (bQ hs ns))),ae (.w (.d (.int h))),ah,ah,ah,ah] n _;refine aE (bA (λQ q=>nj rfl rfl rfl okh hh q) ?_);dsimp only[Al];cases ea:bP ps hs h with
 |none=>
  unfold fM at k;rw[H.prog,H.hand,ea]at k;exact aE (bw (λQ q=>aF (k:=ai) (λQ q=>ar (au rfl (aC (gB q)))) q) (bc (aC k)))
 |some a=>
  have oa:=H.ok okp ea;show av _ _ [ae (.w (.d (a8 ps))),ae (.w (.d (bQ hs ns))),ae (.w (.d (.int h))),ae (.w (.d a.d)),ah,ah,ah] n _;cases ef:a.pf with
  |some fs=>
   obtain⟨of,s,r,e,h1,_⟩:=rW ef oa;have ha:Q (.d (ie (fM ps hs ns h))) n->aH oM (aq ↥0 (aq ↥1 (aq ↥2 (aq ↥3 ao)))) [ae (.w (.d (a8 ps))),ae (.w (.d (bQ hs ns))),ae (.w (.d (.int h))),ae (.w (.d a.d)),ah,ah,ah] n Q:=λk=>
    kf (au rfl (au rfl (au rfl (au rfl ⟨ps,hs,ns,h,a,rfl,⟨okp,okh,okn⟩,hh,ea,by rw[ef];rfl,k⟩))))
   rw[e]at ha ⊢;refine aE (aQ (λQ q=>aF (k:=aj) (λQ q=>ar (au rfl (aC (gB q)))) q) ?_);dsimp only[aM];exact aE (bw (λQ q=>BC (λQ q=>d4 rfl q) h1 q) (bc (ha k)))
  |none=>
   rw[nK H ea]at k;have pre:∀(V:aP)(s:Str)(r:List Aa),a.d=.tuple (.str s::r)->bU (.str s) [.str "take",.str "read",.str "look"]=aj->
     V [ae (.w (.d (a8 ps))),ae (.w (.d (bQ hs ns))),ae (.w (.d (.int h))),ae (.w (.d a.d)),ae (.w (.d (bW (xb,xp,nm)))),ae (.w (.d (bK ns))),ae (.w (.d (cJ nm)))] n {nx:=λ_ n=>Q (.d .none) n,rt:=Q}->
     av (aJ (cT (w2 ↥3 (wC .none) (bJ aj))) (az (wC .none)) aM) (av (aJ (cT (ju Ze (w2 ↥3 ⇑0 aA))) (az (aH oM (aq ↥0 (aq ↥1 (aq ↥2 (aq ↥3 ao)))))) aM) (av (aB 4 (w2 (w2 ↥1 ⇑0 aA) ↥2 aA)) (av (aB 5 (w2 ↥1 ⇑1 aA)) (av (aB 6 (w2 ↥4 ⇑2 aA)) V))))
      [ae (.w (.d (a8 ps))),ae (.w (.d (bQ hs ns))),ae (.w (.d (.int h))),ae (.w (.d a.d)),ah,ah,ah] n {nx:=λ_ n=>Q (.d .none) n,rt:=Q}:=λV s r e h1 kk=>by
    rw[e]at kk ⊢;refine aE (aQ (λQ q=>aF (k:=aj) (λQ q=>ar (au rfl (aC (gB q)))) q) ?_);dsimp only[aM];refine aE (aQ (λQ q=>BC (λQ q=>d4 rfl q) h1 q) ?_);dsimp only[aM];refine aE (bA (x:=bW (xb,xp,nm)) (λQ q=>ar (ar (au rfl (aC (bO (au rfl (bN H.hD q))))))) ?_);dsimp only[Al];refine aE (bA (x:=bK ns) (λQ q=>dZ rfl q) ?_);dsimp only[Al];refine aE (bA (x:=cJ nm) (λQ q=>ar (au rfl (aC (cW q)))) ?_);dsimp only[Al];exact kk
   have fin:∀(x:Hn)(ns':List Nt)(d:Aa),Q (.d (bQ (bo hs h x) ns')) n->az (aw (aq (aH jT (aq (w2 ↥1 ⇑0 aA) (aq ↥2 (aq ↥4 ao)))) (aq ↥5 ao))) [ae (.w (.d (a8 ps))),ae (.w (.d (bQ hs ns))),ae (.w (.d (.int h))),ae (.w (.d d)),ae (.w (.d (bW x))),ae (.w (.d (bK ns'))),ae (.w (.d (cJ nm)))] n {nx:=λ_ n=>Q (.d .none) n,rt:=Q}:=λx ns' d q=>
    bc (xV (x:=x) rfl rfl rfl (λQ q=>au rfl q) hlt hl5 q)
   cases a with
   |take fs=>cases ef
   |read fs=>cases ef
   |look fs b=>cases ef
   |lay fs age=>
    obtain⟨hl4,hfv⟩:=H.lay okp ea;refine pre _ "lay" [eS fs,age] rfl ∅ ?_;refine aE (oX (a:=.str "lay") rfl ∅ (aE ?_));refine bA (x:=bK (ns++[(cu fs nm,age)])) (λQ q=>?_) ?_
    ·refine ar (au rfl (jM (cZ (bG (dZ rfl (au rfl ⟨fs,nm,rfl,hl4,hfv,H.nms,?_⟩))))));refine ar (au rfl (aC (cW (Aj (show 2<=1000 by decide) (Aj (show 1<=1000 by decide) (gE (by rw[Ab,Ax];have:=okn.1;omega) ?_))))));unfold bK at q;rw[Bd]at q;exact q
    ·dsimp only[Al];refine bA (x:=bW (cO (xb,xp,nm) nm)) (λQ q=>bG (au rfl (au rfl ⟨(xb,xp,nm),nm,rfl,q⟩))) ?_;dsimp only[Al];exact fin _ _ _ k
   |same f g b=>
    obtain⟨hf,hg,tf,tg⟩:=H.same okp ea;obtain⟨bl,hbl,obl,_⟩:=H.to okp ea (b:=b) rfl;refine pre _ "same" [f.d,g.d,.int b] rfl ∅ ?_;refine aE (ku (a:=.str "same") rfl ∅ (dq (lN (λQ q=>lJ (a:=.str "same") rfl ?_) ?_)))
    ·rw[show bL "same" (.str "same")=ai by decide +kernel];exact q
    refine(show cT _ _ _ _ from bG (au rfl (au rfl ⟨f,g,b,nm,rfl,hf,hg,tf,tg,H.nms,?_⟩)));have k:Q (.d (bQ (bo hs h (if fC (eL nm f) (eL nm g)=ai then cO (xb,xp,nm) nm else b8 P b nm)) ns)) n:=k;refine jv (λz=>?_) λz=>?_
    ·rw[if_pos z]at k;refine bA (x:=bW (cO (xb,xp,nm) nm)) (λQ q=>bG (au rfl (au rfl ⟨(xb,xp,nm),nm,rfl,q⟩))) ?_;dsimp only[Al];exact fin _ _ _ k
    ·rw[if_neg (by rw[z];exact Ae)]at k;refine bA (x:=bW (b8 P b nm)) (λQ q=>b7 (ar (au rfl (au rfl (bN H.pD (UN rfl (au rfl ⟨P,b,nm,bl,rfl,hbl,obl.1,q⟩))))))) ?_;dsimp only[Al];exact fin _ _ _ k
   |go b=>
    obtain⟨bl,hbl,obl,_⟩:=H.to okp ea (b:=b) rfl;refine pre _ "go" [.int b] rfl ∅ ?_;refine aE (ku (a:=.str "go") rfl ∅ (aQ (λQ q=>mr (λQ q=>lJ (a:=.str "go") rfl ?_) q) ?_))
    ·rw[show bL "same" (.str "go")=aj by decide +kernel];exact q
    refine bA (x:=bW (b8 P b nm)) (λQ q=>b7 (ar (au rfl (au rfl (bN H.pD (OF rfl (au rfl ⟨P,b,nm,bl,rfl,hbl,obl.1,q⟩))))))) ?_;dsimp only[Al];exact fin _ _ _ k
theorem qw(k:Q (.d (.bool (decide (a=b)))) n):aT (.d (.int a)) (.d (.int b)) n Q:=k
theorem rL(ps:Pg)(i:Int):kJ ps (.int i)=if 0<=i/\i<=(ps.length:Int)then ae i.toNat else ah:=rfl
theorem qY(em:kJ ps b=ae m):b=.int m/\m<=ps.length:=by
 cases b with
 |int i=>
  rw[rL]at em;by_cases z:0<=i/\i<=(ps.length:Int)
  ·rw[if_pos z]at em;cases em;exact⟨by congr 1;omega,by omega⟩
  ·rw[if_neg z]at em;cases em
 |_=>cases em
theorem O5(em:kJ ps b=ah):tX b ps.length=aj:=by
 cases b with
 |int i=>
  rw[rL]at em;by_cases z:0<=i/\i<=(ps.length:Int)
  ·rw[if_pos z]at em;cases em
  ·show(decide (0<=i)&&decide (i<=(ps.length:Int)))=aj;rw[Bool.and_eq_false_iff,decide_eq_false_iff_not,decide_eq_false_iff_not];omega
 |_=>rfl
theorem KC:bV pL Ip ["programs","stand","mover","clock"]:=λws n Q h=>by
 obtain⟨ps,hs,ns,b,rfl,ok,k⟩:=h;show Ip [ae (.w (.d (a8 ps))),ae (.w (.d (bQ hs ns))),ae (.w (.d b)),ah] n _;refine aE (bA (x:=.int ps.length) (λQ q=>aU (au rfl (show Q (.d (.int ((ps.map fg).length:Nat))) n by rw[Ab];exact q))) ?_);dsimp only[Al];unfold gR at k;cases em:kJ ps b with
 |none=>
  rw[em]at k;have ew:=O5 em;exact aE (bw (λQ q=>jC (k:=aj) (λQ q=>aF (k:=aj) (λQ q=>bG (au rfl (au rfl ⟨_,_,rfl,by rw[ew];exact q⟩))) q) q) (bc (aC k)))
 |some m=>
  rw[em]at k;have k:Q (.d (ie (cD ps hs ns m))) n:=k;obtain⟨rfl,hm⟩:=qY em;have ew:tX (.int m) ps.length=ai:=by
   show(decide (0<=(m:Int))&&decide ((m:Int)<=(ps.length:Int)))=ai;rw[decide_eq_true ⋯,decide_eq_true ⋯];rfl
  refine aE (aQ (λQ q=>jC (k:=ai) (λQ q=>aF (k:=ai) (λQ q=>bG (au rfl (au rfl ⟨_,_,rfl,by rw[ew];exact q⟩))) q) q) ?_);dsimp only[aM];unfold cD at k;refine bc (fN (b:=decide ((m:Int)=ps.length)) (λQ q=>aF (λQ q=>ar (au rfl (au rfl (qw q)))) q) ?_);by_cases e:m=ps.length
  ·rw[if_pos e]at k;rw[if_pos (decide_eq_true ⋯)];exact cF (au rfl ⟨hs,ns,rfl,λq hq=>(ok.2.2.2 q hq).2,k⟩)
  ·rw[if_neg e]at k;rw[if_neg (by rw[decide_eq_false ⋯];exact Ae)];exact b7 (au rfl (au rfl (au rfl ⟨ps,hs,ns,m,rfl,ok,by omega,k⟩)))
theorem ER(e:δ[i]?=ae (ae (.w x)))(k:Q x n):cS i δ n Q:=by unfold cS;rw[e];exact k
theorem EO(e:δ[j]?=ae (ae (.w (.d (cJ ps)))))(ok:okN ps)(k:Q (.dk (bx ps)) n):lE (ak j) δ n Q:=by
 unfold lE kE i8;refine au e ?_;unfold cJ;simp only[rS];refine⟨by rw[Ab];have:=ok.1;omega,?_⟩;have:=rq ps [] (by rw[Bv];exact ok.2.1);rw[Bv]at this;rw[show([]:List (aG×Aa))=bx []from rfl,this];exact k
theorem Va(h:cz (.int i)=ai):k9 (.int i)=.int ((i+1) % 100):=by
 obtain⟨h0,h1⟩:=zk h;show(if i=99 then Cp 0 else Cp (i+1))=_
 split
 ·rename_i e;subst e;rfl
 ·rw[Int.emod_eq_of_lt ⋯ ⋯]
theorem Ml:bV qr FK ["_law_template_here","_law_has","_law_row_here","_law_word","_law_thing","_law_value_here"]:=λws n Q h=>by
 obtain⟨fs,nm,rfl,hl,ok,k⟩:=h;show FK [ae (.w (.d (eS fs))),ae (.w (.dk (bx nm))),ah,ah,ah,ah] n _;refine aE (iM ?_);dsimp only[Al];refine aE ?_;unfold aW eQ;refine au rfl ?_;dsimp only[eS];refine eV (λds δ m=>m=n/\∃(dn re:List Fe)(x y z:Option SV),ds=re.map Fe.d/\dn++re=fs/\δ=[ae (.w (.d (eS fs))),ae (.w (.dk (bx nm))),ae (.own (dn.map (eL nm))),x,y,z]) (λδ m I=>?_) (λd r δ m N I kN=>?_) _ _ _ ⟨rfl,[],fs,ah,ah,ah,rfl,rfl,rfl⟩
 ·obtain⟨rfl,dn,re,x,y,z,ed,en,rfl⟩:=I;cases List.map_eq_nil_iff.mp ed.symm;rw[Bw]at en;subst en;dsimp only;refine gy rfl ?_;dsimp only[Al];exact bc (aU (au rfl (oi k)))
 ·obtain⟨rfl,dn,re,x,y,z,ed,en,rfl⟩:=I;obtain⟨f,re,rfl,rfl,rfl⟩:=Gc.mp ed.symm;have hf:=ok f (by rw[<-en];exact Be _ As);have hdn:dn.length < 1000000:=by
   have:=congrArg Dv en;rw[Ai]at this;omega
  have nxt:∀(x y z:Option SV),N [ae (.w (.d (eS fs))),ae (.w (.dk (bx nm))),ae (.own (dn.map (eL nm)++[eL nm f])),x,y,z] m:=λx y z=>
   kN _ _ ⟨rfl,dn++[f],re,x,y,z,rfl,by rw[Bp];exact en,by rw[Bd];rfl⟩
  obtain⟨fo,tm,us⟩:=hf;have app:∀(K:DEnds)(x y:Option SV)(v:Aa),v=eL nm f->(∀δ n,N δ n->K.nx δ n)->bq 2 ↥5 [ae (.w (.d (eS fs))),ae (.w (.dk (bx nm))),ae (.own (dn.map (eL nm))),x,y,ae (.w (.d v))] m K:=λK x y v e hK=>
   jW rfl (λQ q=>au rfl q) (by rw[Ab];exact hdn) (by subst e;exact hK _ _ (nxt _ _ _))
  have named:∀(K:DEnds)(s x:Str)(v:Aa),look nm x=ae v->bL "is" (.str s)=aj->(∀δ n,N δ n->K.nx δ n)->(av (aJ (dJ (cT (w2 ↥3 (wC (.str "next")) aT)) (cQ (cT (cb "str" ↥5)))) (aB 5 (w2 (w2 ↥5 ⇑1 (bY λi j=>.int (i+j))) ⇑100 (gI (λ_ j=>0 < j) λi j=>.int (i % j)))) aM) (bq 2 ↥5)) [ae (.w (.d (eS fs))),ae (.w (.dk (bx nm))),ae (.own (dn.map (eL nm))),ae (.w (.d (.str s))),ae (.w (.d (.str x))),ae (.w (.d v))] m K->
    av (aB 5 (eu (cT (w2 ↥3 (wC (.str "is")) aT)) ↥4 (w2 (cS 1) ↥4 gN))) (av (aJ (dJ (cT (w2 ↥3 (wC (.str "next")) aT)) (cQ (cT (cb "str" ↥5)))) (aB 5 (w2 (w2 ↥5 ⇑1 (bY λi j=>.int (i+j))) ⇑100 (gI (λ_ j=>0 < j) λi j=>.int (i % j)))) aM) (bq 2 ↥5)) [ae (.w (.d (eS fs))),ae (.w (.dk (bx nm))),ae (.own (dn.map (eL nm))),ae (.w (.d (.str s))),ae (.w (.d (.str x))),z] m K:=λK s x v e hs hK kk=>by
   refine aE (bA (x:=v) (λQ q=>fN (b:=aj) (λQ q=>aF (λQ q=>gW (d:=.str s) rfl (by rw[hs];exact q)) q) ?_) ?_)
   ·rw[if_neg Ae];refine ar (ER rfl (au rfl ?_));unfold gN;simp only[kG,e];exact q
   ·dsimp only[Al];exact kk
  refine⟨(by cases f<;>first|rfl|cases tm),?_⟩;cases f with
  |isv d=>
   dsimp only[Fe.hd,Fe.tl,br,cv,aI,Al];refine aE (bA (x:=d) (λQ q=>fN (b:=ai) (λQ q=>aF (λQ q=>gW (d:=.str "is") rfl (by rw[vj];exact q)) q) (by rw[if_pos rfl];exact au rfl q)) ?_);dsimp only[Al];refine aE (aQ (λQ q=>mr (λQ q=>gW (d:=.str "is") rfl (by rw[show bL "next" (.str "is")=aj by decide +kernel];exact q)) q) ?_);dsimp only[aM];exact app _ _ _ _ rfl λ_ _ z=>z
  |as x=>
   obtain⟨v,e,hv⟩:=us x rfl;dsimp only[Fe.hd,Fe.tl,br,cv,aI,Al];refine named _ "as" x v e u7 (λ_ _ z=>z) ?_;refine aE (aQ (λQ q=>mr (λQ q=>gW (d:=.str "as") rfl (by rw[show bL "next" (.str "as")=aj by decide +kernel];exact q)) q) ?_);dsimp only[aM];exact app _ _ _ _ (by show v=gA nm x;unfold gA;rw[e];rfl) λ_ _ z=>z
  |nx x=>
   obtain⟨v,e,hv⟩:=us x rfl;have ev:eL nm (.nx x)=k9 v:=by show k9 (gA nm x)=_;unfold gA;rw[e];rfl
   dsimp only[Fe.hd,Fe.tl,br,cv,aI,Al];refine named _ "next" x v e ∅ (λ_ _ z=>z) ?_;cases v with
   |str t=>
    refine aE (aQ (λQ q=>lN (λQ q=>gW (d:=.str "next") rfl (by rw[show bL "next" (.str "next")=ai by decide +kernel];exact q)) (jC (k:=ai) (λQ q=>aF (k:=ai) (λQ q=>show cb _ _ _ _ _ from au rfl (show Q (.d (.bool (dQ "str" (.str t)))) m by rw[mK];exact q)) q) q)) ?_);dsimp only[aM];exact app _ _ _ _ (by rw[ev];rfl) λ_ _ z=>z
   |int i=>
    refine aE (bw (λQ q=>lN (λQ q=>gW (d:=.str "next") rfl (by rw[show bL "next" (.str "next")=ai by decide +kernel];exact q)) (jC (k:=aj) (λQ q=>aF (k:=aj) (λQ q=>show cb _ _ _ _ _ from au rfl (show Q (.d (.bool (dQ "str" (.int i)))) m by rw[mK];exact q)) q) q)) ?_);refine bA (x:=.int ((i+1) % 100)) (λQ q=>ar (ar (au rfl (aC (dA (aC ⟨show(0:Int) < 100 by decide,q⟩)))))) ?_;dsimp only[Al];exact app _ _ _ _ (by rw[ev,Va hv]) λ_ _ z=>z
   |_=>cases hv
  |_=>cases tm
theorem Vx:bV sC CF ["_law_term_here","_law_names"]:=λws n Q h=>by
 obtain⟨f,nm,rfl,⟨fo,tm,us⟩,te,okn,k⟩:=h;show CF [ae (.w (.d f.d)),ae (.w (.d (cJ nm)))] n _;cases f with
 |isv d=>exact bc (fN (b:=ai) (λQ q=>aF (λQ q=>lJ (a:=.str "is") rfl (by rw[vj];exact q)) q) (by rw[if_pos rfl];exact dZ rfl k))
 |as x=>
  obtain⟨v,e,hv⟩:=us x rfl;have k:Q (.d (gA nm x)) n:=k;unfold gA at k;rw[e]at k;refine bc (fN (b:=aj) (λQ q=>aF (λQ q=>lJ (a:=.str "as") rfl (by rw[u7];exact q)) q) ?_);rw[if_neg Ae];refine ar (EO rfl okn (dZ (a:=.str "as") (b:=.str x) (r:=[]) rfl ?_));unfold gN;simp only[kG,e];exact k
 |_=>cases te
theorem He:∀{xs ys:List Str},xs.Nodup->ys.Nodup->(∀k,k∈xs↔k∈ys)->me xs->me ys->xs=ys
 |[],[],_,_,_,_,_=>rfl
 |[],y::ys,_,_,h,_,_=>by have:=(h y).mpr As;simp at this
 |x::xs,[],_,_,h,_,_=>by have:=(h x).mp As;simp at this
 |x::xs,y::ys,n1,n2,h,u1,u2=>by
  obtain⟨a1,b1⟩:=Ca.mp n1;obtain⟨a2,b2⟩:=Ca.mp n2;obtain⟨c1,d1⟩:=List.pairwise_cons.mp u1;obtain⟨c2,d2⟩:=List.pairwise_cons.mp u2;have e:x=y:=by
   rcases Ao.mp ((h x).mp As)with e|hx
   ·exact e
   ·rcases Ao.mp ((h y).mpr As)with e|hy
    ·exact e.symm
    ·exact I0 _ _ (c2 x hx) (c1 y hy)
  subst e;rw[He b1 b2 (λk=>⟨λhk=>?_,λhk=>?_⟩) d1 d2]
  ·rcases Ao.mp ((h k).mp (Ar _ hk))with e|q
   ·exact absurd (e▸hk) a1
   ·exact q
  ·rcases Ao.mp ((h k).mpr (Ar _ hk))with e|q
   ·exact absurd (e▸hk) a2
   ·exact q
theorem AU{nm:Nm}(nd:(nm.map (·.1)).Nodup)(up:j0 nm)(wn:w.Nodup)(wu:me w)(sub:∀k∈w,k∈nm.map (·.1)):nm.filter (λp=>decide (p.1∈w))=w.map λk=>(k,gA nm k):=by
 have ek:(nm.filter λp=>decide (p.1∈w)).map (·.1)=w:=by
  refine He ?_ wn (λk=>⟨λhk=>?_,λhk=>?_⟩) ?_ wu
  ·exact List.Nodup.sublist (List.Sublist.map _ Fk) nd
  ·obtain⟨p,hp,rfl⟩:=A7.mp hk;exact of_decide_eq_true (B9.mp hp).2
  ·obtain⟨p,hp,rfl⟩:=A7.mp (sub k hk);exact A7.mpr ⟨p,B9.mpr ⟨hp,decide_eq_true hk⟩,rfl⟩
  ·unfold me;rw[Ey];exact List.Pairwise.sublist Fk up
 have e2:(nm.filter λp=>decide (p.1∈w))=(nm.filter λp=>decide (p.1∈w)).map λp=>(p.1,gA nm p.1):=by
  have:(nm.filter λp=>decide (p.1∈w)).map id=(nm.filter λp=>decide (p.1∈w)).map λp=>(p.1,gA nm p.1):=by
   refine Ck λp hp=>?_;have:=JE nd (B9.mp hp).1;show p=(p.1,gA nm p.1);unfold gA;rw[this];rfl
  rw[Gb]at this;exact this
 rw[e2]
 conv=>rhs;rw[<-ek]
 rw[Bt];rfl
theorem Tx:bV lZ zi ["_law_program_here","_law_names","_law_block","_law_has"]:=λws n Q h=>by
 obtain⟨P,b,nm,⟨w,as⟩,rfl,hb,hw,okn,up,wn,wu,sub,k⟩:=h;have hbD:(P.map kP)[b]?=ae (.tuple [eh w,.tuple (as.map Ac.d)]):=by rw[Aw,hb];rfl
 have ew:lT P b=w:=by unfold lT;rw[hb];rfl
 unfold b8 at k;rw[ew,AU okn.2.1 up wn wu sub]at k;show zi [ae (.w (.d (fg P))),ae (.w (.d (cJ nm))),ae (.w (.d (.int b))),ah] n _;refine aE (oV rfl okn ?_);dsimp only[Al];refine bc (fZ (au rfl (aC (aU (bb (jA (ds:=w.map .str) (λQ q=>ar (ar (au rfl (au rfl (bN hbD (aC (bO q)))))) ) ?_))))));show c7 _ _ _ _ _ _ [ah,ae (.w (.dk (bx nm)))] n;refine qK .str (λx=>ko (x,gA nm x)) w ah n (λx hx n Q' q=>?_) ?_
 ·obtain⟨v,e⟩:=BS (sub x hx);refine cZ (au rfl (ar (ER rfl (au rfl ?_))));unfold gN;simp only[kG,e];unfold gA at q;rw[e]at q;exact Aj (show 2<=1000 by decide) q
 ·refine Aj (show 3<=1000 by decide) ?_;unfold bW cJ at k;rw[Bt]at k;exact k
theorem EY:∀(ns:List Nt)(acc:List Aa)(x y:Option SV)(n:Int),(∀q∈ns,ft q.2)->Q (acc++(dw ns).map bI) n->
  c7 (du 2 (br (aI 0) (br (aI 1) cv))) (cT (w2 ↥1 ⇑1 eO)) (aw (aq ↥0 (aq (eu (cT (w2 ↥1 (wC .none) (dO aj))) (wC .none) (w2 ↥1 ⇑1 (bY λi j=>.int (i-j)))) ao))) Q (ns.map bI) acc [x,y] n
 |[],acc,x,y,n,_,q=>by
  have:dw []=[]:=rfl;rw[this,List.map_nil,Bw]at q;exact q
 | (row,a)::r,acc,x,y,n,h,q=>by
  have ha:ft a:=h (row,a) As;have ih:=λacc x y n q=>EY (Q:=Q) r acc x y n (λq hq=>h q (Ar _ hq)) q;rw[Bb];refine(show du 2 _ (bI (row,a)) [x,y] _ from⟨rfl,?_⟩);dsimp only[br,cv,aI,Al];refine aF (k:=!bX a) (λQ q=>ar (au rfl (aC (CW ha q)))) ?_;show if (!bX a)=ai then _ else _
  have e0:dw ((row,a)::r)=(if (!bX a)=ai then[(row,gF a)]else[])++dw r:=by
   unfold dw;rw[C9];dsimp only
   split<;>rfl
  rw[e0]at q;cases hi:bX a with
  |true=>
   rw[hi,if_neg ∎,Bv]at q;rw[if_neg ∎];exact ih _ _ _ _ q
  |false=>
   rw[hi,if_pos ∎,Bd,<-Bp]at q;rw[if_pos ∎];rcases ha with rfl|⟨i,rfl,_⟩
   ·exact cZ (au rfl (fN (b:=ai) (λQ q=>aF (k:=ai) (λQ q=>ar (au rfl (aC (jb q)))) q) (by rw[if_pos rfl];exact aC (Aj (show 2<=1000 by decide) (ih _ _ _ _ q)))))
   ·exact cZ (au rfl (fN (b:=aj) (λQ q=>aF (k:=aj) (λQ q=>ar (au rfl (aC (jb q)))) q) (by rw[if_neg Ae];exact ar (au rfl (aC (Aj (show 2<=1000 by decide) (ih _ _ _ _ q)))))))
section
variable{δ:Sl}{n:Int}{Q:DQ}{K:DEnds}{W V:aP}{i:Nat}{s h:Str}{r:List Aa}{b c d e:Aa}
theorem gD(k:aA x y n Q):aO x y n Q:=.inr k
theorem Pf(k:Q (.d (.bool (bL h (.str s)))) n):aT (.d (.str s)) (.d (.str h)) n Q:=k
theorem rG(e:δ[i]?=ae (ae (.w (.d (.tuple (.str s::r))))))(k:if bL h (.str s)=ai then W δ n K else V δ n K):aJ (cT (w2 (w2 (ak i) (wC (.int 0)) aO) (wC (.str h)) aT)) W V δ n K:=
 dq (show cT _ _ _ _ from ar (ar (au e (aC (gD (bO (aC (Pf k))))))))
theorem sk(e:δ[i]?=ae (ae (.w (.d (.tuple (.str s::r))))))(z:bL h (.str s)=ai)(k:W δ n K):aJ (cT (w2 (w2 (ak i) (wC (.int 0)) aO) (wC (.str h)) aT)) W V δ n K:=rG e (by rw[if_pos z];exact k)
theorem gS(e:δ[i]?=ae (ae (.w (.d (.tuple (.str s::r))))))(z:bL h (.str s)=aj)(k:V δ n K):aJ (cT (w2 (w2 (ak i) (wC (.int 0)) aO) (wC (.str h)) aT)) W V δ n K:=rG e (by rw[if_neg (by rw[z];exact Ae)];exact k)
theorem js(e:δ[i]?=ae (ae (.w (.d (.tuple (b::c::r))))))(k:Q (.d c) n):w2 (ak i) (wC (.int 1)) aO δ n Q:=ar (au e (aC (gD (cV k))))
theorem j8(e:δ[i]?=ae (ae (.w (.d (.tuple (b::c::d::r))))))(k:Q (.d d) n):w2 (ak i) (wC (.int 2)) aO δ n Q:=ar (au e (aC (gD (cW k))))
theorem u9(e':δ[i]?=ae (ae (.w (.d (.tuple [b,c,d,e])))))(k:Q (.d e) n):w2 (ak i) (wC (.int 3)) aO δ n Q:=ar (au e' (aC (gD k)))
theorem uL(e':δ[i]?=ae (ae (.w (.ob (.q d m)))))(k:Q (.d d) n):w2 (ak i) (wC (.int 0)) aO δ n Q:=ar (au e' (aC (.inl ⟨d,m,rfl,.inl ⟨rfl,k⟩⟩)))
theorem QN(e':δ[i]?=ae (ae (.w (.ob (.q d m)))))(k:Q (.dk m) n):w2 (ak i) (wC (.int 1)) aO δ n Q:=ar (au e' (aC (.inl ⟨d,m,rfl,.inr ⟨rfl,k⟩⟩)))
theorem Rf(ha:cz a=ai)(hb:cz b=ai)(k:Q (.d (.bool (!fC a b))) n):eO (.d a) (.d b) n Q:=by
 cases a with
 |str x=>cases b with
  |str y=>exact k
  |int j=>exact k
  |_=>cases hb
 |int i=>cases b with
  |str y=>exact k
  |int j=>exact k
  |_=>cases hb
 |_=>cases ha
end
theorem CQ(nd:(nm.map (·.1)).Nodup)(h:c8 fs row nm=ai):((dI fs row nm).map (·.1)).Nodup/\(wk (fs.zip row) nm []=ae (dI fs row nm)):=by
 unfold c8 at h;rw[Bf]at h;unfold dI;obtain⟨x,hx⟩:=Dm.mp h.2;rw[hx];exact⟨lB _ _ _ _ nd hx,rfl⟩
theorem pC:∀(l:List (Fd×Aa))(h:Nm)(hs:List Str)(k:Nm),(∀p∈l,p.1.ok/\cz p.2=ai)->(∀p∈h,gx p)->wk l h hs=ae k->(∀p∈k,gx p)/\k.length<=h.length+l.length
 |[],h,hs,k,_,ho,e=>by cases e;exact⟨ho,An _⟩
 | (f,v)::r,h,hs,k,hl,ho,e=>by
  have hr:∀p∈r,p.1.ok/\cz p.2=ai:=λp hp=>hl p (Ar _ hp);have same:wk r h hs=ae k->(∀p∈k,gx p)/\k.length<=h.length+((f,v)::r).length:=λe=>by
   have:=pC r h hs k hr ho e;exact⟨this.1,by rw[Am];omega⟩
  cases f with
  |is w=>unfold wk at e;split at e;exact same e;cases e
  |any=>unfold wk at e;exact same e
  |word=>unfold wk at e;split at e;exact same e;cases e
  |number=>unfold wk at e;split at e;exact same e;cases e
  |as x=>
   unfold wk at e
   split at e
   ·split at e
    ·exact same e
    ·cases e
   ·cases e
  |bind x=>
   unfold wk at e
   split at e
   ·split at e
    ·split at e
     ·exact same e
     ·cases e
    ·cases e
   ·have hb:=hl _ As;have:=pC r (put h x v) (hs++[x]) k hr (pQ ho hb.1 hb.2) e;have:=sQ h x v;exact⟨by have:=pC r (put h x v) (hs++[x]) k hr (pQ ho hb.1 hb.2) e;exact this.1,by rw[Am];omega⟩
theorem IM(of:qp fs)(or:sL row):∀p∈fs.zip row,p.1.ok/\cz p.2=ai:=λp hp=>by
 obtain⟨p1,p2⟩:=p;exact⟨of.2.2 _ (Eb hp).1,or.2 _ (Eb hp).2⟩
theorem Qz:bV qm AK ["_law_programs","_law_stand","_law_mover","_law_hands","_law_notes_here","_law_act_here","_law_block","_law_place","_law_names","_law_found","_law_hand"]:=λws n Q h=>by
 obtain⟨ps,hs,ns,m,r,rfl,⟨okp,okh,okn⟩,hm,e,k⟩:=h;show AK [ae (.w (.d (a8 ps))),ae (.w (.d (bQ hs ns))),ae (.w (.d (.int m))),ah,ah,ah,ah,ah,ah,ah,ah] n _;refine aE ?_;unfold cP;refine au rfl (Aj rfl ?_);dsimp only[br,cv,aI,Al];unfold cD at e;refine aE (dq (aF (k:=decide ((m:Int)=(ps.length:Nat))) (λQ q=>ar (au rfl (aU (au rfl ?_)))) ?_))
 ·show Q (.d (.bool (decide ((m:Int)=((ps.map fg).length:Nat))))) n;rw[Ab];exact q
 by_cases em:m=ps.length
 ·rw[if_pos em]at e;cases e;show if decide ((m:Int)=(ps.length:Nat))=ai then _ else _
  rw[if_pos (decide_eq_true ⋯)];refine bc (cZ (au rfl (aU (bb (jA (ds:=ns.map bI) (λQ q=>au rfl q) ?_)))));show c7 _ _ _ _ _ _ [ah,ah] n;exact EY ns [] ah ah n (λq hq=>(okn.2 q hq).2) (Aj (show 2<=1000 by decide) k)
 rw[if_neg em]at e;show if decide ((m:Int)=(ps.length:Nat))=ai then _ else _
 rw[if_neg (by rw[decide_eq_false ⋯];exact Ae)];dsimp only[aM];have hh:m < ps.length:=by omega
 obtain⟨P,xb,xp,nm,w,as,H⟩:=je okh hh;have hlt:m < hs.length:=by rw[okh.1];exact hh
 have hl5:hs.length<=5:=by rw[okh.1];exact okp.1
 refine aE (bA (λQ q=>nj rfl rfl rfl okh hh q) ?_);dsimp only[Al];cases ea:bP ps hs m with
 |none=>
  unfold fM at e;rw[H.prog,H.hand,ea]at e;cases e
 |some a=>
 rw[nK H ea]at e;have oa:=H.ok okp ea;refine aE ?_;refine ar (au rfl (au rfl (gD (bN H.hD ?_))));refine Aj rfl ?_;dsimp only[br,cv,aI,Al];refine aE (o8 (o:=dG ps hs ns m) (λQ q=>b7 (au rfl (au rfl (au rfl ⟨ps,hs,ns,m,rfl,⟨okp,okh,okn⟩,hh,q⟩)))) ?_);dsimp only[Al];refine aE (bA (x:=bW (cO (xb,xp,nm) nm)) (λQ q=>fZ (au rfl (ar (au rfl (aC (dA (au rfl (Aj (show 3<=1000 by decide) q)))))))) ?_);dsimp only[Al];have fin:∀(x:Hn)(ns':List Nt)(x5 x6 x7 x8 x9:Option SV),Q (.d (bQ (bo hs m x) ns')) n->az (aw (aq (w2 (w2 (cC ↥3 cm (cf ↥2)) (aw (aq ↥10 ao)) cY) (cC ↥3 (cf (w2 ↥2 ⇑1 (bY λi j=>.int (i+j)))) cm) cY) (aq ↥4 ao)))
   [ae (.w (.d (a8 ps))),ae (.w (.d (bQ hs ns))),ae (.w (.d (.int m))),ae (.w (.d (.tuple (hs.map bW)))),ae (.w (.d (bK ns'))),x5,x6,x7,x8,x9,ae (.w (.d (bW x)))] n {nx:=λ_ n=>Q (.d .none) n,rt:=Q}:=λx ns' x5 x6 x7 x8 x9 q=>by
  have hd:(bo hs m x).map bW=((hs.map bW).take m++[bW x])++(hs.map bW).drop (m+1):=by
   unfold bo;rw[Bd,Bb,List.map_take,List.map_drop,Bp];rfl
  unfold bQ at q;rw[hd]at q;have l1:((hs.map bW).take m).length<=5:=A2 (List.length_take_le' _ _) (by rw[Ab];exact hl5);have l2:((hs.map bW).drop (m+1)).length<=5:=by rw[Br,Ab];omega
  refine bc (cZ (ar (ar (mR (p:=m) (λQ q=>au rfl q) (λQ q=>au rfl q) (by rw[Ab];omega) (jM (au rfl (Aj (show 1<=1000 by decide) (gE (by rw[Ax];omega) ?_))))))));exact m9 (p:=m+1) (λQ q=>au rfl q) (λQ q=>ar (au rfl (aC (dA q)))) (by rw[Ab];omega) (gE (by rw[Ai,Ax];omega) (au rfl (Aj (show 2<=1000 by decide) q)))
 have toB:∀(b:Nat),a.to=ae b->∀(x5 x9:Option SV)(i5:DT),(∀Q:DQ,Q (.d (.int b)) n->i5 [ae (.w (.d (a8 ps))),ae (.w (.d (bQ hs ns))),ae (.w (.d (.int m))),ae (.w (.d (.tuple (hs.map bW)))),ae (.w (.d (bK ns))),x5,ae (.w (.d (.int xb))),ae (.w (.d (.int xp))),ae (.w (.d (cJ nm))),x9,ae (.w (.d (bW (cO (xb,xp,nm) nm))))] n Q)->∀K:DEnds,
   (∀δ n,az (aw (aq (w2 (w2 (cC ↥3 cm (cf ↥2)) (aw (aq ↥10 ao)) cY) (cC ↥3 (cf (w2 ↥2 ⇑1 (bY λi j=>.int (i+j)))) cm) cY) (aq ↥4 ao))) δ n {nx:=λ_ n=>Q (.d .none) n,rt:=Q}->K.nx δ n)->Q (.d (bQ (bo hs m (b8 P b nm)) ns)) n->
   aB 10 (aH lZ (aq (w2 ↥0 ↥2 aO) (aq ↥8 (aq i5 ao)))) [ae (.w (.d (a8 ps))),ae (.w (.d (bQ hs ns))),ae (.w (.d (.int m))),ae (.w (.d (.tuple (hs.map bW)))),ae (.w (.d (bK ns))),x5,ae (.w (.d (.int xb))),ae (.w (.d (.int xp))),ae (.w (.d (cJ nm))),x9,ae (.w (.d (bW (cO (xb,xp,nm) nm))))] n K:=λb hb x5 x9 i5 h5 K hK q=>by
  obtain⟨bl,hbl,obl,sub⟩:=H.to okp ea hb;refine bA (x:=bW (b8 P b nm)) (λQ q=>b7 (ar (au rfl (au rfl (gD (bN H.pD (au rfl (h5 _ ⟨P,b,nm,bl,rfl,hbl,obl.1,H.nms,H.hn.up,obl.2.2.2.2.1,obl.2.2.2.2.2,sub,q⟩))))))) ) ?_;dsimp only[Al];exact hK _ _ (fin _ _ _ _ _ _ _ q)
 have getY:∀(s:Str)(gs:List Fe)(r5:List Aa)(i:Nat),a.pf=ae (gs.map Fe.fd)->fL gs->gK gs->bg (gs.map Fe.fd) nm ns=ae i->∀K:DEnds,
   (∀δ n,az (aw (aq (w2 (w2 (cC ↥3 cm (cf ↥2)) (aw (aq ↥10 ao)) cY) (cC ↥3 (cf (w2 ↥2 ⇑1 (bY λi j=>.int (i+j)))) cm) cY) (aq ↥4 ao))) δ n {nx:=λ_ n=>Q (.d .none) n,rt:=Q}->K.nx δ n)->
   Q (.d (bQ (bo hs m (cO (xb,xp,nm) (c9 (dI (gs.map Fe.fd) (cw ns i) nm)))) (if bL "take" (.str s)=ai then cE ns i else ns))) n->
   aJ (cT (w2 ↥9 (wC .none) (dO aj))) (aB 10 (aH lZ (aq (w2 ↥0 ↥2 aO) (aq ↥8 (aq (w2 ↥5 ⇑2 aO) ao))))) (av (aB 10 (aw (aq ↥6 (aq (w2 ↥7 ⇑1 (bY λi j=>.int (i+j))) (aq (wB dY (aq (aZ (qd (w2 ↥9 ⇑1 aO))) ao)) ao))))) (aJ (cT (w2 (w2 ↥5 ⇑0 aO) (wC (.str "take")) aT)) (aB 4 (w2 (cC ↥4 cm (cf (w2 ↥9 ⇑0 aO))) (cC ↥4 (cf (w2 (w2 ↥9 ⇑0 aO) ⇑1 (bY λi j=>.int (i+j)))) cm) cY)) aM))
    [ae (.w (.d (a8 ps))),ae (.w (.d (bQ hs ns))),ae (.w (.d (.int m))),ae (.w (.d (.tuple (hs.map bW)))),ae (.w (.d (bK ns))),ae (.w (.d (.tuple (.str s::r5)))),ae (.w (.d (.int xb))),ae (.w (.d (.int xp))),ae (.w (.d (cJ nm))),ae (.w (gg (dG ps hs ns m))),ae (.w (.d (bW (cO (xb,xp,nm) nm))))] n K:=λs gs r5 i hpf hof hpat ei K hK q=>by
  have eg:dG ps hs ns m=ae (i,dI (gs.map Fe.fd) (cw ns i) nm):=by
   unfold dG;rw[ea,H.nmq];show(a.pf.bind _)=_;rw[hpf];show(bg _ _ _).map _=_;rw[ei];rfl
  obtain⟨⟨row,age⟩,hq,hf⟩:=rK ei;have hi:i < ns.length:=(Av.mp hq).1;have er:cw ns i=row:=by unfold cw;rw[hq];rfl
  have oq:=okn.2 _ (A4 hq);obtain⟨ep,op⟩:=mS hof hpat;rw[er]at q eg;obtain⟨nd,ew⟩:=CQ H.hn.nd hf;obtain⟨wo,wl⟩:=pC _ _ _ _ (IM op oq.1) H.hn.ok ew;have wl':(dI (gs.map Fe.fd) row nm).length < 64:=by
   have h1:=H.hn.ln;have h2:((gs.map Fe.fd).zip row).length<=4:=by rw[List.length_zip];have:=op.2.1;omega
   have h3:nm.length<=40:=h1;have h4:(dI (gs.map Fe.fd) row nm).length<=nm.length+((gs.map Fe.fd).zip row).length:=wl;omega
  rw[eg];refine aQ (λQ q=>aF (k:=aj) (λQ q=>ar (au rfl (aC (rh q)))) q) (aE ?_);refine bA (x:=bW (cO (xb,xp,nm) (c9 (dI (gs.map Fe.fd) row nm)))) (λQ q=>?_) ?_
  ·refine fZ (au rfl (ar (au rfl (aC (dA ?_)))));refine aU (bb ?_);refine(show qd _ _ _ _ from QN rfl ?_);refine⟨_,rfl,wl',nd,λp hp=>⟨A2 (wo p hp).1.1 ∎,FN (wo p hp).2⟩,λps' p1 r1=>?_⟩;refine Aj (show 3<=1000 by decide) ?_;rw[Jh nd p1 r1];exact q
  dsimp only[Al];refine rG rfl ?_;refine jv (λz=>?_) λz=>?_
  ·rw[if_pos z]at q;refine bA (x:=bK (cE ns i)) (λQ q=>ar (mR (p:=i) (λQ q=>au rfl q) (λQ q=>uL rfl q) (by rw[Ab];omega) (m9 (p:=i+1) (λQ q=>au rfl q) (λQ q=>ar (uL rfl (aC (dA q)))) (by rw[Ab];omega) (gE ?_ ?_)))) ?_
   ·have:=okn.1;rw[Bn,Br,Ab];omega
   ·unfold bK at q;rw[CS]at q;exact q
   ·dsimp only[Al];exact hK _ _ (fin _ _ _ _ _ _ _ q)
  ·rw[if_neg (by rw[z];exact Ae)]at q;exact hK _ _ (fin _ _ _ _ _ _ _ q)
 cases a with
 |lay fs age=>
  obtain⟨hl4,hfv⟩:=H.lay okp ea;cases e;refine aE (sk (s:="lay") rfl ∅ ?_);refine bA (x:=bK (ns++[(cu fs nm,age)])) (λQ q=>?_) ?_
  ·refine ar (au rfl (jM (cZ (bG (js rfl (EO rfl H.nms ⟨fs,nm,rfl,hl4,hfv,?_⟩))))));refine j8 rfl (Aj (show 2<=1000 by decide) (Aj (show 1<=1000 by decide) (gE (by rw[Ab,Ax];have:=okn.1;omega) ?_)));unfold bK at q;rw[Bd]at q;exact q
  ·dsimp only[Al];exact fin _ _ _ _ _ _ _ k
 |go b=>
  cases e;refine aE (gS (s:="go") rfl ∅ (sk (s:="go") rfl ∅ ?_));exact toB b rfl _ _ _ (λQ q=>js rfl q) _ (λ_ _ z=>z) k
 |same f g b=>
  obtain⟨hf,hg,tf,tg⟩:=H.same okp ea;cases e;refine aE (gS (s:="same") rfl ∅ (gS (s:="same") rfl ∅ (sk (s:="same") rfl ∅ ?_)));refine dq (show cT _ _ _ _ from ar (bG (js rfl (au rfl ⟨f,nm,rfl,hf,tf,H.nms,bG (j8 rfl (au rfl ⟨g,nm,rfl,hg,tg,H.nms,Rf (iu hf) (iu hg) ?_⟩))⟩))));have k:Q (.d (bQ (bo hs m (if fC (eL nm f) (eL nm g)=ai then cO (xb,xp,nm) nm else b8 P b nm)) ns)) n:=k;show if (!fC (eL nm f) (eL nm g))=ai then _ else _
  cases z:fC (eL nm f) (eL nm g)with
  |true=>
   rw[z,if_pos rfl]at k;rw[if_neg ∎];exact fin _ _ _ _ _ _ _ k
  |false=>
   rw[z,if_neg Ae]at k;rw[if_pos ∎];exact toB b rfl _ _ _ (λQ q=>u9 rfl q) _ (λ_ _ z=>z) k
 |take gs=>
  have e:(((bZ gs (xb,xp,nm) ns).map λq=>(q.2,cE ns q.1)).map λr=>(bo hs m r.1,r.2))=ae r:=e;refine aE (gS (s:="take") rfl ∅ (gS (s:="take") rfl ∅ (gS (s:="take") rfl ∅ ?_)));cases ei:bg (gs.map Fe.fd) nm ns with
  |none=>rw[iQ ei]at e;cases e
  |some i=>
   rw[iD ei]at e;cases e;exact getY "take" gs [eS gs] i rfl oa.1 oa.2 ei _ (λ_ _ z=>z) (by rw[if_pos ∅];exact k)
 |read gs=>
  have e:(((bZ gs (xb,xp,nm) ns).map λq=>(q.2,ns)).map λr=>(bo hs m r.1,r.2))=ae r:=e;refine aE (gS (s:="read") rfl ∅ (gS (s:="read") rfl ∅ (gS (s:="read") rfl ∅ ?_)));cases ei:bg (gs.map Fe.fd) nm ns with
  |none=>rw[iQ ei]at e;cases e
  |some i=>
   rw[iD ei]at e;cases e;exact getY "read" gs [eS gs] i rfl oa.1 oa.2 ei _ (λ_ _ z=>z) (by rw[if_neg ∅];exact k)
 |look gs b=>
  have e:((match bZ gs (xb,xp,nm) ns with|some q=>ae (q.2,ns)|none=>ae (b8 P b nm,ns):Option (Hn×List Nt)).map λr=>(bo hs m r.1,r.2))=ae r:=e;refine aE (gS (s:="look") rfl ∅ (gS (s:="look") rfl ∅ (gS (s:="look") rfl ∅ ?_)));cases ei:bg (gs.map Fe.fd) nm ns with
  |none=>
   rw[iQ ei]at e;cases e;have eg:dG ps hs ns m=ah:=by
    unfold dG;rw[ea,H.nmq];show(bg _ _ _).map _=_;rw[ei];rfl
   rw[eg];refine bw (λQ q=>aF (k:=ai) (λQ q=>ar (au rfl (aC (jb q)))) q) ?_;exact toB b rfl _ _ _ (λQ q=>j8 rfl q) _ (λ_ _ z=>z) k
  |some i=>
   rw[iD ei]at e;cases e;exact getY "look" gs [eS gs,.int b] i rfl oa.1 oa.2 ei _ (λ_ _ z=>z) (by rw[if_neg ∅];exact k)
def Sm(k w:Nat)(d:Aa):Prop:=B4 d=ai/\B5 d<=k/\Es d<=w/\D3 13 d=ai/\Dx d=ai
theorem Sm.small(h:Sm k w d)(hk:k<=20)(hw:w<=2 ^ 20):Small d:=⟨h.1,by have:=h.2.1;omega,by have:=h.2.2.1;omega,h.2.2.2⟩
theorem v5:∀ds:List Aa,(∀d∈ds,Sm k w d)->Et ds=ai/\Fl ds<=k/\PyData.weightAll ds<=(w+1)*ds.length/\PyData.intsShortAll 13 ds=ai/\PyData.showableAll ds=ai
 |[],_=>⟨rfl,Bm _,Bm _,rfl,rfl⟩
 |d::r,h=>by
  obtain⟨a1,a2,a3,a4,a5⟩:=v5 r λx hx=>h x (Ar _ hx);obtain⟨b1,b2,b3,b4,b5⟩:=h d As;refine⟨?_,?_,?_,?_,?_⟩
  ·rw[Et,a1,b1];rfl
  ·rw[Fl];omega
  ·rw[PyData.weightAll,Am,Nat.mul_succ];omega
  ·rw[PyData.intsShortAll,a4,b4];rfl
  ·rw[PyData.showableAll,a5,b5];rfl
theorem jZ(h:∀d∈ds,Sm k w d)(hl:ds.length<=m):Sm (k+1) ((w+1)*m) (.tuple ds):=by
 obtain⟨a1,a2,a3,a4,a5⟩:=v5 ds h;have:=Nat.mul_le_mul_left (w+1) hl;refine⟨by rw[B4];exact a1,by rw[B5];omega,by rw[Es];omega,by rw[D3];exact a4,by rw[Dx];exact a5⟩
theorem sM(h:∀d∈ds,Sm k w d)(hl:ds.length<=m):Sm (k+1) ((w+1)*m) (.list ds):=by
 obtain⟨a1,a2,a3,a4,a5⟩:=v5 ds h;have:=Nat.mul_le_mul_left (w+1) hl;refine⟨by rw[B4];exact a1,by rw[B5];omega,by rw[Es];omega,by rw[D3];exact a4,by rw[Dx];exact a5⟩
theorem Sm.up(h:Sm k w d)(hk:k<=k')(hw:w<=w'):Sm k' w' d:=⟨h.1,A2 h.2.1 hk,A2 h.2.2.1 hw,h.2.2.2⟩
theorem pI(h:cz d=ai):Sm 0 20 d:=by
 cases d with
 |str x=>
  have h:(decide (x.length<=8)&&(E5 x&&decide (x="a"\/x="ab"\/x="go")))=ai:=h;rw[Bf,Bf]at h;have h1:x.cps.size<=8:=of_decide_eq_true h.1;refine⟨?_,by rw[B5];exact An _,?_,by rw[D3],by rw[Dx]⟩
  ·rw[B4];exact h.2.1
  ·rw[Es];omega
 |int i=>
  simp only[cz,Bf,decide_eq_true_eq]at h;exact⟨by rw[B4],by rw[B5];exact An _,h.2.2.1,h.2.2.2.1,h.2.2.2.2⟩
 |_=>cases h
theorem Nu(ha:Sm k w a)(hb:Sm k w b):Sm (k+1) ((w+1)*2) (.tuple [a,b]):=jZ (λd hd=>by
 simp only[Ao,Aq,or_false]at hd;rcases hd with rfl|rfl
 ·exact ha
 ·exact hb) (An _)
theorem zB(h:ft d):Sm 0 20 d:=by
 rcases h with rfl|⟨i,rfl,h0,h1⟩
 ·exact⟨rfl,An _,by decide,rfl,rfl⟩
 ·exact pI (iY ⋯ ⋯)
theorem N0(h:kh q):Sm 2 170 (bI q):=Nu ((jZ (k:=0) (w:=20) (m:=4) (λd hd=>pI (h.1.2 d hd)) h.1.1.1)) ((zB h.2).up ∎ ∎)
theorem JW(hh:h < hs.length):bo hs h x=hs.set h x:=by
 rw[List.set_eq_take_append_cons_drop,if_pos hh];rfl
theorem okHs.put(ok:okHs ps hs)(hP:ps[h]?=ae P)(hb:P[x.1]?=ae b)(hx:okHn b x):okHs ps (bo hs h x):=by
 have hh:h < hs.length:=by rw[ok.1];exact(Av.mp hP).1
 rw[JW hh];refine⟨by rw[B1];exact ok.1,λi P' hi=>?_⟩;by_cases e:h=i
 ·subst e;rw[hP]at hi;cases hi;exact⟨x,b,F1 hh,hb,hx⟩
 ·obtain⟨h',b',e1,e2,e3⟩:=ok.2 i P' hi;exact⟨h',b',by rw[B7 e];exact e1,e2,e3⟩
theorem FU(h:as[p]?=ae a):kn w as (p+1)=kn w as p++a.bs:=by
 unfold kn;rw[List.take_add_one,h,List.flatMap_append,Bp];simp
theorem xj:∀(l:List (Fd×Aa))(h:Nm)(hs:List Str)(k:Nm),(∀x∈hs,x∈h.map (·.1))->wk l h hs=ae k->∀x,x∈k.map (·.1)↔x∈h.map (·.1)\/∃p∈l,p.1=.bind x
 |[],h,hs,k,_,e,x=>by cases e;simp
 | (f,v)::r,h,hs,k,hh,e,x=>by
  have same:wk r h hs=ae k->(∀y,f=.bind y->y∈h.map (·.1))->(x∈k.map (·.1)↔x∈h.map (·.1)\/∃p∈(f,v)::r,p.1=.bind x):=λe nb=>by
   rw[xj r h hs k hh e x]
   constructor
   ·rintro(q|⟨p,hp,q⟩)
    ·exact .inl q
    ·exact .inr ⟨p,Ar _ hp,q⟩
   ·rintro(q|⟨p,hp,q⟩)
    ·exact .inl q
    ·rcases Ao.mp hp with rfl|hp
     ·exact .inl (nb x q)
     ·exact .inr ⟨p,hp,q⟩
  cases f with
  |is w=>unfold wk at e;split at e;exact same e (λy z=>by cases z);cases e
  |any=>unfold wk at e;exact same e (λy z=>by cases z)
  |word=>unfold wk at e;split at e;exact same e (λy z=>by cases z);cases e
  |number=>unfold wk at e;split at e;exact same e (λy z=>by cases z);cases e
  |as y=>
   unfold wk at e
   split at e
   ·split at e
    ·exact same e (λy z=>by cases z)
    ·cases e
   ·cases e
  |bind y=>
   unfold wk at e
   split at e
   ·rename_i hy
    split at e
    ·split at e
     ·exact same e (λz q=>by cases q;exact hh y hy)
     ·cases e
    ·cases e
   ·have pk:∀z,z∈(put h y v).map (·.1)↔z∈h.map (·.1)\/z=y:=λz=>by
     rw[yH]
     split
     ·rename_i q;obtain⟨p,hp,q⟩:=Dp.mp q;have hy:y∈h.map (·.1):=A7.mpr ⟨p,hp,of_decide_eq_true q⟩;exact⟨.inl,λq=>q.elim id λq=>q▸hy⟩
     ·rw[Bc,Bj]
    rw[xj r (put h y v) (hs++[y]) k (λz hz=>(pk z).mpr ((Bc.mp hz).elim (λq=>.inl (hh z q)) λq=>.inr (Bj.mp q))) e x,pk x]
    constructor
    ·rintro((q|rfl)|⟨p,hp,q⟩)
     ·exact .inl q
     ·exact .inr ⟨_,As,rfl⟩
     ·exact .inr ⟨p,Ar _ hp,q⟩
    ·rintro(q|⟨p,hp,q⟩)
     ·exact .inl (.inl q)
     ·rcases Ao.mp hp with rfl|hp
      ·cases q;exact .inl (.inr rfl)
      ·exact .inr ⟨p,hp,q⟩
theorem KW{row:List Aa}(hp:∀f∈gs,f.pt=ai)(hl:(gs.map Fe.fd).length=row.length)(x):(∃p∈(gs.map Fe.fd).zip row,p.1=.bind x)↔x∈bM gs:=by
 unfold bM;rw[Gi]
 constructor
 ·rintro⟨⟨a,b⟩,hp',e⟩
  obtain⟨f,hf,e'⟩:=A7.mp (Eb hp').1;refine⟨f,hf,?_⟩;have e:a=.bind x:=e;rw[e]at e';cases f<;>first|(cases e';rfl)|cases e'
 ·rintro⟨f,hf,e⟩
  have ef:f=.bind x:=by cases f<;>first|(cases e;rfl)|cases e
  subst ef;obtain⟨i,hi⟩:=B8.mp hf;have hil:=(Av.mp hi).1;rw[Ab]at hl;refine⟨(.bind x,row[i]'⋯),B8.mpr ⟨i,?_⟩,rfl⟩;rw[Fh];exact⟨by rw[Aw,hi];rfl,Af ⋯⟩
theorem K9(h:ft d)(h1:bX d=aj):ft (gF d):=by
 rcases h with rfl|⟨i,rfl,h0,h2⟩
 ·exact .inl rfl
 ·have:¬i=1:=by simpa[bX]using h1
  exact .inr ⟨i-1,rfl,by omega,by omega⟩
theorem Uo(h:dg m ns):dg m (dw ns):=by
 unfold dw;refine⟨by rw[Ab];exact A2 (Dj _ _) h.1,λq hq=>?_⟩;obtain⟨p,hp,rfl⟩:=A7.mp hq;obtain⟨h1,h2⟩:=B9.mp hp;exact⟨(h.2 p h1).1,K9 (h.2 p h1).2 (by simpa using h2)⟩
theorem tq(okp:cH ps)(okh:okHs ps hs)(okn:dg M ns)(hm:m<=ps.length)(e:cD ps hs ns m=ae r):okHs ps r.1/\dg (M+1) r.2:=by
 unfold cD at e;by_cases em:m=ps.length
 ·rw[if_pos em]at e;cases e;have:=Uo okn;exact⟨okh,Nat.le_succ_of_le this.1,this.2⟩
 rw[if_neg em]at e;have hh:m < ps.length:=by omega
 obtain⟨P,xb,xp,nm,w,as,H⟩:=je okh hh;cases ea:bP ps hs m with
 |none=>
  unfold fM at e;rw[H.prog,H.hand,ea]at e;cases e
 |some a=>
 rw[nK H ea]at e;have oa:=H.ok okp ea;have ea':=ea;rw[H.act]at ea';have hxp:xp < as.length:=(Av.mp ea').1;have okn':dg (M+1) ns:=⟨Nat.le_succ_of_le okn.1,okn.2⟩;have on:a.bs=[]->okHs ps (bo hs m (cO (xb,xp,nm) nm)):=λhb=>okh.put H.prog (x:=cO (xb,xp,nm) nm) H.blk ⟨hxp,H.hn.nd,H.hn.ok,H.hn.up,λk=>by
  show k∈nm.map (·.1)↔k∈kn w as (xp+1);rw[FU ea',hb,Bw];exact H.hn.mem k,H.hn.ln⟩
 have to:∀b,a.to=ae b->okHs ps (bo hs m (b8 P b nm)):=λb hb=>by
  obtain⟨bl,hbl,obl,sub⟩:=H.to okp ea hb;have ew:lT P b=bl.1:=by unfold lT;rw[hbl];rfl
  refine okh.put H.prog (x:=b8 P b nm) hbl ?_;have en:(b8 P b nm).2.2=bl.1.map λk=>(k,gA nm k):=by
   unfold b8;rw[ew];exact AU H.hn.nd H.hn.up obl.2.2.2.2.1 obl.2.2.2.2.2 sub
  have ek:(b8 P b nm).2.2.map (·.1)=bl.1:=by rw[en,Bt];exact List.map_id' _
  have sl:(b8 P b nm).2.2.Sublist nm:=Fk;refine⟨Bm _,by rw[ek];exact obl.2.2.2.2.1,λp hp=>H.hn.ok p (sl.subset hp),List.Pairwise.sublist sl H.hn.up,λk=>by rw[ek];unfold kn;show _↔k∈bl.1++(bl.2.take 0).flatMap Ac.bs;simp,A2 sl.length_le H.hn.ln⟩
 have get:∀(gs:List Fe)(i:Nat),a.pf=ae (gs.map Fe.fd)->a.bs=bM gs->fL gs->gK gs->bg (gs.map Fe.fd) nm ns=ae i->okHs ps (bo hs m (cO (xb,xp,nm) (c9 (dI (gs.map Fe.fd) (cw ns i) nm)))):=λgs i hpf hbs hof hpat ei=>by
  obtain⟨⟨row,age⟩,hq,hf⟩:=rK ei;have er:cw ns i=row:=by unfold cw;rw[hq];rfl
  rw[er];have oq:=okn.2 _ (A4 hq);obtain⟨ep,op⟩:=mS hof hpat;obtain⟨nd,ew⟩:=CQ H.hn.nd hf;obtain⟨wo,_⟩:=pC _ _ _ _ (IM op oq.1) H.hn.ok ew;have hlen:(gs.map Fe.fd).length=row.length:=by
   unfold c8 at hf;rw[Bf]at hf;exact of_decide_eq_true hf.1
  have pm:=zp (dI (gs.map Fe.fd) row nm);have pk:((c9 (dI (gs.map Fe.fd) row nm)).map (·.1)).Perm ((dI (gs.map Fe.fd) row nm).map (·.1)):=pm.map _;have hmem:∀k,k∈(c9 (dI (gs.map Fe.fd) row nm)).map (·.1)↔k∈kn w as (xp+1):=λk=>by
   rw[pk.mem_iff,xj _ _ _ _ (λx hx=>by simp at hx) ew k,KW hpat.2 hlen,FU ea',Bc,hbs];exact or_congr (H.hn.mem k) Iff.rfl
  have nd':=pk.nodup_iff.mpr nd;refine okh.put H.prog (x:=cO (xb,xp,nm) _) H.blk ⟨hxp,nd',λp hp=>wo p (pm.mem_iff.mp hp),zC _,hmem,?_⟩;have:=G5 nd' (ks:=kn w as (xp+1)) λk hk=>(hmem k).mp hk;rw[Ab]at this;have h36:=Si (H.okb okp).1 (xp+1);exact A2 this (A2 h36 ∎)
 cases a with
 |lay fs age=>
  cases e;obtain⟨hl4,hfv⟩:=H.lay okp ea;refine⟨on rfl,by rw[Ai,Ax];have:=okn.1;omega,λq hq=>?_⟩;rcases Bc.mp hq with hq|hq
  ·exact okn.2 q hq
  ·rw[Bj.mp hq];exact⟨⟨⟨by show(cu fs nm).length<=4;unfold cu;rw[Ab];exact hl4,by show 1<=(cu fs nm).length;unfold cu;rw[Ab];exact oa.2.2.2⟩,λd hd=>by
    obtain⟨f,hf,rfl⟩:=A7.mp hd;exact iu (hfv f hf)⟩,oa.2.2.1⟩
 |go b=>cases e;exact⟨to b rfl,okn'⟩
 |same f g b=>
  cases e;refine⟨?_,okn'⟩;show okHs ps (bo hs m (if fC (eL nm f) (eL nm g)=ai then cO (xb,xp,nm) nm else b8 P b nm))
  split
  ·exact on rfl
  ·exact to b rfl
 |take gs=>
  have e:(((bZ gs (xb,xp,nm) ns).map λq=>(q.2,cE ns q.1)).map λr=>(bo hs m r.1,r.2))=ae r:=e;cases ei:bg (gs.map Fe.fd) nm ns with
  |none=>rw[iQ ei]at e;cases e
  |some i=>
   rw[iD ei]at e;cases e;refine⟨get gs i rfl rfl oa.1 oa.2 ei,?_,λq hq=>?_⟩
   ·show(cE ns i).length<=_;unfold cE;rw[Ai,Bn,Br];have:=okn.1;omega
   ·rcases Bc.mp hq with hq|hq
    ·exact okn.2 q (Du hq)
    ·exact okn.2 q (E6 hq)
 |read gs=>
  have e:(((bZ gs (xb,xp,nm) ns).map λq=>(q.2,ns)).map λr=>(bo hs m r.1,r.2))=ae r:=e;cases ei:bg (gs.map Fe.fd) nm ns with
  |none=>rw[iQ ei]at e;cases e
  |some i=>
   rw[iD ei]at e;cases e;exact⟨get gs i rfl rfl oa.1 oa.2 ei,okn'⟩
 |look gs b=>
  have e:((match bZ gs (xb,xp,nm) ns with|some q=>ae (q.2,ns)|none=>ae (b8 P b nm,ns):Option (Hn×List Nt)).map λr=>(bo hs m r.1,r.2))=ae r:=e;cases ei:bg (gs.map Fe.fd) nm ns with
  |none=>
   rw[iQ ei]at e;cases e;exact⟨to b rfl,okn'⟩
  |some i=>
   rw[iD ei]at e;cases e;exact⟨get gs i rfl rfl oa.1 oa.2 ei,okn'⟩
theorem Sg(okh:okHs ps hs)(hh:m < ps.length)(h:fH ps hs ns m=ai):∃r,cD ps hs ns m=ae r:=by
 obtain⟨P,xb,xp,nm,w,as,H⟩:=je okh hh;unfold cD;rw[if_neg ⋯];cases ea:bP ps hs m with
 |none=>unfold fH at h;rw[ea]at h;cases h
 |some a=>
 rw[Ik ea]at h;rw[nK H ea];have eg:∀gs:List Fe,a.pf=ae (gs.map Fe.fd)->bf ps hs ns m=bg (gs.map Fe.fd) nm ns:=λgs hpf=>by
  unfold bf;rw[ea,H.nmq];show(a.pf.bind _)=_;rw[hpf];rfl
 have gt:∀gs:List Fe,(bf ps hs ns m).isSome=ai->a.pf=ae (gs.map Fe.fd)->∃q,bZ gs (xb,xp,nm) ns=ae q:=λgs h1 h2=>by
  rw[eg gs h2]at h1;obtain⟨i,hi⟩:=Dm.mp h1;exact⟨_,iD hi⟩
 cases a with
 |lay fs age=>exact⟨_,rfl⟩
 |go b=>exact⟨_,rfl⟩
 |same f g b=>exact⟨_,rfl⟩
 |take gs=>
  obtain⟨q,hq⟩:=gt gs h rfl;show ∃r,(((bZ gs (xb,xp,nm) ns).map λq=>(q.2,cE ns q.1)).map λr=>(bo hs m r.1,r.2))=ae r;rw[hq];exact⟨_,rfl⟩
 |read gs=>
  obtain⟨q,hq⟩:=gt gs h rfl;show ∃r,(((bZ gs (xb,xp,nm) ns).map λq=>(q.2,ns)).map λr=>(bo hs m r.1,r.2))=ae r;rw[hq];exact⟨_,rfl⟩
 |look gs b=>
  show ∃r,((match bZ gs (xb,xp,nm) ns with|some q=>ae (q.2,ns)|none=>ae (b8 P b nm,ns):Option (Hn×List Nt)).map λr=>(bo hs m r.1,r.2))=ae r;cases bZ gs (xb,xp,nm) ns with
  |none=>exact⟨_,rfl⟩
  |some q=>exact⟨_,rfl⟩
theorem Ho(k:w δ n λx n1=>w' δ n1 λy n2=>S [x,y] n2 Q):my S (aq w (aq w' ao)) δ n Q:=k
theorem Nx(m):b9 0 m=(A3 m).map λj=>Cp (j:Nat):=by
 unfold b9;exact Ck λi _=>by rw[Int.zero_add]
theorem OG(k:Q (.d (.bool aj)) n):eO (.d (.str s)) (.d (.str s)) n Q:=by
 show Q (.d (.bool (!bL s (.str s)))) n;have:bL s (.str s)=ai:=by unfold bL;exact decide_eq_true rfl
 rw[this];exact k
theorem Il{j:Int}(m:Nat)(ej:j=m)(hm:m<=1000)(k:eM g W K (b9 0 m) δ n):aW (dv (wC (.int j))) g W δ n K:=by
 subst ej;exact⟨⟨by omega,by omega⟩,by rw[Bi];exact k⟩
theorem xF(L)(m):aD (L++[m])=aD L++[.int m]:=Bd
theorem nc(L:List Nat):(aD L).length=L.length:=Ab _
theorem UW(okh:okHs ps hs)(hm:m<=ps.length)(c:m=ps.length\/fH ps hs ns m=ai):∃q,cD ps hs ns m=ae q:=by
 by_cases e:m=ps.length
 ·exact⟨_,by unfold cD;rw[if_pos e]⟩
 ·exact Sg okh ⋯ (c.resolve_left e)
theorem HZ:∀l:List Nat,PyData.eqvAll (aD l) (aD l)=ai
 |[]=>by simp[aD,PyData.eqvAll]
 |a::l=>by
  show PyData.eqvAll (.int a::aD l) (.int a::aD l)=ai;rw[PyData.eqvAll,HZ l];simp[Bz]
section
variable{δ:Sl}{n:Int}{Q:DQ}
theorem Su(h:Small (.list (aD l)))(k:Q (.d (.bool aj)) n):iV (λd e=>ae (!Bz d e)) (.d (.list (aD l))) (.d (.list (aD l))) n Q:=by
 refine⟨h.1,h.1,h.2.1,h.2.1,aj,?_,k⟩;have e:Bz (.list (aD l)) (.list (aD l))=ai:=by simp[Bz,HZ]
 show ae (!Bz (.list (aD l)) (.list (aD l)))=ae aj;rw[e];rfl
end
theorem QE:bV m8 HD ["_law_plan_here"]:=λws n Q h=>by
 obtain⟨ps,ns,rfl,hp,k⟩:=h;show HD [ae (.w (.d (.tuple [a8 ps,bK ns])))] n _;refine bc (cZ (aU (bb (jA (ds:=ps.map fg) (λQ q=>ar (au rfl (aC (bO q)))) ?_))));show c7 _ _ _ _ _ _ [ah] n;refine qK fg (λ_=>bW (0,0,[])) ps ah n (λP hP n Q' q=>fZ (aC (aC (show aw ao _ _ _ from Aj ∎ (Aj (show 3<=1000 by decide) q))))) ?_;refine(show dY _ _ _ from ar (au rfl (aC (bN (i:=1) rfl (Aj (show 2<=1000 by decide) ?_)))));have e:(d8 ps).map bW=ps.map λ_=>bW (0,0,[]):=by unfold d8;rw[Bt];rfl
 unfold bQ at k;rw[e]at k;exact k
theorem TV(hp:cH ps)(hf:∀P∈ps,iZ P):okHs ps (d8 ps):=by
 refine⟨Ab _,λi P hi=>?_⟩;obtain⟨w,hw⟩:=hf P (A4 hi);obtain⟨b,r,rfl,hb,_⟩:=Gc.mp hw;refine⟨(0,0,[]),b,?_,rfl,Bm _,List.nodup_nil,λp hp=>(by simp at hp),List.Pairwise.nil,λk=>?_,Bm _⟩
 ·unfold d8;rw[Aw,hi];rfl
 ·show k∈([]:List Str)↔k∈kn b.1 b.2 0;unfold kn;rw[hb];simp
theorem zR(W:Wlk ps s0 L S):∀(k i:Nat){s t:Sd},i+k<=L.length->S[i]?=ae s->S[i+k]?=ae t->Wov ps s ((L.drop i).take k) t
 |0,i,s,t,h,e,e'=>by
  rw[Nat.add_zero,e]at e';cases e';rw[List.take_zero];exact .nil
 |k+1,i,s,t,h,e,e'=>by
  have hi:i < L.length:=by omega
  obtain⟨hm,s1,t1,e1,e2,ea⟩:=W.st i _ (Af hi);rw[e]at e1;cases e1;rw[C2 hi,List.take_succ_cons];exact .cons hm ea (zR W k (i+1) ⋯ e2 (by rw[show i+1+k=i+(k+1) by omega];exact e'))
theorem yw(k:w δ n λx n1=>match iq [x]with
  |some ds=>ds.length<=1000/\Q ds n1
  |none=>False):aN (aq w ao) δ n Q:=k
theorem zI:(gv ps hs ns).length<=ps.length:=by
 unfold gv;rw[Ab];exact A2 (Dj _ _) (by rw[Cu];exact An _)
theorem Rh:∀ws n Q,wI ws n Q->BH (iK ["_law_programs","_law_stand"] ws) n {nx:=λ_ _=>False,rt:=λ_ _=>False,rn:=Q}:=λws n Q h=>by
 obtain⟨ps,hs,ns,rfl,ok,k⟩:=h;show BH [ae (.w (.d (a8 ps))),ae (.w (.d (bQ hs ns)))] n _;refine(show rD _ _ _ _ from ?_);unfold rD ia;refine bb ?_;unfold cL dv;refine Hq (ds:=ps.map fg) rfl (Aj ⟨by omega,by rw[Ab];have:=ok.1.1;omega⟩ ?_);rw[Bi,Ab];refine TF ok ?_;refine bb (yw (Hq (ds:=ps.map fg) rfl (Aj (show 1<=1000 by decide) ?_)));rw[Ab];refine Aj ?_ k;have h1:=zI (ps:=ps) (hs:=hs) (ns:=ns);have:=ok.1.1;show(gv ps hs ns).length+1<=_;exact eF ⋯
theorem zu(l)(x:α):cX (l++[x]) (-1)=ae x:=by
 have e:fc (l++[x]).length (-1)=ae l.length:=by
  unfold fc;rw[Ai,Ax,if_neg ⋯,if_pos ⋯]
  congr 1
  omega
 unfold cX;rw[e];show(l++[x])[l.length]?=ae x;rw[Cb (An _),F5];rfl
theorem Pk(xs:List Aa):bF xs ah (ae (-1))=xs.take (xs.length-1):=by
 have e:HT.sIx xs.length xs.length (ae (-1))=xs.length-1:=by
  show(if (-1:Int) < 0 then((-1:Int)+(xs.length:Int)).toNat else min (-1:Int).toNat xs.length)=_;rw[if_pos ∎];omega
 unfold bF;rw[HT.sIx_none,List.drop_zero,Nat.sub_zero,e]
section
variable{δ:Sl}{n:Int}{Q:DQ}{i:Nat}
theorem vJ(e:δ[i]?=ae (ae (.own (xs++[x]))))(k:Q (.d x) n):w2 (dM i) (cx ⇑1) aX δ n Q:=by
 refine ar (gw e ?_);show(match cX (xs++[x]) (-1)with|some d=>Q (.d d) n|none=>False);rw[zu];exact k
theorem FH(k:Q (.d (.bool (decide (b < a)))) n):lM (.d (.int a)) (.d (.int b)) n Q:=k
theorem zG(e:δ[i]?=ae (ae (.w (.d (.list ds)))))(k:Q (.d (.int ds.length)) n):wB gf (aq (ak i) ao) δ n Q:=aU (au e k)
end
theorem Wlk.snoc{s z r:Sd}(W:Wlk ps s L (S++[z]))(okp:cH ps)(hm:m<=ps.length)(e:cD ps z.1 z.2 m=ae r):Wlk ps s (L++[m]) (S++[z]++[r]):=by
 have hS:S.length=L.length:=by have:=W.len;rw[Ai,Ax]at this;omega
 have hz:(S++[z])[S.length]?=ae z:=by rw[Cb (An _),F5];rfl
 have hr:(S++[z]++[r])[S.length+1]?=ae r:=by rw[Cb (by rw[Ai,Ax];exact An _),Ai,Ax,F5];rfl
 have up:∀i x,(S++[z])[i]?=ae x->(S++[z]++[r])[i]?=ae x:=λi x h=>by rw[Di (Av.mp h).1];exact h
 refine⟨?_,up _ _ W.fst,λi x h=>?_,λi k h=>?_⟩
 ·rw[Ai,W.len,Ax,Ai,Ax]
 ·by_cases hi:i < (S++[z]).length
  ·rw[Di hi]at h;exact W.ok i x h
  ·have hl:=(Av.mp h).1;rw[Ai,Ai,Ax,Ax]at hl;rw[Ai,Ax]at hi;obtain rfl:i=S.length+1:=by omega
   rw[hr]at h;cases h;obtain⟨h1,h2⟩:=W.ok _ _ hz;exact tq okp h1 h2 hm e
 ·by_cases hi:i < L.length
  ·rw[Di hi]at h;obtain⟨h1,a,b,h2,h3,h4⟩:=W.st i k h;exact⟨h1,a,b,up _ _ h2,up _ _ h3,h4⟩
  ·have hl:=(Av.mp h).1;rw[Ai,Ax]at hl;obtain rfl:i=S.length:=by omega
   rw[Cb ⋯,show S.length-L.length=0 by omega]at h;cases h;exact⟨hm,z,r,up _ _ hz,hr,e⟩
def oP(ps:Pg)(z:Sd)(ds:List Aa):Prop:=0 < ds.length/\ds.length<=6/\∀d∈ds,∃m:Nat,d=.int m/\m<=ps.length/\(m=ps.length\/fH ps z.1 z.2 m=ai)
def qo(ps:Pg)(s:Sd)(mo:Nat)(n0:Int)(l:Nat)(δ:Sl)(n:Int):Prop:=∃(L:List Nat)(S:List Sd)(z:Sd)(x6 x7:Option SV),δ=[ae (.w .tp),ae (.w (.d (a8 ps))),ae (.w (.d (cM s))),ae (.w (.d (.int mo))),ae (.own (aD L)),ae (.own (S.map cM++[cM z])),x6,x7]/\Wlk ps s L (S++[z])/\L.length+l<=16/\n+2*(l:Int)<=n0+62
theorem xD(okp:cH ps)(W:Wlk ps s L (S++[z]))(hd:oP ps z ds)(hL:L.length+(l+1)<=16)(hn:n+1+2*(l:Int)<=n0+62)(hn0:n0+62 < 2 ^ 39)(kN:∀δ n,qo ps s mo n0 l δ n->K.nx δ n):
  av (bq 4 (w2 ↥7 (aH cy (aq ↥0 (aq (wB gf (aq ↥7 ao)) ao))) aX)) (bq 5 (aH qm (aq ↥1 (aq (w2 (dM 5) (cx ⇑1) aX) (aq (w2 (dM 4) (cx ⇑1) aX) ao)))))
   [ae (.w .tp),ae (.w (.d (a8 ps))),ae (.w (.d (cM s))),ae (.w (.d (.int mo))),ae (.own (aD L)),ae (.own (S.map cM++[cM z])),x6,ae (.w (.d (.list ds)))] n K:=by
 obtain⟨d0,d6,dm⟩:=hd;have hS:S.length=L.length:=by have:=W.len;rw[Ai,Ax]at this;omega
 have hz:(S++[z])[S.length]?=ae z:=by rw[Cb (An _),F5];rfl
 obtain⟨ok1,ok2⟩:=W.ok _ _ hz;have ok:eD ps z.1 z.2:=⟨okp,ok1,A2 ok2.1 ⋯,ok2.2⟩;refine aE (jm rfl (ar (au rfl (iI (m:=(ds.length:Nat)) rfl (λQ q=>zG rfl q) ⋯ ⋯ ⋯ λr r0 r1=>iX r0 r1 λd hd=>?_))));obtain⟨m,rfl,hm,hc⟩:=dm d hd;obtain⟨r,er⟩:=UW ok1 hm hc;refine Aj (by rw[nc];omega) ?_;dsimp only[Al];refine jm rfl (b7 (au rfl (vJ rfl (vJ rfl ⟨ps,z.1,z.2,m,r,rfl,ok,hm,er,?_⟩))));refine Aj (by rw[Ai,Ab,Ax];omega) (kN _ _ ⟨L++[m],S++[z],r,x6,ae (.w (.d (.list ds))),?_,W.snoc okp hm er,by rw[Ai,Ax];omega,by omega⟩);rw[xF,Bd];rfl
theorem Vz(hp:ps.length<=5):oP ps z (gv ps z.1 z.2++[.int ps.length]):=by
 have h1:=zI (ps:=ps) (hs:=z.1) (ns:=z.2);refine⟨by rw[Ai,Ax];omega,by rw[Ai,Ax];omega,λd hd=>?_⟩;rcases Bc.mp hd with q|q
 ·unfold gv at q;obtain⟨m,hm,rfl⟩:=A7.mp q;obtain⟨h2,h3⟩:=B9.mp hm;have:=B6.mp h2;exact⟨m,rfl,by omega,.inr h3⟩
 ·rw[Bj]at q;exact⟨ps.length,q,An _,.inl rfl⟩
theorem Ni:bV rQ HG ["_law_tape_here","_law_programs","_law_stand","_law_most","_law_movers_here","_law_stands","_law_k","_law_some"]:=λws n0 Q h=>by
 obtain⟨ps,s,mo,rfl,hmo,okp,okh,okn,hn0,k⟩:=h;show HG [ae (.w .tp),ae (.w (.d (a8 ps))),ae (.w (.d (cM s))),ae (.w (.d (.int mo))),ah,ah,ah,ah] n0 _;refine aE (iM ?_);dsimp only[Al];refine aE (show bz 5 _ _ _ _ from yw (au rfl (Aj (show 1<=1000 by decide) ?_)));dsimp only[Al];refine aE ?_;unfold aW dv;refine iI (m:=(mo:Int)+1) rfl (λQ q=>ar (au rfl (aC (dA q)))) ⋯ ⋯ ⋯ λr r0 r1=>?_;refine Aj ⟨by omega,by omega⟩ ?_;have W0:Wlk ps s [] ([]++[s]):=⟨rfl,rfl,λi x h=>by
  cases i with
  |zero=>cases h;exact⟨okh,okn⟩
  |succ i=>simp at h,λi m h=>by simp at h⟩
 refine eV (λds δ n=>qo ps s mo n0 ds.length δ n) (λδ n I=>?_) (λd t δ n N I kN=>?_) _ _ _ ⟨[],[],s,ah,ah,rfl,W0,by rw[e9];show 0+_<=16;omega,by rw[e9];omega⟩
 ·obtain⟨L,S,z,x6,x7,rfl,W,hL,hn⟩:=I;dsimp only;refine gy rfl ?_;dsimp only[Al];refine gy rfl ?_;dsimp only[Al];refine bc (cZ (au rfl (au rfl (Aj (show 2<=1000 by decide) ?_))));have:=k L (S++[z]) n W (by simpa using hL) (by simpa using hn);rw[Bd]at this;exact this
 ·obtain⟨L,S,z,x6,x7,rfl,W,hL,hn⟩:=I;rw[Am]at hL hn;dsimp only[aI,Al];have hz:(S++[z])[S.length]?=ae z:=by rw[Cb (An _),F5];rfl
  have hS:S.length=L.length:=by have:=W.len;rw[Ai,Ax]at this;omega
  obtain⟨ok1,ok2⟩:=W.ok _ _ hz;refine aE (show aB 7 _ _ _ _ from bb (Ho (au rfl (vJ rfl ⟨ps,z.1,z.2,rfl,⟨okp,ok1,A2 ok2.1 ⋯,ok2.2⟩,?_⟩))));dsimp only[Al];have M:=Vz (z:=z) okp.1;generalize gv ps z.1 z.2++[.int ps.length]=ds at M;refine aE (dq ?_);refine(show cT _ _ _ _ from ar (zG rfl (aC (FH ?_))));refine jv (λz1=>?_) λ_=>?_
  ·have h1:1 < ds.length:=by have:=of_decide_eq_true z1;omega
   refine ar (iI (m:=5) rfl (λQ q=>aC q) ⋯ ⋯ ⋯ λr r0 r1=>aC (FH ?_));refine jv (λ_=>?_) λ_=>?_
   ·refine(show aB 7 _ _ _ _ from ?_);unfold aB vN cm cf;refine au rfl ?_;show(_:Prop);dsimp only[cx,wC];rw[Pk];dsimp only[Al];refine xD okp W ⟨by rw[Bn];omega,A2 (List.length_take_le _ _) (by have:=M.2.1;omega),λd hd=>M.2.2 d (Du hd)⟩ ⋯ ⋯ hn0 kN
   ·dsimp only[aM];exact xD okp W M ⋯ ⋯ hn0 kN
  ·dsimp only[aM];exact xD okp W M ⋯ ⋯ hn0 kN
theorem tO(x)(nu)(q:Nt)(ns):cK (x::nu) (q::ns)=if bX q.2=ai then x::cK nu ns else cK nu ns:=by
 unfold cK;rw[Fu,C9];dsimp only
 split<;>rfl
theorem xP(h:x∈cK nu ns):x∈nu:=by
 obtain⟨⟨a,b⟩,hp,rfl⟩:=A7.mp h;exact(Eb (B9.mp hp).1).1
theorem xU:∀(nu:List Nat)(ns:List Nt),nu.Nodup->nu.length=ns.length->(nu.filter λx=>!decide (x∈cK nu ns)).length=(dw ns).length
 |[],[],_,_=>rfl
 |[],_::_,_,h=>nomatch h
 |_::_,[],_,h=>nomatch h
 |x::nu,q::ns,nd,hl=>by
  obtain⟨a,b⟩:=Ca.mp nd;have ih:=xU nu ns b (Nat.succ.inj hl);have hx:x∉cK nu ns:=λz=>a (xP z);have ec:(dw (q::ns)).length=(if bX q.2=ai then 0 else 1)+(dw ns).length:=by
   unfold dw;rw[C9];cases bX q.2
   ·exact Nat.add_comm _ _
   ·exact(Nat.zero_add _).symm
  rw[tO,ec,<-ih];cases e:bX q.2 with
  |true=>
   rw[if_pos rfl,if_pos rfl,C9,if_neg (by simp),Nat.zero_add]
   congr 1
   refine List.filter_congr λy hy=>?_;have:y≠x:=λz=>a (z▸hy);simp[this]
  |false=>
   rw[if_neg Ae,if_neg Ae,C9,if_pos (by simp[hx]),Am,Nat.add_comm]
theorem o6(h:i < nu.length):fJ nu (ae i)=ae nu[i]:=Af h
theorem lG(h:i < nu.length):dr nu (ae i)=.int (nu[i]:Nat):=by
 unfold dr;rw[o6 h];rfl
theorem TY{nu:List Nat}(nd:nu.Nodup)(h:i < nu.length):(nu.filter λx=>!decide (ae x=fJ nu (ae i))).length=nu.length-1:=by
 rw[o6 h];have:(nu.filter λx=>!decide (ae x=ae nu[i]))=nu.erase nu[i]:=by
  rw[nd.erase_eq_filter];refine List.filter_congr λy _=>?_;by_cases z:y=nu[i]
  ·rw[<-z];simp
  ·simp[z]
 rw[this,List.length_erase_of_mem (Cg h)]
def O7(ps:Pg)(s t:Sd)(m:Nat)(nm:Nm):Ac->Prop
 |.lay fs age=>t.2=s.2++[(cu fs nm,age)]
 |.take _=>∃i,bf ps s.1 s.2 m=ae i/\i < s.2.length/\t.2=cE s.2 i
 |.read _=>t.2=s.2/\∃i,bf ps s.1 s.2 m=ae i/\i < s.2.length
 |.look _ _=>t.2=s.2/\∀i,bf ps s.1 s.2 m=ae i->i < s.2.length
 |_=>t.2=s.2
theorem lA{s t:Sd}(okh:okHs ps s.1)(hm:m < ps.length)(af:cD ps s.1 s.2 m=ae t):∃P xb xp nm w as a,HandAt ps s.1 m P xb xp nm w as/\bP ps s.1 m=ae a/\O7 ps s t m nm a:=by
 obtain⟨P,xb,xp,nm,w,as,H⟩:=je okh hm;unfold cD at af;rw[if_neg ⋯]at af;cases ea:bP ps s.1 m with
 |none=>
  unfold fM at af;rw[H.prog,H.hand,ea]at af;cases af
 |some a=>
 refine⟨P,xb,xp,nm,w,as,a,H,rfl,?_⟩;rw[nK H ea]at af;have eg:∀gs:List Fe,a.pf=ae (gs.map Fe.fd)->bf ps s.1 s.2 m=bg (gs.map Fe.fd) nm s.2:=λgs hpf=>by
  unfold bf;rw[ea,H.nmq];show(a.pf.bind _)=_;rw[hpf];rfl
 have lt:∀{gs:List Fe}{i:Nat},bg (gs.map Fe.fd) nm s.2=ae i->i < s.2.length:=λh=>by
  obtain⟨q,hq,_⟩:=rK h;exact(Av.mp hq).1
 cases a with
 |lay fs age=>cases af;rfl
 |go b=>cases af;rfl
 |same f g b=>cases af;rfl
 |take gs=>
  have af:(((bZ gs (xb,xp,nm) s.2).map λq=>(q.2,cE s.2 q.1)).map λr=>(bo s.1 m r.1,r.2))=ae t:=af;cases ei:bg (gs.map Fe.fd) nm s.2 with
  |none=>rw[iQ ei]at af;cases af
  |some i=>rw[iD ei]at af;cases af;exact⟨i,by rw[eg gs rfl,ei],lt ei,rfl⟩
 |read gs=>
  have af:(((bZ gs (xb,xp,nm) s.2).map λq=>(q.2,s.2)).map λr=>(bo s.1 m r.1,r.2))=ae t:=af;cases ei:bg (gs.map Fe.fd) nm s.2 with
  |none=>rw[iQ ei]at af;cases af
  |some i=>rw[iD ei]at af;cases af;exact⟨rfl,i,by rw[eg gs rfl,ei],lt ei⟩
 |look gs b=>
  have af:((match bZ gs (xb,xp,nm) s.2 with|some q=>ae (q.2,s.2)|none=>ae (b8 P b nm,s.2):Option (Hn×List Nt)).map λr=>(bo s.1 m r.1,r.2))=ae t:=af;refine⟨?_,λi h=>lt (by rw[<-eg gs rfl];exact h)⟩;cases ei:bg (gs.map Fe.fd) nm s.2 with
  |none=>rw[iQ ei]at af;cases af;rfl
  |some i=>rw[iD ei]at af;cases af;rfl
theorem lq:aL ps s nu fr ps.length=(.tuple [.str "clock",.tuple (aD (cK nu s.2))],nu.filter (λx=>!decide (x∈cK nu s.2)),fr):=by unfold aL;rw[if_pos rfl]
theorem k8(hm:m < ps.length)(ea:bP ps s.1 m=ae a):aL ps s nu fr m=gh ps s nu fr m a:=by
 unfold aL;rw[if_neg ⋯,ea]
theorem Jf(B:okBd ps s t nu fr m):okNu t (aL ps s nu fr m).2.1 (aL ps s nu fr m).2.2/\(aL ps s nu fr m).2.2<=fr+1:=by
 obtain⟨st,⟨nd,len,lt⟩,le,af⟩:=B;by_cases em:m=ps.length
 ·subst em;unfold cD at af;rw[if_pos rfl]at af;cases af;rw[lq];exact⟨⟨nd.filter _,xU nu s.2 nd len,λx hx=>lt x (B9.mp hx).1⟩,Fy _⟩
 ·have hm:m < ps.length:=by omega
  obtain⟨P,xb,xp,nm,w,as,a,H,ea,T⟩:=lA st.2.1 hm af;rw[k8 hm ea];cases a with
  |lay fs age=>
   have T:t.2=s.2++[(cu fs nm,age)]:=T;refine⟨⟨?_,?_,λx hx=>?_⟩,An _⟩
   ·exact List.nodup_append.mpr ⟨nd,Ca.mpr ⟨Aq,List.nodup_nil⟩,λx hx y hy e=>by rw[Bj.mp hy]at e;have:=lt x hx;omega⟩
   ·show(nu++[fr]).length=t.2.length;rw[T,Ai,Ai,len];rfl
   ·rcases Bc.mp hx with hx|hx
    ·exact Nat.lt_succ_of_lt (lt x hx)
    ·rw[Bj.mp hx];exact Nat.lt_succ_self _
  |take gs=>
   obtain⟨i,eg,hi,T⟩:=T;refine⟨⟨nd.filter _,?_,λx hx=>lt x (B9.mp hx).1⟩,Fy _⟩;show(nu.filter λx=>!decide (ae x=fJ nu (bf ps s.1 s.2 m))).length=_;rw[eg,TY nd ⋯,T];unfold cE;rw[Ai,Bn,Br];omega
  |read gs=>exact⟨⟨nd,by rw[T.1];exact len,lt⟩,Fy _⟩
  |look gs b=>exact⟨⟨nd,by rw[T.1];exact len,lt⟩,Fy _⟩
  |go b=>exact⟨⟨nd,by rw[show t.2=s.2 from T];exact len,lt⟩,Fy _⟩
  |same f g b=>exact⟨⟨nd,by rw[show t.2=s.2 from T];exact len,lt⟩,Fy _⟩
theorem sJ(h:Lgs ps s nu fr L R):R.length=L.length:=by
 induction h with
 |nil=>rfl
 |cons _ _ _ ih=>rw[Am,Am,ih]
theorem M6(h:Wov ps s L t):∀nu fr,∃R,Lgs ps s nu fr L R:=by
 induction h with
 |nil=>exact λ_ _=>⟨[],.nil⟩
 |cons a b _ ih=>
  intro nu fr;obtain⟨R,h⟩:=ih (aL ps _ nu fr _).2.1 (aL ps _ nu fr _).2.2;exact⟨_,.cons a b h⟩
theorem BL{i:Nat}(h:i<=99):Sm 0 20 (.int i):=pI (iY ⋯ ⋯)
theorem sm_none:Sm 0 20 .none:=⟨rfl,An _,by decide,rfl,rfl⟩
theorem S5(h:(decide (x.length<=8)&&E5 x)=ai):Sm 0 20 (.str x):=by
 rw[Bf]at h;have h1:x.cps.size<=8:=of_decide_eq_true h.1;refine⟨?_,by rw[B5];exact An _,?_,by rw[D3],by rw[Dx]⟩
 ·rw[B4];exact h.2
 ·rw[Es];omega
theorem EF(s:Sd):okNu s (A3 s.2.length) s.2.length:=⟨List.nodup_range,Cu,λ_ hx=>B6.mp hx⟩
theorem tL(ha:ft a)(k:Q (.d (.bool (bX a))) n):aT (.d a) (.d (.int 1)) n Q:=by
 rcases ha with rfl|⟨i,rfl,_⟩
 ·exact k
 ·exact k
theorem Vs:bV rR CG ["plan"]:=λws n Q h=>by
 obtain⟨ps,ns,rfl,hp,k⟩:=h;show CG [ae (.w (.d (.tuple [a8 ps,bK ns])))] n _;refine bc (cZ (aU (bb (jA (ds:=ps.map fg) (λQ q=>ar (au rfl (aC (bO q)))) ?_))));show c7 _ _ _ _ _ _ [ah] n;refine qK fg (λ_=>bW (0,0,[])) ps ah n (λP hP n Q' q=>fZ (aC (aC (show aw ao _ _ _ from Aj ∎ (Aj (show 3<=1000 by decide) q))))) ?_;refine(show dY _ _ _ from aU (ar (au rfl (aC (bN (i:=1) rfl (show dY [.d (.tuple (ns.map bI))] _ _ from Aj (show 2<=1000 by decide) ?_))))));have e:(d8 ps).map bW=ps.map λ_=>bW (0,0,[]):=by unfold d8;rw[Bt];rfl
 unfold bQ at k;rw[e]at k;exact k
theorem KL:bV sO IH ["plan","many"]:=λws n Q h=>by
 obtain⟨ps,ns,rfl,hp,hn,k⟩:=h;show IH [ae (.w (.d (.tuple [a8 ps,bK ns]))),ah] n _;refine aE (bA (x:=.int ns.length) (λQ q=>aU (dZ rfl (show Q (.d (.int ((ns.map bI).length:Nat))) n by rw[Ab];exact q))) ?_);dsimp only[Al];exact bc (fZ (cF (au rfl ⟨ps,ns,rfl,hp,(show yn _ _ _ _ from au rfl ⟨ns.length,rfl,by omega,au rfl (Aj (show 3<=1000 by decide) k)⟩)⟩)))
theorem FP:∀(ns:List Nt)(nu:List Nat)(acc:List Aa)(x y:Option SV)(n:Int),nu.length=ns.length->(∀q∈ns,ft q.2)->Q (acc++aD (cK nu ns)) n->
  c7 (du 2 (br (aI 0) (br (aI 1) cv))) (cT (w2 (w2 ↥0 ⇑1 aA) ⇑1 aT)) ↥1 Q (dz (ns.map bI) (aD nu)) acc [x,y] n
 |[],[],acc,x,y,n,_,_,q=>by
  rw[show aD (cK [] [])=[]from rfl,Bw]at q;exact q
 |[],_::_,_,_,_,_,h,_,_=>nomatch h
 |_::_,[],_,_,_,_,h,_,_=>nomatch h
 |q::ns,i::nu,acc,x,y,n,hl,h,k=>by
  have ih:=λacc x y k=>FP (Q:=Q) ns nu acc x y n (Nat.succ.inj hl) (λq hq=>h q (Ar _ hq)) k;refine(show du 2 _ (.tuple [bI q,.int i]) [x,y] _ from⟨rfl,?_⟩);dsimp only[br,cv,aI,Al];refine aF (k:=bX q.2) (λQ q'=>ar (dZ (a:=.tuple q.1) (b:=q.2) (r:=[]) rfl (aC (tL (h q As) q')))) ?_;rw[tO]at k;refine jv (λz=>?_) λz=>?_
  ·rw[if_pos z]at k;exact au rfl (ih _ _ _ (by rw[Bp];exact k))
  ·rw[if_neg (by rw[z];exact Ae)]at k;exact ih _ _ _ k
theorem Oh:bV xg yE ["board","gone"]:=λws n Q h=>by
 obtain⟨s,nu,fr,rfl,hl,ha,k⟩:=h;show yE [ae (.w (.d (dN s nu fr))),ah] n _;refine aE (show aB 1 _ _ _ _ from bb ?_);unfold cL jN;refine ar (d4 (a:=cM s) rfl (aC (cV (a:=.tuple (s.1.map bW)) (b:=bK s.2) (r:=[]) (dZ (b:=.tuple (aD nu)) rfl (Aj ?_ ?_)))))
 ·rw[Ab,nc,hl]
 show c7 _ _ _ _ _ _ [ah,ah] n;refine FP s.2 nu [] ah ah n hl ha ?_;dsimp only[Al,Bv];exact bc (cZ (aC (aU (au rfl (oi (Aj (show 2<=1000 by decide) k))))))
abbrev pN:List (Str×Str):=[("take","takes"),("read","reads"),("look","looks")]
theorem Hs{D:List (Str×Str)}(hw:∀Q:DQ,Q (.d (.str s)) n->w δ n Q)(e:(!(Ba s D).isSome)=b)(q:Q b n):cT (qh D w) δ n Q:=by
 refine hw _ ?_;show Q (!(Ba s D).isSome) n;rw[e];exact q
theorem Ju{D:List (Str×Str)}(hw:∀Q:DQ,Q (.d (.str s)) n->w δ n Q)(e:Ba s D=ae r)(hl:r.length<=1000)(q:Q (.d (.str r)) n):i6 D w δ n Q:=by
 refine hw _ ?_;dsimp only;rw[e];exact⟨hl,q⟩
theorem S0(k:Q (.d x) n):aA (.d (.tuple (xs++[x]))) (.d (.int (-1))) n Q:=by
 show(match cX (xs++[x]) (-1)with|some d=>Q (.d d) n|none=>False);rw[zu];exact k
theorem LC(k:Q (.d x) n):cx (wC (.int 1)) δ n (λy n2=>aA (.d (.tuple (xs++[x]))) y n2 Q):=S0 k
theorem uc{h:Str}(h1:h≠"clock")(h2:h≠"takes"):ig (.tuple (.str h::r))=[]:=by simp only[ig,if_neg h1,if_neg h2]
theorem LF{nu:List Nat}(hi:i < nu.length)(k:Q (.d (dr nu (ae i))) n):aA (.d (.tuple (aD nu))) (.d (.int i)) n Q:=by
 rw[lG hi]at k;exact bN (by unfold aD;rw[Aw,Af hi];rfl) k
theorem Oc:bV uU IS ["programs","board","hand","behind","act","place"]:=λws n Q h=>by
 obtain⟨ps,s,t,nu,fr,m,rfl,B,hm,k⟩:=h;obtain⟨P,xb,xp,nm,w,as,a,H,ea,T⟩:=lA B.st.2.1 hm B.af;rw[k8 hm ea]at k;show IS [ae (.w (.d (a8 ps))),ae (.w (.d (dN s nu fr))),ae (.w (.d (.int m))),ae (.w (.d (cM t))),ah,ah] n _;refine aE (bA (x:=a.d) (λQ q=>b7 (au rfl (d4 (a:=cM s) rfl (au rfl ⟨ps,s.1,s.2,m,rfl,B.st.2.1,hm,by rw[ea];exact q⟩)))) ?_);dsimp only[Al];have go:∀(x:Str)(r:List Aa),bL "lay" (.str x)=aj->(!(Ba x pN).isSome)=ai->a.d=.tuple (.str x::r)->Q (.d (.tuple [.str "goes",.int m])) n->
   (av (aJ (cT (w2 (w2 ↥4 ⇑0 aA) (wC (.str "lay")) aT)) (az (aw (aq (wC (.str "lays")) (aq ↥2 (aq (w2 ↥1 ⇑2 aA) (aq (w2 (w2 ↥3 ⇑1 aA) (cx ⇑1) aA) ao)))))) aM) (av (aJ (cT (qh [("take","takes"),("read","reads"),("look","looks")] (w2 ↥4 ⇑0 aA))) (az (aw (aq (wC (.str "goes")) (aq ↥2 ao)))) aM) (av (aB 5 (aH mQ (aq ↥0 (aq (w2 ↥1 ⇑0 aA) (aq ↥2 ao))))) (az (aw (aq (i6 [("take","takes"),("read","reads"),("look","looks")] (w2 ↥4 ⇑0 aA)) (aq ↥2 (aq (eu (cT (w2 ↥5 (wC .none) (bJ aj))) (wC .none) (w2 (w2 ↥1 ⇑1 aA) ↥5 aA)) ao))))))))
    [ae (.w (.d (a8 ps))),ae (.w (.d (dN s nu fr))),ae (.w (.d (.int m))),ae (.w (.d (cM t))),ae (.w (.d a.d)),ah] n {nx:=λ_ n=>Q (.d .none) n,rt:=Q}:=λx r h1 h2 e q=>by
  rw[e];refine aE (ku (a:=.str x) rfl h1 ?_);dsimp only[aM];exact aE (bw (λQ q=>Hs (λQ q=>d4 rfl q) h2 q) (bc (cZ (aC (au rfl (Aj (show 2<=1000 by decide) q))))))
 have get:∀(x y:Str)(r:List Aa),bL "lay" (.str x)=aj->Ba x pN=ae y->y.length<=1000->(∀i,bf ps s.1 s.2 m=ae i->i < s.2.length)->a.d=.tuple (.str x::r)->Q (.d (.tuple [.str y,.int m,dr nu (bf ps s.1 s.2 m)])) n->
   (av (aJ (cT (w2 (w2 ↥4 ⇑0 aA) (wC (.str "lay")) aT)) (az (aw (aq (wC (.str "lays")) (aq ↥2 (aq (w2 ↥1 ⇑2 aA) (aq (w2 (w2 ↥3 ⇑1 aA) (cx ⇑1) aA) ao)))))) aM) (av (aJ (cT (qh [("take","takes"),("read","reads"),("look","looks")] (w2 ↥4 ⇑0 aA))) (az (aw (aq (wC (.str "goes")) (aq ↥2 ao)))) aM) (av (aB 5 (aH mQ (aq ↥0 (aq (w2 ↥1 ⇑0 aA) (aq ↥2 ao))))) (az (aw (aq (i6 [("take","takes"),("read","reads"),("look","looks")] (w2 ↥4 ⇑0 aA)) (aq ↥2 (aq (eu (cT (w2 ↥5 (wC .none) (bJ aj))) (wC .none) (w2 (w2 ↥1 ⇑1 aA) ↥5 aA)) ao))))))))
    [ae (.w (.d (a8 ps))),ae (.w (.d (dN s nu fr))),ae (.w (.d (.int m))),ae (.w (.d (cM t))),ae (.w (.d a.d)),ah] n {nx:=λ_ n=>Q (.d .none) n,rt:=Q}:=λx y r h1 h2 h3 lt e q=>by
  rw[e];refine aE (ku (a:=.str x) rfl h1 ?_);dsimp only[aM];refine aE (aQ (λQ q=>Hs (λQ q=>d4 rfl q) (by rw[h2];rfl) q) ?_);dsimp only[aM];refine aE (bA (x:=fS (bf ps s.1 s.2 m)) (λQ q=>b7 (au rfl (d4 (a:=cM s) rfl (au rfl ⟨ps,s.1,s.2,m,rfl,B.st,hm,q⟩)))) ?_);dsimp only[Al];refine bc (fZ (Ju (λQ q=>d4 rfl q) h2 h3 (au rfl ?_)));cases eg:bf ps s.1 s.2 m with
  |none=>
   rw[eg]at q;exact fN (b:=ai) (λQ q=>aF (k:=ai) (λQ q=>ar (au rfl (aC (gB q)))) q) (by rw[if_pos rfl];exact aC (Aj (show 3<=1000 by decide) q))
  |some i=>
   rw[eg]at q;have hi:i < nu.length:=by rw[B.nu.len];exact lt i eg
   exact fN (b:=aj) (λQ q=>aF (k:=aj) (λQ q=>ar (au rfl (aC (gB q)))) q) (by rw[if_neg Ae];exact ar (dZ (b:=.tuple (aD nu)) rfl (au rfl (LF hi (Aj (show 3<=1000 by decide) q)))))
 cases a with
 |lay fs age=>
  have T:t.2=s.2++[(cu fs nm,age)]:=T;have k:Q (.d (.tuple [.str "lays",.int m,.int fr,bI (cu fs (iw s.1 m),age)])) n:=k;rw[H.nmq]at k;refine aE (oX (a:=.str "lay") rfl ∅ ?_);refine bc (uf (aC (au rfl (ar (au rfl (aC (cW (ar (dZ (a:=.tuple (t.1.map bW)) (b:=bK t.2) (r:=[]) rfl ?_)))))))));unfold bK;rw[T,Bd];exact LC (xs:=s.2.map bI) (x:=bI (cu fs nm,age)) (Aj (show 4<=1000 by decide) k)
 |take gs=>obtain⟨i,eg,hi,_⟩:=T;exact get "take" "takes" _ ∅ ∅ ∅ (λj h=>by rw[eg]at h;cases h;exact hi) rfl k
 |read gs=>obtain⟨_,i,eg,hi⟩:=T;exact get "read" "reads" _ ∅ ∅ ∅ (λj h=>by rw[eg]at h;cases h;exact hi) rfl k
 |look gs b=>exact get "look" "looks" _ ∅ ∅ ∅ T.2 rfl k
 |same f g b=>exact go "same" _ ∅ ∅ rfl k
 |go b=>exact go "go" _ ∅ ∅ rfl k
theorem JH:bV vh AS ["programs","board","mover","behind"]:=λws n Q h=>by
 obtain⟨ps,s,t,nu,fr,m,rfl,B,k⟩:=h;show AS [ae (.w (.d (a8 ps))),ae (.w (.d (dN s nu fr))),ae (.w (.d (.int m))),ae (.w (.d (cM t)))] n _;refine aE (dq (aF (k:=decide ((m:Int)=(ps.length:Nat))) (λQ q=>ar (au rfl (aU (au rfl ?_)))) ?_))
 ·show Q (.d (.bool (decide ((m:Int)=((ps.map fg).length:Nat))))) n;rw[Ab];exact q
 by_cases em:m=ps.length
 ·subst em;rw[lq]at k;show if decide _=ai then _ else _
  rw[if_pos (decide_eq_true rfl)];exact bc (cF (au rfl ⟨s,nu,fr,rfl,B.nu.len,λq hq=>(B.st.2.2.2 q hq).2,k⟩))
 ·show if decide _=ai then _ else _
  rw[if_neg (by rw[decide_eq_false ⋯];exact Ae)];dsimp only[aM];exact bc (kf (au rfl (au rfl (au rfl (au rfl ⟨ps,s,t,nu,fr,m,rfl,B,by have:=B.le;omega,k⟩)))))
theorem Gw(z:x≠h):bL h (.str x)=aj:=decide_eq_false z
theorem UT:bV xM G8 ["row"]:=λws n Q h=>by
 obtain⟨row,rfl,ok,k⟩:=h;show G8 [ae (.w (.d row))] n _;cases row with
 |tuple l=>cases l with
  |nil=>exact ok.elim
  |cons d r=>cases d with
   |str h=>
    rcases ok with⟨rfl,l,rfl⟩|⟨rfl,a,b,rfl⟩|⟨h1,h2⟩
    ·have k:Q (.d (.tuple l)) n:=k;exact aE (oX (a:=.str "clock") rfl ∅ (bc (dZ rfl k)))
    ·have k:Q (.d (.tuple [b])) n:=k;refine aE (ku (a:=.str "takes") rfl ∅ ?_);dsimp only[aM];exact bc (fN (b:=ai) (λQ q=>aF (λQ q=>lJ (a:=.str "takes") rfl (by rw[show bL "takes" (.str "takes")=ai by decide +kernel];exact q)) q) (by rw[if_pos rfl];exact jM (ar (au rfl (aC (cW (Aj (show 1<=1000 by decide) k)))))))
    ·rw[uc h1 h2]at k;refine aE (ku (a:=.str h) rfl (Gw h1) ?_);dsimp only[aM];exact bc (fN (b:=aj) (λQ q=>aF (λQ q=>lJ (a:=.str h) rfl (by rw[Gw h2];exact q)) q) (by rw[if_neg Ae];exact(show aw ao _ _ _ from Aj ∎ k)))
   |_=>exact ok.elim
 |_=>exact ok.elim
theorem zO(l):(aD l).all fA=ai:=by
 rw[Dq];intro d hd;obtain⟨i,_,rfl⟩:=A7.mp hd;rfl
theorem tW(x:Nat):∀l:List Nat,bU (.int x) (aD l)=decide (x∈l)
 |[]=>rfl
 |y::l=>by
  show(((y:Int)==(x:Int)) || bU (.int x) (aD l))=_;rw[tW x l];by_cases e:x=y
  ·subst e;simp
  ·have:((y:Int)==(x:Int))=aj:=by simp;omega
   simp[this,e]
theorem Oa(x i:Nat):bU (.int x) [.int i]=decide (ae x=ae i):=by
 show(((i:Int)==(x:Int)) || false)=_;by_cases e:x=i
 ·subst e;simp
 ·have h1:((i:Int)==(x:Int))=aj:=by simp;omega
  rw[h1,decide_eq_false λz=>e (A8 z)];rfl
theorem Vj(nu:List Nat)(hf:wl.all fA=ai)(q:Q (aD (nu.filter λx=>!bU (.int x) wl)) n):
  c7 (aI 0) (cT (w2 ↥0 ↥1 (fO ai))) ↥0 Q (aD nu) [] [ah,ae (.w (.d (.tuple wl)))] n:=
 iR (λi:Nat=>.int i) (λi:Nat=>.int i) (λx=>!bU (.int x) wl) nu [] ah n (λa _ n Q' q=>aF (k:=!bU (.int a) wl) (λQ q=>ar (au rfl (au rfl (Aj rfl (Aj hf q))))) q) (λa _ n Q' q=>au rfl q) (by rw[Bv];exact q)
theorem qy(hr:nX row)(hf:(ig row).all fA=ai)
  (k:(av (aJ (cT (w2 (w2 ↥1 ⇑0 aA) (wC (.str "lays")) aT)) (az (aw (aq ↥2 (aq (w2 ↥4 (aw (aq (w2 ↥1 ⇑2 aA) ao)) cY) (aq (w2 (w2 ↥0 ⇑2 aA) ⇑1 (bY λi j=>.int (i+j))) ao))))) aM) (az (aw (aq ↥2 (aq ↥4 (aq (w2 ↥0 ⇑2 aA) ao))))))
   [ae (.w (.d (dN s nu fr))),ae (.w (.d row)),ae (.w (.d (cM t))),ae (.w (.d (.tuple (ig row)))),ae (.w (.d (.tuple (aD (nu.filter λx=>!bU (.int x) (ig row))))))] n K):
  qW [ae (.w (.d (dN s nu fr))),ae (.w (.d row)),ae (.w (.d (cM t))),ah,ah] n K:=by
 refine aE (bA (x:=.tuple (ig row)) (λQ q=>cF (au rfl ⟨row,rfl,hr,q⟩)) ?_);dsimp only[Al];refine aE (bA (x:=.tuple (aD (nu.filter λx=>!bU (.int x) (ig row)))) (λQ q=>aU (bb (jA (ds:=aD nu) (λQ q=>dZ rfl q) ?_))) k);show c7 _ _ _ _ _ _ [ah,ae (.w (.d (.tuple (ig row))))] n;exact Vj nu hf (oi q)
theorem Iu(nu:List Nat):(nu.filter λx:Nat=>!bU (.int (x:Int)) [])=nu:=Eg.mpr λ_ _=>rfl
theorem Vc:bV vy qW ["board","row","behind","went","numbers"]:=λws n Q h=>by
 obtain⟨ps,s,t,nu,fr,m,rfl,B,hl,k⟩:=h;show qW [ae (.w (.d (dN s nu fr))),ae (.w (.d (aL ps s nu fr m).1)),ae (.w (.d (cM t))),ah,ah] n _;have tail:∀(x:Str)(r:List Aa)(nu':List Nat),bL "lays" (.str x)=aj->Q (.d (dN t nu' fr)) n->∀wl,(av (aJ (cT (w2 (w2 ↥1 ⇑0 aA) (wC (.str "lays")) aT)) (az (aw (aq ↥2 (aq (w2 ↥4 (aw (aq (w2 ↥1 ⇑2 aA) ao)) cY) (aq (w2 (w2 ↥0 ⇑2 aA) ⇑1 (bY λi j=>.int (i+j))) ao))))) aM) (az (aw (aq ↥2 (aq ↥4 (aq (w2 ↥0 ⇑2 aA) ao))))))
   [ae (.w (.d (dN s nu fr))),ae (.w (.d (.tuple (.str x::r)))),ae (.w (.d (cM t))),ae (.w (.d wl)),ae (.w (.d (.tuple (aD nu'))))] n {nx:=λ_ n=>Q (.d .none) n,rt:=Q}:=λx r nu' h1 q wl=>by
  refine aE (ku (a:=.str x) rfl h1 ?_);dsimp only[aM];exact bc (fZ (au rfl (au rfl (ar (au rfl (aC (cW (Aj (show 3<=1000 by decide) q))))))))
 by_cases em:m=ps.length
 ·subst em;rw[lq]at k ⊢;refine qy (.inl ⟨rfl,_,rfl⟩) (zO _) ?_;refine tail "clock" _ _ ∅ ?_ _;rw[show(λx:Nat=>!bU (.int x) (ig (.tuple [.str "clock",.tuple (aD (cK nu s.2))])))=λx=>!decide (x∈cK nu s.2)from funext λx=>by rw[<-tW];rfl];exact k
 ·have hm:m < ps.length:=by have:=B.le;omega
  obtain⟨P,xb,xp,nm,w,as,a,H,ea,T⟩:=lA B.st.2.1 hm B.af;rw[k8 hm ea]at k ⊢;have oth:∀(x:Str)(r:List Aa),x≠"clock"->x≠"takes"->bL "lays" (.str x)=aj->Q (.d (dN t nu fr)) n->qW [ae (.w (.d (dN s nu fr))),ae (.w (.d (.tuple (.str x::r)))),ae (.w (.d (cM t))),ah,ah] n {nx:=λ_ n=>Q (.d .none) n,rt:=Q}:=λx r h1 h2 h3 q=>by
   have e:ig (.tuple (.str x::r))=[]:=uc h1 h2;refine qy (.inr (.inr ⟨h1,h2⟩)) (by rw[e];rfl) ?_;rw[e,Iu];exact tail x r _ h3 q _
  cases a with
  |lay fs age=>
   dsimp only[gh]at k ⊢;have e:ig (.tuple [.str "lays",.int m,.int fr,bI (cu fs (iw s.1 m),age)])=[]:=uc ∎ ∎;refine qy (.inr (.inr ⟨by decide,by decide⟩)) (by rw[e];rfl) ?_;rw[e,Iu];refine aE (oX (a:=.str "lays") rfl ∅ ?_);refine bc (fZ (au rfl (ar (au rfl (jM (ar (au rfl (aC (cW (Aj (show 1<=1000 by decide) (gE (by rw[nc,Ax];omega) ?_)))))))))));refine ar (ar (au rfl (aC (cW (aC (dA (Aj (show 3<=1000 by decide) ?_)))))));have k:Q (.d (.tuple [cM t,.tuple (aD (nu++[fr])),.int ((fr+1:Nat):Int)])) n:=k;rw[xF]at k;exact k
  |take gs=>
   obtain⟨i,eg,hi,_⟩:=T;dsimp only[gh]at k ⊢;have hi':i < nu.length:=by rw[B.nu.len];exact hi
   have ed:dr nu (bf ps s.1 s.2 m)=.int (nu[i]:Nat):=by rw[eg];exact lG hi'
   refine qy (.inr (.inl ⟨rfl,_,_,rfl⟩)) (show[dr nu (bf ps s.1 s.2 m)].all fA=ai by rw[ed];rfl) ?_;refine tail "takes" _ _ ∅ ?_ _;have en:fJ nu (bf ps s.1 s.2 m)=ae nu[i]:=by rw[eg];exact o6 hi'
   rw[show(λx:Nat=>!bU (.int x) (ig (.tuple [.str "takes",.int m,dr nu (bf ps s.1 s.2 m)])))=λx:Nat=>!decide (ae x=fJ nu (bf ps s.1 s.2 m))from funext λx=>by rw[en,<-Oa,ed];rfl];exact k
  |read gs=>exact oth "reads" _ ∎ ∎ ∅ k
  |look gs b=>exact oth "looks" _ ∎ ∎ ∅ k
  |same f g b=>exact oth "goes" _ ∎ ∎ ∅ k
  |go b=>exact oth "goes" _ ∎ ∎ ∅ k
theorem MH:bV qv ET ["programs","board","mover","behind","row"]:=λws n Q h=>by
 obtain⟨ps,s,nu,fr,b,rfl,ok,okn,k⟩:=h;show ET [ae (.w (.d (a8 ps))),ae (.w (.d (dN s nu fr))),ae (.w (.d b)),ah,ah] n _;unfold ke at k;have call:∀Q:DQ,Q (.d (ie (gR ps s.1 s.2 b))) n->aH pL (aq ↥0 (aq (w2 ↥1 ⇑0 aA) (aq ↥2 ao))) [ae (.w (.d (a8 ps))),ae (.w (.d (dN s nu fr))),ae (.w (.d b)),ah,ah] n Q:=λQ q=>b7 (au rfl (d4 (a:=cM s) rfl (au rfl ⟨ps,s.1,s.2,b,rfl,ok,q⟩)));cases ea:gR ps s.1 s.2 b with
 |none=>
  rw[ea]at k call;refine aE (bA (x:=.none) call ?_);dsimp only[Al];exact aE (bw (λQ q=>aF (k:=ai) (λQ q=>ar (au rfl (aC q))) q) (bc (aC k)))
 |some t=>
  rw[ea]at k call;obtain⟨m,em,af⟩:=Gq.mp ea;obtain⟨rfl,hm⟩:=qY em;have en:fq ps (.int m)=m:=by unfold fq;rw[em];rfl
  rw[en]at k;have B:okBd ps s t nu fr m:=⟨ok,okn,hm,af⟩;refine aE (bA (x:=cM t) call ?_);dsimp only[Al];refine aE (aQ (λQ q=>aF (k:=aj) (λQ q=>ar (au rfl (aC (gB q)))) q) ?_);dsimp only[aM];refine aE (bA (x:=(aL ps s nu fr m).1) (λQ q=>kf (au rfl (au rfl (au rfl (au rfl ⟨ps,s,t,nu,fr,m,rfl,B,q⟩))))) ?_);dsimp only[Al];exact bc (cZ (au rfl (b7 (au rfl (au rfl (au rfl ⟨ps,s,t,nu,fr,m,rfl,B,by rw[B.nu.len];have:=B.st.2.2.1;omega,Aj (show 2<=1000 by decide) k⟩))))))
structure LgI(ps:Pg)(R:List Aa)(s:Sd)(nu:List Nat)(fr:Nat)(M:List Nat)(R0 R1:List Aa):Prop where
 okh:okHs ps s.1
 okn:dg (100-M.length) s.2
 hl:M.length<=40
 nk:okNu s nu fr
 lg:Lgs ps s nu fr M R1
 eq:R0++R1=R
theorem LgI.step(okp:cH ps)(I:LgI ps R s nu fr (m::M) R0 R1):∃t R2,okBd ps s t nu fr m/\LgI ps R t (aL ps s nu fr m).2.1 (aL ps s nu fr m).2.2 M (R0++[(aL ps s nu fr m).1]) R2:=by
 obtain⟨okh,okn,hl,hn,lg,eq⟩:=I;rw[Am]at okn hl;cases lg with
 |@cons _ t _ _ _ _ R2 hm af lg=>
  have B:okBd ps s t nu fr m:=⟨⟨okp,okh,A2 okn.1 ⋯,okn.2⟩,hn,hm,af⟩;obtain⟨k1,k2⟩:=tq okp okh okn hm af;exact⟨t,R2,B,k1,⟨A2 k2.1 ⋯,k2.2⟩,by omega,(Jf B).1,lg,by rw[Bp];exact eq⟩
theorem LgI.lt(I:LgI ps R s nu fr M R0 R1)(h:R.length<=1000):R0.length < 1000000:=by
 have:=congrArg Dv I.eq;rw[Ai]at this;omega
theorem n8(h:kr ps ns L R):LgI ps R (d8 ps,ns) (A3 ns.length) ns.length L [] R:=by
 obtain⟨okp,okh,okn,hl,hL⟩:=h;have:=okn.1;exact⟨okh,⟨by show ns.length<=_;omega,okn.2⟩,by omega,EF (d8 ps,ns),hL,rfl⟩
theorem AJ(a)(M):aD (a::M)=.int a::aD M:=rfl
theorem vR(hw:∀Q:DQ,Q (.d (.list ds)) n->w δ n Q)(k:c7 g c e Q ds [] (jx fr δ) n):cL fr (d5 w) g c e δ n Q:=by
 unfold cL d5;exact hw _ k
def m5(ns:List Nt)(k:Nat):Bool:=((ns[k]?).map λq=>bX q.2).getD aj
def mL(nu:List Nat)(k:Nat):Aa:=.int ((nu[k]?).getD 0:Nat)
theorem zV:∀(nu:List Nat)(ns:List Nt),nu.length=ns.length->((A3 nu.length).filter (m5 ns)).map (mL nu)=aD (cK nu ns)
 |[],[],_=>rfl
 |[],_::_,h=>nomatch h
 |_::_,[],h=>nomatch h
 |x::nu,q::ns,h=>by
  have ih:=zV nu ns (Nat.succ.inj h);have e:((List.map Nat.succ (A3 nu.length)).filter (m5 (q::ns))).map (mL (x::nu))=((A3 nu.length).filter (m5 ns)).map (mL nu):=by
   rw[List.filter_map,Bt];rfl
  rw[Am,List.range_succ_eq_map,C9,tO];show(if bX q.2=ai then _ else _:List Nat).map (mL (x::nu))=_
  split
  ·rw[Bb,e,ih];rfl
  ·rw[e,ih]
theorem yQ(h:xs[i]?=ae x)(k:Q (.d x) n):aO (.d (.list xs)) (.d (.int (i:Nat))) n Q:=gD (by
 show(match cX xs ((i:Nat):Int)with|some d=>Q (.d d) n|none=>False);rw[fG h];exact k)
theorem Hm(h:i < nu.length):(aD nu)[i]?=ae (.int (nu[i]:Nat)):=by unfold aD;rw[Aw,Af h];rfl
theorem Tr(e:δ[i]?=ae (ae (.w (.d (.list ds)))))(k:Q (.d (.int ds.length)) n):wB bj (aq (ak i) ao) δ n Q:=aU (au e k)
theorem Oq(h:x.length+y.length<=Az)(k:Q (.d (.str (x++y))) n):fD (.d (.str x)) (.d (.str y)) n Q:=⟨h,k⟩
theorem Nv{y:Nat}(nu:List Nat)(q:Q (aD (nu.filter λx=>!decide (ae x=ae y))) n):
  c7 (aI 0) (cT (w2 ↥0 ↥1 eO)) ↥0 Q (aD nu) [] [ah,ae (.w (.d (.int y)))] n:=
 iR (λi:Nat=>.int i) (λi:Nat=>.int i) (λx=>!decide (ae x=ae y)) nu [] ah n (λa _ n Q' q=>aF (k:=!decide (ae a=ae y)) (λQ q=>ar (au rfl (au rfl (show Q (.d (.bool (!decide ((a:Int)=(y:Int))))) n by
  rw[show decide ((a:Int)=(y:Int))=decide (ae a=ae y)from decide_eq_decide.mpr ⟨λe=>by rw[Dz e],λe=>by rw[A8 e]⟩];exact q)))) q) (λa _ n Q' q=>au rfl q) (by rw[Bv];exact q)
theorem K7:bV uz Hr ["_law_programs","_law_stand","_law_numbers","_law_fresh","_law_mover","_law_gone","_law_number","_law_act_here","_law_note","_law_found"]:=λws n Q h=>by
 obtain⟨ps,s,t,nu,fr,m,rfl,B,k⟩:=h;have hnl:nu.length<=100:=by rw[B.nu.len];exact B.st.2.2.1
 show Hr [ae (.w (.d (a8 ps))),ae (.w (.d (cM s))),ae (.w (.d (.list (aD nu)))),ae (.w (.d (.int fr))),ae (.w (.d (.int m))),ah,ah,ah,ah,ah] n _;refine aE (dq (aF (k:=decide ((m:Int)=(ps.length:Nat))) (λQ q=>ar (au rfl (aU (au rfl ?_)))) ?_))
 ·show Q (.d (.bool (decide ((m:Int)=((ps.map fg).length:Nat))))) n;rw[Ab];exact q
 by_cases em:m=ps.length
 ·subst em;rw[lq]at k;show if decide _=ai then _ else _
  rw[if_pos (decide_eq_true rfl)];refine aE (show aB 5 _ _ _ _ from bb ?_);unfold cL dv;refine Tr rfl (Aj ⟨by omega,by rw[nc];omega⟩ ?_);rw[Bi,nc,Nx];show c7 _ _ _ _ _ _ [ah,ae (.w (.d (.list (aD nu)))),ae (.w (.d (cM s)))] n;refine iR (λj:Nat=>.int j) (mL nu) (m5 s.2) (A3 nu.length) [] ah n (λj hj n Q' q=>?_) (λj hj n Q' q=>?_) ?_
  ·have hj:=B6.mp hj;have hj':j < s.2.length:=by rw[<-B.nu.len];exact hj
   have hq:(s.2.map bI)[j]?=ae (.tuple [.tuple s.2[j].1,s.2[j].2]):=by rw[Aw,Af hj'];rfl
   have ep:m5 s.2 j=bX s.2[j].2:=by unfold m5;rw[Af hj'];rfl
   rw[ep]at q;exact aF (k:=bX s.2[j].2) (λQ q=>ar (ar (ar (js (b:=.tuple (s.1.map bW)) (c:=bK s.2) (r:=[]) rfl (au rfl (gD (bN hq (aC (gD (cV (aC (tL (B.st.2.2.2 _ (Cg hj')).2 q)))))))))))) q
  ·have hj:=B6.mp hj;refine ar (au rfl (au rfl (yQ (Hm hj) ?_)));unfold mL at q;rw[Af hj]at q;exact q
  ·rw[Bv,zV nu s.2 B.nu.len];dsimp only[Al];refine bc (fZ (cZ (aC (aU (au rfl (oi (Aj (show 2<=1000 by decide) (bb (vR (ds:=aD nu) (λQ q=>au rfl q) ?_)))))))));show c7 _ _ _ _ _ _ [ah,ae (.w (.d (.list (aD (cK nu s.2)))))] n;refine iR (λi:Nat=>.int i) (λi:Nat=>.int i) (λx=>!decide (x∈cK nu s.2)) nu [] ah n (λa _ n Q' q=>aF (k:=!decide (a∈cK nu s.2)) (λQ q=>ar (au rfl (au rfl (Aj rfl (Aj (zO _) ?_))))) q) (λa _ n Q' q=>au rfl q) ?_
   ·rw[tW];exact q
   ·rw[Bv];exact au rfl (Aj (show 3<=1000 by decide) k)
 ·have hm:m < ps.length:=by have:=B.le;omega
  show if decide _=ai then _ else _
  rw[if_neg (by rw[decide_eq_false ⋯];exact Ae)];dsimp only[aM];obtain⟨P,xb,xp,nm,w,as,a,H,ea,T⟩:=lA B.st.2.1 hm B.af;rw[k8 hm ea]at k;refine aE (bA (x:=a.d) (λQ q=>nj (hs:=s.1) (ns:=s.2) rfl rfl rfl B.st.2.1 hm (by rw[ea];exact q)) ?_);dsimp only[Al];have go:∀(x:Str)(r:List Aa),bL "lay" (.str x)=aj->bU (.str x) [.str "same",.str "go"]=ai->a.d=.tuple (.str x::r)->Q (.d (.tuple [.tuple [.str "goes",.int m],.list (aD nu),.int fr])) n->∀(V W:aP),
    (av (aJ (cT (w2 (w2 ↥7 ⇑0 aO) (wC (.str "lay")) aT)) W aM) (av (aJ (cT (w2 (w2 ↥7 ⇑0 aO) (aw (aq (wC (.str "same")) (aq (wC (.str "go")) ao))) (fO aj))) (az (aw (aq (aw (aq (wC (.str "goes")) (aq ↥4 ao))) (aq ↥2 (aq ↥3 ao))))) aM) V))
     [ae (.w (.d (a8 ps))),ae (.w (.d (cM s))),ae (.w (.d (.list (aD nu)))),ae (.w (.d (.int fr))),ae (.w (.d (.int m))),ah,ah,ae (.w (.d a.d)),ah,ah] n {nx:=λ_ n=>Q (.d .none) n,rt:=Q}:=λx r h1 h2 e q V W=>by
   rw[e];refine aE (gS (s:=x) rfl h1 ?_);dsimp only[aM];refine aE (bw (λQ q=>aF (k:=ai) (λQ q=>ar (ar (au rfl (aC (gD (bO (cZ (aC (aC (Aj (show 2<=1000 by decide) (Aj rfl (Aj rfl ?_)))))))))))) q) ?_)
   ·rw[if_neg Ae,h2];exact q
   ·exact bc (fZ (cZ (aC (au rfl (Aj (show 2<=1000 by decide) (au rfl (au rfl (Aj (show 3<=1000 by decide) q))))))))
  have get:∀(x:Str)(r:List Aa)(nu':List Nat),bL "lay" (.str x)=aj->bU (.str x) [.str "same",.str "go"]=aj->x.length<=100->(∀i,bf ps s.1 s.2 m=ae i->i < s.2.length)->a.pf.isSome=ai->a.d=.tuple (.str x::r)->
    (if bL "take" (.str x)=ai then(∃i,bf ps s.1 s.2 m=ae i)/\nu'=nu.filter (λy=>!decide (ae y=fJ nu (bf ps s.1 s.2 m)))else nu'=nu)->Q (.d (.tuple [.tuple [.str (x++"s"),.int m,dr nu (bf ps s.1 s.2 m)],.list (aD nu'),.int fr])) n->∀(W:aP),
    (av (aJ (cT (w2 (w2 ↥7 ⇑0 aO) (wC (.str "lay")) aT)) W aM) (av (aJ (cT (w2 (w2 ↥7 ⇑0 aO) (aw (aq (wC (.str "same")) (aq (wC (.str "go")) ao))) (fO aj))) (az (aw (aq (aw (aq (wC (.str "goes")) (aq ↥4 ao))) (aq ↥2 (aq ↥3 ao))))) aM) (av (aB 9 (aH nL (aq ↥0 (aq ↥1 (aq ↥4 ao))))) (av (aB 6 (eu (cT (w2 ↥9 (wC .none) (dO aj))) (wC .none) (w2 ↥2 (w2 ↥9 ⇑0 aO) aO))) (av (aJ (cT (w2 (w2 ↥7 ⇑0 aO) (wC (.str "take")) aT)) (aB 2 (aZ (cL [ah,ae 6] (d5 ↥2) (aI 0) (cT (w2 ↥0 ↥1 eO)) ↥0))) aM) (az (aw (aq (aw (aq (w2 (w2 ↥7 ⇑0 aO) (wC (.str "s")) fD) (aq ↥4 (aq ↥6 ao)))) (aq ↥2 (aq ↥3 ao))))))))))
     [ae (.w (.d (a8 ps))),ae (.w (.d (cM s))),ae (.w (.d (.list (aD nu)))),ae (.w (.d (.int fr))),ae (.w (.d (.int m))),ah,ah,ae (.w (.d a.d)),ah,ah] n {nx:=λ_ n=>Q (.d .none) n,rt:=Q}:=λx r nu' h1 h2 hx lt hp e hn q W=>by
   rw[e];refine aE (gS (s:=x) rfl h1 ?_);dsimp only[aM];refine aE (aQ (λQ q=>aF (k:=aj) (λQ q=>ar (ar (au rfl (aC (gD (bO (cZ (aC (aC (Aj (show 2<=1000 by decide) (Aj rfl (Aj rfl ?_)))))))))))) q) ?_)
   ·rw[if_neg Ae,h2];exact q
   dsimp only[aM];refine aE (o8 (o:=dG ps s.1 s.2 m) (λQ q=>b7 (au rfl (au rfl (au rfl ⟨ps,s.1,s.2,m,rfl,B.st,hm,q⟩)))) ?_);dsimp only[Al];have fin:∀(x9:Option SV),Q (.d (.tuple [.tuple [.str (x++"s"),.int m,dr nu (bf ps s.1 s.2 m)],.list (aD nu'),.int fr])) n->az (aw (aq (aw (aq (w2 (w2 ↥7 ⇑0 aO) (wC (.str "s")) fD) (aq ↥4 (aq ↥6 ao)))) (aq ↥2 (aq ↥3 ao))))
     [ae (.w (.d (a8 ps))),ae (.w (.d (cM s))),ae (.w (.d (.list (aD nu')))),ae (.w (.d (.int fr))),ae (.w (.d (.int m))),ah,ae (.w (.d (dr nu (bf ps s.1 s.2 m)))),ae (.w (.d (.tuple (.str x::r)))),ah,x9] n {nx:=λ_ n=>Q (.d .none) n,rt:=Q}:=λx9 q=>by
    refine bc (fZ (fZ (ar (ar (au rfl (aC (gD (bO (aC (Oq ?_ ?_))))))))))
    ·exact A2 (show x.length+1<=1000 by omega) (eF (An 1000))
    ·exact au rfl (au rfl (Aj (show 3<=1000 by decide) (au rfl (au rfl (Aj (show 3<=1000 by decide) q)))))
   have eo:bf ps s.1 s.2 m=(dG ps s.1 s.2 m).map (·.1):=by
    unfold bf dG;rw[ea];show(a.pf.bind _)=((a.pf.bind _).map _);obtain⟨fs,hfs⟩:=Dm.mp hp;rw[hfs];show bg _ _ _=((bg _ _ _).map _).map _;rw[Option.map_map];cases bg fs (iw s.1 m) s.2<;>rfl
   have tl:av (aJ (cT (w2 (w2 ↥7 ⇑0 aO) (wC (.str "take")) aT)) (aB 2 (aZ (cL [ah,ae 6] (d5 ↥2) (aI 0) (cT (w2 ↥0 ↥1 eO)) ↥0))) aM) (az (aw (aq (aw (aq (w2 (w2 ↥7 ⇑0 aO) (wC (.str "s")) fD) (aq ↥4 (aq ↥6 ao)))) (aq ↥2 (aq ↥3 ao)))))
     [ae (.w (.d (a8 ps))),ae (.w (.d (cM s))),ae (.w (.d (.list (aD nu)))),ae (.w (.d (.int fr))),ae (.w (.d (.int m))),ah,ae (.w (.d (dr nu (bf ps s.1 s.2 m)))),ae (.w (.d (.tuple (.str x::r)))),ah,ae (.w (gg (dG ps s.1 s.2 m)))] n {nx:=λ_ n=>Q (.d .none) n,rt:=Q}:=by
    refine aE (rG (s:=x) rfl (jv (λz=>?_) λz=>?_))
    ·rw[if_pos z]at hn;obtain⟨⟨i,ei⟩,hn⟩:=hn;have hi:i < nu.length:=by rw[B.nu.len];exact lt i ei
     have ed:dr nu (bf ps s.1 s.2 m)=.int (nu[i]:Nat):=by rw[ei];exact lG hi
     have en:fJ nu (bf ps s.1 s.2 m)=ae nu[i]:=by rw[ei];exact o6 hi
     refine bA (x:=.list (aD nu')) (λQ q=>bb (vR (ds:=aD nu) (λQ q=>au rfl q) ?_)) ?_
     ·rw[hn,en]at q;rw[ed];show c7 _ _ _ _ _ _ [ah,ae (.w (.d (.int (nu[i]:Nat))))] n;exact Nv nu q
     ·dsimp only[Al];exact fin _ q
    ·rw[if_neg (by rw[z];exact Ae)]at hn;subst hn;dsimp only[aM];exact fin _ q
   refine aE (bA (x:=dr nu (bf ps s.1 s.2 m)) (λQ q=>?_) tl);cases eg:dG ps s.1 s.2 m with
   |none=>
    rw[eo,eg]at q;exact fN (b:=ai) (λQ q=>aF (k:=ai) (λQ q=>ar (au rfl (aC (jb q)))) q) (by rw[if_pos rfl];exact aC q)
   |some p=>
    rw[eo,eg]at q;have hi:p.1 < nu.length:=by rw[B.nu.len];exact lt p.1 (by rw[eo,eg];rfl)
    have q:Q (.d (dr nu (ae p.1))) n:=q;rw[lG hi]at q;exact fN (b:=aj) (λQ q=>aF (k:=aj) (λQ q=>ar (au rfl (aC (rh q)))) q) (by rw[if_neg Ae];exact ar (au rfl (uL (d:=.int p.1) rfl (yQ (Hm hi) q))))
  cases a with
  |lay fs age=>
   obtain⟨hl4,hfv⟩:=H.lay B.st.1 ea;have k:Q (.d (.tuple [.tuple [.str "lays",.int m,.int fr,bI (cu fs (iw s.1 m),age)],.list (aD (nu++[fr])),.int ((fr+1:Nat):Int)])) n:=k;rw[H.nmq,xF]at k;refine aE (sk (s:="lay") rfl ∅ (aE ?_));refine bA (x:=bI (cu fs nm,age)) (λQ q=>?_) ?_
   ·refine cZ (bG (js rfl ?_));have hd:∀Q:DQ,Q (.dk (bx nm)) n->lE (w2 (w2 (w2 ↥1 ⇑0 aO) ↥4 aO) ⇑2 aO) [ae (.w (.d (a8 ps))),ae (.w (.d (cM s))),ae (.w (.d (.list (aD nu)))),ae (.w (.d (.int fr))),ae (.w (.d (.int m))),ah,ah,ae (.w (.d (Ac.lay fs age).d)),ah,ah] n Q:=λQ q=>by
     unfold lE kE i8;refine ar (ar (ar (au rfl (aC (gD (bO (a:=.tuple (s.1.map bW)) (au rfl (gD (bN H.hD (aC (gD (cW ?_))))))))))));unfold cJ;simp only[rS];refine⟨by rw[Ab];have:=H.nms.1;omega,?_⟩;have:=rq nm [] (by rw[Bv];exact H.nms.2.1);rw[Bv]at this;rw[show([]:List (aG×Aa))=bx []from rfl,this];exact q
    exact hd _ ⟨fs,nm,rfl,hl4,hfv,j8 rfl (Aj (show 2<=1000 by decide) q)⟩
   ·dsimp only[Al];refine bc (fZ (uf (aC (au rfl (au rfl (au rfl (Aj (show 4<=1000 by decide) ?_)))))));refine ar (au rfl (bb (yw (au rfl (Aj (show 1<=1000 by decide) (Aj ?_ ?_))))))
    ·show(aD nu).length+1<=Az;exact A2 (by rw[nc];omega) (eF (An 1000))
    ·exact ar (au rfl (aC (dA (Aj (show 3<=1000 by decide) k))))
  |take gs=>obtain⟨i,eg,hi,_⟩:=T;exact get "take" _ _ ∅ ∅ ∅ (λj h=>by rw[eg]at h;cases h;exact hi) rfl rfl (by rw[if_pos ∅];exact⟨⟨i,eg⟩,rfl⟩) k _
  |read gs=>obtain⟨_,i,eg,hi⟩:=T;exact get "read" _ nu ∅ ∅ ∅ (λj h=>by rw[eg]at h;cases h;exact hi) rfl rfl (by rw[if_neg ∅]) k _
  |look gs b=>exact get "look" _ nu ∅ ∅ ∅ T.2 rfl rfl (by rw[if_neg ∅]) k _
  |same f g b=>exact go "same" _ ∅ ∅ rfl k _ _
  |go b=>exact go "go" _ ∅ ∅ rfl k _ _
theorem vg(k:w δ n λx n1=>w' δ n1 λy n2=>w'' δ n2 λz n3=>v δ n3 λa n4=>u δ n4 λb n5=>S [x,y,z,a,b] n5 Q):aH S (aq w (aq w' (aq w'' (aq v (aq u ao))))) δ n Q:=k
theorem RJ:bV vU GU ["_law_plan_here","_law_movers_here","_law_programs","_law_notes_here","_law_stand","_law_numbers","_law_fresh","_law_rows","_law_mover","_law_row_here"]:=λws n Q h=>by
 obtain⟨ps,ns,L,R,rfl,ok,k⟩:=h;have hR:R.length<=1000:=by rw[sJ ok.2.2.2.2];have:=ok.2.2.2.1;omega
 have okp:=ok.1;have hns:=ok.2.2.1.1;show GU [ae (.w (.d (.tuple [a8 ps,bK ns]))),ae (.w (.d (.list (aD L)))),ah,ah,ah,ah,ah,ah,ah,ah] n _;refine aE (show cP _ _ _ _ _ from au rfl ⟨rfl,?_⟩);dsimp only[br,cv,aI,Al];refine aE (bA (x:=cM (d8 ps,ns)) (λQ q=>cF (au rfl ⟨ps,ns,rfl,okp.1,q⟩)) ?_);dsimp only[Al];have hlen:∀(δ:Sl)(Q:DQ),δ[3]?=ae (ae (.w (.d (bK ns))))->Q (.d (.int ns.length)) n->wB bj (aq ↥3 ao) δ n Q:=λδ Q e q=>aU (au e (show Q (.d (.int ((ns.map bI).length:Nat))) n by rw[Ab];exact q));refine aE (bA (x:=.list (aD (A3 ns.length))) (λQ q=>bb (show xB _ _ _ _ from hlen _ _ rfl ⟨ns.length,rfl,by omega,q⟩)) ?_);dsimp only[Al];refine aE (bA (x:=.int ns.length) (λQ q=>hlen _ _ rfl q) ?_);dsimp only[Al];refine aE (iM ?_);dsimp only[Al];refine aE ?_;unfold aW d5;refine au rfl ?_;refine eV (λds δ m=>m=n/\∃(M:List Nat)(s:Sd)(nu:List Nat)(fr:Nat)(R0 R1:List Aa)(x8 x9:Option SV),ds=aD M/\δ=[ae (.w (.d (.tuple [a8 ps,bK ns]))),ae (.w (.d (.list (aD L)))),ae (.w (.d (a8 ps))),ae (.w (.d (bK ns))),ae (.w (.d (cM s))),ae (.w (.d (.list (aD nu)))),ae (.w (.d (.int fr))),ae (.own R0),x8,x9]/\LgI ps R s nu fr M R0 R1) (λδ m I=>?_) (λd r δ m N I kN=>?_) _ _ _ ⟨rfl,L,_,_,_,[],R,ah,ah,rfl,rfl,n8 ok⟩
 ·obtain⟨rfl,M,s,nu,fr,R0,R1,x8,x9,ed,rfl,I⟩:=I;cases M with
  |nil=>
   cases I.lg;have e:=I.eq;rw[Bw]at e;dsimp only;refine gy rfl ?_;dsimp only[Al];rw[e];exact bc (au rfl k)
  |cons a M=>cases ed
 ·obtain⟨rfl,M,s,nu,fr,R0,R1,x8,x9,ed,rfl,I⟩:=I;cases M with
  |nil=>cases ed
  |cons a M=>
   obtain⟨rfl,rfl⟩:=Ej ed;obtain⟨t,R2,B,J⟩:=I.step okp;dsimp only[aI,Al];refine aE (show cP _ _ _ _ _ from vg (au rfl (au rfl (au rfl (au rfl (au rfl ⟨ps,s,t,nu,fr,a,rfl,B,⟨rfl,?_⟩⟩))))));dsimp only[br,cv,aI,Al];refine aE (jW rfl (λQ q=>au rfl q) (I.lt hR) ?_);dsimp only[Al];refine bA (x:=cM t) (λQ q=>b7 (au rfl (au rfl (au rfl ⟨ps,s.1,s.2,a,t,rfl,B.st,B.le,B.af,q⟩)))) ?_;dsimp only[Al];exact kN _ _ ⟨rfl,M,t,_,_,_,R2,_,_,rfl,rfl,J⟩
theorem bS{W V:aP}(hc:∀Q:Bool->Int->Prop,Q aj n->C δ n Q)(k:V δ n K):av (aJ C W aM) V δ n K:=aE (aQ hc k)
theorem dj{U V:aP}(hc:∀Q:Bool->Int->Prop,Q ai n->C δ n Q)(k:w δ n K.rt):av (aJ C (az w) U) V δ n K:=aE (bw hc (bc k))
theorem MB:bV nA AX ["thing"]:=λws n Q h=>by
 obtain⟨d,rfl,sd,k⟩:=h;show AX [ae (.w (.d d))] n _;have isn:∀b,gc d=b->∀Q:Bool->Int->Prop,Q b n->cT (w2 ↥0 (wC .none) (bJ aj)) [ae (.w (.d d))] n Q:=λb e Q q=>aF (k:=b) (λQ q=>ar (au rfl (aC (show Q (.d (.bool (gc d))) n by rw[e];exact q)))) q;have isi:∀(T:String) b,dQ T d=b->∀Q:Bool->Int->Prop,Q b n->cT (cb T ↥0) [ae (.w (.d d))] n Q:=λT b e Q q=>aF (k:=b) (λQ q=>au rfl (show Q (.d (.bool (dQ T d))) n by rw[e];exact q)) q;cases d with
 |none=>exact dj (isn ai rfl) (aC k)
 |bool b=>exact bS (isn aj rfl) (dj (isi "bool" ai rfl) (aC k))
 |int i=>exact bS (isn aj rfl) (bS (isi "bool" aj rfl) (dj (isi "int" ai rfl) (aC k)))
 |str x=>exact bS (isn aj rfl) (bS (isi "bool" aj rfl) (bS (isi "int" aj rfl) (dj (isi "str" ai rfl) (aC k))))
 |tuple xs=>exact bS (isn aj rfl) (bS (isi "bool" aj rfl) (bS (isi "int" aj rfl) (bS (isi "str" aj rfl) (bc (fN (b:=ai) (isi "tuple" ai rfl) (by rw[if_pos rfl];exact aC k))))))
 |list xs=>exact bS (isn aj rfl) (bS (isi "bool" aj rfl) (bS (isi "int" aj rfl) (bS (isi "str" aj rfl) (bc (fN (b:=aj) (isi "tuple" aj rfl) (by rw[if_neg Ae];exact aC k))))))
 |dict _=>rw[cg]at sd;cases sd
theorem TJ(k:Q (.d (.bool (!decide (x=y)))) n):eO (.d (.str x)) (.d (.str y)) n Q:=k
theorem KP(hk:iU x=iU y)(nx:fR x=ai)(sx:cg x=ai)(sy:cg y=ai)(tx:lU x=aj):Bz x y=gq x y:=by
 cases x with
 |none=>
  cases y with
  |none=>rw[km rfl];simp[Bz]
  |dict _=>rw[cg]at sy;cases sy
  |_=>simp only[iU]at hk;exact absurd hk ∅
 |bool b=>
  cases y with
  |bool c=>
   by_cases e:b=c
   ·subst e;rw[km rfl];simp[Bz]
   ·rw[kx λz=>e (PyData.bool.inj z)];simp[Bz,e]
  |dict _=>rw[cg]at sy;cases sy
  |_=>simp only[iU]at hk;exact absurd hk ∅
 |int i=>
  cases y with
  |int j=>
   by_cases e:i=j
   ·subst e;rw[km rfl];simp[Bz]
   ·rw[kx λz=>e (PyData.int.inj z)];simp[Bz,e]
  |dict _=>rw[cg]at sy;cases sy
  |_=>simp only[iU]at hk;exact absurd hk ∅
 |str i=>
  cases y with
  |str j=>
   by_cases e:i=j
   ·subst e;rw[km rfl];simp[Bz]
   ·rw[kx λz=>e (PyData.str.inj z)];simp[Bz,e]
  |dict _=>rw[cg]at sy;cases sy
  |_=>simp only[iU]at hk;exact absurd hk ∅
 |tuple xs=>cases tx
 |list xs=>cases tx
 |dict _=>rw[cg]at sx;cases sx
theorem Mj(sx:cg x=ai)(tx:lU x=aj):B5 x<=20:=by
 cases x with
 |tuple xs=>cases tx
 |list xs=>cases tx
 |dict _=>rw[cg]at sx;cases sx
 |_=>rw[B5];exact Bm _
theorem G3:∀{xs:List Aa},lL xs=ai->∀x∈xs,fR x=ai
 |[],_,x,hx=>nomatch hx
 |y::xs,h,x,hx=>by
  rw[lL,Bf]at h;rcases Ao.mp hx with rfl|hx
  ·exact h.1
  ·exact G3 h.2 x hx
theorem m6:∀{xs:List Aa},Et xs=ai->∀x∈xs,B4 x=ai
 |[],_,x,hx=>nomatch hx
 |y::xs,h,x,hx=>by
  rw[Et,Bf]at h;rcases Ao.mp hx with rfl|hx
  ·exact h.1
  ·exact m6 h.2 x hx
def mP(xs ys:List Aa):List Bool:=List.zipWith gq xs ys
theorem zH:∀{xs ys:List Aa},xs.length=ys.length->(mP xs ys).all id=gq (.tuple xs) (.tuple ys)
 |[],[],_=>by rw[km rfl];rfl
 |x::xs,y::ys,h=>by
  have ih:=zH (xs:=xs) (ys:=ys) (Nat.succ.inj h);show(gq x y&&(mP xs ys).all id)=_;rw[ih];by_cases e:x=y
  ·rw[km e,Fo];by_cases e2:xs=ys
   ·rw[km (by rw[e2]),km (by rw[e,e2])]
   ·rw[kx λz=>e2 (Ft z),kx λz=>e2 (Ej (Ft z)).2]
  ·rw[kx e,Bool.false_and,kx λz=>e (Ej (Ft z)).1]
theorem Ia:∀(xs ys:List Aa)(acc:List Aa)(u v:Option SV)(n:Int),xs.length=ys.length->
  (∀x∈xs,fR x=ai/\cg x=ai/\B5 x<=d/\B4 x=ai)->(∀y∈ys,cg y=ai/\B5 y<=20/\B4 y=ai)->Q (acc++(mP xs ys).map .bool) n->
  c7 (du 2 (br (aI 0) (br (aI 1) cv))) cG (aH (ka (d+1)) (aq ↥0 (aq ↥1 ao))) Q (dz xs ys) acc [u,v] n
 |[],[],acc,u,v,n,_,_,_,q=>by
  rw[show(mP [] []).map PyData.bool=[]from rfl,Bw]at q;exact q
 |x::xs,y::ys,acc,u,v,n,hl,hx,hy,q=>by
  refine(show du 2 _ (.tuple [x,y]) [u,v] _ from⟨rfl,?_⟩);dsimp only[br,cv,aI,Al,cG];rw[if_pos rfl];obtain⟨a1,a2,a3,a4⟩:=hx x As;obtain⟨b1,b2,b3⟩:=hy y As;refine bG (au rfl (au rfl ⟨x,y,rfl,a1,a2,b1,a3,a4,b3,b2,?_⟩));refine Ia xs ys _ _ _ n (Nat.succ.inj hl) (λz hz=>hx z (Ar _ hz)) (λz hz=>hy z (Ar _ hz)) ?_;rw[Bp];exact q
theorem UZ:∀d ws n Q,ka d ws n Q->ws.length=2:=λd ws n Q h=>by
 cases d with
 |zero=>exact h.elim
 |succ d=>obtain⟨_,_,rfl,_⟩:=h;rfl
theorem UX:∀d ws n Q,ka (d+1) ws n Q->EZ (ka d) (iK ["one","other"] ws) n {nx:=λ_ n=>Q (.d .none) n,rt:=Q}:=λd ws n Q h=>by
 obtain⟨x,y,rfl,nx,sx,sy,dx,lx,ly,dy,k⟩:=h;show EZ (ka d) [ae (.w (.d x)),ae (.w (.d y))] n _;have kn:∀b,(!decide (iU x=iU y))=b->∀Q:Bool->Int->Prop,Q b n->cT (w2 (aH nA (aq ↥0 ao)) (aH nA (aq ↥1 ao)) eO) [ae (.w (.d x)),ae (.w (.d y))] n Q:=λb e Q q=>
  aF (k:=b) (λQ q=>ar (cF (au rfl ⟨x,rfl,sx,cF (au rfl ⟨y,rfl,sy,TJ (by rw[e];exact q)⟩)⟩))) q
 have tl:∀b,lU x=b->∀Q:Bool->Int->Prop,Q (!b) n->cQ (cT (xX ↥0)) [ae (.w (.d x)),ae (.w (.d y))] n Q:=λb e Q q=>
  jC (k:=b) (λQ q=>aF (k:=b) (λQ q=>au rfl (show Q (.d (.bool (lU x))) n by rw[e];exact q)) q) q
 by_cases hk:iU x=iU y
 ·refine bS (kn aj (by rw[decide_eq_true hk];rfl)) ?_;cases ht:lU x with
  |false=>exact dj (tl aj ht) (ar (au rfl (au rfl ⟨lx,ly,Mj sx ht,dy,_,rfl,by rw[KP hk nx sx sy ht];exact k⟩)))
  |true=>
   refine bS (tl ai ht) ?_;cases x with
   |tuple xs=>
    cases y with
    |tuple ys=>
     rw[cg]at sx sy;rw[fR]at nx;rw[B5]at dx dy;rw[B4]at lx ly;cases d with
     |zero=>omega
     |succ d=>
      have ln:∀b,(!decide ((xs.length:Int)=ys.length))=b->∀Q:Bool->Int->Prop,Q b n->cT (w2 (wB bj (aq ↥0 ao)) (wB bj (aq ↥1 ao)) eO) [ae (.w (.d (.tuple xs))),ae (.w (.d (.tuple ys)))] n Q:=λb e Q q=>
       aF (k:=b) (λQ q=>ar (aU (au rfl (aU (au rfl (show Q (.d (.bool (!decide ((xs.length:Int)=ys.length)))) n by rw[e];exact q)))))) q
      by_cases hl:xs.length=ys.length
      ·refine bS (ln aj (by rw[decide_eq_true ⋯];rfl)) (bc (aU (bb ?_)));unfold cL jN;refine au rfl (au rfl ⟨hl,?_⟩);refine Ia xs ys [] ah ah n hl (λz hz=>⟨G3 nx z hz,sF sx z hz,sh ⋯ z hz,m6 lx z hz⟩) (λz hz=>⟨sF sy z hz,A2 (sh (An _) z hz) ⋯,m6 ly z hz⟩) ?_;rw[Bv];show(match kM ((mP xs ys).map λb=>.bool (id b))with|some bs=>Q (.d (.bool (bs.all id))) n|none=>False);rw[zF id];show Q (.d (.bool (((mP xs ys).map id).all id))) n;rw[Gb,zH hl];exact k
      ·refine dj (ln ai (by rw[decide_eq_false ⋯];rfl)) (aC ?_);rw[kx λz=>hl (congrArg Dv (Ft z))]at k;exact k
    |dict _=>rw[cg]at sy;cases sy
    |_=>simp only[iU]at hk;exact absurd hk ∅
   |list xs=>rw[fR]at nx;cases nx
   |_=>cases ht
 ·refine dj (kn ai (by rw[decide_eq_false hk];rfl)) (aC ?_);rw[kx λz=>hk (by rw[z])]at k;exact k
theorem Nd(sa:cg a=ai):Bz a (.str "clock")=iG a:=by
 cases a with
 |str x=>
  show Bz (.str x) (.str "clock")=decide (x="clock");by_cases e:x="clock"
  ·subst e;rw[decide_eq_true rfl];simp[Bz]
  ·rw[decide_eq_false e];simp[Bz,e]
 |dict _=>rw[cg]at sa;cases sa
 |_=>simp[Bz,iG]
theorem okY.part(h:okY (.tuple xs)):∀x∈xs,cg x=ai/\B4 x=ai/\B5 x<=20:=λx hx=>by
 obtain⟨h1,h2,h3,_⟩:=h;rw[cg]at h1;rw[B4]at h2;rw[B5]at h3;exact⟨sF h1 x hx,m6 h2 x hx,A2 (sh (An _) x hx) ⋯⟩
theorem TZ(sa:cg a=ai)(la:B4 a=ai)(da:B5 a<=20)(k:Q (.d (.bool (iG a))) n):iV (λd e=>ae (Bz d e)) (.d a) (.d (.str "clock")) n Q:=
 ⟨la,by decide +kernel,da,by decide +kernel,_,rfl,by rw[Nd sa];exact k⟩
theorem Ss(k:Q (.d (.bool (decide (a < b)))) n):gM (.d (.int a)) (.d (.int b)) n Q:=k
theorem o3(k:Q (.d (.int xs.length)) n):bj [.d (.tuple xs)] n Q:=k
theorem Vt:bV yt Hh ["programs","row"]:=λws n Q h=>by
 obtain⟨ps,d,rfl,hd,k⟩:=h;show Hh [ae (.w (.d (a8 ps))),ae (.w (.d d))] n _;have isi:∀b,dQ "tuple" d=b->∀Q:Bool->Int->Prop,Q (!b) n->cQ (cT (cb "tuple" ↥1)) [ae (.w (.d (a8 ps))),ae (.w (.d d))] n Q:=λb e Q q=>jC (k:=b) (λQ q=>aF (k:=b) (λQ q=>au rfl (show Q (.d (.bool (dQ "tuple" d))) n by rw[e];exact q)) q) q;cases d with
 |tuple xs=>
  have hp:=hd.part;have ln:∀b,decide ((xs.length:Int) < 2)=b->∀Q:Bool->Int->Prop,Q b n->cT (w2 (wB bj (aq ↥1 ao)) ⇑2 gM) [ae (.w (.d (a8 ps))),ae (.w (.d (.tuple xs)))] n Q:=λb e Q q=>
   aF (k:=b) (λQ q=>ar (aU (au rfl (o3 (aC (Ss (by rw[e];exact q))))))) q
  match xs,hp,ln,k with
  |[],hp,ln,k=>exact dj (λQ q=>gH (isi ai rfl) (ln ai rfl Q q)) (aC k)
  |[_],hp,ln,k=>exact dj (λQ q=>gH (isi ai rfl) (ln ai rfl Q q)) (aC k)
  |a::b::r,hp,ln,k=>
   refine bS (λQ q=>gH (isi ai rfl) (ln aj (decide_eq_false (by rw[Am,Am];omega)) Q q)) ?_;obtain⟨sa,la,da⟩:=hp a As;refine bc (fN (b:=iG a) (λQ q=>aF (k:=iG a) (λQ q=>ar (ar (au rfl (aC (bO (aC (TZ sa la da q))))))) q) ?_);have k:Q (.d (if iG a=ai then .int ps.length else b)) n:=k;cases e:iG a with
   |true=>
    rw[e,if_pos rfl]at k;rw[if_pos rfl];exact aU (au rfl (show Q (.d (.int ((ps.map fg).length:Nat))) n by rw[Ab];exact k))
   |false=>
    rw[e,if_neg Ae]at k;rw[if_neg Ae];exact ar (au rfl (aC (cV k)))
 |dict kvs=>
  have:=hd.1;rw[cg]at this;cases this
 |_=>exact dj (λQ q=>k7 (isi aj rfl) q) (aC k)
theorem Kf(B:okBd ps s t nu fr m)(hf:fr<=80)(hnu:nu.length<=60):hV (aL ps s nu fr m).1:=by
 obtain⟨st,⟨nd,len,lt⟩,le,af⟩:=B;have h5:=st.1.1;have nm:∀g:Option Nat,∀i,fJ nu g=ae i->i<=90:=λg i e=>by
  cases g with
  |none=>cases e
  |some j=>have:=lt i (A4 e);omega
 by_cases em:m=ps.length
 ·subst em;rw[lq];refine .inr (.inr (.inr ⟨cK nu s.2,rfl,?_,λi hi=>by have:=lt i (xP hi);omega⟩));have h1:(cK nu s.2).length<=nu.length:=by
   unfold cK;rw[Ab];exact A2 (Dj _ _) (by rw[List.length_zip];omega)
  omega
 ·have hm:m < ps.length:=by omega
  obtain⟨P,xb,xp,nm',w,as,a,H,ea,T⟩:=lA st.2.1 hm af;rw[k8 hm ea];cases a with
  |lay fs age=>
   obtain⟨hl4,hfv⟩:=H.lay st.1 ea;have oa:=H.ok st.1 ea;refine .inl ⟨m,fr,(cu fs (iw s.1 m),age),rfl,by omega,by omega,?_⟩;rw[H.nmq];exact⟨⟨⟨by show(cu fs nm').length<=4;unfold cu;rw[Ab];exact hl4,by show 1<=(cu fs nm').length;unfold cu;rw[Ab];exact oa.2.2.2⟩,λd hd=>by
    obtain⟨f,hf,rfl⟩:=A7.mp hd;exact iu (hfv f hf)⟩,oa.2.2.1⟩
  |take gs=>exact .inr (.inl ⟨"takes",m,_,rfl,.inl rfl,by omega,nm _⟩)
  |read gs=>exact .inr (.inl ⟨"reads",m,_,rfl,.inr (.inl rfl),by omega,nm _⟩)
  |look gs b=>exact .inr (.inl ⟨"looks",m,_,rfl,.inr (.inr rfl),by omega,nm _⟩)
  |go b=>exact .inr (.inr (.inl ⟨m,rfl,by omega⟩))
  |same f g b=>exact .inr (.inr (.inl ⟨m,rfl,by omega⟩))
theorem Q9{i:Nat}(h:i<=90):cg (.int i)=ai:=by
 rw[cg,Bf];exact⟨decide_eq_true ⋯,decide_eq_true ⋯⟩
theorem CI(h:cz d=ai):cg d=ai:=by
 cases d with
 |str x=>
  have h:(decide (x.length<=8)&&(E5 x&&decide (x="a"\/x="ab"\/x="go")))=ai:=h;rw[Bf,Bf]at h;rw[cg];rcases of_decide_eq_true h.2.2 with rfl|rfl|rfl<;>decide +kernel
 |int i=>
  simp only[cz,Bf,decide_eq_true_eq]at h;rw[cg,Bf];exact⟨decide_eq_true ⋯,decide_eq_true ⋯⟩
 |_=>cases h
theorem Io(h:ft d):cg d=ai:=by
 rcases h with rfl|⟨i,rfl,h0,h1⟩
 ·rw[cg]
 ·rw[cg,Bf];exact⟨decide_eq_true ⋯,decide_eq_true ⋯⟩
theorem lj(h:∀x∈xs,cg x=ai):cg (.tuple xs)=ai:=by rw[cg];exact uI h
theorem rN(h:∀x∈xs,cg x=ai):cg (.list xs)=ai:=by rw[cg];exact uI h
theorem AQ:∀{xs:List Aa},(∀x∈xs,fR x=ai)->lL xs=ai
 |[],_=>by rw[lL]
 |y::xs,h=>by rw[lL,h y As,AQ λx hx=>h x (Ar _ hx)];rfl
theorem PY(h:cz d=ai):fR d=ai:=by
 cases d with
 |str x=>simp[fR]
 |int i=>simp[fR]
 |_=>cases h
structure Pn(d:Aa):Prop where
 sf:cg d=ai
 nl:fR d=ai
 sm:Sm 2 2000 d
theorem lC{i:Nat}(h:i<=90):Pn (.int i):=⟨Q9 h,by simp[fR],(BL ⋯).up ∎ ∎⟩
theorem BE:Pn .none:=⟨by rw[cg],by simp[fR],sm_none.up ∎ ∎⟩
theorem oS(h:lK x=ai)(h2:(decide (x.length<=8)&&E5 x)=ai):Pn (.str x):=⟨by rw[cg];exact h,by simp[fR],(S5 h2).up ∎ ∎⟩
theorem Jt(h:ft d):Pn d:=by
 rcases h with rfl|⟨i,rfl,h0,h1⟩
 ·exact BE
 ·obtain⟨j,rfl⟩:=Gu (show 0<=i by omega);exact lC ⋯
theorem jL(h:∀x∈xs,fR x=ai):fR (.tuple xs)=ai:=by rw[fR];exact AQ h
theorem U1(h:kh q):Pn (bI q):=by
 refine⟨lj λx hx=>?_,jL λx hx=>?_,(N0 h).up ∎ ∎⟩
 ·simp only[Ao,Aq,or_false]at hx;rcases hx with rfl|rfl
  ·exact lj λy hy=>CI (h.1.2 y hy)
  ·exact Io h.2
 ·simp only[Ao,Aq,or_false]at hx;rcases hx with rfl|rfl
  ·exact jL λy hy=>PY (h.1.2 y hy)
  ·exact(Jt h.2).nl
theorem SM(hl:l.length<=60)(h:∀i∈l,i<=90):Pn (.tuple (aD l)):=by
 have key:∀x∈aD l,∃i:Nat,i<=90/\x=.int i:=λx hx=>by
  obtain⟨i,hi,rfl⟩:=A7.mp hx;exact⟨i,h i hi,rfl⟩
 refine⟨lj λx hx=>?_,jL λx hx=>?_,(jZ (k:=0) (w:=20) (m:=60) (λx hx=>?_) (by unfold aD;rw[Ab];exact hl)).up ∎ ∎⟩
 ·obtain⟨i,hi,rfl⟩:=key x hx;exact(lC hi).sf
 ·obtain⟨i,hi,rfl⟩:=key x hx;exact(lC hi).nl
 ·obtain⟨i,hi,rfl⟩:=key x hx;exact BL ⋯
theorem MK(h:∀i,g=ae i->i<=90):Pn (fS g):=by
 cases g with
 |none=>exact BE
 |some i=>exact lC (h i rfl)
theorem wF(h:hV d):∃(x:Str)(b:Aa)(r:List Aa),d=.tuple (.str x::b::r)/\r.length<=2/\∀y∈(Co x::b::r),Pn y:=by
 rcases h with⟨m,k,q,rfl,hm,hk,hq⟩|⟨x,m,g,rfl,hx,hm,hg⟩|⟨m,rfl,hm⟩|⟨l,rfl,hl,hi⟩
 ·refine⟨_,_,_,rfl,An _,λy hy=>?_⟩;simp only[Ao,Aq,or_false]at hy;rcases hy with rfl|rfl|rfl|rfl
  ·exact oS ∅ ∅
  ·exact lC hm
  ·exact lC hk
  ·exact U1 hq
 ·refine⟨_,_,_,rfl,by simp,λy hy=>?_⟩;simp only[Ao,Aq,or_false]at hy;rcases hy with rfl|rfl|rfl
  ·rcases hx with rfl|rfl|rfl<;>exact oS ∅ ∅
  ·exact lC hm
  ·exact MK hg
 ·refine⟨_,_,_,rfl,by simp,λy hy=>?_⟩;simp only[Ao,Aq,or_false]at hy;rcases hy with rfl|rfl
  ·exact oS ∅ ∅
  ·exact lC hm
 ·refine⟨_,_,_,rfl,by simp,λy hy=>?_⟩;simp only[Ao,Aq,or_false]at hy;rcases hy with rfl|rfl
  ·exact oS ∅ ∅
  ·exact SM hl hi
theorem tV(h:hV d):cg d=ai/\fR d=ai/\Sm 3 8100 d:=by
 obtain⟨x,b,r,rfl,hr,hp⟩:=wF h;exact⟨lj λy hy=>(hp y hy).sf,jL λy hy=>(hp y hy).nl,(jZ (k:=2) (w:=2000) (m:=4) (λy hy=>(hp y hy).sm) (by rw[Am,Am];omega)).up (An _) ∎⟩
theorem vE(h:hV d):okY d:=⟨(tV h).1,(tV h).2.2.up ∎ ∎⟩
structure LtI(ps:Pg)(s:Sd)(nu:List Nat)(fr l:Nat):Prop where
 okh:okHs ps s.1
 okn:dg (60-l) s.2
 nk:okNu s nu fr
 fr:fr+l<=60
 hl:l<=40
theorem LtI.st{fr l:Nat}(okp:cH ps)(I:LtI ps s nu fr l):eD ps s.1 s.2:=⟨okp,I.okh,A2 I.okn.1 ⋯,I.okn.2⟩
theorem LtI.step{s t:Sd}{fr l m:Nat}(okp:cH ps)(I:LtI ps s nu fr (l+1))(hm:m<=ps.length)(af:cD ps s.1 s.2 m=ae t):okBd ps s t nu fr m/\LtI ps t (aL ps s nu fr m).2.1 (aL ps s nu fr m).2.2 l:=by
 have B:okBd ps s t nu fr m:=⟨I.st okp,I.nk,hm,af⟩;obtain⟨k1,k2⟩:=tq okp I.okh I.okn hm af;obtain⟨n1,n2⟩:=Jf B;have h1:=I.hl;have h2:=I.fr;exact⟨B,k1,⟨A2 k2.1 ⋯,k2.2⟩,n1,by omega,by omega⟩
theorem j6(h:ij ps ns)(hl:l<=40):LtI ps (d8 ps,ns) (A3 ns.length) ns.length l:=by
 have:=h.2.2.1;exact⟨h.2.1,⟨by show ns.length<=_;omega,h.2.2.2⟩,EF (d8 ps,ns),by omega,hl⟩
theorem LtI.rw{fr l m:Nat}(I:LtI ps s nu fr (l+1))(B:okBd ps s t nu fr m):hV (aL ps s nu fr m).1:=by
 have h1:=I.nk.len;have h2:=I.okn.1;have h3:=I.fr;exact Kf B ⋯ ⋯
theorem okY.lay(h:okY d):B4 d=ai:=h.2.1
theorem okY.dep(h:okY d):B5 d<=20:=A2 h.2.2.1 ∎
def w8(ps:Pg)(ns:List Nt)(rs:List Aa)(n0:Int)(ds:List Aa)(δ:Sl)(n:Int):Prop:=∃(s:Sd)(nu:List Nat)(fr:Nat)(x y:Option SV),δ=[ae (.w (.d (.tuple [a8 ps,bK ns]))),ae (.w (.d (.list rs))),ae (.w (.d (dN s nu fr))),x,y]/\LtI ps s nu fr ds.length/\(∀r∈ds,okY r)/\iC ps s nu fr ds=fK ps ns (.list rs)/\n=n0
theorem u6(ps)(s:Sd)(nu)(fr)(d)(r):iC ps s nu fr (d::r)=(match gR ps s.1 s.2 (d7 ps d)with
  |none=>aj
  |some t=>gq (aL ps s nu fr (fq ps (d7 ps d))).1 d&&iC ps t (aL ps s nu fr (fq ps (d7 ps d))).2.1 (aL ps s nu fr (fq ps (d7 ps d))).2.2 r):=by rw[iC]<;>rfl
theorem RR:bV ql HQ ["plan","thing","board","row","step"]:=λws n0 Q h=>by
 obtain⟨ps,ns,d,rfl,pl,th,k⟩:=h;show HQ [ae (.w (.d (.tuple [a8 ps,bK ns]))),ae (.w (.d d)),ah,ah,ah] n0 _;have okp:=pl.1;have isi:∀b,dQ "list" d=b->∀Q:Bool->Int->Prop,Q (!b) n0->cQ (cT (cb "list" ↥1)) [ae (.w (.d (.tuple [a8 ps,bK ns]))),ae (.w (.d d)),ah,ah,ah] n0 Q:=λb e Q q=>jC (k:=b) (λQ q=>aF (k:=b) (λQ q=>au rfl (show Q (.d (.bool (dQ "list" d))) n0 by rw[e];exact q)) q) q;cases d with
 |list rs=>
  obtain⟨hl,hr⟩:=th.2 rs rfl;refine bS (isi ai rfl) ?_;refine aE (bA (x:=dN (d8 ps,ns) (A3 ns.length) ns.length) (λQ q=>cF (au rfl ⟨ps,ns,rfl,okp.1,pl.2.2.1,q⟩)) ?_);dsimp only[Al];refine aE ?_;unfold aW d5;refine au rfl ?_;dsimp only;refine eV (w8 ps ns rs n0) (λδ n I=>?_) (λe r δ n N I kN=>?_) _ _ _ ⟨(d8 ps,ns),A3 ns.length,ns.length,ah,ah,rfl,j6 pl hl,hr,rfl,rfl⟩
  ·obtain⟨s,nu,fr,x,y,rfl,_,_,hf,rfl⟩:=I;dsimp only;refine bc (aC ?_);rw[<-hf]at k;exact k
  ·obtain⟨s,nu,fr,x,y,rfl,I,hok,hf,rfl⟩:=I;rw[Am]at I;dsimp only[aI,Al];have oe:=hok e As;rw[u6]at hf;refine aE (bA (x:=ke ps s nu fr (d7 ps e)) (λQ q=>b7 (d4 (a:=a8 ps) rfl (au rfl (bG (d4 (a:=a8 ps) rfl (au rfl ⟨ps,e,rfl,oe,⟨ps,s,nu,fr,_,rfl,I.st okp,I.nk,q⟩⟩)))))) ?_);dsimp only[Al];cases ea:gR ps s.1 s.2 (d7 ps e)with
   |none=>
    rw[ea]at hf;have el:ke ps s nu fr (d7 ps e)=.none:=by unfold ke;rw[ea]
    rw[el];refine dj (λQ q=>k7 (λQ q=>aF (k:=ai) (λQ q=>ar (au rfl (aC q))) q) q) (aC ?_);rw[<-hf]at k;exact k
   |some t=>
    rw[ea]at hf;obtain⟨m,em,af⟩:=Gq.mp ea;obtain⟨eb,hm⟩:=qY em;have en:fq ps (d7 ps e)=m:=by unfold fq;rw[em];rfl
    rw[en]at hf;obtain⟨B,I2⟩:=I.step okp hm af;have el:ke ps s nu fr (d7 ps e)=.tuple [(aL ps s nu fr m).1,dN t (aL ps s nu fr m).2.1 (aL ps s nu fr m).2.2]:=by unfold ke;rw[ea,en]
    rw[el];obtain⟨q1,q2,q3⟩:=tV (I.rw B);have al:∀b,gq (aL ps s nu fr m).1 e=b->∀Q:Bool->Int->Prop,Q (!b) n->hU (cT (w2 ↥4 (wC .none) (bJ aj))) (cQ (cT (aH (ka 6) (aq (w2 ↥4 ⇑0 aA) (aq ↥3 ao))))) [ae (.w (.d (.tuple [a8 ps,bK ns]))),ae (.w (.d (.list rs))),ae (.w (.d (dN s nu fr))),ae (.w (.d e)),ae (.w (.d (.tuple [(aL ps s nu fr m).1,dN t (aL ps s nu fr m).2.1 (aL ps s nu fr m).2.2])))] n Q:=λb eb Q q=>
     gH (λQ q=>aF (k:=aj) (λQ q=>ar (au rfl (aC q))) q) (jC (k:=b) (λQ q=>aF (k:=b) (λQ q=>bG (ar (au rfl (aC (bO (au rfl ⟨_,e,rfl,q2,q1,oe.1,A2 q3.2.1 ∎,q3.1,oe.lay,oe.dep,by rw[eb];exact q⟩)))))) q) q)
    have hf:(gq (aL ps s nu fr m).1 e&&iC ps t (aL ps s nu fr m).2.1 (aL ps s nu fr m).2.2 r)=fK ps ns (.list rs):=hf;cases ee:gq (aL ps s nu fr m).1 e with
    |false=>
     rw[ee]at hf;refine dj (al aj ee) (aC ?_);rw[<-hf]at k;exact k
    |true=>
     rw[ee,Fo]at hf;refine bS (al ai ee) ?_;refine bA (x:=dN t (aL ps s nu fr m).2.1 (aL ps s nu fr m).2.2) (λQ q=>ar (au rfl (aC (cV q)))) (kN _ _ ?_);exact⟨t,_,_,_,_,rfl,I2,λz hz=>hok z (Ar _ hz),hf,rfl⟩
 |dict kvs=>
  have:=th.1.1;rw[cg]at this;cases this
 |_=>exact dj (isi aj rfl) (aC k)
theorem tE(h:SmlA d)(k:Q (.d (.str d.shown)) n):lX [.d d] n Q:=⟨h,k⟩
theorem okTh.sml(h:okTh d):SmlA d:=by
 have h2:Small d:=Sm.small (show Sm 8 900000 d from h.1.2) ∎ ∎;exact⟨h2.1,h2.2.1,h2.2.2.2.2,h2.len⟩
theorem LN(k:Q (.d (.bool ai)) n):aT (.d (.str x)) (.d (.str x)) n Q:=by
 show Q (.d (.bool (decide (x=x)))) n;rw[decide_eq_true rfl];exact k
def V0(d:Aa):Prop:=cg d=ai/\Sm 0 20 d
def V1(d:Aa):Prop:=cg d=ai/\Sm 1 1302 d
def Ye(d:Aa):Prop:=cg d=ai/\Sm 4 3000 d
theorem V0.ye(h:V0 d):Ye d:=⟨h.1,h.2.up ∎ ∎⟩
theorem V1.ye(h:V1 d):Ye d:=⟨h.1,h.2.up ∎ ∎⟩
theorem Pn.ye(h:Pn d):Ye d:=⟨h.sf,h.sm.up ∎ ∎⟩
theorem jw(h0:-2<=i)(h1:i<=99):V0 (.int i):=by
 refine⟨by rw[cg,Bf];exact⟨decide_eq_true h0,decide_eq_true ⋯⟩,?_⟩;by_cases h:0<=i
 ·exact pI (iY h h1)
 ·have:i=-1\/i=-2:=by omega
  rcases this with rfl|rfl
  ·exact⟨by decide,by decide,by decide,by decide,by decide⟩
  ·exact⟨by decide,by decide,by decide,by decide,by decide⟩
theorem oQ(b):V0 (.bool b):=⟨by rw[cg],by cases b<;>exact⟨by decide,by decide,by decide,by decide,by decide⟩⟩
theorem v0_none:V0 .none:=⟨by rw[cg],sm_none⟩
theorem tT(h:cz d=ai):V0 d:=⟨CI h,pI h⟩
theorem CU(h:ft d):V0 d:=⟨Io h,zB h⟩
theorem jB(h:∀x∈xs,V0 x)(hl:xs.length<=62):V1 (.tuple xs):=⟨lj λx hx=>(h x hx).1,jZ (k:=0) (w:=20) (m:=62) (λx hx=>(h x hx).2) hl⟩
theorem xR(h:∀x∈xs,V0 x)(hl:xs.length<=62):V1 (.list xs):=⟨rN λx hx=>(h x hx).1,sM (k:=0) (w:=20) (m:=62) (λx hx=>(h x hx).2) hl⟩
theorem qU{P:Aa->Prop}(ha:P a)(hb:P b)(hx:x∈[a,b]):P x:=by
 simp only[Ao,Aq,or_false]at hx;rcases hx with rfl|rfl
 ·exact ha
 ·exact hb
theorem l8(ha:V1 a)(hb:V0 b):Ye (.tuple [a,b]):=by
 have hb':V1 b:=⟨hb.1,hb.2.up ∎ ∎⟩;exact⟨lj λx hx=>(qU (P:=V1) ha hb' hx).1,(jZ (k:=1) (w:=1302) (m:=2) (λx hx=>(qU (P:=V1) ha hb' hx).2) (An _)).up ∎ ∎⟩
theorem Pz(ha:V1 a)(hb:V0 b):Ye (.list [a,b]):=by
 have hb':V1 b:=⟨hb.1,hb.2.up ∎ ∎⟩;exact⟨rN λx hx=>(qU (P:=V1) ha hb' hx).1,(sM (k:=1) (w:=1302) (m:=2) (λx hx=>(qU (P:=V1) ha hb' hx).2) (An _)).up ∎ ∎⟩
theorem kH(h:∀x∈xs,Ye x)(hl:xs.length<=6):okY (.tuple xs):=⟨lj λx hx=>(h x hx).1,(jZ (k:=4) (w:=3000) (m:=6) (λx hx=>(h x hx).2) hl).up ∎ ∎⟩
theorem KZ(h:∀x∈xs,Ye x)(hl:xs.length<=6):okY (.list xs):=⟨rN λx hx=>(h x hx).1,(sM (k:=4) (w:=3000) (m:=6) (λx hx=>(h x hx).2) hl).up ∎ ∎⟩
def Tk(h:Str)(d:Aa):Prop:=d=.none\/(∃i:Nat,d=.int i/\i<=90)\/(h="lays"/\∃q,kh q/\d=bI q)\/(h≠"lays"/\∃l:List Nat,d=.tuple (aD l)/\l.length<=60/\∀i∈l,i<=90)
theorem K5(h:hV d):∃(x:Str)(r:List Aa),d=.tuple (.str x::r)/\1<=r.length/\r.length<=3/\(∀y∈r,Tk x y)/\∀y∈(Co x::r),Ye y:=by
 obtain⟨x0,b0,r0,e0,hr0,hp0⟩:=wF h;have key:∃(x:Str)(r:List Aa),d=.tuple (.str x::r)/\1<=r.length/\r.length<=3/\∀y∈r,Tk x y:=by
  rcases h with⟨m,k,q,rfl,hm,hk,hq⟩|⟨x,m,g,rfl,hx,hm,hg⟩|⟨m,rfl,hm⟩|⟨l,rfl,hl,hi⟩
  ·refine⟨_,_,rfl,by simp,by simp,λy hy=>?_⟩;simp only[Ao,Aq,or_false]at hy;rcases hy with rfl|rfl|rfl
   ·exact .inr (.inl ⟨m,rfl,hm⟩)
   ·exact .inr (.inl ⟨k,rfl,hk⟩)
   ·exact .inr (.inr (.inl ⟨rfl,q,hq,rfl⟩))
  ·refine⟨_,_,rfl,by simp,by simp,λy hy=>?_⟩;simp only[Ao,Aq,or_false]at hy;rcases hy with rfl|rfl
   ·exact .inr (.inl ⟨m,rfl,hm⟩)
   ·cases g with
    |none=>exact .inl rfl
    |some i=>exact .inr (.inl ⟨i,rfl,hg i rfl⟩)
  ·refine⟨_,_,rfl,by simp,by simp,λy hy=>?_⟩;simp only[Ao,Aq,or_false]at hy;subst hy;exact .inr (.inl ⟨m,rfl,hm⟩)
  ·refine⟨_,_,rfl,by simp,by simp,λy hy=>?_⟩;simp only[Ao,Aq,or_false]at hy;subst hy;exact .inr (.inr (.inr ⟨by decide +kernel,l,rfl,hl,hi⟩))
 obtain⟨x,r,e,h1,h2,h3⟩:=key;refine⟨x,r,e,h1,h2,h3,λy hy=>?_⟩;rw[e0]at e;have:=Ft e;rw[<-this]at hy;exact(hp0 y hy).ye
theorem j5:∀x∈bF xs a b,x∈xs:=λx hx=>E6 (Du hx)
theorem iz(xs:List Aa)(a b):(bF xs a b).length<=xs.length:=by
 unfold bF;rw[Bn,Br];omega
section
variable{δ:Sl}{n:Int}{Q:DQ}{w:DT}{ds:List Aa}
theorem z0(hw:∀Q:DQ,Q (.d (.tuple ds)) n->w δ n Q)(k:Q (.d (.tuple (bF ds (ae 1) ah))) n):cC w (cf (wC (.int 1))) cm δ n Q:=by
 unfold cC;refine hw _ ?_;exact k
theorem Od(hw:∀Q:DQ,Q (.d (.tuple ds)) n->w δ n Q)(k:Q (.d (.tuple (bF ds ah (ae (-1))))) n):cC w cm (cf (cx (wC (.int 1)))) δ n Q:=by
 unfold cC;refine hw _ ?_;exact k
theorem LI(hw:∀Q:DQ,Q (.d (.tuple ds)) n->w δ n Q)(k:Q (.d (.tuple (bF ds ah (ae 1)))) n):cC w cm (cf (wC (.int 1))) δ n Q:=by
 unfold cC;refine hw _ ?_;exact k
theorem oD(k:Q (.d (.list xs)) n):gG [.d (.tuple xs)] n Q:=k
theorem Ny(hl:a.length+b.length<=1000)(k:Q (.d (.list (a++b))) n):dP (.d (.list a)) (.d (.list b)) n Q:=⟨eF hl,k⟩
end
theorem hX{P:Aa->Prop}{a b:List Aa}(ha:∀x∈a,P x)(hb:∀x∈b,P x):∀x∈a++b,P x:=λx hx=>(Bc.mp hx).elim (ha x) (hb x)
theorem ir{P:Aa->Prop}(ha:P a):∀x∈[a],P x:=λx hx=>by rw[Bj.mp hx];exact ha
theorem yo(h:lK x=ai)(h2:(decide (x.length<=8)&&E5 x)=ai):Ye (.str x):=(oS h h2).ye
theorem v7:V0 (.str "a"):=tT ∅
def Ev(w:DT)(δ:Sl)(n:Int)(x:Aa):Prop:=∀Q:DQ,Q (.d x) n->w δ n Q
def pV(w:fw)(δ:Sl)(n:Int)(xs:List Aa):Prop:=∀Q:List Wv->Int->Prop,Q (xs.map .d) n->w δ n Q
theorem wW:∀xs:List Aa,iq (xs.map Wv.d)=ae xs
 |[]=>rfl
 |x::r=>by rw[Bb,iq,wW r];rfl
section
variable{δ:Sl}{n:Int}{w w':DT}{ws:fw}{x y:Aa}{xs ys:List Aa}
theorem dU:pV ao δ n []:=λQ q=>q
theorem bR(h:Ev w δ n x)(hr:pV ws δ n xs):pV (aq w ws) δ n (x::xs):=λQ q=>h _ (hr _ q)
theorem iy(h:pV ws δ n xs)(hl:xs.length<=1000:=by exact C4 rfl):Ev (aZ (aN ws)) δ n (.list xs):=λQ q=>by
 refine bb (h _ ?_);rw[wW];exact⟨hl,q⟩
theorem gj(h:pV ws δ n xs)(hl:xs.length<=1000:=by exact C4 rfl):Ev (aw ws) δ n (.tuple xs):=λQ q=>by
 refine h _ ?_;rw[wW];exact⟨hl,q⟩
theorem dR(e:δ[i]?=ae (ae (.w (.d x))):=by rfl):Ev (ak i) δ n x:=λQ q=>au e q
theorem eR:Ev (wC x) δ n x:=λQ q=>q
theorem oY(h:Ev w δ n (.tuple xs))(h':Ev w' δ n (.tuple ys))(hl:xs.length+ys.length<=1000000):Ev (w2 w w' cY) δ n (.tuple (xs++ys)):=λQ q=>h _ (h' _ (gE hl q))
theorem wG(h:Ev w δ n (.tuple (x::xs))):Ev (w2 w ⇑0 aA) δ n x:=λQ q=>h _ (bO q)
theorem vO(h:Ev w δ n (.tuple (x::y::xs))):Ev (w2 w ⇑1 aA) δ n y:=λQ q=>h _ (cV q)
theorem NC(h:Ev w δ n (.tuple xs))(e:cX xs (-1)=ae x):Ev (w2 w (cx ⇑1) aA) δ n x:=λQ q=>h _ (show(match cX xs (-1)with|some d=>Q (.d d) n|none=>False) by rw[e];exact q)
theorem sA(h:Ev w δ n (.tuple xs)):Ev (wB gG (aq w ao)) δ n (.list xs):=λQ q=>aU (h _ (oD q))
theorem JQ(h:Ev w δ n (.tuple xs)):Ev (cC w (cf ⇑1) cm) δ n (.tuple (bF xs (ae 1) ah)):=λQ q=>z0 h q
theorem DY(h:Ev w δ n (.tuple xs)):Ev (cC w cm (cf (cx ⇑1))) δ n (.tuple (bF xs ah (ae (-1)))):=λQ q=>Od h q
theorem IG(h:Ev w δ n (.tuple xs)):Ev (cC w cm (cf ⇑1)) δ n (.tuple (bF xs ah (ae 1))):=λQ q=>LI h q
theorem LD(h:Ev w δ n (.tuple xs)):Ev (jK w) δ n (.tuple xs.reverse):=λQ q=>h _ q
theorem sv(h:Ev w δ n (.list xs))(h':Ev w' δ n (.list ys))(hl:xs.length+ys.length<=1000):Ev (w2 w w' dP) δ n (.list (xs++ys)):=λQ q=>h _ (h' _ (Ny hl q))
end
theorem QF{xs:List Aa}(h:xs≠[]):∃x∈xs,cX xs (-1)=ae x:=by
 have hl:0 < xs.length:=List.length_pos_iff.mpr h;refine⟨xs[xs.length-1],Cg _,?_⟩;have e:fc xs.length (-1)=ae (xs.length-1):=by
  unfold fc;rw[if_neg ⋯,if_pos ⋯]
  congr 1
  omega
 unfold cX;rw[e];exact Af _
def sr(d:Aa):Prop:=d=.none\/(∃i,d=.int i)\/∃x,d=.str x
open Classical in
def tF(d:Aa):Bool:=decide (d=.int 1)
open Classical in
theorem uX(h:Ev w δ n v)(hv:sr v):Ev (w2 w ⇑1 aT) δ n (.bool (tF v)):=λQ q=>h _ (by
 unfold tF at q;rcases hv with rfl|⟨i,rfl⟩|⟨x,rfl⟩
 ·rw[decide_eq_false (λz=>nomatch z)]at q;exact q
 ·refine show aT (.d (.int i)) (.d (.int 1)) n Q from qw ?_
  rw[show decide (i=1)=decide (Cp i=.int 1)from decide_eq_decide.mpr ⟨λz=>by rw[z],λz=>PyData.int.inj z⟩];exact q
 ·rw[decide_eq_false (λz=>nomatch z)]at q;exact q)
theorem Rx(h:cz v=ai):sr v:=by
 cases v with
 |int i=>exact .inr (.inl ⟨i,rfl⟩)
 |str x=>exact .inr (.inr ⟨x,rfl⟩)
 |_=>cases h
theorem Qy(h:ft v):sr v:=by
 rcases h with rfl|⟨i,rfl,_⟩
 ·exact .inl rfl
 ·exact .inr (.inl ⟨i,rfl⟩)
abbrev jr(ds:List Aa)(w x y z:Option SV):Sl:=[ae (.w .tp),ae (.w (.d (.tuple ds))),w,x,y,z]
theorem Qc{ds:List Aa}(hd:∀x∈ds,Ye x)(hl:ds.length<=4)(ha:a < ds.length)(ht:Ye t)(k:∀(d:Aa) (n':Int),okY d->n'<=n0->Q (.d d) n')(hn:n<=n0):
  w2 (w2 (cC ↥1 cm (cf ↥3)) (aw (aq ↥4 ao)) cY) (cC ↥1 (cf (w2 ↥3 ⇑1 (bY λi j=>.int (i+j)))) cm) cY (jr ds w (ae (.w (.d (.int a)))) (ae (.w (.d t))) z) n Q:=by
 refine ar (ar (mR (p:=a) (ds:=ds) (λQ q=>au rfl q) (λQ q=>au rfl q) ⋯ (jM (au rfl (Aj (show 1<=1000 by decide) (gE (by rw[Bn];show _+1<=_;omega) (m9 (p:=a+1) (ds:=ds) (λQ q=>au rfl q) (λQ q=>ar (au rfl (aC (dA (by rw[show((a:Int)+1)=((a+1:Nat):Int) by omega];exact q))))) ⋯ (gE ?_ (k _ _ (kH ?_ ?_) hn))))))) ))
 ·rw[Ai,Bn,Br];show _+1+_<=_;omega
 ·exact hX (hX (λx hx=>hd x (Du hx)) (ir ht)) λx hx=>hd x (E6 hx)
 ·rw[Ai,Ai,Bn,Br];show _+1+_<=_;omega
abbrev Nq:aP:=(av (aB 5 (aZ (aN (aq (aw (aq (w2 ↥4 ⇑0 aA) (aq ⇑1 ao))) (aq (aw (aq (w2 ↥4 ⇑0 aA) (aq (wC .none) ao))) (aq (aw (aq (w2 (w2 ↥4 ⇑0 aA) (aw (aq (wC (.str "a")) ao)) cY) (aq (w2 ↥4 ⇑1 aA) ao))) (aq (aw (aq (wB gG (aq (w2 ↥4 ⇑0 aA) ao)) (aq (w2 ↥4 ⇑1 aA) ao))) (aq (wB gG (aq ↥4 ao)) ao)))))))) (av (aB 5 (w2 ↥5 (aZ (aN (aq (aw (aq (w2 (cC (w2 ↥4 ⇑0 aA) cm (cf (cx ⇑1))) (aw (aq (w2 (w2 (w2 ↥4 ⇑0 aA) (cx ⇑1) aA) ⇑1 aT) ao)) cY) (aq (w2 ↥4 ⇑1 aA) ao))) (aq (aw (aq (w2 ↥4 ⇑0 aA) (aq (w2 (w2 ↥4 ⇑1 aA) ⇑1 aT) ao))) ao)))) dP)) (aB 4 (w2 ↥5 (aH cy (aq ↥0 (aq ⇑7 ao))) aA))))
abbrev xi:aP:=(av (aB 5 (aZ (aN (aq (w2 ↥4 (aw (aq ⇑0 ao)) cY) (aq (cC ↥4 (cf ⇑1) cm) (aq (wB gG (aq ↥4 ao)) (aq (jK ↥4) (aq (w2 ↥4 (cC ↥4 cm (cf ⇑1)) cY) ao)))))))) (aB 4 (w2 (w2 ↥5 (aZ (aN (aq (wB dY (aq (aZ (cL [ah] (eQ ↥4) (aI 0) cG (w2 ↥0 ⇑1 aT))) ao)) ao))) dP) (aH cy (aq ↥0 (aq ⇑6 ao))) aA)))
theorem SW(h:kh q)(hn:n < 2 ^ 40)(k:∀(t z:Aa),Ye t->K.nx (jr ds w a (ae (.w (.d t))) (ae (.w (.d z)))) (n+1)):Nq (jr ds w a (ae (.w (.d (bI q)))) ah) n K:=by
 obtain⟨⟨⟨h4,h1⟩,hv⟩,hg⟩:=h;have hv0:∀x∈q.1,V0 x:=λx hx=>tT (hv x hx);have hg0:V0 q.2:=CU hg;have ne:q.1≠[]:=λz=>by rw[z]at h1;exact absurd h1 ∎
 obtain⟨l,hl,el⟩:=QF ne;have r0:∀{δ:Sl}{n:Int},δ[4]?=ae (ae (.w (.d (bI q))))->Ev (w2 ↥4 ⇑0 aA) δ n (.tuple q.1):=λe=>wG (dR e);have r1:∀{δ:Sl}{n:Int},δ[4]?=ae (ae (.w (.d (bI q))))->Ev (w2 ↥4 ⇑1 aA) δ n q.2:=λe=>vO (dR e);have y0:V1 (.tuple q.1):=jB hv0 ⋯;refine aE (bA (iy (bR (gj (bR (r0 rfl) (bR eR dU))) (bR (gj (bR (r0 rfl) (bR eR dU))) (bR (gj (bR (oY (r0 rfl) (gj (bR eR dU)) (by show _+1<=_;omega)) (bR (r1 rfl) dU))) (bR (gj (bR (sA (r0 rfl)) (bR (r1 rfl) dU))) (bR (sA (dR (x:=bI q))) dU)))))) ?_);dsimp only[Al];refine aE (bA (sv dR (iy (bR (gj (bR (oY (DY (r0 rfl)) (gj (bR (uX (NC (r0 rfl) el) (Rx (hv l hl))) dU)) ?_) (bR (r1 rfl) dU))) (bR (gj (bR (r0 rfl) (bR (uX (r1 rfl) (Qy hg)) dU))) dU))) (C4 rfl)) ?_)
 ·have:=iz q.1 ah (ae (-1));show _+1<=_;omega
 dsimp only[Al];refine ar (au rfl (gn (m:=7) rfl hn ∎ ∎ λp p0 p1=>i7 p0 p1 λd hd=>?_));refine k d _ ?_;simp only[Bc,Ao,Aq,or_false]at hd;rcases hd with(rfl|rfl|rfl|rfl|rfl)|rfl|rfl
 ·exact l8 y0 (jw ∎ ∎)
 ·exact l8 y0 v0_none
 ·exact l8 (jB (hX hv0 (ir v7)) (by rw[Ai];show _+1<=_;omega)) hg0
 ·exact l8 (xR hv0 ⋯) hg0
 ·exact Pz y0 hg0
 ·exact l8 (jB (hX (λx hx=>hv0 x (j5 x hx)) (ir (oQ _))) (by have:=iz q.1 ah (ae (-1));rw[Ai];show _+1<=_;omega)) hg0
 ·exact l8 y0 (oQ _)
theorem L1(xs):(bF xs ah (ae 1)).length<=1:=by
 unfold bF;rw[Bn];have:HT.sIx xs.length xs.length (ae 1)<=1:=by
  rw[show(1:Int)=((1:Nat):Int)from rfl,HT.sIx_nat];omega
 omega
theorem Q3(hl:l.length<=60)(hi:∀i∈l,i<=90)(hn:n < 2 ^ 40)(k:∀(t z:Aa),Ye t->K.nx (jr ds w a (ae (.w (.d t))) (ae (.w (.d z)))) (n+1)):xi (jr ds w a (ae (.w (.d (.tuple (aD l))))) ah) n K:=by
 have hv0:∀x∈aD l,V0 x:=λx hx=>by
  obtain⟨i,hi',rfl⟩:=A7.mp hx;have:=hi i hi';exact jw ⋯ ⋯
 have hlen:(aD l).length<=60:=by unfold aD;rw[Ab];exact hl
 refine aE (bA (iy (bR (oY (dR (x:=.tuple (aD l))) (gj (bR eR dU)) (by show _+1<=_;omega)) (bR (JQ (dR (x:=.tuple (aD l)))) (bR (sA (dR (x:=.tuple (aD l)))) (bR (LD (dR (x:=.tuple (aD l)))) (bR (oY (dR (x:=.tuple (aD l))) (IG (dR (x:=.tuple (aD l)))) (by have:=iz (aD l) ah (ae 1);omega)) dU)))))) ?_);dsimp only[Al];have hc:∀{δ:Sl}{n:Int},δ[4]?=ae (ae (.w (.d (.tuple (aD l)))))->Ev (wB dY (aq (aZ (cL [ah] (eQ ↥4) (aI 0) cG (w2 ↥0 ⇑1 aT))) ao)) δ n (.tuple ((aD l).map λd=>.bool (tF d))):=λ{δ n} e Q q=>by
  refine aU (bb (jA (λQ q=>au e q) ?_));refine xC sr (λd=>.bool (tF d)) (λd n Q' hd q=>uX (dR rfl) hd Q' q) _ [] _ n (λd hd=>?_) (show dY [.d (.list _)] n Q from q);obtain⟨i,_,rfl⟩:=A7.mp hd;exact .inr (.inl ⟨_,rfl⟩)
 refine ar (sv dR (iy (bR (hc rfl) dU)) (C4 rfl) _ ?_);refine gn (m:=6) rfl hn ∎ ∎ λp p0 p1=>i7 p0 p1 λd hd=>?_;refine k d _ ?_;simp only[Bc,Ao,Aq,or_false]at hd;rcases hd with(rfl|rfl|rfl|rfl|rfl)|rfl
 ·exact(jB (hX hv0 (ir (jw ∎ ∎))) (by rw[Ai];show _+1<=_;omega)).ye
 ·exact(jB (λx hx=>hv0 x (j5 x hx)) (by have:=iz (aD l) (ae 1) ah;omega)).ye
 ·exact(xR hv0 ⋯).ye
 ·exact(jB (λx hx=>hv0 x (List.mem_reverse.mp hx)) (by rw[Ge];omega)).ye
 ·exact(jB (hX hv0 λx hx=>hv0 x (j5 x hx)) (by rw[Ai];have:=L1 (aD l);omega)).ye
 ·exact(jB (λx hx=>by obtain⟨y,_,rfl⟩:=A7.mp hx;exact oQ _) (by rw[Ab];omega)).ye
theorem OD:bV vV FQ ["_law_tape_here","_law_row_here","_law_way","_law_at","_law_thing","_law_some"]:=λws n Q h=>by
 obtain⟨row,rfl,rs,hn,k⟩:=h;obtain⟨x,r,rfl,hr1,hr3,htk,hye⟩:=K5 rs;show FQ (jr (.str x::r) ah ah ah ah) n _;have hl4:(Co x::r).length<=4:=by rw[Am];omega
 have hl2:2<=(Co x::r).length:=by rw[Am];omega
 refine aE (oJ (m:=6) rfl ⋯ ∎ ∎ λw w0 w1=>?_);dsimp only[Al];have eqw:∀(j:Int) b,decide (w=j)=b->∀Q:Bool->Int->Prop,Q b (n+1)->cT (w2 ↥2 (wC (.int j)) aT) (jr (.str x::r) (ae (.w (.d (.int w)))) ah ah ah) (n+1) Q:=λj b e Q q=>aF (k:=b) (λQ q=>ar (au rfl (aC (qw (by rw[e];exact q))))) q;by_cases e0:w=0
 ·refine dj (eqw 0 ai (decide_eq_true e0)) ?_;refine ar (jM (ar (bb (Aj ∎ ?_))));dsimp only;refine gn (m:=6) rfl ⋯ ∎ ∎ λq q0 q1=>i7 (ds:=[.str "lays",.str "takes",.str "reads",.str "looks",.str "goes",.str "clock"]) q0 q1 λd hd=>?_;have hy:Ye d:=by
   simp only[Ao,Aq,or_false]at hd;rcases hd with rfl|rfl|rfl|rfl|rfl|rfl<;>exact yo ∅ ∅
  refine Aj (show 1<=1000 by decide) (z0 (ds:=.str x::r) (λQ q=>au rfl q) (gE ?_ (k _ _ (kH (hX (ir hy) λy hy=>hye y (j5 y hy)) ?_) ⋯)))
  ·have:=iz (.str x::r) (ae 1) ah;show 1+_<=_;omega
  ·have:=iz (.str x::r) (ae 1) ah;rw[Ai];show 1+_<=_;omega
 refine bS (eqw 0 aj (decide_eq_false e0)) ?_;by_cases e1:w=1
 ·refine dj (eqw 1 ai (decide_eq_true e1)) ?_;have hx:∀{δ:Sl}{n:Int},δ[1]?=ae (ae (.w (.d (.tuple (.str x::r)))))->Ev ↥1 δ n (.tuple (.str x::r)):=λe=>dR e;refine ar (iy (bR (oY (hx rfl) (gj (bR eR dU)) (by show _+1<=_;omega)) (bR (DY (hx rfl)) (bR (sA (hx rfl)) (bR (IG (hx rfl)) dU)))) (by simp) _ ?_);refine gn (m:=4) rfl ⋯ ∎ ∎ λq q0 q1=>i7 q0 q1 λd hd=>k d _ ?_ ⋯;simp only[Ao,Aq,or_false]at hd;rcases hd with rfl|rfl|rfl|rfl
  ·exact kH (hX hye (ir (jw ∎ ∎).ye)) (by rw[Ai];show _+1<=_;omega)
  ·exact kH (λy hy=>hye y (j5 y hy)) (by have:=iz (.str x::r) ah (ae (-1));omega)
  ·exact KZ hye ⋯
  ·exact kH (λy hy=>hye y (j5 y hy)) (by have:=iz (.str x::r) ah (ae 1);omega)
 refine bS (eqw 1 aj (decide_eq_false e1)) ?_;refine aE (show aB 3 _ _ _ _ from ar (aC (iI (m:=((Co x::r).length:Int)-1) rfl (λQ q=>ar (aU (au rfl (o3 (aC q))))) ⋯ ⋯ ⋯ λp p0 p1=>?_)));obtain⟨a,ea⟩:∃a:Nat,(1:Int)+p=a:=⟨(1+p).toNat,by omega⟩;refine dA ?_;rw[ea];dsimp only[Al];have ha1:1<=a:=by omega
 have ha:a < (Co x::r).length:=by omega
 obtain⟨t,et⟩:∃t,(Co x::r)[a]?=ae t:=⟨_,Af ha⟩;have htr:t∈r:=by
  obtain⟨b,rfl⟩:∃b,a=b+1:=⟨a-1,by omega⟩;rw[Gt]at et;exact A4 et
 refine aE (bA (x:=t) (λQ q=>ar (au rfl (au rfl (bN et q)))) ?_);dsimp only[Al];have isn:∀b,gc t=b->∀Q:Bool->Int->Prop,Q b (n+1+1)->cT (w2 ↥4 (wC .none) (bJ aj)) (jr (.str x::r) (ae (.w (.d (.int w)))) (ae (.w (.d (.int a)))) (ae (.w (.d t))) ah) (n+1+1) Q:=λb e Q q=>aF (k:=b) (λQ q=>ar (au rfl (aC (show Q (.d (.bool (gc t))) _ by rw[e];exact q)))) q;have isi:∀b,dQ "int" t=b->∀Q:Bool->Int->Prop,Q b (n+1+1)->cT (cb "int" ↥4) (jr (.str x::r) (ae (.w (.d (.int w)))) (ae (.w (.d (.int a)))) (ae (.w (.d t))) ah) (n+1+1) Q:=λb e Q q=>aF (k:=b) (λQ q=>au rfl (show Q (.d (.bool (dQ "int" t))) _ by rw[e];exact q)) q;have lay:∀b,decide (x="lays")=b->∀Q:Bool->Int->Prop,Q b (n+1+1)->cT (w2 (w2 ↥1 ⇑0 aA) (wC (.str "lays")) aT) (jr (.str x::r) (ae (.w (.d (.int w)))) (ae (.w (.d (.int a)))) (ae (.w (.d t))) ah) (n+1+1) Q:=λb e Q q=>aF (k:=b) (λQ q=>ar (ar (au rfl (aC (bO (aC (show aT (.d (.str x)) (.d (.str "lays")) _ Q from(show Q (.d (.bool (decide (x="lays")))) _ by rw[e];exact q)))))))) q;have fin:∀(t':Aa)(z:Option SV),Ye t'->w2 (w2 (cC ↥1 cm (cf ↥3)) (aw (aq ↥4 ao)) cY) (cC ↥1 (cf (w2 ↥3 ⇑1 (bY λi j=>.int (i+j)))) cm) cY (jr (.str x::r) (ae (.w (.d (.int w)))) (ae (.w (.d (.int a)))) (ae (.w (.d t'))) z) (n+1+1+1) Q:=λt' z ht=>Qc hye hl4 ha ht k ⋯;rcases htk t htr with rfl|⟨i,rfl,hi⟩|⟨rfl,q,hq,rfl⟩|⟨nl,l,rfl,hl,hi⟩
 ·-- None
  refine dj (isn ai rfl) ?_;refine ar (ar (mR (p:=a) (ds:=.str x::r) (λQ q=>au rfl q) (λQ q=>au rfl q) ⋯ (jM (ar (bb (Aj ∎ ?_))))));dsimp only;refine gn (m:=3) rfl ⋯ ∎ ∎ λq q0 q1=>i7 (ds:=[.int 0,.bool aj,.int 1]) q0 q1 λd hd=>?_;have hy:Ye d:=by
   simp only[Ao,Aq,or_false]at hd;rcases hd with rfl|rfl|rfl
   ·exact(jw ∎ ∎).ye
   ·exact(oQ _).ye
   ·exact(jw ∎ ∎).ye
  refine Aj (show 1<=1000 by decide) (gE (by rw[Bn];show _+1<=_;omega) (m9 (p:=a+1) (ds:=.str x::r) (λQ q=>au rfl q) (λQ q=>ar (au rfl (aC (dA (by rw[show((a:Int)+1)=((a+1:Nat):Int) by omega];exact q))))) ⋯ (gE ?_ (k _ _ (kH ?_ ?_) ⋯))))
  ·rw[Ai,Bn,Br];show _+1+_<=_;omega
  ·exact hX (hX (λx hx=>hye x (Du hx)) (ir hy)) λx hx=>hye x (E6 hx)
  ·rw[Ai,Ai,Bn,Br];show _+1+_<=_;omega
 ·-- a number
  refine bS (isn aj rfl) ?_;refine aE (bw (isi ai rfl) ?_);refine(show aB 4 _ _ _ _ from ar (iy (bR (x:=.int (i+1)) (λQ q=>ar (au rfl (aC (dA q)))) (bR (x:=.int (i-1)) (λQ q=>ar (au rfl (aC (show bY (λi j=>.int (i-j)) (.d (.int i)) (.d (.int 1)) _ Q from q)))) (bR (x:=.bool (decide ((i:Int) > 0))) (λQ q=>ar (au rfl (aC q))) (bR eR (bR eR dU))))) (C4 rfl) _ (gn (m:=5) rfl ⋯ ∎ ∎ λq q0 q1=>i7 q0 q1 λd hd=>?_)));dsimp only[Al];refine bc (fin d _ ?_);simp only[Ao,Aq,or_false]at hd;rcases hd with rfl|rfl|rfl|rfl|rfl
  ·exact(jw ⋯ ⋯).ye
  ·exact(jw ⋯ ⋯).ye
  ·exact(oQ _).ye
  ·exact v0_none.ye
  ·exact(jw ∎ ∎).ye
 ·-- a note
  refine bS (isn aj rfl) ?_;refine aE (aQ (isi aj rfl) (bw (lay ai (decide_eq_true rfl)) (SW hq ⋯ λt z ht=>?_)));dsimp only;refine bc ?_;exact fin t _ ht
 ·-- what the clock took
  refine bS (isn aj rfl) ?_;refine aE (aQ (isi aj rfl) (aQ (lay aj (decide_eq_false nl)) (Q3 hl hi ⋯ λt z ht=>?_)));dsimp only;refine bc ?_;exact fin t _ ht
theorem jU(h:∀r∈rs,okY r)(hl:rs.length<=40):okTh (.list rs):=
 ⟨⟨rN λx hx=>(h x hx).1,(sM (k:=6) (w:=20000) (m:=40) (λx hx=>(h x hx).2) hl).up ∎ ∎⟩,λrs' e=>by rw[<-PyData.list.inj e];exact⟨hl,h⟩⟩
theorem KI(h:∀r∈rs,okY r)(hl:rs.length<=40):okTh (.tuple rs):=
 ⟨⟨lj λx hx=>(h x hx).1,(jZ (k:=6) (w:=20000) (m:=40) (λx hx=>(h x hx).2) hl).up ∎ ∎⟩,λrs' e=>nomatch e⟩
theorem Ye.y(h:Ye d):okY d:=⟨h.1,h.2.up ∎ ∎⟩
theorem nV(h:okY d)(hn:∀rs,d≠.list rs):okTh d:=⟨⟨h.1,(show Sm 6 20000 d from h.2).up ∎ ∎⟩,λrs e=>absurd e (hn rs)⟩
theorem v1_e:V1 (.tuple []):=jB (λx hx=>absurd hx Aq) (Bm _)
theorem vM:okY (.tuple []):=v1_e.ye.y
theorem Rt:okY (.tuple [.str "clock",.tuple []]):=kH (λx hx=>by
 simp only[Ao,Aq,or_false]at hx;rcases hx with rfl|rfl
 ·exact yo ∅ ∅
 ·exact v1_e.ye) ∎
theorem JL:okY (.tuple [.str "goes",.int 0]):=kH (λx hx=>by
 simp only[Ao,Aq,or_false]at hx;rcases hx with rfl|rfl
 ·exact yo ∅ ∅
 ·exact(jw ∎ ∎).ye) ∎
theorem KG{n:Nat}(h0:-(n:Int)<=j)(h1:j < n):∃m:Nat,m < n/\fc n j=ae m:=by
 unfold fc;by_cases h:0<=j
 ·exact⟨j.toNat,by omega,by rw[if_pos h,if_pos h1]⟩
 ·exact⟨(j+n).toNat,by omega,by rw[if_neg h,if_pos h0]⟩
theorem xS(h:a < n):fc n (a:Int)=ae a:=by
 unfold fc;rw[if_pos ⋯,if_pos ⋯,Bi]
theorem vX{P:Aa->Prop}{l:List Aa}(h:∀y∈l,P y)(hx:P x):∀y∈l.set i x,P y:=λy hy=>by
 rcases List.mem_or_eq_of_mem_set hy with h1|rfl
 ·exact h y h1
 ·exact hx
section
variable{δ:Sl}{n:Int}{K:DEnds}{i j:Nat}{ds:List Aa}
theorem Qv(e:δ[j]?=ae (ae (.w (.d (.list ds)))))(k:K.nx (δ.set i (ae (.own ds))) n):bz i (jt (ak j)) δ n K:=by
 unfold bz jt ak;rw[e];exact k
theorem Qn{m:Nat}(e:δ[i]?=ae (ae (.own ds)))(ha:∀Q:DQ,Q (.d (.int m)) n->w δ n Q)(hm:m < ds.length)(k:K.nx (δ.set i (ae (.own (ds.eraseIdx m)))) n):qf i w δ n K:=by
 unfold qf;rw[e];exact ha _ ⟨m,rfl,hm,k⟩
theorem O6{a:Nat}(e:δ[i]?=ae (ae (.own ds)))(ha:∀Q:DQ,Q (.d (.int a)) n->wa δ n Q)(hb:∀Q:DQ,Q (.d d) n->wb δ n Q)(h:a<=ds.length/\ds.length < 1000)(k:K.nx (δ.set i (ae (.own (ds.take a++d::ds.drop a)))) n):iW i wa wb δ n K:=by
 unfold iW;rw[e];refine ha _ (hb _ ⟨⟨by omega,by omega,h.2⟩,?_⟩);rw[Bi];exact k
theorem VI(e:δ[i]?=ae (ae (.own ds)))(ha:a < ds.length)(k:w δ n λx n1=>∃d,x=.d d/\(∀Q:DQ,Q (.d (.int a)) n1->wj δ n1 Q)/\K.nx (δ.set i (ae (.own (ds.set a d)))) n1)(mono:∀P P':DQ,(∀x n,P x n->P' x n)->w δ n P->w δ n P'):fP i wj w δ n K:=by
 unfold fP;rw[e];refine mono _ _ (λx n1 h=>?_) k;obtain⟨d,rfl,hj,k⟩:=h;refine hj _ ?_;show match fc ds.length (a:Int)with|some m=>K.nx (δ.set i (ae (.own (ds.set m d)))) n1|none=>False
 rw[xS ha];exact k
theorem SH(h0:0<=r)(h1:r < (ds.length:Int))(k:∀d∈ds,Q (.d d) n):aX (.d (.list ds)) (.d (.int r)) n Q:=i7 h0 h1 k
theorem zf(hw:∀Q:DQ,Q x n->w δ n Q)(hx:fI x=ae ds)(hu:∀Q:DQ,Q (.d (.int a)) n->u δ n Q)(k:Q (.d (.list (bF ds ah (ae a)))) n):kO w cm (cf u) δ n Q:=by
 unfold kO;refine hw _ ?_;dsimp only[cm,cf];refine hu _ ?_;dsimp only;rw[hx];exact k
theorem Ll(hw:∀Q:DQ,Q x n->w δ n Q)(hx:fI x=ae ds)(hu:∀Q:DQ,Q (.d (.int a)) n->u δ n Q)(k:Q (.d (.list (bF ds (ae a) ah))) n):kO w (cf u) cm δ n Q:=by
 unfold kO;refine hw _ ?_;dsimp only[cm,cf];refine hu _ ?_;dsimp only;rw[hx];exact k
theorem OU(ha:∀Q:DQ,Q (.d (.list xs)) n->wa δ n Q)(hb:∀Q:DQ,Q (.d (.list ys)) n->wb δ n Q)(hl:xs.length+ys.length<=1000)(k:K.nx (δ.set i (ae (.own (xs++ys)))) n):bz i (ia wa wb) δ n K:=by
 unfold bz ia;exact ha _ (hb _ ⟨eF hl,k⟩)
end
abbrev qT(l m:List Aa)(o w a:Option SV):Sl:=[ae (.w .tp),ae (.w (.d (.list l))),ae (.w (.d (.list m))),o,w,a]
theorem RH:bV xG FW ["_law_tape_here","_law_log_here","_law_other","_law_rows","_law_way","_law_at"]:=λws n Q h=>by
 obtain⟨l,m,rfl,hl,hm,rl,rm,hn,k⟩:=h;show FW (qT l m ah ah ah) n _;have yl:∀r∈l,okY r:=λr hr=>vE (rl r hr);have ym:∀r∈m,okY r:=λr hr=>vE (rm r hr);refine aE (Qv rfl ?_);dsimp only[Al];refine aE (oJ (m:=10) rfl ⋯ ∎ ∎ λw w0 w1=>?_);dsimp only[Al];have emp:∀b,l.isEmpty=b->∀Q:Bool->Int->Prop,Q b (n+1)->cT (w2 (dM 3) (aZ (aN ao)) cn) (qT l m (ae (.own l)) (ae (.w (.d (.int w)))) ah) (n+1) Q:=λb e Q q=>aF (k:=b) (λQ q=>ar (gw rfl (bb (Aj (Bm _) (jk (by rw[e];exact q)))))) q;by_cases e:l=[]
 ·subst e;refine dj (emp ai rfl) ?_;refine ar (iy (bR (iy (bR (gj (bR eR (bR (gj dU) dU))) dU)) (bR (iy (bR (gj (bR eR (bR eR dU))) dU)) (bR (gj dU) (bR eR (bR (iy (bR (gj dU) dU)) dU))))) (C4 rfl) _ ?_);refine ar (au rfl (aC (Aj (show(0:Int) < 5 by decide) ?_)));refine(show aA _ _ _ _ from i7 (Eu _ ∎) (D5 _ ∎) λd hd=>k d _ ?_ ⋯);simp only[Ao,Aq,or_false]at hd;rcases hd with rfl|rfl|rfl|rfl|rfl
  ·exact jU (ir Rt) ∎
  ·exact jU (ir JL) ∎
  ·exact nV vM λrs z=>nomatch z
  ·exact nV v0_none.ye.y λrs z=>nomatch z
  ·exact jU (ir vM) ∎
 have hpos:0 < l.length:=List.length_pos_iff.mpr e;refine bS (emp aj (by cases l with|nil=>exact absurd rfl e|cons _ _=>rfl)) ?_;refine aE (show aB 5 _ _ _ _ from iI (m:=(l.length:Int)) rfl (λQ q=>aU (gw rfl (DU q))) ⋯ ⋯ ⋯ λp p0 p1=>?_);obtain⟨a,rfl⟩:∃a:Nat,p=a:=⟨p.toNat,by omega⟩;dsimp only[Al];have ha:a < l.length:=by omega
 obtain⟨t,et⟩:∃t,l[a]?=ae t:=⟨_,Af ha⟩;have ht:t∈l:=A4 et;have eqw:∀(j:Int) b,decide (w=j)=b->∀Q:Bool->Int->Prop,Q b (n+1+1)->cT (w2 ↥4 (wC (.int j)) cn) (qT l m (ae (.own l)) (ae (.w (.d (.int w)))) (ae (.w (.d (.int a))))) (n+1+1) Q:=λj b e Q q=>aF (k:=b) (λQ q=>ar (au rfl (aC (show aT (.d (.int w)) (.d (.int j)) _ Q from qw (by rw[e];exact q))))) q;have fin:∀(rows:List Aa)(n':Int),(∀r∈rows,okY r)->rows.length<=40->n'<=n+5->bH 3 (az ↥3) (qT l m (ae (.own rows)) (ae (.w (.d (.int w)))) (ae (.w (.d (.int a))))) n' {nx:=λ_ n=>Q (.d .none) n,rt:=Q}:=λrows n' h1 h2 h3=>gy rfl (bc (au rfl (k _ _ (jU h1 h2) h3)));have atl:∀(j:Int)(x:Aa),cX l j=ae x->∀Q:DQ,Q (.d x) (n+1+1)->aX (.ln l) (.d (.int j)) (n+1+1) Q:=λj x e Q q=>show(match cX l j with|some d=>Q (.d d) _|none=>False) by rw[e];exact q
 by_cases e0:w=0
 ·refine aE (bw (eqw 0 ai (decide_eq_true e0)) (Qn (m:=a) rfl (λQ q=>au rfl q) ha ?_));exact fin _ _ (λr hr=>yl r (List.mem_of_mem_eraseIdx hr)) (by rw[List.length_eraseIdx];split<;>omega) ⋯
 by_cases e1:w=1
 ·refine aE (aQ (eqw 0 aj (decide_eq_false e0)) (bw (eqw 1 ai (decide_eq_true e1)) (O6 (a:=a) (d:=t) rfl (λQ q=>au rfl q) (λQ q=>ar (gw rfl (au rfl (atl _ t (fG et) Q q)))) ⟨by omega,by omega⟩ ?_)));refine fin _ _ ?_ (by rw[Ai,Am,Bn,Br];omega) ⋯;intro r hr;rcases Bc.mp hr with h|h
  ·exact yl r (Du h)
  ·rcases Ao.mp h with rfl|h
   ·exact yl _ ht
   ·exact yl r (E6 h)
 by_cases e2:w=2
 ·refine aE (aQ (eqw 0 aj (decide_eq_false e0)) (aQ (eqw 1 aj (decide_eq_false e1)) (bw (eqw 2 ai (decide_eq_true e2)) ?_)));refine OU (λQ q=>zf (λQ q=>gw rfl q) rfl (λQ q=>au rfl q) q) (λQ q=>Ll (λQ q=>au rfl q) rfl (λQ q=>au rfl q) q) ?_ ?_
  ·have:=iz l ah (ae (a:Int));have:=iz m (ae (a:Int)) ah;omega
  ·exact fin _ _ (hX (λr hr=>yl r (j5 r hr)) λr hr=>ym r (j5 r hr)) (by rw[Ai];have:=iz l ah (ae (a:Int));have:=iz m (ae (a:Int)) ah;omega) ⋯
 by_cases e3:w=3
 ·refine aE (aQ (eqw 0 aj (decide_eq_false e0)) (aQ (eqw 1 aj (decide_eq_false e1)) (aQ (eqw 2 aj (decide_eq_false e2)) (bw (eqw 3 ai (decide_eq_true e3)) ?_))));obtain⟨b,hb,eb⟩:=KG (n:=l.length) (j:=(a:Int)-1) ⋯ ⋯;have exb:cX l ((a:Int)-1)=ae l[b]:=by unfold cX;rw[eb];exact Af hb
  have sub1:∀{δ:Sl}{n:Int},δ[5]?=ae (ae (.w (.d (.int a))))->∀Q:DQ,Q (.d (.int ((a:Int)-1))) n->w2 ↥5 ⇑1 (bY λi j=>.int (i-j)) δ n Q:=λe Q q=>ar (au e (aC q));refine(show uT 3 _ _ _ _ _ _ from gj (bR (x:=l[b]) (λQ q=>ar (gw rfl (sub1 rfl _ (atl _ _ exb _ q)))) (bR (x:=t) (λQ q=>ar (gw rfl (au rfl (atl _ t (fG et) _ q)))) dU)) (C4 rfl) _ ?_);refine⟨l,l[b],t,rfl,rfl,au rfl ⟨a,a,rfl,xS ha,sub1 rfl _ ⟨(a:Int)-1,b,rfl,eb,?_⟩⟩⟩;exact fin _ _ (vX (vX yl (yl _ (Cg _))) (yl _ ht)) (by rw[B1,B1];omega) ⋯
 by_cases e4:w=4
 ·refine aE (aQ (eqw 0 aj (decide_eq_false e0)) (aQ (eqw 1 aj (decide_eq_false e1)) (aQ (eqw 2 aj (decide_eq_false e2)) (aQ (eqw 3 aj (decide_eq_false e3)) (bw (eqw 4 ai (decide_eq_true e4)) ?_)))));refine gy rfl (bc ?_);dsimp only[Al];refine ar (iy (bR (x:=.tuple l) (λQ q=>aU (au rfl (kR q))) (bR (sv dR (iy (bR (gj dU) dU)) (by show _+1<=_;omega)) (bR (sv dR (iy (bR eR dU)) (by show _+1<=_;omega)) (bR (x:=.list (bF l ah (ae (a:Int)))) (λQ q=>zf (λQ q=>au rfl q) rfl (λQ q=>au rfl q) q) dU)))) (C4 rfl) _ ?_);refine gn (m:=4) rfl ⋯ ∎ ∎ λq q0 q1=>SH q0 q1 λd hd=>k d _ ?_ ⋯;simp only[Ao,Aq,or_false]at hd;rcases hd with rfl|rfl|rfl|rfl
  ·exact KI yl ⋯
  ·exact jU (hX yl (ir vM)) (by rw[Ai];show _+1<=_;omega)
  ·exact jU (hX yl (ir v0_none.ye.y)) (by rw[Ai];show _+1<=_;omega)
  ·exact jU (λr hr=>yl r (j5 r hr)) (by have:=iz l ah (ae (a:Int));omega)
 ·refine aE (aQ (eqw 0 aj (decide_eq_false e0)) (aQ (eqw 1 aj (decide_eq_false e1)) (aQ (eqw 2 aj (decide_eq_false e2)) (aQ (eqw 3 aj (decide_eq_false e3)) (aQ (eqw 4 aj (decide_eq_false e4)) ?_)))));show fP 3 _ _ _ _ _;unfold fP;refine bG (au rfl (ar (gw rfl (au rfl (atl _ t (fG et) _ ⟨t,rfl,rl t ht,by omega,λd n' hd hn'=>?_⟩)))));refine au rfl ?_;show match fc l.length (a:Int)with|some m=>_|none=>False
  rw[xS ha];exact fin _ _ (vX yl hd) (by rw[B1];omega) ⋯
theorem HX{ps:Pg}(hm:m<=ps.length):kJ ps (.int m)=ae m:=by rw[rL,if_pos ⟨by omega,by omega⟩,Bi]
theorem Hk{ps:Pg}(hm:m<=ps.length):gR ps hs ns (.int m)=cD ps hs ns m:=by unfold gR;rw[HX hm];rfl
theorem NI{ps:Pg}(hm:m<=ps.length):fq ps (.int m)=m:=by unfold fq;rw[HX hm];rfl
theorem Lv(B:okBd ps s t nu fr m):ke ps s nu fr (.int m)=.tuple [(aL ps s nu fr m).1,dN t (aL ps s nu fr m).2.1 (aL ps s nu fr m).2.2]:=by
 unfold ke;rw[Hk B.le,B.af,NI B.le]
theorem M9:∀ws n Q,t7 ws n Q->GX (iK ["plan","movers","board","log","place","mover","step"] ws) n {nx:=λ_ _=>False,rt:=λ_ _=>False,rn:=Q}:=λws n Q h=>by
 obtain⟨ps,ns,L,R,v,rfl,hv,ok,k⟩:=h;have hR:R.length<=1000:=by rw[sJ ok.2.2.2.2];have:=ok.2.2.2.1;omega
 have okp:=ok.1;show GX [ae (.w (.d (.tuple [a8 ps,bK ns]))),ae (.w (.d v)),ah,ah,ah,ah,ah] n _;refine aE (bA (λQ q=>cF (au rfl ⟨ps,ns,rfl,okp.1,ok.2.2.1.1,q⟩)) ?_);dsimp only[Al];refine aE (iM ?_);dsimp only[Al];refine aE ?_;unfold aW md;refine au rfl ⟨aD L,by rcases hv with rfl|rfl;exact .inl rfl;exact .inr rfl,?_⟩;refine eV (λds δ m=>m=n/\∃(j:Nat)(M:List Nat)(s:Sd)(nu:List Nat)(fr:Nat)(R0 R1:List Aa)(x4 x5 x6:Option SV),ds=ik j (aD M)/\δ=[ae (.w (.d (.tuple [a8 ps,bK ns]))),ae (.w (.d v)),ae (.w (.d (dN s nu fr))),ae (.own R0),x4,x5,x6]/\LgI ps R s nu fr M R0 R1) (λδ m I=>?_) (λd r δ m N I kN=>?_) _ _ _ ⟨rfl,0,L,_,_,_,[],R,ah,ah,ah,rfl,rfl,n8 ok⟩
 ·obtain⟨rfl,j,M,s,nu,fr,R0,R1,x4,x5,x6,ed,rfl,I⟩:=I;cases M with
  |nil=>
   cases I.lg;have e:=I.eq;rw[Bw]at e;dsimp only;show Q R0 m;rw[e];exact k
  |cons a M=>rw[AJ,nq]at ed;cases ed
 ·obtain⟨rfl,j,M,s,nu,fr,R0,R1,x4,x5,x6,ed,rfl,I⟩:=I;cases M with
  |nil=>cases ed
  |cons a M=>
   rw[AJ,nq]at ed;obtain⟨rfl,rfl⟩:=Ej ed;obtain⟨t,R2,B,J⟩:=I.step okp;refine⟨rfl,?_⟩;dsimp only[br,cv,aI,Al];refine aE (bA (x:=.tuple [(aL ps s nu fr a).1,dN t (aL ps s nu fr a).2.1 (aL ps s nu fr a).2.2]) (λQ q=>b7 (d4 rfl (au rfl (au rfl ⟨ps,s,nu,fr,.int a,rfl,B.st,B.nu,by rw[Lv B];exact q⟩)))) ?_);dsimp only[Al];refine aE (aQ (λQ q=>aF (k:=aj) (λQ q=>ar (au rfl (aC (gB q)))) q) ?_);dsimp only[aM];refine aE (jW rfl (λQ q=>d4 rfl q) (I.lt hR) ?_);dsimp only[Al];refine bA (λQ q=>dZ rfl q) ?_;dsimp only[Al];exact kN _ _ ⟨rfl,j+1,M,t,_,_,_,R2,_,_,_,by rw[show((j+1:Nat):Int)=(j:Int)+1 from rfl],rfl,J⟩
theorem UE:bV xa Ja ["programs","stand","movers","place","mover"]:=λws n Q h=>by
 obtain⟨ps,s,t,L,v,rfl,hv,okp,okh,okn,hl,hw,k⟩:=h;show Ja [ae (.w (.d (a8 ps))),ae (.w (.d (cM s))),ae (.w (.d v)),ah,ah] n _;refine aE ?_;unfold aW md;refine au rfl ⟨aD L,by rcases hv with rfl|rfl;exact .inl rfl;exact .inr rfl,?_⟩;refine eV (λds δ m=>m=n/\∃(j:Nat)(M:List Nat)(s:Sd)(x3 x4:Option SV),ds=ik j (aD M)/\δ=[ae (.w (.d (a8 ps))),ae (.w (.d (cM s))),ae (.w (.d v)),x3,x4]/\okHs ps s.1/\dg (100-M.length) s.2/\M.length<=40/\Wov ps s M t) (λδ m I=>?_) (λd r δ m N I kN=>?_) _ _ _ ⟨rfl,0,L,s,ah,ah,rfl,rfl,okh,okn,hl,hw⟩
 ·obtain⟨rfl,j,M,s,x3,x4,ed,rfl,okh,okn,hl,hw⟩:=I;cases hw with
  |nil=>
   dsimp only;exact bc (au rfl k)
  |cons hm ea hw=>
   rw[show ∀a M,aD (a::M)=.int a::aD M from λ_ _=>rfl,nq]at ed;cases ed
 ·obtain⟨rfl,j,M,s,x3,x4,ed,rfl,okh,okn,hl,hw⟩:=I;cases hw with
  |nil=>cases ed
  |@cons _ u _ a M hm ea hw=>
   rw[show ∀a M,aD (a::M)=.int a::aD M from λ_ _=>rfl,nq]at ed;obtain⟨rfl,rfl⟩:=Ej ed;rw[Am]at hl okn;obtain⟨k1,k2⟩:=tq okp okh okn hm ea;refine⟨rfl,?_⟩;dsimp only[br,cv,aI,Al];refine aE (bA (x:=cM u) (λQ q=>b7 (au rfl (au rfl (au rfl ⟨ps,s.1,s.2,.int a,rfl,⟨okp,okh,A2 okn.1 ⋯,okn.2⟩,by rw[Hk hm];show Q (.d (ie (cD ps s.1 s.2 a))) _;rw[ea];exact q⟩)))) ?_);dsimp only[Al];refine aQ (λQ q=>aF (k:=aj) (λQ q=>ar (au rfl (aC (gB q)))) q) ?_;dsimp only[aM];exact kN _ _ ⟨rfl,j+1,M,u,_,_,by rw[show((j+1:Nat):Int)=(j:Int)+1 from rfl],rfl,k1,⟨A2 k2.1 ⋯,k2.2⟩,by omega,hw⟩
theorem mX(h:nu.length=ns.length):(bC nu ns).length=nu.length:=by
 unfold bC;rw[List.length_zip,Ab,Ab];omega
theorem kl(h:nu.length=ns.length):(bC nu ns).map (·.1)=nu.map λi:Nat=>(i:Int):=by
 unfold bC;exact List.map_fst_zip (by rw[Ab,Ab];omega)
theorem j7(x)(nu)(q)(ns):bC (x::nu) (q::ns)=((x:Int),bI q)::bC nu ns:=rfl
theorem CY(h:nu.length=ns.length)(x:Nat)(q):bC (nu++[x]) (ns++[q])=bC nu ns++[((x:Int),bI q)]:=by
 unfold bC;rw[Bd,Bd,List.zip_append (by rw[Ab,Ab];exact h)];rfl
theorem OH(a b):de (a++b)=de a++de b:=by unfold de;rw[Bd]
theorem xx(nd:(ps.map (·.1)).Nodup)(h:(k,d)∈ps):bh (de ps) (.inl k)=ae d:=by
 induction ps with
 |nil=>cases h
 |cons p r ih=>
  rw[Bb,Ca]at nd;show bh ((Dt p.1,p.2)::de r) (.inl k)=ae d;rcases Ao.mp h with rfl|h
  ·unfold bh;simp
  ·have hne:¬p.1=k:=λz=>nd.1 (z▸List.mem_map_of_mem h);have:=ih nd.2 h;unfold bh at this ⊢;rw[List.find?_cons_of_neg (by simpa using hne)];exact this
theorem FR(h:k∉ps.map (·.1))(v):dD (de ps) (.inl k) v=de (ps++[(k,v)]):=by
 unfold dD;rw[if_neg,OH]
 ·rfl
 ·rw[Bool.not_eq_true,List.any_eq_false];intro x hx;obtain⟨p,hp,rfl⟩:=A7.mp hx;simp only[decide_eq_true_eq];exact λz=>h (A7.mpr ⟨p,hp,Sum.inl.inj z⟩)
theorem Py(h:k∈ps.map (·.1))(v):dD (de ps) (.inl k) v=de (ps.map λp=>if p.1=k then(p.1,v)else p):=by
 unfold dD;rw[if_pos]
 ·unfold de;rw[Bt,Bt];refine Ck λp hp=>?_;show(if (Dt p.1:aG)=.inl k then((Dt p.1:aG),v)else(Dt p.1,p.2))=((Dt (if p.1=k then(p.1,v)else p).1:aG),(if p.1=k then(p.1,v)else p).2);by_cases e:p.1=k
  ·rw[if_pos e,if_pos (by rw[e])]
  ·rw[if_neg e,if_neg λz=>e (Sum.inl.inj z)]
 ·rw[Dp];obtain⟨p,hp,rfl⟩:=A7.mp h;exact⟨_,A7.mpr ⟨p,hp,rfl⟩,by simp⟩
theorem MI(ps:List (Int×Aa))(k):pK (de ps) (.inl k)=de (ps.filter λp=>decide (p.1≠k)):=by
 unfold pK de;rw[List.filter_map]
 congr 1
 refine List.filter_congr λp _=>?_;show decide ((Dt p.1:aG)≠.inl k)=decide (p.1≠k);exact decide_eq_decide.mpr ⟨λz q=>z (by rw[q]),λz q=>z (Sum.inl.inj q)⟩
theorem BO(f)(g):∀(nu:List Nat)(ns:List Nt),nu.length=ns.length->(∀(i:Nat)(x:Nat)(q:Nt),nu[i]?=ae x->ns[i]?=ae q->f x=g q)->(bC nu ns).filter (λp=>f p.1.toNat)=bC (nu.filter f) (ns.filter g)
 |[],[],_,_=>rfl
 |x::nu,q::ns,h,hf=>by
  have e:=hf 0 x q rfl rfl;have ih:=BO f g nu ns (by simpa using h) λi x q h1 h2=>hf (i+1) x q h1 h2;rw[j7];cases hx:f x with
  |true=>
   rw[C0 (by show f (Int.toNat (x:Int))=ai;rw[Bi];exact hx),C0 hx,C0 (by rw[<-e];exact hx),j7,ih]
  |false=>
   rw[C1 (by show ¬f (Int.toNat (x:Int))=ai;rw[Bi,hx];exact Ae),C1 (by rw[hx];exact Ae),C1 (by rw[<-e,hx];exact Ae),ih]
 |[],_::_,h,_=>by simp at h
 |_::_,[],h,_=>by simp at h
theorem HC:∀(nu:List Nat)(ns:List Nt)(j:Nat)(x:Nat)(q:Nt),nu.Nodup->nu.length=ns.length->nu[j]?=ae x->(bC nu ns).map (λp=>if p.1=(x:Int)then(p.1,bI q)else p)=bC nu (ns.set j q)
 |[],[],j,x,q,_,_,h=>by cases h
 |y::nu,r::ns,0,x,q,nd,h,e=>by
  cases e;rw[j7,Bb,if_pos rfl,D4,j7]
  congr 1
  refine(Ck λp hp=>?_).trans (Gb _);rw[if_neg]
  ·rfl
  ·intro z;have hk:=kl (nu:=nu) (ns:=ns) (by simpa using h);have:p.1∈(bC nu ns).map (·.1):=List.mem_map_of_mem hp;rw[hk]at this;obtain⟨i,hi,ei⟩:=A7.mp this;have:i=y:=by rw[z]at ei;exact Dz ei
   exact(Ca.mp nd).1 (this▸hi)
 |y::nu,r::ns,j+1,x,q,nd,h,e=>by
  have ih:=HC nu ns j x q (Ca.mp nd).2 (by simpa using h) e;rw[j7,Bb,List.set_cons_succ,j7,ih,if_neg];intro z;have:y=x:=Dz z;exact(Ca.mp nd).1 (this▸A4 e)
 |[],_::_,_,_,_,_,h,_=>by simp at h
 |_::_,[],_,_,_,_,h,_=>by simp at h
abbrev Uh:aP:=(av (aJ (cT (w2 (wB gG (aq (w2 ↥5 ⇑1 aA) ao)) (aZ (rg (aZ (oK 2 [ah,ae 2] (aI 0) (cT (w2 (w2 (w2 ↥1 ↥0 mV) ⇑1 aA) ⇑1 aT)) ↥0)))) (iV λd e=>ae (!Bz d e)))) (az (wC .none)) aM) (av (aW (eQ (w2 ↥5 ⇑1 aA)) (aI 3) (jQ 2 ↥3)) (aW (d5 (aZ (oE (cS 2)))) (aI 3) (av (cP (w2 (cS 2) ↥3 nH) (du 2 (br (aI 6) (br (aI 7) cv)))) (jG 2 ↥3 (aw (aq ↥6 (aq (eu (cT (w2 ↥7 (wC .none) (bJ aj))) (wC .none) (w2 ↥7 ⇑1 (bY λi j=>.int (i-j)))) ao))))))))
abbrev nE:aP:=(aJ (cT (w2 (w2 ↥5 ⇑0 aA) (wC (.str "lays")) aT)) (av (aJ (cT (w2 (w2 ↥5 ⇑2 aA) ↥4 (iV λd e=>ae (!Bz d e)))) (az (wC .none)) aM) (av (jG 2 ↥4 (w2 ↥5 ⇑3 aA)) (aB 4 (w2 ↥4 ⇑1 (bY λi j=>.int (i+j)))))) (aJ (dJ (cT (w2 (w2 ↥5 ⇑0 aA) (aw (aq (wC (.str "takes")) (aq (wC (.str "reads")) (aq (wC (.str "looks")) ao)))) (fO aj))) (cT (w2 (w2 ↥5 ⇑2 aA) (wC .none) (bJ ai)))) (av (aJ (cT (w2 (w2 ↥5 ⇑2 aA) (cS 2) mH)) (az (wC .none)) aM) (aJ (cT (w2 (w2 ↥5 ⇑0 aA) (wC (.str "takes")) aT)) (jQ 2 (w2 ↥5 ⇑2 aA)) aM)) (aJ (cT (w2 (w2 ↥5 ⇑0 aA) (wC (.str "clock")) aT)) Uh aM)))
abbrev fF(ps:Pg)(ns:List Nt)(R:List Aa)(o:List (Int×Aa))(x3 x4 x5 x6 x7:Option SV):Sl:=[ae (.w (.d (.tuple [a8 ps,bK ns]))),ae (.w (.d (.list R))),ae (.odk (de o)),x3,x4,x5,x6,x7]
theorem UL(k:Q (.d (.bool aj)) n):iV (λd e=>ae (!Bz d e)) (.d (.int i)) (.d (.int i)) n Q:=by
 refine⟨rfl,rfl,Bm _,Bm _,aj,?_,k⟩;simp[Bz]
theorem uj(e:δ[i]?=ae (ae (.odk (de ps))))(hv:∀Q:DQ,Q (.d d) n->wv δ n Q)(hk:∀Q:DQ,Q (.d (.int k)) n->wy δ n Q)(hl:ps.length < 1000)(q:K.nx (δ.set i (ae (.odk (dD (de ps) (.inl k) d)))) n):jG i wy wv δ n K:=by
 unfold jG;rw[e];exact hv _ (hk _ ⟨by unfold de;rw[Ab];exact hl,q⟩)
theorem zS(e:δ[i]?=ae (ae (.odk (de ps))))(hk:∀Q:DQ,Q (.d (.int k)) n->wy δ n Q)(hd:bh (de ps) (.inl k)=ae d)(q:K.nx (δ.set i (ae (.odk (de (ps.filter λp=>decide (p.1≠k)))))) n):jQ i wy δ n K:=by
 unfold jQ;rw[e];exact hk _ ⟨k,d,rfl,hd,by rw[MI];exact q⟩
theorem UY(e:δ[i]?=ae (ae (.odk (de ps))))(hk:∀Q:DQ,Q (.d (.int k)) n->wy δ n Q)(hd:bh (de ps) (.inl k)=ae d)(q:Q (.d (.bool aj)) n):w2 wy (cS i) mH δ n Q:=by
 refine ar (hk _ ?_);unfold cS;rw[e];show Q (.d (.bool (!(bh (de ps) (.inl k)).isSome))) n;rw[hd];exact q
theorem vf(h:nu.length=ns.length)(nd:nu.Nodup):((bC nu ns).map (·.1)).Nodup:=by
 rw[kl h];show List.Pairwise _ _;rw[Ey];exact nd.imp λh z=>h (Dz z)
theorem Hg(h:nu.length=ns.length)(nd:nu.Nodup)(hi:i < nu.length):bh (de (bC nu ns)) (.inl (nu[i]:Nat))=ae (bI (ns[i]'(h▸hi))):=by
 refine xx (vf h nd) ?_;refine A4 (i:=i) ?_;unfold bC;rw[Fh];exact⟨by rw[Aw,Af hi];rfl,by rw[Aw,Af (h▸hi)];rfl⟩
theorem KA{nu:List Nat}(h:∀x∈nu,x < fr)(up:nu.Pairwise (· < ·)):(nu++[fr]).Pairwise (· < ·):=by
 rw[List.pairwise_append];exact⟨up,Gs _ _,λa ha b hb=>by rw[Bj.mp hb];exact h a ha⟩
theorem Ii(B:okBd ps s t nu fr m)(up:nu.Pairwise (· < ·)):(aL ps s nu fr m).2.1.Pairwise (· < ·):=by
 by_cases em:m=ps.length
 ·subst em;rw[lq];exact up.filter _
 ·have hm:m < ps.length:=by have:=B.le;omega
  obtain⟨P,xb,xp,nm',w,as,a,H,ea,T⟩:=lA B.st.2.1 hm B.af;rw[k8 hm ea];cases a with
  |lay fs age=>exact KA B.nu.lt up
  |take gs=>exact up.filter _
  |_=>exact up
section
variable{ps:Pg}{ns:List Nt}{R:List Aa}{s t:Sd}{nu:List Nat}{fr m:Nat}{x3 x6 x7:Option SV}{n:Int}{K:DEnds}
theorem jE(e:δ[5]?=ae (ae (.w (.d (.tuple (.str x::r))))))(b)(hb:decide (x=h)=b)(q:Q b n):cT (w2 (w2 ↥5 ⇑0 aA) (wC (.str h)) aT) δ n Q:=
 aF (k:=b) (λQ q=>ar (ar (au e (aC (bO (aC (show Q (.d (.bool (decide (x=h)))) _ by rw[hb];exact q))))))) q
theorem Oe(hl:nu.length=s.2.length)(lt:∀x∈nu,x < fr)(h1:nu.length < 900)(k:K.nx (fF ps ns R (bC (nu++[fr]) (s.2++[q])) x3 (ae (.w (.d (.int (fr+1:Nat))))) (ae (.w (.d (.tuple [.str "lays",.int m,.int fr,bI q])))) x6 x7) n):
  nE (fF ps ns R (bC nu s.2) x3 (ae (.w (.d (.int fr)))) (ae (.w (.d (.tuple [.str "lays",.int m,.int fr,bI q])))) x6 x7) n K:=by
 refine bw (λQ q=>jE rfl ai (decide_eq_true rfl) q) ?_;refine aE (aQ (λQ q=>aF (k:=aj) (λQ q=>ar (ar (au rfl (aC (cW (au rfl (UL q))))))) q) ?_);dsimp only[aM];have nk:((fr:Nat):Int)∉(bC nu s.2).map (·.1):=by
  rw[kl hl];intro z;obtain⟨i,hi,ei⟩:=A7.mp z;have:=lt i hi;have:i=fr:=Dz ei;omega
 refine aE (uj (k:=(fr:Nat)) (d:=bI q) rfl (λQ q=>ar (au rfl (aC (bN (i:=3) rfl q)))) (λQ q=>au rfl q) (by rw[mX hl];omega) ?_);rw[FR nk,<-CY hl];dsimp only[Al];refine bA (x:=.int (fr+1:Nat)) (λQ q=>ar (au rfl (aC (dA q)))) ?_;exact k
end
theorem QD(q)(ns)(i):cE (q::ns) (i+1)=q::cE ns i:=rfl
theorem IV:∀(nu:List Nat)(ns:List Nt)(i x:Nat),nu.Nodup->nu.length=ns.length->nu[i]?=ae x->(bC nu ns).filter (λp=>decide (p.1≠(x:Int)))=bC (nu.filter λy=>!decide (ae y=ae x)) (cE ns i)
 |[],[],i,x,_,_,h=>by cases h
 |y::nu,r::ns,0,x,nd,h,e=>by
  cases e;have hn:=(Ca.mp nd).1;rw[j7,C1 (by simp),C1 (by simp)];have e1:(bC nu ns).filter (λp=>decide (p.1≠(y:Int)))=bC nu ns:=Eg.mpr λp hp=>by
   have hk:=kl (nu:=nu) (ns:=ns) (by simpa using h);have:p.1∈(bC nu ns).map (·.1):=List.mem_map_of_mem hp;rw[hk]at this;obtain⟨i,hi,ei⟩:=A7.mp this;refine decide_eq_true λz=>hn ?_;rw[z]at ei;have:i=y:=Dz ei;exact this▸hi
  have e2:(nu.filter λz=>!decide (ae z=ae y))=nu:=Eg.mpr λz hz=>by
   have:¬(ae z=ae y):=λq=>hn (A8 q▸hz);rw[decide_eq_false this];rfl
  rw[e1,e2];rfl
 |y::nu,r::ns,i+1,x,nd,h,e=>by
  have ih:=IV nu ns i x (Ca.mp nd).2 (by simpa using h) e;have ne:y≠x:=λz=>(Ca.mp nd).1 (z▸A4 e);have n1:((y:Int),bI r).1≠(x:Int):=λz=>ne (Dz z);have n2:¬(ae y=ae x):=λq=>ne (A8 q);rw[j7,C0 (by exact decide_eq_true n1),C0 (by rw[decide_eq_false n2];rfl),ih,QD,j7]
 |[],_::_,_,_,_,h,_=>by simp at h
 |_::_,[],_,_,_,h,_=>by simp at h
theorem sE(e:δ[5]?=ae (ae (.w (.d (.tuple (.str x::r))))))(b)(hb:bU (.str x) [.str "takes",.str "reads",.str "looks"]=b)(q:Q b n):cT (w2 (w2 ↥5 ⇑0 aA) (aw (aq (wC (.str "takes")) (aq (wC (.str "reads")) (aq (wC (.str "looks")) ao)))) (fO aj)) δ n Q:=
 aF (k:=b) (λQ q=>ar (ar (au e (aC (bO (fZ (aC (aC (aC (Aj (show 3<=1000 by decide) (Aj rfl ⟨rfl,(show Q (.d (.bool (bU (.str x) [.str "takes",.str "reads",.str "looks"]))) _ by rw[hb];exact q)⟩))))))))))) q
section
variable{ps:Pg}{ns:List Nt}{R:List Aa}{s:Sd}{nu:List Nat}{fr m i:Nat}{x3 x6 x7:Option SV}{n:Int}{K:DEnds}
theorem FC(k:K.nx (fF ps ns R (bC nu s.2) x3 (ae (.w (.d (.int fr)))) (ae (.w (.d (.tuple [.str "goes",.int m])))) x6 x7) n):nE (fF ps ns R (bC nu s.2) x3 (ae (.w (.d (.int fr)))) (ae (.w (.d (.tuple [.str "goes",.int m])))) x6 x7) n K:=by
 refine aQ (λQ q=>jE rfl aj ∅ q) ?_;refine aQ (λQ q=>mr (λQ q=>sE rfl aj ∅ q) q) ?_;exact aQ (λQ q=>jE rfl aj ∅ q) k
theorem Ly{x:Str}(h1:decide (x="lays")=aj)(h2:decide (x="clock")=aj)(h3:bU (.str x) [.str "takes",.str "reads",.str "looks"]=ai)(k:K.nx (fF ps ns R (bC nu s.2) x3 (ae (.w (.d (.int fr)))) (ae (.w (.d (.tuple [.str x,.int m,.none])))) x6 x7) n):nE (fF ps ns R (bC nu s.2) x3 (ae (.w (.d (.int fr)))) (ae (.w (.d (.tuple [.str x,.int m,.none])))) x6 x7) n K:=by
 refine aQ (λQ q=>jE rfl aj h1 q) ?_;refine aQ (λQ q=>lN (λQ q=>sE rfl ai h3 q) (aF (k:=aj) (λQ q=>ar (ar (au rfl (aC (cW (aC (show Q (.d (.bool (!gc .none))) _ from q))))))) q)) ?_;exact aQ (λQ q=>jE rfl aj h2 q) k
theorem wJ{x:Str}(hl:nu.length=s.2.length)(nd:nu.Nodup)(hi:i < nu.length)(h1:decide (x="lays")=aj)(h3:bU (.str x) [.str "takes",.str "reads",.str "looks"]=ai)
  (k:K.nx (fF ps ns R (if x="takes" then bC (nu.filter λy=>!decide (ae y=ae nu[i])) (cE s.2 i)else bC nu s.2) x3 (ae (.w (.d (.int fr)))) (ae (.w (.d (.tuple [.str x,.int m,.int (nu[i]:Nat)])))) x6 x7) n):
  nE (fF ps ns R (bC nu s.2) x3 (ae (.w (.d (.int fr)))) (ae (.w (.d (.tuple [.str x,.int m,.int (nu[i]:Nat)])))) x6 x7) n K:=by
 have hv:=Hg hl nd hi;refine aQ (λQ q=>jE rfl aj h1 q) ?_;refine bw (λQ q=>lN (λQ q=>sE rfl ai h3 q) (aF (k:=ai) (λQ q=>ar (ar (au rfl (aC (cW (aC (show Q (.d (.bool (!gc (.int (nu[i]:Nat))))) _ from q))))))) q)) ?_;refine aE (aQ (λQ q=>aF (k:=aj) (λQ q=>UY rfl (λQ q=>ar (au rfl (aC (cW q)))) hv q) q) ?_);dsimp only[aM];by_cases e:x="takes"
 ·rw[if_pos e]at k;refine bw (λQ q=>jE rfl ai (decide_eq_true e) q) (zS rfl (λQ q=>ar (au rfl (aC (cW q)))) hv ?_);rw[IV nu s.2 i _ nd hl (Af hi)];exact k
 ·rw[if_neg e]at k;exact aQ (λQ q=>jE rfl aj (decide_eq_false e) q) k
end
theorem nP(nu:List Nat)(ns):bC nu ns=(nu.zip ns).map λz=>((z.1:Int),bI z.2):=by
 unfold bC;rw[List.zip_map];rfl
theorem AV(h:nu.length=ns.length)(nd:nu.Nodup)(hz:z∈nu.zip ns):bh (de (bC nu ns)) (.inl (z.1:Nat))=ae (bI z.2):=by
 refine xx (vf h nd) ?_;rw[nP];exact A7.mpr ⟨z,hz,rfl⟩
theorem Mp(h:bh m (.inl k)=ae d)(q:Q (.d d) n):mV (.ob (.f m)) (.d (.int k)) n Q:=by
 show(match bh m (.inl k)with|some d=>Q (.d d) n|none=>False);rw[h];exact q
theorem BU(hl:nu.length=ns.length)(up:nu.Pairwise (· < ·)):(cK nu ns).Pairwise (· < ·):=by
 unfold cK;have h1:((nu.zip ns).map (·.1)).Pairwise (· < ·):=by
  rw[List.map_fst_zip ⋯];exact up
 exact h1.sublist (List.Sublist.map _ Fk)
theorem IE{ks ys:List Int}(up:ks.Pairwise (·<=·))(hp:ys.Perm ks)(hw:ys.Pairwise (λa b=>a<=b)):ys=ks:=List.Perm.eq_of_pairwise (λa b _ _ h1 h2=>by omega) hw up hp
theorem KJ(hl:l.length<=60)(hi:∀i∈l,i<=90):Small (.list (aD l)):=by
 have hv:∀x∈aD l,V0 x:=λx hx=>by
  obtain⟨i,hi',rfl⟩:=A7.mp hx;have:=hi i hi';exact jw ⋯ ⋯
 exact(xR hv (by unfold aD;rw[Ab];omega)).2.small ∎ ∎
section
variable{ps:Pg}{ns:List Nt}{R:List Aa}{s:Sd}{nu:List Nat}{fr:Nat}{x3 x4 x6 x7:Option SV}{n:Int}
theorem Pe(hl:nu.length=s.2.length)(nd:nu.Nodup)(up:nu.Pairwise (· < ·))(h60:nu.length<=60)(hi:∀i∈nu,i<=90)(oa:∀q∈s.2,ft q.2)(q:Q aj n):
  cT (w2 (wB gG (aq (w2 ↥5 ⇑1 aA) ao)) (aZ (rg (aZ (oK 2 [ah,ae 2] (aI 0) (cT (w2 (w2 (w2 ↥1 ↥0 mV) ⇑1 aA) ⇑1 aT)) ↥0)))) (iV λd e=>ae (!Bz d e)))
   (fF ps ns R (bC nu s.2) x3 x4 (ae (.w (.d (.tuple [.str "clock",.tuple (aD (cK nu s.2))])))) x6 x7) n Q:=by
 have hgl:(cK nu s.2).length<=nu.length:=by
  unfold cK;rw[Ab];exact A2 (Dj _ _) (by rw[List.length_zip];omega)
 refine aF (k:=aj) (λQ q=>ar (aU (ar (au rfl (aC (cV (oD (bb ?_)))))))) q;show(aZ (oK _ _ _ _ _)) _ _ _;refine bb ⟨bC nu s.2,rfl,?_⟩;show yu 2 _ _ _;refine⟨bC nu s.2,rfl,by rw[mX hl];omega,?_⟩;rw[show((bC nu s.2).map λp=>Cp p.1)=(nu.zip s.2).map λz=>Cp (z.1:Nat) by rw[nP,Bt];rfl];show c7 _ _ _ _ _ _ [ah,ae (.w (.ob (.f (de (bC nu s.2)))))] n;refine iR (λz:Nat×Nt=>.int (z.1:Nat)) (λz:Nat×Nt=>.int (z.1:Nat)) (λz=>bX z.2.2) (nu.zip s.2) [] ah n (λz hz n Q' q=>?_) (λz hz n Q' q=>au rfl q) ?_
 ·exact aF (k:=bX z.2.2) (λQ q=>ar (ar (ar (au rfl (au rfl (Mp (AV hl nd hz) (aC (cV (aC (tL (oa z.2 (Eb hz).2) q))))))))) ) q
 ·have eg:([]++(((nu.zip s.2).filter λz=>bX z.2.2).map λz:Nat×Nt=>Cp (z.1:Nat)))=((cK nu s.2).map λi:Nat=>(i:Int)).map .int:=by
   unfold cK;rw[Bv,Bt,Bt];rfl
  rw[eg];refine⟨_,rfl,(cK nu s.2).map λi:Nat=>(i:Int),rfl,by rw[Ab];omega,λys hp hw=>?_⟩;have up':((cK nu s.2).map λi:Nat=>(i:Int)).Pairwise (·<=·):=by
   rw[Ey];exact(BU hl up).imp λh=>by omega
  rw[IE up' hp hw,Bt];exact Su (KJ ⋯ λi hi'=>hi i (xP hi')) q
end
theorem So(nd:nu.Nodup){i x:Nat}(h1:nu[i]?=ae x)(h2:ns[i]?=ae q):decide (x∈cK nu ns)=bX q.2:=by
 cases hq:bX q.2 with
 |true=>
  refine decide_eq_true (A7.mpr ⟨(x,q),B9.mpr ⟨A4 (i:=i) (Fh.mpr ⟨h1,h2⟩),hq⟩,rfl⟩)
 |false=>
  refine decide_eq_false λhx=>?_;obtain⟨z,hz,rfl⟩:=A7.mp hx;obtain⟨hz1,hz2⟩:=B9.mp hz;obtain⟨j,hj⟩:=B8.mp hz1;obtain⟨j1,j2⟩:=Fh.mp hj;have hil:i < nu.length:=(Av.mp h1).1;have:i=j:=(List.getElem?_inj hil nd).mp (h1.trans j1.symm);subst this;rw[j2]at h2;cases h2;rw[hq]at hz2;cases hz2
section
variable{ps:Pg}{ns:List Nt}{R:List Aa}{s:Sd}{nu:List Nat}{fr:Nat}{x3 x4 x6 x7:Option SV}{n:Int}{K:DEnds}
theorem Sk(hl:nu.length=s.2.length)(nd:nu.Nodup)(up:nu.Pairwise (· < ·))
  (k:∀x3,K.nx (fF ps ns R (bC (nu.filter λx=>!decide (x∈cK nu s.2)) (s.2.filter λq=>!bX q.2)) x3 x4 (ae (.w (.d (.tuple [.str "clock",.tuple (aD (cK nu s.2))])))) x6 x7) n):
  aW (eQ (w2 ↥5 ⇑1 aA)) (aI 3) (jQ 2 ↥3) (fF ps ns R (bC nu s.2) x3 x4 (ae (.w (.d (.tuple [.str "clock",.tuple (aD (cK nu s.2))])))) x6 x7) n K:=by
 unfold aW eQ;refine ar (au rfl (aC (cV ?_)));have f0:(bC nu s.2).filter (λp=>!decide (p.1.toNat∈([]:List Nat)))=bC nu s.2:=Eg.mpr λp _=>rfl;refine eV (λds δ m=>m=n/\∃(dn rs:List Nat)(x3:Option SV),cK nu s.2=dn++rs/\ds=aD rs/\δ=fF ps ns R ((bC nu s.2).filter λp=>!decide (p.1.toNat∈dn)) x3 x4 (ae (.w (.d (.tuple [.str "clock",.tuple (aD (cK nu s.2))])))) x6 x7) (λδ m I=>?_) (λd r δ m N I kN=>?_) _ _ _ ⟨rfl,[],cK nu s.2,x3,rfl,rfl,by rw[f0]⟩
 ·obtain⟨rfl,dn,rs,y3,eg,ed,rfl⟩:=I;have:rs=[]:=by
   cases rs with
   |nil=>rfl
   |cons a b=>cases ed
  subst this;rw[Bw]at eg;rw[<-eg,BO (λx=>!decide (x∈cK nu s.2)) (λq=>!bX q.2) nu s.2 hl λi x q h1 h2=>by rw[So nd h1 h2]];exact k y3
 ·obtain⟨rfl,dn,rs,y3,eg,ed,rfl⟩:=I;cases rs with
  |nil=>cases ed
  |cons g rs=>
   cases ed;dsimp only[aI,Al];have gnd:(dn++g::rs).Nodup:=by
    rw[<-eg];exact(BU hl up).imp λh=>Bk h
   have gd:g∉dn:=λz=>(List.nodup_append.mp gnd).2.2 g z g As rfl;have hg:g∈cK nu s.2:=by rw[eg];exact Be _ As
   obtain⟨z,hz,ez⟩:=A7.mp hg;have hz1:=(B9.mp hz).1;have hv:bh (de ((bC nu s.2).filter λp=>!decide (p.1.toNat∈dn))) (.inl (g:Nat))=ae (bI z.2):=by
    refine xx ((vf hl nd).sublist (List.Sublist.map _ Fk)) ?_;refine B9.mpr ⟨by rw[nP];exact A7.mpr ⟨z,hz1,by rw[<-ez]⟩,?_⟩;show(!decide (Int.toNat (g:Int)∈dn))=ai;rw[Bi,decide_eq_false gd];rfl
   refine zS rfl (λQ q=>au rfl q) hv ?_;have ef:((bC nu s.2).filter λp=>!decide (p.1.toNat∈dn)).filter (λp=>decide (p.1≠(g:Int)))=(bC nu s.2).filter λp=>!decide (p.1.toNat∈dn++[g]):=by
    rw[List.filter_filter];refine List.filter_congr λp hp=>?_;rw[nP]at hp;obtain⟨y,hy,rfl⟩:=A7.mp hp;show(decide ((y.1:Int)≠(g:Int))&&!decide (Int.toNat (y.1:Int)∈dn))=!decide (Int.toNat (y.1:Int)∈dn++[g]);rw[Bi];by_cases e1:y.1=g
    ·rw[e1,decide_eq_false (λh=>h rfl),decide_eq_true (Be _ As)];rfl
    ·have e2:(y.1:Int)≠(g:Int):=λh=>e1 (Dz h);rw[decide_eq_true e2,Fo]
     congr 1
     refine decide_eq_decide.mpr ⟨λh=>Ec _ h,λh=>?_⟩;rcases Bc.mp h with h|h
     ·exact h
     ·exact absurd (Bj.mp h) e1
   rw[ef];dsimp only[Al];exact kN _ _ ⟨rfl,dn++[g],rs,_,by rw[eg,Bp];rfl,rfl,rfl⟩
end
def jf(q:Nt):Nt:=(q.1,gF q.2)
theorem S6(ms:List Nt)(j)(h:j < ms.length):((ms.take j).map jf++ms.drop j).set j (jf ms[j])=(ms.take (j+1)).map jf++ms.drop (j+1):=by
 have hj:((ms.take j).map jf).length=j:=by rw[Ab,Bn];omega
 rw[List.set_append_right _ _ ⋯,hj,F5,C2 h,D4,List.take_succ_eq_append_getElem h,Bd,Bp];rfl
theorem LV(ms:List Nt)(j)(h:j < ms.length):((ms.take j).map jf++ms.drop j)[j]?=ae ms[j]:=by
 have hj:((ms.take j).map jf).length=j:=by rw[Ab,Bn];omega
 rw[Cb ⋯,hj,F5,C2 h];rfl
theorem N4(e:δ[7]?=ae (ae (.w (.d a))))(h:ft a)(k:Q (.d (gF a)) n):eu (cT (w2 ↥7 (wC .none) (bJ aj))) (wC .none) (w2 ↥7 ⇑1 (bY λi j=>.int (i-j))) δ n Q:=by
 rcases h with rfl|⟨i,rfl,_⟩
 ·exact aF (k:=ai) (λQ q=>ar (au e (aC q))) (show if ai=ai then _ else _ by rw[if_pos rfl];exact aC k)
 ·exact aF (k:=aj) (λQ q=>ar (au e (aC q))) (show if aj=ai then _ else _ by rw[if_neg Ae];exact ar (au e (aC k)))
theorem GQ(e:δ[i]?=ae (ae (.odk m)))(k:Q (.dk m) n):cS i δ n Q:=by unfold cS;rw[e];exact k
theorem OB(h:bh m (.inl k)=ae d)(q:Q (.d d) n):nH (.dk m) (.d (.int k)) n Q:=by
 show(match bh m (.inl k)with|some d=>Q (.d d) n|none=>False);rw[h];exact q
section
variable{ps:Pg}{ns:List Nt}{R:List Aa}{ms:List Nt}{nu:List Nat}{x3 x4 x5 x6 x7:Option SV}{n:Int}{K:DEnds}
theorem QA(hl:nu.length=ms.length)(nd:nu.Nodup)(oa:∀q∈ms,ft q.2)(h9:nu.length < 900)(k:∀x3 x6 x7,K.nx (fF ps ns R (bC nu (ms.map jf)) x3 x4 x5 x6 x7) n):
  aW (d5 (aZ (oE (cS 2)))) (aI 3) (av (cP (w2 (cS 2) ↥3 nH) (du 2 (br (aI 6) (br (aI 7) cv)))) (jG 2 ↥3 (aw (aq ↥6 (aq (eu (cT (w2 ↥7 (wC .none) (bJ aj))) (wC .none) (w2 ↥7 ⇑1 (bY λi j=>.int (i-j)))) ao))))) (fF ps ns R (bC nu ms) x3 x4 x5 x6 x7) n K:=by
 unfold aW d5;refine bb ?_;unfold oE;refine GQ rfl ⟨bC nu ms,rfl,by rw[mX hl];omega,?_⟩;rw[show((bC nu ms).map λp=>Cp p.1)=aD nu by
  rw[show((bC nu ms).map λp=>Cp p.1)=((bC nu ms).map (·.1)).map .int by rw[Bt];rfl,kl hl,Bt];rfl]
 refine eV (λds δ m=>m=n/\∃(j:Nat)(y3 y6 y7:Option SV),j<=nu.length/\ds=aD (nu.drop j)/\δ=fF ps ns R (bC nu ((ms.take j).map jf++ms.drop j)) y3 x4 x5 y6 y7) (λδ m I=>?_) (λd r δ m N I kN=>?_) _ _ _ ⟨rfl,0,x3,x6,x7,Bm _,rfl,rfl⟩
 ·obtain⟨rfl,j,y3,y6,y7,hj,ed,rfl⟩:=I;have:nu.length<=j:=by
   have:=congrArg Dv ed;unfold aD at this;rw[Ab,Br]at this;simp at this;omega
  rw[F0 ⋯,List.drop_eq_nil_of_le ⋯,Bw];exact k _ _ _
 ·obtain⟨rfl,j,y3,y6,y7,hj,ed,rfl⟩:=I;have hlt:j < nu.length:=by
   have:=congrArg Dv ed;unfold aD at this;rw[Ab,Br,Am]at this;omega
  rw[C2 hlt]at ed;cases ed;have hjm:j < ms.length:=by omega
  have hcl:nu.length=((ms.take j).map jf++ms.drop j).length:=by rw[Ai,Ab,Bn,Br];omega
  have hv:=Hg hcl nd hlt;rw[show((ms.take j).map jf++ms.drop j)[j]'(hcl▸hlt)=ms[j]from A8 ((Af _).symm.trans (LV ms j hjm))]at hv;dsimp only[aI,Al];refine aE (show cP _ _ _ _ _ from ar (GQ rfl (au rfl (OB hv ⟨rfl,?_⟩))));dsimp only[br,cv,aI,Al];refine uj (k:=(nu[j]:Nat)) (d:=bI (jf ms[j])) rfl (λQ q=>cZ (au rfl (N4 rfl (oa _ (Cg hjm)) (Aj (show 2<=1000 by decide) q)))) (λQ q=>au rfl q) (by rw[mX hcl];omega) ?_;rw[Py (by rw[kl hcl];exact A7.mpr ⟨_,Cg hlt,rfl⟩),HC nu _ j _ _ nd hcl (Af hlt),S6 ms j hjm];dsimp only[Al];exact kN _ _ ⟨rfl,j+1,_,_,_,by omega,rfl,rfl⟩
end
section
variable{ps:Pg}{ns:List Nt}{R:List Aa}{s t:Sd}{nu:List Nat}{fr m:Nat}{x3 x4 x6 x7:Option SV}{n:Int}{K:DEnds}
theorem Pj(hl:nu.length=s.2.length)(nd:nu.Nodup)(up:nu.Pairwise (· < ·))(h60:nu.length<=60)(hi:∀i∈nu,i<=90)(oa:∀q∈s.2,ft q.2)
  (k:∀x3 x6 x7,K.nx (fF ps ns R (bC (nu.filter λx=>!decide (x∈cK nu s.2)) (dw s.2)) x3 x4 (ae (.w (.d (.tuple [.str "clock",.tuple (aD (cK nu s.2))])))) x6 x7) n):
  nE (fF ps ns R (bC nu s.2) x3 x4 (ae (.w (.d (.tuple [.str "clock",.tuple (aD (cK nu s.2))])))) x6 x7) n K:=by
 refine aQ (λQ q=>jE rfl aj ∅ q) ?_;refine aQ (λQ q=>mr (λQ q=>sE rfl aj ∅ q) q) ?_;refine bw (λQ q=>jE rfl ai (decide_eq_true rfl) q) ?_;refine aE (aQ (λQ q=>Pe hl nd up h60 hi oa q) ?_);dsimp only[aM];refine aE (Sk hl nd up λy3=>?_);have hl':(nu.filter λx=>!decide (x∈cK nu s.2)).length=(s.2.filter λq=>!bX q.2).length:=by
  rw[xU nu s.2 nd hl];unfold dw;rw[Ab]
 refine QA hl' (nd.filter _) (λq hq=>oa q (B9.mp hq).1) (Nat.lt_of_le_of_lt (Dj _ _) ⋯) λy3 y6 y7=>?_;exact k y3 y6 y7
theorem NP(B:okBd ps s t nu fr m)(up:nu.Pairwise (· < ·))(h60:nu.length<=60)(hfr:fr<=90)
  (k:∀x3 x6 x7,K.nx (fF ps ns R (bC (aL ps s nu fr m).2.1 t.2) x3 (ae (.w (.d (.int (aL ps s nu fr m).2.2)))) (ae (.w (.d (aL ps s nu fr m).1))) x6 x7) n):
  nE (fF ps ns R (bC nu s.2) x3 (ae (.w (.d (.int fr)))) (ae (.w (.d (aL ps s nu fr m).1))) x6 x7) n K:=by
 have hl:=B.nu.len;have nd:=B.nu.nd;have lt:=B.nu.lt;by_cases em:m=ps.length
 ·subst em;have af:=B.af;unfold cD at af;rw[if_pos rfl]at af;cases af;rw[lq]at k ⊢;exact Pj hl nd up h60 (λi hi=>by have:=lt i hi;omega) (λq hq=>(B.st.2.2.2 q hq).2) k
 ·have hm:m < ps.length:=by have:=B.le;omega
  obtain⟨P,xb,xp,nm',w,as,a,H,ea,T⟩:=lA B.st.2.1 hm B.af;rw[k8 hm ea]at k ⊢;cases a with
  |lay fs age=>
   have T:t.2=s.2++[(cu fs nm',age)]:=T;rw[T,<-H.nmq]at k;exact Oe hl lt ⋯ (k _ _ _)
  |take gs=>
   obtain⟨i,hi,hil,T⟩:=T;have hin:i < nu.length:=by omega
   simp only[gh,hi,lG hin,o6 hin]at k ⊢;refine wJ (x:="takes") hl nd hin ∅ ∅ ?_;rw[if_pos rfl,<-T];exact k _ _ _
  |read gs=>
   obtain⟨T,i,hi,hil⟩:=T;have hin:i < nu.length:=by omega
   simp only[gh,hi,lG hin]at k ⊢;refine wJ (x:="reads") hl nd hin ∅ ∅ ?_;rw[if_neg ∅,<-T];exact k _ _ _
  |look gs b=>
   obtain⟨T,hg⟩:=T;cases hi:bf ps s.1 s.2 m with
   |none=>
    simp only[gh,hi]at k ⊢;refine Ly (x:="looks") ∅ ∅ ∅ ?_;rw[<-T];exact k _ _ _
   |some i=>
    have hin:i < nu.length:=by have:=hg i hi;omega
    simp only[gh,hi,lG hin]at k ⊢;refine wJ (x:="looks") hl nd hin ∅ ∅ ?_;rw[if_neg ∅,<-T];exact k _ _ _
  |go b=>
   have T:t.2=s.2:=T;rw[T]at k;exact FC (k _ _ _)
  |same f g b=>
   have T:t.2=s.2:=T;rw[T]at k;exact FC (k _ _ _)
end
open Classical in
theorem MF(h:gq x d=ai):x=d:=by unfold gq at h;exact of_decide_eq_true h
theorem QQ(ps)(s:Sd)(nu)(fr)(d)(r):eB ps s nu fr (d::r)=(match gR ps s.1 s.2 (d7 ps d)with
  |none=>(s,nu,fr)
  |some t=>eB ps t (aL ps s nu fr (fq ps (d7 ps d))).2.1 (aL ps s nu fr (fq ps (d7 ps d))).2.2 r):=by rw[eB]<;>rfl
theorem EC(okp:cH ps)(I:LtI ps s nu fr (l+1))(h:iC ps s nu fr (d::r)=ai):∃m t,okBd ps s t nu fr m/\d=(aL ps s nu fr m).1/\LtI ps t (aL ps s nu fr m).2.1 (aL ps s nu fr m).2.2 l/\iC ps t (aL ps s nu fr m).2.1 (aL ps s nu fr m).2.2 r=ai/\eB ps s nu fr (d::r)=eB ps t (aL ps s nu fr m).2.1 (aL ps s nu fr m).2.2 r:=by
 rw[u6]at h;rw[QQ];cases ea:gR ps s.1 s.2 (d7 ps d)with
 |none=>rw[ea]at h;cases h
 |some t=>
  rw[ea]at h;obtain⟨m,em,af⟩:=Gq.mp ea;obtain⟨eb,hm⟩:=qY em;have en:fq ps (d7 ps d)=m:=by unfold fq;rw[em];rfl
  dsimp only at h ⊢;rw[en,Bf]at h;rw[en];obtain⟨B,I2⟩:=I.step okp hm af;exact⟨m,t,B,(MF h.1).symm,I2,h.2,rfl⟩
theorem Tg(k:K.nx (δ.set i (ae (.odk []))) n):iN i jg δ n K:=k
theorem N8(hw:∀Q:DQ,Q (.d (.int (x:Nat))) n->w δ n Q)(hx:x<=1000)(k:eM g W K (b9 0 x) δ n):aW (dv w) g W δ n K:=by
 unfold aW dv;exact hw _ ⟨⟨by omega,by omega⟩,by rw[Bi];exact k⟩
theorem DW(hw:∀Q:DQ,Q (.d (.list ds)) n->w δ n Q)(k:eM g W K ds δ n):aW (d5 w) g W δ n K:=by
 unfold aW d5;exact hw _ k
theorem NS(e:δ[i]?=ae (ae (.odk m)))(k:W (δ.set i (ae (.w (.ob (.k m))))) n K):bH i W δ n K:=by unfold bH;rw[e];exact k
theorem Jz:bV wz DM ["_law_plan_here","_law_log_here","_law_book_here","_law_number","_law_fresh","_law_row_here","_law_values","_law_age_here"]:=λws n Q h=>by
 obtain⟨ps,ns,R,rfl,⟨pl,hR,hy,lt⟩,k⟩:=h;have h12:=pl.2.2.1;show DM [ae (.w (.d (.tuple [a8 ps,bK ns]))),ae (.w (.d (.list R))),ah,ah,ah,ah,ah,ah] n _;refine aE (Tg ?_);dsimp only[Al];refine aE (N8 (x:=ns.length) (λQ q=>aU (ar (au rfl (aC (cV (o3 (by rw[Ab];exact q))))))) ⋯ ?_);refine eV (λds δ m=>m=n/\∃(j:Nat)(y3:Option SV),j+ds.length=ns.length/\(∀(i:Nat)(d:Aa),ds[i]?=ae d->d=.int ((j+i:Nat):Int))/\δ=fF ps ns R (bC (A3 j) (ns.take j)) y3 ah ah ah ah) (λδ m I=>?_) (λd r δ m N I kN=>?_) _ _ _ ⟨rfl,0,ah,by rw[e9];omega,λi d e=>?_,rfl⟩
 ·obtain⟨rfl,j,y3,hj,_,rfl⟩:=I;have hj:j=ns.length:=by simpa using hj
  subst hj;rw[List.take_length];dsimp only;refine aE (bA (x:=.int (ns.length:Nat)) (λQ q=>aU (ar (au rfl (aC (cV (o3 (by rw[Ab];exact q))))))) ?_);dsimp only[Al];refine aE (DW (λQ q=>au rfl q) ?_);refine eV (λds δ m'=>m'=m/\∃(s:Sd)(nu:List Nat)(fr:Nat)(y3 y5 y6 y7:Option SV),δ=fF ps ns R (bC nu s.2) y3 (ae (.w (.d (.int fr)))) y5 y6 y7/\LtI ps s nu fr ds.length/\nu.Pairwise (· < ·)/\iC ps s nu fr ds=ai/\eB ps s nu fr ds=eB ps (d8 ps,ns) (A3 ns.length) ns.length R) (λδ m' I=>?_) (λd r δ m' N I kN=>?_) _ _ _ ⟨rfl,(d8 ps,ns),A3 ns.length,ns.length,_,_,_,_,rfl,j6 pl ⋯,List.pairwise_lt_range,lt,rfl⟩
  ·obtain⟨rfl,s,nu,fr,y3,y5,y6,y7,rfl,I,up,lg,en⟩:=I;rw[eB]at en;unfold rA at k;rw[<-en]at k;dsimp only;exact NS rfl (bc (au rfl k))
  ·obtain⟨rfl,s,nu,fr,y3,y5,y6,y7,rfl,I,up,lg,en⟩:=I;rw[Am]at I;obtain⟨m,t,B,rfl,I2,lg2,en2⟩:=EC pl.1 I lg;dsimp only[aI,Al];have h1:=I.nk.len;have h2:=I.okn.1;have h3:=I.fr;refine NP B up ⋯ ⋯ λz3 z6 z7=>?_;exact kN _ _ ⟨rfl,t,_,_,_,_,_,_,rfl,I2,Ii B up,lg2,en2.symm.trans en⟩
 ·obtain⟨rfl,j,y3,hj,hix,rfl⟩:=I;rw[Am]at hj;have ed:=hix 0 d rfl;subst ed;have hlt:j < ns.length:=by omega
  dsimp only[aI,Al];have hll:(A3 j).length=(ns.take j).length:=by rw[Cu,Bn];omega
  refine uj (k:=(j:Nat)) (d:=bI ns[j]) rfl (λQ q=>ar (ar (au rfl (aC (cV (au rfl (bN (by rw[Nat.add_zero,Aw,Af hlt];rfl) q))))))) (λQ q=>au rfl q) (by rw[mX hll,Cu];omega) ?_;rw[FR (by
   rw[kl hll];intro z;obtain⟨i,hi,ei⟩:=A7.mp z;have:=B6.mp hi;have:i=j:=Dz ei;omega),<-CY hll,<-List.range_succ,<-List.take_succ_eq_append_getElem hlt]
  dsimp only[Al];refine kN _ _ ⟨rfl,j+1,_,by omega,λi d e=>?_,rfl⟩;rw[hix (i+1) d e]
  congr 2
  omega
 ·unfold b9 at e;rw[Aw]at e;cases hi:(A3 ns.length)[i]? with
  |none=>rw[hi]at e;cases e
  |some x=>
   rw[hi]at e;cases e;obtain⟨h1,h2⟩:=Av.mp hi;rw[List.getElem_range]at h2;subst h2
   congr 1<;>omega
theorem Ij(B:okBd ps s t nu fr m):d7 ps (aL ps s nu fr m).1=.int m:=by
 have key:∀(x:Str)(b:Aa)(r:List Aa),x≠"clock"->d7 ps (.tuple (.str x::b::r))=b:=λx b r h=>by
  show(if iG (.str x)=ai then Cp ps.length else b)=b;rw[if_neg (show ¬iG (.str x)=ai from λz=>h (of_decide_eq_true z))]
 by_cases em:m=ps.length
 ·subst em;rw[lq];show(if iG (.str "clock")=ai then Cp ps.length else PyData.tuple (aD (cK nu s.2)))=_;rw[if_pos (show iG (.str "clock")=ai from decide_eq_true (show("clock":Str)="clock" from rfl))]
 ·have hm:m < ps.length:=by have:=B.le;omega
  obtain⟨P,xb,xp,nm',w,as,a,H,ea,T⟩:=lA B.st.2.1 hm B.af;rw[k8 hm ea];cases a with
  |lay fs age=>exact key _ _ _ ∅
  |take gs=>exact key _ _ _ ∅
  |read gs=>exact key _ _ _ ∅
  |look gs b=>exact key _ _ _ ∅
  |go b=>exact key _ _ _ ∅
  |same f g b=>exact key _ _ _ ∅
theorem HB(okp:cH ps):∀(R:List Aa)(s:Sd)(nu:List Nat)(fr:Nat),LtI ps s nu fr R.length->nu.Pairwise (· < ·)->iC ps s nu fr R=ai->
  ∃(L:List Nat)(t:Sd)(nu':List Nat)(fr':Nat),Lgs ps s nu fr L R/\Wov ps s L t/\eB ps s nu fr R=(t,nu',fr')/\LtI ps t nu' fr' 0/\nu'.Pairwise (· < ·)/\R.map (d7 ps)=aD L/\∀r∈R,hV r
 |[],s,nu,fr,I,up,_=>⟨[],s,nu,fr,.nil,.nil,by rw[eB],I,up,rfl,λr hr=>absurd hr Aq⟩
 |d::r,s,nu,fr,I,up,h=>by
  rw[Am]at I;obtain⟨m,t,B,rfl,I2,lg2,en2⟩:=EC okp I h;obtain⟨L,t',nu',fr',h1,h2,h3,h4,h5,h6,h7⟩:=HB okp r t _ _ I2 (Ii B up) lg2;refine⟨m::L,t',nu',fr',.cons B.le B.af h1,.cons B.le B.af h2,en2.trans h3,h4,h5,?_,λx hx=>?_⟩
  ·rw[Bb,Ij B,h6];rfl
  ·rcases Ao.mp hx with rfl|hx
   ·exact I.rw B
   ·exact h7 x hx
theorem Nj(k:Q (.d (.tuple xs)) n):dY [.d (.list xs)] n Q:=k
theorem uF(h:hV d)(q:Q (.d (d7 ps d)) n):eu (cT (w2 (w2 ↥0 ⇑0 aA) (wC (.str "clock")) aT)) (wB bj (aq (w2 ↥1 ⇑0 aA) ao)) (w2 ↥0 ⇑1 aA) [ae (.w (.d d)),ae (.w (.d (.tuple [a8 ps,bK ns])))] n Q:=by
 obtain⟨x,b,r,rfl,_,_⟩:=wF h;refine fN (b:=decide (x="clock")) (λQ q=>aF (k:=decide (x="clock")) (λQ q=>ar (ar (au rfl (aC (bO (aC q)))))) q) ?_;have e:d7 ps (.tuple (.str x::b::r))=if decide (x="clock")=ai then .int ps.length else b:=rfl
 rw[e]at q;by_cases hx:x="clock"
 ·rw[if_pos (decide_eq_true hx)]at q ⊢;refine aU (ar (au rfl (aC (bO (o3 ?_)))));rw[Ab];exact q
 ·rw[if_neg (by rw[decide_eq_false hx];exact Ae)]at q ⊢;exact ar (au rfl (aC (cV q)))
theorem Na(h:kh q):Ye (bI q):=by
 obtain⟨⟨⟨h4,h1⟩,hv⟩,hg⟩:=h;exact l8 (jB (λx hx=>tT (hv x hx)) ⋯) (CU hg)
theorem J8(h:dg 60 ns):SmlA (bK ns):=by
 have hs:Sm 8 900000 (bK ns):=(jZ (k:=4) (w:=3000) (m:=60) (λx hx=>by
  obtain⟨q,hq,rfl⟩:=A7.mp hx;exact(Na (h.2 q hq)).2) (by rw[Ab];exact h.1)).up ∎ ∎
 have h2:Small (bK ns):=hs.small ∎ ∎;exact⟨h2.1,h2.2.1,h2.2.2.2.2,h2.len⟩
theorem Td:bV xQ FT ["_law_plan_here","_law_log_here","_law_book_here","_law_movers_here","_law_notes_here"]:=λws n Q h=>by
 obtain⟨ps,ns,R,rfl,ok,k⟩:=h;obtain⟨pl,hR,hy,lt⟩:=id ok;have h12:=pl.2.2.1;obtain⟨L,t,nu,fr,lg,wv,en,I,up,em,rwz⟩:=HB pl.1 R (d8 ps,ns) (A3 ns.length) ns.length (j6 pl ⋯) List.pairwise_lt_range lt;have hL:L.length=R.length:=(sJ lg).symm;have ebk:rA ps ns R=bC nu t.2:=by unfold rA;rw[en]
 have hln:=I.nk.len;have h60:=I.okn.1;show FT [ae (.w (.d (.tuple [a8 ps,bK ns]))),ae (.w (.d (.list R))),ah,ah,ah] n _;refine aE (show aB 2 _ _ _ _ from bG (au rfl (au rfl ⟨ps,ns,R,rfl,ok,?_⟩)));rw[ebk];dsimp only[Al];refine bS (λQ q=>aF (k:=aj) (λQ q=>ar (au rfl (aC (.inl ⟨_,rfl,rfl,q⟩)))) q) ?_;refine aE (bA (x:=.list (aD L)) (λQ q=>bb (vR (λQ q=>au rfl q) (xC hV (d7 ps) (λd n Q' hd q=>uF hd q) R [] ah n rwz (by rw[em];exact q)))) ?_);dsimp only[Al];have sml:SmlA (.list R):=(jU hy ⋯).sml;refine bS (λQ q=>aF (k:=aj) (λQ q=>ar (aU (bb (Ho (au rfl (au rfl ⟨ps,ns,L,R,_,rfl,.inr rfl,⟨pl.1,pl.2.1,pl.2.2,by omega,lg⟩,tE sml (aU (au rfl (tE sml (OG q))))⟩)))))) q) ?_;refine aE (bA (x:=bK t.2) (λQ q=>ar (b7 (ar (au rfl (aC (bO (cF (au rfl ⟨ps,ns,rfl,pl.1.1,au rfl ⟨ps,(d8 ps,ns),t,L,_,rfl,.inr rfl,pl.1,pl.2.1,⟨by show ns.length<=_;omega,pl.2.2.2⟩,by omega,wv,aC (cV q)⟩⟩)))))))) ?_);dsimp only[Al];have sml2:SmlA (bK t.2):=J8 ⟨by omega,I.okn.2⟩;refine bc (ar (aU (au rfl (tE sml2 (aU (aU (bb ?_)))))));show d5 (aZ (qC ↥2)) _ _ _;refine(show aZ (qC ↥2) _ _ _ from bb (show ak 2 _ _ _ from au rfl ⟨bC nu t.2,rfl,by rw[mX hln];omega,λys hp hw=>?_⟩));have up':(nu.map λi:Nat=>(i:Int)).Pairwise (·<=·):=by
  rw[Ey];exact up.imp λh=>by omega
 rw[kl hln]at hp;rw[IE up' hp hw];have e1:(nu.map λi:Nat=>(i:Int)).map Cp=(nu.zip t.2).map λz:Nat×Nt=>Cp (z.1:Nat):=by
  rw[<-kl hln,nP,Bt,Bt];rfl
 show c7 _ _ _ _ ((nu.map λi:Nat=>(i:Int)).map Cp) _ [ah,ae (.w (.ob (.k (de (bC nu t.2)))))] n;rw[e1];refine iR (λz:Nat×Nt=>.int (z.1:Nat)) (λz:Nat×Nt=>bI z.2) (λ_=>ai) (nu.zip t.2) [] ah n (λz hz n Q' q=>q) (λz hz n Q' q=>ar (au rfl (au rfl ⟨_,_,_,rfl,rfl,AV hln I.nk.nd hz,q⟩))) ?_;have e2:([]++((nu.zip t.2).filter λ_=>ai).map λz:Nat×Nt=>bI z.2)=t.2.map bI:=by
  have hz:(nu.zip t.2).map (·.2)=t.2:=List.map_snd_zip ⋯;rw[Eg.mpr λ_ _=>rfl,Bv,show((nu.zip t.2).map λz:Nat×Nt=>bI z.2)=((nu.zip t.2).map (·.2)).map bI by rw[Bt];rfl,hz]
 rw[e2];exact Nj (tE sml2 (LN k))
theorem Vq(okp:cH ps)(h:Lgs ps s nu fr L R):LtI ps s nu fr L.length->iC ps s nu fr R=ai/\∀r∈R,hV r:=by
 induction h with
 |nil=>exact λ_=>⟨by rw[iC],λr hr=>absurd hr Aq⟩
 |@cons s t nu fr m L R hm af hL ih=>
  intro I;obtain⟨B,I2⟩:=I.step okp hm af;obtain⟨h1,h2⟩:=ih I2;have em:kJ ps (.int m)=ae m:=by rw[rL,if_pos ⟨by omega,by omega⟩,Bi]
  have ea:gR ps s.1 s.2 (.int m)=ae t:=by unfold gR;rw[em];exact af
  have en:fq ps (.int m)=m:=by unfold fq;rw[em];rfl
  refine⟨?_,λr hr=>?_⟩
  ·rw[u6,Ij B,ea];show(gq _ _&&_)=ai;rw[en,km rfl,Fo];exact h1
  ·rcases Ao.mp hr with rfl|hr
   ·exact I.rw B
   ·exact h2 r hr
def Lgg(d:Aa):Prop:=∃R:List Aa,d=.list R/\R.length<=16/\∀r∈R,hV r
theorem Lgg.th(h:Lgg d):okTh d:=by
 obtain⟨R,rfl,hl,hr⟩:=h;exact jU (λr z=>vE (hr r z)) ⋯
theorem Mk(pl:ij ps ns)(hl:L.length<=16)(W:Wlk ps (d8 ps,ns) L S):∃R,kr ps ns L R/\Lgg (.list R)/\fK ps ns (.list R)=ai:=by
 have hlt:L.length < S.length:=by rw[W.len];exact Nat.lt_succ_self _
 have:=zR W L.length 0 ⋯ W.fst (by rw[Nat.zero_add];exact Af hlt);rw[List.drop_zero,F0 (An _)]at this;obtain⟨R,h⟩:=M6 this (A3 ns.length) ns.length;obtain⟨h1,h2⟩:=Vq pl.1 h (j6 pl ⋯);exact⟨R,⟨pl.1,pl.2.1,pl.2.2,by omega,h⟩,⟨R,rfl,by rw[sJ h];exact hl,h2⟩,h1⟩
theorem vc(k:Q (.d a) n):aX (.d (.tuple (a::r))) (.d (.int 0)) n Q:=bO (r:=r) k
theorem uV{mo:Nat}{j:Int}(ej:j=mo)(h1:δ[1]?=ae (ae (.w .tp)))(hi:δ[i]?=ae (ae (.w (.d (.tuple [a8 ps,bK ns])))))(pl:ij ps ns)(hm:mo<=16)(hn:n+62 < 2 ^ 39)
  (k:∀(L:List Nat)(S:List Sd)(n':Int),Wlk ps (d8 ps,ns) L S->L.length<=16->n'<=n+62->Q (.d (.tuple [.list (aD L),.list (S.map cM)])) n'):
  aH rQ (aq ↥1 (aq (w2 (ak i) ⇑0 aX) (aq (aH m8 (aq (ak i) ao)) (aq (wC (.int j)) ao)))) δ n Q:=by
 subst ej;exact kf (au h1 (ar (au hi (aC (vc (cF (au hi ⟨ps,ns,rfl,pl.1.1,aC ⟨ps,(d8 ps,ns),mo,rfl,hm,pl.1,pl.2.1,pl.2.2,hn,k⟩⟩)))))))
theorem tY(k:Q (.d (.int (a-b))) n):bY (λi j=>.int (i-j)) (.d (.int a)) (.d (.int b)) n Q:=k
theorem Ug(e:δ[j]?=ae (ae (.own ds)))(k:K.nx (δ.set i (ae (.own ds))) n):bz i (jt (dM j)) δ n K:=by
 unfold bz jt;exact gw e k
theorem OM(k:Q (.d a) n):aX (.d (.list (a::r))) (.d (.int 0)) n Q:=by
 show(match cX (a::r) 0 with|some d=>Q (.d d) n|none=>False);rw[AI];exact k
theorem SQ(k:Q (.d b) n):aX (.d (.list (a::b::r))) (.d (.int 1)) n Q:=by
 show(match cX (a::b::r) 1 with|some d=>Q (.d d) n|none=>False);rw[yD];exact k
abbrev vq(a:Aa)(g:List Aa)(x4 x5 x6 x7 x8:Option SV):Sl:=[ah,ae (.w .tp),ae (.w (.d a)),ae (.own g),x4,x5,x6,x7,x8]
abbrev Za:List Str:=["_law_script","_law_tape_here","_law_plan_here","_law_logs","_law_k","_law_movers_here","_law_stands","_law_things","_law_thing"]
theorem L5:yS (ah::ae (.w .tp)::De (Dv Za-2) ah) 0 n6:=by
 show yS [ah,ae (.w .tp),ah,ah,ah,ah,ah,ah,ah] 0 n6;refine aE (show aB 2 _ _ _ _ from cF (au rfl (Aj rfl ⟨by decide,λps ns n1 hp hf okn hn1=>?_⟩)));dsimp only[Al];have pl:ij ps ns:=⟨hp,TV hp hf,okn⟩;refine aE (iM ?_);dsimp only[Al];refine aE (Il 2 rfl ∎ ?_);refine eV (λds δ n=>∃(g:List Aa)(x4 x5 x6:Option SV),δ=vq (.tuple [a8 ps,bK ns]) g x4 x5 x6 ah ah/\(∀d∈g,Lgg d/\fK ps ns d=ai)/\g.length+ds.length=2/\n+70*(ds.length:Int)<=4400) (λδ n I=>?_) (λd' t δ n N I kN=>?_) _ _ _ ⟨[],_,_,_,rfl,λd hd=>absurd hd Aq,by rw[e9];rfl,by rw[e9];omega⟩
 ·obtain⟨g,x4,x5,x6,rfl,hg,hgl,hn⟩:=I;have hg2:g.length=2:=by simpa using hgl
  have hn':n<=4400:=by simpa using hn
  dsimp only;refine aE (Ug rfl ?_);dsimp only[Al];refine aE (Il 6 rfl ∎ ?_);refine eV (λds δ n=>∃(th:List Aa)(x4 x5 x6:Option SV),δ=vq (.tuple [a8 ps,bK ns]) g x4 x5 x6 (ae (.own th)) ah/\(∀d∈th,okTh d)/\th.length+ds.length=8/\(∀d∈ds,∃j:Int,d=.int j)/\n+5*(ds.length:Int)<=4430) (λδ n I=>?_) (λd' t δ n N I kN=>?_) _ _ _ ⟨g,_,_,_,rfl,λd hd=>(hg d hd).1.th,by rw[e9,hg2],λd hd=>?_,by rw[e9];omega⟩
  ·obtain⟨th,y4,y5,y6,rfl,hth,htl,_,hn⟩:=I;dsimp only;refine gy rfl ?_;dsimp only[Al];refine aE (DW (λQ q=>au rfl q) ?_);refine eV (λds δ m=>m=n/\(∀d∈ds,okTh d)/\∃(x8:Option SV),δ=vq (.tuple [a8 ps,bK ns]) g y4 y5 y6 (ae (.w (.d (.list th)))) x8) (λδ m I=>?_) (λd r δ m N I kN=>?_) _ _ _ ⟨rfl,hth,_,rfl⟩
   ·obtain⟨rfl,_,x8,rfl⟩:=I;dsimp only;refine gy rfl (bc ?_);dsimp only[Al];obtain⟨a,b,eg⟩:∃a b,g=[a,b]:=by
     match g,hg2 with
     |[a,b],_=>exact⟨a,b,rfl⟩
    subst eg;have ha:=hg a As;have hb:=hg b (Ar _ As);have is_t:∀(x:Aa)(Q:DQ),fK ps ns x=ai->Q (.d (.bool ai)) m->jd aj (.d (.bool (fK ps ns x))) (.d (.bool ai)) m Q:=λx Q e q=>show Q (.d (.bool (fK ps ns x==ai))) m by rw[e];exact q
    refine yT (λQ q=>ar (bG (au rfl (ar (au rfl (aC (OM ⟨ps,ns,a,rfl,pl,ha.1.th,aC (is_t a Q ha.2 q)⟩))))))) ?_;exact ar (bG (au rfl (ar (au rfl (aC (SQ ⟨ps,ns,b,rfl,pl,hb.1.th,aC (is_t b _ hb.2 rfl)⟩))))))
   ·obtain⟨rfl,hd,x8,rfl⟩:=I;dsimp only[aI,Al];have hdd:=hd d As;refine aQ (λQ q=>?_) (kN _ _ ⟨rfl,λx hx=>hd x (Ar _ hx),_,rfl⟩);cases hb:fK ps ns d with
    |false=>exact mr (λQ q=>aF (k:=aj) (λQ q=>bG (au rfl (au rfl ⟨ps,ns,d,rfl,pl,hdd,by rw[hb];exact q⟩))) q) q
    |true=>
     obtain⟨R,rfl⟩:∃R,d=.list R:=by
      cases d with
      |list R=>exact⟨R,rfl⟩
      |_=>cases hb
     obtain⟨hl,hy⟩:=hdd.2 R rfl;refine lN (λQ q=>aF (k:=ai) (λQ q=>bG (au rfl (au rfl ⟨ps,ns,.list R,rfl,pl,hdd,by rw[hb];exact q⟩))) q) ?_;exact jC (k:=ai) (λQ q=>aF (k:=ai) (λQ q=>bG (au rfl (au rfl ⟨ps,ns,R,rfl,⟨pl,hl,hy,hb⟩,q⟩))) q) q
  ·obtain⟨th,y4,y5,y6,rfl,hth,htl,hj,hn⟩:=I;obtain⟨j,rfl⟩:=hj _ As;rw[Am]at hn htl;dsimp only[aI,Al];refine jm rfl (b7 (au rfl (ar (gw rfl (ar (au rfl (aC (Aj (show(0:Int) < 2 by decide) ?_))))))));refine oZ (Eu _ ∎) (by rw[hg2];exact D5 _ ∎) λa ha=>?_;refine ar (gw rfl (ar (aC (ar (au rfl (aC (Aj (show(0:Int) < 2 by decide) ?_)))))));have m0:=Eu j (show(2:Int)≠0 by decide);have m1:=D5 j (show(0:Int) < 2 by decide);refine tY ?_;refine oZ ⋯ (by rw[hg2];omega) λb hb=>?_;obtain⟨R1,rfl,l1,r1⟩:=(hg a ha).1;obtain⟨R2,rfl,l2,r2⟩:=(hg b hb).1;refine⟨R1,R2,rfl,l1,l2,r1,r2,by omega,λd n' hd hn'=>⟨by omega,?_⟩⟩;dsimp only[Al];exact kN _ _ ⟨th++[d],_,_,_,rfl,hX hth (ir hd),by rw[Ai];show _+1+_=_;omega,λx hx=>hj x (Ar _ hx),by omega⟩
  ·obtain⟨i,_,rfl⟩:=A7.mp hd;exact⟨_,rfl⟩
 ·obtain⟨g,x4,x5,x6,rfl,hg,hgl,hn⟩:=I;rw[Am]at hn hgl;dsimp only[aI,Al];refine aE (show cP _ _ _ _ _ from uV (mo:=16) rfl rfl rfl pl ∎ ⋯ λL S n3 W hL hn3=>⟨rfl,?_⟩);dsimp only[br,cv,aI,Al];obtain⟨R,ok,lg,lt⟩:=Mk pl hL W;refine jW (x:=.list R) rfl (λQ q=>bG (au rfl (au rfl ⟨ps,ns,L,R,rfl,ok,q⟩))) ⋯ ?_;dsimp only[Al];exact kN _ _ ⟨g++[.list R],_,_,_,rfl,λd hd=>(Bc.mp hd).elim (hg d) λz=>by rw[Bj.mp z];exact⟨lg,lt⟩,by rw[Ai];show _+1+_=_;omega,by omega⟩
end Nb
namespace Nb
open PySem L2
section
variable{P:Bg}{w:B3}{K:Ah}{mg:Str->Option Ak}{base:Heap}
abbrev Zb:List Str:=["_law_script"]
theorem S4:FnScope Zb Zb (dH GR):=⟨rfl,rfl,rfl,by decide +kernel,rfl,by decide +kernel,by decide +kernel⟩
theorem Qx(F:Fun K "_law_tape" "_law_tape" GR f fd):FnOk P w K mg base dS 1 f fd Zb (pH K):=by
 refine F.ok S4 (λvs H Q E h=>?_) (λcdv A outer s H vs Q E hr h=>?_)
 ·obtain⟨a,ns,rfl,_⟩:=h;rfl
 ·obtain⟨a,ns,rfl,hS,hl,k⟩:=h;refine⟨_,m7 (l7 (wU (cU (rC uP (pv 0) BR (Ha df)) (cU df (cU df (cU (wU (cU rP (cU rP (cU rP (cU df (cU df (cU df (cU df eI)))))))) eI)))))),?_⟩;refine⟨_,rfl,_,rfl,a,_,rfl,hS,λp hp=>⟨small (by simp),λg hg=>⟨small (by simp),λq hq=>?_⟩⟩⟩;rw[UJ (by rw[Ab];exact hl)]at hg hq ⊢;have hgp:g≠p:=λz=>by rw[z,bB]at hg;cases hg
  have hg0:H g=ah:=by rw[aY hgp]at hg;exact hg
  have hqg:q≠g:=λz=>by rw[z,bB]at hq;cases hq
  rw[aY hqg]at hq;have hqp:q≠p:=λz=>by rw[z,bB]at hq;cases hq
  have hq0:H q=ah:=by rw[aY hqp]at hq;exact hq
  refine k q ⟨p,g⟩ _ ⟨⟨0,0,bB,Int.le_refl _,Int.le_refl _⟩,by rw[aY hqp.symm,aY hgp.symm,bB],hl,(λz=>by rw[aY hqg.symm,bB];rfl),hqg.symm⟩ λb o e=>?_;rw[aY (cR e hq0),aY (cR e hg0),aY (cR e hp)];exact e
abbrev Zg:List Str:=["_law_tape_here","_law_many"]
theorem scDraw:FnScope ["_law_tape_here","_law_many","_law_found","_law_spot","_law_cell","_law_mixed"] Zg (dH BJ):=⟨rfl,rfl,rfl,by decide +kernel,rfl,by decide +kernel,by decide +kernel⟩
theorem PD{R:Prop}{G:Int->Prop}(use:(∀c,G c)->R)(fin:∀c,G c):R:=use fin
theorem J3{R G:Prop}(use:G->R)(fin:G):R:=use fin
theorem SD(F:Fun K "_law_draw" "_law_draw" BJ f fd)(zl:mg "len"=ah):FnOk P w K mg base dS 1 f fd Zg Hb:=by
 refine F.ok scDraw (λvs H Q E h=>?_) (λcdv A outer s H vs Q E hr h=>?_)
 ·obtain⟨t,l,ns,n,many,rfl,_⟩:=h;rfl
 ·obtain⟨t,l,ns,n,many,rfl,T,hn,hm0,hm1,k⟩:=h;obtain⟨a,b,ht,ha0,ha1⟩:=T.ob;have ntl:=T.ne;have hl:=T.ls;have hlen:=T.len;refine⟨_,iT (qL (kB op_gt (gZ ix_list (pv 0) df (λ_ _=>rfl)) df (oI _))
    (iT (jF (i:=2) scDraw.nd rfl (Ce rfl) (fi j9 (gZ ix_list (pv 0) df (λ_ _=>rfl)) (pv 1)))
     (iT (mI (fi AY (gZ ix_list (pv 0) df (λ_ _=>rfl)) (pv 1)) (nG (pv 0) df m3))
     (m7 (l7 (pv 2))))) rT)
   (iT (jF (i:=3) scDraw.nd rfl (Ce rfl) (gZ ix_list (pv 0) df (λ_ _=>rfl)))
   (iT (mI (fi op_add (pv 3) df) (nG (pv 0) df m3))
   (iT (jF (i:=4) scDraw.nd rfl (Ce rfl) df)
   (iT (qL (kB op_gt (jP sj (by rfl) zl PySem.boot_len (cU (gZ ix_list (pv 0) df (λ_ _=>rfl)) eI)) df (oI _))
    (m7 (jF (i:=4) scDraw.nd rfl (Ce rfl) (gZ ix_list (gZ ix_list (pv 0) df (λ_ _=>rfl))
     (fi j9 (pv 3) (jP sj (by rfl) zl PySem.boot_len (cU (gZ ix_list (pv 0) df (λ_ _=>rfl)) eI))) (λ_ _=>rfl)))) rT)
   (iT (qL (PW.pt (Iq (kB PJ (pv 4) (fi U6 df df) (oI _))
     (GB (kB op_lt (pv 3) (jP sj (by rfl) zl PySem.boot_len (cU (gZ ix_list (pv 0) df (λ_ _=>rfl)) eI)) (oI _)))))
    (iT (mI (fi AY (pv 4) (pv 1)) (nG (pv 0) df m3)) (m7 (l7 (fi j9 (pv 4) (pv 1))))) rT)
   (iT (jF (i:=5) scDraw.nd rfl (Ce rfl) (fi j9 (fi mO (fi op_add (fi op_add (fi j9 (pv 4) df) (fi mO (fi mO df (pv 3)) (pv 3))) df) df) df))
   (m7 (l7 (fi j9 (fi j9 (fi mO (fi j9 (fi op_add (fi mO (pv 5) df) (fi mO (pv 3) df)) df) df) df) (pv 1)))))))))),?_⟩
  refine⟨_,rfl,t,_,2,_,rfl,rfl,SqL.of ht,fG (j:=2) rfl,_,_,rfl,rfl,_,rfl,?_⟩;refine jY (λ_=>?_) (λ_=>?_)
  ·-- found=tape[2] % many;tape[2]=tape[2] // many;return found
   refine⟨_,rfl,t,_,2,_,rfl,rfl,SqL.of ht,fG (j:=2) rfl,_,rfl,_,_,rfl,rfl,hm0,?_⟩;refine⟨_,rfl,t,_,2,_,rfl,rfl,SqL.of ht,fG (j:=2) rfl,_,rfl,_,_,rfl,rfl,⟨hm0,hm1⟩,?_⟩;refine⟨_,rfl,t,_,2,2,rfl,rfl,ht,rfl,?_⟩;refine⟨_,rfl,?_⟩;refine k _ _ (Eu _ ⋯) (D5 _ hm0) ⟨⟨a,b / many,bB,ha0,by omega⟩,by rw[aY ntl.symm];exact hl,hlen,(λz=>by rw[aY T.gne];exact T.ag z),T.gne⟩ Kp.tape
  ·-- spot=tape[1];tape[1]=spot+1;cell=0
   refine⟨_,rfl,t,_,1,_,rfl,rfl,SqL.of ht,fG (j:=1) rfl,?_⟩;refine⟨_,rfl,_,_,rfl,rfl,_,rfl,t,_,1,1,rfl,rfl,ht,rfl,?_⟩;have ht1:∀o,upd H t o t=ae o:=λo=>bB;have hl1:∀o,upd H t o l.s=ae (.lst (ns.map V.int)):=λo=>by rw[aY ntl.symm];exact hl
   generalize hH1:upd H t (.lst (((.ref l.s::.int a::.int b::j4 l:List V)).set 1 (.int (a+1))))=H1;have g1:H1 t=ae (.lst (.ref l.s::.int (a+1)::.int b::j4 l)):=by rw[<-hH1];exact bB
   have g2:H1 l.s=ae (.lst (ns.map V.int)):=by rw[<-hH1];exact hl1 _
   have g3:Kp t H H1:=by rw[<-hH1];exact Kp.tape
   have g4:pb=ai->H1 l.g=ae (.lst sP):=λz=>by rw[<-hH1,aY T.gne];exact T.ag z
   refine⟨_,rfl,t,_,0,_,rfl,rfl,SqL.of g1,fG (j:=0) rfl,l.s,_,rfl,.inl (SqL.of g2),_,_,rfl,rfl,_,rfl,?_⟩;apply PD
   case use=>
    intro fin;refine jY (λhp=>?_) (λ_=>?_)
    ·have hpos:(0:Int) < ((ns.map V.int).length:Int):=of_decide_eq_true hp;obtain⟨v,hv,hm⟩:=KQ (xs:=ns.map V.int) (r:=a % ((ns.map V.int).length:Int)) (Eu _ ⋯) (D5 _ hpos);obtain⟨c,_,rfl⟩:=A7.mp hm;refine⟨_,rfl,t,_,0,_,rfl,rfl,SqL.of g1,fG (j:=0) rfl,_,rfl,_,rfl,t,_,0,_,rfl,rfl,SqL.of g1,fG (j:=0) rfl,l.s,_,rfl,.inl (SqL.of g2),_,_,rfl,rfl,hpos,l.s,_,_,.int c,rfl,rfl,SqL.of g2,hv,?_⟩;exact fin c
    ·exact fin 0
   case fin=>
    intro c;refine⟨_,rfl,_,_,rfl,rfl,⟨by decide,by decide,by decide⟩,_,_,rfl,rfl,_,rfl,?_⟩;apply J3
    case use=>
     intro fin;refine jY (λ_=>?_) (λ_=>?_)
     ·refine⟨_,rfl,_,rfl,t,_,0,_,rfl,rfl,SqL.of g1,fG (j:=0) rfl,l.s,_,rfl,.inl (SqL.of g2),_,_,rfl,rfl,_,rfl,?_⟩;refine jY (λ_=>?_) (λ_=>fin);refine⟨_,rfl,_,rfl,_,_,rfl,rfl,⟨hm0,hm1⟩,_,rfl,t,_,2,2,rfl,rfl,g1,rfl,_,rfl,_,rfl,_,_,rfl,rfl,hm0,?_⟩;exact k _ _ (Eu _ ⋯) (D5 _ hm0) ⟨⟨a+1,_,bB,by omega,by omega⟩,by rw[aY ntl.symm];exact g2,hlen,(λz=>by rw[aY T.gne];exact g4 z),T.gne⟩ (g3.trans Kp.tape)
     ·exact t8 fin
    case fin=>
     refine⟨_,rfl,_,_,rfl,rfl,(by show(0:Int) < 999331;decide),_,rfl,_,_,rfl,rfl,.inl ⟨by decide,by decide⟩,_,rfl,_,_,rfl,rfl,.inl ⟨by omega,by omega⟩,_,_,rfl,rfl,_,_,rfl,rfl,_,_,rfl,rfl,.inr ⟨by decide,by decide⟩,_,_,rfl,rfl,(by show(0:Int) < 999961;decide),?_⟩;refine⟨_,rfl,_,_,rfl,rfl,.inr ⟨by decide,by decide⟩,_,rfl,_,_,rfl,rfl,.inr ⟨by decide,by decide⟩,_,_,rfl,rfl,_,_,rfl,rfl,(by show(0:Int) < 999953;decide),_,_,rfl,rfl,.inr ⟨by decide,by decide⟩,_,_,rfl,rfl,(by show(0:Int) < 524287;decide),_,rfl,_,_,rfl,rfl,hm0,?_⟩;exact k _ _ (Eu _ ⋯) (D5 _ hm0) ⟨⟨a+1,b,g1,by omega,by omega⟩,g2,hlen,g4,T.gne⟩ g3
end
end Nb
namespace Nb
open PySem L2 DL
theorem JX{α:Type}{us:List α}(h:us.length=1):∃a,us=[a]:=match us,h with|[a],_=>⟨a,rfl⟩
theorem QH{α:Type}{us:List α}(h:us.length=2):∃a b,us=[a,b]:=match us,h with|[a,b],_=>⟨a,b,rfl⟩
theorem QK{α:Type}{us:List α}(h:us.length=3):∃a b c,us=[a,b,c]:=match us,h with|[a,b,c],_=>⟨a,b,c,rfl⟩
theorem Ux{α:Type}{us:List α}(h:us.length=4):∃a b c d,us=[a,b,c,d]:=match us,h with|[a,b,c,d],_=>⟨a,b,c,d,rfl⟩
theorem SJ{α:Type}{us:List α}(h:us.length=5):∃a b c d e,us=[a,b,c,d,e]:=match us,h with|[a,b,c,d,e],_=>⟨a,b,c,d,e,rfl⟩
theorem qD{N ps:List Str}{S:Er}(h1:S.kind=.function:=by rfl)(h2:S.isCoroutine=aj:=by rfl)(h3:S.isGenerator=aj:=by rfl)(h4:N.Nodup:=by decide +kernel)(h5:N.take ps.length=ps:=by rfl)(h6:∀x∈ps,S.names.lookup x=ae .local\/S.names.lookup x=ae .cell:=by decide +kernel)(h7:∀y∈S.names,y.2≠.free:=by decide +kernel):FnScope N ps S:=⟨h1,h2,h3,h4,h5,h6,h7⟩
theorem v8(h:Has X.prog X.w X.K X.mg X.base k x ps S)(hr:Room k' X.A)(ha:DA X (e::es) tR wR)(hk:k<=k')(hg:Gl X x)(hdb:(x==("__debug__":Str))=aj)(he:Au (e::es) X.env=(aj,eval e X.env)::Au es X.env)(hpl:(Cy pos (Au es X.env)).any (·.1)=aj):DE X (.Call (.Name x p) (e::es) [] pos) (jD (fQ S) [] E0 tR) (aH S wR):=Pl h (hr.mono hk) hg ha hdb he hpl
theorem vS(h:HasN X.prog X.w X.K X.mg X.base k x ps S)(hr:Room k' X.A)(ha:DA X (e::es) tR wR)(hk:k<=k')(hg:Gl X x)(hdb:(x==("__debug__":Str))=aj)(he:Au (e::es) X.env=(aj,eval e X.env)::Au es X.env)(hpl:(Cy pos (Au es X.env)).any (·.1)=aj):DF X (.Call (.Name x p) (e::es) [] pos) (jD (ny S) [] E0 tR) (my S wR):=P0 h (hr.mono hk) hg ha hdb he hpl
def MR:NameKind->Bool
 |.local=>ai
 |_=>aj
def BB:NameKind->Bool
 |.free=>ai
 |_=>aj
def nQ(sc:Er):List Str:=(sc.names.filter λy=>BB y.2).map (·.1)
def cN(sc:Er):List Str:=((sc.names.drop 1).filter λy=>MR y.2).map (·.1)++nQ sc
def o4(sc:Er)(cells:List (Str×Addr)):List (Str×Addr):=(nQ sc).reverse.map λx=>(x,(cells.lookup x).getD 0)
def qR(sc:Er):List (Str×NameKind):=sc.names.map λy=>(y.1,bif BB y.2 then .cell else y.2)
inductive Frs(X:Cx)(sc:Er):List (Option Nat)->List Str->Prop
 |nil:Frs X sc [] []
 |own {f:List (Option Nat)} {x:Str} {N:List Str} (h:Frs X sc f N):Frs X sc (ah::f) (x::N)
 |free {f:List (Option Nat)} {x:Str} {N:List Str} {i:Nat} (h1:X.N[i]?=ae x) (h2:fj X.env.scope x) (h3:X.env.kindOf x=ae .cell\/X.env.kindOf x=ae .free) (h4:(qR sc).lookup x=ae .cell\/(qR sc).lookup x=ae .free) (h5:(o4 sc X.env.cells).lookup x=X.env.cells.lookup x) (h:Frs X sc f N):Frs X sc (ae i::f) (x::N)
theorem Frs.len(h:Frs X sc f N):f.length=N.length:=by
 induction h with
 |nil=>rfl
 |own _ ih=>rw[Am,Am,ih]
 |free _ _ _ _ _ _ ih=>rw[Am,Am,ih]
theorem MZ(h1:closureFor sc X.env=pure (o4 sc X.env.cells))(h2:sc.kind=.function)(h3:∀y∈sc.names,y.2≠.cell)(h4:∀y∈sc.names,y.2=.local->sc.names.lookup y.1=ae .local)(h5:((nQ sc).all λx=>(X.env.cells.lookup x).isSome)=ai)(h6:(relabel sc X.env).names=qR sc)(h7:∀y∈qR sc,(y.2=.cell\/y.2=.free)->y.1∈(nQ sc).reverse)(h8:Frs X sc f (cN sc)):CompSc X (cN sc) sc (o4 sc X.env.cells) f:=by
 refine⟨h1,h2,h3,h4,K3 λy hy=>?_,Vo _ _ h6 (show(o4 sc X.env.cells).map (·.1)=(nQ sc).reverse by unfold o4;rw[Bt];exact List.map_id' _) h7,h8.len,?_⟩
 ·obtain⟨x,hx,rfl⟩:=A7.mp hy;obtain⟨c,hc⟩:=Dm.mp (Dq.mp h5 x (List.mem_reverse.mp hx));show X.env.cells.lookup x=ae ((X.env.cells.lookup x).getD 0);rw[hc];rfl
 ·intro j i h;rw[h6];clear h1 h2 h3 h4 h5 h6 h7;generalize cN sc=N at h8 ⊢
  induction h8 generalizing j with
  |nil=>cases h
  |own _ ih=>cases j with
   |zero=>cases h
   |succ j=>exact ih j h
  |free a b c d e _ ih=>cases j with
   |zero=>cases h;exact⟨_,rfl,a,b,c,d,e⟩
   |succ j=>exact ih j h
theorem L8(h:Frs X sc f N):Frs X sc f N:=h
theorem kC(h:X.K=K):(dh X N sc cl s H fp).K=K:=h
theorem nC(h:N.Nodup):(dh X N sc cl s H fp).N.Nodup:=h
def zL:List Str:=["all","bool","dict","enumerate","int","isinstance","len","list","range","repr","sorted","str","tuple","zip"]
theorem zU{mg:Str->Option Ak}(z:∀x∈zL,mg x=ah)(h:x∈zL):mg x=ah:=z x h
theorem Te:By "sorted"=ae (.builtin "sorted"):=by decide +kernel
section
variable{P:Bg}{w:B3}{K:Ah}{mg:Str->Option Ak}{base:Heap}{fa:Addr}{fd:Ct}
theorem K1{w:DT}(h:DE X e t w):DE X e t w:=h
theorem Uq{w:fw}(h:DA X e t w):DA X e t w:=h
theorem Rc{w:aP}(h:DS X e t w):DS X e t w:=h
theorem ua{w:aP}(h:DSs X e t w):DSs X e t w:=h
theorem Lw{w:c6}(h:DC X e t w):DC X e t w:=h
theorem Mr{w:eW}(h:DF X e t w):DF X e t w:=h
theorem Qh{w:gU}(h:DI X g e t w):DI X g e t w:=h
theorem TH{b aR:List Stmt}(e:b=st::aR)(h:DSs X (st::aR) T W):DSs X b T W:=e▸h
theorem n9(F:Fun K x x st fa fd)(h:∀(kV doc pm:Ak) (an:Option Addr) (cdv ct:Ak) (us:List Ak),us.length=ps.length->bindArgs (E3 x x (lQ st) (gP st) (dH st) .none kV doc pm an cdv ct) ⟨us,[]⟩=pure (ps.zip us):=by
 intro _ _ _ _ _ _ us hl
 first
  |obtain⟨_,rfl⟩:=JX hl;rfl
  |obtain⟨_,_,rfl⟩:=QH hl;rfl
  |obtain⟨_,_,_,rfl⟩:=QK hl;rfl
  |obtain⟨_,_,_,_,rfl⟩:=Ux hl;rfl
  |obtain⟨_,_,_,_,_,rfl⟩:=SJ hl;rfl):Binds K fd ps []:=F.binds h
def xu(x:Str)(st:Stmt)(ps:List Str):Prop:=∀{K:Ah}{fa:Addr}{fd:Ct},Fun K x x st fa fd->Binds K fd ps []
def ja(P:Bg)(w:B3)(K:Ah)(mg:Str->Option Ak)(base:Heap)(k:Nat)(x:Str)(i:Nat)(fa:Addr)(N:List Str)(b:List Stmt)(W:aP):Prop:=N.Nodup->∀(cdv:Ak)(A:Cj)(outer:List Env)(s:Ap)(H:Hp)(E:XK),Room k (A.deeper (D7 x (dH (dX i)) s.heap.objs.size fa cdv))->∃T,DSs (eE dS P w K mg base N x (dH (dX i)) fa cdv A outer s H E).nox b T W
theorem rH{N:List Str}{b:List Stmt}{W:aP}(h:N.Nodup->∀(cdv:Ak) (A:Cj) (outer:List Env) (s:Ap) (H:Hp) (E:XK),Room k (A.deeper (D7 x (dH (dX i)) s.heap.objs.size fa cdv))->∃T,DSs (eE dS P w K mg base N x (dH (dX i)) fa cdv A outer s H E).nox b T W:=by
 intro nd cdv A outer s H E hr;apply Ek;apply TH (by exact rfl)
 repeat' first
  |with_reducible first|exact PB|exact Ks|exact Sb|exact QL|exact wL|exact PySem.boot_len|exact qj|exact Gg|exact M5|exact Te|exact LM|exact yA
  |with_reducible first|apply Room.units|apply Room.units0|apply Room.hd|apply Room.gd
  |exact rfl
  |exact Ce rfl
  |exact Bs (Ce rfl)
  |exact Bs (Bs rfl)
  |exact Bs rfl
  | (with_reducible apply K1;with_reducible first|apply Pw|apply Ul|apply ON|apply v8|apply Q5|apply Kx|apply RI|apply ML|apply Qt|apply sY (Jc ?_) DR ?_ ?_ ?_ ?_ ?_ ?_ ?_ ?_|apply UP|apply Lu|apply To|apply Ku|apply RM|apply Mb|apply uq (yV ?_) AZ ?_ ?_ ?_ ?_ ?_ ?_ ?_ ?_|apply uR|apply Sa|apply mZ (uM ?_ ?_) yC|apply TK|apply sY (Jc ?_) Kl ?_ ?_ ?_ ?_ ?_ ?_ ?_ ?_|apply Qs|apply uq (yV ?_) Lq ?_ ?_ ?_ ?_ ?_ ?_ ?_ ?_|apply Jw|apply Rv|apply QM|apply uq (GJ ?_) Lp ?_ ?_ ?_ ?_ ?_ ?_ ?_ ?_|apply Lh|apply sY (MM ?_ ?_ ?_) QR ?_ ?_ ?_ ?_ ?_ ?_ ?_ ?_|apply JU|apply Ra|apply Kz|apply wQ|apply Pt|apply mZ N7 Of|apply Ri|apply Kd|apply KU|apply MV|apply Kv|apply L0|apply Ve|apply PK|apply Rj|apply JG|apply O0|apply Sw|apply SE|apply mZ (zQ ?_ ?_) tN|apply mZ (qB ?_) mi|apply mZ yv z9|apply mZ Iz ES|apply sY (NY ?_) Ry ?_ ?_ ?_ ?_ ?_ ?_ ?_ ?_|apply Qq AE CJ AE CJ ?_ ?_ ?_ ?_|apply Ov|apply DF.d)
  | (with_reducible apply Uq;with_reducible first|apply SI|apply OL)
  | ((with_reducible apply Rc);first|((with_reducible apply VA);case hx=>exact rfl)|((with_reducible apply VG);case hx=>exact rfl)|with_reducible first|apply P5|apply vT|apply Kk|apply Jy|apply RP|apply Rm|apply Nr|apply Ui|apply LS|apply MO|apply LU|apply Lb|apply S3|apply SS|apply Kt|apply Ky|apply NU|apply Qj|apply VE)
  | (with_reducible apply ua;with_reducible first|apply T4|apply RC|apply NJ|apply M7|apply MA)
  | ((with_reducible apply Lw);first|(with_reducible apply DCW.cc;with_reducible first|apply cw_and|apply cw_or)|with_reducible first|apply gV (uM ?_ ?_) yC|apply gV (uM ?_ ?_) Li|apply gV CO EN|apply gV Ua KR|apply KD|apply gV Me RE|apply gV CO My|apply gV (ur ?_) mi|apply gV (qB ?_) mi|apply gV Iz ES|apply gV yv IA|apply gV (qB ?_) M8|apply gV (P4 ?_ ?_) tN|apply Kw|apply KO|apply O9|apply R8|apply MX|apply Rl|apply gV (zQ ?_ ?_) tN|apply gV yv z9|apply Mz)
  | (with_reducible apply Mr;with_reducible first|apply RK|apply sT|apply Qm|apply VB|apply NT|apply vS|apply M3|apply Qo|apply JO|apply Ub|apply Sn)
  | (with_reducible apply Qh;with_reducible first|apply L6|apply Mi|apply Qd|apply Tf|apply JF)
  |with_reducible first|apply Vb|apply Ta|apply Vd|apply PL|apply xZ|apply LK|apply LH|apply Tj|apply Px|apply cw_or|apply cw_or1|apply cw_and|apply cw_and1|apply FO|apply Jx|apply MW|apply MZ
  |assumption
  |with_reducible first|apply kC|apply nC
  | ((with_reducible apply L8);first|apply Frs.nil|apply Frs.own|apply Frs.free)
  |exact oI _
  |exact λ_ _=>rfl
  |exact λ_=>rfl
  |exact zU (by assumption) ∅
  |exact PassesOwn.never
  |exact⟨rfl,rfl,rfl,rfl⟩
  |with_unfolding_all rfl
  |decide
  |decide +kernel
  |omega
  |exact Bs (Bs (Ce rfl))
  |exact Bs (Bs (Bs (Ce rfl)))
  |exact Bs (Bs (Bs (Bs rfl)))
  |intro(_:Ap) _ _
  |exact(0:Int)):ja P w K mg base k x i fa N b W:=h
theorem aV(k p)(x)(F:Fun K x x (dX i) fa fd/\mg x=ae (.ref fa))(body:bV S W N)(len:∀ws n Q,S ws n Q->ws.length=p:=by(intro _ _ _ h;(repeat obtain⟨_,h⟩:=h);subst_vars;rfl))(hp:(N.take p).length=p:=by rfl)(Sc:FnScope N (N.take p) (dH (dX i)):=by exact qD)(b:xu x (dX i) (N.take p):=by intro _ _ _ F;exact n9 F)
  (h:ja P w K mg base k x i fa N (gP (dX i)) W:=by exact rH):Has P w K mg base (k+1) x (N.take p) S:=
 Has.mk' F.1 F.2 (b F.1) (Fun.okD F.1 Sc (λws n Q q=>by rw[hp];exact len ws n Q q) λcdv A outer s H E hr=>(h Sc.nd cdv A outer s H E hr).elim λT d=>⟨T,W,d,body⟩)
theorem o5{N:List Str}(k p)(x)(F:Fun K x x (dX i) fa fd/\mg x=ae (.ref fa))(body:∀ws n Q,S ws n Q->W (iK N ws) n {nx:=λ_ _=>False,rt:=λ_ _=>False,rn:=Q})(len:∀ws n Q,S ws n Q->ws.length=p:=by(intro _ _ _ h;(repeat obtain⟨_,h⟩:=h);subst_vars;rfl))(hp:(N.take p).length=p:=by rfl)(Sc:FnScope N (N.take p) (dH (dX i)):=by exact qD)(b:xu x (dX i) (N.take p):=by intro _ _ _ F;exact n9 F)
  (h:ja P w K mg base k x i fa N (gP (dX i)) W:=by exact rH):HasN P w K mg base (k+1) x (N.take p) S:=
 HasN.mk' F.1 F.2 (b F.1) (Fun.okN F.1 Sc (λws n Q q=>by rw[hp];exact len ws n Q q) λcdv A outer s H E hr=>(h Sc.nd cdv A outer s H E hr).elim λT d=>⟨T,W,d,body⟩)
theorem uC{S:Nat->bu}{W:bu->aP}(c0)(x)(F:Fun K x x (dX i) fa fd/\mg x=ae (.ref fa))(len:∀d ws n Q,S d ws n Q->ws.length=p)(z:∀ws n Q,¬S 0 ws n Q)(body:∀d ws n Q,S (d+1) ws n Q->W (S d) (iK N ws) n {nx:=λ_ n=>Q (.d .none) n,rt:=Q})(D)(hp:(N.take p).length=p:=by rfl)(Sc:FnScope N (N.take p) (dH (dX i)):=by exact qD)(b:xu x (dX i) (N.take p):=by intro _ _ _ F;exact n9 F)
  (h:∀k d:Nat,c0<=k->Has P w K mg base k x (N.take p) (S d)->ja P w K mg base k x i fa N (gP (dX i)) (W (S d)):=by intro k d hk hS;exact rH):Has P w K mg base (c0+D) x (N.take p) (S D):=by
 induction D with
 |zero=>exact Has.mk' F.1 F.2 (b F.1) ⟨λvs H Q E h=>(by obtain⟨_,_,_,_,_,_,_,_,_,_,_,q,_⟩:=h;exact absurd q (z _ _ _)),λA outer s H args us vs Q E hr he hb hv h=>(by obtain⟨_,_,_,_,_,_,_,_,_,_,_,q,_⟩:=h;exact absurd q (z _ _ _))⟩
 |succ d ih=>exact Has.mk' F.1 F.2 (b F.1) (Fun.okD F.1 Sc (λws n Q q=>by rw[hp];exact len (d+1) ws n Q q) λcdv A outer s H E hr=>(h (c0+d) d (Nat.le_add_right _ _) ih Sc.nd cdv A outer s H E hr).elim λT e=>⟨T,W (S d),e,body d⟩)
theorem Nf{aR:List Stmt}(k)(F:Fun K "law" "law" (dX i) fa fd)(GT:FnOk P w K mg base dS 1 fT fdT Zb (pH K))(bT:Binds K fdT Zb [])(mT:mg "_law_tape"=ae (.ref fT))(kT:Cz K (.ref fT)=ai)(hW:W (ah::ae (.w .tp)::De (N.length-2) ah) 0 n6)(e:gP (dX i)=s0::aR)(h0:N.Nodup->∀(cdv:Ak) (A:Cj) (outer:List Env) (s:Ap) (H:Hp) (E:XK),Room k (A.deeper (D7 "law" (dH (dX i)) s.heap.objs.size fa cdv))->PS (eE dS P w K mg base N "law" (dH (dX i)) fa cdv A outer s H E).nox s0 (dE (jD (pH K) [] E0 (dB (cq 0) ck)) (g9 1)))(hN:∀v,start N [v]=ae v::ah::De (N.length-2) ah:=by intro _;rfl)(Sc:FnScope N Zb (dH (dX i)):=by exact qD)
  (h:ja P w K mg base k "law" i fa N aR W:=by exact rH):FnOk P w K mg base dS (k+1) fa fd Zb (DL.spLaw K):=
 SO F Sc GT bT mT kT hN hW λcdv A outer s H E hr=>(h Sc.nd cdv A outer s H E hr).elim λT d=>⟨s0,aR,T,e,h0 Sc.nd cdv A outer s H E hr,d⟩
end
theorem zE(P):(zL.map λx=>PySem.W.nsIn (KK P) Dl x)=zL.map λ_=>ae ah:=by kernel_rfl
section
variable{P:Params}{h:Heap}{mg:Str->Option Ak}(X:(KK P).In h)(G:h.Ns Dl mg)
include X G
theorem yO(j:Nat)(d:Ds)(e:dL[j]?=ae d):(Fun (KK P) d.x d.x (dX d.i) d.f (lH d)/\mg d.x=ae (.ref d.f))/\Cz (KK P) (.ref d.f)=ai:=by
 have q:=IF (UC P) e;obtain⟨q1,q2⟩:=Prod.mk.inj q;obtain⟨q2,q3⟩:=Prod.mk.inj q2;have k:Cz (KK P) (.ref d.f)=ai:=by
  unfold Cz;simp only[q2]
 exact⟨⟨N2 q2 q3 k,PySem.W.mg_of X G q1⟩,k⟩
theorem zK(x)(h:x∈zL):mg x=ah:=by
 obtain⟨j,e⟩:=B8.mp h;exact PySem.W.mg_none_of X G (IF (zE P) e)
end
abbrev pR:Bg:=PySem.W.OpenLaw.prog PySem.Challenge.rw_noteboard_k30_whole_let_by_logs_are_weav
structure Cv where
 P:Bg
 w:B3
 K:Ah
 mg:Str->Option Ak
 base:Heap
abbrev gY(c:Cv):Prop:=Has c.P c.w c.K c.mg c.base 1 "_law_draw" Zg cy
abbrev zD(c:Cv):Prop:=Has c.P c.w c.K c.mg c.base 1 "kind_of" ["thing"] nA
abbrev CN(c:Cv):Prop:=Has c.P c.w c.K c.mg c.base 8 "are_alike" ["one","other"] (ka 6)
abbrev GI(c:Cv):Prop:=Has c.P c.w c.K c.mg c.base 1 "is_whole" ["thing"] vt
abbrev IJ(c:Cv):Prop:=Has c.P c.w c.K c.mg c.base 1 "field_fits" ["field","value","having","bound"] jO
abbrev wN(c:Cv):Prop:=Has c.P c.w c.K c.mg c.base 2 "fits" ["pattern","row","names"] qA
abbrev BM(c:Cv):Prop:=Has c.P c.w c.K c.mg c.base 1 "next_value" ["value"] xE
abbrev xK(c:Cv):Prop:=Has c.P c.w c.K c.mg c.base 2 "field_value" ["field","having"] o7
abbrev Hx(c:Cv):Prop:=Has c.P c.w c.K c.mg c.base 3 "filled" ["template","names"] ug
abbrev uD(c:Cv):Prop:=Has c.P c.w c.K c.mg c.base 1 "first_stand" ["plan"] rR
abbrev IP(c:Cv):Prop:=Has c.P c.w c.K c.mg c.base 2 "is_within" ["thing","most"] uJ
abbrev rO(c:Cv):Prop:=Has c.P c.w c.K c.mg c.base 1 "next_act" ["programs","stand","hand"] iH
abbrev vQ(c:Cv):Prop:=Has c.P c.w c.K c.mg c.base 3 "gets" ["programs","stand","hand"] mQ
abbrev yk(c:Cv):Prop:=Has c.P c.w c.K c.mg c.base 1 "gone_on" ["place","names"] nF
abbrev yr(c:Cv):Prop:=Has c.P c.w c.K c.mg c.base 1 "gone_to" ["program","block","names"] oN
abbrev xw(c:Cv):Prop:=Has c.P c.w c.K c.mg c.base 1 "with_hand" ["hands","hand","place"] jT
abbrev CP(c:Cv):Prop:=Has c.P c.w c.K c.mg c.base 4 "got" ["programs","stand","hand","act"] oM
abbrev Ir(c:Cv):Prop:=Has c.P c.w c.K c.mg c.base 3 "is_same_value" ["act","names"] xr
abbrev Ih(c:Cv):Prop:=Has c.P c.w c.K c.mg c.base 5 "hand_moved" ["programs","stand","hand"] t5
abbrev EJ(c:Cv):Prop:=Has c.P c.w c.K c.mg c.base 1 "aged" ["note"] vI
abbrev AO(c:Cv):Prop:=Has c.P c.w c.K c.mg c.base 2 "clock_moved" ["stand"] wA
abbrev vp(c:Cv):Prop:=Has c.P c.w c.K c.mg c.base 6 "after" ["programs","stand","mover"] pL
abbrev w4(c:Cv):Prop:=Has c.P c.w c.K c.mg c.base 2 "first_board" ["plan"] sO
abbrev GY(c:Cv):Prop:=Has c.P c.w c.K c.mg c.base 1 "clock_row" ["board"] xg
abbrev BK(c:Cv):Prop:=Has c.P c.w c.K c.mg c.base 4 "hand_row" ["programs","board","hand","behind"] uU
abbrev FY(c:Cv):Prop:=Has c.P c.w c.K c.mg c.base 5 "row_of" ["programs","board","mover","behind"] vh
abbrev HU(c:Cv):Prop:=Has c.P c.w c.K c.mg c.base 1 "went_by" ["row"] xM
abbrev HI(c:Cv):Prop:=Has c.P c.w c.K c.mg c.base 2 "board_behind" ["board","row","behind"] vy
abbrev wg(c:Cv):Prop:=Has c.P c.w c.K c.mg c.base 7 "logged" ["programs","board","mover"] qv
abbrev yW(c:Cv):Prop:=HasN c.P c.w c.K c.mg c.base 8 "log_of" ["plan","movers"] t7
abbrev GW(c:Cv):Prop:=Has c.P c.w c.K c.mg c.base 1 "mover_told" ["programs","row"] yt
abbrev Ic(c:Cv):Prop:=Has c.P c.w c.K c.mg c.base 9 "lets_log" ["plan","thing"] ql
abbrev Hd(c:Cv):Prop:=Has c.P c.w c.K c.mg c.base 7 "woven" ["programs","stand","movers"] xa
abbrev om(c:Cv):Prop:=Has c.P c.w c.K c.mg c.base 2 "_law_value" Zc lD
abbrev tG(c:Cv):Prop:=Has c.P c.w c.K c.mg c.base 2 "_law_size" Zc mG
abbrev yh(c:Cv):Prop:=Has c.P c.w c.K c.mg c.base 2 "_law_age" Zc pq
abbrev Hl(c:Cv):Prop:=Has c.P c.w c.K c.mg c.base 3 "_law_pattern" Zd wV
abbrev yJ(c:Cv):Prop:=Has c.P c.w c.K c.mg c.base 3 "_law_template" Zd ya
abbrev yU(c:Cv):Prop:=Has c.P c.w c.K c.mg c.base 3 "_law_term" Zd rM
abbrev Iy(c:Cv):Prop:=Has c.P c.w c.K c.mg c.base 4 "_law_act" ["_law_tape_here","_law_known","_law_open_ones"] px
abbrev AD(c:Cv):Prop:=Has c.P c.w c.K c.mg c.base 5 "_law_program" Zc ue
abbrev AW(c:Cv):Prop:=Has c.P c.w c.K c.mg c.base 3 "_law_notes" ["_law_tape_here","_law_most"] tH
abbrev Jj(c:Cv):Prop:=Has c.P c.w c.K c.mg c.base 6 "_law_plan" Zc uB
abbrev Ig(c:Cv):Prop:=Has c.P c.w c.K c.mg c.base 1 "_law_fit" ["_law_pattern_here","_law_row_here","_law_names"] uy
abbrev Zf:List Str:=["_law_programs","_law_stand","_law_hand"]
abbrev oA(c:Cv):Prop:=Has c.P c.w c.K c.mg c.base 1 "_law_next_act" Zf iH
abbrev qN(c:Cv):Prop:=Has c.P c.w c.K c.mg c.base 2 "_law_got" Zf nL
abbrev Ht(c:Cv):Prop:=Has c.P c.w c.K c.mg c.base 3 "_law_can" Zf sS
abbrev ve(c:Cv):Prop:=Has c.P c.w c.K c.mg c.base 1 "_law_filled" ["_law_template_here","_law_has"] qr
abbrev CV(c:Cv):Prop:=Has c.P c.w c.K c.mg c.base 1 "_law_to_block" ["_law_program_here","_law_names","_law_block"] lZ
abbrev G2(c:Cv):Prop:=Has c.P c.w c.K c.mg c.base 1 "_law_of_term" ["_law_term_here","_law_names"] sC
abbrev yi(c:Cv):Prop:=Has c.P c.w c.K c.mg c.base 3 "_law_move" ["_law_programs","_law_stand","_law_mover"] qm
abbrev HJ(c:Cv):Prop:=HasN c.P c.w c.K c.mg c.base 4 "_law_movers" ["_law_programs","_law_stand"] wI
abbrev GC(c:Cv):Prop:=Has c.P c.w c.K c.mg c.base 5 "_law_walk" ["_law_tape_here","_law_programs","_law_stand","_law_most"] rQ
abbrev uW(c:Cv):Prop:=Has c.P c.w c.K c.mg c.base 1 "_law_first" ["_law_plan_here"] m8
abbrev BW(c:Cv):Prop:=Has c.P c.w c.K c.mg c.base 3 "_law_row" ["_law_programs","_law_stand","_law_numbers","_law_fresh","_law_mover"] uz
abbrev EI(c:Cv):Prop:=Has c.P c.w c.K c.mg c.base 4 "_law_log" ["_law_plan_here","_law_movers_here"] vU
abbrev zM(c:Cv):Prop:=Has c.P c.w c.K c.mg c.base 2 "_law_bent_row" ["_law_tape_here","_law_row_here"] vV
abbrev CB(c:Cv):Prop:=Has c.P c.w c.K c.mg c.base 3 "_law_bent_log" ["_law_tape_here","_law_log_here","_law_other"] xG
abbrev HS(c:Cv):Prop:=Has c.P c.w c.K c.mg c.base 1 "_law_book" ["_law_plan_here","_law_log_here"] wz
abbrev zX(c:Cv):Prop:=Has c.P c.w c.K c.mg c.base 9 "_law_is_so" ["_law_plan_here","_law_log_here"] xQ
section
variable{c:Cv}(F:∀(j:Nat) (d:Ds),dL[j]?=ae d->(Fun c.K d.x d.x (dX d.i) d.f (lH d)/\c.mg d.x=ae (.ref d.f))/\Cz c.K (.ref d.f)=ai)(z:∀x∈zL,c.mg x=ah)(u0:c.mg "GREATEST_NUMBER"=ae (.int 99 249))(u1:c.mg "GETTING"=ae (.ref 99))(u2:∀H,SqT c.K H 99 ((Ze:List Str).map V.str))(u3:c.mg "GOT"=ae (.ref 185))(u4:gL c.K 185 [("take","takes"),("read","reads"),("look","looks")])
include F z u0 u1 u2 u3 u4
theorem Nc:gY c:=Has.mk' (F 33 _ rfl).1.1 (F 33 _ rfl).1.2 (n9 (F 33 _ rfl).1.1) (Sx (SD (F 33 _ rfl).1.1 (zU z ∅)))
theorem Rq:zD c:=aV (i:=4) 0 1 "kind_of" (F 0 _ rfl).1 MB
theorem UI(h0:zD c):CN c:=uC (S:=ka) (i:=5) 2 "are_alike" (F 1 _ rfl).1 UZ (λ_ _ _ h=>h) UX 6
theorem Mu:GI c:=aV (i:=8) 0 1 "is_whole" (F 2 _ rfl).1 Q1
theorem NL:IJ c:=aV (i:=10) 0 4 "field_fits" (F 3 _ rfl).1 RO
theorem NG(h0:IJ c):wN c:=aV (i:=11) 1 3 "fits" (F 4 _ rfl).1 S9
theorem J9:BM c:=aV (i:=12) 0 1 "next_value" (F 5 _ rfl).1 U2
theorem OW(h0:BM c):xK c:=aV (i:=13) 1 2 "field_value" (F 6 _ rfl).1 LG
theorem T9(h0:xK c):Hx c:=aV (i:=14) 2 2 "filled" (F 7 _ rfl).1 QZ
theorem Pq:uD c:=aV (i:=17) 0 1 "first_stand" (F 8 _ rfl).1 Vs
theorem La(h0:GI c):IP c:=aV (i:=18) 1 2 "is_within" (F 9 _ rfl).1 LZ
theorem OZ:rO c:=aV (i:=20) 0 3 "next_act" (F 10 _ rfl).1 Ke
theorem Th(h0:wN c)(h1:rO c):vQ c:=aV (i:=21) 2 3 "gets" (F 11 _ rfl).1 JI
theorem RT:yk c:=aV (i:=22) 0 2 "gone_on" (F 12 _ rfl).1 N6
theorem O3:yr c:=aV (i:=23) 0 3 "gone_to" (F 13 _ rfl).1 MG
theorem PR:xw c:=aV (i:=24) 0 3 "with_hand" (F 14 _ rfl).1 Oi
theorem OA(h0:wN c)(h1:vQ c)(h2:yk c)(h3:yr c)(h4:xw c):CP c:=aV (i:=25) 3 4 "got" (F 15 _ rfl).1 LW
theorem Vg(h0:xK c):Ir c:=aV (i:=26) 2 2 "is_same_value" (F 16 _ rfl).1 LO
theorem TN(h0:Hx c)(h1:yk c)(h2:yr c)(h3:CP c)(h4:Ir c)(h5:rO c)(h6:xw c):Ih c:=aV (i:=27) 4 3 "hand_moved" (F 17 _ rfl).1 Vk
theorem TB:EJ c:=aV (i:=28) 0 1 "aged" (F 18 _ rfl).1 Lg
theorem NX(h0:EJ c):AO c:=aV (i:=29) 1 1 "clock_moved" (F 19 _ rfl).1 QJ
theorem Pu(h0:AO c)(h1:Ih c)(h2:IP c):vp c:=aV (i:=30) 5 3 "after" (F 20 _ rfl).1 KC
theorem Vl(h0:uD c):w4 c:=aV (i:=33) 1 1 "first_board" (F 21 _ rfl).1 KL
theorem Mf:GY c:=aV (i:=34) 0 1 "clock_row" (F 22 _ rfl).1 Oh
theorem Ru(h0:vQ c)(h1:rO c):BK c:=aV (i:=35) 3 4 "hand_row" (F 23 _ rfl).1 Oc
theorem Kg(h0:GY c)(h1:BK c):FY c:=aV (i:=36) 4 4 "row_of" (F 24 _ rfl).1 JH
theorem NQ:HU c:=aV (i:=37) 0 1 "went_by" (F 25 _ rfl).1 UT
theorem Us(h0:HU c):HI c:=aV (i:=38) 1 3 "board_behind" (F 26 _ rfl).1 Vc
theorem U3(h0:vp c)(h1:HI c)(h2:FY c):wg c:=aV (i:=39) 6 3 "logged" (F 27 _ rfl).1 MH
theorem Vm(h0:w4 c)(h1:wg c):yW c:=o5 (i:=40) 7 2 "log_of" (F 28 _ rfl).1 M9
theorem Rg:GW c:=aV (i:=41) 0 2 "mover_told" (F 29 _ rfl).1 Vt
theorem Oy(h0:CN c)(h1:w4 c)(h2:wg c)(h3:GW c):Ic c:=aV (i:=42) 8 2 "lets_log" (F 30 _ rfl).1 RR
theorem T6(h0:vp c):Hd c:=aV (i:=44) 6 3 "woven" (F 31 _ rfl).1 UE
theorem U9(h0:gY c):om c:=aV (i:=48) 1 1 "_law_value" (F 34 _ rfl).1 P2
theorem NN(h0:gY c):tG c:=aV (i:=49) 1 1 "_law_size" (F 35 _ rfl).1 TQ
theorem J0(h0:gY c):yh c:=aV (i:=50) 1 1 "_law_age" (F 36 _ rfl).1 UK
theorem Md(h0:gY c)(h1:tG c)(h2:om c):Hl c:=aV (i:=51) 2 2 "_law_pattern" (F 37 _ rfl).1 KH
theorem NF(h0:gY c)(h1:tG c)(h2:om c):yJ c:=aV (i:=52) 2 2 "_law_template" (F 38 _ rfl).1 JD
theorem UQ(h0:gY c)(h1:om c):yU c:=aV (i:=53) 2 2 "_law_term" (F 39 _ rfl).1 Qk
theorem QO(h0:yh c)(h1:gY c)(h2:Hl c)(h3:yJ c)(h4:yU c):Iy c:=aV (i:=54) 3 3 "_law_act" (F 40 _ rfl).1 OR
theorem PH(h0:Iy c)(h1:gY c):AD c:=aV (i:=55) 4 1 "_law_program" (F 41 _ rfl).1 JY
theorem US(h0:yh c)(h1:gY c)(h2:tG c)(h3:om c):AW c:=aV (i:=56) 2 2 "_law_notes" (F 42 _ rfl).1 Nl
theorem RA(h0:gY c)(h1:AW c)(h2:AD c):Jj c:=aV (i:=57) 5 1 "_law_plan" (F 43 _ rfl).1 Vu
theorem Js:Ig c:=aV (i:=58) 0 3 "_law_fit" (F 44 _ rfl).1 OC
theorem MP:oA c:=aV (i:=59) 0 3 "_law_next_act" (F 45 _ rfl).1 Ut
theorem OV(h0:Ig c)(h1:oA c):qN c:=aV (i:=60) 1 3 "_law_got" (F 46 _ rfl).1 SR
theorem Kj(h0:qN c)(h1:oA c):Ht c:=aV (i:=61) 2 3 "_law_can" (F 47 _ rfl).1 MN
theorem P1:ve c:=aV (i:=62) 0 2 "_law_filled" (F 48 _ rfl).1 Ml
theorem NB:CV c:=aV (i:=63) 0 3 "_law_to_block" (F 49 _ rfl).1 Tx
theorem MD:G2 c:=aV (i:=64) 0 2 "_law_of_term" (F 50 _ rfl).1 Vx
theorem Nw(h0:ve c)(h1:qN c)(h2:oA c)(h3:G2 c)(h4:CV c):yi c:=aV (i:=65) 2 3 "_law_move" (F 51 _ rfl).1 Qz
theorem Lz(h0:Ht c):HJ c:=o5 (i:=66) 3 2 "_law_movers" (F 52 _ rfl).1 Rh
theorem Km(h0:gY c)(h1:yi c)(h2:HJ c):GC c:=aV (i:=67) 4 4 "_law_walk" (F 53 _ rfl).1 Ni
theorem QB:uW c:=aV (i:=68) 0 1 "_law_first" (F 54 _ rfl).1 QE
theorem Mm(h0:ve c)(h1:qN c)(h2:oA c):BW c:=aV (i:=69) 2 5 "_law_row" (F 55 _ rfl).1 K7
theorem Qp(h0:uW c)(h1:yi c)(h2:BW c):EI c:=aV (i:=70) 3 2 "_law_log" (F 56 _ rfl).1 RJ
theorem L9(h0:gY c):zM c:=aV (i:=71) 1 2 "_law_bent_row" (F 57 _ rfl).1 OD
theorem Qi(h0:zM c)(h1:gY c):CB c:=aV (i:=72) 2 3 "_law_bent_log" (F 58 _ rfl).1 RH
theorem Qe:HS c:=aV (i:=73) 0 2 "_law_book" (F 59 _ rfl).1 Jz
theorem Pr(h0:HS c)(h1:uD c)(h2:yW c)(h3:Hd c):zX c:=aV (i:=74) 8 2 "_law_is_so" (F 60 _ rfl).1 Td
theorem NO(h0:CB c)(h1:uW c)(h2:zX c)(h3:EI c)(h4:Jj c)(h5:GC c)(h6:Ic c):FnOk c.P c.w c.K c.mg c.base dS 10 (Ds.f ⟨75,"law",819,490,1,440,ai,831,7⟩) (lH ⟨75,"law",819,490,1,440,ai,831,7⟩) Zb (DL.spLaw c.K):=by
 have bT:=n9 (ps:=Zb) (F 32 _ rfl).1.1;have GT:=Qx (P:=c.P) (w:=c.w) (mg:=c.mg) (base:=c.base) (F 32 _ rfl).1.1;exact Nf (i:=75) (N:=Za) 9 (F 61 _ rfl).1.1 GT bT (F 32 _ rfl).1.2 (F 32 _ rfl).2 L5 rfl λnd cdv A outer s H E hr=>jF (i:=1) nd rfl (Ce rfl) (vL GT (hr.mono ∎) rfl (F 32 _ rfl).1.2 (F 32 _ rfl).2 bT .nil uS (cU (pv 0) eI))
end
theorem Mw(c:Cv)(F:∀(j:Nat) (d:Ds),dL[j]?=ae d->(Fun c.K d.x d.x (dX d.i) d.f (lH d)/\c.mg d.x=ae (.ref d.f))/\Cz c.K (.ref d.f)=ai)(z:∀x∈zL,c.mg x=ah)(u0:c.mg "GREATEST_NUMBER"=ae (.int 99 249))(u1:c.mg "GETTING"=ae (.ref 99))(u2:∀H,SqT c.K H 99 ((Ze:List Str).map V.str))(u3:c.mg "GOT"=ae (.ref 185))(u4:gL c.K 185 [("take","takes"),("read","reads"),("look","looks")]):FnOk c.P c.w c.K c.mg c.base dS 10 (Ds.f ⟨75,"law",819,490,1,440,ai,831,7⟩) (lH ⟨75,"law",819,490,1,440,ai,831,7⟩) Zb (DL.spLaw c.K):=by
 have a__law_draw:=Nc F z u0 u1 u2 u3 u4;have a_kind_of:=Rq F z u0 u1 u2 u3 u4;have a_are_alike:=UI F z u0 u1 u2 u3 u4 a_kind_of;have a_is_whole:=Mu F z u0 u1 u2 u3 u4;have a_field_fits:=NL F z u0 u1 u2 u3 u4;have a_fits:=NG F z u0 u1 u2 u3 u4 a_field_fits;have a_next_value:=J9 F z u0 u1 u2 u3 u4;have a_field_value:=OW F z u0 u1 u2 u3 u4 a_next_value;have a_filled:=T9 F z u0 u1 u2 u3 u4 a_field_value;have a_first_stand:=Pq F z u0 u1 u2 u3 u4;have a_is_within:=La F z u0 u1 u2 u3 u4 a_is_whole;have a_next_act:=OZ F z u0 u1 u2 u3 u4;have a_gets:=Th F z u0 u1 u2 u3 u4 a_fits a_next_act;have a_gone_on:=RT F z u0 u1 u2 u3 u4;have a_gone_to:=O3 F z u0 u1 u2 u3 u4;have a_with_hand:=PR F z u0 u1 u2 u3 u4;have a_got:=OA F z u0 u1 u2 u3 u4 a_fits a_gets a_gone_on a_gone_to a_with_hand;have a_is_same_value:=Vg F z u0 u1 u2 u3 u4 a_field_value;have a_hand_moved:=TN F z u0 u1 u2 u3 u4 a_filled a_gone_on a_gone_to a_got a_is_same_value a_next_act a_with_hand;have a_aged:=TB F z u0 u1 u2 u3 u4;have a_clock_moved:=NX F z u0 u1 u2 u3 u4 a_aged;have a_after:=Pu F z u0 u1 u2 u3 u4 a_clock_moved a_hand_moved a_is_within;have a_first_board:=Vl F z u0 u1 u2 u3 u4 a_first_stand;have a_clock_row:=Mf F z u0 u1 u2 u3 u4;have a_hand_row:=Ru F z u0 u1 u2 u3 u4 a_gets a_next_act;have a_row_of:=Kg F z u0 u1 u2 u3 u4 a_clock_row a_hand_row;have a_went_by:=NQ F z u0 u1 u2 u3 u4;have a_board_behind:=Us F z u0 u1 u2 u3 u4 a_went_by;have a_logged:=U3 F z u0 u1 u2 u3 u4 a_after a_board_behind a_row_of;have a_log_of:=Vm F z u0 u1 u2 u3 u4 a_first_board a_logged;have a_mover_told:=Rg F z u0 u1 u2 u3 u4;have a_lets_log:=Oy F z u0 u1 u2 u3 u4 a_are_alike a_first_board a_logged a_mover_told;have a_woven:=T6 F z u0 u1 u2 u3 u4 a_after;have a__law_value:=U9 F z u0 u1 u2 u3 u4 a__law_draw;have a__law_size:=NN F z u0 u1 u2 u3 u4 a__law_draw;have a__law_age:=J0 F z u0 u1 u2 u3 u4 a__law_draw;have a__law_pattern:=Md F z u0 u1 u2 u3 u4 a__law_draw a__law_size a__law_value;have a__law_template:=NF F z u0 u1 u2 u3 u4 a__law_draw a__law_size a__law_value;have a__law_term:=UQ F z u0 u1 u2 u3 u4 a__law_draw a__law_value;have a__law_act:=QO F z u0 u1 u2 u3 u4 a__law_age a__law_draw a__law_pattern a__law_template a__law_term;have a__law_program:=PH F z u0 u1 u2 u3 u4 a__law_act a__law_draw;have a__law_notes:=US F z u0 u1 u2 u3 u4 a__law_age a__law_draw a__law_size a__law_value;have a__law_plan:=RA F z u0 u1 u2 u3 u4 a__law_draw a__law_notes a__law_program;have a__law_fit:=Js F z u0 u1 u2 u3 u4;have a__law_next_act:=MP F z u0 u1 u2 u3 u4;have a__law_got:=OV F z u0 u1 u2 u3 u4 a__law_fit a__law_next_act;have a__law_can:=Kj F z u0 u1 u2 u3 u4 a__law_got a__law_next_act;have a__law_filled:=P1 F z u0 u1 u2 u3 u4;have a__law_to_block:=NB F z u0 u1 u2 u3 u4;have a__law_of_term:=MD F z u0 u1 u2 u3 u4;have a__law_move:=Nw F z u0 u1 u2 u3 u4 a__law_filled a__law_got a__law_next_act a__law_of_term a__law_to_block;have a__law_movers:=Lz F z u0 u1 u2 u3 u4 a__law_can;have a__law_walk:=Km F z u0 u1 u2 u3 u4 a__law_draw a__law_move a__law_movers;have a__law_first:=QB F z u0 u1 u2 u3 u4;have a__law_row:=Mm F z u0 u1 u2 u3 u4 a__law_filled a__law_got a__law_next_act;have a__law_log:=Qp F z u0 u1 u2 u3 u4 a__law_first a__law_move a__law_row;have a__law_bent_row:=L9 F z u0 u1 u2 u3 u4 a__law_draw;have a__law_bent_log:=Qi F z u0 u1 u2 u3 u4 a__law_bent_row a__law_draw;have a__law_book:=Qe F z u0 u1 u2 u3 u4;have a__law_is_so:=Pr F z u0 u1 u2 u3 u4 a__law_book a_first_stand a_log_of a_woven;exact NO F z u0 u1 u2 u3 u4 a__law_bent_log a__law_first a__law_is_so a__law_log a__law_plan a__law_walk a_lets_log
theorem all_K(w:B3)(mg)(fa)(h:Heap)(X:(KK w.params).In h)(G:h.Ns Dl mg)(hfa:mg "law"=ae (.ref fa)):
  ∃fd:Ct,(∀(s:Ap)(u:Ak),BindsTo s fd ⟨[u],[]⟩ [("_law_script",u)])/\∀base:Heap,(KK w.params).In base->base.Ns Dl mg->FnOk pR w (KK w.params) mg base dS 10 fa fd Zb (DL.spLaw (KK w.params)):=by
 have e:=hfa.symm.trans (yO X G 61 ⟨75,"law",819,490,1,440,ai,831,7⟩ rfl).1.2;cases e;exact⟨lH ⟨75,"law",819,490,1,440,ai,831,7⟩,λs v=>.of_eq rfl,λbase _ _=>Mw ⟨pR,w,KK w.params,mg,base⟩ (λj d e=>yO X G j d e) (zK X G) (PySem.W.mg_of X G (by kernel_rfl)) (PySem.W.mg_of X G (by kernel_rfl)) (λH=>.inr ⟨_,_,_,(show(KK w.params).lookup 99=ae (oT "tuple" (.seq #[(.str "take" 306),(.str "read" 307),(.str "look" 308)] 0)) by kernel_rfl),rfl,rfl,show 3<=Az by decide,(.cons ⟨_,rfl⟩ (.cons ⟨_,rfl⟩ (.cons ⟨_,rfl⟩ .nil)))⟩) (PySem.W.mg_of X G (by kernel_rfl)) ⟨by decide,_,_,_,(show(KK w.params).lookup 185=ae (oT "dict" (.dict #[(eN w.params "take" 438 (.str "takes" 439)),(eN w.params "read" 440 (.str "reads" 441)),(eN w.params "look" 442 (.str "looks" 443))] 3)) by kernel_rfl),⟨rfl,rfl,rfl⟩,rfl,(.cons rfl ⟨_,rfl⟩ (.cons rfl ⟨_,rfl⟩ (.cons rfl ⟨_,rfl⟩ .nil)))⟩⟩
theorem walk{l:PySem.W.OpenLaw}{K:Params->Ah}(hn:l.most=ae 63)(hdf:d.params.defaults=[])
  (hY:∀(w:B3)(h:Heap),YP w h->(K w.params).In h)
  (F:∀(w:B3)(mg:Str->Option Ak)(fa:Addr)(h:Heap),(K w.params).In h->h.Ns Dl mg->mg d.name=ae (.ref fa)->
   ∃fd:Ct,(∀(s:Ap)(u:Ak),BindsTo s fd ⟨[u],[]⟩ [("_law_script",u)])/\∀base:Heap,(K w.params).In base->base.Ns Dl mg->FnOk l.prog w (K w.params) mg base dS 10 fa fd Zb (DL.spLaw (K w.params))):
  PySem.W.WalkO q loose XP YP l.row.toRowW d [] (λf vs=>PySem.call f vs):=
 L2.walk_of (n:=63) (k:=10) (x:="_law_script") (CX:=λ_=>dS) (sp:=λw=>DL.spLaw (K w.params)) hn ∎ hdf ⟨rfl,by decide,by decide,rfl⟩ hY F (λ_ _ a ns hl _ hS=>⟨a,ns,rfl,hS,hl,λ_=>rfl⟩) λ_ _ _ _ _ z=>z
end Nb
open PySem PySem.W PyProof.Rows
set_option maxRecDepth 100000 in
set_option maxHeartbeats 0 in
theorem PySem.Challenge.cw_noteboard_k30_whole_let_by_logs_are_weav_holds : PySem.Challenge.rw_noteboard_k30_whole_let_by_logs_are_weav.Holds := by
 refine holds_law Nb.said_ λsaid=>?_;refine holds_open (q:=Nb.qq) (loose:=Nb.lO) (Xt:=Nb.xT) (XP:=XL Nb.qq []) (Yf:=Hook.obs Nb.hK) (Ya:=Hook.val Nb.hK) (YP:=Hook.says Nb.hK) (d:=Nb.dW) (kwd:=[]) (N:=3000) Nb.left_ (Hook.of Nb.hK) (Hook.keeps Nb.hK) (λs e=>xl_of s (Bool.and_eq_true_iff.mp e).1) XL.keeps (by kernel_rfl) (by kernel_rfl) (by kernel_rfl) (λs e=>recFacts_of (Bool.and_eq_true_iff.mp e).2) (by kernel_rfl) said (by decide +kernel) ⟨rfl,rfl,rfl,rfl,rfl,by decide +kernel⟩ ?hw ?hc
 (case hw=>w_witness2)
 exact Nb.walk (l:=PySem.Challenge.rw_noteboard_k30_whole_let_by_logs_are_weav) (by kernel_rfl) (by kernel_rfl) (λw h Y=>kIn_of Y) Nb.all_K
