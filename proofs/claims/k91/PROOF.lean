import PyProof.Rows.All
import Wide.All
import OpenK.AllK
import Wide.FinOn
import Lean
import PyProof.EqAt
import PyProof.EqKinds
import PyProof.TupleCall
import PyProof.AttrMissHeap
import PyProof.Rows.RegFStrParts
import PySem.Challenge.RW_noteboard_k91_whole_logs_of_weavings
set_option Elab.async false
set_option compiler.extract_closed false
set_option linter.all false
set_option maxRecDepth 100000
open PySem renaming PyData -> Aa, wpAny_bind -> Ad, Value -> Ak, Shared -> Ar, wpAny_pure -> Aw, sizeLine -> Ay, starEach -> Az, wpAny -> A5, model -> Bi, Program -> Bp, compareOp -> By, bootBuiltins -> B3, World -> B7, wpAny_field -> Cb, wpAny_newObj_type -> Cf, behindInMarks -> Ci, Around -> Ck, wpAny_callSpecial?_slot -> Cp, assignEach -> Cq, wpAny_holding -> Ct, FuncData -> C1, IsPair -> Dd, backTo -> Dj, wpAny_call_entry -> Dk, wpAny_truthy_bool -> Dp, wpAny_seqItems -> Dq, wpAny_mono -> Dr, mainGlobals -> Du, wpAny_pyIter_tuple -> D9, swapsWith -> Ed, foldedSetIterable -> Eh, binaryOp -> Ei, sysModules -> En, sizeLine_eq -> E3, Scope -> E4, wpAny_setField_rec -> E6, wpAny_ite_false -> Fb, codeAny_builtin -> Fc, mem_of_lookup -> Fm, cLine -> Fu, wpAny_typeOf -> Fx, rawInt -> F0, wpAny_Call_Name_kw -> Gb, codeAny -> Gi, assign -> Gj, Builtin -> Gk, plainId_quiet -> Gw, sliceBounds -> Gy, wpAny_passesOwn -> G4, tupleKind_room_in1 -> G8
open List renaming length_map -> Ab, length_append -> Af, getElem?_eq_getElem -> Ah, set -> Am, not_mem_nil -> An, getElem?_eq_some_iff -> Ao, length_cons -> Ap, mem_cons -> Aq, mem_cons_self -> As, mem_cons_of_mem -> Au, length_singleton -> Av, getElem?_map -> Ax, mem_of_getElem? -> A1, size_toArray -> A3, range -> A8, map_append -> A9, map_cons -> Ba, mem_singleton -> Bc, mem_append -> Bd, mem_append_right -> Bf, mem_map -> Bg, append_assoc -> Bh, replicate -> Bj, append_nil -> Bm, find?_cons -> Br, getElem?_append_right -> Bt, mem_iff_getElem? -> Bw, nil_append -> Bx, length_drop -> B5, getElem?_append_left -> Ca, mem_range -> Ce, map_congr_left -> Cg, filter_cons -> Cn, take_of_length_le -> Cu, length_set -> Cw, length_take -> Cz, length_range -> C2, getElem?_set_ne -> C5, mem_filter -> C7, getElem_mem -> C8, any_cons -> Dc, nodup_cons -> De, map_map -> Df, all_eq_true -> Dh, toArray -> Dv, mem_append_left -> Dx, replicate_succ -> Dz, ext_getElem -> D3, any_eq_true -> D4, findIdx?_eq_some_iff_getElem -> D7, drop_eq_getElem_cons -> D8, getElem?_replicate -> Ej, getElem?_cons_succ -> Ek, cons_append -> El, not_lt -> Eu, of_mem_zip -> Ez, length_filter_le -> E5, flatMap_cons -> E7, mem_of_mem_drop -> Fg, drop_zero -> Fh, getElem_inj -> Fk, zip_cons_cons -> Fz, length -> F2, getElem?_set_self' -> F3, map_nil -> F7, getElem?_set_self -> F8, flatten_cons -> F9, filter_congr -> Ga, length_replicate -> Gf, take_append_of_le_length -> Gn, mem_of_mem_take -> Gp, map_eq_cons_iff -> Gq, length_take_le' -> Gr, length_nil -> Gs, length_reverse -> Gt, filter_eq_self -> Gu, filterMap_cons -> Gv, set_cons_zero -> G0, mem_filterMap -> G1
open Bool renaming false_ne_true -> Ae, and_eq_true -> A2, false_eq_true -> C6, eq_iff_iff -> E1, true_and -> Gm
open PySem.W renaming Frag -> Ag, keepIn -> C3, kia_one -> C9, kas_rev -> Eg, fnOf -> Ff, kia_tup -> Fs
open PySem.Heap renaming get?_push_of_some -> Ai, lt_size -> A0, get?_push_size -> Bb, get?_update_other -> D0, SameBut -> D1, get?_update_self -> D5, size_push -> Em
open And renaming intro -> Aj
open Nat renaming le_refl -> Al, le_trans -> A4, lt_of_lt_of_le -> Bn, zero_le -> Bo, ne_of_lt -> Bq, le_of_ble_eq_true -> Bu, lt_irrefl -> Ec, zero_add -> Ex, ne_of_gt -> Fo, le_of_lt -> Fp, sub_self -> Gd, lt_of_lt_of_eq -> G5
open PySem.Value renaming ref -> A6, none -> B8, type -> Et, str -> Ge
open Option.some renaming inj -> A7
open PyProof.Rows.KTD renaming datumAt -> Be
open List.cons renaming inj -> Bk
open Int renaming toNat_natCast -> Bs, eq_ofNat_of_zero_le -> F6, natCast_nonneg -> G6, emod_lt_of_pos -> G7
open PySem.PyData renaming depth -> Bv, canLay0 -> B1, eqv -> Cc, str -> Cy, showable -> Dn, intsShort -> Dt, weight -> Ea, strOk -> Ep, shown -> Er, canLayAll0 -> E2, int -> E8, depthAll -> Fv, shownAll_cons -> Gh
open PySem.Builtin.SmallTypes renaming ownedTupleIsFree -> Bz, nextOf -> B6, ownedTupleHandOut -> G3
open Array renaming getElem?_eq_getElem -> B4, toList_append -> Ee, length_toList -> Ef, getElem?_eq_some_iff -> Gz
open Or renaming inr -> B9, inl -> C4
open PySem.PyData.tuple renaming inj -> Cj
open PySem.Builtin.Slice renaming slicePlaces -> Cm, sliceAdjust -> Di, sliceApplied -> Ew
open PySem.Obj renaming mapSeq -> Co
open PySem.Builtin.Tuple renaming tupleExact -> Cr, tupleItemsOf -> Gg
open PySem.Heap.SameBut renaming update -> Cs
open PyProof.Rows renaming slot_tuple_getitem -> C0, callWith_type1 -> Da, seqObj -> Dg, envOfC -> D6, boot_range -> Gx
open Sum renaming inr -> Dl
open PySem.Str renaming ofString -> Dm, cps_append -> Gc
open PySem.Around renaming under_plainId -> Dw
open True renaming intro -> Dy
open PySem.F renaming slot_zip_next -> Eb, args_tuple_add_2 -> Fn, slot_tuple_iterator_next -> Fq, entry_tuple_add -> Fw, slot_tuple_add -> F1, plain_extend_loop -> G2
open PySem.Builtin.List renaming listExtendWith -> Eo, listTooLong -> E9
open Exists renaming intro -> Es
open PySem.PyData.str renaming inj -> Ey
open PySem.Builtin.Range renaming rangeSize -> Fj
open PySem.AutoSeq1 renaming wpAny_loadPart' -> Fl
open Option renaming isSome_iff_exists -> Ft, or_none -> F4, isSome_map -> F5
open Nat.succ renaming inj -> Fy
open Option renaming some -> ae, none -> ah
open Bool renaming true -> ai, false -> aj
noncomputable section
local macro_rules|`(tactic|omega)=>`(tactic|lia)
local macro_rules|`(⋯)=>`(by omega)
local macro_rules|`(∅)=>`(by decide +kernel)
local macro_rules|`(∎)=>`(by decide)
local macro_rules|`(↑$x)=>`(Option.some (.w (.d $x)))
set_option maxHeartbeats 4000000
namespace L2
open PySem PySem.Spec PyProof.Rows
def m5(s:Stmt):Arguments:=match s with
 |.FunctionDef _ a _ _ _ _ _ _ _ _=>a
 |_=>{ posonlyargs:=[],args:=[],vararg:=ah,kwonlyargs:=[],kw_defaults:=[],kwarg:=ah,defaults:=[]}
def gS(s:Stmt):List Stmt:=match s with
 |.FunctionDef _ _ b _ _ _ _ _ _ _=>b
 |_=>[]
def dO(s:Stmt):E4:=match s with
 |.FunctionDef _ _ _ _ _ _ sc _ _ _=>sc
 |_=>{ kind:=.function,names:=[],isGenerator:=aj,isCoroutine:=aj}
end L2
namespace Nb
open PySem L2
def dX(i:Nat):Stmt:=PySem.Challenge.pw_noteboard_k91_whole_logs_of_weavings.main.body.getD i (.Pass ⟨0,0,0,0⟩)
abbrev L8:Stmt:=dX 48
abbrev Lj:Stmt:=dX 49
abbrev sE:Stmt:=dX 73
abbrev Hm:Stmt:=L8
abbrev Ii:Stmt:=Lj
abbrev oT(t:String)(d:Data):Obj:=⟨.type t,ah,d,#[]⟩
structure Ds where
 i:Nat
 x:Str
 t:Nat
 l:Nat
 n:Nat
 r:Nat
 b:Bool
 v:Nat
 m:Nat
abbrev Ds.c(d:Ds):Nat:=if d.b then d.r+5 else d.r+3
abbrev Ds.f(d:Ds):Nat:=if d.b then d.r+6 else d.r+4
abbrev SR(m:Nat):Ak:=[(.str "noteboard.kinds" 232),(.str "noteboard.values" 247),(.str "noteboard.patterns" 258),(.str "noteboard.stands" 310),(.str "noteboard.moving" 326),(.str "noteboard.logs" 436),(.str "noteboard.weaving" 559),(.str "law_noteboard_k91_whole_logs_of_weavings" 572)].getD m .none
abbrev mZ(d:Ds):C1:=Ff d.x d.x (m5 (dX d.i)) (gS (dX d.i)) (dO (dX d.i)) .none .none .none (SR d.m) ah (.ref d.c) .none
abbrev oF(d:Ds):Obj:=oT "function" (.func (mZ d))
abbrev oC(d:Ds):Obj:=oT "code" (.fields #[.str d.x d.t,.str d.x (d.t+1),.str "/claim/cut.py" (d.t+2),.int d.l 0,.int d.n 0,.int 0 0,.int 0 0,.int 3 0,.ref d.r,.bool ai,.int 181 0,.ref (d.r+1),.none,if d.b then .ref (d.r+2)else .none,if d.b then .ref (d.r+3)else .none,.ref (if d.b then d.r+4 else d.r+2),.int d.v 0,.int d.l 0,.str "/claim/cut.py" (d.v+1)])
abbrev eN(P:Params)(x:Str)(t:Nat)(v:Ak):DictEntry:=⟨PyData.keyHash P x,.str x t,v⟩
abbrev en(P:Params)(d:Ds):DictEntry:=eN P d.x (d.v+2) (.ref d.f)
def dL:List Ds:=[⟨4,"kind_of",234,10,1,47,ai,238,0⟩,⟨5,"are_alike",241,20,2,54,aj,244,0⟩,⟨8,"is_whole",251,30,1,59,ai,255,1⟩,⟨10,"field_fits",260,33,4,66,ai,268,2⟩,⟨11,"fits",271,46,3,73,ai,281,2⟩,⟨12,"next_value",284,58,1,80,ai,288,2⟩,⟨13,"field_value",291,62,2,87,ai,297,2⟩,⟨14,"filled",300,67,2,94,aj,303,2⟩,⟨17,"first_stand",312,72,1,100,aj,315,3⟩,⟨18,"is_within",318,74,2,105,ai,323,3⟩,⟨20,"next_act",328,77,3,112,ai,337,4⟩,⟨21,"gets",340,82,3,119,ai,351,4⟩,⟨22,"gone_on",354,94,2,126,ai,359,4⟩,⟨23,"gone_to",362,96,3,133,aj,365,4⟩,⟨24,"with_hand",368,99,3,138,ai,374,4⟩,⟨25,"got",377,101,4,145,ai,388,4⟩,⟨26,"is_same_value",391,113,2,152,ai,397,4⟩,⟨27,"hand_moved",400,116,3,159,ai,410,4⟩,⟨28,"aged",413,133,1,166,ai,417,4⟩,⟨29,"clock_moved",420,135,1,173,aj,423,4⟩,⟨30,"after",426,137,3,178,ai,433,4⟩,⟨33,"first_board",448,144,1,186,ai,453,5⟩,⟨34,"clock_row",456,147,1,193,aj,459,5⟩,⟨35,"hand_row",462,150,4,198,ai,471,5⟩,⟨36,"row_of",474,158,4,205,ai,481,5⟩,⟨37,"went_by",484,162,1,212,ai,488,5⟩,⟨38,"board_behind",491,166,3,219,aj,494,5⟩,⟨39,"logged",497,172,3,224,ai,505,5⟩,⟨40,"log_of",508,178,2,231,ai,518,5⟩,⟨41,"mover_told",521,188,2,238,ai,526,5⟩,⟨42,"lets_log",529,192,2,245,ai,537,5⟩,⟨43,"lives",540,202,2,252,ai,550,5⟩,⟨44,"lying",553,212,3,259,aj,556,5⟩,⟨46,"woven",561,215,3,264,ai,569,6⟩,⟨48,"_law_tape",574,222,1,271,ai,578,7⟩,⟨49,"_law_draw",581,224,2,278,ai,590,7⟩,⟨50,"_law_value",593,239,1,285,ai,597,7⟩,⟨51,"_law_size",600,241,1,292,ai,604,7⟩,⟨52,"_law_age",607,243,1,299,ai,611,7⟩,⟨53,"_law_pattern",614,245,2,306,ai,625,7⟩,⟨54,"_law_template",628,262,2,313,ai,636,7⟩,⟨55,"_law_term",639,271,2,320,ai,644,7⟩,⟨56,"_law_act",647,275,3,327,ai,657,7⟩,⟨57,"_law_program",660,288,1,334,aj,663,7⟩,⟨58,"_law_notes",666,305,2,339,aj,669,7⟩,⟨59,"_law_plan",672,311,1,344,aj,675,7⟩,⟨60,"_law_fit",678,316,3,349,ai,689,7⟩,⟨61,"_law_filled",692,334,2,356,ai,702,7⟩,⟨62,"_law_got",705,345,3,363,ai,712,7⟩,⟨63,"_law_to",715,350,3,370,aj,718,7⟩,⟨64,"_law_hand",721,352,3,375,aj,724,7⟩,⟨65,"_law_moved",727,372,3,380,aj,730,7⟩,⟨66,"_law_woven",733,379,4,385,ai,746,7⟩,⟨67,"_law_row",749,392,5,392,aj,752,7⟩,⟨68,"_law_written",755,403,2,397,aj,758,7⟩,⟨69,"_law_true",761,425,2,402,aj,764,7⟩,⟨70,"_law_bent_row",767,433,3,407,ai,777,7⟩,⟨71,"_law_bent",780,450,3,414,ai,789,7⟩,⟨72,"_law_lives",792,469,2,421,aj,795,7⟩,⟨73,"law",798,480,1,426,ai,814,7⟩]
def KK(P:Params):Ag:=let e:=eN P
 (3,oT "dict" (.dict ([e "__name__" 165 (.str "law_noteboard_k91_whole_logs_of_weavings" 572),e "__doc__" 166 .none,e "__package__" 167 .none,e "__loader__" 168 (.builtin "__main__.__loader__#opaque"),e "__spec__" 169 .none,e "__annotations__" 170 (.ref 6),e "__builtins__" 171 (.ref 4),e "__file__" 173 (.str "/claim/cut.py" 172),e "__cached__" 174 .none,e "BoardError" 206 (.ref 24),e "NotReady" 231 (.ref 44)]++((dL.drop 0).take 2).map (en P)++[e "GREATEST_NUMBER" 250 (.int 99 249)]++((dL.drop 2).take 6).map (en P)++[e "GETTING" 309 (.ref 99)]++((dL.drop 8).take 13).map (en P)++[e "GOT" 447 (.ref 185)]++((dL.drop 21).take 39).map (en P)).toArray 74))::(dL.flatMap λd=>[(d.c,oC d),(d.f,oF d)])++[(99,oT "tuple" (.seq #[(.str "take" 306),(.str "read" 307),(.str "look" 308)] 0)),(185,oT "dict" (.dict #[(e "take" 438 (.str "takes" 439)),(e "read" 440 (.str "reads" 441)),(e "look" 442 (.str "looks" 443))] 3))]
def aS:List Addr:=3::(dL.flatMap λd=>[d.c,d.f])++[99,185]
abbrev pp:Bp:=PySem.Challenge.pw_noteboard_k91_whole_logs_of_weavings
abbrev qq:Bp:=PySem.W.view pp [73]
def lO:List Str:=(["BoardError","NotReady","kind_of","are_alike","GREATEST_NUMBER","is_whole","field_fits","fits","next_value","field_value","filled","GETTING","first_stand","is_within","next_act","gets","gone_on","gone_to","with_hand","got","is_same_value","hand_moved","aged","clock_moved","after","GOT","first_board","clock_row","hand_row","row_of","went_by","board_behind","logged","log_of","mover_told","lets_log","lives","lying","woven","_law_tape","_law_draw","_law_value","_law_size","_law_age","_law_pattern","_law_template","_law_term","_law_act","_law_program","_law_notes","_law_plan","_law_fit","_law_filled","_law_got","_law_to","_law_hand","_law_moved","_law_woven","_law_row","_law_written","_law_true","_law_bent_row","_law_bent","_law_lives"]:List String).map Dm
abbrev xT:Ar->Bool:=λs=>PySem.W.xlAt qq [] s&&PySem.W.recOk (PySem.W.RowW.records PySem.Challenge.rw_noteboard_k91_whole_logs_of_weavings.row.toRowW) s
theorem said_:PySem.Challenge.rw_noteboard_k91_whole_logs_of_weavings.wellSaid=ai:=by kernel_rfl
theorem aK:∀P,aS=(KK P).map (·.1):=λP=>by kernel_rfl
abbrev hK:PySem.W.Hook:=PySem.W.kHook KK aS aK
theorem yx{α β:Type}{o:Option α}{f g:α->Option β}{a b:β}(h:o.bind f=ae a)(h':o.bind g=ae b):o.map (λs=>(f s,g s))=ae (ae a,ae b):=by
 cases o with
 |none=>cases h
 |some s=>exact congrArg ae (Prod.ext h h')
theorem TM(w:B7):(PySem.W.fencedOpening PySem.treeTable pp w 3000).bind (λs₀=>(PySem.W.topFrom PySem.treeTable pp (w.withFollow "special-get-raises" aj) 3000 s₀).map λs=>(PySem.W.openSeen qq lO (importedModules pp.main.body) xT ai s,hK.obs s))=ae (PySem.W.openGood qq lO,hK.val (w.withFollow "special-get-raises" aj)):=by kernel_rfl
theorem Qe(w:B7):(PySem.W.fencedOpening PySem.treeTable pp w 3000).bind (λs₀=>(PySem.W.topFrom PySem.treeTable pp (w.withFollow "special-get-raises" ai) 3000 s₀).map λs=>(PySem.W.openSeen qq lO (importedModules pp.main.body) xT ai s,hK.obs s))=ae (PySem.W.openGood qq lO,hK.val (w.withFollow "special-get-raises" ai)):=by kernel_rfl
theorem left_:PySem.W.LeftO pp qq lO xT hK.obs hK.val 3000:=PySem.W.LeftO.of_split "special-get-raises" λw=>yx (TM w) (Qe w)
def Rt(s:Stmt):Pos:=match s with
 |.FunctionDef _ _ _ _ _ _ _ _ _ p=>p
 |_=>⟨0,0,0,0⟩
def dW:DefRec:=⟨"law",m5 sE,gS sE,dO sE,Rt sE⟩
theorem Pl(P):(dL.map λd=>(PySem.W.nsIn (KK P) Du d.x,(KK P).lookup d.f,PySem.W.codeIn (KK P) (.ref d.c) d.x))=dL.map λd=>(ae (ae (.ref d.f)),ae (oF d),ai):=by kernel_rfl
theorem JR{α β:Type}{f g:α->β}{l:List α}(h:l.map f=l.map g){j:Nat}{a:α}(e:l[j]?=ae a):f a=g a:=by
 have:=congrArg (λl=>l[j]?) h;simp only[Ax,e,Option.map_some]at this;exact A7 this
end Nb
namespace L2
open PySem PySem.Spec PyProof.Rows
abbrev aO:=Sum Int Str
def mP:aO->Ak->Bool
 |.inl k,v=>Value.isInt k v
 |.inr x,v=>Value.isStrOf x v
def yo(w:B7):aO->Int
 |.inl k=>hashInt k
 |.inr x=>hashStr w x
theorem jM:∀{k:aO}{v:Ak},mP k v=ai->(∃i t,k=Sum.inl i/\v=Value.int i t)\/(∃x t,k=Dl x/\v=Ge x t)
 |.inl i,v,h=>by
  obtain⟨t,e⟩:=Value.isInt_shape (k:=i) (v:=v) h;exact .inl ⟨i,t,rfl,e⟩
 |.inr x,v,h=>by
  obtain⟨t,e⟩:=Value.isStrOf_shape (x:=x) (v:=v) h;exact .inr ⟨x,t,rfl,e⟩
theorem Q6(i)(t):mP (.inl i) (.int i t)=ai:=by simp[mP,Value.isInt]
theorem OO(x)(t):mP (.inr x) (.str x t)=ai:=by simp[mP,Value.isStrOf]
theorem KJ(a b):decide ((Sum.inl a:aO)=Sum.inl b)=(a==b):=by
 by_cases e:a=b
 ·subst e;simp
 ·have h:¬(Sum.inl a:aO)=Sum.inl b:=λq=>e (Sum.inl.inj q);rw[decide_eq_false h];exact(beq_eq_false_iff_ne.mpr e).symm
theorem Uz(a b):decide ((Dl a:aO)=Dl b)=decide (a=b):=by
 by_cases e:a=b
 ·subst e;simp
 ·have h:¬(Dl a:aO)=Dl b:=λq=>e (Sum.inr.inj q);rw[decide_eq_false h,decide_eq_false e]
theorem Ma(a)(b):decide ((Sum.inl a:aO)=Dl b)=aj:=decide_eq_false (λq=>nomatch q)
theorem ON(a)(b):decide ((Dl a:aO)=Sum.inl b)=aj:=decide_eq_false (λq=>nomatch q)
def gf(prog:Bp)(w:B7):PySem.KeyKind prog w aO where
 is:=mP
 hash:=yo w
 inj:=λv a b ha hb=>by
  rcases jM ha with⟨i,t,rfl,rfl⟩|⟨x,t,rfl,rfl⟩
  ·rcases jM hb with⟨j,u,rfl,e⟩|⟨y,u,rfl,e⟩
   ·injection e with e1 _;rw[e1]
   ·exact nomatch e
  ·rcases jM hb with⟨j,u,rfl,e⟩|⟨y,u,rfl,e⟩
   ·exact nomatch e
   ·injection e with e1 _;rw[e1]
 byValue:=λk v h=>by
  rcases jM h with⟨i,t,rfl,rfl⟩|⟨x,t,rfl,rfl⟩<;>rfl
 pyHash:=λhv h=>by
  rcases jM hv with⟨i,t,rfl,rfl⟩|⟨x,t,rfl,rfl⟩
  ·exact wpAny_pyHash_int h
  ·exact wpAny_pyHash_str h
 eqBool:=λhu hv h=>by
  rcases jM hu with⟨i,t,rfl,rfl⟩|⟨x,t,rfl,rfl⟩
  ·rcases jM hv with⟨j,u,rfl,rfl⟩|⟨y,u,rfl,rfl⟩
   ·rw[KJ]at h;exact wpAny_eqBool_int h
   ·rw[Ma]at h;exact SeqAt.EqAt.int_str i t y u _ _ _ _ h
  ·rcases jM hv with⟨j,u,rfl,rfl⟩|⟨y,u,rfl,rfl⟩
   ·rw[ON]at h;exact SeqAt.EqAt.str_int x t j u _ _ _ _ h
   ·rw[Uz]at h;exact wpAny_eqBool_str h
 «strs»:=λk x t v h=>by
  rcases jM h with⟨i,u,rfl,e⟩|⟨y,u,rfl,e⟩
  ·exact nomatch e
  ·injection e with e1 _;subst e1;cases v<;>rfl
theorem NA(prog)(w)(i)(t):(gf prog w).is (.inl i) (.int i t)=ai:=Q6 i t
theorem MH(prog)(w)(x)(t):(gf prog w).is (.inr x) (.str x t)=ai:=OO x t
inductive V where
 |non|bl (b:Bool)|int (i:Int)|str (x:Str)|byt (b:Array UInt8)|flt (b:UInt64)|ref (a:Addr)|ty (n:String)
 deriving DecidableEq
def RelV:V->Ak->Prop
 |.non,u=>u=B8
 |.bl b,u=>u=Value.bool b
 |.int i,u=>∃t,u=Value.int i t
 |.str x,u=>∃t,u=Ge x t
 |.byt b,u=>∃t,u=Value.bytes b t
 |.flt b,u=>∃t,u=Value.float b t
 |.ref a,u=>u=A6 a
 |.ty n,u=>u=Et n
abbrev Vals:List V->List Ak->Prop:=Paired RelV
theorem Vals.length(r:Vals xs us):xs.length=us.length:=Paired.length r
theorem Vals.get:∀{xs:List V}{us:List Ak}{i:Nat}{x:V},Vals xs us->xs[i]?=ae x->∃u,us[i]?=ae u/\RelV x u
 |_,_,_,_,.nil,e=>by simp at e
 |_,_,0,_,.cons r _,e=>by simp at e;subst e;exact⟨_,rfl,r⟩
 |_,_,i+1,x,.cons _ t,e=>by
  obtain⟨u,h1,h2⟩:=Vals.get (i:=i) (x:=x) t (by simpa using e);exact⟨u,by simpa using h1,h2⟩
theorem Vals.set(r:RelV x u):∀{xs:List V}{us:List Ak}(i:Nat),Vals xs us->Vals (xs.set i x) (us.set i u)
 |_,_,_,.nil=>.nil
 |_,_,0,.cons _ t=>.cons r t
 |_,_,i+1,.cons q t=>.cons q (Vals.set r i t)
theorem Vals.append:∀{xs ys:List V}{us ws:List Ak},Vals xs us->Vals ys ws->Vals (xs++ys) (us++ws)
 |_,_,_,_,.nil,s=>s
 |_,_,_,_,.cons r t,s=>.cons r (Vals.append t s)
theorem Vals.take:∀{xs:List V}{us:List Ak}(n:Nat),Vals xs us->Vals (xs.take n) (us.take n)
 |_,_,0,_=>.nil
 |_,_,_+1,.nil=>.nil
 |_,_,n+1,.cons r t=>.cons r (Vals.take n t)
theorem Vals.drop:∀{xs:List V}{us:List Ak}(n:Nat),Vals xs us->Vals (xs.drop n) (us.drop n)
 |_,_,0,r=>r
 |_,_,_+1,.nil=>.nil
 |_,_,n+1,.cons _ t=>Vals.drop n t
def RelO:Option V->Option Ak->Prop
 |some v,ae u=>RelV v u
 |none,ah=>True
 |_,_=>False
def KV{κ:Type}:List (κ×V)->List (κ×Ak)->Prop:=Paired λ(p:κ×V)(q:κ×Ak)=>p.1=q.1/\RelV p.2 q.2
def kV:aO->V
 |.inl i=>.int i
 |.inr x=>.str x
inductive HO where
 |lst (xs:List V)
 |tup (xs:List V)
 |dK (kvs:List (aO×V))|dT (kvs:List (List aO×V))
 |set (S:Int->Bool) (n:Nat)
 |ins (C dx:Addr) (fs:List (Str×V))
 |own (x:Addr)
 |xd (fs:List (Str×V))
 |met (f x:Addr)
 |rng (lo hi:Int)
 |frz (o:Obj) (u:HO)
 |tbl (ps:Array Ak)
 |ext (φ:Heap->Prop)
abbrev Hp:=Addr->Option HO
def upd(H:Hp)(a:Addr)(o:HO):Hp:=λb=>if b=a then ae o else H b
theorem bQ:upd H a o a=ae o:=by unfold upd;rw[if_pos rfl]
theorem aW(h:b≠a):upd H a o b=H b:=by unfold upd;rw[if_neg h]
theorem EK:upd (upd H a o) a u=upd H a u:=by
 funext b;unfold upd;split<;>rfl
theorem JG{H:Hp}(h:H a=ae o)(h':H b=ae u)(d:o≠u):a≠b:=by
 intro e;subst e;rw[h]at h';exact d (A7 h')
theorem bY{H:Hp}(h:H a=ae o)(h':H b=ah):a≠b:=by
 intro e;subst e;rw[h]at h';cases h'
def IsTupP(h:Heap)(a:Addr)(items:Array Ak):Prop:=∃o,h.get? a=ae o/\o.cls=.type "tuple"/\(∃n,o.data=.seq items n)/\o.dict=ah
theorem IsTupP.tup(x:IsTupP h a items):IsTup h a items:=let⟨o,e,c,d,_⟩:=x;⟨o,e,c,d⟩
theorem IsTupP.lt{a:Addr}{items:Array Ak}(x:IsTupP h a items):a < h.objs.size:=let⟨_,e,_⟩:=x;A0 e
theorem IsTupP.new(h:Heap)(items):IsTupP (h.push {cls:=.type "tuple",data:=.seq items}) h.objs.size items:=⟨_,Bb _ rfl,rfl,⟨_,rfl⟩,rfl⟩
section
variable(P:Bp)(w:B7)
def ObjOk(H:Hp)(h:Heap)(a:Addr):HO->Prop
 |.lst xs=>xs.length<=Ay/\∃(its:List Ak)(n:Nat),Vals xs its/\h.get? a=ae {cls:=.type "list",data:=.seq its.toArray n}
 |.tup xs=>xs.length<=Ay/\∃its:List Ak,Vals xs its/\IsTupP h a its.toArray
 |.dK kvs=>kvs.length<=Ay/\(a==En)=aj/\∃vs,KV kvs vs/\h.DictOf (gf P w) a vs
 |.dT kvs=>kvs.length<=Ay/\(a==En)=aj/\∃xs:List (List aO×Addr×Ak),
   Paired (λ(p:List aO×V)(q:List aO×Addr×Ak)=>p.1=q.1/\H q.2.1=ae (.tup (p.1.map kV))/\RelV p.2 q.2.2) kvs xs /\
   ∃o es ep,h.get? a=ae o/\o.ExactDict/\o.data=.dict es ep/\es.toList=xs.map (entryOfKey (tupleKind (gf P w)))/\(xs.map (·.1)).Nodup
 |.set S n=>h.SetOf (intKind P w) a S n
 |.ins C dx fs=>H dx=ae (.own a)/\fs.length<=1000/\dx≠a/\h.get? a=ae (PySem.W.instObj C dx) /\
   ∃mA,h.Ns1 dx mA/\(∀f,RelO (fs.lookup f) (mA f))/\PySem.Within mA (fs.map (·.1))
 |.own _=>∃o,h.get? a=ae o
 |.xd fs=>∃mA,h.Ns1 a mA/\∀f,RelO (fs.lookup f) (mA f)
 |.rng lo hi=>∃t u v,h.get? a=ae {cls:=.type "range",data:=.fields #[.int lo t,.int hi u,.int 1 v]}
 |.frz o u=>h.get? a=ae o/\ObjOk H h a u
 |.tbl ps=>h.get? a=ae {cls:=.none,data:=.fields ps}
 |.met f x=>h.get? a=ae (PySem.W.methodObj (.ref f) (.ref x))
 |.ext φ=>φ h/\(∃o,h.get? a=ae o)/\∀h1 h2:Heap,φ h1->(∀o,h1.get? a=ae o->h2.get? a=ae o)->φ h2
def HOk(H:Hp)(h:Heap):Prop:=∀a o,H a=ae o->ObjOk P w H h a o
end
section
variable{P:Bp}{w:B7}{H H':Hp}{h h':Heap}{a:Addr}{o:HO}
theorem ObjOk.lt(x:ObjOk P w H h a o):a < h.objs.size:=by
 cases o with
 |lst xs=>obtain⟨_,_,_,_,e⟩:=x;exact A0 e
 |tup xs=>obtain⟨_,_,_,p⟩:=x;exact p.lt
 |dK kvs=>obtain⟨_,_,_,_,o,_,_,e,_⟩:=x;exact A0 e
 |dT kvs=>obtain⟨_,_,_,_,o,_,_,e,_⟩:=x;exact A0 e
 |set S n=>obtain⟨o,_,_,_,e,_⟩:=x;exact A0 e
 |ins C dx fs=>obtain⟨_,_,_,e,_⟩:=x;exact A0 e
 |own y=>obtain⟨_,e⟩:=x;exact A0 e
 |xd fs=>obtain⟨_,⟨_,_,_,e,_⟩,_⟩:=x;exact A0 e
 |rng lo hi=>obtain⟨_,_,_,e⟩:=x;exact A0 e
 |frz ob u=>obtain⟨e,_⟩:=x;exact A0 e
 |tbl ps=>exact A0 (show h.get? a=ae _ from x)
 |met f y=>exact A0 (show h.get? a=ae _ from x)
 |ext φ=>obtain⟨_,⟨_,e⟩,_⟩:=x;exact A0 e
theorem Paired.mapP:∀{l₁:List α}{l₂:List β},Paired F l₁ l₂->(∀a b,F a b->G a b)->Paired G l₁ l₂
 |_,_,.nil,_=>.nil
 |_,_,.cons r t,f=>.cons (f _ _ r) (Paired.mapP t f)
theorem ObjOk.stay(x:ObjOk P w H h a o)(k:∀b u,(b=a\/H b=ae (.own a))->h.get? b=ae u->h'.get? b=ae u)
  (ho:∀b,H b=ae (.own a)->H' b=ae (.own a)) (ht:∀b xs,H b=ae (.tup xs)->H' b=ae (.tup xs)):ObjOk P w H' h' a o:=by
 induction o with
 |lst xs=>obtain⟨z,its,n,r,e⟩:=x;exact⟨z,its,n,r,k _ _ (.inl rfl) e⟩
 |tup xs=>obtain⟨z,its,r,ob,e,c⟩:=x;exact⟨z,its,r,ob,k _ _ (.inl rfl) e,c⟩
 |dK kvs=>obtain⟨z,y,vs,r,ob,es,ep,e,c⟩:=x;exact⟨z,y,vs,r,ob,es,ep,k _ _ (.inl rfl) e,c⟩
 |dT kvs=>
  obtain⟨z,y,xs,r,ob,es,ep,e,c⟩:=x;exact⟨z,y,xs,Paired.mapP r λp q z=>⟨z.1,ht _ _ z.2.1,z.2.2⟩,ob,es,ep,k _ _ (.inl rfl) e,c⟩
 |set S n=>obtain⟨ob,es,ep,t,e,c⟩:=x;exact⟨ob,es,ep,t,k _ _ (.inl rfl) e,c⟩
 |ins C dx fs=>
  obtain⟨d,z,ne,e,mA,⟨od,es,ep,e2,c⟩,r⟩:=x;exact⟨ho _ d,z,ne,k _ _ (.inl rfl) e,mA,⟨od,es,ep,k _ _ (.inr d) e2,c⟩,r⟩
 |own y=>obtain⟨ob,e⟩:=x;exact⟨ob,k _ _ (.inl rfl) e⟩
 |xd fs=>obtain⟨mA,⟨od,es,ep,e,c⟩,r⟩:=x;exact⟨mA,⟨od,es,ep,k _ _ (.inl rfl) e,c⟩,r⟩
 |rng lo hi=>obtain⟨t,u,v,e⟩:=x;exact⟨t,u,v,k _ _ (.inl rfl) e⟩
 |frz ob u ih=>obtain⟨e,q⟩:=x;exact⟨k _ _ (.inl rfl) e,ih q⟩
 |tbl ps=>
  have e:h.get? a=ae {cls:=.none,data:=.fields ps}:=x;show h'.get? a=ae {cls:=.none,data:=.fields ps};exact k a _ (.inl rfl) e
 |met f y=>
  have e:h.get? a=ae (PySem.W.methodObj (.ref f) (.ref y)):=x;show h'.get? a=ae (PySem.W.methodObj (.ref f) (.ref y));exact k a _ (.inl rfl) e
 |ext φ=>obtain⟨p,⟨o,e⟩,st⟩:=x;exact⟨st _ _ p λo q=>k _ _ (.inl rfl) q,⟨o,k _ _ (.inl rfl) e⟩,st⟩
theorem HOk.lt(x:HOk P w H h)(e:H a=ae o):a < h.objs.size:=(x a o e).lt
theorem HOk.fresh(x:HOk P w H h)(e:h.objs.size<=a):H a=ah:=by
 cases q:H a with
 |none=>rfl
 |some u=>exact absurd (Bn (x.lt q) e) (Ec _)
theorem HOk.kept(x:HOk P w H h)(k:∀b u,h.get? b=ae u->h'.get? b=ae u):HOk P w H h':=λa o e=>
 (x a o e).stay (λb u _ q=>k b u q) (λ_ q=>q) λ_ _ q=>q
theorem HOk.laid(x:HOk P w H h)(k:∀b u,h.get? b=ae u->h'.get? b=ae u)(hp:h.objs.size<=a)(new:ObjOk P w (upd H a o) h' a o):HOk P w (upd H a o) h':=λb u e=>by
 have hn:=x.fresh hp;by_cases hb:b=a
 ·subst hb;rw[bQ]at e;cases e;exact new
 ·rw[aW hb]at e;exact(x b u e).stay (λc v _ q=>k c v q) (λc q=>by rw[aW (bY q hn)];exact q) λc xs q=>by rw[aW (bY q hn)];exact q
end
def Rd(H:Hp)(a:Addr)(u:HO):Prop:=H a=ae u\/∃o,H a=ae (.frz o u)
theorem Rd.ok(r:Rd H a u)(x:HOk P w H h):ObjOk P w H h a u:=by
 rcases r with r|⟨o,r⟩
 ·exact x a u r
 ·obtain⟨_,q⟩:=x a _ r;exact q
def qU:Option HO->Prop
 |some (.lst _)=>True
 |some (.dK _)=>True
 |some (.dT _)=>True
 |some (.set _ _)=>True
 |some (.ins _ _ _)=>True
 |some (.ext _)=>True
 |_=>False
section
variable{P:Bp}{w:B7}{H:Hp}{h h':Heap}{x e:Addr}{o':HO}
theorem HOk.write(ok:HOk P w H h)(mu:qU (H x))(he:e=x\/H e=ae (.own x))(k:∀b u,b≠e->h.get? b=ae u->h'.get? b=ae u)(heo:∃u,h'.get? e=ae u)
  (new:ObjOk P w (upd H x o') h' x o'):HOk P w (upd H x o') h':=λb u q=>by
 have nown:∀c y,H c=ae (.own y)->c≠x:=λc y r z=>by subst z;rw[r]at mu;exact mu
 have ntup:∀c xs,H c=ae (.tup xs)->c≠x:=λc xs r z=>by subst z;rw[r]at mu;exact mu
 by_cases hb:b=x
 ·subst hb;rw[bQ]at q;cases q;exact new
 ·rw[aW hb]at q;by_cases hbe:b=e
  ·have q':H b=ae (.own x):=by
    rcases he with z|z
    ·exact absurd (hbe.trans z) hb
    ·rw[hbe];exact z
   rw[q]at q';cases q';obtain⟨v,hv⟩:=heo;exact⟨v,by rw[hbe];exact hv⟩
  ·refine(ok b u q).stay (λc v hc r=>k c v ?_ r) (λc r=>by rw[aW (nown c b r)];exact r) λc xs r=>by rw[aW (ntup c xs r)];exact r
   rcases hc with rfl|hc
   ·exact hbe
   ·rintro rfl
    rcases he with z|z
    ·exact nown c b hc z
    ·rw[hc]at z;cases z;exact hb rfl
end
structure Un(fs ex:List Addr)(H H':Hp)(h h':Heap):Prop where
 keep:∀b o,h.get? b=ae o->H b=ah->b∉fs->b∉ex->h'.get? b=ae o
 slot:∀b o,h.get? b=ae o->H b=ah->b∈fs->b∉ex->∃sl,h'.get? b=ae {o with slots:=sl}
 free:∀b o,h.get? b=ae o->H b=ah->b∉ex->H' b=ah
 there:∀b o,h.get? b=ae o->b∉ex->∃o',h'.get? b=ae o'
 tups:∀b xs,H b=ae (.tup xs)->H' b=ae (.tup xs)
 frzs:∀b o u,H b=ae (.frz o u)->H' b=ae (.frz o u)
 tbls:∀b ps,H b=ae (.tbl ps)->∃more,H' b=ae (.tbl (ps++more))
section
variable{fs fs' ex ex':List Addr}{H H1 H2:Hp}{h h1 h2 h':Heap}{a x e:Addr}{o:HO}
theorem Un.any(u:Un fs ex H H1 h h1)(q:h.get? b=ae ob)(n:H b=ah)(hx:b∉ex):∃sl,h1.get? b=ae {ob with slots:=sl}:=by
 by_cases hb:b∈fs
 ·exact u.slot b ob q n hb hx
 ·exact⟨ob.slots,u.keep b ob q n hb hx⟩
theorem Un.kept(k:∀b u,h.get? b=ae u->h'.get? b=ae u):Un fs ex H H h h':=
 ⟨λb ob q _ _ _=>k b ob q,λb ob q _ _ _=>⟨ob.slots,k b ob q⟩,λ_ _ _ n _=>n,λb ob q _=>⟨ob,k b ob q⟩,λ_ _ q=>q,λ_ _ _ q=>q,λ_ ps q=>⟨#[],by rw[q];simp⟩⟩
theorem Un.refl:Un fs ex H H h h:=Un.kept λ_ _ q=>q
theorem Un.laid(k:∀b u,h.get? b=ae u->h'.get? b=ae u)(hp:h.objs.size<=a)(hn:H a=ah):Un fs ex H (upd H a o) h h' where
 keep:=λb u q _ _ _=>k b u q
 slot:=λb u q _ _ _=>⟨u.slots,k b u q⟩
 free:=λb u q n _=>by rw[aW (Bq (Bn (A0 q) hp))];exact n
 there:=λb u q _=>⟨u,k b u q⟩
 tups:=λb xs q=>by rw[aW (bY q hn)];exact q
 frzs:=λb u xs q=>by rw[aW (bY q hn)];exact q
 tbls:=λb ps q=>⟨#[],by rw[aW (bY q hn),q];simp⟩
theorem Un.write(mu:qU (H x))(he:e=x\/H e=ae (.own x))(k:∀b u,b≠e->h.get? b=ae u->h'.get? b=ae u)(heo:∃u,h'.get? e=ae u):Un fs ex H (upd H x o) h h':=by
 have hx:∀b,H b=ah->b≠x:=λb n z=>by subst z;rw[n]at mu;exact mu
 have hb:∀b,H b=ah->b≠e:=λb n z=>by
  subst z;rcases he with r|r
  ·exact hx b n r
  ·rw[n]at r;cases r
 have hm:∀b u,H b=ae u->¬qU (ae u)->b≠x:=λb u q nm z=>by subst z;rw[q]at mu;exact nm mu
 refine⟨λb u q n _ _=>k b u (hb b n) q,λb u q n _ _=>⟨u.slots,k b u (hb b n) q⟩,λb u q n _=>by rw[aW (hx b n)];exact n,λb u q _=>?_,
  λb xs q=>by rw[aW (hm b _ q λz=>z)];exact q,λb u xs q=>by rw[aW (hm b _ q λz=>z)];exact q,λb ps q=>⟨#[],by rw[aW (hm b _ q λz=>z),q];simp⟩⟩
 by_cases hbe:b=e
 ·subst hbe;exact heo
 ·exact⟨u,k b u hbe q⟩
end
def sL(h:Heap)(H:Hp):List Addr:=(A8 h.objs.size).filter λa=>(H a).isSome
def fZ(h:Heap)(H:Hp):Heap:=PySem.W.hideAll h (sL h H)
theorem NS(h:Heap)(H):(fZ h H).objs.size=h.objs.size:=PySem.W.hideAll_size _ _
theorem Vl(e:h.get? b=ae o)(n:H b=ah):(fZ h H).get? b=ae o:=
 PySem.W.hideAll_get _ e λhm=>by
  have q:(H b).isSome=ai:=(C7.mp hm).2;rw[n]at q;simp at q
theorem MD(e:(fZ h H).get? b=ae o):h.get? b=ae o/\H b=ah:=by
 have e':h.get? b=ae o:=PySem.W.of_hideAll (sL h H) e;refine⟨e',?_⟩;cases q:H b with
 |none=>rfl
 |some x=>
  have hm:b∈sL h H:=C7.mpr ⟨Ce.mpr (A0 e'),by simp[q]⟩;have z:(fZ h H).get? b=ah:=PySem.W.hideAll_none (sL h H) hm;rw[z]at e;cases e
def Mp(g h:Heap)(L:Addr):List (Addr×Obj):=(A8 h.objs.size).filterMap λa=>if a=L\/(g.get? a).isSome=ai then ah else(h.get? a).map λo=>(a,o)
def aP(g h:Heap)(L d:Addr):List (Addr×Obj):=(Mp g h L).filter λp=>decide (p.1≠d)
structure Mod(K:Ag)(mg:Str->Option Ak)(base:Heap):Prop where
 kin:K.In base
 glob:base.Ns Du mg
 blt:∃mb,base.Ns builtinsNs mb/\∀x:Str,x≠"__name__"->mb x=B3 x
 nolimit:base.NoLimit
structure Cx where
 prog:Bp
 w:B7
 K:Ag
 mg:Str->Option Ak
 base:Heap
 A:Ck
 N:List Str
 s₀:Ar
 H₀:Hp
 env:Env
 outer:List Env
 stack:List Env
 ex:List Addr
 fn:Str->Bool
 calm:Bool
 pn:List (Addr×Obj)
 xe:Ak->Ar->Prop
def jf(l:List Env):List Addr:=l.filterMap (·.frame)
abbrev Cx.fs(X:Cx):List Addr:=jf X.outer
def gh(sc:E4)(x:Str):Prop:=sc.names.lookup x=ae .local\/sc.names.lookup x=ae .cell\/sc.names.lookup x=ae .free
def kh(sc:E4)(x:Str):Prop:=sc.names.lookup x=ae .local\/sc.names.lookup x=ae .cell
def vn(env:Env)(h:Heap)(m:Str->Option Ak)(x:Str)(u:Ak):Prop:=
 (env.kindOf x=ae .local/\m x=ae u)\/((env.kindOf x=ae .cell\/env.kindOf x=ae .free)/\∃c,env.cells.lookup x=ae c/\h.IsCell c (ae u))
structure Cx.Ok(X:Cx):Prop where
 mod:Mod X.K X.mg X.base
 kind:X.env.scope.kind=.function
 glob:X.env.globals=Du
 blt:X.env.builtins=builtinsNs
 above:X.s₀.heap.objs.size<=X.env.locals
 inj:∀x y c,X.env.cells.lookup x=ae c->X.env.cells.lookup y=ae c->x=y
 has:∀x,(X.env.kindOf x=ae .cell\/X.env.kindOf x=ae .free)->∃c,X.env.cells.lookup x=ae c
 cab:∀x c,X.fn x=ai->X.env.cells.lookup x=ae c->X.s₀.heap.objs.size<=c
 hd:X.calm=ai->X.A.handled=ah
 frames:X.A.frames=ae X.stack
 stk:X.stack=X.outer\/(X.stack=X.env::X.outer/\X.env.frame=ae X.env.locals)
 exf:∀b∈X.ex,b≠X.env.locals/\∀x c,X.env.cells.lookup x=ae c->c≠b
 bs:∀b o,X.base.get? b=ae o->X.s₀.heap.get? b=ae o/\X.H₀ b=ah
 bsz:X.base.objs.size<=X.s₀.heap.objs.size
 noex:∀b o,X.base.get? b=ae o->b∉X.ex
 exfs:∀b∈X.ex,b∉X.fs
 funs:X.s₀.heap.FunFrames X.base X.outer
 frf:∀b∈X.fs,X.H₀ b=ah
structure Inv(X:Cx)(pins:List (Addr×Obj))(σ:List (Option V))(H:Hp)(s:Ar):Prop where
 ok:X.Ok
 os:s.os=X.s₀.os
 bare:AllBare s.gens
 base:Un X.fs X.ex X.H₀ H X.s₀.heap s.heap
 loc:∃m,s.heap.Ns X.env.locals m/\∀(i:Nat)(x:Str)(v:V),X.N[i]?=ae x->σ[i]?=ae (ae v)->gh X.env.scope x->∃u,RelV v u/\vn X.env s.heap m x u
 cell:∀x c,X.env.cells.lookup x=ae c->∃v,s.heap.IsCell c v
 free:H X.env.locals=ah
 freeC:∀x c,X.env.cells.lookup x=ae c->H c=ah
 pin:∀p∈X.pn++pins,s.heap.get? p.1=ae p.2/\H p.1=ah/\p.1≠X.env.locals/\p.1∉X.fs/\∀v,p.2.data≠.cell v
 hok:HOk X.prog X.w H s.heap
 len:σ.length=X.N.length
section
variable{X:Cx}{pins:List (Addr×Obj)}{σ:List (Option V)}{H H':Hp}{s:Ar}{h':Heap}
theorem Cx.Ok.nofr(ok:X.Ok)(e:X.base.get? b=ae o):b∉X.fs:=λhb=>by
 have:=(ok.funs.mem hb).1;rw[e]at this;cases this
theorem Inv.bs(I:Inv X pins σ H s):∀b o,X.base.get? b=ae o->s.heap.get? b=ae o/\H b=ah:=λb o e=>
 ⟨I.base.keep b o (I.ok.bs b o e).1 (I.ok.bs b o e).2 (I.ok.nofr e) (I.ok.noex b o e),I.base.free b o (I.ok.bs b o e).1 (I.ok.bs b o e).2 (I.ok.noex b o e)⟩
theorem Inv.bk(I:Inv X pins σ H s):∀b o,X.base.get? b=ae o->s.heap.get? b=ae o:=λb o e=>(I.bs b o e).1
theorem Inv.mod(I:Inv X pins σ H s):Mod X.K X.mg X.base:=I.ok.mod
theorem Inv.kIn(I:Inv X pins σ H s):X.K.In s.heap:=I.ok.mod.kin.keeps I.bk
theorem Inv.lt(I:Inv X pins σ H s):X.env.locals < s.heap.objs.size:=let⟨_,hn,_⟩:=I.loc;hn.lt
theorem Inv.sz(I:Inv X pins σ H s):X.s₀.heap.objs.size<=s.heap.objs.size:=A4 I.ok.above (Fp I.lt)
theorem Inv.nofs(I:Inv X pins σ H s){a:Addr}(h:s.heap.objs.size<=a):a∉X.fs:=λhb=>by
 obtain⟨_,o,ho,_⟩:=I.ok.funs.mem hb;exact absurd (Bn (A0 ho) (A4 I.sz h)) (Ec _)
theorem Inv.cne(I:Inv X pins σ H s):∀x c,X.env.cells.lookup x=ae c->c≠X.env.locals:=λx c e z=>by
 obtain⟨v,o,ho,hd⟩:=I.cell x c e;obtain⟨m,⟨o',es,ep,ho',hd',_⟩,_⟩:=I.loc;rw[z,ho']at ho;cases ho;rw[hd']at hd;cases hd
theorem Inv.funs(I:Inv X pins σ H s):s.heap.FunFrames X.base X.outer:=by
 have all:∀(l:List Env),(∀b∈jf l,b∈X.fs)->X.s₀.heap.FunFrames X.base l->s.heap.FunFrames X.base l:=by
  intro l
  induction l with
  |nil=>intro _ _;trivial
  |cons env r ih=>
   intro hs hl;obtain⟨hk,⟨L,o,hf,hn,ho,hd⟩,hr⟩:=hl;have hL:L∈X.fs:=hs L (by unfold jf;rw[Gv,hf];exact As);obtain⟨sl,e⟩:=I.base.slot L o ho (I.ok.frf L hL) hL λz=>I.ok.exfs L z hL;exact⟨hk,⟨L,_,hf,hn,e,hd⟩,ih (λb hb=>hs b (by unfold jf;rw[Gv,hf];exact Au _ hb)) hr⟩
 exact all X.outer (λ_ hb=>hb) I.ok.funs
theorem Inv.stack(I:Inv X pins σ H s):s.heap.FunFrames X.base X.stack:=by
 rcases I.ok.stk with e|⟨e,hf⟩
 ·rw[e];exact I.funs
 ·rw[e];obtain⟨m,hn,_⟩:=I.loc;refine .cons (by rw[I.ok.kind];decide) hf hn ?_ I.funs;exact Heap.get?_none_of_le (A4 I.ok.bsz I.ok.above)
theorem Inv.stkSub(I:Inv X pins σ H s):∀b∈jf X.stack,b∈X.env.locals::X.fs:=λb hb=>by
 rcases I.ok.stk with e|⟨e,hf⟩
 ·rw[e]at hb;exact Au _ hb
 ·rw[e]at hb;unfold jf at hb;rw[Gv,hf]at hb;exact hb
theorem Inv.stkFree(I:Inv X pins σ H s):∀b∈jf X.stack,H b=ah:=λb hb=>by
 rcases Aq.mp (I.stkSub b hb)with e|hb
 ·rw[e];exact I.free
 ·obtain⟨_,o,ho,_⟩:=I.ok.funs.mem hb;exact I.base.free b o ho (I.ok.frf b hb) λz=>I.ok.exfs b z hb
theorem Inv.step{ch:List Addr}(I:Inv X pins σ H s)
  (hch:∀b∈ch,(b∈X.ex\/X.s₀.heap.objs.size<=b)/\b≠X.env.locals/\(∀x c,X.env.cells.lookup x=ae c->c≠b)/\∀p∈X.pn++pins,p.1≠b)
  (keep:∀b o,b≠X.env.locals->b∉X.fs->b∉ch->s.heap.get? b=ae o->H b=ah->h'.get? b=ae o)
  (slot:∀b o,b≠X.env.locals->b∈X.fs->b∉ch->s.heap.get? b=ae o->H b=ah->∃sl,h'.get? b=ae {o with slots:=sl}) (free:∀b o,b∉ch->s.heap.get? b=ae o->H b=ah->H' b=ah)
  (there:∀b o,b∉ch->s.heap.get? b=ae o->∃o',h'.get? b=ae o')
  (tups:∀b xs,H b=ae (.tup xs)->H' b=ae (.tup xs)) (frzs:∀b o u,H b=ae (.frz o u)->H' b=ae (.frz o u)) (tbls:∀b ps,H b=ae (.tbl ps)->∃more,H' b=ae (.tbl (ps++more)))
  (ns:∀m,s.heap.Ns X.env.locals m->h'.Ns X.env.locals m) (hok:HOk X.prog X.w H' h') (hg:AllBare g'):
  Inv X pins σ H' {s with heap:=h',gens:=g',drawn:=d',toks:=t'}:=by
 have neL:∀b o,X.s₀.heap.get? b=ae o->b≠X.env.locals:=λb o e=>Bq (Bn (A0 e) I.ok.above);have neC:∀b o,X.s₀.heap.get? b=ae o->b∉X.ex->b∉ch:=λb o e hx hb=>by
  rcases(hch b hb).1 with z|z
  ·exact hx z
  ·exact absurd (Bn (A0 e) z) (Ec _)
 have cellK:∀x c,X.env.cells.lookup x=ae c->∀v,s.heap.IsCell c v->h'.IsCell c v:=λx c e v ⟨o,ho,hd⟩=>by
  have nch:c∉ch:=λz=>(hch c z).2.2.1 x c e rfl;by_cases hc:c∈X.fs
  ·obtain⟨sl,q⟩:=slot c o (I.cne x c e) hc nch ho (I.freeC x c e);exact⟨_,q,hd⟩
  ·exact⟨o,keep c o (I.cne x c e) hc nch ho (I.freeC x c e),hd⟩
 refine⟨I.ok,I.os,hg,⟨λb o e n hb hx=>?_,λb o e n hb hx=>?_,λb o e n hx=>?_,λb o e hx=>?_,λb xs e=>tups b xs (I.base.tups b xs e),λb o xs e=>frzs b o xs (I.base.frzs b o xs e),λb ps e=>?_⟩,?_,λx c e=>?_,?_,λx c e=>?_,λp hp=>?_,hok,I.len⟩
 ·exact keep b o (neL b o e) hb (neC b o e hx) (I.base.keep b o e n hb hx) (I.base.free b o e n hx)
 ·obtain⟨sl,e1⟩:=I.base.slot b o e n hb hx;obtain⟨sl',e2⟩:=slot b _ (neL b o e) hb (neC b o e hx) e1 (I.base.free b o e n hx);exact⟨sl',e2⟩
 ·obtain⟨o',e1⟩:=I.base.there b o e hx;exact free b o' (neC b o e hx) e1 (I.base.free b o e n hx)
 ·obtain⟨o',e1⟩:=I.base.there b o e hx;exact there b o' (neC b o e hx) e1
 ·obtain⟨m1,e1⟩:=I.base.tbls b ps e;obtain⟨m2,e2⟩:=tbls b _ e1;exact⟨m1++m2,by rw[e2,Array.append_assoc]⟩
 ·obtain⟨m,hn,hl⟩:=I.loc;refine⟨m,ns m hn,λi x v e1 e2 e3=>?_⟩;obtain⟨u,r,l⟩:=hl i x v e1 e2 e3;refine⟨u,r,?_⟩;rcases l with l|⟨k,c,e,z⟩
  ·exact .inl l
  ·exact .inr ⟨k,c,e,cellK x c e _ z⟩
 ·obtain⟨v,z⟩:=I.cell x c e;exact⟨v,cellK x c e v z⟩
 ·obtain⟨m,⟨o,_,_,ho,_⟩,_⟩:=I.loc;exact free _ o (λz=>(hch _ z).2.1 rfl) ho I.free
 ·obtain⟨v,o,ho,hd⟩:=I.cell x c e;exact free c o (λz=>(hch c z).2.2.1 x c e rfl) ho (I.freeC x c e)
 ·obtain⟨e,n,ne,nf,d⟩:=I.pin p hp;have nch:p.1∉ch:=λz=>(hch p.1 z).2.2.2 p hp rfl;exact⟨keep p.1 p.2 ne nf nch e n,free p.1 p.2 nch e n,ne,nf,d⟩
theorem Inv.un(I:Inv X pins σ H s)(u:Un X.fs [] H H' s.heap h')(hok:HOk X.prog X.w H' h'):Inv X pins σ H' {s with heap:=h',toks:=t'}:=by
 obtain⟨m,⟨o,es,ep,ho,r⟩,_⟩:=id I.loc;obtain⟨sl,hL⟩:=u.any ho I.free (by simp);exact I.step (g':=s.gens) (d':=s.drawn) (ch:=[]) (λ_ z=>nomatch z) (λb o _ hb _ e n=>u.keep b o e n hb (by simp)) (λb o _ hb _ e n=>u.slot b o e n hb (by simp)) (λb o _ e n=>u.free b o e n (by simp)) (λb o _ e=>u.there b o e (by simp)) u.tups u.frzs u.tbls (λm' hm=>by
  obtain⟨o',es',ep',ho',r'⟩:=hm;rw[ho]at ho';cases ho';exact⟨_,es',ep',hL,r'⟩) hok I.bare
theorem Inv.call(I:Inv X pins σ H s)(u:Un (jf X.stack) ch H H' s.heap h')(hok:HOk X.prog X.w H' h')(hg:AllBare g')
  (hch:∀b∈ch,(b∈X.ex\/X.s₀.heap.objs.size<=b)/\b≠X.env.locals/\(∀x c,X.env.cells.lookup x=ae c->c≠b)/\∀p∈X.pn++pins,p.1≠b):
  Inv X pins σ H' {s with heap:=h',gens:=g',drawn:=d',toks:=t'}:=by
 obtain⟨m,⟨o,es,ep,ho,r⟩,_⟩:=id I.loc;obtain⟨sl,hL⟩:=u.any ho I.free λz=>(hch _ z).2.1 rfl;exact I.step (ch:=ch) hch (λb o hL hb hc e n=>u.keep b o e n (λz=>(Aq.mp (I.stkSub b z)).elim hL hb) hc) (λb o _ _ hc e n=>u.any e n hc) (λb o hc e n=>u.free b o e n hc) (λb o hc e=>u.there b o e hc) u.tups u.frzs u.tbls (λm' hm=>by
  obtain⟨o',es',ep',ho',r'⟩:=hm;rw[ho]at ho';cases ho';exact⟨_,es',ep',hL,r'⟩) hok hg
theorem Inv.turned(I:Inv X pins σ H s)(k:∀b o,b≠it->s.heap.get? b=ae o->h'.get? b=ae o)(hn:H it=ah)(hL:it≠X.env.locals)
  (h1:it∈X.ex\/X.s₀.heap.objs.size<=it) (h2:∀x c,X.env.cells.lookup x=ae c->c≠it) (h3:∀p∈X.pn++pins,p.1≠it):Inv X pins σ H {s with heap:=h',toks:=t'}:=by
 have nit:∀b u,H b=ae u->b≠it:=λb u e z=>by rw[z,hn]at e;cases e
 refine I.step (g':=s.gens) (d':=s.drawn) (ch:=[it]) (λb hb=>?_) (λb o _ _ hc e _=>k b o (λz=>hc (by simp[z])) e) (λb o _ _ hc e _=>⟨o.slots,k b o (λz=>hc (by simp[z])) e⟩) (λ_ _ _ _ n=>n)
  (λb o hc e=>⟨o,k b o (λz=>hc (by simp[z])) e⟩) (λ_ _ e=>e) (λ_ _ _ e=>e) (λb ps e=>⟨#[],by rw[e];simp⟩) (λm hm=>?_) (λb u e=>?_) I.bare
 ·have e:b=it:=by simpa using hb
  subst e;exact⟨h1,hL,h2,h3⟩
 ·obtain⟨o,es,ep,ho,r⟩:=hm;exact⟨o,es,ep,k _ o (Ne.symm hL) ho,r⟩
 ·refine(I.hok b u e).stay (λc v hc q=>k c v ?_ q) (λ_ q=>q) λ_ _ q=>q;rcases hc with z|z
  ·rw[z];exact nit b u e
  ·exact nit c _ z
theorem Inv.tok(I:Inv X pins σ H s)(t):Inv X pins σ H {s with toks:=t}:=I.un (h':=s.heap) (t':=t) Un.refl I.hok
theorem Inv.kept(I:Inv X pins σ H s)(k:∀b u,s.heap.get? b=ae u->h'.get? b=ae u):Inv X pins σ H {s with heap:=h',toks:=t'}:=I.un (Un.kept k) (I.hok.kept k)
theorem Inv.laid{a:Addr}(I:Inv X pins σ H s)(k:∀b u,s.heap.get? b=ae u->h'.get? b=ae u)(hp:s.heap.objs.size<=a)(new:ObjOk X.prog X.w (upd H a o) h' a o):
  Inv X pins σ (upd H a o) {s with heap:=h',toks:=t'}:=I.un (Un.laid k hp (I.hok.fresh hp)) (I.hok.laid k hp new)
theorem Inv.write(I:Inv X pins σ H s)(mu:qU (H x))(he:e=x\/H e=ae (.own x))(k:∀b u,b≠e->s.heap.get? b=ae u->h'.get? b=ae u)(heo:∃u,h'.get? e=ae u)
  (new:ObjOk X.prog X.w (upd H x o) h' x o):Inv X pins σ (upd H x o) {s with heap:=h',toks:=t'}:=I.un (Un.write mu he k heo) (I.hok.write mu he k heo new)
theorem Inv.pins_of(I:Inv X pins σ H s)(h:∀p∈pins',s.heap.get? p.1=ae p.2/\H p.1=ah/\p.1≠X.env.locals/\p.1∉X.fs/\∀v,p.2.data≠.cell v):Inv X pins' σ H s:=
 ⟨I.ok,I.os,I.bare,I.base,I.loc,I.cell,I.free,I.freeC,λp hp=>(Bd.mp hp).elim (λz=>I.pin p (Dx _ z)) (h p),I.hok,I.len⟩
theorem Iy{N:List Str}(hN:N.Nodup){i j:Nat}(a:N[i]?=ae x)(b:N[j]?=ae x):i=j:=by
 obtain⟨h1,e1⟩:=Ao.mp a;obtain⟨h2,e2⟩:=Ao.mp b;exact(Fk hN).mp (e1.trans e2.symm)
theorem JM(I:Inv X pins σ H s)(hN:X.N.Nodup)(hi:X.N[i]?=ae x)(hx:kh X.env.scope x)(r:RelV v u)
  (h:∀s',Inv X pins (σ.set i (ae v)) H s'->(∃a,D1 a s.heap s'.heap/\(a=X.env.locals\/X.env.cells.lookup x=ae a))->Q () s') (hf:X.fn x=ai\/X.env.scope.names.lookup x=ae .local:=by first|exact .inl rfl|exact .inr rfl|assumption):A5 M A (storeName X.env x u) Q E s:=by
 obtain⟨m,hn,hl⟩:=id I.loc;have hcls:(X.env.scope.kind==.class || (X.env.scope.kind==.module&&X.env.locals != X.env.globals))=aj:=by rw[I.ok.kind];rfl
 have hiσ:i < σ.length:=by rw[I.len];exact(Ao.mp hi).1
 have cne:=I.cne;have tracked:∀{a:Addr}{h':Heap},(∃o,s.heap.get? a=ae o/\H a=ah)->D1 a s.heap h'->HOk X.prog X.w H h':=λ{a h'} ha hs b ob e=>by
  obtain⟨_,_,hfree⟩:=ha;refine(I.hok b ob e).stay (λc w' hc q=>(hs.2 c ?_).trans q) (λ_ q=>q) λ_ _ q=>q
  rintro rfl
  rcases hc with rfl|hc
  ·rw[hfree]at e;cases e
  ·rw[hfree]at hc;cases hc
 rcases hx with hk|hk
 ·refine wpAny_storeName_local hk hn (λh' hn' hs=>?_) hcls;obtain⟨oL,_,_,hoL,_⟩:=id hn;refine h _ ⟨I.ok,I.os,I.bare,⟨λb o e n hb hx=>?_,λb o e n hb hx=>?_,I.base.free,λb o e hx=>?_,I.base.tups,I.base.frzs,I.base.tbls⟩,⟨_,hn',λj y v' e1 e2 e3=>?_⟩,λy c e=>?_,I.free,I.freeC,λp hp=>?_,tracked ⟨oL,hoL,I.free⟩ hs,by simpa using I.len⟩ ⟨_,hs,.inl rfl⟩
  ·exact(hs.2 b (Bq (Bn (A0 e) I.ok.above))).trans (I.base.keep b o e n hb hx)
  ·obtain⟨sl,e1⟩:=I.base.slot b o e n hb hx;exact⟨sl,(hs.2 b (Bq (Bn (A0 e) I.ok.above))).trans e1⟩
  ·obtain⟨o',e1⟩:=I.base.there b o e hx;exact⟨o',(hs.2 b (Bq (Bn (A0 e) I.ok.above))).trans e1⟩
  ·by_cases hj:j=i
   ·subst hj;rw[hi]at e1;cases e1;rw[F8 hiσ]at e2;cases e2;exact⟨u,r,.inl ⟨hk,by simp⟩⟩
   ·rw[C5 (Ne.symm hj)]at e2;obtain⟨u',r',q⟩:=hl j y v' e1 e2 e3;refine⟨u',r',?_⟩;rcases q with⟨k,e⟩|⟨k,c,e,z⟩
    ·refine .inl ⟨k,?_⟩;have:y≠x:=λe=>hj (Iy hN e1 (e▸hi));simp[this,e]
    ·exact .inr ⟨k,c,e,z.sameBut hs (cne y c e)⟩
  ·obtain⟨w',z⟩:=I.cell y c e;exact⟨w',z.sameBut hs (cne y c e)⟩
  ·obtain⟨e,n,ne,nf,d⟩:=I.pin p hp;exact⟨(hs.2 p.1 ne).trans e,n,ne,nf,d⟩
 ·have hfn:X.fn x=ai:=by
   rcases hf with z|z
   ·exact z
   ·rw[z]at hk;cases hk
  obtain⟨c,hc⟩:=I.ok.has x (.inl hk);obtain⟨w',z⟩:=I.cell x c hc;refine wpAny_storeName_cell I.ok.kind hk hc z (λh' hc' hs=>?_);obtain⟨oc,hoc,hocd⟩:=id z;refine h {s with heap:=h'} ⟨I.ok,I.os,I.bare,⟨λb o e n hb hx=>?_,λb o e n hb hx=>?_,I.base.free,λb o e hx=>?_,I.base.tups,I.base.frzs,I.base.tbls⟩,⟨m,hn.sameBut hs (Ne.symm (cne x c hc)),λj y v' e1 e2 e3=>?_⟩,λy c' e=>?_,I.free,I.freeC,λp hp=>?_,tracked ⟨oc,hoc,I.freeC x c hc⟩ hs,by simpa using I.len⟩ ⟨c,hs,.inr hc⟩
  ·exact(hs.2 b (Bq (Bn (A0 e) (I.ok.cab x c hfn hc)))).trans (I.base.keep b o e n hb hx)
  ·obtain⟨sl,e1⟩:=I.base.slot b o e n hb hx;exact⟨sl,(hs.2 b (Bq (Bn (A0 e) (I.ok.cab x c hfn hc)))).trans e1⟩
  ·obtain⟨o',e1⟩:=I.base.there b o e hx;exact⟨o',(hs.2 b (Bq (Bn (A0 e) (I.ok.cab x c hfn hc)))).trans e1⟩
  ·by_cases hj:j=i
   ·subst hj;rw[hi]at e1;cases e1;rw[F8 hiσ]at e2;cases e2;exact⟨u,r,.inr ⟨.inl hk,c,hc,hc'⟩⟩
   ·rw[C5 (Ne.symm hj)]at e2;obtain⟨u',r',q⟩:=hl j y v' e1 e2 e3;refine⟨u',r',?_⟩;rcases q with q|⟨k,c',e,z'⟩
    ·exact .inl q
    ·refine .inr ⟨k,c',e,z'.sameBut hs ?_⟩
     rintro rfl
     exact hj (Iy hN e1 (I.ok.inj _ _ _ e hc▸hi))
  ·by_cases hcc:c'=c
   ·subst hcc;exact⟨_,hc'⟩
   ·obtain⟨w2,z2⟩:=I.cell y c' e;exact⟨w2,z2.sameBut hs hcc⟩
  ·obtain⟨e,n,ne,nf,d⟩:=I.pin p hp;refine⟨(hs.2 p.1 ?_).trans e,n,ne,nf,d⟩;intro q;rw[q,hoc]at e;have q':oc=p.2:=A7 e;exact d w' (by rw[<-q'];exact hocd)
theorem CO(I:Inv X pins σ H s)(hN:X.N.Nodup)(hi:X.N[i]?=ae x)(hx:kh X.env.scope x)(r:RelV v u)
  (h:∀s',Inv X pins (σ.set i (ae v)) H s'->Q () s') (hf:X.fn x=ai\/X.env.scope.names.lookup x=ae .local:=by first|exact .inl rfl|exact .inr rfl|assumption):A5 M A (storeName X.env x u) Q E s:=
 JM I hN hi hx r (λs' I' _=>h s' I') hf
theorem Inv.call'(I:Inv X pins σ H s)(ho:s'.os=s.os)(u:Un (jf X.stack) ch H H' s.heap s'.heap)(hok:HOk X.prog X.w H' s'.heap)(hg:AllBare s'.gens)
  (hch:∀b∈ch,(b∈X.ex\/X.s₀.heap.objs.size<=b)/\b≠X.env.locals/\(∀x c,X.env.cells.lookup x=ae c->c≠b)/\∀p∈X.pn++pins,p.1≠b):Inv X pins σ H' s':=by
 obtain⟨h',g',d',t',o'⟩:=s';have e:o'=s.os:=ho;subst e;exact I.call (g':=g') (t':=t') (d':=d') u hok hg hch
end
abbrev XK:=Ak->Option Addr->Hp->Prop
abbrev St:=List (Option V)
abbrev VK:=V->Hp->Prop
abbrev TE:=St->Hp->VK->Prop
abbrev TT:=St->Hp->(Bool->Hp->Prop)->Prop
abbrev TA:=St->Hp->(List V->Hp->Prop)->Prop
structure Ends where
 nx:St->Hp->Prop
 rt:VK
 bk:St->Hp->Prop:=λ_ _=>False
 ct:St->Hp->Prop:=λ_ _=>False
abbrev TS:=Ends->St->Hp->Prop
def EP(X:Cx)(pins:List (Addr×Obj))(σ:St)(Q:VK)(u:Ak)(s':Ar):Prop:=∃v H',Inv X pins σ H' s'/\RelV v u/\Q v H'
def TP(X:Cx)(pins:List (Addr×Obj))(σ:St)(Q:Bool->Hp->Prop)(b:Bool)(s':Ar):Prop:=∃H',Inv X pins σ H' s'/\Q b H'
def AP(X:Cx)(pins:List (Addr×Obj))(σ:St)(Q:List V->Hp->Prop)(us:List Ak)(s':Ar):Prop:=∃vs H',Inv X pins σ H' s'/\Vals vs us/\Q vs H'
def SP(X:Cx)(pins:List (Addr×Obj))(D:Ends)(f:Flow)(s':Ar):Prop:=
 match f with
 |.next=>∃σ' H',Inv X pins σ' H' s'/\D.nx σ' H'
 |.brk=>∃σ' H',Inv X pins σ' H' s'/\D.bk σ' H'
 |.cont=>∃σ' H',Inv X pins σ' H' s'/\D.ct σ' H'
 |.ret u=>∃v σ' H',Inv X pins σ' H' s'/\RelV v u/\D.rt v H'
def PE(X:Cx)(e:Expr)(t:TE):Prop:=
 ∀(pins:List (Addr×Obj))(s:Ar)(σ:St)(H:Hp)(Q:VK),Inv X pins σ H s->t σ H Q->A5 (Bi X.prog X.w) X.A (eval e X.env) (EP X pins σ Q) X.xe s
def PT(X:Cx)(e:Expr)(t:TT):Prop:=
 ∀(pins:List (Addr×Obj))(s:Ar)(σ:St)(H:Hp)(Q:Bool->Hp->Prop),Inv X pins σ H s->t σ H Q->A5 (Bi X.prog X.w) X.A (isTrue e X.env (eval e X.env)) (TP X pins σ Q) X.xe s
def PW(X:Cx)(e:Expr)(t:TT):Prop:=
 ∀(whole:Sem Ak)(pins:List (Addr×Obj))(s:Ar)(σ:St)(H:Hp)(Q:Bool->Hp->Prop),Inv X pins σ H s->t σ H Q->A5 (Bi X.prog X.w) X.A (isTrue e X.env whole) (TP X pins σ Q) X.xe s
theorem PW.pt(h:PW X e t):PT X e t:=h _
def PA(X:Cx)(es:List Expr)(t:TA):Prop:=
 ∀(pos:Pos)(pins:List (Addr×Obj))(s:Ar)(σ:St)(H:Hp)(Q:List V->Hp->Prop),Inv X pins σ H s->t σ H Q->A5 (Bi X.prog X.w) X.A (spliced (Dj pos (Az es X.env))) (AP X pins σ Q) X.xe s
def PS(X:Cx)(st:Stmt)(t:TS):Prop:=
 ∀(pins:List (Addr×Obj))(s:Ar)(σ:St)(H:Hp)(D:Ends),Inv X pins σ H s->t D σ H->A5 (Bi X.prog X.w) X.A (exec st X.env) (SP X pins D) X.xe s
def PSs(X:Cx)(st:List Stmt)(t:TS):Prop:=
 ∀(pins:List (Addr×Obj))(s:Ar)(σ:St)(H:Hp)(D:Ends),Inv X pins σ H s->t D σ H->A5 (Bi X.prog X.w) X.A (execs st X.env) (SP X pins D) X.xe s
theorem aY(h:A5 M A t Q E s)(hQ:∀a s,Q a s->Q' a s):A5 M A t Q' E s:=Dr h hQ λ_ _ x=>x
section
variable{X:Cx}
theorem VW(ha:PE X a ta)(hb:PE X b tb){σ:St}{H:Hp}{R:V->V->Hp->Prop}(I:Inv X pins σ H s)(h:ta σ H λx H1=>tb σ H1 λy H2=>R x y H2)
  {α:Type} {Q:α->Ar->Prop} {f:Ak->Ak->Sem α}
  (hf:∀v u s2 x y H2,Inv X pins σ H2 s2->RelV x v->RelV y u->R x y H2->A5 (Bi X.prog X.w) X.A (f v u) Q X.xe s2):
  A5 (Bi X.prog X.w) X.A (eval a X.env) (λv s₁=>A5 (Bi X.prog X.w) X.A (eval b X.env) (λu s₂=>A5 (Bi X.prog X.w) X.A (f v u) Q X.xe s₂) X.xe s₁) X.xe s:=by
 refine aY (ha pins s σ H _ I h) λv s1 ⟨x,H1,I1,r1,q1⟩=>?_;refine aY (hb pins s1 σ H1 _ I1 q1) λu s2 ⟨y,H2,I2,r2,q2⟩=>?_;exact hf v u s2 x y H2 I2 r1 r2 q2
def bw(i:Nat):TE:=λσ H Q=>∃v,σ[i]?=ae (ae v)/\Q v H
def tC(v:V):TE:=λ_ H Q=>Q v H
theorem iY{pos:Pos}(hN:X.N[i]?=ae x)(hv:gh X.env.scope x)(hd:(x==("__debug__":Str))=aj:=by decide)(hcd:(x==("__classdict__":Str))=aj:=by decide):PE X (.Name x pos) (bw i):=by
 intro pins s σ H Q I h;obtain⟨v,e,h⟩:=h;obtain⟨m,hn,hl⟩:=I.loc;obtain⟨u,r,l⟩:=hl i x v hN e hv;have fin:EP X pins σ Q u s:=⟨v,H,I,r,h⟩;rcases l with⟨hk,hm⟩|⟨hk,c,hc,hcell⟩
 ·exact wpAny_Name (wpAny_loadName_local I.ok.kind hk hn hm fin) hd
 ·rcases hk with hk|hk
  ·exact wpAny_Name (wpAny_loadName_cell I.ok.kind hk hc hcell fin) hd
  ·exact wpAny_Name (wpAny_loadName_free I.ok.kind hk hc hcell fin hcd) hd
theorem dg{i j pos}:PE X (.Constant (.int i) j pos) (tC (.int i)):=λ_ _ _ H _ I h=>wpAny_Constant_int ⟨.int i,H,I.tok _,⟨_,rfl⟩,h⟩
theorem QQ{b j pos}:PE X (.Constant (.bool b) j pos) (tC (.bl b)):=λ_ _ _ H _ I h=>Constant_bool ⟨.bl b,H,I,rfl,h⟩
theorem sv{j pos}:PE X (.Constant .none j pos) (tC .non):=λ_ _ _ H _ I h=>Constant_none ⟨.non,H,I,rfl,h⟩
theorem N6{x j pos}:PE X (.Constant (.str x) j pos) (tC (.str x)):=λ_ _ _ H _ I h=>Calls.Constant_str ⟨.str x,H,I.tok _,⟨_,rfl⟩,h⟩
def Gl(X:Cx)(x:Str):Prop:=X.env.kindOf x=ae .globalImplicit
theorem HC{σ:St}(I:Inv X pins σ H s)(hg:Gl X x)(hm:X.mg x=ae u)(h:Q u s)
  (hd:(x==("__debug__":Str))=aj:=by decide):A5 (Bi X.prog X.w) X.A (eval (.Name x pos) X.env) Q E s:=
 Calls.Name_function_global I.ok.kind hg (Calls.loadGlobal_global (by rw[I.ok.glob];exact I.mod.glob.keeps I.bk) hm h) hd
theorem k9{E:Ak->Ar->Prop}{σ:St}{H:Hp}{x:Str}{u:Ak}{pos:Pos}{Q:Ak->Ar->Prop}(I:Inv X pins σ H s)(hg:Gl X x)(hm:X.mg x=ah)(hv:B3 x=ae u)(h:Q u s)
  (hn:x≠"__name__":=by decide) (hd:(x==("__debug__":Str))=aj:=by decide):A5 (Bi X.prog X.w) X.A (eval (.Name x pos) X.env) Q E s:=by
 obtain⟨mb,h1,h2⟩:=I.mod.blt;exact Calls.Name_function_global I.ok.kind hg (Calls.loadGlobal_builtin (by rw[I.ok.glob];exact I.mod.glob.keeps I.bk) hm (by rw[I.ok.blt];exact h1.keeps I.bk) ((h2 x hn).trans hv) h) hd
theorem pJ(hg:Gl X x)(hm:X.mg x=ae u)(r:RelV v u)(hd:(x==("__debug__":Str))=aj:=by decide):PE X (.Name x pos) (tC v):=
 λ_ _ _ H _ I h=>HC I hg hm ⟨v,H,I,r,h⟩ hd
theorem vC{pos:Pos}(hg:Gl X x)(hm:X.mg x=ah)(hv:B3 x=ae u)(r:RelV v u)(hn:x≠"__name__":=by decide)(hd:(x==("__debug__":Str))=aj:=by decide):PE X (.Name x pos) (tC v):=
 λ_ _ _ H _ I h=>k9 I hg hm hv ⟨v,H,I,r,h⟩ hn hd
variable{a b:Expr}{ta tb:TE}{pos:Pos}
def PC(X:Cx)(op:CmpOp)(a b:Expr)(t:TE):Prop:=
 ∀(pins:List (Addr×Obj))(s:Ar)(σ:St)(H:Hp)(Q:VK),Inv X pins σ H s->t σ H Q->
  A5 (Bi X.prog X.w) X.A (eval a X.env) (λv s₁=>A5 (Bi X.prog X.w) X.A (eval b X.env) (λu s₂=>A5 (Bi X.prog X.w) X.A (By op v u) (EP X pins σ Q) X.xe s₂) X.xe s₁) X.xe s
theorem JT(b)(h:op≠.In)(h2:op≠.NotIn):Ci op b=aj:=by
 have e1:(op==CmpOp.In)=aj:=by cases op<;>first|rfl|exact absurd rfl h
 have e2:(op==CmpOp.NotIn)=aj:=by cases op<;>first|rfl|exact absurd rfl h2
 cases b<;>simp[Ci,e1,e2]
def tB(t:TE):TT:=λσ H Q=>t σ H λx H1=>∃c,x=.bl c/\Q c H1
theorem JH(h:PC X op a b t)(h1:Ci op b=aj:=by first|exact JT _ ∎ ∎|rfl):PE X (.Compare a [op] [b] pos) t:=λpins s σ H Q I hw=>wpAny_Compare1 (h pins s σ H Q I hw) h1
theorem GJ(h:PC X op a b t)(h1:Ci op b=aj:=by first|exact JT _ ∎ ∎|rfl):PT X (.Compare a [op] [b] pos) (tB t):=by
 intro pins s σ H Q I hw;refine wpAny_isTrue_Compare1 (aY (h pins s σ H _ I hw) λv s1 h1=>aY h1 λu s2 h2=>aY h2 λc s3 ⟨x,H1,I1,r1,q1⟩=>?_) h1;obtain⟨d,rfl,q⟩:=q1;cases r1;exact Dp ⟨H1,I1,q⟩
theorem RX(h:PE X e t)(he:∀whole,isTrue e X.env whole=(do let v <-whole;standAt e.pos;holding [v] (truthy v)):=by intro _;rfl):PT X e (tB t):=by
 intro pins s σ H Q I hw;refine isTrue_plain (aY (h pins s σ H _ I hw) λv s1 ⟨x,H1,I1,r1,q1⟩=>?_) (he _);obtain⟨d,rfl,q⟩:=q1;cases r1;exact Dp ⟨H1,I1,q⟩
variable{tA tB':TT}{aP:List Expr}
def qv(t u:TT):TT:=λσ H Q=>t σ H λc H1=>if c=ai then u σ H1 Q else Q aj H1
def BL(t u:TT):TT:=λσ H Q=>t σ H λc H1=>if c=ai then Q ai H1 else u σ H1 Q
def qQ(t:TT):TT:=λσ H Q=>t σ H λc H1=>Q (!c) H1
theorem zR(ha:PT X a tA):PW X (.BoolOp .And [a] pos) tA:=by
 intro wh pins s σ H Q I h;refine isTrue_and (aY (ha pins s σ H Q I h) λc s1 e=>?_);cases c with
 |true=>exact isTrue_and_nil e
 |false=>exact e
theorem NX(ha:PT X a tA):PW X (.BoolOp .Or [a] pos) tA:=by
 intro wh pins s σ H Q I h;refine isTrue_or (aY (ha pins s σ H Q I h) λc s1 e=>?_);cases c with
 |false=>exact isTrue_or_nil e
 |true=>exact e
theorem BZ(ha:PT X a tA)(hb:PW X (.BoolOp .And (b::aP) pos) tB'):PW X (.BoolOp .And (a::b::aP) pos) (qv tA tB'):=by
 intro wh pins s σ H Q I h;refine isTrue_and (aY (ha pins s σ H _ I h) λc s1 ⟨H1,I1,q1⟩=>?_);cases c with
 |true=>exact hb wh pins s1 σ H1 Q I1 q1
 |false=>exact⟨H1,I1,q1⟩
theorem PY(ha:PT X a tA)(hb:PW X (.BoolOp .Or (b::aP) pos) tB'):PW X (.BoolOp .Or (a::b::aP) pos) (BL tA tB'):=by
 intro wh pins s σ H Q I h;refine isTrue_or (aY (ha pins s σ H _ I h) λc s1 ⟨H1,I1,q1⟩=>?_);cases c with
 |true=>exact⟨H1,I1,q1⟩
 |false=>exact hb wh pins s1 σ H1 Q I1 q1
theorem MI(ha:PT X a tA):PT X (.UnaryOp .Not a pos) (qQ tA):=by
 intro pins s σ H Q I h;exact isTrue_not (ha pins s σ H (λc H1=>Q (!c) H1) I h)
def ES(ta tb:TE):TE:=λσ H Q=>ta σ H λx H1=>∃c,x=.bl c/\if c=ai then tb σ H1 Q else Q (.bl aj) H1
def p9(ta tb:TE):TE:=λσ H Q=>ta σ H λx H1=>∃c,x=.bl c/\if c=ai then Q (.bl ai) H1 else tb σ H1 Q
def IG(ta:TE):TE:=λσ H Q=>ta σ H λx H1=>∃c,x=.bl c/\Q (.bl (!c)) H1
theorem TR{op}(h:PE X a t):PE X (.BoolOp op [a] pos) t:=λpins s σ H Q I hw=>BoolOp_one (h pins s σ H Q I hw)
theorem N9(ha:PE X a ta)(hb:PE X (.BoolOp .And (b::aP) pos) tb):PE X (.BoolOp .And (a::b::aP) pos) (ES ta tb):=by
 intro pins s σ H Q I h;refine BoolOp_and (aY (ha pins s σ H _ I h) λv s1 ⟨x,H1,I1,r1,q1⟩=>?_);obtain⟨c,rfl,q1⟩:=q1;cases r1;refine Dp ?_;cases c with
 |true=>exact hb pins s1 σ H1 Q I1 q1
 |false=>exact⟨.bl aj,H1,I1,rfl,q1⟩
theorem KW(ha:PE X a ta)(hb:PE X (.BoolOp .Or (b::aP) pos) tb):PE X (.BoolOp .Or (a::b::aP) pos) (p9 ta tb):=by
 intro pins s σ H Q I h;refine BoolOp_or (aY (ha pins s σ H _ I h) λv s1 ⟨x,H1,I1,r1,q1⟩=>?_);obtain⟨c,rfl,q1⟩:=q1;cases r1;refine Dp ?_;cases c with
 |false=>exact hb pins s1 σ H1 Q I1 q1
 |true=>exact⟨.bl ai,H1,I1,rfl,q1⟩
theorem RU(ha:PE X a ta):PE X (.UnaryOp .Not a pos) (IG ta):=by
 intro pins s σ H Q I h;refine UnaryOp_ (aY (ha pins s σ H _ I h) λv s1 ⟨x,H1,I1,r1,q1⟩=>?_);obtain⟨c,rfl,q1⟩:=q1;cases r1;exact not_of (Dp ⟨.bl (!c),H1,I1,rfl,q1⟩)
def EV(t:TT)(ta tb:TE):TE:=λσ H Q=>t σ H λc H1=>if c=ai then ta σ H1 Q else tb σ H1 Q
theorem Me(hc:PT X c tA)(ha:PE X a ta)(hb:PE X b tb):PE X (.IfExp c a b pos) (EV tA ta tb):=by
 intro pins s σ H Q I h;refine wpAny_IfExp (aY (hc pins s σ H _ I h) λd s1 ⟨H1,I1,q1⟩=>?_);cases d with
 |true=>exact ha pins s1 σ H1 Q I1 q1
 |false=>exact hb pins s1 σ H1 Q I1 q1
end
def SqL(K:Ag)(H:Hp)(a:Addr)(xs:List V):Prop:=
 Rd H a (.lst xs) \/
  ∃(o:Obj)(its:Array Ak)(n:Nat),K.lookup a=ae o/\o.cls=.type "list"/\o.dict=ah/\o.data=.seq its n/\its.size<=Ay/\Vals xs its.toList
def SqT(K:Ag)(H:Hp)(a:Addr)(xs:List V):Prop:=
 Rd H a (.tup xs) \/
  ∃(o:Obj)(its:Array Ak)(n:Nat),K.lookup a=ae o/\o.cls=.type "tuple"/\o.data=.seq its n/\its.size<=Ay/\Vals xs its.toList
def uq:Ak->Option V
 |.none=>ae .non
 |.bool b=>ae (.bl b)
 |.int i _=>ae (.int i)
 |.str x _=>ae (.str x)
 |.bytes b _=>ae (.byt b)
 |.float b _=>ae (.flt b)
 |.ref a=>ae (.ref a)
 |.type n=>ae (.ty n)
 |_=>ah
theorem RelV.abs(r:RelV x u):uq u=ae x:=by
 cases x with
 |non=>cases r;rfl
 |bl _=>cases r;rfl
 |int _=>obtain⟨t,rfl⟩:=r;rfl
 |str _=>obtain⟨t,rfl⟩:=r;rfl
 |byt _=>obtain⟨t,rfl⟩:=r;rfl
 |flt _=>obtain⟨t,rfl⟩:=r;rfl
 |ref _=>cases r;rfl
 |ty _=>cases r;rfl
theorem RelV.inj(r:RelV x u)(q:RelV y u):x=y:=A7 (r.abs.symm.trans q.abs)
theorem Vals.inj:∀{xs ys:List V}{us:List Ak},Vals xs us->Vals ys us->xs=ys
 |_,_,_,.nil,.nil=>rfl
 |_,_,_,.cons r t,.cons r' t'=>by rw[r.inj r',Vals.inj t t']
section
variable{X:Cx}{pins:List (Addr×Obj)}{σ:St}{H:Hp}{s:Ar}{a:Addr}{xs ys:List V}
theorem SqL.of{K:Ag}(h:H a=ae (.lst xs)):SqL K H a xs:=.inl (.inl h)
theorem SqT.of{K:Ag}(h:H a=ae (.tup xs)):SqT K H a xs:=.inl (.inl h)
theorem Inv.list(I:Inv X pins σ H s)(h:SqL X.K H a xs):∃its:List Ak,Vals xs its/\PlainL s.heap a its.toArray/\xs.length<=Ay:=by
 rcases h with h|⟨o,its,n,hk,hc,hd,hs,hz,r⟩
 ·obtain⟨z,its,n,r,e⟩:=h.ok I.hok;exact⟨its,r,⟨_,n,e,rfl,rfl,rfl⟩,z⟩
 ·refine⟨its.toList,r,⟨o,n,I.kIn a o hk,hc,hd,by simpa using hs⟩,?_⟩;have e:=r.length;simp only[Ef]at e;omega
theorem Inv.tuple(I:Inv X pins σ H s)(h:SqT X.K H a xs):∃its:List Ak,Vals xs its/\IsTup s.heap a its.toArray/\xs.length<=Ay:=by
 rcases h with h|⟨o,its,n,hk,hc,hs,hz,r⟩
 ·obtain⟨z,its,r,p⟩:=h.ok I.hok;exact⟨its,r,p.tup,z⟩
 ·refine⟨its.toList,r,⟨o,I.kIn a o hk,hc,n,by simpa using hs⟩,?_⟩;have e:=r.length;simp only[Ef]at e;omega
theorem Inv.list_inj(I:Inv X pins σ H s)(h:SqL X.K H a xs)(h':SqL X.K H a ys):xs=ys:=by
 obtain⟨its,r,⟨o,n,e,_,_,d⟩,_⟩:=I.list h;obtain⟨its',r',⟨o',n',e',_,_,d'⟩,_⟩:=I.list h';rw[e]at e';cases e';rw[d]at d';injection d' with d1 _;have:its=its':=by simpa using congrArg Array.toList d1
 subst this;exact r.inj r'
theorem Inv.tuple_inj(I:Inv X pins σ H s)(h:SqT X.K H a xs)(h':SqT X.K H a ys):xs=ys:=by
 obtain⟨its,r,⟨o,e,_,n,d⟩,_⟩:=I.tuple h;obtain⟨its',r',⟨o',e',_,n',d'⟩,_⟩:=I.tuple h';rw[e]at e';cases e';rw[d]at d';injection d' with d1 _;have:its=its':=by simpa using congrArg Array.toList d1
 subst this;exact r.inj r'
end
abbrev Cx.wish(X:Cx)(E:Ak->Ar->Prop):Cx:={ X with xe:=E}
abbrev Cx.nox(X:Cx):Cx:=X.wish λ_ _=>False
theorem Cx.Ok.wish{X:Cx}(ok:X.Ok)(E):(X.wish E).Ok:=
 ⟨ok.mod,ok.kind,ok.glob,ok.blt,ok.above,ok.inj,ok.has,ok.cab,ok.hd,ok.frames,ok.stk,ok.exf,ok.bs,ok.bsz,ok.noex,ok.exfs,ok.funs,ok.frf⟩
theorem Cx.Ok.unwish{X:Cx}(ok:(X.wish E).Ok):X.Ok:=
 ⟨ok.mod,ok.kind,ok.glob,ok.blt,ok.above,ok.inj,ok.has,ok.cab,ok.hd,ok.frames,ok.stk,ok.exf,ok.bs,ok.bsz,ok.noex,ok.exfs,ok.funs,ok.frf⟩
section
variable{X:Cx}{pins:List (Addr×Obj)}{σ:St}{H:Hp}{s:Ar}{E:Ak->Ar->Prop}
theorem Inv.wish(I:Inv X pins σ H s)(E):Inv (X.wish E) pins σ H s:=⟨I.ok.wish E,I.os,I.bare,I.base,I.loc,I.cell,I.free,I.freeC,I.pin,I.hok,I.len⟩
theorem Inv.unwish(I:Inv (X.wish E) pins σ H s):Inv X pins σ H s:=⟨I.ok.unwish,I.os,I.bare,I.base,I.loc,I.cell,I.free,I.freeC,I.pin,I.hok,I.len⟩
theorem SP.unwish(h:SP (X.wish E) pins D f s'):SP X pins D f s':=by
 cases f with
 |next=>obtain⟨σ',H',I,q⟩:=h;exact⟨σ',H',I.unwish,q⟩
 |brk=>obtain⟨σ',H',I,q⟩:=h;exact⟨σ',H',I.unwish,q⟩
 |cont=>obtain⟨σ',H',I,q⟩:=h;exact⟨σ',H',I.unwish,q⟩
 |ret u=>obtain⟨v,σ',H',I,r,q⟩:=h;exact⟨v,σ',H',I.unwish,r,q⟩
theorem PSs.nox{st:List Stmt}(h:PSs X.nox st t):PSs X st t:=λpins s σ H D I hw=>
 Dr (h pins s σ H D (I.wish _) hw) (λ_ _ q=>q.unwish) λ_ _ z=>False.elim z
end
section
variable{X:Cx}{st:Stmt}{aP:List Stmt}{t u:TS}{e:Expr}{te:TE}{pos:Pos}
def oI:TS:=λD σ H=>D.nx σ H
def ic(t u:TS):TS:=λD σ H=>t {D with nx:=u D} σ H
theorem sh:PSs X [] oI:=λ_ _ σ H _ I h=>wpAny_execs_nil ⟨σ,H,I,h⟩
theorem ja(h1:PS X st t)(h2:PSs X aP u):PSs X (st::aP) (ic t u):=by
 intro pins s σ H D I h;refine wpAny_execs_cons (aY (h1 pins s σ H {D with nx:=u D} I h) λf s1 q=>?_);cases f with
 |next=>
  obtain⟨σ',H',I',q⟩:=q;exact h2 pins s1 σ' H' D I' q
 |ret v=>exact q
 |brk=>exact q
 |cont=>exact q
theorem nR(h1:PS X st t):PSs X [st] t:=by
 intro pins s σ H D I h;refine wpAny_execs_cons (aY (h1 pins s σ H D I h) λf s1 q=>?_);cases f with
 |next=>exact wpAny_execs_nil q
 |ret v=>exact q
 |brk=>exact q
 |cont=>exact q
theorem Inv.quiet{σ:St}(I:Inv X pins σ H s):interactive X.env=aj:=by simp[interactive,I.ok.kind]
def sW(te:TE):TS:=λD σ H=>te σ H λ_ H1=>D.nx σ H1
theorem Ql(he:PE X e te)(hs:Ed e ah pos.line X.env=pure aj:=by rfl):PS X (.Expr e pos) (sW te):=by
 intro pins s σ H D I h;exact wpAny_Expr_any (aY (he pins s σ H _ I h) λv s1 ⟨x,H1,I1,r1,q1⟩=>⟨σ,H1,I1,q1⟩) I.quiet hs
def jo(te:TE):TS:=λD σ H=>te σ H D.rt
theorem mI(he:PE X e te):PS X (.Return (ae e) pos) (jo te):=by
 intro pins s σ H D I h;exact wpAny_Return_some (aY (he pins s σ H _ I h) λv s1 ⟨x,H1,I1,r1,q1⟩=>⟨x,σ,H1,I1,r1,q1⟩)
def jD(c:TT)(t u:TS):TS:=λD σ H=>c σ H λb H1=>if b=ai then t D σ H1 else u D σ H1
theorem sT(hc:PT X c tc)(ha:PSs X a t)(hb:PSs X b u):PS X (.If c a b pos) (jD tc t u):=by
 intro pins s σ H D I h;refine wpAny_If (aY (hc pins s σ H _ I h) λd s1 ⟨H1,I1,q1⟩=>?_);cases d with
 |true=>exact ha pins s1 σ H1 D I1 q1
 |false=>exact hb pins s1 σ H1 D I1 q1
end
abbrev TG:=V->St->Hp->(St->Hp->Prop)->Prop
abbrev gK:=List V->St->Hp->(St->Hp->Prop)->Prop
def PG(X:Cx)(target:Expr)(t:TG):Prop:=
 ∀(pins:List (Addr×Obj))(s:Ar)(σ:St)(H:Hp)(v:V)(u:Ak)(Q:St->Hp->Prop),Inv X pins σ H s->RelV v u->t v σ H Q->
  A5 (Bi X.prog X.w) X.A (Gj target X.env u) (λ_ s'=>∃σ' H',Inv X pins σ' H' s'/\Q σ' H') X.xe s
def nQ(X:Cx)(ts:List Expr)(t:gK):Prop:=
 ∀(pins:List (Addr×Obj))(s:Ar)(σ:St)(H:Hp)(vs:List V)(us:List Ak)(Q:St->Hp->Prop),Inv X pins σ H s->Vals vs us->t vs σ H Q->
  A5 (Bi X.prog X.w) X.A (assignInOrder ((Cq ts X.env).map (·.2)) us) (λ_ s'=>∃σ' H',Inv X pins σ' H' s'/\Q σ' H') X.xe s
abbrev me:=V->V->V->Hp->(Hp->Prop)->Prop
def o8(X:Cx)(t:me):Prop:=
 ∀(pins:List (Addr×Obj))(s:Ar)(σ:St)(H:Hp)(o i v:V)(ov iv u:Ak)(Q:Hp->Prop),Inv X pins σ H s->RelV o ov->RelV i iv->RelV v u->t o i v H Q->
  A5 (Bi X.prog X.w) X.A (setItem ov iv u) (λ_ s'=>∃H',Inv X pins σ H' s'/\Q H') X.xe s
section
variable{X:Cx}{pos:Pos}
def fi(i:Nat):TG:=λv σ H Q=>Q (σ.set i (ae v)) H
theorem PU(hN:X.N.Nodup)(hi:X.N[i]?=ae x)(hx:kh X.env.scope x)(hf:X.fn x=ai\/X.env.scope.names.lookup x=ae .local:=by first|exact .inl rfl|exact .inr rfl|assumption):PG X (.Name x pos) (fi i):=by
 intro pins s σ H v u Q I r h;exact wpAny_assign_Name (CO I hN hi hx r (λs' I'=>⟨_,H,I',h⟩) hf)
def oY:gK:=λvs σ H Q=>vs=[]/\Q σ H
def IL(t:TG)(u:gK):gK:=λvs σ H Q=>∃v r,vs=v::r/\t v σ H λσ' H'=>u r σ' H' Q
theorem PK:nQ X [] oY:=by
 intro pins s σ H vs us Q I r h;obtain⟨e,h⟩:=h;subst e;cases r;exact assignInOrder_nil ⟨σ,H,I,h⟩
theorem OF(h1:PG X e t)(h2:nQ X es u)
  (hs:(Cq (e::es) X.env).map (·.2)=Gj e X.env::(Cq es X.env).map (·.2):=by rfl):nQ X (e::es) (IL t u):=by
 intro pins s σ H vs us Q I r h;obtain⟨v,vr,e1,h⟩:=h;subst e1;cases r with
 |cons r rr=>
  rw[hs];refine assignInOrder_cons (aY (h1 pins s σ H _ _ _ I r h) λ_ s1 ⟨σ1,H1,I1,q1⟩=>?_);exact h2 pins s1 σ1 H1 _ _ Q I1 rr q1
def nq(K:Ag)(n:Nat)(t:gK):TG:=λv σ H Q=>∃a xs,v=.ref a/\SqT K H a xs/\xs.length=n/\t xs σ H Q
theorem Ko{k:Nat}(hc:X.calm=ai)(h:nQ X es t)
  (hn:(Cq es X.env).length=n:=by rfl) (hst:(Cq es X.env).findIdx? (·.1)=ah:=by rfl):PG X (.Tuple es k pos) (nq X.K n t):=by
 intro pins s σ H v u Q I r hw;obtain⟨a,xs,e1,hq,hl,hw⟩:=hw;subst e1;cases r;obtain⟨its,rv,ht,hz⟩:=I.tuple hq;refine assign_Tuple_tuple (I.ok.hd hc) ht (by simp[hn,<-hl,rv.length]) hst λh' hx=>?_;have I1:Inv X pins σ H {s with heap:=h'}:=I.kept (t':=s.toks) λb o e=>hx b o (Bq (A0 e)) e;exact h pins _ σ H xs _ Q I1 (by simpa using rv) hw
def iU(to ti:TE)(t:me):TG:=λv σ H Q=>to σ H λo H1=>ti σ H1 λi H2=>t o i v H2 λH3=>Q σ H3
theorem pY(ho:PE X o to)(hi:PE X i ti)(hs:o8 X t)
  (ha:∀v,Gj (.Subscript o i pos) X.env v=(do
   let ov <-holding [v] (eval o X.env)
   let iv <-holding [v,ov] (eval i X.env)
   standAt pos
   holding [v,ov,iv] (setItem ov iv v)
   release [v,ov,iv] []):=by intro _;rfl):PG X (.Subscript o i pos) (iU to ti t):=by
 intro pins s σ H v u Q I r h;rw[ha];refine Ad (Ct (aY (ho pins s σ H _ I h) λov s1 ⟨x,H1,I1,r1,q1⟩=>?_));refine Ad (Ct (aY (hi pins s1 σ H1 _ I1 q1) λiv s2 ⟨y,H2,I2,r2,q2⟩=>?_));refine Ad (wpAny_standAt (Ad (Ct (aY (hs pins s2 σ H2 x y v ov iv u _ I2 r1 r2 r q2) λ_ s3 ⟨H3,I3,q3⟩=>?_))));exact wpAny_release ⟨σ,H3,I3,q3⟩
def c8(te:TE)(g:TG):TS:=λD σ H=>te σ H λx H1=>g x σ H1 D.nx
theorem nL(he:PE X e te)(hg:PG X tg g)(hs:swapsWithSole [tg] e pos.line X.env=pure aj:=by rfl)(hw:swappedStores [tg] e X.env=pure ah:=by rfl)
  (h1:(Cq [tg] X.env).map (·.2)=[Gj tg X.env]:=by rfl):PS X (.Assign [tg] e pos) (c8 te g):=by
 intro pins s σ H D I h;refine wpAny_Assign_stores (aY (he pins s σ H _ I h) λv s1 ⟨x,H1,I1,r1,q1⟩=>?_) hs hw;rw[h1];exact aY (hg pins s1 σ H1 x v _ I1 r1 q1) λ_ s2 q=>q
theorem jU(hN:X.N.Nodup)(hi:X.N[i]?=ae x)(hx:kh X.env.scope x)(he:PE X e te)(hs:Ed e (ae (.Name x pos')) pos.line X.env=pure aj:=by rfl)(hf:X.fn x=ai\/X.env.scope.names.lookup x=ae .local:=by first|exact .inl rfl|exact .inr rfl|assumption):
  PS X (.Assign [.Name x pos'] e pos) (c8 te (fi i)):=by
 intro pins s σ H D I h;refine wpAny_Assign_Name (aY (he pins s σ H _ I h) λv s1 ⟨y,H1,I1,r1,q1⟩=>?_) hs;exact CO I1 hN hi hx r1 (λs2 I2=>⟨_,H1,I2,q1⟩) hf
end
structure It where
 go:Nat->Hp->Prop
 yld:Nat->Hp->V->Hp->Prop
 stop:Nat->Hp->Prop
def dG(X:Cx)(pins:List (Addr×Obj))(H:Hp)(b:Addr):Prop:=
 H b=ah/\b≠X.env.locals/\b∉X.fs/\(b∈X.ex\/X.s₀.heap.objs.size<=b)/\(∀x c,X.env.cells.lookup x=ae c->c≠b)/\∀p∈X.pn++pins,p.1≠b
theorem Inv.fpOk{σ:St}{b:Addr}(I:Inv X pins σ H s)(hb:s.heap.objs.size<=b)(hn:H' b=ah):dG X pins H' b:=by
 refine⟨hn,Fo (Bn I.lt hb),I.nofs hb,.inr (A4 I.sz hb),λx c e z=>?_,λp hp z=>?_⟩
 ·obtain⟨v,q⟩:=I.cell x c e;exact absurd (Bn q.lt (by rw[z];exact hb)) (Ec _)
 ·exact absurd (Bn (A0 (I.pin p hp).1) (by rw[z];exact hb)) (Ec _)
structure Turn(P:Bp)(w:B7)(K:Ag)(tg:Expr)(J:It)(fp:List Addr)(it:Addr)(tn:Nat->Heap->Prop):Prop where
 mem:it∈fp
 obj:∀i h,tn i h->∀b∈fp,∃o,h.get? b=ae o/\∀v,o.data≠.cell v
 keep:∀i h h',tn i h->(∀b∈fp,∀o,h.get? b=ae o->h'.get? b=ae o)->tn i h'
 item:∀(X:Cx),X.prog=P->X.w=w->X.K=K->X.calm=ai->∀(i:Nat)(pins:List (Addr×Obj))(s:Ar)(σ:St)(H:Hp)(E:Ak->Ar->Prop),Inv X pins σ H s->(∀b∈fp,dG X pins H b)->tn i s.heap->J.go i H->
  A5 (Bi P w) X.A (pyNext (.ref it)) (λr s1=>∃u,r=ae u /\
   A5 (Bi P w) X.A (letOwnedTupleGo tg (.ref it) u) (λ_ s2=>∃x H',Inv X pins σ H' s2/\RelV x u/\J.yld i H x H'/\tn (i+1) s2.heap/\∀b∈fp,H' b=ah) E s1) E s
 done:∀(X:Cx),X.prog=P->X.w=w->X.K=K->X.calm=ai->∀(i:Nat)(pins:List (Addr×Obj))(s:Ar)(σ:St)(H:Hp)(E:Ak->Ar->Prop),Inv X pins σ H s->(∀b∈fp,dG X pins H b)->tn i s.heap->J.stop i H->
  A5 (Bi P w) X.A (pyNext (.ref it)) (λr s1=>r=ah/\Inv X pins σ H s1) E s
 self:∀(A:Ck)(i:Nat)(s:Ar)(Q:Ak->Ar->Prop)(E:Ak->Ar->Prop),tn i s.heap->Q (.ref it) s->A5 (Bi P w) A (pyIter (.ref it)) Q E s
abbrev TI:=St->Hp->(It->Hp->Prop)->Prop
def CL(X:Cx)(pins:List (Addr×Obj))(σ:St)(tg:Expr)(R:It->Hp->Prop)(itv:Ak)(s2:Ar):Prop:=
 ∃(it:Addr)(fp:List Addr)(tn:Nat->Heap->Prop)(J:It)(H':Hp),itv=.ref it/\Inv X pins σ H' s2/\Turn X.prog X.w X.K tg J fp it tn/\tn 0 s2.heap/\(∀b∈fp,dG X pins H' b)/\R J H'
def PI(X:Cx)(tg iter:Expr)(wi:TI):Prop:=
 ∀(pins:List (Addr×Obj))(s:Ar)(σ:St)(H:Hp)(R:It->Hp->Prop),Inv X pins σ H s->wi σ H R->
  A5 (Bi X.prog X.w) X.A (eval iter X.env) (λv s1=>A5 (Bi X.prog X.w) X.A (pyIter v) (CL X pins σ tg R) X.xe s1) X.xe s
theorem vF(ho:s.heap.get? it=ae o)(hc:o.cls=.type n)(hd:o.data=.fields vs)
  (hn:["enumerate","zip","dict_itemiterator","dict_reverseitemiterator","odict_iterator","itertools.zip_longest","itertools.pairwise"].contains n=aj) (hQ:Q () s):A5 M A (letOwnedTupleGo tg (.ref it) u) Q E s:=by
 unfold letOwnedTupleGo;cases tg<;>first
  |exact Aw hQ
  | (cases u<;>first
    |exact Aw hQ
    | (refine Ad (wpAny_load ho ?_)
       rw[hc,hd];show A5 M A (if (["enumerate","zip","dict_itemiterator","dict_reverseitemiterator","odict_iterator","itertools.zip_longest","itertools.pairwise"].contains n&&vs[0]?==ae (F0 _))=ai then _ else _) Q E s;rw[if_neg (by intro h;rw[hn,Bool.false_and]at h;cases h)];exact Aw hQ))
def qT(K:Ag)(a:Addr):It:=
 ⟨λi H=>∃xs x,SqL K H a xs/\xs[i]?=ae x,λi H x H'=>H'=H/\∀xs,SqL K H a xs->xs[i]?=ae x,λi H=>∃xs,SqL K H a xs/\xs.length<=i⟩
def qz(K:Ag)(a:Addr):It:=
 ⟨λi H=>∃xs x,SqT K H a xs/\xs[i]?=ae x,λi H x H'=>H'=H/\∀xs,SqT K H a xs->xs[i]?=ae x,λi H=>∃xs,SqT K H a xs/\xs.length<=i⟩
def m4(lo:Int)(n:Nat):It:=⟨λi _=>i < n,λi H x H'=>H'=H/\x=.int (lo+i),λi _=>n<=i⟩
theorem S9{K:Ag}(a it):Turn P w K tg (qT K a) [it] it (λi h=>h.IsListIter it a i) where
 mem:=by simp
 obj:=λi h st b hb=>by
  have e:b=it:=by simpa using hb
  subst e;obtain⟨o,e,c,d⟩:=st;exact⟨o,e,λv z=>by rw[d]at z;cases z⟩
 keep:=λi h h' st k=>st.at λo e=>k it (by simp) o e
 item:=by
  intro X hP hw hK hc i pins s σ H E I hf st hg;subst hP hw hK;obtain⟨xs,x,hq,hx⟩:=hg;obtain⟨its,rv,p,hz⟩:=I.list hq;obtain⟨u,hu,ru⟩:=rv.get hx;obtain⟨f0,f1,f2,f3,f4,f5⟩:=hf it (by simp);refine wpAny_pyNext_list_item st p.isList (x:=u) (by simpa using hu) λh' st' sb=>?_;have I1:Inv X pins σ H {s with heap:=h'}:=I.turned (t':=s.toks) (λb o hb e=>(sb.2 b hb).trans e) f0 f1 f3 f4 f5;obtain⟨o,e,c,d⟩:=id st';exact⟨u,rfl,vF (s:={ s with heap:=h'}) e c d ∎ ⟨x,H,I1,ru,⟨rfl,λys hy=>by rw[I.list_inj hy hq];exact hx⟩,st',λb hb=>(hf b hb).1⟩⟩
 done:=by
  intro X hP hw hK hc i pins s σ H E I hf st hg;subst hP hw hK;obtain⟨xs,hq,hx⟩:=hg;obtain⟨its,rv,p,hz⟩:=I.list hq;obtain⟨f0,f1,f2,f3,f4,f5⟩:=hf it (by simp);have hl:=rv.length;exact wpAny_pyNext_list_end (I.ok.hd hc) st p.isList (by simp;omega) λh' eb=>⟨rfl,I.turned (t':=s.toks) (λb o hb e=>eb b o hb e) f0 f1 f3 f4 f5⟩
 self:=λ_ _ _ _ _ st h=>wpAny_pyIter_listiter st h
theorem U1{K:Ag}(a it):Turn P w K tg (qz K a) [it] it (λi h=>h.IsTupleIter it a i) where
 mem:=by simp
 obj:=λi h st b hb=>by
  have e:b=it:=by simpa using hb
  subst e;obtain⟨o,e,c,d⟩:=st;exact⟨o,e,λv z=>by rw[d]at z;cases z⟩
 keep:=λi h h' st k=>st.at λo e=>k it (by simp) o e
 item:=by
  intro X hP hw hK hc i pins s σ H E I hf st hg;subst hP hw hK;obtain⟨xs,x,hq,hx⟩:=hg;obtain⟨its,rv,p,hz⟩:=I.tuple hq;obtain⟨u,hu,ru⟩:=rv.get hx;obtain⟨f0,f1,f2,f3,f4,f5⟩:=hf it (by simp);refine wpAny_pyNext_tuple_item st (show s.heap.IsTuple a its.toArray from p) (x:=u) (by simpa using hu) λh' st' sb=>?_;have I1:Inv X pins σ H {s with heap:=h'}:=I.turned (t':=s.toks) (λb o hb e=>(sb.2 b hb).trans e) f0 f1 f3 f4 f5;obtain⟨o,e,c,d⟩:=id st';exact⟨u,rfl,vF (s:={ s with heap:=h'}) e c d ∎ ⟨x,H,I1,ru,⟨rfl,λys hy=>by rw[I.tuple_inj hy hq];exact hx⟩,st',λb hb=>(hf b hb).1⟩⟩
 done:=by
  intro X hP hw hK hc i pins s σ H E I hf st hg;subst hP hw hK;obtain⟨xs,hq,hx⟩:=hg;obtain⟨its,rv,p,hz⟩:=I.tuple hq;obtain⟨f0,f1,f2,f3,f4,f5⟩:=hf it (by simp);have hl:=rv.length;exact wpAny_pyNext_tuple_end (I.ok.hd hc) st (show s.heap.IsTuple a its.toArray from p) (by simp;omega) λh' eb=>⟨rfl,I.turned (t':=s.toks) (λb o hb e=>eb b o hb e) f0 f1 f3 f4 f5⟩
 self:=λ_ _ _ _ _ st h=>wpAny_pyIter_tupleiter st h
theorem Km{K:Ag}(it)(lo)(n):Turn P w K tg (m4 lo n) [it] it (λi h=>IsRangeIter h it (lo+(i:Nat)*1) ((n:Int)-(i:Nat)) 1) where
 mem:=by simp
 obj:=λi h st b hb=>by
  have e:b=it:=by simpa using hb
  subst e;exact⟨_,st,λv z=>by
   have z':Data.fields _=Data.cell v:=z;cases z'⟩
 keep:=λi h h' st k=>k it (by simp) _ st
 item:=by
  intro X hP hw hK hc i pins s σ H E I hf st hg;subst hP hw hK;obtain⟨f0,f1,f2,f3,f4,f5⟩:=hf it (by simp);have W:=Walks.range (prog:=X.prog) (w:=X.w) (I.ok.hd hc) it lo 1 n;refine W.item i s _ _ hg st λv h' tk hv st' kk=>?_;obtain⟨t,rfl⟩:=hv;have I1:Inv X pins σ H {s with heap:=h',toks:=tk}:=I.turned (λb o hb e=>kk b o (by simpa using hb) e) f0 f1 f3 f4 f5;refine⟨_,rfl,vF (s:={ s with heap:=h',toks:=tk}) (n:="range_iterator") st' rfl rfl ∎ ⟨.int (lo+i),H,I1,⟨t,?_⟩,⟨rfl,rfl⟩,st',λb hb=>(hf b hb).1⟩⟩;rw[Int.mul_one]
 done:=by
  intro X hP hw hK hc i pins s σ H E I hf st hg;subst hP hw hK;obtain⟨f0,f1,f2,f3,f4,f5⟩:=hf it (by simp);exact wpAny_pyNext_range_end (I.ok.hd hc) st (by have:n<=i:=hg;omega) λh' eb=>⟨rfl,I.turned (t':=s.toks) (λb o hb e=>eb b o hb e) f0 f1 f3 f4 f5⟩
 self:=λ_ _ _ _ _ st h=>wpAny_pyIter_rangeiter st h
section
variable{X:Cx}{tg:Expr}
def tW(K:Ag)(tl:TE):TI:=λσ H R=>tl σ H λx H1=>∃a,x=.ref a/\(∃xs,SqL K H1 a xs)/\R (qT K a) H1
def jC(K:Ag)(tl:TE):TI:=λσ H R=>tl σ H λx H1=>∃a,x=.ref a/\(∃xs,SqT K H1 a xs)/\R (qz K a) H1
theorem Mf(hl:PE X l tl):PI X tg l (tW X.K tl):=by
 intro pins s σ H R I h;refine aY (hl pins s σ H _ I h) λv s1 ⟨x,H1,I1,r1,q1⟩=>?_;obtain⟨a,e,⟨xs,hq⟩,q⟩:=q1;subst e;cases r1;obtain⟨its,rv,p,hz⟩:=I1.list hq;refine wpAny_pyIter_list p.isList ?_;refine⟨s1.heap.objs.size,[s1.heap.objs.size],_,_,H1,rfl,I1.kept (t':=s1.toks) λb o e=>Ai _ e,S9 a _,⟨_,Bb _ rfl,rfl,rfl⟩,λb hb=>?_,q⟩;have e:b=s1.heap.objs.size:=by simpa using hb
 subst e;exact I1.fpOk (Al _) (I1.hok.fresh (Al _))
theorem K1(hl:PE X l tl):PI X tg l (jC X.K tl):=by
 intro pins s σ H R I h;refine aY (hl pins s σ H _ I h) λv s1 ⟨x,H1,I1,r1,q1⟩=>?_;obtain⟨a,e,⟨xs,hq⟩,q⟩:=q1;subst e;cases r1;obtain⟨its,rv,p,hz⟩:=I1.tuple hq;refine D9 (show s1.heap.IsTuple a its.toArray from p) ?_;refine⟨s1.heap.objs.size,[s1.heap.objs.size],_,_,H1,rfl,I1.kept (t':=s1.toks) λb o e=>Ai _ e,U1 a _,⟨_,Bb _ rfl,rfl,rfl⟩,λb hb=>?_,q⟩;have e:b=s1.heap.objs.size:=by simpa using hb
 subst e;exact I1.fpOk (Al _) (I1.hok.fresh (Al _))
theorem Q7{σ:St}{s:Ar}{E:Ak->Ar->Prop}{lo hi:Int}{t u v:Tok}{tk:Nat}(I:Inv X pins σ H s)(h1:-(2 ^ 62)<=lo)(h2:lo < 2 ^ 62)(h3:-(2 ^ 62)<=hi)(h4:hi < 2 ^ 62)
  (q:R (m4 lo (hi-lo).toNat) H):A5 (Bi X.prog X.w) X.A (pyIter (.ref s.heap.objs.size)) (CL X pins σ tg R) E {s with heap:=s.heap.push {cls:=.type "range",data:=.fields #[.int lo t,.int hi u,.int 1 v]},toks:=tk}:=by
 refine wpAny_pyIter_range (IsRange.new ..) (small_one h1 h2 h3 h4) ?_;have I1:Inv X pins σ H {s with heap:=s.heap.push {cls:=.type "range",data:=.fields #[.int lo t,.int hi u,.int 1 v]},toks:=tk}:=I.kept λb o e=>Ai _ e;refine⟨(s.heap.push {cls:=.type "range",data:=.fields #[.int lo t,.int hi u,.int 1 v]}).objs.size,[(s.heap.push {cls:=.type "range",data:=.fields #[.int lo t,.int hi u,.int 1 v]}).objs.size],_,_,H,rfl,
  I1.kept (t':=tk) λb o e=>Ai _ e,Km _ lo (hi-lo).toNat,?_,λb hb=>?_,q⟩
 ·have e1:lo+((0:Nat):Int)*1=lo:=by simp
  have e2:(((hi-lo).toNat:Nat):Int)-((0:Nat):Int)=Fj lo hi 1:=by rw[rangeSize_one];split<;>omega
  show IsRangeIter _ _ (lo+((0:Nat):Int)*1) ((((hi-lo).toNat:Nat):Int)-((0:Nat):Int)) 1;rw[e1,e2];exact Bb _ rfl
 ·have e:b=(s.heap.push {cls:=.type "range",data:=.fields #[.int lo t,.int hi u,.int 1 v]}).objs.size:=by simpa using hb
  subst e;exact I1.fpOk (Al _) (I1.hok.fresh (Al _))
def oj(ta:TA):TI:=λσ H R=>ta σ H λvs H1=>∃j:Int,vs=[.int j]/\-(2 ^ 62)<=j/\j < 2 ^ 62/\R (m4 0 j.toNat) H1
theorem P8(hg:Gl X "range")(hm:X.mg "range"=ah)(ha:PA X [a] ta)(hs:Az [a] X.env=[(aj,eval a X.env)]:=by rfl):PI X tg (.Call (.Name "range" p) [a] [] pos) (oj ta):=by
 intro pins s σ H R I h;refine Call_ (k9 I hg hm boot_range (Da (aY (ha pos pins s σ H _ I h) λus s1 ⟨vs,H1,I1,r1,q1⟩=>?_) hs rfl));obtain⟨j,e,q1,q2,q⟩:=q1;subst e;cases r1 with
 |cons r rr=>
  cases rr;obtain⟨t,rfl⟩:=r;exact call_range_1 (Q7 I1 ⋯ ⋯ q1 q2 (by simpa using q))
def jF(wi:TI)(g:TG)(tb:TS):TS:=λD σ H=>wi σ H λJ H1=>∃W:Nat->Nat->St->Hp->Prop,(∃m,W 0 m σ H1)/\∀i m σ H,W i m σ H->
 (J.stop i H/\D.nx σ H)\/(J.go i H/\∃N:St->Hp->Prop,(∀σ' H',N σ' H'->∃m',m' < m/\W (i+1) m' σ' H')/\∀x H',J.yld i H x H'->g x σ H' λσ2 H2=>tb {D with nx:=N,ct:=N,bk:=D.nx} σ2 H2)
def nG(fp:List Addr)(h:Heap):List (Addr×Obj):=fp.filterMap λb=>(h.get? b).map λo=>(b,o)
theorem nU(hb:b∈fp)(e:h.get? b=ae o):(b,o)∈nG fp h:=G1.mpr ⟨b,hb,by rw[e];rfl⟩
theorem Ke(hp:p∈nG fp h):p.1∈fp/\h.get? p.1=ae p.2:=by
 obtain⟨b,hb,e⟩:=G1.mp hp;cases q:h.get? b with
 |none=>rw[q]at e;cases e
 |some o=>
  rw[q]at e;have e':(b,o)=p:=A7 e;subst e';exact⟨hb,q⟩
theorem Inv.pinned{σ:St}(I:Inv X pins σ H s)(hf:∀b∈fp,dG X pins H b)(ho:∀b∈fp,∃o,s.heap.get? b=ae o/\∀v,o.data≠.cell v):Inv X (pins++nG fp s.heap) σ H s:=
 I.pins_of λp hp=>(Bd.mp hp).elim (λz=>I.pin p (Bf _ z)) λz=>by
  obtain⟨hb,e⟩:=Ke z;obtain⟨f0,f1,f2,_⟩:=hf p.1 hb;obtain⟨o,e',d⟩:=ho p.1 hb;rw[e]at e';cases e';exact⟨e,f0,f1,f2,d⟩
theorem Inv.unpinned{σ:St}(I:Inv X (pins++pl) σ H s):Inv X pins σ H s:=I.pins_of λp hp=>I.pin p (Bf _ (Dx _ hp))
theorem TZ(hp:PassesOwn (Bi X.prog X.w) X.A X.env X.xe)(hc:X.calm=ai)(hi:PI X tg iter wi)(hg:PG X tg g)(hb:PSs X body tb)
  (hs:∀x,Eh iter X.env x=pure x:=by intro _;rfl):PS X (.For tg iter body [] pos) (jF wi g tb):=by
 intro pins s σ H D I h;refine wpAny_For (aY (hi pins s σ H _ I h) λv s1 h1=>aY h1 λitv s2 h2=>?_) hs;obtain⟨it,fp,tn,J,H2,e,I2,T,st2,f2,W,⟨m0,w0⟩,turn⟩:=h2;subst e
 have stat:∀{H':Hp},(∀b∈fp,H' b=ah)->∀b∈fp,dG X pins H' b:=λhn b hb=>⟨hn b hb,(f2 b hb).2⟩;refine codeAny_forLoop_any (λn s'=>∃i σ' H',Inv X pins σ' H' s'/\tn i s'.heap/\(∀b∈fp,H' b=ah)/\W i n σ' H') ?_ m0 ⟨0,σ,H2,I2,st2,λb hb=>(f2 b hb).1,w0⟩
 rintro n s3 ⟨i,σ3,H3,I3,st3,fr3,w3⟩
 rcases turn i n σ3 H3 w3 with⟨stop,qn⟩|⟨go,N,hN,step⟩
 ·refine G4 hp (aY (T.done X rfl rfl rfl hc i pins s3 σ3 H3 X.xe I3 (stat fr3) st3 stop) λr s4 ⟨hr,I4⟩=>?_);subst hr;exact wpAny_execs_nil ⟨σ3,H3,I4,qn⟩
 ·refine G4 hp (aY (T.item X rfl rfl rfl hc i pins s3 σ3 H3 X.xe I3 (stat fr3) st3 go) λr s4 ⟨u,hr,h4⟩=>?_);subst hr;refine G4 hp (aY h4 λ_ s5 ⟨x,H5,I5,r5,y5,st5,fr5⟩=>?_);have I5':=I5.pinned (stat fr5) (T.obj _ _ st5);refine G4 hp (aY (hg _ s5 σ3 H5 x u _ I5' r5 (step x H5 y5)) λ_ s6 ⟨σ6,H6,I6,q6⟩=>?_);refine G4 hp (aY (hb _ s6 σ6 H6 _ I6 q6) λf s7 q7=>?_);have again:∀{σ7:St}{H7:Hp},Inv X (pins++nG fp s5.heap) σ7 H7 s7->N σ7 H7->∃m,m < n/\∃i σ' H',Inv X pins σ' H' s7/\tn i s7.heap/\(∀b∈fp,H' b=ah)/\W i m σ' H':=λ{σ7 H7} I7 n7=>by
   obtain⟨m',hm,w7⟩:=hN σ7 H7 n7;refine⟨m',hm,i+1,σ7,H7,I7.unpinned,T.keep _ _ _ st5 λb hb o e=>(I7.pin (b,o) (Bf _ (Bf _ (nU hb e)))).1,λb hb=>?_,w7⟩;obtain⟨o,e,d⟩:=T.obj _ _ st5 b hb;exact(I7.pin (b,o) (Bf _ (Bf _ (nU hb e)))).2.1
  cases f with
  |next=>obtain⟨σ7,H7,I7,n7⟩:=q7;exact again I7 n7
  |cont=>obtain⟨σ7,H7,I7,n7⟩:=q7;exact again I7 n7
  |brk=>obtain⟨σ7,H7,I7,q7⟩:=q7;exact⟨σ7,H7,I7.unpinned,q7⟩
  |ret v=>obtain⟨x7,σ7,H7,I7,r7,q7⟩:=q7;exact⟨x7,σ7,H7,I7.unpinned,r7,q7⟩
end
theorem V4{K:Ag}{xs:List V}{g:TG}{tb:TS}{D:Ends}{σ:St}{H:Hp}(Pv:Nat->St->Hp->Prop)(h0:Pv 0 σ H)(hl:∀i σ H,i<=xs.length->Pv i σ H->SqL K H a xs)
  (hs:∀i x σ H,xs[i]?=ae x->Pv i σ H->g x σ H λσ2 H2=>tb {D with nx:=Pv (i+1),ct:=Pv (i+1),bk:=D.nx} σ2 H2) (hd:∀σ H,Pv xs.length σ H->D.nx σ H):
  ∃W:Nat->Nat->St->Hp->Prop,(∃m,W 0 m σ H)/\∀i m σ H,W i m σ H->
   ((qT K a).stop i H/\D.nx σ H)\/((qT K a).go i H/\∃N:St->Hp->Prop,(∀σ' H',N σ' H'->∃m',m' < m/\W (i+1) m' σ' H')/\∀x H',(qT K a).yld i H x H'->g x σ H' λσ2 H2=>tb {D with nx:=N,ct:=N,bk:=D.nx} σ2 H2):=by
 refine⟨λi m σ H=>m=xs.length-i/\i<=xs.length/\Pv i σ H,⟨xs.length,by simp,Bo _,h0⟩,?_⟩
 rintro i m σ H ⟨rfl,hi,p⟩
 have q:=hl i σ H hi p;by_cases hlt:i < xs.length
 ·refine .inr ⟨⟨xs,xs[i],q,by simp[hlt]⟩,Pv (i+1),λσ' H' p'=>⟨xs.length-(i+1),by omega,rfl,hlt,p'⟩,λx H' y=>?_⟩;obtain⟨e,y⟩:=y;subst e;exact hs i x σ _ (y xs q) p
 ·have e:i=xs.length:=by omega
  subst e;exact .inl ⟨⟨xs,q,Al _⟩,hd σ H p⟩
theorem VQ{K:Ag}{xs:List V}{g:TG}{tb:TS}{D:Ends}{σ:St}{H:Hp}(Pv:Nat->St->Hp->Prop)(h0:Pv 0 σ H)(hl:∀i σ H,i<=xs.length->Pv i σ H->SqT K H a xs)
  (hs:∀i x σ H,xs[i]?=ae x->Pv i σ H->g x σ H λσ2 H2=>tb {D with nx:=Pv (i+1),ct:=Pv (i+1),bk:=D.nx} σ2 H2) (hd:∀σ H,Pv xs.length σ H->D.nx σ H):
  ∃W:Nat->Nat->St->Hp->Prop,(∃m,W 0 m σ H)/\∀i m σ H,W i m σ H->
   ((qz K a).stop i H/\D.nx σ H)\/((qz K a).go i H/\∃N:St->Hp->Prop,(∀σ' H',N σ' H'->∃m',m' < m/\W (i+1) m' σ' H')/\∀x H',(qz K a).yld i H x H'->g x σ H' λσ2 H2=>tb {D with nx:=N,ct:=N,bk:=D.nx} σ2 H2):=by
 refine⟨λi m σ H=>m=xs.length-i/\i<=xs.length/\Pv i σ H,⟨xs.length,by simp,Bo _,h0⟩,?_⟩
 rintro i m σ H ⟨rfl,hi,p⟩
 have q:=hl i σ H hi p;by_cases hlt:i < xs.length
 ·refine .inr ⟨⟨xs,xs[i],q,by simp[hlt]⟩,Pv (i+1),λσ' H' p'=>⟨xs.length-(i+1),by omega,rfl,hlt,p'⟩,λx H' y=>?_⟩;obtain⟨e,y⟩:=y;subst e;exact hs i x σ _ (y xs q) p
 ·have e:i=xs.length:=by omega
  subst e;exact .inl ⟨⟨xs,q,Al _⟩,hd σ H p⟩
theorem Oi{lo:Int}{g:TG}{tb:TS}{D:Ends}{σ:St}{H:Hp}(Pv:Nat->St->Hp->Prop)(h0:Pv 0 σ H)
  (hs:∀i σ H,i < n->Pv i σ H->g (.int (lo+i)) σ H λσ2 H2=>tb {D with nx:=Pv (i+1),ct:=Pv (i+1),bk:=D.nx} σ2 H2) (hd:∀σ H,Pv n σ H->D.nx σ H):
  ∃W:Nat->Nat->St->Hp->Prop,(∃m,W 0 m σ H)/\∀i m σ H,W i m σ H->
   ((m4 lo n).stop i H/\D.nx σ H)\/((m4 lo n).go i H/\∃N:St->Hp->Prop,(∀σ' H',N σ' H'->∃m',m' < m/\W (i+1) m' σ' H')/\∀x H',(m4 lo n).yld i H x H'->g x σ H' λσ2 H2=>tb {D with nx:=N,ct:=N,bk:=D.nx} σ2 H2):=by
 refine⟨λi m σ H=>m=n-i/\i<=n/\Pv i σ H,⟨n,by simp,Bo _,h0⟩,?_⟩
 rintro i m σ H ⟨rfl,hi,p⟩
 by_cases hlt:i < n
 ·refine .inr ⟨hlt,Pv (i+1),λσ' H' p'=>⟨n-(i+1),by omega,rfl,hlt,p'⟩,λx H' y=>?_⟩;obtain⟨e,y⟩:=y;subst e y;exact hs i σ _ hlt p
 ·have e:i=n:=by omega
  subst e;exact .inl ⟨Al _,hd σ H p⟩
abbrev R2:=V->V->Hp->VK->Prop
def OpR(X:Cx)(f:Ak->Ak->Sem Ak)(r:R2):Prop:=
 ∀(pins:List (Addr×Obj))(s:Ar)(σ:St)(H:Hp)(x y:V)(v u:Ak)(Q:VK),Inv X pins σ H s->RelV x v->RelV y u->r x y H Q->
  A5 (Bi X.prog X.w) X.A (f v u) (EP X pins σ Q) X.xe s
def xw(X:Cx)(f:Ak->Sem Ak)(r:V->Hp->VK->Prop):Prop:=
 ∀(pins:List (Addr×Obj))(s:Ar)(σ:St)(H:Hp)(x:V)(v:Ak)(Q:VK),Inv X pins σ H s->RelV x v->r x H Q->
  A5 (Bi X.prog X.w) X.A (f v) (EP X pins σ Q) X.xe s
def CallR(X:Cx)(f:Ak)(r:List V->Hp->VK->Prop):Prop:=
 ∀(pins:List (Addr×Obj))(s:Ar)(σ:St)(H:Hp)(xs:List V)(us:List Ak)(Q:VK),Inv X pins σ H s->Vals xs us->r xs H Q->
  A5 (Bi X.prog X.w) X.A (call f us) (EP X pins σ Q) X.xe s
def yW(X:Cx)(r:V->Hp->(Bool->Hp->Prop)->Prop):Prop:=
 ∀(pins:List (Addr×Obj))(s:Ar)(σ:St)(H:Hp)(x:V)(v:Ak)(Q:Bool->Hp->Prop),Inv X pins σ H s->RelV x v->r x H Q->
  A5 (Bi X.prog X.w) X.A (truthy v) (TP X pins σ Q) X.xe s
def dz(r:R2)(ta tb:TE):TE:=λσ H Q=>ta σ H λx H1=>tb σ H1 λy H2=>r x y H2 Q
def xl(r:V->Hp->VK->Prop)(ta:TE):TE:=λσ H Q=>ta σ H λx H1=>r x H1 Q
def rI(C:Int->Int->Prop)(g:Int->Int->V):R2:=λx y H Q=>∃i j,x=.int i/\y=.int j/\C i j/\Q (g i j) H
def gM(g:Int->Int->V):R2:=λx y H Q=>∃i j,x=.int i/\y=.int j/\Q (g i j) H
def rU(g:Int->V):V->Hp->VK->Prop:=λx H Q=>∃i,x=.int i/\Q (g i) H
section
variable{X:Cx}{a b c:Expr}{ta tb tc:TE}{pos:Pos}
theorem m7(ha:PE X a ta)(hb:PE X b tb){σ:St}{H:Hp}{R:V->V->Hp->Prop}(I:Inv X pins σ H s)
  (h:ta σ H λx H1=>tb σ H1 λy H2=>R x y H2) {Q:Ak->Ar->Prop} {f:Ak->Ak->Sem Ak}
  (hf:∀v u s2 x y H2,Inv X pins σ H2 s2->RelV x v->RelV y u->R x y H2->A5 (Bi X.prog X.w) X.A (f v u) Q X.xe s2):
  A5 (Bi X.prog X.w) X.A (eval a X.env) (λv s₁=>A5 (Bi X.prog X.w) X.A (eval b X.env) (λu s₂=>A5 (Bi X.prog X.w) X.A (f v u) Q X.xe s₂) X.xe s₁) X.xe s:=by
 refine aY (ha pins s σ H _ I h) λv s1 ⟨x,H1,I1,r1,q1⟩=>?_;refine aY (hb pins s1 σ H1 _ I1 q1) λu s2 ⟨y,H2,I2,r2,q2⟩=>?_;exact hf v u s2 x y H2 I2 r1 r2 q2
theorem fj(ho:OpR X (Ei op) r)(ha:PE X a ta)(hb:PE X b tb):PE X (.BinOp a op b pos) (dz r ta tb):=by
 intro pins s σ H Q I h;exact wpAny_BinOp (m7 ha hb I h λv u s2 x y H2 I2 rx ry q=>ho pins s2 σ H2 x y v u Q I2 rx ry q)
theorem FV(ho:xw X (unaryOp op) r)(ha:PE X a ta):PE X (.UnaryOp op a pos) (xl r ta):=by
 intro pins s σ H Q I h;exact UnaryOp_ (aY (ha pins s σ H _ I h) λv s1 ⟨x,H1,I1,r1,q1⟩=>ho pins s1 σ H1 x v Q I1 r1 q1)
theorem tP{g:Int->Int->Int}
  (rule:∀(i j:Int)(t u:Tok)(s:Ar)(Q:Ak->Ar->Prop)(E:Ak->Ar->Prop),C i j->Q (.int (g i j) s.toks) {s with toks:=s.toks+1}->A5 (Bi X.prog X.w) X.A (f (.int i t) (.int j u)) Q E s):
  OpR X f (rI C λi j=>.int (g i j)):=by
 intro pins s σ H x y v u Q I rx ry h;obtain⟨i,j,rfl,rfl,hc,q⟩:=h;obtain⟨t,rfl⟩:=rx;obtain⟨t',rfl⟩:=ry;exact rule i j t t' s _ _ hc ⟨.int (g i j),H,I.tok _,⟨_,rfl⟩,q⟩
theorem qL{g:Int->Int->Int}
  (rule:∀(i j:Int)(t u:Tok)(s:Ar)(Q:Ak->Ar->Prop)(E:Ak->Ar->Prop),Q (.int (g i j) s.toks) {s with toks:=s.toks+1}->A5 (Bi X.prog X.w) X.A (f (.int i t) (.int j u)) Q E s):
  OpR X f (gM λi j=>.int (g i j)):=by
 intro pins s σ H x y v u Q I rx ry h;obtain⟨i,j,rfl,rfl,q⟩:=h;obtain⟨t,rfl⟩:=rx;obtain⟨t',rfl⟩:=ry;exact rule i j t t' s _ _ ⟨.int (g i j),H,I.tok _,⟨_,rfl⟩,q⟩
theorem j9{g:Int->Int->Bool}
  (rule:∀(i j:Int)(t u:Tok)(s:Ar)(Q:Ak->Ar->Prop)(E:Ak->Ar->Prop),Q (.bool (g i j)) s->A5 (Bi X.prog X.w) X.A (f (.int i t) (.int j u)) Q E s):
  OpR X f (gM λi j=>.bl (g i j)):=by
 intro pins s σ H x y v u Q I rx ry h;obtain⟨i,j,rfl,rfl,q⟩:=h;obtain⟨t,rfl⟩:=rx;obtain⟨t',rfl⟩:=ry;exact rule i j t t' s _ _ ⟨.bl (g i j),H,I,rfl,q⟩
def uy(i j:Int):Prop:=0 < j/\j < 1073741824
def uY(i j:Int):Prop:=0<=j/\j<=1000000/\i.natAbs < 2 ^ 64
def CMul(i j:Int):Prop:=(-(2 ^ 64) < i/\i < 2 ^ 64)\/(-(2 ^ 64) < j/\j < 2 ^ 64)
theorem CMul.ok(h:CMul i j):IntMulOk i j:=by
 rcases h with⟨h1,h2⟩|⟨h1,h2⟩
 ·exact .of_left (intBits_le_64 h1 h2)
 ·exact .of_right (intBits_le_64 h1 h2)
theorem op_add:OpR X (Ei .Add) (gM λi j=>.int (i+j)):=qL λ_ _ _ _ _ _ _ q=>add_int q
theorem LG:OpR X (Ei .Sub) (gM λi j=>.int (i-j)):=qL λ_ _ _ _ _ _ _ q=>sub_int q
theorem nE:OpR X (Ei .Mult) (rI CMul λi j=>.int (i*j)):=tP λ_ _ _ _ _ _ _ hc q=>mul_int q hc.ok
theorem ID:OpR X (Ei .FloorDiv) (rI uy λi j=>.int (i / j)):=tP λi j _ _ _ _ _ hc q=>by
 have h1:(0:Int) < j:=hc.1;have h2:j < 1073741824:=hc.2;exact floordiv_int ⋯ (by rw[Int.fdiv_eq_ediv_of_nonneg i ⋯];exact q) (.inl (PyProof.noPylong_small ⋯))
theorem kZ:OpR X (Ei .Mod) (rI (λ_ j=>0 < j) λi j=>.int (i % j)):=tP λi j _ _ _ _ _ hc q=>by
 have h1:(0:Int) < j:=hc;exact mod_int' ⋯ (by rw[Int.fmod_eq_emod_of_nonneg i ⋯];exact q)
theorem Lg:OpR X (Ei .Pow) (rI uY λi j=>.int (i ^ j.toNat)):=tP λ_ _ _ _ _ _ _ hc q=>pow_int_small hc.1 hc.2.1 hc.2.2 q
theorem Ph{g:Int->Int}
  (rule:∀(i:Int)(t:Tok)(s:Ar)(Q:Ak->Ar->Prop)(E:Ak->Ar->Prop),Q (.int (g i) s.toks) {s with toks:=s.toks+1}->A5 (Bi X.prog X.w) X.A (f (.int i t)) Q E s):
  xw X f (rU λi=>.int (g i)):=by
 intro pins s σ H x v Q I rx h;obtain⟨i,rfl,q⟩:=h;obtain⟨t,rfl⟩:=rx;exact rule i t s _ _ ⟨.int (g i),H,I.tok _,⟨_,rfl⟩,q⟩
theorem GU:xw X (unaryOp .USub) (rU λi=>.int (-i)):=Ph λ_ _ _ _ _ q=>neg_int q
end
def qx:V->V->Bool
 |.non,.non=>ai|.non,.int _=>ai|.int _,.non=>ai|.non,.bl _=>ai|.bl _,.non=>ai|.non,.str _=>ai|.str _,.non=>ai
 |.int _,.int _=>ai|.bl _,.bl _=>ai|.str _,.str _=>ai|.byt _,.byt _=>ai
 |.int _,.str _=>ai|.str _,.int _=>ai|.bl _,.str _=>ai|.str _,.bl _=>ai
 |_,_=>aj
def sr:R2:=λx y H Q=>qx x y=ai/\Q (.bl (decide (x=y))) H
def EE:R2:=λx y H Q=>qx x y=ai/\Q (.bl (!decide (x=y))) H
theorem EG:decide (V.int i=V.int j)=(i==j):=by
 rw[E1];simp
theorem BW:decide (V.bl i=V.bl j)=(i==j):=by
 rw[E1];simp
theorem Io:decide (V.str i=V.str j)=(i==j):=by
 rw[E1];simp
theorem CK:decide (V.byt i=V.byt j)=(i.toList==j.toList):=by
 rw[E1];cases i;cases j;simp
section
variable{X:Cx}{a b c:Expr}{ta tb tc:TE}{pos:Pos}
theorem dm{σ:St}(I:Inv X pins σ H s)(q:Q (.bl k) H)(e:k=k'):EP X pins σ Q (.bool k') s:=by
 subst e;exact⟨.bl k,H,I,rfl,q⟩
theorem op_eq:OpR X (By .Eq) sr:=by
 intro pins s σ H x y v u Q I rx ry h;obtain⟨hs,q⟩:=h;cases x with
 |non=>
  cases rx;cases y with
  |non=>cases ry;exact PySem.EqNone.eq_none_none (dm I q (by simp))
  |bl j=>cases ry;exact PySem.EqNone.eq_none_bool (dm I q (by simp))
  |int j=>obtain⟨t',rfl⟩:=ry;exact PySem.EqNone.eq_none_int (dm I q (by simp))
  |str j=>obtain⟨t',rfl⟩:=ry;exact PySem.EqNone.eq_none_str (dm I q (by simp))
  |_=>exact absurd (show aj=ai from hs) Ae
 |bl i=>
  cases rx;cases y with
  |non=>cases ry;exact PySem.EqNone.eq_bool_none (dm I q (by simp))
  |bl j=>cases ry;exact eq_bool (dm I q BW)
  |str j=>obtain⟨t',rfl⟩:=ry;exact PySem.EqMixed.eq_bool_str (dm I q (by simp))
  |_=>exact absurd (show aj=ai from hs) Ae
 |int i=>
  obtain⟨t,rfl⟩:=rx;cases y with
  |non=>cases ry;exact PySem.EqNone.eq_int_none (dm I q (by simp))
  |int j=>obtain⟨t',rfl⟩:=ry;exact eq_int (dm I q EG)
  |str j=>obtain⟨t',rfl⟩:=ry;exact PySem.EqMixed.eq_int_str (dm I q (by simp))
  |_=>exact absurd (show aj=ai from hs) Ae
 |str i=>
  obtain⟨t,rfl⟩:=rx;cases y with
  |non=>cases ry;exact PySem.EqNone.eq_str_none (dm I q (by simp))
  |bl j=>cases ry;exact PySem.EqMixed.eq_str_bool (dm I q (by simp))
  |int j=>obtain⟨t',rfl⟩:=ry;exact PySem.EqMixed.eq_str_int (dm I q (by simp))
  |str j=>obtain⟨t',rfl⟩:=ry;exact eq_str (dm I q Io)
  |_=>exact absurd (show aj=ai from hs) Ae
 |byt i=>
  obtain⟨t,rfl⟩:=rx;cases y with
  |byt j=>obtain⟨t',rfl⟩:=ry;exact PySem.W.eq_bytes (dm I q CK)
  |_=>exact absurd (show aj=ai from hs) Ae
 |_=>cases y<;>exact absurd (show aj=ai from hs) Ae
theorem Nf:OpR X (By .NotEq) EE:=by
 intro pins s σ H x y v u Q I rx ry h;obtain⟨hs,q⟩:=h;cases x with
 |non=>
  cases rx;cases y with
  |non=>cases ry;exact PySem.EqNone.ne_none_none (dm I q (by simp))
  |bl j=>cases ry;exact PySem.EqNone.ne_none_bool (dm I q (by simp))
  |int j=>obtain⟨t',rfl⟩:=ry;exact PySem.EqNone.ne_none_int (dm I q (by simp))
  |str j=>obtain⟨t',rfl⟩:=ry;exact PySem.EqNone.ne_none_str (dm I q (by simp))
  |_=>exact absurd (show aj=ai from hs) Ae
 |bl i=>
  cases rx;cases y with
  |non=>cases ry;exact PySem.EqNone.ne_bool_none (dm I q (by simp))
  |bl j=>cases ry;exact ne_bool (dm I q (congrArg not BW))
  |str j=>obtain⟨t',rfl⟩:=ry;exact PySem.EqMixed.ne_bool_str (dm I q (by simp))
  |_=>exact absurd (show aj=ai from hs) Ae
 |int i=>
  obtain⟨t,rfl⟩:=rx;cases y with
  |non=>cases ry;exact PySem.EqNone.ne_int_none (dm I q (by simp))
  |int j=>obtain⟨t',rfl⟩:=ry;exact ne_int (dm I q (congrArg not EG))
  |str j=>obtain⟨t',rfl⟩:=ry;exact PySem.EqMixed.ne_int_str (dm I q (by simp))
  |_=>exact absurd (show aj=ai from hs) Ae
 |str i=>
  obtain⟨t,rfl⟩:=rx;cases y with
  |non=>cases ry;exact PySem.EqNone.ne_str_none (dm I q (by simp))
  |bl j=>cases ry;exact PySem.EqMixed.ne_str_bool (dm I q (by simp))
  |int j=>obtain⟨t',rfl⟩:=ry;exact PySem.EqMixed.ne_str_int (dm I q (by simp))
  |str j=>obtain⟨t',rfl⟩:=ry;exact ne_str (dm I q (congrArg not Io))
  |_=>exact absurd (show aj=ai from hs) Ae
 |byt i=>
  obtain⟨t,rfl⟩:=rx;cases y with
  |byt j=>obtain⟨t',rfl⟩:=ry;exact PySem.W.ne_bytes (dm I q (congrArg not CK))
  |_=>exact absurd (show aj=ai from hs) Ae
 |_=>cases y<;>exact absurd (show aj=ai from hs) Ae
theorem op_lt:OpR X (By .Lt) (gM λi j=>.bl (decide (i < j))):=j9 λ_ _ _ _ _ _ _ q=>lt_int q
theorem op_le:OpR X (By .LtE) (gM λi j=>.bl (decide (i<=j))):=j9 λ_ _ _ _ _ _ _ q=>le_int q
theorem op_gt:OpR X (By .Gt) (gM λi j=>.bl (decide (j < i))):=j9 λ_ _ _ _ _ _ _ q=>gt_int q
theorem RF:OpR X (By .GtE) (gM λi j=>.bl (decide (j<=i))):=j9 λ_ _ _ _ _ _ _ q=>ge_int q
theorem Sa:OpR X (By .Lt) (λx y H Q=>∃i j,x=.str i/\y=.str j/\Q (.bl (decide (i.cps.toList < j.cps.toList))) H):=by
 intro pins s σ H x y v u Q I rx ry h;obtain⟨i,j,rfl,rfl,q⟩:=h;obtain⟨t,rfl⟩:=rx;obtain⟨t',rfl⟩:=ry;exact lt_str (dm I q rfl)
theorem Pu:OpR X (By .Is) (λx y H Q=>y=.non/\Q (.bl (decide (x=.non))) H):=by
 intro pins s σ H x y v u Q I rx ry h;obtain⟨rfl,q⟩:=h;cases ry;refine is_none_gen (dm I q ?_);cases x<;>first
  | (cases rx;rfl)
  | (obtain⟨t,rfl⟩:=rx;rfl)
theorem AD:OpR X (By .IsNot) (λx y H Q=>y=.non/\Q (.bl (!decide (x=.non))) H):=by
 intro pins s σ H x y v u Q I rx ry h;obtain⟨rfl,q⟩:=h;cases ry;refine isnot_none_gen (dm I q ?_);cases x<;>first
  | (cases rx;rfl)
  | (obtain⟨t,rfl⟩:=rx;rfl)
theorem OpR.or(h:OpR X f r)(h':OpR X f r'):OpR X f (λx y H Q=>r x y H Q\/r' x y H Q):=by
 intro pins s σ H x y v u Q I rx ry q;rcases q with q|q
 ·exact h pins s σ H x y v u Q I rx ry q
 ·exact h' pins s σ H x y v u Q I rx ry q
theorem oW(b)(h:op≠.In:=by decide)(h2:op≠.NotIn:=by decide):Ci op b=aj:=by
 have e1:(op==CmpOp.In)=aj:=by cases op<;>first|rfl|exact absurd rfl h
 have e2:(op==CmpOp.NotIn)=aj:=by cases op<;>first|rfl|exact absurd rfl h2
 cases b<;>simp[Ci,e1,e2]
theorem O0(ho:OpR X (By op) r)(ha:PE X a ta)(hb:PE X b tb)(hm:Ci op b=aj):PE X (.Compare a [op] [b] pos) (dz r ta tb):=by
 intro pins s σ H Q I h;exact wpAny_Compare1 (m7 ha hb I h λv u s2 x y H2 I2 rx ry q=>ho pins s2 σ H2 x y v u Q I2 rx ry q) hm
def jv(t:TE):TT:=λσ H Q=>t σ H λx H'=>∃k,x=.bl k/\Q k H'
theorem j6(ho:OpR X (By op) r)(ha:PE X a ta)(hb:PE X b tb)(hm:Ci op b=aj):PT X (.Compare a [op] [b] pos) (jv (dz r ta tb)):=by
 intro pins s σ H Q I h;refine wpAny_isTrue_Compare1 (aY (ha pins s σ H _ I h) λv s1 ⟨x,H1,I1,r1,q1⟩=>aY (hb pins s1 σ H1 _ I1 q1) λu s2 ⟨y,H2,I2,r2,q2⟩=>
  aY (ho pins s2 σ H2 x y v u _ I2 r1 r2 q2) λc s3 ⟨z,H3,I3,r3,k,e,q3⟩=>?_) hm
 subst e;cases r3;exact Dp ⟨H3,I3,q3⟩
def vG(r r':R2)(ta tb tc:TE):TE:=λσ H Q=>ta σ H λx H1=>tb σ H1 λy H2=>r x y H2 λz H3=>∃k,z=.bl k /\
 (if k=ai then tc σ H3 λw' H4=>r' y w' H4 Q else Q (.bl aj) H3)
theorem UR(ho:OpR X (By op) r)(ho':OpR X (By op') r')(ha:PE X a ta)(hb:PE X b tb)(hc:PE X c tc)
  (hm:lastMarks [op,op'] [b,c]=aj:=by with_unfolding_all rfl):PE X (.Compare a [op,op'] [b,c] pos) (vG r r' ta tb tc):=by
 intro pins s σ H Q I h;refine Compare_chain (aY (ha pins s σ H _ I h) λv s1 ⟨x,H1,I1,r1,q1⟩=>chain_link (aY (hb pins s1 σ H1 _ I1 q1) λu s2 ⟨y,H2,I2,r2,q2⟩=>
  aY (ho pins s2 σ H2 x y v u _ I2 r1 r2 q2) λd s3 ⟨z,H3,I3,r3,k,e,q3⟩=>?_)) hm
 subst e;cases r3;refine Dp ?_;cases k with
 |false=>exact ite_ff ⟨.bl aj,H3,I3,rfl,q3⟩
 |true=>exact ite_tt (chain_last (aY (hc pins s3 σ H3 _ I3 q3) λw' s4 ⟨z',H4,I4,r4,q4⟩=>ho' pins s4 σ H4 y z' u w' Q I4 r2 r4 q4))
def v5(K:Ag)(x:V)(H:Hp)(k:Bool):Prop:=
 match x with
 |.non=>k=aj
 |.bl b=>k=b
 |.int i=>k=(i != 0)
 |.str y=>y.length<=Ay/\k=((y.length:Int) != 0)
 |.byt y=>y.size<=Ay/\k=((y.size:Int) != 0)
 |.ref p=>(∃xs,SqL K H p xs/\k=!xs.isEmpty)\/(∃xs,SqT K H p xs/\k=!xs.isEmpty)\/∃kvs,H p=ae (.dK kvs)/\k=!kvs.isEmpty
 |_=>False
theorem RB{vs:List (κ×Ak)}(r:KV kvs vs):(!vs.isEmpty)=!kvs.isEmpty:=by
 cases r<;>rfl
theorem FK(r:Vals xs its):(!its.toArray.isEmpty)=!xs.isEmpty:=by
 cases r<;>simp
theorem mB:(Ay:Nat) < 2 ^ 63:=by rw[E3];decide
theorem AN:yW X (λx H Q=>∃k,v5 X.K x H k/\Q k H):=by
 intro pins s σ H x v Q I rx h;obtain⟨k,e,q⟩:=h;have hl:=mB;have hs:Ay=16777216:=E3;cases x with
 |non=>
  cases rx;have e':k=aj:=e;subst e';exact truthy_none ⟨H,I,q⟩
 |bl b=>
  cases rx;have e':k=b:=e;subst e';exact Dp ⟨H,I,q⟩
 |int i=>
  obtain⟨t,rfl⟩:=rx;have e':k=(i != 0):=e;subst e';exact PySem.P.truthy_int ⟨H,I,q⟩
 |str y=>
  obtain⟨t,rfl⟩:=rx;obtain⟨hy,e'⟩:y.length<=Ay/\k=((y.length:Int) != 0):=e;subst e';exact PySem.P.truthy_str ⋯ ⟨H,I.tok _,q⟩
 |byt y=>
  obtain⟨t,rfl⟩:=rx;obtain⟨hy,e'⟩:y.size<=Ay/\k=((y.size:Int) != 0):=e;subst e';exact PySem.W.truthy_bytes ⋯ ⟨H,I.tok _,q⟩
 |ref p=>
  cases rx;have e':(∃xs,SqL X.K H p xs/\k=!xs.isEmpty)\/(∃xs,SqT X.K H p xs/\k=!xs.isEmpty)\/∃kvs,H p=ae (.dK kvs)/\k=!kvs.isEmpty:=e;rcases e' with⟨xs,hx,e'⟩|⟨xs,hx,e'⟩|⟨kvs,hx,e'⟩
  ·subst e';obtain⟨its,r,pl,hz⟩:=I.list hx;have hlen:=r.length;exact wpAny_truthy_list pl.isList (by simp only[A3];omega) ⟨H,I.tok _,by rw[FK r];exact q⟩
  ·subst e';obtain⟨its,r,pl,hz⟩:=I.tuple hx;have hlen:=r.length;exact truthy_tuple pl (by simp only[A3];omega) ⟨H,I.tok _,by rw[FK r];exact q⟩
  ·subst e';obtain⟨hz,hS,vs,r,m⟩:kvs.length<=Ay/\(p==En)=aj/\∃vs,KV kvs vs/\s.heap.DictOf (gf X.prog X.w) p vs:=I.hok p _ hx;have hlen:kvs.length=vs.length:=Paired.length r;exact wpAny_truthy_dict hS m ⋯ ⟨H,I.tok _,by rw[RB r];exact q⟩
 |_=>exact(show False from e).elim
theorem op_add_str:OpR X (Ei .Add) (λx y H Q=>∃i j,x=.str i/\y=.str j/\i.length+j.length<=Ay/\Q (.str (i++j)) H):=by
 intro pins s σ H x y v u Q I rx ry h;obtain⟨i,j,rfl,rfl,hz,q⟩:=h;obtain⟨t,rfl⟩:=rx;obtain⟨t',rfl⟩:=ry;exact add_str (λt' tk=>⟨.str (i++j),H,I.tok _,⟨_,rfl⟩,q⟩) hz
theorem jA(r:Vals [x] us):∃u,us=[u]/\RelV x u:=by
 cases r with
 |cons r1 r2=>cases r2;exact⟨_,rfl,r1⟩
theorem qr(r:Vals [x,y] us):∃u w',us=[u,w']/\RelV x u/\RelV y w':=by
 cases r with
 |cons r1 r2=>
  cases r2 with
  |cons r3 r4=>cases r4;exact⟨_,_,rfl,r1,r3⟩
end
structure ObjM(h:Heap)(x dx C:Addr)(mA:Str->Option Ak):Prop where
 obj:h.get? x=ae (PySem.W.instObj C dx)
 ns:h.Ns1 dx mA
 ne:dx≠x
theorem Te{h:Heap}(n:h.Ns1 dx mA):∃od,h.get? dx=ae od/\∀name,PySem.W.lookIn name od=ae (mA name):=by
 obtain⟨o,es,ep,ho,hd,hk,_,hm⟩:=n;refine⟨o,ho,λname=>?_⟩;have e:=hm name;unfold nsFind findBy at e;rw[<-Array.find?_toList]at e;unfold PySem.W.lookIn;rw[hd];dsimp only
 split
 ·rename_i y q;rw[q]at e;exact congrArg ae e
 ·rename_i q;rw[q]at e;have a:es.toList.any (·.refKey)=aj:=by
   rw[List.any_eq_false];intro y hy;obtain⟨z,t,hkey⟩:=hk y (Array.mem_toList_iff.mp hy);simp[DictEntry.refKey,hkey]
  have a':¬es.toList.any (·.refKey)=ai:=by rw[a];exact Ae
  rw[if_neg a'];exact congrArg ae e
theorem ObjM.look(I:ObjM h x dx C mA):∃od,PySem.W.InstAt h x (PySem.W.instObj C dx) C (ae od)/\∀name,PySem.W.lookIn name od=ae (mA name):=
 let⟨od,ho,hl⟩:=Te I.ns
 ⟨od,⟨I.obj,rfl,rfl,ho⟩,hl⟩
theorem RelO.some_of(r:RelO (ae v) o):∃u,o=ae u/\RelV v u:=by
 cases o with
 |none=>exact(show False from r).elim
 |some u=>exact⟨u,rfl,r⟩
section
variable{P:Bp}{w:B7}{H H':Hp}{h h':Heap}{a C dx:Addr}{fs fs':List (Str×V)}
theorem UZ(hok:HOk P w H h)(e:H a=ae (.ins C dx fs)):∃mA,ObjM h a dx C mA/\(∀f,RelO (fs.lookup f) (mA f))/\PySem.Within mA (fs.map (·.1))/\fs.length<=1000/\H dx=ae (.own a):=by
 obtain⟨d,z,ne,ob,mA,n,r,q⟩:=(show ObjOk P w H h a (.ins C dx fs)from hok a _ e);exact⟨mA,⟨ob,n,ne⟩,r,q,z,d⟩
end
structure Cls(K:Ag)(C:Addr):Prop where
 pg:PySem.W.plainGet K C Str.empty=ai
 hd:PySem.W.hasDictIn K C=ai
 po:PySem.W.plainOver K C=ai
 sa:PySem.W.findIn K (.ref C) "__setattr__"=ae (ae (.builtin "object.__setattr__"))
theorem Cls.get{K:Ag}(c:Cls K C)(f):PySem.W.plainGet K C f=ai:=c.pg
section
variable{X:Cx}{pins:List (Addr×Obj)}{σ:St}{H:Hp}{s:Ar}{A:Ck}{E:Ak->Ar->Prop}{Q:Ak->Ar->Prop}{c:Ak}{b:Bool}
inductive TyOf(K:Ag)(H:Hp):V->Ak->Prop where
 |non:TyOf K H .non (.type "NoneType")
 |bl (x:Bool):TyOf K H (.bl x) (.type "bool")
 |int (i:Int):TyOf K H (.int i) (.type "int")
 |str (x:Str):TyOf K H (.str x) (.type "str")
 |flt (x:UInt64):TyOf K H (.flt x) (.type "float")
 |lst {a:Addr} {xs:List V} (e:H a=ae (.lst xs)):TyOf K H (.ref a) (.type "list")
 |frz {a:Addr} {o:Obj} {xs:List V} (e:H a=ae (.frz o (.lst xs))):TyOf K H (.ref a) (.type "list")
 |tup {a:Addr} {xs:List V} (e:H a=ae (.tup xs)):TyOf K H (.ref a) (.type "tuple")
 |dK {a:Addr} {kvs:List (aO×V)} (e:H a=ae (.dK kvs)):TyOf K H (.ref a) (.type "dict")
 |dT {a:Addr} {kvs:List (List aO×V)} (e:H a=ae (.dT kvs)):TyOf K H (.ref a) (.type "dict")
 |ins {a C dx:Addr} {fs:List (Str×V)} (e:H a=ae (.ins C dx fs)) (cl:Cls K C) (ha:PySem.W.findIn K (.ref C) "__class__"=ae (ae (.builtin "object.__class__")))
   (hn:PySem.W.specialIn K (.builtin "object.__class__") "__get__"=ae (ae (.builtin "getset_descriptor.__get__"))) (htk:PySem.W.takesIn K (.builtin "object.__class__")=ae ai)
   (hm:PySem.W.mroIn K C (.type "object")=ae ai):TyOf K H (.ref a) (.ref C)
theorem UK(I:Inv X pins σ H s)(rx:RelV x u)(ty:TyOf X.K H x t)(e:PySem.W.kitOne X.K t c=ae b)(h:∀tk,Q (.bool b) {s with toks:=tk}):
  A5 (Bi X.prog X.w) A (call (.builtin "isinstance") [u,c]) Q E s:=by
 cases ty with
 |non=>cases(show u=B8 from rx);exact C9 PySem.W.kitx_none I.kIn Dy e (λz=>nomatch z) h
 |bl y=>cases(show u=Value.bool y from rx);exact C9 PySem.W.kitx_bool I.kIn Dy e (λz=>nomatch z) h
 |int i=>obtain⟨t,q⟩:=(show ∃t,u=Value.int i t from rx);cases q;exact C9 PySem.W.kitx_int I.kIn Dy e (λz=>nomatch z) h
 |str y=>obtain⟨t,q⟩:=(show ∃t,u=Ge y t from rx);cases q;exact C9 PySem.W.kitx_str I.kIn Dy e (λz=>nomatch z) h
 |flt y=>obtain⟨t,q⟩:=(show ∃t,u=Value.float y t from rx);cases q;exact C9 PySem.W.kitx_float I.kIn Dy e (λz=>nomatch z) h
 |@lst a xs ea=>
  cases(show u=A6 a from rx);obtain⟨_,_,n,_,h1⟩:=(show ObjOk X.prog X.w H s.heap a (.lst xs)from I.hok a _ ea);exact C9 PySem.W.kitx_list I.kIn ⟨_,h1,rfl⟩ e (λz=>nomatch z) h
 |@frz a ob xs ea=>
  cases(show u=A6 a from rx);obtain⟨_,_,_,n,_,h1⟩:=(show ObjOk X.prog X.w H s.heap a (.frz ob (.lst xs))from I.hok a _ ea);exact C9 PySem.W.kitx_list I.kIn ⟨_,h1,rfl⟩ e (λz=>nomatch z) h
 |@tup a xs ea=>
  cases(show u=A6 a from rx);obtain⟨_,_,_,p⟩:=(show ObjOk X.prog X.w H s.heap a (.tup xs)from I.hok a _ ea);obtain⟨o,h1,h2,_⟩:=p;exact C9 PySem.W.kitx_tuple I.kIn ⟨o,h1,h2⟩ e (λz=>nomatch z) h
 |@dK a kvs ea=>
  cases(show u=A6 a from rx);obtain⟨_,_,vs,_,p⟩:=(show ObjOk X.prog X.w H s.heap a (.dK kvs)from I.hok a _ ea);obtain⟨o,es,ep,h1,h2,_⟩:=p;exact C9 PySem.W.kitx_dict I.kIn ⟨o,h1,h2.1⟩ e (λz=>nomatch z) h
 |@dT a kvs ea=>
  cases(show u=A6 a from rx);obtain⟨_,_,xs,_,o,es,ep,h1,h2,_⟩:=(show ObjOk X.prog X.w H s.heap a (.dT kvs)from I.hok a _ ea);exact C9 PySem.W.kitx_dict I.kIn ⟨o,h1,h2.1⟩ e (λz=>nomatch z) h
 |@ins a C dx fs ea cl ha hn htk hm=>
  cases(show u=A6 a from rx);obtain⟨mA,O,_⟩:=UZ I.hok ea;obtain⟨od,J,_⟩:=O.look;exact C9 (PySem.W.kitx_own (cl.get _) cl.hd ha hn htk hm) I.kIn J e (λz=>nomatch z) h
end
structure Room(k:Nat)(A:Ck):Prop where
 hd:A.handled=ah
 dp:A.depth+3*k+5 < recursionLimit
 un:A.units+16*k+200 < Fu
 gd:A.guards=ae []
theorem Room.mono(r:Room k A)(h:j<=k):Room j A:=⟨r.hd,by have:=r.dp;omega,by have:=r.un;omega,r.gd⟩
theorem Room.deeper(r:Room (k+1) A)(env):Room k (A.deeper env):=
 ⟨r.hd,by have:=r.dp;show A.depth+1+3*k+5 < _;omega,by have:=r.un;show A.units+3+16*k+200 < _;omega,r.gd⟩
theorem Room.depth(r:Room k A):A.depth < recursionLimit:=by have:=r.dp;omega
theorem Room.units(r:Room k A):A.units+64 < Fu:=by have:=r.un;omega
theorem Room.units0(r:Room k A):A.units < Fu:=by have:=r.un;omega
def bL:TA:=λ_ H Q=>Q [] H
def c7(ta:TE)(tr:TA):TA:=λσ H Q=>ta σ H λx H1=>tr σ H1 λxs H2=>Q (x::xs) H2
section
variable{X:Cx}{e:Expr}{es:List Expr}{te:TE}{t:TA}{pos:Pos}
theorem fI:PA X [] bL:=λ_ _ _ _ H Q I h=>Calls.spliced_nil ⟨[],H,I,.nil,h⟩
theorem dF(ha:PE X e te)(hr:PA X es t)(hs:Az (e::es) X.env=(aj,eval e X.env)::Az es X.env:=by rfl):PA X (e::es) (c7 te t):=by
 intro pos pins s σ H Q I h;rw[hs];show A5 _ _ (spliced ((aj,eval e X.env)::Dj pos (Az es X.env))) _ _ s;refine Calls.spliced_cons (aY (ha pins s σ H _ I h) λu s1 ⟨x,H1,I1,r1,q1⟩=>?_);exact aY (hr pos pins s1 σ H1 _ I1 q1) λus s2 ⟨xs,H2,I2,r2,q2⟩=>⟨x::xs,H2,I2,.cons r1 r2,q2⟩
def l8(t:TA):TE:=λσ H Q=>t σ H λxs H1=>xs.length<=Ay/\∀p,H1 p=ah->Q (.ref p) (upd H1 p (.tup xs))
def jm(t:TA):TE:=λσ H Q=>t σ H λxs H1=>xs.length<=Ay/\∀p,H1 p=ah->Q (.ref p) (upd H1 p (.lst xs))
theorem CT{x1}(h:PA X es t):PE X (.Tuple es x1 pos) (l8 t):=by
 intro pins s σ H Q I hq;refine wpAny_Tuple_spliced (aY (h pos pins s σ H _ I hq) λus s1 ⟨xs,H1,I1,r,z,q⟩=>⟨by rw[<-r.length];exact z,?_⟩);have hf:H1 s1.heap.objs.size=ah:=I1.hok.fresh (Al _);refine⟨.ref s1.heap.objs.size,upd H1 s1.heap.objs.size (.tup xs),I1.laid (t':=s1.toks) (λb u e=>Ai _ e) (Al _) ?_,rfl,q _ hf⟩;exact⟨z,us,r,IsTupP.new _ _⟩
theorem uW(h:PA X es t):PE X (.List es pos) (jm t):=by
 intro pins s σ H Q I hq;refine wpAny_List_spliced (aY (h pos pins s σ H _ I hq) λus s1 ⟨xs,H1,I1,r,z,q⟩=>⟨by rw[<-r.length];exact z,?_⟩);have hf:H1 s1.heap.objs.size=ah:=I1.hok.fresh (Al _);refine⟨.ref s1.heap.objs.size,upd H1 s1.heap.objs.size (.lst xs),I1.laid (t':=s1.toks) (λb u e=>Ai _ e) (Al _) ?_,rfl,q _ hf⟩;exact⟨z,us,0,r,Bb _ rfl⟩
end
abbrev Sp:=List V->Hp->VK->XK->Prop
abbrev jq:=List Env->Hp->Ar->XK->Ak->Ar->Prop
structure Env0(P:Bp)(w:B7)(K:Ag)(mg:Str->Option Ak)(base:Heap)(A:Ck)(outer:List Env)(s:Ar)(H:Hp):Prop where
 frames:A.frames=ae outer
 mod:Mod K mg base
 bs:∀b o,base.get? b=ae o->s.heap.get? b=ae o/\H b=ah
 bsz:base.objs.size<=s.heap.objs.size
 funs:s.heap.FunFrames base outer
 frf:∀b∈jf outer,H b=ah
 hok:HOk P w H s.heap
 bare:AllBare s.gens
def CE(outer:List Env)(P:Bp)(w:B7)(H:Hp)(s:Ar)(Q:VK)(u:Ak)(s':Ar):Prop:=
 ∃v H',s'.os=s.os/\AllBare s'.gens/\Un (jf outer) [] H H' s.heap s'.heap/\HOk P w H' s'.heap/\RelV v u/\Q v H'
def CR(CX:jq)(outer:List Env)(P:Bp)(w:B7)(H:Hp)(s:Ar)(Q:VK)(E:XK)(r:Result)(s':Ar):Prop:=
 match r with
 |.ok (.ret u)=>CE outer P w H s Q u s'
 |.ok _=>False
 |.error e=>CX outer H s E e s'
structure FnOk(P:Bp)(w:B7)(K:Ag)(mg:Str->Option Ak)(base:Heap)(CX:jq)(k:Nat)(f:Addr)(fd:C1)(ps:List Str)(sp:Sp):Prop where
 len:∀vs H Q E,sp vs H Q E->vs.length=ps.length
 run:∀(A:Ck)(outer:List Env)(s:Ar)(H:Hp)(args:Args)(us:List Ak)(vs:List V)(Q:VK)(E:XK),Room k A->Env0 P w K mg base A outer s H->BindsTo s fd args (ps.zip us)->Vals vs us->sp vs H Q E->
  Gi (Bi P w) A (.call (.ref f) args) (CR CX outer P w H s Q E) s
theorem FnOk.imp{K:Ag}(F:FnOk P w K mg base CX k f fd ps sp)
  (h:∀vs H Q E,sp' vs H Q E->sp vs H Q E):FnOk P w K mg base CX k f fd ps sp':=
 ⟨λvs H Q E q=>F.len vs H Q E (h _ _ _ _ q),λA outer s H args us vs Q E hr he hb hv hs=>F.run A outer s H args us vs Q E hr he hb hv (h _ _ _ _ hs)⟩
section
variable{X:Cx}{pins:List (Addr×Obj)}{σ:St}{H:Hp}{s s':Ar}
theorem Inv.env0(I:Inv X pins σ H s):Env0 X.prog X.w X.K X.mg X.base X.A X.stack s H:=
 ⟨I.ok.frames,I.ok.mod,I.bs,A4 I.ok.bsz I.sz,I.stack,I.stkFree,I.hok,I.bare⟩
theorem Inv.after(I:Inv X pins σ H s)(h:CE X.stack X.prog X.w H s Q u s'):EP X pins σ Q u s':=by
 obtain⟨v,H',os,bare,un,hok,r,q⟩:=h;obtain⟨hh,g,d,t,os'⟩:=s';obtain rfl:os'=s.os:=os;exact⟨v,H',I.call (h':=hh) (g':=g) (d':=d) (t':=t) (ch:=[]) un hok bare (λb z=>absurd z (by simp)),r,q⟩
end
def jP(sp:Sp)(dvs:List V)(E:XK)(t:TA):TE:=λσ H Q=>t σ H λvs H1=>sp (vs++dvs) H1 Q E
def Binds(K:Ag)(fd:C1)(ps:List Str)(ds:List Ak):Prop:=
 ∀(s:Ar)(us:List Ak),K.In s.heap->(us++ds).length=ps.length->BindsTo s fd ⟨us,[]⟩ (ps.zip (us++ds))
theorem Binds.all{K:Ag}(h:∀us:List Ak,us.length=ps.length->bindArgs fd ⟨us,[]⟩=pure (ps.zip us)):Binds K fd ps []:=λs us _ hl=>by
 rw[Bm]at hl ⊢;exact .of_eq (h us hl)
def vt(CX:jq)(X:Cx)(E:XK):Prop:=∀(pins:List (Addr×Obj))(σ:St)(H:Hp)(s:Ar)(e:Ak)(s':Ar),Inv X pins σ H s->CX X.stack H s E e s'->X.xe e s'
section
variable{X:Cx}{CX:jq}{k:Nat}{f C:Addr}{fd:C1}{ps:List Str}{sp:Sp}{dvs:List V}{ds:List Ak}{E:XK}{x m:Str}{p pos apos:Pos}{e o:Expr}{es:List Expr}{ta:TE}{t:TA}
theorem KG{σ:St}(F:FnOk X.prog X.w X.K X.mg X.base CX k f fd ps sp)(hr:Room k X.A)(hb:Binds X.K fd ps ds)(hd:Vals dvs ds)(hx:vt CX X E)
  (I:Inv X pins σ H s) (r:Vals vs us) (h:sp (vs++dvs) H Q E):A5 (Bi X.prog X.w) X.A (call (.ref f) us) (EP X pins σ Q) X.xe s:=by
 have r2:Vals (vs++dvs) (us++ds):=r.append hd;have hl:(us++ds).length=ps.length:=by rw[<-r2.length];exact F.len _ _ _ _ h
 refine wpAny_call (codeAny_mono (F.run X.A X.stack s H ⟨us,[]⟩ (us++ds) (vs++dvs) Q E hr I.env0 (hb s us I.kIn hl) r2 h) λr s' hq=>?_);cases r with
 |error e=>exact hx pins σ H s e s' I hq
 |ok fl=>
  cases fl with
  |ret u=>exact I.after hq
  |next=>exact False.elim hq
  |brk=>exact False.elim hq
  |cont=>exact False.elim hq
theorem xc(F:FnOk X.prog X.w X.K X.mg X.base CX k f fd ps sp)(hr:Room k X.A)(hg:Gl X x)(hm:X.mg x=ae (.ref f))(hk:C3 X.K (.ref f)=ai)(hb:Binds X.K fd ps ds)(hd:Vals dvs ds)(hx:vt CX X E)
  (ha:PA X (e::es) t) (hdb:(x==("__debug__":Str))=aj:=by decide) (he:Az (e::es) X.env=(aj,eval e X.env)::Az es X.env:=by rfl) (hpl:(Dj pos (Az es X.env)).any (·.1)=aj:=by rfl):
  PE X (.Call (.Name x p) (e::es) [] pos) (jP sp dvs E t):=by
 intro pins s σ H Q I h;refine Gb (HC I hg hm ?_ hdb);refine PySem.W.callWith_K (h₀:=X.base) I.ok.mod.kin hk (aY (ha pos pins s σ H _ I h) λus s1 ⟨vs,H1,I1,r,q⟩=>⟨I1.kIn,?_⟩) he hpl;exact KG F hr hb hd hx I1 r q
end
structure FnScope(N P:List Str)(sc:E4):Prop where
 kind:sc.kind=.function
 co:sc.isCoroutine=aj
 gen:sc.isGenerator=aj
 nd:N.Nodup
 pre:N.take P.length=P
 par:∀x∈P,sc.names.lookup x=ae .local\/sc.names.lookup x=ae .cell
 nofree:∀y∈sc.names,y.2≠.free
theorem Hz{kindOf:Str->Option NameKind}:∀{binds:List (Str×Ak)}{m:Str->Option Ak},(∀v,(x,v)∉binds)->bindL kindOf binds m x=m x
 |[],_,_=>rfl
 | (n,v)::r,m,h=>by
  unfold bindL;rw[Hz λw hw=>h w (Au _ hw)]
  split
  ·have:x≠n:=by rintro rfl;exact h v As
   simp[this]
  ·rfl
theorem BO{kindOf:Str->Option NameKind}:∀{binds:List (Str×Ak)}{m:Str->Option Ak},(∀v,(x,v)∉binds)->bindC kindOf binds m x=m x
 |[],_,_=>rfl
 | (n,v)::r,m,h=>by
  unfold bindC;rw[BO λw hw=>h w (Au _ hw)]
  split
  ·rfl
  ·have:x≠n:=by rintro rfl;exact h v As
   simp[this]
theorem IS{kindOf:Str->Option NameKind}:∀{P:List Str}{vs:List Ak}{i:Nat}{m:Str->Option Ak},P.Nodup->P[i]?=ae x->vs[i]?=ae v->kindOf x=ae .local->
  bindL kindOf (P.zip vs) m x=ae v
 |[],_,_,_,_,h,_,_=>by simp at h
 |_::_,[],_,_,_,_,h,_=>by simp at h
 |p::P,w::vs,0,m,nd,h1,h2,hk=>by
  simp at h1 h2;subst h1;subst h2;show bindL kindOf ((p,w)::P.zip vs) m p=_;unfold bindL;rw[Hz λv hv=>(De.mp nd).1 (Ez hv).1,if_pos hk];simp
 |p::P,w::vs,i+1,m,nd,h1,h2,hk=>by
  show bindL kindOf ((p,w)::P.zip vs) m x=_;unfold bindL;exact IS (i:=i) (De.mp nd).2 (by simpa using h1) (by simpa using h2) hk
theorem CB{kindOf:Str->Option NameKind}:∀{P:List Str}{vs:List Ak}{i:Nat}{m:Str->Option Ak},P.Nodup->P[i]?=ae x->vs[i]?=ae v->kindOf x≠ae .local->
  bindC kindOf (P.zip vs) m x=ae v
 |[],_,_,_,_,h,_,_=>by simp at h
 |_::_,[],_,_,_,_,h,_=>by simp at h
 |p::P,w::vs,0,m,nd,h1,h2,hk=>by
  simp at h1 h2;subst h1;subst h2;show bindC kindOf ((p,w)::P.zip vs) m p=_;unfold bindC;rw[BO λv hv=>(De.mp nd).1 (Ez hv).1,if_neg hk];simp
 |p::P,w::vs,i+1,m,nd,h1,h2,hk=>by
  show bindC kindOf ((p,w)::P.zip vs) m x=_;unfold bindC;exact CB (i:=i) (De.mp nd).2 (by simpa using h1) (by simpa using h2) hk
def start(N:List Str)(vs:List V):St:=vs.map ae++Bj (N.length-vs.length) ah
def d8(CX:jq)(P:Bp)(w:B7)(K:Ag)(mg:Str->Option Ak)(base:Heap)(N:List Str)(qual:Str)(scope:E4)(f:Addr)(cd:Ak)(A:Ck)(outer:List Env)(s:Ar)(H:Hp)(E:XK):Cx where
 prog:=P
 w:=w
 K:=K
 mg:=mg
 base:=base
 A:=A.deeper (envOfC qual scope s.heap.objs.size f cd)
 N:=N
 s₀:=s
 H₀:=H
 env:=envOfC qual scope s.heap.objs.size f cd
 outer:=outer
 stack:=envOfC qual scope s.heap.objs.size f cd::outer
 ex:=[]
 calm:=ai
 fn:=λ_=>ai
 pn:=[]
 xe:=λe s'=>A5 (Bi P w) (A.deeper (envOfC qual scope s.heap.objs.size f cd)) (leaving (envOfC qual scope s.heap.objs.size f cd) e) (λ_ s''=>CX outer H s E e s'') (λe' s''=>CX outer H s E e' s'') s'
theorem IM{sc:E4}(h:sc.names.lookup x=ae .cell):∃c,(cellsFrom n sc.names []).lookup x=ae c:=by
 have q:=PySem.W.cellsFrom_some sc.names n [] (.inl h);exact Ft.mp q
theorem Vm{K:Ag}{scope:E4}{A:Ck}{s s1:Ar}{vs:List V}
  (S:FnScope N ps scope) (hd:A.handled=ah) (e0:Env0 P w K mg base A outer s H) (hl:vs.length=ps.length) (r:Vals vs us)
  (x:InCallC s s.heap.objs.size (bindL (envOfC qual scope s.heap.objs.size f cd).kindOf (ps.zip us) λ_=>ah) (cellsFrom (s.heap.objs.size+1) scope.names []) (bindC (envOfC qual scope s.heap.objs.size f cd).kindOf (ps.zip us) λ_=>ah) s1):
  Inv (d8 CX P w K mg base N qual scope f cd A outer s H E) [] (start N vs) H s1:=by
 have hpl:ps.length<=N.length:=by have:=congrArg F2 S.pre;rw[Cz]at this;omega
 obtain⟨h1,tk,rfl,hk⟩:=x.done;have noA:∀b:Addr,b∉(d8 CX P w K mg base N qual scope f cd A outer s H E).ex:=λb z=>absurd (show b∈([]:List Addr)from z) (by simp);refine⟨⟨e0.mod,S.kind,rfl,rfl,Al _,λy z c h1 h2=>?_,λy hy=>?_,λy c _ h=>?_,λ_=>hd,Around.frames_deeper e0.frames,.inr ⟨rfl,rfl⟩,λb z=>absurd z (noA b),e0.bs,e0.bsz,λb _ _=>noA b,λb z=>absurd z (noA b),e0.funs,e0.frf⟩,
  rfl,e0.bare,Un.kept hk,⟨_,x.toInCall.ns,λi y v h1 h2 h3=>?_⟩,λy c h=>⟨_,x.cell y c h⟩,e0.hok.fresh (Al _),λy c h=>?_,λp hp=>absurd (show p∈([]:List (Addr×Obj))from hp) (by simp),e0.hok.kept hk,?_⟩
 ·exact name_of_addr x.apart (Fm h1) (Fm h2)
 ·have hy:scope.names.lookup y=ae .cell\/scope.names.lookup y=ae .free:=hy;rcases hy with hy|hy
  ·exact IM hy
  ·exact absurd rfl (S.nofree _ (Fm hy))
 ·exact Fp (x.above y c (Fm h))
 ·have hi:i < vs.length:=by
   unfold start at h2;by_cases hi:i < vs.length
   ·exact hi
   ·rw[Bt (by simpa using hi)]at h2;rw[Ej]at h2
    split at h2<;>cases h2
  have ha:vs[i]?=ae v:=by
   unfold start at h2;rw[Ca (by simpa using hi),Ax]at h2;cases e:vs[i]? with
   |none=>rw[e]at h2;cases h2
   |some a=>rw[e]at h2;cases h2;rfl
  obtain⟨u,hu,rv⟩:=r.get ha;have hp:ps[i]?=ae y:=by
   rw[<-S.pre,List.getElem?_take_of_lt ⋯];exact h1
  have ndP:ps.Nodup:=by rw[<-S.pre];exact S.nd.sublist (List.take_sublist _ _)
  refine⟨u,rv,?_⟩;rcases S.par y (A1 hp)with k|k
  ·exact .inl ⟨k,IS ndP hp hu k⟩
  ·obtain⟨c,e⟩:=IM (n:=s.heap.objs.size+1) k;refine .inr ⟨.inl k,c,e,?_⟩;have q:=x.cell y c e;rw[CB ndP hp hu (by show scope.names.lookup y≠_;rw[k];decide)]at q;exact q
 ·exact e0.hok.fresh (Fp (x.above y c (Fm h)))
 ·unfold start;show _=N.length;rw[Af,Ab,Gf];omega
theorem SW{K:Ag}{dV kV doc pm cdv ct oc:Ak}
  {osl:Array (Option Ak)} {N ps:List Str} {sp:Sp} (lk:K.lookup f=ae ⟨oc,od,.func (Ff name qual params body scope dV kV doc pm an cdv ct),osl⟩) (hcd:PySem.W.codeIn K cdv qual=ai) (S:FnScope N ps scope)
  (len:∀vs H Q E,sp vs H Q E->vs.length=ps.length)
  (hbody:∀(A:Ck)(outer:List Env)(s:Ar)(H:Hp)(vs:List V)(Q:VK)(E:XK),Room k (A.deeper (envOfC qual scope s.heap.objs.size f cdv))->sp vs H Q E->
   ∃t,PSs (d8 CX P w K mg base N qual scope f cdv A outer s H E) body t/\t {nx:=λ_ H'=>Q .non H',rt:=Q} (start N vs) H):
  FnOk P w K mg base CX (k+1) f (Ff name qual params body scope dV kV doc pm an cdv ct) ps sp:=by
 refine⟨len,λA outer s H args us vs Q E hr e0 hb r hsp=>?_⟩;have hl:=len _ _ _ _ hsp;have KX:K.In s.heap:=e0.mod.kin.keeps λb o e=>(e0.bs b o e).1;have lim:s.heap.NoLimit:=e0.mod.nolimit.keeps λb o e=>(e0.bs b o e).1;have hkind:∀y∈ps.zip us,scope.names.lookup y.1=ae .local\/(scope.names.lookup y.1=ae .cell/\((cellsFrom (s.heap.objs.size+1) scope.names []).lookup y.1).isSome=ai):=λ⟨n,v⟩ hy=>by
  rcases S.par n (Ez hy).1 with q|q
  ·exact .inl q
  ·exact .inr ⟨q,PySem.W.cellsFrom_some _ _ _ (.inl q)⟩
 refine codeAny_call_function hr.depth (KX _ _ lk) rfl S.co S.gen rfl (PySem.W.codeRec_of KX hcd) (hb _ _ _ _ ?_);refine wpAny_newFunctionEnv_cells S.kind hkind λenv he s1 x=>?_;subst he;refine⟨lim.keeps x.toInCall.keep,codeAny_func ?_⟩;obtain⟨t,ht,hq⟩:=hbody A outer s H vs Q E (hr.deeper _) hsp;have I:Inv (d8 CX P w K mg base N qual scope f cdv A outer s H E) [] (start N vs) H s1:=Vm S hr.hd e0 hl r x;refine Dr (ht [] s1 (start N vs) H _ I hq) (λfl s' hs=>?_) λe s' hs=>hs;have fin:∀{σ':St}{H':Hp}{v:V}{u:Ak},Inv (d8 CX P w K mg base N qual scope f cdv A outer s H E) [] σ' H' s'->RelV v u->Q v H'->CE outer P w H s Q u s':=
  λ{σ' H' v u} J rv q=>⟨v,H',J.os,J.bare,J.base,J.hok,rv,q⟩
 cases fl with
 |ret u=>
  obtain⟨v,σ',H',J,rv,q⟩:=hs;exact fin J rv q
 |next=>
  obtain⟨σ',H',J,q⟩:=hs;exact fin (v:=V.non) (u:=B8) J rfl q
 |brk=>
  obtain⟨_,_,_,q⟩:=hs;exact False.elim q
 |cont=>
  obtain⟨_,_,_,q⟩:=hs;exact False.elim q
section
variable{X:Cx}{x:Str}{p pos:Pos}{e:Expr}{es:List Expr}{t:TA}{id T:String}{r:List V->Hp->VK->Prop}
def fY(r:List V->Hp->VK->Prop)(t:TA):TE:=λσ H Q=>t σ H λvs H1=>r vs H1 Q
theorem mN(hc:CallR X (.builtin id) r)(hg:Gl X x)(hm:X.mg x=ah)(hv:B3 x=ae (.builtin id))(ha:PA X (e::es) t)(hn:x≠"__name__":=by decide)(hdb:(x==("__debug__":Str))=aj:=by decide)
  (he:Az (e::es) X.env=(aj,eval e X.env)::Az es X.env:=by rfl) (hpl:(Dj pos (Az es X.env)).any (·.1)=aj:=by rfl):PE X (.Call (.Name x p) (e::es) [] pos) (fY r t):=by
 intro pins s σ H Q I h;refine Gb (k9 I hg hm hv ?_ hn hdb);exact PyProof.Rows.callWith_builtin1 (aY (ha pos pins s σ H _ I h) λus s1 ⟨vs,H1,I1,r1,q1⟩=>hc pins s1 σ H1 vs us Q I1 r1 q1) he hpl
theorem mQ(hc:CallR X (.type T) r)(hg:Gl X x)(hm:X.mg x=ah)(hv:B3 x=ae (.type T))(ha:PA X (e::es) t)(hn:x≠"__name__":=by decide)(hdb:(x==("__debug__":Str))=aj:=by decide)
  (he:Az (e::es) X.env=(aj,eval e X.env)::Az es X.env:=by rfl) (hpl:(Dj pos (Az es X.env)).any (·.1)=aj:=by rfl):PE X (.Call (.Name x p) (e::es) [] pos) (fY r t):=by
 intro pins s σ H Q I h;refine Gb (k9 I hg hm hv ?_ hn hdb);exact Da (aY (ha pos pins s σ H _ I h) λus s1 ⟨vs,H1,I1,r1,q1⟩=>hc pins s1 σ H1 vs us Q I1 r1 q1) he hpl
end
end L2
namespace HT
open PySem PyProof.Rows
section
variable{prog:Bp}{w:B7}{A:Ck}{E:Ak->Ar->Prop}{s:Ar}
theorem cat_tup(ht:IsTup s.heap t vs.toArray)(hb:IsTup s.heap b ws.toArray)(hv:vs≠[])
  (h1:ws=[]->Q (.ref t) s) (h2:ws≠[]->Q (.ref s.heap.objs.size) {s with heap:=s.heap.push {cls:=.type "tuple",data:=.seq (vs++ws).toArray}})
  (hsz:vs.length+ws.length<=Ay):A5 (Bi prog w) A (Ei .Add (.ref t) (.ref b)) Q E s:=by
 obtain⟨⟨cls,dd,data,sl⟩,ho,hc,n,hd⟩:=id ht;obtain⟨⟨cls2,dd2,data2,sl2⟩,ho2,hc2,n2,hd2⟩:=id hb;simp only at hc hd hc2 hd2;subst hc hd hc2 hd2;have e:vs.toArray++ws.toArray=(vs++ws).toArray:=by simp
 by_cases hw:ws=[]
 ·exact concat_meets ⟨_,ho,rfl⟩ ⟨_,ho2,rfl⟩ noFill_tuple_add seq_tuple_add F1 Fw (Fn _ _)
   (tuple_addW1 t b vs.toArray ws.toArray n n2 dd dd2 sl sl2 (by simpa using hv) (by simp[hw])) ⟨ho,ho2,h1 hw⟩
 ·refine concat_meets ⟨_,ho,rfl⟩ ⟨_,ho2,rfl⟩ noFill_tuple_add seq_tuple_add F1 Fw (Fn _ _)
   (tuple_addW2 t b vs.toArray ws.toArray n n2 dd dd2 sl sl2 (by simpa using hv) (by simpa using hw) (by rw[A3,A3];exact hsz)) ⟨ho,ho2,?_⟩
  rw[e];exact h2 hw
def sIx(n d:Nat):Option Int->Nat
 |none=>d
 |some v=>if v < 0 then(v+(n:Int)).toNat else min v.toNat n
theorem sIx_none(n d):sIx n d ah=d:=rfl
theorem sIx_nat(n d k:Nat):sIx n d (ae (k:Int))=min k n:=by
 show(if (k:Int) < 0 then((k:Int)+(n:Int)).toNat else min (k:Int).toNat n)=min k n;rw[if_neg ⋯,Bs]
theorem Kg(n d)(hd:d<=n)(o):sIx n d o<=n:=by
 cases o with
 |none=>exact hd
 |some v=>
  show(if v < 0 then(v+(n:Int)).toNat else min v.toNat n)<=n;by_cases hv:v < 0
  ·rw[if_pos hv];omega
  ·rw[if_neg hv];exact Nat.min_le_right _ _
theorem JI(v)(n d:Nat):(if v < 0 then max (v+(n:Int)) 0 else min v (n:Int))=((sIx n d (ae v):Nat):Int):=by
 show(if v < 0 then max (v+(n:Int)) 0 else min v (n:Int))=(((if v < 0 then(v+(n:Int)).toNat else min v.toNat n):Nat):Int);by_cases hv:v < 0
 ·simp only[if_pos hv];omega
 ·simp only[if_neg hv];omega
theorem Vd(lo hi)(n:Nat):Di lo hi 1 (n:Int)=(((sIx n 0 lo:Nat):Int),((sIx n n hi:Nat):Int)):=by
 have h1:¬((1:Int) < 0):=by omega
 unfold Di;simp only[h1,if_false];refine Prod.ext ?_ ?_
 ·cases lo with
  |none=>rfl
  |some v=>exact JI v n 0
 ·cases hi with
  |none=>rfl
  |some v=>exact JI v n n
theorem LR(i j:Nat):Cm (i:Int) (j:Int) 1=j-i:=by
 unfold Cm;have h1:(1:Int) > 0:=by omega
 simp only[h1,if_true,Int.ediv_one]
 split<;>omega
theorem JQ(p:IsPart v o)(h:Q o s):A5 (Bi prog w) A (Builtin.Slice.slicePartIndex v) Q E s:=by
 cases p with
 |none=>exact slicePart_none h
 |int i t=>exact slicePart_int h
theorem JC{lo hi:Option Int}{Q:Int×Int×Nat->Ar->Prop}(hs:s.heap.IsSliceOf sl vl vu .none)(pl:IsPart vl lo)(pu:IsPart vu hi)
  (h:Q (((sIx n 0 lo:Nat):Int),1,sIx n n hi-sIx n 0 lo) s):A5 (Bi prog w) A (Ew (.ref sl) (pure (n:Int))) Q E s:=by
 obtain⟨os,hos,hcs,hds⟩:=id hs;unfold Ew Builtin.Slice.sliceFields;refine Ad (Ad (Cb hos hds (x:=vl) rfl (Ad (Cb hos hds (x:=vu) rfl (Ad (Cb hos hds (x:=.none) rfl (Aw ?_)))))));refine Ad (slicePart_none ?_);show A5 _ _ (if ((1:Int)==0)=ai then _ else _) _ _ s;rw[if_neg ∎];refine Ad (JQ pl (Ad (JQ pu (Ad (Aw ?_)))));show A5 _ _ (match Di lo hi 1 (n:Int)with|(lo,hi)=>pure (lo,(1:Int),Cm lo hi 1)) _ _ s;rw[Vd lo hi n];show A5 _ _ (pure (((sIx n 0 lo:Nat):Int),(1:Int),Cm ((sIx n 0 lo:Nat):Int) ((sIx n n hi:Nat):Int) 1)) _ _ s;rw[LR];exact Aw h
theorem SJ(xs:Array Ak)(i k:Nat):((A8 k).filterMap λ(m:Nat)=>xs[((i:Int)+(m:Int)*1).toNat]?).toArray=((xs.toList.drop i).take k).toArray:=by
 have e:(λ(m:Nat)=>xs[((i:Int)+(m:Int)*1).toNat]?)=λm=>xs[i+m]?:=by
  funext m
  have:((i:Int)+(m:Int)*1).toNat=i+m:=by omega
  rw[this]
 rw[e];have:=pick_run xs i k;rw[List.filterMap_map]at this;have e2:((λx=>xs[x]?) ∘ λx=>i+x)=λm=>xs[i+m]?:=rfl;rw[e2]at this;rw[this]
theorem getItem_tuple_cut{lo hi:Option Int}(ht:IsTup s.heap t items)(hs:s.heap.IsSliceOf sl vl vu .none)(pl:IsPart vl lo)(pu:IsPart vu hi)
  (hw:¬(sIx items.size 0 lo=0/\sIx items.size items.size hi=items.size))
  (h:Q (.ref s.heap.objs.size) {s with heap:=s.heap.push {cls:=.type "tuple",data:=.seq ((items.toList.drop (sIx items.size 0 lo)).take (sIx items.size items.size hi-sIx items.size 0 lo)).toArray}})
  (hsz:items.size<=Ay):A5 (Bi prog w) A (getItem (.ref t) (.ref sl)) Q E s:=by
 have htake:sizeOk (.seq ((items.toList.drop (sIx items.size 0 lo)).take (sIx items.size items.size hi-sIx items.size 0 lo)).toArray):=by
  show((items.toList.drop (sIx items.size 0 lo)).take (sIx items.size items.size hi-sIx items.size 0 lo)).toArray.size<=Ay;rw[A3,Cz,B5,Ef];omega
 have hj:sIx items.size items.size hi<=items.size:=Kg _ _ (Al _) hi;obtain⟨os,hos,hcs,hds⟩:=id hs;have hTs:s.TypeIs (.ref sl) "slice":=⟨os,hos,hcs⟩;unfold getItem
 try with_reducible refine Ct ?_
 first|refine Ad (Aw ?_)|skip
 refine Ad (wpAny_sequenceKey ht.typeIs ∎ ?_);refine Ad (Cp (name:=Dm "__getitem__") ht.typeIs C0
  (Dk C0 ht.typeIs entry_tuple_getitem ?_ (args_tuple_getitem _ _)))
 show A5 _ _ (Gg (.ref t)>>=_) _ _ s;refine Ad (tupleItemsOf_ ht ?_);refine Ad (Fx hTs ?_);rw[if_pos ∎];refine Ad (JC hs pl pu ?_);have hno:¬((((sIx items.size 0 lo:Nat):Int)==0&&(1:Int)==1&&(sIx items.size items.size hi-sIx items.size 0 lo)==items.size)=ai):=by
  intro q;rw[A2,A2]at q;have q1:((sIx items.size 0 lo:Nat):Int)=0:=eq_of_beq q.1.1;have q2:sIx items.size items.size hi-sIx items.size 0 lo=items.size:=eq_of_beq q.2;exact hw ⟨by omega,by omega⟩
 show A5 _ _ (if (((sIx items.size 0 lo:Nat):Int)==0&&(1:Int)==1&&(sIx items.size items.size hi-sIx items.size 0 lo)==items.size)=ai then _ else _) _ _ s;rw[if_neg hno,SJ]
 first
  |exact Ad (m:=Cr _) (Cf (Aw ⟨_,rfl,Aw h⟩) htake)
  |exact Ad (m:=Cr _) (Cf (Ad (Aw (Aw ⟨_,rfl,Aw h⟩))) htake)
  |exact Ad (Ad (m:=Cr _) (Cf (Aw (Aw ⟨_,rfl,Aw h⟩)) htake))
  |exact Ad (Ad (m:=Cr _) (Cf (Aw ⟨_,rfl,Aw h⟩) htake))
end
end HT
namespace L2
open PySem PySem.Spec PyProof.Rows
abbrev TO:=St->Hp->(Option Int->Hp->Prop)->Prop
def PO(X:Cx)(e:Option Expr)(t:TO):Prop:=
 ∀(pins:List (Addr×Obj))(s:Ar)(σ:St)(H:Hp)(Q:Option Int->Hp->Prop),Inv X pins σ H s->t σ H Q->
  A5 (Bi X.prog X.w) X.A (evalPart e X.env) (λu s'=>∃o H',Inv X pins σ H' s'/\IsPart u o/\Q o H') X.xe s
def Hu:TO:=λ_ H Q=>Q ah H
def IC(t:TE):TO:=λσ H Q=>t σ H λx H1=>∃i,x=.int i/\Q (ae i) H1
section
variable{X:Cx}{e:Expr}{te:TE}{lo hi:Option Expr}{tl th:TO}{pos p2:Pos}
theorem zI:PO X ah Hu:=by
 intro pins s σ H Q I h;rw[evalPart_none];exact Aw ⟨ah,H,I,.none,h⟩
theorem AW(h:PE X e te):PO X (ae e) (IC te):=by
 intro pins s σ H Q I hw;rw[evalPart_some];refine aY (h pins s σ H _ I hw) λu s1 ⟨x,H1,I1,r1,q1⟩=>?_;obtain⟨i,rfl,q⟩:=q1;obtain⟨t,rfl⟩:=r1;exact⟨ae i,H1,I1,.int i t,q⟩
def SlR(X:Cx)(r:V->Option Int->Option Int->Hp->VK->Prop):Prop:=
 ∀(pins:List (Addr×Obj))(s:Ar)(σ:St)(H:Hp)(x:V)(v vl vu:Ak)(lo hi:Option Int)(sl:Addr)(Q:VK),Inv X pins σ H s->RelV x v->s.heap.IsSliceOf sl vl vu .none->IsPart vl lo->IsPart vu hi->r x lo hi H Q->
  ∃T id,typeLookup (.type T) "__getitem__"=pure (ae (.builtin id))/\s.TypeIs v T/\A5 (Bi X.prog X.w) X.A (getItem v (.ref sl)) (EP X pins σ Q) X.xe s
theorem SlR.or(h:SlR X r)(h':SlR X r'):SlR X (λx lo hi H Q=>r x lo hi H Q\/r' x lo hi H Q):=by
 intro pins s σ H x v vl vu lo hi sl Q I rx hs pl pu q;rcases q with q|q
 ·exact h pins s σ H x v vl vu lo hi sl Q I rx hs pl pu q
 ·exact h' pins s σ H x v vl vu lo hi sl Q I rx hs pl pu q
def rD(r:V->Option Int->Option Int->Hp->VK->Prop)(te:TE)(tl th:TO):TE:=λσ H Q=>te σ H λx H1=>tl σ H1 λl H2=>th σ H2 λu H3=>r x l u H3 Q
theorem sj(hr:SlR X r)(he:PE X e te)(hl:PO X lo tl)(hu:PO X hi th):PE X (.Subscript e (.Slice lo hi ah p2) pos) (rD r te tl th):=by
 intro pins s σ H Q I h;refine Subscript_ (aY (he pins s σ H _ I h) λv s1 ⟨x,H1,I1,r1,q1⟩=>?_);refine wpAny_Slice (aY (hl pins s1 σ H1 _ I1 q1) λvl s2 ⟨l,H2,I2,pl,q2⟩=>aY (hu pins s2 σ H2 _ I2 q2) λvu s3 ⟨u,H3,I3,pu,q3⟩=>?_);rw[evalPart_none];refine Aw ?_;have I4:Inv X pins σ H3 {s3 with heap:=s3.heap.push {cls:=.type "slice",data:=.fields #[vl,vu,.none]}}:=I3.kept (t':=s3.toks) λb ob q=>Ai _ q;obtain⟨T,id,hT,ht,hg⟩:=hr pins {s3 with heap:=s3.heap.push {cls:=.type "slice",data:=.fields #[vl,vu,.none]}} σ H3 x v vl vu l u s3.heap.objs.size Q I4 r1 (Heap.IsSliceOf.new ..) pl pu q3;show A5 (Bi X.prog X.w) X.A (subscriptTail e (.Slice lo hi ah p2) v (.ref s3.heap.objs.size)) (EP X pins σ Q) X.xe {s3 with heap:=s3.heap.push {cls:=.type "slice",data:=.fields #[vl,vu,.none]}};exact tail_any (ops:=[.ref s3.heap.objs.size,v]) ht hT hg (by with_unfolding_all rfl)
def fg(xs:List V)(lo hi:Option Int):List V:=(xs.drop (HT.sIx xs.length 0 lo)).take (HT.sIx xs.length xs.length hi-HT.sIx xs.length 0 lo)
theorem pd(xs:List V)(lo hi):(fg xs lo hi).length<=xs.length:=by
 unfold fg;rw[Cz,B5];omega
def oX(K:Ag):V->Option Int->Option Int->Hp->VK->Prop:=λx lo hi H Q=>∃a xs,x=.ref a/\SqT K H a xs /\
 ¬(HT.sIx xs.length 0 lo=0/\HT.sIx xs.length xs.length hi=xs.length)/\∀p,H p=ah->Q (.ref p) (upd H p (.tup (fg xs lo hi)))
theorem sl_tup:SlR X (oX X.K):=by
 intro pins s σ H x v vl vu lo hi sl Q I rx hs pl pu h;obtain⟨a,xs,rfl,hx,hw,q⟩:=h;cases rx;obtain⟨its,r,ht,hz⟩:=I.tuple hx;have hlen:its.toArray.size=xs.length:=by rw[A3];exact r.length.symm
 refine⟨"tuple",_,PyProof.Rows.slot_tuple_getitem.lookup,ht.typeIs,?_⟩;refine HT.getItem_tuple_cut ht hs pl pu (by rw[hlen];exact hw) ?_ (by rw[hlen];exact hz);rw[hlen];refine⟨.ref s.heap.objs.size,_,I.laid (t':=s.toks) (o:=.tup (fg xs lo hi)) (λb ob q=>Ai _ q) (Al _) ?_,rfl,q _ (I.hok.fresh (Al _))⟩;exact⟨A4 (pd xs lo hi) hz,_,(r.drop (HT.sIx xs.length 0 lo)).take (HT.sIx xs.length xs.length hi-HT.sIx xs.length 0 lo),IsTupP.new _ _⟩
def JE(K:Ag):R2:=λx y H Q=>∃a b xs ys,x=.ref a/\y=.ref b/\SqT K H a xs/\SqT K H b ys/\xs≠[]/\xs.length+ys.length<=Ay /\
 (ys=[]->Q (.ref a) H)/\(ys≠[]->∀p,H p=ah->Q (.ref p) (upd H p (.tup (xs++ys))))
theorem Vals.nil_iff(r:Vals xs us):us=[]↔xs=[]:=by
 cases r with
 |nil=>simp
 |cons _ _=>simp
theorem op_catT:OpR X (Ei .Add) (JE X.K):=by
 intro pins s σ H x y v u Q I rx ry h;obtain⟨a,b,xs,ys,rfl,rfl,ha,hb,hx,hz,q1,q2⟩:=h;cases rx;cases ry;obtain⟨its,r1,p1,_⟩:=I.tuple ha;obtain⟨its2,r2,p2,_⟩:=I.tuple hb;refine HT.cat_tup p1 p2 (λz=>hx (r1.nil_iff.mp z)) (λz=>⟨.ref a,H,I,rfl,q1 (r2.nil_iff.mp z)⟩) (λz=>?_) (by rw[<-r1.length,<-r2.length];exact hz);refine⟨.ref s.heap.objs.size,_,I.laid (t':=s.toks) (o:=.tup (xs++ys)) (λb ob q=>Ai _ q) (Al _) ?_,rfl,q2 (λw=>z (r2.nil_iff.mpr w)) _ (I.hok.fresh (Al _))⟩;exact⟨by rw[Af];exact hz,_,r1.append r2,IsTupP.new _ _⟩
end
def iQ(n:Nat)(i:Int):Option Nat:=if 0<=i then(if i < n then ae i.toNat else ah)else if -(n:Int)<=i then ae (i+n).toNat else ah
def dh{α:Type}(xs:List α)(i:Int):Option α:=(iQ xs.length i).bind λj=>xs[j]?
theorem IX(h:iQ n i=ae j):seqIndex? i n=ae j/\j < n/\-(n:Int)<=i/\i < n:=by
 unfold iQ at h;by_cases h0:0<=i
 ·rw[if_pos h0]at h;by_cases h1:i < n
  ·rw[if_pos h1]at h;have e:i.toNat=j:=A7 h;exact⟨by rw[seqIndex_of h0 h1,e],by omega,by omega,h1⟩
  ·rw[if_neg h1]at h;cases h
 ·rw[if_neg h0]at h;by_cases h1:-(n:Int)<=i
  ·rw[if_pos h1]at h;have e:(i+n).toNat=j:=A7 h;exact⟨by rw[seqIndex_neg ⋯ h1,e],by omega,h1,by omega⟩
  ·rw[if_neg h1]at h;cases h
theorem uK(h:dh xs i=ae v):∃j,seqIndex? i xs.length=ae j/\xs[j]?=ae v/\j < xs.length/\-(xs.length:Int)<=i/\i < xs.length:=by
 unfold dh at h;cases e:iQ xs.length i with
 |none=>rw[e]at h;cases h
 |some j=>
  rw[e]at h;obtain⟨h1,h2,h3,h4⟩:=IX e;exact⟨j,h1,h,h2,h3,h4⟩
theorem fQ{j:Nat}(h:xs[j]?=ae v):dh xs (j:Int)=ae v:=by
 have hj:j < xs.length:=(Ao.mp h).1;have e:iQ xs.length (j:Int)=ae j:=by
  unfold iQ;rw[if_pos ⋯,if_pos ⋯];simp
 unfold dh;rw[e];exact h
def nH(b:Expr):Prop:=∀o i,subscripted b aj o i=operate [o,i] (getItem o i)
def IxR(X:Cx)(r:R2):Prop:=
 ∀(value slice:Expr)(pins:List (Addr×Obj))(s:Ar)(σ:St)(H:Hp)(x y:V)(v u:Ak)(Q:VK),Inv X pins σ H s->RelV x v->RelV y u->r x y H Q->
  subscripted slice aj v u=operate [v,u] (getItem v u)->A5 (Bi X.prog X.w) X.A (subscriptTail value slice v u) (EP X pins σ Q) X.xe s
def xt(X:Cx)(id:String)(r:V->List V->Hp->VK->Prop):Prop:=
 ∀(pins:List (Addr×Obj))(s:Ar)(σ:St)(H:Hp)(x:V)(xs:List V)(v:Ak)(us:List Ak)(Q:VK),Inv X pins σ H s->RelV x v->Vals xs us->r x xs H Q->
  A5 (Bi X.prog X.w) X.A (call (.builtin id) (v::us)) (EP X pins σ Q) X.xe s
section
variable{X:Cx}{a b:Expr}{ta tb:TE}{pos:Pos}
theorem IxR.or(h:IxR X r)(h':IxR X r'):IxR X (λx y H Q=>r x y H Q\/r' x y H Q):=by
 intro value slice pins s σ H x y v u Q I rx ry q hs;rcases q with q|q
 ·exact h value slice pins s σ H x y v u Q I rx ry q hs
 ·exact h' value slice pins s σ H x y v u Q I rx ry q hs
theorem iS(hr:IxR X r)(ha:PE X a ta)(hb:PE X b tb)(hs:nH b):PE X (.Subscript a b pos) (dz r ta tb):=by
 intro pins s σ H Q I h;exact Subscript_ (m7 ha hb I h λv u s2 x y H2 I2 rx ry q=>hr a b pins s2 σ H2 x y v u Q I2 rx ry q (hs _ _))
def qS(K:Ag):R2:=λx y H Q=>∃p xs i v,x=.ref p/\y=.int i/\SqL K H p xs/\dh xs i=ae v/\Q v H
def qy(K:Ag):R2:=λx y H Q=>∃p xs i v,x=.ref p/\y=.int i/\SqT K H p xs/\dh xs i=ae v/\Q v H
def qo:R2:=λx y H Q=>∃z i c,x=.str z/\y=.int i/\z.length<=Ay/\dh z.cps.toList i=ae c/\Q (.str ⟨#[c]⟩) H
theorem ix_list:IxR X (qS X.K):=by
 intro value slice pins s σ H x y v u Q I rx ry h hs;obtain⟨p,xs,i,z,rfl,rfl,hq,he,q⟩:=h;cases rx;obtain⟨t,rfl⟩:=ry;obtain⟨its,r,pl,hz⟩:=I.list hq;obtain⟨j,h1,h2,h3,h4,h5⟩:=uK he;obtain⟨w,ew,rw'⟩:=r.get h2;have hl:=r.length;have hn:=mB;have fin:EP X pins σ Q w s:=⟨z,H,I,rw',q⟩;by_cases h0:0<=i
 ·have hj:i.toNat=j:=by
   rw[seqIndex_of h0 h5]at h1;exact A7 h1
  exact item_listR pl.isList h0 ⋯ (by rw[hj];simpa using ew) fin hs
 ·have hj:(i+(its.toArray.size:Int)).toNat=j:=by
   rw[seqIndex_neg ⋯ h4]at h1;rw[A3,<-hl];exact A7 h1
  exact subscriptTail_builtinR (x:=w) pl.isList.typeIs slot_list_getitem.lookup
   (wpAny_getItem_list_neg (Q:=λr s'=>r=w/\EP X pins σ Q r s') pl.isList ⋯ (by rw[A3]<;>omega) ⋯ (by rw[hj];simpa using ew) ⟨rfl,fin⟩) hs
theorem ix_tup:IxR X (qy X.K):=by
 intro value slice pins s σ H x y v u Q I rx ry h hs;obtain⟨p,xs,i,z,rfl,rfl,hq,he,q⟩:=h;cases rx;obtain⟨t,rfl⟩:=ry;obtain⟨its,r,pl,hz⟩:=I.tuple hq;obtain⟨j,h1,h2,h3,h4,h5⟩:=uK he;obtain⟨w,ew,rw'⟩:=r.get h2;have hl:=r.length;have hn:=mB;have fin:EP X pins σ Q w s:=⟨z,H,I,rw',q⟩;exact subscriptTail_builtinR (x:=w) pl.typeIs slot_tuple_getitem.lookup
  (getItem_tuple (j:=j) (Q:=λr s'=>r=w/\EP X pins σ Q r s') pl ⋯ ⋯ (by rw[A3,<-hl];exact h1) (by simpa using ew) ⟨rfl,fin⟩) hs
theorem Sv:IxR X qo:=by
 intro value slice pins s σ H x y v u Q I rx ry h hs;obtain⟨z,i,c,rfl,rfl,hz,he,q⟩:=h;obtain⟨t,rfl⟩:=rx;obtain⟨t',rfl⟩:=ry;obtain⟨j,h1,h2,h3,h4,h5⟩:=uK he;have hl:z.cps.toList.length=z.length:=by simp[Str.length]
 rw[hl]at h1 h4 h5;have hn:=mB;exact tail_any (typeIs_str s z t) slot_str_getitem.lookup (getItem_str (c:=c) (by
  have e1:decide (i < -(2 ^ 63:Int))=aj:=decide_eq_false ⋯;have e2:decide (i ≥ 2 ^ 63)=aj:=decide_eq_false ⋯;rw[e1,e2,Bool.or_false]) (by rw[h1];simpa using h2) ⟨.str ⟨#[c]⟩,H,I.tok _,⟨_,rfl⟩,q⟩) hs
def gR(K:Ag):R2:=λx y H Q=>qS K x y H Q\/qy K x y H Q\/qo x y H Q
theorem uZ:IxR X (gR X.K):=ix_list.or (ix_tup.or Sv)
theorem QW(its:List Ak)(n j)(u):Co (·.setIfInBounds j u) {cls:=.type "list",data:=.seq its.toArray n}={ cls:=.type "list",data:=.seq (its.set j u).toArray n}:=by
 simp[Co]
theorem Inv.lst{σ:St}{H:Hp}{s:Ar}{p:Addr}{xs:List V}(I:Inv X pins σ H s)(h:H p=ae (.lst xs)):
  ∃(its:List Ak)(n:Nat),Vals xs its/\s.heap.get? p=ae {cls:=.type "list",data:=.seq its.toArray n}/\xs.length<=Ay:=by
 obtain⟨z,its,n,r,e⟩:=I.hok p _ h;exact⟨its,n,r,e,z⟩
theorem Inv.lstUpd{σ:St}{xs ys:List V}{its its':List Ak}(I:Inv X pins σ H s)(h:H p=ae (.lst xs))
  (ho:s.heap.get? p=ae {cls:=.type "list",data:=.seq its.toArray n}) (hf:f {cls:=.type "list",data:=.seq its.toArray n}={ cls:=.type "list",data:=.seq its'.toArray n'}) (r:Vals ys its') (hz:ys.length<=Ay) (t:Nat):
  Inv X pins σ (upd H p (.lst ys)) {s with heap:=s.heap.update p f,toks:=t}:=by
 have e:(s.heap.update p f).get? p=ae {cls:=.type "list",data:=.seq its'.toArray n'}:=by
  rw[D5 f ho (by rw[hf]<;>rfl),hf]
 refine I.write (x:=p) (e:=p) (by rw[h];trivial) (.inl rfl) (λb u hb q=>(D0 _ _ (Ne.symm hb)).trans q) ⟨_,e⟩ ?_;exact⟨hz,its',n',r,e⟩
def nF:V->V->V->Hp->(Hp->Prop)->Prop:=λo i v H Q=>∃p xs k j,o=.ref p/\i=.int k/\H p=ae (.lst xs)/\iQ xs.length k=ae j/\Q (upd H p (.lst (xs.set j v)))
theorem qd:o8 X nF:=by
 intro pins s σ H o i v ov iv u Q I ro ri rv h;obtain⟨p,xs,k,j,rfl,rfl,hp,hj,q⟩:=h;cases ro;obtain⟨t,rfl⟩:=ri;obtain⟨its,n,r,ho,hz⟩:=I.lst hp;obtain⟨h1,h2,h3,h4⟩:=IX hj;have hl:=r.length;have hn:=mB;have I':Inv X pins σ (upd H p (.lst (xs.set j v))) {s with heap:=s.heap.update p (Co (·.setIfInBounds j u))}:=
  I.lstUpd hp ho (QW its n j u) (r.set rv j) (by rw[Cw];exact hz) s.toks
 by_cases h0:0<=k
 ·have hk:k.toNat=j:=by
   rw[seqIndex_of h0 h4]at h1;exact A7 h1
  exact PySem.W.ki_setAt ho h0 ⋯ (by rw[A3,<-hl];exact h4) (by rw[hk];exact⟨_,I',q⟩)
 ·have hk:(k+(its.toArray.size:Int)).toNat=j:=by
   rw[seqIndex_neg ⋯ h3]at h1;rw[A3,<-hl];exact A7 h1
  exact PySem.W.ki_setBack ho ⋯ (by rw[A3,<-hl];exact h3) ⋯ (by rw[hk];exact⟨_,I',q⟩)
theorem Nx(lo hi)(n):(Gy lo hi ah n).1=((HT.sIx n 0 lo:Nat):Int)/\(Gy lo hi ah n).2.1=((HT.sIx n n hi:Nat):Int)/\(Gy lo hi ah n).2.2=1:=by
 refine⟨?_,?_,rfl⟩
 ·cases lo with
  |none=>simp[Gy,HT.sIx]
  |some i=>
   simp only[Gy,HT.sIx,Option.getD_none,show(1:Int) > 0 by decide,if_true];by_cases h:i < 0
   ·simp only[h,if_true]<;>omega
   ·simp only[h,if_false]<;>omega
 ·cases hi with
  |none=>simp[Gy,HT.sIx]
  |some i=>
   simp only[Gy,HT.sIx,Option.getD_none,show(1:Int) > 0 by decide,if_true];by_cases h:i < 0
   ·simp only[h,if_true]<;>omega
   ·simp only[h,if_false]<;>omega
theorem Um(its:List Ak)(lo hi):slicePick its.toArray lo hi ah=((its.drop (HT.sIx its.length 0 lo)).take (HT.sIx its.length its.length hi-HT.sIx its.length 0 lo)).toArray:=by
 obtain⟨h1,h2,h3⟩:=Nx lo hi its.toArray.size;unfold slicePick;rw[h1,h2,h3];simp only[sliceRange_one,pick_run,A3]<;>rfl
def mY(K:Ag):V->Option Int->Option Int->Hp->VK->Prop:=λx lo hi H Q=>∃a xs,x=.ref a/\SqL K H a xs/\∀p,H p=ah->Q (.ref p) (upd H p (.lst (fg xs lo hi)))
theorem uT:SlR X (mY X.K):=by
 intro pins s σ H x v vl vu lo hi sl Q I rx hs pl pu h;obtain⟨a,xs,rfl,hx,q⟩:=h;cases rx;obtain⟨its,r,ht,hz⟩:=I.list hx;have hlen:=r.length;refine⟨"list",_,slot_list_getitem.lookup,ht.isList.typeIs,?_⟩;refine wpAny_getItem_list_slice ht.isList hs pl pu .none (by simp) ?_ (by rw[A3]<;>omega);rw[Um,<-hlen];refine⟨.ref s.heap.objs.size,_,I.laid (t':=s.toks) (o:=.lst (fg xs lo hi)) (λb ob q=>Ai _ q) (Al _) ?_,rfl,q _ (I.hok.fresh (Al _))⟩;exact⟨A4 (pd xs lo hi) hz,_,0,(r.drop (HT.sIx xs.length 0 lo)).take (HT.sIx xs.length xs.length hi-HT.sIx xs.length 0 lo),Bb _ rfl⟩
def jb:V->Bool
 |.non=>ai
 |.bl _=>ai
 |.int _=>ai
 |.str _=>ai
 |_=>aj
def ji:V->V->Bool
 |.non,.non=>ai
 |.bl a,.bl b=>a==b
 |.bl a,.int b=>(if a then 1 else 0)==b
 |.int a,.bl b=>a==(if b then 1 else 0)
 |.int a,.int b=>a==b
 |.str a,.str b=>a==b
 |_,_=>aj
theorem zf(ry:RelV y u)(rx:RelV x v)(fy:jb y=ai)(fx:jb x=ai):SeqAt.EqAt A s u v (ji y x):=by
 cases y with
 |non=>
  cases ry;cases x with
  |non=>cases rx;exact SeqAt.EqAt.same _
  |bl b=>cases rx;exact SeqAt.EqAt.none_bool b
  |int b=>obtain⟨t,rfl⟩:=rx;exact SeqAt.EqAt.none_int b t
  |str b=>obtain⟨t,rfl⟩:=rx;exact SeqAt.EqAt.none_str b t
  |_=>exact absurd (show aj=ai from fx) Ae
 |bl a=>
  cases ry;cases x with
  |non=>cases rx;exact SeqAt.EqAt.bool_none a
  |bl b=>cases rx;exact SeqAt.EqAt.bool_bool a b
  |int b=>obtain⟨t,rfl⟩:=rx;exact SeqAt.EqAt.bool_int a b t
  |str b=>obtain⟨t,rfl⟩:=rx;exact SeqAt.EqAt.bool_str a b t
  |_=>exact absurd (show aj=ai from fx) Ae
 |int a=>
  obtain⟨t',rfl⟩:=ry;cases x with
  |non=>cases rx;exact SeqAt.EqAt.int_none a t'
  |bl b=>cases rx;exact SeqAt.EqAt.int_bool a t' b
  |int b=>obtain⟨t,rfl⟩:=rx;exact SeqAt.EqAt.int_int a t' b t
  |str b=>obtain⟨t,rfl⟩:=rx;exact SeqAt.EqAt.int_str a t' b t
  |_=>exact absurd (show aj=ai from fx) Ae
 |str a=>
  obtain⟨t',rfl⟩:=ry;cases x with
  |non=>cases rx;exact SeqAt.EqAt.str_none a t'
  |bl b=>cases rx;exact SeqAt.EqAt.str_bool a t' b
  |int b=>obtain⟨t,rfl⟩:=rx;exact SeqAt.EqAt.str_int a t' b t
  |str b=>obtain⟨t,rfl⟩:=rx;exact SeqAt.EqAt.str_str a t' b t
  |_=>exact absurd (show aj=ai from fx) Ae
 |_=>exact absurd (show aj=ai from fy) Ae
def ie(x:V)(u:Ak):Bool:=match u with
 |.none=>ji .non x
 |.bool b=>ji (.bl b) x
 |.int i _=>ji (.int i) x
 |.str z _=>ji (.str z) x
 |_=>aj
theorem zC(r:RelV y u)(f:jb y=ai):ie x u=ji y x:=by
 cases y with
 |non=>cases r;rfl
 |bl b=>cases r;rfl
 |int i=>obtain⟨t,rfl⟩:=r;rfl
 |str z=>obtain⟨t,rfl⟩:=r;rfl
 |_=>exact absurd (show aj=ai from f) Ae
theorem oK:∀{xs:List V}{us:List Ak},Vals xs us->xs.all jb=ai->us.any (ie x)=xs.any λy=>ji y x
 |_,_,.nil,_=>rfl
 |y::xs,u::us,.cons r t,f=>by
  rw[List.all_cons,A2]at f;rw[Dc,Dc,zC r f.1,oK t f.2]
theorem qW(rx:RelV x v)(fx:jb x=ai):∀{xs:List V}{us:List Ak},Vals xs us->xs.all jb=ai->∀u∈us,SeqAt.EqAt A s u v (ie x u)
 |_,_,.nil,_=>λu hu=>by cases hu
 |y::xs,u::us,.cons r t,f=>λu' hu=>by
  rw[List.all_cons,A2]at f;rcases Aq.mp hu with rfl|hu
  ·rw[zC r f.1];exact zf r rx f.1 fx
  ·exact qW rx fx t f.2 u' hu
def sX(x:V)(xs:List V):Bool:=xs.any λy=>ji y x
def jg(K:Ag)(neg:Bool):R2:=λx y H Q=>∃p xs,y=.ref p/\(SqL K H p xs\/SqT K H p xs)/\jb x=ai/\xs.all jb=ai/\Q (.bl (if neg then !sX x xs else sX x xs)) H
theorem Vi:OpR X (By .In) (jg X.K aj):=by
 intro pins s σ H x y v u Q I rx ry h;obtain⟨p,xs,rfl,hq,fx,fs,q⟩:=h;cases ry;rcases hq with hq|hq
 ·obtain⟨its,r,pl,hz⟩:=I.list hq;refine SeqAt.in_listAt (ie x) pl.isList (λw hw=>qW rx fx r fs w (by simpa using hw)) ⟨.bl _,H,I,rfl,?_⟩;rw[show its.toArray.any (ie x)=its.any (ie x) by simp,oK r fs];exact q
 ·obtain⟨its,r,pl,hz⟩:=I.tuple hq;refine SeqAt.in_tupleAt (ie x) pl (λw hw=>qW rx fx r fs w (by simpa using hw)) ⟨.bl _,H,I,rfl,?_⟩;rw[show its.toArray.any (ie x)=its.any (ie x) by simp,oK r fs];exact q
theorem OQ:OpR X (By .NotIn) (jg X.K ai):=by
 intro pins s σ H x y v u Q I rx ry h;obtain⟨p,xs,rfl,hq,fx,fs,q⟩:=h;cases ry;rcases hq with hq|hq
 ·obtain⟨its,r,pl,hz⟩:=I.list hq;refine SeqAt.notIn_listAt (ie x) pl.isList (λw hw=>qW rx fx r fs w (by simpa using hw)) ⟨.bl _,H,I,rfl,?_⟩;rw[show its.toArray.any (ie x)=its.any (ie x) by simp,oK r fs];exact q
 ·obtain⟨its,r,pl,hz⟩:=I.tuple hq;refine SeqAt.notIn_tupleAt (ie x) pl (λw hw=>qW rx fx r fs w (by simpa using hw)) ⟨.bl _,H,I,rfl,?_⟩;rw[show its.toArray.any (ie x)=its.any (ie x) by simp,oK r fs];exact q
theorem tM:CallR X (.builtin "len") (λxs H Q=>∃p ys,xs=[.ref p]/\(SqL X.K H p ys\/SqT X.K H p ys)/\Q (.int ys.length) H):=by
 intro pins s σ H xs us Q I r h;obtain⟨p,ys,rfl,hq,q⟩:=h;obtain⟨u,rfl,rx⟩:=jA r;cases rx;have hn:=mB;rcases hq with hq|hq
 ·obtain⟨its,r',pl,hz⟩:=I.list hq;have hlen:=r'.length;exact Calls.call_len_list pl.isList (by simp only[A3]<;>omega) ⟨.int ys.length,H,I.tok _,⟨s.toks+1,by rw[A3,hlen]⟩,q⟩
 ·obtain⟨its,r',pl,hz⟩:=I.tuple hq;have hlen:=r'.length;exact len_tuple pl (by simp only[A3]<;>omega) ⟨.int ys.length,H,I.tok _,⟨s.toks+1,by rw[A3,hlen]⟩,q⟩
theorem call_len_str:CallR X (.builtin "len") (λxs H Q=>∃z,xs=[.str z]/\z.length<=Ay/\Q (.int z.length) H):=by
 intro pins s σ H xs us Q I r h;obtain⟨z,rfl,hz,q⟩:=h;obtain⟨u,rfl,t,rfl⟩:=jA r;have hn:=mB;exact len_str ⋯ ⟨.int z.length,H,I.tok _,⟨_,rfl⟩,q⟩
theorem CallR.or(h:CallR X f r)(h':CallR X f r'):CallR X f (λxs H Q=>r xs H Q\/r' xs H Q):=by
 intro pins s σ H xs us Q I rs q;rcases q with q|q
 ·exact h pins s σ H xs us Q I rs q
 ·exact h' pins s σ H xs us Q I rs q
theorem NB:CallR X (.type "list") (λxs H Q=>∃p ys,xs=[.ref p]/\(SqL X.K H p ys\/SqT X.K H p ys)/\∀l,H l=ah->Q (.ref l) (upd H l (.lst ys))):=by
 intro pins s σ H xs us Q I r h;obtain⟨p,ys,rfl,hq,q⟩:=h;obtain⟨u,rfl,rx⟩:=jA r;cases rx;have fin:∀(its:List Ak),Vals ys its->ys.length<=Ay->∀(h':Heap)(c':Nat),(∀b o',s.heap.get? b=ae o'->h'.get? b=ae o')->
   h'.get? s.heap.objs.size=ae {cls:=.type "list",dict:=ah,data:=.seq its.toArray c',slots:=#[]}->EP X pins σ Q (.ref s.heap.objs.size) {s with heap:=h'}:=λits r' hz h' c' kp e=>
  ⟨.ref s.heap.objs.size,_,I.laid (t':=s.toks) kp (Al _) (show ObjOk X.prog X.w _ h' _ (.lst ys)from⟨hz,its,c',r',e⟩),rfl,q _ (I.hok.fresh (Al _))⟩
 rcases hq with hq|hq
 ·obtain⟨its,r',pl,hz⟩:=I.list hq;have hlen:=r'.length;obtain⟨o,ho,hc,n,hd⟩:=pl.isList;exact call_list_seq p (.inl rfl) ho hc hd (λh' c' kp e=>fin its r' hz h' c' kp e) (by simp only[A3]<;>omega)
 ·obtain⟨its,r',pl,hz⟩:=I.tuple hq;have hlen:=r'.length;obtain⟨o,ho,hc,n,hd⟩:=pl;exact call_list_seq p (.inr rfl) ho hc hd (λh' c' kp e=>fin its r' hz h' c' kp e) (by simp only[A3]<;>omega)
theorem VT:CallR X (.type "tuple") (λxs H Q=>∃p ys,xs=[.ref p]/\((SqL X.K H p ys/\∀l,H l=ah->Q (.ref l) (upd H l (.tup ys)))\/(SqT X.K H p ys/\Q (.ref p) H))):=by
 intro pins s σ H xs us Q I r h;obtain⟨p,ys,rfl,h⟩:=h;obtain⟨u,rfl,rx⟩:=jA r;cases rx;rcases h with⟨hq,q⟩|⟨hq,q⟩
 ·obtain⟨its,r',pl,hz⟩:=I.list hq;have hlen:=r'.length;refine call_tuple_list pl.isList (λh' kp=>?_) (by simp only[A3]<;>omega);have I1:Inv X pins σ H {s with heap:=h'}:=I.kept (t':=s.toks) kp;have I2:Inv X pins σ (upd H h'.objs.size (.tup ys)) {s with heap:=h'.push {cls:=.type "tuple",data:=.seq its.toArray}}:=
   I1.laid (t':=s.toks) (λb o e=>Ai _ e) (Al _) (show ObjOk X.prog X.w _ _ _ (.tup ys)from⟨hz,its,r',IsTupP.new _ _⟩)
  exact⟨.ref h'.objs.size,_,I2,rfl,q _ (I1.hok.fresh (Al _))⟩
 ·obtain⟨its,r',pl,hz⟩:=I.tuple hq;exact call_tuple_same pl ⟨.ref p,H,I,rfl,q⟩
def uB(K:Ag)(T:String)(x:V)(H:Hp):Prop:=match x with
 |.str _=>T="str"
 |.int _=>T="int"
 |.ref p=>(T="list"/\∃xs,SqL K H p xs)\/(T="tuple"/\∃o,K.lookup p=ae o/\o.cls=.type "tuple"/\o.dict=ah) \/
   (T="dict"/\((∃kvs,H p=ae (.dK kvs))\/∃kvs,H p=ae (.dT kvs)))\/(T="set"/\∃S n,H p=ae (.set S n))
 |_=>False
theorem GF{σ:St}(I:Inv X pins σ H s)(r:RelV x v)(ty:uB X.K T x H):
  s.TypeIs v T/\∀a,v=.ref a->∃ob,s.heap.get? a=ae ob/\ob.dict=ah:=by
 cases x with
 |str z=>
  obtain⟨t,rfl⟩:=r;cases(show T="str" from ty);exact⟨typeIs_str s z t,λ_ e=>nomatch e⟩
 |int i=>
  obtain⟨t,rfl⟩:=r;cases(show T="int" from ty);exact⟨typeIs_int s i t,λ_ e=>nomatch e⟩
 |ref p=>
  cases r;rcases ty with⟨rfl,xs,hq⟩|⟨rfl,o,hk,hc,hd⟩|⟨rfl,hk⟩|⟨rfl,S,n,hk⟩
  ·obtain⟨its,_,pl,_⟩:=I.list hq;refine⟨pl.isList.typeIs,λa e=>?_⟩;cases e;obtain⟨o,n,e,c,hd,_⟩:=pl;exact⟨o,e,hd⟩
  ·refine⟨⟨o,I.kIn p o hk,hc⟩,λa e=>?_⟩;cases e;exact⟨o,I.kIn _ o hk,hd⟩
  ·have z:∃o,s.heap.get? p=ae o/\o.ExactDict:=by
    rcases hk with⟨kvs,hk⟩|⟨kvs,hk⟩
    ·obtain⟨_,_,_,_,o,_,_,e,ex,_⟩:=I.hok p _ hk;exact⟨o,e,ex⟩
    ·obtain⟨_,_,_,_,o,_,_,e,ex,_⟩:=I.hok p _ hk;exact⟨o,e,ex⟩
   obtain⟨o,e,ex⟩:=z;refine⟨⟨o,e,ex.1⟩,λa e2=>?_⟩;cases e2;exact⟨o,e,ex.2.1⟩
  ·obtain⟨o,_,_,_,e,ex,_⟩:=I.hok p _ hk;refine⟨⟨o,e,ex.1⟩,λa e2=>?_⟩;cases e2;exact⟨o,e,ex.2.1⟩
 |_=>exact False.elim ty
def pF(K:Ag)(T:String)(r:V->List V->Hp->VK->Prop)(to:TE):TE:=λσ H Q=>to σ H λx H1=>uB K T x H1/\r x [] H1 Q
def rQ(K:Ag)(T:String)(r:V->List V->Hp->VK->Prop)(to:TE)(t:TA):TE:=λσ H Q=>to σ H λx H1=>uB K T x H1/\t σ H1 λxs H2=>r x xs H2 Q
variable{o e:Expr}{es:List Expr}{to:TE}{t:TA}{name:Str}{apos cpos:Pos}{T id:String}{r:V->List V->Hp->VK->Prop}
theorem Ta(pa:PlainAttrs T)(slot:Slot T name id)(hty:typeOf (.builtin id)=pure (.type "method_descriptor"))(hm:xt X id r)(ho:PE X o to)
  (hbase:attributeBase o name X.env (eval o X.env)=eval o X.env:=by rfl) (hline:(apos.endLine==cpos.line)=ai:=by rfl):PE X (.Call (.Attribute o name apos) [] [] cpos) (pF X.K T r to):=by
 intro pins s σ H Q I h;refine wpAny_Call_method0_late hbase hline (aY (ho pins s σ H _ I h) λv s1 ⟨x,H1,I1,r1,ty,q1⟩=>?_);obtain⟨h1,h2⟩:=GF I1 r1 ty;exact⟨T,id,pa,slot,hty,h1,h2,Calls.callWith_builtin rfl (PySem.evalArgs_none (hm pins s1 σ H1 x [] v [] Q I1 r1 .nil q1))⟩
theorem UE(pa:PlainAttrs T)(slot:Slot T name id)(hty:typeOf (.builtin id)=pure (.type "method_descriptor"))(hm:xt X id r)(ho:PE X o to)(ha:PA X (e::es) t)
  (hbase:attributeBase o name X.env (eval o X.env)=eval o X.env:=by rfl)
  (hfew:((Dj cpos (Az (e::es) X.env)).all (λx=>!x.1)&&(backToKw cpos (keywordEach [] X.env)).all (λx=>x.1.isSome)
   && decide ((e::es).length+([]:List Keyword).length+(if ([]:List Keyword).isEmpty then 0 else 1) < 30))=ai:=by rfl)
  (hline:(apos.endLine==cpos.line)=ai:=by rfl) (hs:Az (e::es) X.env=(aj,eval e X.env)::Az es X.env:=by rfl) (hplain:(Dj cpos (Az es X.env)).any (·.1)=aj:=by rfl):
  PE X (.Call (.Attribute o name apos) (e::es) [] cpos) (rQ X.K T r to t):=by
 intro pins s σ H Q I h;refine wpAny_Call_method_late hbase hfew hline rfl (aY (ho pins s σ H _ I h) λv s1 ⟨x,H1,I1,r1,ty,q1⟩=>?_);obtain⟨h1,h2⟩:=GF I1 r1 ty;refine⟨T,id,pa,slot,hty,h1,h2,?_⟩;have hA:=ha cpos pins s1 σ H1 _ I1 q1;rw[hs]at hA ⊢;refine Calls.callWith_builtin (by show(aj || (Dj cpos (Az es X.env)).any (·.1))=aj;rw[hplain]<;>rfl) (Calls.evalArgs_plain ?_);exact aY hA λus s2 ⟨vs,H2,I2,r2,q2⟩=>hm pins s2 σ H2 x vs v us Q I2 r1 r2 q2
end
def DR(X:Cx)(id:String)(r:V->List V->Hp->VK->Prop):Prop:=
 ∀(pins:List (Addr×Obj))(s:Ar)(σ:St)(H:Hp)(x:V)(xs:List V)(v:Ak)(us:List Ak)(Q:VK),Inv X pins σ H s->RelV x v->Vals xs us->r x xs H Q->
  A5 (Bi X.prog X.w) X.A (call (.builtin id) (v::us)) (EP X pins σ Q) X.xe s
theorem Vals.one:∀{x:V}{us:List Ak},Vals [x] us->∃u,us=[u]/\RelV x u
 |_,_,.cons r .nil=>⟨_,rfl,r⟩
theorem Vals.zero:∀{us:List Ak},Vals [] us->us=[]
 |_,.nil=>rfl
theorem Vals.reverse(h:Vals xs us):Vals xs.reverse us.reverse:=by
 induction h with
 |nil=>exact .nil
 |cons r t ih=>rw[List.reverse_cons,List.reverse_cons];exact Vals.append ih (.cons r .nil)
theorem Vals.rep(h:Vals xs us):∀k:Nat,Vals (Bj k xs).flatten (Bj k us).flatten
 |0=>.nil
 |k+1=>by
  rw[Dz,Dz,F9,F9];exact Vals.append h (Vals.rep h k)
theorem AR(its:List Ak):∀(k:Nat)(acc:List Ak),
  List.foldl (λx1 x2=>x1++x2) acc.toArray (Bj k its.toArray)=(acc++(Bj k its).flatten).toArray
 |0,acc=>by simp
 |k+1,acc=>by
  have e:acc.toArray++its.toArray=(acc++its).toArray:=by simp
  have e2:(acc++its)++(Bj k its).flatten=acc++(Bj (k+1) its).flatten:=by
   rw[Dz,F9,Bh]
  rw[<-e2,<-AR its k (acc++its),<-e,Dz,List.foldl_cons]
section
variable{X:Cx}{pins:List (Addr×Obj)}{σ:St}{H:Hp}{s:Ar}{l b:Addr}{xs ys zs:List V}
theorem Inv.lset{its its':List Ak}(I:Inv X pins σ H s)(hH:H l=ae (.lst xs))
  (e:s.heap.get? l=ae {cls:=.type "list",data:=.seq its.toArray n}) (hf:f its.toArray=its'.toArray) (hv:Vals ys its') (hz:ys.length<=Ay):
  Inv X pins σ (upd H l (.lst ys)) {s with heap:=s.heap.update l (Co f),toks:=t'}:=by
 have q:=PySem.IsL.update e f;rw[hf]at q;refine I.write (x:=l) (e:=l) (by rw[hH];exact trivial) (.inl rfl) (λb' u hb hu=>(D0 s.heap (Co f) (Ne.symm hb)).trans hu) ⟨_,q⟩ ?_;exact⟨hz,its',_,hv,q⟩
theorem Inv.lnew(I:Inv X pins σ H s)(hv:Vals ys its)(hz:ys.length<=Ay):
  Inv X pins σ (upd H s.heap.objs.size (.lst ys)) {s with heap:=s.heap.push {cls:=.type "list",data:=.seq its.toArray},toks:=t'}:=
 I.laid (λ_ _ q=>Ai _ q) (Al _) ⟨hz,its,0,hv,Bb _ rfl⟩
theorem Inv.fresh(I:Inv X pins σ H s):H s.heap.objs.size=ah:=I.hok.fresh (Al _)
theorem Inv.lstM(I:Inv X pins σ H s)(hH:H l=ae (.lst xs)):xs.length<=Ay/\∃(its:List Ak)(n:Nat),Vals xs its/\xs.length=its.length/\s.heap.get? l=ae {cls:=.type "list",data:=.seq its.toArray n}:=by
 obtain⟨z,its,n,r,e⟩:=I.hok l _ hH;exact⟨z,its,n,r,r.length,e⟩
theorem Hj(h:n<=Ay):E9 n=aj:=by
 unfold E9;exact decide_eq_false ⋯
end
section
variable{X:Cx}
def rW:V->List V->Hp->VK->Prop:=λx vs H Q=>∃l xs y,x=.ref l/\vs=[y]/\H l=ae (.lst xs)/\xs.length < Ay/\Q .non (upd H l (.lst (xs++[y])))
theorem wJ:DR X "list.append" rW:=by
 intro pins s σ H x vs v us Q I rx rv h;obtain⟨l,xs,y,rfl,rfl,hH,hz,q⟩:=h;cases rx;obtain⟨u,rfl,ru⟩:=rv.one;obtain⟨z,its,n,r,hl,e⟩:=I.lstM hH;refine call_meets F.slot_list_append ⟨_,e,rfl⟩ F.entry_list_append (F.args_list_append_2 _ _) (PySem.list_append l its.toArray n u (by rw[A3];omega)) ⟨e,?_⟩;refine⟨.non,_,I.lset (its':=its++[u]) hH e (by simp) (r.append (.cons ru .nil)) ?_,rfl,q⟩;rw[Af,Av];omega
def Pb:V->List V->Hp->VK->Prop:=λx vs H Q=>∃l b xs zs,x=.ref l/\vs=[.ref b]/\H l=ae (.lst xs)/\H b=ae (.lst zs)/\xs.length+zs.length<=Ay/\Q .non (upd H l (.lst (xs++zs)))
theorem VV:DR X "list.extend" Pb:=by
 intro pins s σ H x vs v us Q I rx rv h;obtain⟨l,b,xs,zs,rfl,rfl,hH,hB,hz,q⟩:=h;cases rx;obtain⟨u,rfl,ru⟩:=rv.one;cases ru;obtain⟨z,its,n,r,hl,e⟩:=I.lstM hH;obtain⟨z2,its2,n2,r2,hl2,e2⟩:=I.lstM hB;have hsz:its.toArray.size+its2.toArray.size<=Ay:=by rw[A3,A3];omega
 have hlong:¬(!its.toArray.isEmpty&&E9 (its.toArray.size+its2.toArray.size))=ai:=by
  rw[Hj hsz,Bool.and_false];exact Ae
 refine call_meets F.slot_list_extend ⟨_,e,rfl⟩ F.entry_list_extend (F.args_list_extend_2 _ _)
  (AutoSeq1.list_extend_list_list_0 l its.toArray n b its2.toArray n2 hlong (by rw[A3];omega) ⋯) ⟨e,e2,?_⟩
 refine⟨.non,_,I.lset (its':=its++its2) hH e (by simp) (r.append r2) ?_,rfl,q⟩;rw[Af];omega
def j4:R2:=λx y H Q=>∃l b xs zs,x=.ref l/\y=.ref b/\H l=ae (.lst xs)/\H b=ae (.lst zs)/\xs.length+zs.length<=Ay/\∀p,H p=ah->Q (.ref p) (upd H p (.lst (xs++zs)))
theorem GC:OpR X (Ei .Add) j4:=by
 intro pins s σ H x y v u Q I rx ry h;obtain⟨l,b,xs,zs,rfl,rfl,hH,hB,hz,q⟩:=h;cases rx;cases ry;obtain⟨z,its,n,r,hl,e⟩:=I.lstM hH;obtain⟨z2,its2,n2,r2,hl2,e2⟩:=I.lstM hB;refine PySem.P.add_list e e2 ?_ (by rw[A3,A3];omega);have ea:its.toArray++its2.toArray=(its++its2).toArray:=by simp
 rw[ea];exact⟨.ref _,_,I.lnew (t':=s.toks) (r.append r2) (by rw[Af];omega),rfl,q _ I.fresh⟩
def pQ:R2:=λx y H Q=>∃l k xs,x=.ref l/\y=.int k/\H l=ae (.lst xs)/\-(2 ^ 63)<=k/\k < 2 ^ 63/\xs.length*k.toNat<=Ay /\
 ∀p,H p=ah->Q (.ref p) (upd H p (.lst (Bj k.toNat xs).flatten))
theorem VL{α:Type}(xs:List α)(k):(Bj k xs).flatten.length=k*xs.length:=by
 induction k with
 |zero=>simp
 |succ k ih=>rw[Dz,F9,Af,ih,Nat.succ_mul,Nat.add_comm]
theorem OM:OpR X (Ei .Mult) pQ:=by
 intro pins s σ H x y v u Q I rx ry h;obtain⟨l,k,xs,rfl,rfl,hH,h1,h2,hz,q⟩:=h;cases rx;obtain⟨t,rfl⟩:=ry;obtain⟨z,its,n,r,hl,e⟩:=I.lstM hH;have hlen:its.toArray.size*k.toNat<=Ay:=by rw[A3,<-hl];exact hz
 have hcap:¬its.toArray.size*k.toNat > (2 ^ 63-1) / 8:=by
  have:(Ay:Nat)<=(2 ^ 63-1) / 8:=by decide
  omega
 have hfit:¬(!Builtin.List.listFitsIndex k)=ai:=by
  rw[fitsIndex_both h1 h2];exact Ae
 have hlong:¬E9 (its.toArray.size*k.toNat)=ai:=by
  rw[Hj hlen];exact Ae
 have hnew:List.foldl (λx1 x2=>x1++x2) #[] (Bj (if its.toArray.isEmpty=ai then 0 else k.toNat) its.toArray)=(Bj k.toNat its).flatten.toArray:=by
  have f0:∀m:Nat,List.foldl (λx1 x2=>x1++x2) #[] (Bj m its.toArray)=(Bj m its).flatten.toArray:=λm=>by
   have:=AR its m [];rw[Bx]at this;exact this
  rw[f0];cases its with
  |nil=>simp
  |cons a r'=>rw[if_neg (by simp)]
 refine wpAny_binaryOp_repeat_ref (T:="list") (U:="int") ∎ ⟨_,e,rfl⟩ (λs'=>typeIs_int s' k t) noFill_list_mul F.fills_int_mul F.slot_int_rmul repeat_list F.slot_int_index.lookup
  (call_meets F.slot_int_rmul (typeIs_int s k t) F.entry_int_rmul (F.args_int_rmul_2 _ _) (int___rmul___int_list k t l its.toArray n)
   ⟨e,rfl,⟨_,e,rfl⟩,call_meets F.slot_list_mul ⟨_,e,rfl⟩ F.entry_list_mul (F.args_list_mul_2 _ _) (AutoListH.list___mul___list_int_3 l its.toArray n k t hfit hcap hlong) ⟨e,?_⟩⟩)
 rw[hnew];exact⟨.ref _,_,I.lnew (t':=s.toks) (r.rep k.toNat) (by rw[VL,Nat.mul_comm];exact hz),rfl,q _ I.fresh⟩
end
section
variable{κ:Type}[DecidableEq κ]
def cK(kvs:List (κ×V))(k:κ):Option V:=(kvs.find? λkv=>decide (kv.1=k)).map (·.2)
def cD(kvs:List (κ×V))(k:κ)(v:V):List (κ×V):=
 if (kvs.any λkv=>decide (kv.1=k))=ai then kvs.map (λkv=>if kv.1=k then(kv.1,v)else kv)else kvs++[(k,v)]
theorem vU{p:κ×V}(e:p.1=k):cK (p::r) k=ae p.2:=by simp[cK,Br,e]
theorem xV{p:κ×V}(e:¬p.1=k):cK (p::r) k=cK r k:=by simp[cK,Br,e]
theorem FL(k):∀kvs:List (κ×V),(kvs.any λkv=>decide (kv.1=k))=(cK kvs k).isSome
 |[]=>rfl
 |p::r=>by
  rw[Dc];by_cases e:p.1=k
  ·simp only[vU e,decide_eq_true e,Bool.true_or,Option.isSome_some]
  ·rw[xV e,decide_eq_false e,Bool.false_or];exact FL k r
theorem sP(kvs:List (κ×V))(k)(v):(cD kvs k v).length<=kvs.length+1:=by
 unfold cD
 split
 ·rw[Ab];omega
 ·rw[Af,Ap,Gs];omega
theorem RelO.isSome_eq(r:RelO o u):o.isSome=u.isSome:=by
 cases o with
 |none=>cases u with
  |none=>rfl
  |some _=>exact(show False from r).elim
 |some _=>cases u with
  |none=>exact(show False from r).elim
  |some _=>rfl
theorem KV.val(r:KV kvs vs)(k:κ):RelO (cK kvs k) (valueAt vs k):=by
 unfold KV at r
 induction r with
 |nil=>exact Dy
 |@cons p q ps qs h t ih=>
  obtain⟨h1,h2⟩:=h;by_cases e:p.1=k
  ·have e':q.1=k:=h1.symm.trans e;have b:valueAt (q::qs) k=ae q.2:=by simp[valueAt,Br,e']
   rw[vU e,b];exact h2
  ·have e':¬q.1=k:=λz=>e (h1.trans z);have b:valueAt (q::qs) k=valueAt qs k:=by simp[valueAt,Br,e']
   rw[xV e,b];exact ih
theorem KV.any(r:KV kvs vs)(k:κ):(kvs.any λkv=>decide (kv.1=k))=vs.any λkv=>decide (kv.1=k):=by
 unfold KV at r
 induction r with
 |nil=>rfl
 |cons h t ih=>rw[Dc,Dc,ih,h.1]
theorem KV.repl(r:KV kvs vs)(k:κ)(ry:RelV y u):
  KV (kvs.map λkv=>if kv.1=k then(kv.1,y)else kv) (vs.map λkv=>if kv.1=k then(kv.1,u)else kv):=by
 unfold KV at r ⊢
 induction r with
 |nil=>exact .nil
 |@cons p q ps qs h t ih=>
  rw[Ba,Ba];refine .cons ?_ ih;obtain⟨h1,h2⟩:=h;by_cases e:p.1=k
  ·rw[if_pos e,if_pos (h1.symm.trans e)];exact⟨h1,ry⟩
  ·rw[if_neg e,if_neg (λz=>e (h1.trans z))];exact⟨h1,h2⟩
theorem KV.put(r:KV kvs vs)(k:κ)(ry:RelV y u):KV (cD kvs k y) (stored vs k u):=by
 unfold cD stored;rw[r.any k];by_cases e:(vs.any λkv=>decide (kv.1=k))=ai
 ·rw[if_pos e,if_pos e];exact r.repl k ry
 ·rw[if_neg e,if_neg e];exact Paired.snoc r ⟨rfl,ry⟩
theorem KV.length{vs:List (κ×Ak)}(r:KV kvs vs):kvs.length=vs.length:=Paired.length r
end
theorem nN(r:RelV (kV k) u):(gf P w).is k u=ai:=by
 cases k with
 |inl i=>obtain⟨t,e⟩:=(show ∃t,u=Value.int i t from r);subst e;exact NA P w i t
 |inr x=>obtain⟨t,e⟩:=(show ∃t,u=Ge x t from r);subst e;exact MH P w x t
theorem Hb:∀{ks:List aO}{us:List Ak},Vals (ks.map kV) us->ItemsAre (gf P w) ks us
 |[],_,r=>by rw[F7]at r;cases r;exact .nil
 |k::ks,_,r=>by
  rw[Ba]at r;cases r with
  |cons h t=>exact .cons (nN h) (Hb t)
abbrev KT(H:Hp):List (List aO×V)->List (List aO×Addr×Ak)->Prop:=Paired λp q=>p.1=q.1/\H q.2.1=ae (.tup (p.1.map kV))/\RelV p.2 q.2.2
theorem KT.val(r:KT H kvs xs)(k):RelO (cK kvs k) ((atKey xs k).map (·.2)):=by
 induction r with
 |nil=>exact Dy
 |@cons p q ps qs h t ih=>
  obtain⟨h1,_,h2⟩:=h;by_cases e:p.1=k
  ·have e':q.1=k:=h1.symm.trans e;have b:atKey (q::qs) k=ae q.2:=by simp[atKey,Br,e']
   rw[vU e,b];exact h2
  ·have e':¬q.1=k:=λz=>e (h1.trans z);have b:atKey (q::qs) k=atKey qs k:=by simp[atKey,Br,e']
   rw[xV e,b];exact ih
theorem KT.repl(r:KT H kvs xs)(k)(ry:RelV y u):
  KT H (kvs.map λkv=>if kv.1=k then(kv.1,y)else kv) (xs.map (putAt k u)):=by
 induction r with
 |nil=>exact .nil
 |@cons p q ps qs h t ih=>
  rw[Ba,Ba];refine .cons ?_ ih;obtain⟨h1,h2,h3⟩:=h;unfold putAt;by_cases e:p.1=k
  ·rw[if_pos e,if_pos (h1.symm.trans e)];exact⟨h1,h2,ry⟩
  ·rw[if_neg e,if_neg (λz=>e (h1.trans z))];exact⟨h1,h2,h3⟩
theorem KT.put(r:KT H kvs xs)(k:List aO)(hb:H b=ae (.tup (k.map kV)))(ry:RelV y u):
  KT H (cD kvs k y) (storedH xs k b u):=by
 have e:(kvs.any λkv=>decide (kv.1=k))=(atKey xs k).isSome:=by
  rw[FL,(r.val k).isSome_eq,F5]
 unfold cD storedH;rw[e];by_cases q:(atKey xs k).isSome=ai
 ·rw[if_pos q,if_pos q];exact r.repl k ry
 ·rw[if_neg q,if_neg q];exact Paired.snoc r ⟨rfl,hb,ry⟩
theorem KT.keeps(r:KT H kvs xs)(ht:∀b ys,H b=ae (.tup ys)->H' b=ae (.tup ys)):KT H' kvs xs:=
 Paired.mapP r λ_ _ z=>⟨z.1,ht _ _ z.2.1,z.2.2⟩
section
variable{P:Bp}{w:B7}{H:Hp}{h:Heap}{a:Addr}
theorem EY(ok:HOk P w H h)(e:Rd H a u):ObjOk P w H h a u:=e.ok ok
theorem oR(ok:HOk P w H h)(e:Rd H a (.dK kvs)):kvs.length<=Ay/\(a==En)=aj/\∃vs,KV kvs vs/\h.DictOf (gf P w) a vs:=
 show ObjOk P w H h a (.dK kvs)from EY ok e
theorem DB(ok:HOk P w H h)(e:H a=ae (.dK kvs)):kvs.length<=Ay/\(a==En)=aj/\∃vs,KV kvs vs/\h.DictOf (gf P w) a vs:=oR ok (.inl e)
theorem oN(ok:HOk P w H h)(e:H a=ae (.tup (ks.map kV))):(tupleKind (gf P w)).is h ks a:=by
 obtain⟨_,its,r,o,h1,h2,⟨n,h3⟩,_⟩:=(show ObjOk P w H h a (.tup (ks.map kV))from ok a _ e);exact⟨o,its.toArray,n,h1,h2,h3,by simpa using Hb r⟩
theorem pK(ok:HOk P w H h)(e:Rd H a (.dT kvs)):kvs.length<=Ay/\(a==En)=aj /\
  ∃xs,KT H kvs xs/\h.DictOfH (tupleKind (gf P w)) a xs:=by
 obtain⟨z,y,xs,r,o,es,ep,h1,h2,h3,h4,h5⟩:=(show ObjOk P w H h a (.dT kvs)from EY ok e);refine⟨z,y,xs,r,o,es,ep,h1,h2,h3,h4,λx hx=>?_,h5⟩;have all:∀{l:List (List aO×V)}{m:List (List aO×Addr×Ak)},KT H l m->∀x∈m,(tupleKind (gf P w)).is h x.1 x.2.1:=by
  intro l m q
  induction q with
  |nil=>intro x hx;exact nomatch hx
  |@cons p q ps qs hq t ih=>
   intro x hx;rcases Aq.mp hx with e|hx
   ·subst e;exact oN ok (by rw[<-hq.1];exact hq.2.1)
   ·exact ih x hx
 exact all r x hx
theorem Kz(ok:HOk P w H h)(e:H a=ae (.dT kvs)):kvs.length<=Ay/\(a==En)=aj /\
  ∃xs,KT H kvs xs/\h.DictOfH (tupleKind (gf P w)) a xs:=pK ok (.inl e)
end
def DGet(H:Hp)(a:Addr)(y:V)(r:Option V):Prop:=
 (∃kvs k,Rd H a (.dK kvs)/\y=kV k/\r=cK kvs k)\/∃kvs k b,Rd H a (.dT kvs)/\y=.ref b/\H b=ae (.tup (k.map kV))/\r=cK kvs k
def DPut(H:Hp)(a:Addr)(y v:V)(H':Hp):Prop:=
 (∃kvs k,H a=ae (.dK kvs)/\y=kV k/\kvs.length < Ay/\H'=upd H a (.dK (cD kvs k v))) \/
 ∃kvs k b,H a=ae (.dT kvs)/\y=.ref b/\H b=ae (.tup (k.map kV))/\kvs.length < Ay/\H'=upd H a (.dT (cD kvs k v))
theorem DGet.t(e:H a=ae (.dT kvs))(eb:H b=ae (.tup (k.map kV))):DGet H a (.ref b) (cK kvs k):=.inr ⟨kvs,k,b,.inl e,rfl,eb,rfl⟩
theorem DPut.k{k:aO}(e:H a=ae (.dK kvs))(hl:kvs.length < Ay):DPut H a (kV k) v (upd H a (.dK (cD kvs k v))):=.inl ⟨kvs,k,e,rfl,hl,rfl⟩
theorem DPut.t{k:List aO}(e:H a=ae (.dT kvs))(eb:H b=ae (.tup (k.map kV)))(hl:kvs.length < Ay):
  DPut H a (.ref b) v (upd H a (.dT (cD kvs k v))):=.inr ⟨kvs,k,b,e,rfl,eb,hl,rfl⟩
section
variable{X:Cx}{pins:List (Addr×Obj)}{σ:St}{H:Hp}{s:Ar}{a:Addr}{y v:V}{u r:Ak}{o:Option V}{A:Ck}{E:Ak->Ar->Prop}
theorem Inv.big(I:Inv X pins σ H s):En < s.heap.objs.size:=by
 have h:Du < s.heap.objs.size:=(I.mod.glob.keeps I.bk).lt;exact Nat.lt_trans ∎ h
theorem K0(hu:A.units+1 < Fu)(I:Inv X pins σ H s)(g:DGet H a y (ae v))(ry:RelV y u)(h:∀w' s',Inv X pins σ H s'->RelV v w'->Q w' s'):
  A5 (Bi X.prog X.w) A (getItem (.ref a) u) Q E s:=by
 rcases g with⟨kvs,k,e,ey,l⟩|⟨kvs,k,b,e,ey,eb,l⟩
 ·subst ey;obtain⟨z,hd,vs,rel,dd⟩:=oR I.hok e;obtain⟨w',hw,rw'⟩:=RelO.some_of (v:=v) (o:=valueAt vs k) (by rw[l];exact rel.val k);exact wpAny_getItem_of (nN ry) dd.mapOf hw (h w' _ (I.tok _) rw')
 ·subst ey;cases(show u=A6 b from ry);obtain⟨z,hd,xs,rel,dd⟩:=pK I.hok e;obtain⟨w',hw,rw'⟩:=RelO.some_of (v:=v) (o:=(atKey xs k).map (·.2)) (by rw[l];exact rel.val k);obtain⟨p,hp,hp2⟩:=Option.map_eq_some_iff.mp hw;refine wpAny_getItem_heap (G8 hu) (oN I.hok eb) dd hp ?_;rw[hp2];exact h w' _ (I.tok _) rw'
theorem yU(hu:A.units+1 < Fu)(I:Inv X pins σ H s)(g:DGet H a y o)(ry:RelV y u)(h:∀s',Inv X pins σ H s'->Q (.bool o.isSome) s'):
  A5 (Bi X.prog X.w) A (By .In u (.ref a)) Q E s:=by
 rcases g with⟨kvs,k,e,ey,l⟩|⟨kvs,k,b,e,ey,eb,l⟩
 ·subst ey;obtain⟨z,hd,vs,rel,dd⟩:=oR I.hok e;refine wpAny_in_of (nN ry) hd dd.mapOf ?_;rw[<-(rel.val k).isSome_eq,<-l];exact h _ (I.tok _)
 ·subst ey;cases(show u=A6 b from ry);obtain⟨z,hd,xs,rel,dd⟩:=pK I.hok e;refine wpAny_in_heap (G8 hu) (oN I.hok eb) hd dd ?_;have q:=(rel.val k).isSome_eq;rw[F5]at q;rw[<-q,<-l];exact h _ (I.tok _)
theorem Mk(hu:A.units+1 < Fu)(I:Inv X pins σ H s)(g:DGet H a y o)(ry:RelV y u)(h:∀s',Inv X pins σ H s'->Q (.bool (!o.isSome)) s'):
  A5 (Bi X.prog X.w) A (By .NotIn u (.ref a)) Q E s:=by
 rcases g with⟨kvs,k,e,ey,l⟩|⟨kvs,k,b,e,ey,eb,l⟩
 ·subst ey;obtain⟨z,hd,vs,rel,dd⟩:=oR I.hok e;refine wpAny_notIn_of (nN ry) hd dd.mapOf ?_;rw[<-(rel.val k).isSome_eq,<-l];exact h _ (I.tok _)
 ·subst ey;cases(show u=A6 b from ry);obtain⟨z,hd,xs,rel,dd⟩:=pK I.hok e;refine wpAny_notIn_heap (G8 hu) (oN I.hok eb) hd dd ?_;have q:=(rel.val k).isSome_eq;rw[F5]at q;rw[<-q,<-l];exact h _ (I.tok _)
theorem wZ(I:Inv X pins σ H s)(mu:qU (H a))(hs:D1 a s.heap h')(he:∃q,h'.get? a=ae q)(new:ObjOk X.prog X.w (upd H a ob) h' a ob):
  Inv X pins σ (upd H a ob) {s with heap:=h',toks:=t'}:=
 I.write (x:=a) (e:=a) mu (.inl rfl) (λb q hb z=>(hs.2 b hb).trans z) he new
theorem HY(z:kvs.length<=Ay)(hd:(a==En)=aj)(rel:KV kvs vs)(dd:h'.DictOf (gf P w) a vs):
  ObjOk P w H' h' a (.dK kvs):=⟨z,hd,vs,rel,dd⟩
theorem U5(hu:A.units+1 < Fu)(I:Inv X pins σ H s)(g:DPut H a y v H')(ry:RelV y u)(rv:RelV v r)(h:∀s',Inv X pins σ H' s'->Q () s'):
  A5 (Bi X.prog X.w) A (setItem (.ref a) u r) Q E s:=by
 rcases g with⟨kvs,k,e,ey,l,eH⟩|⟨kvs,k,b,e,ey,eb,l,eH⟩
 ·subst ey eH;obtain⟨z,hd,vs,rel,dd⟩:=DB I.hok e;have hz:vs.length<=Ay:=by rw[<-rel.length];exact z
  have hl:(cD kvs k v).length<=Ay:=by have:=sP kvs k v;omega
  refine wpAny_setItem_pairs (hsz:=hz) (nN ry) dd λh' dd' hs=>h _ ?_;have he:∃q,h'.get? a=ae q:=let⟨q,_,_,hq,_⟩:=dd';⟨q,hq⟩;exact wZ I (by rw[e];exact Dy) hs he (HY hl hd (rel.put k rv) dd')
 ·subst ey eH;cases(show u=A6 b from ry);obtain⟨z,hd,xs,rel,dd⟩:=Kz I.hok e;have hz:xs.length<=Ay:=by rw[<-Paired.length rel];exact z
  have hl:(cD kvs k v).length<=Ay:=by have:=sP kvs k v;omega
  refine wpAny_setItem_heap (hsz:=hz) (G8 hu) (oN I.hok eb) dd λh' dd' hs=>h _ ?_;obtain⟨q,es,ep,hq,h2,h3,h4,_,h5⟩:=dd';refine wZ I (by rw[e];exact Dy) hs ⟨q,hq⟩ ⟨hl,hd,_,(rel.put k eb rv).keeps λc ys ec=>?_,q,es,ep,hq,h2,h3,h4,h5⟩;rw[aW (JG ec e (λz=>nomatch z))];exact ec
end
def mh(i:Expr):Prop:=∀ov iv,subscripted i aj ov iv=operate [ov,iv] (getItem ov iv)
theorem PZ{T id:String}{Q:Ak->Ar->Prop}
  (hl:typeLookup (.type T) "__getitem__"=pure (ae (.builtin id))) (hs:mh slice)
  (h:A5 (Bi prog w) A (eval value env) (λo s₁=>A5 (Bi prog w) A (eval slice env) (λi s₂=>s₂.TypeIs o T/\A5 (Bi prog w) A (getItem o i) Q E s₂) E s₁) E s):
  A5 (Bi prog w) A (eval (.Subscript value slice pos) env) Q E s:=by
 refine Subscript_ (Dr h (λo s₁ h₁=>Dr h₁ (λi s₂ h₂=>?_) λ_ _ x=>x) λ_ _ x=>x);obtain⟨hT,h₂⟩:=h₂;unfold subscriptTail;refine Ad ?_;rw[getitemInPython_of_ne hT.not_modules];refine Ad (wpAny_specialOf hT hl ?_);have fin:A5 (Bi prog w) A (subscripted slice aj o i) (λr s₃=>A5 (Bi prog w) A (letTemporaryGo value o r>>=λ_=>pure r) Q E s₃) E s₂:=by
  rw[hs o i];exact wpAny_operating (Dr h₂ (λr s₃ h₃=>Ad (wpAny_letTemporaryGo (Aw h₃))) λ_ _ x=>x)
 first
  |exact Aw (Ad fin)
  |exact Ad (Aw (Ad fin))
  |exact Ad fin
theorem Q5{σ:St}(I:Inv X pins σ H s)(g:DGet H a y o):s.TypeIs (.ref a) "dict":=by
 rcases g with⟨kvs,k,e,_,_⟩|⟨kvs,k,b,e,_,_,_⟩
 ·obtain⟨_,_,vs,_,dd⟩:=oR I.hok e;exact dd.typeIs
 ·obtain⟨_,_,xs,_,dd⟩:=pK I.hok e;exact dd.typeIs
def GN(td ty:TE):TE:=λσ H Q=>td σ H λx H1=>ty σ H1 λy H2=>∃a v,x=.ref a/\DGet H2 a y (ae v)/\Q v H2
def mD(ty td:TE):TE:=λσ H Q=>ty σ H λy H1=>td σ H1 λx H2=>∃a o,x=.ref a/\DGet H2 a y o/\Q (.bl o.isSome) H2
def nK(ty td:TE):TE:=λσ H Q=>ty σ H λy H1=>td σ H1 λx H2=>∃a o,x=.ref a/\DGet H2 a y o/\Q (.bl (!o.isSome)) H2
def vg(td ty tv:TE):TS:=λD σ H=>tv σ H λv H1=>td σ H1 λx H2=>ty σ H2 λy H3=>∃a H4,x=.ref a/\DPut H3 a y v H4/\D.nx σ H4
section
variable{X:Cx}{o i e value:Expr}{pos pos' tpos:Pos}{td ty tv:TE}
theorem Oy(hu:X.A.units+1 < Fu)(ho:PE X o td)(hi:PE X i ty)(hs:mh i):PE X (.Subscript o i pos) (GN td ty):=by
 intro pins s σ H Q I h;refine PZ PySem.F.slot_dict_getitem.lookup hs (aY (ho pins s σ H _ I h) λu s1 ⟨x,H1,I1,rx,q1⟩=>aY (hi pins s1 σ H1 _ I1 q1) λiv s2 ⟨y,H2,I2,ry,a,v,ex,g,q2⟩=>?_);subst ex;obtain rfl:u=A6 a:=rx;exact⟨Q5 I2 g,K0 hu I2 g ry λw' s3 I3 rw'=>⟨v,H2,I3,rw',q2⟩⟩
theorem Qb(hu:X.A.units+1 < Fu)(hi:PE X i ty)(ho:PE X o td):PC X .In i o (mD ty td):=by
 intro pins s σ H Q I h;refine aY (hi pins s σ H _ I h) λiv s1 ⟨y,H1,I1,ry,q1⟩=>aY (ho pins s1 σ H1 _ I1 q1) λu s2 ⟨x,H2,I2,rx,a,ov,ex,g,q2⟩=>?_;subst ex;obtain rfl:u=A6 a:=rx;exact yU hu I2 g ry λs3 I3=>⟨.bl ov.isSome,H2,I3,rfl,q2⟩
theorem uC(hu:X.A.units+1 < Fu)(hi:PE X i ty)(ho:PE X o td):PC X .NotIn i o (nK ty td):=by
 intro pins s σ H Q I h;refine aY (hi pins s σ H _ I h) λiv s1 ⟨y,H1,I1,ry,q1⟩=>aY (ho pins s1 σ H1 _ I1 q1) λu s2 ⟨x,H2,I2,rx,a,ov,ex,g,q2⟩=>?_;subst ex;obtain rfl:u=A6 a:=rx;exact Mk hu I2 g ry λs3 I3=>⟨.bl (!ov.isSome),H2,I3,rfl,q2⟩
theorem Ji(hu:X.A.units+1 < Fu)(ho:PE X o td)(hi:PE X i ty)(hv:PE X value tv)(hs:Ed value (ae (.Subscript o i pos')) pos.line X.env=pure aj):
  PS X (.Assign [.Subscript o i pos'] value pos) (vg td ty tv):=by
 intro pins s σ H D I h;refine wpAny_Assign_Subscript (aY (hv pins s σ H _ I h) λr s1 ⟨v,H1,I1,rv,q1⟩=>aY (ho pins s1 σ H1 _ I1 q1) λu s2 ⟨x,H2,I2,rx,q2⟩=>aY (hi pins s2 σ H2 _ I2 q2) λiv s3 ⟨y,H3,I3,ry,a,H4,ex,g,q3⟩=>?_) hs;subst ex;obtain rfl:u=A6 a:=rx;exact U5 hu I3 g ry rv λs4 I4=>⟨σ,H4,I4,q3⟩
end
theorem zw(h:Heap)(hb:En < h.objs.size):ObjOk P w H (h.push {cls:=.type "dict",data:=.dict #[]}) h.objs.size (.dK []):=
 ⟨Bo _,beq_eq_false_iff_ne.mpr (Ne.symm (Bq hb)),[],.nil,Heap.DictOf.new h⟩
theorem N7(h:Heap)(hb:En < h.objs.size):ObjOk P w H (h.push {cls:=.type "dict",data:=.dict #[]}) h.objs.size (.dT []):=
 ⟨Bo _,beq_eq_false_iff_ne.mpr (Ne.symm (Bq hb)),[],.nil,_,#[],0,Bb _ rfl,⟨rfl,rfl,rfl⟩,rfl,rfl,List.nodup_nil⟩
def IV:TE:=λ_ H Q=>∀p,H p=ah->Q (.ref p) (upd H p (.dK []))
def JB:TE:=λ_ H Q=>∀p,H p=ah->Q (.ref p) (upd H p (.dT []))
section
variable{X:Cx}{pos:Pos}
theorem Rj:PE X (.Dict [] [] pos) IV:=λpins s σ H Q I h=>
 wpAny_Dict_empty ⟨.ref s.heap.objs.size,_,I.laid (a:=s.heap.objs.size) (o:=.dK []) (t':=s.toks) (λ_ _ q=>Ai _ q) (Al _) (zw s.heap I.big),rfl,h _ (I.hok.fresh (Al _))⟩
theorem PX:PE X (.Dict [] [] pos) JB:=λpins s σ H Q I h=>
 wpAny_Dict_empty ⟨.ref s.heap.objs.size,_,I.laid (a:=s.heap.objs.size) (o:=.dT []) (t':=s.toks) (λ_ _ q=>Ai _ q) (Al _) (N7 s.heap I.big),rfl,h _ (I.hok.fresh (Al _))⟩
end
def mO(kvs more:List (aO×V)):List (aO×V):=more.foldl (λacc kv=>cD acc kv.1 kv.2) kvs
end L2
namespace Att
open PySem PySem.W PySem.Calls PyProof.Rows
theorem QH:∀(ns:List Int)(vs:List Ak),WellAll P h vs (ns.map WData.int)->IntsAre vs ns:=by
 intro ns
 induction ns with
 |nil=>
  intro vs w;rw[F7]at w;cases w;exact .nil
 |cons n ns ih=>
  intro vs w;rw[Ba]at w;cases w with
  |cons a b=>
   cases a;exact .cons _ _ (ih _ b)
theorem Us{l:OpenLaw}(hn:l.most=ae n)
  (hpre:l.row.toRowW.claim.pre args=ai) (hwl:WellAll P h vals args):
  ∃a vs ns,vals=[A6 a]/\args=[WData.list (ns.map WData.int)]/\h.get? a=ae {cls:=.type "list",data:=.seq vs.toArray}/\IntsAre vs ns/\ns.length<=n:=by
 have hsh:WShape.hasAll [] args [.list .int]=ai:=(pre_splitW hpre).1;have hc:l.pre.holds [] {args:=args}=ai:=(pre_splitW hpre).2;obtain⟨d,r,rfl,h1,h2⟩:=hasAllW_cons hsh;obtain rfl:=hasAllW_nil h2;obtain⟨xs,rfl,h3⟩:=hasW_list h1;obtain⟨ns,rfl⟩:=items_int h3;have hlen:ns.length<=n:=by
  unfold OpenLaw.pre at hc;have h4:(WTm.not (.lt (.lit (.int (n:Int))) (.len (.arg 0)))).holds [] {args:=[.list (ns.map .int)]}=ai:=by
   have h4:=(holds_andW hc).1;rw[hn]at h4;exact h4
  have h5:=condW_of h4 (w_not (w_lt w_lit (w_len_list (w_arg rfl))));rw[Ab]at h5;refine Nat.le_of_not_lt λq=>?_;have q':(n:Int) < ((ns.length:Nat):Int):=by omega
  first
   | (rw[decide_eq_true q']at h5;exact absurd h5 ∎)
   | (simp at h5;omega)
 cases hwl with
 |cons w1 w2=>
  cases w2;cases w1 with
  |list ho hall=>exact⟨_,_,ns,rfl,rfl,ho,QH ns _ hall,hlen⟩
theorem Pd(l:OpenLaw)(args):l.row.toRowW.claim.post args (.bool ai) args=ai:=
 postW_of (r:=l.row.toRowW) (X:=(ai==ai))
  (show WShape.has [] (.bool ai) .bool=ai by first|rfl|decide|simp[WShape.has,WShape.arms,WShape.armsAll])
  (show(WTm.eq .res (.lit (.bool ai))).value [] {args:=args,res:=ae (.bool ai),after:=args}=ae (.bool (ai==ai))from w_eq_bool (w_res rfl) w_lit) rfl
theorem attach_call{l:OpenLaw}
  (hn:l.most=ae n) (hdf:d.params.defaults=[])
  (call:∀(w:B7)(s₀ s₁:Ar)(mg mb:Str->Option Ak)(fa:Addr)(o:Obj)(pm cd doc:Ak)(a:Addr)(vs:List Ak)(ns:List Int),
   Ground q loose [] XP w s₀ mg mb s₁.heap->YP w s₁.heap->
   s₁.heap.get? fa=ae o->o.data=.func (docDef d.name d.params d.body d.scope pm cd doc)->s₁.heap.CodeRec cd d.name->mg d.name=ae (.ref fa)->
   s₁.heap.get? a=ae {cls:=.type "list",data:=.seq vs.toArray}->IntsAre vs ns->ns.length<=n->s₁.gens=#[]->
   Gi (Bi l.prog w) callerA (.call (.ref fa) ⟨[.ref a],[]⟩) (λr s'=>r=.ok (.ret (.bool ai))/\OldK s₁.heap s'.heap/\s'.os=s₁.os/\AllBare s'.gens) s₁):
  WalkO q loose XP YP l.row.toRowW d [] (λf vs=>PySem.call f vs):=by
 intro w s₀ s₁ mg mb G Y fa o pm cd doc dV kV ho hd hcd hD hmg hg args vals as hpre hlay hrd hwl hlo;obtain rfl:dV=.none:=Dflts.none hD hdf;obtain rfl:kV=.none:=Dflts.noKw hD;obtain⟨a,vs,ns,rfl,rfl,hobj,hints,hlen⟩:=Us hn hpre hwl;refine enter_call (codeAny_mono (call w s₀ s₁ mg mb fa o pm cd doc a vs ns G Y ho (fd_plain hd) hcd hmg hobj hints hlen hg) λr s' hq=>?_);obtain⟨rfl,h2,h3,h4⟩:=hq;exact⟨.inl ⟨.bool ai,.bool ai,[],rfl,λ_=>rfl,.bool ai,Pd l _,λ_=>⟨List.Pairwise.nil,λ_ hm=>(nomatch hm)⟩⟩,h2,h3,h4⟩
end Att
namespace L2
open PySem PySem.Spec PyProof.Rows
theorem Jz:∀{vs:List Ak}{ns:List Int},IntsAre vs ns->Vals (ns.map V.int) vs
 |_,_,.nil=>.nil
 |_,_,.cons n t h=>.cons ⟨t,rfl⟩ (Jz h)
def mn(H:Hp):Prop:=∀b,H b=ah\/∃o xs,H b=ae (.frz o (.lst xs))
theorem Th{K:Ag}
  (KX:K.In s₁.heap) (hns:s₁.heap.Ns Du mg) (hb:s₁.heap.Ns builtinsNs mb) (hbb:∀x:Str,x≠"__name__"->mb x=B3 x) (hlim:s₁.heap.NoLimit) (hg:s₁.gens=#[])
  (ha:s₁.heap.get? a=ae {cls:=.type "list",data:=.seq vs.toArray}) (hi:IntsAre vs ns) (hl:ns.length<=Ay) (hr:Room k callerA)
  (F:∀base:Heap,K.In base->base.Ns Du mg->FnOk P w K mg base CX k fa fd [x] sp) (hbind:∀(s:Ar)(u:Ak),BindsTo s fd ⟨[u],[]⟩ [(x,u)])
  (hsp:∀H:Hp,mn H->SqL K H a (ns.map V.int)->sp [.ref a] H (λv _=>v=.bl ai) λ_ _ _=>False)
  (hCX:∀H e s',CX [] H s₁ (λ_ _ _=>False) e s'->False):
  Gi (Bi P w) callerA (.call (.ref fa) ⟨[.ref a],[]⟩) (λr s'=>r=.ok (.ret (.bool ai))/\OldK s₁.heap s'.heap/\s'.os=s₁.os/\AllBare s'.gens) s₁:=by
 have rv:=Jz hi;have lenV:=hi.length
 have core:∀H:Hp,mn H->SqL K H a (ns.map V.int)->HOk P w H s₁.heap->(∀b,H b≠ah->b=a)->(H a≠ah->K.lookup a=ah)->
   Gi (Bi P w) callerA (.call (.ref fa) ⟨[.ref a],[]⟩) (λr s'=>r=.ok (.ret (.bool ai))/\OldK s₁.heap s'.heap/\s'.os=s₁.os/\AllBare s'.gens) s₁:=by
  intro H hO hS hok hA hK;have base_of:∀{b:Addr}{o:Obj},s₁.heap.get? b=ae o->H b=ah->(fZ s₁.heap H).get? b=ae o:=λe n=>Vl e n;have noA:∀{b:Addr}{o:Obj}{es:Array DictEntry}{ep:Nat},s₁.heap.get? b=ae o->o.data=.dict es ep->H b=ah:=λ{b o es ep} e d=>by
   cases q:H b with
   |none=>rfl
   |some u=>
    have e':b=a:=hA b (by rw[q];simp);subst e';rw[ha]at e;cases e;have d':Data.seq vs.toArray _=Data.dict es ep:=d;cases d'
  have nsK:∀{b:Addr}{m:Str->Option Ak},s₁.heap.Ns b m->(fZ s₁.heap H).Ns b m:=λ{b m} ⟨o,es,ep,e,d,r⟩=>⟨o,es,ep,base_of e (noA e d),d,r⟩;have hKb:K.In (fZ s₁.heap H):=λb o e=>base_of (KX b o e) (by
   cases q:H b with
   |none=>rfl
   |some u=>
    have e':b=a:=hA b (by rw[q];simp);subst e';rw[hK (by rw[q];simp)]at e;cases e)
  have hM:Mod K mg (fZ s₁.heap H):=⟨hKb,nsK hns,⟨mb,nsK hb,hbb⟩,let⟨mc,h1,h2⟩:=hlim;⟨mc,nsK h1,h2⟩⟩;have e0:Env0 P w K mg (fZ s₁.heap H) callerA [] s₁ H:=⟨rfl,hM,λb o e=>MD e,Nat.le_of_eq (NS _ _),trivial,λb hb=>absurd (show b∈([]:List Addr)from hb) (by simp),hok,.of_eq hg⟩;refine codeAny_mono ((F _ hKb (nsK hns)).run callerA [] s₁ H ⟨[.ref a],[]⟩ [.ref a] [.ref a] _ _ hr e0 (hbind s₁ (.ref a)) (.cons rfl .nil) (hsp H hO hS)) λr s' h=>?_;cases r with
  |error e=>exact(hCX H e s' h).elim
  |ok fl=>
   cases fl with
   |next=>exact False.elim h
   |brk=>exact False.elim h
   |cont=>exact False.elim h
   |ret u=>
    obtain⟨v,H',os,bare,un,hok',r',q⟩:=h;have q':v=.bl ai:=q;subst q';obtain rfl:u=Value.bool ai:=r';refine⟨rfl,OldK.of_keep λb o e=>?_,os,bare⟩;cases q:H b with
    |none=>exact un.keep b o e q (by intro z;exact absurd (show b∈([]:List Addr)from z) (by simp)) (by simp)
    |some u=>
     rcases hO b with z|⟨ob,xs,z⟩
     ·rw[q]at z;cases z
     ·have z2:=un.frzs b ob _ z;obtain⟨e1,_⟩:=hok b _ z;obtain⟨e2,_⟩:=hok' b _ z2;rw[e]at e1;cases e1;exact e2
 cases hk:K.lookup a with
 |some o=>
  have e:=KX a o hk;rw[ha]at e;cases e;refine core (λ_=>ah) (λ_=>.inl rfl) (.inr ⟨_,vs.toArray,_,hk,rfl,rfl,rfl,by rw[A3,lenV];exact hl,by simpa using rv⟩) (λb u z=>by have z':(ah:Option HO)=ae u:=z;cases z') (λb z=>absurd rfl z) λz=>absurd rfl z
 |none=>
  refine core (λb=>if b=a then ae (.frz {cls:=.type "list",data:=.seq vs.toArray} (.lst (ns.map V.int)))else ah) (λb=>?_) (.inl (.inr ⟨{cls:=.type "list",data:=.seq vs.toArray},if_pos rfl⟩)) (λb u z=>?_) (λb z=>?_) λ_=>hk
  ·by_cases hb:b=a
   ·exact .inr ⟨_,_,if_pos hb⟩
   ·exact .inl (if_neg hb)
  ·by_cases hb:b=a
   ·have z':=(if_pos hb).symm.trans z;cases z';subst hb;exact⟨ha,by rw[Ab];exact hl,vs,_,rv,ha⟩
   ·have z':=(if_neg hb).symm.trans z;cases z'
  ·by_cases hb:b=a
   ·exact hb
   ·exact absurd (if_neg hb) z
theorem walk_of{l:PySem.W.OpenLaw}{d:DefRec}{K:Params->Ag}{CX:B7->jq}{sp:B7->Sp}{x:Str}
  (hn:l.most=ae n) (hn2:n<=Ay) (hdf:d.params.defaults=[]) (hr:Room k callerA)
  (hY:∀(w:B7)(h:Heap),YP w h->(K w.params).In h)
  (F:∀(w:B7)(mg:Str->Option Ak)(fa:Addr)(h:Heap),(K w.params).In h->h.Ns Du mg->mg d.name=ae (.ref fa)->
   ∃fd:C1,(∀(s:Ar)(u:Ak),BindsTo s fd ⟨[u],[]⟩ [(x,u)]) /\
    ∀base:Heap,(K w.params).In base->base.Ns Du mg->FnOk l.prog w (K w.params) mg base (CX w) k fa fd [x] (sp w))
  (hsp:∀(w:B7)(H:Hp)(a:Addr)(ns:List Int),ns.length<=n->mn H->SqL (K w.params) H a (ns.map V.int)->sp w [.ref a] H (λv _=>v=.bl ai) λ_ _ _=>False)
  (hCX:∀(w:B7)(H:Hp)(s:Ar)(e:Ak)(s':Ar),CX w [] H s (λ_ _ _=>False) e s'->False):
  PySem.W.WalkO q loose XP YP l.row.toRowW d [] (λf vs=>PySem.call f vs):=by
 refine Att.attach_call hn hdf λw s₀ s₁ mg mb fa o pm cd doc a vs ns G Y ho hd hcd hmg hobj hints hlen hg=>?_;have KX:=hY w _ Y;obtain⟨fd,hb,hF⟩:=F w mg fa _ KX G.T.g hmg;exact Th KX G.T.g G.T.b G.T.builtins G.T.nolimit hg hobj hints (A4 hlen hn2) hr hF hb (λH hO hS=>hsp w H a ns hlen hO hS) λH e s'=>hCX w H s₁ e s'
abbrev dU:jq:=λ_ _ _ _ _ _=>False
abbrev E0:XK:=λ_ _ _=>False
theorem yP:vt dU X E0:=λ_ _ _ _ _ _ _ h=>h.elim
structure Fun(K:Ag)(x qual:Str)(st:Stmt)(f:Addr)(fd:C1):Prop where
 ex:∃(oc:Ak)(od:Option Addr)(kV doc pm:Ak)(an:Option Addr)(cdv ct:Ak)(osl:Array (Option Ak)),
  fd=Ff x qual (m5 st) (gS st) (dO st) .none kV doc pm an cdv ct/\K.lookup f=ae ⟨oc,od,.func fd,osl⟩/\PySem.W.codeIn K cdv qual=ai
 kp:C3 K (.ref f)=ai
section
variable{P:Bp}{w:B7}{K:Ag}{mg:Str->Option Ak}{base:Heap}
theorem Fun.ok{st:Stmt}(F:Fun K x qual st f fd)(S:FnScope N ps (dO st))(len:∀vs H Q E,sp vs H Q E->vs.length=ps.length)
  (hbody:∀(cdv:Ak)(A:Ck)(outer:List Env)(s:Ar)(H:Hp)(vs:List V)(Q:VK)(E:XK),Room k (A.deeper (envOfC qual (dO st) s.heap.objs.size f cdv))->sp vs H Q E->
   ∃t,PSs (d8 dU P w K mg base N qual (dO st) f cdv A outer s H E).nox (gS st) t/\t {nx:=λ_ H'=>Q .non H',rt:=Q} (start N vs) H):FnOk P w K mg base dU (k+1) f fd ps sp:=by
 obtain⟨oc,od,kV,doc,pm,an,cdv,ct,osl,rfl,lk,hcd⟩:=F.ex;refine SW lk hcd S len λA outer s H vs Q E hr hsp=>?_;obtain⟨t,h,q⟩:=hbody cdv A outer s H vs Q E hr hsp;exact⟨t,h.nox,q⟩
theorem Fun.binds{st:Stmt}(F:Fun K x qual st f fd)
  (h:∀(kV doc pm:Ak)(an:Option Addr)(cdv ct:Ak)(us:List Ak),us.length=ps.length->bindArgs (Ff x qual (m5 st) (gS st) (dO st) .none kV doc pm an cdv ct) ⟨us,[]⟩=pure (ps.zip us)):Binds K fd ps []:=by
 obtain⟨oc,od,kV,doc,pm,an,cdv,ct,osl,rfl,lk,hcd⟩:=F.ex;exact .all (h kV doc pm an cdv ct)
theorem LI{st:Stmt}{osl:Array (Option Ak)}{kV doc pm cdv ct:Ak}(l:K.lookup f=ae ⟨oc,od,.func (Ff x qual (m5 st) (gS st) (dO st) .none kV doc pm an cdv ct),osl⟩)
  (c:PySem.W.codeIn K cdv qual=ai) (k:C3 K (.ref f)=ai):Fun K x qual st f (Ff x qual (m5 st) (gS st) (dO st) .none kV doc pm an cdv ct):=⟨⟨oc,od,kV,doc,pm,an,cdv,ct,osl,rfl,l,c⟩,k⟩
end
theorem CM(h:n<=1000):n < Ay:=Nat.lt_of_le_of_lt h ∎
section
variable{X:Cx}
theorem pv(i){pos:Pos}(hN:X.N[i]?=ae x:=by rfl)(hv:gh X.env.scope x:=by first|exact C4 rfl|exact B9 (C4 rfl)|exact B9 (B9 rfl))(hd:(x==("__debug__":Str))=aj:=by decide)
  (hcd:(x==("__classdict__":Str))=aj:=by decide):PE X (.Name x pos) (bw i):=iY hN hv hd hcd
end
theorem v8{A B:Prop}(h:B):if aj=ai then A else B:=by
 rw[if_neg Ae];exact h
theorem kW{c A B:Prop}[Decidable c](h1:c->A)(h2:¬c->B):if c then A else B:=by
 by_cases h:c
 ·rw[if_pos h];exact h1 h
 ·rw[if_neg h];exact h2 h
def gT(H H':Hp):Prop:=∀b o,H b=ae o->H' b=ae o
end L2
namespace Nb
open PySem L2
def qF:Bool:=ai
def tY:List V:=[.non,.non,.non,.int 1,.int 2,.int 3,.int 20]
def kR:List Aa:=[.none,.none,.none,.int 1,.int 2,.int 3,.int 20]
end Nb
namespace L2
open PySem PySem.Spec PyProof.Rows
section
variable{prog:Bp}{w:B7}{A:Ck}{R:Result->Ar->Prop}{s:Ar}
theorem GH(I:Nat->Ar->Prop)
  (turn:∀n s,I n s->A5 (Bi prog w) A (pyNext it) (λr s₁=>match r with
   |none=>R (.ok .next) s₁
   |some v=>A5 (Bi prog w) A (letOwnedTupleGo target it v) (λ_ s₁'=>A5 (Bi prog w) A (Gj target env v) (λ_ s₂=>
     A5 (Bi prog w) A (forIn ifs ai λc r=>if r=ai then do let ok <-isTrue c env (eval c env);pure (ForInStep.yield ok)else pure (ForInStep.yield r)) (λok s₃=>
      if ok=ai then A5 (Bi prog w) A (eval elt env) (λx s₄=>
       A5 (Bi prog w) A (call (.builtin "list.append") [acc,x]) (λ_ s₅=>∃m,m < n/\I m s₅) (λ_ _=>False) s₄) (λ_ _=>False) s₃
      else ∃m,m < n/\I m s₃) (λ_ _=>False) s₂) (λ_ _=>False) s₁') (λ_ _=>False) s₁) (λ_ _=>False) s)
  (n) (h:I n s):Gi (Bi prog w) A (.compLoop (.ListComp elt [⟨target,iter,ifs,0⟩] scope pos) 0 it acc env) R s:=by
 refine codeAny_loop rfl I (λn s hI=>?_) n h;show A5 _ A ((compTurn (.ListComp elt [⟨target,iter,ifs,0⟩] scope pos) 0 it acc env).onRaise (λx=>do noteFrame x env;theTreesLotGoes x)) _ _ s;refine wpAny_noted ?_;rw[compTurn_list];refine Ad (wpAny_standAt (Ad (Dr (turn n s hI) (λr s₁ h₁=>?_) λ_ _ f=>f.elim)));cases r with
 |none=>exact Aw h₁
 |some v=>
  refine Ad (Dr h₁ (λ_ s₁' h₁'=>?_) λ_ _ f=>f.elim);refine Ad (Dr h₁' (λ_ s₂ h₂=>Ad (Dr h₂ (λok s₃ h₃=>?_) λ_ _ f=>f.elim)) λ_ _ f=>f.elim);cases ok with
  |false=>exact Aw ⟨rfl,h₃⟩
  |true=>
   exact Ad (Ad (Dr h₃ (λx s₄ h₄=>Ad (Dr h₄ (λ_ s₅ h₅=>Aw (Aw ⟨rfl,h₅⟩)) λ_ _ f=>f.elim)) λ_ _ f=>f.elim))
end
def dJ(X:Cx)(N:List Str)(scope:E4)(cl:List (Str×Addr))(s:Ar)(H:Hp)(fp:List Addr):Cx:=
 { X with N:=N,s₀:=s,H₀:=H,env:=compEnvC scope cl s.heap.objs.size X.env,outer:=X.stack,ex:=fp,fn:=λ_=>aj,pn:=[],xe:=λ_ _=>False}
structure CompSc(X:Cx)(N:List Str)(scope:E4)(cl:List (Str×Addr))(fr:List (Option Nat)):Prop where
 clos:closureFor scope X.env=pure cl
 kind:scope.kind=.function
 nocell:∀y∈scope.names,y.2≠.cell
 names:∀y∈scope.names,y.2=.local->scope.names.lookup y.1=ae .local
 sub:∀x c,cl.lookup x=ae c->X.env.cells.lookup x=ae c
 has:∀x,((relabel scope X.env).names.lookup x=ae .cell\/(relabel scope X.env).names.lookup x=ae .free)->∃c,cl.lookup x=ae c
 len:fr.length=N.length
 fre:∀(j i:Nat),fr[j]?=ae (ae i)->∃x,N[j]?=ae x/\X.N[i]?=ae x/\gh X.env.scope x/\(X.env.kindOf x=ae .cell\/X.env.kindOf x=ae .free) /\
  ((relabel scope X.env).names.lookup x=ae .cell\/(relabel scope X.env).names.lookup x=ae .free)/\cl.lookup x=X.env.cells.lookup x
theorem rA{κ:Type}:∀{l:List (Str×κ)}{x:Str}{k:κ},l.lookup x=ae k->(x,k)∈l
 |[],_,_,h=>nomatch h
 | (y,k')::r,x,k,h=>by
  rw[List.lookup_cons]at h;cases e:x==y with
  |true=>
   rw[e]at h;have e':x=y:=by simpa using e
   have h':k'=k:=A7 h;rw[e',h'];exact As
  |false=>
   rw[e]at h;exact Au _ (rA h)
theorem BB{κ:Type}:∀{l:List (Str×κ)}{x:Str},x∈l.map (·.1)->∃k,l.lookup x=ae k
 |[],_,h=>absurd h (by simp)
 | (y,k')::r,x,h=>by
  rw[List.lookup_cons];cases e:x==y with
  |true=>exact⟨k',rfl⟩
  |false=>
   have ne:¬x=y:=λz=>by rw[z]at e;simp at e
   have h':x∈y::r.map (·.1):=h;rcases Aq.mp h' with z|z
   ·exact absurd z ne
   ·exact BB z
theorem Oe{X:Cx}{cl:List (Str×Addr)}(nm)(ks)(hrel:(relabel scope X.env).names=nm)(hks:cl.map (·.1)=ks)(h3:∀y∈nm,(y.2=.cell\/y.2=.free)->y.1∈ks):
  ∀x,((relabel scope X.env).names.lookup x=ae .cell\/(relabel scope X.env).names.lookup x=ae .free)->∃c,cl.lookup x=ae c:=by
 intro x h;rw[hrel]at h;refine BB ?_;rw[hks];rcases h with h|h
 ·exact h3 _ (rA h) (.inl rfl)
 ·exact h3 _ (rA h) (.inr rfl)
def eh(fr:List (Option Nat))(σ:St):St:=fr.map λo=>o.bind λi=>(σ[i]?).bind id
theorem UH{j:Nat}(h:(eh fr σ)[j]?=ae (ae v)):∃i,fr[j]?=ae (ae i)/\σ[i]?=ae (ae v):=by
 unfold eh at h;rw[Ax]at h;cases e:fr[j]? with
 |none=>rw[e]at h;cases h
 |some o=>
  rw[e]at h;cases o with
  |none=>cases h
  |some i=>
   refine⟨i,rfl,?_⟩;have h':(σ[i]?).bind id=ae v:=A7 h;cases e2:σ[i]? with
   |none=>rw[e2]at h';cases h'
   |some o2=>
    rw[e2]at h';have h2:o2=ae v:=h';rw[h2]
def qg(X:Cx)(ifs:List Expr)(tt:TT):Prop:=
 ∀(pins:List (Addr×Obj))(s:Ar)(σ:St)(H:Hp)(Q:Bool->Hp->Prop),Inv X pins σ H s->tt σ H Q->
  A5 (Bi X.prog X.w) X.A (forIn ifs ai λc r=>if r=ai then do let ok <-isTrue c X.env (eval c X.env);pure (ForInStep.yield ok)else pure (ForInStep.yield r)) (TP X pins σ Q) X.xe s
def mw:TT:=λ_ H Q=>Q ai H
theorem Vb:qg X [] mw:=λ_ _ _ H _ I h=>wpAny_tests_nil ⟨H,I,h⟩
theorem Rz(h:PT X c tt):qg X [c] tt:=λpins s σ H Q I q=>wpAny_tests_one (h pins s σ H Q I q)
def lV(fr:List (Option Nat))(wi:TI)(g:TG)(tt:TT)(te:TE):TE:=λσ H Q=>wi σ H λJ H1=>∀D,H1 D=ah->
 ∃W:Nat->Nat->List V->St->Hp->Prop,(∃m,W 0 m [] (eh fr σ) (upd H1 D (.lst [])))/\∀i m ys τ H,W i m ys τ H->
  ((J.stop i H/\Q (.ref D) H)\/(J.go i H/\ys.length < Ay/\∀x H',J.yld i H x H'->g x τ H' λτ2 H2=>tt τ2 H2 λb H3=>
   if b=ai then te τ2 H3 (λy H4=>H4 D=ae (.lst ys)/\∃m',m' < m/\W (i+1) m' (ys++[y]) τ2 (upd H4 D (.lst (ys++[y]))))else ∃m',m' < m/\W (i+1) m' ys τ2 H3))
section
variable{X:Cx}{N:List Str}{scope:E4}{cl:List (Str×Addr)}{fr:List (Option Nat)}{pins:List (Addr×Obj)}{σ:St}{H:Hp}{s:Ar}{fp:List Addr}
theorem Uc(S:CompSc X N scope cl fr)(I:Inv X pins σ H s)(hf:∀b∈fp,dG X pins H b)(hlt:∀b∈fp,b < s.heap.objs.size):(dJ X N scope cl s H fp).Ok where
 mod:=I.ok.mod
 kind:=S.kind
 glob:=I.ok.glob
 blt:=I.ok.blt
 above:=Al _
 inj:=λx y c a b=>I.ok.inj x y c (S.sub x c a) (S.sub y c b)
 has:=λx h=>S.has x h
 cab:=λx c h=>nomatch h
 hd:=I.ok.hd
 frames:=I.ok.frames
 stk:=.inl rfl
 exf:=λb hb=>⟨Bq (hlt b hb),λx c e=>(hf b hb).2.2.2.2.1 x c (S.sub x c e)⟩
 bs:=I.bs
 bsz:=A4 I.ok.bsz I.sz
 noex:=λb o e hb=>by
  rcases(hf b hb).2.2.2.1 with z|z
  ·exact I.ok.noex b o e z
  ·exact absurd (Bn (A0 (I.ok.bs b o e).1) z) (Ec _)
 exfs:=λb hb z=>by
  rcases Aq.mp (I.stkSub b z)with e|e
  ·exact(hf b hb).2.1 e
  ·exact(hf b hb).2.2.1 e
 funs:=I.stack
 frf:=I.stkFree
theorem HN(S:CompSc X N scope cl fr)(I:Inv X pins σ H s)(hf:∀b∈fp,dG X pins H b)(hlt:∀b∈fp,b < s.heap.objs.size)
   (hsb:D1 s.heap.objs.size (s.heap.push ob) h₁)  (hn:h₁.Ns s.heap.objs.size m):
  Inv (dJ X N scope cl s H fp) [] (eh fr σ) H {s with heap:=h₁,toks:=t'}:=by
 have old:∀b o,s.heap.get? b=ae o->h₁.get? b=ae o:=λb o e=>(hsb.2 b (Bq (A0 e))).trans (Ai _ e);refine⟨Uc S I hf hlt,rfl,I.bare,Un.kept old,⟨m,hn,λj x v e1 e2 e3=>?_⟩,λx c e=>?_,I.fresh,λx c e=>I.freeC x c (S.sub x c e),λp hp=>?_,I.hok.kept old,?_⟩
 ·obtain⟨i,f1,f2⟩:=UH e2;obtain⟨y,g1,g2,g3,g4,g5,g6⟩:=S.fre j i f1;have e1':N[j]?=ae x:=e1;rw[g1]at e1';have exy:y=x:=A7 e1';subst exy;obtain⟨m0,hn0,hl⟩:=I.loc;obtain⟨u,r,l⟩:=hl i y v g2 f2 g3;refine⟨u,r,.inr ⟨g5,?_⟩⟩;rcases l with⟨k,_⟩|⟨k,c,e,z⟩
  ·rcases g4 with q|q
   ·rw[q]at k;cases k
   ·rw[q]at k;cases k
  ·exact⟨c,g6.trans e,z.keeps old⟩
 ·obtain⟨v,z⟩:=I.cell x c (S.sub x c e);exact⟨v,z.keeps old⟩
 ·exact absurd hp (by simp[dJ])
 ·show(eh fr σ).length=N.length;unfold eh;rw[Ab,S.len]
theorem Je{τ:St}(I:Inv X pins σ H s0)(hf:∀b∈fp,dG X pins H b)(I':Inv (dJ X N scope cl s0 H fp) [] τ H' s')(hs:D1 s0.heap.objs.size s'.heap h'):
  Inv X pins σ H' {s' with heap:=h'}:=by
 have hC:H' s0.heap.objs.size=ah:=I'.free;have u:Un (jf X.stack) fp H H' s0.heap s'.heap:=I'.base;have ne:∀b o,s0.heap.get? b=ae o->b≠s0.heap.objs.size:=λb o e=>Bq (A0 e);have hok':HOk X.prog X.w H' h':=λb o e=>by
  have q:ObjOk X.prog X.w H' s'.heap b o:=I'.hok b o e;refine q.stay (λc v hc z=>(hs.2 c ?_).trans z) (λ_ z=>z) λ_ _ z=>z
  rintro rfl
  rcases hc with z|z
  ·rw[<-z,hC]at e;cases e
  ·rw[hC]at z;cases z
 refine I.call' (s':={ s' with heap:=h'}) (ch:=fp) I'.os ?_ hok' I'.bare λb hb=>?_
 ·refine⟨λb o e n h1 h2=>(hs.2 b (ne b o e)).trans (u.keep b o e n h1 h2),λb o e n h1 h2=>?_,u.free,λb o e h2=>?_,u.tups,u.frzs,u.tbls⟩
  ·obtain⟨sl,z⟩:=u.slot b o e n h1 h2;exact⟨sl,(hs.2 b (ne b o e)).trans z⟩
  ·obtain⟨o',z⟩:=u.there b o e h2;exact⟨o',(hs.2 b (ne b o e)).trans z⟩
 ·obtain⟨_,f1,_,f3,f4,f5⟩:=hf b hb;exact⟨f3,f1,f4,f5⟩
end
theorem Vc
  (hc:X.calm=ai) (S:CompSc X N scope cl fr) (hi:PI X tg iter wi) (hg:∀s H fp,PG (dJ X N scope cl s H fp) tg g) (ht:∀s H fp,qg (dJ X N scope cl s H fp) ifs tt)
  (he:∀s H fp,PE (dJ X N scope cl s H fp) elt te) (hs:∀x,Eh iter X.env x=pure x:=by intro _;rfl):
  PE X (.ListComp elt [⟨tg,iter,ifs,0⟩] scope pos) (lV fr wi g tt te):=by
 intro pins s σ H Q I h;rw[eval_ListComp];refine wpAny_comprehension_free (use:=ah) (cl:=cl) rfl hs S.clos S.kind S.names (aY (hi pins s σ H _ I h) λv s1 h1=>aY h1 λitv s2 h2=>?_);obtain⟨it,fp,tn,J,H2,e,I2,T,st2,f2,q⟩:=h2;subst e;refine Cf (wpAny_newFunctionEnv S.nocell (by intro y hy;simp at hy) (λh₁ hn hsb=>?_) S.kind);dsimp only at hn hsb ⊢;obtain⟨W,⟨m0,w0⟩,turn⟩:=q s2.heap.objs.size I2.fresh
 have I3:Inv X pins σ (upd H2 s2.heap.objs.size (.lst [])) {s2 with heap:=s2.heap.push {cls:=.type "list",dict:=ah,data:=.seq ([]:List Ak).toArray}}:=I2.lnew (its:=[]) (t':=s2.toks) .nil (Bo _);have key:∀s3:Ar,s3={ s2 with heap:=s2.heap.push {cls:=.type "list",dict:=ah,data:=.seq ([]:List Ak).toArray}}->Inv X pins σ (upd H2 s2.heap.objs.size (.lst [])) s3->
   ∀(ob:Obj)(mm:Str->Option Ak),D1 s3.heap.objs.size (s3.heap.push ob) h₁->h₁.Ns s3.heap.objs.size mm->
   Gi (Bi X.prog X.w) X.A (.compStart (.ListComp elt [⟨tg,iter,ifs,0⟩] scope pos) 0 (.ref it) (.ref s2.heap.objs.size) (compEnvC scope cl s3.heap.objs.size X.env))
    (compPost (Bi X.prog X.w) X.A X.xe ah (EP X pins σ Q) (.ref s2.heap.objs.size) s3.heap.objs.size) {s3 with heap:=h₁,toks:=s3.toks+([]:List (Str×Ak)).length}:=?key
 ·exact key _ rfl I3 _ _ hsb hn
 clear I3 hn hsb;intro s3 hs3 I3 ob mm hsb hn;have hfp:∀b∈fp,∃o,s2.heap.get? b=ae o:=λb hb=>let⟨o,e,_⟩:=T.obj _ _ st2 b hb;⟨o,e⟩;have up:∀b o,s2.heap.get? b=ae o->s3.heap.get? b=ae o:=λb o e=>by rw[hs3];exact Ai _ e
 have f3:∀b∈fp,dG X pins (upd H2 s2.heap.objs.size (.lst [])) b:=λb hb=>by
  obtain⟨o,e⟩:=hfp b hb;obtain⟨g0,gr⟩:=f2 b hb;exact⟨by rw[aW (Bq (A0 e))];exact g0,gr⟩
 have hlt:∀b∈fp,b < s3.heap.objs.size:=λb hb=>let⟨o,e⟩:=hfp b hb;A0 (up b o e);generalize hH3:upd H2 s2.heap.objs.size (.lst [])=H3 at I3 f3 w0;have I4:=HN (t':=s3.toks+([]:List (Str×Ak)).length) S I3 f3 hlt hsb hn;have st4:tn 0 h₁:=T.keep _ _ _ st2 λb hb o e=>(hsb.2 b (Bq (A0 (up b o e)))).trans (Ai _ (up b o e));have stat:∀{H':Hp},(∀b∈fp,H' b=ah)->∀b∈fp,dG (dJ X N scope cl s3 H3 fp) [] H' b:=λhn b hb=>by
  obtain⟨_,k1,k2,k3,k4,k5⟩:=f3 b hb;refine⟨hn b hb,Bq (hlt b hb),λz=>?_,.inl hb,λx c e=>k4 x c (S.sub x c e),λp hp=>absurd hp (by simp[dJ])⟩;rcases Aq.mp (I3.stkSub b z)with e|e
  ·exact k1 e
  ·exact k2 e
 have loop:Gi (Bi X.prog X.w) X.A (.compLoop (.ListComp elt [⟨tg,iter,ifs,0⟩] scope pos) 0 (.ref it) (.ref s2.heap.objs.size) (compEnvC scope cl s3.heap.objs.size X.env))
   (compPost (Bi X.prog X.w) X.A X.xe ah (EP X pins σ Q) (.ref s2.heap.objs.size) s3.heap.objs.size) {s3 with heap:=h₁,toks:=s3.toks+([]:List (Str×Ak)).length}:=by
  refine GH (λn s'=>∃i ys τ Hc,Inv (dJ X N scope cl s3 H3 fp) [] τ Hc s'/\tn i s'.heap/\(∀b∈fp,Hc b=ah)/\W i n ys τ Hc) ?_ m0 ⟨0,[],eh fr σ,H3,I4,st4,λb hb=>(f3 b hb).1,w0⟩
  rintro n s5 ⟨i,ys,τ,Hc,I5,st5,fr5,w5⟩
  rcases turn i n ys τ Hc w5 with⟨stop,qn⟩|⟨go,hz,step⟩
  ·refine aY (T.done (dJ X N scope cl s3 H3 fp) rfl rfl rfl hc i [] s5 τ Hc (λ_ _=>False) I5 (stat fr5) st5 stop) λr s6 ⟨hr,I6⟩=>?_;subst hr;obtain⟨mm,hm,_⟩:=I6.loc;exact⟨mm,hm,λh' hs'=>⟨.ref s2.heap.objs.size,Hc,Je I3 f3 I6 hs',rfl,qn⟩⟩
  ·refine aY (T.item (dJ X N scope cl s3 H3 fp) rfl rfl rfl hc i [] s5 τ Hc (λ_ _=>False) I5 (stat fr5) st5 go) λr s6 ⟨u,hr,h6⟩=>?_;subst hr;refine aY h6 λ_ s7 ⟨x,H7,I7,r7,y7,st7,fr7⟩=>?_;have I7':=I7.pinned (stat fr7) (T.obj _ _ st7);refine aY (hg s3 H3 fp _ s7 τ H7 x u _ I7' r7 (step x H7 y7)) λ_ s8 ⟨τ8,H8,I8,q8⟩=>?_;refine aY (ht s3 H3 fp _ s8 τ8 H8 _ I8 q8) λok s9 ⟨H9,I9,q9⟩=>?_;have keep:∀{st:Ar}{τ':St}{H':Hp},Inv (dJ X N scope cl s3 H3 fp) ([]++nG fp s7.heap) τ' H' st->tn (i+1) st.heap/\∀b∈fp,H' b=ah:=λ{st τ' H'} Ix=>by
    refine⟨T.keep _ _ _ st7 λb hb o e=>(Ix.pin (b,o) (Bf _ (Bf _ (nU hb e)))).1,λb hb=>?_⟩;obtain⟨o,e,d⟩:=T.obj _ _ st7 b hb;exact(Ix.pin (b,o) (Bf _ (Bf _ (nU hb e)))).2.1
   cases ok with
   |false=>
    rw[if_neg Ae]at q9 ⊢;obtain⟨m',hm,w9⟩:=q9;obtain⟨k1,k2⟩:=keep I9;exact⟨m',hm,i+1,ys,τ8,H9,I9.unpinned,k1,k2,w9⟩
   |true=>
    rw[if_pos rfl]at q9 ⊢;refine aY (he s3 H3 fp _ s9 τ8 H9 _ I9 q9) λxv s10 ⟨y,H10,I10,r10,hD,m',hm,w10⟩=>?_;refine aY (wJ _ s10 τ8 H10 (.ref s2.heap.objs.size) [y] (.ref s2.heap.objs.size) [xv] (λz H'=>∃m',m' < n/\W (i+1) m' (ys++[y]) τ8 H') I10 rfl (.cons r10 .nil) ⟨_,ys,y,rfl,rfl,hD,hz,m',hm,w10⟩) λz s11 ⟨z',H11,I11,_,m'',hm',w11⟩=>?_;obtain⟨k1,k2⟩:=keep I11;exact⟨m'',hm',i+1,ys++[y],τ8,H11,I11.unpinned,k1,k2,w11⟩
 exact codeAny_compStart_list loop (T.self _ 0 _ _ _ st4 loop)
mutual
inductive RdD(K:Ag)(H:Hp):V->Aa->Prop
 |non:RdD K H .non .none
 |bl (b:Bool):RdD K H (.bl b) (.bool b)
 |int (i:Int):RdD K H (.int i) (.int i)
 |str (x:Str):RdD K H (.str x) (.str x)
 |lst {a:Addr} {xs:List V} {ds:List Aa}:SqL K H a xs->RdAll K H xs ds->RdD K H (.ref a) (.list ds)
 |tup {a:Addr} {xs:List V} {ds:List Aa}:SqT K H a xs->RdAll K H xs ds->RdD K H (.ref a) (.tuple ds)
inductive RdAll(K:Ag)(H:Hp):List V->List Aa->Prop
 |nil:RdAll K H [] []
 |cons {x:V} {xs:List V} {d:Aa} {ds:List Aa}:RdD K H x d->RdAll K H xs ds->RdAll K H (x::xs) (d::ds)
end
section
variable{X:Cx}{pins:List (Addr×Obj)}{σ:St}{H:Hp}{s:Ar}
mutual
theorem RdD.reads(I:Inv X pins σ H s):∀{v:V}{d:Aa}{u:Ak},RdD X.K H v d->RelV v u->∃as,Reads s.heap u d as
 |_,_,u,.non,r=>by
  cases(show u=B8 from r);exact⟨_,.none⟩
 |_,_,u,.bl b,r=>by
  cases(show u=Value.bool b from r);exact⟨_,.bool b⟩
 |_,_,u,.int i,r=>by
  obtain⟨t,rfl⟩:=(show ∃t,u=Value.int i t from r);exact⟨_,.int i t⟩
 |_,_,u,.str x,r=>by
  obtain⟨t,rfl⟩:=(show ∃t,u=Ge x t from r);exact⟨_,.str x t⟩
 |_,_,u,.lst (a:=a) h1 h2,r=>by
  cases(show u=A6 a from r);obtain⟨its,rv,⟨o,n,e,c,_,d⟩,_⟩:=I.list h1;obtain⟨as,ha⟩:=RdAll.reads I h2 rv;exact⟨_,.list e c d (by simpa using ha)⟩
 |_,_,u,.tup (a:=a) h1 h2,r=>by
  cases(show u=A6 a from r);obtain⟨its,rv,⟨o,e,c,n,d⟩,_⟩:=I.tuple h1;obtain⟨as,ha⟩:=RdAll.reads I h2 rv;exact⟨_,.tuple e c d (by simpa using ha)⟩
theorem RdAll.reads(I:Inv X pins σ H s):∀{vs:List V}{ds:List Aa}{us:List Ak},RdAll X.K H vs ds->Vals vs us->∃as,ReadsAll s.heap us ds as
 |_,_,_,.nil,.nil=>⟨_,.nil⟩
 |_,_,_,.cons h1 h2,.cons r1 r2=>by
  obtain⟨as,ha⟩:=RdD.reads I h1 r1;obtain⟨bs,hb⟩:=RdAll.reads I h2 r2;exact⟨_,.cons ha hb⟩
end
end
def Small(d:Aa):Prop:=B1 d=ai/\Bv d<=20/\Ea d<=2 ^ 20/\Dt 13 d=ai/\Dn d=ai
theorem Small.len(h:Small d):d.shown.length<=Ay:=by
 have hl:PyData.layable0 d=ai:=by
  unfold PyData.layable0;rw[h.1,decide_eq_true (show Bv d<=64 by have:=h.2.1;omega),decide_eq_true h.2.2.1];rfl
 have:=shown_le13 hl h.2.2.2.1;rw[E3];omega
def tK(K:Ag):R2:=λx y H Q=>∃a b xs,x=.ref a/\y=.ref b/\SqL K H a xs/\SqL K H b []/\Q (.bl xs.isEmpty) H
theorem Vr(hu:X.A.units < Fu):OpR X (By .Eq) (tK X.K):=by
 intro pins s σ H x y v u Q I rx ry h;obtain⟨a,b,xs,rfl,rfl,ha,hb,q⟩:=h;cases(show v=A6 a from rx);cases(show u=A6 b from ry);obtain⟨its,r1,p1,_⟩:=I.list ha;obtain⟨its2,r2,p2,_⟩:=I.list hb;have e2:its2=[]:=Vals.zero r2;subst e2;cases r1 with
 |nil=>exact PySem.SeqAt.eq_listAt (e:=λ_=>ai) p1.isList p2.isList rfl hu (λj h1=>absurd h1 (by simp)) ⟨.bl ai,H,I,(by rfl),q⟩
 |cons r1 r3=>exact PySem.SeqAt.eq_list_lengthsAt p1.isList p2.isList (by simp) hu ⟨.bl aj,H,I,rfl,q⟩
def EI(K:Ag):R2:=λx y H Q=>∃a b xs ys,x=.ref a/\y=.ref b/\SqT K H a xs/\SqT K H b ys/\ys≠[]/\xs.length+ys.length<=Ay /\
 (xs=[]->Q (.ref b) H)/\(xs≠[]->∀p,H p=ah->Q (.ref p) (upd H p (.tup (xs++ys))))
theorem op_catA:OpR X (Ei .Add) (EI X.K):=by
 intro pins s σ H x y v u Q I rx ry h;obtain⟨a,b,xs,ys,rfl,rfl,ha,hb,hy,hz,q0,q2⟩:=h;by_cases hx:xs=[]
 ·cases(show v=A6 a from rx);cases(show u=A6 b from ry);obtain⟨its,r1,p1,_⟩:=I.tuple ha;obtain⟨its2,r2,p2,_⟩:=I.tuple hb;obtain⟨⟨cls,dd,data,sl⟩,ho,hc,n,hd⟩:=id p1;obtain⟨⟨cls2,dd2,data2,sl2⟩,ho2,hc2,n2,hd2⟩:=id p2;simp only at hc hd hc2 hd2;subst hc hd hc2 hd2;have hi:its=[]:=r1.nil_iff.mpr hx;exact concat_meets ⟨_,ho,rfl⟩ ⟨_,ho2,rfl⟩ noFill_tuple_add seq_tuple_add F1 Fw (Fn _ _)
   (tuple_addW0 a b its.toArray its2.toArray n n2 dd dd2 sl sl2 (by simp[hi])) ⟨ho,ho2,⟨.ref b,H,I,rfl,q0 hx⟩⟩
 ·exact op_catT pins s σ H (.ref a) (.ref b) v u Q I rx ry ⟨a,b,xs,ys,rfl,rfl,ha,hb,hx,hz,λe=>absurd e hy,λ_=>q2 hx⟩
theorem MP:CallR X (.builtin "isinstance") (λxs H Q=>∃x t b,xs=[x,.ty T]/\TyOf X.K H x t/\PySem.W.kitOne X.K t (.type T)=ae b/\Q (.bl b) H):=by
 intro pins s σ H xs us Q I r h;obtain⟨x,t,b,rfl,ty,e,q⟩:=h;obtain⟨u,u',rfl,ru,ru'⟩:=qr r;cases(show u'=Et T from ru');exact UK I ru ty e λtk=>⟨.bl b,H,I.tok tk,rfl,q⟩
section
variable{prog:Bp}{w:B7}{A:Ck}{E:Ak->Ar->Prop}{s:Ar}
theorem GS:entryFor table "dict.update.loop"=ae Gk.«dict.update.loop»:=entryFor_of_tree (by kernel_rfl)
theorem t8:plainId "dict.update.loop"=ai:=by decide +kernel
theorem RI:typeLookup (.type "tuple") "keys"=pure ah:=by rw[typeLookup_type,builtinLookup_eq_fast];kernel_rfl
theorem M4(p:IsTup s.heap a its.toArray)(h:Q its s):A5 (Bi prog w) A (Builtin.Dict.pairItems (.ref a)) Q E s:=by
 obtain⟨o,ho,hc,n,hd⟩:=id p;unfold Builtin.Dict.pairItems;refine Ad (Fx (show s.TypeIs (.ref a) "tuple" from⟨o,ho,hc⟩) ?_);rw[if_pos ∎];refine Ad (Dq ho hd (Aw ?_));simpa using h
set_option maxRecDepth 8000 in
theorem OS
  (hx:s.heap.get? a=ae o) (hc:o.cls=.type "tuple") (hdat:o.data=.seq xs k) (hd:o.dict=ah) (hmiss:typeLookup (.type "tuple") name=pure ah) (hname:(["__module__","__name__","__qualname__","__doc__","__annotations__"]:List Str).contains name=aj) (hA:A.handled=ah)
  (h:∀h' tk e,Heap.NewExcOf s.heap h' e "AttributeError"->Q ah {s with heap:=h',toks:=tk}) (hsz:name.length+100<=Ay:=by size_fits):
  A5 (Bi prog w) A (getAttr? (.ref a) name) Q E s:=by
 obtain⟨c,dct,dat,sl⟩:=o;simp only at hc hdat hd;subst hc hdat hd;obtain⟨hp,g,d,tk,os⟩:=s;have hT:∀tk',(⟨hp,g,d,tk',os⟩:Ar).TypeIs (.ref a) "tuple":=λ_=>⟨_,hx,rfl⟩;have f1:=sub_AttributeError;have f3:=F.slot_tuple_getattribute.lookup;have f4:=F.slot_tuple_getattribute.bind (.ref a);have f5:=am_tuple_getattr_none;unfold getAttr? getAttrBy? getAttrBy
 repeat (any_goals (first|assumption|exact hT _|((with_reducible show A5 _ _ (call (Value.builtin "tuple.__getattribute__") _ _) _ _ _);refine call_meets F.slot_tuple_getattribute (hT _) am_entry_tuple_getattribute (F.args_tuple_getattribute_2 _ _) (meets_getattribute_miss_tuple a xs k sl name _ hmiss hname hsz) ⟨hx,hA,λh' tk' e hx'=>?_⟩)|wp_step))
 obtain⟨t',u',he⟩:=hx'.there;show A5 _ _ (getattributeRaised _ _ _ _ _ _ _) _ _ _;unfold getattributeRaised
 repeat (any_goals (first|assumption|wp_step))
 exact h _ _ _ hx'.of
end
section
variable{X:Cx}{pins:List (Addr×Obj)}{σ:St}{A:Ck}{R:Result->Ar->Prop}
theorem SqT.upd{K:Ag}(h:H a=ae (.tup xs))(hd:a≠d):(L2.upd H d o) a=ae (.tup xs):=by rw[aW hd];exact h
theorem NK(hA:A.handled=ah)(ps:List (Addr×aO×V)):∀(n i:Nat)(H:Hp)(s:Ar)(kvs:List (aO×V)),n+i=ps.length->Inv X pins σ H s->H d=ae (.dK kvs)->kvs.length+n<=Ay->
  H src=ae (.tup (ps.map λp=>.ref p.1))->(∀p∈ps,H p.1=ae (.tup [kV p.2.1,p.2.2]))->s.heap.IsTupleIter it src i->dG X pins H it->
  (∀H' s',Inv X pins σ H' s'->H'=L2.upd H d (.dK (mO kvs ((ps.drop i).map (·.2))))->R (.ok (.ret .none)) s')->
  Gi (Bi X.prog X.w) A (.builtin "dict.update.loop" ⟨[.ref d,.ref it,F0 i,.none],[]⟩) R s:=by
 intro n
 induction n with
 |zero=>
  intro i H s kvs hn I hd hz hs hp st f hR;obtain⟨its,rv,p,_⟩:=I.tuple (SqT.of (K:=X.K) hs);obtain⟨f0,f1,f2,f3,f4,f5⟩:=f;refine Fc GS ?_;rw[Dw t8 _];show A5 _ _ (pyNext (.ref it)>>=_) _ _ s;have hl:=rv.length;rw[Ab]at hl;refine Ad (wpAny_pyNext_tuple_end (A:=A.in1) hA st (show s.heap.IsTuple src its.toArray from p) (by simp;omega) λh' eb=>?_);show A5 _ _ (Builtin.Dict.addKeywords d []>>=_) _ _ _;refine Ad (Aw (Aw ?_));refine hR H _ (I.turned (t':=s.toks) (λb o hb e=>eb b o hb e) f0 f1 f3 f4 f5) ?_;have e1:ps.drop i=[]:=List.drop_eq_nil_of_le ⋯;rw[e1]
  funext b
  unfold L2.upd
  split
  ·rename_i hb;rw[hb,hd];rfl
  ·rfl
 |succ n ih=>
  intro i H s kvs hn I hd hz hs hp st f hR;obtain⟨its,rv,p,_⟩:=I.tuple (SqT.of (K:=X.K) hs);obtain⟨f0,f1,f2,f3,f4,f5⟩:=id f;have hi:i < ps.length:=by omega
  have hpi:(ps.map λp=>V.ref p.1)[i]?=ae (V.ref (ps[i]).1):=by simp[hi]
  obtain⟨u,hu,ru⟩:=rv.get hpi;cases(show u=A6 (ps[i]).1 from ru);have hmem:ps[i]∈ps:=C8 hi;have hq:=hp _ hmem;refine Fc GS ?_;rw[Dw t8 _];show A5 _ _ (pyNext (.ref it)>>=_) _ _ s;refine Ad (wpAny_pyNext_tuple_item st (show s.heap.IsTuple src its.toArray from p) (x:=A6 (ps[i]).1) (by simpa using hu) λh1 st1 sb=>?_);have I1:Inv X pins σ H {s with heap:=h1}:=I.turned (t':=s.toks) (λb o hb e=>(sb.2 b hb).trans e) f0 f1 f3 f4 f5;obtain⟨its1,rv1,p1,_⟩:=I1.tuple (SqT.of (K:=X.K) hq);obtain⟨u1,u2,rfl,r1,r2⟩:=qr rv1;refine Ad (Ct ?_);refine Ad (wpAny_tryCatch (M4 p1 ?_));obtain⟨z,hdS,vs,rel,dd⟩:=DB I1.hok hd;have hz1:vs.length<=Ay:=by rw[<-rel.length];exact z
  have hl1:=sP kvs (ps[i]).2.1 (ps[i]).2.2;refine Ct (wpAny_dictSet_pairs (hsz:=hz1) (nN r1) dd λh2 dd2 hs2=>?_);have he2:∃q,h2.get? d=ae q:=let⟨q,_,_,hq,_⟩:=dd2;⟨q,hq⟩;have I2:=wZ (t':=s.toks+1) I1 (by rw[hd];exact Dy) hs2 he2 (HY ⋯ hdS (rel.put (ps[i]).2.1 r2) dd2);have nd:∀b xs,H b=ae (.tup xs)->b≠d:=λb xs e z=>by rw[z,hd]at e;cases e
  have nit:it≠d:=λz=>by rw[z,hd]at f0;cases f0
  have hc:((i:Int)+1)=((i+1:Nat):Int):=by push_cast;rfl
  show A5 _ _ (pure (Fin.again (.builtin "dict.update.loop" ⟨[.ref d,.ref it,F0 ((i:Int)+1),.none],[]⟩))) _ _ _;refine Aw ⟨Gw t8 _,?_⟩;rw[hc];refine ih (i+1) _ _ (cD kvs (ps[i]).2.1 (ps[i]).2.2) ⋯ I2 bQ ⋯ (SqT.upd (K:=X.K) hs (nd _ _ hs)) (λq hq'=>SqT.upd (K:=X.K) (hp q hq') (nd _ _ (hp q hq'))) (by
   obtain⟨o,e,r⟩:=st1;exact⟨o,(hs2.2 it nit).trans e,r⟩) ⟨by rw[aW nit];exact f0,f1,f2,f3,f4,f5⟩ λH' s' I' e=>?_
  refine hR H' s' I' ?_;rw[e,EK,D8 hi];rfl
theorem fc(h:n<=1000):n<=Ay:=Fp (CM h)
theorem Oa(hh:X.A.handled=ah):CallR X (.type "dict") (λxs H Q=>∃(src:Addr)(ps:List (Addr×aO×V)),xs=[.ref src]/\H src=ae (.tup (ps.map λp=>V.ref p.1))/\(∀p∈ps,H p.1=ae (.tup [kV p.2.1,p.2.2]))/\ps.length<=1000 /\
  ∀l,H l=ah->Q (.ref l) (L2.upd H l (.dK (mO [] (ps.map (·.2)))))):=by
 intro pins s σ H xs us Q I r h;obtain⟨src,ps,rfl,hs,hp,hlen,q⟩:=h;obtain⟨u,rfl,ru⟩:=jA r;cases(show u=A6 src from ru);have big:=I.big;refine callType_codes (Q₁:=λobj s₁=>obj=.ref s.heap.objs.size/\s₁={ s with heap:=s.heap.push {cls:=.type "dict",data:=.dict #[]}}) F.kt_called_dict (F.kt_typeCall_dict_1 _) F.entry_dict_init (kt_code_dict_new _ ⟨rfl,rfl⟩) ?_
 rintro obj s₁ ⟨rfl,rfl⟩
 have hfr:H s.heap.objs.size=ah:=I.fresh;have I1:Inv X pins σ (L2.upd H s.heap.objs.size (.dK [])) {s with heap:=s.heap.push {cls:=.type "dict",data:=.dict #[]}}:=I.laid (t':=s.toks) (λb o e=>Ai _ e) (Al _) (zw s.heap big);have nd:∀b xs,H b=ae (.tup xs)->b≠s.heap.objs.size:=λb xs e z=>by rw[z,hfr]at e;cases e
 have hs1:=SqT.upd (K:=X.K) (o:=.dK []) hs (nd _ _ hs);obtain⟨zz,its,rv,o,ho,hc,⟨n,hdat⟩,hd⟩:=(show ObjOk X.prog X.w _ _ src (.tup _)from I1.hok src _ hs1);have hnew:(s.heap.push {cls:=.type "dict",data:=.dict #[]}).DictOf (gf X.prog X.w) s.heap.objs.size []:=Heap.DictOf.new s.heap;refine⟨hnew.typeIs,F.args_dict_init_2 _ _,?_⟩;unfold Gk.«dict.__init__»;refine Ad ?_;unfold Builtin.Dict.selfAndRest;refine Ad (wpAny_notOrdered_dict hnew.typeIs ?_);show A5 _ _ (pure (s.heap.objs.size,[A6 src])) _ _ _;refine Aw ?_;show A5 _ _ (Builtin.Dict.updateFrom "dict.__init__" s.heap.objs.size (.ref src) [] .none) _ _ _;unfold Builtin.Dict.updateFrom;refine Ad (Fx (T:="tuple") ⟨o,ho,hc⟩ ?_);rw[if_pos ∎];refine Ad (OS ho hc hdat hd RI ∅ hh (λh' tk e ne=>?_));have I2:=I1.kept (t':=tk) ne.keeps;have p2:IsTup h' src its.toArray:=IsTup.keeps ⟨o,ho,hc,n,hdat⟩ ne.keeps;show A5 _ _ (rule _>>=_) _ _ _;refine Ad (wpAny_rule ?_);refine Ad (D9 (show Heap.IsTuple h' src its.toArray from p2) ?_);refine Aw ⟨Gw t8 _,?_⟩;have I3:=I2.kept (t':=tk) (λb o e=>Ai {cls:=.type "tuple_iterator",data:=.fields #[.ref src,.int 0 0]} e);refine NK (A:=X.A.in1) hh ps ps.length 0 _ _ [] ⋯ I3 bQ (by simp only[Gs];exact fc ⋯) hs1 (λq hq=>SqT.upd (K:=X.K) (hp q hq) (nd _ _ (hp q hq))) ⟨_,Bb _ rfl,rfl,rfl⟩ (I2.fpOk (Al _) I2.fresh) λH' s' I' e=>?_;refine⟨rfl,.ref s.heap.objs.size,H',I',rfl,?_⟩;rw[e,EK];exact q _ hfr
end
theorem Ts(bs:List Bool):((A8 bs.length).all λi=>(bs[i]?).getD ai)=bs.all id:=by
 rw[E1,Dh,Dh]
 constructor
 ·intro h b hb;obtain⟨i,hi,rfl⟩:=List.mem_iff_getElem.mp hb;have:=h i (Ce.mpr hi);rw[Ah hi]at this;exact this
 ·intro h i hi;have hi':=Ce.mp hi;rw[Ah hi'];exact h _ (C8 hi')
theorem NI(hh:X.A.handled=ah):CallR X (.builtin "all") (λxs H Q=>∃(p:Addr)(bs:List Bool),xs=[.ref p]/\H p=ae (.lst (bs.map V.bl))/\Q (.bl (bs.all id)) H):=by
 intro pins s σ H xs us Q I r h;obtain⟨p,bs,rfl,hp,q⟩:=h;obtain⟨u,rfl,ru⟩:=jA r;cases(show u=A6 p from ru);obtain⟨its,rv,pl,_⟩:=I.list (SqL.of (K:=X.K) hp);have hl:s.heap.IsList p its.toArray:=pl.isList;have hlt:p < s.heap.objs.size:=by obtain⟨_,e,_⟩:=hl;exact A0 e
 have hlen:bs.length=its.length:=by have:=rv.length;rwa [Ab]at this
 refine call_all_walk (wpAny_pyIter_list hl ?_);refine⟨s.heap.objs.size,[s.heap.objs.size,p],[s.heap.objs.size],its.toArray.size,_,_,λi=>(bs[i]?).getD ai,rfl,Walks.list (A:=X.A.in1) hh _ p (Bq hlt) its.toArray,
  ⟨⟨_,Bb _ rfl,rfl,rfl⟩,hl.push _⟩,λi v s' Q' E' hP hQ=>?_,λh' tk hk=>?_⟩
 ·have hi:its[i]?=ae v:=by simpa using hP
  have hib:i < bs.length:=by rw[hlen];exact(Ao.mp hi).1
  have hx:(bs.map V.bl)[i]?=ae (V.bl bs[i]):=by simp[hib]
  obtain⟨u,hu,ru⟩:=rv.get hx;rw[hi]at hu;cases(A7 hu);cases(show v=Value.bool bs[i]from ru);dsimp only at hQ;rw[Ah hib,Option.getD_some]at hQ;exact Dp hQ
 ·have e:((A8 its.toArray.size).all λi=>(bs[i]?).getD ai)=bs.all id:=by
   rw[A3,<-hlen];exact Ts bs
  rw[e];refine⟨.bl (bs.all id),H,I.kept λb x e=>hk b x (λhm=>?_) (Ai _ e),rfl,q⟩;rw[Bc.mp hm]at e;exact Ec _ (A0 e)
theorem Ri:OpR X (By .LtE) (λx y H Q=>∃i j,x=.str i/\y=.str j/\Q (.bl (!decide (j.cps.toList < i.cps.toList))) H):=by
 intro pins s σ H x y v u Q I rx ry h;obtain⟨i,j,rfl,rfl,q⟩:=h;obtain⟨t,rfl⟩:=rx;obtain⟨t',rfl⟩:=ry;exact P.le_str (dm I q rfl)
theorem UY:OpR X (By .Gt) (λx y H Q=>∃i j,x=.str i/\y=.str j/\Q (.bl (decide (j.cps.toList < i.cps.toList))) H):=by
 intro pins s σ H x y v u Q I rx ry h;obtain⟨i,j,rfl,rfl,q⟩:=h;obtain⟨t,rfl⟩:=rx;obtain⟨t',rfl⟩:=ry;exact P.gt_str (dm I q rfl)
def rJ:Aa->String
 |.none=>"NoneType"
 |.bool _=>"bool"
 |.int _=>"int"
 |.str _=>"str"
 |.list _=>"list"
 |.tuple _=>"tuple"
 |.dict _=>"dict"
def dw(T:String)(d:Aa):Bool:=rJ d==T || (T=="int"&&rJ d=="bool")
def aZ(h:Str):Aa->Bool
 |.str x=>decide (x=h)
 |_=>aj
theorem CG{cpos pos pos':Pos}
  (hN:X.N.Nodup) (hix:X.N[i]?=ae x) (hx:X.env.scope.names.lookup x=ae .local)
  (hc:X.calm=ai) (S:CompSc X N scope cl fr) (hi:PI X tg iter wi) (hg:∀s H fp,PG (dJ X N scope cl s H fp) tg g) (ht:∀s H fp,qg (dJ X N scope cl s H fp) ifs tt)
  (he:∀s H fp,PE (dJ X N scope cl s H fp) elt te) (hs:∀x,Eh iter X.env x=pure x:=by intro _;rfl)
  (hsw:Ed (.ListComp elt [⟨tg,iter,ifs,0⟩] scope cpos) (ae (.Name x pos')) pos.line X.env=pure ai:=by rfl):
  PS X (.Assign [.Name x pos'] (.ListComp elt [⟨tg,iter,ifs,0⟩] scope cpos) pos) (c8 (lV fr wi g tt te) (fi i)):=by
 intro pins s σ H D I h;rw[exec_Assign_Name_used _ _ _ _ hsw];refine Ad (wpAny_standAt (Ad ?_));show A5 _ _ (do let _ <-comprehension (.ListComp elt [⟨tg,iter,ifs,0⟩] scope cpos) scope X.env (firstIterPos [⟨tg,iter,ifs,0⟩] cpos) (newList []) (firstAsync [⟨tg,iter,ifs,0⟩]) (firstIter [⟨tg,iter,ifs,0⟩] X.env) (ae (Gj (.Name x pos') X.env))) _ _ s;refine Ad ?_;have fin:∀(u:Unit)(s':Ar),SP X pins D .next s'->A5 (Bi X.prog X.w) X.A (pure Flow.next) (SP X pins D) X.xe s':=λ_ s' z=>Aw z
 refine aY (Q:=λ_ s'=>SP X pins D .next s') ?_ λ_ s' z=>Aw (Aw z);refine wpAny_comprehension_free (use:=ae (Gj (.Name x pos') X.env)) (cl:=cl) rfl hs S.clos S.kind S.names (aY (hi pins s σ H _ I h) λv s1 h1=>aY h1 λitv s2 h2=>?_);obtain⟨it,fp,tn,J,H2,e,I2,T,st2,f2,q⟩:=h2;subst e;refine Cf (wpAny_newFunctionEnv S.nocell (by intro y hy;simp at hy) (λh₁ hn hsb=>?_) S.kind);dsimp only at hn hsb ⊢;obtain⟨W,⟨m0,w0⟩,turn⟩:=q s2.heap.objs.size I2.fresh
 have I3:Inv X pins σ (upd H2 s2.heap.objs.size (.lst [])) {s2 with heap:=s2.heap.push {cls:=.type "list",dict:=ah,data:=.seq ([]:List Ak).toArray}}:=I2.lnew (its:=[]) (t':=s2.toks) .nil (Bo _);have key:∀s3:Ar,s3={ s2 with heap:=s2.heap.push {cls:=.type "list",dict:=ah,data:=.seq ([]:List Ak).toArray}}->Inv X pins σ (upd H2 s2.heap.objs.size (.lst [])) s3->
   ∀(ob:Obj)(mm:Str->Option Ak),D1 s3.heap.objs.size (s3.heap.push ob) h₁->h₁.Ns s3.heap.objs.size mm->
   Gi (Bi X.prog X.w) X.A (.compStart (.ListComp elt [⟨tg,iter,ifs,0⟩] scope cpos) 0 (.ref it) (.ref s2.heap.objs.size) (compEnvC scope cl s3.heap.objs.size X.env))
    (compPost (Bi X.prog X.w) X.A X.xe (ae (Gj (.Name x pos') X.env)) (λ_ s'=>SP X pins D .next s') (.ref s2.heap.objs.size) s3.heap.objs.size) {s3 with heap:=h₁,toks:=s3.toks+([]:List (Str×Ak)).length}:=?key
 ·exact key _ rfl I3 _ _ hsb hn
 clear I3 hn hsb;intro s3 hs3 I3 ob mm hsb hn;have hfp:∀b∈fp,∃o,s2.heap.get? b=ae o:=λb hb=>let⟨o,e,_⟩:=T.obj _ _ st2 b hb;⟨o,e⟩;have up:∀b o,s2.heap.get? b=ae o->s3.heap.get? b=ae o:=λb o e=>by rw[hs3];exact Ai _ e
 have f3:∀b∈fp,dG X pins (upd H2 s2.heap.objs.size (.lst [])) b:=λb hb=>by
  obtain⟨o,e⟩:=hfp b hb;obtain⟨g0,gr⟩:=f2 b hb;exact⟨by rw[aW (Bq (A0 e))];exact g0,gr⟩
 have hlt:∀b∈fp,b < s3.heap.objs.size:=λb hb=>let⟨o,e⟩:=hfp b hb;A0 (up b o e);generalize hH3:upd H2 s2.heap.objs.size (.lst [])=H3 at I3 f3 w0;have I4:=HN (t':=s3.toks+([]:List (Str×Ak)).length) S I3 f3 hlt hsb hn;have st4:tn 0 h₁:=T.keep _ _ _ st2 λb hb o e=>(hsb.2 b (Bq (A0 (up b o e)))).trans (Ai _ (up b o e));have stat:∀{H':Hp},(∀b∈fp,H' b=ah)->∀b∈fp,dG (dJ X N scope cl s3 H3 fp) [] H' b:=λhn b hb=>by
  obtain⟨_,k1,k2,k3,k4,k5⟩:=f3 b hb;refine⟨hn b hb,Bq (hlt b hb),λz=>?_,.inl hb,λx c e=>k4 x c (S.sub x c e),λp hp=>absurd hp (by simp[dJ])⟩;rcases Aq.mp (I3.stkSub b z)with e|e
  ·exact k1 e
  ·exact k2 e
 have loop:Gi (Bi X.prog X.w) X.A (.compLoop (.ListComp elt [⟨tg,iter,ifs,0⟩] scope cpos) 0 (.ref it) (.ref s2.heap.objs.size) (compEnvC scope cl s3.heap.objs.size X.env))
   (compPost (Bi X.prog X.w) X.A X.xe (ae (Gj (.Name x pos') X.env)) (λ_ s'=>SP X pins D .next s') (.ref s2.heap.objs.size) s3.heap.objs.size) {s3 with heap:=h₁,toks:=s3.toks+([]:List (Str×Ak)).length}:=by
  refine GH (λn s'=>∃i ys τ Hc,Inv (dJ X N scope cl s3 H3 fp) [] τ Hc s'/\tn i s'.heap/\(∀b∈fp,Hc b=ah)/\W i n ys τ Hc) ?_ m0 ⟨0,[],eh fr σ,H3,I4,st4,λb hb=>(f3 b hb).1,w0⟩
  rintro n s5 ⟨i,ys,τ,Hc,I5,st5,fr5,w5⟩
  rcases turn i n ys τ Hc w5 with⟨stop,qn⟩|⟨go,hz,step⟩
  ·refine aY (T.done (dJ X N scope cl s3 H3 fp) rfl rfl rfl hc i [] s5 τ Hc (λ_ _=>False) I5 (stat fr5) st5 stop) λr s6 ⟨hr,I6⟩=>?_;subst hr;obtain⟨mm,hm,_⟩:=I6.loc;have I6x:Inv X pins σ Hc s6:=Je I3 f3 I6 (Heap.SameBut.refl _ _);have hC:Hc s3.heap.objs.size=ah:=I6.free;obtain⟨_,c1,_,c3,c4,c5⟩:=I3.fpOk (H':=Hc) (Al _) hC;show A5 (Bi X.prog X.w) X.A (Gj (.Name x pos') X.env (.ref s2.heap.objs.size)) _ X.xe s6;refine wpAny_assign_Name (JM I6x hN hix (.inl hx) (show RelV (.ref s2.heap.objs.size) (A6 s2.heap.objs.size)from rfl) (λs7 I7 hsb=>?_) (.inr hx));obtain⟨ad,hsb,had⟩:=hsb;have hne:s3.heap.objs.size≠ad:=by
    rcases had with z|z
    ·rw[z];exact c1
    ·exact λq=>c4 x ad z q.symm
   obtain⟨oo,es,ep,ho,rr⟩:=hm;refine⟨mm,⟨oo,es,ep,(hsb.2 _ hne).trans ho,rr⟩,λh' hs'=>⟨_,Hc,?_,qn⟩⟩;have ne:∀b,b∉[s3.heap.objs.size]->b≠s3.heap.objs.size:=λb z q=>z (by rw[q];exact Bc.mpr rfl);have hok':HOk X.prog X.w Hc h':=λb o e=>by
    refine(I7.hok b o e).stay (λc v hc z=>(hs'.2 c ?_).trans z) (λ_ z=>z) λ_ _ z=>z
    rintro rfl
    rcases hc with z|z
    ·rw[<-z,hC]at e;cases e
    ·rw[hC]at z;cases z
   refine I7.call' (s':={ s7 with heap:=h'}) (ch:=[s3.heap.objs.size]) rfl ?_ hok' I7.bare λb hb=>?_
   ·exact⟨λb o e n h1 h2=>(hs'.2 b (ne b h2)).trans e,λb o e n h1 h2=>⟨o.slots,(hs'.2 b (ne b h2)).trans e⟩,λb o e n h2=>n,λb o e h2=>⟨o,(hs'.2 b (ne b h2)).trans e⟩,λ_ _ z=>z,λ_ _ _ z=>z,λb ps z=>⟨#[],by rw[Array.append_empty];exact z⟩⟩
   ·cases Bc.mp hb;exact⟨c3,c1,c4,c5⟩
  ·refine aY (T.item (dJ X N scope cl s3 H3 fp) rfl rfl rfl hc i [] s5 τ Hc (λ_ _=>False) I5 (stat fr5) st5 go) λr s6 ⟨u,hr,h6⟩=>?_;subst hr;refine aY h6 λ_ s7 ⟨x,H7,I7,r7,y7,st7,fr7⟩=>?_;have I7':=I7.pinned (stat fr7) (T.obj _ _ st7);refine aY (hg s3 H3 fp _ s7 τ H7 x u _ I7' r7 (step x H7 y7)) λ_ s8 ⟨τ8,H8,I8,q8⟩=>?_;refine aY (ht s3 H3 fp _ s8 τ8 H8 _ I8 q8) λok s9 ⟨H9,I9,q9⟩=>?_;have keep:∀{st:Ar}{τ':St}{H':Hp},Inv (dJ X N scope cl s3 H3 fp) ([]++nG fp s7.heap) τ' H' st->tn (i+1) st.heap/\∀b∈fp,H' b=ah:=λ{st τ' H'} Ix=>by
    refine⟨T.keep _ _ _ st7 λb hb o e=>(Ix.pin (b,o) (Bf _ (Bf _ (nU hb e)))).1,λb hb=>?_⟩;obtain⟨o,e,d⟩:=T.obj _ _ st7 b hb;exact(Ix.pin (b,o) (Bf _ (Bf _ (nU hb e)))).2.1
   cases ok with
   |false=>
    rw[if_neg Ae]at q9 ⊢;obtain⟨m',hm,w9⟩:=q9;obtain⟨k1,k2⟩:=keep I9;exact⟨m',hm,i+1,ys,τ8,H9,I9.unpinned,k1,k2,w9⟩
   |true=>
    rw[if_pos rfl]at q9 ⊢;refine aY (he s3 H3 fp _ s9 τ8 H9 _ I9 q9) λxv s10 ⟨y,H10,I10,r10,hD,m',hm,w10⟩=>?_;refine aY (wJ _ s10 τ8 H10 (.ref s2.heap.objs.size) [y] (.ref s2.heap.objs.size) [xv] (λz H'=>∃m',m' < n/\W (i+1) m' (ys++[y]) τ8 H') I10 rfl (.cons r10 .nil) ⟨_,ys,y,rfl,rfl,hD,hz,m',hm,w10⟩) λz s11 ⟨z',H11,I11,_,m'',hm',w11⟩=>?_;obtain⟨k1,k2⟩:=keep I11;exact⟨m'',hm',i+1,ys++[y],τ8,H11,I11.unpinned,k1,k2,w11⟩
 exact codeAny_compStart_list loop (T.self _ 0 _ _ _ st4 loop)
end L2
set_option Elab.async false
set_option maxRecDepth 100000
namespace Nb
open PySem L2
def Kp(t:Addr)(H H':Hp):Prop:=∀b o,H b=ae o->b≠t->H' b=ae o
theorem Kp.refl(t)(H):Kp t H H:=λ_ _ h _=>h
theorem Kp.trans(a:Kp t H H1)(b:Kp t H1 H2):Kp t H H2:=λc o h n=>b c o (a c o h n) n
theorem Kp.new(h:H p=ah):Kp t H (upd H p o):=λc o' e _=>by
 rw[aW (bY e h)];exact e
theorem Kp.tape:Kp t H (upd H t o):=λc o' e n=>by
 rw[aW n];exact e
structure TL where
 s:Addr
 g:Addr
def kj(l:TL):List V:=if qF=ai then[.ref l.g]else[]
structure Tp(H:Hp)(t:Addr)(l:TL)(ns:List Int)(n:Int):Prop where
 ob:∃a b:Int,H t=ae (.lst (.ref l.s::.int a::.int b::kj l))/\0<=a/\a<=n
 ls:H l.s=ae (.lst (ns.map V.int))
 len:ns.length<=63
 ag:qF=ai->H l.g=ae (.lst tY)
 gne:l.g≠t
theorem Tp.ne(T:Tp H t l ns n):t≠l.s:=by
 obtain⟨a,b,h,_⟩:=T.ob;refine JG h T.ls λz=>?_;have z':(.ref l.s::.int a::.int b::kj l:List V)=ns.map V.int:=HO.lst.inj z;cases ns with
 |nil=>cases z'
 |cons m r=>
  rw[Ba]at z';have:=(Bk z').1;cases this
theorem Tp.other(T:Tp H t l ns n)(h1:t≠p)(h2:l.s≠p)(h3:qF=ai->l.g≠p):Tp (upd H p o) t l ns n:=by
 obtain⟨a,b,e,h⟩:=T.ob;exact⟨⟨a,b,by rw[aW h1];exact e,h⟩,by rw[aW h2];exact T.ls,T.len,λz=>by rw[aW (h3 z)];exact T.ag z,T.gne⟩
theorem Tp.new(T:Tp H t l ns n)(h:H p=ah):Tp (upd H p o) t l ns n:=by
 obtain⟨a,b,e,_⟩:=T.ob;exact T.other (bY e h) (bY T.ls h) λz=>bY (T.ag z) h
theorem Ol{xs:List V}{r:Int}(h0:0<=r)(h1:r < xs.length):∃v,dh xs r=ae v/\v∈xs:=by
 obtain⟨j,rfl⟩:=F6 h0;have hj:j < xs.length:=by omega
 exact⟨xs[j],fQ (Ah hj),C8 hj⟩
theorem small(h:n<=1000):n<=Ay:=Fp (CM h)
theorem xj:B3 "tuple"=ae (.type "tuple"):=by decide +kernel
theorem Qy:B3 "dict"=ae (.type "dict"):=by decide +kernel
theorem Vy:B3 "int"=ae (.type "int"):=by decide +kernel
theorem Q2:B3 "str"=ae (.type "str"):=by decide +kernel
theorem Ny:B3 "repr"=ae (.builtin "repr"):=by decide +kernel
theorem uO:B3 "isinstance"=ae (.builtin "isinstance"):=by decide +kernel
theorem Kx:B3 "all"=ae (.builtin "all"):=by decide +kernel
theorem ou:B3 "list"=ae (.type "list"):=by decide +kernel
theorem MT:B3 "bool"=ae (.type "bool"):=by decide +kernel
theorem QF(h:xs.length<=63):fg xs ah (ae 63)=xs:=by
 unfold fg;have e1:HT.sIx xs.length 0 ah=0:=rfl;have e2:HT.sIx xs.length xs.length (ae 63)=xs.length:=by
  have e:=HT.sIx_nat xs.length xs.length 63;rw[show((63:Nat):Int)=63 from rfl]at e;rw[e];omega
 rw[e1,e2,Fh,Nat.sub_zero,List.take_length]
def pS(K:Ag):Sp:=λvs H Q _=>∃(a:Addr)(ns:List Int),vs=[.ref a]/\SqL K H a (ns.map V.int)/\ns.length<=63 /\
 ∀(t:Addr)(l:TL)(H':Hp),Tp H' t l ns 0->(∀b o,H b=ae o->H' b=ae o)->Q (.ref t) H'
def zQ:Sp:=λvs H Q _=>∃(t:Addr)(l:TL)(ns:List Int)(n many:Int),vs=[.ref t,.int many]/\Tp H t l ns n/\n < 2 ^ 40/\0 < many/\many < 1073741824 /\
 ∀(r:Int)(H':Hp),0<=r->r < many->Tp H' t l ns (n+1)->Kp t H H'->Q (.int r) H'
end Nb
namespace DL
open PySem L2 Nb
abbrev D:=Aa
mutual
inductive RdX(H:Hp)(B:Addr->Prop):V->Aa->Prop
 |non:RdX H B .non .none
 |bl (b:Bool):RdX H B (.bl b) (.bool b)
 |int (i:Int):RdX H B (.int i) (.int i)
 |str (x:Str) (h:x.length<=Ay):RdX H B (.str x) (.str x)
 |lst {a:Addr} {xs:List V} {ds:List Aa}:H a=ae (.lst xs)->¬B a->xs.length<=Ay->RdXs H B xs ds->RdX H B (.ref a) (.list ds)
 |tup {a:Addr} {xs:List V} {ds:List Aa}:H a=ae (.tup xs)->¬B a->xs.length<=Ay->RdXs H B xs ds->RdX H B (.ref a) (.tuple ds)
inductive RdXs(H:Hp)(B:Addr->Prop):List V->List Aa->Prop
 |nil:RdXs H B [] []
 |cons {x:V} {xs:List V} {d:Aa} {ds:List Aa}:RdX H B x d->RdXs H B xs ds->RdXs H B (x::xs) (d::ds)
end
mutual
theorem RdX.move{H H':Hp}{B B':Addr->Prop}(k:∀b o,H b=ae o->¬B b->H' b=ae o/\¬B' b):∀{v:V}{d:Aa},RdX H B v d->RdX H' B' v d
 |_,_,.non=>.non
 |_,_,.bl b=>.bl b
 |_,_,.int i=>.int i
 |_,_,.str x h=>.str x h
 |_,_,.lst h1 h2 h3 h4=>.lst (k _ _ h1 h2).1 (k _ _ h1 h2).2 h3 (RdXs.move k h4)
 |_,_,.tup h1 h2 h3 h4=>.tup (k _ _ h1 h2).1 (k _ _ h1 h2).2 h3 (RdXs.move k h4)
theorem RdXs.move{H H':Hp}{B B':Addr->Prop}(k:∀b o,H b=ae o->¬B b->H' b=ae o/\¬B' b):∀{vs:List V}{ds:List Aa},RdXs H B vs ds->RdXs H' B' vs ds
 |_,_,.nil=>.nil
 |_,_,.cons h1 h2=>.cons (RdX.move k h1) (RdXs.move k h2)
end
section
variable{H H':Hp}{B B':Addr->Prop}{v:V}{d:Aa}{vs ws:List V}{ds es:List Aa}{t:Addr}
theorem RdX.kp(k:Kp t H H')(ht:B t)(h:RdX H B v d):RdX H' B v d:=h.move λb o e n=>⟨k b o e λz=>n (z▸ht),n⟩
theorem RdXs.kp(k:Kp t H H')(ht:B t)(h:RdXs H B vs ds):RdXs H' B vs ds:=h.move λb o e n=>⟨k b o e λz=>n (z▸ht),n⟩
theorem RdX.less(k:∀b,B' b->B b)(h:RdX H B v d):RdX H B' v d:=h.move λb o e n=>⟨e,λz=>n (k b z)⟩
theorem RdXs.less(k:∀b,B' b->B b)(h:RdXs H B vs ds):RdXs H B' vs ds:=h.move λb o e n=>⟨e,λz=>n (k b z)⟩
theorem RdXs.keep(k:∀b o,H b=ae o->¬B b->H' b=ae o)(h:RdXs H B vs ds):RdXs H' B vs ds:=h.move λb o e n=>⟨k b o e n,n⟩
theorem RdXs.len:∀{vs:List V}{ds:List Aa},RdXs H B vs ds->vs.length=ds.length
 |_,_,.nil=>rfl
 |_,_,.cons _ t=>by rw[Ap,Ap,RdXs.len t]
theorem RdXs.get:∀{vs:List V}{ds:List Aa}{i:Nat}{v:V},RdXs H B vs ds->vs[i]?=ae v->∃d,ds[i]?=ae d/\RdX H B v d
 |_,_,_,_,.nil,e=>by simp at e
 |_,_,0,_,.cons h _,e=>by
  simp at e;subst e;exact⟨_,rfl,h⟩
 |_,_,i+1,v,.cons _ t,e=>by
  obtain⟨d,h1,h2⟩:=RdXs.get (i:=i) (v:=v) t (by simpa using e);exact⟨d,by simpa using h1,h2⟩
theorem RdXs.getD:∀{vs:List V}{ds:List Aa}{i:Nat}{d:Aa},RdXs H B vs ds->ds[i]?=ae d->∃v,vs[i]?=ae v/\RdX H B v d
 |_,_,_,_,.nil,e=>by simp at e
 |_,_,0,_,.cons h _,e=>by
  simp at e;subst e;exact⟨_,rfl,h⟩
 |_,_,i+1,d,.cons _ t,e=>by
  obtain⟨v,h1,h2⟩:=RdXs.getD (i:=i) (d:=d) t (by simpa using e);exact⟨v,by simpa using h1,h2⟩
theorem RdXs.append:∀{vs ws:List V}{ds es:List Aa},RdXs H B vs ds->RdXs H B ws es->RdXs H B (vs++ws) (ds++es)
 |_,_,_,_,.nil,h=>h
 |_,_,_,_,.cons h1 h2,h=>.cons h1 (RdXs.append h2 h)
theorem RdXs.set:∀{vs:List V}{ds:List Aa}(i:Nat){v:V}{d:Aa},RdXs H B vs ds->RdX H B v d->RdXs H B (vs.set i v) (ds.set i d)
 |_,_,_,_,_,.nil,_=>.nil
 |_,_,0,_,_,.cons _ t,h=>.cons h t
 |_,_,i+1,_,_,.cons q t,h=>.cons q (RdXs.set i t h)
theorem RdXs.take:∀{vs:List V}{ds:List Aa}(n:Nat),RdXs H B vs ds->RdXs H B (vs.take n) (ds.take n)
 |_,_,0,_=>.nil
 |_,_,_+1,.nil=>.nil
 |_,_,n+1,.cons r t=>.cons r (RdXs.take n t)
theorem RdXs.drop:∀{vs:List V}{ds:List Aa}(n:Nat),RdXs H B vs ds->RdXs H B (vs.drop n) (ds.drop n)
 |_,_,0,r=>r
 |_,_,_+1,.nil=>.nil
 |_,_,n+1,.cons _ t=>RdXs.drop n t
end
mutual
theorem RdX.rd{K:Ag}{H:Hp}{B:Addr->Prop}:∀{v:V}{d:Aa},RdX H B v d->RdD K H v d
 |_,_,.non=>.non
 |_,_,.bl b=>.bl b
 |_,_,.int i=>.int i
 |_,_,.str x h=>.str x
 |_,_,.lst h1 h2 h3 h4=>.lst (SqL.of h1) (RdXs.rd h4)
 |_,_,.tup h1 h2 h3 h4=>.tup (SqT.of h1) (RdXs.rd h4)
theorem RdXs.rd{K:Ag}{H:Hp}{B:Addr->Prop}:∀{vs:List V}{ds:List Aa},RdXs H B vs ds->RdAll K H vs ds
 |_,_,.nil=>.nil
 |_,_,.cons h1 h2=>.cons (RdX.rd h1) (RdXs.rd h2)
end
inductive Ob where
 |o|p (d:Aa)|k (m:List (aO×Aa))|q (d:Aa) (m:List (aO×Aa))
inductive Wv where
 |d (x:Aa)|tp|dk (kvs:List (aO×Aa))|ln (ds:List Aa)|ob (o:Ob)
def Wv.lent:Wv->Bool
 |.dk _=>ai
 |.ln _=>ai
 |_=>aj
inductive SV where
 |w (x:Wv)|own (ds:List Aa)|odk (kvs:List (aO×Aa))|odt (kvs:List (List aO×Aa))
abbrev Sl:=List (Option SV)
def RdK(H:Hp)(B:Addr->Prop):List (aO×V)->List (aO×Aa)->Prop:=Paired λp q=>p.1=q.1/\RdX H B p.2 q.2
theorem RdK.move(k:∀b o,H b=ae o->¬B b->H' b=ae o/\¬B' b)(h:RdK H B l m):RdK H' B' l m:=
 Paired.mapP h λ_ _ z=>⟨z.1,z.2.move k⟩
def RdT(H:Hp)(B:Addr->Prop):List (List aO×V)->List (List aO×Aa)->Prop:=Paired λp q=>p.1=q.1/\RdX H B p.2 q.2
theorem RdT.move(k:∀b o,H b=ae o->¬B b->H' b=ae o/\¬B' b)(h:RdT H B l m):RdT H' B' l m:=
 Paired.mapP h λ_ _ z=>⟨z.1,z.2.move k⟩
def ORel(H:Hp)(B:Addr->Prop)(v:V):Ob->Prop
 |.o=>∃a,v=.ref a
 |.p d=>∃a x y,v=.ref a/\H a=ae (.tup [x,y])/\¬B a/\RdX H B x d
 |.k m=>∃a l,v=.ref a/\H a=ae (.dK l)/\¬B a/\RdK H B l m
 |.q d m=>∃a x b l,v=.ref a/\H a=ae (.tup [x,.ref b])/\¬B a/\RdX H B x d/\H b=ae (.dK l)/\¬B b/\RdK H B l m
theorem ORel.move(k:∀b o,H b=ae o->¬B b->H' b=ae o/\¬B' b)(h:ORel H B v o):ORel H' B' v o:=by
 cases o with
 |o=>exact h
 |p d=>
  obtain⟨a,x,y,e,h1,h2,h3⟩:=h;exact⟨a,x,y,e,(k _ _ h1 h2).1,(k _ _ h1 h2).2,h3.move k⟩
 |k m=>
  obtain⟨a,l,e,h1,h2,h3⟩:=h;exact⟨a,l,e,(k _ _ h1 h2).1,(k _ _ h1 h2).2,h3.move k⟩
 |q d m=>
  obtain⟨a,x,b,l,e,h1,h2,h3,h4,h5,h6⟩:=h;exact⟨a,x,b,l,e,(k _ _ h1 h2).1,(k _ _ h1 h2).2,h3.move k,(k _ _ h4 h5).1,(k _ _ h4 h5).2,h6.move k⟩
def WRel(H:Hp)(B:Addr->Prop)(t:Addr)(v:V):Wv->Prop
 |.d x=>RdX H B v x
 |.tp=>v=.ref t
 |.dk kvs=>∃a l,v=.ref a/\H a=ae (.dK l)/\a≠t/\RdK H B l kvs
 |.ln ds=>∃a xs,v=.ref a/\H a=ae (.lst xs)/\a≠t/\xs.length<=Ay/\RdXs H B xs ds
 |.ob o=>ORel H B v o
def SRel(H0:Hp)(H:Hp)(B:Addr->Prop)(t:Addr)(v:V):SV->Prop
 |.w x=>WRel H B t v x/\(x.lent=ai->∃a,v=.ref a/\H0 a≠ah)
 |.own ds=>∃a xs,v=.ref a/\H a=ae (.lst xs)/\B a/\H0 a=ah/\xs.length<=Ay/\RdXs H B xs ds
 |.odk kvs=>∃a l,v=.ref a/\H a=ae (.dK l)/\B a/\H0 a=ah/\l.length<=1000/\RdK H B l kvs
 |.odt kvs=>∃a l,v=.ref a/\H a=ae (.dT l)/\B a/\H0 a=ah/\l.length<=1000/\RdT H B l kvs
def SV.isOwn:SV->Bool
 |.w _=>aj
 |_=>ai
structure Ctx where
 t:Addr
 l:TL
 ns:List Int
 H0:Hp
 B0:Addr->Prop
 fz:Hp
structure Rel(C:Ctx)(H:Hp)(B:Addr->Prop)(σ:St)(δ:Sl)(n:Int):Prop where
 tp:Tp H C.t C.l C.ns n
 kp:Kp C.t C.H0 H
 t0:C.H0 C.t≠ah
 l0:C.H0 C.l.s≠ah
 g0:qF=ai->C.H0 C.l.g≠ah
 fz:∀b o,C.fz b=ae o->H b=ae o/\¬B b
 bt:B C.t
 b0:∀b,C.B0 b->B b
 ba:∀b,B b->H b≠ah
 a0:∀b,C.B0 b->C.H0 b≠ah
 sl:∀(i:Nat)(x:SV),δ[i]?=ae (ae x)->∃v,σ[i]?=ae (ae v)/\SRel C.H0 H B C.t v x
 ow:∀(i j:Nat)(x y:SV)(v:V),δ[i]?=ae (ae x)->δ[j]?=ae (ae y)->x.isOwn=ai->y.isOwn=ai->σ[i]?=ae (ae v)->σ[j]?=ae (ae v)->i=j
 len:σ.length=δ.length
theorem WRel.kp(k:Kp t H H')(ht:B t)(h:WRel H B t v x):WRel H' B t v x:=by
 cases x with
 |d x=>exact RdX.kp k ht h
 |tp=>exact h
 |dk kvs=>
  obtain⟨a,l,e,h1,h2,h3⟩:=h;exact⟨a,l,e,k _ _ h1 h2,h2,h3.move λb o e n=>⟨k b o e λz=>n (z▸ht),n⟩⟩
 |ln ds=>
  obtain⟨a,l,e,h1,h2,h3,h4⟩:=h;exact⟨a,l,e,k _ _ h1 h2,h2,h3,h4.kp k ht⟩
 |ob o=>exact ORel.move (λb o e n=>⟨k b o e λz=>n (z▸ht),n⟩) h
theorem WRel.less(k:∀b,B' b->B b)(h:WRel H B t v x):WRel H B' t v x:=by
 cases x with
 |d x=>exact RdX.less k h
 |tp=>exact h
 |dk kvs=>
  obtain⟨a,l,e,h1,h2,h3⟩:=h;exact⟨a,l,e,h1,h2,h3.move λb o e n=>⟨e,λz=>n (k b z)⟩⟩
 |ln ds=>
  obtain⟨a,l,e,h1,h2,h3,h4⟩:=h;exact⟨a,l,e,h1,h2,h3,h4.less k⟩
 |ob o=>exact ORel.move (λb o e n=>⟨e,λz=>n (k b z)⟩) h
theorem SRel.kp(k:Kp t H H')(ht:B t)(t0:H0 t≠ah)(h:SRel H0 H B t v x):SRel H0 H' B t v x:=by
 cases x with
 |w x=>exact⟨h.1.kp k ht,h.2⟩
 |own ds=>
  obtain⟨a,xs,e,h1,h2,h3,h4,h5⟩:=h;exact⟨a,xs,e,k _ _ h1 (λz=>t0 (z▸h3)),h2,h3,h4,h5.kp k ht⟩
 |odk kvs=>
  obtain⟨a,l,e,h1,h2,h3,h4,h5⟩:=h;exact⟨a,l,e,k _ _ h1 (λz=>t0 (z▸h3)),h2,h3,h4,h5.move λb o e n=>⟨k b o e λz=>n (z▸ht),n⟩⟩
 |odt kvs=>
  obtain⟨a,l,e,h1,h2,h3,h4,h5⟩:=h;exact⟨a,l,e,k _ _ h1 (λz=>t0 (z▸h3)),h2,h3,h4,h5.move λb o e n=>⟨k b o e λz=>n (z▸ht),n⟩⟩
theorem Rel.step(R:Rel C H B σ δ n)(T:Tp H' C.t C.l C.ns n')(k:Kp C.t H H'):Rel C H' B σ δ n' where
 tp:=T
 kp:=R.kp.trans k
 t0:=R.t0
 l0:=R.l0
 g0:=R.g0
 fz:=λb o e=>⟨k b o (R.fz b o e).1 λz=>(R.fz b o e).2 (z▸R.bt),(R.fz b o e).2⟩
 bt:=R.bt
 b0:=R.b0
 ba:=λb hb e=>by
  by_cases z:b=C.t
  ·subst z;obtain⟨x,y,h,_⟩:=T.ob;rw[h]at e;cases e
  ·cases q:H b with
   |none=>exact R.ba b hb q
   |some o=>rw[k b o q z]at e;cases e
 a0:=R.a0
 sl:=λi x e=>by
  obtain⟨v,h1,h2⟩:=R.sl i x e;exact⟨v,h1,h2.kp k R.bt R.t0⟩
 ow:=R.ow
 len:=R.len
theorem Rel.new(R:Rel C H B σ δ n)(h:H p=ah):Rel C (upd H p o) B σ δ n:=R.step (R.tp.new h) (Kp.new h)
theorem Rel.nb(R:Rel C H B σ δ n)(h:H p=ah):¬B p:=λz=>R.ba p z h
theorem gY{α:Type}{l:List (Option α)}{x y:α}(h:(l.set i (ae x))[j]?=ae (ae y)):(j=i/\y=x)\/(j≠i/\l[j]?=ae (ae y)):=by
 by_cases e:i=j
 ·subst e;rw[F3]at h;cases q:l[i]? with
  |none=>rw[q]at h;cases h
  |some z=>
   rw[q]at h;exact .inl ⟨rfl,(A7 (A7 h)).symm⟩
 ·rw[C5 e]at h;exact .inr ⟨λz=>e z.symm,h⟩
theorem tX{α:Type}{l:List (Option α)}{x y:Option α}(h:(l.set i x)[i]?=ae y):i < l.length:=by
 have:=(Ao.mp h).1;rwa [Cw]at this
theorem ub{α:Type}{l:List (Option α)}{x:α}(h:i < l.length):(l.set i (ae x))[i]?=ae (ae x):=by simp[h]
theorem lj{α:Type}{l:List (Option α)}{x:α}(h:j≠i):(l.set i (ae x))[j]?=l[j]?:=C5 (λz=>h z.symm)
theorem Rel.set(R:Rel C H B σ δ n)(h:WRel H B C.t v x)(hx:x.lent=aj):Rel C H B (σ.set i (ae v)) (δ.set i (ae (.w x))) n where
 tp:=R.tp
 kp:=R.kp
 t0:=R.t0
 l0:=R.l0
 g0:=R.g0
 fz:=R.fz
 bt:=R.bt
 b0:=R.b0
 ba:=R.ba
 a0:=R.a0
 sl:=λj y e=>by
  rcases gY e with⟨rfl,rfl⟩|⟨ne,e'⟩
  ·exact⟨v,ub (by rw[R.len];exact tX e),h,λz=>by rw[hx]at z;cases z⟩
  ·obtain⟨u,h1,h2⟩:=R.sl j y e';exact⟨u,by rw[lj ne];exact h1,h2⟩
 ow:=λj k y z u e1 e2 o1 o2 f1 f2=>by
  rcases gY e1 with⟨rfl,rfl⟩|⟨ne1,e1'⟩
  ·cases o1
  ·rcases gY e2 with⟨rfl,rfl⟩|⟨ne2,e2'⟩
   ·cases o2
   ·rw[lj ne1]at f1;rw[lj ne2]at f2;exact R.ow j k y z u e1' e2' o1 o2 f1 f2
 len:=by rw[Cw,Cw];exact R.len
theorem Rel.mut(R:Rel C H B σ δ n)(hb:B a)(h0:C.H0 a=ah)
  (ho:∀(i:Nat)(x:SV),δ[i]?=ae (ae x)->x.isOwn=ai->σ[i]?≠ae (ae (.ref a))):Rel C (upd H a o) B σ δ n where
 tp:=R.tp.other (λz=>R.t0 (z▸h0)) (λz=>R.l0 (z▸h0)) (λe z=>R.g0 e (z▸h0))
 kp:=λb o' e ne=>by
  rw[aW (bY e h0)];exact R.kp b o' e ne
 t0:=R.t0
 l0:=R.l0
 g0:=R.g0
 fz:=λb o' e=>⟨by rw[aW λ(z:b=a)=>(R.fz b o' e).2 (z▸hb)];exact(R.fz b o' e).1,(R.fz b o' e).2⟩
 bt:=R.bt
 b0:=R.b0
 ba:=λb hb' e=>by
  by_cases z:b=a
  ·rw[z,bQ]at e;cases e
  ·rw[aW z]at e;exact R.ba b hb' e
 a0:=R.a0
 sl:=λi x e=>by
  obtain⟨v,h1,h2⟩:=R.sl i x e;have mv:∀b o',H b=ae o'->¬B b->upd H a o b=ae o'/\¬B b:=λb o' e n=>⟨by rw[aW λ(z:b=a)=>n (z▸hb)];exact e,n⟩;refine⟨v,h1,?_⟩;cases x with
  |w x=>
   refine⟨?_,h2.2⟩;cases x with
   |d x=>exact h2.1.move mv
   |tp=>exact h2.1
   |dk kvs=>
    obtain⟨a',l,e1,e2,e3,e4⟩:=h2.1;obtain⟨a'',f1,f2⟩:=h2.2 rfl;rw[e1]at f1;cases f1;exact⟨a',l,e1,by rw[aW λ(z:a'=a)=>f2 (z▸h0)];exact e2,e3,e4.move mv⟩
   |ln ds=>
    obtain⟨a',l,e1,e2,e3,e4,e5⟩:=h2.1;obtain⟨a'',f1,f2⟩:=h2.2 rfl;rw[e1]at f1;cases f1;exact⟨a',l,e1,by rw[aW λ(z:a'=a)=>f2 (z▸h0)];exact e2,e3,e4,e5.move mv⟩
   |ob o=>exact ORel.move mv h2.1
  |own ds=>
   obtain⟨a',xs,e1,e2,e3,e4,e5,e6⟩:=h2;have ne:a'≠a:=λz=>ho i _ e rfl (by rw[h1,e1,z]);exact⟨a',xs,e1,by rw[aW ne];exact e2,e3,e4,e5,e6.move mv⟩
  |odk kvs=>
   obtain⟨a',xs,e1,e2,e3,e4,e5,e6⟩:=h2;have ne:a'≠a:=λz=>ho i _ e rfl (by rw[h1,e1,z]);exact⟨a',xs,e1,by rw[aW ne];exact e2,e3,e4,e5,e6.move mv⟩
  |odt kvs=>
   obtain⟨a',xs,e1,e2,e3,e4,e5,e6⟩:=h2;have ne:a'≠a:=λz=>ho i _ e rfl (by rw[h1,e1,z]);exact⟨a',xs,e1,by rw[aW ne];exact e2,e3,e4,e5,e6.move mv⟩
 ow:=R.ow
 len:=R.len
theorem Rel.mutOwn(R:Rel C H B σ δ n)(hi:δ[i]?=ae (ae x))(hx:x.isOwn=ai)(hσ:σ[i]?=ae (ae (.ref a)))(hb:B a)(h0:C.H0 a=ah)
  (h:SRel C.H0 (upd H a o) B C.t (.ref a) x') (hx':x'.isOwn=ai):Rel C (upd H a o) B σ (δ.set i (ae x')) n:=by
 have R1:Rel C H B σ (δ.set i ah) n:={
  tp:=R.tp,kp:=R.kp,t0:=R.t0,l0:=R.l0,g0:=R.g0,fz:=R.fz,bt:=R.bt,b0:=R.b0,ba:=R.ba,a0:=R.a0
  sl:=λj y e=>by
   by_cases z:i=j
   ·subst z;rw[F3]at e;rw[hi]at e;cases e
   ·rw[C5 z]at e;exact R.sl j y e
  ow:=λj k y z u e1 e2 o1 o2 f1 f2=>by
   have g:∀{m:Nat}{w:SV},(δ.set i ah)[m]?=ae (ae w)->δ[m]?=ae (ae w):=λ{m w} e=>by
    by_cases q:i=m
    ·subst q;rw[F3,hi]at e;cases e
    ·rwa [C5 q]at e
   exact R.ow j k y z u (g e1) (g e2) o1 o2 f1 f2
  len:=by rw[Cw];exact R.len}
 have R2:Rel C (upd H a o) B σ (δ.set i ah) n:=R1.mut hb h0 λj y e oy f=>by
  by_cases z:i=j
  ·subst z;rw[F3,hi]at e;cases e
  ·rw[C5 z]at e;exact z (R.ow i j x y _ hi e hx oy hσ f)
 have hlt:i < δ.length:=(Ao.mp hi).1;exact{
  tp:=R2.tp,kp:=R2.kp,t0:=R2.t0,l0:=R2.l0,g0:=R2.g0,fz:=R2.fz,bt:=R2.bt,b0:=R2.b0,ba:=R2.ba,a0:=R2.a0
  sl:=λj y e=>by
   rcases gY e with⟨rfl,rfl⟩|⟨ne,e'⟩
   ·exact⟨_,hσ,h⟩
   ·exact R2.sl j y (by rw[C5 λz=>ne z.symm];exact e')
  ow:=λj k y z u e1 e2 o1 o2 f1 f2=>by
   rcases gY e1 with⟨rfl,rfl⟩|⟨ne1,e1'⟩
   ·rcases gY e2 with⟨rfl,rfl⟩|⟨ne2,e2'⟩
    ·rfl
    ·exact R.ow _ _ x z u hi e2' hx o2 f1 f2
   ·rcases gY e2 with⟨rfl,rfl⟩|⟨ne2,e2'⟩
    ·exact R.ow _ _ y x u e1' hi o1 hx f1 f2
    ·exact R.ow j k y z u e1' e2' o1 o2 f1 f2
  len:=by rw[Cw];exact R.len}
theorem Rel.own(R:Rel C H B σ δ n)(R':Rel C H' B σ δ n')(k:Kp C.t H H')(h0:H a=ah)(h1:H' a≠ah)(hx:x.isOwn=ai)
  (h:SRel C.H0 H' (λb=>B b\/b=a) C.t (.ref a) x):Rel C H' (λb=>B b\/b=a) (σ.set i (ae (.ref a))) (δ.set i (ae x)) n' where
 tp:=R'.tp
 kp:=R'.kp
 t0:=R'.t0
 l0:=R'.l0
 g0:=R'.g0
 fz:=λb o e=>⟨(R'.fz b o e).1,λz=>z.elim (R'.fz b o e).2 λq=>bY (R.fz b o e).1 h0 q⟩
 bt:=.inl R.bt
 b0:=λb z=>.inl (R.b0 b z)
 ba:=λb z=>z.elim (R'.ba b) λq=>q▸h1
 a0:=R.a0
 sl:=λj y e=>by
  have hta:C.t≠a:=λz=>by
   obtain⟨_,_,q,_⟩:=R.tp.ob;rw[z,h0]at q;cases q
  have mv:∀b o',H b=ae o'->¬B b->H' b=ae o'/\¬(B b\/b=a):=λb o' e n=>⟨k b o' e λz=>n (z▸R.bt),λz=>z.elim n λq=>bY e h0 q⟩;rcases gY e with⟨rfl,rfl⟩|⟨ne,e'⟩
  ·exact⟨_,ub (by rw[R.len];exact tX e),h⟩
  ·obtain⟨v,f1,f2⟩:=R.sl j y e';refine⟨v,by rw[lj ne];exact f1,?_⟩;cases y with
   |w y=>
    refine⟨?_,f2.2⟩;cases y with
    |d y=>exact f2.1.move mv
    |tp=>exact f2.1
    |dk kvs=>
     obtain⟨a',l,e1,e2,e3,e4⟩:=f2.1;exact⟨a',l,e1,k _ _ e2 e3,e3,e4.move mv⟩
    |ln ds=>
     obtain⟨a',l,e1,e2,e3,e4,e5⟩:=f2.1;exact⟨a',l,e1,k _ _ e2 e3,e3,e4,e5.move mv⟩
    |ob o=>exact ORel.move mv f2.1
   |own ds=>
    obtain⟨a',xs,e1,e2,e3,e4,e5,e6⟩:=f2;exact⟨a',xs,e1,k _ _ e2 (λz=>R.t0 (z▸e4)),.inl e3,e4,e5,e6.move mv⟩
   |odk kvs=>
    obtain⟨a',xs,e1,e2,e3,e4,e5,e6⟩:=f2;exact⟨a',xs,e1,k _ _ e2 (λz=>R.t0 (z▸e4)),.inl e3,e4,e5,e6.move mv⟩
   |odt kvs=>
    obtain⟨a',xs,e1,e2,e3,e4,e5,e6⟩:=f2;exact⟨a',xs,e1,k _ _ e2 (λz=>R.t0 (z▸e4)),.inl e3,e4,e5,e6.move mv⟩
 ow:=λj m y z u e1 e2 o1 o2 f1 f2=>by
  have out:∀{p:Nat}{w:SV},δ[p]?=ae (ae w)->w.isOwn=ai->σ[p]?=ae (ae (.ref a))->False:=λ{p w} e ow f=>by
   obtain⟨v,g1,g2⟩:=R.sl p w e;rw[f]at g1;cases g1;cases w with
   |w _=>cases ow
   |own ds=>
    obtain⟨a',xs,e1,e2,_⟩:=g2;cases e1;rw[h0]at e2;cases e2
   |odk ds=>
    obtain⟨a',xs,e1,e2,_⟩:=g2;cases e1;rw[h0]at e2;cases e2
   |odt ds=>
    obtain⟨a',xs,e1,e2,_⟩:=g2;cases e1;rw[h0]at e2;cases e2
  rcases gY e1 with⟨rfl,rfl⟩|⟨ne1,e1'⟩
  ·rcases gY e2 with⟨rfl,rfl⟩|⟨ne2,e2'⟩
   ·rfl
   ·rw[ub (by rw[R.len];exact tX e1)]at f1;rw[lj ne2]at f2;cases f1;exact(out e2' o2 f2).elim
  ·rcases gY e2 with⟨rfl,rfl⟩|⟨ne2,e2'⟩
   ·rw[ub (by rw[R.len];exact tX e2)]at f2;rw[lj ne1]at f1;cases f2;exact(out e1' o1 f1).elim
   ·rw[lj ne1]at f1;rw[lj ne2]at f2;exact R.ow j m y z u e1' e2' o1 o2 f1 f2
 len:=by rw[Cw,Cw];exact R.len
theorem Rel.give(R:Rel C H B σ δ n)(hi:δ[i]?=ae (ae x))(ox:x.isOwn=ai)(hv:σ[i]?=ae (ae (.ref a)))(e4:C.H0 a=ah)(hy:WRel H (λb=>B b/\b≠a) C.t (.ref a) y)(hl:y.lent=aj):Rel C H (λb=>B b/\b≠a) σ (δ.set i (ae (.w y))) n:=by
 have less:∀b,(B b/\b≠a)->B b:=λb z=>z.1;exact{
  tp:=R.tp,kp:=R.kp,t0:=R.t0,l0:=R.l0,g0:=R.g0
  fz:=λb o e=>⟨(R.fz b o e).1,λz=>(R.fz b o e).2 z.1⟩
  bt:=⟨R.bt,λz=>R.t0 (z▸e4)⟩
  b0:=λb z=>⟨R.b0 b z,λq=>R.a0 b z (q▸e4)⟩
  ba:=λb z=>R.ba b z.1
  a0:=R.a0
  sl:=λj y' e=>by
   rcases gY e with⟨rfl,rfl⟩|⟨ne,e'⟩
   ·exact⟨_,hv,hy,λz=>by rw[hl]at z;cases z⟩
   ·obtain⟨u,f1,f2⟩:=R.sl j y' e';refine⟨u,f1,?_⟩;cases y' with
    |w y=>exact⟨f2.1.less less,f2.2⟩
    |own ds'=>
     obtain⟨a',xs',g1,g2,g3,g4,g5,g6⟩:=f2;refine⟨a',xs',g1,g2,⟨g3,λz=>?_⟩,g4,g5,g6.less less⟩;exact ne (R.ow j i _ _ _ e' hi rfl ox f1 (by rw[hv,g1,z]))
    |odk ds'=>
     obtain⟨a',xs',g1,g2,g3,g4,g5,g6⟩:=f2;refine⟨a',xs',g1,g2,⟨g3,λz=>?_⟩,g4,g5,g6.move λb o e n=>⟨e,λz=>n z.1⟩⟩;exact ne (R.ow j i _ _ _ e' hi rfl ox f1 (by rw[hv,g1,z]))
    |odt ds'=>
     obtain⟨a',xs',g1,g2,g3,g4,g5,g6⟩:=f2;refine⟨a',xs',g1,g2,⟨g3,λz=>?_⟩,g4,g5,g6.move λb o e n=>⟨e,λz=>n z.1⟩⟩;exact ne (R.ow j i _ _ _ e' hi rfl ox f1 (by rw[hv,g1,z]))
  ow:=λj k y z u e1 e2 o1 o2 f1 f2=>by
   rcases gY e1 with⟨rfl,rfl⟩|⟨ne1,e1'⟩
   ·cases o1
   ·rcases gY e2 with⟨rfl,rfl⟩|⟨ne2,e2'⟩
    ·cases o2
    ·exact R.ow j k y z u e1' e2' o1 o2 f1 f2
  len:=by rw[Cw];exact R.len}
theorem Rel.frz{δ:Sl}{n:Int}{i:Nat}{ds:List Aa}(R:Rel C H B σ δ n)(hi:δ[i]?=ae (ae (.own ds))):∃B',Rel C H B' σ (δ.set i (↑(.list ds))) n:=by
 obtain⟨v,hv,a,xs,rfl,e2,e3,e4,e5,e6⟩:=R.sl i _ hi;exact⟨_,R.give hi rfl hv e4 (show RdX H _ (.ref a) (.list ds)from .lst e2 (λz=>z.2 rfl) e5 (e6.less λb z=>z.1)) rfl⟩
theorem Rel.frzK(R:Rel C H B σ δ n)(hi:δ[i]?=ae (ae (.odk m))):∃B',Rel C H B' σ (δ.set i (ae (.w (.ob (.k m))))) n:=by
 obtain⟨v,hv,a,xs,rfl,e2,e3,e4,e5,e6⟩:=R.sl i _ hi;exact⟨_,R.give hi rfl hv e4 ⟨a,xs,rfl,e2,λz=>z.2 rfl,e6.move λb o e n=>⟨e,λz=>n z.1⟩⟩ rfl⟩
abbrev DQ:=Wv->Int->Prop
abbrev DT:=Sl->Int->DQ->Prop
abbrev cM:=Sl->Int->(Bool->Int->Prop)->Prop
abbrev eZ:=Sl->Int->(List Wv->Int->Prop)->Prop
inductive ARel(H:Hp)(B:Addr->Prop)(t:Addr):List V->List Wv->Prop
 |nil:ARel H B t [] []
 |cons {v:V} {vs:List V} {x:Wv} {xs:List Wv}:WRel H B t v x->ARel H B t vs xs->ARel H B t (v::vs) (x::xs)
theorem ARel.kp(k:Kp t H H')(ht:B t):∀{vs:List V}{xs:List Wv},ARel H B t vs xs->ARel H' B t vs xs
 |_,_,.nil=>.nil
 |_,_,.cons a b=>.cons (a.kp k ht) (ARel.kp k ht b)
theorem ARel.len:∀{vs:List V}{xs:List Wv},ARel H B t vs xs->vs.length=xs.length
 |_,_,.nil=>rfl
 |_,_,.cons _ b=>by rw[Ap,Ap,ARel.len b]
def fe(t:TE)(w:DT):Prop:=∀(C:Ctx)(H:Hp)(B:Addr->Prop)(σ:St)(δ:Sl)(n:Int)(Q:DQ)(Q':VK),Rel C H B σ δ n->w δ n Q->
 (∀v x H' n',Rel C H' B σ δ n'->Kp C.t H H'->WRel H' B C.t v x->Q x n'->Q' v H')->t σ H Q'
def kX(t:TT)(w:cM):Prop:=∀(C:Ctx)(H:Hp)(B:Addr->Prop)(σ:St)(δ:Sl)(n:Int)(Q:Bool->Int->Prop)(Q':Bool->Hp->Prop),Rel C H B σ δ n->w δ n Q->
 (∀b H' n',Rel C H' B σ δ n'->Kp C.t H H'->Q b n'->Q' b H')->t σ H Q'
def ky(t:TA)(w:eZ):Prop:=∀(C:Ctx)(H:Hp)(B:Addr->Prop)(σ:St)(δ:Sl)(n:Int)(Q:List Wv->Int->Prop)(Q':List V->Hp->Prop),Rel C H B σ δ n->w δ n Q->
 (∀vs xs H' n',Rel C H' B σ δ n'->Kp C.t H H'->ARel H' B C.t vs xs->Q xs n'->Q' vs H')->t σ H Q'
abbrev fN:=Sl->Int->(List Aa->Int->Prop)->Prop
def ke(t:TE)(w:fN):Prop:=∀(C:Ctx)(H:Hp)(B:Addr->Prop)(σ:St)(δ:Sl)(n:Int)(Q:List Aa->Int->Prop)(Q':VK),Rel C H B σ δ n->w δ n Q->
 (∀a xs ds H' n',Rel C H' B σ δ n'->Kp C.t H H'->H a=ah->H' a=ae (.lst xs)->xs.length<=Ay->RdXs H' (λb=>B b\/b=a) xs ds->Q ds n'->Q' (.ref a) H')->t σ H Q'
structure DE(X:Cx)(e:Expr)(t:TE)(w:DT):Prop where
 pe:PE X e t
 sd:fe t w
structure DC(X:Cx)(e:Expr)(t:TT)(w:cM):Prop where
 pt:PT X e t
 sd:kX t w
structure DCW(X:Cx)(e:Expr)(t:TT)(w:cM):Prop where
 pw:PW X e t
 sd:kX t w
structure DA(X:Cx)(es:List Expr)(t:TA)(w:eZ):Prop where
 pa:PA X es t
 sd:ky t w
structure DF(X:Cx)(e:Expr)(t:TE)(w:fN):Prop where
 pe:PE X e t
 sd:ke t w
variable{X:Cx}{a b c e:Expr}{ta tb tc te:TE}{wa wb wc we:DT}{pos:Pos}
def ak(i:Nat):DT:=λδ n Q=>match δ[i]? with
 |some (ae (.w x))=>Q x n
 |_=>False
theorem AB(i){p:Pos}(hN:X.N[i]?=ae x:=by rfl)(hv:gh X.env.scope x:=by first|exact C4 rfl|exact B9 (C4 rfl)|exact B9 (B9 rfl))(hd:(x==("__debug__":Str))=aj:=by decide)
  (hcd:(x==("__classdict__":Str))=aj:=by decide):DE X (.Name x p) (bw i) (ak i):=⟨iY hN hv hd hcd,λC H B σ δ n Q Q' R h k=>by
 unfold ak at h
 split at h
 ·rename_i x e;obtain⟨v,h1,h2⟩:=R.sl i _ e;exact⟨v,h1,k v x H n R (Kp.refl _ _) h2.1 h⟩
 ·exact h.elim⟩
def wC(d:Aa):DT:=λ_ n Q=>Q (.d d) n
theorem qP(h:∀H B,RdX H B v d):fe (tC v) (wC d):=λC H B σ δ n Q Q' R q k=>k v (.d d) H n R (Kp.refl _ _) (h H B) q
theorem Kj{i j p}:DE X (.Constant (.int i) j p) (tC (.int i)) (wC (.int i)):=⟨dg,qP λ_ _=>.int i⟩
theorem yZ{i j p}:DE X (.Constant (.bool i) j p) (tC (.bl i)) (wC (.bool i)):=⟨QQ,qP λ_ _=>.bl i⟩
theorem QD{j p}:DE X (.Constant .none j p) (tC .non) (wC .none):=⟨sv,qP λ_ _=>.non⟩
theorem Vn{x j p}(h:Str.length x<=Ay:=by decide +kernel):DE X (.Constant (.str x) j p) (tC (.str x)) (wC (.str x)):=⟨N6,qP λ_ _=>.str x h⟩
theorem Ku(hg:Gl X x)(hm:X.mg x=ae (.int i tk))(hd:(x==("__debug__":Str))=aj:=by decide):DE X (.Name x p) (tC (.int i)) (wC (.int i)):=⟨pJ hg hm ⟨tk,rfl⟩ hd,qP λ_ _=>.int i⟩
def w2(wa wb:DT)(g:Wv->Wv->Int->DQ->Prop):DT:=λδ n Q=>wa δ n λx n1=>wb δ n1 λy n2=>g x y n2 Q
def bO(r:R2)(g:Wv->Wv->Int->DQ->Prop):Prop:=∀(C:Ctx)(H:Hp)(B:Addr->Prop)(σ:St)(δ:Sl)(n:Int)(x y:V)(p q:Wv)(Q:DQ)(Q':VK),Rel C H B σ δ n->WRel H B C.t x p->WRel H B C.t y q->g p q n Q->
 (∀v x H' n',Rel C H' B σ δ n'->Kp C.t H H'->WRel H' B C.t v x->Q x n'->Q' v H')->r x y H Q'
theorem pX(hr:bO r g)(ha:fe ta wa)(hb:fe tb wb):fe (dz r ta tb) (w2 wa wb g):=λC H B σ δ n Q Q' R h k=>
 ha C H B σ δ n _ _ R h λv x H1 n1 R1 k1 r1 q1=>hb C H1 B σ δ n1 _ _ R1 q1 λu y H2 n2 R2 k2 r2 q2=>
  hr C H2 B σ δ n2 v u x y Q Q' R2 (r1.kp k2 R1.bt) r2 q2 λz p H3 n3 R3 k3 r3 q3=>k z p H3 n3 R3 ((k1.trans k2).trans k3) r3 q3
theorem iO(ho:OpR X (Ei op) r)(hr:bO r g)(ha:DE X a ta wa)(hb:DE X b tb wb):DE X (.BinOp a op b pos) (dz r ta tb) (w2 wa wb g):=
 ⟨fj ho ha.pe hb.pe,pX hr ha.sd hb.sd⟩
theorem vR(ho:OpR X (By op) r)(hr:bO r g)(ha:DE X a ta wa)(hb:DE X b tb wb)(hm:Ci op b=aj):DE X (.Compare a [op] [b] pos) (dz r ta tb) (w2 wa wb g):=
 ⟨O0 ho ha.pe hb.pe hm,pX hr ha.sd hb.sd⟩
def cT(w:DT):cM:=λδ n Q=>w δ n λx n'=>match x with
 |.d (.bool k)=>Q k n'
 |_=>False
theorem wd(h:RdX H B v d):WRel H B t v (.d d):=h
theorem lE(h:fe t w):kX (jv t) (cT w):=λC H B σ δ n Q Q' R q k=>
 h C H B σ δ n _ _ R q λv x H' n' R' k' r' q'=>by
  split at q'
  ·rename_i b;cases(show RdX H' B v (.bool b)from r');exact⟨b,rfl,k b H' n' R' k' q'⟩
  ·exact q'.elim
theorem iL(ho:OpR X (By op) r)(hr:bO r g)(ha:DE X a ta wa)(hb:DE X b tb wb)(hm:Ci op b=aj):DC X (.Compare a [op] [b] pos) (jv (dz r ta tb)) (cT (w2 wa wb g)):=
 ⟨j6 ho ha.pe hb.pe hm,lE (pX hr ha.sd hb.sd)⟩
theorem TB(h:DE X e t w)(he:∀whole,isTrue e X.env whole=(do let v <-whole;standAt e.pos;holding [v] (truthy v)):=by intro _;rfl):DC X e (jv t) (cT w):=⟨RX h.pe he,lE h.sd⟩
def jR(x:Wv)(A B:Prop):Prop:=match x with
 |.d (.bool ai)=>A
 |.d (.bool aj)=>B
 |_=>False
def qe(g g':Wv->Wv->Int->DQ->Prop)(wa wb wc:DT):DT:=λδ n Q=>wa δ n λx n1=>wb δ n1 λy n2=>g x y n2 λz n3=>jR z (wc δ n3 λu n4=>g' y u n4 Q) (Q (.d (.bool aj)) n3)
theorem VD(hr:bO r g)(hr':bO r' g')(ha:fe ta wa)(hb:fe tb wb)(hc:fe tc wc):fe (vG r r' ta tb tc) (qe g g' wa wb wc):=λC H B σ δ n Q Q' R h k=>
 ha C H B σ δ n _ _ R h λv x H1 n1 R1 k1 r1 q1=>hb C H1 B σ δ n1 _ _ R1 q1 λu y H2 n2 R2 k2 r2 q2=>
  hr C H2 B σ δ n2 v u x y _ _ R2 (r1.kp k2 R1.bt) r2 q2 λz p H3 n3 R3 k3 r3 q3=>by
   have k13:=(k1.trans k2).trans k3;unfold jR at q3
   split at q3
   ·cases(show RdX H3 B z (.bool ai)from r3);refine⟨ai,rfl,?_⟩;rw[if_pos rfl];exact hc C H3 B σ δ n3 _ _ R3 q3 λw0 x0 H4 n4 R4 k4 r4 q4=>hr' C H4 B σ δ n4 u w0 y x0 Q Q' R4 ((r2.kp k3 R2.bt).kp k4 R3.bt) r4 q4 λz p H5 n5 R5 k5 r5 q5=>k z p H5 n5 R5 ((k13.trans k4).trans k5) r5 q5
   ·cases(show RdX H3 B z (.bool aj)from r3);refine⟨aj,rfl,?_⟩;rw[if_neg Ae];exact k _ _ H3 n3 R3 k13 (wd (.bl aj)) q3
   ·exact q3.elim
theorem SH(ho:OpR X (By op) r)(hr:bO r g)(ho':OpR X (By op') r')(hr':bO r' g')(ha:DE X a ta wa)(hb:DE X b tb wb)(hc:DE X c tc wc)
  (hm:lastMarks [op,op'] [b,c]=aj:=by with_unfolding_all rfl):DE X (.Compare a [op,op'] [b,c] pos) (vG r r' ta tb tc) (qe g g' wa wb wc):=⟨UR ho ho' ha.pe hb.pe hc.pe hm,VD hr hr' ha.sd hb.sd hc.sd⟩
variable{tA tB':TT}{cA cB:cM}{aP:List Expr}
def bW(u v:cM):cM:=λδ n Q=>u δ n λb n1=>if b=ai then v δ n1 Q else Q aj n1
def fX(u v:cM):cM:=λδ n Q=>u δ n λb n1=>if b=ai then Q ai n1 else v δ n1 Q
def cR(u:cM):cM:=λδ n Q=>u δ n λb n1=>Q (!b) n1
theorem cw_and1(h:DC X a tA cA):DCW X (.BoolOp .And [a] pos) tA cA:=⟨zR h.pt,h.sd⟩
theorem cw_or1(h:DC X a tA cA):DCW X (.BoolOp .Or [a] pos) tA cA:=⟨NX h.pt,h.sd⟩
theorem cw_and(h:DC X a tA cA)(h2:DCW X (.BoolOp .And (b::aP) pos) tB' cB):DCW X (.BoolOp .And (a::b::aP) pos) (qv tA tB') (bW cA cB):=⟨BZ h.pt h2.pw,λC H B σ δ n Q Q' R q k=>
 h.sd C H B σ δ n _ _ R q λb H1 n1 R1 k1 q1=>by
  cases b with
  |true=>
   rw[if_pos rfl]at q1 ⊢;exact h2.sd C H1 B σ δ n1 _ _ R1 q1 λb H2 n2 R2 k2 q2=>k b H2 n2 R2 (k1.trans k2) q2
  |false=>
   rw[if_neg Ae]at q1 ⊢;exact k aj H1 n1 R1 k1 q1⟩
theorem cw_or(h:DC X a tA cA)(h2:DCW X (.BoolOp .Or (b::aP) pos) tB' cB):DCW X (.BoolOp .Or (a::b::aP) pos) (BL tA tB') (fX cA cB):=⟨PY h.pt h2.pw,λC H B σ δ n Q Q' R q k=>
 h.sd C H B σ δ n _ _ R q λb H1 n1 R1 k1 q1=>by
  cases b with
  |true=>
   rw[if_pos rfl]at q1 ⊢;exact k ai H1 n1 R1 k1 q1
  |false=>
   rw[if_neg Ae]at q1 ⊢;exact h2.sd C H1 B σ δ n1 _ _ R1 q1 λb H2 n2 R2 k2 q2=>k b H2 n2 R2 (k1.trans k2) q2⟩
theorem DCW.cc(h:DCW X a tA cA):DC X a tA cA:=⟨h.pw.pt,h.sd⟩
theorem Vo(h:DC X a tA cA):DC X (.UnaryOp .Not a pos) (qQ tA) (cR cA):=⟨MI h.pt,λC H B σ δ n Q Q' R q k=>h.sd C H B σ δ n _ _ R q λb H1 n1 R1 k1 q1=>k (!b) H1 n1 R1 k1 q1⟩
def iG(u v:DT):DT:=λδ n Q=>u δ n λx n1=>jR x (v δ n1 Q) (Q (.d (.bool aj)) n1)
def Hg(u v:DT):DT:=λδ n Q=>u δ n λx n1=>jR x (Q (.d (.bool ai)) n1) (v δ n1 Q)
def pC(u:DT):DT:=λδ n Q=>u δ n λx n1=>match x with
 |.d (.bool b)=>Q (.d (.bool !b)) n1
 |_=>False
theorem Tc{op}(h:DE X a ta wa):DE X (.BoolOp op [a] pos) ta wa:=⟨TR h.pe,h.sd⟩
theorem Po(h:DE X a ta wa)(h2:DE X (.BoolOp .And (b::aP) pos) tb wb):DE X (.BoolOp .And (a::b::aP) pos) (ES ta tb) (iG wa wb):=⟨N9 h.pe h2.pe,λC H B σ δ n Q Q' R q k=>
 h.sd C H B σ δ n _ _ R q λv x H1 n1 R1 k1 r1 q1=>by
  unfold jR at q1
  split at q1
  ·cases(show RdX H1 B v (.bool ai)from r1);refine⟨ai,rfl,?_⟩;rw[if_pos rfl];exact h2.sd C H1 B σ δ n1 _ _ R1 q1 λv x H2 n2 R2 k2 r2 q2=>k v x H2 n2 R2 (k1.trans k2) r2 q2
  ·cases(show RdX H1 B v (.bool aj)from r1);refine⟨aj,rfl,?_⟩;rw[if_neg Ae];exact k _ _ H1 n1 R1 k1 (wd (.bl aj)) q1
  ·exact q1.elim⟩
theorem xG(h:DE X a ta wa)(h2:DE X (.BoolOp .Or (b::aP) pos) tb wb):DE X (.BoolOp .Or (a::b::aP) pos) (p9 ta tb) (Hg wa wb):=⟨KW h.pe h2.pe,λC H B σ δ n Q Q' R q k=>
 h.sd C H B σ δ n _ _ R q λv x H1 n1 R1 k1 r1 q1=>by
  unfold jR at q1
  split at q1
  ·cases(show RdX H1 B v (.bool ai)from r1);refine⟨ai,rfl,?_⟩;rw[if_pos rfl];exact k _ _ H1 n1 R1 k1 (wd (.bl ai)) q1
  ·cases(show RdX H1 B v (.bool aj)from r1);refine⟨aj,rfl,?_⟩;rw[if_neg Ae];exact h2.sd C H1 B σ δ n1 _ _ R1 q1 λv x H2 n2 R2 k2 r2 q2=>k v x H2 n2 R2 (k1.trans k2) r2 q2
  ·exact q1.elim⟩
theorem Kf(h:DE X a ta wa):DE X (.UnaryOp .Not a pos) (IG ta) (pC wa):=⟨RU h.pe,λC H B σ δ n Q Q' R q k=>
 h.sd C H B σ δ n _ _ R q λv x H1 n1 R1 k1 r1 q1=>by
  split at q1
  ·rename_i b;cases(show RdX H1 B v (.bool b)from r1);exact⟨b,rfl,k _ _ H1 n1 R1 k1 (wd (.bl _)) q1⟩
  ·exact q1.elim⟩
def fJ(u:cM)(v w:DT):DT:=λδ n Q=>u δ n λb n1=>if b=ai then v δ n1 Q else w δ n1 Q
theorem Lp(h:DC X c tA cA)(h1:DE X a ta wa)(h2:DE X b tb wb):DE X (.IfExp c a b pos) (EV tA ta tb) (fJ cA wa wb):=⟨Me h.pt h1.pe h2.pe,λC H B σ δ n Q Q' R q k=>
 h.sd C H B σ δ n _ _ R q λb H1 n1 R1 k1 q1=>by
  cases b with
  |true=>
   rw[if_pos rfl]at q1 ⊢;exact h1.sd C H1 B σ δ n1 _ _ R1 q1 λv x H2 n2 R2 k2 r2 q2=>k v x H2 n2 R2 (k1.trans k2) r2 q2
  |false=>
   rw[if_neg Ae]at q1 ⊢;exact h2.sd C H1 B σ δ n1 _ _ R1 q1 λv x H2 n2 R2 k2 r2 q2=>k v x H2 n2 R2 (k1.trans k2) r2 q2⟩
variable{es:List Expr}{tR:TA}{wR:eZ}
def ao:eZ:=λ_ n Q=>Q [] n
def aq(w:DT)(r:eZ):eZ:=λδ n Q=>w δ n λx n1=>r δ n1 λxs n2=>Q (x::xs) n2
theorem Mm:DA X [] bL ao:=⟨fI,λC H B σ δ n Q Q' R q k=>k [] [] H n R (Kp.refl _ _) .nil q⟩
theorem M8(h:DE X e te we)(hr:DA X es tR wR)(hs:Az (e::es) X.env=(aj,eval e X.env)::Az es X.env:=by rfl):DA X (e::es) (c7 te tR) (aq we wR):=⟨dF h.pe hr.pa hs,λC H B σ δ n Q Q' R q k=>
 h.sd C H B σ δ n _ _ R q λv x H1 n1 R1 k1 r1 q1=>hr.sd C H1 B σ δ n1 _ _ R1 q1 λvs xs H2 n2 R2 k2 r2 q2=>k (v::vs) (x::xs) H2 n2 R2 (k1.trans k2) (.cons (r1.kp k2 R1.bt) r2) q2⟩
def iV:List Wv->Option (List Aa)
 |[]=>ae []
 |.d x::r=>(iV r).map (x::·)
 |_::_=>ah
theorem ARel.plain:∀{vs:List V}{xs:List Wv}{ds:List Aa},ARel H B t vs xs->iV xs=ae ds->RdXs H B vs ds
 |_,_,_,.nil,h=>by
  cases h;exact .nil
 |_,_,ds,.cons (x:=x) (xs:=xs) a b,h=>by
  cases x with
  |d x=>
   have h':(iV xs).map (x::·)=ae ds:=h;cases e:iV xs with
   |none=>rw[e]at h';cases h'
   |some es=>
    rw[e]at h';cases h';exact .cons a (ARel.plain b e)
  |tp=>cases h
  |dk _=>cases h
  |ln _=>cases h
  |ob _=>cases h
theorem RdXs.fresh(h:RdXs H B vs ds)(hp:H p=ah):RdXs (upd H p o) (λb=>B b\/b=p) vs ds:=
 h.move λb o' e n=>⟨by rw[aW (bY e hp)];exact e,λz=>z.elim n λq=>bY e hp q⟩
def aA(w:eZ):DT:=λδ n Q=>w δ n λxs n1=>match iV xs with
 |some ds=>ds.length<=1000/\Q (.d (.tuple ds)) n1
 |none=>False
theorem OW{x1}(h:DA X es tR wR):DE X (.Tuple es x1 pos) (l8 tR) (aA wR):=⟨CT h.pa,λC H B σ δ n Q Q' R q k=>
 h.sd C H B σ δ n _ _ R q λvs xs H1 n1 R1 k1 r1 q1=>by
  split at q1
  ·rename_i ds e;have r:=r1.plain e;have hl:vs.length<=Ay:=by rw[r.len];exact small q1.1
   refine⟨hl,λp hp=>k _ _ _ n1 (R1.new hp) (k1.trans (Kp.new hp)) (wd (show RdX _ B (.ref p) (.tuple ds)from ?_)) q1.2⟩;exact .tup bQ (R1.nb hp) hl ((r.fresh hp).less λb z=>.inl z)
  ·exact q1.elim⟩
def aQ(w:eZ):fN:=λδ n Q=>w δ n λxs n1=>match iV xs with
 |some ds=>ds.length<=1000/\Q ds n1
 |none=>False
theorem RJ(h:DA X es tR wR):DF X (.List es pos) (jm tR) (aQ wR):=⟨uW h.pa,λC H B σ δ n Q Q' R q k=>
 h.sd C H B σ δ n _ _ R q λvs xs H1 n1 R1 k1 r1 q1=>by
  split at q1
  ·rename_i ds e;have r:=r1.plain e;have hl:vs.length<=Ay:=by rw[r.len];exact small q1.1
   have hn:∀p,H1 p=ah->H p=ah:=λp hp=>by
    cases q:H p with
    |none=>rfl
    |some o=>
     by_cases z:p=C.t
     ·subst z;obtain⟨_,_,h,_⟩:=R1.tp.ob;rw[h]at hp;cases hp
     ·rw[k1 p o q z]at hp;cases hp
   exact⟨hl,λp hp=>k p vs ds _ n1 (R1.new hp) (k1.trans (Kp.new hp)) (hn p hp) bQ hl (r.fresh hp) q1.2⟩
  ·exact q1.elim⟩
def bj(w:fN):DT:=λδ n Q=>w δ n λds n1=>Q (.d (.list ds)) n1
theorem Rh(h:ke t w):fe t (bj w):=λC H B σ δ n Q Q' R q k=>
 h C H B σ δ n _ _ R q λa xs ds H' n' R' k' h0 h1 h2 h3 q'=>k _ _ H' n' R' k' (wd (show RdX H' B (.ref a) (.list ds)from .lst h1 (R.nb h0) h2 (h3.less λb z=>.inl z))) q'
theorem DF.d(h:DF X e t w):DE X e t (bj w):=⟨h.pe,Rh h.sd⟩
theorem Rel.was(R1:Rel C H1 B σ δ n1)(k1:Kp C.t H H1)(hp:H1 p=ah):H p=ah:=by
 cases q:H p with
 |none=>rfl
 |some o=>
  by_cases z:p=C.t
  ·subst z;obtain⟨_,_,h,_⟩:=R1.tp.ob;rw[h]at hp;cases hp
  ·rw[k1 p o q z]at hp;cases hp
abbrev bz:=List Wv->Int->DQ->Prop
def f7(S:bz):Sp:=λvs H Q _=>∃(t:Addr)(l:TL)(ns:List Int)(B:Addr->Prop)(ws:List Wv)(n:Int)(Q0:DQ),Tp H t l ns n/\B t/\(∀b,B b->H b≠ah)/\ARel H B t vs ws/\S ws n Q0 /\
 ∀w n',Q0 w n'->∀v H',Tp H' t l ns n'->Kp t H H'->WRel H' B t v w->Q v H'
section
variable{X:Cx}{e:Expr}{es:List Expr}{pos p:Pos}{tR:TA}{wR:eZ}
def aH(S:bz)(w:eZ):DT:=λδ n Q=>w δ n λxs n1=>S xs n1 Q
theorem Vw(h:ky t w):fe (jP (f7 S) [] E0 t) (aH S w):=λC H B σ δ n Q Q' R q k=>
 h C H B σ δ n _ _ R q λvs xs H1 n1 R1 k1 r1 q1=>by
  refine⟨C.t,C.l,C.ns,B,xs,n1,Q,R1.tp,R1.bt,R1.ba,by rw[Bm];exact r1,q1,λw n' q2 v H' T' k' r'=>?_⟩;exact k v w H' n' (R1.step T' k') (k1.trans k') r' q2
theorem TF(F:FnOk X.prog X.w X.K X.mg X.base dU k f fd ps (f7 S))(hr:Room k X.A)(hg:Gl X x)(hm:X.mg x=ae (.ref f))(hk:C3 X.K (.ref f)=ai)(hb:Binds X.K fd ps [])
  (ha:DA X (e::es) tR wR) (hdb:(x==("__debug__":Str))=aj:=by decide) (he:Az (e::es) X.env=(aj,eval e X.env)::Az es X.env:=by rfl) (hpl:(Dj pos (Az es X.env)).any (·.1)=aj:=by rfl):
  DE X (.Call (.Name x p) (e::es) [] pos) (jP (f7 S) [] E0 tR) (aH S wR):=⟨xc F hr hg hm hk hb .nil yP ha.pa hdb he hpl,Vw ha.sd⟩
def dM(r:List V->Hp->VK->Prop)(g:List Wv->Int->DQ->Prop):Prop:=∀(C:Ctx)(H:Hp)(B:Addr->Prop)(σ:St)(δ:Sl)(n:Int)(vs:List V)(xs:List Wv)(Q:DQ)(Q':VK),Rel C H B σ δ n->ARel H B C.t vs xs->g xs n Q->
 (∀v x H' n',Rel C H' B σ δ n'->Kp C.t H H'->WRel H' B C.t v x->Q x n'->Q' v H')->r vs H Q'
def wB(g:List Wv->Int->DQ->Prop)(w:eZ):DT:=λδ n Q=>w δ n λxs n1=>g xs n1 Q
theorem Ha(hr:dM r g)(h:ky t w):fe (fY r t) (wB g w):=λC H B σ δ n Q Q' R q k=>
 h C H B σ δ n _ _ R q λvs xs H1 n1 R1 k1 r1 q1=>hr C H1 B σ δ n1 vs xs Q Q' R1 r1 q1 λv x H2 n2 R2 k2 r2 q2=>k v x H2 n2 R2 (k1.trans k2) r2 q2
theorem oM{id:String}(hc:CallR X (.builtin id) r)(hr:dM r g)(hg:Gl X x)(hm:X.mg x=ah)(hv:B3 x=ae (.builtin id))(ha:DA X (e::es) tR wR)(hn:x≠"__name__":=by decide)(hdb:(x==("__debug__":Str))=aj:=by decide)
  (he:Az (e::es) X.env=(aj,eval e X.env)::Az es X.env:=by rfl) (hpl:(Dj pos (Az es X.env)).any (·.1)=aj:=by rfl):DE X (.Call (.Name x p) (e::es) [] pos) (fY r tR) (wB g wR):=⟨mN hc hg hm hv ha.pa hn hdb he hpl,Ha hr ha.sd⟩
theorem rg(hc:CallR X (.type T) r)(hr:dM r g)(hg:Gl X x)(hm:X.mg x=ah)(hv:B3 x=ae (.type T))(ha:DA X (e::es) tR wR)(hn:x≠"__name__":=by decide)(hdb:(x==("__debug__":Str))=aj:=by decide)
  (he:Az (e::es) X.env=(aj,eval e X.env)::Az es X.env:=by rfl) (hpl:(Dj pos (Az es X.env)).any (·.1)=aj:=by rfl):DE X (.Call (.Name x p) (e::es) [] pos) (fY r tR) (wB g wR):=⟨mQ hc hg hm hv ha.pa hn hdb he hpl,Ha hr ha.sd⟩
end
structure DEnds where
 nx:Sl->Int->Prop
 rt:DQ
 bk:Sl->Int->Prop:=λ_ _=>False
 ct:Sl->Int->Prop:=λ_ _=>False
 rn:List Aa->Int->Prop:=λ_ _=>False
abbrev aR:=Sl->Int->DEnds->Prop
structure EndsOk(C:Ctx)(K:DEnds)(D:Ends):Prop where
 nx:∀H B σ δ n,Rel C H B σ δ n->K.nx δ n->D.nx σ H
 rt:∀H B σ δ n v w,Rel C H B σ δ n->WRel H B C.t v w->K.rt w n->D.rt v H
 bk:∀H B σ δ n,Rel C H B σ δ n->K.bk δ n->D.bk σ H
 ct:∀H B σ δ n,Rel C H B σ δ n->K.ct δ n->D.ct σ H
 rn:∀H B σ δ n a xs ds,Rel C H B σ δ n->C.H0 a=ah->H a=ae (.lst xs)->xs.length<=Ay->RdXs H (λb=>B b\/b=a) xs ds->K.rn ds n->D.rt (.ref a) H
def jw(T:TS)(W:aR):Prop:=∀(C:Ctx)(H:Hp)(B:Addr->Prop)(σ:St)(δ:Sl)(n:Int)(K:DEnds)(D:Ends),Rel C H B σ δ n->W δ n K->EndsOk C K D->T D σ H
structure DS(X:Cx)(st:Stmt)(T:TS)(W:aR):Prop where
 ps:PS X st T
 sd:jw T W
structure DSs(X:Cx)(st:List Stmt)(T:TS)(W:aR):Prop where
 ps:PSs X st T
 sd:jw T W
section
variable{X:Cx}{st:Stmt}{aP:List Stmt}{T U:TS}{W V':aR}{e:Expr}{te:TE}{we:DT}{pos:Pos}
def aG:aR:=λδ n K=>K.nx δ n
def au(W V:aR):aR:=λδ n K=>W δ n {K with nx:=λδ n=>V δ n K}
theorem VH:DSs X [] oI aG:=⟨sh,λC H B σ δ n K D R h E=>E.nx H B σ δ n R h⟩
theorem Lb(h:DS X st T W)(h2:DSs X aP U V'):DSs X (st::aP) (ic T U) (au W V'):=⟨ja h.ps h2.ps,λC H B σ δ n K D R q E=>
 h.sd C H B σ δ n _ _ R q ⟨λH B σ δ n R q=>h2.sd C H B σ δ n K D R q E,E.rt,E.bk,E.ct,E.rn⟩⟩
theorem QP(h:DS X st T W):DSs X [st] T W:=⟨nR h.ps,h.sd⟩
def aw(w:DT):aR:=λδ n K=>w δ n K.rt
theorem Lu(h:DE X e te we):DS X (.Return (ae e) pos) (jo te) (aw we):=⟨mI h.pe,λC H B σ δ n K D R q E=>
 h.sd C H B σ δ n _ _ R q λv x H' n' R' _ r' q'=>E.rt H' B σ δ n' v x R' r' q'⟩
def aL(c:cM)(W V:aR):aR:=λδ n K=>c δ n λb n1=>if b=ai then W δ n1 K else V δ n1 K
theorem yQ{a b:List Stmt}{tc:TT}(hc:DC X c tc cc)(ha:DSs X a T W)(hb:DSs X b U V'):DS X (.If c a b pos) (jD tc T U) (aL cc W V'):=⟨sT hc.pt ha.ps hb.ps,λC H B σ δ n K D R q E=>
 hc.sd C H B σ δ n _ _ R q λb H1 n1 R1 _ q1=>by
  cases b with
  |true=>
   rw[if_pos rfl]at q1 ⊢;exact ha.sd C H1 B σ δ n1 K D R1 q1 E
  |false=>
   rw[if_neg Ae]at q1 ⊢;exact hb.sd C H1 B σ δ n1 K D R1 q1 E⟩
def aF(i:Nat)(w:DT):aR:=λδ n K=>w δ n λx n1=>match x with
 |.d d=>K.nx (δ.set i (↑d)) n1
 |.tp=>K.nx (δ.set i (ae (.w .tp))) n1
 |.dk _=>False
 |.ln _=>False
 |.ob o=>K.nx (δ.set i (ae (.w (.ob o)))) n1
theorem Qu(hN:X.N.Nodup)(hi:X.N[i]?=ae x)(hx:kh X.env.scope x)(he:DE X e te we)(hs:Ed e (ae (.Name x pos')) pos.line X.env=pure aj:=by rfl)(hf:X.fn x=ai\/X.env.scope.names.lookup x=ae .local:=by first|exact .inl rfl|exact .inr rfl|assumption):
  DS X (.Assign [.Name x pos'] e pos) (c8 te (fi i)) (aF i we):=⟨jU hN hi hx he.pe hs hf,λC H B σ δ n K D R q E=>
 he.sd C H B σ δ n _ _ R q λv x H1 n1 R1 _ r1 q1=>by
  cases x with
  |d d=>exact E.nx _ _ _ _ _ (R1.set r1 rfl) q1
  |tp=>exact E.nx _ _ _ _ _ (R1.set r1 rfl) q1
  |dk _=>exact q1.elim
  |ln _=>exact q1.elim
  |ob o=>exact E.nx _ _ _ _ _ (R1.set r1 rfl) q1⟩
def br(i:Nat)(w:fN):aR:=λδ n K=>w δ n λds n1=>K.nx (δ.set i (ae (.own ds))) n1
theorem Rel.h0{a:Addr}(R:Rel C H B σ δ n)(h:H a=ah):C.H0 a=ah:=R.was R.kp h
theorem TK(hN:X.N.Nodup)(hi:X.N[i]?=ae x)(hx:kh X.env.scope x)(he:DF X e te w)(hs:Ed e (ae (.Name x pos')) pos.line X.env=pure aj:=by rfl)(hf:X.fn x=ai\/X.env.scope.names.lookup x=ae .local:=by first|exact .inl rfl|exact .inr rfl|assumption):
  DS X (.Assign [.Name x pos'] e pos) (c8 te (fi i)) (br i w):=⟨jU hN hi hx he.pe hs hf,λC H B σ δ n K D R q E=>
 he.sd C H B σ δ n _ _ R q λa xs ds H1 n1 R1 k1 h0 h1 h2 h3 q1=>by
  refine E.nx _ _ _ _ _ (R.own R1 k1 h0 (by rw[h1];exact λz=>nomatch z) rfl ?_) q1;exact⟨a,xs,rfl,h1,.inr rfl,R.h0 h0,h2,h3⟩⟩
def cI(i:Nat)(W:aR):aR:=λδ n K=>match δ[i]? with
 |some (ae (.own ds))=>W (δ.set i (↑(.list ds))) n K
 |some (ae (.odk m))=>W (δ.set i (ae (.w (.ob (.k m))))) n K
 |_=>W δ n K
theorem Sb(i)(h:DSs X sts T W):DSs X sts T (cI i W):=⟨h.ps,λC H B σ δ n K D R q E=>by
 unfold cI at q
 split at q
 ·rename_i ds e;obtain⟨B',R'⟩:=R.frz e;exact h.sd C H B' σ _ n K D R' q E
 ·rename_i m e;obtain⟨B',R'⟩:=R.frzK e;exact h.sd C H B' σ _ n K D R' q E
 ·exact h.sd C H B σ δ n K D R q E⟩
def aX(i:Nat)(w:DT):aR:=λδ n K=>match δ[i]? with
 |some (ae (.own ds))=>w δ n λx n1=>match x with
  |.d d=>ds.length < 1000000/\K.nx (δ.set i (ae (.own (ds++[d])))) n1
  |_=>False
 |_=>False
theorem IU(h:n < 1000000):n < Ay:=Nat.lt_trans h ∎
theorem JK{xp ap cp:Pos}(hN:X.N[i]?=ae x)(he:DE X e te we)(hv:gh X.env.scope x:=by first|exact C4 rfl|exact B9 (C4 rfl)|exact B9 (B9 rfl))(hd:(x==("__debug__":Str))=aj:=by decide)
  (hcd:(x==("__classdict__":Str))=aj:=by decide)
  (hbase:attributeBase (.Name x xp) "append" X.env (eval (.Name x xp) X.env)=eval (.Name x xp) X.env:=by rfl)
  (hfew:((Dj cp (Az [e] X.env)).all (λx=>!x.1)&&(backToKw cp (keywordEach [] X.env)).all (λx=>x.1.isSome)
   && decide ([e].length+([]:List Keyword).length+(if ([]:List Keyword).isEmpty then 0 else 1) < 30))=ai:=by rfl)
  (hline:(ap.endLine==cp.line)=ai:=by rfl) (hs:Az [e] X.env=[(aj,eval e X.env)]:=by rfl) (hplain:(Dj cp (Az [] X.env)).any (·.1)=aj:=by rfl)
  (hsw:Ed (.Call (.Attribute (.Name x xp) "append" ap) [e] [] cp) ah pos.line X.env=pure aj:=by rfl):
  DS X (.Expr (.Call (.Attribute (.Name x xp) "append" ap) [e] [] cp) pos) (sW (rQ X.K "list" rW (bw i) (c7 te bL))) (aX i we):=
 ⟨Ql (UE PySem.F.plainAttrs_list PySem.F.slot_list_append PySem.F.type_list_append wJ (iY hN hv hd hcd) (dF he.pe fI hs) hbase hfew hline hs hplain) hsw,λC H B σ δ n K D R q E=>by
  unfold aX at q
  split at q
  ·rename_i ds ei;obtain⟨v,hv,a,xs,rfl,e2,e3,e4,e5,e6⟩:=R.sl i _ ei;refine⟨_,hv,.inl ⟨rfl,_,SqL.of e2⟩,he.sd C H B σ δ n _ _ R q λu y H1 n1 R1 k1 r1 q1=>?_⟩;cases y with
   |d d=>
    have hat:a≠C.t:=λz=>R.t0 (z▸e4);have e2':=k1 _ _ e2 hat;refine⟨a,xs,u,rfl,rfl,e2',IU (by rw[e6.len];exact q1.1),?_⟩;refine E.nx _ _ _ _ _ (R1.mutOwn ei rfl hv e3 e4 ?_ rfl) q1.2;refine⟨a,xs++[u],rfl,bQ,e3,e4,?_,?_⟩
    ·rw[Af,e6.len];exact IU q1.1
    ·refine RdXs.keep (λb o e n=>?_) ((e6.kp k1 R.bt).append (.cons r1 .nil));rw[aW λ(z:b=a)=>n (z▸e3)];exact e
   |tp=>exact q1.elim
   |dk _=>exact q1.elim
   |ln _=>exact q1.elim
   |ob _=>exact q1.elim
  ·exact q.elim⟩
end
def iE(N:List Str)(ws:List Wv):Sl:=ws.map (λx=>ae (.w x))++Bj (N.length-ws.length) ah
def b9(S:bz)(W:aR)(N:List Str):Prop:=∀ws n Q,S ws n Q->W (iE N ws) n {nx:=λ_ n=>Q (.d .none) n,rt:=Q}
theorem ARel.get:∀{vs:List V}{xs:List Wv}{i:Nat}{x:Wv},ARel H B t vs xs->xs[i]?=ae x->∃v,vs[i]?=ae v/\WRel H B t v x
 |_,_,_,_,.nil,e=>by simp at e
 |_,_,0,_,.cons h _,e=>by
  simp at e;subst e;exact⟨_,rfl,h⟩
 |_,_,i+1,x,.cons _ r,e=>by
  obtain⟨v,h1,h2⟩:=ARel.get (i:=i) (x:=x) r (by simpa using e);exact⟨v,by simpa using h1,h2⟩
theorem I0(T:Tp H t l ns n)(bt:B t)(ba:∀b,B b->H b≠ah)(r:ARel H B t vs ws):Rel ⟨t,l,ns,H,B,λ_=>ah⟩ H B (L2.start N vs) (iE N ws) n where
 tp:=T
 kp:=Kp.refl _ _
 t0:=by
  obtain⟨_,_,h,_⟩:=T.ob;show H t≠ah;rw[h];exact λz=>nomatch z
 l0:=by
  show H l.s≠ah;rw[T.ls];exact λz=>nomatch z
 g0:=λe=>by
  show H l.g≠ah;rw[T.ag e];exact λz=>nomatch z
 fz:=λb o e=>nomatch e
 bt:=bt
 b0:=λ_ z=>z
 ba:=ba
 a0:=ba
 sl:=λi x e=>by
  have hl:=r.len;unfold iE at e;rw[List.getElem?_append]at e
  split at e
  ·rename_i hi;rw[Ab]at hi;rw[Ax]at e;cases q:ws[i]? with
   |none=>rw[q]at e;cases e
   |some y=>
    rw[q]at e;cases e;obtain⟨v,h1,h2⟩:=r.get q;refine⟨v,?_,h2,λz=>?_⟩
    ·unfold L2.start;rw[Ca (by rw[Ab,hl];exact hi),Ax,h1];rfl
    ·cases y with
     |d _=>cases z
     |tp=>cases z
     |dk _=>
      obtain⟨a,l',f1,f2,_⟩:=h2;exact⟨a,f1,by show H a≠ah;rw[f2];exact λz=>nomatch z⟩
     |ln _=>
      obtain⟨a,l',f1,f2,_⟩:=h2;exact⟨a,f1,by show H a≠ah;rw[f2];exact λz=>nomatch z⟩
     |ob _=>cases z
  ·rw[Ej]at e
   split at e
   ·cases e
   ·cases e
 ow:=λi j x y v e1 e2 o1 o2 _ _=>by
  unfold iE at e1;rw[List.getElem?_append]at e1
  split at e1
  ·rw[Ax]at e1;cases q:ws[i]? with
   |none=>rw[q]at e1;cases e1
   |some y=>
    rw[q]at e1;cases e1;cases o1
  ·rw[Ej]at e1
   split at e1
   ·cases e1
   ·cases e1
 len:=by
  unfold L2.start iE;rw[Af,Af,Ab,Ab,Gf,Gf,r.len]
section
variable{P:Bp}{w:B7}{K:Ag}{mg:Str->Option Ak}{base:Heap}
theorem Fun.okD(F:Fun K x qual st f fd)(Sc:FnScope N ps (dO st))(len:∀ws n Q,S ws n Q->ws.length=ps.length)
  (hbody:∀(cdv:Ak)(A:Ck)(outer:List Env)(s:Ar)(H:Hp)(E:XK),Room k (A.deeper (D6 qual (dO st) s.heap.objs.size f cdv))->
   ∃T W,DSs (d8 dU P w K mg base N qual (dO st) f cdv A outer s H E).nox (gS st) T W/\∀ws n Q,S ws n Q->W (iE N ws) n {nx:=λ_ n=>Q (.d .none) n,rt:=Q}):FnOk P w K mg base dU (k+1) f fd ps (f7 S):=by
 refine F.ok Sc (λvs H Q E h=>?_) (λcdv A outer s H vs Q E hr h=>?_)
 ·obtain⟨t,l,ns,B,ws,n,Q0,_,_,_,r,q,_⟩:=h;rw[r.len];exact len ws n Q0 q
 ·obtain⟨t,l,ns,B,ws,n,Q0,T,bt,ba,r,q,kk⟩:=h;obtain⟨T',W,d,hw⟩:=hbody cdv A outer s H E hr;refine⟨T',d.ps,d.sd ⟨t,l,ns,H,B,λ_=>ah⟩ H B _ _ n _ _ (I0 T bt ba r) (hw ws n Q0 q) ⟨?_,?_,?_,?_,λ_ _ _ _ _ _ _ _ _ _ _ _ _ z=>z.elim⟩⟩
  ·exact λH' B' σ δ n' R' q'=>kk _ _ q' .non H' R'.tp R'.kp (show RdX H' B .non .none from .non)
  ·exact λH' B' σ δ n' v x R' r' q'=>kk _ _ q' v H' R'.tp R'.kp (r'.less R'.b0)
  ·exact λ_ _ _ _ _ _ z=>z.elim
  ·exact λ_ _ _ _ _ _ z=>z.elim
end
section
variable{X:Cx}{a b c e:Expr}{ta tb tc te:TE}{wa wb wc we:DT}{pos p:Pos}
def gI(Cd:Int->Int->Prop)(f:Int->Int->Aa):Wv->Wv->Int->DQ->Prop:=λx y n Q=>match x,y with
 |.d (.int i),.d (.int j)=>Cd i j/\Q (.d (f i j)) n
 |_,_=>False
theorem QX(h:∀i j H B,RdX H B (g i j) (f i j)):bO (rI Cd g) (gI Cd f):=λC H B σ δ n x y p q Q Q' R rx ry h1 k=>by
 unfold gI at h1
 split at h1
 ·rename_i i j;cases(show RdX H B x (.int i)from rx);cases(show RdX H B y (.int j)from ry);exact⟨i,j,rfl,rfl,h1.1,k _ _ H n R (Kp.refl _ _) (wd (h i j H B)) h1.2⟩
 ·exact h1.elim
def c6(f:Int->Int->Aa):Wv->Wv->Int->DQ->Prop:=λx y n Q=>match x,y with
 |.d (.int i),.d (.int j)=>Q (.d (f i j)) n
 |_,_=>False
theorem Jp(h:∀i j H B,RdX H B (g i j) (f i j)):bO (gM g) (c6 f):=λC H B σ δ n x y p q Q Q' R rx ry h1 k=>by
 unfold c6 at h1
 split at h1
 ·rename_i i j;cases(show RdX H B x (.int i)from rx);cases(show RdX H B y (.int j)from ry);exact⟨i,j,rfl,rfl,k _ _ H n R (Kp.refl _ _) (wd (h i j H B)) h1⟩
 ·exact h1.elim
theorem OC(ha:DE X a ta wa)(hb:DE X b tb wb):DE X (.BinOp a .Sub b pos) (dz (gM λi j=>.int (i-j)) ta tb) (w2 wa wb (c6 λi j=>.int (i-j))):=iO LG (Jp λ_ _ _ _=>.int _) ha hb
theorem R7(ha:DE X a ta wa)(hb:DE X b tb wb):DE X (.BinOp a .Mod b pos) (dz (rI (λ_ j=>0 < j) λi j=>.int (i % j)) ta tb) (w2 wa wb (gI (λ_ j=>0 < j) λi j=>.int (i % j))):=iO kZ (QX λ_ _ _ _=>.int _) ha hb
def dE(w:DT):DT:=λδ n Q=>w δ n λx n1=>match x with
 |.d (.int i)=>Q (.d (.int (-i))) n1
 |_=>False
theorem M5(ha:DE X a ta wa):DE X (.UnaryOp .USub a pos) (xl (rU λi=>.int (-i)) ta) (dE wa):=⟨FV GU ha.pe,λC H B σ δ n Q Q' R q k=>ha.sd C H B σ δ n _ _ R q λv x H1 n1 R1 k1 r1 q1=>by
 split at q1
 ·rename_i i;cases(show RdX H1 B v (.int i)from r1);exact⟨i,rfl,k _ _ H1 n1 R1 k1 (wd (.int _)) q1⟩
 ·exact q1.elim⟩
def gF:Wv->Wv->Int->DQ->Prop:=λx y n Q=>match x,y with
 |.d (.int i),.d (.int j)=>Q (.d (.int (i+j))) n
 |.d (.str i),.d (.str j)=>i.length+j.length<=Ay/\Q (.d (.str (i++j))) n
 |.d (.tuple i),.d (.tuple j)=>(i≠[]\/j≠[])/\i.length+j.length<=Ay/\Q (.d (.tuple (i++j))) n
 |.d (.list i),.d (.list j)=>i.length+j.length<=Ay/\Q (.d (.list (i++j))) n
 |_,_=>False
def nY(K:Ag):R2:=λx y H Q=>(gM λi j=>.int (i+j)) x y H Q\/(∃i j,x=.str i/\y=.str j/\i.length+j.length<=Ay/\Q (.str (i++j)) H)\/EI K x y H Q\/JE K x y H Q\/j4 x y H Q
theorem op_addA:OpR X (Ei .Add) (nY X.K):=
 op_add.or (op_add_str.or (op_catA.or (op_catT.or GC)))
theorem NG(i j:Str):(i++j).length=i.length+j.length:=Array.size_append
theorem Ic:bO (nY K) gF:=λC H B σ δ n x y p q Q Q' R rx ry h1 k=>by
 unfold gF at h1
 split at h1
 ·rename_i i j;cases(show RdX H B x (.int i)from rx);cases(show RdX H B y (.int j)from ry);exact .inl ⟨i,j,rfl,rfl,k _ _ H n R (Kp.refl _ _) (wd (.int _)) h1⟩
 ·rename_i i j;cases(show RdX H B x (.str i)from rx);cases(show RdX H B y (.str j)from ry);exact .inr (.inl ⟨i,j,rfl,rfl,h1.1,k _ _ H n R (Kp.refl _ _) (wd (show RdX H B _ (.str (i++j))from .str _ (by rw[NG];exact h1.1))) h1.2⟩)
 ·rename_i i j;cases(show RdX H B x (.tuple i)from rx)with
  |@tup ax xs _ e1 e2 e3 e4=>
   cases(show RdX H B y (.tuple j)from ry)with
   |@tup ay ys _ f1 f2 f3 f4=>
    obtain⟨ne,hl,q⟩:=h1;have hl':xs.length+ys.length<=Ay:=by rw[e4.len,f4.len];exact hl
    have new:∀pn,H pn=ah->Q' (.ref pn) (upd H pn (.tup (xs++ys))):=λpn hp=>by
     refine k _ _ _ n (R.new hp) (Kp.new hp) (wd (show RdX _ B _ (.tuple (i++j))from .tup bQ (R.nb hp) (by rw[Af];exact hl') ?_)) q;exact((e4.append f4).fresh hp).less λb z=>.inl z
    by_cases hy:ys=[]
    ·have hx:xs≠[]:=λz=>by
      subst hy z;cases e4;cases f4;exact ne.elim (λq=>q rfl) λq=>q rfl
     refine .inr (.inr (.inr (.inl ⟨ax,ay,xs,ys,rfl,rfl,SqT.of e1,SqT.of f1,hx,hl',λ_=>?_,λ_=>new⟩)));subst hy;cases f4;rw[Bm]at q;exact k _ _ H n R (Kp.refl _ _) (wd (show RdX H B _ (.tuple i)from .tup e1 e2 e3 e4)) q
    ·refine .inr (.inr (.inl ⟨ax,ay,xs,ys,rfl,rfl,SqT.of e1,SqT.of f1,hy,hl',λz=>?_,λ_=>new⟩));subst z;cases e4;exact k _ _ H n R (Kp.refl _ _) (wd (show RdX H B _ (.tuple j)from .tup f1 f2 f3 f4)) q
 ·rename_i i j;cases(show RdX H B x (.list i)from rx)with
  |@lst ax xs _ e1 e2 e3 e4=>
   cases(show RdX H B y (.list j)from ry)with
   |@lst ay ys _ f1 f2 f3 f4=>
    obtain⟨hl,q⟩:=h1;have hl':xs.length+ys.length<=Ay:=by rw[e4.len,f4.len];exact hl
    refine .inr (.inr (.inr (.inr ⟨ax,ay,xs,ys,rfl,rfl,e1,f1,hl',λpn hp=>?_⟩)));refine k _ _ _ n (R.new hp) (Kp.new hp) (wd (show RdX _ B _ (.list (i++j))from .lst bQ (R.nb hp) (by rw[Af];exact hl') ?_)) q;exact((e4.append f4).fresh hp).less λb z=>.inl z
 ·exact h1.elim
theorem N2(ha:DE X a ta wa)(hb:DE X b tb wb):DE X (.BinOp a .Add b pos) (dz (nY X.K) ta tb) (w2 wa wb gF):=iO op_addA Ic ha hb
def ju(f:Int->Int->Bool)(h:List Nat->List Nat->Bool):Wv->Wv->Int->DQ->Prop:=λx y n Q=>match x,y with
 |.d (.int i),.d (.int j)=>Q (.d (.bool (f i j))) n
 |.d (.str i),.d (.str j)=>Q (.d (.bool (h i.cps.toList j.cps.toList))) n
 |_,_=>False
theorem yC:bO (λx y H Q=>(gM λi j=>.bl (f i j)) x y H Q\/∃i j,x=.str i/\y=.str j/\Q (.bl (h i.cps.toList j.cps.toList)) H) (ju f h):=λC H B σ δ n x y p q Q Q' R rx ry h1 k=>by
 unfold ju at h1
 split at h1
 ·rename_i i j;cases(show RdX H B x (.int i)from rx);cases(show RdX H B y (.int j)from ry);exact .inl ⟨i,j,rfl,rfl,k _ _ H n R (Kp.refl _ _) (wd (.bl _)) h1⟩
 ·rename_i i j;cases(show RdX H B x (.str i)from rx);cases(show RdX H B y (.str j)from ry);exact .inr ⟨i,j,rfl,rfl,k _ _ H n R (Kp.refl _ _) (wd (.bl _)) h1⟩
 ·exact h1.elim
abbrev iz:=ju (λi j=>decide (i < j)) (λi j=>decide (i < j))
abbrev kB:=ju (λi j=>decide (i<=j)) (λi j=>!decide (j < i))
abbrev pU:=ju (λi j=>decide (j < i)) (λi j=>decide (j < i))
def o4:R2:=λx y H Q=>(gM λi j=>.bl (decide (i < j))) x y H Q\/∃i j,x=.str i/\y=.str j/\Q (.bl (decide (i.cps.toList < j.cps.toList))) H
theorem J7:OpR X (By .Lt) o4:=op_lt.or Sa
def pZ:R2:=λx y H Q=>(gM λi j=>.bl (decide (i<=j))) x y H Q\/∃i j,x=.str i/\y=.str j/\Q (.bl (!decide (j.cps.toList < i.cps.toList))) H
theorem GW:OpR X (By .LtE) pZ:=op_le.or Ri
def qC:R2:=λx y H Q=>(gM λi j=>.bl (decide (j < i))) x y H Q\/∃i j,x=.str i/\y=.str j/\Q (.bl (decide (j.cps.toList < i.cps.toList))) H
theorem Tg:OpR X (By .Gt) qC:=op_gt.or UY
theorem Ox:bO o4 iz:=yC (f:=λi j=>decide (i < j)) (h:=λi j=>decide (i < j))
theorem BN:bO pZ kB:=yC (f:=λi j=>decide (i<=j)) (h:=λi j=>!decide (j < i))
theorem Ve:bO qC pU:=yC (f:=λi j=>decide (j < i)) (h:=λi j=>decide (j < i))
def jH:Aa->Aa->Option Bool
 |.none,.none=>ae ai
 |.none,.int _=>ae aj
 |.int _,.none=>ae aj
 |.none,.bool _=>ae aj
 |.bool _,.none=>ae aj
 |.none,.str _=>ae aj
 |.str _,.none=>ae aj
 |.int i,.int j=>ae (decide (i=j))
 |.bool i,.bool j=>ae (decide (i=j))
 |.str i,.str j=>ae (decide (i=j))
 |.int _,.str _=>ae aj
 |.str _,.int _=>ae aj
 |.bool _,.str _=>ae aj
 |.str _,.bool _=>ae aj
 |.list _,.str _=>ae aj
 |.tuple _,.str _=>ae aj
 |.dict _,.str _=>ae aj
 |.list xs,.list []=>ae xs.isEmpty
 |_,_=>ah
def rS:R2:=λx y H Q=>∃d h B,RdX H B x d/\y=.str h/\Q (.bl (aZ h d)) H
theorem vw(x y):decide (V.str x=V.str y)=decide (x=y):=by
 by_cases z:x=y
 ·rw[z,decide_eq_true rfl,decide_eq_true rfl]
 ·rw[decide_eq_false z,decide_eq_false λw=>z (V.str.inj w)]
theorem BI(x y):decide (V.int x=V.int y)=decide (x=y):=by
 by_cases z:x=y
 ·rw[z,decide_eq_true rfl,decide_eq_true rfl]
 ·rw[decide_eq_false z,decide_eq_false λw=>z (V.int.inj w)]
theorem Jq(x y):decide (V.bl x=V.bl y)=decide (x=y):=by
 by_cases z:x=y
 ·rw[z,decide_eq_true rfl,decide_eq_true rfl]
 ·rw[decide_eq_false z,decide_eq_false λw=>z (V.bl.inj w)]
theorem KR(hu:X.A.units < Fu):OpR X (By .Eq) rS:=by
 intro pins s σ H x y v u Q I rx ry h;obtain⟨d,hh,B,hd,rfl,q⟩:=h;cases hd with
 |non=>exact op_eq pins s σ H _ _ v u Q I rx ry ⟨rfl,q⟩
 |bl b=>exact op_eq pins s σ H _ _ v u Q I rx ry ⟨rfl,q⟩
 |int i=>exact op_eq pins s σ H _ _ v u Q I rx ry ⟨rfl,q⟩
 |str x hx=>
  refine op_eq pins s σ H _ _ v u Q I rx ry ⟨rfl,?_⟩;rw[vw];exact q
 |@lst a xs ds h1 h2 h3 h4=>
  cases(show v=A6 a from rx);obtain⟨t,rfl⟩:=(show ∃t,u=Ge hh t from ry);obtain⟨its,_,p,_⟩:=I.list (SqL.of (K:=X.K) h1);exact PySem.SeqAt.RcAt.list_str hh t p.isList hu _ _ _ _ ⟨.bl aj,H,I,rfl,q⟩
 |@tup a xs ds h1 h2 h3 h4=>
  cases(show v=A6 a from rx);obtain⟨t,rfl⟩:=(show ∃t,u=Ge hh t from ry);obtain⟨its,_,p,_⟩:=I.tuple (SqT.of (K:=X.K) h1);exact PySem.SeqAt.RcAt.tuple_str hh t (show s.heap.IsTuple a its.toArray from p) hu _ _ _ _ ⟨.bl aj,H,I,rfl,q⟩
def a9:Wv->Wv->Int->DQ->Prop:=λx y n Q=>match x,y with
 |.d a,.d b=>match jH a b with
  |some r=>Q (.d (.bool r)) n
  |none=>False
 |_,_=>False
theorem P5(hu:X.A.units < Fu):OpR X (By .Eq) (λx y H Q=>sr x y H Q\/rS x y H Q\/tK X.K x y H Q):=op_eq.or ((KR hu).or (Vr hu))
theorem R9:bO (λx y H Q=>sr x y H Q\/rS x y H Q\/tK K x y H Q) a9:=λC H B σ δ n x y p q Q Q' R rx ry h1 k=>by
 unfold a9 at h1
 split at h1
 ·rename_i da db;have rx:RdX H B x da:=rx;have ry:RdX H B y db:=ry;have fin:∀r:Bool,Q (.d (.bool r)) n->Q' (.bl r) H:=λr q=>k _ _ H n R (Kp.refl _ _) (wd (.bl r)) q
  split at h1
  ·rename_i r er;have h1:=fin r h1;cases rx with
   |non=>cases ry<;>first|(cases er;done)|(cases er;exact .inl ⟨rfl,h1⟩)
   |bl i=>cases ry<;>first|(cases er;done)|(cases er;exact .inl ⟨rfl,by first|exact h1|(rw[Jq];exact h1)⟩)
   |int i=>cases ry<;>first|(cases er;done)|(cases er;exact .inl ⟨rfl,by first|exact h1|(rw[BI];exact h1)⟩)
   |str i hi=>cases ry<;>first|(cases er;done)|(cases er;exact .inl ⟨rfl,by first|exact h1|(rw[vw];exact h1)⟩)
   |@lst ax xs ds e1 e2 e3 e4=>
    cases ry with
    |str j hj=>cases er;exact .inr (.inl ⟨_,j,B,.lst e1 e2 e3 e4,rfl,h1⟩)
    |@lst ay ys es f1 f2 f3 f4=>
     cases f4 with
     |nil=>
      have er:ae ds.isEmpty=ae r:=er;cases er;refine .inr (.inr ⟨ax,ay,xs,rfl,rfl,SqL.of e1,SqL.of f1,?_⟩);have:xs.isEmpty=ds.isEmpty:=by cases e4<;>rfl
      rw[this];exact h1
     |cons _ _=>cases er
    |_=>cases er
   |@tup ax xs ds e1 e2 e3 e4=>
    cases ry with
    |str j hj=>cases er;exact .inr (.inl ⟨_,j,B,.tup e1 e2 e3 e4,rfl,h1⟩)
    |_=>cases er
  ·exact h1.elim
 ·exact h1.elim
def SN(a b:Aa):Option Bool:=match a,b with
 |.list _,_=>ah
 |.tuple _,_=>ah
 |a,b=>(jH a b).map not
def cL:Wv->Wv->Int->DQ->Prop:=λx y n Q=>match x,y with
 |.d a,.d b=>match SN a b with
  |some r=>Q (.d (.bool r)) n
  |none=>False
 |_,_=>False
theorem Rq:bO EE cL:=λC H B σ δ n x y p q Q Q' R rx ry h1 k=>by
 unfold cL at h1
 split at h1
 ·rename_i da db;have rx:RdX H B x da:=rx;have ry:RdX H B y db:=ry;have fin:∀r:Bool,Q (.d (.bool r)) n->Q' (.bl r) H:=λr q=>k _ _ H n R (Kp.refl _ _) (wd (.bl r)) q
  split at h1
  ·rename_i r er;have h1:=fin r h1;cases rx with
   |non=>cases ry<;>first|(cases er;done)|(cases er;exact⟨rfl,h1⟩)
   |bl i=>cases ry<;>first|(cases er;done)|(cases er;exact⟨rfl,by first|exact h1|(rw[Jq];exact h1)⟩)
   |int i=>cases ry<;>first|(cases er;done)|(cases er;exact⟨rfl,by first|exact h1|(rw[BI];exact h1)⟩)
   |str i hi=>cases ry<;>first|(cases er;done)|(cases er;exact⟨rfl,by first|exact h1|(rw[vw];exact h1)⟩)
   |lst _ _ _ _=>cases er
   |tup _ _ _ _=>cases er
  ·exact h1.elim
 ·exact h1.elim
def iW:Aa->Bool
 |.none=>ai
 |_=>aj
def bC(neg:Bool):Wv->Wv->Int->DQ->Prop:=λx y n Q=>match x,y with
 |.d a,.d .none=>Q (.d (.bool (if neg then !iW a else iW a))) n
 |_,_=>False
theorem zP(h:RdX H B v d):decide (v=.non)=iW d:=by cases h<;>rfl
theorem P1:bO (λx y H Q=>y=.non/\Q (.bl (decide (x=.non))) H) (bC aj):=λC H B σ δ n x y p q Q Q' R rx ry h1 k=>by
 unfold bC at h1
 split at h1
 ·rename_i da;cases(show RdX H B y .none from ry);exact⟨rfl,k _ _ H n R (Kp.refl _ _) (wd (show RdX H B _ (.bool (iW da))from by rw[zP rx];exact .bl _)) h1⟩
 ·exact h1.elim
theorem AX:bO (λx y H Q=>y=.non/\Q (.bl (!decide (x=.non))) H) (bC ai):=λC H B σ δ n x y p q Q Q' R rx ry h1 k=>by
 unfold bC at h1
 split at h1
 ·rename_i da;cases(show RdX H B y .none from ry);exact⟨rfl,k _ _ H n R (Kp.refl _ _) (wd (show RdX H B _ (.bool (!iW da))from by rw[zP rx];exact .bl _)) h1⟩
 ·exact h1.elim
def fL:Aa->Bool
 |.none=>ai
 |.bool _=>ai
 |.int _=>ai
 |.str _=>ai
 |_=>aj
def rK:Aa->Aa->Bool
 |.none,.none=>ai
 |.bool a,.bool b=>a==b
 |.bool a,.int b=>(if a then 1 else 0)==b
 |.int a,.bool b=>a==(if b then 1 else 0)
 |.int a,.int b=>a==b
 |.str a,.str b=>a==b
 |_,_=>aj
def b8(x:Aa)(ds:List Aa):Bool:=ds.any λy=>rK y x
theorem mG(h:RdX H B v d)(f:fL d=ai):jb v=ai:=by cases h<;>first|rfl|cases f
theorem lR:∀{vs:List V}{ds:List Aa},RdXs H B vs ds->ds.all fL=ai->vs.all jb=ai
 |_,_,.nil,_=>rfl
 |_,_,.cons h r,f=>by
  rw[List.all_cons,A2]at f ⊢;exact⟨mG h f.1,lR r f.2⟩
theorem P0{d e:Aa}(h:RdX H B v d)(h2:RdX H B u e):ji v u=rK d e:=by cases h<;>cases h2<;>rfl
theorem mR(h:RdX H B v d):∀{vs:List V}{ds:List Aa},RdXs H B vs ds->sX v vs=b8 d ds
 |_,_,.nil=>rfl
 |_,_,.cons h1 r=>by
  have:=mR h r;unfold sX b8 at this ⊢;rw[Dc,Dc,this,P0 h1 h]
def gN(neg:Bool):Wv->Wv->Int->DQ->Prop:=λx y n Q=>match x,y with
 |.d a,.d (.tuple ds)=>fL a=ai/\ds.all fL=ai/\Q (.d (.bool (if neg then !b8 a ds else b8 a ds))) n
 |.d a,.d (.list ds)=>fL a=ai/\ds.all fL=ai/\Q (.d (.bool (if neg then !b8 a ds else b8 a ds))) n
 |_,_=>False
theorem nW:bO (jg K neg) (gN neg):=λC H B σ δ n x y p q Q Q' R rx ry h1 k=>by
 unfold gN at h1
 split at h1
 ·rename_i da ds;obtain⟨f1,f2,q⟩:=h1;have rx:RdX H B x da:=rx;cases(show RdX H B y (.tuple ds)from ry)with
  |@tup ay ys _ e1 e2 e3 e4=>
   refine⟨ay,ys,rfl,.inr (SqT.of e1),mG rx f1,lR e4 f2,?_⟩;rw[mR rx e4];exact k _ _ H n R (Kp.refl _ _) (wd (.bl _)) q
 ·rename_i da ds;obtain⟨f1,f2,q⟩:=h1;have rx:RdX H B x da:=rx;cases(show RdX H B y (.list ds)from ry)with
  |@lst ay ys _ e1 e2 e3 e4=>
   refine⟨ay,ys,rfl,.inl (SqL.of e1),mG rx f1,lR e4 f2,?_⟩;rw[mR rx e4];exact k _ _ H n R (Kp.refl _ _) (wd (.bl _)) q
 ·exact h1.elim
def az:Wv->Wv->Int->DQ->Prop:=λx y n Q=>match x,y with
 |.d (.list ds),.d (.int i)=>match dh ds i with
  |some d=>Q (.d d) n
  |none=>False
 |.d (.tuple ds),.d (.int i)=>match dh ds i with
  |some d=>Q (.d d) n
  |none=>False
 |.d (.str z),.d (.int i)=>match dh z.cps.toList i with
  |some c=>Q (.d (.str ⟨#[c]⟩)) n
  |none=>False
 |_,_=>False
theorem ud(r:RdXs H B vs ds)(h:dh ds i=ae d):∃v,dh vs i=ae v/\RdX H B v d:=by
 unfold dh at h ⊢;rw[r.len];cases e:iQ ds.length i with
 |none=>rw[e]at h;cases h
 |some j=>
  rw[e]at h;exact r.getD h
theorem oJ:bO (gR K) az:=λC H B σ δ n x y p q Q Q' R rx ry h1 k=>by
 unfold az at h1
 split at h1
 ·rename_i ds i
  split at h1
  ·rename_i d e;cases(show RdX H B y (.int i)from ry);cases(show RdX H B x (.list ds)from rx)with
   |@lst ay ys _ e1 e2 e3 e4=>
    obtain⟨v,f1,f2⟩:=ud e4 e;exact .inl ⟨ay,ys,i,v,rfl,rfl,SqL.of e1,f1,k _ _ H n R (Kp.refl _ _) (wd f2) h1⟩
  ·exact h1.elim
 ·rename_i ds i
  split at h1
  ·rename_i d e;cases(show RdX H B y (.int i)from ry);cases(show RdX H B x (.tuple ds)from rx)with
   |@tup ay ys _ e1 e2 e3 e4=>
    obtain⟨v,f1,f2⟩:=ud e4 e;exact .inr (.inl ⟨ay,ys,i,v,rfl,rfl,SqT.of e1,f1,k _ _ H n R (Kp.refl _ _) (wd f2) h1⟩)
  ·exact h1.elim
 ·rename_i z i
  split at h1
  ·rename_i c e;cases(show RdX H B y (.int i)from ry);cases(show RdX H B x (.str z)from rx)with
   |str _ hz=>exact .inr (.inr ⟨z,i,c,rfl,rfl,hz,e,k _ _ H n R (Kp.refl _ _) (wd (show RdX H B _ (.str ⟨#[c]⟩)from .str _ (by show 1<=Ay;decide))) h1⟩)
  ·exact h1.elim
 ·exact h1.elim
theorem wM(ha:DE X a ta wa)(hb:DE X b tb wb)(hs:nH b:=by exact λ_ _=>rfl):DE X (.Subscript a b pos) (dz (gR X.K) ta tb) (w2 wa wb az):=⟨iS uZ ha.pe hb.pe hs,pX oJ ha.sd hb.sd⟩
def bg:List Wv->Int->DQ->Prop:=λxs n Q=>match xs with
 |[.d (.str x)]=>Q (.d (.int x.length)) n
 |[.d (.list ds)]=>Q (.d (.int ds.length)) n
 |[.d (.tuple ds)]=>Q (.d (.int ds.length)) n
 |_=>False
theorem Kn:CallR X (.builtin "len") (λxs H Q=>(∃z,xs=[.str z]/\z.length<=Ay/\Q (.int z.length) H)\/∃p ys,xs=[.ref p]/\(SqL X.K H p ys\/SqT X.K H p ys)/\Q (.int ys.length) H):=call_len_str.or tM
theorem Sy:dM (λxs H Q=>(∃z,xs=[.str z]/\z.length<=Ay/\Q (.int z.length) H)\/∃p ys,xs=[.ref p]/\(SqL K H p ys\/SqT K H p ys)/\Q (.int ys.length) H) bg:=λC H B σ δ n vs xs Q Q' R r h k=>by
 unfold bg at h
 split at h
 ·rename_i x;cases r with
  |cons r1 r2=>
   cases r2;cases(show RdX H B _ (.str x)from r1)with
   |str _ hz=>exact .inl ⟨x,rfl,hz,k _ _ H n R (Kp.refl _ _) (wd (.int _)) h⟩
 ·rename_i ds;cases r with
  |cons r1 r2=>
   cases r2;cases(show RdX H B _ (.list ds)from r1)with
   |@lst ay ys _ e1 e2 e3 e4=>
    refine .inr ⟨ay,ys,rfl,.inl (SqL.of e1),?_⟩;rw[e4.len];exact k _ _ H n R (Kp.refl _ _) (wd (.int _)) h
 ·rename_i ds;cases r with
  |cons r1 r2=>
   cases r2;cases(show RdX H B _ (.tuple ds)from r1)with
   |@tup ay ys _ e1 e2 e3 e4=>
    refine .inr ⟨ay,ys,rfl,.inr (SqT.of e1),?_⟩;rw[e4.len];exact k _ _ H n R (Kp.refl _ _) (wd (.int _)) h
 ·exact h.elim
theorem VN(h:RdX H B v d):TyOf K H v (.type (rJ d)):=by
 cases h with
 |non=>exact .non
 |bl b=>exact .bl b
 |int i=>exact .int i
 |str x h=>exact .str x
 |lst h1 h2 h3 h4=>exact .lst h1
 |tup h1 h2 h3 h4=>exact .tup h1
theorem Nw(h:RdX H B v d)(hT:T="int"\/T="bool"\/T="str"\/T="tuple"\/T="list"):PySem.W.kitOne K (.type (rJ d)) (.type T)=ae (dw T d):=by
 cases h<;>rcases hT with rfl|rfl|rfl|rfl|rfl<;>rfl
def bF(T:String)(w:DT):DT:=λδ n Q=>w δ n λx n1=>match x with
 |.d d=>Q (.d (.bool (dw T d))) n1
 |_=>False
theorem J3{p p2:Pos}(hT:T="int"\/T="bool"\/T="str"\/T="tuple"\/T="list")(hg:Gl X "isinstance")(hm:X.mg "isinstance"=ah)(hg2:Gl X x)(hm2:X.mg x=ah)(hv:B3 x=ae (.type T))(ha:DE X a ta wa)(hn:x≠"__name__":=by decide)(hdb:(x==("__debug__":Str))=aj:=by decide)
  (he:Az [a,.Name x p2] X.env=(aj,eval a X.env)::Az [.Name x p2] X.env:=by rfl) (he2:Az [.Name x p2] X.env=(aj,eval (.Name x p2) X.env)::Az [] X.env:=by rfl) (hpl:(Dj pos (Az [.Name x p2] X.env)).any (·.1)=aj:=by rfl):
  DE X (.Call (.Name "isinstance" p) [a,.Name x p2] [] pos) (fY (λxs H Q=>∃x t b,xs=[x,.ty T]/\TyOf X.K H x t/\PySem.W.kitOne X.K t (.type T)=ae b/\Q (.bl b) H) (c7 ta (c7 (tC (.ty T)) bL))) (bF T wa):=
 ⟨mN (MP (T:=T)) hg hm uO (dF ha.pe (dF (vC (v:=.ty T) hg2 hm2 hv rfl hn hdb) fI he2) he) ∎ ∎ he hpl,λC H B σ δ n Q Q' R q k=>ha.sd C H B σ δ n _ _ R q λv x H1 n1 R1 k1 r1 q1=>by
  cases x with
  |d d=>exact⟨v,_,_,rfl,VN r1,Nw (show RdX H1 B v d from r1) hT,k _ _ H1 n1 R1 k1 (wd (.bl _)) q1⟩
  |tp=>exact q1.elim
  |dk _=>exact q1.elim
  |ln _=>exact q1.elim
  |ob _=>exact q1.elim⟩
def VX:List Wv->Int->DQ->Prop:=λxs n Q=>match xs with
 |[.d (.list ds)]=>Small (.list ds)/\Q (.d (.str (Er (.list ds)))) n
 |[.d (.tuple ds)]=>Small (.tuple ds)/\Q (.d (.str (Er (.tuple ds)))) n
 |_=>False
def lY:List Aa->Option (List Bool)
 |[]=>ae []
 |.bool b::r=>(lY r).map (b::·)
 |_::_=>ah
theorem EA:∀{vs:List V}{ds:List Aa}{bs:List Bool},RdXs H B vs ds->lY ds=ae bs->vs=bs.map V.bl
 |_,_,bs,.nil,h=>by
  cases h;rfl
 |_,_,bs,.cons (d:=d) (ds:=ds) h1 h2,h=>by
  cases h1 with
  |bl b=>
   have h':(lY ds).map (b::·)=ae bs:=h;cases e:lY ds with
   |none=>rw[e]at h';cases h'
   |some cs=>
    rw[e]at h';cases h';rw[EA h2 e];rfl
  |_=>cases h
def nj:List Wv->Int->DQ->Prop:=λxs n Q=>match xs with
 |[.d (.list ds)]=>match lY ds with
  |some bs=>Q (.d (.bool (bs.all id))) n
  |none=>False
 |_=>False
theorem Kk:dM (λxs H Q=>∃(p:Addr)(bs:List Bool),xs=[.ref p]/\H p=ae (.lst (bs.map V.bl))/\Q (.bl (bs.all id)) H) nj:=λC H B σ δ n vs xs Q Q' R r h k=>by
 unfold nj at h
 split at h
 ·rename_i ds
  split at h
  ·rename_i bs e;cases r with
   |cons r1 r2=>
    cases r2;cases(show RdX H B _ (.list ds)from r1)with
    |@lst ay ys _ e1 e2 e3 e4=>
     exact⟨ay,bs,rfl,by rw[<-EA e4 e];exact e1,k _ _ H n R (Kp.refl _ _) (wd (.bl _)) h⟩
  ·exact h.elim
 ·exact h.elim
def fq:List Wv->Int->DQ->Prop:=λxs n Q=>match xs with
 |[.d (.list ds)]=>Q (.d (.tuple ds)) n
 |[.d (.tuple ds)]=>Q (.d (.tuple ds)) n
 |_=>False
theorem Kc:dM (λxs H Q=>∃p ys,xs=[.ref p]/\((SqL K H p ys/\∀l,H l=ah->Q (.ref l) (upd H l (.tup ys)))\/(SqT K H p ys/\Q (.ref p) H))) fq:=λC H B σ δ n vs xs Q Q' R r h k=>by
 unfold fq at h
 split at h
 ·rename_i ds;cases r with
  |cons r1 r2=>
   cases r2;cases(show RdX H B _ (.list ds)from r1)with
   |@lst ay ys _ e1 e2 e3 e4=>
    refine⟨ay,ys,rfl,.inl ⟨SqL.of e1,λl hl=>?_⟩⟩;exact k _ _ _ n (R.new hl) (Kp.new hl) (wd (show RdX _ B _ (.tuple ds)from .tup bQ (R.nb hl) e3 ((e4.fresh hl).less λb z=>.inl z))) h
 ·rename_i ds;cases r with
  |cons r1 r2=>
   cases r2;cases(show RdX H B _ (.tuple ds)from r1)with
   |@tup ay ys _ e1 e2 e3 e4=>exact⟨ay,ys,rfl,.inr ⟨SqT.of e1,k _ _ H n R (Kp.refl _ _) (wd (show RdX H B _ (.tuple ds)from .tup e1 e2 e3 e4)) h⟩⟩
 ·exact h.elim
def lX:List Wv->Int->DQ->Prop:=λxs n Q=>match xs with
 |[.d (.list ds)]=>Q (.d (.list ds)) n
 |[.d (.tuple ds)]=>Q (.d (.list ds)) n
 |_=>False
theorem NZ:dM (λxs H Q=>∃p ys,xs=[.ref p]/\(SqL K H p ys\/SqT K H p ys)/\∀l,H l=ah->Q (.ref l) (upd H l (.lst ys))) lX:=λC H B σ δ n vs xs Q Q' R r h k=>by
 unfold lX at h
 split at h
 ·rename_i ds;cases r with
  |cons r1 r2=>
   cases r2;cases(show RdX H B _ (.list ds)from r1)with
   |@lst ay ys _ e1 e2 e3 e4=>
    refine⟨ay,ys,rfl,.inl (SqL.of e1),λl hl=>?_⟩;exact k _ _ _ n (R.new hl) (Kp.new hl) (wd (show RdX _ B _ (.list ds)from .lst bQ (R.nb hl) e3 ((e4.fresh hl).less λb z=>.inl z))) h
 ·rename_i ds;cases r with
  |cons r1 r2=>
   cases r2;cases(show RdX H B _ (.tuple ds)from r1)with
   |@tup ay ys _ e1 e2 e3 e4=>
    refine⟨ay,ys,rfl,.inr (SqT.of e1),λl hl=>?_⟩;exact k _ _ _ n (R.new hl) (Kp.new hl) (wd (show RdX _ B _ (.list ds)from .lst bQ (R.nb hl) e3 ((e4.fresh hl).less λb z=>.inl z))) h
 ·exact h.elim
end
structure ItOk(fz:Hp)(J:It)(ds:List Aa):Prop where
 le:ds.length<=Ay
 go:∀i H,(∀b o,fz b=ae o->H b=ae o)->i < ds.length->J.go i H
 stop:∀H,(∀b o,fz b=ae o->H b=ae o)->J.stop ds.length H
 yld:∀i H x H' d,(∀b o,fz b=ae o->H b=ae o)->ds[i]?=ae d->J.yld i H x H'->gT H H'/\∀B,(∀b o,fz b=ae o->¬B b)->(∀b,B b->H b≠ah)->RdX H' B x d
def qR(H:Hp)(B:Addr->Prop)(fz:Hp):Prop:=(∀b o,fz b=ae o->H b=ae o/\¬B b)/\∀b o,H b=ae o->¬B b->fz b=ae o
abbrev iK:=Sl->Int->(List Aa->Int->Prop)->Prop
def wF(wi:TI)(v:iK):Prop:=∀(C:Ctx)(H:Hp)(B:Addr->Prop)(σ:St)(δ:Sl)(n:Int)(Q:List Aa->Int->Prop)(Q':It->Hp->Prop),Rel C H B σ δ n->v δ n Q->
 (∀J ds H' n',Rel C H' B σ δ n'->Kp C.t H H'->(∀fz,qR H' B fz->ItOk fz J ds)->Q ds n'->Q' J H')->wi σ H Q'
structure DI(X:Cx)(tg iter:Expr)(wi:TI)(v:iK):Prop where
 pi:PI X tg iter wi
 sd:wF wi v
section
variable{X:Cx}{tg a b c e:Expr}{ta tb te:TE}{wa wb we:DT}{pos p:Pos}
def fU(w:DT):iK:=λδ n Q=>w δ n λx n1=>match x with
 |.d (.list ds)=>Q ds n1
 |_=>False
def ft(w:DT):iK:=λδ n Q=>w δ n λx n1=>match x with
 |.d (.tuple ds)=>Q ds n1
 |_=>False
theorem MB(ha:DE X a ta wa):DI X tg a (tW X.K ta) (fU wa):=⟨Mf ha.pe,λC H B σ δ n Q Q' R q k=>ha.sd C H B σ δ n _ _ R q λv x H1 n1 R1 k1 r1 q1=>by
 split at q1
 ·rename_i ds;cases(show RdX H1 B v (.list ds)from r1)with
  |@lst ay ys _ e1 e2 e3 e4=>
   refine⟨ay,rfl,⟨ys,SqL.of e1⟩,k _ ds H1 n1 R1 k1 (λfz th=>?_) q1⟩;have hfz:fz ay=ae (.lst ys):=th.2 _ _ e1 e2;refine⟨by rw[<-e4.len];exact e3,λi H hH hi=>?_,λH hH=>?_,λi H x H' d hH hd hy=>?_⟩
   ·rw[<-e4.len]at hi;exact⟨ys,ys[i],SqL.of (hH _ _ hfz),Ah hi⟩
   ·exact⟨ys,SqL.of (hH _ _ hfz),by rw[e4.len];exact Al _⟩
   ·obtain⟨rfl,hy⟩:=hy;refine⟨λ_ _ z=>z,λB' hB hBa=>?_⟩;obtain⟨u,hu,ru⟩:=e4.getD hd;have:=hy _ (SqL.of (hH _ _ hfz));rw[hu]at this;cases this;exact ru.move λb o e ne=>⟨hH _ _ (th.2 _ _ e ne),hB _ _ (th.2 _ _ e ne)⟩
 ·exact q1.elim⟩
theorem VS(ha:DE X a ta wa):DI X tg a (jC X.K ta) (ft wa):=⟨K1 ha.pe,λC H B σ δ n Q Q' R q k=>ha.sd C H B σ δ n _ _ R q λv x H1 n1 R1 k1 r1 q1=>by
 split at q1
 ·rename_i ds;cases(show RdX H1 B v (.tuple ds)from r1)with
  |@tup ay ys _ e1 e2 e3 e4=>
   refine⟨ay,rfl,⟨ys,SqT.of e1⟩,k _ ds H1 n1 R1 k1 (λfz th=>?_) q1⟩;have hfz:fz ay=ae (.tup ys):=th.2 _ _ e1 e2;refine⟨by rw[<-e4.len];exact e3,λi H hH hi=>?_,λH hH=>?_,λi H x H' d hH hd hy=>?_⟩
   ·rw[<-e4.len]at hi;exact⟨ys,ys[i],SqT.of (hH _ _ hfz),Ah hi⟩
   ·exact⟨ys,SqT.of (hH _ _ hfz),by rw[e4.len];exact Al _⟩
   ·obtain⟨rfl,hy⟩:=hy;refine⟨λ_ _ z=>z,λB' hB hBa=>?_⟩;obtain⟨u,hu,ru⟩:=e4.getD hd;have:=hy _ (SqT.of (hH _ _ hfz));rw[hu]at this;cases this;exact ru.move λb o e ne=>⟨hH _ _ (th.2 _ _ e ne),hB _ _ (th.2 _ _ e ne)⟩
 ·exact q1.elim⟩
def cb(lo:Int)(n:Nat):List Aa:=(A8 n).map λi=>.int (lo+(i:Nat))
def dC(w:DT):iK:=λδ n Q=>w δ n λx n1=>match x with
 |.d (.int j)=>(-(2 ^ 62)<=j/\j<=1000000)/\Q (cb 0 j.toNat) n1
 |_=>False
theorem VM(fz)(lo)(n)(hn:n<=1000000):ItOk fz (m4 lo n) (cb lo n):=by
 have hl:(cb lo n).length=n:=by unfold cb;simp
 refine⟨?_,λi H hH hi=>?_,λH hH=>?_,λi H y H' d hH hd hy=>?_⟩
 ·rw[hl];exact A4 hn ∎
 ·rw[hl]at hi;exact hi
 ·show n<=(cb lo n).length;rw[hl];exact Al _
 ·obtain⟨rfl,rfl⟩:=hy;refine⟨λ_ _ z=>z,λB' hB hBa=>?_⟩;unfold cb at hd;rw[Ax]at hd;cases e:(A8 n)[i]? with
  |none=>rw[e]at hd;cases hd
  |some j=>
   rw[e]at hd;have:j=i:=by
    obtain⟨h1,h2⟩:=Ao.mp e;rw[List.getElem_range]at h2;exact h2.symm
   subst this;cases hd;exact .int _
theorem VR(hg:Gl X "range")(hm:X.mg "range"=ah)(ha:DE X a ta wa)(hs:Az [a] X.env=[(aj,eval a X.env)]:=by rfl):DI X tg (.Call (.Name "range" p) [a] [] pos) (oj (c7 ta bL)) (dC wa):=⟨P8 hg hm (dF ha.pe fI hs) hs,λC H B σ δ n Q Q' R q k=>ha.sd C H B σ δ n _ _ R q λv x H1 n1 R1 k1 r1 q1=>by
 split at q1
 ·rename_i j;cases(show RdX H1 B v (.int j)from r1);refine⟨j,rfl,q1.1.1,by have:=q1.1.2;have:(2:Int)^62=4611686018427387904:=∎;omega,k _ (cb 0 j.toNat) H1 n1 R1 k1 (λfz _=>VM fz 0 j.toNat (by have:=q1.1.2;omega)) q1.2⟩
 ·exact q1.elim⟩
end
abbrev eU:=Aa->Sl->(Sl->Prop)->Prop
def yu(g:TG)(v:eU):Prop:=∀(C:Ctx)(H:Hp)(B:Addr->Prop)(σ:St)(δ:Sl)(n:Int)(x:V)(d:Aa)(Q:Sl->Prop)(Q':St->Hp->Prop),Rel C H B σ δ n->RdX H B x d->v d δ Q->
 (∀σ' δ',Rel C H B σ' δ' n->Q δ'->Q' σ' H)->g x σ H Q'
structure DG(X:Cx)(tg:Expr)(g:TG)(v:eU):Prop where
 pg:PG X tg g
 sd:yu g v
section
variable{X:Cx}{pos:Pos}
def aJ(i:Nat):eU:=λd δ Q=>Q (δ.set i (↑d))
theorem Ls(hN:X.N.Nodup)(hi:X.N[i]?=ae x)(hx:kh X.env.scope x)(hf:X.fn x=ai\/X.env.scope.names.lookup x=ae .local:=by first|exact .inl rfl|exact .inr rfl|assumption):DG X (.Name x pos) (fi i) (aJ i):=
 ⟨PU hN hi hx hf,λC H B σ δ n x d Q Q' R r q k=>k _ _ (R.set (x:=.d d) r rfl) q⟩
end
def fh(g:eU)(W:aR)(K:DEnds):List Aa->Sl->Int->Prop
 |[],δ,n=>K.nx δ n
 |d::r,δ,n=>g d δ λδ'=>W δ' n {K with nx:=fh g W K r,ct:=fh g W K r,bk:=K.nx}
def aU(v:iK)(g:eU)(W:aR):aR:=λδ n K=>v δ n λds n1=>fh g W K ds δ n1
def d9(H:Hp)(B:Addr->Prop):Hp:=λb=>open Classical in if B b then ah else H b
theorem pE(H)(B):qR H B (d9 H B):=by
 refine⟨λb o e=>?_,λb o e n=>?_⟩
 ·unfold d9 at e
  split at e
  ·cases e
  ·rename_i h;exact⟨e,h⟩
 ·unfold d9;rw[if_neg n];exact e
theorem Rel.refz(R:Rel C H B σ δ n):Rel {C with fz:=d9 H B} H B σ δ n:=
 ⟨R.tp,R.kp,R.t0,R.l0,R.g0,(pE H B).1,R.bt,R.b0,R.ba,R.a0,R.sl,R.ow,R.len⟩
theorem Rel.unfz{fz:Hp}(R:Rel {C with fz:=fz} H B σ δ n)(h:∀b o,C.fz b=ae o->fz b=ae o):Rel C H B σ δ n:=
 ⟨R.tp,R.kp,R.t0,R.l0,R.g0,λb o e=>R.fz b o (h b o e),R.bt,R.b0,R.ba,R.a0,R.sl,R.ow,R.len⟩
theorem Rel.same(R:Rel C H B σ δ n)(k:gT H H'):Rel C H' B σ δ n:=by
 obtain⟨a,b,e,h⟩:=R.tp.ob;exact R.step ⟨⟨a,b,k _ _ e,h⟩,k _ _ R.tp.ls,R.tp.len,λz=>k _ _ (R.tp.ag z),R.tp.gne⟩ λb o e _=>k b o e
section
variable{X:Cx}{tg iter:Expr}{body:List Stmt}{wi:TI}{v:iK}{g:TG}{gd:eU}{T:TS}{W:aR}{pos:Pos}
theorem Qh(hi:DI X tg iter wi v)(hg:DG X tg g gd)(hb:DSs X body T W)(hp:PassesOwn (Bi X.prog X.w) X.A X.env X.xe:=by exact PassesOwn.never)(hc:X.calm=ai:=by rfl)
  (hs:∀x,Eh iter X.env x=pure x:=by intro _;rfl):DS X (.For tg iter body [] pos) (jF wi g T) (aU v gd W):=⟨TZ hp hc hi.pi hg.pg hb.ps hs,λC H B σ δ n K D R q E=>
 hi.sd C H B σ δ n _ _ R q λJ ds H1 n1 R1 k1 hJ q1=>by
  have ok:=hJ (d9 H1 B) (pE H1 B);have R1':=R1.refz;have back:∀{H B' σ δ n},Rel {C with fz:=d9 H1 B} H B' σ δ n->Rel C H B' σ δ n:=λR=>R.unfz λb o e=>(pE H1 B).2 b o (R1.fz b o e).1 (R1.fz b o e).2;refine⟨λi m σ H=>m=ds.length-i/\i<=ds.length/\∃B' δ n,Rel {C with fz:=d9 H1 B} H B' σ δ n/\fh gd W K (ds.drop i) δ n,⟨ds.length,by simp,Bo _,B,δ,n1,R1',by simpa using q1⟩,?_⟩
  rintro i m σ2 H2 ⟨rfl,hi,B2,δ2,n2,R2,q2⟩
  have hfz:∀b o,d9 H1 B b=ae o->H2 b=ae o:=λb o e=>(R2.fz b o e).1;by_cases hlt:i < ds.length
  ·rw[D8 hlt]at q2;refine .inr ⟨ok.go i H2 hfz hlt,λσ3 H3=>∃B' δ n,Rel {C with fz:=d9 H1 B} H3 B' σ3 δ n/\fh gd W K (ds.drop (i+1)) δ n,λσ' H' z=>⟨ds.length-(i+1),by omega,rfl,hlt,z⟩,λx H' hy=>?_⟩;obtain⟨sm,rd⟩:=ok.yld i H2 x H' ds[i] hfz (Ah hlt) hy;have R3:=R2.same sm;refine hg.sd _ H' B2 σ2 δ2 n2 x ds[i] _ _ R3 (rd B2 (λb o e=>(R2.fz b o e).2) R2.ba) q2 λσ' δ' R4 q4=>?_;refine hb.sd _ H' B2 σ' δ' n2 _ _ R4 q4 ⟨?_,?_,?_,?_,λH B σ δ n a xs ds R h0 h1 h2 h3 q=>E.rn H B σ δ n a xs ds (back R) h0 h1 h2 h3 q⟩
   ·exact λH B σ δ n R q=>⟨B,δ,n,R,q⟩
   ·exact λH B σ δ n v w R r q=>E.rt H B σ δ n v w (back R) r q
   ·exact λH B σ δ n R q=>E.nx H B σ δ n (back R) q
   ·exact λH B σ δ n R q=>⟨B,δ,n,R,q⟩
  ·have e:i=ds.length:=by omega
   subst e;rw[List.drop_length]at q2;exact .inl ⟨ok.stop H2 hfz,E.nx H2 B2 σ2 δ2 n2 (back R2) q2⟩⟩
end
def jZ(fr:List (Option Nat))(δ:Sl):Sl:=fr.map λo=>o.bind λi=>match δ[i]? with
 |some (ae (.w x))=>ae (.w x)
 |some (ae (.odk kvs))=>ae (.w (.dk kvs))
 |some (ae (.own ds))=>ae (.w (.ln ds))
 |_=>ah
def di(g:eU)(c:cM)(w:DT)(Q:List Aa->Int->Prop):List Aa->List Aa->Sl->Int->Prop
 |[],acc,_,n=>Q acc n
 |d::r,acc,δ,n=>g d δ λδ'=>c δ' n λb n1=>if b=ai then w δ' n1 λx n2=>match x with
   |.d y=>di g c w Q r (acc++[y]) δ' n2
   |_=>False
  else di g c w Q r acc δ' n1
def cW(fr:List (Option Nat))(v:iK)(g:eU)(c:cM)(w:DT):fN:=λδ n Q=>v δ n λds n1=>di g c w Q ds [] (jZ fr δ) n1
structure DIf(X:Cx)(ifs:List Expr)(t:TT)(c:cM):Prop where
 pf:qg X ifs t
 sd:kX t c
def df:cM:=λ_ n Q=>Q ai n
theorem QK:DIf X [] mw df:=⟨Vb,λC H B σ δ n Q Q' R q k=>k ai H n R (Kp.refl _ _) q⟩
theorem MY(h:DC X c t cc):DIf X [c] t cc:=⟨Rz h.pt,h.sd⟩
theorem QS(fr:List (Option Nat))(σ):(eh fr σ).length=fr.length:=by unfold eh;rw[Ab]
theorem Py(fr:List (Option Nat))(δ):(jZ fr δ).length=fr.length:=by unfold jZ;rw[Ab]
theorem u5{j:Nat}(h:(jZ fr δ)[j]?=ae (ae x)):∃i y,fr[j]?=ae (ae i)/\δ[i]?=ae (ae y)/\((∃z,x=.w z/\y=.w z)\/(∃kvs,x=.w (.dk kvs)/\y=.odk kvs)\/∃ds,x=.w (.ln ds)/\y=.own ds):=by
 unfold jZ at h;rw[Ax]at h;cases e:fr[j]? with
 |none=>rw[e]at h;cases h
 |some o=>
  rw[e]at h;cases o with
  |none=>cases h
  |some i=>
   have h':=A7 h;dsimp only[Option.bind]at h'
   split at h'
   ·rename_i z ez;cases h';exact⟨i,_,rfl,ez,.inl ⟨z,rfl,rfl⟩⟩
   ·rename_i kvs ez;cases h';exact⟨i,_,rfl,ez,.inr (.inl ⟨kvs,rfl,rfl⟩)⟩
   ·rename_i ds ez;cases h';exact⟨i,_,rfl,ez,.inr (.inr ⟨ds,rfl,rfl⟩)⟩
   ·cases h'
theorem NC{j i:Nat}(h:fr[j]?=ae (ae i))(h2:σ[i]?=ae (ae v)):(eh fr σ)[j]?=ae (ae v):=by
 unfold eh;rw[Ax,h];show ae ((σ[i]?).bind id)=_;rw[h2];rfl
theorem Kl(R:Rel C H B σ δ n)(hL:H L=ah):
  Rel ⟨C.t,C.l,C.ns,H,B,d9 H B⟩ (upd H L (.lst [])) (λb=>B b\/b=L) (eh fr σ) (jZ fr δ) n where
 tp:=R.tp.new hL
 kp:=Kp.new hL
 t0:=R.ba _ R.bt
 l0:=by
  show H C.l.s≠ah;rw[R.tp.ls];exact λz=>nomatch z
 g0:=λe=>by
  show H C.l.g≠ah;rw[R.tp.ag e];exact λz=>nomatch z
 fz:=λb o e=>by
  obtain⟨e1,e2⟩:=(pE H B).1 b o e;exact⟨by rw[aW (bY e1 hL)];exact e1,λz=>z.elim e2 λq=>bY e1 hL q⟩
 bt:=.inl R.bt
 b0:=λb z=>.inl z
 ba:=λb z e=>by
  by_cases q:b=L
  ·rw[q,bQ]at e;cases e
  ·rw[aW q]at e;exact R.ba b (z.resolve_right q) e
 a0:=R.ba
 sl:=λj x e=>by
  have mv:∀b o',H b=ae o'->¬B b->upd H L (.lst []) b=ae o'/\¬(B b\/b=L):=λb o' e n=>⟨by rw[aW (bY e hL)];exact e,λz=>z.elim n λq=>bY e hL q⟩;obtain⟨i,y,e1,e2,hy⟩:=u5 e;obtain⟨v,f1,f2⟩:=R.sl i y e2;refine⟨v,NC e1 f1,?_⟩;rcases hy with⟨z,rfl,rfl⟩|⟨kvs,rfl,rfl⟩|⟨ds,rfl,rfl⟩
  ·cases z with
   |d d=>exact⟨f2.1.move mv,λz=>by cases z⟩
   |tp=>exact⟨f2.1,λz=>by cases z⟩
   |ln ds=>
    obtain⟨a,l,g1,g2,g3,g4,g5⟩:=f2.1;exact⟨⟨a,l,g1,by rw[aW (bY g2 hL)];exact g2,g3,g4,g5.move mv⟩,λ_=>⟨a,g1,by show H a≠ah;rw[g2];exact λz=>nomatch z⟩⟩
   |dk kvs=>
    obtain⟨a,l,g1,g2,g3,g4⟩:=f2.1;exact⟨⟨a,l,g1,by rw[aW (bY g2 hL)];exact g2,g3,g4.move mv⟩,λ_=>⟨a,g1,by show H a≠ah;rw[g2];exact λz=>nomatch z⟩⟩
   |ob o=>
    refine⟨?_,λz=>by cases z⟩;exact ORel.move mv f2.1
  ·obtain⟨a,l,g1,g2,g3,g4,g5,g6⟩:=f2;exact⟨⟨a,l,g1,by rw[aW (bY g2 hL)];exact g2,λz=>R.t0 (z▸g4),g6.move mv⟩,λ_=>⟨a,g1,by show H a≠ah;rw[g2];exact λz=>nomatch z⟩⟩
  ·obtain⟨a,l,g1,g2,g3,g4,g5,g6⟩:=f2;exact⟨⟨a,l,g1,by rw[aW (bY g2 hL)];exact g2,λz=>R.t0 (z▸g4),g5,g6.move mv⟩,λ_=>⟨a,g1,by show H a≠ah;rw[g2];exact λz=>nomatch z⟩⟩
 ow:=λi j x y v e1 e2 o1 o2 _ _=>by
  obtain⟨_,_,_,_,hy⟩:=u5 e1;rcases hy with⟨z,rfl,_⟩|⟨kvs,rfl,_⟩|⟨ds,rfl,_⟩
  ·cases o1
  ·cases o1
  ·cases o1
 len:=by rw[QS,Py]
section
variable{X:Cx}{elt tg iter:Expr}{ifs:List Expr}{scope:E4}{cl:List (Str×Addr)}{pos:Pos}{N:List Str}{fr:List (Option Nat)}{wi:TI}{v:iK}{g:TG}{gd:eU}{tt:TT}{cc:cM}{te:TE}{we:DT}
def i7(δ:Sl):Prop:=∀(i:Nat)(x:SV),δ[i]?=ae (ae x)->x.isOwn=aj
theorem QG(fr)(δ):i7 (jZ fr δ):=λi x e=>by
 obtain⟨_,_,_,_,hy⟩:=u5 e;rcases hy with⟨z,rfl,_⟩|⟨kvs,rfl,_⟩|⟨ds,rfl,_⟩<;>rfl
def ma(v:eU):Prop:=∀d δ Q,i7 δ->v d δ Q->v d δ λδ'=>i7 δ'/\Q δ'
theorem xU(i):ma (aJ i):=λd δ Q h q=>⟨λj x e=>by
 rcases gY e with⟨_,rfl⟩|⟨_,e'⟩
 ·rfl
 ·exact h j x e',q⟩
theorem vW(hc:X.calm=ai)(S:CompSc X N scope cl fr)(hi:DI X tg iter wi v)(hg:∀s H fp,DG (dJ X N scope cl s H fp) tg g gd)(ht:∀s H fp,DIf (dJ X N scope cl s H fp) ifs tt cc)
  (he:∀s H fp,DE (dJ X N scope cl s H fp) elt te we) (hno:ma gd) (hs:∀x,Eh iter X.env x=pure x:=by intro _;rfl):
  DF X (.ListComp elt [⟨tg,iter,ifs,0⟩] scope pos) (lV fr wi g tt te) (cW fr v gd cc we):=by
 refine⟨Vc hc S hi.pi (λs H fp=>(hg s H fp).pg) (λs H fp=>(ht s H fp).pf) (λs H fp=>(he s H fp).pe) hs,λC H B σ δ n Q Q' R q k=>hi.sd C H B σ δ n _ _ R q λJ ds H1 n1 R1 k1 hJ q1=>λL hL=>?_⟩;have sg:=(hg X.s₀ X.H₀ []).sd;have st:=(ht X.s₀ X.H₀ []).sd;have se:=(he X.s₀ X.H₀ []).sd;have ok:=hJ (d9 H1 B) (pE H1 B);have hLt:L≠C.t:=λz=>R1.ba _ R1.bt (z▸hL);refine⟨λi m ys τ H=>m=ds.length-i/\i<=ds.length/\ys.length<=i/\∃δ' n' acc,Rel ⟨C.t,C.l,C.ns,H1,B,d9 H1 B⟩ H (λb=>B b\/b=L) τ δ' n'/\i7 δ'/\H L=ae (.lst ys)/\RdXs H (λb=>B b\/b=L) ys acc/\di gd cc we Q (ds.drop i) acc δ' n',
  ⟨ds.length,by simp,Bo _,Bo _,jZ fr δ,n1,[],Kl R1 hL,QG fr δ,bQ,.nil,by simpa using q1⟩,?_⟩
 rintro i m ys τ H2 ⟨rfl,hi,hys,δ2,n2,acc,R2,no2,hL2,rd2,q2⟩
 have hfz:∀b o,d9 H1 B b=ae o->H2 b=ae o:=λb o e=>(R2.fz b o e).1;by_cases hlt:i < ds.length
 ·rw[D8 hlt]at q2;refine .inr ⟨ok.go i H2 hfz hlt,Bn (Nat.lt_of_le_of_lt hys hlt) ok.le,λx H' hy=>?_⟩;obtain⟨sm,rd⟩:=ok.yld i H2 x H' ds[i] hfz (Ah hlt) hy;have R3:=R2.same sm;refine sg _ H' _ τ δ2 n2 x ds[i] _ _ R3 (rd _ (λb o e=>(R2.fz b o e).2) R2.ba) (hno _ _ _ no2 q2) λτ3 δ3 R4 ⟨no3,q4⟩=>?_;refine st _ H' _ τ3 δ3 n2 _ _ R4 q4 λb H4 n4 R5 k5 q5=>?_;have hL4:H4 L=ae (.lst ys):=k5 _ _ (sm _ _ hL2) hLt;have rd4:RdXs H4 (λb=>B b\/b=L) ys acc:=(rd2.keep λb o e _=>sm b o e).kp k5 R4.bt;cases b with
  |false=>
   rw[if_neg Ae]at q5 ⊢;exact⟨ds.length-(i+1),by omega,rfl,hlt,by omega,δ3,n4,acc,R5,no3,hL4,rd4,q5⟩
  |true=>
   rw[if_pos rfl]at q5 ⊢;refine se _ H4 _ τ3 δ3 n4 _ _ R5 q5 λu y H5 n5 R6 k6 r6 q6=>?_;cases y with
   |d y=>
    have hL5:H5 L=ae (.lst ys):=k6 _ _ hL4 hLt;refine⟨hL5,ds.length-(i+1),by omega,rfl,hlt,by rw[Af,Av];omega,δ3,n5,acc++[y],R6.mut (.inr rfl) hL λj z e o=>absurd (no3 j z e) (by rw[o];exact λq=>nomatch q),no3,bQ,?_,q6⟩;refine RdXs.keep (λb o e n=>?_) ((rd4.kp k6 R5.bt).append (.cons r6 .nil));rw[aW λ(z:b=L)=>n (.inr z)];exact e
   |tp=>exact q6.elim
   |dk _=>exact q6.elim
   |ln _=>exact q6.elim
   |ob _=>exact q6.elim
 ·have e:i=ds.length:=by omega
  subst e;rw[List.drop_length]at q2;refine .inl ⟨ok.stop H2 hfz,k L ys acc H2 n2 (R1.step R2.tp R2.kp) (k1.trans R2.kp) (R1.was k1 hL) hL2 (A4 hys ok.le) rd2 q2⟩
end
abbrev d0:=List Aa->Sl->(Sl->Prop)->Prop
def UQ(g:gK)(v:d0):Prop:=∀(C:Ctx)(H:Hp)(B:Addr->Prop)(σ:St)(δ:Sl)(n:Int)(xs:List V)(ds:List Aa)(Q:Sl->Prop)(Q':St->Hp->Prop),Rel C H B σ δ n->RdXs H B xs ds->v ds δ Q->
 (∀σ' δ',Rel C H B σ' δ' n->Q δ'->Q' σ' H)->g xs σ H Q'
structure DGs(X:Cx)(ts:List Expr)(g:gK)(v:d0):Prop where
 pg:nQ X ts g
 sd:UQ g v
def ck:d0:=λds δ Q=>match ds with
 |[]=>Q δ
 |_=>False
def bh(v:eU)(r:d0):d0:=λds δ Q=>match ds with
 |d::ds=>v d δ λδ'=>r ds δ' Q
 |[]=>False
def dq(n:Nat)(r:d0):eU:=λd δ Q=>match d with
 |.tuple ds=>ds.length=n/\r ds δ Q
 |_=>False
theorem TH:∀ds δ Q,i7 δ->ck ds δ Q->ck ds δ λδ'=>i7 δ'/\Q δ':=λds δ Q h q=>by
 cases ds with
 |nil=>exact⟨h,q⟩
 |cons _ _=>exact q
theorem IP(mono:∀d δ (Q Q':Sl->Prop),(∀δ',Q δ'->Q' δ')->v d δ Q->v d δ Q')(hv:ma v)(hr:∀ds δ Q,i7 δ->r ds δ Q->r ds δ λδ'=>i7 δ'/\Q δ'):∀ds δ Q,i7 δ->bh v r ds δ Q->bh v r ds δ λδ'=>i7 δ'/\Q δ':=λds δ Q h q=>by
 cases ds with
 |nil=>exact q
 |cons d ds=>exact mono d δ _ _ (λδ' z=>hr ds δ' Q z.1 z.2) (hv d δ _ h q)
theorem Sr(hr:∀ds δ Q,i7 δ->r ds δ Q->r ds δ λδ'=>i7 δ'/\Q δ'):ma (dq n r):=λd δ Q h q=>by
 unfold dq at q ⊢
 split at q
 ·exact⟨q.1,hr _ _ _ h q.2⟩
 ·exact q.elim
theorem Td(i j n):ma (dq n (bh (aJ i) (bh (aJ j) ck))):=
 Sr (IP (λ_ _ _ _ h q=>h _ q) (xU i) (IP (λ_ _ _ _ h q=>h _ q) (xU j) TH))
section
variable{X:Cx}{pos:Pos}
theorem SE:DGs X [] oY ck:=⟨PK,λC H B σ δ n xs ds Q Q' R r q k=>by
 cases r with
 |nil=>exact⟨rfl,k σ δ R q⟩
 |cons _ _=>exact q.elim⟩
end
section
variable{X:Cx}{pos:Pos}
theorem OB(h1:DG X e t v)(h2:DGs X es u r)
  (hs:(Cq (e::es) X.env).map (·.2)=Gj e X.env::(Cq es X.env).map (·.2):=by rfl):DGs X (e::es) (IL t u) (bh v r):=⟨OF h1.pg h2.pg hs,λC H B σ δ n xs ds Q Q' R rr q k=>by
 cases rr with
 |nil=>exact q.elim
 |cons r1 r2=>exact⟨_,_,rfl,h1.sd C H B σ δ n _ _ _ _ R r1 q λσ' δ' R' q'=>h2.sd C H B σ' δ' n _ _ _ _ R' r2 q' k⟩⟩
theorem QR{k:Nat}{n:Nat}{r:d0}(h:DGs X es t r)(hc:X.calm=ai:=by rfl)
  (hn:(Cq es X.env).length=n:=by rfl) (hst:(Cq es X.env).findIdx? (·.1)=ah:=by rfl):DG X (.Tuple es k pos) (nq X.K n t) (dq n r):=⟨Ko hc h.pg hn hst,λC H B σ δ n' x d Q Q' R rr q k=>by
 unfold dq at q
 split at q
 ·rename_i ds;cases rr with
  |@tup ay ys _ e1 e2 e3 e4=>exact⟨ay,ys,rfl,SqT.of e1,by rw[e4.len];exact q.1,h.sd C H B σ δ n' _ _ _ _ R e4 q.2 k⟩
 ·exact q.elim⟩
def yN:List Aa->Option (List Str)
 |[]=>ae []
 |.str b::r=>(yN r).map (b::·)
 |_::_=>ah
def V5(w w':DT):DT:=λδ n Q=>w δ n λx n1=>match x with
 |.d (.str z)=>w' δ n1 λy n2=>match y with
  |.d (.list ds)=>match yN ds with
   |some ys=>(ys.map (·.length)).sum+ys.length*z.length<=16777216/\Q (.d (.str (Txt.join z ys))) n2
   |none=>False
  |.d (.tuple ds)=>match yN ds with
   |some ys=>(ys.map (·.length)).sum+ys.length*z.length<=16777216/\Q (.d (.str (Txt.join z ys))) n2
   |none=>False
  |_=>False
 |_=>False
def gD(i:Nat)(wj w:DT):aR:=λδ n K=>match δ[i]? with
 |some (ae (.own ds))=>w δ n λx n1=>wj δ n1 λj n2=>match x,j with
  |.d d,.d (.int k)=>match iQ ds.length k with
   |some m=>K.nx (δ.set i (ae (.own (ds.set m d)))) n2
   |none=>False
  |_,_=>False
 |_=>False
theorem UW{xp sp:Pos}(hN:X.N[i]?=ae x)(hj:DE X j tj wj)(he:DE X e te we)(hv:gh X.env.scope x:=by first|exact C4 rfl|exact B9 (C4 rfl)|exact B9 (B9 rfl))(hd:(x==("__debug__":Str))=aj:=by decide)
  (hcd:(x==("__classdict__":Str))=aj:=by decide)
  (ha:∀v,Gj (.Subscript (.Name x xp) j sp) X.env v=(do
   let ov <-holding [v] (eval (.Name x xp) X.env)
   let iv <-holding [v,ov] (eval j X.env)
   standAt sp
   holding [v,ov,iv] (setItem ov iv v)
   release [v,ov,iv] []):=by intro _;rfl)
  (hs:swapsWithSole [.Subscript (.Name x xp) j sp] e pos.line X.env=pure aj:=by rfl) (hw:swappedStores [.Subscript (.Name x xp) j sp] e X.env=pure ah:=by rfl)
  (h1:(Cq [.Subscript (.Name x xp) j sp] X.env).map (·.2)=[Gj (.Subscript (.Name x xp) j sp) X.env]:=by rfl):
  DS X (.Assign [.Subscript (.Name x xp) j sp] e pos) (c8 te (iU (bw i) tj nF)) (gD i wj we):=
 ⟨nL he.pe (pY (iY hN hv hd hcd) hj.pe qd ha) hs hw h1,λC H B σ δ n K D R q E=>by
  unfold gD at q
  split at q
  ·rename_i ds ei;refine he.sd C H B σ δ n _ _ R q λu y H1 n1 R1 k1 r1 q1=>?_;obtain⟨v,hv,a,xs,rfl,e2,e3,e4,e5,e6⟩:=R1.sl i _ ei;refine⟨_,hv,hj.sd C H1 B σ δ n1 _ _ R1 q1 λw z H2 n2 R2 k2 r2 q2=>?_⟩
   split at q2
   ·rename_i d k
    split at q2
    ·rename_i m em;cases(show RdX H2 B w (.int k)from r2);have hat:a≠C.t:=λz=>R.t0 (z▸e4);have e2':=k2 _ _ e2 hat;have r1':RdX H2 B u d:=r1.kp k2 R1.bt;refine⟨a,xs,k,m,rfl,rfl,e2',by rw[e6.len];exact em,?_⟩;refine E.nx _ _ _ _ _ (R2.mutOwn ei rfl hv e3 e4 ?_ rfl) q2;refine⟨a,xs.set m u,rfl,bQ,e3,e4,by rw[Cw];exact e5,?_⟩;refine RdXs.keep (λb o e n=>?_) (RdXs.set m (e6.kp k2 R1.bt) r1');rw[aW λ(z:b=a)=>n (z▸e3)];exact e
    ·exact q2.elim
   ·exact q2.elim
  ·exact q.elim⟩
end
structure Has(P:Bp)(w:B7)(K:Ag)(mg:Str->Option Ak)(base:Heap)(k:Nat)(x:Str)(ps:List Str)(S:bz):Prop where
 ex:∃(f:Addr)(fd:C1),FnOk P w K mg base dU k f fd ps (f7 S)/\Binds K fd ps []/\mg x=ae (.ref f)/\C3 K (.ref f)=ai
section
variable{P:Bp}{w:B7}{K:Ag}{mg:Str->Option Ak}{base:Heap}
theorem Has.mk'(F:Fun K x qual st f fd)(m:mg x=ae (.ref f))(b:Binds K fd ps [])(h:FnOk P w K mg base dU k f fd ps (f7 S)):Has P w K mg base k x ps S:=⟨f,fd,h,b,m,F.kp⟩
end
theorem Vj{pos p:Pos}(h:Has X.prog X.w X.K X.mg X.base k x ps S)(hr:Room k X.A)(hg:Gl X x)
  (ha:DA X (e::es) tR wR) (hdb:(x==("__debug__":Str))=aj:=by decide) (he:Az (e::es) X.env=(aj,eval e X.env)::Az es X.env:=by rfl) (hpl:(Dj pos (Az es X.env)).any (·.1)=aj:=by rfl):
  DE X (.Call (.Name x p) (e::es) [] pos) (jP (f7 S) [] E0 tR) (aH S wR):=by
 obtain⟨f,fd,h1,h2,h3,h4⟩:=h.ex;exact TF h1 hr hg h3 h4 h2 ha hdb he hpl
theorem NT{cl cells:List (Str×Addr)}(h:∀y∈cl,cells.lookup y.1=ae y.2):∀x c,cl.lookup x=ae c->cells.lookup x=ae c:=λx c e=>h _ (rA e)
def cG:bz:=λws n Q=>match ws with
 |[.tp,.d (.int many)]=>(n < 2 ^ 40/\0 < many/\many < 1073741824)/\∀r:Int,0<=r->r < many->Q (.d (.int r)) (n+1)
 |_=>False
section
variable{P:Bp}{w:B7}{K:Ag}{mg:Str->Option Ak}{base:Heap}
theorem LZ(h:FnOk P w K mg base dU k f fd ps zQ):FnOk P w K mg base dU k f fd ps (f7 cG):=h.imp λvs H Q E hs=>by
 obtain⟨t,l,ns,B,ws,n,Q0,T,bt,ba,r,q,kk⟩:=hs;unfold cG at q
 split at q
 ·rename_i many;cases r with
  |cons r1 r2=>
   cases r2 with
   |cons r3 r4=>
    cases r4;cases(show _=V.ref t from r1);cases(show RdX H B _ (.int many)from r3);exact⟨t,l,ns,n,many,rfl,T,q.1.1,q.1.2.1,q.1.2.2,λr H' h0 h1 T' k'=>kk _ _ (q.2 r h0 h1) _ H' T' k' (.int r)⟩
 ·exact q.elim
def spLaw(K:Ag):Sp:=λvs H Q _=>∃(a:Addr)(ns:List Int),vs=[.ref a]/\SqL K H a (ns.map V.int)/\ns.length<=63/\∀H',Q (.bl ai) H'
def p8:DEnds:={ nx:=λ_ _=>False,rt:=λw _=>w=.d (.bool ai)}
theorem ME{a:V}(T:Tp H t l ns 0):Rel ⟨t,l,ns,H,λb=>b=t,λ_=>ah⟩ H (λb=>b=t) (ae a::ae (.ref t)::Bj k ah) (ah::ae (.w .tp)::Bj k ah) 0 where
 tp:=T
 kp:=Kp.refl _ _
 t0:=by
  obtain⟨_,_,h,_⟩:=T.ob;show H t≠ah;rw[h];exact λz=>nomatch z
 l0:=by
  show H l.s≠ah;rw[T.ls];exact λz=>nomatch z
 g0:=λe=>by
  show H l.g≠ah;rw[T.ag e];exact λz=>nomatch z
 fz:=λb o e=>nomatch e
 bt:=rfl
 b0:=λ_ z=>z
 ba:=λb z=>by
  obtain⟨_,_,h,_⟩:=T.ob;rw[z,h];exact λz=>nomatch z
 a0:=λb z=>by
  obtain⟨_,_,h,_⟩:=T.ob;show H b≠ah;rw[show b=t from z,h];exact λz=>nomatch z
 sl:=λi x e=>by
  rcases i with _|_|i
  ·cases e
  ·cases e;exact⟨_,rfl,rfl,λz=>by cases z⟩
  ·have e':(Bj k (ah:Option SV))[i]?=ae (ae x):=e;rw[Ej]at e'
   split at e'
   ·cases e'
   ·cases e'
 ow:=λi j x y v e1 e2 o1 o2 f1 f2=>by
  rcases i with _|_|i
  ·cases e1
  ·cases e1;cases o1
  ·have e':(Bj k (ah:Option SV))[i]?=ae (ae x):=e1;rw[Ej]at e'
   split at e'
   ·cases e'
   ·cases e'
 len:=by simp
theorem QC(F:Fun K "law" "law" st f fd)(Sc:FnScope N ["_law_script"] (dO st))
  (GT:FnOk P w K mg base dU 1 fT fdT ["_law_script"] (pS K)) (bT:Binds K fdT ["_law_script"] []) (mT:mg "_law_tape"=ae (.ref fT)) (kT:C3 K (.ref fT)=ai)
  (hN:∀v,start N [v]=ae v::ah::Bj (N.length-2) ah)
  (hW:W (ah::ae (.w .tp)::Bj (N.length-2) ah) 0 p8)
  (hbody:∀(cdv:Ak)(A:Ck)(outer:List Env)(s:Ar)(H:Hp)(E:XK),Room k (A.deeper (D6 "law" (dO st) s.heap.objs.size f cdv))->
   ∃s0 aP T,gS st=s0::aP/\PS (d8 dU P w K mg base N "law" (dO st) f cdv A outer s H E).nox s0 (c8 (jP (pS K) [] E0 (c7 (bw 0) bL)) (fi 1))/\DSs (d8 dU P w K mg base N "law" (dO st) f cdv A outer s H E).nox aP T W):
  FnOk P w K mg base dU (k+1) f fd ["_law_script"] (spLaw K):=by
 refine F.ok Sc (λvs H Q E h=>?_) (λcdv A outer s H vs Q E hr h=>?_)
 ·obtain⟨a,ns,rfl,_⟩:=h;rfl
 ·obtain⟨a,ns,rfl,hS,hl,kk⟩:=h;obtain⟨s0,aP,T,e,p0,d⟩:=hbody cdv A outer s H E hr;rw[e];refine⟨_,ja p0 d.ps,?_⟩;rw[hN];refine⟨_,rfl,a,ns,rfl,hS,hl,λt l H1 T1 _=>?_⟩;refine d.sd ⟨t,l,ns,H1,λb=>b=t,λ_=>ah⟩ H1 (λb=>b=t) _ _ 0 p8 _ (ME (a:=.ref a) (k:=N.length-2) T1) hW ⟨?_,?_,?_,?_,λ_ _ _ _ _ _ _ _ _ _ _ _ _ z=>z.elim⟩
  ·exact λ_ _ _ _ _ _ z=>z.elim
  ·intro H B σ δ n v w R r z;have z:w=.d (.bool ai):=z;subst z;cases(show RdX H B v (.bool ai)from r);exact kk H
  ·exact λ_ _ _ _ _ _ z=>z.elim
  ·exact λ_ _ _ _ _ _ z=>z.elim
end
section
variable{X:Cx}{elt tg iter:Expr}{ifs:List Expr}{scope:E4}{cl:List (Str×Addr)}{cpos pos pos':Pos}{N:List Str}{fr:List (Option Nat)}{wi:TI}{v:iK}{g:TG}{gd:eU}{tt:TT}{cc:cM}{te:TE}{we:DT}{i:Nat}{x:Str}
theorem Tf(h:ke t w):jw (c8 t (fi i)) (br i w):=λC H B σ δ n K D R q E=>
 h C H B σ δ n _ _ R q λa xs ds H1 n1 R1 k1 h0 h1 h2 h3 q1=>by
  refine E.nx _ _ _ _ _ (R.own R1 k1 h0 (by rw[h1];exact λz=>nomatch z) rfl ?_) q1;exact⟨a,xs,rfl,h1,.inr rfl,R.h0 h0,h2,h3⟩
theorem Tz(h:fe t w):jw (c8 t (fi i)) (aF i w):=λC H B σ δ n K D R q E=>
 h C H B σ δ n _ _ R q λv x H1 n1 R1 _ r1 q1=>by
  cases x with
  |d d=>exact E.nx _ _ _ _ _ (R1.set r1 rfl) q1
  |tp=>exact E.nx _ _ _ _ _ (R1.set r1 rfl) q1
  |dk _=>exact q1.elim
  |ln _=>exact q1.elim
  |ob _=>exact E.nx _ _ _ _ _ (R1.set r1 rfl) q1
theorem PF(hN:X.N.Nodup)(hix:X.N[i]?=ae x)(hx:X.env.scope.names.lookup x=ae .local)(hc:X.calm=ai)(S:CompSc X N scope cl fr)(hi:DI X tg iter wi v)(hg:∀s H fp,DG (dJ X N scope cl s H fp) tg g gd)(ht:∀s H fp,DIf (dJ X N scope cl s H fp) ifs tt cc)
  (he:∀s H fp,DE (dJ X N scope cl s H fp) elt te we) (hno:ma gd) (hs:∀x,Eh iter X.env x=pure x:=by intro _;rfl)
  (hsw:Ed (.ListComp elt [⟨tg,iter,ifs,0⟩] scope cpos) (ae (.Name x pos')) pos.line X.env=pure ai:=by rfl):
  DS X (.Assign [.Name x pos'] (.ListComp elt [⟨tg,iter,ifs,0⟩] scope cpos) pos) (c8 (lV fr wi g tt te) (fi i)) (br i (cW fr v gd cc we)):=
 ⟨CG hN hix hx hc S hi.pi (λs H fp=>(hg s H fp).pg) (λs H fp=>(ht s H fp).pf) (λs H fp=>(he s H fp).pe) hs hsw,Tf (vW (pos:=cpos) hc S hi hg ht he hno hs).sd⟩
theorem J5(hN:X.N.Nodup)(hix:X.N[i]?=ae x)(hx:X.env.scope.names.lookup x=ae .local)(hc:X.calm=ai)(S:CompSc X N scope cl fr)(hi:DI X tg iter wi v)(hg:∀s H fp,DG (dJ X N scope cl s H fp) tg g gd)(ht:∀s H fp,DIf (dJ X N scope cl s H fp) ifs tt cc)
  (he:∀s H fp,DE (dJ X N scope cl s H fp) elt te we) (hno:ma gd) (hs:∀x,Eh iter X.env x=pure x:=by intro _;rfl)
  (hsw:Ed (.ListComp elt [⟨tg,iter,ifs,0⟩] scope cpos) (ae (.Name x pos')) pos.line X.env=pure ai:=by rfl):
  DS X (.Assign [.Name x pos'] (.ListComp elt [⟨tg,iter,ifs,0⟩] scope cpos) pos) (c8 (lV fr wi g tt te) (fi i)) (aF i (bj (cW fr v gd cc we))):=
 ⟨CG hN hix hx hc S hi.pi (λs H fp=>(hg s H fp).pg) (λs H fp=>(ht s H fp).pf) (λs H fp=>(he s H fp).pe) hs hsw,Tz (vW (pos:=cpos) hc S hi hg ht he hno hs).d.sd⟩
end
section
variable{X:Cx}{tg a b c e:Expr}{ta tb tc te:TE}{wa wb wc we:DT}{pos p:Pos}{K:Ag}
theorem M7(ha:DE X a ta wa)(hb:DE X b tb wb)(hK:X.K=K:=by rfl):DE X (.BinOp a .Add b pos) (dz (nY K) ta tb) (w2 wa wb gF):=by subst hK;exact N2 ha hb
theorem GK(ha:DE X a ta wa)(hb:DE X b tb wb)(hK:X.K=K:=by rfl)(hs:nH b:=by exact λ_ _=>rfl):DE X (.Subscript a b pos) (dz (gR K) ta tb) (w2 wa wb az):=by subst hK;exact wM ha hb hs
def wX(K:Ag)(T:String):List V->Hp->VK->Prop:=λxs H Q=>∃x t b,xs=[x,.ty T]/\TyOf K H x t/\PySem.W.kitOne K t (.type T)=ae b/\Q (.bl b) H
theorem RH{p p2:Pos}(hT:T="int"\/T="bool"\/T="str"\/T="tuple"\/T="list")(hg:Gl X "isinstance")(hm:X.mg "isinstance"=ah)(hg2:Gl X x)(hm2:X.mg x=ah)(hv:B3 x=ae (.type T))(ha:DE X a ta wa)(hK:X.K=K:=by rfl)(hn:x≠"__name__":=by decide)(hdb:(x==("__debug__":Str))=aj:=by decide)
  (he:Az [a,.Name x p2] X.env=(aj,eval a X.env)::Az [.Name x p2] X.env:=by rfl) (he2:Az [.Name x p2] X.env=(aj,eval (.Name x p2) X.env)::Az [] X.env:=by rfl) (hpl:(Dj pos (Az [.Name x p2] X.env)).any (·.1)=aj:=by rfl):
  DE X (.Call (.Name "isinstance" p) [a,.Name x p2] [] pos) (fY (wX K T) (c7 ta (c7 (tC (.ty T)) bL))) (bF T wa):=by subst hK;exact J3 hT hg hm hg2 hm2 hv ha hn hdb he he2 hpl
def kH(K:Ag):R2:=λx y H Q=>sr x y H Q\/rS x y H Q\/tK K x y H Q
theorem u6(hu:X.A.units < Fu)(hK:X.K=K:=by rfl):OpR X (By .Eq) (kH K):=by subst hK;exact P5 hu
theorem uk:bO (kH K) a9:=R9
theorem xm(hK:X.K=K:=by rfl):OpR X (By .In) (jg K aj):=by subst hK;exact Vi
theorem yK(hK:X.K=K:=by rfl):OpR X (By .NotIn) (jg K ai):=by subst hK;exact OQ
def qM(K:Ag):List V->Hp->VK->Prop:=λxs H Q=>(∃z,xs=[.str z]/\z.length<=Ay/\Q (.int z.length) H)\/∃p ys,xs=[.ref p]/\(SqL K H p ys\/SqT K H p ys)/\Q (.int ys.length) H
theorem zk(hK:X.K=K:=by rfl):CallR X (.builtin "len") (qM K):=by subst hK;exact Kn
theorem DD:dM (qM K) bg:=Sy
def rR(K:Ag):List V->Hp->VK->Prop:=λxs H Q=>∃p ys,xs=[.ref p]/\((SqL K H p ys/\∀l,H l=ah->Q (.ref l) (upd H l (.tup ys)))\/(SqT K H p ys/\Q (.ref p) H))
theorem CH(hK:X.K=K:=by rfl):CallR X (.type "tuple") (rR K):=by subst hK;exact VT
theorem HI:dM (rR K) fq:=Kc
def sC(K:Ag):List V->Hp->VK->Prop:=λxs H Q=>∃p ys,xs=[.ref p]/\(SqL K H p ys\/SqT K H p ys)/\∀l,H l=ah->Q (.ref l) (upd H l (.lst ys))
theorem xy(hK:X.K=K:=by rfl):CallR X (.type "list") (sC K):=by subst hK;exact NB
theorem AG:dM (sC K) lX:=NZ
theorem Nd(ha:DE X a ta wa)(hK:X.K=K:=by rfl):DI X tg a (tW K ta) (fU wa):=by subst hK;exact MB ha
theorem RE(ha:DE X a ta wa)(hK:X.K=K:=by rfl):DI X tg a (jC K ta) (ft wa):=by subst hK;exact VS ha
theorem NY{k:Nat}{n:Nat}{r:d0}(h:DGs X es t r)(hc:X.calm=ai:=by rfl)(hK:X.K=K:=by rfl)
  (hn:(Cq es X.env).length=n:=by rfl) (hst:(Cq es X.env).findIdx? (·.1)=ah:=by rfl):DG X (.Tuple es k pos) (nq K n t) (dq n r):=by subst hK;exact QR h hc hn hst
end
end DL
local macro_rules|`(⇑$n:num)=>`(DL.wC (.int $n))
local macro_rules|`(↥$n:num)=>`(DL.ak $n)
local macro_rules|`(tactic|ac_rfl)=>`(tactic|dsimp only[DL.aG])
local macro_rules|`(tactic|ac_nf)=>`(tactic|dsimp only[Am])
local macro_rules|`(‹$x›)=>`(.d (.tuple $x))
local macro_rules|`(~~~$x)=>`(.d (.int $x))
local macro_rules|`(tactic|grind)=>`(tactic|dsimp only[DL.bh,DL.ck,DL.aJ,Am])
local macro_rules|`(tactic|nofun)=>`(tactic|rw[if_pos rfl])
namespace KS
open PySem PySem.W PyProof.Rows
def run{α:Type}(c:Nat->Nat->Bool):KasT α->α
 |.ret a=>a
 |.ask i j k=>run c (k (c i j))
theorem nT(c)(f:α->KasT β):∀t:KasT α,run c (t.bind f)=run c (f (run c t))
 |.ret _=>rfl
 |.ask i j k=>nT c f (k (c i j))
def Wi{α:Type}(n:Nat)(P:α->Prop):KasT α->Prop
 |.ret a=>P a
 |.ask i j k=>i < n/\j < n/\∀b,Wi n P (k b)
theorem Wi.bind{f:α->KasT β}(hf:∀a,P a->Wi n R (f a)):∀{t:KasT α},Wi n P t->Wi n R (t.bind f)
 |.ret a,h=>hf a h
 |.ask i j k,h=>⟨h.1,h.2.1,λb=>Wi.bind hf (h.2.2 b)⟩
theorem Wi.out(c):∀{t:KasT α},Wi n P t->P (run c t)
 |.ret a,h=>h
 |.ask i j k,h=>Wi.out c (t:=k (c i j)) (h.2.2 (c i j))
theorem wp_run{St:Ar->Prop}
  (hc:∀i j C s,i < n->j < n->St s->(∀s',St s'->C (c i j) s')->cmp i j C s):∀(t:KasT α)(s:Ar),Wi n P t->St s->(∀s',St s'->Q (run c t) s')->t.kasWp cmp Q s
 |.ret a,s,_,hs,h=>h s hs
 |.ask i j k,s,w,hs,h=>hc i j _ s w.1 w.2.1 hs λs' hs'=>wp_run hc (k (c i j)) s' (w.2.2 _) hs' h
def Lo(n:Nat)(p:Array Nat):Prop:=∀i,p.getD i 0 < n
theorem k7(p:Array Nat)(i):p.getD i 0=(p[i]?).getD 0:=by simp
theorem MO(hn:0 < n)(h:∀x∈p,x < n):Lo n p:=λi=>by
 rw[k7];cases e:p[i]? with
 |none=>exact hn
 |some x=>exact h x (Array.mem_of_getElem? e)
def Pm(n:Nat)(p:Array Nat):Prop:=p.Perm (Dv (A8 n))
theorem Pm.size(h:Pm n p):p.size=n:=by rw[Array.Perm.size_eq h];simp
theorem Pm.lo(hn:0 < n)(h:Pm n p):Lo n p:=MO hn λx hx=>by
 have:x∈Dv (A8 n):=(Array.Perm.mem_iff h).mp hx;simpa using this
theorem Pm.rev(h:Pm n p)(i j):Pm n (Eg p i j):=(mirror_perm p i j _).trans h
theorem Pm.bub(h:Pm n p)(i j):Pm n (bubble p i j):=(bubble_perm p i j).trans h
section
variable{n:Nat}(hn:0 < n)
include hn
theorem xM(h:Lo n p):∀f m,Wi n (λ_=>True) (kas_asc p f m)
 |0,m=>trivial
 |f+1,m=>⟨h _,h _,λb=>by
  cases b with
  |true=>exact trivial
  |false=>exact xM h f (m+1)⟩
theorem sS:∀f (p:Array Nat) m q,Pm n p->Wi n (λr=>Pm n r.1) (kas_desc f p m q)
 |0,p,m,q,h=>h
 |f+1,p,m,q,h=>⟨h.lo hn _,h.lo hn _,λb=>by
  cases b with
  |true=>
   show Wi n _ (if q > 0 then _ else _)
   split
   ·exact sS f _ _ _ (h.rev _ _)
   ·exact sS f _ _ _ h
  |false=>exact⟨h.lo hn _,h.lo hn _,λd=>by
    cases d with
    |true=>exact h
    |false=>exact sS f _ _ _ h⟩⟩
theorem CU(m nrem)(h:Pm n p):Wi n (λr=>Pm n r.2) (kas_tail3 m nrem p):=by
 unfold kas_tail3;refine Wi.bind (P:=λ_=>True) (λa _=>?_) (xM hn ((h.rev 0 m).lo hn) _ _);show Pm n (Eg p 0 m);exact h.rev _ _
theorem He(m nrem)(h:Pm n p):Wi n (λr=>Pm n r.2) (kas_descPart m nrem p):=
 Wi.bind (λr hr=>by
  show Wi n _ (if r.2.2 > 0 then _ else _)
  split
  ·exact CU hn _ _ (Pm.rev hr _ _)
  ·exact CU hn _ _ hr) (sS hn _ p _ _ h)
theorem Mb(nrem)(h:Pm n p):Wi n (λr=>Pm n r.2) (kas_count nrem p):=
 Wi.bind (λm _=>by
  show Wi n _ (if (m==nrem)=ai then _ else if m > 1 then _ else _)
  split
  ·exact h
  ·split
   ·exact⟨h.lo hn _,h.lo hn _,λb=>by
     cases b with
     |true=>exact h
     |false=>exact He hn _ _ (h.rev _ _)⟩
   ·exact He hn _ _ h) (xM hn (h.lo hn) _ _)
theorem yd(h:Lo n p)(k):∀f l r,Wi n (λ_=>True) (kas_place p k f l r)
 |0,l,r=>trivial
 |f+1,l,r=>by
  show Wi n _ (if l ≥ r then _ else _)
  split
  ·exact trivial
  ·exact⟨h _,h _,λb=>by
    cases b with
    |true=>exact yd h k f _ _
    |false=>exact yd h k f _ _⟩
theorem FW:∀f (p:Array Nat) k,Pm n p->Wi n (Pm n) (kas_bin f p k)
 |0,p,k,h=>h
 |f+1,p,k,h=>Wi.bind (λl _=>FW f _ _ (h.bub _ _)) (yd hn (h.lo hn) k _ _ _)
theorem wi_sort:Wi n (Pm n) (kas_sort n):=
 Wi.bind (λr hr=>by
  show Wi n _ (if r.1 < n then _ else _)
  split
  ·exact FW hn _ _ _ hr
  ·exact hr) (Mb hn n (Array.Perm.refl _))
end
structure Ord(lt:Nat->Nat->Bool):Prop where
 asym:∀i j,lt i j=ai->lt j i=aj
 ltr:∀i j k,lt j i=aj->lt k j=aj->lt k i=aj
section
variable{lt:Nat->Nat->Bool}(O:Ord lt)
def g(p:Array Nat)(i:Nat):Nat:=p.getD i 0
def SP(lt:Nat->Nat->Bool)(p:Array Nat)(n:Nat):Prop:=∀i j,i < j->j < n->lt (g p j) (g p i)=aj
def DP(lt:Nat->Nat->Bool)(p:Array Nat)(n:Nat):Prop:=∀i j,i < j->j < n->lt (g p i) (g p j)=aj
def Sim(lt:Nat->Nat->Bool)(x y:Nat):Prop:=lt x y=aj/\lt y x=aj
include O
theorem jQ(i):lt i i=aj:=by
 cases e:lt i i with
 |false=>rfl
 |true=>exact(O.asym i i e).symm.trans e |>.symm▸rfl
theorem Sim.eq(h1:Sim lt a x)(h2:Sim lt b y):lt a b=lt x y:=by
 cases e:lt x y with
 |false=>exact O.ltr _ _ _ h2.2 (O.ltr _ _ _ e h1.1)
 |true=>
  cases e2:lt a b with
  |true=>rfl
  |false=>
   have:lt x y=aj:=O.ltr _ _ _ h2.1 (O.ltr _ _ _ e2 h1.2);rw[this]at e;cases e
theorem SP.snoc(h:SP lt p n)(h1:1<=n)(e:lt (g p n) (g p (n-1))=aj):SP lt p (n+1):=λi j hij hj=>by
 by_cases q:j < n
 ·exact h i j hij q
 ·have:j=n:=by omega
  subst this;by_cases r:i=j-1
  ·subst r;exact e
  ·exact O.ltr _ _ _ (h i (j-1) ⋯ ⋯) e
theorem uH:∀f n,1<=n->SP lt p n->n<=run lt (kas_asc p f n)/\run lt (kas_asc p f n)<=n+f/\SP lt p (run lt (kas_asc p f n))/\(run lt (kas_asc p f n)=n+f\/lt (g p (run lt (kas_asc p f n))) (g p (run lt (kas_asc p f n)-1))=ai)
 |0,n,h1,h=>⟨Al _,Al _,h,.inl rfl⟩
 |f+1,n,h1,h=>by
  have e:run lt (kas_asc p (f+1) n)=run lt (if lt (g p n) (g p (n-1))=ai then .ret n else kas_asc p f (n+1)):=rfl;rw[e];cases q:lt (g p n) (g p (n-1))with
  |true=>exact⟨Al _,Nat.le_add_right _ _,h,.inr q⟩
  |false=>
   rw[if_neg Ae];obtain⟨a1,a2,a3,a4⟩:=uH f (n+1) ⋯ (SP.snoc O h h1 q);exact⟨by omega,by omega,a3,a4.imp (λz=>by omega) id⟩
omit O
theorem yc(hj:j<=p.size)(k):g (Eg p i j) k=if i<=k/\k < j then g p (i+j-1-k)else g p k:=by
 unfold g Eg;rw[k7,k7,k7,getElem?_mirror hj _ ⋯];by_cases h:i<=k/\k < j
 ·rw[if_pos h];by_cases q:(i<=k/\k < i+(j-i) / 2)\/(j-(j-i) / 2<=k/\k < j)
  ·rw[if_pos q]
  ·rw[if_neg q];have:i+j-1-k=k:=by omega
   rw[this]
 ·rw[if_neg h,if_neg ⋯]
include O
theorem vN(hj:j<=p.size)(h:∀a b,i<=a->a < j->i<=b->b < j->Sim lt (g p a) (g p b))(k):Sim lt (g (Eg p i j) k) (g p k):=by
 rw[yc hj]
 split
 ·rename_i q;exact h _ _ ⋯ ⋯ q.1 q.2
 ·exact⟨jQ O _,jQ O _⟩
theorem DP.sim(h:DP lt p n)(s:∀k,Sim lt (g p' k) (g p k)):DP lt p' n:=λi j hij hj=>(Sim.eq O (s i) (s j)).trans (h i j hij hj)
theorem DP.snoc(h:DP lt p n)(h1:1<=n)(e:lt (g p (n-1)) (g p n)=aj):DP lt p (n+1):=λi j hij hj=>by
 by_cases q:j < n
 ·exact h i j hij q
 ·have:j=n:=by omega
  subst this;by_cases r:i=j-1
  ·subst r;exact e
  ·exact O.ltr _ _ _ e (h i (j-1) ⋯ ⋯)
omit O
def yw(lt:Nat->Nat->Bool)(sz n f:Nat)(r:Array Nat×Nat×Nat):Prop:=
 r.1.size=sz/\n<=r.2.1/\r.2.1<=n+f/\r.2.2+1<=r.2.1/\DP lt r.1 r.2.1/\(∀a b,r.2.1-(r.2.2+1)<=a->a < r.2.1->r.2.1-(r.2.2+1)<=b->b < r.2.1->Sim lt (g r.1 a) (g r.1 b))
def kP(lt:Nat->Nat->Bool)(sz nrem:Nat)(r:Nat×Array Nat):Prop:=r.2.size=sz/\1<=r.1/\r.1<=nrem/\SP lt r.2 r.1
def yy(lt:Nat->Nat->Bool)(p:Array Nat)(k m:Nat):Prop:=m<=k/\(∀i,i < m->lt (g p k) (g p i)=aj)/\(∀i,m<=i->i < k->lt (g p k) (g p i)=ai)
include O
theorem sN:∀f (p:Array Nat) n q,q+1<=n->n+f<=p.size->DP lt p n->(∀a b,n-(q+1)<=a->a < n->n-(q+1)<=b->b < n->Sim lt (g p a) (g p b))->
  yw lt p.size n f (run lt (kas_desc f p n q))
 |0,p,n,q,h1,h2,h3,h4=>⟨rfl,Al _,Al _,h1,h3,h4⟩
 |f+1,p,n,q,h1,h2,h3,h4=>by
  have one:∀(p':Array Nat)(m:Nat)(a b:Nat),m+1-(0+1)<=a->a < m+1->m+1-(0+1)<=b->b < m+1->Sim lt (g p' a) (g p' b):=λp' m a b ha ha' hb hb'=>by
   have e1:a=m:=by omega
   have e2:b=m:=by omega
   rw[e1,e2];exact⟨jQ O _,jQ O _⟩
  show yw lt p.size n (f+1) (run lt (if lt (g p n) (g p (n-1))=ai then(if q > 0 then kas_desc f (Eg p (n-(q+1)) n) (n+1) 0 else kas_desc f p (n+1) 0)else .ask (p.getD (n-1) 0) (p.getD n 0) λd=>if d=ai then .ret (p,n,q)else kas_desc f p (n+1) (q+1)));cases c1:lt (g p n) (g p (n-1))with
  |true=>
   nofun;by_cases hq:q > 0
   ·rw[if_pos hq];have sim:=vN O (p:=p) (i:=n-(q+1)) (j:=n) ⋯ h4;have hd:DP lt (Eg p (n-(q+1)) n) (n+1):=DP.sim O (DP.snoc O h3 ⋯ (O.asym _ _ c1)) sim;have hs:(Eg p (n-(q+1)) n).size=p.size:=mirror_size _ _ _ _;obtain⟨a1,a2,a3,a4,a5,a6⟩:=sN f (Eg p (n-(q+1)) n) (n+1) 0 ⋯ (by rw[hs];omega) hd (one _ n);exact⟨a1.trans hs,by omega,by omega,a4,a5,a6⟩
   ·rw[if_neg hq];obtain⟨a1,a2,a3,a4,a5,a6⟩:=sN f p (n+1) 0 ⋯ ⋯ (DP.snoc O h3 ⋯ (O.asym _ _ c1)) (one _ n);exact⟨a1,by omega,by omega,a4,a5,a6⟩
  |false=>
   rw[if_neg Ae];show yw lt p.size n (f+1) (run lt (if lt (g p (n-1)) (g p n)=ai then .ret (p,n,q)else kas_desc f p (n+1) (q+1)));cases c2:lt (g p (n-1)) (g p n)with
   |true=>exact⟨rfl,Al _,by show n<=n+(f+1);omega,h1,h3,h4⟩
   |false=>
    rw[if_neg Ae];have s1:Sim lt (g p n) (g p (n-1)):=⟨c1,c2⟩;have tr:∀{x y z:Nat},Sim lt x y->Sim lt y z->Sim lt x z:=λh h'=>⟨O.ltr _ _ _ h'.1 h.1,O.ltr _ _ _ h.2 h'.2⟩;obtain⟨a1,a2,a3,a4,a5,a6⟩:=sN f p (n+1) (q+1) ⋯ ⋯ (DP.snoc O h3 ⋯ c2) (λa b ha ha' hb hb'=>by
     have key:∀x,n+1-(q+1+1)<=x->x < n+1->Sim lt (g p x) (g p (n-1)):=λx hx hx'=>by
      by_cases e:x=n
      ·rw[e];exact s1
      ·exact h4 x (n-1) ⋯ ⋯ ⋯ ⋯
     have kb:=key b hb hb';exact tr (key a ha ha') ⟨kb.2,kb.1⟩)
    exact⟨a1,by omega,by omega,a4,a5,a6⟩
theorem zo(h1:1<=n)(hn:n<=nrem)(hz:nrem<=p.size)(h:DP lt p n):kP lt p.size nrem (run lt (kas_tail3 n nrem p)):=by
 unfold kas_tail3;rw[nT];have hs:(Eg p 0 n).size=p.size:=mirror_size _ _ _ _;have sp:SP lt (Eg p 0 n) n:=λi j hij hj=>by
  rw[yc ⋯,yc ⋯,if_pos ⟨Bo _,hj⟩,if_pos ⟨Bo _,by omega⟩];exact h _ _ ⋯ ⋯
 obtain⟨a1,a2,a3,_⟩:=uH O (p:=Eg p 0 n) (nrem-n) n h1 sp;exact⟨hs,by show 1<=run lt (kas_asc (Eg p 0 n) (nrem-n) n);omega,by show run lt (kas_asc (Eg p 0 n) (nrem-n) n)<=nrem;omega,a3⟩
theorem HS(h1:1<=n)(hn:n+1<=nrem)(hz:nrem<=p.size)(h:DP lt p (n+1)):kP lt p.size nrem (run lt (kas_descPart n nrem p)):=by
 unfold kas_descPart;rw[nT];obtain⟨a1,a2,a3,a4,a5,a6⟩:=sN O (nrem-(n+1)) p (n+1) 0 ⋯ ⋯ h (λa b ha ha' hb hb'=>by
  have e1:a=n:=by omega
  have e2:b=n:=by omega
  rw[e1,e2];exact⟨jQ O _,jQ O _⟩)
 generalize run lt (kas_desc (nrem-(n+1)) p (n+1) 0)=r at a1 a2 a3 a4 a5 a6;by_cases hq:r.2.2 > 0
 ·rw[if_pos hq];have hs:(Eg r.1 (r.2.1-(r.2.2+1)) r.2.1).size=r.1.size:=mirror_size _ _ _ _;obtain⟨b1,b2⟩:=zo O (p:=Eg r.1 (r.2.1-(r.2.2+1)) r.2.1) (n:=r.2.1) (nrem:=nrem) ⋯ ⋯ (by rw[hs];omega) (DP.sim O a5 (vN O ⋯ a6));exact⟨b1.trans (hs.trans a1),b2⟩
 ·rw[if_neg hq];obtain⟨b1,b2⟩:=zo O (p:=r.1) (n:=r.2.1) (nrem:=nrem) ⋯ ⋯ ⋯ a5;exact⟨b1.trans a1,b2⟩
theorem KP(h1:1<=nrem)(hz:nrem<=p.size):kP lt p.size nrem (run lt (kas_count nrem p)):=by
 unfold kas_count;rw[nT];obtain⟨a1,a2,a3,a4⟩:=uH O (p:=p) (nrem-1) 1 (Al _) (λi j hij hj=>by omega);generalize run lt (kas_asc p (nrem-1) 1)=m at a1 a2 a3 a4;by_cases q:(m==nrem)=ai
 ·rw[if_pos q];exact⟨rfl,a1,by show m<=nrem;omega,a3⟩
 ·rw[if_neg q];have hm:m≠nrem:=λz=>q (by rw[z];exact beq_self_eq_true _);have a4:lt (g p m) (g p (m-1))=ai:=a4.resolve_left ⋯;by_cases hm1:m > 1
  ·rw[if_pos hm1];show kP lt p.size nrem (run lt (if lt (g p 0) (g p (m-1))=ai then .ret (m,p)else kas_descPart m nrem (Eg p 0 m)));cases c:lt (g p 0) (g p (m-1))with
   |true=>exact⟨rfl,a1,by show m<=nrem;omega,a3⟩
   |false=>
    rw[if_neg Ae];have hs:(Eg p 0 m).size=p.size:=mirror_size _ _ _ _;have up:∀a b,a < m->b < m->lt (g p b) (g p a)=aj:=λa b ha hb=>by
     have le0:lt (g p a) (g p 0)=aj:=by
      by_cases z:a=0
      ·rw[z];exact jQ O _
      ·exact a3 0 a ⋯ ha
     have leb:lt (g p (m-1)) (g p b)=aj:=by
      by_cases z:b=m-1
      ·rw[z];exact jQ O _
      ·exact a3 b (m-1) ⋯ ⋯
     have l1:lt (g p b) (g p 0)=aj:=by
      by_cases z:b=0
      ·rw[z];exact jQ O _
      ·exact a3 0 b ⋯ hb
     have l2:lt (g p 0) (g p a)=aj:=O.ltr _ _ _ (by
      by_cases z:a=m-1
      ·rw[z];exact jQ O _
      ·exact a3 a (m-1) ⋯ ⋯) c
     exact O.ltr _ _ _ l2 l1
    have all:∀a b,0<=a->a < m->0<=b->b < m->Sim lt (g p a) (g p b):=λa b _ ha _ hb=>⟨up b a hb ha,up a b ha hb⟩;have sim:=vN O (p:=p) (i:=0) (j:=m) ⋯ all;have dp:DP lt p (m+1):=DP.snoc O (λi j hij hj=>up j i hj ⋯) a1 (O.asym _ _ a4);obtain⟨b1,b2⟩:=HS O (p:=Eg p 0 m) (n:=m) (nrem:=nrem) a1 ⋯ (by rw[hs];omega) (DP.sim O dp sim);exact⟨b1.trans hs,b2⟩
  ·rw[if_neg hm1];have e:m=1:=by omega
   subst e;exact HS O (p:=p) (Al _) ⋯ hz (DP.snoc O (λi j hij hj=>by omega) (Al _) (O.asym _ _ a4))
theorem yY(h:SP lt p k):∀f l r,l<=r->r<=k->r-l<=f->(∀i,i < l->lt (g p k) (g p i)=aj)->(∀i,r<=i->i < k->lt (g p k) (g p i)=ai)->
  yy lt p k (run lt (kas_place p k f l r))
 |0,l,r,hlr,hr,hf,h1,h2=>by
  have e:l=r:=by omega
  subst e;exact⟨hr,h1,h2⟩
 |f+1,l,r,hlr,hr,hf,h1,h2=>by
  show yy lt p k (run lt (if l ≥ r then .ret l else .ask (p.getD k 0) (p.getD ((l+r) / 2) 0) λc=>if c=ai then kas_place p k f l ((l+r) / 2)else kas_place p k f ((l+r) / 2+1) r));by_cases q:l ≥ r
  ·rw[if_pos q];have e:l=r:=by omega
   subst e;exact⟨hr,h1,h2⟩
  ·rw[if_neg q];show yy lt p k (run lt (if lt (g p k) (g p ((l+r) / 2))=ai then kas_place p k f l ((l+r) / 2)else kas_place p k f ((l+r) / 2+1) r));cases c:lt (g p k) (g p ((l+r) / 2))with
   |true=>
    nofun;refine yY h f l ((l+r) / 2) ⋯ ⋯ ⋯ h1 λi hi hik=>?_;by_cases e:i=(l+r) / 2
    ·rw[e];exact c
    ·cases z:lt (g p k) (g p i)with
     |true=>rfl
     |false=>
      have:=O.ltr _ _ _ (h ((l+r) / 2) i ⋯ hik) z;rw[this]at c;cases c
   |false=>
    rw[if_neg Ae];refine yY h f ((l+r) / 2+1) r ⋯ hr ⋯ (λi hi=>?_) h2;by_cases e:i=(l+r) / 2
    ·rw[e];exact c
    ·exact O.ltr _ _ _ (h i ((l+r) / 2) ⋯ ⋯) c
omit O
theorem CV(hk:k < p.size)(hl:l<=k)(i):g (bubble p k (k-l)) i=if i=l then g p k else if l < i/\i<=k then g p (i-1)else g p i:=by
 unfold g;rw[k7,getElem?_bubble hk _ ⋯,k7,k7,k7];have e:k-(k-l)=l:=by omega
 rw[e];by_cases h1:i=l
 ·rw[if_pos h1,if_pos h1]
 ·rw[if_neg h1,if_neg h1];by_cases h2:l < i/\i<=k
  ·rw[if_pos h2,if_pos h2]
  ·rw[if_neg h2,if_neg h2]
include O
theorem FH:∀f (p:Array Nat) k,1<=k->k+f<=p.size->SP lt p k->SP lt (run lt (kas_bin f p k)) (k+f)
 |0,p,k,h1,hz,h=>h
 |f+1,p,k,h1,hz,h=>by
  show SP lt (run lt ((kas_place p k k 0 k).bind λl=>kas_bin f (bubble p k (k-l)) (k+1))) (k+(f+1));rw[nT];obtain⟨b1,b2,b3⟩:=yY O h k 0 k (Bo _) (Al _) ⋯ (λi hi=>by omega) (λi hi hi'=>by omega);generalize run lt (kas_place p k k 0 k)=l at b1 b2 b3;have sp:SP lt (bubble p k (k-l)) (k+1):=λi j hij hj=>by
   rw[CV ⋯ b1,CV ⋯ b1];by_cases e1:j=l
   ·rw[if_pos e1,if_neg ⋯,if_neg ⋯];exact b2 i ⋯
   ·rw[if_neg e1];by_cases e2:l < j/\j<=k
    ·rw[if_pos e2];by_cases e3:i=l
     ·rw[if_pos e3];exact O.asym _ _ (b3 (j-1) ⋯ ⋯)
     ·rw[if_neg e3];by_cases e4:l < i/\i<=k
      ·rw[if_pos e4];exact h (i-1) (j-1) ⋯ ⋯
      ·rw[if_neg e4];exact h i (j-1) ⋯ ⋯
    ·rw[if_neg e2,if_neg ⋯,if_neg ⋯];exact h i j hij ⋯
  have:=FH f (bubble p k (k-l)) (k+1) ⋯ (by rw[bubble_size];omega) sp;have e:k+1+f=k+(f+1):=by omega
  rwa [e]at this
theorem sort_ok(h1:1<=n):SP lt (run lt (kas_sort n)) n:=by
 unfold kas_sort;rw[nT];obtain⟨a1,a2,a3,a4⟩:=KP O (p:=Dv (A8 n)) (nrem:=n) h1 (by simp);generalize run lt (kas_count n (Dv (A8 n)))=r at a1 a2 a3 a4;have hs:r.2.size=n:=by rw[a1];simp
 by_cases q:r.1 < n
 ·rw[if_pos q];have e:max r.1 1=r.1:=by omega
  rw[e];have:=FH O (n-r.1) r.2 r.1 a2 ⋯ a4;have e2:r.1+(n-r.1)=n:=by omega
  rwa [e2]at this
 ·rw[if_neg q];have e:r.1=n:=by omega
  rw[e]at a4;exact a4
end
end KS
namespace KS
open PySem PySem.W PySem.Calls PyProof.Rows
section
variable{prog:Bp}{w:B7}{A:Ck}{E:Ak->Ar->Prop}{s:Ar}{a:Addr}{vs:List Ak}
theorem ls_sort(ho:s.heap.get? a=ae (Dg "list" vs.toArray n))(h2:2<=vs.length)(h64:vs.length < 64)
  (h:∀e1 h',h'.get? a=ae (Dg "list" #[] e1)->(∀b o,b≠a->s.heap.get? b=ae o->h'.get? b=ae o)->
   A5 (Bi prog w) A (keyKind' vs.toArray) (λκ s'=>(kas_sort vs.length).kasWp (kas_ask prog w A κ vs)
    (λp s''=>s''.heap.get? a=ae (Dg "list" #[] e1)/\∀h3 c,D1 a s''.heap h3->h3.get? a=ae (Dg "list" (Dv (p.toList.map λi=>vs.getD i B8)) c)->P (.done (.ret .none)) {s'' with heap:=h3}) s') (λ_ _=>False) {s with heap:=h'}):
  A5 (Bi prog w) A (Gk.«list.sort» ⟨[.ref a],[]⟩) P E s:=by
 have ha:a < s.heap.objs.size:=A0 ho;have s1:=Cs s.heap a (Co λ_=>(#[]:Array Ak));obtain⟨e1,ho1⟩:∃e1,(s.heap.update a (Co λ_=>(#[]:Array Ak))).get? a=ae (Dg "list" #[] e1):=⟨_,get?_update_seq ho λ_=>#[]⟩;have ask:=h e1 (((s.heap.update a (Co λ_=>(#[]:Array Ak))).push (Dg "tuple" vs.toArray 0)).push (Dg "list" #[] 0)) (Ai _ (Ai _ ho1))
  λb o hb e=>Ai _ (Ai _ ((s1.2 b hb).trans e))
 rw[list_sort_plain];refine Ad (listItems_at ho rfl ?_);refine Ad (listUpdate_at ho rfl ?_ (by rw[A3,E3];omega) (Bo _));refine Ad (seqEpoch_at ho1 rfl ?_);refine Ad (wpAny_newTuple ?_ (by show vs.length<=_;rw[E3];omega));refine Ad (wpAny_newList ?_ (Bo _));refine Ct ?_;show A5 (Bi prog w) A _ P E {s with heap:=((s.heap.update a (Co λ_=>(#[]:Array Ak))).push (Dg "tuple" vs.toArray 0)).push (Dg "list" #[] 0)};dsimp only;have hn2:¬vs.toArray.size < 2:=by rw[A3];omega
 rw[if_neg hn2,if_neg hn2];refine Ad (Dr ask (λκ s0 hk=>?_) λ_ _ x=>x.elim);refine Ad (Dr (kat_run (Q:=λst' s'=>∃p:Array Nat,p.size=vs.length/\arrOf st'=p.map (kas_item (vs.toArray.zip vs.toArray))/\failedOf st'=ah/\s'.heap.get? a=ae (Dg "list" #[] e1)/\∀h3 c,D1 a s'.heap h3->h3.get? a=ae (Dg "list" (Dv (p.toList.map λi=>vs.getD i B8)) c)->P (.done (.ret .none)) {s' with heap:=h3})
  rfl h2 h64 (λp' st' s' a1 a2 a3 a4=>⟨p',a1,a2,a3,a4⟩) hk) ?_ λ_ _ e=>e)
 rintro⟨⟨⟩,st'⟩ s' ⟨p,hp,har,hf,na,k⟩
 dsimp only;have hout:=kat_snds rfl har;have hsz:(Dv (p.toList.map λi=>vs.getD i B8)).size=vs.length:=by rw[A3,Ab,Ef,hp]
 rw[hout];have s2:=Cs s'.heap a (Co λ_=>Dv (p.toList.map λi=>vs.getD i B8));obtain⟨c2,hc2⟩:∃c2,(s'.heap.update a (Co λ_=>Dv (p.toList.map λi=>vs.getD i B8))).get? a=ae (Dg "list" (Dv (p.toList.map λi=>vs.getD i B8)) c2):=⟨_,get?_update_seq na λ_=>Dv (p.toList.map λi=>vs.getD i B8)⟩;refine Ad (seqEpoch_at na rfl ?_);refine Ad (listUpdate_at na rfl ?_ (Bo _) (A4 (Nat.le_of_eq hsz) (by rw[E3];omega)));rw[hf];simp only[bne_self_eq_false,C6,if_false];exact Aw (k _ c2 s2 hc2)
theorem ls_short(ho:s.heap.get? a=ae (Dg "list" vs.toArray n))(h2:vs.length < 2)
  (h:∀h' c,h'.get? a=ae (Dg "list" vs.toArray c)->(∀b o,b≠a->s.heap.get? b=ae o->h'.get? b=ae o)->P (.done (.ret .none)) {s with heap:=h'}):
  A5 (Bi prog w) A (Gk.«list.sort» ⟨[.ref a],[]⟩) P E s:=by
 have ha:a < s.heap.objs.size:=A0 ho;have s1:=Cs s.heap a (Co λ_=>(#[]:Array Ak));obtain⟨e1,ho1⟩:∃e1,(s.heap.update a (Co λ_=>(#[]:Array Ak))).get? a=ae (Dg "list" #[] e1):=⟨_,get?_update_seq ho λ_=>#[]⟩;have ho6:(((s.heap.update a (Co λ_=>(#[]:Array Ak))).push (Dg "tuple" vs.toArray 0)).push (Dg "list" #[] 0)).get? a=ae (Dg "list" #[] e1):=Ai _ (Ai _ ho1);rw[list_sort_plain];refine Ad (listItems_at ho rfl ?_);refine Ad (listUpdate_at ho rfl ?_ (by rw[A3,E3];omega) (Bo _));refine Ad (seqEpoch_at ho1 rfl ?_);refine Ad (wpAny_newTuple ?_ (by show vs.length<=_;rw[E3];omega));refine Ad (wpAny_newList ?_ (Bo _));refine Ct ?_;show A5 (Bi prog w) A _ P E {s with heap:=((s.heap.update a (Co λ_=>(#[]:Array Ak))).push (Dg "tuple" vs.toArray 0)).push (Dg "list" #[] 0)};dsimp only;have hn2:vs.toArray.size < 2:=by rw[A3];omega
 rw[if_pos hn2,if_pos hn2];refine Ad (Aw ?_);rw[StateT.run_pure];refine Ad (Aw ?_);dsimp only;refine Ad (seqEpoch_at ho6 rfl ?_);refine Ad (listUpdate_at ho6 rfl ?_ (hsz2:=by rw[Array.size_map];show(pairsOf vs).size<=_;rw[pairsOf_size,E3];omega));simp only[bne_self_eq_false,C6,if_false];have e:(arrOf (SortSt.mk' general' (vs.toArray.zip vs.toArray) #[] 7 ah)).map (·.2)=vs.toArray:=by
  show(vs.toArray.zip vs.toArray).map (·.2)=vs.toArray;apply Array.toList_inj.mp;simp only[Array.toList_map,Array.toList_zip];exact List.map_snd_zip (Al _)
 have s2:=Cs (((s.heap.update a (Co λ_=>(#[]:Array Ak))).push (Dg "tuple" vs.toArray 0)).push (Dg "list" #[] 0)) a (Co λ_=>(arrOf (SortSt.mk' general' (vs.toArray.zip vs.toArray) #[] 7 ah)).map (·.2));refine Aw (h _ _ (by rw[e];exact get?_update_seq ho6 λ_=>vs.toArray) λb o hb q=>(s2.2 b hb).trans (Ai _ (Ai _ ((s1.2 b hb).trans q))))
theorem sorted_of(hcol:A5 (Bi prog w) A.in1 (collect r) R E s)
  (h:∀vs s1,R vs s1->vs.length<=Ay/\A5 (Bi prog w) A.in1.in1 (Gk.«list.sort» ⟨[.ref s1.heap.objs.size],[]⟩) (λf s2=>f=.done (.ret .none)/\Q (.ref s1.heap.objs.size) s2) E {s1 with heap:=s1.heap.push (Dg "list" vs.toArray 0)}):
  A5 (Bi prog w) A (call (.builtin "sorted") [r]) Q E s:=by
 refine Calls.call_function_entry kind_sorted plain_sorted entry_sorted (args_sorted1 _) ?_;unfold Gk.«sorted»;refine Ad (m:=checkCount "sorted" 1 1 _) (Aw ?_);refine Ad (Dr hcol (λvs s1 hr=>?_) λ_ _ e=>e);obtain⟨hl,hs⟩:=h vs s1 hr;refine Ad (wpAny_newList ?_ hl);have hoL:(s1.heap.push (Dg "list" vs.toArray 0)).get? s1.heap.objs.size=ae (Dg "list" vs.toArray 0):=Bb _ rfl;refine Ad (Ct (Dk (s:={ s1 with heap:=s1.heap.push (Dg "list" vs.toArray 0)}) slot_list_sort ⟨_,hoL,rfl⟩ entry_list_sort ?body (args_list_sort _)))
 case body=>
  refine Dr hs (λf s2 hf=>?_) λ_ _ e=>e;obtain⟨rfl,hq⟩:=hf;exact⟨_,rfl,Aw ⟨_,rfl,hq⟩⟩
def ItsOk(h:Heap)(as:List Addr)(ks:List Str)(xs:List Ak):Prop:=
 as.length=ks.length/\as.length=xs.length/\∀(j:Nat)(a:Addr),as[j]?=ae a->∃k t x,ks[j]?=ae k/\xs[j]?=ae x/\h.get? a=ae {cls:=.type "tuple",data:=.seq #[.str k t,x]}
def ltK(ks:List Str)(i j:Nat):Bool:=decide ((ks.getD i ⟨#[]⟩).cps.toList < (ks.getD j ⟨#[]⟩).cps.toList)
theorem OR(x y:List Nat)(h:x < y):¬y < x:=λz=>List.lt_irrefl x (List.lt_trans h z)
theorem ordK(ks):Ord (ltK ks) where
 asym:=λi j h=>by
  unfold ltK at h ⊢;exact decide_eq_false (OR _ _ (of_decide_eq_true h))
 ltr:=λi j k h1 h2=>by
  unfold ltK at h1 h2 ⊢;have h1:=of_decide_eq_false h1;have h2:=of_decide_eq_false h2;refine decide_eq_false λz=>?_;have l1:=Eu.mp h1;have l2:=Eu.mp h2;exact absurd z (Eu.mpr (List.le_trans l1 l2))
theorem katTups:∀{as:List Addr}{ks:List Str}{xs:List Ak},ItsOk h as ks xs->∃fs:List Ak,KatTups h (as.map A6) fs/\fs.length=as.length/\∀f∈fs,∃k t,f=.str k t
 |[],ks,xs,_=>⟨[],trivial,rfl,λf hf=>nomatch hf⟩
 |a::as,ks,xs,I=>by
  obtain⟨l1,l2,hp⟩:=I;obtain⟨k,t,x,e1,e2,e3⟩:=hp 0 a rfl;cases ks with
  |nil=>cases e1
  |cons k0 ks=>
   cases xs with
   |nil=>cases e2
   |cons x0 xs=>
    obtain⟨fs,f1,f2,f3⟩:=katTups (h:=h) (as:=as) (ks:=ks) (xs:=xs) ⟨by simpa using l1,by simpa using l2,λj b hb=>by
     obtain⟨k',t',x',g1,g2,g3⟩:=hp (j+1) b (by simpa using hb);exact⟨k',t',x',by simpa using g1,by simpa using g2,g3⟩⟩
    refine⟨.str k t::fs,.cons e3 rfl rfl rfl f1,by simp[f2],λf hf=>?_⟩;rcases Aq.mp hf with rfl|z
    ·exact⟨k,t,rfl⟩
    ·exact f3 f z
end
section
variable{prog:Bp}{w:B7}{A:Ck}{E:Ak->Ar->Prop}{s:Ar}{a:Addr}{as:List Addr}{ks:List Str}{xs:List Ak}
theorem ask_items(hI:ItsOk s.heap as ks xs)(nd:ks.Nodup)(hx:∀x∈xs,∀(s:Ar),SeqAt.EqAt A s x x ai)(hi:i < as.length)(hj:j < as.length)(h:C (ltK ks i j) s):
  kas_ask prog w A (tuples' ai) (as.map A6) i j C s:=by
 obtain⟨l1,l2,hp⟩:=hI;obtain⟨k1,t1,x1,e1,e2,e3⟩:=hp i as[i] (Ah hi);obtain⟨k2,t2,x2,f1,f2,f3⟩:=hp j as[j] (Ah hj);unfold kas_ask;have g1:(as.map A6).getD i B8=.ref as[i]:=by simp[hi]
 have g2:(as.map A6).getD j B8=.ref as[j]:=by simp[hj]
 rw[g1,g2];have c1:ks.getD i ⟨#[]⟩=k1:=by simp[e1]
 have c2:ks.getD j ⟨#[]⟩=k2:=by simp[f1]
 have hc:ltK ks i j=decide (k1.cps.toList < k2.cps.toList):=by unfold ltK;rw[c1,c2]
 rw[hc]at h;refine kat_lt e3 rfl f3 rfl ?_;refine kat_cons (wpAny_eqBool_str ?_);by_cases e:k1=k2
 ·rw[decide_eq_true e];have hij:i=j:=by
   have hi':i < ks.length:=by omega
   have hj':j < ks.length:=by omega
   have q1:ks[i]=k1:=by have:=Ah hi';rw[e1]at this;exact(A7 this).symm
   have q2:ks[j]=k2:=by have:=Ah hj';rw[f1]at this;exact(A7 this).symm
   exact(Fk nd).mp (q1.trans (e.trans q2.symm))
  subst hij;rw[e2]at f2;cases f2;refine kat_yes (kat_cons ?_);refine hx x1 (A1 e2) s _ _ _ _ ?_;refine kat_yes (kat_nil ?_);rw[e]at h;have:decide (k2.cps.toList < k2.cps.toList)=aj:=decide_eq_false (List.lt_irrefl _);rw[this]at h;exact h
 ·rw[decide_eq_false e];exact kat_no (oneLt_str h)
end
end KS
namespace L2
open PySem PySem.Spec PyProof.Rows PySem.W
def lW(d v:Addr):HO:=.ext λh=>h.get? v=ae {cls:=.type "dict_items",data:=.fields #[.ref d]}
theorem QU:xt X "dict.items" (λx vs H Q=>∃d kvs,x=.ref d/\vs=[]/\H d=ae (.dK kvs)/\∀v,H v=ah->Q (.ref v) (upd H v (lW d v))):=by
 intro pins s σ H x xs v us Q I rx rv h;obtain⟨d,kvs,rfl,rfl,hd,q⟩:=h;cases rx;cases rv.zero;obtain⟨z,hsys,vs',rel,hD⟩:=I.hok d _ hd;refine call_meetsIn PySem.F.slot_dict_items hD.typeIs PySem.F.entry_dict_items (PySem.F.args_dict_items_1 _) (meets_dict_items (gf X.prog X.w) d hsys) ⟨⟨vs',hD⟩,?_⟩;have e:(s.heap.push ({cls:=.type "dict_items",data:=.fields #[.ref d]}:Obj)).get? s.heap.objs.size=ae {cls:=.type "dict_items",data:=.fields #[.ref d]}:=Bb _ rfl;exact⟨.ref s.heap.objs.size,_,I.laid (t':=s.toks) (o:=lW d s.heap.objs.size) (λb ob q=>Ai _ q) (Al _) ⟨e,⟨_,e⟩,λh1 h2 q k=>k _ q⟩,rfl,q _ (I.hok.fresh (Al _))⟩
def gi(as:List Addr)(ks:List Str)(xv:List V)(i:Nat):Addr×Str×V:=(as.getD i 0,ks.getD i ⟨#[]⟩,xv.getD i .non)
def gj(H:Hp)(D:Addr)(l:List V)(as:List Addr)(ks:List Str)(xv:List V):Hp:=λb=>if b=D then ae (.lst l)else match as.idxOf? b with
 |some j=>ae (.tup [.str (ks.getD j ⟨#[]⟩),xv.getD j .non])
 |none=>H b
theorem si{as:List Addr}(h:as.idxOf? b=ae j):as[j]?=ae b:=by
 unfold List.idxOf? at h;obtain⟨h1,h2,_⟩:=D7.mp h;rw[Ah h1];rw[beq_iff_eq]at h2;rw[h2]
theorem Oz{as:List Addr}(h:as.idxOf? b=ah):b∉as:=λhb=>by
 unfold List.idxOf? at h;rw[List.findIdx?_eq_none_iff]at h;have:=h b hb;simp at this
theorem Kr{as:List Addr}(nd:as.Nodup)(h:as[j]?=ae a):as.idxOf? a=ae j:=by
 obtain⟨h1,h2⟩:=Ao.mp h;cases e:as.idxOf? a with
 |none=>exact absurd (A1 h) (Oz e)
 |some i=>
  have e':=si e;obtain⟨h3,h4⟩:=Ao.mp e';rw[(Fk nd).mp (h4.trans h2.symm)]
section
variable{X:Cx}{pins:List (Addr×Obj)}{σ:St}{H:Hp}{s:Ar}
theorem AE{idx:List Nat}(I:Inv X pins σ H s)(hk:∀b o,s.heap.get? b=ae o->h3.get? b=ae o)
  (hI:KS.ItsOk h3 as ks xs) (hx:Vals xv xs) (hup:∀a∈as,s.heap.objs.size<=a) (nd:as.Nodup) (hD:∀b o,s.heap.get? b=ae o->b≠D) (hDH:H D=ah) (hDa:D∉as) (hl:as.length < 64) (hidx:idx.Perm (A8 as.length))
  (hL:h3.get? D=ae (Dg "list" (Dv (idx.map λi=>(as.map A6).getD i B8)) c))
  (q:∀H',gT H H'->H D=ah->(∀a∈as,H a=ah)->H' D=ae (.lst (idx.map λi=>V.ref (gi as ks xv i).1))->(∀i∈idx,H' (gi as ks xv i).1=ae (.tup [.str (gi as ks xv i).2.1,(gi as ks xv i).2.2]))->Q (.ref D) H'):
  EP X pins σ Q (.ref D) {s with heap:=h3,toks:=tk}:=by
 obtain⟨l1,l2,hp⟩:=hI;have lx:=hx.length;have old:∀{b o},H b=ae o->b < s.heap.objs.size:=λe=>I.hok.lt e;have hidlt:∀i∈idx,i < as.length:=λi hi=>Ce.mp (hidx.mem_iff.mp hi);have hlen:idx.length=as.length:=by rw[hidx.length_eq,C2]
 have hsame:gT H (gj H D (idx.map λi=>V.ref (gi as ks xv i).1) as ks xv):=λb o e=>by
  unfold gj;rw[if_neg (λz=>by rw[z,hDH]at e;cases e)];cases q:as.idxOf? b with
  |none=>exact e
  |some j=>
   have:=hup b (A1 (si q));exact absurd (old e) (Nat.not_lt.mpr this)
 have hvals:Vals (idx.map λi=>V.ref (gi as ks xv i).1) (idx.map λi=>(as.map A6).getD i B8):=by
  have:∀l:List Nat,(∀i∈l,i < as.length)->Vals (l.map λi=>V.ref (gi as ks xv i).1) (l.map λi=>(as.map A6).getD i B8):=by
   intro l
   induction l with
   |nil=>intro _;exact .nil
   |cons i r ih=>
    intro hl;have hi:=hl i As;refine .cons ?_ (ih λj hj=>hl j (Au _ hj));show(as.map A6).getD i B8=A6 (as.getD i 0);simp[hi]
  exact this idx hidlt
 have hnew:HOk X.prog X.w (gj H D (idx.map λi=>V.ref (gi as ks xv i).1) as ks xv) h3:=λb o e=>by
  by_cases hb:b=D
  ·subst hb;unfold gj at e;rw[if_pos rfl]at e;cases e;refine⟨?_,_,c,hvals,hL⟩;rw[Ab,hlen];exact fc ⋯
  ·have e2:=e;unfold gj at e2;rw[if_neg hb]at e2;cases qi:as.idxOf? b with
   |none=>
    rw[qi]at e2;refine(I.hok b o e2).stay (λcc u _ z=>hk cc u z) (λcc z=>hsame _ _ z) λcc ys z=>hsame _ _ z
   |some j=>
    rw[qi]at e2;cases e2;obtain⟨k,t,x,g1,g2,g3⟩:=hp j b (si qi);have hjl:j < xv.length:=by
     have:=(Ao.mp g2).1;omega
    have ev:RelV (xv.getD j .non) x:=by
     obtain⟨u,hu,ru⟩:=hx.get (Ah hjl);rw[g2]at hu;cases hu;have:xv.getD j .non=xv[j]:=by simp[hjl]
     rw[this];exact ru
    have ek:ks.getD j ⟨#[]⟩=k:=by simp[g1]
    refine⟨by show 2<=Ay;decide,[.str k t,x],.cons (by rw[ek];exact⟨t,rfl⟩) (.cons ev .nil),?_⟩;exact⟨_,g3,rfl,⟨_,rfl⟩,rfl⟩
 refine⟨.ref D,_,I.call' (s':={ s with heap:=h3,toks:=tk}) (ch:=[]) rfl ?_ hnew I.bare (λb hb=>nomatch hb),rfl,q _ hsame hDH (λa ha=>I.hok.fresh (hup a ha)) (by unfold gj;nofun) λi hi=>?_⟩
 ·refine⟨λb o e n _ _=>hk b o e,λb o e n _ _=>⟨o.slots,hk b o e⟩,λb o e n _=>?_,λb o e _=>⟨o,hk b o e⟩,λb ys z=>hsame _ _ z,λb o' u z=>hsame _ _ z,λb ps z=>⟨#[],by rw[Array.append_empty];exact hsame _ _ z⟩⟩;have hlt:=A0 e;unfold gj;rw[if_neg (hD b o e)];cases qi:as.idxOf? b with
  |none=>exact n
  |some j=>exact absurd hlt (Nat.not_lt.mpr (hup b (A1 (si qi))))
 ·have hi':=hidlt i hi;have ea:(gi as ks xv i).1=as[i]:=by show as.getD i 0=_;simp[hi']
  have eg:as[i]?=ae as[i]:=Ah hi';have ne:as[i]≠D:=λz=>hDa (z▸C8 hi');rw[ea];unfold gj;rw[if_neg ne,Kr nd eg];rfl
end
def zu:List V->Hp->VK->Prop:=λxs H Q=>∃(v d:Addr)(ks:List Str)(xv:List V),xs=[.ref v]/\H v=ae (lW d v)/\ks.length=xv.length/\H d=ae (.dK ((ks.zip xv).map λp=>((Dl p.1:aO),p.2)))/\ks.length < 64/\ks.Nodup/\xv.all jb=ai /\
 ∀(D:Addr)(as:List Addr)(idx:List Nat)(H':Hp),as.length=ks.length->idx.Perm (A8 ks.length)->(idx.map λi=>ks.getD i ⟨#[]⟩).Pairwise (λa b=>¬b.cps.toList < a.cps.toList)->gT H H'->H D=ah->(∀a∈as,H a=ah)->
  H' D=ae (.lst (idx.map λi=>V.ref (gi as ks xv i).1))->(∀i∈idx,H' (gi as ks xv i).1=ae (.tup [.str (gi as ks xv i).2.1,(gi as ks xv i).2.2]))->Q (.ref D) H'
theorem HV{xs:List Ak}:∀{ks:List Str}{xv:List V}{vs:List (aO×Ak)},ks.length=xv.length->KV ((ks.zip xv).map λp=>((Dl p.1:aO),p.2)) vs->vs.length=ks.length/\Vals xv (vs.map (·.2))/\vs.map (·.1)=ks.map (Dl:Str->aO)
 |[],[],_,_,.nil=>⟨rfl,.nil,rfl⟩
 |k::ks,x::xv,_,hl,.cons r rr=>by
  obtain⟨h1,h2,h3⟩:=HV (xs:=xs) (ks:=ks) (xv:=xv) (by simpa using hl) rr;refine⟨by simp[h1],.cons r.2 h2,?_⟩;rw[Ba,Ba,h3,<-r.1]
theorem KC(hz:p.size=n)(h:KS.SP (KS.ltK ks) p n):(p.toList.map λi=>ks.getD i ⟨#[]⟩).Pairwise (λa b=>¬b.cps.toList < a.cps.toList):=by
 rw[List.pairwise_iff_getElem];intro i j hi hj hij;rw[Ab,Ef,hz]at hi hj;have:=h i j hij hj;unfold KS.ltK KS.g at this;have e1:p.getD i 0=p[i]:=by simp[hz,hi]
 have e2:p.getD j 0=p[j]:=by simp[hz,hj]
 rw[e1,e2]at this;simp only[List.getElem_map,Array.getElem_toList];exact of_decide_eq_false this
theorem Nz(hh:X.A.handled=ah):CallR X (.builtin "sorted") zu:=by
 intro pins s σ H xs us Q I r h;obtain⟨v,d,ks,xv,rfl,hv,hl,hd,h64,nd,fl,q⟩:=h;obtain⟨u,rfl,ru⟩:=jA r;cases(show u=A6 v from ru);have ov:s.heap.get? v=ae {cls:=.type "dict_items",data:=.fields #[.ref d]}:=(I.hok v _ hv).1;obtain⟨z,hsys,vs',rel,hDict⟩:=I.hok d _ hd;obtain⟨ep,hat⟩:=hDict.dictAt;obtain⟨lv,hvals,hkeys⟩:=HV (xs:=[]) hl rel;refine KS.sorted_of (R:=λvs s1=>∃(h':Heap)(tk:Nat)(as:List Addr),vs=as.map A6/\s1={ s with heap:=h',toks:=tk}/\(∀b o,s.heap.get? b=ae o->h'.get? b=ae o)/\as.length=vs'.length/\KdxG (gf X.prog X.w) vs' s.heap.objs.size h' as)
  (kdx_collect (knd:=gf X.prog X.w) (kvs:=vs') (ep:=ep) hh ⟨_,ov,rfl,rfl⟩ hat (by rw[lv];exact fc ⋯) λh' tk as hk hl hG=>⟨h',tk,as,rfl,rfl,hk,hl,hG⟩) ?_
 rintro vs s1 ⟨h',tk,as,rfl,rfl,hk,hla,hG⟩
 have hlen:as.length=ks.length:=hla.trans lv;have its:KS.ItsOk h' as ks (vs'.map (·.2)):=⟨hlen,by rw[Ab,hla],λj a ha=>by
  obtain⟨key,k,x,e1,e2,e3⟩:=hG.pairs j a ha;have hk1:(vs'.map (·.1))[j]?=ae k:=by rw[Ax,e1];rfl
  rw[hkeys,Ax]at hk1;cases eq:ks[j]? with
  |none=>rw[eq]at hk1;cases hk1
  |some k0=>
   rw[eq]at hk1;have hk2:(Dl k0:aO)=k:=A7 hk1;subst hk2;rcases jM (k:=Dl k0) (v:=key) (show mP (Dl k0) key=ai from e2)with⟨i,t,z,_⟩|⟨y,t,z,rfl⟩
   ·cases z
   ·cases z;exact⟨k0,t,x,rfl,by rw[Ax,e1];rfl,e3⟩⟩
 have hup:∀a∈as,s.heap.objs.size<=a:=λa ha=>Fp (hG.above a ha);have ndA:as.Nodup:=hG.rise.imp λh=>Bq h;have hDa:h'.objs.size∉as:=λhm=>Ec _ (hG.there hm);have hs':∀b o,s.heap.get? b=ae o->b≠h'.objs.size:=λb o e=>Bq (A0 (hk b o e));have hsH:H h'.objs.size=ah:=(I.hok.kept hk).fresh (Al _);refine⟨by rw[Ab,hlen];exact fc ⋯,?_⟩;have hoL:(h'.push (Dg "list" (as.map A6).toArray 0)).get? h'.objs.size=ae (Dg "list" (as.map A6).toArray 0):=Bb _ rfl;have its2:∀h4:Heap,(∀b o,b≠h'.objs.size->(h'.push (Dg "list" (as.map A6).toArray 0)).get? b=ae o->h4.get? b=ae o)->KS.ItsOk h4 as ks (vs'.map (·.2)):=λh4 k4=>⟨its.1,its.2.1,λj a ha=>by
  obtain⟨k,t,x,e1,e2,e3⟩:=its.2.2 j a ha;exact⟨k,t,x,e1,e2,k4 a _ (λz=>hDa (z▸A1 ha)) (Ai _ e3)⟩⟩
 have keep4:∀h4:Heap,(∀b o,b≠h'.objs.size->(h'.push (Dg "list" (as.map A6).toArray 0)).get? b=ae o->h4.get? b=ae o)->∀b o,s.heap.get? b=ae o->h4.get? b=ae o:=λh4 k4 b o e=>
  k4 b o (hs' b o e) (Ai _ (hk b o e))
 by_cases h2:2<=(as.map A6).length
 ·refine KS.ls_sort (s:={ s with heap:=h'.push (Dg "list" (as.map A6).toArray 0),toks:=tk}) hoL h2 (by rw[Ab];omega) λe1 h4 ha4 k4=>?_;have its4:=its2 h4 k4;obtain⟨fs,f1,f2,f3⟩:=KS.katTups its4;rw[Ab]at h2;refine kat_kind (s:={ s with heap:=h4,toks:=tk}) (T:=Et "str") f1 ⋯ (λf hf=>?_) rfl ?_
  ·obtain⟨k,t,rfl⟩:=f3 f hf;exact .now
  ·rw[Ab];have hn:0 < as.length:=by omega
   have hwi:=KS.wi_sort hn;refine KS.wp_run (n:=as.length) (P:=KS.Pm as.length) (c:=KS.ltK ks) (St:=λs'=>s'={ s with heap:=h4,toks:=tk}) (λi j C s' hi hj hs hC=>?_) _ _ hwi rfl λs' hs'=>?_
   ·subst hs;refine KS.ask_items its4 nd (λx hx s''=>?_) hi hj (hC _ rfl);obtain⟨j,hj⟩:=Bw.mp hx;have hjl:j < xv.length:=by
     have:=(Ao.mp hj).1;rw[Ab]at this;omega
    obtain⟨u,hu,ru⟩:=hvals.get (Ah hjl);rw[hj]at hu;cases hu;have fx:jb xv[j]=ai:=Dh.mp fl _ (C8 hjl);have:=zf (A:=X.A.in1.in1) (s:=s'') ru ru fx fx;have e1:ji xv[j] xv[j]=ai:=by
     cases ex:xv[j]<;>simp[ji]<;>(rw[ex]at fx;cases fx)
    rw[e1]at this;exact this
   ·subst hs';refine⟨ha4,λh3 c sb hL3=>⟨rfl,?_⟩⟩;have hpm:KS.Pm as.length (KS.run (KS.ltK ks) (kas_sort as.length)):=KS.Wi.out _ hwi;have hsp:=KS.sort_ok (KS.ordK ks) (n:=as.length) hn;have hsz:=hpm.size;have hidx:(KS.run (KS.ltK ks) (kas_sort as.length)).toList.Perm (A8 as.length):=by
     have:=Array.perm_iff_toList_perm.mp hpm;simpa using this
    have k3:∀b o,b≠h'.objs.size->(h'.push (Dg "list" (as.map A6).toArray 0)).get? b=ae o->h3.get? b=ae o:=λb o hb e=>(sb.2 b hb).trans (k4 b o hb e);exact AE (s:=s) (tk:=tk) (xv:=xv) I (keep4 h3 k3) (its2 h3 k3) hvals hup ndA hs' hsH hDa ⋯ hidx hL3 λH' a1 a2 a3 a4 a5=>q _ as _ H' hlen (by rw[<-hlen];exact hidx) (KC hsz hsp) a1 a2 a3 a4 a5
 ·refine KS.ls_short (s:={ s with heap:=h'.push (Dg "list" (as.map A6).toArray 0),toks:=tk}) hoL ⋯ λh4 c ha4 k4=>⟨rfl,?_⟩;rw[Ab]at h2;have el:as.map A6=(A8 as.length).map λi=>(as.map A6).getD i B8:=by
   apply D3 (by simp);intro i h1 h2;simp at h1;simp[h1]
  rw[el]at ha4;refine AE (s:=s) (tk:=tk) (xv:=xv) (idx:=A8 as.length) I (keep4 h4 k4) (its2 h4 k4) hvals hup ndA hs' hsH hDa ⋯ (List.Perm.refl _) ha4 λH' a1 a2 a3 a4 a5=>q _ as _ H' hlen (by rw[<-hlen]) ?_ a1 a2 a3 a4 a5;have:(A8 as.length).length<=1:=by simp;omega
  match hr:A8 as.length,this with
  |[],_=>exact .nil
  |[i],_=>exact List.pairwise_singleton _ _
end L2
namespace L2
open PySem PySem.Spec PyProof.Rows
section
variable{prog:Bp}{w:B7}{A:Ck}{E:Ak->Ar->Prop}{s:Ar}
theorem yb(hit:s.heap.IsTupleIter it t i)(ht:s.heap.IsTuple t items)(hx:items[i]?=ae x)
  (hQ:∀h',h'.IsTupleIter it t (i+1)->D1 it s.heap h'->Q x {s with heap:=h'}):A5 (Bi prog w) A (B6 (.ref it)) Q E s:=by
 obtain⟨o,ho,hc,hd⟩:=id hit;obtain⟨ol,hol,_,nl,hdl⟩:=ht;unfold B6;refine Ad (Cp (name:=Dm "__next__") hit.typeIs Fq
  (Dk Fq hit.typeIs F.entry_tuple_iterator_next ?_ (F.args_tuple_iterator_next_1 _)))
 show A5 _ _ (field (.ref it) 0>>=_) _ _ s;refine Ad (Cb ho hd (x:=.ref t) rfl ?_);show A5 _ _ (if (A6 t==B8)=ai then _ else _) _ _ s;rw[if_neg (show ¬((A6 t==B8)=ai)from Ae)];show A5 _ _ (field (.ref it) 1>>=_) _ _ s;refine Ad (Cb ho hd (x:=.int i 0) rfl ?_);show A5 _ _ (seqItems? (.ref t)>>=_) _ _ s;refine Ad (Dq hol hdl ?_);simp only[Bs,hx];refine Ad (wpAny_setField ho hd (by simp) (Aw ⟨x,rfl,Aw (hQ _ ?_ (Cs ..))⟩));exact⟨_,D5 _ ho (Obj.isFreed_of_fields (Obj.data_mapFields hd _)),(Obj.cls_mapFields ..).trans hc,by
  rw[Obj.data_mapFields hd];simp[F0]⟩
theorem CW(hh:A.handled=ah)(hit:s.heap.IsTupleIter it t i)(ht:s.heap.IsTuple t items)(hx:items[i]?=ah)
  (hE:∀h' e,Heap.ExtBut it s.heap h'->(∃o,h'.get? e=ae o/\o.cls=.type "StopIteration")->E (.ref e) {s with heap:=h'}):
  A5 (Bi prog w) A (B6 (.ref it)) Q E s:=by
 obtain⟨o,ho,hc,hd⟩:=id hit;obtain⟨ol,hol,_,nl,hdl⟩:=ht;unfold B6;refine Ad (Cp (name:=Dm "__next__") hit.typeIs Fq
  (Dk Fq hit.typeIs F.entry_tuple_iterator_next ?_ (F.args_tuple_iterator_next_1 _)))
 show A5 _ _ (field (.ref it) 0>>=_) _ _ s;refine Ad (Cb ho hd (x:=.ref t) rfl ?_);show A5 _ _ (if (A6 t==B8)=ai then _ else _) _ _ s;rw[if_neg (show ¬((A6 t==B8)=ai)from Ae)];show A5 _ _ (field (.ref it) 1>>=_) _ _ s;refine Ad (Cb ho hd (x:=.int i 0) rfl ?_);show A5 _ _ (seqItems? (.ref t)>>=_) _ _ s;refine Ad (Dq hol hdl ?_);simp only[Bs,hx];refine Ad (wpAny_rule (Ad (wpAny_setField ho hd (by simp) ?_)));show A5 _ _ (newExc (.type "StopIteration") []>>=_) _ _ _;refine Ad ?_;simp only[newExc,newTuple];refine Ad (Cf ?_ (by size_fits));refine Ad (m:=firstArgMember _ _) (wpAny_of_eq (a:=B8) (by first|rfl|(simp only[firstArgMember];rfl)) ?_);refine Cf ?_ (by size_fits);simp only[raiseNew];refine Ad (wpAny_handled ?_)
 first|rw[show A.in1.handled=ah from hh]|rw[hh]
 refine Ad (Aw (wpAny_throw ?_));exact hE _ _ (((Cs ..).extBut.push _).push _) ⟨_,Bb _ rfl,rfl⟩
theorem Tv{z TI TO i1 i2 l1 l2:Addr}{Q:Ak->Ar->Prop}(D:ZipApart z TI TO i1 i2 l1 l2)
  (hz:IsZip s.heap z TI TO .none) (hTI:Dd s.heap TI (.ref i1) (.ref i2)) (hTO:Dd s.heap TO a b)
  (h1:s.heap.IsTupleIter i1 l1 k) (h2:s.heap.IsTupleIter i2 l2 k) (hl1:s.heap.IsTuple l1 xs) (hl2:s.heap.IsTuple l2 ys) (hx:xs[k]?=ae x) (hy:ys[k]?=ae y)
  (hQ:∀h',IsZip h' z TI TO (F0 s.heap.objs.size)->Dd h' TO x y->h'.IsTupleIter i1 l1 (k+1)->h'.IsTupleIter i2 l2 (k+1)->Dd h' s.heap.objs.size x y->h'.objs.size=s.heap.objs.size+1->
   (∀c o,c≠z->c≠TO->c≠i1->c≠i2->s.heap.get? c=ae o->h'.get? c=ae o)->Q (.ref s.heap.objs.size) {s with heap:=h'}):
  A5 (Bi prog w) A (Gk.«zip.__next__» ⟨[.ref z],[]⟩) (λfin s'=>∃v,fin=.done (.ret v)/\Q v s') E s:=by
 show A5 _ _ (field (.ref z) 2>>=_) _ _ _;refine Ad (Cb hz rfl (x:=.bool aj) rfl ?_);show A5 _ _ (field (.ref z) 3>>=_) _ _ _;refine Ad (Cb hz rfl (x:=.ref TI) rfl ?_);refine Ad (Dq hTI rfl ?_);show A5 _ _ (Bz (.ref z)>>=_) _ _ _;refine Ad ?_;unfold Bz;refine Ad (Cb hz rfl (x:=.none) rfl (Aw ?_));simp only[if_true];refine Ad (wpAny_rule ?_);refine Ad (Cb hz rfl (x:=.ref TO) rfl ?_);refine Ad (E6 hz (by simp) λg1 hz1 s1=>?_)
 replace hz1:IsZip g1 z TI TO .ellipsis:=hz1
 refine Ad ?_;simp only[List.zipIdx_cons,List.zipIdx_nil,List.forIn_cons,List.forIn_nil];refine Ad (Ad (wpAny_onRaise ?_));show A5 _ _ (B6 (.ref i1)>>=_) _ _ _;refine Ad (yb (h1.extBut s1.extBut D.i1z) (hl1.extBut s1.extBut D.l1z) hx λg2 t2 s2=>Aw ?_);have p2:Dd g2 TO a b:=s2.extBut _ _ D.TOi1 (s1.extBut _ _ D.TOz hTO);refine Ad (Dq p2 rfl ?_);refine Ad (wpAny_updateSeq_pair p2 λg3 p3 s3=>?_)
 replace p3:Dd g3 TO x b:=p3
 refine Ad (wpAny_letGo (Aw ?_));refine Ad (Ad (wpAny_onRaise ?_));show A5 _ _ (B6 (.ref i2)>>=_) _ _ _;refine Ad (yb (((h2.extBut s1.extBut D.i2z).extBut s2.extBut D.i12.symm).extBut s3.extBut D.TOi2.symm)
  (((hl2.extBut s1.extBut D.l2z).extBut s2.extBut D.l2i1).extBut s3.extBut D.l2TO) hy λg4 t4 s4=>Aw ?_)
 have p4:Dd g4 TO x b:=s4.extBut _ _ D.TOi2 p3;refine Ad (Dq p4 rfl ?_);refine Ad (wpAny_updateSeq_pair p4 λg5 p5 s5=>?_)
 replace p5:Dd g5 TO x y:=p5
 refine Ad (wpAny_letGo (Aw (Aw ?_)));refine Ad (Dq p5 rfl ?_);refine Ad (wpAny_newTuple ?_);have sz:g5.objs.size=s.heap.objs.size:=by rw[s5.1,s4.1,s3.1,s2.1,s1.1]
 have z5:IsZip g5 z TI TO .ellipsis:=s5.extBut _ _ D.TOz.symm (s4.extBut _ _ D.i2z.symm (s3.extBut _ _ D.TOz.symm (s2.extBut _ _ D.i1z.symm hz1)));have k5:∀c o,c≠z->c≠TO->c≠i1->c≠i2->s.heap.get? c=ae o->g5.get? c=ae o:=λc o c1 c2 c3 c4 e=>
  s5.extBut _ _ c2 (s4.extBut _ _ c4 (s3.extBut _ _ c2 (s2.extBut _ _ c3 (s1.extBut _ _ c1 e))))
 have u1:g5.IsTupleIter i1 l1 (k+1):=((t2.extBut s3.extBut D.TOi1.symm).extBut s4.extBut D.i12).extBut s5.extBut D.TOi1.symm;have u2:g5.IsTupleIter i2 l2 (k+1):=t4.extBut s5.extBut D.TOi2.symm;have zlt:z < g5.objs.size:=A0 z5;show A5 _ _ (G3 (.ref z) (.ref g5.objs.size)>>=_) _ _ _;refine Ad ?_;unfold G3;have z6:IsZip (g5.push {cls:=.type "tuple",data:=.seq #[x,y]}) z TI TO .ellipsis:=Ai _ z5;refine Ad (E6 z6 (by simp) λg7 z7 s7=>?_)
 replace z7:IsZip g7 z TI TO (F0 g5.objs.size):=z7
 refine E6 z7 (by simp) λg8 z8 s8=>?_
 replace z8:IsZip g8 z TI TO (F0 g5.objs.size):=z8
 have up:∀c o,c≠z->g5.get? c=ae o->g8.get? c=ae o:=λc o c1 e=>s8.extBut _ _ c1 (s7.extBut _ _ c1 (Ai _ e));have T8:Dd g8 g5.objs.size x y:=s8.extBut _ _ (Fo zlt) (s7.extBut _ _ (Fo zlt) (Bb _ rfl));have e8:g8.objs.size=g5.objs.size+1:=by rw[s8.1,s7.1,Em]
 rw[sz]at z8 T8 e8;refine Aw ⟨_,rfl,?_⟩;show Q (.ref g5.objs.size) _;rw[sz];exact hQ g8 z8 (up _ _ D.TOz p5) (u1.at λo e=>up _ o D.i1z e) (u2.at λo e=>up _ o D.i2z e) T8 e8 λc o c1 c2 c3 c4 e=>up c o c1 (k5 c o c1 c2 c3 c4 e)
theorem SF{z TI TO i1 i2 l1 l2:Addr}(hh:A.handled=ah)(D:ZipApart z TI TO i1 i2 l1 l2)
  (hz:IsZip s.heap z TI TO .none) (hTI:Dd s.heap TI (.ref i1) (.ref i2)) (h1:s.heap.IsTupleIter i1 l1 k) (hl1:s.heap.IsTuple l1 xs) (hx:xs[k]?=ah)
  (hE:∀h' e,(∀c o,c≠z->c≠i1->s.heap.get? c=ae o->h'.get? c=ae o)->(∃o,h'.get? e=ae o/\o.cls=.type "StopIteration")->E (.ref e) {s with heap:=h'}):
  A5 (Bi prog w) A (Gk.«zip.__next__» ⟨[.ref z],[]⟩) Q E s:=by
 show A5 _ _ (field (.ref z) 2>>=_) _ _ _;refine Ad (Cb hz rfl (x:=.bool aj) rfl ?_);show A5 _ _ (field (.ref z) 3>>=_) _ _ _;refine Ad (Cb hz rfl (x:=.ref TI) rfl ?_);refine Ad (Dq hTI rfl ?_);show A5 _ _ (Bz (.ref z)>>=_) _ _ _;refine Ad ?_;unfold Bz;refine Ad (Cb hz rfl (x:=.none) rfl (Aw ?_));simp only[if_true];refine Ad (wpAny_rule ?_);refine Ad (Cb hz rfl (x:=.ref TO) rfl ?_);refine Ad (E6 hz (by simp) λg1 hz1 s1=>?_)
 replace hz1:IsZip g1 z TI TO .ellipsis:=hz1
 refine Ad ?_;simp only[List.zipIdx_cons,List.zipIdx_nil,List.forIn_cons,List.forIn_nil];refine Ad (Ad (wpAny_onRaise ?_));show A5 _ _ (B6 (.ref i1)>>=_) _ _ _;refine Ad (CW hh (h1.extBut s1.extBut D.i1z) (hl1.extBut s1.extBut D.l1z) hx λg2 e s2 he=>?_);obtain⟨oe,hoe,hce⟩:=he;have z2:IsZip g2 z TI TO .ellipsis:=s2 _ _ D.i1z.symm hz1;have hez:e≠z:=λx=>by subst x;rw[z2]at hoe;cases hoe;simp at hce
 refine E6 z2 (by simp) λg3 _ s3=>hE g3 e (λc o c1 c3 x=>s3.extBut _ _ c1 (s2 _ _ c3 (s1.extBut _ _ c1 x))) ⟨oe,s3.extBut _ _ hez hoe,hce⟩
theorem Qa{z TI TO i1 i2 l1 l2:Addr}(D:ZipApart z TI TO i1 i2 l1 l2)
  (hz:IsZip s.heap z TI TO .none) (hTI:Dd s.heap TI (.ref i1) (.ref i2)) (hTO:Dd s.heap TO a b)
  (h1:s.heap.IsTupleIter i1 l1 k) (h2:s.heap.IsTupleIter i2 l2 k) (hl1:s.heap.IsTuple l1 xs) (hl2:s.heap.IsTuple l2 ys) (hx:xs[k]?=ae x) (hy:ys[k]?=ae y)
  (hQ:∀h',IsZip h' z TI TO (F0 s.heap.objs.size)->Dd h' TO x y->h'.IsTupleIter i1 l1 (k+1)->h'.IsTupleIter i2 l2 (k+1)->Dd h' s.heap.objs.size x y->h'.objs.size=s.heap.objs.size+1->
   (∀c o,c≠z->c≠TO->c≠i1->c≠i2->s.heap.get? c=ae o->h'.get? c=ae o)->Q (ae (.ref s.heap.objs.size)) {s with heap:=h'}):
  A5 (Bi prog w) A (pyNext (.ref z)) Q E s:=by
 have hT:s.TypeIs (.ref z) "zip":=⟨_,hz,rfl⟩;unfold pyNext;exact Ad (wpAny_attempt (Cp (name:=Dm "__next__") hT Eb
  (Dk Eb hT F.entry_zip_next
   (Tv D hz hTI hTO h1 h2 hl1 hl2 hx hy λh' a1 a2 a3 a4 a5 a6 a7=>Aw (hQ h' a1 a2 a3 a4 a5 a6 a7)) (F.args_zip_next_1 _))))
theorem US{z TI TO i1 i2 l1 l2:Addr}(hh:A.handled=ah)(D:ZipApart z TI TO i1 i2 l1 l2)
  (hz:IsZip s.heap z TI TO .none) (hTI:Dd s.heap TI (.ref i1) (.ref i2)) (h1:s.heap.IsTupleIter i1 l1 k) (hl1:s.heap.IsTuple l1 xs) (hx:xs[k]?=ah)
  (hQ:∀h',(∀c o,c≠z->c≠i1->s.heap.get? c=ae o->h'.get? c=ae o)->Q ah {s with heap:=h'}):A5 (Bi prog w) A (pyNext (.ref z)) Q E s:=by
 have hT:s.TypeIs (.ref z) "zip":=⟨_,hz,rfl⟩;unfold pyNext;refine Ad (wpAny_attempt (Cp (name:=Dm "__next__") hT Eb
  (Dk Eb hT F.entry_zip_next (SF hh D hz hTI h1 hl1 hx λh' e hk he=>?_) (F.args_zip_next_1 _))))
 obtain⟨o,ho,hc⟩:=he;refine Ad (wpAny_isInstance (T:="StopIteration") (b:=ai) ⟨o,ho,hc⟩ isSubtype_stop ?_);exact Aw (hQ _ hk)
end
abbrev rh(h:Heap)(l1:Addr):Heap:=h.push {cls:=.type "tuple_iterator",data:=.fields #[.ref l1,.int 0 0]}
abbrev rC(h:Heap)(l1 l2:Addr):Heap:=(rh h l1).push {cls:=.type "tuple_iterator",data:=.fields #[.ref l2,.int 0 0]}
abbrev tT(h:Heap)(l1 l2:Addr):Heap:=(rC h l1 l2).push {cls:=.type "tuple",data:=.seq #[.ref h.objs.size,.ref (rh h l1).objs.size]}
abbrev qY(h:Heap)(l1 l2:Addr):Heap:=(tT h l1 l2).push {cls:=.type "tuple",data:=.seq #[.none,.none]}
abbrev oz(h:Heap)(l1 l2:Addr):Heap:=(qY h l1 l2).push {cls:=.type "zip",data:=.fields #[.none,.bool aj,.bool aj,.ref (rC h l1 l2).objs.size,.ref (tT h l1 l2).objs.size]}
theorem Px(l1 l2)(xs ys):
  Meets (Gk.«zip.__new__» ⟨[.type "zip",.ref l1,.ref l2],[]⟩) (λ_ R s=>s.heap.IsTuple l1 xs/\s.heap.IsTuple l2 ys /\
   R (.ok (.ret (.ref (qY s.heap l1 l2).objs.size))) {s with heap:=oz s.heap l1 l2}):=
 .of_wp λprog w A R s h=>by
  obtain⟨hp,g,d,tk,os⟩:=s;obtain⟨hl1,hl2,h⟩:=h;have hsub:=sub_zip;have hL1:Heap.IsTuple (Shared.heap ⟨hp,g,d,tk,os⟩) l1 xs:=hl1;have hL2:Heap.IsTuple (Shared.heap ⟨hp.push {cls:=.type "tuple_iterator",data:=.fields #[.ref l1,.int 0 0]},g,d,tk,os⟩) l2 ys:=Heap.IsTuple.push hl2 _
  wp_walk using D9 hL1,D9 hL2
  exact⟨_,rfl,h⟩
section
variable{prog:Bp}{w:B7}{A:Ck}{E:Ak->Ar->Prop}{s:Ar}
theorem T6(hl1:s.heap.IsTuple l1 xs)(hl2:s.heap.IsTuple l2 ys)
  (h:∀h',IsZip h' (s.heap.objs.size+4) (s.heap.objs.size+2) (s.heap.objs.size+3) .none->Dd h' (s.heap.objs.size+2) (.ref s.heap.objs.size) (.ref (s.heap.objs.size+1))->
   Dd h' (s.heap.objs.size+3) .none .none->h'.IsTupleIter s.heap.objs.size l1 0->h'.IsTupleIter (s.heap.objs.size+1) l2 0->
   (∀c o,s.heap.get? c=ae o->h'.get? c=ae o)->Q (.ref (s.heap.objs.size+4)) {s with heap:=h'}):
  A5 (Bi prog w) A (call (.type "zip") [.ref l1,.ref l2]) Q E s:=by
 refine callType_new F.called_zip ∎ (F.typeCall_zip_2 _ _) (F.newCall_zip_2 _ _) (λobj=>F.args_object_init_3 obj _ _) F.entry_zip_new
  (Px l1 l2 xs ys) ⟨hl1,hl2,?_⟩
 have z1:(rh s.heap l1).objs.size=s.heap.objs.size+1:=Em ..;have z2:(rC s.heap l1 l2).objs.size=s.heap.objs.size+2:=by rw[Em,z1]
 have z3:(tT s.heap l1 l2).objs.size=s.heap.objs.size+3:=by rw[Em,z2]
 have z4:(qY s.heap l1 l2).objs.size=s.heap.objs.size+4:=by rw[Em,z3]
 have g5:(oz s.heap l1 l2).get? (qY s.heap l1 l2).objs.size=ae _:=Bb _ rfl;have g4:(oz s.heap l1 l2).get? (tT s.heap l1 l2).objs.size=ae _:=Ai _ (Bb _ rfl);have g3:(oz s.heap l1 l2).get? (rC s.heap l1 l2).objs.size=ae _:=Ai _ (Ai _ (Bb _ rfl));have g2:(oz s.heap l1 l2).get? (rh s.heap l1).objs.size=ae _:=Ai _ (Ai _ (Ai _ (Bb _ rfl)));have g1:(oz s.heap l1 l2).get? s.heap.objs.size=ae _:=Ai _ (Ai _ (Ai _ (Ai _ (Bb _ rfl))));show _/\_;rw[z2,z3,z4]at g5;rw[z1,z2]at g3;rw[z3]at g4;rw[z1]at g2;rw[z4];exact⟨⟨_,g5,rfl⟩,h _ g5 g3 g4 ⟨_,g1,rfl,rfl⟩ ⟨_,g2,rfl,rfl⟩ λc o x=>
  Ai _ (Ai _ (Ai _ (Ai _ (Ai _ x))))⟩
end
def zj(K:Ag)(a b:Addr):It:=
 ⟨λi H=>∃xs ys x y,SqT K H a xs/\SqT K H b ys/\xs[i]?=ae x/\ys[i]?=ae y,
  λi H v H'=>∃T x y,v=.ref T/\H T=ah/\H'=upd H T (.tup [x,y])/\(∀xs,SqT K H a xs->xs[i]?=ae x)/\∀ys,SqT K H b ys->ys[i]?=ae y,
  λi H=>∃xs,SqT K H a xs/\xs.length<=i⟩
theorem Inv.many{X:Cx}{σ:St}{s:Ar}{h':Heap}{t':Nat}{fp:List Addr}{a:Addr}{o:HO}(I:Inv X pins σ H s)(hf:∀b∈fp,dG X pins H b)(k:∀b u,b∉fp->s.heap.get? b=ae u->h'.get? b=ae u)
  (ha:s.heap.objs.size<=a) (new:ObjOk X.prog X.w (upd H a o) h' a o):Inv X pins σ (upd H a o) {s with heap:=h',toks:=t'}:=by
 have hn:H a=ah:=I.hok.fresh ha;have nf:∀b u,H b=ae u->b∉fp:=λb u e z=>by rw[(hf b z).1]at e;cases e
 refine I.call' (s':={ s with heap:=h',toks:=t'}) (ch:=fp) rfl ⟨λb u q _ _ z=>k b u z q,λb u q _ _ z=>⟨u.slots,k b u z q⟩,λb u q n _=>?_,λb u q z=>⟨u,k b u z q⟩,λb xs q=>?_,λb u xs q=>?_,λb ps q=>⟨#[],?_⟩⟩ (λb u e=>?_) I.bare (λb hb=>?_)
 ·rw[aW (Bq (Bn (A0 q) ha))];exact n
 ·rw[aW (bY q hn)];exact q
 ·rw[aW (bY q hn)];exact q
 ·rw[aW (bY q hn),q];simp
 ·by_cases z:b=a
  ·subst z;rw[bQ]at e;cases e;exact new
  ·rw[aW z]at e;refine(I.hok b u e).stay (λc v hc q=>k c v ?_ q) (λc q=>?_) λc ys q=>?_
   ·rcases hc with z|z
    ·rw[z];exact nf b u e
    ·exact nf c _ z
   ·rw[aW (bY q hn)];exact q
   ·rw[aW (bY q hn)];exact q
 ·obtain⟨f0,f1,f2,f3,f4,f5⟩:=hf b hb;exact⟨f3,f1,f4,f5⟩
theorem Inv.many0{σ:St}{s:Ar}{h':Heap}{t':Nat}{fp:List Addr}(I:Inv X pins σ H s)(hf:∀b∈fp,dG X pins H b)(k:∀b u,b∉fp->s.heap.get? b=ae u->h'.get? b=ae u):Inv X pins σ H {s with heap:=h',toks:=t'}:=by
 have nf:∀b u,H b=ae u->b∉fp:=λb u e z=>by rw[(hf b z).1]at e;cases e
 refine I.call' (s':={ s with heap:=h',toks:=t'}) (ch:=fp) rfl ⟨λb u q _ _ z=>k b u z q,λb u q _ _ z=>⟨u.slots,k b u z q⟩,λb u q n _=>n,λb u q z=>⟨u,k b u z q⟩,λb xs q=>q,λb u xs q=>q,λb ps q=>⟨#[],by rw[q];simp⟩⟩ (λb u e=>?_) I.bare (λb hb=>?_)
 ·refine(I.hok b u e).stay (λc v hc q=>k c v ?_ q) (λc q=>q) λc ys q=>q;rcases hc with z|z
  ·rw[z];exact nf b u e
  ·exact nf c _ z
 ·obtain⟨f0,f1,f2,f3,f4,f5⟩:=hf b hb;exact⟨f3,f1,f4,f5⟩
theorem Sn{K:Ag}{pos:Pos}{a b z TI TO i1 i2:Addr}(D:ZipApart z TI TO i1 i2 a b):Turn P w K (.Tuple elts kk pos) (zj K a b) [z,TI,TO,i1,i2] z
  (λi h=>IsZip h z TI TO .none/\Dd h TI (.ref i1) (.ref i2)/\(∃x y,Dd h TO x y)/\h.IsTupleIter i1 a i/\h.IsTupleIter i2 b i) where
 mem:=by simp
 obj:=λi h st c hc=>by
  obtain⟨hz,hI,⟨x,y,hO⟩,⟨o1,e1,c1,d1⟩,⟨o2,e2,c2,d2⟩⟩:=st;simp only[Aq,An,or_false]at hc;rcases hc with rfl|rfl|rfl|rfl|rfl
  ·exact⟨_,hz,λv q=>by have q':Data.fields _=Data.cell v:=q;cases q'⟩
  ·exact⟨_,hI,λv q=>by have q':Data.seq _ _=Data.cell v:=q;cases q'⟩
  ·exact⟨_,hO,λv q=>by have q':Data.seq _ _=Data.cell v:=q;cases q'⟩
  ·exact⟨o1,e1,λv q=>by rw[d1]at q;cases q⟩
  ·exact⟨o2,e2,λv q=>by rw[d2]at q;cases q⟩
 keep:=λi h h' st k=>by
  obtain⟨hz,hI,⟨x,y,hO⟩,h1,h2⟩:=st;exact⟨k z (by simp) _ hz,k TI (by simp) _ hI,⟨x,y,k TO (by simp) _ hO⟩,h1.at λo e=>k i1 (by simp) o e,h2.at λo e=>k i2 (by simp) o e⟩
 item:=by
  intro X hP hw hK hc i pins s σ H E I hf st hg;subst hP hw hK;obtain⟨hz,hI,⟨x0,y0,hO⟩,h1,h2⟩:=st;obtain⟨xs,ys,x,y,qa,qb,ex,ey⟩:=hg;obtain⟨its,rv,p,_⟩:=I.tuple qa;obtain⟨jts,rw',p',_⟩:=I.tuple qb;obtain⟨u,hu,ru⟩:=rv.get ex;obtain⟨u',hu',ru'⟩:=rw'.get ey;refine Qa D hz hI hO h1 h2 (show s.heap.IsTuple a its.toArray from p) (show s.heap.IsTuple b jts.toArray from p') (x:=u) (y:=u') (by simpa using hu) (by simpa using hu') λh' a1 a2 a3 a4 a5 a6 a7=>⟨_,rfl,?_⟩;refine wpAny_letOwnedTupleGo_zip (s:={ s with heap:=h'}) a1 λh'' b1 b2=>?_;have T:h''.get? s.heap.objs.size=ae {cls:=.type "tuple",data:=.seq #[u,u']}:=b2.extBut _ _ (Fo (A0 hz)) a5;have Tn:H s.heap.objs.size=ah:=I.hok.fresh (Al _);have kp:∀c o,c∉[z,TI,TO,i1,i2]->s.heap.get? c=ae o->h''.get? c=ae o:=λc o hc e=>by
   simp only[Aq,An,or_false,not_or]at hc;exact b2.extBut _ _ hc.1 (a7 c o hc.1 hc.2.2.1 hc.2.2.2.1 hc.2.2.2.2 e)
  refine⟨.ref s.heap.objs.size,upd H s.heap.objs.size (.tup [x,y]),I.many (t':=s.toks) hf kp (Al _) ⟨by show 2<=Ay;decide,[u,u'],.cons ru (.cons ru' .nil),_,T,rfl,⟨_,rfl⟩,rfl⟩,rfl,⟨_,x,y,rfl,Tn,rfl,λzs q=>by rw[I.tuple_inj q qa];exact ex,λzs q=>by rw[I.tuple_inj q qb];exact ey⟩,
   ⟨b1,b2.extBut _ _ D.TIz (a7 _ _ D.TIz D.TITO D.TIi1 D.TIi2 hI),⟨_,_,b2.extBut _ _ D.TOz a2⟩,a3.extBut b2.extBut D.i1z,a4.extBut b2.extBut D.i2z⟩,λc hc=>?_⟩
  have hlt:c < s.heap.objs.size:=by
   simp only[Aq,An,or_false]at hc;rcases hc with rfl|rfl|rfl|rfl|rfl
   ·exact A0 hz
   ·exact A0 hI
   ·exact A0 hO
   ·obtain⟨_,e,_⟩:=h1;exact A0 e
   ·obtain⟨_,e,_⟩:=h2;exact A0 e
  rw[aW (Bq hlt)];exact(hf c hc).1
 done:=by
  intro X hP hw hK hc i pins s σ H E I hf st hg;subst hP hw hK;obtain⟨hz,hI,_,h1,h2⟩:=st;obtain⟨xs,hq,hx⟩:=hg;obtain⟨its,rv,p,_⟩:=I.tuple hq;have hl:=rv.length;refine US (I.ok.hd hc) D hz hI h1 (show s.heap.IsTuple a its.toArray from p) (by simp;omega) λh' k=>⟨rfl,I.many0 (t':=s.toks) hf λc o hc e=>?_⟩;simp only[Aq,An,or_false,not_or]at hc;exact k c o hc.1 hc.2.2.2.1 e
 self:=λ_ _ _ _ _ st h=>wpAny_pyIter_zip st.1 h
def oQ(K:Ag)(ta:TA):TI:=λσ H R=>ta σ H λvs H1=>∃a b,vs=[.ref a,.ref b]/\(∃xs,SqT K H1 a xs)/\(∃ys,SqT K H1 b ys)/\R (zj K a b) H1
theorem CP:B3 "zip"=ae (.type "zip"):=by decide +kernel
theorem SA{X:Cx}{elts:List Expr}{kk:Nat}{tpos:Pos}{ta:TA}{p pos:Pos}(hg:Gl X "zip")(hm:X.mg "zip"=ah)(ha:PA X [e1,e2] ta)(hs:Az [e1,e2] X.env=[(aj,eval e1 X.env),(aj,eval e2 X.env)]:=by rfl)(hs2:Az [e2] X.env=[(aj,eval e2 X.env)]:=by rfl):
  PI X (.Tuple elts kk tpos) (.Call (.Name "zip" p) [e1,e2] [] pos) (oQ X.K ta):=by
 intro pins s σ H R I h;refine Call_ (k9 I hg hm CP (Da (aY (ha pos pins s σ H _ I h) λus s1 ⟨vs,H1,I1,r1,q1⟩=>?_) (by rw[hs,hs2]) (by rw[hs2];rfl)));obtain⟨a,b,e,⟨xs,qa⟩,⟨ys,qb⟩,q⟩:=q1;subst e;cases r1 with
 |cons r rr=>
  cases rr with
  |cons r' rr=>
   cases rr;cases r;cases r';obtain⟨its,rv,pp,_⟩:=I1.tuple qa;obtain⟨jts,rw',pp',_⟩:=I1.tuple qb;have la:a < s1.heap.objs.size:=by obtain⟨_,e,_⟩:=id pp;exact A0 e
   have lb:b < s1.heap.objs.size:=by obtain⟨_,e,_⟩:=id pp';exact A0 e
   refine T6 (show s1.heap.IsTuple a its.toArray from pp) (show s1.heap.IsTuple b jts.toArray from pp') λh' a1 a2 a3 a4 a5 a6=>wpAny_pyIter_zip (s:={ s1 with heap:=h'}) a1 ?_;refine⟨_,_,_,_,H1,rfl,I1.kept (t':=s1.toks) a6,Sn (zipApart_new la lb),⟨a1,a2,⟨_,_,a3⟩,a4,a5⟩,λc hc=>?_,q⟩;have hlt:s1.heap.objs.size<=c:=by
    simp only[Aq,An,or_false]at hc;rcases hc with rfl|rfl|rfl|rfl|rfl<;>omega
   exact I1.fpOk hlt (I1.hok.fresh hlt)
theorem z0(hh:A.handled=ah)(it t)(hne:t≠it)(xs:Array Ak):Draws P w A it [it,t] xs.size (λi v=>xs[i]?=ae v) (λi h=>h.IsTupleIter it t i/\h.IsTuple t xs) where
 live:=λ_ _ z=>by obtain⟨⟨o,q,_⟩,_⟩:=z;exact⟨o,q⟩
 frame:=λ_ _ _ z k=>⟨z.1.at λo e=>k it (.head _) o e,z.2.at λo e=>k t (.tail _ (.head _)) o e⟩
 item:=λi s Q E hi z k=>yb z.1 z.2 (x:=xs[i]) (B4 hi) λh' a b=>k _ h' s.toks (B4 hi) ⟨a,z.2.extBut b.extBut hne⟩ b
 done:=λs Q E z k=>CW hh z.1 z.2 (by simp) k
abbrev tE(h:Heap)(l:Addr):Heap:=h.push {cls:=.type "tuple_iterator",data:=.fields #[.ref l,.int 0 0]}
abbrev ux(h:Heap)(l:Addr):Heap:=(tE h l).push {cls:=.type "enumerate",data:=.fields #[.none,.bool aj,.ref h.objs.size,F0 0,.none,.none]}
theorem Lq(l)(xs)(n)(dc)(sl):
  Meets (Gk.«enumerate.__new__» ⟨[.type "enumerate",.ref l],[]⟩) (λ_ R s=>s.heap.get? l=ae {cls:=.type "tuple",dict:=dc,data:=.seq xs n,slots:=sl} /\
   R (.ok (.ret (.ref (tE s.heap l).objs.size))) {s with heap:=ux s.heap l}):=
 .of_wp λP w A R s h=>by
  obtain⟨hp,g,d,tk,os⟩:=s;obtain⟨hl,h⟩:=h;have hsub:=sub_enumerate;have hT:Heap.IsTuple (Shared.heap ⟨hp,g,d,tk,os⟩) l xs:=⟨_,hl,rfl,n,rfl⟩
  wp_walk using Fl hl
  refine wpAny_stack_any λst=>Aw ?_
  split
  ·rename_i c _ _ _ _ _;cases(c==Et "enumerate")
   ·wp_walk using Fl hl,D9 hT
    exact⟨_,rfl,h⟩
   ·wp_walk using Fl hl,D9 hT
    exact⟨_,rfl,h⟩
  ·wp_walk using Fl hl,D9 hT
   exact⟨_,rfl,h⟩
section
variable{prog:Bp}{w:B7}{A:Ck}{E:Ak->Ar->Prop}{s:Ar}
theorem M3(hl:s.heap.IsTuple l xs)
  (h:∀h',IsEnum h' (s.heap.objs.size+1) s.heap.objs.size 0 .none->h'.IsTupleIter s.heap.objs.size l 0->(∀c o,s.heap.get? c=ae o->h'.get? c=ae o)->Q (.ref (s.heap.objs.size+1)) {s with heap:=h'}):
  A5 (Bi prog w) A (call (.type "enumerate") [.ref l]) Q E s:=by
 obtain⟨⟨c,dc,dt,sl⟩,hl,hc,n,hd⟩:=hl;obtain rfl:c=.type "tuple":=hc;obtain rfl:dt=.seq xs n:=hd;refine callType_new F.called_enumerate ∎ (F.typeCall_enumerate_1 _) (F.newCall_enumerate_1 _) (λo=>F.args_object_init_2 o _) F.entry_enumerate_new (Lq l xs n dc sl) ⟨hl,?_⟩;have z1:(tE s.heap l).objs.size=s.heap.objs.size+1:=Em ..;have g2:(ux s.heap l).get? (tE s.heap l).objs.size=ae _:=Bb _ rfl;have g1:(ux s.heap l).get? s.heap.objs.size=ae _:=Ai _ (Bb _ rfl);show _/\_;rw[z1]at g2 ⊢;exact⟨⟨_,g2,rfl⟩,h _ g2 ⟨_,g1,rfl,rfl⟩ λc o x=>Ai _ (Ai _ x)⟩
end
def CN(K:Ag)(a:Addr):It:=
 ⟨λi H=>∃xs x,SqT K H a xs/\xs[i]?=ae x,
  λi H v H'=>∃T x,v=.ref T/\H T=ah/\H'=upd H T (.tup [.int i,x])/\∀xs,SqT K H a xs->xs[i]?=ae x,
  λi H=>∃xs,SqT K H a xs/\xs.length=i⟩
theorem Tx{K:Ag}(h1:e≠it)(h2:a≠it)(h3:e≠a):Turn P w K (.Tuple elts kk pos) (CN K a) [e,it] e
  (λi h=>(∃old,IsEnum h e it i old)/\h.IsTupleIter it a i) where
 mem:=by simp
 obj:=λi h st c hc=>by
  obtain⟨⟨x,he⟩,⟨o1,e1,c1,d1⟩⟩:=st;simp only[Aq,An,or_false]at hc;rcases hc with rfl|rfl
  ·exact⟨_,he,λv q=>by have q':Data.fields _=Data.cell v:=q;cases q'⟩
  ·exact⟨o1,e1,λv q=>by rw[d1]at q;cases q⟩
 keep:=λi h h' st k=>⟨st.1.imp λ_ q=>k e (by simp) _ q,st.2.at λo q=>k it (by simp) o q⟩
 item:=by
  intro X hP hw hK hc i pins s σ H E I hf st hg;subst hP hw hK;obtain⟨⟨old,he⟩,hi⟩:=st;obtain⟨xs,x,qa,ex⟩:=hg;obtain⟨its,rv,p,_⟩:=I.tuple qa;obtain⟨u,hu,ru⟩:=rv.get ex;have hlt:i < its.toArray.size:=by simpa using(Ao.mp hu).1
  have hef:e∉[it,a]:=λz=>by
   simp only[Aq,An,or_false]at z;exact z.elim h1 h3
  refine wpAny_pyNext_enum_itemD (z0 (A:=X.A.in1) (I.ok.hd hc) it a h2 its.toArray) he ⟨hi,show s.heap.IsTuple a its.toArray from p⟩ hlt h1 hef λy h' tk a1 a2 a3 a4 a5 a6=>⟨_,rfl,?_⟩;obtain rfl:u=y:=by
   rw[List.getElem?_toArray,hu]at a1;cases a1;rfl
  refine wpAny_letOwnedTupleGo_enum (s:={ s with heap:=h',toks:=tk+1}) a2 λh'' b1 b2=>?_;have T:h''.get? s.heap.objs.size=ae {cls:=.type "tuple",data:=.seq #[.int i tk,u]}:=b2.extBut _ _ (Fo (A0 he)) a4;have Tn:H s.heap.objs.size=ah:=I.hok.fresh (Al _);have kp:∀c o,c∉[e,it]->s.heap.get? c=ae o->h''.get? c=ae o:=λc o hc e=>by
   simp only[Aq,An,or_false,not_or]at hc;exact b2.extBut _ _ hc.1 (a6 c o hc.1 hc.2 e)
  refine⟨.ref s.heap.objs.size,upd H s.heap.objs.size (.tup [.int i,x]),I.many (t':=tk+1) hf kp (Al _) ⟨by show 2<=Ay;decide,[.int i tk,u],.cons ⟨tk,rfl⟩ (.cons ru .nil),_,T,rfl,⟨_,rfl⟩,rfl⟩,rfl,⟨_,x,rfl,Tn,rfl,λzs q=>by rw[I.tuple_inj q qa];exact ex⟩,
   ⟨⟨u,by rw[show((i+1:Nat):Int)=(i:Int)+1 from rfl];exact b1⟩,a3.1.extBut b2.extBut h1.symm⟩,λc hc=>?_⟩
  have hlt:c < s.heap.objs.size:=by
   simp only[Aq,An,or_false]at hc;rcases hc with rfl|rfl
   ·exact A0 he
   ·obtain⟨_,e,_⟩:=hi;exact A0 e
  rw[aW (Bq hlt)];exact(hf c hc).1
 done:=by
  intro X hP hw hK hc i pins s σ H E I hf st hg;subst hP hw hK;obtain⟨⟨old,he⟩,hi⟩:=st;obtain⟨xs,hq,hx⟩:=hg;obtain⟨its,rv,p,_⟩:=I.tuple hq;have hl:=rv.length;have hs:its.toArray.size=i:=by simp;omega
  refine wpAny_pyNext_enum_endD (z0 (A:=X.A.in1) (I.ok.hd hc) it a h2 its.toArray) he (by rw[hs];exact⟨hi,p⟩) λh' k=>⟨rfl,I.many0 (t':=s.toks) hf λc o hc e=>?_⟩;simp only[Aq,An,or_false,not_or]at hc;exact k c o hc.2 e
 self:=λ_ _ _ _ _ st h=>wpAny_pyIter_enum st.1.choose_spec h
end L2
namespace DL
open PySem L2 Nb
def cE(kvs:List (aO×Aa))(k:aO):Option Aa:=(kvs.find? λkv=>decide (kv.1=k)).map (·.2)
def fC(kvs:List (aO×Aa))(k:aO)(v:Aa):List (aO×Aa):=
 if (kvs.any λkv=>decide (kv.1=k))=ai then kvs.map (λkv=>if kv.1=k then(kv.1,v)else kv)else kvs++[(k,v)]
def oh(kvs more:List (aO×Aa)):List (aO×Aa):=more.foldl (λacc kv=>fC acc kv.1 kv.2) kvs
section
variable{H H':Hp}{B B':Addr->Prop}{l:List (aO×V)}{m:List (aO×Aa)}{v:V}{d:Aa}{t:Addr}
theorem RdK.len(h:RdK H B l m):l.length=m.length:=by
 unfold RdK at h
 induction h with
 |nil=>rfl
 |cons _ _ ih=>rw[Ap,Ap,ih]
theorem RdK.val(h:RdK H B l m)(k):(cK l k=ah/\cE m k=ah)\/∃v d,cK l k=ae v/\cE m k=ae d/\RdX H B v d:=by
 unfold RdK at h
 induction h with
 |nil=>exact .inl ⟨rfl,rfl⟩
 |@cons p q ps qs r _ ih=>
  by_cases e:p.1=k
  ·have e':q.1=k:=r.1▸e;exact .inr ⟨p.2,q.2,by simp[cK,Br,e],by simp[cE,Br,e'],r.2⟩
  ·have e':¬q.1=k:=r.1▸e;have a1:cK (p::ps) k=cK ps k:=by simp[cK,Br,e]
   have a2:cE (q::qs) k=cE qs k:=by simp[cE,Br,e']
   rw[a1,a2];exact ih
theorem RdK.any(h:RdK H B l m)(k):(l.any λkv=>decide (kv.1=k))=(m.any λkv=>decide (kv.1=k)):=by
 unfold RdK at h
 induction h with
 |nil=>rfl
 |cons r _ ih=>rw[Dc,Dc,ih,r.1]
theorem RdK.map(h:RdK H B l m)(r:RdX H B v d)(k):RdK H B (l.map λkv=>if kv.1=k then(kv.1,v)else kv) (m.map λkv=>if kv.1=k then(kv.1,d)else kv):=by
 unfold RdK at h ⊢
 induction h with
 |nil=>exact .nil
 |@cons p q ps qs r' _ ih=>
  rw[Ba,Ba];refine .cons ?_ ih;by_cases e:p.1=k
  ·rw[if_pos e,if_pos (r'.1▸e:q.1=k)];exact⟨r'.1,r⟩
  ·rw[if_neg e,if_neg (r'.1▸e:¬q.1=k)];exact r'
theorem RdK.append(h:RdK H B l m)(h2:RdK H B l2 m2):RdK H B (l++l2) (m++m2):=by
 unfold RdK at h ⊢
 induction h with
 |nil=>exact h2
 |cons r' _ ih=>exact .cons r' ih
theorem RdK.put(h:RdK H B l m)(r:RdX H B v d)(k):RdK H B (cD l k v) (fC m k d):=by
 unfold cD fC;rw[h.any k]
 split
 ·exact h.map r k
 ·exact h.append (.cons ⟨rfl,r⟩ .nil)
theorem RdK.merge(h2:RdK H B l2 m2):∀{l:List (aO×V)}{m:List (aO×Aa)},RdK H B l m->RdK H B (mO l l2) (oh m m2):=by
 unfold RdK at h2
 induction h2 with
 |nil=>intro l m h;exact h
 |@cons p q ps qs r _ ih=>
  intro l m h;show RdK H B (mO (cD l p.1 p.2) ps) (oh (fC m q.1 q.2) qs);rw[r.1];exact ih (h.put r.2 _)
theorem Jt(l:List (aO×V))(k)(v):(cD l k v).length<=l.length+1:=by
 unfold cD
 split
 ·rw[Ab];omega
 ·rw[Af];exact Al _
theorem LX(l2:List (aO×V)):∀l:List (aO×V),(mO l l2).length<=l.length+l2.length:=by
 induction l2 with
 |nil=>intro l;exact Al _
 |cons p r ih=>
  intro l;show(mO (cD l p.1 p.2) r).length<=_;have:=ih (cD l p.1 p.2);have:=Jt l p.1 p.2;rw[Ap];omega
end
section
variable{X:Cx}{a b c e o i f:Expr}{ta tb te td ty tx:TE}{wa wb we wd' wy wx:DT}{pos p:Pos}{K:Ag}
def c9(i:Nat):DT:=λδ n Q=>match δ[i]? with
 |some (ae (.odk kvs))=>Q (.dk kvs) n
 |some (ae (.w x))=>Q x n
 |_=>False
theorem Ui(i)(hN:X.N[i]?=ae x:=by rfl)(hv:gh X.env.scope x:=by first|exact C4 rfl|exact B9 (C4 rfl)|exact B9 (B9 rfl))(hd:(x==("__debug__":Str))=aj:=by decide)
  (hcd:(x==("__classdict__":Str))=aj:=by decide):DE X (.Name x p) (bw i) (c9 i):=⟨iY hN hv hd hcd,λC H B σ δ n Q Q' R h k=>by
 unfold c9 at h
 split at h
 ·rename_i kvs e;obtain⟨v,h1,a,l,rfl,g2,g3,g4,g5,g6⟩:=R.sl i _ e;exact⟨_,h1,k _ (.dk kvs) H n R (Kp.refl _ _) ⟨a,l,rfl,g2,λz=>R.t0 (z▸g4),g6⟩ h⟩
 ·rename_i x e;obtain⟨v,h1,h2⟩:=R.sl i _ e;exact⟨v,h1,k v x H n R (Kp.refl _ _) h2.1 h⟩
 ·exact h.elim⟩
def gg:Wv->Wv->Int->DQ->Prop:=λx y n Q=>match x,y with
 |.dk kvs,.d (.str k)=>match cE kvs (.inr k)with
  |some d=>Q (.d d) n
  |none=>False
 |_,_=>False
theorem Vk(hu:X.A.units+64 < Fu)(ho:DE X o td wd')(hi:DE X i ty wy)(hs:mh i:=by exact λ_ _=>rfl):DE X (.Subscript o i pos) (GN td ty) (w2 wd' wy gg):=⟨Oy ⋯ ho.pe hi.pe hs,λC H B σ δ n Q Q' R h k=>
 ho.sd C H B σ δ n _ _ R h λv x H1 n1 R1 k1 r1 q1=>hi.sd C H1 B σ δ n1 _ _ R1 q1 λu y H2 n2 R2 k2 r2 q2=>by
  have r1':=r1.kp k2 R1.bt;unfold gg at q2
  split at q2
  ·rename_i kvs key;obtain⟨a,l,rfl,g1,g2,g3⟩:=r1';cases(show RdX H2 B u (.str key)from r2);rcases g3.val (.inr key)with⟨e1,e2⟩|⟨v,d,e1,e2,e3⟩
   ·rw[e2]at q2;exact q2.elim
   ·rw[e2]at q2;exact⟨a,v,rfl,.inl ⟨l,.inr key,.inl g1,rfl,e1.symm⟩,k v (.d d) H2 n2 R2 (k1.trans k2) e3 q2⟩
  ·exact q2.elim⟩
def eQ(neg:Bool):Wv->Wv->Int->DQ->Prop:=λx y n Q=>match x,y with
 |.d (.str k),.dk kvs=>Q (.d (.bool (if neg then !(cE kvs (.inr k)).isSome else(cE kvs (.inr k)).isSome))) n
 |_,_=>False
theorem VC(hi:DE X i ty wy)(ho:DE X o td wd'):fe (mD ty td) (w2 wy wd' (eQ aj)):=λC H B σ δ n Q Q' R h k=>
 hi.sd C H B σ δ n _ _ R h λv x H1 n1 R1 k1 r1 q1=>ho.sd C H1 B σ δ n1 _ _ R1 q1 λu y H2 n2 R2 k2 r2 q2=>by
  have r1':=r1.kp k2 R1.bt;unfold eQ at q2
  split at q2
  ·rename_i key kvs;obtain⟨a,l,rfl,g1,g2,g3⟩:=r2;cases(show RdX H2 B v (.str key)from r1');refine⟨a,cK l (.inr key),rfl,.inl ⟨l,.inr key,.inl g1,rfl,rfl⟩,k _ _ H2 n2 R2 (k1.trans k2) (wd (.bl _)) ?_⟩;rcases g3.val (.inr key)with⟨e1,e2⟩|⟨v,d,e1,e2,e3⟩
   ·rw[e1];rw[e2]at q2;exact q2
   ·rw[e1];rw[e2]at q2;exact q2
  ·exact q2.elim
theorem AH(hi:DE X i ty wy)(ho:DE X o td wd'):fe (nK ty td) (w2 wy wd' (eQ ai)):=λC H B σ δ n Q Q' R h k=>
 hi.sd C H B σ δ n _ _ R h λv x H1 n1 R1 k1 r1 q1=>ho.sd C H1 B σ δ n1 _ _ R1 q1 λu y H2 n2 R2 k2 r2 q2=>by
  have r1':=r1.kp k2 R1.bt;unfold eQ at q2
  split at q2
  ·rename_i key kvs;obtain⟨a,l,rfl,g1,g2,g3⟩:=r2;cases(show RdX H2 B v (.str key)from r1');refine⟨a,cK l (.inr key),rfl,.inl ⟨l,.inr key,.inl g1,rfl,rfl⟩,k _ _ H2 n2 R2 (k1.trans k2) (wd (.bl _)) ?_⟩;rcases g3.val (.inr key)with⟨e1,e2⟩|⟨v,d,e1,e2,e3⟩
   ·rw[e1];rw[e2]at q2;exact q2
   ·rw[e1];rw[e2]at q2;exact q2
  ·exact q2.elim
theorem Pr(hu:X.A.units+64 < Fu)(hi:DE X i ty wy)(ho:DE X o td wd')(hm:Ci .In o=aj:=by with_unfolding_all rfl):DE X (.Compare i [.In] [o] pos) (mD ty td) (w2 wy wd' (eQ aj)):=⟨JH (Qb ⋯ hi.pe ho.pe) hm,VC hi ho⟩
theorem QN(hu:X.A.units+64 < Fu)(hi:DE X i ty wy)(ho:DE X o td wd')(hm:Ci .NotIn o=aj:=by with_unfolding_all rfl):DE X (.Compare i [.NotIn] [o] pos) (nK ty td) (w2 wy wd' (eQ ai)):=⟨JH (uC ⋯ hi.pe ho.pe) hm,AH hi ho⟩
theorem Uy(hu:X.A.units+64 < Fu)(hi:DE X i ty wy)(ho:DE X o td wd')(hm:Ci .NotIn o=aj:=by with_unfolding_all rfl):DC X (.Compare i [.NotIn] [o] pos) (jv (nK ty td)) (cT (w2 wy wd' (eQ ai))):=⟨GJ (uC ⋯ hi.pe ho.pe) hm,lE (AH hi ho)⟩
abbrev lp:=Sl->Int->(List (aO×Aa)->Int->Prop)->Prop
def uz(t:TE)(w:lp):Prop:=∀(C:Ctx)(H:Hp)(B:Addr->Prop)(σ:St)(δ:Sl)(n:Int)(Q:List (aO×Aa)->Int->Prop)(Q':VK),Rel C H B σ δ n->w δ n Q->
 (∀a l kvs H' n',Rel C H' B σ δ n'->Kp C.t H H'->H a=ah->H' a=ae (.dK l)->l.length<=1000->RdK H' (λb=>B b\/b=a) l kvs->Q kvs n'->Q' (.ref a) H')->t σ H Q'
structure DN(X:Cx)(e:Expr)(t:TE)(w:lp):Prop where
 pe:PE X e t
 sd:uz t w
def mH:lp:=λ_ n Q=>Q [] n
theorem L4:DN X (.Dict [] [] pos) IV mH:=⟨Rj,λC H B σ δ n Q Q' R q k=>λa ha=>k a [] [] _ n (R.new ha) (Kp.new ha) ha bQ (Bo _) .nil q⟩
def m8:List Aa->Option (List (aO×Aa))
 |[]=>ae []
 |.tuple [.str k,d]::r=>(m8 r).map ((.inr k,d)::·)
 |_=>ah
theorem GO:∀{xs:List V}{ds:List Aa}{ps:List (aO×Aa)},RdXs H B xs ds->m8 ds=ae ps->∃qs:List (Addr×aO×V),xs=qs.map (λp=>V.ref p.1)/\(∀p∈qs,H p.1=ae (.tup [kV p.2.1,p.2.2]))/\RdK H B (qs.map (·.2)) ps
 |_,_,ps,.nil,h=>by
  cases h;exact⟨[],rfl,λp (hp:p∈[])=>absurd hp An,Paired.nil⟩
 |_,_,ps,.cons (d:=d) (ds:=ds) h1 h2,h=>by
  unfold m8 at h
  split at h
  ·rename_i e;cases e
  ·rename_i k d' r e;cases e;cases e2:m8 ds with
   |none=>rw[e2]at h;cases h
   |some ps'=>
    rw[e2]at h;cases h;obtain⟨qs,f1,f2,f3⟩:=GO h2 e2;cases h1 with
    |@tup a ys _ g1 g2 g3 g4=>
     cases g4 with
     |cons c1 c2=>
      cases c2 with
      |cons c3 c4=>
       cases c4;cases c1;refine⟨(a,.inr k,_)::qs,by rw[f1];rfl,λp hp=>?_,.cons ⟨rfl,c3⟩ f3⟩;rcases Aq.mp hp with rfl|z
       ·exact g1
       ·exact f2 p z
  ·cases h
def GB:List V->Hp->VK->Prop:=λxs H Q=>∃(src:Addr)(ps:List (Addr×aO×V)),xs=[.ref src]/\H src=ae (.tup (ps.map λp=>V.ref p.1))/\(∀p∈ps,H p.1=ae (.tup [kV p.2.1,p.2.2]))/\ps.length<=1000 /\
  ∀l,H l=ah->Q (.ref l) (L2.upd H l (.dK (mO [] (ps.map (·.2)))))
def jN(w:DT):lp:=λδ n Q=>w δ n λx n1=>match x with
 |.d (.tuple ds)=>match m8 ds with
  |some ps=>ds.length<=1000/\Q (oh [] ps) n1
  |none=>False
 |_=>False
theorem zN(hh:X.A.handled=ah)(hg:Gl X "dict")(hm:X.mg "dict"=ah)(he:DE X e te we)(hv:B3 "dict"=ae (.type "dict"):=by decide +kernel)
  (he':Az [e] X.env=(aj,eval e X.env)::Az [] X.env:=by rfl) (hpl:(Dj pos (Az [] X.env)).any (·.1)=aj:=by rfl):DN X (.Call (.Name "dict" p) [e] [] pos) (fY GB (c7 te bL)) (jN we):=
 ⟨mQ (Oa hh) hg hm hv (dF he.pe fI he') ∎ ∎ he' hpl,λC H B σ δ n Q Q' R q k=>
  he.sd C H B σ δ n _ _ R q λv x H1 n1 R1 k1 r1 q1=>by
   split at q1
   ·rename_i ds
    split at q1
    ·rename_i ps ep;cases(show RdX H1 B v (.tuple ds)from r1)with
     |@tup a ys _ g1 g2 g3 g4=>
      obtain⟨qs,f1,f2,f3⟩:=GO g4 ep;subst f1;have hl:qs.length<=1000:=by have:=g4.len;rw[Ab]at this;rw[this];exact q1.1
      refine⟨a,qs,rfl,g1,f2,hl,λl hl0=>?_⟩;refine k l _ (oh [] ps) _ n1 (R1.new hl0) (k1.trans (Kp.new hl0)) (R1.was k1 hl0) bQ ?_ ?_ q1.2
      ·have:=LX (qs.map (·.2)) [];rw[Ab]at this;have z:([]:List (aO×V)).length=0:=rfl;omega
      ·refine RdK.merge ?_ .nil;exact f3.move λb o e n=>⟨by rw[aW (bY e hl0)];exact e,λz=>z.elim n λq=>bY e hl0 q⟩
    ·exact q1.elim
   ·exact q1.elim⟩
def jJ(i:Nat)(w:lp):aR:=λδ n K=>w δ n λkvs n1=>K.nx (δ.set i (ae (.odk kvs))) n1
theorem Md{i:Nat}(hN:X.N.Nodup)(hi:X.N[i]?=ae x)(hx:kh X.env.scope x)(he:DN X e te w)(hs:Ed e (ae (.Name x pos')) pos.line X.env=pure aj:=by rfl)(hf:X.fn x=ai\/X.env.scope.names.lookup x=ae .local:=by first|exact .inl rfl|exact .inr rfl|assumption):
  DS X (.Assign [.Name x pos'] e pos) (c8 te (fi i)) (jJ i w):=⟨jU hN hi hx he.pe hs hf,λC H B σ δ n K D R q E=>
 he.sd C H B σ δ n _ _ R q λa l kvs H1 n1 R1 k1 h0 h1 h2 h3 q1=>by
  refine E.nx _ _ _ _ _ (R.own R1 k1 h0 (by rw[h1];exact λz=>nomatch z) rfl ?_) q1;exact⟨a,l,rfl,h1,.inr rfl,R.h0 h0,h2,h3⟩⟩
def k8(i:Nat)(wy wv:DT):aR:=λδ n K=>match δ[i]? with
 |some (ae (.odk kvs))=>wv δ n λv n1=>wy δ n1 λy n2=>match v,y with
  |.d d,.d (.str k)=>kvs.length < 1000/\K.nx (δ.set i (ae (.odk (fC kvs (.inr k) d)))) n2
  |_,_=>False
 |_=>False
theorem Ot{i:Nat}{xp sp:Pos}(hu:X.A.units+64 < Fu)(hN:X.N[i]?=ae x)(hj:DE X j tj wj)(he:DE X e te we)(hv:gh X.env.scope x:=by first|exact C4 rfl|exact B9 (C4 rfl)|exact B9 (B9 rfl))(hd:(x==("__debug__":Str))=aj:=by decide)
  (hcd:(x==("__classdict__":Str))=aj:=by decide) (hs:Ed e (ae (.Subscript (.Name x xp) j sp)) pos.line X.env=pure aj:=by rfl):
  DS X (.Assign [.Subscript (.Name x xp) j sp] e pos) (vg (bw i) tj te) (k8 i wj we):=
 ⟨Ji ⋯ (iY hN hv hd hcd) hj.pe he.pe hs,λC H B σ δ n K D R q E=>by
  unfold k8 at q
  split at q
  ·rename_i kvs ei;refine he.sd C H B σ δ n _ _ R q λu y H1 n1 R1 k1 r1 q1=>?_;obtain⟨v,hv,a,l,rfl,e2,e3,e4,e5,e6⟩:=R1.sl i _ ei;refine⟨_,hv,hj.sd C H1 B σ δ n1 _ _ R1 q1 λw z H2 n2 R2 k2 r2 q2=>?_⟩
   split at q2
   ·rename_i d key;cases(show RdX H2 B w (.str key)from r2);have hat:a≠C.t:=λz=>R.t0 (z▸e4);have e2':=k2 _ _ e2 hat;have r1':RdX H2 B u d:=r1.kp k2 R1.bt;have e6':RdK H2 B l kvs:=e6.move λb o e n=>⟨k2 b o e λz=>n (z▸R1.bt),n⟩;have hl:l.length < 1000:=by rw[e6'.len];exact q2.1
    refine⟨a,_,rfl,DPut.k (k:=.inr key) e2' (Bn hl (fc (Al _))),?_⟩;refine E.nx _ _ _ _ _ (R2.mutOwn ei rfl hv e3 e4 ?_ rfl) q2.2;refine⟨a,_,rfl,bQ,e3,e4,?_,?_⟩
    ·have:=Jt l (.inr key) u;omega
    ·exact(e6'.put r1' _).move λb o e n=>⟨by rw[aW λ(z:b=a)=>n (z▸e3)];exact e,n⟩
   ·exact q2.elim
  ·exact q.elim⟩
def VY(i:Nat):DT:=λδ n Q=>match δ[i]? with
 |some (ae (.own ds))=>Q (~~~ds.length) n
 |_=>False
def nr(i:Nat)(w:DT):DT:=λδ n Q=>w δ n λx n1=>match x,δ[i]? with
 |.d a,ae (ae (.own ds))=>fL a=ai/\ds.all fL=ai/\Q (.d (.bool (b8 a ds))) n1
 |_,_=>False
theorem S8{i:Nat}(h:fe ta wa):fe (dz (jg K aj) ta (bw i)) (nr i wa):=λC H B σ δ n Q Q' R q k=>
 h C H B σ δ n _ _ R q λv x H1 n1 R1 k1 r1 q1=>by
  split at q1
  ·rename_i da ds e;have r1:RdX H1 B v da:=r1;obtain⟨u,h1,a,xs,rfl,g2,g3,g4,g5,g6⟩:=R1.sl i _ e;refine⟨_,h1,a,xs,rfl,.inl (SqL.of g2),mG r1 q1.1,lR g6 q1.2.1,k _ _ H1 n1 R1 k1 (wd (.bl _)) ?_⟩;rw[mR r1 g6];exact q1.2.2
  ·exact q1.elim
theorem RY(i){x:Str}{xp:Pos}(ha:DE X a ta wa)(hK:X.K=K:=by rfl)(hN:X.N[i]?=ae x:=by rfl)(hv:gh X.env.scope x:=by first|exact C4 rfl|exact B9 (C4 rfl)|exact B9 (B9 rfl))(hd:(x==("__debug__":Str))=aj:=by decide)
  (hcd:(x==("__classdict__":Str))=aj:=by decide) (hm:Ci .In (Expr.Name x xp)=aj:=by with_unfolding_all rfl):DC X (.Compare a [.In] [.Name x xp] pos) (jv (dz (jg K aj) ta (bw i))) (cT (nr i wa)):=
 ⟨j6 (xm hK) ha.pe (iY hN hv hd hcd) hm,lE (S8 ha.sd)⟩
end
section
variable{X:Cx}{a b c e o i f:Expr}{ta tb te td ty tx:TE}{wa wb we wd' wy wx:DT}{pos p:Pos}{K:Ag}
def bE(ps:List (Str×Aa)):List (aO×Aa):=ps.map λp=>(Dl p.1,p.2)
def lA(ps:List (Str×Aa)):Prop:=ps.Pairwise λa b=>¬b.1.cps.toList < a.1.cps.toList
def pj(w:DT):fN:=λδ n Q=>w δ n λx n1=>match x with
 |.dk kvs=>∃ps:List (Str×Aa),kvs=bE ps/\ps.length < 64/\(ps.map (·.1)).Nodup/\(∀p∈ps,p.1.length<=1000/\fL p.2=ai)/\∀ps':List (Str×Aa),ps'.Perm ps->lA ps'->Q (ps'.map λp=>.tuple [.str p.1,p.2]) n1
 |_=>False
theorem G9:∀{l:List (aO×V)}{ps:List (Str×Aa)},RdK H B l (bE ps)->∃xv:List V,xv.length=ps.length/\l=(((ps.map (·.1)).zip xv).map λp=>((Dl p.1:aO),p.2))/\RdXs H B xv (ps.map (·.2))
 |[],[],_=>⟨[],rfl,rfl,.nil⟩
 |[],_::_,h=>nomatch h
 |_::_,[],h=>nomatch h
 |q::l,p::ps,.cons r h=>by
  obtain⟨xv,e1,e2,e3⟩:=G9 (l:=l) (ps:=ps) h;refine⟨q.2::xv,by simp[e1],?_,.cons r.2 e3⟩;rw[e2];have r1:q.1=(Dl p.1:aO):=r.1;have:q=((Dl p.1:aO),q.2):=by rw[<-r1]
  rw[this];rfl
def P2:V->List V->Hp->VK->Prop:=λx vs H Q=>∃d kvs,x=.ref d/\vs=[]/\H d=ae (.dK kvs)/\∀v,H v=ah->Q (.ref v) (upd H v (lW d v))
theorem Ja{α β:Type}{f:α->β}{l:List α}{i:Nat}{x:α}{y:β}(h:i < l.length):(l.map f).getD i y=f (l.getD i x):=by simp[h]
theorem Lw{ap ip:Pos}(hh:X.A.handled=ah)(hg:Gl X "sorted")(hm:X.mg "sorted"=ah)(ho:DE X o td wd')(hv:B3 "sorted"=ae (.builtin "sorted"):=by decide +kernel)(hK:X.K=K:=by rfl)
  (hbase:attributeBase o "items" X.env (eval o X.env)=eval o X.env:=by rfl) (hline:(ap.endLine==ip.line)=ai:=by rfl)
  (he':Az [Expr.Call (.Attribute o "items" ap) [] [] ip] X.env=(aj,eval (Expr.Call (.Attribute o "items" ap) [] [] ip) X.env)::Az [] X.env:=by rfl) (hpl:(Dj pos (Az [] X.env)).any (·.1)=aj:=by rfl):
  DF X (.Call (.Name "sorted" p) [.Call (.Attribute o "items" ap) [] [] ip] [] pos) (fY zu (c7 (pF K "dict" P2 td) bL)) (pj wd'):=by
 subst hK;refine⟨mN (Nz hh) hg hm hv (dF (Ta PySem.F.plainAttrs_dict PySem.F.slot_dict_items PySem.F.type_dict_items QU ho.pe hbase hline) fI he') ∎ ∎ he' hpl,λC H B σ δ n Q Q' R q k=>
  ho.sd C H B σ δ n _ _ R q λv x H1 n1 R1 k1 r1 q1=>?_⟩
 cases x with
 |d _=>exact q1.elim
 |tp=>exact q1.elim
 |ln _=>exact q1.elim
 |ob _=>exact q1.elim
 |dk kvs=>
  obtain⟨a,l,rfl,g1,g2,g3⟩:=r1;obtain⟨ps,rfl,h64,nd,hps,kq⟩:=q1;obtain⟨xv,ex1,ex2,ex3⟩:=G9 g3;refine⟨.inr (.inr (.inl ⟨rfl,.inl ⟨l,g1⟩⟩)),a,l,rfl,rfl,g1,λv hv=>?_⟩;have R2:=R1.new (o:=lW a v) hv;have kp2:Kp C.t H1 (upd H1 v (lW a v)):=Kp.new hv;have hne:a≠v:=bY g1 hv;refine⟨v,a,ps.map (·.1),xv,rfl,bQ,by rw[Ab,ex1],by rw[aW hne,g1,ex2],by rw[Ab];exact h64,nd,lR ex3 ?_,λD as idx H' hla hidx hpw sm hD has hD' hit=>?_⟩
  ·rw[Dh];intro d hd;obtain⟨p,hp,rfl⟩:=Bg.mp hd;exact(hps p hp).2
  ·rw[Ab]at hla hidx;have R3:=R2.same sm;have k3:Kp C.t H H':=(k1.trans kp2).trans λb o e _=>sm b o e;have hDn:H D=ah:=R1.was k1 (by
    cases q:H1 D with
    |none=>rfl
    |some o=>
     have:upd H1 v (lW a v) D=ae o:=by rw[aW (bY q hv)];exact q
     rw[hD]at this;cases this)
   have hlt:∀i∈idx,i < ps.length:=λi hi=>Ce.mp (hidx.mem_iff.mp hi);have lidx:idx.length=ps.length:=by rw[hidx.length_eq,C2]
   refine k D _ _ H' n1 R3 k3 hDn hD' (by rw[Ab,lidx];exact fc ⋯) ?_ (kq (idx.map λi=>ps.getD i (⟨#[]⟩,.none)) ?_ ?_)
   ·rw[Df];have key:∀m:List Nat,(∀i∈m,i∈idx)->RdXs H' (λb=>B b\/b=D) (m.map λi=>V.ref (gi as (ps.map (·.1)) xv i).1) (m.map ((λp=>PyData.tuple [.str p.1,p.2]) ∘ λi=>ps.getD i (⟨#[]⟩,.none))):=by
     intro m
     induction m with
     |nil=>intro _;exact .nil
     |cons i r ih=>
      intro hm;have hi:=hm i As;have hil:=hlt i hi;refine .cons ?_ (ih λj hj=>hm j (Au _ hj));have ht:=hit i hi;have hia:i < as.length:=by rw[hla];exact hil
      have eA:(gi as (ps.map (·.1)) xv i).1=as[i]:=by show as.getD i 0=_;simp[hia]
      have eK:(gi as (ps.map (·.1)) xv i).2.1=ps[i].1:=by show(ps.map (·.1)).getD i ⟨#[]⟩=_;simp[hil]
      have hix:i < xv.length:=by rw[ex1];exact hil
      have eX:(gi as (ps.map (·.1)) xv i).2.2=xv[i]:=by show xv.getD i .non=_;simp[hix]
      rw[eA,eK,eX]at ht;show RdX H' _ (.ref (gi as (ps.map (·.1)) xv i).1) _;rw[eA];have eP:ps.getD i (⟨#[]⟩,.none)=ps[i]:=by simp[hil]
      show RdX H' _ (.ref as[i]) (.tuple [.str (ps.getD i (⟨#[]⟩,.none)).1,(ps.getD i (⟨#[]⟩,.none)).2]);rw[eP];have hAn:=has as[i] (C8 hia);have nB:¬B as[i]:=R2.nb hAn;have nD:as[i]≠D:=λz=>by rw[z,hD']at ht;cases ht
      refine .tup ht (λz=>z.elim nB nD) (by show 2<=Ay;decide) (.cons (.str _ (fc (hps ps[i] (C8 hil)).1)) (.cons ?_ .nil));obtain⟨d,f1,f2⟩:=ex3.get (Ah hix);rw[Ax,Ah hil]at f1;cases f1;exact f2.move λb o e n=>⟨sm b o (by rw[aW (bY e hv)];exact e),λz=>z.elim n λq=>by
       have e2:upd H1 v (lW a v) b=ae o:=by rw[aW (bY e hv)];exact e
       rw[q,hD]at e2;cases e2⟩
    exact key idx λ_ h=>h
   ·have h1:=hidx.map λi=>ps.getD i ((⟨#[]⟩:Str),PyData.none);have h2:(A8 ps.length).map (λi=>ps.getD i ((⟨#[]⟩:Str),PyData.none))=ps:=by
     apply D3 (by simp);intro i h1 h2;simp[h2]
    rw[h2]at h1;exact h1
   ·unfold lA;rw[List.pairwise_map];rw[List.pairwise_map]at hpw;refine List.Pairwise.imp_of_mem (λ{x y} hx hy h=>?_) hpw;rw[Ja (x:=((⟨#[]⟩:Str),PyData.none)) (hlt x hx),Ja (x:=((⟨#[]⟩:Str),PyData.none)) (hlt y hy)]at h;exact h
theorem w8:∀{ys:List Str},(∀y∈ys,y.length<=1000)->RdXs H B (ys.map V.str) (ys.map .str)
 |[],_=>.nil
 |y::r,h=>.cons (.str _ (fc (h y As))) (w8 λz hz=>h z (Au _ hz))
def Mr:List Wv->Int->DQ->Prop:=λxs n Q=>match xs with
 |[.d (.int i)]=>Q (~~~i) n
 |[.d (.bool b)]=>Q (~~~(if b then 1 else 0)) n
 |_=>False
def dv(xs ys:List Aa):List Aa:=List.zipWith (λx y=>.tuple [x,y]) xs ys
def lN(w w':DT):iK:=λδ n Q=>w δ n λx n1=>w' δ n1 λy n2=>match x,y with
 |.d (.tuple xs),.d (.tuple ys)=>xs.length=ys.length/\Q (dv xs ys) n2
 |_,_=>False
theorem QI{elts:List Expr}{kk:Nat}{tpos:Pos}(hg:Gl X "zip")(hm:X.mg "zip"=ah)(ha:DE X a ta wa)(hb:DE X b tb wb)(hK:X.K=K:=by rfl)(hs:Az [a,b] X.env=[(aj,eval a X.env),(aj,eval b X.env)]:=by rfl)(hs2:Az [b] X.env=[(aj,eval b X.env)]:=by rfl)
  (he1:Az [a,b] X.env=(aj,eval a X.env)::Az [b] X.env:=by rfl) (he2:Az [b] X.env=(aj,eval b X.env)::Az [] X.env:=by rfl):
  DI X (.Tuple elts kk tpos) (.Call (.Name "zip" p) [a,b] [] pos) (oQ K (c7 ta (c7 tb bL))) (lN wa wb):=by
 subst hK;refine⟨SA hg hm (dF ha.pe (dF hb.pe fI he2) he1) hs hs2,λC H B σ δ n Q Q' R q k=>ha.sd C H B σ δ n _ _ R q λv x H1 n1 R1 k1 r1 q1=>hb.sd C H1 B σ δ n1 _ _ R1 q1 λu y H2 n2 R2 k2 r2 q2=>?_⟩;have r1':=r1.kp k2 R1.bt
 split at q2
 ·rename_i xs ys;cases(show RdX H2 B v (.tuple xs)from r1')with
  |@tup aa vs _ e1 e2 e3 e4=>
   cases(show RdX H2 B u (.tuple ys)from r2)with
   |@tup ab ws _ f1 f2 f3 f4=>
    refine⟨aa,ab,rfl,⟨vs,SqT.of e1⟩,⟨ws,SqT.of f1⟩,k _ (dv xs ys) H2 n2 R2 (k1.trans k2) (λfz th=>?_) q2.2⟩;have za:fz aa=ae (.tup vs):=th.2 _ _ e1 e2;have zb:fz ab=ae (.tup ws):=th.2 _ _ f1 f2;have lz:(dv xs ys).length=xs.length:=by unfold dv;rw[List.length_zipWith,q2.1,Nat.min_self]
    refine⟨by rw[lz,<-e4.len];exact e3,λi H hH hi=>?_,λH hH=>?_,λi H x H' d hH hd hy=>?_⟩
    ·rw[lz]at hi;have h1:i < vs.length:=by rw[e4.len];exact hi
     have h2:i < ws.length:=by rw[f4.len,<-q2.1];exact hi
     exact⟨vs,ws,vs[i],ws[i],SqT.of (hH _ _ za),SqT.of (hH _ _ zb),Ah h1,Ah h2⟩
    ·exact⟨vs,SqT.of (hH _ _ za),by rw[lz,e4.len];exact Al _⟩
    ·obtain⟨T,x1,y1,rfl,hT,rfl,hx,hy⟩:=hy;refine⟨λb o e=>by rw[aW (bY e hT)];exact e,λB' hB hBa=>?_⟩;have hi:i < xs.length:=by rw[<-lz];exact(Ao.mp hd).1
     have hi2:i < ys.length:=by rw[<-q2.1];exact hi
     have ed:d=.tuple [xs[i],ys[i]]:=by
      unfold dv at hd;rw[List.getElem?_zipWith,Ah hi,Ah hi2]at hd;exact(A7 hd).symm
     subst ed;obtain⟨u1,hu1,ru1⟩:=e4.getD (Ah hi);obtain⟨u2,hu2,ru2⟩:=f4.getD (Ah hi2);have t1:=hx _ (SqT.of (hH _ _ za));have t2:=hy _ (SqT.of (hH _ _ zb));rw[hu1]at t1;rw[hu2]at t2;cases t1;cases t2;have mv:∀b o,H2 b=ae o->¬B b->upd H T (.tup [x1,y1]) b=ae o/\¬B' b:=λb o e ne=>by
      have:=hH _ _ (th.2 _ _ e ne);exact⟨by rw[aW (bY this hT)];exact this,hB _ _ (th.2 _ _ e ne)⟩
     exact .tup bQ (λz=>hBa T z hT) (by show 2<=Ay;decide) (.cons (ru1.move mv) (.cons (ru2.move mv) .nil))
 ·exact q2.elim
end
end DL
namespace L2
open PySem PySem.Spec PyProof.Rows PySem.SeqAt
end L2
namespace DL
open PySem L2 Nb
section
variable{X:Cx}{K:Ag}
def vp(K:Ag)(f:Aa->Aa->Option Bool):R2:=λx y H Q=>∃d e b,RdD K H x d/\RdD K H y e/\d.canLay0=ai/\e.canLay0=ai/\d.depth<=20/\e.depth<=20/\f d e=ae b/\Q (.bl b) H
theorem Hl(hu:X.A.units+64 < Fu)(hK:X.K=K:=by rfl):OpR X (By .Eq) (vp K λd e=>ae (Cc d e)):=by
 subst hK;intro pins s σ H x y v u Q I rx ry h;obtain⟨d,e,b,h1,h2,h3,h4,h5,h6,h7,q⟩:=h;cases h7;obtain⟨as,r1⟩:=RdD.reads I h1 rx;obtain⟨bs,r2⟩:=RdD.reads I h2 ry;exact SeqAt.compareEq_reads r1 r2 h3 h4 ⋯ ⟨.bl _,H,I,rfl,q⟩
theorem Mz(hu:X.A.units+64 < Fu)(hK:X.K=K:=by rfl):OpR X (By .NotEq) (vp K λd e=>ae (!Cc d e)):=by
 subst hK;intro pins s σ H x y v u Q I rx ry h;obtain⟨d,e,b,h1,h2,h3,h4,h5,h6,h7,q⟩:=h;cases h7;obtain⟨as,r1⟩:=RdD.reads I h1 rx;obtain⟨bs,r2⟩:=RdD.reads I h2 ry;exact SeqAt.compareNe_reads r1 r2 h3 h4 ⋯ ⟨.bl _,H,I,rfl,q⟩
def n8(f:Aa->Aa->Option Bool):Wv->Wv->Int->DQ->Prop:=λx y n Q=>match x,y with
 |.d d,.d e=>d.canLay0=ai/\e.canLay0=ai/\d.depth<=20/\e.depth<=20/\∃b,f d e=ae b/\Q (.d (.bool b)) n
 |_,_=>False
theorem xF:bO (vp K f) (n8 f):=λC H B σ δ n x y p q Q Q' R rx ry h1 k=>by
 unfold n8 at h1
 split at h1
 ·rename_i d e;obtain⟨a1,a2,a3,a4,b,a5,a6⟩:=h1;exact⟨d,e,b,RdX.rd rx,RdX.rd ry,a1,a2,a3,a4,a5,k _ _ H n R (Kp.refl _ _) (wd (.bl b)) a6⟩
 ·exact h1.elim
end
end DL
namespace L2
open PySem PySem.Spec PyProof.Rows PySem.W
end L2
namespace DL
open PySem L2 Nb
section
variable{X:Cx}{o:Expr}{td:TE}{wd':DT}{pos p p2 ip:Pos}{W:B7}
def oD(ys:List Str):Prop:=ys.Pairwise λa b=>¬b.cps.toList < a.cps.toList
variable{a:Expr}{ta:TE}{wa:DT}{K:Ag}
end
section
variable{X:Cx}{a b c e o i f:Expr}{ta tb te td ty tx:TE}{wa wb we wd' wy wx:DT}{pos p:Pos}{K:Ag}
def gB(i:Nat):DT:=λδ n Q=>match δ[i]? with
 |some (ae (.own ds))=>Q (.ln ds) n
 |some (ae (.w x))=>Q x n
 |_=>False
theorem Ut(i)(hN:X.N[i]?=ae x:=by rfl)(hv:gh X.env.scope x:=by first|exact C4 rfl|exact B9 (C4 rfl)|exact B9 (B9 rfl))(hd:(x==("__debug__":Str))=aj:=by decide)
  (hcd:(x==("__classdict__":Str))=aj:=by decide):DE X (.Name x p) (bw i) (gB i):=⟨iY hN hv hd hcd,λC H B σ δ n Q Q' R h k=>by
 unfold gB at h
 split at h
 ·rename_i ds e;obtain⟨v,h1,a,xs,rfl,g2,g3,g4,g5,g6⟩:=R.sl i _ e;exact⟨_,h1,k _ (.ln ds) H n R (Kp.refl _ _) ⟨a,xs,rfl,g2,λz=>R.t0 (z▸g4),g5,g6⟩ h⟩
 ·rename_i x e;obtain⟨v,h1,h2⟩:=R.sl i _ e;exact⟨v,h1,k v x H n R (Kp.refl _ _) h2.1 h⟩
 ·exact h.elim⟩
def aM:Wv->Wv->Int->DQ->Prop:=λx y n Q=>match x with
 |.ln ds=>match y with
  |.d (.int i)=>match dh ds i with
   |some d=>Q (.d d) n
   |none=>False
  |_=>False
 |x=>az x y n Q
theorem KL:bO (gR K) aM:=λC H B σ δ n x y p q Q Q' R rx ry h1 k=>by
 cases p with
 |ln ds=>
  unfold aM at h1;dsimp only at h1
  split at h1
  ·rename_i i
   split at h1
   ·rename_i d e;cases(show RdX H B y (.int i)from ry);obtain⟨ay,ys,rfl,e1,e2,e3,e4⟩:=rx;obtain⟨v,f1,f2⟩:=ud e4 e;exact .inl ⟨ay,ys,i,v,rfl,rfl,SqL.of e1,f1,k _ _ H n R (Kp.refl _ _) (wd f2) h1⟩
   ·exact h1.elim
  ·exact h1.elim
 |d _=>exact oJ C H B σ δ n x y _ q Q Q' R rx ry h1 k
 |tp=>exact oJ C H B σ δ n x y _ q Q Q' R rx ry h1 k
 |dk _=>exact oJ C H B σ δ n x y _ q Q Q' R rx ry h1 k
 |ob _=>exact oJ C H B σ δ n x y _ q Q Q' R rx ry h1 k
theorem OG(ha:DE X a ta wa)(hb:DE X b tb wb)(hK:X.K=K:=by rfl)(hs:nH b:=by exact λ_ _=>rfl):DE X (.Subscript a b pos) (dz (gR K) ta tb) (w2 wa wb aM):=by
 subst hK;exact⟨iS uZ ha.pe hb.pe hs,pX KL ha.sd hb.sd⟩
def eO(neg:Bool):Wv->Wv->Int->DQ->Prop:=λx y n Q=>match y with
 |.ln ds=>match x with
  |.d a=>fL a=ai/\ds.all fL=ai/\Q (.d (.bool (if neg then !b8 a ds else b8 a ds))) n
  |_=>False
 |y=>gN neg x y n Q
theorem Q9:bO (jg K neg) (eO neg):=λC H B σ δ n x y p q Q Q' R rx ry h1 k=>by
 cases q with
 |ln ds=>
  unfold eO at h1;dsimp only at h1
  split at h1
  ·rename_i da;obtain⟨f1,f2,q⟩:=h1;have rx:RdX H B x da:=rx;obtain⟨ay,ys,rfl,e1,e2,e3,e4⟩:=ry;refine⟨ay,ys,rfl,.inl (SqL.of e1),mG rx f1,lR e4 f2,?_⟩;rw[mR rx e4];exact k _ _ H n R (Kp.refl _ _) (wd (.bl _)) q
  ·exact h1.elim
 |d _=>exact nW C H B σ δ n x y p _ Q Q' R rx ry h1 k
 |tp=>exact nW C H B σ δ n x y p _ Q Q' R rx ry h1 k
 |dk _=>exact nW C H B σ δ n x y p _ Q Q' R rx ry h1 k
 |ob _=>exact nW C H B σ δ n x y p _ Q Q' R rx ry h1 k
def dS:List Wv->Int->DQ->Prop:=λxs n Q=>match xs with
 |[.ln ds]=>Q (~~~ds.length) n
 |xs=>bg xs n Q
theorem MM:dM (qM K) dS:=λC H B σ δ n vs xs Q Q' R r h k=>by
 unfold dS at h
 split at h
 ·rename_i ds;cases r with
  |cons r1 r2=>
   cases r2;obtain⟨ay,ys,rfl,e1,e2,e3,e4⟩:=r1;refine .inr ⟨ay,ys,rfl,.inl (SqL.of e1),?_⟩;rw[e4.len];exact k _ _ H n R (Kp.refl _ _) (wd (.int _)) h
 ·exact DD C H B σ δ n vs xs Q Q' R r h k
def jT:List Wv->Int->DQ->Prop:=λxs n Q=>match xs with
 |[.ln ds]=>Q (.d (.list ds)) n
 |xs=>lX xs n Q
theorem Rl:dM (sC K) jT:=λC H B σ δ n vs xs Q Q' R r h k=>by
 unfold jT at h
 split at h
 ·rename_i ds;cases r with
  |cons r1 r2=>
   cases r2;obtain⟨ay,ys,rfl,e1,e2,e3,e4⟩:=r1;refine⟨ay,ys,rfl,.inl (SqL.of e1),λl hl=>?_⟩;refine k _ _ _ n (R.new hl) (Kp.new hl) (wd (show RdX _ B _ (.list ds)from .lst bQ (R.nb hl) e3 ?_)) h;exact(e4.fresh hl).less λb z=>.inl z
 ·exact AG C H B σ δ n vs xs Q Q' R r h k
def bq:Wv->Wv->Int->DQ->Prop:=λx y n Q=>match x,y with
 |.ln ds,.d (.list [])=>Q (.d (.bool ds.isEmpty)) n
 |x,y=>a9 x y n Q
theorem ML:bO (kH K) bq:=λC H B σ δ n x y p q Q Q' R rx ry h1 k=>by
 unfold bq at h1
 split at h1
 ·rename_i ds;obtain⟨ax,xs,rfl,e1,e2,e3,e4⟩:=rx;cases(show RdX H B y (.list [])from ry)with
  |@lst ay ys _ f1 f2 f3 f4=>
   cases f4;refine .inr (.inr ⟨ax,ay,xs,rfl,rfl,SqL.of e1,SqL.of f1,?_⟩);have:xs.isEmpty=ds.isEmpty:=by cases e4<;>rfl
   rw[this];exact k _ _ H n R (Kp.refl _ _) (wd (.bl _)) h1
 ·exact uk C H B σ δ n x y p q Q Q' R rx ry h1 k
def gC:Wv->Option (List Aa)
 |.ln ds=>ae ds
 |.d (.list ds)=>ae ds
 |_=>ah
def dR:Wv->Wv->Int->DQ->Prop:=λx y n Q=>match gC x,gC y with
 |some i,ae j=>i.length+j.length<=Ay/\Q (.d (.list (i++j))) n
 |_,_=>False
theorem uL(h:WRel H B t v x)(e:gC x=ae ds):∃a xs,v=.ref a/\H a=ae (.lst xs)/\xs.length<=Ay/\RdXs H B xs ds:=by
 cases x with
 |ln es=>
  cases e;obtain⟨a,xs,h1,h2,h3,h4,h5⟩:=h;exact⟨a,xs,h1,h2,h4,h5⟩
 |d y=>
  cases y with
  |list es=>
   cases e;cases(show RdX H B v (.list ds)from h)with
   |@lst a xs _ e1 e2 e3 e4=>exact⟨a,xs,rfl,e1,e3,e4⟩
  |_=>cases e
 |tp=>cases e
 |dk _=>cases e
 |ob _=>cases e
theorem Rp:bO j4 dR:=λC H B σ δ n x y p q Q Q' R rx ry h1 k=>by
 unfold dR at h1
 split at h1
 ·rename_i i j ei ej;obtain⟨ax,xs,rfl,e1,e3,e4⟩:=uL rx ei;obtain⟨ay,ys,rfl,f1,f3,f4⟩:=uL ry ej;obtain⟨hl,q⟩:=h1;have hl':xs.length+ys.length<=Ay:=by rw[e4.len,f4.len];exact hl
  refine⟨ax,ay,xs,ys,rfl,rfl,e1,f1,hl',λpn hp=>?_⟩;refine k _ _ _ n (R.new hp) (Kp.new hp) (wd (show RdX _ B _ (.list (i++j))from .lst bQ (R.nb hp) (by rw[Af];exact hl') ?_)) q;exact((e4.append f4).fresh hp).less λb z=>.inl z
 ·exact h1.elim
theorem Lz(ha:DE X a ta wa)(hb:DE X b tb wb):DE X (.BinOp a .Add b pos) (dz j4 ta tb) (w2 wa wb dR):=iO GC Rp ha hb
end
section
variable{X:Cx}{a b c e o i f:Expr}{ta tb te td ty tx:TE}{wa wb we wd' wy wx:DT}{pos p:Pos}{K:Ag}
def cX(w:DT)(g:eU):aR:=λδ n K=>w δ n λx n1=>match x with
 |.d d=>g d δ λδ'=>K.nx δ' n1
 |_=>False
theorem M6(he:DE X e te we)(hg:DG X tg g gd)(hs:swapsWithSole [tg] e pos.line X.env=pure aj:=by rfl)(hw:swappedStores [tg] e X.env=pure ah:=by rfl)
  (h1:(Cq [tg] X.env).map (·.2)=[Gj tg X.env]:=by rfl):DS X (.Assign [tg] e pos) (c8 te g) (cX we gd):=⟨nL he.pe hg.pg hs hw h1,λC H B σ δ n K D R q E=>
 he.sd C H B σ δ n _ _ R q λv x H1 n1 R1 k1 r1 q1=>by
  cases x with
  |d d=>exact hg.sd C H1 B σ δ n1 v d _ _ R1 r1 q1 λσ' δ' R' q'=>E.nx _ _ _ _ _ R' q'
  |tp=>exact q1.elim
  |dk _=>exact q1.elim
  |ln _=>exact q1.elim
  |ob _=>exact q1.elim⟩
def ql:Wv->Option (List Aa)
 |.ln ds=>ae ds
 |.d (.list ds)=>ae ds
 |.d (.tuple ds)=>ae ds
 |_=>ah
theorem Sq(h:WRel H B t v x)(e:ql x=ae ds):∃a xs,v=.ref a/\(SqL K H a xs\/SqT K H a xs)/\xs.length<=Ay/\RdXs H B xs ds:=by
 cases x with
 |ln es=>
  cases e;obtain⟨a,xs,h1,h2,h3,h4,h5⟩:=h;exact⟨a,xs,h1,.inl (SqL.of h2),h4,h5⟩
 |d y=>
  cases y with
  |list es=>
   cases e;cases(show RdX H B v (.list ds)from h)with
   |@lst a xs _ e1 e2 e3 e4=>exact⟨a,xs,rfl,.inl (SqL.of e1),e3,e4⟩
  |tuple es=>
   cases e;cases(show RdX H B v (.tuple ds)from h)with
   |@tup a xs _ e1 e2 e3 e4=>exact⟨a,xs,rfl,.inr (SqT.of e1),e3,e4⟩
  |_=>cases e
 |tp=>cases e
 |dk _=>cases e
 |ob _=>cases e
def qO(w:DT):fN:=λδ n Q=>w δ n λx n1=>match ql x with
 |some ds=>Q ds n1
 |none=>False
theorem Qm(hg:Gl X "list")(hm:X.mg "list"=ah)(ho:DE X o td wd')(hK:X.K=K:=by rfl)(he:Az [o] X.env=(aj,eval o X.env)::Az [] X.env:=by rfl)(hpl:(Dj pos (Az [] X.env)).any (·.1)=aj:=by rfl):
  DF X (.Call (.Name "list" p) [o] [] pos) (fY (sC K) (c7 td bL)) (qO wd'):=
 ⟨mQ (xy hK) hg hm ou (dF ho.pe fI he) ∎ ∎ he hpl,λC H B σ δ n Q Q' R q k=>ho.sd C H B σ δ n _ _ R q λv x H1 n1 R1 k1 r1 q1=>by
  split at q1
  ·rename_i ds ex;obtain⟨a,xs,rfl,h1,h2,h3⟩:=Sq (K:=K) r1 ex;refine⟨a,xs,rfl,h1,λl hl=>?_⟩;exact k l xs ds _ n1 (R1.new hl) (k1.trans (Kp.new hl)) (R1.was k1 hl) bQ h2 (h3.fresh hl) q1
  ·exact q1.elim⟩
def g9:List Wv->Int->DQ->Prop:=λxs n Q=>match xs with
 |[.ln ds]=>Q ‹ds› n
 |xs=>fq xs n Q
theorem Kb:dM (rR K) g9:=λC H B σ δ n vs xs Q Q' R r h k=>by
 unfold g9 at h
 split at h
 ·rename_i ds;cases r with
  |cons r1 r2=>
   cases r2;obtain⟨ay,ys,rfl,e1,e2,e3,e4⟩:=r1;refine⟨ay,ys,rfl,.inl ⟨SqL.of e1,λl hl=>?_⟩⟩;refine k _ _ _ n (R.new hl) (Kp.new hl) (wd (show RdX _ B _ (.tuple ds)from .tup bQ (R.nb hl) e3 ?_)) h;exact(e4.fresh hl).less λb z=>.inl z
 ·exact HI C H B σ δ n vs xs Q Q' R r h k
def Ru(i:Nat)(w:DT):aR:=λδ n K=>match δ[i]? with
 |some (ae (.own ds))=>w δ n λx n1=>match x with
  |.d (.list es)=>(ds.length < 1000000/\es.length < 1000000)/\K.nx (δ.set i (ae (.own (ds++es)))) n1
  |_=>False
 |_=>False
theorem O8(h:n < 1000000)(h':m < 1000000):n+m<=Ay:=by
 have:2000000<=Ay:=by decide
 omega
theorem Q1(H)(B):RdXs H B tY kR:=.cons .non (.cons .non (.cons .non (.cons (.int _) (.cons (.int _) (.cons (.int _) (.cons (.int _) .nil))))))
def gm(i:Nat):DT:=λδ n Q=>match δ[i]? with
 |some (ae (.w .tp))=>Q (.ln kR) n
 |_=>False
theorem Qn(i){x:Str}{ix:Int}{p p2:Pos}{jj}(hK:X.K=K:=by rfl)(hN:X.N[i]?=ae x:=by rfl)(hv:gh X.env.scope x:=by first|exact C4 rfl|exact B9 (C4 rfl)|exact B9 (B9 rfl))(hd:(x==("__debug__":Str))=aj:=by decide)
  (hcd:(x==("__classdict__":Str))=aj:=by decide):DE X (.Subscript (.Name x p) (.Constant (.int 3) jj p2) pos) (dz (gR K) (bw i) (tC (.int 3))) (gm i):=by
 subst hK;refine⟨iS uZ (iY hN hv hd hcd) dg (λ_ _=>rfl),λC H B σ δ n Q Q' R h k=>?_⟩;unfold gm at h
 split at h
 ·rename_i e;obtain⟨v,h1,h2⟩:=R.sl i _ e;cases(show v=.ref C.t from h2.1);obtain⟨a,b,ho,_⟩:=R.tp.ob;refine⟨_,h1,.inl ⟨C.t,_,3,.ref C.l.g,rfl,rfl,SqL.of ho,fQ (j:=3) rfl,k _ (.ln kR) H n R (Kp.refl _ _) ⟨C.l.g,tY,rfl,R.tp.ag rfl,R.tp.gne,by decide,Q1 _ _⟩ h⟩⟩
 ·exact h.elim
end
section
variable{X:Cx}{e:Expr}{st:Stmt}{sts:List Stmt}
def vi:aR:=λ_ _ _=>False
theorem Tt:DSs X sts (λ_ _ _=>False) vi:=⟨λ_ _ _ _ _ _ h=>h.elim,λ_ _ _ _ _ _ _ _ _ h _=>h.elim⟩
end
end DL
namespace L2
open PySem PySem.Spec PyProof.Rows
end L2
namespace DL
open PySem L2 Nb
end DL
namespace HT
open PySem PyProof.Rows
open PySem.SeqAt
open PySem.AutoSeq1 (wpAny_loadPart')
open PySem.MeetsSeq PySem.MeetsSeq2 PySem.MeetsSeq3
section
variable{prog:Bp}{w:B7}{A:Ck}{E:Ak->Ar->Prop}{s:Ar}
theorem getItem_tuple_whole{lo hi:Option Int}(ht:IsTup s.heap t items)(hs:s.heap.IsSliceOf sl vl vu .none)(pl:IsPart vl lo)(pu:IsPart vu hi)
  (h0:sIx items.size 0 lo=0) (h1:sIx items.size items.size hi=items.size) (h:Q (.ref t) s):A5 (Bi prog w) A (getItem (.ref t) (.ref sl)) Q E s:=by
 obtain⟨os,hos,hcs,hds⟩:=id hs;have hTs:s.TypeIs (.ref sl) "slice":=⟨os,hos,hcs⟩;unfold getItem
 try with_reducible refine Ct ?_
 first|refine Ad (Aw ?_)|skip
 refine Ad (wpAny_sequenceKey ht.typeIs ∎ ?_);refine Ad (Cp (name:=Dm "__getitem__") ht.typeIs C0
  (Dk C0 ht.typeIs entry_tuple_getitem ?_ (args_tuple_getitem _ _)))
 show A5 _ _ (Gg (.ref t)>>=_) _ _ s;refine Ad (tupleItemsOf_ ht ?_);refine Ad (Fx hTs ?_);rw[if_pos ∎];refine Ad (JC hs pl pu ?_);have hyes:(((sIx items.size 0 lo:Nat):Int)==0&&(1:Int)==1&&(sIx items.size items.size hi-sIx items.size 0 lo)==items.size)=ai:=by
  rw[h0,h1];simp
 show A5 _ _ (if (((sIx items.size 0 lo:Nat):Int)==0&&(1:Int)==1&&(sIx items.size items.size hi-sIx items.size 0 lo)==items.size)=ai then _ else _) _ _ s;rw[if_pos hyes];unfold Builtin.Tuple.tupleIsExact;refine Ad (Ad (Fx ht.typeIs (Aw ?_)));rw[if_pos ∎];exact Ad (wpAny_rule (Aw ⟨_,rfl,Aw h⟩))
end
end HT
namespace L2
open PySem PySem.Spec PyProof.Rows
def qh(K:Ag):V->Option Int->Option Int->Hp->VK->Prop:=λx lo hi H Q=>∃a xs,x=.ref a/\SqT K H a xs/\HT.sIx xs.length 0 lo=0/\HT.sIx xs.length xs.length hi=xs.length/\Q (.ref a) H
theorem Og:SlR X (qh X.K):=by
 intro pins s σ H x v vl vu lo hi sl Q I rx hs pl pu h;obtain⟨a,xs,rfl,hx,h0,h1,q⟩:=h;cases rx;obtain⟨its,r,ht,hz⟩:=I.tuple hx;have hlen:its.toArray.size=xs.length:=by rw[A3];exact r.length.symm
 refine⟨"tuple",_,PyProof.Rows.slot_tuple_getitem.lookup,ht.typeIs,?_⟩;exact HT.getItem_tuple_whole ht hs pl pu (by rw[hlen];exact h0) (by rw[hlen];exact h1) ⟨.ref a,H,I,rfl,q⟩
end L2
namespace DL
open PySem L2 Nb
section
variable{X:Cx}{e:Expr}{te:TE}{we:DT}{pos p2:Pos}{K:Ag}{lo hi:Option Expr}
abbrev jW:=Sl->Int->(Option Int->Int->Prop)->Prop
def cF:jW:=λ_ n Q=>Q ah n
def cy(w:DT):jW:=λδ n Q=>w δ n λx n1=>match x with
 |.d (.int i)=>Q (ae i) n1
 |_=>False
def SY(t:TO)(w:jW):Prop:=∀(C:Ctx)(H:Hp)(B:Addr->Prop)(σ:St)(δ:Sl)(n:Int)(Q:Option Int->Int->Prop)(Q':Option Int->Hp->Prop),Rel C H B σ δ n->w δ n Q->
 (∀o H' n',Rel C H' B σ δ n'->Kp C.t H H'->Q o n'->Q' o H')->t σ H Q'
structure DOp(X:Cx)(o:Option Expr)(t:TO)(w:jW):Prop where
 po:PO X o t
 sd:SY t w
theorem Qx:DOp X ah Hu cF:=⟨zI,λC H B σ δ n Q Q' R q k=>k ah H n R (Kp.refl _ _) q⟩
theorem L6(h:DE X e te we):DOp X (ae e) (IC te) (cy we):=⟨AW h.pe,λC H B σ δ n Q Q' R q k=>h.sd C H B σ δ n _ _ R q λv x H1 n1 R1 k1 r1 q1=>by
 split at q1
 ·rename_i i;cases(show RdX H1 B v (.int i)from r1);exact⟨i,rfl,k (ae i) H1 n1 R1 k1 q1⟩
 ·exact q1.elim⟩
def bo(xs:List Aa)(lo hi:Option Int):List Aa:=(xs.drop (HT.sIx xs.length 0 lo)).take (HT.sIx xs.length xs.length hi-HT.sIx xs.length 0 lo)
def dN(w:DT)(l u:jW):DT:=λδ n Q=>w δ n λx n1=>l δ n1 λa n2=>u δ n2 λb n3=>match x with
 |.d (.tuple ds)=>Q ‹(bo ds a b)› n3
 |_=>False
def uG(K:Ag):V->Option Int->Option Int->Hp->VK->Prop:=λx lo hi H Q=>oX K x lo hi H Q\/qh K x lo hi H Q
theorem LF(he:DE X e te we)(hl:DOp X lo tl wl)(hh:DOp X hi th wh)(hK:X.K=K:=by rfl):DE X (.Subscript e (.Slice lo hi ah p2) pos) (rD (uG K) te tl th) (dN we wl wh):=by
 subst hK;refine⟨sj (sl_tup.or Og) he.pe hl.po hh.po,λC H B σ δ n Q Q' R q k=>he.sd C H B σ δ n _ _ R q λv x H1 n1 R1 k1 r1 q1=>
  hl.sd C H1 B σ δ n1 _ _ R1 q1 λa H2 n2 R2 k2 q2=>hh.sd C H2 B σ δ n2 _ _ R2 q2 λb H3 n3 R3 k3 q3=>?_⟩
 split at q3
 ·rename_i ds;have r3:RdX H3 B v (.tuple ds):=(r1.kp k2 R1.bt).kp k3 R2.bt;cases r3 with
  |@tup aa xs _ e1 e2 e3 e4=>
   have kk:=(k1.trans k2).trans k3;by_cases hw:HT.sIx xs.length 0 a=0/\HT.sIx xs.length xs.length b=xs.length
   ·refine .inr ⟨aa,xs,rfl,SqT.of e1,hw.1,hw.2,k _ _ H3 n3 R3 kk (wd (show RdX H3 B _ (.tuple ds)from .tup e1 e2 e3 e4)) ?_⟩;have:bo ds a b=ds:=by
     unfold bo;rw[<-e4.len,hw.1,hw.2,Fh,Nat.sub_zero,e4.len,List.take_length]
    rw[this]at q3;exact q3
   ·refine .inl ⟨aa,xs,rfl,SqT.of e1,hw,λp hp=>?_⟩;refine k _ _ _ n3 (R3.new hp) (kk.trans (Kp.new hp)) (wd (show RdX _ B _ (.tuple (bo ds a b))from .tup bQ (R3.nb hp) (A4 (pd xs a b) e3) ?_)) q3;unfold bo fg;rw[<-e4.len];exact(((e4.drop _).take _).fresh hp).less λb z=>.inl z
 ·exact q3.elim
end
end DL
namespace Nb
open PySem L2
end Nb
namespace DL
open PySem L2 Nb
section
variable{X:Cx}{tg a b c e o i f:Expr}{ta tb te td ty tx:TE}{wa wb we wd' wy wx:DT}{pos p:Pos}{K:Ag}
def V3(i:Nat)(w:DT):aR:=λδ n K=>match δ[i]? with
 |some (ae (.own ds))=>w δ n λx n1=>match x with
  |.d (.tuple es)=>(ds.length < 1000000/\es.length < 1000000)/\K.nx (δ.set i (ae (.own (ds++es)))) n1
  |_=>False
 |_=>False
def jn(hs:List Str)(w:DT):DT:=λδ n Q=>w δ n λx n1=>match x with
 |.d a=>fL a=ai/\Q (.d (.bool (b8 a (hs.map .str)))) n1
 |_=>False
theorem Qd(hl:∀h∈hs,h.length<=1000)(hq:∀H,SqT K H q (hs.map V.str))(h:fe ta wa):fe (dz (jg K aj) ta (tC (.ref q))) (jn hs wa):=λC H B σ δ n Q Q' R z k=>
 h C H B σ δ n _ _ R z λv x H1 n1 R1 k1 r1 q1=>by
  split at q1
  ·rename_i da;have r1:RdX H1 B v da:=r1;have rs:RdXs H1 B (hs.map V.str) (hs.map .str):=w8 hl;refine⟨q,_,rfl,.inr (hq H1),mG r1 q1.1,lR rs ?_,k _ _ H1 n1 R1 k1 (wd (.bl _)) ?_⟩
   ·rw[List.all_map];exact Dh.mpr λ_ _=>rfl
   ·rw[mR r1 rs];exact q1.2
  ·exact q1.elim
theorem RN{xp:Pos}(ha:DE X a ta wa)(hg:Gl X x)(hm:X.mg x=ae (.ref q))(hq:∀H,SqT K H q (hs.map V.str))(hl:∀h∈hs,h.length<=1000:=by decide +kernel)(hK:X.K=K:=by rfl)(hd:(x==("__debug__":Str))=aj:=by decide)
  (hmk:Ci .In (Expr.Name x xp)=aj:=by with_unfolding_all rfl):DC X (.Compare a [.In] [.Name x xp] pos) (jv (dz (jg K aj) ta (tC (.ref q)))) (cT (jn hs wa)):=
 ⟨j6 (xm hK) ha.pe (pJ hg hm rfl hd) hmk,lE (Qd hl hq ha.sd)⟩
end
abbrev d3:=List Wv->Int->(List Aa->Int->Prop)->Prop
def nO(S:d3):Sp:=λvs H Q _=>∃(t:Addr)(l:TL)(ns:List Int)(B:Addr->Prop)(ws:List Wv)(n:Int)(Q0:List Aa->Int->Prop),Tp H t l ns n/\B t/\(∀b,B b->H b≠ah)/\ARel H B t vs ws/\S ws n Q0 /\
 ∀ds n',Q0 ds n'->∀a xs H',Tp H' t l ns n'->Kp t H H'->H a=ah->H' a=ae (.lst xs)->xs.length<=Ay->RdXs H' (λb=>B b\/b=a) xs ds->Q (.ref a) H'
section
variable{X:Cx}{e:Expr}{es:List Expr}{pos p:Pos}{tR:TA}{wR:eZ}{te:TE}{we:DT}
def kr(S:d3)(w:eZ):fN:=λδ n Q=>w δ n λxs n1=>S xs n1 Q
theorem Pc(h:ky t w):ke (jP (nO S) [] E0 t) (kr S w):=λC H B σ δ n Q Q' R q k=>
 h C H B σ δ n _ _ R q λvs xs H1 n1 R1 k1 r1 q1=>by
  refine⟨C.t,C.l,C.ns,B,xs,n1,Q,R1.tp,R1.bt,R1.ba,by rw[Bm];exact r1,q1,λds n' q2 a ys H' T' k' h0 h1 h2 h3=>?_⟩;exact k a ys ds H' n' (R1.step T' k') (k1.trans k') (R1.was k1 h0) h1 h2 h3 q2
structure HasN(P:Bp)(w:B7)(K:Ag)(mg:Str->Option Ak)(base:Heap)(k:Nat)(x:Str)(ps:List Str)(S:d3):Prop where
 ex:∃(f:Addr)(fd:C1),FnOk P w K mg base dU k f fd ps (nO S)/\Binds K fd ps []/\mg x=ae (.ref f)/\C3 K (.ref f)=ai
theorem HasN.mk'(F:Fun K x qual st f fd)(m:mg x=ae (.ref f))(b:Binds K fd ps [])(h:FnOk P w K mg base dU k f fd ps (nO S)):HasN P w K mg base k x ps S:=⟨f,fd,h,b,m,F.kp⟩
theorem KQ(h:HasN X.prog X.w X.K X.mg X.base k x ps S)(hr:Room k X.A)(hg:Gl X x)
  (ha:DA X (e::es) tR wR) (hdb:(x==("__debug__":Str))=aj:=by decide) (he:Az (e::es) X.env=(aj,eval e X.env)::Az es X.env:=by rfl) (hpl:(Dj pos (Az es X.env)).any (·.1)=aj:=by rfl):
  DF X (.Call (.Name x p) (e::es) [] pos) (jP (nO S) [] E0 tR) (kr S wR):=by
 obtain⟨f,fd,h1,h2,h3,h4⟩:=h.ex;exact⟨xc h1 hr hg h3 h4 h2 .nil yP ha.pa hdb he hpl,Pc ha.sd⟩
def oE(w:fN):aR:=λδ n K=>w δ n K.rn
theorem UP(h:DF X e te w):DS X (.Return (ae e) pos) (jo te) (oE w):=⟨mI h.pe,λC H B σ δ n K D R q E=>
 h.sd C H B σ δ n _ _ R q λa xs ds H' n' R' k' h0 h1 h2 h3 q'=>E.rn H' B σ δ n' a xs ds R' (R.h0 h0) h1 h2 h3 q'⟩
def yE(i:Nat):aR:=λδ n K=>match δ[i]? with
 |some (ae (.own ds))=>K.rn ds n
 |_=>False
theorem LJ(i){xp:Pos}(hN:X.N[i]?=ae x:=by rfl)(hv:gh X.env.scope x:=by first|exact C4 rfl|exact B9 (C4 rfl)|exact B9 (B9 rfl))(hd:(x==("__debug__":Str))=aj:=by decide)
  (hcd:(x==("__classdict__":Str))=aj:=by decide):DS X (.Return (ae (.Name x xp)) pos) (jo (bw i)) (yE i):=⟨mI (iY hN hv hd hcd),λC H B σ δ n K D R q E=>by
 unfold yE at q
 split at q
 ·rename_i ds ei;obtain⟨v,hv,a,xs,rfl,e2,e3,e4,e5,e6⟩:=R.sl i _ ei;exact⟨_,hv,E.rn H B σ δ n a xs ds R e4 e2 e5 (e6.less λb z=>z.elim id λe=>e▸e3) q⟩
 ·exact q.elim⟩
theorem RdXs.rev:∀{vs:List V}{ds:List Aa},RdXs H B vs ds->RdXs H B vs.reverse ds.reverse
 |_,_,.nil=>.nil
 |_,_,.cons h r=>by
  rw[List.reverse_cons,List.reverse_cons];exact(RdXs.rev r).append (.cons h .nil)
end
section
variable{P:Bp}{w:B7}{K:Ag}{mg:Str->Option Ak}{base:Heap}
theorem Fun.okN(F:Fun K x qual st f fd)(Sc:FnScope N ps (dO st))(len:∀ws n Q,S ws n Q->ws.length=ps.length)
  (hbody:∀(cdv:Ak)(A:Ck)(outer:List Env)(s:Ar)(H:Hp)(E:XK),Room k (A.deeper (D6 qual (dO st) s.heap.objs.size f cdv))->
   ∃T W,DSs (d8 dU P w K mg base N qual (dO st) f cdv A outer s H E).nox (gS st) T W/\∀ws n Q,S ws n Q->W (iE N ws) n {nx:=λ_ _=>False,rt:=λ_ _=>False,rn:=Q}):FnOk P w K mg base dU (k+1) f fd ps (nO S):=by
 refine F.ok Sc (λvs H Q E h=>?_) (λcdv A outer s H vs Q E hr h=>?_)
 ·obtain⟨t,l,ns,B,ws,n,Q0,_,_,_,r,q,_⟩:=h;rw[r.len];exact len ws n Q0 q
 ·obtain⟨t,l,ns,B,ws,n,Q0,T,bt,ba,r,q,kk⟩:=h;obtain⟨T',W,d,hw⟩:=hbody cdv A outer s H E hr;refine⟨T',d.ps,d.sd ⟨t,l,ns,H,B,λ_=>ah⟩ H B _ _ n _ _ (I0 T bt ba r) (hw ws n Q0 q) ⟨?_,?_,?_,?_,?_⟩⟩
  ·exact λ_ _ _ _ _ _ z=>z.elim
  ·exact λ_ _ _ _ _ _ _ _ _ z=>z.elim
  ·exact λ_ _ _ _ _ _ z=>z.elim
  ·exact λ_ _ _ _ _ _ z=>z.elim
  ·exact λH' B' σ δ n' a xs ds R' h0 h1 h2 h3 q'=>kk _ _ q' a xs H' R'.tp R'.kp h0 h1 h2 (h3.less λb z=>z.elim (λz=>.inl (R'.b0 b z)) .inr)
end
end DL
namespace Nb
open PySem L2
def hU(K:Ag)(q:Addr)(D:List (Str×Str)):Prop:=(q==En)=aj/\∃(o:Obj)(es:Array DictEntry)(ep:Nat),K.lookup q=ae o/\o.ExactDict/\o.data=.dict es ep/\PyProof.Rows.KTD.Rows (λ(d:Str) v=>∃t,v=.str d t) es.toList D
def gV(D:List (Str×Str)):List (Str×PyProof.Rows.KTD.Dat):=D.map λp=>(p.1,.flat (.str p.2))
theorem JL(k):∀D:List (Str×Str),Be k (gV D)=(Be k D).map λs=>.flat (.str s)
 |[]=>rfl
 | (x,s)::D=>by
  show(if decide (k=x)=ai then ae _ else Be k (gV D))=Option.map _ (if decide (k=x)=ai then ae s else Be k D);rw[JL k D]
  split<;>rfl
theorem ze(k)(D):PyProof.Rows.KTD.inKeys k (gV D)=(Be k D).isSome:=by
 rw[<-PyProof.Rows.KTD.isSome_datumAt,JL,F5]
theorem ER:∀D:List (Str×Str),(∀s,Be k D=ae s->∀t,P (.str s t))->PyProof.Rows.KTD.EachL h k P (gV D)
 |[],_=>trivial
 | (x,s)::D,hp=>by
  by_cases hx:k=x
  ·refine PyProof.Rows.KTD.eachL_hit hx (PyProof.Rows.KTD.opened_str λt=>hp s ?_ t);show(if decide (k=x)=ai then ae s else Be k D)=ae s;rw[if_pos (decide_eq_true hx)]
  ·refine PyProof.Rows.KTD.eachL_miss hx (ER D λs' hs' t=>hp s' ?_ t);show(if decide (k=x)=ai then ae s else Be k D)=ae s';rw[if_neg (by simp[hx])];exact hs'
theorem HL:∀D:List (Str×Str),((gV D).all λp=>PyProof.Rows.KTD.plain p.2)=ai
 |[]=>rfl
 |_::D=>by
  show(ai&&(gV D).all λp=>PyProof.Rows.KTD.plain p.2)=ai;rw[HL D];rfl
section
variable{X:Cx}{pins:List (Addr×Obj)}{σ:St}{H:Hp}{s:Ar}{q:Addr}{D:List (Str×Str)}
theorem JS(I:Inv X pins σ H s)(h:hU X.K q D):PyProof.Rows.KTD.Here s.heap s.heap q (gV D):=by
 obtain⟨h1,o,es,ep,hk,h2,h3,h4⟩:=h;exact⟨⟨h1,o,es,ep,I.kIn q o hk,h2,h3,PyProof.Rows.KTD.Rows.mono (f:=λd:Str=>PyProof.Rows.KTD.Dat.flat (.str d)) (R':=PyProof.Rows.KTD.Dat.At s.heap) (λd v ⟨t,e⟩=>by subst e;exact PyProof.V.Flat.str _ _) h4⟩,λ_ _ e=>e⟩
def md(K:Ag):R2:=λx y H Q=>∃k q D d,x=.ref q/\y=.str k/\hU K q D/\Be k D=ae d/\Q (.str d) H
theorem OH:IxR X (md X.K):=by
 intro value slice pins s σ H x y v u Q I rx ry h hs;obtain⟨k,q,D,d,rfl,rfl,hT,hd,hq⟩:=h;obtain⟨t,rfl⟩:=ry;cases rx;refine PyProof.Rows.KTD.item_textA (JS I hT) (HL D) (by rw[ze,hd];rfl) (ER D λd' hd' t'=>?_) hs;rw[hd]at hd';cases hd';exact⟨.str d,H,I.kept (t':=s.toks+1) λ_ _ e=>e,⟨t',rfl⟩,hq⟩
end
end Nb
namespace DL
open PySem L2 Nb
section
variable{X:Cx}{a b c e o i f:Expr}{ta tb te ty:TE}{wa wb we wy:DT}{pos p xp:Pos}{K:Ag}{D:List (Str×Str)}{q:Addr}{x:Str}
def LY(D:List (Str×Str))(w:DT):DT:=λδ n Q=>w δ n λx n1=>match x with
 |.d (.str k)=>Q (.d (.bool (Be k D).isSome)) n1
 |_=>False
def jt(D:List (Str×Str))(w:DT):DT:=λδ n Q=>w δ n λx n1=>match x with
 |.d (.str k)=>match Be k D with
  |some s=>s.length<=1000/\Q (.d (.str s)) n1
  |none=>False
 |_=>False
theorem R8(h:n<=1000):n<=Ay:=A4 h ∎
theorem QY(hK:X.K=K:=by rfl):IxR X (md K):=by subst hK;exact OH
theorem Np(hi:DE X i ty wy)(hg:Gl X x)(hm:X.mg x=ae (.ref q))(hq:hU K q D)(hs:nH i:=by exact λ_ _=>rfl)(hK:X.K=K:=by rfl)(hd:(x==("__debug__":Str))=aj:=by decide):
  DE X (.Subscript (.Name x xp) i pos) (dz (md K) (tC (.ref q)) ty) (jt D wy):=⟨iS (QY hK) (pJ hg hm rfl hd) hi.pe hs,λC H B σ δ n Q Q' R z k=>
 hi.sd C H B σ δ n _ _ R z λv x H1 n1 R1 k1 r1 q1=>by
  split at q1
  ·rename_i key
   split at q1
   ·rename_i s es;cases(show RdX H1 B v (.str key)from r1);exact⟨key,q,D,s,rfl,rfl,hq,es,k _ _ H1 n1 R1 k1 (wd (.str _ (R8 q1.1))) q1.2⟩
   ·exact q1.elim
  ·exact q1.elim⟩
end
end DL
namespace L2
open PySem PySem.Spec PyProof.Rows PySem.SeqAt PySem.W
end L2
namespace L2
open PySem PySem.Spec PyProof.Rows
end L2
namespace L2
open PySem PySem.Spec PyProof.Rows PySem.W
end L2
namespace L2
open PySem PySem.Spec PyProof.Rows
end L2
namespace L2
open PySem PySem.Spec PyProof.Rows PySem.SeqAt PySem.W
section
variable{X:Cx}
theorem MK(hh:X.A.handled=ah):CallR X (.builtin "max") (λxs H Q=>∃i j,xs=[.int i,.int j]/\Q (.int (if j > i then j else i)) H):=by
 intro pins s σ H xs us Q I r h;obtain⟨i,j,rfl,q⟩:=h;obtain⟨u,w',rfl,⟨t,rfl⟩,⟨t',rfl⟩⟩:=qr r;refine max_two_ints hh λh' tk k=>⟨_,H,I.kept k,?_,q⟩;by_cases hj:j > i
 ·rw[if_pos hj,if_pos hj];exact⟨_,rfl⟩
 ·rw[if_neg hj,if_neg hj];exact⟨_,rfl⟩
def pI(neg:Bool):R2:=λx y H Q=>∃a b,x=.bl a/\y=.bl b/\Q (.bl (if neg then a != b else a==b)) H
theorem KA:OpR X (By .IsNot) (pI ai):=by
 intro pins s σ H x y v u Q I rx ry h;obtain⟨a,b,rfl,rfl,q⟩:=h;cases rx;cases ry;exact isnot_bool (dm I q rfl)
end
end L2
namespace DL
open PySem L2 Nb
section
variable{X:Cx}{a b c e o i f:Expr}{ta tb te td ty tx:TE}{wa wb we wd' wy wx:DT}{pos p:Pos}{K:Ag}
def L7(i:Nat)(wa wb:DT):aR:=λδ n K=>match δ[i]? with
 |some (ae (.own ds))=>wa δ n λx n1=>wb δ n1 λy n2=>match x,y with
  |.d (.int k),.d d=>(0<=k/\k<=ds.length/\ds.length < 1000)/\K.nx (δ.set i (ae (.own (ds.take k.toNat++d::ds.drop k.toNat)))) n2
  |_,_=>False
 |_=>False
def mz(neg:Bool):Wv->Wv->Int->DQ->Prop:=λx y n Q=>match x,y with
 |.d (.bool a),.d (.bool b)=>Q (.d (.bool (if neg then a != b else a==b))) n
 |_,_=>False
theorem VJ:bO (pI neg) (mz neg):=λC H B σ δ n x y p q Q Q' R rx ry h1 k=>by
 unfold mz at h1
 split at h1
 ·rename_i u v;cases(show RdX H B x (.bool u)from rx);cases(show RdX H B y (.bool v)from ry);exact⟨u,v,rfl,rfl,k _ _ H n R (Kp.refl _ _) (wd (.bl _)) h1⟩
 ·exact h1.elim
def pB(mx:Bool):List Wv->Int->DQ->Prop:=λxs n Q=>match xs with
 |[.d (.int i),.d (.int j)]=>Q (~~~(if mx then(if j > i then j else i)else(if j < i then j else i))) n
 |_=>False
theorem V2:dM (λxs H Q=>∃i j,xs=[V.int i,V.int j]/\Q (V.int (if j < i then j else i)) H) (pB aj):=λC H B σ δ n vs xs Q Q' R r h k=>by
 unfold pB at h
 split at h
 ·rename_i i j
  match vs,r with
  |[_,_],.cons r1 (.cons r2 .nil)=>
   cases(show RdX H B _ (.int i)from r1);cases(show RdX H B _ (.int j)from r2);exact⟨i,j,rfl,k _ _ H n R (Kp.refl _ _) (wd (.int _)) h⟩
 ·exact h.elim
theorem TQ:dM (λxs H Q=>∃i j,xs=[V.int i,V.int j]/\Q (V.int (if j > i then j else i)) H) (pB ai):=λC H B σ δ n vs xs Q Q' R r h k=>by
 unfold pB at h
 split at h
 ·rename_i i j
  match vs,r with
  |[_,_],.cons r1 (.cons r2 .nil)=>
   cases(show RdX H B _ (.int i)from r1);cases(show RdX H B _ (.int j)from r2);exact⟨i,j,rfl,k _ _ H n R (Kp.refl _ _) (wd (.int _)) h⟩
 ·exact h.elim
end
end DL
namespace L2
open PySem PySem.Spec PyProof.Rows PySem.SeqAt PySem.W
section
variable{X:Cx}
theorem nZ:∀{ds:List Aa},E2 ds=ai->∀d∈ds,B1 d=ai/\Bv d<=Fv ds
 |e::r,c,d,hd=>by
  rw[E2,A2]at c;rw[Fv];rcases Aq.mp hd with rfl|z
  ·exact⟨c.1,by omega⟩
  ·have:=nZ c.2 d z;exact⟨this.1,by omega⟩
end
end L2
namespace DL
open PySem L2 Nb
section
variable{X:Cx}{o:Expr}{td:TE}{wd':DT}{pos p p2:Pos}{K:Ag}
def vD:aO->Aa
 |.inl i=>.int i
 |.inr x=>.str x
def qw(k:List aO):Aa:=.tuple (k.map vD)
theorem zm{k:List aO}:∀{vs:List V},RdXs H B vs (k.map vD)->vs=k.map kV:=by
 induction k with
 |nil=>intro vs h;cases h;rfl
 |cons x k ih=>
  intro vs h;cases h with
  |cons h t=>
   rw[ih t];cases x with
   |inl i=>cases(show RdX H B _ (.int i)from h);rfl
   |inr x=>cases(show RdX H B _ (.str x)from h);rfl
end
end DL
namespace HT
open PySem PyProof.Rows
section
variable{prog:Bp}{w:B7}{A:Ck}{E:Ak->Ar->Prop}{s:Ar}
theorem Ug(n:Nat):Di ah ah (-1) (n:Int)=((n:Int)-1,-1):=by
 unfold Di;simp
theorem Ss(n:Nat):Cm ((n:Int)-1) (-1) (-1)=n:=by
 unfold Cm;simp only[show ¬((-1:Int) > 0) by decide,if_false];by_cases h:n=0
 ·subst h;rfl
 ·have h1:(-1:Int) < (n:Int)-1:=by omega
  have h2:((n:Int)-1 - -1-1) / - -1+1=(n:Int):=by simp;try omega
  have h3:((n:Int)-1 > -1):=by omega
  simp only[h3,if_true];rw[h2];exact Bs n
theorem Qs{n:Nat}(hs:s.heap.IsSliceOf sl .none .none (.int (-1) t))(h:Q ((n:Int)-1,-1,n) s):
  A5 (Bi prog w) A (Ew (.ref sl) (pure (n:Int))) Q E s:=by
 obtain⟨os,hos,hcs,hds⟩:=id hs;unfold Ew Builtin.Slice.sliceFields;refine Ad (Ad (Cb hos hds (x:=.none) rfl (Ad (Cb hos hds (x:=.none) rfl (Ad (Cb hos hds (x:=.int (-1) t) rfl (Aw ?_)))))));refine Ad (slicePart_int ?_);show A5 _ _ (if ((-1:Int)==0)=ai then _ else _) _ _ s;rw[if_neg ∎];refine Ad (slicePart_none (Ad (slicePart_none (Ad (Aw ?_)))));show A5 _ _ (match Di ah ah (-1) (n:Int)with|(lo,hi)=>pure (lo,(-1:Int),Cm lo hi (-1))) _ _ s;rw[Ug n];show A5 _ _ (pure ((n:Int)-1,(-1:Int),Cm ((n:Int)-1) (-1) (-1))) _ _ s;rw[Ss];exact Aw h
theorem Li(xs:Array Ak):((A8 xs.size).filterMap λ(m:Nat)=>xs[((xs.size:Int)-1+(m:Int)*(-1)).toNat]?).toArray=xs.toList.reverse.toArray:=by
 congr 1
 have e:∀m∈A8 xs.size,xs[((xs.size:Int)-1+(m:Int)*(-1)).toNat]?=ae (xs.getD (xs.size-1-m) B8):=λm hm=>by
  have hm:=Ce.mp hm;have e1:((xs.size:Int)-1+(m:Int)*(-1)).toNat=xs.size-1-m:=by omega
  have e2:xs.size-1-m < xs.size:=by omega
  rw[e1,B4 e2];simp[e2]
 have fm:∀l:List Nat,(∀m∈l,m∈A8 xs.size)->(l.filterMap λ(m:Nat)=>xs[((xs.size:Int)-1+(m:Int)*(-1)).toNat]?)=l.map λm=>xs.getD (xs.size-1-m) B8:=by
  intro l
  induction l with
  |nil=>intro _;rfl
  |cons m r ih=>
   intro hm;rw[Gv,e m (hm m As),Ba,ih λk hk=>hm k (Au _ hk)]
 rw[fm _ λm hm=>hm];apply D3
 ·simp
 ·intro i h1 h2;simp at h1;have:xs.size-1-i < xs.size:=by omega
  simp[List.getElem_reverse,this]
theorem getItem_tuple_rev(ht:IsTup s.heap t items)(hs:s.heap.IsSliceOf sl .none .none (.int (-1) tk))
  (h:Q (.ref s.heap.objs.size) {s with heap:=s.heap.push {cls:=.type "tuple",data:=.seq items.toList.reverse.toArray}}) (hsz:items.size<=Ay):A5 (Bi prog w) A (getItem (.ref t) (.ref sl)) Q E s:=by
 have htake:sizeOk (.seq items.toList.reverse.toArray):=by
  show items.toList.reverse.toArray.size<=Ay;rw[A3,Gt,Ef];exact hsz
 obtain⟨os,hos,hcs,hds⟩:=id hs;have hTs:s.TypeIs (.ref sl) "slice":=⟨os,hos,hcs⟩;unfold getItem
 try with_reducible refine Ct ?_
 first|refine Ad (Aw ?_)|skip
 refine Ad (wpAny_sequenceKey ht.typeIs ∎ ?_);refine Ad (Cp (name:=Dm "__getitem__") ht.typeIs C0
  (Dk C0 ht.typeIs entry_tuple_getitem ?_ (args_tuple_getitem _ _)))
 show A5 _ _ (Gg (.ref t)>>=_) _ _ s;refine Ad (tupleItemsOf_ ht ?_);refine Ad (Fx hTs ?_);rw[if_pos ∎];refine Ad (Qs hs ?_);have hno:¬(((items.size:Int)-1==0&&(-1:Int)==1&&items.size==items.size)=ai):=by
  intro q;rw[A2,A2]at q;exact absurd q.1.2 ∎
 show A5 _ _ (if ((items.size:Int)-1==0&&(-1:Int)==1&&items.size==items.size)=ai then _ else _) _ _ s;rw[if_neg hno,Li]
 first
  |exact Ad (m:=Cr _) (Cf (Aw ⟨_,rfl,Aw h⟩) htake)
  |exact Ad (m:=Cr _) (Cf (Ad (Aw (Aw ⟨_,rfl,Aw h⟩))) htake)
  |exact Ad (Ad (m:=Cr _) (Cf (Aw (Aw ⟨_,rfl,Aw h⟩)) htake))
  |exact Ad (Ad (m:=Cr _) (Cf (Aw ⟨_,rfl,Aw h⟩) htake))
end
end HT
namespace L2
open PySem PySem.Spec PyProof.Rows
section
variable{X:Cx}{e st:Expr}{te ts:TE}{pos p2:Pos}
def Ir(K:Ag)(te ts:TE):TE:=λσ H Q=>te σ H λx H1=>ts σ H1 λy H2=>∃a xs,x=.ref a/\y=.int (-1)/\SqT K H2 a xs/\∀p,H2 p=ah->Q (.ref p) (upd H2 p (.tup xs.reverse))
theorem To(he:PE X e te)(hs:PE X st ts)(hev:evalPart (ae st) X.env=eval st X.env:=by rfl):PE X (.Subscript e (.Slice ah ah (ae st) p2) pos) (Ir X.K te ts):=by
 intro pins s σ H Q I h;refine Subscript_ (aY (he pins s σ H _ I h) λv s1 ⟨x,H1,I1,r1,q1⟩=>?_);refine wpAny_Slice ?_;rw[evalPart_none];refine Aw (Aw ?_);rw[hev];refine aY (hs pins s1 σ H1 _ I1 q1) λvs s3 ⟨y,H3,I3,ry,a,xs,ex,ey,hx,q⟩=>?_;subst ex;subst ey;cases r1;obtain⟨tk,rfl⟩:=ry;have I4:Inv X pins σ H3 {s3 with heap:=s3.heap.push {cls:=.type "slice",data:=.fields #[.none,.none,.int (-1) tk]}}:=I3.kept (t':=s3.toks) λb ob q=>Ai _ q;obtain⟨its,r,ht,hz⟩:=I4.tuple hx;have hlen:its.toArray.size=xs.length:=by rw[A3];exact r.length.symm
 show A5 (Bi X.prog X.w) X.A (subscriptTail e (.Slice ah ah (ae st) p2) (.ref a) (.ref s3.heap.objs.size)) (EP X pins σ Q) X.xe {s3 with heap:=s3.heap.push {cls:=.type "slice",data:=.fields #[.none,.none,.int (-1) tk]}};refine tail_any (ops:=[.ref a,.ref s3.heap.objs.size]) ht.typeIs PyProof.Rows.slot_tuple_getitem.lookup (HT.getItem_tuple_rev ht (Heap.IsSliceOf.new ..) ?_ (by rw[hlen];exact hz)) (by with_unfolding_all rfl);refine⟨.ref _,_,I4.laid (t':=s3.toks) (o:=.tup xs.reverse) (λb ob q=>Ai _ q) (Al _) ?_,rfl,q _ (I4.hok.fresh (Al _))⟩;exact⟨by rw[Gt];exact hz,its.reverse,r.reverse,IsTupP.new _ _⟩
end
end L2
namespace DL
open PySem L2 Nb
section
variable{X:Cx}{a b c e o i f:Expr}{ta tb te td ty tx:TE}{wa wb we wd' wy wx:DT}{pos p p2 p3 p4:Pos}{K:Ag}
def mq(w:DT):DT:=λδ n Q=>w δ n λx n1=>match x with
 |.d (.tuple ds)=>Q ‹ds.reverse› n1
 |_=>False
theorem Ou{jj}(he:DE X e te we)(hK:X.K=K:=by rfl):DE X (.Subscript e (.Slice ah ah (ae (.UnaryOp .USub (.Constant (.int 1) jj p3) p4)) p2) pos) (Ir K te (xl (rU λi=>.int (-i)) (tC (.int 1)))) (mq we):=by
 subst hK;refine⟨To he.pe (FV GU dg),λC H B σ δ n Q Q' R q k=>he.sd C H B σ δ n _ _ R q λv x H1 n1 R1 k1 r1 q1=>?_⟩
 split at q1
 ·rename_i ds;cases(show RdX H1 B v (.tuple ds)from r1)with
  |@tup ay ys _ e1 e2 e3 e4=>
   refine⟨1,rfl,ay,ys,rfl,rfl,SqT.of e1,λp hp=>k _ _ _ n1 (R1.new hp) (k1.trans (Kp.new hp)) (wd (show RdX _ B _ (.tuple ds.reverse)from .tup bQ (R1.nb hp) (by rw[Gt];exact e3) ?_)) q1⟩;exact((RdXs.rev e4).fresh hp).less λb z=>.inl z
 ·exact q1.elim
end
end DL
namespace L2
open PySem PySem.Spec PyProof.Rows PySem.SeqAt
end L2
namespace DL
open PySem L2 Nb
end DL
namespace L2
open PySem PySem.Spec PyProof.Rows
end L2
namespace DL
open PySem L2 Nb
end DL
namespace L2
open PySem PySem.Spec PyProof.Rows
def uX(K:Ag):R2:=λx y H Q=>∃a b ys,x=.ref a/\y=.ref b/\SqT K H a []/\SqT K H b ys/\Q (.ref b) H
theorem Rg:OpR X (Ei .Add) (uX X.K):=by
 intro pins s σ H x y v u Q I rx ry h;obtain⟨a,b,ys,rfl,rfl,ha,hb,q0⟩:=h;cases(show v=A6 a from rx);cases(show u=A6 b from ry);obtain⟨its,r1,p1,_⟩:=I.tuple ha;obtain⟨its2,r2,p2,_⟩:=I.tuple hb;obtain⟨⟨cls,dd,data,sl⟩,ho,hc,n,hd⟩:=id p1;obtain⟨⟨cls2,dd2,data2,sl2⟩,ho2,hc2,n2,hd2⟩:=id p2;simp only at hc hd hc2 hd2;subst hc hd hc2 hd2;have hi:its=[]:=r1.nil_iff.mpr rfl;exact concat_meets ⟨_,ho,rfl⟩ ⟨_,ho2,rfl⟩ noFill_tuple_add seq_tuple_add F1 Fw (Fn _ _)
  (tuple_addW0 a b its.toArray its2.toArray n n2 dd dd2 sl sl2 (by simp[hi])) ⟨ho,ho2,⟨.ref b,H,I,rfl,q0⟩⟩
end L2
namespace DL
open PySem L2 Nb
section
variable{X:Cx}{a b:Expr}{ta tb:TE}{wa wb:DT}{pos p:Pos}{K:Ag}
def eG:Wv->Wv->Int->DQ->Prop:=λx y n Q=>match x,y with
 |.d (.tuple []),.d (.tuple j)=>Q ‹j› n
 |x,y=>gF x y n Q
theorem TV:bO (λx y H Q=>nY K x y H Q\/uX K x y H Q) eG:=λC H B σ δ n x y p q Q Q' R rx ry h1 k=>by
 unfold eG at h1
 split at h1
 ·rename_i j;cases(show RdX H B x (.tuple [])from rx)with
  |@tup ax xs _ e1 e2 e3 e4=>
   cases(show RdX H B y (.tuple j)from ry)with
   |@tup ay ys _ f1 f2 f3 f4=>
    cases e4;exact .inr ⟨ax,ay,ys,rfl,rfl,SqT.of e1,SqT.of f1,k _ _ H n R (Kp.refl _ _) (wd (show RdX H B _ (.tuple j)from .tup f1 f2 f3 f4)) h1⟩
 ·exact .inl (Ic C H B σ δ n x y _ _ Q Q' R rx ry h1 k)
theorem Tw(ha:DE X a ta wa)(hb:DE X b tb wb)(hK:X.K=K:=by rfl):DE X (.BinOp a .Add b pos) (dz (λx y H Q=>nY K x y H Q\/uX K x y H Q) ta tb) (w2 wa wb eG):=by
 subst hK;exact iO (op_addA.or Rg) TV ha hb
end
end DL
namespace L2
open PySem PySem.Spec PyProof.Rows
end L2
namespace DL
open PySem L2 Nb
end DL
namespace L2
open PySem PySem.Spec PyProof.Rows
end L2
namespace DL
open PySem L2 Nb
end DL
namespace L2
open PySem PySem.Spec PyProof.Rows
end L2
namespace DL
open PySem L2 Nb
end DL
namespace L2
open PySem PySem.Spec PyProof.Rows
end L2
namespace DL
open PySem L2 Nb
theorem Ti(ha:DE X a ta wa)(hb:DE X b tb wb):DE X (.BinOp a .Add b pos) (dz (gM λi j=>.int (i+j)) ta tb) (w2 wa wb (c6 λi j=>.int (i+j))):=iO op_add (Jp λ_ _ _ _=>.int _) ha hb
section
variable{X:Cx}{a b e o i f:Expr}{ta tb te td ty:TE}{wa wb we wd' wy:DT}{pos p p2:Pos}{K:Ag}
def pH:Wv->Wv->Int->DQ->Prop:=λx y n Q=>(∃d m,x=.ob (.q d m)/\((y=.d (.int 0)/\Q (.d d) n)\/(y=.d (.int 1)/\Q (.dk m) n)))\/az x y n Q
end
section
variable{X:Cx}{a b e o:Expr}{ta tb te td ty:TE}{wa wb we wd' wy:DT}{pos p p2:Pos}{K:Ag}{H:Hp}{B:Addr->Prop}{l:List (List aO×V)}{m:List (List aO×Aa)}
def iM(m:List (List aO×Aa))(k:List aO):Bool:=m.any λkv=>decide (kv.1=k)
def ij(m:List (List aO×Aa))(k:List aO)(d:Aa):List (List aO×Aa):=if iM m k=ai then m.map (λkv=>if kv.1=k then(kv.1,d)else kv)else m++[(k,d)]
theorem RdT.any(h:RdT H B l m)(k):(l.any λkv=>decide (kv.1=k))=iM m k:=by
 unfold RdT at h;unfold iM
 induction h with
 |nil=>rfl
 |cons r _ ih=>rw[Dc,Dc,ih,r.1]
theorem RdT.isSome(h:RdT H B l m)(k):(cK l k).isSome=iM m k:=by
 rw[<-h.any k];unfold cK;rw[F5,List.isSome_find?]
theorem RdT.len(h:RdT H B l m):l.length=m.length:=by
 unfold RdT at h
 induction h with
 |nil=>rfl
 |cons _ _ ih=>rw[Ap,Ap,ih]
theorem RdT.map(h:RdT H B l m)(r:RdX H B v d)(k):RdT H B (l.map λkv=>if kv.1=k then(kv.1,v)else kv) (m.map λkv=>if kv.1=k then(kv.1,d)else kv):=by
 unfold RdT at h ⊢
 induction h with
 |nil=>exact .nil
 |@cons p q ps qs z _ ih=>
  rw[Ba,Ba];refine .cons ?_ ih;by_cases e:p.1=k
  ·have e':q.1=k:=z.1▸e;rw[if_pos e,if_pos e'];exact⟨z.1,r⟩
  ·have e':¬q.1=k:=z.1▸e;rw[if_neg e,if_neg e'];exact z
theorem RdT.snoc(h:RdT H B l m)(r:RdX H B v d)(k):RdT H B (l++[(k,v)]) (m++[(k,d)]):=by
 unfold RdT at h ⊢
 induction h with
 |nil=>exact .cons ⟨rfl,r⟩ .nil
 |cons z _ ih=>exact .cons z ih
theorem RdT.put(h:RdT H B l m)(r:RdX H B v d)(k):RdT H B (cD l k v) (ij m k d):=by
 unfold cD ij;rw[h.any k]
 split
 ·exact h.map r k
 ·exact h.snoc r k
def r8(i:Nat):aR:=λδ n K=>K.nx (δ.set i (ae (.odt []))) n
theorem NQ(hN:X.N.Nodup)(hi:X.N[i]?=ae x)(hx:kh X.env.scope x)(hs:Ed (.Dict [] [] p) (ae (.Name x pos')) pos.line X.env=pure aj:=by rfl)(hf:X.fn x=ai\/X.env.scope.names.lookup x=ae .local:=by first|exact .inl rfl|exact .inr rfl|assumption):
  DS X (.Assign [.Name x pos'] (.Dict [] [] p) pos) (c8 JB (fi i)) (r8 i):=⟨jU hN hi hx PX hs hf,λC H B σ δ n K D R q E=>λa ha=>by
  refine E.nx _ _ _ _ _ (R.own (R.new ha) (Kp.new ha) ha (by rw[bQ];exact λz=>nomatch z) rfl ?_) q;exact⟨a,[],rfl,bQ,.inr rfl,R.h0 ha,Bo _,.nil⟩⟩
def sU(i:Nat)(w:DT):DT:=λδ n Q=>w δ n λx n1=>∃k kvs,x=.d (qw k)/\δ[i]?=ae (ae (.odt kvs))/\Q (.d (.bool !iM kvs k)) n1
theorem TJ(hi:DE X a ta wa):fe (nK ta (bw i)) (sU i wa):=λC H B σ δ n Q Q' R h k=>
 hi.sd C H B σ δ n _ _ R h λv x H1 n1 R1 k1 r1 q1=>by
  obtain⟨key,kvs,rfl,e,q⟩:=q1;obtain⟨w,h1,b,l,rfl,g2,g3,g4,g5,g6⟩:=R1.sl i _ e;refine⟨_,h1,?_⟩;cases(show RdX H1 B v (.tuple (key.map vD))from r1)with
  |@tup c zs _ i1 i2 i3 i4=>
   have ez:=zm i4;subst ez;refine⟨b,cK l key,rfl,DGet.t g2 i1,k _ _ H1 n1 R1 k1 (wd (.bl _)) ?_⟩;rw[g6.isSome key];exact q
theorem Uj{xp:Pos}(hu:X.A.units+64 < Fu)(hN:X.N[i]?=ae x)(hi:DE X a ta wa)(hv:gh X.env.scope x:=by first|exact C4 rfl|exact B9 (C4 rfl)|exact B9 (B9 rfl))(hd:(x==("__debug__":Str))=aj:=by decide)
  (hcd:(x==("__classdict__":Str))=aj:=by decide) (hm:Ci .NotIn (.Name x xp)=aj:=by with_unfolding_all rfl):DC X (.Compare a [.NotIn] [.Name x xp] pos) (jv (nK ta (bw i))) (cT (sU i wa)):=⟨GJ (uC ⋯ hi.pe (iY hN hv hd hcd)) hm,lE (TJ hi)⟩
def JN(i:Nat)(wy wv:DT):aR:=λδ n K=>wv δ n λv n1=>∃kvs,δ[i]?=ae (ae (.odt kvs))/\wy δ n1 λy n2=>∃k d,v=.d d/\y=.d (qw k)/\kvs.length < 1000/\K.nx (δ.set i (ae (.odt (ij kvs k d)))) n2
theorem OV{xp sp:Pos}(hu:X.A.units+64 < Fu)(hN:X.N[i]?=ae x)(hj:DE X j tj wj)(he:DE X e te we)(hv:gh X.env.scope x:=by first|exact C4 rfl|exact B9 (C4 rfl)|exact B9 (B9 rfl))(hd:(x==("__debug__":Str))=aj:=by decide)
  (hcd:(x==("__classdict__":Str))=aj:=by decide) (hs:Ed e (ae (.Subscript (.Name x xp) j sp)) pos.line X.env=pure aj:=by rfl):
  DS X (.Assign [.Subscript (.Name x xp) j sp] e pos) (vg (bw i) tj te) (JN i wj we):=
 ⟨Ji ⋯ (iY hN hv hd hcd) hj.pe he.pe hs,λC H B σ δ n K D R q E=>
  he.sd C H B σ δ n _ _ R q λu y H1 n1 R1 k1 r1 q1=>by
   obtain⟨kvs,ei,q1⟩:=q1;obtain⟨v,hv,a,l,rfl,e2,e3,e4,e5,e6⟩:=R1.sl i _ ei;refine⟨_,hv,hj.sd C H1 B σ δ n1 _ _ R1 q1 λw z H2 n2 R2 k2 r2 q2=>?_⟩;obtain⟨key,d,rfl,rfl,hl0,q2⟩:=q2;have hat:a≠C.t:=λz=>R.t0 (z▸e4);have e2':=k2 _ _ e2 hat;have r1':RdX H2 B u d:=RdX.kp k2 R1.bt r1;have e6':RdT H2 B l kvs:=e6.move λb o e n=>⟨k2 b o e λz=>n (z▸R1.bt),n⟩;have hl:l.length < 1000:=by rw[e6'.len];exact hl0
   cases(show RdX H2 B w (.tuple (key.map vD))from r2)with
   |@tup c zs _ i1 i2 i3 i4=>
    have ez:=zm i4;subst ez;refine⟨a,_,rfl,DPut.t e2' i1 (Bn hl (fc (Al _))),?_⟩;refine E.nx _ _ _ _ _ (R2.mutOwn ei rfl hv e3 e4 ?_ rfl) q2;refine⟨a,_,rfl,bQ,e3,e4,?_,?_⟩
    ·have:=sP l key u;omega
    ·exact(e6'.put r1' _).move λb o e n=>⟨by rw[aW λ(z:b=a)=>n (z▸e3)];exact e,n⟩⟩
end
section
variable{X:Cx}{a b e o i f:Expr}{ta tb te td ty:TE}{wa wb we wd' wy:DT}{pos p p2:Pos}{K:Ag}
def gJ(k:Int)(xs:List Aa):List Aa:=xs.zipIdx.map λq=>.tuple [.int (k+q.2),q.1]
theorem oA:(gJ k xs).length=xs.length:=by unfold gJ;rw[Ab,List.length_zipIdx]
theorem Jf{i:Nat}(h:(gJ k xs)[i]?=ae d):∃x,xs[i]?=ae x/\d=.tuple [.int (k+i),x]:=by
 unfold gJ at h;rw[Ax,List.getElem?_zipIdx]at h;cases e:xs[i]? with
 |none=>rw[e]at h;cases h
 |some x=>
  rw[e]at h;refine⟨x,rfl,?_⟩;have:=A7 h;rw[<-this,Ex]
theorem lD:gJ k (x::xs)=.tuple [.int k,x]::gJ (k+1) xs:=by
 refine List.ext_getElem? λi=>?_;unfold gJ;cases i with
 |zero=>rw[List.zipIdx_cons,Ba,List.getElem?_cons_zero,List.getElem?_cons_zero,Int.natCast_zero,Int.add_zero]
 |succ i=>
  rw[Ek,Ax,Ax,List.getElem?_zipIdx,List.getElem?_zipIdx,Ek];cases xs[i]? with
  |none=>rfl
  |some y=>
   show ae (PyData.tuple [.int (k+(0+(i+1):Nat)),y])=ae (.tuple [.int (k+1+(0+i:Nat)),y]);have:k+(0+(i+1):Nat)=k+1+(0+i:Nat):=by omega
   rw[this]
def px(hs:List Str)(w:DT):DT:=λδ n Q=>w δ n λx n1=>∃a,x=.d a/\fL a=ai/\Q (.d (.bool !b8 a (hs.map .str))) n1
theorem Rb(hl:∀h∈hs,h.length<=1000)(hq:∀H,SqT K H q (hs.map V.str))(h:fe ta wa):fe (dz (jg K ai) ta (tC (.ref q))) (px hs wa):=λC H B σ δ n Q Q' R z k=>
 h C H B σ δ n _ _ R z λv x H1 n1 R1 k1 r1 q1=>by
  obtain⟨da,rfl,q1⟩:=q1;have r1:RdX H1 B v da:=r1;have rs:RdXs H1 B (hs.map V.str) (hs.map .str):=w8 hl;refine⟨q,_,rfl,.inr (hq H1),mG r1 q1.1,lR rs ?_,k _ _ H1 n1 R1 k1 (wd (.bl _)) ?_⟩
  ·rw[List.all_map];exact Dh.mpr λ_ _=>rfl
  ·rw[mR r1 rs];exact q1.2
theorem Uk{xp:Pos}(ha:DE X a ta wa)(hg:Gl X x)(hm:X.mg x=ae (.ref q))(hq:∀H,SqT K H q (hs.map V.str))(hl:∀h∈hs,h.length<=1000:=by decide +kernel)(hK:X.K=K:=by rfl)(hd:(x==("__debug__":Str))=aj:=by decide)
  (hmk:Ci .NotIn (Expr.Name x xp)=aj:=by with_unfolding_all rfl):DC X (.Compare a [.NotIn] [.Name x xp] pos) (jv (dz (jg K ai) ta (tC (.ref q)))) (cT (px hs wa)):=
 ⟨j6 (yK hK) ha.pe (pJ hg hm rfl hd) hmk,lE (Rb hl hq ha.sd)⟩
end
section
variable{X:Cx}{e:Expr}{te:TE}{we:DT}{pos p:Pos}
def mj(w:lp):DT:=λδ n Q=>w δ n λkvs n1=>Q (.dk kvs) n1
theorem DN.d(h:DN X e te w):DE X e te (mj w):=⟨h.pe,λC H B σ δ n Q Q' R q k=>
 h.sd C H B σ δ n _ _ R q λa l kvs H' n' R' k' h0 h1 h2 h3 q1=>by
  refine k _ (.dk kvs) H' n' R' k' ⟨a,l,rfl,h1,λz=>?_,h3.move λb o e n=>⟨e,λz=>n (.inl z)⟩⟩ q1;obtain⟨_,_,q,_⟩:=R.tp.ob;rw[<-z,h0]at q;cases q⟩
abbrev t7(w:DT):DT:=mj (jN w)
theorem Ul(hh:X.A.handled=ah)(hg:Gl X "dict")(hm:X.mg "dict"=ah)(he:DE X e te we)(he':Az [e] X.env=(aj,eval e X.env)::Az [] X.env:=by rfl)(hpl:(Dj pos (Az [] X.env)).any (·.1)=aj:=by rfl):DE X (.Call (.Name "dict" p) [e] [] pos) (fY GB (c7 te bL)) (t7 we):=
 (zN hh hg hm he ∅ he' hpl).d
end
section
variable{X:Cx}{e:Expr}{te:TE}{we:DT}{pos p2:Pos}{K:Ag}
def VZ(w:DT):cM:=λδ n Q=>w δ n λx n1=>match x with
 |.d (.list ds)=>Q (!ds.isEmpty) n1
 |_=>False
def rT(w:DT)(l u:jW):DT:=λδ n Q=>w δ n λx n1=>l δ n1 λa n2=>u δ n2 λb n3=>match x with
 |.d (.list ds)=>Q (.d (.list (bo ds a b))) n3
 |_=>False
theorem LH(he:DE X e te we)(hl:DOp X lo tl wl)(hh:DOp X hi th wh)(hK:X.K=K:=by rfl):DE X (.Subscript e (.Slice lo hi ah p2) pos) (rD (mY K) te tl th) (rT we wl wh):=by
 subst hK;refine⟨sj uT he.pe hl.po hh.po,λC H B σ δ n Q Q' R q k=>he.sd C H B σ δ n _ _ R q λv x H1 n1 R1 k1 r1 q1=>
  hl.sd C H1 B σ δ n1 _ _ R1 q1 λa H2 n2 R2 k2 q2=>hh.sd C H2 B σ δ n2 _ _ R2 q2 λb H3 n3 R3 k3 q3=>?_⟩
 split at q3
 ·rename_i ds;have r3:RdX H3 B v (.list ds):=(r1.kp k2 R1.bt).kp k3 R2.bt;cases r3 with
  |@lst aa xs _ e1 e2 e3 e4=>
   have kk:=(k1.trans k2).trans k3;refine⟨aa,xs,rfl,SqL.of e1,λp hp=>?_⟩;refine k _ _ _ n3 (R3.new hp) (kk.trans (Kp.new hp)) (wd (show RdX _ B _ (.list (bo ds a b))from .lst bQ (R3.nb hp) (A4 (pd xs a b) e3) ?_)) q3;unfold bo fg;rw[<-e4.len];exact(((e4.drop _).take _).fresh hp).less λb z=>.inl z
 ·exact q3.elim
end
end DL
namespace L2
open PySem PySem.Spec PyProof.Rows
def oO(K:Ag)(a:Addr):It:=
 ⟨λi H=>∃xs x,SqL K H a xs/\xs[i]?=ae x,
  λi H v H'=>∃T x,v=.ref T/\H T=ah/\H'=upd H T (.tup [.int i,x])/\∀xs,SqL K H a xs->xs[i]?=ae x,
  λi H=>∃xs,SqL K H a xs/\xs.length=i⟩
theorem LM{K:Ag}(h1:e≠it)(h2:a≠it)(h3:e≠a):Turn P w K (.Tuple elts kk pos) (oO K a) [e,it] e
  (λi h=>(∃old,IsEnum h e it i old)/\h.IsListIter it a i) where
 mem:=by simp
 obj:=λi h st c hc=>by
  obtain⟨⟨x,he⟩,⟨o1,e1,c1,d1⟩⟩:=st;simp only[Aq,An,or_false]at hc;rcases hc with rfl|rfl
  ·exact⟨_,he,λv q=>by have q':Data.fields _=Data.cell v:=q;cases q'⟩
  ·exact⟨o1,e1,λv q=>by rw[d1]at q;cases q⟩
 keep:=λi h h' st k=>⟨st.1.imp λ_ q=>k e (by simp) _ q,st.2.at λo q=>k it (by simp) o q⟩
 item:=by
  intro X hP hw hK hc i pins s σ H E I hf st hg;subst hP hw hK;obtain⟨⟨old,he⟩,hi⟩:=st;obtain⟨xs,x,qa,ex⟩:=hg;obtain⟨its,rv,p,_⟩:=I.list qa;obtain⟨u,hu,ru⟩:=rv.get ex;have hlt:i < its.toArray.size:=by simpa using(Ao.mp hu).1
  have hef:e∉[it,a]:=λz=>by
   simp only[Aq,An,or_false]at z;exact z.elim h1 h3
  refine wpAny_pyNext_enum_itemD (Draws.list (A:=X.A.in1) (I.ok.hd hc) it a h2 its.toArray) he ⟨hi,p.isList⟩ hlt h1 hef λy h' tk a1 a2 a3 a4 a5 a6=>⟨_,rfl,?_⟩;obtain rfl:u=y:=by
   rw[List.getElem?_toArray,hu]at a1;cases a1;rfl
  refine wpAny_letOwnedTupleGo_enum (s:={ s with heap:=h',toks:=tk+1}) a2 λh'' b1 b2=>?_;have T:h''.get? s.heap.objs.size=ae {cls:=.type "tuple",data:=.seq #[.int i tk,u]}:=b2.extBut _ _ (Fo (A0 he)) a4;have Tn:H s.heap.objs.size=ah:=I.hok.fresh (Al _);have kp:∀c o,c∉[e,it]->s.heap.get? c=ae o->h''.get? c=ae o:=λc o hc e=>by
   simp only[Aq,An,or_false,not_or]at hc;exact b2.extBut _ _ hc.1 (a6 c o hc.1 hc.2 e)
  refine⟨.ref s.heap.objs.size,upd H s.heap.objs.size (.tup [.int i,x]),I.many (t':=tk+1) hf kp (Al _) ⟨by show 2<=Ay;decide,[.int i tk,u],.cons ⟨tk,rfl⟩ (.cons ru .nil),_,T,rfl,⟨_,rfl⟩,rfl⟩,rfl,⟨_,x,rfl,Tn,rfl,λzs q=>by rw[I.list_inj q qa];exact ex⟩,
   ⟨⟨u,by rw[show((i+1:Nat):Int)=(i:Int)+1 from rfl];exact b1⟩,a3.1.extBut b2.extBut h1.symm⟩,λc hc=>?_⟩
  have hlt:c < s.heap.objs.size:=by
   simp only[Aq,An,or_false]at hc;rcases hc with rfl|rfl
   ·exact A0 he
   ·obtain⟨_,e,_⟩:=hi;exact A0 e
  rw[aW (Bq hlt)];exact(hf c hc).1
 done:=by
  intro X hP hw hK hc i pins s σ H E I hf st hg;subst hP hw hK;obtain⟨⟨old,he⟩,hi⟩:=st;obtain⟨xs,hq,hx⟩:=hg;obtain⟨its,rv,p,_⟩:=I.list hq;have hl:=rv.length;have hs:its.toArray.size=i:=by simp;omega
  refine wpAny_pyNext_enum_endD (Draws.list (A:=X.A.in1) (I.ok.hd hc) it a h2 its.toArray) he (by rw[hs];exact⟨hi,p.isList⟩) λh' k=>⟨rfl,I.many0 (t':=s.toks) hf λc o hc e=>?_⟩;simp only[Aq,An,or_false,not_or]at hc;exact k c o hc.2 e
 self:=λ_ _ _ _ _ st h=>wpAny_pyIter_enum st.1.choose_spec h
def FN(K:Ag)(ta:TA):TI:=λσ H R=>ta σ H λvs H1=>∃a,vs=[.ref a]/\((∃xs,SqT K H1 a xs)/\R (CN K a) H1\/(∃xs,SqL K H1 a xs)/\R (oO K a) H1)
theorem Ow(hg:Gl X "enumerate")(hm:X.mg "enumerate"=ah)(ha:PA X [e1] ta)(hs:Az [e1] X.env=[(aj,eval e1 X.env)]:=by rfl):
  PI X (.Tuple elts kk tpos) (.Call (.Name "enumerate" p) [e1] [] pos) (FN X.K ta):=by
 intro pins s σ H R I h;refine Call_ (k9 I hg hm boot_enumerate (Da (aY (ha pos pins s σ H _ I h) λus s1 ⟨vs,H1,I1,r1,q1⟩=>?_) (by rw[hs];rfl) rfl));obtain⟨a,e,q⟩:=q1;subst e;cases r1 with
 |cons r rr=>
  cases rr;cases r;have fp:∀c∈[s1.heap.objs.size+1,s1.heap.objs.size],s1.heap.objs.size<=c:=λc hc=>by
   simp only[Aq,An,or_false]at hc;rcases hc with rfl|rfl<;>omega
  rcases q with⟨⟨xs,qa⟩,q⟩|⟨⟨xs,qa⟩,q⟩
  ·obtain⟨its,rv,pp,_⟩:=I1.tuple qa;have la:a < s1.heap.objs.size:=by obtain⟨_,e,_⟩:=id pp;exact A0 e
   refine M3 (show s1.heap.IsTuple a its.toArray from pp) λh' a1 a2 a3=>wpAny_pyIter_enum (s:={ s1 with heap:=h'}) a1 ?_;exact⟨_,_,_,_,H1,rfl,I1.kept (t':=s1.toks) a3,Tx (Nat.succ_ne_self _) (Bq la) (Fo (Nat.lt_succ_of_lt la)),⟨⟨_,a1⟩,a2⟩,λc hc=>I1.fpOk (fp c hc) (I1.hok.fresh (fp c hc)),q⟩
  ·obtain⟨its,rv,pp,_⟩:=I1.list qa;have la:a < s1.heap.objs.size:=by obtain⟨_,e,_⟩:=pp.isList;exact A0 e
   refine call_enumerate_list pp.isList λh' a1 a2 _ a3=>wpAny_pyIter_enum (s:={ s1 with heap:=h'}) a1 ?_;exact⟨_,_,_,_,H1,rfl,I1.kept (t':=s1.toks) a3,LM (Nat.succ_ne_self _) (Bq la) (Fo (Nat.lt_succ_of_lt la)),⟨⟨_,a1⟩,a2⟩,λc hc=>I1.fpOk (fp c hc) (I1.hok.fresh (fp c hc)),q⟩
end L2
namespace DL
open PySem L2 Nb
section
variable{X:Cx}{a:Expr}{ta:TE}{wa:DT}{pos p:Pos}{K:Ag}
def jh(w:DT):iK:=λδ n Q=>w δ n λx n1=>∃xs,(x=.d (.tuple xs)\/x=.d (.list xs))/\Q (gJ 0 xs) n1
theorem RT{elts:List Expr}{kk:Nat}{tpos:Pos}(hg:Gl X "enumerate")(hm:X.mg "enumerate"=ah)(ha:DE X a ta wa)(hK:X.K=K:=by rfl)(hs:Az [a] X.env=[(aj,eval a X.env)]:=by rfl)(he1:Az [a] X.env=(aj,eval a X.env)::Az [] X.env:=by rfl):
  DI X (.Tuple elts kk tpos) (.Call (.Name "enumerate" p) [a] [] pos) (FN K (c7 ta bL)) (jh wa):=by
 subst hK;refine⟨Ow hg hm (dF ha.pe fI he1) hs,λC H B σ δ n Q Q' R q k=>ha.sd C H B σ δ n _ _ R q λv x H1 n1 R1 k1 r1 q1=>?_⟩;obtain⟨xs,rfl|rfl,q2⟩:=q1
 ·cases(show RdX H1 B v (.tuple xs)from r1)with
  |@tup aa vs _ e1 e2 e3 e4=>
   refine⟨aa,rfl,.inl ⟨⟨vs,SqT.of e1⟩,k _ (gJ 0 xs) H1 n1 R1 k1 (λfz th=>?_) q2⟩⟩;have za:fz aa=ae (.tup vs):=th.2 _ _ e1 e2;refine⟨by rw[oA,<-e4.len];exact e3,λi H hH hi=>?_,λH hH=>?_,λi H x H' d hH hd hy=>?_⟩
   ·rw[oA]at hi;have h1:i < vs.length:=by rw[e4.len];exact hi
    exact⟨vs,vs[i],SqT.of (hH _ _ za),Ah h1⟩
   ·exact⟨vs,SqT.of (hH _ _ za),by rw[oA,e4.len]⟩
   ·obtain⟨T,x1,rfl,hT,rfl,hx⟩:=hy;refine⟨λb o e=>by rw[aW (bY e hT)];exact e,λB' hB hBa=>?_⟩;obtain⟨y,hy,rfl⟩:=Jf hd;obtain⟨u1,hu1,ru1⟩:=e4.getD hy;have t1:=hx _ (SqT.of (hH _ _ za));rw[hu1]at t1;cases t1;have mv:∀b o,H1 b=ae o->¬B b->upd H T (.tup [.int i,x1]) b=ae o/\¬B' b:=λb o e ne=>by
     have:=hH _ _ (th.2 _ _ e ne);exact⟨by rw[aW (bY this hT)];exact this,hB _ _ (th.2 _ _ e ne)⟩
    rw[Int.zero_add];exact .tup bQ (λz=>hBa T z hT) (by show 2<=Ay;decide) (.cons (.int _) (.cons (ru1.move mv) .nil))
 ·cases(show RdX H1 B v (.list xs)from r1)with
  |@lst aa vs _ e1 e2 e3 e4=>
   refine⟨aa,rfl,.inr ⟨⟨vs,SqL.of e1⟩,k _ (gJ 0 xs) H1 n1 R1 k1 (λfz th=>?_) q2⟩⟩;have za:fz aa=ae (.lst vs):=th.2 _ _ e1 e2;refine⟨by rw[oA,<-e4.len];exact e3,λi H hH hi=>?_,λH hH=>?_,λi H x H' d hH hd hy=>?_⟩
   ·rw[oA]at hi;have h1:i < vs.length:=by rw[e4.len];exact hi
    exact⟨vs,vs[i],SqL.of (hH _ _ za),Ah h1⟩
   ·exact⟨vs,SqL.of (hH _ _ za),by rw[oA,e4.len]⟩
   ·obtain⟨T,x1,rfl,hT,rfl,hx⟩:=hy;refine⟨λb o e=>by rw[aW (bY e hT)];exact e,λB' hB hBa=>?_⟩;obtain⟨y,hy,rfl⟩:=Jf hd;obtain⟨u1,hu1,ru1⟩:=e4.getD hy;have t1:=hx _ (SqL.of (hH _ _ za));rw[hu1]at t1;cases t1;have mv:∀b o,H1 b=ae o->¬B b->upd H T (.tup [.int i,x1]) b=ae o/\¬B' b:=λb o e ne=>by
     have:=hH _ _ (th.2 _ _ e ne);exact⟨by rw[aW (bY this hT)];exact this,hB _ _ (th.2 _ _ e ne)⟩
    rw[Int.zero_add];exact .tup bQ (λz=>hBa T z hT) (by show 2<=Ay;decide) (.cons (.int _) (.cons (ru1.move mv) .nil))
end
end DL
namespace L2
open PySem PySem.Spec PyProof.Rows
def f9(n:Nat):List V:=(A8 n).map λi=>V.int ((i:Nat):Int)
theorem va:∀{l:List Nat},(∀i∈l,RelV (f i) (g i))->Vals (l.map f) (l.map g)
 |[],_=>.nil
 |i::r,h=>.cons (h i As) (va λj hj=>h j (Au _ hj))
theorem MJ{s:Ar}{n:Nat}(hh:A.handled=ah)(hr:IsRange s.heap r a b c t u v)(hs:Builtin.Range.small a b c=ai)(hn:Fj a b c=(n:Int))(hl:n<=2 ^ 24)(hS:s.heap.get? S=ae {cls:=.type "list",data:=.seq #[]})
  (h:∀(h':Heap)(tk:Nat)(acc:Array Ak)(c':Nat),(∀(b:Addr)(o:Obj),b≠S->s.heap.get? b=ae o->h'.get? b=ae o)->h'.get? S=ae {cls:=.type "list",data:=.seq acc c'}->ItemsOf (λi v=>∃t,v=.int (a+(i:Int)*c) t) acc n->R (.ok (.ret (.ref S))) {s with heap:=h',toks:=tk}):Gi (Bi prog w) A (Code.builtin "list.__iadd__" ⟨[.ref S,.ref r],[]⟩) R s:=by
 refine Fc F.entry_list_iadd ?_;rw[Dw F.plain_list_iadd];exact wpAny_extend_range hh hr hs hn hl S (.ref S) 0 hS h
theorem Pw{s:Ar}{n:Nat}(hh:A.handled=ah)(hr:IsRange s.heap r a b c t u v)(hs:Builtin.Range.small a b c=ai)(hn:Fj a b c=(n:Int))(hl:n<=2 ^ 24)
  (h:∀(h':Heap)(tk:Nat)(acc:Array Ak),(∀(b:Addr)(o:Obj),s.heap.get? b=ae o->h'.get? b=ae o)->ItemsOf (λi v=>∃t,v=.int (a+(i:Int)*c) t) acc n->Q acc.toList {s with heap:=h',toks:=tk}):A5 (Bi prog w) A (collect (.ref r)) Q E s:=by
 unfold collect;refine Ad (wpAny_runValue (Fc F.entry_proto_collect ?_));rw[Dw F.plain_proto_collect];refine Ad (Cf (Aw ⟨Gw F.plain_list_iadd _,MJ hh (Ai _ hr) hs hn hl (Bb s.heap rfl) λh' tk acc c' hk hS hI=>?_⟩));refine Ad (wpAny_load hS ?_);exact Aw (h h' tk acc (λb o e=>hk b o (Bq (A0 e)) (Ai _ e)) hI)
theorem KY{s:Ar}{n:Nat}(hh:A.handled=ah)(hr:IsRange s.heap r a b c t u v)(hs:Builtin.Range.small a b c=ai)(hn:Fj a b c=(n:Int))(hl:n<=1000)
  (h:∀(h':Heap)(tk:Nat)(acc:Array Ak),(∀(b:Addr)(o:Obj),s.heap.get? b=ae o->h'.get? b=ae o)->ItemsOf (λi v=>∃t,v=.int (a+(i:Int)*c) t) acc n->Q (.ref h'.objs.size) {s with heap:=h'.push {cls:=.type "tuple",data:=.seq acc},toks:=tk}):A5 (Bi prog w) A (call (.type "tuple") [.ref r]) Q E s:=by
 refine callType_codes (Q₁:=λv s₁=>s₁.TypeIs v "tuple"/\Q v s₁) F.called_tuple (F.typeCall_tuple_1 (.ref r)) F.entry_object_init ?_ λobj s₁ h₁=>⟨h₁.1,F.args_object_init_2 obj (.ref r),object_init_meets F.called_tuple.init.lookup F.called_tuple.made ∎ prog w A.in1 _ s₁ ⟨h₁.1,rfl,h₁.2⟩⟩;refine codeAny_of_tree ?_;refine Ad (wpAny_of_eq (F.newCall_tuple_1 (.ref r)) (Aw ⟨Gw F.plain_tuple_new _,Fc F.entry_tuple_new ?_⟩));rw[Dw F.plain_tuple_new];unfold Gk.«tuple.__new__»;refine Ad (Aw ?_);refine Fb (by rfl) ?_;refine Ad (wpAny_of_eq sub_tuple_self ?_);refine Fb (by rfl) ?_;refine Fb (by rfl) ?_;refine Ad (wpAny_of_eq madeHere_tuple ?_);refine Ad (wpAny_of_eq init_tuple_lookup ?_);refine wpAny_ite_true (by rfl) ?_;refine Ad ?_;refine wpAny_ite_true (by rfl) ?_;refine Aw (Ad ?_);unfold checkCount;refine Fb (by rfl) ?_;refine Fb (by rfl) ?_;refine Fb (by rfl) ?_;refine Aw ?_;refine wpAny_ite_true (by rfl) ?_;refine Ad ?_;refine Ad (Fx (T:="range") ⟨_,hr,rfl⟩ (Aw ?_));refine Fb (by rfl) ?_;refine Ad (Pw hh hr hs hn ⋯ λh' tk acc hk hI=>?_);refine Ad (Aw ?_);refine Ad ?_;refine Cf ?_ ?_
 ·exact Aw ⟨⟨_,Bb _ rfl,rfl⟩,h h' tk acc hk hI⟩
 show acc.size<=Ay;rw[hI.1,E3];omega
def ur:List V->Hp->VK->Prop:=λxs H Q=>∃j:Int,xs=[.int j]/\∀D,H D=ah->Q (.ref D) (upd H D (.rng 0 j))
theorem CJ:CallR X (.type "range") ur:=by
 intro pins s σ H xs us Q I r h;obtain⟨j,rfl,q⟩:=h;obtain⟨u,rfl,ru⟩:=jA r;obtain⟨t,rfl⟩:=ru;refine call_range_1 ⟨.ref s.heap.objs.size,_,I.laid (t':=s.toks+1+1) (o:=.rng 0 j) (λb o e=>Ai _ e) (Al _) ⟨_,_,_,Bb _ rfl⟩,rfl,q _ I.fresh⟩
def HZ:List V->Hp->VK->Prop:=λxs H Q=>∃(a:Addr)(j:Nat),xs=[.ref a]/\H a=ae (.rng 0 j)/\j<=1000/\∀D,H D=ah->Q (.ref D) (upd H D (.lst (f9 j)))
theorem UB(hh:X.A.handled=ah):CallR X (.type "list") HZ:=by
 intro pins s σ H xs us Q I r h;obtain⟨a,j,rfl,ha,hj,q⟩:=h;obtain⟨u,rfl,ru⟩:=jA r;cases(show u=A6 a from ru);obtain⟨t,u,v,e⟩:=I.hok a _ ha;have p62:(2:Int)^62=4611686018427387904:=by decide
 have p24:(2:Nat)^24=16777216:=by decide
 refine call_list_range (n:=j) hh e (small_one ⋯ ⋯ ⋯ ⋯) (by rw[rangeSize_one];split<;>omega) ⋯ λh' tk acc c k hL hI=>?_;refine⟨.ref s.heap.objs.size,_,I.laid (t':=tk) (h':=h') (o:=.lst (f9 j)) k (Al _) ⟨?_,acc.toList,c,?_,by simpa using hL⟩,rfl,q _ I.fresh⟩
 ·unfold f9;rw[Ab,C2];exact fc ⋯
 ·have:acc.toList=(A8 j).map λi=>acc.toList.getD i .none:=by
   apply D3 (by simp[hI.1]);intro i h1 h2;simp at h1;simp[h1]
  rw[this];refine va λi hi=>?_;have hi:=Ce.mp hi;have hi2:i < acc.size:=by rw[hI.1];exact hi
  obtain⟨t,e⟩:=hI.2 i acc[i] (B4 hi2);refine⟨t,?_⟩;simp[hi2,e]
def ED:List V->Hp->VK->Prop:=λxs H Q=>∃(a:Addr)(j:Nat),xs=[.ref a]/\H a=ae (.rng 0 j)/\j<=1000/\∀D,H D=ah->Q (.ref D) (upd H D (.tup (f9 j)))
theorem Pp(hh:X.A.handled=ah):CallR X (.type "tuple") ED:=by
 intro pins s σ H xs us Q I r h;obtain⟨a,j,rfl,ha,hj,q⟩:=h;obtain⟨u,rfl,ru⟩:=jA r;cases(show u=A6 a from ru);obtain⟨t,u,v,e⟩:=I.hok a _ ha;have p62:(2:Int)^62=4611686018427387904:=by decide
 refine KY (n:=j) hh e (small_one ⋯ ⋯ ⋯ ⋯) (by rw[rangeSize_one];split<;>omega) hj λh' tk acc k hI=>?_;have I1:Inv X pins σ H {s with heap:=h',toks:=tk}:=I.kept (t':=tk) k;have I2:Inv X pins σ (upd H h'.objs.size (.tup (f9 j))) {s with heap:=h'.push {cls:=.type "tuple",data:=.seq acc},toks:=tk}:=
  I1.laid (t':=tk) (λb o e=>Ai _ e) (Al _) (show ObjOk X.prog X.w _ _ _ (.tup (f9 j))from⟨?_,acc.toList,?_,IsTupP.new _ _⟩)
 ·exact⟨.ref h'.objs.size,_,I2,rfl,q _ (I1.hok.fresh (Al _))⟩
 ·unfold f9;rw[Ab,C2];exact fc ⋯
 ·have:acc.toList=(A8 j).map λi=>acc.toList.getD i .none:=by
   apply D3 (by simp[hI.1]);intro i h1 h2;simp at h1;simp[h1]
  rw[this];refine va λi hi=>?_;have hi:=Ce.mp hi;have hi2:i < acc.size:=by rw[hI.1];exact hi
  obtain⟨t,e⟩:=hI.2 i acc[i] (B4 hi2);refine⟨t,?_⟩;simp[hi2,e]
end L2
namespace DL
open PySem L2 Nb
section
variable{X:Cx}{a o:Expr}{ta td:TE}{wa wd':DT}{pos p p2 p3 xp:Pos}{K:Ag}{x:Str}{q:Addr}{D:List (Str×Str)}
def wH(n:Nat):List Aa:=(A8 n).map λi=>.int ((i:Nat):Int)
theorem uv{g:Nat->Int}:∀{l:List Nat},RdXs H B (l.map λi=>V.int (g i)) (l.map λi=>.int (g i))
 |[]=>.nil
 |_::_=>.cons (.int _) uv
theorem BC(h:j<=1000):(f9 j).length<=Ay:=by
 unfold f9;rw[Ab,C2];exact fc h
def u7(w:DT):fN:=λδ n Q=>w δ n λx n1=>∃j:Nat,x=.d (.int j)/\j<=1000/\Q (wH j) n1
theorem Mx(hh:X.A.handled=ah)(hg:Gl X "list")(hm:X.mg "list"=ah)(hg2:Gl X "range")(hm2:X.mg "range"=ah)(ho:DE X o td wd')
  (he':Az [o] X.env=(aj,eval o X.env)::Az [] X.env:=by rfl) (hpl:(Dj p3 (Az [] X.env)).any (·.1)=aj:=by rfl)
  (he2:Az [.Call (.Name "range" p2) [o] [] p3] X.env=(aj,eval (.Call (.Name "range" p2) [o] [] p3) X.env)::Az [] X.env:=by rfl) (hpl2:(Dj pos (Az [] X.env)).any (·.1)=aj:=by rfl):
  DF X (.Call (.Name "list" p) [.Call (.Name "range" p2) [o] [] p3] [] pos) (fY HZ (c7 (fY ur (c7 td bL)) bL)) (u7 wd'):=by
 refine⟨mQ (UB hh) hg hm ou (dF (mQ CJ hg2 hm2 Gx (dF ho.pe fI he') ∎ ∎ he' hpl) fI he2) ∎ ∎ he2 hpl2,λC H B σ δ n Q Q' R q k=>
  ho.sd C H B σ δ n _ _ R q λv x H1 n1 R1 k1 r1 q1=>?_⟩
 obtain⟨j,rfl,hj,kq⟩:=q1;cases(show RdX H1 B v (.int j)from r1);refine⟨j,rfl,λD hD=>⟨D,j,rfl,bQ,hj,λD2 hD2=>?_⟩⟩;have k2:=k1.trans (Kp.new (o:=.rng 0 (j:Int)) hD);have R2:=R1.new (o:=.rng 0 (j:Int)) hD;exact k D2 _ _ _ n1 (R2.new hD2) (k2.trans (Kp.new hD2)) (R2.was k2 hD2) bQ (BC hj) uv kq
def vI(w:DT):DT:=λδ n Q=>w δ n λx n1=>∃j:Nat,x=.d (.int j)/\j<=1000/\Q ‹(wH j)› n1
theorem QB(hh:X.A.handled=ah)(hg:Gl X "tuple")(hm:X.mg "tuple"=ah)(hg2:Gl X "range")(hm2:X.mg "range"=ah)(ho:DE X o td wd')
  (he':Az [o] X.env=(aj,eval o X.env)::Az [] X.env:=by rfl) (hpl:(Dj p3 (Az [] X.env)).any (·.1)=aj:=by rfl)
  (he2:Az [.Call (.Name "range" p2) [o] [] p3] X.env=(aj,eval (.Call (.Name "range" p2) [o] [] p3) X.env)::Az [] X.env:=by rfl) (hpl2:(Dj pos (Az [] X.env)).any (·.1)=aj:=by rfl):
  DE X (.Call (.Name "tuple" p) [.Call (.Name "range" p2) [o] [] p3] [] pos) (fY ED (c7 (fY ur (c7 td bL)) bL)) (vI wd'):=by
 refine⟨mQ (Pp hh) hg hm xj (dF (mQ CJ hg2 hm2 Gx (dF ho.pe fI he') ∎ ∎ he' hpl) fI he2) ∎ ∎ he2 hpl2,λC H B σ δ n Q Q' R q k=>
  ho.sd C H B σ δ n _ _ R q λv x H1 n1 R1 k1 r1 q1=>?_⟩
 obtain⟨j,rfl,hj,kq⟩:=q1;cases(show RdX H1 B v (.int j)from r1);refine⟨j,rfl,λD hD=>⟨D,j,rfl,bQ,hj,λD2 hD2=>?_⟩⟩;have k2:=k1.trans (Kp.new (o:=.rng 0 (j:Int)) hD);have R2:=R1.new (o:=.rng 0 (j:Int)) hD;exact k _ _ _ n1 (R2.new hD2) (k2.trans (Kp.new hD2)) (wd (show RdX _ B _ (.tuple (wH j))from .tup bQ (R2.nb hD2) (BC hj) uv)) kq
def pV(D:List (Str×Str))(w:DT):DT:=λδ n Q=>w δ n λx n1=>match x with
 |.d (.str k)=>Q (.d (.bool !(Be k D).isSome)) n1
 |_=>False
def Jo(K:Ag):R2:=λx y H Q=>∃k q D,x=.str k/\y=.ref q/\hU K q D/\Q (.bl !(Be k D).isSome) H
theorem VU:OpR X (By .NotIn) (Jo X.K):=by
 intro pins s σ H x y v u Q I rx ry h;obtain⟨k,q,D,rfl,rfl,hT,hq⟩:=h;obtain⟨t,rfl⟩:=rx;cases ry;refine PyProof.Rows.KTD.notin_text (JS I hT) ?_;rw[ze];exact⟨.bl _,H,I.kept (t':=s.toks+1) λ_ _ e=>e,rfl,hq⟩
theorem Qj(ha:DE X a ta wa)(hg:Gl X x)(hm:X.mg x=ae (.ref q))(hq:hU K q D)(hK:X.K=K:=by rfl)(hd:(x==("__debug__":Str))=aj:=by decide)
  (hmk:Ci .NotIn (Expr.Name x xp)=aj:=by with_unfolding_all rfl):DC X (.Compare a [.NotIn] [.Name x xp] pos) (jv (dz (Jo K) ta (tC (.ref q)))) (cT (pV D wa)):=by
 subst hK;refine⟨j6 VU ha.pe (pJ hg hm rfl hd) hmk,lE λC H B σ δ n Q Q' R z k=>ha.sd C H B σ δ n _ _ R z λv x H1 n1 R1 k1 r1 q1=>?_⟩
 split at q1
 ·rename_i key;cases(show RdX H1 B v (.str key)from r1);exact⟨key,q,D,rfl,rfl,hq,k _ _ H1 n1 R1 k1 (wd (.bl _)) q1⟩
 ·exact q1.elim
end
end DL
local macro_rules|`(⇑$n:num)=>match n.getNat with|1000=>`(DL.au (DL.aF 7 (DL.w2 (DL.w2 ↥0 ↥5 DL.az) (DL.dE ⇑1) DL.az)) (DL.au (DL.aL (DL.bW (DL.cT (DL.w2 ↥6 (DL.wC (.str "as")) DL.a9)) (DL.fX (DL.cT (DL.w2 ↥7 (DL.c9 3) (DL.eQ ai))) (DL.cT (DL.w2 (DL.w2 (DL.c9 3) ↥7 DL.gg) (DL.w2 ↥1 ↥5 DL.az) DL.cL)))) (DL.aw (DL.wC .none)) DL.aG) (DL.aL (DL.cT (DL.w2 ↥6 (DL.wC (.str "bind")) DL.a9)) (DL.au (DL.aL (DL.bW (DL.cT (DL.nr 4 ↥7)) (DL.cT (DL.w2 (DL.w2 (DL.c9 3) ↥7 DL.gg) (DL.w2 ↥1 ↥5 DL.az) DL.cL))) (DL.aw (DL.wC .none)) DL.aG) (DL.au (DL.k8 3 ↥7 (DL.w2 ↥1 ↥5 DL.az)) (DL.aX 4 ↥7))) DL.aG)))|1001=>`(DL.aw (DL.aA (DL.aq (DL.jt [("take","takes"),("read","reads"),("look","looks")] (DL.w2 ↥4 ⇑0 DL.az)) (DL.aq ↥2 (DL.aq (DL.fJ (DL.cT (DL.w2 ↥5 (DL.wC .none) (DL.bC aj))) (DL.wC .none) (DL.w2 (DL.w2 ↥1 ⇑1 DL.az) ↥5 DL.az)) DL.ao)))))|1002=>`(DL.aF 8 (DL.bj (DL.cW [ah,ae 5,ae 1] (DL.dC (DL.wB DL.dS (DL.aq ↥1 DL.ao))) (DL.aJ 0) (DL.cT (DL.w2 (DL.bj (DL.cW [ah,ae 1] (DL.ft (DL.w2 ↥2 ↥0 DL.aM)) (DL.aJ 0) (DL.cT (DL.w2 ↥0 ↥1 (DL.eO ai))) ↥0)) (DL.bj (DL.aQ DL.ao)) DL.bq)) ↥0)))|1003=>`(DL.aL (DL.cT (DL.w2 (DL.w2 ↥4 ⇑0 DL.az) (DL.wC (.str "lay")) DL.a9)) (DL.aw (DL.aA (DL.aq (DL.wC (.str "lays")) (DL.aq ↥2 (DL.aq (DL.w2 ↥1 ⇑2 DL.az) (DL.aq (DL.w2 (DL.w2 ↥3 ⇑1 DL.az) (DL.dE ⇑1) DL.az) DL.ao)))))) DL.aG)|1004=>`(DL.aL (DL.cT (DL.w2 (DL.w2 ↥8 ⇑0 DL.az) (DL.aA (DL.aq (DL.wC (.str "same")) (DL.aq (DL.wC (.str "go")) DL.ao))) (DL.gN aj))) (DL.aw (DL.aA (DL.aq (DL.wC (.str "goes")) (DL.aq ↥4 DL.ao)))) DL.aG)|1005=>`(DL.aL (DL.cT (DL.pV [("take","takes"),("read","reads"),("look","looks")] (DL.w2 ↥4 ⇑0 DL.az))) (DL.aw (DL.aA (DL.aq (DL.wC (.str "goes")) (DL.aq ↥2 DL.ao)))) DL.aG)|1006=>`(DL.w2 (DL.wB DL.bg (DL.aq ↥0 DL.ao)) (DL.wB DL.bg (DL.aq ↥1 DL.ao)) DL.cL)|1007=>`(DL.w2 (DL.w2 (DL.c9 3) ↥7 DL.gg) (DL.w2 ↥1 ↥5 DL.az) DL.cL)|1008=>`(DL.cT (DL.w2 ↥6 (DL.aA (DL.aq (DL.wC (.str "word")) (DL.aq (DL.wC (.str "number")) DL.ao))) (DL.gN aj)))|1009=>`(DL.cT (DL.w2 (DL.bF "str" (DL.w2 ↥1 ↥5 DL.az)) (DL.w2 ↥6 (DL.wC (.str "word")) DL.a9) DL.cL))|1010=>`(DL.aq ↥0 (DL.aq (DL.w2 ↥1 ⇑0 DL.az) (DL.aq ↥2 DL.ao)))|1011=>`(DL.aH DL.cG (DL.aq ↥0 (DL.aq ⇑4 DL.ao)))|1012=>`(DL.dq 2 (DL.bh (DL.aJ 0) (DL.bh (DL.aJ 1) DL.ck)))|1013=>`(DL.au (DL.aX 6 ↥9) (DL.aU (DL.fU ↥10) (DL.aJ 7) (DL.aL (DL.cT (DL.w2 ↥7 (DL.gB 5) (DL.eO ai))) (DL.aX 5 ↥7) DL.aG)))|1014=>`(DL.aL (DL.cT (DL.w2 ↥3 (DL.wC .none) (DL.bC aj))) (DL.aw (DL.wC .none)) DL.aG)|1015=>`(DL.aq ↥0 (DL.aq ↥1 (DL.aq ↥2 (DL.aq ↥3 DL.ao))))|1016=>`(DL.w2 (DL.w2 ↥1 ⇑0 DL.az) ↥2 DL.az)|1017=>`(DL.aw (DL.aA (DL.aq (DL.w2 (DL.w2 ↥8 ⇑0 DL.az) (DL.wC (.str "s")) DL.gF) (DL.aq ↥4 (DL.aq (DL.fJ (DL.cT (DL.w2 ↥9 (DL.wC .none) (DL.bC aj))) (DL.wC .none) (DL.w2 ↥2 ↥9 DL.az)) DL.ao)))))|1018=>`(DL.dC (DL.w2 (DL.bj (DL.aQ (DL.aq ⇑2 (DL.aq ⇑3 (DL.aq ⇑1 (DL.aq ⇑4 (DL.aq ⇑2 (DL.aq ⇑0 (DL.aq ⇑3 (DL.aq ⇑8 DL.ao)))))))))) (DL.aH DL.cG (DL.aq ↥0 (DL.aq ⇑8 DL.ao))) DL.aM))|1019=>`(DL.cT (DL.w2 (DL.w2 ↥1 ⇑0 DL.az) (DL.wC (.str "lays")) DL.a9))|1020=>`(DL.bW (DL.cT (DL.w2 ↥4 (DL.wC (.str "next")) DL.a9)) (DL.cR (DL.cT (DL.bF "str" ↥6))))|1021=>`(DL.aH DL.cG (DL.aq ↥0 (DL.aq ⇑8 DL.ao)))|1022=>`(DL.aw (DL.aA (DL.aq ↥2 (DL.aq ↥4 (DL.aq (DL.w2 ↥0 ⇑2 DL.az) DL.ao)))))|1023=>`(DL.bW (DL.cT (DL.w2 ↥6 (DL.wC (.str "is")) DL.a9)) (DL.cT (DL.w2 (DL.w2 (DL.w2 ↥0 ↥5 DL.az) ⇑1 DL.az) (DL.w2 ↥1 ↥5 DL.az) DL.cL)))|1024=>`(DL.bj (DL.aQ (DL.aq (DL.wC (.str "n")) (DL.aq (DL.wC (.str "nm")) (DL.aq (DL.wC (.str "go")) (DL.aq (DL.wC (.str "m")) DL.ao))))))|1025=>`(DL.cT (DL.w2 (DL.w2 ↥8 ⇑0 DL.az) (DL.wC (.str "lay")) DL.a9))|1026=>`(DL.dq 2 (DL.bh (DL.aJ 4) (DL.bh (DL.aJ 5) DL.ck)))|1027=>`(DL.au (DL.aX 5 ↥9) (DL.au (DL.aX 6 ↥3) (DL.aF 2 ↥8)))|1028=>`(DL.aq ↥8 (DL.aq (DL.w2 ↥1 ⇑1 DL.az) (DL.aq ↥7 DL.ao)))|1029=>`(DL.wB DL.fq (DL.aq (DL.bj (DL.pj (DL.c9 3))) DL.ao))|1030=>`(DL.aq ↥0 (DL.aq ↥1 (DL.aq ↥2 DL.ao)))|1031=>`(DL.w2 ↥4 (DL.aA (DL.aq (DL.w2 ↥1 ⇑2 DL.az) DL.ao)) DL.eG)|1032=>`(DL.aA (DL.aq (DL.wC (.str "goes")) (DL.aq ⇑0 DL.ao)))|_=>`(DL.wC (.int $n))
local macro_rules|`(⇑$s:str)=>`(DL.wC (.str $s))
namespace L2
open PySem PySem.Spec
abbrev lQ(h:Heap)(z TI TO:Addr)(f0:Ak)(f:Bool):Prop:=
 h.get? z=ae {cls:=.type "zip",dict:=ah,data:=.fields #[f0,.bool f,.bool aj,.ref TI,.ref TO],slots:=#[]}
section
variable{prog:Bp}{w:B7}{A:Ck}{E:Ak->Ar->Prop}{s:Ar}
theorem NV(h:Q (s.heap.get? a) s):A5 (Bi prog w) A (loadIfAlive a) Q E s:=λΓ p _=>by
 unfold loadIfAlive;rw[Sem.wp_loadIfAlive];exact h
theorem BE{z TI TO T:Addr}(hz:lQ s.heap z TI TO (F0 T) f)(hT:s.heap.get? T=ae oT)
  (hQ:∀h',lQ h' z TI TO (F0 T) ai->D1 z s.heap h'->Q aj {s with heap:=h'}):A5 (Bi prog w) A (Bz (.ref z)) Q E s:=by
 unfold Bz;refine Ad (Cb hz rfl (x:=F0 T) rfl ?_);show A5 _ _ (loadIfAlive (Int.toNat (T:Int))>>=_) _ _ _;refine Ad (NV ?_);rw[Bs,hT];simp only[Option.isNone,C6,if_false];refine Ad (Cb hz rfl (x:=.bool f) rfl ?_);cases f with
 |true=>
  simp only[bne_self_eq_false,C6,if_false];exact Aw (hQ s.heap hz ⟨rfl,λ_ _=>rfl⟩)
 |false=>
  rw[if_pos ∎];refine Ad (E6 hz (by simp) λg1 z1 s1=>?_);exact Aw (hQ g1 z1 s1)
theorem Tu{z TI TO i1 i2 l1 l2 T:Addr}{Q:Ak->Ar->Prop}(D:ZipApart z TI TO i1 i2 l1 l2)
  (hz:lQ s.heap z TI TO (F0 T) f) (hT:s.heap.get? T=ae oT) (hTI:Dd s.heap TI (.ref i1) (.ref i2))
  (h1:s.heap.IsListIter i1 l1 k) (h2:s.heap.IsListIter i2 l2 k) (hl1:s.heap.IsList l1 xs) (hl2:s.heap.IsList l2 ys) (hx:xs[k]?=ae x) (hy:ys[k]?=ae y)
  (hQ:∀h',lQ h' z TI TO (F0 T) ai->h'.IsListIter i1 l1 (k+1)->h'.IsListIter i2 l2 (k+1)->Dd h' s.heap.objs.size x y->h'.objs.size=s.heap.objs.size+1->
   (∀c o,c≠z->c≠TO->c≠i1->c≠i2->s.heap.get? c=ae o->h'.get? c=ae o)->Dd h' TO x y\/(∀o,s.heap.get? TO=ae o->h'.get? TO=ae o)->Q (.ref s.heap.objs.size) {s with heap:=h'}):
  A5 (Bi prog w) A (Gk.«zip.__next__» ⟨[.ref z],[]⟩) (λfin s'=>∃v,fin=.done (.ret v)/\Q v s') E s:=by
 show A5 _ _ (field (.ref z) 2>>=_) _ _ _;refine Ad (Cb hz rfl (x:=.bool aj) rfl ?_);show A5 _ _ (field (.ref z) 3>>=_) _ _ _;refine Ad (Cb hz rfl (x:=.ref TI) rfl ?_);refine Ad (Dq hTI rfl ?_);show A5 _ _ (Bz (.ref z)>>=_) _ _ _;refine Ad (BE hz hT λg1 z1 s1=>?_);simp only[C6,if_false];refine Ad ?_;simp only[<-Array.forIn_toList,List.forIn_cons,List.forIn_nil];refine Ad (Ad (Ct ?_));show A5 _ _ (B6 (.ref i1)>>=_) _ _ _;refine Ad (wpAny_nextOf_list_item (h1.extBut s1.extBut D.i1z) (hl1.extBut s1.extBut D.l1z) hx λg2 t2 s2=>Aw (Aw ?_));refine Ad (Ad (Ct ?_));show A5 _ _ (B6 (.ref i2)>>=_) _ _ _;refine Ad (wpAny_nextOf_list_item ((h2.extBut s1.extBut D.i2z).extBut s2.extBut D.i12.symm) ((hl2.extBut s1.extBut D.l2z).extBut s2.extBut D.l2i1) hy λg3 t3 s3=>Aw (Aw (Aw ?_)));have sz:g3.objs.size=s.heap.objs.size:=by rw[s3.1,s2.1,s1.1]
 dsimp only;refine Ad (wpAny_newTuple (hsz:=by show 2<=Ay;decide) ?_);have z3:lQ g3 z TI TO (F0 T) ai:=s3.extBut _ _ D.i2z.symm (s2.extBut _ _ D.i1z.symm z1);have kp:∀c o,c≠z->c≠i1->c≠i2->s.heap.get? c=ae o->(g3.push {cls:=.type "tuple",data:=.seq #[x,y]}).get? c=ae o:=λc o c1 c3 c4 e=>
  Ai _ (s3.extBut _ _ c4 (s2.extBut _ _ c3 (s1.extBut _ _ c1 e)))
 have tp:Dd (g3.push {cls:=.type "tuple",data:=.seq #[x,y]}) g3.objs.size x y:=Bb _ rfl;refine Aw ⟨_,rfl,?_⟩;show Q (.ref g3.objs.size) _;rw[sz]at tp ⊢;exact hQ _ (Ai _ z3) ((t2.extBut s3.extBut D.i12).at λo e=>Ai _ e) (t3.at λo e=>Ai _ e) tp (by rw[Em,sz]) (λc o c1 _ c3 c4 e=>kp c o c1 c3 c4 e) (.inr λo e=>kp _ o D.TOz D.TOi1 D.TOi2 e)
theorem Oh{z TI TO i1 i2 l1 l2 T:Addr}(hh:A.handled=ah)(D:ZipApart z TI TO i1 i2 l1 l2)
  (hz:lQ s.heap z TI TO (F0 T) f) (hT:s.heap.get? T=ae oT) (hTI:Dd s.heap TI (.ref i1) (.ref i2))
  (h1:s.heap.IsListIter i1 l1 k) (hl1:s.heap.IsList l1 xs) (hx:xs[k]?=ah)
  (hE:∀h' e,(∀c o,c≠z->c≠i1->s.heap.get? c=ae o->h'.get? c=ae o)->(∃o,h'.get? e=ae o/\o.cls=.type "StopIteration")->E (.ref e) {s with heap:=h'}):
  A5 (Bi prog w) A (Gk.«zip.__next__» ⟨[.ref z],[]⟩) Q E s:=by
 show A5 _ _ (field (.ref z) 2>>=_) _ _ _;refine Ad (Cb hz rfl (x:=.bool aj) rfl ?_);show A5 _ _ (field (.ref z) 3>>=_) _ _ _;refine Ad (Cb hz rfl (x:=.ref TI) rfl ?_);refine Ad (Dq hTI rfl ?_);show A5 _ _ (Bz (.ref z)>>=_) _ _ _;refine Ad (BE hz hT λg1 z1 s1=>?_);simp only[C6,if_false];refine Ad ?_;simp only[<-Array.forIn_toList,List.forIn_cons,List.forIn_nil];refine Ad (Ad (Ct ?_));show A5 _ _ (B6 (.ref i1)>>=_) _ _ _;refine Ad (wpAny_nextOf_list_end hh (h1.extBut s1.extBut D.i1z) (hl1.extBut s1.extBut D.l1z) hx λg2 e s2 he=>?_);exact hE g2 e (λc o c1 c3 x=>s2 _ _ c3 (s1.extBut _ _ c1 x)) he
structure ZSt(n:Nat)(h0:Heap)(l1 l2:Addr)(xs ys:Array Ak)(i:Nat)(h:Heap):Prop where
 sz:h.objs.size=n+6+i
 zp:(i=0/\IsZip h (n+4) (n+2) (n+3) .none)\/(0 < i/\∃f,lQ h (n+4) (n+2) (n+3) (F0 ((n+6:Nat):Int)) f)
 ti:Dd h (n+2) (.ref n) (.ref (n+1))
 to:∃a b,Dd h (n+3) a b
 j1:h.IsListIter n l1 i
 j2:h.IsListIter (n+1) l2 i
 pr:∀j,j < i->∀x y,xs[j]?=ae x->ys[j]?=ae y->Dd h (n+6+j) x y
 old:∀b o,h0.get? b=ae o->h.get? b=ae o
variable{n:Nat}{h0:Heap}{l1 l2:Addr}{xs ys:Array Ak}
theorem kO{h:Heap}{a:Nat}(e:h.get? a=ae o):@LT.lt Nat _ a h.objs.size:=A0 e
theorem ZSt.frame(z:ZSt n h0 l1 l2 xs ys i h)(h0n:@Eq Nat h0.objs.size n)(e:h'.objs.size=h.objs.size)(k:∀b o,b≠n+5->h.get? b=ae o->h'.get? b=ae o):ZSt n h0 l1 l2 xs ys i h':=by
 refine⟨e.trans z.sz,?_,k _ _ ⋯ z.ti,?_,z.j1.at λo q=>k _ o ⋯ q,z.j2.at λo q=>k _ o ⋯ q,λj hj x y hx hy=>k _ _ ⋯ (z.pr j hj x y hx hy),λb o q=>?_⟩
 ·rcases z.zp with⟨a,b⟩|⟨a,f,b⟩
  ·exact .inl ⟨a,k _ _ ⋯ b⟩
  ·exact .inr ⟨a,f,k _ _ ⋯ b⟩
 ·obtain⟨a,b,q⟩:=z.to;exact⟨a,b,k _ _ ⋯ q⟩
 ·have:=kO q;exact k b o ⋯ (z.old b o q)
theorem Hv(h1:l1 < n)(h2:l2 < n):ZipApart (n+4) (n+2) (n+3) n (n+1) l1 l2:=PyProof.Rows.zipApart_new h1 h2
theorem SM(z:ZSt n h0 l1 l2 xs ys i s.heap)(h0n:@Eq Nat h0.objs.size n)(hl1:h0.IsList l1 xs)(hl2:h0.IsList l2 ys)(hx:xs[i]?=ae x)(hy:ys[i]?=ae y)
  (hQ:∀h',ZSt n h0 l1 l2 xs ys (i+1) h'->(∀o,s.heap.get? (n+5)=ae o->h'.get? (n+5)=ae o)->Q (ae (.ref (n+6+i))) {s with heap:=h'}):
  A5 (Bi prog w) A (pyNext (.ref (n+4))) Q E s:=by
 have p1:l1 < n:=by obtain⟨o,e,_⟩:=id hl1;have:=kO e;exact G5 this h0n
 have p2:l2 < n:=by obtain⟨o,e,_⟩:=id hl2;have:=kO e;exact G5 this h0n
 have D:=Hv p1 p2;have m1:s.heap.IsList l1 xs:=hl1.at λo e=>z.old _ o e;have m2:s.heap.IsList l2 ys:=hl2.at λo e=>z.old _ o e;obtain⟨a,b,hTO⟩:=z.to;have hsz:=z.sz;have fin:∀h',(∃f,lQ h' (n+4) (n+2) (n+3) (F0 ((n+6:Nat):Int)) f)->(∃a b,Dd h' (n+3) a b)->h'.IsListIter n l1 (i+1)->h'.IsListIter (n+1) l2 (i+1)->Dd h' (n+6+i) x y->h'.objs.size=n+6+i+1->
   (∀c o,c≠n+4->c≠n+3->c≠n->c≠n+1->s.heap.get? c=ae o->h'.get? c=ae o)->Q (ae (.ref (n+6+i))) {s with heap:=h'}:=λh' a1 a2 a3 a4 a5 a6 a7=>by
  refine hQ h' ⟨a6,.inr ⟨by omega,a1⟩,a7 _ _ ⋯ ⋯ ⋯ ⋯ z.ti,a2,a3,a4,λj hj x' y' hx' hy'=>?_,λb o q=>?_⟩ λo q=>a7 _ o ⋯ ⋯ ⋯ ⋯ q
  ·by_cases e:j=i
   ·subst e;rw[hx]at hx';rw[hy]at hy';cases hx';cases hy';exact a5
   ·exact a7 _ _ ⋯ ⋯ ⋯ ⋯ (z.pr j ⋯ x' y' hx' hy')
  ·have:=kO q;exact a7 b o ⋯ ⋯ ⋯ ⋯ (z.old b o q)
 rcases z.zp with⟨e,hz⟩|⟨e,f,hz⟩
 ·subst e;refine wpAny_pyNext_zip_item D hz z.ti hTO z.j1 z.j2 m1 m2 hx hy λh' a1 a2 a3 a4 a5 a6 a7=>?_;rw[hsz]at a1 a5 a6 ⊢;exact fin h' ⟨aj,a1⟩ ⟨_,_,a2⟩ a3 a4 a5 a6 a7
 ·have hT:s.TypeIs (.ref (n+4)) "zip":=⟨_,hz,rfl⟩;obtain⟨x0,e0⟩:∃x0,xs[0]?=ae x0:=by
   have:=(Gz.mp hx).1;exact⟨xs[0],B4 ⋯⟩
  obtain⟨y0,g0⟩:∃y0,ys[0]?=ae y0:=by
   have:=(Gz.mp hy).1;exact⟨ys[0],B4 ⋯⟩
  have hp0:Dd s.heap (n+6) x0 y0:=z.pr 0 e x0 y0 e0 g0;unfold pyNext;refine Ad (wpAny_attempt (Cp (name:=Dm "__next__") hT Eb
   (Dk Eb hT F.entry_zip_next (Tu D hz hp0 z.ti z.j1 z.j2 m1 m2 hx hy λh' a1 a3 a4 a5 a6 a7 a8=>Aw ?_) (F.args_zip_next_1 _))))
  rw[hsz]at a5 a6 ⊢;refine fin h' ⟨ai,a1⟩ ?_ a3 a4 a5 a6 a7;rcases a8 with a8|a8
  ·exact⟨_,_,a8⟩
  ·exact⟨_,_,a8 _ hTO⟩
theorem Nl(hh:A.handled=ah)(z:ZSt n h0 l1 l2 xs ys xs.size s.heap)(hle:xs.size=ys.size)(h0n:@Eq Nat h0.objs.size n)(hl1:h0.IsList l1 xs)(hl2:h0.IsList l2 ys)
  (hQ:∀h',(∀c o,c≠n+4->c≠n+3->c≠n->c≠n+1->s.heap.get? c=ae o->h'.get? c=ae o)->Q ah {s with heap:=h'}):
  A5 (Bi prog w) A (pyNext (.ref (n+4))) Q E s:=by
 have p1:l1 < n:=by obtain⟨o,e,_⟩:=id hl1;have:=kO e;exact G5 this h0n
 have p2:l2 < n:=by obtain⟨o,e,_⟩:=id hl2;have:=kO e;exact G5 this h0n
 have D:=Hv p1 p2;have m1:s.heap.IsList l1 xs:=hl1.at λo e=>z.old _ o e;have m2:s.heap.IsList l2 ys:=hl2.at λo e=>z.old _ o e;obtain⟨a,b,hTO⟩:=z.to;have hx:xs[xs.size]?=ah:=Array.getElem?_eq_none (Al _);rcases z.zp with⟨e,hz⟩|⟨e,f,hz⟩
 ·exact wpAny_pyNext_zip_end hh D hz z.ti hTO z.j1 z.j2 m1 m2 (.inl hx) hQ
 ·have hT:s.TypeIs (.ref (n+4)) "zip":=⟨_,hz,rfl⟩;have hp0:Dd s.heap (n+6) xs[0] ys[0]:=z.pr 0 e _ _ (B4 e) (B4 ⋯);unfold pyNext;refine Ad (wpAny_attempt (Cp (name:=Dm "__next__") hT Eb
   (Dk Eb hT F.entry_zip_next (Oh hh D hz hp0 z.ti z.j1 m1 hx λh' e hk he=>?_) (F.args_zip_next_1 _))))
  obtain⟨o,ho,hc⟩:=he;refine Ad (wpAny_isInstance (T:="StopIteration") (b:=ai) ⟨o,ho,hc⟩ isSubtype_stop ?_);exact Aw (hQ _ λc o c1 _ c3 _ q=>hk c o c1 c3 q)
abbrev ko(n i c:Nat):Obj:={ cls:=.type "list",dict:=ah,data:=.seq ((List.range' (n+6) i).map A6).toArray c,slots:=#[]}
theorem S2(hh:A.handled=ah)(hle:xs.size=ys.size)(hz:xs.size<=Ay)(h0n:@Eq Nat h0.objs.size n)(hl1:h0.IsList l1 xs)(hl2:h0.IsList l2 ys):
  ∀(k i:Nat)(s:Ar)(c:Nat),xs.size-i=k->i<=xs.size->ZSt n h0 l1 l2 xs ys i s.heap->s.heap.get? (n+5)=ae (ko n i c)->
  (∀(h':Heap)(c':Nat),(∀b o,h0.get? b=ae o->h'.get? b=ae o)->(∀j x y,xs[j]?=ae x->ys[j]?=ae y->Dd h' (n+6+j) x y)->h'.get? (n+5)=ae (ko n xs.size c')->R (.ok (.ret res)) {s with heap:=h'})->
  Gi (Bi prog w) A (.builtin "list.extend.loop" ⟨[.ref (n+5),.ref (n+4),res],[]⟩) R s:=by
 intro k
 induction k with
 |zero=>
  intro i s c hk hi st hS hR;have hin:i=xs.size:=by omega
  subst hin;refine Fc F.entry_extend_loop ?_;rw[Dw G2 _];show A5 _ A.in1 (pyNext (.ref (n+4))>>=_) _ _ s;refine Ad (Nl hh st hle h0n hl1 hl2 λh' hk=>?_);refine Aw (hR h' c (λb o q=>?_) (λj x y hx hy=>?_) (hk _ _ ⋯ ⋯ ⋯ ⋯ hS))
  ·have:=kO q;exact hk b o ⋯ ⋯ ⋯ ⋯ (st.old b o q)
  ·exact hk _ _ ⋯ ⋯ ⋯ ⋯ (st.pr j (Gz.mp hx).1 x y hx hy)
 |succ k ih=>
  intro i s c hk hi st hS hR;have hlt:i < xs.size:=by omega
  refine Fc F.entry_extend_loop ?_;rw[Dw G2 _];show A5 _ A.in1 (pyNext (.ref (n+4))>>=_) _ _ s;refine Ad (SM st h0n hl1 hl2 (B4 hlt) (B4 ⋯) λh' st' hk'=>?_);have hS':=hk' _ hS;show A5 _ A.in1 (updateSeq (n+5) (·.push (.ref (n+6+i)))>>=_) _ _ _;have hl:((List.range' (n+6) i).map A6).toArray.size=i:=by simp
  obtain⟨c2,e2⟩:∃c2,(h'.update (n+5) (Co (·.push (.ref (n+6+i))))).get? (n+5)=ae (ko n (i+1) c2):=by
   rw[D5 _ hS' rfl];rw[show ko n (i+1)=λc2=>ko n (i+1) c2 from rfl];unfold ko;rw[List.range'_1_concat,A9,Ba,F7,<-List.push_toArray];exact⟨_,rfl⟩
  refine Ad (wpAny_updateSeq hS' rfl (Aw ⟨Gw G2 _,ih (i+1) _ c2 ⋯ hlt (st'.frame h0n ?_ λb o hb q=>?_) e2 λh'' c' b1 b2 b3=>hR h'' c' b1 b2 b3⟩) (by rw[hl];omega) (by rw[Array.size_push,hl];omega))
  ·exact(Cs ..).1
  ·exact(D0 _ _ (Ne.symm hb)).trans q
theorem T4:typeLookup (.type "zip") "__len__"=pure ah:=by rw[typeLookup_type,builtinLookup_eq_fast];kernel_rfl
theorem KZ:typeLookup (.type "zip") "__length_hint__"=pure ah:=by rw[typeLookup_type,builtinLookup_eq_fast];kernel_rfl
theorem UJ(hh:A.handled=ah)(hle:xs.size=ys.size)(hz:xs.size<=Ay)(h0n:@Eq Nat h0.objs.size n)(hl1:h0.IsList l1 xs)(hl2:h0.IsList l2 ys)
  (st:ZSt n h0 l1 l2 xs ys 0 s.heap) (hS:s.heap.get? (n+5)=ae {cls:=.type "list",data:=.seq #[] c})
  (hR:∀(h':Heap)(c':Nat),(∀b o,h0.get? b=ae o->h'.get? b=ae o)->(∀j x y,xs[j]?=ae x->ys[j]?=ae y->Dd h' (n+6+j) x y)->h'.get? (n+5)=ae (ko n xs.size c')->R (.ok (.ret res)) {s with heap:=h'}):
  A5 (Bi prog w) A.in1 (Eo (.ref (n+5)) (.ref (n+4)) res)
   (λfin s'=>match fin with|.done f=>R (.ok f) s'|.again c'=>c'.quiet=ai/\Gi (Bi prog w) A c' R s') (λe s'=>R (.error e) s') s:=by
 have hzz:IsZip s.heap (n+4) (n+2) (n+3) .none:=st.zp.elim (λz=>z.2) λz=>absurd z.1 (Ec 0);have hT:s.TypeIs (.ref (n+4)) "zip":=⟨_,hzz,rfl⟩;unfold Eo;refine Ad (Fx hT ?_);have h1:Builtin.List.listSameRef (.ref (n+5)) (.ref (n+4))=aj:=by simp[Builtin.List.listSameRef]
 have h2:(Et "zip"==Et "list")=aj:=by decide
 have h3:(Et "zip"==Et "tuple")=aj:=by decide
 simp only[h1,h2,h3,Bool.or_false,C6,if_false];refine Ad (wpAny_pyIter_zip hzz ?_);refine Ad (Ct ?_);unfold Builtin.List.listLengthHint;refine Ad (wpAny_specialOf hT T4 ?_);show A5 _ A.in1 (specialOf (A6 (n+4)) (Dm "__length_hint__")>>=_) _ _ _;refine Ad (wpAny_specialOf hT KZ ?_);refine Aw ?_;show A5 _ A.in1 (rule "list.extend.makes-room">>=λ_=>Builtin.List.listTouch (.ref (n+5))>>=λ_=>
  again (.builtin "list.extend.loop" ⟨[.ref (n+5),.ref (n+4),res],[]⟩)) _ _ _
 refine Ad (wpAny_rule ?_);refine Ad ?_;show A5 _ A.in1 (updateSeq (n+5) (·.push .none)>>=λ_=>updateSeq (n+5) (·.pop)) _ _ _;refine Ad (wpAny_updateSeq hS rfl ?_);have hS₂:=D5 (Co (·.push B8)) hS rfl;refine wpAny_updateSeq (hz:=by seq_fits) hS₂ rfl ?_;have hS₃:=D5 (Co (·.pop)) hS₂ rfl;refine Aw ⟨Gw G2 _,S2 hh hle hz h0n hl1 hl2 xs.size 0 _ _ rfl (Bo _) (st.frame h0n ?_ λb o hb q=>?_) hS₃ λh' c' b1 b2 b3=>hR h' c' b1 b2 b3⟩
 ·exact(Cs ..).1.trans (Cs ..).1
 ·exact(D0 _ _ (Ne.symm hb)).trans ((D0 _ _ (Ne.symm hb)).trans q)
theorem Uh(hh:A.handled=ah)(hle:xs.size=ys.size)(hz:xs.size<=Ay)(hl1:s.heap.IsList l1 xs)(hl2:s.heap.IsList l2 ys)
  (hQ:∀(h':Heap)(c:Nat),(∀b o,s.heap.get? b=ae o->h'.get? b=ae o)->(∀j x y,xs[j]?=ae x->ys[j]?=ae y->Dd h' (s.heap.objs.size+6+j) x y)->h'.get? (s.heap.objs.size+5)=ae (ko s.heap.objs.size xs.size c)->Q (.ref (s.heap.objs.size+5)) {s with heap:=h'}):
  A5 (Bi prog w) A (call (.type "zip") [.ref l1,.ref l2]) (λu s1=>A5 (Bi prog w) A (call (.type "list") [u]) Q E s1) E s:=by
 refine call_zip_2 hl1 hl2 λh' a1 a2 a3 a4 a5 a6 a7=>?_;refine callType_codes (Q₁:=λobj s₁=>obj=.ref h'.objs.size/\s₁={ s with heap:=h'.push {cls:=.type "list",data:=.seq #[]}}) F.called_list (F.typeCall_list_1 _) F.entry_list_init
  (code_list_new _ ⟨rfl,rfl⟩) λobj s₁ q1=>?_
 obtain⟨rfl,rfl⟩:=q1;have hS:(h'.push {cls:=.type "list",data:=.seq #[]}).get? h'.objs.size=ae {cls:=.type "list",data:=.seq #[]}:=Bb _ rfl;rw[a6]at hS ⊢;refine⟨⟨_,hS,rfl⟩,F.args_list_init_2 _ _,?_⟩;show A5 _ A.in1.in1 (do let old <-Builtin.List.listItems (.ref (s.heap.objs.size+5));Builtin.List.listUpdate (.ref (s.heap.objs.size+5)) (λ_=>#[]);letGo old.toList.reverse;Eo (.ref (s.heap.objs.size+5)) (.ref (s.heap.objs.size+4)) .none) _ _ _;refine Ad ?_;unfold Builtin.List.listItems;refine Ad (Dq hS rfl (Aw ?_));show A5 _ A.in1.in1 (updateSeq (s.heap.objs.size+5) (λ_=>#[])>>=λ_=>letGo (#[]:Array Ak).toList.reverse>>=λ_=>Eo (.ref (s.heap.objs.size+5)) (.ref (s.heap.objs.size+4)) .none) _ _ _;refine Ad (wpAny_updateSeq hS rfl ?_);have hS₂:=D5 (Co (λ_=>(#[]:Array Ak))) hS rfl;have up:∀b o,b≠s.heap.objs.size+5->h'.get? b=ae o->((h'.push {cls:=.type "list",data:=.seq #[]}).update (s.heap.objs.size+5) (Co (λ_=>(#[]:Array Ak)))).get? b=ae o:=λb o hb q=>
  (D0 _ _ (Ne.symm hb)).trans (Ai _ q)
 refine Ad (wpAny_letGo ?_);refine UJ (A:=A.in1) (h0:=s.heap) hh hle hz rfl hl1 hl2 ⟨?_,.inl ⟨rfl,up _ _ ⋯ a1⟩,up _ _ ⋯ a2,⟨_,_,up _ _ ⋯ a3⟩,a4.at λo q=>up _ o ⋯ q,a5.at λo q=>up _ o ⋯ q,λj hj=>absurd hj (Nat.not_lt_zero _),λb o q=>?_⟩ hS₂ λh'' c' b1 b2 b3=>⟨rfl,hQ h'' c' b1 b2 b3⟩
 ·show Array.size _=_;rw[(Cs ..).1,Em,a6]
 ·have:=kO q;exact up b o ⋯ (a7 b o q)
end
end L2
namespace L2
open PySem PySem.Spec PyProof.Rows
def gc(H:Hp)(n:Nat)(xv yv:List V):Hp:=λ(b:Nat)=>if b=n+5 then ae (.lst ((List.range' (n+6) xv.length).map V.ref))else if n+6<=b/\b < n+6+xv.length then ae (.tup [xv.getD (b-(n+6)) .non,yv.getD (b-(n+6)) .non])else H b
def qc(H:Hp)(xv yv:List V)(Q:VK):Prop:=∀(D:Addr)(as:List Addr)(H':Hp),as.length=xv.length->gT H H'->H D=ah->(∀a∈as,H a=ah/\a≠D)->H' D=ae (.lst (as.map V.ref))->
 (∀(i:Nat) a x y,as[i]?=ae a->xv[i]?=ae x->yv[i]?=ae y->H' a=ae (.tup [x,y]))->Q (.ref D) H'
theorem BR:∀l:List Nat,Vals (l.map V.ref) (l.map A6)
 |[]=>.nil
 |_::l=>.cons rfl (BR l)
theorem Si{σ:St}{xv yv:List V}{us ws:List Ak}{h3:Heap}(I:Inv X pins σ H s)(hk:∀b o,s.heap.get? b=ae o->h3.get? b=ae o)
  (hx:Vals xv us) (hy:Vals yv ws) (hl:xv.length=yv.length) (hz:xv.length<=Ay) (hp:∀j x y,us.toArray[j]?=ae x->ws.toArray[j]?=ae y->Dd h3 (s.heap.objs.size+6+j) x y)
  (hL:h3.get? (s.heap.objs.size+5)=ae (ko s.heap.objs.size us.toArray.size c)) (q:qc H xv yv Q):EP X pins σ Q (.ref (s.heap.objs.size+5)) {s with heap:=h3,toks:=tk}:=by
 have lx:=hx.length;have ly:=hy.length;have old:∀{b:Nat} {o},H b=ae o->@LT.lt Nat _ b s.heap.objs.size:=λe=>I.hok.lt e;have e5:gc H s.heap.objs.size xv yv (s.heap.objs.size+5)=ae (.lst ((List.range' (s.heap.objs.size+6) xv.length).map V.ref)):=by unfold gc;nofun
 have e6:∀j,j < xv.length->gc H s.heap.objs.size xv yv (s.heap.objs.size+6+j)=ae (.tup [xv.getD j .non,yv.getD j .non]):=λj hj=>by
  unfold gc;rw[if_neg ⋯,if_pos ⋯,Nat.add_sub_cancel_left]
 have eo:∀b:Nat,b < s.heap.objs.size->gc H s.heap.objs.size xv yv b=H b:=λb hb=>by
  unfold gc;rw[if_neg ⋯,if_neg ⋯]
 have hsame:gT H (gc H s.heap.objs.size xv yv):=λb o e=>(eo b (old e)).trans e;have hnew:HOk X.prog X.w (gc H s.heap.objs.size xv yv) h3:=λ(b:Nat) o e=>by
  by_cases hb:b=s.heap.objs.size+5
  ·subst hb;rw[e5]at e;cases e;refine⟨by simpa using hz,_,c,BR _,?_⟩;rw[lx];exact hL
  ·by_cases hc:s.heap.objs.size+6<=b/\b < s.heap.objs.size+6+xv.length
   ·obtain⟨j,rfl⟩:∃j,b=s.heap.objs.size+6+j:=⟨b-(s.heap.objs.size+6),by omega⟩;have hj:j < xv.length:=by omega
    rw[e6 j hj]at e;cases e;obtain⟨u,hu,ru⟩:=hx.get (Ah hj);obtain⟨v,hv,rv⟩:=hy.get (Ah (show j < yv.length by omega));have g:=hp j u v (by simpa using hu) (by simpa using hv);have x1:xv.getD j .non=xv[j]:=by simp[hj]
    have y1:yv.getD j .non=yv[j]:=by simp[show j < yv.length by omega]
    rw[x1,y1];exact⟨by show 2<=Ay;decide,[u,v],.cons ru (.cons rv .nil),⟨_,g,rfl,⟨_,rfl⟩,rfl⟩⟩
   ·have e2:H b=ae o:=by
     unfold gc at e;rw[if_neg hb,if_neg hc]at e;exact e
    exact(I.hok b o e2).stay (λcc u _ z=>hk cc u z) (λcc z=>hsame _ _ z) λcc ys z=>hsame _ _ z
 refine⟨.ref (s.heap.objs.size+5),_,I.call' (s':={ s with heap:=h3,toks:=tk}) (ch:=[]) rfl ?_ hnew I.bare (λb hb=>nomatch hb),rfl,q (s.heap.objs.size+5) (List.range' (s.heap.objs.size+6) xv.length) _ (by simp) hsame (I.hok.fresh ⋯) (λa ha=>?_) e5 λi a x y ha hxi hyi=>?_⟩
 ·refine⟨λb o e n _ _=>hk b o e,λb o e n _ _=>⟨o.slots,hk b o e⟩,λ(b:Nat) o e n _=>(eo b (kO e)).trans n,λb o e _=>⟨o,hk b o e⟩,λb ys z=>hsame _ _ z,λb o' u z=>hsame _ _ z,λb ps z=>⟨#[],by rw[Array.append_empty];exact hsame _ _ z⟩⟩
 ·obtain⟨h1,_⟩:=List.mem_range'_1.mp ha;exact⟨I.hok.fresh (A4 (Nat.le_add_right _ _) h1),λz=>by rw[z]at h1;exact absurd h1 (by show ¬(s.heap.objs.size+6<=s.heap.objs.size+5);omega)⟩
 ·obtain⟨hi,e⟩:=Ao.mp ha;rw[List.getElem_range',Nat.one_mul]at e;subst e;rw[List.length_range']at hi;rw[e6 i hi];obtain⟨h1,g1⟩:=Ao.mp hxi;obtain⟨h2,g2⟩:=Ao.mp hyi;rw[<-g1,<-g2];simp[h1,h2]
def CQ(K:Ag)(ta:TA):TE:=λσ H Q=>ta σ H λvs H1=>∃a b xs ys,vs=[.ref a,.ref b]/\SqL K H1 a xs/\SqL K H1 b ys/\xs.length=ys.length/\xs.length<=Ay/\qc H1 xs ys Q
theorem ou:B3 "list"=ae (.type "list"):=by decide +kernel
theorem Nj{p p' pos pos':Pos}(hh:X.A.handled=ah)(hgz:Gl X "zip")(hmz:X.mg "zip"=ah)(hg:Gl X "list")(hm:X.mg "list"=ah)(ha:PA X [e1,e2] ta)
  (hs:Az [e1,e2] X.env=[(aj,eval e1 X.env),(aj,eval e2 X.env)]:=by rfl) (hs2:Az [e2] X.env=[(aj,eval e2 X.env)]:=by rfl)
  (he:Az [Expr.Call (.Name "zip" p') [e1,e2] [] pos'] X.env=(aj,eval (Expr.Call (.Name "zip" p') [e1,e2] [] pos') X.env)::Az [] X.env:=by rfl) (hpl:(Dj pos (Az [] X.env)).any (·.1)=aj:=by rfl):
  PE X (.Call (.Name "list" p) [.Call (.Name "zip" p') [e1,e2] [] pos'] [] pos) (CQ X.K ta):=by
 intro pins s σ H Q I h;refine Gb (k9 I hg hm ou ?_);refine Da ?_ he hpl;rw[he];show A5 _ _ (spliced ((aj,eval (Expr.Call (.Name "zip" p') [e1,e2] [] pos') X.env)::Dj pos (Az [] X.env))) _ _ s;refine Calls.spliced_cons (Gb (k9 I hgz hmz CP (Da (aY (ha pos' pins s σ H _ I h) λus s1 ⟨vs,H1,I1,r1,q1⟩=>?_) (by rw[hs,hs2]) (by rw[hs2];rfl))));obtain⟨a,b,xs,ys,e,qa,qb,hl,hz,q⟩:=q1;subst e;cases r1 with
 |cons r rr=>
  cases rr with
  |cons r' rr=>
   cases rr;cases r;cases r';obtain⟨its,rv,pp,_⟩:=I1.list qa;obtain⟨jts,rw',pp',_⟩:=I1.list qb;have l1:=rv.length;have l2:=rw'.length;refine aY (Uh (s:=s1) (E:=X.xe) hh (xs:=its.toArray) (ys:=jts.toArray) (by simp;omega) (by simp;omega) pp.isList pp'.isList λh' c b1 b2 b3=>Si (tk:=s1.toks) I1 b1 rv rw' hl hz b2 b3 q) λu s2 hq=>?_;exact Calls.spliced_nil hq
end L2
namespace DL
open PySem L2 Nb
section
variable{X:Cx}{a b:Expr}{aP:List Expr}{ta tb:TE}{wa wb:DT}{pos p:Pos}{K:Ag}
def jB(wa wb:DT):fN:=λδ n Q=>wa δ n λx n1=>wb δ n1 λy n2=>∃(d:Aa)(k:Nat),x=.d (.list [d])/\y=.d (.int k)/\k<=1000/\Q (Bj k d) n2
theorem EU(h:RdX H B x d):∀k:Nat,RdXs H B (Bj k x) (Bj k d)
 |0=>.nil
 |k+1=>.cons h (EU h k)
theorem HF{α:Type}(x:α):∀k:Nat,(Bj k [x]).flatten=Bj k x
 |0=>rfl
 |k+1=>by rw[Dz,F9,HF x k,Dz];rfl
theorem MR(ha:DE X a ta wa)(hb:DE X b tb wb):DF X (.BinOp a .Mult b pos) (dz pQ ta tb) (jB wa wb):=⟨fj OM ha.pe hb.pe,λC H B σ δ n Q Q' R z k=>
 ha.sd C H B σ δ n _ _ R z λv x H1 n1 R1 k1 r1 q1=>hb.sd C H1 B σ δ n1 _ _ R1 q1 λu y H2 n2 R2 k2 r2 q2=>by
  obtain⟨d,m,rfl,rfl,hm,kq⟩:=q2;cases(show RdX H2 B u (.int m)from r2);cases(show RdX H2 B v (.list [d])from r1.kp k2 R1.bt)with
  |@lst l xs _ e1 e2 e3 e4=>
   cases e4 with
   |cons h1 h2=>
    cases h2;refine⟨l,m,_,rfl,rfl,e1,by omega,?_,?_,λD hD=>?_⟩
    ·have:(2:Int)^63=9223372036854775808:=by decide
     omega
    ·rw[Av,Nat.one_mul];exact fc ⋯
    ·rw[Bs,HF];refine k D _ _ _ n2 (R2.new hD) ((k1.trans k2).trans (Kp.new hD)) (R2.was (k1.trans k2) hD) bQ ?_ ((EU h1 m).fresh hD) kq;rw[Gf];exact fc ⋯⟩
def rH(w:eZ):fN:=λδ n Q=>w δ n λxs n1=>∃as bs,xs=[.d (.list as),.d (.list bs)]/\as.length=bs.length/\Q (dv as bs) n1
theorem zH(mv:∀{v d},RdX H1 B v d->RdX H' B' v d):∀(ads:List Addr)(us ws:List V)(as bs:List Aa),RdXs H1 B us as->RdXs H1 B ws bs->ads.length=us.length->us.length=ws.length->(∀a∈ads,¬B' a)->
  (∀(i:Nat) a x y,ads[i]?=ae a->us[i]?=ae x->ws[i]?=ae y->H' a=ae (.tup [x,y]))->RdXs H' B' (ads.map V.ref) (dv as bs)
 |[],_,_,_,_,.nil,.nil,_,_,_,_=>.nil
 |a::ads,u::us,v::ws,_::as,_::bs,.cons r rr,.cons t tt,h1,h2,nb,hit=>.cons (.tup (hit 0 a u v rfl rfl rfl) (nb a As) (by show 2<=Ay;decide) (.cons (mv r) (.cons (mv t) .nil)))
   (zH mv ads us ws as bs rr tt (Fy h1) (Fy h2) (λb hb=>nb b (Au _ hb)) λi b x y e1 e2 e3=>hit (i+1) b x y e1 e2 e3)
 |[],_::_,_,_,_,_,_,h1,_,_,_=>nomatch h1
 |_::_,[],_,_,_,_,_,h1,_,_,_=>nomatch h1
 |_::_,_::_,[],_,_,_,_,_,h2,_,_=>nomatch h2
theorem CI(h:RdX H B v (.list as)):∃a us,v=.ref a/\H a=ae (.lst us)/\us.length<=Ay/\RdXs H B us as:=by
 cases h with
 |lst f1 f2 f3 f4=>exact⟨_,_,rfl,f1,f3,f4⟩
theorem L3{p' pos':Pos}(ha:DA X [e1,e2] tR wR)(hh:X.A.handled=ah)(hgz:Gl X "zip")(hmz:X.mg "zip"=ah)(hg:Gl X "list")(hm:X.mg "list"=ah)(hK:X.K=K)
  (hs:Az [e1,e2] X.env=[(aj,eval e1 X.env),(aj,eval e2 X.env)]:=by rfl) (hs2:Az [e2] X.env=[(aj,eval e2 X.env)]:=by rfl)
  (he:Az [Expr.Call (.Name "zip" p') [e1,e2] [] pos'] X.env=(aj,eval (Expr.Call (.Name "zip" p') [e1,e2] [] pos') X.env)::Az [] X.env:=by rfl) (hpl:(Dj pos (Az [] X.env)).any (·.1)=aj:=by rfl):
  DF X (.Call (.Name "list" p) [.Call (.Name "zip" p') [e1,e2] [] pos'] [] pos) (CQ K tR) (rH wR):=by
 subst hK;refine⟨Nj hh hgz hmz hg hm ha.pa hs hs2 he hpl,λC H B σ δ n Q Q' R q k=>ha.sd C H B σ δ n _ _ R q λvs xs H1 n1 R1 k1 r1 q1=>?_⟩;obtain⟨as,bs,rfl,hl,kq⟩:=q1;cases r1 with
 |cons r rr=>
  cases rr with
  |cons r' rr=>
   cases rr;obtain⟨aa,us,rfl,f1,f3,f4⟩:=CI r;obtain⟨ab,ws,rfl,g1,g3,g4⟩:=CI r';have lu:=f4.len;have lw:=g4.len;refine⟨aa,ab,us,ws,rfl,SqL.of f1,SqL.of g1,by omega,f3,λD ads H' hla sm hD had hD' hit=>?_⟩;have k3:Kp C.t H H':=k1.trans λb o e _=>sm b o e;refine k D _ _ H' n1 (R1.same sm) k3 (R1.was k1 hD) hD' (by rw[Ab,hla];exact f3) ?_ kq;have mv:∀{v d},RdX H1 B v d->RdX H' (λb=>B b\/b=D) v d:=λh=>h.move λb o e nb=>⟨sm b o e,λz=>z.elim nb λz=>by subst z;rw[hD]at e;cases e⟩;exact zH mv ads us ws as bs f4 g4 hla ⋯ (λa ha z=>z.elim (R1.nb (had a ha).1) (had a ha).2) hit
end
def ni:Aa->Bool
 |.list _=>ai
 |.tuple _=>ai
 |_=>aj
section
variable{X:Cx}{a:Expr}{ta:TE}{wa:DT}{pos p:Pos}{K:Ag}
def AU(K:Ag):List V->Hp->VK->Prop:=λxs H Q=>∃x d q,xs=[x,.ref q]/\H q=ae (.tup [.ty "tuple",.ty "list"])/\RdD K H x d/\Q (.bl (ni d)) H
theorem UA(hK:X.K=K:=by rfl):CallR X (.builtin "isinstance") (AU K):=by
 subst hK;intro pins s σ H xs us Q I r h;obtain⟨x,d,q,rfl,hq,hd,k⟩:=h;obtain⟨u,u',rfl,ru,ru'⟩:=qr r;cases(show u'=A6 q from ru');obtain⟨_,vs,rv,pp⟩:=(show ObjOk X.prog X.w H s.heap q (.tup [.ty "tuple",.ty "list"])from I.hok q _ hq);obtain⟨⟨cls,dd,dt,sl⟩,h1,h2,⟨n,h3⟩,_⟩:=pp;obtain⟨v1,v2,rfl,r1,r2⟩:=qr rv;cases(show v1=Et "tuple" from r1);cases(show v2=Et "list" from r2);cases(show cls=Et "tuple" from h2);cases(show dt=.seq _ n from h3);cases hd with
 |non=>cases(show u=B8 from ru);exact Fs PySem.W.kitx_none I.kIn Dy h1 rfl (λz=>nomatch z) λtk=>⟨.bl aj,H,I.tok tk,rfl,k⟩
 |bl y=>cases(show u=Value.bool y from ru);exact Fs PySem.W.kitx_bool I.kIn Dy h1 rfl (λz=>nomatch z) λtk=>⟨.bl aj,H,I.tok tk,rfl,k⟩
 |int i=>obtain⟨t,z⟩:=(show ∃t,u=Value.int i t from ru);cases z;exact Fs PySem.W.kitx_int I.kIn Dy h1 rfl (λz=>nomatch z) λtk=>⟨.bl aj,H,I.tok tk,rfl,k⟩
 |str y=>obtain⟨t,z⟩:=(show ∃t,u=Ge y t from ru);cases z;exact Fs PySem.W.kitx_str I.kIn Dy h1 rfl (λz=>nomatch z) λtk=>⟨.bl aj,H,I.tok tk,rfl,k⟩
 |@lst a xs ds ea eb=>
  cases(show u=A6 a from ru);obtain⟨its,_,pl,_⟩:=I.list ea;obtain⟨o,e1,e2,_⟩:=pl.isList;exact Fs PySem.W.kitx_list I.kIn ⟨o,e1,e2⟩ h1 rfl (λz=>nomatch z) λtk=>⟨.bl ai,H,I.tok tk,rfl,k⟩
 |@tup a xs ds ea eb=>
  cases(show u=A6 a from ru);obtain⟨its,_,pl,_⟩:=I.tuple ea;obtain⟨o,e1,e2,_⟩:=pl;exact Fs PySem.W.kitx_tuple I.kIn ⟨o,e1,e2⟩ h1 rfl (λz=>nomatch z) λtk=>⟨.bl ai,H,I.tok tk,rfl,k⟩
def xR(w:DT):DT:=λδ n Q=>w δ n λx n1=>match x with
 |.d d=>Q (.d (.bool (ni d))) n1
 |_=>False
theorem TC{p1 p2 tp:Pos}{kt:Nat}(hg:Gl X "isinstance")(hm:X.mg "isinstance"=ah)(hg1:Gl X "tuple")(hm1:X.mg "tuple"=ah)(hg2:Gl X "list")(hm2:X.mg "list"=ah)(ha:DE X a ta wa)(hK:X.K=K:=by rfl)
  (he:Az [a,.Tuple [.Name "tuple" p1,.Name "list" p2] kt tp] X.env=(aj,eval a X.env)::Az [.Tuple [.Name "tuple" p1,.Name "list" p2] kt tp] X.env:=by rfl) (he2:Az [.Tuple [.Name "tuple" p1,.Name "list" p2] kt tp] X.env=(aj,eval (.Tuple [.Name "tuple" p1,.Name "list" p2] kt tp) X.env)::Az [] X.env:=by rfl)
  (he3:Az [.Name "tuple" p1,.Name "list" p2] X.env=(aj,eval (.Name "tuple" p1) X.env)::Az [.Name "list" p2] X.env:=by rfl) (he4:Az [.Name "list" p2] X.env=(aj,eval (.Name "list" p2) X.env)::Az [] X.env:=by rfl)
  (hpl:(Dj pos (Az [.Tuple [.Name "tuple" p1,.Name "list" p2] kt tp] X.env)).any (·.1)=aj:=by rfl):
  DE X (.Call (.Name "isinstance" p) [a,.Tuple [.Name "tuple" p1,.Name "list" p2] kt tp] [] pos) (fY (AU K) (c7 ta (c7 (l8 (c7 (tC (.ty "tuple")) (c7 (tC (.ty "list")) bL))) bL))) (xR wa):=by
 refine⟨mN (UA hK) hg hm uO (dF ha.pe (dF (CT (dF (vC (v:=.ty "tuple") hg1 hm1 xj rfl) (dF (vC (v:=.ty "list") hg2 hm2 L2.ou rfl) fI he4) he3)) fI he2) he) ∎ ∎ he hpl,λC H B σ δ n Q Q' R q k=>ha.sd C H B σ δ n _ _ R q λv x H1 n1 R1 k1 r1 q1=>?_⟩;cases x with
 |d d=>
  refine⟨by show 2<=Ay;decide,λt ht=>?_⟩;refine⟨v,d,t,rfl,bQ,?_,k _ _ _ n1 (R1.new ht) (k1.trans (Kp.new ht)) (wd (.bl _)) q1⟩;have r1:RdX H1 B v d:=r1;exact(r1.move λb o e nb=>⟨by rw[aW (bY e ht)];exact e,nb⟩).rd
 |tp=>exact q1.elim
 |dk _=>exact q1.elim
 |ln _=>exact q1.elim
 |ob _=>exact q1.elim
end
section
variable{X:Cx}{K:Ag}
structure SmlA(d:Aa):Prop where
 lay:B1 d=ai
 dep:Bv d<=20
 shw:Dn d=ai
 len:d.shown.length<=Ay
def JJ(K:Ag):List V->Hp->VK->Prop:=λxs H Q=>∃x d,xs=[x]/\RdD K H x d/\SmlA d/\Q (.str d.shown) H
theorem PN(hg:X.A.guards=ae [])(hu:X.A.units+64 < Fu)(hK:X.K=K:=by rfl):CallR X (.builtin "repr") (JJ K):=by
 subst hK;intro pins s σ H xs us Q I r h;obtain⟨x,d,rfl,hd,hs,q⟩:=h;obtain⟨u,rfl,ru⟩:=jA r;have hsh:=hs.shw;have hln:=hs.len;cases hd with
 |non=>
  cases(show u=B8 from ru);exact P.repr_of_none ⟨.str _,H,I.tok _,⟨_,rfl⟩,q⟩
 |bl b=>
  cases(show u=Value.bool b from ru);exact P.repr_of_bool ⟨.str _,H,I.tok _,⟨_,rfl⟩,by cases b<;>exact q⟩
 |int i=>
  obtain⟨t,rfl⟩:=(show ∃t,u=Value.int i t from ru);exact P.repr_of_int (of_decide_eq_true hsh) ⟨.str _,H,I.tok _,⟨_,rfl⟩,q⟩
 |str y=>
  obtain⟨t,rfl⟩:=(show ∃t,u=Ge y t from ru);exact P.repr_of_str ⟨.str _,H,I.tok _,⟨_,rfl⟩,q⟩ hln
 |@lst a _ _ h1 h2=>
  cases(show u=A6 a from ru);obtain⟨as,hr⟩:=RdD.reads I (RdD.lst h1 h2) (show RelV (.ref a) (A6 a)from rfl);have hdp:=hs.dep;refine repr_of_reads' hr hsh (PyData.noDict_hsm (PyData.hasDict_of_canLay _ hs.lay)) hg ⋯ (λ_ _ e=>e) (λh' u tk hk=>?_) hln;exact⟨.str _,H,I.kept hk,⟨u,rfl⟩,q⟩
 |@tup a _ _ h1 h2=>
  cases(show u=A6 a from ru);obtain⟨as,hr⟩:=RdD.reads I (RdD.tup h1 h2) (show RelV (.ref a) (A6 a)from rfl);have hdp:=hs.dep;refine repr_of_reads' hr hsh (PyData.noDict_hsm (PyData.hasDict_of_canLay _ hs.lay)) hg ⋯ (λ_ _ e=>e) (λh' u tk hk=>?_) hln;exact⟨.str _,H,I.kept hk,⟨u,rfl⟩,q⟩
def gW:List Wv->Int->DQ->Prop:=λxs n Q=>match xs with
 |[.d d]=>SmlA d/\Q (.d (.str d.shown)) n
 |_=>False
theorem OA:dM (JJ K) gW:=λC H B σ δ n vs xs Q Q' R r h k=>by
 unfold gW at h
 split at h
 ·rename_i d;cases r with
  |cons r1 r2=>
   cases r2;have r1:RdX H B _ d:=r1;exact⟨_,d,rfl,r1.rd,h.1,k _ _ H n R (Kp.refl _ _) (wd (show RdX H B _ (.str _)from .str _ h.1.len)) h.2⟩
 ·exact h.elim
end
section
variable{X:Cx}{e:Expr}{te:TE}{we:DT}{pos p2:Pos}{K:Ag}
def gn(w:DT)(l u:jW):DT:=λδ n Q=>w δ n λx n1=>l δ n1 λa n2=>u δ n2 λb n3=>match gC x with
 |some ds=>Q (.d (.list (bo ds a b))) n3
 |none=>False
theorem T7(he:DE X e te we)(hl:DOp X lo tl wl)(hh:DOp X hi th wh)(hK:X.K=K:=by rfl):DE X (.Subscript e (.Slice lo hi ah p2) pos) (rD (mY K) te tl th) (gn we wl wh):=by
 subst hK;refine⟨sj uT he.pe hl.po hh.po,λC H B σ δ n Q Q' R q k=>he.sd C H B σ δ n _ _ R q λv x H1 n1 R1 k1 r1 q1=>
  hl.sd C H1 B σ δ n1 _ _ R1 q1 λa H2 n2 R2 k2 q2=>hh.sd C H2 B σ δ n2 _ _ R2 q2 λb H3 n3 R3 k3 q3=>?_⟩
 split at q3
 ·rename_i ds ex;have r3:=(r1.kp k2 R1.bt).kp k3 R2.bt;obtain⟨aa,xs,rfl,e1,e3,e4⟩:=uL r3 ex;have kk:=(k1.trans k2).trans k3;refine⟨aa,xs,rfl,SqL.of e1,λp hp=>?_⟩;refine k _ _ _ n3 (R3.new hp) (kk.trans (Kp.new hp)) (wd (show RdX _ B _ (.list (bo ds a b))from .lst bQ (R3.nb hp) (A4 (pd xs a b) e3) ?_)) q3;unfold bo fg;rw[<-e4.len];exact(((e4.drop _).take _).fresh hp).less λb z=>.inl z
 ·exact q3.elim
end
end DL
namespace Nb
open PySem L2
abbrev tx(d:Aa):List Nat:=(Er d).cps.toList
def iH(x:Str):Bool:=x.cps.toList.all λc=>decide (97<=c)&&decide (c<=122)
mutual
def bA:Aa->Bool
 |.none=>ai
 |.bool _=>ai
 |.int i=>decide (-2<=i)&&decide (i<=300)
 |.str x=>iH x
 |.list xs=>gw xs
 |.tuple xs=>gw xs
 |.dict _=>aj
def gw:List Aa->Bool
 |[]=>ai
 |x::xs=>bA x&&gw xs
end
theorem tF:∀{xs:List Aa},gw xs=ai->∀x∈xs,bA x=ai
 |[],_,x,hx=>nomatch hx
 |y::xs,h,x,hx=>by
  rw[gw,A2]at h;rcases Aq.mp hx with rfl|hx
  ·exact h.1
  ·exact tF h.2 x hx
theorem yA:∀{xs:List Aa},(∀x∈xs,bA x=ai)->gw xs=ai
 |[],_=>by rw[gw]
 |y::xs,h=>by rw[gw,h y As,yA λx hx=>h x (Au _ hx)];rfl
theorem nX:∀{xs:List Aa}{n:Nat},Fv xs<=n->∀x∈xs,Bv x<=n
 |[],_,_,x,hx=>nomatch hx
 |y::xs,n,h,x,hx=>by
  rw[Fv]at h;rcases Aq.mp hx with rfl|hx
  ·omega
  ·exact nX ⋯ x hx
theorem K5(c)(h1:97<=c)(h2:c<=122):Builtin.Str.reprChar 39 c=[c]:=by
 have key:∀k:Fin 26,Builtin.Str.reprChar 39 (97+k.val)=[97+k.val]:=by decide +kernel
 have:=key ⟨c-97,by omega⟩;rw[show 97+(c-97)=c by omega]at this;exact this
theorem Jg:∀(l:List Nat)(acc:Array Nat),(∀c∈l,97<=c/\c<=122)->(l.foldl (λout c=>out++(Builtin.Str.reprChar 39 c).toArray) acc).toList=acc.toList++l
 |[],acc,_=>by rw[List.foldl_nil,Bm]
 |c::l,acc,h=>by
  obtain⟨h1,h2⟩:=h c As;rw[List.foldl_cons,Jg l _ λx hx=>h x (Au _ hx),K5 c h1 h2];simp
theorem xP(h:iH x=ai):∀c∈x.cps.toList,97<=c/\c<=122:=λc hc=>by
 have:=Dh.mp h c hc;rw[A2]at this;exact⟨of_decide_eq_true this.1,of_decide_eq_true this.2⟩
theorem uf(h:iH x=ai):tx (.str x)=39::x.cps.toList++[39]:=by
 have ha:=xP h;have hq:reprQuote x=39:=by
  unfold reprQuote;have:x.cps.contains 39=aj:=by
   rw[Array.contains_eq_mem];exact decide_eq_false λz=>absurd (ha 39 (Array.mem_toList_iff.mpr z)).1 ∎
  rw[this];rfl
 unfold tx;rw[PyData.shown_str];unfold reprText;rw[hq];show((x.cps.foldl _ #[39]).push 39).toList=_;rw[Array.toList_push,<-Array.foldl_toList,Jg _ _ ha];rfl
def qm(l:List Nat):Int:=l.foldl (λ(a:Int)(c:Nat)=>10*a+((c:Int)-48)) 0
def IW:List Nat->Int
 |45::t=>- qm t
 |t=>qm t
theorem CC(h1:-2<=i)(h2:i<=300):IW (tx (.int i))=i:=by
 have key:∀k:Fin 303,IW (Dm (toString ((k.val:Int)-2))).cps.toList=(k.val:Int)-2:=by decide +kernel
 have:=key ⟨(i+2).toNat,by omega⟩;rw[show(((i+2).toNat:Nat):Int)-2=i by omega]at this;unfold tx;rw[PyData.shown_int];exact this
def fD(c:Nat):Bool:=decide (c=45) || (decide (48<=c)&&decide (c<=57))
theorem xS(i):∀c∈tx (.int i),fD c=ai:=λc hc=>by
 cases e:fD c with
 |true=>rfl
 |false=>
  unfold fD at e;rw[Bool.or_eq_false_iff,Bool.and_eq_false_iff]at e;refine absurd hc (PyProof.Rows.shown_int_free' ⟨of_decide_eq_false e.1,?_⟩ i);rcases e.2 with z|z
  ·exact .inl (by have:=of_decide_eq_false z;omega)
  ·exact .inr (by have:=of_decide_eq_false z;omega)
theorem LS(i)(h1:-2<=i)(h2:i<=300):∃c t,tx (.int i)=c::t/\fD c=ai:=by
 cases e:tx (.int i)with
 |nil=>
  have key:∀k:Fin 303,(Dm (toString ((k.val:Int)-2))).cps.toList≠[]:=by decide +kernel
  have:=key ⟨(i+2).toNat,by omega⟩;rw[show(((i+2).toNat:Nat):Int)-2=i by omega]at this;unfold tx at e;rw[PyData.shown_int]at e;exact absurd e this
 |cons c t=>exact⟨c,t,rfl,xS i c (by rw[e];exact As)⟩
def qA(r:List Nat):Prop:=r=[]\/∃c t,r=c::t/\(c=44\/c=41\/c=93)
theorem vP(p:Nat->Bool):∀{a b r r':List Nat},(∀c∈a,p c=ai)->(∀c∈b,p c=ai)->(∀c t,r=c::t->p c=aj)->(∀c t,r'=c::t->p c=aj)->a++r=b++r'->a=b/\r=r'
 |[],[],r,r',_,_,_,_,h=>⟨rfl,h⟩
 |[],c::b,r,r',_,hb,hr,_,h=>by
  rw[Bx,El]at h;have:=hr c _ h;rw[hb c As]at this;cases this
 |c::a,[],r,r',ha,_,_,hr',h=>by
  rw[Bx,El]at h;have:=hr' c _ h.symm;rw[ha c As]at this;cases this
 |c::a,d::b,r,r',ha,hb,hr,hr',h=>by
  rw[El,El]at h;obtain⟨rfl,h2⟩:=Bk h;obtain⟨rfl,e⟩:=vP p (λx hx=>ha x (Au _ hx)) (λx hx=>hb x (Au _ hx)) hr hr' h2;exact⟨rfl,e⟩
theorem zS(h:qA r):∀c t,r=c::t->fD c=aj:=λc t e=>by
 rcases h with rfl|⟨c',t',rfl,h⟩
 ·cases e
 ·cases e;rcases h with rfl|rfl|rfl<;>decide
def fB(xs:List Aa):List Nat:=xs.flatMap λy=>44::32::tx y
theorem vK:∀(x:Aa)(xs:List Aa),(Str.join ", " (PyData.shownAll (x::xs))).cps.toList=tx x++fB xs
 |x,[]=>by
  rw[Gh,PyData.shownAll_nil];show tx x=_;unfold fB;rw[List.flatMap_nil,Bm]
 |x,y::ys=>by
  rw[Gh,Gh];have:=vK y ys;rw[Gh]at this;show((Er x++", ")++Str.join ", " (Er y::PyData.shownAll ys)).cps.toList=_;rw[Gc,Gc,Ee,Ee,this];unfold fB;rw[E7];simp[tx];rfl
theorem uF:tx (.list [])=[91,93]:=by
 unfold tx;rw[PyData.shown_list,PyData.shownAll_nil]
 decide +kernel
theorem pO(x)(xs):tx (.list (x::xs))=91::(tx x++(fB xs++[93])):=by
 unfold tx;rw[PyData.shown_list,Gc,Gc,Ee,Ee,vK];show[91]++(tx x++fB xs)++[93]=_;simp
theorem vc:tx (.tuple [])=[40,41]:=by
 unfold tx;rw[PyData.shown_tuple,PyData.shownAll_nil]
 decide +kernel
def hZ(xs:List Aa):List Nat:=if xs=[]then[44,41]else[41]
theorem qp(x)(xs):tx (.tuple (x::xs))=40::(tx x++(fB xs++hZ xs)):=by
 unfold tx;rw[PyData.shown_tuple,Gc,Gc,Ee,Ee,vK];cases xs with
 |nil=>
  show[40]++(tx x++fB [])++[44,41]=_;simp[hZ]
 |cons y ys=>
  have:((y::ys).length+1==1)=aj:=by simp
  rw[Ap,this];show[40]++(tx x++fB (y::ys))++[41]=_;simp[hZ]
def sq:Aa->Nat->Bool
 |.none,c=>decide (c=78)
 |.bool ai,c=>decide (c=84)
 |.bool aj,c=>decide (c=70)
 |.int _,c=>fD c
 |.str _,c=>decide (c=39)
 |.list _,c=>decide (c=91)
 |.tuple _,c=>decide (c=40)
 |.dict _,_=>aj
theorem UX:tx .none=[78,111,110,101]:=by unfold tx;rw[PyData.shown_none];decide +kernel
theorem Vs:tx (.bool ai)=[84,114,117,101]:=by unfold tx;rw[PyData.shown_bool];decide +kernel
theorem MS:tx (.bool aj)=[70,97,108,115,101]:=by unfold tx;rw[PyData.shown_bool];decide +kernel
theorem mX(h:bA d=ai):∃c t,tx d=c::t/\sq d c=ai:=by
 cases d with
 |none=>exact⟨_,_,UX,rfl⟩
 |bool b=>cases b;exact⟨_,_,MS,rfl⟩;exact⟨_,_,Vs,rfl⟩
 |int i=>
  rw[bA,A2]at h;exact LS i (of_decide_eq_true h.1) (of_decide_eq_true h.2)
 |str x=>rw[bA]at h;exact⟨_,_,uf h,rfl⟩
 |list xs=>
  cases xs with
  |nil=>exact⟨_,_,uF,rfl⟩
  |cons x xs=>exact⟨_,_,pO x xs,rfl⟩
 |tuple xs=>
  cases xs with
  |nil=>exact⟨_,_,vc,rfl⟩
  |cons x xs=>exact⟨_,_,qp x xs,rfl⟩
 |dict _=>rw[bA]at h;cases h
theorem tQ(h:bA d=ai)(e:tx d=c::t):c≠41/\c≠93/\c≠44:=by
 obtain⟨c',t',e',k⟩:=mX h;rw[e]at e';cases e';refine⟨λz=>?_,λz=>?_,λz=>?_⟩<;>(subst z;cases d with
  |none=>cases k
  |bool b=>cases b<;>cases k
  |int i=>cases(show fD _=ai from k)
  |str x=>cases k
  |list xs=>cases k
  |tuple xs=>cases k
  |dict _=>cases k)
theorem S5(hd:bA d=ai)(he:bA e=ai)(h:tx d++r=tx e++r'):∃c,sq d c=ai/\sq e c=ai:=by
 obtain⟨c,t,e1,k1⟩:=mX hd;obtain⟨c',t',e2,k2⟩:=mX he;rw[e1,e2,El,El]at h;have:=(Bk h).1;subst this;exact⟨c,k1,k2⟩
def iR(e:List Nat):Prop:=∃r,e=93::r\/e=41::r\/e=44::41::r
theorem MW(h:iR e):qA e:=by
 obtain⟨r,rfl|rfl|rfl⟩:=h
 ·exact .inr ⟨_,_,rfl,.inr (.inr rfl)⟩
 ·exact .inr ⟨_,_,rfl,.inr (.inl rfl)⟩
 ·exact .inr ⟨_,_,rfl,.inl rfl⟩
theorem n9(h:iR e):∀xs,qA (fB xs++e)
 |[]=>MW h
 |_::_=>.inr ⟨44,_,rfl,.inl rfl⟩
theorem EF(h:iR e)(z:e=44::32::t):False:=by
 obtain⟨r,rfl|rfl|rfl⟩:=h
 ·cases z
 ·cases z
 ·cases z
def kY(d:Aa):Prop:=∀(e:Aa)(r r':List Nat),bA d=ai->bA e=ai->qA r->qA r'->tx d++r=tx e++r'->d=e/\r=r'
theorem yi:∀{xs ys:List Aa}{e e':List Nat},(∀x∈xs,kY x)->gw xs=ai->gw ys=ai->iR e->iR e'->fB xs++e=fB ys++e'->xs=ys/\e=e'
 |[],[],_,_,_,_,_,_,_,h=>⟨rfl,h⟩
 |[],y::ys,e,e',_,_,_,h1,_,h=>(EF h1 (show e=44::32::(tx y++fB ys++e') by
   have h:e=_:=h;rw[h];unfold fB;rw[E7];simp)).elim
 |x::xs,[],e,e',_,_,_,_,h2,h=>(EF h2 (show e'=44::32::(tx x++fB xs++e) by
   have h:_=e':=h;rw[<-h];unfold fB;rw[E7];simp)).elim
 |x::xs,y::ys,e,e',hI,sx,sy,h1,h2,h=>by
  rw[gw,A2]at sx sy;have h:tx x++(fB xs++e)=tx y++(fB ys++e'):=by
   unfold fB at h ⊢;rw[E7,E7]at h;simpa using h
  obtain⟨rfl,q⟩:=hI x As y _ _ sx.1 sy.1 (n9 h1 xs) (n9 h2 ys) h;obtain⟨rfl,q2⟩:=yi (λz hz=>hI z (Au _ hz)) sx.2 sy.2 h1 h2 q;exact⟨rfl,q2⟩
theorem sH(xs)(r):iR (hZ xs++r):=by
 unfold hZ
 split
 ·exact⟨r,.inr (.inr rfl)⟩
 ·exact⟨r,.inr (.inl rfl)⟩
theorem MA{x y:Str}(h:x.cps.toList=y.cps.toList):x=y:=by
 cases x;cases y
 congr
 exact Array.toList_inj.mp h
def knd:Aa->Nat
 |.none=>0
 |.bool ai=>1
 |.bool aj=>2
 |.int _=>3
 |.str _=>4
 |.list _=>5
 |.tuple _=>6
 |.dict _=>7
def kc(c:Nat):Nat:=if c=78 then 0 else if c=84 then 1 else if c=70 then 2 else if c=39 then 4 else if c=91 then 5 else if c=40 then 6 else 3
theorem IB(h:sq d c=ai):knd d=kc c:=by
 cases d with
 |none=>rw[of_decide_eq_true (show decide (c=78)=ai from h)];rfl
 |bool b=>cases b;rw[of_decide_eq_true (show decide (c=70)=ai from h)];rfl;rw[of_decide_eq_true (show decide (c=84)=ai from h)];rfl
 |int i=>
  have h:fD c=ai:=h;unfold fD at h;rw[Bool.or_eq_true,A2,decide_eq_true_eq,decide_eq_true_eq,decide_eq_true_eq]at h;unfold kc;rw[if_neg ⋯,if_neg ⋯,if_neg ⋯,if_neg ⋯,if_neg ⋯,if_neg ⋯];rfl
 |str x=>rw[of_decide_eq_true (show decide (c=39)=ai from h)];rfl
 |list x=>rw[of_decide_eq_true (show decide (c=91)=ai from h)];rfl
 |tuple x=>rw[of_decide_eq_true (show decide (c=40)=ai from h)];rfl
 |dict _=>cases h
theorem qk{a r r':List Nat}(h:a++r=a++r'):r=r':=List.append_cancel_left h
theorem JF(d)(hI:∀xs,d=.list xs\/d=.tuple xs->∀x∈xs,kY x):kY d:=by
 intro e r r' sd se hr hr' h;obtain⟨c,k1,k2⟩:=S5 sd se h;have hk:knd d=knd e:=(IB k1).trans (IB k2).symm;clear k1 k2;cases d with
 |none=>
  cases e with
  |none=>exact⟨rfl,qk h⟩
  |bool b=>cases b<;>cases hk
  |_=>cases hk
 |bool b=>
  cases e with
  |bool b'=>
   cases b<;>cases b'<;>first|exact⟨rfl,qk h⟩|cases hk
  |_=>cases b<;>cases hk
 |int i=>
  cases e with
  |int j=>
   rw[bA,A2]at sd se;obtain⟨q,q2⟩:=vP fD (xS i) (xS j) (zS hr) (zS hr') h;have a:=CC (of_decide_eq_true sd.1) (of_decide_eq_true sd.2);have b:=CC (of_decide_eq_true se.1) (of_decide_eq_true se.2);rw[q,b]at a;exact⟨by rw[a],q2⟩
  |bool b=>cases b<;>cases hk
  |_=>cases hk
 |str x=>
  cases e with
  |str y=>
   rw[bA]at sd se;rw[uf sd,uf se]at h;have h:x.cps.toList++(39::r)=y.cps.toList++(39::r'):=by simpa using h
   obtain⟨q,q2⟩:=vP (λc=>decide (c≠39)) (λc hc=>decide_eq_true (by have:=(xP sd c hc).1;omega)) (λc hc=>decide_eq_true (by have:=(xP se c hc).1;omega)) (λc t z=>by cases z;rfl) (λc t z=>by cases z;rfl) h;exact⟨by rw[MA q],(Bk q2).2⟩
  |bool b=>cases b<;>cases hk
  |_=>cases hk
 |list xs=>
  cases e with
  |list ys=>
   rw[bA]at sd se;have hI:=hI xs (.inl rfl);cases xs with
   |nil=>
    cases ys with
    |nil=>exact⟨rfl,qk h⟩
    |cons y ys=>
     rw[uF,pO]at h;rw[gw,A2]at se;obtain⟨c,t,e1,_⟩:=mX se.1;rw[e1]at h;have:=(Bk (Bk h).2).1;exact absurd this.symm (tQ se.1 e1).2.1
   |cons x xs=>
    rw[gw,A2]at sd;cases ys with
    |nil=>
     rw[uF,pO]at h;obtain⟨c,t,e1,_⟩:=mX sd.1;rw[e1]at h;have:=(Bk (Bk h).2).1;exact absurd this (tQ sd.1 e1).2.1
    |cons y ys=>
     rw[gw,A2]at se;rw[pO,pO]at h;have h:tx x++(fB xs++(93::r))=tx y++(fB ys++(93::r')):=by simpa using h
     obtain⟨rfl,q⟩:=hI x As y _ _ sd.1 se.1 (n9 ⟨r,.inl rfl⟩ xs) (n9 ⟨r',.inl rfl⟩ ys) h;obtain⟨rfl,q2⟩:=yi (λz hz=>hI z (Au _ hz)) sd.2 se.2 ⟨r,.inl rfl⟩ ⟨r',.inl rfl⟩ q;exact⟨rfl,(Bk q2).2⟩
  |bool b=>cases b<;>cases hk
  |_=>cases hk
 |tuple xs=>
  cases e with
  |tuple ys=>
   rw[bA]at sd se;have hI:=hI xs (.inr rfl);cases xs with
   |nil=>
    cases ys with
    |nil=>exact⟨rfl,qk h⟩
    |cons y ys=>
     rw[vc,qp]at h;rw[gw,A2]at se;obtain⟨c,t,e1,_⟩:=mX se.1;rw[e1]at h;have:=(Bk (Bk h).2).1;exact absurd this.symm (tQ se.1 e1).1
   |cons x xs=>
    rw[gw,A2]at sd;cases ys with
    |nil=>
     rw[vc,qp]at h;obtain⟨c,t,e1,_⟩:=mX sd.1;rw[e1]at h;have:=(Bk (Bk h).2).1;exact absurd this (tQ sd.1 e1).1
    |cons y ys=>
     rw[gw,A2]at se;rw[qp,qp]at h;have h:tx x++(fB xs++(hZ xs++r))=tx y++(fB ys++(hZ ys++r')):=by simpa using h
     obtain⟨rfl,q⟩:=hI x As y _ _ sd.1 se.1 (n9 (sH xs r) xs) (n9 (sH ys r') ys) h;obtain⟨rfl,q2⟩:=yi (λz hz=>hI z (Au _ hz)) sd.2 se.2 (sH xs r) (sH ys r') q;exact⟨rfl,qk q2⟩
  |bool b=>cases b<;>cases hk
  |_=>cases hk
 |dict _=>rw[bA]at sd;cases sd
theorem OX:∀(n:Nat)(d:Aa),Bv d<=n->kY d:=by
 intro n
 induction n with
 |zero=>
  intro d hd;refine JF d λxs hx=>?_;rcases hx with rfl|rfl
  ·rw[Bv]at hd;omega
  ·rw[Bv]at hd;omega
 |succ n ih=>
  intro d hd;refine JF d λxs hx x hm=>ih x ?_;rcases hx with rfl|rfl
  ·rw[Bv]at hd;exact nX ⋯ x hm
  ·rw[Bv]at hd;exact nX ⋯ x hm
theorem LU(hd:bA d=ai)(he:bA e=ai):Er d=Er e↔d=e:=by
 refine⟨λh=>?_,λh=>by rw[h]⟩;exact(OX _ d (Al _) e [] [] hd he (.inl rfl) (.inl rfl) (by rw[show tx d=tx e from congrArg (λx:Str=>x.cps.toList) h])).1
end Nb
namespace DL
open PySem L2 Nb
section
variable{X:Cx}{a b e:Expr}{aP:List Expr}{ta tb te:TE}{tt:TT}{wa wb we:DT}{c:cM}{pos:Pos}
def qI(i:Nat)(c:cM):cM:=λδ n Q=>match δ[i]? with
 |some (ae (.own ds))=>c (δ.set i (↑(.list ds))) n Q
 |_=>c δ n Q
theorem Ln(i)(h:DC X e tt c):DC X e tt (qI i c):=⟨h.pt,λC H B σ δ n Q Q' R q k=>by
 unfold qI at q
 split at q
 ·rename_i ds ei;obtain⟨B',R'⟩:=R.frz ei;exact h.sd C H B' σ _ n _ _ R' q λb H1 n1 R1 k1 q1=>k b H1 n1 (R.step R1.tp k1) k1 q1
 ·exact h.sd C H B σ δ n _ _ R q k⟩
def GA(ta tb:TE):TE:=λσ H Q=>ta σ H λx H1=>(x=.non/\Q .non H1)\/∃i:Int,x=.int i/\if i=0 then Q (.int i) H1 else tb σ H1 Q
theorem Ur(ha:PE X a ta)(hb:PE X (.BoolOp .And (b::aP) pos) tb):PE X (.BoolOp .And (a::b::aP) pos) (GA ta tb):=by
 intro pins s σ H Q I h;refine PyProof.Rows.BoolOp_and (aY (ha pins s σ H _ I h) λv s1 ⟨x,H1,I1,r1,q1⟩=>?_);rcases q1 with⟨rfl,q1⟩|⟨i,rfl,q1⟩
 ·refine aY (AN pins s1 σ H1 .non v (λc H2=>c=aj/\H2=H1) I1 r1 ⟨aj,rfl,rfl,rfl⟩) λc s2 ⟨H2,I2,e1,e2⟩=>?_;subst e1 e2;exact⟨.non,_,I2,r1,q1⟩
 ·refine aY (AN pins s1 σ H1 (.int i) v (λc H2=>c=(i != 0)/\H2=H1) I1 r1 ⟨i != 0,rfl,rfl,rfl⟩) λc s2 ⟨H2,I2,e1,e2⟩=>?_;subst e1 e2;by_cases z:i=0
  ·subst z;rw[if_pos rfl]at q1;exact⟨.int 0,_,I2,r1,q1⟩
  ·rw[if_neg z]at q1;have:(i != 0)=ai:=by simp[z]
   rw[this];exact hb pins s2 σ _ Q I2 q1
def wW(wa wb:DT):DT:=λδ n Q=>wa δ n λx n1=>(x=.d .none/\Q x n1)\/∃i:Int,x=.d (.int i)/\if i=0 then Q x n1 else wb δ n1 Q
theorem Sw(h:DE X a ta wa)(h2:DE X (.BoolOp .And (b::aP) pos) tb wb):DE X (.BoolOp .And (a::b::aP) pos) (GA ta tb) (wW wa wb):=⟨Ur h.pe h2.pe,λC H B σ δ n Q Q' R q k=>
 h.sd C H B σ δ n _ _ R q λv x H1 n1 R1 k1 r1 q1=>by
  rcases q1 with⟨rfl,q1⟩|⟨i,rfl,q1⟩
  ·cases(show RdX H1 B v .none from r1);exact .inl ⟨rfl,k _ _ H1 n1 R1 k1 r1 q1⟩
  ·cases(show RdX H1 B v (.int i)from r1);refine .inr ⟨i,rfl,?_⟩;by_cases z:i=0
   ·rw[if_pos z]at q1 ⊢;exact k _ _ H1 n1 R1 k1 r1 q1
   ·rw[if_neg z]at q1 ⊢;exact h2.sd C H1 B σ δ n1 Q _ R1 q1 λv x H2 n2 R2 k2 r2 q2=>k v x H2 n2 R2 (k1.trans k2) r2 q2⟩
end
end DL
namespace L2
open PySem
section
variable{X:Cx}{pos:Pos}
def m9(K:Ag)(n:Nat)(t:gK):TG:=λv σ H Q=>∃a xs,v=.ref a/\SqL K H a xs/\xs.length=n/\t xs σ H Q
theorem Rc{k:Nat}(hc:X.calm=ai)(h:nQ X es t)
  (hn:(Cq es X.env).length=n:=by rfl) (hst:(Cq es X.env).findIdx? (·.1)=ah:=by rfl):PG X (.Tuple es k pos) (m9 X.K n t):=by
 intro pins s σ H v u Q I r hw;obtain⟨a,xs,e1,hq,hl,hw⟩:=hw;subst e1;cases r;obtain⟨its,rv,pl,hz⟩:=I.list hq;rw[PyProof.Rows.assign_Tuple];refine Ad (wpAny_standAt ?_);unfold unpack;have hn':(Cq es X.env).length=its.toArray.size:=by simp[hn,<-hl,rv.length]
 rw[hn',hst];refine Ad (Ct (PySem.W.kun_itemsOf (I.ok.hd hc) pl.isList λh' hx=>?_));have I1:Inv X pins σ H {s with heap:=h'}:=I.kept (t':=s.toks) λb o e=>hx b o (Bq (A0 e)) e;exact h pins _ σ H xs _ Q I1 (by simpa using rv) hw
end
end L2
namespace DL
open PySem L2
def tV(n:Nat)(r:d0):eU:=λd δ Q=>match d with
 |.list ds=>ds.length=n/\r ds δ Q
 |_=>False
section
variable{X:Cx}{pos:Pos}{K:Ag}
theorem Se{k:Nat}{n:Nat}{r:d0}(h:DGs X es t r)(hc:X.calm=ai:=by rfl)
  (hn:(Cq es X.env).length=n:=by rfl) (hst:(Cq es X.env).findIdx? (·.1)=ah:=by rfl):DG X (.Tuple es k pos) (m9 X.K n t) (tV n r):=⟨Rc hc h.pg hn hst,λC H B σ δ n' x d Q Q' R rr q k=>by
 unfold tV at q
 split at q
 ·rename_i ds;cases rr with
  |@lst ay ys _ e1 e2 e3 e4=>exact⟨ay,ys,rfl,SqL.of e1,by rw[e4.len];exact q.1,h.sd C H B σ δ n' _ _ _ _ R e4 q.2 k⟩
 ·exact q.elim⟩
theorem Ra{k:Nat}{n:Nat}{r:d0}(h:DGs X es t r)(hc:X.calm=ai:=by rfl)(hK:X.K=K:=by rfl)
  (hn:(Cq es X.env).length=n:=by rfl) (hst:(Cq es X.env).findIdx? (·.1)=ah:=by rfl):DG X (.Tuple es k pos) (m9 K n t) (tV n r):=by subst hK;exact Se h hc hn hst
end
end DL
namespace DL
open PySem L2 Nb
section
variable{X:Cx}{pos:Pos}{K:Ag}
def mJ:aR:=λ_ _ _=>False
theorem NH{xp sp sp1:Pos}(hN:X.N[i]?=ae x)(h1':DE X j1 t1 w1)(hj:DE X j tj wj)(he:DE X e te we)(hK:X.K=K:=by rfl)(hpl:nH j1:=by exact λ_ _=>rfl)(hv:gh X.env.scope x:=by first|exact C4 rfl|exact B9 (C4 rfl)|exact B9 (B9 rfl))(hd:(x==("__debug__":Str))=aj:=by decide)
  (hcd:(x==("__classdict__":Str))=aj:=by decide)
  (ha:∀v,Gj (.Subscript (.Subscript (.Name x xp) j1 sp1) j sp) X.env v=(do
   let ov <-holding [v] (eval (.Subscript (.Name x xp) j1 sp1) X.env)
   let iv <-holding [v,ov] (eval j X.env)
   standAt sp
   holding [v,ov,iv] (setItem ov iv v)
   release [v,ov,iv] []):=by intro _;rfl)
  (hs:swapsWithSole [.Subscript (.Subscript (.Name x xp) j1 sp1) j sp] e pos.line X.env=pure aj:=by rfl) (hw:swappedStores [.Subscript (.Subscript (.Name x xp) j1 sp1) j sp] e X.env=pure ah:=by rfl)
  (h1:(Cq [.Subscript (.Subscript (.Name x xp) j1 sp1) j sp] X.env).map (·.2)=[Gj (.Subscript (.Subscript (.Name x xp) j1 sp1) j sp) X.env]:=by rfl):
  DS X (.Assign [.Subscript (.Subscript (.Name x xp) j1 sp1) j sp] e pos) (c8 te (iU (dz (gR K) (bw i) t1) tj nF)) mJ:=
 ⟨nL he.pe (pY (GK (AB i hN hv hd hcd) h1' hK hpl).pe hj.pe qd ha) hs hw h1,λ_ _ _ _ _ _ _ _ _ q _=>q.elim⟩
theorem Qz{xp ap cp:Pos}(hN:X.N[i]?=ae x)(he:DE X e te we)(hv:gh X.env.scope x:=by first|exact C4 rfl|exact B9 (C4 rfl)|exact B9 (B9 rfl))(hd:(x==("__debug__":Str))=aj:=by decide)
  (hcd:(x==("__classdict__":Str))=aj:=by decide)
  (hbase:attributeBase (.Name x xp) "append" X.env (eval (.Name x xp) X.env)=eval (.Name x xp) X.env:=by rfl)
  (hfew:((Dj cp (Az [e] X.env)).all (λx=>!x.1)&&(backToKw cp (keywordEach [] X.env)).all (λx=>x.1.isSome)
   && decide ([e].length+([]:List Keyword).length+(if ([]:List Keyword).isEmpty then 0 else 1) < 30))=ai:=by rfl)
  (hline:(ap.endLine==cp.line)=ai:=by rfl) (hs:Az [e] X.env=[(aj,eval e X.env)]:=by rfl) (hplain:(Dj cp (Az [] X.env)).any (·.1)=aj:=by rfl)
  (hsw:Ed (.Call (.Attribute (.Name x xp) "append" ap) [e] [] cp) ah pos.line X.env=pure aj:=by rfl) (hK:X.K=K:=by rfl):
  DS X (.Expr (.Call (.Attribute (.Name x xp) "append" ap) [e] [] cp) pos) (sW (rQ K "list" rW (bw i) (c7 te bL))) (aX i we):=by subst hK;exact JK hN he hv hd hcd hbase hfew hline hs hplain hsw
end
end DL
namespace Nb
open PySem L2 DL
theorem sQ{aP:Sl}(P:Aa->Prop)(p)(f)(hp:∀d n Q',P d->Q' (p d) n->c (↑d::aP) n Q')(h:∀d n Q',P d->Q' (.d (f d)) n->w (↑d::aP) n Q'):
  ∀(items acc:List Aa)(x:Option SV)(n:Int),(∀d∈items,P d)->Q (acc++(items.filter p).map f) n->di (aJ 0) c w Q items acc (x::aP) n
 |[],acc,x,n,hP,q=>by
  rw[List.filter_nil,F7,Bm]at q;exact q
 |d::r,acc,x,n,hP,q=>by
  simp only[di,aJ,G0];refine hp d n _ (hP d As) ?_;cases e:p d with
  |true=>
   nofun;refine h d n _ (hP d As) ?_;refine sQ P p f hp h r (acc++[f d]) _ n (λe he=>hP e (Au _ he)) ?_;rw[List.filter_cons_of_pos e]at q;rw[Bh];exact q
  |false=>
   rw[if_neg Ae];refine sQ P p f hp h r acc _ n (λe he=>hP e (Au _ he)) ?_;rw[List.filter_cons_of_neg (by rw[e];exact Ae)]at q;exact q
def okD:Aa->Bool
 |.str y=>!decide (y.cps.toList < ("a":Str).cps.toList)&&!decide (("z":Str).cps.toList < y.cps.toList)
 |_=>aj
theorem AV{α:Type}(f):∀l:List α,lY (l.map λa=>.bool (f a))=ae (l.map f)
 |[]=>rfl
 |a::r=>by
  show(lY (r.map λa=>.bool (f a))).map _=_;rw[AV f r];rfl
theorem Hy{r:Int}(h0:0<=r)(h1:r < xs.length):∃v,dh xs r=ae v/\v∈xs:=by
 obtain⟨j,rfl⟩:=F6 h0;have hj:j < xs.length:=by omega
 exact⟨xs[j],fQ (Ah hj),C8 hj⟩
theorem nM(d):dw "str" d=match d with|.str _=>ai|_=>aj:=by cases d<;>rfl
theorem l4{A B:Prop}(h1:b=ai->A)(h2:b=aj->B):if b=ai then A else B:=by
 cases b with
 |true=>nofun;exact h1 rfl
 |false=>rw[if_neg Ae];exact h2 rfl
theorem DY(h:n < 2 ^ 40)(h0:0 < many)(h1:many < 1073741824)(k:∀r:Int,0<=r->r < many->Q (~~~r) (n+1)):cG [.tp,.d (.int many)] n Q:=⟨⟨h,h0,h1⟩,k⟩
theorem kd(h0:0<=r)(h1:r < (ds.length:Int))(k:∀d∈ds,Q (.d d) n):az (.d (.list ds)) (~~~r) n Q:=by
 obtain⟨v,hv,hm⟩:=Hy h0 h1;show match dh ds r with|some d=>Q (.d d) n|none=>False
 simp only[hv];exact k v hm
theorem Pe{aP:Sl}(c:Nat)(h:∀d n Q',n+(c:Int) < 2 ^ 39->(∀y n',n'<=n+(c:Int)->Q' (.d y) n')->w (↑d::aP) n Q'):
  ∀(items acc:List Aa)(x:Option SV)(n:Int),n+(c:Int)*(items.length:Int) < 2 ^ 39->(∀ds n',n'<=n+(c:Int)*(items.length:Int)->Q ds n')->di (aJ 0) df w Q items acc (x::aP) n
 |[],acc,x,n,hn,q=>q acc n (by simp)
 |d::r,acc,x,n,hn,q=>by
  simp only[di,aJ,df,if_true,G0];rw[Ap]at hn q;have e:(c:Int)*((r.length+1:Nat):Int)=(c:Int)*(r.length:Int)+c:=by rw[Int.natCast_add,Int.mul_add];simp
  rw[e]at hn q;have hc:0<=(c:Int)*(r.length:Int):=Int.mul_nonneg (G6 _) (G6 _);refine h d n _ ⋯ λy n' hn'=>?_;exact Pe c h r (acc++[y]) _ n' ⋯ λds n'' h''=>q ds n'' ⋯
theorem fV(n):(cb 0 n).length=n:=by unfold cb;simp
theorem vm{aP:Sl}(P:Aa->Prop)(c:Nat)(h:∀d n Q',n+(c:Int) < 2 ^ 39->(∀y n',P y->n'<=n+(c:Int)->Q' (.d y) n')->w (↑d::aP) n Q'):
  ∀(items acc:List Aa)(x:Option SV)(n:Int),n+(c:Int)*(items.length:Int) < 2 ^ 39->(∀ds n',ds.length=items.length->(∀d∈ds,P d)->n'<=n+(c:Int)*(items.length:Int)->Q (acc++ds) n')->di (aJ 0) df w Q items acc (x::aP) n
 |[],acc,x,n,hn,q=>by
  have:=q [] n rfl (by simp) (by simp);rwa [Bm]at this
 |d::r,acc,x,n,hn,q=>by
  simp only[di,aJ,df,if_true,G0];rw[Ap]at hn q;have e:(c:Int)*((r.length+1:Nat):Int)=(c:Int)*(r.length:Int)+c:=by rw[Int.natCast_add,Int.mul_add];simp
  rw[e]at hn q;have hc:0<=(c:Int)*(r.length:Int):=Int.mul_nonneg (G6 _) (G6 _);refine h d n _ ⋯ λy n' hy hn'=>?_;refine vm P c h r (acc++[y]) _ n' ⋯ λds n'' hl hds h''=>?_;rw[Bh];refine q (y::ds) n'' (by rw[Ap,hl]) (λd hd=>?_) ⋯;rcases Aq.mp hd with rfl|z
  ·exact hy
  ·exact hds d z
theorem M0{n:Nat}(h0:0<=r)(h1:r < (n:Int)):iQ n r=ae r.toNat:=by
 unfold iQ;rw[if_pos h0,if_pos h1]
theorem eq_str(a)(h):jH a (.str h)=ae (aZ h a):=by cases a<;>rfl
theorem eq_int(i j):jH (.int i) (.int j)=ae (decide (i=j)):=rfl
theorem KD(a)(r:List α):dh (a::r) 0=ae a:=fQ (j:=0) rfl
theorem Le(a b)(r:List α):dh (a::b::r) 1=ae b:=fQ (j:=1) rfl
section
variable{δ:Sl}{n:Int}{Q:DQ}{K:DEnds}{W V:aR}{i j:Nat}{a b d:Aa}{r ds:List Aa}{h:Str}
theorem aB(h:W δ n {K with nx:=λδ n=>V δ n K}):au W V δ n K:=h
theorem av(e:δ[i]?=ae (ae (.w x)))(k:Q x n):ak i δ n Q:=by unfold ak;rw[e];exact k
theorem gZ{m:Nat}(e:δ[i]?=ae (↑(.tuple ds)))(e2:ds[m]?=ae a)(k:Q (.d a) n):w2 (ak i) (wC (.int (m:Int))) az δ n Q:=by
 unfold w2;refine av e ?_;unfold wC az;simp only[fQ e2];exact k
theorem dj(e:δ[i]?=ae (↑(.tuple (a::r))))(k:Q (.d a) n):w2 (ak i) (wC (.int 0)) az δ n Q:=gZ (m:=0) e rfl k
theorem dI(e:δ[i]?=ae (↑(.tuple (a::b::r))))(k:Q (.d b) n):w2 (ak i) (wC (.int 1)) az δ n Q:=gZ (m:=1) e rfl k
theorem gU(e:δ[i]?=ae (↑d))(k:Q (.d (.bool (aZ h d))) n):w2 (ak i) (wC (.str h)) a9 δ n Q:=by
 unfold w2;refine av e ?_;unfold wC a9;simp only[eq_str];exact k
theorem jy(e:δ[i]?=ae (↑(.tuple (a::r))))(k:Q (.d (.bool (aZ h a))) n):w2 (w2 (ak i) (wC (.int 0)) az) (wC (.str h)) a9 δ n Q:=by
 show w2 (ak i) (wC (.int 0)) az δ n λx n1=>wC (.str h) δ n1 λy n2=>a9 x y n2 Q;refine dj e ?_;unfold wC a9;simp only[eq_str];exact k
theorem eF(k:c δ n λb n1=>if b=ai then W δ n1 K else V δ n1 K):aL c W V δ n K:=k
theorem BQ(e:δ[i]?=ae (↑d))(hT:aZ h d=ai->W δ n K)(hF:aZ h d=aj->V δ n K):aL (cT (w2 (ak i) (wC (.str h)) a9)) W V δ n K:=by
 unfold aL cT;exact gU e (l4 hT hF)
theorem yI(e:δ[i]?=ae (↑(.tuple (a::r))))(hT:aZ h a=ai->W δ n K)(hF:aZ h a=aj->V δ n K):aL (cT (w2 (w2 (ak i) (wC (.int 0)) az) (wC (.str h)) a9)) W V δ n K:=by
 unfold aL cT;exact jy e (l4 hT hF)
theorem yS(e:δ[i]?=ae (↑d))(z:aZ h d=aj)(hF:V δ n K):aL (cT (w2 (ak i) (wC (.str h)) a9)) W V δ n K:=BQ e (λq=>by rw[z]at q;cases q) λ_=>hF
theorem UU(e:δ[i]?=ae (↑d))(z:aZ h d=ai)(hT:W δ n K):aL (cT (w2 (ak i) (wC (.str h)) a9)) W V δ n K:=BQ e (λ_=>hT) λq=>by rw[z]at q;cases q
theorem eY(e:δ[i]?=ae (↑(.tuple (a::r))))(z:aZ h a=aj)(hF:V δ n K):aL (cT (w2 (w2 (ak i) (wC (.int 0)) az) (wC (.str h)) a9)) W V δ n K:=yI e (λq=>by rw[z]at q;cases q) λ_=>hF
theorem jE(e:δ[i]?=ae (↑(.tuple (a::r))))(z:aZ h a=ai)(hT:W δ n K):aL (cT (w2 (w2 (ak i) (wC (.int 0)) az) (wC (.str h)) a9)) W V δ n K:=yI e (λ_=>hT) λq=>by rw[z]at q;cases q
end
theorem sG:aZ "is" (.str "is")=ai:=by decide +kernel
theorem HU:aZ "is" (.str "as")=aj:=by decide +kernel
theorem VE:aZ "word" (.str "word")=ai:=by decide +kernel
theorem Vp:aZ "word" (.str "number")=aj:=by decide +kernel
theorem Sk:aZ "as" (.str "bind")=aj:=by decide +kernel
theorem EM:aZ "as" (.str "as")=ai:=by decide +kernel
theorem HP:aZ "bind" (.str "bind")=ai:=by decide +kernel
section
variable{δ:Sl}{n:Int}{Q:DQ}{K:DEnds}{W V:aR}{i j:Nat}{a b d:Aa}{r ds:List Aa}
theorem ar(k:wa δ n λx n1=>wb δ n1 λy n2=>g x y n2 Q):w2 wa wb g δ n Q:=k
theorem bx(h:∀Q:DQ,Q (.d x) n->w δ n Q)(k:K.nx (δ.set i (↑x)) n):aF i w δ n K:=h _ k
theorem iI(k:K.nx (δ.set i (ae (.own []))) n):br i (aQ ao) δ n K:=⟨Bo _,k⟩
theorem cP(k:Q (.d a) n):az ‹(a::r)› (~~~0) n Q:=by
 show(match dh (a::r) 0 with|some d=>Q (.d d) n|none=>False);rw[KD];exact k
theorem d4(k:Q (.d b) n):az ‹(a::b::r)› (~~~1) n Q:=by
 show(match dh (a::b::r) 1 with|some d=>Q (.d d) n|none=>False);rw[Le];exact k
theorem eB(k:Q (.d c) n):az ‹(a::b::c::r)› (~~~2) n Q:=by
 show(match dh (a::b::c::r) 2 with|some d=>Q (.d d) n|none=>False);rw[show dh (a::b::c::r) 2=ae c from fQ (j:=2) rfl];exact k
theorem aD(k:Q (.d c) n):wC c δ n Q:=k
theorem aN(k:w δ n λx n1=>g [x] n1 Q):wB g (aq w ao) δ n Q:=k
theorem cJ(k:w δ n λx n1=>S [x] n1 Q):aH S (aq w ao) δ n Q:=k
theorem bU(k:w δ n λx n1=>w' δ n1 λy n2=>S [x,y] n2 Q):aH S (aq w (aq w' ao)) δ n Q:=k
theorem bX(k:w δ n λx n1=>w' δ n1 λy n2=>w'' δ n2 λz n3=>S [x,y,z] n3 Q):aH S (aq w (aq w' (aq w'' ao))) δ n Q:=k
theorem bc(k:w δ n λds n1=>Q (.d (.list ds)) n1):bj w δ n Q:=k
theorem jO{Q:List Aa->Int->Prop}(hw:∀Q:DQ,Q ‹ds› n->w δ n Q)(k:di g c e Q ds [] (jZ fr δ) n):cW fr (ft w) g c e δ n Q:=by
 unfold cW ft;exact hw _ k
theorem tI(e:δ[i]?=ae (↑(.tuple ds)))(k:Q (~~~ds.length) n):wB bg (aq (ak i) ao) δ n Q:=aN (av e k)
theorem J1(e:δ[j]?=ae (↑(.tuple ds)))(k:K.nx (δ.set i (ae (.own ds))) n):br i (qO (ak j)) δ n K:=by
 unfold br qO;exact av e k
theorem bb(k:w δ n K.rt):aw w δ n K:=k
theorem Sx(ha:∀Q:DQ,Q (~~~x) n->wa δ n Q)(hb:∀Q:DQ,Q (~~~y) n->wb δ n Q)(hc:∀Q:DQ,Q (~~~z) n->wc δ n Q)(h:x<=y)(k:Q (.d (.bool (decide (y<=z)))) n):qe kB kB wa wb wc δ n Q:=by
 refine ha _ (hb _ ?_);show jR (.d (.bool (decide (x<=y)))) (wc δ n λu n4=>kB (~~~y) u n4 Q) (Q (.d (.bool aj)) n);rw[decide_eq_true h];exact hc _ k
theorem gO(e:δ[i]?=ae (ae (.own ds)))(k:W (δ.set i (↑(.list ds))) n K):cI i W δ n K:=by
 unfold cI;rw[e];exact k
theorem Jj(hu:∀Q:DQ,Q (.d (.bool ai)) n->u δ n Q)(hv:v δ n Q):iG u v δ n Q:=hu _ hv
theorem aC{Q:Bool->Int->Prop}(hw:∀Q':DQ,Q' (.d (.bool k)) n->w δ n Q')(q:Q k n):cT w δ n Q:=hw _ q
theorem aT(hc:∀Q:Bool->Int->Prop,Q aj n->C δ n Q)(hF:V δ n K):aL C W V δ n K:=hc _ (by show if aj=ai then _ else _;rw[if_neg Ae];exact hF)
theorem bB(hc:∀Q:Bool->Int->Prop,Q ai n->C δ n Q)(hT:W δ n K):aL C W V δ n K:=hc _ (by show if ai=ai then _ else _;nofun;exact hT)
theorem fS{Q:Bool->Int->Prop}(ha:∀Q:Bool->Int->Prop,Q aj n->A δ n Q)(hb:B δ n Q):fX A B δ n Q:=ha _ (by show if aj=ai then _ else _;rw[if_neg Ae];exact hb)
theorem l5{Q:Bool->Int->Prop}(ha:∀Q:Bool->Int->Prop,Q ai n->A δ n Q)(k:Q ai n):fX A B δ n Q:=ha _ (by show if ai=ai then _ else _;nofun;exact k)
theorem iA{Q:Bool->Int->Prop}(ha:∀Q:Bool->Int->Prop,Q ai n->A δ n Q)(hb:B δ n Q):bW A B δ n Q:=ha _ (by show if ai=ai then _ else _;nofun;exact hb)
theorem iq{Q:Bool->Int->Prop}(ha:∀Q:Bool->Int->Prop,Q k n->A δ n Q)(q:Q (!k) n):cR A δ n Q:=ha _ q
end
theorem eV(I:List Aa->Sl->Int->Prop)(h0:∀δ n,I [] δ n->K.nx δ n)
  (h1:∀d r δ n (N:Sl->Int->Prop),I (d::r) δ n->(∀δ n,I r δ n->N δ n)->g d δ λδ'=>W δ' n {K with nx:=N,ct:=N,bk:=K.nx}):∀ds δ n,I ds δ n->fh g W K ds δ n
 |[],δ,n,h=>h0 δ n h
 |d::r,δ,n,h=>h1 d r δ n (fh g W K r) h (eV I h0 h1 r)
section
variable{δ:Sl}{n m:Int}{Q:DQ}{K:DEnds}{W V:aR}{i j:Nat}{ds:List Aa}
theorem kE(e0:δ[0]?=ae (ae (.w .tp)))(hw:∀Q:DQ,Q (~~~m) n->w δ n Q)(h:n < 2 ^ 40)(h0:0 < m)(h1:m < 1073741824)(k:∀r:Int,0<=r->r < m->Q (~~~r) (n+1)):aH cG (aq ↥0 (aq w ao)) δ n Q:=
 bU (av e0 (hw _ (DY h h0 h1 k)))
theorem gA(e0:δ[0]?=ae (ae (.w .tp)))(h:n < 2 ^ 40)(h0:0 < m)(h1:m < 1073741824)(k:∀r:Int,0<=r->r < m->Q (~~~r) (n+1)):aH cG (aq ↥0 (aq (wC (.int m)) ao)) δ n Q:=kE e0 (λQ q=>aD q) h h0 h1 k
theorem o9(e0:δ[0]?=ae (ae (.w .tp)))(h:n < 2 ^ 40)(h0:0 < m)(h1:m < 1073741824)(k:∀r:Int,0<=r->r < m->K.nx (δ.set i (↑(.int r))) (n+1)):aF i (aH cG (aq ↥0 (aq (wC (.int m)) ao))) δ n K:=gA e0 h h0 h1 k
theorem sF(h0:0<=r)(h1:r < (ds.length:Int))(k:∀d∈ds,Q (.d d) n):aM (.ln ds) (~~~r) n Q:=by
 obtain⟨v,hv,hm⟩:=Hy h0 h1;show(match dh ds r with|some d=>Q (.d d) n|none=>False);rw[hv];exact k v hm
theorem jz(h0:0<=r)(h1:r < (ds.length:Int))(k:∀d∈ds,Q (.d d) n):aM (.d (.list ds)) (~~~r) n Q:=kd h0 h1 k
theorem lP(e:δ[i]?=ae (ae (.own ds)))(k:Q (.ln ds) n):gB i δ n Q:=by
 unfold gB;rw[e];exact k
theorem gP(e:δ[i]?=ae (ae (.own es)))(hw:∀Q:DQ,Q (.d x) m->w δ n Q)(hl:es.length < 1000000)(k:K.nx (δ.set i (ae (.own (es++[x])))) m):aX i w δ n K:=by
 unfold aX;rw[e];exact hw _ (Aj hl k)
theorem kK(e:δ[i]?=ae (ae (.own es)))(k:w δ n λx n1=>match x with
  |.d d=>es.length < 1000000/\K.nx (δ.set i (ae (.own (es++[d])))) n1
  |_=>False):aX i w δ n K:=by
 unfold aX;rw[e];exact k
theorem cz(k:w δ n λx n1=>w' δ n1 λy n2=>match iV [x,y]with
  |some ds=>ds.length<=1000/\Q ‹ds› n2
  |none=>False):aA (aq w (aq w' ao)) δ n Q:=k
theorem gQ(k:w δ n λx n1=>w' δ n1 λy n2=>w'' δ n2 λz n3=>match iV [x,y,z]with
  |some ds=>ds.length<=1000/\Q ‹ds› n3
  |none=>False):aA (aq w (aq w' (aq w'' ao))) δ n Q:=k
theorem mM(k:Q ‹ds› n):g9 [.d (.list ds)] n Q:=k
theorem vE(k:Q (.d (.bool (decide (a < b)))) n):iz (~~~a) (~~~b) n Q:=k
theorem mL(e:δ[i]?=ae (↑(.int a)))(hT:a < b->W δ n K)(hF:¬a < b->V δ n K):aL (cT (w2 (ak i) (wC (.int b)) iz)) W V δ n K:=by
 refine eF (ar (av e (aD ?_)));show if decide (a < b)=ai then _ else _
 by_cases h:a < b
 ·rw[if_pos (decide_eq_true h)];exact hT h
 ·rw[if_neg (by simpa using h)];exact hF h
end
section
variable{δ:Sl}{n m:Int}{Q:DQ}{K:DEnds}{W V:aR}{i j:Nat}{ds:List Aa}
theorem xZ(k:w δ n λx n1=>w' δ n1 λy n2=>w'' δ n2 λz n3=>v δ n3 λu n4=>match iV [x,y,z,u]with
  |some ds=>ds.length<=1000/\Q ‹ds› n4
  |none=>False):aA (aq w (aq w' (aq w'' (aq v ao)))) δ n Q:=k
theorem lJ(k:Q (.d (.list [])) n):bj (aQ ao) δ n Q:=Aj (Bo _) k
theorem kD(k:Q (.d (.bool ds.isEmpty)) n):bq (.ln ds) (.d (.list [])) n Q:=k
theorem mV(k:Q (.d (.bool (decide (a=b)))) n):bq (~~~a) (~~~b) n Q:=k
theorem pq(e:δ[i]?=ae (↑(.int a)))(hT:a=b->W δ n K)(hF:¬a=b->V δ n K):aL (cT (w2 (ak i) (wC (.int b)) bq)) W V δ n K:=by
 refine eF (ar (av e (aD ?_)));show if decide (a=b)=ai then _ else _
 by_cases h:a=b
 ·rw[if_pos (decide_eq_true h)];exact hT h
 ·rw[if_neg (by simpa using h)];exact hF h
theorem yz(e:δ[i]?=ae (↑(.int a)))(hT:b < a->W δ n K)(hF:¬b < a->V δ n K):aL (cT (w2 (ak i) (wC (.int b)) pU)) W V δ n K:=by
 refine eF (ar (av e (aD ?_)));show if decide (b < a)=ai then _ else _
 by_cases h:b < a
 ·rw[if_pos (decide_eq_true h)];exact hT h
 ·rw[if_neg (by simpa using h)];exact hF h
end
theorem qJ(hs:List Str):(hs.map Cy).all fL=ai:=by
 rw[Dh];intro d hd;obtain⟨x,_,rfl⟩:=Bg.mp hd;rfl
theorem Hd{n m:Int}(e:δ[0]?=ae (ae (.w .tp)))(hl:∀Q:DQ,Q (.d (.list L)) n->wl δ n Q)(hn:n < 2 ^ 40)(hm:m=L.length)(h0:0 < m)(h1:m < 1000)(hL:∀d∈L,∃j:Nat,j<=M/\d=.int j)(hM:M<=1000)(k:∀j:Nat,j<=M->fh g W K (cb 0 j) δ (n+1)):
  aU (dC (w2 wl (aH cG (aq ↥0 (aq (wC (.int m)) ao))) aM)) g W δ n K:=by
 unfold aU dC;refine ar (hl _ (gA e hn h0 ⋯ λr r0 r1=>jz r0 ⋯ λd hd=>?_));obtain⟨j,hj,rfl⟩:=hL d hd;refine Aj ⟨by omega,by omega⟩ ?_;rw[Bs];exact k j hj
theorem Vh(k:Q (~~~ds.length) n):dS [.ln ds] n Q:=k
theorem bN(h:xs[i]?=ae x)(k:Q (.d x) n):az ‹xs› (~~~(i:Nat)) n Q:=by
 show(match dh xs ((i:Nat):Int)with|some d=>Q (.d d) n|none=>False);rw[fQ h];exact k
theorem MX(xs:List Aa)(hp:p<=xs.length):bo xs ah (ae (p:Int))=xs.take p:=by
 unfold bo;rw[HT.sIx_nat];show(xs.drop 0).take (min p xs.length-0)=_;rw[Fh,Nat.sub_zero,Nat.min_eq_left hp]
abbrev Nm:=List (Str×Aa)
inductive Fd where
 |is (v:Aa)|any|word|number|bind (x:Str)|as (x:Str)
def Fd.d:Fd->Aa
 |.is v=>.tuple [.str "is",v]
 |.any=>.tuple [.str "any"]
 |.word=>.tuple [.str "word"]
 |.number=>.tuple [.str "number"]
 |.bind x=>.tuple [.str "bind",.str x]
 |.as x=>.tuple [.str "as",.str x]
abbrev nI(x:Str):Prop:=x.length<=4/\Ep x=ai
def cq:Aa->Bool
 |.str x=>decide (x.length<=8)&&(Ep x&&decide (x="a"\/x="ab"\/x="go"))
 |.int i=>decide (0<=i)&&(decide (i<=99)&&(decide (Ea (.int i)<=20)&&(Dt 13 (.int i)&&Dn (.int i))))
 |_=>aj
def Fd.ok:Fd->Prop
 |.is v=>cq v=ai
 |.bind x=>nI x
 |.as x=>nI x
 |_=>True
def dQ(a b:Aa):Bool:=(jH a b).getD aj
theorem sZ(ha:cq a=ai)(hb:cq b=ai):jH a b=ae (dQ a b):=by
 cases a<;>first|cases ha|(cases b<;>first|cases hb|rfl)
theorem Iq(ha:cq a=ai)(hb:cq b=ai)(h:dQ a b=ai):a=b:=by
 cases a<;>first|cases ha|(cases b<;>first|cases hb|cases h|(rw[show _=_ from of_decide_eq_true h]))
theorem zW(ha:cq a=ai):fL a=ai:=by cases a<;>first|cases ha|rfl
def iP:Aa->Bool
 |.str _=>ai
 |_=>aj
def iD:Aa->Bool
 |.int _=>ai
 |_=>aj
def look(ps:Nm)(x:Str):Option Aa:=(ps.find? λp=>decide (p.1=x)).map (·.2)
def put(ps:Nm)(x:Str)(v:Aa):Nm:=if (ps.any λp=>decide (p.1=x))=ai then ps.map (λp=>if p.1=x then(p.1,v)else p)else ps++[(x,v)]
theorem QM(a b):decide ((Dl a:aO)=Dl b)=decide (a=b):=by
 by_cases z:a=b
 ·rw[z,decide_eq_true rfl,decide_eq_true rfl]
 ·rw[decide_eq_false z,decide_eq_false λw=>z (Sum.inr.inj w)]
theorem kA(ps:Nm)(x):cE (bE ps) (.inr x)=look ps x:=by
 induction ps with
 |nil=>rfl
 |cons p r ih=>
  by_cases e:p.1=x
  ·have a1:cE (bE (p::r)) (.inr x)=ae p.2:=by simp[cE,bE,Br,e]
   have a2:look (p::r) x=ae p.2:=by simp[look,Br,e]
   rw[a1,a2]
  ·have a1:cE (bE (p::r)) (.inr x)=cE (bE r) (.inr x):=by simp[cE,bE,Br,e]
   have a2:look (p::r) x=look r x:=by simp[look,Br,e]
   rw[a1,a2,ih]
theorem SX(ps:Nm)(x):((bE ps).any λkv=>decide (kv.1=(Dl x:aO)))=(ps.any λp=>decide (p.1=x)):=by
 unfold bE;rw[List.any_map]
 congr 1
 funext p
 exact QM _ _
theorem tu(ps:Nm)(x)(v):fC (bE ps) (.inr x) v=bE (put ps x v):=by
 unfold fC put;rw[SX]
 split
 ·unfold bE;rw[Df,Df];apply Cg;intro p _;show(if (Dl p.1:aO)=Dl x then _ else _)=_;by_cases e:p.1=x
  ·rw[if_pos (congrArg Dl e)];show _=(Dl (if p.1=x then(p.1,v)else p).1,(if p.1=x then(p.1,v)else p).2);rw[if_pos e]
  ·rw[if_neg λz=>e (Sum.inr.inj z)];show _=(Dl (if p.1=x then(p.1,v)else p).1,(if p.1=x then(p.1,v)else p).2);rw[if_neg e]
 ·unfold bE;rw[A9];rfl
theorem l3(h:look ps x=ae v):(x,v)∈ps:=by
 unfold look at h;cases e:ps.find? λp=>decide (p.1=x)with
 |none=>rw[e]at h;cases h
 |some p=>
  rw[e]at h;have h1:=List.find?_some e;have h2:p.1=x:=of_decide_eq_true h1;have h3:p.2=v:=A7 h;have:=List.mem_of_find?_eq_some e;rw[<-h2,<-h3];exact this
theorem rZ(ps:Nm)(x):(ps.any λp=>decide (p.1=x))=(look ps x).isSome:=by
 induction ps with
 |nil=>rfl
 |cons p r ih=>
  by_cases e:p.1=x
  ·have a2:look (p::r) x=ae p.2:=by simp[look,Br,e]
   rw[a2,Dc,decide_eq_true e];rfl
  ·have a2:look (p::r) x=look r x:=by simp[look,Br,e]
   rw[a2,Dc,decide_eq_false e,Bool.false_or,ih]
theorem Ig(ps:Nm)(x)(v):(put ps x v).map (·.1)=if (ps.any λp=>decide (p.1=x))=ai then ps.map (·.1)else ps.map (·.1)++[x]:=by
 unfold put
 split
 ·rw[Df];apply Cg;intro p _;show(if p.1=x then(p.1,v)else p).1=p.1
  split<;>rfl
 ·rw[A9];rfl
theorem vj(h:(ps.map (·.1)).Nodup):((put ps x v).map (·.1)).Nodup:=by
 rw[Ig]
 split
 ·exact h
 ·rename_i e;rw[List.nodup_append];refine⟨h,by simp,λa ha b hb z=>?_⟩;have hb:b=x:=by simpa using hb
  obtain⟨p,hp,rfl⟩:=Bg.mp ha;exact e (D4.mpr ⟨p,hp,decide_eq_true (z.trans hb)⟩)
theorem sV(ps:Nm)(x)(v):(put ps x v).length<=ps.length+1:=by
 unfold put
 split
 ·rw[Ab];omega
 ·rw[Af];exact Al _
def gE(p:Str×Aa):Prop:=nI p.1/\cq p.2=ai
theorem oS(h:∀p∈ps,gE p)(hx:nI x)(hv:cq v=ai):∀p∈put ps x v,gE p:=by
 intro p hp;unfold put at hp
 split at hp
 ·obtain⟨q,hq,rfl⟩:=Bg.mp hp
  split
  ·exact⟨(h q hq).1,hv⟩
  ·exact h q hq
 ·rcases Bd.mp hp with hp|hp
  ·exact h p hp
  ·have:p=(x,v):=by simpa using hp
   subst this;exact⟨hx,hv⟩
theorem HM(nd:(ps.map (·.1)).Nodup)(h:look ps x=ae v):put ps x v=ps:=by
 unfold put;rw[rZ,h,if_pos (show(ae v).isSome=ai from rfl)];have hm:=l3 h;have:ps.map (λp=>if p.1=x then(p.1,v)else p)=ps.map id:=by
  apply Cg;intro p hp
  split
  ·rename_i e;have:p=(x,v):=by
    obtain⟨i,hi⟩:=Bw.mp hp;obtain⟨j,hj⟩:=Bw.mp hm;have a1:(ps.map (·.1))[i]?=ae x:=by rw[Ax,hi];exact congrArg ae e
    have a2:(ps.map (·.1))[j]?=ae x:=by rw[Ax,hj];rfl
    obtain⟨b1,b2⟩:=Ao.mp a1;obtain⟨c1,c2⟩:=Ao.mp a2;have:=(Fk nd).mp (b2.trans c2.symm);rw[this,hj]at hi;exact(A7 hi).symm
   rw[this];rfl
  ·rfl
 rw[this,List.map_id]
theorem xa(ps)(x)(v):look (put ps x v) x=ae v:=by
 unfold put;rw[rZ]
 split
 ·rename_i e
  induction ps with
  |nil=>cases e
  |cons p r ih=>
   by_cases z:p.1=x
   ·simp[look,Br,z]
   ·have a2:look (p::r) x=look r x:=by simp[look,Br,z]
    rw[a2]at e;rw[Ba,if_neg z];have a3:look (p::r.map λp=>if p.1=x then(p.1,v)else p) x=look (r.map λp=>if p.1=x then(p.1,v)else p) x:=by simp[look,Br,z]
    rw[a3];exact ih e
 ·rename_i e;have:look ps x=ah:=by cases q:look ps x with|none=>rfl|some _=>rw[q]at e;exact absurd rfl e
  unfold look at this ⊢;rw[List.find?_append];cases q:ps.find? λp=>decide (p.1=x)with
  |some p=>rw[q]at this;cases this
  |none=>simp
theorem ya(h:y≠x):look (put ps x v) y=look ps y:=by
 unfold put
 split
 ·induction ps with
  |nil=>rfl
  |cons p r ih=>
   rw[Ba];have key:look (r.map λp=>if p.1=x then(p.1,v)else p) y=look r y:=by
    rename_i e;by_cases q:(r.any λp=>decide (p.1=x))=ai
    ·exact ih q
    ·have:r.map (λp=>if p.1=x then(p.1,v)else p)=r.map id:=by
      apply Cg;intro p hp;rw[if_neg λz=>q (D4.mpr ⟨p,hp,decide_eq_true z⟩)];rfl
     rw[this,List.map_id]
   by_cases z:p.1=x
   ·rw[if_pos z];have n1:¬p.1=y:=λw=>h (w.symm.trans z);have a1:look ((p.1,v)::r.map λp=>if p.1=x then(p.1,v)else p) y=look (r.map λp=>if p.1=x then(p.1,v)else p) y:=by simp[look,Br,n1]
    have a2:look (p::r) y=look r y:=by simp[look,Br,n1]
    rw[a1,a2,key]
   ·rw[if_neg z];by_cases w:p.1=y
    ·simp[look,Br,w]
    ·have a1:look (p::r.map λp=>if p.1=x then(p.1,v)else p) y=look (r.map λp=>if p.1=x then(p.1,v)else p) y:=by simp[look,Br,w]
     have a2:look (p::r) y=look r y:=by simp[look,Br,w]
     rw[a1,a2,key]
 ·unfold look;rw[List.find?_append];have:[(x,v)].find? (λp=>decide (p.1=y))=ah:=by simp[λz=>h (Eq.symm z),Ne.symm h]
  rw[this,F4]
def iF(f:Fd)(v:Aa)(h bs:Nm):Bool:=match f with
 |.is w=>dQ w v
 |.any=>ai
 |.word=>iP v
 |.number=>iD v
 |.as x=>match look h x with
  |some w=>dQ w v
  |none=>aj
 |.bind x=>match look bs x with
  |some w=>dQ w v
  |none=>ai
def wk:List (Fd×Aa)->Nm->List Str->Option Nm
 |[],h,_=>ae h
 | (.is w,v)::r,h,hs=>if dQ w v=ai then wk r h hs else ah
 | (.any,_)::r,h,hs=>wk r h hs
 | (.word,v)::r,h,hs=>if iP v=ai then wk r h hs else ah
 | (.number,v)::r,h,hs=>if iD v=ai then wk r h hs else ah
 | (.as x,v)::r,h,hs=>match look h x with
  |some w=>if dQ w v=ai then wk r h hs else ah
  |none=>ah
 | (.bind x,v)::r,h,hs=>if x∈hs then(match look h x with
   |some w=>if dQ w v=ai then wk r h hs else ah
   |none=>ah)else wk r (put h x v) (hs++[x])
def i9(p:Str×Aa):Aa:=.tuple [.str p.1,p.2]
def b7(ps:Nm):Aa:=.tuple (ps.map i9)
def dB(fs:List Fd):Aa:=.tuple (fs.map Fd.d)
def okN(ps:Nm):Prop:=ps.length<=40/\(ps.map (·.1)).Nodup/\∀p∈ps,gE p
def tG(fs:List Fd):Prop:=1<=fs.length/\fs.length<=4/\∀f∈fs,f.ok
def ka(row:List Aa):Prop:=(row.length<=4/\1<=row.length)/\∀d∈row,cq d=ai
theorem EZ(x y:Str)(h1:¬x.cps.toList < y.cps.toList)(h2:¬y.cps.toList < x.cps.toList):x=y:=by
 have:x.cps.toList=y.cps.toList:=List.le_antisymm (Eu.mp h2) (Eu.mp h1);have e:=Array.toList_inj.mp this;cases x;cases y;simp only at e;rw[e]
theorem Ud{h a b:Nm}(nd:(h.map (·.1)).Nodup)(ha:a.Perm h)(hb:b.Perm h)(ra:lA a)(rb:lA b):a=b:=by
 refine List.Perm.eq_of_pairwise (λx y hx hy l1 l2=>?_) ra rb (ha.trans hb.symm);have e:x.1=y.1:=EZ _ _ l2 l1;have hx':=ha.mem_iff.mp hx;have hy':=hb.mem_iff.mp hy;obtain⟨i,hi⟩:=Bw.mp hx';obtain⟨j,hj⟩:=Bw.mp hy';have a1:(h.map (·.1))[i]?=ae x.1:=by rw[Ax,hi];rfl
 have a2:(h.map (·.1))[j]?=ae x.1:=by rw[Ax,hj,e];rfl
 obtain⟨b1,b2⟩:=Ao.mp a1;obtain⟨c1,c2⟩:=Ao.mp a2;have:=(Fk nd).mp (b2.trans c2.symm);rw[this,hj]at hi;exact(A7 hi).symm
theorem lK:∀(l:List (Fd×Aa))(h:Nm)(hs:List Str)(k:Nm),(h.map (·.1)).Nodup->wk l h hs=ae k->(k.map (·.1)).Nodup
 |[],h,hs,k,nd,e=>by cases e;exact nd
 | (.is w,v)::r,h,hs,k,nd,e=>by unfold wk at e;split at e;exact lK r h hs k nd e;cases e
 | (.any,v)::r,h,hs,k,nd,e=>by unfold wk at e;exact lK r h hs k nd e
 | (.word,v)::r,h,hs,k,nd,e=>by unfold wk at e;split at e;exact lK r h hs k nd e;cases e
 | (.number,v)::r,h,hs,k,nd,e=>by unfold wk at e;split at e;exact lK r h hs k nd e;cases e
 | (.as x,v)::r,h,hs,k,nd,e=>by
  unfold wk at e
  split at e
  ·split at e
   ·exact lK r h hs k nd e
   ·cases e
  ·cases e
 | (.bind x,v)::r,h,hs,k,nd,e=>by
  unfold wk at e
  split at e
  ·split at e
   ·split at e
    ·exact lK r h hs k nd e
    ·cases e
   ·cases e
  ·exact lK r _ _ k (vj nd) e
def xI(a b:Str×Aa):Bool:=decide (¬b.1.cps.toList < a.1.cps.toList)
def cQ(h:Nm):Nm:=h.mergeSort xI
theorem BS(h):(cQ h).Perm h:=List.mergeSort_perm h xI
theorem EL(h):lA (cQ h):=by
 have:=List.pairwise_mergeSort (le:=xI) (λa b c x y=>decide_eq_true (Eu.mpr (List.le_trans (Eu.mp (of_decide_eq_true x)) (Eu.mp (of_decide_eq_true y))))) (λa b=>?_) h
 ·exact List.Pairwise.imp (λx=>of_decide_eq_true x) this
 ·rw[Bool.or_eq_true];rcases List.le_total a.1.cps.toList b.1.cps.toList with z|z
  ·exact .inl (decide_eq_true (Eu.mpr z))
  ·exact .inr (decide_eq_true (Eu.mpr z))
theorem Jh{h h':Nm}(nd:(h.map (·.1)).Nodup)(p:h'.Perm h)(r:lA h'):h'=cQ h:=Ud nd p (BS h) r (EL h)
def fO(fs:List Fd)(row:List Aa)(nm:Nm):Nm:=(wk (fs.zip row) nm []).getD []
def cY(fs:List Fd)(row:List Aa)(nm:Nm):Bool:=decide (fs.length=row.length)&&(wk (fs.zip row) nm []).isSome
def eL(fs:List Fd)(row:List Aa)(nm:Nm):Aa:=if cY fs row nm=ai then b7 (cQ (fO fs row nm))else .none
def qt(fs:List Fd)(row:List Aa)(ps:Nm)(r:Aa):Prop:=
 if fs.length=row.length then match wk (fs.zip row) ps []with
  |none=>r=.none
  |some h=>r=b7 (cQ h)
 else r=.none
theorem VI(h:qt fs row ps r):r=eL fs row ps:=by
 unfold qt at h;unfold eL cY fO;by_cases e:fs.length=row.length
 ·rw[if_pos e]at h;rw[decide_eq_true e,Gm];cases q:wk (fs.zip row) ps []with
  |none=>rw[q]at h;rw[if_neg (by rw[Option.isSome_none];exact Ae)];exact h
  |some x=>rw[q]at h;rw[if_pos (show(ae x).isSome=ai from rfl)];exact h
 ·rw[if_neg e]at h;rw[decide_eq_false e,if_neg (by rw[Bool.false_and];exact Ae)];exact h
def kQ:bz:=λws n Q=>∃(f:Fd)(v:Aa)(hp bp:Nm),ws=[.d f.d,.d v,.dk (bE hp),.dk (bE bp)]/\f.ok/\cq v=ai/\(∀p∈hp,gE p)/\(∀p∈bp,gE p)/\Q (.d (.bool (iF f v hp bp))) n
def jV:bz:=λws n Q=>∃(fs:List Fd)(row:List Aa)(nm:Nm),ws=[.d (dB fs),.d (.tuple row),.d (b7 nm)]/\tG fs/\ka row/\okN nm/\Q (.d (eL fs row nm)) n
def d7(ys:List Str):Aa:=.tuple (ys.map .str)
def rj:List Aa:=[.str "a",.int 0,.int 1,.str "ab",.str "go",.int 99]
inductive Fe where
 |any|word|num|isv (d:Aa)|bind (k:Str)|as (k:Str)|nx (k:Str)
def Fe.hd:Fe->Str
 |.any=>"any"
 |.word=>"word"
 |.num=>"number"
 |.isv _=>"is"
 |.bind _=>"bind"
 |.as _=>"as"
 |.nx _=>"next"
def Fe.tl:Fe->List Aa
 |.any=>[]
 |.word=>[]
 |.num=>[]
 |.isv d=>[d]
 |.bind k=>[.str k]
 |.as k=>[.str k]
 |.nx k=>[.str k]
def Fe.d(f:Fe):Aa:=.tuple (.str f.hd::f.tl)
abbrev il(k:Str):Prop:=nI k
def Fe.ok:Fe->Prop
 |.isv d=>cq d=ai
 |.bind k=>il k
 |.as k=>il k
 |.nx k=>il k
 |_=>True
def Fe.bd:Fe->Option Str
 |.bind k=>ae k
 |_=>ah
def Fe.us:Fe->Option Str
 |.as k=>ae k
 |.nx k=>ae k
 |_=>ah
def bP(fs:List Fe):List Str:=fs.filterMap Fe.bd
def Fe.pt:Fe->Bool
 |.nx _=>aj
 |_=>ai
def Fe.tm:Fe->Bool
 |.isv _=>ai
 |.as _=>ai
 |.nx _=>ai
 |_=>aj
def Fe.te:Fe->Bool
 |.isv _=>ai
 |.as _=>ai
 |_=>aj
def fM(fs:List Fe):Prop:=fs.length<=4/\∀f∈fs,f.ok
def rF:List Str->List Fe->Prop
 |_,[]=>True
 |ks,f::r=>(∀k,f.us=ae k->k∈ks)/\rF (ks++f.bd.toList) r
inductive Ac where
 |lay (fs:List Fe) (age:Aa)|take (fs:List Fe)|read (fs:List Fe)|look (fs:List Fe) (b:Nat)|same (f g:Fe) (b:Nat)|go (b:Nat)
def fA(fs:List Fe):Aa:=.tuple (fs.map Fe.d)
def Ac.d:Ac->Aa
 |.lay fs age=>.tuple [.str "lay",fA fs,age]
 |.take fs=>.tuple [.str "take",fA fs]
 |.read fs=>.tuple [.str "read",fA fs]
 |.look fs b=>.tuple [.str "look",fA fs,.int b]
 |.same f g b=>.tuple [.str "same",f.d,g.d,.int b]
 |.go b=>.tuple [.str "go",.int b]
def Ac.bs:Ac->List Str
 |.take fs=>bP fs
 |.read fs=>bP fs
 |.look fs _=>bP fs
 |_=>[]
def Ac.fs:Ac->List Fe
 |.lay fs _=>fs
 |.take fs=>fs
 |.read fs=>fs
 |.look fs _=>fs
 |.same f g _=>[f,g]
 |.go _=>[]
def Ac.to:Ac->Option Nat
 |.look _ b=>ae b
 |.same _ _ b=>ae b
 |.go b=>ae b
 |_=>ah
def Ac.right(wants:List (List Str))(ks:List Str)(a:Ac):Prop:=rF ks a.fs/\∀b,a.to=ae b->∃w,wants[b]?=ae w/\∀k∈w,k∈ks
def fR(d:Aa):Prop:=d=.none\/∃i:Int,d=.int i/\1<=i/\i<=20
def hV(fs:List Fe):Prop:=1<=fs.length/\∀f∈fs,f.pt=ai
def Ac.pat:Ac->Prop
 |.take fs=>hV fs
 |.read fs=>hV fs
 |.look fs _=>hV fs
 |.lay fs age=>(∀f∈fs,f.tm=ai)/\fR age/\1<=fs.length
 |.same f g _=>f.te=ai/\g.te=ai
 |.go _=>True
def mf(a:Ac):Prop:=fM a.fs/\a.pat
abbrev Bl:=List Str×List Ac
def lT(b:Bl):Aa:=.tuple [d7 b.1,.tuple (b.2.map Ac.d)]
def d5(bs:List Bl):Aa:=.tuple (bs.map lT)
def kn(w:List Str)(as:List Ac)(p:Nat):List Str:=w++(as.take p).flatMap Ac.bs
def ot(b:Bl):Prop:=b.1.length<=4/\(∀k∈b.1,il k)/\b.2.length<=8/\(∀a∈b.2,mf a)/\b.1.Nodup/\oD b.1
def l7(wants:List (List Str))(b:Bl):Prop:=∀(p:Nat)(a:Ac),b.2[p]?=ae a->a.right wants (kn b.1 b.2 p)
def lZ:bz:=λws n Q=>ws=[.tp]/\n < 2 ^ 39/\∀v∈rj,Q (.d v) (n+1)
def nS:bz:=λws n Q=>ws=[.tp]/\n < 2 ^ 39/\∀m:Nat,1<=m->m<=4->Q (~~~m) (n+1)
def wU:bz:=λws n Q=>∃ks:List Str,ws=[.tp,.ln (ks.map .str)]/\ks.length<=1000/\(∀k∈ks,il k)/\n+9 < 2 ^ 39/\∀(fs:List Fe)(n':Int),1<=fs.length->fM fs->(∀f∈fs,f.tm=ai)->rF ks fs->n'<=n+9->Q (.d (fA fs)) n'
def sO:bz:=λws n Q=>∃ks:List Str,ws=[.tp,.ln (ks.map .str)]/\ks.length<=1000/\(∀k∈ks,il k)/\n+2 < 2 ^ 39/\∀(f:Fe)(n':Int),f.ok->f.te=ai->(∀k,f.us=ae k->k∈ks)->n'<=n+2->Q (.d f.d) n'
def pM:bz:=λws n Q=>∃(ks:List Str)(os:List Nat)(wants:List (List Str)),ws=[.tp,.ln (ks.map .str),.d (.list (os.map λb=>.int (b:Nat)))]/\ks.length<=1000/\(∀k∈ks,il k)/\0 < os.length/\os.length<=1000 /\
 (∀b∈os,∃w,wants[b]?=ae w/\∀k∈w,k∈ks)/\n+11 < 2 ^ 39/\∀(a:Ac)(n':Int),mf a->a.right wants ks->n'<=n+11->Q ‹[a.d,.list (a.bs.map .str)]› n'
def t9(bs:List Bl):Prop:=1<=bs.length/\bs.length<=6/\∀b∈bs,ot b/\l7 (bs.map (·.1)) b
def vx:bz:=λws n Q=>∃(ks:List Str)(v:Wv),ws=[.tp,v]/\gC v=ae (ks.map .str)/\ks.length<=1000/\(∀k∈ks,il k)/\n+9 < 2 ^ 39/\∀(fs:List Fe)(n':Int),1<=fs.length->fM fs->(∀f∈fs,f.pt=ai)->rF ks fs->n'<=n+9->Q ‹[fA fs,.list ((bP fs).map .str)]› n'
def jr(bs:List Bl):Prop:=∃w,bs.map (·.1)=[]::w
def xO:bz:=λws n Q=>ws=[.tp]/\n+600 < 2 ^ 39/\∀(bs:List Bl)(n':Int),t9 bs->jr bs->n'<=n+600->Q (.d (d5 bs)) n'
abbrev Hn:=Nat×Nat×Nm
def bR(h:Hn):Aa:=.tuple [.int h.1,.int h.2.1,b7 h.2.2]
abbrev Nt:=List Aa×Aa
def cS(q:Nt):Aa:=.tuple [.tuple q.1,q.2]
def bH(ns:List Nt):Aa:=.tuple (ns.map cS)
def de(hs:List Hn)(ns:List Nt):Aa:=.tuple [.tuple (hs.map bR),bH ns]
abbrev Pg:=List (List Bl)
def bf(ps:Pg):Aa:=.tuple (ps.map d5)
def cu(ps:Pg):Prop:=ps.length<=5/\∀P∈ps,t9 P
def kU(q:Nt):Prop:=ka q.1/\fR q.2
def cO(m:Nat)(ns:List Nt):Prop:=ns.length<=m/\∀q∈ns,kU q
structure okHn(b:Bl)(h:Hn):Prop where
 pl:h.2.1<=b.2.length
 nd:(h.2.2.map (·.1)).Nodup
 ok:∀p∈h.2.2,gE p
 up:lA h.2.2
 mem:∀k,k∈h.2.2.map (·.1)↔k∈kn b.1 b.2 h.2.1
 ln:h.2.2.length<=40
theorem okHn.n(H:okHn b h):okN h.2.2:=⟨H.ln,H.nd,H.ok⟩
def okHs(ps:Pg)(hs:List Hn):Prop:=hs.length=ps.length/\∀(i:Nat)(P:List Bl),ps[i]?=ae P->∃(h:Hn)(b:Bl),hs[i]?=ae h/\P[h.1]?=ae b/\okHn b h
def bS(ps:Pg)(hs:List Hn)(h:Nat):Option Ac:=ps[h]?.bind λP=>hs[h]?.bind λx=>P[x.1]?.bind λb=>b.2[x.2.1]?
def uP:Option Ac->Aa
 |none=>.none
 |some a=>a.d
def Fe.fd:Fe->Fd
 |.any=>.any
 |.word=>.word
 |.num=>.number
 |.isv d=>.is d
 |.bind k=>.bind k
 |.as k=>.as k
 |.nx _=>.any
def Ac.pf:Ac->Option (List Fd)
 |.take fs=>ae (fs.map Fe.fd)
 |.read fs=>ae (fs.map Fe.fd)
 |.look fs _=>ae (fs.map Fe.fd)
 |_=>ah
def Ac.wt:Ac->Bool
 |.take _=>ai
 |.read _=>ai
 |_=>aj
def bu(fs:List Fd)(nm:Nm)(ns:List Nt):Option Nat:=ns.findIdx? λq=>cY fs q.1 nm
def js(hs:List Hn)(h:Nat):Nm:=(hs[h]?.map (·.2.2)).getD []
def bG(ps:Pg)(hs:List Hn)(ns:List Nt)(h:Nat):Option Nat:=(bS ps hs h).bind λa=>a.pf.bind λfs=>bu fs (js hs h) ns
def cf:Option Nat->Aa
 |none=>.none
 |some i=>.int i
def dZ(ns:List Nt)(i:Nat):List Aa:=(ns[i]?.map (·.1)).getD []
def fK(ps:Pg)(hs:List Hn)(ns:List Nt):Prop:=cu ps/\okHs ps hs/\cO 100 ns
def lI:Aa->Aa
 |.int i=>if i=99 then .int 0 else .int (i+1)
 |d=>d
def iu(nm:Nm)(k:Str):Aa:=(look nm k).getD .none
def eC(nm:Nm):Fe->Aa
 |.isv d=>d
 |.as k=>iu nm k
 |.nx k=>lI (iu nm k)
 |_=>.none
def cx(fs:List Fe)(nm:Nm):List Aa:=fs.map (eC nm)
def mS(P:List Bl)(b:Nat):List Str:=(P[b]?.map (·.1)).getD []
def cv(P:List Bl)(b:Nat)(nm:Nm):Hn:=(b,0,nm.filter λp=>decide (p.1∈mS P b))
def cZ(x:Hn)(nm:Nm):Hn:=(x.1,x.2.1+1,nm)
def bK(hs:List Hn)(h:Nat)(x:Hn):List Hn:=hs.take h++x::hs.drop (h+1)
def gp:Aa->Aa
 |.int i=>.int (i-1)
 |d=>d
def cC:Aa->Bool
 |.int i=>decide (i=1)
 |_=>aj
def dA(ns:List Nt):List Nt:=(ns.filter λq=>!cC q.2).map λq=>(q.1,gp q.2)
def cV(ns:List Nt)(i:Nat):List Nt:=ns.take i++ns.drop (i+1)
def cH(fs:List Fe)(x:Hn)(ns:List Nt):Option (Nat×Hn):=(bu (fs.map Fe.fd) x.2.2 ns).map λi=>(i,cZ x (cQ (fO (fs.map Fe.fd) (dZ ns i) x.2.2)))
def gG(P:List Bl)(x:Hn)(ns:List Nt):Ac->Option (Hn×List Nt)
 |.lay fs age=>ae (cZ x x.2.2,ns++[(cx fs x.2.2,age)])
 |.go b=>ae (cv P b x.2.2,ns)
 |.same f g b=>ae (if dQ (eC x.2.2 f) (eC x.2.2 g)=ai then cZ x x.2.2 else cv P b x.2.2,ns)
 |.take fs=>(cH fs x ns).map λq=>(q.2,cV ns q.1)
 |.read fs=>(cH fs x ns).map λq=>(q.2,ns)
 |.look fs b=>match cH fs x ns with
  |some q=>ae (q.2,ns)
  |none=>ae (cv P b x.2.2,ns)
def fk(ps:Pg)(hs:List Hn)(ns:List Nt)(h:Nat):Option (List Hn×List Nt):=ps[h]?.bind λP=>hs[h]?.bind λx=>(bS ps hs h).bind λa=>(gG P x ns a).map λr=>(bK hs h r.1,r.2)
def b6(ps:Pg)(hs:List Hn)(ns:List Nt)(m:Nat):Option (List Hn×List Nt):=if m=ps.length then ae (hs,dA ns)else fk ps hs ns m
def ia:Option (List Hn×List Nt)->Aa
 |none=>.none
 |some r=>de r.1 r.2
def fF(nm:Nm)(f:Fe):Prop:=f.ok/\f.tm=ai/\∀k,f.us=ae k->∃v,look nm k=ae v/\cq v=ai
def ym:Aa->Bool
 |.int _=>ai
 |_=>aj
def uU(b:Aa)(m:Int):Bool:=match b with
 |.int i=>decide (0<=i)&&decide (i<=m)
 |_=>aj
def j7(ps:Pg)(b:Aa):Option Nat:=match b with
 |.int i=>if 0<=i/\i<=(ps.length:Int)then ae i.toNat else ah
 |_=>ah
def ig(ps:Pg)(hs:List Hn)(ns:List Nt)(b:Aa):Option (List Hn×List Nt):=(j7 ps b).bind (b6 ps hs ns)
def vq:bz:=λws n Q=>∃b,ws=[.d b]/\Q (.d (.bool (ym b))) n
def uQ:bz:=λws n Q=>∃(b:Aa)(m:Int),ws=[.d b,.d (.int m)]/\Q (.d (.bool (uU b m))) n
def yT:bz:=λws n Q=>∃v,ws=[.d v]/\cq v=ai/\Q (.d (lI v)) n
def ph:bz:=λws n Q=>∃(f:Fe)(nm:Nm),ws=[.d f.d,.dk (bE nm)]/\fF nm f/\Q (.d (eC nm f)) n
def nc:bz:=λws n Q=>∃(fs:List Fe)(nm:Nm),ws=[.d (fA fs),.d (b7 nm)]/\fs.length<=4/\(∀f∈fs,fF nm f)/\okN nm/\Q ‹(cx fs nm)› n
def uu:bz:=λws n Q=>∃(f g:Fe)(b:Nat)(nm:Nm),ws=[.d (Ac.same f g b).d,.d (b7 nm)]/\fF nm f/\fF nm g/\f.te=ai/\g.te=ai/\okN nm/\Q (.d (.bool (dQ (eC nm f) (eC nm g)))) n
def nJ:bz:=λws n Q=>∃(x:Hn)(nm:Nm),ws=[.d (bR x),.d (b7 nm)]/\Q (.d (bR (cZ x nm))) n
def i8:bz:=λws n Q=>∃(P:List Bl)(b:Nat)(nm:Nm)(w:Bl),ws=[.d (d5 P),.d (.int b),.d (b7 nm)]/\P[b]?=ae w/\w.1.length<=4/\Q (.d (bR (cv P b nm))) n
def kJ:bz:=λws n Q=>∃(hs:List Hn)(h:Nat)(x:Hn),ws=[.d (.tuple (hs.map bR)),.d (.int h),.d (bR x)]/\h < hs.length/\hs.length<=5/\Q ‹((bK hs h x).map bR)› n
def pb:bz:=λws n Q=>∃(ps:Pg)(hs:List Hn)(ns:List Nt)(h:Nat)(a:Ac),ws=[.d (bf ps),.d (de hs ns),.d (.int h),.d a.d]/\fK ps hs ns/\h < ps.length/\bS ps hs h=ae a/\a.pf.isSome=ai/\Q (.d (ia (fk ps hs ns h))) n
def yJ:bz:=λws n Q=>∃(ps:Pg)(hs:List Hn)(ns:List Nt)(h:Nat),ws=[.d (bf ps),.d (de hs ns),.d (.int h)]/\fK ps hs ns/\h < ps.length/\Q (.d (ia (fk ps hs ns h))) n
def yD:bz:=λws n Q=>∃q:Nt,ws=[.d (cS q)]/\fR q.2/\Q (.d (cS (q.1,gp q.2))) n
def wY:bz:=λws n Q=>∃(hs:List Hn)(ns:List Nt),ws=[.d (de hs ns)]/\(∀q∈ns,fR q.2)/\Q (.d (de hs (dA ns))) n
def o6:bz:=λws n Q=>∃(ps:Pg)(hs:List Hn)(ns:List Nt)(b:Aa),ws=[.d (bf ps),.d (de hs ns),.d b]/\fK ps hs ns/\Q (.d (ia (ig ps hs ns b))) n
def nt:bz:=λws n Q=>∃(ps:Pg)(hs:List Hn)(ns:List Nt)(h:Nat),ws=[.d (bf ps),.d (de hs ns),.d (.int h)]/\okHs ps hs/\h < ps.length/\Q (.d (uP (bS ps hs h))) n
def nz:bz:=λws n Q=>∃(ps:Pg)(hs:List Hn)(ns:List Nt)(h:Nat),ws=[.d (bf ps),.d (de hs ns),.d (.int h)]/\fK ps hs ns/\h < ps.length/\Q (.d (cf (bG ps hs ns h))) n
def pA:bz:=λws n Q=>ws=[.tp]/\n < 2 ^ 39/\∀v∈kR,Q (.d v) (n+1)
def qX:bz:=λws n Q=>∃m:Nat,ws=[.tp,.d (.int m)]/\m<=12/\n+100 < 2 ^ 39/\∀(ns:List Nt)(n':Int),cO m ns->n'<=n+100->Q (.d (bH ns)) n'
def um:bz:=λws n Q=>ws=[.tp]/\n+4200 < 2 ^ 39/\∀(ps:Pg)(ns:List Nt)(n':Int),cu ps->(∀P∈ps,jr P)->cO 12 ns->n'<=n+4200->Q ‹[bf ps,bH ns]› n'
abbrev Sd:=List Hn×List Nt
def bJ(s:Sd):Aa:=de s.1 s.2
inductive Wov(ps:Pg):Sd->List Nat->Sd->Prop
 |nil {s:Sd}:Wov ps s [] s
 |cons {s t u:Sd} {m:Nat} {L:List Nat}:m<=ps.length->b6 ps s.1 s.2 m=ae t->Wov ps t L u->Wov ps s (m::L) u
def aE(L:List Nat):List Aa:=L.map λi=>.int (i:Nat)
structure Wlk(ps:Pg)(s0:Sd)(L:List Nat)(S:List Sd):Prop where
 len:S.length=L.length+1
 fst:S[0]?=ae s0
 ok:∀i s,S[i]?=ae s->okHs ps s.1/\cO (12+i) s.2
 st:∀i m,L[i]?=ae m->m<=ps.length/\∃s t,S[i]?=ae s/\S[i+1]?=ae t/\b6 ps s.1 s.2 m=ae t
def d6(ps:Pg):List Hn:=ps.map λ_=>(0,0,[])
def O9:bz:=λws n Q=>∃(ps:Pg)(ns:List Nt),ws=[.d (.tuple [bf ps,bH ns])]/\ps.length<=5/\Q (.d (de (d6 ps) ns)) n
def dr(nu:List Nat)(ns:List Nt):List Nat:=((nu.zip ns).filter λp=>cC p.2.2).map (·.1)
def eW(nu:List Nat)(g:Option Nat):Option Nat:=g.bind (nu[·]?)
def eu(nu:List Nat)(g:Option Nat):Aa:=cf (eW nu g)
def jl(ps:Pg)(s:Sd)(nu:List Nat)(fr m:Nat):Ac->Aa×List Nat×Nat
 |.lay fs age=>(.tuple [.str "lays",.int m,.int fr,cS (cx fs (js s.1 m),age)],nu++[fr],fr+1)
 |.take _=>(.tuple [.str "takes",.int m,eu nu (bG ps s.1 s.2 m)],nu.filter (λx=>!decide (ae x=eW nu (bG ps s.1 s.2 m))),fr)
 |.read _=>(.tuple [.str "reads",.int m,eu nu (bG ps s.1 s.2 m)],nu,fr)
 |.look _ _=>(.tuple [.str "looks",.int m,eu nu (bG ps s.1 s.2 m)],nu,fr)
 |.same _ _ _=>(.tuple [.str "goes",.int m],nu,fr)
 |.go _=>(.tuple [.str "goes",.int m],nu,fr)
def aI(ps:Pg)(s:Sd)(nu:List Nat)(fr m:Nat):Aa×List Nat×Nat:=
 if m=ps.length then(.tuple [.str "clock",.tuple (aE (dr nu s.2))],nu.filter (λx=>!decide (x∈dr nu s.2)),fr)
 else match bS ps s.1 m with
  |some a=>jl ps s nu fr m a
  |none=>(.none,nu,fr)
structure okNu(s:Sd)(nu:List Nat)(fr:Nat):Prop where
 nd:nu.Nodup
 len:nu.length=s.2.length
 lt:∀x∈nu,x < fr
inductive Lgs(ps:Pg):Sd->List Nat->Nat->List Nat->List Aa->Prop
 |nil {s:Sd} {nu:List Nat} {fr:Nat}:Lgs ps s nu fr [] []
 |cons {s t:Sd} {nu:List Nat} {fr m:Nat} {L:List Nat} {R:List Aa}:m<=ps.length->b6 ps s.1 s.2 m=ae t->Lgs ps t (aI ps s nu fr m).2.1 (aI ps s nu fr m).2.2 L R->Lgs ps s nu fr (m::L) ((aI ps s nu fr m).1::R)
def dP(s:Sd)(nu:List Nat)(fr:Nat):Aa:=.tuple [bJ s,.tuple (aE nu),.int fr]
def ua:bz:=O9
def rf:bz:=λws n Q=>∃(ps:Pg)(ns:List Nt),ws=[.d (.tuple [bf ps,bH ns])]/\ps.length<=5/\ns.length<=12/\Q (.d (dP (d6 ps,ns) (A8 ns.length) ns.length)) n
def yk:bz:=λws n Q=>∃(s:Sd)(nu:List Nat)(fr:Nat),ws=[.d (dP s nu fr)]/\nu.length=s.2.length/\(∀q∈s.2,fR q.2)/\Q ‹[.str "clock",.tuple (aE (dr nu s.2))]› n
structure okBd(ps:Pg)(s t:Sd)(nu:List Nat)(fr m:Nat):Prop where
 st:fK ps s.1 s.2
 nu:okNu s nu fr
 le:m<=ps.length
 af:b6 ps s.1 s.2 m=ae t
def vh:bz:=λws n Q=>∃(ps:Pg)(s t:Sd)(nu:List Nat)(fr m:Nat),ws=[.d (bf ps),.d (dP s nu fr),.d (.int m),.d (bJ t)]/\okBd ps s t nu fr m/\m < ps.length/\Q (.d (aI ps s nu fr m).1) n
def vX:bz:=λws n Q=>∃(ps:Pg)(s t:Sd)(nu:List Nat)(fr m:Nat),ws=[.d (bf ps),.d (dP s nu fr),.d (.int m),.d (bJ t)]/\okBd ps s t nu fr m/\Q (.d (aI ps s nu fr m).1) n
def ik:Aa->List Aa
 |.tuple (.str h::r)=>if h="clock" then(match r with|.tuple l::_=>l|_=>[])else if h="takes" then(r.drop 1).take 1 else[]
 |_=>[]
def ku:Aa->Prop
 |.tuple (.str h::r)=>(h="clock"/\∃l,r=[.tuple l])\/(h="takes"/\∃a b,r=[a,b])\/(h≠"clock"/\h≠"takes")
 |_=>False
def qN:bz:=λws n Q=>∃row,ws=[.d row]/\ku row/\Q ‹(ik row)› n
def xi:bz:=λws n Q=>∃(ps:Pg)(s t:Sd)(nu:List Nat)(fr m:Nat),ws=[.d (dP s nu fr),.d (aI ps s nu fr m).1,.d (bJ t)]/\okBd ps s t nu fr m/\nu.length<=200/\Q (.d (dP t (aI ps s nu fr m).2.1 (aI ps s nu fr m).2.2)) n
def fw(ps:Pg)(b:Aa):Nat:=(j7 ps b).getD 0
def kF(ps:Pg)(s:Sd)(nu:List Nat)(fr:Nat)(b:Aa):Aa:=match ig ps s.1 s.2 b with
 |none=>.none
 |some t=>.tuple [(aI ps s nu fr (fw ps b)).1,dP t (aI ps s nu fr (fw ps b)).2.1 (aI ps s nu fr (fw ps b)).2.2]
def rk:bz:=λws n Q=>∃(ps:Pg)(s:Sd)(nu:List Nat)(fr:Nat)(b:Aa),ws=[.d (bf ps),.d (dP s nu fr),.d b]/\fK ps s.1 s.2/\okNu s nu fr/\Q (.d (kF ps s nu fr b)) n
def jG(ps:Pg)(ns:List Nt)(L:List Nat)(R:List Aa):Prop:=cu ps/\okHs ps (d6 ps)/\cO 12 ns/\L.length<=40/\Lgs ps (d6 ps,ns) (A8 ns.length) ns.length L R
def je:Aa->Bool
 |.str x=>decide (x="clock")
 |_=>aj
def eJ(ps:Pg):Aa->Aa
 |.tuple (a::b::_)=>if je a=ai then .int ps.length else b
 |_=>.none
open Classical in
def gx(x d:Aa):Bool:=decide (x=d)
open Classical in
theorem j8(h:x=d):gx x d=ai:=by unfold gx;exact decide_eq_true h
open Classical in
theorem jY(h:x≠d):gx x d=aj:=by unfold gx;exact decide_eq_false h
def jI(ps:Pg):Sd->List Nat->Nat->List Aa->Bool
 |_,_,_,[]=>ai
 |s,nu,fr,d::r=>match ig ps s.1 s.2 (eJ ps d)with
  |none=>aj
  |some t=>gx (aI ps s nu fr (fw ps (eJ ps d))).1 d&&jI ps t (aI ps s nu fr (fw ps (eJ ps d))).2.1 (aI ps s nu fr (fw ps (eJ ps d))).2.2 r
def gy(ps:Pg)(ns:List Nt):Aa->Bool
 |.list rs=>jI ps (d6 ps,ns) (A8 ns.length) ns.length rs
 |_=>aj
def DM(k w:Nat)(d:Aa):Prop:=B1 d=ai/\Bv d<=k/\Ea d<=w/\Dt 13 d=ai/\Dn d=ai
def okY(d:Aa):Prop:=bA d=ai/\DM 6 20000 d
def okTh(d:Aa):Prop:=(bA d=ai/\DM 8 900000 d)/\∀rs,d=.list rs->rs.length<=40/\∀r∈rs,okY r
def km(ps:Pg)(ns:List Nt):Prop:=cu ps/\okHs ps (d6 ps)/\cO 12 ns
def jd(d:Aa):Prop:=(∃(m k:Nat)(q:Nt),d=.tuple [.str "lays",.int m,.int k,cS q]/\m<=90/\k<=90/\kU q)\/(∃(h:Str)(m:Nat)(g:Option Nat),d=.tuple [.str h,.int m,cf g]/\(h="takes"\/h="reads"\/h="looks")/\m<=90/\∀i,g=ae i->i<=90) \/
 (∃m:Nat,d=.tuple [.str "goes",.int m]/\m<=90)\/∃l:List Nat,d=.tuple [.str "clock",.tuple (aE l)]/\l.length<=60/\∀i∈l,i<=90
mutual
def dH:Aa->Bool
 |.list _=>aj
 |.dict _=>aj
 |.tuple xs=>kI xs
 |_=>ai
def kI:List Aa->Bool
 |[]=>ai
 |x::xs=>dH x&&kI xs
end
def jc:Aa->Str
 |.none=>"none"
 |.bool _=>"truth"
 |.int _=>"number"
 |.str _=>"text"
 |.tuple _=>"tuple"
 |_=>"list"
def nP:bz:=λws n Q=>∃d,ws=[.d d]/\bA d=ai/\Q (.d (.str (jc d))) n
def ki:Nat->bz
 |0=>λ_ _ _=>False
 |k+1=>λws n Q=>∃x y,ws=[.d x,.d y]/\dH x=ai/\bA x=ai/\bA y=ai/\Bv x<=k/\B1 x=ai/\B1 y=ai/\Bv y<=20/\Q (.d (.bool (gx x y))) n
def vo:bz:=λws n Q=>∃ps d,ws=[.d (bf ps),.d d]/\okY d/\Q (.d (eJ ps d)) n
def t6:bz:=λws n Q=>∃ps ns d,ws=[.d (.tuple [bf ps,bH ns]),.d d]/\km ps ns/\okTh d/\Q (.d (.bool (gy ps ns d))) n
def xf:d3:=λws n Q=>∃(ps:Pg)(ns:List Nt)(L:List Nat)(R:List Aa)(v:Aa),ws=[.d (.tuple [bf ps,bH ns]),.d v]/\(v=.tuple (aE L)\/v=.list (aE L))/\jG ps ns L R/\Q R n
def uc:bz:=λws n Q=>∃(ps:Pg)(s t:Sd)(L:List Nat)(v:Aa),ws=[.d (bf ps),.d (bJ s),.d v]/\(v=.tuple (aE L)\/v=.list (aE L))/\cu ps/\okHs ps s.1/\cO (100-L.length) s.2/\L.length<=40/\Wov ps s L t/\Q (.d (bJ t)) n
inductive Rw
 |lay (m n:Nat) (q:Nt)
 |take (m n:Nat)
 |clk (l:List Nat)
 |rd (m:Nat) (g:Option Nat)
 |lk (m:Nat) (g:Option Nat)
 |gs (m:Nat)
def Rw.hd:Rw->Str
 |.lay _ _ _=>"lays"
 |.take _ _=>"takes"
 |.clk _=>"clock"
 |.rd _ _=>"reads"
 |.lk _ _=>"looks"
 |.gs _=>"goes"
def Rw.tl:Rw->List Aa
 |.lay m n q=>[.int m,.int n,cS q]
 |.take m n=>[.int m,.int n]
 |.clk l=>[.tuple (aE l)]
 |.rd m g=>[.int m,cf g]
 |.lk m g=>[.int m,cf g]
 |.gs m=>[.int m]
def e9(r:Rw):Aa:=.tuple (.str r.hd::r.tl)
def iB:Rw->Option Nat
 |.lay _ n _=>ae n
 |_=>ah
def lq:Rw->Nt
 |.lay _ _ q=>q
 |_=>([],.none)
def eI:Rw->List Nat
 |.take _ n=>[n]
 |.clk l=>l
 |_=>[]
def j3:Rw->Bool
 |.clk _=>ai
 |_=>aj
inductive Stp(ns:List Nt)(nu:List Nat)(fr:Nat):Rw->List Nt->List Nat->Nat->Prop
 |lay {m:Nat} {q:Nt}:fR q.2->Stp ns nu fr (.lay m fr q) (ns++[q]) (nu++[fr]) (fr+1)
 |take {m i x:Nat}:i < ns.length->nu[i]?=ae x->Stp ns nu fr (.take m x) (cV ns i) (nu.filter λy=>!decide (ae y=ae x)) fr
 |clk:Stp ns nu fr (.clk (dr nu ns)) (dA ns) (nu.filter λy=>!decide (y∈dr nu ns)) fr
 |rd {m:Nat} {g:Option Nat}:Stp ns nu fr (.rd m g) ns nu fr
 |lk {m:Nat} {g:Option Nat}:Stp ns nu fr (.lk m g) ns nu fr
 |gs {m:Nat}:Stp ns nu fr (.gs m) ns nu fr
inductive Sts(ns0:List Nt):List Rw->List Nt->List Nat->Nat->Prop
 |nil:Sts ns0 [] ns0 (A8 ns0.length) ns0.length
 |snoc {P:List Rw} {ns ns':List Nt} {nu nu':List Nat} {fr fr':Nat} {r:Rw}:Sts ns0 P ns nu fr->Stp ns nu fr r ns' nu' fr'->Sts ns0 (P++[r]) ns' nu' fr'
def dD(P:List Rw)(n:Nat):Option Nat:=P.findIdx? λr=>decide (iB r=ae n)
def cU(P:List Rw)(n:Nat):Option Nat:=P.findIdx? λr=>decide (n∈eI r)
def gq(P:List Rw):Nat:=(P.filter j3).length
def iy:Aa->Nat->Aa
 |.int a,k=>.int (a-k)
 |d,_=>d
def cj(ns0:List Nt)(P:List Rw):Nat:=ns0.length+(P.filter λr=>(iB r).isSome).length
def qE(ns0:List Nt)(P:List Rw)(n:Nat):Option Nat->Nt
 |none=>((ns0[n]?.getD ([],.none)).1,iy (ns0[n]?.getD ([],.none)).2 (gq P))
 |some j=>((lq (P[j]?.getD (.gs 0))).1,iy (lq (P[j]?.getD (.gs 0))).2 (gq (P.drop j)))
def jK(ns0:List Nt)(P:List Rw)(n:Nat):Nt:=qE ns0 P n (dD P n)
def f6(P:List Rw)(n:Nat):Aa:=.tuple [cf (dD P n),cf (cU P n)]
structure okLg(ns0:List Nt)(Rs:List Rw):Prop where
 st:∃ns nu fr,Sts ns0 Rs ns nu fr
 le:Rs.length<=30
 l0:ns0.length<=12
 ag:∀q∈ns0,fR q.2
def sJ:d3:=λws n Q=>∃(ns0:List Nt)(Rs:List Rw),ws=[.d (.list (Rs.map e9)),.d (.int (ns0.length:Nat))]/\okLg ns0 Rs/\Q ((A8 (cj ns0 Rs)).map (f6 Rs)) n
def xD:d3:=λws n Q=>∃(ns0 ns:List Nt)(Rs:List Rw)(nu:List Nat)(fr k:Nat),ws=[.d (.list (Rs.map e9)),.d (.int (ns0.length:Nat)),.d (.int k)]/\okLg ns0 Rs/\k<=Rs.length/\Sts ns0 (Rs.take k) ns nu fr/\Q (aE nu) n
def nA:Option (Hn×List Nt)->Aa
 |none=>.none
 |some r=>.tuple [bR r.1,bH r.2]
def m3:bz:=λws n Q=>∃(a:Ac)(fs:List Fd)(ns:List Nt)(nm:Nm),ws=[.d a.d,.d (bH ns),.d (b7 nm)]/\mf a/\a.pf=ae fs/\cO 100 ns/\okN nm/\Q (.d (cf (bu fs nm ns))) n
def wm:bz:=λws n Q=>∃(ps:Pg)(hs:List Hn)(ns:List Nt)(h:Nat)(P:List Bl)(x:Hn),ws=[.d (d5 P),.d (bR x),.d (bH ns)]/\fK ps hs ns/\ps[h]?=ae P/\hs[h]?=ae x/\Q (.d (nA ((bS ps hs h).bind (gG P x ns)))) n
def tS:bz:=λws n Q=>∃(ps:Pg)(hs:List Hn)(ns:List Nt)(m:Nat),ws=[.d (bf ps),.d (de hs ns),.d (.int m)]/\fK ps hs ns/\m<=ps.length/\Q (.d (ia (b6 ps hs ns m))) n
def uw:bz:=λws n Q=>∃(ps:Pg)(s:Sd)(mo:Nat),ws=[.tp,.d (bf ps),.d (bJ s),.d (.int mo)]/\mo<=30/\cu ps/\okHs ps s.1/\cO 12 s.2/\n+40 < 2 ^ 39/\∀(L:List Nat)(S:List Sd)(n':Int),Wlk ps s L S->L.length=mo->n'<=n+40->Q ‹[.list (aE L),.list (S.map bJ)]› n'
def xE:bz:=λws n Q=>∃(ps:Pg)(s t:Sd)(nu:List Nat)(fr m:Nat),ws=[.d (bf ps),.d (bJ s),.d (.list (aE nu)),.d (.int fr),.d (.int m)]/\okBd ps s t nu fr m/\Q (.d (aI ps s nu fr m).1) n
def fG(ps:Pg):Sd->List Nat->Nat->List Nat->List (List Nat)
 |_,nu,_,[]=>[nu]
 |s,nu,fr,m::L=>nu::(match b6 ps s.1 s.2 m with
  |some t=>fG ps t (aI ps s nu fr m).2.1 (aI ps s nu fr m).2.2 L
  |none=>[])
def eE(ps:Pg)(ns:List Nt)(L:List Nat):List (List Nat):=fG ps (d6 ps,ns) (A8 ns.length) ns.length L
def fW(N:List (List Nat)):Aa:=.list (N.map λnu=>.list (aE nu))
def sI:bz:=λws n Q=>∃(ps:Pg)(ns:List Nt)(L:List Nat)(R:List Aa),ws=[.d (.tuple [bf ps,bH ns]),.d (.list (aE L))]/\jG ps ns L R/\Q ‹[.list R,fW (eE ps ns L)]› n
def xJ:bz:=λws n Q=>∃(ps:Pg)(ns:List Nt)(rs:List Aa),ws=[.d (.tuple [bf ps,bH ns]),.d (.list rs)]/\km ps ns/\okTh (.list rs)/\gy ps ns (.list rs)=ai/\Q (.d (.bool ai)) n
def vT:bz:=λws n Q=>∃(row:Aa)(m:Nat),ws=[.tp,.d row,.d (.int m)]/\jd row/\m<=5/\n+3 < 2 ^ 39/\∀(d:Aa)(n':Int),okY d->n'<=n+3->Q (.d d) n'
def xA:bz:=λws n Q=>∃(l:List Aa)(m:Nat),ws=[.tp,.d (.list l),.d (.int m)]/\l.length<=30/\m<=5/\(∀r∈l,jd r)/\n+6 < 2 ^ 39/\∀(d:Aa)(n':Int),okTh d->n'<=n+6->Q (.d d) n'
def wO:bz:=λws n Q=>∃(ns0:List Nt)(Rs:List Rw),ws=[.d (.list (Rs.map e9)),.d (.int (ns0.length:Nat))]/\okLg ns0 Rs/\Q (.d (.list ((A8 (cj ns0 Rs)).map (f6 Rs)))) n
abbrev FZ:aR:=(au (aL (cT (w2 ↥0 (wC .none) (bC aj))) (aw ⇑"none") aG) (au (aL (cT (bF "bool" ↥0)) (aw ⇑"truth") aG) (au (aL (cT (bF "int" ↥0)) (aw ⇑"number") aG) (au (aL (cT (bF "str" ↥0)) (aw ⇑"text") aG) (aw (fJ (cT (bF "tuple" ↥0)) ⇑"tuple" ⇑"list"))))))
abbrev GL(Sf:bz):aR:=(au (aL (cT (w2 (aH nP (aq ↥0 ao)) (aH nP (aq ↥1 ao)) cL)) (aw (wC (.bool aj))) aG) (au (aL (cR (cT (xR ↥0))) (aw (w2 ↥0 ↥1 (n8 λd e=>ae (Cc d e)))) aG) (au (aL (cT ⇑1006) (aw (wC (.bool aj))) aG) (aw (wB nj (aq (bj (cW [ah,ah] (lN ↥0 ↥1) ⇑1012 df (aH Sf (aq ↥0 (aq ↥1 ao))))) ao))))))
abbrev LL:aR:=(aw (iG (bF "int" ↥0) (pC (bF "bool" ↥0))))
abbrev FU:aR:=(au (aF 4 (w2 ↥0 ⇑0 az)) (au (aL (cT (w2 ↥4 ⇑"is" a9)) (aw (w2 (w2 ↥0 ⇑1 az) ↥1 a9)) aG) (au (aL (cT (w2 ↥4 ⇑"word" a9)) (aw (bF "str" ↥1)) aG) (au (aL (cT (w2 ↥4 ⇑"number" a9)) (aw (bF "int" ↥1)) aG) (au (aL (cT (w2 ↥4 ⇑"as" a9)) (aw (iG (w2 (w2 ↥0 ⇑1 az) (c9 2) (eQ aj)) (w2 (w2 (c9 2) (w2 ↥0 ⇑1 az) gg) ↥1 a9))) aG) (au (aL (cT (w2 ↥4 ⇑"bind" a9)) (aw (Hg (w2 (w2 ↥0 ⇑1 az) (c9 3) (eQ ai)) (w2 (w2 (c9 3) (w2 ↥0 ⇑1 az) gg) ↥1 a9))) aG) (aw (wC (.bool ai)))))))))
abbrev w4:aR:=(au (aL (cT ⇑1006) (aw (wC .none)) aG) (au (jJ 3 (jN ↥2)) (au (jJ 4 mH) (au (aU (lN ↥0 ↥1) (dq 2 (bh (aJ 5) (bh (aJ 6) ck))) (au (aL (cR (cT (aH kQ (aq ↥5 (aq ↥6 (aq (c9 3) (aq (c9 4) ao))))))) (aw (wC .none)) aG) (aL (cT (w2 (w2 ↥5 ⇑0 az) ⇑"bind" a9)) (au (k8 4 (w2 ↥5 ⇑1 az) ↥6) (k8 3 (w2 ↥5 ⇑1 az) ↥6)) aG))) (aw ⇑1029)))))
abbrev FE:aR:=(au (aL (cT (bF "str" ↥0)) (aw ↥0) aG) (aw (fJ (cT (w2 ↥0 ⇑99 a9)) ⇑0 (w2 ↥0 ⇑1 (c6 λi j=>.int (i+j))))))
abbrev GQ:aR:=(au (aL (cT (w2 (w2 ↥0 ⇑0 az) ⇑"is" a9)) (aw (w2 ↥0 ⇑1 az)) aG) (au (aF 2 (w2 (c9 1) (w2 ↥0 ⇑1 az) gg)) (aw (fJ (cT (w2 (w2 ↥0 ⇑0 az) ⇑"next" a9)) (aH yT (aq ↥2 ao)) ↥2))))
abbrev EH:aR:=(au (jJ 2 (jN ↥1)) (aw (wB fq (aq (bj (cW [ah,ae 2] (ft ↥0) (aJ 0) df (aH ph (aq ↥0 (aq (c9 1) ao))))) ao))))
abbrev HQ:aR:=(aw (aA (aq (wB fq (aq (bj (cW [ah] (ft (w2 ↥0 ⇑0 az)) (aJ 0) df (aA (aq ⇑0 (aq ⇑0 (aq (aA ao) ao)))))) ao)) (aq (wB fq (aq (w2 ↥0 ⇑1 az) ao)) ao))))
abbrev FY:aR:=(aw (iG (aH vq (aq ↥0 ao)) (qe kB kB ⇑0 ↥0 ↥1)))
abbrev FD:aR:=(au (aF 3 (w2 ⇑1016 ⇑0 az)) (au (aF 4 (w2 ⇑1016 ⇑1 az)) (au (aF 5 (w2 (w2 (w2 ↥0 ↥2 az) ↥3 az) ⇑1 az)) (aw (fJ (cT (w2 ↥4 (wB bg (aq ↥5 ao)) iz)) (w2 ↥5 ↥4 az) (wC .none))))))
abbrev Ze:List Str:=["take","read","look"]
abbrev FQ:aR:=(au (aF 3 (aH nt ⇑1030)) (au (aL (fX (cT (w2 ↥3 (wC .none) (bC aj))) (cT (px Ze (w2 ↥3 ⇑0 az)))) (aw (wC .none)) aG) (au (aF 4 (w2 ⇑1016 ⇑2 az)) (au (r8 5) (au (aU (jh (w2 ↥1 ⇑1 az)) (dq 2 (bh (aJ 6) (bh (aJ 7) ck))) (aL (cT (sU 5 (w2 ↥7 ⇑0 az))) (au (aL (cT (w2 (aH jV (aq (w2 ↥3 ⇑1 az) (aq (w2 ↥7 ⇑0 az) (aq ↥4 ao)))) (wC .none) (bC ai))) (aw ↥6) aG) (JN 5 (w2 ↥7 ⇑0 az) (wC (.bool ai)))) aG)) (aw (wC .none)))))))
abbrev zZ:aR:=(aw (aA (aq (w2 ↥0 ⇑0 az) (aq (w2 (w2 ↥0 ⇑1 az) ⇑1 (c6 λi j=>.int (i+j))) (aq ↥1 ao)))))
abbrev HR:aR:=(au (aF 3 (w2 (w2 ↥0 ↥1 az) ⇑0 az)) (aw (aA (aq ↥1 (aq ⇑0 (aq (wB fq (aq (bj (cW [ah,ae 3] (ft ↥2) (aJ 0) (cT (w2 (w2 ↥0 ⇑0 az) ↥1 (gN aj))) ↥0)) ao)) ao))))))
abbrev BM:aR:=(aw (w2 (w2 (dN ↥0 cF (cy ↥1)) (aA (aq ↥2 ao)) eG) (dN ↥0 (cy (w2 ↥1 ⇑1 (c6 λi j=>.int (i+j)))) cF) eG))
abbrev xH:aR:=(au (aF 4 ⇑1016) (au (aF 5 (w2 ↥1 ⇑1 az)) (au (aF 6 (aH nz ⇑1030)) (au (aL (cT (w2 ↥6 (wC .none) (bC aj))) (au (aL (cT (w2 (w2 ↥3 ⇑0 az) ⇑"look" cL)) (aw (wC .none)) aG) (aw (aA (aq (aH kJ (aq (w2 ↥1 ⇑0 az) (aq ↥2 (aq (aH i8 (aq (w2 ↥0 ↥2 az) (aq (w2 ↥3 ⇑2 az) (aq (w2 ↥4 ⇑2 az) ao)))) ao)))) (aq ↥5 ao))))) aG) (au (aF 7 (aH jV (aq (w2 ↥3 ⇑1 az) (aq (w2 (w2 ↥5 ↥6 az) ⇑0 az) (aq (w2 ↥4 ⇑2 az) ao))))) (au (aL (cT (w2 (w2 ↥3 ⇑0 az) ⇑"take" a9)) (aF 5 (w2 (dN ↥5 cF (cy ↥6)) (dN ↥5 (cy (w2 ↥6 ⇑1 (c6 λi j=>.int (i+j)))) cF) eG)) aG) (aw (aA (aq (aH kJ (aq (w2 ↥1 ⇑0 az) (aq ↥2 (aq (aH nJ (aq ↥4 (aq ↥7 ao))) ao)))) (aq ↥5 ao))))))))))
abbrev EN:aR:=(au (jJ 2 (jN ↥1)) (aw (w2 (aH ph (aq (w2 ↥0 ⇑1 az) (aq (c9 2) ao))) (aH ph (aq (w2 ↥0 ⇑2 az) (aq (c9 2) ao))) a9)))
abbrev Im:aR:=(au (aF 3 (aH nt ⇑1030)) (au ⇑1014 (au (aL (cT (jn Ze (w2 ↥3 ⇑0 az))) (aw (aH pb ⇑1015)) aG) (au (aF 4 ⇑1016) (au (aF 5 (w2 ↥1 ⇑1 az)) (au (aF 6 (w2 ↥4 ⇑2 az)) (au (aL (cT (w2 (w2 ↥3 ⇑0 az) ⇑"lay" a9)) (au (aF 5 (w2 ↥5 (aA (aq (aA (aq (aH nc (aq (w2 ↥3 ⇑1 az) (aq ↥6 ao))) (aq (w2 ↥3 ⇑2 az) ao))) ao)) eG)) (aF 4 (aH nJ (aq ↥4 (aq ↥6 ao))))) (aL (bW (cT (w2 (w2 ↥3 ⇑0 az) ⇑"same" a9)) (cT (aH uu (aq ↥3 (aq ↥6 ao))))) (aF 4 (aH nJ (aq ↥4 (aq ↥6 ao)))) (aF 4 (aH i8 (aq (w2 ↥0 ↥2 az) (aq (w2 ↥3 (dE ⇑1) az) (aq ↥6 ao))))))) (aw (aA (aq (aH kJ (aq (w2 ↥1 ⇑0 az) (aq ↥2 (aq ↥4 ao)))) (aq ↥5 ao)))))))))))
abbrev HK:aR:=(aw (fJ (cT (w2 (w2 ↥0 ⇑1 az) (wC .none) (bC aj))) ↥0 (aA (aq (w2 ↥0 ⇑0 az) (aq (w2 (w2 ↥0 ⇑1 az) ⇑1 (c6 λi j=>.int (i-j))) ao)))))
abbrev zr:aR:=(aw (aA (aq (w2 ↥0 ⇑0 az) (aq (wB fq (aq (bj (cW [ah] (ft (w2 ↥0 ⇑1 az)) (aJ 0) (cT (w2 (w2 ↥0 ⇑1 az) ⇑1 cL)) (aH yD (aq ↥0 ao)))) ao)) ao))))
abbrev JV:aR:=(au (aF 3 (wB bg (aq ↥0 ao))) (au (aL (cR (cT (aH uQ (aq ↥2 (aq ↥3 ao))))) (aw (wC .none)) aG) (aw (fJ (cT (w2 ↥2 ↥3 a9)) (aH wY (aq ↥1 ao)) (aH yJ ⇑1030)))))
abbrev EW:aR:=(au (aF 1 (wB bg (aq (w2 ↥0 ⇑1 az) ao))) (aw (aA (aq (aH ua (aq ↥0 ao)) (aq (vI ↥1) (aq ↥1 ao))))))
abbrev Jd:aR:=(au (aF 1 (bj (cW [ah,ah] (lN (w2 (w2 ↥0 ⇑0 az) ⇑1 az) (w2 ↥0 ⇑1 az)) ⇑1012 (cT (w2 (w2 ↥0 ⇑1 az) ⇑1 a9)) ↥1))) (aw (aA (aq ⇑"clock" (aq (wB fq (aq ↥1 ao)) ao)))))
abbrev GG:aR:=(au (aF 4 (aH nt ⇑1010)) (au ⇑1003 (au ⇑1005 (au (aF 5 (aH nz ⇑1010)) ⇑1001))))
abbrev AS:aR:=(au (aL (cT (w2 ↥2 (wB bg (aq ↥0 ao)) a9)) (aw (aH yk (aq ↥1 ao))) aG) (aw (aH vh ⇑1015)))
abbrev z9:aR:=(au (aL (cT (w2 (w2 ↥0 ⇑0 az) ⇑"clock" a9)) (aw (w2 ↥0 ⇑1 az)) aG) (aw (fJ (cT (w2 (w2 ↥0 ⇑0 az) ⇑"takes" a9)) (aA (aq (w2 ↥0 ⇑2 az) ao)) (aA ao))))
abbrev rq:aR:=(au (aF 3 (aH qN (aq ↥1 ao))) (au (aF 4 (wB fq (aq (bj (cW [ah,ae 3] (ft (w2 ↥0 ⇑1 az)) (aJ 0) (cT (w2 ↥0 ↥1 (gN ai))) ↥0)) ao))) (au (aL ⇑1019 (aw (aA (aq ↥2 (aq ⇑1031 (aq (w2 (w2 ↥0 ⇑2 az) ⇑1 (c6 λi j=>.int (i+j))) ao))))) aG) ⇑1022)))
abbrev AQ:aR:=(au (aF 3 (aH o6 ⇑1010)) (au ⇑1014 (au (aF 4 (aH vX ⇑1015)) (aw (aA (aq ↥4 (aq (aH xi (aq ↥1 (aq ↥4 (aq ↥3 ao)))) ao)))))))
abbrev IH:aR:=(au (aF 2 (aH rf (aq ↥0 ao))) (au (br 3 (aQ ao)) (au (aU (jh ↥1) ⇑1026 (au (aF 6 (aH rk (aq (w2 ↥0 ⇑0 az) (aq ↥2 (aq ↥5 ao))))) (au (aL (cT (w2 ↥6 (wC .none) (bC aj))) vi aG) (au (aX 3 (w2 ↥6 ⇑0 az)) (aF 2 (w2 ↥6 ⇑1 az)))))) (yE 3))))
abbrev zy:aR:=(au (aL (fX (cR (cT (bF "tuple" ↥1))) (cT (w2 (wB bg (aq ↥1 ao)) ⇑2 iz))) (aw (wC .none)) aG) (aw (fJ (cT (w2 (w2 ↥1 ⇑0 az) ⇑"clock" (n8 λd e=>ae (Cc d e)))) (wB bg (aq ↥0 ao)) (w2 ↥1 ⇑1 az))))
abbrev EJ:aR:=(au (aL (cR (cT (bF "list" ↥1))) (aw (wC (.bool aj))) aG) (au (aF 2 (aH rf (aq ↥0 ao))) (au (aU (fU ↥1) (aJ 3) (au (aF 4 (aH rk (aq (w2 ↥0 ⇑0 az) (aq ↥2 (aq (aH vo (aq (w2 ↥0 ⇑0 az) (aq ↥3 ao))) ao))))) (au (aL (fX (cT (w2 ↥4 (wC .none) (bC aj))) (cR (cT (aH (ki 6) (aq (w2 ↥4 ⇑0 az) (aq ↥3 ao)))))) (aw (wC (.bool aj))) aG) (aF 2 (w2 ↥4 ⇑1 az))))) (aw (wC (.bool ai))))))
abbrev Ib:aR:=(au (br 2 (jB (bj (aQ (aq (wC .none) ao))) ↥1)) (au (br 3 (jB (bj (aQ (aq (wC .none) ao))) ↥1)) (au (aU (jh ↥0) ⇑1026 (au (aL (cT (w2 (w2 ↥5 ⇑0 az) ⇑"lays" a9)) (au (aX 2 ↥4) (aX 3 (wC .none))) aG) (aU (ft (aH qN (aq ↥5 ao))) (aJ 6) (gD 3 ↥6 ↥4)))) (cI 2 (cI 3 (oE (rH (aq ↥2 (aq ↥3 ao)))))))))
abbrev wL:aR:=(oE (cW [ah,ah] (jh (bj (kr sJ (aq (rT ↥0 cF (cy ↥2)) (aq ↥1 ao))))) ⇑1012 (cT (w2 (w2 ↥1 ⇑1 az) (wC .none) (bC aj))) ↥0))
abbrev BG:aR:=(au (aU (jh ↥2) (dq 2 (bh (aJ 3) (bh (aJ 4) ck))) (au (aF 1 (aH o6 (aq ↥0 (aq ↥1 (aq ↥4 ao))))) (aL (cT (w2 ↥1 (wC .none) (bC aj))) vi aG))) (aw ↥1))
abbrev IZ:aR:=(aw (w2 (bj (aQ (aq ⇑"a" (aq ⇑0 (aq ⇑"a" (aq ⇑1 (aq ⇑"ab" (aq ⇑"go" (aq ⇑99 (aq ⇑0 ao)))))))))) ⇑1021 az))
abbrev HB:aR:=(aw (w2 (bj (aQ (aq ⇑1 (aq ⇑2 (aq ⇑2 (aq ⇑2 (aq ⇑1 (aq ⇑3 (aq ⇑4 ao))))))))) (aH cG (aq ↥0 (aq ⇑7 ao))) az))
abbrev AO:aR:=(aw (w2 (gm 0) (aH cG (aq ↥0 (aq (wB dS (aq (gm 0) ao)) ao))) aM))
abbrev CZ:aR:=(au (br 2 (aQ ao)) (au (br 3 (aQ ao)) (au (aU (dC (aH nS (aq ↥0 ao))) (aJ 4) (au (aF 5 (aH cG (aq ↥0 (aq ⇑9 ao)))) (au (aF 6 (w2 ↥1 (gB 3) dR)) (aL (cT (w2 ↥5 ⇑3 iz)) (aX 2 (aA (aq ⇑"is" (aq (aH lZ (aq ↥0 ao)) ao)))) (aL (cT (w2 ↥5 ⇑6 iz)) (aX 2 (w2 (bj (aQ (aq (aA (aq ⇑"any" ao)) (aq (aA (aq ⇑"word" ao)) (aq (aA (aq ⇑"number" ao)) ao))))) (w2 ↥5 ⇑3 (c6 λi j=>.int (i-j))) aM)) (aL (fX (cT (w2 ↥5 ⇑8 iz)) (cT (w2 ↥6 (bj (aQ ao)) bq))) (au (aF 7 (w2 ⇑1024 ⇑1011 aM)) (au (aX 3 ↥7) (aX 2 (aA (aq ⇑"bind" (aq ↥7 ao)))))) (aX 2 (aA (aq ⇑"as" (aq (w2 ↥6 (aH cG (aq ↥0 (aq (wB dS (aq ↥6 ao)) ao))) aM) ao)))))))))) (cI 2 (cI 3 (aw (aA (aq (wB g9 (aq ↥2 ao)) (aq ↥3 ao)))))))))
abbrev FX:aR:=(au (br 2 (aQ ao)) (au (aU (dC (aH nS (aq ↥0 ao))) (aJ 3) (au (aF 4 (aH cG (aq ↥0 (aq ⇑6 ao)))) (aL (fX (cT (w2 ↥4 ⇑3 iz)) (cT (w2 ↥1 (bj (aQ ao)) bq))) (aX 2 (aA (aq ⇑"is" (aq (aH lZ (aq ↥0 ao)) ao)))) (aX 2 (aA (aq (w2 (bj (aQ (aq ⇑"as" (aq ⇑"as" (aq ⇑"next" ao))))) (w2 ↥4 ⇑3 (c6 λi j=>.int (i-j))) aM) (aq (w2 ↥1 (aH cG (aq ↥0 (aq (wB dS (aq ↥1 ao)) ao))) aM) ao))))))) (cI 2 (aw (wB g9 (aq ↥2 ao))))))
abbrev Jw:aR:=(au (aL (fX (cT (w2 ↥1 (bj (aQ ao)) bq)) (cT (w2 (aH cG (aq ↥0 (aq ⇑2 ao))) ⇑0 bq))) (aw (aA (aq ⇑"is" (aq (aH lZ (aq ↥0 ao)) ao)))) aG) (aw (aA (aq ⇑"as" (aq (w2 ↥1 (aH cG (aq ↥0 (aq (wB dS (aq ↥1 ao)) ao))) aM) ao)))))
abbrev BP:aR:=(au (aF 3 (aH cG (aq ↥0 (aq ⇑12 ao)))) (au (aL (cT (w2 ↥3 ⇑4 iz)) (aw (aA (aq (aA (aq ⇑"lay" (aq (aH wU (aq ↥0 (aq ↥1 ao))) (aq (aH pA (aq ↥0 ao)) ao)))) (aq (bj (aQ ao)) ao)))) aG) (au (aF 4 (w2 ↥2 (aH cG (aq ↥0 (aq (wB dS (aq ↥2 ao)) ao))) aM)) (au (aL (cT (w2 ↥3 ⇑10 bq)) (aw (aA (aq (aA (aq ⇑"same" (aq (aH sO (aq ↥0 (aq ↥1 ao))) (aq (aH sO (aq ↥0 (aq ↥1 ao))) (aq ↥4 ao))))) (aq (bj (aQ ao)) ao)))) aG) (au (aL (cT (w2 ↥3 ⇑11 bq)) (aw (aA (aq (aA (aq ⇑"go" (aq ↥4 ao))) (aq (bj (aQ ao)) ao)))) aG) (au (cX (aH vx (aq ↥0 (aq ↥1 ao))) (dq 2 (bh (aJ 5) (bh (aJ 6) ck)))) (au (aL (cT (w2 ↥3 ⇑7 pU)) (aw (aA (aq (aA (aq ⇑"look" (aq ↥5 (aq ↥4 ao)))) (aq ↥6 ao)))) aG) (aw (aA (aq (aA (aq (w2 (bj (aQ (aq ⇑"take" (aq ⇑"take" (aq ⇑"take" (aq ⇑"read" ao)))))) (w2 ↥3 ⇑4 (c6 λi j=>.int (i-j))) aM) (aq ↥5 ao))) (aq ↥6 ao)))))))))))
abbrev DU:aR:=(au (br 1 (aQ (aq (aA ao) ao))) (au (aU (dC (w2 (bj (aQ (aq ⇑0 (aq ⇑1 (aq ⇑2 (aq ⇑1 (aq ⇑0 (aq ⇑2 (aq ⇑5 ao))))))))) (aH cG (aq ↥0 (aq ⇑7 ao))) aM)) (aJ 2) (aX 1 (w2 (bj (aQ (aq (aA ao) (aq (aA (aq ⇑"n" ao)) (aq (aA (aq ⇑"go" (aq ⇑"n" ao))) (aq (aA (aq ⇑"nm" ao)) (aq (aA ao) ao))))))) (aH cG (aq ↥0 (aq ⇑5 ao))) aM))) (au (br 3 (aQ ao)) (cI 1 (au (aU (fU ↥1) (aJ 4) (au (br 5 (qO ↥4)) (au (br 6 (aQ ao)) (au (aU ⇑1018 (aJ 2) (au ⇑1002 (au (cX (aH pM (aq ↥0 (aq (gB 5) (aq ↥8 ao)))) (dq 2 (bh (aJ 9) (bh (aJ 10) ck)))) ⇑1013))) (cI 6 (aX 3 (aA (aq ↥4 (aq (wB g9 (aq ↥6 ao)) ao))))))))) (cI 3 (aw (wB g9 (aq ↥3 ao)))))))))
abbrev IA:aR:=(au (br 2 (aQ ao)) (au (aU (dC (aH cG (aq ↥0 (aq (w2 ↥1 ⇑1 (c6 λi j=>.int (i+j))) ao)))) (aJ 3) (au (aF 4 (wB g9 (aq (bj (cW [ah,ae 0] (dC (aH nS (aq ↥0 ao))) (aJ 0) df (aH lZ (aq ↥1 ao)))) ao))) (aX 2 (aA (aq ↥4 (aq (aH pA (aq ↥0 ao)) ao)))))) (cI 2 (aw (wB g9 (aq ↥2 ao))))))
abbrev zV:aR:=(au (br 1 (cW [ah,ae 0] (dC (w2 (bj (aQ (aq ⇑2 (aq ⇑1 (aq ⇑2 (aq ⇑3 (aq ⇑2 (aq ⇑1 (aq ⇑0 (aq ⇑5 ao)))))))))) ⇑1021 aM)) (aJ 0) df (aH xO (aq ↥1 ao)))) (au (aL (bW (cT (w2 (wB dS (aq (gB 1) ao)) ⇑2 bq)) (cT (w2 ⇑1011 ⇑0 bq))) (gD 1 ⇑1 (w2 (gB 1) ⇑0 aM)) aG) (cI 1 (aw (aA (aq (wB g9 (aq ↥1 ao)) (aq (aH qX (aq ↥0 (aq (w2 (bj (aQ (aq ⇑4 (aq ⇑3 (aq ⇑6 (aq ⇑12 ao)))))) ⇑1011 aM) ao))) ao)))))))
abbrev zD:aR:=(au (jJ 3 (jN ↥2)) (au (br 4 (aQ ao)) (au (aU (dC (wB bg (aq ↥0 ao))) (aJ 5) (au (aF 6 (w2 (w2 ↥0 ↥5 az) ⇑0 az)) (au (aL (fX (cT ⇑1006) ⇑1023) (aw (wC .none)) aG) (au (aL (bW ⇑1008 ⇑1009) (aw (wC .none)) aG) ⇑1000)))) (aw ⇑1029))))
abbrev Ik:aR:=(au (jJ 2 (jN ↥1)) (au (br 3 (aQ ao)) (au (aU (ft ↥0) ⇑1026 (au (aF 6 ↥5) (au (aL (cT (w2 ↥4 ⇑"is" cL)) (aF 6 (w2 (c9 2) ↥5 gg)) aG) (au (aL ⇑1020 (aF 6 (w2 (w2 ↥6 ⇑1 (c6 λi j=>.int (i+j))) ⇑100 (gI (λ_ j=>0 < j) λi j=>.int (i % j)))) aG) (aX 3 ↥6))))) (cI 3 (aw (wB fq (aq ↥3 ao)))))))
abbrev FT:aR:=(au (aU (dC (wB bg (aq ↥1 ao))) (aJ 3) (aL (cT (w2 (aH jV (aq (w2 ↥0 ⇑1 az) (aq (w2 (w2 ↥1 ↥3 az) ⇑0 az) (aq ↥2 ao)))) (wC .none) (bC ai))) (aw ↥3) aG)) (aw (wC .none)))
abbrev FP:aR:=(aw (aA (aq ↥1 (aq ⇑0 (aq (wB fq (aq (bj (cW [ah,ae 1,ae 0] (ft ↥2) (aJ 0) (cT (w2 (w2 ↥0 ⇑0 az) (w2 (w2 ↥2 ↥1 az) ⇑0 az) (gN aj))) ↥0)) ao)) ao)))))
abbrev AM:aR:=(au (cX ↥1 (dq 3 (bh (aJ 3) (bh (aJ 4) (bh (aJ 5) ck))))) (au (aL (cT (w2 ↥4 (wB bg (aq (w2 (w2 ↥0 ↥3 az) ⇑1 az) ao)) a9)) (aw (wC .none)) aG) (au (aF 6 (w2 (w2 (w2 ↥0 ↥3 az) ⇑1 az) ↥4 az)) (au (aL (cT (w2 (w2 ↥6 ⇑0 az) ⇑"lay" a9)) (aw (aA (aq (aA (aq ↥3 (aq (w2 ↥4 ⇑1 (c6 λi j=>.int (i+j))) (aq ↥5 ao)))) (aq (w2 ↥2 (aA (aq (aA (aq (aH nc (aq (w2 ↥6 ⇑1 az) (aq ↥5 ao))) (aq (w2 ↥6 ⇑2 az) ao))) ao)) eG) ao)))) aG) (au (aL (cT (w2 (w2 ↥6 ⇑0 az) ⇑"go" a9)) (aw (aA (aq (aH i8 (aq ↥0 (aq (w2 ↥6 ⇑1 az) (aq ↥5 ao)))) (aq ↥2 ao)))) aG) (au (aL (cT (w2 (w2 ↥6 ⇑0 az) ⇑"same" a9)) (au (cX (bj (cW [ah,ae 5] (ft (dN ↥6 (cy ⇑1) (cy ⇑3))) (aJ 0) df (fJ (cT (w2 (w2 ↥0 ⇑0 az) ⇑"is" a9)) (w2 ↥0 ⇑1 az) (w2 (t7 ↥1) (w2 ↥0 ⇑1 az) gg)))) (tV 2 (bh (aJ 7) (bh (aJ 8) ck)))) (au (aF 1 (aA (aq ↥3 (aq (w2 ↥4 ⇑1 (c6 λi j=>.int (i+j))) (aq ↥5 ao))))) (aw (aA (aq (fJ (cT (w2 ↥7 ↥8 a9)) ↥1 (aH i8 (aq ↥0 (aq (w2 ↥6 ⇑3 az) (aq ↥5 ao))))) (aq ↥2 ao)))))) aG) (au (aF 9 (aH m3 (aq ↥6 (aq ↥2 (aq ↥5 ao))))) (au (aL (cT (w2 ↥9 (wC .none) (bC aj))) (aw (fJ (cT (w2 (w2 ↥6 ⇑0 az) ⇑"look" a9)) (aA (aq (aH i8 (aq ↥0 (aq (w2 ↥6 ⇑2 az) (aq ↥5 ao)))) (aq ↥2 ao))) (wC .none))) aG) (au (aF 1 (aA (aq ↥3 (aq (w2 ↥4 ⇑1 (c6 λi j=>.int (i+j))) (aq (aH jV (aq (w2 ↥6 ⇑1 az) (aq (w2 (w2 ↥2 ↥9 az) ⇑0 az) (aq ↥5 ao)))) ao))))) (au (aL (cT (w2 (w2 ↥6 ⇑0 az) ⇑"take" a9)) (aw (aA (aq ↥1 (aq (w2 (dN ↥2 cF (cy ↥9)) (dN ↥2 (cy (w2 ↥9 ⇑1 (c6 λi j=>.int (i+j)))) cF) eG) ao)))) aG) (aw (aA (aq ↥1 (aq ↥2 ao))))))))))))))
abbrev zO:aR:=(au (aL (cT (w2 ↥2 (wB bg (aq ↥0 ao)) a9)) (aw (aA (aq (w2 ↥1 ⇑0 az) (aq (wB fq (aq (bj (cW [ah,ah] (ft (w2 ↥1 ⇑1 az)) ⇑1012 (cT (w2 ↥1 ⇑1 cL)) (aA (aq ↥0 (aq (wW ↥1 (w2 ↥1 ⇑1 (c6 λi j=>.int (i-j)))) ao))))) ao)) ao)))) aG) (au (aF 3 (aH wm (aq (w2 ↥0 ↥2 az) (aq ⇑1016 (aq (w2 ↥1 ⇑1 az) ao))))) (au ⇑1014 (aw (aA (aq (w2 (w2 (dN (w2 ↥1 ⇑0 az) cF (cy ↥2)) (aA (aq (w2 ↥3 ⇑0 az) ao)) eG) (dN (w2 ↥1 ⇑0 az) (cy (w2 ↥2 ⇑1 (c6 λi j=>.int (i+j)))) cF) eG) (aq (w2 ↥3 ⇑1 az) ao)))))))
abbrev JP:aR:=(au (br 4 (aQ ao)) (au (br 5 (aQ (aq ↥2 ao))) (au (aU (dC ↥3) (aJ 6) (au (br 7 (aQ ao)) (au (aU (dC (w2 (wB dS (aq ↥1 ao)) ⇑1 (c6 λi j=>.int (i+j)))) (aJ 8) (au (aF 9 (aH tS (aq ↥1 (aq (w2 (gB 5) (dE ⇑1) aM) (aq ↥8 ao))))) (aL (cT (w2 ↥9 (wC .none) (bC ai))) (aX 7 (aA (aq ↥8 (aq ↥9 ao)))) aG))) (au (cX (w2 (gB 7) (aH cG (aq ↥0 (aq (wB dS (aq (gB 7) ao)) ao))) aM) (dq 2 (bh (aJ 8) (bh (aJ 9) ck)))) (au (aX 4 ↥8) (aX 5 ↥9)))))) (cI 5 (cI 4 (aw (aA (aq ↥4 (aq ↥5 ao)))))))))
abbrev CD:aR:=(au (aL (cT (w2 ↥4 (wB bg (aq ↥0 ao)) a9)) (aw (aA (aq ⇑"clock" (aq (wB fq (aq (bj (cW [ah,ae 2,ae 1] (dC (wB bg (aq ↥2 ao))) (aJ 0) (cT (w2 (w2 (w2 (w2 ↥2 ⇑1 az) ↥0 az) ⇑1 az) ⇑1 a9)) (w2 ↥1 ↥0 az))) ao)) ao)))) aG) (au (cX (w2 (w2 ↥1 ⇑0 az) ↥4 az) (dq 3 (bh (aJ 5) (bh (aJ 6) (bh (aJ 7) ck))))) (au (aF 8 (w2 (w2 (w2 (w2 ↥0 ↥4 az) ↥5 az) ⇑1 az) ↥6 az)) (au (aL ⇑1025 (aw (aA (aq ⇑"lays" (aq ↥4 (aq ↥3 (aq (aA (aq (aH nc (aq (w2 ↥8 ⇑1 az) (aq ↥7 ao))) (aq (w2 ↥8 ⇑2 az) ao))) ao)))))) aG) (au ⇑1004 (au (aF 9 (aH m3 ⇑1028)) ⇑1017))))))
abbrev EO:aR:=(au (aF 2 (aA (aq (wB g9 (aq (bj (cW [ah] (ft (w2 ↥0 ⇑0 aM)) (aJ 0) df (aA (aq ⇑0 (aq ⇑0 (aq (aA ao) ao)))))) ao)) (aq (w2 ↥0 ⇑1 aM) ao)))) (au (aF 3 (bj (u7 (wB dS (aq (w2 ↥0 ⇑1 aM) ao))))) (au (aF 4 (wB dS (aq ↥3 ao))) (au (br 5 (aQ ao)) (au (br 6 (aQ (aq (wB jT (aq ↥3 ao)) ao))) (au (aU (fU ↥1) (aJ 7) (au (aF 8 (aH tS (aq (w2 ↥0 ⇑0 aM) (aq ↥2 (aq ↥7 ao))))) (au (aL (cT (w2 ↥8 (wC .none) (bC aj))) (aw (wC .none)) aG) (au (aF 9 (aH xE (aq (w2 ↥0 ⇑0 aM) (aq ↥2 (aq ↥3 (aq ↥4 (aq ↥7 ao))))))) (au (aL (cT (w2 (w2 ↥9 ⇑0 aM) ⇑"clock" bq)) (aF 3 (bj (cW [ah,ae 9] (fU ↥3) (aJ 0) (cT (w2 ↥0 (w2 ↥1 ⇑1 aM) (eO ai))) ↥0))) aG) (au (aL (cT (w2 (w2 ↥9 ⇑0 aM) ⇑"takes" bq)) (aF 3 (bj (cW [ah,ae 9] (fU ↥3) (aJ 0) (cT (w2 ↥0 (w2 ↥1 ⇑2 aM) cL)) ↥0))) aG) (au (aL (cT (w2 (w2 ↥9 ⇑0 aM) ⇑"lays" bq)) (au (aF 3 (w2 ↥3 (bj (aQ (aq ↥4 ao))) dR)) (aF 4 (w2 ↥4 ⇑1 (c6 λi j=>.int (i+j))))) aG) ⇑1027))))))) (cI 5 (cI 6 (aw (aA (aq ↥5 (aq ↥6 ao))))))))))))
abbrev Hk:aR:=(au (br 2 (aQ ao)) (au (aU (fU ↥1) (aJ 3) (aX 2 (fJ (cT (w2 (w2 ↥3 ⇑0 az) ⇑"clock" a9)) (wB bg (aq (w2 ↥0 ⇑0 az) ao)) (w2 ↥3 ⇑1 az)))) (cI 2 (au (aL (cT (w2 (wC (.bool ai)) (bj (cW [ah] (fU ↥2) (aJ 0) df (bF "bool" ↥0))) (gN aj))) (aw (wC (.bool aj))) aG) (au (aF 4 (aH sI (aq ↥0 (aq ↥2 ao)))) (aw (iG (w2 ↥4 (wC .none) (bC ai)) (w2 (wB gW (aq (w2 ↥4 ⇑0 az) ao)) (wB gW (aq ↥1 ao)) a9))))))))
abbrev ET:aR:=(au (aF 3 ⇑1021) (au (aL (bW (cT (w2 ↥3 ⇑0 a9)) (cT (w2 (wB bg (aq ↥1 ao)) ⇑2 pU))) (aw (w2 (w2 (dN ↥1 cF (cy ⇑2)) (aA (aq (w2 (bj (aQ (aq (wC .none) (aq ⇑0 (aq ⇑1 (aq (wC (.bool ai)) (aq ⇑7 ao))))))) (aH cG (aq ↥0 (aq ⇑5 ao))) az) ao)) eG) (dN ↥1 (cy ⇑3) cF) eG)) aG) (au (aL (bW (cT (w2 ↥3 ⇑1 a9)) (cT (w2 (w2 ↥1 ⇑0 az) ⇑"clock" cL))) (aw (w2 (w2 (dN ↥1 cF (cy ⇑1)) (aA (aq (w2 (bj (aQ (aq ⇑0 (aq ⇑1 (aq (wC (.bool ai)) (aq ↥2 ao)))))) ⇑1011 az) ao)) eG) (dN ↥1 (cy ⇑2) cF) eG)) aG) (au (aL (cT (w2 ↥3 ⇑2 a9)) (aw (w2 (aA (aq (w2 (bj (aQ (aq ⇑"takes" (aq ⇑"reads" (aq ⇑"looks" (aq ⇑"goes" (aq ⇑"clock" (aq ⇑"lays" ao)))))))) (aH cG (aq ↥0 (aq ⇑6 ao))) az) ao)) (dN ↥1 (cy ⇑1) cF) eG)) aG) (au (aL (bW (cT (w2 ↥3 ⇑3 a9)) (cT (w2 (w2 ↥1 ⇑0 az) ⇑"clock" a9))) (aw (aA (aq ⇑"clock" (aq (w2 (bj (aQ (aq (dN (w2 ↥1 ⇑1 az) (cy ⇑1) cF) (aq (w2 (w2 ↥1 ⇑1 az) (aA (aq ⇑0 ao)) eG) (aq (wB lX (aq (w2 ↥1 ⇑1 az) ao)) (aq (mq (w2 ↥1 ⇑1 az)) ao)))))) ⇑1011 az) ao)))) aG) (au (aL (bW (cT (w2 ↥3 ⇑4 a9)) ⇑1019) (au (cX (w2 ↥1 ⇑3 az) ⇑1026) (au (aF 6 (bj (aQ (aq (aA (aq ↥4 (aq (wC .none) ao))) (aq (aA (aq ↥4 (aq ⇑3 ao))) (aq (aA (aq (w2 ↥4 (aA (aq ⇑0 ao)) eG) (aq ↥5 ao))) (aq ↥4 ao))))))) (aw (w2 (dN ↥1 cF (cy ⇑3)) (aA (aq (w2 ↥6 ⇑1011 az) ao)) eG)))) aG) (au (aL (cT (w2 ↥3 ⇑5 a9)) (aw (w2 (bj (aQ (aq (wB lX (aq ↥1 ao)) (aq (dN ↥1 cF (cy (dE ⇑1))) (aq (w2 ↥1 (aA (aq ⇑0 ao)) eG) (aq (aA (aq ⇑"clock" (aq (aA ao) ao))) (aq ⇑1032 ao))))))) (aH cG (aq ↥0 (aq ⇑5 ao))) az)) aG) (aw ↥1))))))))
abbrev AZ:aR:=(au (aF 3 (wB jT (aq ↥1 ao))) (au (aF 4 (aH cG (aq ↥0 (aq (w2 (wB dS (aq ↥3 ao)) ⇑1 (c6 λi j=>.int (i+j))) ao)))) (au (aF 5 ⇑1021) (au (aL (cT (w2 ↥5 ⇑0 bq)) (aw (w2 (gn ↥3 cF (cy ↥4)) (gn ↥3 (cy (w2 ↥4 ⇑1 (c6 λi j=>.int (i+j)))) cF) dR)) aG) (au (aL (cT (w2 ↥5 ⇑1 bq)) (aw (w2 (gn ↥3 cF (cy ↥4)) (gn ↥3 (cy (wB (pB ai) (aq ⇑0 (aq (w2 ↥4 ⇑1 (c6 λi j=>.int (i-j))) ao)))) cF) dR)) aG) (au (aL (cT (w2 ↥5 ⇑2 bq)) (aw (w2 (gn ↥3 (cy ↥4) cF) (gn ↥3 cF (cy ↥4)) dR)) aG) (au (aL (cT (w2 ↥5 ⇑3 bq)) (aw (w2 ↥3 (bj (aQ (aq (w2 (bj (aQ (aq (aA (aq ⇑"clock" (aq (aA ao) ao))) (aq ⇑1032 (aq (aA (aq ⇑"looks" (aq ⇑0 (aq (wC .none) ao)))) (aq (aA (aq ⇑"takes" (aq ⇑0 (aq ⇑0 ao)))) ao)))))) ⇑1011 aM) ao))) dR)) aG) (au (aL (cT (w2 ↥5 ⇑4 bq)) (aw (gn ↥3 cF (cy ↥4))) aG) (au (aL (cT (w2 ↥5 ⇑5 bq)) (aw (wB g9 (aq ↥3 ao))) aG) (au (aL (cT (w2 ↥4 (wB dS (aq ↥3 ao)) bq)) (aw ↥3) aG) (aw (w2 (w2 (gn ↥3 cF (cy ↥4)) (bj (aQ (aq (aH vT (aq ↥0 (aq (w2 ↥3 ↥4 aM) (aq ↥2 ao)))) ao))) dR) (gn ↥3 (cy (w2 ↥4 ⇑1 (c6 λi j=>.int (i+j)))) cF) dR))))))))))))
abbrev HG:aR:=(au (aF 2 (aH um (aq ↥1 ao))) (au (cX (aH uw (aq ↥1 (aq (w2 ↥2 ⇑0 aM) (aq (aH ua (aq ↥2 ao)) (aq (aH cG (aq ↥1 (aq ⇑31 ao))) ao))))) (dq 2 (bh (aJ 3) (bh (aJ 4) ck)))) (au (cX (aH sI (aq ↥2 (aq ↥3 ao))) (dq 2 (bh (aJ 5) (bh (aJ 6) ck)))) (au (aU (dC ⇑2) (aJ 7) (au (br 8 (kr xf (aq ↥2 (aq (wB jT (aq ↥3 ao)) ao)))) (au (aL (qI 8 (fX (cT (w2 (wB gW (aq ↥8 ao)) (wB gW (aq ↥5 ao)) cL)) (cT (w2 (aH t6 (aq ↥2 (aq ↥8 ao))) (wC (.bool ai)) (mz ai))))) (aw (wC (.bool aj))) aG) (aX 8 ⇑1032)))) (au (aF 9 (wB dS (aq (w2 ↥2 ⇑1 aM) ao))) (au (aL (cT (w2 (wB gW (aq (bj (kr sJ (aq (wB jT (aq ↥5 ao)) (aq ↥9 ao)))) ao)) (wB gW (aq (aH wO (aq ↥5 (aq ↥9 ao))) ao)) cL)) (aw (wC (.bool aj))) aG) (au (aL (cT (w2 (aH uc (aq (w2 ↥2 ⇑0 aM) (aq (w2 ↥4 ⇑0 aM) (aq ↥3 ao)))) (w2 ↥4 (dE ⇑1) aM) (n8 λd e=>ae (!Cc d e)))) (aw (wC (.bool aj))) aG) (au (aU (dC (w2 (wB dS (aq ↥5 ao)) ⇑1 (c6 λi j=>.int (i+j)))) (aJ 10) (aL (fX (cT (w2 (wB gW (aq (bj (kr xD (aq (wB jT (aq ↥5 ao)) (aq ↥9 (aq ↥10 ao))))) ao)) (wB gW (aq (w2 ↥6 ↥10 aM) ao)) cL)) (cT (w2 (wB dS (aq (w2 ↥6 ↥10 aM) ao)) (wB dS (aq (w2 (w2 ↥4 ↥10 aM) ⇑1 aM) ao)) cL))) (aw (wC (.bool aj))) aG)) (au (aU (dC (w2 ⇑3 (aH cG (aq ↥1 (aq ⇑6 ao))) (c6 λi j=>.int (i+j)))) (aJ 10) (au (aF 11 (aH xA (aq ↥1 (aq ↥5 (aq (wB dS (aq (w2 ↥2 ⇑0 aM) ao)) ao))))) (au (aF 12 (aH t6 (aq ↥2 (aq ↥11 ao)))) (au (aL (fX (cR (cT (bF "bool" ↥12))) (bW (cT ↥12) (fX (cR (cT (bF "list" ↥11))) (cR (cT (aH xJ (aq ↥2 (aq ↥11 ao)))))))) (aw (wC (.bool aj))) aG) (aL (bW (cR (cT ↥12)) (bW (cT (bF "list" ↥11)) (cT (w2 (wB gW (aq ↥11 ao)) (wB gW (aq ↥5 ao)) bq)))) (aw (wC (.bool aj))) aG))))) (aw (wC (.bool ai))))))))))))
theorem KH:b9 kQ FU ["field","value","having","bound","head"]:=λws n Q h=>by
 obtain⟨f,v,hp,bp,rfl,fok,hv,hh,hb,k⟩:=h;show FU [↑f.d,↑v,ae (.w (.dk (bE hp))),ae (.w (.dk (bE bp))),ah] n {nx:=λ_ n=>Q (.d .none) n,rt:=Q};cases f with
 |is w=>
  show(match jH w v with|some r=>Q (.d (.bool r)) n|none=>False);rw[sZ (show cq w=ai from fok) hv];exact k
 |any=>exact k
 |word=>
  show Q (.d (.bool (dw "str" v))) n;cases v<;>exact k
 |number=>
  show Q (.d (.bool (dw "int" v))) n;cases v<;>first|cases hv|exact k
 |as x=>
  show jR (.d (.bool (cE (bE hp) (.inr x)).isSome)) (match cE (bE hp) (.inr x)with|some d=>(match jH d v with|some r=>Q (.d (.bool r)) n|none=>False)|none=>False) (Q (.d (.bool aj)) n);rw[kA];unfold iF at k;cases e:look hp x with
  |none=>
   simp only[e]at k;exact k
  |some w=>
   simp only[e]at k;show(match jH w v with|some r=>Q (.d (.bool r)) n|none=>False);rw[sZ (hh _ (l3 e)).2 hv];exact k
 |bind x=>
  show jR (.d (.bool (!(cE (bE bp) (.inr x)).isSome))) (Q (.d (.bool ai)) n) (match cE (bE bp) (.inr x)with|some d=>(match jH d v with|some r=>Q (.d (.bool r)) n|none=>False)|none=>False);rw[kA];unfold iF at k;cases e:look bp x with
  |none=>
   simp only[e]at k;exact k
  |some w=>
   simp only[e]at k;show(match jH w v with|some r=>Q (.d (.bool r)) n|none=>False);rw[sZ (hb _ (l3 e)).2 hv];exact k
theorem LN[Decidable p]{A B:Prop}(h1:p->A)(h2:¬p->B):if decide p=ai then A else B:=by
 by_cases z:p
 ·rw[if_pos (decide_eq_true z)];exact h1 z
 ·rw[if_neg (by rw[decide_eq_false z];exact Ae)];exact h2 z
theorem xh:∀ps:Nm,m8 (ps.map i9)=ae (bE ps)
 |[]=>rfl
 |p::r=>by
  show(m8 (r.map i9)).map _=_;rw[xh r];rfl
theorem Pf(h:x∉l.map (·.1)):put l x v=l++[(x,v)]:=by
 unfold put;rw[if_neg λz=>by
  obtain⟨p,hp,e⟩:=D4.mp z;exact h (Bg.mpr ⟨p,hp,of_decide_eq_true e⟩)]
theorem uo:∀(r l:Nm),((l++r).map (·.1)).Nodup->oh (bE l) (bE r)=bE (l++r)
 |[],l,_=>by rw[Bm];rfl
 |p::r,l,nd=>by
  have e:l++p::r=(l++[p])++r:=by simp
  show oh (fC (bE l) (.inr p.1) p.2) (bE r)=_;rw[tu,Pf,e]
  ·exact uo r (l++[p]) (by rw[<-e];exact nd)
  ·intro z;rw[A9,Ba,List.nodup_append]at nd;exact nd.2.2 _ z _ As rfl
theorem p7(e:δ[j]?=ae (↑(b7 ps)))(ok:okN ps)(k:K.nx (δ.set i (ae (.odk (bE ps)))) n):jJ i (jN (ak j)) δ n K:=by
 unfold jJ jN;refine av e ?_;unfold b7;simp only[xh];refine⟨by rw[Ab];have:=ok.1;omega,?_⟩;have:=uo ps [] (by rw[Bx];exact ok.2.1);rw[Bx]at this;rw[show([]:List (aO×Aa))=bE []from rfl,this];exact k
section
variable{δ:Sl}{n:Int}{K:DEnds}{W V:aR}{Q:DQ}
theorem Vf(k:Q (.d (.bool (!decide (i=j)))) n):cL (~~~i) (~~~j) n Q:=k
theorem RW(e0:δ[0]?=ae (↑(.tuple xs)))(e1:δ[1]?=ae (↑(.tuple ys)))(hT:xs.length≠ys.length->W δ n K)(hF:xs.length=ys.length->V δ n K):
  aL (cT ⇑1006) W V δ n K:=by
 unfold aL cT w2 wB aq ao;refine av e0 ?_;show ak 1 δ n _;refine av e1 ?_;dsimp only[bg];refine Vf ?_;refine l4 (λh=>hT λz=>?_) λh=>hF ?_
 ·rw[z,decide_eq_true rfl]at h;cases h
 ·by_cases z:(xs.length:Int)=(ys.length:Int)
  ·exact Int.ofNat.inj z
  ·rw[decide_eq_false z]at h;cases h
theorem La(e5:δ[5]?=ae (↑g.d))(e6:δ[6]?=ae (↑v))(e3:δ[3]?=ae (ae (.odk (bE hp))))(e4:δ[4]?=ae (ae (.odk (bE bp))))(gok:g.ok)(hv:cq v=ai)(hh:∀p∈hp,gE p)(hb:∀p∈bp,gE p)
  (hT:iF g v hp bp=aj->W δ n K) (hF:iF g v hp bp=ai->V δ n K):aL (cR (cT (aH kQ (aq ↥5 (aq ↥6 (aq (c9 3) (aq (c9 4) ao))))))) W V δ n K:=by
 unfold aL cR cT aH aq ao;refine av e5 ?_;refine av e6 ?_;unfold c9;simp only[e3,e4];refine⟨g,v,hp,bp,rfl,gok,hv,hh,hb,?_⟩;refine l4 (λh=>hT ?_) λh=>hF ?_
 ·cases q:iF g v hp bp with|false=>rfl|true=>rw[q]at h;cases h
 ·cases q:iF g v hp bp with|true=>rfl|false=>rw[q]at h;cases h
variable{xs:List Aa}{j:Nat}{a b v:Aa}{r:List Aa}
end
def pW(gs:List Fd)(vs:List Aa)(hp:Nm)(hs:List Str)(r:Aa):Prop:=match wk (gs.zip vs) hp hs with
 |none=>r=.none
 |some h=>r=b7 (cQ h)
theorem Vu(h1:∀x,x∈hs↔(look bp x).isSome=ai)(h2:∀x w,look bp x=ae w->look hp x=ae w)(h:iF g v hp bp=aj):pW (g::gs) (v::vs) hp hs .none:=by
 have key:wk ((g,v)::gs.zip vs) hp hs=ah:=by
  cases g with
  |is w=>unfold wk;rw[if_neg (by rw[show dQ w v=aj from h];exact Ae)]
  |any=>cases h
  |word=>unfold wk;rw[if_neg (by rw[show iP v=aj from h];exact Ae)]
  |number=>unfold wk;rw[if_neg (by rw[show iD v=aj from h];exact Ae)]
  |as x=>
   unfold wk;unfold iF at h;cases q:look hp x with
   |none=>rfl
   |some w=>
    simp only[q]at h;simp only[h,C6,if_false]
  |bind x=>
   unfold wk;unfold iF at h;cases q:look bp x with
   |none=>simp only[q]at h;cases h
   |some w=>
    simp only[q]at h;rw[if_pos ((h1 x).mpr (by rw[q];rfl)),h2 x w q];simp only[h,C6,if_false]
 unfold pW;rw[Fz,key]
theorem PJ(ng:∀x,g≠.bind x)(h:iF g v hp bp=ai):wk ((g,v)::l) hp hs=wk l hp hs:=by
 cases g with
 |is w=>rw[wk,if_pos (show dQ w v=ai from h)]
 |any=>rw[wk]
 |word=>rw[wk,if_pos (show iP v=ai from h)]
 |number=>rw[wk,if_pos (show iD v=ai from h)]
 |as x=>
  rw[wk];unfold iF at h;cases q:look hp x with
  |none=>simp only[q]at h;cases h
  |some w=>
   simp only[q]at h;simp only[h,if_true]
 |bind x=>exact absurd rfl (ng x)
def Fd.hd:Fd->Str
 |.is _=>"is"
 |.any=>"any"
 |.word=>"word"
 |.number=>"number"
 |.bind _=>"bind"
 |.as _=>"as"
def Fd.tl:Fd->List Aa
 |.is v=>[v]
 |.bind x=>[.str x]
 |.as x=>[.str x]
 |_=>[]
theorem Fd.parts(g:Fd):g.d=.tuple (.str g.hd::g.tl):=by cases g<;>rfl
theorem mF(x):∀hs:List Str,b8 (.str x) (hs.map .str)=decide (x∈hs)
 |[]=>by simp[b8]
 |y::r=>by
  show(rK (.str y) (.str x) || b8 (.str x) (r.map .str))=_;rw[mF x r];have e:rK (.str y) (.str x)=decide (x=y):=by
   show(y==x)=_;by_cases z:x=y
   ·subst z;rw[decide_eq_true rfl];exact beq_self_eq_true _
   ·rw[decide_eq_false z];exact beq_eq_false_iff_ne.mpr λw=>z w.symm
  rw[e];by_cases z:x=y
  ·subst z;simp
  ·rw[decide_eq_false z,Bool.false_or];by_cases q:x∈r
   ·rw[decide_eq_true q,decide_eq_true (Au _ q)]
   ·rw[decide_eq_false q,decide_eq_false (by simp[z,q])]
theorem N5(nd:(hp.map (·.1)).Nodup)(h:p∈hp):look hp p.1=ae p.2:=by
 cases q:look hp p.1 with
 |none=>
  have a:=rZ hp p.1;rw[q]at a;have b:(hp.any λq=>decide (q.1=p.1))=ai:=D4.mpr ⟨p,h,decide_eq_true rfl⟩;rw[b]at a;cases a
 |some v=>
  have hm:=l3 q;obtain⟨i,hi⟩:=Bw.mp h;obtain⟨j,hj⟩:=Bw.mp hm;have a1:(hp.map (·.1))[i]?=ae p.1:=by rw[Ax,hi];rfl
  have a2:(hp.map (·.1))[j]?=ae p.1:=by rw[Ax,hj];rfl
  obtain⟨b1,b2⟩:=Ao.mp a1;obtain⟨c1,c2⟩:=Ao.mp a2;have:=(Fk nd).mp (b2.trans c2.symm);rw[this,hj]at hi;have:=A7 hi;rw[<-this]
theorem Q3(k:K.nx (δ.set i (ae (.odk (bE [])))) n):jJ i mH δ n K:=k
theorem Q8(e0:δ[0]?=ae (↑(.tuple xs)))(e1:δ[1]?=ae (↑(.tuple ys)))(hl:xs.length=ys.length)(k:fh g W K (dv xs ys) δ n):aU (lN ↥0 ↥1) g W δ n K:=by
 unfold aU lN;exact av e0 (av e1 ⟨hl,k⟩)
theorem Qf:b9 jV w4 ["pattern","row","names","having","bound","field","value"]:=λws n Q h=>by
 obtain⟨fs,row,nm,rfl,okp,okr,okn,k0⟩:=h;have k:∀r,qt fs row nm r->Q (.d r) n:=λr hr=>by rw[VI hr];exact k0
 show w4 [↑(dB fs),↑(.tuple row),↑(b7 nm),ah,ah,ah,ah] n {nx:=λ_ n=>Q (.d .none) n,rt:=Q};unfold w4;refine aB (RW (xs:=fs.map Fd.d) (ys:=row) rfl rfl (λne=>?_) λel=>?_)
 ·show Q (.d .none) n;refine k .none ?_;unfold qt;rw[Ab]at ne;rw[if_neg ne]
 ·rw[Ab]at el;ac_rfl;refine aB (p7 rfl okn ?_);ac_nf;refine aB (Q3 ?_);ac_nf;refine aB (Q8 (xs:=fs.map Fd.d) (ys:=row) rfl rfl (by rw[Ab];exact el) ?_);refine eV (λds δ m=>m=n/\∃(gs:List Fd)(vs:List Aa)(hp bp:Nm)(hs:List Str)(y z:Option SV),ds=dv (gs.map Fd.d) vs/\gs.length=vs.length/\δ=[↑(dB fs),↑(.tuple row),↑(b7 nm),ae (.odk (bE hp)),ae (.odk (bE bp)),y,z] /\
   (∀g∈gs,g.ok)/\(∀d∈vs,cq d=ai)/\(hp.map (·.1)).Nodup/\(∀p∈hp,gE p)/\(∀p∈bp,gE p)/\hp.length+gs.length<=48/\bp.length+gs.length<=48/\(∀x,x∈hs↔(look bp x).isSome=ai)/\(∀x w,look bp x=ae w->look hp x=ae w)/\∀r,pW gs vs hp hs r->Q (.d r) n) ?_ ?_ _ _ _ ?_
  ·rintro δ m ⟨rfl,gs,vs,hp,bp,hs,y,z,e,hl,rfl,gok,vok,nd,hok,bok,l1,l2,i1,i2,kq⟩
   have:gs=[]:=by
    cases gs with
    |nil=>rfl
    |cons g gs=>cases vs with|nil=>cases hl|cons v vs=>cases e
   subst this;rw[Gs]at l1;show ∃ps':Nm,bE hp=bE ps'/\_;refine⟨hp,rfl,by omega,nd,λp hp'=>⟨A4 (hok p hp').1.1 ∎,zW (hok p hp').2⟩,λps' p1 r1=>?_⟩;exact kq (.tuple (ps'.map i9)) (by show PyData.tuple (ps'.map i9)=b7 (cQ hp);rw[Jh nd p1 r1];rfl)
  ·rintro d r δ m N ⟨rfl,gs,vs,hp,bp,hs,y,z,e,hl,rfl,gok,vok,nd,hok,bok,l1,l2,i1,i2,kq⟩ hN
   cases gs with
   |nil=>cases e
   |cons g gs=>
    cases vs with
    |nil=>cases hl
    |cons v vs=>
     have e1:d=.tuple [g.d,v]:=by have:=congrArg (λl=>l.head?) e;simpa[dv]using this
     have e2:r=dv (gs.map Fd.d) vs:=by have:=congrArg List.tail e;simpa[dv]using this
     subst e1 e2;rw[Ap]at l1 l2;rw[Ap,Ap]at hl;have gk:=gok g As;have vk:=vok v As;refine⟨rfl,?_⟩;dsimp only[bh,aJ,ck,Am];refine aB (La rfl rfl rfl rfl gk vk hok bok (λff=>?_) λff=>?_)
     ·exact kq .none (Vu i1 i2 ff)
     ·ac_rfl;have go:(∀x,g≠.bind x)->N [↑(dB fs),↑(.tuple row),↑(b7 nm),ae (.odk (bE hp)),ae (.odk (bE bp)),↑g.d,↑v] m:=λng=>by
       refine hN _ _ ⟨rfl,gs,vs,hp,bp,hs,_,_,rfl,by omega,rfl,λg hg=>gok g (Au _ hg),λd hd=>vok d (Au _ hd),nd,hok,bok,by omega,by omega,i1,i2,λr hr=>kq r ?_⟩;unfold pW at hr ⊢;rw[Fz,PJ ng ff];exact hr
      cases g with
      |is w=>exact go λx z=>nomatch z
      |any=>exact go λx z=>nomatch z
      |word=>exact go λx z=>nomatch z
      |number=>exact go λx z=>nomatch z
      |as x=>exact go λx z=>nomatch z
      |bind x=>
       refine jE (a:=.str "bind") (r:=[.str x]) rfl HP ?_;show(bE bp).length < 1000/\(bE hp).length < 1000/\N [↑(dB fs),↑(.tuple row),↑(b7 nm),ae (.odk (fC (bE hp) (.inr x) v)),ae (.odk (fC (bE bp) (.inr x) v)),↑(Fd.d (.bind x)),↑v] m;rw[tu,tu];refine⟨by unfold bE;rw[Ab];omega,by unfold bE;rw[Ab];omega,?_⟩;have p1:=sV hp x v;have p2:=sV bp x v;refine hN _ _ ⟨rfl,gs,vs,put hp x v,put bp x v,if x∈hs then hs else hs++[x],_,_,rfl,by omega,rfl,λg hg=>gok g (Au _ hg),λd hd=>vok d (Au _ hd),vj nd,oS hok gk vk,oS bok gk vk,by omega,by omega,λy=>?_,λy w hw=>?_,λr hr=>kq r ?_⟩
       ·by_cases q:y=x
        ·subst q;rw[xa];refine⟨λ_=>rfl,λ_=>?_⟩
         split
         ·assumption
         ·exact Bf _ (Bc.mpr rfl)
        ·rw[ya q,<-i1]
         split
         ·exact Iff.rfl
         ·simp[q]
       ·by_cases q:y=x
        ·subst q;rw[xa]at hw ⊢;exact hw
        ·rw[ya q]at hw ⊢;exact i2 y w hw
       ·unfold pW at hr ⊢;rw[Fz,wk];by_cases q:x∈hs
        ·rw[if_pos q]at hr ⊢;cases lb:look bp x with
         |none=>rw[i1,lb]at q;cases q
         |some w=>
          have lh:=i2 x w lb;unfold iF at ff;simp only[lb]at ff;have wv:w=v:=Iq (bok _ (l3 lb)).2 vk ff;subst wv;rw[HM nd lh]at hr;simp only[lh,ff,if_true];exact hr
        ·rw[if_neg q]at hr ⊢;exact hr
  ·refine⟨rfl,fs,row,nm,[],[],ah,ah,rfl,el,rfl,okp.2.2,okr.2,okn.2.1,okn.2.2,λ_ z=>absurd z An,by have:=okp.2.1;have:=okn.1;omega,by have:=okp.2.1;simp;omega,λx=>⟨λz=>absurd z An,λz=>by cases z⟩,λx w z=>(nomatch z),λr hr=>k r ?_⟩;unfold qt;rw[if_pos el];exact hr
abbrev Zc:List Str:=["_law_tape_here"]
theorem OY:b9 lZ IZ Zc:=λws n Q h=>by
 obtain⟨rfl,hn,k⟩:=h;show IZ [ae (.w .tp)] n _;refine bb (ar (bc (Aj ∎ ?_)));dsimp only;refine gA (m:=8) rfl ⋯ ∎ ∎ λr h0 h1=>kd (ds:=[.str "a",.int 0,.str "a",.int 1,.str "ab",.str "go",.int 99,.int 0]) h0 h1 λd hd=>k d ?_;simp only[Aq,An,or_false]at hd;rcases hd with rfl|rfl|rfl|rfl|rfl|rfl|rfl|rfl<;>simp[rj]
theorem MN:b9 nS HB Zc:=λws n Q h=>by
 obtain⟨rfl,hn,k⟩:=h;show HB [ae (.w .tp)] n _;refine bb (ar (bc (Aj ∎ ?_)));dsimp only;refine gA (m:=7) rfl ⋯ ∎ ∎ λr h0 h1=>kd (ds:=[.int 1,.int 2,.int 2,.int 2,.int 1,.int 3,.int 4]) h0 h1 λd hd=>?_;simp only[Aq,An,or_false]at hd;rcases hd with rfl|rfl|rfl|rfl|rfl|rfl|rfl
 ·exact k 1 ∎ ∎
 ·exact k 2 ∎ ∎
 ·exact k 2 ∎ ∎
 ·exact k 2 ∎ ∎
 ·exact k 1 ∎ ∎
 ·exact k 3 ∎ ∎
 ·exact k 4 ∎ ∎
theorem zT(e:δ[0]?=ae (ae (.w .tp)))(hn:n < 2 ^ 39)(k:∀m:Nat,1<=m->m<=4->fh g W K (cb 0 m) δ (n+1)):aU (dC (aH nS (aq ↥0 ao))) g W δ n K:=by
 unfold aU dC;refine cJ (av e (Aj rfl ⟨hn,λm h1 h4=>?_⟩));refine Aj ⟨by omega,by omega⟩ ?_;rw[Bs];exact k m h1 h4
theorem tJ(h:fM fs):∀k∈bP fs,il k:=λk hk=>by
 obtain⟨f,hf,e⟩:=G1.mp hk;have:=h.2 f hf;cases f<;>cases e;exact this
theorem xg(h:fM fs):(bP fs).length<=4:=A4 (List.length_filterMap_le _ _) h.1
theorem JD(hw:∀Q:DQ,Q (.d (.str s)) n->w δ n Q)(e:b8 (.str s) (hs.map .str)=b)(q:Q b n):cT (jn hs w) δ n Q:=hw _ (Aj rfl (by show Q (b8 (.str s) (hs.map .str)) n;rw[e];exact q))
theorem DW{a:Ac}(h:fM a.fs):(∀k∈a.bs,il k)/\a.bs.length<=4:=by
 cases a with
 |take fs=>exact⟨tJ h,xg h⟩
 |read fs=>exact⟨tJ h,xg h⟩
 |look fs b=>exact⟨tJ h,xg h⟩
 |lay fs b=>exact⟨λk hk=>by simp[Ac.bs]at hk,by simp[Ac.bs]⟩
 |same f g b=>exact⟨λk hk=>by simp[Ac.bs]at hk,by simp[Ac.bs]⟩
 |go b=>exact⟨λk hk=>by simp[Ac.bs]at hk,by simp[Ac.bs]⟩
theorem DX:∀{ys ks:List Str},ys.Nodup->(∀k∈ys,k∈ks)->ys.length<=ks.length
 |[],_,_,_=>Bo _
 |y::ys,ks,h,hs=>by
  obtain⟨h1,h2⟩:=De.mp h;have hm:=hs y As;have:=DX (ks:=ks.erase y) h2 λk hk=>(List.mem_erase_of_ne (λ(e:k=y)=>h1 (e▸hk))).mpr (hs k (Au _ hk));rw[List.length_erase_of_mem hm]at this;have:=List.length_pos_of_mem hm;rw[Ap];omega
theorem rG(h:v∈rj):cq v=ai:=by
 simp only[rj,Aq,An,or_false]at h;rcases h with rfl|rfl|rfl|rfl|rfl|rfl<;>decide +kernel
theorem P7(hv:gC v=ae a)(hl:a.length+b.length<=Ay)(q:Q (.d (.list (a++b))) n):dR v (.ln b) n Q:=by
 unfold dR;rw[hv];exact⟨hl,q⟩
theorem KI(e0:δ[0]?=ae (ae (.w .tp)))(h:n < 2 ^ 39)(k:∀v∈kR,Q (.d v) (n+1)):w2 (gm 0) (aH cG (aq ↥0 (aq (wB dS (aq (gm 0) ao)) ao))) aM δ n Q:=by
 have ht:∀(n:Int)(Q:DQ),Q (.ln kR) n->gm 0 δ n Q:=λn Q q=>by unfold gm;rw[e0];exact q
 exact ar (ht _ _ (kE (m:=7) e0 (λQ q=>aN (ht _ _ q)) ⋯ ∎ ∎ λr h0 h1=>sF h0 h1 k))
theorem Uv(f:Fe)(r):bP (f::r)=f.bd.toList++bP r:=by cases f<;>rfl
theorem UN(fs)(f:Fe):bP (fs++[f])=bP fs++f.bd.toList:=by
 unfold bP;rw[List.filterMap_append];cases f<;>rfl
theorem uE:∀{fs:List Fe}{ks:List Str}{f:Fe},rF ks fs->(∀k,f.us=ae k->k∈ks++bP fs)->rF ks (fs++[f])
 |[],ks,f,_,h=>⟨λk hk=>by simpa[bP]using h k hk,trivial⟩
 |g::r,ks,f,h1,h2=>⟨h1.1,uE h1.2 λk hk=>by
  have:=h2 k hk;rw[Uv,<-Bh]at this;exact this⟩
theorem xX{f:Aa}{ks:List Str}(h:f∈ks.map .str):∃s∈ks,f=.str s:=by
 obtain⟨s,hs,rfl⟩:=Bg.mp h;exact⟨s,hs,rfl⟩
def ve(kv:Wv)(ks:List Str)(n0:Int)(ds:List Aa)(δ:Sl)(n:Int):Prop:=∃(fs:List Fe)(x y z u:Option SV),δ=[ae (.w .tp),ae (.w kv),ae (.own (fs.map Fe.d)),ae (.own ((bP fs).map .str)),x,y,z,u]/\1<=fs.length+ds.length/\fs.length+ds.length<=4/\(∀f∈fs,f.ok/\f.pt=ai)/\rF ks fs/\n+2*(ds.length:Int)<=n0+9
theorem Vz:b9 vx CZ ["_law_tape_here","_law_known","_law_fields","_law_bound","_law_k","_law_way","_law_some","_law_name"]:=λws n0 Q h=>by
 obtain⟨ks,kv,rfl,hkv,hks,hok,hn0,k⟩:=h;show CZ [ae (.w .tp),ae (.w kv),ah,ah,ah,ah,ah,ah] n0 _;refine aB (iI ?_);ac_nf;refine aB (iI ?_);ac_nf;refine aB (zT rfl ⋯ λm h1 h4=>?_);refine eV (ve kv ks n0) (λδ n I=>?_) (λd r δ n N I kN=>?_) _ _ _ ⟨[],ah,ah,ah,ah,rfl,by rw[fV];simpa using h1,by rw[fV];simpa using h4,λf hf=>(by simp at hf),trivial,by rw[fV];omega⟩
 ·obtain⟨fs,x,y,z,u,rfl,hf1,hf,hfo,hr,hn⟩:=I;dsimp only;refine gO rfl ?_;ac_nf;refine gO rfl ?_;ac_nf;exact bb (cz (aN (av rfl (mM (av rfl (Aj (show 2<=1000 by decide) (k fs n (by simpa using hf1) ⟨by simpa using hf,λf z=>(hfo f z).1⟩ (λf z=>(hfo f z).2) hr (by simpa using hn))))))))
 ·obtain⟨fs,x,y,z,u,rfl,hf1,hf,hfo,hr,hn⟩:=I;rw[Ap]at hf1 hf hn;dsimp only[aJ,Am];have hfl:(fs.map Fe.d).length < 1000000:=by rw[Ab];omega
  have hbl:(bP fs).length<=4:=A4 (List.length_filterMap_le _ _) ⋯;have hbo:∀s∈ks++bP fs,il s:=λs hs=>(Bd.mp hs).elim (hok s) λz=>tJ (fs:=fs) ⟨by omega,λf z=>(hfo f z).1⟩ s z;have nxt:∀(f:Fe)(n':Int)(y z u:Option SV)(B:List Aa),f.ok/\f.pt=ai->(∀k,f.us=ae k->k∈ks++bP fs)->n'<=n+2->B=(bP fs).map .str++f.bd.toList.map .str->N [ae (.w .tp),ae (.w kv),ae (.own (fs.map Fe.d++[f.d])),ae (.own B),↑d,y,z,u] n':=λf n' y z u B fo fu hn' hB=>
   kN _ _ ⟨fs++[f],↑d,y,z,u,by rw[hB,A9,UN,A9];rfl,by rw[Af,Av];omega,by rw[Af,Av];omega,λg hg=>(Bd.mp hg).elim (hfo g) λz=>by rw[Bc]at z;subst z;exact fo,uE hr fu,by omega⟩
  have nxtN:∀(f:Fe)(n':Int)(y z u:Option SV),f.bd=ah->f.ok/\f.pt=ai->(∀k,f.us=ae k->k∈ks++bP fs)->n'<=n+2->N [ae (.w .tp),ae (.w kv),ae (.own (fs.map Fe.d++[f.d])),ae (.own ((bP fs).map .str)),↑d,y,z,u] n':=λf n' y z u fb fo fu hn'=>
   nxt f n' y z u _ fo fu hn' (by rw[fb];exact(Bm _).symm)
  refine aB (o9 (m:=9) rfl ⋯ ∎ ∎ λw w0 w1=>?_);ac_nf;refine aB (bx (x:=.list (ks.map .str++(bP fs).map .str)) (λQ q=>ar (av rfl (lP rfl (P7 hkv (O8 (by rw[Ab];omega) (by rw[Ab];omega)) q)))) ?_);ac_nf;refine mL rfl (λhw=>?_) (λhw=>?_)
  ·refine kK rfl (cz (aD (cJ (av rfl (Aj rfl ⟨by omega,λv hv=>?_⟩)))));exact Aj (show 2<=1000 by decide) (Aj hfl (nxtN (.isv v) _ _ _ _ rfl ⟨rG hv,rfl⟩ (λk hk=>by cases hk) ⋯))
  ·refine mL rfl (λhw6=>?_) (λhw6=>?_)
   ·refine kK rfl (ar (bc (Aj ∎ (Aj ∎ (Aj ∎ (Aj ∎ ?_))))));dsimp only;refine ar (av rfl (aD ?_));dsimp only[c6];refine jz (ds:=[.tuple [.str "any"],.tuple [.str "word"],.tuple [.str "number"]]) (r:=w-3) ⋯ (show w-3 < 3 by omega) λf hf'=>?_;simp only[Aq,An,or_false]at hf';rcases hf' with rfl|rfl|rfl
    ·exact Aj hfl (nxtN .any _ _ _ _ rfl ⟨trivial,rfl⟩ (λk hk=>by cases hk) ⋯)
    ·exact Aj hfl (nxtN .word _ _ _ _ rfl ⟨trivial,rfl⟩ (λk hk=>by cases hk) ⋯)
    ·exact Aj hfl (nxtN .num _ _ _ _ rfl ⟨trivial,rfl⟩ (λk hk=>by cases hk) ⋯)
   ·have bind:∀(K:DEnds)(L:List Aa),(∀δ n,N δ n->K.nx δ n)->au (aF 7 (w2 ⇑1024 ⇑1011 aM)) (au (aX 3 ↥7) (aX 2 (aA (aq ⇑"bind" (aq ↥7 ao)))))
      [ae (.w .tp),ae (.w kv),ae (.own (fs.map Fe.d)),ae (.own ((bP fs).map .str)),↑d,↑(.int w),↑(.list L),u] (n+1) K:=λK L hK=>by
     refine aB (show w2 _ _ _ _ _ _ from ar (bc (Aj ∎ ?_)));dsimp only;refine gA (m:=4) rfl ⋯ ∎ ∎ λr r0 r1=>jz (ds:=[.str "n",.str "nm",.str "go",.str "m"]) r0 r1 λf hf'=>?_;have:∃s:Str,f=.str s/\il s:=by
      simp only[Aq,An,or_false]at hf';rcases hf' with rfl|rfl|rfl|rfl<;>exact⟨_,rfl,by decide +kernel,by decide +kernel⟩
     obtain⟨s,rfl,so⟩:=this;ac_nf;refine aB (gP rfl (λQ q=>av rfl q) (by rw[Ab];omega) ?_);ac_nf;refine gP (x:=.tuple [.str "bind",.str s]) rfl (λQ q=>cz (aD (av rfl (Aj (show 2<=1000 by decide) q)))) hfl (hK _ _ ?_);exact nxt (.bind s) (n+1+1) _ _ _ _ ⟨so,rfl⟩ (λk hk=>by cases hk) ⋯ rfl
    by_cases hw8:w < 8
    ·refine bB (λQ q=>l5 (λQ q=>aC (k:=ai) (λQ q=>ar (av rfl (aD ?_))) q) q) (bind _ _ λ_ _ z=>z);show Q (.d (.bool (decide (w < 8)))) _;rw[decide_eq_true hw8];exact q
    ·have hmem:∀f∈ks.map Cy++(bP fs).map Cy,∃s∈ks++bP fs,f=.str s:=λf hf=>xX (by rw[A9];exact hf);have hlen:(ks.map Cy++(bP fs).map Cy).length<=2000:=by rw[Af,Ab,Ab];omega
     generalize(ks.map Cy++(bP fs).map Cy)=L at hmem hlen;cases L with
     |nil=>
      refine bB (λQ q=>fS (λQ q=>aC (k:=aj) (λQ q=>ar (av rfl (aD ?_))) q) (aC (k:=ai) (λQ q=>ar (av rfl (bc (Aj (Bo _) q)))) q)) (bind _ _ λ_ _ z=>z);show Q (.d (.bool (decide (w < 8)))) _;rw[decide_eq_false hw8];exact q
     |cons a l=>
      refine aT (λQ q=>fS (λQ q=>aC (k:=aj) (λQ q=>ar (av rfl (aD ?_))) q) (aC (k:=aj) (λQ q=>ar (av rfl (bc (Aj (Bo _) q)))) q)) ?_
      ·show Q (.d (.bool (decide (w < 8)))) _;rw[decide_eq_false hw8];exact q
      ·refine kK rfl (cz (aD (ar (av rfl ?_))));refine kE (m:=(a::l).length) rfl (λQ q=>aN (av rfl q)) ⋯ (by rw[Ap];omega) ⋯ λr r0 r1=>jz r0 r1 λf hf'=>?_;obtain⟨s,hs,rfl⟩:=hmem f hf';exact Aj (show 2<=1000 by decide) (Aj hfl (nxtN (.as s) _ _ _ _ rfl ⟨hbo s hs,rfl⟩ (λk hk=>by cases hk;exact hs) ⋯))
theorem zi(h:v∈kR):fR v:=by
 simp only[kR,Aq,An,or_false]at h;rcases h with rfl|rfl|rfl|rfl|rfl|rfl|rfl<;>first|exact .inl rfl|exact .inr ⟨_,rfl,by decide,by decide⟩
theorem NL:b9 pA AO Zc:=λws n Q h=>by
 obtain⟨rfl,hn,k⟩:=h;show AO [ae (.w .tp)] n _;exact bb (KI rfl hn k)
theorem Iu(e0:δ[0]?=ae (ae (.w .tp)))(h:n < 2 ^ 39)(k:∀v∈kR,Q (.d v) (n+1)):aH pA (aq ↥0 ao) δ n Q:=cJ (av e0 ⟨rfl,h,k⟩)
def xr(ks:List Str)(n0:Int)(ds:List Aa)(δ:Sl)(n:Int):Prop:=∃(fs:List Fe)(x y:Option SV),δ=[ae (.w .tp),ae (.w (.ln (ks.map .str))),ae (.own (fs.map Fe.d)),x,y]/\fs.length+ds.length<=4/\1<=fs.length+ds.length/\(∀f∈fs,f.ok/\f.tm=ai)/\rF ks fs/\n+2*(ds.length:Int)<=n0+9
theorem Rk:b9 wU FX ["_law_tape_here","_law_known","_law_fields","_law_k","_law_way"]:=λws n0 Q h=>by
 obtain⟨ks,rfl,hks,hok,hn0,k⟩:=h;show FX [ae (.w .tp),ae (.w (.ln (ks.map .str))),ah,ah,ah] n0 _;refine aB (iI ?_);ac_nf;refine aB (zT rfl ⋯ λm h1 h4=>?_);refine eV (xr ks n0) (λδ n I=>?_) (λd r δ n N I kN=>?_) _ _ _ ⟨[],ah,ah,rfl,by rw[fV];simpa using h4,by rw[fV];simpa using h1,λf hf=>(by simp at hf),trivial,by rw[fV];omega⟩
 ·obtain⟨fs,x,y,rfl,hf,hf1,hfo,hr,hn⟩:=I;dsimp only;refine gO rfl ?_;ac_nf;exact bb (aN (av rfl (mM (k fs n (by simpa using hf1) ⟨by simpa using hf,λf z=>(hfo f z).1⟩ (λf z=>(hfo f z).2) hr (by simpa using hn)))))
 ·obtain⟨fs,x,y,rfl,hf,hf1,hfo,hr,hn⟩:=I;rw[Ap]at hf hf1 hn;dsimp only[aJ,Am];have hfl:(fs.map Fe.d).length < 1000000:=by rw[Ab];omega
  have nxt:∀(f:Fe)(n':Int)(y:Option SV),f.ok/\f.tm=ai->(∀k,f.us=ae k->k∈ks)->n'<=n+2->N [ae (.w .tp),ae (.w (.ln (ks.map .str))),ae (.own (fs.map Fe.d++[f.d])),↑d,y] n':=λf n' y fo fu hn'=>
   kN _ _ ⟨fs++[f],↑d,y,by rw[A9];rfl,by rw[Af,Av];omega,by rw[Af,Av];omega,λg hg=>(Bd.mp hg).elim (hfo g) λz=>by rw[Bc]at z;subst z;exact fo,uE hr λk hk=>Dx _ (fu k hk),by omega⟩
  refine aB (o9 (m:=6) rfl ⋯ ∎ ∎ λw w0 w1=>?_);ac_nf;have isv:∀K:DEnds,(∀δ n,N δ n->K.nx δ n)->aX 2 (aA (aq ⇑"is" (aq (aH lZ (aq ↥0 ao)) ao))) [ae (.w .tp),ae (.w (.ln (ks.map .str))),ae (.own (fs.map Fe.d)),↑d,↑(.int w)] (n+1) K:=λK hK=>
   kK rfl (cz (aD (cJ (av rfl (Aj rfl ⟨by omega,λv hv=>Aj (show 2<=1000 by decide) (Aj hfl (hK _ _ (nxt (.isv v) _ _ ⟨rG hv,rfl⟩ (λk hk=>by cases hk) ⋯)))⟩)))))
  by_cases hw3:w < 3
  ·refine bB (λQ q=>l5 (λQ q=>aC (k:=ai) (λQ q=>ar (av rfl (aD ?_))) q) q) (isv _ λ_ _ z=>z);show Q (.d (.bool (decide (w < 3)))) _;rw[decide_eq_true hw3];exact q
  ·have ct3:∀Q:DQ,Q (.d (.bool aj)) (n+1)->w2 ↥4 (wC (.int 3)) iz [ae (.w .tp),ae (.w (.ln (ks.map .str))),ae (.own (fs.map Fe.d)),↑d,↑(.int w)] (n+1) Q:=λQ q=>ar (av rfl (aD (by
    show Q (.d (.bool (decide (w < 3)))) _;rw[decide_eq_false hw3];exact q)))
   cases ks with
   |nil=>exact bB (λQ q=>fS (λQ q=>aC (k:=aj) ct3 q) (aC (k:=ai) (λQ q=>ar (av rfl (lJ (kD q)))) q)) (isv _ λ_ _ z=>z)
   |cons a l=>
    refine aT (λQ q=>fS (λQ q=>aC (k:=aj) ct3 q) (aC (k:=aj) (λQ q=>ar (av rfl (lJ (kD q)))) q)) ?_;refine kK rfl (cz (ar (bc (Aj ∎ ?_))));dsimp only;refine ar (av rfl (aD ?_));dsimp only[c6];refine jz (ds:=[.str "as",.str "as",.str "next"]) (r:=w-3) ⋯ (show w-3 < 3 by omega) λf hf'=>?_;refine ar (av rfl ?_);have hl:((a::l).map Cy).length<=1000:=by rw[Ab];exact hks
    refine kE (m:=((a::l).map Cy).length) rfl (λQ q=>aN (av rfl q)) ⋯ (by rw[Ab,Ap];omega) ⋯ λr r0 r1=>sF r0 r1 λf' hf''=>?_;obtain⟨s,hs,rfl⟩:=xX hf'';simp only[Aq,An,or_false]at hf';rcases hf' with rfl|rfl|rfl
    ·exact Aj (show 2<=1000 by decide) (Aj hfl (nxt (.as s) _ _ ⟨hok s hs,rfl⟩ (λk hk=>by cases hk;exact hs) ⋯))
    ·exact Aj (show 2<=1000 by decide) (Aj hfl (nxt (.as s) _ _ ⟨hok s hs,rfl⟩ (λk hk=>by cases hk;exact hs) ⋯))
    ·exact Aj (show 2<=1000 by decide) (Aj hfl (nxt (.nx s) _ _ ⟨hok s hs,rfl⟩ (λk hk=>by cases hk;exact hs) ⋯))
abbrev Zd:List Str:=["_law_tape_here","_law_known"]
theorem MU:b9 sO Jw Zd:=λws n Q h=>by
 obtain⟨ks,rfl,hks,hok,hn0,k⟩:=h;show Jw [ae (.w .tp),ae (.w (.ln (ks.map .str)))] n _;have isv:∀n',n'<=n+1->aw (aA (aq ⇑"is" (aq (aH lZ (aq ↥0 ao)) ao))) [ae (.w .tp),ae (.w (.ln (ks.map .str)))] n' {nx:=λ_ n=>Q (.d .none) n,rt:=Q}:=λn' hn'=>
  bb (cz (aD (cJ (av rfl (Aj rfl ⟨by omega,λv hv=>Aj (show 2<=1000 by decide) (k (.isv v) _ (rG hv) rfl (λk hk=>by cases hk) ⋯)⟩)))))
 cases ks with
 |nil=>exact aB (bB (λQ q=>l5 (λQ q=>aC (k:=ai) (λQ q=>ar (av rfl (lJ (kD q)))) q) q) (isv n ⋯))
 |cons a l=>
  refine aB (eF (fS (λQ q=>aC (k:=aj) (λQ q=>ar (av rfl (lJ (kD q)))) q) ?_));refine ar (gA (m:=2) rfl ⋯ ∎ ∎ λr r0 r1=>aD (mV ?_));show if decide (r=0)=ai then _ else _
  by_cases h:r=0
  ·rw[if_pos (decide_eq_true h)];exact isv (n+1) ⋯
  ·rw[if_neg (by simpa using h)];ac_rfl;refine bb (cz (aD (ar (av rfl ?_))));have hl:((a::l).map Cy).length<=1000:=by rw[Ab];exact hks
   refine kE (m:=((a::l).map Cy).length) rfl (λQ q=>aN (av rfl q)) ⋯ (by rw[Ab,Ap];omega) ⋯ λr r0 r1=>sF r0 r1 λf' hf''=>?_;obtain⟨s,hs,rfl⟩:=xX hf'';exact Aj (show 2<=1000 by decide) (k (.as s) _ (hok s hs) rfl (λk hk=>by cases hk;exact hs) ⋯)
theorem Lc:b9 pM BP ["_law_tape_here","_law_known","_law_open_ones","_law_way","_law_block","_law_pattern_here","_law_bound"]:=λws n Q h=>by
 obtain⟨ks,os,wants,rfl,hks,hok,ho,ho',hop,hn0,k⟩:=h;show BP [ae (.w .tp),ae (.w (.ln (ks.map .str))),↑(.list (os.map λb=>.int (b:Nat))),ah,ah,ah,ah] n _;refine aB (o9 (m:=12) rfl ⋯ ∎ ∎ λw w0 w1=>?_);ac_nf;refine aB (mL rfl (λhw=>?_) (λhw=>?_))
 ·refine bb (cz (gQ (aD (bU (av rfl (av rfl (Es ks ⟨rfl,hks,hok,by omega,λfs n' hf1 hfs htm hrf hn'=>?_⟩)))))));refine Iu rfl ⋯ λv hv=>?_;exact Aj (show 3<=1000 by decide) (lJ (Aj (show 2<=1000 by decide) (k (.lay fs v) _ ⟨hfs,htm,zi hv,hf1⟩ ⟨hrf,λb hb=>by cases hb⟩ ⋯)))
 ac_rfl;refine aB (show aF 4 _ _ _ _ from ar (av rfl ?_));refine kE (m:=(os.map λb:Nat=>E8 (b:Nat)).length) rfl (λQ q=>aN (av rfl q)) ⋯ (by rw[Ab];omega) (by rw[Ab];omega) λr r0 r1=>jz r0 r1 λb hb=>?_;obtain⟨b,hbo,rfl⟩:=Bg.mp hb;have hto:=hop b hbo;ac_nf;refine aB (pq rfl (λh10=>?_) (λh10=>?_))
 ·refine bb (cz (xZ (aD (bU (av rfl (av rfl (Es ks ⟨rfl,hks,hok,by omega,λf n' fo fb fu hn'=>?_⟩)))))));refine bU (av rfl (av rfl (Es ks ⟨rfl,hks,hok,by omega,λg n'' go gb gu hn''=>?_⟩)));refine av rfl (Aj (show 4<=1000 by decide) (lJ (Aj (show 2<=1000 by decide) (k (.same f g b) _ ⟨⟨show 2<=4 by decide,λe he=>?_⟩,fb,gb⟩ ⟨⟨fu,λk hk=>Dx _ (gu k hk),trivial⟩,λb' hb'=>by cases hb';exact hto⟩ ⋯))));simp only[Ac.fs,Aq,An,or_false]at he;rcases he with rfl|rfl
  ·exact fo
  ·exact go
 ac_rfl;refine aB (pq rfl (λh11=>?_) (λh11=>?_))
 ·exact bb (cz (cz (aD (av rfl (Aj (show 2<=1000 by decide) (lJ (Aj (show 2<=1000 by decide) (k (.go b) _ ⟨⟨show 0<=4 by decide,λe he=>by simp[Ac.fs]at he⟩,trivial⟩ ⟨trivial,λb' hb'=>by cases hb';exact hto⟩ ⋯))))))))
 ac_rfl;refine aB ?_;unfold cX;refine bU (av rfl (av rfl (Es ks ⟨.ln (ks.map .str),rfl,rfl,hks,hok,by omega,λfs n' hf1 hfs hpt hrf hn'=>?_⟩)));refine Aj rfl ?_;grind;refine aB (yz rfl (λh7=>?_) (λh7=>?_))
 ·exact bb (cz (gQ (aD (av rfl (av rfl (Aj (show 3<=1000 by decide) (av rfl (Aj (show 2<=1000 by decide) (k (.look fs b) _ ⟨hfs,hf1,hpt⟩ ⟨hrf,λb' hb'=>by cases hb';exact hto⟩ ⋯)))))))))
 ac_rfl;refine bb (cz (cz (ar (bc (Aj ∎ ?_)))));dsimp only;refine ar (av rfl (aD ?_));dsimp only[c6];refine jz (ds:=[.str "take",.str "take",.str "take",.str "read"]) (r:=w-4) ⋯ (show w-4 < 4 by omega) λf hf'=>?_;simp only[Aq,An,or_false]at hf';rcases hf' with rfl|rfl|rfl|rfl
 ·exact av rfl (Aj (show 2<=1000 by decide) (av rfl (Aj (show 2<=1000 by decide) (k (.take fs) _ ⟨hfs,hf1,hpt⟩ ⟨hrf,λb' hb'=>by cases hb'⟩ ⋯))))
 ·exact av rfl (Aj (show 2<=1000 by decide) (av rfl (Aj (show 2<=1000 by decide) (k (.take fs) _ ⟨hfs,hf1,hpt⟩ ⟨hrf,λb' hb'=>by cases hb'⟩ ⋯))))
 ·exact av rfl (Aj (show 2<=1000 by decide) (av rfl (Aj (show 2<=1000 by decide) (k (.take fs) _ ⟨hfs,hf1,hpt⟩ ⟨hrf,λb' hb'=>by cases hb'⟩ ⋯))))
 ·exact av rfl (Aj (show 2<=1000 by decide) (av rfl (Aj (show 2<=1000 by decide) (k (.read fs) _ ⟨hfs,hf1,hpt⟩ ⟨hrf,λb' hb'=>by cases hb'⟩ ⋯))))
def iX:List (List Str):=[[],["n"],["go","n"],["nm"]]
theorem OE(h:w∈iX):w.length<=4/\(∀k∈w,il k)/\w.Nodup/\oD w:=by
 have key:∀w∈iX,w.length<=4/\(∀k∈w,k.length<=4/\Ep k=ai)/\w.Nodup/\w.Pairwise λa b=>¬b.cps.toList < a.cps.toList:=by decide +kernel
 exact key w h
theorem Lx(ss ks:List Str)(k:Q ((ss.map Cy).filter λx=>!b8 x (ks.map .str)) n):
  di (aJ 0) (cT (w2 ↥0 ↥1 (eO ai))) ↥0 Q (ss.map .str) [] [ah,ae (.w (.ln (ks.map .str)))] n:=by
 refine sQ (λd=>∃s:Str,d=.str s) (λx=>!b8 x (ks.map .str)) id (λd n Q' hd q=>?_) (λd n Q' hd q=>av rfl q) _ [] ah n (λd hd=>?_) ?_
 ·obtain⟨s,rfl⟩:=hd;exact aC (k:=!b8 (.str s) (ks.map .str)) (λQ q=>ar (av rfl (av rfl (Aj rfl ⟨qJ ks,q⟩)))) q
 ·obtain⟨s,_,rfl⟩:=Bg.mp hd;exact⟨s,rfl⟩
 ·rw[Bx,List.map_id];exact k
theorem Pz(ss ks:List Str):((ss.map Cy).filter λx=>!b8 x (ks.map .str)).isEmpty=decide (∀k∈ss,k∈ks):=by
 rw[E1,List.isEmpty_iff,List.filter_eq_nil_iff,decide_eq_true_iff]
 constructor
 ·intro h k hk;have:=h (.str k) (Bg.mpr ⟨k,hk,rfl⟩);rw[mF]at this;simpa using this
 ·intro h d hd;obtain⟨k,hk,rfl⟩:=Bg.mp hd;rw[mF,decide_eq_true (h k hk)];simp
def tH(ws:List (List Str))(ks:List Str):Aa->Bool
 |.int j=>decide (∀k∈ws.getD j.toNat [],k∈ks)
 |_=>aj
def lL(ws:List (List Str))(ks:List Str):List Nat:=(A8 ws.length).filter λb=>decide (∀k∈ws.getD b [],k∈ks)
theorem Kt(ws:List (List Str))(ks):(cb 0 ws.length).filter (tH ws ks)=(lL ws ks).map λb=>.int (b:Nat):=by
 unfold cb lL;rw[List.filter_map];have e:(λi:Nat=>E8 (0+(i:Int)))=λb=>.int (b:Nat):=funext λi=>by rw[Int.zero_add]
 rw[e];rfl
theorem PB(ws:List (List Str))(ks:List Str)(k:Q ((lL ws ks).map λb=>.int (b:Nat)) n):
  di (aJ 0) (cT (w2 (bj (cW [ah,ae 1] (ft (w2 ↥2 ↥0 aM)) (aJ 0) (cT (w2 ↥0 ↥1 (eO ai))) ↥0)) (bj (aQ ao)) bq)) ↥0 Q (cb 0 ws.length) [] [ah,ae (.w (.ln (ks.map .str))),↑(.list (ws.map d7))] n:=by
 refine sQ (λd=>∃j:Nat,j < ws.length/\d=.int j) (tH ws ks) id (λd n Q' hd q=>?_) (λd n Q' hd q=>av rfl q) _ [] ah n (λd hd=>?_) ?_
 ·obtain⟨j,hj,rfl⟩:=hd;have hg:(ws.map d7)[j]?=ae (.tuple (ws[j].map .str)):=by rw[Ax,Ah hj];rfl
  refine aC (k:=tH ws ks (.int j)) (λQ q=>ar (bc (jO (ds:=ws[j].map .str) (λQ q=>ar (av rfl (av rfl ?_))) (Lx ws[j] ks (lJ ?_))))) q
  ·show(match dh (ws.map d7) (j:Int)with|some d=>Q (.d d) n|none=>False);rw[fQ hg];exact q
  ·have eo:tH ws ks (.int j)=((ws[j].map Cy).filter λx=>!b8 x (ks.map .str)).isEmpty:=by
    rw[Pz];show decide (∀k∈ws.getD (j:Int).toNat [],k∈ks)=_;rw[Bs,List.getD_eq_getElem?_getD,Ah hj,Option.getD_some]
   rw[eo]at q;exact q
 ·unfold cb at hd;obtain⟨j,hj,rfl⟩:=Bg.mp hd;exact⟨j,Ce.mp hj,by rw[Int.zero_add]⟩
 ·rw[Bx,List.map_id,Kt];exact k
theorem P4(h:ws=[]::w0):0 < (lL ws ks).length:=
 List.length_pos_of_mem (a:=0) (C7.mpr ⟨Ce.mpr (by rw[h];simp),by subst h;simp⟩)
theorem RM(h:b∈lL ws ks):∃w,ws[b]?=ae w/\∀k∈w,k∈ks:=by
 obtain⟨h1,h2⟩:=C7.mp h;have hj:=Ce.mp h1;refine⟨ws[b],Ah hj,?_⟩;have:=of_decide_eq_true h2;rw[List.getD_eq_getElem?_getD,Ah hj,Option.getD_some]at this;exact this
theorem HH:∀{fs:List Fe}{ks ks':List Str},(∀k∈ks,k∈ks')->rF ks fs->rF ks' fs
 |[],_,_,_,_=>trivial
 |f::r,ks,ks',h,z=>⟨λk hk=>h k (z.1 k hk),HH (λk hk=>(Bd.mp hk).elim (λq=>Dx _ (h k q)) λq=>Bf _ q) z.2⟩
theorem Ac.right_mono{a:Ac}(h:∀k∈ks,k∈ks')(z:a.right ws ks):a.right ws ks':=
 ⟨HH h z.1,λb hb=>by obtain⟨w,h1,h2⟩:=z.2 b hb;exact⟨w,h1,λk hk=>h k (h2 k hk)⟩⟩
theorem Uw(h:l7 ws (w,as))(hk:∀k∈ks,k∈w++as.flatMap Ac.bs)(ha:a.right ws ks):l7 ws (w,as++[a]):=λp b hb=>by
 dsimp only at hb ⊢;by_cases hp:p < as.length
 ·rw[Ca hp]at hb;have:=h p b hb;unfold kn at this ⊢;rw[Gn (Fp hp)];exact this
 ·rw[Bt ⋯]at hb;have e0:p-as.length=0:=by
   by_cases e:p-as.length=0
   ·exact e
   ·rw[List.getElem?_eq_none (by rw[Av];omega)]at hb;cases hb
  rw[e0]at hb;cases hb;have ep:p=as.length:=by omega
  subst ep;refine Ac.right_mono (λk z=>?_) ha;unfold kn;rw[Gn (Al _),List.take_length];exact hk k z
structure ActO(ws:List (List Str))(want ks:List Str)(acts:List Ac):Prop where
 mem:∀k,k∈ks↔k∈want++acts.flatMap Ac.bs
 ok:∀k∈ks,il k
 fs:∀a∈acts,mf a
 ri:l7 ws (want,acts)
def o3(ws:List (List Str))(bl:List Aa)(want:List Str)(nb:Int)(ds:List Aa)(δ:Sl)(n:Int):Prop:=∃(ks:List Str)(acts:List Ac)(x2 x7 x8 x9 x10:Option SV),
 δ=[ae (.w .tp),↑(.list (ws.map d7)),x2,ae (.own bl),↑(d7 want),ae (.own (ks.map .str)),ae (.own (acts.map Ac.d)),x7,x8,x9,x10]/\ActO ws want ks acts/\ks.length+4*ds.length<=40/\acts.length+ds.length<=8/\n+11*(ds.length:Int)<=nb+89
theorem RV(hw0:ws=[]::w0)(hwl:ws.length<=6)(hnb:nb+89 < 2 ^ 39)(O:ActO ws want ks acts)(hk:ks.length+4*(r.length+1)<=40)(ha:acts.length+(r.length+1)<=8)(hn:n+11*((r.length:Int)+1)<=nb+89)
  (kN:∀δ n,o3 ws bl want nb r δ n->K.nx δ n):
  au ⇑1002 (au (cX (aH pM (aq ↥0 (aq (gB 5) (aq ↥8 ao)))) (dq 2 (bh (aJ 9) (bh (aJ 10) ck)))) ⇑1013)
   [ae (.w .tp),↑(.list (ws.map d7)),↑d,ae (.own bl),↑(d7 want),ae (.own (ks.map .str)),ae (.own (acts.map Ac.d)),x7,x8,x9,x10] n K:=by
 refine aB (show aF 8 _ _ _ _ from bc ?_);unfold cW dC;refine aN (av rfl ?_);refine Aj ⟨by omega,by rw[Ab];omega⟩ ?_;rw[Bs,Ab];refine PB ws ks ?_;ac_nf;refine aB ?_;unfold cX;have ol:(lL ws ks).length<=6:=A4 (E5 _ _) (by rw[C2];exact hwl);refine bX (av rfl (lP rfl (av rfl ?_)));refine Es ks (Es (lL ws ks) (Es ws ⟨rfl,by omega,O.ok,P4 hw0,by omega,λb hb=>RM hb,by omega,λact n' hfs hri hn'=>?_⟩));refine Aj rfl ?_;grind;refine aB (gP rfl (λQ q=>av rfl q) (by rw[Ab];omega) ?_);ac_nf;unfold aU fU;refine av rfl ?_;dsimp only;have hbs:=DW hfs.1;refine eV (λds δ n''=>∃(ks' dn bs':List Str)(x7:Option SV),ds=bs'.map .str/\dn++bs'=act.bs/\(∀k,k∈ks'↔k∈ks++dn)/\n''=n'/\δ=[ae (.w .tp),↑(.list (ws.map d7)),↑d,ae (.own bl),↑(d7 want),ae (.own (ks'.map .str)),ae (.own (acts.map Ac.d++[act.d])),x7,↑(.list ((lL ws ks).map λb=>.int (b:Nat))),↑act.d,↑(.list (act.bs.map .str))]/\ks'.length+bs'.length<=ks.length+4)
  (λδ n'' I=>?_) (λe r' δ n'' N I kN'=>?_) _ _ _ ⟨ks,[],act.bs,x7,rfl,rfl,λk=>by simp,rfl,rfl,by have:=hbs.2;omega⟩
 ·obtain⟨ks',dn,bs',x7,e,hdn,hm,rfl,rfl,hk'⟩:=I;cases List.map_eq_nil_iff.mp e.symm;rw[Bm]at hdn;subst hdn;have hm':∀k,k∈ks'↔k∈want++(acts++[act]).flatMap Ac.bs:=λk=>by
   rw[hm k,Bd,O.mem k,List.flatMap_append,<-Bh,Bd (s:=want++acts.flatMap Ac.bs)];simp
  refine kN _ _ ⟨ks',acts++[act],_,_,_,_,_,by rw[A9];rfl,⟨hm',λk z=>?_,λa z=>?_,Uw O.ri (λk z=>(O.mem k).mp z) hri⟩,by omega,by rw[Af,Av];omega,by omega⟩
  ·exact(Bd.mp ((hm k).mp z)).elim (O.ok k) (hbs.1 k)
  ·rcases Bd.mp z with z|z
   ·exact O.fs a z
   ·rw[Bc]at z;subst z;exact hfs
 ·obtain⟨ks',dn,bs',x7,e',hdn,hm,rfl,rfl,hk'⟩:=I;obtain⟨s,bs'',rfl,rfl,rfl⟩:=Gq.mp e'.symm;rw[Ap]at hk';dsimp only[aJ,Am];have hdn':(dn++[s])++bs''=act.bs:=by rw[Bh];exact hdn
  refine eF (ar (av rfl (lP rfl (Aj rfl ⟨qJ ks',?_⟩))));refine l4 (λz=>?_) (λz=>?_)
  ·refine gP rfl (λQ q=>av rfl q) (by rw[Ab];omega) (kN' _ _ ⟨ks'++[s],dn++[s],bs'',↑(.str s),rfl,hdn',λk=>?_,rfl,?_,by rw[Af,Av];omega⟩)
   ·rw[Bd,hm k,<-Bh,Bd (s:=ks++dn)]
   ·rw[A9];rfl
  ·have hs:s∈ks':=by
    have z':(!b8 (.str s) (ks'.map .str))=aj:=z;rw[mF]at z';simpa using z'
   refine kN' _ _ ⟨ks',dn++[s],bs'',↑(.str s),rfl,hdn',λk=>?_,rfl,rfl,by omega⟩;rw[<-Bh,Bd (s:=ks++dn),Bc,<-hm k];exact⟨.inl,λq=>q.elim id λe=>e▸hs⟩
def xQ(n0:Int)(ds:List Aa)(δ:Sl)(n:Int):Prop:=∃(more:List (List Str))(x2:Option SV),δ=[ae (.w .tp),ae (.own (([]::more).map d7)),x2,ah,ah,ah,ah,ah,ah,ah,ah]/\more.length+ds.length<=5/\(∀w∈more,w∈iX)/\n+(ds.length:Int)<=n0+6
def qD(ws:List (List Str))(n0:Int)(ds:List Aa)(δ:Sl)(n:Int):Prop:=∃(bl:List Bl)(re:List (List Str))(x2 x4 x5 x6 x7 x8 x9 x10:Option SV),
 δ=[ae (.w .tp),↑(.list (ws.map d7)),x2,ae (.own (bl.map lT)),x4,x5,x6,x7,x8,x9,x10]/\ds=re.map d7/\bl.map (·.1)++re=ws/\(∀b∈bl,ot b/\l7 ws b)/\n+90*(ds.length:Int)<=n0+600
theorem Qo{bl:List Bl}(hw:∀w∈ws,w∈iX)(hw0:ws=[]::w0)(hwl:ws.length<=6)(hn0:n0+600 < 2 ^ 39)(hb:bl.map (·.1)++want::re=ws)(hbo:∀b∈bl,ot b/\l7 ws b)(hn:n+90*((re.length:Int)+1)<=n0+600)
  (kN:∀δ n,qD ws n0 (re.map d7) δ n->K.nx δ n):
  au (br 5 (qO ↥4)) (au (br 6 (aQ ao)) (au (aU ⇑1018 (aJ 2) (au ⇑1002 (au (cX (aH pM (aq ↥0 (aq (gB 5) (aq ↥8 ao)))) (dq 2 (bh (aJ 9) (bh (aJ 10) ck)))) ⇑1013))) (cI 6 (aX 3 (aA (aq ↥4 (aq (wB g9 (aq ↥6 ao)) ao)))))))
   [ae (.w .tp),↑(.list (ws.map d7)),x2,ae (.own (bl.map lT)),↑(d7 want),x5,x6,x7,x8,x9,x10] n K:=by
 obtain⟨hss,hso,hnd,hup⟩:=OE (hw want (by rw[<-hb];exact Bf _ As));have hbl:bl.length+(re.length+1)<=6:=by rw[<-hb,Af,Ab,Ap]at hwl;exact hwl
 refine aB (J1 (ds:=want.map .str) rfl ?_);ac_nf;refine aB (iI ?_);ac_nf;refine aB (Hd (L:=[.int 2,.int 3,.int 1,.int 4,.int 2,.int 0,.int 3,.int 8]) (M:=8) rfl (λQ q=>bc (Aj ∎ q)) ⋯ rfl ∎ ∎ (λd hd=>?_) ∎ λj hj=>?_)
 ·simp only[Aq,An,or_false]at hd;rcases hd with rfl|rfl|rfl|rfl|rfl|rfl|rfl|rfl
  ·exact⟨2,by decide,rfl⟩
  ·exact⟨3,by decide,rfl⟩
  ·exact⟨1,by decide,rfl⟩
  ·exact⟨4,by decide,rfl⟩
  ·exact⟨2,by decide,rfl⟩
  ·exact⟨0,by decide,rfl⟩
  ·exact⟨3,by decide,rfl⟩
  ·exact⟨8,by decide,rfl⟩
 refine eV (o3 ws (bl.map lT) want n) (λδ n' I=>?_) (λd r' δ n' N I kN'=>?_) _ _ _ ⟨want,[],_,_,_,_,_,rfl,⟨λk=>by simp,hso,λa ha=>by simp at ha,λp a ha=>by simp at ha⟩,by rw[fV];omega,by rw[fV];simpa using hj,by rw[fV];omega⟩
 ·obtain⟨ks,acts,y2,y7,y8,y9,y10,rfl,O,_,ha,hn'⟩:=I;dsimp only;refine gO rfl ?_;ac_nf;refine kK rfl (cz (av rfl (aN (av rfl (mM ?_)))));have ha':acts.length<=8:=by simpa using ha
  refine Aj (show 2<=1000 by decide) (Aj (by rw[Ab];omega) (kN _ _ ⟨bl++[(want,acts)],re,_,_,_,_,_,_,_,_,by rw[A9];rfl,rfl,by rw[A9,Bh];exact hb,λb z=>?_,?_⟩))
  ·rcases Bd.mp z with z|z
   ·exact hbo b z
   ·rw[Bc]at z;subst z;exact⟨⟨hss,hso,ha',O.fs,hnd,hup⟩,O.ri⟩
  ·have h0:n'<=n+89:=by simpa using hn'
   rw[Ab];omega
 ·obtain⟨ks,acts,y2,y7,y8,y9,y10,rfl,O,hk,ha,hn'⟩:=I;rw[Ap]at hk ha hn';dsimp only[aJ,Am];exact RV hw0 hwl ⋯ O hk ha ⋯ kN'
theorem Nu:b9 xO DU ["_law_tape_here","_law_wants","_law_k","_law_blocks","_law_want","_law_known","_law_acts","_law_name","_law_open_ones","_law_act_here","_law_bound"]:=λws n0 Q h=>by
 obtain⟨rfl,hn0,k⟩:=h;show DU [ae (.w .tp),ah,ah,ah,ah,ah,ah,ah,ah,ah,ah] n0 _;refine aB (show br 1 _ _ _ _ from Aj (Bo _) (Aj ∎ ?_));ac_nf;refine aB (Hd (L:=[.int 0,.int 1,.int 2,.int 1,.int 0,.int 2,.int 5]) (M:=5) rfl (λQ q=>bc (Aj ∎ q)) ⋯ rfl ∎ ∎ (λd hd=>?_) ∎ λj hj=>?_)
 ·simp only[Aq,An,or_false]at hd;rcases hd with rfl|rfl|rfl|rfl|rfl|rfl|rfl
  ·exact⟨0,by decide,rfl⟩
  ·exact⟨1,by decide,rfl⟩
  ·exact⟨2,by decide,rfl⟩
  ·exact⟨1,by decide,rfl⟩
  ·exact⟨0,by decide,rfl⟩
  ·exact⟨2,by decide,rfl⟩
  ·exact⟨5,by decide,rfl⟩
 refine eV (xQ n0) (λδ n I=>?_) (λd r δ n N I kN=>?_) _ _ _ ⟨[],ah,rfl,by rw[fV];simpa using hj,λd hd=>by simp at hd,by rw[fV];omega⟩
 ·obtain⟨more,x2,rfl,hl,hm,hn⟩:=I;dsimp only;refine aB (iI ?_);ac_nf;refine gO rfl ?_;ac_nf;refine aB ?_;unfold aU fU;refine av rfl ?_;dsimp only;have hw:∀w∈([]:List Str)::more,w∈iX:=λd hd=>by
   rcases Aq.mp hd with rfl|z
   ·simp[iX]
   ·exact hm d z
  have hwl:(([]:List Str)::more).length<=6:=by rw[Ap];simp at hl;omega
  refine eV (qD ([]::more) n0) (λδ n' I=>?_) (λd r δ n' N I kN=>?_) _ _ _ ⟨[],[]::more,_,_,_,_,_,_,_,_,rfl,rfl,rfl,λb hb=>by simp at hb,?_⟩
  ·obtain⟨bl,re,y2,y4,y5,y6,y7,y8,y9,y10,rfl,er,hb,hbo,hn'⟩:=I;cases List.map_eq_nil_iff.mp er.symm;rw[Bm]at hb;dsimp only;refine gO rfl ?_;ac_nf;refine bb (aN (av rfl (mM (k bl n' ⟨by have:=congrArg F2 hb;simp at this;omega,?_,λb z=>⟨(hbo b z).1,by rw[hb];exact(hbo b z).2⟩⟩ ⟨more,hb⟩ (by simpa using hn')))));rw[<-hb,Ab]at hwl;exact hwl
  ·obtain⟨bl,re,y2,y4,y5,y6,y7,y8,y9,y10,rfl,er,hb,hbo,hn'⟩:=I;obtain⟨want,re,rfl,rfl,rfl⟩:=Gq.mp er.symm;rw[Ap,Ab]at hn';dsimp only[aJ,Am];exact Qo hw rfl hwl hn0 hb hbo ⋯ kN
  ·have h1:n<=n0+6:=by simpa using hn
   have h2:(((([]:List Str)::more).map d7).length:Int)<=6:=by rw[Ab];omega
   omega
 ·obtain⟨more,x2,rfl,hl,hm,hn⟩:=I;rw[Ap]at hl hn;dsimp only[aJ,Am];refine kK rfl (ar (bc (Aj ∎ (Aj ∎ (Aj ∎ (Aj ∎ (Aj ∎ (Aj ∎ ?_))))))));dsimp only;refine gA (m:=5) rfl ⋯ ∎ ∎ λq q0 q1=>jz (ds:=[d7 [],d7 ["n"],d7 ["go","n"],d7 ["nm"],d7 []]) q0 q1 λw hw=>?_;have:∃v∈iX,w=d7 v:=by
   simp only[Aq,An,or_false]at hw;rcases hw with rfl|rfl|rfl|rfl|rfl
   ·exact⟨[],by simp[iX],rfl⟩
   ·exact⟨["n"],by simp[iX],rfl⟩
   ·exact⟨["go","n"],by simp[iX],rfl⟩
   ·exact⟨["nm"],by simp[iX],rfl⟩
   ·exact⟨[],by simp[iX],rfl⟩
  obtain⟨v,hv,rfl⟩:=this;refine Aj (by rw[Ab,Ap];omega) (kN _ _ ⟨more++[v],↑d,?_,by rw[Af,Av];omega,λe he=>?_,by omega⟩)
  ·rw[show([]::(more++[v]):List (List Str))=([]::more)++[v]from rfl,A9];rfl
  rcases Bd.mp he with z|z
  ·exact hm e z
  ·rw[Bc]at z;subst z;exact hv
section
variable{δ:Sl}{n:Int}{K:DEnds}{i:Nat}{s a b c:Str}{r:List Aa}{k:Bool}{Q:Bool->Int->Prop}
theorem iJ(ha:∀Q:Bool->Int->Prop,Q aj n->A δ n Q)(q:Q aj n):bW A B δ n Q:=ha _ (by show if aj=ai then _ else _;rw[if_neg Ae];exact q)
end
theorem Ih{α:Type}{f:α->Aa}{P:α->Prop}:∀{ds:List Aa},(∀d∈ds,∃x,P x/\d=f x)->∃xs:List α,ds=xs.map f/\∀x∈xs,P x
 |[],_=>⟨[],rfl,λx hx=>by simp at hx⟩
 |d::r,h=>by
  obtain⟨x,hx,rfl⟩:=h d As;obtain⟨xs,rfl,hxs⟩:=Ih λe he=>h e (Au _ he);exact⟨x::xs,rfl,λy hy=>(Aq.mp hy).elim (λe=>e▸hx) (hxs y)⟩
def uV(m:Nat)(n0:Int)(ds:List Aa)(δ:Sl)(n:Int):Prop:=∃(ns:List Nt)(x y:Option SV),δ=[ae (.w .tp),↑(.int m),ae (.own (ns.map cS)),x,y]/\ns.length+ds.length<=m/\(∀q∈ns,kU q)/\n+6*(ds.length:Int)<=n0+100
theorem Lk:b9 qX IA ["_law_tape_here","_law_most","_law_found","_law_k","_law_row_here"]:=λws n0 Q h=>by
 obtain⟨m,rfl,hm,hn0,k⟩:=h;show IA [ae (.w .tp),↑(.int m),ah,ah,ah] n0 _;refine aB (iI ?_);ac_nf;refine aB ?_;unfold aU dC;refine kE (m:=(m:Int)+1) rfl (λQ q=>ar (av rfl (aD q))) ⋯ ⋯ ⋯ λr r0 r1=>?_;refine Aj ⟨by omega,by omega⟩ ?_;have hr:r.toNat<=m:=by omega
 refine eV (uV m n0) (λδ n I=>?_) (λd r' δ n N I kN=>?_) _ _ _ ⟨[],ah,ah,rfl,by rw[fV];simpa using hr,λd hd=>by simp at hd,by rw[fV];omega⟩
 ·obtain⟨ns,x,y,rfl,hl,hns,hn⟩:=I;dsimp only;refine gO rfl ?_;ac_nf;exact bb (aN (av rfl (mM (k ns n ⟨by simpa using hl,hns⟩ (by simpa using hn)))))
 ·obtain⟨ns,x,y,rfl,hl,hns,hn⟩:=I;rw[Ap]at hl hn;dsimp only[aJ,Am];refine aB (show aF 4 _ _ _ _ from aN (bc ?_));unfold cW;dsimp only;refine cJ (av rfl (Aj rfl ⟨by omega,λs s1 s4=>?_⟩));refine Aj ⟨by omega,by omega⟩ ?_;rw[Bs];refine vm (λv=>cq v=ai) 1 (λd n Q' hn q=>cJ (av rfl (Aj rfl ⟨by omega,λv hv=>q v _ (rG hv) ⋯⟩))) _ [] ah _ (by rw[fV];omega) λrow n' hrl hrow hn'=>?_;rw[fV]at hrl hn';rw[Bx];refine mM ?_;ac_nf;refine kK rfl (cz (av rfl (Iu rfl ⋯ λv hv=>?_)));refine Aj (show 2<=1000 by decide) (Aj (by rw[Ab];omega) (kN _ _ ⟨ns++[(row,v)],_,_,by rw[A9];rfl,by rw[Af,Av];omega,λe he=>?_,by omega⟩));rcases Bd.mp he with z|z
  ·exact hns e z
  ·rw[Bc]at z;subst z;exact⟨⟨⟨by show row.length<=4;omega,by show 1<=row.length;omega⟩,hrow⟩,zi hv⟩
theorem Oj:b9 um zV ["_law_tape_here","_law_programs"]:=λws n0 Q h=>by
 obtain⟨rfl,hn0,k⟩:=h;show zV [ae (.w .tp),ah] n0 _;refine aB (show br 1 _ _ _ _ from ?_);unfold br cW dC;refine ar (bc (Aj ∎ ?_));dsimp only;refine gA (m:=8) rfl ⋯ ∎ ∎ λq q0 q1=>jz (ds:=[.int 2,.int 1,.int 2,.int 3,.int 2,.int 1,.int 0,.int 5]) q0 q1 λd hd=>?_;have hj:∃j:Nat,j<=5/\d=.int j:=by
  simp only[Aq,An,or_false]at hd;rcases hd with rfl|rfl|rfl|rfl|rfl|rfl|rfl|rfl
  ·exact⟨2,by decide,rfl⟩
  ·exact⟨1,by decide,rfl⟩
  ·exact⟨2,by decide,rfl⟩
  ·exact⟨3,by decide,rfl⟩
  ·exact⟨2,by decide,rfl⟩
  ·exact⟨1,by decide,rfl⟩
  ·exact⟨0,by decide,rfl⟩
  ·exact⟨5,by decide,rfl⟩
 obtain⟨j,hj,rfl⟩:=hj;refine Aj ⟨by omega,by omega⟩ ?_;rw[Bs];refine vm (λd=>∃P,(t9 P/\jr P)/\d=d5 P) 600 (λd n Q' hn q=>cJ (av rfl (Aj rfl ⟨by omega,λP n' hP hP' hn'=>q (d5 P) n' ⟨P,⟨hP,hP'⟩,rfl⟩ ⋯⟩))) _ [] ah _ (by rw[fV];omega) λds n1 hpl hps0 hn1=>?_;rw[fV]at hpl hn1;rw[Bx];obtain⟨ps,rfl,hps⟩:=Ih hps0;clear hps0;rw[Ab]at hpl;ac_nf;have aP:∀(ps':Pg)(n2:Int),ps'.length<=5->(∀P∈ps',t9 P/\jr P)->n2<=n1+1->cI 1 (aw (aA (aq (wB g9 (aq ↥1 ao)) (aq (aH qX (aq ↥0 (aq (w2 (bj (aQ (aq ⇑4 (aq ⇑3 (aq ⇑6 (aq ⇑12 ao)))))) ⇑1011 aM) ao))) ao)))) [ae (.w .tp),ae (.own (ps'.map d5))] n2 {nx:=λ_ n=>Q (.d .none) n,rt:=Q}:=λps' n2 hl' hp' hn2=>by
  refine gO rfl ?_;ac_nf;refine bb (cz (aN (av rfl (mM (bU (av rfl (ar (bc (Aj ∎ ?_)))))))));dsimp only;refine gA (m:=4) rfl ⋯ ∎ ∎ λr r0 r1=>jz (ds:=[.int 4,.int 3,.int 6,.int 12]) r0 r1 λd hd=>?_;have hm:∃m:Nat,m<=12/\d=.int m:=by
   simp only[Aq,An,or_false]at hd;rcases hd with rfl|rfl|rfl|rfl
   ·exact⟨4,by decide,rfl⟩
   ·exact⟨3,by decide,rfl⟩
   ·exact⟨6,by decide,rfl⟩
   ·exact⟨12,by decide,rfl⟩
  obtain⟨m,hm,rfl⟩:=hm;exact Es m ⟨rfl,hm,by omega,λns n' hns hn'=>Aj (show 2<=1000 by decide) (k ps' _ n' ⟨hl',λP hP=>(hp' P hP).1⟩ (λP hP=>(hp' P hP).2) ⟨A4 hns.1 hm,hns.2⟩ ⋯)⟩
 refine aB (eF ?_);refine(show cT _ _ _ _ from ar (aN (lP rfl (Vh (aD (mV ?_))))));rw[Ab];show if decide ((ps.length:Int)=2)=ai then _ else _
 by_cases h2:(ps.length:Int)=2
 ·rw[if_pos (decide_eq_true h2)];refine ar (gA (m:=4) rfl ⋯ ∎ ∎ λq q0 q1=>aD (mV ?_));show if decide (q=0)=ai then _ else _
  by_cases hq:q=0
  ·rw[if_pos (decide_eq_true hq)];have hl2:ps.length=2:=by omega
   obtain⟨P,P',rfl⟩:∃P P',ps=[P,P']:=by
    match ps,hl2 with
    |[P,P'],_=>exact⟨P,P',rfl⟩
   refine(show gD 1 _ _ _ _ _ from ar (lP rfl (aD ?_)));refine(show aM (.ln [d5 P,d5 P']) (~~~0) _ _ from ?_);refine aP [P,P] _ (show 2<=5 by decide) (λR hR=>?_) ⋯;simp only[Aq,An,or_false,or_self]at hR;subst hR;exact hps _ As
  ·rw[if_neg (by simpa using hq)];exact aP ps _ ⋯ hps ⋯
 ·rw[if_neg (by simpa using h2)];exact aP ps _ ⋯ hps ⋯
theorem du(k:Q (~~~(i+j)) n):c6 (λi j=>.int (i+j)) (~~~i) (~~~j) n Q:=k
theorem Qi(as:List Ac)(h:∀a∈as,mf a):(as.flatMap Ac.bs).length<=4*as.length:=by
 induction as with
 |nil=>exact Bo _
 |cons a r ih=>
  rw[E7,Af,Ap];have:=(DW (h a As).1).2;have:=ih λb hb=>h b (Au _ hb);omega
theorem Mh(ob:ot b)(p):(kn b.1 b.2 p).length<=36:=by
 unfold kn;rw[Af];have:=Qi (b.2.take p) λa ha=>ob.2.2.2.1 a (Gp ha);have:=List.length_take_le p b.2;have:=ob.1;have:=ob.2.2.1;have:=Gr p b.2;omega
theorem fP(hu:∀Q:Bool->Int->Prop,Q b n->u δ n Q)(k:if b=ai then v δ n Q else w δ n Q):fJ u v w δ n Q:=hu _ k
theorem jS{α:Type}{aP:Sl}(f g:α->Aa)(p:α->Bool):∀(xs:List α)(acc:List Aa)(x:Option SV)(n:Int),(∀a∈xs,∀(n:Int)(Q':Bool->Int->Prop),Q' (p a) n->c (↑(f a)::aP) n Q')->(∀a∈xs,∀(n:Int)(Q':DQ),Q' (.d (g a)) n->w (↑(f a)::aP) n Q')->Q (acc++(xs.filter p).map g) n->di (aJ 0) c w Q (xs.map f) acc (x::aP) n
 |[],acc,x,n,_,_,q=>by rw[List.filter_nil,F7,Bm]at q;exact q
 |a::r,acc,x,n,hp,h,q=>by
  simp only[Ba,di,aJ,G0];refine hp a As n _ ?_;cases e:p a with
  |true=>
   simp only[if_true];refine h a As n _ (jS f g p r (acc++[g a]) _ n (λb hb=>hp b (Au _ hb)) (λb hb=>h b (Au _ hb)) ?_);rw[Cn,if_pos e,Ba]at q;rw[Bh];exact q
  |false=>
   simp only[C6,if_false];refine jS f g p r acc _ n (λb hb=>hp b (Au _ hb)) (λb hb=>h b (Au _ hb)) ?_;rw[Cn,if_neg (by rw[e];exact Ae)]at q;exact q
structure HandAt(ps:Pg)(hs:List Hn)(h:Nat)(P:List Bl)(xb xp:Nat)(nm:Nm)(w:List Str)(as:List Ac):Prop where
 prog:ps[h]?=ae P
 hand:hs[h]?=ae (xb,xp,nm)
 blk:P[xb]?=ae (w,as)
 hn:okHn (w,as) (xb,xp,nm)
theorem lU(ok:okHs ps hs)(hh:h < ps.length):∃P xb xp nm w as,HandAt ps hs h P xb xp nm w as:=by
 have hP:ps[h]?=ae ps[h]:=Ah hh;obtain⟨⟨xb,xp,xn⟩,⟨w,as⟩,e1,e2,e3⟩:=ok.2 h _ hP;exact⟨_,xb,xp,xn,w,as,hP,e1,e2,e3⟩
section
variable{ps:Pg}{hs:List Hn}{h:Nat}{P:List Bl}{xb xp:Nat}{nm:Nm}{w:List Str}{as:List Ac}
theorem HandAt.act(H:HandAt ps hs h P xb xp nm w as):bS ps hs h=as[xp]?:=by
 unfold bS;rw[H.prog,H.hand];show(P[xb]?.bind λb=>b.2[xp]?)=_;rw[H.blk];rfl
theorem HandAt.nms(H:HandAt ps hs h P xb xp nm w as):okN nm:=H.hn.n
theorem HandAt.nmq(H:HandAt ps hs h P xb xp nm w as):js hs h=nm:=by unfold js;rw[H.hand];rfl
theorem HandAt.ok(H:HandAt ps hs h P xb xp nm w as)(ok:cu ps)(e:bS ps hs h=ae a):mf a:=by
 rw[H.act]at e;have hP:=(ok.2 P (A1 H.prog)).2.2 (w,as) (A1 H.blk);exact hP.1.2.2.2.1 a (A1 e)
theorem HandAt.hD(H:HandAt ps hs h P xb xp nm w as):(hs.map bR)[h]?=ae (.tuple [.int xb,.int xp,b7 nm]):=by rw[Ax,H.hand];rfl
theorem HandAt.pD(H:HandAt ps hs h P xb xp nm w as):(ps.map d5)[h]?=ae (.tuple (P.map lT)):=by rw[Ax,H.prog];rfl
theorem HandAt.bD(H:HandAt ps hs h P xb xp nm w as):(P.map lT)[xb]?=ae (.tuple [d7 w,.tuple (as.map Ac.d)]):=by rw[Ax,H.blk];rfl
end
theorem PQ{i j xp:Nat}{as:List Ac}(e4:δ[j]?=ae (↑(.int xp)))(e5:δ[i]?=ae (↑(.tuple (as.map Ac.d))))(k:Q (.d (uP as[xp]?)) n):fJ (cT (w2 (ak j) (wB bg (aq (ak i) ao)) iz)) (w2 (ak i) (ak j) az) (wC .none) δ n Q:=by
 refine fP (b:=decide ((xp:Int) < ((as.map Ac.d).length:Nat))) (λQ q=>aC (λQ q=>ar (av e4 (aN (av e5 (vE q))))) q) ?_;rw[Ab];by_cases z:(xp:Int) < (as.length:Nat)
 ·rw[if_pos (decide_eq_true z)];have zl:xp < as.length:=by omega
  have ha:(as.map Ac.d)[xp]?=ae (Ac.d as[xp]):=by rw[Ax,Ah zl];rfl
  rw[Ah zl]at k;exact ar (av e5 (av e4 (bN ha k)))
 ·rw[if_neg (by simpa using z)];rw[List.getElem?_eq_none ⋯]at k;exact aD k
theorem Rr:b9 nt FD ["programs","stand","hand","block","place","acts"]:=λws n Q h=>by
 obtain⟨ps,hs,ns,h,rfl,hok,hh,k⟩:=h;obtain⟨P,xb,xp,nm,w,as,H⟩:=lU hok hh;rw[H.act]at k;show FD [↑(bf ps),↑(de hs ns),↑(.int h),ah,ah,ah] n _;refine aB (bx (x:=.int xb) (λQ q=>ar (ar (ar (av rfl (aD (cP (av rfl (bN H.hD (aD (cP q)))))))))) ?_);ac_nf;refine aB (bx (x:=.int xp) (λQ q=>ar (ar (ar (av rfl (aD (cP (av rfl (bN H.hD (aD (d4 q)))))))))) ?_);ac_nf;refine aB (bx (x:=.tuple (as.map Ac.d)) (λQ q=>ar (ar (ar (av rfl (av rfl (bN H.pD (av rfl (bN H.bD (aD (d4 q)))))))))) ?_);ac_nf;exact bb (PQ rfl rfl k)
section
variable{δ:Sl}{n:Int}{K:DEnds}{a v:Aa}{r:List Aa}{x:Str}{hp:Nm}{hs:List Str}{W V:aR}
theorem mE{s a b:Str}(e:δ[i]?=ae (↑(.str s)))(h:b8 (.str s) [.str a,.str b]=k)(q:Q k n):cT (w2 (ak i) (aA (aq (wC (.str a)) (aq (wC (.str b)) ao))) (gN aj)) δ n Q:=by
 refine ar (av e ?_);show 2<=1000/\fL (.str s)=ai/\_/\Q (b8 (.str s) [.str a,.str b]) n;exact⟨by decide,rfl,rfl,by rw[h];exact q⟩
end
theorem JY:∀{row:List Aa},(∀d∈row,cq d=ai)->∃k:List aO,row=k.map DL.vD
 |[],_=>⟨[],rfl⟩
 |d::r,h=>by
  obtain⟨k,rfl⟩:=JY λe he=>h e (Au _ he);have hd:=h d As;cases d with
  |int i=>exact⟨.inl i::k,rfl⟩
  |str x=>exact⟨.inr x::k,rfl⟩
  |_=>cases hd
theorem my(k)(m):cb k (m+1)=.int k::cb (k+1) m:=by
 unfold cb;rw[List.range_succ_eq_map,Ba,Df]
 congr 1
 ·rw[show((0:Nat):Int)=0 from rfl,Int.add_zero]
 ·refine Cg λi _=>?_;show E8 (k+((i+1:Nat):Int))=.int (k+1+(i:Int));have:k+((i+1:Nat):Int)=k+1+(i:Int):=by omega
  rw[this]
theorem yp(h:f.pt=ai):(Fe.fd f).d=f.d:=by cases f<;>first|rfl|cases h
theorem n6(ok:fM fs)(h:hV fs):fA fs=dB (fs.map Fe.fd)/\tG (fs.map Fe.fd):=by
 refine⟨?_,by rw[Ab];exact h.1,by rw[Ab];exact ok.1,λg hg=>?_⟩
 ·unfold fA dB;rw[Df]
  congr 1
  exact Cg λf hf=>(yp (h.2 f hf)).symm
 ·obtain⟨f,hf,rfl⟩:=Bg.mp hg;have:=ok.2 f hf;cases f<;>first|exact this|trivial
theorem J2{a:Ac}(h:a.pf=ah):a.wt=aj/\∃s r,a.d=.tuple (.str s::r)/\b8 (.str s) [.str "take",.str "read",.str "look"]=aj/\b8 (.str s) [.str "take",.str "read"]=aj:=by
 cases a with
 |lay fs age=>exact⟨rfl,"lay",_,rfl,by decide +kernel,by decide +kernel⟩
 |same f g b=>exact⟨rfl,"same",_,rfl,by decide +kernel,by decide +kernel⟩
 |go b=>exact⟨rfl,"go",_,rfl,by decide +kernel,by decide +kernel⟩
 |take fs=>cases h
 |read fs=>cases h
 |look fs b=>cases h
theorem yr(h:a.pf=ae fs)(ok:mf a):tG fs/\∃s r,a.d=.tuple (.str s::dB fs::r)/\b8 (.str s) [.str "take",.str "read",.str "look"]=ai/\b8 (.str s) [.str "take",.str "read"]=a.wt:=by
 cases a with
 |lay fs age=>cases h
 |same f g b=>cases h
 |go b=>cases h
 |take gs=>
  cases h;obtain⟨e,o⟩:=n6 (fs:=gs) ok.1 ok.2;exact⟨o,"take",[],by rw[<-e];rfl,by decide +kernel,show b8 (.str "take") [.str "take",.str "read"]=ai by decide +kernel⟩
 |read gs=>
  cases h;obtain⟨e,o⟩:=n6 (fs:=gs) ok.1 ok.2;exact⟨o,"read",[],by rw[<-e];rfl,by decide +kernel,show b8 (.str "read") [.str "take",.str "read"]=ai by decide +kernel⟩
 |look gs b=>
  cases h;obtain⟨e,o⟩:=n6 (fs:=gs) ok.1 ok.2;exact⟨o,"look",[.int b],by rw[<-e];rfl,by decide +kernel,show b8 (.str "look") [.str "take",.str "read"]=aj by decide +kernel⟩
theorem GZ(fs)(row)(nm):iW (eL fs row nm)=!cY fs row nm:=by
 unfold eL;cases cY fs row nm<;>rfl
theorem rP:bu fs nm (q::r)=if cY fs q.1 nm=ai then ae 0 else(bu fs nm r).map (·+1):=by
 unfold bu;rw[List.findIdx?_cons]
theorem Ki(h:iM (ij m k d) k'=ai):k'=k\/iM m k'=ai:=by
 unfold ij at h
 split at h
 ·unfold iM at h ⊢;rw[List.any_map,D4]at h;obtain⟨p,hp,e⟩:=h;refine .inr (D4.mpr ⟨p,hp,?_⟩);have e':=of_decide_eq_true e;dsimp only at e';by_cases z:p.1=k
  ·rw[if_pos z]at e';exact decide_eq_true e'
  ·rw[if_neg z]at e';exact decide_eq_true e'
 ·unfold iM at h ⊢;rw[List.any_append,Bool.or_eq_true]at h;rcases h with h|h
  ·exact .inr h
  ·simp at h;exact .inl h.symm
theorem Ks:(ij m k d).length<=m.length+1:=by
 unfold ij
 split
 ·rw[Ab];omega
 ·rw[Af];exact Al _
section
variable{δ:Sl}{n:Int}{Q:DQ}{K:DEnds}{W V:aR}{i:Nat}
theorem dY{neg:Bool}(k:Q (.d (.bool (if neg then !iW a else iW a))) n):bC neg (.d a) (.d .none) n Q:=k
theorem AF{Q:Bool->Int->Prop}(e:δ[i]?=ae (↑(.tuple (.str s::r))))(h:b8 (.str s) (hs.map .str)=k)(q:Q (!k) n):cT (px hs (w2 (ak i) (wC (.int 0)) az)) δ n Q:=by
 unfold cT px;exact dj e ⟨_,rfl,rfl,by rw[h];exact q⟩
theorem Js(e0:δ[i]?=ae (↑(bf ps)))(e1:δ[j]?=ae (↑(de hs ns)))(e2:δ[l]?=ae (↑(.int h)))(ok:okHs ps hs)(hh:h < ps.length)(k:Q (.d (uP (bS ps hs h))) n):aH nt (aq (ak i) (aq (ak j) (aq (ak l) ao))) δ n Q:=
 bX (av e0 (av e1 (av e2 ⟨ps,hs,ns,h,rfl,ok,hh,k⟩)))
end
theorem Oq:b9 nz FQ ["programs","stand","hand","act","names","tried","place","note"]:=λws n Q h=>by
 obtain⟨ps,hs,ns,h,rfl,⟨okp,okh,okn⟩,hh,k⟩:=h;obtain⟨P,xb,xp,nm,w,as,H⟩:=lU okh hh;unfold bG at k;rw[H.nmq]at k;show FQ [↑(bf ps),↑(de hs ns),↑(.int h),ah,ah,ah,ah,ah] n _;refine aB (bx (λQ q=>Js rfl rfl rfl okh hh q) ?_);ac_nf;cases ea:bS ps hs h with
 |none=>
  rw[ea]at k;exact aB (bB (λQ q=>l5 (λQ q=>aC (k:=ai) (λQ q=>ar (av rfl (aD (dY q)))) q) q) (bb (aD k)))
 |some a=>
  rw[ea]at k;have k:Q (.d (cf (a.pf.bind λfs=>bu fs nm ns))) n:=k;have oa:=H.ok okp ea;show au _ _ [↑(bf ps),↑(de hs ns),↑(.int h),↑a.d,ah,ah,ah,ah] n _;have g1:∀(s:Str)(r:List Aa),iW (PyData.tuple (.str s::r))=aj:=λ_ _=>rfl;cases ef:a.pf with
  |none=>
   rw[ef]at k;obtain⟨_,s,r,e,h1,_⟩:=J2 ef;rw[e];exact aB (bB (λQ q=>fS (λQ q=>aC (k:=aj) (λQ q=>ar (av rfl (aD (dY q)))) q) (AF rfl h1 q)) (bb (aD k)))
  |some fs=>
   rw[ef]at k;have k:Q (.d (cf (bu fs nm ns))) n:=k;obtain⟨of,s,r,e,h1,_⟩:=yr ef oa;rw[e];refine aB (aT (λQ q=>fS (λQ q=>aC (k:=aj) (λQ q=>ar (av rfl (aD (dY q)))) q) (AF rfl h1 q)) ?_);ac_rfl;refine aB (bx (x:=b7 nm) (λQ q=>ar (ar (ar (av rfl (aD (cP (av rfl (bN H.hD (aD (eB q)))))))))) ?_);ac_nf;refine aB (show r8 5 _ _ _ from ?_);unfold r8;ac_nf;refine aB ?_;unfold aU jh;refine ar (av rfl (aD (d4 ⟨ns.map cS,.inl rfl,?_⟩)));refine eV (λds δ m=>m=n/\∃(re:List Nt)(j:Nat)(kvs:List (List aO×Aa))(x6 x7:Option SV),ds=gJ j (re.map cS)/\δ=[↑(bf ps),↑(de hs ns),↑(.int h),↑(.tuple (.str s::dB fs::r)),↑(b7 nm),ae (.odt kvs),x6,x7] /\
    (∀q∈re,kU q)/\kvs.length+re.length<=100/\(∀key,iM kvs key=ai->cY fs (key.map DL.vD) nm=aj)/\Q (.d (cf ((bu fs nm re).map (·+j)))) n) (λδ m I=>?_) (λd r' δ m N I kN=>?_) _ _ _ ⟨rfl,ns,0,[],ah,ah,rfl,rfl,okn.2,by have:=okn.1;simpa using this,λkey z=>(by cases z),?_⟩
   ·obtain⟨rfl,re,j,kvs,x6,x7,ed,rfl,_,_,_,kq⟩:=I;have:re=[]:=by
     cases re with
     |nil=>rfl
     |cons q re=>rw[Ba,lD]at ed;cases ed
    subst this;exact(show Q (.d .none) m from kq)
   ·obtain⟨rfl,re,j,kvs,x6,x7,ed,rfl,hre,hl,ht,kq⟩:=I;cases re with
    |nil=>cases ed
    |cons q re=>
     rw[Ba,lD]at ed;obtain⟨rfl,rfl⟩:=Bk ed;rw[Ap]at hl;have oq:=hre q As;obtain⟨key,ek⟩:=JY oq.1.2;have nxt:∀kvs',kvs'.length<=kvs.length+1->(∀key,iM kvs' key=ai->cY fs (key.map DL.vD) nm=aj)->cY fs q.1 nm=aj->N [↑(bf ps),↑(de hs ns),↑(.int h),↑(.tuple (.str s::dB fs::r)),↑(b7 nm),ae (.odt kvs'),↑(.int j),↑(cS q)] m:=λkvs' a1 a2 a3=>by
      refine kN _ _ ⟨rfl,re,j+1,kvs',_,_,by rw[show((j+1:Nat):Int)=(j:Int)+1 from rfl],rfl,λx hx=>hre x (Au _ hx),by omega,a2,?_⟩;rw[rP,if_neg (by rw[a3];exact Ae),Option.map_map]at kq;have:((λx=>x+j) ∘ λx=>x+1)=λx=>x+(j+1):=funext λx=>by show x+1+j=x+(j+1);omega
      rw[this]at kq;exact kq
     refine⟨rfl,?_⟩;grind;refine eF (show sU 5 _ _ _ _ from dj rfl ⟨key,kvs,by rw[ek];rfl,rfl,?_⟩);show if (!iM kvs key)=ai then _ else _
     cases et:iM kvs key with
     |true=>
      rw[if_neg (by rw[Bool.not_true];exact Ae)];exact nxt kvs ⋯ ht (by rw[ek];exact ht key et)
     |false=>
      rw[if_pos (show(!aj)=ai from rfl)];refine aB (eF (ar (bX (dI rfl (dj rfl (av rfl ⟨fs,q.1,nm,rfl,of,oq.1,H.nms,?_⟩))))));refine aD (dY ?_);show if (!iW (eL fs q.1 nm))=ai then _ else _
      rw[GZ,Bool.not_not];cases eb:cY fs q.1 nm with
      |true=>
       nofun;rw[rP,if_pos eb,Option.map_some,Ex]at kq;exact bb (av rfl kq)
      |false=>
       rw[if_neg Ae];ac_rfl;refine aD ⟨kvs,rfl,dj rfl ⟨key,.bool ai,rfl,by rw[ek];rfl,by omega,?_⟩⟩;ac_nf;refine nxt _ Ks (λkey' z=>?_) eb;rcases Ki z with rfl|z
       ·rw[<-ek];exact eb
       ·exact ht key' z
   ·have:(λx:Nat=>x+0)=id:=rfl;rw[this,Option.map_id];exact k
section
variable{δ:Sl}{n:Int}{Q:DQ}{w u:DT}{ds i j:List Aa}
theorem FR(xs:List Aa)(hp:p<=xs.length):bo xs (ae (p:Int)) ah=xs.drop p:=by
 unfold bo;rw[HT.sIx_nat,HT.sIx_none,Nat.min_eq_left hp];exact Cu (by rw[B5];exact Al _)
theorem jX(k:w δ n λx n1=>match iV [x]with
  |some ds=>ds.length<=1000/\Q ‹ds› n1
  |none=>False):aA (aq w ao) δ n Q:=k
theorem tw{p:Nat}(hw:∀Q:DQ,Q ‹ds› n->w δ n Q)(hu:∀Q:DQ,Q (~~~p) n->u δ n Q)(hp:p<=ds.length)(k:Q ‹(ds.take p)› n):dN w cF (cy u) δ n Q:=by
 unfold dN;refine hw _ ?_;dsimp only[cF,cy];refine hu _ ?_;dsimp only;rw[MX _ hp];exact k
theorem tN{p:Nat}(hw:∀Q:DQ,Q ‹ds› n->w δ n Q)(hu:∀Q:DQ,Q (~~~p) n->u δ n Q)(hp:p<=ds.length)(k:Q ‹(ds.drop p)› n):dN w (cy u) cF δ n Q:=by
 unfold dN;refine hw _ ?_;dsimp only[cF,cy];refine hu _ ?_;dsimp only;rw[FR _ hp];exact k
theorem gH(h:i.length+j.length<=1000000)(k:Q ‹(i++j)› n):eG ‹i› ‹j› n Q:=by
 cases i with
 |nil=>exact k
 |cons a r=>exact⟨.inl (λz=>nomatch z),A4 h ∎,k⟩
end
theorem KO:b9 vq LL ["thing"]:=λws n Q h=>by
 obtain⟨b,rfl,k⟩:=h;cases b<;>exact k
theorem MZ(h1:∀Q:DQ,Q (~~~a) n->u δ n Q)(h2:∀Q:DQ,Q (~~~x) n->v δ n Q)(h3:∀Q:DQ,Q (~~~b) n->w δ n Q)(k:Q (.d (.bool (decide (a<=x)&&decide (x<=b)))) n):qe kB kB u v w δ n Q:=by
 by_cases e:a<=x
 ·refine Sx h1 h2 h3 e ?_;rw[decide_eq_true e,Gm]at k;exact k
 ·rw[decide_eq_false e,Bool.false_and]at k;refine h1 _ (h2 _ ?_);show jR (.d (.bool (decide (a<=x)))) (w δ n λu n4=>kB (~~~x) u n4 Q) (Q (.d (.bool aj)) n);rw[decide_eq_false e];exact k
theorem P6:b9 uQ FY ["thing","most"]:=λws n Q h=>by
 obtain⟨b,m,rfl,k⟩:=h;show FY [↑b,↑(.int m)] n _;cases b with
 |int i=>exact bb (Jj (λQ q=>cJ (av rfl ⟨_,rfl,q⟩)) (MZ (λQ q=>aD q) (λQ q=>av rfl q) (λQ q=>av rfl q) k))
 |_=>exact bb (cJ (av rfl ⟨_,rfl,k⟩))
theorem Ll:b9 yT FE ["value"]:=λws n Q h=>by
 obtain⟨v,rfl,hv,k⟩:=h;show FE [↑v] n {nx:=λ_ n=>Q (.d .none) n,rt:=Q};cases v with
 |str x=>exact k
 |int i=>
  have k:Q (.d (if i=99 then E8 0 else E8 (i+1))) n:=k;show if decide (i=99)=ai then Q (~~~0) n else Q (~~~(i+1)) n
  refine LN (λe=>?_) λe=>?_
  ·rw[if_pos e]at k;exact k
  ·rw[if_neg e]at k;exact k
 |_=>cases hv
theorem K9:b9 ph GQ ["field","having","value"]:=λws n Q h=>by
 obtain⟨f,nm,rfl,⟨_,tm,us⟩,k⟩:=h;show GQ [↑f.d,ae (.w (.dk (bE nm))),ah] n {nx:=λ_ n=>Q (.d .none) n,rt:=Q};cases f with
 |isv d=>exact k
 |as x=>
  obtain⟨v,e,hv⟩:=us x rfl;have k:Q (.d ((look nm x).getD .none)) n:=k;rw[e]at k;refine aB (eY (h:="is") (a:=.str "as") rfl ∅ ?_);ac_rfl;refine aB ?_;show(match cE (bE nm) (.inr x)with|some d=>_|none=>False);rw[kA,e];exact k
 |nx x=>
  obtain⟨v,e,hv⟩:=us x rfl;have k:Q (.d (lI ((look nm x).getD .none))) n:=k;rw[e]at k;refine aB (eY (h:="is") (a:=.str "next") rfl ∅ ?_);ac_rfl;refine aB ?_;show(match cE (bE nm) (.inr x)with|some d=>_|none=>False);rw[kA,e];exact⟨v,rfl,hv,k⟩
 |_=>cases tm
theorem UG(q:Q ai n):df δ n Q:=q
theorem pP{α:Type}{aP:Sl}(f g)(xs:List α)(x)(n)(h:∀a∈xs,∀(n:Int) (Q':DQ),Q' (.d (g a)) n->w (↑(f a)::aP) n Q')(q:Q (xs.map g) n):di (aJ 0) df w Q (xs.map f) [] (x::aP) n:=by
 refine jS f g (λ_=>ai) xs [] x n (λa _ n Q' q=>UG q) h ?_;rw[Bx,Gu.mpr λ_ _=>rfl];exact q
theorem pT(k:Q ‹ds› n):fq [.d (.list ds)] n Q:=k
theorem RC:b9 nc EH ["template","names","having"]:=λws n Q h=>by
 obtain⟨fs,nm,rfl,hl,ok,okn,k⟩:=h;show EH [↑(fA fs),↑(b7 nm),ah] n {nx:=λ_ n=>Q (.d .none) n,rt:=Q};refine aB (p7 rfl okn ?_);ac_nf;refine bb (aN (bc (jO (ds:=fs.map Fe.d) (λQ q=>av rfl q) ?_)));show di _ _ _ _ _ _ [ah,ae (.w (.dk (bE nm)))] n;exact pP Fe.d (eC nm) fs ah n (λf hf n Q' q=>bU (av rfl (show c9 1 _ _ _ from⟨f,nm,rfl,ok f hf,q⟩))) (pT k)
theorem K6:b9 nJ zZ ["place","names"]:=λws n Q h=>by
 obtain⟨x,nm,rfl,k⟩:=h;show zZ [↑(bR x),↑(b7 nm)] n _;exact bb (gQ (dj rfl (ar (dI rfl (aD (du (av rfl (Aj (show 3<=1000 by decide) k))))))))
theorem P9:b9 i8 HR ["program","block","names","wanted"]:=λws n Q h=>by
 obtain⟨P,b,nm,⟨w,as⟩,rfl,hb,hw,k⟩:=h;have hbD:(P.map lT)[b]?=ae (.tuple [d7 w,.tuple (as.map Ac.d)]):=by rw[Ax,hb];rfl
 have ew:mS P b=w:=by unfold mS;rw[hb];rfl
 unfold cv at k;rw[ew]at k;show HR [↑(d5 P),↑(.int b),↑(b7 nm),ah] n _;refine aB (bx (x:=d7 w) (λQ q=>ar (ar (av rfl (av rfl (bN hbD (aD (cP q))))))) ?_);ac_nf;refine bb (gQ (av rfl (aD (aN (bc (jO (ds:=nm.map i9) (λQ q=>av rfl q) ?_))))));show di _ _ _ _ _ _ [ah,↑(d7 w)] n;refine jS i9 i9 (λp=>decide (p.1∈w)) nm [] ah n (λp _ n Q' q=>aC (k:=decide (p.1∈w)) (λQ q=>ar (dj rfl (av rfl ⟨rfl,qJ w,?_⟩))) q) (λp _ n Q' q=>av rfl q) ?_
 ·show Q (.d (.bool (b8 (.str p.1) (w.map .str)))) n;rw[mF];exact q
 ·exact Aj (show 3<=1000 by decide) k
theorem O2:b9 kJ BM ["hands","hand","place"]:=λws n Q h=>by
 obtain⟨hs,h,x,rfl,hh,hl,k⟩:=h;show BM [↑(.tuple (hs.map bR)),↑(.int h),↑(bR x)] n _;have hd:(bK hs h x).map bR=((hs.map bR).take h++[bR x])++(hs.map bR).drop (h+1):=by
  unfold bK;rw[A9,Ba,List.map_take,List.map_drop,Bh];rfl
 rw[hd]at k;have l1:((hs.map bR).take h).length<=5:=A4 (Gr _ _) (by rw[Ab];exact hl);have l2:((hs.map bR).drop (h+1)).length<=5:=by rw[B5,Ab];omega
 refine bb (ar (ar (tw (p:=h) (λQ q=>av rfl q) (λQ q=>av rfl q) (by rw[Ab];omega) (jX (av rfl (Aj (show 1<=1000 by decide) (gH (by rw[Av];omega) ?_)))))));exact tN (p:=h+1) (λQ q=>av rfl q) (λQ q=>ar (av rfl (aD (du q)))) (by rw[Ab];omega) (gH (by rw[Af,Av];omega) k)
theorem Mv:b9 yD HK ["note"]:=λws n Q h=>by
 obtain⟨⟨row,a⟩,rfl,ha,k⟩:=h;show HK [↑(cS (row,a))] n _;rcases ha with rfl|⟨i,rfl,_⟩
 ·exact bb (fP (b:=ai) (λQ q=>aC (k:=ai) (λQ q=>ar (dI rfl (aD (dY q)))) q) (by nofun;exact av rfl k))
 ·exact bb (fP (b:=aj) (λQ q=>aC (k:=aj) (λQ q=>ar (dI rfl (aD (dY q)))) q) (by rw[if_neg Ae];exact cz (dj rfl (ar (dI rfl (aD (Aj (show 2<=1000 by decide) k)))))))
theorem CY(ha:fR a)(k:Q (.d (.bool (!cC a))) n):cL (.d a) (~~~1) n Q:=by
 rcases ha with rfl|⟨i,rfl,_⟩<;>exact k
theorem K7:b9 wY zr ["stand"]:=λws n Q h=>by
 obtain⟨hs,ns,rfl,ha,k⟩:=h;show zr [↑(de hs ns)] n _;refine bb (cz (dj rfl (aN (bc (jO (ds:=ns.map cS) (λQ q=>dI rfl q) ?_)))));show di _ _ _ _ _ _ [ah] n;refine jS cS (λq=>cS (q.1,gp q.2)) (λq=>!cC q.2) ns [] ah n (λq hq n Q' k'=>aC (λQ q'=>ar (dI rfl (aD (CY (ha q hq) q')))) k') (λq hq n Q' k'=>cJ (av rfl ⟨q,rfl,ha q hq,k'⟩)) ?_;refine Aj (show 2<=1000 by decide) ?_;unfold de bH dA at k;rw[Df]at k;exact k
theorem Nc:∀j:Fin 100,cq (.int ((j.val:Nat):Int))=ai:=by decide +kernel
theorem hX(h0:0<=i)(h1:i<=99):cq (.int i)=ai:=by
 have:=Nc ⟨i.toNat,by omega⟩;rw[show((i.toNat:Nat):Int)=i by omega]at this;exact this
theorem FC(h:cq (.int i)=ai):0<=i/\i<=99:=by
 simp only[cq,A2,decide_eq_true_eq]at h;exact⟨h.1,h.2.1⟩
theorem ue(h:cq v=ai):cq (lI v)=ai:=by
 cases v with
 |str x=>exact h
 |int i=>
  obtain⟨h0,h1⟩:=FC h;show cq (if i=99 then .int 0 else .int (i+1))=ai
  split
  ·exact hX ∎ ∎
  ·exact hX ⋯ ⋯
 |_=>cases h
theorem iT(h:fF nm f):cq (eC nm f)=ai:=by
 obtain⟨ok,tm,us⟩:=h;cases f with
 |isv d=>exact ok
 |as k=>obtain⟨v,e,hv⟩:=us k rfl;show cq ((look nm k).getD .none)=ai;rw[e];exact hv
 |nx k=>obtain⟨v,e,hv⟩:=us k rfl;show cq (lI ((look nm k).getD .none))=ai;rw[e];exact ue hv
 |_=>cases tm
theorem EB(ha:cq a=ai)(hb:cq b=ai)(k:Q (.d (.bool (dQ a b))) n):a9 (.d a) (.d b) n Q:=by
 unfold a9;simp only[sZ ha hb];exact k
theorem S6:b9 uu EN ["act","names","having"]:=λws n Q h=>by
 obtain⟨f,g,b,nm,rfl,hf,hg,_,_,okn,k⟩:=h;show EN [↑(.tuple [.str "same",f.d,g.d,.int b]),↑(b7 nm),ah] n _;refine aB (p7 rfl okn ?_);ac_nf;exact bb (ar (bU (dI rfl (show c9 2 _ _ _ from⟨f,nm,rfl,hf,bU (ar (av rfl (aD (eB (show c9 2 _ _ _ from⟨g,nm,rfl,hg,EB (iT hf) (iT hg) k⟩)))))⟩))))
theorem rp(h:bu fs nm ns=ae i):∃q,ns[i]?=ae q/\cY fs q.1 nm=ai:=by
 unfold bu at h;rw[D7]at h;obtain⟨hl,h1,_⟩:=h;exact⟨ns[i],Ah hl,h1⟩
theorem GI(h:cY fs row nm=ai):eL fs row nm=b7 (cQ (fO fs row nm)):=by unfold eL;rw[if_pos h]
theorem t5(H:HandAt ps hs h P xb xp nm w as)(e:bS ps hs h=ae a):fk ps hs ns h=(gG P (xb,xp,nm) ns a).map λr=>(bK hs h r.1,r.2):=by
 unfold fk;rw[H.prog,H.hand,e];rfl
theorem i0(e:bu (fs.map Fe.fd) x.2.2 ns=ah):cH fs x ns=ah:=by unfold cH;rw[e];rfl
theorem iZ(e:bu (fs.map Fe.fd) x.2.2 ns=ae i):cH fs x ns=ae (i,cZ x (cQ (fO (fs.map Fe.fd) (dZ ns i) x.2.2))):=by unfold cH;rw[e];rfl
theorem mW(k:Q (.d (.bool (!aZ h (.str s)))) n):cL (.d (.str s)) (.d (.str h)) n Q:=k
theorem HE(ns:List Nt)(i):(cV ns i).map cS=(ns.map cS).take i++(ns.map cS).drop (i+1):=by unfold cV;rw[A9,List.map_take,List.map_drop]
section
variable{ps:Pg}{hs:List Hn}{ns:List Nt}{h:Nat}{P:List Bl}{xb xp:Nat}{nm:Nm}{w:List Str}{as:List Ac}{n:Int}{Q:DQ}
theorem uS(e1:δ[i1]?=ae (↑(de hs ns)))(e2:δ[i2]?=ae (↑(.int h)))(e5:δ[i5]?=ae (↑(bH ns')))(hx:∀Q:DQ,Q (.d (bR x)) n->w2' δ n Q)(hh:h < hs.length)(hl:hs.length<=5)(k:Q (.d (de (bK hs h x) ns')) n):
  aA (aq (aH kJ (aq (w2 (ak i1) ⇑0 az) (aq (ak i2) (aq w2' ao)))) (aq (ak i5) ao)) δ n Q:=
 cz (bX (dj e1 (av e2 (hx _ ⟨hs,h,x,rfl,hh,hl,av e5 (Aj (show 2<=1000 by decide) k)⟩))))
theorem vY(H:HandAt ps hs h P xb xp nm w as)(okp:cu ps)(okh:okHs ps hs)(okn:cO 100 ns)(hh:h < ps.length)(ea:bS ps hs h=ae a)(ed:a.d=.tuple (.str s::fA gs::r))(hpf:a.pf=ae (gs.map Fe.fd))(hof:fM gs)(hpat:hV gs)
  (kN:bu (gs.map Fe.fd) nm ns=ah->au (aL (cT (w2 (w2 ↥3 ⇑0 az) ⇑"look" cL)) (aw (wC .none)) aG) (aw (aA (aq (aH kJ (aq (w2 ↥1 ⇑0 az) (aq ↥2 (aq (aH i8 (aq (w2 ↥0 ↥2 az) (aq (w2 ↥3 ⇑2 az) (aq (w2 ↥4 ⇑2 az) ao)))) ao)))) (aq ↥5 ao))))
   [↑(bf ps),↑(de hs ns),↑(.int h),↑(.tuple (.str s::fA gs::r)),↑(bR (xb,xp,nm)),↑(bH ns),ae (.w (.d .none)),ah] n {nx:=λ_ _=>True,rt:=Q})
  (kS:∀i ns',bu (gs.map Fe.fd) nm ns=ae i->ns'=(if aZ "take" (.str s)=ai then cV ns i else ns)->Q (.d (de (bK hs h (cZ (xb,xp,nm) (cQ (fO (gs.map Fe.fd) (dZ ns i) nm)))) ns')) n):
  xH [↑(bf ps),↑(de hs ns),↑(.int h),↑a.d,ah,ah,ah,ah] n {nx:=λ_ n=>Q (.d .none) n,rt:=Q}:=by
 rw[ed];obtain⟨ep,op⟩:=n6 hof hpat;have hlt:h < hs.length:=by rw[okh.1];exact hh
 have hl5:hs.length<=5:=by rw[okh.1];exact okp.1
 refine aB (bx (x:=bR (xb,xp,nm)) (λQ q=>ar (ar (av rfl (aD (cP (av rfl (bN H.hD q))))))) ?_);ac_nf;refine aB (bx (x:=bH ns) (λQ q=>dI rfl q) ?_);ac_nf;have eg:bG ps hs ns h=bu (gs.map Fe.fd) nm ns:=by
  unfold bG;rw[ea,H.nmq];show(a.pf.bind _)=_;rw[hpf];rfl
 refine aB (bx (x:=cf (bu (gs.map Fe.fd) nm ns)) (λQ q=>bX (av rfl (av rfl (av rfl ⟨ps,hs,ns,h,rfl,⟨okp,okh,okn⟩,hh,by rw[eg];exact q⟩)))) ?_);ac_nf;cases eq:bu (gs.map Fe.fd) nm ns with
 |none=>exact aB (bB (λQ q=>aC (k:=ai) (λQ q=>ar (av rfl (aD (dY q)))) q) (kN eq))
 |some i=>
  obtain⟨⟨row,age⟩,hq,hf⟩:=rp eq;have hi:i < ns.length:=(Ao.mp hq).1;have hq':(ns.map cS)[i]?=ae (.tuple [.tuple row,age]):=by rw[Ax,hq];rfl
  have er:dZ ns i=row:=by unfold dZ;rw[hq];rfl
  have oq:=okn.2 _ (A1 hq);refine aB (aT (λQ q=>aC (k:=aj) (λQ q=>ar (av rfl (aD (dY q)))) q) ?_);ac_rfl;refine aB (bx (x:=b7 (cQ (fO (gs.map Fe.fd) (dZ ns i) nm))) (λQ q=>?_) ?_)
  ·refine bX (dI rfl (ar (ar (av rfl (av rfl (bN hq' (aD (cP ?_))))))));refine ar (av rfl (aD (eB ⟨gs.map Fe.fd,row,nm,by rw[ep],op,oq.1,H.nms,?_⟩)));rw[GI hf];rw[er]at q;exact q
  ac_nf;have fin:∀ns',ns'=(if aZ "take" (.str s)=ai then cV ns i else ns)->aw (aA (aq (aH kJ (aq (w2 ↥1 ⇑0 az) (aq ↥2 (aq (aH nJ (aq ↥4 (aq ↥7 ao))) ao)))) (aq ↥5 ao)))
    [↑(bf ps),↑(de hs ns),↑(.int h),↑(.tuple (.str s::fA gs::r)),↑(bR (xb,xp,nm)),↑(bH ns'),↑(.int i),↑(b7 (cQ (fO (gs.map Fe.fd) (dZ ns i) nm)))] n {nx:=λ_ n=>Q (.d .none) n,rt:=Q}:=λns' e'=>
   bb (uS (x:=cZ (xb,xp,nm) (cQ (fO (gs.map Fe.fd) (dZ ns i) nm))) rfl rfl rfl (λQ q=>bU (av rfl (av rfl ⟨(xb,xp,nm),_,rfl,q⟩))) hlt hl5 (kS i ns' eq e'))
  refine aB (yI rfl (λz=>?_) λz=>?_)
  ·refine bx (x:=bH (cV ns i)) (λQ q=>ar (tw (p:=i) (λQ q=>av rfl q) (λQ q=>av rfl q) (by rw[Ab];omega) (tN (p:=i+1) (λQ q=>av rfl q) (λQ q=>ar (av rfl (aD (du q)))) (by rw[Ab];omega) (gH ?_ ?_)))) ?_
   ·have:=okn.1;rw[Cz,B5,Ab];omega
   ·unfold bH at q;rw[HE]at q;exact q
   ·ac_nf;exact fin (cV ns i) (by rw[if_pos z])
  ·ac_rfl;exact fin ns (by rw[if_neg (by rw[z];exact Ae)])
end
theorem RR:b9 pb xH ["programs","stand","hand","act","place","notes","number","names"]:=λws n Q h=>by
 obtain⟨ps,hs,ns,h,a,rfl,⟨okp,okh,okn⟩,hh,ea,hp,k⟩:=h;obtain⟨P,xb,xp,nm,w,as,H⟩:=lU okh hh;have oa:=H.ok okp ea;rw[t5 H ea]at k;have hlt:h < hs.length:=by rw[okh.1];exact hh
 have hl5:hs.length<=5:=by rw[okh.1];exact okp.1
 show xH [↑(bf ps),↑(de hs ns),↑(.int h),↑a.d,ah,ah,ah,ah] n _;cases a with
 |lay fs age=>cases hp
 |same f g b=>cases hp
 |go b=>cases hp
 |take gs=>
  refine vY (s:="take") (gs:=gs) (r:=[]) H okp okh okn hh ea rfl rfl oa.1 oa.2 (λe=>?_) λi ns' e e'=>?_
  ·have k:Q (.d (ia (((cH gs (xb,xp,nm) ns).map λq=>(q.2,cV ns q.1)).map λr=>(bK hs h r.1,r.2)))) n:=k;rw[i0 e]at k;exact aB (bB (λQ q=>aC (k:=ai) (λQ q=>ar (dj rfl (aD (mW (by rw[show aZ "look" (.str "take")=aj by decide +kernel];exact q))))) q) (bb (aD k)))
  ·rw[if_pos ∅]at e';rw[e'];have k:Q (.d (ia (((cH gs (xb,xp,nm) ns).map λq=>(q.2,cV ns q.1)).map λr=>(bK hs h r.1,r.2)))) n:=k;rw[iZ e]at k;exact k
 |read gs=>
  refine vY (s:="read") (gs:=gs) (r:=[]) H okp okh okn hh ea rfl rfl oa.1 oa.2 (λe=>?_) λi ns' e e'=>?_
  ·have k:Q (.d (ia (((cH gs (xb,xp,nm) ns).map λq=>(q.2,ns)).map λr=>(bK hs h r.1,r.2)))) n:=k;rw[i0 e]at k;exact aB (bB (λQ q=>aC (k:=ai) (λQ q=>ar (dj rfl (aD (mW (by rw[show aZ "look" (.str "read")=aj by decide +kernel];exact q))))) q) (bb (aD k)))
  ·rw[if_neg ∅]at e';rw[e'];have k:Q (.d (ia (((cH gs (xb,xp,nm) ns).map λq=>(q.2,ns)).map λr=>(bK hs h r.1,r.2)))) n:=k;rw[iZ e]at k;exact k
 |look gs b=>
  refine vY (s:="look") (gs:=gs) (r:=[.int b]) H okp okh okn hh ea rfl rfl oa.1 oa.2 (λe=>?_) λi ns' e e'=>?_
  ·have k:Q (.d (ia ((match cH gs (xb,xp,nm) ns with|some q=>ae (q.2,ns)|none=>ae (cv P b nm,ns):Option (Hn×List Nt)).map λr=>(bK hs h r.1,r.2)))) n:=k;rw[i0 e]at k;have hr:=(okp.2 P (A1 H.prog)).2.2 (w,as) (A1 H.blk);rw[H.act]at ea;obtain⟨wb,hwb,_⟩:=(hr.2 xp _ ea).2 b rfl;rw[Ax]at hwb;obtain⟨bl,hbl,_⟩:=Option.map_eq_some_iff.mp hwb;have obl:=((okp.2 P (A1 H.prog)).2.2 bl (A1 hbl)).1;refine aB (aT (λQ q=>aC (k:=aj) (λQ q=>ar (dj rfl (aD (mW (by rw[show aZ "look" (.str "look")=ai by decide +kernel];exact q))))) q) ?_);ac_rfl;refine bb (uS (x:=cv P b nm) rfl rfl rfl (λQ q=>?_) hlt hl5 k);refine bX (ar (av rfl (av rfl (bN H.pD ?_))));refine ar (av rfl (aD (eB ?_)));exact ar (av rfl (aD (eB ⟨P,b,nm,bl,rfl,hbl,obl.1,q⟩)))
  ·rw[if_neg ∅]at e';rw[e'];have k:Q (.d (ia ((match cH gs (xb,xp,nm) ns with|some q=>ae (q.2,ns)|none=>ae (cv P b nm,ns):Option (Hn×List Nt)).map λr=>(bK hs h r.1,r.2)))) n:=k;rw[iZ e]at k;exact k
theorem j5(k:w δ n λx n1=>w' δ n1 λy n2=>w'' δ n2 λz n3=>v δ n3 λu n4=>S [x,y,z,u] n4 Q):aH S (aq w (aq w' (aq w'' (aq v ao)))) δ n Q:=k
theorem Vq(h:k∈nm.map (·.1)):∃v,look nm k=ae v:=by
 obtain⟨p,hp,e⟩:=Bg.mp h;have:(nm.any λp=>decide (p.1=k))=ai:=D4.mpr ⟨p,hp,decide_eq_true e⟩;rw[rZ]at this;exact Ft.mp this
theorem Ov{f:Fe}(h:f.tm=ai):f.bd=ah:=by cases f<;>first|rfl|cases h
theorem rN{f:Fe}(h:f.te=ai):f.tm=ai:=by cases f<;>first|rfl|cases h
theorem vQ:∀{fs:List Fe}{ks:List Str},rF ks fs->(∀f∈fs,f.tm=ai)->∀f∈fs,∀k,f.us=ae k->k∈ks
 |[],_,_,_,f,hf,_,_=>by simp at hf
 |g::r,ks,h,ht,f,hf,k,hk=>by
  rcases Aq.mp hf with rfl|hf
  ·exact h.1 k hk
  ·have h2:=h.2;rw[Ov (ht g As)]at h2;have:=vQ h2 (λx hx=>ht x (Au _ hx)) f hf k hk;simpa using this
section
variable{ps:Pg}{hs:List Hn}{ns:List Nt}{h:Nat}{P:List Bl}{xb xp:Nat}{nm:Nm}{w:List Str}{as:List Ac}{n:Int}{Q:DQ}
theorem HandAt.okb(H:HandAt ps hs h P xb xp nm w as)(okp:cu ps):ot (w,as)/\l7 (P.map (·.1)) (w,as):=(okp.2 P (A1 H.prog)).2.2 (w,as) (A1 H.blk)
theorem HandAt.right(H:HandAt ps hs h P xb xp nm w as)(okp:cu ps)(e:bS ps hs h=ae a):a.right (P.map (·.1)) (kn w as xp):=by
 rw[H.act]at e;exact(H.okb okp).2 xp a e
theorem HandAt.fv(H:HandAt ps hs h P xb xp nm w as)(ok:f.ok)(tm:f.tm=ai)(us:∀k,f.us=ae k->k∈kn w as xp):fF nm f:=⟨ok,tm,λk hk=>by
 obtain⟨v,e⟩:=Vq ((H.hn.mem k).mpr (us k hk));exact⟨v,e,(H.hn.ok _ (l3 e)).2⟩⟩
theorem HandAt.lay(H:HandAt ps hs h P xb xp nm w as)(okp:cu ps){fs:List Fe}{age:Aa}(e:bS ps hs h=ae (.lay fs age)):fs.length<=4/\∀f∈fs,fF nm f:=by
 have oa:=H.ok okp e;have r:=(H.right okp e).1;exact⟨oa.1.1,λf hf=>H.fv (oa.1.2 f hf) (oa.2.1 f hf) (vQ r oa.2.1 f hf)⟩
theorem HandAt.same(H:HandAt ps hs h P xb xp nm w as)(okp:cu ps)(e:bS ps hs h=ae (.same f g b)):fF nm f/\fF nm g/\f.te=ai/\g.te=ai:=by
 have oa:=H.ok okp e;have r:=vQ (H.right okp e).1 (λx hx=>by
  simp only[Ac.fs,Aq,An,or_false]at hx;rcases hx with rfl|rfl
  ·exact rN oa.2.1
  ·exact rN oa.2.2)
 exact⟨H.fv (oa.1.2 f (by simp[Ac.fs])) (rN oa.2.1) (r f (by simp[Ac.fs])),H.fv (oa.1.2 g (by simp[Ac.fs])) (rN oa.2.2) (r g (by simp[Ac.fs])),oa.2.1,oa.2.2⟩
theorem HandAt.to(H:HandAt ps hs h P xb xp nm w as)(okp:cu ps)(e:bS ps hs h=ae a)(hb:a.to=ae b):∃bl:Bl,P[b]?=ae bl/\ot bl/\∀k∈bl.1,k∈nm.map (·.1):=by
 obtain⟨wb,hwb,hk⟩:=(H.right okp e).2 b hb;rw[Ax]at hwb;obtain⟨bl,hbl,rfl⟩:=Option.map_eq_some_iff.mp hwb;exact⟨bl,hbl,((okp.2 P (A1 H.prog)).2.2 bl (A1 hbl)).1,λk z=>(H.hn.mem k).mpr (hk k z)⟩
end
theorem Sh(e:δ[i]?=ae (↑(.tuple [a,b])))(k:Q (.d b) n):w2 (ak i) (dE (wC (.int 1))) az δ n Q:=ar (av e k)
theorem M1(e:δ[i]?=ae (↑(.tuple [a,b,c,d])))(k:Q (.d d) n):w2 (ak i) (dE (wC (.int 1))) az δ n Q:=ar (av e k)
theorem Ky:b9 yJ Im ["programs","stand","hand","act","place","notes","names"]:=λws n Q h=>by
 obtain⟨ps,hs,ns,h,rfl,⟨okp,okh,okn⟩,hh,k⟩:=h;obtain⟨P,xb,xp,nm,w,as,H⟩:=lU okh hh;have hlt:h < hs.length:=by rw[okh.1];exact hh
 have hl5:hs.length<=5:=by rw[okh.1];exact okp.1
 show Im [↑(bf ps),↑(de hs ns),↑(.int h),ah,ah,ah,ah] n _;refine aB (bx (λQ q=>Js rfl rfl rfl okh hh q) ?_);ac_nf;cases ea:bS ps hs h with
 |none=>
  unfold fk at k;rw[H.prog,H.hand,ea]at k;exact aB (bB (λQ q=>aC (k:=ai) (λQ q=>ar (av rfl (aD (dY q)))) q) (bb (aD k)))
 |some a=>
  have oa:=H.ok okp ea;show au _ _ [↑(bf ps),↑(de hs ns),↑(.int h),↑a.d,ah,ah,ah] n _;cases ef:a.pf with
  |some fs=>
   obtain⟨of,s,r,e,h1,_⟩:=yr ef oa;have ha:Q (.d (ia (fk ps hs ns h))) n->aH pb ⇑1015 [↑(bf ps),↑(de hs ns),↑(.int h),↑a.d,ah,ah,ah] n Q:=λk=>
    j5 (av rfl (av rfl (av rfl (av rfl ⟨ps,hs,ns,h,a,rfl,⟨okp,okh,okn⟩,hh,ea,by rw[ef];rfl,k⟩))))
   rw[e]at ha ⊢;refine aB (aT (λQ q=>aC (k:=aj) (λQ q=>ar (av rfl (aD (dY q)))) q) ?_);ac_rfl;exact aB (bB (λQ q=>JD (λQ q=>dj rfl q) h1 q) (bb (ha k)))
  |none=>
   rw[t5 H ea]at k;have pre:∀(V:aR)(s:Str)(r:List Aa),a.d=.tuple (.str s::r)->b8 (.str s) [.str "take",.str "read",.str "look"]=aj->
     V [↑(bf ps),↑(de hs ns),↑(.int h),↑a.d,↑(bR (xb,xp,nm)),↑(bH ns),↑(b7 nm)] n {nx:=λ_ n=>Q (.d .none) n,rt:=Q}->
     au ⇑1014 (au (aL (cT (jn Ze (w2 ↥3 ⇑0 az))) (aw (aH pb ⇑1015)) aG) (au (aF 4 ⇑1016) (au (aF 5 (w2 ↥1 ⇑1 az)) (au (aF 6 (w2 ↥4 ⇑2 az)) V))))
      [↑(bf ps),↑(de hs ns),↑(.int h),↑a.d,ah,ah,ah] n {nx:=λ_ n=>Q (.d .none) n,rt:=Q}:=λV s r e h1 kk=>by
    rw[e]at kk ⊢;refine aB (aT (λQ q=>aC (k:=aj) (λQ q=>ar (av rfl (aD (dY q)))) q) ?_);ac_rfl;refine aB (aT (λQ q=>JD (λQ q=>dj rfl q) h1 q) ?_);ac_rfl;refine aB (bx (x:=bR (xb,xp,nm)) (λQ q=>ar (ar (av rfl (aD (cP (av rfl (bN H.hD q))))))) ?_);ac_nf;refine aB (bx (x:=bH ns) (λQ q=>dI rfl q) ?_);ac_nf;refine aB (bx (x:=b7 nm) (λQ q=>ar (av rfl (aD (eB q)))) ?_);ac_nf;exact kk
   have fin:∀(x:Hn)(ns':List Nt)(d:Aa),Q (.d (de (bK hs h x) ns')) n->aw (aA (aq (aH kJ (aq (w2 ↥1 ⇑0 az) (aq ↥2 (aq ↥4 ao)))) (aq ↥5 ao))) [↑(bf ps),↑(de hs ns),↑(.int h),↑d,↑(bR x),↑(bH ns'),↑(b7 nm)] n {nx:=λ_ n=>Q (.d .none) n,rt:=Q}:=λx ns' d q=>
    bb (uS (x:=x) rfl rfl rfl (λQ q=>av rfl q) hlt hl5 q)
   cases a with
   |take fs=>cases ef
   |read fs=>cases ef
   |look fs b=>cases ef
   |lay fs age=>
    obtain⟨hl4,hfv⟩:=H.lay okp ea;refine pre _ "lay" [fA fs,age] rfl ∅ ?_;refine aB (jE (a:=.str "lay") rfl ∅ (aB ?_));refine bx (x:=bH (ns++[(cx fs nm,age)])) (λQ q=>?_) ?_
    ·refine ar (av rfl (jX (cz (bU (dI rfl (av rfl ⟨fs,nm,rfl,hl4,hfv,H.nms,?_⟩))))));refine ar (av rfl (aD (eB (Aj (show 2<=1000 by decide) (Aj (show 1<=1000 by decide) (gH (by rw[Ab,Av];have:=okn.1;omega) ?_))))));unfold bH at q;rw[A9]at q;exact q
    ·ac_nf;refine bx (x:=bR (cZ (xb,xp,nm) nm)) (λQ q=>bU (av rfl (av rfl ⟨(xb,xp,nm),nm,rfl,q⟩))) ?_;ac_nf;exact fin _ _ _ k
   |same f g b=>
    obtain⟨hf,hg,tf,tg⟩:=H.same okp ea;obtain⟨bl,hbl,obl,_⟩:=H.to okp ea (b:=b) rfl;refine pre _ "same" [f.d,g.d,.int b] rfl ∅ ?_;refine aB (eY (a:=.str "same") rfl ∅ (eF (iA (λQ q=>jy (a:=.str "same") rfl ?_) ?_)))
    ·rw[show aZ "same" (.str "same")=ai by decide +kernel];exact q
    refine(show cT _ _ _ _ from bU (av rfl (av rfl ⟨f,g,b,nm,rfl,hf,hg,tf,tg,H.nms,?_⟩)));have k:Q (.d (de (bK hs h (if dQ (eC nm f) (eC nm g)=ai then cZ (xb,xp,nm) nm else cv P b nm)) ns)) n:=k;refine l4 (λz=>?_) λz=>?_
    ·rw[if_pos z]at k;refine bx (x:=bR (cZ (xb,xp,nm) nm)) (λQ q=>bU (av rfl (av rfl ⟨(xb,xp,nm),nm,rfl,q⟩))) ?_;ac_nf;exact fin _ _ _ k
    ·rw[if_neg (by rw[z];exact Ae)]at k;refine bx (x:=bR (cv P b nm)) (λQ q=>bX (ar (av rfl (av rfl (bN H.pD (M1 rfl (av rfl ⟨P,b,nm,bl,rfl,hbl,obl.1,q⟩))))))) ?_;ac_nf;exact fin _ _ _ k
   |go b=>
    obtain⟨bl,hbl,obl,_⟩:=H.to okp ea (b:=b) rfl;refine pre _ "go" [.int b] rfl ∅ ?_;refine aB (eY (a:=.str "go") rfl ∅ (aT (λQ q=>iJ (λQ q=>jy (a:=.str "go") rfl ?_) q) ?_))
    ·rw[show aZ "same" (.str "go")=aj by decide +kernel];exact q
    refine bx (x:=bR (cv P b nm)) (λQ q=>bX (ar (av rfl (av rfl (bN H.pD (Sh rfl (av rfl ⟨P,b,nm,bl,rfl,hbl,obl.1,q⟩))))))) ?_;ac_nf;exact fin _ _ _ k
theorem tL(k:Q (.d (.bool (decide (a=b)))) n):a9 (~~~a) (~~~b) n Q:=k
theorem r9(ps:Pg)(i:Int):j7 ps (.int i)=if 0<=i/\i<=(ps.length:Int)then ae i.toNat else ah:=rfl
theorem rE(em:j7 ps b=ae m):b=.int m/\m<=ps.length:=by
 cases b with
 |int i=>
  rw[r9]at em;by_cases z:0<=i/\i<=(ps.length:Int)
  ·rw[if_pos z]at em;cases em;exact⟨by congr 1;omega,by omega⟩
  ·rw[if_neg z]at em;cases em
 |_=>cases em
theorem Ml(em:j7 ps b=ah):uU b ps.length=aj:=by
 cases b with
 |int i=>
  rw[r9]at em;by_cases z:0<=i/\i<=(ps.length:Int)
  ·rw[if_pos z]at em;cases em
  ·show(decide (0<=i)&&decide (i<=(ps.length:Int)))=aj;rw[Bool.and_eq_false_iff,decide_eq_false_iff_not,decide_eq_false_iff_not];omega
 |_=>rfl
theorem Pt:b9 o6 JV ["programs","stand","mover","clock"]:=λws n Q h=>by
 obtain⟨ps,hs,ns,b,rfl,ok,k⟩:=h;show JV [↑(bf ps),↑(de hs ns),↑b,ah] n _;refine aB (bx (x:=.int ps.length) (λQ q=>aN (av rfl (show Q (~~~((ps.map d5).length:Nat)) n by rw[Ab];exact q))) ?_);ac_nf;unfold ig at k;cases em:j7 ps b with
 |none=>
  rw[em]at k;have ew:=Ml em;exact aB (bB (λQ q=>iq (k:=aj) (λQ q=>aC (k:=aj) (λQ q=>bU (av rfl (av rfl ⟨_,_,rfl,by rw[ew];exact q⟩))) q) q) (bb (aD k)))
 |some m=>
  rw[em]at k;have k:Q (.d (ia (b6 ps hs ns m))) n:=k;obtain⟨rfl,hm⟩:=rE em;have ew:uU (.int m) ps.length=ai:=by
   show(decide (0<=(m:Int))&&decide ((m:Int)<=(ps.length:Int)))=ai;rw[decide_eq_true ⋯,decide_eq_true ⋯];rfl
  refine aB (aT (λQ q=>iq (k:=ai) (λQ q=>aC (k:=ai) (λQ q=>bU (av rfl (av rfl ⟨_,_,rfl,by rw[ew];exact q⟩))) q) q) ?_);ac_rfl;unfold b6 at k;refine bb (fP (b:=decide ((m:Int)=ps.length)) (λQ q=>aC (λQ q=>ar (av rfl (av rfl (tL q)))) q) ?_);by_cases e:m=ps.length
  ·rw[if_pos e]at k;rw[if_pos (decide_eq_true ⋯)];exact cJ (av rfl ⟨hs,ns,rfl,λq hq=>(ok.2.2.2 q hq).2,k⟩)
  ·rw[if_neg e]at k;rw[if_neg (by rw[decide_eq_false ⋯];exact Ae)];exact bX (av rfl (av rfl (av rfl ⟨ps,hs,ns,m,rfl,ok,by omega,k⟩)))
theorem MQ(e:δ[j]?=ae (↑(b7 ps)))(ok:okN ps)(k:Q (.dk (bE ps)) n):t7 (ak j) δ n Q:=by
 unfold t7 mj jN;refine av e ?_;unfold b7;simp only[xh];refine⟨by rw[Ab];have:=ok.1;omega,?_⟩;have:=uo ps [] (by rw[Bx];exact ok.2.1);rw[Bx]at this;rw[show([]:List (aO×Aa))=bE []from rfl,this];exact k
theorem SU(h:cq (.int i)=ai):lI (.int i)=.int ((i+1) % 100):=by
 obtain⟨h0,h1⟩:=FC h;show(if i=99 then E8 0 else E8 (i+1))=_
 split
 ·rename_i e;subst e;rfl
 ·rw[Int.emod_eq_of_lt ⋯ ⋯]
theorem zX:∀{xs ys:List Str},xs.Nodup->ys.Nodup->(∀k,k∈xs↔k∈ys)->oD xs->oD ys->xs=ys
 |[],[],_,_,_,_,_=>rfl
 |[],y::ys,_,_,h,_,_=>by have:=(h y).mpr As;simp at this
 |x::xs,[],_,_,h,_,_=>by have:=(h x).mp As;simp at this
 |x::xs,y::ys,n1,n2,h,u1,u2=>by
  obtain⟨a1,b1⟩:=De.mp n1;obtain⟨a2,b2⟩:=De.mp n2;obtain⟨c1,d1⟩:=List.pairwise_cons.mp u1;obtain⟨c2,d2⟩:=List.pairwise_cons.mp u2;have e:x=y:=by
   rcases Aq.mp ((h x).mp As)with e|hx
   ·exact e
   ·rcases Aq.mp ((h y).mpr As)with e|hy
    ·exact e.symm
    ·exact EZ _ _ (c2 x hx) (c1 y hy)
  subst e;rw[zX b1 b2 (λk=>⟨λhk=>?_,λhk=>?_⟩) d1 d2]
  ·rcases Aq.mp ((h k).mp (Au _ hk))with e|q
   ·exact absurd (e▸hk) a1
   ·exact q
  ·rcases Aq.mp ((h k).mpr (Au _ hk))with e|q
   ·exact absurd (e▸hk) a2
   ·exact q
theorem PV{nm:Nm}(nd:(nm.map (·.1)).Nodup)(up:lA nm)(wn:w.Nodup)(wu:oD w)(sub:∀k∈w,k∈nm.map (·.1)):nm.filter (λp=>decide (p.1∈w))=w.map λk=>(k,iu nm k):=by
 have ek:(nm.filter λp=>decide (p.1∈w)).map (·.1)=w:=by
  refine zX ?_ wn (λk=>⟨λhk=>?_,λhk=>?_⟩) ?_ wu
  ·exact List.Nodup.sublist (List.Sublist.map _ List.filter_sublist) nd
  ·obtain⟨p,hp,rfl⟩:=Bg.mp hk;exact of_decide_eq_true (C7.mp hp).2
  ·obtain⟨p,hp,rfl⟩:=Bg.mp (sub k hk);exact Bg.mpr ⟨p,C7.mpr ⟨hp,decide_eq_true hk⟩,rfl⟩
  ·unfold oD;rw[List.pairwise_map];exact List.Pairwise.sublist List.filter_sublist up
 have e2:(nm.filter λp=>decide (p.1∈w))=(nm.filter λp=>decide (p.1∈w)).map λp=>(p.1,iu nm p.1):=by
  have:(nm.filter λp=>decide (p.1∈w)).map id=(nm.filter λp=>decide (p.1∈w)).map λp=>(p.1,iu nm p.1):=by
   refine Cg λp hp=>?_;have:=N5 nd (C7.mp hp).1;show p=(p.1,iu nm p.1);unfold iu;rw[this];rfl
  rw[List.map_id]at this;exact this
 rw[e2]
 conv=>rhs;rw[<-ek]
 rw[Df];rfl
section
variable{δ:Sl}{n:Int}{Q:DQ}{K:DEnds}{W V:aR}{i:Nat}{s h:Str}{r:List Aa}{b c d e:Aa}
theorem U8(k:az x y n Q):pH x y n Q:=.inr k
theorem NW(ha:cq a=ai)(hb:cq b=ai)(k:Q (.d (.bool (!dQ a b))) n):cL (.d a) (.d b) n Q:=by
 cases a with
 |str x=>cases b with
  |str y=>exact k
  |int j=>exact k
  |_=>cases hb
 |int i=>cases b with
  |str y=>exact k
  |int j=>exact k
  |_=>cases hb
 |_=>cases ha
end
theorem SQ(nd:(nm.map (·.1)).Nodup)(h:cY fs row nm=ai):((fO fs row nm).map (·.1)).Nodup/\(wk (fs.zip row) nm []=ae (fO fs row nm)):=by
 unfold cY at h;rw[A2]at h;unfold fO;obtain⟨x,hx⟩:=Ft.mp h.2;rw[hx];exact⟨lK _ _ _ _ nd hx,rfl⟩
theorem sA:∀(l:List (Fd×Aa))(h:Nm)(hs:List Str)(k:Nm),(∀p∈l,p.1.ok/\cq p.2=ai)->(∀p∈h,gE p)->wk l h hs=ae k->(∀p∈k,gE p)/\k.length<=h.length+l.length
 |[],h,hs,k,_,ho,e=>by cases e;exact⟨ho,Al _⟩
 | (f,v)::r,h,hs,k,hl,ho,e=>by
  have hr:∀p∈r,p.1.ok/\cq p.2=ai:=λp hp=>hl p (Au _ hp);have same:wk r h hs=ae k->(∀p∈k,gE p)/\k.length<=h.length+((f,v)::r).length:=λe=>by
   have:=sA r h hs k hr ho e;exact⟨this.1,by rw[Ap];omega⟩
  cases f with
  |is w=>unfold wk at e;split at e;exact same e;cases e
  |any=>unfold wk at e;exact same e
  |word=>unfold wk at e;split at e;exact same e;cases e
  |number=>unfold wk at e;split at e;exact same e;cases e
  |as x=>
   unfold wk at e
   split at e
   ·split at e
    ·exact same e
    ·cases e
   ·cases e
  |bind x=>
   unfold wk at e
   split at e
   ·split at e
    ·split at e
     ·exact same e
     ·cases e
    ·cases e
   ·have hb:=hl _ As;have:=sA r (put h x v) (hs++[x]) k hr (oS ho hb.1 hb.2) e;have:=sV h x v;exact⟨by have:=sA r (put h x v) (hs++[x]) k hr (oS ho hb.1 hb.2) e;exact this.1,by rw[Ap];omega⟩
theorem U7(of:tG fs)(or:ka row):∀p∈fs.zip row,p.1.ok/\cq p.2=ai:=λp hp=>by
 obtain⟨p1,p2⟩:=p;exact⟨of.2.2 _ (Ez hp).1,or.2 _ (Ez hp).2⟩
def Sm(k w:Nat)(d:Aa):Prop:=B1 d=ai/\Bv d<=k/\Ea d<=w/\Dt 13 d=ai/\Dn d=ai
theorem Sm.small(h:Sm k w d)(hk:k<=20)(hw:w<=2 ^ 20):Small d:=⟨h.1,by have:=h.2.1;omega,by have:=h.2.2.1;omega,h.2.2.2⟩
theorem yg:∀ds:List Aa,(∀d∈ds,Sm k w d)->E2 ds=ai/\Fv ds<=k/\PyData.weightAll ds<=(w+1)*ds.length/\PyData.intsShortAll 13 ds=ai/\PyData.showableAll ds=ai
 |[],_=>⟨rfl,Bo _,Bo _,rfl,rfl⟩
 |d::r,h=>by
  obtain⟨a1,a2,a3,a4,a5⟩:=yg r λx hx=>h x (Au _ hx);obtain⟨b1,b2,b3,b4,b5⟩:=h d As;refine⟨?_,?_,?_,?_,?_⟩
  ·rw[E2,a1,b1];rfl
  ·rw[Fv];omega
  ·rw[PyData.weightAll,Ap,Nat.mul_succ];omega
  ·rw[PyData.intsShortAll,a4,b4];rfl
  ·rw[PyData.showableAll,a5,b5];rfl
theorem i6(h:∀d∈ds,Sm k w d)(hl:ds.length<=m):Sm (k+1) ((w+1)*m) (.tuple ds):=by
 obtain⟨a1,a2,a3,a4,a5⟩:=yg ds h;have:=Nat.mul_le_mul_left (w+1) hl;refine⟨by rw[B1];exact a1,by rw[Bv];omega,by rw[Ea];omega,by rw[Dt];exact a4,by rw[Dn];exact a5⟩
theorem tD(h:∀d∈ds,Sm k w d)(hl:ds.length<=m):Sm (k+1) ((w+1)*m) (.list ds):=by
 obtain⟨a1,a2,a3,a4,a5⟩:=yg ds h;have:=Nat.mul_le_mul_left (w+1) hl;refine⟨by rw[B1];exact a1,by rw[Bv];omega,by rw[Ea];omega,by rw[Dt];exact a4,by rw[Dn];exact a5⟩
theorem Sm.up(h:Sm k w d)(hk:k<=k')(hw:w<=w'):Sm k' w' d:=⟨h.1,A4 h.2.1 hk,A4 h.2.2.1 hw,h.2.2.2⟩
theorem l6(h:cq d=ai):Sm 0 20 d:=by
 cases d with
 |str x=>
  have h:(decide (x.length<=8)&&(Ep x&&decide (x="a"\/x="ab"\/x="go")))=ai:=h;rw[A2,A2]at h;have h1:x.cps.size<=8:=of_decide_eq_true h.1;refine⟨?_,by rw[Bv];exact Al _,?_,by rw[Dt],by rw[Dn]⟩
  ·rw[B1];exact h.2.1
  ·rw[Ea];omega
 |int i=>
  simp only[cq,A2,decide_eq_true_eq]at h;exact⟨by rw[B1],by rw[Bv];exact Al _,h.2.2.1,h.2.2.2.1,h.2.2.2.2⟩
 |_=>cases h
theorem UI(h:nI x):Sm 0 20 (.str x):=by
 have h1:x.cps.size<=4:=h.1;refine⟨?_,by rw[Bv];exact Al _,?_,by rw[Dt],by rw[Dn]⟩
 ·rw[B1];exact h.2
 ·rw[Ea];omega
theorem rV(ha:Sm k w a)(hb:Sm k w b):Sm (k+1) ((w+1)*2) (.tuple [a,b]):=i6 (λd hd=>by
 simp only[Aq,An,or_false]at hd;rcases hd with rfl|rfl
 ·exact ha
 ·exact hb) (Al _)
theorem OJ(h:∀p∈nm,gE p)(hl:nm.length<=40):Sm 2 1720 (b7 nm):=(i6 (k:=1) (w:=42) (m:=40) (ds:=nm.map i9) (λd hd=>by
 obtain⟨p,hp,rfl⟩:=Bg.mp hd;exact rV (UI (h p hp).1) (l6 (h p hp).2)) (by rw[Ab];exact hl)).up (Al _) ∎
theorem Hr(h:fR d):Sm 0 20 d:=by
 rcases h with rfl|⟨i,rfl,h0,h1⟩
 ·exact⟨rfl,Al _,by decide,rfl,rfl⟩
 ·exact l6 (hX ⋯ ⋯)
theorem NJ(h1:h.1<=99)(h2:h.2.1<=99)(ho:∀p∈h.2.2,gE p)(hl:h.2.2.length<=40):Sm 3 5163 (bR h):=i6 (k:=2) (w:=1720) (m:=3) (λd hd=>by
 simp only[Aq,An,or_false]at hd;rcases hd with rfl|rfl|rfl
 ·exact(l6 (hX ⋯ ⋯)).up ∎ ∎
 ·exact(l6 (hX ⋯ ⋯)).up ∎ ∎
 ·exact OJ ho hl) (Al _)
theorem Iv(h:kU q):Sm 2 170 (cS q):=rV ((i6 (k:=0) (w:=20) (m:=4) (λd hd=>l6 (h.1.2 d hd)) h.1.1.1)) ((Hr h.2).up ∎ ∎)
theorem Kv(okp:cu ps)(okh:okHs ps hs)(okn:cO 101 ns):Small (de hs ns):=by
 have h1:Sm 4 25820 (.tuple (hs.map bR)):=i6 (k:=3) (w:=5163) (m:=5) (λd hd=>by
  obtain⟨h,hh,rfl⟩:=Bg.mp hd;obtain⟨i,hi⟩:=Bw.mp hh;have hil:=(Ao.mp hi).1;have hil':i < ps.length:=by rw[<-okh.1];exact hil
  have hP:ps[i]?=ae ps[i]:=Ah hil';obtain⟨h',b,e1,e2,e3⟩:=okh.2 i _ hP;rw[hi]at e1;cases e1;have og:=okp.2 _ (A1 hP);have hb:=(Ao.mp e2).1;have ob:=(og.2.2 b (A1 e2)).1;have:=e3.pl;have:=ob.2.2.1;have:=og.2.1;exact NJ ⋯ ⋯ e3.ok e3.ln) (by rw[Ab,okh.1];exact okp.1)
 have h2:Sm 3 17271 (bH ns):=i6 (k:=2) (w:=170) (m:=101) (λd hd=>by
  obtain⟨q,hq,rfl⟩:=Bg.mp hd;exact Iv (okn.2 q hq)) (by rw[Ab];exact okn.1)
 exact(rV h1 (h2.up ∎ ∎)).small ∎ ∎
theorem Na(hh:h < hs.length):bK hs h x=hs.set h x:=by
 rw[List.set_eq_take_append_cons_drop,if_pos hh];rfl
theorem okHs.put(ok:okHs ps hs)(hP:ps[h]?=ae P)(hb:P[x.1]?=ae b)(hx:okHn b x):okHs ps (bK hs h x):=by
 have hh:h < hs.length:=by rw[ok.1];exact(Ao.mp hP).1
 rw[Na hh];refine⟨by rw[Cw];exact ok.1,λi P' hi=>?_⟩;by_cases e:h=i
 ·subst e;rw[hP]at hi;cases hi;exact⟨x,b,F8 hh,hb,hx⟩
 ·obtain⟨h',b',e1,e2,e3⟩:=ok.2 i P' hi;exact⟨h',b',by rw[C5 e];exact e1,e2,e3⟩
theorem II(h:as[p]?=ae a):kn w as (p+1)=kn w as p++a.bs:=by
 unfold kn;rw[List.take_add_one,h,List.flatMap_append,Bh];simp
theorem wg:∀(l:List (Fd×Aa))(h:Nm)(hs:List Str)(k:Nm),(∀x∈hs,x∈h.map (·.1))->wk l h hs=ae k->∀x,x∈k.map (·.1)↔x∈h.map (·.1)\/∃p∈l,p.1=.bind x
 |[],h,hs,k,_,e,x=>by cases e;simp
 | (f,v)::r,h,hs,k,hh,e,x=>by
  have same:wk r h hs=ae k->(∀y,f=.bind y->y∈h.map (·.1))->(x∈k.map (·.1)↔x∈h.map (·.1)\/∃p∈(f,v)::r,p.1=.bind x):=λe nb=>by
   rw[wg r h hs k hh e x]
   constructor
   ·rintro(q|⟨p,hp,q⟩)
    ·exact .inl q
    ·exact .inr ⟨p,Au _ hp,q⟩
   ·rintro(q|⟨p,hp,q⟩)
    ·exact .inl q
    ·rcases Aq.mp hp with rfl|hp
     ·exact .inl (nb x q)
     ·exact .inr ⟨p,hp,q⟩
  cases f with
  |is w=>unfold wk at e;split at e;exact same e (λy z=>by cases z);cases e
  |any=>unfold wk at e;exact same e (λy z=>by cases z)
  |word=>unfold wk at e;split at e;exact same e (λy z=>by cases z);cases e
  |number=>unfold wk at e;split at e;exact same e (λy z=>by cases z);cases e
  |as y=>
   unfold wk at e
   split at e
   ·split at e
    ·exact same e (λy z=>by cases z)
    ·cases e
   ·cases e
  |bind y=>
   unfold wk at e
   split at e
   ·rename_i hy
    split at e
    ·split at e
     ·exact same e (λz q=>by cases q;exact hh y hy)
     ·cases e
    ·cases e
   ·have pk:∀z,z∈(put h y v).map (·.1)↔z∈h.map (·.1)\/z=y:=λz=>by
     rw[Ig]
     split
     ·rename_i q;obtain⟨p,hp,q⟩:=D4.mp q;have hy:y∈h.map (·.1):=Bg.mpr ⟨p,hp,of_decide_eq_true q⟩;exact⟨.inl,λq=>q.elim id λq=>q▸hy⟩
     ·rw[Bd,Bc]
    rw[wg r (put h y v) (hs++[y]) k (λz hz=>(pk z).mpr ((Bd.mp hz).elim (λq=>.inl (hh z q)) λq=>.inr (Bc.mp q))) e x,pk x]
    constructor
    ·rintro((q|rfl)|⟨p,hp,q⟩)
     ·exact .inl q
     ·exact .inr ⟨_,As,rfl⟩
     ·exact .inr ⟨p,Au _ hp,q⟩
    ·rintro(q|⟨p,hp,q⟩)
     ·exact .inl (.inl q)
     ·rcases Aq.mp hp with rfl|hp
      ·cases q;exact .inl (.inr rfl)
      ·exact .inr ⟨p,hp,q⟩
theorem J6{row:List Aa}(hp:∀f∈gs,f.pt=ai)(hl:(gs.map Fe.fd).length=row.length)(x):(∃p∈(gs.map Fe.fd).zip row,p.1=.bind x)↔x∈bP gs:=by
 unfold bP;rw[G1]
 constructor
 ·rintro⟨⟨a,b⟩,hp',e⟩
  obtain⟨f,hf,e'⟩:=Bg.mp (Ez hp').1;refine⟨f,hf,?_⟩;have e:a=.bind x:=e;rw[e]at e';cases f<;>first|(cases e';rfl)|cases e'
 ·rintro⟨f,hf,e⟩
  have ef:f=.bind x:=by cases f<;>first|(cases e;rfl)|cases e
  subst ef;obtain⟨i,hi⟩:=Bw.mp hf;have hil:=(Ao.mp hi).1;rw[Ab]at hl;refine⟨(.bind x,row[i]'⋯),Bw.mpr ⟨i,?_⟩,rfl⟩;rw[List.getElem?_zip_eq_some];exact⟨by rw[Ax,hi];rfl,Ah ⋯⟩
theorem Lm(h:fR d)(h1:cC d=aj):fR (gp d):=by
 rcases h with rfl|⟨i,rfl,h0,h2⟩
 ·exact .inl rfl
 ·have:¬i=1:=by simpa[cC]using h1
  exact .inr ⟨i-1,rfl,by omega,by omega⟩
theorem NF(h:cO m ns):cO m (dA ns):=by
 unfold dA;refine⟨by rw[Ab];exact A4 (E5 _ _) h.1,λq hq=>?_⟩;obtain⟨p,hp,rfl⟩:=Bg.mp hq;obtain⟨h1,h2⟩:=C7.mp hp;exact⟨(h.2 p h1).1,Lm (h.2 p h1).2 (by simpa using h2)⟩
theorem rX(okp:cu ps)(okh:okHs ps hs)(okn:cO M ns)(hm:m<=ps.length)(e:b6 ps hs ns m=ae r):okHs ps r.1/\cO (M+1) r.2:=by
 unfold b6 at e;by_cases em:m=ps.length
 ·rw[if_pos em]at e;cases e;have:=NF okn;exact⟨okh,Nat.le_succ_of_le this.1,this.2⟩
 rw[if_neg em]at e;have hh:m < ps.length:=by omega
 obtain⟨P,xb,xp,nm,w,as,H⟩:=lU okh hh;cases ea:bS ps hs m with
 |none=>
  unfold fk at e;rw[H.prog,H.hand,ea]at e;cases e
 |some a=>
 rw[t5 H ea]at e;have oa:=H.ok okp ea;have ea':=ea;rw[H.act]at ea';have hxp:xp < as.length:=(Ao.mp ea').1;have okn':cO (M+1) ns:=⟨Nat.le_succ_of_le okn.1,okn.2⟩;have on:a.bs=[]->okHs ps (bK hs m (cZ (xb,xp,nm) nm)):=λhb=>okh.put H.prog (x:=cZ (xb,xp,nm) nm) H.blk ⟨hxp,H.hn.nd,H.hn.ok,H.hn.up,λk=>by
  show k∈nm.map (·.1)↔k∈kn w as (xp+1);rw[II ea',hb,Bm];exact H.hn.mem k,H.hn.ln⟩
 have to:∀b,a.to=ae b->okHs ps (bK hs m (cv P b nm)):=λb hb=>by
  obtain⟨bl,hbl,obl,sub⟩:=H.to okp ea hb;have ew:mS P b=bl.1:=by unfold mS;rw[hbl];rfl
  refine okh.put H.prog (x:=cv P b nm) hbl ?_;have en:(cv P b nm).2.2=bl.1.map λk=>(k,iu nm k):=by
   unfold cv;rw[ew];exact PV H.hn.nd H.hn.up obl.2.2.2.2.1 obl.2.2.2.2.2 sub
  have ek:(cv P b nm).2.2.map (·.1)=bl.1:=by rw[en,Df];exact List.map_id' _
  have sl:(cv P b nm).2.2.Sublist nm:=List.filter_sublist;refine⟨Bo _,by rw[ek];exact obl.2.2.2.2.1,λp hp=>H.hn.ok p (sl.subset hp),List.Pairwise.sublist sl H.hn.up,λk=>by rw[ek];unfold kn;show _↔k∈bl.1++(bl.2.take 0).flatMap Ac.bs;simp,A4 sl.length_le H.hn.ln⟩
 have get:∀(gs:List Fe)(i:Nat),a.pf=ae (gs.map Fe.fd)->a.bs=bP gs->fM gs->hV gs->bu (gs.map Fe.fd) nm ns=ae i->okHs ps (bK hs m (cZ (xb,xp,nm) (cQ (fO (gs.map Fe.fd) (dZ ns i) nm)))):=λgs i hpf hbs hof hpat ei=>by
  obtain⟨⟨row,age⟩,hq,hf⟩:=rp ei;have er:dZ ns i=row:=by unfold dZ;rw[hq];rfl
  rw[er];have oq:=okn.2 _ (A1 hq);obtain⟨ep,op⟩:=n6 hof hpat;obtain⟨nd,ew⟩:=SQ H.hn.nd hf;obtain⟨wo,_⟩:=sA _ _ _ _ (U7 op oq.1) H.hn.ok ew;have hlen:(gs.map Fe.fd).length=row.length:=by
   unfold cY at hf;rw[A2]at hf;exact of_decide_eq_true hf.1
  have pm:=BS (fO (gs.map Fe.fd) row nm);have pk:((cQ (fO (gs.map Fe.fd) row nm)).map (·.1)).Perm ((fO (gs.map Fe.fd) row nm).map (·.1)):=pm.map _;have hmem:∀k,k∈(cQ (fO (gs.map Fe.fd) row nm)).map (·.1)↔k∈kn w as (xp+1):=λk=>by
   rw[pk.mem_iff,wg _ _ _ _ (λx hx=>by simp at hx) ew k,J6 hpat.2 hlen,II ea',Bd,hbs];exact or_congr (H.hn.mem k) Iff.rfl
  have nd':=pk.nodup_iff.mpr nd;refine okh.put H.prog (x:=cZ (xb,xp,nm) _) H.blk ⟨hxp,nd',λp hp=>wo p (pm.mem_iff.mp hp),EL _,hmem,?_⟩;have:=DX nd' (ks:=kn w as (xp+1)) λk hk=>(hmem k).mp hk;rw[Ab]at this;have h36:=Mh (H.okb okp).1 (xp+1);exact A4 this (A4 h36 ∎)
 cases a with
 |lay fs age=>
  cases e;obtain⟨hl4,hfv⟩:=H.lay okp ea;refine⟨on rfl,by rw[Af,Av];have:=okn.1;omega,λq hq=>?_⟩;rcases Bd.mp hq with hq|hq
  ·exact okn.2 q hq
  ·rw[Bc.mp hq];exact⟨⟨⟨by show(cx fs nm).length<=4;unfold cx;rw[Ab];exact hl4,by show 1<=(cx fs nm).length;unfold cx;rw[Ab];exact oa.2.2.2⟩,λd hd=>by
    obtain⟨f,hf,rfl⟩:=Bg.mp hd;exact iT (hfv f hf)⟩,oa.2.2.1⟩
 |go b=>cases e;exact⟨to b rfl,okn'⟩
 |same f g b=>
  cases e;refine⟨?_,okn'⟩;show okHs ps (bK hs m (if dQ (eC nm f) (eC nm g)=ai then cZ (xb,xp,nm) nm else cv P b nm))
  split
  ·exact on rfl
  ·exact to b rfl
 |take gs=>
  have e:(((cH gs (xb,xp,nm) ns).map λq=>(q.2,cV ns q.1)).map λr=>(bK hs m r.1,r.2))=ae r:=e;cases ei:bu (gs.map Fe.fd) nm ns with
  |none=>rw[i0 ei]at e;cases e
  |some i=>
   rw[iZ ei]at e;cases e;refine⟨get gs i rfl rfl oa.1 oa.2 ei,?_,λq hq=>?_⟩
   ·show(cV ns i).length<=_;unfold cV;rw[Af,Cz,B5];have:=okn.1;omega
   ·rcases Bd.mp hq with hq|hq
    ·exact okn.2 q (Gp hq)
    ·exact okn.2 q (Fg hq)
 |read gs=>
  have e:(((cH gs (xb,xp,nm) ns).map λq=>(q.2,ns)).map λr=>(bK hs m r.1,r.2))=ae r:=e;cases ei:bu (gs.map Fe.fd) nm ns with
  |none=>rw[i0 ei]at e;cases e
  |some i=>
   rw[iZ ei]at e;cases e;exact⟨get gs i rfl rfl oa.1 oa.2 ei,okn'⟩
 |look gs b=>
  have e:((match cH gs (xb,xp,nm) ns with|some q=>ae (q.2,ns)|none=>ae (cv P b nm,ns):Option (Hn×List Nt)).map λr=>(bK hs m r.1,r.2))=ae r:=e;cases ei:bu (gs.map Fe.fd) nm ns with
  |none=>
   rw[i0 ei]at e;cases e;exact⟨to b rfl,okn'⟩
  |some i=>
   rw[iZ ei]at e;cases e;exact⟨get gs i rfl rfl oa.1 oa.2 ei,okn'⟩
theorem yO(k:w δ n λx n1=>w' δ n1 λy n2=>S [x,y] n2 Q):kr S (aq w (aq w' ao)) δ n Q:=k
theorem JO(m):cb 0 m=(A8 m).map λj=>E8 (j:Nat):=by
 unfold cb;exact Cg λi _=>by rw[Int.zero_add]
theorem yh(k:Q (.d (.bool aj)) n):cL (.d (.str s)) (.d (.str s)) n Q:=by
 show Q (.d (.bool (!aZ s (.str s)))) n;have:aZ s (.str s)=ai:=by unfold aZ;exact decide_eq_true rfl
 rw[this];exact k
theorem AY(xs:List Aa)(p:Nat):bo xs ah (ae (p:Int))=xs.take p:=by
 unfold bo;rw[HT.sIx_nat,HT.sIx_none,Fh,Nat.sub_zero];by_cases h:p<=xs.length
 ·rw[Nat.min_eq_left h]
 ·rw[Nat.min_eq_right ⋯,Cu (Al _),Cu ⋯]
theorem MC{j:Int}(m:Nat)(ej:j=m)(hm:m<=1000)(k:fh g W K (cb 0 m) δ n):aU (dC (wC (.int j))) g W δ n K:=by
 subst ej;exact⟨⟨by omega,by omega⟩,by rw[Bs];exact k⟩
theorem xx(L)(m):aE (L++[m])=aE L++[.int m]:=A9
theorem j0(L:List Nat):(aE L).length=L.length:=Ab _
section
variable{δ:Sl}{n:Int}{Q:DQ}
theorem zG(e1:δ[1]?=ae (ae (.w .tp)))(hw:∀Q:DQ,Q (~~~m) n->w δ n Q)(h:n < 2 ^ 40)(h0:0 < m)(h1:m < 1073741824)(k:∀r:Int,0<=r->r < m->Q (~~~r) (n+1)):aH cG (aq ↥1 (aq w ao)) δ n Q:=
 bU (av e1 (hw _ (DY h h0 h1 k)))
end
theorem LV(hp:cu ps)(hf:∀P∈ps,jr P):okHs ps (d6 ps):=by
 refine⟨Ab _,λi P hi=>?_⟩;obtain⟨w,hw⟩:=hf P (A1 hi);obtain⟨b,r,rfl,hb,_⟩:=Gq.mp hw;refine⟨(0,0,[]),b,?_,rfl,Bo _,List.nodup_nil,λp hp=>(by simp at hp),List.Pairwise.nil,λk=>?_,Bo _⟩
 ·unfold d6;rw[Ax,hi];rfl
 ·show k∈([]:List Str)↔k∈kn b.1 b.2 0;unfold kn;rw[hb];simp
theorem vy(W:Wlk ps s0 L S):∀(k i:Nat){s t:Sd},i+k<=L.length->S[i]?=ae s->S[i+k]?=ae t->Wov ps s ((L.drop i).take k) t
 |0,i,s,t,h,e,e'=>by
  rw[Nat.add_zero,e]at e';cases e';rw[List.take_zero];exact .nil
 |k+1,i,s,t,h,e,e'=>by
  have hi:i < L.length:=by omega
  obtain⟨hm,s1,t1,e1,e2,ea⟩:=W.st i _ (Ah hi);rw[e]at e1;cases e1;rw[D8 hi,List.take_succ_cons];exact .cons hm ea (vy W k (i+1) ⋯ e2 (by rw[show i+1+k=i+(k+1) by omega];exact e'))
theorem oi(k:w δ n λx n1=>match iV [x]with
  |some ds=>ds.length<=1000/\Q ds n1
  |none=>False):aQ (aq w ao) δ n Q:=k
theorem yj(l)(x:α):dh (l++[x]) (-1)=ae x:=by
 have e:iQ (l++[x]).length (-1)=ae l.length:=by
  unfold iQ;rw[Af,Av,if_neg ⋯,if_pos ⋯]
  congr 1
  omega
 unfold dh;rw[e];show(l++[x])[l.length]?=ae x;rw[Bt (Al _),Gd];rfl
section
variable{δ:Sl}{n:Int}{Q:DQ}{i:Nat}
theorem VG(e:δ[i]?=ae (ae (.own (xs++[x]))))(k:Q (.d x) n):w2 (gB i) (dE ⇑1) aM δ n Q:=by
 refine ar (lP e ?_);show(match dh (xs++[x]) (-1)with|some d=>Q (.d d) n|none=>False);rw[yj];exact k
theorem FA(k:Q (.d (.bool (decide (b < a)))) n):pU (~~~a) (~~~b) n Q:=k
theorem tO(e:δ[i]?=ae (↑(.list ds)))(k:Q (~~~ds.length) n):wB dS (aq (ak i) ao) δ n Q:=aN (av e k)
end
theorem Wlk.snoc{s z r:Sd}{L:List Nat}{S:List Sd}{m:Nat}(W:Wlk ps s L (S++[z]))(okp:cu ps)(hm:m<=ps.length)(e:b6 ps z.1 z.2 m=ae r):Wlk ps s (L++[m]) (S++[z]++[r]):=by
 have hS:S.length=L.length:=by have:=W.len;rw[Af,Av]at this;omega
 have hz:(S++[z])[S.length]?=ae z:=by rw[Bt (Al _),Gd];rfl
 have hr:(S++[z]++[r])[S.length+1]?=ae r:=by rw[Bt (by rw[Af,Av];exact Al _),Af,Av,Gd];rfl
 have up:∀i x,(S++[z])[i]?=ae x->(S++[z]++[r])[i]?=ae x:=λi x h=>by rw[Ca (Ao.mp h).1];exact h
 refine⟨?_,up _ _ W.fst,λi x h=>?_,λi k h=>?_⟩
 ·rw[Af,W.len,Av,Af,Av]
 ·by_cases hi:i < (S++[z]).length
  ·rw[Ca hi]at h;exact W.ok i x h
  ·have hl:=(Ao.mp h).1;rw[Af,Af,Av,Av]at hl;rw[Af,Av]at hi;obtain rfl:i=S.length+1:=by omega
   rw[hr]at h;cases h;obtain⟨h1,h2⟩:=W.ok _ _ hz;exact rX okp h1 h2 hm e
 ·by_cases hi:i < L.length
  ·rw[Ca hi]at h;obtain⟨h1,a,b,h2,h3,h4⟩:=W.st i k h;exact⟨h1,a,b,up _ _ h2,up _ _ h3,h4⟩
  ·have hl:=(Ao.mp h).1;rw[Af,Av]at hl;obtain rfl:i=S.length:=by omega
   rw[Bt ⋯,show S.length-L.length=0 by omega]at h;cases h;exact⟨hm,z,r,up _ _ hz,hr,e⟩
theorem su(x)(nu)(q:Nt)(ns):dr (x::nu) (q::ns)=if cC q.2=ai then x::dr nu ns else dr nu ns:=by
 unfold dr;rw[Fz,Cn];dsimp only
 split<;>rfl
theorem sk(h:x∈dr nu ns):x∈nu:=by
 obtain⟨⟨a,b⟩,hp,rfl⟩:=Bg.mp h;exact(Ez (C7.mp hp).1).1
theorem JA:∀(nu:List Nat)(ns:List Nt),nu.Nodup->nu.length=ns.length->(nu.filter λx=>!decide (x∈dr nu ns)).length=(dA ns).length
 |[],[],_,_=>rfl
 |[],_::_,_,h=>nomatch h
 |_::_,[],_,h=>nomatch h
 |x::nu,q::ns,nd,hl=>by
  obtain⟨a,b⟩:=De.mp nd;have ih:=JA nu ns b (Fy hl);have hx:x∉dr nu ns:=λz=>a (sk z);have ec:(dA (q::ns)).length=(if cC q.2=ai then 0 else 1)+(dA ns).length:=by
   unfold dA;rw[Cn];cases cC q.2
   ·exact Nat.add_comm _ _
   ·exact(Ex _).symm
  rw[su,ec,<-ih];cases e:cC q.2 with
  |true=>
   rw[if_pos rfl,if_pos rfl,Cn,if_neg (by simp),Ex]
   congr 1
   refine Ga λy hy=>?_;have:y≠x:=λz=>a (z▸hy);simp[this]
  |false=>
   rw[if_neg Ae,if_neg Ae,Cn,if_pos (by simp[hx]),Ap,Nat.add_comm]
theorem qu(h:i < nu.length):eW nu (ae i)=ae nu[i]:=Ah h
theorem pL(h:i < nu.length):eu nu (ae i)=.int (nu[i]:Nat):=by
 unfold eu;rw[qu h];rfl
theorem Tj{nu:List Nat}(nd:nu.Nodup)(h:i < nu.length):(nu.filter λx=>!decide (ae x=eW nu (ae i))).length=nu.length-1:=by
 rw[qu h];have:(nu.filter λx=>!decide (ae x=ae nu[i]))=nu.erase nu[i]:=by
  rw[nd.erase_eq_filter];refine Ga λy _=>?_;by_cases z:y=nu[i]
  ·rw[<-z];simp
  ·simp[z]
 rw[this,List.length_erase_of_mem (C8 h)]
def Mg(ps:Pg)(s t:Sd)(m:Nat)(nm:Nm):Ac->Prop
 |.lay fs age=>t.2=s.2++[(cx fs nm,age)]
 |.take _=>∃i,bG ps s.1 s.2 m=ae i/\i < s.2.length/\t.2=cV s.2 i
 |.read _=>t.2=s.2/\∃i,bG ps s.1 s.2 m=ae i/\i < s.2.length
 |.look _ _=>t.2=s.2/\∀i,bG ps s.1 s.2 m=ae i->i < s.2.length
 |_=>t.2=s.2
theorem lH{s t:Sd}(okh:okHs ps s.1)(hm:m < ps.length)(af:b6 ps s.1 s.2 m=ae t):∃P xb xp nm w as a,HandAt ps s.1 m P xb xp nm w as/\bS ps s.1 m=ae a/\Mg ps s t m nm a:=by
 obtain⟨P,xb,xp,nm,w,as,H⟩:=lU okh hm;unfold b6 at af;rw[if_neg ⋯]at af;cases ea:bS ps s.1 m with
 |none=>
  unfold fk at af;rw[H.prog,H.hand,ea]at af;cases af
 |some a=>
 refine⟨P,xb,xp,nm,w,as,a,H,rfl,?_⟩;rw[t5 H ea]at af;have eg:∀gs:List Fe,a.pf=ae (gs.map Fe.fd)->bG ps s.1 s.2 m=bu (gs.map Fe.fd) nm s.2:=λgs hpf=>by
  unfold bG;rw[ea,H.nmq];show(a.pf.bind _)=_;rw[hpf];rfl
 have lt:∀{gs:List Fe}{i:Nat},bu (gs.map Fe.fd) nm s.2=ae i->i < s.2.length:=λh=>by
  obtain⟨q,hq,_⟩:=rp h;exact(Ao.mp hq).1
 cases a with
 |lay fs age=>cases af;rfl
 |go b=>cases af;rfl
 |same f g b=>cases af;rfl
 |take gs=>
  have af:(((cH gs (xb,xp,nm) s.2).map λq=>(q.2,cV s.2 q.1)).map λr=>(bK s.1 m r.1,r.2))=ae t:=af;cases ei:bu (gs.map Fe.fd) nm s.2 with
  |none=>rw[i0 ei]at af;cases af
  |some i=>rw[iZ ei]at af;cases af;exact⟨i,by rw[eg gs rfl,ei],lt ei,rfl⟩
 |read gs=>
  have af:(((cH gs (xb,xp,nm) s.2).map λq=>(q.2,s.2)).map λr=>(bK s.1 m r.1,r.2))=ae t:=af;cases ei:bu (gs.map Fe.fd) nm s.2 with
  |none=>rw[i0 ei]at af;cases af
  |some i=>rw[iZ ei]at af;cases af;exact⟨rfl,i,by rw[eg gs rfl,ei],lt ei⟩
 |look gs b=>
  have af:((match cH gs (xb,xp,nm) s.2 with|some q=>ae (q.2,s.2)|none=>ae (cv P b nm,s.2):Option (Hn×List Nt)).map λr=>(bK s.1 m r.1,r.2))=ae t:=af;refine⟨?_,λi h=>lt (by rw[<-eg gs rfl];exact h)⟩;cases ei:bu (gs.map Fe.fd) nm s.2 with
  |none=>rw[i0 ei]at af;cases af;rfl
  |some i=>rw[iZ ei]at af;cases af;rfl
theorem lS:aI ps s nu fr ps.length=(.tuple [.str "clock",.tuple (aE (dr nu s.2))],nu.filter (λx=>!decide (x∈dr nu s.2)),fr):=by unfold aI;nofun
theorem lr(hm:m < ps.length)(ea:bS ps s.1 m=ae a):aI ps s nu fr m=jl ps s nu fr m a:=by
 unfold aI;rw[if_neg ⋯,ea]
theorem zA(B:okBd ps s t nu fr m):okNu t (aI ps s nu fr m).2.1 (aI ps s nu fr m).2.2/\(aI ps s nu fr m).2.2<=fr+1:=by
 obtain⟨st,⟨nd,len,lt⟩,le,af⟩:=B;by_cases em:m=ps.length
 ·subst em;unfold b6 at af;rw[if_pos rfl]at af;cases af;rw[lS];exact⟨⟨nd.filter _,JA nu s.2 nd len,λx hx=>lt x (C7.mp hx).1⟩,Nat.le_succ _⟩
 ·have hm:m < ps.length:=by omega
  obtain⟨P,xb,xp,nm,w,as,a,H,ea,T⟩:=lH st.2.1 hm af;rw[lr hm ea];cases a with
  |lay fs age=>
   have T:t.2=s.2++[(cx fs nm,age)]:=T;refine⟨⟨?_,?_,λx hx=>?_⟩,Al _⟩
   ·exact List.nodup_append.mpr ⟨nd,De.mpr ⟨An,List.nodup_nil⟩,λx hx y hy e=>by rw[Bc.mp hy]at e;have:=lt x hx;omega⟩
   ·show(nu++[fr]).length=t.2.length;rw[T,Af,Af,len];rfl
   ·rcases Bd.mp hx with hx|hx
    ·exact Nat.lt_succ_of_lt (lt x hx)
    ·rw[Bc.mp hx];exact Nat.lt_succ_self _
  |take gs=>
   obtain⟨i,eg,hi,T⟩:=T;refine⟨⟨nd.filter _,?_,λx hx=>lt x (C7.mp hx).1⟩,Nat.le_succ _⟩;show(nu.filter λx=>!decide (ae x=eW nu (bG ps s.1 s.2 m))).length=_;rw[eg,Tj nd ⋯,T];unfold cV;rw[Af,Cz,B5];omega
  |read gs=>exact⟨⟨nd,by rw[T.1];exact len,lt⟩,Nat.le_succ _⟩
  |look gs b=>exact⟨⟨nd,by rw[T.1];exact len,lt⟩,Nat.le_succ _⟩
  |go b=>exact⟨⟨nd,by rw[show t.2=s.2 from T];exact len,lt⟩,Nat.le_succ _⟩
  |same f g b=>exact⟨⟨nd,by rw[show t.2=s.2 from T];exact len,lt⟩,Nat.le_succ _⟩
theorem rY(h:Lgs ps s nu fr L R):R.length=L.length:=by
 induction h with
 |nil=>rfl
 |cons _ _ _ ih=>rw[Ap,Ap,ih]
theorem SI(h:Wov ps s L t):∀nu fr,∃R,Lgs ps s nu fr L R:=by
 induction h with
 |nil=>exact λ_ _=>⟨[],.nil⟩
 |cons a b _ ih=>
  intro nu fr;obtain⟨R,h⟩:=ih (aI ps _ nu fr _).2.1 (aI ps _ nu fr _).2.2;exact⟨_,.cons a b h⟩
theorem yR{i:Nat}(h:i<=99):Sm 0 20 (.int i):=l6 (hX ⋯ ⋯)
theorem sm_none:Sm 0 20 .none:=⟨rfl,Al _,by decide,rfl,rfl⟩
theorem Vv(h:(decide (x.length<=8)&&Ep x)=ai):Sm 0 20 (.str x):=by
 rw[A2]at h;have h1:x.cps.size<=8:=of_decide_eq_true h.1;refine⟨?_,by rw[Bv];exact Al _,?_,by rw[Dt],by rw[Dn]⟩
 ·rw[B1];exact h.2
 ·rw[Ea];omega
theorem zh(s:Sd):okNu s (A8 s.2.length) s.2.length:=⟨List.nodup_range,C2,λ_ hx=>Ce.mp hx⟩
theorem Jy(ha:fR a)(k:Q (.d (.bool (cC a))) n):a9 (.d a) (~~~1) n Q:=by
 rcases ha with rfl|⟨i,rfl,_⟩
 ·exact k
 ·exact k
theorem T5:b9 ua HQ ["plan"]:=λws n Q h=>by
 obtain⟨ps,ns,rfl,hp,k⟩:=h;show HQ [↑(.tuple [bf ps,bH ns])] n _;refine bb (cz (aN (bc (jO (ds:=ps.map d5) (λQ q=>ar (av rfl (aD (cP q)))) ?_))));show di _ _ _ _ _ _ [ah] n;refine pP d5 (λ_=>bR (0,0,[])) ps ah n (λP hP n Q' q=>gQ (aD (aD (show aA ao _ _ _ from Aj ∎ (Aj (show 3<=1000 by decide) q))))) ?_;refine(show fq _ _ _ from aN (ar (av rfl (aD (bN (i:=1) rfl (show fq [.d (.tuple (ns.map cS))] _ _ from Aj (show 2<=1000 by decide) ?_))))));have e:(d6 ps).map bR=ps.map λ_=>bR (0,0,[]):=by unfold d6;rw[Df];rfl
 unfold de at k;rw[e]at k;exact k
theorem Su:b9 rf EW ["plan","many"]:=λws n Q h=>by
 obtain⟨ps,ns,rfl,hp,hn,k⟩:=h;show EW [↑(.tuple [bf ps,bH ns]),ah] n _;refine aB (bx (x:=.int ns.length) (λQ q=>aN (dI rfl (show Q (~~~((ns.map cS).length:Nat)) n by rw[Ab];exact q))) ?_);ac_nf;exact bb (gQ (cJ (av rfl ⟨ps,ns,rfl,hp,(show vI _ _ _ _ from av rfl ⟨ns.length,rfl,by omega,av rfl (Aj (show 3<=1000 by decide) k)⟩)⟩)))
theorem DJ:∀(ns:List Nt)(nu:List Nat)(acc:List Aa)(x y:Option SV)(n:Int),nu.length=ns.length->(∀q∈ns,fR q.2)->Q (acc++aE (dr nu ns)) n->
  di ⇑1012 (cT (w2 (w2 ↥0 ⇑1 az) ⇑1 a9)) ↥1 Q (dv (ns.map cS) (aE nu)) acc [x,y] n
 |[],[],acc,x,y,n,_,_,q=>by
  rw[show aE (dr [] [])=[]from rfl,Bm]at q;exact q
 |[],_::_,_,_,_,_,h,_,_=>nomatch h
 |_::_,[],_,_,_,_,h,_,_=>nomatch h
 |q::ns,i::nu,acc,x,y,n,hl,h,k=>by
  have ih:=λacc x y k=>DJ (Q:=Q) ns nu acc x y n (Fy hl) (λq hq=>h q (Au _ hq)) k;refine(show dq 2 _ (.tuple [cS q,.int i]) [x,y] _ from⟨rfl,?_⟩);grind;refine aC (k:=cC q.2) (λQ q'=>ar (dI (a:=.tuple q.1) (b:=q.2) (r:=[]) rfl (aD (Jy (h q As) q')))) ?_;rw[su]at k;refine l4 (λz=>?_) λz=>?_
  ·rw[if_pos z]at k;exact av rfl (ih _ _ _ (by rw[Bh];exact k))
  ·rw[if_neg (by rw[z];exact Ae)]at k;exact ih _ _ _ k
theorem Nh:b9 yk Jd ["board","gone"]:=λws n Q h=>by
 obtain⟨s,nu,fr,rfl,hl,ha,k⟩:=h;show Jd [↑(dP s nu fr),ah] n _;refine aB (show aF 1 _ _ _ _ from bc ?_);unfold cW lN;refine ar (dj (a:=bJ s) rfl (aD (d4 (a:=.tuple (s.1.map bR)) (b:=bH s.2) (r:=[]) (dI (b:=.tuple (aE nu)) rfl (Aj ?_ ?_)))))
 ·rw[Ab,j0,hl]
 show di _ _ _ _ _ _ [ah,ah] n;refine DJ s.2 nu [] ah ah n hl ha ?_;dsimp only[Am,Bx];exact bb (cz (aD (aN (av rfl (pT (Aj (show 2<=1000 by decide) k))))))
abbrev qf:List (Str×Str):=[("take","takes"),("read","reads"),("look","looks")]
theorem IT{D:List (Str×Str)}(hw:∀Q:DQ,Q (.d (.str s)) n->w δ n Q)(e:(!(Be s D).isSome)=b)(q:Q b n):cT (pV D w) δ n Q:=by
 refine hw _ ?_;show Q (!(Be s D).isSome) n;rw[e];exact q
theorem LK{D:List (Str×Str)}(hw:∀Q:DQ,Q (.d (.str s)) n->w δ n Q)(e:Be s D=ae r)(hl:r.length<=1000)(q:Q (.d (.str r)) n):jt D w δ n Q:=by
 refine hw _ ?_;dsimp only;rw[e];exact⟨hl,q⟩
theorem LA(k:Q (.d x) n):az ‹(xs++[x])› (~~~(-1)) n Q:=by
 show(match dh (xs++[x]) (-1)with|some d=>Q (.d d) n|none=>False);rw[yj];exact k
theorem OU(k:Q (.d x) n):dE (wC (.int 1)) δ n (λy n2=>az ‹(xs++[x])› y n2 Q):=LA k
theorem tU{h:Str}(h1:h≠"clock")(h2:h≠"takes"):ik (.tuple (.str h::r))=[]:=by simp only[ik,if_neg h1,if_neg h2]
theorem SK{nu:List Nat}(hi:i < nu.length)(k:Q (.d (eu nu (ae i))) n):az ‹(aE nu)› (~~~i) n Q:=by
 rw[pL hi]at k;exact bN (by unfold aE;rw[Ax,Ah hi];rfl) k
theorem L9:b9 vh GG ["programs","board","hand","behind","act","place"]:=λws n Q h=>by
 obtain⟨ps,s,t,nu,fr,m,rfl,B,hm,k⟩:=h;obtain⟨P,xb,xp,nm,w,as,a,H,ea,T⟩:=lH B.st.2.1 hm B.af;rw[lr hm ea]at k;show GG [↑(bf ps),↑(dP s nu fr),↑(.int m),↑(bJ t),ah,ah] n _;refine aB (bx (x:=a.d) (λQ q=>bX (av rfl (dj (a:=bJ s) rfl (av rfl ⟨ps,s.1,s.2,m,rfl,B.st.2.1,hm,by rw[ea];exact q⟩)))) ?_);ac_nf;have go:∀(x:Str)(r:List Aa),aZ "lay" (.str x)=aj->(!(Be x qf).isSome)=ai->a.d=.tuple (.str x::r)->Q ‹[.str "goes",.int m]› n->
   (au ⇑1003 (au ⇑1005 (au (aF 5 (aH nz ⇑1010)) ⇑1001)))
    [↑(bf ps),↑(dP s nu fr),↑(.int m),↑(bJ t),↑a.d,ah] n {nx:=λ_ n=>Q (.d .none) n,rt:=Q}:=λx r h1 h2 e q=>by
  rw[e];refine aB (eY (a:=.str x) rfl h1 ?_);ac_rfl;exact aB (bB (λQ q=>IT (λQ q=>dj rfl q) h2 q) (bb (cz (aD (av rfl (Aj (show 2<=1000 by decide) q))))))
 have get:∀(x y:Str)(r:List Aa),aZ "lay" (.str x)=aj->Be x qf=ae y->y.length<=1000->(∀i,bG ps s.1 s.2 m=ae i->i < s.2.length)->a.d=.tuple (.str x::r)->Q ‹[.str y,.int m,eu nu (bG ps s.1 s.2 m)]› n->
   (au ⇑1003 (au ⇑1005 (au (aF 5 (aH nz ⇑1010)) ⇑1001)))
    [↑(bf ps),↑(dP s nu fr),↑(.int m),↑(bJ t),↑a.d,ah] n {nx:=λ_ n=>Q (.d .none) n,rt:=Q}:=λx y r h1 h2 h3 lt e q=>by
  rw[e];refine aB (eY (a:=.str x) rfl h1 ?_);ac_rfl;refine aB (aT (λQ q=>IT (λQ q=>dj rfl q) (by rw[h2];rfl) q) ?_);ac_rfl;refine aB (bx (x:=cf (bG ps s.1 s.2 m)) (λQ q=>bX (av rfl (dj (a:=bJ s) rfl (av rfl ⟨ps,s.1,s.2,m,rfl,B.st,hm,q⟩)))) ?_);ac_nf;refine bb (gQ (LK (λQ q=>dj rfl q) h2 h3 (av rfl ?_)));cases eg:bG ps s.1 s.2 m with
  |none=>
   rw[eg]at q;exact fP (b:=ai) (λQ q=>aC (k:=ai) (λQ q=>ar (av rfl (aD (dY q)))) q) (by nofun;exact aD (Aj (show 3<=1000 by decide) q))
  |some i=>
   rw[eg]at q;have hi:i < nu.length:=by rw[B.nu.len];exact lt i eg
   exact fP (b:=aj) (λQ q=>aC (k:=aj) (λQ q=>ar (av rfl (aD (dY q)))) q) (by rw[if_neg Ae];exact ar (dI (b:=.tuple (aE nu)) rfl (av rfl (SK hi (Aj (show 3<=1000 by decide) q)))))
 cases a with
 |lay fs age=>
  have T:t.2=s.2++[(cx fs nm,age)]:=T;have k:Q ‹[.str "lays",.int m,.int fr,cS (cx fs (js s.1 m),age)]› n:=k;rw[H.nmq]at k;refine aB (jE (a:=.str "lay") rfl ∅ ?_);refine bb (xZ (aD (av rfl (ar (av rfl (aD (eB (ar (dI (a:=.tuple (t.1.map bR)) (b:=bH t.2) (r:=[]) rfl ?_)))))))));unfold bH;rw[T,A9];exact OU (xs:=s.2.map cS) (x:=cS (cx fs nm,age)) (Aj (show 4<=1000 by decide) k)
 |take gs=>obtain⟨i,eg,hi,_⟩:=T;exact get "take" "takes" _ ∅ ∅ ∅ (λj h=>by rw[eg]at h;cases h;exact hi) rfl k
 |read gs=>obtain⟨_,i,eg,hi⟩:=T;exact get "read" "reads" _ ∅ ∅ ∅ (λj h=>by rw[eg]at h;cases h;exact hi) rfl k
 |look gs b=>exact get "look" "looks" _ ∅ ∅ ∅ T.2 rfl k
 |same f g b=>exact go "same" _ ∅ ∅ rfl k
 |go b=>exact go "go" _ ∅ ∅ rfl k
theorem TN:b9 vX AS ["programs","board","mover","behind"]:=λws n Q h=>by
 obtain⟨ps,s,t,nu,fr,m,rfl,B,k⟩:=h;show AS [↑(bf ps),↑(dP s nu fr),↑(.int m),↑(bJ t)] n _;refine aB (eF (aC (k:=decide ((m:Int)=(ps.length:Nat))) (λQ q=>ar (av rfl (aN (av rfl ?_)))) ?_))
 ·show Q (.d (.bool (decide ((m:Int)=((ps.map d5).length:Nat))))) n;rw[Ab];exact q
 by_cases em:m=ps.length
 ·subst em;rw[lS]at k;show if decide _=ai then _ else _
  rw[if_pos (decide_eq_true rfl)];exact bb (cJ (av rfl ⟨s,nu,fr,rfl,B.nu.len,λq hq=>(B.st.2.2.2 q hq).2,k⟩))
 ·show if decide _=ai then _ else _
  rw[if_neg (by rw[decide_eq_false ⋯];exact Ae)];ac_rfl;exact bb (j5 (av rfl (av rfl (av rfl (av rfl ⟨ps,s,t,nu,fr,m,rfl,B,by have:=B.le;omega,k⟩)))))
theorem BU(z:x≠h):aZ h (.str x)=aj:=decide_eq_false z
theorem O5:b9 qN z9 ["row"]:=λws n Q h=>by
 obtain⟨row,rfl,ok,k⟩:=h;show z9 [↑row] n _;cases row with
 |tuple l=>cases l with
  |nil=>exact ok.elim
  |cons d r=>cases d with
   |str h=>
    rcases ok with⟨rfl,l,rfl⟩|⟨rfl,a,b,rfl⟩|⟨h1,h2⟩
    ·have k:Q ‹l› n:=k;exact aB (jE (a:=.str "clock") rfl ∅ (bb (dI rfl k)))
    ·have k:Q ‹[b]› n:=k;refine aB (eY (a:=.str "takes") rfl ∅ ?_);ac_rfl;exact bb (fP (b:=ai) (λQ q=>aC (λQ q=>jy (a:=.str "takes") rfl (by rw[show aZ "takes" (.str "takes")=ai by decide +kernel];exact q)) q) (by nofun;exact jX (ar (av rfl (aD (eB (Aj (show 1<=1000 by decide) k)))))))
    ·rw[tU h1 h2]at k;refine aB (eY (a:=.str h) rfl (BU h1) ?_);ac_rfl;exact bb (fP (b:=aj) (λQ q=>aC (λQ q=>jy (a:=.str h) rfl (by rw[BU h2];exact q)) q) (by rw[if_neg Ae];exact(show aA ao _ _ _ from Aj ∎ k)))
   |_=>exact ok.elim
 |_=>exact ok.elim
theorem HJ(l):(aE l).all fL=ai:=by
 rw[Dh];intro d hd;obtain⟨i,_,rfl⟩:=Bg.mp hd;rfl
theorem vH(x:Nat):∀l:List Nat,b8 (.int x) (aE l)=decide (x∈l)
 |[]=>rfl
 |y::l=>by
  show(((y:Int)==(x:Int)) || b8 (.int x) (aE l))=_;rw[vH x l];by_cases e:x=y
  ·subst e;simp
  ·have:((y:Int)==(x:Int))=aj:=by simp;omega
   simp[this,e]
theorem OL(x i:Nat):b8 (.int x) [.int i]=decide (ae x=ae i):=by
 show(((i:Int)==(x:Int)) || false)=_;by_cases e:x=i
 ·subst e;simp
 ·have h1:((i:Int)==(x:Int))=aj:=by simp;omega
  rw[h1,decide_eq_false λz=>e (A7 z)];rfl
theorem OZ(nu:List Nat)(hf:wl.all fL=ai)(q:Q (aE (nu.filter λx=>!b8 (.int x) wl)) n):
  di (aJ 0) (cT (w2 ↥0 ↥1 (gN ai))) ↥0 Q (aE nu) [] [ah,↑(.tuple wl)] n:=
 jS (λi:Nat=>.int i) (λi:Nat=>.int i) (λx=>!b8 (.int x) wl) nu [] ah n (λa _ n Q' q=>aC (k:=!b8 (.int a) wl) (λQ q=>ar (av rfl (av rfl (Aj rfl (Aj hf q))))) q) (λa _ n Q' q=>av rfl q) (by rw[Bx];exact q)
theorem rM(hr:ku row)(hf:(ik row).all fL=ai)
  (k:(au (aL ⇑1019 (aw (aA (aq ↥2 (aq ⇑1031 (aq (w2 (w2 ↥0 ⇑2 az) ⇑1 (c6 λi j=>.int (i+j))) ao))))) aG) ⇑1022)
   [↑(dP s nu fr),↑row,↑(bJ t),↑(.tuple (ik row)),↑(.tuple (aE (nu.filter λx=>!b8 (.int x) (ik row))))] n K):
  rq [↑(dP s nu fr),↑row,↑(bJ t),ah,ah] n K:=by
 refine aB (bx (x:=.tuple (ik row)) (λQ q=>cJ (av rfl ⟨row,rfl,hr,q⟩)) ?_);ac_nf;refine aB (bx (x:=.tuple (aE (nu.filter λx=>!b8 (.int x) (ik row)))) (λQ q=>aN (bc (jO (ds:=aE nu) (λQ q=>dI rfl q) ?_))) k);show di _ _ _ _ _ _ [ah,↑(.tuple (ik row))] n;exact OZ nu hf (pT q)
theorem BK(nu:List Nat):(nu.filter λx:Nat=>!b8 (.int (x:Int)) [])=nu:=Gu.mpr λ_ _=>rfl
theorem Sz:b9 xi rq ["board","row","behind","went","numbers"]:=λws n Q h=>by
 obtain⟨ps,s,t,nu,fr,m,rfl,B,hl,k⟩:=h;show rq [↑(dP s nu fr),ae (.w (.d (aI ps s nu fr m).1)),↑(bJ t),ah,ah] n _;have tail:∀(x:Str)(r:List Aa)(nu':List Nat),aZ "lays" (.str x)=aj->Q (.d (dP t nu' fr)) n->∀wl,(au (aL ⇑1019 (aw (aA (aq ↥2 (aq ⇑1031 (aq (w2 (w2 ↥0 ⇑2 az) ⇑1 (c6 λi j=>.int (i+j))) ao))))) aG) ⇑1022)
   [↑(dP s nu fr),↑(.tuple (.str x::r)),↑(bJ t),↑wl,↑(.tuple (aE nu'))] n {nx:=λ_ n=>Q (.d .none) n,rt:=Q}:=λx r nu' h1 q wl=>by
  refine aB (eY (a:=.str x) rfl h1 ?_);ac_rfl;exact bb (gQ (av rfl (av rfl (ar (av rfl (aD (eB (Aj (show 3<=1000 by decide) q))))))))
 by_cases em:m=ps.length
 ·subst em;rw[lS]at k ⊢;refine rM (.inl ⟨rfl,_,rfl⟩) (HJ _) ?_;refine tail "clock" _ _ ∅ ?_ _;rw[show(λx:Nat=>!b8 (.int x) (ik (.tuple [.str "clock",.tuple (aE (dr nu s.2))])))=λx=>!decide (x∈dr nu s.2)from funext λx=>by rw[<-vH];rfl];exact k
 ·have hm:m < ps.length:=by have:=B.le;omega
  obtain⟨P,xb,xp,nm,w,as,a,H,ea,T⟩:=lH B.st.2.1 hm B.af;rw[lr hm ea]at k ⊢;have oth:∀(x:Str)(r:List Aa),x≠"clock"->x≠"takes"->aZ "lays" (.str x)=aj->Q (.d (dP t nu fr)) n->rq [↑(dP s nu fr),↑(.tuple (.str x::r)),↑(bJ t),ah,ah] n {nx:=λ_ n=>Q (.d .none) n,rt:=Q}:=λx r h1 h2 h3 q=>by
   have e:ik (.tuple (.str x::r))=[]:=tU h1 h2;refine rM (.inr (.inr ⟨h1,h2⟩)) (by rw[e];rfl) ?_;rw[e,BK];exact tail x r _ h3 q _
  cases a with
  |lay fs age=>
   dsimp only[jl]at k ⊢;have e:ik (.tuple [.str "lays",.int m,.int fr,cS (cx fs (js s.1 m),age)])=[]:=tU ∎ ∎;refine rM (.inr (.inr ⟨by decide,by decide⟩)) (by rw[e];rfl) ?_;rw[e,BK];refine aB (jE (a:=.str "lays") rfl ∅ ?_);refine bb (gQ (av rfl (ar (av rfl (jX (ar (av rfl (aD (eB (Aj (show 1<=1000 by decide) (gH (by rw[j0,Av];omega) ?_)))))))))));refine ar (ar (av rfl (aD (eB (aD (du (Aj (show 3<=1000 by decide) ?_)))))));have k:Q ‹[bJ t,.tuple (aE (nu++[fr])),.int ((fr+1:Nat):Int)]› n:=k;rw[xx]at k;exact k
  |take gs=>
   obtain⟨i,eg,hi,_⟩:=T;dsimp only[jl]at k ⊢;have hi':i < nu.length:=by rw[B.nu.len];exact hi
   have ed:eu nu (bG ps s.1 s.2 m)=.int (nu[i]:Nat):=by rw[eg];exact pL hi'
   refine rM (.inr (.inl ⟨rfl,_,_,rfl⟩)) (show[eu nu (bG ps s.1 s.2 m)].all fL=ai by rw[ed];rfl) ?_;refine tail "takes" _ _ ∅ ?_ _;have en:eW nu (bG ps s.1 s.2 m)=ae nu[i]:=by rw[eg];exact qu hi'
   rw[show(λx:Nat=>!b8 (.int x) (ik (.tuple [.str "takes",.int m,eu nu (bG ps s.1 s.2 m)])))=λx:Nat=>!decide (ae x=eW nu (bG ps s.1 s.2 m))from funext λx=>by rw[en,<-OL,ed];rfl];exact k
  |read gs=>exact oth "reads" _ ∎ ∎ ∅ k
  |look gs b=>exact oth "looks" _ ∎ ∎ ∅ k
  |same f g b=>exact oth "goes" _ ∎ ∎ ∅ k
  |go b=>exact oth "goes" _ ∎ ∎ ∅ k
theorem OT:b9 rk AQ ["programs","board","mover","behind","row"]:=λws n Q h=>by
 obtain⟨ps,s,nu,fr,b,rfl,ok,okn,k⟩:=h;show AQ [↑(bf ps),↑(dP s nu fr),↑b,ah,ah] n _;unfold kF at k;have call:∀Q:DQ,Q (.d (ia (ig ps s.1 s.2 b))) n->aH o6 ⇑1010 [↑(bf ps),↑(dP s nu fr),↑b,ah,ah] n Q:=λQ q=>bX (av rfl (dj (a:=bJ s) rfl (av rfl ⟨ps,s.1,s.2,b,rfl,ok,q⟩)));cases ea:ig ps s.1 s.2 b with
 |none=>
  rw[ea]at k call;refine aB (bx (x:=.none) call ?_);ac_nf;exact aB (bB (λQ q=>aC (k:=ai) (λQ q=>ar (av rfl (aD q))) q) (bb (aD k)))
 |some t=>
  rw[ea]at k call;obtain⟨m,em,af⟩:=Option.bind_eq_some_iff.mp ea;obtain⟨rfl,hm⟩:=rE em;have en:fw ps (.int m)=m:=by unfold fw;rw[em];rfl
  rw[en]at k;have B:okBd ps s t nu fr m:=⟨ok,okn,hm,af⟩;refine aB (bx (x:=bJ t) call ?_);ac_nf;refine aB (aT (λQ q=>aC (k:=aj) (λQ q=>ar (av rfl (aD (dY q)))) q) ?_);ac_rfl;refine aB (bx (x:=(aI ps s nu fr m).1) (λQ q=>j5 (av rfl (av rfl (av rfl (av rfl ⟨ps,s,t,nu,fr,m,rfl,B,q⟩))))) ?_);ac_nf;exact bb (cz (av rfl (bX (av rfl (av rfl (av rfl ⟨ps,s,t,nu,fr,m,rfl,B,by rw[B.nu.len];have:=B.st.2.2.1;omega,Aj (show 2<=1000 by decide) k⟩))))))
structure LgI(ps:Pg)(R:List Aa)(s:Sd)(nu:List Nat)(fr:Nat)(M:List Nat)(R0 R1:List Aa):Prop where
 okh:okHs ps s.1
 okn:cO (100-M.length) s.2
 hl:M.length<=40
 nk:okNu s nu fr
 lg:Lgs ps s nu fr M R1
 eq:R0++R1=R
theorem LgI.step(okp:cu ps)(I:LgI ps R s nu fr (m::M) R0 R1):∃t R2,okBd ps s t nu fr m/\LgI ps R t (aI ps s nu fr m).2.1 (aI ps s nu fr m).2.2 M (R0++[(aI ps s nu fr m).1]) R2:=by
 obtain⟨okh,okn,hl,hn,lg,eq⟩:=I;rw[Ap]at okn hl;cases lg with
 |@cons _ t _ _ _ _ R2 hm af lg=>
  have B:okBd ps s t nu fr m:=⟨⟨okp,okh,A4 okn.1 ⋯,okn.2⟩,hn,hm,af⟩;obtain⟨k1,k2⟩:=rX okp okh okn hm af;exact⟨t,R2,B,k1,⟨A4 k2.1 ⋯,k2.2⟩,by omega,(zA B).1,lg,by rw[Bh];exact eq⟩
theorem LgI.lt{R:List Aa}{s:Sd}{nu:List Nat}{fr:Nat}{M:List Nat}{R0 R1:List Aa}(I:LgI ps R s nu fr M R0 R1)(h:R.length<=1000):R0.length < 1000000:=by
 have:=congrArg F2 I.eq;rw[Af]at this;omega
theorem mK(h:jG ps ns L R):LgI ps R (d6 ps,ns) (A8 ns.length) ns.length L [] R:=by
 obtain⟨okp,okh,okn,hl,hL⟩:=h;have:=okn.1;exact⟨okh,⟨by show ns.length<=_;omega,okn.2⟩,by omega,zh (d6 ps,ns),hL,rfl⟩
theorem yn(a)(M):aE (a::M)=.int a::aE M:=rfl
theorem vA(hw:∀Q:DQ,Q (.d (.list ds)) n->w δ n Q)(k:di g c e Q ds [] (jZ fr δ) n):cW fr (fU w) g c e δ n Q:=by
 unfold cW fU;exact hw _ k
def oG(ns:List Nt)(k:Nat):Bool:=((ns[k]?).map λq=>cC q.2).getD aj
def nv(nu:List Nat)(k:Nat):Aa:=.int ((nu[k]?).getD 0:Nat)
theorem Ie:∀(nu:List Nat)(ns:List Nt),nu.length=ns.length->((A8 nu.length).filter (oG ns)).map (nv nu)=aE (dr nu ns)
 |[],[],_=>rfl
 |[],_::_,h=>nomatch h
 |_::_,[],h=>nomatch h
 |x::nu,q::ns,h=>by
  have ih:=Ie nu ns (Fy h);have e:((List.map Nat.succ (A8 nu.length)).filter (oG (q::ns))).map (nv (x::nu))=((A8 nu.length).filter (oG ns)).map (nv nu):=by
   rw[List.filter_map,Df];rfl
  rw[Ap,List.range_succ_eq_map,Cn,su];show(if cC q.2=ai then _ else _:List Nat).map (nv (x::nu))=_
  split
  ·rw[Ba,e,ih];rfl
  ·rw[e,ih]
theorem Mw(h:xs[i]?=ae x)(k:Q (.d x) n):pH (.d (.list xs)) (~~~(i:Nat)) n Q:=U8 (by
 show(match dh xs ((i:Nat):Int)with|some d=>Q (.d d) n|none=>False);rw[fQ h];exact k)
theorem Jr(h:i < nu.length):(aE nu)[i]?=ae (.int (nu[i]:Nat)):=by unfold aE;rw[Ax,Ah h];rfl
theorem N4(e:δ[i]?=ae (↑(.list ds)))(k:Q (~~~ds.length) n):wB bg (aq (ak i) ao) δ n Q:=aN (av e k)
theorem TU(h:x.length+y.length<=Ay)(k:Q (.d (.str (x++y))) n):gF (.d (.str x)) (.d (.str y)) n Q:=⟨h,k⟩
theorem wN(k:w δ n λx n1=>w' δ n1 λy n2=>w'' δ n2 λz n3=>v δ n3 λa n4=>u δ n4 λb n5=>S [x,y,z,a,b] n5 Q):aH S (aq w (aq w' (aq w'' (aq v (aq u ao))))) δ n Q:=k
theorem bI{W V:aR}(hc:∀Q:Bool->Int->Prop,Q aj n->C δ n Q)(k:V δ n K):au (aL C W aG) V δ n K:=aB (aT hc k)
theorem cg{U V:aR}(hc:∀Q:Bool->Int->Prop,Q ai n->C δ n Q)(k:w δ n K.rt):au (aL C (aw w) U) V δ n K:=aB (bB hc (bb k))
theorem VO:b9 nP FZ ["thing"]:=λws n Q h=>by
 obtain⟨d,rfl,sd,k⟩:=h;show FZ [↑d] n _;have isn:∀b,iW d=b->∀Q:Bool->Int->Prop,Q b n->cT (w2 ↥0 (wC .none) (bC aj)) [↑d] n Q:=λb e Q q=>aC (k:=b) (λQ q=>ar (av rfl (aD (show Q (.d (.bool (iW d))) n by rw[e];exact q)))) q;have isi:∀(T:String) b,dw T d=b->∀Q:Bool->Int->Prop,Q b n->cT (bF T ↥0) [↑d] n Q:=λT b e Q q=>aC (k:=b) (λQ q=>av rfl (show Q (.d (.bool (dw T d))) n by rw[e];exact q)) q;cases d with
 |none=>exact cg (isn ai rfl) (aD k)
 |bool b=>exact bI (isn aj rfl) (cg (isi "bool" ai rfl) (aD k))
 |int i=>exact bI (isn aj rfl) (bI (isi "bool" aj rfl) (cg (isi "int" ai rfl) (aD k)))
 |str x=>exact bI (isn aj rfl) (bI (isi "bool" aj rfl) (bI (isi "int" aj rfl) (cg (isi "str" ai rfl) (aD k))))
 |tuple xs=>exact bI (isn aj rfl) (bI (isi "bool" aj rfl) (bI (isi "int" aj rfl) (bI (isi "str" aj rfl) (bb (fP (b:=ai) (isi "tuple" ai rfl) (by nofun;exact aD k))))))
 |list xs=>exact bI (isn aj rfl) (bI (isi "bool" aj rfl) (bI (isi "int" aj rfl) (bI (isi "str" aj rfl) (bb (fP (b:=aj) (isi "tuple" aj rfl) (by rw[if_neg Ae];exact aD k))))))
 |dict _=>rw[bA]at sd;cases sd
theorem LW(k:Q (.d (.bool (!decide (x=y)))) n):cL (.d (.str x)) (.d (.str y)) n Q:=k
theorem K2(hk:jc x=jc y)(nx:dH x=ai)(sx:bA x=ai)(sy:bA y=ai)(tx:ni x=aj):Cc x y=gx x y:=by
 cases x with
 |none=>
  cases y with
  |none=>rw[j8 rfl];simp[Cc]
  |dict _=>rw[bA]at sy;cases sy
  |_=>simp only[jc]at hk;exact absurd hk ∅
 |bool b=>
  cases y with
  |bool c=>
   by_cases e:b=c
   ·subst e;rw[j8 rfl];simp[Cc]
   ·rw[jY λz=>e (PyData.bool.inj z)];simp[Cc,e]
  |dict _=>rw[bA]at sy;cases sy
  |_=>simp only[jc]at hk;exact absurd hk ∅
 |int i=>
  cases y with
  |int j=>
   by_cases e:i=j
   ·subst e;rw[j8 rfl];simp[Cc]
   ·rw[jY λz=>e (PyData.int.inj z)];simp[Cc,e]
  |dict _=>rw[bA]at sy;cases sy
  |_=>simp only[jc]at hk;exact absurd hk ∅
 |str i=>
  cases y with
  |str j=>
   by_cases e:i=j
   ·subst e;rw[j8 rfl];simp[Cc]
   ·rw[jY λz=>e (Ey z)];simp[Cc,e]
  |dict _=>rw[bA]at sy;cases sy
  |_=>simp only[jc]at hk;exact absurd hk ∅
 |tuple xs=>cases tx
 |list xs=>cases tx
 |dict _=>rw[bA]at sx;cases sx
theorem Lv(sx:bA x=ai)(tx:ni x=aj):Bv x<=20:=by
 cases x with
 |tuple xs=>cases tx
 |list xs=>cases tx
 |dict _=>rw[bA]at sx;cases sx
 |_=>rw[Bv];exact Bo _
theorem AA:∀{xs:List Aa},kI xs=ai->∀x∈xs,dH x=ai
 |[],_,x,hx=>nomatch hx
 |y::xs,h,x,hx=>by
  rw[kI,A2]at h;rcases Aq.mp hx with rfl|hx
  ·exact h.1
  ·exact AA h.2 x hx
theorem nZ:∀{xs:List Aa},E2 xs=ai->∀x∈xs,B1 x=ai
 |[],_,x,hx=>nomatch hx
 |y::xs,h,x,hx=>by
  rw[E2,A2]at h;rcases Aq.mp hx with rfl|hx
  ·exact h.1
  ·exact nZ h.2 x hx
def oB(xs ys:List Aa):List Bool:=List.zipWith gx xs ys
theorem DK:∀{xs ys:List Aa},xs.length=ys.length->(oB xs ys).all id=gx (.tuple xs) (.tuple ys)
 |[],[],_=>by rw[j8 rfl];rfl
 |x::xs,y::ys,h=>by
  have ih:=DK (xs:=xs) (ys:=ys) (Fy h);show(gx x y&&(oB xs ys).all id)=_;rw[ih];by_cases e:x=y
  ·rw[j8 e,Gm];by_cases e2:xs=ys
   ·rw[j8 (by rw[e2]),j8 (by rw[e,e2])]
   ·rw[jY λz=>e2 (Cj z),jY λz=>e2 (Bk (Cj z)).2]
  ·rw[jY e,Bool.false_and,jY λz=>e (Bk (Cj z)).1]
theorem GP:∀(xs ys:List Aa)(acc:List Aa)(u v:Option SV)(n:Int),xs.length=ys.length->
  (∀x∈xs,dH x=ai/\bA x=ai/\Bv x<=d/\B1 x=ai)->(∀y∈ys,bA y=ai/\Bv y<=20/\B1 y=ai)->Q (acc++(oB xs ys).map .bool) n->
  di ⇑1012 df (aH (ki (d+1)) (aq ↥0 (aq ↥1 ao))) Q (dv xs ys) acc [u,v] n
 |[],[],acc,u,v,n,_,_,_,q=>by
  rw[show(oB [] []).map PyData.bool=[]from rfl,Bm]at q;exact q
 |x::xs,y::ys,acc,u,v,n,hl,hx,hy,q=>by
  refine(show dq 2 _ (.tuple [x,y]) [u,v] _ from⟨rfl,?_⟩);dsimp only[bh,ck,aJ,Am,df];nofun;obtain⟨a1,a2,a3,a4⟩:=hx x As;obtain⟨b1,b2,b3⟩:=hy y As;refine bU (av rfl (av rfl ⟨x,y,rfl,a1,a2,b1,a3,a4,b3,b2,?_⟩));refine GP xs ys _ _ _ n (Fy hl) (λz hz=>hx z (Au _ hz)) (λz hz=>hy z (Au _ hz)) ?_;rw[Bh];exact q
theorem Lf:∀d ws n Q,ki d ws n Q->ws.length=2:=λd ws n Q h=>by
 cases d with
 |zero=>exact h.elim
 |succ d=>obtain⟨_,_,rfl,_⟩:=h;rfl
theorem RD:∀d ws n Q,ki (d+1) ws n Q->GL (ki d) (iE ["one","other"] ws) n {nx:=λ_ n=>Q (.d .none) n,rt:=Q}:=λd ws n Q h=>by
 obtain⟨x,y,rfl,nx,sx,sy,dx,lx,ly,dy,k⟩:=h;show GL (ki d) [↑x,↑y] n _;have kn:∀b,(!decide (jc x=jc y))=b->∀Q:Bool->Int->Prop,Q b n->cT (w2 (aH nP (aq ↥0 ao)) (aH nP (aq ↥1 ao)) cL) [↑x,↑y] n Q:=λb e Q q=>
  aC (k:=b) (λQ q=>ar (cJ (av rfl ⟨x,rfl,sx,cJ (av rfl ⟨y,rfl,sy,LW (by rw[e];exact q)⟩)⟩))) q
 have tl:∀b,ni x=b->∀Q:Bool->Int->Prop,Q (!b) n->cR (cT (xR ↥0)) [↑x,↑y] n Q:=λb e Q q=>
  iq (k:=b) (λQ q=>aC (k:=b) (λQ q=>av rfl (show Q (.d (.bool (ni x))) n by rw[e];exact q)) q) q
 by_cases hk:jc x=jc y
 ·refine bI (kn aj (by rw[decide_eq_true hk];rfl)) ?_;cases ht:ni x with
  |false=>exact cg (tl aj ht) (ar (av rfl (av rfl ⟨lx,ly,Lv sx ht,dy,_,rfl,by rw[K2 hk nx sx sy ht];exact k⟩)))
  |true=>
   refine bI (tl ai ht) ?_;cases x with
   |tuple xs=>
    cases y with
    |tuple ys=>
     rw[bA]at sx sy;rw[dH]at nx;rw[Bv]at dx dy;rw[B1]at lx ly;cases d with
     |zero=>omega
     |succ d=>
      have ln:∀b,(!decide ((xs.length:Int)=ys.length))=b->∀Q:Bool->Int->Prop,Q b n->cT ⇑1006 [↑(.tuple xs),↑(.tuple ys)] n Q:=λb e Q q=>
       aC (k:=b) (λQ q=>ar (aN (av rfl (aN (av rfl (show Q (.d (.bool (!decide ((xs.length:Int)=ys.length)))) n by rw[e];exact q)))))) q
      by_cases hl:xs.length=ys.length
      ·refine bI (ln aj (by rw[decide_eq_true ⋯];rfl)) (bb (aN (bc ?_)));unfold cW lN;refine av rfl (av rfl ⟨hl,?_⟩);refine GP xs ys [] ah ah n hl (λz hz=>⟨AA nx z hz,tF sx z hz,nX ⋯ z hz,nZ lx z hz⟩) (λz hz=>⟨tF sy z hz,A4 (nX (Al _) z hz) ⋯,nZ ly z hz⟩) ?_;rw[Bx];show(match lY ((oB xs ys).map λb=>.bool (id b))with|some bs=>Q (.d (.bool (bs.all id))) n|none=>False);rw[AV id];show Q (.d (.bool (((oB xs ys).map id).all id))) n;rw[List.map_id,DK hl];exact k
      ·refine cg (ln ai (by rw[decide_eq_false ⋯];rfl)) (aD ?_);rw[jY λz=>hl (congrArg F2 (Cj z))]at k;exact k
    |dict _=>rw[bA]at sy;cases sy
    |_=>simp only[jc]at hk;exact absurd hk ∅
   |list xs=>rw[dH]at nx;cases nx
   |_=>cases ht
 ·refine cg (kn ai (by rw[decide_eq_false hk];rfl)) (aD ?_);rw[jY λz=>hk (by rw[z])]at k;exact k
theorem U2(sa:bA a=ai):Cc a (.str "clock")=je a:=by
 cases a with
 |str x=>
  show Cc (.str x) (.str "clock")=decide (x="clock");by_cases e:x="clock"
  ·subst e;rw[decide_eq_true rfl];simp[Cc]
  ·rw[decide_eq_false e];simp[Cc,e]
 |dict _=>rw[bA]at sa;cases sa
 |_=>simp[Cc,je]
theorem okY.part(h:okY (.tuple xs)):∀x∈xs,bA x=ai/\B1 x=ai/\Bv x<=20:=λx hx=>by
 obtain⟨h1,h2,h3,_⟩:=h;rw[bA]at h1;rw[B1]at h2;rw[Bv]at h3;exact⟨tF h1 x hx,nZ h2 x hx,A4 (nX (Al _) x hx) ⋯⟩
theorem J4(sa:bA a=ai)(la:B1 a=ai)(da:Bv a<=20)(k:Q (.d (.bool (je a))) n):n8 (λd e=>ae (Cc d e)) (.d a) (.d (.str "clock")) n Q:=
 ⟨la,by decide +kernel,da,by decide +kernel,_,rfl,by rw[U2 sa];exact k⟩
theorem Lr(k:Q (.d (.bool (decide (a < b)))) n):iz (~~~a) (~~~b) n Q:=k
theorem tZ(k:Q (~~~xs.length) n):bg [.d (.tuple xs)] n Q:=k
theorem Nk:b9 vo zy ["programs","row"]:=λws n Q h=>by
 obtain⟨ps,d,rfl,hd,k⟩:=h;show zy [↑(bf ps),↑d] n _;have isi:∀b,dw "tuple" d=b->∀Q:Bool->Int->Prop,Q (!b) n->cR (cT (bF "tuple" ↥1)) [↑(bf ps),↑d] n Q:=λb e Q q=>iq (k:=b) (λQ q=>aC (k:=b) (λQ q=>av rfl (show Q (.d (.bool (dw "tuple" d))) n by rw[e];exact q)) q) q;cases d with
 |tuple xs=>
  have hp:=hd.part;have ln:∀b,decide ((xs.length:Int) < 2)=b->∀Q:Bool->Int->Prop,Q b n->cT (w2 (wB bg (aq ↥1 ao)) ⇑2 iz) [↑(bf ps),↑(.tuple xs)] n Q:=λb e Q q=>
   aC (k:=b) (λQ q=>ar (aN (av rfl (tZ (aD (Lr (by rw[e];exact q))))))) q
  match xs,hp,ln,k with
  |[],hp,ln,k=>exact cg (λQ q=>fS (isi ai rfl) (ln ai rfl Q q)) (aD k)
  |[_],hp,ln,k=>exact cg (λQ q=>fS (isi ai rfl) (ln ai rfl Q q)) (aD k)
  |a::b::r,hp,ln,k=>
   refine bI (λQ q=>fS (isi ai rfl) (ln aj (decide_eq_false (by rw[Ap,Ap];omega)) Q q)) ?_;obtain⟨sa,la,da⟩:=hp a As;refine bb (fP (b:=je a) (λQ q=>aC (k:=je a) (λQ q=>ar (ar (av rfl (aD (cP (aD (J4 sa la da q))))))) q) ?_);have k:Q (.d (if je a=ai then .int ps.length else b)) n:=k;cases e:je a with
   |true=>
    rw[e,if_pos rfl]at k;nofun;exact aN (av rfl (show Q (~~~((ps.map d5).length:Nat)) n by rw[Ab];exact k))
   |false=>
    rw[e,if_neg Ae]at k;rw[if_neg Ae];exact ar (av rfl (aD (d4 k)))
 |dict kvs=>
  have:=hd.1;rw[bA]at this;cases this
 |_=>exact cg (λQ q=>l5 (isi aj rfl) q) (aD k)
theorem VP(B:okBd ps s t nu fr m)(hf:fr<=80)(hnu:nu.length<=60):jd (aI ps s nu fr m).1:=by
 obtain⟨st,⟨nd,len,lt⟩,le,af⟩:=B;have h5:=st.1.1;have nm:∀g:Option Nat,∀i,eW nu g=ae i->i<=90:=λg i e=>by
  cases g with
  |none=>cases e
  |some j=>have:=lt i (A1 e);omega
 by_cases em:m=ps.length
 ·subst em;rw[lS];refine .inr (.inr (.inr ⟨dr nu s.2,rfl,?_,λi hi=>by have:=lt i (sk hi);omega⟩));have h1:(dr nu s.2).length<=nu.length:=by
   unfold dr;rw[Ab];exact A4 (E5 _ _) (by rw[List.length_zip];omega)
  omega
 ·have hm:m < ps.length:=by omega
  obtain⟨P,xb,xp,nm',w,as,a,H,ea,T⟩:=lH st.2.1 hm af;rw[lr hm ea];cases a with
  |lay fs age=>
   obtain⟨hl4,hfv⟩:=H.lay st.1 ea;have oa:=H.ok st.1 ea;refine .inl ⟨m,fr,(cx fs (js s.1 m),age),rfl,by omega,by omega,?_⟩;rw[H.nmq];exact⟨⟨⟨by show(cx fs nm').length<=4;unfold cx;rw[Ab];exact hl4,by show 1<=(cx fs nm').length;unfold cx;rw[Ab];exact oa.2.2.2⟩,λd hd=>by
    obtain⟨f,hf,rfl⟩:=Bg.mp hd;exact iT (hfv f hf)⟩,oa.2.2.1⟩
  |take gs=>exact .inr (.inl ⟨"takes",m,_,rfl,.inl rfl,by omega,nm _⟩)
  |read gs=>exact .inr (.inl ⟨"reads",m,_,rfl,.inr (.inl rfl),by omega,nm _⟩)
  |look gs b=>exact .inr (.inl ⟨"looks",m,_,rfl,.inr (.inr rfl),by omega,nm _⟩)
  |go b=>exact .inr (.inr (.inl ⟨m,rfl,by omega⟩))
  |same f g b=>exact .inr (.inr (.inl ⟨m,rfl,by omega⟩))
theorem Ka{i:Nat}(h:i<=90):bA (.int i)=ai:=by
 rw[bA,A2];exact⟨decide_eq_true ⋯,decide_eq_true ⋯⟩
theorem AK(h:cq d=ai):bA d=ai:=by
 cases d with
 |str x=>
  have h:(decide (x.length<=8)&&(Ep x&&decide (x="a"\/x="ab"\/x="go")))=ai:=h;rw[A2,A2]at h;rw[bA];rcases of_decide_eq_true h.2.2 with rfl|rfl|rfl<;>decide +kernel
 |int i=>
  simp only[cq,A2,decide_eq_true_eq]at h;rw[bA,A2];exact⟨decide_eq_true ⋯,decide_eq_true ⋯⟩
 |_=>cases h
theorem EC(h:fR d):bA d=ai:=by
 rcases h with rfl|⟨i,rfl,h0,h1⟩
 ·rw[bA]
 ·rw[bA,A2];exact⟨decide_eq_true ⋯,decide_eq_true ⋯⟩
theorem lC(h:∀x∈xs,bA x=ai):bA (.tuple xs)=ai:=by rw[bA];exact yA h
theorem wK(h:∀x∈xs,bA x=ai):bA (.list xs)=ai:=by rw[bA];exact yA h
theorem J0:∀{xs:List Aa},(∀x∈xs,dH x=ai)->kI xs=ai
 |[],_=>by rw[kI]
 |y::xs,h=>by rw[kI,h y As,J0 λx hx=>h x (Au _ hx)];rfl
theorem u9(h:cq d=ai):dH d=ai:=by
 cases d with
 |str x=>simp[dH]
 |int i=>simp[dH]
 |_=>cases h
structure Pn(d:Aa):Prop where
 sf:bA d=ai
 nl:dH d=ai
 sm:Sm 2 2000 d
theorem ll{i:Nat}(h:i<=90):Pn (.int i):=⟨Ka h,by simp[dH],(yR ⋯).up ∎ ∎⟩
theorem IJ:Pn .none:=⟨by rw[bA],by simp[dH],sm_none.up ∎ ∎⟩
theorem qj(h:iH x=ai)(h2:(decide (x.length<=8)&&Ep x)=ai):Pn (.str x):=⟨by rw[bA];exact h,by simp[dH],(Vv h2).up ∎ ∎⟩
theorem Mc(h:fR d):Pn d:=by
 rcases h with rfl|⟨i,rfl,h0,h1⟩
 ·exact IJ
 ·obtain⟨j,rfl⟩:=F6 (show 0<=i by omega);exact ll ⋯
theorem fE(h:∀x∈xs,dH x=ai):dH (.tuple xs)=ai:=by rw[dH];exact J0 h
theorem NM(h:kU q):Pn (cS q):=by
 refine⟨lC λx hx=>?_,fE λx hx=>?_,(Iv h).up ∎ ∎⟩
 ·simp only[Aq,An,or_false]at hx;rcases hx with rfl|rfl
  ·exact lC λy hy=>AK (h.1.2 y hy)
  ·exact EC h.2
 ·simp only[Aq,An,or_false]at hx;rcases hx with rfl|rfl
  ·exact fE λy hy=>u9 (h.1.2 y hy)
  ·exact(Mc h.2).nl
theorem Tb(hl:l.length<=60)(h:∀i∈l,i<=90):Pn (.tuple (aE l)):=by
 have key:∀x∈aE l,∃i:Nat,i<=90/\x=.int i:=λx hx=>by
  obtain⟨i,hi,rfl⟩:=Bg.mp hx;exact⟨i,h i hi,rfl⟩
 refine⟨lC λx hx=>?_,fE λx hx=>?_,(i6 (k:=0) (w:=20) (m:=60) (λx hx=>?_) (by unfold aE;rw[Ab];exact hl)).up ∎ ∎⟩
 ·obtain⟨i,hi,rfl⟩:=key x hx;exact(ll hi).sf
 ·obtain⟨i,hi,rfl⟩:=key x hx;exact(ll hi).nl
 ·obtain⟨i,hi,rfl⟩:=key x hx;exact yR ⋯
theorem Oc(h:∀i,g=ae i->i<=90):Pn (cf g):=by
 cases g with
 |none=>exact IJ
 |some i=>exact ll (h i rfl)
theorem xu(h:jd d):∃(x:Str)(b:Aa)(r:List Aa),d=.tuple (.str x::b::r)/\r.length<=2/\∀y∈(Cy x::b::r),Pn y:=by
 rcases h with⟨m,k,q,rfl,hm,hk,hq⟩|⟨x,m,g,rfl,hx,hm,hg⟩|⟨m,rfl,hm⟩|⟨l,rfl,hl,hi⟩
 ·refine⟨_,_,_,rfl,Al _,λy hy=>?_⟩;simp only[Aq,An,or_false]at hy;rcases hy with rfl|rfl|rfl|rfl
  ·exact qj ∅ ∅
  ·exact ll hm
  ·exact ll hk
  ·exact NM hq
 ·refine⟨_,_,_,rfl,by simp,λy hy=>?_⟩;simp only[Aq,An,or_false]at hy;rcases hy with rfl|rfl|rfl
  ·rcases hx with rfl|rfl|rfl<;>exact qj ∅ ∅
  ·exact ll hm
  ·exact Oc hg
 ·refine⟨_,_,_,rfl,by simp,λy hy=>?_⟩;simp only[Aq,An,or_false]at hy;rcases hy with rfl|rfl
  ·exact qj ∅ ∅
  ·exact ll hm
 ·refine⟨_,_,_,rfl,by simp,λy hy=>?_⟩;simp only[Aq,An,or_false]at hy;rcases hy with rfl|rfl
  ·exact qj ∅ ∅
  ·exact Tb hl hi
theorem vf(h:jd d):bA d=ai/\dH d=ai/\Sm 3 8100 d:=by
 obtain⟨x,b,r,rfl,hr,hp⟩:=xu h;exact⟨lC λy hy=>(hp y hy).sf,fE λy hy=>(hp y hy).nl,(i6 (k:=2) (w:=2000) (m:=4) (λy hy=>(hp y hy).sm) (by rw[Ap,Ap];omega)).up (Al _) ∎⟩
theorem vv(h:jd d):okY d:=⟨(vf h).1,(vf h).2.2.up ∎ ∎⟩
structure LtI(ps:Pg)(s:Sd)(nu:List Nat)(fr l:Nat):Prop where
 okh:okHs ps s.1
 okn:cO (60-l) s.2
 nk:okNu s nu fr
 fr:fr+l<=60
 hl:l<=40
theorem LtI.st{fr l:Nat}(okp:cu ps)(I:LtI ps s nu fr l):fK ps s.1 s.2:=⟨okp,I.okh,A4 I.okn.1 ⋯,I.okn.2⟩
theorem LtI.step{s t:Sd}{fr l m:Nat}(okp:cu ps)(I:LtI ps s nu fr (l+1))(hm:m<=ps.length)(af:b6 ps s.1 s.2 m=ae t):okBd ps s t nu fr m/\LtI ps t (aI ps s nu fr m).2.1 (aI ps s nu fr m).2.2 l:=by
 have B:okBd ps s t nu fr m:=⟨I.st okp,I.nk,hm,af⟩;obtain⟨k1,k2⟩:=rX okp I.okh I.okn hm af;obtain⟨n1,n2⟩:=zA B;have h1:=I.hl;have h2:=I.fr;exact⟨B,k1,⟨A4 k2.1 ⋯,k2.2⟩,n1,by omega,by omega⟩
theorem nh(h:km ps ns)(hl:l<=40):LtI ps (d6 ps,ns) (A8 ns.length) ns.length l:=by
 have:=h.2.2.1;exact⟨h.2.1,⟨by show ns.length<=_;omega,h.2.2.2⟩,zh (d6 ps,ns),by omega,hl⟩
theorem LtI.rw{fr l m:Nat}(I:LtI ps s nu fr (l+1))(B:okBd ps s t nu fr m):jd (aI ps s nu fr m).1:=by
 have h1:=I.nk.len;have h2:=I.okn.1;have h3:=I.fr;exact VP B ⋯ ⋯
theorem okY.lay(h:okY d):B1 d=ai:=h.2.1
theorem okY.dep(h:okY d):Bv d<=20:=A4 h.2.2.1 ∎
def xK(ps:Pg)(ns:List Nt)(rs:List Aa)(n0:Int)(ds:List Aa)(δ:Sl)(n:Int):Prop:=∃(s:Sd)(nu:List Nat)(fr:Nat)(x y:Option SV),δ=[↑(.tuple [bf ps,bH ns]),↑(.list rs),↑(dP s nu fr),x,y]/\LtI ps s nu fr ds.length/\(∀r∈ds,okY r)/\jI ps s nu fr ds=gy ps ns (.list rs)/\n=n0
theorem wD(ps)(s:Sd)(nu)(fr)(d)(r):jI ps s nu fr (d::r)=(match ig ps s.1 s.2 (eJ ps d)with
  |none=>aj
  |some t=>gx (aI ps s nu fr (fw ps (eJ ps d))).1 d&&jI ps t (aI ps s nu fr (fw ps (eJ ps d))).2.1 (aI ps s nu fr (fw ps (eJ ps d))).2.2 r):=by rw[jI]<;>rfl
theorem Q4:b9 t6 EJ ["plan","thing","board","row","step"]:=λws n0 Q h=>by
 obtain⟨ps,ns,d,rfl,pl,th,k⟩:=h;show EJ [↑(.tuple [bf ps,bH ns]),↑d,ah,ah,ah] n0 _;have okp:=pl.1;have isi:∀b,dw "list" d=b->∀Q:Bool->Int->Prop,Q (!b) n0->cR (cT (bF "list" ↥1)) [↑(.tuple [bf ps,bH ns]),↑d,ah,ah,ah] n0 Q:=λb e Q q=>iq (k:=b) (λQ q=>aC (k:=b) (λQ q=>av rfl (show Q (.d (.bool (dw "list" d))) n0 by rw[e];exact q)) q) q;cases d with
 |list rs=>
  obtain⟨hl,hr⟩:=th.2 rs rfl;refine bI (isi ai rfl) ?_;refine aB (bx (x:=dP (d6 ps,ns) (A8 ns.length) ns.length) (λQ q=>cJ (av rfl ⟨ps,ns,rfl,okp.1,pl.2.2.1,q⟩)) ?_);ac_nf;refine aB ?_;unfold aU fU;refine av rfl ?_;dsimp only;refine eV (xK ps ns rs n0) (λδ n I=>?_) (λe r δ n N I kN=>?_) _ _ _ ⟨(d6 ps,ns),A8 ns.length,ns.length,ah,ah,rfl,nh pl hl,hr,rfl,rfl⟩
  ·obtain⟨s,nu,fr,x,y,rfl,_,_,hf,rfl⟩:=I;dsimp only;refine bb (aD ?_);rw[<-hf]at k;exact k
  ·obtain⟨s,nu,fr,x,y,rfl,I,hok,hf,rfl⟩:=I;rw[Ap]at I;dsimp only[aJ,Am];have oe:=hok e As;rw[wD]at hf;refine aB (bx (x:=kF ps s nu fr (eJ ps e)) (λQ q=>bX (dj (a:=bf ps) rfl (av rfl (bU (dj (a:=bf ps) rfl (av rfl ⟨ps,e,rfl,oe,⟨ps,s,nu,fr,_,rfl,I.st okp,I.nk,q⟩⟩)))))) ?_);ac_nf;cases ea:ig ps s.1 s.2 (eJ ps e)with
   |none=>
    rw[ea]at hf;have el:kF ps s nu fr (eJ ps e)=.none:=by unfold kF;rw[ea]
    rw[el];refine cg (λQ q=>l5 (λQ q=>aC (k:=ai) (λQ q=>ar (av rfl (aD q))) q) q) (aD ?_);rw[<-hf]at k;exact k
   |some t=>
    rw[ea]at hf;obtain⟨m,em,af⟩:=Option.bind_eq_some_iff.mp ea;obtain⟨eb,hm⟩:=rE em;have en:fw ps (eJ ps e)=m:=by unfold fw;rw[em];rfl
    rw[en]at hf;obtain⟨B,I2⟩:=I.step okp hm af;have el:kF ps s nu fr (eJ ps e)=.tuple [(aI ps s nu fr m).1,dP t (aI ps s nu fr m).2.1 (aI ps s nu fr m).2.2]:=by unfold kF;rw[ea,en]
    rw[el];obtain⟨q1,q2,q3⟩:=vf (I.rw B);have al:∀b,gx (aI ps s nu fr m).1 e=b->∀Q:Bool->Int->Prop,Q (!b) n->fX (cT (w2 ↥4 (wC .none) (bC aj))) (cR (cT (aH (ki 6) (aq (w2 ↥4 ⇑0 az) (aq ↥3 ao))))) [↑(.tuple [bf ps,bH ns]),↑(.list rs),↑(dP s nu fr),↑e,↑(.tuple [(aI ps s nu fr m).1,dP t (aI ps s nu fr m).2.1 (aI ps s nu fr m).2.2])] n Q:=λb eb Q q=>
     fS (λQ q=>aC (k:=aj) (λQ q=>ar (av rfl (aD q))) q) (iq (k:=b) (λQ q=>aC (k:=b) (λQ q=>bU (ar (av rfl (aD (cP (av rfl ⟨_,e,rfl,q2,q1,oe.1,A4 q3.2.1 ∎,q3.1,oe.lay,oe.dep,by rw[eb];exact q⟩)))))) q) q)
    have hf:(gx (aI ps s nu fr m).1 e&&jI ps t (aI ps s nu fr m).2.1 (aI ps s nu fr m).2.2 r)=gy ps ns (.list rs):=hf;cases ee:gx (aI ps s nu fr m).1 e with
    |false=>
     rw[ee]at hf;refine cg (al aj ee) (aD ?_);rw[<-hf]at k;exact k
    |true=>
     rw[ee,Gm]at hf;refine bI (al ai ee) ?_;refine bx (x:=dP t (aI ps s nu fr m).2.1 (aI ps s nu fr m).2.2) (λQ q=>ar (av rfl (aD (d4 q)))) (kN _ _ ?_);exact⟨t,_,_,_,_,rfl,I2,λz hz=>hok z (Au _ hz),hf,rfl⟩
 |dict kvs=>
  have:=th.1.1;rw[bA]at this;cases this
 |_=>exact cg (isi aj rfl) (aD k)
theorem okY.sml(h:okY d):SmlA d:=by
 have h2:Small d:=Sm.small (show Sm 6 20000 d from h.2) ∎ ∎;exact⟨h2.1,h2.2.1,h2.2.2.2.2,h2.len⟩
theorem jL(h:SmlA d)(k:Q (.d (.str d.shown)) n):gW [.d d] n Q:=⟨h,k⟩
theorem okTh.sml(h:okTh d):SmlA d:=by
 have h2:Small d:=Sm.small (show Sm 8 900000 d from h.1.2) ∎ ∎;exact⟨h2.1,h2.2.1,h2.2.2.2.2,h2.len⟩
theorem O6(k:Q (.d (.bool ai)) n):a9 (.d (.str x)) (.d (.str x)) n Q:=by
 show Q (.d (.bool (decide (x=x)))) n;rw[decide_eq_true rfl];exact k
def V0(d:Aa):Prop:=bA d=ai/\Sm 0 20 d
def V1(d:Aa):Prop:=bA d=ai/\Sm 1 1302 d
def Ye(d:Aa):Prop:=bA d=ai/\Sm 4 3000 d
theorem V0.ye(h:V0 d):Ye d:=⟨h.1,h.2.up ∎ ∎⟩
theorem V1.ye(h:V1 d):Ye d:=⟨h.1,h.2.up ∎ ∎⟩
theorem Pn.ye(h:Pn d):Ye d:=⟨h.sf,h.sm.up ∎ ∎⟩
theorem gX(h0:-2<=i)(h1:i<=99):V0 (.int i):=by
 refine⟨by rw[bA,A2];exact⟨decide_eq_true h0,decide_eq_true ⋯⟩,?_⟩;by_cases h:0<=i
 ·exact l6 (hX h h1)
 ·have:i=-1\/i=-2:=by omega
  rcases this with rfl|rfl
  ·exact⟨by decide,by decide,by decide,by decide,by decide⟩
  ·exact⟨by decide,by decide,by decide,by decide,by decide⟩
theorem Iw(b):V0 (.bool b):=⟨by rw[bA],by cases b<;>exact⟨by decide,by decide,by decide,by decide,by decide⟩⟩
theorem v0_none:V0 .none:=⟨by rw[bA],sm_none⟩
theorem RO(h:cq d=ai):V0 d:=⟨AK h,l6 h⟩
theorem Mo(h:fR d):V0 d:=⟨EC h,Hr h⟩
theorem oH(h:∀x∈xs,V0 x)(hl:xs.length<=62):V1 (.tuple xs):=⟨lC λx hx=>(h x hx).1,i6 (k:=0) (w:=20) (m:=62) (λx hx=>(h x hx).2) hl⟩
theorem Ho(h:∀x∈xs,V0 x)(hl:xs.length<=62):V1 (.list xs):=⟨wK λx hx=>(h x hx).1,tD (k:=0) (w:=20) (m:=62) (λx hx=>(h x hx).2) hl⟩
theorem IE{P:Aa->Prop}(ha:P a)(hb:P b)(hx:x∈[a,b]):P x:=by
 simp only[Aq,An,or_false]at hx;rcases hx with rfl|rfl
 ·exact ha
 ·exact hb
theorem uD(ha:V1 a)(hb:V0 b):Ye (.tuple [a,b]):=by
 have hb':V1 b:=⟨hb.1,hb.2.up ∎ ∎⟩;exact⟨lC λx hx=>(IE (P:=V1) ha hb' hx).1,(i6 (k:=1) (w:=1302) (m:=2) (λx hx=>(IE (P:=V1) ha hb' hx).2) (Al _)).up ∎ ∎⟩
theorem kz(h:∀x∈xs,Ye x)(hl:xs.length<=6):okY (.tuple xs):=⟨lC λx hx=>(h x hx).1,(i6 (k:=4) (w:=3000) (m:=6) (λx hx=>(h x hx).2) hl).up ∎ ∎⟩
theorem N8(h:∀x∈xs,Ye x)(hl:xs.length<=6):okY (.list xs):=⟨wK λx hx=>(h x hx).1,(tD (k:=4) (w:=3000) (m:=6) (λx hx=>(h x hx).2) hl).up ∎ ∎⟩
def Tk(h:Str)(d:Aa):Prop:=d=.none\/(∃i:Nat,d=.int i/\i<=90)\/(h="lays"/\∃q,kU q/\d=cS q)\/(h≠"lays"/\∃l:List Nat,d=.tuple (aE l)/\l.length<=60/\∀i∈l,i<=90)
theorem N1(h:jd d):∃(x:Str)(r:List Aa),d=.tuple (.str x::r)/\1<=r.length/\r.length<=3/\(∀y∈r,Tk x y)/\∀y∈(Cy x::r),Ye y:=by
 obtain⟨x0,b0,r0,e0,hr0,hp0⟩:=xu h;have key:∃(x:Str)(r:List Aa),d=.tuple (.str x::r)/\1<=r.length/\r.length<=3/\∀y∈r,Tk x y:=by
  rcases h with⟨m,k,q,rfl,hm,hk,hq⟩|⟨x,m,g,rfl,hx,hm,hg⟩|⟨m,rfl,hm⟩|⟨l,rfl,hl,hi⟩
  ·refine⟨_,_,rfl,by simp,by simp,λy hy=>?_⟩;simp only[Aq,An,or_false]at hy;rcases hy with rfl|rfl|rfl
   ·exact .inr (.inl ⟨m,rfl,hm⟩)
   ·exact .inr (.inl ⟨k,rfl,hk⟩)
   ·exact .inr (.inr (.inl ⟨rfl,q,hq,rfl⟩))
  ·refine⟨_,_,rfl,by simp,by simp,λy hy=>?_⟩;simp only[Aq,An,or_false]at hy;rcases hy with rfl|rfl
   ·exact .inr (.inl ⟨m,rfl,hm⟩)
   ·cases g with
    |none=>exact .inl rfl
    |some i=>exact .inr (.inl ⟨i,rfl,hg i rfl⟩)
  ·refine⟨_,_,rfl,by simp,by simp,λy hy=>?_⟩;simp only[Aq,An,or_false]at hy;subst hy;exact .inr (.inl ⟨m,rfl,hm⟩)
  ·refine⟨_,_,rfl,by simp,by simp,λy hy=>?_⟩;simp only[Aq,An,or_false]at hy;subst hy;exact .inr (.inr (.inr ⟨by decide +kernel,l,rfl,hl,hi⟩))
 obtain⟨x,r,e,h1,h2,h3⟩:=key;refine⟨x,r,e,h1,h2,h3,λy hy=>?_⟩;rw[e0]at e;have:=Cj e;rw[<-this]at hy;exact(hp0 y hy).ye
theorem wI:∀x∈bo xs a b,x∈xs:=λx hx=>Fg (Gp hx)
theorem zq(xs:List Aa)(a b):(bo xs a b).length<=xs.length:=by
 unfold bo;rw[Cz,B5];omega
section
variable{δ:Sl}{n:Int}{Q:DQ}{w:DT}{ds:List Aa}
theorem U3(hw:∀Q:DQ,Q ‹ds› n->w δ n Q)(k:Q ‹(bo ds ah (ae (-1)))› n):dN w cF (cy (dE (wC (.int 1)))) δ n Q:=by
 unfold dN;refine hw _ ?_;exact k
theorem xk(k:Q (.d (.list xs)) n):lX [.d (.tuple xs)] n Q:=k
theorem sD(hl:a.length+b.length<=1000)(k:Q (.d (.list (a++b))) n):dR (.d (.list a)) (.d (.list b)) n Q:=⟨fc hl,k⟩
end
theorem Jn{ps:Pg}(hm:m<=ps.length):j7 ps (.int m)=ae m:=by rw[r9,if_pos ⟨by omega,by omega⟩,Bs]
theorem BA{ps:Pg}(hm:m<=ps.length):ig ps hs ns (.int m)=b6 ps hs ns m:=by unfold ig;rw[Jn hm];rfl
theorem Uu{ps:Pg}(hm:m<=ps.length):fw ps (.int m)=m:=by unfold fw;rw[Jn hm];rfl
theorem Ux(B:okBd ps s t nu fr m):kF ps s nu fr (.int m)=.tuple [(aI ps s nu fr m).1,dP t (aI ps s nu fr m).2.1 (aI ps s nu fr m).2.2]:=by
 unfold kF;rw[BA B.le,B.af,Uu B.le]
theorem Kh:∀ws n Q,xf ws n Q->IH (iE ["plan","movers","board","log","place","mover","step"] ws) n {nx:=λ_ _=>False,rt:=λ_ _=>False,rn:=Q}:=λws n Q h=>by
 obtain⟨ps,ns,L,R,v,rfl,hv,ok,k⟩:=h;have hR:R.length<=1000:=by rw[rY ok.2.2.2.2];have:=ok.2.2.2.1;omega
 have okp:=ok.1;show IH [↑(.tuple [bf ps,bH ns]),↑v,ah,ah,ah,ah,ah] n _;refine aB (bx (λQ q=>cJ (av rfl ⟨ps,ns,rfl,okp.1,ok.2.2.1.1,q⟩)) ?_);ac_nf;refine aB (iI ?_);ac_nf;refine aB ?_;unfold aU jh;refine av rfl ⟨aE L,by rcases hv with rfl|rfl;exact .inl rfl;exact .inr rfl,?_⟩;refine eV (λds δ m=>m=n/\∃(j:Nat)(M:List Nat)(s:Sd)(nu:List Nat)(fr:Nat)(R0 R1:List Aa)(x4 x5 x6:Option SV),ds=gJ j (aE M)/\δ=[↑(.tuple [bf ps,bH ns]),↑v,↑(dP s nu fr),ae (.own R0),x4,x5,x6]/\LgI ps R s nu fr M R0 R1) (λδ m I=>?_) (λd r δ m N I kN=>?_) _ _ _ ⟨rfl,0,L,_,_,_,[],R,ah,ah,ah,rfl,rfl,mK ok⟩
 ·obtain⟨rfl,j,M,s,nu,fr,R0,R1,x4,x5,x6,ed,rfl,I⟩:=I;cases M with
  |nil=>
   cases I.lg;have e:=I.eq;rw[Bm]at e;dsimp only;show Q R0 m;rw[e];exact k
  |cons a M=>rw[yn,lD]at ed;cases ed
 ·obtain⟨rfl,j,M,s,nu,fr,R0,R1,x4,x5,x6,ed,rfl,I⟩:=I;cases M with
  |nil=>cases ed
  |cons a M=>
   rw[yn,lD]at ed;obtain⟨rfl,rfl⟩:=Bk ed;obtain⟨t,R2,B,J⟩:=I.step okp;refine⟨rfl,?_⟩;grind;refine aB (bx (x:=.tuple [(aI ps s nu fr a).1,dP t (aI ps s nu fr a).2.1 (aI ps s nu fr a).2.2]) (λQ q=>bX (dj rfl (av rfl (av rfl ⟨ps,s,nu,fr,.int a,rfl,B.st,B.nu,by rw[Ux B];exact q⟩)))) ?_);ac_nf;refine aB (aT (λQ q=>aC (k:=aj) (λQ q=>ar (av rfl (aD (dY q)))) q) ?_);ac_rfl;refine aB (gP rfl (λQ q=>dj rfl q) (I.lt hR) ?_);ac_nf;refine bx (λQ q=>dI rfl q) ?_;ac_nf;exact kN _ _ ⟨rfl,j+1,M,t,_,_,_,R2,_,_,_,by rw[show((j+1:Nat):Int)=(j:Int)+1 from rfl],rfl,J⟩
theorem Qk:b9 uc BG ["programs","stand","movers","place","mover"]:=λws n Q h=>by
 obtain⟨ps,s,t,L,v,rfl,hv,okp,okh,okn,hl,hw,k⟩:=h;show BG [↑(bf ps),↑(bJ s),↑v,ah,ah] n _;refine aB ?_;unfold aU jh;refine av rfl ⟨aE L,by rcases hv with rfl|rfl;exact .inl rfl;exact .inr rfl,?_⟩;refine eV (λds δ m=>m=n/\∃(j:Nat)(M:List Nat)(s:Sd)(x3 x4:Option SV),ds=gJ j (aE M)/\δ=[↑(bf ps),↑(bJ s),↑v,x3,x4]/\okHs ps s.1/\cO (100-M.length) s.2/\M.length<=40/\Wov ps s M t) (λδ m I=>?_) (λd r δ m N I kN=>?_) _ _ _ ⟨rfl,0,L,s,ah,ah,rfl,rfl,okh,okn,hl,hw⟩
 ·obtain⟨rfl,j,M,s,x3,x4,ed,rfl,okh,okn,hl,hw⟩:=I;cases hw with
  |nil=>
   dsimp only;exact bb (av rfl k)
  |cons hm ea hw=>
   rw[show ∀a M,aE (a::M)=.int a::aE M from λ_ _=>rfl,lD]at ed;cases ed
 ·obtain⟨rfl,j,M,s,x3,x4,ed,rfl,okh,okn,hl,hw⟩:=I;cases hw with
  |nil=>cases ed
  |@cons _ u _ a M hm ea hw=>
   rw[show ∀a M,aE (a::M)=.int a::aE M from λ_ _=>rfl,lD]at ed;obtain⟨rfl,rfl⟩:=Bk ed;rw[Ap]at hl okn;obtain⟨k1,k2⟩:=rX okp okh okn hm ea;refine⟨rfl,?_⟩;grind;refine aB (bx (x:=bJ u) (λQ q=>bX (av rfl (av rfl (av rfl ⟨ps,s.1,s.2,.int a,rfl,⟨okp,okh,A4 okn.1 ⋯,okn.2⟩,by rw[BA hm];show Q (.d (ia (b6 ps s.1 s.2 a))) _;rw[ea];exact q⟩)))) ?_);ac_nf;refine aT (λQ q=>aC (k:=aj) (λQ q=>ar (av rfl (aD (dY q)))) q) ?_;ac_rfl;exact kN _ _ ⟨rfl,j+1,M,u,_,_,by rw[show((j+1:Nat):Int)=(j:Int)+1 from rfl],rfl,k1,⟨A4 k2.1 ⋯,k2.2⟩,by omega,hw⟩
theorem wz(h:Sts ns0 P ns nu fr):∀k,∃ns' nu' fr',Sts ns0 (P.take k) ns' nu' fr':=by
 induction h with
 |nil=>intro k;rw[List.take_nil];exact⟨_,_,_,.nil⟩
 |@snoc P ns ns' nu nu' fr fr' r a b ih=>
  intro k;by_cases hk:k<=P.length
  ·rw[Gn hk];exact ih k
  ·rw[Cu (by rw[Af,Av];omega)];exact⟨_,_,_,.snoc a b⟩
theorem sM(P:List Rw)(r)(n):dD (P++[r]) n=(dD P n).or (if iB r=ae n then ae P.length else ah):=by
 unfold dD;rw[List.findIdx?_append]
 congr 1
 by_cases h:iB r=ae n<;>simp[List.findIdx?_cons,h]
theorem pG(P:List Rw)(r)(n):cU (P++[r]) n=(cU P n).or (if n∈eI r then ae P.length else ah):=by
 unfold cU;rw[List.findIdx?_append]
 congr 1
 by_cases h:n∈eI r<;>simp[List.findIdx?_cons,h]
theorem BF(h:dD P n=ae j):j < P.length:=(D7.mp h).1
theorem kM(h:iB r≠ae n):dD (P++[r]) n=dD P n:=by rw[sM,if_neg h,F4]
theorem o7(h:n∉eI r):cU (P++[r]) n=cU P n:=by rw[pG,if_neg h,F4]
theorem GD(P)(r):gq (P++[r])=gq P+if j3 r=ai then 1 else 0:=by
 unfold gq;rw[List.filter_append,Af];by_cases h:j3 r=ai<;>simp[h]
def l9(c:Bool)(b:Nt):Nt:=if c=ai then(b.1,gp b.2)else b
theorem Mq(d)(k):iy d (k+1)=gp (iy d k):=by
 cases d<;>simp only[iy,gp]
 congr 1
 omega
theorem Jb:iy d 0=d:=by
 cases d<;>simp[iy]
theorem JX(a)(d)(k)(c):(a,iy d (k+if c=ai then 1 else 0))=l9 c (a,iy d k):=by
 unfold l9;cases c with
 |true=>rw[if_pos rfl,if_pos rfl,Mq]
 |false=>rw[if_neg Ae,if_neg Ae];rfl
theorem vV(h:dD (P++[r]) n=dD P n):jK ns0 (P++[r]) n=l9 (j3 r) (jK ns0 P n):=by
 unfold jK;rw[h];cases e:dD P n with
 |none=>
  unfold qE;rw[GD];exact JX _ _ _ _
 |some j=>
  have hj:=BF e;show((lq ((P++[r])[j]?.getD (Rw.gs 0))).1,iy (lq ((P++[r])[j]?.getD (Rw.gs 0))).2 (gq (List.drop j (P++[r]))))=l9 (j3 r) ((lq (P[j]?.getD (Rw.gs 0))).1,iy (lq (P[j]?.getD (Rw.gs 0))).2 (gq (List.drop j P)));rw[Ca hj,List.drop_append_of_le_length (Fp hj),GD];exact JX _ _ _ _
structure SvI(ns0:List Nt)(P:List Rw)(ns:List Nt)(nu:List Nat)(fr:Nat):Prop where
 efr:fr=cj ns0 P
 enu:nu=(A8 fr).filter λn=>(cU P n).isNone
 ens:ns=nu.map (jK ns0 P)
 l0:∀n,n < ns0.length->dD P n=ah
 l1:∀n,ns0.length<=n->n < fr->∃j,dD P n=ae j
 l2:∀n,fr<=n->dD P n=ah
 g2:∀n,fr<=n->cU P n=ah
 un:∀n (i j:Nat) r t,P[i]?=ae r->P[j]?=ae t->n∈eI r->n∈eI t->i=j
 le:ns0.length<=fr
theorem SvI.nd(I:SvI ns0 P ns nu fr):nu.Nodup:=by rw[I.enu];exact List.nodup_range.filter _
theorem SvI.lt(I:SvI ns0 P ns nu fr)(h:n∈nu):n < fr/\cU P n=ah:=by
 rw[I.enu]at h;obtain⟨a,b⟩:=C7.mp h;exact⟨Ce.mp a,Option.isNone_iff_eq_none.mp b⟩
theorem v9(ns0)(P)(r):cj ns0 (P++[r])=cj ns0 P+if (iB r).isSome=ai then 1 else 0:=by
 unfold cj;rw[List.filter_append,Af,Nat.add_assoc]
 congr 2
 by_cases h:(iB r).isSome=ai<;>simp[h]
theorem uM{P:List Rw}(h:(P++[r])[i]?=ae t):P[i]?=ae t\/(i=P.length/\t=r):=by
 by_cases hi:i < P.length
 ·rw[Ca hi]at h;exact .inl h
 ·rw[Bt ⋯]at h;cases q:i-P.length with
  |zero=>rw[q]at h;exact .inr ⟨by omega,(A7 h).symm⟩
  |succ k=>rw[q]at h;cases h
theorem Jl(h:cU P n=ah){i:Nat}(e:P[i]?=ae r):n∉eI r:=by
 have:=List.findIdx?_eq_none_iff.mp h r (A1 e);exact of_decide_eq_false this
theorem yX(un:∀n (i j:Nat) r t,P[i]?=ae r->P[j]?=ae t->n∈eI r->n∈eI t->i=j)(hr:∀n∈eI r,cU P n=ah):
  ∀n (i j:Nat) a t,(P++[r])[i]?=ae a->(P++[r])[j]?=ae t->n∈eI a->n∈eI t->i=j:=λn i j a t h1 h2 m1 m2=>by
 rcases uM h1 with q1|⟨q1,e1⟩
 ·rcases uM h2 with q2|⟨q2,e2⟩
  ·exact un n i j a t q1 q2 m1 m2
  ·rw[e2]at m2;exact absurd m1 (Jl (hr n m2) q1)
 ·rw[e1]at m1;rcases uM h2 with q2|⟨q2,e2⟩
  ·exact absurd m2 (Jl (hr n m1) q2)
  ·rw[q1,q2]
theorem Ip(b):∀nu:List Nat,dr nu (nu.map b)=nu.filter λn=>cC (b n).2
 |[]=>rfl
 |x::nu=>by
  rw[Ba,su,Ip b nu,Cn]
theorem Hh:∀{nu:List Nat}{i x:Nat},nu.Nodup->nu[i]?=ae x->(nu.filter λy=>!decide (ae y=ae x))=nu.take i++nu.drop (i+1)
 |[],_,_,_,h=>by simp at h
 |y::nu,0,x,nd,h=>by
  cases h;obtain⟨a,b⟩:=De.mp nd;rw[Cn,if_neg (by simp),List.take_zero,Bx,List.drop_succ_cons,Fh];exact Gu.mpr λz hz=>by
   have:z≠y:=λe=>a (e▸hz);simp[this]
 |y::nu,i+1,x,nd,h=>by
  obtain⟨a,b⟩:=De.mp nd;have hx:x∈nu:=A1 (show nu[i]?=ae x from h);have:y≠x:=λe=>a (e▸hx);rw[Cn,if_pos (by simp[this]),List.take_succ_cons,List.drop_succ_cons,El,Hh b h]
theorem SvI.step(I:SvI ns0 P ns nu fr)(h:Stp ns nu fr r ns' nu' fr'):SvI ns0 (P++[r]) ns' nu' fr':=by
 obtain⟨e1,e2,e3,l0,l1,l2,g2,un,le⟩:=I;have I:SvI ns0 P ns nu fr:=⟨e1,e2,e3,l0,l1,l2,g2,un,le⟩;have same:∀{r:Rw},iB r=ah->eI r=[]->j3 r=aj->SvI ns0 (P++[r]) ns nu fr:=λ{r} h1 h2 h3=>by
  have kl:∀n,dD (P++[r]) n=dD P n:=λn=>kM (by rw[h1];exact λz=>nomatch z);have kg:∀n,cU (P++[r]) n=cU P n:=λn=>o7 (by rw[h2];exact λz=>nomatch z);refine⟨by rw[v9,h1];exact e1,by simp only[kg];exact e2,?_,λn hn=>(kl n).trans (l0 n hn),λn a b=>(l1 n a b).imp λj e=>(kl n).trans e,λn hn=>(kl n).trans (l2 n hn),λn hn=>(kg n).trans (g2 n hn),yX un (by rw[h2];exact λn hn=>nomatch hn),le⟩;rw[e3];exact Cg λn _=>by rw[vV (kl n),h3];rfl
 have out:∀{r:Rw},iB r=ah->(∀n∈eI r,n∈nu)->∀nu',nu'=nu.filter (λy=>!decide (y∈eI r))->SvI ns0 (P++[r]) (nu'.map λn=>l9 (j3 r) (jK ns0 P n)) nu' fr:=λ{r} h1 h2 nu' hn'=>by
  have kl:∀n,dD (P++[r]) n=dD P n:=λn=>kM (by rw[h1];exact λz=>nomatch z);refine⟨by rw[v9,h1];exact e1,?_,?_,λn hn=>(kl n).trans (l0 n hn),λn a b=>(l1 n a b).imp λj e=>(kl n).trans e,λn hn=>(kl n).trans (l2 n hn),λn hn=>?_,yX un λn hn=>(I.lt (h2 n hn)).2,le⟩
  ·rw[hn',e2,List.filter_filter];refine Ga λn _=>?_;rw[pG];by_cases z:n∈eI r
   ·rw[if_pos z];cases cU P n<;>simp[z]
   ·rw[if_neg z];cases cU P n<;>simp[z]
  ·exact Cg λn _=>(vV (kl n)).symm
  ·rw[o7 λz=>absurd (I.lt (h2 n z)).1 (Nat.not_lt.mpr hn)];exact g2 n hn
 cases h with
 |@lay m q hq=>
  have kl:∀n,n≠fr->dD (P++[Rw.lay m fr q]) n=dD P n:=λn hn=>kM (λz=>hn (A7 z).symm);have kf:dD (P++[Rw.lay m fr q]) fr=ae P.length:=by rw[sM,l2 fr (Al _),if_pos (show iB (Rw.lay m fr q)=ae fr from rfl)];rfl
  have kg:∀n,cU (P++[Rw.lay m fr q]) n=cU P n:=λn=>o7 (λz=>nomatch z);refine⟨by rw[v9,e1];rfl,?_,?_,λn hn=>(kl n ⋯).trans (l0 n hn),λn a b=>?_,λn hn=>(kl n ⋯).trans (l2 n ⋯),λn hn=>(kg n).trans (g2 n ⋯),yX un (λn hn=>nomatch hn),by omega⟩
  ·rw[List.range_succ,List.filter_append];simp only[kg];rw[<-e2,Cn,if_pos (by rw[g2 fr (Al _)];rfl),List.filter_nil]
  ·rw[A9,e3]
   congr 1
   ·exact Cg λn hn=>by
     rw[vV (kl n (Bq (I.lt hn).1))];rfl
   ·rw[Ba,F7]
    congr 1
    unfold jK;rw[kf];show q=((lq ((P++[Rw.lay m fr q])[P.length]?.getD (Rw.gs 0))).1,iy (lq ((P++[Rw.lay m fr q])[P.length]?.getD (Rw.gs 0))).2 (gq (List.drop P.length (P++[Rw.lay m fr q]))));rw[Bt (Al _),Gd,List.drop_left];show q=(q.1,iy q.2 0);rw[Jb]
  ·by_cases z:n=fr
   ·exact⟨_,by rw[z];exact kf⟩
   ·rw[kl n z];exact l1 n a ⋯
 |@take m i x hi hx=>
  have hm:x∈nu:=A1 hx;have:=out (r:=.take m x) rfl (λn hn=>by rw[Bc.mp hn];exact hm) (nu.filter λy=>!decide (ae y=ae x)) (Ga λn _=>by simp[eI]);have e:cV ns i=(nu.filter λy=>!decide (ae y=ae x)).map λn=>l9 (j3 (.take m x)) (jK ns0 P n):=by
   rw[Hh I.nd hx,cV,e3,<-List.map_take,<-List.map_drop,<-A9];rfl
  rw[e];exact this
 |clk=>
  have sub:∀n∈dr nu ns,n∈nu:=λn hn=>sk hn;have:=out (r:=.clk (dr nu ns)) rfl sub _ rfl;have e:dA ns=(nu.filter λy=>!decide (y∈dr nu ns)).map λn=>l9 (j3 (.clk (dr nu ns))) (jK ns0 P n):=by
   have e4:(nu.filter λy=>!decide (y∈dr nu ns))=nu.filter λn=>!cC (jK ns0 P n).2:=by
    refine Ga λn hn=>?_;rw[e3,Ip];by_cases z:cC (jK ns0 P n).2=ai<;>simp[z,hn]
   rw[e4];unfold dA;rw[e3,List.filter_map,Df];rfl
  rw[e];exact this
 |rd=>exact same rfl rfl rfl
 |lk=>exact same rfl rfl rfl
 |gs=>exact same rfl rfl rfl
theorem ny(h:Sts ns0 P ns nu fr):SvI ns0 P ns nu fr:=by
 induction h with
 |nil=>
  refine⟨rfl,(Gu.mpr λ_ _=>rfl).symm,?_,λ_ _=>rfl,λn a b=>absurd b (Nat.not_lt.mpr a),λ_ _=>rfl,λ_ _=>rfl,λn i j r t e=>by simp at e,Al _⟩;refine D3 (by simp) λi h1 h2=>?_;rw[List.getElem_map,List.getElem_range];show _=(((ns0[i]?.getD ([],.none)).1,iy (ns0[i]?.getD ([],.none)).2 0):Nt);rw[Jb,Ah h1];rfl
 |snoc a b ih=>exact ih.step b
theorem S1(B:okBd ps s t nu fr m)(ht:∀q∈t.2,kU q):∃r,e9 r=(aI ps s nu fr m).1/\Stp s.2 nu fr r t.2 (aI ps s nu fr m).2.1 (aI ps s nu fr m).2.2:=by
 obtain⟨st,⟨nd,len,lt⟩,le,af⟩:=B;by_cases em:m=ps.length
 ·subst em;unfold b6 at af;rw[if_pos rfl]at af;cases af;rw[lS];exact⟨.clk (dr nu s.2),rfl,.clk⟩
 ·have hm:m < ps.length:=by omega
  obtain⟨P,xb,xp,nm,w,as,a,H,ea,T⟩:=lH st.2.1 hm af;rw[lr hm ea];cases a with
  |lay fs age=>
   have T:t.2=s.2++[(cx fs nm,age)]:=T;refine⟨.lay m fr (cx fs (js s.1 m),age),rfl,?_⟩;have hq:=(ht (cx fs nm,age) (by rw[T];exact Bf _ As)).2;have en:js s.1 m=nm:=by unfold js;rw[H.hand];rfl
   rw[en,T];exact .lay hq
  |take gs=>
   obtain⟨i,eg,hi,T⟩:=T;have hi':i < nu.length:=by omega
   refine⟨.take m nu[i],?_,?_⟩
   ·show PyData.tuple [.str "takes",.int m,.int (nu[i]:Nat)]=.tuple [.str "takes",.int m,eu nu (bG ps s.1 s.2 m)];rw[eg,pL hi']
   ·show Stp s.2 nu fr _ t.2 (nu.filter λx=>!decide (ae x=eW nu (bG ps s.1 s.2 m))) fr;rw[eg,qu hi',T];exact .take hi (Ah hi')
  |read gs=>exact⟨.rd m (eW nu (bG ps s.1 s.2 m)),rfl,by rw[T.1];exact .rd⟩
  |look gs b=>exact⟨.lk m (eW nu (bG ps s.1 s.2 m)),rfl,by rw[T.1];exact .lk⟩
  |go b=>exact⟨.gs m,rfl,by rw[show t.2=s.2 from T];exact .gs⟩
  |same f g b=>exact⟨.gs m,rfl,by rw[show t.2=s.2 from T];exact .gs⟩
theorem AL(h:Sts ns0 (P++[r]) ns' nu' fr'):∃ns nu fr,Sts ns0 P ns nu fr/\Stp ns nu fr r ns' nu' fr':=by
 generalize e:P++[r]=T at h;cases h with
 |nil=>simp at e
 |snoc a b=>
  obtain⟨rfl,e2⟩:=List.append_inj' e rfl;cases e2;exact⟨_,_,_,a,b⟩
theorem rO{h:Str}(h1:h≠"clock")(h2:h≠"takes"):ku (.tuple (.str h::r))/\ik (.tuple (.str h::r))=aE []:=⟨.inr (.inr ⟨h1,h2⟩),tU h1 h2⟩
theorem BJ(r):ku (e9 r)/\ik (e9 r)=aE (eI r):=by
 cases r with
 |lay m n q=>exact rO (h:="lays") ∅ ∅
 |take m n=>
  refine⟨.inr (.inl ⟨rfl,_,_,rfl⟩),?_⟩;show(if ("takes":Str)="clock" then(match ([.int m,.int n]:List Aa)with|.tuple l::_=>l|_=>[])else if ("takes":Str)="takes" then(([.int m,.int n]:List Aa).drop 1).take 1 else[])=_;rw[if_neg ∅,if_pos rfl];rfl
 |clk l=>
  refine⟨.inl ⟨rfl,_,rfl⟩,?_⟩;show(if ("clock":Str)="clock" then(match ([.tuple (aE l)]:List Aa)with|.tuple l::_=>l|_=>[])else if ("clock":Str)="takes" then(([.tuple (aE l)]:List Aa).drop 1).take 1 else[])=_;nofun;rfl
 |rd m g=>exact rO (h:="reads") ∅ ∅
 |lk m g=>exact rO (h:="looks") ∅ ∅
 |gs m=>exact rO (h:="goes") ∅ ∅
theorem Hw(h:Stp ns nu fr r ns' nu' fr'):(∀x∈eI r,x∈nu)/\((∃m q,r=.lay m fr q/\fr'=fr+1)\/(iB r=ah/\aZ "lays" (.str r.hd)=aj/\fr'=fr)):=by
 cases h with
 |lay h=>exact⟨λx hx=>(nomatch hx),.inl ⟨_,_,rfl,rfl⟩⟩
 |take h e=>exact⟨λx hx=>by rw[Bc.mp hx];exact A1 e,.inr ⟨rfl,show aZ "lays" (.str "takes")=aj by decide +kernel,rfl⟩⟩
 |clk=>exact⟨λx hx=>sk hx,.inr ⟨rfl,show aZ "lays" (.str "clock")=aj by decide +kernel,rfl⟩⟩
 |rd=>exact⟨λx hx=>(nomatch hx),.inr ⟨rfl,show aZ "lays" (.str "reads")=aj by decide +kernel,rfl⟩⟩
 |lk=>exact⟨λx hx=>(nomatch hx),.inr ⟨rfl,show aZ "lays" (.str "looks")=aj by decide +kernel,rfl⟩⟩
 |gs=>exact⟨λx hx=>(nomatch hx),.inr ⟨rfl,show aZ "lays" (.str "goes")=aj by decide +kernel,rfl⟩⟩
def bV(f:Nat->Option Nat)(m:Nat):List Aa:=(A8 m).map λn=>cf (f n)
theorem ml(f)(m):(bV f m).length=m:=by unfold bV;rw[Ab,C2]
theorem Ue{m x k:Nat}:(bV f m).set x (.int k)=bV (λn=>if n=x then ae k else f n) m:=by
 refine D3 (by rw[Cw,ml,ml]) λi h1 h2=>?_;simp only[List.getElem_set,bV,List.getElem_map,List.getElem_range];by_cases e:x=i
 ·rw[if_pos e,if_pos e.symm];rfl
 ·rw[if_neg e,if_neg (Ne.symm e)]
theorem xB:bV f (m+1)=bV f m++[cf (f m)]:=by unfold bV;rw[List.range_succ,A9];rfl
theorem qB(h:∀n < m,f n=g n):bV f m=bV g m:=Cg λn hn=>by rw[h n (Ce.mp hn)]
theorem QO(m):Bj m PyData.none=bV (λ_=>ah) m:=by
 induction m with
 |zero=>rfl
 |succ m ih=>rw[xB,<-ih,List.replicate_succ'];rfl
theorem LP(f g)(m):dv (bV f m) (bV g m)=(A8 m).map λn=>.tuple [cf (f n),cf (g n)]:=by
 unfold dv bV
 induction A8 m with
 |nil=>rfl
 |cons a l ih=>rw[Ba,Ba,Ba,List.zipWith_cons_cons,ih]
theorem p6:cj ns0 P<=ns0.length+P.length:=Nat.add_le_add_left (E5 _ _) _
theorem U6{i x y:Nat}(e:δ[i]?=ae (ae (.own ds)))(hw:∀Q:DQ,Q (~~~y) n->w δ n Q)(hj:∀Q:DQ,Q (~~~x) n->wj δ n Q)(hx:x < ds.length)(k:K.nx (δ.set i (ae (.own (ds.set x (.int y))))) n):gD i wj w δ n K:=by
 unfold gD;rw[e];refine hw _ (hj _ ?_);dsimp only;rw[M0 ⋯ ⋯];exact k
theorem GX(e:δ[j]?=ae (↑(.int (m:Nat))))(hm:m<=1000)(k:K.nx (δ.set i (ae (.own (Bj m .none)))) n):br i (jB (bj (aQ (aq (wC .none) ao))) (ak j)) δ n K:=by
 unfold br jB;refine bc (oi (aD ?_));exact Aj (show 1<=1000 by decide) (av e ⟨.none,m,rfl,rfl,hm,k⟩)
theorem Ub(e1:δ[i]?=ae (↑(.list as)))(e2:δ[j]?=ae (↑(.list bs)))(hl:as.length=bs.length)(k:K.rn (dv as bs) n):oE (rH (aq (ak i) (aq (ak j) ao))) δ n K:=by
 unfold oE rH;show ak i δ n _;refine av e1 ?_;show ak j δ n _;exact av e2 ⟨as,bs,rfl,hl,k⟩
theorem Vg:∀ws n Q,sJ ws n Q->Ib (iE ["log","many","laid","gone","k","row","number"] ws) n {nx:=λ_ _=>False,rt:=λ_ _=>False,rn:=Q}:=λws n Q h=>by
 obtain⟨ns0,Rs,rfl,ok,k⟩:=h;have h30:=ok.le;have h12:=ok.l0;show Ib [↑(.list (Rs.map e9)),↑(.int (ns0.length:Nat)),ah,ah,ah,ah,ah] n _;refine aB (GX rfl ⋯ ?_);ac_nf;refine aB (GX rfl ⋯ ?_);ac_nf;rw[QO];refine aB ?_;unfold aU jh;refine av rfl ⟨Rs.map e9,.inr rfl,?_⟩;refine eV (λds δ m=>m=n/\∃(P T:List Rw)(x4 x5 x6:Option SV),ds=gJ P.length (T.map e9)/\P++T=Rs/\δ=[↑(.list (Rs.map e9)),↑(.int (ns0.length:Nat)),ae (.own (bV (dD P) (cj ns0 P))),ae (.own (bV (cU P) (cj ns0 P))),x4,x5,x6]) (λδ m I=>?_) (λd r δ m N I kN=>?_) _ _ _ ⟨rfl,[],Rs,ah,ah,ah,rfl,rfl,rfl⟩
 ·obtain⟨rfl,P,T,x4,x5,x6,ed,eP,rfl⟩:=I;cases T with
  |cons a T=>rw[Ba,lD]at ed;cases ed
  |nil=>
   rw[Bm]at eP;subst eP;dsimp only;refine gO rfl ?_;ac_nf;refine gO rfl ?_;ac_nf;refine Ub rfl rfl (by rw[ml,ml]) ?_;rw[LP];exact k
 ·obtain⟨rfl,P,T,x4,x5,x6,ed,eP,rfl⟩:=I;cases T with
  |nil=>cases ed
  |cons a T=>
   rw[Ba,lD]at ed;obtain⟨rfl,rfl⟩:=Bk ed;have hP:P.length+(T.length+1)=Rs.length:=by rw[<-eP,Af,Ap]
   obtain⟨nsF,nuF,frF,stF⟩:=ok.st;obtain⟨ns',nu',fr',st'⟩:=wz stF (P.length+1);have eT:Rs.take (P.length+1)=P++[a]:=by rw[<-eP,show P++a::T=(P++[a])++T by simp];exact List.take_left' (by simp)
   rw[eT]at st';obtain⟨ns,nu,fr,st,sp⟩:=AL st';have I:=ny st;have I':=ny st';have hfr:=I.efr;have hfr':=I'.efr;have hle:cj ns0 P<=ns0.length+P.length:=p6;obtain⟨hgo,hly⟩:=Hw sp;refine⟨rfl,?_⟩;grind;have inner:∀K:DEnds,(∀δ n,N δ n->K.nx δ n)->aU (ft (aH qN (aq ↥5 ao))) (aJ 6) (gD 3 ↥6 ↥4) [↑(.list (Rs.map e9)),↑(.int (ns0.length:Nat)),ae (.own (bV (dD (P++[a])) (cj ns0 (P++[a])))),ae (.own (bV (cU P) (cj ns0 (P++[a])))),↑(.int (P.length:Nat)),↑(e9 a),x6] m K:=λK hK=>by
    unfold aU ft;refine cJ (av rfl ⟨e9 a,rfl,(BJ a).1,?_⟩);rw[(BJ a).2];refine eV (λds δ m'=>m'=m/\∃(D E:List Nat)(x6:Option SV),ds=aE E/\D++E=eI a/\δ=[↑(.list (Rs.map e9)),↑(.int (ns0.length:Nat)),ae (.own (bV (dD (P++[a])) (cj ns0 (P++[a])))),ae (.own (bV (λx=>if x∈D then ae P.length else cU P x) (cj ns0 (P++[a])))),↑(.int (P.length:Nat)),↑(e9 a),x6]) (λδ m' J=>?_) (λd' r' δ m' N' J kN'=>?_) _ _ _ ⟨rfl,[],eI a,_,rfl,rfl,by rw[qB (g:=λx=>if x∈([]:List Nat)then ae P.length else cU P x) λx _=>(if_neg An).symm]⟩
    ·obtain⟨rfl,D,E,x6,ed,eD,rfl⟩:=J;cases E with
     |cons b E=>cases ed
     |nil=>
      rw[Bm]at eD;refine hK _ _ (kN _ _ ⟨rfl,P++[a],T,↑(.int (P.length:Nat)),↑(e9 a),x6,by rw[Af];rfl,by rw[<-eP];simp,?_⟩);rw[qB (f:=λx=>if x∈D then ae P.length else cU P x) (g:=cU (P++[a])) λx _=>?_];rw[pG,eD];by_cases hx:x∈eI a
      ·rw[if_pos hx,if_pos hx,(I.lt (hgo x hx)).2];rfl
      ·rw[if_neg hx,if_neg hx,F4]
    ·obtain⟨rfl,D,E,x6,ed,eD,rfl⟩:=J;cases E with
     |nil=>cases ed
     |cons b E=>
      rw[yn]at ed;obtain⟨rfl,rfl⟩:=Bk ed;have hb:b < cj ns0 (P++[a]):=by
       have h1:=(I.lt (hgo b (by rw[<-eD];exact Bf _ As))).1;rw[<-hfr'];rcases hly with⟨_,_,_,e⟩|⟨_,_,e⟩<;>omega
      dsimp only[aJ,Am];refine U6 (x:=b) (y:=P.length) rfl (λQ q=>av rfl q) (λQ q=>av rfl q) (by rw[ml];exact hb) ?_;ac_nf;refine kN' _ _ ⟨rfl,D++[b],E,↑(.int (b:Nat)),rfl,by rw[<-eD];simp,?_⟩;rw[Ue];have key:bV (λx=>if x=b then ae P.length else if x∈D then ae P.length else cU P x) (cj ns0 (P++[a]))=bV (λx=>if x∈D++[b]then ae P.length else cU P x) (cj ns0 (P++[a])):=qB λx _=>by
       by_cases e:x=b
       ·rw[if_pos e,if_pos (by rw[e];simp)]
       ·rw[if_neg e];by_cases e2:x∈D
        ·rw[if_pos e2,if_pos (Dx _ e2)]
        ·rw[if_neg e2,if_neg (by simp[e,e2])]
      rw[key]
   rcases hly with⟨m1,q,rfl,e1⟩|⟨e1,e2,e3⟩
   ·have ef:cj ns0 (P++[Rw.lay m1 fr q])=cj ns0 P+1:=by omega
    refine aB (jE (a:=.str "lays") rfl ∅ ?_);refine aB (gP rfl (λQ q=>av rfl q) (by rw[ml];omega) ?_);ac_nf;refine gP rfl (λQ q=>aD q) (by rw[ml];omega) ?_;ac_nf;have l1:bV (dD P) (cj ns0 P)++[.int (P.length:Nat)]=bV (dD (P++[Rw.lay m1 fr q])) (cj ns0 (P++[Rw.lay m1 fr q])):=by
     rw[ef,xB]
     congr 1
     ·exact qB λx hx=>(kM λz=>by have:=A7 z;omega).symm
     ·rw[sM,<-hfr,I.l2 fr (Al _),if_pos (show iB (Rw.lay m1 fr q)=ae fr from rfl)];rfl
    have g1:bV (cU P) (cj ns0 P)++[.none]=bV (cU P) (cj ns0 (P++[Rw.lay m1 fr q])):=by
     rw[ef,xB,<-hfr,I.g2 fr (Al _)];rfl
    have:=inner;rw[<-l1,<-g1]at this;exact this _ λδ n h=>h
   ·have ef:cj ns0 (P++[a])=cj ns0 P:=by omega
    have l1:bV (dD (P++[a])) (cj ns0 (P++[a]))=bV (dD P) (cj ns0 P):=by
     rw[ef];exact qB λx _=>kM (by rw[e1];exact λz=>nomatch z)
    rw[l1,ef]at inner;refine aB (eY (a:=.str a.hd) rfl e2 ?_);exact inner _ λδ n h=>h
section
variable{δ:Sl}{n:Int}{Q:DQ}
theorem Mt{ds:List Aa}(e1:δ[i]?=ae (↑(.list ds)))(e2:δ[j]?=ae (↑(.int r)))(k:Q (.d (.list (ds.take r))) n):rT (ak i) cF (cy (ak j)) δ n Q:=by
 unfold rT cF cy;refine av e1 (av e2 ?_);dsimp only;rw[AY];exact k
end
theorem RZ(okp:cu ps)(okh:okHs ps (d6 ps))(okn:cO 12 ns)(hl:L.length<=30)(W:Wlk ps (d6 ps,ns) L S):∃R,jG ps ns L R:=by
 have hlt:L.length < S.length:=by rw[W.len];exact Nat.lt_succ_self _
 have:=vy W L.length 0 ⋯ W.fst (by rw[Ex];exact Ah hlt);rw[Fh,Cu (Al _)]at this;obtain⟨R,h⟩:=SI this (A8 ns.length) ns.length;exact⟨R,okp,okh,okn,A4 hl ∎,h⟩
theorem okLg.take(h:okLg ns0 Rs)(k):okLg ns0 (Rs.take k):=by
 obtain⟨a,b,c,s⟩:=h.st;exact⟨wz s k,A4 (Gr _ _) h.le,h.l0,h.ag⟩
theorem Nq(f)(m):gJ 0 ((A8 m).map f)=(A8 m).map λi=>.tuple [.int (i:Nat),f i]:=by
 unfold gJ;refine D3 (by simp) λi h1 h2=>?_;simp
theorem Qp(o:Option Nat):iW (cf o)=o.isNone:=by cases o<;>rfl
theorem Hi(P):∀(l:List Nat)(acc:List Aa)(x y:Option SV)(n:Int),Q (acc++aE (l.filter λi=>(cU P i).isNone)) n->
  di ⇑1012 (cT (w2 (w2 ↥1 ⇑1 az) (wC .none) (bC aj))) ↥0 Q (l.map λi=>.tuple [.int (i:Nat),f6 P i]) acc [x,y] n
 |[],acc,x,y,n,q=>by
  rw[show aE (List.filter (λi=>(cU P i).isNone) [])=[]from rfl,Bm]at q;exact q
 |i::l,acc,x,y,n,k=>by
  have ih:=λacc x y k=>Hi (Q:=Q) P l acc x y n k;refine(show dq 2 _ (.tuple [.int (i:Nat),f6 P i]) [x,y] _ from⟨rfl,?_⟩);grind;refine aC (k:=(cU P i).isNone) (λQ q'=>ar (dI (a:=cf (dD P i)) (b:=cf (cU P i)) (r:=[]) rfl (aD (dY (by rw[if_neg Ae,Qp];exact q'))))) ?_;rw[Cn]at k;refine l4 (λz=>?_) λz=>?_
  ·rw[if_pos z]at k;exact av rfl (ih _ _ _ (by rw[Bh];exact k))
  ·rw[if_neg (by rw[z];exact Ae)]at k;exact ih _ _ _ k
theorem K8:∀ws n Q,xD ws n Q->wL (iE ["log","many","k"] ws) n {nx:=λ_ _=>False,rt:=λ_ _=>False,rn:=Q}:=λws n Q h=>by
 obtain⟨ns0,ns,Rs,nu,fr,k,rfl,ok,hk,st,q⟩:=h;show wL [↑(.list (Rs.map e9)),↑(.int (ns0.length:Nat)),↑(.int k)] n _;have I:=ny st;unfold wL oE cW jh;refine bc (yO (Mt rfl rfl (av rfl ⟨ns0,Rs.take k,by rw[List.map_take],ok.take k,_,.inr rfl,?_⟩)));rw[Nq];show di _ _ _ _ _ _ [ah,ah] n;refine Hi (Rs.take k) _ [] ah ah n ?_;rw[<-I.efr,<-I.enu];exact q
theorem lF:∀(l:List (Fd×Aa))(h:Nm)(hs hs':List Str),(∀y,y∈hs↔y∈hs')->wk l h hs=wk l h hs'
 |[],h,hs,hs',e=>rfl
 | (.is w,v)::r,h,hs,hs',e=>by unfold wk;rw[lF r h hs hs' e]
 | (.any,v)::r,h,hs,hs',e=>by unfold wk;rw[lF r h hs hs' e]
 | (.word,v)::r,h,hs,hs',e=>by unfold wk;rw[lF r h hs hs' e]
 | (.number,v)::r,h,hs,hs',e=>by unfold wk;rw[lF r h hs hs' e]
 | (.as x,v)::r,h,hs,hs',e=>by unfold wk;simp only[lF r h hs hs' e]
 | (.bind x,v)::r,h,hs,hs',e=>by
  have e2:∀y,y∈hs++[x]↔y∈hs'++[x]:=λy=>by rw[Bd,Bd,e y]
  unfold wk;simp only[lF r h hs hs' e,lF r (put h x v) (hs++[x]) (hs'++[x]) e2,e x]
theorem yG(ha:cq a=ai)(hb:cq b=ai)(k:Q (.d (.bool (!dQ a b))) n):cL (.d a) (.d b) n Q:=NW ha hb k
theorem S4(h:¬fs.length=row.length):eL fs row nm=.none:=by
 unfold eL cY;rw[decide_eq_false h,if_neg (by rw[Bool.false_and];exact Ae)]
abbrev Fi(fs:List Fd)(row:List Aa)(nm hp:Nm)(hs:List Str)(t:Sl):Sl:=↑(dB fs)::↑(.tuple row)::↑(b7 nm)::ae (.odk (bE hp))::ae (.own (hs.map .str))::t
def qV:Option Nm->Aa
 |none=>.none
 |some h=>b7 (cQ h)
theorem Ua(h:fs.length=row.length):eL fs row nm=qV (wk (fs.zip row) nm []):=by
 unfold eL cY fO;rw[decide_eq_true h,Gm];cases wk (fs.zip row) nm []with
 |none=>rw[if_neg (by rw[Option.isSome_none];exact Ae)];rfl
 |some x=>rw[if_pos (show(ae x).isSome=ai from rfl)];rfl
section
variable{δ:Sl}{n:Int}{Q:Bool->Int->Prop}{K:DEnds}{hp:Nm}{hs:List Str}{x:Str}{v:Aa}{row:List Aa}{i:Nat}
theorem GR{Q:DQ}(h:∀Q:DQ,Q (.d d) n->w δ n Q)(ty)(k:Q (.d (.bool (dw ty d))) n):bF ty w δ n Q:=h _ k
theorem iN{Q:DQ}(e1:δ[1]?=ae (↑(.tuple row)))(e5:δ[5]?=ae (↑(.int (i:Nat))))(h:row[i]?=ae v)(k:Q (.d v) n):w2 ↥1 ↥5 az δ n Q:=ar (av e1 (av e5 (bN h k)))
theorem zx(e3:δ[3]?=ae (ae (.odk (bE hp))))(e7:δ[7]?=ae (↑(.str x)))(e1:δ[1]?=ae (↑(.tuple row)))(e5:δ[5]?=ae (↑(.int (i:Nat))))(h:row[i]?=ae v)(hw:look hp x=ae w)(iw:cq w=ai)(iv:cq v=ai)(k:Q (!dQ w v) n):
  cT ⇑1007 δ n Q:=by
 have pk:∀(n:Int)(Q:DQ),Q (.dk (bE hp)) n->c9 3 δ n Q:=λn Q q=>by unfold c9;rw[e3];exact q
 refine aC (k:=!dQ w v) (λQ q=>ar (ar (pk _ _ (av e7 ?_)))) k;unfold gg;simp only[kA,hw];exact iN e1 e5 h (yG iw iv q)
end
theorem MV:b9 jV zD ["_law_pattern_here","_law_row_here","_law_names","_law_have","_law_bound","_law_k","_law_sort","_law_name"]:=λws n Q h=>by
 obtain⟨fs,row,nm,rfl,okp,okr,okn,k⟩:=h;show zD [↑(dB fs),↑(.tuple row),↑(b7 nm),ah,ah,ah,ah,ah] n {nx:=λ_ n=>Q (.d .none) n,rt:=Q};refine aB (p7 rfl okn ?_);ac_nf;refine aB (iI ?_);ac_nf;refine aB ?_;unfold aU dC;refine tI (ds:=fs.map Fd.d) rfl ?_;refine Aj ⟨by have:=okp.2.1;rw[Ab];omega,by have:=okp.2.1;rw[Ab];omega⟩ ?_;rw[Bs,Ab];have lenC:∀(δ:Sl),δ[0]?=ae (↑(dB fs))->δ[1]?=ae (↑(.tuple row))->∀Q:Bool->Int->Prop,Q (!decide (fs.length=row.length)) n->cT ⇑1006 δ n Q:=λδ e0 e1 Q q=>aC (k:=!decide (((fs.map Fd.d).length:Int)=(row.length:Int))) (λQ q=>ar (tI (ds:=fs.map Fd.d) e0 (tI e1 q))) (by
  rw[Ab];have:decide ((fs.length:Int)=(row.length:Int))=decide (fs.length=row.length):=by rw[E1,decide_eq_true_iff,decide_eq_true_iff];omega
  rw[this];exact q)
 by_cases el:fs.length=row.length
 ·rw[decide_eq_true el]at lenC;rw[Ua el]at k;refine eV (λds δ m=>m=n/\∃(fd gs:List Fd)(rd vs:List Aa)(hp:Nm)(hs:List Str)(y z u:Option SV),ds=cb (fd.length:Nat) gs.length/\fs=fd++gs/\row=rd++vs/\fd.length=rd.length/\gs.length=vs.length/\δ=(Fi fs row nm hp hs [y,z,u]) /\
   (hp.map (·.1)).Nodup/\(∀p∈hp,gE p)/\(∀x∈hs,∃w,look hp x=ae w)/\hp.length+gs.length<=48/\hs.length+gs.length<=48/\Q (.d (qV (wk (gs.zip vs) hp hs))) n) ?_ ?_ _ _ _ ?_
  ·rintro δ m ⟨rfl,fd,gs,rd,vs,hp,hs,y,z,u,e,e1,e2,hl,hl2,rfl,nd,hok,hin,l1,l2,kq⟩
   have:gs=[]:=by
    cases gs with
    |nil=>rfl
    |cons g gs=>rw[Ap,my]at e;cases e
   subst this;dsimp only;rw[Gs]at l1;refine(show ∃ps':Nm,bE hp=bE ps'/\_ from⟨hp,rfl,by omega,nd,λp hp'=>⟨A4 (hok p hp').1.1 ∎,zW (hok p hp').2⟩,λps' p1 r1=>?_⟩);have kq:Q (.d (b7 (cQ hp))) m:=kq;rw[<-Jh nd p1 r1]at kq;exact kq
  ·rintro d r δ m N ⟨rfl,fd,gs,rd,vs,hp,hs,y,z,u,e,e1,e2,hl,hl2,rfl,nd,hok,hin,l1,l2,kq⟩ hN
   cases gs with
   |nil=>cases e
   |cons g gs=>
    cases vs with
    |nil=>cases hl2
    |cons v vs=>
     rw[Ap,my]at e;obtain⟨rfl,rfl⟩:=Bk e;rw[Ap]at l1 l2;rw[Ap,Ap]at hl2;have hg:(fs.map Fd.d)[fd.length]?=ae g.d:=by rw[e1,Ax,Bt (Al _),Gd];rfl
     have hv:row[fd.length]?=ae v:=by rw[e2,hl,Bt (Al _),Gd];rfl
     have gk:g.ok:=okp.2.2 g (by rw[e1];simp);have vk:cq v=ai:=okr.2 v (by rw[e2];simp);rw[Fz]at kq;have no:(wk ((g,v)::gs.zip vs) hp hs=ah)->Q (.d .none) m:=λw=>by rw[w]at kq;exact kq
     have go:∀(hp':Nm)(hs':List Str)(y z u:Option SV),wk ((g,v)::gs.zip vs) hp hs=wk (gs.zip vs) hp' hs'->(hp'.map (·.1)).Nodup->(∀p∈hp',gE p)->(∀x∈hs',∃w,look hp' x=ae w)->hp'.length<=hp.length+1->hs'.length<=hs.length+1->
       N (Fi fs row nm hp' hs' [y,z,u]) m:=λhp' hs' y z u hw a1 a2 a5 a3 a4=>
      hN _ _ ⟨rfl,fd++[g],gs,rd++[v],vs,hp',hs',y,z,u,by rw[Af,Av];rfl,by rw[e1,Bh];rfl,by rw[e2,Bh];rfl,by rw[Af,Af,Av,Av,hl],by omega,rfl,a1,a2,a5,by omega,by omega,by rw[<-hw];exact kq⟩
     have atk:∀(δ:Sl)(n:Int)(Q:DQ),δ[0]?=ae (↑(dB fs))->δ[5]?=ae (↑(.int (fd.length:Nat)))->Q (.d g.d) n->w2 ↥0 ↥5 az δ n Q:=λδ n Q e0 e5 q=>ar (av e0 (av e5 (bN hg q)));dsimp only[aJ,Am];refine aB (bx (x:=.str g.hd) (λQ q=>ar (atk _ _ _ rfl rfl ?_)) ?_)
     ·rw[Fd.parts];exact aD (cP q)
     ac_nf
     have nx:∀(x:Str)(u:Option SV),aZ "as" (.str g.hd)=aj->aZ "bind" (.str g.hd)=aj->wk ((g,v)::gs.zip vs) hp hs=wk (gs.zip vs) hp hs->dh (.str g.hd::g.tl) (-1)=ae (.str x)->
       ⇑1000 (Fi fs row nm hp hs [↑(.int (fd.length:Nat)),↑(.str g.hd),u]) m {nx:=N,ct:=N,bk:=λδ n_1=>aw ⇑1029 δ n_1 {nx:=λ_ n=>Q (.d .none) n,rt:=Q},rt:=Q}:=λx u h1 h2 hw hx=>by
      refine aB (bx (x:=.str x) (λQ q=>ar (atk _ _ _ rfl rfl ?_)) ?_)
      ·rw[Fd.parts];show match dh (.str g.hd::g.tl) (-1)with|some d=>Q (.d d) m|none=>False
       rw[hx];exact q
      ac_nf;refine aB (aT (λQ q=>iJ (λQ q=>aC (k:=aj) (λQ q=>gU rfl (by rw[h1];exact q)) q) q) ?_);ac_rfl;exact yS rfl h2 (go hp hs _ _ _ hw nd hok hin ⋯ ⋯)
     have c1:aZ "is" (.str g.hd)=aj->∀(δ:Sl),δ[0]?=ae (↑(dB fs))->δ[1]?=ae (↑(.tuple row))->δ[6]?=ae (↑(.str g.hd))->∀Q:Bool->Int->Prop,Q aj m->fX (cT ⇑1006) ⇑1023 δ m Q:=λh δ e0 e1 e6 Q q=>fS (λQ q=>lenC δ e0 e1 Q q) (iJ (λQ q=>aC (k:=aj) (λQ q=>gU e6 (by rw[h];exact q)) q) q);have c2:∀(δ:Sl),δ[6]?=ae (↑(.str g.hd))->b8 (.str g.hd) [.str "word",.str "number"]=aj->∀Q:Bool->Int->Prop,Q aj m->bW ⇑1008 ⇑1009 δ m Q:=λδ e6 h Q q=>iJ (λQ q=>mE e6 h q) q;cases g with
     |any=>
      refine aB (aT (λQ q=>c1 ∅ _ rfl rfl rfl Q q) ?_);ac_rfl;refine aB (aT (λQ q=>c2 _ rfl ∅ Q q) ?_);ac_rfl;exact nx "any" _ ∅ ∅ (by rw[wk]) rfl
     |is w=>
      have hw:cq w=ai:=gk;cases eb:dQ w v with
      |false=>
       refine aB (bB (λQ q=>fS (λQ q=>lenC _ rfl rfl Q q) (iA (λQ q=>aC (k:=ai) (λQ q=>gU (d:=.str "is") rfl (by rw[show aZ "is" (.str "is")=ai from sG];exact q)) q) (aC (k:=ai) (λQ q=>ar (ar (atk _ _ _ rfl rfl (aD (d4 (iN rfl rfl hv (yG hw vk (by rw[eb];exact q)))))))) q))) (bb (aD (no (by rw[wk,if_neg (by rw[eb];exact Ae)])))))
      |true=>
       refine aB (aT (λQ q=>fS (λQ q=>lenC _ rfl rfl Q q) (iA (λQ q=>aC (k:=ai) (λQ q=>gU (d:=.str "is") rfl (by rw[show aZ "is" (.str "is")=ai from sG];exact q)) q) (aC (k:=aj) (λQ q=>ar (ar (atk _ _ _ rfl rfl (aD (d4 (iN rfl rfl hv (yG hw vk (by rw[eb];exact q)))))))) q))) ?_);ac_rfl;refine aB (aT (λQ q=>c2 _ rfl (show b8 (.str "is") [.str "word",.str "number"]=aj by decide +kernel) Q q) ?_);ac_rfl;have kx:wk ((Fd.is w,v)::gs.zip vs) hp hs=wk (gs.zip vs) hp hs:=by rw[wk,if_pos eb]
       refine aB (bx (x:=w) (λQ q=>ar (atk _ _ _ rfl rfl (show match dh [.str "is",w] (-1)with|some d=>Q (.d d) m|none=>False from q))) ?_);ac_nf;refine aB (aT (λQ q=>iJ (λQ q=>aC (k:=aj) (λQ q=>gU (d:=.str "is") rfl (by rw[show aZ "as" (.str "is")=aj by decide +kernel];exact q)) q) q) ?_);ac_rfl;exact yS (d:=.str "is") rfl ∅ (go hp hs _ _ _ kx nd hok hin ⋯ ⋯)
     |word=>
      refine aB (aT (λQ q=>c1 ∅ _ rfl rfl rfl Q q) ?_);ac_rfl;have cw:∀(b:Bool),iP v=!b->∀Q:Bool->Int->Prop,Q b m->bW ⇑1008 ⇑1009 (Fi fs row nm hp hs [↑(.int (fd.length:Nat)),↑(.str "word"),u]) m Q:=λb hb Q q=>iA (λQ q=>mE (s:="word") rfl ∅ q) (aC (k:=b) (λQ q=>ar (GR (d:=v) (λQ q=>iN rfl rfl hv q) _ (gU (d:=.str "word") rfl (by
        rw[VE];cases v with
        |str s=>rw[nM];cases b with|true=>cases hb|false=>exact q
        |int i=>rw[nM];cases b with|true=>exact q|false=>cases hb
        |_=>cases vk)))) q)
      cases hs':iP v with
      |true=>
       refine aB (aT (λQ q=>cw aj (by rw[hs'];rfl) Q q) ?_);ac_rfl;exact nx "word" _ ∅ ∅ (by rw[wk,if_pos hs']) rfl
      |false=>exact aB (bB (λQ q=>cw ai (by rw[hs'];rfl) Q q) (bb (aD (no (by rw[wk,if_neg (by rw[hs'];exact Ae)])))))
     |number=>
      refine aB (aT (λQ q=>c1 ∅ _ rfl rfl rfl Q q) ?_);ac_rfl;have cw:∀(b:Bool),iD v=!b->∀Q:Bool->Int->Prop,Q b m->bW ⇑1008 ⇑1009 (Fi fs row nm hp hs [↑(.int (fd.length:Nat)),↑(.str "number"),u]) m Q:=λb hb Q q=>iA (λQ q=>mE (s:="number") rfl ∅ q) (aC (k:=b) (λQ q=>ar (GR (d:=v) (λQ q=>iN rfl rfl hv q) _ (gU (d:=.str "number") rfl (by
        rw[Vp];cases v with
        |str s=>rw[nM];cases b with|true=>exact q|false=>cases hb
        |int i=>rw[nM];cases b with|true=>cases hb|false=>exact q
        |_=>cases vk)))) q)
      cases hs':iD v with
      |true=>
       refine aB (aT (λQ q=>cw aj (by rw[hs'];rfl) Q q) ?_);ac_rfl;exact nx "number" _ ∅ ∅ (by rw[wk,if_pos hs']) rfl
      |false=>exact aB (bB (λQ q=>cw ai (by rw[hs'];rfl) Q q) (bb (aD (no (by rw[wk,if_neg (by rw[hs'];exact Ae)])))))
     |as x=>
      refine aB (aT (λQ q=>c1 (show aZ "is" (.str "as")=aj by decide +kernel) _ rfl rfl rfl Q q) ?_);ac_rfl;refine aB (aT (λQ q=>c2 _ rfl (show b8 (.str "as") [.str "word",.str "number"]=aj by decide +kernel) Q q) ?_);ac_rfl;refine aB (bx (x:=.str x) (λQ q=>ar (atk _ _ _ rfl rfl (show match dh [.str "as",.str x] (-1)with|some d=>Q (.d d) m|none=>False from q))) ?_);ac_nf;have pk:∀(n:Int)(Q:DQ),Q (.dk (bE hp)) n->c9 3 (Fi fs row nm hp hs [↑(.int (fd.length:Nat)),↑(.str "as"),↑(.str x)]) n Q:=λn Q q=>q;cases el2:look hp x with
      |none=>
       refine aB (bB (λQ q=>iA (λQ q=>aC (k:=ai) (λQ q=>gU (d:=.str "as") rfl (by rw[EM];exact q)) q) (l5 (λQ q=>aC (k:=ai) (λQ q=>ar (av rfl (pk _ _ ?_))) q) q)) (bb (aD (no (by rw[wk,el2])))));show Q (.d (.bool (!(cE (bE hp) (.inr x)).isSome))) m;rw[kA,el2];exact q
      |some w=>
       have iw:=(hok _ (l3 el2)).2;have cn:∀Q:Bool->Int->Prop,Q (!dQ w v) m->bW (cT (w2 ↥6 ⇑"as" a9)) (fX (cT (w2 ↥7 (c9 3) (eQ ai))) (cT ⇑1007)) (Fi fs row nm hp hs [↑(.int (fd.length:Nat)),↑(.str "as"),↑(.str x)]) m Q:=λQ q=>iA (λQ q=>aC (k:=ai) (λQ q=>gU (d:=.str "as") rfl (by rw[EM];exact q)) q) (fS (λQ q=>aC (k:=aj) (λQ q=>ar (av rfl (pk _ _ (by show Q (.d (.bool (!(cE (bE hp) (.inr x)).isSome))) m;rw[kA,el2];exact q)))) q) (zx rfl rfl rfl rfl hv el2 iw vk q));cases eb:dQ w v with
       |false=>rw[eb]at cn;exact aB (bB cn (bb (aD (no (by rw[wk,el2];show(if dQ w v=ai then _ else _)=_;rw[if_neg (by rw[eb];exact Ae)])))))
       |true=>
        rw[eb]at cn;refine aB (aT cn ?_);ac_rfl;exact yS (d:=.str "as") rfl ∅ (go hp hs _ _ _ (by rw[wk,el2];show(if dQ w v=ai then _ else _)=_;rw[if_pos eb]) nd hok hin ⋯ ⋯)
     |bind x=>
      refine aB (aT (λQ q=>c1 (show aZ "is" (.str "bind")=aj by decide +kernel) _ rfl rfl rfl Q q) ?_);ac_rfl;refine aB (aT (λQ q=>c2 _ rfl (show b8 (.str "bind") [.str "word",.str "number"]=aj by decide +kernel) Q q) ?_);ac_rfl;refine aB (bx (x:=.str x) (λQ q=>ar (atk _ _ _ rfl rfl (show match dh [.str "bind",.str x] (-1)with|some d=>Q (.d d) m|none=>False from q))) ?_);ac_nf;refine aB (aT (λQ q=>iJ (λQ q=>aC (k:=aj) (λQ q=>gU (d:=.str "bind") rfl (by rw[Sk];exact q)) q) q) ?_);ac_rfl;refine UU (d:=.str "bind") rfl HP ?_;have inb:∀Q:Bool->Int->Prop,Q (decide (x∈hs)) m->cT (nr 4 ↥7) (Fi fs row nm hp hs [↑(.int (fd.length:Nat)),↑(.str "bind"),↑(.str x)]) m Q:=λQ q=>by
       unfold cT nr;refine av rfl ?_;refine⟨rfl,qJ hs,?_⟩;show Q (b8 (.str x) (hs.map .str)) m;rw[mF];exact q
      have put9:∀(hs':List Str),wk ((Fd.bind x,v)::gs.zip vs) hp hs=wk (gs.zip vs) (put hp x v) (hs++[x])->(au (k8 3 ↥7 (w2 ↥1 ↥5 az)) (aX 4 ↥7)) (Fi fs row nm hp hs [↑(.int (fd.length:Nat)),↑(.str "bind"),↑(.str x)]) m {nx:=N,ct:=N,bk:=λδ n_1=>aw ⇑1029 δ n_1 {nx:=λ_ n=>Q (.d .none) n,rt:=Q},rt:=Q}:=λ_ hw=>by
       refine aB ?_;unfold k8;refine(show(match ae (ae (SV.odk (bE hp)))with|some (ae (.odk kvs))=>_|_=>False)from ?_);refine iN rfl rfl hv (av rfl ⟨by unfold bE;rw[Ab];omega,?_⟩);rw[tu];ac_nf;refine gP (x:=.str x) (es:=hs.map .str) rfl (λQ q=>av rfl q) (by rw[Ab];omega) ?_;ac_nf;have:=go (put hp x v) (hs++[x]) (↑(.int (fd.length:Nat))) (↑(.str "bind")) (↑(.str x)) hw (vj nd) (oS hok gk vk) (λy hy=>by
        by_cases e:y=x
        ·exact⟨v,by rw[e];exact xa _ _ _⟩
        ·rcases Bd.mp hy with hy|hy
         ·obtain⟨w,hw⟩:=hin y hy;exact⟨w,by rw[ya e];exact hw⟩
         ·exact absurd (Bc.mp hy) e) (sV _ _ _) (by rw[Af];exact Al _)
       unfold Fi at this;rw[A9]at this;exact this
      by_cases hx:x∈hs
      ·obtain⟨w,hw⟩:=hin x hx;have iw:=(hok _ (l3 hw)).2;have cn:∀Q:Bool->Int->Prop,Q (!dQ w v) m->bW (cT (nr 4 ↥7)) (cT ⇑1007) (Fi fs row nm hp hs [↑(.int (fd.length:Nat)),↑(.str "bind"),↑(.str x)]) m Q:=λQ q=>iA (λQ q=>inb Q (by rw[decide_eq_true hx];exact q)) (zx rfl rfl rfl rfl hv hw iw vk q);cases eb:dQ w v with
       |false=>rw[eb]at cn;exact aB (bB cn (bb (aD (no (by rw[wk,if_pos hx,hw];show(if dQ w v=ai then _ else _)=_;rw[if_neg (by rw[eb];exact Ae)])))))
       |true=>
        rw[eb]at cn;refine aB (aT cn ?_);ac_rfl;refine put9 hs ?_;have ev:=Iq iw vk eb;subst ev;rw[HM nd hw,wk,if_pos hx,hw];show(if dQ w w=ai then _ else _)=_;rw[if_pos eb];exact lF _ _ _ _ λy=>by rw[Bd,Bc];exact⟨.inl,λz=>z.elim id λe=>e▸hx⟩
      ·refine aB (aT (λQ q=>iJ (λQ q=>inb Q (by rw[decide_eq_false hx];exact q)) q) ?_);ac_rfl;exact put9 hs (by rw[wk,if_neg hx])
  ·exact⟨rfl,[],fs,[],row,nm,[],ah,ah,ah,rfl,rfl,rfl,rfl,el,rfl,okn.2.1,okn.2.2,(λx hx=>absurd hx An),(by have:=okp.2.1;have:=okn.1;omega),(by have:=okp.2.1;rw[Gs];omega),k⟩
 ·rw[decide_eq_false el]at lenC;rw[S4 el]at k;obtain⟨f,gs,rfl⟩:∃f gs,fs=f::gs:=by
   cases fs with
   |nil=>exact absurd okp.1 ∎
   |cons f gs=>exact⟨f,gs,rfl⟩
  rw[Ap,my];show aJ 5 _ _ _;dsimp only[aJ,Am];refine aB (bx (x:=.str f.hd) (λQ q=>ar (ar (av rfl (av rfl (bN (i:=0) (x:=f.d) rfl ?_))))) ?_)
  ·rw[Fd.parts];exact aD (cP q)
  ac_nf;exact aB (bB (λQ q=>l5 (λQ q=>lenC _ rfl rfl Q q) q) (bb (aD k)))
theorem U0:b9 nc Ik ["_law_template_here","_law_names","_law_have","_law_row_here","_law_sort","_law_thing","_law_value_here"]:=λws n Q h=>by
 obtain⟨fs,nm,rfl,hl,ok,okn,k⟩:=h;show Ik [↑(fA fs),↑(b7 nm),ah,ah,ah,ah,ah] n _;refine aB (p7 rfl okn ?_);ac_nf;refine aB (iI ?_);ac_nf;refine aB ?_;unfold aU ft;refine av rfl ?_;dsimp only[fA];refine eV (λds δ m=>m=n/\∃(dn re:List Fe)(x y z:Option SV),ds=re.map Fe.d/\dn++re=fs/\δ=[↑(fA fs),↑(b7 nm),ae (.odk (bE nm)),ae (.own (dn.map (eC nm))),x,y,z]) (λδ m I=>?_) (λd r δ m N I kN=>?_) _ _ _ ⟨rfl,[],fs,ah,ah,ah,rfl,rfl,rfl⟩
 ·obtain⟨rfl,dn,re,x,y,z,ed,en,rfl⟩:=I;cases List.map_eq_nil_iff.mp ed.symm;rw[Bm]at en;subst en;dsimp only;refine gO rfl ?_;ac_nf;exact bb (aN (av rfl (pT k)))
 ·obtain⟨rfl,dn,re,x,y,z,ed,en,rfl⟩:=I;obtain⟨f,re,rfl,rfl,rfl⟩:=Gq.mp ed.symm;have hf:=ok f (by rw[<-en];exact Bf _ As);have hdn:dn.length < 1000000:=by
   have:=congrArg F2 en;rw[Af]at this;omega
  have nxt:∀(x y z:Option SV),N [↑(fA fs),↑(b7 nm),ae (.odk (bE nm)),ae (.own (dn.map (eC nm)++[eC nm f])),x,y,z] m:=λx y z=>
   kN _ _ ⟨rfl,dn++[f],re,x,y,z,rfl,by rw[Bh];exact en,by rw[A9];rfl⟩
  obtain⟨fo,tm,us⟩:=hf;have app:∀(K:DEnds)(x y:Option SV)(v:Aa),v=eC nm f->(∀δ n,N δ n->K.nx δ n)->aX 3 ↥6 [↑(fA fs),↑(b7 nm),ae (.odk (bE nm)),ae (.own (dn.map (eC nm))),x,y,↑v] m K:=λK x y v e hK=>
   gP rfl (λQ q=>av rfl q) (by rw[Ab];exact hdn) (by subst e;exact hK _ _ (nxt _ _ _))
  have named:∀(K:DEnds)(s x:Str)(v:Aa),look nm x=ae v->aZ "is" (.str s)=aj->(au (aL ⇑1020 (aF 6 (w2 (w2 ↥6 ⇑1 (c6 λi j=>.int (i+j))) ⇑100 (gI (λ_ j=>0 < j) λi j=>.int (i % j)))) aG) (aX 3 ↥6)) [↑(fA fs),↑(b7 nm),ae (.odk (bE nm)),ae (.own (dn.map (eC nm))),↑(.str s),↑(.str x),↑v] m K->
    au (aF 6 ↥5) (au (aL (cT (w2 ↥4 ⇑"is" cL)) (aF 6 (w2 (c9 2) ↥5 gg)) aG) (au (aL ⇑1020 (aF 6 (w2 (w2 ↥6 ⇑1 (c6 λi j=>.int (i+j))) ⇑100 (gI (λ_ j=>0 < j) λi j=>.int (i % j)))) aG) (aX 3 ↥6))) [↑(fA fs),↑(b7 nm),ae (.odk (bE nm)),ae (.own (dn.map (eC nm))),↑(.str s),↑(.str x),z] m K:=λK s x v e hs kk=>by
   refine aB (bx (x:=.str x) (λQ q=>av rfl q) ?_);ac_nf;refine aB (bB (λQ q=>aC (k:=ai) (λQ q=>ar (av rfl (aD (mW (by rw[hs];exact q))))) q) ?_);refine bx (x:=v) (λQ q=>ar ?_) ?_
   ·show c9 2 _ _ _;unfold c9;refine av rfl ?_;unfold gg;simp only[kA,e];exact q
   ·ac_nf;exact kk
  refine⟨(by cases f<;>first|rfl|cases tm),?_⟩;cases f with
  |isv d=>
   dsimp only[Fe.hd,Fe.tl,bh,ck,aJ,Am];refine aB (bx (x:=d) (λQ q=>av rfl q) ?_);ac_nf;refine aB (aT (λQ q=>aC (k:=aj) (λQ q=>ar (av rfl (aD (mW (by rw[sG];exact q))))) q) ?_);ac_rfl;refine aB (aT (λQ q=>iJ (λQ q=>gU (d:=.str "is") rfl (by rw[show aZ "next" (.str "is")=aj by decide +kernel];exact q)) q) ?_);ac_rfl;exact app _ _ _ _ rfl λ_ _ z=>z
  |as x=>
   obtain⟨v,e,hv⟩:=us x rfl;dsimp only[Fe.hd,Fe.tl,bh,ck,aJ,Am];refine named _ "as" x v e HU ?_;refine aB (aT (λQ q=>iJ (λQ q=>gU (d:=.str "as") rfl (by rw[show aZ "next" (.str "as")=aj by decide +kernel];exact q)) q) ?_);ac_rfl;exact app _ _ _ _ (by show v=iu nm x;unfold iu;rw[e];rfl) λ_ _ z=>z
  |nx x=>
   obtain⟨v,e,hv⟩:=us x rfl;have ev:eC nm (.nx x)=lI v:=by show lI (iu nm x)=_;unfold iu;rw[e];rfl
   dsimp only[Fe.hd,Fe.tl,bh,ck,aJ,Am];refine named _ "next" x v e ∅ ?_;cases v with
   |str t=>
    refine aB (aT (λQ q=>iA (λQ q=>gU (d:=.str "next") rfl (by rw[show aZ "next" (.str "next")=ai by decide +kernel];exact q)) (iq (k:=ai) (λQ q=>aC (k:=ai) (λQ q=>show bF _ _ _ _ _ from av rfl (show Q (.d (.bool (dw "str" (.str t)))) m by rw[nM];exact q)) q) q)) ?_);ac_rfl;exact app _ _ _ _ (by rw[ev];rfl) λ_ _ z=>z
   |int i=>
    refine aB (bB (λQ q=>iA (λQ q=>gU (d:=.str "next") rfl (by rw[show aZ "next" (.str "next")=ai by decide +kernel];exact q)) (iq (k:=aj) (λQ q=>aC (k:=aj) (λQ q=>show bF _ _ _ _ _ from av rfl (show Q (.d (.bool (dw "str" (.int i)))) m by rw[nM];exact q)) q) q)) ?_);refine bx (x:=.int ((i+1) % 100)) (λQ q=>ar (ar (av rfl (aD (du (aD ⟨show(0:Int) < 100 by decide,q⟩)))))) ?_;ac_nf;exact app _ _ _ _ (by rw[ev,SU hv]) λ_ _ z=>z
   |_=>cases hv
  |_=>cases tm
theorem Sj:b9 m3 FT ["_law_act_here","_law_notes_here","_law_names","_law_k"]:=λws n Q h=>by
 obtain⟨a,fs,ns,nm,rfl,oa,ef,okn,onm,k⟩:=h;obtain⟨of,s,r,e,_,_⟩:=yr ef oa;show FT [↑a.d,↑(bH ns),↑(b7 nm),ah] n _;rw[e];refine aB ?_;unfold aU dC;refine tI (ds:=ns.map cS) rfl ?_;refine Aj ⟨by omega,by rw[Ab];have:=okn.1;omega⟩ ?_;rw[Bs,Ab];refine eV (λds δ m=>m=n/\∃(dn re:List Nt)(x3:Option SV),ds=cb (dn.length:Nat) re.length/\dn++re=ns/\δ=[↑(.tuple (.str s::dB fs::r)),↑(bH ns),↑(b7 nm),x3] /\
  Q (.d (cf ((bu fs nm re).map λi=>i+dn.length))) n) (λδ m I=>?_) (λd r' δ m N I kN=>?_) _ _ _ ⟨rfl,[],ns,ah,rfl,rfl,rfl,?_⟩
 ·obtain⟨rfl,dn,re,x3,ed,en,rfl,kq⟩:=I;have:re=[]:=by
   cases re with
   |nil=>rfl
   |cons q re=>rw[Ap,my]at ed;cases ed
  subst this;exact(show Q (.d .none) m from kq)
 ·obtain⟨rfl,dn,re,x3,ed,en,rfl,kq⟩:=I;cases re with
  |nil=>cases ed
  |cons q re=>
   rw[Ap,my]at ed;obtain⟨rfl,rfl⟩:=Bk ed;have hq:ns[dn.length]?=ae q:=by rw[<-en];simp
   have oq:=okn.2 q (A1 hq);have hq':(ns.map cS)[dn.length]?=ae (.tuple [.tuple q.1,q.2]):=by rw[Ax,hq];rfl
   dsimp only[aJ,Am];have cal:∀Q:Bool->Int->Prop,Q (cY fs q.1 nm) m->cT (w2 (aH jV (aq (w2 ↥0 ⇑1 az) (aq (w2 (w2 ↥1 ↥3 az) ⇑0 az) (aq ↥2 ao)))) (wC .none) (bC ai)) [↑(.tuple (.str s::dB fs::r)),↑(bH ns),↑(b7 nm),↑(.int (dn.length:Nat))] m Q:=λQ q'=>aC (k:=cY fs q.1 nm) (λQ q'=>by
    refine ar (bX (dI rfl (ar (ar (av rfl (av rfl (bN hq' (aD (cP (av rfl ?_)))))))) ));refine⟨fs,q.1,nm,rfl,of,oq.1,onm,aD (dY ?_)⟩;rw[if_pos rfl,GZ,Bool.not_not];exact q') q'
   cases eb:cY fs q.1 nm with
   |true=>
    rw[eb]at cal;rw[rP,if_pos eb,Option.map_some,Ex]at kq;exact bB cal (bb (av rfl kq))
   |false=>
    rw[eb]at cal;refine aT cal (kN _ _ ⟨rfl,dn++[q],re,_,?_,by rw[Bh];exact en,rfl,?_⟩)
    ·rw[Af,Av];rw[show((dn.length+1:Nat):Int)=(dn.length:Int)+1 from rfl]
    ·rw[rP,if_neg (by rw[eb];exact Ae),Option.map_map]at kq;have:((λi=>i+dn.length) ∘ λx=>x+1)=λi=>i+(dn++[q]).length:=funext λx=>by
      show x+1+dn.length=_;rw[Af,Av];omega
     rw[this]at kq;exact kq
 ·rw[show(λi=>i+([]:List Nt).length)=id from rfl,Option.map_id];exact k
theorem OP:b9 i8 FP ["_law_program_here","_law_block","_law_names"]:=λws n Q h=>by
 obtain⟨P,b,nm,⟨w,as⟩,rfl,hb,hw,k⟩:=h;have hbD:(P.map lT)[b]?=ae (.tuple [d7 w,.tuple (as.map Ac.d)]):=by rw[Ax,hb];rfl
 have ew:mS P b=w:=by unfold mS;rw[hb];rfl
 unfold cv at k;rw[ew]at k;show FP [↑(d5 P),↑(.int b),↑(b7 nm)] n _;refine bb (gQ (av rfl (aD (aN (bc (jO (ds:=nm.map i9) (λQ q=>av rfl q) ?_))))));show di _ _ _ _ _ _ [ah,↑(.int b),↑(d5 P)] n;refine jS i9 i9 (λp=>decide (p.1∈w)) nm [] ah n (λp _ n Q' q=>aC (k:=decide (p.1∈w)) (λQ q=>ar (dj rfl (ar (ar (av rfl (av rfl (bN hbD (aD (cP ⟨rfl,qJ w,?_⟩))))))))) q) (λp _ n Q' q=>av rfl q) ?_
 ·show Q (.d (.bool (b8 (.str p.1) (w.map .str)))) n;rw[mF];exact q
 ·exact Aj (show 3<=1000 by decide) k
theorem QZ:b9 wm AM ["_law_program_here","_law_state","_law_notes_here","_law_block","_law_place","_law_names","_law_act_here","_law_one","_law_other","_law_at"]:=λws n Q h=>by
 obtain⟨ps,hs,ns,h,P,x,rfl,⟨okp,okh,okn⟩,hP,hx,k⟩:=h;have hh:h < ps.length:=(Ao.mp hP).1;obtain⟨P',xb,xp,nm,w,as,H⟩:=lU okh hh;have e1:P'=P:=A7 (H.prog.symm.trans hP);have e2:(xb,xp,nm)=x:=A7 (H.hand.symm.trans hx);subst e1 e2;show AM [↑(d5 P'),↑(bR (xb,xp,nm)),↑(bH ns),ah,ah,ah,ah,ah,ah,ah] n _;refine aB ?_;unfold cX;refine av rfl (Aj rfl ?_);grind;have acts:∀(δ:Sl)(n:Int)(Q:DQ),δ[0]?=ae (↑(d5 P'))->δ[3]?=ae (↑(.int xb))->Q ‹(as.map Ac.d)› n->w2 (w2 ↥0 ↥3 az) ⇑1 az δ n Q:=λδ n Q e0 e3 q=>ar (ar (av e0 (av e3 (bN H.bD (aD (d4 q))))));refine aB (eF (aC (k:=decide ((xp:Int)=(as.length:Nat))) (λQ q=>ar (av rfl (aN (acts _ _ _ rfl rfl ?_)))) ?_))
 ·show Q (.d (.bool (decide ((xp:Int)=((as.map Ac.d).length:Nat))))) n;rw[Ab];exact q
 by_cases ep:xp=as.length
 ·show if decide ((xp:Int)=(as.length:Nat))=ai then _ else _
  rw[if_pos (decide_eq_true ⋯)];rw[H.act,List.getElem?_eq_none ⋯]at k;exact bb (aD k)
 show if decide ((xp:Int)=(as.length:Nat))=ai then _ else _
 rw[if_neg (by rw[decide_eq_false ⋯];exact Ae)];ac_rfl;have hl:xp < as.length:=by have:xp<=as.length:=H.hn.pl;omega
 obtain⟨a,ha⟩:∃a,as[xp]?=ae a:=⟨_,Ah hl⟩;have ea:bS ps hs h=ae a:=H.act.trans ha;have oa:=H.ok okp ea;rw[ea]at k;have k:Q (.d (nA (gG P' (xb,xp,nm) ns a))) n:=k;refine aB (bx (x:=a.d) (λQ q=>ar (acts _ _ _ rfl rfl (av rfl (bN (by rw[Ax,ha];rfl) q)))) ?_);ac_nf;have toB:∀(b:Nat),a.to=ae b->∀(δ:Sl)(i5:DT)(Q:DQ),δ[0]?=ae (↑(d5 P'))->δ[5]?=ae (↑(b7 nm))->(∀Q:DQ,Q (~~~b) n->i5 δ n Q)->Q (.d (bR (cv P' b nm))) n->aH i8 (aq ↥0 (aq i5 (aq ↥5 ao))) δ n Q:=λb hb δ i5 Q e0 e5 h5 q=>by
  obtain⟨bl,hbl,obl,sub⟩:=H.to okp ea hb;exact bX (av e0 (h5 _ (av e5 ⟨P',b,nm,bl,rfl,hbl,obl.1,q⟩)))
 have getY:∀(s:Str)(gs:List Fe)(r5:List Aa)(i:Nat)(x7 x8:Option SV)(K:DEnds),a.d=.tuple (.str s::fA gs::r5)->fM gs->hV gs->bu (gs.map Fe.fd) nm ns=ae i->
   K.rt ‹[bR (cZ (xb,xp,nm) (cQ (fO (gs.map Fe.fd) (dZ ns i) nm))),bH (if aZ "take" (.str s)=ai then cV ns i else ns)]› n->
   au (aL (cT (w2 ↥9 (wC .none) (bC aj))) (aw (fJ (cT (w2 (w2 ↥6 ⇑0 az) ⇑"look" a9)) (aA (aq (aH i8 (aq ↥0 (aq (w2 ↥6 ⇑2 az) (aq ↥5 ao)))) (aq ↥2 ao))) (wC .none))) aG) (au (aF 1 (aA (aq ↥3 (aq (w2 ↥4 ⇑1 (c6 λi j=>.int (i+j))) (aq (aH jV (aq (w2 ↥6 ⇑1 az) (aq (w2 (w2 ↥2 ↥9 az) ⇑0 az) (aq ↥5 ao)))) ao))))) (au (aL (cT (w2 (w2 ↥6 ⇑0 az) ⇑"take" a9)) (aw (aA (aq ↥1 (aq (w2 (dN ↥2 cF (cy ↥9)) (dN ↥2 (cy (w2 ↥9 ⇑1 (c6 λi j=>.int (i+j)))) cF) eG) ao)))) aG) (aw (aA (aq ↥1 (aq ↥2 ao)))))) [↑(d5 P'),↑(bR (xb,xp,nm)),↑(bH ns),↑(.int xb),↑(.int xp),↑(b7 nm),↑a.d,x7,x8,↑(.int i)] n K:=λs gs r5 i x7 x8 K ed hof hpat ei q=>by
  rw[ed];obtain⟨⟨row,age⟩,hq,hf⟩:=rp ei;have hi:i < ns.length:=(Ao.mp hq).1;have er:dZ ns i=row:=by unfold dZ;rw[hq];rfl
  have oq:=okn.2 _ (A1 hq);obtain⟨epat,op⟩:=n6 hof hpat;rw[er]at q;have hqD:(ns.map cS)[i]?=ae (.tuple [.tuple row,age]):=by rw[Ax,hq];rfl
  refine aB (aT (λQ q=>aC (k:=aj) (λQ q=>ar (av rfl (aD (dY q)))) q) ?_);ac_rfl;refine aB (bx (x:=bR (cZ (xb,xp,nm) (cQ (fO (gs.map Fe.fd) row nm)))) (λQ q=>?_) ?_)
  ·refine gQ (av rfl (ar (av rfl (aD (du (bX (dI rfl (ar (ar (av rfl (av rfl (bN hqD (aD (cP (av rfl ?_)))))))))))))));refine⟨gs.map Fe.fd,row,nm,by rw[epat],op,oq.1,H.nms,?_⟩;rw[GI hf];exact Aj (show 3<=1000 by decide) q
  ac_nf;cases z:aZ "take" (.str s)with
  |true=>
   rw[z,if_pos rfl]at q;refine aB (jE rfl z (bb (cz (av rfl (ar (tw (p:=i) (λQ q=>av rfl q) (λQ q=>av rfl q) (by rw[Ab];omega) (tN (p:=i+1) (λQ q=>av rfl q) (λQ q=>ar (av rfl (aD (du q)))) (by rw[Ab];omega) (gH ?_ ?_))))))))
   ·have:=okn.1;rw[Cz,B5,Ab];omega
   ·unfold bH at q;rw[HE]at q;exact Aj (show 2<=1000 by decide) q
  |false=>
   rw[z,if_neg Ae]at q;refine aB (eY rfl z ?_);ac_rfl;exact bb (cz (av rfl (av rfl (Aj (show 2<=1000 by decide) q))))
 have got9:∀(gs:List Fe)(δ:Sl)(Q:DQ),a.pf=ae (gs.map Fe.fd)->δ[6]?=ae (↑a.d)->δ[2]?=ae (↑(bH ns))->δ[5]?=ae (↑(b7 nm))->Q (.d (cf (bu (gs.map Fe.fd) nm ns))) n->aH m3 (aq ↥6 (aq ↥2 (aq ↥5 ao))) δ n Q:=λgs δ Q ef e6 e2 e5 q=>
  bX (av e6 (av e2 (av e5 ⟨a,gs.map Fe.fd,ns,nm,rfl,oa,ef,okn,H.nms,q⟩)))
 cases a with
 |lay fs age=>
  obtain⟨hl4,hfv⟩:=H.lay okp ea;refine aB (jE (a:=.str "lay") rfl ∅ ?_);refine bb (cz (gQ (av rfl (ar (av rfl (aD (du (av rfl (Aj (show 3<=1000 by decide) ?_)))))))));refine ar (av rfl (jX (cz (bU (dI rfl (av rfl ⟨fs,nm,rfl,hl4,hfv,H.nms,?_⟩))))));refine gZ (m:=2) rfl rfl (Aj (show 2<=1000 by decide) (Aj (show 1<=1000 by decide) (gH (by rw[Ab,Av];have:=okn.1;omega) ?_)));have k:Q ‹[bR (cZ (xb,xp,nm) nm),bH (ns++[(cx fs nm,age)])]› n:=k;unfold bH at k;rw[A9]at k;exact Aj (show 2<=1000 by decide) k
 |go b=>
  refine aB (eY (a:=.str "go") rfl ∅ ?_);ac_rfl;refine aB (jE (a:=.str "go") rfl ∅ ?_);exact bb (cz (toB b rfl _ _ _ rfl rfl (λQ q=>dI rfl q) (av rfl (Aj (show 2<=1000 by decide) k))))
 |same f g b=>
  obtain⟨hf,hg,tf,tg⟩:=H.same okp ea;refine aB (eY (a:=.str "same") rfl ∅ ?_);ac_rfl;refine aB (eY (a:=.str "same") rfl ∅ ?_);ac_rfl;refine aB (jE (a:=.str "same") rfl ∅ ?_);refine aB ?_;refine bc (jO (ds:=[f,g].map Fe.d) (λQ q=>?_) ?_)
  ·unfold dN;exact av rfl q
  show di _ _ _ _ _ _ [ah,↑(b7 nm)] n;refine pP Fe.d (eC nm) [f,g] ah n (λf' hf' n Q' q=>?_) ?_
  ·have hfv:fF nm f'/\f'.te=ai:=by
    rcases Aq.mp hf' with rfl|hf'
    ·exact⟨hf,tf⟩
    ·cases Bc.mp hf';exact⟨hg,tg⟩
   obtain⟨⟨fo,tm,us⟩,te⟩:=hfv;cases f' with
   |isv d=>exact fP (b:=ai) (λQ q=>aC (λQ q=>jy (a:=.str "is") rfl (by rw[sG];exact q)) q) (by nofun;exact dI rfl q)
   |as x=>
    obtain⟨v,e,hv⟩:=us x rfl;have q:Q' (.d (iu nm x)) n:=q;unfold iu at q;rw[e]at q;refine fP (b:=aj) (λQ q=>aC (λQ q=>jy (a:=.str "as") rfl (by rw[HU];exact q)) q) ?_;rw[if_neg Ae];refine ar (MQ rfl H.nms (dI (a:=.str "as") (b:=.str x) (r:=[]) rfl ?_));unfold gg;simp only[kA,e];exact q
   |_=>cases te
  refine Aj rfl ?_;dsimp only[List.map,bh,ck,aJ,Am];refine aB (bx (x:=bR (cZ (xb,xp,nm) nm)) (λQ q=>gQ (av rfl (ar (av rfl (aD (du (av rfl (Aj (show 3<=1000 by decide) q)))))))) ?_);ac_nf;have k:Q ‹[bR (if dQ (eC nm f) (eC nm g)=ai then cZ (xb,xp,nm) nm else cv P' b nm),bH ns]› n:=k;refine bb (cz (fP (b:=dQ (eC nm f) (eC nm g)) (λQ q=>aC (λQ q=>ar (av rfl (av rfl (EB (iT hf) (iT hg) q)))) q) ?_));cases z:dQ (eC nm f) (eC nm g)with
  |true=>
   rw[z,if_pos rfl]at k;nofun;exact av rfl (av rfl (Aj (show 2<=1000 by decide) k))
  |false=>
   rw[z,if_neg Ae]at k;rw[if_neg Ae];exact toB b rfl _ _ _ rfl rfl (λQ q=>gZ (m:=3) rfl rfl q) (av rfl (Aj (show 2<=1000 by decide) k))
 |take gs=>
  refine aB (eY (a:=.str "take") rfl ∅ ?_);ac_rfl;refine aB (eY (a:=.str "take") rfl ∅ ?_);ac_rfl;refine aB (eY (a:=.str "take") rfl ∅ ?_);ac_rfl;refine aB (bx (λQ q=>got9 gs _ _ rfl rfl rfl rfl q) ?_);ac_nf;have k:Q (.d (nA ((cH gs (xb,xp,nm) ns).map λq=>(q.2,cV ns q.1)))) n:=k;cases ei:bu (gs.map Fe.fd) nm ns with
  |none=>
   rw[i0 ei]at k;exact aB (bB (λQ q=>aC (k:=ai) (λQ q=>ar (av rfl (aD (dY q)))) q) (bb (fP (b:=aj) (λQ q=>aC (λQ q=>jy (a:=.str "take") rfl (by rw[show aZ "look" (.str "take")=aj by decide +kernel];exact q)) q) (by rw[if_neg Ae];exact aD k))))
  |some i=>
   rw[iZ ei]at k;exact getY "take" gs [] i _ _ _ rfl oa.1 oa.2 ei (by rw[if_pos ∅];exact k)
 |read gs=>
  refine aB (eY (a:=.str "read") rfl ∅ ?_);ac_rfl;refine aB (eY (a:=.str "read") rfl ∅ ?_);ac_rfl;refine aB (eY (a:=.str "read") rfl ∅ ?_);ac_rfl;refine aB (bx (λQ q=>got9 gs _ _ rfl rfl rfl rfl q) ?_);ac_nf;have k:Q (.d (nA ((cH gs (xb,xp,nm) ns).map λq=>(q.2,ns)))) n:=k;cases ei:bu (gs.map Fe.fd) nm ns with
  |none=>
   rw[i0 ei]at k;exact aB (bB (λQ q=>aC (k:=ai) (λQ q=>ar (av rfl (aD (dY q)))) q) (bb (fP (b:=aj) (λQ q=>aC (λQ q=>jy (a:=.str "read") rfl (by rw[show aZ "look" (.str "read")=aj by decide +kernel];exact q)) q) (by rw[if_neg Ae];exact aD k))))
  |some i=>
   rw[iZ ei]at k;exact getY "read" gs [] i _ _ _ rfl oa.1 oa.2 ei (by rw[if_neg ∅];exact k)
 |look gs b=>
  refine aB (eY (a:=.str "look") rfl ∅ ?_);ac_rfl;refine aB (eY (a:=.str "look") rfl ∅ ?_);ac_rfl;refine aB (eY (a:=.str "look") rfl ∅ ?_);ac_rfl;refine aB (bx (λQ q=>got9 gs _ _ rfl rfl rfl rfl q) ?_);ac_nf;have k:Q (.d (nA (match cH gs (xb,xp,nm) ns with|some q=>ae (q.2,ns)|none=>ae (cv P' b nm,ns)))) n:=k;cases ei:bu (gs.map Fe.fd) nm ns with
  |none=>
   rw[i0 ei]at k;exact aB (bB (λQ q=>aC (k:=ai) (λQ q=>ar (av rfl (aD (dY q)))) q) (bb (fP (b:=ai) (λQ q=>aC (λQ q=>jy (a:=.str "look") rfl (by rw[show aZ "look" (.str "look")=ai by decide +kernel];exact q)) q) (by nofun;exact cz (toB b rfl _ _ _ rfl rfl (λQ q=>gZ (m:=2) rfl rfl q) (av rfl (Aj (show 2<=1000 by decide) k)))))))
  |some i=>
   rw[iZ ei]at k;exact getY "look" gs [.int b] i _ _ _ rfl oa.1 oa.2 ei (by rw[if_neg ∅];exact k)
theorem zJ:∀(ns:List Nt)(acc:List Aa)(x y:Option SV)(n:Int),(∀q∈ns,fR q.2)->Q (acc++(dA ns).map cS) n->
  di ⇑1012 (cT (w2 ↥1 ⇑1 cL)) (aA (aq ↥0 (aq (wW ↥1 (w2 ↥1 ⇑1 (c6 λi j=>.int (i-j)))) ao))) Q (ns.map cS) acc [x,y] n
 |[],acc,x,y,n,_,q=>by
  have:dA []=[]:=rfl;rw[this,F7,Bm]at q;exact q
 | (row,a)::r,acc,x,y,n,h,q=>by
  have ha:fR a:=h (row,a) As;have ih:=λacc x y n q=>zJ (Q:=Q) r acc x y n (λq hq=>h q (Au _ hq)) q;rw[Ba];refine(show dq 2 _ (cS (row,a)) [x,y] _ from⟨rfl,?_⟩);grind;refine aC (k:=!cC a) (λQ q=>ar (av rfl (aD (CY ha q)))) ?_;show if (!cC a)=ai then _ else _
  have e0:dA ((row,a)::r)=(if (!cC a)=ai then[(row,gp a)]else[])++dA r:=by
   unfold dA;rw[Cn];dsimp only
   split<;>rfl
  rw[e0]at q;cases hi:cC a with
  |true=>
   rw[hi,if_neg ∎,Bx]at q;rw[if_neg ∎];exact ih _ _ _ _ q
  |false=>
   rw[hi,if_pos ∎,A9,<-Bh]at q;rw[if_pos ∎];rcases ha with rfl|⟨i,rfl,h1,_⟩
   ·exact cz (av rfl (av rfl (.inl ⟨rfl,Aj (show 2<=1000 by decide) (ih _ _ _ _ q)⟩)))
   ·refine cz (av rfl (av rfl (.inr ⟨i,rfl,?_⟩)));rw[if_neg ⋯];exact ar (av rfl (aD (Aj (show 2<=1000 by decide) (ih _ _ _ _ q))))
theorem MF:b9 tS zO ["_law_programs","_law_stand","_law_mover","_law_behind"]:=λws n Q h=>by
 obtain⟨ps,hs,ns,m,rfl,⟨okp,okh,okn⟩,hm,k⟩:=h;show zO [↑(bf ps),↑(de hs ns),↑(.int m),ah] n _;unfold b6 at k;refine aB (eF (aC (k:=decide ((m:Int)=(ps.length:Nat))) (λQ q=>ar (av rfl (aN (av rfl ?_)))) ?_))
 ·show Q (.d (.bool (decide ((m:Int)=((ps.map d5).length:Nat))))) n;rw[Ab];exact q
 by_cases em:m=ps.length
 ·rw[if_pos em]at k;show if decide ((m:Int)=(ps.length:Nat))=ai then _ else _
  rw[if_pos (decide_eq_true ⋯)];refine bb (cz (dj rfl (aN (bc (jO (ds:=ns.map cS) (λQ q=>dI rfl q) ?_)))));show di _ _ _ _ _ _ [ah,ah] n;exact zJ ns [] ah ah n (λq hq=>(okn.2 q hq).2) (Aj (show 2<=1000 by decide) k)
 rw[if_neg em]at k;show if decide ((m:Int)=(ps.length:Nat))=ai then _ else _
 rw[if_neg (by rw[decide_eq_false ⋯];exact Ae)];ac_rfl;have hh:m < ps.length:=by omega
 obtain⟨P,xb,xp,nm,w,as,H⟩:=lU okh hh;have hlt:m < hs.length:=by rw[okh.1];exact hh
 have hl5:hs.length<=5:=by rw[okh.1];exact okp.1
 refine aB (bx (x:=nA ((bS ps hs m).bind (gG P (xb,xp,nm) ns))) (λQ q=>bX (ar (av rfl (av rfl (bN H.pD (ar (ar (av rfl (aD (cP (av rfl (bN H.hD (dI rfl ⟨ps,hs,ns,m,P,(xb,xp,nm),rfl,⟨okp,okh,okn⟩,H.prog,H.hand,q⟩))))))))))))) ?_);ac_nf;have em:fk ps hs ns m=((bS ps hs m).bind (gG P (xb,xp,nm) ns)).map λr=>(bK hs m r.1,r.2):=by
  unfold fk;rw[H.prog,H.hand];show((bS ps hs m).bind λa=>(gG P (xb,xp,nm) ns a).map λr=>(bK hs m r.1,r.2))=_;cases bS ps hs m<;>rfl
 rw[em]at k;cases er:(bS ps hs m).bind (gG P (xb,xp,nm) ns)with
 |none=>
  rw[er]at k;exact aB (bB (λQ q=>aC (k:=ai) (λQ q=>ar (av rfl (aD (dY q)))) q) (bb (aD k)))
 |some r=>
  obtain⟨x,ns'⟩:=r;rw[er]at k;refine aB (aT (λQ q=>aC (k:=aj) (λQ q=>ar (av rfl (aD (dY q)))) q) ?_);ac_rfl;have hd:(bK hs m x).map bR=((hs.map bR).take m++[bR x])++(hs.map bR).drop (m+1):=by
   unfold bK;rw[A9,Ba,List.map_take,List.map_drop,Bh];rfl
  have k:Q ‹[.tuple ((bK hs m x).map bR),bH ns']› n:=k;rw[hd]at k;have l1:((hs.map bR).take m).length<=5:=A4 (Gr _ _) (by rw[Ab];exact hl5);have l2:((hs.map bR).drop (m+1)).length<=5:=by rw[B5,Ab];omega
  refine bb (cz (ar (ar (tw (p:=m) (λQ q=>dj rfl q) (λQ q=>av rfl q) (by rw[Ab];omega) (jX (dj rfl (Aj (show 1<=1000 by decide) (gH (by rw[Av];omega) ?_))))))));exact tN (p:=m+1) (λQ q=>dj rfl q) (λQ q=>ar (av rfl (aD (du q)))) (by rw[Ab];omega) (gH (by rw[Af,Av];omega) (dI rfl (Aj (show 2<=1000 by decide) k)))
theorem Vx(e:δ[i]?=ae (↑(.tuple ds)))(k:Q (~~~ds.length) n):wB dS (aq (ak i) ao) δ n Q:=aN (av e k)
def wV(ps:Pg)(z:Sd)(p:Nat×Sd):Prop:=p.1<=ps.length/\b6 ps z.1 z.2 p.1=ae p.2
def om(p:Nat×Sd):Aa:=.tuple [.int p.1,bJ p.2]
def NO(ps:Pg)(s:Sd)(mo:Nat)(n0:Int)(l:Nat)(δ:Sl)(n:Int):Prop:=∃(L:List Nat)(S:List Sd)(z:Sd)(x6 x7 x8 x9:Option SV),δ=[ae (.w .tp),↑(bf ps),↑(bJ s),↑(.int mo),ae (.own (aE L)),ae (.own (S.map bJ++[bJ z])),x6,x7,x8,x9]/\Wlk ps s L (S++[z])/\L.length+l=mo/\n+(l:Int)<=n0+40
theorem So:b9 uw JP ["_law_tape_here","_law_programs","_law_stand","_law_many","_law_movers","_law_stands","_law_k","_law_some","_law_mover","_law_other"]:=λws n0 Q h=>by
 obtain⟨ps,s,mo,rfl,hmo,okp,okh,okn,hn0,k⟩:=h;show JP [ae (.w .tp),↑(bf ps),↑(bJ s),↑(.int mo),ah,ah,ah,ah,ah,ah] n0 _;refine aB (iI ?_);ac_nf;refine aB (show br 5 _ _ _ _ from oi (av rfl (Aj (show 1<=1000 by decide) ?_)));ac_nf;refine aB ?_;unfold aU dC;refine av rfl (Aj ⟨by omega,by omega⟩ ?_);have W0:Wlk ps s [] ([]++[s]):=⟨rfl,rfl,λi x h=>by
  cases i with
  |zero=>cases h;exact⟨okh,okn⟩
  |succ i=>simp at h,λi m h=>by simp at h⟩
 rw[Bs];refine eV (λds δ n=>NO ps s mo n0 ds.length δ n) (λδ n I=>?_) (λd t δ n N I kN=>?_) _ _ _ ⟨[],[],s,ah,ah,ah,ah,rfl,W0,by rw[fV];show 0+_=mo;omega,by rw[fV];omega⟩
 ·obtain⟨L,S,z,x6,x7,x8,x9,rfl,W,hL,hn⟩:=I;dsimp only;refine gO rfl ?_;ac_nf;refine gO rfl ?_;ac_nf;refine bb (cz (av rfl (av rfl (Aj (show 2<=1000 by decide) ?_))));have:=k L (S++[z]) n W (by simpa using hL) (by simpa using hn);rw[A9]at this;exact this
 ·obtain⟨L,S,z,x6,x7,x8,x9,rfl,W,hL,hn⟩:=I;rw[Ap]at hL hn;dsimp only[aJ,Am];have hz:(S++[z])[S.length]?=ae z:=by rw[Bt (Al _),Gd];rfl
  have hS:S.length=L.length:=by have:=W.len;rw[Af,Av]at this;omega
  obtain⟨ok1,ok2⟩:=W.ok _ _ hz;have ok:fK ps z.1 z.2:=⟨okp,ok1,A4 ok2.1 ⋯,ok2.2⟩;refine aB (iI ?_);ac_nf;refine aB ?_;refine ar (Vx (ds:=ps.map d5) rfl (aD (du ?_)));rw[Ab];refine Aj ⟨by omega,by have:=okp.1;omega⟩ ?_;rw[show((ps.length:Int)+1).toNat=ps.length+1 by omega];refine eV (λds δ m=>m=n/\∃(j:Nat)(A:List (Nat×Sd))(x6 x8 x9:Option SV),ds=cb (j:Nat) (ps.length+1-j)/\j<=ps.length+1/\A.length<=j/\(∀p∈A,wV ps z p)/\(j=ps.length+1->0 < A.length)/\δ=[ae (.w .tp),↑(bf ps),↑(bJ s),↑(.int mo),ae (.own (aE L)),ae (.own (S.map bJ++[bJ z])),x6,ae (.own (A.map om)),x8,x9]) (λδ m I=>?_) (λd' t' δ m N' I kN'=>?_) _ _ _ ⟨rfl,0,[],_,_,_,rfl,by omega,Al _,(λ_ h=>nomatch h),(λh=>by omega),rfl⟩
  ·obtain⟨rfl,j,A,x6,x8,x9,ed,hj,hA,hok,hpos,rfl⟩:=I;have hj':j=ps.length+1:=by
    cases e:ps.length+1-j with
    |zero=>omega
    |succ l=>rw[e,my]at ed;cases ed
   have h0:=hpos hj';dsimp only;refine aB (show cX _ _ _ _ _ from ?_);refine ar (lP (ds:=A.map om) rfl ?_);refine kE (m:=((A.map om).length:Nat)) rfl (λQ q=>aN (lP (ds:=A.map om) rfl q)) ⋯ (by rw[Ab];omega) (by rw[Ab];have:=okp.1;omega) λr r0 r1=>sF r0 r1 λd hd=>?_;obtain⟨p,hp,rfl⟩:=Bg.mp hd;obtain⟨p1,p2⟩:=hok p hp;refine Aj rfl ?_;grind;refine aB (gP rfl (λQ q=>av rfl q) (by rw[j0];omega) ?_);ac_nf;refine gP rfl (λQ q=>av rfl q) (by rw[Af,Ab,Av];omega) (kN _ _ ⟨L++[p.1],S++[z],p.2,x6,ae (.own (A.map om)),↑(.int p.1),↑(bJ p.2),?_,W.snoc okp p1 p2,by rw[Af,Av];omega,by omega⟩);rw[xx,A9];rfl
  ·obtain⟨rfl,j,A,x6,x8,x9,ed,hj,hA,hok,hpos,rfl⟩:=I;obtain⟨l,el⟩:∃l,ps.length+1-j=l+1:=by
    cases e:ps.length+1-j with
    |zero=>rw[e]at ed;cases ed
    |succ l=>exact⟨l,rfl⟩
   rw[el,my]at ed;obtain⟨rfl,rfl⟩:=Bk ed;have hjl:j<=ps.length:=by omega
   dsimp only[aJ,Am];refine aB (bx (x:=ia (b6 ps z.1 z.2 j)) (λQ q=>bX (av rfl (VG rfl (av rfl ⟨ps,z.1,z.2,j,rfl,ok,hjl,q⟩)))) ?_);ac_nf;have er:cb ((j:Int)+1) l=cb ((j+1:Nat):Int) (ps.length+1-(j+1)):=by
    rw[show ps.length+1-(j+1)=l by omega];rfl
   cases ea:b6 ps z.1 z.2 j with
   |none=>
    refine aT (λQ q=>aC (k:=aj) (λQ q=>ar (av rfl (aD (dY q)))) q) (kN' _ _ ⟨rfl,j+1,A,_,_,_,er,by omega,by omega,hok,λh=>?_,rfl⟩);have:j=ps.length:=by omega
    subst this;unfold b6 at ea;rw[if_pos rfl]at ea;cases ea
   |some r=>
    refine bB (λQ q=>aC (k:=ai) (λQ q=>ar (av rfl (aD (dY q)))) q) (gP (x:=om (j,r)) rfl (λQ q=>cz (av rfl (av rfl (Aj (show 2<=1000 by decide) q)))) (by rw[Ab];have:=okp.1;omega) (kN' _ _ ⟨rfl,j+1,A++[(j,r)],_,_,_,er,by omega,by rw[Af,Av];omega,λp hp=>?_,λh=>by rw[Af,Av];omega,by rw[A9];rfl⟩));rcases Bd.mp hp with hp|hp
    ·exact hok p hp
    ·cases Bc.mp hp;exact⟨hjl,ea⟩
theorem vM(h:xs[i]?=ae x)(k:Q (.d x) n):az (.d (.list xs)) (~~~(i:Nat)) n Q:=(Mw h k).elim (λz=>by obtain⟨_,_,e,_⟩:=z;cases e) id
theorem Vt:b9 xE CD ["_law_programs","_law_stand","_law_numbers","_law_fresh","_law_mover","_law_block","_law_place","_law_names","_law_act_here","_law_at"]:=λws n Q h=>by
 obtain⟨ps,s,t,nu,fr,m,rfl,B,k⟩:=h;have hnl:nu.length<=100:=by rw[B.nu.len];exact B.st.2.2.1
 show CD [↑(bf ps),↑(bJ s),↑(.list (aE nu)),↑(.int fr),↑(.int m),ah,ah,ah,ah,ah] n _;refine aB (eF (aC (k:=decide ((m:Int)=(ps.length:Nat))) (λQ q=>ar (av rfl (aN (av rfl ?_)))) ?_))
 ·show Q (.d (.bool (decide ((m:Int)=((ps.map d5).length:Nat))))) n;rw[Ab];exact q
 by_cases em:m=ps.length
 ·subst em;rw[lS]at k;show if decide _=ai then _ else _
  rw[if_pos (decide_eq_true rfl)];refine bb (cz (aD (aN (bc ?_))));unfold cW dC;refine N4 rfl (Aj ⟨by omega,by rw[j0];omega⟩ ?_);rw[Bs,j0,JO];show di _ _ _ _ _ _ [ah,↑(.list (aE nu)),↑(bJ s)] n;refine jS (λj:Nat=>.int j) (nv nu) (oG s.2) (A8 nu.length) [] ah n (λj hj n Q' q=>?_) (λj hj n Q' q=>?_) ?_
  ·have hj:=Ce.mp hj;have hj':j < s.2.length:=by rw[<-B.nu.len];exact hj
   have hq:(s.2.map cS)[j]?=ae (.tuple [.tuple s.2[j].1,s.2[j].2]):=by rw[Ax,Ah hj'];rfl
   have ep:oG s.2 j=cC s.2[j].2:=by unfold oG;rw[Ah hj'];rfl
   rw[ep]at q;exact aC (k:=cC s.2[j].2) (λQ q=>ar (ar (ar (dI (a:=.tuple (s.1.map bR)) (b:=bH s.2) (r:=[]) rfl (av rfl (bN hq (aD (d4 (aD (Jy (B.st.2.2.2 _ (C8 hj')).2 q)))))))))) q
  ·have hj:=Ce.mp hj;refine ar (av rfl (av rfl (vM (Jr hj) ?_)));unfold nv at q;rw[Ah hj]at q;exact q
  ·rw[Bx,Ie nu s.2 B.nu.len];exact pT (Aj (show 2<=1000 by decide) k)
 ·have hm:m < ps.length:=by have:=B.le;omega
  show if decide _=ai then _ else _
  rw[if_neg (by rw[decide_eq_false ⋯];exact Ae)];ac_rfl;obtain⟨P,xb,xp,nm,w,as,a,H,ea,T⟩:=lH B.st.2.1 hm B.af;rw[lr hm ea]at k;have oa:=H.ok B.st.1 ea;have ha:as[xp]?=ae a:=H.act.symm.trans ea;refine aB (show cX _ _ _ _ _ from ar (ar (av rfl (aD (cP (av rfl (bN H.hD (Aj rfl ?_))))))));grind;refine aB (bx (x:=a.d) (λQ q=>ar (ar (ar (ar (av rfl (av rfl (bN H.pD (av rfl (bN H.bD (aD (d4 (av rfl (bN (by rw[Ax,ha];rfl) q))))))))))))) ?_);ac_nf;have go:∀(x:Str)(r:List Aa),aZ "lay" (.str x)=aj->b8 (.str x) [.str "same",.str "go"]=ai->a.d=.tuple (.str x::r)->Q ‹[.str "goes",.int m]› n->∀(V W:aR),
    (au (aL ⇑1025 W aG) (au ⇑1004 V))
     [↑(bf ps),↑(bJ s),↑(.list (aE nu)),↑(.int fr),↑(.int m),↑(.int xb),↑(.int xp),↑(b7 nm),↑a.d,ah] n {nx:=λ_ n=>Q (.d .none) n,rt:=Q}:=λx r h1 h2 e q V W=>by
   rw[e];refine aB (eY (a:=.str x) rfl h1 ?_);ac_rfl;refine aB (bB (λQ q=>aC (k:=ai) (λQ q=>ar (dj rfl (cz (aD (aD (Aj (show 2<=1000 by decide) (Aj rfl (Aj rfl ?_)))))))) q) ?_)
   ·rw[if_neg Ae,h2];exact q
   ·exact bb (cz (aD (av rfl (Aj (show 2<=1000 by decide) q))))
  have get:∀(x:Str)(gs:List Fe)(r:List Aa),aZ "lay" (.str x)=aj->b8 (.str x) [.str "same",.str "go"]=aj->x.length<=100->(∀i,bG ps s.1 s.2 m=ae i->i < s.2.length)->a.pf=ae (gs.map Fe.fd)->a.d=.tuple (.str x::r)->
    Q ‹[.str (x++"s"),.int m,eu nu (bG ps s.1 s.2 m)]› n->∀(W:aR),
    (au (aL ⇑1025 W aG) (au ⇑1004 (au (aF 9 (aH m3 ⇑1028)) ⇑1017)))
     [↑(bf ps),↑(bJ s),↑(.list (aE nu)),↑(.int fr),↑(.int m),↑(.int xb),↑(.int xp),↑(b7 nm),↑a.d,ah] n {nx:=λ_ n=>Q (.d .none) n,rt:=Q}:=λx gs r h1 h2 hx lt hp e q W=>by
   have eo:bG ps s.1 s.2 m=bu (gs.map Fe.fd) nm s.2:=by
    unfold bG;rw[ea,H.nmq];show a.pf.bind _=_;rw[hp];rfl
   rw[eo]at q lt;have cal:∀(δ:Sl)(Q:DQ),δ[8]?=ae (↑a.d)->δ[1]?=ae (↑(bJ s))->δ[7]?=ae (↑(b7 nm))->Q (.d (cf (bu (gs.map Fe.fd) nm s.2))) n->aH m3 ⇑1028 δ n Q:=λδ Q e8 e1 e7 q=>
    bX (av e8 (dI (a:=.tuple (s.1.map bR)) (b:=bH s.2) (r:=[]) e1 (av e7 ⟨a,gs.map Fe.fd,s.2,nm,rfl,oa,hp,B.st.2.2,H.nms,q⟩)))
   rw[e]at cal ⊢;refine aB (eY (a:=.str x) rfl h1 ?_);ac_rfl;refine aB (aT (λQ q=>aC (k:=aj) (λQ q=>ar (dj rfl (cz (aD (aD (Aj (show 2<=1000 by decide) (Aj rfl (Aj rfl ?_)))))))) q) ?_)
   ·rw[if_neg Ae,h2];exact q
   ac_rfl;refine aB (bx (λQ q=>cal _ _ rfl rfl rfl q) ?_);ac_nf;refine bb (gQ (ar (dj rfl (aD (TU ?_ (av rfl ?_))))))
   ·exact A4 (show x.length+1<=1000 by omega) (fc (Al 1000))
   cases eg:bu (gs.map Fe.fd) nm s.2 with
   |none=>
    rw[eg]at q;exact fP (b:=ai) (λQ q=>aC (k:=ai) (λQ q=>ar (av rfl (aD (dY q)))) q) (by nofun;exact aD (Aj (show 3<=1000 by decide) q))
   |some i=>
    rw[eg]at q;have hi:i < nu.length:=by rw[B.nu.len];exact lt i eg
    rw[pL hi]at q;exact fP (b:=aj) (λQ q=>aC (k:=aj) (λQ q=>ar (av rfl (aD (dY q)))) q) (by rw[if_neg Ae];exact ar (av rfl (av rfl (vM (Jr hi) (Aj (show 3<=1000 by decide) q)))))
  cases a with
  |lay fs age=>
   obtain⟨hl4,hfv⟩:=H.lay B.st.1 ea;have k:Q ‹[.str "lays",.int m,.int fr,cS (cx fs (js s.1 m),age)]› n:=k;rw[H.nmq]at k;refine aB (jE (a:=.str "lay") rfl ∅ ?_);exact bb (xZ (aD (av rfl (av rfl (cz (bU (dI rfl (av rfl ⟨fs,nm,rfl,hl4,hfv,H.nms,gZ (m:=2) rfl rfl (Aj (show 2<=1000 by decide) (Aj (show 4<=1000 by decide) k))⟩))))))))
  |take gs=>obtain⟨i,eg,hi,_⟩:=T;exact get "take" gs _ ∅ ∅ ∅ (λj h=>by rw[eg]at h;cases h;exact hi) rfl rfl k _
  |read gs=>obtain⟨_,i,eg,hi⟩:=T;exact get "read" gs _ ∅ ∅ ∅ (λj h=>by rw[eg]at h;cases h;exact hi) rfl rfl k _
  |look gs b=>exact get "look" gs _ ∅ ∅ ∅ T.2 rfl rfl k _
  |same f g b=>exact go "same" _ ∅ ∅ rfl k _ _
  |go b=>exact go "go" _ ∅ ∅ rfl k _ _
theorem IY(B:okBd ps s t nu fr m):eJ ps (aI ps s nu fr m).1=.int m:=by
 have key:∀(x:Str)(b:Aa)(r:List Aa),x≠"clock"->eJ ps (.tuple (.str x::b::r))=b:=λx b r h=>by
  show(if je (.str x)=ai then E8 ps.length else b)=b;rw[if_neg (show ¬je (.str x)=ai from λz=>h (of_decide_eq_true z))]
 by_cases em:m=ps.length
 ·subst em;rw[lS];show(if je (.str "clock")=ai then E8 ps.length else PyData.tuple (aE (dr nu s.2)))=_;rw[if_pos (show je (.str "clock")=ai from decide_eq_true (show("clock":Str)="clock" from rfl))]
 ·have hm:m < ps.length:=by have:=B.le;omega
  obtain⟨P,xb,xp,nm',w,as,a,H,ea,T⟩:=lH B.st.2.1 hm B.af;rw[lr hm ea];cases a with
  |lay fs age=>exact key _ _ _ ∅
  |take gs=>exact key _ _ _ ∅
  |read gs=>exact key _ _ _ ∅
  |look gs b=>exact key _ _ _ ∅
  |go b=>exact key _ _ _ ∅
  |same f g b=>exact key _ _ _ ∅
theorem OK(okp:cu ps)(h:Lgs ps s nu fr L R):LtI ps s nu fr L.length->jI ps s nu fr R=ai/\∀r∈R,jd r:=by
 induction h with
 |nil=>exact λ_=>⟨by rw[jI],λr hr=>absurd hr An⟩
 |@cons s t nu fr m L R hm af hL ih=>
  intro I;obtain⟨B,I2⟩:=I.step okp hm af;obtain⟨h1,h2⟩:=ih I2;have em:j7 ps (.int m)=ae m:=by rw[r9,if_pos ⟨by omega,by omega⟩,Bs]
  have ea:ig ps s.1 s.2 (.int m)=ae t:=by unfold ig;rw[em];exact af
  have en:fw ps (.int m)=m:=by unfold fw;rw[em];rfl
  refine⟨?_,λr hr=>?_⟩
  ·rw[wD,IY B,ea];show(gx _ _&&_)=ai;rw[en,j8 rfl,Gm];exact h1
  ·rcases Aq.mp hr with rfl|hr
   ·exact I.rw B
   ·exact h2 r hr
theorem O3(h:gx x d=ai):x=d:=Classical.byContradiction λn=>by rw[jY n]at h;cases h
theorem HD(okp:cu ps):∀(R:List Aa)(s:Sd)(nu:List Nat)(fr:Nat),LtI ps s nu fr R.length->jI ps s nu fr R=ai->
  ∃L:List Nat,Lgs ps s nu fr L R/\R.map (eJ ps)=aE L/\∀r∈R,jd r
 |[],s,nu,fr,_,_=>⟨[],.nil,rfl,λr hr=>absurd hr An⟩
 |d::r,s,nu,fr,I,h=>by
  rw[Ap]at I;rw[wD]at h;cases ea:ig ps s.1 s.2 (eJ ps d)with
  |none=>rw[ea]at h;cases h
  |some t=>
   rw[ea]at h;have h:(gx (aI ps s nu fr (fw ps (eJ ps d))).1 d&&jI ps t (aI ps s nu fr (fw ps (eJ ps d))).2.1 (aI ps s nu fr (fw ps (eJ ps d))).2.2 r)=ai:=h;cases em:j7 ps (eJ ps d)with
   |none=>unfold ig at ea;rw[em]at ea;cases ea
   |some m=>
    have en:fw ps (eJ ps d)=m:=by unfold fw;rw[em];rfl
    have af:b6 ps s.1 s.2 m=ae t:=by unfold ig at ea;rw[em]at ea;exact ea
    rw[en,A2]at h;have ed:=O3 h.1;obtain⟨B,I2⟩:=I.step okp (rE em).2 af;obtain⟨L,h1,h2,h3⟩:=HD okp r t _ _ I2 h.2;subst ed;refine⟨m::L,.cons B.le B.af h1,?_,λx hx=>?_⟩
    ·rw[Ba,IY B,h2];rfl
    ·rcases Aq.mp hx with rfl|hx
     ·exact I.rw B
     ·exact h3 x hx
theorem w6(ps)(s)(nu)(fr)(M):fG ps s nu fr M=nu::(fG ps s nu fr M).drop 1:=by cases M<;>rfl
theorem Jx{s t:Sd}(h:b6 ps s.1 s.2 m=ae t):fG ps s nu fr (m::M)=nu::fG ps t (aI ps s nu fr m).2.1 (aI ps s nu fr m).2.2 M:=by
 show nu::(match b6 ps s.1 s.2 m with|some t=>fG ps t (aI ps s nu fr m).2.1 (aI ps s nu fr m).2.2 M|none=>[])=_;rw[h]
section
variable{δ:Sl}{n:Int}{Q:DQ}{K:DEnds}{W V:aR}{i:Nat}{s h:Str}{r:List Aa}
theorem gz(k:Q (.d a) n):aM ‹(a::r)› (~~~0) n Q:=cP (r:=r) k
theorem jx(k:Q (.d b) n):aM ‹(a::b::r)› (~~~1) n Q:=d4 (r:=r) k
theorem wq(k:Q (.d c) n):aM ‹(a::b::c::r)› (~~~2) n Q:=eB (r:=r) k
theorem vd(k:Q (.d (.bool (aZ h (.str s)))) n):bq (.d (.str s)) (.d (.str h)) n Q:=k
theorem xY(e:δ[i]?=ae (↑(.tuple (.str s::r))))(z:aZ h (.str s)=ai)(k:W δ n K):aL (cT (w2 (w2 (ak i) (wC (.int 0)) aM) (wC (.str h)) bq)) W V δ n K:=
 bB (λQ q=>aC (k:=ai) (λQ q=>ar (ar (av e (aD (gz (aD (vd (by rw[z];exact q)))))))) q) k
theorem kL(e:δ[i]?=ae (↑(.tuple (.str s::r))))(z:aZ h (.str s)=aj)(k:V δ n K):aL (cT (w2 (w2 (ak i) (wC (.int 0)) aM) (wC (.str h)) bq)) W V δ n K:=
 aT (λQ q=>aC (k:=aj) (λQ q=>ar (ar (av e (aD (gz (aD (vd (by rw[z];exact q)))))))) q) k
end
theorem Hf(k:Q ‹xs› n):g9 [.d (.list xs)] n Q:=k
def pN(N:List (List Nat)):List Aa:=N.map λnu=>.list (aE nu)
theorem RA:b9 sI EO ["_law_plan_here","_law_movers","_law_stand","_law_numbers","_law_fresh","_law_rows","_law_behind","_law_mover","_law_other","_law_row_here"]:=λws n Q h=>by
 obtain⟨ps,ns,L,R,rfl,ok,k⟩:=h;have hR:R.length<=1000:=by rw[rY ok.2.2.2.2];have:=ok.2.2.2.1;omega
 have okp:=ok.1;have hns:=ok.2.2.1.1;show EO [↑(.tuple [bf ps,bH ns]),↑(.list (aE L)),ah,ah,ah,ah,ah,ah,ah,ah] n _;refine aB (bx (x:=bJ (d6 ps,ns)) (λQ q=>?_) ?_)
 ·refine cz (aN (bc (jO (ds:=ps.map d5) (λQ q=>ar (av rfl (aD (gz q)))) ?_)));show di _ _ _ _ _ _ [ah] n;refine pP d5 (λ_=>bR (0,0,[])) ps ah n (λP hP n Q' q=>gQ (aD (aD (show aA ao _ _ _ from Aj ∎ (Aj (show 3<=1000 by decide) q))))) ?_;refine Hf (ar (av rfl (aD (jx (Aj (show 2<=1000 by decide) ?_)))));have e:(d6 ps).map bR=ps.map λ_=>bR (0,0,[]):=by unfold d6;rw[Df];rfl
  unfold bJ de at q;rw[e]at q;exact q
 ac_nf;have hlen:∀(δ:Sl)(Q:DQ),δ[0]?=ae (↑(.tuple [bf ps,bH ns]))->Q (~~~ns.length) n->wB dS (aq (w2 ↥0 ⇑1 aM) ao) δ n Q:=λδ Q e q=>aN (ar (av e (aD (jx (show Q (~~~((ns.map cS).length:Nat)) n by rw[Ab];exact q)))));refine aB (bx (x:=.list (aE (A8 ns.length))) (λQ q=>bc (show u7 _ _ _ _ from hlen _ _ rfl ⟨ns.length,rfl,by omega,q⟩)) ?_);ac_nf;refine aB (bx (x:=.int ns.length) (λQ q=>tO rfl (by rw[j0,C2];exact q)) ?_);ac_nf;refine aB (iI ?_);ac_nf;refine aB (show br 6 _ _ _ _ from oi (aN (av rfl (show jT [.d (.list (aE (A8 ns.length)))] n _ from Aj (show 1<=1000 by decide) ?_))));ac_nf;refine aB ?_;unfold aU fU;refine av rfl ?_;refine eV (λds δ m=>m=n/\∃(M:List Nat)(s:Sd)(nu:List Nat)(fr:Nat)(R0 R1:List Aa)(N0:List (List Nat))(x7 x8 x9:Option SV),ds=aE M/\δ=[↑(.tuple [bf ps,bH ns]),↑(.list (aE L)),↑(bJ s),↑(.list (aE nu)),↑(.int fr),ae (.own R0),ae (.own (pN N0)),x7,x8,x9]/\LgI ps R s nu fr M R0 R1/\N0.length=R0.length+1/\N0++(fG ps s nu fr M).drop 1=eE ps ns L) (λδ m I=>?_) (λd r δ m N I kN=>?_) _ _ _ ⟨rfl,L,_,_,_,[],R,[A8 ns.length],ah,ah,ah,rfl,rfl,mK ok,rfl,(w6 _ _ _ _ _).symm⟩
 ·obtain⟨rfl,M,s,nu,fr,R0,R1,N0,x7,x8,x9,ed,rfl,I,hN,eN⟩:=I;cases M with
  |nil=>
   cases I.lg;have e:=I.eq;rw[Bm]at e;have eN:N0++[]=eE ps ns L:=eN;rw[Bm]at eN;dsimp only;refine gO rfl ?_;ac_nf;refine gO rfl ?_;ac_nf;rw[e,eN];exact bb (cz (av rfl (av rfl (Aj (show 2<=1000 by decide) k))))
  |cons a M=>cases ed
 ·obtain⟨rfl,M,s,nu,fr,R0,R1,N0,x7,x8,x9,ed,rfl,I,hN,eN⟩:=I;cases M with
  |nil=>cases ed
  |cons a M=>
   obtain⟨rfl,rfl⟩:=Bk ed;obtain⟨t,R2,B,J⟩:=I.step okp;rw[Jx B.af]at eN;have eN:N0++fG ps t (aI ps s nu fr a).2.1 (aI ps s nu fr a).2.2 M=eE ps ns L:=eN;rw[w6,List.append_cons]at eN;have hnl:nu.length<=100:=by rw[B.nu.len];exact B.st.2.2.1
   dsimp only[aJ,Am];refine aB (bx (x:=bJ t) (λQ q=>bX (ar (av rfl (aD (gz (av rfl (av rfl ⟨ps,s.1,s.2,a,rfl,B.st,B.le,by rw[B.af];exact q⟩))))))) ?_);ac_nf;refine aB (aT (λQ q=>aC (k:=aj) (λQ q=>ar (av rfl (aD (dY q)))) q) ?_);ac_rfl;refine aB (bx (x:=(aI ps s nu fr a).1) (λQ q=>wN (ar (av rfl (aD (gz (av rfl (av rfl (av rfl (av rfl ⟨ps,s,t,nu,fr,a,rfl,B,q⟩))))))))) ?_);ac_nf;have tl:∀(nu':List Nat)(fr':Nat),nu'=(aI ps s nu fr a).2.1->fr'=(aI ps s nu fr a).2.2->∀K:DEnds,K.nx=N->⇑1027 [↑(.tuple [bf ps,bH ns]),↑(.list (aE L)),↑(bJ s),↑(.list (aE nu')),↑(.int fr'),ae (.own R0),ae (.own (pN N0)),↑(.int (a:Nat)),↑(bJ t),ae (.w (.d (aI ps s nu fr a).1))] m K:=λnu' fr' e1 e2 K hK=>by
    subst e1 e2 hK;have h0:=I.lt hR;have h1:R0.length+1<=1000:=by
     have:=congrArg F2 J.eq;rw[Af,Af,Av]at this;omega
    refine aB (gP rfl (λQ q=>av rfl q) h0 ?_);ac_nf;refine aB (gP rfl (λQ q=>av rfl q) (by unfold pN;rw[Ab,hN];omega) ?_);ac_nf;refine bx (x:=bJ t) (λQ q=>av rfl q) ?_;ac_nf;refine kN _ _ ⟨rfl,M,t,_,_,_,R2,N0++[(aI ps s nu fr a).2.1],↑(.int (a:Nat)),↑(bJ t),ae (.w (.d (aI ps s nu fr a).1)),rfl,?_,J,by rw[Af,Af,hN];rfl,eN⟩;unfold pN;rw[A9];rfl
   have nob:∀(x:Str)(rr:List Aa),(aI ps s nu fr a).1=.tuple (.str x::rr)->aZ "clock" (.str x)=aj->aZ "takes" (.str x)=aj->aZ "lays" (.str x)=aj->nu=(aI ps s nu fr a).2.1->fr=(aI ps s nu fr a).2.2->∀(K:DEnds)(W1 W2 W3:aR),K.nx=N->
     au (aL (cT (w2 (w2 ↥9 ⇑0 aM) ⇑"clock" bq)) W1 aG) (au (aL (cT (w2 (w2 ↥9 ⇑0 aM) ⇑"takes" bq)) W2 aG) (au (aL (cT (w2 (w2 ↥9 ⇑0 aM) ⇑"lays" bq)) W3 aG) ⇑1027)) [↑(.tuple [bf ps,bH ns]),↑(.list (aE L)),↑(bJ s),↑(.list (aE nu)),↑(.int fr),ae (.own R0),ae (.own (pN N0)),↑(.int (a:Nat)),↑(bJ t),ae (.w (.d (aI ps s nu fr a).1))] m K:=λx rr er h1 h2 h3 e1 e2 K W1 W2 W3 hK=>by
    have T:=tl nu fr e1 e2 K hK;rw[er]at T ⊢;refine aB (kL rfl h1 ?_);ac_rfl;refine aB (kL rfl h2 ?_);ac_rfl;refine aB (kL rfl h3 ?_);exact T
   by_cases em:a=ps.length
   ·subst em;rw[lS]at tl ⊢;refine aB (xY (s:="clock") rfl ∅ ?_);refine bx (x:=.list (aE (nu.filter λx=>!decide (x∈dr nu s.2)))) (λQ q=>bc (vA (ds:=aE nu) (λQ q=>av rfl q) ?_)) ?_
    ·show di _ _ _ _ _ _ [ah,↑(.tuple [.str "clock",.tuple (aE (dr nu s.2))])] m;refine jS (λi:Nat=>.int i) (λi:Nat=>.int i) (λx=>!decide (x∈dr nu s.2)) nu [] ah m (λa _ n Q' q=>aC (k:=!decide (a∈dr nu s.2)) (λQ q=>ar (av rfl (ar (av rfl (aD (jx (show eO ai (~~~a) ‹(aE (dr nu s.2))› n Q from Aj rfl (Aj (HJ _) ?_)))))))) q) (λa _ n Q' q=>av rfl q) ?_
     ·rw[vH];exact q
     ·rw[Bx];exact q
    ac_nf;refine aB (kL (s:="clock") rfl ∅ ?_);ac_rfl;refine aB (kL (s:="clock") rfl ∅ ?_);ac_rfl;exact tl _ _ rfl rfl _ rfl
   ·have hm:a < ps.length:=by have:=B.le;omega
    obtain⟨P,xb,xp,nm,w,as,ac,H,ea,T⟩:=lH B.st.2.1 hm B.af;rw[lr hm ea]at tl nob ⊢;cases ac with
    |lay fs age=>
     refine aB (kL (s:="lays") rfl ∅ ?_);ac_rfl;refine aB (kL (s:="lays") rfl ∅ ?_);ac_rfl;refine aB (xY (s:="lays") rfl ∅ ?_);refine aB (bx (x:=.list (aE (nu++[fr]))) (λQ q=>ar (av rfl (bc (oi (av rfl (Aj (show 1<=1000 by decide) (Aj ?_ ?_))))))) ?_)
     ·show(aE nu).length+1<=Ay;exact A4 (by rw[j0];omega) (fc (Al 1000))
     ·rw[xx]at q;exact q
     ac_nf;refine bx (x:=.int ((fr+1:Nat):Int)) (λQ q=>ar (av rfl (aD (du q)))) ?_;ac_nf;exact tl _ _ rfl rfl _ rfl
    |take gs=>
     obtain⟨i,eg,hi,_⟩:=T;have hi':i < nu.length:=by rw[B.nu.len];exact hi
     have ed:eu nu (bG ps s.1 s.2 a)=.int (nu[i]:Nat):=by rw[eg];exact pL hi'
     have en:eW nu (bG ps s.1 s.2 a)=ae nu[i]:=by rw[eg];exact qu hi'
     unfold jl at tl ⊢;rw[ed,en]at tl;rw[ed];refine aB (kL (s:="takes") rfl ∅ ?_);ac_rfl;refine aB (xY (s:="takes") rfl ∅ ?_);refine bx (x:=.list (aE (nu.filter λx=>!decide (ae x=ae nu[i])))) (λQ q=>bc (vA (ds:=aE nu) (λQ q=>av rfl q) ?_)) ?_
     ·show di _ _ _ _ _ _ [ah,↑(.tuple [.str "takes",.int a,.int (nu[i]:Nat)])] m;refine jS (λi:Nat=>.int i) (λi:Nat=>.int i) (λx=>!decide (ae x=ae nu[i])) nu [] ah m (λb _ n Q' q=>aC (k:=!decide (ae b=ae nu[i])) (λQ q=>ar (av rfl (ar (av rfl (aD (wq (show Q (.d (.bool (!decide ((b:Int)=(nu[i]:Int))))) n by
       rw[show decide ((b:Int)=(nu[i]:Int))=decide (ae b=ae nu[i])from decide_eq_decide.mpr ⟨λe=>by rw[Int.ofNat.inj e],λe=>by rw[A7 e]⟩];exact q))))))) q) (λa _ n Q' q=>av rfl q) ?_
      rw[Bx];exact q
     ac_nf;refine aB (kL (s:="takes") rfl ∅ ?_);ac_rfl;exact tl _ _ rfl rfl _ rfl
    |read gs=>exact nob "reads" _ rfl ∅ ∅ ∅ rfl rfl _ _ _ _ rfl
    |look gs b=>exact nob "looks" _ rfl ∅ ∅ ∅ rfl rfl _ _ _ _ rfl
    |same f g b=>exact nob "goes" _ rfl ∅ ∅ ∅ rfl rfl _ _ _ _ rfl
    |go b=>exact nob "goes" _ rfl ∅ ∅ ∅ rfl rfl _ _ _ _ rfl
theorem Qt:b9 xJ Hk ["_law_plan_here","_law_thing","_law_movers","_law_row_here","_law_due"]:=λws n Q h=>by
 obtain⟨ps,ns,rs,rfl,pl,th,lg,k⟩:=h;obtain⟨L,hL,hmt,hrw⟩:=HD pl.1 rs _ _ _ (nh pl (th.2 rs rfl).1) lg;have hlen:L.length=rs.length:=(rY hL).symm;have h40:rs.length<=40:=(th.2 rs rfl).1;show Hk [↑(.tuple [bf ps,bH ns]),↑(.list rs),ah,ah,ah] n _;refine aB (iI ?_);ac_nf;refine aB ?_;unfold aU fU;refine av rfl ?_;refine eV (λds δ m=>m=n/\∃(dn:List Aa)(x3:Option SV),dn++ds=rs/\δ=[↑(.tuple [bf ps,bH ns]),↑(.list rs),ae (.own (dn.map (eJ ps))),x3,ah]) (λδ m I=>?_) (λd r δ m N I kN=>?_) _ _ _ ⟨rfl,[],ah,rfl,rfl⟩
 ·obtain⟨rfl,dn,x3,en,rfl⟩:=I;rw[Bm]at en;subst en;dsimp only;refine gO rfl ?_;ac_nf;rw[hmt];refine aB (aT (λQ q=>aC (k:=aj) (λQ q=>ar (aD (bc (vA (ds:=aE L) (λQ q=>av rfl q) ?_)))) q) ?_)
  ·show di _ _ _ _ _ _ [ah] m;refine pP (λi:Nat=>.int i) (λ_=>.bool aj) L ah m (λi _ n Q' q=>show bF _ _ _ _ _ from av rfl (show Q' (.d (.bool (dw "bool" (.int i)))) n from q)) ?_;have e:∀l:List Nat,b8 (.bool ai) (l.map λ_=>.bool aj)=aj:=λl=>by
    induction l with
    |nil=>rfl
    |cons _ l ih=>rw[Ba];exact ih
   have f:∀l:List Nat,(l.map λ_=>PyData.bool aj).all fL=ai:=λl=>by
    induction l with
    |nil=>rfl
    |cons _ l ih=>rw[Ba];exact ih
   refine Aj rfl (Aj (f L) ?_);rw[if_neg Ae,e];exact q
  ac_rfl;refine aB (bx (x:=.tuple [.list dn,fW (eE ps ns L)]) (λQ q=>bU (av rfl (av rfl ⟨ps,ns,L,dn,rfl,⟨pl.1,pl.2.1,pl.2.2,by omega,hL⟩,q⟩))) ?_);ac_nf;refine bb (Jj (λQ q=>ar (av rfl (aD (dY q)))) (ar (aN (dj rfl (jL th.sml (aN (av rfl (jL th.sml (O6 k)))))))))
 ·obtain⟨rfl,dn,x3,en,rfl⟩:=I;have hd:=hrw d (by rw[<-en];simp);have hdn:dn.length < 1000000:=by
   have:=congrArg F2 en;rw[Af]at this;omega
  dsimp only[aJ,Am];obtain⟨x,b,rr,rfl,_,_⟩:=xu hd;refine gP (x:=eJ ps (.tuple (.str x::b::rr))) rfl (λQ q=>?_) (by rw[Ab];exact hdn) (kN _ _ ⟨rfl,dn++[.tuple (.str x::b::rr)],_,by rw[Bh];exact en,by rw[A9];rfl⟩);refine fP (b:=decide (x="clock")) (λQ q=>aC (k:=decide (x="clock")) (λQ q=>ar (ar (av rfl (aD (cP (aD q)))))) q) ?_;have e:eJ ps (.tuple (.str x::b::rr))=if decide (x="clock")=ai then .int ps.length else b:=rfl
  rw[e]at q;by_cases hx:x="clock"
  ·rw[if_pos (decide_eq_true hx)]at q ⊢;refine aN (ar (av rfl (aD (cP (tZ ?_)))));rw[Ab];exact q
  ·rw[if_neg (by rw[decide_eq_false hx];exact Ae)]at q ⊢;exact ar (av rfl (aD (d4 q)))
theorem gL{P:Aa->Prop}{a b:List Aa}(ha:∀x∈a,P x)(hb:∀x∈b,P x):∀x∈a++b,P x:=λx hx=>(Bd.mp hx).elim (ha x) (hb x)
theorem iC{P:Aa->Prop}(ha:P a):∀x∈[a],P x:=λx hx=>by rw[Bc.mp hx];exact ha
theorem oU(h:iH x=ai)(h2:(decide (x.length<=8)&&Ep x)=ai):Ye (.str x):=(qj h h2).ye
def Ev(w:DT)(δ:Sl)(n:Int)(x:Aa):Prop:=∀Q:DQ,Q (.d x) n->w δ n Q
def qG(w:eZ)(δ:Sl)(n:Int)(xs:List Aa):Prop:=∀Q:List Wv->Int->Prop,Q (xs.map .d) n->w δ n Q
theorem vB:∀xs:List Aa,iV (xs.map Wv.d)=ae xs
 |[]=>rfl
 |x::r=>by rw[Ba,iV,vB r];rfl
section
variable{δ:Sl}{n:Int}{w w':DT}{ws:eZ}{x y:Aa}{xs ys:List Aa}
theorem fH:qG ao δ n []:=λQ q=>q
theorem bZ(h:Ev w δ n x)(hr:qG ws δ n xs):qG (aq w ws) δ n (x::xs):=λQ q=>h _ (hr _ q)
theorem mU(h:qG ws δ n xs)(hl:xs.length<=1000:=by exact Bu rfl):Ev (bj (aQ ws)) δ n (.list xs):=λQ q=>by
 refine bc (h _ ?_);rw[vB];exact⟨hl,q⟩
theorem ir(h:qG ws δ n xs)(hl:xs.length<=1000:=by exact Bu rfl):Ev (aA ws) δ n (.tuple xs):=λQ q=>by
 refine h _ ?_;rw[vB];exact⟨hl,q⟩
theorem gv(e:δ[i]?=ae (↑x):=by rfl):Ev (ak i) δ n x:=λQ q=>av e q
theorem bM:Ev (wC x) δ n x:=λQ q=>q
theorem vz(h:Ev w δ n (.tuple xs))(h':Ev w' δ n (.tuple ys))(hl:xs.length+ys.length<=1000000):Ev (w2 w w' eG) δ n (.tuple (xs++ys)):=λQ q=>h _ (h' _ (gH hl q))
theorem vb(h:Ev w δ n (.tuple (x::y::xs))):Ev (w2 w ⇑1 az) δ n y:=λQ q=>h _ (d4 q)
theorem HW(h:Ev w δ n (.tuple xs)):Ev (wB lX (aq w ao)) δ n (.list xs):=λQ q=>aN (h _ (xk q))
theorem UL(h:Ev w δ n (.tuple xs)):Ev (dN w cF (cy (dE ⇑1))) δ n (.tuple (bo xs ah (ae (-1)))):=λQ q=>U3 h q
theorem Pa(h:Ev w δ n (.tuple xs)):Ev (mq w) δ n (.tuple xs.reverse):=λQ q=>h _ q
theorem vZ(h:Ev w δ n (.list xs))(h':Ev w' δ n (.list ys))(hl:xs.length+ys.length<=1000):Ev (w2 w w' dR) δ n (.list (xs++ys)):=λQ q=>h _ (h' _ (sD hl q))
end
theorem lM(h:∀r∈rs,okY r)(hl:rs.length<=40):okTh (.list rs):=
 ⟨⟨wK λx hx=>(h x hx).1,(tD (k:=6) (w:=20000) (m:=40) (λx hx=>(h x hx).2) hl).up ∎ ∎⟩,λrs' e=>by rw[<-PyData.list.inj e];exact⟨hl,h⟩⟩
theorem Pk(h:∀r∈rs,okY r)(hl:rs.length<=40):okTh (.tuple rs):=
 ⟨⟨lC λx hx=>(h x hx).1,(i6 (k:=6) (w:=20000) (m:=40) (λx hx=>(h x hx).2) hl).up ∎ ∎⟩,λrs' e=>nomatch e⟩
theorem Ye.y(h:Ye d):okY d:=⟨h.1,h.2.up ∎ ∎⟩
theorem v1_e:V1 (.tuple []):=oH (λx hx=>absurd hx An) (Bo _)
theorem Il:okY (.tuple [.str "clock",.tuple []]):=kz (λx hx=>by
 simp only[Aq,An,or_false]at hx;rcases hx with rfl|rfl
 ·exact oU ∅ ∅
 ·exact v1_e.ye) ∎
theorem DZ:okY (.tuple [.str "goes",.int 0]):=kz (λx hx=>by
 simp only[Aq,An,or_false]at hx;rcases hx with rfl|rfl
 ·exact oU ∅ ∅
 ·exact(gX ∎ ∎).ye) ∎
section
variable{δ:Sl}{n:Int}{ds:List Aa}
theorem My(hw:∀Q:DQ,Q x n->w δ n Q)(hx:gC x=ae ds)(hu:∀Q:DQ,Q (~~~a) n->u δ n Q)(k:Q (.d (.list (bo ds ah (ae a)))) n):gn w cF (cy u) δ n Q:=by
 unfold gn;refine hw _ ?_;dsimp only[cF,cy];refine hu _ ?_;dsimp only;rw[hx];exact k
theorem GY(hw:∀Q:DQ,Q x n->w δ n Q)(hx:gC x=ae ds)(hu:∀Q:DQ,Q (~~~a) n->u δ n Q)(k:Q (.d (.list (bo ds (ae a) ah))) n):gn w (cy u) cF δ n Q:=by
 unfold gn;refine hw _ ?_;dsimp only[cF,cy];refine hu _ ?_;dsimp only;rw[hx];exact k
theorem yt(hw:∀Q:DQ,Q ‹ds› n->w δ n Q)(k:Q ‹(bo ds ah (ae j))› n):dN w cF (cy (wC (.int j))) δ n Q:=by
 unfold dN;exact hw _ k
theorem tq(hw:∀Q:DQ,Q ‹ds› n->w δ n Q)(k:Q ‹(bo ds (ae j) ah)› n):dN w (cy (wC (.int j))) cF δ n Q:=by
 unfold dN;exact hw _ k
theorem lB(ha:∀Q:Bool->Int->Prop,Q a n->A δ n Q)(hb:∀Q:Bool->Int->Prop,Q b n->B δ n Q)(hc:(a&&b)=c):∀Q:Bool->Int->Prop,Q c n->bW A B δ n Q:=λQ q=>by
 subst hc;cases a with
 |true=>exact iA ha (hb _ q)
 |false=>exact iJ ha q
end
abbrev zd(ds:List Aa)(m:Nat)(w x y z:Option SV):Sl:=[ae (.w .tp),↑(.tuple ds),↑(.int m),w,x,y,z]
theorem FI(x)(r:List Aa)(h1:1<=r.length)(h3:r.length<=3):(bo (.str x::r) ah (ae 2)).length+(bo (.str x::r) (ae 3) ah).length<=4/\(bo (.str x::r) ah (ae 1)).length+(bo (.str x::r) (ae 2) ah).length<=4:=by
 match r,h1,h3 with
 |[a],_,_=>exact⟨Bu rfl,Bu rfl⟩
 |[a,b],_,_=>exact⟨Bu rfl,Bu rfl⟩
 |[a,b,c],_,_=>exact⟨Bu rfl,Bu rfl⟩
 |_::_::_::_::_,_,h=>exact absurd h (by simp)
theorem Qw(h:jd (.tuple (.str x::r)))(e:x="clock"):∃l:List Nat,r=[.tuple (aE l)]/\l.length<=60/\∀i∈l,i<=90:=by
 rcases h with⟨m,k,q,e1,_⟩|⟨y,m,g,e1,hy,_⟩|⟨m,e1,_⟩|⟨l,e1,h⟩
 ·obtain⟨e2,_⟩:=Bk (Cj e1);have:=Ey e2;exact absurd (this.symm.trans e) ∅
 ·obtain⟨e2,_⟩:=Bk (Cj e1);have:=(Ey e2).symm.trans e;rcases hy with rfl|rfl|rfl<;>exact absurd this ∅
 ·obtain⟨e2,_⟩:=Bk (Cj e1);have:=Ey e2;exact absurd (this.symm.trans e) ∅
 ·exact⟨l,(Bk (Cj e1)).2,h⟩
theorem PD(h:jd (.tuple (.str x::r)))(e:x="lays"):∃(a b:Aa)(q:Nt),r=[a,b,cS q]/\kU q:=by
 rcases h with⟨m,k,q,e1,_,_,hq⟩|⟨y,m,g,e1,hy,_⟩|⟨m,e1,_⟩|⟨l,e1,h⟩
 ·exact⟨_,_,q,(Bk (Cj e1)).2,hq⟩
 ·obtain⟨e2,_⟩:=Bk (Cj e1);have:=(Ey e2).symm.trans e;rcases hy with rfl|rfl|rfl<;>exact absurd this ∅
 ·obtain⟨e2,_⟩:=Bk (Cj e1);have:=Ey e2;exact absurd (this.symm.trans e) ∅
 ·obtain⟨e2,_⟩:=Bk (Cj e1);have:=Ey e2;exact absurd (this.symm.trans e) ∅
theorem kG(h:xs[i]?=ae x)(k:Q (.d x) n):aM (.d (.list xs)) (~~~(i:Nat)) n Q:=show az _ _ _ _ from vM h k
theorem yF{m:Nat}(h:m<=5):Ye (.int m):=(gX ⋯ ⋯).ye
theorem Nn:b9 vT ET ["_law_tape_here","_law_row_here","_law_hands","_law_way","_law_line","_law_age_here","_law_some"]:=λws n Q h=>by
 obtain⟨row,m,rfl,rs,hm,hn,k⟩:=h;obtain⟨x,r,rfl,hr1,hr3,htk,hye⟩:=N1 rs;show ET (zd (.str x::r) m ah ah ah ah) n _;have hl4:(Cy x::r).length<=4:=by rw[Ap];omega
 refine aB (o9 (m:=8) rfl ⋯ ∎ ∎ λw w0 w1=>?_);ac_nf;have eqw:∀(j:Int) b,decide (w=j)=b->∀Q:Bool->Int->Prop,Q b (n+1)->cT (w2 ↥3 (wC (.int j)) a9) (zd (.str x::r) m (↑(.int w)) ah ah ah) (n+1) Q:=λj b e Q q=>aC (k:=b) (λQ q=>ar (av rfl (aD (tL (by rw[e];exact q))))) q;have lay:∀(h:Str) b,aZ h (.str x)=b->∀Q:Bool->Int->Prop,Q b (n+1)->cT (w2 (w2 ↥1 ⇑0 az) (wC (.str h)) a9) (zd (.str x::r) m (↑(.int w)) ah ah ah) (n+1) Q:=λh b e Q q=>aC (k:=b) (λQ q=>jy (a:=.str x) rfl (by rw[e];exact q)) q;have hx:∀{δ:Sl}{n:Int},δ[1]?=ae (↑(.tuple (.str x::r)))->Ev ↥1 δ n (.tuple (.str x::r)):=λe=>gv e;have cm:∀(a b:Option Int),∀y∈bo (.str x::r) a b,Ye y:=λa b y hy=>hye y (wI y hy);have cl:∀(a b:Option Int),(bo (.str x::r) a b).length<=4:=λa b=>A4 (zq _ a b) hl4;have put:∀(c d:Option Int)(y:Aa),Ye y->(bo (.str x::r) ah c).length+(bo (.str x::r) d ah).length<=4->okY (.tuple (bo (.str x::r) ah c++[y]++bo (.str x::r) d ah)):=λc d y hy hl=>
  kz (gL (gL (cm _ _) (iC hy)) (cm _ _)) (by rw[Af,Af];show _+1+_<=_;omega)
 cases e0:(decide (w=0)&&decide ((2:Int) < ((Cy x::r).length:Nat)))with
 |true=>
  refine cg (lB (eqw 0 _ rfl) (λQ q=>aC (k:=decide ((2:Int) < ((Cy x::r).length:Nat))) (λQ q=>ar (aN (av rfl (tZ (aD (FA q)))))) q) e0) ?_;refine ar (ar (yt (hx rfl) (jX (ar (mU (bZ bM (bZ bM (bZ bM (bZ bM (bZ bM fH))))) (Bu rfl) _ (gA (m:=5) rfl ⋯ ∎ ∎ λq q0 q1=>kd q0 q1 λd hd=>?_))))));have hy:Ye d:=by
   simp only[Aq,An,or_false]at hd;rcases hd with rfl|rfl|rfl|rfl|rfl
   ·exact v0_none.ye
   ·exact(gX ∎ ∎).ye
   ·exact(gX ∎ ∎).ye
   ·exact(Iw _).ye
   ·exact(gX ∎ ∎).ye
  have hl2:=FI x r hr1 hr3;refine Aj (show 1<=1000 by decide) (gH (by have:=cl ah (ae 2);show _+1<=_;omega) (tq (hx rfl) (gH ?_ (k _ _ (put (ae 2) (ae 3) d hy hl2.1) ⋯))));rw[Af];show _+1+_<=_;omega
 |false=>
 refine bI (lB (eqw 0 _ rfl) (λQ q=>aC (k:=decide ((2:Int) < ((Cy x::r).length:Nat))) (λQ q=>ar (aN (av rfl (tZ (aD (FA q)))))) q) e0) ?_
 cases e1:(decide (w=1)&&!aZ "clock" (.str x))with
 |true=>
  refine cg (lB (eqw 1 _ rfl) (λQ q=>aC (k:=!aZ "clock" (.str x)) (λQ q=>ar (dj rfl (aD (mW q)))) q) e1) ?_;refine ar (ar (yt (hx rfl) (jX (ar (mU (bZ bM (bZ bM (bZ bM (bZ gv fH)))) (Bu rfl) _ (gA (m:=4) rfl ⋯ ∎ ∎ λq q0 q1=>kd q0 q1 λd hd=>?_))))));have hy:Ye d:=by
   simp only[Aq,An,or_false]at hd;rcases hd with rfl|rfl|rfl|rfl
   ·exact(gX ∎ ∎).ye
   ·exact(gX ∎ ∎).ye
   ·exact(Iw _).ye
   ·exact yF hm
  have hl2:=FI x r hr1 hr3;refine Aj (show 1<=1000 by decide) (gH (by have:=cl ah (ae 1);show _+1<=_;omega) (tq (hx rfl) (gH ?_ (k _ _ (put (ae 1) (ae 2) d hy hl2.2) ⋯))));rw[Af];show _+1+_<=_;omega
 |false=>
 refine bI (lB (eqw 1 _ rfl) (λQ q=>aC (k:=!aZ "clock" (.str x)) (λQ q=>ar (dj rfl (aD (mW q)))) q) e1) ?_
 by_cases e2:w=2
 ·refine cg (eqw 2 ai (decide_eq_true e2)) ?_;refine ar (jX (ar (mU (bZ bM (bZ bM (bZ bM (bZ bM (bZ bM (bZ bM fH)))))) (Bu rfl) _ (gA (m:=6) rfl ⋯ ∎ ∎ λq q0 q1=>kd q0 q1 λd hd=>?_))));have hy:Ye d:=by
   simp only[Aq,An,or_false]at hd;rcases hd with rfl|rfl|rfl|rfl|rfl|rfl<;>exact oU ∅ ∅
  refine Aj (show 1<=1000 by decide) (tq (hx rfl) (gH (by have:=cl (ae 1) ah;show 1+_<=_;omega) (k _ _ (kz (gL (iC hy) (cm _ _)) ?_) ⋯)));have:=cl (ae 1) ah;rw[Af];show 1+_<=_;omega
 refine bI (eqw 2 aj (decide_eq_false e2)) ?_
 cases e3:(decide (w=3)&&aZ "clock" (.str x))with
 |true=>
  refine cg (lB (eqw 3 _ rfl) (lay "clock" _ rfl) e3) ?_;rw[A2]at e3;obtain⟨l,rfl,hl,hi⟩:=Qw rs (of_decide_eq_true e3.2);have hv0:∀x∈aE l,V0 x:=λx hx=>by
   obtain⟨i,hi',rfl⟩:=Bg.mp hx;have:=hi i hi';exact gX ⋯ ⋯
  have hlen:(aE l).length<=60:=by unfold aE;rw[Ab];exact hl
  have e1:∀{δ:Sl}{n:Int},δ[1]?=ae (↑(.tuple [.str x,.tuple (aE l)]))->Ev (w2 ↥1 ⇑1 az) δ n (.tuple (aE l)):=λe=>vb (gv e);refine cz (aD (ar (mU (bZ (x:=.tuple (bo (aE l) (ae 1) ah)) (λQ q=>tq (e1 rfl) q) (bZ (vz (e1 rfl) (ir (bZ bM fH)) (by show _+1<=_;omega)) (bZ (HW (e1 rfl)) (bZ (Pa (e1 rfl)) fH)))) (Bu rfl) _ (gA (m:=4) rfl ⋯ ∎ ∎ λq q0 q1=>kd q0 q1 λd hd=>?_))));refine Aj (show 2<=1000 by decide) (k _ _ (kz (gL (iC (oU (x:="clock") ∅ ∅)) (iC (?_:Ye d))) (Bu rfl)) ⋯);simp only[Aq,An,or_false]at hd;rcases hd with rfl|rfl|rfl|rfl
  ·exact(oH (λx hx=>hv0 x (wI x hx)) (by have:=zq (aE l) (ae 1) ah;omega)).ye
  ·exact(oH (gL hv0 (iC (gX ∎ ∎))) (by rw[Af];show _+1<=_;omega)).ye
  ·exact(Ho hv0 ⋯).ye
  ·exact(oH (λx hx=>hv0 x (List.mem_reverse.mp hx)) (by rw[Gt];omega)).ye
 |false=>
 refine bI (lB (eqw 3 _ rfl) (lay "clock" _ rfl) e3) ?_
 cases e4:(decide (w=4)&&aZ "lays" (.str x))with
 |true=>
  rw[A2]at e4;obtain⟨a,b,q,rfl,hq⟩:=PD rs (of_decide_eq_true e4.2);refine aB (bB (lB (eqw 4 _ rfl) (lay "lays" _ rfl) (by rw[A2];exact e4)) ?_);refine aB (show cX _ _ _ _ _ from gZ (m:=3) rfl rfl (show dq 2 _ (.tuple [.tuple q.1,q.2]) _ _ from Aj rfl ?_));grind;obtain⟨⟨⟨h4,h1⟩,hv⟩,hg⟩:=hq;have hv0:∀x∈q.1,V0 x:=λx hx=>RO (hv x hx);have hg0:V0 q.2:=Mo hg;have y0:V1 (.tuple q.1):=oH hv0 ⋯;refine aB (bx (mU (bZ (ir (bZ (gv (x:=.tuple q.1)) (bZ bM fH))) (bZ (ir (bZ (gv (x:=.tuple q.1)) (bZ bM fH))) (bZ (ir (bZ (vz (gv (x:=.tuple q.1)) (ir (bZ bM fH)) (by show _+1<=_;omega)) (bZ (gv (x:=q.2)) fH))) (bZ (gv (x:=.tuple q.1)) fH))))) ?_);ac_nf;refine bb (ar (yt (ds:=[.str x,a,b,cS q]) (λQ q=>av rfl q) (jX (ar (av rfl (gA (m:=4) rfl ⋯ ∎ ∎ λp p0 p1=>kd p0 p1 λd hd=>?_))))));refine Aj (show 1<=1000 by decide) (gH (by have:=cl ah (ae 3);show _+1<=_;omega) (k _ _ (kz (gL (cm ah (ae 3)) (iC (?_:Ye d))) (by have:=cl ah (ae 3);rw[Af];show _+1<=_;omega)) ⋯));simp only[Aq,An,or_false]at hd;rcases hd with rfl|rfl|rfl|rfl
  ·exact uD y0 v0_none
  ·exact uD y0 (gX ∎ ∎)
  ·exact uD (oH (gL hv0 (iC (gX ∎ ∎))) (by rw[Af];show _+1<=_;omega)) hg0
  ·exact y0.ye
 |false=>
 refine aB (aT (lB (eqw 4 _ rfl) (lay "lays" _ rfl) e4) ?_);ac_rfl
 by_cases e5:w=5
 ·refine cg (eqw 5 ai (decide_eq_true e5)) ?_;refine ar (mU (bZ (HW (hx rfl)) (bZ (UL (hx rfl)) (bZ (vz (hx rfl) (ir (bZ bM fH)) (by show _+1<=_;omega)) (bZ (ir (bZ bM (bZ (ir fH) fH))) (bZ (ir (bZ bM (bZ bM fH))) fH))))) (Bu rfl) _ (gA (m:=5) rfl ⋯ ∎ ∎ λq q0 q1=>kd q0 q1 λd hd=>k d _ ?_ ⋯));simp only[Aq,An,or_false]at hd;rcases hd with rfl|rfl|rfl|rfl|rfl
  ·exact N8 hye ⋯
  ·exact kz (cm _ _) (by have:=cl ah (ae (-1));omega)
  ·exact kz (gL hye (iC (gX ∎ ∎).ye)) (by rw[Af];show _+1<=_;omega)
  ·exact Il
  ·exact DZ
 refine bI (eqw 5 aj (decide_eq_false e5)) ?_;exact bb (av rfl (k _ _ (vv rs) ⋯))
abbrev lG(l:List Aa)(m:Nat)(o a w:Option SV):Sl:=[ae (.w .tp),↑(.list l),↑(.int m),o,a,w]
theorem UM:b9 xA AZ ["_law_tape_here","_law_log","_law_hands","_law_rows","_law_at","_law_way"]:=λws n Q h=>by
 obtain⟨l,m,rfl,hl,hm,rl,hn,k⟩:=h;show AZ (lG l m ah ah ah) n _;have yl:∀r∈l,okY r:=λr hr=>vv (rl r hr);refine aB (bx (x:=.list l) (λQ q=>aN (av rfl (show jT [.d (.list l)] n Q from q))) ?_);ac_nf;refine aB (show aF 4 _ _ _ _ from kE (m:=(l.length:Int)+1) rfl (λQ q=>ar (tO rfl (aD (du q)))) ⋯ ⋯ ⋯ λp p0 p1=>?_);obtain⟨a,rfl⟩:∃a:Nat,p=a:=⟨p.toNat,by omega⟩;have ha:a<=l.length:=by omega
 ac_nf;refine aB (o9 (m:=8) rfl ⋯ ∎ ∎ λw w0 w1=>?_);ac_nf;have eqw:∀(j:Int) b,decide (w=j)=b->∀Q:Bool->Int->Prop,Q b (n+1+1)->cT (w2 ↥5 (wC (.int j)) bq) (lG l m (↑(.list l)) (↑(.int a)) (↑(.int w))) (n+1+1) Q:=λj b e Q q=>aC (k:=b) (λQ q=>ar (av rfl (aD (show a9 (~~~w) (~~~j) _ Q from tL (by rw[e];exact q))))) q;have sto:∀{n:Int},Ev (gn ↥3 cF (cy ↥4)) (lG l m (↑(.list l)) (↑(.int a)) (↑(.int w))) n (.list (l.take a)):=λQ q=>My (λQ q=>av rfl q) rfl (λQ q=>av rfl q) (by rw[AY];exact q);have sfr:∀{n:Int}{u:DT}{c:Nat},c<=l.length->(∀Q:DQ,Q (~~~c) n->u (lG l m (↑(.list l)) (↑(.int a)) (↑(.int w))) n Q)->Ev (gn ↥3 (cy u) cF) (lG l m (↑(.list l)) (↑(.int a)) (↑(.int w))) n (.list (l.drop c)):=λhc hu Q q=>GY (λQ q=>av rfl q) rfl hu (by rw[FR _ hc];exact q);have sfrx:∀{n:Int}{u:DT}{c:Nat},(∀Q:DQ,Q (~~~c) n->u (lG l m (↑(.list l)) (↑(.int a)) (↑(.int w))) n Q)->∃e,(∀r∈e,r∈l)/\e.length+c<=max c l.length/\Ev (gn ↥3 (cy u) cF) (lG l m (↑(.list l)) (↑(.int a)) (↑(.int w))) n (.list e):=λ{n u c} hu=>by
  refine⟨_,λr hr=>wI r hr,?_,λQ q=>GY (λQ q=>av rfl q) rfl hu q⟩;unfold bo;rw[Cz,B5,HT.sIx_nat];omega
 have tk:∀r∈l.take a,okY r:=λr hr=>yl r (Gp hr);have tl:(l.take a).length=a:=by rw[Cz];omega
 by_cases e0:w=0
 ·refine cg (eqw 0 ai (decide_eq_true e0)) ?_;obtain⟨e,h1,h2,h3⟩:=sfrx (n:=n+1+1) (c:=a+1) (u:=w2 ↥4 ⇑1 (c6 λi j=>.int (i+j))) (λQ q=>ar (av rfl (aD (du q))));exact vZ sto h3 ⋯ _ (k _ _ (lM (gL tk λr hr=>yl r (h1 r hr)) (by rw[Af];omega)) ⋯)
 refine bI (eqw 0 aj (decide_eq_false e0)) ?_
 by_cases e1:w=1
 ·refine cg (eqw 1 ai (decide_eq_true e1)) ?_;refine vZ sto (sfr (c:=a-1) ⋯ λQ q=>?_) (by rw[B5];omega) _ (k _ _ (lM (gL tk λr hr=>yl r (Fg hr)) (by rw[Af,B5];omega)) ⋯);show Q (~~~(if ai=ai then(if (a:Int)-1 > 0 then(a:Int)-1 else 0)else(if (a:Int)-1 < 0 then(a:Int)-1 else 0))) _;rw[if_pos rfl,show(if (a:Int)-1 > 0 then(a:Int)-1 else 0)=((a-1:Nat):Int) by split<;>omega];exact q
 refine bI (eqw 1 aj (decide_eq_false e1)) ?_
 by_cases e2:w=2
 ·refine cg (eqw 2 ai (decide_eq_true e2)) ?_;exact vZ (sfr (c:=a) ha λQ q=>av rfl q) sto (by rw[B5];omega) _ (k _ _ (lM (gL (λr hr=>yl r (Fg hr)) tk) (by rw[Af,B5];omega)) ⋯)
 refine bI (eqw 2 aj (decide_eq_false e2)) ?_
 by_cases e3:w=3
 ·refine cg (eqw 3 ai (decide_eq_true e3)) ?_;refine ar (av rfl (bc (oi (ar (mU (bZ (ir (bZ bM (bZ (ir fH) fH))) (bZ (ir (bZ bM (bZ bM fH))) (bZ (ir (bZ bM (bZ bM (bZ bM fH)))) (bZ (ir (bZ bM (bZ bM (bZ bM fH)))) fH)))) (Bu rfl) _ (gA (m:=4) rfl ⋯ ∎ ∎ λq q0 q1=>jz q0 q1 λd hd=>?_))))));refine Aj (show 1<=1000 by decide) (sD (by show _+1<=_;omega) (k _ _ (lM (gL yl (iC (?_:okY d))) (by rw[Af];show _+1<=_;omega)) ⋯));have y3:∀(x:Str)(b:Aa),iH x=ai->(decide (x.length<=8)&&Ep x)=ai->Ye b->okY (.tuple [.str x,.int 0,b]):=λx b h1 h2 hb=>kz (gL (gL (iC (oU h1 h2)) (iC (gX ∎ ∎).ye)) (iC hb)) (Bu rfl);simp only[Aq,An,or_false]at hd;rcases hd with rfl|rfl|rfl|rfl
  ·exact Il
  ·exact DZ
  ·exact y3 _ _ ∅ ∅ v0_none.ye
  ·exact y3 _ _ ∅ ∅ (gX ∎ ∎).ye
 refine bI (eqw 3 aj (decide_eq_false e3)) ?_
 by_cases e4:w=4
 ·exact cg (eqw 4 ai (decide_eq_true e4)) (sto _ (k _ _ (lM tk ⋯) ⋯))
 refine bI (eqw 4 aj (decide_eq_false e4)) ?_
 by_cases e5:w=5
 ·exact cg (eqw 5 ai (decide_eq_true e5)) (aN (av rfl (Hf (k _ _ (Pk yl ⋯) ⋯))))
 refine bI (eqw 5 aj (decide_eq_false e5)) ?_;have eqa:∀b,decide ((a:Int)=(l.length:Nat))=b->∀Q:Bool->Int->Prop,Q b (n+1+1)->cT (w2 ↥4 (wB dS (aq ↥3 ao)) bq) (lG l m (↑(.list l)) (↑(.int a)) (↑(.int w))) (n+1+1) Q:=λb e Q q=>aC (k:=b) (λQ q=>ar (av rfl (tO rfl (show a9 (~~~a) (~~~l.length) _ Q from tL (by rw[e];exact q))))) q;by_cases ea:a=l.length
 ·exact cg (eqa ai (decide_eq_true ⋯)) (av rfl (k _ _ (lM yl ⋯) ⋯))
 refine bI (eqa aj (decide_eq_false ⋯)) ?_;obtain⟨t,et⟩:∃t,l[a]?=ae t:=⟨_,Ah ⋯⟩;have ht:t∈l:=A1 et;refine bb (ar (ar (sto _ (bc (oi (bX (av rfl (ar (av rfl (av rfl (kG et (av rfl ⟨t,m,rfl,rl t ht,hm,by omega,λd n' hd hn'=>?_⟩))))))))))));refine Aj (show 1<=1000 by decide) (sD (by show _+1<=_;omega) ?_);refine sfr (c:=a+1) ⋯ (λQ q=>ar (av rfl (aD (du q)))) _ (sD (by rw[Af,B5];show _+1+_<=_;omega) (k _ _ (lM (gL (gL tk (iC hd)) λr hr=>yl r (Fg hr)) (by rw[Af,Af,B5];show _+1+_<=_;omega)) ⋯))
mutual
theorem BV:∀d:Aa,dH d=ai->Cc d d=ai
 |.none,_=>by rw[Cc]
 |.bool b,_=>by rw[Cc];cases b<;>rfl
 |.int i,_=>by rw[Cc];exact beq_self_eq_true i
 |.str x,_=>by rw[Cc];exact beq_self_eq_true x
 |.tuple xs,h=>by rw[Cc];rw[dH]at h;exact zF xs h
 |.list xs,h=>by rw[dH]at h;cases h
 |.dict kvs,h=>by rw[dH]at h;cases h
theorem zF:∀xs:List Aa,kI xs=ai->PyData.eqvAll xs xs=ai
 |[],_=>by rw[PyData.eqvAll]
 |x::xs,h=>by
  rw[kI,A2]at h;rw[PyData.eqvAll,BV x h.1,zF xs h.2];rfl
end
theorem IK(i):dH (.int i)=ai:=by simp[dH]
theorem J8(x):dH (.str x)=ai:=by simp[dH]
theorem OI(h:fR d):dH d=ai:=by
 rcases h with rfl|⟨i,rfl,_⟩<;>simp[dH]
theorem wQ(ha:dH a=ai)(hb:dH b=ai):dH (.tuple [a,b])=ai:=fE λx hx=>by
 simp only[Aq,An,or_false]at hx;rcases hx with rfl|rfl
 ·exact ha
 ·exact hb
theorem Kw(okh:okHs ps s.1)(okn:cO m s.2):dH (bJ s)=ai:=by
 refine wQ (fE λd hd=>?_) (fE λd hd=>?_)
 ·obtain⟨h,hh,rfl⟩:=Bg.mp hd;obtain⟨i,hi⟩:=Bw.mp hh;have hil:=(Ao.mp hi).1;have hil':i < ps.length:=by rw[<-okh.1];exact hil
  obtain⟨h',b,e1,_,e3⟩:=okh.2 i _ (Ah hil');rw[hi]at e1;cases e1;refine fE λx hx=>?_;simp only[Aq,An,or_false]at hx;rcases hx with rfl|rfl|rfl
  ·exact IK _
  ·exact IK _
  ·refine fE λy hy=>?_;obtain⟨p,hp,rfl⟩:=Bg.mp hy;exact wQ (J8 _) (u9 (e3.ok p hp).2)
 ·obtain⟨q,hq,rfl⟩:=Bg.mp hd;exact wQ (fE λx hx=>u9 ((okn.2 q hq).1.2 x hx)) (OI (okn.2 q hq).2)
theorem FG(okp:cu ps)(W:Wlk ps s0 L S):∀(M:List Nat)(i:Nat){s:Sd}{nu:List Nat}{fr:Nat}{R0 R1:List Aa}{P:List Rw},L.drop i=M->S[i]?=ae s->LgI ps R s nu fr M R0 R1->Sts ns0 P s.2 nu fr->
  ∃Rs:List Rw,R1=Rs.map e9/\Rs.length=M.length/\∀k,k<=M.length->∃z nu' fr',S[i+k]?=ae z/\Sts ns0 (P++Rs.take k) z.2 nu' fr'/\(fG ps s nu fr M)[k]?=ae nu'
 |[],i,s,nu,fr,R0,R1,P,eM,eS,I,st=>by
  have:R1=[]:=by cases I.lg;rfl
  refine⟨[],this,rfl,λk hk=>⟨s,nu,fr,?_,by rw[List.take_nil,Bm];exact st,?_⟩⟩
  ·rw[Nat.le_zero.mp hk];exact eS
  ·rw[Nat.le_zero.mp hk];rfl
 |m::M,i,s,nu,fr,R0,R1,P,eM,eS,I,st=>by
  have hi:L[i]?=ae m:=by
   have:(L.drop i)[0]?=ae m:=by rw[eM];rfl
   rw[List.getElem?_drop]at this;exact this
  obtain⟨_,s',t',e1,e2,e3⟩:=W.st i m hi;rw[eS]at e1;cases e1;obtain⟨t,R2,B,I2⟩:=I.step okp;have:t'=t:=A7 (e3.symm.trans B.af);subst this;obtain⟨r,er,sp⟩:=S1 B (W.ok _ _ e2).2.2;have e4:R1=(aI ps s nu fr m).1::R2:=by
   have:=I.eq.trans I2.eq.symm;rw[Bh]at this;exact List.append_cancel_left this
  obtain⟨Rs,h1,h2,h3⟩:=FG okp W M (i+1) (by rw[<-List.drop_drop,eM];rfl) e2 I2 (.snoc st sp);refine⟨r::Rs,by rw[e4,h1,Ba,er],by rw[Ap,h2,Ap],λk hk=>?_⟩;cases k with
  |zero=>exact⟨s,nu,fr,eS,by rw[List.take_zero,Bm];exact st,by rw[w6];rfl⟩
  |succ k=>
   obtain⟨z,nu',fr',f1,f2,f3⟩:=h3 k (by rw[Ap]at hk;omega);refine⟨z,nu',fr',by rw[<-f1];congr 1;omega,?_,?_⟩
   ·rw[List.take_succ_cons];rw[Bh]at f2;exact f2
   ·rw[Jx B.af];exact f3
theorem PR(ok:jG ps ns L R)(W:Wlk ps (d6 ps,ns) L S)(h30:L.length<=30):
  ∃Rs:List Rw,R=Rs.map e9/\Rs.length=L.length/\okLg ns Rs/\∀k,k<=L.length->∃z nu fr,S[k]?=ae z/\Sts ns (Rs.take k) z.2 nu fr/\(eE ps ns L)[k]?=ae nu:=by
 obtain⟨Rs,h1,h2,h3⟩:=FG ok.1 (ns0:=ns) W L 0 rfl W.fst (mK ok) .nil;simp only[Bx,Ex]at h3;refine⟨Rs,h1,h2,⟨?_,by rw[h2];exact h30,ok.2.2.1.1,λq hq=>(ok.2.2.1.2 q hq).2⟩,h3⟩;obtain⟨z,nu,fr,_,h,_⟩:=h3 L.length (Al _);rw[<-h2,Cu (Al _)]at h;exact⟨_,_,_,h⟩
theorem S3(hl:l.length<=62)(h:∀i∈l,i<=90):SmlA (.list (aE l)):=(Ho (λx hx=>by
 obtain⟨i,hi,rfl⟩:=Bg.mp hx;have:=h i hi;exact gX ⋯ ⋯) (by rw[j0];exact hl)).ye.y.sml
theorem Sg(h:Rs.length<=30)(hm:m<=42):SmlA (.list ((A8 m).map (f6 Rs))):=by
 have key:∀o:Option Nat,(∀j,o=ae j->j<=99)->Sm 0 20 (cf o):=λo ho=>by
  cases o with
  |none=>exact sm_none
  |some j=>exact yR (ho j rfl)
 have h2:Small (.list ((A8 m).map (f6 Rs))):=(tD (k:=1) (w:=100) (m:=100) (λd hd=>by
  obtain⟨i,_,rfl⟩:=Bg.mp hd;refine(rV (key _ λj e=>?_) (key _ λj e=>?_)).up ∎ ∎
  ·have:=BF e;omega
  ·have:=(D7.mp e).1;omega) (by rw[Ab,C2];omega)).small ∎ ∎
 exact⟨h2.1,h2.2.1,h2.2.2.2.2,h2.len⟩
section
variable{δ:Sl}{n:Int}{Q:DQ}{i:Nat}
theorem U9{Q:Bool->Int->Prop}(e:δ[i]?=ae (ae (.own ds)))(k:c (δ.set i (↑(.list ds))) n Q):qI i c δ n Q:=by
 unfold qI;rw[e];exact k
theorem yL(e:δ[i]?=ae (↑(.list ds)))(k:Q (.d (.list ds)) n):wB jT (aq (ak i) ao) δ n Q:=aN (av e k)
theorem MG(k:Q (.d x) n):aM (.d (.list (xs++[x]))) (~~~(-1)) n Q:=show(match dh (xs++[x]) (-1)with|some d=>Q (.d d) n|none=>False) by rw[yj];exact k
theorem Rx(k:Q (.d x) n):dE (wC (.int 1)) δ n (λy n2=>aM (.d (.list (xs++[x]))) y n2 Q):=MG k
theorem PM{Q:List Aa->Int->Prop}(k:w δ n λx n1=>w' δ n1 λy n2=>w'' δ n2 λz n3=>S [x,y,z] n3 Q):kr S (aq w (aq w' (aq w'' ao))) δ n Q:=k
theorem zt(e:δ[i]?=ae (↑(.bool b)))(k:Q (.d (.bool ai)) n):bF "bool" (ak i) δ n Q:=av e k
theorem v3(e:δ[i]?=ae (↑d))(k:Q (.d (.bool (dw "list" d))) n):bF "list" (ak i) δ n Q:=av e k
theorem Nv(e:δ[i]?=ae (↑(.tuple [bf ps,b])))(k:Q (~~~(ps.length:Nat)) n):wB dS (aq (w2 (ak i) ⇑0 aM) ao) δ n Q:=
 aN (ar (av e (aD (gz (show Q (~~~((ps.map d5).length:Nat)) n by rw[Ab];exact k)))))
theorem Ro(e:δ[i]?=ae (↑(.tuple [b,bH ns])))(k:Q (~~~(ns.length:Nat)) n):wB dS (aq (w2 (ak i) ⇑1 aM) ao) δ n Q:=
 aN (ar (av e (aD (jx (show Q (~~~((ns.map cS).length:Nat)) n by rw[Ab];exact k)))))
end
abbrev mC(p m s l b:Aa)(x7 x8 x9 x10 x11 x12:Option SV):Sl:=[ah,ae (.w .tp),↑p,↑m,↑s,↑l,↑b,x7,x8,x9,x10,x11,x12]
abbrev Za:List Str:=["_law_script","_law_tape_here","_law_plan_here","_law_movers","_law_stands","_law_log","_law_behind","_law_turn","_law_told","_law_many","_law_k","_law_thing","_law_good"]
theorem RP:HG (ah::ae (.w .tp)::Bj (F2 Za-2) ah) 0 p8:=by
 show HG [ah,ae (.w .tp),ah,ah,ah,ah,ah,ah,ah,ah,ah,ah,ah] 0 p8;refine aB (show aF 2 _ _ _ _ from cJ (av rfl (Aj rfl ⟨by decide,λps ns n0 hp hf okn hn0=>?_⟩)));ac_nf;have okh:=LV hp hf;have pl:km ps ns:=⟨hp,okh,okn⟩;refine aB (show cX _ _ _ _ _ from j5 (av rfl (ar (av rfl (aD (gz (cJ (av rfl ⟨ps,ns,rfl,hp.1,zG (m:=31) rfl (λQ q=>aD q) ⋯ ∎ ∎ λr r0 r1=>?_⟩))))))));obtain⟨mo,rfl⟩:=F6 r0;refine⟨ps,(d6 ps,ns),mo,rfl,by omega,hp,okh,okn,by omega,λL S n1 W hL hn1=>⟨rfl,?_⟩⟩;grind;have h30:L.length<=30:=by omega
 obtain⟨R,ka⟩:=RZ hp okh okn h30 W;obtain⟨lgR,rwR⟩:=OK hp ka.2.2.2.2 (nh pl ⋯);have hRl:R.length=L.length:=rY ka.2.2.2.2;have thR:okTh (.list R):=lM (λr hr=>vv (rwR r hr)) ⋯;have smR:=thR.sml;have ltR:gy ps ns (.list R)=ai:=lgR;refine aB (show cX _ _ _ _ _ from bU (av rfl (av rfl ⟨ps,ns,L,R,rfl,ka,⟨rfl,?_⟩⟩)));grind;refine aB (MC 2 rfl ∎ ?_);refine eV (λds δ m=>m=n1/\∃x7 x8:Option SV,δ=mC (.tuple [bf ps,bH ns]) (.list (aE L)) (.list (S.map bJ)) (.list R) (fW (eE ps ns L)) x7 x8 ah ah ah ah) (λδ m J=>?_) (λd t δ m N J kN=>?_) _ _ _ ⟨rfl,_,_,rfl⟩
 ·obtain⟨rfl,x7,x8,rfl⟩:=J;dsimp only;obtain⟨Rs,eR,lRs,ok,hst⟩:=PR ka W h30;have h12:=ok.l0;have hfr:cj ns Rs<=ns.length+Rs.length:=p6;have smD:SmlA (.list ((A8 (cj ns Rs)).map (f6 Rs))):=Sg ⋯ ⋯;refine aB (bx (x:=.int (ns.length:Nat)) (λQ q=>Ro rfl q) ?_);ac_nf;refine aB (aT (λQ q=>aC (k:=aj) (λQ q=>ar (aN (bc (yO (yL rfl (av rfl ⟨ns,Rs,by rw[eR],ok,jL smD (aN (bU (av rfl (av rfl ⟨ns,Rs,by rw[eR],ok,jL smD (yh q)⟩))))⟩)))))) q) ?_);ac_rfl
  have hlt:L.length < S.length:=by rw[W.len];exact Nat.lt_succ_self _
  have wv:=vy W L.length 0 ⋯ W.fst (by rw[Ex];exact Ah hlt);rw[Fh,Cu (Al _)]at wv;have eS:S.map bJ=(S.take L.length).map bJ++[bJ S[L.length]]:=by
   have e1:S.drop L.length=[S[L.length]]:=by
    rw[D8 hlt,List.drop_eq_nil_of_le (by rw[W.len];exact Al _)]
   conv=>lhs;rw[<-List.take_append_drop L.length S,e1,A9]
   rfl
  have okz:=W.ok L.length _ (Ah hlt);have smz:Small (bJ S[L.length]):=Kv hp okz.1 ⟨A4 okz.2.1 ⋯,okz.2.2⟩;have ez:=BV _ (Kw okz.1 okz.2);refine aB (aT (λQ q=>aC (k:=aj) (λQ q=>ar (bX (ar (av rfl (aD (gz (ar (av rfl (aD (kG (i:=0) (x:=bJ (d6 ps,ns)) (by rw[Ax,W.fst];rfl) (av rfl ⟨ps,(d6 ps,ns),S[L.length],L,.list (aE L),rfl,.inr rfl,hp,okh,⟨A4 okn.1 ⋯,okn.2⟩,by omega,wv,?_⟩))))))))))) q) ?_)
  ·rw[eS];exact ar (av rfl (Rx ⟨smz.1,smz.1,smz.2.1,smz.2.1,aj,by show ae (!Cc _ _)=ae aj;rw[ez];rfl,q⟩))
  ac_rfl;refine aB ?_;unfold aU dC;refine ar (tO rfl (aD (du ?_)));refine Aj ⟨by omega,by omega⟩ ?_;rw[show((R.length:Int)+1).toNat=R.length+1 by omega,JO];refine eV (λds δ m'=>m'=m/\(∀d∈ds,∃k:Nat,k<=L.length/\d=.int (k:Nat))/\∃x10:Option SV,δ=mC (.tuple [bf ps,bH ns]) (.list (aE L)) (.list (S.map bJ)) (.list R) (fW (eE ps ns L)) x7 x8 (↑(.int (ns.length:Nat))) x10 ah ah) (λδ m' J=>?_) (λd t δ m' N J kN=>?_) _ _ _ ⟨rfl,λd hd=>?_,_,rfl⟩
  ·obtain⟨rfl,_,x10,rfl⟩:=J;dsimp only;refine aB ?_;refine ar (aD (zG (m:=6) rfl (λQ q=>aD q) ⋯ ∎ ∎ λr r0 r1=>du ?_));refine Aj ⟨by omega,by omega⟩ ?_;refine eV (λds δ m=>m+6*(ds.length:Int)<=4400/\∃x10 x11 x12:Option SV,δ=mC (.tuple [bf ps,bH ns]) (.list (aE L)) (.list (S.map bJ)) (.list R) (fW (eE ps ns L)) x7 x8 (↑(.int (ns.length:Nat))) x10 x11 x12) (λδ m J=>?_) (λd t δ m N J kN=>?_) _ _ _ ⟨by rw[fV];omega,_,_,_,rfl⟩
   ·obtain⟨hn,x10,x11,x12,rfl⟩:=J;dsimp only;refine bb (aD ?_);rfl
   ·obtain⟨hn,x10,x11,x12,rfl⟩:=J;rw[Ap]at hn;dsimp only[aJ,Am];refine aB (show aF 11 _ _ _ _ from bX (av rfl (av rfl (Nv rfl ⟨R,ps.length,rfl,by omega,hp.1,rwR,by omega,λd n' hd hn'=>?_⟩))));ac_nf;refine aB (bx (x:=.bool (gy ps ns d)) (λQ q=>bU (av rfl (av rfl ⟨ps,ns,d,rfl,pl,hd,q⟩))) ?_);ac_nf;have fin:∀(x10 x11 x12:Option SV),N (mC (.tuple [bf ps,bH ns]) (.list (aE L)) (.list (S.map bJ)) (.list R) (fW (eE ps ns L)) x7 x8 (↑(.int (ns.length:Nat))) x10 x11 x12) n':=λx10 x11 x12=>kN _ _ ⟨by omega,_,_,_,rfl⟩;cases hb:gy ps ns d with
    |true=>
     obtain⟨rs,rfl⟩:∃rs,d=.list rs:=by
      cases d with
      |list rs=>exact⟨rs,rfl⟩
      |_=>cases hb
     refine aB (aT (λQ q=>fS (λQ q=>iq (k:=ai) (λQ q=>aC (k:=ai) (λQ q=>zt rfl q) q) q) (iA (λQ q=>aC (k:=ai) (λQ q=>av rfl q) q) (fS (λQ q=>iq (k:=ai) (λQ q=>aC (k:=ai) (λQ q=>v3 rfl q) q) q) (iq (k:=ai) (λQ q=>aC (k:=ai) (λQ q=>bU (av rfl (av rfl ⟨ps,ns,rs,rfl,pl,hd,hb,q⟩))) q) q)))) ?_);ac_rfl;exact aT (λQ q=>iJ (λQ q=>iq (k:=ai) (λQ q=>aC (k:=ai) (λQ q=>av rfl q) q) q) q) (fin _ _ _)
    |false=>
     refine aB (aT (λQ q=>fS (λQ q=>iq (k:=ai) (λQ q=>aC (k:=ai) (λQ q=>zt rfl q) q) q) (iJ (λQ q=>aC (k:=aj) (λQ q=>av rfl q) q) q)) ?_);ac_rfl;refine aT (λQ q=>iA (λQ q=>iq (k:=aj) (λQ q=>aC (k:=aj) (λQ q=>av rfl q) q) q) ?_) (fin _ _ _);have hne:d≠.list R:=λz=>by rw[z,ltR]at hb;cases hb
     have hsh:aZ (Er (.list R)) (.str (Er d))=aj:=decide_eq_false λz=>hne ((LU hd.1.1 thR.1.1).mp z);have two:∀(y10:Option SV)(Q:Bool->Int->Prop),Q aj n'->cT (w2 (wB gW (aq ↥11 ao)) (wB gW (aq ↥5 ao)) bq) (mC (.tuple [bf ps,bH ns]) (.list (aE L)) (.list (S.map bJ)) (.list R) (fW (eE ps ns L)) x7 x8 (↑(.int (ns.length:Nat))) y10 (↑d) (↑(.bool aj))) n' Q:=λy10 Q q=>aC (k:=aj) (λQ q=>ar (aN (av rfl (jL hd.sml (aN (av rfl (jL smR (vd (by rw[hsh];exact q))))))))) q;cases hl:dw "list" d with
     |true=>exact iA (λQ q=>aC (k:=ai) (λQ q=>v3 rfl (by rw[hl];exact q)) q) (two _ _ q)
     |false=>exact iJ (λQ q=>aC (k:=aj) (λQ q=>v3 rfl (by rw[hl];exact q)) q) q
  ·obtain⟨rfl,hd,x10,rfl⟩:=J;dsimp only[aJ,Am];obtain⟨k,hk,rfl⟩:=hd d As;obtain⟨z,nu,fr,hz,st,hnu⟩:=hst k hk;have I:=ny st;have hfk:fr<=42:=by
    rw[I.efr];have:=p6 (ns0:=ns) (P:=Rs.take k);rw[Cz]at this;omega
   have hnl:nu.length<=42:=by
    rw[I.enu];refine A4 (E5 _ _) ?_;rw[C2];exact hfk
   have smN:SmlA (.list (aE nu)):=S3 ⋯ λi hi=>by have:=(I.lt hi).1;omega
   have bhk:∀{x7 x8 x9 x11 x12:Option SV}{n:Int}{Q:DQ},Q (.d (.list (aE nu))) n->w2 ↥6 ↥10 aM (mC (.tuple [bf ps,bH ns]) (.list (aE L)) (.list (S.map bJ)) (.list R) (fW (eE ps ns L)) x7 x8 x9 (↑(.int (k:Nat))) x11 x12) n Q:=λq=>ar (av rfl (av rfl (show aM (.d (.list _)) _ _ _ from kG (by rw[Ax,hnu];rfl) q)));have stk:∀{x7 x8 x9 x11 x12:Option SV}{n:Int}{Q:DQ},Q (.d (bJ z)) n->w2 ↥4 ↥10 aM (mC (.tuple [bf ps,bH ns]) (.list (aE L)) (.list (S.map bJ)) (.list R) (fW (eE ps ns L)) x7 x8 x9 (↑(.int (k:Nat))) x11 x12) n Q:=λq=>ar (av rfl (av rfl (kG (by rw[Ax,hz];rfl) q)));refine aT (λQ q=>fS (λQ q=>aC (k:=aj) (λQ q=>ar (aN (bc (PM (yL rfl (av rfl (av rfl ⟨ns,z.2,Rs,nu,fr,k,by rw[eR],ok,by rw[lRs];exact hk,st,jL smN (aN (bhk (jL smN (yh q))))⟩))))))) q) (aC (k:=aj) (λQ q=>ar (aN (bhk (show dS [.d (.list (aE nu))] _ _ from aN (ar (stk (aD (jx (a:=.tuple (z.1.map bR)) (b:=bH z.2) (r:=[]) ?_)))))))) q)) (kN _ _ ⟨rfl,λx hx=>hd x (Au _ hx),_,rfl⟩);show cL (~~~((aE nu).length:Nat)) (~~~((z.2.map cS).length:Nat)) _ Q;rw[j0,Ab,I.ens,Ab];show Q (.d (.bool (!decide ((nu.length:Int)=(nu.length:Int))))) _;rw[decide_eq_true rfl];exact q
  ·obtain⟨i,hi,rfl⟩:=Bg.mp hd;exact⟨i,by have:=Ce.mp hi;omega,rfl⟩
 ·obtain⟨rfl,x7,x8,rfl⟩:=J;dsimp only[aJ,Am];refine aB (show br 8 _ _ _ _ from yO (av rfl (yL rfl ⟨ps,ns,L,R,.list (aE L),rfl,.inr rfl,ka,?_⟩)));ac_nf;refine aB (aT (λQ q=>U9 (ds:=R) rfl (fS (λQ q=>aC (k:=aj) (λQ q=>ar (aN (av rfl (jL smR (aN (av rfl (jL smR (yh q)))))))) q) (aC (k:=aj) (λQ q=>ar (bU (av rfl (av rfl ⟨ps,ns,.list R,rfl,pl,thR,aD (show Q (.d (.bool (gy ps ns (.list R) != ai))) _ by rw[ltR];exact q)⟩)))) q))) ?_);ac_rfl;refine kK rfl (cz (aD (aD (Aj (show 2<=1000 by decide) (Aj ⋯ ?_)))));ac_nf;exact kN _ _ ⟨rfl,_,_,rfl⟩
def xo:aR:=λδ n K=>∃(ns0:List Nt)(Rs:List Rw),δ=[↑(.list (Rs.map e9)),↑(.int (ns0.length:Nat)),ah,ah,ah]/\okLg ns0 Rs/\K.rt (.d (.list ((A8 (cj ns0 Rs)).map (f6 Rs)))) n
theorem Pj:b9 wO xo ["_law_log","_law_many","_law_found","_law_k","_law_number"]:=λws n Q h=>by
 obtain⟨ns0,Rs,rfl,ok,k⟩:=h;exact⟨ns0,Rs,rfl,ok,k⟩
abbrev qH(K:Ag)(j:Int):TE:=dz (gR K) (dz (gR K) (bw 0) (bw 3)) (tC (.int j))
abbrev o5(K:Ag)(h:Str):TT:=jv (dz (kH K) (qH K 0) (tC (.str h)))
abbrev m6(K:Ag):TS:=ic (jD (o5 K "lays") (sW (rQ K "list" rW (bw 2) (c7 (jm (c7 (bw 3) (c7 (tC .non) bL))) bL))) oI) (ic (jD (o5 K "takes") (c8 (bw 3) (iU (dz (gR K) (bw 2) (qH K 2)) (tC (.int 1)) nF)) oI) (jD (o5 K "clock") (jF (jC K (qH K 1)) (fi 4) (c8 (bw 3) (iU (dz (gR K) (bw 2) (bw 4)) (tC (.int 1)) nF))) oI))
abbrev oP(K:Ag):TS:=jo (lV [ah] (tW K (bw 2)) (fi 0) mw (fY (rR K) (c7 (bw 0) bL)))
abbrev mi(K:Ag):TS:=ic (c8 (lV [ah] (oj (c7 (bw 1) bL)) (fi 0) mw (jm (c7 (tC .non) (c7 (tC .non) bL)))) (fi 2)) (ic (jF (oj (c7 (fY (qM K) (c7 (bw 0) bL)) bL)) (fi 3) (m6 K)) (oP K))
abbrev vS(h:Str):cM:=cT (w2 (w2 (w2 ↥0 ↥3 az) ⇑0 az) (wC (.str h)) a9)
abbrev uJ:aR:=au (aF 2 (bj (cW [ah] (dC ↥1) (aJ 0) df (bj (aQ (aq (wC .none) (aq (wC .none) ao))))))) (au (aU (dC (wB bg (aq ↥0 ao))) (aJ 3) (au (aL (vS "lays") (aX 2 (bj (aQ (aq ↥3 (aq (wC .none) ao))))) aG) (au (aL (vS "takes") mJ aG) (aL (vS "clock") (aU (ft (w2 (w2 ↥0 ↥3 az) ⇑1 az)) (aJ 4) mJ) aG)))) (aw (bj (cW [ah] (fU ↥2) (aJ 0) df (wB fq (aq ↥0 ao))))))
def nV:Option Nat->V
 |none=>.non
 |some k=>.int (k:Nat)
structure Tr(H H':Hp)(a:Addr)(ps:List Addr)(f g:Nat->Option Nat)(m:Nat):Prop where
 ext:∀b o,H b=ae o->H' b=ae o
 fa:H a=ah
 fp:∀p∈ps,H p=ah
 ha:H' a=ae (.lst (ps.map V.ref))
 nd:ps.Nodup
 na:a∉ps
 len:ps.length=m
 hp:∀i p,ps[i]?=ae p->H' p=ae (.lst [nV (f i),nV (g i)])
theorem Tr.congr(T:Tr H H' a ps f g m)(hf:∀i < m,f i=f' i)(hg:∀i < m,g i=g' i):Tr H H' a ps f' g' m:=
 ⟨T.ext,T.fa,T.fp,T.ha,T.nd,T.na,T.len,λi p e=>by
  have hi:i < m:=by rw[<-T.len];exact(Ao.mp e).1
  rw[<-hf i hi,<-hg i hi];exact T.hp i p e⟩
theorem Tr.put(T:Tr H H' a ps f g m)(e:ps[i]?=ae p):Tr H (upd H' p (.lst [nV (f i),.int (k:Nat)])) a ps f (λx=>if x=i then ae k else g x) m where
 ext:=λb o h=>by rw[aW (bY h (T.fp p (A1 e)))];exact T.ext b o h
 fa:=T.fa
 fp:=T.fp
 ha:=by rw[aW λ(z:a=p)=>T.na (by rw[z];exact A1 e)];exact T.ha
 nd:=T.nd
 na:=T.na
 len:=T.len
 hp:=λj q eq=>by
  by_cases z:j=i
  ·subst z;rw[e]at eq;cases eq;rw[bQ,if_pos rfl];rfl
  ·have ne:q≠p:=λw=>by
    subst w;exact z ((List.getElem?_inj (Ao.mp eq).1 T.nd).mp (eq.trans e.symm))
   rw[aW ne,if_neg z];exact T.hp j q eq
theorem Tr.app(T:Tr H H' a ps f g m)(hp:H' p=ah):Tr H (upd (upd H' p (.lst [nV x,nV y])) a (.lst (ps.map V.ref++[.ref p]))) a (ps++[p]) (λi=>if i=m then x else f i) (λi=>if i=m then y else g i) (m+1) where
 ext:=λb o h=>by
  rw[aW (bY h T.fa),aW (bY (T.ext b o h) hp)];exact T.ext b o h
 fa:=T.fa
 fp:=λq hq=>by
  rcases Bd.mp hq with h|h
  ·exact T.fp q h
  ·cases Bc.mp h;cases e:H p with
   |none=>rfl
   |some o=>rw[T.ext p o e]at hp;cases hp
 ha:=by rw[bQ,A9];rfl
 nd:=by
  rw[List.nodup_append];refine⟨T.nd,by simp,λq hq r hr z=>?_⟩;cases Bc.mp hr;obtain⟨i,hi⟩:=Bw.mp hq;have:=T.hp i q hi;rw[z,hp]at this;cases this
 na:=λh=>by
  rcases Bd.mp h with h|h
  ·exact T.na h
  ·cases Bc.mp h;rw[T.ha]at hp;cases hp
 len:=by rw[Af,T.len];rfl
 hp:=λi q e=>by
  have hap:a≠p:=λz=>by rw[<-z,T.ha]at hp;cases hp
  by_cases z:i < m
  ·rw[Ca (by rw[T.len];exact z)]at e;have h1:=T.hp i q e;rw[aW λ(w:q=a)=>T.na (by rw[<-w];exact A1 e),aW (bY h1 hp),if_neg ⋯,if_neg ⋯];exact h1
  ·rw[Bt (by rw[T.len];omega)]at e;have hi:i-ps.length=0:=by
    have:=(Ao.mp e).1;rw[Av]at this;omega
   rw[hi]at e;cases e;have him:i=m:=by have:=T.len;omega
   rw[aW (Ne.symm hap),bQ,if_pos him,if_pos him]
theorem Tr.new(T:Tr H H' a ps f g m)(hp:H' p=ah):Tr H (upd H' p o) a ps f g m:=
 ⟨λb o' h=>by rw[aW (bY (T.ext b o' h) hp)];exact T.ext b o' h,T.fa,T.fp,by rw[aW (bY T.ha hp)];exact T.ha,T.nd,T.na,T.len,λi q e=>by rw[aW (bY (T.hp i q e) hp)];exact T.hp i q e⟩
theorem Tr.mut(T:Tr H H' a ps f g m)(hp:H p=ah)(ha:p≠a)(hn:p∉ps):Tr H (upd H' p o) a ps f g m:=
 ⟨λb o' h=>by rw[aW (bY h hp)];exact T.ext b o' h,T.fa,T.fp,by rw[aW (Ne.symm ha)];exact T.ha,T.nd,T.na,T.len,λi q e=>by rw[aW λ(z:q=p)=>hn (by rw[<-z];exact A1 e)];exact T.hp i q e⟩
theorem rm:∀{xs:List V}{ds:List Aa}{i:Nat}{d:Aa},RdXs H B xs ds->ds[i]?=ae d->∃x,xs[i]?=ae x/\RdX H B x d
 |_,_,_,_,.nil,h=>by simp at h
 |_,_,0,_,.cons r _,h=>by cases h;exact⟨_,rfl,r⟩
 |_,_,i+1,_,.cons _ rs,h=>by
  rw[Ek]at h;obtain⟨x,h1,h2⟩:=rm rs h;exact⟨x,by rw[Ek];exact h1,h2⟩
section
variable{K:Ag}{H:Hp}{B:Addr->Prop}
structure Lie(H:Hp)(B:Addr->Prop)(a0:Addr)(xs:List V)(Rs:List Rw):Prop where
 ha:H a0=ae (.lst xs)
 rd:RdXs H B xs (Rs.map e9)
theorem Lie.get(L:Lie H B a0 xs Rs){i:Nat}(e:Rs[i]?=ae r):∃t ys,xs[i]?=ae (.ref t)/\H t=ae (.tup (.str r.hd::ys))/\RdXs H B ys r.tl:=by
 obtain⟨x,h1,h2⟩:=rm L.rd (show(Rs.map e9)[i]?=ae (e9 r) by rw[Ax,e];rfl);cases h2 with
 |@tup t zs _ e1 _ _ e4=>
  cases e4 with
  |cons r1 r2=>
   cases r1;exact⟨t,_,h1,e1,r2⟩
theorem zv(h:H' x=ae (.lst ys))(e:ys[i]?=ae v)(k:Q v H'):gR K (.ref x) (.int (i:Nat)) H' Q:=.inl ⟨x,ys,_,v,rfl,rfl,SqL.of h,fQ e,k⟩
theorem L1(h:H' x=ae (.tup ys))(e:ys[i]?=ae v)(k:Q v H'):gR K (.ref x) (.int (i:Nat)) H' Q:=.inr (.inl ⟨x,ys,_,v,rfl,rfl,SqT.of h,fQ e,k⟩)
theorem uR(h0:H' a0=ae (.lst xs))(e:xs[i]?=ae (.ref t))(h1:H' t=ae (.tup ys))(e1:ys[j]?=ae v)(k:Q v H'):qH K (j:Nat) [ae (.ref a0),s1,s2,ae (.int (i:Nat)),s4] H' Q:=
 ⟨_,rfl,_,rfl,zv h0 e (L1 h1 e1 k)⟩
theorem wA(h0:H' a0=ae (.lst xs))(e:xs[i]?=ae (.ref t))(h1:H' t=ae (.tup (.str x::ys)))(hb:aZ h (.str x)=b)(k:Q b H'):o5 K h [ae (.ref a0),s1,s2,ae (.int (i:Nat)),s4] H' Q:=by
 refine uR (j:=0) h0 e h1 rfl (.inl ⟨rfl,b,?_,k⟩);rw[<-hb]
 congr 1
 exact decide_eq_decide.mpr ⟨λz=>V.str.inj z,λz=>by rw[z]⟩
theorem Ju(T:Tr H H' a ps f g m)(h2:σ[2]?=ae (ae (.ref a)))(h3:σ[3]?=ae (ae (.int (i:Nat))))(hp:ps[x]?=ae p)(hi:∀Q:VK,Q (.int (x:Nat)) H'->ti σ H' Q)(k:Tr H (upd H' p (.lst [nV (f x),.int (i:Nat)])) a ps f (λy=>if y=x then ae i else g y) m->Q σ (upd H' p (.lst [nV (f x),.int (i:Nat)]))):
  (bw 3) σ H' λv H1=>(iU (dz (gR K) (bw 2) ti) (tC (.int 1)) nF) v σ H1 Q:=by
 refine⟨_,h3,?_⟩;refine⟨_,h2,hi _ (zv T.ha (by rw[Ax,hp];rfl) ?_)⟩;exact⟨p,[nV (f x),nV (g x)],1,1,rfl,rfl,T.hp x p hp,rfl,k (T.put hp)⟩
end
theorem CF(o):RdX H B (nV o) (cf o):=by
 cases o with
 |none=>exact .non
 |some i=>exact .int _
theorem T9:jw (mi K) xo:=λC H B σ δ n Kd D R q E=>by
 obtain⟨ns0,Rs,rfl,ok,k⟩:=q;have h30:=ok.le;have h12:=ok.l0;obtain⟨v0,d6,hv0⟩:=R.sl 0 _ rfl;obtain⟨v1,hs1,hv1⟩:=R.sl 1 _ rfl;have r0:RdX H B v0 (.list (Rs.map e9)):=hv0.1;have r1:RdX H B v1 (.int (ns0.length:Nat)):=hv1.1;cases r1;obtain⟨a0,xs,rfl,L⟩:∃a0 xs,v0=.ref a0/\Lie H B a0 xs Rs:=by
  cases r0 with
  |@lst a0 xs _ e1 _ _ e4=>exact⟨a0,xs,rfl,e1,e4⟩
 have hxl:xs.length=Rs.length:=by rw[L.rd.len,Ab]
 obtain⟨s2,s3,s4,rfl⟩:∃s2 s3 s4,σ=[ae (.ref a0),ae (.int (ns0.length:Nat)),s2,s3,s4]:=by
  match σ,R.len,d6,hs1 with
  |[a,b,c,d,e],_,h0,h1=>cases h0;cases h1;exact⟨c,d,e,rfl⟩
 show lV [ah] (oj (c7 (bw 1) bL)) (fi 0) mw (jm (c7 (tC .non) (c7 (tC .non) bL))) [ae (.ref a0),ae (.int (ns0.length:Nat)),s2,s3,s4] H λx H1=>ic (jF (oj (c7 (fY (qM K) (c7 (bw 0) bL)) bL)) (fi 3) (m6 K)) (oP K) D [ae (.ref a0),ae (.int (ns0.length:Nat)),ae x,s3,s4] H1;show ∃v,_/\∃j:Int,_;refine⟨_,rfl,(ns0.length:Nat),rfl,by omega,by omega,λa hD=>?_⟩;rw[Bs];refine⟨λi mm ys τ H'=>mm=ns0.length-i/\i<=ns0.length/\∃ps,ys=ps.map V.ref/\Tr H H' a ps (λ_=>ah) (λ_=>ah) i,⟨_,rfl,Bo _,[],rfl,?_⟩,?_⟩
 ·exact⟨λb o h=>by rw[aW (bY h hD)];exact h,hD,λp hp=>absurd hp An,bQ,List.nodup_nil,An,rfl,λi p e=>by simp at e⟩
 rintro i mm ys τ H' ⟨rfl,hi,ps,rfl,T⟩
 by_cases hlt:i < ns0.length
 ·refine .inr ⟨hlt,Bn (m:=1000) (by rw[Ab,T.len];omega) (fc (Al _)),?_⟩
  ·rintro x H'' ⟨rfl,rfl⟩
   dsimp only[fi,mw];nofun;refine⟨fc ∎,λp hp=>⟨?_,ns0.length-(i+1),by omega,rfl,by omega,ps++[p],by rw[A9];rfl,?_⟩⟩
   ·rw[aW (bY T.ha hp)];exact T.ha
   ·exact(T.app (x:=ah) (y:=ah) hp).congr (λj _=>by split<;>rfl) λj _=>by split<;>rfl
 have him:i=ns0.length:=by omega
 subst him;refine .inl ⟨Al _,?_⟩
 show ∃v,_/\((∃z,_)\/∃p ys,_);refine⟨_,rfl,.inr ⟨a0,xs,rfl,.inl (SqL.of (T.ext _ _ L.ha)),(xs.length:Nat),rfl,by omega,by omega,?_⟩⟩;rw[Bs];refine Oi (λi σ H'=>∃ps s3 s4,σ=[ae (.ref a0),ae (.int (ns0.length:Nat)),ae (.ref a),s3,s4]/\Tr H H' a ps (dD (Rs.take i)) (cU (Rs.take i)) (cj ns0 (Rs.take i))) ⟨ps,s3,s4,rfl,T.congr (λ_ _=>rfl) λ_ _=>rfl⟩ ?_ ?_
 ·rintro i σ H' hi ⟨ps,s3,s4,rfl,T⟩
  have hi':i < Rs.length:=by omega
  obtain⟨r,er⟩:∃r,Rs[i]?=ae r:=⟨_,Ah hi'⟩;obtain⟨t,ys,e1,e2,e3⟩:=L.get er;have eT:Rs.take (i+1)=Rs.take i++[r]:=by rw[List.take_succ,er];rfl
  have hPl:(Rs.take i).length=i:=by rw[Cz];omega
  obtain⟨nsF,nuF,frF,stF⟩:=ok.st;obtain⟨ns',nu',fr',st'⟩:=wz stF (i+1);rw[eT]at st' ⊢;generalize Rs.take i=P at *;obtain⟨ns,nu,fr,st,sp⟩:=AL st';have I:=ny st;have I':=ny st';have hfr:=I.efr;have hfr':=I'.efr;have hle:cj ns0 P<=ns0.length+P.length:=p6;obtain⟨hgo,hly⟩:=Hw sp;rw[Int.zero_add];show m6 K _ [ae (.ref a0),ae (.int (ns0.length:Nat)),ae (.ref a),ae (.int (i:Nat)),s4] H';have hdt:∀(H1:Hp),(∀b o,H b=ae o->H1 b=ae o)->∀(h:Str)(b:Bool),aZ h (.str r.hd)=b->∀Q:Bool->Hp->Prop,Q b H1->o5 K h [ae (.ref a0),ae (.int (ns0.length:Nat)),ae (.ref a),ae (.int (i:Nat)),s4] H1 Q:=λH1 x1 h b hb Q q=>wA (x1 _ _ L.ha) e1 (x1 _ _ e2) hb q;have noT:∀{c:Bool->Hp->Prop}{b:Bool}{H1:Hp},c b H1->c b H1:=λh=>h;have keep:iB r=ah->eI r=[]->Tr H H' a ps (dD (P++[r])) (cU (P++[r])) (cj ns0 (P++[r])):=λh1 h2=>by
   have ef:cj ns0 (P++[r])=cj ns0 P:=by
    rcases hly with⟨m1,q,e,_⟩|⟨_,_,e⟩
    ·rw[e]at h1;cases h1
    ·omega
   rw[ef];exact T.congr (λx _=>(kM (by rw[h1];exact λz=>nomatch z)).symm) λx _=>(o7 (by rw[h2];exact An)).symm
  cases r with
  |lay m1 n1 q=>
   rcases hly with⟨m2,q2,e,ef'⟩|⟨h,_,_⟩
   ·obtain⟨rfl,rfl,rfl⟩:=Rw.lay.inj e;have ef:cj ns0 (P++[Rw.lay m1 n1 q])=cj ns0 P+1:=by omega
    refine hdt H' T.ext "lays" ai (show aZ "lays" (.str "lays")=ai by decide +kernel) _ ?_;show if ai=ai then _ else _
    nofun;refine⟨_,rfl,.inl ⟨rfl,_,SqL.of T.ha⟩,_,rfl,fc (show 2<=1000 by decide),λp hp=>⟨a,ps.map V.ref,.ref p,rfl,rfl,?_,?_,?_⟩⟩
    ·rw[aW (bY T.ha hp)];exact T.ha
    ·exact Bn (m:=1000) (by rw[Ab,T.len];omega) (fc (Al _))
    have T2:=T.app (x:=ae i) (y:=ah) hp;refine hdt _ T2.ext "takes" aj (show aZ "takes" (.str "lays")=aj by decide +kernel) _ ?_;show if aj=ai then _ else _
    rw[if_neg Ae];refine hdt _ T2.ext "clock" aj (show aZ "clock" (.str "lays")=aj by decide +kernel) _ ?_;show if aj=ai then _ else _
    rw[if_neg Ae];refine⟨ps++[p],_,_,rfl,?_⟩;rw[ef];refine T2.congr (λx hx=>?_) λx hx=>?_
    ·by_cases z:x=cj ns0 P
     ·subst z;rw[if_pos rfl,sM,<-hfr,I.l2 n1 (Al _),if_pos (show iB (Rw.lay m1 n1 q)=ae n1 from rfl),hPl];rfl
     ·rw[if_neg z];exact(kM λw=>by have:=A7 w;omega).symm
    ·rw[o7 (show x∉eI (Rw.lay m1 n1 q)from An)];by_cases z:x=cj ns0 P
     ·rw[if_pos z,z,<-hfr,I.g2 n1 (Al _)]
     ·rw[if_neg z]
   ·cases h
  |take m1 x=>
   have ef:cj ns0 (P++[Rw.take m1 x])=cj ns0 P:=by
    rcases hly with⟨m1,q,e,_⟩|⟨_,_,e⟩
    ·cases e
    ·omega
   have hx:=I.lt (hgo x As);obtain⟨p,hp⟩:∃p,ps[x]?=ae p:=⟨_,Ah (by rw[T.len,<-hfr];exact hx.1)⟩;obtain⟨y1,hy1,ry1⟩:=rm (i:=1) e3 rfl;cases ry1;refine hdt H' T.ext "lays" aj (show aZ "lays" (.str "takes")=aj by decide +kernel) _ ?_;show if aj=ai then _ else _
   rw[if_neg Ae];refine hdt H' T.ext "takes" ai (show aZ "takes" (.str "takes")=ai by decide +kernel) _ ?_;show if ai=ai then _ else _
   nofun;refine Ju T rfl rfl hp (λQ q=>uR (j:=2) (T.ext _ _ L.ha) e1 (T.ext _ _ e2) hy1 q) λT2=>?_;refine hdt _ T2.ext "clock" aj (show aZ "clock" (.str "takes")=aj by decide +kernel) _ ?_;show if aj=ai then _ else _
   rw[if_neg Ae];refine⟨ps,_,_,rfl,?_⟩;rw[ef];refine T2.congr (λy _=>(kM (λw=>by cases w)).symm) λy _=>?_;rw[pG,hPl];by_cases z:y=x
   ·rw[if_pos z,z,hx.2,if_pos (show x∈eI (Rw.take m1 x)from As)];rfl
   ·rw[if_neg z,if_neg (by simpa[eI]using z),F4]
  |clk l=>
   have ef:cj ns0 (P++[Rw.clk l])=cj ns0 P:=by
    rcases hly with⟨m1,q,e,_⟩|⟨_,_,e⟩
    ·cases e
    ·omega
   obtain⟨y0,hy0,ry0⟩:=rm (i:=0) e3 rfl;obtain⟨tt,zs,rfl,htt,rz⟩:∃tt zs,y0=.ref tt/\H tt=ae (.tup zs)/\RdXs H B zs (aE l):=by
    cases ry0 with
    |@tup tt zs _ f1 _ _ f4=>exact⟨tt,zs,rfl,f1,f4⟩
   have hzl:zs.length=l.length:=by rw[rz.len,j0]
   refine hdt H' T.ext "lays" aj (show aZ "lays" (.str "clock")=aj by decide +kernel) _ ?_;show if aj=ai then _ else _
   rw[if_neg Ae];refine hdt H' T.ext "takes" aj (show aZ "takes" (.str "clock")=aj by decide +kernel) _ ?_;show if aj=ai then _ else _
   rw[if_neg Ae];refine hdt H' T.ext "clock" ai (show aZ "clock" (.str "clock")=ai by decide +kernel) _ ?_;show if ai=ai then _ else _
   nofun;refine(show jC K (qH K 1) _ _ _ from uR (j:=1) (T.ext _ _ L.ha) e1 (T.ext _ _ e2) hy0 ⟨tt,rfl,⟨zs,SqT.of (T.ext _ _ htt)⟩,?_⟩);refine VQ (xs:=zs) (λj σ H''=>∃s4,σ=[ae (.ref a0),ae (.int (ns0.length:Nat)),ae (.ref a),ae (.int (i:Nat)),s4]/\Tr H H'' a ps (dD P) (λy=>if y∈l.take j then ae i else cU P y) (cj ns0 P)) ⟨s4,rfl,T.congr (λ_ _=>rfl) λy _=>by rw[List.take_zero,if_neg An]⟩ ?_ ?_ ?_
   ·rintro j σ H'' _ ⟨_,_,T2⟩
    exact SqT.of (T2.ext _ _ htt)
   ·rintro j x σ H'' hx ⟨s4,rfl,T2⟩
    obtain⟨d,hd,rx⟩:=rz.get hx;have hj:j < l.length:=by rw[<-hzl];exact(Ao.mp hx).1
    have hd':d=.int (l[j]:Nat):=by
     unfold aE at hd;rw[Ax,Ah hj]at hd;exact(A7 hd).symm
    subst hd';cases rx;have hm:l[j]∈l:=C8 hj;have hlt:=(I.lt (hgo _ hm)).1;obtain⟨p,hp⟩:∃p,ps[l[j]]?=ae p:=⟨_,Ah (by rw[T2.len,<-hfr];exact hlt)⟩;refine Ju T2 rfl rfl hp (λQ q=>⟨_,rfl,q⟩) λT3=>⟨_,rfl,T3.congr (λ_ _=>rfl) λy _=>?_⟩;rw[List.take_succ,Ah hj];show(if y=l[j]then ae i else if y∈l.take j then ae i else cU P y)=if y∈l.take j++[l[j]]then ae i else cU P y
    by_cases z:y=l[j]
    ·rw[if_pos z,if_pos (by rw[z];exact Bf _ As)]
    ·rw[if_neg z];by_cases z2:y∈l.take j
     ·rw[if_pos z2,if_pos (Dx _ z2)]
     ·rw[if_neg z2,if_neg (by rw[Bd,Bc];exact λw=>w.elim z2 z)]
   ·rintro σ H'' ⟨s4,rfl,T2⟩
    refine⟨ps,_,_,rfl,?_⟩;rw[ef];refine T2.congr (λy _=>(kM (λw=>by cases w)).symm) λy _=>?_;rw[pG,hPl,hzl,Cu (Al _)];show(if y∈l then ae i else cU P y)=(cU P y).or (if y∈l then ae i else ah);by_cases z:y∈l
    ·rw[if_pos z,if_pos z,(I.lt (hgo y z)).2];rfl
    ·rw[if_neg z,if_neg z,F4]
  |_=>
   refine hdt H' T.ext "lays" aj (by first|exact(show aZ "lays" (.str "reads")=aj by decide +kernel)|exact(show aZ "lays" (.str "looks")=aj by decide +kernel)|exact(show aZ "lays" (.str "goes")=aj by decide +kernel)) _ ?_;show if aj=ai then _ else _
   rw[if_neg Ae];refine hdt H' T.ext "takes" aj (by first|exact(show aZ "takes" (.str "reads")=aj by decide +kernel)|exact(show aZ "takes" (.str "looks")=aj by decide +kernel)|exact(show aZ "takes" (.str "goes")=aj by decide +kernel)) _ ?_;show if aj=ai then _ else _
   rw[if_neg Ae];refine hdt H' T.ext "clock" aj (by first|exact(show aZ "clock" (.str "reads")=aj by decide +kernel)|exact(show aZ "clock" (.str "looks")=aj by decide +kernel)|exact(show aZ "clock" (.str "goes")=aj by decide +kernel)) _ ?_;show if aj=ai then _ else _
   rw[if_neg Ae];exact⟨ps,_,_,rfl,keep rfl rfl⟩
 ·rintro σ H' ⟨ps,s3,s4,rfl,T⟩
  rw[hxl,Cu (Al _)]at T;have hle:cj ns0 Rs<=ns0.length+Rs.length:=p6;show ∃v,_/\∃b,_;refine⟨_,rfl,a,rfl,⟨_,SqL.of T.ha⟩,λD2 hD2=>?_⟩;have h0:H D2=ah:=by
   cases e:H D2 with
   |none=>rfl
   |some o=>rw[T.ext D2 o e]at hD2;cases hD2
  have hDa:D2≠a:=λz=>by rw[z,T.ha]at hD2;cases hD2
  have hDp:D2∉ps:=λz=>by
   obtain⟨i,hi⟩:=Bw.mp z;rw[T.hp i D2 hi]at hD2;cases hD2
  refine⟨λi mm ys τ H''=>mm=cj ns0 Rs-i/\i<=cj ns0 Rs/\τ.length=1/\Tr H H'' a ps (dD Rs) (cU Rs) (cj ns0 Rs)/\H'' D2=ae (.lst ys)/\∃ls:List Addr,ys=ls.map V.ref/\ls.length=i/\∀j l,ls[j]?=ae l->H l=ah/\l≠D2/\l≠a/\l∉ps/\H'' l=ae (.tup [nV (dD Rs j),nV (cU Rs j)]),⟨_,rfl,Bo _,rfl,T.new hD2,bQ,[],rfl,rfl,λj l e=>by simp at e⟩,?_⟩
  rintro i mm ys τ H'' ⟨rfl,hi,hτ,T2,hD,ls,rfl,hls,hl⟩
  by_cases hlt:i < cj ns0 Rs
  ·obtain⟨p,hp⟩:∃p,ps[i]?=ae p:=⟨_,Ah (by rw[T2.len];exact hlt)⟩;refine .inr ⟨⟨_,.ref p,SqL.of T2.ha,by rw[Ax,hp];rfl⟩,Bn (m:=1000) (by rw[Ab,hls];omega) (fc (Al _)),?_⟩
   rintro x H3 ⟨rfl,hx⟩
   have:=hx _ (SqL.of T2.ha);rw[Ax,hp]at this;cases this;dsimp only[fi,mw];nofun;refine⟨_,by rw[F8 (by rw[hτ];exact Nat.zero_lt_one)],p,_,rfl,.inl ⟨SqL.of (T2.hp i p hp),λl hl0=>⟨?_,cj ns0 Rs-(i+1),by omega,rfl,by omega,by rw[Cw];exact hτ,?_,?_,ls++[l],by rw[A9];rfl,by rw[Af,hls];rfl,?_⟩⟩⟩
   ·rw[aW (bY hD hl0)];exact hD
   ·exact(T2.new hl0).mut h0 hDa hDp
   ·exact bQ
   ·intro j l' e;have hlH:H l=ah:=by
     cases e:H l with
     |none=>rfl
     |some o=>rw[T2.ext l o e]at hl0;cases hl0
    by_cases z:j < i
    ·rw[Ca (by rw[hls];exact z)]at e;obtain⟨f1,f2,f3,f4,f5⟩:=hl j l' e;exact⟨f1,f2,f3,f4,by rw[aW f2,aW (bY f5 hl0)];exact f5⟩
    ·rw[Bt (by rw[hls];omega)]at e;have hj:j-ls.length=0:=by
      have:=(Ao.mp e).1;rw[Av]at this;omega
     rw[hj]at e;cases e;have hji:j=i:=by omega
     subst hji;have n1:l≠D2:=λz=>by rw[z,hD]at hl0;cases hl0
     refine⟨hlH,n1,(λ(z:l=a)=>by rw[z,T2.ha]at hl0;cases hl0),(λ(z:l∈ps)=>?_),by rw[aW n1,bQ]⟩;obtain⟨i',hi'⟩:=Bw.mp z;rw[T2.hp i' l hi']at hl0;cases hl0
  ·have him:i=cj ns0 Rs:=by omega
   subst him;refine .inl ⟨⟨_,SqL.of T2.ha,by rw[Ab,T2.len];exact Al _⟩,?_⟩;refine E.rt H'' B _ _ n (.ref D2) _ (R.same T2.ext) ?_ k;have R2:=R.same T2.ext;refine .lst hD (R.nb h0) (fc (by rw[Ab,hls];omega)) ?_;have key:∀(ls:List Addr)(q:Nat),(∀j l,ls[j]?=ae l->H l=ah/\H'' l=ae (.tup [nV (dD Rs (q+j)),nV (cU Rs (q+j))]))->RdXs H'' B (ls.map V.ref) ((List.range' q ls.length).map (f6 Rs)):=λls=>by
    induction ls with
    |nil=>exact λq _=>.nil
    |cons l ls ih=>
     intro q h;obtain⟨f1,f2⟩:=h 0 l rfl;rw[Ap,List.range'_succ,Ba,Ba];refine .cons (.tup f2 (R.nb f1) (fc (show 2<=1000 by decide)) (.cons (CF _) (.cons (CF _) .nil))) (ih (q+1) λj l' e=>?_);have:=h (j+1) l' (by rw[Ek];exact e);rw[show q+1+j=q+(j+1) by omega];exact this
   have:=key ls 0 λj l e=>by
    obtain⟨f1,_,_,_,f5⟩:=hl j l e;rw[Ex];exact⟨f1,f5⟩
   rw[hls,<-List.range_eq_range']at this;exact this
theorem U4(h:DSs X b (mi K) uJ):DSs X b (mi K) xo:=⟨h.ps,T9⟩
end Nb
namespace Nb
open PySem L2
section
variable{P:Bp}{w:B7}{K:Ag}{mg:Str->Option Ak}{base:Heap}
abbrev Zb:List Str:=["_law_script"]
theorem NN:FnScope Zb Zb (dO Hm):=⟨rfl,rfl,rfl,by decide +kernel,rfl,by decide +kernel,by decide +kernel⟩
theorem RL(F:Fun K "_law_tape" "_law_tape" Hm f fd):FnOk P w K mg base dU 1 f fd Zb (pS K):=by
 refine F.ok NN (λvs H Q E h=>?_) (λcdv A outer s H vs Q E hr h=>?_)
 ·obtain⟨a,ns,rfl,_⟩:=h;rfl
 ·obtain⟨a,ns,rfl,hS,hl,k⟩:=h;refine⟨_,nR (mI (uW (dF (sj uT (pv 0) zI (AW dg)) (dF dg (dF dg (dF (uW (dF sv (dF sv (dF sv (dF dg (dF dg (dF dg (dF dg fI)))))))) fI)))))),?_⟩;refine⟨_,rfl,_,rfl,a,_,rfl,hS,λp hp=>⟨small (by simp),λg hg=>⟨small (by simp),λq hq=>?_⟩⟩⟩;rw[QF (by rw[Ab];exact hl)]at hg hq ⊢;have hgp:g≠p:=λz=>by rw[z,bQ]at hg;cases hg
  have hg0:H g=ah:=by rw[aW hgp]at hg;exact hg
  have hqg:q≠g:=λz=>by rw[z,bQ]at hq;cases hq
  rw[aW hqg]at hq;have hqp:q≠p:=λz=>by rw[z,bQ]at hq;cases hq
  have hq0:H q=ah:=by rw[aW hqp]at hq;exact hq
  refine k q ⟨p,g⟩ _ ⟨⟨0,0,bQ,Int.le_refl _,Int.le_refl _⟩,by rw[aW hqp.symm,aW hgp.symm,bQ],hl,(λz=>by rw[aW hqg.symm,bQ];rfl),hqg.symm⟩ λb o e=>?_;rw[aW (bY e hq0),aW (bY e hg0),aW (bY e hp)];exact e
abbrev Zf:List Str:=["_law_tape_here","_law_many"]
theorem scDraw:FnScope ["_law_tape_here","_law_many","_law_found","_law_spot","_law_cell","_law_mixed"] Zf (dO Ii):=⟨rfl,rfl,rfl,by decide +kernel,rfl,by decide +kernel,by decide +kernel⟩
theorem UC{R:Prop}{G:Int->Prop}(use:(∀c,G c)->R)(fin:∀c,G c):R:=use fin
theorem Ms{R G:Prop}(use:G->R)(fin:G):R:=use fin
theorem LD(F:Fun K "_law_draw" "_law_draw" Ii f fd)(zl:mg "len"=ah):FnOk P w K mg base dU 1 f fd Zf zQ:=by
 refine F.ok scDraw (λvs H Q E h=>?_) (λcdv A outer s H vs Q E hr h=>?_)
 ·obtain⟨t,l,ns,n,many,rfl,_⟩:=h;rfl
 ·obtain⟨t,l,ns,n,many,rfl,T,hn,hm0,hm1,k⟩:=h;obtain⟨a,b,ht,ha0,ha1⟩:=T.ob;have ntl:=T.ne;have hl:=T.ls;have hlen:=T.len;refine⟨_,ja (sT (j6 op_gt (iS ix_list (pv 0) dg (λ_ _=>rfl)) dg (oW _))
    (ja (jU (i:=2) scDraw.nd rfl (C4 rfl) (fj kZ (iS ix_list (pv 0) dg (λ_ _=>rfl)) (pv 1)))
     (ja (nL (fj ID (iS ix_list (pv 0) dg (λ_ _=>rfl)) (pv 1)) (pY (pv 0) dg qd))
     (nR (mI (pv 2))))) sh)
   (ja (jU (i:=3) scDraw.nd rfl (C4 rfl) (iS ix_list (pv 0) dg (λ_ _=>rfl)))
   (ja (nL (fj op_add (pv 3) dg) (pY (pv 0) dg qd))
   (ja (jU (i:=4) scDraw.nd rfl (C4 rfl) dg)
   (ja (sT (j6 op_gt (mN tM (by rfl) zl PySem.boot_len (dF (iS ix_list (pv 0) dg (λ_ _=>rfl)) fI)) dg (oW _))
    (nR (jU (i:=4) scDraw.nd rfl (C4 rfl) (iS ix_list (iS ix_list (pv 0) dg (λ_ _=>rfl))
     (fj kZ (pv 3) (mN tM (by rfl) zl PySem.boot_len (dF (iS ix_list (pv 0) dg (λ_ _=>rfl)) fI))) (λ_ _=>rfl)))) sh)
   (ja (sT (PW.pt (BZ (j6 RF (pv 4) (fj Lg dg dg) (oW _))
     (zR (j6 op_lt (pv 3) (mN tM (by rfl) zl PySem.boot_len (dF (iS ix_list (pv 0) dg (λ_ _=>rfl)) fI)) (oW _)))))
    (ja (nL (fj ID (pv 4) (pv 1)) (pY (pv 0) dg qd)) (nR (mI (fj kZ (pv 4) (pv 1))))) sh)
   (ja (jU (i:=5) scDraw.nd rfl (C4 rfl) (fj kZ (fj nE (fj op_add (fj op_add (fj kZ (pv 4) dg) (fj nE (fj nE dg (pv 3)) (pv 3))) dg) dg) dg))
   (nR (mI (fj kZ (fj kZ (fj nE (fj kZ (fj op_add (fj nE (pv 5) dg) (fj nE (pv 3) dg)) dg) dg) dg) (pv 1)))))))))),?_⟩
  refine⟨_,rfl,t,_,2,_,rfl,rfl,SqL.of ht,fQ (j:=2) rfl,_,_,rfl,rfl,_,rfl,?_⟩;refine kW (λ_=>?_) (λ_=>?_)
  ·-- found=tape[2] % many;tape[2]=tape[2] // many;return found
   refine⟨_,rfl,t,_,2,_,rfl,rfl,SqL.of ht,fQ (j:=2) rfl,_,rfl,_,_,rfl,rfl,hm0,?_⟩;refine⟨_,rfl,t,_,2,_,rfl,rfl,SqL.of ht,fQ (j:=2) rfl,_,rfl,_,_,rfl,rfl,⟨hm0,hm1⟩,?_⟩;refine⟨_,rfl,t,_,2,2,rfl,rfl,ht,rfl,?_⟩;refine⟨_,rfl,?_⟩;refine k _ _ (Int.emod_nonneg _ ⋯) (G7 _ hm0) ⟨⟨a,b / many,bQ,ha0,by omega⟩,by rw[aW ntl.symm];exact hl,hlen,(λz=>by rw[aW T.gne];exact T.ag z),T.gne⟩ Kp.tape
  ·-- spot=tape[1];tape[1]=spot+1;cell=0
   refine⟨_,rfl,t,_,1,_,rfl,rfl,SqL.of ht,fQ (j:=1) rfl,?_⟩;refine⟨_,rfl,_,_,rfl,rfl,_,rfl,t,_,1,1,rfl,rfl,ht,rfl,?_⟩;have ht1:∀o,upd H t o t=ae o:=λo=>bQ;have hl1:∀o,upd H t o l.s=ae (.lst (ns.map V.int)):=λo=>by rw[aW ntl.symm];exact hl
   generalize hH1:upd H t (.lst (((.ref l.s::.int a::.int b::kj l:List V)).set 1 (.int (a+1))))=H1;have g1:H1 t=ae (.lst (.ref l.s::.int (a+1)::.int b::kj l)):=by rw[<-hH1];exact bQ
   have g2:H1 l.s=ae (.lst (ns.map V.int)):=by rw[<-hH1];exact hl1 _
   have g3:Kp t H H1:=by rw[<-hH1];exact Kp.tape
   have g4:qF=ai->H1 l.g=ae (.lst tY):=λz=>by rw[<-hH1,aW T.gne];exact T.ag z
   refine⟨_,rfl,t,_,0,_,rfl,rfl,SqL.of g1,fQ (j:=0) rfl,l.s,_,rfl,.inl (SqL.of g2),_,_,rfl,rfl,_,rfl,?_⟩;apply UC
   case use=>
    intro fin;refine kW (λhp=>?_) (λ_=>?_)
    ·have hpos:(0:Int) < ((ns.map V.int).length:Int):=of_decide_eq_true hp;obtain⟨v,hv,hm⟩:=Ol (xs:=ns.map V.int) (r:=a % ((ns.map V.int).length:Int)) (Int.emod_nonneg _ ⋯) (G7 _ hpos);obtain⟨c,_,rfl⟩:=Bg.mp hm;refine⟨_,rfl,t,_,0,_,rfl,rfl,SqL.of g1,fQ (j:=0) rfl,_,rfl,_,rfl,t,_,0,_,rfl,rfl,SqL.of g1,fQ (j:=0) rfl,l.s,_,rfl,.inl (SqL.of g2),_,_,rfl,rfl,hpos,l.s,_,_,.int c,rfl,rfl,SqL.of g2,hv,?_⟩;exact fin c
    ·exact fin 0
   case fin=>
    intro c;refine⟨_,rfl,_,_,rfl,rfl,⟨by decide,by decide,by decide⟩,_,_,rfl,rfl,_,rfl,?_⟩;apply Ms
    case use=>
     intro fin;refine kW (λ_=>?_) (λ_=>?_)
     ·refine⟨_,rfl,_,rfl,t,_,0,_,rfl,rfl,SqL.of g1,fQ (j:=0) rfl,l.s,_,rfl,.inl (SqL.of g2),_,_,rfl,rfl,_,rfl,?_⟩;refine kW (λ_=>?_) (λ_=>fin);refine⟨_,rfl,_,rfl,_,_,rfl,rfl,⟨hm0,hm1⟩,_,rfl,t,_,2,2,rfl,rfl,g1,rfl,_,rfl,_,rfl,_,_,rfl,rfl,hm0,?_⟩;exact k _ _ (Int.emod_nonneg _ ⋯) (G7 _ hm0) ⟨⟨a+1,_,bQ,by omega,by omega⟩,by rw[aW ntl.symm];exact g2,hlen,(λz=>by rw[aW T.gne];exact g4 z),T.gne⟩ (g3.trans Kp.tape)
     ·exact v8 fin
    case fin=>
     refine⟨_,rfl,_,_,rfl,rfl,(by show(0:Int) < 999331;decide),_,rfl,_,_,rfl,rfl,.inl ⟨by decide,by decide⟩,_,rfl,_,_,rfl,rfl,.inl ⟨by omega,by omega⟩,_,_,rfl,rfl,_,_,rfl,rfl,_,_,rfl,rfl,.inr ⟨by decide,by decide⟩,_,_,rfl,rfl,(by show(0:Int) < 999961;decide),?_⟩;refine⟨_,rfl,_,_,rfl,rfl,.inr ⟨by decide,by decide⟩,_,rfl,_,_,rfl,rfl,.inr ⟨by decide,by decide⟩,_,_,rfl,rfl,_,_,rfl,rfl,(by show(0:Int) < 999953;decide),_,_,rfl,rfl,.inr ⟨by decide,by decide⟩,_,_,rfl,rfl,(by show(0:Int) < 524287;decide),_,rfl,_,_,rfl,rfl,hm0,?_⟩;exact k _ _ (Int.emod_nonneg _ ⋯) (G7 _ hm0) ⟨⟨a+1,b,g1,by omega,by omega⟩,g2,hlen,g4,T.gne⟩ g3
end
end Nb
namespace Nb
open PySem L2 DL
theorem O1{α:Type}{us:List α}(h:us.length=1):∃a,us=[a]:=match us,h with|[a],_=>⟨a,rfl⟩
theorem K4{α:Type}{us:List α}(h:us.length=2):∃a b,us=[a,b]:=match us,h with|[a,b],_=>⟨a,b,rfl⟩
theorem RQ{α:Type}{us:List α}(h:us.length=3):∃a b c,us=[a,b,c]:=match us,h with|[a,b,c],_=>⟨a,b,c,rfl⟩
theorem Lh{α:Type}{us:List α}(h:us.length=4):∃a b c d,us=[a,b,c,d]:=match us,h with|[a,b,c,d],_=>⟨a,b,c,d,rfl⟩
theorem QT{α:Type}{us:List α}(h:us.length=5):∃a b c d e,us=[a,b,c,d,e]:=match us,h with|[a,b,c,d,e],_=>⟨a,b,c,d,e,rfl⟩
theorem sR{N ps:List Str}{S:E4}(h1:S.kind=.function:=by rfl)(h2:S.isCoroutine=aj:=by rfl)(h3:S.isGenerator=aj:=by rfl)(h4:N.Nodup:=by decide +kernel)(h5:N.take ps.length=ps:=by rfl)(h6:∀x∈ps,S.names.lookup x=ae .local\/S.names.lookup x=ae .cell:=by decide +kernel)(h7:∀y∈S.names,y.2≠.free:=by decide +kernel):FnScope N ps S:=⟨h1,h2,h3,h4,h5,h6,h7⟩
theorem xW(h:Has X.prog X.w X.K X.mg X.base k x ps S)(hr:Room k' X.A)(ha:DA X (e::es) tR wR)(hk:k<=k')(hg:Gl X x)(hdb:(x==("__debug__":Str))=aj)(he:Az (e::es) X.env=(aj,eval e X.env)::Az es X.env)(hpl:(Dj pos (Az es X.env)).any (·.1)=aj):DE X (.Call (.Name x p) (e::es) [] pos) (jP (f7 S) [] E0 tR) (aH S wR):=Vj h (hr.mono hk) hg ha hdb he hpl
theorem uj(h:HasN X.prog X.w X.K X.mg X.base k x ps S)(hr:Room k' X.A)(ha:DA X (e::es) tR wR)(hk:k<=k')(hg:Gl X x)(hdb:(x==("__debug__":Str))=aj)(he:Az (e::es) X.env=(aj,eval e X.env)::Az es X.env)(hpl:(Dj pos (Az es X.env)).any (·.1)=aj):DF X (.Call (.Name x p) (e::es) [] pos) (jP (nO S) [] E0 tR) (kr S wR):=KQ h (hr.mono hk) hg ha hdb he hpl
def L5:NameKind->Bool
 |.local=>ai
 |_=>aj
def BX:NameKind->Bool
 |.free=>ai
 |_=>aj
def oV(sc:E4):List Str:=(sc.names.filter λy=>BX y.2).map (·.1)
def cN(sc:E4):List Str:=((sc.names.drop 1).filter λy=>L5 y.2).map (·.1)++oV sc
def oZ(sc:E4)(cells:List (Str×Addr)):List (Str×Addr):=(oV sc).reverse.map λx=>(x,(cells.lookup x).getD 0)
def rL(sc:E4):List (Str×NameKind):=sc.names.map λy=>(y.1,bif BX y.2 then .cell else y.2)
inductive Frs(X:Cx)(sc:E4):List (Option Nat)->List Str->Prop
 |nil:Frs X sc [] []
 |own {f:List (Option Nat)} {x:Str} {N:List Str} (h:Frs X sc f N):Frs X sc (ah::f) (x::N)
 |free {f:List (Option Nat)} {x:Str} {N:List Str} {i:Nat} (h1:X.N[i]?=ae x) (h2:gh X.env.scope x) (h3:X.env.kindOf x=ae .cell\/X.env.kindOf x=ae .free) (h4:(rL sc).lookup x=ae .cell\/(rL sc).lookup x=ae .free) (h5:(oZ sc X.env.cells).lookup x=X.env.cells.lookup x) (h:Frs X sc f N):Frs X sc (ae i::f) (x::N)
theorem Frs.len(h:Frs X sc f N):f.length=N.length:=by
 induction h with
 |nil=>rfl
 |own _ ih=>rw[Ap,Ap,ih]
 |free _ _ _ _ _ _ ih=>rw[Ap,Ap,ih]
theorem L0(h1:closureFor sc X.env=pure (oZ sc X.env.cells))(h2:sc.kind=.function)(h3:∀y∈sc.names,y.2≠.cell)(h4:∀y∈sc.names,y.2=.local->sc.names.lookup y.1=ae .local)(h5:((oV sc).all λx=>(X.env.cells.lookup x).isSome)=ai)(h6:(relabel sc X.env).names=rL sc)(h7:∀y∈rL sc,(y.2=.cell\/y.2=.free)->y.1∈(oV sc).reverse)(h8:Frs X sc f (cN sc)):CompSc X (cN sc) sc (oZ sc X.env.cells) f:=by
 refine⟨h1,h2,h3,h4,NT λy hy=>?_,Oe _ _ h6 (show(oZ sc X.env.cells).map (·.1)=(oV sc).reverse by unfold oZ;rw[Df];exact List.map_id' _) h7,h8.len,?_⟩
 ·obtain⟨x,hx,rfl⟩:=Bg.mp hy;obtain⟨c,hc⟩:=Ft.mp (Dh.mp h5 x (List.mem_reverse.mp hx));show X.env.cells.lookup x=ae ((X.env.cells.lookup x).getD 0);rw[hc];rfl
 ·intro j i h;rw[h6];clear h1 h2 h3 h4 h5 h6 h7;generalize cN sc=N at h8 ⊢
  induction h8 generalizing j with
  |nil=>cases h
  |own _ ih=>cases j with
   |zero=>cases h
   |succ j=>exact ih j h
  |free a b c d e _ ih=>cases j with
   |zero=>cases h;exact⟨_,rfl,a,b,c,d,e⟩
   |succ j=>exact ih j h
theorem Qg(h:Frs X sc f N):Frs X sc f N:=h
theorem kC(h:X.K=K):(dJ X N sc cl s H fp).K=K:=h
theorem nC(h:N.Nodup):(dJ X N sc cl s H fp).N.Nodup:=h
def zL:List Str:=["all","bool","dict","enumerate","int","isinstance","len","list","max","range","repr","sorted","str","tuple","zip"]
theorem zU{mg:Str->Option Ak}(z:∀x∈zL,mg x=ah)(h:x∈zL):mg x=ah:=z x h
theorem NP:B3 "max"=ae (.builtin "max"):=by decide +kernel
theorem QV:B3 "sorted"=ae (.builtin "sorted"):=by decide +kernel
section
variable{P:Bp}{w:B7}{K:Ag}{mg:Str->Option Ak}{base:Heap}{fa:Addr}{fd:C1}
theorem Rn{w:DT}(h:DE X e t w):DE X e t w:=h
theorem Mi{w:eZ}(h:DA X e t w):DA X e t w:=h
theorem S7{w:aR}(h:DS X e t w):DS X e t w:=h
theorem vJ{w:aR}(h:DSs X e t w):DSs X e t w:=h
theorem Qq{w:cM}(h:DC X e t w):DC X e t w:=h
theorem Ni{w:fN}(h:DF X e t w):DF X e t w:=h
theorem VA{w:iK}(h:DI X g e t w):DI X g e t w:=h
theorem M9{b aP:List Stmt}(e:b=st::aP)(h:DSs X (st::aP) T W):DSs X b T W:=e▸h
theorem qK(F:Fun K x x st fa fd)(h:∀(kV doc pm:Ak) (an:Option Addr) (cdv ct:Ak) (us:List Ak),us.length=ps.length->bindArgs (Ff x x (m5 st) (gS st) (dO st) .none kV doc pm an cdv ct) ⟨us,[]⟩=pure (ps.zip us):=by
 intro _ _ _ _ _ _ us hl
 first
  |obtain⟨_,rfl⟩:=O1 hl;rfl
  |obtain⟨_,_,rfl⟩:=K4 hl;rfl
  |obtain⟨_,_,_,rfl⟩:=RQ hl;rfl
  |obtain⟨_,_,_,_,rfl⟩:=Lh hl;rfl
  |obtain⟨_,_,_,_,_,rfl⟩:=QT hl;rfl):Binds K fd ps []:=F.binds h
def v7(x:Str)(st:Stmt)(ps:List Str):Prop:=∀{K:Ag}{fa:Addr}{fd:C1},Fun K x x st fa fd->Binds K fd ps []
def jk(P:Bp)(w:B7)(K:Ag)(mg:Str->Option Ak)(base:Heap)(k:Nat)(x:Str)(i:Nat)(fa:Addr)(N:List Str)(b:List Stmt)(W:aR):Prop:=N.Nodup->∀(cdv:Ak)(A:Ck)(outer:List Env)(s:Ar)(H:Hp)(E:XK),Room k (A.deeper (D6 x (dO (dX i)) s.heap.objs.size fa cdv))->∃T,DSs (d8 dU P w K mg base N x (dO (dX i)) fa cdv A outer s H E).nox b T W
theorem sY{N:List Str}{b:List Stmt}{W:aR}(h:N.Nodup->∀(cdv:Ak) (A:Ck) (outer:List Env) (s:Ar) (H:Hp) (E:XK),Room k (A.deeper (D6 x (dO (dX i)) s.heap.objs.size fa cdv))->∃T,DSs (d8 dU P w K mg base N x (dO (dX i)) fa cdv A outer s H E).nox b T W:=by
 intro nd cdv A outer s H E hr;apply Es;apply M9 (by exact rfl)
 repeat' first
  |with_reducible first|exact Kx|exact MT|exact Qy|exact Vy|exact uO|exact PySem.boot_len|exact ou|exact NP|exact Gx|exact Ny|exact QV|exact Q2|exact xj
  |with_reducible first|apply Room.units|apply Room.units0|apply Room.hd|apply Room.gd
  |exact rfl
  |exact C4 rfl
  |exact B9 (C4 rfl)
  |exact B9 (B9 rfl)
  |exact B9 rfl
  | (with_reducible apply Rn;with_reducible first|apply AB|apply Kj|apply GK|apply xW|apply OW|apply Vn|apply QD|apply OG|apply oM (zk ?_) DD ?_ ?_ ?_ ?_ ?_ ?_ ?_ ?_|apply yZ|apply Ti|apply Tw|apply oM (zk ?_) MM ?_ ?_ ?_ ?_ ?_ ?_ ?_ ?_|apply RH|apply LF|apply Ui|apply Lp|apply rg (CH ?_) HI ?_ ?_ ?_ ?_ ?_ ?_ ?_ ?_|apply oM (PN ?_ ?_ ?_) OA ?_ ?_ ?_ ?_ ?_ ?_ ?_ ?_|apply T7|apply rg (CH ?_) Kb ?_ ?_ ?_ ?_ ?_ ?_ ?_ ?_|apply Lz|apply Ut|apply Vk|apply M5|apply OC|apply vR (u6 ?_ ?_) uk|apply rg (xy ?_) Rl ?_ ?_ ?_ ?_ ?_ ?_ ?_ ?_|apply Po|apply Qn|apply rg (xy ?_) AG ?_ ?_ ?_ ?_ ?_ ?_ ?_ ?_|apply TC|apply Kf|apply Pr|apply xG|apply QN|apply Ku|apply QB|apply Np|apply LH|apply R7|apply Ul|apply Sw|apply M7|apply Ou|apply vR (Hl ?_ ?_) xF|apply vR AD AX|apply oM (NI ?_) Kk ?_ ?_ ?_ ?_ ?_ ?_ ?_ ?_|apply oM (MK ?_) TQ ?_ ?_ ?_ ?_ ?_ ?_ ?_ ?_|apply SH GW BN GW BN ?_ ?_ ?_ ?_|apply Tc|apply DF.d)
  | (with_reducible apply Mi;with_reducible first|apply M8|apply Mm)
  | ((with_reducible apply S7);first|(with_reducible apply NH)|(with_reducible apply Qz)|((with_reducible apply J5);case hx=>exact rfl)|((with_reducible apply PF);case hx=>exact rfl)|with_reducible first|apply Lu|apply yQ|apply Qu|apply Qh|apply JK|apply TK|apply M6|apply Md|apply Ot|apply UW|apply UP|apply NQ|apply OV|apply LJ)
  | (with_reducible apply vJ;with_reducible first|apply U4|apply Sb|apply Lb|apply VH|apply Tt|apply QP)
  | ((with_reducible apply Qq);first|(with_reducible apply DCW.cc;with_reducible first|apply cw_and|apply cw_or)|with_reducible first|apply iL (u6 ?_ ?_) uk|apply iL (u6 ?_ ?_) ML|apply iL Nf Rq|apply iL Pu P1|apply Vo|apply iL J7 Ox|apply iL (xm ?_) nW|apply iL AD AX|apply iL (yK ?_) Q9|apply iL Tg Ve|apply Uk|apply Uj|apply RN|apply Qj|apply Uy|apply RY|apply Ln|apply iL (yK ?_) nW|apply iL (Hl ?_ ?_) xF|apply iL KA VJ|apply iL (Mz ?_ ?_) xF|apply TB)
  | (with_reducible apply Ni;with_reducible first|apply RJ|apply vW|apply uj|apply Lw|apply MR|apply L3|apply Qm|apply Mx)
  | (with_reducible apply VA;with_reducible first|apply VR|apply RT|apply QI|apply RE|apply Nd)
  |with_reducible first|apply Ls|apply OB|apply L6|apply Qx|apply NY|apply Ra|apply SE|apply xU|apply cw_and|apply cw_and1|apply cw_or|apply cw_or1|apply MY|apply QK|apply zN|apply Td|apply L4|apply L0
  |assumption
  |with_reducible first|apply kC|apply nC
  | ((with_reducible apply Qg);first|apply Frs.nil|apply Frs.own|apply Frs.free)
  |exact oW _
  |exact λ_ _=>rfl
  |exact λ_=>rfl
  |exact zU (by assumption) ∅
  |exact PassesOwn.never
  |exact⟨rfl,rfl,rfl,rfl⟩
  |with_unfolding_all rfl
  |decide
  |decide +kernel
  |omega
  |exact B9 (B9 (C4 rfl))
  |exact B9 (B9 (B9 (C4 rfl)))
  |exact B9 (B9 (B9 (B9 rfl)))
  |intro(_:Ar) _ _
  |exact(0:Int)):jk P w K mg base k x i fa N b W:=h
theorem aV(k p)(x)(F:Fun K x x (dX i) fa fd/\mg x=ae (.ref fa))(body:b9 S W N)(len:∀ws n Q,S ws n Q->ws.length=p:=by(intro _ _ _ h;(repeat obtain⟨_,h⟩:=h);subst_vars;rfl))(hp:(N.take p).length=p:=by rfl)(Sc:FnScope N (N.take p) (dO (dX i)):=by exact sR)(b:v7 x (dX i) (N.take p):=by intro _ _ _ F;exact qK F)
  (h:jk P w K mg base k x i fa N (gS (dX i)) W:=by exact sY):Has P w K mg base (k+1) x (N.take p) S:=
 Has.mk' F.1 F.2 (b F.1) (Fun.okD F.1 Sc (λws n Q q=>by rw[hp];exact len ws n Q q) λcdv A outer s H E hr=>(h Sc.nd cdv A outer s H E hr).elim λT d=>⟨T,W,d,body⟩)
theorem mr{N:List Str}(k p)(x)(F:Fun K x x (dX i) fa fd/\mg x=ae (.ref fa))(body:∀ws n Q,S ws n Q->W (iE N ws) n {nx:=λ_ _=>False,rt:=λ_ _=>False,rn:=Q})(len:∀ws n Q,S ws n Q->ws.length=p:=by(intro _ _ _ h;(repeat obtain⟨_,h⟩:=h);subst_vars;rfl))(hp:(N.take p).length=p:=by rfl)(Sc:FnScope N (N.take p) (dO (dX i)):=by exact sR)(b:v7 x (dX i) (N.take p):=by intro _ _ _ F;exact qK F)
  (h:jk P w K mg base k x i fa N (gS (dX i)) W:=by exact sY):HasN P w K mg base (k+1) x (N.take p) S:=
 HasN.mk' F.1 F.2 (b F.1) (Fun.okN F.1 Sc (λws n Q q=>by rw[hp];exact len ws n Q q) λcdv A outer s H E hr=>(h Sc.nd cdv A outer s H E hr).elim λT d=>⟨T,W,d,body⟩)
theorem yq{S:Nat->bz}{W:bz->aR}(c0)(x)(F:Fun K x x (dX i) fa fd/\mg x=ae (.ref fa))(len:∀d ws n Q,S d ws n Q->ws.length=p)(z:∀ws n Q,¬S 0 ws n Q)(body:∀d ws n Q,S (d+1) ws n Q->W (S d) (iE N ws) n {nx:=λ_ n=>Q (.d .none) n,rt:=Q})(D:Nat)(hp:(N.take p).length=p:=by rfl)(Sc:FnScope N (N.take p) (dO (dX i)):=by exact sR)(b:v7 x (dX i) (N.take p):=by intro _ _ _ F;exact qK F)
  (h:∀k d:Nat,c0<=k->Has P w K mg base k x (N.take p) (S d)->jk P w K mg base k x i fa N (gS (dX i)) (W (S d)):=by intro k d hk hS;exact sY):Has P w K mg base (c0+D) x (N.take p) (S D):=by
 induction D with
 |zero=>exact Has.mk' F.1 F.2 (b F.1) ⟨λvs H Q E h=>(by obtain⟨_,_,_,_,_,_,_,_,_,_,_,q,_⟩:=h;exact absurd q (z _ _ _)),λA outer s H args us vs Q E hr he hb hv h=>(by obtain⟨_,_,_,_,_,_,_,_,_,_,_,q,_⟩:=h;exact absurd q (z _ _ _))⟩
 |succ d ih=>exact Has.mk' F.1 F.2 (b F.1) (Fun.okD F.1 Sc (λws n Q q=>by rw[hp];exact len (d+1) ws n Q q) λcdv A outer s H E hr=>(h (c0+d) d (Nat.le_add_right _ _) ih Sc.nd cdv A outer s H E hr).elim λT e=>⟨T,W (S d),e,body d⟩)
theorem OD{aP:List Stmt}(k:Nat)(F:Fun K "law" "law" (dX i) fa fd)(GT:FnOk P w K mg base dU 1 fT fdT Zb (pS K))(bT:Binds K fdT Zb [])(mT:mg "_law_tape"=ae (.ref fT))(kT:C3 K (.ref fT)=ai)(hW:W (ah::ae (.w .tp)::Bj (N.length-2) ah) 0 p8)(e:gS (dX i)=s0::aP)(h0:N.Nodup->∀(cdv:Ak) (A:Ck) (outer:List Env) (s:Ar) (H:Hp) (E:XK),Room k (A.deeper (D6 "law" (dO (dX i)) s.heap.objs.size fa cdv))->PS (d8 dU P w K mg base N "law" (dO (dX i)) fa cdv A outer s H E).nox s0 (c8 (jP (pS K) [] E0 (c7 (bw 0) bL)) (fi 1)))(hN:∀v,start N [v]=ae v::ah::Bj (N.length-2) ah:=by intro _;rfl)(Sc:FnScope N Zb (dO (dX i)):=by exact sR)
  (h:jk P w K mg base k "law" i fa N aP W:=by exact sY):FnOk P w K mg base dU (k+1) fa fd Zb (DL.spLaw K):=
 QC F Sc GT bT mT kT hN hW λcdv A outer s H E hr=>(h Sc.nd cdv A outer s H E hr).elim λT d=>⟨s0,aP,T,e,h0 Sc.nd cdv A outer s H E hr,d⟩
end
theorem zE(P):(zL.map λx=>PySem.W.nsIn (KK P) Du x)=zL.map λ_=>ae ah:=by kernel_rfl
section
variable{P:Params}{h:Heap}{mg:Str->Option Ak}(X:(KK P).In h)(G:h.Ns Du mg)
include X G
theorem zg(j:Nat)(d:Ds)(e:dL[j]?=ae d):(Fun (KK P) d.x d.x (dX d.i) d.f (mZ d)/\mg d.x=ae (.ref d.f))/\C3 (KK P) (.ref d.f)=ai:=by
 have q:=JR (Pl P) e;obtain⟨q1,q2⟩:=Prod.mk.inj q;obtain⟨q2,q3⟩:=Prod.mk.inj q2;have k:C3 (KK P) (.ref d.f)=ai:=by
  unfold C3;simp only[q2]
 exact⟨⟨LI q2 q3 k,PySem.W.mg_of X G q1⟩,k⟩
theorem zK(x)(h:x∈zL):mg x=ah:=by
 obtain⟨j,e⟩:=Bw.mp h;exact PySem.W.mg_none_of X G (JR (zE P) e)
end
abbrev pR:Bp:=PySem.W.OpenLaw.prog PySem.Challenge.rw_noteboard_k91_whole_logs_of_weavings
structure Cv where
 P:Bp
 w:B7
 K:Ag
 mg:Str->Option Ak
 base:Heap
abbrev ib(c:Cv):Prop:=Has c.P c.w c.K c.mg c.base 1 "_law_draw" Zf cG
abbrev BH(c:Cv):Prop:=Has c.P c.w c.K c.mg c.base 1 "kind_of" ["thing"] nP
abbrev Jk(c:Cv):Prop:=Has c.P c.w c.K c.mg c.base 8 "are_alike" ["one","other"] (ki 6)
abbrev FJ(c:Cv):Prop:=Has c.P c.w c.K c.mg c.base 1 "is_whole" ["thing"] vq
abbrev Jc(c:Cv):Prop:=Has c.P c.w c.K c.mg c.base 1 "field_fits" ["field","value","having","bound"] kQ
abbrev uN(c:Cv):Prop:=Has c.P c.w c.K c.mg c.base 2 "fits" ["pattern","row","names"] jV
abbrev FF(c:Cv):Prop:=Has c.P c.w c.K c.mg c.base 1 "next_value" ["value"] yT
abbrev xC(c:Cv):Prop:=Has c.P c.w c.K c.mg c.base 2 "field_value" ["field","having"] ph
abbrev Hs(c:Cv):Prop:=Has c.P c.w c.K c.mg c.base 3 "filled" ["template","names"] nc
abbrev wG(c:Cv):Prop:=Has c.P c.w c.K c.mg c.base 1 "first_stand" ["plan"] ua
abbrev Hx(c:Cv):Prop:=Has c.P c.w c.K c.mg c.base 2 "is_within" ["thing","most"] uQ
abbrev qZ(c:Cv):Prop:=Has c.P c.w c.K c.mg c.base 1 "next_act" ["programs","stand","hand"] nt
abbrev ui(c:Cv):Prop:=Has c.P c.w c.K c.mg c.base 3 "gets" ["programs","stand","hand"] nz
abbrev yB(c:Cv):Prop:=Has c.P c.w c.K c.mg c.base 1 "gone_on" ["place","names"] nJ
abbrev vL(c:Cv):Prop:=Has c.P c.w c.K c.mg c.base 1 "gone_to" ["program","block","names"] i8
abbrev ug(c:Cv):Prop:=Has c.P c.w c.K c.mg c.base 1 "with_hand" ["hands","hand","place"] kJ
abbrev IQ(c:Cv):Prop:=Has c.P c.w c.K c.mg c.base 4 "got" ["programs","stand","hand","act"] pb
abbrev Ia(c:Cv):Prop:=Has c.P c.w c.K c.mg c.base 3 "is_same_value" ["act","names"] uu
abbrev JZ(c:Cv):Prop:=Has c.P c.w c.K c.mg c.base 5 "hand_moved" ["programs","stand","hand"] yJ
abbrev zY(c:Cv):Prop:=Has c.P c.w c.K c.mg c.base 1 "aged" ["note"] yD
abbrev FO(c:Cv):Prop:=Has c.P c.w c.K c.mg c.base 2 "clock_moved" ["stand"] wY
abbrev xq(c:Cv):Prop:=Has c.P c.w c.K c.mg c.base 6 "after" ["programs","stand","mover"] o6
abbrev yV(c:Cv):Prop:=Has c.P c.w c.K c.mg c.base 2 "first_board" ["plan"] rf
abbrev Ij(c:Cv):Prop:=Has c.P c.w c.K c.mg c.base 1 "clock_row" ["board"] yk
abbrev BD(c:Cv):Prop:=Has c.P c.w c.K c.mg c.base 4 "hand_row" ["programs","board","hand","behind"] vh
abbrev JW(c:Cv):Prop:=Has c.P c.w c.K c.mg c.base 5 "row_of" ["programs","board","mover","behind"] vX
abbrev vO(c:Cv):Prop:=Has c.P c.w c.K c.mg c.base 1 "went_by" ["row"] qN
abbrev Ht(c:Cv):Prop:=Has c.P c.w c.K c.mg c.base 2 "board_behind" ["board","row","behind"] xi
abbrev yf(c:Cv):Prop:=Has c.P c.w c.K c.mg c.base 7 "logged" ["programs","board","mover"] rk
abbrev zM(c:Cv):Prop:=HasN c.P c.w c.K c.mg c.base 8 "log_of" ["plan","movers"] xf
abbrev BY(c:Cv):Prop:=Has c.P c.w c.K c.mg c.base 1 "mover_told" ["programs","row"] vo
abbrev AI(c:Cv):Prop:=Has c.P c.w c.K c.mg c.base 9 "lets_log" ["plan","thing"] t6
abbrev yH(c:Cv):Prop:=HasN c.P c.w c.K c.mg c.base 2 "lives" ["log","many"] sJ
abbrev CS(c:Cv):Prop:=HasN c.P c.w c.K c.mg c.base 3 "lying" ["log","many","k"] xD
abbrev EX(c:Cv):Prop:=Has c.P c.w c.K c.mg c.base 7 "woven" ["programs","stand","movers"] uc
abbrev pz(c:Cv):Prop:=Has c.P c.w c.K c.mg c.base 2 "_law_value" Zc lZ
abbrev rB(c:Cv):Prop:=Has c.P c.w c.K c.mg c.base 2 "_law_size" Zc nS
abbrev zc(c:Cv):Prop:=Has c.P c.w c.K c.mg c.base 2 "_law_age" Zc pA
abbrev Hq(c:Cv):Prop:=Has c.P c.w c.K c.mg c.base 3 "_law_pattern" Zd vx
abbrev Jm(c:Cv):Prop:=Has c.P c.w c.K c.mg c.base 3 "_law_template" Zd wU
abbrev Iz(c:Cv):Prop:=Has c.P c.w c.K c.mg c.base 3 "_law_term" Zd sO
abbrev DV(c:Cv):Prop:=Has c.P c.w c.K c.mg c.base 4 "_law_act" ["_law_tape_here","_law_known","_law_open_ones"] pM
abbrev GV(c:Cv):Prop:=Has c.P c.w c.K c.mg c.base 5 "_law_program" Zc xO
abbrev DO(c:Cv):Prop:=Has c.P c.w c.K c.mg c.base 3 "_law_notes" ["_law_tape_here","_law_most"] qX
abbrev JU(c:Cv):Prop:=Has c.P c.w c.K c.mg c.base 6 "_law_plan" Zc um
abbrev yM(c:Cv):Prop:=Has c.P c.w c.K c.mg c.base 1 "_law_fit" ["_law_pattern_here","_law_row_here","_law_names"] jV
abbrev uh(c:Cv):Prop:=Has c.P c.w c.K c.mg c.base 1 "_law_filled" ["_law_template_here","_law_names"] nc
abbrev uI(c:Cv):Prop:=Has c.P c.w c.K c.mg c.base 2 "_law_got" ["_law_act_here","_law_notes_here","_law_names"] m3
abbrev zB(c:Cv):Prop:=Has c.P c.w c.K c.mg c.base 1 "_law_to" ["_law_program_here","_law_block","_law_names"] i8
abbrev DH(c:Cv):Prop:=Has c.P c.w c.K c.mg c.base 3 "_law_hand" ["_law_program_here","_law_state","_law_notes_here"] wm
abbrev xN(c:Cv):Prop:=Has c.P c.w c.K c.mg c.base 4 "_law_moved" ["_law_programs","_law_stand","_law_mover"] tS
abbrev CA(c:Cv):Prop:=Has c.P c.w c.K c.mg c.base 5 "_law_woven" ["_law_tape_here","_law_programs","_law_stand","_law_many"] uw
abbrev AJ(c:Cv):Prop:=Has c.P c.w c.K c.mg c.base 3 "_law_row" ["_law_programs","_law_stand","_law_numbers","_law_fresh","_law_mover"] xE
abbrev uA(c:Cv):Prop:=Has c.P c.w c.K c.mg c.base 5 "_law_written" ["_law_plan_here","_law_movers"] sI
abbrev HA(c:Cv):Prop:=Has c.P c.w c.K c.mg c.base 6 "_law_true" ["_law_plan_here","_law_thing"] xJ
abbrev IF(c:Cv):Prop:=Has c.P c.w c.K c.mg c.base 2 "_law_bent_row" ["_law_tape_here","_law_row_here","_law_hands"] vT
abbrev Jv(c:Cv):Prop:=Has c.P c.w c.K c.mg c.base 3 "_law_bent" ["_law_tape_here","_law_log","_law_hands"] xA
abbrev HX(c:Cv):Prop:=Has c.P c.w c.K c.mg c.base 1 "_law_lives" ["_law_log","_law_many"] wO
section
variable{c:Cv}(F:∀(j:Nat) (d:Ds),dL[j]?=ae d->(Fun c.K d.x d.x (dX d.i) d.f (mZ d)/\c.mg d.x=ae (.ref d.f))/\C3 c.K (.ref d.f)=ai)(z:∀x∈zL,c.mg x=ah)(u0:c.mg "GREATEST_NUMBER"=ae (.int 99 249))(u1:c.mg "GETTING"=ae (.ref 99))(u2:∀H,SqT c.K H 99 ((Ze:List Str).map V.str))(u3:c.mg "GOT"=ae (.ref 185))(u4:hU c.K 185 [("take","takes"),("read","reads"),("look","looks")])
include F z u0 u1 u2 u3 u4
theorem Qc:ib c:=Has.mk' (F 35 _ rfl).1.1 (F 35 _ rfl).1.2 (qK (F 35 _ rfl).1.1) (LZ (LD (F 35 _ rfl).1.1 (zU z ∅)))
theorem SG:BH c:=aV (i:=4) 0 1 "kind_of" (F 0 _ rfl).1 VO
theorem UT(h0:BH c):Jk c:=yq (S:=ki) (i:=5) 2 "are_alike" (F 1 _ rfl).1 Lf (λ_ _ _ h=>h) RD 6
theorem ND:FJ c:=aV (i:=8) 0 1 "is_whole" (F 2 _ rfl).1 KO
theorem Uo:Jc c:=aV (i:=10) 0 4 "field_fits" (F 3 _ rfl).1 KH
theorem Od(h0:Jc c):uN c:=aV (i:=11) 1 3 "fits" (F 4 _ rfl).1 Qf
theorem TY:FF c:=aV (i:=12) 0 1 "next_value" (F 5 _ rfl).1 Ll
theorem LQ(h0:FF c):xC c:=aV (i:=13) 1 2 "field_value" (F 6 _ rfl).1 K9
theorem PL(h0:xC c):Hs c:=aV (i:=14) 2 2 "filled" (F 7 _ rfl).1 RC
theorem Of:wG c:=aV (i:=17) 0 1 "first_stand" (F 8 _ rfl).1 T5
theorem Qv(h0:FJ c):Hx c:=aV (i:=18) 1 2 "is_within" (F 9 _ rfl).1 P6
theorem QA:qZ c:=aV (i:=20) 0 3 "next_act" (F 10 _ rfl).1 Rr
theorem LC(h0:uN c)(h1:qZ c):ui c:=aV (i:=21) 2 3 "gets" (F 11 _ rfl).1 Oq
theorem SD:yB c:=aV (i:=22) 0 2 "gone_on" (F 12 _ rfl).1 K6
theorem LO:vL c:=aV (i:=23) 0 3 "gone_to" (F 13 _ rfl).1 P9
theorem O4:ug c:=aV (i:=24) 0 3 "with_hand" (F 14 _ rfl).1 O2
theorem LB(h0:uN c)(h1:ui c)(h2:yB c)(h3:vL c)(h4:ug c):IQ c:=aV (i:=25) 3 4 "got" (F 15 _ rfl).1 RR
theorem K3(h0:xC c):Ia c:=aV (i:=26) 2 2 "is_same_value" (F 16 _ rfl).1 S6
theorem S0(h0:Hs c)(h1:yB c)(h2:vL c)(h3:IQ c)(h4:Ia c)(h5:qZ c)(h6:ug c):JZ c:=aV (i:=27) 4 3 "hand_moved" (F 17 _ rfl).1 Ky
theorem Qr:zY c:=aV (i:=28) 0 1 "aged" (F 18 _ rfl).1 Mv
theorem Ld(h0:zY c):FO c:=aV (i:=29) 1 1 "clock_moved" (F 19 _ rfl).1 K7
theorem VF(h0:FO c)(h1:JZ c)(h2:Hx c):xq c:=aV (i:=30) 5 3 "after" (F 20 _ rfl).1 Pt
theorem Up(h0:wG c):yV c:=aV (i:=33) 1 1 "first_board" (F 21 _ rfl).1 Su
theorem Rv:Ij c:=aV (i:=34) 0 1 "clock_row" (F 22 _ rfl).1 Nh
theorem QL(h0:ui c)(h1:qZ c):BD c:=aV (i:=35) 3 4 "hand_row" (F 23 _ rfl).1 L9
theorem SS(h0:Ij c)(h1:BD c):JW c:=aV (i:=36) 4 4 "row_of" (F 24 _ rfl).1 TN
theorem Mj:vO c:=aV (i:=37) 0 1 "went_by" (F 25 _ rfl).1 O5
theorem Ry(h0:vO c):Ht c:=aV (i:=38) 1 3 "board_behind" (F 26 _ rfl).1 Sz
theorem UO(h0:xq c)(h1:Ht c)(h2:JW c):yf c:=aV (i:=39) 6 3 "logged" (F 27 _ rfl).1 OT
theorem TX(h0:yV c)(h1:yf c):zM c:=mr (i:=40) 7 2 "log_of" (F 28 _ rfl).1 Kh
theorem NU:BY c:=aV (i:=41) 0 2 "mover_told" (F 29 _ rfl).1 Nk
theorem Mu(h0:Jk c)(h1:yV c)(h2:yf c)(h3:BY c):AI c:=aV (i:=42) 8 2 "lets_log" (F 30 _ rfl).1 Q4
theorem Kq(h0:vO c):yH c:=mr (i:=43) 1 2 "lives" (F 31 _ rfl).1 Vg
theorem PH(h0:yH c):CS c:=mr (i:=44) 2 3 "lying" (F 32 _ rfl).1 K8
theorem Ly(h0:xq c):EX c:=aV (i:=46) 6 3 "woven" (F 33 _ rfl).1 Qk
theorem QE(h0:ib c):pz c:=aV (i:=50) 1 1 "_law_value" (F 36 _ rfl).1 OY
theorem RG(h0:ib c):rB c:=aV (i:=51) 1 1 "_law_size" (F 37 _ rfl).1 MN
theorem KU(h0:ib c):zc c:=aV (i:=52) 1 1 "_law_age" (F 38 _ rfl).1 NL
theorem QJ(h0:ib c)(h1:rB c)(h2:pz c):Hq c:=aV (i:=53) 2 2 "_law_pattern" (F 39 _ rfl).1 Vz
theorem KN(h0:ib c)(h1:rB c)(h2:pz c):Jm c:=aV (i:=54) 2 2 "_law_template" (F 40 _ rfl).1 Rk
theorem Pq(h0:ib c)(h1:pz c):Iz c:=aV (i:=55) 2 2 "_law_term" (F 41 _ rfl).1 MU
theorem UD(h0:zc c)(h1:ib c)(h2:Hq c)(h3:Jm c)(h4:Iz c):DV c:=aV (i:=56) 3 3 "_law_act" (F 42 _ rfl).1 Lc
theorem Mn(h0:DV c)(h1:ib c):GV c:=aV (i:=57) 4 1 "_law_program" (F 43 _ rfl).1 Nu
theorem SO(h0:zc c)(h1:ib c)(h2:rB c)(h3:pz c):DO c:=aV (i:=58) 2 2 "_law_notes" (F 44 _ rfl).1 Lk
theorem RS(h0:ib c)(h1:DO c)(h2:GV c):JU c:=aV (i:=59) 5 1 "_law_plan" (F 45 _ rfl).1 Oj
theorem J9:yM c:=aV (i:=60) 0 3 "_law_fit" (F 46 _ rfl).1 MV
theorem RK:uh c:=aV (i:=61) 0 2 "_law_filled" (F 47 _ rfl).1 U0
theorem VB(h0:yM c):uI c:=aV (i:=62) 1 3 "_law_got" (F 48 _ rfl).1 Sj
theorem Oo:zB c:=aV (i:=63) 0 3 "_law_to" (F 49 _ rfl).1 OP
theorem Nr(h0:uh c)(h1:yM c)(h2:uI c)(h3:zB c):DH c:=aV (i:=64) 2 3 "_law_hand" (F 50 _ rfl).1 QZ
theorem Ng(h0:DH c):xN c:=aV (i:=65) 3 3 "_law_moved" (F 51 _ rfl).1 MF
theorem Rm(h0:ib c)(h1:xN c):CA c:=aV (i:=66) 4 4 "_law_woven" (F 52 _ rfl).1 So
theorem Rf(h0:uh c)(h1:uI c):AJ c:=aV (i:=67) 2 5 "_law_row" (F 53 _ rfl).1 Vt
theorem Va(h0:xN c)(h1:AJ c):uA c:=aV (i:=68) 4 2 "_law_written" (F 54 _ rfl).1 RA
theorem NR(h0:uA c):HA c:=aV (i:=69) 5 2 "_law_true" (F 55 _ rfl).1 Qt
theorem N3(h0:ib c):IF c:=aV (i:=70) 1 3 "_law_bent_row" (F 56 _ rfl).1 Nn
theorem O7(h0:IF c)(h1:ib c):Jv c:=aV (i:=71) 2 3 "_law_bent" (F 57 _ rfl).1 UM
theorem Tq:HX c:=aV (i:=72) 0 2 "_law_lives" (F 58 _ rfl).1 Pj
theorem Om(h0:Jv c)(h1:ib c)(h2:HX c)(h3:JU c)(h4:HA c)(h5:CA c)(h6:uA c)(h7:wG c)(h8:AI c)(h9:yH c)(h10:zM c)(h11:CS c)(h12:EX c):FnOk c.P c.w c.K c.mg c.base dU 10 (Ds.f ⟨73,"law",798,480,1,426,ai,814,7⟩) (mZ ⟨73,"law",798,480,1,426,ai,814,7⟩) Zb (DL.spLaw c.K):=by
 have bT:=qK (ps:=Zb) (F 34 _ rfl).1.1;have GT:=RL (P:=c.P) (w:=c.w) (mg:=c.mg) (base:=c.base) (F 34 _ rfl).1.1;exact OD (i:=73) (N:=Za) 9 (F 59 _ rfl).1.1 GT bT (F 34 _ rfl).1.2 (F 34 _ rfl).2 RP rfl λnd cdv A outer s H E hr=>jU (i:=1) nd rfl (C4 rfl) (xc GT (hr.mono ∎) rfl (F 34 _ rfl).1.2 (F 34 _ rfl).2 bT .nil yP (dF (pv 0) fI))
end
theorem Uq(c:Cv)(F:∀(j:Nat) (d:Ds),dL[j]?=ae d->(Fun c.K d.x d.x (dX d.i) d.f (mZ d)/\c.mg d.x=ae (.ref d.f))/\C3 c.K (.ref d.f)=ai)(z:∀x∈zL,c.mg x=ah)(u0:c.mg "GREATEST_NUMBER"=ae (.int 99 249))(u1:c.mg "GETTING"=ae (.ref 99))(u2:∀H,SqT c.K H 99 ((Ze:List Str).map V.str))(u3:c.mg "GOT"=ae (.ref 185))(u4:hU c.K 185 [("take","takes"),("read","reads"),("look","looks")]):FnOk c.P c.w c.K c.mg c.base dU 10 (Ds.f ⟨73,"law",798,480,1,426,ai,814,7⟩) (mZ ⟨73,"law",798,480,1,426,ai,814,7⟩) Zb (DL.spLaw c.K):=by
 have a__law_draw:=Qc F z u0 u1 u2 u3 u4;have a_kind_of:=SG F z u0 u1 u2 u3 u4;have a_are_alike:=UT F z u0 u1 u2 u3 u4 a_kind_of;have a_is_whole:=ND F z u0 u1 u2 u3 u4;have a_field_fits:=Uo F z u0 u1 u2 u3 u4;have a_fits:=Od F z u0 u1 u2 u3 u4 a_field_fits;have a_next_value:=TY F z u0 u1 u2 u3 u4;have a_field_value:=LQ F z u0 u1 u2 u3 u4 a_next_value;have a_filled:=PL F z u0 u1 u2 u3 u4 a_field_value;have a_first_stand:=Of F z u0 u1 u2 u3 u4;have a_is_within:=Qv F z u0 u1 u2 u3 u4 a_is_whole;have a_next_act:=QA F z u0 u1 u2 u3 u4;have a_gets:=LC F z u0 u1 u2 u3 u4 a_fits a_next_act;have a_gone_on:=SD F z u0 u1 u2 u3 u4;have a_gone_to:=LO F z u0 u1 u2 u3 u4;have a_with_hand:=O4 F z u0 u1 u2 u3 u4;have a_got:=LB F z u0 u1 u2 u3 u4 a_fits a_gets a_gone_on a_gone_to a_with_hand;have a_is_same_value:=K3 F z u0 u1 u2 u3 u4 a_field_value;have a_hand_moved:=S0 F z u0 u1 u2 u3 u4 a_filled a_gone_on a_gone_to a_got a_is_same_value a_next_act a_with_hand;have a_aged:=Qr F z u0 u1 u2 u3 u4;have a_clock_moved:=Ld F z u0 u1 u2 u3 u4 a_aged;have a_after:=VF F z u0 u1 u2 u3 u4 a_clock_moved a_hand_moved a_is_within;have a_first_board:=Up F z u0 u1 u2 u3 u4 a_first_stand;have a_clock_row:=Rv F z u0 u1 u2 u3 u4;have a_hand_row:=QL F z u0 u1 u2 u3 u4 a_gets a_next_act;have a_row_of:=SS F z u0 u1 u2 u3 u4 a_clock_row a_hand_row;have a_went_by:=Mj F z u0 u1 u2 u3 u4;have a_board_behind:=Ry F z u0 u1 u2 u3 u4 a_went_by;have a_logged:=UO F z u0 u1 u2 u3 u4 a_after a_board_behind a_row_of;have a_log_of:=TX F z u0 u1 u2 u3 u4 a_first_board a_logged;have a_mover_told:=NU F z u0 u1 u2 u3 u4;have a_lets_log:=Mu F z u0 u1 u2 u3 u4 a_are_alike a_first_board a_logged a_mover_told;have a_lives:=Kq F z u0 u1 u2 u3 u4 a_went_by;have a_lying:=PH F z u0 u1 u2 u3 u4 a_lives;have a_woven:=Ly F z u0 u1 u2 u3 u4 a_after;have a__law_value:=QE F z u0 u1 u2 u3 u4 a__law_draw;have a__law_size:=RG F z u0 u1 u2 u3 u4 a__law_draw;have a__law_age:=KU F z u0 u1 u2 u3 u4 a__law_draw;have a__law_pattern:=QJ F z u0 u1 u2 u3 u4 a__law_draw a__law_size a__law_value;have a__law_template:=KN F z u0 u1 u2 u3 u4 a__law_draw a__law_size a__law_value;have a__law_term:=Pq F z u0 u1 u2 u3 u4 a__law_draw a__law_value;have a__law_act:=UD F z u0 u1 u2 u3 u4 a__law_age a__law_draw a__law_pattern a__law_template a__law_term;have a__law_program:=Mn F z u0 u1 u2 u3 u4 a__law_act a__law_draw;have a__law_notes:=SO F z u0 u1 u2 u3 u4 a__law_age a__law_draw a__law_size a__law_value;have a__law_plan:=RS F z u0 u1 u2 u3 u4 a__law_draw a__law_notes a__law_program;have a__law_fit:=J9 F z u0 u1 u2 u3 u4;have a__law_filled:=RK F z u0 u1 u2 u3 u4;have a__law_got:=VB F z u0 u1 u2 u3 u4 a__law_fit;have a__law_to:=Oo F z u0 u1 u2 u3 u4;have a__law_hand:=Nr F z u0 u1 u2 u3 u4 a__law_filled a__law_fit a__law_got a__law_to;have a__law_moved:=Ng F z u0 u1 u2 u3 u4 a__law_hand;have a__law_woven:=Rm F z u0 u1 u2 u3 u4 a__law_draw a__law_moved;have a__law_row:=Rf F z u0 u1 u2 u3 u4 a__law_filled a__law_got;have a__law_written:=Va F z u0 u1 u2 u3 u4 a__law_moved a__law_row;have a__law_true:=NR F z u0 u1 u2 u3 u4 a__law_written;have a__law_bent_row:=N3 F z u0 u1 u2 u3 u4 a__law_draw;have a__law_bent:=O7 F z u0 u1 u2 u3 u4 a__law_bent_row a__law_draw;have a__law_lives:=Tq F z u0 u1 u2 u3 u4;exact Om F z u0 u1 u2 u3 u4 a__law_bent a__law_draw a__law_lives a__law_plan a__law_true a__law_woven a__law_written a_first_stand a_lets_log a_lives a_log_of a_lying a_woven
theorem all_K(w:B7)(mg)(fa)(h:Heap)(X:(KK w.params).In h)(G:h.Ns Du mg)(hfa:mg "law"=ae (.ref fa)):
  ∃fd:C1,(∀(s:Ar)(u:Ak),BindsTo s fd ⟨[u],[]⟩ [("_law_script",u)])/\∀base:Heap,(KK w.params).In base->base.Ns Du mg->FnOk pR w (KK w.params) mg base dU 10 fa fd Zb (DL.spLaw (KK w.params)):=by
 have e:=hfa.symm.trans (zg X G 59 ⟨73,"law",798,480,1,426,ai,814,7⟩ rfl).1.2;cases e;exact⟨mZ ⟨73,"law",798,480,1,426,ai,814,7⟩,λs v=>.of_eq rfl,λbase _ _=>Uq ⟨pR,w,KK w.params,mg,base⟩ (λj d e=>zg X G j d e) (zK X G) (PySem.W.mg_of X G (by kernel_rfl)) (PySem.W.mg_of X G (by kernel_rfl)) (λH=>.inr ⟨_,_,_,(show(KK w.params).lookup 99=ae (oT "tuple" (.seq #[(.str "take" 306),(.str "read" 307),(.str "look" 308)] 0)) by kernel_rfl),rfl,rfl,show 3<=Ay by decide,(.cons ⟨_,rfl⟩ (.cons ⟨_,rfl⟩ (.cons ⟨_,rfl⟩ .nil)))⟩) (PySem.W.mg_of X G (by kernel_rfl)) ⟨by decide,_,_,_,(show(KK w.params).lookup 185=ae (oT "dict" (.dict #[(eN w.params "take" 438 (.str "takes" 439)),(eN w.params "read" 440 (.str "reads" 441)),(eN w.params "look" 442 (.str "looks" 443))] 3)) by kernel_rfl),⟨rfl,rfl,rfl⟩,rfl,(.cons rfl ⟨_,rfl⟩ (.cons rfl ⟨_,rfl⟩ (.cons rfl ⟨_,rfl⟩ .nil)))⟩⟩
theorem walk{l:PySem.W.OpenLaw}{d:DefRec}{K:Params->Ag}(hn:l.most=ae 63)(hdf:d.params.defaults=[])
  (hY:∀(w:B7)(h:Heap),YP w h->(K w.params).In h)
  (F:∀(w:B7)(mg:Str->Option Ak)(fa:Addr)(h:Heap),(K w.params).In h->h.Ns Du mg->mg d.name=ae (.ref fa)->
   ∃fd:C1,(∀(s:Ar)(u:Ak),BindsTo s fd ⟨[u],[]⟩ [("_law_script",u)])/\∀base:Heap,(K w.params).In base->base.Ns Du mg->FnOk l.prog w (K w.params) mg base dU 10 fa fd Zb (DL.spLaw (K w.params))):
  PySem.W.WalkO q loose XP YP l.row.toRowW d [] (λf vs=>PySem.call f vs):=
 L2.walk_of (n:=63) (k:=10) (x:="_law_script") (CX:=λ_=>dU) (sp:=λw=>DL.spLaw (K w.params)) hn ∎ hdf ⟨rfl,by decide,by decide,rfl⟩ hY F (λ_ _ a ns hl _ hS=>⟨a,ns,rfl,hS,hl,λ_=>rfl⟩) λ_ _ _ _ _ z=>z
end Nb
open PySem PySem.W PyProof.Rows
set_option maxRecDepth 100000 in
set_option maxHeartbeats 0 in
theorem PySem.Challenge.cw_noteboard_k91_whole_logs_of_weavings_holds : PySem.Challenge.rw_noteboard_k91_whole_logs_of_weavings.Holds := by
 refine holds_law Nb.said_ λsaid=>?_;refine holds_open (q:=Nb.qq) (loose:=Nb.lO) (Xt:=Nb.xT) (XP:=XL Nb.qq []) (Yf:=Hook.obs Nb.hK) (Ya:=Hook.val Nb.hK) (YP:=Hook.says Nb.hK) (d:=Nb.dW) (kwd:=[]) (N:=3000) Nb.left_ (Hook.of Nb.hK) (Hook.keeps Nb.hK) (λs e=>xl_of s (Bool.and_eq_true_iff.mp e).1) XL.keeps (by kernel_rfl) (by kernel_rfl) (by kernel_rfl) (λs e=>recFacts_of (Bool.and_eq_true_iff.mp e).2) (by kernel_rfl) said (by decide +kernel) ⟨rfl,rfl,rfl,rfl,rfl,by decide +kernel⟩ ?hw ?hc
 (case hw=>w_witness2)
 exact Nb.walk (l:=PySem.Challenge.rw_noteboard_k91_whole_logs_of_weavings) (by kernel_rfl) (by kernel_rfl) (λw h Y=>kIn_of Y) Nb.all_K
