import PyProof.Rows.All
import Wide.All
import OpenK.AllK
import Wide.FinOn
import Lean
import PyProof.EqAt
import PyProof.EqKinds
import PyProof.TupleCall
import PyProof.AttrMissHeap
import PyProof.Rows.RegFStrParts
import KE.KRevIter
import KE.KUnpack
import PySem.Challenge.RW_noteboard_k40_two_thousand_stands
set_option compiler.extract_closed false
set_option Elab.async false
set_option linter.all false
set_option maxRecDepth 100000
open PySem renaming wpAny_bind -> Aa, PyData -> Ab, Value -> Ae, Shared -> Ai, wpAny_pure -> Aj, starEach -> Ap, sizeLine -> Ar, wpAny -> Av, Program -> A7, model -> A9, World -> Bi, bootBuiltins -> Bp, Around -> Br, compareOp -> Bu, FuncData -> Bz, wpAny_holding -> B3, wpAny_mono -> B6, behindInMarks -> Ci, wpAny_newObj_type -> Ct, backTo -> Cy, wpAny_callSpecial?_slot -> C2, sysModules -> C5, wpAny_truthy_bool -> De, wpAny_seqItems -> Dh, cLine -> Dj, wpAny_field -> Dn, swapsWith -> Dp, mainGlobals -> D2, wpAny_call_entry -> Ea, strKind -> Eh, Builtin -> Ei, wpAny_pyIter_tuple -> Eo, wpAny_Call_Name_kw -> Ep, binaryOp -> Er, assignEach -> Es, wpAny_loadPart_at -> E5, Scope -> E7, wpAny_passesOwn -> Fs, wpAny_standAt -> Fv, foldedSetIterable -> F0, mem_of_lookup -> F5, sizeLine_eq -> Ga, excClassObj -> Gb, IsPair -> Ge, boot_len -> Gp, codeAny_builtin -> Gq, codeAny -> Gr, wpAny_setField_rec -> Gv, call_meets -> Gw, Params -> Gx, codeAny_mono -> G4, DictEntry -> G9, wpAny_typeNameOfWhole_keyiter -> Ha, sliceBounds -> Hb, wpAny_execs_nil -> Hf, wpAny_isSubtype_exc -> Hj, tupleKind_room_in1 -> Ho, wpAny_binaryOp_repeat_ref -> Hq, wpAny_typeNameOf_keyiter -> Hu
open List renaming length_map -> Ad, getElem?_eq_getElem -> Ag, getElem?_eq_some_iff -> Al, mem_cons_of_mem -> An, getElem?_map -> Aq, mem_cons_self -> Au, mem_cons -> Aw, size_toArray -> Ax, replicate -> Ay, mem_of_getElem? -> A1, length_append -> A2, mem_map -> A3, range -> A5, getElem?_set_ne -> A6, find?_cons -> Bc, set -> Be, length_cons -> Bf, map_cons -> Bg, not_mem_nil -> Bh, append_assoc -> Bk, mem_singleton -> Bn, mem_range -> Bo, getElem?_set_self -> Bq, mem_append_right -> Bt, mem_append -> Bv, map_append -> Bw, mem_iff_getElem? -> B7, length_set -> B8, getElem?_eq_none -> Cb, append_nil -> Cc, nil_append -> Cg, map_map -> Cj, getElem_mem -> Cm, getElem?_set_self' -> Cp, getElem?_replicate -> Cq, getElem?_cons_succ -> Cr, length_take -> C4, length_singleton -> C9, any_cons -> Dd, nodup_cons -> Df, getElem?_cons_zero -> Dk, any_eq_true -> Dl, all_eq_true -> Dm, length_range -> Dr, replicate_succ -> Dx, map_congr_left -> Dy, getElem?_append_left -> D0, prefix_refl -> D4, length_drop -> D5, toArray -> D7, length -> D8, mem_filter -> Ef, foldl_append -> Ew, flatten_cons -> Ex, ext_getElem? -> Ey, pairwise_singleton -> E8, not_lt -> Fc, foldl_cons -> Fi, length_replicate -> Fn, getElem?_zipWith -> Fo, mem_append_left -> Fx, getElem?_append_right -> Fy, getElem_inj -> F3, getElem_of_mem -> F9, of_mem_zip -> Gg, mem_filterMap -> Gh, findIdx?_eq_some_iff_getElem -> Gm, take_of_length_le -> Gs, reverse_cons -> Gt, nodup_append -> Gu, getElem_map -> G3, eq_nil_of_length_eq_zero -> G6, filter_sublist -> G8, mem_replicate -> Hd, pairwise_iff_getElem -> Hk, mem_of_find?_eq_some -> Hl, drop_eq_getElem_cons -> Hm
open PySem.W renaming Frag -> Af, keepIn -> Bx, kia_one -> C7, kitOne -> D6, mg_of -> Et, kas_rev -> E6, fnOf -> Fu, hideAll -> F8, findIn -> Gi
open PySem.Heap renaming get?_push_of_some -> Ah, lt_size -> Ao, get?_push_size -> A0, get?_update_self -> Cn, SameBut -> Dt, size_push -> D9, get?_update_other -> Fg
open Bool renaming false_ne_true -> Ak, and_eq_true -> Bm, false_eq_true -> Ck, eq_iff_iff -> Dg
open Nat renaming le_refl -> Am, zero_le -> Az, ne_of_lt -> A8, le_trans -> Bb, lt_of_lt_of_le -> Bd, le_of_lt_succ -> Dw, ne_of_gt -> Ej, lt_irrefl -> Ek, le_of_lt -> Fh, le_succ -> Fz, lt_of_le_of_lt -> Hh
open PySem.Value renaming ref -> As, none -> B5, type -> Ft, str -> Gy, builtin -> G2
open Option.some renaming inj -> A4
open List.cons renaming inj -> Ba
open And renaming intro -> Bj
open Or renaming inl -> By, inr -> Ca
open PySem.PyData renaming eqv -> B4, canLay0 -> Cf, shownAll -> Da, depth -> Dc, strOk -> Fb, showable -> Ff, canLayAll0 -> Fk, intsShort -> Fw, depthAll -> Gc, weight -> Gz
open PySem.Heap.SameBut renaming update -> B9
open Array renaming length_toList -> Ce, getElem?_eq_getElem -> C6, getElem?_toList -> Fl, toList_inj -> G1
open PySem.Builtin.SmallTypes renaming nextOf -> Co, ownedTupleIsFree -> D1, ownedTupleHandOut -> He
open PyProof.Rows renaming envOfC -> Cu, callWith_type1 -> C8, seqObj -> Di, cps_toList_append -> Eg, slot_tuple_getitem -> Em
open List.Pairwise renaming nil -> Cw
open PySem.Obj renaming mapSeq -> Cz, putSet -> E4, data_mapFields -> Hg
open Option renaming map_eq_some_iff -> C3, isSome_map -> En, isSome_iff_exists -> Eu
open PySem.PyData.tuple renaming inj -> Dq
open Classical renaming byContradiction -> Du
open Sum renaming inr -> Dv
open Int renaming toNat_natCast -> Dz, emod_lt_of_pos -> Hi
open PySem.Paired renaming length -> D3
open PySem.Builtin.Tuple renaming tupleItemsOf -> Eb, tupleExact -> Fp
open True renaming intro -> Ec
open PySem.Str renaming ofString -> E2
open PySem.SetTable renaming grown -> E3
open PySem.Builtin.List renaming listExtendWith -> E9, listTooLong -> G7
open PySem.Builtin.Slice renaming slicePlaces -> Fj, sliceAdjust -> G5
open PySem.Around renaming under_plainId -> Fq
open PySem.AutoSeq1 renaming wpAny_loadPart' -> F4
open PySem.F renaming args_tuple_add_2 -> F6, slot_tuple_iterator_next -> F7, entry_tuple_add -> Gf, slot_tuple_add -> Gj, slot_int_rmul -> Gn
open ForInStep renaming yield -> G0
open PySem.W.Fast renaming te14364793385576792824 -> Hr, te14082659384304107361 -> Hs, te4187177175401517315 -> Ht
open Option renaming some -> ae, none -> af
open Bool renaming true -> ah, false -> ai
noncomputable section
local macro_rules|`(tactic|omega)=>`(tactic|lia)
local macro_rules|`(⋯)=>`(by omega)
local macro_rules|`(∅)=>`(by decide +kernel)
local macro_rules|`(∎)=>`(by decide)
set_option maxHeartbeats 4000000
namespace L2
open PySem PySem.Spec PyProof.Rows
def kM(s:Stmt):Arguments:=match s with
 |.FunctionDef _ a _ _ _ _ _ _ _ _=>a
 |_=>{ posonlyargs:=[],args:=[],vararg:=af,kwonlyargs:=[],kw_defaults:=[],kwarg:=af,defaults:=[]}
def eR(s:Stmt):List Stmt:=match s with
 |.FunctionDef _ _ b _ _ _ _ _ _ _=>b
 |_=>[]
def bw(s:Stmt):E7:=match s with
 |.FunctionDef _ _ _ _ _ _ sc _ _ _=>sc
 |_=>{ kind:=.function,names:=[],isGenerator:=ai,isCoroutine:=ai}
end L2
namespace Nb
open PySem L2
def bh(i:Nat):Stmt:=PySem.Challenge.pw_noteboard_k40_two_thousand_stands.main.body.getD i (.Pass ⟨0,0,0,0⟩)
abbrev Rv:Stmt:=bh 48
abbrev KH:Stmt:=bh 49
abbrev sP:Stmt:=bh 54
abbrev IJ:Stmt:=Rv
abbrev DZ:Stmt:=KH
abbrev oT(t:String)(d:Data):Obj:=⟨.type t,af,d,#[]⟩
structure Ds where
 i:Nat
 x:Str
 t:Nat
 l:Nat
 n:Nat
 r:Nat
 b:Bool
 v:Nat
 m:Nat
abbrev Ds.c(d:Ds):Nat:=if d.b then d.r+5 else d.r+3
abbrev Ds.f(d:Ds):Nat:=if d.b then d.r+6 else d.r+4
abbrev Se(m:Nat):Ae:=[(.str "noteboard.values" 291),(.str "noteboard.patterns" 302),(.str "noteboard.stands" 354),(.str "noteboard.moving" 364),(.str "noteboard.sights" 490),(.str "noteboard.reaching" 511),(.str "noteboard.nevers" 583),(.str "law_noteboard_k40_two_thousand_stands" 596)].getD m .none
abbrev kH(d:Ds):Bz:=Fu d.x d.x (kM (bh d.i)) (eR (bh d.i)) (bw (bh d.i)) .none .none .none (Se d.m) af (.ref d.c) .none
abbrev oF(d:Ds):Obj:=oT "function" (.func (kH d))
abbrev oC(d:Ds):Obj:=oT "code" (.fields #[.str d.x d.t,.str d.x (d.t+1),.str "/claim/cut.py" (d.t+2),.int d.l 0,.int d.n 0,.int 0 0,.int 0 0,.int 3 0,.ref d.r,.bool ah,.int 181 0,.ref (d.r+1),.none,if d.b then .ref (d.r+2)else .none,if d.b then .ref (d.r+3)else .none,.ref (if d.b then d.r+4 else d.r+2),.int d.v 0,.int d.l 0,.str "/claim/cut.py" (d.v+1)])
abbrev oJ:List Ae:=[.type "ValueError",.type "Exception",.type "BaseException",.type "object"]
abbrev oX(x:Str)(C N:Addr)(bs bm sub:List Ae)(k a b:Nat):Obj:=Gb x x C N bs bm ah [] sub ai af af (ae (.ref k)) af (ae (.str x a)) (ae (.str x b)) (ae (.bool ah)) "ValueError.__new__"
abbrev eN(P:Gx)(x:Str)(t:Nat)(v:Ae):G9:=⟨PyData.keyHash P x,.str x t,v⟩
abbrev en(P:Gx)(d:Ds):G9:=eN P d.x (d.v+2) (.ref d.f)
def dL:List Ds:=[⟨8,"is_whole",295,21,1,90,ah,299,0⟩,⟨10,"field_fits",304,24,4,97,ah,312,1⟩,⟨11,"fits",315,37,3,104,ah,325,1⟩,⟨12,"next_value",328,49,1,111,ah,332,1⟩,⟨13,"field_value",335,53,2,118,ah,341,1⟩,⟨14,"filled",344,58,2,125,ai,347,1⟩,⟨17,"is_within",356,63,2,131,ah,361,2⟩,⟨19,"next_act",366,66,3,138,ah,375,3⟩,⟨20,"gets",378,71,3,145,ah,389,3⟩,⟨21,"is_ready",392,83,3,152,ah,399,3⟩,⟨22,"ready",402,88,2,159,ai,405,3⟩,⟨23,"gone_on",408,90,2,164,ah,413,3⟩,⟨24,"gone_to",416,92,3,171,ai,419,3⟩,⟨25,"with_hand",422,95,3,176,ah,428,3⟩,⟨26,"got",431,97,4,183,ah,442,3⟩,⟨27,"is_same_value",445,109,2,190,ah,451,3⟩,⟨28,"hand_moved",454,112,3,197,ah,464,3⟩,⟨29,"aged",467,129,1,204,ah,471,3⟩,⟨30,"clock_moved",474,131,1,211,ai,477,3⟩,⟨31,"after",480,133,3,216,ah,487,3⟩,⟨33,"others_in",492,139,1,223,ah,496,4⟩,⟨34,"how_many_fit",499,143,2,230,ai,502,4⟩,⟨35,"sees",505,145,3,235,ai,508,4⟩,⟨38,"further",515,159,3,240,ah,525,5⟩,⟨39,"steps_from",528,170,2,247,ah,535,5⟩,⟨40,"reached",538,176,2,254,ah,543,5⟩,⟨41,"way_along",546,178,2,261,ah,553,5⟩,⟨42,"first_seeing",556,185,3,268,ah,563,5⟩,⟨43,"way_to",566,190,3,275,ah,574,5⟩,⟨44,"ends",577,194,2,282,ai,580,5⟩,⟨46,"never",585,197,3,287,ah,593,6⟩,⟨48,"_law_tape",598,202,1,294,ah,602,7⟩,⟨49,"_law_draw",605,204,2,301,ah,614,7⟩,⟨50,"_law_straight",617,219,1,308,ah,623,7⟩,⟨51,"_law_sizes",626,227,1,315,ah,632,7⟩,⟨52,"_law_asked",635,233,4,322,ah,645,7⟩,⟨53,"_law_each_once",648,248,2,329,ai,651,7⟩,⟨54,"law",654,250,1,334,ai,657,7⟩]
def KK(P:Gx):Af:=let e:=eN P
 (3,oT "dict" (.dict ([e "__name__" 165 (.str "law_noteboard_k40_two_thousand_stands" 596),e "__doc__" 166 .none,e "__package__" 167 .none,e "__loader__" 168 (.builtin "__main__.__loader__#opaque"),e "__spec__" 169 .none,e "__annotations__" 170 (.ref 6),e "__builtins__" 171 (.ref 4),e "__file__" 173 (.str "/claim/cut.py" 172),e "__cached__" 174 .none,e "BoardError" 206 (.ref 24),e "NoLine" 233 (.ref 44),e "NotReady" 258 (.ref 63),e "TooMany" 274 (.ref 75),e "NoRow" 290 (.ref 87),e "GREATEST_NUMBER" 294 (.int 99 293)]++((dL.drop 0).take 6).map (en P)++[e "GETTING" 353 (.ref 130)]++((dL.drop 6).take 17).map (en P)++[e "MOST_STANDS" 514 (.int 2000 513)]++((dL.drop 23).take 15).map (en P)).toArray 55))::(dL.flatMap λd=>[(d.c,oC d),(d.f,oF d)])++[(130,oT "tuple" (.seq #[(.str "take" 350),(.str "read" 351),(.str "look" 352)] 0)),(2,⟨.none,af,.dict #[] 0,#[]⟩),(23,oT "dict" (.dict #[(e "__module__" 196 (.str "noteboard.errors" 187)),(e "__firstlineno__" 200 (.int 2 199)),(e "__static_attributes__" 201 (.ref 22)),(e "__weakref__" 203 (.ref 25)),(e "__doc__" 204 .none)] 3)),(24,oX "BoardError" 24 23 [.type "ValueError"] oJ [.ref 44,.ref 63,.ref 75,.ref 87] 15 189 197),(43,oT "dict" (.dict #[(e "__module__" 214 (.str "noteboard.errors" 187)),(e "__firstlineno__" 218 (.int 4 217)),(e "__init__" 227 (.ref 41)),(e "__static_attributes__" 230 (.ref 42)),(e "__doc__" 231 .none)] 2)),(44,oX "NoLine" 44 43 [.ref 24] (.ref 24::oJ) [] 28 207 215),(62,oT "dict" (.dict #[(e "__module__" 241 (.str "noteboard.errors" 187)),(e "__firstlineno__" 245 (.int 10 244)),(e "__init__" 253 (.ref 60)),(e "__static_attributes__" 255 (.ref 61)),(e "__doc__" 256 .none)] 2)),(63,oX "NotReady" 63 62 [.ref 24] (.ref 24::oJ) [] 47 234 242),(74,oT "dict" (.dict #[(e "__module__" 266 (.str "noteboard.errors" 187)),(e "__firstlineno__" 270 (.int 15 269)),(e "__static_attributes__" 271 (.ref 73)),(e "__doc__" 272 .none)] 2)),(75,oX "TooMany" 75 74 [.ref 24] (.ref 24::oJ) [] 66 259 267),(86,oT "dict" (.dict #[(e "__module__" 282 (.str "noteboard.errors" 187)),(e "__firstlineno__" 286 (.int 17 285)),(e "__static_attributes__" 287 (.ref 85)),(e "__doc__" 288 .none)] 2)),(87,oX "NoRow" 87 86 [.ref 24] (.ref 24::oJ) [] 78 275 283)]
def aS:List Addr:=3::(dL.flatMap λd=>[d.c,d.f])++[130,2,23,24,43,44,62,63,74,75,86,87]
abbrev pp:A7:=PySem.Challenge.pw_noteboard_k40_two_thousand_stands
abbrev qq:A7:=PySem.W.view pp [54]
def lO:List Str:=(["BoardError","NoLine","NotReady","TooMany","NoRow","GREATEST_NUMBER","is_whole","field_fits","fits","next_value","field_value","filled","GETTING","is_within","next_act","gets","is_ready","ready","gone_on","gone_to","with_hand","got","is_same_value","hand_moved","aged","clock_moved","after","others_in","how_many_fit","sees","MOST_STANDS","further","steps_from","reached","way_along","first_seeing","way_to","ends","never","_law_tape","_law_draw","_law_straight","_law_sizes","_law_asked","_law_each_once"]:List String).map E2
abbrev xT:Ai->Bool:=λs=>PySem.W.xlAt qq [] s&&PySem.W.recOk (PySem.W.RowW.records PySem.Challenge.rw_noteboard_k40_two_thousand_stands.row.toRowW) s
theorem said_:PySem.Challenge.rw_noteboard_k40_two_thousand_stands.wellSaid=ah:=by kernel_rfl
theorem aK:∀P,aS=(KK P).map (·.1):=λP=>by kernel_rfl
abbrev hK:PySem.W.Hook:=PySem.W.kHook KK aS aK
theorem xW{α β:Type}{o:Option α}{f g:α->Option β}{a b:β}(h:o.bind f=ae a)(h':o.bind g=ae b):o.map (λs=>(f s,g s))=ae (ae a,ae b):=by
 cases o with
 |none=>cases h
 |some s=>exact congrArg ae (Prod.ext h h')
theorem SM(w:Bi):(PySem.W.fencedOpening PySem.treeTable pp w 6000).bind (λs₀=>(PySem.W.topFrom PySem.treeTable pp (w.withFollow "special-get-raises" ai) 6000 s₀).map λs=>(PySem.W.openSeen qq lO (importedModules pp.main.body) xT ah s,hK.obs s))=ae (PySem.W.openGood qq lO,hK.val (w.withFollow "special-get-raises" ai)):=by
 unfold PySem.W.topFrom;rw[Hs,Hr,Ht]
 kernel_rfl
theorem N9(w:Bi):(PySem.W.fencedOpening PySem.treeTable pp w 6000).bind (λs₀=>(PySem.W.topFrom PySem.treeTable pp (w.withFollow "special-get-raises" ah) 6000 s₀).map λs=>(PySem.W.openSeen qq lO (importedModules pp.main.body) xT ah s,hK.obs s))=ae (PySem.W.openGood qq lO,hK.val (w.withFollow "special-get-raises" ah)):=by
 unfold PySem.W.topFrom;rw[Hs,Hr,Ht]
 kernel_rfl
theorem left_:PySem.W.LeftO pp qq lO xT hK.obs hK.val 6000:=PySem.W.LeftO.of_split "special-get-raises" λw=>xW (SM w) (N9 w)
def TB(s:Stmt):Pos:=match s with
 |.FunctionDef _ _ _ _ _ _ _ _ _ p=>p
 |_=>⟨0,0,0,0⟩
def dW:DefRec:=⟨"law",kM sP,eR sP,bw sP,TB sP⟩
theorem MM(P):(dL.map λd=>(PySem.W.nsIn (KK P) D2 d.x,(KK P).lookup d.f,PySem.W.codeIn (KK P) (.ref d.c) d.x))=dL.map λd=>(ae (ae (.ref d.f)),ae (oF d),ah):=by kernel_rfl
theorem Io{α β:Type}{f g:α->β}{l:List α}(h:l.map f=l.map g){j:Nat}{a:α}(e:l[j]?=ae a):f a=g a:=by
 have:=congrArg (λl=>l[j]?) h;simp only[Aq,e,Option.map_some]at this;exact A4 this
end Nb
namespace L2
open PySem PySem.Spec PyProof.Rows
abbrev aC:=Sum Int Str
def k7:aC->Ae->Bool
 |.inl k,v=>Value.isInt k v
 |.inr x,v=>Value.isStrOf x v
def kx(w:Bi):aC->Int
 |.inl k=>hashInt k
 |.inr x=>hashStr w x
theorem iL:∀{k:aC}{v:Ae},k7 k v=ah->(∃i t,k=Sum.inl i/\v=Value.int i t)\/(∃x t,k=Dv x/\v=Gy x t)
 |.inl i,v,h=>by
  obtain⟨t,e⟩:=Value.isInt_shape (k:=i) (v:=v) h;exact .inl ⟨i,t,rfl,e⟩
 |.inr x,v,h=>by
  obtain⟨t,e⟩:=Value.isStrOf_shape (x:=x) (v:=v) h;exact .inr ⟨x,t,rfl,e⟩
theorem Sk(i)(t):k7 (.inl i) (.int i t)=ah:=by simp[k7,Value.isInt]
theorem NC(x)(t):k7 (.inr x) (.str x t)=ah:=by simp[k7,Value.isStrOf]
theorem Oa(a b):decide ((Sum.inl a:aC)=Sum.inl b)=(a==b):=by
 by_cases e:a=b
 ·subst e;simp
 ·have h:¬(Sum.inl a:aC)=Sum.inl b:=λq=>e (Sum.inl.inj q);rw[decide_eq_false h];exact(beq_eq_false_iff_ne.mpr e).symm
theorem SJ(a b):decide ((Dv a:aC)=Dv b)=decide (a=b):=by
 by_cases e:a=b
 ·subst e;simp
 ·have h:¬(Dv a:aC)=Dv b:=λq=>e (Sum.inr.inj q);rw[decide_eq_false h,decide_eq_false e]
theorem Pj(a)(b):decide ((Sum.inl a:aC)=Dv b)=ai:=decide_eq_false (λq=>nomatch q)
theorem US(a)(b):decide ((Dv a:aC)=Sum.inl b)=ai:=decide_eq_false (λq=>nomatch q)
def d7(prog:A7)(w:Bi):PySem.KeyKind prog w aC where
 is:=k7
 hash:=kx w
 inj:=λv a b ha hb=>by
  rcases iL ha with⟨i,t,rfl,rfl⟩|⟨x,t,rfl,rfl⟩
  ·rcases iL hb with⟨j,u,rfl,e⟩|⟨y,u,rfl,e⟩
   ·injection e with e1 _;rw[e1]
   ·exact nomatch e
  ·rcases iL hb with⟨j,u,rfl,e⟩|⟨y,u,rfl,e⟩
   ·exact nomatch e
   ·injection e with e1 _;rw[e1]
 byValue:=λk v h=>by
  rcases iL h with⟨i,t,rfl,rfl⟩|⟨x,t,rfl,rfl⟩<;>rfl
 pyHash:=λhv h=>by
  rcases iL hv with⟨i,t,rfl,rfl⟩|⟨x,t,rfl,rfl⟩
  ·exact wpAny_pyHash_int h
  ·exact wpAny_pyHash_str h
 eqBool:=λhu hv h=>by
  rcases iL hu with⟨i,t,rfl,rfl⟩|⟨x,t,rfl,rfl⟩
  ·rcases iL hv with⟨j,u,rfl,rfl⟩|⟨y,u,rfl,rfl⟩
   ·rw[Oa]at h;exact wpAny_eqBool_int h
   ·rw[Pj]at h;exact SeqAt.EqAt.int_str i t y u _ _ _ _ h
  ·rcases iL hv with⟨j,u,rfl,rfl⟩|⟨y,u,rfl,rfl⟩
   ·rw[US]at h;exact SeqAt.EqAt.str_int x t j u _ _ _ _ h
   ·rw[SJ]at h;exact wpAny_eqBool_str h
 «strs»:=λk x t v h=>by
  rcases iL h with⟨i,u,rfl,e⟩|⟨y,u,rfl,e⟩
  ·exact nomatch e
  ·injection e with e1 _;subst e1;cases v<;>rfl
theorem EN(prog)(w)(i)(t):(d7 prog w).is (.inl i) (.int i t)=ah:=Sk i t
theorem CM(prog)(w)(x)(t):(d7 prog w).is (.inr x) (.str x t)=ah:=NC x t
mutual
def bV:Nat->Ab->Bool
 |_,.none=>ah
 |_,.int _=>ah
 |_,.str x=>Fb x
 |n+1,.tuple ds=>eG n ds
 |_,_=>ai
def eG:Nat->List Ab->Bool
 |_,[]=>ah
 |n,d::r=>bV n d&&eG n r
end
mutual
def js(w:Bi):Ab->Int
 |.str x=>kx w (.inr x)
 |.int i=>kx w (.inl i)
 |.none=>0xFCA86420
 |.tuple xs=>reduceHash (Builtin.Tuple.tupleHashOf (oE w xs))
 |_=>0
def oE(w:Bi):List Ab->List Int
 |[]=>[]
 |x::r=>js w x::oE w r
end
mutual
def i7:Ab->Nat
 |.tuple xs=>rA xs+1
 |_=>1
def rA:List Ab->Nat
 |[]=>0
 |x::r=>i7 x+rA r
end
theorem fP(h:bV n d=ah):d=.none\/(∃i,d=.int i)\/(∃x,d=.str x/\Fb x=ah)\/∃m ds,n=m+1/\d=.tuple ds/\eG m ds=ah:=by
 cases d with
 |none=>exact .inl rfl
 |int i=>exact .inr (.inl ⟨i,rfl⟩)
 |str x=>exact .inr (.inr (.inl ⟨x,rfl,by cases n<;>(rw[bV]at h;exact h)⟩))
 |tuple ds=>
  cases n with
  |zero=>rw[bV]at h<;>first|cases h|(intros;simp_all)
  |succ m=>exact .inr (.inr (.inr ⟨m,ds,rfl,rfl,by rw[bV]at h;exact h⟩))
 |_=>cases n<;>(rw[bV]at h<;>first|cases h|(intros;simp_all))
theorem yv:∀(n:Nat){d:Ab},bV n d=ah->Cf d=ah/\Dc d<=n:=by
 intro n
 induction n with
 |zero=>
  intro d h;rcases fP h with rfl|⟨i,rfl⟩|⟨x,rfl,hx⟩|⟨m,ds,e,_⟩
  ·exact⟨rfl,Az _⟩
  ·exact⟨rfl,Az _⟩
  ·exact⟨by rw[Cf];exact hx,Az _⟩
  ·cases e
 |succ n ih=>
  intro d h;rcases fP h with rfl|⟨i,rfl⟩|⟨x,rfl,hx⟩|⟨m,ds,e,rfl,ha⟩
  ·exact⟨rfl,Az _⟩
  ·exact⟨rfl,Az _⟩
  ·exact⟨by rw[Cf];exact hx,Az _⟩
  ·cases e;have:Fk ds=ah/\Gc ds<=n:=by
    clear h
    induction ds with
    |nil=>exact⟨rfl,Az _⟩
    |cons x r ih2=>
     rw[eG,Bm]at ha;obtain⟨a1,a2⟩:=ih2 ha.2;obtain⟨b1,b2⟩:=ih ha.1;exact⟨by rw[Fk,a1,b1];rfl,by rw[Gc];omega⟩
   exact⟨by rw[Cf];exact this.1,by rw[Dc];omega⟩
theorem J6:∀(n:Nat){d e:Ab},bV n d=ah->bV n e=ah->(B4 d e=ah↔d=e):=by
 intro n;have base:∀{d e:Ab},(d=.none\/(∃i,d=.int i)\/∃x,d=.str x)->(e=.none\/(∃i,e=.int i)\/∃x,e=.str x)->(B4 d e=ah↔d=e):=by
  intro d e h g;rcases h with rfl|⟨i,rfl⟩|⟨x,rfl⟩<;>rcases g with rfl|⟨j,rfl⟩|⟨y,rfl⟩<;>simp[B4]
 induction n with
 |zero=>
  intro d e h g;refine base ?_ ?_
  ·rcases fP h with h|h|⟨x,h,_⟩|⟨m,ds,e,_⟩
   ·exact .inl h
   ·exact .inr (.inl h)
   ·exact .inr (.inr ⟨x,h⟩)
   ·cases e
  ·rcases fP g with h|h|⟨x,h,_⟩|⟨m,ds,e,_⟩
   ·exact .inl h
   ·exact .inr (.inl h)
   ·exact .inr (.inr ⟨x,h⟩)
   ·cases e
 |succ n ih=>
  intro d e h g;have key:∀xs ys:List Ab,eG n xs=ah->eG n ys=ah->(PyData.eqvAll xs ys=ah↔xs=ys):=by
   intro xs
   induction xs with
   |nil=>intro ys _ _;cases ys<;>simp[PyData.eqvAll]
   |cons x r ih2=>
    intro ys hx hy;cases ys with
    |nil=>simp[PyData.eqvAll]
    |cons y s=>
     rw[eG,Bm]at hx hy;rw[PyData.eqvAll,Bm,ih hx.1 hy.1,ih2 s hx.2 hy.2,List.cons.injEq]
  rcases fP h with rfl|⟨i,rfl⟩|⟨x,rfl,hx⟩|⟨m,ds,em,rfl,ha⟩<;>rcases fP g with rfl|⟨j,rfl⟩|⟨y,rfl,hy⟩|⟨k,es,ek,rfl,hb⟩
  ·exact base (.inl rfl) (.inl rfl)
  ·exact base (.inl rfl) (.inr (.inl ⟨_,rfl⟩))
  ·exact base (.inl rfl) (.inr (.inr ⟨_,rfl⟩))
  ·simp[B4]
  ·exact base (.inr (.inl ⟨_,rfl⟩)) (.inl rfl)
  ·exact base (.inr (.inl ⟨_,rfl⟩)) (.inr (.inl ⟨_,rfl⟩))
  ·exact base (.inr (.inl ⟨_,rfl⟩)) (.inr (.inr ⟨_,rfl⟩))
  ·simp[B4]
  ·exact base (.inr (.inr ⟨_,rfl⟩)) (.inl rfl)
  ·exact base (.inr (.inr ⟨_,rfl⟩)) (.inr (.inl ⟨_,rfl⟩))
  ·exact base (.inr (.inr ⟨_,rfl⟩)) (.inr (.inr ⟨_,rfl⟩))
  ·simp[B4]
  ·simp[B4]
  ·simp[B4]
  ·simp[B4]
  ·cases em;cases ek;rw[B4,key ds es ha hb,PyData.tuple.injEq]
theorem MG:∀(n:Nat){h:Heap}{v:Ae}{d e:Ab}{as bs:List Addr},bV n d=ah->bV n e=ah->Reads h v d as->Reads h v e bs->d=e:=by
 intro n
 induction n with
 |zero=>
  intro h v d e as bs hd he r1 r2;rcases fP hd with rfl|⟨i,rfl⟩|⟨x,rfl,_⟩|⟨m,ds,z,_⟩
  ·cases r1;cases r2;rfl
  ·cases r1;cases r2;rfl
  ·cases r1;cases r2;rfl
  ·cases z
 |succ n ih=>
  intro h v d e as bs hd he r1 r2;rcases fP hd with rfl|⟨i,rfl⟩|⟨x,rfl,_⟩|⟨m,ds,z,rfl,hds⟩
  ·cases r1;cases r2;rfl
  ·cases r1;cases r2;rfl
  ·cases r1;cases r2;rfl
  ·cases z;rcases fP he with rfl|⟨i,rfl⟩|⟨x,rfl,_⟩|⟨m,es,z,rfl,hes⟩
   ·cases r2;cases r1
   ·cases r2;cases r1
   ·cases r2;cases r1
   ·cases z;cases r1 with
    |tuple a1 a2 a3 a4=>
     cases r2 with
     |tuple b1 b2 b3 b4=>
      cases A4 (a1.symm.trans b1);rw[a3]at b3;injection b3 with b3 _;subst b3;have:∀{vs:List Ae}{xs ys:List Ab}{as bs:List Addr},eG n xs=ah->eG n ys=ah->ReadsAll h vs xs as->ReadsAll h vs ys bs->xs=ys:=by
       intro vs
       induction vs with
       |nil=>intro xs ys as bs _ _ q1 q2;cases q1;cases q2;rfl
       |cons v r ih2=>
        intro xs ys as bs t1 t2 q1 q2;cases q1 with
        |cons p1 p2=>
         cases q2 with
         |cons s1 s2=>
          rw[eG,Bm]at t1 t2;rw[ih t1.1 t2.1 p1 s1,ih2 t1.2 t2.2 p2 s2]
      rw[this hds hes a4 b4]
theorem RZ:∀(n:Nat){h h':Heap}{v:Ae}{d:Ab}{as:List Addr}{dd:Addr}{o:Obj}{es:Array G9}{ep:Nat},bV n d=ah->Reads h v d as->h.get? dd=ae o->o.data=.dict es ep->Dt dd h h'->Reads h' v d as:=by
 intro n
 induction n with
 |zero=>
  intro h h' v d as dd o es ep hd r1 ho hdt hs;rcases fP hd with rfl|⟨i,rfl⟩|⟨x,rfl,_⟩|⟨m,ds,z,_⟩
  ·cases r1;exact .none
  ·cases r1;exact .int _ _
  ·cases r1;exact .str _ _
  ·cases z
 |succ n ih=>
  intro h h' v d as dd o es ep hd r1 ho hdt hs;rcases fP hd with rfl|⟨i,rfl⟩|⟨x,rfl,_⟩|⟨m,ds,z,rfl,hds⟩
  ·cases r1;exact .none
  ·cases r1;exact .int _ _
  ·cases r1;exact .str _ _
  ·cases z;cases r1 with
   |@tuple a o' vs k _ _ a1 a2 a3 a4=>
    have hne:a≠dd:=by
     rintro rfl
     cases A4 (a1.symm.trans ho);rw[hdt]at a3;exact nomatch a3
    have:∀{vs:List Ae}{xs:List Ab}{as:List Addr},eG n xs=ah->ReadsAll h vs xs as->ReadsAll h' vs xs as:=by
     intro vs
     induction vs with
     |nil=>intro xs as _ q1;cases q1;exact .nil
     |cons v r ih2=>
      intro xs as t1 q1;cases q1 with
      |cons p1 p2=>
       rw[eG,Bm]at t1;exact .cons (ih t1.1 p1 ho hdt hs) (ih2 t1.2 p2)
    exact .tuple ((hs.2 a hne).trans a1) a2 a3 (this hds a4)
section
variable{prog:A7}{w:Bi}{E:Ae->Ai->Prop}
theorem ze(ih:∀{A:Br} {s:Ai} {v:Ae} {d:Ab} {as:List Addr} {Q:Int->Ai->Prop},A.units+n < Dj->bV n d=ah->Reads s.heap v d as->Q (js w d) {s with toks:=s.toks+i7 d}->Av (A9 prog w) A (pyHash v) Q E s):
  ∀(xs:List Ab)(vs:List Ae)(as:List Addr)(A:Br)(s:Ai)(b:Array Int)(Q:Array Int->Ai->Prop),eG n xs=ah->ReadsAll s.heap vs xs as->A.units+n < Dj->
  (∀b',b'.toList=b.toList++oE w xs->Q b' {s with toks:=s.toks+rA xs})->
  Av (A9 prog w) A (forIn vs b λx r=>do let h <-pyHash x;pure PUnit.unit;pure (G0 (r.push h))) Q E s
 |[],_,as,A,s,b,Q,_,x,_,h=>by cases x;exact Aj (h b (by simp[oE]))
 |k::xs,_,as,A,s,b,Q,hk,x,hu,h=>by
  cases x with
  |cons x1 x2=>
   rw[eG,Bm]at hk;rw[List.forIn_cons];refine Aa (Aa (ih hu hk.1 x1 ?_));refine Aa (Aj (Aj ?_));refine ze ih xs _ _ A _ _ Q hk.2 x2 hu λb' hb=>?_;have:=h b' (by simp[hb,oE]);rw[rA,<-Nat.add_assoc]at this;exact this
theorem Mz:∀(n:Nat){A:Br}{s:Ai}{v:Ae}{d:Ab}{as:List Addr}{Q:Int->Ai->Prop},A.units+n < Dj->bV n d=ah->Reads s.heap v d as->Q (js w d) {s with toks:=s.toks+i7 d}->Av (A9 prog w) A (pyHash v) Q E s:=by
 intro n;have leaf:∀{A:Br}{s:Ai}{v:Ae}{d:Ab}{as:List Addr}{Q:Int->Ai->Prop},A.units < Dj->(d=.none\/(∃i,d=.int i)\/∃x,d=.str x)->Reads s.heap v d as->Q (js w d) {s with toks:=s.toks+i7 d}->Av (A9 prog w) A (pyHash v) Q E s:=by
  intro A s v d as Q hu hd r q;rcases hd with rfl|⟨i,rfl⟩|⟨x,rfl⟩
  ·cases r;exact W.pyHash_slot (T:="NoneType") rfl F.slot_NoneType_hash F.entry_NoneType_hash (F.args_NoneType_hash_1 _) (beq_builtin_none _) (.inr hu) (Aa (Aj (Aa (wpAny_mkInt (Aj ⟨_,_,rfl,by rw[js,i7]at q<;>first|exact q|(intros;simp_all)⟩)))))
  ·cases r;rw[js,i7]at q
   ·exact(d7 prog w).pyHash (k:=.inl i) (EN prog w _ _) q
   all_goals (intros;simp_all)
  ·cases r;rw[js,i7]at q
   ·exact(d7 prog w).pyHash (k:=.inr x) (CM prog w _ _) q
   all_goals (intros;simp_all)
 induction n with
 |zero=>
  intro A s v d as Q hu hd r q;refine leaf hu ?_ r q;rcases fP hd with h|h|⟨x,h,_⟩|⟨m,ds,e,_⟩
  ·exact .inl h
  ·exact .inr (.inl h)
  ·exact .inr (.inr ⟨x,h⟩)
  ·cases e
 |succ n ih=>
  intro A s v d as Q hu hd r q;rcases fP hd with h|h|⟨x,h,_⟩|⟨m,ds,z,rfl,hds⟩
  ·exact leaf ⋯ (.inl h) r q
  ·exact leaf ⋯ (.inr (.inl h)) r q
  ·exact leaf ⋯ (.inr (.inr ⟨x,h⟩)) r q
  ·cases z;cases r with
   |@tuple a o vs k _ _ a1 a2 a3 a4=>
    refine W.pyHash_slot (T:="tuple") ⟨o,a1,a2⟩ F.slot_tuple_hash F.entry_tuple_hash (F.args_tuple_hash_1 _) (beq_builtin_none _) (.inr ⋯) ?_;show Av _ _ (Eb (.ref a)>>=_) _ _ s;refine Aa (wpAny_tupleItemsOf a1 a3 ?_);refine Aa ?_;rw[<-Array.forIn_toList];refine ze ih ds vs.toList _ A.in1 s #[] _ hds a4 (by simp only[Around.in1_units];omega) λb hb=>?_;show Av _ _ (retInt (Builtin.Tuple.tupleHashOf b.toList)) _ _ _;rw[hb];refine Aa (wpAny_mkInt (Aj ⟨_,_,rfl,?_⟩));rw[js,i7]at q;rw[<-Nat.add_assoc]at q;exact q
theorem Rt:∀(n m:Nat){A:Br}{s:Ai}{v:Ae}{d:Ab}{as:List Addr}{Q:Bool->Ai->Prop},n<=m->bV n d=ah->Reads s.heap v d as->Q ah s->Av (A9 prog w) A (eqIsQuiet m v) Q E s:=by
 intro n;have leaf:∀{m:Nat}{A:Br}{s:Ai}{v:Ae}{d:Ab}{as:List Addr}{Q:Bool->Ai->Prop},(d=.none\/(∃i,d=.int i)\/∃x,d=.str x)->Reads s.heap v d as->Q ah s->Av (A9 prog w) A (eqIsQuiet m v) Q E s:=by
  intro m A s v d as Q hd r q;have hb:carriedByValue v=ah:=by
   rcases hd with rfl|⟨i,rfl⟩|⟨x,rfl⟩<;>cases r<;>rfl
  rw[eqIsQuiet_byValue _ hb];exact Aj q
 induction n with
 |zero=>
  intro m A s v d as Q _ hd r q;refine leaf ?_ r q;rcases fP hd with h|h|⟨x,h,_⟩|⟨m,ds,e,_⟩
  ·exact .inl h
  ·exact .inr (.inl h)
  ·exact .inr (.inr ⟨x,h⟩)
  ·cases e
 |succ n ih=>
  intro m A s v d as Q hm hd r q;rcases fP hd with h|h|⟨x,h,_⟩|⟨m',ds,z,rfl,hds⟩
  ·exact leaf (.inl h) r q
  ·exact leaf (.inr (.inl h)) r q
  ·exact leaf (.inr (.inr ⟨x,h⟩)) r q
  ·cases z;obtain⟨m,rfl⟩:∃k,m=k+1:=⟨m-1,by omega⟩;cases r with
   |@tuple a o vs k _ _ a1 a2 a3 a4=>
    have hT:s.TypeIs (.ref a) "tuple":=⟨o,a1,a2⟩;unfold eqIsQuiet;refine Aa (wpAny_specialOf hT F.slot_tuple_eq.lookup ?_);show Av _ _ (isInstance (.ref a) (.type "tuple")>>=_) _ _ s;refine Aa (wpAny_isInstance hT isSubtype_tuple_tuple ?_);simp only[Bool.not_true,Ck,if_false];refine Aa (Dh a1 a3 ?_);refine Aa ?_;show Av _ _ (forIn vs _ _) _ _ s;rw[<-Array.forIn_toList];refine wpAny_forIn_list _ (λrest r s'=>r.1=af/\s'=s/\∃xs bs,eG n xs=ah/\ReadsAll s.heap rest xs bs) _ ?_ ?_ _ _ ⟨rfl,rfl,ds,_,hds,a4⟩
    ·rintro v rest r s' ⟨hr,rfl,xs,bs,hx,hr2⟩
     cases hr2 with
     |cons p1 p2=>
      rw[eG,Bm]at hx;refine Aa (ih m ⋯ hx.1 p1 ?_);simp only[Bool.not_true,Ck,if_false];exact Aj ⟨rfl,rfl,_,_,hx.2,p2⟩
    ·rintro⟨r1,r2⟩ s' ⟨hr,rfl,_⟩
     simp only at hr;subst hr;exact Aj q
end
def TK:Type:={ d:Ab // bV 6 d=ah}
instance:DecidableEq TK:=λ_ _=>Classical.propDecidable _
def jr(prog:A7)(w:Bi):HeapKind prog w TK where
 is:=λh k a=>∃as,Reads h (.ref a) k.1 as
 hash:=λk=>js w k.1
 draws:=λk=>i7 k.1
 room:=λA=>A.units+16 < Dj
 inj:=λ{h a x y} hx hy=>by
  obtain⟨as,r1⟩:=hx;obtain⟨bs,r2⟩:=hy;exact Subtype.ext (MG 6 x.2 y.2 r1 r2)
 keeps:=λ{h h' k a d o es ep} x ho hd hs=>by
  obtain⟨as,r⟩:=x;exact⟨as,RZ 6 k.2 r ho hd hs⟩
 pyHash:=λ{A E s k a Q} hu hk h=>by
  obtain⟨as,r⟩:=hk;exact Mz 6 ⋯ k.2 r h
 eqBool:=λ{A E s x y a b Q} hu hx hy h=>by
  obtain⟨as,r1⟩:=hx;obtain⟨bs,r2⟩:=hy;have l1:=yv 6 x.2;have l2:=yv 6 y.2;refine SeqAt.eqAt_reads x.1 y.1 A s _ _ _ _ r1 r2 l1.1 l2.1 ⋯ prog w E Q ?_;have e:B4 x.1 y.1=decide (x=y):=by
   rw[Dg,J6 6 x.2 y.2,decide_eq_true_iff];exact⟨Subtype.ext,λh=>by rw[h]⟩
  rw[e];exact h
 quiet:=λ{A E s k a Q} hk h=>by
  obtain⟨as,r⟩:=hk;exact Rt 6 8 ∎ k.2 r h
inductive V where
 |non|bl (b:Bool)|int (i:Int)|str (x:Str)|byt (b:Array UInt8)|flt (b:UInt64)|ref (a:Addr)|ty (n:String)
 deriving DecidableEq
def RelV:V->Ae->Prop
 |.non,u=>u=B5
 |.bl b,u=>u=Value.bool b
 |.int i,u=>∃t,u=Value.int i t
 |.str x,u=>∃t,u=Gy x t
 |.byt b,u=>∃t,u=Value.bytes b t
 |.flt b,u=>∃t,u=Value.float b t
 |.ref a,u=>u=As a
 |.ty n,u=>u=Ft n
abbrev Vals:List V->List Ae->Prop:=Paired RelV
theorem Vals.length(r:Vals xs us):xs.length=us.length:=D3 r
theorem Vals.get:∀{xs:List V}{us:List Ae}{i:Nat}{x:V},Vals xs us->xs[i]?=ae x->∃u,us[i]?=ae u/\RelV x u
 |_,_,_,_,.nil,e=>by simp at e
 |_,_,0,_,.cons r _,e=>by simp at e;subst e;exact⟨_,rfl,r⟩
 |_,_,i+1,x,.cons _ t,e=>by
  obtain⟨u,h1,h2⟩:=Vals.get (i:=i) (x:=x) t (by simpa using e);exact⟨u,by simpa using h1,h2⟩
theorem Vals.set(r:RelV x u):∀{xs:List V}{us:List Ae}(i:Nat),Vals xs us->Vals (xs.set i x) (us.set i u)
 |_,_,_,.nil=>.nil
 |_,_,0,.cons _ t=>.cons r t
 |_,_,i+1,.cons q t=>.cons q (Vals.set r i t)
theorem Vals.append:∀{xs ys:List V}{us ws:List Ae},Vals xs us->Vals ys ws->Vals (xs++ys) (us++ws)
 |_,_,_,_,.nil,s=>s
 |_,_,_,_,.cons r t,s=>.cons r (Vals.append t s)
theorem Vals.take:∀{xs:List V}{us:List Ae}(n:Nat),Vals xs us->Vals (xs.take n) (us.take n)
 |_,_,0,_=>.nil
 |_,_,_+1,.nil=>.nil
 |_,_,n+1,.cons r t=>.cons r (Vals.take n t)
theorem Vals.drop:∀{xs:List V}{us:List Ae}(n:Nat),Vals xs us->Vals (xs.drop n) (us.drop n)
 |_,_,0,r=>r
 |_,_,_+1,.nil=>.nil
 |_,_,n+1,.cons _ t=>Vals.drop n t
def RelO:Option V->Option Ae->Prop
 |some v,ae u=>RelV v u
 |none,af=>True
 |_,_=>False
def KV{κ:Type}:List (κ×V)->List (κ×Ae)->Prop:=Paired λ(p:κ×V)(q:κ×Ae)=>p.1=q.1/\RelV p.2 q.2
def kV:aC->V
 |.inl i=>.int i
 |.inr x=>.str x
inductive HO where
 |lst (xs:List V)
 |tup (xs:List V)
 |dK (kvs:List (aC×V))|dT (kvs:List (List aC×V))
 |dX (ps:List (TK×Addr×V))
 |set (S:Int->Bool) (n:Nat)
 |ins (C dx:Addr) (fs:List (Str×V))
 |own (x:Addr)
 |xd (fs:List (Str×V))
 |met (f x:Addr)
 |rng (lo hi:Int)
 |frz (o:Obj) (u:HO)
 |tbl (ps:Array Ae)
 |ext (φ:Heap->Prop)
abbrev Hp:=Addr->Option HO
def upd(H:Hp)(a:Addr)(o:HO):Hp:=λb=>if b=a then ae o else H b
theorem aR:upd H a o a=ae o:=by unfold upd;rw[if_pos rfl]
theorem aD(h:b≠a):upd H a o b=H b:=by unfold upd;rw[if_neg h]
theorem xG:upd (upd H a o) a u=upd H a u:=by
 funext b;unfold upd;split<;>rfl
theorem AS{H:Hp}(h:H a=ae o)(h':H b=ae u)(d:o≠u):a≠b:=by
 intro e;subst e;rw[h]at h';exact d (A4 h')
theorem aY{H:Hp}(h:H a=ae o)(h':H b=af):a≠b:=by
 intro e;subst e;rw[h]at h';cases h'
def IsTupP(h:Heap)(a:Addr)(items:Array Ae):Prop:=∃o,h.get? a=ae o/\o.cls=.type "tuple"/\(∃n,o.data=.seq items n)/\o.dict=af
theorem IsTupP.tup(x:IsTupP h a items):IsTup h a items:=let⟨o,e,c,d,_⟩:=x;⟨o,e,c,d⟩
theorem IsTupP.lt(x:IsTupP h a items):a < h.objs.size:=let⟨_,e,_⟩:=x;Ao e
theorem IsTupP.new(h:Heap)(items):IsTupP (h.push {cls:=.type "tuple",data:=.seq items}) h.objs.size items:=⟨_,A0 _ rfl,rfl,⟨_,rfl⟩,rfl⟩
section
variable(P:A7)(w:Bi)
def ObjOk(H:Hp)(h:Heap)(a:Addr):HO->Prop
 |.lst xs=>xs.length<=Ar/\∃(its:List Ae)(n:Nat),Vals xs its/\h.get? a=ae {cls:=.type "list",data:=.seq its.toArray n}
 |.tup xs=>xs.length<=Ar/\∃its:List Ae,Vals xs its/\IsTupP h a its.toArray
 |.dK kvs=>kvs.length<=Ar/\(a==C5)=ai/\∃vs,KV kvs vs/\h.DictOf (d7 P w) a vs
 |.dT kvs=>kvs.length<=Ar/\(a==C5)=ai/\∃xs:List (List aC×Addr×Ae),
   Paired (λ(p:List aC×V)(q:List aC×Addr×Ae)=>p.1=q.1/\H q.2.1=ae (.tup (p.1.map kV))/\RelV p.2 q.2.2) kvs xs /\
   ∃o es ep,h.get? a=ae o/\o.ExactDict/\o.data=.dict es ep/\es.toList=xs.map (entryOfKey (tupleKind (d7 P w)))/\(xs.map (·.1)).Nodup
 |.dX ps=>ps.length<=Ar/\(a==C5)=ai/\∃xs:List (TK×Addr×Ae),Paired (λ(p:TK×Addr×V)(q:TK×Addr×Ae)=>p.1=q.1/\p.2.1=q.2.1/\RelV p.2.2 q.2.2) ps xs /\
   ∃o es ep,h.get? a=ae o/\o.ExactDict/\o.data=.dict es ep/\es.toList=xs.map (entryOfKey (jr P w))/\(xs.map (·.1)).Nodup
 |.set S n=>h.SetOf (intKind P w) a S n
 |.ins C dx fs=>H dx=ae (.own a)/\fs.length<=1000/\dx≠a/\h.get? a=ae (PySem.W.instObj C dx) /\
   ∃mA,h.Ns1 dx mA/\(∀f,RelO (fs.lookup f) (mA f))/\PySem.Within mA (fs.map (·.1))
 |.own _=>∃o,h.get? a=ae o
 |.xd fs=>∃mA,h.Ns1 a mA/\∀f,RelO (fs.lookup f) (mA f)
 |.rng lo hi=>∃t u v,h.get? a=ae {cls:=.type "range",data:=.fields #[.int lo t,.int hi u,.int 1 v]}
 |.frz o u=>h.get? a=ae o/\ObjOk H h a u
 |.tbl ps=>h.get? a=ae {cls:=.none,data:=.fields ps}
 |.met f x=>h.get? a=ae (PySem.W.methodObj (.ref f) (.ref x))
 |.ext φ=>φ h/\(∃o,h.get? a=ae o)/\∀h1 h2:Heap,φ h1->(∀o,h1.get? a=ae o->h2.get? a=ae o)->φ h2
def HOk(H:Hp)(h:Heap):Prop:=∀a o,H a=ae o->ObjOk P w H h a o
end
section
variable{P:A7}{w:Bi}{H H':Hp}{h h':Heap}{a:Addr}{o:HO}
theorem ObjOk.lt(x:ObjOk P w H h a o):a < h.objs.size:=by
 cases o with
 |lst xs=>obtain⟨_,_,_,_,e⟩:=x;exact Ao e
 |tup xs=>obtain⟨_,_,_,p⟩:=x;exact p.lt
 |dK kvs=>obtain⟨_,_,_,_,o,_,_,e,_⟩:=x;exact Ao e
 |dT kvs=>obtain⟨_,_,_,_,o,_,_,e,_⟩:=x;exact Ao e
 |dX ps=>obtain⟨_,_,_,_,o,_,_,e,_⟩:=x;exact Ao e
 |set S n=>obtain⟨o,_,_,_,e,_⟩:=x;exact Ao e
 |ins C dx fs=>obtain⟨_,_,_,e,_⟩:=x;exact Ao e
 |own y=>obtain⟨_,e⟩:=x;exact Ao e
 |xd fs=>obtain⟨_,⟨_,_,_,e,_⟩,_⟩:=x;exact Ao e
 |rng lo hi=>obtain⟨_,_,_,e⟩:=x;exact Ao e
 |frz ob u=>obtain⟨e,_⟩:=x;exact Ao e
 |tbl ps=>exact Ao (show h.get? a=ae _ from x)
 |met f y=>exact Ao (show h.get? a=ae _ from x)
 |ext φ=>obtain⟨_,⟨_,e⟩,_⟩:=x;exact Ao e
theorem Paired.mapP:∀{l₁:List α}{l₂:List β},Paired F l₁ l₂->(∀a b,F a b->G a b)->Paired G l₁ l₂
 |_,_,.nil,_=>.nil
 |_,_,.cons r t,f=>.cons (f _ _ r) (Paired.mapP t f)
theorem ObjOk.stay(x:ObjOk P w H h a o)(k:∀b u,(b=a\/H b=ae (.own a))->h.get? b=ae u->h'.get? b=ae u)
  (ho:∀b,H b=ae (.own a)->H' b=ae (.own a)) (ht:∀b xs,H b=ae (.tup xs)->H' b=ae (.tup xs)):ObjOk P w H' h' a o:=by
 induction o with
 |lst xs=>obtain⟨z,its,n,r,e⟩:=x;exact⟨z,its,n,r,k _ _ (.inl rfl) e⟩
 |tup xs=>obtain⟨z,its,r,ob,e,c⟩:=x;exact⟨z,its,r,ob,k _ _ (.inl rfl) e,c⟩
 |dK kvs=>obtain⟨z,y,vs,r,ob,es,ep,e,c⟩:=x;exact⟨z,y,vs,r,ob,es,ep,k _ _ (.inl rfl) e,c⟩
 |dT kvs=>
  obtain⟨z,y,xs,r,ob,es,ep,e,c⟩:=x;exact⟨z,y,xs,Paired.mapP r λp q z=>⟨z.1,ht _ _ z.2.1,z.2.2⟩,ob,es,ep,k _ _ (.inl rfl) e,c⟩
 |dX ps=>
  obtain⟨z,y,xs,r,ob,es,ep,e,c⟩:=x;exact⟨z,y,xs,r,ob,es,ep,k _ _ (.inl rfl) e,c⟩
 |set S n=>obtain⟨ob,es,ep,t,e,c⟩:=x;exact⟨ob,es,ep,t,k _ _ (.inl rfl) e,c⟩
 |ins C dx fs=>
  obtain⟨d,z,ne,e,mA,⟨od,es,ep,e2,c⟩,r⟩:=x;exact⟨ho _ d,z,ne,k _ _ (.inl rfl) e,mA,⟨od,es,ep,k _ _ (.inr d) e2,c⟩,r⟩
 |own y=>obtain⟨ob,e⟩:=x;exact⟨ob,k _ _ (.inl rfl) e⟩
 |xd fs=>obtain⟨mA,⟨od,es,ep,e,c⟩,r⟩:=x;exact⟨mA,⟨od,es,ep,k _ _ (.inl rfl) e,c⟩,r⟩
 |rng lo hi=>obtain⟨t,u,v,e⟩:=x;exact⟨t,u,v,k _ _ (.inl rfl) e⟩
 |frz ob u ih=>obtain⟨e,q⟩:=x;exact⟨k _ _ (.inl rfl) e,ih q⟩
 |tbl ps=>
  have e:h.get? a=ae {cls:=.none,data:=.fields ps}:=x;show h'.get? a=ae {cls:=.none,data:=.fields ps};exact k a _ (.inl rfl) e
 |met f y=>
  have e:h.get? a=ae (PySem.W.methodObj (.ref f) (.ref y)):=x;show h'.get? a=ae (PySem.W.methodObj (.ref f) (.ref y));exact k a _ (.inl rfl) e
 |ext φ=>obtain⟨p,⟨o,e⟩,st⟩:=x;exact⟨st _ _ p λo q=>k _ _ (.inl rfl) q,⟨o,k _ _ (.inl rfl) e⟩,st⟩
theorem HOk.lt(x:HOk P w H h)(e:H a=ae o):a < h.objs.size:=(x a o e).lt
theorem HOk.fresh(x:HOk P w H h)(e:h.objs.size<=a):H a=af:=by
 cases q:H a with
 |none=>rfl
 |some u=>exact absurd (Bd (x.lt q) e) (Ek _)
theorem HOk.kept(x:HOk P w H h)(k:∀b u,h.get? b=ae u->h'.get? b=ae u):HOk P w H h':=λa o e=>
 (x a o e).stay (λb u _ q=>k b u q) (λ_ q=>q) λ_ _ q=>q
theorem HOk.laid(x:HOk P w H h)(k:∀b u,h.get? b=ae u->h'.get? b=ae u)(hp:h.objs.size<=a)(new:ObjOk P w (upd H a o) h' a o):HOk P w (upd H a o) h':=λb u e=>by
 have hn:=x.fresh hp;by_cases hb:b=a
 ·subst hb;rw[aR]at e;cases e;exact new
 ·rw[aD hb]at e;exact(x b u e).stay (λc v _ q=>k c v q) (λc q=>by rw[aD (aY q hn)];exact q) λc xs q=>by rw[aD (aY q hn)];exact q
end
def Rd(H:Hp)(a:Addr)(u:HO):Prop:=H a=ae u\/∃o,H a=ae (.frz o u)
theorem Rd.ok(r:Rd H a u)(x:HOk P w H h):ObjOk P w H h a u:=by
 rcases r with r|⟨o,r⟩
 ·exact x a u r
 ·obtain⟨_,q⟩:=x a _ r;exact q
def nK:Option HO->Prop
 |some (.lst _)=>True
 |some (.dK _)=>True
 |some (.dT _)=>True
 |some (.dX _)=>True
 |some (.set _ _)=>True
 |some (.ins _ _ _)=>True
 |some (.ext _)=>True
 |_=>False
section
variable{P:A7}{w:Bi}{H:Hp}{h h':Heap}{x e:Addr}{o':HO}
theorem HOk.write(ok:HOk P w H h)(mu:nK (H x))(he:e=x\/H e=ae (.own x))(k:∀b u,b≠e->h.get? b=ae u->h'.get? b=ae u)(heo:∃u,h'.get? e=ae u)
  (new:ObjOk P w (upd H x o') h' x o'):HOk P w (upd H x o') h':=λb u q=>by
 have nown:∀c y,H c=ae (.own y)->c≠x:=λc y r z=>by subst z;rw[r]at mu;exact mu
 have ntup:∀c xs,H c=ae (.tup xs)->c≠x:=λc xs r z=>by subst z;rw[r]at mu;exact mu
 by_cases hb:b=x
 ·subst hb;rw[aR]at q;cases q;exact new
 ·rw[aD hb]at q;by_cases hbe:b=e
  ·have q':H b=ae (.own x):=by
    rcases he with z|z
    ·exact absurd (hbe.trans z) hb
    ·rw[hbe];exact z
   rw[q]at q';cases q';obtain⟨v,hv⟩:=heo;exact⟨v,by rw[hbe];exact hv⟩
  ·refine(ok b u q).stay (λc v hc r=>k c v ?_ r) (λc r=>by rw[aD (nown c b r)];exact r) λc xs r=>by rw[aD (ntup c xs r)];exact r
   rcases hc with rfl|hc
   ·exact hbe
   ·rintro rfl
    rcases he with z|z
    ·exact nown c b hc z
    ·rw[hc]at z;cases z;exact hb rfl
end
structure Un(fs ex:List Addr)(H H':Hp)(h h':Heap):Prop where
 keep:∀b o,h.get? b=ae o->H b=af->b∉fs->b∉ex->h'.get? b=ae o
 slot:∀b o,h.get? b=ae o->H b=af->b∈fs->b∉ex->∃sl,h'.get? b=ae {o with slots:=sl}
 free:∀b o,h.get? b=ae o->H b=af->b∉ex->H' b=af
 there:∀b o,h.get? b=ae o->b∉ex->∃o',h'.get? b=ae o'
 tups:∀b xs,H b=ae (.tup xs)->H' b=ae (.tup xs)
 frzs:∀b o u,H b=ae (.frz o u)->H' b=ae (.frz o u)
 tbls:∀b ps,H b=ae (.tbl ps)->∃more,H' b=ae (.tbl (ps++more))
section
variable{fs fs' ex ex':List Addr}{H H1 H2:Hp}{h h1 h2 h':Heap}{a x e:Addr}{o:HO}
theorem Un.any(u:Un fs ex H H1 h h1)(q:h.get? b=ae ob)(n:H b=af)(hx:b∉ex):∃sl,h1.get? b=ae {ob with slots:=sl}:=by
 by_cases hb:b∈fs
 ·exact u.slot b ob q n hb hx
 ·exact⟨ob.slots,u.keep b ob q n hb hx⟩
theorem Un.kept(k:∀b u,h.get? b=ae u->h'.get? b=ae u):Un fs ex H H h h':=
 ⟨λb ob q _ _ _=>k b ob q,λb ob q _ _ _=>⟨ob.slots,k b ob q⟩,λ_ _ _ n _=>n,λb ob q _=>⟨ob,k b ob q⟩,λ_ _ q=>q,λ_ _ _ q=>q,λ_ ps q=>⟨#[],by rw[q];simp⟩⟩
theorem Un.refl:Un fs ex H H h h:=Un.kept λ_ _ q=>q
theorem Un.laid(k:∀b u,h.get? b=ae u->h'.get? b=ae u)(hp:h.objs.size<=a)(hn:H a=af):Un fs ex H (upd H a o) h h' where
 keep:=λb u q _ _ _=>k b u q
 slot:=λb u q _ _ _=>⟨u.slots,k b u q⟩
 free:=λb u q n _=>by rw[aD (A8 (Bd (Ao q) hp))];exact n
 there:=λb u q _=>⟨u,k b u q⟩
 tups:=λb xs q=>by rw[aD (aY q hn)];exact q
 frzs:=λb u xs q=>by rw[aD (aY q hn)];exact q
 tbls:=λb ps q=>⟨#[],by rw[aD (aY q hn),q];simp⟩
theorem Un.write(mu:nK (H x))(he:e=x\/H e=ae (.own x))(k:∀b u,b≠e->h.get? b=ae u->h'.get? b=ae u)(heo:∃u,h'.get? e=ae u):Un fs ex H (upd H x o) h h':=by
 have hx:∀b,H b=af->b≠x:=λb n z=>by subst z;rw[n]at mu;exact mu
 have hb:∀b,H b=af->b≠e:=λb n z=>by
  subst z;rcases he with r|r
  ·exact hx b n r
  ·rw[n]at r;cases r
 have hm:∀b u,H b=ae u->¬nK (ae u)->b≠x:=λb u q nm z=>by subst z;rw[q]at mu;exact nm mu
 refine⟨λb u q n _ _=>k b u (hb b n) q,λb u q n _ _=>⟨u.slots,k b u (hb b n) q⟩,λb u q n _=>by rw[aD (hx b n)];exact n,λb u q _=>?_,
  λb xs q=>by rw[aD (hm b _ q λz=>z)];exact q,λb u xs q=>by rw[aD (hm b _ q λz=>z)];exact q,λb ps q=>⟨#[],by rw[aD (hm b _ q λz=>z),q];simp⟩⟩
 by_cases hbe:b=e
 ·subst hbe;exact heo
 ·exact⟨u,k b u hbe q⟩
end
def trk(h:Heap)(H:Hp):List Addr:=(A5 h.objs.size).filter λa=>(H a).isSome
def eI(h:Heap)(H:Hp):Heap:=F8 h (trk h H)
theorem OI(h:Heap)(H):(eI h H).objs.size=h.objs.size:=PySem.W.hideAll_size _ _
theorem KC(e:h.get? b=ae o)(n:H b=af):(eI h H).get? b=ae o:=
 PySem.W.hideAll_get _ e λhm=>by
  have q:(H b).isSome=ah:=(Ef.mp hm).2;rw[n]at q;simp at q
theorem IP(e:(eI h H).get? b=ae o):h.get? b=ae o/\H b=af:=by
 have e':h.get? b=ae o:=PySem.W.of_hideAll (trk h H) e;refine⟨e',?_⟩;cases q:H b with
 |none=>rfl
 |some x=>
  have hm:b∈trk h H:=Ef.mpr ⟨Bo.mpr (Ao e'),by simp[q]⟩;have z:(eI h H).get? b=af:=PySem.W.hideAll_none (trk h H) hm;rw[z]at e;cases e
def NI(g h:Heap)(L:Addr):List (Addr×Obj):=(A5 h.objs.size).filterMap λa=>if a=L\/(g.get? a).isSome=ah then af else(h.get? a).map λo=>(a,o)
def rest(g h:Heap)(L d:Addr):List (Addr×Obj):=(NI g h L).filter λp=>decide (p.1≠d)
structure Mod(K:Af)(mg:Str->Option Ae)(base:Heap):Prop where
 kin:K.In base
 glob:base.Ns D2 mg
 blt:∃mb,base.Ns builtinsNs mb/\∀x:Str,x≠"__name__"->mb x=Bp x
 nolimit:base.NoLimit
structure Cx where
 prog:A7
 w:Bi
 K:Af
 mg:Str->Option Ae
 base:Heap
 A:Br
 N:List Str
 s₀:Ai
 H₀:Hp
 env:Env
 outer:List Env
 stack:List Env
 ex:List Addr
 fn:Str->Bool
 calm:Bool
 pn:List (Addr×Obj)
 xe:Ae->Ai->Prop
def bY(l:List Env):List Addr:=l.filterMap (·.frame)
abbrev Cx.fs(X:Cx):List Addr:=bY X.outer
def fD(sc:E7)(x:Str):Prop:=sc.names.lookup x=ae .local\/sc.names.lookup x=ae .cell\/sc.names.lookup x=ae .free
def gw(sc:E7)(x:Str):Prop:=sc.names.lookup x=ae .local\/sc.names.lookup x=ae .cell
def wV(env:Env)(h:Heap)(m:Str->Option Ae)(x:Str)(u:Ae):Prop:=
 (env.kindOf x=ae .local/\m x=ae u)\/((env.kindOf x=ae .cell\/env.kindOf x=ae .free)/\∃c,env.cells.lookup x=ae c/\h.IsCell c (ae u))
structure Cx.Ok(X:Cx):Prop where
 mod:Mod X.K X.mg X.base
 kind:X.env.scope.kind=.function
 glob:X.env.globals=D2
 blt:X.env.builtins=builtinsNs
 above:X.s₀.heap.objs.size<=X.env.locals
 inj:∀x y c,X.env.cells.lookup x=ae c->X.env.cells.lookup y=ae c->x=y
 has:∀x,(X.env.kindOf x=ae .cell\/X.env.kindOf x=ae .free)->∃c,X.env.cells.lookup x=ae c
 cab:∀x c,X.fn x=ah->X.env.cells.lookup x=ae c->X.s₀.heap.objs.size<=c
 hd:X.calm=ah->X.A.handled=af
 frames:X.A.frames=ae X.stack
 stk:X.stack=X.outer\/(X.stack=X.env::X.outer/\X.env.frame=ae X.env.locals)
 exf:∀b∈X.ex,b≠X.env.locals/\∀x c,X.env.cells.lookup x=ae c->c≠b
 bs:∀b o,X.base.get? b=ae o->X.s₀.heap.get? b=ae o/\X.H₀ b=af
 bsz:X.base.objs.size<=X.s₀.heap.objs.size
 noex:∀b o,X.base.get? b=ae o->b∉X.ex
 exfs:∀b∈X.ex,b∉X.fs
 funs:X.s₀.heap.FunFrames X.base X.outer
 frf:∀b∈X.fs,X.H₀ b=af
structure Inv(X:Cx)(pins:List (Addr×Obj))(σ:List (Option V))(H:Hp)(s:Ai):Prop where
 ok:X.Ok
 os:s.os=X.s₀.os
 bare:AllBare s.gens
 base:Un X.fs X.ex X.H₀ H X.s₀.heap s.heap
 loc:∃m,s.heap.Ns X.env.locals m/\∀(i:Nat)(x:Str)(v:V),X.N[i]?=ae x->σ[i]?=ae (ae v)->fD X.env.scope x->∃u,RelV v u/\wV X.env s.heap m x u
 cell:∀x c,X.env.cells.lookup x=ae c->∃v,s.heap.IsCell c v
 free:H X.env.locals=af
 freeC:∀x c,X.env.cells.lookup x=ae c->H c=af
 pin:∀p∈X.pn++pins,s.heap.get? p.1=ae p.2/\H p.1=af/\p.1≠X.env.locals/\p.1∉X.fs/\∀v,p.2.data≠.cell v
 hok:HOk X.prog X.w H s.heap
 len:σ.length=X.N.length
section
variable{X:Cx}{pins:List (Addr×Obj)}{σ:List (Option V)}{H H':Hp}{s:Ai}{h':Heap}
theorem Cx.Ok.nofr(ok:X.Ok)(e:X.base.get? b=ae o):b∉X.fs:=λhb=>by
 have:=(ok.funs.mem hb).1;rw[e]at this;cases this
theorem Inv.bs(I:Inv X pins σ H s):∀b o,X.base.get? b=ae o->s.heap.get? b=ae o/\H b=af:=λb o e=>
 ⟨I.base.keep b o (I.ok.bs b o e).1 (I.ok.bs b o e).2 (I.ok.nofr e) (I.ok.noex b o e),I.base.free b o (I.ok.bs b o e).1 (I.ok.bs b o e).2 (I.ok.noex b o e)⟩
theorem Inv.bk(I:Inv X pins σ H s):∀b o,X.base.get? b=ae o->s.heap.get? b=ae o:=λb o e=>(I.bs b o e).1
theorem Inv.mod(I:Inv X pins σ H s):Mod X.K X.mg X.base:=I.ok.mod
theorem Inv.kIn(I:Inv X pins σ H s):X.K.In s.heap:=I.ok.mod.kin.keeps I.bk
theorem Inv.lt(I:Inv X pins σ H s):X.env.locals < s.heap.objs.size:=let⟨_,hn,_⟩:=I.loc;hn.lt
theorem Inv.sz(I:Inv X pins σ H s):X.s₀.heap.objs.size<=s.heap.objs.size:=Bb I.ok.above (Fh I.lt)
theorem Inv.nofs(I:Inv X pins σ H s){a:Addr}(h:s.heap.objs.size<=a):a∉X.fs:=λhb=>by
 obtain⟨_,o,ho,_⟩:=I.ok.funs.mem hb;exact absurd (Bd (Ao ho) (Bb I.sz h)) (Ek _)
theorem Inv.cne(I:Inv X pins σ H s):∀x c,X.env.cells.lookup x=ae c->c≠X.env.locals:=λx c e z=>by
 obtain⟨v,o,ho,hd⟩:=I.cell x c e;obtain⟨m,⟨o',es,ep,ho',hd',_⟩,_⟩:=I.loc;rw[z,ho']at ho;cases ho;rw[hd']at hd;cases hd
theorem Inv.funs(I:Inv X pins σ H s):s.heap.FunFrames X.base X.outer:=by
 have all:∀(l:List Env),(∀b∈bY l,b∈X.fs)->X.s₀.heap.FunFrames X.base l->s.heap.FunFrames X.base l:=by
  intro l
  induction l with
  |nil=>intro _ _;trivial
  |cons env r ih=>
   intro hs hl;obtain⟨hk,⟨L,o,hf,hn,ho,hd⟩,hr⟩:=hl;have hL:L∈X.fs:=hs L (by unfold bY;rw[List.filterMap_cons,hf];exact Au);obtain⟨sl,e⟩:=I.base.slot L o ho (I.ok.frf L hL) hL λz=>I.ok.exfs L z hL;exact⟨hk,⟨L,_,hf,hn,e,hd⟩,ih (λb hb=>hs b (by unfold bY;rw[List.filterMap_cons,hf];exact An _ hb)) hr⟩
 exact all X.outer (λ_ hb=>hb) I.ok.funs
theorem Inv.stack(I:Inv X pins σ H s):s.heap.FunFrames X.base X.stack:=by
 rcases I.ok.stk with e|⟨e,hf⟩
 ·rw[e];exact I.funs
 ·rw[e];obtain⟨m,hn,_⟩:=I.loc;refine .cons (by rw[I.ok.kind];decide) hf hn ?_ I.funs;exact Heap.get?_none_of_le (Bb I.ok.bsz I.ok.above)
theorem Inv.stkSub(I:Inv X pins σ H s):∀b∈bY X.stack,b∈X.env.locals::X.fs:=λb hb=>by
 rcases I.ok.stk with e|⟨e,hf⟩
 ·rw[e]at hb;exact An _ hb
 ·rw[e]at hb;unfold bY at hb;rw[List.filterMap_cons,hf]at hb;exact hb
theorem Inv.stkFree(I:Inv X pins σ H s):∀b∈bY X.stack,H b=af:=λb hb=>by
 rcases Aw.mp (I.stkSub b hb)with e|hb
 ·rw[e];exact I.free
 ·obtain⟨_,o,ho,_⟩:=I.ok.funs.mem hb;exact I.base.free b o ho (I.ok.frf b hb) λz=>I.ok.exfs b z hb
theorem Inv.step{d':Drawn}{ch:List Addr}(I:Inv X pins σ H s)
  (hch:∀b∈ch,(b∈X.ex\/X.s₀.heap.objs.size<=b)/\b≠X.env.locals/\(∀x c,X.env.cells.lookup x=ae c->c≠b)/\∀p∈X.pn++pins,p.1≠b)
  (keep:∀b o,b≠X.env.locals->b∉X.fs->b∉ch->s.heap.get? b=ae o->H b=af->h'.get? b=ae o)
  (slot:∀b o,b≠X.env.locals->b∈X.fs->b∉ch->s.heap.get? b=ae o->H b=af->∃sl,h'.get? b=ae {o with slots:=sl}) (free:∀b o,b∉ch->s.heap.get? b=ae o->H b=af->H' b=af)
  (there:∀b o,b∉ch->s.heap.get? b=ae o->∃o',h'.get? b=ae o')
  (tups:∀b xs,H b=ae (.tup xs)->H' b=ae (.tup xs)) (frzs:∀b o u,H b=ae (.frz o u)->H' b=ae (.frz o u)) (tbls:∀b ps,H b=ae (.tbl ps)->∃more,H' b=ae (.tbl (ps++more)))
  (ns:∀m,s.heap.Ns X.env.locals m->h'.Ns X.env.locals m) (hok:HOk X.prog X.w H' h') (hg:AllBare g'):
  Inv X pins σ H' {s with heap:=h',gens:=g',drawn:=d',toks:=t'}:=by
 have neL:∀b o,X.s₀.heap.get? b=ae o->b≠X.env.locals:=λb o e=>A8 (Bd (Ao e) I.ok.above);have neC:∀b o,X.s₀.heap.get? b=ae o->b∉X.ex->b∉ch:=λb o e hx hb=>by
  rcases(hch b hb).1 with z|z
  ·exact hx z
  ·exact absurd (Bd (Ao e) z) (Ek _)
 have cellK:∀x c,X.env.cells.lookup x=ae c->∀v,s.heap.IsCell c v->h'.IsCell c v:=λx c e v ⟨o,ho,hd⟩=>by
  have nch:c∉ch:=λz=>(hch c z).2.2.1 x c e rfl;by_cases hc:c∈X.fs
  ·obtain⟨sl,q⟩:=slot c o (I.cne x c e) hc nch ho (I.freeC x c e);exact⟨_,q,hd⟩
  ·exact⟨o,keep c o (I.cne x c e) hc nch ho (I.freeC x c e),hd⟩
 refine⟨I.ok,I.os,hg,⟨λb o e n hb hx=>?_,λb o e n hb hx=>?_,λb o e n hx=>?_,λb o e hx=>?_,λb xs e=>tups b xs (I.base.tups b xs e),λb o xs e=>frzs b o xs (I.base.frzs b o xs e),λb ps e=>?_⟩,?_,λx c e=>?_,?_,λx c e=>?_,λp hp=>?_,hok,I.len⟩
 ·exact keep b o (neL b o e) hb (neC b o e hx) (I.base.keep b o e n hb hx) (I.base.free b o e n hx)
 ·obtain⟨sl,e1⟩:=I.base.slot b o e n hb hx;obtain⟨sl',e2⟩:=slot b _ (neL b o e) hb (neC b o e hx) e1 (I.base.free b o e n hx);exact⟨sl',e2⟩
 ·obtain⟨o',e1⟩:=I.base.there b o e hx;exact free b o' (neC b o e hx) e1 (I.base.free b o e n hx)
 ·obtain⟨o',e1⟩:=I.base.there b o e hx;exact there b o' (neC b o e hx) e1
 ·obtain⟨m1,e1⟩:=I.base.tbls b ps e;obtain⟨m2,e2⟩:=tbls b _ e1;exact⟨m1++m2,by rw[e2,Array.append_assoc]⟩
 ·obtain⟨m,hn,hl⟩:=I.loc;refine⟨m,ns m hn,λi x v e1 e2 e3=>?_⟩;obtain⟨u,r,l⟩:=hl i x v e1 e2 e3;refine⟨u,r,?_⟩;rcases l with l|⟨k,c,e,z⟩
  ·exact .inl l
  ·exact .inr ⟨k,c,e,cellK x c e _ z⟩
 ·obtain⟨v,z⟩:=I.cell x c e;exact⟨v,cellK x c e v z⟩
 ·obtain⟨m,⟨o,_,_,ho,_⟩,_⟩:=I.loc;exact free _ o (λz=>(hch _ z).2.1 rfl) ho I.free
 ·obtain⟨v,o,ho,hd⟩:=I.cell x c e;exact free c o (λz=>(hch c z).2.2.1 x c e rfl) ho (I.freeC x c e)
 ·obtain⟨e,n,ne,nf,d⟩:=I.pin p hp;have nch:p.1∉ch:=λz=>(hch p.1 z).2.2.2 p hp rfl;exact⟨keep p.1 p.2 ne nf nch e n,free p.1 p.2 nch e n,ne,nf,d⟩
theorem Inv.un(I:Inv X pins σ H s)(u:Un X.fs [] H H' s.heap h')(hok:HOk X.prog X.w H' h'):Inv X pins σ H' {s with heap:=h',toks:=t'}:=by
 obtain⟨m,⟨o,es,ep,ho,r⟩,_⟩:=id I.loc;obtain⟨sl,hL⟩:=u.any ho I.free (by simp);exact I.step (g':=s.gens) (d':=s.drawn) (ch:=[]) (λ_ z=>nomatch z) (λb o _ hb _ e n=>u.keep b o e n hb (by simp)) (λb o _ hb _ e n=>u.slot b o e n hb (by simp)) (λb o _ e n=>u.free b o e n (by simp)) (λb o _ e=>u.there b o e (by simp)) u.tups u.frzs u.tbls (λm' hm=>by
  obtain⟨o',es',ep',ho',r'⟩:=hm;rw[ho]at ho';cases ho';exact⟨_,es',ep',hL,r'⟩) hok I.bare
theorem Inv.call(I:Inv X pins σ H s)(u:Un (bY X.stack) ch H H' s.heap h')(hok:HOk X.prog X.w H' h')(hg:AllBare g')
  (hch:∀b∈ch,(b∈X.ex\/X.s₀.heap.objs.size<=b)/\b≠X.env.locals/\(∀x c,X.env.cells.lookup x=ae c->c≠b)/\∀p∈X.pn++pins,p.1≠b):
  Inv X pins σ H' {s with heap:=h',gens:=g',drawn:=d',toks:=t'}:=by
 obtain⟨m,⟨o,es,ep,ho,r⟩,_⟩:=id I.loc;obtain⟨sl,hL⟩:=u.any ho I.free λz=>(hch _ z).2.1 rfl;exact I.step (ch:=ch) hch (λb o hL hb hc e n=>u.keep b o e n (λz=>(Aw.mp (I.stkSub b z)).elim hL hb) hc) (λb o _ _ hc e n=>u.any e n hc) (λb o hc e n=>u.free b o e n hc) (λb o hc e=>u.there b o e hc) u.tups u.frzs u.tbls (λm' hm=>by
  obtain⟨o',es',ep',ho',r'⟩:=hm;rw[ho]at ho';cases ho';exact⟨_,es',ep',hL,r'⟩) hok hg
theorem Inv.turned(I:Inv X pins σ H s)(k:∀b o,b≠it->s.heap.get? b=ae o->h'.get? b=ae o)(hn:H it=af)(hL:it≠X.env.locals)
  (h1:it∈X.ex\/X.s₀.heap.objs.size<=it) (h2:∀x c,X.env.cells.lookup x=ae c->c≠it) (h3:∀p∈X.pn++pins,p.1≠it):Inv X pins σ H {s with heap:=h',toks:=t'}:=by
 have nit:∀b u,H b=ae u->b≠it:=λb u e z=>by rw[z,hn]at e;cases e
 refine I.step (g':=s.gens) (d':=s.drawn) (ch:=[it]) (λb hb=>?_) (λb o _ _ hc e _=>k b o (λz=>hc (by simp[z])) e) (λb o _ _ hc e _=>⟨o.slots,k b o (λz=>hc (by simp[z])) e⟩) (λ_ _ _ _ n=>n)
  (λb o hc e=>⟨o,k b o (λz=>hc (by simp[z])) e⟩) (λ_ _ e=>e) (λ_ _ _ e=>e) (λb ps e=>⟨#[],by rw[e];simp⟩) (λm hm=>?_) (λb u e=>?_) I.bare
 ·have e:b=it:=by simpa using hb
  subst e;exact⟨h1,hL,h2,h3⟩
 ·obtain⟨o,es,ep,ho,r⟩:=hm;exact⟨o,es,ep,k _ o (Ne.symm hL) ho,r⟩
 ·refine(I.hok b u e).stay (λc v hc q=>k c v ?_ q) (λ_ q=>q) λ_ _ q=>q;rcases hc with z|z
  ·rw[z];exact nit b u e
  ·exact nit c _ z
theorem Inv.tok(I:Inv X pins σ H s)(t):Inv X pins σ H {s with toks:=t}:=I.un (h':=s.heap) (t':=t) Un.refl I.hok
theorem Inv.kept(I:Inv X pins σ H s)(k:∀b u,s.heap.get? b=ae u->h'.get? b=ae u):Inv X pins σ H {s with heap:=h',toks:=t'}:=I.un (Un.kept k) (I.hok.kept k)
theorem Inv.laid{a:Addr}(I:Inv X pins σ H s)(k:∀b u,s.heap.get? b=ae u->h'.get? b=ae u)(hp:s.heap.objs.size<=a)(new:ObjOk X.prog X.w (upd H a o) h' a o):
  Inv X pins σ (upd H a o) {s with heap:=h',toks:=t'}:=I.un (Un.laid k hp (I.hok.fresh hp)) (I.hok.laid k hp new)
theorem Inv.write(I:Inv X pins σ H s)(mu:nK (H x))(he:e=x\/H e=ae (.own x))(k:∀b u,b≠e->s.heap.get? b=ae u->h'.get? b=ae u)(heo:∃u,h'.get? e=ae u)
  (new:ObjOk X.prog X.w (upd H x o) h' x o):Inv X pins σ (upd H x o) {s with heap:=h',toks:=t'}:=I.un (Un.write mu he k heo) (I.hok.write mu he k heo new)
theorem Inv.pins_of(I:Inv X pins σ H s)(h:∀p∈pins',s.heap.get? p.1=ae p.2/\H p.1=af/\p.1≠X.env.locals/\p.1∉X.fs/\∀v,p.2.data≠.cell v):Inv X pins' σ H s:=
 ⟨I.ok,I.os,I.bare,I.base,I.loc,I.cell,I.free,I.freeC,λp hp=>(Bv.mp hp).elim (λz=>I.pin p (Fx _ z)) (h p),I.hok,I.len⟩
theorem uK{N:List Str}(hN:N.Nodup){i j:Nat}(a:N[i]?=ae x)(b:N[j]?=ae x):i=j:=by
 obtain⟨h1,e1⟩:=Al.mp a;obtain⟨h2,e2⟩:=Al.mp b;exact(F3 hN).mp (e1.trans e2.symm)
theorem Iv(I:Inv X pins σ H s)(hN:X.N.Nodup)(hi:X.N[i]?=ae x)(hx:gw X.env.scope x)(r:RelV v u)
  (h:∀s',Inv X pins (σ.set i (ae v)) H s'->(∃a,Dt a s.heap s'.heap/\(a=X.env.locals\/X.env.cells.lookup x=ae a))->Q () s') (hf:X.fn x=ah\/X.env.scope.names.lookup x=ae .local:=by first|exact .inl rfl|exact .inr rfl|assumption):Av M A (storeName X.env x u) Q E s:=by
 obtain⟨m,hn,hl⟩:=id I.loc;have hcls:(X.env.scope.kind==.class || (X.env.scope.kind==.module&&X.env.locals != X.env.globals))=ai:=by rw[I.ok.kind];rfl
 have hiσ:i < σ.length:=by rw[I.len];exact(Al.mp hi).1
 have cne:=I.cne;have tracked:∀{a:Addr}{h':Heap},(∃o,s.heap.get? a=ae o/\H a=af)->Dt a s.heap h'->HOk X.prog X.w H h':=λ{a h'} ha hs b ob e=>by
  obtain⟨_,_,hfree⟩:=ha;refine(I.hok b ob e).stay (λc w' hc q=>(hs.2 c ?_).trans q) (λ_ q=>q) λ_ _ q=>q
  rintro rfl
  rcases hc with rfl|hc
  ·rw[hfree]at e;cases e
  ·rw[hfree]at hc;cases hc
 rcases hx with hk|hk
 ·refine wpAny_storeName_local hk hn (λh' hn' hs=>?_) hcls;obtain⟨oL,_,_,hoL,_⟩:=id hn;refine h _ ⟨I.ok,I.os,I.bare,⟨λb o e n hb hx=>?_,λb o e n hb hx=>?_,I.base.free,λb o e hx=>?_,I.base.tups,I.base.frzs,I.base.tbls⟩,⟨_,hn',λj y v' e1 e2 e3=>?_⟩,λy c e=>?_,I.free,I.freeC,λp hp=>?_,tracked ⟨oL,hoL,I.free⟩ hs,by simpa using I.len⟩ ⟨_,hs,.inl rfl⟩
  ·exact(hs.2 b (A8 (Bd (Ao e) I.ok.above))).trans (I.base.keep b o e n hb hx)
  ·obtain⟨sl,e1⟩:=I.base.slot b o e n hb hx;exact⟨sl,(hs.2 b (A8 (Bd (Ao e) I.ok.above))).trans e1⟩
  ·obtain⟨o',e1⟩:=I.base.there b o e hx;exact⟨o',(hs.2 b (A8 (Bd (Ao e) I.ok.above))).trans e1⟩
  ·by_cases hj:j=i
   ·subst hj;rw[hi]at e1;cases e1;rw[Bq hiσ]at e2;cases e2;exact⟨u,r,.inl ⟨hk,by simp⟩⟩
   ·rw[A6 (Ne.symm hj)]at e2;obtain⟨u',r',q⟩:=hl j y v' e1 e2 e3;refine⟨u',r',?_⟩;rcases q with⟨k,e⟩|⟨k,c,e,z⟩
    ·refine .inl ⟨k,?_⟩;have:y≠x:=λe=>hj (uK hN e1 (e▸hi));simp[this,e]
    ·exact .inr ⟨k,c,e,z.sameBut hs (cne y c e)⟩
  ·obtain⟨w',z⟩:=I.cell y c e;exact⟨w',z.sameBut hs (cne y c e)⟩
  ·obtain⟨e,n,ne,nf,d⟩:=I.pin p hp;exact⟨(hs.2 p.1 ne).trans e,n,ne,nf,d⟩
 ·have hfn:X.fn x=ah:=by
   rcases hf with z|z
   ·exact z
   ·rw[z]at hk;cases hk
  obtain⟨c,hc⟩:=I.ok.has x (.inl hk);obtain⟨w',z⟩:=I.cell x c hc;refine wpAny_storeName_cell I.ok.kind hk hc z (λh' hc' hs=>?_);obtain⟨oc,hoc,hocd⟩:=id z;refine h {s with heap:=h'} ⟨I.ok,I.os,I.bare,⟨λb o e n hb hx=>?_,λb o e n hb hx=>?_,I.base.free,λb o e hx=>?_,I.base.tups,I.base.frzs,I.base.tbls⟩,⟨m,hn.sameBut hs (Ne.symm (cne x c hc)),λj y v' e1 e2 e3=>?_⟩,λy c' e=>?_,I.free,I.freeC,λp hp=>?_,tracked ⟨oc,hoc,I.freeC x c hc⟩ hs,by simpa using I.len⟩ ⟨c,hs,.inr hc⟩
  ·exact(hs.2 b (A8 (Bd (Ao e) (I.ok.cab x c hfn hc)))).trans (I.base.keep b o e n hb hx)
  ·obtain⟨sl,e1⟩:=I.base.slot b o e n hb hx;exact⟨sl,(hs.2 b (A8 (Bd (Ao e) (I.ok.cab x c hfn hc)))).trans e1⟩
  ·obtain⟨o',e1⟩:=I.base.there b o e hx;exact⟨o',(hs.2 b (A8 (Bd (Ao e) (I.ok.cab x c hfn hc)))).trans e1⟩
  ·by_cases hj:j=i
   ·subst hj;rw[hi]at e1;cases e1;rw[Bq hiσ]at e2;cases e2;exact⟨u,r,.inr ⟨.inl hk,c,hc,hc'⟩⟩
   ·rw[A6 (Ne.symm hj)]at e2;obtain⟨u',r',q⟩:=hl j y v' e1 e2 e3;refine⟨u',r',?_⟩;rcases q with q|⟨k,c',e,z'⟩
    ·exact .inl q
    ·refine .inr ⟨k,c',e,z'.sameBut hs ?_⟩
     rintro rfl
     exact hj (uK hN e1 (I.ok.inj _ _ _ e hc▸hi))
  ·by_cases hcc:c'=c
   ·subst hcc;exact⟨_,hc'⟩
   ·obtain⟨w2,z2⟩:=I.cell y c' e;exact⟨w2,z2.sameBut hs hcc⟩
  ·obtain⟨e,n,ne,nf,d⟩:=I.pin p hp;refine⟨(hs.2 p.1 ?_).trans e,n,ne,nf,d⟩;intro q;rw[q,hoc]at e;have q':oc=p.2:=A4 e;exact d w' (by rw[<-q'];exact hocd)
theorem qz(I:Inv X pins σ H s)(hN:X.N.Nodup)(hi:X.N[i]?=ae x)(hx:gw X.env.scope x)(r:RelV v u)
  (h:∀s',Inv X pins (σ.set i (ae v)) H s'->Q () s') (hf:X.fn x=ah\/X.env.scope.names.lookup x=ae .local:=by first|exact .inl rfl|exact .inr rfl|assumption):Av M A (storeName X.env x u) Q E s:=
 Iv I hN hi hx r (λs' I' _=>h s' I') hf
theorem Inv.call'(I:Inv X pins σ H s)(ho:s'.os=s.os)(u:Un (bY X.stack) ch H H' s.heap s'.heap)(hok:HOk X.prog X.w H' s'.heap)(hg:AllBare s'.gens)
  (hch:∀b∈ch,(b∈X.ex\/X.s₀.heap.objs.size<=b)/\b≠X.env.locals/\(∀x c,X.env.cells.lookup x=ae c->c≠b)/\∀p∈X.pn++pins,p.1≠b):Inv X pins σ H' s':=by
 obtain⟨h',g',d',t',o'⟩:=s';have e:o'=s.os:=ho;subst e;exact I.call (g':=g') (t':=t') (d':=d') u hok hg hch
end
abbrev XK:=Ae->Option Addr->Hp->Prop
abbrev St:=List (Option V)
abbrev VK:=V->Hp->Prop
abbrev TE:=St->Hp->VK->Prop
abbrev TT:=St->Hp->(Bool->Hp->Prop)->Prop
abbrev TA:=St->Hp->(List V->Hp->Prop)->Prop
structure Ends where
 nx:St->Hp->Prop
 rt:VK
 bk:St->Hp->Prop:=λ_ _=>False
 ct:St->Hp->Prop:=λ_ _=>False
abbrev TS:=Ends->St->Hp->Prop
def EP(X:Cx)(pins:List (Addr×Obj))(σ:St)(Q:VK)(u:Ae)(s':Ai):Prop:=∃v H',Inv X pins σ H' s'/\RelV v u/\Q v H'
def TP(X:Cx)(pins:List (Addr×Obj))(σ:St)(Q:Bool->Hp->Prop)(b:Bool)(s':Ai):Prop:=∃H',Inv X pins σ H' s'/\Q b H'
def AP(X:Cx)(pins:List (Addr×Obj))(σ:St)(Q:List V->Hp->Prop)(us:List Ae)(s':Ai):Prop:=∃vs H',Inv X pins σ H' s'/\Vals vs us/\Q vs H'
def SP(X:Cx)(pins:List (Addr×Obj))(D:Ends)(f:Flow)(s':Ai):Prop:=
 match f with
 |.next=>∃σ' H',Inv X pins σ' H' s'/\D.nx σ' H'
 |.brk=>∃σ' H',Inv X pins σ' H' s'/\D.bk σ' H'
 |.cont=>∃σ' H',Inv X pins σ' H' s'/\D.ct σ' H'
 |.ret u=>∃v σ' H',Inv X pins σ' H' s'/\RelV v u/\D.rt v H'
def PE(X:Cx)(e:Expr)(t:TE):Prop:=
 ∀(pins:List (Addr×Obj))(s:Ai)(σ:St)(H:Hp)(Q:VK),Inv X pins σ H s->t σ H Q->Av (A9 X.prog X.w) X.A (eval e X.env) (EP X pins σ Q) X.xe s
def PT(X:Cx)(e:Expr)(t:TT):Prop:=
 ∀(pins:List (Addr×Obj))(s:Ai)(σ:St)(H:Hp)(Q:Bool->Hp->Prop),Inv X pins σ H s->t σ H Q->Av (A9 X.prog X.w) X.A (isTrue e X.env (eval e X.env)) (TP X pins σ Q) X.xe s
def PW(X:Cx)(e:Expr)(t:TT):Prop:=
 ∀(whole:Sem Ae)(pins:List (Addr×Obj))(s:Ai)(σ:St)(H:Hp)(Q:Bool->Hp->Prop),Inv X pins σ H s->t σ H Q->Av (A9 X.prog X.w) X.A (isTrue e X.env whole) (TP X pins σ Q) X.xe s
theorem PW.pt(h:PW X e t):PT X e t:=h _
def PA(X:Cx)(es:List Expr)(t:TA):Prop:=
 ∀(pos:Pos)(pins:List (Addr×Obj))(s:Ai)(σ:St)(H:Hp)(Q:List V->Hp->Prop),Inv X pins σ H s->t σ H Q->Av (A9 X.prog X.w) X.A (spliced (Cy pos (Ap es X.env))) (AP X pins σ Q) X.xe s
def PS(X:Cx)(st:Stmt)(t:TS):Prop:=
 ∀(pins:List (Addr×Obj))(s:Ai)(σ:St)(H:Hp)(D:Ends),Inv X pins σ H s->t D σ H->Av (A9 X.prog X.w) X.A (exec st X.env) (SP X pins D) X.xe s
def PSs(X:Cx)(st:List Stmt)(t:TS):Prop:=
 ∀(pins:List (Addr×Obj))(s:Ai)(σ:St)(H:Hp)(D:Ends),Inv X pins σ H s->t D σ H->Av (A9 X.prog X.w) X.A (execs st X.env) (SP X pins D) X.xe s
theorem aG(h:Av M A t Q E s)(hQ:∀a s,Q a s->Q' a s):Av M A t Q' E s:=B6 h hQ λ_ _ x=>x
section
variable{X:Cx}
theorem U6(ha:PE X a ta)(hb:PE X b tb){σ:St}{R:V->V->Hp->Prop}(I:Inv X pins σ H s)(h:ta σ H λx H1=>tb σ H1 λy H2=>R x y H2)
   {Q:α->Ai->Prop} {f:Ae->Ae->Sem α}
  (hf:∀v u s2 x y H2,Inv X pins σ H2 s2->RelV x v->RelV y u->R x y H2->Av (A9 X.prog X.w) X.A (f v u) Q X.xe s2):
  Av (A9 X.prog X.w) X.A (eval a X.env) (λv s₁=>Av (A9 X.prog X.w) X.A (eval b X.env) (λu s₂=>Av (A9 X.prog X.w) X.A (f v u) Q X.xe s₂) X.xe s₁) X.xe s:=by
 refine aG (ha pins s σ H _ I h) λv s1 ⟨x,H1,I1,r1,q1⟩=>?_;refine aG (hb pins s1 σ H1 _ I1 q1) λu s2 ⟨y,H2,I2,r2,q2⟩=>?_;exact hf v u s2 x y H2 I2 r1 r2 q2
def az(i:Nat):TE:=λσ H Q=>∃v,σ[i]?=ae (ae v)/\Q v H
def tC(v:V):TE:=λ_ H Q=>Q v H
theorem gC{pos:Pos}(hN:X.N[i]?=ae x)(hv:fD X.env.scope x)(hd:(x==("__debug__":Str))=ai:=by decide)(hcd:(x==("__classdict__":Str))=ai:=by decide):PE X (.Name x pos) (az i):=by
 intro pins s σ H Q I h;obtain⟨v,e,h⟩:=h;obtain⟨m,hn,hl⟩:=I.loc;obtain⟨u,r,l⟩:=hl i x v hN e hv;have fin:EP X pins σ Q u s:=⟨v,H,I,r,h⟩;rcases l with⟨hk,hm⟩|⟨hk,c,hc,hcell⟩
 ·exact wpAny_Name (wpAny_loadName_local I.ok.kind hk hn hm fin) hd
 ·rcases hk with hk|hk
  ·exact wpAny_Name (wpAny_loadName_cell I.ok.kind hk hc hcell fin) hd
  ·exact wpAny_Name (wpAny_loadName_free I.ok.kind hk hc hcell fin hcd) hd
theorem cg{i j pos}:PE X (.Constant (.int i) j pos) (tC (.int i)):=λ_ _ _ H _ I h=>wpAny_Constant_int ⟨.int i,H,I.tok _,⟨_,rfl⟩,h⟩
theorem Ri{b j pos}:PE X (.Constant (.bool b) j pos) (tC (.bl b)):=λ_ _ _ H _ I h=>Constant_bool ⟨.bl b,H,I,rfl,h⟩
theorem rV{j pos}:PE X (.Constant .none j pos) (tC .non):=λ_ _ _ H _ I h=>Constant_none ⟨.non,H,I,rfl,h⟩
theorem GG{x j pos}:PE X (.Constant (.str x) j pos) (tC (.str x)):=λ_ _ _ H _ I h=>Calls.Constant_str ⟨.str x,H,I.tok _,⟨_,rfl⟩,h⟩
def Gl(X:Cx)(x:Str):Prop:=X.env.kindOf x=ae .globalImplicit
theorem o8{σ:St}(I:Inv X pins σ H s)(hg:Gl X x)(hm:X.mg x=ae u)(h:Q u s)
  (hd:(x==("__debug__":Str))=ai:=by decide):Av (A9 X.prog X.w) X.A (eval (.Name x pos) X.env) Q E s:=
 Calls.Name_function_global I.ok.kind hg (Calls.loadGlobal_global (by rw[I.ok.glob];exact I.mod.glob.keeps I.bk) hm h) hd
theorem jU{E:Ae->Ai->Prop}{σ:St}{pos:Pos}{Q:Ae->Ai->Prop}(I:Inv X pins σ H s)(hg:Gl X x)(hm:X.mg x=af)(hv:Bp x=ae u)(h:Q u s)
  (hn:x≠"__name__":=by decide) (hd:(x==("__debug__":Str))=ai:=by decide):Av (A9 X.prog X.w) X.A (eval (.Name x pos) X.env) Q E s:=by
 obtain⟨mb,h1,h2⟩:=I.mod.blt;exact Calls.Name_function_global I.ok.kind hg (Calls.loadGlobal_builtin (by rw[I.ok.glob];exact I.mod.glob.keeps I.bk) hm (by rw[I.ok.blt];exact h1.keeps I.bk) ((h2 x hn).trans hv) h) hd
theorem kf(hg:Gl X x)(hm:X.mg x=ae u)(r:RelV v u)(hd:(x==("__debug__":Str))=ai:=by decide):PE X (.Name x pos) (tC v):=
 λ_ _ _ H _ I h=>o8 I hg hm ⟨v,H,I,r,h⟩ hd
theorem zD{pos:Pos}(hg:Gl X x)(hm:X.mg x=af)(hv:Bp x=ae u)(r:RelV v u)(hn:x≠"__name__":=by decide)(hd:(x==("__debug__":Str))=ai:=by decide):PE X (.Name x pos) (tC v):=
 λ_ _ _ H _ I h=>jU I hg hm hv ⟨v,H,I,r,h⟩ hn hd
variable{a b:Expr}{ta tb:TE}{pos:Pos}
def PC(X:Cx)(op:CmpOp)(a b:Expr)(t:TE):Prop:=
 ∀(pins:List (Addr×Obj))(s:Ai)(σ:St)(H:Hp)(Q:VK),Inv X pins σ H s->t σ H Q->
  Av (A9 X.prog X.w) X.A (eval a X.env) (λv s₁=>Av (A9 X.prog X.w) X.A (eval b X.env) (λu s₂=>Av (A9 X.prog X.w) X.A (Bu op v u) (EP X pins σ Q) X.xe s₂) X.xe s₁) X.xe s
theorem yK(b)(h:op≠.In)(h2:op≠.NotIn):Ci op b=ai:=by
 have e1:(op==CmpOp.In)=ai:=by cases op<;>first|rfl|exact absurd rfl h
 have e2:(op==CmpOp.NotIn)=ai:=by cases op<;>first|rfl|exact absurd rfl h2
 cases b<;>simp[Ci,e1,e2]
def tB(t:TE):TT:=λσ H Q=>t σ H λx H1=>∃c,x=.bl c/\Q c H1
theorem HM(h:PC X op a b t)(h1:Ci op b=ai:=by first|exact yK _ ∎ ∎|rfl):PE X (.Compare a [op] [b] pos) t:=λpins s σ H Q I hw=>wpAny_Compare1 (h pins s σ H Q I hw) h1
theorem Hz(h:PC X op a b t)(h1:Ci op b=ai:=by first|exact yK _ ∎ ∎|rfl):PT X (.Compare a [op] [b] pos) (tB t):=by
 intro pins s σ H Q I hw;refine wpAny_isTrue_Compare1 (aG (h pins s σ H _ I hw) λv s1 h1=>aG h1 λu s2 h2=>aG h2 λc s3 ⟨x,H1,I1,r1,q1⟩=>?_) h1;obtain⟨d,rfl,q⟩:=q1;cases r1;exact De ⟨H1,I1,q⟩
theorem Ub(h:PE X e t)(he:∀whole,isTrue e X.env whole=(do let v <-whole;standAt e.pos;holding [v] (truthy v)):=by intro _;rfl):PT X e (tB t):=by
 intro pins s σ H Q I hw;refine isTrue_plain (aG (h pins s σ H _ I hw) λv s1 ⟨x,H1,I1,r1,q1⟩=>?_) (he _);obtain⟨d,rfl,q⟩:=q1;cases r1;exact De ⟨H1,I1,q⟩
variable{tA tB':TT}{rest:List Expr}
def jw(t u:TT):TT:=λσ H Q=>t σ H λc H1=>if c=ah then u σ H1 Q else Q ai H1
def yW(t u:TT):TT:=λσ H Q=>t σ H λc H1=>if c=ah then Q ah H1 else u σ H1 Q
def nc(t:TT):TT:=λσ H Q=>t σ H λc H1=>Q (!c) H1
theorem zo(ha:PT X a tA):PW X (.BoolOp .And [a] pos) tA:=by
 intro wh pins s σ H Q I h;refine isTrue_and (aG (ha pins s σ H Q I h) λc s1 e=>?_);cases c with
 |true=>exact isTrue_and_nil e
 |false=>exact e
theorem LC(ha:PT X a tA):PW X (.BoolOp .Or [a] pos) tA:=by
 intro wh pins s σ H Q I h;refine isTrue_or (aG (ha pins s σ H Q I h) λc s1 e=>?_);cases c with
 |false=>exact isTrue_or_nil e
 |true=>exact e
theorem ET(ha:PT X a tA)(hb:PW X (.BoolOp .And (b::rest) pos) tB'):PW X (.BoolOp .And (a::b::rest) pos) (jw tA tB'):=by
 intro wh pins s σ H Q I h;refine isTrue_and (aG (ha pins s σ H _ I h) λc s1 ⟨H1,I1,q1⟩=>?_);cases c with
 |true=>exact hb wh pins s1 σ H1 Q I1 q1
 |false=>exact⟨H1,I1,q1⟩
theorem SU(ha:PT X a tA)(hb:PW X (.BoolOp .Or (b::rest) pos) tB'):PW X (.BoolOp .Or (a::b::rest) pos) (yW tA tB'):=by
 intro wh pins s σ H Q I h;refine isTrue_or (aG (ha pins s σ H _ I h) λc s1 ⟨H1,I1,q1⟩=>?_);cases c with
 |true=>exact⟨H1,I1,q1⟩
 |false=>exact hb wh pins s1 σ H1 Q I1 q1
theorem Sq(ha:PT X a tA):PT X (.UnaryOp .Not a pos) (nc tA):=by
 intro pins s σ H Q I h;exact isTrue_not (ha pins s σ H (λc H1=>Q (!c) H1) I h)
def yG(ta tb:TE):TE:=λσ H Q=>ta σ H λx H1=>∃c,x=.bl c/\if c=ah then tb σ H1 Q else Q (.bl ai) H1
def oG(ta tb:TE):TE:=λσ H Q=>ta σ H λx H1=>∃c,x=.bl c/\if c=ah then Q (.bl ah) H1 else tb σ H1 Q
def zi(ta:TE):TE:=λσ H Q=>ta σ H λx H1=>∃c,x=.bl c/\Q (.bl (!c)) H1
theorem Sw{op}(h:PE X a t):PE X (.BoolOp op [a] pos) t:=λpins s σ H Q I hw=>BoolOp_one (h pins s σ H Q I hw)
theorem M7(ha:PE X a ta)(hb:PE X (.BoolOp .And (b::rest) pos) tb):PE X (.BoolOp .And (a::b::rest) pos) (yG ta tb):=by
 intro pins s σ H Q I h;refine BoolOp_and (aG (ha pins s σ H _ I h) λv s1 ⟨x,H1,I1,r1,q1⟩=>?_);obtain⟨c,rfl,q1⟩:=q1;cases r1;refine De ?_;cases c with
 |true=>exact hb pins s1 σ H1 Q I1 q1
 |false=>exact⟨.bl ai,H1,I1,rfl,q1⟩
theorem JQ(ha:PE X a ta)(hb:PE X (.BoolOp .Or (b::rest) pos) tb):PE X (.BoolOp .Or (a::b::rest) pos) (oG ta tb):=by
 intro pins s σ H Q I h;refine BoolOp_or (aG (ha pins s σ H _ I h) λv s1 ⟨x,H1,I1,r1,q1⟩=>?_);obtain⟨c,rfl,q1⟩:=q1;cases r1;refine De ?_;cases c with
 |false=>exact hb pins s1 σ H1 Q I1 q1
 |true=>exact⟨.bl ah,H1,I1,rfl,q1⟩
theorem O6(ha:PE X a ta):PE X (.UnaryOp .Not a pos) (zi ta):=by
 intro pins s σ H Q I h;refine UnaryOp_ (aG (ha pins s σ H _ I h) λv s1 ⟨x,H1,I1,r1,q1⟩=>?_);obtain⟨c,rfl,q1⟩:=q1;cases r1;exact not_of (De ⟨.bl (!c),H1,I1,rfl,q1⟩)
def EG(t:TT)(ta tb:TE):TE:=λσ H Q=>t σ H λc H1=>if c=ah then ta σ H1 Q else tb σ H1 Q
theorem Ke(hc:PT X c tA)(ha:PE X a ta)(hb:PE X b tb):PE X (.IfExp c a b pos) (EG tA ta tb):=by
 intro pins s σ H Q I h;refine wpAny_IfExp (aG (hc pins s σ H _ I h) λd s1 ⟨H1,I1,q1⟩=>?_);cases d with
 |true=>exact ha pins s1 σ H1 Q I1 q1
 |false=>exact hb pins s1 σ H1 Q I1 q1
end
def SqL(K:Af)(H:Hp)(a:Addr)(xs:List V):Prop:=
 Rd H a (.lst xs) \/
  ∃(o:Obj)(its:Array Ae)(n:Nat),K.lookup a=ae o/\o.cls=.type "list"/\o.dict=af/\o.data=.seq its n/\its.size<=Ar/\Vals xs its.toList
def SqT(K:Af)(H:Hp)(a:Addr)(xs:List V):Prop:=
 Rd H a (.tup xs) \/
  ∃(o:Obj)(its:Array Ae)(n:Nat),K.lookup a=ae o/\o.cls=.type "tuple"/\o.data=.seq its n/\its.size<=Ar/\Vals xs its.toList
def xq:Ae->Option V
 |.none=>ae .non
 |.bool b=>ae (.bl b)
 |.int i _=>ae (.int i)
 |.str x _=>ae (.str x)
 |.bytes b _=>ae (.byt b)
 |.float b _=>ae (.flt b)
 |.ref a=>ae (.ref a)
 |.type n=>ae (.ty n)
 |_=>af
theorem RelV.abs(r:RelV x u):xq u=ae x:=by
 cases x with
 |non=>cases r;rfl
 |bl _=>cases r;rfl
 |int _=>obtain⟨t,rfl⟩:=r;rfl
 |str _=>obtain⟨t,rfl⟩:=r;rfl
 |byt _=>obtain⟨t,rfl⟩:=r;rfl
 |flt _=>obtain⟨t,rfl⟩:=r;rfl
 |ref _=>cases r;rfl
 |ty _=>cases r;rfl
theorem RelV.inj(r:RelV x u)(q:RelV y u):x=y:=A4 (r.abs.symm.trans q.abs)
theorem Vals.inj:∀{xs ys:List V}{us:List Ae},Vals xs us->Vals ys us->xs=ys
 |_,_,_,.nil,.nil=>rfl
 |_,_,_,.cons r t,.cons r' t'=>by rw[r.inj r',Vals.inj t t']
section
variable{X:Cx}{pins:List (Addr×Obj)}{σ:St}{H:Hp}{s:Ai}{a:Addr}{xs ys:List V}
theorem SqL.of{K:Af}(h:H a=ae (.lst xs)):SqL K H a xs:=.inl (.inl h)
theorem SqT.of{K:Af}(h:H a=ae (.tup xs)):SqT K H a xs:=.inl (.inl h)
theorem Inv.list(I:Inv X pins σ H s)(h:SqL X.K H a xs):∃its:List Ae,Vals xs its/\PlainL s.heap a its.toArray/\xs.length<=Ar:=by
 rcases h with h|⟨o,its,n,hk,hc,hd,hs,hz,r⟩
 ·obtain⟨z,its,n,r,e⟩:=h.ok I.hok;exact⟨its,r,⟨_,n,e,rfl,rfl,rfl⟩,z⟩
 ·refine⟨its.toList,r,⟨o,n,I.kIn a o hk,hc,hd,by simpa using hs⟩,?_⟩;have e:=r.length;simp only[Ce]at e;omega
theorem Inv.tuple(I:Inv X pins σ H s)(h:SqT X.K H a xs):∃its:List Ae,Vals xs its/\IsTup s.heap a its.toArray/\xs.length<=Ar:=by
 rcases h with h|⟨o,its,n,hk,hc,hs,hz,r⟩
 ·obtain⟨z,its,r,p⟩:=h.ok I.hok;exact⟨its,r,p.tup,z⟩
 ·refine⟨its.toList,r,⟨o,I.kIn a o hk,hc,n,by simpa using hs⟩,?_⟩;have e:=r.length;simp only[Ce]at e;omega
theorem Inv.list_inj(I:Inv X pins σ H s)(h:SqL X.K H a xs)(h':SqL X.K H a ys):xs=ys:=by
 obtain⟨its,r,⟨o,n,e,_,_,d⟩,_⟩:=I.list h;obtain⟨its',r',⟨o',n',e',_,_,d'⟩,_⟩:=I.list h';rw[e]at e';cases e';rw[d]at d';injection d' with d1 _;have:its=its':=by simpa using congrArg Array.toList d1
 subst this;exact r.inj r'
theorem Inv.tuple_inj(I:Inv X pins σ H s)(h:SqT X.K H a xs)(h':SqT X.K H a ys):xs=ys:=by
 obtain⟨its,r,⟨o,e,_,n,d⟩,_⟩:=I.tuple h;obtain⟨its',r',⟨o',e',_,n',d'⟩,_⟩:=I.tuple h';rw[e]at e';cases e';rw[d]at d';injection d' with d1 _;have:its=its':=by simpa using congrArg Array.toList d1
 subst this;exact r.inj r'
end
abbrev Cx.wish(X:Cx)(E:Ae->Ai->Prop):Cx:={ X with xe:=E}
abbrev Cx.nox(X:Cx):Cx:=X.wish λ_ _=>False
theorem Cx.Ok.wish{X:Cx}(ok:X.Ok)(E):(X.wish E).Ok:=
 ⟨ok.mod,ok.kind,ok.glob,ok.blt,ok.above,ok.inj,ok.has,ok.cab,ok.hd,ok.frames,ok.stk,ok.exf,ok.bs,ok.bsz,ok.noex,ok.exfs,ok.funs,ok.frf⟩
theorem Cx.Ok.unwish{X:Cx}(ok:(X.wish E).Ok):X.Ok:=
 ⟨ok.mod,ok.kind,ok.glob,ok.blt,ok.above,ok.inj,ok.has,ok.cab,ok.hd,ok.frames,ok.stk,ok.exf,ok.bs,ok.bsz,ok.noex,ok.exfs,ok.funs,ok.frf⟩
section
variable{X:Cx}{pins:List (Addr×Obj)}{σ:St}{H:Hp}{s:Ai}{E:Ae->Ai->Prop}
theorem Inv.wish(I:Inv X pins σ H s)(E):Inv (X.wish E) pins σ H s:=⟨I.ok.wish E,I.os,I.bare,I.base,I.loc,I.cell,I.free,I.freeC,I.pin,I.hok,I.len⟩
theorem Inv.unwish(I:Inv (X.wish E) pins σ H s):Inv X pins σ H s:=⟨I.ok.unwish,I.os,I.bare,I.base,I.loc,I.cell,I.free,I.freeC,I.pin,I.hok,I.len⟩
theorem SP.unwish(h:SP (X.wish E) pins D f s'):SP X pins D f s':=by
 cases f with
 |next=>obtain⟨σ',H',I,q⟩:=h;exact⟨σ',H',I.unwish,q⟩
 |brk=>obtain⟨σ',H',I,q⟩:=h;exact⟨σ',H',I.unwish,q⟩
 |cont=>obtain⟨σ',H',I,q⟩:=h;exact⟨σ',H',I.unwish,q⟩
 |ret u=>obtain⟨v,σ',H',I,r,q⟩:=h;exact⟨v,σ',H',I.unwish,r,q⟩
theorem PSs.nox{st:List Stmt}(h:PSs X.nox st t):PSs X st t:=λpins s σ H D I hw=>
 B6 (h pins s σ H D (I.wish _) hw) (λ_ _ q=>q.unwish) λ_ _ z=>False.elim z
end
section
variable{X:Cx}{st:Stmt}{rest:List Stmt}{t u:TS}{e:Expr}{te:TE}{pos:Pos}
def ph:TS:=λD σ H=>D.nx σ H
def fi(t u:TS):TS:=λD σ H=>t {D with nx:=u D} σ H
theorem qj:PSs X [] ph:=λ_ _ σ H _ I h=>Hf ⟨σ,H,I,h⟩
theorem f9(h1:PS X st t)(h2:PSs X rest u):PSs X (st::rest) (fi t u):=by
 intro pins s σ H D I h;refine wpAny_execs_cons (aG (h1 pins s σ H {D with nx:=u D} I h) λf s1 q=>?_);cases f with
 |next=>
  obtain⟨σ',H',I',q⟩:=q;exact h2 pins s1 σ' H' D I' q
 |ret v=>exact q
 |brk=>exact q
 |cont=>exact q
theorem ft(h1:PS X st t):PSs X [st] t:=by
 intro pins s σ H D I h;refine wpAny_execs_cons (aG (h1 pins s σ H D I h) λf s1 q=>?_);cases f with
 |next=>exact Hf q
 |ret v=>exact q
 |brk=>exact q
 |cont=>exact q
theorem Inv.quiet{σ:St}(I:Inv X pins σ H s):interactive X.env=ai:=by simp[interactive,I.ok.kind]
def xA(te:TE):TS:=λD σ H=>te σ H λ_ H1=>D.nx σ H1
theorem U1(he:PE X e te)(hs:Dp e af pos.line X.env=pure ai:=by rfl):PS X (.Expr e pos) (xA te):=by
 intro pins s σ H D I h;exact wpAny_Expr_any (aG (he pins s σ H _ I h) λv s1 ⟨x,H1,I1,r1,q1⟩=>⟨σ,H1,I1,q1⟩) I.quiet hs
def fJ(te:TE):TS:=λD σ H=>te σ H D.rt
theorem iQ(he:PE X e te):PS X (.Return (ae e) pos) (fJ te):=by
 intro pins s σ H D I h;exact wpAny_Return_some (aG (he pins s σ H _ I h) λv s1 ⟨x,H1,I1,r1,q1⟩=>⟨x,σ,H1,I1,r1,q1⟩)
def eQ(c:TT)(t u:TS):TS:=λD σ H=>c σ H λb H1=>if b=ah then t D σ H1 else u D σ H1
theorem lG(hc:PT X c tc)(ha:PSs X a t)(hb:PSs X b u):PS X (.If c a b pos) (eQ tc t u):=by
 intro pins s σ H D I h;refine wpAny_If (aG (hc pins s σ H _ I h) λd s1 ⟨H1,I1,q1⟩=>?_);cases d with
 |true=>exact ha pins s1 σ H1 D I1 q1
 |false=>exact hb pins s1 σ H1 D I1 q1
end
abbrev TG:=V->St->Hp->(St->Hp->Prop)->Prop
abbrev gT:=List V->St->Hp->(St->Hp->Prop)->Prop
def PG(X:Cx)(target:Expr)(t:TG):Prop:=
 ∀(pins:List (Addr×Obj))(s:Ai)(σ:St)(H:Hp)(v:V)(u:Ae)(Q:St->Hp->Prop),Inv X pins σ H s->RelV v u->t v σ H Q->
  Av (A9 X.prog X.w) X.A (assign target X.env u) (λ_ s'=>∃σ' H',Inv X pins σ' H' s'/\Q σ' H') X.xe s
def nG(X:Cx)(ts:List Expr)(t:gT):Prop:=
 ∀(pins:List (Addr×Obj))(s:Ai)(σ:St)(H:Hp)(vs:List V)(us:List Ae)(Q:St->Hp->Prop),Inv X pins σ H s->Vals vs us->t vs σ H Q->
  Av (A9 X.prog X.w) X.A (assignInOrder ((Es ts X.env).map (·.2)) us) (λ_ s'=>∃σ' H',Inv X pins σ' H' s'/\Q σ' H') X.xe s
abbrev lA:=V->V->V->Hp->(Hp->Prop)->Prop
def oO(X:Cx)(t:lA):Prop:=
 ∀(pins:List (Addr×Obj))(s:Ai)(σ:St)(H:Hp)(o i v:V)(ov iv u:Ae)(Q:Hp->Prop),Inv X pins σ H s->RelV o ov->RelV i iv->RelV v u->t o i v H Q->
  Av (A9 X.prog X.w) X.A (setItem ov iv u) (λ_ s'=>∃H',Inv X pins σ H' s'/\Q H') X.xe s
section
variable{X:Cx}{pos:Pos}
def cv(i:Nat):TG:=λv σ H Q=>Q (σ.set i (ae v)) H
theorem Tj(hN:X.N.Nodup)(hi:X.N[i]?=ae x)(hx:gw X.env.scope x)(hf:X.fn x=ah\/X.env.scope.names.lookup x=ae .local:=by first|exact .inl rfl|exact .inr rfl|assumption):PG X (.Name x pos) (cv i):=by
 intro pins s σ H v u Q I r h;exact wpAny_assign_Name (qz I hN hi hx r (λs' I'=>⟨_,H,I',h⟩) hf)
def oP:gT:=λvs σ H Q=>vs=[]/\Q σ H
def CA(t:TG)(u:gT):gT:=λvs σ H Q=>∃v r,vs=v::r/\t v σ H λσ' H'=>u r σ' H' Q
theorem MI:nG X [] oP:=by
 intro pins s σ H vs us Q I r h;obtain⟨e,h⟩:=h;subst e;cases r;exact assignInOrder_nil ⟨σ,H,I,h⟩
theorem UX(h1:PG X e t)(h2:nG X es u)
  (hs:(Es (e::es) X.env).map (·.2)=assign e X.env::(Es es X.env).map (·.2):=by rfl):nG X (e::es) (CA t u):=by
 intro pins s σ H vs us Q I r h;obtain⟨v,vr,e1,h⟩:=h;subst e1;cases r with
 |cons r rr=>
  rw[hs];refine assignInOrder_cons (aG (h1 pins s σ H _ _ _ I r h) λ_ s1 ⟨σ1,H1,I1,q1⟩=>?_);exact h2 pins s1 σ1 H1 _ _ Q I1 rr q1
def kR(K:Af)(n:Nat)(t:gT):TG:=λv σ H Q=>∃a xs,v=.ref a/\SqT K H a xs/\xs.length=n/\t xs σ H Q
theorem SD{k:Nat}(hc:X.calm=ah)(h:nG X es t)
  (hn:(Es es X.env).length=n:=by rfl) (hst:(Es es X.env).findIdx? (·.1)=af:=by rfl):PG X (.Tuple es k pos) (kR X.K n t):=by
 intro pins s σ H v u Q I r hw;obtain⟨a,xs,e1,hq,hl,hw⟩:=hw;subst e1;cases r;obtain⟨its,rv,ht,hz⟩:=I.tuple hq;refine assign_Tuple_tuple (I.ok.hd hc) ht (by simp[hn,<-hl,rv.length]) hst λh' hx=>?_;have I1:Inv X pins σ H {s with heap:=h'}:=I.kept (t':=s.toks) λb o e=>hx b o (A8 (Ao e)) e;exact h pins _ σ H xs _ Q I1 (by simpa using rv) hw
def v9(to ti:TE)(t:lA):TG:=λv σ H Q=>to σ H λo H1=>ti σ H1 λi H2=>t o i v H2 λH3=>Q σ H3
theorem tV(ho:PE X o to)(hi:PE X i ti)(hs:oO X t)
  (ha:∀v,assign (.Subscript o i pos) X.env v=(do
   let ov <-holding [v] (eval o X.env)
   let iv <-holding [v,ov] (eval i X.env)
   standAt pos
   holding [v,ov,iv] (setItem ov iv v)
   release [v,ov,iv] []):=by intro _;rfl):PG X (.Subscript o i pos) (v9 to ti t):=by
 intro pins s σ H v u Q I r h;rw[ha];refine Aa (B3 (aG (ho pins s σ H _ I h) λov s1 ⟨x,H1,I1,r1,q1⟩=>?_));refine Aa (B3 (aG (hi pins s1 σ H1 _ I1 q1) λiv s2 ⟨y,H2,I2,r2,q2⟩=>?_));refine Aa (Fv (Aa (B3 (aG (hs pins s2 σ H2 x y v ov iv u _ I2 r1 r2 r q2) λ_ s3 ⟨H3,I3,q3⟩=>?_))));exact wpAny_release ⟨σ,H3,I3,q3⟩
def aW(te:TE)(g:TG):TS:=λD σ H=>te σ H λx H1=>g x σ H1 D.nx
theorem rG(he:PE X e te)(hg:PG X tg g)(hs:swapsWithSole [tg] e pos.line X.env=pure ai:=by rfl)(hw:swappedStores [tg] e X.env=pure af:=by rfl)
  (h1:(Es [tg] X.env).map (·.2)=[assign tg X.env]:=by rfl):PS X (.Assign [tg] e pos) (aW te g):=by
 intro pins s σ H D I h;refine wpAny_Assign_stores (aG (he pins s σ H _ I h) λv s1 ⟨x,H1,I1,r1,q1⟩=>?_) hs hw;rw[h1];exact aG (hg pins s1 σ H1 x v _ I1 r1 q1) λ_ s2 q=>q
theorem dZ(hN:X.N.Nodup)(hi:X.N[i]?=ae x)(hx:gw X.env.scope x)(he:PE X e te)(hs:Dp e (ae (.Name x pos')) pos.line X.env=pure ai:=by rfl)(hf:X.fn x=ah\/X.env.scope.names.lookup x=ae .local:=by first|exact .inl rfl|exact .inr rfl|assumption):
  PS X (.Assign [.Name x pos'] e pos) (aW te (cv i)):=by
 intro pins s σ H D I h;refine wpAny_Assign_Name (aG (he pins s σ H _ I h) λv s1 ⟨y,H1,I1,r1,q1⟩=>?_) hs;exact qz I1 hN hi hx r1 (λs2 I2=>⟨_,H1,I2,q1⟩) hf
end
section
variable{X:Cx}{pos:Pos}
def uf(c:TT)(tb:TS):TS:=λD σ H=>∃W:Nat->St->Hp->Prop,(∃m,W m σ H)/\∀m σ H,W m σ H->
 c σ H λb H1=>if b=ah then ∃N:St->Hp->Prop,(∀σ' H',N σ' H'->∃m',m' < m/\W m' σ' H')/\tb {D with nx:=N,ct:=N,bk:=D.nx} σ H1 else D.nx σ H1
theorem zq(hp:PassesOwn (A9 X.prog X.w) X.A X.env X.xe)(hc:PT X c tc)(hb:PSs X body tb):PS X (.While c body [] pos) (uf tc tb):=by
 intro pins s σ H D I h;obtain⟨W,⟨m0,w0⟩,turn⟩:=h;refine wpAny_While (codeAny_whileLoop (λn s'=>∃σ' H',Inv X pins σ' H' s'/\W n σ' H') ?_ m0 ⟨σ,H,I,w0⟩)
 rintro n s1 ⟨σ1,H1,I1,w1⟩
 refine Fs hp (aG (hc pins s1 σ1 H1 _ I1 (turn n σ1 H1 w1)) λb s2 ⟨H2,I2,q2⟩=>?_);cases b with
 |true=>
  obtain⟨N,hN,q2⟩:=q2;rw[if_pos rfl];refine Fs hp (aG (hb pins s2 σ1 H2 _ I2 q2) λf s3 q3=>?_);cases f with
  |next=>
   obtain⟨σ3,H3,I3,n3⟩:=q3;obtain⟨m',hm,w3⟩:=hN σ3 H3 n3;exact⟨m',hm,σ3,H3,I3,w3⟩
  |cont=>
   obtain⟨σ3,H3,I3,n3⟩:=q3;obtain⟨m',hm,w3⟩:=hN σ3 H3 n3;exact⟨m',hm,σ3,H3,I3,w3⟩
  |brk=>exact q3
  |ret v=>exact q3
 |false=>
  rw[if_neg Ak];exact Hf ⟨σ1,H2,I2,q2⟩
end
structure It where
 go:Nat->Hp->Prop
 yld:Nat->Hp->V->Hp->Prop
 stop:Nat->Hp->Prop
def cw(X:Cx)(pins:List (Addr×Obj))(H:Hp)(b:Addr):Prop:=
 H b=af/\b≠X.env.locals/\b∉X.fs/\(b∈X.ex\/X.s₀.heap.objs.size<=b)/\(∀x c,X.env.cells.lookup x=ae c->c≠b)/\∀p∈X.pn++pins,p.1≠b
theorem Inv.fpOk{σ:St}{b:Addr}(I:Inv X pins σ H s)(hb:s.heap.objs.size<=b)(hn:H' b=af):cw X pins H' b:=by
 refine⟨hn,Ej (Bd I.lt hb),I.nofs hb,.inr (Bb I.sz hb),λx c e z=>?_,λp hp z=>?_⟩
 ·obtain⟨v,q⟩:=I.cell x c e;exact absurd (Bd q.lt (by rw[z];exact hb)) (Ek _)
 ·exact absurd (Bd (Ao (I.pin p hp).1) (by rw[z];exact hb)) (Ek _)
structure Turn(P:A7)(w:Bi)(K:Af)(tg:Expr)(J:It)(fp:List Addr)(it:Addr)(tn:Nat->Heap->Prop):Prop where
 mem:it∈fp
 obj:∀i h,tn i h->∀b∈fp,∃o,h.get? b=ae o/\∀v,o.data≠.cell v
 keep:∀i h h',tn i h->(∀b∈fp,∀o,h.get? b=ae o->h'.get? b=ae o)->tn i h'
 item:∀(X:Cx),X.prog=P->X.w=w->X.K=K->X.calm=ah->∀(i:Nat)(pins:List (Addr×Obj))(s:Ai)(σ:St)(H:Hp)(E:Ae->Ai->Prop),Inv X pins σ H s->(∀b∈fp,cw X pins H b)->tn i s.heap->J.go i H->
  Av (A9 P w) X.A (pyNext (.ref it)) (λr s1=>∃u,r=ae u /\
   Av (A9 P w) X.A (letOwnedTupleGo tg (.ref it) u) (λ_ s2=>∃x H',Inv X pins σ H' s2/\RelV x u/\J.yld i H x H'/\tn (i+1) s2.heap/\∀b∈fp,H' b=af) E s1) E s
 done:∀(X:Cx),X.prog=P->X.w=w->X.K=K->X.calm=ah->∀(i:Nat)(pins:List (Addr×Obj))(s:Ai)(σ:St)(H:Hp)(E:Ae->Ai->Prop),Inv X pins σ H s->(∀b∈fp,cw X pins H b)->tn i s.heap->J.stop i H->
  Av (A9 P w) X.A (pyNext (.ref it)) (λr s1=>r=af/\Inv X pins σ H s1) E s
 self:∀(A:Br)(i:Nat)(s:Ai)(Q:Ae->Ai->Prop)(E:Ae->Ai->Prop),tn i s.heap->Q (.ref it) s->Av (A9 P w) A (pyIter (.ref it)) Q E s
abbrev TI:=St->Hp->(It->Hp->Prop)->Prop
def yw(X:Cx)(pins:List (Addr×Obj))(σ:St)(tg:Expr)(R:It->Hp->Prop)(itv:Ae)(s2:Ai):Prop:=
 ∃(it:Addr)(fp:List Addr)(tn:Nat->Heap->Prop)(J:It)(H':Hp),itv=.ref it/\Inv X pins σ H' s2/\Turn X.prog X.w X.K tg J fp it tn/\tn 0 s2.heap/\(∀b∈fp,cw X pins H' b)/\R J H'
def PI(X:Cx)(tg iter:Expr)(wi:TI):Prop:=
 ∀(pins:List (Addr×Obj))(s:Ai)(σ:St)(H:Hp)(R:It->Hp->Prop),Inv X pins σ H s->wi σ H R->
  Av (A9 X.prog X.w) X.A (eval iter X.env) (λv s1=>Av (A9 X.prog X.w) X.A (pyIter v) (yw X pins σ tg R) X.xe s1) X.xe s
theorem sG(ho:s.heap.get? it=ae o)(hc:o.cls=.type n)(hd:o.data=.fields vs)
  (hn:["enumerate","zip","dict_itemiterator","dict_reverseitemiterator","odict_iterator","itertools.zip_longest","itertools.pairwise"].contains n=ai) (hQ:Q () s):Av M A (letOwnedTupleGo tg (.ref it) u) Q E s:=by
 unfold letOwnedTupleGo;cases tg<;>first
  |exact Aj hQ
  | (cases u<;>first
    |exact Aj hQ
    | (refine Aa (wpAny_load ho ?_)
       rw[hc,hd];show Av M A (if (["enumerate","zip","dict_itemiterator","dict_reverseitemiterator","odict_iterator","itertools.zip_longest","itertools.pairwise"].contains n&&vs[0]?==ae (rawInt _))=ah then _ else _) Q E s;rw[if_neg (by intro h;rw[hn,Bool.false_and]at h;cases h)];exact Aj hQ))
def HS(K:Af)(a:Addr):It:=
 ⟨λi H=>∃xs x,SqL K H a xs/\xs[i]?=ae x,λi H x H'=>H'=H/\∀xs,SqL K H a xs->xs[i]?=ae x,λi H=>∃xs,SqL K H a xs/\xs.length<=i⟩
def FT(K:Af)(a:Addr):It:=
 ⟨λi H=>∃xs x,SqT K H a xs/\xs[i]?=ae x,λi H x H'=>H'=H/\∀xs,SqT K H a xs->xs[i]?=ae x,λi H=>∃xs,SqT K H a xs/\xs.length<=i⟩
def qk(lo:Int)(n:Nat):It:=⟨λi _=>i < n,λi H x H'=>H'=H/\x=.int (lo+i),λi _=>n<=i⟩
theorem Rh{K:Af}(a it):Turn P w K tg (HS K a) [it] it (λi h=>h.IsListIter it a i) where
 mem:=by simp
 obj:=λi h st b hb=>by
  have e:b=it:=by simpa using hb
  subst e;obtain⟨o,e,c,d⟩:=st;exact⟨o,e,λv z=>by rw[d]at z;cases z⟩
 keep:=λi h h' st k=>st.at λo e=>k it (by simp) o e
 item:=by
  intro X hP hw hK hc i pins s σ H E I hf st hg;subst hP hw hK;obtain⟨xs,x,hq,hx⟩:=hg;obtain⟨its,rv,p,hz⟩:=I.list hq;obtain⟨u,hu,ru⟩:=rv.get hx;obtain⟨f0,f1,f2,f3,f4,f5⟩:=hf it (by simp);refine wpAny_pyNext_list_item st p.isList (x:=u) (by simpa using hu) λh' st' sb=>?_;have I1:Inv X pins σ H {s with heap:=h'}:=I.turned (t':=s.toks) (λb o hb e=>(sb.2 b hb).trans e) f0 f1 f3 f4 f5;obtain⟨o,e,c,d⟩:=id st';exact⟨u,rfl,sG (s:={ s with heap:=h'}) e c d ∎ ⟨x,H,I1,ru,⟨rfl,λys hy=>by rw[I.list_inj hy hq];exact hx⟩,st',λb hb=>(hf b hb).1⟩⟩
 done:=by
  intro X hP hw hK hc i pins s σ H E I hf st hg;subst hP hw hK;obtain⟨xs,hq,hx⟩:=hg;obtain⟨its,rv,p,hz⟩:=I.list hq;obtain⟨f0,f1,f2,f3,f4,f5⟩:=hf it (by simp);have hl:=rv.length;exact wpAny_pyNext_list_end (I.ok.hd hc) st p.isList (by simp;omega) λh' eb=>⟨rfl,I.turned (t':=s.toks) (λb o hb e=>eb b o hb e) f0 f1 f3 f4 f5⟩
 self:=λ_ _ _ _ _ st h=>wpAny_pyIter_listiter st h
theorem Ur{K:Af}(a it):Turn P w K tg (FT K a) [it] it (λi h=>h.IsTupleIter it a i) where
 mem:=by simp
 obj:=λi h st b hb=>by
  have e:b=it:=by simpa using hb
  subst e;obtain⟨o,e,c,d⟩:=st;exact⟨o,e,λv z=>by rw[d]at z;cases z⟩
 keep:=λi h h' st k=>st.at λo e=>k it (by simp) o e
 item:=by
  intro X hP hw hK hc i pins s σ H E I hf st hg;subst hP hw hK;obtain⟨xs,x,hq,hx⟩:=hg;obtain⟨its,rv,p,hz⟩:=I.tuple hq;obtain⟨u,hu,ru⟩:=rv.get hx;obtain⟨f0,f1,f2,f3,f4,f5⟩:=hf it (by simp);refine wpAny_pyNext_tuple_item st (show s.heap.IsTuple a its.toArray from p) (x:=u) (by simpa using hu) λh' st' sb=>?_;have I1:Inv X pins σ H {s with heap:=h'}:=I.turned (t':=s.toks) (λb o hb e=>(sb.2 b hb).trans e) f0 f1 f3 f4 f5;obtain⟨o,e,c,d⟩:=id st';exact⟨u,rfl,sG (s:={ s with heap:=h'}) e c d ∎ ⟨x,H,I1,ru,⟨rfl,λys hy=>by rw[I.tuple_inj hy hq];exact hx⟩,st',λb hb=>(hf b hb).1⟩⟩
 done:=by
  intro X hP hw hK hc i pins s σ H E I hf st hg;subst hP hw hK;obtain⟨xs,hq,hx⟩:=hg;obtain⟨its,rv,p,hz⟩:=I.tuple hq;obtain⟨f0,f1,f2,f3,f4,f5⟩:=hf it (by simp);have hl:=rv.length;exact wpAny_pyNext_tuple_end (I.ok.hd hc) st (show s.heap.IsTuple a its.toArray from p) (by simp;omega) λh' eb=>⟨rfl,I.turned (t':=s.toks) (λb o hb e=>eb b o hb e) f0 f1 f3 f4 f5⟩
 self:=λ_ _ _ _ _ st h=>wpAny_pyIter_tupleiter st h
theorem UH{K:Af}(it)(lo)(n):Turn P w K tg (qk lo n) [it] it (λi h=>IsRangeIter h it (lo+(i:Nat)*1) ((n:Int)-(i:Nat)) 1) where
 mem:=by simp
 obj:=λi h st b hb=>by
  have e:b=it:=by simpa using hb
  subst e;exact⟨_,st,λv z=>by
   have z':Data.fields _=Data.cell v:=z;cases z'⟩
 keep:=λi h h' st k=>k it (by simp) _ st
 item:=by
  intro X hP hw hK hc i pins s σ H E I hf st hg;subst hP hw hK;obtain⟨f0,f1,f2,f3,f4,f5⟩:=hf it (by simp);have W:=Walks.range (prog:=X.prog) (w:=X.w) (I.ok.hd hc) it lo 1 n;refine W.item i s _ _ hg st λv h' tk hv st' kk=>?_;obtain⟨t,rfl⟩:=hv;have I1:Inv X pins σ H {s with heap:=h',toks:=tk}:=I.turned (λb o hb e=>kk b o (by simpa using hb) e) f0 f1 f3 f4 f5;refine⟨_,rfl,sG (s:={ s with heap:=h',toks:=tk}) (n:="range_iterator") st' rfl rfl ∎ ⟨.int (lo+i),H,I1,⟨t,?_⟩,⟨rfl,rfl⟩,st',λb hb=>(hf b hb).1⟩⟩;rw[Int.mul_one]
 done:=by
  intro X hP hw hK hc i pins s σ H E I hf st hg;subst hP hw hK;obtain⟨f0,f1,f2,f3,f4,f5⟩:=hf it (by simp);exact wpAny_pyNext_range_end (I.ok.hd hc) st (by have:n<=i:=hg;omega) λh' eb=>⟨rfl,I.turned (t':=s.toks) (λb o hb e=>eb b o hb e) f0 f1 f3 f4 f5⟩
 self:=λ_ _ _ _ _ st h=>wpAny_pyIter_rangeiter st h
section
variable{X:Cx}{tg:Expr}
def om(K:Af)(tl:TE):TI:=λσ H R=>tl σ H λx H1=>∃a,x=.ref a/\(∃xs,SqL K H1 a xs)/\R (HS K a) H1
def lF(K:Af)(tl:TE):TI:=λσ H R=>tl σ H λx H1=>∃a,x=.ref a/\(∃xs,SqT K H1 a xs)/\R (FT K a) H1
theorem y8(hl:PE X l tl):PI X tg l (om X.K tl):=by
 intro pins s σ H R I h;refine aG (hl pins s σ H _ I h) λv s1 ⟨x,H1,I1,r1,q1⟩=>?_;obtain⟨a,e,⟨xs,hq⟩,q⟩:=q1;subst e;cases r1;obtain⟨its,rv,p,hz⟩:=I1.list hq;refine wpAny_pyIter_list p.isList ?_;refine⟨s1.heap.objs.size,[s1.heap.objs.size],_,_,H1,rfl,I1.kept (t':=s1.toks) λb o e=>Ah _ e,Rh a _,⟨_,A0 _ rfl,rfl,rfl⟩,λb hb=>?_,q⟩;have e:b=s1.heap.objs.size:=by simpa using hb
 subst e;exact I1.fpOk (Am _) (I1.hok.fresh (Am _))
theorem OV(hl:PE X l tl):PI X tg l (lF X.K tl):=by
 intro pins s σ H R I h;refine aG (hl pins s σ H _ I h) λv s1 ⟨x,H1,I1,r1,q1⟩=>?_;obtain⟨a,e,⟨xs,hq⟩,q⟩:=q1;subst e;cases r1;obtain⟨its,rv,p,hz⟩:=I1.tuple hq;refine Eo (show s1.heap.IsTuple a its.toArray from p) ?_;refine⟨s1.heap.objs.size,[s1.heap.objs.size],_,_,H1,rfl,I1.kept (t':=s1.toks) λb o e=>Ah _ e,Ur a _,⟨_,A0 _ rfl,rfl,rfl⟩,λb hb=>?_,q⟩;have e:b=s1.heap.objs.size:=by simpa using hb
 subst e;exact I1.fpOk (Am _) (I1.hok.fresh (Am _))
theorem To{σ:St}{lo hi:Int}(I:Inv X pins σ H s)(h1:-(2 ^ 62)<=lo)(h2:lo < 2 ^ 62)(h3:-(2 ^ 62)<=hi)(h4:hi < 2 ^ 62)
  (q:R (qk lo (hi-lo).toNat) H):Av (A9 X.prog X.w) X.A (pyIter (.ref s.heap.objs.size)) (yw X pins σ tg R) E {s with heap:=s.heap.push {cls:=.type "range",data:=.fields #[.int lo t,.int hi u,.int 1 v]},toks:=tk}:=by
 refine wpAny_pyIter_range (IsRange.new ..) (small_one h1 h2 h3 h4) ?_;have I1:Inv X pins σ H {s with heap:=s.heap.push {cls:=.type "range",data:=.fields #[.int lo t,.int hi u,.int 1 v]},toks:=tk}:=I.kept λb o e=>Ah _ e;refine⟨(s.heap.push {cls:=.type "range",data:=.fields #[.int lo t,.int hi u,.int 1 v]}).objs.size,[(s.heap.push {cls:=.type "range",data:=.fields #[.int lo t,.int hi u,.int 1 v]}).objs.size],_,_,H,rfl,
  I1.kept (t':=tk) λb o e=>Ah _ e,UH _ lo (hi-lo).toNat,?_,λb hb=>?_,q⟩
 ·have e1:lo+((0:Nat):Int)*1=lo:=by simp
  have e2:(((hi-lo).toNat:Nat):Int)-((0:Nat):Int)=Builtin.Range.rangeSize lo hi 1:=by rw[rangeSize_one];split<;>omega
  show IsRangeIter _ _ (lo+((0:Nat):Int)*1) ((((hi-lo).toNat:Nat):Int)-((0:Nat):Int)) 1;rw[e1,e2];exact A0 _ rfl
 ·have e:b=(s.heap.push {cls:=.type "range",data:=.fields #[.int lo t,.int hi u,.int 1 v]}).objs.size:=by simpa using hb
  subst e;exact I1.fpOk (Am _) (I1.hok.fresh (Am _))
def nL(ta:TA):TI:=λσ H R=>ta σ H λvs H1=>∃j:Int,vs=[.int j]/\-(2 ^ 62)<=j/\j < 2 ^ 62/\R (qk 0 j.toNat) H1
theorem Mf(hg:Gl X "range")(hm:X.mg "range"=af)(ha:PA X [a] ta)(hs:Ap [a] X.env=[(ai,eval a X.env)]:=by rfl):PI X tg (.Call (.Name "range" p) [a] [] pos) (nL ta):=by
 intro pins s σ H R I h;refine Call_ (jU I hg hm boot_range (C8 (aG (ha pos pins s σ H _ I h) λus s1 ⟨vs,H1,I1,r1,q1⟩=>?_) hs rfl));obtain⟨j,e,q1,q2,q⟩:=q1;subst e;cases r1 with
 |cons r rr=>
  cases rr;obtain⟨t,rfl⟩:=r;exact call_range_1 (To I1 ⋯ ⋯ q1 q2 (by simpa using q))
def fV(wi:TI)(g:TG)(tb:TS):TS:=λD σ H=>wi σ H λJ H1=>∃W:Nat->Nat->St->Hp->Prop,(∃m,W 0 m σ H1)/\∀i m σ H,W i m σ H->
 (J.stop i H/\D.nx σ H)\/(J.go i H/\∃N:St->Hp->Prop,(∀σ' H',N σ' H'->∃m',m' < m/\W (i+1) m' σ' H')/\∀x H',J.yld i H x H'->g x σ H' λσ2 H2=>tb {D with nx:=N,ct:=N,bk:=D.nx} σ2 H2)
def mN(fp:List Addr)(h:Heap):List (Addr×Obj):=fp.filterMap λb=>(h.get? b).map λo=>(b,o)
theorem mC(hb:b∈fp)(e:h.get? b=ae o):(b,o)∈mN fp h:=Gh.mpr ⟨b,hb,by rw[e];rfl⟩
theorem LH(hp:p∈mN fp h):p.1∈fp/\h.get? p.1=ae p.2:=by
 obtain⟨b,hb,e⟩:=Gh.mp hp;cases q:h.get? b with
 |none=>rw[q]at e;cases e
 |some o=>
  rw[q]at e;have e':(b,o)=p:=A4 e;subst e';exact⟨hb,q⟩
theorem Inv.pinned{σ:St}(I:Inv X pins σ H s)(hf:∀b∈fp,cw X pins H b)(ho:∀b∈fp,∃o,s.heap.get? b=ae o/\∀v,o.data≠.cell v):Inv X (pins++mN fp s.heap) σ H s:=
 I.pins_of λp hp=>(Bv.mp hp).elim (λz=>I.pin p (Bt _ z)) λz=>by
  obtain⟨hb,e⟩:=LH z;obtain⟨f0,f1,f2,_⟩:=hf p.1 hb;obtain⟨o,e',d⟩:=ho p.1 hb;rw[e]at e';cases e';exact⟨e,f0,f1,f2,d⟩
theorem Inv.unpinned{σ:St}(I:Inv X (pins++pl) σ H s):Inv X pins σ H s:=I.pins_of λp hp=>I.pin p (Bt _ (Fx _ hp))
theorem UI(hp:PassesOwn (A9 X.prog X.w) X.A X.env X.xe)(hc:X.calm=ah)(hi:PI X tg iter wi)(hg:PG X tg g)(hb:PSs X body tb)
  (hs:∀x,F0 iter X.env x=pure x:=by intro _;rfl):PS X (.For tg iter body [] pos) (fV wi g tb):=by
 intro pins s σ H D I h;refine wpAny_For (aG (hi pins s σ H _ I h) λv s1 h1=>aG h1 λitv s2 h2=>?_) hs;obtain⟨it,fp,tn,J,H2,e,I2,T,st2,f2,W,⟨m0,w0⟩,turn⟩:=h2;subst e
 have stat:∀{H':Hp},(∀b∈fp,H' b=af)->∀b∈fp,cw X pins H' b:=λhn b hb=>⟨hn b hb,(f2 b hb).2⟩;refine codeAny_forLoop_any (λn s'=>∃i σ' H',Inv X pins σ' H' s'/\tn i s'.heap/\(∀b∈fp,H' b=af)/\W i n σ' H') ?_ m0 ⟨0,σ,H2,I2,st2,λb hb=>(f2 b hb).1,w0⟩
 rintro n s3 ⟨i,σ3,H3,I3,st3,fr3,w3⟩
 rcases turn i n σ3 H3 w3 with⟨stop,qn⟩|⟨go,N,hN,step⟩
 ·refine Fs hp (aG (T.done X rfl rfl rfl hc i pins s3 σ3 H3 X.xe I3 (stat fr3) st3 stop) λr s4 ⟨hr,I4⟩=>?_);subst hr;exact Hf ⟨σ3,H3,I4,qn⟩
 ·refine Fs hp (aG (T.item X rfl rfl rfl hc i pins s3 σ3 H3 X.xe I3 (stat fr3) st3 go) λr s4 ⟨u,hr,h4⟩=>?_);subst hr;refine Fs hp (aG h4 λ_ s5 ⟨x,H5,I5,r5,y5,st5,fr5⟩=>?_);have I5':=I5.pinned (stat fr5) (T.obj _ _ st5);refine Fs hp (aG (hg _ s5 σ3 H5 x u _ I5' r5 (step x H5 y5)) λ_ s6 ⟨σ6,H6,I6,q6⟩=>?_);refine Fs hp (aG (hb _ s6 σ6 H6 _ I6 q6) λf s7 q7=>?_);have again:∀{σ7:St}{H7:Hp},Inv X (pins++mN fp s5.heap) σ7 H7 s7->N σ7 H7->∃m,m < n/\∃i σ' H',Inv X pins σ' H' s7/\tn i s7.heap/\(∀b∈fp,H' b=af)/\W i m σ' H':=λ{σ7 H7} I7 n7=>by
   obtain⟨m',hm,w7⟩:=hN σ7 H7 n7;refine⟨m',hm,i+1,σ7,H7,I7.unpinned,T.keep _ _ _ st5 λb hb o e=>(I7.pin (b,o) (Bt _ (Bt _ (mC hb e)))).1,λb hb=>?_,w7⟩;obtain⟨o,e,d⟩:=T.obj _ _ st5 b hb;exact(I7.pin (b,o) (Bt _ (Bt _ (mC hb e)))).2.1
  cases f with
  |next=>obtain⟨σ7,H7,I7,n7⟩:=q7;exact again I7 n7
  |cont=>obtain⟨σ7,H7,I7,n7⟩:=q7;exact again I7 n7
  |brk=>obtain⟨σ7,H7,I7,q7⟩:=q7;exact⟨σ7,H7,I7.unpinned,q7⟩
  |ret v=>obtain⟨x7,σ7,H7,I7,r7,q7⟩:=q7;exact⟨x7,σ7,H7,I7.unpinned,r7,q7⟩
end
abbrev R2:=V->V->Hp->VK->Prop
def OpR(X:Cx)(f:Ae->Ae->Sem Ae)(r:R2):Prop:=
 ∀(pins:List (Addr×Obj))(s:Ai)(σ:St)(H:Hp)(x y:V)(v u:Ae)(Q:VK),Inv X pins σ H s->RelV x v->RelV y u->r x y H Q->
  Av (A9 X.prog X.w) X.A (f v u) (EP X pins σ Q) X.xe s
def uG(X:Cx)(f:Ae->Sem Ae)(r:V->Hp->VK->Prop):Prop:=
 ∀(pins:List (Addr×Obj))(s:Ai)(σ:St)(H:Hp)(x:V)(v:Ae)(Q:VK),Inv X pins σ H s->RelV x v->r x H Q->
  Av (A9 X.prog X.w) X.A (f v) (EP X pins σ Q) X.xe s
def CallR(X:Cx)(f:Ae)(r:List V->Hp->VK->Prop):Prop:=
 ∀(pins:List (Addr×Obj))(s:Ai)(σ:St)(H:Hp)(xs:List V)(us:List Ae)(Q:VK),Inv X pins σ H s->Vals xs us->r xs H Q->
  Av (A9 X.prog X.w) X.A (call f us) (EP X pins σ Q) X.xe s
def tF(X:Cx)(r:V->Hp->(Bool->Hp->Prop)->Prop):Prop:=
 ∀(pins:List (Addr×Obj))(s:Ai)(σ:St)(H:Hp)(x:V)(v:Ae)(Q:Bool->Hp->Prop),Inv X pins σ H s->RelV x v->r x H Q->
  Av (A9 X.prog X.w) X.A (truthy v) (TP X pins σ Q) X.xe s
def cS(r:R2)(ta tb:TE):TE:=λσ H Q=>ta σ H λx H1=>tb σ H1 λy H2=>r x y H2 Q
def yt(r:V->Hp->VK->Prop)(ta:TE):TE:=λσ H Q=>ta σ H λx H1=>r x H1 Q
def rI(C:Int->Int->Prop)(g:Int->Int->V):R2:=λx y H Q=>∃i j,x=.int i/\y=.int j/\C i j/\Q (g i j) H
def e9(g:Int->Int->V):R2:=λx y H Q=>∃i j,x=.int i/\y=.int j/\Q (g i j) H
def rU(g:Int->V):V->Hp->VK->Prop:=λx H Q=>∃i,x=.int i/\Q (g i) H
section
variable{X:Cx}{a b c:Expr}{ta tb tc:TE}{pos:Pos}
theorem kZ(ha:PE X a ta)(hb:PE X b tb){σ:St}{R:V->V->Hp->Prop}(I:Inv X pins σ H s)
  (h:ta σ H λx H1=>tb σ H1 λy H2=>R x y H2)  {f:Ae->Ae->Sem Ae}
  (hf:∀v u s2 x y H2,Inv X pins σ H2 s2->RelV x v->RelV y u->R x y H2->Av (A9 X.prog X.w) X.A (f v u) Q X.xe s2):
  Av (A9 X.prog X.w) X.A (eval a X.env) (λv s₁=>Av (A9 X.prog X.w) X.A (eval b X.env) (λu s₂=>Av (A9 X.prog X.w) X.A (f v u) Q X.xe s₂) X.xe s₁) X.xe s:=by
 refine aG (ha pins s σ H _ I h) λv s1 ⟨x,H1,I1,r1,q1⟩=>?_;refine aG (hb pins s1 σ H1 _ I1 q1) λu s2 ⟨y,H2,I2,r2,q2⟩=>?_;exact hf v u s2 x y H2 I2 r1 r2 q2
theorem dy(ho:OpR X (Er op) r)(ha:PE X a ta)(hb:PE X b tb):PE X (.BinOp a op b pos) (cS r ta tb):=by
 intro pins s σ H Q I h;exact wpAny_BinOp (kZ ha hb I h λv u s2 x y H2 I2 rx ry q=>ho pins s2 σ H2 x y v u Q I2 rx ry q)
theorem SG(ho:uG X (unaryOp op) r)(ha:PE X a ta):PE X (.UnaryOp op a pos) (yt r ta):=by
 intro pins s σ H Q I h;exact UnaryOp_ (aG (ha pins s σ H _ I h) λv s1 ⟨x,H1,I1,r1,q1⟩=>ho pins s1 σ H1 x v Q I1 r1 q1)
theorem sL{g:Int->Int->Int}
  (rule:∀(i j:Int)(t u:Tok)(s:Ai)(Q:Ae->Ai->Prop)(E:Ae->Ai->Prop),C i j->Q (.int (g i j) s.toks) {s with toks:=s.toks+1}->Av (A9 X.prog X.w) X.A (f (.int i t) (.int j u)) Q E s):
  OpR X f (rI C λi j=>.int (g i j)):=by
 intro pins s σ H x y v u Q I rx ry h;obtain⟨i,j,rfl,rfl,hc,q⟩:=h;obtain⟨t,rfl⟩:=rx;obtain⟨t',rfl⟩:=ry;exact rule i j t t' s _ _ hc ⟨.int (g i j),H,I.tok _,⟨_,rfl⟩,q⟩
theorem ou{g:Int->Int->Int}
  (rule:∀(i j:Int)(t u:Tok)(s:Ai)(Q:Ae->Ai->Prop)(E:Ae->Ai->Prop),Q (.int (g i j) s.toks) {s with toks:=s.toks+1}->Av (A9 X.prog X.w) X.A (f (.int i t) (.int j u)) Q E s):
  OpR X f (e9 λi j=>.int (g i j)):=by
 intro pins s σ H x y v u Q I rx ry h;obtain⟨i,j,rfl,rfl,q⟩:=h;obtain⟨t,rfl⟩:=rx;obtain⟨t',rfl⟩:=ry;exact rule i j t t' s _ _ ⟨.int (g i j),H,I.tok _,⟨_,rfl⟩,q⟩
theorem jj{g:Int->Int->Bool}
  (rule:∀(i j:Int)(t u:Tok)(s:Ai)(Q:Ae->Ai->Prop)(E:Ae->Ai->Prop),Q (.bool (g i j)) s->Av (A9 X.prog X.w) X.A (f (.int i t) (.int j u)) Q E s):
  OpR X f (e9 λi j=>.bl (g i j)):=by
 intro pins s σ H x y v u Q I rx ry h;obtain⟨i,j,rfl,rfl,q⟩:=h;obtain⟨t,rfl⟩:=rx;obtain⟨t',rfl⟩:=ry;exact rule i j t t' s _ _ ⟨.bl (g i j),H,I,rfl,q⟩
def vR(i j:Int):Prop:=0 < j/\j < 1073741824
def uJ(i j:Int):Prop:=0<=j/\j<=1000000/\i.natAbs < 2 ^ 64
def CMul(i j:Int):Prop:=(-(2 ^ 64) < i/\i < 2 ^ 64)\/(-(2 ^ 64) < j/\j < 2 ^ 64)
theorem CMul.ok(h:CMul i j):IntMulOk i j:=by
 rcases h with⟨h1,h2⟩|⟨h1,h2⟩
 ·exact .of_left (intBits_le_64 h1 h2)
 ·exact .of_right (intBits_le_64 h1 h2)
theorem op_add:OpR X (Er .Add) (e9 λi j=>.int (i+j)):=ou λ_ _ _ _ _ _ _ q=>add_int q
theorem Jj:OpR X (Er .Sub) (e9 λi j=>.int (i-j)):=ou λ_ _ _ _ _ _ _ q=>sub_int q
theorem lB:OpR X (Er .Mult) (rI CMul λi j=>.int (i*j)):=sL λ_ _ _ _ _ _ _ hc q=>mul_int q hc.ok
theorem HJ:OpR X (Er .FloorDiv) (rI vR λi j=>.int (i / j)):=sL λi j _ _ _ _ _ hc q=>by
 have h1:(0:Int) < j:=hc.1;have h2:j < 1073741824:=hc.2;exact floordiv_int ⋯ (by rw[Int.fdiv_eq_ediv_of_nonneg i ⋯];exact q) (.inl (PyProof.noPylong_small ⋯))
theorem jI:OpR X (Er .Mod) (rI (λ_ j=>0 < j) λi j=>.int (i % j)):=sL λi j _ _ _ _ _ hc q=>by
 have h1:(0:Int) < j:=hc;exact mod_int' ⋯ (by rw[Int.fmod_eq_emod_of_nonneg i ⋯];exact q)
theorem Ta:OpR X (Er .Pow) (rI uJ λi j=>.int (i ^ j.toNat)):=sL λ_ _ _ _ _ _ _ hc q=>pow_int_small hc.1 hc.2.1 hc.2.2 q
theorem Ml{g:Int->Int}
  (rule:∀(i:Int)(t:Tok)(s:Ai)(Q:Ae->Ai->Prop)(E:Ae->Ai->Prop),Q (.int (g i) s.toks) {s with toks:=s.toks+1}->Av (A9 X.prog X.w) X.A (f (.int i t)) Q E s):
  uG X f (rU λi=>.int (g i)):=by
 intro pins s σ H x v Q I rx h;obtain⟨i,rfl,q⟩:=h;obtain⟨t,rfl⟩:=rx;exact rule i t s _ _ ⟨.int (g i),H,I.tok _,⟨_,rfl⟩,q⟩
theorem Qx:uG X (unaryOp .USub) (rU λi=>.int (-i)):=Ml λ_ _ _ _ _ q=>neg_int q
end
def pK:V->V->Bool
 |.non,.non=>ah|.non,.int _=>ah|.int _,.non=>ah|.non,.bl _=>ah|.bl _,.non=>ah|.non,.str _=>ah|.str _,.non=>ah
 |.int _,.int _=>ah|.bl _,.bl _=>ah|.str _,.str _=>ah|.byt _,.byt _=>ah
 |.int _,.str _=>ah|.str _,.int _=>ah|.bl _,.str _=>ah|.str _,.bl _=>ah
 |_,_=>ai
def sQ:R2:=λx y H Q=>pK x y=ah/\Q (.bl (decide (x=y))) H
def HV:R2:=λx y H Q=>pK x y=ah/\Q (.bl (!decide (x=y))) H
theorem FZ:decide (V.int i=V.int j)=(i==j):=by
 rw[Dg];simp
theorem DD:decide (V.bl i=V.bl j)=(i==j):=by
 rw[Dg];simp
theorem DJ:decide (V.str i=V.str j)=(i==j):=by
 rw[Dg];simp
theorem GV:decide (V.byt i=V.byt j)=(i.toList==j.toList):=by
 rw[Dg];cases i;cases j;simp
section
variable{X:Cx}{a b c:Expr}{ta tb tc:TE}{pos:Pos}
theorem b7{σ:St}(I:Inv X pins σ H s)(q:Q (.bl k) H)(e:k=k'):EP X pins σ Q (.bool k') s:=by
 subst e;exact⟨.bl k,H,I,rfl,q⟩
theorem op_eq:OpR X (Bu .Eq) sQ:=by
 intro pins s σ H x y v u Q I rx ry h;obtain⟨hs,q⟩:=h;cases x with
 |non=>
  cases rx;cases y with
  |non=>cases ry;exact PySem.EqNone.eq_none_none (b7 I q (by simp))
  |bl j=>cases ry;exact PySem.EqNone.eq_none_bool (b7 I q (by simp))
  |int j=>obtain⟨t',rfl⟩:=ry;exact PySem.EqNone.eq_none_int (b7 I q (by simp))
  |str j=>obtain⟨t',rfl⟩:=ry;exact PySem.EqNone.eq_none_str (b7 I q (by simp))
  |_=>exact absurd (show ai=ah from hs) Ak
 |bl i=>
  cases rx;cases y with
  |non=>cases ry;exact PySem.EqNone.eq_bool_none (b7 I q (by simp))
  |bl j=>cases ry;exact eq_bool (b7 I q DD)
  |str j=>obtain⟨t',rfl⟩:=ry;exact PySem.EqMixed.eq_bool_str (b7 I q (by simp))
  |_=>exact absurd (show ai=ah from hs) Ak
 |int i=>
  obtain⟨t,rfl⟩:=rx;cases y with
  |non=>cases ry;exact PySem.EqNone.eq_int_none (b7 I q (by simp))
  |int j=>obtain⟨t',rfl⟩:=ry;exact eq_int (b7 I q FZ)
  |str j=>obtain⟨t',rfl⟩:=ry;exact PySem.EqMixed.eq_int_str (b7 I q (by simp))
  |_=>exact absurd (show ai=ah from hs) Ak
 |str i=>
  obtain⟨t,rfl⟩:=rx;cases y with
  |non=>cases ry;exact PySem.EqNone.eq_str_none (b7 I q (by simp))
  |bl j=>cases ry;exact PySem.EqMixed.eq_str_bool (b7 I q (by simp))
  |int j=>obtain⟨t',rfl⟩:=ry;exact PySem.EqMixed.eq_str_int (b7 I q (by simp))
  |str j=>obtain⟨t',rfl⟩:=ry;exact eq_str (b7 I q DJ)
  |_=>exact absurd (show ai=ah from hs) Ak
 |byt i=>
  obtain⟨t,rfl⟩:=rx;cases y with
  |byt j=>obtain⟨t',rfl⟩:=ry;exact PySem.W.eq_bytes (b7 I q GV)
  |_=>exact absurd (show ai=ah from hs) Ak
 |_=>cases y<;>exact absurd (show ai=ah from hs) Ak
theorem Kx:OpR X (Bu .NotEq) HV:=by
 intro pins s σ H x y v u Q I rx ry h;obtain⟨hs,q⟩:=h;cases x with
 |non=>
  cases rx;cases y with
  |non=>cases ry;exact PySem.EqNone.ne_none_none (b7 I q (by simp))
  |bl j=>cases ry;exact PySem.EqNone.ne_none_bool (b7 I q (by simp))
  |int j=>obtain⟨t',rfl⟩:=ry;exact PySem.EqNone.ne_none_int (b7 I q (by simp))
  |str j=>obtain⟨t',rfl⟩:=ry;exact PySem.EqNone.ne_none_str (b7 I q (by simp))
  |_=>exact absurd (show ai=ah from hs) Ak
 |bl i=>
  cases rx;cases y with
  |non=>cases ry;exact PySem.EqNone.ne_bool_none (b7 I q (by simp))
  |bl j=>cases ry;exact ne_bool (b7 I q (congrArg not DD))
  |str j=>obtain⟨t',rfl⟩:=ry;exact PySem.EqMixed.ne_bool_str (b7 I q (by simp))
  |_=>exact absurd (show ai=ah from hs) Ak
 |int i=>
  obtain⟨t,rfl⟩:=rx;cases y with
  |non=>cases ry;exact PySem.EqNone.ne_int_none (b7 I q (by simp))
  |int j=>obtain⟨t',rfl⟩:=ry;exact ne_int (b7 I q (congrArg not FZ))
  |str j=>obtain⟨t',rfl⟩:=ry;exact PySem.EqMixed.ne_int_str (b7 I q (by simp))
  |_=>exact absurd (show ai=ah from hs) Ak
 |str i=>
  obtain⟨t,rfl⟩:=rx;cases y with
  |non=>cases ry;exact PySem.EqNone.ne_str_none (b7 I q (by simp))
  |bl j=>cases ry;exact PySem.EqMixed.ne_str_bool (b7 I q (by simp))
  |int j=>obtain⟨t',rfl⟩:=ry;exact PySem.EqMixed.ne_str_int (b7 I q (by simp))
  |str j=>obtain⟨t',rfl⟩:=ry;exact ne_str (b7 I q (congrArg not DJ))
  |_=>exact absurd (show ai=ah from hs) Ak
 |byt i=>
  obtain⟨t,rfl⟩:=rx;cases y with
  |byt j=>obtain⟨t',rfl⟩:=ry;exact PySem.W.ne_bytes (b7 I q (congrArg not GV))
  |_=>exact absurd (show ai=ah from hs) Ak
 |_=>cases y<;>exact absurd (show ai=ah from hs) Ak
theorem op_lt:OpR X (Bu .Lt) (e9 λi j=>.bl (decide (i < j))):=jj λ_ _ _ _ _ _ _ q=>lt_int q
theorem op_le:OpR X (Bu .LtE) (e9 λi j=>.bl (decide (i<=j))):=jj λ_ _ _ _ _ _ _ q=>le_int q
theorem op_gt:OpR X (Bu .Gt) (e9 λi j=>.bl (decide (j < i))):=jj λ_ _ _ _ _ _ _ q=>gt_int q
theorem op_ge:OpR X (Bu .GtE) (e9 λi j=>.bl (decide (j<=i))):=jj λ_ _ _ _ _ _ _ q=>ge_int q
theorem UR:OpR X (Bu .Lt) (λx y H Q=>∃i j,x=.str i/\y=.str j/\Q (.bl (decide (i.cps.toList < j.cps.toList))) H):=by
 intro pins s σ H x y v u Q I rx ry h;obtain⟨i,j,rfl,rfl,q⟩:=h;obtain⟨t,rfl⟩:=rx;obtain⟨t',rfl⟩:=ry;exact lt_str (b7 I q rfl)
theorem y6:OpR X (Bu .Is) (λx y H Q=>y=.non/\Q (.bl (decide (x=.non))) H):=by
 intro pins s σ H x y v u Q I rx ry h;obtain⟨rfl,q⟩:=h;cases ry;refine is_none_gen (b7 I q ?_);cases x<;>first
  | (cases rx;rfl)
  | (obtain⟨t,rfl⟩:=rx;rfl)
theorem tG:OpR X (Bu .IsNot) (λx y H Q=>y=.non/\Q (.bl (!decide (x=.non))) H):=by
 intro pins s σ H x y v u Q I rx ry h;obtain⟨rfl,q⟩:=h;cases ry;refine isnot_none_gen (b7 I q ?_);cases x<;>first
  | (cases rx;rfl)
  | (obtain⟨t,rfl⟩:=rx;rfl)
theorem OpR.or(h:OpR X f r)(h':OpR X f r'):OpR X f (λx y H Q=>r x y H Q\/r' x y H Q):=by
 intro pins s σ H x y v u Q I rx ry q;rcases q with q|q
 ·exact h pins s σ H x y v u Q I rx ry q
 ·exact h' pins s σ H x y v u Q I rx ry q
theorem gm(b)(h:op≠.In:=by decide)(h2:op≠.NotIn:=by decide):Ci op b=ai:=by
 have e1:(op==CmpOp.In)=ai:=by cases op<;>first|rfl|exact absurd rfl h
 have e2:(op==CmpOp.NotIn)=ai:=by cases op<;>first|rfl|exact absurd rfl h2
 cases b<;>simp[Ci,e1,e2]
theorem Rw(ho:OpR X (Bu op) r)(ha:PE X a ta)(hb:PE X b tb)(hm:Ci op b=ai):PE X (.Compare a [op] [b] pos) (cS r ta tb):=by
 intro pins s σ H Q I h;exact wpAny_Compare1 (kZ ha hb I h λv u s2 x y H2 I2 rx ry q=>ho pins s2 σ H2 x y v u Q I2 rx ry q) hm
def fe(t:TE):TT:=λσ H Q=>t σ H λx H'=>∃k,x=.bl k/\Q k H'
theorem kU(ho:OpR X (Bu op) r)(ha:PE X a ta)(hb:PE X b tb)(hm:Ci op b=ai):PT X (.Compare a [op] [b] pos) (fe (cS r ta tb)):=by
 intro pins s σ H Q I h;refine wpAny_isTrue_Compare1 (aG (ha pins s σ H _ I h) λv s1 ⟨x,H1,I1,r1,q1⟩=>aG (hb pins s1 σ H1 _ I1 q1) λu s2 ⟨y,H2,I2,r2,q2⟩=>
  aG (ho pins s2 σ H2 x y v u _ I2 r1 r2 q2) λc s3 ⟨z,H3,I3,r3,k,e,q3⟩=>?_) hm
 subst e;cases r3;exact De ⟨H3,I3,q3⟩
def xj(r r':R2)(ta tb tc:TE):TE:=λσ H Q=>ta σ H λx H1=>tb σ H1 λy H2=>r x y H2 λz H3=>∃k,z=.bl k /\
 (if k=ah then tc σ H3 λw' H4=>r' y w' H4 Q else Q (.bl ai) H3)
theorem OT(ho:OpR X (Bu op) r)(ho':OpR X (Bu op') r')(ha:PE X a ta)(hb:PE X b tb)(hc:PE X c tc)
  (hm:lastMarks [op,op'] [b,c]=ai:=by with_unfolding_all rfl):PE X (.Compare a [op,op'] [b,c] pos) (xj r r' ta tb tc):=by
 intro pins s σ H Q I h;refine Compare_chain (aG (ha pins s σ H _ I h) λv s1 ⟨x,H1,I1,r1,q1⟩=>chain_link (aG (hb pins s1 σ H1 _ I1 q1) λu s2 ⟨y,H2,I2,r2,q2⟩=>
  aG (ho pins s2 σ H2 x y v u _ I2 r1 r2 q2) λd s3 ⟨z,H3,I3,r3,k,e,q3⟩=>?_)) hm
 subst e;cases r3;refine De ?_;cases k with
 |false=>exact ite_ff ⟨.bl ai,H3,I3,rfl,q3⟩
 |true=>exact ite_tt (chain_last (aG (hc pins s3 σ H3 _ I3 q3) λw' s4 ⟨z',H4,I4,r4,q4⟩=>ho' pins s4 σ H4 y z' u w' Q I4 r2 r4 q4))
def je(K:Af)(x:V)(H:Hp)(k:Bool):Prop:=
 match x with
 |.non=>k=ai
 |.bl b=>k=b
 |.int i=>k=(i != 0)
 |.str y=>y.length<=Ar/\k=((y.length:Int) != 0)
 |.byt y=>y.size<=Ar/\k=((y.size:Int) != 0)
 |.ref p=>(∃xs,SqL K H p xs/\k=!xs.isEmpty)\/(∃xs,SqT K H p xs/\k=!xs.isEmpty)\/∃kvs,H p=ae (.dK kvs)/\k=!kvs.isEmpty
 |_=>False
theorem Pt{vs:List (κ×Ae)}(r:KV kvs vs):(!vs.isEmpty)=!kvs.isEmpty:=by
 cases r<;>rfl
theorem CW(r:Vals xs its):(!its.toArray.isEmpty)=!xs.isEmpty:=by
 cases r<;>simp
theorem lD:(Ar:Nat) < 2 ^ 63:=by rw[Ga];decide
theorem QV:tF X (λx H Q=>∃k,je X.K x H k/\Q k H):=by
 intro pins s σ H x v Q I rx h;obtain⟨k,e,q⟩:=h;have hl:=lD;have hs:Ar=16777216:=Ga;cases x with
 |non=>
  cases rx;have e':k=ai:=e;subst e';exact truthy_none ⟨H,I,q⟩
 |bl b=>
  cases rx;have e':k=b:=e;subst e';exact De ⟨H,I,q⟩
 |int i=>
  obtain⟨t,rfl⟩:=rx;have e':k=(i != 0):=e;subst e';exact PySem.P.truthy_int ⟨H,I,q⟩
 |str y=>
  obtain⟨t,rfl⟩:=rx;obtain⟨hy,e'⟩:y.length<=Ar/\k=((y.length:Int) != 0):=e;subst e';exact PySem.P.truthy_str ⋯ ⟨H,I.tok _,q⟩
 |byt y=>
  obtain⟨t,rfl⟩:=rx;obtain⟨hy,e'⟩:y.size<=Ar/\k=((y.size:Int) != 0):=e;subst e';exact PySem.W.truthy_bytes ⋯ ⟨H,I.tok _,q⟩
 |ref p=>
  cases rx;have e':(∃xs,SqL X.K H p xs/\k=!xs.isEmpty)\/(∃xs,SqT X.K H p xs/\k=!xs.isEmpty)\/∃kvs,H p=ae (.dK kvs)/\k=!kvs.isEmpty:=e;rcases e' with⟨xs,hx,e'⟩|⟨xs,hx,e'⟩|⟨kvs,hx,e'⟩
  ·subst e';obtain⟨its,r,pl,hz⟩:=I.list hx;have hlen:=r.length;exact wpAny_truthy_list pl.isList (by simp only[Ax];omega) ⟨H,I.tok _,by rw[CW r];exact q⟩
  ·subst e';obtain⟨its,r,pl,hz⟩:=I.tuple hx;have hlen:=r.length;exact truthy_tuple pl (by simp only[Ax];omega) ⟨H,I.tok _,by rw[CW r];exact q⟩
  ·subst e';obtain⟨hz,hS,vs,r,m⟩:kvs.length<=Ar/\(p==C5)=ai/\∃vs,KV kvs vs/\s.heap.DictOf (d7 X.prog X.w) p vs:=I.hok p _ hx;have hlen:kvs.length=vs.length:=D3 r;exact wpAny_truthy_dict hS m ⋯ ⟨H,I.tok _,by rw[Pt r];exact q⟩
 |_=>exact(show False from e).elim
theorem Pa(ha:PE X a ta)(he:∀whole,isTrue a X.env whole=(do let v <-whole;standAt a.pos;holding [v] (truthy v))):
  PT X a (λσ H Q=>ta σ H λx H'=>∃k,je X.K x H' k/\Q k H'):=by
 intro pins s σ H Q I h;exact isTrue_plain (aG (ha pins s σ H _ I h) λv s1 ⟨x,H1,I1,r1,q1⟩=>QV pins s1 σ H1 x v Q I1 r1 q1) (he _)
theorem op_add_str:OpR X (Er .Add) (λx y H Q=>∃i j,x=.str i/\y=.str j/\i.length+j.length<=Ar/\Q (.str (i++j)) H):=by
 intro pins s σ H x y v u Q I rx ry h;obtain⟨i,j,rfl,rfl,hz,q⟩:=h;obtain⟨t,rfl⟩:=rx;obtain⟨t',rfl⟩:=ry;exact add_str (λt' tk=>⟨.str (i++j),H,I.tok _,⟨_,rfl⟩,q⟩) hz
theorem gg(r:Vals [x] us):∃u,us=[u]/\RelV x u:=by
 cases r with
 |cons r1 r2=>cases r2;exact⟨_,rfl,r1⟩
theorem qr(r:Vals [x,y] us):∃u w',us=[u,w']/\RelV x u/\RelV y w':=by
 cases r with
 |cons r1 r2=>
  cases r2 with
  |cons r3 r4=>cases r4;exact⟨_,_,rfl,r1,r3⟩
end
structure ObjM(h:Heap)(x dx C:Addr)(mA:Str->Option Ae):Prop where
 obj:h.get? x=ae (PySem.W.instObj C dx)
 ns:h.Ns1 dx mA
 ne:dx≠x
theorem TZ{h:Heap}(n:h.Ns1 dx mA):∃od,h.get? dx=ae od/\∀name,PySem.W.lookIn name od=ae (mA name):=by
 obtain⟨o,es,ep,ho,hd,hk,_,hm⟩:=n;refine⟨o,ho,λname=>?_⟩;have e:=hm name;unfold nsFind findBy at e;rw[<-Array.find?_toList]at e;unfold PySem.W.lookIn;rw[hd];dsimp only
 split
 ·rename_i y q;rw[q]at e;exact congrArg ae e
 ·rename_i q;rw[q]at e;have a:es.toList.any (·.refKey)=ai:=by
   rw[List.any_eq_false];intro y hy;obtain⟨z,t,hkey⟩:=hk y (Array.mem_toList_iff.mp hy);simp[DictEntry.refKey,hkey]
  have a':¬es.toList.any (·.refKey)=ah:=by rw[a];exact Ak
  rw[if_neg a'];exact congrArg ae e
theorem ObjM.look(I:ObjM h x dx C mA):∃od,PySem.W.InstAt h x (PySem.W.instObj C dx) C (ae od)/\∀name,PySem.W.lookIn name od=ae (mA name):=
 let⟨od,ho,hl⟩:=TZ I.ns
 ⟨od,⟨I.obj,rfl,rfl,ho⟩,hl⟩
theorem RelO.some_of(r:RelO (ae v) o):∃u,o=ae u/\RelV v u:=by
 cases o with
 |none=>exact(show False from r).elim
 |some u=>exact⟨u,rfl,r⟩
section
variable{P:A7}{w:Bi}{H H':Hp}{h h':Heap}{a C dx:Addr}{fs fs':List (Str×V)}
theorem Lb(hok:HOk P w H h)(e:H a=ae (.ins C dx fs)):∃mA,ObjM h a dx C mA/\(∀f,RelO (fs.lookup f) (mA f))/\PySem.Within mA (fs.map (·.1))/\fs.length<=1000/\H dx=ae (.own a):=by
 obtain⟨d,z,ne,ob,mA,n,r,q⟩:=(show ObjOk P w H h a (.ins C dx fs)from hok a _ e);exact⟨mA,⟨ob,n,ne⟩,r,q,z,d⟩
end
structure Cls(K:Af)(C:Addr):Prop where
 pg:PySem.W.plainGet K C Str.empty=ah
 hd:PySem.W.hasDictIn K C=ah
 po:PySem.W.plainOver K C=ah
 sa:Gi K (.ref C) "__setattr__"=ae (ae (.builtin "object.__setattr__"))
theorem Cls.get{K:Af}(c:Cls K C)(f):PySem.W.plainGet K C f=ah:=c.pg
section
variable{X:Cx}{pins:List (Addr×Obj)}{σ:St}{H:Hp}{s:Ai}{A:Br}{E:Ae->Ai->Prop}{Q:Ae->Ai->Prop}{c:Ae}{b:Bool}
inductive TyOf(K:Af)(H:Hp):V->Ae->Prop where
 |non:TyOf K H .non (.type "NoneType")
 |bl (x:Bool):TyOf K H (.bl x) (.type "bool")
 |int (i:Int):TyOf K H (.int i) (.type "int")
 |str (x:Str):TyOf K H (.str x) (.type "str")
 |flt (x:UInt64):TyOf K H (.flt x) (.type "float")
 |lst {a:Addr} {xs:List V} (e:H a=ae (.lst xs)):TyOf K H (.ref a) (.type "list")
 |frz {a:Addr} {o:Obj} {xs:List V} (e:H a=ae (.frz o (.lst xs))):TyOf K H (.ref a) (.type "list")
 |tup {a:Addr} {xs:List V} (e:H a=ae (.tup xs)):TyOf K H (.ref a) (.type "tuple")
 |dK {a:Addr} {kvs:List (aC×V)} (e:H a=ae (.dK kvs)):TyOf K H (.ref a) (.type "dict")
 |dT {a:Addr} {kvs:List (List aC×V)} (e:H a=ae (.dT kvs)):TyOf K H (.ref a) (.type "dict")
 |ins {a C dx:Addr} {fs:List (Str×V)} (e:H a=ae (.ins C dx fs)) (cl:Cls K C) (ha:Gi K (.ref C) "__class__"=ae (ae (.builtin "object.__class__")))
   (hn:PySem.W.specialIn K (.builtin "object.__class__") "__get__"=ae (ae (.builtin "getset_descriptor.__get__"))) (htk:PySem.W.takesIn K (.builtin "object.__class__")=ae ah)
   (hm:PySem.W.mroIn K C (.type "object")=ae ah):TyOf K H (.ref a) (.ref C)
theorem Og(I:Inv X pins σ H s)(rx:RelV x u)(ty:TyOf X.K H x t)(e:D6 X.K t c=ae b)(h:∀tk,Q (.bool b) {s with toks:=tk}):
  Av (A9 X.prog X.w) A (call (.builtin "isinstance") [u,c]) Q E s:=by
 cases ty with
 |non=>cases(show u=B5 from rx);exact C7 PySem.W.kitx_none I.kIn Ec e (λz=>nomatch z) h
 |bl y=>cases(show u=Value.bool y from rx);exact C7 PySem.W.kitx_bool I.kIn Ec e (λz=>nomatch z) h
 |int i=>obtain⟨t,q⟩:=(show ∃t,u=Value.int i t from rx);cases q;exact C7 PySem.W.kitx_int I.kIn Ec e (λz=>nomatch z) h
 |str y=>obtain⟨t,q⟩:=(show ∃t,u=Gy y t from rx);cases q;exact C7 PySem.W.kitx_str I.kIn Ec e (λz=>nomatch z) h
 |flt y=>obtain⟨t,q⟩:=(show ∃t,u=Value.float y t from rx);cases q;exact C7 PySem.W.kitx_float I.kIn Ec e (λz=>nomatch z) h
 |@lst a xs ea=>
  cases(show u=As a from rx);obtain⟨_,_,n,_,h1⟩:=(show ObjOk X.prog X.w H s.heap a (.lst xs)from I.hok a _ ea);exact C7 PySem.W.kitx_list I.kIn ⟨_,h1,rfl⟩ e (λz=>nomatch z) h
 |@frz a ob xs ea=>
  cases(show u=As a from rx);obtain⟨_,_,_,n,_,h1⟩:=(show ObjOk X.prog X.w H s.heap a (.frz ob (.lst xs))from I.hok a _ ea);exact C7 PySem.W.kitx_list I.kIn ⟨_,h1,rfl⟩ e (λz=>nomatch z) h
 |@tup a xs ea=>
  cases(show u=As a from rx);obtain⟨_,_,_,p⟩:=(show ObjOk X.prog X.w H s.heap a (.tup xs)from I.hok a _ ea);obtain⟨o,h1,h2,_⟩:=p;exact C7 PySem.W.kitx_tuple I.kIn ⟨o,h1,h2⟩ e (λz=>nomatch z) h
 |@dK a kvs ea=>
  cases(show u=As a from rx);obtain⟨_,_,vs,_,p⟩:=(show ObjOk X.prog X.w H s.heap a (.dK kvs)from I.hok a _ ea);obtain⟨o,es,ep,h1,h2,_⟩:=p;exact C7 PySem.W.kitx_dict I.kIn ⟨o,h1,h2.1⟩ e (λz=>nomatch z) h
 |@dT a kvs ea=>
  cases(show u=As a from rx);obtain⟨_,_,xs,_,o,es,ep,h1,h2,_⟩:=(show ObjOk X.prog X.w H s.heap a (.dT kvs)from I.hok a _ ea);exact C7 PySem.W.kitx_dict I.kIn ⟨o,h1,h2.1⟩ e (λz=>nomatch z) h
 |@ins a C dx fs ea cl ha hn htk hm=>
  cases(show u=As a from rx);obtain⟨mA,O,_⟩:=Lb I.hok ea;obtain⟨od,J,_⟩:=O.look;exact C7 (PySem.W.kitx_own (cl.get _) cl.hd ha hn htk hm) I.kIn J e (λz=>nomatch z) h
end
structure Room(k:Nat)(A:Br):Prop where
 hd:A.handled=af
 dp:A.depth+3*k+5 < recursionLimit
 un:A.units+16*k+200 < Dj
 gd:A.guards=ae []
theorem Room.mono(r:Room k A)(h:j<=k):Room j A:=⟨r.hd,by have:=r.dp;omega,by have:=r.un;omega,r.gd⟩
theorem Room.deeper(r:Room (k+1) A)(env):Room k (A.deeper env):=
 ⟨r.hd,by have:=r.dp;show A.depth+1+3*k+5 < _;omega,by have:=r.un;show A.units+3+16*k+200 < _;omega,r.gd⟩
theorem Room.depth(r:Room k A):A.depth < recursionLimit:=by have:=r.dp;omega
theorem Room.units(r:Room k A):A.units+64 < Dj:=by have:=r.un;omega
theorem Room.units0(r:Room k A):A.units < Dj:=by have:=r.un;omega
def aI:TA:=λ_ H Q=>Q [] H
def aM(ta:TE)(tr:TA):TA:=λσ H Q=>ta σ H λx H1=>tr σ H1 λxs H2=>Q (x::xs) H2
section
variable{X:Cx}{e:Expr}{es:List Expr}{te:TE}{t:TA}{pos:Pos}
theorem dC:PA X [] aI:=λ_ _ _ _ H Q I h=>Calls.spliced_nil ⟨[],H,I,.nil,h⟩
theorem bP(ha:PE X e te)(hr:PA X es t)(hs:Ap (e::es) X.env=(ai,eval e X.env)::Ap es X.env:=by rfl):PA X (e::es) (aM te t):=by
 intro pos pins s σ H Q I h;rw[hs];show Av _ _ (spliced ((ai,eval e X.env)::Cy pos (Ap es X.env))) _ _ s;refine Calls.spliced_cons (aG (ha pins s σ H _ I h) λu s1 ⟨x,H1,I1,r1,q1⟩=>?_);exact aG (hr pos pins s1 σ H1 _ I1 q1) λus s2 ⟨xs,H2,I2,r2,q2⟩=>⟨x::xs,H2,I2,.cons r1 r2,q2⟩
def gG(t:TA):TE:=λσ H Q=>t σ H λxs H1=>xs.length<=Ar/\∀p,H1 p=af->Q (.ref p) (upd H1 p (.tup xs))
def iZ(t:TA):TE:=λσ H Q=>t σ H λxs H1=>xs.length<=Ar/\∀p,H1 p=af->Q (.ref p) (upd H1 p (.lst xs))
theorem FH{x1}(h:PA X es t):PE X (.Tuple es x1 pos) (gG t):=by
 intro pins s σ H Q I hq;refine wpAny_Tuple_spliced (aG (h pos pins s σ H _ I hq) λus s1 ⟨xs,H1,I1,r,z,q⟩=>⟨by rw[<-r.length];exact z,?_⟩);have hf:H1 s1.heap.objs.size=af:=I1.hok.fresh (Am _);refine⟨.ref s1.heap.objs.size,upd H1 s1.heap.objs.size (.tup xs),I1.laid (t':=s1.toks) (λb u e=>Ah _ e) (Am _) ?_,rfl,q _ hf⟩;exact⟨z,us,r,IsTupP.new _ _⟩
theorem sr(h:PA X es t):PE X (.List es pos) (iZ t):=by
 intro pins s σ H Q I hq;refine wpAny_List_spliced (aG (h pos pins s σ H _ I hq) λus s1 ⟨xs,H1,I1,r,z,q⟩=>⟨by rw[<-r.length];exact z,?_⟩);have hf:H1 s1.heap.objs.size=af:=I1.hok.fresh (Am _);refine⟨.ref s1.heap.objs.size,upd H1 s1.heap.objs.size (.lst xs),I1.laid (t':=s1.toks) (λb u e=>Ah _ e) (Am _) ?_,rfl,q _ hf⟩;exact⟨z,us,0,r,A0 _ rfl⟩
end
abbrev Sp:=List V->Hp->VK->XK->Prop
abbrev gx:=List Env->Hp->Ai->XK->Ae->Ai->Prop
structure Env0(P:A7)(w:Bi)(K:Af)(mg:Str->Option Ae)(base:Heap)(A:Br)(outer:List Env)(s:Ai)(H:Hp):Prop where
 frames:A.frames=ae outer
 mod:Mod K mg base
 bs:∀b o,base.get? b=ae o->s.heap.get? b=ae o/\H b=af
 bsz:base.objs.size<=s.heap.objs.size
 funs:s.heap.FunFrames base outer
 frf:∀b∈bY outer,H b=af
 hok:HOk P w H s.heap
 bare:AllBare s.gens
def CE(outer:List Env)(P:A7)(w:Bi)(H:Hp)(s:Ai)(Q:VK)(u:Ae)(s':Ai):Prop:=
 ∃v H',s'.os=s.os/\AllBare s'.gens/\Un (bY outer) [] H H' s.heap s'.heap/\HOk P w H' s'.heap/\RelV v u/\Q v H'
def CR(CX:gx)(outer:List Env)(P:A7)(w:Bi)(H:Hp)(s:Ai)(Q:VK)(E:XK)(r:Result)(s':Ai):Prop:=
 match r with
 |.ok (.ret u)=>CE outer P w H s Q u s'
 |.ok _=>False
 |.error e=>CX outer H s E e s'
structure FnOk(P:A7)(w:Bi)(K:Af)(mg:Str->Option Ae)(base:Heap)(CX:gx)(k:Nat)(f:Addr)(fd:Bz)(ps:List Str)(sp:Sp):Prop where
 len:∀vs H Q E,sp vs H Q E->vs.length=ps.length
 run:∀(A:Br)(outer:List Env)(s:Ai)(H:Hp)(args:Args)(us:List Ae)(vs:List V)(Q:VK)(E:XK),Room k A->Env0 P w K mg base A outer s H->BindsTo s fd args (ps.zip us)->Vals vs us->sp vs H Q E->
  Gr (A9 P w) A (.call (.ref f) args) (CR CX outer P w H s Q E) s
theorem FnOk.imp{K:Af}(F:FnOk P w K mg base CX k f fd ps sp)
  (h:∀vs H Q E,sp' vs H Q E->sp vs H Q E):FnOk P w K mg base CX k f fd ps sp':=
 ⟨λvs H Q E q=>F.len vs H Q E (h _ _ _ _ q),λA outer s H args us vs Q E hr he hb hv hs=>F.run A outer s H args us vs Q E hr he hb hv (h _ _ _ _ hs)⟩
section
variable{X:Cx}{pins:List (Addr×Obj)}{σ:St}{H:Hp}{s s':Ai}
theorem Inv.env0(I:Inv X pins σ H s):Env0 X.prog X.w X.K X.mg X.base X.A X.stack s H:=
 ⟨I.ok.frames,I.ok.mod,I.bs,Bb I.ok.bsz I.sz,I.stack,I.stkFree,I.hok,I.bare⟩
theorem Inv.after(I:Inv X pins σ H s)(h:CE X.stack X.prog X.w H s Q u s'):EP X pins σ Q u s':=by
 obtain⟨v,H',os,bare,un,hok,r,q⟩:=h;obtain⟨hh,g,d,t,os'⟩:=s';obtain rfl:os'=s.os:=os;exact⟨v,H',I.call (h':=hh) (g':=g) (d':=d) (t':=t) (ch:=[]) un hok bare (λb z=>absurd z (by simp)),r,q⟩
end
def fH(sp:Sp)(dvs:List V)(E:XK)(t:TA):TE:=λσ H Q=>t σ H λvs H1=>sp (vs++dvs) H1 Q E
def Binds(K:Af)(fd:Bz)(ps:List Str)(ds:List Ae):Prop:=
 ∀(s:Ai)(us:List Ae),K.In s.heap->(us++ds).length=ps.length->BindsTo s fd ⟨us,[]⟩ (ps.zip (us++ds))
theorem Binds.all{K:Af}(h:∀us:List Ae,us.length=ps.length->bindArgs fd ⟨us,[]⟩=pure (ps.zip us)):Binds K fd ps []:=λs us _ hl=>by
 rw[Cc]at hl ⊢;exact .of_eq (h us hl)
def vx(CX:gx)(X:Cx)(E:XK):Prop:=∀(pins:List (Addr×Obj))(σ:St)(H:Hp)(s:Ai)(e:Ae)(s':Ai),Inv X pins σ H s->CX X.stack H s E e s'->X.xe e s'
section
variable{X:Cx}{CX:gx}{k:Nat}{f C:Addr}{fd:Bz}{ps:List Str}{sp:Sp}{dvs:List V}{ds:List Ae}{E:XK}{x m:Str}{p pos apos:Pos}{e o:Expr}{es:List Expr}{ta:TE}{t:TA}
theorem K6{σ:St}(F:FnOk X.prog X.w X.K X.mg X.base CX k f fd ps sp)(hr:Room k X.A)(hb:Binds X.K fd ps ds)(hd:Vals dvs ds)(hx:vx CX X E)
  (I:Inv X pins σ H s) (r:Vals vs us) (h:sp (vs++dvs) H Q E):Av (A9 X.prog X.w) X.A (call (.ref f) us) (EP X pins σ Q) X.xe s:=by
 have r2:Vals (vs++dvs) (us++ds):=r.append hd;have hl:(us++ds).length=ps.length:=by rw[<-r2.length];exact F.len _ _ _ _ h
 refine wpAny_call (G4 (F.run X.A X.stack s H ⟨us,[]⟩ (us++ds) (vs++dvs) Q E hr I.env0 (hb s us I.kIn hl) r2 h) λr s' hq=>?_);cases r with
 |error e=>exact hx pins σ H s e s' I hq
 |ok fl=>
  cases fl with
  |ret u=>exact I.after hq
  |next=>exact False.elim hq
  |brk=>exact False.elim hq
  |cont=>exact False.elim hq
theorem pQ(F:FnOk X.prog X.w X.K X.mg X.base CX k f fd ps sp)(hr:Room k X.A)(hg:Gl X x)(hm:X.mg x=ae (.ref f))(hk:Bx X.K (.ref f)=ah)(hb:Binds X.K fd ps ds)(hd:Vals dvs ds)(hx:vx CX X E)
  (ha:PA X (e::es) t) (hdb:(x==("__debug__":Str))=ai:=by decide) (he:Ap (e::es) X.env=(ai,eval e X.env)::Ap es X.env:=by rfl) (hpl:(Cy pos (Ap es X.env)).any (·.1)=ai:=by rfl):
  PE X (.Call (.Name x p) (e::es) [] pos) (fH sp dvs E t):=by
 intro pins s σ H Q I h;refine Ep (o8 I hg hm ?_ hdb);refine PySem.W.callWith_K (h₀:=X.base) I.ok.mod.kin hk (aG (ha pos pins s σ H _ I h) λus s1 ⟨vs,H1,I1,r,q⟩=>⟨I1.kIn,?_⟩) he hpl;exact K6 F hr hb hd hx I1 r q
end
structure FnScope(N P:List Str)(sc:E7):Prop where
 kind:sc.kind=.function
 co:sc.isCoroutine=ai
 gen:sc.isGenerator=ai
 nd:N.Nodup
 pre:N.take P.length=P
 par:∀x∈P,sc.names.lookup x=ae .local\/sc.names.lookup x=ae .cell
 nofree:∀y∈sc.names,y.2≠.free
theorem HA{kindOf:Str->Option NameKind}:∀{binds:List (Str×Ae)}{m:Str->Option Ae},(∀v,(x,v)∉binds)->bindL kindOf binds m x=m x
 |[],_,_=>rfl
 | (n,v)::r,m,h=>by
  unfold bindL;rw[HA λw hw=>h w (An _ hw)]
  split
  ·have:x≠n:=by rintro rfl;exact h v Au
   simp[this]
  ·rfl
theorem GZ{kindOf:Str->Option NameKind}:∀{binds:List (Str×Ae)}{m:Str->Option Ae},(∀v,(x,v)∉binds)->bindC kindOf binds m x=m x
 |[],_,_=>rfl
 | (n,v)::r,m,h=>by
  unfold bindC;rw[GZ λw hw=>h w (An _ hw)]
  split
  ·rfl
  ·have:x≠n:=by rintro rfl;exact h v Au
   simp[this]
theorem Ig{kindOf:Str->Option NameKind}:∀{P:List Str}{vs:List Ae}{i:Nat}{m:Str->Option Ae},P.Nodup->P[i]?=ae x->vs[i]?=ae v->kindOf x=ae .local->
  bindL kindOf (P.zip vs) m x=ae v
 |[],_,_,_,_,h,_,_=>by simp at h
 |_::_,[],_,_,_,_,h,_=>by simp at h
 |p::P,w::vs,0,m,nd,h1,h2,hk=>by
  simp at h1 h2;subst h1;subst h2;show bindL kindOf ((p,w)::P.zip vs) m p=_;unfold bindL;rw[HA λv hv=>(Df.mp nd).1 (Gg hv).1,if_pos hk];simp
 |p::P,w::vs,i+1,m,nd,h1,h2,hk=>by
  show bindL kindOf ((p,w)::P.zip vs) m x=_;unfold bindL;exact Ig (i:=i) (Df.mp nd).2 (by simpa using h1) (by simpa using h2) hk
theorem zG{kindOf:Str->Option NameKind}:∀{P:List Str}{vs:List Ae}{i:Nat}{m:Str->Option Ae},P.Nodup->P[i]?=ae x->vs[i]?=ae v->kindOf x≠ae .local->
  bindC kindOf (P.zip vs) m x=ae v
 |[],_,_,_,_,h,_,_=>by simp at h
 |_::_,[],_,_,_,_,h,_=>by simp at h
 |p::P,w::vs,0,m,nd,h1,h2,hk=>by
  simp at h1 h2;subst h1;subst h2;show bindC kindOf ((p,w)::P.zip vs) m p=_;unfold bindC;rw[GZ λv hv=>(Df.mp nd).1 (Gg hv).1,if_neg hk];simp
 |p::P,w::vs,i+1,m,nd,h1,h2,hk=>by
  show bindC kindOf ((p,w)::P.zip vs) m x=_;unfold bindC;exact zG (i:=i) (Df.mp nd).2 (by simpa using h1) (by simpa using h2) hk
def start(N:List Str)(vs:List V):St:=vs.map ae++Ay (N.length-vs.length) af
def bz(CX:gx)(P:A7)(w:Bi)(K:Af)(mg:Str->Option Ae)(base:Heap)(N:List Str)(qual:Str)(scope:E7)(f:Addr)(cd:Ae)(A:Br)(outer:List Env)(s:Ai)(H:Hp)(E:XK):Cx where
 prog:=P
 w:=w
 K:=K
 mg:=mg
 base:=base
 A:=A.deeper (Cu qual scope s.heap.objs.size f cd)
 N:=N
 s₀:=s
 H₀:=H
 env:=Cu qual scope s.heap.objs.size f cd
 outer:=outer
 stack:=Cu qual scope s.heap.objs.size f cd::outer
 ex:=[]
 calm:=ah
 fn:=λ_=>ah
 pn:=[]
 xe:=λe s'=>Av (A9 P w) (A.deeper (Cu qual scope s.heap.objs.size f cd)) (leaving (Cu qual scope s.heap.objs.size f cd) e) (λ_ s''=>CX outer H s E e s'') (λe' s''=>CX outer H s E e' s'') s'
theorem BS{sc:E7}(h:sc.names.lookup x=ae .cell):∃c,(cellsFrom n sc.names []).lookup x=ae c:=by
 have q:=PySem.W.cellsFrom_some sc.names n [] (.inl h);exact Eu.mp q
theorem Mi{K:Af}
  (S:FnScope N ps scope) (hd:A.handled=af) (e0:Env0 P w K mg base A outer s H) (hl:vs.length=ps.length) (r:Vals vs us)
  (x:InCallC s s.heap.objs.size (bindL (Cu qual scope s.heap.objs.size f cd).kindOf (ps.zip us) λ_=>af) (cellsFrom (s.heap.objs.size+1) scope.names []) (bindC (Cu qual scope s.heap.objs.size f cd).kindOf (ps.zip us) λ_=>af) s1):
  Inv (bz CX P w K mg base N qual scope f cd A outer s H E) [] (start N vs) H s1:=by
 have hpl:ps.length<=N.length:=by have:=congrArg D8 S.pre;rw[C4]at this;omega
 obtain⟨h1,tk,rfl,hk⟩:=x.done;have noA:∀b:Addr,b∉(bz CX P w K mg base N qual scope f cd A outer s H E).ex:=λb z=>absurd (show b∈([]:List Addr)from z) (by simp);refine⟨⟨e0.mod,S.kind,rfl,rfl,Am _,λy z c h1 h2=>?_,λy hy=>?_,λy c _ h=>?_,λ_=>hd,Around.frames_deeper e0.frames,.inr ⟨rfl,rfl⟩,λb z=>absurd z (noA b),e0.bs,e0.bsz,λb _ _=>noA b,λb z=>absurd z (noA b),e0.funs,e0.frf⟩,
  rfl,e0.bare,Un.kept hk,⟨_,x.toInCall.ns,λi y v h1 h2 h3=>?_⟩,λy c h=>⟨_,x.cell y c h⟩,e0.hok.fresh (Am _),λy c h=>?_,λp hp=>absurd (show p∈([]:List (Addr×Obj))from hp) (by simp),e0.hok.kept hk,?_⟩
 ·exact name_of_addr x.apart (F5 h1) (F5 h2)
 ·have hy:scope.names.lookup y=ae .cell\/scope.names.lookup y=ae .free:=hy;rcases hy with hy|hy
  ·exact BS hy
  ·exact absurd rfl (S.nofree _ (F5 hy))
 ·exact Fh (x.above y c (F5 h))
 ·have hi:i < vs.length:=by
   unfold start at h2;by_cases hi:i < vs.length
   ·exact hi
   ·rw[Fy (by simpa using hi)]at h2;rw[Cq]at h2
    split at h2<;>cases h2
  have ha:vs[i]?=ae v:=by
   unfold start at h2;rw[D0 (by simpa using hi),Aq]at h2;cases e:vs[i]? with
   |none=>rw[e]at h2;cases h2
   |some a=>rw[e]at h2;cases h2;rfl
  obtain⟨u,hu,rv⟩:=r.get ha;have hp:ps[i]?=ae y:=by
   rw[<-S.pre,List.getElem?_take_of_lt ⋯];exact h1
  have ndP:ps.Nodup:=by rw[<-S.pre];exact S.nd.sublist (List.take_sublist _ _)
  refine⟨u,rv,?_⟩;rcases S.par y (A1 hp)with k|k
  ·exact .inl ⟨k,Ig ndP hp hu k⟩
  ·obtain⟨c,e⟩:=BS (n:=s.heap.objs.size+1) k;refine .inr ⟨.inl k,c,e,?_⟩;have q:=x.cell y c e;rw[zG ndP hp hu (by show scope.names.lookup y≠_;rw[k];decide)]at q;exact q
 ·exact e0.hok.fresh (Fh (x.above y c (F5 h)))
 ·unfold start;show _=N.length;rw[A2,Ad,Fn];omega
theorem qB{K:Af}{dV kV doc pm cdv ct oc:Ae}
     (lk:K.lookup f=ae ⟨oc,od,.func (Fu name qual params body scope dV kV doc pm an cdv ct),osl⟩) (hcd:PySem.W.codeIn K cdv qual=ah) (S:FnScope N ps scope)
  (len:∀vs H Q E,sp vs H Q E->vs.length=ps.length)
  (hbody:∀(A:Br)(outer:List Env)(s:Ai)(H:Hp)(vs:List V)(Q:VK)(E:XK),Room k (A.deeper (Cu qual scope s.heap.objs.size f cdv))->sp vs H Q E->
   ∃t,PSs (bz CX P w K mg base N qual scope f cdv A outer s H E) body t/\t {nx:=λ_ H'=>Q .non H',rt:=Q} (start N vs) H):
  FnOk P w K mg base CX (k+1) f (Fu name qual params body scope dV kV doc pm an cdv ct) ps sp:=by
 refine⟨len,λA outer s H args us vs Q E hr e0 hb r hsp=>?_⟩;have hl:=len _ _ _ _ hsp;have KX:K.In s.heap:=e0.mod.kin.keeps λb o e=>(e0.bs b o e).1;have lim:s.heap.NoLimit:=e0.mod.nolimit.keeps λb o e=>(e0.bs b o e).1;have hkind:∀y∈ps.zip us,scope.names.lookup y.1=ae .local\/(scope.names.lookup y.1=ae .cell/\((cellsFrom (s.heap.objs.size+1) scope.names []).lookup y.1).isSome=ah):=λ⟨n,v⟩ hy=>by
  rcases S.par n (Gg hy).1 with q|q
  ·exact .inl q
  ·exact .inr ⟨q,PySem.W.cellsFrom_some _ _ _ (.inl q)⟩
 refine codeAny_call_function hr.depth (KX _ _ lk) rfl S.co S.gen rfl (PySem.W.codeRec_of KX hcd) (hb _ _ _ _ ?_);refine wpAny_newFunctionEnv_cells S.kind hkind λenv he s1 x=>?_;subst he;refine⟨lim.keeps x.toInCall.keep,codeAny_func ?_⟩;obtain⟨t,ht,hq⟩:=hbody A outer s H vs Q E (hr.deeper _) hsp;have I:Inv (bz CX P w K mg base N qual scope f cdv A outer s H E) [] (start N vs) H s1:=Mi S hr.hd e0 hl r x;refine B6 (ht [] s1 (start N vs) H _ I hq) (λfl s' hs=>?_) λe s' hs=>hs;have fin:∀{σ':St}{H':Hp}{v:V}{u:Ae},Inv (bz CX P w K mg base N qual scope f cdv A outer s H E) [] σ' H' s'->RelV v u->Q v H'->CE outer P w H s Q u s':=
  λ{σ' H' v u} J rv q=>⟨v,H',J.os,J.bare,J.base,J.hok,rv,q⟩
 cases fl with
 |ret u=>
  obtain⟨v,σ',H',J,rv,q⟩:=hs;exact fin J rv q
 |next=>
  obtain⟨σ',H',J,q⟩:=hs;exact fin (v:=V.non) (u:=B5) J rfl q
 |brk=>
  obtain⟨_,_,_,q⟩:=hs;exact False.elim q
 |cont=>
  obtain⟨_,_,_,q⟩:=hs;exact False.elim q
section
variable{X:Cx}{x:Str}{p pos:Pos}{e:Expr}{es:List Expr}{t:TA}{id T:String}{r:List V->Hp->VK->Prop}
def eT(r:List V->Hp->VK->Prop)(t:TA):TE:=λσ H Q=>t σ H λvs H1=>r vs H1 Q
theorem ju(hc:CallR X (.builtin id) r)(hg:Gl X x)(hm:X.mg x=af)(hv:Bp x=ae (.builtin id))(ha:PA X (e::es) t)(hn:x≠"__name__":=by decide)(hdb:(x==("__debug__":Str))=ai:=by decide)
  (he:Ap (e::es) X.env=(ai,eval e X.env)::Ap es X.env:=by rfl) (hpl:(Cy pos (Ap es X.env)).any (·.1)=ai:=by rfl):PE X (.Call (.Name x p) (e::es) [] pos) (eT r t):=by
 intro pins s σ H Q I h;refine Ep (jU I hg hm hv ?_ hn hdb);exact PyProof.Rows.callWith_builtin1 (aG (ha pos pins s σ H _ I h) λus s1 ⟨vs,H1,I1,r1,q1⟩=>hc pins s1 σ H1 vs us Q I1 r1 q1) he hpl
theorem nj(hc:CallR X (.type T) r)(hg:Gl X x)(hm:X.mg x=af)(hv:Bp x=ae (.type T))(ha:PA X (e::es) t)(hn:x≠"__name__":=by decide)(hdb:(x==("__debug__":Str))=ai:=by decide)
  (he:Ap (e::es) X.env=(ai,eval e X.env)::Ap es X.env:=by rfl) (hpl:(Cy pos (Ap es X.env)).any (·.1)=ai:=by rfl):PE X (.Call (.Name x p) (e::es) [] pos) (eT r t):=by
 intro pins s σ H Q I h;refine Ep (jU I hg hm hv ?_ hn hdb);exact C8 (aG (ha pos pins s σ H _ I h) λus s1 ⟨vs,H1,I1,r1,q1⟩=>hc pins s1 σ H1 vs us Q I1 r1 q1) he hpl
end
end L2
namespace HT
open PySem PyProof.Rows
section
variable{prog:A7}{w:Bi}{A:Br}{E:Ae->Ai->Prop}{s:Ai}
theorem cat_tup(ht:IsTup s.heap t vs.toArray)(hb:IsTup s.heap b ws.toArray)(hv:vs≠[])
  (h1:ws=[]->Q (.ref t) s) (h2:ws≠[]->Q (.ref s.heap.objs.size) {s with heap:=s.heap.push {cls:=.type "tuple",data:=.seq (vs++ws).toArray}})
  (hsz:vs.length+ws.length<=Ar):Av (A9 prog w) A (Er .Add (.ref t) (.ref b)) Q E s:=by
 obtain⟨⟨cls,dd,data,sl⟩,ho,hc,n,hd⟩:=id ht;obtain⟨⟨cls2,dd2,data2,sl2⟩,ho2,hc2,n2,hd2⟩:=id hb;simp only at hc hd hc2 hd2;subst hc hd hc2 hd2;have e:vs.toArray++ws.toArray=(vs++ws).toArray:=by simp
 by_cases hw:ws=[]
 ·exact concat_meets ⟨_,ho,rfl⟩ ⟨_,ho2,rfl⟩ noFill_tuple_add seq_tuple_add Gj Gf (F6 _ _)
   (tuple_addW1 t b vs.toArray ws.toArray n n2 dd dd2 sl sl2 (by simpa using hv) (by simp[hw])) ⟨ho,ho2,h1 hw⟩
 ·refine concat_meets ⟨_,ho,rfl⟩ ⟨_,ho2,rfl⟩ noFill_tuple_add seq_tuple_add Gj Gf (F6 _ _)
   (tuple_addW2 t b vs.toArray ws.toArray n n2 dd dd2 sl sl2 (by simpa using hv) (by simpa using hw) (by rw[Ax,Ax];exact hsz)) ⟨ho,ho2,?_⟩
  rw[e];exact h2 hw
def sIx(n d:Nat):Option Int->Nat
 |none=>d
 |some v=>if v < 0 then(v+(n:Int)).toNat else min v.toNat n
theorem sIx_none(n d):sIx n d af=d:=rfl
theorem sIx_nat(n d k:Nat):sIx n d (ae (k:Int))=min k n:=by
 show(if (k:Int) < 0 then((k:Int)+(n:Int)).toNat else min (k:Int).toNat n)=min k n;rw[if_neg ⋯,Dz]
theorem Ks(n d)(hd:d<=n)(o):sIx n d o<=n:=by
 cases o with
 |none=>exact hd
 |some v=>
  show(if v < 0 then(v+(n:Int)).toNat else min v.toNat n)<=n;by_cases hv:v < 0
  ·rw[if_pos hv];omega
  ·rw[if_neg hv];exact Nat.min_le_right _ _
theorem BM(v)(n d:Nat):(if v < 0 then max (v+(n:Int)) 0 else min v (n:Int))=((sIx n d (ae v):Nat):Int):=by
 show(if v < 0 then max (v+(n:Int)) 0 else min v (n:Int))=(((if v < 0 then(v+(n:Int)).toNat else min v.toNat n):Nat):Int);by_cases hv:v < 0
 ·simp only[if_pos hv];omega
 ·simp only[if_neg hv];omega
theorem SE(lo hi)(n:Nat):G5 lo hi 1 (n:Int)=(((sIx n 0 lo:Nat):Int),((sIx n n hi:Nat):Int)):=by
 have h1:¬((1:Int) < 0):=by omega
 unfold G5;simp only[h1,if_false];refine Prod.ext ?_ ?_
 ·cases lo with
  |none=>rfl
  |some v=>exact BM v n 0
 ·cases hi with
  |none=>rfl
  |some v=>exact BM v n n
theorem QA(i j:Nat):Fj (i:Int) (j:Int) 1=j-i:=by
 unfold Fj;have h1:(1:Int) > 0:=by omega
 simp only[h1,if_true,Int.ediv_one]
 split<;>omega
theorem FR(p:IsPart v o)(h:Q o s):Av (A9 prog w) A (Builtin.Slice.slicePartIndex v) Q E s:=by
 cases p with
 |none=>exact slicePart_none h
 |int i t=>exact slicePart_int h
theorem EZ{lo hi:Option Int}{Q:Int×Int×Nat->Ai->Prop}(hs:s.heap.IsSliceOf sl vl vu .none)(pl:IsPart vl lo)(pu:IsPart vu hi)
  (h:Q (((sIx n 0 lo:Nat):Int),1,sIx n n hi-sIx n 0 lo) s):Av (A9 prog w) A (Builtin.Slice.sliceApplied (.ref sl) (pure (n:Int))) Q E s:=by
 obtain⟨os,hos,hcs,hds⟩:=id hs;unfold Builtin.Slice.sliceApplied Builtin.Slice.sliceFields;refine Aa (Aa (Dn hos hds (x:=vl) rfl (Aa (Dn hos hds (x:=vu) rfl (Aa (Dn hos hds (x:=.none) rfl (Aj ?_)))))));refine Aa (slicePart_none ?_);show Av _ _ (if ((1:Int)==0)=ah then _ else _) _ _ s;rw[if_neg ∎];refine Aa (FR pl (Aa (FR pu (Aa (Aj ?_)))));show Av _ _ (match G5 lo hi 1 (n:Int)with|(lo,hi)=>pure (lo,(1:Int),Fj lo hi 1)) _ _ s;rw[SE lo hi n];show Av _ _ (pure (((sIx n 0 lo:Nat):Int),(1:Int),Fj ((sIx n 0 lo:Nat):Int) ((sIx n n hi:Nat):Int) 1)) _ _ s;rw[QA];exact Aj h
theorem K5(xs:Array Ae)(i k:Nat):((A5 k).filterMap λ(m:Nat)=>xs[((i:Int)+(m:Int)*1).toNat]?).toArray=((xs.toList.drop i).take k).toArray:=by
 have e:(λ(m:Nat)=>xs[((i:Int)+(m:Int)*1).toNat]?)=λm=>xs[i+m]?:=by
  funext m
  have:((i:Int)+(m:Int)*1).toNat=i+m:=by omega
  rw[this]
 rw[e];have:=pick_run xs i k;rw[List.filterMap_map]at this;have e2:((λx=>xs[x]?) ∘ λx=>i+x)=λm=>xs[i+m]?:=rfl;rw[e2]at this;rw[this]
theorem getItem_tuple_cut{lo hi:Option Int}(ht:IsTup s.heap t items)(hs:s.heap.IsSliceOf sl vl vu .none)(pl:IsPart vl lo)(pu:IsPart vu hi)
  (hw:¬(sIx items.size 0 lo=0/\sIx items.size items.size hi=items.size))
  (h:Q (.ref s.heap.objs.size) {s with heap:=s.heap.push {cls:=.type "tuple",data:=.seq ((items.toList.drop (sIx items.size 0 lo)).take (sIx items.size items.size hi-sIx items.size 0 lo)).toArray}})
  (hsz:items.size<=Ar):Av (A9 prog w) A (getItem (.ref t) (.ref sl)) Q E s:=by
 have htake:sizeOk (.seq ((items.toList.drop (sIx items.size 0 lo)).take (sIx items.size items.size hi-sIx items.size 0 lo)).toArray):=by
  show((items.toList.drop (sIx items.size 0 lo)).take (sIx items.size items.size hi-sIx items.size 0 lo)).toArray.size<=Ar;rw[Ax,C4,D5,Ce];omega
 have hj:sIx items.size items.size hi<=items.size:=Ks _ _ (Am _) hi;obtain⟨os,hos,hcs,hds⟩:=id hs;have hTs:s.TypeIs (.ref sl) "slice":=⟨os,hos,hcs⟩;unfold getItem
 try with_reducible refine B3 ?_
 first|refine Aa (Aj ?_)|skip
 refine Aa (wpAny_sequenceKey ht.typeIs ∎ ?_);refine Aa (C2 (name:=E2 "__getitem__") ht.typeIs Em
  (Ea Em ht.typeIs entry_tuple_getitem ?_ (args_tuple_getitem _ _)))
 show Av _ _ (Eb (.ref t)>>=_) _ _ s;refine Aa (tupleItemsOf_ ht ?_);refine Aa (wpAny_typeOf hTs ?_);rw[if_pos ∎];refine Aa (EZ hs pl pu ?_);have hno:¬((((sIx items.size 0 lo:Nat):Int)==0&&(1:Int)==1&&(sIx items.size items.size hi-sIx items.size 0 lo)==items.size)=ah):=by
  intro q;rw[Bm,Bm]at q;have q1:((sIx items.size 0 lo:Nat):Int)=0:=eq_of_beq q.1.1;have q2:sIx items.size items.size hi-sIx items.size 0 lo=items.size:=eq_of_beq q.2;exact hw ⟨by omega,by omega⟩
 show Av _ _ (if (((sIx items.size 0 lo:Nat):Int)==0&&(1:Int)==1&&(sIx items.size items.size hi-sIx items.size 0 lo)==items.size)=ah then _ else _) _ _ s;rw[if_neg hno,K5]
 first
  |exact Aa (m:=Fp _) (Ct (Aj ⟨_,rfl,Aj h⟩) htake)
  |exact Aa (m:=Fp _) (Ct (Aa (Aj (Aj ⟨_,rfl,Aj h⟩))) htake)
  |exact Aa (Aa (m:=Fp _) (Ct (Aj (Aj ⟨_,rfl,Aj h⟩)) htake))
  |exact Aa (Aa (m:=Fp _) (Ct (Aj ⟨_,rfl,Aj h⟩) htake))
end
end HT
namespace L2
open PySem PySem.Spec PyProof.Rows
abbrev TO:=St->Hp->(Option Int->Hp->Prop)->Prop
def PO(X:Cx)(e:Option Expr)(t:TO):Prop:=
 ∀(pins:List (Addr×Obj))(s:Ai)(σ:St)(H:Hp)(Q:Option Int->Hp->Prop),Inv X pins σ H s->t σ H Q->
  Av (A9 X.prog X.w) X.A (evalPart e X.env) (λu s'=>∃o H',Inv X pins σ H' s'/\IsPart u o/\Q o H') X.xe s
def HQ:TO:=λ_ H Q=>Q af H
def Ii(t:TE):TO:=λσ H Q=>t σ H λx H1=>∃i,x=.int i/\Q (ae i) H1
theorem Pn:∀{us:List Ae},Vals (ns.map V.int) us->IntsAre us ns:=by
 induction ns with
 |nil=>intro us r;rw[List.map_nil]at r;cases r;exact .nil
 |cons n ns ih=>
  intro us r;rw[Bg]at r;cases r with
  |cons r1 r2=>
   obtain⟨t,e⟩:=r1;subst e;exact .cons n t (ih r2)
section
variable{X:Cx}{e:Expr}{te:TE}{lo hi:Option Expr}{tl th:TO}{pos p2:Pos}
theorem DY:PO X af HQ:=by
 intro pins s σ H Q I h;rw[evalPart_none];exact Aj ⟨af,H,I,.none,h⟩
theorem AN(h:PE X e te):PO X (ae e) (Ii te):=by
 intro pins s σ H Q I hw;rw[evalPart_some];refine aG (h pins s σ H _ I hw) λu s1 ⟨x,H1,I1,r1,q1⟩=>?_;obtain⟨i,rfl,q⟩:=q1;obtain⟨t,rfl⟩:=r1;exact⟨ae i,H1,I1,.int i t,q⟩
def SlR(X:Cx)(r:V->Option Int->Option Int->Hp->VK->Prop):Prop:=
 ∀(pins:List (Addr×Obj))(s:Ai)(σ:St)(H:Hp)(x:V)(v vl vu:Ae)(lo hi:Option Int)(sl:Addr)(Q:VK),Inv X pins σ H s->RelV x v->s.heap.IsSliceOf sl vl vu .none->IsPart vl lo->IsPart vu hi->r x lo hi H Q->
  ∃T id,typeLookup (.type T) "__getitem__"=pure (ae (.builtin id))/\s.TypeIs v T/\Av (A9 X.prog X.w) X.A (getItem v (.ref sl)) (EP X pins σ Q) X.xe s
theorem SlR.or(h:SlR X r)(h':SlR X r'):SlR X (λx lo hi H Q=>r x lo hi H Q\/r' x lo hi H Q):=by
 intro pins s σ H x v vl vu lo hi sl Q I rx hs pl pu q;rcases q with q|q
 ·exact h pins s σ H x v vl vu lo hi sl Q I rx hs pl pu q
 ·exact h' pins s σ H x v vl vu lo hi sl Q I rx hs pl pu q
def HP(r:V->Option Int->Option Int->Hp->VK->Prop)(te:TE)(tl th:TO):TE:=λσ H Q=>te σ H λx H1=>tl σ H1 λl H2=>th σ H2 λu H3=>r x l u H3 Q
theorem GN(hr:SlR X r)(he:PE X e te)(hl:PO X lo tl)(hu:PO X hi th):PE X (.Subscript e (.Slice lo hi af p2) pos) (HP r te tl th):=by
 intro pins s σ H Q I h;refine Subscript_ (aG (he pins s σ H _ I h) λv s1 ⟨x,H1,I1,r1,q1⟩=>?_);refine wpAny_Slice (aG (hl pins s1 σ H1 _ I1 q1) λvl s2 ⟨l,H2,I2,pl,q2⟩=>aG (hu pins s2 σ H2 _ I2 q2) λvu s3 ⟨u,H3,I3,pu,q3⟩=>?_);rw[evalPart_none];refine Aj ?_;have I4:Inv X pins σ H3 {s3 with heap:=s3.heap.push {cls:=.type "slice",data:=.fields #[vl,vu,.none]}}:=I3.kept (t':=s3.toks) λb ob q=>Ah _ q;obtain⟨T,id,hT,ht,hg⟩:=hr pins {s3 with heap:=s3.heap.push {cls:=.type "slice",data:=.fields #[vl,vu,.none]}} σ H3 x v vl vu l u s3.heap.objs.size Q I4 r1 (Heap.IsSliceOf.new ..) pl pu q3;show Av (A9 X.prog X.w) X.A (subscriptTail e (.Slice lo hi af p2) v (.ref s3.heap.objs.size)) (EP X pins σ Q) X.xe {s3 with heap:=s3.heap.push {cls:=.type "slice",data:=.fields #[vl,vu,.none]}};exact tail_any (ops:=[.ref s3.heap.objs.size,v]) ht hT hg (by with_unfolding_all rfl)
def eD(xs:List V)(lo hi:Option Int):List V:=(xs.drop (HT.sIx xs.length 0 lo)).take (HT.sIx xs.length xs.length hi-HT.sIx xs.length 0 lo)
theorem wI(xs:List V)(lo hi):(eD xs lo hi).length<=xs.length:=by
 unfold eD;rw[C4,D5];omega
def nJ(K:Af):V->Option Int->Option Int->Hp->VK->Prop:=λx lo hi H Q=>∃a xs,x=.ref a/\SqT K H a xs /\
 ¬(HT.sIx xs.length 0 lo=0/\HT.sIx xs.length xs.length hi=xs.length)/\∀p,H p=af->Q (.ref p) (upd H p (.tup (eD xs lo hi)))
theorem sl_tup:SlR X (nJ X.K):=by
 intro pins s σ H x v vl vu lo hi sl Q I rx hs pl pu h;obtain⟨a,xs,rfl,hx,hw,q⟩:=h;cases rx;obtain⟨its,r,ht,hz⟩:=I.tuple hx;have hlen:its.toArray.size=xs.length:=by rw[Ax];exact r.length.symm
 refine⟨"tuple",_,PyProof.Rows.slot_tuple_getitem.lookup,ht.typeIs,?_⟩;refine HT.getItem_tuple_cut ht hs pl pu (by rw[hlen];exact hw) ?_ (by rw[hlen];exact hz);rw[hlen];refine⟨.ref s.heap.objs.size,_,I.laid (t':=s.toks) (o:=.tup (eD xs lo hi)) (λb ob q=>Ah _ q) (Am _) ?_,rfl,q _ (I.hok.fresh (Am _))⟩;exact⟨Bb (wI xs lo hi) hz,_,(r.drop (HT.sIx xs.length 0 lo)).take (HT.sIx xs.length xs.length hi-HT.sIx xs.length 0 lo),IsTupP.new _ _⟩
def HZ(K:Af):R2:=λx y H Q=>∃a b xs ys,x=.ref a/\y=.ref b/\SqT K H a xs/\SqT K H b ys/\xs≠[]/\xs.length+ys.length<=Ar /\
 (ys=[]->Q (.ref a) H)/\(ys≠[]->∀p,H p=af->Q (.ref p) (upd H p (.tup (xs++ys))))
theorem Vals.nil_iff(r:Vals xs us):us=[]↔xs=[]:=by
 cases r with
 |nil=>simp
 |cons _ _=>simp
theorem op_catT:OpR X (Er .Add) (HZ X.K):=by
 intro pins s σ H x y v u Q I rx ry h;obtain⟨a,b,xs,ys,rfl,rfl,ha,hb,hx,hz,q1,q2⟩:=h;cases rx;cases ry;obtain⟨its,r1,p1,_⟩:=I.tuple ha;obtain⟨its2,r2,p2,_⟩:=I.tuple hb;refine HT.cat_tup p1 p2 (λz=>hx (r1.nil_iff.mp z)) (λz=>⟨.ref a,H,I,rfl,q1 (r2.nil_iff.mp z)⟩) (λz=>?_) (by rw[<-r1.length,<-r2.length];exact hz);refine⟨.ref s.heap.objs.size,_,I.laid (t':=s.toks) (o:=.tup (xs++ys)) (λb ob q=>Ah _ q) (Am _) ?_,rfl,q2 (λw=>z (r2.nil_iff.mpr w)) _ (I.hok.fresh (Am _))⟩;exact⟨by rw[A2];exact hz,_,r1.append r2,IsTupP.new _ _⟩
end
def jL(n:Nat)(i:Int):Option Nat:=if 0<=i then(if i < n then ae i.toNat else af)else if -(n:Int)<=i then ae (i+n).toNat else af
def df{α:Type}(xs:List α)(i:Int):Option α:=(jL xs.length i).bind λj=>xs[j]?
theorem HR(h:jL n i=ae j):seqIndex? i n=ae j/\j < n/\-(n:Int)<=i/\i < n:=by
 unfold jL at h;by_cases h0:0<=i
 ·rw[if_pos h0]at h;by_cases h1:i < n
  ·rw[if_pos h1]at h;have e:i.toNat=j:=A4 h;exact⟨by rw[seqIndex_of h0 h1,e],by omega,by omega,h1⟩
  ·rw[if_neg h1]at h;cases h
 ·rw[if_neg h0]at h;by_cases h1:-(n:Int)<=i
  ·rw[if_pos h1]at h;have e:(i+n).toNat=j:=A4 h;exact⟨by rw[seqIndex_neg ⋯ h1,e],by omega,h1,by omega⟩
  ·rw[if_neg h1]at h;cases h
theorem uh(h:df xs i=ae v):∃j,seqIndex? i xs.length=ae j/\xs[j]?=ae v/\j < xs.length/\-(xs.length:Int)<=i/\i < xs.length:=by
 unfold df at h;cases e:jL xs.length i with
 |none=>rw[e]at h;cases h
 |some j=>
  rw[e]at h;obtain⟨h1,h2,h3,h4⟩:=HR e;exact⟨j,h1,h,h2,h3,h4⟩
theorem fG{j:Nat}(h:xs[j]?=ae v):df xs (j:Int)=ae v:=by
 have hj:j < xs.length:=(Al.mp h).1;have e:jL xs.length (j:Int)=ae j:=by
  unfold jL;rw[if_pos ⋯,if_pos ⋯];simp
 unfold df;rw[e];exact h
def qp(b:Expr):Prop:=∀o i,subscripted b ai o i=operate [o,i] (getItem o i)
def IxR(X:Cx)(r:R2):Prop:=
 ∀(value slice:Expr)(pins:List (Addr×Obj))(s:Ai)(σ:St)(H:Hp)(x y:V)(v u:Ae)(Q:VK),Inv X pins σ H s->RelV x v->RelV y u->r x y H Q->
  subscripted slice ai v u=operate [v,u] (getItem v u)->Av (A9 X.prog X.w) X.A (subscriptTail value slice v u) (EP X pins σ Q) X.xe s
def wD(X:Cx)(id:String)(r:V->List V->Hp->VK->Prop):Prop:=
 ∀(pins:List (Addr×Obj))(s:Ai)(σ:St)(H:Hp)(x:V)(xs:List V)(v:Ae)(us:List Ae)(Q:VK),Inv X pins σ H s->RelV x v->Vals xs us->r x xs H Q->
  Av (A9 X.prog X.w) X.A (call (.builtin id) (v::us)) (EP X pins σ Q) X.xe s
section
variable{X:Cx}{a b:Expr}{ta tb:TE}{pos:Pos}
theorem IxR.or(h:IxR X r)(h':IxR X r'):IxR X (λx y H Q=>r x y H Q\/r' x y H Q):=by
 intro value slice pins s σ H x y v u Q I rx ry q hs;rcases q with q|q
 ·exact h value slice pins s σ H x y v u Q I rx ry q hs
 ·exact h' value slice pins s σ H x y v u Q I rx ry q hs
theorem ix(hr:IxR X r)(ha:PE X a ta)(hb:PE X b tb)(hs:qp b):PE X (.Subscript a b pos) (cS r ta tb):=by
 intro pins s σ H Q I h;exact Subscript_ (kZ ha hb I h λv u s2 x y H2 I2 rx ry q=>hr a b pins s2 σ H2 x y v u Q I2 rx ry q (hs _ _))
def nO(K:Af):R2:=λx y H Q=>∃p xs i v,x=.ref p/\y=.int i/\SqL K H p xs/\df xs i=ae v/\Q v H
def nN(K:Af):R2:=λx y H Q=>∃p xs i v,x=.ref p/\y=.int i/\SqT K H p xs/\df xs i=ae v/\Q v H
def nZ:R2:=λx y H Q=>∃z i c,x=.str z/\y=.int i/\z.length<=Ar/\df z.cps.toList i=ae c/\Q (.str ⟨#[c]⟩) H
theorem ix_list:IxR X (nO X.K):=by
 intro value slice pins s σ H x y v u Q I rx ry h hs;obtain⟨p,xs,i,z,rfl,rfl,hq,he,q⟩:=h;cases rx;obtain⟨t,rfl⟩:=ry;obtain⟨its,r,pl,hz⟩:=I.list hq;obtain⟨j,h1,h2,h3,h4,h5⟩:=uh he;obtain⟨w,ew,rw'⟩:=r.get h2;have hl:=r.length;have hn:=lD;have fin:EP X pins σ Q w s:=⟨z,H,I,rw',q⟩;by_cases h0:0<=i
 ·have hj:i.toNat=j:=by
   rw[seqIndex_of h0 h5]at h1;exact A4 h1
  exact item_listR pl.isList h0 ⋯ (by rw[hj];simpa using ew) fin hs
 ·have hj:(i+(its.toArray.size:Int)).toNat=j:=by
   rw[seqIndex_neg ⋯ h4]at h1;rw[Ax,<-hl];exact A4 h1
  exact subscriptTail_builtinR (x:=w) pl.isList.typeIs slot_list_getitem.lookup
   (wpAny_getItem_list_neg (Q:=λr s'=>r=w/\EP X pins σ Q r s') pl.isList ⋯ (by rw[Ax]<;>omega) ⋯ (by rw[hj];simpa using ew) ⟨rfl,fin⟩) hs
theorem ix_tup:IxR X (nN X.K):=by
 intro value slice pins s σ H x y v u Q I rx ry h hs;obtain⟨p,xs,i,z,rfl,rfl,hq,he,q⟩:=h;cases rx;obtain⟨t,rfl⟩:=ry;obtain⟨its,r,pl,hz⟩:=I.tuple hq;obtain⟨j,h1,h2,h3,h4,h5⟩:=uh he;obtain⟨w,ew,rw'⟩:=r.get h2;have hl:=r.length;have hn:=lD;have fin:EP X pins σ Q w s:=⟨z,H,I,rw',q⟩;exact subscriptTail_builtinR (x:=w) pl.typeIs slot_tuple_getitem.lookup
  (getItem_tuple (j:=j) (Q:=λr s'=>r=w/\EP X pins σ Q r s') pl ⋯ ⋯ (by rw[Ax,<-hl];exact h1) (by simpa using ew) ⟨rfl,fin⟩) hs
theorem Qb:IxR X nZ:=by
 intro value slice pins s σ H x y v u Q I rx ry h hs;obtain⟨z,i,c,rfl,rfl,hz,he,q⟩:=h;obtain⟨t,rfl⟩:=rx;obtain⟨t',rfl⟩:=ry;obtain⟨j,h1,h2,h3,h4,h5⟩:=uh he;have hl:z.cps.toList.length=z.length:=by simp[Str.length]
 rw[hl]at h1 h4 h5;have hn:=lD;exact tail_any (typeIs_str s z t) slot_str_getitem.lookup (getItem_str (c:=c) (by
  have e1:decide (i < -(2 ^ 63:Int))=ai:=decide_eq_false ⋯;have e2:decide (i ≥ 2 ^ 63)=ai:=decide_eq_false ⋯;rw[e1,e2,Bool.or_false]) (by rw[h1];simpa using h2) ⟨.str ⟨#[c]⟩,H,I.tok _,⟨_,rfl⟩,q⟩) hs
def lZ(K:Af):R2:=λx y H Q=>nO K x y H Q\/nN K x y H Q\/nZ x y H Q
theorem zx:IxR X (lZ X.K):=ix_list.or (ix_tup.or Qb)
theorem L7(its:List Ae)(n j)(u):Cz (·.setIfInBounds j u) {cls:=.type "list",data:=.seq its.toArray n}={ cls:=.type "list",data:=.seq (its.set j u).toArray n}:=by
 simp[Cz]
theorem Inv.lst{σ:St}{H:Hp}{s:Ai}{p:Addr}{xs:List V}(I:Inv X pins σ H s)(h:H p=ae (.lst xs)):
  ∃(its:List Ae)(n:Nat),Vals xs its/\s.heap.get? p=ae {cls:=.type "list",data:=.seq its.toArray n}/\xs.length<=Ar:=by
 obtain⟨z,its,n,r,e⟩:=I.hok p _ h;exact⟨its,n,r,e,z⟩
theorem Inv.lstUpd{σ:St}{its its':List Ae}(I:Inv X pins σ H s)(h:H p=ae (.lst xs))
  (ho:s.heap.get? p=ae {cls:=.type "list",data:=.seq its.toArray n}) (hf:f {cls:=.type "list",data:=.seq its.toArray n}={ cls:=.type "list",data:=.seq its'.toArray n'}) (r:Vals ys its') (hz:ys.length<=Ar) (t):
  Inv X pins σ (upd H p (.lst ys)) {s with heap:=s.heap.update p f,toks:=t}:=by
 have e:(s.heap.update p f).get? p=ae {cls:=.type "list",data:=.seq its'.toArray n'}:=by
  rw[Cn f ho (by rw[hf]<;>rfl),hf]
 refine I.write (x:=p) (e:=p) (by rw[h];trivial) (.inl rfl) (λb u hb q=>(Fg _ _ (Ne.symm hb)).trans q) ⟨_,e⟩ ?_;exact⟨hz,its',n',r,e⟩
def RG:V->V->V->Hp->(Hp->Prop)->Prop:=λo i v H Q=>∃p xs k j,o=.ref p/\i=.int k/\H p=ae (.lst xs)/\jL xs.length k=ae j/\Q (upd H p (.lst (xs.set j v)))
theorem t9:oO X RG:=by
 intro pins s σ H o i v ov iv u Q I ro ri rv h;obtain⟨p,xs,k,j,rfl,rfl,hp,hj,q⟩:=h;cases ro;obtain⟨t,rfl⟩:=ri;obtain⟨its,n,r,ho,hz⟩:=I.lst hp;obtain⟨h1,h2,h3,h4⟩:=HR hj;have hl:=r.length;have hn:=lD;have I':Inv X pins σ (upd H p (.lst (xs.set j v))) {s with heap:=s.heap.update p (Cz (·.setIfInBounds j u))}:=
  I.lstUpd hp ho (L7 its n j u) (r.set rv j) (by rw[B8];exact hz) s.toks
 by_cases h0:0<=k
 ·have hk:k.toNat=j:=by
   rw[seqIndex_of h0 h4]at h1;exact A4 h1
  exact PySem.W.ki_setAt ho h0 ⋯ (by rw[Ax,<-hl];exact h4) (by rw[hk];exact⟨_,I',q⟩)
 ·have hk:(k+(its.toArray.size:Int)).toNat=j:=by
   rw[seqIndex_neg ⋯ h3]at h1;rw[Ax,<-hl];exact A4 h1
  exact PySem.W.ki_setBack ho ⋯ (by rw[Ax,<-hl];exact h3) ⋯ (by rw[hk];exact⟨_,I',q⟩)
theorem Pb(lo hi)(n):(Hb lo hi af n).1=((HT.sIx n 0 lo:Nat):Int)/\(Hb lo hi af n).2.1=((HT.sIx n n hi:Nat):Int)/\(Hb lo hi af n).2.2=1:=by
 refine⟨?_,?_,rfl⟩
 ·cases lo with
  |none=>simp[Hb,HT.sIx]
  |some i=>
   simp only[Hb,HT.sIx,Option.getD_none,show(1:Int) > 0 by decide,if_true];by_cases h:i < 0
   ·simp only[h,if_true]<;>omega
   ·simp only[h,if_false]<;>omega
 ·cases hi with
  |none=>simp[Hb,HT.sIx]
  |some i=>
   simp only[Hb,HT.sIx,Option.getD_none,show(1:Int) > 0 by decide,if_true];by_cases h:i < 0
   ·simp only[h,if_true]<;>omega
   ·simp only[h,if_false]<;>omega
theorem K1(its:List Ae)(lo hi):slicePick its.toArray lo hi af=((its.drop (HT.sIx its.length 0 lo)).take (HT.sIx its.length its.length hi-HT.sIx its.length 0 lo)).toArray:=by
 obtain⟨h1,h2,h3⟩:=Pb lo hi its.toArray.size;unfold slicePick;rw[h1,h2,h3];simp only[sliceRange_one,pick_run,Ax]<;>rfl
def u9(K:Af):V->Option Int->Option Int->Hp->VK->Prop:=λx lo hi H Q=>∃a xs,x=.ref a/\SqL K H a xs/\∀p,H p=af->Q (.ref p) (upd H p (.lst (eD xs lo hi)))
theorem RB:SlR X (u9 X.K):=by
 intro pins s σ H x v vl vu lo hi sl Q I rx hs pl pu h;obtain⟨a,xs,rfl,hx,q⟩:=h;cases rx;obtain⟨its,r,ht,hz⟩:=I.list hx;have hlen:=r.length;refine⟨"list",_,slot_list_getitem.lookup,ht.isList.typeIs,?_⟩;refine wpAny_getItem_list_slice ht.isList hs pl pu .none (by simp) ?_ (by rw[Ax]<;>omega);rw[K1,<-hlen];refine⟨.ref s.heap.objs.size,_,I.laid (t':=s.toks) (o:=.lst (eD xs lo hi)) (λb ob q=>Ah _ q) (Am _) ?_,rfl,q _ (I.hok.fresh (Am _))⟩;exact⟨Bb (wI xs lo hi) hz,_,0,(r.drop (HT.sIx xs.length 0 lo)).take (HT.sIx xs.length xs.length hi-HT.sIx xs.length 0 lo),A0 _ rfl⟩
def gU:V->Bool
 |.non=>ah
 |.bl _=>ah
 |.int _=>ah
 |.str _=>ah
 |_=>ai
def il:V->V->Bool
 |.non,.non=>ah
 |.bl a,.bl b=>a==b
 |.bl a,.int b=>(if a then 1 else 0)==b
 |.int a,.bl b=>a==(if b then 1 else 0)
 |.int a,.int b=>a==b
 |.str a,.str b=>a==b
 |_,_=>ai
theorem HD(ry:RelV y u)(rx:RelV x v)(fy:gU y=ah)(fx:gU x=ah):SeqAt.EqAt A s u v (il y x):=by
 cases y with
 |non=>
  cases ry;cases x with
  |non=>cases rx;exact SeqAt.EqAt.same _
  |bl b=>cases rx;exact SeqAt.EqAt.none_bool b
  |int b=>obtain⟨t,rfl⟩:=rx;exact SeqAt.EqAt.none_int b t
  |str b=>obtain⟨t,rfl⟩:=rx;exact SeqAt.EqAt.none_str b t
  |_=>exact absurd (show ai=ah from fx) Ak
 |bl a=>
  cases ry;cases x with
  |non=>cases rx;exact SeqAt.EqAt.bool_none a
  |bl b=>cases rx;exact SeqAt.EqAt.bool_bool a b
  |int b=>obtain⟨t,rfl⟩:=rx;exact SeqAt.EqAt.bool_int a b t
  |str b=>obtain⟨t,rfl⟩:=rx;exact SeqAt.EqAt.bool_str a b t
  |_=>exact absurd (show ai=ah from fx) Ak
 |int a=>
  obtain⟨t',rfl⟩:=ry;cases x with
  |non=>cases rx;exact SeqAt.EqAt.int_none a t'
  |bl b=>cases rx;exact SeqAt.EqAt.int_bool a t' b
  |int b=>obtain⟨t,rfl⟩:=rx;exact SeqAt.EqAt.int_int a t' b t
  |str b=>obtain⟨t,rfl⟩:=rx;exact SeqAt.EqAt.int_str a t' b t
  |_=>exact absurd (show ai=ah from fx) Ak
 |str a=>
  obtain⟨t',rfl⟩:=ry;cases x with
  |non=>cases rx;exact SeqAt.EqAt.str_none a t'
  |bl b=>cases rx;exact SeqAt.EqAt.str_bool a t' b
  |int b=>obtain⟨t,rfl⟩:=rx;exact SeqAt.EqAt.str_int a t' b t
  |str b=>obtain⟨t,rfl⟩:=rx;exact SeqAt.EqAt.str_str a t' b t
  |_=>exact absurd (show ai=ah from fx) Ak
 |_=>exact absurd (show ai=ah from fy) Ak
def fU(x:V)(u:Ae):Bool:=match u with
 |.none=>il .non x
 |.bool b=>il (.bl b) x
 |.int i _=>il (.int i) x
 |.str z _=>il (.str z) x
 |_=>ai
theorem yH(r:RelV y u)(f:gU y=ah):fU x u=il y x:=by
 cases y with
 |non=>cases r;rfl
 |bl b=>cases r;rfl
 |int i=>obtain⟨t,rfl⟩:=r;rfl
 |str z=>obtain⟨t,rfl⟩:=r;rfl
 |_=>exact absurd (show ai=ah from f) Ak
theorem nr:∀{xs:List V}{us:List Ae},Vals xs us->xs.all gU=ah->us.any (fU x)=xs.any λy=>il y x
 |_,_,.nil,_=>rfl
 |y::xs,u::us,.cons r t,f=>by
  rw[List.all_cons,Bm]at f;rw[Dd,Dd,yH r f.1,nr t f.2]
theorem nH(rx:RelV x v)(fx:gU x=ah):∀{xs:List V}{us:List Ae},Vals xs us->xs.all gU=ah->∀u∈us,SeqAt.EqAt A s u v (fU x u)
 |_,_,.nil,_=>λu hu=>by cases hu
 |y::xs,u::us,.cons r t,f=>λu' hu=>by
  rw[List.all_cons,Bm]at f;rcases Aw.mp hu with rfl|hu
  ·rw[yH r f.1];exact HD r rx f.1 fx
  ·exact nH rx fx t f.2 u' hu
def qD(x:V)(xs:List V):Bool:=xs.any λy=>il y x
def jn(K:Af)(neg:Bool):R2:=λx y H Q=>∃p xs,y=.ref p/\(SqL K H p xs\/SqT K H p xs)/\gU x=ah/\xs.all gU=ah/\Q (.bl (if neg then !qD x xs else qD x xs)) H
theorem KI:OpR X (Bu .In) (jn X.K ai):=by
 intro pins s σ H x y v u Q I rx ry h;obtain⟨p,xs,rfl,hq,fx,fs,q⟩:=h;cases ry;rcases hq with hq|hq
 ·obtain⟨its,r,pl,hz⟩:=I.list hq;refine SeqAt.in_listAt (fU x) pl.isList (λw hw=>nH rx fx r fs w (by simpa using hw)) ⟨.bl _,H,I,rfl,?_⟩;rw[show its.toArray.any (fU x)=its.any (fU x) by simp,nr r fs];exact q
 ·obtain⟨its,r,pl,hz⟩:=I.tuple hq;refine SeqAt.in_tupleAt (fU x) pl (λw hw=>nH rx fx r fs w (by simpa using hw)) ⟨.bl _,H,I,rfl,?_⟩;rw[show its.toArray.any (fU x)=its.any (fU x) by simp,nr r fs];exact q
theorem QC:OpR X (Bu .NotIn) (jn X.K ah):=by
 intro pins s σ H x y v u Q I rx ry h;obtain⟨p,xs,rfl,hq,fx,fs,q⟩:=h;cases ry;rcases hq with hq|hq
 ·obtain⟨its,r,pl,hz⟩:=I.list hq;refine SeqAt.notIn_listAt (fU x) pl.isList (λw hw=>nH rx fx r fs w (by simpa using hw)) ⟨.bl _,H,I,rfl,?_⟩;rw[show its.toArray.any (fU x)=its.any (fU x) by simp,nr r fs];exact q
 ·obtain⟨its,r,pl,hz⟩:=I.tuple hq;refine SeqAt.notIn_tupleAt (fU x) pl (λw hw=>nH rx fx r fs w (by simpa using hw)) ⟨.bl _,H,I,rfl,?_⟩;rw[show its.toArray.any (fU x)=its.any (fU x) by simp,nr r fs];exact q
theorem rD:CallR X (.builtin "len") (λxs H Q=>∃p ys,xs=[.ref p]/\(SqL X.K H p ys\/SqT X.K H p ys)/\Q (.int ys.length) H):=by
 intro pins s σ H xs us Q I r h;obtain⟨p,ys,rfl,hq,q⟩:=h;obtain⟨u,rfl,rx⟩:=gg r;cases rx;have hn:=lD;rcases hq with hq|hq
 ·obtain⟨its,r',pl,hz⟩:=I.list hq;have hlen:=r'.length;exact Calls.call_len_list pl.isList (by simp only[Ax]<;>omega) ⟨.int ys.length,H,I.tok _,⟨s.toks+1,by rw[Ax,hlen]⟩,q⟩
 ·obtain⟨its,r',pl,hz⟩:=I.tuple hq;have hlen:=r'.length;exact len_tuple pl (by simp only[Ax]<;>omega) ⟨.int ys.length,H,I.tok _,⟨s.toks+1,by rw[Ax,hlen]⟩,q⟩
theorem call_len_str:CallR X (.builtin "len") (λxs H Q=>∃z,xs=[.str z]/\z.length<=Ar/\Q (.int z.length) H):=by
 intro pins s σ H xs us Q I r h;obtain⟨z,rfl,hz,q⟩:=h;obtain⟨u,rfl,t,rfl⟩:=gg r;have hn:=lD;exact len_str ⋯ ⟨.int z.length,H,I.tok _,⟨_,rfl⟩,q⟩
theorem CallR.or(h:CallR X f r)(h':CallR X f r'):CallR X f (λxs H Q=>r xs H Q\/r' xs H Q):=by
 intro pins s σ H xs us Q I rs q;rcases q with q|q
 ·exact h pins s σ H xs us Q I rs q
 ·exact h' pins s σ H xs us Q I rs q
theorem Pd:CallR X (.type "tuple") (λxs H Q=>∃p ys,xs=[.ref p]/\((SqL X.K H p ys/\∀l,H l=af->Q (.ref l) (upd H l (.tup ys)))\/(SqT X.K H p ys/\Q (.ref p) H))):=by
 intro pins s σ H xs us Q I r h;obtain⟨p,ys,rfl,h⟩:=h;obtain⟨u,rfl,rx⟩:=gg r;cases rx;rcases h with⟨hq,q⟩|⟨hq,q⟩
 ·obtain⟨its,r',pl,hz⟩:=I.list hq;have hlen:=r'.length;refine call_tuple_list pl.isList (λh' kp=>?_) (by simp only[Ax]<;>omega);have I1:Inv X pins σ H {s with heap:=h'}:=I.kept (t':=s.toks) kp;have I2:Inv X pins σ (upd H h'.objs.size (.tup ys)) {s with heap:=h'.push {cls:=.type "tuple",data:=.seq its.toArray}}:=
   I1.laid (t':=s.toks) (λb o e=>Ah _ e) (Am _) (show ObjOk X.prog X.w _ _ _ (.tup ys)from⟨hz,its,r',IsTupP.new _ _⟩)
  exact⟨.ref h'.objs.size,_,I2,rfl,q _ (I1.hok.fresh (Am _))⟩
 ·obtain⟨its,r',pl,hz⟩:=I.tuple hq;exact call_tuple_same pl ⟨.ref p,H,I,rfl,q⟩
def tP(K:Af)(T:String)(x:V)(H:Hp):Prop:=match x with
 |.str _=>T="str"
 |.int _=>T="int"
 |.ref p=>(T="list"/\∃xs,SqL K H p xs)\/(T="tuple"/\∃o,K.lookup p=ae o/\o.cls=.type "tuple"/\o.dict=af) \/
   (T="dict"/\((∃kvs,H p=ae (.dK kvs))\/∃kvs,H p=ae (.dT kvs)))\/(T="set"/\∃S n,H p=ae (.set S n))
 |_=>False
theorem Ij{σ:St}(I:Inv X pins σ H s)(r:RelV x v)(ty:tP X.K T x H):
  s.TypeIs v T/\∀a,v=.ref a->∃ob,s.heap.get? a=ae ob/\ob.dict=af:=by
 cases x with
 |str z=>
  obtain⟨t,rfl⟩:=r;cases(show T="str" from ty);exact⟨typeIs_str s z t,λ_ e=>nomatch e⟩
 |int i=>
  obtain⟨t,rfl⟩:=r;cases(show T="int" from ty);exact⟨typeIs_int s i t,λ_ e=>nomatch e⟩
 |ref p=>
  cases r;rcases ty with⟨rfl,xs,hq⟩|⟨rfl,o,hk,hc,hd⟩|⟨rfl,hk⟩|⟨rfl,S,n,hk⟩
  ·obtain⟨its,_,pl,_⟩:=I.list hq;refine⟨pl.isList.typeIs,λa e=>?_⟩;cases e;obtain⟨o,n,e,c,hd,_⟩:=pl;exact⟨o,e,hd⟩
  ·refine⟨⟨o,I.kIn p o hk,hc⟩,λa e=>?_⟩;cases e;exact⟨o,I.kIn _ o hk,hd⟩
  ·have z:∃o,s.heap.get? p=ae o/\o.ExactDict:=by
    rcases hk with⟨kvs,hk⟩|⟨kvs,hk⟩
    ·obtain⟨_,_,_,_,o,_,_,e,ex,_⟩:=I.hok p _ hk;exact⟨o,e,ex⟩
    ·obtain⟨_,_,_,_,o,_,_,e,ex,_⟩:=I.hok p _ hk;exact⟨o,e,ex⟩
   obtain⟨o,e,ex⟩:=z;refine⟨⟨o,e,ex.1⟩,λa e2=>?_⟩;cases e2;exact⟨o,e,ex.2.1⟩
  ·obtain⟨o,_,_,_,e,ex,_⟩:=I.hok p _ hk;refine⟨⟨o,e,ex.1⟩,λa e2=>?_⟩;cases e2;exact⟨o,e,ex.2.1⟩
 |_=>exact False.elim ty
def pO(K:Af)(T:String)(r:V->List V->Hp->VK->Prop)(to:TE):TE:=λσ H Q=>to σ H λx H1=>tP K T x H1/\r x [] H1 Q
def tM(K:Af)(T:String)(r:V->List V->Hp->VK->Prop)(to:TE)(t:TA):TE:=λσ H Q=>to σ H λx H1=>tP K T x H1/\t σ H1 λxs H2=>r x xs H2 Q
variable{o e:Expr}{es:List Expr}{to:TE}{t:TA}{name:Str}{apos cpos:Pos}{T id:String}{r:V->List V->Hp->VK->Prop}
theorem Ls(pa:PlainAttrs T)(slot:Slot T name id)(hty:typeOf (.builtin id)=pure (.type "method_descriptor"))(hm:wD X id r)(ho:PE X o to)
  (hbase:attributeBase o name X.env (eval o X.env)=eval o X.env:=by rfl) (hline:(apos.endLine==cpos.line)=ah:=by rfl):PE X (.Call (.Attribute o name apos) [] [] cpos) (pO X.K T r to):=by
 intro pins s σ H Q I h;refine wpAny_Call_method0_late hbase hline (aG (ho pins s σ H _ I h) λv s1 ⟨x,H1,I1,r1,ty,q1⟩=>?_);obtain⟨h1,h2⟩:=Ij I1 r1 ty;exact⟨T,id,pa,slot,hty,h1,h2,Calls.callWith_builtin rfl (PySem.evalArgs_none (hm pins s1 σ H1 x [] v [] Q I1 r1 .nil q1))⟩
theorem KJ(pa:PlainAttrs T)(slot:Slot T name id)(hty:typeOf (.builtin id)=pure (.type "method_descriptor"))(hm:wD X id r)(ho:PE X o to)(ha:PA X (e::es) t)
  (hbase:attributeBase o name X.env (eval o X.env)=eval o X.env:=by rfl)
  (hfew:((Cy cpos (Ap (e::es) X.env)).all (λx=>!x.1)&&(backToKw cpos (keywordEach [] X.env)).all (λx=>x.1.isSome)
   && decide ((e::es).length+([]:List Keyword).length+(if ([]:List Keyword).isEmpty then 0 else 1) < 30))=ah:=by rfl)
  (hline:(apos.endLine==cpos.line)=ah:=by rfl) (hs:Ap (e::es) X.env=(ai,eval e X.env)::Ap es X.env:=by rfl) (hplain:(Cy cpos (Ap es X.env)).any (·.1)=ai:=by rfl):
  PE X (.Call (.Attribute o name apos) (e::es) [] cpos) (tM X.K T r to t):=by
 intro pins s σ H Q I h;refine wpAny_Call_method_late hbase hfew hline rfl (aG (ho pins s σ H _ I h) λv s1 ⟨x,H1,I1,r1,ty,q1⟩=>?_);obtain⟨h1,h2⟩:=Ij I1 r1 ty;refine⟨T,id,pa,slot,hty,h1,h2,?_⟩;have hA:=ha cpos pins s1 σ H1 _ I1 q1;rw[hs]at hA ⊢;refine Calls.callWith_builtin (by show(ai || (Cy cpos (Ap es X.env)).any (·.1))=ai;rw[hplain]<;>rfl) (Calls.evalArgs_plain ?_);exact aG hA λus s2 ⟨vs,H2,I2,r2,q2⟩=>hm pins s2 σ H2 x vs v us Q I2 r1 r2 q2
end
def zB(X:Cx)(id:String)(r:V->List V->Hp->VK->Prop):Prop:=
 ∀(pins:List (Addr×Obj))(s:Ai)(σ:St)(H:Hp)(x:V)(xs:List V)(v:Ae)(us:List Ae)(Q:VK),Inv X pins σ H s->RelV x v->Vals xs us->r x xs H Q->
  Av (A9 X.prog X.w) X.A (call (.builtin id) (v::us)) (EP X pins σ Q) X.xe s
theorem Vals.one:∀{x:V}{us:List Ae},Vals [x] us->∃u,us=[u]/\RelV x u
 |_,_,.cons r .nil=>⟨_,rfl,r⟩
theorem Vals.zero:∀{us:List Ae},Vals [] us->us=[]
 |_,.nil=>rfl
theorem Vals.reverse(h:Vals xs us):Vals xs.reverse us.reverse:=by
 induction h with
 |nil=>exact .nil
 |cons r t ih=>rw[Gt,Gt];exact Vals.append ih (.cons r .nil)
theorem Vals.rep(h:Vals xs us):∀k:Nat,Vals (Ay k xs).flatten (Ay k us).flatten
 |0=>.nil
 |k+1=>by
  rw[Dx,Dx,Ex,Ex];exact Vals.append h (Vals.rep h k)
theorem BG(its:List Ae):∀(k:Nat)(acc:List Ae),
  List.foldl (λx1 x2=>x1++x2) acc.toArray (Ay k its.toArray)=(acc++(Ay k its).flatten).toArray
 |0,acc=>by simp
 |k+1,acc=>by
  have e:acc.toArray++its.toArray=(acc++its).toArray:=by simp
  have e2:(acc++its)++(Ay k its).flatten=acc++(Ay (k+1) its).flatten:=by
   rw[Dx,Ex,Bk]
  rw[<-e2,<-BG its k (acc++its),<-e,Dx,Fi]
section
variable{X:Cx}{pins:List (Addr×Obj)}{σ:St}{H:Hp}{s:Ai}{l b:Addr}{xs ys zs:List V}
theorem Inv.lset{its its':List Ae}(I:Inv X pins σ H s)(hH:H l=ae (.lst xs))
  (e:s.heap.get? l=ae {cls:=.type "list",data:=.seq its.toArray n}) (hf:f its.toArray=its'.toArray) (hv:Vals ys its') (hz:ys.length<=Ar):
  Inv X pins σ (upd H l (.lst ys)) {s with heap:=s.heap.update l (Cz f),toks:=t'}:=by
 have q:=PySem.IsL.update e f;rw[hf]at q;refine I.write (x:=l) (e:=l) (by rw[hH];exact trivial) (.inl rfl) (λb' u hb hu=>(Fg s.heap (Cz f) (Ne.symm hb)).trans hu) ⟨_,q⟩ ?_;exact⟨hz,its',_,hv,q⟩
theorem Inv.lnew(I:Inv X pins σ H s)(hv:Vals ys its)(hz:ys.length<=Ar):
  Inv X pins σ (upd H s.heap.objs.size (.lst ys)) {s with heap:=s.heap.push {cls:=.type "list",data:=.seq its.toArray},toks:=t'}:=
 I.laid (λ_ _ q=>Ah _ q) (Am _) ⟨hz,its,0,hv,A0 _ rfl⟩
theorem Inv.fresh(I:Inv X pins σ H s):H s.heap.objs.size=af:=I.hok.fresh (Am _)
theorem Inv.lstM(I:Inv X pins σ H s)(hH:H l=ae (.lst xs)):xs.length<=Ar/\∃(its:List Ae)(n:Nat),Vals xs its/\xs.length=its.length/\s.heap.get? l=ae {cls:=.type "list",data:=.seq its.toArray n}:=by
 obtain⟨z,its,n,r,e⟩:=I.hok l _ hH;exact⟨z,its,n,r,r.length,e⟩
theorem Mq(h:n<=Ar):G7 n=ai:=by
 unfold G7;exact decide_eq_false ⋯
end
section
variable{X:Cx}
def uU:V->List V->Hp->VK->Prop:=λx vs H Q=>∃l xs y,x=.ref l/\vs=[y]/\H l=ae (.lst xs)/\xs.length < Ar/\Q .non (upd H l (.lst (xs++[y])))
theorem tU:zB X "list.append" uU:=by
 intro pins s σ H x vs v us Q I rx rv h;obtain⟨l,xs,y,rfl,rfl,hH,hz,q⟩:=h;cases rx;obtain⟨u,rfl,ru⟩:=rv.one;obtain⟨z,its,n,r,hl,e⟩:=I.lstM hH;refine Gw F.slot_list_append ⟨_,e,rfl⟩ F.entry_list_append (F.args_list_append_2 _ _) (PySem.list_append l its.toArray n u (by rw[Ax];omega)) ⟨e,?_⟩;refine⟨.non,_,I.lset (its':=its++[u]) hH e (by simp) (r.append (.cons ru .nil)) ?_,rfl,q⟩;rw[A2,C9];omega
def IS:V->List V->Hp->VK->Prop:=λx vs H Q=>∃l b xs zs,x=.ref l/\vs=[.ref b]/\H l=ae (.lst xs)/\H b=ae (.lst zs)/\xs.length+zs.length<=Ar/\Q .non (upd H l (.lst (xs++zs)))
theorem U4:zB X "list.extend" IS:=by
 intro pins s σ H x vs v us Q I rx rv h;obtain⟨l,b,xs,zs,rfl,rfl,hH,hB,hz,q⟩:=h;cases rx;obtain⟨u,rfl,ru⟩:=rv.one;cases ru;obtain⟨z,its,n,r,hl,e⟩:=I.lstM hH;obtain⟨z2,its2,n2,r2,hl2,e2⟩:=I.lstM hB;have hsz:its.toArray.size+its2.toArray.size<=Ar:=by rw[Ax,Ax];omega
 have hlong:¬(!its.toArray.isEmpty&&G7 (its.toArray.size+its2.toArray.size))=ah:=by
  rw[Mq hsz,Bool.and_false];exact Ak
 refine Gw F.slot_list_extend ⟨_,e,rfl⟩ F.entry_list_extend (F.args_list_extend_2 _ _)
  (AutoSeq1.list_extend_list_list_0 l its.toArray n b its2.toArray n2 hlong (by rw[Ax];omega) ⋯) ⟨e,e2,?_⟩
 refine⟨.non,_,I.lset (its':=its++its2) hH e (by simp) (r.append r2) ?_,rfl,q⟩;rw[A2];omega
def oH:R2:=λx y H Q=>∃l b xs zs,x=.ref l/\y=.ref b/\H l=ae (.lst xs)/\H b=ae (.lst zs)/\xs.length+zs.length<=Ar/\∀p,H p=af->Q (.ref p) (upd H p (.lst (xs++zs)))
theorem SO:OpR X (Er .Add) oH:=by
 intro pins s σ H x y v u Q I rx ry h;obtain⟨l,b,xs,zs,rfl,rfl,hH,hB,hz,q⟩:=h;cases rx;cases ry;obtain⟨z,its,n,r,hl,e⟩:=I.lstM hH;obtain⟨z2,its2,n2,r2,hl2,e2⟩:=I.lstM hB;refine PySem.P.add_list e e2 ?_ (by rw[Ax,Ax];omega);have ea:its.toArray++its2.toArray=(its++its2).toArray:=by simp
 rw[ea];exact⟨.ref _,_,I.lnew (t':=s.toks) (r.append r2) (by rw[A2];omega),rfl,q _ I.fresh⟩
theorem tZ{α:Type}(xs:List α)(k):(Ay k xs).flatten.length=k*xs.length:=by
 induction k with
 |zero=>simp
 |succ k ih=>rw[Dx,Ex,A2,ih,Nat.succ_mul,Nat.add_comm]
end
section
variable{κ:Type}[DecidableEq κ]
def bC(kvs:List (κ×V))(k:κ):Option V:=(kvs.find? λkv=>decide (kv.1=k)).map (·.2)
def bx(kvs:List (κ×V))(k:κ)(v:V):List (κ×V):=
 if (kvs.any λkv=>decide (kv.1=k))=ah then kvs.map (λkv=>if kv.1=k then(kv.1,v)else kv)else kvs++[(k,v)]
theorem uu{p:κ×V}(e:p.1=k):bC (p::r) k=ae p.2:=by simp[bC,Bc,e]
theorem ug{p:κ×V}(e:¬p.1=k):bC (p::r) k=bC r k:=by simp[bC,Bc,e]
theorem FC(k):∀kvs:List (κ×V),(kvs.any λkv=>decide (kv.1=k))=(bC kvs k).isSome
 |[]=>rfl
 |p::r=>by
  rw[Dd];by_cases e:p.1=k
  ·simp only[uu e,decide_eq_true e,Bool.true_or,Option.isSome_some]
  ·rw[ug e,decide_eq_false e,Bool.false_or];exact FC k r
theorem sN(kvs:List (κ×V))(k)(v):(bx kvs k v).length<=kvs.length+1:=by
 unfold bx
 split
 ·rw[Ad];omega
 ·rw[A2,Bf,List.length_nil];omega
theorem RelO.isSome_eq(r:RelO o u):o.isSome=u.isSome:=by
 cases o with
 |none=>cases u with
  |none=>rfl
  |some _=>exact(show False from r).elim
 |some _=>cases u with
  |none=>exact(show False from r).elim
  |some _=>rfl
theorem KV.val(r:KV kvs vs)(k:κ):RelO (bC kvs k) (valueAt vs k):=by
 unfold KV at r
 induction r with
 |nil=>exact Ec
 |@cons p q ps qs h t ih=>
  obtain⟨h1,h2⟩:=h;by_cases e:p.1=k
  ·have e':q.1=k:=h1.symm.trans e;have b:valueAt (q::qs) k=ae q.2:=by simp[valueAt,Bc,e']
   rw[uu e,b];exact h2
  ·have e':¬q.1=k:=λz=>e (h1.trans z);have b:valueAt (q::qs) k=valueAt qs k:=by simp[valueAt,Bc,e']
   rw[ug e,b];exact ih
theorem KV.any(r:KV kvs vs)(k:κ):(kvs.any λkv=>decide (kv.1=k))=vs.any λkv=>decide (kv.1=k):=by
 unfold KV at r
 induction r with
 |nil=>rfl
 |cons h t ih=>rw[Dd,Dd,ih,h.1]
theorem KV.repl(r:KV kvs vs)(k:κ)(ry:RelV y u):
  KV (kvs.map λkv=>if kv.1=k then(kv.1,y)else kv) (vs.map λkv=>if kv.1=k then(kv.1,u)else kv):=by
 unfold KV at r ⊢
 induction r with
 |nil=>exact .nil
 |@cons p q ps qs h t ih=>
  rw[Bg,Bg];refine .cons ?_ ih;obtain⟨h1,h2⟩:=h;by_cases e:p.1=k
  ·rw[if_pos e,if_pos (h1.symm.trans e)];exact⟨h1,ry⟩
  ·rw[if_neg e,if_neg (λz=>e (h1.trans z))];exact⟨h1,h2⟩
theorem KV.put(r:KV kvs vs)(k:κ)(ry:RelV y u):KV (bx kvs k y) (stored vs k u):=by
 unfold bx stored;rw[r.any k];by_cases e:(vs.any λkv=>decide (kv.1=k))=ah
 ·rw[if_pos e,if_pos e];exact r.repl k ry
 ·rw[if_neg e,if_neg e];exact Paired.snoc r ⟨rfl,ry⟩
theorem KV.length{vs:List (κ×Ae)}(r:KV kvs vs):kvs.length=vs.length:=D3 r
end
theorem lN(r:RelV (kV k) u):(d7 P w).is k u=ah:=by
 cases k with
 |inl i=>obtain⟨t,e⟩:=(show ∃t,u=Value.int i t from r);subst e;exact EN P w i t
 |inr x=>obtain⟨t,e⟩:=(show ∃t,u=Gy x t from r);subst e;exact CM P w x t
theorem BR:∀{ks:List aC}{us:List Ae},Vals (ks.map kV) us->ItemsAre (d7 P w) ks us
 |[],_,r=>by rw[List.map_nil]at r;cases r;exact .nil
 |k::ks,_,r=>by
  rw[Bg]at r;cases r with
  |cons h t=>exact .cons (lN h) (BR t)
abbrev KT(H:Hp):List (List aC×V)->List (List aC×Addr×Ae)->Prop:=Paired λp q=>p.1=q.1/\H q.2.1=ae (.tup (p.1.map kV))/\RelV p.2 q.2.2
theorem KT.val(r:KT H kvs xs)(k):RelO (bC kvs k) ((atKey xs k).map (·.2)):=by
 induction r with
 |nil=>exact Ec
 |@cons p q ps qs h t ih=>
  obtain⟨h1,_,h2⟩:=h;by_cases e:p.1=k
  ·have e':q.1=k:=h1.symm.trans e;have b:atKey (q::qs) k=ae q.2:=by simp[atKey,Bc,e']
   rw[uu e,b];exact h2
  ·have e':¬q.1=k:=λz=>e (h1.trans z);have b:atKey (q::qs) k=atKey qs k:=by simp[atKey,Bc,e']
   rw[ug e,b];exact ih
theorem KT.repl(r:KT H kvs xs)(k)(ry:RelV y u):
  KT H (kvs.map λkv=>if kv.1=k then(kv.1,y)else kv) (xs.map (putAt k u)):=by
 induction r with
 |nil=>exact .nil
 |@cons p q ps qs h t ih=>
  rw[Bg,Bg];refine .cons ?_ ih;obtain⟨h1,h2,h3⟩:=h;unfold putAt;by_cases e:p.1=k
  ·rw[if_pos e,if_pos (h1.symm.trans e)];exact⟨h1,h2,ry⟩
  ·rw[if_neg e,if_neg (λz=>e (h1.trans z))];exact⟨h1,h2,h3⟩
theorem KT.put(r:KT H kvs xs)(k:List aC)(hb:H b=ae (.tup (k.map kV)))(ry:RelV y u):
  KT H (bx kvs k y) (storedH xs k b u):=by
 have e:(kvs.any λkv=>decide (kv.1=k))=(atKey xs k).isSome:=by
  rw[FC,(r.val k).isSome_eq,En]
 unfold bx storedH;rw[e];by_cases q:(atKey xs k).isSome=ah
 ·rw[if_pos q,if_pos q];exact r.repl k ry
 ·rw[if_neg q,if_neg q];exact Paired.snoc r ⟨rfl,hb,ry⟩
theorem KT.keeps(r:KT H kvs xs)(ht:∀b ys,H b=ae (.tup ys)->H' b=ae (.tup ys)):KT H' kvs xs:=
 Paired.mapP r λ_ _ z=>⟨z.1,ht _ _ z.2.1,z.2.2⟩
section
variable{P:A7}{w:Bi}{H:Hp}{h:Heap}{a:Addr}
theorem yX(ok:HOk P w H h)(e:Rd H a u):ObjOk P w H h a u:=e.ok ok
theorem oz(ok:HOk P w H h)(e:Rd H a (.dK kvs)):kvs.length<=Ar/\(a==C5)=ai/\∃vs,KV kvs vs/\h.DictOf (d7 P w) a vs:=
 show ObjOk P w H h a (.dK kvs)from yX ok e
theorem GW(ok:HOk P w H h)(e:H a=ae (.dK kvs)):kvs.length<=Ar/\(a==C5)=ai/\∃vs,KV kvs vs/\h.DictOf (d7 P w) a vs:=oz ok (.inl e)
theorem nM(ok:HOk P w H h)(e:H a=ae (.tup (ks.map kV))):(tupleKind (d7 P w)).is h ks a:=by
 obtain⟨_,its,r,o,h1,h2,⟨n,h3⟩,_⟩:=(show ObjOk P w H h a (.tup (ks.map kV))from ok a _ e);exact⟨o,its.toArray,n,h1,h2,h3,by simpa using BR r⟩
theorem pT(ok:HOk P w H h)(e:Rd H a (.dT kvs)):kvs.length<=Ar/\(a==C5)=ai /\
  ∃xs,KT H kvs xs/\h.DictOfH (tupleKind (d7 P w)) a xs:=by
 obtain⟨z,y,xs,r,o,es,ep,h1,h2,h3,h4,h5⟩:=(show ObjOk P w H h a (.dT kvs)from yX ok e);refine⟨z,y,xs,r,o,es,ep,h1,h2,h3,h4,λx hx=>?_,h5⟩;have all:∀{l:List (List aC×V)}{m:List (List aC×Addr×Ae)},KT H l m->∀x∈m,(tupleKind (d7 P w)).is h x.1 x.2.1:=by
  intro l m q
  induction q with
  |nil=>intro x hx;exact nomatch hx
  |@cons p q ps qs hq t ih=>
   intro x hx;rcases Aw.mp hx with e|hx
   ·subst e;exact nM ok (by rw[<-hq.1];exact hq.2.1)
   ·exact ih x hx
 exact all r x hx
theorem NL(ok:HOk P w H h)(e:H a=ae (.dT kvs)):kvs.length<=Ar/\(a==C5)=ai /\
  ∃xs,KT H kvs xs/\h.DictOfH (tupleKind (d7 P w)) a xs:=pT ok (.inl e)
end
def DGet(H:Hp)(a:Addr)(y:V)(r:Option V):Prop:=
 (∃kvs k,Rd H a (.dK kvs)/\y=kV k/\r=bC kvs k)\/∃kvs k b,Rd H a (.dT kvs)/\y=.ref b/\H b=ae (.tup (k.map kV))/\r=bC kvs k
def DPut(H:Hp)(a:Addr)(y v:V)(H':Hp):Prop:=
 (∃kvs k,H a=ae (.dK kvs)/\y=kV k/\kvs.length < Ar/\H'=upd H a (.dK (bx kvs k v))) \/
 ∃kvs k b,H a=ae (.dT kvs)/\y=.ref b/\H b=ae (.tup (k.map kV))/\kvs.length < Ar/\H'=upd H a (.dT (bx kvs k v))
theorem DGet.t(e:H a=ae (.dT kvs))(eb:H b=ae (.tup (k.map kV))):DGet H a (.ref b) (bC kvs k):=.inr ⟨kvs,k,b,.inl e,rfl,eb,rfl⟩
theorem DPut.k{k:aC}(e:H a=ae (.dK kvs))(hl:kvs.length < Ar):DPut H a (kV k) v (upd H a (.dK (bx kvs k v))):=.inl ⟨kvs,k,e,rfl,hl,rfl⟩
theorem DPut.t{k:List aC}(e:H a=ae (.dT kvs))(eb:H b=ae (.tup (k.map kV)))(hl:kvs.length < Ar):
  DPut H a (.ref b) v (upd H a (.dT (bx kvs k v))):=.inr ⟨kvs,k,b,e,rfl,eb,hl,rfl⟩
section
variable{X:Cx}{pins:List (Addr×Obj)}{σ:St}{H:Hp}{s:Ai}{a:Addr}{y v:V}{u r:Ae}{o:Option V}{A:Br}{E:Ae->Ai->Prop}
theorem Inv.big(I:Inv X pins σ H s):C5 < s.heap.objs.size:=by
 have h:D2 < s.heap.objs.size:=(I.mod.glob.keeps I.bk).lt;exact Nat.lt_trans ∎ h
theorem UP(hu:A.units+1 < Dj)(I:Inv X pins σ H s)(g:DGet H a y (ae v))(ry:RelV y u)(h:∀w' s',Inv X pins σ H s'->RelV v w'->Q w' s'):
  Av (A9 X.prog X.w) A (getItem (.ref a) u) Q E s:=by
 rcases g with⟨kvs,k,e,ey,l⟩|⟨kvs,k,b,e,ey,eb,l⟩
 ·subst ey;obtain⟨z,hd,vs,rel,dd⟩:=oz I.hok e;obtain⟨w',hw,rw'⟩:=RelO.some_of (v:=v) (o:=valueAt vs k) (by rw[l];exact rel.val k);exact wpAny_getItem_of (lN ry) dd.mapOf hw (h w' _ (I.tok _) rw')
 ·subst ey;cases(show u=As b from ry);obtain⟨z,hd,xs,rel,dd⟩:=pT I.hok e;obtain⟨w',hw,rw'⟩:=RelO.some_of (v:=v) (o:=(atKey xs k).map (·.2)) (by rw[l];exact rel.val k);obtain⟨p,hp,hp2⟩:=C3.mp hw;refine wpAny_getItem_heap (Ho hu) (nM I.hok eb) dd hp ?_;rw[hp2];exact h w' _ (I.tok _) rw'
theorem u5(hu:A.units+1 < Dj)(I:Inv X pins σ H s)(g:DGet H a y o)(ry:RelV y u)(h:∀s',Inv X pins σ H s'->Q (.bool o.isSome) s'):
  Av (A9 X.prog X.w) A (Bu .In u (.ref a)) Q E s:=by
 rcases g with⟨kvs,k,e,ey,l⟩|⟨kvs,k,b,e,ey,eb,l⟩
 ·subst ey;obtain⟨z,hd,vs,rel,dd⟩:=oz I.hok e;refine wpAny_in_of (lN ry) hd dd.mapOf ?_;rw[<-(rel.val k).isSome_eq,<-l];exact h _ (I.tok _)
 ·subst ey;cases(show u=As b from ry);obtain⟨z,hd,xs,rel,dd⟩:=pT I.hok e;refine wpAny_in_heap (Ho hu) (nM I.hok eb) hd dd ?_;have q:=(rel.val k).isSome_eq;rw[En]at q;rw[<-q,<-l];exact h _ (I.tok _)
theorem Qr(hu:A.units+1 < Dj)(I:Inv X pins σ H s)(g:DGet H a y o)(ry:RelV y u)(h:∀s',Inv X pins σ H s'->Q (.bool (!o.isSome)) s'):
  Av (A9 X.prog X.w) A (Bu .NotIn u (.ref a)) Q E s:=by
 rcases g with⟨kvs,k,e,ey,l⟩|⟨kvs,k,b,e,ey,eb,l⟩
 ·subst ey;obtain⟨z,hd,vs,rel,dd⟩:=oz I.hok e;refine wpAny_notIn_of (lN ry) hd dd.mapOf ?_;rw[<-(rel.val k).isSome_eq,<-l];exact h _ (I.tok _)
 ·subst ey;cases(show u=As b from ry);obtain⟨z,hd,xs,rel,dd⟩:=pT I.hok e;refine wpAny_notIn_heap (Ho hu) (nM I.hok eb) hd dd ?_;have q:=(rel.val k).isSome_eq;rw[En]at q;rw[<-q,<-l];exact h _ (I.tok _)
theorem mH(I:Inv X pins σ H s)(mu:nK (H a))(hs:Dt a s.heap h')(he:∃q,h'.get? a=ae q)(new:ObjOk X.prog X.w (upd H a ob) h' a ob):
  Inv X pins σ (upd H a ob) {s with heap:=h',toks:=t'}:=
 I.write (x:=a) (e:=a) mu (.inl rfl) (λb q hb z=>(hs.2 b hb).trans z) he new
theorem II(z:kvs.length<=Ar)(hd:(a==C5)=ai)(rel:KV kvs vs)(dd:h'.DictOf (d7 P w) a vs):
  ObjOk P w H' h' a (.dK kvs):=⟨z,hd,vs,rel,dd⟩
theorem RE(hu:A.units+1 < Dj)(I:Inv X pins σ H s)(g:DPut H a y v H')(ry:RelV y u)(rv:RelV v r)(h:∀s',Inv X pins σ H' s'->Q () s'):
  Av (A9 X.prog X.w) A (setItem (.ref a) u r) Q E s:=by
 rcases g with⟨kvs,k,e,ey,l,eH⟩|⟨kvs,k,b,e,ey,eb,l,eH⟩
 ·subst ey eH;obtain⟨z,hd,vs,rel,dd⟩:=GW I.hok e;have hz:vs.length<=Ar:=by rw[<-rel.length];exact z
  have hl:(bx kvs k v).length<=Ar:=by have:=sN kvs k v;omega
  refine wpAny_setItem_pairs (hsz:=hz) (lN ry) dd λh' dd' hs=>h _ ?_;have he:∃q,h'.get? a=ae q:=let⟨q,_,_,hq,_⟩:=dd';⟨q,hq⟩;exact mH I (by rw[e];exact Ec) hs he (II hl hd (rel.put k rv) dd')
 ·subst ey eH;cases(show u=As b from ry);obtain⟨z,hd,xs,rel,dd⟩:=NL I.hok e;have hz:xs.length<=Ar:=by rw[<-D3 rel];exact z
  have hl:(bx kvs k v).length<=Ar:=by have:=sN kvs k v;omega
  refine wpAny_setItem_heap (hsz:=hz) (Ho hu) (nM I.hok eb) dd λh' dd' hs=>h _ ?_;obtain⟨q,es,ep,hq,h2,h3,h4,_,h5⟩:=dd';refine mH I (by rw[e];exact Ec) hs ⟨q,hq⟩ ⟨hl,hd,_,(rel.put k eb rv).keeps λc ys ec=>?_,q,es,ep,hq,h2,h3,h4,h5⟩;rw[aD (AS ec e (λz=>nomatch z))];exact ec
end
def ir(i:Expr):Prop:=∀ov iv,subscripted i ai ov iv=operate [ov,iv] (getItem ov iv)
theorem GX{T id:String}
  (hl:typeLookup (.type T) "__getitem__"=pure (ae (.builtin id))) (hs:ir slice)
  (h:Av (A9 prog w) A (eval value env) (λo s₁=>Av (A9 prog w) A (eval slice env) (λi s₂=>s₂.TypeIs o T/\Av (A9 prog w) A (getItem o i) Q E s₂) E s₁) E s):
  Av (A9 prog w) A (eval (.Subscript value slice pos) env) Q E s:=by
 refine Subscript_ (B6 h (λo s₁ h₁=>B6 h₁ (λi s₂ h₂=>?_) λ_ _ x=>x) λ_ _ x=>x);obtain⟨hT,h₂⟩:=h₂;unfold subscriptTail;refine Aa ?_;rw[getitemInPython_of_ne hT.not_modules];refine Aa (wpAny_specialOf hT hl ?_);have fin:Av (A9 prog w) A (subscripted slice ai o i) (λr s₃=>Av (A9 prog w) A (letTemporaryGo value o r>>=λ_=>pure r) Q E s₃) E s₂:=by
  rw[hs o i];exact wpAny_operating (B6 h₂ (λr s₃ h₃=>Aa (wpAny_letTemporaryGo (Aj h₃))) λ_ _ x=>x)
 first
  |exact Aj (Aa fin)
  |exact Aa (Aj (Aa fin))
  |exact Aa fin
theorem Rp{σ:St}(I:Inv X pins σ H s)(g:DGet H a y o):s.TypeIs (.ref a) "dict":=by
 rcases g with⟨kvs,k,e,_,_⟩|⟨kvs,k,b,e,_,_,_⟩
 ·obtain⟨_,_,vs,_,dd⟩:=oz I.hok e;exact dd.typeIs
 ·obtain⟨_,_,xs,_,dd⟩:=pT I.hok e;exact dd.typeIs
def CI(td ty:TE):TE:=λσ H Q=>td σ H λx H1=>ty σ H1 λy H2=>∃a v,x=.ref a/\DGet H2 a y (ae v)/\Q v H2
def kF(ty td:TE):TE:=λσ H Q=>ty σ H λy H1=>td σ H1 λx H2=>∃a o,x=.ref a/\DGet H2 a y o/\Q (.bl o.isSome) H2
def o7(ty td:TE):TE:=λσ H Q=>ty σ H λy H1=>td σ H1 λx H2=>∃a o,x=.ref a/\DGet H2 a y o/\Q (.bl (!o.isSome)) H2
def xY(td ty tv:TE):TS:=λD σ H=>tv σ H λv H1=>td σ H1 λx H2=>ty σ H2 λy H3=>∃a H4,x=.ref a/\DPut H3 a y v H4/\D.nx σ H4
section
variable{X:Cx}{o i e value:Expr}{pos pos' tpos:Pos}{td ty tv:TE}
theorem SN(hu:X.A.units+1 < Dj)(ho:PE X o td)(hi:PE X i ty)(hs:ir i):PE X (.Subscript o i pos) (CI td ty):=by
 intro pins s σ H Q I h;refine GX PySem.F.slot_dict_getitem.lookup hs (aG (ho pins s σ H _ I h) λu s1 ⟨x,H1,I1,rx,q1⟩=>aG (hi pins s1 σ H1 _ I1 q1) λiv s2 ⟨y,H2,I2,ry,a,v,ex,g,q2⟩=>?_);subst ex;obtain rfl:u=As a:=rx;exact⟨Rp I2 g,UP hu I2 g ry λw' s3 I3 rw'=>⟨v,H2,I3,rw',q2⟩⟩
theorem OB(hu:X.A.units+1 < Dj)(hi:PE X i ty)(ho:PE X o td):PC X .In i o (kF ty td):=by
 intro pins s σ H Q I h;refine aG (hi pins s σ H _ I h) λiv s1 ⟨y,H1,I1,ry,q1⟩=>aG (ho pins s1 σ H1 _ I1 q1) λu s2 ⟨x,H2,I2,rx,a,ov,ex,g,q2⟩=>?_;subst ex;obtain rfl:u=As a:=rx;exact u5 hu I2 g ry λs3 I3=>⟨.bl ov.isSome,H2,I3,rfl,q2⟩
theorem Iq(hu:X.A.units+1 < Dj)(hi:PE X i ty)(ho:PE X o td):PC X .NotIn i o (o7 ty td):=by
 intro pins s σ H Q I h;refine aG (hi pins s σ H _ I h) λiv s1 ⟨y,H1,I1,ry,q1⟩=>aG (ho pins s1 σ H1 _ I1 q1) λu s2 ⟨x,H2,I2,rx,a,ov,ex,g,q2⟩=>?_;subst ex;obtain rfl:u=As a:=rx;exact Qr hu I2 g ry λs3 I3=>⟨.bl (!ov.isSome),H2,I3,rfl,q2⟩
theorem HF(hu:X.A.units+1 < Dj)(ho:PE X o td)(hi:PE X i ty)(hv:PE X value tv)(hs:Dp value (ae (.Subscript o i pos')) pos.line X.env=pure ai):
  PS X (.Assign [.Subscript o i pos'] value pos) (xY td ty tv):=by
 intro pins s σ H D I h;refine wpAny_Assign_Subscript (aG (hv pins s σ H _ I h) λr s1 ⟨v,H1,I1,rv,q1⟩=>aG (ho pins s1 σ H1 _ I1 q1) λu s2 ⟨x,H2,I2,rx,q2⟩=>aG (hi pins s2 σ H2 _ I2 q2) λiv s3 ⟨y,H3,I3,ry,a,H4,ex,g,q3⟩=>?_) hs;subst ex;obtain rfl:u=As a:=rx;exact RE hu I3 g ry rv λs4 I4=>⟨σ,H4,I4,q3⟩
end
theorem AG(h:Heap)(hb:C5 < h.objs.size):ObjOk P w H (h.push {cls:=.type "dict",data:=.dict #[]}) h.objs.size (.dK []):=
 ⟨Az _,beq_eq_false_iff_ne.mpr (Ne.symm (A8 hb)),[],.nil,Heap.DictOf.new h⟩
theorem zS(h:Heap)(hb:C5 < h.objs.size):ObjOk P w H (h.push {cls:=.type "dict",data:=.dict #[]}) h.objs.size (.dT []):=
 ⟨Az _,beq_eq_false_iff_ne.mpr (Ne.symm (A8 hb)),[],.nil,_,#[],0,A0 _ rfl,⟨rfl,rfl,rfl⟩,rfl,rfl,List.nodup_nil⟩
def yE:TE:=λ_ H Q=>∀p,H p=af->Q (.ref p) (upd H p (.dK []))
def zO:TE:=λ_ H Q=>∀p,H p=af->Q (.ref p) (upd H p (.dT []))
section
variable{X:Cx}{pos:Pos}
theorem RU:PE X (.Dict [] [] pos) yE:=λpins s σ H Q I h=>
 wpAny_Dict_empty ⟨.ref s.heap.objs.size,_,I.laid (a:=s.heap.objs.size) (o:=.dK []) (t':=s.toks) (λ_ _ q=>Ah _ q) (Am _) (AG s.heap I.big),rfl,h _ (I.hok.fresh (Am _))⟩
theorem Q8:PE X (.Dict [] [] pos) zO:=λpins s σ H Q I h=>
 wpAny_Dict_empty ⟨.ref s.heap.objs.size,_,I.laid (a:=s.heap.objs.size) (o:=.dT []) (t':=s.toks) (λ_ _ q=>Ah _ q) (Am _) (zS s.heap I.big),rfl,h _ (I.hok.fresh (Am _))⟩
end
def lr(kvs more:List (aC×V)):List (aC×V):=more.foldl (λacc kv=>bx acc kv.1 kv.2) kvs
end L2
namespace Att
open PySem PySem.W PySem.Calls PyProof.Rows
theorem NQ:∀(ns:List Int)(vs:List Ae),WellAll P h vs (ns.map WData.int)->IntsAre vs ns:=by
 intro ns
 induction ns with
 |nil=>
  intro vs w;rw[List.map_nil]at w;cases w;exact .nil
 |cons n ns ih=>
  intro vs w;rw[Bg]at w;cases w with
  |cons a b=>
   cases a;exact .cons _ _ (ih _ b)
theorem L6{l:OpenLaw}(hn:l.most=ae n)
  (hpre:l.row.toRowW.claim.pre args=ah) (hwl:WellAll P h vals args):
  ∃a vs ns,vals=[As a]/\args=[WData.list (ns.map WData.int)]/\h.get? a=ae {cls:=.type "list",data:=.seq vs.toArray}/\IntsAre vs ns/\ns.length<=n:=by
 have hsh:WShape.hasAll [] args [.list .int]=ah:=(pre_splitW hpre).1;have hc:l.pre.holds [] {args:=args}=ah:=(pre_splitW hpre).2;obtain⟨d,r,rfl,h1,h2⟩:=hasAllW_cons hsh;obtain rfl:=hasAllW_nil h2;obtain⟨xs,rfl,h3⟩:=hasW_list h1;obtain⟨ns,rfl⟩:=items_int h3;have hlen:ns.length<=n:=by
  unfold OpenLaw.pre at hc;have h4:(WTm.not (.lt (.lit (.int (n:Int))) (.len (.arg 0)))).holds [] {args:=[.list (ns.map .int)]}=ah:=by
   have h4:=(holds_andW hc).1;rw[hn]at h4;exact h4
  have h5:=condW_of h4 (w_not (w_lt w_lit (w_len_list (w_arg rfl))));rw[Ad]at h5;refine Nat.le_of_not_lt λq=>?_;have q':(n:Int) < ((ns.length:Nat):Int):=by omega
  first
   | (rw[decide_eq_true q']at h5;exact absurd h5 ∎)
   | (simp at h5;omega)
 cases hwl with
 |cons w1 w2=>
  cases w2;cases w1 with
  |list ho hall=>exact⟨_,_,ns,rfl,rfl,ho,NQ ns _ hall,hlen⟩
theorem Mg(l:OpenLaw)(args):l.row.toRowW.claim.post args (.bool ah) args=ah:=
 postW_of (r:=l.row.toRowW) (X:=(ah==ah))
  (show WShape.has [] (.bool ah) .bool=ah by first|rfl|decide|simp[WShape.has,WShape.arms,WShape.armsAll])
  (show(WTm.eq .res (.lit (.bool ah))).value [] {args:=args,res:=ae (.bool ah),after:=args}=ae (.bool (ah==ah))from w_eq_bool (w_res rfl) w_lit) rfl
theorem attach_call{l:OpenLaw}
  (hn:l.most=ae n) (hdf:d.params.defaults=[])
  (call:∀(w:Bi)(s₀ s₁:Ai)(mg mb:Str->Option Ae)(fa:Addr)(o:Obj)(pm cd doc:Ae)(a:Addr)(vs:List Ae)(ns:List Int),
   Ground q loose [] XP w s₀ mg mb s₁.heap->YP w s₁.heap->
   s₁.heap.get? fa=ae o->o.data=.func (docDef d.name d.params d.body d.scope pm cd doc)->s₁.heap.CodeRec cd d.name->mg d.name=ae (.ref fa)->
   s₁.heap.get? a=ae {cls:=.type "list",data:=.seq vs.toArray}->IntsAre vs ns->ns.length<=n->s₁.gens=#[]->
   Gr (A9 l.prog w) callerA (.call (.ref fa) ⟨[.ref a],[]⟩) (λr s'=>r=.ok (.ret (.bool ah))/\OldK s₁.heap s'.heap/\s'.os=s₁.os/\AllBare s'.gens) s₁):
  WalkO q loose XP YP l.row.toRowW d [] (λf vs=>PySem.call f vs):=by
 intro w s₀ s₁ mg mb G Y fa o pm cd doc dV kV ho hd hcd hD hmg hg args vals as hpre hlay hrd hwl hlo;obtain rfl:dV=.none:=Dflts.none hD hdf;obtain rfl:kV=.none:=Dflts.noKw hD;obtain⟨a,vs,ns,rfl,rfl,hobj,hints,hlen⟩:=L6 hn hpre hwl;refine enter_call (G4 (call w s₀ s₁ mg mb fa o pm cd doc a vs ns G Y ho (fd_plain hd) hcd hmg hobj hints hlen hg) λr s' hq=>?_);obtain⟨rfl,h2,h3,h4⟩:=hq;exact⟨.inl ⟨.bool ah,.bool ah,[],rfl,λ_=>rfl,.bool ah,Mg l _,λ_=>⟨Cw,λ_ hm=>(nomatch hm)⟩⟩,h2,h3,h4⟩
end Att
namespace L2
open PySem PySem.Spec PyProof.Rows
theorem HL:∀{vs:List Ae}{ns:List Int},IntsAre vs ns->Vals (ns.map V.int) vs
 |_,_,.nil=>.nil
 |_,_,.cons n t h=>.cons ⟨t,rfl⟩ (HL h)
def kB(H:Hp):Prop:=∀b,H b=af\/∃o xs,H b=ae (.frz o (.lst xs))
theorem Nk{K:Af}
  (KX:K.In s₁.heap) (hns:s₁.heap.Ns D2 mg) (hb:s₁.heap.Ns builtinsNs mb) (hbb:∀x:Str,x≠"__name__"->mb x=Bp x) (hlim:s₁.heap.NoLimit) (hg:s₁.gens=#[])
  (ha:s₁.heap.get? a=ae {cls:=.type "list",data:=.seq vs.toArray}) (hi:IntsAre vs ns) (hl:ns.length<=Ar) (hr:Room k callerA)
  (F:∀base:Heap,K.In base->base.Ns D2 mg->FnOk P w K mg base CX k fa fd [x] sp) (hbind:∀(s:Ai)(u:Ae),BindsTo s fd ⟨[u],[]⟩ [(x,u)])
  (hsp:∀H:Hp,kB H->SqL K H a (ns.map V.int)->sp [.ref a] H (λv _=>v=.bl ah) λ_ _ _=>False)
  (hCX:∀H e s',CX [] H s₁ (λ_ _ _=>False) e s'->False):
  Gr (A9 P w) callerA (.call (.ref fa) ⟨[.ref a],[]⟩) (λr s'=>r=.ok (.ret (.bool ah))/\OldK s₁.heap s'.heap/\s'.os=s₁.os/\AllBare s'.gens) s₁:=by
 have rv:=HL hi;have lenV:=hi.length
 have core:∀H:Hp,kB H->SqL K H a (ns.map V.int)->HOk P w H s₁.heap->(∀b,H b≠af->b=a)->(H a≠af->K.lookup a=af)->
   Gr (A9 P w) callerA (.call (.ref fa) ⟨[.ref a],[]⟩) (λr s'=>r=.ok (.ret (.bool ah))/\OldK s₁.heap s'.heap/\s'.os=s₁.os/\AllBare s'.gens) s₁:=by
  intro H hO hS hok hA hK;have base_of:∀{b:Addr}{o:Obj},s₁.heap.get? b=ae o->H b=af->(eI s₁.heap H).get? b=ae o:=λe n=>KC e n;have noA:∀{b:Addr}{o:Obj}{es:Array G9}{ep:Nat},s₁.heap.get? b=ae o->o.data=.dict es ep->H b=af:=λ{b o es ep} e d=>by
   cases q:H b with
   |none=>rfl
   |some u=>
    have e':b=a:=hA b (by rw[q];simp);subst e';rw[ha]at e;cases e;have d':Data.seq vs.toArray _=Data.dict es ep:=d;cases d'
  have nsK:∀{b:Addr}{m:Str->Option Ae},s₁.heap.Ns b m->(eI s₁.heap H).Ns b m:=λ{b m} ⟨o,es,ep,e,d,r⟩=>⟨o,es,ep,base_of e (noA e d),d,r⟩;have hKb:K.In (eI s₁.heap H):=λb o e=>base_of (KX b o e) (by
   cases q:H b with
   |none=>rfl
   |some u=>
    have e':b=a:=hA b (by rw[q];simp);subst e';rw[hK (by rw[q];simp)]at e;cases e)
  have hM:Mod K mg (eI s₁.heap H):=⟨hKb,nsK hns,⟨mb,nsK hb,hbb⟩,let⟨mc,h1,h2⟩:=hlim;⟨mc,nsK h1,h2⟩⟩;have e0:Env0 P w K mg (eI s₁.heap H) callerA [] s₁ H:=⟨rfl,hM,λb o e=>IP e,Nat.le_of_eq (OI _ _),trivial,λb hb=>absurd (show b∈([]:List Addr)from hb) (by simp),hok,.of_eq hg⟩;refine G4 ((F _ hKb (nsK hns)).run callerA [] s₁ H ⟨[.ref a],[]⟩ [.ref a] [.ref a] _ _ hr e0 (hbind s₁ (.ref a)) (.cons rfl .nil) (hsp H hO hS)) λr s' h=>?_;cases r with
  |error e=>exact(hCX H e s' h).elim
  |ok fl=>
   cases fl with
   |next=>exact False.elim h
   |brk=>exact False.elim h
   |cont=>exact False.elim h
   |ret u=>
    obtain⟨v,H',os,bare,un,hok',r',q⟩:=h;have q':v=.bl ah:=q;subst q';obtain rfl:u=Value.bool ah:=r';refine⟨rfl,OldK.of_keep λb o e=>?_,os,bare⟩;cases q:H b with
    |none=>exact un.keep b o e q (by intro z;exact absurd (show b∈([]:List Addr)from z) (by simp)) (by simp)
    |some u=>
     rcases hO b with z|⟨ob,xs,z⟩
     ·rw[q]at z;cases z
     ·have z2:=un.frzs b ob _ z;obtain⟨e1,_⟩:=hok b _ z;obtain⟨e2,_⟩:=hok' b _ z2;rw[e]at e1;cases e1;exact e2
 cases hk:K.lookup a with
 |some o=>
  have e:=KX a o hk;rw[ha]at e;cases e;refine core (λ_=>af) (λ_=>.inl rfl) (.inr ⟨_,vs.toArray,_,hk,rfl,rfl,rfl,by rw[Ax,lenV];exact hl,by simpa using rv⟩) (λb u z=>by have z':(af:Option HO)=ae u:=z;cases z') (λb z=>absurd rfl z) λz=>absurd rfl z
 |none=>
  refine core (λb=>if b=a then ae (.frz {cls:=.type "list",data:=.seq vs.toArray} (.lst (ns.map V.int)))else af) (λb=>?_) (.inl (.inr ⟨{cls:=.type "list",data:=.seq vs.toArray},if_pos rfl⟩)) (λb u z=>?_) (λb z=>?_) λ_=>hk
  ·by_cases hb:b=a
   ·exact .inr ⟨_,_,if_pos hb⟩
   ·exact .inl (if_neg hb)
  ·by_cases hb:b=a
   ·have z':=(if_pos hb).symm.trans z;cases z';subst hb;exact⟨ha,by rw[Ad];exact hl,vs,_,rv,ha⟩
   ·have z':=(if_neg hb).symm.trans z;cases z'
  ·by_cases hb:b=a
   ·exact hb
   ·exact absurd (if_neg hb) z
theorem walk_of{l:PySem.W.OpenLaw}{K:Gx->Af}{CX:Bi->gx}{sp:Bi->Sp}
  (hn:l.most=ae n) (hn2:n<=Ar) (hdf:d.params.defaults=[]) (hr:Room k callerA)
  (hY:∀(w:Bi)(h:Heap),YP w h->(K w.params).In h)
  (F:∀(w:Bi)(mg:Str->Option Ae)(fa:Addr)(h:Heap),(K w.params).In h->h.Ns D2 mg->mg d.name=ae (.ref fa)->
   ∃fd:Bz,(∀(s:Ai)(u:Ae),BindsTo s fd ⟨[u],[]⟩ [(x,u)]) /\
    ∀base:Heap,(K w.params).In base->base.Ns D2 mg->FnOk l.prog w (K w.params) mg base (CX w) k fa fd [x] (sp w))
  (hsp:∀(w:Bi)(H:Hp)(a:Addr)(ns:List Int),ns.length<=n->kB H->SqL (K w.params) H a (ns.map V.int)->sp w [.ref a] H (λv _=>v=.bl ah) λ_ _ _=>False)
  (hCX:∀(w:Bi)(H:Hp)(s:Ai)(e:Ae)(s':Ai),CX w [] H s (λ_ _ _=>False) e s'->False):
  PySem.W.WalkO q loose XP YP l.row.toRowW d [] (λf vs=>PySem.call f vs):=by
 refine Att.attach_call hn hdf λw s₀ s₁ mg mb fa o pm cd doc a vs ns G Y ho hd hcd hmg hobj hints hlen hg=>?_;have KX:=hY w _ Y;obtain⟨fd,hb,hF⟩:=F w mg fa _ KX G.T.g hmg;exact Nk KX G.T.g G.T.b G.T.builtins G.T.nolimit hg hobj hints (Bb hlen hn2) hr hF hb (λH hO hS=>hsp w H a ns hlen hO hS) λH e s'=>hCX w H s₁ e s'
abbrev cb:gx:=λ_ _ _ _ _ _=>False
abbrev E0:XK:=λ_ _ _=>False
theorem ny:vx cb X E0:=λ_ _ _ _ _ _ _ h=>h.elim
structure Fun(K:Af)(x qual:Str)(st:Stmt)(f:Addr)(fd:Bz):Prop where
 ex:∃(oc:Ae)(od:Option Addr)(kV doc pm:Ae)(an:Option Addr)(cdv ct:Ae)(osl:Array (Option Ae)),
  fd=Fu x qual (kM st) (eR st) (bw st) .none kV doc pm an cdv ct/\K.lookup f=ae ⟨oc,od,.func fd,osl⟩/\PySem.W.codeIn K cdv qual=ah
 kp:Bx K (.ref f)=ah
section
variable{P:A7}{w:Bi}{K:Af}{mg:Str->Option Ae}{base:Heap}
theorem Fun.ok{st:Stmt}(F:Fun K x qual st f fd)(S:FnScope N ps (bw st))(len:∀vs H Q E,sp vs H Q E->vs.length=ps.length)
  (hbody:∀(cdv:Ae)(A:Br)(outer:List Env)(s:Ai)(H:Hp)(vs:List V)(Q:VK)(E:XK),Room k (A.deeper (Cu qual (bw st) s.heap.objs.size f cdv))->sp vs H Q E->
   ∃t,PSs (bz cb P w K mg base N qual (bw st) f cdv A outer s H E).nox (eR st) t/\t {nx:=λ_ H'=>Q .non H',rt:=Q} (start N vs) H):FnOk P w K mg base cb (k+1) f fd ps sp:=by
 obtain⟨oc,od,kV,doc,pm,an,cdv,ct,osl,rfl,lk,hcd⟩:=F.ex;refine qB lk hcd S len λA outer s H vs Q E hr hsp=>?_;obtain⟨t,h,q⟩:=hbody cdv A outer s H vs Q E hr hsp;exact⟨t,h.nox,q⟩
theorem Fun.binds{st:Stmt}(F:Fun K x qual st f fd)
  (h:∀(kV doc pm:Ae)(an:Option Addr)(cdv ct:Ae)(us:List Ae),us.length=ps.length->bindArgs (Fu x qual (kM st) (eR st) (bw st) .none kV doc pm an cdv ct) ⟨us,[]⟩=pure (ps.zip us)):Binds K fd ps []:=by
 obtain⟨oc,od,kV,doc,pm,an,cdv,ct,osl,rfl,lk,hcd⟩:=F.ex;exact .all (h kV doc pm an cdv ct)
theorem Oc{st:Stmt}{kV doc pm cdv ct:Ae}(l:K.lookup f=ae ⟨oc,od,.func (Fu x qual (kM st) (eR st) (bw st) .none kV doc pm an cdv ct),osl⟩)
  (c:PySem.W.codeIn K cdv qual=ah) (k:Bx K (.ref f)=ah):Fun K x qual st f (Fu x qual (kM st) (eR st) (bw st) .none kV doc pm an cdv ct):=⟨⟨oc,od,kV,doc,pm,an,cdv,ct,osl,rfl,l,c⟩,k⟩
end
theorem CS(h:n<=1000):n < Ar:=Hh h ∎
section
variable{X:Cx}
theorem pv(i){pos:Pos}(hN:X.N[i]?=ae x:=by rfl)(hv:fD X.env.scope x:=by first|exact By rfl|exact Ca (By rfl)|exact Ca (Ca rfl))(hd:(x==("__debug__":Str))=ai:=by decide)
  (hcd:(x==("__classdict__":Str))=ai:=by decide):PE X (.Name x pos) (az i):=gC hN hv hd hcd
end
theorem u6{A B:Prop}(h:B):if ai=ah then A else B:=by
 rw[if_neg Ak];exact h
theorem jx{c A B:Prop}[Decidable c](h1:c->A)(h2:¬c->B):if c then A else B:=by
 by_cases h:c
 ·rw[if_pos h];exact h1 h
 ·rw[if_neg h];exact h2 h
def iy(H H':Hp):Prop:=∀b o,H b=ae o->H' b=ae o
end L2
namespace L2
open PySem PySem.Spec PyProof.Rows
section
variable{prog:A7}{w:Bi}{A:Br}{R:Result->Ai->Prop}{s:Ai}
theorem zk(I:Nat->Ai->Prop)
  (turn:∀n s,I n s->Av (A9 prog w) A (pyNext it) (λr s₁=>match r with
   |none=>R (.ok .next) s₁
   |some v=>Av (A9 prog w) A (letOwnedTupleGo target it v) (λ_ s₁'=>Av (A9 prog w) A (assign target env v) (λ_ s₂=>
     Av (A9 prog w) A (forIn ifs ah λc r=>if r=ah then do let ok <-isTrue c env (eval c env);pure (G0 ok)else pure (G0 r)) (λok s₃=>
      if ok=ah then Av (A9 prog w) A (eval elt env) (λx s₄=>
       Av (A9 prog w) A (call (.builtin "list.append") [acc,x]) (λ_ s₅=>∃m,m < n/\I m s₅) (λ_ _=>False) s₄) (λ_ _=>False) s₃
      else ∃m,m < n/\I m s₃) (λ_ _=>False) s₂) (λ_ _=>False) s₁') (λ_ _=>False) s₁) (λ_ _=>False) s)
  (n) (h:I n s):Gr (A9 prog w) A (.compLoop (.ListComp elt [⟨target,iter,ifs,0⟩] scope pos) 0 it acc env) R s:=by
 refine codeAny_loop rfl I (λn s hI=>?_) n h;show Av _ A ((compTurn (.ListComp elt [⟨target,iter,ifs,0⟩] scope pos) 0 it acc env).onRaise (λx=>do noteFrame x env;theTreesLotGoes x)) _ _ s;refine wpAny_noted ?_;rw[compTurn_list];refine Aa (Fv (Aa (B6 (turn n s hI) (λr s₁ h₁=>?_) λ_ _ f=>f.elim)));cases r with
 |none=>exact Aj h₁
 |some v=>
  refine Aa (B6 h₁ (λ_ s₁' h₁'=>?_) λ_ _ f=>f.elim);refine Aa (B6 h₁' (λ_ s₂ h₂=>Aa (B6 h₂ (λok s₃ h₃=>?_) λ_ _ f=>f.elim)) λ_ _ f=>f.elim);cases ok with
  |false=>exact Aj ⟨rfl,h₃⟩
  |true=>
   exact Aa (Aa (B6 h₃ (λx s₄ h₄=>Aa (B6 h₄ (λ_ s₅ h₅=>Aj (Aj ⟨rfl,h₅⟩)) λ_ _ f=>f.elim)) λ_ _ f=>f.elim))
end
def cC(X:Cx)(N:List Str)(scope:E7)(cl:List (Str×Addr))(s:Ai)(H:Hp)(fp:List Addr):Cx:=
 { X with N:=N,s₀:=s,H₀:=H,env:=compEnvC scope cl s.heap.objs.size X.env,outer:=X.stack,ex:=fp,fn:=λ_=>ai,pn:=[],xe:=λ_ _=>False}
structure CompSc(X:Cx)(N:List Str)(scope:E7)(cl:List (Str×Addr))(fr:List (Option Nat)):Prop where
 clos:closureFor scope X.env=pure cl
 kind:scope.kind=.function
 nocell:∀y∈scope.names,y.2≠.cell
 names:∀y∈scope.names,y.2=.local->scope.names.lookup y.1=ae .local
 sub:∀x c,cl.lookup x=ae c->X.env.cells.lookup x=ae c
 has:∀x,((relabel scope X.env).names.lookup x=ae .cell\/(relabel scope X.env).names.lookup x=ae .free)->∃c,cl.lookup x=ae c
 len:fr.length=N.length
 fre:∀(j i:Nat),fr[j]?=ae (ae i)->∃x,N[j]?=ae x/\X.N[i]?=ae x/\fD X.env.scope x/\(X.env.kindOf x=ae .cell\/X.env.kindOf x=ae .free) /\
  ((relabel scope X.env).names.lookup x=ae .cell\/(relabel scope X.env).names.lookup x=ae .free)/\cl.lookup x=X.env.cells.lookup x
theorem qd{κ:Type}:∀{l:List (Str×κ)}{x:Str}{k:κ},l.lookup x=ae k->(x,k)∈l
 |[],_,_,h=>nomatch h
 | (y,k')::r,x,k,h=>by
  rw[List.lookup_cons]at h;cases e:x==y with
  |true=>
   rw[e]at h;have e':x=y:=by simpa using e
   have h':k'=k:=A4 h;rw[e',h'];exact Au
  |false=>
   rw[e]at h;exact An _ (qd h)
theorem zy{κ:Type}:∀{l:List (Str×κ)}{x:Str},x∈l.map (·.1)->∃k,l.lookup x=ae k
 |[],_,h=>absurd h (by simp)
 | (y,k')::r,x,h=>by
  rw[List.lookup_cons];cases e:x==y with
  |true=>exact⟨k',rfl⟩
  |false=>
   have ne:¬x=y:=λz=>by rw[z]at e;simp at e
   have h':x∈y::r.map (·.1):=h;rcases Aw.mp h' with z|z
   ·exact absurd z ne
   ·exact zy z
theorem AU{X:Cx}{cl:List (Str×Addr)}(nm)(ks)(hrel:(relabel scope X.env).names=nm)(hks:cl.map (·.1)=ks)(h3:∀y∈nm,(y.2=.cell\/y.2=.free)->y.1∈ks):
  ∀x,((relabel scope X.env).names.lookup x=ae .cell\/(relabel scope X.env).names.lookup x=ae .free)->∃c,cl.lookup x=ae c:=by
 intro x h;rw[hrel]at h;refine zy ?_;rw[hks];rcases h with h|h
 ·exact h3 _ (qd h) (.inl rfl)
 ·exact h3 _ (qd h) (.inr rfl)
def cX(fr:List (Option Nat))(σ:St):St:=fr.map λo=>o.bind λi=>(σ[i]?).bind id
theorem Kd{j:Nat}(h:(cX fr σ)[j]?=ae (ae v)):∃i,fr[j]?=ae (ae i)/\σ[i]?=ae (ae v):=by
 unfold cX at h;rw[Aq]at h;cases e:fr[j]? with
 |none=>rw[e]at h;cases h
 |some o=>
  rw[e]at h;cases o with
  |none=>cases h
  |some i=>
   refine⟨i,rfl,?_⟩;have h':(σ[i]?).bind id=ae v:=A4 h;cases e2:σ[i]? with
   |none=>rw[e2]at h';cases h'
   |some o2=>
    rw[e2]at h';have h2:o2=ae v:=h';rw[h2]
def mB(X:Cx)(ifs:List Expr)(tt:TT):Prop:=
 ∀(pins:List (Addr×Obj))(s:Ai)(σ:St)(H:Hp)(Q:Bool->Hp->Prop),Inv X pins σ H s->tt σ H Q->
  Av (A9 X.prog X.w) X.A (forIn ifs ah λc r=>if r=ah then do let ok <-isTrue c X.env (eval c X.env);pure (G0 ok)else pure (G0 r)) (TP X pins σ Q) X.xe s
def GJ:TT:=λ_ H Q=>Q ah H
theorem M8:mB X [] GJ:=λ_ _ _ H _ I h=>wpAny_tests_nil ⟨H,I,h⟩
theorem RC(h:PT X c tt):mB X [c] tt:=λpins s σ H Q I q=>wpAny_tests_one (h pins s σ H Q I q)
def sx(fr:List (Option Nat))(wi:TI)(g:TG)(tt:TT)(te:TE):TE:=λσ H Q=>wi σ H λJ H1=>∀D,H1 D=af->
 ∃W:Nat->Nat->List V->St->Hp->Prop,(∃m,W 0 m [] (cX fr σ) (upd H1 D (.lst [])))/\∀i m ys τ H,W i m ys τ H->
  ((J.stop i H/\Q (.ref D) H)\/(J.go i H/\ys.length < Ar/\∀x H',J.yld i H x H'->g x τ H' λτ2 H2=>tt τ2 H2 λb H3=>
   if b=ah then te τ2 H3 (λy H4=>H4 D=ae (.lst ys)/\∃m',m' < m/\W (i+1) m' (ys++[y]) τ2 (upd H4 D (.lst (ys++[y]))))else ∃m',m' < m/\W (i+1) m' ys τ2 H3))
section
variable{X:Cx}{N:List Str}{scope:E7}{cl:List (Str×Addr)}{fr:List (Option Nat)}{pins:List (Addr×Obj)}{σ:St}{H:Hp}{s:Ai}{fp:List Addr}
theorem S9(S:CompSc X N scope cl fr)(I:Inv X pins σ H s)(hf:∀b∈fp,cw X pins H b)(hlt:∀b∈fp,b < s.heap.objs.size):(cC X N scope cl s H fp).Ok where
 mod:=I.ok.mod
 kind:=S.kind
 glob:=I.ok.glob
 blt:=I.ok.blt
 above:=Am _
 inj:=λx y c a b=>I.ok.inj x y c (S.sub x c a) (S.sub y c b)
 has:=λx h=>S.has x h
 cab:=λx c h=>nomatch h
 hd:=I.ok.hd
 frames:=I.ok.frames
 stk:=.inl rfl
 exf:=λb hb=>⟨A8 (hlt b hb),λx c e=>(hf b hb).2.2.2.2.1 x c (S.sub x c e)⟩
 bs:=I.bs
 bsz:=Bb I.ok.bsz I.sz
 noex:=λb o e hb=>by
  rcases(hf b hb).2.2.2.1 with z|z
  ·exact I.ok.noex b o e z
  ·exact absurd (Bd (Ao (I.ok.bs b o e).1) z) (Ek _)
 exfs:=λb hb z=>by
  rcases Aw.mp (I.stkSub b z)with e|e
  ·exact(hf b hb).2.1 e
  ·exact(hf b hb).2.2.1 e
 funs:=I.stack
 frf:=I.stkFree
theorem HW(S:CompSc X N scope cl fr)(I:Inv X pins σ H s)(hf:∀b∈fp,cw X pins H b)(hlt:∀b∈fp,b < s.heap.objs.size)
   (hsb:Dt s.heap.objs.size (s.heap.push ob) h₁)  (hn:h₁.Ns s.heap.objs.size m):
  Inv (cC X N scope cl s H fp) [] (cX fr σ) H {s with heap:=h₁,toks:=t'}:=by
 have old:∀b o,s.heap.get? b=ae o->h₁.get? b=ae o:=λb o e=>(hsb.2 b (A8 (Ao e))).trans (Ah _ e);refine⟨S9 S I hf hlt,rfl,I.bare,Un.kept old,⟨m,hn,λj x v e1 e2 e3=>?_⟩,λx c e=>?_,I.fresh,λx c e=>I.freeC x c (S.sub x c e),λp hp=>?_,I.hok.kept old,?_⟩
 ·obtain⟨i,f1,f2⟩:=Kd e2;obtain⟨y,g1,g2,g3,g4,g5,g6⟩:=S.fre j i f1;have e1':N[j]?=ae x:=e1;rw[g1]at e1';have exy:y=x:=A4 e1';subst exy;obtain⟨m0,yZ,hl⟩:=I.loc;obtain⟨u,r,l⟩:=hl i y v g2 f2 g3;refine⟨u,r,.inr ⟨g5,?_⟩⟩;rcases l with⟨k,_⟩|⟨k,c,e,z⟩
  ·rcases g4 with q|q
   ·rw[q]at k;cases k
   ·rw[q]at k;cases k
  ·exact⟨c,g6.trans e,z.keeps old⟩
 ·obtain⟨v,z⟩:=I.cell x c (S.sub x c e);exact⟨v,z.keeps old⟩
 ·exact absurd hp (by simp[cC])
 ·show(cX fr σ).length=N.length;unfold cX;rw[Ad,S.len]
theorem EE{τ:St}(I:Inv X pins σ H s0)(hf:∀b∈fp,cw X pins H b)(I':Inv (cC X N scope cl s0 H fp) [] τ H' s')(hs:Dt s0.heap.objs.size s'.heap h'):
  Inv X pins σ H' {s' with heap:=h'}:=by
 have hC:H' s0.heap.objs.size=af:=I'.free;have u:Un (bY X.stack) fp H H' s0.heap s'.heap:=I'.base;have ne:∀b o,s0.heap.get? b=ae o->b≠s0.heap.objs.size:=λb o e=>A8 (Ao e);have hok':HOk X.prog X.w H' h':=λb o e=>by
  have q:ObjOk X.prog X.w H' s'.heap b o:=I'.hok b o e;refine q.stay (λc v hc z=>(hs.2 c ?_).trans z) (λ_ z=>z) λ_ _ z=>z
  rintro rfl
  rcases hc with z|z
  ·rw[<-z,hC]at e;cases e
  ·rw[hC]at z;cases z
 refine I.call' (s':={ s' with heap:=h'}) (ch:=fp) I'.os ?_ hok' I'.bare λb hb=>?_
 ·refine⟨λb o e n h1 h2=>(hs.2 b (ne b o e)).trans (u.keep b o e n h1 h2),λb o e n h1 h2=>?_,u.free,λb o e h2=>?_,u.tups,u.frzs,u.tbls⟩
  ·obtain⟨sl,z⟩:=u.slot b o e n h1 h2;exact⟨sl,(hs.2 b (ne b o e)).trans z⟩
  ·obtain⟨o',z⟩:=u.there b o e h2;exact⟨o',(hs.2 b (ne b o e)).trans z⟩
 ·obtain⟨_,f1,_,f3,f4,f5⟩:=hf b hb;exact⟨f3,f1,f4,f5⟩
end
theorem Ir
  (hc:X.calm=ah) (S:CompSc X N scope cl fr) (hi:PI X tg iter wi) (hg:∀s H fp,PG (cC X N scope cl s H fp) tg g) (ht:∀s H fp,mB (cC X N scope cl s H fp) ifs tt)
  (he:∀s H fp,PE (cC X N scope cl s H fp) elt te) (hs:∀x,F0 iter X.env x=pure x:=by intro _;rfl):
  PE X (.ListComp elt [⟨tg,iter,ifs,0⟩] scope pos) (sx fr wi g tt te):=by
 intro pins s σ H Q I h;rw[eval_ListComp];refine wpAny_comprehension_free (use:=af) (cl:=cl) rfl hs S.clos S.kind S.names (aG (hi pins s σ H _ I h) λv s1 h1=>aG h1 λitv s2 h2=>?_);obtain⟨it,fp,tn,J,H2,e,I2,T,st2,f2,q⟩:=h2;subst e;refine Ct (wpAny_newFunctionEnv S.nocell (by intro y hy;simp at hy) (λh₁ hn hsb=>?_) S.kind);dsimp only at hn hsb ⊢;obtain⟨W,⟨m0,w0⟩,turn⟩:=q s2.heap.objs.size I2.fresh
 have I3:Inv X pins σ (upd H2 s2.heap.objs.size (.lst [])) {s2 with heap:=s2.heap.push {cls:=.type "list",dict:=af,data:=.seq ([]:List Ae).toArray}}:=I2.lnew (its:=[]) (t':=s2.toks) .nil (Az _);have key:∀s3:Ai,s3={ s2 with heap:=s2.heap.push {cls:=.type "list",dict:=af,data:=.seq ([]:List Ae).toArray}}->Inv X pins σ (upd H2 s2.heap.objs.size (.lst [])) s3->
   ∀(ob:Obj)(mm:Str->Option Ae),Dt s3.heap.objs.size (s3.heap.push ob) h₁->h₁.Ns s3.heap.objs.size mm->
   Gr (A9 X.prog X.w) X.A (.compStart (.ListComp elt [⟨tg,iter,ifs,0⟩] scope pos) 0 (.ref it) (.ref s2.heap.objs.size) (compEnvC scope cl s3.heap.objs.size X.env))
    (compPost (A9 X.prog X.w) X.A X.xe af (EP X pins σ Q) (.ref s2.heap.objs.size) s3.heap.objs.size) {s3 with heap:=h₁,toks:=s3.toks+([]:List (Str×Ae)).length}:=?key
 ·exact key _ rfl I3 _ _ hsb hn
 clear I3 hn hsb;intro s3 hs3 I3 ob mm hsb hn;have hfp:∀b∈fp,∃o,s2.heap.get? b=ae o:=λb hb=>let⟨o,e,_⟩:=T.obj _ _ st2 b hb;⟨o,e⟩;have up:∀b o,s2.heap.get? b=ae o->s3.heap.get? b=ae o:=λb o e=>by rw[hs3];exact Ah _ e
 have f3:∀b∈fp,cw X pins (upd H2 s2.heap.objs.size (.lst [])) b:=λb hb=>by
  obtain⟨o,e⟩:=hfp b hb;obtain⟨g0,gr⟩:=f2 b hb;exact⟨by rw[aD (A8 (Ao e))];exact g0,gr⟩
 have hlt:∀b∈fp,b < s3.heap.objs.size:=λb hb=>let⟨o,e⟩:=hfp b hb;Ao (up b o e);generalize hH3:upd H2 s2.heap.objs.size (.lst [])=H3 at I3 f3 w0;have I4:=HW (t':=s3.toks+([]:List (Str×Ae)).length) S I3 f3 hlt hsb hn;have st4:tn 0 h₁:=T.keep _ _ _ st2 λb hb o e=>(hsb.2 b (A8 (Ao (up b o e)))).trans (Ah _ (up b o e));have stat:∀{H':Hp},(∀b∈fp,H' b=af)->∀b∈fp,cw (cC X N scope cl s3 H3 fp) [] H' b:=λhn b hb=>by
  obtain⟨_,k1,k2,k3,k4,k5⟩:=f3 b hb;refine⟨hn b hb,A8 (hlt b hb),λz=>?_,.inl hb,λx c e=>k4 x c (S.sub x c e),λp hp=>absurd hp (by simp[cC])⟩;rcases Aw.mp (I3.stkSub b z)with e|e
  ·exact k1 e
  ·exact k2 e
 have loop:Gr (A9 X.prog X.w) X.A (.compLoop (.ListComp elt [⟨tg,iter,ifs,0⟩] scope pos) 0 (.ref it) (.ref s2.heap.objs.size) (compEnvC scope cl s3.heap.objs.size X.env))
   (compPost (A9 X.prog X.w) X.A X.xe af (EP X pins σ Q) (.ref s2.heap.objs.size) s3.heap.objs.size) {s3 with heap:=h₁,toks:=s3.toks+([]:List (Str×Ae)).length}:=by
  refine zk (λn s'=>∃i ys τ Hc,Inv (cC X N scope cl s3 H3 fp) [] τ Hc s'/\tn i s'.heap/\(∀b∈fp,Hc b=af)/\W i n ys τ Hc) ?_ m0 ⟨0,[],cX fr σ,H3,I4,st4,λb hb=>(f3 b hb).1,w0⟩
  rintro n s5 ⟨i,ys,τ,Hc,I5,st5,fr5,w5⟩
  rcases turn i n ys τ Hc w5 with⟨stop,qn⟩|⟨go,hz,step⟩
  ·refine aG (T.done (cC X N scope cl s3 H3 fp) rfl rfl rfl hc i [] s5 τ Hc (λ_ _=>False) I5 (stat fr5) st5 stop) λr s6 ⟨hr,I6⟩=>?_;subst hr;obtain⟨mm,hm,_⟩:=I6.loc;exact⟨mm,hm,λh' hs'=>⟨.ref s2.heap.objs.size,Hc,EE I3 f3 I6 hs',rfl,qn⟩⟩
  ·refine aG (T.item (cC X N scope cl s3 H3 fp) rfl rfl rfl hc i [] s5 τ Hc (λ_ _=>False) I5 (stat fr5) st5 go) λr s6 ⟨u,hr,h6⟩=>?_;subst hr;refine aG h6 λ_ s7 ⟨x,H7,I7,r7,y7,st7,fr7⟩=>?_;have I7':=I7.pinned (stat fr7) (T.obj _ _ st7);refine aG (hg s3 H3 fp _ s7 τ H7 x u _ I7' r7 (step x H7 y7)) λ_ s8 ⟨τ8,H8,I8,q8⟩=>?_;refine aG (ht s3 H3 fp _ s8 τ8 H8 _ I8 q8) λok s9 ⟨H9,I9,q9⟩=>?_;have keep:∀{st:Ai}{τ':St}{H':Hp},Inv (cC X N scope cl s3 H3 fp) ([]++mN fp s7.heap) τ' H' st->tn (i+1) st.heap/\∀b∈fp,H' b=af:=λ{st τ' H'} Ix=>by
    refine⟨T.keep _ _ _ st7 λb hb o e=>(Ix.pin (b,o) (Bt _ (Bt _ (mC hb e)))).1,λb hb=>?_⟩;obtain⟨o,e,d⟩:=T.obj _ _ st7 b hb;exact(Ix.pin (b,o) (Bt _ (Bt _ (mC hb e)))).2.1
   cases ok with
   |false=>
    rw[if_neg Ak]at q9 ⊢;obtain⟨m',hm,w9⟩:=q9;obtain⟨k1,k2⟩:=keep I9;exact⟨m',hm,i+1,ys,τ8,H9,I9.unpinned,k1,k2,w9⟩
   |true=>
    rw[if_pos rfl]at q9 ⊢;refine aG (he s3 H3 fp _ s9 τ8 H9 _ I9 q9) λxv s10 ⟨y,H10,I10,r10,hD,m',hm,w10⟩=>?_;refine aG (tU _ s10 τ8 H10 (.ref s2.heap.objs.size) [y] (.ref s2.heap.objs.size) [xv] (λz H'=>∃m',m' < n/\W (i+1) m' (ys++[y]) τ8 H') I10 rfl (.cons r10 .nil) ⟨_,ys,y,rfl,rfl,hD,hz,m',hm,w10⟩) λz s11 ⟨z',H11,I11,_,m'',hm',w11⟩=>?_;obtain⟨k1,k2⟩:=keep I11;exact⟨m'',hm',i+1,ys++[y],τ8,H11,I11.unpinned,k1,k2,w11⟩
 exact codeAny_compStart_list loop (T.self _ 0 _ _ _ st4 loop)
mutual
inductive RdD(K:Af)(H:Hp):V->Ab->Prop
 |non:RdD K H .non .none
 |bl (b:Bool):RdD K H (.bl b) (.bool b)
 |int (i:Int):RdD K H (.int i) (.int i)
 |str (x:Str):RdD K H (.str x) (.str x)
 |lst {a:Addr} {xs:List V} {ds:List Ab}:SqL K H a xs->RdAll K H xs ds->RdD K H (.ref a) (.list ds)
 |tup {a:Addr} {xs:List V} {ds:List Ab}:SqT K H a xs->RdAll K H xs ds->RdD K H (.ref a) (.tuple ds)
inductive RdAll(K:Af)(H:Hp):List V->List Ab->Prop
 |nil:RdAll K H [] []
 |cons {x:V} {xs:List V} {d:Ab} {ds:List Ab}:RdD K H x d->RdAll K H xs ds->RdAll K H (x::xs) (d::ds)
end
section
variable{X:Cx}{pins:List (Addr×Obj)}{σ:St}{H:Hp}{s:Ai}
mutual
theorem RdD.reads(I:Inv X pins σ H s):∀{v:V}{d:Ab}{u:Ae},RdD X.K H v d->RelV v u->∃as,Reads s.heap u d as
 |_,_,u,.non,r=>by
  cases(show u=B5 from r);exact⟨_,.none⟩
 |_,_,u,.bl b,r=>by
  cases(show u=Value.bool b from r);exact⟨_,.bool b⟩
 |_,_,u,.int i,r=>by
  obtain⟨t,rfl⟩:=(show ∃t,u=Value.int i t from r);exact⟨_,.int i t⟩
 |_,_,u,.str x,r=>by
  obtain⟨t,rfl⟩:=(show ∃t,u=Gy x t from r);exact⟨_,.str x t⟩
 |_,_,u,.lst (a:=a) h1 h2,r=>by
  cases(show u=As a from r);obtain⟨its,rv,⟨o,n,e,c,_,d⟩,_⟩:=I.list h1;obtain⟨as,ha⟩:=RdAll.reads I h2 rv;exact⟨_,.list e c d (by simpa using ha)⟩
 |_,_,u,.tup (a:=a) h1 h2,r=>by
  cases(show u=As a from r);obtain⟨its,rv,⟨o,e,c,n,d⟩,_⟩:=I.tuple h1;obtain⟨as,ha⟩:=RdAll.reads I h2 rv;exact⟨_,.tuple e c d (by simpa using ha)⟩
theorem RdAll.reads(I:Inv X pins σ H s):∀{vs:List V}{ds:List Ab}{us:List Ae},RdAll X.K H vs ds->Vals vs us->∃as,ReadsAll s.heap us ds as
 |_,_,_,.nil,.nil=>⟨_,.nil⟩
 |_,_,_,.cons h1 h2,.cons r1 r2=>by
  obtain⟨as,ha⟩:=RdD.reads I h1 r1;obtain⟨bs,hb⟩:=RdAll.reads I h2 r2;exact⟨_,.cons ha hb⟩
end
end
def Small(d:Ab):Prop:=Cf d=ah/\Dc d<=20/\Gz d<=2 ^ 20/\Fw 13 d=ah/\Ff d=ah
theorem Small.len(h:Small d):d.shown.length<=Ar:=by
 have hl:PyData.layable0 d=ah:=by
  unfold PyData.layable0;rw[h.1,decide_eq_true (show Dc d<=64 by have:=h.2.1;omega),decide_eq_true h.2.2.1];rfl
 have:=shown_le13 hl h.2.2.2.1;rw[Ga];omega
def sH(K:Af):R2:=λx y H Q=>∃a b xs,x=.ref a/\y=.ref b/\SqL K H a xs/\SqL K H b []/\Q (.bl xs.isEmpty) H
theorem Kv(hu:X.A.units < Dj):OpR X (Bu .Eq) (sH X.K):=by
 intro pins s σ H x y v u Q I rx ry h;obtain⟨a,b,xs,rfl,rfl,ha,hb,q⟩:=h;cases(show v=As a from rx);cases(show u=As b from ry);obtain⟨its,r1,p1,_⟩:=I.list ha;obtain⟨its2,r2,p2,_⟩:=I.list hb;have e2:its2=[]:=Vals.zero r2;subst e2;cases r1 with
 |nil=>exact PySem.SeqAt.eq_listAt (e:=λ_=>ah) p1.isList p2.isList rfl hu (λj h1=>absurd h1 (by simp)) ⟨.bl ah,H,I,(by rfl),q⟩
 |cons r1 r3=>exact PySem.SeqAt.eq_list_lengthsAt p1.isList p2.isList (by simp) hu ⟨.bl ai,H,I,rfl,q⟩
def zP(K:Af):R2:=λx y H Q=>∃a b xs ys,x=.ref a/\y=.ref b/\SqT K H a xs/\SqT K H b ys/\ys≠[]/\xs.length+ys.length<=Ar /\
 (xs=[]->Q (.ref b) H)/\(xs≠[]->∀p,H p=af->Q (.ref p) (upd H p (.tup (xs++ys))))
theorem op_catA:OpR X (Er .Add) (zP X.K):=by
 intro pins s σ H x y v u Q I rx ry h;obtain⟨a,b,xs,ys,rfl,rfl,ha,hb,hy,hz,q0,q2⟩:=h;by_cases hx:xs=[]
 ·cases(show v=As a from rx);cases(show u=As b from ry);obtain⟨its,r1,p1,_⟩:=I.tuple ha;obtain⟨its2,r2,p2,_⟩:=I.tuple hb;obtain⟨⟨cls,dd,data,sl⟩,ho,hc,n,hd⟩:=id p1;obtain⟨⟨cls2,dd2,data2,sl2⟩,ho2,hc2,n2,hd2⟩:=id p2;simp only at hc hd hc2 hd2;subst hc hd hc2 hd2;have hi:its=[]:=r1.nil_iff.mpr hx;exact concat_meets ⟨_,ho,rfl⟩ ⟨_,ho2,rfl⟩ noFill_tuple_add seq_tuple_add Gj Gf (F6 _ _)
   (tuple_addW0 a b its.toArray its2.toArray n n2 dd dd2 sl sl2 (by simp[hi])) ⟨ho,ho2,⟨.ref b,H,I,rfl,q0 hx⟩⟩
 ·exact op_catT pins s σ H (.ref a) (.ref b) v u Q I rx ry ⟨a,b,xs,ys,rfl,rfl,ha,hb,hx,hz,λe=>absurd e hy,λ_=>q2 hx⟩
theorem Mj:CallR X (.builtin "isinstance") (λxs H Q=>∃x t b,xs=[x,.ty T]/\TyOf X.K H x t/\D6 X.K t (.type T)=ae b/\Q (.bl b) H):=by
 intro pins s σ H xs us Q I r h;obtain⟨x,t,b,rfl,ty,e,q⟩:=h;obtain⟨u,u',rfl,ru,ru'⟩:=qr r;cases(show u'=Ft T from ru');exact Og I ru ty e λtk=>⟨.bl b,H,I.tok tk,rfl,q⟩
section
variable{prog:A7}{w:Bi}{A:Br}{E:Ae->Ai->Prop}{s:Ai}
theorem GC:entryFor table "dict.update.loop"=ae Ei.«dict.update.loop»:=entryFor_of_tree (by kernel_rfl)
theorem rJ:plainId "dict.update.loop"=ah:=by decide +kernel
theorem J3:typeLookup (.type "tuple") "keys"=pure af:=by rw[typeLookup_type,builtinLookup_eq_fast];kernel_rfl
theorem Nu(p:IsTup s.heap a its.toArray)(h:Q its s):Av (A9 prog w) A (Builtin.Dict.pairItems (.ref a)) Q E s:=by
 obtain⟨o,ho,hc,n,hd⟩:=id p;unfold Builtin.Dict.pairItems;refine Aa (wpAny_typeOf (show s.TypeIs (.ref a) "tuple" from⟨o,ho,hc⟩) ?_);rw[if_pos ∎];refine Aa (Dh ho hd (Aj ?_));simpa using h
set_option maxRecDepth 8000 in
theorem Sz
  (hx:s.heap.get? a=ae o) (hc:o.cls=.type "tuple") (hdat:o.data=.seq xs k) (hd:o.dict=af) (hmiss:typeLookup (.type "tuple") name=pure af) (hname:(["__module__","__name__","__qualname__","__doc__","__annotations__"]:List Str).contains name=ai) (hA:A.handled=af)
  (h:∀h' tk e,Heap.NewExcOf s.heap h' e "AttributeError"->Q af {s with heap:=h',toks:=tk}) (hsz:name.length+100<=Ar:=by size_fits):
  Av (A9 prog w) A (getAttr? (.ref a) name) Q E s:=by
 obtain⟨c,dct,dat,sl⟩:=o;simp only at hc hdat hd;subst hc hdat hd;obtain⟨hp,g,d,tk,os⟩:=s;have hT:∀tk',(⟨hp,g,d,tk',os⟩:Ai).TypeIs (.ref a) "tuple":=λ_=>⟨_,hx,rfl⟩;have f1:=sub_AttributeError;have f3:=F.slot_tuple_getattribute.lookup;have f4:=F.slot_tuple_getattribute.bind (.ref a);have f5:=am_tuple_getattr_none;unfold getAttr? getAttrBy? getAttrBy
 repeat (any_goals (first|assumption|exact hT _|((with_reducible show Av _ _ (call (G2 "tuple.__getattribute__") _ _) _ _ _);refine Gw F.slot_tuple_getattribute (hT _) am_entry_tuple_getattribute (F.args_tuple_getattribute_2 _ _) (meets_getattribute_miss_tuple a xs k sl name _ hmiss hname hsz) ⟨hx,hA,λh' tk' e hx'=>?_⟩)|wp_step))
 obtain⟨t',u',he⟩:=hx'.there;show Av _ _ (getattributeRaised _ _ _ _ _ _ _) _ _ _;unfold getattributeRaised
 repeat (any_goals (first|assumption|wp_step))
 exact h _ _ _ hx'.of
end
section
variable{X:Cx}{pins:List (Addr×Obj)}{σ:St}{A:Br}{R:Result->Ai->Prop}
theorem SqT.upd{K:Af}(h:H a=ae (.tup xs))(hd:a≠d):(L2.upd H d o) a=ae (.tup xs):=by rw[aD hd];exact h
theorem K9(hA:A.handled=af)(ps:List (Addr×aC×V)):∀(n i:Nat)(H:Hp)(s:Ai)(kvs:List (aC×V)),n+i=ps.length->Inv X pins σ H s->H d=ae (.dK kvs)->kvs.length+n<=Ar->
  H src=ae (.tup (ps.map λp=>.ref p.1))->(∀p∈ps,H p.1=ae (.tup [kV p.2.1,p.2.2]))->s.heap.IsTupleIter it src i->cw X pins H it->
  (∀H' s',Inv X pins σ H' s'->H'=L2.upd H d (.dK (lr kvs ((ps.drop i).map (·.2))))->R (.ok (.ret .none)) s')->
  Gr (A9 X.prog X.w) A (.builtin "dict.update.loop" ⟨[.ref d,.ref it,rawInt i,.none],[]⟩) R s:=by
 intro n
 induction n with
 |zero=>
  intro i H s kvs hn I hd hz hs hp st f hR;obtain⟨its,rv,p,_⟩:=I.tuple (SqT.of (K:=X.K) hs);obtain⟨f0,f1,f2,f3,f4,f5⟩:=f;refine Gq GC ?_;rw[Fq rJ _];show Av _ _ (pyNext (.ref it)>>=_) _ _ s;have hl:=rv.length;rw[Ad]at hl;refine Aa (wpAny_pyNext_tuple_end (A:=A.in1) hA st (show s.heap.IsTuple src its.toArray from p) (by simp;omega) λh' eb=>?_);show Av _ _ (Builtin.Dict.addKeywords d []>>=_) _ _ _;refine Aa (Aj (Aj ?_));refine hR H _ (I.turned (t':=s.toks) (λb o hb e=>eb b o hb e) f0 f1 f3 f4 f5) ?_;have e1:ps.drop i=[]:=List.drop_eq_nil_of_le ⋯;rw[e1]
  funext b
  unfold L2.upd
  split
  ·rename_i hb;rw[hb,hd];rfl
  ·rfl
 |succ n ih=>
  intro i H s kvs hn I hd hz hs hp st f hR;obtain⟨its,rv,p,_⟩:=I.tuple (SqT.of (K:=X.K) hs);obtain⟨f0,f1,f2,f3,f4,f5⟩:=id f;have hi:i < ps.length:=by omega
  have hpi:(ps.map λp=>V.ref p.1)[i]?=ae (V.ref (ps[i]).1):=by simp[hi]
  obtain⟨u,hu,ru⟩:=rv.get hpi;cases(show u=As (ps[i]).1 from ru);have hmem:ps[i]∈ps:=Cm hi;have hq:=hp _ hmem;refine Gq GC ?_;rw[Fq rJ _];show Av _ _ (pyNext (.ref it)>>=_) _ _ s;refine Aa (wpAny_pyNext_tuple_item st (show s.heap.IsTuple src its.toArray from p) (x:=As (ps[i]).1) (by simpa using hu) λh1 st1 sb=>?_);have I1:Inv X pins σ H {s with heap:=h1}:=I.turned (t':=s.toks) (λb o hb e=>(sb.2 b hb).trans e) f0 f1 f3 f4 f5;obtain⟨its1,rv1,p1,_⟩:=I1.tuple (SqT.of (K:=X.K) hq);obtain⟨u1,u2,rfl,r1,r2⟩:=qr rv1;refine Aa (B3 ?_);refine Aa (wpAny_tryCatch (Nu p1 ?_));obtain⟨z,hdS,vs,rel,dd⟩:=GW I1.hok hd;have hz1:vs.length<=Ar:=by rw[<-rel.length];exact z
  have hl1:=sN kvs (ps[i]).2.1 (ps[i]).2.2;refine B3 (wpAny_dictSet_pairs (hsz:=hz1) (lN r1) dd λh2 dd2 hs2=>?_);have he2:∃q,h2.get? d=ae q:=let⟨q,_,_,hq,_⟩:=dd2;⟨q,hq⟩;have I2:=mH (t':=s.toks+1) I1 (by rw[hd];exact Ec) hs2 he2 (II ⋯ hdS (rel.put (ps[i]).2.1 r2) dd2);have nd:∀b xs,H b=ae (.tup xs)->b≠d:=λb xs e z=>by rw[z,hd]at e;cases e
  have nit:it≠d:=λz=>by rw[z,hd]at f0;cases f0
  have hc:((i:Int)+1)=((i+1:Nat):Int):=by push_cast;rfl
  show Av _ _ (pure (Fin.again (.builtin "dict.update.loop" ⟨[.ref d,.ref it,rawInt ((i:Int)+1),.none],[]⟩))) _ _ _;refine Aj ⟨plainId_quiet rJ _,?_⟩;rw[hc];refine ih (i+1) _ _ (bx kvs (ps[i]).2.1 (ps[i]).2.2) ⋯ I2 aR ⋯ (SqT.upd (K:=X.K) hs (nd _ _ hs)) (λq hq'=>SqT.upd (K:=X.K) (hp q hq') (nd _ _ (hp q hq'))) (by
   obtain⟨o,e,r⟩:=st1;exact⟨o,(hs2.2 it nit).trans e,r⟩) ⟨by rw[aD nit];exact f0,f1,f2,f3,f4,f5⟩ λH' s' I' e=>?_
  refine hR H' s' I' ?_;rw[e,xG,Hm hi];rfl
theorem jq(h:n<=1000):n<=Ar:=Fh (CS h)
theorem Pu(hh:X.A.handled=af):CallR X (.type "dict") (λxs H Q=>∃(src:Addr)(ps:List (Addr×aC×V)),xs=[.ref src]/\H src=ae (.tup (ps.map λp=>V.ref p.1))/\(∀p∈ps,H p.1=ae (.tup [kV p.2.1,p.2.2]))/\ps.length<=1000 /\
  ∀l,H l=af->Q (.ref l) (L2.upd H l (.dK (lr [] (ps.map (·.2)))))):=by
 intro pins s σ H xs us Q I r h;obtain⟨src,ps,rfl,hs,hp,hlen,q⟩:=h;obtain⟨u,rfl,ru⟩:=gg r;cases(show u=As src from ru);have big:=I.big;refine callType_codes (Q₁:=λobj s₁=>obj=.ref s.heap.objs.size/\s₁={ s with heap:=s.heap.push {cls:=.type "dict",data:=.dict #[]}}) F.kt_called_dict (F.kt_typeCall_dict_1 _) F.entry_dict_init (kt_code_dict_new _ ⟨rfl,rfl⟩) ?_
 rintro obj s₁ ⟨rfl,rfl⟩
 have hfr:H s.heap.objs.size=af:=I.fresh;have I1:Inv X pins σ (L2.upd H s.heap.objs.size (.dK [])) {s with heap:=s.heap.push {cls:=.type "dict",data:=.dict #[]}}:=I.laid (t':=s.toks) (λb o e=>Ah _ e) (Am _) (AG s.heap big);have nd:∀b xs,H b=ae (.tup xs)->b≠s.heap.objs.size:=λb xs e z=>by rw[z,hfr]at e;cases e
 have hs1:=SqT.upd (K:=X.K) (o:=.dK []) hs (nd _ _ hs);obtain⟨zz,its,rv,o,ho,hc,⟨n,hdat⟩,hd⟩:=(show ObjOk X.prog X.w _ _ src (.tup _)from I1.hok src _ hs1);have hnew:(s.heap.push {cls:=.type "dict",data:=.dict #[]}).DictOf (d7 X.prog X.w) s.heap.objs.size []:=Heap.DictOf.new s.heap;refine⟨hnew.typeIs,F.args_dict_init_2 _ _,?_⟩;unfold Ei.«dict.__init__»;refine Aa ?_;unfold Builtin.Dict.selfAndRest;refine Aa (wpAny_notOrdered_dict hnew.typeIs ?_);show Av _ _ (pure (s.heap.objs.size,[As src])) _ _ _;refine Aj ?_;show Av _ _ (Builtin.Dict.updateFrom "dict.__init__" s.heap.objs.size (.ref src) [] .none) _ _ _;unfold Builtin.Dict.updateFrom;refine Aa (wpAny_typeOf (T:="tuple") ⟨o,ho,hc⟩ ?_);rw[if_pos ∎];refine Aa (Sz ho hc hdat hd J3 ∅ hh (λh' tk e ne=>?_));have I2:=I1.kept (t':=tk) ne.keeps;have p2:IsTup h' src its.toArray:=IsTup.keeps ⟨o,ho,hc,n,hdat⟩ ne.keeps;show Av _ _ (rule _>>=_) _ _ _;refine Aa (wpAny_rule ?_);refine Aa (Eo (show Heap.IsTuple h' src its.toArray from p2) ?_);refine Aj ⟨plainId_quiet rJ _,?_⟩;have I3:=I2.kept (t':=tk) (λb o e=>Ah {cls:=.type "tuple_iterator",data:=.fields #[.ref src,.int 0 0]} e);refine K9 (A:=X.A.in1) hh ps ps.length 0 _ _ [] ⋯ I3 aR (by simp only[List.length_nil];exact jq ⋯) hs1 (λq hq=>SqT.upd (K:=X.K) (hp q hq) (nd _ _ (hp q hq))) ⟨_,A0 _ rfl,rfl,rfl⟩ (I2.fpOk (Am _) I2.fresh) λH' s' I' e=>?_;refine⟨rfl,.ref s.heap.objs.size,H',I',rfl,?_⟩;rw[e,xG];exact q _ hfr
end
theorem UA(bs:List Bool):((A5 bs.length).all λi=>(bs[i]?).getD ah)=bs.all id:=by
 rw[Dg,Dm,Dm]
 constructor
 ·intro h b hb;obtain⟨i,hi,rfl⟩:=List.mem_iff_getElem.mp hb;have:=h i (Bo.mpr hi);rw[Ag hi]at this;exact this
 ·intro h i hi;have hi':=Bo.mp hi;rw[Ag hi'];exact h _ (Cm hi')
theorem UC(hh:X.A.handled=af):CallR X (.builtin "all") (λxs H Q=>∃(p:Addr)(bs:List Bool),xs=[.ref p]/\H p=ae (.lst (bs.map V.bl))/\Q (.bl (bs.all id)) H):=by
 intro pins s σ H xs us Q I r h;obtain⟨p,bs,rfl,hp,q⟩:=h;obtain⟨u,rfl,ru⟩:=gg r;cases(show u=As p from ru);obtain⟨its,rv,pl,_⟩:=I.list (SqL.of (K:=X.K) hp);have hl:s.heap.IsList p its.toArray:=pl.isList;have hlt:p < s.heap.objs.size:=by obtain⟨_,e,_⟩:=hl;exact Ao e
 have hlen:bs.length=its.length:=by have:=rv.length;rwa [Ad]at this
 refine call_all_walk (wpAny_pyIter_list hl ?_);refine⟨s.heap.objs.size,[s.heap.objs.size,p],[s.heap.objs.size],its.toArray.size,_,_,λi=>(bs[i]?).getD ah,rfl,Walks.list (A:=X.A.in1) hh _ p (A8 hlt) its.toArray,
  ⟨⟨_,A0 _ rfl,rfl,rfl⟩,hl.push _⟩,λi v s' Q' E' hP hQ=>?_,λh' tk hk=>?_⟩
 ·have hi:its[i]?=ae v:=by simpa using hP
  have hib:i < bs.length:=by rw[hlen];exact(Al.mp hi).1
  have hx:(bs.map V.bl)[i]?=ae (V.bl bs[i]):=by simp[hib]
  obtain⟨u,hu,ru⟩:=rv.get hx;rw[hi]at hu;cases(A4 hu);cases(show v=Value.bool bs[i]from ru);dsimp only at hQ;rw[Ag hib,Option.getD_some]at hQ;exact De hQ
 ·have e:((A5 its.toArray.size).all λi=>(bs[i]?).getD ah)=bs.all id:=by
   rw[Ax,<-hlen];exact UA bs
  rw[e];refine⟨.bl (bs.all id),H,I.kept λb x e=>hk b x (λhm=>?_) (Ah _ e),rfl,q⟩;rw[Bn.mp hm]at e;exact Ek _ (Ao e)
theorem Ox:OpR X (Bu .LtE) (λx y H Q=>∃i j,x=.str i/\y=.str j/\Q (.bl (!decide (j.cps.toList < i.cps.toList))) H):=by
 intro pins s σ H x y v u Q I rx ry h;obtain⟨i,j,rfl,rfl,q⟩:=h;obtain⟨t,rfl⟩:=rx;obtain⟨t',rfl⟩:=ry;exact P.le_str (b7 I q rfl)
theorem Jr:OpR X (Bu .Gt) (λx y H Q=>∃i j,x=.str i/\y=.str j/\Q (.bl (decide (j.cps.toList < i.cps.toList))) H):=by
 intro pins s σ H x y v u Q I rx ry h;obtain⟨i,j,rfl,rfl,q⟩:=h;obtain⟨t,rfl⟩:=rx;obtain⟨t',rfl⟩:=ry;exact P.gt_str (b7 I q rfl)
def rz:Ab->String
 |.none=>"NoneType"
 |.bool _=>"bool"
 |.int _=>"int"
 |.str _=>"str"
 |.list _=>"list"
 |.tuple _=>"tuple"
 |.dict _=>"dict"
def gB(T:String)(d:Ab):Bool:=rz d==T || (T=="int"&&rz d=="bool")
def cY(h:Str):Ab->Bool
 |.str x=>decide (x=h)
 |_=>ai
end L2
namespace Nb
open PySem L2
def l7:Bool:=ah
def AW:List V:=[.non,.non,.non,.int 1,.int 2,.int 3,.int 20]
end Nb
set_option Elab.async false
set_option maxRecDepth 100000
namespace Nb
open PySem L2
def Kp(t:Addr)(H H':Hp):Prop:=∀b o,H b=ae o->b≠t->H' b=ae o
theorem Kp.refl(t)(H):Kp t H H:=λ_ _ h _=>h
theorem Kp.trans(a:Kp t H H1)(b:Kp t H1 H2):Kp t H H2:=λc o h n=>b c o (a c o h n) n
theorem Kp.new(h:H p=af):Kp t H (upd H p o):=λc o' e _=>by
 rw[aD (aY e h)];exact e
theorem Kp.tape:Kp t H (upd H t o):=λc o' e n=>by
 rw[aD n];exact e
structure TL where
 s:Addr
 g:Addr
def jk(l:TL):List V:=if l7=ah then[.ref l.g]else[]
structure Tp(H:Hp)(t:Addr)(l:TL)(ns:List Int)(n:Int):Prop where
 ob:∃a b:Int,H t=ae (.lst (.ref l.s::.int a::.int b::jk l))/\0<=a/\a<=n
 ls:H l.s=ae (.lst (ns.map V.int))
 len:ns.length<=63
 ag:l7=ah->H l.g=ae (.lst AW)
 gne:l.g≠t
theorem Tp.ne(T:Tp H t l ns n):t≠l.s:=by
 obtain⟨a,b,h,_⟩:=T.ob;refine AS h T.ls λz=>?_;have z':(.ref l.s::.int a::.int b::jk l:List V)=ns.map V.int:=HO.lst.inj z;cases ns with
 |nil=>cases z'
 |cons m r=>
  rw[Bg]at z';have:=(Ba z').1;cases this
theorem Tp.other(T:Tp H t l ns n)(h1:t≠p)(h2:l.s≠p)(h3:l7=ah->l.g≠p):Tp (upd H p o) t l ns n:=by
 obtain⟨a,b,e,h⟩:=T.ob;exact⟨⟨a,b,by rw[aD h1];exact e,h⟩,by rw[aD h2];exact T.ls,T.len,λz=>by rw[aD (h3 z)];exact T.ag z,T.gne⟩
theorem Tp.new(T:Tp H t l ns n)(h:H p=af):Tp (upd H p o) t l ns n:=by
 obtain⟨a,b,e,_⟩:=T.ob;exact T.other (aY e h) (aY T.ls h) λz=>aY (T.ag z) h
theorem Uo{xs:List V}{r:Int}(h0:0<=r)(h1:r < xs.length):∃v,df xs r=ae v/\v∈xs:=by
 obtain⟨j,rfl⟩:=Int.eq_ofNat_of_zero_le h0;have hj:j < xs.length:=by omega
 exact⟨xs[j],fG (Ag hj),Cm hj⟩
theorem small(h:n<=1000):n<=Ar:=Fh (CS h)
theorem JV:Bp "tuple"=ae (.type "tuple"):=by decide +kernel
theorem IT:Bp "dict"=ae (.type "dict"):=by decide +kernel
theorem Nj:Bp "int"=ae (.type "int"):=by decide +kernel
theorem JM:Bp "str"=ae (.type "str"):=by decide +kernel
theorem J0:Bp "repr"=ae (.builtin "repr"):=by decide +kernel
theorem DO:Bp "isinstance"=ae (.builtin "isinstance"):=by decide +kernel
theorem Ni:Bp "all"=ae (.builtin "all"):=by decide +kernel
theorem rk:Bp "list"=ae (.type "list"):=by decide +kernel
theorem Kc:Bp "bool"=ae (.type "bool"):=by decide +kernel
theorem Mc(h:xs.length<=63):eD xs af (ae 63)=xs:=by
 unfold eD;have e1:HT.sIx xs.length 0 af=0:=rfl;have e2:HT.sIx xs.length xs.length (ae 63)=xs.length:=by
  have e:=HT.sIx_nat xs.length xs.length 63;rw[show((63:Nat):Int)=63 from rfl]at e;rw[e];omega
 rw[e1,e2,List.drop_zero,Nat.sub_zero,List.take_length]
def pU(K:Af):Sp:=λvs H Q _=>∃(a:Addr)(ns:List Int),vs=[.ref a]/\SqL K H a (ns.map V.int)/\ns.length<=63 /\
 ∀(t:Addr)(l:TL)(H':Hp),Tp H' t l ns 0->(∀b o,H b=ae o->H' b=ae o)->Q (.ref t) H'
def BW:Sp:=λvs H Q _=>∃(t:Addr)(l:TL)(ns:List Int)(n many:Int),vs=[.ref t,.int many]/\Tp H t l ns n/\n < 2 ^ 40/\0 < many/\many < 1073741824 /\
 ∀(r:Int)(H':Hp),0<=r->r < many->Tp H' t l ns (n+1)->Kp t H H'->Q (.int r) H'
end Nb
namespace DL
open PySem L2 Nb
theorem vQ(h:n<=2000):n<=Ar:=Bb h ∎
abbrev D:=Ab
mutual
inductive RdX(H:Hp)(B:Addr->Prop):V->Ab->Prop
 |non:RdX H B .non .none
 |bl (b:Bool):RdX H B (.bl b) (.bool b)
 |int (i:Int):RdX H B (.int i) (.int i)
 |str (x:Str) (h:x.length<=Ar):RdX H B (.str x) (.str x)
 |lst {a:Addr} {xs:List V} {ds:List Ab}:H a=ae (.lst xs)->¬B a->xs.length<=Ar->RdXs H B xs ds->RdX H B (.ref a) (.list ds)
 |tup {a:Addr} {xs:List V} {ds:List Ab}:H a=ae (.tup xs)->¬B a->xs.length<=Ar->RdXs H B xs ds->RdX H B (.ref a) (.tuple ds)
inductive RdXs(H:Hp)(B:Addr->Prop):List V->List Ab->Prop
 |nil:RdXs H B [] []
 |cons {x:V} {xs:List V} {d:Ab} {ds:List Ab}:RdX H B x d->RdXs H B xs ds->RdXs H B (x::xs) (d::ds)
end
mutual
theorem RdX.move{H H':Hp}{B B':Addr->Prop}(k:∀b o,H b=ae o->¬B b->H' b=ae o/\¬B' b):∀{v:V}{d:Ab},RdX H B v d->RdX H' B' v d
 |_,_,.non=>.non
 |_,_,.bl b=>.bl b
 |_,_,.int i=>.int i
 |_,_,.str x h=>.str x h
 |_,_,.lst h1 h2 h3 h4=>.lst (k _ _ h1 h2).1 (k _ _ h1 h2).2 h3 (RdXs.move k h4)
 |_,_,.tup h1 h2 h3 h4=>.tup (k _ _ h1 h2).1 (k _ _ h1 h2).2 h3 (RdXs.move k h4)
theorem RdXs.move{H H':Hp}{B B':Addr->Prop}(k:∀b o,H b=ae o->¬B b->H' b=ae o/\¬B' b):∀{vs:List V}{ds:List Ab},RdXs H B vs ds->RdXs H' B' vs ds
 |_,_,.nil=>.nil
 |_,_,.cons h1 h2=>.cons (RdX.move k h1) (RdXs.move k h2)
end
section
variable{H H':Hp}{B B':Addr->Prop}{v:V}{d:Ab}{vs ws:List V}{ds es:List Ab}{t:Addr}
theorem RdX.kp(k:Kp t H H')(ht:B t)(h:RdX H B v d):RdX H' B v d:=h.move λb o e n=>⟨k b o e λz=>n (z▸ht),n⟩
theorem RdXs.kp(k:Kp t H H')(ht:B t)(h:RdXs H B vs ds):RdXs H' B vs ds:=h.move λb o e n=>⟨k b o e λz=>n (z▸ht),n⟩
theorem RdX.less(k:∀b,B' b->B b)(h:RdX H B v d):RdX H B' v d:=h.move λb o e n=>⟨e,λz=>n (k b z)⟩
theorem RdXs.less(k:∀b,B' b->B b)(h:RdXs H B vs ds):RdXs H B' vs ds:=h.move λb o e n=>⟨e,λz=>n (k b z)⟩
theorem RdXs.keep(k:∀b o,H b=ae o->¬B b->H' b=ae o)(h:RdXs H B vs ds):RdXs H' B vs ds:=h.move λb o e n=>⟨k b o e n,n⟩
theorem RdXs.len:∀{vs:List V}{ds:List Ab},RdXs H B vs ds->vs.length=ds.length
 |_,_,.nil=>rfl
 |_,_,.cons _ t=>by rw[Bf,Bf,RdXs.len t]
theorem RdXs.get:∀{vs:List V}{ds:List Ab}{i:Nat}{v:V},RdXs H B vs ds->vs[i]?=ae v->∃d,ds[i]?=ae d/\RdX H B v d
 |_,_,_,_,.nil,e=>by simp at e
 |_,_,0,_,.cons h _,e=>by
  simp at e;subst e;exact⟨_,rfl,h⟩
 |_,_,i+1,v,.cons _ t,e=>by
  obtain⟨d,h1,h2⟩:=RdXs.get (i:=i) (v:=v) t (by simpa using e);exact⟨d,by simpa using h1,h2⟩
theorem RdXs.getD:∀{vs:List V}{ds:List Ab}{i:Nat}{d:Ab},RdXs H B vs ds->ds[i]?=ae d->∃v,vs[i]?=ae v/\RdX H B v d
 |_,_,_,_,.nil,e=>by simp at e
 |_,_,0,_,.cons h _,e=>by
  simp at e;subst e;exact⟨_,rfl,h⟩
 |_,_,i+1,d,.cons _ t,e=>by
  obtain⟨v,h1,h2⟩:=RdXs.getD (i:=i) (d:=d) t (by simpa using e);exact⟨v,by simpa using h1,h2⟩
theorem RdXs.append:∀{vs ws:List V}{ds es:List Ab},RdXs H B vs ds->RdXs H B ws es->RdXs H B (vs++ws) (ds++es)
 |_,_,_,_,.nil,h=>h
 |_,_,_,_,.cons h1 h2,h=>.cons h1 (RdXs.append h2 h)
theorem RdXs.take:∀{vs:List V}{ds:List Ab}(n:Nat),RdXs H B vs ds->RdXs H B (vs.take n) (ds.take n)
 |_,_,0,_=>.nil
 |_,_,_+1,.nil=>.nil
 |_,_,n+1,.cons r t=>.cons r (RdXs.take n t)
theorem RdXs.drop:∀{vs:List V}{ds:List Ab}(n:Nat),RdXs H B vs ds->RdXs H B (vs.drop n) (ds.drop n)
 |_,_,0,r=>r
 |_,_,_+1,.nil=>.nil
 |_,_,n+1,.cons _ t=>RdXs.drop n t
end
mutual
theorem RdX.rd{K:Af}{H:Hp}{B:Addr->Prop}:∀{v:V}{d:Ab},RdX H B v d->RdD K H v d
 |_,_,.non=>.non
 |_,_,.bl b=>.bl b
 |_,_,.int i=>.int i
 |_,_,.str x h=>.str x
 |_,_,.lst h1 h2 h3 h4=>.lst (SqL.of h1) (RdXs.rd h4)
 |_,_,.tup h1 h2 h3 h4=>.tup (SqT.of h1) (RdXs.rd h4)
theorem RdXs.rd{K:Af}{H:Hp}{B:Addr->Prop}:∀{vs:List V}{ds:List Ab},RdXs H B vs ds->RdAll K H vs ds
 |_,_,.nil=>.nil
 |_,_,.cons h1 h2=>.cons (RdX.rd h1) (RdXs.rd h2)
end
inductive Ob where
 |o|p (d:Ab)|k (m:List (aC×Ab))|q (d:Ab) (m:List (aC×Ab))|x (m:List (TK×Ab))|y (m:List (TK×Ab))
inductive Wv where
 |d (x:Ab)|tp|dk (kvs:List (aC×Ab))|ln (ds:List Ab)|ob (o:Ob)|dx (kvs:List (TK×Ab))
def Wv.lent:Wv->Bool
 |.dk _=>ah
 |.dx _=>ah
 |.ln _=>ah
 |_=>ai
inductive SV where
 |w (x:Wv)|own (ds:List Ab)|odk (kvs:List (aC×Ab))|odt (kvs:List (List aC×Ab))|odx (kvs:List (TK×Ab))
abbrev Sl:=List (Option SV)
def RdK(H:Hp)(B:Addr->Prop):List (aC×V)->List (aC×Ab)->Prop:=Paired λp q=>p.1=q.1/\RdX H B p.2 q.2
theorem RdK.move(k:∀b o,H b=ae o->¬B b->H' b=ae o/\¬B' b)(h:RdK H B l m):RdK H' B' l m:=
 Paired.mapP h λ_ _ z=>⟨z.1,z.2.move k⟩
def RdT(H:Hp)(B:Addr->Prop):List (List aC×V)->List (List aC×Ab)->Prop:=Paired λp q=>p.1=q.1/\RdX H B p.2 q.2
theorem RdT.move(k:∀b o,H b=ae o->¬B b->H' b=ae o/\¬B' b)(h:RdT H B l m):RdT H' B' l m:=
 Paired.mapP h λ_ _ z=>⟨z.1,z.2.move k⟩
def RdY(H:Hp)(B:Addr->Prop):List (TK×Addr×V)->List (TK×Ab)->Prop:=Paired λp q=>p.1=q.1/\RdX H B (.ref p.2.1) p.1.1/\RdX H B p.2.2 q.2
theorem RdY.move(k:∀b o,H b=ae o->¬B b->H' b=ae o/\¬B' b)(h:RdY H B l m):RdY H' B' l m:=
 Paired.mapP h λ_ _ z=>⟨z.1,z.2.1.move k,z.2.2.move k⟩
def ORel(H:Hp)(B:Addr->Prop)(v:V):Ob->Prop
 |.o=>∃a,v=.ref a
 |.p d=>∃a x y,v=.ref a/\H a=ae (.tup [x,y])/\¬B a/\RdX H B x d
 |.k m=>∃a l,v=.ref a/\H a=ae (.dK l)/\¬B a/\RdK H B l m
 |.x m=>∃a l,v=.ref a/\H a=ae (.dX l)/\¬B a/\RdY H B l m
 |.y m=>∃a o l,v=.ref a/\H a=ae (.frz o (.dX l))/\¬B a/\RdY H B l m
 |.q d m=>∃a x b l,v=.ref a/\H a=ae (.tup [x,.ref b])/\¬B a/\RdX H B x d/\H b=ae (.dK l)/\¬B b/\RdK H B l m
theorem ORel.move(k:∀b o,H b=ae o->¬B b->H' b=ae o/\¬B' b)(h:ORel H B v o):ORel H' B' v o:=by
 cases o with
 |o=>exact h
 |p d=>
  obtain⟨a,x,y,e,h1,h2,h3⟩:=h;exact⟨a,x,y,e,(k _ _ h1 h2).1,(k _ _ h1 h2).2,h3.move k⟩
 |k m=>
  obtain⟨a,l,e,h1,h2,h3⟩:=h;exact⟨a,l,e,(k _ _ h1 h2).1,(k _ _ h1 h2).2,h3.move k⟩
 |y m=>
  obtain⟨a,o,l,e,h1,h2,h3⟩:=h;exact⟨a,o,l,e,(k _ _ h1 h2).1,(k _ _ h1 h2).2,h3.move k⟩
 |x m=>
  obtain⟨a,l,e,h1,h2,h3⟩:=h;exact⟨a,l,e,(k _ _ h1 h2).1,(k _ _ h1 h2).2,h3.move k⟩
 |q d m=>
  obtain⟨a,x,b,l,e,h1,h2,h3,h4,h5,h6⟩:=h;exact⟨a,x,b,l,e,(k _ _ h1 h2).1,(k _ _ h1 h2).2,h3.move k,(k _ _ h4 h5).1,(k _ _ h4 h5).2,h6.move k⟩
def WRel(H:Hp)(B:Addr->Prop)(t:Addr)(v:V):Wv->Prop
 |.d x=>RdX H B v x
 |.tp=>v=.ref t
 |.dk kvs=>∃a l,v=.ref a/\H a=ae (.dK l)/\a≠t/\RdK H B l kvs
 |.dx kvs=>∃a l,v=.ref a/\H a=ae (.dX l)/\a≠t/\RdY H B l kvs
 |.ln ds=>∃a xs,v=.ref a/\H a=ae (.lst xs)/\a≠t/\xs.length<=Ar/\RdXs H B xs ds
 |.ob o=>ORel H B v o
def SRel(H0:Hp)(H:Hp)(B:Addr->Prop)(t:Addr)(v:V):SV->Prop
 |.w x=>WRel H B t v x/\(x.lent=ah->∃a,v=.ref a/\H0 a≠af)
 |.own ds=>∃a xs,v=.ref a/\H a=ae (.lst xs)/\B a/\H0 a=af/\xs.length<=Ar/\RdXs H B xs ds
 |.odk kvs=>∃a l,v=.ref a/\H a=ae (.dK l)/\B a/\H0 a=af/\l.length<=1000/\RdK H B l kvs
 |.odt kvs=>∃a l,v=.ref a/\H a=ae (.dT l)/\B a/\H0 a=af/\l.length<=1000/\RdT H B l kvs
 |.odx kvs=>∃a l,v=.ref a/\H a=ae (.dX l)/\B a/\H0 a=af/\l.length<=2000/\RdY H B l kvs
def SV.isOwn:SV->Bool
 |.w _=>ai
 |_=>ah
structure Ctx where
 t:Addr
 l:TL
 ns:List Int
 H0:Hp
 B0:Addr->Prop
 fz:Hp
structure Rel(C:Ctx)(H:Hp)(B:Addr->Prop)(σ:St)(δ:Sl)(n:Int):Prop where
 tp:Tp H C.t C.l C.ns n
 kp:Kp C.t C.H0 H
 t0:C.H0 C.t≠af
 l0:C.H0 C.l.s≠af
 g0:l7=ah->C.H0 C.l.g≠af
 fz:∀b o,C.fz b=ae o->H b=ae o/\¬B b
 bt:B C.t
 b0:∀b,C.B0 b->B b
 ba:∀b,B b->H b≠af
 a0:∀b,C.B0 b->C.H0 b≠af
 sl:∀(i:Nat)(x:SV),δ[i]?=ae (ae x)->∃v,σ[i]?=ae (ae v)/\SRel C.H0 H B C.t v x
 ow:∀(i j:Nat)(x y:SV)(v:V),δ[i]?=ae (ae x)->δ[j]?=ae (ae y)->x.isOwn=ah->y.isOwn=ah->σ[i]?=ae (ae v)->σ[j]?=ae (ae v)->i=j
 len:σ.length=δ.length
theorem WRel.kp(k:Kp t H H')(ht:B t)(h:WRel H B t v x):WRel H' B t v x:=by
 cases x with
 |d x=>exact RdX.kp k ht h
 |tp=>exact h
 |dk kvs=>
  obtain⟨a,l,e,h1,h2,h3⟩:=h;exact⟨a,l,e,k _ _ h1 h2,h2,h3.move λb o e n=>⟨k b o e λz=>n (z▸ht),n⟩⟩
 |dx kvs=>
  obtain⟨a,l,e,h1,h2,h3⟩:=h;exact⟨a,l,e,k _ _ h1 h2,h2,h3.move λb o e n=>⟨k b o e λz=>n (z▸ht),n⟩⟩
 |ln ds=>
  obtain⟨a,l,e,h1,h2,h3,h4⟩:=h;exact⟨a,l,e,k _ _ h1 h2,h2,h3,h4.kp k ht⟩
 |ob o=>exact ORel.move (λb o e n=>⟨k b o e λz=>n (z▸ht),n⟩) h
theorem WRel.less(k:∀b,B' b->B b)(h:WRel H B t v x):WRel H B' t v x:=by
 cases x with
 |d x=>exact RdX.less k h
 |tp=>exact h
 |dk kvs=>
  obtain⟨a,l,e,h1,h2,h3⟩:=h;exact⟨a,l,e,h1,h2,h3.move λb o e n=>⟨e,λz=>n (k b z)⟩⟩
 |dx kvs=>
  obtain⟨a,l,e,h1,h2,h3⟩:=h;exact⟨a,l,e,h1,h2,h3.move λb o e n=>⟨e,λz=>n (k b z)⟩⟩
 |ln ds=>
  obtain⟨a,l,e,h1,h2,h3,h4⟩:=h;exact⟨a,l,e,h1,h2,h3,h4.less k⟩
 |ob o=>exact ORel.move (λb o e n=>⟨e,λz=>n (k b z)⟩) h
theorem SRel.kp(k:Kp t H H')(ht:B t)(t0:H0 t≠af)(h:SRel H0 H B t v x):SRel H0 H' B t v x:=by
 cases x with
 |w x=>exact⟨h.1.kp k ht,h.2⟩
 |own ds=>
  obtain⟨a,xs,e,h1,h2,h3,h4,h5⟩:=h;exact⟨a,xs,e,k _ _ h1 (λz=>t0 (z▸h3)),h2,h3,h4,h5.kp k ht⟩
 |odk kvs=>
  obtain⟨a,l,e,h1,h2,h3,h4,h5⟩:=h;exact⟨a,l,e,k _ _ h1 (λz=>t0 (z▸h3)),h2,h3,h4,h5.move λb o e n=>⟨k b o e λz=>n (z▸ht),n⟩⟩
 |odt kvs=>
  obtain⟨a,l,e,h1,h2,h3,h4,h5⟩:=h;exact⟨a,l,e,k _ _ h1 (λz=>t0 (z▸h3)),h2,h3,h4,h5.move λb o e n=>⟨k b o e λz=>n (z▸ht),n⟩⟩
 |odx kvs=>
  obtain⟨a,l,e,h1,h2,h3,h4,h5⟩:=h;exact⟨a,l,e,k _ _ h1 (λz=>t0 (z▸h3)),h2,h3,h4,h5.move λb o e n=>⟨k b o e λz=>n (z▸ht),n⟩⟩
theorem Rel.step{H H':Hp}{B:Addr->Prop}{σ:St}{δ:Sl}{n n':Int}(R:Rel C H B σ δ n)(T:Tp H' C.t C.l C.ns n')(k:Kp C.t H H'):Rel C H' B σ δ n' where
 tp:=T
 kp:=R.kp.trans k
 t0:=R.t0
 l0:=R.l0
 g0:=R.g0
 fz:=λb o e=>⟨k b o (R.fz b o e).1 λz=>(R.fz b o e).2 (z▸R.bt),(R.fz b o e).2⟩
 bt:=R.bt
 b0:=R.b0
 ba:=λb hb e=>by
  by_cases z:b=C.t
  ·subst z;obtain⟨x,y,h,_⟩:=T.ob;rw[h]at e;cases e
  ·cases q:H b with
   |none=>exact R.ba b hb q
   |some o=>rw[k b o q z]at e;cases e
 a0:=R.a0
 sl:=λi x e=>by
  obtain⟨v,h1,h2⟩:=R.sl i x e;exact⟨v,h1,h2.kp k R.bt R.t0⟩
 ow:=R.ow
 len:=R.len
theorem Rel.new(R:Rel C H B σ δ n)(h:H p=af):Rel C (upd H p o) B σ δ n:=R.step (R.tp.new h) (Kp.new h)
theorem Rel.nb(R:Rel C H B σ δ n)(h:H p=af):¬B p:=λz=>R.ba p z h
theorem eU{α:Type}{l:List (Option α)}{x y:α}(h:(l.set i (ae x))[j]?=ae (ae y)):(j=i/\y=x)\/(j≠i/\l[j]?=ae (ae y)):=by
 by_cases e:i=j
 ·subst e;rw[Cp]at h;cases q:l[i]? with
  |none=>rw[q]at h;cases h
  |some z=>
   rw[q]at h;exact .inl ⟨rfl,(A4 (A4 h)).symm⟩
 ·rw[A6 e]at h;exact .inr ⟨λz=>e z.symm,h⟩
theorem rg{α:Type}{l:List (Option α)}{x y:Option α}(h:(l.set i x)[i]?=ae y):i < l.length:=by
 have:=(Al.mp h).1;rwa [B8]at this
theorem sE{α:Type}{l:List (Option α)}{x:α}(h:i < l.length):(l.set i (ae x))[i]?=ae (ae x):=by simp[h]
theorem jR{α:Type}{l:List (Option α)}{x:α}(h:j≠i):(l.set i (ae x))[j]?=l[j]?:=A6 (λz=>h z.symm)
theorem Rel.set(R:Rel C H B σ δ n)(h:WRel H B C.t v x)(hx:x.lent=ai):Rel C H B (σ.set i (ae v)) (δ.set i (ae (.w x))) n where
 tp:=R.tp
 kp:=R.kp
 t0:=R.t0
 l0:=R.l0
 g0:=R.g0
 fz:=R.fz
 bt:=R.bt
 b0:=R.b0
 ba:=R.ba
 a0:=R.a0
 sl:=λj y e=>by
  rcases eU e with⟨rfl,rfl⟩|⟨ne,e'⟩
  ·exact⟨v,sE (by rw[R.len];exact rg e),h,λz=>by rw[hx]at z;cases z⟩
  ·obtain⟨u,h1,h2⟩:=R.sl j y e';exact⟨u,by rw[jR ne];exact h1,h2⟩
 ow:=λj k y z u e1 e2 o1 o2 f1 f2=>by
  rcases eU e1 with⟨rfl,rfl⟩|⟨ne1,e1'⟩
  ·cases o1
  ·rcases eU e2 with⟨rfl,rfl⟩|⟨ne2,e2'⟩
   ·cases o2
   ·rw[jR ne1]at f1;rw[jR ne2]at f2;exact R.ow j k y z u e1' e2' o1 o2 f1 f2
 len:=by rw[B8,B8];exact R.len
theorem Rel.mut(R:Rel C H B σ δ n)(hb:B a)(h0:C.H0 a=af)
  (ho:∀(i:Nat)(x:SV),δ[i]?=ae (ae x)->x.isOwn=ah->σ[i]?≠ae (ae (.ref a))):Rel C (upd H a o) B σ δ n where
 tp:=R.tp.other (λz=>R.t0 (z▸h0)) (λz=>R.l0 (z▸h0)) (λe z=>R.g0 e (z▸h0))
 kp:=λb o' e ne=>by
  rw[aD (aY e h0)];exact R.kp b o' e ne
 t0:=R.t0
 l0:=R.l0
 g0:=R.g0
 fz:=λb o' e=>⟨by rw[aD λ(z:b=a)=>(R.fz b o' e).2 (z▸hb)];exact(R.fz b o' e).1,(R.fz b o' e).2⟩
 bt:=R.bt
 b0:=R.b0
 ba:=λb hb' e=>by
  by_cases z:b=a
  ·rw[z,aR]at e;cases e
  ·rw[aD z]at e;exact R.ba b hb' e
 a0:=R.a0
 sl:=λi x e=>by
  obtain⟨v,h1,h2⟩:=R.sl i x e;have mv:∀b o',H b=ae o'->¬B b->upd H a o b=ae o'/\¬B b:=λb o' e n=>⟨by rw[aD λ(z:b=a)=>n (z▸hb)];exact e,n⟩;refine⟨v,h1,?_⟩;cases x with
  |w x=>
   refine⟨?_,h2.2⟩;cases x with
   |d x=>exact h2.1.move mv
   |tp=>exact h2.1
   |dk kvs=>
    obtain⟨a',l,e1,e2,e3,e4⟩:=h2.1;obtain⟨a'',f1,f2⟩:=h2.2 rfl;rw[e1]at f1;cases f1;exact⟨a',l,e1,by rw[aD λ(z:a'=a)=>f2 (z▸h0)];exact e2,e3,e4.move mv⟩
   |dx kvs=>
    obtain⟨a',l,e1,e2,e3,e4⟩:=h2.1;obtain⟨a'',f1,f2⟩:=h2.2 rfl;rw[e1]at f1;cases f1;exact⟨a',l,e1,by rw[aD λ(z:a'=a)=>f2 (z▸h0)];exact e2,e3,e4.move mv⟩
   |ln ds=>
    obtain⟨a',l,e1,e2,e3,e4,e5⟩:=h2.1;obtain⟨a'',f1,f2⟩:=h2.2 rfl;rw[e1]at f1;cases f1;exact⟨a',l,e1,by rw[aD λ(z:a'=a)=>f2 (z▸h0)];exact e2,e3,e4,e5.move mv⟩
   |ob o=>exact ORel.move mv h2.1
  |own ds=>
   obtain⟨a',xs,e1,e2,e3,e4,e5,e6⟩:=h2;have ne:a'≠a:=λz=>ho i _ e rfl (by rw[h1,e1,z]);exact⟨a',xs,e1,by rw[aD ne];exact e2,e3,e4,e5,e6.move mv⟩
  |odk kvs=>
   obtain⟨a',xs,e1,e2,e3,e4,e5,e6⟩:=h2;have ne:a'≠a:=λz=>ho i _ e rfl (by rw[h1,e1,z]);exact⟨a',xs,e1,by rw[aD ne];exact e2,e3,e4,e5,e6.move mv⟩
  |odt kvs=>
   obtain⟨a',xs,e1,e2,e3,e4,e5,e6⟩:=h2;have ne:a'≠a:=λz=>ho i _ e rfl (by rw[h1,e1,z]);exact⟨a',xs,e1,by rw[aD ne];exact e2,e3,e4,e5,e6.move mv⟩
  |odx kvs=>
   obtain⟨a',xs,e1,e2,e3,e4,e5,e6⟩:=h2;have ne:a'≠a:=λz=>ho i _ e rfl (by rw[h1,e1,z]);exact⟨a',xs,e1,by rw[aD ne];exact e2,e3,e4,e5,e6.move mv⟩
 ow:=R.ow
 len:=R.len
theorem Rel.mutOwn(R:Rel C H B σ δ n)(hi:δ[i]?=ae (ae x))(hx:x.isOwn=ah)(hσ:σ[i]?=ae (ae (.ref a)))(hb:B a)(h0:C.H0 a=af)
  (h:SRel C.H0 (upd H a o) B C.t (.ref a) x') (hx':x'.isOwn=ah):Rel C (upd H a o) B σ (δ.set i (ae x')) n:=by
 have R1:Rel C H B σ (δ.set i af) n:={
  tp:=R.tp,kp:=R.kp,t0:=R.t0,l0:=R.l0,g0:=R.g0,fz:=R.fz,bt:=R.bt,b0:=R.b0,ba:=R.ba,a0:=R.a0
  sl:=λj y e=>by
   by_cases z:i=j
   ·subst z;rw[Cp]at e;rw[hi]at e;cases e
   ·rw[A6 z]at e;exact R.sl j y e
  ow:=λj k y z u e1 e2 o1 o2 f1 f2=>by
   have g:∀{m:Nat}{w:SV},(δ.set i af)[m]?=ae (ae w)->δ[m]?=ae (ae w):=λ{m w} e=>by
    by_cases q:i=m
    ·subst q;rw[Cp,hi]at e;cases e
    ·rwa [A6 q]at e
   exact R.ow j k y z u (g e1) (g e2) o1 o2 f1 f2
  len:=by rw[B8];exact R.len}
 have R2:Rel C (upd H a o) B σ (δ.set i af) n:=R1.mut hb h0 λj y e oy f=>by
  by_cases z:i=j
  ·subst z;rw[Cp,hi]at e;cases e
  ·rw[A6 z]at e;exact z (R.ow i j x y _ hi e hx oy hσ f)
 have hlt:i < δ.length:=(Al.mp hi).1;exact{
  tp:=R2.tp,kp:=R2.kp,t0:=R2.t0,l0:=R2.l0,g0:=R2.g0,fz:=R2.fz,bt:=R2.bt,b0:=R2.b0,ba:=R2.ba,a0:=R2.a0
  sl:=λj y e=>by
   rcases eU e with⟨rfl,rfl⟩|⟨ne,e'⟩
   ·exact⟨_,hσ,h⟩
   ·exact R2.sl j y (by rw[A6 λz=>ne z.symm];exact e')
  ow:=λj k y z u e1 e2 o1 o2 f1 f2=>by
   rcases eU e1 with⟨rfl,rfl⟩|⟨ne1,e1'⟩
   ·rcases eU e2 with⟨rfl,rfl⟩|⟨ne2,e2'⟩
    ·rfl
    ·exact R.ow _ _ x z u hi e2' hx o2 f1 f2
   ·rcases eU e2 with⟨rfl,rfl⟩|⟨ne2,e2'⟩
    ·exact R.ow _ _ y x u e1' hi o1 hx f1 f2
    ·exact R.ow j k y z u e1' e2' o1 o2 f1 f2
  len:=by rw[B8];exact R.len}
theorem Rel.own(R:Rel C H B σ δ n)(R':Rel C H' B σ δ n')(k:Kp C.t H H')(h0:H a=af)(h1:H' a≠af)(hx:x.isOwn=ah)
  (h:SRel C.H0 H' (λb=>B b\/b=a) C.t (.ref a) x):Rel C H' (λb=>B b\/b=a) (σ.set i (ae (.ref a))) (δ.set i (ae x)) n' where
 tp:=R'.tp
 kp:=R'.kp
 t0:=R'.t0
 l0:=R'.l0
 g0:=R'.g0
 fz:=λb o e=>⟨(R'.fz b o e).1,λz=>z.elim (R'.fz b o e).2 λq=>aY (R.fz b o e).1 h0 q⟩
 bt:=.inl R.bt
 b0:=λb z=>.inl (R.b0 b z)
 ba:=λb z=>z.elim (R'.ba b) λq=>q▸h1
 a0:=R.a0
 sl:=λj y e=>by
  have hta:C.t≠a:=λz=>by
   obtain⟨_,_,q,_⟩:=R.tp.ob;rw[z,h0]at q;cases q
  have mv:∀b o',H b=ae o'->¬B b->H' b=ae o'/\¬(B b\/b=a):=λb o' e n=>⟨k b o' e λz=>n (z▸R.bt),λz=>z.elim n λq=>aY e h0 q⟩;rcases eU e with⟨rfl,rfl⟩|⟨ne,e'⟩
  ·exact⟨_,sE (by rw[R.len];exact rg e),h⟩
  ·obtain⟨v,f1,f2⟩:=R.sl j y e';refine⟨v,by rw[jR ne];exact f1,?_⟩;cases y with
   |w y=>
    refine⟨?_,f2.2⟩;cases y with
    |d y=>exact f2.1.move mv
    |tp=>exact f2.1
    |dk kvs=>
     obtain⟨a',l,e1,e2,e3,e4⟩:=f2.1;exact⟨a',l,e1,k _ _ e2 e3,e3,e4.move mv⟩
    |dx kvs=>
     obtain⟨a',l,e1,e2,e3,e4⟩:=f2.1;exact⟨a',l,e1,k _ _ e2 e3,e3,e4.move mv⟩
    |ln ds=>
     obtain⟨a',l,e1,e2,e3,e4,e5⟩:=f2.1;exact⟨a',l,e1,k _ _ e2 e3,e3,e4,e5.move mv⟩
    |ob o=>exact ORel.move mv f2.1
   |own ds=>
    obtain⟨a',xs,e1,e2,e3,e4,e5,e6⟩:=f2;exact⟨a',xs,e1,k _ _ e2 (λz=>R.t0 (z▸e4)),.inl e3,e4,e5,e6.move mv⟩
   |odk kvs=>
    obtain⟨a',xs,e1,e2,e3,e4,e5,e6⟩:=f2;exact⟨a',xs,e1,k _ _ e2 (λz=>R.t0 (z▸e4)),.inl e3,e4,e5,e6.move mv⟩
   |odt kvs=>
    obtain⟨a',xs,e1,e2,e3,e4,e5,e6⟩:=f2;exact⟨a',xs,e1,k _ _ e2 (λz=>R.t0 (z▸e4)),.inl e3,e4,e5,e6.move mv⟩
   |odx kvs=>
    obtain⟨a',xs,e1,e2,e3,e4,e5,e6⟩:=f2;exact⟨a',xs,e1,k _ _ e2 (λz=>R.t0 (z▸e4)),.inl e3,e4,e5,e6.move mv⟩
 ow:=λj m y z u e1 e2 o1 o2 f1 f2=>by
  have out:∀{p:Nat}{w:SV},δ[p]?=ae (ae w)->w.isOwn=ah->σ[p]?=ae (ae (.ref a))->False:=λ{p w} e ow f=>by
   obtain⟨v,g1,g2⟩:=R.sl p w e;rw[f]at g1;cases g1;cases w with
   |w _=>cases ow
   |own ds=>
    obtain⟨a',xs,e1,e2,_⟩:=g2;cases e1;rw[h0]at e2;cases e2
   |odk ds=>
    obtain⟨a',xs,e1,e2,_⟩:=g2;cases e1;rw[h0]at e2;cases e2
   |odt ds=>
    obtain⟨a',xs,e1,e2,_⟩:=g2;cases e1;rw[h0]at e2;cases e2
   |odx ds=>
    obtain⟨a',xs,e1,e2,_⟩:=g2;cases e1;rw[h0]at e2;cases e2
  rcases eU e1 with⟨rfl,rfl⟩|⟨ne1,e1'⟩
  ·rcases eU e2 with⟨rfl,rfl⟩|⟨ne2,e2'⟩
   ·rfl
   ·rw[sE (by rw[R.len];exact rg e1)]at f1;rw[jR ne2]at f2;cases f1;exact(out e2' o2 f2).elim
  ·rcases eU e2 with⟨rfl,rfl⟩|⟨ne2,e2'⟩
   ·rw[sE (by rw[R.len];exact rg e2)]at f2;rw[jR ne1]at f1;cases f2;exact(out e1' o1 f1).elim
   ·rw[jR ne1]at f1;rw[jR ne2]at f2;exact R.ow j m y z u e1' e2' o1 o2 f1 f2
 len:=by rw[B8,B8];exact R.len
theorem Rel.give(R:Rel C H B σ δ n)(hi:δ[i]?=ae (ae x))(ox:x.isOwn=ah)(hv:σ[i]?=ae (ae (.ref a)))(e4:C.H0 a=af)(hy:WRel H (λb=>B b/\b≠a) C.t (.ref a) y)(hl:y.lent=ai):Rel C H (λb=>B b/\b≠a) σ (δ.set i (ae (.w y))) n:=by
 have less:∀b,(B b/\b≠a)->B b:=λb z=>z.1;exact{
  tp:=R.tp,kp:=R.kp,t0:=R.t0,l0:=R.l0,g0:=R.g0
  fz:=λb o e=>⟨(R.fz b o e).1,λz=>(R.fz b o e).2 z.1⟩
  bt:=⟨R.bt,λz=>R.t0 (z▸e4)⟩
  b0:=λb z=>⟨R.b0 b z,λq=>R.a0 b z (q▸e4)⟩
  ba:=λb z=>R.ba b z.1
  a0:=R.a0
  sl:=λj y' e=>by
   rcases eU e with⟨rfl,rfl⟩|⟨ne,e'⟩
   ·exact⟨_,hv,hy,λz=>by rw[hl]at z;cases z⟩
   ·obtain⟨u,f1,f2⟩:=R.sl j y' e';refine⟨u,f1,?_⟩;cases y' with
    |w y=>exact⟨f2.1.less less,f2.2⟩
    |own ds'=>
     obtain⟨a',xs',g1,g2,g3,g4,g5,g6⟩:=f2;refine⟨a',xs',g1,g2,⟨g3,λz=>?_⟩,g4,g5,g6.less less⟩;exact ne (R.ow j i _ _ _ e' hi rfl ox f1 (by rw[hv,g1,z]))
    |odk ds'=>
     obtain⟨a',xs',g1,g2,g3,g4,g5,g6⟩:=f2;refine⟨a',xs',g1,g2,⟨g3,λz=>?_⟩,g4,g5,g6.move λb o e n=>⟨e,λz=>n z.1⟩⟩;exact ne (R.ow j i _ _ _ e' hi rfl ox f1 (by rw[hv,g1,z]))
    |odt ds'=>
     obtain⟨a',xs',g1,g2,g3,g4,g5,g6⟩:=f2;refine⟨a',xs',g1,g2,⟨g3,λz=>?_⟩,g4,g5,g6.move λb o e n=>⟨e,λz=>n z.1⟩⟩;exact ne (R.ow j i _ _ _ e' hi rfl ox f1 (by rw[hv,g1,z]))
    |odx ds'=>
     obtain⟨a',xs',g1,g2,g3,g4,g5,g6⟩:=f2;refine⟨a',xs',g1,g2,⟨g3,λz=>?_⟩,g4,g5,g6.move λb o e n=>⟨e,λz=>n z.1⟩⟩;exact ne (R.ow j i _ _ _ e' hi rfl ox f1 (by rw[hv,g1,z]))
  ow:=λj k y z u e1 e2 o1 o2 f1 f2=>by
   rcases eU e1 with⟨rfl,rfl⟩|⟨ne1,e1'⟩
   ·cases o1
   ·rcases eU e2 with⟨rfl,rfl⟩|⟨ne2,e2'⟩
    ·cases o2
    ·exact R.ow j k y z u e1' e2' o1 o2 f1 f2
  len:=by rw[B8];exact R.len}
theorem Rel.frz{n:Int}{i:Nat}{ds:List Ab}(R:Rel C H B σ δ n)(hi:δ[i]?=ae (ae (.own ds))):∃B',Rel C H B' σ (δ.set i (ae (.w (.d (.list ds))))) n:=by
 obtain⟨v,hv,a,xs,rfl,e2,e3,e4,e5,e6⟩:=R.sl i _ hi;exact⟨_,R.give hi rfl hv e4 (show RdX H _ (.ref a) (.list ds)from .lst e2 (λz=>z.2 rfl) e5 (e6.less λb z=>z.1)) rfl⟩
theorem Rel.frzK(R:Rel C H B σ δ n)(hi:δ[i]?=ae (ae (.odk m))):∃B',Rel C H B' σ (δ.set i (ae (.w (.ob (.k m))))) n:=by
 obtain⟨v,hv,a,xs,rfl,e2,e3,e4,e5,e6⟩:=R.sl i _ hi;exact⟨_,R.give hi rfl hv e4 ⟨a,xs,rfl,e2,λz=>z.2 rfl,e6.move λb o e n=>⟨e,λz=>n z.1⟩⟩ rfl⟩
theorem Rel.frzX(R:Rel C H B σ δ n)(hi:δ[i]?=ae (ae (.odx m))):∃B',Rel C H B' σ (δ.set i (ae (.w (.ob (.x m))))) n:=by
 obtain⟨v,hv,a,xs,rfl,e2,e3,e4,e5,e6⟩:=R.sl i _ hi;exact⟨_,R.give hi rfl hv e4 ⟨a,xs,rfl,e2,λz=>z.2 rfl,e6.move λb o e n=>⟨e,λz=>n z.1⟩⟩ rfl⟩
abbrev DQ:=Wv->Int->Prop
abbrev DT:=Sl->Int->DQ->Prop
abbrev bR:=Sl->Int->(Bool->Int->Prop)->Prop
abbrev cK:=Sl->Int->(List Wv->Int->Prop)->Prop
inductive ARel(H:Hp)(B:Addr->Prop)(t:Addr):List V->List Wv->Prop
 |nil:ARel H B t [] []
 |cons {v:V} {vs:List V} {x:Wv} {xs:List Wv}:WRel H B t v x->ARel H B t vs xs->ARel H B t (v::vs) (x::xs)
theorem ARel.kp(k:Kp t H H')(ht:B t):∀{vs:List V}{xs:List Wv},ARel H B t vs xs->ARel H' B t vs xs
 |_,_,.nil=>.nil
 |_,_,.cons a b=>.cons (a.kp k ht) (ARel.kp k ht b)
theorem ARel.len:∀{vs:List V}{xs:List Wv},ARel H B t vs xs->vs.length=xs.length
 |_,_,.nil=>rfl
 |_,_,.cons _ b=>by rw[Bf,Bf,ARel.len b]
def du(t:TE)(w:DT):Prop:=∀(C:Ctx)(H:Hp)(B:Addr->Prop)(σ:St)(δ:Sl)(n:Int)(Q:DQ)(Q':VK),Rel C H B σ δ n->w δ n Q->
 (∀v x H' n',Rel C H' B σ δ n'->Kp C.t H H'->WRel H' B C.t v x->Q x n'->Q' v H')->t σ H Q'
def gj(t:TT)(w:bR):Prop:=∀(C:Ctx)(H:Hp)(B:Addr->Prop)(σ:St)(δ:Sl)(n:Int)(Q:Bool->Int->Prop)(Q':Bool->Hp->Prop),Rel C H B σ δ n->w δ n Q->
 (∀b H' n',Rel C H' B σ δ n'->Kp C.t H H'->Q b n'->Q' b H')->t σ H Q'
def dz(t:TA)(w:cK):Prop:=∀(C:Ctx)(H:Hp)(B:Addr->Prop)(σ:St)(δ:Sl)(n:Int)(Q:List Wv->Int->Prop)(Q':List V->Hp->Prop),Rel C H B σ δ n->w δ n Q->
 (∀vs xs H' n',Rel C H' B σ δ n'->Kp C.t H H'->ARel H' B C.t vs xs->Q xs n'->Q' vs H')->t σ H Q'
abbrev fA:=Sl->Int->(List Ab->Int->Prop)->Prop
def kJ(t:TE)(w:fA):Prop:=∀(C:Ctx)(H:Hp)(B:Addr->Prop)(σ:St)(δ:Sl)(n:Int)(Q:List Ab->Int->Prop)(Q':VK),Rel C H B σ δ n->w δ n Q->
 (∀a xs ds H' n',Rel C H' B σ δ n'->Kp C.t H H'->H a=af->H' a=ae (.lst xs)->xs.length<=Ar->RdXs H' (λb=>B b\/b=a) xs ds->Q ds n'->Q' (.ref a) H')->t σ H Q'
structure DE(X:Cx)(e:Expr)(t:TE)(w:DT):Prop where
 pe:PE X e t
 sd:du t w
structure DC(X:Cx)(e:Expr)(t:TT)(w:bR):Prop where
 pt:PT X e t
 sd:gj t w
structure DCW(X:Cx)(e:Expr)(t:TT)(w:bR):Prop where
 pw:PW X e t
 sd:gj t w
structure DA(X:Cx)(es:List Expr)(t:TA)(w:cK):Prop where
 pa:PA X es t
 sd:dz t w
structure DF(X:Cx)(e:Expr)(t:TE)(w:fA):Prop where
 pe:PE X e t
 sd:kJ t w
variable{X:Cx}{a b c e:Expr}{ta tb tc te:TE}{wa wb wc we:DT}{pos:Pos}
def aj(i:Nat):DT:=λδ n Q=>match δ[i]? with
 |some (ae (.w x))=>Q x n
 |_=>False
theorem bf(i){p:Pos}(hN:X.N[i]?=ae x:=by rfl)(hv:fD X.env.scope x:=by first|exact By rfl|exact Ca (By rfl)|exact Ca (Ca rfl))(hd:(x==("__debug__":Str))=ai:=by decide)
  (hcd:(x==("__classdict__":Str))=ai:=by decide):DE X (.Name x p) (az i) (aj i):=⟨gC hN hv hd hcd,λC H B σ δ n Q Q' R h k=>by
 unfold aj at h
 split at h
 ·rename_i x e;obtain⟨v,h1,h2⟩:=R.sl i _ e;exact⟨v,h1,k v x H n R (Kp.refl _ _) h2.1 h⟩
 ·exact h.elim⟩
def wC(d:Ab):DT:=λ_ n Q=>Q (.d d) n
theorem l9(h:∀H B,RdX H B v d):du (tC v) (wC d):=λC H B σ δ n Q Q' R q k=>k v (.d d) H n R (Kp.refl _ _) (h H B) q
theorem jY{i j p}:DE X (.Constant (.int i) j p) (tC (.int i)) (wC (.int i)):=⟨cg,l9 λ_ _=>.int i⟩
theorem sS{i j p}:DE X (.Constant (.bool i) j p) (tC (.bl i)) (wC (.bool i)):=⟨Ri,l9 λ_ _=>.bl i⟩
theorem n8{j p}:DE X (.Constant .none j p) (tC .non) (wC .none):=⟨rV,l9 λ_ _=>.non⟩
theorem Um{x j p}(h:Str.length x<=Ar:=by decide +kernel):DE X (.Constant (.str x) j p) (tC (.str x)) (wC (.str x)):=⟨GG,l9 λ_ _=>.str x h⟩
theorem yR(hg:Gl X x)(hm:X.mg x=ae (.int i tk))(hd:(x==("__debug__":Str))=ai:=by decide):DE X (.Name x p) (tC (.int i)) (wC (.int i)):=⟨kf hg hm ⟨tk,rfl⟩ hd,l9 λ_ _=>.int i⟩
def w2(wa wb:DT)(g:Wv->Wv->Int->DQ->Prop):DT:=λδ n Q=>wa δ n λx n1=>wb δ n1 λy n2=>g x y n2 Q
def bb(r:R2)(g:Wv->Wv->Int->DQ->Prop):Prop:=∀(C:Ctx)(H:Hp)(B:Addr->Prop)(σ:St)(δ:Sl)(n:Int)(x y:V)(p q:Wv)(Q:DQ)(Q':VK),Rel C H B σ δ n->WRel H B C.t x p->WRel H B C.t y q->g p q n Q->
 (∀v x H' n',Rel C H' B σ δ n'->Kp C.t H H'->WRel H' B C.t v x->Q x n'->Q' v H')->r x y H Q'
theorem l8(hr:bb r g)(ha:du ta wa)(hb:du tb wb):du (cS r ta tb) (w2 wa wb g):=λC H B σ δ n Q Q' R h k=>
 ha C H B σ δ n _ _ R h λv x H1 n1 R1 k1 r1 q1=>hb C H1 B σ δ n1 _ _ R1 q1 λu y H2 n2 R2 k2 r2 q2=>
  hr C H2 B σ δ n2 v u x y Q Q' R2 (r1.kp k2 R1.bt) r2 q2 λz p H3 n3 R3 k3 r3 q3=>k z p H3 n3 R3 ((k1.trans k2).trans k3) r3 q3
theorem jl(ho:OpR X (Er op) r)(hr:bb r g)(ha:DE X a ta wa)(hb:DE X b tb wb):DE X (.BinOp a op b pos) (cS r ta tb) (w2 wa wb g):=
 ⟨dy ho ha.pe hb.pe,l8 hr ha.sd hb.sd⟩
theorem ma(ho:OpR X (Bu op) r)(hr:bb r g)(ha:DE X a ta wa)(hb:DE X b tb wb)(hm:Ci op b=ai):DE X (.Compare a [op] [b] pos) (cS r ta tb) (w2 wa wb g):=
 ⟨Rw ho ha.pe hb.pe hm,l8 hr ha.sd hb.sd⟩
def cT(w:DT):bR:=λδ n Q=>w δ n λx n'=>match x with
 |.d (.bool k)=>Q k n'
 |_=>False
theorem wd(h:RdX H B v d):WRel H B t v (.d d):=h
theorem k9(h:du t w):gj (fe t) (cT w):=λC H B σ δ n Q Q' R q k=>
 h C H B σ δ n _ _ R q λv x H' n' R' k' r' q'=>by
  split at q'
  ·rename_i b;cases(show RdX H' B v (.bool b)from r');exact⟨b,rfl,k b H' n' R' k' q'⟩
  ·exact q'.elim
theorem fg(ho:OpR X (Bu op) r)(hr:bb r g)(ha:DE X a ta wa)(hb:DE X b tb wb)(hm:Ci op b=ai):DC X (.Compare a [op] [b] pos) (fe (cS r ta tb)) (cT (w2 wa wb g)):=
 ⟨kU ho ha.pe hb.pe hm,k9 (l8 hr ha.sd hb.sd)⟩
theorem Oe(h:DE X e t w)(he:∀whole,isTrue e X.env whole=(do let v <-whole;standAt e.pos;holding [v] (truthy v)):=by intro _;rfl):DC X e (fe t) (cT w):=⟨Ub h.pe he,k9 h.sd⟩
def ia(x:Wv)(A B:Prop):Prop:=match x with
 |.d (.bool ah)=>A
 |.d (.bool ai)=>B
 |_=>False
theorem T9(b)(A B):ia (.d (.bool b)) A B=if b=ah then A else B:=by cases b<;>simp[ia]
def qg(g g':Wv->Wv->Int->DQ->Prop)(wa wb wc:DT):DT:=λδ n Q=>wa δ n λx n1=>wb δ n1 λy n2=>g x y n2 λz n3=>ia z (wc δ n3 λu n4=>g' y u n4 Q) (Q (.d (.bool ai)) n3)
theorem Rq(hr:bb r g)(hr':bb r' g')(ha:du ta wa)(hb:du tb wb)(hc:du tc wc):du (xj r r' ta tb tc) (qg g g' wa wb wc):=λC H B σ δ n Q Q' R h k=>
 ha C H B σ δ n _ _ R h λv x H1 n1 R1 k1 r1 q1=>hb C H1 B σ δ n1 _ _ R1 q1 λu y H2 n2 R2 k2 r2 q2=>
  hr C H2 B σ δ n2 v u x y _ _ R2 (r1.kp k2 R1.bt) r2 q2 λz p H3 n3 R3 k3 r3 q3=>by
   have k13:=(k1.trans k2).trans k3;unfold ia at q3
   split at q3
   ·cases(show RdX H3 B z (.bool ah)from r3);refine⟨ah,rfl,?_⟩;rw[if_pos rfl];exact hc C H3 B σ δ n3 _ _ R3 q3 λw0 x0 H4 n4 R4 k4 r4 q4=>hr' C H4 B σ δ n4 u w0 y x0 Q Q' R4 ((r2.kp k3 R2.bt).kp k4 R3.bt) r4 q4 λz p H5 n5 R5 k5 r5 q5=>k z p H5 n5 R5 ((k13.trans k4).trans k5) r5 q5
   ·cases(show RdX H3 B z (.bool ai)from r3);refine⟨ai,rfl,?_⟩;rw[if_neg Ak];exact k _ _ H3 n3 R3 k13 (wd (.bl ai)) q3
   ·exact q3.elim
theorem Kh(ho:OpR X (Bu op) r)(hr:bb r g)(ho':OpR X (Bu op') r')(hr':bb r' g')(ha:DE X a ta wa)(hb:DE X b tb wb)(hc:DE X c tc wc)
  (hm:lastMarks [op,op'] [b,c]=ai:=by with_unfolding_all rfl):DE X (.Compare a [op,op'] [b,c] pos) (xj r r' ta tb tc) (qg g g' wa wb wc):=⟨OT ho ho' ha.pe hb.pe hc.pe hm,Rq hr hr' ha.sd hb.sd hc.sd⟩
variable{tA tB':TT}{cA cB:bR}{rest:List Expr}
def gF(u v:bR):bR:=λδ n Q=>u δ n λb n1=>if b=ah then v δ n1 Q else Q ai n1
def rM(u v:bR):bR:=λδ n Q=>u δ n λb n1=>if b=ah then Q ah n1 else v δ n1 Q
def fM(u:bR):bR:=λδ n Q=>u δ n λb n1=>Q (!b) n1
theorem cw_and1(h:DC X a tA cA):DCW X (.BoolOp .And [a] pos) tA cA:=⟨zo h.pt,h.sd⟩
theorem cw_or1(h:DC X a tA cA):DCW X (.BoolOp .Or [a] pos) tA cA:=⟨LC h.pt,h.sd⟩
theorem cw_and(h:DC X a tA cA)(h2:DCW X (.BoolOp .And (b::rest) pos) tB' cB):DCW X (.BoolOp .And (a::b::rest) pos) (jw tA tB') (gF cA cB):=⟨ET h.pt h2.pw,λC H B σ δ n Q Q' R q k=>
 h.sd C H B σ δ n _ _ R q λb H1 n1 R1 k1 q1=>by
  cases b with
  |true=>
   rw[if_pos rfl]at q1 ⊢;exact h2.sd C H1 B σ δ n1 _ _ R1 q1 λb H2 n2 R2 k2 q2=>k b H2 n2 R2 (k1.trans k2) q2
  |false=>
   rw[if_neg Ak]at q1 ⊢;exact k ai H1 n1 R1 k1 q1⟩
theorem cw_or(h:DC X a tA cA)(h2:DCW X (.BoolOp .Or (b::rest) pos) tB' cB):DCW X (.BoolOp .Or (a::b::rest) pos) (yW tA tB') (rM cA cB):=⟨SU h.pt h2.pw,λC H B σ δ n Q Q' R q k=>
 h.sd C H B σ δ n _ _ R q λb H1 n1 R1 k1 q1=>by
  cases b with
  |true=>
   rw[if_pos rfl]at q1 ⊢;exact k ah H1 n1 R1 k1 q1
  |false=>
   rw[if_neg Ak]at q1 ⊢;exact h2.sd C H1 B σ δ n1 _ _ R1 q1 λb H2 n2 R2 k2 q2=>k b H2 n2 R2 (k1.trans k2) q2⟩
theorem DCW.cc(h:DCW X a tA cA):DC X a tA cA:=⟨h.pw.pt,h.sd⟩
theorem Of(h:DC X a tA cA):DC X (.UnaryOp .Not a pos) (nc tA) (fM cA):=⟨Sq h.pt,λC H B σ δ n Q Q' R q k=>h.sd C H B σ δ n _ _ R q λb H1 n1 R1 k1 q1=>k (!b) H1 n1 R1 k1 q1⟩
def eL(u v:DT):DT:=λδ n Q=>u δ n λx n1=>ia x (v δ n1 Q) (Q (.d (.bool ai)) n1)
def qA(u v:DT):DT:=λδ n Q=>u δ n λx n1=>ia x (Q (.d (.bool ah)) n1) (v δ n1 Q)
def kE(u:DT):DT:=λδ n Q=>u δ n λx n1=>match x with
 |.d (.bool b)=>Q (.d (.bool !b)) n1
 |_=>False
theorem Nn{op}(h:DE X a ta wa):DE X (.BoolOp op [a] pos) ta wa:=⟨Sw h.pe,h.sd⟩
theorem JE(h:DE X a ta wa)(h2:DE X (.BoolOp .And (b::rest) pos) tb wb):DE X (.BoolOp .And (a::b::rest) pos) (yG ta tb) (eL wa wb):=⟨M7 h.pe h2.pe,λC H B σ δ n Q Q' R q k=>
 h.sd C H B σ δ n _ _ R q λv x H1 n1 R1 k1 r1 q1=>by
  unfold ia at q1
  split at q1
  ·cases(show RdX H1 B v (.bool ah)from r1);refine⟨ah,rfl,?_⟩;rw[if_pos rfl];exact h2.sd C H1 B σ δ n1 _ _ R1 q1 λv x H2 n2 R2 k2 r2 q2=>k v x H2 n2 R2 (k1.trans k2) r2 q2
  ·cases(show RdX H1 B v (.bool ai)from r1);refine⟨ai,rfl,?_⟩;rw[if_neg Ak];exact k _ _ H1 n1 R1 k1 (wd (.bl ai)) q1
  ·exact q1.elim⟩
theorem xa(h:DE X a ta wa)(h2:DE X (.BoolOp .Or (b::rest) pos) tb wb):DE X (.BoolOp .Or (a::b::rest) pos) (oG ta tb) (qA wa wb):=⟨JQ h.pe h2.pe,λC H B σ δ n Q Q' R q k=>
 h.sd C H B σ δ n _ _ R q λv x H1 n1 R1 k1 r1 q1=>by
  unfold ia at q1
  split at q1
  ·cases(show RdX H1 B v (.bool ah)from r1);refine⟨ah,rfl,?_⟩;rw[if_pos rfl];exact k _ _ H1 n1 R1 k1 (wd (.bl ah)) q1
  ·cases(show RdX H1 B v (.bool ai)from r1);refine⟨ai,rfl,?_⟩;rw[if_neg Ak];exact h2.sd C H1 B σ δ n1 _ _ R1 q1 λv x H2 n2 R2 k2 r2 q2=>k v x H2 n2 R2 (k1.trans k2) r2 q2
  ·exact q1.elim⟩
theorem P1(h:DE X a ta wa):DE X (.UnaryOp .Not a pos) (zi ta) (kE wa):=⟨O6 h.pe,λC H B σ δ n Q Q' R q k=>
 h.sd C H B σ δ n _ _ R q λv x H1 n1 R1 k1 r1 q1=>by
  split at q1
  ·rename_i b;cases(show RdX H1 B v (.bool b)from r1);exact⟨b,rfl,k _ _ H1 n1 R1 k1 (wd (.bl _)) q1⟩
  ·exact q1.elim⟩
def eS(u:bR)(v w:DT):DT:=λδ n Q=>u δ n λb n1=>if b=ah then v δ n1 Q else w δ n1 Q
theorem QQ(h:DC X c tA cA)(h1:DE X a ta wa)(h2:DE X b tb wb):DE X (.IfExp c a b pos) (EG tA ta tb) (eS cA wa wb):=⟨Ke h.pt h1.pe h2.pe,λC H B σ δ n Q Q' R q k=>
 h.sd C H B σ δ n _ _ R q λb H1 n1 R1 k1 q1=>by
  cases b with
  |true=>
   rw[if_pos rfl]at q1 ⊢;exact h1.sd C H1 B σ δ n1 _ _ R1 q1 λv x H2 n2 R2 k2 r2 q2=>k v x H2 n2 R2 (k1.trans k2) r2 q2
  |false=>
   rw[if_neg Ak]at q1 ⊢;exact h2.sd C H1 B σ δ n1 _ _ R1 q1 λv x H2 n2 R2 k2 r2 q2=>k v x H2 n2 R2 (k1.trans k2) r2 q2⟩
variable{es:List Expr}{tR:TA}{wR:cK}
def ak:cK:=λ_ n Q=>Q [] n
def ao(w:DT)(r:cK):cK:=λδ n Q=>w δ n λx n1=>r δ n1 λxs n2=>Q (x::xs) n2
theorem dr:DA X [] aI ak:=⟨dC,λC H B σ δ n Q Q' R q k=>k [] [] H n R (Kp.refl _ _) .nil q⟩
theorem bF(h:DE X e te we)(hr:DA X es tR wR)(hs:Ap (e::es) X.env=(ai,eval e X.env)::Ap es X.env:=by rfl):DA X (e::es) (aM te tR) (ao we wR):=⟨bP h.pe hr.pa hs,λC H B σ δ n Q Q' R q k=>
 h.sd C H B σ δ n _ _ R q λv x H1 n1 R1 k1 r1 q1=>hr.sd C H1 B σ δ n1 _ _ R1 q1 λvs xs H2 n2 R2 k2 r2 q2=>k (v::vs) (x::xs) H2 n2 R2 (k1.trans k2) (.cons (r1.kp k2 R1.bt) r2) q2⟩
def iO:List Wv->Option (List Ab)
 |[]=>ae []
 |.d x::r=>(iO r).map (x::·)
 |_::_=>af
theorem ARel.plain:∀{vs:List V}{xs:List Wv}{ds:List Ab},ARel H B t vs xs->iO xs=ae ds->RdXs H B vs ds
 |_,_,_,.nil,h=>by
  cases h;exact .nil
 |_,_,ds,.cons (x:=x) (xs:=xs) a b,h=>by
  cases x with
  |d x=>
   have h':(iO xs).map (x::·)=ae ds:=h;cases e:iO xs with
   |none=>rw[e]at h';cases h'
   |some es=>
    rw[e]at h';cases h';exact .cons a (ARel.plain b e)
  |tp=>cases h
  |dk _=>cases h
  |dx _=>cases h
  |ln _=>cases h
  |ob _=>cases h
theorem RdXs.fresh(h:RdXs H B vs ds)(hp:H p=af):RdXs (upd H p o) (λb=>B b\/b=p) vs ds:=
 h.move λb o' e n=>⟨by rw[aD (aY e hp)];exact e,λz=>z.elim n λq=>aY e hp q⟩
def av(w:cK):DT:=λδ n Q=>w δ n λxs n1=>match iO xs with
 |some ds=>ds.length<=1000/\Q (.d (.tuple ds)) n1
 |none=>False
theorem rX{x1}(h:DA X es tR wR):DE X (.Tuple es x1 pos) (gG tR) (av wR):=⟨FH h.pa,λC H B σ δ n Q Q' R q k=>
 h.sd C H B σ δ n _ _ R q λvs xs H1 n1 R1 k1 r1 q1=>by
  split at q1
  ·rename_i ds e;have r:=r1.plain e;have hl:vs.length<=Ar:=by rw[r.len];exact small q1.1
   refine⟨hl,λp hp=>k _ _ _ n1 (R1.new hp) (k1.trans (Kp.new hp)) (wd (show RdX _ B (.ref p) (.tuple ds)from ?_)) q1.2⟩;exact .tup aR (R1.nb hp) hl ((r.fresh hp).less λb z=>.inl z)
  ·exact q1.elim⟩
def bL(w:cK):fA:=λδ n Q=>w δ n λxs n1=>match iO xs with
 |some ds=>ds.length<=1000/\Q ds n1
 |none=>False
theorem o6(h:DA X es tR wR):DF X (.List es pos) (iZ tR) (bL wR):=⟨sr h.pa,λC H B σ δ n Q Q' R q k=>
 h.sd C H B σ δ n _ _ R q λvs xs H1 n1 R1 k1 r1 q1=>by
  split at q1
  ·rename_i ds e;have r:=r1.plain e;have hl:vs.length<=Ar:=by rw[r.len];exact small q1.1
   have hn:∀p,H1 p=af->H p=af:=λp hp=>by
    cases q:H p with
    |none=>rfl
    |some o=>
     by_cases z:p=C.t
     ·subst z;obtain⟨_,_,h,_⟩:=R1.tp.ob;rw[h]at hp;cases hp
     ·rw[k1 p o q z]at hp;cases hp
   exact⟨hl,λp hp=>k p vs ds _ n1 (R1.new hp) (k1.trans (Kp.new hp)) (hn p hp) aR hl (r.fresh hp) q1.2⟩
  ·exact q1.elim⟩
def bU(w:fA):DT:=λδ n Q=>w δ n λds n1=>Q (.d (.list ds)) n1
theorem Ou(h:kJ t w):du t (bU w):=λC H B σ δ n Q Q' R q k=>
 h C H B σ δ n _ _ R q λa xs ds H' n' R' k' h0 h1 h2 h3 q'=>k _ _ H' n' R' k' (wd (show RdX H' B (.ref a) (.list ds)from .lst h1 (R.nb h0) h2 (h3.less λb z=>.inl z))) q'
theorem DF.d(h:DF X e t w):DE X e t (bU w):=⟨h.pe,Ou h.sd⟩
theorem Rel.was(R1:Rel C H1 B σ δ n1)(k1:Kp C.t H H1)(hp:H1 p=af):H p=af:=by
 cases q:H p with
 |none=>rfl
 |some o=>
  by_cases z:p=C.t
  ·subst z;obtain⟨_,_,h,_⟩:=R1.tp.ob;rw[h]at hp;cases hp
  ·rw[k1 p o q z]at hp;cases hp
abbrev aL:=List Wv->Int->DQ->Prop
def cu(S:aL):Sp:=λvs H Q _=>∃(t:Addr)(l:TL)(ns:List Int)(B:Addr->Prop)(ws:List Wv)(n:Int)(Q0:DQ),Tp H t l ns n/\B t/\(∀b,B b->H b≠af)/\ARel H B t vs ws/\S ws n Q0 /\
 ∀w n',Q0 w n'->∀v H',Tp H' t l ns n'->Kp t H H'->WRel H' B t v w->Q v H'
section
variable{X:Cx}{e:Expr}{es:List Expr}{pos p:Pos}{tR:TA}{wR:cK}
def aJ(S:aL)(w:cK):DT:=λδ n Q=>w δ n λxs n1=>S xs n1 Q
theorem Jm(h:dz t w):du (fH (cu S) [] E0 t) (aJ S w):=λC H B σ δ n Q Q' R q k=>
 h C H B σ δ n _ _ R q λvs xs H1 n1 R1 k1 r1 q1=>by
  refine⟨C.t,C.l,C.ns,B,xs,n1,Q,R1.tp,R1.bt,R1.ba,by rw[Cc];exact r1,q1,λw n' q2 v H' T' k' r'=>?_⟩;exact k v w H' n' (R1.step T' k') (k1.trans k') r' q2
theorem Jd(F:FnOk X.prog X.w X.K X.mg X.base cb k f fd ps (cu S))(hr:Room k X.A)(hg:Gl X x)(hm:X.mg x=ae (.ref f))(hk:Bx X.K (.ref f)=ah)(hb:Binds X.K fd ps [])
  (ha:DA X (e::es) tR wR) (hdb:(x==("__debug__":Str))=ai:=by decide) (he:Ap (e::es) X.env=(ai,eval e X.env)::Ap es X.env:=by rfl) (hpl:(Cy pos (Ap es X.env)).any (·.1)=ai:=by rfl):
  DE X (.Call (.Name x p) (e::es) [] pos) (fH (cu S) [] E0 tR) (aJ S wR):=⟨pQ F hr hg hm hk hb .nil ny ha.pa hdb he hpl,Jm ha.sd⟩
def cL(r:List V->Hp->VK->Prop)(g:List Wv->Int->DQ->Prop):Prop:=∀(C:Ctx)(H:Hp)(B:Addr->Prop)(σ:St)(δ:Sl)(n:Int)(vs:List V)(xs:List Wv)(Q:DQ)(Q':VK),Rel C H B σ δ n->ARel H B C.t vs xs->g xs n Q->
 (∀v x H' n',Rel C H' B σ δ n'->Kp C.t H H'->WRel H' B C.t v x->Q x n'->Q' v H')->r vs H Q'
def wB(g:List Wv->Int->DQ->Prop)(w:cK):DT:=λδ n Q=>w δ n λxs n1=>g xs n1 Q
theorem zm(hr:cL r g)(h:dz t w):du (eT r t) (wB g w):=λC H B σ δ n Q Q' R q k=>
 h C H B σ δ n _ _ R q λvs xs H1 n1 R1 k1 r1 q1=>hr C H1 B σ δ n1 vs xs Q Q' R1 r1 q1 λv x H2 n2 R2 k2 r2 q2=>k v x H2 n2 R2 (k1.trans k2) r2 q2
theorem i8{id:String}(hc:CallR X (.builtin id) r)(hr:cL r g)(hg:Gl X x)(hm:X.mg x=af)(hv:Bp x=ae (.builtin id))(ha:DA X (e::es) tR wR)(hn:x≠"__name__":=by decide)(hdb:(x==("__debug__":Str))=ai:=by decide)
  (he:Ap (e::es) X.env=(ai,eval e X.env)::Ap es X.env:=by rfl) (hpl:(Cy pos (Ap es X.env)).any (·.1)=ai:=by rfl):DE X (.Call (.Name x p) (e::es) [] pos) (eT r tR) (wB g wR):=⟨ju hc hg hm hv ha.pa hn hdb he hpl,zm hr ha.sd⟩
theorem GD(hc:CallR X (.type T) r)(hr:cL r g)(hg:Gl X x)(hm:X.mg x=af)(hv:Bp x=ae (.type T))(ha:DA X (e::es) tR wR)(hn:x≠"__name__":=by decide)(hdb:(x==("__debug__":Str))=ai:=by decide)
  (he:Ap (e::es) X.env=(ai,eval e X.env)::Ap es X.env:=by rfl) (hpl:(Cy pos (Ap es X.env)).any (·.1)=ai:=by rfl):DE X (.Call (.Name x p) (e::es) [] pos) (eT r tR) (wB g wR):=⟨nj hc hg hm hv ha.pa hn hdb he hpl,zm hr ha.sd⟩
end
structure DEnds where
 nx:Sl->Int->Prop
 rt:DQ
 bk:Sl->Int->Prop:=λ_ _=>False
 ct:Sl->Int->Prop:=λ_ _=>False
 rn:List Ab->Int->Prop:=λ_ _=>False
 rx:List (TK×Ab)->Int->Prop:=λ_ _=>False
abbrev aF:=Sl->Int->DEnds->Prop
structure EndsOk(C:Ctx)(K:DEnds)(D:Ends):Prop where
 nx:∀H B σ δ n,Rel C H B σ δ n->K.nx δ n->D.nx σ H
 rt:∀H B σ δ n v w,Rel C H B σ δ n->WRel H B C.t v w->K.rt w n->D.rt v H
 bk:∀H B σ δ n,Rel C H B σ δ n->K.bk δ n->D.bk σ H
 ct:∀H B σ δ n,Rel C H B σ δ n->K.ct δ n->D.ct σ H
 rn:∀H B σ δ n a xs ds,Rel C H B σ δ n->C.H0 a=af->H a=ae (.lst xs)->xs.length<=Ar->RdXs H (λb=>B b\/b=a) xs ds->K.rn ds n->D.rt (.ref a) H
 rx:∀H B σ δ n a l kvs,Rel C H B σ δ n->C.H0 a=af->H a=ae (.dX l)->l.length<=2000->RdY H (λb=>B b\/b=a) l kvs->K.rx kvs n->D.rt (.ref a) H
def i9(T:TS)(W:aF):Prop:=∀(C:Ctx)(H:Hp)(B:Addr->Prop)(σ:St)(δ:Sl)(n:Int)(K:DEnds)(D:Ends),Rel C H B σ δ n->W δ n K->EndsOk C K D->T D σ H
structure DS(X:Cx)(st:Stmt)(T:TS)(W:aF):Prop where
 ps:PS X st T
 sd:i9 T W
structure DSs(X:Cx)(st:List Stmt)(T:TS)(W:aF):Prop where
 ps:PSs X st T
 sd:i9 T W
section
variable{X:Cx}{st:Stmt}{rest:List Stmt}{T U:TS}{W V':aF}{e:Expr}{te:TE}{we:DT}{pos:Pos}
def aN:aF:=λδ n K=>K.nx δ n
def aq(W V:aF):aF:=λδ n K=>W δ n {K with nx:=λδ n=>V δ n K}
theorem uo:DSs X [] ph aN:=⟨qj,λC H B σ δ n K D R h E=>E.nx H B σ δ n R h⟩
theorem gV(h:DS X st T W)(h2:DSs X rest U V'):DSs X (st::rest) (fi T U) (aq W V'):=⟨f9 h.ps h2.ps,λC H B σ δ n K D R q E=>
 h.sd C H B σ δ n _ _ R q ⟨λH B σ δ n R q=>h2.sd C H B σ δ n K D R q E,E.rt,E.bk,E.ct,E.rn,E.rx⟩⟩
theorem fW(h:DS X st T W):DSs X [st] T W:=⟨ft h.ps,h.sd⟩
def aw(w:DT):aF:=λδ n K=>w δ n K.rt
theorem uM(h:DE X e te we):DS X (.Return (ae e) pos) (fJ te) (aw we):=⟨iQ h.pe,λC H B σ δ n K D R q E=>
 h.sd C H B σ δ n _ _ R q λv x H' n' R' _ r' q'=>E.rt H' B σ δ n' v x R' r' q'⟩
def aV(c:bR)(W V:aF):aF:=λδ n K=>c δ n λb n1=>if b=ah then W δ n1 K else V δ n1 K
theorem gM{a b:List Stmt}{tc:TT}(hc:DC X c tc cc)(ha:DSs X a T W)(hb:DSs X b U V'):DS X (.If c a b pos) (eQ tc T U) (aV cc W V'):=⟨lG hc.pt ha.ps hb.ps,λC H B σ δ n K D R q E=>
 hc.sd C H B σ δ n _ _ R q λb H1 n1 R1 _ q1=>by
  cases b with
  |true=>
   rw[if_pos rfl]at q1 ⊢;exact ha.sd C H1 B σ δ n1 K D R1 q1 E
  |false=>
   rw[if_neg Ak]at q1 ⊢;exact hb.sd C H1 B σ δ n1 K D R1 q1 E⟩
def aA(i:Nat)(w:DT):aF:=λδ n K=>w δ n λx n1=>match x with
 |.d d=>K.nx (δ.set i (ae (.w (.d d)))) n1
 |.tp=>K.nx (δ.set i (ae (.w .tp))) n1
 |.dk _=>False
 |.dx _=>False
 |.ln _=>False
 |.ob o=>K.nx (δ.set i (ae (.w (.ob o)))) n1
theorem iR(hN:X.N.Nodup)(hi:X.N[i]?=ae x)(hx:gw X.env.scope x)(he:DE X e te we)(hs:Dp e (ae (.Name x pos')) pos.line X.env=pure ai:=by rfl)(hf:X.fn x=ah\/X.env.scope.names.lookup x=ae .local:=by first|exact .inl rfl|exact .inr rfl|assumption):
  DS X (.Assign [.Name x pos'] e pos) (aW te (cv i)) (aA i we):=⟨dZ hN hi hx he.pe hs hf,λC H B σ δ n K D R q E=>
 he.sd C H B σ δ n _ _ R q λv x H1 n1 R1 _ r1 q1=>by
  cases x with
  |d d=>exact E.nx _ _ _ _ _ (R1.set r1 rfl) q1
  |tp=>exact E.nx _ _ _ _ _ (R1.set r1 rfl) q1
  |dk _=>exact q1.elim
  |dx _=>exact q1.elim
  |ln _=>exact q1.elim
  |ob o=>exact E.nx _ _ _ _ _ (R1.set r1 rfl) q1⟩
def fR(i:Nat)(w:fA):aF:=λδ n K=>w δ n λds n1=>K.nx (δ.set i (ae (.own ds))) n1
theorem Rel.h0{a:Addr}(R:Rel C H B σ δ n)(h:H a=af):C.H0 a=af:=R.was R.kp h
theorem tD(hN:X.N.Nodup)(hi:X.N[i]?=ae x)(hx:gw X.env.scope x)(he:DF X e te w)(hs:Dp e (ae (.Name x pos')) pos.line X.env=pure ai:=by rfl)(hf:X.fn x=ah\/X.env.scope.names.lookup x=ae .local:=by first|exact .inl rfl|exact .inr rfl|assumption):
  DS X (.Assign [.Name x pos'] e pos) (aW te (cv i)) (fR i w):=⟨dZ hN hi hx he.pe hs hf,λC H B σ δ n K D R q E=>
 he.sd C H B σ δ n _ _ R q λa xs ds H1 n1 R1 k1 h0 h1 h2 h3 q1=>by
  refine E.nx _ _ _ _ _ (R.own R1 k1 h0 (by rw[h1];exact λz=>nomatch z) rfl ?_) q1;exact⟨a,xs,rfl,h1,.inr rfl,R.h0 h0,h2,h3⟩⟩
def iq(i:Nat)(W:aF):aF:=λδ n K=>match δ[i]? with
 |some (ae (.own ds))=>W (δ.set i (ae (.w (.d (.list ds))))) n K
 |some (ae (.odk m))=>W (δ.set i (ae (.w (.ob (.k m))))) n K
 |some (ae (.odx m))=>W (δ.set i (ae (.w (.ob (.x m))))) n K
 |_=>W δ n K
theorem Rj(i)(h:DSs X sts T W):DSs X sts T (iq i W):=⟨h.ps,λC H B σ δ n K D R q E=>by
 unfold iq at q
 split at q
 ·rename_i ds e;obtain⟨B',R'⟩:=R.frz e;exact h.sd C H B' σ _ n K D R' q E
 ·rename_i m e;obtain⟨B',R'⟩:=R.frzK e;exact h.sd C H B' σ _ n K D R' q E
 ·rename_i m e;obtain⟨B',R'⟩:=R.frzX e;exact h.sd C H B' σ _ n K D R' q E
 ·exact h.sd C H B σ δ n K D R q E⟩
def fB(i:Nat)(w:DT):aF:=λδ n K=>match δ[i]? with
 |some (ae (.own ds))=>w δ n λx n1=>match x with
  |.d d=>ds.length < 1000000/\K.nx (δ.set i (ae (.own (ds++[d])))) n1
  |_=>False
 |_=>False
theorem FP(h:n < 1000000):n < Ar:=Nat.lt_trans h ∎
theorem HU{xp ap cp:Pos}(hN:X.N[i]?=ae x)(he:DE X e te we)(hv:fD X.env.scope x:=by first|exact By rfl|exact Ca (By rfl)|exact Ca (Ca rfl))(hd:(x==("__debug__":Str))=ai:=by decide)
  (hcd:(x==("__classdict__":Str))=ai:=by decide)
  (hbase:attributeBase (.Name x xp) "append" X.env (eval (.Name x xp) X.env)=eval (.Name x xp) X.env:=by rfl)
  (hfew:((Cy cp (Ap [e] X.env)).all (λx=>!x.1)&&(backToKw cp (keywordEach [] X.env)).all (λx=>x.1.isSome)
   && decide ([e].length+([]:List Keyword).length+(if ([]:List Keyword).isEmpty then 0 else 1) < 30))=ah:=by rfl)
  (hline:(ap.endLine==cp.line)=ah:=by rfl) (hs:Ap [e] X.env=[(ai,eval e X.env)]:=by rfl) (hplain:(Cy cp (Ap [] X.env)).any (·.1)=ai:=by rfl)
  (hsw:Dp (.Call (.Attribute (.Name x xp) "append" ap) [e] [] cp) af pos.line X.env=pure ai:=by rfl):
  DS X (.Expr (.Call (.Attribute (.Name x xp) "append" ap) [e] [] cp) pos) (xA (tM X.K "list" uU (az i) (aM te aI))) (fB i we):=
 ⟨U1 (KJ PySem.F.plainAttrs_list PySem.F.slot_list_append PySem.F.type_list_append tU (gC hN hv hd hcd) (bP he.pe dC hs) hbase hfew hline hs hplain) hsw,λC H B σ δ n K D R q E=>by
  unfold fB at q
  split at q
  ·rename_i ds ei;obtain⟨v,hv,a,xs,rfl,e2,e3,e4,e5,e6⟩:=R.sl i _ ei;refine⟨_,hv,.inl ⟨rfl,_,SqL.of e2⟩,he.sd C H B σ δ n _ _ R q λu y H1 n1 R1 k1 r1 q1=>?_⟩;cases y with
   |d d=>
    have hat:a≠C.t:=λz=>R.t0 (z▸e4);have e2':=k1 _ _ e2 hat;refine⟨a,xs,u,rfl,rfl,e2',FP (by rw[e6.len];exact q1.1),?_⟩;refine E.nx _ _ _ _ _ (R1.mutOwn ei rfl hv e3 e4 ?_ rfl) q1.2;refine⟨a,xs++[u],rfl,aR,e3,e4,?_,?_⟩
    ·rw[A2,e6.len];exact FP q1.1
    ·refine RdXs.keep (λb o e n=>?_) ((e6.kp k1 R.bt).append (.cons r1 .nil));rw[aD λ(z:b=a)=>n (z▸e3)];exact e
   |tp=>exact q1.elim
   |dk _=>exact q1.elim
   |dx _=>exact q1.elim
   |ln _=>exact q1.elim
   |ob _=>exact q1.elim
  ·exact q.elim⟩
end
def cO(N:List Str)(ws:List Wv):Sl:=ws.map (λx=>ae (.w x))++Ay (N.length-ws.length) af
def c7(S:aL)(W:aF)(N:List Str):Prop:=∀ws n Q,S ws n Q->W (cO N ws) n {nx:=λ_ n=>Q (.d .none) n,rt:=Q}
theorem ARel.get:∀{vs:List V}{xs:List Wv}{i:Nat}{x:Wv},ARel H B t vs xs->xs[i]?=ae x->∃v,vs[i]?=ae v/\WRel H B t v x
 |_,_,_,_,.nil,e=>by simp at e
 |_,_,0,_,.cons h _,e=>by
  simp at e;subst e;exact⟨_,rfl,h⟩
 |_,_,i+1,x,.cons _ r,e=>by
  obtain⟨v,h1,h2⟩:=ARel.get (i:=i) (x:=x) r (by simpa using e);exact⟨v,by simpa using h1,h2⟩
theorem sO(T:Tp H t l ns n)(bt:B t)(ba:∀b,B b->H b≠af)(r:ARel H B t vs ws):Rel ⟨t,l,ns,H,B,λ_=>af⟩ H B (L2.start N vs) (cO N ws) n where
 tp:=T
 kp:=Kp.refl _ _
 t0:=by
  obtain⟨_,_,h,_⟩:=T.ob;show H t≠af;rw[h];exact λz=>nomatch z
 l0:=by
  show H l.s≠af;rw[T.ls];exact λz=>nomatch z
 g0:=λe=>by
  show H l.g≠af;rw[T.ag e];exact λz=>nomatch z
 fz:=λb o e=>nomatch e
 bt:=bt
 b0:=λ_ z=>z
 ba:=ba
 a0:=ba
 sl:=λi x e=>by
  have hl:=r.len;unfold cO at e;rw[List.getElem?_append]at e
  split at e
  ·rename_i hi;rw[Ad]at hi;rw[Aq]at e;cases q:ws[i]? with
   |none=>rw[q]at e;cases e
   |some y=>
    rw[q]at e;cases e;obtain⟨v,h1,h2⟩:=r.get q;refine⟨v,?_,h2,λz=>?_⟩
    ·unfold L2.start;rw[D0 (by rw[Ad,hl];exact hi),Aq,h1];rfl
    ·cases y with
     |d _=>cases z
     |tp=>cases z
     |dk _=>
      obtain⟨a,l',f1,f2,_⟩:=h2;exact⟨a,f1,by show H a≠af;rw[f2];exact λz=>nomatch z⟩
     |dx _=>
      obtain⟨a,l',f1,f2,_⟩:=h2;exact⟨a,f1,by show H a≠af;rw[f2];exact λz=>nomatch z⟩
     |ln _=>
      obtain⟨a,l',f1,f2,_⟩:=h2;exact⟨a,f1,by show H a≠af;rw[f2];exact λz=>nomatch z⟩
     |ob _=>cases z
  ·rw[Cq]at e
   split at e
   ·cases e
   ·cases e
 ow:=λi j x y v e1 e2 o1 o2 _ _=>by
  unfold cO at e1;rw[List.getElem?_append]at e1
  split at e1
  ·rw[Aq]at e1;cases q:ws[i]? with
   |none=>rw[q]at e1;cases e1
   |some y=>
    rw[q]at e1;cases e1;cases o1
  ·rw[Cq]at e1
   split at e1
   ·cases e1
   ·cases e1
 len:=by
  unfold L2.start cO;rw[A2,A2,Ad,Ad,Fn,Fn,r.len]
section
variable{P:A7}{w:Bi}{K:Af}{mg:Str->Option Ae}{base:Heap}
theorem Fun.okD(F:Fun K x qual st f fd)(Sc:FnScope N ps (bw st))(len:∀ws n Q,S ws n Q->ws.length=ps.length)
  (hbody:∀(cdv:Ae)(A:Br)(outer:List Env)(s:Ai)(H:Hp)(E:XK),Room k (A.deeper (Cu qual (bw st) s.heap.objs.size f cdv))->
   ∃T W,DSs (bz cb P w K mg base N qual (bw st) f cdv A outer s H E).nox (eR st) T W/\∀ws n Q,S ws n Q->W (cO N ws) n {nx:=λ_ n=>Q (.d .none) n,rt:=Q}):FnOk P w K mg base cb (k+1) f fd ps (cu S):=by
 refine F.ok Sc (λvs H Q E h=>?_) (λcdv A outer s H vs Q E hr h=>?_)
 ·obtain⟨t,l,ns,B,ws,n,Q0,_,_,_,r,q,_⟩:=h;rw[r.len];exact len ws n Q0 q
 ·obtain⟨t,l,ns,B,ws,n,Q0,T,bt,ba,r,q,kk⟩:=h;obtain⟨T',W,d,hw⟩:=hbody cdv A outer s H E hr;refine⟨T',d.ps,d.sd ⟨t,l,ns,H,B,λ_=>af⟩ H B _ _ n _ _ (sO T bt ba r) (hw ws n Q0 q) ⟨?_,?_,?_,?_,λ_ _ _ _ _ _ _ _ _ _ _ _ _ z=>z.elim,λ_ _ _ _ _ _ _ _ _ _ _ _ _ z=>z.elim⟩⟩
  ·exact λH' B' σ δ n' R' q'=>kk _ _ q' .non H' R'.tp R'.kp (show RdX H' B .non .none from .non)
  ·exact λH' B' σ δ n' v x R' r' q'=>kk _ _ q' v H' R'.tp R'.kp (r'.less R'.b0)
  ·exact λ_ _ _ _ _ _ z=>z.elim
  ·exact λ_ _ _ _ _ _ z=>z.elim
end
section
variable{X:Cx}{a b c e:Expr}{ta tb tc te:TE}{wa wb wc we:DT}{pos p:Pos}
def gI(Cd:Int->Int->Prop)(f:Int->Int->Ab):Wv->Wv->Int->DQ->Prop:=λx y n Q=>match x,y with
 |.d (.int i),.d (.int j)=>Cd i j/\Q (.d (f i j)) n
 |_,_=>False
theorem KU(h:∀i j H B,RdX H B (g i j) (f i j)):bb (rI Cd g) (gI Cd f):=λC H B σ δ n x y p q Q Q' R rx ry h1 k=>by
 unfold gI at h1
 split at h1
 ·rename_i i j;cases(show RdX H B x (.int i)from rx);cases(show RdX H B y (.int j)from ry);exact⟨i,j,rfl,rfl,h1.1,k _ _ H n R (Kp.refl _ _) (wd (h i j H B)) h1.2⟩
 ·exact h1.elim
def fF(f:Int->Int->Ab):Wv->Wv->Int->DQ->Prop:=λx y n Q=>match x,y with
 |.d (.int i),.d (.int j)=>Q (.d (f i j)) n
 |_,_=>False
theorem BN(h:∀i j H B,RdX H B (g i j) (f i j)):bb (e9 g) (fF f):=λC H B σ δ n x y p q Q Q' R rx ry h1 k=>by
 unfold fF at h1
 split at h1
 ·rename_i i j;cases(show RdX H B x (.int i)from rx);cases(show RdX H B y (.int j)from ry);exact⟨i,j,rfl,rfl,k _ _ H n R (Kp.refl _ _) (wd (h i j H B)) h1⟩
 ·exact h1.elim
theorem PJ(ha:DE X a ta wa)(hb:DE X b tb wb):DE X (.BinOp a .Sub b pos) (cS (e9 λi j=>.int (i-j)) ta tb) (w2 wa wb (fF λi j=>.int (i-j))):=jl Jj (BN λ_ _ _ _=>.int _) ha hb
theorem PF(ha:DE X a ta wa)(hb:DE X b tb wb):DE X (.BinOp a .Mult b pos) (cS (rI CMul λi j=>.int (i*j)) ta tb) (w2 wa wb (gI CMul λi j=>.int (i*j))):=jl lB (KU λ_ _ _ _=>.int _) ha hb
def jg(w:DT):DT:=λδ n Q=>w δ n λx n1=>match x with
 |.d (.int i)=>Q (.d (.int (-i))) n1
 |_=>False
theorem K8(ha:DE X a ta wa):DE X (.UnaryOp .USub a pos) (yt (rU λi=>.int (-i)) ta) (jg wa):=⟨SG Qx ha.pe,λC H B σ δ n Q Q' R q k=>ha.sd C H B σ δ n _ _ R q λv x H1 n1 R1 k1 r1 q1=>by
 split at q1
 ·rename_i i;cases(show RdX H1 B v (.int i)from r1);exact⟨i,rfl,k _ _ H1 n1 R1 k1 (wd (.int _)) q1⟩
 ·exact q1.elim⟩
def kr:Wv->Wv->Int->DQ->Prop:=λx y n Q=>match x,y with
 |.d (.int i),.d (.int j)=>Q (.d (.int (i+j))) n
 |.d (.str i),.d (.str j)=>i.length+j.length<=Ar/\Q (.d (.str (i++j))) n
 |.d (.tuple i),.d (.tuple j)=>(i≠[]\/j≠[])/\i.length+j.length<=Ar/\Q (.d (.tuple (i++j))) n
 |.d (.list i),.d (.list j)=>i.length+j.length<=Ar/\Q (.d (.list (i++j))) n
 |_,_=>False
def sJ(K:Af):R2:=λx y H Q=>(e9 λi j=>.int (i+j)) x y H Q\/(∃i j,x=.str i/\y=.str j/\i.length+j.length<=Ar/\Q (.str (i++j)) H)\/zP K x y H Q\/HZ K x y H Q\/oH x y H Q
theorem op_addA:OpR X (Er .Add) (sJ X.K):=
 op_add.or (op_add_str.or (op_catA.or (op_catT.or SO)))
theorem PU(i j:Str):(i++j).length=i.length+j.length:=Array.size_append
theorem MO:bb (sJ K) kr:=λC H B σ δ n x y p q Q Q' R rx ry h1 k=>by
 unfold kr at h1
 split at h1
 ·rename_i i j;cases(show RdX H B x (.int i)from rx);cases(show RdX H B y (.int j)from ry);exact .inl ⟨i,j,rfl,rfl,k _ _ H n R (Kp.refl _ _) (wd (.int _)) h1⟩
 ·rename_i i j;cases(show RdX H B x (.str i)from rx);cases(show RdX H B y (.str j)from ry);exact .inr (.inl ⟨i,j,rfl,rfl,h1.1,k _ _ H n R (Kp.refl _ _) (wd (show RdX H B _ (.str (i++j))from .str _ (by rw[PU];exact h1.1))) h1.2⟩)
 ·rename_i i j;cases(show RdX H B x (.tuple i)from rx)with
  |@tup ax xs _ e1 e2 e3 e4=>
   cases(show RdX H B y (.tuple j)from ry)with
   |@tup ay ys _ f1 f2 f3 f4=>
    obtain⟨ne,hl,q⟩:=h1;have hl':xs.length+ys.length<=Ar:=by rw[e4.len,f4.len];exact hl
    have new:∀pn,H pn=af->Q' (.ref pn) (upd H pn (.tup (xs++ys))):=λpn hp=>by
     refine k _ _ _ n (R.new hp) (Kp.new hp) (wd (show RdX _ B _ (.tuple (i++j))from .tup aR (R.nb hp) (by rw[A2];exact hl') ?_)) q;exact((e4.append f4).fresh hp).less λb z=>.inl z
    by_cases hy:ys=[]
    ·have hx:xs≠[]:=λz=>by
      subst hy z;cases e4;cases f4;exact ne.elim (λq=>q rfl) λq=>q rfl
     refine .inr (.inr (.inr (.inl ⟨ax,ay,xs,ys,rfl,rfl,SqT.of e1,SqT.of f1,hx,hl',λ_=>?_,λ_=>new⟩)));subst hy;cases f4;rw[Cc]at q;exact k _ _ H n R (Kp.refl _ _) (wd (show RdX H B _ (.tuple i)from .tup e1 e2 e3 e4)) q
    ·refine .inr (.inr (.inl ⟨ax,ay,xs,ys,rfl,rfl,SqT.of e1,SqT.of f1,hy,hl',λz=>?_,λ_=>new⟩));subst z;cases e4;exact k _ _ H n R (Kp.refl _ _) (wd (show RdX H B _ (.tuple j)from .tup f1 f2 f3 f4)) q
 ·rename_i i j;cases(show RdX H B x (.list i)from rx)with
  |@lst ax xs _ e1 e2 e3 e4=>
   cases(show RdX H B y (.list j)from ry)with
   |@lst ay ys _ f1 f2 f3 f4=>
    obtain⟨hl,q⟩:=h1;have hl':xs.length+ys.length<=Ar:=by rw[e4.len,f4.len];exact hl
    refine .inr (.inr (.inr (.inr ⟨ax,ay,xs,ys,rfl,rfl,e1,f1,hl',λpn hp=>?_⟩)));refine k _ _ _ n (R.new hp) (Kp.new hp) (wd (show RdX _ B _ (.list (i++j))from .lst aR (R.nb hp) (by rw[A2];exact hl') ?_)) q;exact((e4.append f4).fresh hp).less λb z=>.inl z
 ·exact h1.elim
def gu(f:Int->Int->Bool)(h:List Nat->List Nat->Bool):Wv->Wv->Int->DQ->Prop:=λx y n Q=>match x,y with
 |.d (.int i),.d (.int j)=>Q (.d (.bool (f i j))) n
 |.d (.str i),.d (.str j)=>Q (.d (.bool (h i.cps.toList j.cps.toList))) n
 |_,_=>False
theorem si:bb (λx y H Q=>(e9 λi j=>.bl (f i j)) x y H Q\/∃i j,x=.str i/\y=.str j/\Q (.bl (h i.cps.toList j.cps.toList)) H) (gu f h):=λC H B σ δ n x y p q Q Q' R rx ry h1 k=>by
 unfold gu at h1
 split at h1
 ·rename_i i j;cases(show RdX H B x (.int i)from rx);cases(show RdX H B y (.int j)from ry);exact .inl ⟨i,j,rfl,rfl,k _ _ H n R (Kp.refl _ _) (wd (.bl _)) h1⟩
 ·rename_i i j;cases(show RdX H B x (.str i)from rx);cases(show RdX H B y (.str j)from ry);exact .inr ⟨i,j,rfl,rfl,k _ _ H n R (Kp.refl _ _) (wd (.bl _)) h1⟩
 ·exact h1.elim
theorem JO:OpR X (Bu .GtE) (λx y H Q=>∃i j,x=.str i/\y=.str j/\Q (.bl (!decide (i.cps.toList < j.cps.toList))) H):=by
 intro pins s σ H x y v u Q I rx ry h;obtain⟨i,j,rfl,rfl,q⟩:=h;obtain⟨t,rfl⟩:=rx;obtain⟨t',rfl⟩:=ry;exact P.ge_str (b7 I q rfl)
abbrev mG:=gu (λi j=>decide (i < j)) (λi j=>decide (i < j))
abbrev mz:=gu (λi j=>decide (i<=j)) (λi j=>!decide (j < i))
abbrev lH:=gu (λi j=>decide (j < i)) (λi j=>decide (j < i))
abbrev vZ:=gu (λi j=>decide (j<=i)) (λi j=>!decide (i < j))
def nt:R2:=λx y H Q=>(e9 λi j=>.bl (decide (i < j))) x y H Q\/∃i j,x=.str i/\y=.str j/\Q (.bl (decide (i.cps.toList < j.cps.toList))) H
theorem NU:OpR X (Bu .Lt) nt:=op_lt.or UR
def oA:R2:=λx y H Q=>(e9 λi j=>.bl (decide (i<=j))) x y H Q\/∃i j,x=.str i/\y=.str j/\Q (.bl (!decide (j.cps.toList < i.cps.toList))) H
theorem AM:OpR X (Bu .LtE) oA:=op_le.or Ox
def oV:R2:=λx y H Q=>(e9 λi j=>.bl (decide (j < i))) x y H Q\/∃i j,x=.str i/\y=.str j/\Q (.bl (decide (j.cps.toList < i.cps.toList))) H
theorem K3:OpR X (Bu .Gt) oV:=op_gt.or Jr
def pL:R2:=λx y H Q=>(e9 λi j=>.bl (decide (j<=i))) x y H Q\/∃i j,x=.str i/\y=.str j/\Q (.bl (!decide (i.cps.toList < j.cps.toList))) H
theorem NT:OpR X (Bu .GtE) pL:=op_ge.or JO
theorem Uk:bb nt mG:=si (f:=λi j=>decide (i < j)) (h:=λi j=>decide (i < j))
theorem EY:bb oA mz:=si (f:=λi j=>decide (i<=j)) (h:=λi j=>!decide (j < i))
theorem Lw:bb oV lH:=si (f:=λi j=>decide (j < i)) (h:=λi j=>decide (j < i))
theorem Q2:bb pL vZ:=si (f:=λi j=>decide (j<=i)) (h:=λi j=>!decide (i < j))
def iC:Ab->Ab->Option Bool
 |.none,.none=>ae ah
 |.none,.int _=>ae ai
 |.int _,.none=>ae ai
 |.none,.bool _=>ae ai
 |.bool _,.none=>ae ai
 |.none,.str _=>ae ai
 |.str _,.none=>ae ai
 |.int i,.int j=>ae (decide (i=j))
 |.bool i,.bool j=>ae (decide (i=j))
 |.str i,.str j=>ae (decide (i=j))
 |.int _,.str _=>ae ai
 |.str _,.int _=>ae ai
 |.bool _,.str _=>ae ai
 |.str _,.bool _=>ae ai
 |.list _,.str _=>ae ai
 |.tuple _,.str _=>ae ai
 |.dict _,.str _=>ae ai
 |.list xs,.list []=>ae xs.isEmpty
 |_,_=>af
def qV:R2:=λx y H Q=>∃d h B,RdX H B x d/\y=.str h/\Q (.bl (cY h d)) H
theorem vO(x y):decide (V.str x=V.str y)=decide (x=y):=by
 by_cases z:x=y
 ·rw[z,decide_eq_true rfl,decide_eq_true rfl]
 ·rw[decide_eq_false z,decide_eq_false λw=>z (V.str.inj w)]
theorem GL(x y):decide (V.int x=V.int y)=decide (x=y):=by
 by_cases z:x=y
 ·rw[z,decide_eq_true rfl,decide_eq_true rfl]
 ·rw[decide_eq_false z,decide_eq_false λw=>z (V.int.inj w)]
theorem AB(x y):decide (V.bl x=V.bl y)=decide (x=y):=by
 by_cases z:x=y
 ·rw[z,decide_eq_true rfl,decide_eq_true rfl]
 ·rw[decide_eq_false z,decide_eq_false λw=>z (V.bl.inj w)]
theorem O9(hu:X.A.units < Dj):OpR X (Bu .Eq) qV:=by
 intro pins s σ H x y v u Q I rx ry h;obtain⟨d,hh,B,hd,rfl,q⟩:=h;cases hd with
 |non=>exact op_eq pins s σ H _ _ v u Q I rx ry ⟨rfl,q⟩
 |bl b=>exact op_eq pins s σ H _ _ v u Q I rx ry ⟨rfl,q⟩
 |int i=>exact op_eq pins s σ H _ _ v u Q I rx ry ⟨rfl,q⟩
 |str x hx=>
  refine op_eq pins s σ H _ _ v u Q I rx ry ⟨rfl,?_⟩;rw[vO];exact q
 |@lst a xs ds h1 h2 h3 h4=>
  cases(show v=As a from rx);obtain⟨t,rfl⟩:=(show ∃t,u=Gy hh t from ry);obtain⟨its,_,p,_⟩:=I.list (SqL.of (K:=X.K) h1);exact PySem.SeqAt.RcAt.list_str hh t p.isList hu _ _ _ _ ⟨.bl ai,H,I,rfl,q⟩
 |@tup a xs ds h1 h2 h3 h4=>
  cases(show v=As a from rx);obtain⟨t,rfl⟩:=(show ∃t,u=Gy hh t from ry);obtain⟨its,_,p,_⟩:=I.tuple (SqT.of (K:=X.K) h1);exact PySem.SeqAt.RcAt.tuple_str hh t (show s.heap.IsTuple a its.toArray from p) hu _ _ _ _ ⟨.bl ai,H,I,rfl,q⟩
def bM:Wv->Wv->Int->DQ->Prop:=λx y n Q=>match x,y with
 |.d a,.d b=>match iC a b with
  |some r=>Q (.d (.bool r)) n
  |none=>False
 |_,_=>False
theorem JY(hu:X.A.units < Dj):OpR X (Bu .Eq) (λx y H Q=>sQ x y H Q\/qV x y H Q\/sH X.K x y H Q):=op_eq.or ((O9 hu).or (Kv hu))
theorem L3:bb (λx y H Q=>sQ x y H Q\/qV x y H Q\/sH K x y H Q) bM:=λC H B σ δ n x y p q Q Q' R rx ry h1 k=>by
 unfold bM at h1
 split at h1
 ·rename_i da db;have rx:RdX H B x da:=rx;have ry:RdX H B y db:=ry;have fin:∀r:Bool,Q (.d (.bool r)) n->Q' (.bl r) H:=λr q=>k _ _ H n R (Kp.refl _ _) (wd (.bl r)) q
  split at h1
  ·rename_i r er;have h1:=fin r h1;cases rx with
   |non=>cases ry<;>first|(cases er;done)|(cases er;exact .inl ⟨rfl,h1⟩)
   |bl i=>cases ry<;>first|(cases er;done)|(cases er;exact .inl ⟨rfl,by first|exact h1|(rw[AB];exact h1)⟩)
   |int i=>cases ry<;>first|(cases er;done)|(cases er;exact .inl ⟨rfl,by first|exact h1|(rw[GL];exact h1)⟩)
   |str i hi=>cases ry<;>first|(cases er;done)|(cases er;exact .inl ⟨rfl,by first|exact h1|(rw[vO];exact h1)⟩)
   |@lst ax xs ds e1 e2 e3 e4=>
    cases ry with
    |str j hj=>cases er;exact .inr (.inl ⟨_,j,B,.lst e1 e2 e3 e4,rfl,h1⟩)
    |@lst ay ys es f1 f2 f3 f4=>
     cases f4 with
     |nil=>
      have er:ae ds.isEmpty=ae r:=er;cases er;refine .inr (.inr ⟨ax,ay,xs,rfl,rfl,SqL.of e1,SqL.of f1,?_⟩);have:xs.isEmpty=ds.isEmpty:=by cases e4<;>rfl
      rw[this];exact h1
     |cons _ _=>cases er
    |_=>cases er
   |@tup ax xs ds e1 e2 e3 e4=>
    cases ry with
    |str j hj=>cases er;exact .inr (.inl ⟨_,j,B,.tup e1 e2 e3 e4,rfl,h1⟩)
    |_=>cases er
  ·exact h1.elim
 ·exact h1.elim
def NH(a b:Ab):Option Bool:=match a,b with
 |.list _,_=>af
 |.tuple _,_=>af
 |a,b=>(iC a b).map not
def ib:Wv->Wv->Int->DQ->Prop:=λx y n Q=>match x,y with
 |.d a,.d b=>match NH a b with
  |some r=>Q (.d (.bool r)) n
  |none=>False
 |_,_=>False
theorem UE:bb HV ib:=λC H B σ δ n x y p q Q Q' R rx ry h1 k=>by
 unfold ib at h1
 split at h1
 ·rename_i da db;have rx:RdX H B x da:=rx;have ry:RdX H B y db:=ry;have fin:∀r:Bool,Q (.d (.bool r)) n->Q' (.bl r) H:=λr q=>k _ _ H n R (Kp.refl _ _) (wd (.bl r)) q
  split at h1
  ·rename_i r er;have h1:=fin r h1;cases rx with
   |non=>cases ry<;>first|(cases er;done)|(cases er;exact⟨rfl,h1⟩)
   |bl i=>cases ry<;>first|(cases er;done)|(cases er;exact⟨rfl,by first|exact h1|(rw[AB];exact h1)⟩)
   |int i=>cases ry<;>first|(cases er;done)|(cases er;exact⟨rfl,by first|exact h1|(rw[GL];exact h1)⟩)
   |str i hi=>cases ry<;>first|(cases er;done)|(cases er;exact⟨rfl,by first|exact h1|(rw[vO];exact h1)⟩)
   |lst _ _ _ _=>cases er
   |tup _ _ _ _=>cases er
  ·exact h1.elim
 ·exact h1.elim
def eZ:Ab->Bool
 |.none=>ah
 |_=>ai
def bc(neg:Bool):Wv->Wv->Int->DQ->Prop:=λx y n Q=>match x,y with
 |.d a,.d .none=>Q (.d (.bool (if neg then !eZ a else eZ a))) n
 |_,_=>False
theorem zf(h:RdX H B v d):decide (v=.non)=eZ d:=by cases h<;>rfl
theorem GA:bb (λx y H Q=>y=.non/\Q (.bl (decide (x=.non))) H) (bc ai):=λC H B σ δ n x y p q Q Q' R rx ry h1 k=>by
 unfold bc at h1
 split at h1
 ·rename_i da;cases(show RdX H B y .none from ry);exact⟨rfl,k _ _ H n R (Kp.refl _ _) (wd (show RdX H B _ (.bool (eZ da))from by rw[zf rx];exact .bl _)) h1⟩
 ·exact h1.elim
theorem uT:bb (λx y H Q=>y=.non/\Q (.bl (!decide (x=.non))) H) (bc ah):=λC H B σ δ n x y p q Q Q' R rx ry h1 k=>by
 unfold bc at h1
 split at h1
 ·rename_i da;cases(show RdX H B y .none from ry);exact⟨rfl,k _ _ H n R (Kp.refl _ _) (wd (show RdX H B _ (.bool (!eZ da))from by rw[zf rx];exact .bl _)) h1⟩
 ·exact h1.elim
def gA:Ab->Bool
 |.none=>ah
 |.bool _=>ah
 |.int _=>ah
 |.str _=>ah
 |_=>ai
def qX:Ab->Ab->Bool
 |.none,.none=>ah
 |.bool a,.bool b=>a==b
 |.bool a,.int b=>(if a then 1 else 0)==b
 |.int a,.bool b=>a==(if b then 1 else 0)
 |.int a,.int b=>a==b
 |.str a,.str b=>a==b
 |_,_=>ai
def cz(x:Ab)(ds:List Ab):Bool:=ds.any λy=>qX y x
theorem pF(h:RdX H B v d)(f:gA d=ah):gU v=ah:=by cases h<;>first|rfl|cases f
theorem my:∀{vs:List V}{ds:List Ab},RdXs H B vs ds->ds.all gA=ah->vs.all gU=ah
 |_,_,.nil,_=>rfl
 |_,_,.cons h r,f=>by
  rw[List.all_cons,Bm]at f ⊢;exact⟨pF h f.1,my r f.2⟩
theorem JS{d e:Ab}(h:RdX H B v d)(h2:RdX H B u e):il v u=qX d e:=by cases h<;>cases h2<;>rfl
theorem pJ(h:RdX H B v d):∀{vs:List V}{ds:List Ab},RdXs H B vs ds->qD v vs=cz d ds
 |_,_,.nil=>rfl
 |_,_,.cons h1 r=>by
  have:=pJ h r;unfold qD cz at this ⊢;rw[Dd,Dd,this,JS h1 h]
def lC(neg:Bool):Wv->Wv->Int->DQ->Prop:=λx y n Q=>match x,y with
 |.d a,.d (.tuple ds)=>gA a=ah/\ds.all gA=ah/\Q (.d (.bool (if neg then !cz a ds else cz a ds))) n
 |.d a,.d (.list ds)=>gA a=ah/\ds.all gA=ah/\Q (.d (.bool (if neg then !cz a ds else cz a ds))) n
 |_,_=>False
theorem yy:bb (jn K neg) (lC neg):=λC H B σ δ n x y p q Q Q' R rx ry h1 k=>by
 unfold lC at h1
 split at h1
 ·rename_i da ds;obtain⟨f1,f2,q⟩:=h1;have rx:RdX H B x da:=rx;cases(show RdX H B y (.tuple ds)from ry)with
  |@tup ay ys _ e1 e2 e3 e4=>
   refine⟨ay,ys,rfl,.inr (SqT.of e1),pF rx f1,my e4 f2,?_⟩;rw[pJ rx e4];exact k _ _ H n R (Kp.refl _ _) (wd (.bl _)) q
 ·rename_i da ds;obtain⟨f1,f2,q⟩:=h1;have rx:RdX H B x da:=rx;cases(show RdX H B y (.list ds)from ry)with
  |@lst ay ys _ e1 e2 e3 e4=>
   refine⟨ay,ys,rfl,.inl (SqL.of e1),pF rx f1,my e4 f2,?_⟩;rw[pJ rx e4];exact k _ _ H n R (Kp.refl _ _) (wd (.bl _)) q
 ·exact h1.elim
def aB:Wv->Wv->Int->DQ->Prop:=λx y n Q=>match x,y with
 |.d (.list ds),.d (.int i)=>match df ds i with
  |some d=>Q (.d d) n
  |none=>False
 |.d (.tuple ds),.d (.int i)=>match df ds i with
  |some d=>Q (.d d) n
  |none=>False
 |.d (.str z),.d (.int i)=>match df z.cps.toList i with
  |some c=>Q (.d (.str ⟨#[c]⟩)) n
  |none=>False
 |_,_=>False
theorem xN(r:RdXs H B vs ds)(h:df ds i=ae d):∃v,df vs i=ae v/\RdX H B v d:=by
 unfold df at h ⊢;rw[r.len];cases e:jL ds.length i with
 |none=>rw[e]at h;cases h
 |some j=>
  rw[e]at h;exact r.getD h
theorem lW:bb (lZ K) aB:=λC H B σ δ n x y p q Q Q' R rx ry h1 k=>by
 unfold aB at h1
 split at h1
 ·rename_i ds i
  split at h1
  ·rename_i d e;cases(show RdX H B y (.int i)from ry);cases(show RdX H B x (.list ds)from rx)with
   |@lst ay ys _ e1 e2 e3 e4=>
    obtain⟨v,f1,f2⟩:=xN e4 e;exact .inl ⟨ay,ys,i,v,rfl,rfl,SqL.of e1,f1,k _ _ H n R (Kp.refl _ _) (wd f2) h1⟩
  ·exact h1.elim
 ·rename_i ds i
  split at h1
  ·rename_i d e;cases(show RdX H B y (.int i)from ry);cases(show RdX H B x (.tuple ds)from rx)with
   |@tup ay ys _ e1 e2 e3 e4=>
    obtain⟨v,f1,f2⟩:=xN e4 e;exact .inr (.inl ⟨ay,ys,i,v,rfl,rfl,SqT.of e1,f1,k _ _ H n R (Kp.refl _ _) (wd f2) h1⟩)
  ·exact h1.elim
 ·rename_i z i
  split at h1
  ·rename_i c e;cases(show RdX H B y (.int i)from ry);cases(show RdX H B x (.str z)from rx)with
   |str _ hz=>exact .inr (.inr ⟨z,i,c,rfl,rfl,hz,e,k _ _ H n R (Kp.refl _ _) (wd (show RdX H B _ (.str ⟨#[c]⟩)from .str _ (by show 1<=Ar;decide))) h1⟩)
  ·exact h1.elim
 ·exact h1.elim
theorem wQ(ha:DE X a ta wa)(hb:DE X b tb wb)(hs:qp b:=by exact λ_ _=>rfl):DE X (.Subscript a b pos) (cS (lZ X.K) ta tb) (w2 wa wb aB):=⟨ix zx ha.pe hb.pe hs,l8 lW ha.sd hb.sd⟩
def bK:List Wv->Int->DQ->Prop:=λxs n Q=>match xs with
 |[.d (.str x)]=>Q (.d (.int x.length)) n
 |[.d (.list ds)]=>Q (.d (.int ds.length)) n
 |[.d (.tuple ds)]=>Q (.d (.int ds.length)) n
 |_=>False
theorem Si:CallR X (.builtin "len") (λxs H Q=>(∃z,xs=[.str z]/\z.length<=Ar/\Q (.int z.length) H)\/∃p ys,xs=[.ref p]/\(SqL X.K H p ys\/SqT X.K H p ys)/\Q (.int ys.length) H):=call_len_str.or rD
theorem T2:cL (λxs H Q=>(∃z,xs=[.str z]/\z.length<=Ar/\Q (.int z.length) H)\/∃p ys,xs=[.ref p]/\(SqL K H p ys\/SqT K H p ys)/\Q (.int ys.length) H) bK:=λC H B σ δ n vs xs Q Q' R r h k=>by
 unfold bK at h
 split at h
 ·rename_i x;cases r with
  |cons r1 r2=>
   cases r2;cases(show RdX H B _ (.str x)from r1)with
   |str _ hz=>exact .inl ⟨x,rfl,hz,k _ _ H n R (Kp.refl _ _) (wd (.int _)) h⟩
 ·rename_i ds;cases r with
  |cons r1 r2=>
   cases r2;cases(show RdX H B _ (.list ds)from r1)with
   |@lst ay ys _ e1 e2 e3 e4=>
    refine .inr ⟨ay,ys,rfl,.inl (SqL.of e1),?_⟩;rw[e4.len];exact k _ _ H n R (Kp.refl _ _) (wd (.int _)) h
 ·rename_i ds;cases r with
  |cons r1 r2=>
   cases r2;cases(show RdX H B _ (.tuple ds)from r1)with
   |@tup ay ys _ e1 e2 e3 e4=>
    refine .inr ⟨ay,ys,rfl,.inr (SqT.of e1),?_⟩;rw[e4.len];exact k _ _ H n R (Kp.refl _ _) (wd (.int _)) h
 ·exact h.elim
theorem Jg(h:RdX H B v d):TyOf K H v (.type (rz d)):=by
 cases h with
 |non=>exact .non
 |bl b=>exact .bl b
 |int i=>exact .int i
 |str x h=>exact .str x
 |lst h1 h2 h3 h4=>exact .lst h1
 |tup h1 h2 h3 h4=>exact .tup h1
theorem QN(h:RdX H B v d)(hT:T="int"\/T="bool"\/T="str"\/T="tuple"\/T="list"):D6 K (.type (rz d)) (.type T)=ae (gB T d):=by
 cases h<;>rcases hT with rfl|rfl|rfl|rfl|rfl<;>rfl
def dH(T:String)(w:DT):DT:=λδ n Q=>w δ n λx n1=>match x with
 |.d d=>Q (.d (.bool (gB T d))) n1
 |_=>False
theorem QZ{p p2:Pos}(hT:T="int"\/T="bool"\/T="str"\/T="tuple"\/T="list")(hg:Gl X "isinstance")(hm:X.mg "isinstance"=af)(hg2:Gl X x)(hm2:X.mg x=af)(hv:Bp x=ae (.type T))(ha:DE X a ta wa)(hn:x≠"__name__":=by decide)(hdb:(x==("__debug__":Str))=ai:=by decide)
  (he:Ap [a,.Name x p2] X.env=(ai,eval a X.env)::Ap [.Name x p2] X.env:=by rfl) (he2:Ap [.Name x p2] X.env=(ai,eval (.Name x p2) X.env)::Ap [] X.env:=by rfl) (hpl:(Cy pos (Ap [.Name x p2] X.env)).any (·.1)=ai:=by rfl):
  DE X (.Call (.Name "isinstance" p) [a,.Name x p2] [] pos) (eT (λxs H Q=>∃x t b,xs=[x,.ty T]/\TyOf X.K H x t/\D6 X.K t (.type T)=ae b/\Q (.bl b) H) (aM ta (aM (tC (.ty T)) aI))) (dH T wa):=
 ⟨ju (Mj (T:=T)) hg hm DO (bP ha.pe (bP (zD (v:=.ty T) hg2 hm2 hv rfl hn hdb) dC he2) he) ∎ ∎ he hpl,λC H B σ δ n Q Q' R q k=>ha.sd C H B σ δ n _ _ R q λv x H1 n1 R1 k1 r1 q1=>by
  cases x with
  |d d=>exact⟨v,_,_,rfl,Jg r1,QN (show RdX H1 B v d from r1) hT,k _ _ H1 n1 R1 k1 (wd (.bl _)) q1⟩
  |tp=>exact q1.elim
  |dk _=>exact q1.elim
  |dx _=>exact q1.elim
  |ln _=>exact q1.elim
  |ob _=>exact q1.elim⟩
def U5:List Wv->Int->DQ->Prop:=λxs n Q=>match xs with
 |[.d (.list ds)]=>Small (.list ds)/\Q (.d (.str (PyData.shown (.list ds)))) n
 |[.d (.tuple ds)]=>Small (.tuple ds)/\Q (.d (.str (PyData.shown (.tuple ds)))) n
 |_=>False
def iN:List Ab->Option (List Bool)
 |[]=>ae []
 |.bool b::r=>(iN r).map (b::·)
 |_::_=>af
theorem wm:∀{vs:List V}{ds:List Ab}{bs:List Bool},RdXs H B vs ds->iN ds=ae bs->vs=bs.map V.bl
 |_,_,bs,.nil,h=>by
  cases h;rfl
 |_,_,bs,.cons (d:=d) (ds:=ds) h1 h2,h=>by
  cases h1 with
  |bl b=>
   have h':(iN ds).map (b::·)=ae bs:=h;cases e:iN ds with
   |none=>rw[e]at h';cases h'
   |some cs=>
    rw[e]at h';cases h';rw[wm h2 e];rfl
  |_=>cases h
def ji:List Wv->Int->DQ->Prop:=λxs n Q=>match xs with
 |[.d (.list ds)]=>match iN ds with
  |some bs=>Q (.d (.bool (bs.all id))) n
  |none=>False
 |_=>False
theorem Oz:cL (λxs H Q=>∃(p:Addr)(bs:List Bool),xs=[.ref p]/\H p=ae (.lst (bs.map V.bl))/\Q (.bl (bs.all id)) H) ji:=λC H B σ δ n vs xs Q Q' R r h k=>by
 unfold ji at h
 split at h
 ·rename_i ds
  split at h
  ·rename_i bs e;cases r with
   |cons r1 r2=>
    cases r2;cases(show RdX H B _ (.list ds)from r1)with
    |@lst ay ys _ e1 e2 e3 e4=>
     exact⟨ay,bs,rfl,by rw[<-wm e4 e];exact e1,k _ _ H n R (Kp.refl _ _) (wd (.bl _)) h⟩
  ·exact h.elim
 ·exact h.elim
def gy:List Wv->Int->DQ->Prop:=λxs n Q=>match xs with
 |[.d (.list ds)]=>Q (.d (.tuple ds)) n
 |[.d (.tuple ds)]=>Q (.d (.tuple ds)) n
 |_=>False
theorem QE:cL (λxs H Q=>∃p ys,xs=[.ref p]/\((SqL K H p ys/\∀l,H l=af->Q (.ref l) (upd H l (.tup ys)))\/(SqT K H p ys/\Q (.ref p) H))) gy:=λC H B σ δ n vs xs Q Q' R r h k=>by
 unfold gy at h
 split at h
 ·rename_i ds;cases r with
  |cons r1 r2=>
   cases r2;cases(show RdX H B _ (.list ds)from r1)with
   |@lst ay ys _ e1 e2 e3 e4=>
    refine⟨ay,ys,rfl,.inl ⟨SqL.of e1,λl hl=>?_⟩⟩;exact k _ _ _ n (R.new hl) (Kp.new hl) (wd (show RdX _ B _ (.tuple ds)from .tup aR (R.nb hl) e3 ((e4.fresh hl).less λb z=>.inl z))) h
 ·rename_i ds;cases r with
  |cons r1 r2=>
   cases r2;cases(show RdX H B _ (.tuple ds)from r1)with
   |@tup ay ys _ e1 e2 e3 e4=>exact⟨ay,ys,rfl,.inr ⟨SqT.of e1,k _ _ H n R (Kp.refl _ _) (wd (show RdX H B _ (.tuple ds)from .tup e1 e2 e3 e4)) h⟩⟩
 ·exact h.elim
end
structure ItOk(fz:Hp)(J:It)(ds:List Ab):Prop where
 le:ds.length<=Ar
 go:∀i H,(∀b o,fz b=ae o->H b=ae o)->i < ds.length->J.go i H
 stop:∀H,(∀b o,fz b=ae o->H b=ae o)->J.stop ds.length H
 yld:∀i H x H' d,(∀b o,fz b=ae o->H b=ae o)->ds[i]?=ae d->J.yld i H x H'->iy H H'/\∀B,(∀b o,fz b=ae o->¬B b)->(∀b,B b->H b≠af)->RdX H' B x d
def oK(H:Hp)(B:Addr->Prop)(fz:Hp):Prop:=(∀b o,fz b=ae o->H b=ae o/\¬B b)/\∀b o,H b=ae o->¬B b->fz b=ae o
abbrev gc:=Sl->Int->(List Ab->Int->Prop)->Prop
def uk(wi:TI)(v:gc):Prop:=∀(C:Ctx)(H:Hp)(B:Addr->Prop)(σ:St)(δ:Sl)(n:Int)(Q:List Ab->Int->Prop)(Q':It->Hp->Prop),Rel C H B σ δ n->v δ n Q->
 (∀J ds H' n',Rel C H' B σ δ n'->Kp C.t H H'->(∀fz,oK H' B fz->ItOk fz J ds)->Q ds n'->Q' J H')->wi σ H Q'
structure DI(X:Cx)(tg iter:Expr)(wi:TI)(v:gc):Prop where
 pi:PI X tg iter wi
 sd:uk wi v
section
variable{X:Cx}{tg a b c e:Expr}{ta tb te:TE}{wa wb we:DT}{pos p:Pos}
def mw(w:DT):gc:=λδ n Q=>w δ n λx n1=>match x with
 |.d (.list ds)=>Q ds n1
 |_=>False
def gi(w:DT):gc:=λδ n Q=>w δ n λx n1=>match x with
 |.d (.tuple ds)=>Q ds n1
 |_=>False
theorem P4(ha:DE X a ta wa):DI X tg a (om X.K ta) (mw wa):=⟨y8 ha.pe,λC H B σ δ n Q Q' R q k=>ha.sd C H B σ δ n _ _ R q λv x H1 n1 R1 k1 r1 q1=>by
 split at q1
 ·rename_i ds;cases(show RdX H1 B v (.list ds)from r1)with
  |@lst ay ys _ e1 e2 e3 e4=>
   refine⟨ay,rfl,⟨ys,SqL.of e1⟩,k _ ds H1 n1 R1 k1 (λfz th=>?_) q1⟩;have hfz:fz ay=ae (.lst ys):=th.2 _ _ e1 e2;refine⟨by rw[<-e4.len];exact e3,λi H hH hi=>?_,λH hH=>?_,λi H x H' d hH hd hy=>?_⟩
   ·rw[<-e4.len]at hi;exact⟨ys,ys[i],SqL.of (hH _ _ hfz),Ag hi⟩
   ·exact⟨ys,SqL.of (hH _ _ hfz),by rw[e4.len];exact Am _⟩
   ·obtain⟨rfl,hy⟩:=hy;refine⟨λ_ _ z=>z,λB' hB hBa=>?_⟩;obtain⟨u,hu,ru⟩:=e4.getD hd;have:=hy _ (SqL.of (hH _ _ hfz));rw[hu]at this;cases this;exact ru.move λb o e ne=>⟨hH _ _ (th.2 _ _ e ne),hB _ _ (th.2 _ _ e ne)⟩
 ·exact q1.elim⟩
theorem ND(ha:DE X a ta wa):DI X tg a (lF X.K ta) (gi wa):=⟨OV ha.pe,λC H B σ δ n Q Q' R q k=>ha.sd C H B σ δ n _ _ R q λv x H1 n1 R1 k1 r1 q1=>by
 split at q1
 ·rename_i ds;cases(show RdX H1 B v (.tuple ds)from r1)with
  |@tup ay ys _ e1 e2 e3 e4=>
   refine⟨ay,rfl,⟨ys,SqT.of e1⟩,k _ ds H1 n1 R1 k1 (λfz th=>?_) q1⟩;have hfz:fz ay=ae (.tup ys):=th.2 _ _ e1 e2;refine⟨by rw[<-e4.len];exact e3,λi H hH hi=>?_,λH hH=>?_,λi H x H' d hH hd hy=>?_⟩
   ·rw[<-e4.len]at hi;exact⟨ys,ys[i],SqT.of (hH _ _ hfz),Ag hi⟩
   ·exact⟨ys,SqT.of (hH _ _ hfz),by rw[e4.len];exact Am _⟩
   ·obtain⟨rfl,hy⟩:=hy;refine⟨λ_ _ z=>z,λB' hB hBa=>?_⟩;obtain⟨u,hu,ru⟩:=e4.getD hd;have:=hy _ (SqT.of (hH _ _ hfz));rw[hu]at this;cases this;exact ru.move λb o e ne=>⟨hH _ _ (th.2 _ _ e ne),hB _ _ (th.2 _ _ e ne)⟩
 ·exact q1.elim⟩
def dg(lo:Int)(n:Nat):List Ab:=(A5 n).map λi=>.int (lo+(i:Nat))
def oS(w:DT):gc:=λδ n Q=>w δ n λx n1=>match x with
 |.d (.int j)=>(-(2 ^ 62)<=j/\j<=1000000)/\Q (dg 0 j.toNat) n1
 |_=>False
theorem Uv(fz)(lo)(n)(hn:n<=1000000):ItOk fz (qk lo n) (dg lo n):=by
 have hl:(dg lo n).length=n:=by unfold dg;simp
 refine⟨?_,λi H hH hi=>?_,λH hH=>?_,λi H y H' d hH hd hy=>?_⟩
 ·rw[hl];exact Bb hn ∎
 ·rw[hl]at hi;exact hi
 ·show n<=(dg lo n).length;rw[hl];exact Am _
 ·obtain⟨rfl,rfl⟩:=hy;refine⟨λ_ _ z=>z,λB' hB hBa=>?_⟩;unfold dg at hd;rw[Aq]at hd;cases e:(A5 n)[i]? with
  |none=>rw[e]at hd;cases hd
  |some j=>
   rw[e]at hd;have:j=i:=by
    obtain⟨h1,h2⟩:=Al.mp e;rw[List.getElem_range]at h2;exact h2.symm
   subst this;cases hd;exact .int _
theorem zd(hg:Gl X "range")(hm:X.mg "range"=af)(ha:DE X a ta wa)(hs:Ap [a] X.env=[(ai,eval a X.env)]:=by rfl):DI X tg (.Call (.Name "range" p) [a] [] pos) (nL (aM ta aI)) (oS wa):=⟨Mf hg hm (bP ha.pe dC hs) hs,λC H B σ δ n Q Q' R q k=>ha.sd C H B σ δ n _ _ R q λv x H1 n1 R1 k1 r1 q1=>by
 split at q1
 ·rename_i j;cases(show RdX H1 B v (.int j)from r1);refine⟨j,rfl,q1.1.1,by have:=q1.1.2;have:(2:Int)^62=4611686018427387904:=∎;omega,k _ (dg 0 j.toNat) H1 n1 R1 k1 (λfz _=>Uv fz 0 j.toNat (by have:=q1.1.2;omega)) q1.2⟩
 ·exact q1.elim⟩
end
abbrev eM:=Ab->Sl->(Sl->Prop)->Prop
def v8(g:TG)(v:eM):Prop:=∀(C:Ctx)(H:Hp)(B:Addr->Prop)(σ:St)(δ:Sl)(n:Int)(x:V)(d:Ab)(Q:Sl->Prop)(Q':St->Hp->Prop),Rel C H B σ δ n->RdX H B x d->v d δ Q->
 (∀σ' δ',Rel C H B σ' δ' n->Q δ'->Q' σ' H)->g x σ H Q'
structure DG(X:Cx)(tg:Expr)(g:TG)(v:eM):Prop where
 pg:PG X tg g
 sd:v8 g v
section
variable{X:Cx}{pos:Pos}
def cj(i:Nat):eM:=λd δ Q=>Q (δ.set i (ae (.w (.d d))))
theorem qL(hN:X.N.Nodup)(hi:X.N[i]?=ae x)(hx:gw X.env.scope x)(hf:X.fn x=ah\/X.env.scope.names.lookup x=ae .local:=by first|exact .inl rfl|exact .inr rfl|assumption):DG X (.Name x pos) (cv i) (cj i):=
 ⟨Tj hN hi hx hf,λC H B σ δ n x d Q Q' R r q k=>k _ _ (R.set (x:=.d d) r rfl) q⟩
end
def dE(g:eM)(W:aF)(K:DEnds):List Ab->Sl->Int->Prop
 |[],δ,n=>K.nx δ n
 |d::r,δ,n=>g d δ λδ'=>W δ' n {K with nx:=dE g W K r,ct:=dE g W K r,bk:=K.nx}
def dw(v:gc)(g:eM)(W:aF):aF:=λδ n K=>v δ n λds n1=>dE g W K ds δ n1
def cR(H:Hp)(B:Addr->Prop):Hp:=λb=>open Classical in if B b then af else H b
theorem pq(H)(B):oK H B (cR H B):=by
 refine⟨λb o e=>?_,λb o e n=>?_⟩
 ·unfold cR at e
  split at e
  ·cases e
  ·rename_i h;exact⟨e,h⟩
 ·unfold cR;rw[if_neg n];exact e
theorem Rel.refz(R:Rel C H B σ δ n):Rel {C with fz:=cR H B} H B σ δ n:=
 ⟨R.tp,R.kp,R.t0,R.l0,R.g0,(pq H B).1,R.bt,R.b0,R.ba,R.a0,R.sl,R.ow,R.len⟩
theorem Rel.unfz{fz:Hp}(R:Rel {C with fz:=fz} H B σ δ n)(h:∀b o,C.fz b=ae o->fz b=ae o):Rel C H B σ δ n:=
 ⟨R.tp,R.kp,R.t0,R.l0,R.g0,λb o e=>R.fz b o (h b o e),R.bt,R.b0,R.ba,R.a0,R.sl,R.ow,R.len⟩
theorem Rel.same(R:Rel C H B σ δ n)(k:iy H H'):Rel C H' B σ δ n:=by
 obtain⟨a,b,e,h⟩:=R.tp.ob;exact R.step ⟨⟨a,b,k _ _ e,h⟩,k _ _ R.tp.ls,R.tp.len,λz=>k _ _ (R.tp.ag z),R.tp.gne⟩ λb o e _=>k b o e
section
variable{X:Cx}{tg iter:Expr}{body:List Stmt}{wi:TI}{v:gc}{g:TG}{gd:eM}{T:TS}{W:aF}{pos:Pos}
theorem wH(hi:DI X tg iter wi v)(hg:DG X tg g gd)(hb:DSs X body T W)(hp:PassesOwn (A9 X.prog X.w) X.A X.env X.xe:=by exact PassesOwn.never)(hc:X.calm=ah:=by rfl)
  (hs:∀x,F0 iter X.env x=pure x:=by intro _;rfl):DS X (.For tg iter body [] pos) (fV wi g T) (dw v gd W):=⟨UI hp hc hi.pi hg.pg hb.ps hs,λC H B σ δ n K D R q E=>
 hi.sd C H B σ δ n _ _ R q λJ ds H1 n1 R1 k1 hJ q1=>by
  have ok:=hJ (cR H1 B) (pq H1 B);have R1':=R1.refz;have fS:∀{H B' σ δ n},Rel {C with fz:=cR H1 B} H B' σ δ n->Rel C H B' σ δ n:=λR=>R.unfz λb o e=>(pq H1 B).2 b o (R1.fz b o e).1 (R1.fz b o e).2;refine⟨λi m σ H=>m=ds.length-i/\i<=ds.length/\∃B' δ n,Rel {C with fz:=cR H1 B} H B' σ δ n/\dE gd W K (ds.drop i) δ n,⟨ds.length,by simp,Az _,B,δ,n1,R1',by simpa using q1⟩,?_⟩
  rintro i m σ2 H2 ⟨rfl,hi,B2,δ2,n2,R2,q2⟩
  have hfz:∀b o,cR H1 B b=ae o->H2 b=ae o:=λb o e=>(R2.fz b o e).1;by_cases hlt:i < ds.length
  ·rw[Hm hlt]at q2;refine .inr ⟨ok.go i H2 hfz hlt,λσ3 H3=>∃B' δ n,Rel {C with fz:=cR H1 B} H3 B' σ3 δ n/\dE gd W K (ds.drop (i+1)) δ n,λσ' H' z=>⟨ds.length-(i+1),by omega,rfl,hlt,z⟩,λx H' hy=>?_⟩;obtain⟨sm,rd⟩:=ok.yld i H2 x H' ds[i] hfz (Ag hlt) hy;have R3:=R2.same sm;refine hg.sd _ H' B2 σ2 δ2 n2 x ds[i] _ _ R3 (rd B2 (λb o e=>(R2.fz b o e).2) R2.ba) q2 λσ' δ' R4 q4=>?_;refine hb.sd _ H' B2 σ' δ' n2 _ _ R4 q4 ⟨?_,?_,?_,?_,λH B σ δ n a xs ds R h0 h1 h2 h3 q=>E.rn H B σ δ n a xs ds (fS R) h0 h1 h2 h3 q,λH B σ δ n a l kvs R h0 h1 h2 h3 q=>E.rx H B σ δ n a l kvs (fS R) h0 h1 h2 h3 q⟩
   ·exact λH B σ δ n R q=>⟨B,δ,n,R,q⟩
   ·exact λH B σ δ n v w R r q=>E.rt H B σ δ n v w (fS R) r q
   ·exact λH B σ δ n R q=>E.nx H B σ δ n (fS R) q
   ·exact λH B σ δ n R q=>⟨B,δ,n,R,q⟩
  ·have e:i=ds.length:=by omega
   subst e;rw[List.drop_length]at q2;exact .inl ⟨ok.stop H2 hfz,E.nx H2 B2 σ2 δ2 n2 (fS R2) q2⟩⟩
end
def jG(fr:List (Option Nat))(δ:Sl):Sl:=fr.map λo=>o.bind λi=>match δ[i]? with
 |some (ae (.w x))=>ae (.w x)
 |some (ae (.odk kvs))=>ae (.w (.dk kvs))
 |some (ae (.own ds))=>ae (.w (.ln ds))
 |some (ae (.odx kvs))=>ae (.w (.dx kvs))
 |_=>af
def eY(g:eM)(c:bR)(w:DT)(Q:List Ab->Int->Prop):List Ab->List Ab->Sl->Int->Prop
 |[],acc,_,n=>Q acc n
 |d::r,acc,δ,n=>g d δ λδ'=>c δ' n λb n1=>if b=ah then w δ' n1 λx n2=>match x with
   |.d y=>eY g c w Q r (acc++[y]) δ' n2
   |_=>False
  else eY g c w Q r acc δ' n1
def dO(fr:List (Option Nat))(v:gc)(g:eM)(c:bR)(w:DT):fA:=λδ n Q=>v δ n λds n1=>eY g c w Q ds [] (jG fr δ) n1
structure DIf(X:Cx)(ifs:List Expr)(t:TT)(c:bR):Prop where
 pf:mB X ifs t
 sd:gj t c
def dG:bR:=λ_ n Q=>Q ah n
theorem LM:DIf X [] GJ dG:=⟨M8,λC H B σ δ n Q Q' R q k=>k ah H n R (Kp.refl _ _) q⟩
theorem UL(h:DC X c t cc):DIf X [c] t cc:=⟨RC h.pt,h.sd⟩
theorem TU(fr:List (Option Nat))(σ):(cX fr σ).length=fr.length:=by unfold cX;rw[Ad]
theorem OC(fr:List (Option Nat))(δ):(jG fr δ).length=fr.length:=by unfold jG;rw[Ad]
theorem vc{j:Nat}(h:(jG fr δ)[j]?=ae (ae x)):∃i y,fr[j]?=ae (ae i)/\δ[i]?=ae (ae y)/\((∃z,x=.w z/\y=.w z)\/(∃kvs,x=.w (.dk kvs)/\y=.odk kvs)\/(∃ds,x=.w (.ln ds)/\y=.own ds)\/∃kvs,x=.w (.dx kvs)/\y=.odx kvs):=by
 unfold jG at h;rw[Aq]at h;cases e:fr[j]? with
 |none=>rw[e]at h;cases h
 |some o=>
  rw[e]at h;cases o with
  |none=>cases h
  |some i=>
   have h':=A4 h;dsimp only[Option.bind]at h'
   split at h'
   ·rename_i z ez;cases h';exact⟨i,_,rfl,ez,.inl ⟨z,rfl,rfl⟩⟩
   ·rename_i kvs ez;cases h';exact⟨i,_,rfl,ez,.inr (.inl ⟨kvs,rfl,rfl⟩)⟩
   ·rename_i ds ez;cases h';exact⟨i,_,rfl,ez,.inr (.inr (.inl ⟨ds,rfl,rfl⟩))⟩
   ·rename_i kvs ez;cases h';exact⟨i,_,rfl,ez,.inr (.inr (.inr ⟨kvs,rfl,rfl⟩))⟩
   ·cases h'
theorem QB{j i:Nat}(h:fr[j]?=ae (ae i))(h2:σ[i]?=ae (ae v)):(cX fr σ)[j]?=ae (ae v):=by
 unfold cX;rw[Aq,h];show ae ((σ[i]?).bind id)=_;rw[h2];rfl
theorem Ln(R:Rel C H B σ δ n)(hL:H L=af):
  Rel ⟨C.t,C.l,C.ns,H,B,cR H B⟩ (upd H L (.lst [])) (λb=>B b\/b=L) (cX fr σ) (jG fr δ) n where
 tp:=R.tp.new hL
 kp:=Kp.new hL
 t0:=R.ba _ R.bt
 l0:=by
  show H C.l.s≠af;rw[R.tp.ls];exact λz=>nomatch z
 g0:=λe=>by
  show H C.l.g≠af;rw[R.tp.ag e];exact λz=>nomatch z
 fz:=λb o e=>by
  obtain⟨e1,e2⟩:=(pq H B).1 b o e;exact⟨by rw[aD (aY e1 hL)];exact e1,λz=>z.elim e2 λq=>aY e1 hL q⟩
 bt:=.inl R.bt
 b0:=λb z=>.inl z
 ba:=λb z e=>by
  by_cases q:b=L
  ·rw[q,aR]at e;cases e
  ·rw[aD q]at e;exact R.ba b (z.resolve_right q) e
 a0:=R.ba
 sl:=λj x e=>by
  have mv:∀b o',H b=ae o'->¬B b->upd H L (.lst []) b=ae o'/\¬(B b\/b=L):=λb o' e n=>⟨by rw[aD (aY e hL)];exact e,λz=>z.elim n λq=>aY e hL q⟩;obtain⟨i,y,e1,e2,hy⟩:=vc e;obtain⟨v,f1,f2⟩:=R.sl i y e2;refine⟨v,QB e1 f1,?_⟩;rcases hy with⟨z,rfl,rfl⟩|⟨kvs,rfl,rfl⟩|⟨ds,rfl,rfl⟩|⟨kvs,rfl,rfl⟩
  ·cases z with
   |d d=>exact⟨f2.1.move mv,λz=>by cases z⟩
   |tp=>exact⟨f2.1,λz=>by cases z⟩
   |ln ds=>
    obtain⟨a,l,g1,g2,g3,g4,g5⟩:=f2.1;exact⟨⟨a,l,g1,by rw[aD (aY g2 hL)];exact g2,g3,g4,g5.move mv⟩,λ_=>⟨a,g1,by show H a≠af;rw[g2];exact λz=>nomatch z⟩⟩
   |dk kvs=>
    obtain⟨a,l,g1,g2,g3,g4⟩:=f2.1;exact⟨⟨a,l,g1,by rw[aD (aY g2 hL)];exact g2,g3,g4.move mv⟩,λ_=>⟨a,g1,by show H a≠af;rw[g2];exact λz=>nomatch z⟩⟩
   |dx kvs=>
    obtain⟨a,l,g1,g2,g3,g4⟩:=f2.1;exact⟨⟨a,l,g1,by rw[aD (aY g2 hL)];exact g2,g3,g4.move mv⟩,λ_=>⟨a,g1,by show H a≠af;rw[g2];exact λz=>nomatch z⟩⟩
   |ob o=>
    refine⟨?_,λz=>by cases z⟩;exact ORel.move mv f2.1
  ·obtain⟨a,l,g1,g2,g3,g4,g5,g6⟩:=f2;exact⟨⟨a,l,g1,by rw[aD (aY g2 hL)];exact g2,λz=>R.t0 (z▸g4),g6.move mv⟩,λ_=>⟨a,g1,by show H a≠af;rw[g2];exact λz=>nomatch z⟩⟩
  ·obtain⟨a,l,g1,g2,g3,g4,g5,g6⟩:=f2;exact⟨⟨a,l,g1,by rw[aD (aY g2 hL)];exact g2,λz=>R.t0 (z▸g4),g5,g6.move mv⟩,λ_=>⟨a,g1,by show H a≠af;rw[g2];exact λz=>nomatch z⟩⟩
  ·obtain⟨a,l,g1,g2,g3,g4,g5,g6⟩:=f2;exact⟨⟨a,l,g1,by rw[aD (aY g2 hL)];exact g2,λz=>R.t0 (z▸g4),g6.move mv⟩,λ_=>⟨a,g1,by show H a≠af;rw[g2];exact λz=>nomatch z⟩⟩
 ow:=λi j x y v e1 e2 o1 o2 _ _=>by
  obtain⟨_,_,_,_,hy⟩:=vc e1;rcases hy with⟨z,rfl,_⟩|⟨kvs,rfl,_⟩|⟨ds,rfl,_⟩|⟨kvs,rfl,_⟩
  ·cases o1
  ·cases o1
  ·cases o1
  ·cases o1
 len:=by rw[TU,OC]
section
variable{X:Cx}{elt tg iter:Expr}{ifs:List Expr}{scope:E7}{cl:List (Str×Addr)}{pos:Pos}{N:List Str}{fr:List (Option Nat)}{wi:TI}{v:gc}{g:TG}{gd:eM}{tt:TT}{cc:bR}{te:TE}{we:DT}
def qm(δ:Sl):Prop:=∀(i:Nat)(x:SV),δ[i]?=ae (ae x)->x.isOwn=ai
theorem L5(fr)(δ):qm (jG fr δ):=λi x e=>by
 obtain⟨_,_,_,_,hy⟩:=vc e;rcases hy with⟨z,rfl,_⟩|⟨kvs,rfl,_⟩|⟨ds,rfl,_⟩|⟨kvs,rfl,_⟩<;>rfl
def uI(v:eM):Prop:=∀d δ Q,qm δ->v d δ Q->v d δ λδ'=>qm δ'/\Q δ'
theorem OY(i):uI (cj i):=λd δ Q h q=>⟨λj x e=>by
 rcases eU e with⟨_,rfl⟩|⟨_,e'⟩
 ·rfl
 ·exact h j x e',q⟩
theorem yh(hc:X.calm=ah)(S:CompSc X N scope cl fr)(hi:DI X tg iter wi v)(hg:∀s H fp,DG (cC X N scope cl s H fp) tg g gd)(ht:∀s H fp,DIf (cC X N scope cl s H fp) ifs tt cc)
  (he:∀s H fp,DE (cC X N scope cl s H fp) elt te we) (hno:uI gd) (hs:∀x,F0 iter X.env x=pure x:=by intro _;rfl):
  DF X (.ListComp elt [⟨tg,iter,ifs,0⟩] scope pos) (sx fr wi g tt te) (dO fr v gd cc we):=by
 refine⟨Ir hc S hi.pi (λs H fp=>(hg s H fp).pg) (λs H fp=>(ht s H fp).pf) (λs H fp=>(he s H fp).pe) hs,λC H B σ δ n Q Q' R q k=>hi.sd C H B σ δ n _ _ R q λJ ds H1 n1 R1 k1 hJ q1=>λL hL=>?_⟩;have sg:=(hg X.s₀ X.H₀ []).sd;have st:=(ht X.s₀ X.H₀ []).sd;have se:=(he X.s₀ X.H₀ []).sd;have ok:=hJ (cR H1 B) (pq H1 B);have hLt:L≠C.t:=λz=>R1.ba _ R1.bt (z▸hL);refine⟨λi m ys τ H=>m=ds.length-i/\i<=ds.length/\ys.length<=i/\∃δ' n' acc,Rel ⟨C.t,C.l,C.ns,H1,B,cR H1 B⟩ H (λb=>B b\/b=L) τ δ' n'/\qm δ'/\H L=ae (.lst ys)/\RdXs H (λb=>B b\/b=L) ys acc/\eY gd cc we Q (ds.drop i) acc δ' n',
  ⟨ds.length,by simp,Az _,Az _,jG fr δ,n1,[],Ln R1 hL,L5 fr δ,aR,.nil,by simpa using q1⟩,?_⟩
 rintro i m ys τ H2 ⟨rfl,hi,hys,δ2,n2,acc,R2,no2,hL2,rd2,q2⟩
 have hfz:∀b o,cR H1 B b=ae o->H2 b=ae o:=λb o e=>(R2.fz b o e).1;by_cases hlt:i < ds.length
 ·rw[Hm hlt]at q2;refine .inr ⟨ok.go i H2 hfz hlt,Bd (Hh hys hlt) ok.le,λx H' hy=>?_⟩;obtain⟨sm,rd⟩:=ok.yld i H2 x H' ds[i] hfz (Ag hlt) hy;have R3:=R2.same sm;refine sg _ H' _ τ δ2 n2 x ds[i] _ _ R3 (rd _ (λb o e=>(R2.fz b o e).2) R2.ba) (hno _ _ _ no2 q2) λτ3 δ3 R4 ⟨no3,q4⟩=>?_;refine st _ H' _ τ3 δ3 n2 _ _ R4 q4 λb H4 n4 R5 k5 q5=>?_;have hL4:H4 L=ae (.lst ys):=k5 _ _ (sm _ _ hL2) hLt;have rd4:RdXs H4 (λb=>B b\/b=L) ys acc:=(rd2.keep λb o e _=>sm b o e).kp k5 R4.bt;cases b with
  |false=>
   rw[if_neg Ak]at q5 ⊢;exact⟨ds.length-(i+1),by omega,rfl,hlt,by omega,δ3,n4,acc,R5,no3,hL4,rd4,q5⟩
  |true=>
   rw[if_pos rfl]at q5 ⊢;refine se _ H4 _ τ3 δ3 n4 _ _ R5 q5 λu y H5 n5 R6 k6 r6 q6=>?_;cases y with
   |d y=>
    have hL5:H5 L=ae (.lst ys):=k6 _ _ hL4 hLt;refine⟨hL5,ds.length-(i+1),by omega,rfl,hlt,by rw[A2,C9];omega,δ3,n5,acc++[y],R6.mut (.inr rfl) hL λj z e o=>absurd (no3 j z e) (by rw[o];exact λq=>nomatch q),no3,aR,?_,q6⟩;refine RdXs.keep (λb o e n=>?_) ((rd4.kp k6 R5.bt).append (.cons r6 .nil));rw[aD λ(z:b=L)=>n (.inr z)];exact e
   |tp=>exact q6.elim
   |dk _=>exact q6.elim
   |dx _=>exact q6.elim
   |ln _=>exact q6.elim
   |ob _=>exact q6.elim
 ·have e:i=ds.length:=by omega
  subst e;rw[List.drop_length]at q2;refine .inl ⟨ok.stop H2 hfz,k L ys acc H2 n2 (R1.step R2.tp R2.kp) (k1.trans R2.kp) (R1.was k1 hL) hL2 (Bb hys ok.le) rd2 q2⟩
end
abbrev ee:=List Ab->Sl->(Sl->Prop)->Prop
def MZ(g:gT)(v:ee):Prop:=∀(C:Ctx)(H:Hp)(B:Addr->Prop)(σ:St)(δ:Sl)(n:Int)(xs:List V)(ds:List Ab)(Q:Sl->Prop)(Q':St->Hp->Prop),Rel C H B σ δ n->RdXs H B xs ds->v ds δ Q->
 (∀σ' δ',Rel C H B σ' δ' n->Q δ'->Q' σ' H)->g xs σ H Q'
structure DGs(X:Cx)(ts:List Expr)(g:gT)(v:ee):Prop where
 pg:nG X ts g
 sd:MZ g v
def jM:ee:=λds δ Q=>match ds with
 |[]=>Q δ
 |_=>False
def iu(v:eM)(r:ee):ee:=λds δ Q=>match ds with
 |d::ds=>v d δ λδ'=>r ds δ' Q
 |[]=>False
def lX(n:Nat)(r:ee):eM:=λd δ Q=>match d with
 |.tuple ds=>ds.length=n/\r ds δ Q
 |_=>False
section
variable{X:Cx}{pos:Pos}
theorem Sb:DGs X [] oP jM:=⟨MI,λC H B σ δ n xs ds Q Q' R r q k=>by
 cases r with
 |nil=>exact⟨rfl,k σ δ R q⟩
 |cons _ _=>exact q.elim⟩
end
section
variable{X:Cx}{pos:Pos}
theorem Me(h1:DG X e t v)(h2:DGs X es u r)
  (hs:(Es (e::es) X.env).map (·.2)=assign e X.env::(Es es X.env).map (·.2):=by rfl):DGs X (e::es) (CA t u) (iu v r):=⟨UX h1.pg h2.pg hs,λC H B σ δ n xs ds Q Q' R rr q k=>by
 cases rr with
 |nil=>exact q.elim
 |cons r1 r2=>exact⟨_,_,rfl,h1.sd C H B σ δ n _ _ _ _ R r1 q λσ' δ' R' q'=>h2.sd C H B σ' δ' n _ _ _ _ R' r2 q' k⟩⟩
theorem LQ{k:Nat}{n:Nat}(h:DGs X es t r)(hc:X.calm=ah:=by rfl)
  (hn:(Es es X.env).length=n:=by rfl) (hst:(Es es X.env).findIdx? (·.1)=af:=by rfl):DG X (.Tuple es k pos) (kR X.K n t) (lX n r):=⟨SD hc h.pg hn hst,λC H B σ δ n' x d Q Q' R rr q k=>by
 unfold lX at q
 split at q
 ·rename_i ds;cases rr with
  |@tup ay ys _ e1 e2 e3 e4=>exact⟨ay,ys,rfl,SqT.of e1,by rw[e4.len];exact q.1,h.sd C H B σ δ n' _ _ _ _ R e4 q.2 k⟩
 ·exact q.elim⟩
end
structure Has(P:A7)(w:Bi)(K:Af)(mg:Str->Option Ae)(base:Heap)(k:Nat)(x:Str)(ps:List Str)(S:aL):Prop where
 ex:∃(f:Addr)(fd:Bz),FnOk P w K mg base cb k f fd ps (cu S)/\Binds K fd ps []/\mg x=ae (.ref f)/\Bx K (.ref f)=ah
section
variable{P:A7}{w:Bi}{K:Af}{mg:Str->Option Ae}{base:Heap}
theorem Has.mk'(F:Fun K x qual st f fd)(m:mg x=ae (.ref f))(b:Binds K fd ps [])(h:FnOk P w K mg base cb k f fd ps (cu S)):Has P w K mg base k x ps S:=⟨f,fd,h,b,m,F.kp⟩
end
theorem rY{pos p:Pos}(h:Has X.prog X.w X.K X.mg X.base k x ps S)(hr:Room k X.A)(hg:Gl X x)
  (ha:DA X (e::es) tR wR) (hdb:(x==("__debug__":Str))=ai:=by decide) (he:Ap (e::es) X.env=(ai,eval e X.env)::Ap es X.env:=by rfl) (hpl:(Cy pos (Ap es X.env)).any (·.1)=ai:=by rfl):
  DE X (.Call (.Name x p) (e::es) [] pos) (fH (cu S) [] E0 tR) (aJ S wR):=by
 obtain⟨f,fd,h1,h2,h3,h4⟩:=h.ex;exact Jd h1 hr hg h3 h4 h2 ha hdb he hpl
theorem Ry{cl cells:List (Str×Addr)}(h:∀y∈cl,cells.lookup y.1=ae y.2):∀x c,cl.lookup x=ae c->cells.lookup x=ae c:=λx c e=>h _ (qd e)
def fN:aL:=λws n Q=>match ws with
 |[.tp,.d (.int many)]=>(n < 2 ^ 40/\0 < many/\many < 1073741824)/\∀r:Int,0<=r->r < many->Q (.d (.int r)) (n+1)
 |_=>False
section
variable{P:A7}{w:Bi}{K:Af}{mg:Str->Option Ae}{base:Heap}
theorem MS(h:FnOk P w K mg base cb k f fd ps BW):FnOk P w K mg base cb k f fd ps (cu fN):=h.imp λvs H Q E hs=>by
 obtain⟨t,l,ns,B,ws,n,Q0,T,bt,ba,r,q,kk⟩:=hs;unfold fN at q
 split at q
 ·rename_i many;cases r with
  |cons r1 r2=>
   cases r2 with
   |cons r3 r4=>
    cases r4;cases(show _=V.ref t from r1);cases(show RdX H B _ (.int many)from r3);exact⟨t,l,ns,n,many,rfl,T,q.1.1,q.1.2.1,q.1.2.2,λr H' h0 h1 T' k'=>kk _ _ (q.2 r h0 h1) _ H' T' k' (.int r)⟩
 ·exact q.elim
def spLaw(K:Af):Sp:=λvs H Q _=>∃(a:Addr)(ns:List Int),vs=[.ref a]/\SqL K H a (ns.map V.int)/\ns.length<=63/\∀H',Q (.bl ah) H'
def pG:DEnds:={ nx:=λ_ _=>False,rt:=λw _=>w=.d (.bool ah)}
theorem Mn{a:V}(T:Tp H t l ns 0):Rel ⟨t,l,ns,H,λb=>b=t,λ_=>af⟩ H (λb=>b=t) (ae a::ae (.ref t)::Ay k af) (af::ae (.w .tp)::Ay k af) 0 where
 tp:=T
 kp:=Kp.refl _ _
 t0:=by
  obtain⟨_,_,h,_⟩:=T.ob;show H t≠af;rw[h];exact λz=>nomatch z
 l0:=by
  show H l.s≠af;rw[T.ls];exact λz=>nomatch z
 g0:=λe=>by
  show H l.g≠af;rw[T.ag e];exact λz=>nomatch z
 fz:=λb o e=>nomatch e
 bt:=rfl
 b0:=λ_ z=>z
 ba:=λb z=>by
  obtain⟨_,_,h,_⟩:=T.ob;rw[z,h];exact λz=>nomatch z
 a0:=λb z=>by
  obtain⟨_,_,h,_⟩:=T.ob;show H b≠af;rw[show b=t from z,h];exact λz=>nomatch z
 sl:=λi x e=>by
  rcases i with _|_|i
  ·cases e
  ·cases e;exact⟨_,rfl,rfl,λz=>by cases z⟩
  ·have e':(Ay k (af:Option SV))[i]?=ae (ae x):=e;rw[Cq]at e'
   split at e'
   ·cases e'
   ·cases e'
 ow:=λi j x y v e1 e2 o1 o2 f1 f2=>by
  rcases i with _|_|i
  ·cases e1
  ·cases e1;cases o1
  ·have e':(Ay k (af:Option SV))[i]?=ae (ae x):=e1;rw[Cq]at e'
   split at e'
   ·cases e'
   ·cases e'
 len:=by simp
theorem MW(F:Fun K "law" "law" st f fd)(Sc:FnScope N ["_law_script"] (bw st))
  (GT:FnOk P w K mg base cb 1 fT fdT ["_law_script"] (pU K)) (bT:Binds K fdT ["_law_script"] []) (mT:mg "_law_tape"=ae (.ref fT)) (kT:Bx K (.ref fT)=ah)
  (hN:∀v,start N [v]=ae v::af::Ay (N.length-2) af)
  (hW:W (af::ae (.w .tp)::Ay (N.length-2) af) 0 pG)
  (hbody:∀(cdv:Ae)(A:Br)(outer:List Env)(s:Ai)(H:Hp)(E:XK),Room k (A.deeper (Cu "law" (bw st) s.heap.objs.size f cdv))->
   ∃s0 rest T,eR st=s0::rest/\PS (bz cb P w K mg base N "law" (bw st) f cdv A outer s H E).nox s0 (aW (fH (pU K) [] E0 (aM (az 0) aI)) (cv 1))/\DSs (bz cb P w K mg base N "law" (bw st) f cdv A outer s H E).nox rest T W):
  FnOk P w K mg base cb (k+1) f fd ["_law_script"] (spLaw K):=by
 refine F.ok Sc (λvs H Q E h=>?_) (λcdv A outer s H vs Q E hr h=>?_)
 ·obtain⟨a,ns,rfl,_⟩:=h;rfl
 ·obtain⟨a,ns,rfl,hS,hl,kk⟩:=h;obtain⟨s0,rest,T,e,p0,d⟩:=hbody cdv A outer s H E hr;rw[e];refine⟨_,f9 p0 d.ps,?_⟩;rw[hN];refine⟨_,rfl,a,ns,rfl,hS,hl,λt l H1 T1 _=>?_⟩;refine d.sd ⟨t,l,ns,H1,λb=>b=t,λ_=>af⟩ H1 (λb=>b=t) _ _ 0 pG _ (Mn (a:=.ref a) (k:=N.length-2) T1) hW ⟨?_,?_,?_,?_,λ_ _ _ _ _ _ _ _ _ _ _ _ _ z=>z.elim,λ_ _ _ _ _ _ _ _ _ _ _ _ _ z=>z.elim⟩
  ·exact λ_ _ _ _ _ _ z=>z.elim
  ·intro H B σ δ n v w R r z;have z:w=.d (.bool ah):=z;subst z;cases(show RdX H B v (.bool ah)from r);exact kk H
  ·exact λ_ _ _ _ _ _ z=>z.elim
  ·exact λ_ _ _ _ _ _ z=>z.elim
end
end DL
local macro_rules|`(⇑$n:num)=>`(DL.wC (.int $n))
local macro_rules|`(↥$n:num)=>`(DL.aj $n)
namespace Nb
open PySem L2 DL
def rK(c:Nat):Bool:=!decide ([c] < ("a":Str).cps.toList)&&!decide (("z":Str).cps.toList < [c])
def mU(k:Int):Ab->Bool
 |.str x=>decide ((1:Int)<=(x.length:Int))&&(decide ((x.length:Int)<=k)&&x.cps.toList.all rK)
 |_=>ai
def okD:Ab->Bool
 |.str y=>!decide (y.cps.toList < ("a":Str).cps.toList)&&!decide (("z":Str).cps.toList < y.cps.toList)
 |_=>ai
theorem vj{α:Type}(f):∀l:List α,iN (l.map λa=>.bool (f a))=ae (l.map f)
 |[]=>rfl
 |a::r=>by
  show(iN (r.map λa=>.bool (f a))).map _=_;rw[vj f r];rfl
theorem Uu{r:Int}(h0:0<=r)(h1:r < xs.length):∃v,df xs r=ae v/\v∈xs:=by
 obtain⟨j,rfl⟩:=Int.eq_ofNat_of_zero_le h0;have hj:j < xs.length:=by omega
 exact⟨xs[j],fG (Ag hj),Cm hj⟩
theorem IQ(d):gB "list" d=match d with|.list _=>ah|_=>ai:=by cases d<;>rfl
theorem sD{A B:Prop}(h1:b=ah->A)(h2:b=ai->B):if b=ah then A else B:=by
 cases b with
 |true=>rw[if_pos rfl];exact h1 rfl
 |false=>rw[if_neg Ak];exact h2 rfl
end Nb
namespace DL
open PySem L2 Nb
section
variable{X:Cx}{tg a b c e:Expr}{ta tb tc te:TE}{wa wb wc we:DT}{pos p:Pos}{K:Af}
theorem TY(ha:DE X a ta wa)(hb:DE X b tb wb)(hK:X.K=K:=by rfl)(hs:qp b:=by exact λ_ _=>rfl):DE X (.Subscript a b pos) (cS (lZ K) ta tb) (w2 wa wb aB):=by subst hK;exact wQ ha hb hs
def xR(K:Af)(T:String):List V->Hp->VK->Prop:=λxs H Q=>∃x t b,xs=[x,.ty T]/\TyOf K H x t/\D6 K t (.type T)=ae b/\Q (.bl b) H
theorem Rg{p p2:Pos}(hT:T="int"\/T="bool"\/T="str"\/T="tuple"\/T="list")(hg:Gl X "isinstance")(hm:X.mg "isinstance"=af)(hg2:Gl X x)(hm2:X.mg x=af)(hv:Bp x=ae (.type T))(ha:DE X a ta wa)(hK:X.K=K:=by rfl)(hn:x≠"__name__":=by decide)(hdb:(x==("__debug__":Str))=ai:=by decide)
  (he:Ap [a,.Name x p2] X.env=(ai,eval a X.env)::Ap [.Name x p2] X.env:=by rfl) (he2:Ap [.Name x p2] X.env=(ai,eval (.Name x p2) X.env)::Ap [] X.env:=by rfl) (hpl:(Cy pos (Ap [.Name x p2] X.env)).any (·.1)=ai:=by rfl):
  DE X (.Call (.Name "isinstance" p) [a,.Name x p2] [] pos) (eT (xR K T) (aM ta (aM (tC (.ty T)) aI))) (dH T wa):=by subst hK;exact QZ hT hg hm hg2 hm2 hv ha hn hdb he he2 hpl
def gz(K:Af):R2:=λx y H Q=>sQ x y H Q\/qV x y H Q\/sH K x y H Q
theorem jf(hu:X.A.units < Dj)(hK:X.K=K:=by rfl):OpR X (Bu .Eq) (gz K):=by subst hK;exact JY hu
theorem iJ:bb (gz K) bM:=L3
theorem yM(hK:X.K=K:=by rfl):OpR X (Bu .In) (jn K ai):=by subst hK;exact KI
theorem Ia(hK:X.K=K:=by rfl):OpR X (Bu .NotIn) (jn K ah):=by subst hK;exact QC
def tN(K:Af):List V->Hp->VK->Prop:=λxs H Q=>(∃z,xs=[.str z]/\z.length<=Ar/\Q (.int z.length) H)\/∃p ys,xs=[.ref p]/\(SqL K H p ys\/SqT K H p ys)/\Q (.int ys.length) H
theorem uZ(hK:X.K=K:=by rfl):CallR X (.builtin "len") (tN K):=by subst hK;exact Si
theorem xk:cL (tN K) bK:=T2
def wX(K:Af):List V->Hp->VK->Prop:=λxs H Q=>∃p ys,xs=[.ref p]/\((SqL K H p ys/\∀l,H l=af->Q (.ref l) (upd H l (.tup ys)))\/(SqT K H p ys/\Q (.ref p) H))
theorem GQ(hK:X.K=K:=by rfl):CallR X (.type "tuple") (wX K):=by subst hK;exact Pd
theorem yF:cL (wX K) gy:=QE
theorem CQ(ha:DE X a ta wa)(hK:X.K=K:=by rfl):DI X tg a (om K ta) (mw wa):=by subst hK;exact P4 ha
theorem Rl(ha:DE X a ta wa)(hK:X.K=K:=by rfl):DI X tg a (lF K ta) (gi wa):=by subst hK;exact ND ha
theorem UM{k:Nat}{n:Nat}(h:DGs X es t r)(hc:X.calm=ah:=by rfl)(hK:X.K=K:=by rfl)
  (hn:(Es es X.env).length=n:=by rfl) (hst:(Es es X.env).findIdx? (·.1)=af:=by rfl):DG X (.Tuple es k pos) (kR K n t) (lX n r):=by subst hK;exact LQ h hc hn hst
end
end DL
namespace L2
open PySem PySem.Spec PyProof.Rows
theorem Sy{cpos pos pos':Pos}
  (hN:X.N.Nodup) (hix:X.N[i]?=ae x) (hx:X.env.scope.names.lookup x=ae .local)
  (hc:X.calm=ah) (S:CompSc X N scope cl fr) (hi:PI X tg iter wi) (hg:∀s H fp,PG (cC X N scope cl s H fp) tg g) (ht:∀s H fp,mB (cC X N scope cl s H fp) ifs tt)
  (he:∀s H fp,PE (cC X N scope cl s H fp) elt te) (hs:∀x,F0 iter X.env x=pure x:=by intro _;rfl)
  (hsw:Dp (.ListComp elt [⟨tg,iter,ifs,0⟩] scope cpos) (ae (.Name x pos')) pos.line X.env=pure ah:=by rfl):
  PS X (.Assign [.Name x pos'] (.ListComp elt [⟨tg,iter,ifs,0⟩] scope cpos) pos) (aW (sx fr wi g tt te) (cv i)):=by
 intro pins s σ H D I h;rw[exec_Assign_Name_used _ _ _ _ hsw];refine Aa (Fv (Aa ?_));show Av _ _ (do let _ <-comprehension (.ListComp elt [⟨tg,iter,ifs,0⟩] scope cpos) scope X.env (firstIterPos [⟨tg,iter,ifs,0⟩] cpos) (newList []) (firstAsync [⟨tg,iter,ifs,0⟩]) (firstIter [⟨tg,iter,ifs,0⟩] X.env) (ae (assign (.Name x pos') X.env))) _ _ s;refine Aa ?_;have fin:∀(u:Unit)(s':Ai),SP X pins D .next s'->Av (A9 X.prog X.w) X.A (pure Flow.next) (SP X pins D) X.xe s':=λ_ s' z=>Aj z
 refine aG (Q:=λ_ s'=>SP X pins D .next s') ?_ λ_ s' z=>Aj (Aj z);refine wpAny_comprehension_free (use:=ae (assign (.Name x pos') X.env)) (cl:=cl) rfl hs S.clos S.kind S.names (aG (hi pins s σ H _ I h) λv s1 h1=>aG h1 λitv s2 h2=>?_);obtain⟨it,fp,tn,J,H2,e,I2,T,st2,f2,q⟩:=h2;subst e;refine Ct (wpAny_newFunctionEnv S.nocell (by intro y hy;simp at hy) (λh₁ hn hsb=>?_) S.kind);dsimp only at hn hsb ⊢;obtain⟨W,⟨m0,w0⟩,turn⟩:=q s2.heap.objs.size I2.fresh
 have I3:Inv X pins σ (upd H2 s2.heap.objs.size (.lst [])) {s2 with heap:=s2.heap.push {cls:=.type "list",dict:=af,data:=.seq ([]:List Ae).toArray}}:=I2.lnew (its:=[]) (t':=s2.toks) .nil (Az _);have key:∀s3:Ai,s3={ s2 with heap:=s2.heap.push {cls:=.type "list",dict:=af,data:=.seq ([]:List Ae).toArray}}->Inv X pins σ (upd H2 s2.heap.objs.size (.lst [])) s3->
   ∀(ob:Obj)(mm:Str->Option Ae),Dt s3.heap.objs.size (s3.heap.push ob) h₁->h₁.Ns s3.heap.objs.size mm->
   Gr (A9 X.prog X.w) X.A (.compStart (.ListComp elt [⟨tg,iter,ifs,0⟩] scope cpos) 0 (.ref it) (.ref s2.heap.objs.size) (compEnvC scope cl s3.heap.objs.size X.env))
    (compPost (A9 X.prog X.w) X.A X.xe (ae (assign (.Name x pos') X.env)) (λ_ s'=>SP X pins D .next s') (.ref s2.heap.objs.size) s3.heap.objs.size) {s3 with heap:=h₁,toks:=s3.toks+([]:List (Str×Ae)).length}:=?key
 ·exact key _ rfl I3 _ _ hsb hn
 clear I3 hn hsb;intro s3 hs3 I3 ob mm hsb hn;have hfp:∀b∈fp,∃o,s2.heap.get? b=ae o:=λb hb=>let⟨o,e,_⟩:=T.obj _ _ st2 b hb;⟨o,e⟩;have up:∀b o,s2.heap.get? b=ae o->s3.heap.get? b=ae o:=λb o e=>by rw[hs3];exact Ah _ e
 have f3:∀b∈fp,cw X pins (upd H2 s2.heap.objs.size (.lst [])) b:=λb hb=>by
  obtain⟨o,e⟩:=hfp b hb;obtain⟨g0,gr⟩:=f2 b hb;exact⟨by rw[aD (A8 (Ao e))];exact g0,gr⟩
 have hlt:∀b∈fp,b < s3.heap.objs.size:=λb hb=>let⟨o,e⟩:=hfp b hb;Ao (up b o e);generalize hH3:upd H2 s2.heap.objs.size (.lst [])=H3 at I3 f3 w0;have I4:=HW (t':=s3.toks+([]:List (Str×Ae)).length) S I3 f3 hlt hsb hn;have st4:tn 0 h₁:=T.keep _ _ _ st2 λb hb o e=>(hsb.2 b (A8 (Ao (up b o e)))).trans (Ah _ (up b o e));have stat:∀{H':Hp},(∀b∈fp,H' b=af)->∀b∈fp,cw (cC X N scope cl s3 H3 fp) [] H' b:=λhn b hb=>by
  obtain⟨_,k1,k2,k3,k4,k5⟩:=f3 b hb;refine⟨hn b hb,A8 (hlt b hb),λz=>?_,.inl hb,λx c e=>k4 x c (S.sub x c e),λp hp=>absurd hp (by simp[cC])⟩;rcases Aw.mp (I3.stkSub b z)with e|e
  ·exact k1 e
  ·exact k2 e
 have loop:Gr (A9 X.prog X.w) X.A (.compLoop (.ListComp elt [⟨tg,iter,ifs,0⟩] scope cpos) 0 (.ref it) (.ref s2.heap.objs.size) (compEnvC scope cl s3.heap.objs.size X.env))
   (compPost (A9 X.prog X.w) X.A X.xe (ae (assign (.Name x pos') X.env)) (λ_ s'=>SP X pins D .next s') (.ref s2.heap.objs.size) s3.heap.objs.size) {s3 with heap:=h₁,toks:=s3.toks+([]:List (Str×Ae)).length}:=by
  refine zk (λn s'=>∃i ys τ Hc,Inv (cC X N scope cl s3 H3 fp) [] τ Hc s'/\tn i s'.heap/\(∀b∈fp,Hc b=af)/\W i n ys τ Hc) ?_ m0 ⟨0,[],cX fr σ,H3,I4,st4,λb hb=>(f3 b hb).1,w0⟩
  rintro n s5 ⟨i,ys,τ,Hc,I5,st5,fr5,w5⟩
  rcases turn i n ys τ Hc w5 with⟨stop,qn⟩|⟨go,hz,step⟩
  ·refine aG (T.done (cC X N scope cl s3 H3 fp) rfl rfl rfl hc i [] s5 τ Hc (λ_ _=>False) I5 (stat fr5) st5 stop) λr s6 ⟨hr,I6⟩=>?_;subst hr;obtain⟨mm,hm,_⟩:=I6.loc;have I6x:Inv X pins σ Hc s6:=EE I3 f3 I6 (Heap.SameBut.refl _ _);have hC:Hc s3.heap.objs.size=af:=I6.free;obtain⟨_,c1,_,c3,c4,c5⟩:=I3.fpOk (H':=Hc) (Am _) hC;show Av (A9 X.prog X.w) X.A (assign (.Name x pos') X.env (.ref s2.heap.objs.size)) _ X.xe s6;refine wpAny_assign_Name (Iv I6x hN hix (.inl hx) (show RelV (.ref s2.heap.objs.size) (As s2.heap.objs.size)from rfl) (λs7 I7 hsb=>?_) (.inr hx));obtain⟨ad,hsb,had⟩:=hsb;have hne:s3.heap.objs.size≠ad:=by
    rcases had with z|z
    ·rw[z];exact c1
    ·exact λq=>c4 x ad z q.symm
   obtain⟨oo,es,ep,ho,rr⟩:=hm;refine⟨mm,⟨oo,es,ep,(hsb.2 _ hne).trans ho,rr⟩,λh' hs'=>⟨_,Hc,?_,qn⟩⟩;have ne:∀b,b∉[s3.heap.objs.size]->b≠s3.heap.objs.size:=λb z q=>z (by rw[q];exact Bn.mpr rfl);have hok':HOk X.prog X.w Hc h':=λb o e=>by
    refine(I7.hok b o e).stay (λc v hc z=>(hs'.2 c ?_).trans z) (λ_ z=>z) λ_ _ z=>z
    rintro rfl
    rcases hc with z|z
    ·rw[<-z,hC]at e;cases e
    ·rw[hC]at z;cases z
   refine I7.call' (s':={ s7 with heap:=h'}) (ch:=[s3.heap.objs.size]) rfl ?_ hok' I7.bare λb hb=>?_
   ·exact⟨λb o e n h1 h2=>(hs'.2 b (ne b h2)).trans e,λb o e n h1 h2=>⟨o.slots,(hs'.2 b (ne b h2)).trans e⟩,λb o e n h2=>n,λb o e h2=>⟨o,(hs'.2 b (ne b h2)).trans e⟩,λ_ _ z=>z,λ_ _ _ z=>z,λb ps z=>⟨#[],by rw[Array.append_empty];exact z⟩⟩
   ·cases Bn.mp hb;exact⟨c3,c1,c4,c5⟩
  ·refine aG (T.item (cC X N scope cl s3 H3 fp) rfl rfl rfl hc i [] s5 τ Hc (λ_ _=>False) I5 (stat fr5) st5 go) λr s6 ⟨u,hr,h6⟩=>?_;subst hr;refine aG h6 λ_ s7 ⟨x,H7,I7,r7,y7,st7,fr7⟩=>?_;have I7':=I7.pinned (stat fr7) (T.obj _ _ st7);refine aG (hg s3 H3 fp _ s7 τ H7 x u _ I7' r7 (step x H7 y7)) λ_ s8 ⟨τ8,H8,I8,q8⟩=>?_;refine aG (ht s3 H3 fp _ s8 τ8 H8 _ I8 q8) λok s9 ⟨H9,I9,q9⟩=>?_;have keep:∀{st:Ai}{τ':St}{H':Hp},Inv (cC X N scope cl s3 H3 fp) ([]++mN fp s7.heap) τ' H' st->tn (i+1) st.heap/\∀b∈fp,H' b=af:=λ{st τ' H'} Ix=>by
    refine⟨T.keep _ _ _ st7 λb hb o e=>(Ix.pin (b,o) (Bt _ (Bt _ (mC hb e)))).1,λb hb=>?_⟩;obtain⟨o,e,d⟩:=T.obj _ _ st7 b hb;exact(Ix.pin (b,o) (Bt _ (Bt _ (mC hb e)))).2.1
   cases ok with
   |false=>
    rw[if_neg Ak]at q9 ⊢;obtain⟨m',hm,w9⟩:=q9;obtain⟨k1,k2⟩:=keep I9;exact⟨m',hm,i+1,ys,τ8,H9,I9.unpinned,k1,k2,w9⟩
   |true=>
    rw[if_pos rfl]at q9 ⊢;refine aG (he s3 H3 fp _ s9 τ8 H9 _ I9 q9) λxv s10 ⟨y,H10,I10,r10,hD,m',hm,w10⟩=>?_;refine aG (tU _ s10 τ8 H10 (.ref s2.heap.objs.size) [y] (.ref s2.heap.objs.size) [xv] (λz H'=>∃m',m' < n/\W (i+1) m' (ys++[y]) τ8 H') I10 rfl (.cons r10 .nil) ⟨_,ys,y,rfl,rfl,hD,hz,m',hm,w10⟩) λz s11 ⟨z',H11,I11,_,m'',hm',w11⟩=>?_;obtain⟨k1,k2⟩:=keep I11;exact⟨m'',hm',i+1,ys++[y],τ8,H11,I11.unpinned,k1,k2,w11⟩
 exact codeAny_compStart_list loop (T.self _ 0 _ _ _ st4 loop)
end L2
namespace DL
open PySem L2 Nb
section
variable{X:Cx}{elt tg iter:Expr}{ifs:List Expr}{scope:E7}{cl:List (Str×Addr)}{cpos pos pos':Pos}{N:List Str}{fr:List (Option Nat)}{wi:TI}{v:gc}{g:TG}{gd:eM}{tt:TT}{cc:bR}{te:TE}{we:DT}{i:Nat}{x:Str}
theorem Jt(h:du t w):i9 (aW t (cv i)) (aA i w):=λC H B σ δ n K D R q E=>
 h C H B σ δ n _ _ R q λv x H1 n1 R1 _ r1 q1=>by
  cases x with
  |d d=>exact E.nx _ _ _ _ _ (R1.set r1 rfl) q1
  |tp=>exact E.nx _ _ _ _ _ (R1.set r1 rfl) q1
  |dk _=>exact q1.elim
  |dx _=>exact q1.elim
  |ln _=>exact q1.elim
  |ob _=>exact E.nx _ _ _ _ _ (R1.set r1 rfl) q1
theorem Tx(hN:X.N.Nodup)(hix:X.N[i]?=ae x)(hx:X.env.scope.names.lookup x=ae .local)(hc:X.calm=ah)(S:CompSc X N scope cl fr)(hi:DI X tg iter wi v)(hg:∀s H fp,DG (cC X N scope cl s H fp) tg g gd)(ht:∀s H fp,DIf (cC X N scope cl s H fp) ifs tt cc)
  (he:∀s H fp,DE (cC X N scope cl s H fp) elt te we) (hno:uI gd) (hs:∀x,F0 iter X.env x=pure x:=by intro _;rfl)
  (hsw:Dp (.ListComp elt [⟨tg,iter,ifs,0⟩] scope cpos) (ae (.Name x pos')) pos.line X.env=pure ah:=by rfl):
  DS X (.Assign [.Name x pos'] (.ListComp elt [⟨tg,iter,ifs,0⟩] scope cpos) pos) (aW (sx fr wi g tt te) (cv i)) (aA i (bU (dO fr v gd cc we))):=
 ⟨Sy hN hix hx hc S hi.pi (λs H fp=>(hg s H fp).pg) (λs H fp=>(ht s H fp).pf) (λs H fp=>(he s H fp).pe) hs hsw,Jt (yh (pos:=cpos) hc S hi hg ht he hno hs).d.sd⟩
end
end DL
namespace KS
open PySem PySem.W PyProof.Rows
def run{α:Type}(c:Nat->Nat->Bool):KasT α->α
 |.ret a=>a
 |.ask i j k=>run c (k (c i j))
theorem mI(c)(f:α->KasT β):∀t:KasT α,run c (t.bind f)=run c (f (run c t))
 |.ret _=>rfl
 |.ask i j k=>mI c f (k (c i j))
def Wi{α:Type}(n:Nat)(P:α->Prop):KasT α->Prop
 |.ret a=>P a
 |.ask i j k=>i < n/\j < n/\∀b,Wi n P (k b)
theorem Wi.bind{f:α->KasT β}(hf:∀a,P a->Wi n R (f a)):∀{t:KasT α},Wi n P t->Wi n R (t.bind f)
 |.ret a,h=>hf a h
 |.ask i j k,h=>⟨h.1,h.2.1,λb=>Wi.bind hf (h.2.2 b)⟩
theorem Wi.out(c):∀{t:KasT α},Wi n P t->P (run c t)
 |.ret a,h=>h
 |.ask i j k,h=>Wi.out c (t:=k (c i j)) (h.2.2 (c i j))
theorem wp_run{St:Ai->Prop}
  (hc:∀i j C s,i < n->j < n->St s->(∀s',St s'->C (c i j) s')->cmp i j C s):∀(t:KasT α)(s:Ai),Wi n P t->St s->(∀s',St s'->Q (run c t) s')->t.kasWp cmp Q s
 |.ret a,s,_,hs,h=>h s hs
 |.ask i j k,s,w,hs,h=>hc i j _ s w.1 w.2.1 hs λs' hs'=>wp_run hc (k (c i j)) s' (w.2.2 _) hs' h
def Lo(n:Nat)(p:Array Nat):Prop:=∀i,p.getD i 0 < n
theorem j9(p:Array Nat)(i):p.getD i 0=(p[i]?).getD 0:=by simp
theorem T7(hn:0 < n)(h:∀x∈p,x < n):Lo n p:=λi=>by
 rw[j9];cases e:p[i]? with
 |none=>exact hn
 |some x=>exact h x (Array.mem_of_getElem? e)
def Pm(n:Nat)(p:Array Nat):Prop:=p.Perm (D7 (A5 n))
theorem Pm.size(h:Pm n p):p.size=n:=by rw[Array.Perm.size_eq h];simp
theorem Pm.lo(hn:0 < n)(h:Pm n p):Lo n p:=T7 hn λx hx=>by
 have:x∈D7 (A5 n):=(Array.Perm.mem_iff h).mp hx;simpa using this
theorem Pm.rev(h:Pm n p)(i j):Pm n (E6 p i j):=(mirror_perm p i j _).trans h
theorem Pm.bub(h:Pm n p)(i j):Pm n (bubble p i j):=(bubble_perm p i j).trans h
section
variable{n:Nat}(hn:0 < n)
include hn
theorem vX(h:Lo n p):∀f m,Wi n (λ_=>True) (kas_asc p f m)
 |0,m=>trivial
 |f+1,m=>⟨h _,h _,λb=>by
  cases b with
  |true=>exact trivial
  |false=>exact vX h f (m+1)⟩
theorem qo:∀f (p:Array Nat) m q,Pm n p->Wi n (λr=>Pm n r.1) (kas_desc f p m q)
 |0,p,m,q,h=>h
 |f+1,p,m,q,h=>⟨h.lo hn _,h.lo hn _,λb=>by
  cases b with
  |true=>
   show Wi n _ (if q > 0 then _ else _)
   split
   ·exact qo f _ _ _ (h.rev _ _)
   ·exact qo f _ _ _ h
  |false=>exact⟨h.lo hn _,h.lo hn _,λd=>by
    cases d with
    |true=>exact h
    |false=>exact qo f _ _ _ h⟩⟩
theorem HI(m nrem)(h:Pm n p):Wi n (λr=>Pm n r.2) (kas_tail3 m nrem p):=by
 unfold kas_tail3;refine Wi.bind (P:=λ_=>True) (λa _=>?_) (vX hn ((h.rev 0 m).lo hn) _ _);show Pm n (E6 p 0 m);exact h.rev _ _
theorem BB(m nrem)(h:Pm n p):Wi n (λr=>Pm n r.2) (kas_descPart m nrem p):=
 Wi.bind (λr hr=>by
  show Wi n _ (if r.2.2 > 0 then _ else _)
  split
  ·exact HI hn _ _ (Pm.rev hr _ _)
  ·exact HI hn _ _ hr) (qo hn _ p _ _ h)
theorem PN(nrem)(h:Pm n p):Wi n (λr=>Pm n r.2) (kas_count nrem p):=
 Wi.bind (λm _=>by
  show Wi n _ (if (m==nrem)=ah then _ else if m > 1 then _ else _)
  split
  ·exact h
  ·split
   ·exact⟨h.lo hn _,h.lo hn _,λb=>by
     cases b with
     |true=>exact h
     |false=>exact BB hn _ _ (h.rev _ _)⟩
   ·exact BB hn _ _ h) (vX hn (h.lo hn) _ _)
theorem tY(h:Lo n p)(k):∀f l r,Wi n (λ_=>True) (kas_place p k f l r)
 |0,l,r=>trivial
 |f+1,l,r=>by
  show Wi n _ (if l ≥ r then _ else _)
  split
  ·exact trivial
  ·exact⟨h _,h _,λb=>by
    cases b with
    |true=>exact tY h k f _ _
    |false=>exact tY h k f _ _⟩
theorem Iu:∀f (p:Array Nat) k,Pm n p->Wi n (Pm n) (kas_bin f p k)
 |0,p,k,h=>h
 |f+1,p,k,h=>Wi.bind (λl _=>Iu f _ _ (h.bub _ _)) (tY hn (h.lo hn) k _ _ _)
theorem wi_sort:Wi n (Pm n) (kas_sort n):=
 Wi.bind (λr hr=>by
  show Wi n _ (if r.1 < n then _ else _)
  split
  ·exact Iu hn _ _ _ hr
  ·exact hr) (PN hn n (Array.Perm.refl _))
end
structure Ord(lt:Nat->Nat->Bool):Prop where
 asym:∀i j,lt i j=ah->lt j i=ai
 ltr:∀i j k,lt j i=ai->lt k j=ai->lt k i=ai
section
variable{lt:Nat->Nat->Bool}(O:Ord lt)
def g(p:Array Nat)(i:Nat):Nat:=p.getD i 0
def SP(lt:Nat->Nat->Bool)(p:Array Nat)(n:Nat):Prop:=∀i j,i < j->j < n->lt (g p j) (g p i)=ai
def DP(lt:Nat->Nat->Bool)(p:Array Nat)(n:Nat):Prop:=∀i j,i < j->j < n->lt (g p i) (g p j)=ai
def Sim(lt:Nat->Nat->Bool)(x y:Nat):Prop:=lt x y=ai/\lt y x=ai
include O
theorem iS(i):lt i i=ai:=by
 cases e:lt i i with
 |false=>rfl
 |true=>exact(O.asym i i e).symm.trans e |>.symm▸rfl
theorem Sim.eq(h1:Sim lt a x)(h2:Sim lt b y):lt a b=lt x y:=by
 cases e:lt x y with
 |false=>exact O.ltr _ _ _ h2.2 (O.ltr _ _ _ e h1.1)
 |true=>
  cases e2:lt a b with
  |true=>rfl
  |false=>
   have:lt x y=ai:=O.ltr _ _ _ h2.1 (O.ltr _ _ _ e2 h1.2);rw[this]at e;cases e
theorem SP.snoc(h:SP lt p n)(h1:1<=n)(e:lt (g p n) (g p (n-1))=ai):SP lt p (n+1):=λi j hij hj=>by
 by_cases q:j < n
 ·exact h i j hij q
 ·have:j=n:=by omega
  subst this;by_cases r:i=j-1
  ·subst r;exact e
  ·exact O.ltr _ _ _ (h i (j-1) ⋯ ⋯) e
theorem xF:∀f n,1<=n->SP lt p n->n<=run lt (kas_asc p f n)/\run lt (kas_asc p f n)<=n+f/\SP lt p (run lt (kas_asc p f n))/\(run lt (kas_asc p f n)=n+f\/lt (g p (run lt (kas_asc p f n))) (g p (run lt (kas_asc p f n)-1))=ah)
 |0,n,h1,h=>⟨Am _,Am _,h,.inl rfl⟩
 |f+1,n,h1,h=>by
  have e:run lt (kas_asc p (f+1) n)=run lt (if lt (g p n) (g p (n-1))=ah then .ret n else kas_asc p f (n+1)):=rfl;rw[e];cases q:lt (g p n) (g p (n-1))with
  |true=>exact⟨Am _,Nat.le_add_right _ _,h,.inr q⟩
  |false=>
   rw[if_neg Ak];obtain⟨a1,a2,a3,a4⟩:=xF f (n+1) ⋯ (SP.snoc O h h1 q);exact⟨by omega,by omega,a3,a4.imp (λz=>by omega) id⟩
omit O
theorem v3(hj:j<=p.size)(k):g (E6 p i j) k=if i<=k/\k < j then g p (i+j-1-k)else g p k:=by
 unfold g E6;rw[j9,j9,j9,getElem?_mirror hj _ ⋯];by_cases h:i<=k/\k < j
 ·rw[if_pos h];by_cases q:(i<=k/\k < i+(j-i) / 2)\/(j-(j-i) / 2<=k/\k < j)
  ·rw[if_pos q]
  ·rw[if_neg q];have:i+j-1-k=k:=by omega
   rw[this]
 ·rw[if_neg h,if_neg ⋯]
include O
theorem vz(hj:j<=p.size)(h:∀a b,i<=a->a < j->i<=b->b < j->Sim lt (g p a) (g p b))(k):Sim lt (g (E6 p i j) k) (g p k):=by
 rw[v3 hj]
 split
 ·rename_i q;exact h _ _ ⋯ ⋯ q.1 q.2
 ·exact⟨iS O _,iS O _⟩
theorem DP.sim(h:DP lt p n)(s:∀k,Sim lt (g p' k) (g p k)):DP lt p' n:=λi j hij hj=>(Sim.eq O (s i) (s j)).trans (h i j hij hj)
theorem DP.snoc(h:DP lt p n)(h1:1<=n)(e:lt (g p (n-1)) (g p n)=ai):DP lt p (n+1):=λi j hij hj=>by
 by_cases q:j < n
 ·exact h i j hij q
 ·have:j=n:=by omega
  subst this;by_cases r:i=j-1
  ·subst r;exact e
  ·exact O.ltr _ _ _ e (h i (j-1) ⋯ ⋯)
omit O
def x5(lt:Nat->Nat->Bool)(sz n f:Nat)(r:Array Nat×Nat×Nat):Prop:=
 r.1.size=sz/\n<=r.2.1/\r.2.1<=n+f/\r.2.2+1<=r.2.1/\DP lt r.1 r.2.1/\(∀a b,r.2.1-(r.2.2+1)<=a->a < r.2.1->r.2.1-(r.2.2+1)<=b->b < r.2.1->Sim lt (g r.1 a) (g r.1 b))
def iY(lt:Nat->Nat->Bool)(sz nrem:Nat)(r:Nat×Array Nat):Prop:=r.2.size=sz/\1<=r.1/\r.1<=nrem/\SP lt r.2 r.1
def xZ(lt:Nat->Nat->Bool)(p:Array Nat)(k m:Nat):Prop:=m<=k/\(∀i,i < m->lt (g p k) (g p i)=ai)/\(∀i,m<=i->i < k->lt (g p k) (g p i)=ah)
include O
theorem rL:∀f (p:Array Nat) n q,q+1<=n->n+f<=p.size->DP lt p n->(∀a b,n-(q+1)<=a->a < n->n-(q+1)<=b->b < n->Sim lt (g p a) (g p b))->
  x5 lt p.size n f (run lt (kas_desc f p n q))
 |0,p,n,q,h1,h2,h3,h4=>⟨rfl,Am _,Am _,h1,h3,h4⟩
 |f+1,p,n,q,h1,h2,h3,h4=>by
  have one:∀(p':Array Nat)(m:Nat)(a b:Nat),m+1-(0+1)<=a->a < m+1->m+1-(0+1)<=b->b < m+1->Sim lt (g p' a) (g p' b):=λp' m a b ha ha' hb hb'=>by
   have e1:a=m:=by omega
   have e2:b=m:=by omega
   rw[e1,e2];exact⟨iS O _,iS O _⟩
  show x5 lt p.size n (f+1) (run lt (if lt (g p n) (g p (n-1))=ah then(if q > 0 then kas_desc f (E6 p (n-(q+1)) n) (n+1) 0 else kas_desc f p (n+1) 0)else .ask (p.getD (n-1) 0) (p.getD n 0) λd=>if d=ah then .ret (p,n,q)else kas_desc f p (n+1) (q+1)));cases c1:lt (g p n) (g p (n-1))with
  |true=>
   rw[if_pos rfl];by_cases hq:q > 0
   ·rw[if_pos hq];have sim:=vz O (p:=p) (i:=n-(q+1)) (j:=n) ⋯ h4;have hd:DP lt (E6 p (n-(q+1)) n) (n+1):=DP.sim O (DP.snoc O h3 ⋯ (O.asym _ _ c1)) sim;have hs:(E6 p (n-(q+1)) n).size=p.size:=mirror_size _ _ _ _;obtain⟨a1,a2,a3,a4,a5,a6⟩:=rL f (E6 p (n-(q+1)) n) (n+1) 0 ⋯ (by rw[hs];omega) hd (one _ n);exact⟨a1.trans hs,by omega,by omega,a4,a5,a6⟩
   ·rw[if_neg hq];obtain⟨a1,a2,a3,a4,a5,a6⟩:=rL f p (n+1) 0 ⋯ ⋯ (DP.snoc O h3 ⋯ (O.asym _ _ c1)) (one _ n);exact⟨a1,by omega,by omega,a4,a5,a6⟩
  |false=>
   rw[if_neg Ak];show x5 lt p.size n (f+1) (run lt (if lt (g p (n-1)) (g p n)=ah then .ret (p,n,q)else kas_desc f p (n+1) (q+1)));cases c2:lt (g p (n-1)) (g p n)with
   |true=>exact⟨rfl,Am _,by show n<=n+(f+1);omega,h1,h3,h4⟩
   |false=>
    rw[if_neg Ak];have s1:Sim lt (g p n) (g p (n-1)):=⟨c1,c2⟩;have tr:∀{x y z:Nat},Sim lt x y->Sim lt y z->Sim lt x z:=λh h'=>⟨O.ltr _ _ _ h'.1 h.1,O.ltr _ _ _ h.2 h'.2⟩;obtain⟨a1,a2,a3,a4,a5,a6⟩:=rL f p (n+1) (q+1) ⋯ ⋯ (DP.snoc O h3 ⋯ c2) (λa b ha ha' hb hb'=>by
     have key:∀x,n+1-(q+1+1)<=x->x < n+1->Sim lt (g p x) (g p (n-1)):=λx hx hx'=>by
      by_cases e:x=n
      ·rw[e];exact s1
      ·exact h4 x (n-1) ⋯ ⋯ ⋯ ⋯
     have kb:=key b hb hb';exact tr (key a ha ha') ⟨kb.2,kb.1⟩)
    exact⟨a1,by omega,by omega,a4,a5,a6⟩
theorem BP(h1:1<=n)(hn:n<=nrem)(hz:nrem<=p.size)(h:DP lt p n):iY lt p.size nrem (run lt (kas_tail3 n nrem p)):=by
 unfold kas_tail3;rw[mI];have hs:(E6 p 0 n).size=p.size:=mirror_size _ _ _ _;have sp:SP lt (E6 p 0 n) n:=λi j hij hj=>by
  rw[v3 ⋯,v3 ⋯,if_pos ⟨Az _,hj⟩,if_pos ⟨Az _,by omega⟩];exact h _ _ ⋯ ⋯
 obtain⟨a1,a2,a3,_⟩:=xF O (p:=E6 p 0 n) (nrem-n) n h1 sp;exact⟨hs,by show 1<=run lt (kas_asc (E6 p 0 n) (nrem-n) n);omega,by show run lt (kas_asc (E6 p 0 n) (nrem-n) n)<=nrem;omega,a3⟩
theorem HB(h1:1<=n)(hn:n+1<=nrem)(hz:nrem<=p.size)(h:DP lt p (n+1)):iY lt p.size nrem (run lt (kas_descPart n nrem p)):=by
 unfold kas_descPart;rw[mI];obtain⟨a1,a2,a3,a4,a5,a6⟩:=rL O (nrem-(n+1)) p (n+1) 0 ⋯ ⋯ h (λa b ha ha' hb hb'=>by
  have e1:a=n:=by omega
  have e2:b=n:=by omega
  rw[e1,e2];exact⟨iS O _,iS O _⟩)
 generalize run lt (kas_desc (nrem-(n+1)) p (n+1) 0)=r at a1 a2 a3 a4 a5 a6;by_cases hq:r.2.2 > 0
 ·rw[if_pos hq];have hs:(E6 r.1 (r.2.1-(r.2.2+1)) r.2.1).size=r.1.size:=mirror_size _ _ _ _;obtain⟨b1,b2⟩:=BP O (p:=E6 r.1 (r.2.1-(r.2.2+1)) r.2.1) (n:=r.2.1) (nrem:=nrem) ⋯ ⋯ (by rw[hs];omega) (DP.sim O a5 (vz O ⋯ a6));exact⟨b1.trans (hs.trans a1),b2⟩
 ·rw[if_neg hq];obtain⟨b1,b2⟩:=BP O (p:=r.1) (n:=r.2.1) (nrem:=nrem) ⋯ ⋯ ⋯ a5;exact⟨b1.trans a1,b2⟩
theorem QT(h1:1<=nrem)(hz:nrem<=p.size):iY lt p.size nrem (run lt (kas_count nrem p)):=by
 unfold kas_count;rw[mI];obtain⟨a1,a2,a3,a4⟩:=xF O (p:=p) (nrem-1) 1 (Am _) (λi j hij hj=>by omega);generalize run lt (kas_asc p (nrem-1) 1)=m at a1 a2 a3 a4;by_cases q:(m==nrem)=ah
 ·rw[if_pos q];exact⟨rfl,a1,by show m<=nrem;omega,a3⟩
 ·rw[if_neg q];have hm:m≠nrem:=λz=>q (by rw[z];exact beq_self_eq_true _);have a4:lt (g p m) (g p (m-1))=ah:=a4.resolve_left ⋯;by_cases hm1:m > 1
  ·rw[if_pos hm1];show iY lt p.size nrem (run lt (if lt (g p 0) (g p (m-1))=ah then .ret (m,p)else kas_descPart m nrem (E6 p 0 m)));cases c:lt (g p 0) (g p (m-1))with
   |true=>exact⟨rfl,a1,by show m<=nrem;omega,a3⟩
   |false=>
    rw[if_neg Ak];have hs:(E6 p 0 m).size=p.size:=mirror_size _ _ _ _;have up:∀a b,a < m->b < m->lt (g p b) (g p a)=ai:=λa b ha hb=>by
     have le0:lt (g p a) (g p 0)=ai:=by
      by_cases z:a=0
      ·rw[z];exact iS O _
      ·exact a3 0 a ⋯ ha
     have leb:lt (g p (m-1)) (g p b)=ai:=by
      by_cases z:b=m-1
      ·rw[z];exact iS O _
      ·exact a3 b (m-1) ⋯ ⋯
     have l1:lt (g p b) (g p 0)=ai:=by
      by_cases z:b=0
      ·rw[z];exact iS O _
      ·exact a3 0 b ⋯ hb
     have l2:lt (g p 0) (g p a)=ai:=O.ltr _ _ _ (by
      by_cases z:a=m-1
      ·rw[z];exact iS O _
      ·exact a3 a (m-1) ⋯ ⋯) c
     exact O.ltr _ _ _ l2 l1
    have all:∀a b,0<=a->a < m->0<=b->b < m->Sim lt (g p a) (g p b):=λa b _ ha _ hb=>⟨up b a hb ha,up a b ha hb⟩;have sim:=vz O (p:=p) (i:=0) (j:=m) ⋯ all;have dp:DP lt p (m+1):=DP.snoc O (λi j hij hj=>up j i hj ⋯) a1 (O.asym _ _ a4);obtain⟨b1,b2⟩:=HB O (p:=E6 p 0 m) (n:=m) (nrem:=nrem) a1 ⋯ (by rw[hs];omega) (DP.sim O dp sim);exact⟨b1.trans hs,b2⟩
  ·rw[if_neg hm1];have e:m=1:=by omega
   subst e;exact HB O (p:=p) (Am _) ⋯ hz (DP.snoc O (λi j hij hj=>by omega) (Am _) (O.asym _ _ a4))
theorem tI(h:SP lt p k):∀f l r,l<=r->r<=k->r-l<=f->(∀i,i < l->lt (g p k) (g p i)=ai)->(∀i,r<=i->i < k->lt (g p k) (g p i)=ah)->
  xZ lt p k (run lt (kas_place p k f l r))
 |0,l,r,hlr,hr,hf,h1,h2=>by
  have e:l=r:=by omega
  subst e;exact⟨hr,h1,h2⟩
 |f+1,l,r,hlr,hr,hf,h1,h2=>by
  show xZ lt p k (run lt (if l ≥ r then .ret l else .ask (p.getD k 0) (p.getD ((l+r) / 2) 0) λc=>if c=ah then kas_place p k f l ((l+r) / 2)else kas_place p k f ((l+r) / 2+1) r));by_cases q:l ≥ r
  ·rw[if_pos q];have e:l=r:=by omega
   subst e;exact⟨hr,h1,h2⟩
  ·rw[if_neg q];show xZ lt p k (run lt (if lt (g p k) (g p ((l+r) / 2))=ah then kas_place p k f l ((l+r) / 2)else kas_place p k f ((l+r) / 2+1) r));cases c:lt (g p k) (g p ((l+r) / 2))with
   |true=>
    rw[if_pos rfl];refine tI h f l ((l+r) / 2) ⋯ ⋯ ⋯ h1 λi hi hik=>?_;by_cases e:i=(l+r) / 2
    ·rw[e];exact c
    ·cases z:lt (g p k) (g p i)with
     |true=>rfl
     |false=>
      have:=O.ltr _ _ _ (h ((l+r) / 2) i ⋯ hik) z;rw[this]at c;cases c
   |false=>
    rw[if_neg Ak];refine tI h f ((l+r) / 2+1) r ⋯ hr ⋯ (λi hi=>?_) h2;by_cases e:i=(l+r) / 2
    ·rw[e];exact c
    ·exact O.ltr _ _ _ (h i ((l+r) / 2) ⋯ ⋯) c
omit O
theorem yL(hk:k < p.size)(hl:l<=k)(i):g (bubble p k (k-l)) i=if i=l then g p k else if l < i/\i<=k then g p (i-1)else g p i:=by
 unfold g;rw[j9,getElem?_bubble hk _ ⋯,j9,j9,j9];have e:k-(k-l)=l:=by omega
 rw[e];by_cases h1:i=l
 ·rw[if_pos h1,if_pos h1]
 ·rw[if_neg h1,if_neg h1];by_cases h2:l < i/\i<=k
  ·rw[if_pos h2,if_pos h2]
  ·rw[if_neg h2,if_neg h2]
include O
theorem yo:∀f (p:Array Nat) k,1<=k->k+f<=p.size->SP lt p k->SP lt (run lt (kas_bin f p k)) (k+f)
 |0,p,k,h1,hz,h=>h
 |f+1,p,k,h1,hz,h=>by
  show SP lt (run lt ((kas_place p k k 0 k).bind λl=>kas_bin f (bubble p k (k-l)) (k+1))) (k+(f+1));rw[mI];obtain⟨b1,b2,b3⟩:=tI O h k 0 k (Az _) (Am _) ⋯ (λi hi=>by omega) (λi hi hi'=>by omega);generalize run lt (kas_place p k k 0 k)=l at b1 b2 b3;have sp:SP lt (bubble p k (k-l)) (k+1):=λi j hij hj=>by
   rw[yL ⋯ b1,yL ⋯ b1];by_cases e1:j=l
   ·rw[if_pos e1,if_neg ⋯,if_neg ⋯];exact b2 i ⋯
   ·rw[if_neg e1];by_cases e2:l < j/\j<=k
    ·rw[if_pos e2];by_cases e3:i=l
     ·rw[if_pos e3];exact O.asym _ _ (b3 (j-1) ⋯ ⋯)
     ·rw[if_neg e3];by_cases e4:l < i/\i<=k
      ·rw[if_pos e4];exact h (i-1) (j-1) ⋯ ⋯
      ·rw[if_neg e4];exact h i (j-1) ⋯ ⋯
    ·rw[if_neg e2,if_neg ⋯,if_neg ⋯];exact h i j hij ⋯
  have:=yo f (bubble p k (k-l)) (k+1) ⋯ (by rw[bubble_size];omega) sp;have e:k+1+f=k+(f+1):=by omega
  rwa [e]at this
theorem sort_ok(h1:1<=n):SP lt (run lt (kas_sort n)) n:=by
 unfold kas_sort;rw[mI];obtain⟨a1,a2,a3,a4⟩:=QT O (p:=D7 (A5 n)) (nrem:=n) h1 (by simp);generalize run lt (kas_count n (D7 (A5 n)))=r at a1 a2 a3 a4;have hs:r.2.size=n:=by rw[a1];simp
 by_cases q:r.1 < n
 ·rw[if_pos q];have e:max r.1 1=r.1:=by omega
  rw[e];have:=yo O (n-r.1) r.2 r.1 a2 ⋯ a4;have e2:r.1+(n-r.1)=n:=by omega
  rwa [e2]at this
 ·rw[if_neg q];have e:r.1=n:=by omega
  rw[e]at a4;exact a4
end
end KS
namespace KS
open PySem PySem.W PySem.Calls PyProof.Rows
section
variable{prog:A7}{w:Bi}{A:Br}{E:Ae->Ai->Prop}{s:Ai}{a:Addr}{vs:List Ae}
theorem ls_sort(ho:s.heap.get? a=ae (Di "list" vs.toArray n))(h2:2<=vs.length)(h64:vs.length < 64)
  (h:∀e1 h',h'.get? a=ae (Di "list" #[] e1)->(∀b o,b≠a->s.heap.get? b=ae o->h'.get? b=ae o)->
   Av (A9 prog w) A (keyKind' vs.toArray) (λκ s'=>(kas_sort vs.length).kasWp (kas_ask prog w A κ vs)
    (λp s''=>s''.heap.get? a=ae (Di "list" #[] e1)/\∀h3 c,Dt a s''.heap h3->h3.get? a=ae (Di "list" (D7 (p.toList.map λi=>vs.getD i B5)) c)->P (.done (.ret .none)) {s'' with heap:=h3}) s') (λ_ _=>False) {s with heap:=h'}):
  Av (A9 prog w) A (Ei.«list.sort» ⟨[.ref a],[]⟩) P E s:=by
 have ha:a < s.heap.objs.size:=Ao ho;have s1:=B9 s.heap a (Cz λ_=>(#[]:Array Ae));obtain⟨e1,ho1⟩:∃e1,(s.heap.update a (Cz λ_=>(#[]:Array Ae))).get? a=ae (Di "list" #[] e1):=⟨_,get?_update_seq ho λ_=>#[]⟩;have ask:=h e1 (((s.heap.update a (Cz λ_=>(#[]:Array Ae))).push (Di "tuple" vs.toArray 0)).push (Di "list" #[] 0)) (Ah _ (Ah _ ho1))
  λb o hb e=>Ah _ (Ah _ ((s1.2 b hb).trans e))
 rw[list_sort_plain];refine Aa (listItems_at ho rfl ?_);refine Aa (listUpdate_at ho rfl ?_ (by rw[Ax,Ga];omega) (Az _));refine Aa (seqEpoch_at ho1 rfl ?_);refine Aa (wpAny_newTuple ?_ (by show vs.length<=_;rw[Ga];omega));refine Aa (wpAny_newList ?_ (Az _));refine B3 ?_;show Av (A9 prog w) A _ P E {s with heap:=((s.heap.update a (Cz λ_=>(#[]:Array Ae))).push (Di "tuple" vs.toArray 0)).push (Di "list" #[] 0)};dsimp only;have hn2:¬vs.toArray.size < 2:=by rw[Ax];omega
 rw[if_neg hn2,if_neg hn2];refine Aa (B6 ask (λκ s0 hk=>?_) λ_ _ x=>x.elim);refine Aa (B6 (kat_run (Q:=λst' s'=>∃p:Array Nat,p.size=vs.length/\arrOf st'=p.map (kas_item (vs.toArray.zip vs.toArray))/\failedOf st'=af/\s'.heap.get? a=ae (Di "list" #[] e1)/\∀h3 c,Dt a s'.heap h3->h3.get? a=ae (Di "list" (D7 (p.toList.map λi=>vs.getD i B5)) c)->P (.done (.ret .none)) {s' with heap:=h3})
  rfl h2 h64 (λp' st' s' a1 a2 a3 a4=>⟨p',a1,a2,a3,a4⟩) hk) ?_ λ_ _ e=>e)
 rintro⟨⟨⟩,st'⟩ s' ⟨p,hp,har,hf,na,k⟩
 dsimp only;have hout:=kat_snds rfl har;have hsz:(D7 (p.toList.map λi=>vs.getD i B5)).size=vs.length:=by rw[Ax,Ad,Ce,hp]
 rw[hout];have s2:=B9 s'.heap a (Cz λ_=>D7 (p.toList.map λi=>vs.getD i B5));obtain⟨c2,hc2⟩:∃c2,(s'.heap.update a (Cz λ_=>D7 (p.toList.map λi=>vs.getD i B5))).get? a=ae (Di "list" (D7 (p.toList.map λi=>vs.getD i B5)) c2):=⟨_,get?_update_seq na λ_=>D7 (p.toList.map λi=>vs.getD i B5)⟩;refine Aa (seqEpoch_at na rfl ?_);refine Aa (listUpdate_at na rfl ?_ (Az _) (Bb (Nat.le_of_eq hsz) (by rw[Ga];omega)));rw[hf];simp only[bne_self_eq_false,Ck,if_false];exact Aj (k _ c2 s2 hc2)
theorem ls_short(ho:s.heap.get? a=ae (Di "list" vs.toArray n))(h2:vs.length < 2)
  (h:∀h' c,h'.get? a=ae (Di "list" vs.toArray c)->(∀b o,b≠a->s.heap.get? b=ae o->h'.get? b=ae o)->P (.done (.ret .none)) {s with heap:=h'}):
  Av (A9 prog w) A (Ei.«list.sort» ⟨[.ref a],[]⟩) P E s:=by
 have ha:a < s.heap.objs.size:=Ao ho;have s1:=B9 s.heap a (Cz λ_=>(#[]:Array Ae));obtain⟨e1,ho1⟩:∃e1,(s.heap.update a (Cz λ_=>(#[]:Array Ae))).get? a=ae (Di "list" #[] e1):=⟨_,get?_update_seq ho λ_=>#[]⟩;have ho6:(((s.heap.update a (Cz λ_=>(#[]:Array Ae))).push (Di "tuple" vs.toArray 0)).push (Di "list" #[] 0)).get? a=ae (Di "list" #[] e1):=Ah _ (Ah _ ho1);rw[list_sort_plain];refine Aa (listItems_at ho rfl ?_);refine Aa (listUpdate_at ho rfl ?_ (by rw[Ax,Ga];omega) (Az _));refine Aa (seqEpoch_at ho1 rfl ?_);refine Aa (wpAny_newTuple ?_ (by show vs.length<=_;rw[Ga];omega));refine Aa (wpAny_newList ?_ (Az _));refine B3 ?_;show Av (A9 prog w) A _ P E {s with heap:=((s.heap.update a (Cz λ_=>(#[]:Array Ae))).push (Di "tuple" vs.toArray 0)).push (Di "list" #[] 0)};dsimp only;have hn2:vs.toArray.size < 2:=by rw[Ax];omega
 rw[if_pos hn2,if_pos hn2];refine Aa (Aj ?_);rw[StateT.run_pure];refine Aa (Aj ?_);dsimp only;refine Aa (seqEpoch_at ho6 rfl ?_);refine Aa (listUpdate_at ho6 rfl ?_ (hsz2:=by rw[Array.size_map];show(pairsOf vs).size<=_;rw[pairsOf_size,Ga];omega));simp only[bne_self_eq_false,Ck,if_false];have e:(arrOf (SortSt.mk' general' (vs.toArray.zip vs.toArray) #[] 7 af)).map (·.2)=vs.toArray:=by
  show(vs.toArray.zip vs.toArray).map (·.2)=vs.toArray;apply G1.mp;simp only[Array.toList_map,Array.toList_zip];exact List.map_snd_zip (Am _)
 have s2:=B9 (((s.heap.update a (Cz λ_=>(#[]:Array Ae))).push (Di "tuple" vs.toArray 0)).push (Di "list" #[] 0)) a (Cz λ_=>(arrOf (SortSt.mk' general' (vs.toArray.zip vs.toArray) #[] 7 af)).map (·.2));refine Aj (h _ _ (by rw[e];exact get?_update_seq ho6 λ_=>vs.toArray) λb o hb q=>(s2.2 b hb).trans (Ah _ (Ah _ ((s1.2 b hb).trans q))))
theorem sorted_of(hcol:Av (A9 prog w) A.in1 (collect r) R E s)
  (h:∀vs s1,R vs s1->vs.length<=Ar/\Av (A9 prog w) A.in1.in1 (Ei.«list.sort» ⟨[.ref s1.heap.objs.size],[]⟩) (λf s2=>f=.done (.ret .none)/\Q (.ref s1.heap.objs.size) s2) E {s1 with heap:=s1.heap.push (Di "list" vs.toArray 0)}):
  Av (A9 prog w) A (call (.builtin "sorted") [r]) Q E s:=by
 refine Calls.call_function_entry kind_sorted plain_sorted entry_sorted (args_sorted1 _) ?_;unfold Ei.«sorted»;refine Aa (m:=checkCount "sorted" 1 1 _) (Aj ?_);refine Aa (B6 hcol (λvs s1 hr=>?_) λ_ _ e=>e);obtain⟨hl,hs⟩:=h vs s1 hr;refine Aa (wpAny_newList ?_ hl);have hoL:(s1.heap.push (Di "list" vs.toArray 0)).get? s1.heap.objs.size=ae (Di "list" vs.toArray 0):=A0 _ rfl;refine Aa (B3 (Ea (s:={ s1 with heap:=s1.heap.push (Di "list" vs.toArray 0)}) slot_list_sort ⟨_,hoL,rfl⟩ entry_list_sort ?body (args_list_sort _)))
 case body=>
  refine B6 hs (λf s2 hf=>?_) λ_ _ e=>e;obtain⟨rfl,hq⟩:=hf;exact⟨_,rfl,Aj ⟨_,rfl,hq⟩⟩
def ItsOk(h:Heap)(as:List Addr)(ks:List Str)(xs:List Ae):Prop:=
 as.length=ks.length/\as.length=xs.length/\∀(j:Nat)(a:Addr),as[j]?=ae a->∃k t x,ks[j]?=ae k/\xs[j]?=ae x/\h.get? a=ae {cls:=.type "tuple",data:=.seq #[.str k t,x]}
def ltK(ks:List Str)(i j:Nat):Bool:=decide ((ks.getD i ⟨#[]⟩).cps.toList < (ks.getD j ⟨#[]⟩).cps.toList)
theorem NB(x y:List Nat)(h:x < y):¬y < x:=λz=>List.lt_irrefl x (List.lt_trans h z)
theorem ordK(ks):Ord (ltK ks) where
 asym:=λi j h=>by
  unfold ltK at h ⊢;exact decide_eq_false (NB _ _ (of_decide_eq_true h))
 ltr:=λi j k h1 h2=>by
  unfold ltK at h1 h2 ⊢;have h1:=of_decide_eq_false h1;have h2:=of_decide_eq_false h2;refine decide_eq_false λz=>?_;have l1:=Fc.mp h1;have l2:=Fc.mp h2;exact absurd z (Fc.mpr (List.le_trans l1 l2))
theorem katTups:∀{as:List Addr}{ks:List Str}{xs:List Ae},ItsOk h as ks xs->∃fs:List Ae,KatTups h (as.map As) fs/\fs.length=as.length/\∀f∈fs,∃k t,f=.str k t
 |[],ks,xs,_=>⟨[],trivial,rfl,λf hf=>nomatch hf⟩
 |a::as,ks,xs,I=>by
  obtain⟨l1,l2,hp⟩:=I;obtain⟨k,t,x,e1,e2,e3⟩:=hp 0 a rfl;cases ks with
  |nil=>cases e1
  |cons k0 ks=>
   cases xs with
   |nil=>cases e2
   |cons x0 xs=>
    obtain⟨fs,f1,f2,f3⟩:=katTups (h:=h) (as:=as) (ks:=ks) (xs:=xs) ⟨by simpa using l1,by simpa using l2,λj b hb=>by
     obtain⟨k',t',x',g1,g2,g3⟩:=hp (j+1) b (by simpa using hb);exact⟨k',t',x',by simpa using g1,by simpa using g2,g3⟩⟩
    refine⟨.str k t::fs,.cons e3 rfl rfl rfl f1,by simp[f2],λf hf=>?_⟩;rcases Aw.mp hf with rfl|z
    ·exact⟨k,t,rfl⟩
    ·exact f3 f z
end
section
variable{prog:A7}{w:Bi}{A:Br}{E:Ae->Ai->Prop}{s:Ai}{a:Addr}{as:List Addr}{ks:List Str}{xs:List Ae}
theorem ask_items(hI:ItsOk s.heap as ks xs)(nd:ks.Nodup)(hx:∀x∈xs,∀(s:Ai),SeqAt.EqAt A s x x ah)(hi:i < as.length)(hj:j < as.length)(h:C (ltK ks i j) s):
  kas_ask prog w A (tuples' ah) (as.map As) i j C s:=by
 obtain⟨l1,l2,hp⟩:=hI;obtain⟨k1,t1,x1,e1,e2,e3⟩:=hp i as[i] (Ag hi);obtain⟨k2,t2,x2,f1,f2,f3⟩:=hp j as[j] (Ag hj);unfold kas_ask;have g1:(as.map As).getD i B5=.ref as[i]:=by simp[hi]
 have g2:(as.map As).getD j B5=.ref as[j]:=by simp[hj]
 rw[g1,g2];have c1:ks.getD i ⟨#[]⟩=k1:=by simp[e1]
 have c2:ks.getD j ⟨#[]⟩=k2:=by simp[f1]
 have hc:ltK ks i j=decide (k1.cps.toList < k2.cps.toList):=by unfold ltK;rw[c1,c2]
 rw[hc]at h;refine kat_lt e3 rfl f3 rfl ?_;refine kat_cons (wpAny_eqBool_str ?_);by_cases e:k1=k2
 ·rw[decide_eq_true e];have hij:i=j:=by
   have hi':i < ks.length:=by omega
   have hj':j < ks.length:=by omega
   have q1:ks[i]=k1:=by have:=Ag hi';rw[e1]at this;exact(A4 this).symm
   have q2:ks[j]=k2:=by have:=Ag hj';rw[f1]at this;exact(A4 this).symm
   exact(F3 nd).mp (q1.trans (e.trans q2.symm))
  subst hij;rw[e2]at f2;cases f2;refine kat_yes (kat_cons ?_);refine hx x1 (A1 e2) s _ _ _ _ ?_;refine kat_yes (kat_nil ?_);rw[e]at h;have:decide (k2.cps.toList < k2.cps.toList)=ai:=decide_eq_false (List.lt_irrefl _);rw[this]at h;exact h
 ·rw[decide_eq_false e];exact kat_no (oneLt_str h)
end
end KS
namespace L2
open PySem PySem.Spec PyProof.Rows PySem.W
def jP(d v:Addr):HO:=.ext λh=>h.get? v=ae {cls:=.type "dict_items",data:=.fields #[.ref d]}
theorem QD:wD X "dict.items" (λx vs H Q=>∃d kvs,x=.ref d/\vs=[]/\H d=ae (.dK kvs)/\∀v,H v=af->Q (.ref v) (upd H v (jP d v))):=by
 intro pins s σ H x xs v us Q I rx rv h;obtain⟨d,kvs,rfl,rfl,hd,q⟩:=h;cases rx;cases rv.zero;obtain⟨z,hsys,vs',rel,hD⟩:=I.hok d _ hd;refine call_meetsIn PySem.F.slot_dict_items hD.typeIs PySem.F.entry_dict_items (PySem.F.args_dict_items_1 _) (meets_dict_items (d7 X.prog X.w) d hsys) ⟨⟨vs',hD⟩,?_⟩;have e:(s.heap.push ({cls:=.type "dict_items",data:=.fields #[.ref d]}:Obj)).get? s.heap.objs.size=ae {cls:=.type "dict_items",data:=.fields #[.ref d]}:=A0 _ rfl;exact⟨.ref s.heap.objs.size,_,I.laid (t':=s.toks) (o:=jP d s.heap.objs.size) (λb ob q=>Ah _ q) (Am _) ⟨e,⟨_,e⟩,λh1 h2 q k=>k _ q⟩,rfl,q _ (I.hok.fresh (Am _))⟩
def eW(as:List Addr)(ks:List Str)(xv:List V)(i:Nat):Addr×Str×V:=(as.getD i 0,ks.getD i ⟨#[]⟩,xv.getD i .non)
def fC(H:Hp)(D:Addr)(l:List V)(as:List Addr)(ks:List Str)(xv:List V):Hp:=λb=>if b=D then ae (.lst l)else match as.idxOf? b with
 |some j=>ae (.tup [.str (ks.getD j ⟨#[]⟩),xv.getD j .non])
 |none=>H b
theorem sA{as:List Addr}(h:as.idxOf? b=ae j):as[j]?=ae b:=by
 unfold List.idxOf? at h;obtain⟨h1,h2,_⟩:=Gm.mp h;rw[Ag h1];rw[beq_iff_eq]at h2;rw[h2]
theorem Nq{as:List Addr}(h:as.idxOf? b=af):b∉as:=λhb=>by
 unfold List.idxOf? at h;rw[List.findIdx?_eq_none_iff]at h;have:=h b hb;simp at this
theorem O2{as:List Addr}(nd:as.Nodup)(h:as[j]?=ae a):as.idxOf? a=ae j:=by
 obtain⟨h1,h2⟩:=Al.mp h;cases e:as.idxOf? a with
 |none=>exact absurd (A1 h) (Nq e)
 |some i=>
  have e':=sA e;obtain⟨h3,h4⟩:=Al.mp e';rw[(F3 nd).mp (h4.trans h2.symm)]
section
variable{X:Cx}{pins:List (Addr×Obj)}{σ:St}{H:Hp}{s:Ai}
theorem IK{idx:List Nat}(I:Inv X pins σ H s)(hk:∀b o,s.heap.get? b=ae o->h3.get? b=ae o)
  (hI:KS.ItsOk h3 as ks xs) (hx:Vals xv xs) (hup:∀a∈as,s.heap.objs.size<=a) (nd:as.Nodup) (hD:∀b o,s.heap.get? b=ae o->b≠D) (hDH:H D=af) (hDa:D∉as) (hl:as.length < 64) (hidx:idx.Perm (A5 as.length))
  (hL:h3.get? D=ae (Di "list" (D7 (idx.map λi=>(as.map As).getD i B5)) c))
  (q:∀H',iy H H'->H D=af->(∀a∈as,H a=af)->H' D=ae (.lst (idx.map λi=>V.ref (eW as ks xv i).1))->(∀i∈idx,H' (eW as ks xv i).1=ae (.tup [.str (eW as ks xv i).2.1,(eW as ks xv i).2.2]))->Q (.ref D) H'):
  EP X pins σ Q (.ref D) {s with heap:=h3,toks:=tk}:=by
 obtain⟨l1,l2,hp⟩:=hI;have lx:=hx.length;have old:∀{b o},H b=ae o->b < s.heap.objs.size:=λe=>I.hok.lt e;have hidlt:∀i∈idx,i < as.length:=λi hi=>Bo.mp (hidx.mem_iff.mp hi);have hlen:idx.length=as.length:=by rw[hidx.length_eq,Dr]
 have hsame:iy H (fC H D (idx.map λi=>V.ref (eW as ks xv i).1) as ks xv):=λb o e=>by
  unfold fC;rw[if_neg (λz=>by rw[z,hDH]at e;cases e)];cases q:as.idxOf? b with
  |none=>exact e
  |some j=>
   have:=hup b (A1 (sA q));exact absurd (old e) (Nat.not_lt.mpr this)
 have hvals:Vals (idx.map λi=>V.ref (eW as ks xv i).1) (idx.map λi=>(as.map As).getD i B5):=by
  have:∀l:List Nat,(∀i∈l,i < as.length)->Vals (l.map λi=>V.ref (eW as ks xv i).1) (l.map λi=>(as.map As).getD i B5):=by
   intro l
   induction l with
   |nil=>intro _;exact .nil
   |cons i r ih=>
    intro hl;have hi:=hl i Au;refine .cons ?_ (ih λj hj=>hl j (An _ hj));show(as.map As).getD i B5=As (as.getD i 0);simp[hi]
  exact this idx hidlt
 have hnew:HOk X.prog X.w (fC H D (idx.map λi=>V.ref (eW as ks xv i).1) as ks xv) h3:=λb o e=>by
  by_cases hb:b=D
  ·subst hb;unfold fC at e;rw[if_pos rfl]at e;cases e;refine⟨?_,_,c,hvals,hL⟩;rw[Ad,hlen];exact jq ⋯
  ·have e2:=e;unfold fC at e2;rw[if_neg hb]at e2;cases qi:as.idxOf? b with
   |none=>
    rw[qi]at e2;refine(I.hok b o e2).stay (λcc u _ z=>hk cc u z) (λcc z=>hsame _ _ z) λcc ys z=>hsame _ _ z
   |some j=>
    rw[qi]at e2;cases e2;obtain⟨k,t,x,g1,g2,g3⟩:=hp j b (sA qi);have hjl:j < xv.length:=by
     have:=(Al.mp g2).1;omega
    have ev:RelV (xv.getD j .non) x:=by
     obtain⟨u,hu,ru⟩:=hx.get (Ag hjl);rw[g2]at hu;cases hu;have:xv.getD j .non=xv[j]:=by simp[hjl]
     rw[this];exact ru
    have ek:ks.getD j ⟨#[]⟩=k:=by simp[g1]
    refine⟨by show 2<=Ar;decide,[.str k t,x],.cons (by rw[ek];exact⟨t,rfl⟩) (.cons ev .nil),?_⟩;exact⟨_,g3,rfl,⟨_,rfl⟩,rfl⟩
 refine⟨.ref D,_,I.call' (s':={ s with heap:=h3,toks:=tk}) (ch:=[]) rfl ?_ hnew I.bare (λb hb=>nomatch hb),rfl,q _ hsame hDH (λa ha=>I.hok.fresh (hup a ha)) (by unfold fC;rw[if_pos rfl]) λi hi=>?_⟩
 ·refine⟨λb o e n _ _=>hk b o e,λb o e n _ _=>⟨o.slots,hk b o e⟩,λb o e n _=>?_,λb o e _=>⟨o,hk b o e⟩,λb ys z=>hsame _ _ z,λb o' u z=>hsame _ _ z,λb ps z=>⟨#[],by rw[Array.append_empty];exact hsame _ _ z⟩⟩;have hlt:=Ao e;unfold fC;rw[if_neg (hD b o e)];cases qi:as.idxOf? b with
  |none=>exact n
  |some j=>exact absurd hlt (Nat.not_lt.mpr (hup b (A1 (sA qi))))
 ·have hi':=hidlt i hi;have ea:(eW as ks xv i).1=as[i]:=by show as.getD i 0=_;simp[hi']
  have eg:as[i]?=ae as[i]:=Ag hi';have ne:as[i]≠D:=λz=>hDa (z▸Cm hi');rw[ea];unfold fC;rw[if_neg ne,O2 nd eg];rfl
end
def Iz:List V->Hp->VK->Prop:=λxs H Q=>∃(v d:Addr)(ks:List Str)(xv:List V),xs=[.ref v]/\H v=ae (jP d v)/\ks.length=xv.length/\H d=ae (.dK ((ks.zip xv).map λp=>((Dv p.1:aC),p.2)))/\ks.length < 64/\ks.Nodup/\xv.all gU=ah /\
 ∀(D:Addr)(as:List Addr)(idx:List Nat)(H':Hp),as.length=ks.length->idx.Perm (A5 ks.length)->(idx.map λi=>ks.getD i ⟨#[]⟩).Pairwise (λa b=>¬b.cps.toList < a.cps.toList)->iy H H'->H D=af->(∀a∈as,H a=af)->
  H' D=ae (.lst (idx.map λi=>V.ref (eW as ks xv i).1))->(∀i∈idx,H' (eW as ks xv i).1=ae (.tup [.str (eW as ks xv i).2.1,(eW as ks xv i).2.2]))->Q (.ref D) H'
theorem zj{xs:List Ae}:∀{ks:List Str}{xv:List V}{vs:List (aC×Ae)},ks.length=xv.length->KV ((ks.zip xv).map λp=>((Dv p.1:aC),p.2)) vs->vs.length=ks.length/\Vals xv (vs.map (·.2))/\vs.map (·.1)=ks.map (Dv:Str->aC)
 |[],[],_,_,.nil=>⟨rfl,.nil,rfl⟩
 |k::ks,x::xv,_,hl,.cons r rr=>by
  obtain⟨h1,h2,h3⟩:=zj (xs:=xs) (ks:=ks) (xv:=xv) (by simpa using hl) rr;refine⟨by simp[h1],.cons r.2 h2,?_⟩;rw[Bg,Bg,h3,<-r.1]
theorem O3(hz:p.size=n)(h:KS.SP (KS.ltK ks) p n):(p.toList.map λi=>ks.getD i ⟨#[]⟩).Pairwise (λa b=>¬b.cps.toList < a.cps.toList):=by
 rw[Hk];intro i j hi hj hij;rw[Ad,Ce,hz]at hi hj;have:=h i j hij hj;unfold KS.ltK KS.g at this;have e1:p.getD i 0=p[i]:=by simp[hz,hi]
 have e2:p.getD j 0=p[j]:=by simp[hz,hj]
 rw[e1,e2]at this;simp only[G3,Array.getElem_toList];exact of_decide_eq_false this
theorem M0(hh:X.A.handled=af):CallR X (.builtin "sorted") Iz:=by
 intro pins s σ H xs us Q I r h;obtain⟨v,d,ks,xv,rfl,hv,hl,hd,h64,nd,fl,q⟩:=h;obtain⟨u,rfl,ru⟩:=gg r;cases(show u=As v from ru);have ov:s.heap.get? v=ae {cls:=.type "dict_items",data:=.fields #[.ref d]}:=(I.hok v _ hv).1;obtain⟨z,hsys,vs',rel,hDict⟩:=I.hok d _ hd;obtain⟨ep,hat⟩:=hDict.dictAt;obtain⟨lv,hvals,hkeys⟩:=zj (xs:=[]) hl rel;refine KS.sorted_of (R:=λvs s1=>∃(h':Heap)(tk:Nat)(as:List Addr),vs=as.map As/\s1={ s with heap:=h',toks:=tk}/\(∀b o,s.heap.get? b=ae o->h'.get? b=ae o)/\as.length=vs'.length/\KdxG (d7 X.prog X.w) vs' s.heap.objs.size h' as)
  (kdx_collect (knd:=d7 X.prog X.w) (kvs:=vs') (ep:=ep) hh ⟨_,ov,rfl,rfl⟩ hat (by rw[lv];exact jq ⋯) λh' tk as hk hl hG=>⟨h',tk,as,rfl,rfl,hk,hl,hG⟩) ?_
 rintro vs s1 ⟨h',tk,as,rfl,rfl,hk,hla,hG⟩
 have hlen:as.length=ks.length:=hla.trans lv;have its:KS.ItsOk h' as ks (vs'.map (·.2)):=⟨hlen,by rw[Ad,hla],λj a ha=>by
  obtain⟨key,k,x,e1,e2,e3⟩:=hG.pairs j a ha;have hk1:(vs'.map (·.1))[j]?=ae k:=by rw[Aq,e1];rfl
  rw[hkeys,Aq]at hk1;cases eq:ks[j]? with
  |none=>rw[eq]at hk1;cases hk1
  |some k0=>
   rw[eq]at hk1;have hk2:(Dv k0:aC)=k:=A4 hk1;subst hk2;rcases iL (k:=Dv k0) (v:=key) (show k7 (Dv k0) key=ah from e2)with⟨i,t,z,_⟩|⟨y,t,z,rfl⟩
   ·cases z
   ·cases z;exact⟨k0,t,x,rfl,by rw[Aq,e1];rfl,e3⟩⟩
 have hup:∀a∈as,s.heap.objs.size<=a:=λa ha=>Fh (hG.above a ha);have ndA:as.Nodup:=hG.rise.imp λh=>A8 h;have hDa:h'.objs.size∉as:=λhm=>Ek _ (hG.there hm);have hs':∀b o,s.heap.get? b=ae o->b≠h'.objs.size:=λb o e=>A8 (Ao (hk b o e));have hsH:H h'.objs.size=af:=(I.hok.kept hk).fresh (Am _);refine⟨by rw[Ad,hlen];exact jq ⋯,?_⟩;have hoL:(h'.push (Di "list" (as.map As).toArray 0)).get? h'.objs.size=ae (Di "list" (as.map As).toArray 0):=A0 _ rfl;have its2:∀h4:Heap,(∀b o,b≠h'.objs.size->(h'.push (Di "list" (as.map As).toArray 0)).get? b=ae o->h4.get? b=ae o)->KS.ItsOk h4 as ks (vs'.map (·.2)):=λh4 k4=>⟨its.1,its.2.1,λj a ha=>by
  obtain⟨k,t,x,e1,e2,e3⟩:=its.2.2 j a ha;exact⟨k,t,x,e1,e2,k4 a _ (λz=>hDa (z▸A1 ha)) (Ah _ e3)⟩⟩
 have keep4:∀h4:Heap,(∀b o,b≠h'.objs.size->(h'.push (Di "list" (as.map As).toArray 0)).get? b=ae o->h4.get? b=ae o)->∀b o,s.heap.get? b=ae o->h4.get? b=ae o:=λh4 k4 b o e=>
  k4 b o (hs' b o e) (Ah _ (hk b o e))
 by_cases h2:2<=(as.map As).length
 ·refine KS.ls_sort (s:={ s with heap:=h'.push (Di "list" (as.map As).toArray 0),toks:=tk}) hoL h2 (by rw[Ad];omega) λe1 h4 ha4 k4=>?_;have its4:=its2 h4 k4;obtain⟨fs,f1,f2,f3⟩:=KS.katTups its4;rw[Ad]at h2;refine kat_kind (s:={ s with heap:=h4,toks:=tk}) (T:=Ft "str") f1 ⋯ (λf hf=>?_) rfl ?_
  ·obtain⟨k,t,rfl⟩:=f3 f hf;exact .now
  ·rw[Ad];have hn:0 < as.length:=by omega
   have hwi:=KS.wi_sort hn;refine KS.wp_run (n:=as.length) (P:=KS.Pm as.length) (c:=KS.ltK ks) (St:=λs'=>s'={ s with heap:=h4,toks:=tk}) (λi j C s' hi hj hs hC=>?_) _ _ hwi rfl λs' hs'=>?_
   ·subst hs;refine KS.ask_items its4 nd (λx hx s''=>?_) hi hj (hC _ rfl);obtain⟨j,hj⟩:=B7.mp hx;have hjl:j < xv.length:=by
     have:=(Al.mp hj).1;rw[Ad]at this;omega
    obtain⟨u,hu,ru⟩:=hvals.get (Ag hjl);rw[hj]at hu;cases hu;have fx:gU xv[j]=ah:=Dm.mp fl _ (Cm hjl);have:=HD (A:=X.A.in1.in1) (s:=s'') ru ru fx fx;have e1:il xv[j] xv[j]=ah:=by
     cases ex:xv[j]<;>simp[il]<;>(rw[ex]at fx;cases fx)
    rw[e1]at this;exact this
   ·subst hs';refine⟨ha4,λh3 c sb hL3=>⟨rfl,?_⟩⟩;have hpm:KS.Pm as.length (KS.run (KS.ltK ks) (kas_sort as.length)):=KS.Wi.out _ hwi;have hsp:=KS.sort_ok (KS.ordK ks) (n:=as.length) hn;have hsz:=hpm.size;have hidx:(KS.run (KS.ltK ks) (kas_sort as.length)).toList.Perm (A5 as.length):=by
     have:=Array.perm_iff_toList_perm.mp hpm;simpa using this
    have k3:∀b o,b≠h'.objs.size->(h'.push (Di "list" (as.map As).toArray 0)).get? b=ae o->h3.get? b=ae o:=λb o hb e=>(sb.2 b hb).trans (k4 b o hb e);exact IK (s:=s) (tk:=tk) (xv:=xv) I (keep4 h3 k3) (its2 h3 k3) hvals hup ndA hs' hsH hDa ⋯ hidx hL3 λH' a1 a2 a3 a4 a5=>q _ as _ H' hlen (by rw[<-hlen];exact hidx) (O3 hsz hsp) a1 a2 a3 a4 a5
 ·refine KS.ls_short (s:={ s with heap:=h'.push (Di "list" (as.map As).toArray 0),toks:=tk}) hoL ⋯ λh4 c ha4 k4=>⟨rfl,?_⟩;rw[Ad]at h2;have el:as.map As=(A5 as.length).map λi=>(as.map As).getD i B5:=by
   apply List.ext_getElem (by simp);intro i h1 h2;simp at h1;simp[h1]
  rw[el]at ha4;refine IK (s:=s) (tk:=tk) (xv:=xv) (idx:=A5 as.length) I (keep4 h4 k4) (its2 h4 k4) hvals hup ndA hs' hsH hDa ⋯ (List.Perm.refl _) ha4 λH' a1 a2 a3 a4 a5=>q _ as _ H' hlen (by rw[<-hlen]) ?_ a1 a2 a3 a4 a5;have:(A5 as.length).length<=1:=by simp;omega
  match hr:A5 as.length,this with
  |[],_=>exact .nil
  |[i],_=>exact E8 _ _
end L2
namespace L2
open PySem PySem.Spec PyProof.Rows
section
variable{prog:A7}{w:Bi}{A:Br}{E:Ae->Ai->Prop}{s:Ai}
theorem tQ(hit:s.heap.IsTupleIter it t i)(ht:s.heap.IsTuple t items)(hx:items[i]?=ae x)
  (hQ:∀h',h'.IsTupleIter it t (i+1)->Dt it s.heap h'->Q x {s with heap:=h'}):Av (A9 prog w) A (Co (.ref it)) Q E s:=by
 obtain⟨o,ho,hc,hd⟩:=id hit;obtain⟨ol,hol,_,nl,hdl⟩:=ht;unfold Co;refine Aa (C2 (name:=E2 "__next__") hit.typeIs F7
  (Ea F7 hit.typeIs F.entry_tuple_iterator_next ?_ (F.args_tuple_iterator_next_1 _)))
 show Av _ _ (field (.ref it) 0>>=_) _ _ s;refine Aa (Dn ho hd (x:=.ref t) rfl ?_);show Av _ _ (if (As t==B5)=ah then _ else _) _ _ s;rw[if_neg (show ¬((As t==B5)=ah)from Ak)];show Av _ _ (field (.ref it) 1>>=_) _ _ s;refine Aa (Dn ho hd (x:=.int i 0) rfl ?_);show Av _ _ (seqItems? (.ref t)>>=_) _ _ s;refine Aa (Dh hol hdl ?_);simp only[Dz,hx];refine Aa (wpAny_setField ho hd (by simp) (Aj ⟨x,rfl,Aj (hQ _ ?_ (B9 ..))⟩));exact⟨_,Cn _ ho (Obj.isFreed_of_fields (Hg hd _)),(Obj.cls_mapFields ..).trans hc,by
  rw[Hg hd];simp[rawInt]⟩
theorem BU(hh:A.handled=af)(hit:s.heap.IsTupleIter it t i)(ht:s.heap.IsTuple t items)(hx:items[i]?=af)
  (hE:∀h' e,Heap.ExtBut it s.heap h'->(∃o,h'.get? e=ae o/\o.cls=.type "StopIteration")->E (.ref e) {s with heap:=h'}):
  Av (A9 prog w) A (Co (.ref it)) Q E s:=by
 obtain⟨o,ho,hc,hd⟩:=id hit;obtain⟨ol,hol,_,nl,hdl⟩:=ht;unfold Co;refine Aa (C2 (name:=E2 "__next__") hit.typeIs F7
  (Ea F7 hit.typeIs F.entry_tuple_iterator_next ?_ (F.args_tuple_iterator_next_1 _)))
 show Av _ _ (field (.ref it) 0>>=_) _ _ s;refine Aa (Dn ho hd (x:=.ref t) rfl ?_);show Av _ _ (if (As t==B5)=ah then _ else _) _ _ s;rw[if_neg (show ¬((As t==B5)=ah)from Ak)];show Av _ _ (field (.ref it) 1>>=_) _ _ s;refine Aa (Dn ho hd (x:=.int i 0) rfl ?_);show Av _ _ (seqItems? (.ref t)>>=_) _ _ s;refine Aa (Dh hol hdl ?_);simp only[Dz,hx];refine Aa (wpAny_rule (Aa (wpAny_setField ho hd (by simp) ?_)));show Av _ _ (newExc (.type "StopIteration") []>>=_) _ _ _;refine Aa ?_;simp only[newExc,newTuple];refine Aa (Ct ?_ (by size_fits));refine Aa (m:=firstArgMember _ _) (wpAny_of_eq (a:=B5) (by first|rfl|(simp only[firstArgMember];rfl)) ?_);refine Ct ?_ (by size_fits);simp only[raiseNew];refine Aa (wpAny_handled ?_)
 first|rw[show A.in1.handled=af from hh]|rw[hh]
 refine Aa (Aj (wpAny_throw ?_));exact hE _ _ (((B9 ..).extBut.push _).push _) ⟨_,A0 _ rfl,rfl⟩
theorem P9{z TI TO i1 i2 l1 l2:Addr}{Q:Ae->Ai->Prop}(D:ZipApart z TI TO i1 i2 l1 l2)
  (hz:IsZip s.heap z TI TO .none) (hTI:Ge s.heap TI (.ref i1) (.ref i2)) (hTO:Ge s.heap TO a b)
  (h1:s.heap.IsTupleIter i1 l1 k) (h2:s.heap.IsTupleIter i2 l2 k) (hl1:s.heap.IsTuple l1 xs) (hl2:s.heap.IsTuple l2 ys) (hx:xs[k]?=ae x) (hy:ys[k]?=ae y)
  (hQ:∀h',IsZip h' z TI TO (rawInt s.heap.objs.size)->Ge h' TO x y->h'.IsTupleIter i1 l1 (k+1)->h'.IsTupleIter i2 l2 (k+1)->Ge h' s.heap.objs.size x y->h'.objs.size=s.heap.objs.size+1->
   (∀c o,c≠z->c≠TO->c≠i1->c≠i2->s.heap.get? c=ae o->h'.get? c=ae o)->Q (.ref s.heap.objs.size) {s with heap:=h'}):
  Av (A9 prog w) A (Ei.«zip.__next__» ⟨[.ref z],[]⟩) (λfin s'=>∃v,fin=.done (.ret v)/\Q v s') E s:=by
 show Av _ _ (field (.ref z) 2>>=_) _ _ _;refine Aa (Dn hz rfl (x:=.bool ai) rfl ?_);show Av _ _ (field (.ref z) 3>>=_) _ _ _;refine Aa (Dn hz rfl (x:=.ref TI) rfl ?_);refine Aa (Dh hTI rfl ?_);show Av _ _ (D1 (.ref z)>>=_) _ _ _;refine Aa ?_;unfold D1;refine Aa (Dn hz rfl (x:=.none) rfl (Aj ?_));simp only[if_true];refine Aa (wpAny_rule ?_);refine Aa (Dn hz rfl (x:=.ref TO) rfl ?_);refine Aa (Gv hz (by simp) λg1 hz1 s1=>?_)
 replace hz1:IsZip g1 z TI TO .ellipsis:=hz1
 refine Aa ?_;simp only[List.zipIdx_cons,List.zipIdx_nil,List.forIn_cons,List.forIn_nil];refine Aa (Aa (wpAny_onRaise ?_));show Av _ _ (Co (.ref i1)>>=_) _ _ _;refine Aa (tQ (h1.extBut s1.extBut D.i1z) (hl1.extBut s1.extBut D.l1z) hx λg2 t2 s2=>Aj ?_);have p2:Ge g2 TO a b:=s2.extBut _ _ D.TOi1 (s1.extBut _ _ D.TOz hTO);refine Aa (Dh p2 rfl ?_);refine Aa (wpAny_updateSeq_pair p2 λg3 p3 s3=>?_)
 replace p3:Ge g3 TO x b:=p3
 refine Aa (wpAny_letGo (Aj ?_));refine Aa (Aa (wpAny_onRaise ?_));show Av _ _ (Co (.ref i2)>>=_) _ _ _;refine Aa (tQ (((h2.extBut s1.extBut D.i2z).extBut s2.extBut D.i12.symm).extBut s3.extBut D.TOi2.symm)
  (((hl2.extBut s1.extBut D.l2z).extBut s2.extBut D.l2i1).extBut s3.extBut D.l2TO) hy λg4 t4 s4=>Aj ?_)
 have p4:Ge g4 TO x b:=s4.extBut _ _ D.TOi2 p3;refine Aa (Dh p4 rfl ?_);refine Aa (wpAny_updateSeq_pair p4 λg5 p5 s5=>?_)
 replace p5:Ge g5 TO x y:=p5
 refine Aa (wpAny_letGo (Aj (Aj ?_)));refine Aa (Dh p5 rfl ?_);refine Aa (wpAny_newTuple ?_);have sz:g5.objs.size=s.heap.objs.size:=by rw[s5.1,s4.1,s3.1,s2.1,s1.1]
 have z5:IsZip g5 z TI TO .ellipsis:=s5.extBut _ _ D.TOz.symm (s4.extBut _ _ D.i2z.symm (s3.extBut _ _ D.TOz.symm (s2.extBut _ _ D.i1z.symm hz1)));have k5:∀c o,c≠z->c≠TO->c≠i1->c≠i2->s.heap.get? c=ae o->g5.get? c=ae o:=λc o c1 c2 c3 c4 e=>
  s5.extBut _ _ c2 (s4.extBut _ _ c4 (s3.extBut _ _ c2 (s2.extBut _ _ c3 (s1.extBut _ _ c1 e))))
 have u1:g5.IsTupleIter i1 l1 (k+1):=((t2.extBut s3.extBut D.TOi1.symm).extBut s4.extBut D.i12).extBut s5.extBut D.TOi1.symm;have u2:g5.IsTupleIter i2 l2 (k+1):=t4.extBut s5.extBut D.TOi2.symm;have zlt:z < g5.objs.size:=Ao z5;show Av _ _ (He (.ref z) (.ref g5.objs.size)>>=_) _ _ _;refine Aa ?_;unfold He;have z6:IsZip (g5.push {cls:=.type "tuple",data:=.seq #[x,y]}) z TI TO .ellipsis:=Ah _ z5;refine Aa (Gv z6 (by simp) λg7 z7 s7=>?_)
 replace z7:IsZip g7 z TI TO (rawInt g5.objs.size):=z7
 refine Gv z7 (by simp) λg8 z8 s8=>?_
 replace z8:IsZip g8 z TI TO (rawInt g5.objs.size):=z8
 have up:∀c o,c≠z->g5.get? c=ae o->g8.get? c=ae o:=λc o c1 e=>s8.extBut _ _ c1 (s7.extBut _ _ c1 (Ah _ e));have T8:Ge g8 g5.objs.size x y:=s8.extBut _ _ (Ej zlt) (s7.extBut _ _ (Ej zlt) (A0 _ rfl));have e8:g8.objs.size=g5.objs.size+1:=by rw[s8.1,s7.1,D9]
 rw[sz]at z8 T8 e8;refine Aj ⟨_,rfl,?_⟩;show Q (.ref g5.objs.size) _;rw[sz];exact hQ g8 z8 (up _ _ D.TOz p5) (u1.at λo e=>up _ o D.i1z e) (u2.at λo e=>up _ o D.i2z e) T8 e8 λc o c1 c2 c3 c4 e=>up c o c1 (k5 c o c1 c2 c3 c4 e)
theorem Rc{z TI TO i1 i2 l1 l2:Addr}(hh:A.handled=af)(D:ZipApart z TI TO i1 i2 l1 l2)
  (hz:IsZip s.heap z TI TO .none) (hTI:Ge s.heap TI (.ref i1) (.ref i2)) (h1:s.heap.IsTupleIter i1 l1 k) (hl1:s.heap.IsTuple l1 xs) (hx:xs[k]?=af)
  (hE:∀h' e,(∀c o,c≠z->c≠i1->s.heap.get? c=ae o->h'.get? c=ae o)->(∃o,h'.get? e=ae o/\o.cls=.type "StopIteration")->E (.ref e) {s with heap:=h'}):
  Av (A9 prog w) A (Ei.«zip.__next__» ⟨[.ref z],[]⟩) Q E s:=by
 show Av _ _ (field (.ref z) 2>>=_) _ _ _;refine Aa (Dn hz rfl (x:=.bool ai) rfl ?_);show Av _ _ (field (.ref z) 3>>=_) _ _ _;refine Aa (Dn hz rfl (x:=.ref TI) rfl ?_);refine Aa (Dh hTI rfl ?_);show Av _ _ (D1 (.ref z)>>=_) _ _ _;refine Aa ?_;unfold D1;refine Aa (Dn hz rfl (x:=.none) rfl (Aj ?_));simp only[if_true];refine Aa (wpAny_rule ?_);refine Aa (Dn hz rfl (x:=.ref TO) rfl ?_);refine Aa (Gv hz (by simp) λg1 hz1 s1=>?_)
 replace hz1:IsZip g1 z TI TO .ellipsis:=hz1
 refine Aa ?_;simp only[List.zipIdx_cons,List.zipIdx_nil,List.forIn_cons,List.forIn_nil];refine Aa (Aa (wpAny_onRaise ?_));show Av _ _ (Co (.ref i1)>>=_) _ _ _;refine Aa (BU hh (h1.extBut s1.extBut D.i1z) (hl1.extBut s1.extBut D.l1z) hx λg2 e s2 he=>?_);obtain⟨oe,hoe,hce⟩:=he;have z2:IsZip g2 z TI TO .ellipsis:=s2 _ _ D.i1z.symm hz1;have hez:e≠z:=λx=>by subst x;rw[z2]at hoe;cases hoe;simp at hce
 refine Gv z2 (by simp) λg3 _ s3=>hE g3 e (λc o c1 c3 x=>s3.extBut _ _ c1 (s2 _ _ c3 (s1.extBut _ _ c1 x))) ⟨oe,s3.extBut _ _ hez hoe,hce⟩
theorem Th{z TI TO i1 i2 l1 l2:Addr}(D:ZipApart z TI TO i1 i2 l1 l2)
  (hz:IsZip s.heap z TI TO .none) (hTI:Ge s.heap TI (.ref i1) (.ref i2)) (hTO:Ge s.heap TO a b)
  (h1:s.heap.IsTupleIter i1 l1 k) (h2:s.heap.IsTupleIter i2 l2 k) (hl1:s.heap.IsTuple l1 xs) (hl2:s.heap.IsTuple l2 ys) (hx:xs[k]?=ae x) (hy:ys[k]?=ae y)
  (hQ:∀h',IsZip h' z TI TO (rawInt s.heap.objs.size)->Ge h' TO x y->h'.IsTupleIter i1 l1 (k+1)->h'.IsTupleIter i2 l2 (k+1)->Ge h' s.heap.objs.size x y->h'.objs.size=s.heap.objs.size+1->
   (∀c o,c≠z->c≠TO->c≠i1->c≠i2->s.heap.get? c=ae o->h'.get? c=ae o)->Q (ae (.ref s.heap.objs.size)) {s with heap:=h'}):
  Av (A9 prog w) A (pyNext (.ref z)) Q E s:=by
 have hT:s.TypeIs (.ref z) "zip":=⟨_,hz,rfl⟩;unfold pyNext;exact Aa (wpAny_attempt (C2 (name:=E2 "__next__") hT F.slot_zip_next
  (Ea F.slot_zip_next hT F.entry_zip_next
   (P9 D hz hTI hTO h1 h2 hl1 hl2 hx hy λh' a1 a2 a3 a4 a5 a6 a7=>Aj (hQ h' a1 a2 a3 a4 a5 a6 a7)) (F.args_zip_next_1 _))))
theorem Pq{z TI TO i1 i2 l1 l2:Addr}(hh:A.handled=af)(D:ZipApart z TI TO i1 i2 l1 l2)
  (hz:IsZip s.heap z TI TO .none) (hTI:Ge s.heap TI (.ref i1) (.ref i2)) (h1:s.heap.IsTupleIter i1 l1 k) (hl1:s.heap.IsTuple l1 xs) (hx:xs[k]?=af)
  (hQ:∀h',(∀c o,c≠z->c≠i1->s.heap.get? c=ae o->h'.get? c=ae o)->Q af {s with heap:=h'}):Av (A9 prog w) A (pyNext (.ref z)) Q E s:=by
 have hT:s.TypeIs (.ref z) "zip":=⟨_,hz,rfl⟩;unfold pyNext;refine Aa (wpAny_attempt (C2 (name:=E2 "__next__") hT F.slot_zip_next
  (Ea F.slot_zip_next hT F.entry_zip_next (Rc hh D hz hTI h1 hl1 hx λh' e hk he=>?_) (F.args_zip_next_1 _))))
 obtain⟨o,ho,hc⟩:=he;refine Aa (wpAny_isInstance (T:="StopIteration") (b:=ah) ⟨o,ho,hc⟩ isSubtype_stop ?_);exact Aj (hQ _ hk)
end
abbrev p9(h:Heap)(l1:Addr):Heap:=h.push {cls:=.type "tuple_iterator",data:=.fields #[.ref l1,.int 0 0]}
abbrev p7(h:Heap)(l1 l2:Addr):Heap:=(p9 h l1).push {cls:=.type "tuple_iterator",data:=.fields #[.ref l2,.int 0 0]}
abbrev su(h:Heap)(l1 l2:Addr):Heap:=(p7 h l1 l2).push {cls:=.type "tuple",data:=.seq #[.ref h.objs.size,.ref (p9 h l1).objs.size]}
abbrev qc(h:Heap)(l1 l2:Addr):Heap:=(su h l1 l2).push {cls:=.type "tuple",data:=.seq #[.none,.none]}
abbrev mn(h:Heap)(l1 l2:Addr):Heap:=(qc h l1 l2).push {cls:=.type "zip",data:=.fields #[.none,.bool ai,.bool ai,.ref (p7 h l1 l2).objs.size,.ref (su h l1 l2).objs.size]}
theorem QP(l1 l2)(xs ys):
  Meets (Ei.«zip.__new__» ⟨[.type "zip",.ref l1,.ref l2],[]⟩) (λ_ R s=>s.heap.IsTuple l1 xs/\s.heap.IsTuple l2 ys /\
   R (.ok (.ret (.ref (qc s.heap l1 l2).objs.size))) {s with heap:=mn s.heap l1 l2}):=
 .of_wp λprog w A R s h=>by
  obtain⟨hp,g,d,tk,os⟩:=s;obtain⟨hl1,hl2,h⟩:=h;have hsub:=sub_zip;have hL1:Heap.IsTuple (Shared.heap ⟨hp,g,d,tk,os⟩) l1 xs:=hl1;have hL2:Heap.IsTuple (Shared.heap ⟨hp.push {cls:=.type "tuple_iterator",data:=.fields #[.ref l1,.int 0 0]},g,d,tk,os⟩) l2 ys:=Heap.IsTuple.push hl2 _
  wp_walk using Eo hL1,Eo hL2
  exact⟨_,rfl,h⟩
section
variable{prog:A7}{w:Bi}{A:Br}{E:Ae->Ai->Prop}{s:Ai}
theorem RM(hl1:s.heap.IsTuple l1 xs)(hl2:s.heap.IsTuple l2 ys)
  (h:∀h',IsZip h' (s.heap.objs.size+4) (s.heap.objs.size+2) (s.heap.objs.size+3) .none->Ge h' (s.heap.objs.size+2) (.ref s.heap.objs.size) (.ref (s.heap.objs.size+1))->
   Ge h' (s.heap.objs.size+3) .none .none->h'.IsTupleIter s.heap.objs.size l1 0->h'.IsTupleIter (s.heap.objs.size+1) l2 0->
   (∀c o,s.heap.get? c=ae o->h'.get? c=ae o)->Q (.ref (s.heap.objs.size+4)) {s with heap:=h'}):
  Av (A9 prog w) A (call (.type "zip") [.ref l1,.ref l2]) Q E s:=by
 refine callType_new F.called_zip ∎ (F.typeCall_zip_2 _ _) (F.newCall_zip_2 _ _) (λobj=>F.args_object_init_3 obj _ _) F.entry_zip_new
  (QP l1 l2 xs ys) ⟨hl1,hl2,?_⟩
 have z1:(p9 s.heap l1).objs.size=s.heap.objs.size+1:=D9 ..;have z2:(p7 s.heap l1 l2).objs.size=s.heap.objs.size+2:=by rw[D9,z1]
 have z3:(su s.heap l1 l2).objs.size=s.heap.objs.size+3:=by rw[D9,z2]
 have z4:(qc s.heap l1 l2).objs.size=s.heap.objs.size+4:=by rw[D9,z3]
 have g5:(mn s.heap l1 l2).get? (qc s.heap l1 l2).objs.size=ae _:=A0 _ rfl;have g4:(mn s.heap l1 l2).get? (su s.heap l1 l2).objs.size=ae _:=Ah _ (A0 _ rfl);have g3:(mn s.heap l1 l2).get? (p7 s.heap l1 l2).objs.size=ae _:=Ah _ (Ah _ (A0 _ rfl));have g2:(mn s.heap l1 l2).get? (p9 s.heap l1).objs.size=ae _:=Ah _ (Ah _ (Ah _ (A0 _ rfl)));have g1:(mn s.heap l1 l2).get? s.heap.objs.size=ae _:=Ah _ (Ah _ (Ah _ (Ah _ (A0 _ rfl))));show _/\_;rw[z2,z3,z4]at g5;rw[z1,z2]at g3;rw[z3]at g4;rw[z1]at g2;rw[z4];exact⟨⟨_,g5,rfl⟩,h _ g5 g3 g4 ⟨_,g1,rfl,rfl⟩ ⟨_,g2,rfl,rfl⟩ λc o x=>
  Ah _ (Ah _ (Ah _ (Ah _ (Ah _ x))))⟩
end
def y9(K:Af)(a b:Addr):It:=
 ⟨λi H=>∃xs ys x y,SqT K H a xs/\SqT K H b ys/\xs[i]?=ae x/\ys[i]?=ae y,
  λi H v H'=>∃T x y,v=.ref T/\H T=af/\H'=upd H T (.tup [x,y])/\(∀xs,SqT K H a xs->xs[i]?=ae x)/\∀ys,SqT K H b ys->ys[i]?=ae y,
  λi H=>∃xs,SqT K H a xs/\xs.length<=i⟩
theorem Inv.many{σ:St}{s:Ai}{h':Heap}{fp:List Addr}{a:Addr}(I:Inv X pins σ H s)(hf:∀b∈fp,cw X pins H b)(k:∀b u,b∉fp->s.heap.get? b=ae u->h'.get? b=ae u)
  (ha:s.heap.objs.size<=a) (new:ObjOk X.prog X.w (upd H a o) h' a o):Inv X pins σ (upd H a o) {s with heap:=h',toks:=t'}:=by
 have hn:H a=af:=I.hok.fresh ha;have nf:∀b u,H b=ae u->b∉fp:=λb u e z=>by rw[(hf b z).1]at e;cases e
 refine I.call' (s':={ s with heap:=h',toks:=t'}) (ch:=fp) rfl ⟨λb u q _ _ z=>k b u z q,λb u q _ _ z=>⟨u.slots,k b u z q⟩,λb u q n _=>?_,λb u q z=>⟨u,k b u z q⟩,λb xs q=>?_,λb u xs q=>?_,λb ps q=>⟨#[],?_⟩⟩ (λb u e=>?_) I.bare (λb hb=>?_)
 ·rw[aD (A8 (Bd (Ao q) ha))];exact n
 ·rw[aD (aY q hn)];exact q
 ·rw[aD (aY q hn)];exact q
 ·rw[aD (aY q hn),q];simp
 ·by_cases z:b=a
  ·subst z;rw[aR]at e;cases e;exact new
  ·rw[aD z]at e;refine(I.hok b u e).stay (λc v hc q=>k c v ?_ q) (λc q=>?_) λc ys q=>?_
   ·rcases hc with z|z
    ·rw[z];exact nf b u e
    ·exact nf c _ z
   ·rw[aD (aY q hn)];exact q
   ·rw[aD (aY q hn)];exact q
 ·obtain⟨f0,f1,f2,f3,f4,f5⟩:=hf b hb;exact⟨f3,f1,f4,f5⟩
theorem Inv.many0{σ:St}{fp:List Addr}(I:Inv X pins σ H s)(hf:∀b∈fp,cw X pins H b)(k:∀b u,b∉fp->s.heap.get? b=ae u->h'.get? b=ae u):Inv X pins σ H {s with heap:=h',toks:=t'}:=by
 have nf:∀b u,H b=ae u->b∉fp:=λb u e z=>by rw[(hf b z).1]at e;cases e
 refine I.call' (s':={ s with heap:=h',toks:=t'}) (ch:=fp) rfl ⟨λb u q _ _ z=>k b u z q,λb u q _ _ z=>⟨u.slots,k b u z q⟩,λb u q n _=>n,λb u q z=>⟨u,k b u z q⟩,λb xs q=>q,λb u xs q=>q,λb ps q=>⟨#[],by rw[q];simp⟩⟩ (λb u e=>?_) I.bare (λb hb=>?_)
 ·refine(I.hok b u e).stay (λc v hc q=>k c v ?_ q) (λc q=>q) λc ys q=>q;rcases hc with z|z
  ·rw[z];exact nf b u e
  ·exact nf c _ z
 ·obtain⟨f0,f1,f2,f3,f4,f5⟩:=hf b hb;exact⟨f3,f1,f4,f5⟩
theorem K0{K:Af}{a b z TI TO i1 i2:Addr}(D:ZipApart z TI TO i1 i2 a b):Turn P w K (.Tuple elts kk pos) (y9 K a b) [z,TI,TO,i1,i2] z
  (λi h=>IsZip h z TI TO .none/\Ge h TI (.ref i1) (.ref i2)/\(∃x y,Ge h TO x y)/\h.IsTupleIter i1 a i/\h.IsTupleIter i2 b i) where
 mem:=by simp
 obj:=λi h st c hc=>by
  obtain⟨hz,hI,⟨x,y,hO⟩,⟨o1,e1,c1,d1⟩,⟨o2,e2,c2,d2⟩⟩:=st;simp only[Aw,Bh,or_false]at hc;rcases hc with rfl|rfl|rfl|rfl|rfl
  ·exact⟨_,hz,λv q=>by have q':Data.fields _=Data.cell v:=q;cases q'⟩
  ·exact⟨_,hI,λv q=>by have q':Data.seq _ _=Data.cell v:=q;cases q'⟩
  ·exact⟨_,hO,λv q=>by have q':Data.seq _ _=Data.cell v:=q;cases q'⟩
  ·exact⟨o1,e1,λv q=>by rw[d1]at q;cases q⟩
  ·exact⟨o2,e2,λv q=>by rw[d2]at q;cases q⟩
 keep:=λi h h' st k=>by
  obtain⟨hz,hI,⟨x,y,hO⟩,h1,h2⟩:=st;exact⟨k z (by simp) _ hz,k TI (by simp) _ hI,⟨x,y,k TO (by simp) _ hO⟩,h1.at λo e=>k i1 (by simp) o e,h2.at λo e=>k i2 (by simp) o e⟩
 item:=by
  intro X hP hw hK hc i pins s σ H E I hf st hg;subst hP hw hK;obtain⟨hz,hI,⟨x0,y0,hO⟩,h1,h2⟩:=st;obtain⟨xs,ys,x,y,qa,qb,ex,ey⟩:=hg;obtain⟨its,rv,p,_⟩:=I.tuple qa;obtain⟨jts,rw',p',_⟩:=I.tuple qb;obtain⟨u,hu,ru⟩:=rv.get ex;obtain⟨u',hu',ru'⟩:=rw'.get ey;refine Th D hz hI hO h1 h2 (show s.heap.IsTuple a its.toArray from p) (show s.heap.IsTuple b jts.toArray from p') (x:=u) (y:=u') (by simpa using hu) (by simpa using hu') λh' a1 a2 a3 a4 a5 a6 a7=>⟨_,rfl,?_⟩;refine wpAny_letOwnedTupleGo_zip (s:={ s with heap:=h'}) a1 λh'' b1 b2=>?_;have T:h''.get? s.heap.objs.size=ae {cls:=.type "tuple",data:=.seq #[u,u']}:=b2.extBut _ _ (Ej (Ao hz)) a5;have Tn:H s.heap.objs.size=af:=I.hok.fresh (Am _);have kp:∀c o,c∉[z,TI,TO,i1,i2]->s.heap.get? c=ae o->h''.get? c=ae o:=λc o hc e=>by
   simp only[Aw,Bh,or_false,not_or]at hc;exact b2.extBut _ _ hc.1 (a7 c o hc.1 hc.2.2.1 hc.2.2.2.1 hc.2.2.2.2 e)
  refine⟨.ref s.heap.objs.size,upd H s.heap.objs.size (.tup [x,y]),I.many (t':=s.toks) hf kp (Am _) ⟨by show 2<=Ar;decide,[u,u'],.cons ru (.cons ru' .nil),_,T,rfl,⟨_,rfl⟩,rfl⟩,rfl,⟨_,x,y,rfl,Tn,rfl,λzs q=>by rw[I.tuple_inj q qa];exact ex,λzs q=>by rw[I.tuple_inj q qb];exact ey⟩,
   ⟨b1,b2.extBut _ _ D.TIz (a7 _ _ D.TIz D.TITO D.TIi1 D.TIi2 hI),⟨_,_,b2.extBut _ _ D.TOz a2⟩,a3.extBut b2.extBut D.i1z,a4.extBut b2.extBut D.i2z⟩,λc hc=>?_⟩
  have hlt:c < s.heap.objs.size:=by
   simp only[Aw,Bh,or_false]at hc;rcases hc with rfl|rfl|rfl|rfl|rfl
   ·exact Ao hz
   ·exact Ao hI
   ·exact Ao hO
   ·obtain⟨_,e,_⟩:=h1;exact Ao e
   ·obtain⟨_,e,_⟩:=h2;exact Ao e
  rw[aD (A8 hlt)];exact(hf c hc).1
 done:=by
  intro X hP hw hK hc i pins s σ H E I hf st hg;subst hP hw hK;obtain⟨hz,hI,_,h1,h2⟩:=st;obtain⟨xs,hq,hx⟩:=hg;obtain⟨its,rv,p,_⟩:=I.tuple hq;have hl:=rv.length;refine Pq (I.ok.hd hc) D hz hI h1 (show s.heap.IsTuple a its.toArray from p) (by simp;omega) λh' k=>⟨rfl,I.many0 (t':=s.toks) hf λc o hc e=>?_⟩;simp only[Aw,Bh,or_false,not_or]at hc;exact k c o hc.1 hc.2.2.2.1 e
 self:=λ_ _ _ _ _ st h=>wpAny_pyIter_zip st.1 h
def m4(K:Af)(ta:TA):TI:=λσ H R=>ta σ H λvs H1=>∃a b,vs=[.ref a,.ref b]/\(∃xs,SqT K H1 a xs)/\(∃ys,SqT K H1 b ys)/\R (y9 K a b) H1
theorem IY:Bp "zip"=ae (.type "zip"):=by decide +kernel
theorem Lj{elts:List Expr}{kk:Nat}{tpos:Pos}{p pos:Pos}(hg:Gl X "zip")(hm:X.mg "zip"=af)(ha:PA X [e1,e2] ta)(hs:Ap [e1,e2] X.env=[(ai,eval e1 X.env),(ai,eval e2 X.env)]:=by rfl)(hs2:Ap [e2] X.env=[(ai,eval e2 X.env)]:=by rfl):
  PI X (.Tuple elts kk tpos) (.Call (.Name "zip" p) [e1,e2] [] pos) (m4 X.K ta):=by
 intro pins s σ H R I h;refine Call_ (jU I hg hm IY (C8 (aG (ha pos pins s σ H _ I h) λus s1 ⟨vs,H1,I1,r1,q1⟩=>?_) (by rw[hs,hs2]) (by rw[hs2];rfl)));obtain⟨a,b,e,⟨xs,qa⟩,⟨ys,qb⟩,q⟩:=q1;subst e;cases r1 with
 |cons r rr=>
  cases rr with
  |cons r' rr=>
   cases rr;cases r;cases r';obtain⟨its,rv,pp,_⟩:=I1.tuple qa;obtain⟨jts,rw',pp',_⟩:=I1.tuple qb;have la:a < s1.heap.objs.size:=by obtain⟨_,e,_⟩:=id pp;exact Ao e
   have lb:b < s1.heap.objs.size:=by obtain⟨_,e,_⟩:=id pp';exact Ao e
   refine RM (show s1.heap.IsTuple a its.toArray from pp) (show s1.heap.IsTuple b jts.toArray from pp') λh' a1 a2 a3 a4 a5 a6=>wpAny_pyIter_zip (s:={ s1 with heap:=h'}) a1 ?_;refine⟨_,_,_,_,H1,rfl,I1.kept (t':=s1.toks) a6,K0 (zipApart_new la lb),⟨a1,a2,⟨_,_,a3⟩,a4,a5⟩,λc hc=>?_,q⟩;have hlt:s1.heap.objs.size<=c:=by
    simp only[Aw,Bh,or_false]at hc;rcases hc with rfl|rfl|rfl|rfl|rfl<;>omega
   exact I1.fpOk hlt (I1.hok.fresh hlt)
end L2
namespace DL
open PySem L2 Nb
def bJ(kvs:List (aC×Ab))(k:aC):Option Ab:=(kvs.find? λkv=>decide (kv.1=k)).map (·.2)
def dP(kvs:List (aC×Ab))(k:aC)(v:Ab):List (aC×Ab):=
 if (kvs.any λkv=>decide (kv.1=k))=ah then kvs.map (λkv=>if kv.1=k then(kv.1,v)else kv)else kvs++[(k,v)]
def mq(kvs more:List (aC×Ab)):List (aC×Ab):=more.foldl (λacc kv=>dP acc kv.1 kv.2) kvs
section
variable{H H':Hp}{B B':Addr->Prop}{l:List (aC×V)}{m:List (aC×Ab)}{v:V}{d:Ab}{t:Addr}
theorem RdK.len(h:RdK H B l m):l.length=m.length:=by
 unfold RdK at h
 induction h with
 |nil=>rfl
 |cons _ _ ih=>rw[Bf,Bf,ih]
theorem RdK.val(h:RdK H B l m)(k):(bC l k=af/\bJ m k=af)\/∃v d,bC l k=ae v/\bJ m k=ae d/\RdX H B v d:=by
 unfold RdK at h
 induction h with
 |nil=>exact .inl ⟨rfl,rfl⟩
 |@cons p q ps qs r _ ih=>
  by_cases e:p.1=k
  ·have e':q.1=k:=r.1▸e;exact .inr ⟨p.2,q.2,by simp[bC,Bc,e],by simp[bJ,Bc,e'],r.2⟩
  ·have e':¬q.1=k:=r.1▸e;have a1:bC (p::ps) k=bC ps k:=by simp[bC,Bc,e]
   have a2:bJ (q::qs) k=bJ qs k:=by simp[bJ,Bc,e']
   rw[a1,a2];exact ih
theorem RdK.any(h:RdK H B l m)(k):(l.any λkv=>decide (kv.1=k))=(m.any λkv=>decide (kv.1=k)):=by
 unfold RdK at h
 induction h with
 |nil=>rfl
 |cons r _ ih=>rw[Dd,Dd,ih,r.1]
theorem RdK.map(h:RdK H B l m)(r:RdX H B v d)(k):RdK H B (l.map λkv=>if kv.1=k then(kv.1,v)else kv) (m.map λkv=>if kv.1=k then(kv.1,d)else kv):=by
 unfold RdK at h ⊢
 induction h with
 |nil=>exact .nil
 |@cons p q ps qs r' _ ih=>
  rw[Bg,Bg];refine .cons ?_ ih;by_cases e:p.1=k
  ·rw[if_pos e,if_pos (r'.1▸e:q.1=k)];exact⟨r'.1,r⟩
  ·rw[if_neg e,if_neg (r'.1▸e:¬q.1=k)];exact r'
theorem RdK.append(h:RdK H B l m)(h2:RdK H B l2 m2):RdK H B (l++l2) (m++m2):=by
 unfold RdK at h ⊢
 induction h with
 |nil=>exact h2
 |cons r' _ ih=>exact .cons r' ih
theorem RdK.put(h:RdK H B l m)(r:RdX H B v d)(k):RdK H B (bx l k v) (dP m k d):=by
 unfold bx dP;rw[h.any k]
 split
 ·exact h.map r k
 ·exact h.append (.cons ⟨rfl,r⟩ .nil)
theorem RdK.merge(h2:RdK H B l2 m2):∀{l:List (aC×V)}{m:List (aC×Ab)},RdK H B l m->RdK H B (lr l l2) (mq m m2):=by
 unfold RdK at h2
 induction h2 with
 |nil=>intro l m h;exact h
 |@cons p q ps qs r _ ih=>
  intro l m h;show RdK H B (lr (bx l p.1 p.2) ps) (mq (dP m q.1 q.2) qs);rw[r.1];exact ih (h.put r.2 _)
theorem GU(l:List (aC×V))(k)(v):(bx l k v).length<=l.length+1:=by
 unfold bx
 split
 ·rw[Ad];omega
 ·rw[A2];exact Am _
theorem PM(l2:List (aC×V)):∀l:List (aC×V),(lr l l2).length<=l.length+l2.length:=by
 induction l2 with
 |nil=>intro l;exact Am _
 |cons p r ih=>
  intro l;show(lr (bx l p.1 p.2) r).length<=_;have:=ih (bx l p.1 p.2);have:=GU l p.1 p.2;rw[Bf];omega
end
section
variable{X:Cx}{a b c e o i f:Expr}{ta tb te td ty tx:TE}{wa wb we wd' wy wx:DT}{pos p:Pos}{K:Af}
def eC(i:Nat):DT:=λδ n Q=>match δ[i]? with
 |some (ae (.odk kvs))=>Q (.dk kvs) n
 |some (ae (.w x))=>Q x n
 |_=>False
theorem Jl(i)(hN:X.N[i]?=ae x:=by rfl)(hv:fD X.env.scope x:=by first|exact By rfl|exact Ca (By rfl)|exact Ca (Ca rfl))(hd:(x==("__debug__":Str))=ai:=by decide)
  (hcd:(x==("__classdict__":Str))=ai:=by decide):DE X (.Name x p) (az i) (eC i):=⟨gC hN hv hd hcd,λC H B σ δ n Q Q' R h k=>by
 unfold eC at h
 split at h
 ·rename_i kvs e;obtain⟨v,h1,a,l,rfl,g2,g3,g4,g5,g6⟩:=R.sl i _ e;exact⟨_,h1,k _ (.dk kvs) H n R (Kp.refl _ _) ⟨a,l,rfl,g2,λz=>R.t0 (z▸g4),g6⟩ h⟩
 ·rename_i x e;obtain⟨v,h1,h2⟩:=R.sl i _ e;exact⟨v,h1,k v x H n R (Kp.refl _ _) h2.1 h⟩
 ·exact h.elim⟩
def oW:Wv->Wv->Int->DQ->Prop:=λx y n Q=>match x,y with
 |.dk kvs,.d (.str k)=>match bJ kvs (.inr k)with
  |some d=>Q (.d d) n
  |none=>False
 |_,_=>False
theorem Q3(hu:X.A.units+64 < Dj)(ho:DE X o td wd')(hi:DE X i ty wy)(hs:ir i:=by exact λ_ _=>rfl):DE X (.Subscript o i pos) (CI td ty) (w2 wd' wy oW):=⟨SN ⋯ ho.pe hi.pe hs,λC H B σ δ n Q Q' R h k=>
 ho.sd C H B σ δ n _ _ R h λv x H1 n1 R1 k1 r1 q1=>hi.sd C H1 B σ δ n1 _ _ R1 q1 λu y H2 n2 R2 k2 r2 q2=>by
  have r1':=r1.kp k2 R1.bt;unfold oW at q2
  split at q2
  ·rename_i kvs key;obtain⟨a,l,rfl,g1,g2,g3⟩:=r1';cases(show RdX H2 B u (.str key)from r2);rcases g3.val (.inr key)with⟨e1,e2⟩|⟨v,d,e1,e2,e3⟩
   ·rw[e2]at q2;exact q2.elim
   ·rw[e2]at q2;exact⟨a,v,rfl,.inl ⟨l,.inr key,.inl g1,rfl,e1.symm⟩,k v (.d d) H2 n2 R2 (k1.trans k2) e3 q2⟩
  ·exact q2.elim⟩
def fo(neg:Bool):Wv->Wv->Int->DQ->Prop:=λx y n Q=>match x,y with
 |.d (.str k),.dk kvs=>Q (.d (.bool (if neg then !(bJ kvs (.inr k)).isSome else(bJ kvs (.inr k)).isSome))) n
 |_,_=>False
theorem QJ(hi:DE X i ty wy)(ho:DE X o td wd'):du (kF ty td) (w2 wy wd' (fo ai)):=λC H B σ δ n Q Q' R h k=>
 hi.sd C H B σ δ n _ _ R h λv x H1 n1 R1 k1 r1 q1=>ho.sd C H1 B σ δ n1 _ _ R1 q1 λu y H2 n2 R2 k2 r2 q2=>by
  have r1':=r1.kp k2 R1.bt;unfold fo at q2
  split at q2
  ·rename_i key kvs;obtain⟨a,l,rfl,g1,g2,g3⟩:=r2;cases(show RdX H2 B v (.str key)from r1');refine⟨a,bC l (.inr key),rfl,.inl ⟨l,.inr key,.inl g1,rfl,rfl⟩,k _ _ H2 n2 R2 (k1.trans k2) (wd (.bl _)) ?_⟩;rcases g3.val (.inr key)with⟨e1,e2⟩|⟨v,d,e1,e2,e3⟩
   ·rw[e1];rw[e2]at q2;exact q2
   ·rw[e1];rw[e2]at q2;exact q2
  ·exact q2.elim
theorem QU(hi:DE X i ty wy)(ho:DE X o td wd'):du (o7 ty td) (w2 wy wd' (fo ah)):=λC H B σ δ n Q Q' R h k=>
 hi.sd C H B σ δ n _ _ R h λv x H1 n1 R1 k1 r1 q1=>ho.sd C H1 B σ δ n1 _ _ R1 q1 λu y H2 n2 R2 k2 r2 q2=>by
  have r1':=r1.kp k2 R1.bt;unfold fo at q2
  split at q2
  ·rename_i key kvs;obtain⟨a,l,rfl,g1,g2,g3⟩:=r2;cases(show RdX H2 B v (.str key)from r1');refine⟨a,bC l (.inr key),rfl,.inl ⟨l,.inr key,.inl g1,rfl,rfl⟩,k _ _ H2 n2 R2 (k1.trans k2) (wd (.bl _)) ?_⟩;rcases g3.val (.inr key)with⟨e1,e2⟩|⟨v,d,e1,e2,e3⟩
   ·rw[e1];rw[e2]at q2;exact q2
   ·rw[e1];rw[e2]at q2;exact q2
  ·exact q2.elim
theorem PY(hu:X.A.units+64 < Dj)(hi:DE X i ty wy)(ho:DE X o td wd')(hm:Ci .In o=ai:=by with_unfolding_all rfl):DE X (.Compare i [.In] [o] pos) (kF ty td) (w2 wy wd' (fo ai)):=⟨HM (OB ⋯ hi.pe ho.pe) hm,QJ hi ho⟩
theorem Q9(hu:X.A.units+64 < Dj)(hi:DE X i ty wy)(ho:DE X o td wd')(hm:Ci .NotIn o=ai:=by with_unfolding_all rfl):DE X (.Compare i [.NotIn] [o] pos) (o7 ty td) (w2 wy wd' (fo ah)):=⟨HM (Iq ⋯ hi.pe ho.pe) hm,QU hi ho⟩
abbrev l6:=Sl->Int->(List (aC×Ab)->Int->Prop)->Prop
def vF(t:TE)(w:l6):Prop:=∀(C:Ctx)(H:Hp)(B:Addr->Prop)(σ:St)(δ:Sl)(n:Int)(Q:List (aC×Ab)->Int->Prop)(Q':VK),Rel C H B σ δ n->w δ n Q->
 (∀a l kvs H' n',Rel C H' B σ δ n'->Kp C.t H H'->H a=af->H' a=ae (.dK l)->l.length<=1000->RdK H' (λb=>B b\/b=a) l kvs->Q kvs n'->Q' (.ref a) H')->t σ H Q'
structure DN(X:Cx)(e:Expr)(t:TE)(w:l6):Prop where
 pe:PE X e t
 sd:vF t w
def kD:l6:=λ_ n Q=>Q [] n
theorem SW:DN X (.Dict [] [] pos) yE kD:=⟨RU,λC H B σ δ n Q Q' R q k=>λa ha=>k a [] [] _ n (R.new ha) (Kp.new ha) ha aR (Az _) .nil q⟩
def kO:List Ab->Option (List (aC×Ab))
 |[]=>ae []
 |.tuple [.str k,d]::r=>(kO r).map ((.inr k,d)::·)
 |_=>af
theorem Im:∀{xs:List V}{ds:List Ab}{ps:List (aC×Ab)},RdXs H B xs ds->kO ds=ae ps->∃qs:List (Addr×aC×V),xs=qs.map (λp=>V.ref p.1)/\(∀p∈qs,H p.1=ae (.tup [kV p.2.1,p.2.2]))/\RdK H B (qs.map (·.2)) ps
 |_,_,ps,.nil,h=>by
  cases h;exact⟨[],rfl,λp (hp:p∈[])=>absurd hp Bh,Paired.nil⟩
 |_,_,ps,.cons (d:=d) (ds:=ds) h1 h2,h=>by
  unfold kO at h
  split at h
  ·rename_i e;cases e
  ·rename_i k d' r e;cases e;cases e2:kO ds with
   |none=>rw[e2]at h;cases h
   |some ps'=>
    rw[e2]at h;cases h;obtain⟨qs,f1,f2,f3⟩:=Im h2 e2;cases h1 with
    |@tup a ys _ g1 g2 g3 g4=>
     cases g4 with
     |cons c1 c2=>
      cases c2 with
      |cons c3 c4=>
       cases c4;cases c1;refine⟨(a,.inr k,_)::qs,by rw[f1];rfl,λp hp=>?_,.cons ⟨rfl,c3⟩ f3⟩;rcases Aw.mp hp with rfl|z
       ·exact g1
       ·exact f2 p z
  ·cases h
def IZ:List V->Hp->VK->Prop:=λxs H Q=>∃(src:Addr)(ps:List (Addr×aC×V)),xs=[.ref src]/\H src=ae (.tup (ps.map λp=>V.ref p.1))/\(∀p∈ps,H p.1=ae (.tup [kV p.2.1,p.2.2]))/\ps.length<=1000 /\
  ∀l,H l=af->Q (.ref l) (L2.upd H l (.dK (lr [] (ps.map (·.2)))))
def lS(w:DT):l6:=λδ n Q=>w δ n λx n1=>match x with
 |.d (.tuple ds)=>match kO ds with
  |some ps=>ds.length<=1000/\Q (mq [] ps) n1
  |none=>False
 |_=>False
theorem OH(hh:X.A.handled=af)(hg:Gl X "dict")(hm:X.mg "dict"=af)(he:DE X e te we)(hv:Bp "dict"=ae (.type "dict"):=by decide +kernel)
  (he':Ap [e] X.env=(ai,eval e X.env)::Ap [] X.env:=by rfl) (hpl:(Cy pos (Ap [] X.env)).any (·.1)=ai:=by rfl):DN X (.Call (.Name "dict" p) [e] [] pos) (eT IZ (aM te aI)) (lS we):=
 ⟨nj (Pu hh) hg hm hv (bP he.pe dC he') ∎ ∎ he' hpl,λC H B σ δ n Q Q' R q k=>
  he.sd C H B σ δ n _ _ R q λv x H1 n1 R1 k1 r1 q1=>by
   split at q1
   ·rename_i ds
    split at q1
    ·rename_i ps ep;cases(show RdX H1 B v (.tuple ds)from r1)with
     |@tup a ys _ g1 g2 g3 g4=>
      obtain⟨qs,f1,f2,f3⟩:=Im g4 ep;subst f1;have hl:qs.length<=1000:=by have:=g4.len;rw[Ad]at this;rw[this];exact q1.1
      refine⟨a,qs,rfl,g1,f2,hl,λl hl0=>?_⟩;refine k l _ (mq [] ps) _ n1 (R1.new hl0) (k1.trans (Kp.new hl0)) (R1.was k1 hl0) aR ?_ ?_ q1.2
      ·have:=PM (qs.map (·.2)) [];rw[Ad]at this;have z:([]:List (aC×V)).length=0:=rfl;omega
      ·refine RdK.merge ?_ .nil;exact f3.move λb o e n=>⟨by rw[aD (aY e hl0)];exact e,λz=>z.elim n λq=>aY e hl0 q⟩
    ·exact q1.elim
   ·exact q1.elim⟩
def j7(i:Nat)(w:l6):aF:=λδ n K=>w δ n λkvs n1=>K.nx (δ.set i (ae (.odk kvs))) n1
theorem Nr{i:Nat}(hN:X.N.Nodup)(hi:X.N[i]?=ae x)(hx:gw X.env.scope x)(he:DN X e te w)(hs:Dp e (ae (.Name x pos')) pos.line X.env=pure ai:=by rfl)(hf:X.fn x=ah\/X.env.scope.names.lookup x=ae .local:=by first|exact .inl rfl|exact .inr rfl|assumption):
  DS X (.Assign [.Name x pos'] e pos) (aW te (cv i)) (j7 i w):=⟨dZ hN hi hx he.pe hs hf,λC H B σ δ n K D R q E=>
 he.sd C H B σ δ n _ _ R q λa l kvs H1 n1 R1 k1 h0 h1 h2 h3 q1=>by
  refine E.nx _ _ _ _ _ (R.own R1 k1 h0 (by rw[h1];exact λz=>nomatch z) rfl ?_) q1;exact⟨a,l,rfl,h1,.inr rfl,R.h0 h0,h2,h3⟩⟩
def sq(i:Nat)(wy wv:DT):aF:=λδ n K=>match δ[i]? with
 |some (ae (.odk kvs))=>wv δ n λv n1=>wy δ n1 λy n2=>match v,y with
  |.d d,.d (.str k)=>kvs.length < 1000/\K.nx (δ.set i (ae (.odk (dP kvs (.inr k) d)))) n2
  |_,_=>False
 |_=>False
theorem Oj{i:Nat}{xp sp:Pos}(hu:X.A.units+64 < Dj)(hN:X.N[i]?=ae x)(hj:DE X j tj wj)(he:DE X e te we)(hv:fD X.env.scope x:=by first|exact By rfl|exact Ca (By rfl)|exact Ca (Ca rfl))(hd:(x==("__debug__":Str))=ai:=by decide)
  (hcd:(x==("__classdict__":Str))=ai:=by decide) (hs:Dp e (ae (.Subscript (.Name x xp) j sp)) pos.line X.env=pure ai:=by rfl):
  DS X (.Assign [.Subscript (.Name x xp) j sp] e pos) (xY (az i) tj te) (sq i wj we):=
 ⟨HF ⋯ (gC hN hv hd hcd) hj.pe he.pe hs,λC H B σ δ n K D R q E=>by
  unfold sq at q
  split at q
  ·rename_i kvs ei;refine he.sd C H B σ δ n _ _ R q λu y H1 n1 R1 k1 r1 q1=>?_;obtain⟨v,hv,a,l,rfl,e2,e3,e4,e5,e6⟩:=R1.sl i _ ei;refine⟨_,hv,hj.sd C H1 B σ δ n1 _ _ R1 q1 λw z H2 n2 R2 k2 r2 q2=>?_⟩
   split at q2
   ·rename_i d key;cases(show RdX H2 B w (.str key)from r2);have hat:a≠C.t:=λz=>R.t0 (z▸e4);have e2':=k2 _ _ e2 hat;have r1':RdX H2 B u d:=r1.kp k2 R1.bt;have e6':RdK H2 B l kvs:=e6.move λb o e n=>⟨k2 b o e λz=>n (z▸R1.bt),n⟩;have hl:l.length < 1000:=by rw[e6'.len];exact q2.1
    refine⟨a,_,rfl,DPut.k (k:=.inr key) e2' (Bd hl (jq (Am _))),?_⟩;refine E.nx _ _ _ _ _ (R2.mutOwn ei rfl hv e3 e4 ?_ rfl) q2.2;refine⟨a,_,rfl,aR,e3,e4,?_,?_⟩
    ·have:=GU l (.inr key) u;omega
    ·exact(e6'.put r1' _).move λb o e n=>⟨by rw[aD λ(z:b=a)=>n (z▸e3)];exact e,n⟩
   ·exact q2.elim
  ·exact q.elim⟩
end
section
variable{X:Cx}{a b c e o i f:Expr}{ta tb te td ty tx:TE}{wa wb we wd' wy wx:DT}{pos p:Pos}{K:Af}
def bo(ps:List (Str×Ab)):List (aC×Ab):=ps.map λp=>(Dv p.1,p.2)
def j8(ps:List (Str×Ab)):Prop:=ps.Pairwise λa b=>¬b.1.cps.toList < a.1.cps.toList
def yz(w:DT):fA:=λδ n Q=>w δ n λx n1=>match x with
 |.dk kvs=>∃ps:List (Str×Ab),kvs=bo ps/\ps.length < 64/\(ps.map (·.1)).Nodup/\(∀p∈ps,p.1.length<=1000/\gA p.2=ah)/\∀ps':List (Str×Ab),ps'.Perm ps->j8 ps'->Q (ps'.map λp=>.tuple [.str p.1,p.2]) n1
 |_=>False
theorem yx:∀{l:List (aC×V)}{ps:List (Str×Ab)},RdK H B l (bo ps)->∃xv:List V,xv.length=ps.length/\l=(((ps.map (·.1)).zip xv).map λp=>((Dv p.1:aC),p.2))/\RdXs H B xv (ps.map (·.2))
 |[],[],_=>⟨[],rfl,rfl,.nil⟩
 |[],_::_,h=>nomatch h
 |_::_,[],h=>nomatch h
 |q::l,p::ps,.cons r h=>by
  obtain⟨xv,e1,e2,e3⟩:=yx (l:=l) (ps:=ps) h;refine⟨q.2::xv,by simp[e1],?_,.cons r.2 e3⟩;rw[e2];have r1:q.1=(Dv p.1:aC):=r.1;have:q=((Dv p.1:aC),q.2):=by rw[<-r1]
  rw[this];rfl
def UU:V->List V->Hp->VK->Prop:=λx vs H Q=>∃d kvs,x=.ref d/\vs=[]/\H d=ae (.dK kvs)/\∀v,H v=af->Q (.ref v) (upd H v (jP d v))
theorem zr{α β:Type}{f:α->β}{l:List α}{i:Nat}{x:α}{y:β}(h:i < l.length):(l.map f).getD i y=f (l.getD i x):=by simp[h]
theorem Ue{ap ip:Pos}(hh:X.A.handled=af)(hg:Gl X "sorted")(hm:X.mg "sorted"=af)(ho:DE X o td wd')(hv:Bp "sorted"=ae (.builtin "sorted"):=by decide +kernel)(hK:X.K=K:=by rfl)
  (hbase:attributeBase o "items" X.env (eval o X.env)=eval o X.env:=by rfl) (hline:(ap.endLine==ip.line)=ah:=by rfl)
  (he':Ap [Expr.Call (.Attribute o "items" ap) [] [] ip] X.env=(ai,eval (Expr.Call (.Attribute o "items" ap) [] [] ip) X.env)::Ap [] X.env:=by rfl) (hpl:(Cy pos (Ap [] X.env)).any (·.1)=ai:=by rfl):
  DF X (.Call (.Name "sorted" p) [.Call (.Attribute o "items" ap) [] [] ip] [] pos) (eT Iz (aM (pO K "dict" UU td) aI)) (yz wd'):=by
 subst hK;refine⟨ju (M0 hh) hg hm hv (bP (Ls PySem.F.plainAttrs_dict PySem.F.slot_dict_items PySem.F.type_dict_items QD ho.pe hbase hline) dC he') ∎ ∎ he' hpl,λC H B σ δ n Q Q' R q k=>
  ho.sd C H B σ δ n _ _ R q λv x H1 n1 R1 k1 r1 q1=>?_⟩
 cases x with
 |d _=>exact q1.elim
 |tp=>exact q1.elim
 |ln _=>exact q1.elim
 |ob _=>exact q1.elim
 |dx _=>exact q1.elim
 |dk kvs=>
  obtain⟨a,l,rfl,g1,g2,g3⟩:=r1;obtain⟨ps,rfl,h64,nd,hps,kq⟩:=q1;obtain⟨xv,ex1,ex2,ex3⟩:=yx g3;refine⟨.inr (.inr (.inl ⟨rfl,.inl ⟨l,g1⟩⟩)),a,l,rfl,rfl,g1,λv hv=>?_⟩;have R2:=R1.new (o:=jP a v) hv;have kp2:Kp C.t H1 (upd H1 v (jP a v)):=Kp.new hv;have hne:a≠v:=aY g1 hv;refine⟨v,a,ps.map (·.1),xv,rfl,aR,by rw[Ad,ex1],by rw[aD hne,g1,ex2],by rw[Ad];exact h64,nd,my ex3 ?_,λD as idx H' hla hidx hpw sm hD has hD' hit=>?_⟩
  ·rw[Dm];intro d hd;obtain⟨p,hp,rfl⟩:=A3.mp hd;exact(hps p hp).2
  ·rw[Ad]at hla hidx;have R3:=R2.same sm;have k3:Kp C.t H H':=(k1.trans kp2).trans λb o e _=>sm b o e;have hDn:H D=af:=R1.was k1 (by
    cases q:H1 D with
    |none=>rfl
    |some o=>
     have:upd H1 v (jP a v) D=ae o:=by rw[aD (aY q hv)];exact q
     rw[hD]at this;cases this)
   have hlt:∀i∈idx,i < ps.length:=λi hi=>Bo.mp (hidx.mem_iff.mp hi);have lidx:idx.length=ps.length:=by rw[hidx.length_eq,Dr]
   refine k D _ _ H' n1 R3 k3 hDn hD' (by rw[Ad,lidx];exact jq ⋯) ?_ (kq (idx.map λi=>ps.getD i (⟨#[]⟩,.none)) ?_ ?_)
   ·rw[Cj];have key:∀m:List Nat,(∀i∈m,i∈idx)->RdXs H' (λb=>B b\/b=D) (m.map λi=>V.ref (eW as (ps.map (·.1)) xv i).1) (m.map ((λp=>PyData.tuple [.str p.1,p.2]) ∘ λi=>ps.getD i (⟨#[]⟩,.none))):=by
     intro m
     induction m with
     |nil=>intro _;exact .nil
     |cons i r ih=>
      intro hm;have hi:=hm i Au;have hil:=hlt i hi;refine .cons ?_ (ih λj hj=>hm j (An _ hj));have ht:=hit i hi;have hia:i < as.length:=by rw[hla];exact hil
      have eA:(eW as (ps.map (·.1)) xv i).1=as[i]:=by show as.getD i 0=_;simp[hia]
      have eK:(eW as (ps.map (·.1)) xv i).2.1=ps[i].1:=by show(ps.map (·.1)).getD i ⟨#[]⟩=_;simp[hil]
      have hix:i < xv.length:=by rw[ex1];exact hil
      have eX:(eW as (ps.map (·.1)) xv i).2.2=xv[i]:=by show xv.getD i .non=_;simp[hix]
      rw[eA,eK,eX]at ht;show RdX H' _ (.ref (eW as (ps.map (·.1)) xv i).1) _;rw[eA];have eP:ps.getD i (⟨#[]⟩,.none)=ps[i]:=by simp[hil]
      show RdX H' _ (.ref as[i]) (.tuple [.str (ps.getD i (⟨#[]⟩,.none)).1,(ps.getD i (⟨#[]⟩,.none)).2]);rw[eP];have hAn:=has as[i] (Cm hia);have nB:¬B as[i]:=R2.nb hAn;have nD:as[i]≠D:=λz=>by rw[z,hD']at ht;cases ht
      refine .tup ht (λz=>z.elim nB nD) (by show 2<=Ar;decide) (.cons (.str _ (jq (hps ps[i] (Cm hil)).1)) (.cons ?_ .nil));obtain⟨d,f1,f2⟩:=ex3.get (Ag hix);rw[Aq,Ag hil]at f1;cases f1;exact f2.move λb o e n=>⟨sm b o (by rw[aD (aY e hv)];exact e),λz=>z.elim n λq=>by
       have e2:upd H1 v (jP a v) b=ae o:=by rw[aD (aY e hv)];exact e
       rw[q,hD]at e2;cases e2⟩
    exact key idx λ_ h=>h
   ·have h1:=hidx.map λi=>ps.getD i ((⟨#[]⟩:Str),PyData.none);have h2:(A5 ps.length).map (λi=>ps.getD i ((⟨#[]⟩:Str),PyData.none))=ps:=by
     apply List.ext_getElem (by simp);intro i h1 h2;simp[h2]
    rw[h2]at h1;exact h1
   ·unfold j8;rw[List.pairwise_map];rw[List.pairwise_map]at hpw;refine List.Pairwise.imp_of_mem (λ{x y} hx hy h=>?_) hpw;rw[zr (x:=((⟨#[]⟩:Str),PyData.none)) (hlt x hx),zr (x:=((⟨#[]⟩:Str),PyData.none)) (hlt y hy)]at h;exact h
theorem uH:∀{ys:List Str},(∀y∈ys,y.length<=1000)->RdXs H B (ys.map V.str) (ys.map .str)
 |[],_=>.nil
 |y::r,h=>.cons (.str _ (jq (h y Au))) (uH λz hz=>h z (An _ hz))
def JN:List Wv->Int->DQ->Prop:=λxs n Q=>match xs with
 |[.d (.int i)]=>Q (.d (.int i)) n
 |[.d (.bool b)]=>Q (.d (.int (if b then 1 else 0))) n
 |_=>False
def dR(xs ys:List Ab):List Ab:=List.zipWith (λx y=>.tuple [x,y]) xs ys
def qZ(w w':DT):gc:=λδ n Q=>w δ n λx n1=>w' δ n1 λy n2=>match x,y with
 |.d (.tuple xs),.d (.tuple ys)=>xs.length=ys.length/\Q (dR xs ys) n2
 |_,_=>False
theorem JP{elts:List Expr}{kk:Nat}{tpos:Pos}(hg:Gl X "zip")(hm:X.mg "zip"=af)(ha:DE X a ta wa)(hb:DE X b tb wb)(hK:X.K=K:=by rfl)(hs:Ap [a,b] X.env=[(ai,eval a X.env),(ai,eval b X.env)]:=by rfl)(hs2:Ap [b] X.env=[(ai,eval b X.env)]:=by rfl)
  (he1:Ap [a,b] X.env=(ai,eval a X.env)::Ap [b] X.env:=by rfl) (he2:Ap [b] X.env=(ai,eval b X.env)::Ap [] X.env:=by rfl):
  DI X (.Tuple elts kk tpos) (.Call (.Name "zip" p) [a,b] [] pos) (m4 K (aM ta (aM tb aI))) (qZ wa wb):=by
 subst hK;refine⟨Lj hg hm (bP ha.pe (bP hb.pe dC he2) he1) hs hs2,λC H B σ δ n Q Q' R q k=>ha.sd C H B σ δ n _ _ R q λv x H1 n1 R1 k1 r1 q1=>hb.sd C H1 B σ δ n1 _ _ R1 q1 λu y H2 n2 R2 k2 r2 q2=>?_⟩;have r1':=r1.kp k2 R1.bt
 split at q2
 ·rename_i xs ys;cases(show RdX H2 B v (.tuple xs)from r1')with
  |@tup aa vs _ e1 e2 e3 e4=>
   cases(show RdX H2 B u (.tuple ys)from r2)with
   |@tup ab ws _ f1 f2 f3 f4=>
    refine⟨aa,ab,rfl,⟨vs,SqT.of e1⟩,⟨ws,SqT.of f1⟩,k _ (dR xs ys) H2 n2 R2 (k1.trans k2) (λfz th=>?_) q2.2⟩;have za:fz aa=ae (.tup vs):=th.2 _ _ e1 e2;have zb:fz ab=ae (.tup ws):=th.2 _ _ f1 f2;have lz:(dR xs ys).length=xs.length:=by unfold dR;rw[List.length_zipWith,q2.1,Nat.min_self]
    refine⟨by rw[lz,<-e4.len];exact e3,λi H hH hi=>?_,λH hH=>?_,λi H x H' d hH hd hy=>?_⟩
    ·rw[lz]at hi;have h1:i < vs.length:=by rw[e4.len];exact hi
     have h2:i < ws.length:=by rw[f4.len,<-q2.1];exact hi
     exact⟨vs,ws,vs[i],ws[i],SqT.of (hH _ _ za),SqT.of (hH _ _ zb),Ag h1,Ag h2⟩
    ·exact⟨vs,SqT.of (hH _ _ za),by rw[lz,e4.len];exact Am _⟩
    ·obtain⟨T,x1,y1,rfl,hT,rfl,hx,hy⟩:=hy;refine⟨λb o e=>by rw[aD (aY e hT)];exact e,λB' hB hBa=>?_⟩;have hi:i < xs.length:=by rw[<-lz];exact(Al.mp hd).1
     have hi2:i < ys.length:=by rw[<-q2.1];exact hi
     have ed:d=.tuple [xs[i],ys[i]]:=by
      unfold dR at hd;rw[Fo,Ag hi,Ag hi2]at hd;exact(A4 hd).symm
     subst ed;obtain⟨u1,hu1,ru1⟩:=e4.getD (Ag hi);obtain⟨u2,hu2,ru2⟩:=f4.getD (Ag hi2);have t1:=hx _ (SqT.of (hH _ _ za));have t2:=hy _ (SqT.of (hH _ _ zb));rw[hu1]at t1;rw[hu2]at t2;cases t1;cases t2;have mv:∀b o,H2 b=ae o->¬B b->upd H T (.tup [x1,y1]) b=ae o/\¬B' b:=λb o e ne=>by
      have:=hH _ _ (th.2 _ _ e ne);exact⟨by rw[aD (aY this hT)];exact this,hB _ _ (th.2 _ _ e ne)⟩
     exact .tup aR (λz=>hBa T z hT) (by show 2<=Ar;decide) (.cons (ru1.move mv) (.cons (ru2.move mv) .nil))
 ·exact q2.elim
end
end DL
namespace L2
open PySem PySem.Spec PyProof.Rows PySem.SeqAt
end L2
namespace DL
open PySem L2 Nb
section
variable{X:Cx}{K:Af}
def xK(K:Af)(f:Ab->Ab->Option Bool):R2:=λx y H Q=>∃d e b,RdD K H x d/\RdD K H y e/\d.canLay0=ah/\e.canLay0=ah/\d.depth<=20/\e.depth<=20/\f d e=ae b/\Q (.bl b) H
theorem BD(hu:X.A.units+64 < Dj)(hK:X.K=K:=by rfl):OpR X (Bu .Eq) (xK K λd e=>ae (B4 d e)):=by
 subst hK;intro pins s σ H x y v u Q I rx ry h;obtain⟨d,e,b,h1,h2,h3,h4,h5,h6,h7,q⟩:=h;cases h7;obtain⟨as,r1⟩:=RdD.reads I h1 rx;obtain⟨bs,r2⟩:=RdD.reads I h2 ry;exact SeqAt.compareEq_reads r1 r2 h3 h4 ⋯ ⟨.bl _,H,I,rfl,q⟩
theorem Qc(hu:X.A.units+64 < Dj)(hK:X.K=K:=by rfl):OpR X (Bu .NotEq) (xK K λd e=>ae (!B4 d e)):=by
 subst hK;intro pins s σ H x y v u Q I rx ry h;obtain⟨d,e,b,h1,h2,h3,h4,h5,h6,h7,q⟩:=h;cases h7;obtain⟨as,r1⟩:=RdD.reads I h1 rx;obtain⟨bs,r2⟩:=RdD.reads I h2 ry;exact SeqAt.compareNe_reads r1 r2 h3 h4 ⋯ ⟨.bl _,H,I,rfl,q⟩
def gE(f:Ab->Ab->Option Bool):Wv->Wv->Int->DQ->Prop:=λx y n Q=>match x,y with
 |.d d,.d e=>d.canLay0=ah/\e.canLay0=ah/\d.depth<=20/\e.depth<=20/\∃b,f d e=ae b/\Q (.d (.bool b)) n
 |_,_=>False
theorem wZ:bb (xK K f) (gE f):=λC H B σ δ n x y p q Q Q' R rx ry h1 k=>by
 unfold gE at h1
 split at h1
 ·rename_i d e;obtain⟨a1,a2,a3,a4,b,a5,a6⟩:=h1;exact⟨d,e,b,RdX.rd rx,RdX.rd ry,a1,a2,a3,a4,a5,k _ _ H n R (Kp.refl _ _) (wd (.bl b)) a6⟩
 ·exact h1.elim
end
end DL
namespace L2
open PySem PySem.Spec PyProof.Rows PySem.W
section
variable{prog:A7}{w:Bi}{A:Br}{E:Ae->Ai->Prop}{s:Ai}
def lE(w:Bi):Bool:=w.params.followText "set-order"
structure SetTb(w:Bi)(h:Heap)(a:Addr)(es:Array (Int×Ae))(ep:Nat)(t:SetTable):Prop where
 obj:∃o,h.get? a=ae o/\o.ExactSet/\o.data=.set es ep t
 fits:t.fits es.size=ah
 led:t.led=!lE w
 plain:t.plain=ah->es.size=0
theorem SetTb.move(x:SetTb w h a es ep t)(k:∀o,h.get? a=ae o->h'.get? a=ae o):SetTb w h' a es ep t:=
 ⟨let⟨o,e,r⟩:=x.obj;⟨o,k o e,r⟩,x.fits,x.led,x.plain⟩
theorem QI(t:SetTable)(n):(t.orStandIn n).led=t.led:=by
 unfold SetTable.orStandIn
 split<;>rfl
theorem N3(t:SetTable)(es)(h)(x):(layNew t es h x).2.1.led=t.led:=by
 unfold layNew
 split
 ·exact QI _ _
 ·rfl
theorem Us{t t':SetTable}(h:t.relaid hs n=ae (t',ord)):t'.led=t.led/\t'.plain=t.plain:=by
 unfold SetTable.relaid SetTable.laid at h;cases hc:SetTable.layClean (SetTable.sizeAbove n-1) hs with
 |none=>rw[hc]at h;cases h
 |some ow=>
  rw[hc]at h;cases h;exact⟨rfl,rfl⟩
theorem Hw(t:SetTable)(es)(n):(relayAll t es n).2.1.led=t.led/\((relayAll t es n).2.1.plain=ah->t.plain=ah):=by
 unfold relayAll
 split
 ·rename_i t' ord he;obtain⟨h1,h2⟩:=Us he;dsimp only
  split
  ·exact⟨h1,λz=>h2▸z⟩
  ·exact⟨rfl,λz=>by simp[SetTable.standIn]at z⟩
 ·exact⟨rfl,λz=>by simp[SetTable.standIn]at z⟩
def kA(v:Ae):Str:=match v with
 |.str k _=>k
 |_=>⟨#[]⟩
def bI(es:Array (Int×Ae)):List Str:=es.toList.map λe=>kA e.2
def TxEs(w:Bi)(es:Array (Int×Ae)):Prop:=∀e∈es.toList,∃k t,e.2=.str k t/\e.1=hashStr w k
theorem TxEs.elems(h:TxEs w es):ElemsOf (Eh prog w) es.toList:=λe he=>by
 obtain⟨k,t,e1,e2⟩:=h e he;refine⟨⟨k,?_,e2⟩,by rw[e1];rfl⟩;rw[e1];simp[Eh,Value.isStrOf]
def iM(w:Bi)(h:Heap)(a:Addr)(seen:List Str):Prop:=∃es ep t,SetTb w h a es ep t/\TxEs w es/\(bI es).Nodup/\(∀k,k∈bI es↔k∈seen)/\es.size<=seen.length
end
theorem FQ:entryFor table "set.update.loop"=ae Ei.«set.update.loop»:=entryFor_of_tree (by kernel_rfl)
theorem vI:plainId "set.update.loop"=ah:=by decide +kernel
section
variable{prog:A7}{w:Bi}{A:Br}{E:Ae->Ai->Prop}{s:Ai}
theorem Np{seen:List Str}(hx:TxEs w es)(nd:(bI es).Nodup)(hm:∀k,k∈bI es↔k∈seen)(hl:es.size<=seen.length)(hk:k∉bI es)
  (p:es'.toList.Perm (es.toList++[(hashStr w k,.str k tk)])):TxEs w es'/\(bI es').Nodup/\(∀k',k'∈bI es'↔k'∈seen++[k])/\es'.size<=(seen++[k]).length/\es'.size=es.size+1:=by
 have pk:(bI es').Perm (bI es++[k]):=by
  have:=p.map λe=>kA e.2;rw[Bw]at this;exact this
 have hz:es'.size=es.size+1:=by
  have:=p.length_eq;simpa using this
 refine⟨λe he=>?_,pk.nodup_iff.mpr ?_,λk'=>?_,by rw[hz,A2];exact Nat.succ_le_succ hl,hz⟩
 ·rcases Bv.mp (p.mem_iff.mp he)with h|h
  ·exact hx e h
  ·rw[Bn]at h;subst h;exact⟨k,tk,rfl,rfl⟩
 ·rw[Gu];exact⟨nd,E8 _ _,λa ha b hb e=>hk (by rw[Bn]at hb;rw[<-hb,<-e];exact ha)⟩
 ·rw[pk.mem_iff,Bv,Bv,hm k']
theorem Iw(hx:TxEs w es)(nd:(bI es).Nodup)(p:es'.toList.Perm es.toList):TxEs w es'/\(bI es').Nodup/\(∀k',k'∈bI es'↔k'∈bI es)/\es'.size=es.size:=by
 have pk:(bI es').Perm (bI es):=List.Perm.map (λe:Int×Ae=>kA e.2) p;exact⟨λe he=>hx e (p.mem_iff.mp he),pk.nodup_iff.mpr nd,λk'=>pk.mem_iff,by have:=p.length_eq;simpa using this⟩
def jv(ks:List Str)(i:Nat)(v:Ae):Prop:=∃k t,ks[i]?=ae k/\v=.str k t
end
def c9(w:Bi):Obj:={ cls:=.type "set",dict:=af,data:=.set #[] 0 (.fresh 0 0 (!lE w))}
section
variable{prog:A7}{w:Bi}{A:Br}{E:Ae->Ai->Prop}{s:Ai}
theorem Pz(e:h.get? a=ae (c9 w)):iM w h a []:=
 ⟨#[],0,.fresh 0 0 (!lE w),⟨⟨_,e,⟨rfl,rfl,rfl⟩,rfl⟩,rfl,rfl,λ_=>rfl⟩,λe he=>by simp at he,Cw,λk=>by simp[bI],Am _⟩
theorem NZ(a)(h:Q₁ (.ref s.heap.objs.size) {s with heap:=s.heap.push (c9 w)}):
  Gr (A9 prog w) A (.call (.builtin "set.__new__") ⟨[.type "set",a],[]⟩) (wants Q₁ E) s:=by
 refine codeAny_of_tree ?_;show Av _ A.in1 (do checkBuiltinCall "set.__new__" ⟨[.type "set",a],[]⟩;again (.builtin "set.__new__" ⟨[.type "set",a],[]⟩)) _ _ s;refine Aa (wpAny_of_eq (F.newCall_set_1 a) (Aj ⟨plainId_quiet F.plain_set_new _,Gq F.entry_set_new ?_⟩));rw[Fq F.plain_set_new _];unfold Ei.«set.__new__» Builtin.Frozenset.newClass;have hsub:=sub_set_self;obtain⟨hp,g,d,tk,os⟩:=s;dsimp only
 wp_walk
 refine wpAny_askSetting (Aj ?_);dsimp only;simp only[newObj];exact Aa (wpAny_alloc (Aj (Aj h)))
structure TxSrc(prog:A7)(w:Bi)(T:String)(x:Addr)(ks:List Str)(OK:Heap->Prop):Prop where
 type:∀s:Ai,OK s.heap->s.TypeIs (.ref x) T
 there:∀h:Heap,OK h->x < h.objs.size
 keep:∀h h':Heap,OK h->(∀o,h.get? x=ae o->h'.get? x=ae o)->OK h'
 notSet:isSubtype (.type T) (.type "set")=pure ai
 notFrozen:isSubtype (.type T) (.type "frozenset")=pure ai
 notDict:(Ft T==Ft "dict")=ai
 iter:∀s:Ai,OK s.heap->∃(oI:Obj)(St:Nat->Heap->Prop),
  (∀(A:Br)(E:Ae->Ai->Prop)(Q:Ae->Ai->Prop),Q (.ref s.heap.objs.size) {s with heap:=s.heap.push oI}->Av (A9 prog w) A (pyIter (.ref x)) Q E s) /\
  (∀A:Br,A.handled=af->Walks prog w A s.heap.objs.size [s.heap.objs.size,x] [s.heap.objs.size] ks.length (jv ks) St)/\St 0 (s.heap.push oI)
theorem Pf(hk:∀i v,items[i]?=ae v->jv ks i v)(hl:items.size=ks.length):TxSrc prog w "list" x ks (λh=>h.IsList x items) where
 type:=λs h=>h.typeIs
 there:=λh hl=>let⟨_,e,_⟩:=hl;Ao e
 keep:=λh h' hl k=>let⟨o,e,r⟩:=hl;⟨o,k o e,r⟩
 notSet:=by rw[isSubtype_type];kernel_rfl
 notFrozen:=by rw[isSubtype_type];kernel_rfl
 notDict:=by decide
 iter:=λs hok=>⟨_,(λi h=>h.IsListIter s.heap.objs.size x i/\h.IsList x items),(λA E Q hq=>wpAny_pyIter_list hok hq),(λA hh=>by
  have W:=Walks.list (prog:=prog) (w:=w) hh s.heap.objs.size x (A8 (let⟨_,e,_⟩:=hok;Ao e)) items;refine⟨W.sub,W.frame,λi s Q E hi st hQ=>W.item i s Q E (by rw[hl];exact hi) st λv h' tk hv a b=>hQ v h' tk (hk i v hv) a b,?_,W.self⟩;rw[<-hl];exact W.done),⟨⟨_,A0 _ rfl,rfl,rfl⟩,hok.push _⟩⟩
end
theorem Qf(h:Vals (ks.map V.str) vs)(i)(v)(e:vs.toArray[i]?=ae v):jv ks i v:=by
 have e':vs[i]?=ae v:=by simpa using e
 have hl:=h.length;rw[Ad]at hl;have hi:i < ks.length:=by rw[hl];exact(Al.mp e').1
 obtain⟨u,hu,ru⟩:=h.get (show(ks.map V.str)[i]?=ae (V.str ks[i]) by rw[Aq,Ag hi];rfl);rw[e']at hu;cases hu;obtain⟨t,ht⟩:=ru;exact⟨ks[i],t,Ag hi,ht⟩
theorem Ld{ks:List Str}(h:Vals (ks.map V.str) vs):vs.toArray.size=ks.length:=by
 have hl:=h.length;rw[Ad]at hl;rw[Ax,<-hl]
end L2
namespace DL
open PySem L2 Nb
section
variable{X:Cx}{o:Expr}{td:TE}{wd':DT}{pos p p2 ip:Pos}{W:Bi}
def pB(ys:List Str):Prop:=ys.Pairwise λa b=>¬b.cps.toList < a.cps.toList
theorem AF:∀{xs:List V}{ks:List Str},RdXs H B xs (ks.map .str)->xs=ks.map V.str
 |[],[],_=>rfl
 |_::_,[],h=>nomatch h
 |[],_::_,h=>nomatch h
 |x::xs,k::ks,.cons h t=>by
  cases h;rw[AF t];rfl
def iG(c:bR)(W:aF):aF:=λδ n K=>∃I:Nat->Sl->Int->Prop,(∃m,I m δ n)/\∀m δ n,I m δ n->
 c δ n λb n1=>if b=ah then W δ n1 {nx:=λδ n=>∃m',m' < m/\I m' δ n,rt:=K.rt,bk:=K.nx,ct:=λδ n=>∃m',m' < m/\I m' δ n,rn:=K.rn,rx:=K.rx}else K.nx δ n1
theorem Pw(hc:DC X c tc cc)(hb:DSs X body tb V')(hp:PassesOwn (A9 X.prog X.w) X.A X.env X.xe:=by exact PassesOwn.never):DS X (.While c body [] pos) (uf tc tb) (iG cc V'):=⟨zq hp hc.pt hb.ps,λC H B σ δ n K D R q E=>by
 obtain⟨I,⟨m0,i0⟩,turn⟩:=q;refine⟨λm σ H=>∃B δ n,Rel C H B σ δ n/\I m δ n,⟨m0,B,δ,n,R,i0⟩,λm σ H ⟨B,δ,n,R,i⟩=>?_⟩;refine hc.sd C H B σ δ n _ _ R (turn m δ n i) λb H1 n1 R1 k1 q1=>?_;cases b with
 |true=>
  rw[if_pos rfl]at q1 ⊢;refine⟨λσ' H'=>∃m',m' < m/\∃B δ n,Rel C H' B σ' δ n/\I m' δ n,λσ' H' z=>z,?_⟩;refine hb.sd C H1 B σ δ n1 _ _ R1 q1 ⟨?_,E.rt,?_,?_,E.rn,E.rx⟩
  ·exact λH B σ δ n R ⟨m',hm,z⟩=>⟨m',hm,B,δ,n,R,z⟩
  ·exact E.nx
  ·exact λH B σ δ n R ⟨m',hm,z⟩=>⟨m',hm,B,δ,n,R,z⟩
 |false=>
  rw[if_neg Ak]at q1 ⊢;exact E.nx H1 B σ δ n1 R1 q1⟩
variable{a:Expr}{ta:TE}{wa:DT}{K:Af}
end
section
variable{X:Cx}{a b c e o i f:Expr}{ta tb te td ty tx:TE}{wa wb we wd' wy wx:DT}{pos p:Pos}{K:Af}
def iF(i:Nat):DT:=λδ n Q=>match δ[i]? with
 |some (ae (.own ds))=>Q (.ln ds) n
 |some (ae (.w x))=>Q x n
 |_=>False
theorem vf(i)(hN:X.N[i]?=ae x:=by rfl)(hv:fD X.env.scope x:=by first|exact By rfl|exact Ca (By rfl)|exact Ca (Ca rfl))(hd:(x==("__debug__":Str))=ai:=by decide)
  (hcd:(x==("__classdict__":Str))=ai:=by decide):DE X (.Name x p) (az i) (iF i):=⟨gC hN hv hd hcd,λC H B σ δ n Q Q' R h k=>by
 unfold iF at h
 split at h
 ·rename_i ds e;obtain⟨v,h1,a,xs,rfl,g2,g3,g4,g5,g6⟩:=R.sl i _ e;exact⟨_,h1,k _ (.ln ds) H n R (Kp.refl _ _) ⟨a,xs,rfl,g2,λz=>R.t0 (z▸g4),g5,g6⟩ h⟩
 ·rename_i x e;obtain⟨v,h1,h2⟩:=R.sl i _ e;exact⟨v,h1,k v x H n R (Kp.refl _ _) h2.1 h⟩
 ·exact h.elim⟩
def fI:Wv->Wv->Int->DQ->Prop:=λx y n Q=>match x with
 |.ln ds=>match y with
  |.d (.int i)=>match df ds i with
   |some d=>Q (.d d) n
   |none=>False
  |_=>False
 |x=>aB x y n Q
theorem JI:bb (lZ K) fI:=λC H B σ δ n x y p q Q Q' R rx ry h1 k=>by
 cases p with
 |ln ds=>
  unfold fI at h1;dsimp only at h1
  split at h1
  ·rename_i i
   split at h1
   ·rename_i d e;cases(show RdX H B y (.int i)from ry);obtain⟨ay,ys,rfl,e1,e2,e3,e4⟩:=rx;obtain⟨v,f1,f2⟩:=xN e4 e;exact .inl ⟨ay,ys,i,v,rfl,rfl,SqL.of e1,f1,k _ _ H n R (Kp.refl _ _) (wd f2) h1⟩
   ·exact h1.elim
  ·exact h1.elim
 |d _=>exact lW C H B σ δ n x y _ q Q Q' R rx ry h1 k
 |tp=>exact lW C H B σ δ n x y _ q Q Q' R rx ry h1 k
 |dk _=>exact lW C H B σ δ n x y _ q Q Q' R rx ry h1 k
 |dx _=>exact lW C H B σ δ n x y _ q Q Q' R rx ry h1 k
 |ob _=>exact lW C H B σ δ n x y _ q Q Q' R rx ry h1 k
theorem PL(ha:DE X a ta wa)(hb:DE X b tb wb)(hK:X.K=K:=by rfl)(hs:qp b:=by exact λ_ _=>rfl):DE X (.Subscript a b pos) (cS (lZ K) ta tb) (w2 wa wb fI):=by
 subst hK;exact⟨ix zx ha.pe hb.pe hs,l8 JI ha.sd hb.sd⟩
def rB:List Wv->Int->DQ->Prop:=λxs n Q=>match xs with
 |[.ln ds]=>Q (.d (.int ds.length)) n
 |xs=>bK xs n Q
theorem JB:cL (tN K) rB:=λC H B σ δ n vs xs Q Q' R r h k=>by
 unfold rB at h
 split at h
 ·rename_i ds;cases r with
  |cons r1 r2=>
   cases r2;obtain⟨ay,ys,rfl,e1,e2,e3,e4⟩:=r1;refine .inr ⟨ay,ys,rfl,.inl (SqL.of e1),?_⟩;rw[e4.len];exact k _ _ H n R (Kp.refl _ _) (wd (.int _)) h
 ·exact xk C H B σ δ n vs xs Q Q' R r h k
def S8:Wv->Wv->Int->DQ->Prop:=λx y n Q=>match x,y with
 |.ln ds,.d (.list [])=>Q (.d (.bool ds.isEmpty)) n
 |x,y=>bM x y n Q
def pP:Wv->Option (List Ab)
 |.ln ds=>ae ds
 |.d (.list ds)=>ae ds
 |_=>af
theorem Kf(h:WRel H B t v x)(e:pP x=ae ds):∃a xs,v=.ref a/\H a=ae (.lst xs)/\xs.length<=Ar/\RdXs H B xs ds:=by
 cases x with
 |ln es=>
  cases e;obtain⟨a,xs,h1,h2,h3,h4,h5⟩:=h;exact⟨a,xs,h1,h2,h4,h5⟩
 |d y=>
  cases y with
  |list es=>
   cases e;cases(show RdX H B v (.list ds)from h)with
   |@lst a xs _ e1 e2 e3 e4=>exact⟨a,xs,rfl,e1,e3,e4⟩
  |_=>cases e
 |tp=>cases e
 |dk _=>cases e
 |dx _=>cases e
 |ob _=>cases e
end
section
variable{X:Cx}{a b c e o i f:Expr}{ta tb te td ty tx:TE}{wa wb we wd' wy wx:DT}{pos p:Pos}{K:Af}
def kI(w:DT)(g:eM):aF:=λδ n K=>w δ n λx n1=>match x with
 |.d d=>g d δ λδ'=>K.nx δ' n1
 |_=>False
theorem SS(he:DE X e te we)(hg:DG X tg g gd)(hs:swapsWithSole [tg] e pos.line X.env=pure ai:=by rfl)(hw:swappedStores [tg] e X.env=pure af:=by rfl)
  (h1:(Es [tg] X.env).map (·.2)=[assign tg X.env]:=by rfl):DS X (.Assign [tg] e pos) (aW te g) (kI we gd):=⟨rG he.pe hg.pg hs hw h1,λC H B σ δ n K D R q E=>
 he.sd C H B σ δ n _ _ R q λv x H1 n1 R1 k1 r1 q1=>by
  cases x with
  |d d=>exact hg.sd C H1 B σ δ n1 v d _ _ R1 r1 q1 λσ' δ' R' q'=>E.nx _ _ _ _ _ R' q'
  |tp=>exact q1.elim
  |dk _=>exact q1.elim
  |dx _=>exact q1.elim
  |ln _=>exact q1.elim
  |ob _=>exact q1.elim⟩
def rm:List Wv->Int->DQ->Prop:=λxs n Q=>match xs with
 |[.ln ds]=>Q (.d (.tuple ds)) n
 |xs=>gy xs n Q
theorem K4:cL (wX K) rm:=λC H B σ δ n vs xs Q Q' R r h k=>by
 unfold rm at h
 split at h
 ·rename_i ds;cases r with
  |cons r1 r2=>
   cases r2;obtain⟨ay,ys,rfl,e1,e2,e3,e4⟩:=r1;refine⟨ay,ys,rfl,.inl ⟨SqL.of e1,λl hl=>?_⟩⟩;refine k _ _ _ n (R.new hl) (Kp.new hl) (wd (show RdX _ B _ (.tuple ds)from .tup aR (R.nb hl) e3 ?_)) h;exact(e4.fresh hl).less λb z=>.inl z
 ·exact yF C H B σ δ n vs xs Q Q' R r h k
end
section
variable{X:Cx}{e:Expr}{st:Stmt}{sts:List Stmt}
def yp:aF:=λ_ _ _=>False
theorem MF:DSs X sts (λ_ _ _=>False) yp:=⟨λ_ _ _ _ _ _ h=>h.elim,λ_ _ _ _ _ _ _ _ _ h _=>h.elim⟩
end
end DL
namespace L2
open PySem PySem.Spec PyProof.Rows
end L2
namespace DL
open PySem L2 Nb
end DL
namespace HT
open PySem PyProof.Rows
open PySem.SeqAt
open PySem.AutoSeq1 (wpAny_loadPart')
open PySem.MeetsSeq PySem.MeetsSeq2 PySem.MeetsSeq3
section
variable{prog:A7}{w:Bi}{A:Br}{E:Ae->Ai->Prop}{s:Ai}
theorem getItem_tuple_whole{lo hi:Option Int}(ht:IsTup s.heap t items)(hs:s.heap.IsSliceOf sl vl vu .none)(pl:IsPart vl lo)(pu:IsPart vu hi)
  (h0:sIx items.size 0 lo=0) (h1:sIx items.size items.size hi=items.size) (h:Q (.ref t) s):Av (A9 prog w) A (getItem (.ref t) (.ref sl)) Q E s:=by
 obtain⟨os,hos,hcs,hds⟩:=id hs;have hTs:s.TypeIs (.ref sl) "slice":=⟨os,hos,hcs⟩;unfold getItem
 try with_reducible refine B3 ?_
 first|refine Aa (Aj ?_)|skip
 refine Aa (wpAny_sequenceKey ht.typeIs ∎ ?_);refine Aa (C2 (name:=E2 "__getitem__") ht.typeIs Em
  (Ea Em ht.typeIs entry_tuple_getitem ?_ (args_tuple_getitem _ _)))
 show Av _ _ (Eb (.ref t)>>=_) _ _ s;refine Aa (tupleItemsOf_ ht ?_);refine Aa (wpAny_typeOf hTs ?_);rw[if_pos ∎];refine Aa (EZ hs pl pu ?_);have hyes:(((sIx items.size 0 lo:Nat):Int)==0&&(1:Int)==1&&(sIx items.size items.size hi-sIx items.size 0 lo)==items.size)=ah:=by
  rw[h0,h1];simp
 show Av _ _ (if (((sIx items.size 0 lo:Nat):Int)==0&&(1:Int)==1&&(sIx items.size items.size hi-sIx items.size 0 lo)==items.size)=ah then _ else _) _ _ s;rw[if_pos hyes];unfold Builtin.Tuple.tupleIsExact;refine Aa (Aa (wpAny_typeOf ht.typeIs (Aj ?_)));rw[if_pos ∎];exact Aa (wpAny_rule (Aj ⟨_,rfl,Aj h⟩))
end
end HT
namespace L2
open PySem PySem.Spec PyProof.Rows
def nP(K:Af):V->Option Int->Option Int->Hp->VK->Prop:=λx lo hi H Q=>∃a xs,x=.ref a/\SqT K H a xs/\HT.sIx xs.length 0 lo=0/\HT.sIx xs.length xs.length hi=xs.length/\Q (.ref a) H
theorem UN:SlR X (nP X.K):=by
 intro pins s σ H x v vl vu lo hi sl Q I rx hs pl pu h;obtain⟨a,xs,rfl,hx,h0,h1,q⟩:=h;cases rx;obtain⟨its,r,ht,hz⟩:=I.tuple hx;have hlen:its.toArray.size=xs.length:=by rw[Ax];exact r.length.symm
 refine⟨"tuple",_,PyProof.Rows.slot_tuple_getitem.lookup,ht.typeIs,?_⟩;exact HT.getItem_tuple_whole ht hs pl pu (by rw[hlen];exact h0) (by rw[hlen];exact h1) ⟨.ref a,H,I,rfl,q⟩
end L2
namespace DL
open PySem L2 Nb
section
variable{X:Cx}{e:Expr}{te:TE}{we:DT}{pos p2:Pos}{K:Af}{lo hi:Option Expr}
abbrev mi:=Sl->Int->(Option Int->Int->Prop)->Prop
def gQ:mi:=λ_ n Q=>Q af n
def gW(w:DT):mi:=λδ n Q=>w δ n λx n1=>match x with
 |.d (.int i)=>Q (ae i) n1
 |_=>False
def NS(t:TO)(w:mi):Prop:=∀(C:Ctx)(H:Hp)(B:Addr->Prop)(σ:St)(δ:Sl)(n:Int)(Q:Option Int->Int->Prop)(Q':Option Int->Hp->Prop),Rel C H B σ δ n->w δ n Q->
 (∀o H' n',Rel C H' B σ δ n'->Kp C.t H H'->Q o n'->Q' o H')->t σ H Q'
structure DOp(X:Cx)(o:Option Expr)(t:TO)(w:mi):Prop where
 po:PO X o t
 sd:NS t w
theorem Lv:DOp X af HQ gQ:=⟨DY,λC H B σ δ n Q Q' R q k=>k af H n R (Kp.refl _ _) q⟩
theorem P2(h:DE X e te we):DOp X (ae e) (Ii te) (gW we):=⟨AN h.pe,λC H B σ δ n Q Q' R q k=>h.sd C H B σ δ n _ _ R q λv x H1 n1 R1 k1 r1 q1=>by
 split at q1
 ·rename_i i;cases(show RdX H1 B v (.int i)from r1);exact⟨i,rfl,k (ae i) H1 n1 R1 k1 q1⟩
 ·exact q1.elim⟩
def dD(xs:List Ab)(lo hi:Option Int):List Ab:=(xs.drop (HT.sIx xs.length 0 lo)).take (HT.sIx xs.length xs.length hi-HT.sIx xs.length 0 lo)
def gN(w:DT)(l u:mi):DT:=λδ n Q=>w δ n λx n1=>l δ n1 λa n2=>u δ n2 λb n3=>match x with
 |.d (.tuple ds)=>Q (.d (.tuple (dD ds a b))) n3
 |_=>False
def xU(K:Af):V->Option Int->Option Int->Hp->VK->Prop:=λx lo hi H Q=>nJ K x lo hi H Q\/nP K x lo hi H Q
theorem Po(he:DE X e te we)(hl:DOp X lo tl wl)(hh:DOp X hi th wh)(hK:X.K=K:=by rfl):DE X (.Subscript e (.Slice lo hi af p2) pos) (HP (xU K) te tl th) (gN we wl wh):=by
 subst hK;refine⟨GN (sl_tup.or UN) he.pe hl.po hh.po,λC H B σ δ n Q Q' R q k=>he.sd C H B σ δ n _ _ R q λv x H1 n1 R1 k1 r1 q1=>
  hl.sd C H1 B σ δ n1 _ _ R1 q1 λa H2 n2 R2 k2 q2=>hh.sd C H2 B σ δ n2 _ _ R2 q2 λb H3 n3 R3 k3 q3=>?_⟩
 split at q3
 ·rename_i ds;have r3:RdX H3 B v (.tuple ds):=(r1.kp k2 R1.bt).kp k3 R2.bt;cases r3 with
  |@tup aa xs _ e1 e2 e3 e4=>
   have kk:=(k1.trans k2).trans k3;by_cases hw:HT.sIx xs.length 0 a=0/\HT.sIx xs.length xs.length b=xs.length
   ·refine .inr ⟨aa,xs,rfl,SqT.of e1,hw.1,hw.2,k _ _ H3 n3 R3 kk (wd (show RdX H3 B _ (.tuple ds)from .tup e1 e2 e3 e4)) ?_⟩;have:dD ds a b=ds:=by
     unfold dD;rw[<-e4.len,hw.1,hw.2,List.drop_zero,Nat.sub_zero,e4.len,List.take_length]
    rw[this]at q3;exact q3
   ·refine .inl ⟨aa,xs,rfl,SqT.of e1,hw,λp hp=>?_⟩;refine k _ _ _ n3 (R3.new hp) (kk.trans (Kp.new hp)) (wd (show RdX _ B _ (.tuple (dD ds a b))from .tup aR (R3.nb hp) (Bb (wI xs a b) e3) ?_)) q3;unfold dD eD;rw[<-e4.len];exact(((e4.drop _).take _).fresh hp).less λb z=>.inl z
 ·exact q3.elim
end
end DL
namespace Nb
open PySem L2
end Nb
namespace DL
open PySem L2 Nb
section
variable{X:Cx}{tg a b c e o i f:Expr}{ta tb te td ty tx:TE}{wa wb we wd' wy wx:DT}{pos p:Pos}{K:Af}
def U7(i:Nat)(w:DT):aF:=λδ n K=>match δ[i]? with
 |some (ae (.own ds))=>w δ n λx n1=>match x with
  |.d (.tuple es)=>(ds.length < 1000000/\es.length < 1000000)/\K.nx (δ.set i (ae (.own (ds++es)))) n1
  |_=>False
 |_=>False
def ig(hs:List Str)(w:DT):DT:=λδ n Q=>w δ n λx n1=>match x with
 |.d a=>gA a=ah/\Q (.d (.bool (cz a (hs.map .str)))) n1
 |_=>False
theorem SY(hl:∀h∈hs,h.length<=1000)(hq:∀H,SqT K H q (hs.map V.str))(h:du ta wa):du (cS (jn K ai) ta (tC (.ref q))) (ig hs wa):=λC H B σ δ n Q Q' R z k=>
 h C H B σ δ n _ _ R z λv x H1 n1 R1 k1 r1 q1=>by
  split at q1
  ·rename_i da;have r1:RdX H1 B v da:=r1;have rs:RdXs H1 B (hs.map V.str) (hs.map .str):=uH hl;refine⟨q,_,rfl,.inr (hq H1),pF r1 q1.1,my rs ?_,k _ _ H1 n1 R1 k1 (wd (.bl _)) ?_⟩
   ·rw[List.all_map];exact Dm.mpr λ_ _=>rfl
   ·rw[pJ r1 rs];exact q1.2
  ·exact q1.elim
theorem O8{xp:Pos}(ha:DE X a ta wa)(hg:Gl X x)(hm:X.mg x=ae (.ref q))(hq:∀H,SqT K H q (hs.map V.str))(hl:∀h∈hs,h.length<=1000:=by decide +kernel)(hK:X.K=K:=by rfl)(hd:(x==("__debug__":Str))=ai:=by decide)
  (hmk:Ci .In (Expr.Name x xp)=ai:=by with_unfolding_all rfl):DC X (.Compare a [.In] [.Name x xp] pos) (fe (cS (jn K ai) ta (tC (.ref q)))) (cT (ig hs wa)):=
 ⟨kU (yM hK) ha.pe (kf hg hm rfl hd) hmk,k9 (SY hl hq ha.sd)⟩
end
abbrev cI:=List Wv->Int->(List Ab->Int->Prop)->Prop
def mO(S:cI):Sp:=λvs H Q _=>∃(t:Addr)(l:TL)(ns:List Int)(B:Addr->Prop)(ws:List Wv)(n:Int)(Q0:List Ab->Int->Prop),Tp H t l ns n/\B t/\(∀b,B b->H b≠af)/\ARel H B t vs ws/\S ws n Q0 /\
 ∀ds n',Q0 ds n'->∀a xs H',Tp H' t l ns n'->Kp t H H'->H a=af->H' a=ae (.lst xs)->xs.length<=Ar->RdXs H' (λb=>B b\/b=a) xs ds->Q (.ref a) H'
section
variable{X:Cx}{e:Expr}{es:List Expr}{pos p:Pos}{tR:TA}{wR:cK}{te:TE}{we:DT}
def dQ(S:cI)(w:cK):fA:=λδ n Q=>w δ n λxs n1=>S xs n1 Q
theorem Ov(h:dz t w):kJ (fH (mO S) [] E0 t) (dQ S w):=λC H B σ δ n Q Q' R q k=>
 h C H B σ δ n _ _ R q λvs xs H1 n1 R1 k1 r1 q1=>by
  refine⟨C.t,C.l,C.ns,B,xs,n1,Q,R1.tp,R1.bt,R1.ba,by rw[Cc];exact r1,q1,λds n' q2 a ys H' T' k' h0 h1 h2 h3=>?_⟩;exact k a ys ds H' n' (R1.step T' k') (k1.trans k') (R1.was k1 h0) h1 h2 h3 q2
structure HasN(P:A7)(w:Bi)(K:Af)(mg:Str->Option Ae)(base:Heap)(k:Nat)(x:Str)(ps:List Str)(S:cI):Prop where
 ex:∃(f:Addr)(fd:Bz),FnOk P w K mg base cb k f fd ps (mO S)/\Binds K fd ps []/\mg x=ae (.ref f)/\Bx K (.ref f)=ah
theorem HasN.mk'(F:Fun K x qual st f fd)(m:mg x=ae (.ref f))(b:Binds K fd ps [])(h:FnOk P w K mg base cb k f fd ps (mO S)):HasN P w K mg base k x ps S:=⟨f,fd,h,b,m,F.kp⟩
theorem uy(h:HasN X.prog X.w X.K X.mg X.base k x ps S)(hr:Room k X.A)(hg:Gl X x)
  (ha:DA X (e::es) tR wR) (hdb:(x==("__debug__":Str))=ai:=by decide) (he:Ap (e::es) X.env=(ai,eval e X.env)::Ap es X.env:=by rfl) (hpl:(Cy pos (Ap es X.env)).any (·.1)=ai:=by rfl):
  DF X (.Call (.Name x p) (e::es) [] pos) (fH (mO S) [] E0 tR) (dQ S wR):=by
 obtain⟨f,fd,h1,h2,h3,h4⟩:=h.ex;exact⟨pQ h1 hr hg h3 h4 h2 .nil ny ha.pa hdb he hpl,Ov ha.sd⟩
def hX(w:fA):aF:=λδ n K=>w δ n K.rn
theorem MP(h:DF X e te w):DS X (.Return (ae e) pos) (fJ te) (hX w):=⟨iQ h.pe,λC H B σ δ n K D R q E=>
 h.sd C H B σ δ n _ _ R q λa xs ds H' n' R' k' h0 h1 h2 h3 q'=>E.rn H' B σ δ n' a xs ds R' (R.h0 h0) h1 h2 h3 q'⟩
def Hv(i:Nat):aF:=λδ n K=>match δ[i]? with
 |some (ae (.own ds))=>K.rn ds n
 |_=>False
theorem AZ(i){xp:Pos}(hN:X.N[i]?=ae x:=by rfl)(hv:fD X.env.scope x:=by first|exact By rfl|exact Ca (By rfl)|exact Ca (Ca rfl))(hd:(x==("__debug__":Str))=ai:=by decide)
  (hcd:(x==("__classdict__":Str))=ai:=by decide):DS X (.Return (ae (.Name x xp)) pos) (fJ (az i)) (Hv i):=⟨iQ (gC hN hv hd hcd),λC H B σ δ n K D R q E=>by
 unfold Hv at q
 split at q
 ·rename_i ds ei;obtain⟨v,hv,a,xs,rfl,e2,e3,e4,e5,e6⟩:=R.sl i _ ei;exact⟨_,hv,E.rn H B σ δ n a xs ds R e4 e2 e5 (e6.less λb z=>z.elim id λe=>e▸e3) q⟩
 ·exact q.elim⟩
theorem RdXs.rev:∀{vs:List V}{ds:List Ab},RdXs H B vs ds->RdXs H B vs.reverse ds.reverse
 |_,_,.nil=>.nil
 |_,_,.cons h r=>by
  rw[Gt,Gt];exact(RdXs.rev r).append (.cons h .nil)
end
section
variable{P:A7}{w:Bi}{K:Af}{mg:Str->Option Ae}{base:Heap}
theorem Fun.okN(F:Fun K x qual st f fd)(Sc:FnScope N ps (bw st))(len:∀ws n Q,S ws n Q->ws.length=ps.length)
  (hbody:∀(cdv:Ae)(A:Br)(outer:List Env)(s:Ai)(H:Hp)(E:XK),Room k (A.deeper (Cu qual (bw st) s.heap.objs.size f cdv))->
   ∃T W,DSs (bz cb P w K mg base N qual (bw st) f cdv A outer s H E).nox (eR st) T W/\∀ws n Q,S ws n Q->W (cO N ws) n {nx:=λ_ _=>False,rt:=λ_ _=>False,rn:=Q}):FnOk P w K mg base cb (k+1) f fd ps (mO S):=by
 refine F.ok Sc (λvs H Q E h=>?_) (λcdv A outer s H vs Q E hr h=>?_)
 ·obtain⟨t,l,ns,B,ws,n,Q0,_,_,_,r,q,_⟩:=h;rw[r.len];exact len ws n Q0 q
 ·obtain⟨t,l,ns,B,ws,n,Q0,T,bt,ba,r,q,kk⟩:=h;obtain⟨T',W,d,hw⟩:=hbody cdv A outer s H E hr;refine⟨T',d.ps,d.sd ⟨t,l,ns,H,B,λ_=>af⟩ H B _ _ n _ _ (sO T bt ba r) (hw ws n Q0 q) ⟨?_,?_,?_,?_,?_,λ_ _ _ _ _ _ _ _ _ _ _ _ _ z=>z.elim⟩⟩
  ·exact λ_ _ _ _ _ _ z=>z.elim
  ·exact λ_ _ _ _ _ _ _ _ _ z=>z.elim
  ·exact λ_ _ _ _ _ _ z=>z.elim
  ·exact λ_ _ _ _ _ _ z=>z.elim
  ·exact λH' B' σ δ n' a xs ds R' h0 h1 h2 h3 q'=>kk _ _ q' a xs H' R'.tp R'.kp h0 h1 h2 (h3.less λb z=>z.elim (λz=>.inl (R'.b0 b z)) .inr)
end
end DL
namespace Nb
open PySem L2
end Nb
namespace DL
open PySem L2 Nb
end DL
namespace L2
open PySem PySem.Spec PyProof.Rows PySem.SeqAt PySem.W
end L2
namespace L2
open PySem PySem.Spec PyProof.Rows
def DEs(h:Heap)(d:Addr)(es:Array G9)(ep:Nat):Prop:=∃o,h.get? d=ae o/\o.ExactDict/\o.data=.dict es ep
end L2
namespace L2
open PySem PySem.Spec PyProof.Rows PySem.SeqAt PySem.W
end L2
namespace L2
open PySem PySem.Spec PyProof.Rows PySem.W
section
variable{prog:A7}{w:Bi}{A:Br}{E:Ae->Ai->Prop}{s:Ai}{d it:Addr}{es:Array G9}{ep i:Nat}
theorem DEs.ty(x:DEs s.heap d es ep):s.TypeIs (.ref d) "dict":=let⟨o,e,c,_⟩:=x;⟨o,e,c.1⟩
theorem BV(hd:(d==C5)=ai)(x:DEs s.heap d es ep)
  (k:Q (.ref s.heap.objs.size) {s with heap:=s.heap.push {cls:=.type "dict_keyiterator",data:=.fields #[.ref d,.int 0 0,.int es.size 0,.int ep 0]}}):Av (A9 prog w) A (pyIter (.ref d)) Q E s:=by
 obtain⟨o,x1,x2,x3⟩:=id x;refine wpAny_pyIter_slot x.ty F.slot_dict_iter (Ea F.slot_dict_iter x.ty F.entry_dict_iter ?_ (F.args_dict_iter_1 _));unfold Ei.«dict.__iter__»;refine Aa ?_;unfold Builtin.Dict.dictSlotNone;refine Aa (wpAny_notOrdered_dict x.ty ?_);refine(show Av _ _ (pure (As d)) _ _ s from Aj ?_);refine(show Av _ _ (Builtin.Dict.showsAll d>>=_) _ _ s from ?_);unfold Builtin.Dict.showsAll;rw[if_neg (show ¬(d==C5)=ah by rw[hd];decide)];refine Aa (Aj (Aa (wpAny_dictEntries x1 x3 (Aa (wpAny_dictEpoch x1 x3 ?_)))));refine Aa (Ct (Aj ⟨_,rfl,"dict_keyiterator",_,⟨_,A0 _ rfl,rfl⟩,F.slot_dict_keyiterator_next.lookup,?_⟩));simpa[rawInt]using k
theorem qN(y:s.heap.IsKeyIter it d i es.size ep)(x:DEs s.heap d es ep)
  (hI:i < es.size->∀h',h'.IsKeyIter it d (i+1) es.size ep->Dt it s.heap h'->Q (ae (es.getD i ⟨0,.none,.none⟩).key) {s with heap:=h'})
  (hE:es.size<=i->A.handled=af/\∀h',Heap.ExtBut it s.heap h'->Q af {s with heap:=h'}):Av (A9 prog w) A (pyNext (.ref it)) Q E s:=by
 obtain⟨u,y1,y2,y3⟩:=id y;obtain⟨o,x1,x2,x3⟩:=id x;unfold pyNext;refine Aa (wpAny_attempt (C2 (name:=E2 "__next__") y.typeIs F.slot_dict_keyiterator_next (Ea F.slot_dict_keyiterator_next y.typeIs F.entry_dict_keyiterator_next ?_ (F.args_dict_keyiterator_next_1 _))));refine Aa (Aj (Aa (Aa ?_)))
 first|refine Aa (Ha y.typeIs (Aj ?_))|refine Aa (Hu y.typeIs (Aj ?_))
 refine Aa (wpAny_fieldsOf y1 y3 ?_);simp only[show Builtin.Dict_items.ownsTuple "dict_keyiterator"=ai by decide,Ck,if_false];refine(show Av _ _ (if (As d==B5)=ah then _ else _) _ _ s from ?_);rw[if_neg (show ¬((As d==B5)=ah) by exact Ak)];refine Aa (Aj (Aa (wpAny_dictEntries x1 x3 ?_)));rw[if_neg (show ¬_ by simp)];refine Aa (Aj (Aa (wpAny_dictEpoch x1 x3 ?_)));rw[if_neg (show ¬_ by simp)];refine Aj ?_;by_cases hi:i < es.size
 ·simp only[show ¬((i:Int) < 0) by omega,if_false,Dz,C6 hi];refine Aa ?_
  first|refine Aa (Ha y.typeIs (Aj ?_))|refine Aa (Hu y.typeIs (Aj ?_))
  refine Aa (wpAny_isOneOf_keyiter y.typeIs ?_);refine(show Av _ _ (setField (.ref it) 1 (rawInt ((i:Int)+1))>>=_) _ _ s from Aa (wpAny_setField y1 y3 (by simp) ?_));have z:(s.heap.update it (Obj.mapFields (·.setIfInBounds 1 (rawInt ((i:Int)+1))))).IsKeyIter it d (i+1) es.size ep:=
   ⟨_,Cn _ y1 (Obj.isFreed_of_fields (Hg y3 _)),(Obj.cls_mapFields ..).trans y2,by rw[Hg y3];simp[rawInt]⟩
  refine Aa (B3 (Aa (wpAny_isOneOf_keyiter (s:={ s with heap:=s.heap.update it (Obj.mapFields (·.setIfInBounds 1 (rawInt ((i:Int)+1))))}) z.typeIs ?_)));have kk:=hI hi _ z (B9 ..);rw[show es.getD i ⟨0,.none,.none⟩=es[i] by simp[hi]]at kk;exact(show Av _ _ (pure es[i].key) _ _ _ from Aj (Aj ⟨_,rfl,Aj kk⟩))
 ·obtain⟨hh,kk⟩:=hE ⋯;simp only[show ¬((i:Int) < 0) by omega,if_false,Dz,Array.getElem?_eq_none (show es.size<=i by omega)];refine Aa ?_
  first|refine Aa (Ha y.typeIs (Aj ?_))|refine Aa (Hu y.typeIs (Aj ?_))
  refine(show Av _ _ (setField (.ref it) 0 .none>>=_) _ _ s from Aa (wpAny_setField y1 y3 (by simp) ?_));refine(show Av _ _ (newExc (.type "StopIteration") []>>=_) _ _ _ from Aa ?_);simp only[newExc,newTuple];refine Aa (Ct (Aa (m:=firstArgMember _ _) (wpAny_of_eq (a:=B5) (by first|rfl|(simp only[firstArgMember];rfl)) (Ct ?_ (by size_fits)))) (by size_fits));simp only[raiseNew];refine Aa (wpAny_handled ?_);rw[show A.in1.handled=af by exact hh];refine Aa (Aj (wpAny_throw (?_:Av _ _ _ _ _ _)));refine Aa (wpAny_isInstance (T:="StopIteration") (b:=ah) ⟨_,A0 _ rfl,rfl⟩ isSubtype_stop (?_:Av _ _ _ _ _ _));exact Aj (kk _ (((B9 ..).extBut.push _).push _))
theorem DEs.keep(x:DEs h d es ep)(k:∀o,h.get? d=ae o->h'.get? d=ae o):DEs h' d es ep:=let⟨o,e,r⟩:=x;⟨o,k o e,r⟩
theorem Qv(lo:(d==C5)=ai):KdlSrc prog w "dict" d d es.size (λi v=>(es[i]?).map (·.key)=ae v) (λh=>DEs h d es ep) where
 type:=λ_ x=>x.ty
 there:=λ_ x=>let⟨_,e,_⟩:=x;⟨Ao e,Ao e⟩
 keep:=λ_ _ x k=>x.keep λo e=>k d (.inl rfl) o e
 notList:=by decide
 notTuple:=by decide
 hint:=λ_ _ _ _ x q=>kdl_hint_dict x.ty q
 iter:=λA s hh x=>by
  obtain⟨ob,x1,x2⟩:=id x;have hlt:d < s.heap.objs.size:=Ao x1;refine⟨{cls:=.type "dict_keyiterator",data:=.fields #[.ref d,.int 0 0,.int es.size 0,.int ep 0]},λi h=>h.IsKeyIter s.heap.objs.size d i es.size ep/\DEs h d es ep,λ_ _ q=>BV lo x q,?_,⟨_,A0 _ rfl,rfl,rfl⟩,x.keep λo e=>Ah _ e⟩;exact
   { sub:=λb hb=>by simp at hb;simp[hb],frame:=λ_ _ _ st hk=>⟨st.1.at λo e=>hk _ (by simp) o e,st.2.keep λo e=>hk d (by simp) o e⟩,item:=λi s' Q E hi st hQ=>qN st.1 st.2 (λhi' h' z sb=>hQ _ h' s'.toks (by simp[hi]) ⟨z,st.2.keep λo e=>sb.extBut d o (A8 hlt) e⟩ λb o hb e=>sb.extBut b o (λh=>hb (by simp[h])) e) (λz=>absurd hi ⋯),done:=λs' Q E st hQ=>qN st.1 st.2 (λz=>absurd z ⋯) (λ_=>⟨hh,λh' he=>hQ h' s'.toks λb o hb e=>he b o (λh=>hb (by simp[h])) e⟩),self:=λ_ _ _ _ st hQ=>wpAny_pyIter_keyiter st.1 hQ}
end
end L2
namespace L2
open PySem PySem.Spec PyProof.Rows PySem.SeqAt PySem.W
end L2
namespace DL
open PySem L2 Nb
end DL
namespace L2
open PySem PySem.Spec PyProof.Rows PySem.SeqAt PySem.W
end L2
namespace DL
open PySem L2 Nb
end DL
namespace HT
open PySem PyProof.Rows
end HT
namespace L2
open PySem PySem.Spec PyProof.Rows
end L2
namespace DL
open PySem L2 Nb
end DL
namespace L2
open PySem PySem.Spec PyProof.Rows PySem.SeqAt
end L2
namespace DL
open PySem L2 Nb
end DL
namespace L2
open PySem PySem.Spec PyProof.Rows
end L2
namespace DL
open PySem L2 Nb
end DL
namespace L2
open PySem PySem.Spec PyProof.Rows
def x8(K:Af):R2:=λx y H Q=>∃a b ys,x=.ref a/\y=.ref b/\SqT K H a []/\SqT K H b ys/\Q (.ref b) H
theorem JF:OpR X (Er .Add) (x8 X.K):=by
 intro pins s σ H x y v u Q I rx ry h;obtain⟨a,b,ys,rfl,rfl,ha,hb,q0⟩:=h;cases(show v=As a from rx);cases(show u=As b from ry);obtain⟨its,r1,p1,_⟩:=I.tuple ha;obtain⟨its2,r2,p2,_⟩:=I.tuple hb;obtain⟨⟨cls,dd,data,sl⟩,ho,hc,n,hd⟩:=id p1;obtain⟨⟨cls2,dd2,data2,sl2⟩,ho2,hc2,n2,hd2⟩:=id p2;simp only at hc hd hc2 hd2;subst hc hd hc2 hd2;have hi:its=[]:=r1.nil_iff.mpr rfl;exact concat_meets ⟨_,ho,rfl⟩ ⟨_,ho2,rfl⟩ noFill_tuple_add seq_tuple_add Gj Gf (F6 _ _)
  (tuple_addW0 a b its.toArray its2.toArray n n2 dd dd2 sl sl2 (by simp[hi])) ⟨ho,ho2,⟨.ref b,H,I,rfl,q0⟩⟩
end L2
namespace DL
open PySem L2 Nb
section
variable{X:Cx}{a b:Expr}{ta tb:TE}{wa wb:DT}{pos p:Pos}{K:Af}
def jE:Wv->Wv->Int->DQ->Prop:=λx y n Q=>match x,y with
 |.d (.tuple []),.d (.tuple j)=>Q (.d (.tuple j)) n
 |x,y=>kr x y n Q
theorem R9:bb (λx y H Q=>sJ K x y H Q\/x8 K x y H Q) jE:=λC H B σ δ n x y p q Q Q' R rx ry h1 k=>by
 unfold jE at h1
 split at h1
 ·rename_i j;cases(show RdX H B x (.tuple [])from rx)with
  |@tup ax xs _ e1 e2 e3 e4=>
   cases(show RdX H B y (.tuple j)from ry)with
   |@tup ay ys _ f1 f2 f3 f4=>
    cases e4;exact .inr ⟨ax,ay,ys,rfl,rfl,SqT.of e1,SqT.of f1,k _ _ H n R (Kp.refl _ _) (wd (show RdX H B _ (.tuple j)from .tup f1 f2 f3 f4)) h1⟩
 ·exact .inl (MO C H B σ δ n x y _ _ Q Q' R rx ry h1 k)
theorem Mu(ha:DE X a ta wa)(hb:DE X b tb wb)(hK:X.K=K:=by rfl):DE X (.BinOp a .Add b pos) (cS (λx y H Q=>sJ K x y H Q\/x8 K x y H Q) ta tb) (w2 wa wb jE):=by
 subst hK;exact jl (op_addA.or JF) R9 ha hb
end
end DL
namespace L2
open PySem PySem.Spec PyProof.Rows
end L2
namespace DL
open PySem L2 Nb
end DL
namespace L2
open PySem PySem.Spec PyProof.Rows
end L2
namespace DL
open PySem L2 Nb
end DL
namespace L2
open PySem PySem.Spec PyProof.Rows
theorem Li(bs:List Bool):((A5 bs.length).any λi=>(bs[i]?).getD ah)=bs.any id:=by
 apply Dg.mpr;rw[Dl,Dl]
 constructor
 ·rintro⟨i,hi,e⟩
  have hi':=Bo.mp hi;rw[Ag hi']at e;exact⟨_,Cm hi',e⟩
 ·rintro⟨b,hb,e⟩
  obtain⟨i,hi⟩:=B7.mp hb;exact⟨i,Bo.mpr (Al.mp hi).1,by rw[hi];exact e⟩
theorem RY(hh:X.A.handled=af):CallR X (.builtin "any") (λxs H Q=>∃(p:Addr)(bs:List Bool),xs=[.ref p]/\H p=ae (.lst (bs.map V.bl))/\Q (.bl (bs.any id)) H):=by
 intro pins s σ H xs us Q I r h;obtain⟨p,bs,rfl,hp,q⟩:=h;obtain⟨u,rfl,ru⟩:=gg r;cases(show u=As p from ru);obtain⟨its,rv,pl,_⟩:=I.list (SqL.of (K:=X.K) hp);have hl:s.heap.IsList p its.toArray:=pl.isList;have hlt:p < s.heap.objs.size:=by obtain⟨_,e,_⟩:=hl;exact Ao e
 have hlen:bs.length=its.length:=by have:=rv.length;rwa [Ad]at this
 refine call_any_walk (wpAny_pyIter_list hl ?_);refine⟨s.heap.objs.size,[s.heap.objs.size,p],[s.heap.objs.size],its.toArray.size,_,_,λi=>(bs[i]?).getD ah,rfl,Walks.list (A:=X.A.in1) hh _ p (A8 hlt) its.toArray,
  ⟨⟨_,A0 _ rfl,rfl,rfl⟩,hl.push _⟩,λi v s' Q' E' hP hQ=>?_,λh' tk hk=>?_⟩
 ·have hi:its[i]?=ae v:=by simpa using hP
  have hib:i < bs.length:=by rw[hlen];exact(Al.mp hi).1
  have hx:(bs.map V.bl)[i]?=ae (V.bl bs[i]):=by simp[hib]
  obtain⟨u,hu,ru⟩:=rv.get hx;rw[hi]at hu;cases(A4 hu);cases(show v=Value.bool bs[i]from ru);dsimp only at hQ;rw[Ag hib,Option.getD_some]at hQ;exact De hQ
 ·have e:((A5 its.toArray.size).any λi=>(bs[i]?).getD ah)=bs.any id:=by
   rw[Ax,<-hlen];exact Li bs
  rw[e];refine⟨.bl (bs.any id),H,I.kept λb x e=>hk b x (λhm=>?_) (Ah _ e),rfl,q⟩;rw[Bn.mp hm]at e;exact Ek _ (Ao e)
end L2
namespace DL
open PySem L2 Nb
def i6:List Wv->Int->DQ->Prop:=λxs n Q=>match xs with
 |[.d (.list ds)]=>match iN ds with
  |some bs=>Q (.d (.bool (bs.any id))) n
  |none=>False
 |_=>False
theorem JZ:cL (λxs H Q=>∃(p:Addr)(bs:List Bool),xs=[.ref p]/\H p=ae (.lst (bs.map V.bl))/\Q (.bl (bs.any id)) H) i6:=λC H B σ δ n vs xs Q Q' R r h k=>by
 unfold i6 at h
 split at h
 ·rename_i ds
  split at h
  ·rename_i bs e;cases r with
   |cons r1 r2=>
    cases r2;cases(show RdX H B _ (.list ds)from r1)with
    |@lst ay ys _ e1 e2 e3 e4=>
     exact⟨ay,bs,rfl,by rw[<-wm e4 e];exact e1,k _ _ H n R (Kp.refl _ _) (wd (.bl _)) h⟩
  ·exact h.elim
 ·exact h.elim
theorem P6:Bp "any"=ae (.builtin "any"):=by decide +kernel
end DL
namespace L2
open PySem PySem.Spec PyProof.Rows
end L2
namespace DL
open PySem L2 Nb
end DL
namespace L2
open PySem PySem.Spec PyProof.Rows
end L2
namespace DL
open PySem L2 Nb
section
variable{X:Cx}{o:Expr}{td:TE}{wd':DT}{pos p p2:Pos}{K:Af}
def vD:aC->Ab
 |.inl i=>.int i
 |.inr x=>.str x
def nk(k:List aC):Ab:=.tuple (k.map vD)
theorem AL{k:List aC}:∀{vs:List V},RdXs H B vs (k.map vD)->vs=k.map kV:=by
 induction k with
 |nil=>intro vs h;cases h;rfl
 |cons x k ih=>
  intro vs h;cases h with
  |cons h t=>
   rw[ih t];cases x with
   |inl i=>cases(show RdX H B _ (.int i)from h);rfl
   |inr x=>cases(show RdX H B _ (.str x)from h);rfl
end
theorem yf(ha:DE X a ta wa)(hb:DE X b tb wb):DE X (.BinOp a .Add b pos) (cS (e9 λi j=>.int (i+j)) ta tb) (w2 wa wb (fF λi j=>.int (i+j))):=jl op_add (BN λ_ _ _ _=>.int _) ha hb
def jJ:List Ab->Option (List Int)
 |[]=>ae []
 |.int i::r=>(jJ r).map (i::·)
 |_::_=>af
theorem DX:∀{vs:List V}{ds:List Ab}{ns:List Int},RdXs H B vs ds->jJ ds=ae ns->vs=ns.map V.int
 |_,_,ns,.nil,e=>by cases e;rfl
 |_,d::r,ns,.cons h t,e=>by
  cases h with
  |int i=>
   have e:(jJ r).map (i::·)=ae ns:=e;cases q:jJ r with
   |none=>rw[q]at e;cases e
   |some ms=>rw[q]at e;cases e;rw[DX t q];rfl
  |_=>cases e
end DL
namespace L2
open PySem PySem.Spec PyProof.Rows
theorem AE(hh:A.handled=af)(it t)(hne:t≠it)(xs:Array Ae):Draws P w A it [it,t] xs.size (λi v=>xs[i]?=ae v) (λi h=>h.IsTupleIter it t i/\h.IsTuple t xs) where
 live:=λ_ _ z=>by obtain⟨⟨o,q,_⟩,_⟩:=z;exact⟨o,q⟩
 frame:=λ_ _ _ z k=>⟨z.1.at λo e=>k it (.head _) o e,z.2.at λo e=>k t (.tail _ (.head _)) o e⟩
 item:=λi s Q E hi z k=>tQ z.1 z.2 (x:=xs[i]) (C6 hi) λh' a b=>k _ h' s.toks (C6 hi) ⟨a,z.2.extBut b.extBut hne⟩ b
 done:=λs Q E z k=>BU hh z.1 z.2 (by simp) k
abbrev rW(h:Heap)(l:Addr):Heap:=h.push {cls:=.type "tuple_iterator",data:=.fields #[.ref l,.int 0 0]}
abbrev vK(h:Heap)(l:Addr):Heap:=(rW h l).push {cls:=.type "enumerate",data:=.fields #[.none,.bool ai,.ref h.objs.size,rawInt 0,.none,.none]}
theorem Ts(l)(xs)(n)(dc)(sl):
  Meets (Ei.«enumerate.__new__» ⟨[.type "enumerate",.ref l],[]⟩) (λ_ R s=>s.heap.get? l=ae {cls:=.type "tuple",dict:=dc,data:=.seq xs n,slots:=sl} /\
   R (.ok (.ret (.ref (rW s.heap l).objs.size))) {s with heap:=vK s.heap l}):=
 .of_wp λP w A R s h=>by
  obtain⟨hp,g,d,tk,os⟩:=s;obtain⟨hl,h⟩:=h;have hsub:=sub_enumerate;have hT:Heap.IsTuple (Shared.heap ⟨hp,g,d,tk,os⟩) l xs:=⟨_,hl,rfl,n,rfl⟩
  wp_walk using F4 hl
  refine wpAny_stack_any λst=>Aj ?_
  split
  ·rename_i c _ _ _ _ _;cases(c==Ft "enumerate")
   ·wp_walk using F4 hl,Eo hT
    exact⟨_,rfl,h⟩
   ·wp_walk using F4 hl,Eo hT
    exact⟨_,rfl,h⟩
  ·wp_walk using F4 hl,Eo hT
   exact⟨_,rfl,h⟩
section
variable{prog:A7}{w:Bi}{A:Br}{E:Ae->Ai->Prop}{s:Ai}
theorem Jp(hl:s.heap.IsTuple l xs)
  (h:∀h',IsEnum h' (s.heap.objs.size+1) s.heap.objs.size 0 .none->h'.IsTupleIter s.heap.objs.size l 0->(∀c o,s.heap.get? c=ae o->h'.get? c=ae o)->Q (.ref (s.heap.objs.size+1)) {s with heap:=h'}):
  Av (A9 prog w) A (call (.type "enumerate") [.ref l]) Q E s:=by
 obtain⟨⟨c,dc,dt,sl⟩,hl,hc,n,hd⟩:=hl;obtain rfl:c=.type "tuple":=hc;obtain rfl:dt=.seq xs n:=hd;refine callType_new F.called_enumerate ∎ (F.typeCall_enumerate_1 _) (F.newCall_enumerate_1 _) (λo=>F.args_object_init_2 o _) F.entry_enumerate_new (Ts l xs n dc sl) ⟨hl,?_⟩;have z1:(rW s.heap l).objs.size=s.heap.objs.size+1:=D9 ..;have g2:(vK s.heap l).get? (rW s.heap l).objs.size=ae _:=A0 _ rfl;have g1:(vK s.heap l).get? s.heap.objs.size=ae _:=Ah _ (A0 _ rfl);show _/\_;rw[z1]at g2 ⊢;exact⟨⟨_,g2,rfl⟩,h _ g2 ⟨_,g1,rfl,rfl⟩ λc o x=>Ah _ (Ah _ x)⟩
end
def GY(K:Af)(a:Addr):It:=
 ⟨λi H=>∃xs x,SqT K H a xs/\xs[i]?=ae x,
  λi H v H'=>∃T x,v=.ref T/\H T=af/\H'=upd H T (.tup [.int i,x])/\∀xs,SqT K H a xs->xs[i]?=ae x,
  λi H=>∃xs,SqT K H a xs/\xs.length=i⟩
theorem LS{K:Af}(h1:e≠it)(h2:a≠it)(h3:e≠a):Turn P w K (.Tuple elts kk pos) (GY K a) [e,it] e
  (λi h=>(∃old,IsEnum h e it i old)/\h.IsTupleIter it a i) where
 mem:=by simp
 obj:=λi h st c hc=>by
  obtain⟨⟨x,he⟩,⟨o1,e1,c1,d1⟩⟩:=st;simp only[Aw,Bh,or_false]at hc;rcases hc with rfl|rfl
  ·exact⟨_,he,λv q=>by have q':Data.fields _=Data.cell v:=q;cases q'⟩
  ·exact⟨o1,e1,λv q=>by rw[d1]at q;cases q⟩
 keep:=λi h h' st k=>⟨st.1.imp λ_ q=>k e (by simp) _ q,st.2.at λo q=>k it (by simp) o q⟩
 item:=by
  intro X hP hw hK hc i pins s σ H E I hf st hg;subst hP hw hK;obtain⟨⟨old,he⟩,hi⟩:=st;obtain⟨xs,x,qa,ex⟩:=hg;obtain⟨its,rv,p,_⟩:=I.tuple qa;obtain⟨u,hu,ru⟩:=rv.get ex;have hlt:i < its.toArray.size:=by simpa using(Al.mp hu).1
  have hef:e∉[it,a]:=λz=>by
   simp only[Aw,Bh,or_false]at z;exact z.elim h1 h3
  refine wpAny_pyNext_enum_itemD (AE (A:=X.A.in1) (I.ok.hd hc) it a h2 its.toArray) he ⟨hi,show s.heap.IsTuple a its.toArray from p⟩ hlt h1 hef λy h' tk a1 a2 a3 a4 a5 a6=>⟨_,rfl,?_⟩;obtain rfl:u=y:=by
   rw[List.getElem?_toArray,hu]at a1;cases a1;rfl
  refine wpAny_letOwnedTupleGo_enum (s:={ s with heap:=h',toks:=tk+1}) a2 λh'' b1 b2=>?_;have T:h''.get? s.heap.objs.size=ae {cls:=.type "tuple",data:=.seq #[.int i tk,u]}:=b2.extBut _ _ (Ej (Ao he)) a4;have Tn:H s.heap.objs.size=af:=I.hok.fresh (Am _);have kp:∀c o,c∉[e,it]->s.heap.get? c=ae o->h''.get? c=ae o:=λc o hc e=>by
   simp only[Aw,Bh,or_false,not_or]at hc;exact b2.extBut _ _ hc.1 (a6 c o hc.1 hc.2 e)
  refine⟨.ref s.heap.objs.size,upd H s.heap.objs.size (.tup [.int i,x]),I.many (t':=tk+1) hf kp (Am _) ⟨by show 2<=Ar;decide,[.int i tk,u],.cons ⟨tk,rfl⟩ (.cons ru .nil),_,T,rfl,⟨_,rfl⟩,rfl⟩,rfl,⟨_,x,rfl,Tn,rfl,λzs q=>by rw[I.tuple_inj q qa];exact ex⟩,
   ⟨⟨u,by rw[show((i+1:Nat):Int)=(i:Int)+1 from rfl];exact b1⟩,a3.1.extBut b2.extBut h1.symm⟩,λc hc=>?_⟩
  have hlt:c < s.heap.objs.size:=by
   simp only[Aw,Bh,or_false]at hc;rcases hc with rfl|rfl
   ·exact Ao he
   ·obtain⟨_,e,_⟩:=hi;exact Ao e
  rw[aD (A8 hlt)];exact(hf c hc).1
 done:=by
  intro X hP hw hK hc i pins s σ H E I hf st hg;subst hP hw hK;obtain⟨⟨old,he⟩,hi⟩:=st;obtain⟨xs,hq,hx⟩:=hg;obtain⟨its,rv,p,_⟩:=I.tuple hq;have hl:=rv.length;have hs:its.toArray.size=i:=by simp;omega
  refine wpAny_pyNext_enum_endD (AE (A:=X.A.in1) (I.ok.hd hc) it a h2 its.toArray) he (by rw[hs];exact⟨hi,p⟩) λh' k=>⟨rfl,I.many0 (t':=s.toks) hf λc o hc e=>?_⟩;simp only[Aw,Bh,or_false,not_or]at hc;exact k c o hc.2 e
 self:=λ_ _ _ _ _ st h=>wpAny_pyIter_enum st.1.choose_spec h
def ES(K:Af)(ta:TA):TI:=λσ H R=>ta σ H λvs H1=>∃a,vs=[.ref a]/\(∃xs,SqT K H1 a xs)/\R (GY K a) H1
theorem Tz(hg:Gl X "enumerate")(hm:X.mg "enumerate"=af)(ha:PA X [e1] ta)(hs:Ap [e1] X.env=[(ai,eval e1 X.env)]:=by rfl):
  PI X (.Tuple elts kk tpos) (.Call (.Name "enumerate" p) [e1] [] pos) (ES X.K ta):=by
 intro pins s σ H R I h;refine Call_ (jU I hg hm boot_enumerate (C8 (aG (ha pos pins s σ H _ I h) λus s1 ⟨vs,H1,I1,r1,q1⟩=>?_) (by rw[hs];rfl) rfl));obtain⟨a,e,⟨xs,qa⟩,q⟩:=q1;subst e;cases r1 with
 |cons r rr=>
  cases rr;cases r;obtain⟨its,rv,pp,_⟩:=I1.tuple qa;have la:a < s1.heap.objs.size:=by obtain⟨_,e,_⟩:=id pp;exact Ao e
  refine Jp (show s1.heap.IsTuple a its.toArray from pp) λh' a1 a2 a3=>wpAny_pyIter_enum (s:={ s1 with heap:=h'}) a1 ?_;refine⟨_,_,_,_,H1,rfl,I1.kept (t':=s1.toks) a3,LS (Nat.succ_ne_self _) (A8 la) (Ej (Nat.lt_succ_of_lt la)),⟨⟨_,a1⟩,a2⟩,λc hc=>?_,q⟩;have hlt:s1.heap.objs.size<=c:=by
   simp only[Aw,Bh,or_false]at hc;rcases hc with rfl|rfl<;>omega
  exact I1.fpOk hlt (I1.hok.fresh hlt)
end L2
namespace DL
open PySem L2 Nb
section
variable{X:Cx}{a b e o:Expr}{ta tb te td ty:TE}{wa wb we wd' wy:DT}{pos p p2:Pos}{K:Af}{H:Hp}{B:Addr->Prop}{l:List (List aC×V)}{m:List (List aC×Ab)}
def gD(m:List (List aC×Ab))(k:List aC):Bool:=m.any λkv=>decide (kv.1=k)
def f7(m:List (List aC×Ab))(k:List aC)(d:Ab):List (List aC×Ab):=if gD m k=ah then m.map (λkv=>if kv.1=k then(kv.1,d)else kv)else m++[(k,d)]
theorem RdT.any(h:RdT H B l m)(k):(l.any λkv=>decide (kv.1=k))=gD m k:=by
 unfold RdT at h;unfold gD
 induction h with
 |nil=>rfl
 |cons r _ ih=>rw[Dd,Dd,ih,r.1]
theorem RdT.isSome(h:RdT H B l m)(k):(bC l k).isSome=gD m k:=by
 rw[<-h.any k];unfold bC;rw[En,List.isSome_find?]
theorem RdT.len(h:RdT H B l m):l.length=m.length:=by
 unfold RdT at h
 induction h with
 |nil=>rfl
 |cons _ _ ih=>rw[Bf,Bf,ih]
theorem RdT.map(h:RdT H B l m)(r:RdX H B v d)(k):RdT H B (l.map λkv=>if kv.1=k then(kv.1,v)else kv) (m.map λkv=>if kv.1=k then(kv.1,d)else kv):=by
 unfold RdT at h ⊢
 induction h with
 |nil=>exact .nil
 |@cons p q ps qs z _ ih=>
  rw[Bg,Bg];refine .cons ?_ ih;by_cases e:p.1=k
  ·have e':q.1=k:=z.1▸e;rw[if_pos e,if_pos e'];exact⟨z.1,r⟩
  ·have e':¬q.1=k:=z.1▸e;rw[if_neg e,if_neg e'];exact z
theorem RdT.snoc(h:RdT H B l m)(r:RdX H B v d)(k):RdT H B (l++[(k,v)]) (m++[(k,d)]):=by
 unfold RdT at h ⊢
 induction h with
 |nil=>exact .cons ⟨rfl,r⟩ .nil
 |cons z _ ih=>exact .cons z ih
theorem RdT.put(h:RdT H B l m)(r:RdX H B v d)(k):RdT H B (bx l k v) (f7 m k d):=by
 unfold bx f7;rw[h.any k]
 split
 ·exact h.map r k
 ·exact h.snoc r k
def qu(i:Nat):aF:=λδ n K=>K.nx (δ.set i (ae (.odt []))) n
theorem Qq(hN:X.N.Nodup)(hi:X.N[i]?=ae x)(hx:gw X.env.scope x)(hs:Dp (.Dict [] [] p) (ae (.Name x pos')) pos.line X.env=pure ai:=by rfl)(hf:X.fn x=ah\/X.env.scope.names.lookup x=ae .local:=by first|exact .inl rfl|exact .inr rfl|assumption):
  DS X (.Assign [.Name x pos'] (.Dict [] [] p) pos) (aW zO (cv i)) (qu i):=⟨dZ hN hi hx Q8 hs hf,λC H B σ δ n K D R q E=>λa ha=>by
  refine E.nx _ _ _ _ _ (R.own (R.new ha) (Kp.new ha) ha (by rw[aR];exact λz=>nomatch z) rfl ?_) q;exact⟨a,[],rfl,aR,.inr rfl,R.h0 ha,Az _,.nil⟩⟩
def qR(i:Nat)(w:DT):DT:=λδ n Q=>w δ n λx n1=>∃k kvs,x=.d (nk k)/\δ[i]?=ae (ae (.odt kvs))/\Q (.d (.bool !gD kvs k)) n1
theorem Ng(hi:DE X a ta wa):du (o7 ta (az i)) (qR i wa):=λC H B σ δ n Q Q' R h k=>
 hi.sd C H B σ δ n _ _ R h λv x H1 n1 R1 k1 r1 q1=>by
  obtain⟨key,kvs,rfl,e,q⟩:=q1;obtain⟨w,h1,b,l,rfl,g2,g3,g4,g5,g6⟩:=R1.sl i _ e;refine⟨_,h1,?_⟩;cases(show RdX H1 B v (.tuple (key.map vD))from r1)with
  |@tup c zs _ i1 i2 i3 i4=>
   have ez:=AL i4;subst ez;refine⟨b,bC l key,rfl,DGet.t g2 i1,k _ _ H1 n1 R1 k1 (wd (.bl _)) ?_⟩;rw[g6.isSome key];exact q
theorem Jb{xp:Pos}(hu:X.A.units+64 < Dj)(hN:X.N[i]?=ae x)(hi:DE X a ta wa)(hv:fD X.env.scope x:=by first|exact By rfl|exact Ca (By rfl)|exact Ca (Ca rfl))(hd:(x==("__debug__":Str))=ai:=by decide)
  (hcd:(x==("__classdict__":Str))=ai:=by decide) (hm:Ci .NotIn (.Name x xp)=ai:=by with_unfolding_all rfl):DC X (.Compare a [.NotIn] [.Name x xp] pos) (fe (o7 ta (az i))) (cT (qR i wa)):=⟨Hz (Iq ⋯ hi.pe (gC hN hv hd hcd)) hm,k9 (Ng hi)⟩
def EB(i:Nat)(wy wv:DT):aF:=λδ n K=>wv δ n λv n1=>∃kvs,δ[i]?=ae (ae (.odt kvs))/\wy δ n1 λy n2=>∃k d,v=.d d/\y=.d (nk k)/\kvs.length < 1000/\K.nx (δ.set i (ae (.odt (f7 kvs k d)))) n2
theorem QO{xp sp:Pos}(hu:X.A.units+64 < Dj)(hN:X.N[i]?=ae x)(hj:DE X j tj wj)(he:DE X e te we)(hv:fD X.env.scope x:=by first|exact By rfl|exact Ca (By rfl)|exact Ca (Ca rfl))(hd:(x==("__debug__":Str))=ai:=by decide)
  (hcd:(x==("__classdict__":Str))=ai:=by decide) (hs:Dp e (ae (.Subscript (.Name x xp) j sp)) pos.line X.env=pure ai:=by rfl):
  DS X (.Assign [.Subscript (.Name x xp) j sp] e pos) (xY (az i) tj te) (EB i wj we):=
 ⟨HF ⋯ (gC hN hv hd hcd) hj.pe he.pe hs,λC H B σ δ n K D R q E=>
  he.sd C H B σ δ n _ _ R q λu y H1 n1 R1 k1 r1 q1=>by
   obtain⟨kvs,ei,q1⟩:=q1;obtain⟨v,hv,a,l,rfl,e2,e3,e4,e5,e6⟩:=R1.sl i _ ei;refine⟨_,hv,hj.sd C H1 B σ δ n1 _ _ R1 q1 λw z H2 n2 R2 k2 r2 q2=>?_⟩;obtain⟨key,d,rfl,rfl,hl0,q2⟩:=q2;have hat:a≠C.t:=λz=>R.t0 (z▸e4);have e2':=k2 _ _ e2 hat;have r1':RdX H2 B u d:=RdX.kp k2 R1.bt r1;have e6':RdT H2 B l kvs:=e6.move λb o e n=>⟨k2 b o e λz=>n (z▸R1.bt),n⟩;have hl:l.length < 1000:=by rw[e6'.len];exact hl0
   cases(show RdX H2 B w (.tuple (key.map vD))from r2)with
   |@tup c zs _ i1 i2 i3 i4=>
    have ez:=AL i4;subst ez;refine⟨a,_,rfl,DPut.t e2' i1 (Bd hl (jq (Am _))),?_⟩;refine E.nx _ _ _ _ _ (R2.mutOwn ei rfl hv e3 e4 ?_ rfl) q2;refine⟨a,_,rfl,aR,e3,e4,?_,?_⟩
    ·have:=sN l key u;omega
    ·exact(e6'.put r1' _).move λb o e n=>⟨by rw[aD λ(z:b=a)=>n (z▸e3)];exact e,n⟩⟩
end
section
variable{X:Cx}{a b e o i f:Expr}{ta tb te td ty:TE}{wa wb we wd' wy:DT}{pos p p2:Pos}{K:Af}
def iE(k:Int)(xs:List Ab):List Ab:=xs.zipIdx.map λq=>.tuple [.int (k+q.2),q.1]
theorem uW:(iE k xs).length=xs.length:=by unfold iE;rw[Ad,List.length_zipIdx]
theorem Uh{i:Nat}(h:(iE k xs)[i]?=ae d):∃x,xs[i]?=ae x/\d=.tuple [.int (k+i),x]:=by
 unfold iE at h;rw[Aq,List.getElem?_zipIdx]at h;cases e:xs[i]? with
 |none=>rw[e]at h;cases h
 |some x=>
  rw[e]at h;refine⟨x,rfl,?_⟩;have:=A4 h;rw[<-this,Nat.zero_add]
theorem yD:iE k (x::xs)=.tuple [.int k,x]::iE (k+1) xs:=by
 refine Ey λi=>?_;unfold iE;cases i with
 |zero=>rw[List.zipIdx_cons,Bg,Dk,Dk,Int.natCast_zero,Int.add_zero]
 |succ i=>
  rw[Cr,Aq,Aq,List.getElem?_zipIdx,List.getElem?_zipIdx,Cr];cases xs[i]? with
  |none=>rfl
  |some y=>
   show ae (PyData.tuple [.int (k+(0+(i+1):Nat)),y])=ae (.tuple [.int (k+1+(0+i:Nat)),y]);have:k+(0+(i+1):Nat)=k+1+(0+i:Nat):=by omega
   rw[this]
def vL(w:DT):gc:=λδ n Q=>w δ n λx n1=>∃xs,x=.d (.tuple xs)/\Q (iE 0 xs) n1
theorem NA{elts:List Expr}{kk:Nat}{tpos:Pos}(hg:Gl X "enumerate")(hm:X.mg "enumerate"=af)(ha:DE X a ta wa)(hK:X.K=K:=by rfl)(hs:Ap [a] X.env=[(ai,eval a X.env)]:=by rfl)(he1:Ap [a] X.env=(ai,eval a X.env)::Ap [] X.env:=by rfl):
  DI X (.Tuple elts kk tpos) (.Call (.Name "enumerate" p) [a] [] pos) (ES K (aM ta aI)) (vL wa):=by
 subst hK;refine⟨Tz hg hm (bP ha.pe dC he1) hs,λC H B σ δ n Q Q' R q k=>ha.sd C H B σ δ n _ _ R q λv x H1 n1 R1 k1 r1 q1=>?_⟩;obtain⟨xs,rfl,q2⟩:=q1;cases(show RdX H1 B v (.tuple xs)from r1)with
 |@tup aa vs _ e1 e2 e3 e4=>
  refine⟨aa,rfl,⟨vs,SqT.of e1⟩,k _ (iE 0 xs) H1 n1 R1 k1 (λfz th=>?_) q2⟩;have za:fz aa=ae (.tup vs):=th.2 _ _ e1 e2;refine⟨by rw[uW,<-e4.len];exact e3,λi H hH hi=>?_,λH hH=>?_,λi H x H' d hH hd hy=>?_⟩
  ·rw[uW]at hi;have h1:i < vs.length:=by rw[e4.len];exact hi
   exact⟨vs,vs[i],SqT.of (hH _ _ za),Ag h1⟩
  ·exact⟨vs,SqT.of (hH _ _ za),by rw[uW,e4.len]⟩
  ·obtain⟨T,x1,rfl,hT,rfl,hx⟩:=hy;refine⟨λb o e=>by rw[aD (aY e hT)];exact e,λB' hB hBa=>?_⟩;obtain⟨y,hy,rfl⟩:=Uh hd;obtain⟨u1,hu1,ru1⟩:=e4.getD hy;have t1:=hx _ (SqT.of (hH _ _ za));rw[hu1]at t1;cases t1;have mv:∀b o,H1 b=ae o->¬B b->upd H T (.tup [.int i,x1]) b=ae o/\¬B' b:=λb o e ne=>by
    have:=hH _ _ (th.2 _ _ e ne);exact⟨by rw[aD (aY this hT)];exact this,hB _ _ (th.2 _ _ e ne)⟩
   rw[Int.zero_add];exact .tup aR (λz=>hBa T z hT) (by show 2<=Ar;decide) (.cons (.int _) (.cons (ru1.move mv) .nil))
def nW(hs:List Str)(w:DT):DT:=λδ n Q=>w δ n λx n1=>∃a,x=.d a/\gA a=ah/\Q (.d (.bool !cz a (hs.map .str))) n1
theorem Jw(hl:∀h∈hs,h.length<=1000)(hq:∀H,SqT K H q (hs.map V.str))(h:du ta wa):du (cS (jn K ah) ta (tC (.ref q))) (nW hs wa):=λC H B σ δ n Q Q' R z k=>
 h C H B σ δ n _ _ R z λv x H1 n1 R1 k1 r1 q1=>by
  obtain⟨da,rfl,q1⟩:=q1;have r1:RdX H1 B v da:=r1;have rs:RdXs H1 B (hs.map V.str) (hs.map .str):=uH hl;refine⟨q,_,rfl,.inr (hq H1),pF r1 q1.1,my rs ?_,k _ _ H1 n1 R1 k1 (wd (.bl _)) ?_⟩
  ·rw[List.all_map];exact Dm.mpr λ_ _=>rfl
  ·rw[pJ r1 rs];exact q1.2
theorem Kt{xp:Pos}(ha:DE X a ta wa)(hg:Gl X x)(hm:X.mg x=ae (.ref q))(hq:∀H,SqT K H q (hs.map V.str))(hl:∀h∈hs,h.length<=1000:=by decide +kernel)(hK:X.K=K:=by rfl)(hd:(x==("__debug__":Str))=ai:=by decide)
  (hmk:Ci .NotIn (Expr.Name x xp)=ai:=by with_unfolding_all rfl):DC X (.Compare a [.NotIn] [.Name x xp] pos) (fe (cS (jn K ah) ta (tC (.ref q)))) (cT (nW hs wa)):=
 ⟨kU (Ia hK) ha.pe (kf hg hm rfl hd) hmk,k9 (Jw hl hq ha.sd)⟩
end
end DL
namespace Nb
open PySem L2 DL
theorem QG(h:n < 2 ^ 40)(h0:0 < many)(h1:many < 1073741824)(k:∀r:Int,0<=r->r < many->Q (.d (.int r)) (n+1)):fN [.tp,.d (.int many)] n Q:=⟨⟨h,h0,h1⟩,k⟩
theorem S3(h0:0<=r)(h1:r < (ds.length:Int))(k:∀d∈ds,Q (.d d) n):aB (.d (.list ds)) (.d (.int r)) n Q:=by
 obtain⟨v,hv,hm⟩:=Uu h0 h1;show match df ds r with|some d=>Q (.d d) n|none=>False
 simp only[hv];exact k v hm
theorem eq_str(a)(h):iC a (.str h)=ae (cY h a):=by cases a<;>rfl
theorem eq_int(i j):iC (.int i) (.int j)=ae (decide (i=j)):=rfl
theorem Kw(a)(r:List α):df (a::r) 0=ae a:=fG (j:=0) rfl
theorem Up(a b)(r:List α):df (a::b::r) 1=ae b:=fG (j:=1) rfl
section
variable{δ:Sl}{n:Int}{Q:DQ}{K:DEnds}{W V:aF}{i j:Nat}{a b d:Ab}{r ds:List Ab}{h:Str}
theorem aE(h:W δ n {K with nx:=λδ n=>V δ n K}):aq W V δ n K:=h
theorem au(e:δ[i]?=ae (ae (.w x)))(k:Q x n):aj i δ n Q:=by unfold aj;rw[e];exact k
theorem ll{m:Nat}(e:δ[i]?=ae (ae (.w (.d (.tuple ds)))))(e2:ds[m]?=ae a)(k:Q (.d a) n):w2 (aj i) (wC (.int (m:Int))) aB δ n Q:=by
 unfold w2;refine au e ?_;unfold wC aB;simp only[fG e2];exact k
theorem dv(e:δ[i]?=ae (ae (.w (.d (.tuple (a::r))))))(k:Q (.d a) n):w2 (aj i) (wC (.int 0)) aB δ n Q:=ll (m:=0) e rfl k
theorem eV(e:δ[i]?=ae (ae (.w (.d (.tuple (a::b::r))))))(k:Q (.d b) n):w2 (aj i) (wC (.int 1)) aB δ n Q:=ll (m:=1) e rfl k
theorem oR(e:δ[i]?=ae (ae (.w (.d (.tuple (a::r))))))(k:Q (.d (.bool (cY h a))) n):w2 (w2 (aj i) (wC (.int 0)) aB) (wC (.str h)) bM δ n Q:=by
 show w2 (aj i) (wC (.int 0)) aB δ n λx n1=>wC (.str h) δ n1 λy n2=>bM x y n2 Q;refine dv e ?_;unfold wC bM;simp only[eq_str];exact k
theorem jH(k:c δ n λb n1=>if b=ah then W δ n1 K else V δ n1 K):aV c W V δ n K:=k
theorem v7(e:δ[i]?=ae (ae (.w (.d (.tuple (a::r))))))(hT:cY h a=ah->W δ n K)(hF:cY h a=ai->V δ n K):aV (cT (w2 (w2 (aj i) (wC (.int 0)) aB) (wC (.str h)) bM)) W V δ n K:=by
 unfold aV cT;exact oR e (sD hT hF)
theorem rN(e:δ[i]?=ae (ae (.w (.d (.tuple (a::r))))))(z:cY h a=ai)(hF:V δ n K):aV (cT (w2 (w2 (aj i) (wC (.int 0)) aB) (wC (.str h)) bM)) W V δ n K:=v7 e (λq=>by rw[z]at q;cases q) λ_=>hF
theorem yu(e:δ[i]?=ae (ae (.w (.d (.tuple (a::r))))))(z:cY h a=ah)(hT:W δ n K):aV (cT (w2 (w2 (aj i) (wC (.int 0)) aB) (wC (.str h)) bM)) W V δ n K:=v7 e (λ_=>hT) λq=>by rw[z]at q;cases q
end
theorem QY:cY "bind" (.str "bind")=ah:=by decide +kernel
section
variable{δ:Sl}{n:Int}{Q:DQ}{K:DEnds}{W V:aF}{i j:Nat}{a b d:Ab}{r ds:List Ab}
theorem ar(k:wa δ n λx n1=>wb δ n1 λy n2=>g x y n2 Q):w2 wa wb g δ n Q:=k
theorem bE(h:∀Q:DQ,Q (.d x) n->w δ n Q)(k:K.nx (δ.set i (ae (.w (.d x)))) n):aA i w δ n K:=h _ k
theorem OR(k:K.nx (δ.set i (ae (.own []))) n):fR i (bL ak) δ n K:=⟨Az _,k⟩
theorem eB(k:Q (.d a) n):aB (.d (.tuple (a::r))) (.d (.int 0)) n Q:=by
 show(match df (a::r) 0 with|some d=>Q (.d d) n|none=>False);rw[Kw];exact k
theorem kh(k:Q (.d b) n):aB (.d (.tuple (a::b::r))) (.d (.int 1)) n Q:=by
 show(match df (a::b::r) 1 with|some d=>Q (.d d) n|none=>False);rw[Up];exact k
theorem fK(k:Q (.d c) n):aB (.d (.tuple (a::b::c::r))) (.d (.int 2)) n Q:=by
 show(match df (a::b::c::r) 2 with|some d=>Q (.d d) n|none=>False);rw[show df (a::b::c::r) 2=ae c from fG (j:=2) rfl];exact k
theorem aH(k:Q (.d c) n):wC c δ n Q:=k
theorem b6(k:w δ n λx n1=>g [x] n1 Q):wB g (ao w ak) δ n Q:=k
theorem gJ(k:w δ n λx n1=>S [x] n1 Q):aJ S (ao w ak) δ n Q:=k
theorem cP(k:w δ n λx n1=>w' δ n1 λy n2=>S [x,y] n2 Q):aJ S (ao w (ao w' ak)) δ n Q:=k
theorem cf(k:w δ n λx n1=>w' δ n1 λy n2=>w'' δ n2 λz n3=>S [x,y,z] n3 Q):aJ S (ao w (ao w' (ao w'' ak))) δ n Q:=k
theorem bX(k:w δ n λds n1=>Q (.d (.list ds)) n1):bU w δ n Q:=k
theorem lT{Q:List Ab->Int->Prop}(hw:∀Q:DQ,Q (.d (.tuple ds)) n->w δ n Q)(k:eY g c e Q ds [] (jG fr δ) n):dO fr (gi w) g c e δ n Q:=by
 unfold dO gi;exact hw _ k
theorem ub(e:δ[i]?=ae (ae (.w (.d (.tuple ds)))))(k:Q (.d (.int ds.length)) n):wB bK (ao (aj i) ak) δ n Q:=b6 (au e k)
theorem bG(k:w δ n K.rt):aw w δ n K:=k
theorem Ji(ha:∀Q:DQ,Q (.d (.int x)) n->wa δ n Q)(hb:∀Q:DQ,Q (.d (.int y)) n->wb δ n Q)(hc:∀Q:DQ,Q (.d (.int z)) n->wc δ n Q)(h:x<=y)(k:Q (.d (.bool (decide (y<=z)))) n):qg mz mz wa wb wc δ n Q:=by
 refine ha _ (hb _ ?_);show ia (.d (.bool (decide (x<=y)))) (wc δ n λu n4=>mz (.d (.int y)) u n4 Q) (Q (.d (.bool ai)) n);rw[decide_eq_true h];exact hc _ k
theorem KA(e:δ[i]?=ae (ae (.own ds)))(k:W (δ.set i (ae (.w (.d (.list ds))))) n K):iq i W δ n K:=by
 unfold iq;rw[e];exact k
theorem sF(hu:∀Q:DQ,Q (.d (.bool ah)) n->u δ n Q)(hv:v δ n Q):eL u v δ n Q:=hu _ hv
theorem aT{Q:Bool->Int->Prop}(hw:∀Q':DQ,Q' (.d (.bool k)) n->w δ n Q')(q:Q k n):cT w δ n Q:=hw _ q
theorem bu(hc:∀Q:Bool->Int->Prop,Q ai n->C δ n Q)(hF:V δ n K):aV C W V δ n K:=hc _ (by show if ai=ah then _ else _;rw[if_neg Ak];exact hF)
theorem cF(hc:∀Q:Bool->Int->Prop,Q ah n->C δ n Q)(hT:W δ n K):aV C W V δ n K:=hc _ (by show if ah=ah then _ else _;rw[if_pos rfl];exact hT)
theorem yn{Q:Bool->Int->Prop}(ha:∀Q:Bool->Int->Prop,Q ai n->A δ n Q)(hb:B δ n Q):rM A B δ n Q:=ha _ (by show if ai=ah then _ else _;rw[if_neg Ak];exact hb)
theorem Ua{Q:Bool->Int->Prop}(ha:∀Q:Bool->Int->Prop,Q ah n->A δ n Q)(k:Q ah n):rM A B δ n Q:=ha _ (by show if ah=ah then _ else _;rw[if_pos rfl];exact k)
theorem CB{Q:Bool->Int->Prop}(ha:∀Q:Bool->Int->Prop,Q ah n->A δ n Q)(hb:B δ n Q):gF A B δ n Q:=ha _ (by show if ah=ah then _ else _;rw[if_pos rfl];exact hb)
theorem y4{Q:Bool->Int->Prop}(ha:∀Q:Bool->Int->Prop,Q k n->A δ n Q)(q:Q (!k) n):fM A δ n Q:=ha _ q
end
theorem xM(I:List Ab->Sl->Int->Prop)(h0:∀δ n,I [] δ n->K.nx δ n)
  (h1:∀d r δ n (N:Sl->Int->Prop),I (d::r) δ n->(∀δ n,I r δ n->N δ n)->g d δ λδ'=>W δ' n {K with nx:=N,ct:=N,bk:=K.nx}):∀ds δ n,I ds δ n->dE g W K ds δ n
 |[],δ,n,h=>h0 δ n h
 |d::r,δ,n,h=>h1 d r δ n (dE g W K r) h (xM I h0 h1 r)
theorem Ql(k:Q (.d (.bool ai)) n):gE (λd e=>ae (!B4 d e)) (.d (.list [])) (.d (.list [])) n Q:=
 Bj rfl ⟨rfl,by decide,by decide,ai,rfl,k⟩
section
variable{δ:Sl}{n m:Int}{Q:DQ}{K:DEnds}{W V:aF}{i j:Nat}{ds:List Ab}
theorem Kr(e:δ[i]?=ae (ae (.own ds)))(k:Q (.ln ds) n):iF i δ n Q:=by
 unfold iF;rw[e];exact k
theorem BF(e:δ[i]?=ae (ae (.own es)))(hw:∀Q:DQ,Q (.d x) m->w δ n Q)(hl:es.length < 1000000)(k:K.nx (δ.set i (ae (.own (es++[x])))) m):fB i w δ n K:=by
 unfold fB;rw[e];exact hw _ (Bj hl k)
theorem pZ(k:w δ n λx n1=>w' δ n1 λy n2=>match iO [x,y]with
  |some ds=>ds.length<=1000/\Q (.d (.tuple ds)) n2
  |none=>False):av (ao w (ao w' ak)) δ n Q:=k
theorem FN(k:w δ n λx n1=>w' δ n1 λy n2=>w'' δ n2 λz n3=>match iO [x,y,z]with
  |some ds=>ds.length<=1000/\Q (.d (.tuple ds)) n3
  |none=>False):av (ao w (ao w' (ao w'' ak))) δ n Q:=k
theorem Mb(k:Q (.d (.tuple ds)) n):rm [.d (.list ds)] n Q:=k
theorem lg(k:Q (.d (.bool (decide (a < b)))) n):mG (.d (.int a)) (.d (.int b)) n Q:=k
end
section
variable{δ:Sl}{n m:Int}{Q:DQ}{K:DEnds}{W V:aF}{i j:Nat}{ds:List Ab}
theorem LI(k:w δ n λx n1=>w' δ n1 λy n2=>w'' δ n2 λz n3=>v δ n3 λu n4=>match iO [x,y,z,u]with
  |some ds=>ds.length<=1000/\Q (.d (.tuple ds)) n4
  |none=>False):av (ao w (ao w' (ao w'' (ao v ak)))) δ n Q:=k
theorem xD(k:Q (.d (.list [])) n):bU (bL ak) δ n Q:=Bj (Az _) k
theorem pH(e:δ[i]?=ae (ae (.w (.d (.int a)))))(hT:b < a->W δ n K)(hF:¬b < a->V δ n K):aV (cT (w2 (aj i) (wC (.int b)) lH)) W V δ n K:=by
 refine jH (ar (au e (aH ?_)));show if decide (b < a)=ah then _ else _
 by_cases h:b < a
 ·rw[if_pos (decide_eq_true h)];exact hT h
 ·rw[if_neg (by simpa using h)];exact hF h
end
theorem Qh(hs:List Str):(hs.map PyData.str).all gA=ah:=by
 rw[Dm];intro d hd;obtain⟨x,_,rfl⟩:=A3.mp hd;rfl
theorem O4(k:Q (.d (.int ds.length)) n):rB [.ln ds] n Q:=k
theorem cM(h:xs[i]?=ae x)(k:Q (.d x) n):aB (.d (.tuple xs)) (.d (.int (i:Nat))) n Q:=by
 show(match df xs ((i:Nat):Int)with|some d=>Q (.d d) n|none=>False);rw[fG h];exact k
theorem zw(xs:List Ab)(hp:p<=xs.length):dD xs af (ae (p:Int))=xs.take p:=by
 unfold dD;rw[HT.sIx_nat];show(xs.drop 0).take (min p xs.length-0)=_;rw[List.drop_zero,Nat.sub_zero,Nat.min_eq_left hp]
end Nb
namespace DL
open PySem L2 Nb
end DL
namespace Nb
open PySem L2 DL
abbrev Nm:=List (Str×Ab)
inductive Fd where
 |is (v:Ab)|any|word|number|bind (x:Str)|as (x:Str)
def Fd.d:Fd->Ab
 |.is v=>.tuple [.str "is",v]
 |.any=>.tuple [.str "any"]
 |.word=>.tuple [.str "word"]
 |.number=>.tuple [.str "number"]
 |.bind x=>.tuple [.str "bind",.str x]
 |.as x=>.tuple [.str "as",.str x]
abbrev kG(x:Str):Prop:=x.length<=4/\Fb x=ah/\mU 4 (.str x)=ah
def bS:Ab->Bool
 |.str x=>decide (x.length<=8)&&(Fb x&&decide (x="a"\/x="ab"\/x="go"))
 |.int i=>decide (0<=i)&&(decide (i<=99)&&(decide (Gz (.int i)<=20)&&(Fw 13 (.int i)&&Ff (.int i))))
 |_=>ai
def Fd.ok:Fd->Prop
 |.is v=>bS v=ah
 |.bind x=>kG x
 |.as x=>kG x
 |_=>True
def fq(a b:Ab):Bool:=(iC a b).getD ai
theorem rl(ha:bS a=ah)(hb:bS b=ah):iC a b=ae (fq a b):=by
 cases a<;>first|cases ha|(cases b<;>first|cases hb|rfl)
theorem RK(ha:bS a=ah)(hb:bS b=ah)(h:fq a b=ah):a=b:=by
 cases a<;>first|cases ha|(cases b<;>first|cases hb|cases h|(rw[show _=_ from of_decide_eq_true h]))
theorem Lk(ha:bS a=ah):gA a=ah:=by cases a<;>first|cases ha|rfl
def jB:Ab->Bool
 |.str _=>ah
 |_=>ai
def jC:Ab->Bool
 |.int _=>ah
 |_=>ai
def look(ps:Nm)(x:Str):Option Ab:=(ps.find? λp=>decide (p.1=x)).map (·.2)
def put(ps:Nm)(x:Str)(v:Ab):Nm:=if (ps.any λp=>decide (p.1=x))=ah then ps.map (λp=>if p.1=x then(p.1,v)else p)else ps++[(x,v)]
theorem MX(a b):decide ((Dv a:aC)=Dv b)=decide (a=b):=by
 by_cases z:a=b
 ·rw[z,decide_eq_true rfl,decide_eq_true rfl]
 ·rw[decide_eq_false z,decide_eq_false λw=>z (Sum.inr.inj w)]
theorem qT(ps:Nm)(x):bJ (bo ps) (.inr x)=look ps x:=by
 induction ps with
 |nil=>rfl
 |cons p r ih=>
  by_cases e:p.1=x
  ·have a1:bJ (bo (p::r)) (.inr x)=ae p.2:=by simp[bJ,bo,Bc,e]
   have a2:look (p::r) x=ae p.2:=by simp[look,Bc,e]
   rw[a1,a2]
  ·have a1:bJ (bo (p::r)) (.inr x)=bJ (bo r) (.inr x):=by simp[bJ,bo,Bc,e]
   have a2:look (p::r) x=look r x:=by simp[look,Bc,e]
   rw[a1,a2,ih]
theorem NK(ps:Nm)(x):((bo ps).any λkv=>decide (kv.1=(Dv x:aC)))=(ps.any λp=>decide (p.1=x)):=by
 unfold bo;rw[List.any_map]
 congr 1
 funext p
 exact MX _ _
theorem uL(ps:Nm)(x)(v):dP (bo ps) (.inr x) v=bo (put ps x v):=by
 unfold dP put;rw[NK]
 split
 ·unfold bo;rw[Cj,Cj];apply Dy;intro p _;show(if (Dv p.1:aC)=Dv x then _ else _)=_;by_cases e:p.1=x
  ·rw[if_pos (congrArg Dv e)];show _=(Dv (if p.1=x then(p.1,v)else p).1,(if p.1=x then(p.1,v)else p).2);rw[if_pos e]
  ·rw[if_neg λz=>e (Sum.inr.inj z)];show _=(Dv (if p.1=x then(p.1,v)else p).1,(if p.1=x then(p.1,v)else p).2);rw[if_neg e]
 ·unfold bo;rw[Bw];rfl
theorem mf(h:look ps x=ae v):(x,v)∈ps:=by
 unfold look at h;cases e:ps.find? λp=>decide (p.1=x)with
 |none=>rw[e]at h;cases h
 |some p=>
  rw[e]at h;have h1:=List.find?_some e;have h2:p.1=x:=of_decide_eq_true h1;have h3:p.2=v:=A4 h;have:=Hl e;rw[<-h2,<-h3];exact this
theorem qS(ps:Nm)(x):(ps.any λp=>decide (p.1=x))=(look ps x).isSome:=by
 induction ps with
 |nil=>rfl
 |cons p r ih=>
  by_cases e:p.1=x
  ·have a2:look (p::r) x=ae p.2:=by simp[look,Bc,e]
   rw[a2,Dd,decide_eq_true e];rfl
  ·have a2:look (p::r) x=look r x:=by simp[look,Bc,e]
   rw[a2,Dd,decide_eq_false e,Bool.false_or,ih]
theorem GS(ps:Nm)(x)(v):(put ps x v).map (·.1)=if (ps.any λp=>decide (p.1=x))=ah then ps.map (·.1)else ps.map (·.1)++[x]:=by
 unfold put
 split
 ·rw[Cj];apply Dy;intro p _;show(if p.1=x then(p.1,v)else p).1=p.1
  split<;>rfl
 ·rw[Bw];rfl
theorem HE(h:(ps.map (·.1)).Nodup):((put ps x v).map (·.1)).Nodup:=by
 rw[GS]
 split
 ·exact h
 ·rename_i e;rw[Gu];refine⟨h,by simp,λa ha b hb z=>?_⟩;have hb:b=x:=by simpa using hb
  obtain⟨p,hp,rfl⟩:=A3.mp ha;exact e (Dl.mpr ⟨p,hp,decide_eq_true (z.trans hb)⟩)
theorem t5(ps:Nm)(x)(v):(put ps x v).length<=ps.length+1:=by
 unfold put
 split
 ·rw[Ad];omega
 ·rw[A2];exact Am _
def fh(p:Str×Ab):Prop:=kG p.1/\bS p.2=ah
theorem qU(h:∀p∈ps,fh p)(hx:kG x)(hv:bS v=ah):∀p∈put ps x v,fh p:=by
 intro p hp;unfold put at hp
 split at hp
 ·obtain⟨q,hq,rfl⟩:=A3.mp hp
  split
  ·exact⟨(h q hq).1,hv⟩
  ·exact h q hq
 ·rcases Bv.mp hp with hp|hp
  ·exact h p hp
  ·have:p=(x,v):=by simpa using hp
   subst this;exact⟨hx,hv⟩
theorem LG(nd:(ps.map (·.1)).Nodup)(h:look ps x=ae v):put ps x v=ps:=by
 unfold put;rw[qS,h,if_pos (show(ae v).isSome=ah from rfl)];have hm:=mf h;have:ps.map (λp=>if p.1=x then(p.1,v)else p)=ps.map id:=by
  apply Dy;intro p hp
  split
  ·rename_i e;have:p=(x,v):=by
    obtain⟨i,hi⟩:=B7.mp hp;obtain⟨j,hj⟩:=B7.mp hm;have a1:(ps.map (·.1))[i]?=ae x:=by rw[Aq,hi];exact congrArg ae e
    have a2:(ps.map (·.1))[j]?=ae x:=by rw[Aq,hj];rfl
    obtain⟨b1,b2⟩:=Al.mp a1;obtain⟨c1,c2⟩:=Al.mp a2;have:=(F3 nd).mp (b2.trans c2.symm);rw[this,hj]at hi;exact(A4 hi).symm
   rw[this];rfl
  ·rfl
 rw[this,List.map_id]
theorem HX(ps)(x)(v):look (put ps x v) x=ae v:=by
 unfold put;rw[qS]
 split
 ·rename_i e
  induction ps with
  |nil=>cases e
  |cons p r ih=>
   by_cases z:p.1=x
   ·simp[look,Bc,z]
   ·have a2:look (p::r) x=look r x:=by simp[look,Bc,z]
    rw[a2]at e;rw[Bg,if_neg z];have a3:look (p::r.map λp=>if p.1=x then(p.1,v)else p) x=look (r.map λp=>if p.1=x then(p.1,v)else p) x:=by simp[look,Bc,z]
    rw[a3];exact ih e
 ·rename_i e;have:look ps x=af:=by cases q:look ps x with|none=>rfl|some _=>rw[q]at e;exact absurd rfl e
  unfold look at this ⊢;rw[List.find?_append];cases q:ps.find? λp=>decide (p.1=x)with
  |some p=>rw[q]at this;cases this
  |none=>simp
theorem CY(h:y≠x):look (put ps x v) y=look ps y:=by
 unfold put
 split
 ·induction ps with
  |nil=>rfl
  |cons p r ih=>
   rw[Bg];have key:look (r.map λp=>if p.1=x then(p.1,v)else p) y=look r y:=by
    rename_i e;by_cases q:(r.any λp=>decide (p.1=x))=ah
    ·exact ih q
    ·have:r.map (λp=>if p.1=x then(p.1,v)else p)=r.map id:=by
      apply Dy;intro p hp;rw[if_neg λz=>q (Dl.mpr ⟨p,hp,decide_eq_true z⟩)];rfl
     rw[this,List.map_id]
   by_cases z:p.1=x
   ·rw[if_pos z];have n1:¬p.1=y:=λw=>h (w.symm.trans z);have a1:look ((p.1,v)::r.map λp=>if p.1=x then(p.1,v)else p) y=look (r.map λp=>if p.1=x then(p.1,v)else p) y:=by simp[look,Bc,n1]
    have a2:look (p::r) y=look r y:=by simp[look,Bc,n1]
    rw[a1,a2,key]
   ·rw[if_neg z];by_cases w:p.1=y
    ·simp[look,Bc,w]
    ·have a1:look (p::r.map λp=>if p.1=x then(p.1,v)else p) y=look (r.map λp=>if p.1=x then(p.1,v)else p) y:=by simp[look,Bc,w]
     have a2:look (p::r) y=look r y:=by simp[look,Bc,w]
     rw[a1,a2,key]
 ·unfold look;rw[List.find?_append];have:[(x,v)].find? (λp=>decide (p.1=y))=af:=by simp[λz=>h (Eq.symm z),Ne.symm h]
  rw[this,Option.or_none]
def gv(f:Fd)(v:Ab)(h bs:Nm):Bool:=match f with
 |.is w=>fq w v
 |.any=>ah
 |.word=>jB v
 |.number=>jC v
 |.as x=>match look h x with
  |some w=>fq w v
  |none=>ai
 |.bind x=>match look bs x with
  |some w=>fq w v
  |none=>ah
def wk:List (Fd×Ab)->Nm->List Str->Option Nm
 |[],h,_=>ae h
 | (.is w,v)::r,h,hs=>if fq w v=ah then wk r h hs else af
 | (.any,_)::r,h,hs=>wk r h hs
 | (.word,v)::r,h,hs=>if jB v=ah then wk r h hs else af
 | (.number,v)::r,h,hs=>if jC v=ah then wk r h hs else af
 | (.as x,v)::r,h,hs=>match look h x with
  |some w=>if fq w v=ah then wk r h hs else af
  |none=>af
 | (.bind x,v)::r,h,hs=>if x∈hs then(match look h x with
   |some w=>if fq w v=ah then wk r h hs else af
   |none=>af)else wk r (put h x v) (hs++[x])
def ja(p:Str×Ab):Ab:=.tuple [.str p.1,p.2]
def cx(ps:Nm):Ab:=.tuple (ps.map ja)
def cG(fs:List Fd):Ab:=.tuple (fs.map Fd.d)
def okN(ps:Nm):Prop:=ps.length<=40/\(ps.map (·.1)).Nodup/\∀p∈ps,fh p
def lQ(fs:List Fd):Prop:=1<=fs.length/\fs.length<=4/\∀f∈fs,f.ok
def vB(row:List Ab):Prop:=(row.length<=4/\1<=row.length)/\∀d∈row,bS d=ah
theorem IE(x y:Str)(h1:¬x.cps.toList < y.cps.toList)(h2:¬y.cps.toList < x.cps.toList):x=y:=by
 have:x.cps.toList=y.cps.toList:=List.le_antisymm (Fc.mp h2) (Fc.mp h1);have e:=G1.mp this;cases x;cases y;simp only at e;rw[e]
theorem IV{h a b:Nm}(nd:(h.map (·.1)).Nodup)(ha:a.Perm h)(hb:b.Perm h)(ra:j8 a)(rb:j8 b):a=b:=by
 refine List.Perm.eq_of_pairwise (λx y hx hy l1 l2=>?_) ra rb (ha.trans hb.symm);have e:x.1=y.1:=IE _ _ l2 l1;have hx':=ha.mem_iff.mp hx;have hy':=hb.mem_iff.mp hy;obtain⟨i,hi⟩:=B7.mp hx';obtain⟨j,hj⟩:=B7.mp hy';have a1:(h.map (·.1))[i]?=ae x.1:=by rw[Aq,hi];rfl
 have a2:(h.map (·.1))[j]?=ae x.1:=by rw[Aq,hj,e];rfl
 obtain⟨b1,b2⟩:=Al.mp a1;obtain⟨c1,c2⟩:=Al.mp a2;have:=(F3 nd).mp (b2.trans c2.symm);rw[this,hj]at hi;exact(A4 hi).symm
theorem jS:∀(l:List (Fd×Ab))(h:Nm)(hs:List Str)(k:Nm),(h.map (·.1)).Nodup->wk l h hs=ae k->(k.map (·.1)).Nodup
 |[],h,hs,k,nd,e=>by cases e;exact nd
 | (.is w,v)::r,h,hs,k,nd,e=>by unfold wk at e;split at e;exact jS r h hs k nd e;cases e
 | (.any,v)::r,h,hs,k,nd,e=>by unfold wk at e;exact jS r h hs k nd e
 | (.word,v)::r,h,hs,k,nd,e=>by unfold wk at e;split at e;exact jS r h hs k nd e;cases e
 | (.number,v)::r,h,hs,k,nd,e=>by unfold wk at e;split at e;exact jS r h hs k nd e;cases e
 | (.as x,v)::r,h,hs,k,nd,e=>by
  unfold wk at e
  split at e
  ·split at e
   ·exact jS r h hs k nd e
   ·cases e
  ·cases e
 | (.bind x,v)::r,h,hs,k,nd,e=>by
  unfold wk at e
  split at e
  ·split at e
   ·split at e
    ·exact jS r h hs k nd e
    ·cases e
   ·cases e
  ·exact jS r _ _ k (HE nd) e
def xV(a b:Str×Ab):Bool:=decide (¬b.1.cps.toList < a.1.cps.toList)
def b9(h:Nm):Nm:=h.mergeSort xV
theorem x9(h):(b9 h).Perm h:=List.mergeSort_perm h xV
theorem BO(h):j8 (b9 h):=by
 have:=List.pairwise_mergeSort (le:=xV) (λa b c x y=>decide_eq_true (Fc.mpr (List.le_trans (Fc.mp (of_decide_eq_true x)) (Fc.mp (of_decide_eq_true y))))) (λa b=>?_) h
 ·exact List.Pairwise.imp (λx=>of_decide_eq_true x) this
 ·rw[Bool.or_eq_true];rcases List.le_total a.1.cps.toList b.1.cps.toList with z|z
  ·exact .inl (decide_eq_true (Fc.mpr z))
  ·exact .inr (decide_eq_true (Fc.mpr z))
theorem M4{h h':Nm}(nd:(h.map (·.1)).Nodup)(p:h'.Perm h)(r:j8 h'):h'=b9 h:=IV nd p (x9 h) r (BO h)
def e7(fs:List Fd)(row:List Ab)(nm:Nm):Nm:=(wk (fs.zip row) nm []).getD []
def cn(fs:List Fd)(row:List Ab)(nm:Nm):Bool:=decide (fs.length=row.length)&&(wk (fs.zip row) nm []).isSome
def d8(fs:List Fd)(row:List Ab)(nm:Nm):Ab:=if cn fs row nm=ah then cx (b9 (e7 fs row nm))else .none
def mQ(fs:List Fd)(row:List Ab)(ps:Nm)(r:Ab):Prop:=
 if fs.length=row.length then match wk (fs.zip row) ps []with
  |none=>r=.none
  |some h=>r=cx (b9 h)
 else r=.none
theorem UY(h:mQ fs row ps r):r=d8 fs row ps:=by
 unfold mQ at h;unfold d8 cn e7;by_cases e:fs.length=row.length
 ·rw[if_pos e]at h;rw[decide_eq_true e,Bool.true_and];cases q:wk (fs.zip row) ps []with
  |none=>rw[q]at h;rw[if_neg (by rw[Option.isSome_none];exact Ak)];exact h
  |some x=>rw[q]at h;rw[if_pos (show(ae x).isSome=ah from rfl)];exact h
 ·rw[if_neg e]at h;rw[decide_eq_false e,if_neg (by rw[Bool.false_and];exact Ak)];exact h
def iX:aL:=λws n Q=>∃(f:Fd)(v:Ab)(hp bp:Nm),ws=[.d f.d,.d v,.dk (bo hp),.dk (bo bp)]/\f.ok/\bS v=ah/\(∀p∈hp,fh p)/\(∀p∈bp,fh p)/\Q (.d (.bool (gv f v hp bp))) n
def pX:aL:=λws n Q=>∃(fs:List Fd)(row:List Ab)(nm:Nm),ws=[.d (cG fs),.d (.tuple row),.d (cx nm)]/\lQ fs/\vB row/\okN nm/\Q (.d (d8 fs row nm)) n
def nE(ys:List Str):Ab:=.tuple (ys.map .str)
end Nb
namespace L2
open PySem PySem.Spec PyProof.Rows
abbrev XP:=TK×Addr×V
def bH(ps:List XP)(k:TK):Option V:=(ps.find? λp=>decide (p.1=k)).map (·.2.2)
def cy(ps:List XP)(k:TK)(b:Addr)(v:V):List XP:=if (bH ps k).isSome=ah then ps.map (λp=>if p.1=k then(p.1,p.2.1,v)else p)else ps++[(k,b,v)]
abbrev KX:List XP->List (TK×Addr×Ae)->Prop:=Paired λp q=>p.1=q.1/\p.2.1=q.2.1/\RelV p.2.2 q.2.2
theorem KX.val(r:KX ps xs)(k):RelO (bH ps k) ((atKey xs k).map (·.2)):=by
 induction r with
 |nil=>exact Ec
 |@cons p q ps qs h t ih=>
  obtain⟨h1,_,h2⟩:=h;by_cases e:p.1=k
  ·have e':q.1=k:=h1.symm.trans e;have b:atKey (q::qs) k=ae q.2:=by simp[atKey,Bc,e']
   have c:bH (p::ps) k=ae p.2.2:=by simp[bH,Bc,e]
   rw[c,b];exact h2
  ·have e':¬q.1=k:=λz=>e (h1.trans z);have b:atKey (q::qs) k=atKey qs k:=by simp[atKey,Bc,e']
   have c:bH (p::ps) k=bH ps k:=by simp[bH,Bc,e]
   rw[c,b];exact ih
theorem KX.repl(r:KX ps xs)(k)(ry:RelV y u):KX (ps.map λp=>if p.1=k then(p.1,p.2.1,y)else p) (xs.map (putAt k u)):=by
 induction r with
 |nil=>exact .nil
 |@cons p q ps qs h t ih=>
  rw[Bg,Bg];refine .cons ?_ ih;obtain⟨h1,h2,h3⟩:=h;unfold putAt;by_cases e:p.1=k
  ·rw[if_pos e,if_pos (h1.symm.trans e)];exact⟨h1,h2,ry⟩
  ·rw[if_neg e,if_neg (λz=>e (h1.trans z))];exact⟨h1,h2,h3⟩
theorem KX.put(r:KX ps xs)(k)(ry:RelV y u):KX (cy ps k b y) (storedH xs k b u):=by
 have e:(bH ps k).isSome=(atKey xs k).isSome:=by rw[(r.val k).isSome_eq,En]
 unfold cy storedH;rw[e];by_cases q:(atKey xs k).isSome=ah
 ·rw[if_pos q,if_pos q];exact r.repl k ry
 ·rw[if_neg q,if_neg q];exact Paired.snoc r ⟨rfl,rfl,ry⟩
theorem wY(ps:List XP)(k)(b)(v):(cy ps k b v).length<=ps.length+1:=by
 unfold cy
 split
 ·rw[Ad];omega
 ·rw[A2,C9];omega
def ic(K:Af)(H:Hp)(ps:List XP):Prop:=∀p∈ps,RdD K H (.ref p.2.1) p.1.1
section
variable{X:Cx}{pins:List (Addr×Obj)}{σ:St}{H:Hp}{s:Ai}{a b:Addr}{v d:V}{u r:Ae}{ps:List XP}{k:TK}{A:Br}{E:Ae->Ai->Prop}
theorem nz(I:Inv X pins σ H s)(e:RdD X.K H (.ref b) k.1):(jr X.prog X.w).is s.heap k b:=RdD.reads I e (show RelV (.ref b) (.ref b)from rfl)
theorem oM(I:Inv X pins σ H s)(e:Rd H a (.dX ps))(hk:ic X.K H ps):ps.length<=Ar/\(a==C5)=ai/\∃xs,KX ps xs/\s.heap.DictOfH (jr X.prog X.w) a xs:=by
 obtain⟨z,y,xs,rel,o,es,ep,h1,h2,h3,h4,h5⟩:=(show ObjOk X.prog X.w H s.heap a (.dX ps)from e.ok I.hok);refine⟨z,y,xs,rel,o,es,ep,h1,h2,h3,h4,λx hx=>?_,h5⟩;have all:∀{l:List XP}{m:List (TK×Addr×Ae)},KX l m->ic X.K H l->∀x∈m,(jr X.prog X.w).is s.heap x.1 x.2.1:=by
  intro l m q
  induction q with
  |nil=>intro _ x hx;exact nomatch hx
  |@cons p q ps qs hq t ih=>
   intro hl x hx;rcases Aw.mp hx with e|hx
   ·subst e;have:=hl p Au;rw[hq.1,hq.2.1]at this;exact nz I this
   ·exact ih (λp hp=>hl p (An _ hp)) x hx
 exact all rel hk x hx
theorem Q7(hu:A.units+64 < Dj)(I:Inv X pins σ H s)(e:Rd H a (.dX ps))(hk:ic X.K H ps)(eb:RdD X.K H (.ref b) k.1)(l:bH ps k=ae v)(h:∀w' s',Inv X pins σ H s'->RelV v w'->Q w' s'):
  Av (A9 X.prog X.w) A (getItem (.ref a) (.ref b)) Q E s:=by
 obtain⟨z,hd,xs,rel,dd⟩:=oM I e hk;obtain⟨w',hw,rw'⟩:=RelO.some_of (v:=v) (o:=(atKey xs k).map (·.2)) (by rw[<-l];exact rel.val k);obtain⟨p,hp,hp2⟩:=C3.mp hw;refine wpAny_getItem_heap (knd:=jr X.prog X.w) (show A.in1.units+16 < Dj by simp only[Around.in1_units];omega) (nz I eb) dd hp ?_;rw[hp2];exact h w' _ (I.tok _) rw'
theorem QL(hu:A.units+64 < Dj)(I:Inv X pins σ H s)(e:Rd H a (.dX ps))(hk:ic X.K H ps)(eb:RdD X.K H (.ref b) k.1)(h:∀s',Inv X pins σ H s'->Q (.bool (!(bH ps k).isSome)) s'):
  Av (A9 X.prog X.w) A (Bu .NotIn (.ref b) (.ref a)) Q E s:=by
 obtain⟨z,hd,xs,rel,dd⟩:=oM I e hk;refine wpAny_notIn_heap (knd:=jr X.prog X.w) (show A.in1.units+16 < Dj by simp only[Around.in1_units];omega) (nz I eb) hd dd ?_;have q:=(rel.val k).isSome_eq;rw[En]at q;rw[<-q];exact h _ (I.tok _)
theorem Oy(hu:A.units+64 < Dj)(I:Inv X pins σ H s)(e:H a=ae (.dX ps))(hk:ic X.K H ps)(eb:RdD X.K H (.ref b) k.1)(l:ps.length < Ar)(rv:RelV v r)(h:∀s',Inv X pins σ (upd H a (.dX (cy ps k b v))) s'->Q () s'):
  Av (A9 X.prog X.w) A (setItem (.ref a) (.ref b) r) Q E s:=by
 obtain⟨z,hd,xs,rel,dd⟩:=oM I (.inl e) hk;have hz:xs.length<=Ar:=by rw[<-D3 rel];exact z
 have hl:(cy ps k b v).length<=Ar:=by have:=wY ps k b v;omega
 refine wpAny_setItem_heap (knd:=jr X.prog X.w) (hsz:=hz) (show A.in1.units+16 < Dj by simp only[Around.in1_units];omega) (nz I eb) dd λh' dd' hs=>h _ ?_;obtain⟨q,es,ep,hq,h2,h3,h4,_,h5⟩:=dd';exact mH I (by rw[e];exact Ec) hs ⟨q,hq⟩ ⟨hl,hd,_,rel.put k rv,q,es,ep,hq,h2,h3,h4,h5⟩
end
def XGet(K:Af)(H:Hp)(a:Addr)(y:V)(r:Option V):Prop:=∃ps k b,Rd H a (.dX ps)/\ic K H ps/\y=.ref b/\RdD K H (.ref b) k.1/\r=bH ps k
def pC(K:Af)(H:Hp)(a:Addr)(y v:V)(H':Hp):Prop:=∃ps k b,H a=ae (.dX ps)/\ic K H ps/\y=.ref b/\RdD K H (.ref b) k.1/\ps.length < Ar/\H'=upd H a (.dX (cy ps k b v))
def AH(K:Af)(H:Hp)(a:Addr):Prop:=∃ps,Rd H a (.dX ps)/\ic K H ps
def ym(K:Af)(td ty:TE):TE:=λσ H Q=>td σ H λx H1=>ty σ H1 λy H2=>∃a v,x=.ref a/\XGet K H2 a y (ae v)/\Q v H2
def oQ(K:Af)(ty td:TE):TE:=λσ H Q=>ty σ H λy H1=>td σ H1 λx H2=>∃a o,x=.ref a/\XGet K H2 a y o/\Q (.bl (!o.isSome)) H2
def vU(K:Af)(td ty tv:TE):TS:=λD σ H=>tv σ H λv H1=>td σ H1 λx H2=>ty σ H2 λy H3=>∃a H4,x=.ref a/\pC K H3 a y v H4/\D.nx σ H4
section
variable{X:Cx}{pins:List (Addr×Obj)}{σ:St}{H:Hp}{s:Ai}{a:Addr}
theorem OG(I:Inv X pins σ H s)(h:AH X.K H a):s.TypeIs (.ref a) "dict":=by
 obtain⟨ps,e,hk⟩:=h;obtain⟨_,_,xs,_,dd⟩:=oM I e hk;exact dd.typeIs
theorem XGet.isX(g:XGet X.K H a y r):AH X.K H a:=let⟨ps,_,_,e,hk,_⟩:=g;⟨ps,e,hk⟩
end
section
variable{X:Cx}{o i e f value:Expr}{pos pos' tpos apos cpos:Pos}{td ty tv tx:TE}
theorem TC(hu:X.A.units+64 < Dj)(ho:PE X o td)(hi:PE X i ty)(hs:ir i):PE X (.Subscript o i pos) (ym X.K td ty):=by
 intro pins s σ H Q I h;refine GX PySem.F.slot_dict_getitem.lookup hs (aG (ho pins s σ H _ I h) λu s1 ⟨x,H1,I1,rx,q1⟩=>aG (hi pins s1 σ H1 _ I1 q1) λiv s2 ⟨y,H2,I2,ry,a,v,ex,g,q2⟩=>?_);subst ex;obtain rfl:u=As a:=rx;have ty:=OG I2 g.isX;obtain⟨ps,k,b,e,hk,rfl,eb,l⟩:=g;obtain rfl:iv=As b:=ry;exact⟨ty,Q7 hu I2 e hk eb l.symm λw' s3 I3 rw'=>⟨v,H2,I3,rw',q2⟩⟩
theorem RV(hu:X.A.units+64 < Dj)(hi:PE X i ty)(ho:PE X o td):PC X .NotIn i o (oQ X.K ty td):=by
 intro pins s σ H Q I h;refine aG (hi pins s σ H _ I h) λiv s1 ⟨y,H1,I1,ry,q1⟩=>aG (ho pins s1 σ H1 _ I1 q1) λu s2 ⟨x,H2,I2,rx,a,ov,ex,g,q2⟩=>?_;subst ex;obtain rfl:u=As a:=rx;obtain⟨ps,k,b,e,hk,rfl,eb,rfl⟩:=g;obtain rfl:iv=As b:=ry;exact QL hu I2 e hk eb λs3 I3=>⟨.bl _,H2,I3,rfl,q2⟩
theorem QX(hu:X.A.units+64 < Dj)(ho:PE X o td)(hi:PE X i ty)(hv:PE X value tv)(hs:Dp value (ae (.Subscript o i pos')) pos.line X.env=pure ai):
  PS X (.Assign [.Subscript o i pos'] value pos) (vU X.K td ty tv):=by
 intro pins s σ H D I h;refine wpAny_Assign_Subscript (aG (hv pins s σ H _ I h) λr s1 ⟨v,H1,I1,rv,q1⟩=>aG (ho pins s1 σ H1 _ I1 q1) λu s2 ⟨x,H2,I2,rx,q2⟩=>aG (hi pins s2 σ H2 _ I2 q2) λiv s3 ⟨y,H3,I3,ry,a,H4,ex,g,q3⟩=>?_) hs;subst ex;obtain rfl:u=As a:=rx;obtain⟨ps,k,b,e,hk,rfl,eb,l,rfl⟩:=g;obtain rfl:iv=As b:=ry;exact Oy hu I3 e hk eb l rv λs4 I4=>⟨σ,_,I4,q3⟩
end
end L2
namespace DL
open PySem L2 Nb
def aO(m:List (TK×Ab))(k:TK):Option Ab:=(m.find? λq=>decide (q.1=k)).map (·.2)
def jy(m:List (TK×Ab))(k:TK)(d:Ab):List (TK×Ab):=if (aO m k).isSome=ah then m.map (λq=>if q.1=k then(q.1,d)else q)else m++[(k,d)]
section
variable{H:Hp}{B:Addr->Prop}{l:List (TK×Addr×V)}{m:List (TK×Ab)}
theorem RdY.len(h:RdY H B l m):l.length=m.length:=D3 h
theorem RdY.keys(h:RdY H B l m):ic K H l:=by
 induction h with
 |nil=>exact λp hp=>nomatch hp
 |@cons p q ps qs hq t ih=>
  intro x hx;rcases Aw.mp hx with rfl|hx
  ·exact hq.2.1.rd
  ·exact ih x hx
theorem RdY.val(h:RdY H B l m)(k):(bH l k=af/\aO m k=af)\/∃v d,bH l k=ae v/\aO m k=ae d/\RdX H B v d:=by
 induction h with
 |nil=>exact .inl ⟨rfl,rfl⟩
 |@cons p q ps qs hq t ih=>
  by_cases e:p.1=k
  ·have e':q.1=k:=hq.1.symm.trans e;exact .inr ⟨p.2.2,q.2,by simp[bH,Bc,e],by simp[aO,Bc,e'],hq.2.2⟩
  ·have e':¬q.1=k:=λz=>e (hq.1.trans z);have c1:bH (p::ps) k=bH ps k:=by simp[bH,Bc,e]
   have c2:aO (q::qs) k=aO qs k:=by simp[aO,Bc,e']
   rw[c1,c2];exact ih
theorem RdY.isSome(h:RdY H B l m)(k):(bH l k).isSome=(aO m k).isSome:=by
 rcases h.val k with⟨e1,e2⟩|⟨v,d,e1,e2,_⟩<;>rw[e1,e2]<;>rfl
theorem RdY.put(h:RdY H B l m)(rb:RdX H B (.ref b) k.1)(r:RdX H B v d):RdY H B (cy l k b v) (jy m k d):=by
 have e:=h.isSome k;have rep:RdY H B (l.map λp=>if p.1=k then(p.1,p.2.1,v)else p) (m.map λq=>if q.1=k then(q.1,d)else q):=by
  clear e
  induction h with
  |nil=>exact .nil
  |@cons p q ps qs hq t ih=>
   rw[Bg,Bg];refine .cons ?_ ih;by_cases e:p.1=k
   ·rw[if_pos e,if_pos (hq.1.symm.trans e)];exact⟨hq.1,hq.2.1,r⟩
   ·rw[if_neg e,if_neg λz=>e (hq.1.trans z)];exact hq
 unfold cy jy;rw[e];by_cases z:(aO m k).isSome=ah
 ·rw[if_pos z,if_pos z];exact rep
 ·rw[if_neg z,if_neg z];exact Paired.snoc h ⟨rfl,rb,r⟩
end
section
variable{X:Cx}{a b c e o i f:Expr}{ta tb te td ty tx:TE}{wa wb we wd' wy wx:DT}{pos p:Pos}{K:Af}
def eu(i:Nat):DT:=λδ n Q=>match δ[i]? with
 |some (ae (.odx kvs))=>Q (.dx kvs) n
 |some (ae (.w (.ob (.x kvs))))=>Q (.dx kvs) n
 |some (ae (.w x))=>Q x n
 |_=>False
theorem p6(i)(hN:X.N[i]?=ae x:=by rfl)(hv:fD X.env.scope x:=by first|exact By rfl|exact Ca (By rfl)|exact Ca (Ca rfl))(hd:(x==("__debug__":Str))=ai:=by decide)
  (hcd:(x==("__classdict__":Str))=ai:=by decide):DE X (.Name x p) (az i) (eu i):=⟨gC hN hv hd hcd,λC H B σ δ n Q Q' R h k=>by
 unfold eu at h
 split at h
 ·rename_i kvs e;obtain⟨v,h1,a,l,rfl,g2,g3,g4,g5,g6⟩:=R.sl i _ e;exact⟨_,h1,k _ (.dx kvs) H n R (Kp.refl _ _) ⟨a,l,rfl,g2,λz=>R.t0 (z▸g4),g6⟩ h⟩
 ·rename_i kvs e;obtain⟨v,h1,⟨a,l,rfl,g2,g3,g6⟩,_⟩:=R.sl i _ e;exact⟨_,h1,k _ (.dx kvs) H n R (Kp.refl _ _) ⟨a,l,rfl,g2,λz=>g3 (z▸R.bt),g6⟩ h⟩
 ·rename_i x _ e;obtain⟨v,h1,h2⟩:=R.sl i _ e;exact⟨v,h1,k v x H n R (Kp.refl _ _) h2.1 h⟩
 ·exact h.elim⟩
def pj(d:Ab)(k:TK):Prop:=d=k.1/\∃ds,d=.tuple ds
theorem nS(r:RdX H B u d)(h:pj d k):∃b,u=.ref b/\RdX H B (.ref b) k.1:=by
 obtain⟨rfl,ds,e⟩:=h;rw[e]at r;cases r with
 |tup h1 h2 h3 h4=>exact⟨_,rfl,by rw[e];exact .tup h1 h2 h3 h4⟩
def iw(x:Wv)(kvs:List (TK×Ab)):Prop:=x=.dx kvs\/x=.ob (.y kvs)
theorem WRel.rdX(ht:B t)(h:iw x kvs)(r:WRel H B t v x):∃a l,v=.ref a/\Rd H a (.dX l)/\a≠t/\RdY H B l kvs:=by
 rcases h with rfl|rfl
 ·obtain⟨a,l,e,g1,g2,g3⟩:=r;exact⟨a,l,e,.inl g1,g2,g3⟩
 ·obtain⟨a,o,l,e,g1,g2,g3⟩:=(show ORel H B v (.y kvs)from r);exact⟨a,l,e,.inr ⟨o,g1⟩,λz=>g2 (z▸ht),g3⟩
def nv:Wv->Wv->Int->DQ->Prop:=λx y n Q=>∃kvs d k v,iw x kvs/\y=.d d/\pj d k/\aO kvs k=ae v/\Q (.d v) n
theorem RD(hu:X.A.units+64 < Dj)(ho:DE X o td wd')(hi:DE X i ty wy)(hK:X.K=K:=by rfl)(hs:ir i:=by exact λ_ _=>rfl):DE X (.Subscript o i pos) (ym K td ty) (w2 wd' wy nv):=by
 subst hK;exact⟨TC hu ho.pe hi.pe hs,λC H B σ δ n Q Q' R h k=>
 ho.sd C H B σ δ n _ _ R h λv x H1 n1 R1 k1 r1 q1=>hi.sd C H1 B σ δ n1 _ _ R1 q1 λu y H2 n2 R2 k2 r2 q2=>by
  have r1':=r1.kp k2 R1.bt;obtain⟨kvs,d,key,w,hx,rfl,hk,hv,q⟩:=q2;obtain⟨a,l,rfl,g1,g2,g3⟩:=WRel.rdX R2.bt hx r1';obtain⟨b,rfl,rb⟩:=nS (show RdX H2 B u d from r2) hk;rcases g3.val key with⟨e1,e2⟩|⟨v,d',e1,e2,e3⟩
  ·rw[e2]at hv;cases hv
  ·rw[e2]at hv;cases hv;exact⟨a,v,rfl,⟨l,key,b,g1,g3.keys,rfl,rb.rd,e1.symm⟩,k v (.d _) H2 n2 R2 (k1.trans k2) e3 q⟩⟩
def mS(neg:Bool):Wv->Wv->Int->DQ->Prop:=λy x n Q=>∃kvs d k,iw x kvs/\y=.d d/\pj d k/\Q (.d (.bool (if neg then !(aO kvs k).isSome else(aO kvs k).isSome))) n
theorem NV(hi:DE X i ty wy)(ho:DE X o td wd'):du (oQ K ty td) (w2 wy wd' (mS ah)):=λC H B σ δ n Q Q' R h k=>
 hi.sd C H B σ δ n _ _ R h λv x H1 n1 R1 k1 r1 q1=>ho.sd C H1 B σ δ n1 _ _ R1 q1 λu y H2 n2 R2 k2 r2 q2=>by
  have r1':=r1.kp k2 R1.bt;obtain⟨kvs,d,key,hx,rfl,hk,q⟩:=q2;obtain⟨a,l,rfl,g1,g2,g3⟩:=WRel.rdX R2.bt hx r2;obtain⟨b,rfl,rb⟩:=nS (show RdX H2 B v d from r1') hk;refine⟨a,bH l key,rfl,⟨l,key,b,g1,g3.keys,rfl,rb.rd,rfl⟩,k _ _ H2 n2 R2 (k1.trans k2) (wd (.bl _)) ?_⟩;rw[g3.isSome key];exact q
theorem CO(hu:X.A.units+64 < Dj)(hi:DE X i ty wy)(ho:DE X o td wd')(hK:X.K=K:=by rfl)(hm:Ci .NotIn o=ai:=by with_unfolding_all rfl):DC X (.Compare i [.NotIn] [o] pos) (fe (oQ K ty td)) (cT (w2 wy wd' (mS ah))):=by
 subst hK;exact⟨Hz (RV hu hi.pe ho.pe) hm,k9 (NV hi ho)⟩
def Ly(i:Nat)(wy wv:DT):aF:=λδ n K=>wv δ n λv n1=>∃kvs,δ[i]?=ae (ae (.odx kvs))/\wy δ n1 λy n2=>∃k d e,v=.d d/\y=.d e/\pj e k/\kvs.length < 2000/\K.nx (δ.set i (ae (.odx (jy kvs k d)))) n2
theorem AJ{i:Nat}{xp sp:Pos}(hu:X.A.units+64 < Dj)(hN:X.N[i]?=ae x)(hj:DE X j tj wj)(he:DE X e te we)(hK:X.K=K:=by rfl)(hv:fD X.env.scope x:=by first|exact By rfl|exact Ca (By rfl)|exact Ca (Ca rfl))(hd:(x==("__debug__":Str))=ai:=by decide)
  (hcd:(x==("__classdict__":Str))=ai:=by decide) (hs:Dp e (ae (.Subscript (.Name x xp) j sp)) pos.line X.env=pure ai:=by rfl):
  DS X (.Assign [.Subscript (.Name x xp) j sp] e pos) (vU K (az i) tj te) (Ly i wj we):=by
 subst hK;exact⟨QX hu (gC hN hv hd hcd) hj.pe he.pe hs,λC H B σ δ n K D R q E=>
  he.sd C H B σ δ n _ _ R q λu y H1 n1 R1 k1 r1 q1=>by
   obtain⟨kvs,ei,q1⟩:=q1;obtain⟨v,hv,a,l,rfl,e2,e3,e4,e5,e6⟩:=R1.sl i _ ei;refine⟨_,hv,hj.sd C H1 B σ δ n1 _ _ R1 q1 λw z H2 n2 R2 k2 r2 q2=>?_⟩;obtain⟨key,d,ek,rfl,rfl,hk,hl0,q2⟩:=q2;have hat:a≠C.t:=λz=>R.t0 (z▸e4);have e2':=k2 _ _ e2 hat;have r1':RdX H2 B u d:=RdX.kp k2 R1.bt r1;have e6':RdY H2 B l kvs:=e6.move λb o e n=>⟨k2 b o e λz=>n (z▸R1.bt),n⟩;have hl:l.length < 2000:=by rw[e6'.len];exact hl0
   obtain⟨b,rfl,rb⟩:=nS (show RdX H2 B w ek from r2) hk;refine⟨a,_,rfl,⟨l,key,b,e2',e6'.keys,rfl,rb.rd,Bd hl (vQ (Am _)),rfl⟩,?_⟩;refine E.nx _ _ _ _ _ (R2.mutOwn ei rfl hv e3 e4 ?_ rfl) q2;refine⟨a,_,rfl,aR,e3,e4,?_,?_⟩
   ·have:=wY l key b u;omega
   ·exact(e6'.put rb r1').move λb o e n=>⟨by rw[aD λ(z:b=a)=>n (z▸e3)];exact e,n⟩⟩
end
end DL
namespace Nb
open PySem L2 DL
inductive Fe where
 |any|word|num|isv (d:Ab)|bind (k:Str)|as (k:Str)|nx (k:Str)
def Fe.hd:Fe->Str
 |.any=>"any"
 |.word=>"word"
 |.num=>"number"
 |.isv _=>"is"
 |.bind _=>"bind"
 |.as _=>"as"
 |.nx _=>"next"
def Fe.tl:Fe->List Ab
 |.any=>[]
 |.word=>[]
 |.num=>[]
 |.isv d=>[d]
 |.bind k=>[.str k]
 |.as k=>[.str k]
 |.nx k=>[.str k]
def Fe.d(f:Fe):Ab:=.tuple (.str f.hd::f.tl)
abbrev mL(k:Str):Prop:=kG k
def Fe.ok:Fe->Prop
 |.isv d=>bS d=ah
 |.bind k=>mL k
 |.as k=>mL k
 |.nx k=>mL k
 |_=>True
def Fe.bd:Fe->Option Str
 |.bind k=>ae k
 |_=>af
def Fe.us:Fe->Option Str
 |.as k=>ae k
 |.nx k=>ae k
 |_=>af
def fu(fs:List Fe):List Str:=fs.filterMap Fe.bd
def Fe.pt:Fe->Bool
 |.nx _=>ai
 |_=>ah
def Fe.tm:Fe->Bool
 |.isv _=>ah
 |.as _=>ah
 |.nx _=>ah
 |_=>ai
def Fe.te:Fe->Bool
 |.isv _=>ah
 |.as _=>ah
 |_=>ai
def fO(fs:List Fe):Prop:=fs.length<=4/\∀f∈fs,f.ok
def rF:List Str->List Fe->Prop
 |_,[]=>True
 |ks,f::r=>(∀k,f.us=ae k->k∈ks)/\rF (ks++f.bd.toList) r
inductive Ac where
 |lay (fs:List Fe) (age:Ab)|take (fs:List Fe)|read (fs:List Fe)|look (fs:List Fe) (b:Nat)|same (f g:Fe) (b:Nat)|go (b:Nat)
def gZ(fs:List Fe):Ab:=.tuple (fs.map Fe.d)
def Ac.d:Ac->Ab
 |.lay fs age=>.tuple [.str "lay",gZ fs,age]
 |.take fs=>.tuple [.str "take",gZ fs]
 |.read fs=>.tuple [.str "read",gZ fs]
 |.look fs b=>.tuple [.str "look",gZ fs,.int b]
 |.same f g b=>.tuple [.str "same",f.d,g.d,.int b]
 |.go b=>.tuple [.str "go",.int b]
def Ac.bs:Ac->List Str
 |.take fs=>fu fs
 |.read fs=>fu fs
 |.look fs _=>fu fs
 |_=>[]
def Ac.fs:Ac->List Fe
 |.lay fs _=>fs
 |.take fs=>fs
 |.read fs=>fs
 |.look fs _=>fs
 |.same f g _=>[f,g]
 |.go _=>[]
def Ac.to:Ac->Option Nat
 |.look _ b=>ae b
 |.same _ _ b=>ae b
 |.go b=>ae b
 |_=>af
def Ac.right(wants:List (List Str))(ks:List Str)(a:Ac):Prop:=rF ks a.fs/\∀b,a.to=ae b->∃w,wants[b]?=ae w/\∀k∈w,k∈ks
def jm(d:Ab):Prop:=d=.none\/∃i:Int,d=.int i/\1<=i/\i<=20
def gq(fs:List Fe):Prop:=1<=fs.length/\∀f∈fs,f.pt=ah
def Ac.pat:Ac->Prop
 |.take fs=>gq fs
 |.read fs=>gq fs
 |.look fs _=>gq fs
 |.lay fs age=>(∀f∈fs,f.tm=ah)/\jm age/\1<=fs.length
 |.same f g _=>f.te=ah/\g.te=ah
 |.go _=>True
def kz(a:Ac):Prop:=fO a.fs/\a.pat
abbrev Bl:=List Str×List Ac
def fE(b:Bl):Ab:=.tuple [nE b.1,.tuple (b.2.map Ac.d)]
def h9(bs:List Bl):Ab:=.tuple (bs.map fE)
def kn(w:List Str)(as:List Ac)(p:Nat):List Str:=w++(as.take p).flatMap Ac.bs
def qM(b:Bl):Prop:=b.1.length<=4/\(∀k∈b.1,mL k)/\b.2.length<=8/\(∀a∈b.2,kz a)/\b.1.Nodup/\pB b.1
def GH(wants:List (List Str))(b:Bl):Prop:=∀(p:Nat)(a:Ac),b.2[p]?=ae a->a.right wants (kn b.1 b.2 p)
def BK(bs:List Bl):Prop:=1<=bs.length/\bs.length<=6/\∀b∈bs,qM b/\GH (bs.map (·.1)) b
abbrev Hn:=Nat×Nat×Nm
def bQ(h:Hn):Ab:=.tuple [.int h.1,.int h.2.1,cx h.2.2]
abbrev Nt:=List Ab×Ab
def dF(q:Nt):Ab:=.tuple [.tuple q.1,q.2]
def dq(ns:List Nt):Ab:=.tuple (ns.map dF)
def bg(hs:List Hn)(ns:List Nt):Ab:=.tuple [.tuple (hs.map bQ),dq ns]
abbrev Pg:=List (List Bl)
def aZ(ps:Pg):Ab:=.tuple (ps.map h9)
def cV(ps:Pg):Prop:=ps.length<=5/\∀P∈ps,BK P
def oj(q:Nt):Prop:=vB q.1/\jm q.2
def dI(m:Nat)(ns:List Nt):Prop:=ns.length<=m/\∀q∈ns,oj q
structure okHn(b:Bl)(h:Hn):Prop where
 pl:h.2.1<=b.2.length
 nd:(h.2.2.map (·.1)).Nodup
 ok:∀p∈h.2.2,fh p
 up:j8 h.2.2
 mem:∀k,k∈h.2.2.map (·.1)↔k∈kn b.1 b.2 h.2.1
 ln:h.2.2.length<=40
theorem okHn.n(H:okHn b h):okN h.2.2:=⟨H.ln,H.nd,H.ok⟩
def okHs(ps:Pg)(hs:List Hn):Prop:=hs.length=ps.length/\∀(i:Nat)(P:List Bl),ps[i]?=ae P->∃(h:Hn)(b:Bl),hs[i]?=ae h/\P[h.1]?=ae b/\okHn b h
def aU(ps:Pg)(hs:List Hn)(h:Nat):Option Ac:=ps[h]?.bind λP=>hs[h]?.bind λx=>P[x.1]?.bind λb=>b.2[x.2.1]?
def m7:Option Ac->Ab
 |none=>.none
 |some a=>a.d
def Fe.fd:Fe->Fd
 |.any=>.any
 |.word=>.word
 |.num=>.number
 |.isv d=>.is d
 |.bind k=>.bind k
 |.as k=>.as k
 |.nx _=>.any
def Ac.pf:Ac->Option (List Fd)
 |.take fs=>ae (fs.map Fe.fd)
 |.read fs=>ae (fs.map Fe.fd)
 |.look fs _=>ae (fs.map Fe.fd)
 |_=>af
def Ac.wt:Ac->Bool
 |.take _=>ah
 |.read _=>ah
 |_=>ai
def bO(fs:List Fd)(nm:Nm)(ns:List Nt):Option Nat:=ns.findIdx? λq=>cn fs q.1 nm
def wA(hs:List Hn)(h:Nat):Nm:=(hs[h]?.map (·.2.2)).getD []
def fZ(ps:Pg)(hs:List Hn)(ns:List Nt)(h:Nat):Option Nat:=(aU ps hs h).bind λa=>a.pf.bind λfs=>bO fs (wA hs h) ns
def fw(ps:Pg)(hs:List Hn)(ns:List Nt)(h:Nat):Bool:=((aU ps hs h).map λa=>!a.wt || (fZ ps hs ns h).isSome).getD ai
def fL:Option Nat->Ab
 |none=>.none
 |some i=>.int i
def dA(ns:List Nt)(i:Nat):List Ab:=(ns[i]?.map (·.1)).getD []
def cQ(ps:Pg)(hs:List Hn)(ns:List Nt):Prop:=cV ps/\okHs ps hs/\dI 100 ns
def pE:Ab->Ab
 |.int i=>if i=99 then .int 0 else .int (i+1)
 |d=>d
def jK(nm:Nm)(k:Str):Ab:=(look nm k).getD .none
def gY(nm:Nm):Fe->Ab
 |.isv d=>d
 |.as k=>jK nm k
 |.nx k=>pE (jK nm k)
 |_=>.none
def fX(fs:List Fe)(nm:Nm):List Ab:=fs.map (gY nm)
def o9(P:List Bl)(b:Nat):List Str:=(P[b]?.map (·.1)).getD []
def bB(P:List Bl)(b:Nat)(nm:Nm):Hn:=(b,0,nm.filter λp=>decide (p.1∈o9 P b))
def b8(x:Hn)(nm:Nm):Hn:=(x.1,x.2.1+1,nm)
def aX(hs:List Hn)(h:Nat)(x:Hn):List Hn:=hs.take h++x::hs.drop (h+1)
def jD:Ab->Ab
 |.int i=>.int (i-1)
 |d=>d
def ik:Ab->Bool
 |.int i=>decide (i=1)
 |_=>ai
def gp(ns:List Nt):List Nt:=(ns.filter λq=>!ik q.2).map λq=>(q.1,jD q.2)
def de(ns:List Nt)(i:Nat):List Nt:=ns.take i++ns.drop (i+1)
def cm(fs:List Fe)(x:Hn)(ns:List Nt):Option (Nat×Hn):=(bO (fs.map Fe.fd) x.2.2 ns).map λi=>(i,b8 x (b9 (e7 (fs.map Fe.fd) (dA ns i) x.2.2)))
def nU(P:List Bl)(x:Hn)(ns:List Nt):Ac->Option (Hn×List Nt)
 |.lay fs age=>ae (b8 x x.2.2,ns++[(fX fs x.2.2,age)])
 |.go b=>ae (bB P b x.2.2,ns)
 |.same f g b=>ae (if fq (gY x.2.2 f) (gY x.2.2 g)=ah then b8 x x.2.2 else bB P b x.2.2,ns)
 |.take fs=>(cm fs x ns).map λq=>(q.2,de ns q.1)
 |.read fs=>(cm fs x ns).map λq=>(q.2,ns)
 |.look fs b=>match cm fs x ns with
  |some q=>ae (q.2,ns)
  |none=>ae (bB P b x.2.2,ns)
def dJ(ps:Pg)(hs:List Hn)(ns:List Nt)(h:Nat):Option (List Hn×List Nt):=ps[h]?.bind λP=>hs[h]?.bind λx=>(aU ps hs h).bind λa=>(nU P x ns a).map λr=>(aX hs h r.1,r.2)
def cE(ps:Pg)(hs:List Hn)(ns:List Nt)(m:Nat):Option (List Hn×List Nt):=if m=ps.length then ae (hs,gp ns)else dJ ps hs ns m
def iK:Option (List Hn×List Nt)->Ab
 |none=>.none
 |some r=>bg r.1 r.2
def eF(nm:Nm)(f:Fe):Prop:=f.ok/\f.tm=ah/\∀k,f.us=ae k->∃v,look nm k=ae v/\bS v=ah
def xx:aL:=λws n Q=>∃i m:Int,ws=[.d (.int i),.d (.int m)]/\0<=i/\i<=m/\Q (.d (.bool ah)) n
def sZ:aL:=λws n Q=>∃v,ws=[.d v]/\bS v=ah/\Q (.d (pE v)) n
def m6:aL:=λws n Q=>∃(f:Fe)(nm:Nm),ws=[.d f.d,.dk (bo nm)]/\eF nm f/\Q (.d (gY nm f)) n
def sW:aL:=λws n Q=>∃(fs:List Fe)(nm:Nm),ws=[.d (gZ fs),.d (cx nm)]/\fs.length<=4/\(∀f∈fs,eF nm f)/\okN nm/\Q (.d (.tuple (fX fs nm))) n
def tJ:aL:=λws n Q=>∃(f g:Fe)(b:Nat)(nm:Nm),ws=[.d (Ac.same f g b).d,.d (cx nm)]/\eF nm f/\eF nm g/\f.te=ah/\g.te=ah/\okN nm/\Q (.d (.bool (fq (gY nm f) (gY nm g)))) n
def mP:aL:=λws n Q=>∃(x:Hn)(nm:Nm),ws=[.d (bQ x),.d (cx nm)]/\Q (.d (bQ (b8 x nm))) n
def px:aL:=λws n Q=>∃(P:List Bl)(b:Nat)(nm:Nm)(w:Bl),ws=[.d (h9 P),.d (.int b),.d (cx nm)]/\P[b]?=ae w/\w.1.length<=4/\Q (.d (bQ (bB P b nm))) n
def jh:aL:=λws n Q=>∃(hs:List Hn)(h:Nat)(x:Hn),ws=[.d (.tuple (hs.map bQ)),.d (.int h),.d (bQ x)]/\h < hs.length/\hs.length<=5/\Q (.d (.tuple ((aX hs h x).map bQ))) n
def n6:aL:=λws n Q=>∃(ps:Pg)(hs:List Hn)(ns:List Nt)(h:Nat)(a:Ac),ws=[.d (aZ ps),.d (bg hs ns),.d (.int h),.d a.d]/\cQ ps hs ns/\h < ps.length/\aU ps hs h=ae a/\a.pf.isSome=ah/\Q (.d (iK (dJ ps hs ns h))) n
def uC:aL:=λws n Q=>∃(ps:Pg)(hs:List Hn)(ns:List Nt)(h:Nat),ws=[.d (aZ ps),.d (bg hs ns),.d (.int h)]/\cQ ps hs ns/\h < ps.length/\Q (.d (iK (dJ ps hs ns h))) n
def xQ:aL:=λws n Q=>∃q:Nt,ws=[.d (dF q)]/\jm q.2/\Q (.d (dF (q.1,jD q.2))) n
def tW:aL:=λws n Q=>∃(hs:List Hn)(ns:List Nt),ws=[.d (bg hs ns)]/\(∀q∈ns,jm q.2)/\Q (.d (bg hs (gp ns))) n
def bq:aL:=λws n Q=>∃(ps:Pg)(hs:List Hn)(ns:List Nt)(m:Nat),ws=[.d (aZ ps),.d (bg hs ns),.d (.int m)]/\cQ ps hs ns/\m<=ps.length/\Q (.d (iK (cE ps hs ns m))) n
def kg:aL:=λws n Q=>∃(ps:Pg)(hs:List Hn)(ns:List Nt)(h:Nat),ws=[.d (aZ ps),.d (bg hs ns),.d (.int h)]/\okHs ps hs/\h < ps.length/\Q (.d (m7 (aU ps hs h))) n
def rq:aL:=λws n Q=>∃(ps:Pg)(hs:List Hn)(ns:List Nt)(h:Nat),ws=[.d (aZ ps),.d (bg hs ns),.d (.int h)]/\cQ ps hs ns/\h < ps.length/\Q (.d (fL (fZ ps hs ns h))) n
def gH(ps:Pg)(hs:List Hn)(ns:List Nt):List Ab:=((A5 ps.length).filter (fw ps hs ns)).map λh=>.int (h:Nat)
def w6:aL:=λws n Q=>∃i:Int,ws=[.d (.int i)]/\Q (.d (.bool ah)) n
structure Sd where
 hs:List Hn
 ns:List Nt
def Sd.d(s:Sd):Ab:=bg s.hs s.ns
def jt(ps:Pg)(s:Sd):Prop:=okHs ps s.hs/\dI 100 s.ns
inductive Bs where
 |notes (fs:List Fd) (k:Nat)|at(h b p:Nat)|ended (h:Nat)
def Bs.d:Bs->Ab
 |.notes fs k=>.tuple [.str "notes",cG fs,.int k]
 |.at h b p=>.tuple [.str "at",.int h,.int b,.int p]
 |.ended h=>.tuple [.str "ended",.int h]
def Bs.ok(ps:Pg):Bs->Prop
 |.notes fs _=>lQ fs
 |.at h b p=>h < ps.length/\b<=100/\p<=100
 |.ended h=>h < ps.length
def holds(fs:List Fd)(row:List Ab):Bool:=cn fs row []
def many(fs:List Fd)(ns:List Nt):Nat:=(ns.filter λq=>holds fs q.1).length
def eO(ps:Pg)(s:Sd)(h:Nat):Bool:=match s.hs[h]?,ps[h]? with
 |some x,ae P=>match P[x.1]? with
  |some b=>decide (x.2.1=b.2.length)
  |none=>ai
 |_,_=>ai
def Bs.see(ps:Pg)(s:Sd):Bs->Bool
 |.notes fs k=>decide (k<=many fs s.ns)
 |.at h b p=>match s.hs[h]? with
  |some x=>decide (x.1=b)&&decide (x.2.1=p)
  |none=>ai
 |.ended h=>eO ps s h
def Sg:Nat->Type
 |0=>Bs
 |t+1=>Bs ⊕ ((Bool×List (Sg t)) ⊕ Sg t)
def lq(k:Bool):Str:=if k then "all" else "some"
def Sg.d:(t:Nat)->Sg t->Ab
 |0,b=>Bs.d b
 |_+1,.inl b=>Bs.d b
 |t+1,.inr (.inl q)=>.tuple [.str (lq q.1),.tuple (q.2.map (Sg.d t))]
 |t+1,.inr (.inr s)=>.tuple [.str "not",Sg.d t s]
def Sg.ok(ps:Pg):(t:Nat)->Sg t->Prop
 |0,b=>Bs.ok ps b
 |_+1,.inl b=>Bs.ok ps b
 |t+1,.inr (.inl q)=>∀s∈q.2,Sg.ok ps t s
 |t+1,.inr (.inr s)=>Sg.ok ps t s
def Sg.see(ps:Pg)(st:Sd):(t:Nat)->Sg t->Bool
 |0,b=>Bs.see ps st b
 |_+1,.inl b=>Bs.see ps st b
 |t+1,.inr (.inl q)=>if q.1 then q.2.all (Sg.see ps st t)else q.2.any (Sg.see ps st t)
 |t+1,.inr (.inr s)=>!Sg.see ps st t s
def Sg.subs:(t:Nat)->Sg t->List Ab
 |0,_=>[]
 |_+1,.inl _=>[]
 |t+1,.inr (.inl q)=>q.2.map (Sg.d t)
 |t+1,.inr (.inr s)=>[Sg.d t s]
def Sg.bs:(t:Nat)->Bs->Sg t
 |0,b=>b
 |_+1,b=>.inl b
def qK:aL:=λws n Q=>∃(t:Nat)(g:Sg t),ws=[.d (Sg.d t g)]/\Q (.d (.tuple (Sg.subs t g))) n
def xX:aL:=λws n Q=>∃(fs:List Fd)(ns:List Nt),ws=[.d (cG fs),.d (dq ns)]/\lQ fs/\dI 100 ns/\Q (.d (.int (many fs ns))) n
def cJ:Nat->aL
 |0=>λ_ _ _=>False
 |t+1=>λws n Q=>∃(ps:Pg)(s:Sd)(g:Sg t),ws=[.d (aZ ps),.d s.d,.d (Sg.d t g)]/\cV ps/\jt ps s/\Sg.ok ps t g/\Q (.d (.bool (Sg.see ps s t g))) n
def stl:Ac:=.same (.isv (.int 0)) (.isv (.int 0)) 0
def fb(b:Nat):Bl:=([],Ay 7 stl++[.go (b+1)])
def lb(n:Nat):Bl:=([],Ay n stl)
def bj(m:Nat):List Bl:=(A5 ((m-1) / 8)).map fb++[lb (m-8*((m-1) / 8))]
def bk(m p:Nat):Nat:=min (p / 8) ((m-1) / 8)
def hk(m p:Nat):Hn:=(bk m p,p-8*bk m p,[])
def dm(a:Nat):List Nt:=if a=0 then[]else[([.str "a",.int 1],.int (a:Nat))]
def Le2:List Nat->List Nat->Prop
 |[],[]=>True
 |p::ps,m::ms=>p<=m/\Le2 ps ms
 |_,_=>False
theorem Le2.len:∀{ps ms:List Nat},Le2 ps ms->ps.length=ms.length
 |[],[],_=>rfl
 |_::_,_::_,h=>congrArg (·+1) h.2.len
theorem Le2.get:∀{ps ms:List Nat}{i m:Nat},Le2 ps ms->ms[i]?=ae m->∃p,ps[i]?=ae p/\p<=m
 |[],[],_,_,_,e=>by simp at e
 |p::ps,m'::ms,0,m,h,e=>by simp at e;subst e;exact⟨p,rfl,h.1⟩
 |p::ps,m'::ms,i+1,m,h,e=>by simp at e;simpa using h.2.get e
theorem Le2.set:∀{ps ms:List Nat}{i m q:Nat},Le2 ps ms->ms[i]?=ae m->q<=m->Le2 (ps.set i q) ms
 |[],[],_,_,_,_,e,_=>by simp at e
 |p::ps,m'::ms,0,m,q,h,e,l=>by simp at e;subst e;exact⟨l,h.2⟩
 |p::ps,m'::ms,i+1,m,q,h,e,l=>by simp at e;exact⟨h.1,h.2.set e l⟩
theorem Le2.self:∀ms:List Nat,Le2 ms ms
 |[]=>trivial
 |_::ms=>⟨Am _,Le2.self ms⟩
theorem Le2.zero:∀ms:List Nat,Le2 (ms.map λ_=>0) ms
 |[]=>trivial
 |_::ms=>⟨Az _,Le2.zero ms⟩
theorem lJ:∀{l:List Nat}{i p:Nat}(q:Nat),l[i]?=ae p->(l.set i q).sum+p=l.sum+q
 |[],_,_,_,e=>by simp at e
 |a::l,0,p,q,e=>by simp at e;subst e;simp;omega
 |a::l,i+1,p,q,e=>by simp at e;have:=lJ q e;simp;omega
theorem Le2.all0:∀{ps ms:List Nat},Le2 ps ms->(∀i p:Nat,ps[i]?=ae p->p=0)->ps=ms.map λ_=>0
 |[],[],_,_=>rfl
 |p::ps,_::ms,h,z=>by rw[z 0 p rfl,h.2.all0 λi q e=>z (i+1) q (by simpa using e)];rfl
theorem Le2.full:∀{ps ms:List Nat},Le2 ps ms->(∀i m:Nat,ms[i]?=ae m->ps[i]?=ae m)->ps=ms
 |[],[],_,_=>rfl
 |p::ps,m::ms,h,z=>by
  have e:=z 0 m rfl;simp at e;rw[e,h.2.full λi q e=>by simpa using z (i+1) q (by simpa using e)]
def dU:List Nat->List (List Nat)
 |[]=>[[]]
 |m::ms=>(A5 (m+1)).flatMap λp=>(dU ms).map (p::·)
def aP(ms:List Nat)(a0:Nat):List (List Nat×Nat):=(A5 (a0+1)).flatMap λa=>(dU ms).map λps=>(ps,a)
theorem mem_allP:∀{ms ps:List Nat},ps∈dU ms↔Le2 ps ms
 |[],[]=>by simp[dU,Le2]
 |[],_::_=>by simp[dU,Le2]
 |m::ms,[]=>by simp[dU,Le2]
 |m::ms,p::ps=>by
  unfold dU Le2;rw[List.mem_flatMap]
  constructor
  ·rintro⟨q,hq,h⟩
   obtain⟨r,hr,e⟩:=A3.mp h;cases e;exact⟨Dw (Bo.mp hq),mem_allP.mp hr⟩
  ·rintro⟨h1,h2⟩
   exact⟨p,Bo.mpr (Nat.lt_succ_of_le h1),A3.mpr ⟨ps,mem_allP.mpr h2,rfl⟩⟩
theorem mem_allS:s∈aP ms a0↔Le2 s.1 ms/\s.2<=a0:=by
 unfold aP;rw[List.mem_flatMap]
 constructor
 ·rintro⟨a,ha,h⟩
  obtain⟨ps,hp,rfl⟩:=A3.mp h;exact⟨mem_allP.mp hp,Dw (Bo.mp ha)⟩
 ·rintro⟨h1,h2⟩
  exact⟨s.2,Bo.mpr (Nat.lt_succ_of_le h2),A3.mpr ⟨s.1,mem_allP.mpr h1,rfl⟩⟩
theorem uz{α β:Type}{f:α->List β}:∀{l:List α},l.Nodup->(∀a∈l,(f a).Nodup)->(∀a∈l,∀b∈l,∀x,x∈f a->x∈f b->a=b)->(l.flatMap f).Nodup
 |[],_,_,_=>Cw
 |a::l,n,h,d=>by
  rw[Df]at n;rw[List.flatMap_cons,Gu];refine⟨h a (.head _),uz n.2 (λb hb=>h b (.tail _ hb)) λb hb c hc x hx hy=>d b (.tail _ hb) c (.tail _ hc) x hx hy,λx hx y hy e=>?_⟩;obtain⟨b,hb,hy⟩:=List.mem_flatMap.mp hy;exact n.1 (d a (.head _) b (.tail _ hb) x hx (e▸hy)▸hb)
theorem oB{α β:Type}{f:α->β}{l:List α}(n:l.Nodup)(h:∀a∈l,∀b∈l,f a=f b->a=b):(l.map f).Nodup:=by
 induction l with
 |nil=>exact Cw
 |cons a l ih=>
  rw[Df]at n;rw[Bg,Df];refine⟨λz=>?_,ih n.2 λb hb c hc=>h b (.tail _ hb) c (.tail _ hc)⟩;obtain⟨b,hb,e⟩:=A3.mp z;exact n.1 (h b (.tail _ hb) a (.head _) e▸hb)
theorem zu:∀ms:List Nat,(dU ms).Nodup
 |[]=>E8 _ _
 |m::ms=>uz List.nodup_range (λp _=>oB (zu ms) λa _ b _ e=>(Ba e).2) λa _ b _ x hx hy=>by
  obtain⟨_,_,rfl⟩:=A3.mp hx;obtain⟨_,_,e⟩:=A3.mp hy;exact(Ba e).1.symm
theorem Je(ms)(a0):(aP ms a0).Nodup:=uz List.nodup_range (λp _=>oB (zu ms) λa _ b _ e=>(Prod.mk.inj e).1) λa _ b _ x hx hy=>by
 obtain⟨_,_,rfl⟩:=A3.mp hx;obtain⟨_,_,e⟩:=A3.mp hy;exact(Prod.mk.inj e).2.symm
theorem vW{α β:Type}{f:α->List β}:∀{l:List α},(∀a∈l,(f a).length=n)->(l.flatMap f).length=l.length*n
 |[],_=>by simp
 |a::l,h=>by rw[List.flatMap_cons,A2,h a (.head _),vW λb hb=>h b (.tail _ hb),Bf,Nat.succ_mul];omega
def iD:List Nat->Nat
 |[]=>1
 |m::ms=>(m+1)*iD ms
theorem yU:∀ms:List Nat,(dU ms).length=iD ms
 |[]=>rfl
 |m::ms=>by unfold dU iD;rw[vW (n:=iD ms) λa _=>by rw[Ad,yU ms],Dr]
theorem yi(ms)(a0):(aP ms a0).length=(a0+1)*iD ms:=by unfold aP;rw[vW (n:=iD ms) λa _=>by rw[Ad,yU ms],Dr]
theorem ky{α:Type}:∀{l l':List α},l.Nodup->(∀x∈l,x∈l')->l.length<=l'.length
 |[],_,_,_=>Az _
 |a::l,l',n,h=>by
  rw[Df]at n;obtain⟨u,v,rfl⟩:=List.append_of_mem (h a (.head _));have:=ky (l:=l) (l':=u++v) n.2 λx hx=>by
   have:=h x (.tail _ hx);simp only[Bv,Aw]at this ⊢;rcases this with h|rfl|h
   ·exact .inl h
   ·exact absurd hx n.1
   ·exact .inr h
  simp at this ⊢;omega
def hZ(ms:List Nat)(s:List Nat×Nat)(i:Nat):Option (List Nat×Nat):=if i=ms.length then ae (s.1,s.2-1)else match s.1[i]?,ms[i]? with
 |some p,ae m=>if p < m then ae (s.1.set i (p+1),s.2)else af
 |_,_=>af
theorem wJ(h:s∈aP ms a0)(e:hZ ms s i=ae s'):s'∈aP ms a0/\s'.1.sum<=s.1.sum+1:=by
 rw[mem_allS]at h ⊢;unfold hZ at e
 split at e
 ·cases e;exact⟨⟨h.1,Bb (Nat.sub_le _ _) h.2⟩,Fz _⟩
 ·split at e
  ·rename_i p m hp hm
   split at e
   ·rename_i lt;cases e;have:=lJ (p+1) hp;exact⟨⟨h.1.set hm lt,h.2⟩,by dsimp only;omega⟩
   ·cases e
  ·cases e
theorem Kl{I:List Nat×Nat->Prop}(h0:I (ms.map λ_=>0,a0))(hc:∀s s' i,s∈aP ms a0->I s->i<=ms.length->hZ ms s i=ae s'->I s'):∀s∈aP ms a0,I s:=by
 have key:∀n (s:List Nat×Nat),s∈aP ms a0->s.1.sum+(a0-s.2)=n->I s:=by
  intro n
  induction n with
  |zero=>
   rintro⟨ps,a⟩ hs e
   obtain⟨h1,h2⟩:=mem_allS.mp hs;dsimp only at h1 h2 e;obtain rfl:a=a0:=by omega
   rw[h1.all0 λi p hp=>by have:=lJ 0 hp;omega];exact h0
  |succ n ih=>
   rintro⟨ps,a⟩ hs e
   obtain⟨h1,h2⟩:=mem_allS.mp hs;dsimp only at h1 h2 e;by_cases ha:a < a0
   ·refine hc (ps,a+1) (ps,a) ms.length (mem_allS.mpr ⟨h1,ha⟩) (ih _ (mem_allS.mpr ⟨h1,ha⟩) (by dsimp only;omega)) (Am _) ?_;unfold hZ;rw[if_pos rfl];rfl
   ·obtain rfl:a=a0:=by omega
    by_cases hz:∀i p:Nat,ps[i]?=ae p->p=0
    ·rw[h1.all0 hz];exact h0
    ·have hz:∃i p:Nat,ps[i]?=ae p/\p≠0:=Du λw=>hz λi p e=>Du λy=>w ⟨i,p,e,y⟩;obtain⟨i,p,hp,p0⟩:=hz;have hi:i < ms.length:=by rw[<-h1.len];exact(Al.mp hp).1
     have hm:ms[i]?=ae ms[i]:=Ag hi;obtain⟨p',hp',le⟩:=h1.get hm;rw[hp]at hp';cases hp';have hil:i < ps.length:=by rw[h1.len];exact hi
     have ok:(ps.set i (p-1),a)∈aP ms a:=mem_allS.mpr ⟨h1.set hm ⋯,Am _⟩;have sm:=lJ (p-1) hp;refine hc (ps.set i (p-1),a) (ps,a) i ok (ih _ ok (by dsimp only;omega)) (Fh hi) ?_;unfold hZ;rw[if_neg ⋯];dsimp only;rw[Bq hil,hm];dsimp only;rw[if_pos ⋯,List.set_set,show p-1+1=p by omega]
     congr 2
     exact Ey λj=>by
      by_cases z:i=j
      ·subst z;rw[Bq hil,hp]
      ·rw[A6 z]
 exact λs hs=>key _ s hs rfl
theorem BA:kz stl:=⟨⟨by decide,λf hf=>by simp[stl,Ac.fs]at hf;subst hf;show bS (.int 0)=ah;decide +kernel⟩,rfl,rfl⟩
theorem SR(b):kz (.go b):=⟨⟨by show 0<=4;decide,λf hf=>by simp[Ac.fs]at hf⟩,trivial⟩
theorem wq(h:a∈(fb b).2):a=stl\/a=.go (b+1):=by
 simp only[fb,Bv,Hd,Bn]at h;rcases h with⟨_,h⟩|h
 ·exact .inl h
 ·exact .inr h
theorem tL(m):(bj m).length=(m-1) / 8+1:=by simp[bj]
theorem RF(h:b < (m-1) / 8):(bj m)[b]?=ae (fb b):=by
 unfold bj;rw[D0 (by simpa using h),Aq,List.getElem?_range h];rfl
theorem OO(m):(bj m)[(m-1) / 8]?=ae (lb (m-8*((m-1) / 8))):=by
 unfold bj;rw[Fy (by simp)];simp
theorem FV(h:B∈bj m):(∃b,b < (m-1) / 8/\B=fb b)\/B=lb (m-8*((m-1) / 8)):=by
 simp only[bj,Bv,A3,Bo,Bn]at h;rcases h with⟨b,hb,rfl⟩|h
 ·exact .inl ⟨b,hb,rfl⟩
 ·exact .inr h
theorem UO(m):(bj m).map (·.1)=Ay ((m-1) / 8+1) []:=by
 refine List.eq_replicate_iff.mpr ⟨by rw[Ad,tL],λw hw=>?_⟩;obtain⟨B,hB,rfl⟩:=A3.mp hw;rcases FV hB with⟨b,_,rfl⟩|rfl<;>rfl
theorem zF(h:w[0]?=ae []):stl.right w ks:=⟨⟨λk e=>(by cases e),λk e=>(by cases e),trivial⟩,λb e=>by cases e;exact⟨[],h,λk hk=>nomatch hk⟩⟩
theorem JT(h:w[b]?=ae []):(Ac.go b).right w ks:=⟨trivial,λb' e=>by cases e;exact⟨[],h,λk hk=>nomatch hk⟩⟩
theorem Ma(hm:m<=44):BK (bj m):=by
 have w:∀b,b<=(m-1) / 8->((bj m).map (·.1))[b]?=ae []:=λb hb=>by rw[UO,Cq,if_pos ⋯]
 refine⟨by rw[tL];omega,by rw[tL];omega,λB hB=>?_⟩;rcases FV hB with⟨b,hb,rfl⟩|rfl
 ·refine⟨⟨Az _,(λk hk=>nomatch hk),(show 8<=8 by decide),λa ha=>?_,Cw,Cw⟩,λp a e=>?_⟩
  ·rcases wq ha with rfl|rfl
   ·exact BA
   ·exact SR _
  ·rcases wq (A1 e)with rfl|rfl
   ·exact zF (w 0 (Az _))
   ·exact JT (w _ hb)
 ·refine⟨⟨Az _,(λk hk=>nomatch hk),?_,λa ha=>?_,Cw,Cw⟩,λp a e=>?_⟩
  ·show(Ay _ stl).length<=8;rw[Fn];omega
  ·rw[(Hd.mp ha).2];exact BA
  ·rw[(Hd.mp (A1 e)).2];exact zF (w 0 (Az _))
abbrev aQ(ms:List Nat):Pg:=ms.map bj
abbrev cD(ms ps:List Nat):List Hn:=List.zipWith hk ms ps
def okM(ms:List Nat):Prop:=ms.length<=3/\∀m∈ms,m<=44
theorem OW(h:okM ms):cV (aQ ms):=⟨by rw[Ad];exact Bb h.1 ∎,λP hP=>by
 obtain⟨m,hm,rfl⟩:=A3.mp hP;exact Ma (h.2 m hm)⟩
theorem uB(h:p<=m):∃B:Bl,(bj m)[bk m p]?=ae B/\B.1=[]/\(∀a∈B.2,Ac.bs a=[])/\p-8*bk m p<=B.2.length /\
  ((p=m/\p-8*bk m p=B.2.length)\/(p < m/\B.2[p-8*bk m p]?=ae stl/\hk m (p+1)=(bk m p,p-8*bk m p+1,[]))\/(p < m/\B.2[p-8*bk m p]?=ae (.go (bk m p+1))/\hk m (p+1)=(bk m p+1,0,[]))):=by
 by_cases c:p / 8 < (m-1) / 8
 ·have e:bk m p=p / 8:=by unfold bk;omega
  have lf:(fb (p / 8)).2.length=8:=by simp[fb]
  refine⟨fb (p / 8),by rw[e];exact RF c,rfl,λa ha=>?_,by rw[e,lf];omega,.inr ?_⟩
  ·rcases wq ha with rfl|rfl<;>rfl
  ·by_cases q:p-8*(p / 8)=7
   ·refine .inr ⟨by omega,?_,?_⟩
    ·rw[e,q];rfl
    ·have e1:bk m (p+1)=p / 8+1:=by unfold bk;omega
     unfold hk;rw[e1,e];refine Prod.ext rfl (Prod.ext ?_ rfl);show p+1-8*(p / 8+1)=0;omega
   ·refine .inl ⟨by omega,?_,?_⟩
    ·rw[e];show(Ay 7 stl++[.go (p / 8+1)])[p-8*(p / 8)]?=ae stl;rw[D0 (by rw[Fn];omega),Cq,if_pos ⋯]
    ·have e1:bk m (p+1)=p / 8:=by unfold bk;omega
     unfold hk;rw[e1,e];refine Prod.ext rfl (Prod.ext ?_ rfl);show p+1-8*(p / 8)=p-8*(p / 8)+1;omega
 ·have e:bk m p=(m-1) / 8:=by unfold bk;omega
  have lf:(lb (m-8*((m-1) / 8))).2.length=m-8*((m-1) / 8):=by simp[lb]
  refine⟨lb (m-8*((m-1) / 8)),by rw[e];exact OO m,rfl,λa ha=>?_,by rw[e,lf];omega,?_⟩
  ·rw[(Hd.mp ha).2];rfl
  ·by_cases q:p=m
   ·exact .inl ⟨q,by rw[e,lf,q]⟩
   ·refine .inr (.inl ⟨by omega,?_,?_⟩)
    ·show(Ay _ stl)[_]?=ae stl;rw[Cq,if_pos (by rw[e];omega)]
    ·have e1:bk m (p+1)=(m-1) / 8:=by unfold bk;omega
     unfold hk;rw[e1,e];refine Prod.ext rfl (Prod.ext ?_ rfl);show p+1-8*((m-1) / 8)=p-8*((m-1) / 8)+1;omega
theorem sY{i m:Nat}(h:Le2 ps ms)(e:ms[i]?=ae m):∃p,ps[i]?=ae p/\p<=m/\(cD ms ps)[i]?=ae (hk m p):=by
 obtain⟨p,hp,le⟩:=h.get e;exact⟨p,hp,le,by rw[Fo,e,hp]⟩
theorem MY(h:Le2 ps ms):okHs (aQ ms) (cD ms ps):=by
 refine⟨by rw[List.length_zipWith,Ad,h.len,Nat.min_self],λi P hP=>?_⟩;rw[Aq]at hP;obtain⟨m,hm,rfl⟩:=C3.mp hP;obtain⟨p,hp,le,e⟩:=sY h hm;obtain⟨B,h1,h2,h3,h4,_⟩:=uB le;refine⟨hk m p,B,e,h1,h4,Cw,(λ_ z=>nomatch z),Cw,λk=>?_,Az _⟩;have:kn B.1 B.2 (hk m p).2.1=[]:=by
  unfold kn;rw[h2,Cg,List.flatMap_eq_nil_iff];exact λa ha=>h3 a (List.mem_of_mem_take ha)
 rw[this];rfl
theorem yY(h:a<=2):dI 1 (dm a):=by
 unfold dm
 split
 ·exact⟨Az _,λ_ z=>nomatch z⟩
 ·refine⟨Am _,λq hq=>?_⟩;rw[Bn.mp hq];refine⟨⟨⟨(show 2<=4 by decide),(show 1<=2 by decide)⟩,λd hd=>?_⟩,.inr ⟨a,rfl,by omega,by omega⟩⟩;rcases Aw.mp hd with rfl|hd
  ·decide +kernel
  ·rw[Bn.mp hd];decide +kernel
theorem Ud(h:a<=2):gp (dm a)=dm (a-1):=by
 rcases(by omega:a=0\/a=1\/a=2)with rfl|rfl|rfl<;>rfl
theorem uE:fq (.int 0) (.int 0)=ah:=by decide +kernel
theorem M3(h:Le2 ps ms)(ha:a<=2)(hi:i<=ms.length):cE (aQ ms) (cD ms ps) (dm a) i=(hZ ms (ps,a) i).map λs=>(cD ms s.1,dm s.2):=by
 unfold cE hZ;rw[Ad];by_cases c:i=ms.length
 ·rw[if_pos c,if_pos c,Ud ha];rfl
 ·rw[if_neg c,if_neg c];have hm:ms[i]?=ae ms[i]:=Ag ⋯;generalize ms[i]'⋯=m at hm;obtain⟨p,hp,le,e⟩:=sY h hm;obtain⟨B,h1,h2,h3,h4,h5⟩:=uB le;have eP:(aQ ms)[i]?=ae (bj m):=by rw[Aq,hm];rfl
  have eA:aU (aQ ms) (cD ms ps) i=B.2[p-8*bk m p]?:=by unfold aU;rw[eP,e];show(bj m)[(hk m p).1]?.bind _=_;rw[show(hk m p).1=bk m p from rfl,h1];rfl
  have hil:i < (cD ms ps).length:=(Al.mp e).1;have hpl:i < ps.length:=(Al.mp hp).1;have set:∀x:Hn,hk m (p+1)=x->aX (cD ms ps) i x=cD ms (ps.set i (p+1)):=λx ex=>by
   unfold aX;refine Ey λj=>?_;rw[Fo];by_cases z:i=j
   ·subst z;rw[hm,Bq hpl,Fy (by rw[C4];omega),C4,show i-min i (cD ms ps).length=0 by omega];exact congrArg ae ex.symm
   ·rw[A6 z];by_cases y:j < i
    ·rw[D0 (by rw[C4];omega),List.getElem?_take_of_lt y,Fo]
    ·rw[Fy (by rw[C4];omega),C4,show min i (cD ms ps).length=i by omega];obtain⟨k,rfl⟩:∃k,j=i+1+k:=⟨j-(i+1),by omega⟩;rw[show i+1+k-i=k+1 by omega,Cr,List.getElem?_drop,Fo]
  unfold dJ;rw[eP,e,eA];dsimp only[Option.bind];rw[hp,hm];dsimp only;rcases h5 with⟨rfl,q⟩|⟨lt,q,w⟩|⟨lt,q,w⟩
  ·rw[q,Cb (Am _),if_neg (Ek _)];rfl
  ·rw[q,if_pos lt];show ae (aX (cD ms ps) i (if fq (.int 0) (.int 0)=ah then b8 (hk m p) []else bB (bj m) 0 []),dm a)=_;rw[if_pos uE,set _ (w.trans (show _=b8 (hk m p) []from rfl))];rfl
  ·rw[q,if_pos lt];show ae (aX (cD ms ps) i (bB (bj m) (bk m p+1) []),dm a)=_;rw[set _ (w.trans (show _=bB (bj m) (bk m p+1) []from rfl))];rfl
abbrev d9:=List Nat×Nat
def bW(ms:List Nat)(s:d9):Ab:=bg (cD ms s.1) (dm s.2)
def cH(ms:List Nat)(a0:Nat):d9:=(ms.map λ_=>0,a0)
def a8(ms:List Nat)(a0:Nat):Nat:=(a0+1)*iD ms
def dY(ms:List Nat):Nat->Sg 2
 |0=>.inr (.inl (ah,(A5 ms.length).map λi=>Sg.bs 1 (.ended i)))
 |1=>.inr (.inl (ah,[]))
 |_=>.inr (.inl (ai,[]))
def qC:List (List Nat):=[[],[7],[2,3,4],[5,6],[1,9,2],[17],[10,10,20],[3,23,29],[2,27,37],[11,13,14],[44,45],[45,45],[29,3,23],[20,10,10]]
def cq(l:List Nat):Ab:=.tuple (l.map λi=>.int (i:Nat))
def wG:aL:=λws n Q=>∃m:Nat,ws=[.d (.int m)]/\m<=44/\Q (.d (h9 (bj m))) n
def uq:aL:=λws n Q=>ws=[.tp]/\n+2 < 2 ^ 39/\∀z∈qC,Q (.d (cq z)) (n+2)
def gL(ms:List Nat)(a0:Nat)(L:List d9):Prop:=L.Nodup/\∀s∈L,s∈aP ms a0
def qw:aL:=λws n Q=>∃(ms:List Nat)(a0:Nat)(L:List d9)(k:Int),ws=[.d (.list (L.map (bW ms))),.d (.int k)]/\okM ms/\a0<=2/\L.length<=2000/\gL ms a0 L/\Q (.d (.bool (decide ((L.length:Int)=k)))) n
def kQ(ms:List Nat)(a0 way aim:Nat)(d:Ab):Prop:=
 (way=0/\∃L,d=.list (L.map (bW ms))/\L.length=a8 ms a0/\gL ms a0 L)\/(way=2/\∃L,d=.list (L.map (bW ms))/\L.length=a0+1/\gL ms a0 L) \/
 (way=3/\∃x,d=.tuple [.str (if aim=2 then "never" else "seen"),x])\/(way=1/\aim=2/\d=.none)\/(way=1/\aim < 2/\∃mv:List Ab,d=.list mv/\mv.length=if aim=0 then ms.sum else 0)
def qv:aL:=λws n Q=>∃(ms:List Nat)(a0 way aim:Nat),ws=[.d (.int way),.d (aZ (aQ ms)),.d (bW ms (cH ms a0)),.d (Sg.d 2 (dY ms aim))]/\okM ms/\a0<=2/\way < 4/\aim < 3 /\
 (2000 < a8 ms a0->Q (.d (.tuple [.none,.list [.bool ah,.bool ah,.bool ai]])) n)/\(a8 ms a0<=2000->∀d,kQ ms a0 way aim d->Q (.d (.tuple [d,.list []])) n)
end Nb
namespace L2
open PySem PySem.Spec PyProof.Rows PySem.W
def HK(K:Af):List V->Hp->VK->Prop:=λxs H Q=>∃a ps,xs=[.ref a]/\Rd H a (.dX ps)/\ic K H ps/\∀l,H l=af->Q (.ref l) (upd H l (.lst (ps.map λp=>V.ref p.2.1)))
theorem CN(r:KX ps xs):Vals (ps.map λp=>V.ref p.2.1) (xs.map λx=>As x.2.1):=by
 induction r with
 |nil=>exact .nil
 |@cons p q ps qs h t ih=>exact .cons (show RelV (V.ref p.2.1) (As q.2.1) by rw[h.2.1];rfl) ih
theorem FD(hh:X.A.handled=af):CallR X (.type "list") (HK X.K):=by
 intro pins s σ H xs us Q I r h;obtain⟨a,ps,rfl,ha,hk,q⟩:=h;obtain⟨u,rfl,ru⟩:=gg r;cases(show u=As a from ru);obtain⟨z,y,ys,rel,o,es,ep,h1,h2,h3,h4,h5⟩:=(show ObjOk X.prog X.w H s.heap a (.dX ps)from ha.ok I.hok);have hsz:es.size=ys.length:=by
  have:=congrArg D8 h4;rw[Ad,Ce]at this;exact this
 have hlen:ys.length=ps.length:=(D3 rel).symm;refine kdl_call (Qv (es:=es) (ep:=ep) y) hh (show DEs s.heap a es ep from⟨o,h1,h2,h3⟩) (by rw[hsz,hlen];exact z) λh' tk acc c hkp hL hI=>?_;have eacc:acc=(ys.map λx=>As x.2.1).toArray:=by
  apply G1.mp;apply Ey;intro j;by_cases hj:j < es.size
  ·have hja:j < acc.toList.length:=by rw[Ce,hI.1];exact hj
   have this:(es[j]?).map (·.key)=ae (acc.toList[j]):=hI.2 j (acc.toList[j]) (by rw[<-Fl,Ag hja]);rw[<-Fl,h4,Aq,Option.map_map]at this;rw[Ag hja,<-this,Aq];rfl
  ·rw[Cb (by rw[Ce,hI.1];omega),Cb (by simp only[Ad];omega)]
 rw[eacc]at hL;refine⟨.ref s.heap.objs.size,_,I.laid (t':=tk) (h':=h') (o:=.lst (ps.map λp=>V.ref p.2.1)) hkp (Am _) ⟨by rw[Ad];exact z,_,c,CN rel,hL⟩,rfl,q _ (I.hok.fresh (Am _))⟩
def yP(a:Addr)(o:Obj)(l:List XP):It:=
 ⟨λi H=>H a=ae (.frz o (.dX l))/\i < l.length,λi H x H'=>H'=H/\∃p,l[i]?=ae p/\x=.ref p.2.1,λi H=>H a=ae (.frz o (.dX l))/\l.length<=i⟩
theorem vi{l:List XP}(hd:o.data=.dict es ep)(ok:ObjOk P w H h a (.frz o (.dX l))):(a==C5)=ai/\DEs h a es ep/\es.size=l.length/\∀i p,l[i]?=ae p->(es.getD i ⟨0,.none,.none⟩).key=.ref p.2.1:=by
 obtain⟨g,z,hs,xs,rel,o',es',ep',h1,h2,h3,h4,h5⟩:=ok;rw[g]at h1;cases h1;rw[hd]at h3;cases h3;have hl:es.size=xs.length:=by
  have:=congrArg D8 h4;rw[Ad,Ce]at this;exact this
 refine⟨hs,⟨o,g,h2,hd⟩,hl.trans (D3 rel).symm,λi p e=>?_⟩;have hi:i < xs.length:=by rw[<-D3 rel];exact(Al.mp e).1
 obtain⟨q,e2⟩:∃q,xs[i]?=ae q:=⟨xs[i],Ag hi⟩;have e3:es[i]?=ae (entryOfKey (jr P w) q):=by rw[<-Fl,h4,Aq,e2];rfl
 have pk:p.2.1=q.2.1:=by
  have:=CN (ps:=l) (xs:=xs) rel;obtain⟨u,hu,ru⟩:=this.get (show(l.map λp=>V.ref p.2.1)[i]?=ae (V.ref p.2.1) by rw[Aq,e];rfl);rw[Aq,e2]at hu;cases hu;exact(Value.ref.inj (show As q.2.1=As p.2.1 from ru)).symm
 have hlt:i < es.size:=by rw[hl];exact hi
 rw[show es.getD i ⟨0,.none,.none⟩=es[i] by simp[hlt]];rw[C6 hlt]at e3;rw[A4 e3,pk];rfl
theorem LD{K:Af}(hd:o.data=.dict es ep):Turn P w K tg (yP a o l) [it] it (λi h=>h.IsKeyIter it a i es.size ep) where
 mem:=by simp
 obj:=λi h st b hb=>by
  have e:b=it:=by simpa using hb
  subst e;obtain⟨o,e,c,d⟩:=st;exact⟨o,e,λv z=>by rw[d]at z;cases z⟩
 keep:=λi h h' st k=>st.at λo e=>k it (by simp) o e
 item:=by
  intro X hP hw hK hc i pins s σ H E I hf st hg;subst hP hw hK;obtain⟨ha,hi⟩:=hg;obtain⟨_,dd,hl,ke⟩:=vi hd (I.hok a _ ha);obtain⟨p,hx⟩:∃p,l[i]?=ae p:=⟨l[i],Ag hi⟩;obtain⟨f0,f1,f2,f3,f4,f5⟩:=hf it (by simp);refine qN st dd (λ_ h' st' sb=>?_) λz=>absurd z ⋯;rw[ke i p hx];have I1:Inv X pins σ H {s with heap:=h'}:=I.turned (t':=s.toks) (λb o hb e=>(sb.2 b hb).trans e) f0 f1 f3 f4 f5;obtain⟨o',e,c,d⟩:=id st';exact⟨_,rfl,sG (s:={ s with heap:=h'}) e c d ∎ ⟨.ref p.2.1,H,I1,rfl,⟨rfl,p,hx,rfl⟩,st',λb hb=>(hf b hb).1⟩⟩
 done:=by
  intro X hP hw hK hc i pins s σ H E I hf st hg;subst hP hw hK;obtain⟨ha,hi⟩:=hg;obtain⟨_,dd,hl,ke⟩:=vi hd (I.hok a _ ha);obtain⟨f0,f1,f2,f3,f4,f5⟩:=hf it (by simp);exact qN st dd (λz=>absurd z ⋯) λ_=>⟨I.ok.hd hc,λh' eb=>⟨rfl,I.turned (t':=s.toks) (λb o hb e=>eb b o hb e) f0 f1 f3 f4 f5⟩⟩
 self:=λ_ _ _ _ _ st h=>wpAny_pyIter_keyiter st h
def GI(tl:TE):TI:=λσ H R=>tl σ H λx H1=>∃a o l,x=.ref a/\H1 a=ae (.frz o (.dX l))/\R (yP a o l) H1
theorem Ol(hl:PE X l tl):PI X tg l (GI tl):=by
 intro pins s σ H R I h;refine aG (hl pins s σ H _ I h) λv s1 ⟨x,H1,I1,r1,q1⟩=>?_;obtain⟨a,o,ls,e,hq,q⟩:=q1;subst e;cases r1;have ok:=I1.hok a _ hq;obtain⟨g,z,hs,xs,rel,o',es,ep,h1,h2,h3,h4,h5⟩:=id ok;rw[g]at h1;cases h1;obtain⟨_,dd,_,_⟩:=vi h3 ok;refine BV hs dd ?_;refine⟨s1.heap.objs.size,[s1.heap.objs.size],_,_,H1,rfl,I1.kept (t':=s1.toks) λb o e=>Ah _ e,LD (l:=ls) h3,⟨_,A0 _ rfl,rfl,rfl⟩,λb hb=>?_,q⟩;have e:b=s1.heap.objs.size:=by simpa using hb
 subst e;exact I1.fpOk (Am _) (I1.hok.fresh (Am _))
theorem Inv.freezeX{σ:St}{l:List XP}(I:Inv X pins σ H s)(e:H a=ae (.dX l)):∃o,Inv X pins σ (upd H a (.frz o (.dX l))) s:=by
 obtain⟨z,hs,xs,rel,o,es,ep,h1,h2,h3,h4,h5⟩:=I.hok a _ e;exact⟨o,mH (h':=s.heap) (t':=s.toks) I (by rw[e];exact Ec) ⟨rfl,λ_ _=>rfl⟩ ⟨o,h1⟩ ⟨h1,z,hs,xs,rel,o,es,ep,h1,h2,h3,h4,h5⟩⟩
def nA(T:TS):TS:=λD σ H=>∃a l,H a=ae (.dX l)/\∀o,T D σ (upd H a (.frz o (.dX l)))
theorem S7(h:PSs X b T):PSs X b (nA T):=λpins s σ H D I q=>by
 obtain⟨a,l,ha,q⟩:=q;obtain⟨o,I1⟩:=I.freezeX ha;exact h pins s σ _ D I1 (q o)
end L2
namespace DL
open PySem L2 Nb
theorem Rel.fzX(R:Rel C H B σ δ n)(hi:δ[i]?=ae (ae (.odx m))):
  ∃a l,σ[i]?=ae (ae (.ref a))/\H a=ae (.dX l)/\B a/\C.H0 a=af/\a≠C.t/\∀o,Rel C (upd H a (.frz o (.dX l))) (λb=>B b/\b≠a) σ (δ.set i (ae (.w (.ob (.y m))))) n:=by
 obtain⟨v,hσ,a,l,rfl,e2,hb,h0,e5,e6⟩:=R.sl i _ hi;have hat:a≠C.t:=λz=>R.t0 (z▸h0);refine⟨a,l,hσ,e2,hb,h0,hat,λo=>?_⟩;have R1:Rel C H B σ (δ.set i af) n:={
  tp:=R.tp,kp:=R.kp,t0:=R.t0,l0:=R.l0,g0:=R.g0,fz:=R.fz,bt:=R.bt,b0:=R.b0,ba:=R.ba,a0:=R.a0
  sl:=λj y e=>by
   by_cases z:i=j
   ·subst z;rw[Cp]at e;rw[hi]at e;cases e
   ·rw[A6 z]at e;exact R.sl j y e
  ow:=λj k y z u e1 e2 o1 o2 f1 f2=>by
   have g:∀{m:Nat}{w:SV},(δ.set i af)[m]?=ae (ae w)->δ[m]?=ae (ae w):=λ{m w} e=>by
    by_cases q:i=m
    ·subst q;rw[Cp,hi]at e;cases e
    ·rwa [A6 q]at e
   exact R.ow j k y z u (g e1) (g e2) o1 o2 f1 f2
  len:=by rw[B8];exact R.len}
 have R2:Rel C (upd H a (.frz o (.dX l))) B σ (δ.set i af) n:=R1.mut hb h0 λj y e oy f=>by
  by_cases z:i=j
  ·subst z;rw[Cp,hi]at e;cases e
  ·rw[A6 z]at e;exact z (R.ow i j _ y _ hi e rfl oy hσ f)
 have less:∀b,(B b/\b≠a)->B b:=λb z=>z.1;exact{
  tp:=R2.tp,kp:=R2.kp,t0:=R2.t0,l0:=R2.l0,g0:=R2.g0
  fz:=λb o e=>⟨(R2.fz b o e).1,λz=>(R2.fz b o e).2 z.1⟩
  bt:=⟨R.bt,λz=>R.t0 (z▸h0)⟩
  b0:=λb z=>⟨R.b0 b z,λq=>R.a0 b z (q▸h0)⟩
  ba:=λb z=>R2.ba b z.1
  a0:=R.a0
  sl:=λj y' e=>by
   rcases eU e with⟨rfl,rfl⟩|⟨ne,e'⟩
   ·refine⟨_,hσ,⟨a,o,l,rfl,aR,λz=>z.2 rfl,e6.move λb ob e n=>⟨?_,λz=>n z.1⟩⟩,λz=>by cases z⟩;rw[aD λ(z:b=a)=>n (z▸hb)];exact e
   ·obtain⟨u,f1,f2⟩:=R2.sl j y' (by rw[A6 λz=>ne z.symm];exact e');refine⟨u,f1,?_⟩;cases y' with
    |w y=>exact⟨f2.1.less less,f2.2⟩
    |own ds'=>
     obtain⟨a',xs',g1,g2,g3,g4,g5,g6⟩:=f2;refine⟨a',xs',g1,g2,⟨g3,λz=>?_⟩,g4,g5,g6.less less⟩;exact ne (R.ow j i _ _ _ e' hi rfl rfl f1 (by rw[hσ,g1,z]))
    |odk ds'=>
     obtain⟨a',xs',g1,g2,g3,g4,g5,g6⟩:=f2;refine⟨a',xs',g1,g2,⟨g3,λz=>?_⟩,g4,g5,g6.move λb o e n=>⟨e,λz=>n z.1⟩⟩;exact ne (R.ow j i _ _ _ e' hi rfl rfl f1 (by rw[hσ,g1,z]))
    |odt ds'=>
     obtain⟨a',xs',g1,g2,g3,g4,g5,g6⟩:=f2;refine⟨a',xs',g1,g2,⟨g3,λz=>?_⟩,g4,g5,g6.move λb o e n=>⟨e,λz=>n z.1⟩⟩;exact ne (R.ow j i _ _ _ e' hi rfl rfl f1 (by rw[hσ,g1,z]))
    |odx ds'=>
     obtain⟨a',xs',g1,g2,g3,g4,g5,g6⟩:=f2;refine⟨a',xs',g1,g2,⟨g3,λz=>?_⟩,g4,g5,g6.move λb o e n=>⟨e,λz=>n z.1⟩⟩;exact ne (R.ow j i _ _ _ e' hi rfl rfl f1 (by rw[hσ,g1,z]))
  ow:=λj k y z u e1 e2 o1 o2 f1 f2=>by
   rcases eU e1 with⟨rfl,rfl⟩|⟨ne1,e1'⟩
   ·cases o1
   ·rcases eU e2 with⟨rfl,rfl⟩|⟨ne2,e2'⟩
    ·cases o2
    ·exact R.ow j k y z u e1' e2' o1 o2 f1 f2
  len:=by rw[B8];exact R.len}
theorem RdY.at(h:RdY H B l m):∀{j:Nat}{p:TK×Addr×V},l[j]?=ae p->∃q,m[j]?=ae q/\p.1=q.1/\RdX H B (.ref p.2.1) p.1.1/\RdX H B p.2.2 q.2:=by
 induction h with
 |nil=>intro j p e;cases e
 |@cons a b ps qs r t ih=>
  intro j p e;cases j with
  |zero=>cases e;exact⟨b,rfl,r⟩
  |succ j=>exact ih e
section
variable{X:Cx}{a b c e o i f tg:Expr}{ta tb te td ty tx:TE}{wa wb we wd' wy wx:DT}{pos p:Pos}{K:Af}
def gK(i:Nat)(W:aF):aF:=λδ n K=>match δ[i]? with
 |some (ae (.odx m))=>W (δ.set i (ae (.w (.ob (.y m))))) n K
 |_=>False
theorem K7(i)(h:DSs X l T W):DSs X l (nA T) (gK i W):=⟨S7 h.ps,λC H B σ δ n K D R q E=>by
 unfold gK at q
 split at q
 ·rename_i m e;obtain⟨a,l,hσ,e2,hb,h0,hat,rf⟩:=R.fzX e;exact⟨a,l,e2,λo=>h.sd C _ _ σ _ n K D (rf o) q E⟩
 ·exact q.elim⟩
def uF(w:DT):gc:=λδ n Q=>w δ n λx n1=>∃kvs:List (TK×Ab),x=.ob (.y kvs)/\kvs.length<=2000/\Q (kvs.map λp=>p.1.1) n1
theorem Oo(ha:DE X a ta wa):DI X tg a (GI ta) (uF wa):=⟨Ol ha.pe,λC H B σ δ n Q Q' R q k=>ha.sd C H B σ δ n _ _ R q λv x H1 n1 R1 k1 r1 q1=>by
 obtain⟨kvs,rfl,hl,q2⟩:=q1;obtain⟨a,o,l,rfl,g1,g2,g3⟩:=(show ORel H1 B v (.y kvs)from r1);have hlen:l.length=kvs.length:=g3.len;refine⟨a,o,l,rfl,g1,k _ _ H1 n1 R1 k1 (λfz th=>?_) q2⟩;have hfz:fz a=ae (.frz o (.dX l)):=th.2 _ _ g1 g2;refine⟨by rw[Ad];exact vQ hl,λj H hH hj=>?_,λH hH=>?_,λj H x H' d hH hd' hy=>?_⟩
 ·rw[Ad]at hj;exact⟨hH _ _ hfz,by rw[hlen];exact hj⟩
 ·exact⟨hH _ _ hfz,by rw[Ad,hlen];exact Am _⟩
 ·obtain⟨rfl,p,hx,rfl⟩:=hy;refine⟨λ_ _ z=>z,λB' hB hBa=>?_⟩;rw[Aq]at hd';obtain⟨q,hq,r⟩:=RdY.at g3 hx;rw[hq]at hd';cases hd';have r2:RdX H1 B (.ref p.2.1) q.1.1:=r.1▸r.2.1;exact r2.move λb ob e ne=>⟨hH _ _ (th.2 _ _ e ne),hB _ _ (th.2 _ _ e ne)⟩⟩
end
end DL
namespace L2
open PySem PySem.Spec PyProof.Rows PySem.W
section
variable{prog:A7}{w:Bi}{A:Br}{E:Ae->Ai->Prop}{s:Ai}{d:Addr}{es:Array G9}{ep:Nat}
theorem JA(hd:(d==C5)=ai):MeetsIn prog w (Ei.«dict.__len__» ⟨[.ref d],[]⟩) (λ_ R s=>DEs s.heap d es ep/\R (.ok (.ret (.int es.size s.toks))) {s with toks:=s.toks+1}):=
 .of_wp λA R s ⟨x,h⟩=>by
  obtain⟨o,x1,x2,x3⟩:=x;refine(show Av _ _ (dictSize d>>=_) _ _ s from ?_);unfold dictSize;refine Aa (Aa (wpAny_dictEntries x1 x3 (Aj (show Av _ _ (Builtin.Dict.pendingCount d>>=_) _ _ s from Aa (wpAny_pendingCount_other hd (wpAny_ret_mkInt ?_))))));rw[Nat.add_zero];exact h
theorem N2(hd:(d==C5)=ai)(x:DEs s.heap d es ep)(hf:(es.size:Int) < 2 ^ 63)(h:Q (.int es.size (s.toks+1)) {s with toks:=s.toks+1+1}):Av (A9 prog w) A (call (.builtin "len") [.ref d]) Q E s:=by
 refine Calls.call_function_entry kind_len plain_len entry_len (args_len1 _) ?_;unfold Ei.«len»;refine Aa (m:=oneArg "len" _) (Aj (Aa (m:=callSpecial? (.ref d) (E2 "__len__")) (C2 (name:=E2 "__len__") x.ty F.slot_dict_len (call_meetsIn F.slot_dict_len x.ty F.entry_dict_len (F.args_dict_len_1 _) (JA (es:=es) (ep:=ep) hd) ⟨x,?_⟩))));refine(show Av _ _ _ _ _ {s with toks:=s.toks+1}from Aa (B3 (Aj (Aa (wpAny_letGo ?_)))));refine(show Av _ _ (if ((es.size:Nat):Int) < 0 then _ else _) _ _ _ from ?_);rw[if_neg ⋯];refine(show Av _ _ (if ((es.size:Nat):Int) ≥ 2 ^ 63 then _ else _) _ _ _ from ?_);rw[if_neg ⋯];exact Aa (wpAny_mkInt (Aj ⟨_,rfl,h⟩))
end
theorem GB:CallR X (.builtin "len") (λxs H Q=>∃a ps,xs=[V.ref a]/\Rd H a (.dX ps)/\Q (.int ps.length) H):=by
 intro pins s σ H xs us Q I r h;obtain⟨a,ps,rfl,ha,q⟩:=h;obtain⟨u,rfl,ru⟩:=gg r;cases(show u=As a from ru);obtain⟨z,y,ys,rel,o,es,ep,h1,h2,h3,h4,h5⟩:=(show ObjOk X.prog X.w H s.heap a (.dX ps)from ha.ok I.hok);have hsz:es.size=ps.length:=by
  have:=congrArg D8 h4;rw[Ad,Ce]at this;exact this.trans (D3 rel).symm
 have hs:Ar=16777216:=by decide
 refine N2 (es:=es) (ep:=ep) y ⟨o,h1,h2,h3⟩ (by rw[hsz];omega) ?_;rw[hsz];exact⟨.int ps.length,H,I.tok _,⟨_,rfl⟩,q⟩
end L2
namespace Nb
open PySem L2 DL
structure AfOk(Sa:aL)(pd:Ab)(N:Nat)(aft:TK->Nat->Option TK)(Gd:TK->Prop):Prop where
 call:∀(k:TK)(m:Nat)(n:Int)(Q:DQ),Gd k->m<=N->Q (.d (match aft k m with|some b=>b.1|none=>.none)) n->Sa [.d pd,.d k.1,.d (.int (m:Nat))] n Q
 good:∀(k:TK)(m:Nat)(b:TK),Gd k->m<=N->aft k m=ae b->Gd b
 tup:∀k:TK,Gd k->∃ds,k.1=.tuple ds
 prog:∃ps:List Ab,pd=.tuple ps/\ps.length=N
abbrev Fm:=List (TK×Ab)×List TK
def stp(aft:TK->Nat->Option TK)(s:TK)(p:Fm)(m:Nat):Fm:=match aft s m with
 |none=>p
 |some b=>if (aO p.1 b).isSome=ah then p else(p.1++[(b,.tuple [s.1,.int (m:Nat)])],p.2++[b])
def stpM(aft:TK->Nat->Option TK)(N:Nat)(p:Fm)(s:TK):Fm:=(A5 (N+1)).foldl (stp aft s) p
def bA(aft:TK->Nat->Option TK)(N:Nat)(p:Fm)(ss:List TK):Fm:=ss.foldl (stpM aft N) p
abbrev AQ:R2:=λx y H Q=>y=.non/\Q (.bl (!decide (x=.non))) H
abbrev GK:List V->Hp->VK->Prop:=λxs H Q=>∃a ps,xs=[V.ref a]/\Rd H a (.dX ps)/\Q (.int ps.length) H
abbrev BX(K:Af)(tm:TE)(rE:R2)(tz:TS):TS:=fi (eQ (fe (cS rE (eT GK (aM (az 1) aI)) tm)) tz ph) (fi (vU K (az 1) (az 6) (gG (aM (az 4) (aM (az 5) aI)))) (xA (tM K "list" uU (az 3) (aM (az 6) aI))))
abbrev qY(K:Af)(Sa:aL)(tm:TE)(rE:R2)(tz:TS):TS:=fi (aW (fH (cu Sa) [] E0 (aM (az 0) (aM (az 4) (aM (az 5) aI)))) (cv 6)) (eQ (jw (fe (cS AQ (az 6) (tC .non))) (fe (oQ K (az 6) (az 1)))) (BX K tm rE tz) ph)
abbrev kj(K:Af)(Sa:aL)(tm:TE)(rE:R2)(tz:TS)(tr:TE):TS:=fi (aW (iZ aI) (cv 3)) (fi (fV (om K (az 2)) (cv 4) (fV (nL (aM tr aI)) (cv 5) (qY K Sa tm rE tz))) (fJ (az 3)))
def KpD(t a:Addr)(H H':Hp):Prop:=∀b o,H b=ae o->b≠t->b≠a->H' b=ae o
section
variable{t a b:Addr}{H H1 H2 H3:Hp}
theorem KpD.refl:KpD t a H H:=λ_ _ e _ _=>e
theorem KpD.kp(k:KpD t a H1 H2)(k2:Kp t H2 H3):KpD t a H1 H3:=λb o e h1 h2=>k2 b o (k b o e h1 h2) h1
theorem KpD.new(k:KpD t a H1 H2)(h:H2 b=af):KpD t a H1 (upd H2 b o):=k.kp (Kp.new h)
theorem KpD.put(k:KpD t a H1 H2):KpD t a H1 (upd H2 a o):=λc o' e h1 h2=>by rw[aD h2];exact k c o' e h1 h2
theorem KpD.app(k:KpD t a H1 H2)(hb:H1 b=af):KpD t a H1 (upd H2 b o):=λc o' e h1 h2=>by rw[aD (aY e hb)];exact k c o' e h1 h2
end
structure FuI(H0:Hp)(t:Addr)(l:TL)(ns:List Int)(n:Int)(B:Addr->Prop)(a b:Addr)(p:Fm)(H:Hp):Prop where
 tp:Tp H t l ns n
 kp:KpD t a H0 H
 nb:H0 b=af
 fr:∃xs,H b=ae (.lst xs)/\RdXs H (λc=>B c\/c=b) xs (p.2.map (·.1))
 st:∃l',H a=ae (.dX l')/\RdY H (λc=>B c\/c=b) l' p.1
section
variable{H0 H H':Hp}{t:Addr}{l:TL}{ns:List Int}{n:Int}{B:Addr->Prop}{a b:Addr}{p:Fm}
theorem FuI.out(I:FuI H0 t l ns n B a b p H)(ht:B t)(ha:a≠t)(hb:b≠t)(T:Tp H' t l ns n)(k:Kp t H H'):FuI H0 t l ns n B a b p H':=by
 obtain⟨xs,e1,r1⟩:=I.fr;obtain⟨l',e2,r2⟩:=I.st;have mv:∀c o,H c=ae o->¬(B c\/c=b)->H' c=ae o/\¬(B c\/c=b):=λc o e nb=>⟨k c o e λz=>nb (.inl (z▸ht)),nb⟩;exact⟨T,I.kp.kp k,I.nb,⟨xs,k _ _ e1 hb,r1.move mv⟩,l',k _ _ e2 ha,r2.move mv⟩
end
structure FuC(H0:Hp)(t:Addr)(l:TL)(B:Addr->Prop)(a:Addr):Prop where
 bt:B t
 ba:B a
 ex:∀c,B c->H0 c≠af
 at':a≠t
 l0:H0 l.s≠af
 g0:l7=ah->H0 l.g≠af
section
variable{K:Af}{Sa:aL}{pd:Ab}{N:Nat}{aft:TK->Nat->Option TK}{Gd:TK->Prop}{tm:TE}{rE:R2}{tz:TS}{EX:Hp->Prop}{H0 H:Hp}{t:Addr}{l:TL}{ns:List Int}{n:Int}{B:Addr->Prop}{a b:Addr}{p:Fm}
theorem FuI.up(C:FuC H0 t l B a)(I:FuI H0 t l ns n B a b p H)(r:RdX H0 B v d):RdX H (λc=>B c\/c=b) v d:=
 r.move λc o e nb=>⟨I.kp c o e (λz=>nb (z▸C.bt)) (λz=>nb (z▸C.ba)),λz=>z.elim nb λq=>by rw[q,I.nb]at e;cases e⟩
theorem Ot(A:AfOk Sa pd N aft Gd)(C:FuC H0 t l B a)(htz:∀(D:Ends) (σ:St) (H:Hp),EX H->tz D σ H)(htm:∀(σ:St) (H:Hp) (Q:VK),Q (.int 2000) H->tm σ H Q)(hrE:∀(x y:Int) (H:Hp) (Q:VK),Q (.bl (decide (x=y))) H->rE (.int x) (.int y) H Q)
      (I:FuI H0 t l ns n B a b p H) (e0:σ[0]?=ae (ae v0)) (e1:σ[1]?=ae (ae (.ref a))) (e3:σ[3]?=ae (ae (.ref b))) (e4:σ[4]?=ae (ae v4)) (e5:σ[5]?=ae (ae (.int (m:Nat)))) (e6:6 < σ.length)
  (r0:RdX H0 B v0 pd) (r4:RdX H0 B v4 s.1) (gd:Gd s) (hm:m<=N) (hl:p.1.length<=2000) (hl2:p.2.length < Ar) {D:Ends} (hD:(stp aft s p m).1.length<=2000->∀v6 H',FuI H0 t l ns n B a b (stp aft s p m) H'->D.nx (σ.set 6 (ae v6)) H') (hE:2000 < (stp aft s p m).1.length->∀p' H',FuI H0 t l ns n B a b p' H'->EX H'):qY K Sa tm rE tz D σ H:=by
 have bt0:b≠t:=λz=>C.ex t C.bt (z▸I.nb);have ab0:a≠b:=λz=>C.ex a C.ba (z▸I.nb);obtain⟨xs0,eb0,_⟩:=I.fr;have hB':∀c,(B c\/c=b)->H c≠af:=λc z=>by
  rcases z with z|rfl
  ·by_cases q1:c=t
   ·subst q1;obtain⟨_,_,h,_⟩:=I.tp.ob;rw[h];exact λz=>nomatch z
   ·by_cases q2:c=a
    ·subst q2;obtain⟨_,h,_⟩:=I.st;rw[h];exact λz=>nomatch z
    ·cases e:H0 c with
     |none=>exact(C.ex c z e).elim
     |some o=>rw[I.kp c o e q1 q2];exact λz=>nomatch z
  ·rw[eb0];exact λz=>nomatch z
 refine⟨v0,e0,v4,e4,.int (m:Nat),e5,?_⟩;refine⟨t,l,ns,λc=>B c\/c=b,[.d pd,.d s.1,.d (.int (m:Nat))],n,λw n'=>n'=n/\w=.d (match aft s m with|some b=>b.1|none=>.none),I.tp,.inl C.bt,hB',.cons (I.up C r0) (.cons (I.up C r4) (.cons (.int _) .nil)),A.call s m n _ gd hm ⟨rfl,rfl⟩,?_⟩
 rintro w n' ⟨rfl,rfl⟩ v H1 T1 k1 r1
 have I1:=I.out C.bt C.at' bt0 T1 k1;have g6:(σ.set 6 (ae v))[6]?=ae (ae v):=by simp[e6]
 have gn:∀j,j≠6->(σ.set 6 (ae v))[j]?=σ[j]?:=λj z=>A6 λq=>z q.symm;show eQ (jw (fe (cS AQ (az 6) (tC .non))) (fe (oQ K (az 6) (az 1)))) (BX K tm rE tz) ph D (σ.set 6 (ae v)) H1;cases ea:aft s m with
 |none=>
  rw[ea]at r1;have ev:v=.non:=by cases(show RdX H1 _ v .none from r1);rfl
  subst ev;refine⟨.non,g6,rfl,ai,by simp,?_⟩;dsimp only;rw[if_neg ∎,if_neg ∎];have e0:stp aft s p m=p:=by unfold stp;rw[ea]
  exact hD (by rw[e0];exact hl) _ H1 (by rw[e0];exact I1)
 |some k=>
  rw[ea]at r1;have gk:=A.good s m k gd hm ea;obtain⟨ds,hds⟩:=A.tup k gk;obtain⟨q,rfl,rb⟩:=nS (show RdX H1 _ v k.1 from r1) ⟨rfl,ds,hds⟩;obtain⟨l',e2,r2⟩:=I1.st;obtain⟨xs,eb,rx⟩:=I1.fr;refine⟨.ref q,g6,rfl,ah,by simp,?_⟩;dsimp only;rw[if_pos rfl];refine⟨.ref q,g6,.ref a,by rw[gn 1 ∎];exact e1,a,bH l' k,rfl,⟨l',k,q,.inl e2,r2.keys,rfl,rb.rd,rfl⟩,_,rfl,?_⟩;rw[r2.isSome k];cases hs:(aO p.1 k).isSome with
  |true=>
   rw[if_neg ∎];have e0:stp aft s p m=p:=by unfold stp;rw[ea];dsimp only;rw[if_pos hs]
   exact hD (by rw[e0];exact hl) _ H1 (by rw[e0];exact I1)
  |false=>
   rw[if_pos ∎];refine⟨.ref a,by rw[gn 1 ∎];exact e1,a,l',rfl,.inl e2,htm _ _ _ (hrE _ _ _ _ ⟨_,rfl,?_⟩)⟩;have e0:stp aft s p m=(p.1++[(k,.tuple [s.1,.int (m:Nat)])],p.2++[k]):=by unfold stp;rw[ea];dsimp only;rw[if_neg (by rw[hs];decide)]
   have el:(stp aft s p m).1.length=p.1.length+1:=by rw[e0];simp
   dsimp only;by_cases hq:p.1.length=2000
   ·rw[if_pos (by rw[r2.len];simp[hq])];exact htz _ _ _ (hE ⋯ p H1 I1)
   have hl':l'.length < 2000:=by rw[r2.len];omega
   rw[if_neg (by simp;omega)];refine⟨v4,by rw[gn 4 ∎];exact e4,.int (m:Nat),by rw[gn 5 ∎];exact e5,(show 2<=Ar by decide),λq' hq'=>?_⟩;have nq:¬(B q'\/q'=b):=λz=>by
    rcases z with z|rfl
    ·by_cases q1:q'=t
     ·subst q1;obtain⟨_,_,h,_⟩:=T1.ob;rw[h]at hq';cases hq'
     ·by_cases q2:q'=a
      ·subst q2;rw[e2]at hq';cases hq'
      ·cases e:H0 q' with
       |none=>exact C.ex q' z e
       |some o=>rw[I1.kp q' o e q1 q2]at hq';cases hq'
    ·rw[eb]at hq';cases hq'
   have qa:a≠q':=λz=>nq (.inl (z▸C.ba));have qb:b≠q':=λz=>nq (.inr z.symm);have mv2:∀c o,H1 c=ae o->¬(B c\/c=b)->upd H1 q' (.tup [v4,.int (m:Nat)]) c=ae o/\¬(B c\/c=b):=λc o e nb=>⟨by rw[aD (aY e hq')];exact e,nb⟩;refine⟨.ref a,by rw[gn 1 ∎];exact e1,.ref q,g6,a,_,rfl,⟨l',k,q,by rw[aD qa];exact e2,(r2.move mv2).keys,rfl,(rb.move mv2).rd,Nat.lt_trans hl' ∎,rfl⟩,?_⟩;refine⟨.ref b,by rw[gn 3 ∎];exact e3,.inl ⟨rfl,xs,SqL.of (by rw[aD ab0.symm,aD qb];exact eb)⟩,.ref q,g6,b,xs,.ref q,rfl,rfl,by rw[aD ab0.symm,aD qb];exact eb,by rw[rx.len,Ad];exact hl2,?_⟩;have mv:∀c o,H1 c=ae o->¬(B c\/c=b)->upd (upd (upd H1 q' (.tup [v4,.int (m:Nat)])) a (.dX (cy l' k q (.ref q')))) b (.lst (xs++[.ref q])) c=ae o/\¬(B c\/c=b):=λc o e nb=>
    ⟨by rw[aD λ(z:c=b)=>nb (.inr z),aD λ(z:c=a)=>nb (.inl (z▸C.ba)),aD (aY e hq')];exact e,nb⟩
   refine hD ⋯ _ _ ?_;rw[e0];have als:l.s≠a:=λz=>by have:=T1.ls;rw[z,e2]at this;cases this
   refine⟨((T1.new hq').other C.at'.symm als λe z=>by have:=T1.ag e;rw[z,e2]at this;cases this).other bt0.symm (λz=>C.l0 (z▸I.nb)) (λe z=>C.g0 e (z▸I.nb)),((I1.kp.new hq').put).app I.nb,I.nb,⟨_,aR,?_⟩,cy l' k q (.ref q'),by rw[aD ab0,aR],?_⟩
   ·rw[Bw];exact(rx.move mv).append (.cons (rb.move mv) .nil)
   ·have:=(r2.move mv).put (rb.move mv) (v:=.ref q') (d:=.tuple [s.1,.int (m:Nat)]) (.tup (xs:=[v4,.int (m:Nat)]) (by rw[aD qb.symm,aD qa.symm,aR]) nq (show 2<=Ar by decide) (.cons ((I1.up C r4).move mv) (.cons (.int _) .nil)));unfold jy at this;rw[if_neg (by rw[hs];decide)]at this;exact this
end
theorem IF(aft)(s)(p:Fm)(m):p.1.length<=(stp aft s p m).1.length:=by
 unfold stp
 split
 ·exact Am _
 ·split
  ·exact Am _
  ·rw[A2];exact Nat.le_add_right _ _
theorem zQ(aft)(s)(p:Fm)(m)(h:p.2.length<=p.1.length):(stp aft s p m).2.length<=(stp aft s p m).1.length:=by
 unfold stp
 split
 ·exact h
 ·split
  ·exact h
  ·rw[A2,A2];exact Nat.succ_le_succ h
theorem rP{α:Type}(f)(h:∀p x,p.1.length<=(f p x).1.length):∀(l:List α)(p:Fm),p.1.length<=(l.foldl f p).1.length
 |[],_=>Am _
 |x::l,p=>Bb (h p x) (rP f h l (f p x))
theorem oh{α:Type}(f)(h:∀p x,p.2.length<=p.1.length->(f p x).2.length<=(f p x).1.length):∀(l:List α)(p:Fm),p.2.length<=p.1.length->(l.foldl f p).2.length<=(l.foldl f p).1.length
 |[],_,q=>q
 |x::l,p,q=>oh f h l (f p x) (h p x q)
theorem Te(aft)(N)(p:Fm)(s):p.1.length<=(stpM aft N p s).1.length:=rP _ (IF aft s) _ _
theorem DU(aft)(N)(p:Fm)(s)(h:p.2.length<=p.1.length):(stpM aft N p s).2.length<=(stpM aft N p s).1.length:=oh _ (λp m=>zQ aft s p m) _ _ h
structure FuS(v0:V)(a c b:Addr)(σ:St):Prop where
 s0:σ[0]?=ae (ae v0)
 s1:σ[1]?=ae (ae (.ref a))
 s2:σ[2]?=ae (ae (.ref c))
 s3:σ[3]?=ae (ae (.ref b))
 ln:6 < σ.length
theorem FuS.set(S:FuS v0 a c b σ)(hj:3 < j):FuS v0 a c b (σ.set j (ae v)):=by
 have g:∀i,i<=3->(σ.set j (ae v))[i]?=σ[i]?:=λi h=>A6 ⋯;exact⟨by rw[g 0 ∎];exact S.s0,by rw[g 1 ∎];exact S.s1,by rw[g 2 ∎];exact S.s2,by rw[g 3 ∎];exact S.s3,by rw[B8];exact S.ln⟩
section
variable{K:Af}{Sa:aL}{pd:Ab}{N:Nat}{aft:TK->Nat->Option TK}{Gd:TK->Prop}{tm tr:TE}{rE:R2}{tz:TS}{EX:Hp->Prop}{H0 H:Hp}{t:Addr}{l:TL}{ns:List Int}{n:Int}{B:Addr->Prop}{a b c:Addr}{p:Fm}{v0:V}
theorem J7(A:AfOk Sa pd N aft Gd)(C:FuC H0 t l B a)(hN:N < 2 ^ 60)(htz:∀(D:Ends) (σ:St) (H:Hp),EX H->tz D σ H)(htm:∀(σ:St) (H:Hp) (Q:VK),Q (.int 2000) H->tm σ H Q)(hrE:∀(x y:Int) (H:Hp) (Q:VK),Q (.bl (decide (x=y))) H->rE (.int x) (.int y) H Q)
  (r0:RdX H0 B v0 pd) (htr:∀(σ:St)(H:Hp)(Q:VK)(B:Addr->Prop),σ[0]?=ae (ae v0)->RdX H B v0 pd->Q (.int ((N+1:Nat):Int)) H->tr σ H Q)
     (I:FuI H0 t l ns n B a b p H) (S:FuS v0 a c b σ) (e4:σ[4]?=ae (ae v4)) (r4:RdX H0 B v4 s.1) (gd:Gd s) (hs:p.2.length<=p.1.length) (hp:p.1.length<=2000) {D:Ends}
  (hD:(stpM aft N p s).1.length<=2000->∀σ' H',FuS v0 a c b σ'->FuI H0 t l ns n B a b (stpM aft N p s) H'->D.nx σ' H') (hE:2000 < (stpM aft N p s).1.length->∀p' H',FuI H0 t l ns n B a b p' H'->EX H'):fV (nL (aM tr aI)) (cv 5) (qY K Sa tm rE tz) D σ H:=by
 refine htr σ H _ _ S.s0 (I.up C r0) ⟨((N+1:Nat):Int),rfl,by omega,by omega,?_⟩;rw[Dz];refine⟨λi m σ' H'=>m=N+1-i/\i<=N+1/\FuS v0 a c b σ'/\σ'[4]?=ae (ae v4)/\((A5 i).foldl (stp aft s) p).1.length<=2000/\FuI H0 t l ns n B a b ((A5 i).foldl (stp aft s) p) H',⟨_,rfl,Az _,S,e4,hp,I⟩,?_⟩
 rintro i m σ' H' ⟨rfl,hi,S',e4',low,I'⟩
 by_cases q:i=N+1
 ·subst q;exact .inl ⟨Am _,hD low σ' H' S' I'⟩
 ·have hi':i < N+1:=by omega
  refine .inr ⟨hi',λσ2 H2=>FuS v0 a c b σ2/\σ2[4]?=ae (ae v4)/\((A5 (i+1)).foldl (stp aft s) p).1.length<=2000/\FuI H0 t l ns n B a b ((A5 (i+1)).foldl (stp aft s) p) H2,λσ2 H2 z=>⟨N+1-(i+1),by omega,rfl,hi',z⟩,?_⟩
  rintro x H2 ⟨rfl,rfl⟩
  rw[Int.zero_add];have S5:FuS v0 a c b (σ'.set 5 (ae (.int (i:Nat)))):=S'.set ∎;have f4:(σ'.set 5 (ae (V.int (i:Nat))))[4]?=ae (ae v4):=by rw[A6 ∎];exact e4'
  have f5:(σ'.set 5 (ae (V.int (i:Nat))))[5]?=ae (ae (.int (i:Nat))):=Bq (by have:=S'.ln;omega);have e:=List.range_succ (n:=i);have up:((A5 (i+1)).foldl (stp aft s) p).1.length<=(stpM aft N p s).1.length:=by
   unfold stpM;obtain⟨l2,hl2⟩:∃l2,A5 (N+1)=A5 (i+1)++l2:=⟨(A5 (N+1)).drop (i+1),by
    have:(A5 (N+1)).take (i+1)=A5 (i+1):=by rw[List.take_range,Nat.min_eq_left hi']
    rw[<-this,List.take_append_drop]⟩
   rw[hl2,Ew];exact rP _ (IF aft s) _ _
  have e2:(A5 (i+1)).foldl (stp aft s) p=stp aft s ((A5 i).foldl (stp aft s) p) i:=by rw[e,Ew];rfl
  have sub:=oh _ (λp m=>zQ aft s p m) (A5 i) p hs;exact Ot (K:=K) A C htz htm hrE I' S5.s0 S5.s1 S5.s3 f4 f5 S5.ln r0 r4 gd (Dw hi') low (Hh (Bb sub low) ∎) (λle v6 H3 I3=>⟨S5.set ∎,by rw[A6 ∎];exact f4,by rw[e2];exact le,by rw[e2];exact I3⟩)
   λgt p' H' I3=>hE (by rw[<-e2]at gt;omega) p' H' I3
theorem LO(A:AfOk Sa pd N aft Gd)(C:FuC H0 t l B a)(hN:N < 2 ^ 60)(htz:∀(D:Ends) (σ:St) (H:Hp),EX H->tz D σ H)(htm:∀(σ:St) (H:Hp) (Q:VK),Q (.int 2000) H->tm σ H Q)(hrE:∀(x y:Int) (H:Hp) (Q:VK),Q (.bl (decide (x=y))) H->rE (.int x) (.int y) H Q)
  (r0:RdX H0 B v0 pd) (htr:∀(σ:St)(H:Hp)(Q:VK)(B:Addr->Prop),σ[0]?=ae (ae v0)->RdX H B v0 pd->Q (.int ((N+1:Nat):Int)) H->tr σ H Q)
       (T:Tp H0 t l ns n) (e0:σ[0]?=ae (ae v0)) (e1:σ[1]?=ae (ae (.ref a))) (e2:σ[2]?=ae (ae (.ref c))) (e6:6 < σ.length)
  (ha:H0 a=ae (.dX l0)) (ra:RdY H0 B l0 m0) (hc:H0 c=ae (.lst xs)) (ct:c≠t) (rc:RdXs H0 B xs (ss.map (·.1))) (gd:∀s∈ss,Gd s) (hm0:m0.length<=2000) {D:Ends}
  (hD:(bA aft N (m0,[]) ss).1.length<=2000->∀b H',FuI H0 t l ns n B a b (bA aft N (m0,[]) ss) H'->D.rt (.ref b) H') (hE:2000 < (bA aft N (m0,[]) ss).1.length->∀b p' H',FuI H0 t l ns n B a b p' H'->EX H'):kj K Sa tm rE tz tr D σ H0:=by
 refine⟨Az _,λb hb=>?_⟩;have bt0:b≠t:=λz=>C.ex t C.bt (z▸hb);have ca:c≠a:=λz=>by rw[z,ha]at hc;cases hc
 have mv:∀q o,H0 q=ae o->¬B q->upd H0 b (.lst []) q=ae o/\¬(B q\/q=b):=λq o e nb=>⟨by rw[aD (aY e hb)];exact e,λz=>z.elim nb λw=>by rw[w,hb]at e;cases e⟩;have I0:FuI H0 t l ns n B a b (m0,[]) (upd H0 b (.lst [])):=⟨T.new hb,KpD.refl.new hb,hb,⟨[],aR,.nil⟩,l0,by rw[aD (aY ha hb)];exact ha,ra.move mv⟩;have S0:FuS v0 a c b (σ.set 3 (ae (.ref b))):=by
  have g:∀i,i≠3->(σ.set 3 (ae (V.ref b)))[i]?=σ[i]?:=λi h=>A6 λz=>h z.symm;exact⟨by rw[g 0 ∎];exact e0,by rw[g 1 ∎];exact e1,by rw[g 2 ∎];exact e2,Bq ⋯,by rw[B8];exact e6⟩
 show fV (om K (az 2)) (cv 4) (fV (nL (aM tr aI)) (cv 5) (qY K Sa tm rE tz)) {D with nx:=fJ (az 3) D} (σ.set 3 (ae (.ref b))) (upd H0 b (.lst []));have cat:∀{p:Fm}{H:Hp},FuI H0 t l ns n B a b p H->SqL K H c xs:=λI=>SqL.of (I.kp c _ hc ct ca);refine⟨.ref c,S0.s2,c,rfl,⟨xs,cat I0⟩,λi m σ' H'=>m=ss.length-i/\i<=ss.length/\FuS v0 a c b σ'/\((ss.take i).foldl (stpM aft N) (m0,[])).1.length<=2000/\FuI H0 t l ns n B a b ((ss.take i).foldl (stpM aft N) (m0,[])) H',⟨_,rfl,Az _,S0,hm0,I0⟩,?_⟩;have hlen:xs.length=ss.length:=by rw[rc.len,Ad]
 rintro i m σ' H' ⟨rfl,hi,S',low,I'⟩
 by_cases q:i=ss.length
 ·subst q;rw[List.take_length]at I' low;exact .inl ⟨⟨xs,cat I',by omega⟩,.ref b,S'.s3,hD low b H' I'⟩
 ·have hi':i < ss.length:=by omega
  obtain⟨x,hx⟩:∃x,xs[i]?=ae x:=⟨xs[i],Ag ⋯⟩;have hs:ss[i]?=ae ss[i]:=Ag hi';obtain⟨d,hd,rx⟩:=rc.get hx;rw[Aq,hs]at hd;cases hd;have e:ss.take (i+1)=ss.take i++[ss[i]]:=by rw[List.take_succ,hs];rfl
  refine .inr ⟨⟨xs,x,cat I',hx⟩,λσ2 H2=>FuS v0 a c b σ2/\((ss.take (i+1)).foldl (stpM aft N) (m0,[])).1.length<=2000/\FuI H0 t l ns n B a b ((ss.take (i+1)).foldl (stpM aft N) (m0,[])) H2,λσ2 H2 z=>⟨ss.length-(i+1),by omega,rfl,hi',z⟩,?_⟩
  rintro y H2 ⟨rfl,hy⟩
  have hy:=hy xs (cat I');rw[hx]at hy;cases hy;have sub:=oh _ (λp s=>DU aft N p s) (ss.take i) (m0,[]) (Az _);have e':(ss.take (i+1)).foldl (stpM aft N) (m0,[])=stpM aft N ((ss.take i).foldl (stpM aft N) (m0,[])) ss[i]:=by rw[e,Ew];rfl
  have up:((ss.take (i+1)).foldl (stpM aft N) (m0,[])).1.length<=(bA aft N (m0,[]) ss).1.length:=by
   show _<=(ss.foldl (stpM aft N) (m0,[])).1.length
   conv=>rhs;rw[<-List.take_append_drop (i+1) ss,Ew]
   exact rP _ (Te aft N) _ _
  exact J7 (K:=K) A C hN htz htm hrE r0 htr I' (S'.set (j:=4) ∎) (Bq (by have:=S'.ln;omega)) rx (gd _ (Cm hi')) sub low (λle σ2 H2 S2 I2=>⟨S2,by rw[e'];exact le,by rw[e'];exact I2⟩)
   λgt p' H' I2=>hE (by rw[<-e']at gt;omega) b p' H' I2
end
theorem jZ(m:List (TK×Ab))(k):((aO m k).isSome=ah)↔k∈m.map (·.1):=by
 unfold aO;rw[En,List.find?_isSome];simp
section
variable(aft:TK->Nat->Option TK)(N:Nat)
def q1(s:TK)(ks:List TK)(m:Nat):List TK:=match aft s m with
 |none=>ks
 |some b=>if b∈ks then ks else ks++[b]
def qs(ks:List TK)(s:TK):List TK:=(A5 (N+1)).foldl (q1 aft s) ks
def Lr(s0:TK):Nat->List TK
 |0=>[s0]
 |j+1=>match (Lr s0 j)[j]? with
  |some s=>qs aft N (Lr s0 j) s
  |none=>Lr s0 j
end
section
variable{aft:TK->Nat->Option TK}{N:Nat}
theorem sR{α β:Type}(f)(h:∀l x,l <+: f l x):∀(xs:List β)(l:List α),l <+: xs.foldl f l
 |[],_=>D4 _
 |x::xs,l=>(h l x).trans (sR f h xs (f l x))
theorem zN(s)(ks)(m):ks <+: q1 aft s ks m:=by
 unfold q1
 split
 ·exact D4 _
 ·split
  ·exact D4 _
  ·exact List.prefix_append _ _
theorem OE(ks)(s):ks <+: qs aft N ks s:=sR _ (zN s) _ _
theorem QW(h:aft s m=ae b):b∈q1 aft s ks m:=by
 unfold q1;rw[h];dsimp only
 split
 ·assumption
 ·simp
theorem BL(hm:m<=N)(h:aft s m=ae b):b∈qs aft N ks s:=by
 obtain⟨l1,l2,e⟩:=List.append_of_mem (Bo.mpr (Nat.lt_succ_of_le hm));unfold qs;rw[show N.succ=N+1 from rfl]at e;rw[e,Ew,Fi];exact(sR _ (zN s) l2 _).subset (QW h)
theorem NR(s0)(j):Lr aft N s0 j <+: Lr aft N s0 (j+1):=by
 show _ <+: (match (Lr aft N s0 j)[j]? with|some s=>qs aft N (Lr aft N s0 j) s|none=>Lr aft N s0 j)
 split
 ·exact OE _ _
 ·exact D4 _
theorem lP(s0)(i k):Lr aft N s0 i <+: Lr aft N s0 (i+k):=by
 induction k with
 |zero=>exact D4 _
 |succ k ih=>exact ih.trans (NR s0 (i+k))
theorem mF{α:Type}{l l':List α}(h:l <+: l')(hi:i < l.length):l'[i]?=l[i]?:=by
 obtain⟨t,rfl⟩:=h;rw[D0 hi]
theorem AR(s0)(c):∀k,c+k<=(Lr aft N s0 c).length->Lr aft N s0 (c+k)=(((Lr aft N s0 c).drop c).take k).foldl (qs aft N) (Lr aft N s0 c)
 |0,_=>by simp
 |k+1,h=>by
  have ih:=AR s0 c k ⋯;have hlt:c+k < (Lr aft N s0 c).length:=by omega
  have e1:(Lr aft N s0 (c+k))[c+k]?=ae (Lr aft N s0 c)[c+k]:=by rw[mF (lP s0 c k) hlt];exact Ag hlt
  have e2:((Lr aft N s0 c).drop c).take (k+1)=((Lr aft N s0 c).drop c).take k++[(Lr aft N s0 c)[c+k]]:=by
   rw[List.take_succ,List.getElem?_drop,Ag hlt];rfl
  show(match (Lr aft N s0 (c+k))[c+k]? with|some s=>qs aft N (Lr aft N s0 (c+k)) s|none=>Lr aft N s0 (c+k))=_;rw[e1,e2,Ew,<-ih];rfl
theorem Rn(h:p.1.map (·.1)=base++p.2):(stp aft s p m).1.map (·.1)=base++(stp aft s p m).2/\(stp aft s p m).1.map (·.1)=q1 aft s (p.1.map (·.1)) m:=by
 unfold stp q1;cases e:aft s m with
 |none=>exact⟨h,rfl⟩
 |some b=>
  dsimp only;by_cases z:(aO p.1 b).isSome=ah
  ·rw[if_pos z,if_pos ((jZ _ _).mp z)];exact⟨h,rfl⟩
  ·rw[if_neg z,if_neg λy=>z ((jZ _ _).mpr y)];refine⟨?_,by simp⟩;simp only[Bw,Bg,List.map_nil];rw[h,Bk]
theorem tX{α:Type}(f)(g)(hf:∀p x,p.1.map (·.1)=base++p.2->(f p x).1.map (·.1)=base++(f p x).2/\(f p x).1.map (·.1)=g (p.1.map (·.1)) x):
  ∀(xs:List α)(p:Fm),p.1.map (·.1)=base++p.2->(xs.foldl f p).1.map (·.1)=base++(xs.foldl f p).2/\(xs.foldl f p).1.map (·.1)=xs.foldl g (p.1.map (·.1))
 |[],p,h=>⟨h,rfl⟩
 |x::xs,p,h=>by
  obtain⟨h1,h2⟩:=hf p x h;have:=tX f g hf xs (f p x) h1;rw[h2]at this;exact this
theorem Na(ss:List TK):(bA aft N (m,[]) ss).1.map (·.1)=m.map (·.1)++(bA aft N (m,[]) ss).2/\(bA aft N (m,[]) ss).1.map (·.1)=ss.foldl (qs aft N) (m.map (·.1)):=
 tX _ _ (λp s h=>tX _ _ (λ_ _ h=>Rn h) (A5 (N+1)) p h) ss (m,[]) (by simp)
structure Lev(aft:TK->Nat->Option TK)(N:Nat)(s0:TK)(c:Nat)(m:List (TK×Ab))(ss:List TK):Prop where
 ks:m.map (·.1)=Lr aft N s0 c
 rs:ss=(Lr aft N s0 c).drop c
 le:c<=(Lr aft N s0 c).length
theorem Lev.next(L:Lev aft N s0 c m ss):Lev aft N s0 (Lr aft N s0 c).length (bA aft N (m,[]) ss).1 (bA aft N (m,[]) ss).2:=by
 obtain⟨h1,h2⟩:=Na (aft:=aft) (N:=N) (m:=m) ss;have hk:c+((Lr aft N s0 c).length-c)=(Lr aft N s0 c).length:=by have:=L.le;omega
 have hr:=AR (aft:=aft) (N:=N) s0 c ((Lr aft N s0 c).length-c) ⋯;rw[hk,Gs (by rw[D5];omega),<-L.rs,<-L.ks]at hr;have e1:(bA aft N (m,[]) ss).1.map (·.1)=Lr aft N s0 (m.map (·.1)).length:=by rw[h2,<-hr]
 rw[L.ks]at e1;refine⟨e1,?_,?_⟩
 ·rw[<-e1,h1,L.ks,List.drop_left'];rfl
 ·rw[<-e1,h1,L.ks,A2];omega
theorem Lev.first(s0)(d):Lev aft N s0 0 [(s0,d)] [s0]:=⟨rfl,rfl,Az _⟩
theorem rO(h:(Lr aft N s0 J).length<=J):∀k,Lr aft N s0 (J+k)=Lr aft N s0 J
 |0=>rfl
 |k+1=>by
  show(match (Lr aft N s0 (J+k))[J+k]? with|some s=>qs aft N (Lr aft N s0 (J+k)) s|none=>Lr aft N s0 (J+k))=_;rw[rO h k,Cb ⋯]
theorem NJ(h:(Lr aft N s0 J).length<=J)(c):(Lr aft N s0 c).length<=(Lr aft N s0 J).length:=by
 by_cases z:c<=J
 ·have:=(lP (aft:=aft) (N:=N) s0 c (J-c)).length_le;rwa [show c+(J-c)=J by omega]at this
 ·have:=rO h (c-J);rw[show J+(c-J)=c by omega]at this;rw[this];exact Am _
theorem QH(h:(Lr aft N s0 J).length<=J)(hs:s∈Lr aft N s0 J)(hm:m<=N)(e:aft s m=ae b):b∈Lr aft N s0 J:=by
 obtain⟨i,hi,rfl⟩:=F9 hs;have hi':i < J:=by omega
 have hb:=lP (aft:=aft) (N:=N) s0 (i+1) (J-(i+1));rw[show i+1+(J-(i+1))=J by omega]at hb;have ha:=lP (aft:=aft) (N:=N) s0 i (J-i);rw[show i+(J-i)=J by omega]at ha;refine hb.subset ?_;show b∈(match (Lr aft N s0 i)[i]? with|some s=>qs aft N (Lr aft N s0 i) s|none=>Lr aft N s0 i);by_cases hl:i < (Lr aft N s0 i).length
 ·have:(Lr aft N s0 i)[i]?=ae (Lr aft N s0 J)[i]:=by rw[<-mF ha hl];exact Ag hi
  rw[this];exact BL hm e
 ·have e1:=rO (aft:=aft) (N:=N) (s0:=s0) (J:=i) ⋯ (J-i);rw[show i+(J-i)=J by omega]at e1;rw[e1]at hi;exact absurd hi hl
end
section
variable{aft:TK->Nat->Option TK}{N:Nat}{s0:TK}
def kc(aft:TK->Nat->Option TK):TK->List Nat->Option TK
 |s,[]=>ae s
 |s,m::r=>(aft s m).bind λb=>kc aft b r
theorem CZ(aft):∀(s:TK)(r:List Nat)(m:Nat),kc aft s (r++[m])=(kc aft s r).bind λb=>aft b m
 |s,[],m=>by show(aft s m).bind (λb=>ae b)=aft s m;cases aft s m<;>rfl
 |s,x::r,m=>by
  show(aft s x).bind (λb=>kc aft b (r++[m]))=((aft s x).bind λb=>kc aft b r).bind λb=>aft b m;cases aft s x with
  |none=>rfl
  |some b=>exact CZ aft b r m
inductive ParI(aft:TK->Nat->Option TK)(N:Nat)(s0:TK):List (TK×Ab)->Prop
 |one:ParI aft N s0 [(s0,.none)]
 |snoc {m:List (TK×Ab)} {s b:TK} {mv:Nat}:ParI aft N s0 m->s∈m.map (·.1)->mv<=N->aft s mv=ae b->b∉m.map (·.1)->ParI aft N s0 (m++[(b,.tuple [s.1,.int (mv:Nat)])])
inductive Way(m:List (TK×Ab)):TK->List Nat->Prop
 |root {k:TK}:aO m k=ae .none->Way m k []
 |step {k s:TK} {mv:Nat} {ms:List Nat}:aO m k=ae (.tuple [s.1,.int (mv:Nat)])->Way m s ms->Way m k (mv::ms)
theorem CJ(h:aO m k=ae d):aO (m++x) k=ae d:=by
 unfold aO at h ⊢;rw[List.find?_append];cases e:m.find? λq=>decide (q.1=k)with
 |none=>rw[e]at h;cases h
 |some q=>rw[e]at h;exact h
theorem zv(h:k∉m.map (·.1)):aO (m++[(k,d)]) k=ae d:=by
 have e:aO m k=af:=by
  cases z:aO m k with
  |none=>rfl
  |some d=>exact absurd ((jZ m k).mp (by rw[z];rfl)) h
 unfold aO at e ⊢;rw[List.find?_append];cases z:m.find? λq=>decide (q.1=k)with
 |none=>simp
 |some q=>rw[z]at e;cases e
theorem Way.app(h:Way m k ms):Way (m++x) k ms:=by
 induction h with
 |root e=>exact .root (CJ e)
 |step e _ ih=>exact .step (CJ e) ih
theorem zY(h:ParI aft N s0 m):∀k∈m.map (·.1),∃ms,Way m k ms/\kc aft s0 ms.reverse=ae k/\ms.length < m.length/\∀x∈ms,x<=N:=by
 induction h with
 |one=>
  intro k hk;obtain rfl:k=s0:=by simpa using hk
  exact⟨[],.root (by simp[aO]),rfl,Nat.zero_lt_one,λx hx=>nomatch hx⟩
 |@snoc m s b mv hp hs hm ha hb ih=>
  intro k hk;rw[Bw,Bv]at hk;rcases hk with hk|hk
  ·obtain⟨ms,w,e,l,f⟩:=ih k hk;exact⟨ms,w.app,e,by rw[A2];omega,f⟩
  ·obtain rfl:k=b:=by simpa using hk
   obtain⟨ms,w,e,l,f⟩:=ih s hs;refine⟨mv::ms,.step (zv hb) w.app,?_,by rw[A2,Bf,C9];omega,λx hx=>(Aw.mp hx).elim (λz=>z▸hm) (f x)⟩;rw[Gt,CZ,e];exact ha
theorem ParI.stp(h:ParI aft N s0 p.1)(hs:s∈p.1.map (·.1))(hm:mv<=N):ParI aft N s0 (stp aft s p mv).1:=by
 unfold Nb.stp;cases e:aft s mv with
 |none=>exact h
 |some b=>
  dsimp only;by_cases z:(aO p.1 b).isSome=ah
  ·rw[if_pos z];exact h
  ·rw[if_neg z];exact .snoc h hs hm e λy=>z ((jZ _ _).mpr y)
theorem CH(h:b∈p.1.map (·.1)):b∈(stp aft s p mv).1.map (·.1):=by
 unfold Nb.stp
 split
 ·exact h
 ·split
  ·exact h
  ·rw[Bw];exact Fx _ h
theorem ParI.stpM:∀(ms:List Nat)(p:Fm),ParI aft N s0 p.1->s∈p.1.map (·.1)->(∀m∈ms,m<=N)->ParI aft N s0 (ms.foldl (Nb.stp aft s) p).1/\∀b∈p.1.map (·.1),b∈(ms.foldl (Nb.stp aft s) p).1.map (·.1)
 |[],_,h,_,_=>⟨h,λ_ z=>z⟩
 |m::ms,p,h,hs,hm=>by
  obtain⟨h1,h2⟩:=ParI.stpM ms (Nb.stp aft s p m) (h.stp hs (hm m Au)) (CH hs) λx hx=>hm x (An _ hx);exact⟨h1,λb hb=>h2 b (CH hb)⟩
theorem ParI.fur:∀(ss:List TK)(p:Fm),ParI aft N s0 p.1->(∀s∈ss,s∈p.1.map (·.1))->ParI aft N s0 (bA aft N p ss).1
 |[],_,h,_=>h
 |s::ss,p,h,hs=>by
  obtain⟨h1,h2⟩:=ParI.stpM (A5 (N+1)) p h (hs s Au) λx hx=>Dw (Bo.mp hx);exact ParI.fur ss (Nb.stpM aft N p s) h1 λx hx=>h2 x (hs x (An _ hx))
theorem Way.uniq(h:Way m k ms)(h':Way m k ms'):ms=ms':=by
 induction h generalizing ms' with
 |root e=>
  cases h' with
  |root _=>rfl
  |step e' _=>rw[e]at e';cases e'
 |step e _ ih=>
  cases h' with
  |root e'=>rw[e]at e';cases e'
  |step e' w=>
   rw[e]at e';injection e' with e';injection e' with e';injection e' with e1 e2;injection e2 with e2 _;injection e2 with e2;have hs:=Subtype.ext e1;subst hs;rw[Int.ofNat.inj e2,ih w]
end
section
variable(aft:TK->Nat->Option TK)(N:Nat)
def dS(s:TK×Nat)(E:List (TK×Nat))(m:Nat):List (TK×Nat):=match aft s.1 m with
 |none=>E
 |some b=>if b∈E.map (·.1)then E else E++[(b,s.2+1)]
def dM(E:List (TK×Nat))(s:TK×Nat):List (TK×Nat):=(A5 (N+1)).foldl (dS aft s) E
def El(s0:TK):Nat->List (TK×Nat)
 |0=>[(s0,0)]
 |j+1=>match (El s0 j)[j]? with
  |some s=>dM aft N (El s0 j) s
  |none=>El s0 j
def pS(s:TK)(m:List (TK×Ab))(i:Nat):List (TK×Ab):=match aft s i with
 |none=>m
 |some b=>if b∈m.map (·.1)then m else m++[(b,.tuple [s.1,.int (i:Nat)])]
def pM(m:List (TK×Ab))(s:TK):List (TK×Ab):=(A5 (N+1)).foldl (pS aft s) m
end
section
variable{aft:TK->Nat->Option TK}{N:Nat}{s0:TK}
theorem KW(s)(p:Fm)(i):(stp aft s p i).1=pS aft s p.1 i:=by
 unfold stp pS;cases aft s i with
 |none=>rfl
 |some b=>
  dsimp only;by_cases z:(aO p.1 b).isSome=ah
  ·rw[if_pos z,if_pos ((jZ _ _).mp z)]
  ·rw[if_neg z,if_neg λy=>z ((jZ _ _).mpr y)]
theorem t8{α:Type}(f)(g)(h:∀p x,(f p x).1=g p.1 x):∀(xs:List α)(p:Fm),(xs.foldl f p).1=xs.foldl g p.1
 |[],_=>rfl
 |x::xs,p=>by rw[Fi,Fi,t8 f g h xs,h]
theorem RW(m)(ss:List TK):(bA aft N (m,[]) ss).1=ss.foldl (pM aft N) m:=t8 _ _ (λp s=>t8 _ _ (KW s) _ p) ss (m,[])
structure Syn(m:List (TK×Ab))(E:List (TK×Nat)):Prop where
 ks:m.map (·.1)=E.map (·.1)
 wy:∀e∈E,∃ms,Way m e.1 ms/\ms.length=e.2
theorem Syn.one:Syn [(s0,.none)] [(s0,0)]:=⟨rfl,λe he=>by obtain rfl:e=(s0,0):=(by simpa using he);exact⟨[],.root (by simp[aO]),rfl⟩⟩
theorem Syn.st(h:Syn m E)(hs:s∈E)(i):Syn (pS aft s.1 m i) (dS aft s E i)/\s∈dS aft s E i:=by
 unfold pS dS;cases aft s.1 i with
 |none=>exact⟨h,hs⟩
 |some b=>
  dsimp only;rw[h.ks];by_cases z:b∈E.map (·.1)
  ·rw[if_pos z,if_pos z];exact⟨h,hs⟩
  ·rw[if_neg z,if_neg z];refine⟨⟨by rw[Bw,Bw,h.ks];rfl,λe he=>?_⟩,Fx _ hs⟩;rcases Bv.mp he with he|he
   ·obtain⟨ms,w,l⟩:=h.wy e he;exact⟨ms,w.app,l⟩
   ·obtain rfl:e=(b,s.2+1):=by simpa using he
    obtain⟨ms,w,l⟩:=h.wy s hs;exact⟨i::ms,.step (zv (by rw[h.ks];exact z)) w.app,by rw[Bf,l]⟩
theorem Syn.sM:∀(is:List Nat)(m:List (TK×Ab))(E:List (TK×Nat)),Syn m E->s∈E->Syn (is.foldl (pS aft s.1) m) (is.foldl (dS aft s) E)
 |[],_,_,h,_=>h
 |i::is,m,E,h,hs=>let⟨h1,h2⟩:=h.st (aft:=aft) hs i;Syn.sM is _ _ h1 h2
theorem Lz(s:TK×Nat)(E:List (TK×Nat))(i):(dS aft s E i).map (·.1)=q1 aft s.1 (E.map (·.1)) i:=by
 unfold dS q1;cases aft s.1 i with
 |none=>rfl
 |some b=>
  dsimp only;by_cases z:b∈E.map (·.1)
  ·rw[if_pos z,if_pos z]
  ·rw[if_neg z,if_neg z,Bw];rfl
theorem FU(s:TK×Nat)(E:List (TK×Nat)):(dM aft N E s).map (·.1)=qs aft N (E.map (·.1)) s.1:=by
 unfold dM qs;generalize A5 (N+1)=l
 induction l generalizing E with
 |nil=>rfl
 |cons i l ih=>rw[Fi,Fi,ih,Lz]
theorem jW:∀j,(El aft N s0 j).map (·.1)=Lr aft N s0 j
 |0=>rfl
 |j+1=>by
  have ih:=jW j;show List.map (λe:TK×Nat=>e.1) (match (El aft N s0 j)[j]? with|some s=>dM aft N (El aft N s0 j) s|none=>El aft N s0 j)=(match (Lr aft N s0 j)[j]? with|some s=>qs aft N (Lr aft N s0 j) s|none=>Lr aft N s0 j);rw[<-ih,Aq];cases(El aft N s0 j)[j]? with
  |none=>rfl
  |some s=>exact FU s _
structure Grow(E:List (TK×Nat))(n:Nat):Prop where
 so:(E.map (·.2)).Pairwise (·<=·)
 le:∀e∈E,e.2<=n+1
theorem Grow.st(h:Grow E s.2)(i):Grow (dS aft s E i) s.2:=by
 unfold dS;cases aft s.1 i with
 |none=>exact h
 |some b=>
  dsimp only
  split
  ·exact h
  ·refine⟨?_,λe he=>?_⟩
   ·rw[Bw,List.pairwise_append];refine⟨h.so,E8 _ _,λx hx y hy=>?_⟩;obtain rfl:y=s.2+1:=by simpa using hy
    obtain⟨e,he,rfl⟩:=A3.mp hx;exact h.le e he
   ·rcases Bv.mp he with he|he
    ·exact h.le e he
    ·obtain rfl:e=(b,s.2+1):=by simpa using he
     exact Am _
theorem Grow.sM:∀(is:List Nat)(E:List (TK×Nat)),Grow E s.2->Grow (is.foldl (dS aft s) E) s.2
 |[],_,h=>h
 |i::is,E,h=>Grow.sM is _ (h.st i)
theorem M1(s)(E)(i):E <+: dS aft s E i:=by
 unfold dS
 split
 ·exact D4 _
 ·split
  ·exact D4 _
  ·exact List.prefix_append _ _
theorem AO(E)(s):E <+: dM aft N E s:=sR _ (M1 s) _ _
theorem uP:∀j,(((El aft N s0 j).map (·.2)).Pairwise (·<=·))/\∀s,(El aft N s0 j)[j]?=ae s->∀e∈El aft N s0 j,e.2<=s.2+1
 |0=>⟨E8 _ _,λs hs e he=>by obtain rfl:e=(s0,0):=(by simpa[El]using he);exact Az _⟩
 |j+1=>by
  obtain⟨h1,h2⟩:=uP j;have e:El aft N s0 (j+1)=(match (El aft N s0 j)[j]? with|some s=>dM aft N (El aft N s0 j) s|none=>El aft N s0 j):=rfl;cases z:(El aft N s0 j)[j]? with
  |none=>
   rw[z]at e;dsimp only at e;rw[e];refine⟨h1,λs hs=>?_⟩;rw[Cb (by have:=List.getElem?_eq_none_iff.mp z;omega)]at hs;cases hs
  |some s=>
   rw[z]at e;dsimp only at e;have g:Grow (dM aft N (El aft N s0 j) s) s.2:=Grow.sM _ _ ⟨h1,h2 s z⟩;rw[e];refine⟨g.so,λs' hs' x hx=>?_⟩;have hj:(dM aft N (El aft N s0 j) s)[j]?=ae s:=by
    rw[mF (AO _ s) (Al.mp z).1];exact z
   have hle:s.2<=s'.2:=by
    have hp:=Hk.mp g.so;obtain⟨a1,a2⟩:=Al.mp hj;obtain⟨b1,b2⟩:=Al.mp hs';have:=hp j (j+1) (by rw[Ad];exact a1) (by rw[Ad];exact b1) (Nat.lt_succ_self j);rw[G3,G3,a2,b2]at this;exact this
   exact Bb (g.le x hx) (Nat.succ_le_succ hle)
theorem Syn.level(h:Syn m (El aft N s0 c)):∀k,c+k<=(El aft N s0 c).length->Syn ((((Lr aft N s0 c).drop c).take k).foldl (pM aft N) m) (El aft N s0 (c+k))
 |0,_=>by simpa using h
 |k+1,hk=>by
  have ih:=Syn.level h k ⋯;have hlen:(Lr aft N s0 c).length=(El aft N s0 c).length:=by rw[<-jW,Ad]
  have hlt:c+k < (Lr aft N s0 c).length:=by omega
  have e2:((Lr aft N s0 c).drop c).take (k+1)=((Lr aft N s0 c).drop c).take k++[(Lr aft N s0 c)[c+k]]:=by
   rw[List.take_succ,List.getElem?_drop,Ag hlt];rfl
  have e1:(Lr aft N s0 (c+k))[c+k]?=ae (Lr aft N s0 c)[c+k]:=by rw[mF (lP s0 c k) hlt];exact Ag hlt
  rw[e2,Ew];rw[<-jW,Aq]at e1;obtain⟨s,hs,es⟩:=C3.mp e1;show Syn (pM aft N _ (Lr aft N s0 c)[c+k]) (match (El aft N s0 (c+k))[c+k]? with|some s=>dM aft N (El aft N s0 (c+k)) s|none=>El aft N s0 (c+k));rw[hs,<-es];exact Syn.sM _ _ _ ih (A1 hs)
theorem Syn.next(h:Syn m (El aft N s0 c))(L:Lev aft N s0 c m ss):Syn (bA aft N (m,[]) ss).1 (El aft N s0 (Lr aft N s0 c).length):=by
 have hlen:(Lr aft N s0 c).length=(El aft N s0 c).length:=by rw[<-jW,Ad]
 have hk:c+((Lr aft N s0 c).length-c)=(Lr aft N s0 c).length:=by have:=L.le;omega
 have:=h.level ((Lr aft N s0 c).length-c) ⋯;rw[hk,Gs (by rw[D5];omega),<-L.rs,<-RW]at this;exact this
end
end Nb
namespace DL
open PySem L2 Nb
section
variable{X:Cx}{o:Expr}{td:TE}{wd':DT}{pos p:Pos}{K:Af}
theorem RdY.refs(h:RdY H B l m):RdXs H B (l.map λq=>V.ref q.2.1) (m.map λq=>q.1.1):=by
 induction h with
 |nil=>exact .nil
 |@cons p q ps qs hq t ih=>exact .cons (show RdX H B (.ref p.2.1) q.1.1 by rw[<-hq.1];exact hq.2.1) ih
def md(w:DT):fA:=λδ n Q=>w δ n λx n1=>∃kvs,iw x kvs/\kvs.length<=2000/\Q (kvs.map (·.1.1)) n1
theorem LV(hh:X.A.handled=af)(hg:Gl X "list")(hm:X.mg "list"=af)(ho:DE X o td wd')(hK:X.K=K:=by rfl)(he:Ap [o] X.env=(ai,eval o X.env)::Ap [] X.env:=by rfl)(hpl:(Cy pos (Ap [] X.env)).any (·.1)=ai:=by rfl):
  DF X (.Call (.Name "list" p) [o] [] pos) (eT (HK K) (aM td aI)) (md wd'):=by
 subst hK;refine⟨nj (FD hh) hg hm rk (bP ho.pe dC he) ∎ ∎ he hpl,λC H B σ δ n Q Q' R q k=>ho.sd C H B σ δ n _ _ R q λv x H1 n1 R1 k1 r1 q1=>?_⟩;obtain⟨kvs,hx,hl,q1⟩:=q1;obtain⟨a,l,rfl,g1,g2,g3⟩:=WRel.rdX R1.bt hx r1;refine⟨a,l,rfl,g1,g3.keys,λL hL=>?_⟩;exact k L _ _ _ n1 (R1.new hL) (k1.trans (Kp.new hL)) (R1.was k1 hL) aR (by rw[Ad,g3.len];exact vQ hl) (g3.refs.fresh hL) q1
end
end DL
namespace L2
open PySem PySem.Spec PyProof.Rows PySem.W
end L2
namespace DL
open PySem L2 Nb
end DL
namespace L2
open PySem PySem.Spec PyProof.Rows PySem.W
end L2
namespace DL
open PySem L2 Nb
abbrev dN:=List Wv->Int->(List (TK×Ab)->Int->Prop)->Prop
def mW(S:dN):Sp:=λvs H Q _=>∃(t:Addr)(l:TL)(ns:List Int)(B:Addr->Prop)(ws:List Wv)(n:Int)(Q0:List (TK×Ab)->Int->Prop),Tp H t l ns n/\B t/\(∀b,B b->H b≠af)/\ARel H B t vs ws/\S ws n Q0 /\
 ∀kvs n',Q0 kvs n'->∀a l' H',Tp H' t l ns n'->Kp t H H'->H a=af->H' a=ae (.dX l')->l'.length<=2000->RdY H' (λb=>B b\/b=a) l' kvs->Q (.ref a) H'
structure HasX(P:A7)(w:Bi)(K:Af)(mg:Str->Option Ae)(base:Heap)(k:Nat)(x:Str)(ps:List Str)(S:dN):Prop where
 ex:∃(f:Addr)(fd:Bz),FnOk P w K mg base cb k f fd ps (mW S)/\Binds K fd ps []/\mg x=ae (.ref f)/\Bx K (.ref f)=ah
section
variable{X:Cx}{e:Expr}{es:List Expr}{pos p:Pos}{tR:TA}{wR:cK}
def qJ(i:Nat):aF:=λδ n K=>match δ[i]? with
 |some (ae (.odx kvs))=>K.rx kvs n
 |_=>False
theorem Iy(i){xp:Pos}(hN:X.N[i]?=ae x:=by rfl)(hv:fD X.env.scope x:=by first|exact By rfl|exact Ca (By rfl)|exact Ca (Ca rfl))(hd:(x==("__debug__":Str))=ai:=by decide)
  (hcd:(x==("__classdict__":Str))=ai:=by decide):DS X (.Return (ae (.Name x xp)) pos) (fJ (az i)) (qJ i):=⟨iQ (gC hN hv hd hcd),λC H B σ δ n K D R q E=>by
 unfold qJ at q
 split at q
 ·rename_i kvs ei;obtain⟨v,hv,a,l,rfl,e2,e3,e4,e5,e6⟩:=R.sl i _ ei;exact⟨_,hv,E.rx H B σ δ n a l kvs R e4 e2 e5 (e6.move λb o e nb=>⟨e,λz=>z.elim nb λq=>nb (q▸e3)⟩) q⟩
 ·exact q.elim⟩
def mD(i:Nat)(S:dN)(w:cK):aF:=λδ n K=>w δ n λxs n1=>S xs n1 λkvs n2=>K.nx (δ.set i (ae (.odx kvs))) n2
theorem TJ(h:HasX X.prog X.w X.K X.mg X.base k f ps S)(hr:Room k X.A)(hg:Gl X f)(hN:X.N.Nodup)(hi:X.N[i]?=ae x)(hx:gw X.env.scope x)(ha:DA X (e::es) tR wR)
  (hs:Dp (.Call (.Name f p) (e::es) [] cp) (ae (.Name x pos')) pos.line X.env=pure ai:=by rfl) (hf:X.fn x=ah\/X.env.scope.names.lookup x=ae .local:=by first|exact .inl rfl|exact .inr rfl|assumption)
  (hdb:(f==("__debug__":Str))=ai:=by decide) (he:Ap (e::es) X.env=(ai,eval e X.env)::Ap es X.env:=by rfl) (hpl:(Cy cp (Ap es X.env)).any (·.1)=ai:=by rfl):
  DS X (.Assign [.Name x pos'] (.Call (.Name f p) (e::es) [] cp) pos) (aW (fH (mW S) [] E0 tR) (cv i)) (mD i S wR):=by
 obtain⟨g,fd,h1,h2,h3,h4⟩:=h.ex;refine⟨dZ hN hi hx (pQ h1 hr hg h3 h4 h2 .nil ny ha.pa hdb he hpl) hs hf,λC H B σ δ n K D R q E=>ha.sd C H B σ δ n _ _ R q λvs xs H1 n1 R1 k1 r1 q1=>?_⟩;refine⟨C.t,C.l,C.ns,B,xs,n1,_,R1.tp,R1.bt,R1.ba,by rw[Cc];exact r1,q1,λkvs n' q2 a l' H' T' k' h0 h1' h2' h3'=>?_⟩;refine E.nx _ _ _ _ _ (R.own (R1.step T' k') (k1.trans k') (R1.was k1 h0) (by rw[h1'];exact λz=>nomatch z) rfl ?_) q2;exact⟨a,l',rfl,h1',.inr rfl,R.h0 (R1.was k1 h0),h2',h3'⟩
end
end DL
namespace L2
open PySem PySem.Spec PyProof.Rows
abbrev j4(t:Addr):Data:=.fields #[.ref t,.none,.none,.none,.bool ai,.none]
abbrev jc:List Ae:=[.type "ValueError",.type "Exception",.type "BaseException",.type "object"]
def xO(a C t:Addr):HO:=.ext λh=>h.get? a=ae ⟨.ref C,af,j4 t,#[]⟩
theorem KN(e:h.get? a=ae ⟨.ref C,af,j4 t,#[]⟩):ObjOk P w H h a (xO a C t):=⟨e,⟨_,e⟩,λ_ _ p k=>k _ p⟩
structure XCl(K:Af)(C C0:Addr):Prop where
 obj:∃nm q N bs sn sub ab col dd k0 k1 k2 k3 k5,K.lookup C=ae (Gb nm q C N bs (.ref C0::jc) ah sn sub ab col dd k0 k1 k2 k3 k5 "ValueError.__new__")
 base:∃nm q N bs sn sub ab col dd k0 k1 k2 k3 k5 ni,K.lookup C0=ae (Gb nm q C0 N bs jc ah sn sub ab col dd k0 k1 k2 k3 k5 ni)
 tail:∀h,K.In h->OwnTail h jc (.ref C0::jc)
 ini:Gi K (.ref C) "__init__"=ae (ae (.builtin "ValueError.__init__"))
 kp:Bx K (.ref C)=ah
section
variable{prog:A7}{w:Bi}{A:Br}{E:Ae->Ai->Prop}{h:Heap}{g:Array GenState}{d:Drawn}{t:Nat}{os:OsState}
variable{nm q:Str}{C N:Addr}{bs bm bmB:List Ae}{hdct:Bool}{sn:List Str}{sub:List Ae}{ab:Bool}{col:Option Bool}{dd:Option Addr}{k0 k1 k2 k3 k5:Option Ae}{B newId initId:String}
theorem Oi(F:ExcBaseFacts B newId initId bmB)(T:OwnTail h bmB bm){K:Af}{rest:List Ae}
  (hC:h.get? C=ae (Gb nm q C N bs bm hdct sn sub ab col dd k0 k1 k2 k3 k5 newId)) (X:K.In h) (hi:Gi K (.ref C) "__init__"=ae (ae (.builtin initId)))
  (hq:∀h' e,Heap.MadeExcOf h h' e (.ref C) rest->e=h.objs.size+1->Q (.done (.ret (.ref e))) ⟨h',g,d,t,os⟩) (hrest:rest.length<=Ar):
  Av (A9 prog w) A (Ei.«type.__call__» ⟨.ref C::rest,[]⟩) Q E ⟨h,g,d,t,os⟩:=by
 repeat (first|with_reducible refine E5 hC ?_|with_reducible refine wpAny_madeBy_exc hC ?_|wp_step)
 refine codeAny_call_builtin_code (Code.quiet_builtin _ F.quiet) (wpAny_check_new_subT F T hC ?_);refine codeAny_exc_new_subT F T hC ?_ hrest;show Av _ _ _ _ _ _;have up:∀b o,h.get? b=ae o->((h.push {cls:=.type "tuple",data:=.seq rest.toArray}).push {cls:=.ref C,data:=j4 h.objs.size}).get? b=ae o:=λb o e=>Ah _ (Ah _ e);have hC₁:=up _ _ hC;have X₁:=X.keeps up;have T₁:=T.keeps up;have hget:((h.push {cls:=.type "tuple",data:=.seq rest.toArray}).push {cls:=.ref C,data:=j4 h.objs.size}).get? (h.objs.size+1)=ae {cls:=.ref C,data:=j4 h.objs.size}:=by heap_get
 have hcC:(As C::bm).contains (.ref C)=ah:=by simp
 unfold isInstance
 repeat (first|with_reducible refine E5 hget ?_|(with_reducible refine Hj hC₁ ?_;rw[hcC])|wp_step)
 show Av _ _ (typeLookup (.ref C) _) _ _ _;refine(PySem.W.looks_findIn X₁ hi).at ?_;refine B3 (Aa (wpAny_of_eq (F.init.bind _) ?_));refine Aa (wpAny_call (codeAny_call_builtin F.init.plain F.initEntry (wpAny_check_init_subT F T₁ hC₁ hget rfl ?_)))
 wp_walk
 refine hq _ _ ⟨λb o hb=>?_,Heap.get?_none_of_le (Fz _),h.objs.size+2,?_,Heap.get?_none_of_le ⋯,?_⟩ rfl
 ·rw[Fg _ _ (Ej (Nat.lt_succ_of_lt (Ao hb)))];exact Ah _ (up b o hb)
 ·rw[Cn _ (Ah _ hget) rfl];simp only[D9];rfl
 ·rw[Fg _ _ (show h.objs.size+1≠h.objs.size+2 by omega)];exact Heap.get?_push_at (by simp only[D9]) rfl
theorem Nz(F:ExcBaseFacts B newId initId bmB)(T:OwnTail h bmB bm){K:Af}{rest:List Ae}
  (hC:h.get? C=ae (Gb nm q C N bs bm hdct sn sub ab col dd k0 k1 k2 k3 k5 newId)) (X:K.In h) (hi:Gi K (.ref C) "__init__"=ae (ae (.builtin initId)))
  (hq:∀h' e,Heap.MadeExcOf h h' e (.ref C) rest->e=h.objs.size+1->Q (.ref e) ⟨h',g,d,t,os⟩) (hrest:rest.length<=Ar):
  Av (A9 prog w) A (call (.ref C) rest) Q E ⟨h,g,d,t,os⟩:=by
 have f1:=tc_lookup;have f2:=tc_bind (.ref C);have hT:(⟨h,g,d,t,os⟩:Ai).TypeIs (.ref C) "type":=⟨_,hC,rfl⟩;refine wpAny_call (codeAny_of_tree ?_);show Av _ _ (callAny (.ref C) _) _ _ _
 repeat (any_goals (first|assumption|with_reducible refine E5 hC ?_|wp_step))
 refine⟨rfl,?_⟩;exact codeAny_call_builtin_at (Code.quiet_builtin _ ∅) entry_typeCall (wpAny_check_type_call_sub hC (Oi (hrest:=hrest) F T hC X hi hq))
end
def jV(H:Hp)(a:Addr):Hp:=λb=>if b=a then af else H b
theorem mV:jV H a a=af:=by unfold jV;rw[if_pos rfl]
theorem nY(h:b≠a):jV H a b=H b:=by unfold jV;rw[if_neg h]
theorem La(n:H a=af):jV (upd H a o) a=H:=by
 funext b
 by_cases h:b=a
 ·subst h;rw[mV,n]
 ·rw[nY h,aD h]
structure Fly(P:A7)(w:Bi)(outer:List Env)(H:Hp)(s:Ai)(B:Heap)(t ea C:Addr)(H':Hp)(s':Ai):Prop where
 fly:Heap.FlyingW B outer ea (.ref C) (.ref t) s'.heap
 dict:∃o,s'.heap.get? ea=ae o/\o.dict=af
 os:s'.os=s.os
 bare:AllBare s'.gens
 un:Un (bY outer) [] H H' s.heap s'.heap
 hok:HOk P w H' s'.heap
 hea:H' ea=af
 new:s.heap.objs.size<=ea
 old:∀(b:Addr)(o:Obj),s.heap.get? b=ae o->b∉bY outer->∀o',s'.heap.get? b=ae o'->B.get? b=ae o'
 trk:∀(b:Addr)(u:HO)(o:Obj),H' b=ae u->s'.heap.get? b=ae o->B.get? b=ae o
def CXr(P:A7)(w:Bi):gx:=λouter H s E e s'=>∃B t ea C H',e=.ref ea/\Fly P w outer H s B t ea C H' s'/\E (.ref C) af H'
theorem CXr.no:∀outer H s e s',¬CXr P w outer H s (λ_ _ _=>False) e s':=λ_ _ _ _ _ ⟨_,_,_,_,_,_,_,h⟩=>h
section
variable{M:Model}{A:Br}{E:Ae->Ai->Prop}{env:Env}{s:Ai}{C N:Addr}{nm q:Str}{bs bm:List Ae}{hdct:Bool}{sn:List Str}{sub:List Ae}{ab:Bool}{col:Option Bool}{dd:Option Addr}{k0 k1 k2 k3 k5:Option Ae}{newId:String}
theorem yS(hbase:bm.contains (.type "BaseException")=ah)(hh:A.handled=af)
  (h:Av M A x (λv s₁=>∃e t d,v=.ref e/\s₁.heap.get? C=ae (Gb nm q C N bs bm hdct sn sub ab col dd k0 k1 k2 k3 k5 newId) /\
   s₁.heap.get? e=ae ⟨.ref C,d,j4 t,#[]⟩/\E (.ref e) s₁) E s):
  Av M A (raiseStmt env (ae x) af) Q E s:=by
 have hcB:(As C::bm).contains (.type "BaseException")=ah:=by rw[List.contains_cons,hbase,Bool.or_true]
 unfold raiseStmt;refine Aa (B6 h (λv s₁ h₁=>?_) λ_ _ x=>x);obtain⟨e,t,d',rfl,hC,he,hE⟩:=h₁;obtain⟨hp,g,d,tk,os⟩:=s₁
 repeat (first|with_reducible refine E5 he ?_|with_reducible refine E5 hC ?_|(with_reducible refine Hj hC ?_;rw[hcB])|wp_step)
 exact wpAny_raiseNew_none hh hE
end
def vo(X:Cx)(C:Addr)(EX:St->Addr->Hp->Prop):Prop:=∀(pins:List (Addr×Obj))(σ:St)(H:Hp)(s:Ai)(ea t:Addr),Inv X pins σ H s->H ea=ae (xO ea C t)->X.s₀.heap.objs.size<=ea->EX σ C (jV H ea)->X.xe (.ref ea) s
def zg(C:Addr)(EX:St->Addr->Hp->Prop)(te:TE):TS:=λ_ σ H=>te σ H λ_ H1=>EX σ C H1
section
variable{X:Cx}{C C0:Addr}{x:Str}{p cpos pos:Pos}{e:Expr}{te:TE}{EX:St->Addr->Hp->Prop}
theorem Sj(c:XCl X.K C C0)(hh:X.A.handled=af)(hg:Gl X x)(hm:X.mg x=ae (.ref C))(hl:vo X C EX)(ha:PE X e te)
  (hdb:(x==("__debug__":Str))=ai:=by decide) (he:Ap [e] X.env=(ai,eval e X.env)::Ap [] X.env:=by rfl) (hpl:(Cy cpos (Ap [] X.env)).any (·.1)=ai:=by rfl):
  PS X (.Raise (ae (.Call (.Name x p) [e] [] cpos)) af pos) (zg C EX te):=by
 intro pins s σ H D I h;obtain⟨nm,q',N,bs,sn,sub,ab,col,dd,k0,k1,k2,k3,k5,hC⟩:=c.obj;have mk:Av (A9 X.prog X.w) X.A (eval (.Call (.Name x p) [e] [] cpos) X.env) (λv s₁=>∃e t d,v=.ref e/\s₁.heap.get? C=ae (Gb nm q' C N bs (.ref C0::jc) ah sn sub ab col dd k0 k1 k2 k3 k5 "ValueError.__new__") /\
   s₁.heap.get? e=ae ⟨.ref C,d,j4 t,#[]⟩/\X.xe (.ref e) s₁) X.xe s:=by
  refine Ep (o8 I hg hm ?_ hdb);refine PySem.W.callWith_K (h₀:=X.base) I.ok.mod.kin c.kp (aG (bP ha dC he cpos pins s σ H (λvs H1=>match vs with|[_]=>EX σ C H1|_=>False) I h) λus s1 ⟨vs,H1,I1,r,q⟩=>⟨I1.kIn,?_⟩) he hpl;rcases vs with _|⟨v,_|⟨v2,vr⟩⟩
  ·exact q.elim
  ·dsimp only at q;obtain⟨u,rfl,r1⟩:=gg r;have sz:=I1.sz;obtain⟨hh',g,d,tk,os⟩:=s1;refine Nz PySem.F.excBase_ValueError (c.tail _ I1.kIn) (I1.kIn _ _ hC) I1.kIn c.ini (λh' ea hm' he'=>?_) (by show 1<=Ar;decide);subst he';obtain⟨t,h1,h2,h3⟩:=hm'.there;have hf1:H1 (hh'.objs.size+1)=af:=I1.hok.fresh (Fz _);have I2:=I1.laid (a:=hh'.objs.size+1) (o:=xO (hh'.objs.size+1) C t) (t':=tk) (λb u z=>hm'.keeps b u z) (Fz _) (KN h1);exact⟨_,t,af,rfl,hm'.keeps _ _ (I1.kIn _ _ hC),h1,hl pins σ _ _ _ t I2 aR (Bb sz (Fz _)) (by rw[La hf1];exact q)⟩
  ·exact q.elim
 rw[arm_exec_Raise]
 first
  |exact Aa (Fv (yS (C:=C) rfl hh (Aa (B6 mk (λv s₃ h₃=>Aa (Fv (Aj h₃))) λ_ _ x=>x))))
  | (simp only[evalOpt,Option.map];exact Aa (Fv (yS (C:=C) rfl hh (Aa (B6 mk (λv s₃ h₃=>Aa (Fv (Aj h₃))) λ_ _ x=>x)))))
end
open Sem (wp)
def DK(h h':Heap):Prop:=∀(b:Nat)(o:Obj),h.objs[b]?=ae o->∃o',h'.objs[b]?=ae o'/\o'.dict=o.dict
theorem DK.refl(h):DK h h:=λ_ o e=>⟨o,e,rfl⟩
theorem DK.trans(x:DK h h1)(y:DK h1 h2):DK h h2:=λb o e=>by
 obtain⟨o1,e1,d1⟩:=x b o e;obtain⟨o2,e2,d2⟩:=y b o1 e1;exact⟨o2,e2,d2.trans d1⟩
theorem DK.upd(hf:∀o,(f o).dict=o.dict):DK h (h.update a f):=λb o e=>by
 obtain⟨objs,l⟩:=h;show ∃o',(objs.modify a f)[b]?=ae o'/\_;rw[Array.getElem?_modify];have e':objs[b]?=ae o:=e;rw[e']
 split
 ·exact⟨f o,rfl,hf o⟩
 ·exact⟨o,rfl,rfl⟩
theorem DK.push:DK h (h.push o):=λb u e=>by
 obtain⟨objs,l⟩:=h;have e':objs[b]?=ae u:=e;have hb:b < objs.size:=(Array.getElem?_eq_some_iff.mp e').1;refine⟨u,?_,rfl⟩;show(objs.push o)[b]?=ae u;rw[Array.getElem?_push_lt hb];exact(C6 hb).symm.trans e'
structure KD{α:Type}(t:Sem α):Prop where
 out:∀(M:Model)(Γ:PySem.Ctx)(P:α->Pos->Ai->Prop)(Ee:Ae->Pos->Ai->Prop)(p:Pos)(s:Ai),wp M Γ t P Ee p s->wp M Γ t (λa p' s'=>P a p' s'/\DK s.heap s'.heap) Ee p s
namespace KD
variable{α β:Type}
theorem pure(a):KD (Pure.pure a:Sem α):=⟨λ_ _ _ _ _ s h=>⟨h,DK.refl _⟩⟩
theorem unsup(w):KD (PySem.unsupported w:Sem α):=⟨λ_ _ _ _ _ _ h=>h⟩
theorem bind{f:α->Sem β}(hm:KD m)(hf:∀a,KD (f a)):KD (m>>=f):=⟨λM Γ P Ee p s h=>by
 rw[Sem.wp_bind']at h ⊢;exact Sem.wp_mono M Γ m (λa p' s' h'=>Sem.wp_mono M Γ (f a) (λb p2 s2 h2=>⟨h2.1,h'.2.trans h2.2⟩) (λ_ _ _ x=>x) p' s' ((hf a).out M Γ P Ee p' s' h'.1)) (λ_ _ _ x=>x) p s (hm.out M Γ _ Ee p s h)⟩
theorem ite[Decidable c](ht:KD t)(hu:KD u):KD (if c then t else u):=by split<;>assumption
theorem load(a):KD (PySem.load a):=⟨λM Γ P Ee p s h=>by
 unfold PySem.load at h ⊢;rw[Sem.wp_load]at h ⊢;obtain⟨o,e,h⟩:=h;exact⟨o,e,h,DK.refl _⟩⟩
theorem update(a)(f)(hf:∀o,(f o).dict=o.dict):KD (PySem.update a f):=⟨λM Γ P Ee p s h=>by
 unfold PySem.update at h ⊢;rw[Sem.wp_update]at h ⊢;exact⟨h.1,h.2,DK.upd hf⟩⟩
theorem stack:KD PySem.stack:=⟨λM Γ P Ee p s h=>by
 unfold PySem.stack at h ⊢;rw[Sem.wp_stack]at h ⊢;exact⟨h,DK.refl _⟩⟩
theorem alloc(o):KD (PySem.alloc o):=⟨λM Γ P Ee p s h=>by
 unfold PySem.alloc at h ⊢;rw[Sem.wp_alloc]at h ⊢;exact⟨h,DK.push⟩⟩
theorem field(v)(i):KD (PySem.field v i):=⟨λ_ Γ P Ee p s h=>(wp_field_iff Γ v i _ Ee p s).mpr (by
 obtain⟨a,o,vs,x,e,ho,hd,hx,h⟩:=(wp_field_iff Γ v i P Ee p s).mp h;exact⟨a,o,vs,x,e,ho,hd,hx,h,DK.refl _⟩)⟩
theorem setField(v)(i)(x):KD (PySem.setField v i x):=⟨λ_ Γ P Ee p s h=>(wp_setField_iff Γ v i x _ Ee p s).mpr (by
 obtain⟨a,o,vs,e,ho,hd,hi,h⟩:=(wp_setField_iff Γ v i x P Ee p s).mp h;exact⟨a,o,vs,e,ho,hd,hi,h,DK.upd λo=>by unfold Obj.mapFields;split<;>rfl⟩)⟩
theorem Ko(env)(outer):KD (behindIsImport env outer):=by
 unfold behindIsImport
 repeat' with_reducible first|assumption|exact KD.pure _|exact KD.field _ _|apply KD.ite|apply KD.bind|intro _
theorem MQ:KD underTheClaimsCaller:=by
 unfold underTheClaimsCaller;exact KD.bind KD.stack λ_=>KD.pure _
theorem fS(env)(i)(l):KD (keptBack env i l):=by
 cases l with
 |nil=>unfold keptBack;exact KD.ite (KD.pure _) (KD.bind MQ λ_=>KD.pure _)
 |cons=>exact KD.pure _
theorem zH:∀l:List Env,KD (readyFrames l)
 |[]=>KD.pure _
 |env::outer=>by
  have ih:=zH outer;unfold readyFrames
  split
  ·exact KD.bind (KD.load _) λ_=>KD.ite (KD.pure _) (KD.bind (Ko _ _) λ_=>KD.bind (fS _ _ _) λ_=>KD.bind (KD.update _ _ λ_=>rfl) λ_=>ih)
  ·exact KD.unsup _
theorem obj(l):KD (frameObject l):=by
 cases l with
 |nil=>exact KD.pure _
 |cons env outer=>unfold frameObject;exact KD.bind (zH _) λ_=>KD.pure _
theorem frameOf(env):KD (PySem.frameOf env):=by
 unfold PySem.frameOf frameEnvs;refine KD.bind (KD.bind KD.stack λ_=>KD.pure _) λ_=>KD.bind (obj _) λr=>?_
 split
 ·exact KD.pure _
 ·exact KD.unsup _
theorem UQ(f)(b):KD (entryPlaceOf f b):=by
 unfold entryPlaceOf;refine KD.bind KD.stack λ_=>?_
 split<;>exact KD.pure _
theorem flight(e)(f):KD (setFlight e f):=by
 unfold setFlight;exact KD.bind (KD.field _ _) λ_=>KD.ite (KD.setField _ _ _) (KD.pure _)
theorem xJ(ty)(vs):KD (newObj (.type ty) (.fields vs)):=by
 have tl:KD (newObjAsIs (.type ty) (.fields vs)):=by unfold newObjAsIs;exact KD.bind (KD.alloc _) λ_=>KD.pure _
 unfold newObj;by_cases h:vs.size > Ar+2
 ·dsimp only;rw[if_pos h];exact KD.bind (KD.unsup _) λ_=>tl
 ·dsimp only;rw[if_neg h];exact tl
theorem Lp(a b c d e)(l):KD (EntryCells.newEntry a b c d e l):=xJ _ _
theorem note(e)(env):KD (noteFrame e env):=by
 unfold noteFrame
 split
 ·refine KD.bind (KD.field _ _) λ_=>?_;have tl:∀(h:Ae)(b:Bool)(f:Addr),KD (do PySem.setField e 1 (<-EntryCells.newEntry h (<-PySem.frameOf env) .none (rawInt f) .none (<-entryPlaceOf f b))):=λh b f=>
   KD.bind (frameOf _) λ_=>KD.bind (UQ _ _) λ_=>KD.bind (Lp _ _ _ _ _ _) λ_=>KD.setField _ _ _
  exact KD.ite (KD.bind (KD.field _ _) λ_=>KD.ite (KD.pure _) (KD.bind (KD.setField _ _ _) λ_=>tl _ _ _)) (tl _ _ _)
 ·exact KD.unsup _
theorem leave(env)(e):KD (leaving env e):=KD.bind (note _ _) λ_=>flight _ _
theorem any(k:KD t)(h:Av M A t Q E s):Av M A t (λa s'=>Q a s'/\DK s.heap s'.heap) E s:=
 λΓ p hΓ=>k.out M Γ _ _ p s (h Γ p hΓ)
end KD
theorem ObjOk.has(x:ObjOk P w H h a o):∃ob,h.get? a=ae ob:=by
 cases o with
 |lst xs=>obtain⟨_,_,_,_,e⟩:=x;exact⟨_,e⟩
 |tup xs=>obtain⟨_,_,_,o,e,_⟩:=x;exact⟨_,e⟩
 |dK kvs=>obtain⟨_,_,_,_,o,_,_,e,_⟩:=x;exact⟨_,e⟩
 |dT kvs=>obtain⟨_,_,_,_,o,_,_,e,_⟩:=x;exact⟨_,e⟩
 |dX ps=>obtain⟨_,_,_,_,o,_,_,e,_⟩:=x;exact⟨_,e⟩
 |set S n=>obtain⟨o,_,_,_,e,_⟩:=x;exact⟨_,e⟩
 |ins C dx fs=>obtain⟨_,_,_,e,_⟩:=x;exact⟨_,e⟩
 |own y=>exact x
 |xd fs=>obtain⟨_,⟨_,_,_,e,_⟩,_⟩:=x;exact⟨_,e⟩
 |rng lo hi=>obtain⟨_,_,_,e⟩:=x;exact⟨_,e⟩
 |frz ob u=>obtain⟨e,_⟩:=x;exact⟨_,e⟩
 |tbl ps=>exact⟨_,x⟩
 |met f y=>exact⟨_,x⟩
 |ext φ=>exact x.2.1
theorem FA{h:Heap}(e:h.get? a=ae o):h.objs[a]?=ae o:=(Heap.get?_some_iff.mp e).1
theorem vg(k:DK h h')(e:h.get? a=ae o)(e':h'.get? a=ae o'):o'.dict=o.dict:=by
 obtain⟨u,hu,d⟩:=k a o (FA e);rw[FA e']at hu;cases hu;exact d
section
variable{P:A7}{w:Bi}{K:Af}{mg:Str->Option Ae}{base:Heap}{N:List Str}{qual:Str}{scope:E7}{f:Addr}{cd:Ae}{A:Br}{outer:List Env}{s₀:Ai}{H₀:Hp}{E:XK}{C:Addr}
theorem Qy:vo (bz (CXr P w) P w K mg base N qual scope f cd A outer s₀ H₀ E) C λ_ C H=>E (.ref C) af H:=by
 intro pins σ H s ea t I he sz hE;have get:s.heap.get? ea=ae ⟨.ref C,af,j4 t,#[]⟩:=(I.hok _ _ he).1;have sz':s₀.heap.objs.size<=ea:=sz;have stf:=I.stkFree;have fr:s.heap.FunFrames base (Cu qual scope s₀.heap.objs.size f cd::outer):=I.stack;have hfrs:∀b,b∈bY (Cu qual scope s₀.heap.objs.size f cd::outer)↔b=s₀.heap.objs.size\/b∈bY outer:=λb=>by
  show b∈s₀.heap.objs.size::bY outer↔_;exact Aw
 have ob:Un (bY outer) [] H₀ H s₀.heap s.heap:=I.base;have inB:∀b o,s.heap.get? b=ae o->b≠ea->b≠s₀.heap.objs.size->b∉bY outer->(F8 s.heap (ea::bY (Cu qual scope s₀.heap.objs.size f cd::outer))).get? b=ae o:=λb o e n1 n2 n3=>
  PySem.W.hideAll_get _ e λhm=>(Aw.mp hm).elim n1 λz=>((hfrs b).mp z).elim n2 n3
 have lt0:∀b o,s₀.heap.get? b=ae o->b≠ea/\b≠s₀.heap.objs.size:=λb o e=>⟨A8 (Bd (Ao e) sz'),A8 (Ao e)⟩;have trkB:∀b u o,H b=ae u->b≠ea->s.heap.get? b=ae o->(F8 s.heap (ea::bY (Cu qual scope s₀.heap.objs.size f cd::outer))).get? b=ae o:=λb u o q n e=>
  PySem.W.hideAll_get _ e λhm=>(Aw.mp hm).elim n λz=>by rw[stf b z]at q;cases q
 have fdat:∀b∈bY outer,∀o sl,s₀.heap.get? b=ae o->∀vs,({o with slots:=sl}:Obj).data≠.fields vs:=λb hb o sl e=>by
  obtain⟨_,o',e',hd⟩:=I.ok.funs.mem hb;rw[show s₀.heap.get? b=ae o' from e']at e;cases e;exact hd
 show Av (A9 P w) (A.deeper (Cu qual scope s₀.heap.objs.size f cd)) (leaving (Cu qual scope s₀.heap.objs.size f cd) (.ref ea)) _ _ s;refine B6 ((KD.leave _ _).any (wpAny_leaving_firstW (base:=F8 s.heap (ea::bY (Cu qual scope s₀.heap.objs.size f cd::outer))) (E:=λ_ _=>False) (Q:=λ_ s''=>∃h',Heap.LeftW (F8 s.heap (ea::bY (Cu qual scope s₀.heap.objs.size f cd::outer))) (Cu qual scope s₀.heap.objs.size f cd::outer) ea (.ref C) (.ref t) s.heap h'/\s''={ s with heap:=h'})
  I.ok.frames (PySem.W.funFrames_hide fr λenv he a ha=>.tail _ (Gh.mpr ⟨env,he,ha⟩)) rfl get (λb o q=>PySem.W.of_hideAll _ q) (PySem.W.hideAll_none _ (.head _)) rfl rfl rfl λh' hL=>⟨h',hL,rfl⟩)) (λ_ s'' h=>?_) λ_ _ z=>z.elim
 obtain⟨⟨h',⟨k1,⟨_,_,k2⟩,k3,k4⟩,rfl⟩,dk⟩:=h;have hen:(F8 s.heap (ea::bY (Cu qual scope s₀.heap.objs.size f cd::outer))).get? ea=af:=PySem.W.hideAll_none _ (.head _);have slo:∀b o,s₀.heap.get? b=ae o->H₀ b=af->b∈bY outer->∃sl,h'.get? b=ae {o with slots:=sl}:=λb o e n hb=>by
  obtain⟨sl,e1⟩:=ob.slot b o e n hb (by simp);obtain⟨sl',e2⟩:=k4 b _ e1 (fdat b hb o sl e);exact⟨sl',e2⟩
 have nea:∀b u,H b=ae u->u≠xO ea C t->b≠ea:=λb u q d z=>by subst z;rw[q]at he;exact d (A4 he)
 have dn:∀b u,H b=ae u->u≠xO ea C t->jV H ea b=ae u:=λb u q d=>by rw[nY (nea b u q d)];exact q
 refine⟨_,t,ea,C,jV H ea,rfl,⟨⟨k1,hen,k2,k3⟩,?_,I.os,I.bare,⟨λb o e n hb _=>?_,λb o e n hb _=>slo b o e n hb,λb o e n _=>?_,λb o e _=>?_,λb xs q=>dn b _ (ob.tups b xs q) λd=>(by cases d),
  λb o u q=>dn b _ (ob.frzs b o u q) λd=>(by cases d),λb ps q=>by obtain⟨more,z⟩:=ob.tbls b ps q;exact⟨more,dn b _ z λd=>(by cases d)⟩⟩,?_,mV,sz',?_,?_⟩,hE⟩
 ·obtain⟨oe,vs,T,oT,ts,he',_⟩:=k3;exact⟨oe,he',vg dk get he'⟩
 ·exact k1 b o (inB b o (ob.keep b o e n hb (by simp)) (lt0 b o e).1 (lt0 b o e).2 hb)
 ·have:=ob.free b o e n (by simp);by_cases h:b=ea
  ·subst h;exact mV
  ·rw[nY h];exact this
 ·by_cases hb:b∈bY outer
  ·obtain⟨sl,e2⟩:=slo b o e (I.ok.frf b hb) hb;exact⟨_,e2⟩
  ·obtain⟨o1,e1⟩:=ob.there b o e (by simp);exact⟨o1,k1 b o1 (inB b o1 e1 (lt0 b o e).1 (lt0 b o e).2 hb)⟩
 ·intro b u q;have hb:b≠ea:=λz=>by subst z;rw[mV]at q;cases q
  rw[nY hb]at q;refine(I.hok b u q).stay (λc v hc z=>k1 c v ?_) (λc r=>dn c _ r λd=>(by cases d)) λc xs r=>dn c _ r λd=>(by cases d);rcases hc with rfl|hc
  ·exact trkB c u v q hb z
  ·exact trkB c _ v hc (nea c _ hc λd=>(by cases d)) z
 ·intro b o e hb o' e';obtain⟨o1,e1⟩:=ob.there b o e (by simp);have z:=inB b o1 e1 (lt0 b o e).1 (lt0 b o e).2 hb;have z':h'.get? b=ae o1:=k1 b o1 z;rw[show h'.get? b=ae o' from e']at z';cases z';exact z
 ·intro b u o q e';have hb:b≠ea:=λz=>by subst z;rw[mV]at q;cases q
  rw[nY hb]at q;obtain⟨o1,e1⟩:=(I.hok b u q).has;have z:=trkB b u o1 q hb e1;have z':h'.get? b=ae o1:=k1 b o1 z;rw[show h'.get? b=ae o from e']at z';cases z';exact z
end
def yO(a C:Addr):HO:=.ext λh=>∃vs sl,h.get? a=ae ⟨.ref C,af,.fields vs,sl⟩
theorem Py(e:h.get? a=ae ⟨.ref C,af,.fields vs,sl⟩):ObjOk P w H h a (yO a C):=
 ⟨⟨vs,sl,e⟩,⟨_,e⟩,λ_ _ ⟨vs,sl,p⟩ k=>⟨vs,sl,k _ p⟩⟩
section
variable{X:Cx}{pins:List (Addr×Obj)}{σ:St}{H H':Hp}{s s1:Ai}{B h:Heap}{t ea C:Addr}
theorem yc(I:Inv X pins σ H s)(F:Fly X.prog X.w X.stack H s B t ea C H' s1)(k1:B.StaysIn h)(k4:s1.heap.UpToSlots h):Un (bY X.stack) [] H H' s.heap h/\HOk X.prog X.w H' h:=by
 have fdat:∀b∈bY X.stack,∀o sl,s.heap.get? b=ae o->∀vs,({o with slots:=sl}:Obj).data≠.fields vs:=λb hb o sl e=>by
  obtain⟨_,o',e',hd⟩:=I.stack.mem hb;rw[show s.heap.get? b=ae o' from e']at e;cases e;exact hd
 have slo:∀b o,s.heap.get? b=ae o->H b=af->b∈bY X.stack->∃sl,h.get? b=ae {o with slots:=sl}:=λb o e n hb=>by
  obtain⟨sl,e1⟩:=F.un.slot b o e n hb (by simp);obtain⟨sl',e2⟩:=k4 b _ e1 (fdat b hb o sl e);exact⟨sl',e2⟩
 refine⟨⟨λb o e n hb _=>?_,λb o e n hb _=>slo b o e n hb,F.un.free,λb o e _=>?_,F.un.tups,F.un.frzs,F.un.tbls⟩,λb u q=>?_⟩
 ·exact k1 b o (F.old b o e hb o (F.un.keep b o e n hb (by simp)))
 ·by_cases hb:b∈bY X.stack
  ·obtain⟨sl,e2⟩:=slo b o e (I.stkFree b hb) hb;exact⟨_,e2⟩
  ·obtain⟨o1,e1⟩:=F.un.there b o e (by simp);exact⟨o1,k1 b o1 (F.old b o e hb o1 e1)⟩
 ·refine(F.hok b u q).stay (λc v hc z=>k1 c v ?_) (λc r=>r) λc xs r=>r;rcases hc with rfl|hc
  ·exact F.trk c u v q z
  ·exact F.trk c _ v hc z
theorem Pp(I:Inv X pins σ H s)(F:Fly X.prog X.w X.stack H s B t ea C H' s1)(k1:B.StaysIn h)(k4:s1.heap.UpToSlots h)
  (e:h.get? ea=ae ⟨.ref C,af,.fields vs,sl⟩) (tk):Inv X pins σ (upd H' ea (yO ea C)) {s1 with heap:=h,toks:=tk}:=by
 obtain⟨u,hok⟩:=yc I F k1 k4;have ne:∀b o,H' b=ae o->b≠ea:=λb o q=>aY q F.hea;refine I.call' (s':={ s1 with heap:=h,toks:=tk}) (ch:=[]) F.os ⟨u.keep,u.slot,λb o z n hx=>?_,u.there,λb xs q=>?_,λb o xs q=>?_,λb ps q=>?_⟩ (λb o q=>?_) F.bare (λb z=>absurd z (by simp))
 ·rw[aD (A8 (Bd (Ao z) F.new))];exact u.free b o z n hx
 ·rw[aD (ne b _ (u.tups b xs q))];exact u.tups b xs q
 ·rw[aD (ne b _ (u.frzs b o xs q))];exact u.frzs b o xs q
 ·obtain⟨more,z⟩:=u.tbls b ps q;exact⟨more,by rw[aD (ne b _ z)];exact z⟩
 ·by_cases hb:b=ea
  ·subst hb;rw[aR]at q;cases q;exact Py e
  ·rw[aD hb]at q;exact(hok b o q).stay (λc v _ z=>z) (λc r=>by rw[aD (ne c _ r)];exact r) λc xs r=>by rw[aD (ne c _ r)];exact r
end
section
variable{M:Model}{A:Br}{E:Ae->Ai->Prop}{h:Heap}{g:Array GenState}{d:Drawn}{t:Nat}{os:OsState}
variable{nm q:Str}{C C1 N:Addr}{bs bm:List Ae}{hdct:Bool}{sn:List Str}{sub:List Ae}{ab:Bool}{col:Option Bool}{dd:Option Addr}{k0 k1 k2 k3 k5:Option Ae}{newId:String}
variable{nm' q':Str}{N':Addr}{bs' bm':List Ae}{hdct':Bool}{sn':List Str}{sub':List Ae}{ab':Bool}{col':Option Bool}{dd':Option Addr}{j0 j1 j2 j3 j5:Option Ae}{newId':String}
theorem Px(hC:h.get? C=ae (Gb nm q C N bs bm hdct sn sub ab col dd k0 k1 k2 k3 k5 newId))(hC1:h.get? C1=ae (Gb nm' q' C1 N' bs' bm' hdct' sn' sub' ab' col' dd' j0 j1 j2 j3 j5 newId'))
  (he:h.get? e=ae o) (hc:o.cls=.ref C) (hb1:bm'.contains (.type "BaseException")=ah) (hm:(As C::bm).contains (.ref C1)=ah) (hq:Q ah ⟨h,g,d,t,os⟩):Av M A (excMatches (.ref e) (.ref C1)) Q E ⟨h,g,d,t,os⟩:=by
 have hcB:(As C1::bm').contains (.type "BaseException")=ah:=by rw[List.contains_cons,hb1,Bool.or_true]
 have f:=tc_notTuple;unfold excMatches
 repeat (first|with_reducible refine E5 hC1 ?_|(with_reducible refine E5 he ?_;rw[hc])|(with_reducible refine Hj hC1 ?_;rw[hcB])|(with_reducible refine Hj hC ?_;rw[hm])|wp_step)
 exact hq
end
section
variable{P:A7}{w:Bi}{K:Af}{mg:Str->Option Ae}{base:Heap}{N:List Str}{qual:Str}{scope:E7}{f:Addr}{cd:Ae}{A:Br}{outer:List Env}{s₀:Ai}{H₀:Hp}{E:XK}
theorem Nx{σ:St}(I:Inv (bz (CXr P w) P w K mg base N qual scope f cd A outer s₀ H₀ E) pins σ H s)
  (h:CXr P w (bz (CXr P w) P w K mg base N qual scope f cd A outer s₀ H₀ E).stack H s E e s'):(bz (CXr P w) P w K mg base N qual scope f cd A outer s₀ H₀ E).xe e s':=by
 obtain⟨B,t,ea,C,H',rfl,F,hE⟩:=h;obtain⟨o2,ho2,hd2⟩:=F.dict;have ob:Un (bY outer) [] H₀ H s₀.heap s.heap:=I.base;have st:(bz (CXr P w) P w K mg base N qual scope f cd A outer s₀ H₀ E).stack=Cu qual scope s₀.heap.objs.size f cd::outer:=rfl;have hfrs:∀b,b∈bY (Cu qual scope s₀.heap.objs.size f cd::outer)↔b=s₀.heap.objs.size\/b∈bY outer:=λb=>by
  show b∈s₀.heap.objs.size::bY outer↔_;exact Aw
 have nin:∀b o,s₀.heap.get? b=ae o->b∉bY outer->b∉bY (bz (CXr P w) P w K mg base N qual scope f cd A outer s₀ H₀ E).stack:=λb o e hb z=>by
  rw[st]at z;rcases(hfrs b).mp z with h|h
  ·exact absurd h (A8 (Ao e))
  ·exact hb h
 show Av (A9 P w) (A.deeper (Cu qual scope s₀.heap.objs.size f cd)) (leaving (Cu qual scope s₀.heap.objs.size f cd) (.ref ea)) _ _ s';refine B6 ((KD.leave _ _).any (wpAny_leaves_onW (E:=λ_ _=>False) (Q:=λ_ s''=>∃h',Heap.FlyingW B outer ea (.ref C) (.ref t) h'/\s'.heap.UpToSlots h'/\s''={ s' with heap:=h'}) I.ok.frames rfl F.fly λh' a b=>⟨h',a,b,rfl⟩)) (λ_ s'' h=>?_) λ_ _ z=>z.elim;obtain⟨⟨h',fl,k4,rfl⟩,dk⟩:=h;obtain⟨u,hok⟩:=yc I F fl.1 k4;refine⟨B,t,ea,C,H',rfl,⟨fl,?_,F.os.trans I.os,F.bare,?_,hok,F.hea,Bb I.sz F.new,?_,?_⟩,hE⟩
 ·obtain⟨oe,vs,e1,e2,e3,_⟩:=fl.first;exact⟨_,e1,(vg dk ho2 e1).trans hd2⟩
 ·refine⟨λb o e n hb hx=>?_,λb o e n hb hx=>?_,λb o e n hx=>?_,λb o e hx=>?_,λb xs q=>u.tups b xs (ob.tups b xs q),λb o v q=>u.frzs b o v (ob.frzs b o v q),λb ps q=>?_⟩
  ·exact u.keep b o (ob.keep b o e n hb hx) (ob.free b o e n hx) (nin b o e hb) hx
  ·obtain⟨sl,e1⟩:=ob.slot b o e n hb hx;obtain⟨sl',e2⟩:=u.slot b _ e1 (ob.free b o e n hx) (by rw[st];exact(hfrs b).mpr (.inr hb)) hx;exact⟨sl',e2⟩
  ·obtain⟨o1,e1⟩:=ob.there b o e hx;exact u.free b o1 e1 (ob.free b o e n hx) hx
  ·obtain⟨o1,e1⟩:=ob.there b o e hx;exact u.there b o1 e1 hx
  ·obtain⟨m1,z1⟩:=ob.tbls b ps q;obtain⟨m2,z2⟩:=u.tbls b _ z1;exact⟨m1++m2,by rw[z2,Array.append_assoc]⟩
 ·intro b o e hb o' e';obtain⟨o1,e1⟩:=ob.there b o e (by simp);obtain⟨o2,e2⟩:=F.un.there b o1 e1 (by simp);have z:=F.old b o1 e1 (nin b o e hb) o2 e2;have z':=fl.1 b o2 z;rw[show h'.get? b=ae o' from e']at z';cases z';exact z
 ·intro b v o q e';obtain⟨o1,e1⟩:=(F.hok b v q).has;have z:=F.trk b v o1 q e1;have z':=fl.1 b o1 z;rw[show h'.get? b=ae o from e']at z';cases z';exact z
end
section
variable{X:Cx}{pins:List (Addr×Obj)}{σ:St}{H:Hp}{s:Ai}
theorem rp(I:Inv X pins σ H s)(hN:X.N.Nodup)(hi:X.N[i]?=ae x)(hk:X.env.scope.names.lookup x=ae .local)
  (h:∀s',Inv X pins (σ.set i af) H s'->Q () s'):Av M A (do bindName X.env x .none;unbindBehindTheSuite X.env x pos) Q E s:=by
 have hiσ:i < σ.length:=by rw[I.len];exact(Al.mp hi).1
 refine Aa (wpAny_bindName (qz I hN hi (.inl hk) (v:=.non) (u:=.none) rfl (λs1 I1=>?_) (.inr hk)));unfold unbindBehindTheSuite;refine wpAny_onRaise ?_;obtain⟨m,hn,hl⟩:=id I1.loc;have hcls:(X.env.scope.kind==.class || (X.env.scope.kind==.module&&X.env.locals != X.env.globals))=ai:=by rw[I.ok.kind];rfl
 obtain⟨u,ru,lu⟩:=hl i x .non hi (Bq hiσ) (.inl hk);have hm:m x=ae u:=by
  rcases lu with⟨_,z⟩|⟨z,_⟩
  ·exact z
  ·rcases z with z|z
   ·rw[show X.env.kindOf x=ae .local from hk]at z;cases z
   ·rw[show X.env.kindOf x=ae .local from hk]at z;cases z
 have cne:=I1.cne;refine wpAny_unbindName_local hk hn hm hcls λh' u' hn' hs=>h _ ?_;refine⟨I1.ok,I1.os,I1.bare,⟨λb o e n hb hx=>?_,λb o e n hb hx=>?_,I1.base.free,λb o e hx=>?_,I1.base.tups,I1.base.frzs,I1.base.tbls⟩,⟨_,hn',λj y v' e1 e2 e3=>?_⟩,λy c e=>?_,I1.free,I1.freeC,λp hp=>?_,λb ob e=>?_,?_⟩
 ·exact(hs.2 b (A8 (Bd (Ao e) I1.ok.above))).trans (I1.base.keep b o e n hb hx)
 ·obtain⟨sl,e1⟩:=I1.base.slot b o e n hb hx;exact⟨sl,(hs.2 b (A8 (Bd (Ao e) I1.ok.above))).trans e1⟩
 ·obtain⟨o',e1⟩:=I1.base.there b o e hx;exact⟨o',(hs.2 b (A8 (Bd (Ao e) I1.ok.above))).trans e1⟩
 ·by_cases hj:j=i
  ·subst hj;rw[Bq hiσ]at e2;cases e2
  ·have e2':(σ.set i (ae V.non))[j]?=ae (ae v'):=by rw[A6 (Ne.symm hj)]at e2 ⊢;exact e2
   obtain⟨u'',r',q⟩:=hl j y v' e1 e2' e3;refine⟨u'',r',?_⟩;rcases q with⟨k,e⟩|⟨k,c,e,z⟩
   ·refine .inl ⟨k,?_⟩;have:y≠x:=λe=>hj (uK hN e1 (e▸hi));simp[this,e]
   ·exact .inr ⟨k,c,e,z.sameBut hs (cne y c e)⟩
 ·obtain⟨w',z⟩:=I1.cell y c e;exact⟨w',z.sameBut hs (cne y c e)⟩
 ·obtain⟨e,n,ne,nf,d⟩:=I1.pin p hp;exact⟨(hs.2 p.1 ne).trans e,n,ne,nf,d⟩
 ·refine(I1.hok b ob e).stay (λc w' hc q=>(hs.2 c ?_).trans q) (λ_ q=>q) λ_ _ q=>q
  rintro rfl
  rcases hc with rfl|hc
  ·rw[I1.free]at e;cases e
  ·rw[I1.free]at hc;cases hc
 ·have:=I1.len;rw[B8]at this ⊢;exact this
end
abbrev Cx.inTry(X:Cx)(pn:List (Addr×Obj))(W:Ae->Ai->Prop):Cx:={ X with pn:=pn,xe:=W}
abbrev Cx.inExc(X:Cx)(e:Ae):Cx:={ X with A:=X.A.mark (ae e),calm:=ai,xe:=λ_ _=>False}
section
variable{X:Cx}{pins pins':List (Addr×Obj)}{σ:St}{H:Hp}{s:Ai}{W:Ae->Ai->Prop}{e:Ae}
theorem Cx.Ok.toTry(ok:X.Ok){pn:List (Addr×Obj)}:(X.inTry pn W).Ok:=
 ⟨ok.mod,ok.kind,ok.glob,ok.blt,ok.above,ok.inj,ok.has,ok.cab,ok.hd,ok.frames,ok.stk,ok.exf,ok.bs,ok.bsz,ok.noex,ok.exfs,ok.funs,ok.frf⟩
theorem Cx.Ok.ofTry{pn:List (Addr×Obj)}(ok:(X.inTry pn W).Ok):X.Ok:=
 ⟨ok.mod,ok.kind,ok.glob,ok.blt,ok.above,ok.inj,ok.has,ok.cab,ok.hd,ok.frames,ok.stk,ok.exf,ok.bs,ok.bsz,ok.noex,ok.exfs,ok.funs,ok.frf⟩
theorem Inv.toTry(I:Inv X pins σ H s):Inv (X.inTry (X.pn++pins) W) [] σ H s:=⟨I.ok.toTry,I.os,I.bare,I.base,I.loc,I.cell,I.free,I.freeC,λp hp=>I.pin p (by rw[Cc]at hp;exact hp),I.hok,I.len⟩
theorem Inv.ofTry(I:Inv (X.inTry (X.pn++pins) W) pins' σ H s):Inv X pins σ H s:=⟨I.ok.ofTry,I.os,I.bare,I.base,I.loc,I.cell,I.free,I.freeC,λp hp=>I.pin p (Fx _ hp),I.hok,I.len⟩
theorem Cx.Ok.toExc(ok:X.Ok):(X.inExc e).Ok:=
 ⟨ok.mod,ok.kind,ok.glob,ok.blt,ok.above,ok.inj,ok.has,ok.cab,(λz=>nomatch z),ok.frames,ok.stk,ok.exf,ok.bs,ok.bsz,ok.noex,ok.exfs,ok.funs,ok.frf⟩
theorem Inv.toExc(I:Inv X pins σ H s):Inv (X.inExc e) pins σ H s:=⟨I.ok.toExc,I.os,I.bare,I.base,I.loc,I.cell,I.free,I.freeC,I.pin,I.hok,I.len⟩
theorem Inv.ofExc(ok:X.Ok)(I:Inv (X.inExc e) pins σ H s):Inv X pins σ H s:=⟨ok,I.os,I.bare,I.base,I.loc,I.cell,I.free,I.freeC,I.pin,I.hok,I.len⟩
end
def oN(i:Nat)(D:Ends):Ends:={ nx:=λσ H=>D.nx (σ.set i af) H,rt:=D.rt,bk:=λσ H=>D.bk (σ.set i af) H,ct:=λσ H=>D.ct (σ.set i af) H}
def ki(K:Af)(C0:Addr)(i:Nat)(th:TS)(D:Ends):St->XK:=λσ cl dd H=>∃C,cl=.ref C/\dd=af/\XCl K C C0/\∀ea,H ea=af->th (oN i D) (σ.set i (ae (.ref ea))) (upd H ea (yO ea C))
def iV(K:Af)(C0:Addr)(i:Nat)(tb:(St->XK)->TS)(th:TS):TS:=λD σ H=>tb (ki K C0 i th D) D σ H
section
variable{X:Cx}{C0:Addr}{body suite:List Stmt}{b0:Stmt}{i:Nat}{x n:Str}{np hpos pos:Pos}{tb:(St->XK)->TS}{th:TS}
theorem EM(hst:X.stack=X.env::X.outer)(hfr:X.env.frame=ae X.env.locals)(hg:Gl X x)(hm:X.mg x=ae (.ref C0))(hN:X.N.Nodup)(hi:X.N[i]?=ae n)(hk:X.env.scope.names.lookup n=ae .local)
  (hb:∀(pn:List (Addr×Obj))(W:Ae->Ai->Prop)(EX:St->XK),(∀pins σ H s e s',Inv (X.inTry pn W) pins σ H s->CXr X.prog X.w X.stack H s (EX σ) e s'->W e s')->PSs (X.inTry pn W) body (tb EX))
  (hs:∀e,PSs (X.inExc e) (b0::suite) th) (hdb:(x==("__debug__":Str))=ai:=by decide):
  PS X (.Try body [.ExceptHandler (ae (.Name x np)) (ae n) (b0::suite) hpos] [] [] pos) (iV X.K C0 i tb th):=by
 intro pins s σ H D I h;refine wpAny_Try_except (B6 (hb (X.pn++pins) _ (ki X.K C0 i th D) ?_ [] s σ H D I.toTry h) (λf s₁ q=>?_) λe s₁ z=>z)
 ·intro pins' σ' H1 s1 e s2 I1 hcx;obtain⟨B,t,ea,C,H',rfl,F,C1,e1,e2,c,q⟩:=hcx;cases e1;have I2:Inv X pins σ' H1 s1:=I1.ofTry;have fly:=F.fly;rw[hst]at fly;obtain⟨o2,ho2,hd2⟩:=F.dict;have frm:X.A.frames=ae (X.env::X.outer):=by rw[<-hst];exact I2.ok.frames
  refine B6 ((KD.note _ _).any (wpAny_looks_onW (E:=λ_ _=>False) (Q:=λ_ s''=>∃h',Heap.HeldW B (X.env::X.outer) ea (.ref C) (.ref t) X.env.locals h'/\s2.heap.UpToSlots h'/\s''={ s2 with heap:=h'}) frm hfr fly λh' a b=>⟨h',a,b,rfl⟩)) (λ_ s₃ hh=>?_) λ_ _ z=>z.elim;obtain⟨⟨h4,held,sm4,rfl⟩,dk4⟩:=hh;refine B6 ((KD.flight _ _).any (wpAny_landsW (E:=λ_ _=>False) (Q:=λ_ s''=>∃h',Heap.FlyingW B (X.env::X.outer) ea (.ref C) (.ref t) h'/\h4.UpToSlots h'/\s''={ s2 with heap:=h'}) held λh' a b=>⟨h',a,b,rfl⟩)) (λ_ s₃ hh=>?_) λ_ _ z=>z.elim;obtain⟨⟨h5,fly5,sm5,rfl⟩,dk5⟩:=hh;have inv:∀h6,Heap.FlyingW B (X.env::X.outer) ea (.ref C) (.ref t) h6->s2.heap.UpToSlots h6->DK s2.heap h6->∀tk,Inv X pins σ' (upd H' ea (yO ea C)) {s2 with heap:=h6,toks:=tk}:=λh6 f6 sm6 dk6 tk=>by
   obtain⟨oe,vs,e1,e2,e3,_⟩:=f6.first;have d6:=(vg dk6 ho2 e1).trans hd2;obtain⟨oc,od,odt,osl⟩:=oe;dsimp only at e2 e3 d6;subst e2 e3 d6;exact Pp I2 F f6.1 sm6 e1 tk
  have I5:=inv h5 fly5 (sm4.trans sm5) (dk4.trans dk5) s2.toks;obtain⟨nm,q',N,bs,sn,sub,ab,col,dd,k0,k1,k2,k3,k5,hC⟩:=c.obj;obtain⟨nm1,q1,N1,bs1,sn1,sub1,ab1,col1,dd1,j0,j1,j2,j3,j5,ni,hC0⟩:=c.base;obtain⟨oe,he1,he2⟩:=fly5.there;refine wpAny_handleBy_cons (codeAny_handlers_test (o8 (X:=X.inExc (.ref ea)) I5.toExc hg hm ?_ hdb)) (by intro z;cases z);refine Px (I5.kIn _ _ hC) (I5.kIn _ _ hC0) he1 he2 ∎ (by simp) ?_;refine codeAny_handlers_suite_as ?_;refine B6 ((KD.flight _ _).any (lands_againW (E:=λ_ _=>False) (Q:=λ_ s''=>∃h',Heap.FlyingW B (X.env::X.outer) ea (.ref C) (.ref t) h'/\h5.UpToSlots h'/\s''={ s2 with heap:=h'}) fly5 λh' a b=>⟨h',a,b,rfl⟩)) (λ_ s₃ hh=>?_) λ_ _ z=>z.elim;obtain⟨⟨h6,fly6,sm6,rfl⟩,dk6⟩:=hh;have I6:=inv h6 fly6 ((sm4.trans sm5).trans sm6) ((dk4.trans dk5).trans dk6) s2.toks;refine qz (X:=X.inExc (.ref ea)) I6.toExc hN hi (.inl hk) (v:=.ref ea) rfl (λs7 I7=>?_) (.inr hk);refine B6 (hs (.ref ea) pins s7 _ _ (oN i D) I7 (q ea F.hea)) (λf s8 h8=>?_) λ_ _ z=>z.elim;show Av _ X.A (do bindName X.env n .none;unbindBehindTheSuite X.env n hpos) (λ_ s₃=>SP X pins D f s₃) X.xe s8;cases f with
  |next=>
   obtain⟨σ2,H2,I8,q8⟩:=h8;exact rp (I8.ofExc I2.ok) hN hi hk λs9 I9=>⟨_,H2,I9,q8⟩
  |brk=>
   obtain⟨σ2,H2,I8,q8⟩:=h8;exact rp (I8.ofExc I2.ok) hN hi hk λs9 I9=>⟨_,H2,I9,q8⟩
  |cont=>
   obtain⟨σ2,H2,I8,q8⟩:=h8;exact rp (I8.ofExc I2.ok) hN hi hk λs9 I9=>⟨_,H2,I9,q8⟩
  |ret u=>
   obtain⟨v,σ2,H2,I8,r8,q8⟩:=h8;exact rp (I8.ofExc I2.ok) hN hi hk λs9 I9=>⟨v,_,H2,I9,r8,q8⟩
 ·cases f with
  |next=>
   obtain⟨σ2,H2,I8,q8⟩:=q;exact Hf ⟨σ2,H2,I8.ofTry,q8⟩
  |brk=>obtain⟨σ2,H2,I8,q8⟩:=q;exact⟨σ2,H2,I8.ofTry,q8⟩
  |cont=>obtain⟨σ2,H2,I8,q8⟩:=q;exact⟨σ2,H2,I8.ofTry,q8⟩
  |ret u=>obtain⟨v,σ2,H2,I8,r8,q8⟩:=q;exact⟨v,σ2,H2,I8.ofTry,r8,q8⟩
end
end L2
namespace L2
open PySem PySem.Spec PyProof.Rows PySem.W Builtin Builtin.ObjectAttr
section
variable{prog:A7}{w:Bi}{A:Br}{E:Ae->Ai->Prop}{s:Ai}{K:Frag}{x C:Addr}{ox:Obj}{od:Option Obj}{name:Str}
structure XGtt(K:Frag)(C:Addr):Prop where
 ga:findIn K (.ref C) "__getattribute__"=ae (ae (.builtin "BaseException.__getattribute__"))
 hk:findIn K (.ref C) "__getattr__"=ae af
 sub:subIn K (.ref C) (.type "BaseException")=ae ah
theorem Ul{fill expr:Bool}(X:K.In s.heap)(I:InstAt s.heap x ox C od)(G:XGtt K C)
  (h:Av (A9 prog w) A.in1 (Ei.«object.__getattribute__» ⟨[.ref x,.str name tk],[]⟩) (λfin s'=>match fin with|.done (.ret v)=>Av (A9 prog w) A (handedOut v) Q E s'|_=>False) (λ_ _=>False) s):
  Av (A9 prog w) A (getAttrBy (.ref x) (.str name tk) fill expr) Q E s:=by
 have FX:=PySem.F.excAttr_ValueError;have ht:Looks (A9 prog w) s.heap (typeOf (.ref x)) (.ref C):=I.type;unfold getAttrBy;refine B3 (Aa (ht.here (Aa ((looks_findIn X G.ga).here ?_))));dsimp only;rw[show(onTheHeap (As C)&&G2 "BaseException.__getattribute__"==G2 "object.__getattribute__")=ai from by rw[show(G2 "BaseException.__getattribute__"==G2 "object.__getattribute__")=ai from by decide +kernel,Bool.and_false],if_neg ∎];refine Aa ((looks_hook X (mc:=.ref C) (r:=af) (show(if onTheHeap (As C)=ah then findIn K (As C) "__getattr__" else ae af)=ae af from G.hk)).here (Aa (wpAny_attempt (B3 ?_))));unfold callGetattribute;rw[show(expr&&onTheHeap (G2 "BaseException.__getattribute__"))=ai from Bool.and_false _,if_neg ∎];unfold boundAndCalled;rw[FX.ga.bind];refine Aa (Aj ?_);show Av _ _ (call (.builtin "BaseException.__getattribute__") [.ref x,.str name tk]) _ _ _;refine wpAny_call (codeAny_call_builtin FX.ga.plain PySem.F.entry_bexc_ga ?_);refine @check_slot (A9 prog w) _ _ s "BaseException.__getattribute__" "BaseException" "__getattribute__" (.ref x) [.str name tk] [] _ ∅ ∅ (ht.andThen (looks_subIn X G.sub)) (PySem.F.args_bexc_ga (.ref x) (.str name tk)) ?_;refine B6 h (λfin s' z=>?_) λ_ _ z=>z.elim;rcases fin with(_|_|_|_)|_<;>first|exact z|exact z.elim
theorem wL(X:K.In s.heap)(I:InstAt s.heap x ox C af)(G:XGtt K C)(hf:findObj K C af "__class__"=ae (.bind (.builtin "getset_descriptor.__get__") (.builtin "object.__class__")))
  (hm:mroIn K C (.type "object")=ae ah) (h:Q (ae (.ref C)) {s with toks:=s.toks+1}):Av (A9 prog w) A (getAttr? (.ref x) "__class__") Q E s:=by
 unfold getAttr? getAttrBy?;refine Aa (wpAny_mkText (Aa (wpAny_attempt (B6 (Ul (s:={ s with toks:=s.toks+1}) (E:=λ_ _=>False) (Q:=λv s'=>Q (ae v) s') X I G ?_) (λv s' hv=>Aj hv) λ_ _ z=>z.elim))));have L0:=I.type (M:=A9 prog w);have L1:=looks_find (M:=A9 prog w) X I hf;refine Aa (Aj (Aa (Aj (Aa (L0.here (s:={ s with toks:=s.toks+1}) (Aa (L1.here (s:={ s with toks:=s.toks+1}) ?_)))))));show Av _ _ (bindTo _ _ _ _) _ _ _;unfold bindTo;refine Aa (B3 (wpAny_call (class_get (s:={ s with toks:=s.toks+1}) (ox:=ox) (od:=af) X I hm ?_)));exact Aj (handed_on rfl h)
structure XCla(K:Frag)(C:Addr):Prop extends XGtt K C where
 hd:hasDictIn K C=ah
 cl:findIn K (.ref C) "__class__"=ae (ae (.builtin "object.__class__"))
 gt:specialIn K (.builtin "object.__class__") "__get__"=ae (ae (.builtin "getset_descriptor.__get__"))
 tk:takesIn K (.builtin "object.__class__")=ae ah
 mr:mroIn K C (.type "object")=ae ah
theorem QF(hc:(clsIn K C).isSome=ah)(ha:findIn K (.ref C) name=ae (ae a))(hg:specialIn K a "__get__"=ae (ae g))(ht:takesIn K a=ae ah):findObj K C af name=ae (.bind g a):=by
 obtain⟨cd,hc⟩:=Eu.mp hc;unfold findObj;rw[hc,Option.bind_some,ha,Option.bind_some];simp[hg,ht]
theorem m9(G:XCla K C):KitX K (.ref x) (.ref C) (λh=>InstAt h x ox C af) where
 ty:=λ_ _ _ I=>I.type
 it:=λ_ _ X _=>by
  obtain⟨cd,hc,_⟩:=any_some G.hd;unfold clsIn at hc
  split at hc
  ·rename_i c' d' cd' sl' ho;intro A' Q' E' s' k q;unfold isType loadHead;exact Aa (wpAny_loadPart (k _ _ (X _ _ ho)) (Aj q))
  ·cases hc
 ne:=λh tp dd its n sl X htp=>by
  obtain⟨cd,hc,_⟩:=any_some G.hd;unfold clsIn at hc
  split at hc
  ·rename_i c' d' cd' sl' ho;refine beq_false_of_ne λz=>?_;cases z;rw[X _ _ ho]at htp;cases htp
  ·cases hc
 ca:=λX I h=>wL X I G.toXGtt (QF (by obtain⟨cd,hc,_⟩:=any_some G.hd;rw[hc];rfl) G.cl G.gt G.tk) G.mr h
end
section
variable{X:Cx}{pins:List (Addr×Obj)}{σ:St}{H:Hp}{s:Ai}{ea C:Addr}
theorem DH(I:Inv X pins σ H s)(he:H ea=ae (yO ea C)):∃ox,InstAt s.heap ea ox C af:=by
 obtain⟨⟨vs,sl,e⟩,_⟩:=I.hok _ _ he;exact⟨_,e,rfl,rfl,trivial⟩
theorem FG{p p2 pos:Pos}(hg:Gl X "isinstance")(hm:X.mg "isinstance"=af)(hc:PE X (.Name x2 p2) (tC v))(hv:∀u,RelV v u->u=c)(G:XCla X.K C)(hb:kitOne X.K (.ref C) c=ae b)(ha:PE X e te)
  (he:Ap [e,.Name x2 p2] X.env=(ai,eval e X.env)::Ap [.Name x2 p2] X.env:=by rfl) (he2:Ap [.Name x2 p2] X.env=(ai,eval (.Name x2 p2) X.env)::Ap [] X.env:=by rfl) (hpl:(Cy pos (Ap [.Name x2 p2] X.env)).any (·.1)=ai:=by rfl):
  PE X (.Call (.Name "isinstance" p) [e,.Name x2 p2] [] pos) (eT (λxs H Q=>∃ea,xs=[.ref ea,v]/\H ea=ae (yO ea C)/\Q (.bl b) H) (aM te (aM (tC v) aI))):=by
 refine ju (λpins s σ H xs us Q I r h=>?_) hg hm PyProof.Rows.Boot.«isinstance» (bP ha (bP hc dC he2) he) (he:=he) (hpl:=hpl);obtain⟨ea,rfl,h1,q⟩:=h;obtain⟨u1,u2,rfl,r1,r2⟩:=qr r;obtain rfl:u1=As ea:=r1;cases hv u2 r2;obtain⟨ox,J⟩:=DH I h1;exact kia_one (m9 G) I.kIn J hb (λz=>nomatch z) λtk=>⟨.bl b,H,I.tok _,rfl,q⟩
theorem zT:∀(cs:List Addr)(its:List Ae),Vals (cs.map V.ref) its->its=cs.map As
 |[],_,.nil=>rfl
 |c::cs,_,.cons a b=>by rw[zT cs _ b,show _=As c from a];rfl
theorem Qp{p pos tp:Pos}{cs:List Addr}(hg:Gl X "isinstance")(hm:X.mg "isinstance"=af)(G:XCla X.K C)(hb:kitAny X.K (.ref C) (cs.map As)=ae b)(ha:PE X e te)(hc:PE X (.Tuple es x' tp) (gG tc))
  (he:Ap [e,.Tuple es x' tp] X.env=(ai,eval e X.env)::Ap [.Tuple es x' tp] X.env:=by rfl) (he2:Ap [.Tuple es x' tp] X.env=(ai,eval (.Tuple es x' tp) X.env)::Ap [] X.env:=by rfl) (hpl:(Cy pos (Ap [.Tuple es x' tp] X.env)).any (·.1)=ai:=by rfl):
  PE X (.Call (.Name "isinstance" p) [e,.Tuple es x' tp] [] pos) (eT (λxs H Q=>∃ea t,xs=[.ref ea,.ref t]/\H ea=ae (yO ea C)/\H t=ae (.tup (cs.map V.ref))/\Q (.bl b) H) (aM te (aM (gG tc) aI))):=by
 refine ju (λpins s σ H xs us Q I r h=>?_) hg hm PyProof.Rows.Boot.«isinstance» (bP ha (bP hc dC he2) he) (he:=he) (hpl:=hpl);obtain⟨ea,t,rfl,h1,h3,q⟩:=h;obtain⟨u1,u2,rfl,r1,r2⟩:=qr r;obtain rfl:u1=As ea:=r1;obtain rfl:u2=As t:=r2;obtain⟨ox,J⟩:=DH I h1;obtain⟨_,its,rv,ot,e1,e2,⟨n,e3⟩,e4⟩:=(show ObjOk X.prog X.w H s.heap t (.tup (cs.map V.ref))from I.hok _ _ h3);have ei:=zT cs its rv;subst ei;obtain⟨oc,od,odt,osl⟩:=ot;dsimp only at e2 e3 e4;subst e2 e3 e4;exact kia_tup (m9 G) I.kIn J e1 hb (λz=>nomatch z) λtk=>⟨.bl b,H,I.tok _,rfl,q⟩
end
end L2
namespace L2
open PySem PySem.Spec PyProof.Rows
def gR(sp:Sp)(EX:St->XK)(t:TA):TE:=λσ H Q=>t σ H λvs H1=>sp vs H1 Q (EX σ)
theorem iT{p pos:Pos}(F:FnOk X.prog X.w X.K X.mg X.base CX k f fd ps sp)(hr:Room k X.A)(hg:Gl X x)(hm:X.mg x=ae (.ref f))(hk:Bx X.K (.ref f)=ah)(hb:Binds X.K fd ps [])
  (hx:∀pins σ H s e s',Inv X pins σ H s->CX X.stack H s (EX σ) e s'->X.xe e s') (ha:PA X (e::es) t) (hdb:(x==("__debug__":Str))=ai:=by decide) (he:Ap (e::es) X.env=(ai,eval e X.env)::Ap es X.env:=by rfl) (hpl:(Cy pos (Ap es X.env)).any (·.1)=ai:=by rfl):
  PE X (.Call (.Name x p) (e::es) [] pos) (gR sp EX t):=by
 intro pins s σ H Q I h;refine Ep (o8 I hg hm ?_ hdb);refine PySem.W.callWith_K (h₀:=X.base) I.ok.mod.kin hk (aG (ha pos pins s σ H _ I h) λus s1 ⟨vs,H1,I1,r,q⟩=>⟨I1.kIn,?_⟩) he hpl;have hl:us.length=ps.length:=by rw[<-r.length];exact F.len _ _ _ _ q
 have hb':=hb s1 us I1.kIn (by rw[Cc];exact hl);rw[Cc]at hb';refine wpAny_call (G4 (F.run X.A X.stack s1 H1 ⟨us,[]⟩ us vs Q (EX σ) hr I1.env0 hb' r q) λr s' hq=>?_);cases r with
 |error e=>exact hx pins σ H1 s1 e s' I1 hq
 |ok fl=>
  cases fl with
  |ret u=>exact I1.after hq
  |next=>exact False.elim hq
  |brk=>exact False.elim hq
  |cont=>exact False.elim hq
end L2
namespace DL
open PySem L2 Nb
def L4(C:Ctx)(fz:Hp):Prop:=∀b o,C.fz b=ae o->fz b=ae o
def mX(C:Ctx)(T:TS)(W:aF):Prop:=∀(fz:Hp),L4 C fz->∀(H:Hp)(B:Addr->Prop)(σ:St)(δ:Sl)(n:Int)(K:DEnds)(D:Ends),Rel {C with fz:=fz} H B σ δ n->W δ n K->EndsOk {C with fz:=fz} K D->T D σ H
structure DR(C:Ctx)(X:Cx)(st:Stmt)(T:TS)(W:aF):Prop where
 ps:PS X st T
 sd:mX C T W
structure DRs(C:Ctx)(X:Cx)(st:List Stmt)(T:TS)(W:aF):Prop where
 ps:PSs X st T
 sd:mX C T W
def xE(C:Ctx)(Cl:Addr)(EX:St->XK)(Ed:Int->Prop):Prop:=∀(σ:St)(H:Hp)(n:Int),Tp H C.t C.l C.ns n->Kp C.t C.H0 H->Ed n->EX σ (.ref Cl) af H
def Hx(X:Cx)(EX:St->XK):Prop:=∀(pins:List (Addr×Obj))(σ:St)(H:Hp)(s:Ai)(e:Ae)(s':Ai),Inv X pins σ H s->CXr X.prog X.w X.stack H s (EX σ) e s'->X.xe e s'
theorem pA:Hx (bz (CXr P w) P w K mg base N qual scope f cd A outer s₀ H₀ E) (λ_=>E):=λ_ _ _ _ _ _ I h=>Nx I h
section
variable{C:Ctx}{X:Cx}{st:Stmt}{rest:List Stmt}{T U:TS}{W V':aF}{pos:Pos}
theorem DS.r(h:DS X st T W):DR C X st T W:=⟨h.ps,λfz _=>h.sd {C with fz:=fz}⟩
theorem x4(h:DR C X st T W)(h2:DRs C X rest U V'):DRs C X (st::rest) (fi T U) (aq W V'):=⟨f9 h.ps h2.ps,λfz hz H B σ δ n K D R q E=>
 h.sd fz hz H B σ δ n _ _ R q ⟨λH B σ δ n R q=>h2.sd fz hz H B σ δ n K D R q E,E.rt,E.bk,E.ct,E.rn,E.rx⟩⟩
theorem yB(h:DR C X st T W):DRs C X [st] T W:=⟨ft h.ps,h.sd⟩
theorem RO(hc:DC X c tc cc)(hb:DRs C X body tb V')(hp:PassesOwn (A9 X.prog X.w) X.A X.env X.xe):DR C X (.While c body [] pos) (uf tc tb) (iG cc V'):=⟨zq hp hc.pt hb.ps,λfz hz H B σ δ n K D R q E=>by
 obtain⟨I,⟨m0,i0⟩,turn⟩:=q;refine⟨λm σ H=>∃B δ n,Rel {C with fz:=fz} H B σ δ n/\I m δ n,⟨m0,B,δ,n,R,i0⟩,λm σ H ⟨B,δ,n,R,i⟩=>?_⟩;refine hc.sd {C with fz:=fz} H B σ δ n _ _ R (turn m δ n i) λb H1 n1 R1 k1 q1=>?_;cases b with
 |true=>
  rw[if_pos rfl]at q1 ⊢;refine⟨λσ' H'=>∃m',m' < m/\∃B δ n,Rel {C with fz:=fz} H' B σ' δ n/\I m' δ n,λσ' H' z=>z,?_⟩;refine hb.sd fz hz H1 B σ δ n1 _ _ R1 q1 ⟨?_,E.rt,?_,?_,E.rn,E.rx⟩
  ·exact λH B σ δ n R ⟨m',hm,z⟩=>⟨m',hm,B,δ,n,R,z⟩
  ·exact E.nx
  ·exact λH B σ δ n R ⟨m',hm,z⟩=>⟨m',hm,B,δ,n,R,z⟩
 |false=>
  rw[if_neg Ak]at q1 ⊢;exact E.nx H1 B σ δ n1 R1 q1⟩
end
abbrev lY:=List Wv->Int->(List (TK×Ab)->Int->Prop)->(Int->Prop)->Prop
def Ic(Cl:Addr)(S:lY):Sp:=λvs H Q E=>∃(t:Addr)(l:TL)(ns:List Int)(B:Addr->Prop)(ws:List Wv)(n:Int)(Q0:List (TK×Ab)->Int->Prop)(E1:Int->Prop),Tp H t l ns n/\B t/\(∀b,B b->H b≠af)/\ARel H B t vs ws/\S ws n Q0 E1 /\
 (∀kvs n',Q0 kvs n'->∀a l' H',Tp H' t l ns n'->Kp t H H'->H a=af->H' a=ae (.dX l')->l'.length<=2000->RdY H' (λb=>B b\/b=a) l' kvs->Q (.ref a) H')/\∀n',E1 n'->∀H',Tp H' t l ns n'->Kp t H H'->E (.ref Cl) af H'
abbrev fm:=List Wv->Prop
def gX(Cl:Addr)(S:fm):Sp:=λvs H _ E=>∃(t:Addr)(l:TL)(ns:List Int)(B:Addr->Prop)(ws:List Wv)(n:Int),Tp H t l ns n/\B t/\(∀b,B b->H b≠af)/\ARel H B t vs ws/\S ws/\∀H',Tp H' t l ns n->Kp t H H'->E (.ref Cl) af H'
section
variable{P:A7}{w:Bi}{K:Af}{mg:Str->Option Ae}{base:Heap}
theorem FnOk.calm(F:FnOk P w K mg base (CXr P w) k f fd ps sp)(h:∀vs H Q E,sp' vs H Q E->sp vs H Q λ_ _ _=>False):FnOk P w K mg base cb k f fd ps sp':=
 ⟨λvs H Q E q=>F.len _ _ _ _ (h vs H Q E q),λA outer s H args us vs Q E hr he hb hv q=>G4 (F.run A outer s H args us vs Q _ hr he hb hv (h vs H Q E q)) λr s' z=>by
  cases r with
  |error e=>exact(CXr.no _ _ _ _ _ z).elim
  |ok fl=>cases fl<;>exact z⟩
theorem Fun.okXE{W:(Int->Prop)->aF}(F:Fun K x qual st fa fd)(Sc:FnScope N ps (bw st))(len:∀ws n Q E,S ws n Q E->ws.length=ps.length)
  (hbody:∀(cdv:Ae)(A:Br)(outer:List Env)(s:Ai)(H:Hp)(E:XK),Room k (A.deeper (Cu qual (bw st) s.heap.objs.size fa cdv))->
   ∀C Ed,xE C Cl (λ_=>E) Ed->∃T,DRs C (bz (CXr P w) P w K mg base N qual (bw st) fa cdv A outer s H E) (eR st) T (W Ed))
  (body:∀ws n Q E,S ws n Q E->W E (cO N ws) n {nx:=λ_ _=>False,rt:=λ_ _=>False,rx:=Q}):FnOk P w K mg base (CXr P w) (k+1) fa fd ps (Ic Cl S):=by
 obtain⟨oc,od,kV,doc,pm,an,cdv,ct,osl,rfl,lk,hcd⟩:=F.ex;refine qB lk hcd Sc (λvs H Q E h=>?_) λA outer s H vs Q E hr h=>?_
 ·obtain⟨t,l,ns,B,ws,n,Q0,E1,_,_,_,r,q,_⟩:=h;rw[r.len];exact len ws n Q0 E1 q
 ·obtain⟨t,l,ns,B,ws,n,Q0,E1,T,bt,ba,r,q,kq,ke⟩:=h;obtain⟨T',d⟩:=hbody cdv A outer s H E hr ⟨t,l,ns,H,B,λ_=>af⟩ E1 λσ H' n' T' k' e=>ke n' e H' T' k';refine⟨T',d.ps,d.sd (λ_=>af) (λ_ _ z=>z) H B _ _ n _ _ (sO T bt ba r) (body ws n Q0 E1 q) ⟨?_,?_,?_,?_,?_,?_⟩⟩
  ·exact λ_ _ _ _ _ _ z=>z.elim
  ·exact λ_ _ _ _ _ _ _ _ _ z=>z.elim
  ·exact λ_ _ _ _ _ _ z=>z.elim
  ·exact λ_ _ _ _ _ _ z=>z.elim
  ·exact λ_ _ _ _ _ _ _ _ _ _ _ _ _ z=>z.elim
  ·exact λH' B' σ δ n' a l' kvs R' h0 h1 h2 h3 q'=>kq _ _ q' a l' H' R'.tp R'.kp h0 h1 h2 (h3.move λb o e nb=>⟨e,λz=>nb (z.elim (λz=>.inl (R'.b0 b z)) .inr)⟩)
theorem Fun.okZ(F:Fun K x qual st fa fd)(Sc:FnScope N ps (bw st))(len:∀ws,S ws->ws.length=ps.length)
  (hbody:∀(cdv:Ae)(A:Br)(outer:List Env)(s:Ai)(H:Hp)(E:XK),Room k (A.deeper (Cu qual (bw st) s.heap.objs.size fa cdv))->
   ∃T,PSs (bz (CXr P w) P w K mg base N qual (bw st) fa cdv A outer s H E) (eR st) T/\∀(C:Ctx)(B:Addr->Prop)(σ:St)(n:Int)(ws:List Wv)(D:Ends),xE C Cl (λ_=>E) (λn'=>n'=n)->Rel C H B σ (cO N ws) n->S ws->T D σ H):FnOk P w K mg base (CXr P w) (k+1) fa fd ps (gX Cl S):=by
 obtain⟨oc,od,kV,doc,pm,an,cdv,ct,osl,rfl,lk,hcd⟩:=F.ex;refine qB lk hcd Sc (λvs H Q E h=>?_) λA outer s H vs Q E hr h=>?_
 ·obtain⟨t,l,ns,B,ws,n,_,_,_,r,q,_⟩:=h;rw[r.len];exact len ws q
 ·obtain⟨t,l,ns,B,ws,n,T,bt,ba,r,q,ke⟩:=h;obtain⟨T',d,sd⟩:=hbody cdv A outer s H E hr;exact⟨T',d,sd ⟨t,l,ns,H,B,λ_=>af⟩ B _ n ws _ (λσ H' n' T' k' e=>ke H' (e▸T') k') (sO T bt ba r) q⟩
structure HasXE(P:A7)(w:Bi)(K:Af)(mg:Str->Option Ae)(base:Heap)(k:Nat)(x:Str)(ps:List Str)(Cl:Addr)(S:lY):Prop where
 ex:∃(f:Addr)(fd:Bz),FnOk P w K mg base (CXr P w) k f fd ps (Ic Cl S)/\Binds K fd ps []/\mg x=ae (.ref f)/\Bx K (.ref f)=ah
structure HasZ(P:A7)(w:Bi)(K:Af)(mg:Str->Option Ae)(base:Heap)(k:Nat)(x:Str)(ps:List Str)(Cl:Addr)(S:fm):Prop where
 ex:∃(f:Addr)(fd:Bz),FnOk P w K mg base (CXr P w) k f fd ps (gX Cl S)/\Binds K fd ps []/\mg x=ae (.ref f)/\Bx K (.ref f)=ah
theorem HasXE.x{x:Str}(h:HasXE P w K mg base k x ps Cl S)(i:∀ws n Q,S' ws n Q->S ws n Q λ_=>False):HasX P w K mg base k x ps S':=by
 obtain⟨f,fd,h1,h2⟩:=h.ex;refine⟨f,fd,FnOk.calm h1 λvs H Q E q=>?_,h2⟩;obtain⟨t,l,ns,B,ws,n,Q0,T,bt,ba,r,q,kk⟩:=q;exact⟨t,l,ns,B,ws,n,Q0,_,T,bt,ba,r,i _ _ _ q,kk,λ_ z=>z.elim⟩
theorem HasXE.z{x:Str}(h:HasXE P w K mg base k x ps Cl S)(i:∀ws n,S' ws->S ws n (λ_ _=>False) λn'=>n'=n):HasZ P w K mg base k x ps Cl S':=by
 obtain⟨f,fd,h1,h2⟩:=h.ex;refine⟨f,fd,h1.imp λvs H Q E q=>?_,h2⟩;obtain⟨t,l,ns,B,ws,n,T,bt,ba,r,q,ke⟩:=q;exact⟨t,l,ns,B,ws,n,_,_,T,bt,ba,r,i _ _ q,λ_ _ z=>z.elim,λn' e H' T' k'=>ke H' (e▸T') k'⟩
end
theorem zZ:PSs X l λ_ _ _=>False:=λ_ _ _ _ _ _ h=>h.elim
theorem Rel.fur(R:Rel C H B σ δ n)(hi:δ[i]?=ae (ae (.odx m)))(hij:i≠j)(hσ:σ[i]?=ae (ae (.ref a)))
  (I:FuI H C.t C.l C.ns n B a b p H') (hl:p.1.length<=2000) (hl2:p.2.length<=Ar):Rel C H' (λc=>B c\/c=b) (σ.set j (ae (.ref b))) ((δ.set j (ae (.own (p.2.map (·.1))))).set i (ae (.odx p.1))) n:=by
 obtain⟨v,hv,a',l0,rfl,e2,e3,e4,e5,e6⟩:=R.sl i _ hi;rw[hσ]at hv;cases hv;have hat:a≠C.t:=λz=>R.t0 (z▸e4);obtain⟨xs,fb,fr⟩:=I.fr;obtain⟨l',ga,gr⟩:=I.st;have hab:a≠b:=aY e2 I.nb
 let H1:=upd H' a (.dX l0)
 have k1:Kp C.t H H1:=λc o e ne=>by
  by_cases z:c=a
  ·subst z;rw[e2]at e;cases e;exact aR
  ·show upd H' a (.dX l0) c=ae o;rw[aD z];exact I.kp c o e ne z
 have T1:Tp H1 C.t C.l C.ns n:=I.tp.other hat.symm (λz=>R.l0 (z▸e4)) (λe z=>R.g0 e (z▸e4));have R1:Rel C H1 B σ δ n:=R.step T1 k1;have mv:∀c o,H' c=ae o->¬(B c\/c=b)->H1 c=ae o/\¬(B c\/c=b):=λc o e nb=>⟨by show upd H' a (.dX l0) c=ae o;rw[aD λ(z:c=a)=>nb (.inl (z▸e3))];exact e,nb⟩;have fb1:H1 b=ae (.lst xs):=by show upd H' a (.dX l0) b=_;rw[aD hab.symm];exact fb
 have R2:Rel C H1 (λc=>B c\/c=b) (σ.set j (ae (.ref b))) (δ.set j (ae (.own (p.2.map (·.1))))) n:=
  R.own R1 k1 I.nb (by rw[fb1];exact λz=>nomatch z) rfl ⟨b,xs,rfl,fb1,.inr rfl,R.h0 I.nb,by rw[fr.len,Ad];exact hl2,fr.move mv⟩
 have he:upd H1 a (.dX l')=H':=by
  show upd (upd H' a (.dX l0)) a (.dX l')=H';rw[xG]
  funext c
  by_cases z:c=a
  ·subst z;rw[aR,ga]
  ·rw[aD z]
 have:=R2.mutOwn (i:=i) (x:=.odx m) (x':=.odx p.1) (a:=a) (o:=.dX l') (by rw[A6 hij.symm];exact hi) rfl (by rw[A6 hij.symm];exact hσ) (.inl e3) e4
  (by rw[he];exact⟨a,l',rfl,ga,.inl e3,e4,by rw[gr.len];exact hl,gr⟩) rfl
 rw[he]at this;exact this
def vY(Cl:Addr)(Sa:aL):Sp:=λvs H Q E=>∃(t:Addr)(l:TL)(ns:List Int)(n:Int)(B:Addr->Prop)(v0:V)(a c:Addr)(pd:Ab)(N:Nat)(aft:TK->Nat->Option TK)(Gd:TK->Prop)(xs:List V)(ss:List TK)(m0:List (TK×Ab))(l0:List (TK×Addr×V)),
 vs=[v0,.ref a,.ref c]/\AfOk Sa pd N aft Gd/\FuC H t l B a/\N < 2 ^ 60/\RdX H B v0 pd/\Tp H t l ns n/\H a=ae (.dX l0)/\RdY H B l0 m0/\H c=ae (.lst xs)/\c≠t/\RdXs H B xs (ss.map (·.1))/\(∀s∈ss,Gd s)/\m0.length<=2000 /\
 ((bA aft N (m0,[]) ss).1.length<=2000->∀b H',FuI H t l ns n B a b (bA aft N (m0,[]) ss) H'->Q (.ref b) H')/\(2000 < (bA aft N (m0,[]) ss).1.length->∀b p' H',FuI H t l ns n B a b p' H'->E (.ref Cl) af H')
structure HasM(P:A7)(w:Bi)(K:Af)(mg:Str->Option Ae)(base:Heap)(k:Nat)(x:Str)(ps:List Str)(Cl:Addr)(Sa:aL):Prop where
 ex:∃(f:Addr)(fd:Bz),FnOk P w K mg base (CXr P w) k f fd ps (vY Cl Sa)/\Binds K fd ps []/\mg x=ae (.ref f)/\Bx K (.ref f)=ah
def jz(Sa:aL)(h i j:Nat)(Ed:Int->Prop):aF:=λδ n E=>∃(pd:Ab)(N:Nat)(aft:TK->Nat->Option TK)(Gd:TK->Prop)(m:List (TK×Ab))(ss:List TK),AfOk Sa pd N aft Gd/\N < 2 ^ 60/\δ[h]?=ae (ae (.w (.d pd)))/\δ[i]?=ae (ae (.odx m))/\δ[j]?=ae (ae (.own (ss.map (·.1))))/\(∀s∈ss,Gd s) /\
 ((bA aft N (m,[]) ss).1.length<=2000->E.nx ((δ.set j (ae (.own ((bA aft N (m,[]) ss).2.map (·.1))))).set i (ae (.odx (bA aft N (m,[]) ss).1))) n)/\(2000 < (bA aft N (m,[]) ss).1.length->Ed n)
section
variable{C:Ctx}{X:Cx}{EX:St->XK}{Ed:Int->Prop}{Cl:Addr}{pos p0 p1 p2 p3 p4 cp:Pos}
theorem Uw(F:HasM X.prog X.w X.K X.mg X.base k f ps Cl Sa)(hr:Room k X.A)(hx':Hx X EX)(L:xE C Cl EX Ed)(hg:Gl X f)(hN:X.N.Nodup)(h2:X.N[j]?=ae x2)(hx:gw X.env.scope x2)(hij:i≠j)
   (ha:DA X [.Name x0 p1,.Name x1 p2,.Name x2 p3] (aM (az h) (aM (az i) (aM (az j) aI))) wR)
  (hs:Dp (.Call (.Name f p0) [.Name x0 p1,.Name x1 p2,.Name x2 p3] [] cp) (ae (.Name x2 p4)) pos.line X.env=pure ai:=by rfl) (hf:X.fn x2=ah\/X.env.scope.names.lookup x2=ae .local:=by first|exact .inl rfl|exact .inr rfl|assumption)
  (hdb:(f==("__debug__":Str))=ai:=by decide)
  (he:Ap (.Name x0 p1::[.Name x1 p2,.Name x2 p3]) X.env=(ai,eval (.Name x0 p1) X.env)::Ap [.Name x1 p2,.Name x2 p3] X.env:=by rfl) (hpl:(Cy cp (Ap [.Name x1 p2,.Name x2 p3] X.env)).any (·.1)=ai:=by rfl):
  DR C X (.Assign [.Name x2 p4] (.Call (.Name f p0) [.Name x0 p1,.Name x1 p2,.Name x2 p3] [] cp) pos) (aW (gR (vY Cl Sa) EX (aM (az h) (aM (az i) (aM (az j) aI)))) (cv j)) (jz Sa h i j Ed):=by
 obtain⟨g,fd,f1,f2,f3,f4⟩:=F.ex;refine⟨dZ hN h2 hx (iT f1 hr hg f3 f4 f2 hx' ha.pa hdb he hpl) hs hf,λfz hz H B σ δ n E D R q EO=>?_⟩;obtain⟨pd,N,aft,Gd,m,ss,A,hN',dh,di,dj,gd,q,qe⟩:=q;obtain⟨u0,s0,r0⟩:=R.sl h _ dh;obtain⟨_,s1,a,l0,rfl,a2,a3,a4,a5,a6⟩:=R.sl i _ di;obtain⟨_,s2,c,xs,rfl,c2,c3,c4,c5,c6⟩:=R.sl j _ dj;refine⟨u0,s0,.ref a,s1,.ref c,s2,?_⟩;refine⟨C.t,C.l,C.ns,n,B,u0,a,c,pd,N,aft,Gd,xs,ss,m,l0,rfl,A,⟨R.bt,a3,R.ba,λz=>R.t0 (z▸a4),?_,?_⟩,hN',r0.1,R.tp,a2,a6,c2,λz=>R.t0 (z▸c4),c6,gd,by rw[<-a6.len];exact a5,λle b H' I=>?_,λgt b p' H' I=>L σ H' n I.tp (λd o e z=>I.kp d o (R.kp d o e z) z λy=>by rw[y,show C.H0 a=af from a4]at e;cases e) (qe gt)⟩
 ·have:=R.tp.ls;exact λz=>by rw[show H C.l.s=af from z]at this;cases this
 ·exact λe z=>by have:=R.tp.ag e;rw[show H C.l.g=af from z]at this;cases this
 ·have sub:(bA aft N (m,[]) ss).2.length<=(bA aft N (m,[]) ss).1.length:=oh _ (λp s=>DU aft N p s) ss (m,[]) (Az _);exact EO.nx _ _ _ _ _ (Rel.fur R di hij s1 I le (Bb (Bb sub le) ∎)) (q le)
end
section
variable{P:A7}{w:Bi}{K:Af}{mg:Str->Option Ae}{base:Heap}
def kl(X:Cx)(b:List Stmt)(Sa:aL)(EX:Hp->Prop):Prop:=∃(tm tr:TE)(rE:R2)(tz:TS),PSs X b (kj X.K Sa tm rE tz tr)/\(∀(D:Ends)(σ:St)(H:Hp),EX H->tz D σ H)/\(∀(σ:St)(H:Hp)(Q:VK),Q (.int 2000) H->tm σ H Q)/\(∀(x y:Int)(H:Hp)(Q:VK),Q (.bl (decide (x=y))) H->rE (.int x) (.int y) H Q) /\
 ∀(σ:St)(H:Hp)(Q:VK)(B:Addr->Prop)(v0:V)(ps:List Ab),σ[0]?=ae (ae v0)->RdX H B v0 (.tuple ps)->Q (.int ((ps.length+1:Nat):Int)) H->tr σ H Q
theorem Fun.okM(F:Fun K x qual st f fd)(Sc:FnScope N ps (bw st))(hps:ps.length=3)(hNl:6 < N.length)
  (hbody:∀(cdv:Ae)(A:Br)(outer:List Env)(s:Ai)(H:Hp)(E:XK),Room k (A.deeper (Cu qual (bw st) s.heap.objs.size f cdv))->
   kl (bz (CXr P w) P w K mg base N qual (bw st) f cdv A outer s H E) (eR st) Sa λH=>E (.ref Cl) af H):FnOk P w K mg base (CXr P w) (k+1) f fd ps (vY Cl Sa):=by
 obtain⟨oc,od,kV,doc,pm,an,cdv,ct,osl,rfl,lk,hcd⟩:=F.ex;refine qB lk hcd Sc (λvs H Q E h=>?_) λA outer s H vs Q E hr h=>?_
 ·obtain⟨t,l,ns,n,B,v0,a,c,pd,N',aft,Gd,xs,ss,m0,l0,rfl,_⟩:=h;exact hps.symm
 ·obtain⟨t,l,ns,n,B,v0,a,c,pd,N',aft,Gd,xs,ss,m0,l0,rfl,A',C,hN',r0,T,ha,ra,hc,ct,rc,gd,hl,kk,ke⟩:=h;obtain⟨tm,tr,rE,tz,d,htz,htm,hrE,htr⟩:=hbody cdv A outer s H E hr;obtain⟨pl,epd,elen⟩:=A'.prog;subst epd elen;exact⟨_,d,LO A' C hN' htz htm hrE r0 (λσ H Q B e r q=>htr σ H Q B v0 pl e r q) T rfl rfl rfl (by show 6 < ([ae v0,ae (.ref a),ae (.ref c)]++Ay (N.length-3) af).length;simp;omega) ha ra hc ct rc gd hl kk ke⟩
end
end DL
namespace L2
open PySem PySem.Spec PyProof.Rows
theorem Qs{σ:St}{ps:List XP}(hu:A.units+64 < Dj)(I:Inv X pins σ H s)(e:H a=ae (.dX ps))(hk:ic X.K H ps)(eb:RdD X.K H (.ref b) k.1)(l:ps.length < Ar)(rv:RelV v r)(h:∀s',Inv X pins σ (upd H a (.dX (cy ps k b v))) s'->Q () s'):
  Av (A9 X.prog X.w) A (dictSet a (.ref b) r) Q E s:=by
 obtain⟨z,hd,xs,rel,dd⟩:=oM I (.inl e) hk;have hz:xs.length<=Ar:=by rw[<-D3 rel];exact z
 have hl:(cy ps k b v).length<=Ar:=by have:=wY ps k b v;omega
 refine wpAny_dictSet_heap (knd:=jr X.prog X.w) (hsz:=hz) (show A.units+16 < Dj by omega) (nz I eb) dd λh' dd' hs=>h _ ?_;obtain⟨q,es,ep,hq,h2,h3,h4,_,h5⟩:=dd';exact mH I (by rw[e];exact Ec) hs ⟨q,hq⟩ ⟨hl,hd,_,rel.put k rv,q,es,ep,hq,h2,h3,h4,h5⟩
def nX(K:Af)(tk tv:TE):TE:=λσ H Q=>∀p,H p=af->tk σ (upd H p (.dX [])) λy H1=>tv σ H1 λv H2=>∃H3,pC K H2 p y v H3/\Q (.ref p) H3
theorem Nw(hu:X.A.units+64 < Dj)(hk:PE X k tk)(hv:PE X v tv):PE X (.Dict [ae k] [v] pos) (nX X.K tk tv):=by
 intro pins s σ H Q I h;refine wpAny_Dict_any rfl rfl (by simp) (show 1<=15 by decide) ?_;have I1:Inv X pins σ (upd H s.heap.objs.size (.dX [])) {s with heap:=s.heap.push {cls:=.type "dict",data:=.dict #[]}}:=by
  refine I.laid (a:=s.heap.objs.size) (o:=.dX []) (t':=s.toks) (λ_ _ q=>Ah _ q) (Am _) ?_;obtain⟨z,y,xs,r,o,es,ep,h1,h2,h3,h4,h5⟩:=zS (P:=X.prog) (w:=X.w) (H:=upd H s.heap.objs.size (.dT [])) s.heap I.big;cases r;exact⟨Az _,y,[],.nil,o,es,ep,h1,h2,h3,h4,List.nodup_nil⟩
 have h:=h _ (I.hok.fresh (Am _));show Av _ _ (evalPairs [(eval k X.env,do let x <-eval v X.env;standAt pos;pure x)]) _ _ _;unfold evalPairs;refine Aa (aG (hk pins _ σ _ _ I1 h) λkv s1 ⟨y,H1,I2,ry,q1⟩=>?_);refine Aa (B3 (Aa (aG (hv pins s1 σ H1 _ I2 q1) λvv s2 ⟨u,H2,I3,ru,H3,g,q2⟩=>Aa (Fv (Aj ?_)))));unfold evalPairs;refine Aa (B3 (Aj (Aj ?_)));obtain⟨ps,key,b,e,hks,rfl,eb,l,rfl⟩:=g;obtain rfl:kv=As b:=ry;show Av _ _ (forIn [(As b,vv)] PUnit.unit _) _ _ _;rw[List.forIn_cons];refine Aa (Aa (Qs hu I3 e hks eb l ru λs4 I4=>Aj ?_));show Av _ _ (forIn [] PUnit.unit _) _ _ _;rw[List.forIn_nil];exact Aj ⟨.ref s.heap.objs.size,_,I4,rfl,q2⟩
end L2
namespace DL
open PySem L2 Nb
section
variable{X:Cx}{k v:Expr}{tk tv:TE}{wk wv:DT}{pos p:Pos}
def uc(i:Nat)(wk wv:DT):aF:=λδ n K=>wk δ n λy n1=>wv δ n1 λz n2=>∃key d e,z=.d d/\y=.d e/\pj e key/\K.nx (δ.set i (ae (.odx [(key,d)]))) n2
theorem CL(hu:X.A.units+64 < Dj)(hN:X.N.Nodup)(hi:X.N[i]?=ae x)(hx:gw X.env.scope x)(hk:DE X k tk wk)(hv:DE X v tv wv)(hs:Dp (.Dict [ae k] [v] p) (ae (.Name x pos')) pos.line X.env=pure ai:=by rfl)(hf:X.fn x=ah\/X.env.scope.names.lookup x=ae .local:=by first|exact .inl rfl|exact .inr rfl|assumption):
  DS X (.Assign [.Name x pos'] (.Dict [ae k] [v] p) pos) (aW (nX X.K tk tv) (cv i)) (uc i wk wv):=⟨dZ hN hi hx (Nw hu hk.pe hv.pe) hs hf,λC H B σ δ n K D R q E=>λa ha=>by
 have R0:Rel C (upd H a (.dX [])) (λb=>B b\/b=a) σ δ n:=by
  have:=R.own (i:=δ.length) (R.new ha) (Kp.new ha) ha (by rw[aR];exact λz=>nomatch z) (x:=.odx []) rfl ⟨a,[],rfl,aR,.inr rfl,R.h0 ha,Az _,.nil⟩;rwa [List.set_eq_of_length_le (by rw[R.len];exact Am _),List.set_eq_of_length_le (Am _)]at this
 refine hk.sd C _ _ σ δ n _ _ R0 q λu y H1 n1 R1 k1 r1 q1=>hv.sd C H1 _ σ δ n1 _ _ R1 q1 λw z H2 n2 R2 k2 r2 q2=>?_;have r1':=r1.kp k2 R1.bt;obtain⟨key,d,e,rfl,rfl,hk',q2⟩:=q2;obtain⟨b,rfl,rb⟩:=nS (show RdX H2 _ u e from r1') hk';have hat:a≠C.t:=λz=>by obtain⟨_,_,q,_⟩:=R.tp.ob;rw[<-z,ha]at q;cases q
 have e2:H2 a=ae (.dX []):=k2 _ _ (k1 _ _ aR hat) hat;refine⟨_,⟨[],key,b,e2,(λp hp=>nomatch hp),rfl,rb.rd,show 0 < Ar by decide,rfl⟩,?_⟩;have hp:cy [] key b w=[(key,b,w)]:=by simp[cy,bH]
 rw[hp];have k3:Kp C.t H (upd H2 a (.dX [(key,b,w)])):=λc o e ne=>by
  rw[aD (aY e ha)];exact k2 _ _ (k1 _ _ (by rw[aD (aY e ha)];exact e) ne) ne
 have T3:Tp (upd H2 a (.dX [(key,b,w)])) C.t C.l C.ns n2:=R2.tp.other hat.symm (λz=>by have:=R.tp.ls;rw[z,ha]at this;cases this) (λe z=>by have:=R.tp.ag e;rw[z,ha]at this;cases this);have mv:∀c o,H2 c=ae o->¬(B c\/c=a)->upd H2 a (.dX [(key,b,w)]) c=ae o/\¬(B c\/c=a):=λc o e nb=>⟨by rw[aD λ(z:c=a)=>nb (.inr z)];exact e,nb⟩;refine E.nx _ _ _ _ _ (R.own (x:=.odx [(key,d)]) (R.step T3 k3) k3 ha (by rw[aR];exact λz=>nomatch z) rfl ⟨a,_,rfl,aR,.inr rfl,R.h0 ha,show 1<=2000 by decide,.cons ⟨rfl,rb.move mv,(show RdX H2 _ w d from r2).move mv⟩ .nil⟩) q2⟩
end
section
variable{X:Cx}{a b:Expr}{ta tb:TE}{wa wb:DT}{pos:Pos}{K:Af}
def gb(w:DT):bR:=λδ n Q=>w δ n λx n1=>match pP x with
 |some ds=>Q (!ds.isEmpty) n1
 |none=>False
theorem vH(h:DE X e te we)(he:∀whole,isTrue e X.env whole=(do let v <-whole;standAt e.pos;holding [v] (truthy v)):=by intro _;rfl):DC X e (λσ H Q=>te σ H λx H'=>∃k,je X.K x H' k/\Q k H') (gb we):=
 ⟨Pa h.pe he,λC H B σ δ n Q Q' R q k=>h.sd C H B σ δ n _ _ R q λv x H1 n1 R1 k1 r1 q1=>by
  split at q1
  ·rename_i ds el;obtain⟨a,xs,rfl,e1,e3,e4⟩:=Kf r1 el;refine⟨!ds.isEmpty,.inl ⟨xs,SqL.of e1,?_⟩,k _ H1 n1 R1 k1 q1⟩;cases e4<;>rfl
  ·exact q1.elim⟩
end
end DL
namespace Nb
open PySem L2 DL
def jb(Sa:aL):dN:=λws n Q=>∃(pd:Ab)(s0:TK)(N:Nat)(aft:TK->Nat->Option TK)(Gd:TK->Prop)(J:Nat),ws=[.d pd,.d s0.1]/\AfOk Sa pd N aft Gd/\Gd s0/\N < 2 ^ 60/\(Lr aft N s0 J).length<=J/\(Lr aft N s0 J).length<=2000 /\
 ∀m,m.map (·.1)=Lr aft N s0 J->ParI aft N s0 m->Syn m (El aft N s0 J)->Q m n
def ko(Sa:aL):lY:=λws n Q E=>∃(pd:Ab)(s0:TK)(N:Nat)(aft:TK->Nat->Option TK)(Gd:TK->Prop)(J:Nat),ws=[.d pd,.d s0.1]/\AfOk Sa pd N aft Gd/\Gd s0/\N < 2 ^ 60/\(Lr aft N s0 J).length<=J /\
 ((Lr aft N s0 J).length<=2000->∀m,m.map (·.1)=Lr aft N s0 J->ParI aft N s0 m->Syn m (El aft N s0 J)->Q m n)/\(2000 < (Lr aft N s0 J).length->E n)
theorem T4(ws)(n)(Q)(h:jb Sa ws n Q):ko Sa ws n Q λ_=>False:=by
 obtain⟨pd,s0,N,aft,Gd,J,rfl,A,g0,hN,hJ,hJ2,q⟩:=h;exact⟨pd,s0,N,aft,Gd,J,rfl,A,g0,hN,hJ,λ_=>q,λz=>by omega⟩
def sj(Sa:aL):fm:=λws=>∃(pd:Ab)(s0:TK)(N:Nat)(aft:TK->Nat->Option TK)(Gd:TK->Prop)(J:Nat),ws=[.d pd,.d s0.1]/\AfOk Sa pd N aft Gd/\Gd s0/\N < 2 ^ 60/\(Lr aft N s0 J).length<=J/\2000 < (Lr aft N s0 J).length
theorem P5(ws)(n)(h:sj Sa ws):ko Sa ws n (λ_ _=>False) λn'=>n'=n:=by
 obtain⟨pd,s0,N,aft,Gd,J,rfl,A,g0,hN,hJ,hJ2⟩:=h;exact⟨pd,s0,N,aft,Gd,J,rfl,A,g0,hN,hJ,λz=>by omega,λ_=>rfl⟩
theorem nF{Gd:TK->Prop}(A:∀(s:TK) (i:Nat) (b:TK),Gd s->i<=N->aft s i=ae b->Gd b)(h0:Gd s0):∀j,∀s∈Lr aft N s0 j,Gd s
 |0=>λs hs=>by obtain rfl:s=s0:=(by simpa[Lr]using hs);exact h0
 |j+1=>by
  have ih:=nF A h0 j;show ∀s∈(match (Lr aft N s0 j)[j]? with|some s=>qs aft N (Lr aft N s0 j) s|none=>Lr aft N s0 j),Gd s;cases e:(Lr aft N s0 j)[j]? with
  |none=>exact ih
  |some t=>
   have ht:=ih t (A1 e);have key:∀(is:List Nat)(ks:List TK),(∀i∈is,i<=N)->(∀s∈ks,Gd s)->∀s∈is.foldl (q1 aft t) ks,Gd s:=by
    intro is
    induction is with
    |nil=>exact λks _ h=>h
    |cons i is ih2=>
     intro ks hi h;refine ih2 _ (λx hx=>hi x (An _ hx)) λs hs=>?_;unfold q1 at hs;cases ea:aft t i with
     |none=>rw[ea]at hs;exact h s hs
     |some b=>
      rw[ea]at hs;dsimp only at hs
      split at hs
      ·exact h s hs
      ·rcases Bv.mp hs with hs|hs
       ·exact h s hs
       ·obtain rfl:s=b:=by simpa using hs
        exact A t i s ht (hi i Au) ea
   exact key _ _ (λi hi=>Dw (Bo.mp hi)) ih
abbrev Zi:List Str:=["programs","stand","steps","stands"]
theorem PQ(Sa)(ws)(n)(Q)(E)(h:ko Sa ws n Q E):
  (aq (uc 2 ↥1 (wC .none)) (aq (fR 3 (bL (ao ↥1 ak))) (aq (iG (gb (iF 3)) (jz Sa 0 2 3 E)) (qJ 2)))) (cO Zi ws) n {nx:=λ_ _=>False,rt:=λ_ _=>False,rx:=Q}:=by
 obtain⟨pd,s0,N,aft,Gd,J,rfl,A,g0,hN,hJ,q,qe⟩:=h;obtain⟨ds0,hds0⟩:=A.tup s0 g0;refine⟨s0,.none,s0.1,rfl,rfl,⟨rfl,ds0,hds0⟩,?_⟩;refine⟨show 1<=1000 by decide,?_⟩;show iG (gb (iF 3)) (jz Sa 0 2 3 E) [ae (.w (.d pd)),ae (.w (.d s0.1)),ae (.odx [(s0,.none)]),ae (.own [s0.1])] n _;refine⟨λk δ n'=>∃c m ss,k=J+1-c/\n'=n/\c<=J/\δ=[ae (.w (.d pd)),ae (.w (.d s0.1)),ae (.odx m),ae (.own (ss.map (·.1)))]/\m.length<=2000/\Lev aft N s0 c m ss/\ParI aft N s0 m/\Syn m (El aft N s0 c),⟨J+1,0,[(s0,.none)],[s0],rfl,rfl,Az _,rfl,(show 1<=2000 by decide),Lev.first s0 _,.one,Syn.one⟩,?_⟩
 rintro k δ n' ⟨c,m,ss,rfl,rfl,hc,rfl,hm2,L,P,S⟩
 show(if (!(ss.map (·.1)).isEmpty)=ah then _ else _);have hlen:ss.length=(Lr aft N s0 c).length-c:=by rw[L.rs,D5]
 cases ss with
 |nil=>
  rw[if_neg (by simp)];have hcl:(Lr aft N s0 c).length<=c:=by
   have:=L.le;simp at hlen;omega
  have eJ:Lr aft N s0 c=Lr aft N s0 J:=by
   have:=rO hcl (J-c);rw[show c+(J-c)=J by omega]at this;exact this.symm
  have eE:∀k,El aft N s0 (c+k)=El aft N s0 c:=by
   intro k
   induction k with
   |zero=>rfl
   |succ k ih=>
    show(match (El aft N s0 (c+k))[c+k]? with|some s=>dM aft N (El aft N s0 (c+k)) s|none=>El aft N s0 (c+k))=_;rw[ih,Cb (by have:=congrArg D8 (jW (aft:=aft) (N:=N) (s0:=s0) c);rw[Ad]at this;omega)]
  have eE':=eE (J-c);rw[show c+(J-c)=J by omega]at eE';exact q (by rw[<-eJ,<-L.ks,Ad];exact hm2) m (L.ks.trans eJ) P (by rw[eE'];exact S)
 |cons t r=>
  rw[if_pos (by simp)];have hlt:c < (Lr aft N s0 c).length:=by simp at hlen;omega
  have hb:=NJ (aft:=aft) (N:=N) (s0:=s0) hJ;have sub:∀s∈t::r,s∈m.map (·.1):=λs hs=>by rw[L.ks];rw[L.rs]at hs;exact List.mem_of_mem_drop hs
  have L2:=L.next;refine⟨pd,N,aft,Gd,m,t::r,A,hN,rfl,rfl,rfl,λs hs=>nF A.good g0 c s (by rw[<-L.ks];exact sub s hs),?_,?_⟩
  ·exact λle=>⟨J+1-(Lr aft N s0 c).length,by have:=hb c;omega,(Lr aft N s0 c).length,_,_,rfl,rfl,Bb (hb c) hJ,rfl,le,L2,P.fur (t::r) (m,[]) sub,S.next L⟩
  ·intro gt;refine qe (Bd gt ?_);have:=congrArg D8 L2.ks;rw[Ad]at this;rw[this];exact hb _
end Nb
namespace L2
open PySem PySem.Spec PyProof.Rows PySem.W
section
variable{prog:A7}{w:Bi}{A:Br}{E:Ae->Ai->Prop}{s:Ai}{R:Result->Ai->Prop}
theorem Sv:typeLookup (.type "list_reverseiterator") "__len__"=pure af:=by rw[typeLookup_type,builtinLookup_eq_fast];kernel_rfl
theorem Qj:typeLookup (.type "list_reverseiterator") "__length_hint__"=pure (ae (.builtin "list_reverseiterator.__length_hint__")):=by rw[typeLookup_type,builtinLookup_eq_fast];kernel_rfl
theorem LR(ty:s.TypeIs (.ref r) "list_reverseiterator")(h:Q ai s):Av (A9 prog w) A (Builtin.List.listLengthHint (.ref r)) Q E s:=by
 unfold Builtin.List.listLengthHint;refine Aa (wpAny_specialOf ty Sv ?_)
 wp_delta
 refine Aa (wpAny_specialOf ty Qj ?_);generalize hid:("list_reverseiterator.__length_hint__":String)=id0
 wp_delta
 rw[show splitId id0=ae ("list_reverseiterator","__length_hint__")from by subst hid;decide +kernel];subst hid;refine Aa (wpAny_isInstance (T:="list_reverseiterator") (b:=ah) ty (by rw[isSubtype_type];kernel_rfl) ?_);refine wpAny_ite_split (λz=>absurd z ∎) (λ_=>?_);refine wpAny_ite_split (λ_=>?_) (λz=>absurd ∅ z);exact Aj h
abbrev EL(items:Array Ae):Nat->Ae->Prop:=λi v=>items[items.size-1-i]?=ae v
theorem JH(hh:A.handled=af)(hit:s.heap.IsRevIter I l ((items.size:Int)-1))(hl:s.heap.IsList l items)(hne:l≠I)(hSI:S≠I)(hSl:S≠l)(hS:s.heap.get? S=ae {cls:=.type "list",data:=.seq #[] c0})(hn:items.size<=Ar)
  (fin:∀h' tk acc c,(∀b o,b≠S->b≠I->s.heap.get? b=ae o->h'.get? b=ae o)->h'.get? S=ae {cls:=.type "list",dict:=af,data:=.seq acc c,slots:=#[]}->ItemsOf (EL items) acc items.size->R (.ok (.ret res)) {s with heap:=h',toks:=tk}):
  Av (A9 prog w) A.in1 (E9 (.ref S) (.ref I) res) (λfin s'=>match fin with|.done f=>R (.ok f) s'|.again c'=>c'.quiet=ah/\Gr (A9 prog w) A c' R s') (λe s'=>R (.error e) s') s:=by
 have W:=Walks.listRev (prog:=prog) (w:=w) (A:=A.in1) hh I l hne items;have nf:S∉[I,l]:=by simp[hSI,hSl]
 have st0:∀{h:Heap},h.IsRevIter I l ((items.size:Int)-1)->h.IsList l items->(0<=items.size/\h.IsRevIter I l ((items.size:Int)-1-((0:Nat):Int))/\h.IsList l items):=λa b=>⟨Az _,by simpa using a,b⟩;have go:∀(h:Heap)(c1 tk:Nat),h.IsRevIter I l ((items.size:Int)-1)->h.IsList l items->(∀b o,b≠S->b≠I->s.heap.get? b=ae o->h.get? b=ae o)->h.get? S=ae {cls:=.type "list",data:=.seq #[] c1}->Gr (A9 prog w) A (.builtin "list.extend.loop" ⟨[.ref S,.ref I,res],[]⟩) R {s with heap:=h,toks:=tk}:=by
  intro h c1 tk a1 a2 a3 a4;refine codeAny_extend_loopS W.toS hn S nf res items.size 0 _ #[] c1 rfl (Az _) (st0 a1 a2) a4 (ItemsOf.nil _) λs' acc c mv b4 b5=>?_;rw[Moved.eq_with mv];refine fin s'.heap s'.toks acc c (λb o n1 n2 e=>mv.heap b o (λz=>?_) (a3 b o n1 n2 e)) b4 b5;rcases Aw.mp z with z|z
  ·exact n1 z
  ·exact n2 (Bn.mp z)
 unfold E9;refine Aa (wpAny_typeOf hit.typeIs ?_);have f1:Builtin.List.listSameRef (.ref S) (.ref I)=ai:=by simp[Builtin.List.listSameRef,hSI]
 have f2:(Ft "list_reverseiterator"==Ft "list")=ai:=by decide
 have f3:(Ft "list_reverseiterator"==Ft "tuple")=ai:=by decide
 simp only[f1,f2,f3,Bool.or_false,Ck,if_false];refine Aa (wpAny_pyIter_revIter hit ?_);refine Aa (B3 (LR hit.typeIs ?_));refine wpAny_ite_split (λz=>?_) (λ_=>Aj ⟨plainId_quiet PySem.F.plain_extend_loop _,go _ c0 _ hit hl (λ_ _ _ _ e=>e) hS⟩);exact absurd z ∅
theorem J8(hh:A.handled=af)(hit:s.heap.IsRevIter I l ((items.size:Int)-1))(hl:s.heap.IsList l items)(hne:l≠I)(hn:items.size<=Ar)
  (fin:∀h' tk acc c,(∀b o,b≠I->s.heap.get? b=ae o->h'.get? b=ae o)->h'.get? s.heap.objs.size=ae {cls:=.type "list",dict:=af,data:=.seq acc c,slots:=#[]}->ItemsOf (EL items) acc items.size->Q (.ref s.heap.objs.size) {s with heap:=h',toks:=tk}):
  Av (A9 prog w) A (call (.type "list") [.ref I]) Q E s:=by
 refine callType_codes (Q₁:=λv s1=>v=.ref s.heap.objs.size/\s1={ s with heap:=s.heap.push {cls:=.type "list",data:=.seq #[]}}) PySem.F.called_list (PySem.F.typeCall_list_1 _) PySem.F.entry_list_init (code_list_new _ ⟨rfl,rfl⟩) λv s1 z=>?_;obtain⟨rfl,rfl⟩:=z;have gS:(s.heap.push {cls:=.type "list",data:=.seq #[]}).get? s.heap.objs.size=ae {cls:=.type "list",data:=.seq #[]}:=A0 _ rfl;have nI:s.heap.objs.size≠I:=let⟨_,e,_⟩:=hit;Ej (Ao e);have nl:s.heap.objs.size≠l:=let⟨_,e,_⟩:=hl;Ej (Ao e);refine⟨⟨_,gS,rfl⟩,PySem.F.args_list_init_2 _ _,?_⟩;show Av _ _ (do let old <-Builtin.List.listItems (.ref s.heap.objs.size);Builtin.List.listUpdate (.ref s.heap.objs.size) (λ_=>#[]);letGo old.toList.reverse;E9 (.ref s.heap.objs.size) (.ref I) .none) _ _ _;refine Aa ?_;unfold Builtin.List.listItems;refine Aa (Dh gS rfl (Aj ?_));show Av _ _ (updateSeq s.heap.objs.size (λ_=>#[])>>=λ_=>letGo (#[]:Array Ae).toList.reverse>>=λ_=>E9 (.ref s.heap.objs.size) (.ref I) .none) _ _ _;refine Aa (wpAny_updateSeq gS rfl ?_);have gS2:=Cn (Cz (λ_=>(#[]:Array Ae))) gS rfl;have up:∀b o,s.heap.get? b=ae o->((s.heap.push {cls:=.type "list",data:=.seq #[]}).update s.heap.objs.size (Cz (λ_=>(#[]:Array Ae)))).get? b=ae o:=
  λb o e=>(Fg _ _ (Ej (Ao e))).trans (Ah _ e)
 refine Aa (wpAny_letGo ?_);refine JH (A:=A.in1) hh (hit.at λo e=>up _ o e) (hl.at λo e=>up _ o e) hne nI nl gS2 hn λh' tk acc c k1 k2 k3=>?_;exact⟨rfl,fin h' tk acc c (λb o n e=>k1 b o (A8 (Ao e)) n (up b o e)) k2 k3⟩
end
def yV(te:TE):TE:=λσ H Q=>te σ H λx H1=>∃a xs,x=.ref a/\H1 a=ae (.lst xs)/\∀l,H1 l=af->Q (.ref l) (upd H1 l (.lst xs.reverse))
theorem ML{p1 p2 pos1 pos2:Pos}(hh:X.A.handled=af)(gl:Gl X "list")(ml:X.mg "list"=af)(gr:Gl X "reversed")(mr:X.mg "reversed"=af)(bl:Bp "list"=ae (.type "list"))(br:Bp "reversed"=ae (.type "reversed"))(he:PE X e te)
  (h1:Ap [e] X.env=(ai,eval e X.env)::Ap [] X.env:=by rfl) (h2:(Cy pos2 (Ap [] X.env)).any (·.1)=ai:=by rfl)
  (h3:Ap [.Call (.Name "reversed" p2) [e] [] pos2] X.env=(ai,eval (.Call (.Name "reversed" p2) [e] [] pos2) X.env)::Ap [] X.env:=by rfl) (h4:(Cy pos1 (Ap [] X.env)).any (·.1)=ai:=by rfl):
  PE X (.Call (.Name "list" p1) [.Call (.Name "reversed" p2) [e] [] pos2] [] pos1) (yV te):=by
 intro pins s σ H Q I h;refine Ep (jU I gl ml bl ?_ ∎ ∎);refine C8 (Calls.spliced_cons ?_) h3 h4;refine Ep (jU I gr mr br ?_ ∎ ∎);refine C8 ?_ h1 h2;rw[h1];show Av _ _ (spliced ((ai,eval e X.env)::[])) _ _ s;refine Calls.spliced_cons (aG (he pins s σ H _ I h) λu s1 ⟨x,H1,I1,rx,q⟩=>Calls.spliced_nil ?_);obtain⟨a,xs,rfl,ha,q⟩:=q;obtain rfl:u=As a:=rx;obtain⟨z,its,n,rv,hl,eo⟩:=I1.lstM ha;have isl:s1.heap.IsList a its.toArray:=⟨_,eo,rfl,_,rfl⟩;refine call_reversed_list isl ?_;show Av _ _ (spliced []) _ _ _;refine Calls.spliced_nil ?_;have ne:a≠s1.heap.objs.size:=A8 (Ao eo);refine J8 hh (I:=s1.heap.objs.size) (l:=a) (items:=its.toArray) ⟨_,A0 _ rfl,rfl,rfl⟩ (isl.at λo e=>Ah _ e) ne (by rw[Ax,<-hl];exact z) λh' tk acc c k1 k2 k3=>?_;have sz:(s1.heap.push (revObj a ((its.toArray.size:Int)-1))).objs.size=s1.heap.objs.size+1:=by simp[Heap.push]
 have eacc:acc=its.reverse.toArray:=by
  apply G1.mp;apply Ey;intro j;by_cases hj:j < its.length
  ·have hja:j < acc.size:=by rw[k3.1];simpa using hj
   have:=k3.2 j acc[j] (C6 hja);rw[Fl,C6 hja,<-this];simp[hj]
  ·rw[Fl,Array.getElem?_eq_none (by rw[k3.1];simp;omega)];simp;omega
 rw[eacc]at k2;refine⟨.ref _,_,I1.laid (t':=tk) (h':=h') (o:=.lst xs.reverse) (λb o e=>k1 b o (A8 (Ao e)) (Ah _ e)) (by rw[sz];exact Fz _) ⟨by rw[List.length_reverse];exact z,its.reverse,c,rv.reverse,k2⟩,rfl,q _ (I1.hok.fresh (by rw[sz];exact Fz _))⟩
end L2
namespace DL
open PySem L2 Nb
section
variable{X:Cx}{o:Expr}{td:TE}{wd':DT}
def vA(w:DT):fA:=λδ n Q=>w δ n λx n1=>∃ds,x=.ln ds/\Q ds.reverse n1
theorem QS{p1 p2 pos1 pos2:Pos}(hh:X.A.handled=af)(gl:Gl X "list")(ml:X.mg "list"=af)(gr:Gl X "reversed")(mr:X.mg "reversed"=af)(ho:DE X o td wd')
  (h1:Ap [o] X.env=(ai,eval o X.env)::Ap [] X.env:=by rfl) (h2:(Cy pos2 (Ap [] X.env)).any (·.1)=ai:=by rfl)
  (h3:Ap [.Call (.Name "reversed" p2) [o] [] pos2] X.env=(ai,eval (.Call (.Name "reversed" p2) [o] [] pos2) X.env)::Ap [] X.env:=by rfl) (h4:(Cy pos1 (Ap [] X.env)).any (·.1)=ai:=by rfl):
  DF X (.Call (.Name "list" p1) [.Call (.Name "reversed" p2) [o] [] pos2] [] pos1) (yV td) (vA wd'):=by
 refine⟨ML hh gl ml gr mr rk rfl ho.pe h1 h2 h3 h4,λC H B σ δ n Q Q' R q k=>ho.sd C H B σ δ n _ _ R q λv x H1 n1 R1 k1 r1 q1=>?_⟩;obtain⟨ds,rfl,q1⟩:=q1;obtain⟨a,xs,rfl,g1,g2,g3,g4⟩:=r1;refine⟨a,xs,rfl,g1,λL hL=>?_⟩;exact k L _ _ _ n1 (R1.new hL) (k1.trans (Kp.new hL)) (R1.was k1 hL) aR (by rw[List.length_reverse];exact g3) ((RdXs.rev g4).fresh hL) q1
end
end DL
namespace Nb
open PySem L2 DL
def iP:cI:=λws n Q=>∃(m:List (TK×Ab))(k:TK)(ms:List Nat),ws=[.ob (.y m),.d k.1]/\Way m k ms/\ms.length < 2000/\(∀j d,aO m j=ae d->∃ds,j.1=.tuple ds)/\Q (ms.reverse.map λi=>.int (i:Nat)) n
theorem Way.val(w:Way m k ms):∃d,aO m k=ae d:=by
 cases w with
 |root e=>exact⟨_,e⟩
 |step e _=>exact⟨_,e⟩
theorem NP(ws)(n)(Q)(h:iP ws n Q):
  (aq (fR 2 (bL ak)) (aq (aA 3 (w2 (eu 0) ↥1 nv)) (aq (iG (cT (w2 ↥3 (wC .none) (bc ah))) (aq (fB 2 (w2 ↥3 ⇑1 fI)) (aA 3 (w2 (eu 0) (w2 ↥3 ⇑0 fI) nv)))) (hX (vA (iF 2)))))) (cO ["steps","stand","movers","step"] ws) n {nx:=λ_ _=>False,rt:=λ_ _=>False,rn:=Q}:=by
 obtain⟨m,k,ms,rfl,w,hl,ht,q⟩:=h;obtain⟨d0,e0⟩:=w.val;refine⟨Az _,?_⟩;refine⟨m,k.1,k,d0,.inr rfl,rfl,⟨rfl,ht k d0 e0⟩,e0,?_⟩;show iG _ _ [ae (.w (.ob (.y m))),ae (.w (.d k.1)),ae (.own []),ae (.w (.d d0))] n _;refine⟨λz δ n'=>∃(dn rs:List Nat)(s:TK)(d:Ab),z=rs.length/\n'=n/\ms=dn++rs/\Way m s rs/\aO m s=ae d/\δ=[ae (.w (.ob (.y m))),ae (.w (.d k.1)),ae (.own (dn.map λi=>.int (i:Nat))),ae (.w (.d d))],⟨ms.length,[],ms,k,d0,rfl,rfl,rfl,w,e0,rfl⟩,?_⟩
 rintro z δ n' ⟨dn,rs,s,d,rfl,rfl,rfl,w,e,rfl⟩
 cases w with
 |root e'=>
  rw[e]at e';cases e';refine⟨dn.map λi=>.int (i:Nat),rfl,?_⟩;rw[Cc]at q;rw[<-List.map_reverse];exact q
 |@step _ s' mv rs e' w'=>
  rw[e]at e';cases e';obtain⟨d',e2⟩:=w'.val;show(dn.map λi=>PyData.int (i:Nat)).length < 1000000/\_;refine⟨by rw[Ad];rw[A2]at hl;omega,?_⟩;refine⟨m,s'.1,s',d',.inr rfl,rfl,⟨rfl,ht s' d' e2⟩,e2,?_⟩;exact⟨rs.length,Nat.lt_succ_self _,dn++[mv],rs,s',d',rfl,rfl,by simp,w',e2,by rw[Bw];rfl⟩
def jX(Ss:aL):aL:=λws n Q=>∃(pd:Ab)(m:List (TK×Ab))(sg:Ab)(see:TK->Bool),ws=[.d pd,.ob (.y m),.d sg]/\m.length<=2000/\(∀k∈m.map (·.1),∀(n:Int)(R:DQ),R (.d (.bool (see k))) n->Ss [.d pd,.d k.1,.d sg] n R) /\
 Q (.d (match (m.map (·.1)).find? see with|some k=>k.1|none=>.none)) n
theorem SK(Ss)(ws)(n)(Q)(h:jX Ss ws n Q):
  (aq (dw (uF ↥1) (cj 3) (aV (cT (aJ Ss (ao ↥0 (ao ↥3 (ao ↥2 ak))))) (aw ↥3) aN)) (aw (wC .none))) (cO ["programs","stands","sight","stand"] ws) n {nx:=λ_ _=>False,rt:=Q}:=by
 obtain⟨pd,m,sg,see,rfl,hl,hs,q⟩:=h;refine⟨m,rfl,hl,?_⟩;have e:(m.map λp=>p.1.1)=(m.map (·.1)).map (·.1):=by rw[Cj];rfl
 rw[e];have loop:∀(ks:List TK)(o:Option SV),(∀k∈ks,∀(n:Int)(R:DQ),R (.d (.bool (see k))) n->Ss [.d pd,.d k.1,.d sg] n R)->Q (.d (match ks.find? see with|some k=>k.1|none=>.none)) n->
   dE (cj 3) (aV (cT (aJ Ss (ao ↥0 (ao ↥3 (ao ↥2 ak))))) (aw ↥3) aN) {nx:=λδ n=>aw (wC .none) δ n {nx:=λ_ _=>False,rt:=Q},rt:=Q} (ks.map (·.1)) [ae (.w (.d pd)),ae (.w (.ob (.y m))),ae (.w (.d sg)),o] n:=by
  intro ks
  induction ks with
  |nil=>intro o _ q;exact q
  |cons k ks ih=>
   intro o hk q;rw[Bg];show Ss [.d pd,.d k.1,.d sg] n _;refine hk k Au n _ ?_;rw[Bc]at q;cases z:see k with
   |true=>
    rw[z]at q;exact q
   |false=>
    rw[z]at q;exact ih (ae (.w (.d k.1))) (λj hj=>hk j (An _ hj)) q
 exact loop _ af hs q
def kK(Sa Ss:aL):aL:=λws n Q=>∃(pd:Ab)(s0:TK)(sg:Ab)(N:Nat)(aft:TK->Nat->Option TK)(Gd:TK->Prop)(J:Nat)(see:TK->Bool),ws=[.d pd,.d s0.1,.d sg]/\AfOk Sa pd N aft Gd/\Gd s0/\N < 2 ^ 60/\(Lr aft N s0 J).length<=J/\(Lr aft N s0 J).length<=2000 /\
 (∀k∈Lr aft N s0 J,∀(n:Int)(R:DQ),R (.d (.bool (see k))) n->Ss [.d pd,.d k.1,.d sg] n R) /\
 ((∀k∈Lr aft N s0 J,see k=ai)->Q (.d .none) n) /\
 ∀(i:Nat)(e:TK×Nat)(ms:List Nat),(El aft N s0 J)[i]?=ae e->see e.1=ah->(∀j x,j < i->(El aft N s0 J)[j]?=ae x->see x.1=ai)->ms.length=e.2->kc aft s0 ms=ae e.1->(∀x∈ms,x<=N)->Q (.d (.list (ms.map λi=>.int (i:Nat)))) n
abbrev Zc:List Str:=["programs","stand","sight","steps","one"]
theorem LP(Sa Ss)(ws)(n)(Q)(h:kK Sa Ss ws n Q):
  (aq (mD 3 (jb Sa) (ao ↥0 (ao ↥1 ak))) (gK 3 (aq (aA 4 (aJ (jX Ss) (ao ↥0 (ao (eu 3) (ao ↥2 ak))))) (aw (eS (cT (w2 ↥4 (wC .none) (bc ai))) (wC .none) (bU (dQ iP (ao (eu 3) (ao ↥4 ak))))))))) (cO Zc ws) n {nx:=λ_ _=>False,rt:=Q}:=by
 obtain⟨pd,s0,sg,N,aft,Gd,J,see,rfl,A,g0,hN,hJ,hJ2,hs,q0,q1⟩:=h;refine⟨pd,s0,N,aft,Gd,J,rfl,A,g0,hN,hJ,hJ2,λm hk P S=>?_⟩;have hlen:m.length<=2000:=by have:=congrArg D8 hk;rw[Ad]at this;omega
 refine⟨pd,m,sg,see,rfl,hlen,by rw[hk];exact hs,?_⟩;cases z:(m.map (·.1)).find? see with
 |none=>
  refine q0 λk hk'=>?_;have:=List.find?_eq_none.mp z k (by rw[hk];exact hk');simpa using this
 |some k=>
  obtain⟨hp,i,hi,hx,hb⟩:=List.find?_eq_some_iff_getElem.mp z;have km:k∈m.map (·.1):=Hl z;have kd:∀j∈m.map (·.1),∃ds,j.1=.tuple ds:=λj hj=>A.tup j (nF A.good g0 J j (by rw[<-hk];exact hj));obtain⟨ms,w,wk,wl,wn⟩:=zY P k km;have key:∀d:Ab,(∃ds,d=.tuple ds)->eZ d=ai:=by rintro d ⟨ds,rfl⟩;rfl
  show eS (cT (w2 ↥4 (wC .none) (bc ai))) (wC .none) (bU (dQ iP (ao (eu 3) (ao ↥4 ak)))) [ae (.w (.d pd)),ae (.w (.d s0.1)),ae (.w (.d sg)),ae (.w (.ob (.y m))),ae (.w (.d k.1))] n Q;have nn:=key _ (kd k km);dsimp only[eS,cT,w2,aj,bc,Cr,Dk,wC];rw[nn];rw[if_neg ∎];refine⟨m,k,ms,rfl,w,by omega,λj d hj=>kd j ((jZ m j).mp (by rw[hj];rfl)),?_⟩;have hE:(El aft N s0 J).map (·.1)=m.map (·.1):=S.ks.symm;have hiE:i < (El aft N s0 J).length:=by have:=congrArg D8 hE;rw[Ad,Ad]at this;rw[Ad]at hi;omega
  have ek:((El aft N s0 J)[i]).1=k:=by
   have:((El aft N s0 J).map (·.1))[i]?=ae k:=by rw[hE,Ag hi,hx]
   rw[Aq,Ag hiE]at this;exact A4 this
  obtain⟨ms',w',l'⟩:=S.wy _ (Cm hiE);rw[ek]at w';have em:=w.uniq w';refine q1 i (El aft N s0 J)[i] ms.reverse (Ag hiE) (by rw[ek];exact hp) (λj x hj hx'=>?_) (by rw[List.length_reverse,em];exact l') (by rw[ek];exact wk) λx hx'=>wn x (List.mem_reverse.mp hx');have hjm:j < (m.map (·.1)).length:=Nat.lt_trans hj hi;have h1:=hb j hj;have h2:(m.map (·.1))[j]?=ae x.1:=by rw[<-hE,Aq,hx'];rfl
  rw[Ag hjm]at h2;rw[A4 h2]at h1;simpa using h1
def lj(Sa Ss:aL):aL:=λws n Q=>∃(pd:Ab)(s0:TK)(sg:Ab)(N:Nat)(aft:TK->Nat->Option TK)(Gd:TK->Prop)(J:Nat)(see:TK->Bool),ws=[.d pd,.d s0.1,.d sg]/\AfOk Sa pd N aft Gd/\Gd s0/\N < 2 ^ 60/\(Lr aft N s0 J).length<=J/\(Lr aft N s0 J).length<=2000 /\
 (∀k∈Lr aft N s0 J,∀(n:Int)(R:DQ),R (.d (.bool (see k))) n->Ss [.d pd,.d k.1,.d sg] n R) /\
 ((∀k∈Lr aft N s0 J,see k=ai)->Q (.d (.tuple [.str "never",.list ((Lr aft N s0 J).map (·.1))])) n) /\
 ∀(k:TK)(ms:List Nat),k∈Lr aft N s0 J->see k=ah->kc aft s0 ms=ae k->(∀x∈ms,x<=N)->Q (.d (.tuple [.str "seen",.list (ms.map λi=>.int (i:Nat))])) n
theorem RH(Sa Ss)(ws)(n)(Q)(h:lj Sa Ss ws n Q):
  (aq (mD 3 (jb Sa) (ao ↥0 (ao ↥1 ak))) (gK 3 (aq (aA 4 (aJ (jX Ss) (ao ↥0 (ao (eu 3) (ao ↥2 ak))))) (aw (eS (cT (w2 ↥4 (wC .none) (bc ai))) (av (ao (wC (.str "never")) (ao (bU (md (eu 3))) ak))) (av (ao (wC (.str "seen")) (ao (bU (dQ iP (ao (eu 3) (ao ↥4 ak)))) ak)))))))) (cO Zc ws) n {nx:=λ_ n=>Q (.d .none) n,rt:=Q}:=by
 obtain⟨pd,s0,sg,N,aft,Gd,J,see,rfl,A,g0,hN,hJ,hJ2,hs,q0,q1⟩:=h;refine⟨pd,s0,N,aft,Gd,J,rfl,A,g0,hN,hJ,hJ2,λm hk P S=>?_⟩;have hlen:m.length<=2000:=by have:=congrArg D8 hk;rw[Ad]at this;omega
 refine⟨pd,m,sg,see,rfl,hlen,by rw[hk];exact hs,?_⟩;cases z:(m.map (·.1)).find? see with
 |none=>
  have q:=q0 λk hk'=>(by have:=List.find?_eq_none.mp z k (by rw[hk];exact hk');simpa using this);rw[<-hk,Cj]at q;exact⟨m,.inr rfl,hlen,(show 2<=1000 by decide),q⟩
 |some k=>
  have hp:=List.find?_some z;have km:k∈m.map (·.1):=Hl z;have kd:∀j∈m.map (·.1),∃ds,j.1=.tuple ds:=λj hj=>A.tup j (nF A.good g0 J j (by rw[<-hk];exact hj));obtain⟨ms,w,wk,wl,wn⟩:=zY P k km;have key:∀d:Ab,(∃ds,d=.tuple ds)->eZ d=ai:=by rintro d ⟨ds,rfl⟩;rfl
  show eS (cT (w2 ↥4 (wC .none) (bc ai))) (av (ao (wC (.str "never")) (ao (bU (md (eu 3))) ak))) (av (ao (wC (.str "seen")) (ao (bU (dQ iP (ao (eu 3) (ao ↥4 ak)))) ak))) [ae (.w (.d pd)),ae (.w (.d s0.1)),ae (.w (.d sg)),ae (.w (.ob (.y m))),ae (.w (.d k.1))] n Q;have nn:=key _ (kd k km);dsimp only[eS,cT,w2,aj,bc,Cr,Dk,wC];rw[nn];rw[if_neg ∎];refine⟨m,k,ms,rfl,w,by omega,λj d hj=>kd j ((jZ m j).mp (by rw[hj];rfl)),?_⟩;exact⟨show 2<=1000 by decide,q1 k ms.reverse (by rw[<-hk];exact km) hp wk λx hx'=>wn x (List.mem_reverse.mp hx')⟩
end Nb
namespace L2
open PySem
end L2
namespace DL
open PySem L2 Nb
section
variable{X:Cx}{e:Expr}{es:List Expr}{pos p:Pos}{tR:TA}{wR:cK}
def rh(S:dN)(w:cK):DT:=λδ n Q=>w δ n λxs n1=>S xs n1 λkvs n2=>Q (.dx kvs) n2
theorem KP(h:HasX X.prog X.w X.K X.mg X.base k f ps S)(hr:Room k X.A)(hg:Gl X f)(ha:DA X (e::es) tR wR)
  (hdb:(f==("__debug__":Str))=ai:=by decide) (he:Ap (e::es) X.env=(ai,eval e X.env)::Ap es X.env:=by rfl) (hpl:(Cy pos (Ap es X.env)).any (·.1)=ai:=by rfl):
  DE X (.Call (.Name f p) (e::es) [] pos) (fH (mW S) [] E0 tR) (rh S wR):=by
 obtain⟨g,fd,h1,h2,h3,h4⟩:=h.ex;refine⟨pQ h1 hr hg h3 h4 h2 .nil ny ha.pa hdb he hpl,λC H B σ δ n Q Q' R q kk=>ha.sd C H B σ δ n _ _ R q λvs xs H1 n1 R1 k1 r1 q1=>?_⟩;refine⟨C.t,C.l,C.ns,B,xs,n1,_,R1.tp,R1.bt,R1.ba,by rw[Cc];exact r1,q1,λkvs n' q2 a l' H' T' k' h0 h1' h2' h3'=>?_⟩;refine kk _ (.dx kvs) _ n' (R1.step T' k') (k1.trans k') ⟨a,l',rfl,h1',λz=>?_,h3'.move λb o e nb=>⟨e,λz=>nb (.inl z)⟩⟩ q2;obtain⟨_,_,q,_⟩:=R1.tp.ob;rw[<-z,h0]at q;cases q
end
end DL
namespace Nb
open PySem L2 DL
def jN(Sa:aL):cI:=λws n Q=>∃(pd:Ab)(s0:TK)(N:Nat)(aft:TK->Nat->Option TK)(Gd:TK->Prop)(J:Nat),ws=[.d pd,.d s0.1]/\AfOk Sa pd N aft Gd/\Gd s0/\N < 2 ^ 60/\(Lr aft N s0 J).length<=J/\(Lr aft N s0 J).length<=2000/\Q ((Lr aft N s0 J).map (·.1)) n
abbrev Za:List Str:=["programs","stand"]
theorem Ky(Sa)(ws)(n)(Q)(h:jN Sa ws n Q):hX (md (rh (jb Sa) (ao ↥0 (ao ↥1 ak)))) (cO Za ws) n {nx:=λ_ _=>False,rt:=λ_ _=>False,rn:=Q}:=by
 obtain⟨pd,s0,N,aft,Gd,J,rfl,A,g0,hN,hJ,hL,q⟩:=h;refine(show jb Sa [.d pd,.d s0.1] n _ from⟨pd,s0,N,aft,Gd,J,rfl,A,g0,hN,hJ,hL,λm em _ _=>?_⟩);have e:m.map (λp=>p.1.1)=(Lr aft N s0 J).map (·.1):=by rw[<-em,Cj];rfl
 refine⟨m,.inl rfl,?_,?_⟩
 ·have:=congrArg D8 em;rw[Ad]at this;omega
 ·rw[e];exact q
def rS:aL:=λws n Q=>∃(ps:Pg)(hs:List Hn)(ns:List Nt)(h:Nat),ws=[.d (aZ ps),.d (bg hs ns),.d (.int h)]/\cQ ps hs ns/\h < ps.length/\Q (.d (.bool (fw ps hs ns h))) n
def iW:cI:=λws n Q=>∃(ps:Pg)(hs:List Hn)(ns:List Nt),ws=[.d (aZ ps),.d (bg hs ns)]/\cQ ps hs ns/\Q (gH ps hs ns) n
def lL(Sa:aL)(Sr:cI):cI:=λws n Q=>∃(pd:Ab)(s0:TK)(N:Nat)(aft:TK->Nat->Option TK)(Gd:TK->Prop)(J:Nat)(en:TK->Bool),ws=[.d pd,.d s0.1]/\AfOk Sa pd N aft Gd/\Gd s0/\N < 2 ^ 60/\(Lr aft N s0 J).length<=J/\(Lr aft N s0 J).length<=2000/\(∀k∈Lr aft N s0 J,∀(n:Int)(R:List Ab->Int->Prop),(∀ds:List Ab,ds.isEmpty=en k->R ds n)->Sr [.d pd,.d k.1] n R)/\Q (((Lr aft N s0 J).filter en).map (·.1)) n
end Nb
namespace DL
open PySem L2 Nb
def Kz:List Wv->Int->DQ->Prop:=λxs n Q=>∃(x:Wv)(kvs:List (TK×Ab)),xs=[x]/\iw x kvs/\Q (.d (.int (kvs.length:Int))) n
theorem yq:cL GK Kz:=λC H B σ δ n vs xs Q Q' R r g k=>by
 obtain⟨x,kvs,rfl,hx,q⟩:=g;cases r with
 |cons h t=>
  cases t;obtain⟨a,l,rfl,g1,g2,g3⟩:=WRel.rdX R.bt hx h;refine⟨a,l,rfl,g1,?_⟩;rw[RdY.len g3];exact k _ (.d (.int _)) H n R (Kp.refl _ _) (.int _) q
end DL
namespace L2
open PySem
end L2
namespace DL
open PySem L2
end DL
namespace L2
open PySem PySem.Spec
theorem u7:fillsNumberSlot (.type "tuple") "mul"=pure ai:=
 fillsNumberSlot_seq (id:="tuple.__mul__") (r:=ae (.builtin "tuple.__rmul__")) F.slot_tuple_mul.lookup ∅ F.slot_tuple_rmul.lookup ∅
theorem vh:seqRepeat? (.type "tuple")=pure (ae (.builtin "tuple.__mul__")):=by
 unfold seqRepeat?;rw[seqSlot_of (T:="tuple") (name:="__mul__") (id:="tuple.__mul__") F.slot_tuple_mul.lookup ∅,seqSlot_of (T:="tuple") (name:="__rmul__") (id:="tuple.__rmul__") F.slot_tuple_rmul.lookup ∅];rfl
theorem va(a)(t)(l)(items)(n)(dd)(sl):
  Meets (Ei.«int.__rmul__» ⟨[.int a t,.ref l],[]⟩) (λ_ R s=>s.heap.get? l=ae {cls:=.type "tuple",dict:=dd,data:=.seq items n,slots:=sl}/\R (.ok (.ret Value.notImplemented)) s):=
 .of_wp λprog w A R s h=>by
  obtain⟨hp,g,d,tk,os⟩:=s;obtain⟨hl,h⟩:=h
  wp_walk
  exact⟨_,rfl,h⟩
theorem RN(l)(items:Array Ae)(m)(dd)(sl)(k:Int)(t)(he:items.isEmpty=ai)(h2:2<=k)(hk:k < 2 ^ 63)(hm:¬((items.size:Int)*k > (2 ^ 63-1) / 8))(ht:Builtin.Tuple.tupleTooMany ((items.size:Int)*k)=ai)(hf:¬((Ay k.toNat items).foldl (·++·) #[]).size > Ar):
  Meets (Ei.«tuple.__mul__» ⟨[.ref l,.int k t],[]⟩) (λ_ R s=>s.heap.get? l=ae {cls:=.type "tuple",dict:=dd,data:=.seq items m,slots:=sl} /\
   R (.ok (.ret (.ref s.heap.objs.size))) {s with heap:=s.heap.push {cls:=.type "tuple",data:=.seq ((Ay k.toNat items).foldl (·++·) #[])}}):=
 .of_wp λprog w A R s h=>by
  obtain⟨hp,g,d,tk,os⟩:=s;obtain⟨hl,h⟩:=h
  wp_walk
  have c1:¬((decide (k < -2 ^ 63) || decide (k ≥ 2 ^ 63))=ah):=by simp;omega
  have c2:¬((items.isEmpty || k==1)=ah):=by simp[he];omega
  have c3:¬((decide (k<=0) || items.isEmpty)=ah):=by simp[he];omega
  rw[if_neg c1];refine Aa ?_;unfold Eb;refine Aa (Dh hl rfl (Aj ?_));rw[if_neg c2];simp only[if_neg c3,if_neg hm,ht,Ck,if_false]
  wp_walk
  exact⟨_,rfl,h⟩
section
variable{X:Cx}
def BE(K:Af):R2:=λx y H Q=>∃l k xs,x=.ref l/\y=.int k/\SqT K H l xs/\xs≠[]/\2<=k/\k<=1000/\xs.length<=1000 /\
 ∀p,H p=af->Q (.ref p) (upd H p (.tup (Ay k.toNat xs).flatten))
theorem JX:OpR X (Er .Mult) (BE X.K):=by
 intro pins s σ H x y v u Q I rx ry h;obtain⟨l,k,xs,rfl,rfl,hH,hne,h2,h3,hz,q⟩:=h;cases rx;obtain⟨t,rfl⟩:=ry;obtain⟨its,r,⟨o,e,hc,n,hd⟩,z⟩:=I.tuple hH;obtain⟨c,dd,da,sl⟩:=o;cases hc;cases hd;have hl:=r.length;have h0:its.length≠0:=λz=>hne (G6 ⋯);have hs:its.toArray.size=its.length:=Ax;have f0:List.foldl (λx1 x2=>x1++x2) #[] (Ay k.toNat its.toArray)=(Ay k.toNat its).flatten.toArray:=by
  have:=BG its k.toNat [];rw[Cg]at this;exact this
 have hfl:(Ay k.toNat its).flatten.length<=1000*1000:=by
  rw[tZ];exact Nat.mul_le_mul ⋯ ⋯
 have hmul:(its.toArray.size:Int)*k<=1000*1000:=Int.mul_le_mul ⋯ h3 ⋯ ⋯;have hsl:(1000*1000:Nat)<=Ar:=by decide
 refine Hq (T:="tuple") (U:="int") ∎ ⟨_,e,rfl⟩ (λs'=>typeIs_int s' k t) u7 F.fills_int_mul Gn vh F.slot_int_index.lookup
  (Gw Gn (typeIs_int s k t) F.entry_int_rmul (F.args_int_rmul_2 _ _) (va k t l its.toArray n dd sl)
   ⟨e,rfl,⟨_,e,rfl⟩,Gw F.slot_tuple_mul ⟨_,e,rfl⟩ F.entry_tuple_mul (F.args_tuple_mul_2 _ _) (RN l its.toArray n dd sl k t (by cases its with|nil=>exact absurd rfl h0|cons a b=>rfl) h2 ⋯ ⋯ (decide_eq_false ⋯) (by rw[f0,Ax];omega)) ⟨e,?_⟩⟩)
 rw[f0];have T:(s.heap.push {cls:=.type "tuple",data:=.seq (Ay k.toNat its).flatten.toArray}).get? s.heap.objs.size=ae {cls:=.type "tuple",data:=.seq (Ay k.toNat its).flatten.toArray}:=A0 _ rfl;refine⟨.ref _,_,I.laid (t':=s.toks) (o:=.tup (Ay k.toNat xs).flatten) (λb ob q=>Ah _ q) (Am _) ⟨by rw[tZ];exact Bb (Nat.mul_le_mul ⋯ hz) hsl,_,r.rep k.toNat,⟨_,T,rfl,⟨_,rfl⟩,rfl⟩⟩,rfl,q _ (I.hok.fresh (Am _))⟩
end
theorem LJ(l)(items:Array Ae)(m)(dd)(sl)(k)(t)(he:items.isEmpty=ai)(h0:k<=0)(hk:-2 ^ 62<=k):
  Meets (Ei.«tuple.__mul__» ⟨[.ref l,.int k t],[]⟩) (λ_ R s=>s.heap.get? l=ae {cls:=.type "tuple",dict:=dd,data:=.seq items m,slots:=sl} /\
   R (.ok (.ret (.ref s.heap.objs.size))) {s with heap:=s.heap.push {cls:=.type "tuple",data:=.seq #[]}}):=
 .of_wp λprog w A R s h=>by
  obtain⟨hp,g,d,tk,os⟩:=s;obtain⟨hl,h⟩:=h
  wp_walk
  have c1:¬((decide (k < -2 ^ 63) || decide (k ≥ 2 ^ 63))=ah):=by simp;omega
  have c2:¬((items.isEmpty || k==1)=ah):=by simp[he];omega
  have c3:(decide (k<=0) || items.isEmpty)=ah:=by simp[h0]
  rw[if_neg c1];refine Aa ?_;unfold Eb;refine Aa (Dh hl rfl (Aj ?_));rw[if_neg c2];simp only[if_pos c3]
  wp_walk
  exact⟨_,rfl,h⟩
theorem Jh(l)(items)(m)(dd)(sl)(t):
  Meets (Ei.«tuple.__mul__» ⟨[.ref l,.int 1 t],[]⟩) (λ_ R s=>s.heap.get? l=ae {cls:=.type "tuple",dict:=dd,data:=.seq items m,slots:=sl} /\
   R (.ok (.ret (.ref l))) s):=
 .of_wp λprog w A R s h=>by
  obtain⟨hp,g,d,tk,os⟩:=s;obtain⟨hl,h⟩:=h
  wp_walk
  exact⟨_,rfl,h⟩
section
variable{X:Cx}
def yl(K:Af):R2:=λx y H Q=>BE K x y H Q\/∃l k xs,x=.ref l/\y=.int k/\SqT K H l xs/\xs≠[]/\((k=1/\Q (.ref l) H)\/(k<=0/\-1000<=k/\∀p,H p=af->Q (.ref p) (upd H p (.tup []))))
theorem Lm:OpR X (Er .Mult) (yl X.K):=by
 intro pins s σ H x y v u Q I rx ry h;rcases h with h|h
 ·exact JX pins s σ H x y v u Q I rx ry h
 obtain⟨l,k,xs,rfl,rfl,hH,hne,h⟩:=h;cases rx;obtain⟨t,rfl⟩:=ry;obtain⟨its,r,⟨o,e,hc,n,hd⟩,z⟩:=I.tuple hH;obtain⟨c,dd,da,sl⟩:=o;cases hc;cases hd;have hl:=r.length;have h0:its.length≠0:=λz=>hne (G6 ⋯);rcases h with⟨rfl,q⟩|⟨h1,h2,q⟩
 ·exact Hq (T:="tuple") (U:="int") ∎ ⟨_,e,rfl⟩ (λs'=>typeIs_int s' 1 t) u7 F.fills_int_mul Gn vh F.slot_int_index.lookup
   (Gw Gn (typeIs_int s 1 t) F.entry_int_rmul (F.args_int_rmul_2 _ _) (va 1 t l its.toArray n dd sl)
    ⟨e,rfl,⟨_,e,rfl⟩,Gw F.slot_tuple_mul ⟨_,e,rfl⟩ F.entry_tuple_mul (F.args_tuple_mul_2 _ _) (Jh l its.toArray n dd sl t) ⟨e,⟨.ref l,H,I,rfl,q⟩⟩⟩)
 ·refine Hq (T:="tuple") (U:="int") ∎ ⟨_,e,rfl⟩ (λs'=>typeIs_int s' k t) u7 F.fills_int_mul Gn vh F.slot_int_index.lookup
   (Gw Gn (typeIs_int s k t) F.entry_int_rmul (F.args_int_rmul_2 _ _) (va k t l its.toArray n dd sl)
    ⟨e,rfl,⟨_,e,rfl⟩,Gw F.slot_tuple_mul ⟨_,e,rfl⟩ F.entry_tuple_mul (F.args_tuple_mul_2 _ _) (LJ l its.toArray n dd sl k t (by cases its with|nil=>exact absurd rfl h0|cons a b=>rfl) h1 ⋯) ⟨e,?_⟩⟩)
  have T:(s.heap.push {cls:=.type "tuple",data:=.seq #[]}).get? s.heap.objs.size=ae {cls:=.type "tuple",data:=.seq #[]}:=A0 _ rfl;exact⟨.ref _,_,I.laid (t':=s.toks) (o:=.tup []) (λb ob q=>Ah _ q) (Am _) ⟨Az _,[],.nil,⟨_,T,rfl,⟨_,rfl⟩,rfl⟩⟩,rfl,q _ (I.hok.fresh (Am _))⟩
end
end L2
namespace DL
open PySem L2 Nb
section
variable{X:Cx}{a b:Expr}{ta tb:TE}{wa wb:DT}{pos:Pos}{K:Af}
theorem IC(h:RdXs H B xs ds):∀k:Nat,RdXs H B (Ay k xs).flatten (Ay k ds).flatten
 |0=>.nil
 |k+1=>by
  rw[Dx,Dx,Ex,Ex];exact h.append (IC h k)
end
section
variable{X:Cx}{a b:Expr}{ta tb:TE}{wa wb:DT}{pos:Pos}{K:Af}
def pI(wa wb:DT):DT:=λδ n Q=>wa δ n λx n1=>wb δ n1 λy n2=>∃(ds:List Ab)(k:Int),x=.d (.tuple ds)/\y=.d (.int k)/\ds≠[]/\-1000<=k/\k<=1000/\ds.length<=1000/\Q (.d (.tuple (Ay k.toNat ds).flatten)) n2
theorem MJ(ha:DE X a ta wa)(hb:DE X b tb wb)(hK:X.K=K:=by rfl):DE X (.BinOp a .Mult b pos) (cS (yl K) ta tb) (pI wa wb):=by
 subst hK;refine⟨dy Lm ha.pe hb.pe,λC H B σ δ n Q Q' R z k=>ha.sd C H B σ δ n _ _ R z λv x H1 n1 R1 k1 r1 q1=>hb.sd C H1 B σ δ n1 _ _ R1 q1 λu y H2 n2 R2 k2 r2 q2=>?_⟩;obtain⟨ds,m,rfl,rfl,hne,h2,h3,hl,kq⟩:=q2;cases(show RdX H2 B u (.int m)from r2);have r1':RdX H2 B v (.tuple ds):=r1.kp k2 R1.bt;cases r1' with
 |@tup l xs _ e1 e2 e3 e4=>
  have len:=e4.len;have hx:xs≠[]:=λz=>hne (by rw[z]at len;exact G6 len.symm);by_cases c2:2<=m
  ·refine .inl ⟨l,m,xs,rfl,rfl,SqT.of e1,hx,c2,h3,by omega,λD hD=>?_⟩;have nB:=R2.nb hD;refine k _ (.d (.tuple (Ay m.toNat ds).flatten)) _ n2 (R2.new hD) ((k1.trans k2).trans (Kp.new hD)) (show RdX _ B (.ref D) (.tuple (Ay m.toNat ds).flatten)from .tup aR nB ?_ (RdXs.keep (λb o e _=>by rw[aD (aY e hD)];exact e) (IC e4 m.toNat))) kq;rw[tZ];exact Bb (Nat.mul_le_mul (show m.toNat<=1000 by omega) (show xs.length<=1000 by omega)) ∎
  ·refine .inr ⟨l,m,xs,rfl,rfl,SqT.of e1,hx,?_⟩;by_cases c1:m=1
   ·subst c1;refine .inl ⟨rfl,?_⟩;have e:(Ay (1:Int).toNat ds).flatten=ds:=by simp
    rw[e]at kq;exact k _ (.d (.tuple ds)) _ n2 R2 (k1.trans k2) (show RdX H2 B (.ref l) (.tuple ds)from .tup e1 e2 e3 e4) kq
   ·refine .inr ⟨by omega,h2,λD hD=>?_⟩;have e:(Ay m.toNat ds).flatten=[]:=by rw[show m.toNat=0 by omega];rfl
    rw[e]at kq;exact k _ (.d (.tuple [])) _ n2 (R2.new hD) ((k1.trans k2).trans (Kp.new hD)) (show RdX _ B (.ref D) (.tuple [])from .tup aR (R2.nb hD) (Az _) .nil) kq
end
end DL
namespace L2
open PySem PySem.Spec PyProof.Rows PySem.W
section
variable{prog:A7}{w:Bi}{A:Br}{E:Ae->Ai->Prop}{s:Ai}
theorem UJ{seen:List Str}(hS:iM w s.heap a seen)(hb:seen.length < 3000)
  (h:∀b h',Dt a s.heap h'->iM w h' a (seen++[k])->Q b {s with heap:=h'}):Av (A9 prog w) A (setAddHashed a (.str k tk) (hashStr w k)) Q E s:=by
 obtain⟨es,ep,t,T,hx,nd,hm,hl⟩:=hS;obtain⟨o,ho,hex,hd⟩:=T.obj;have hel:ElemsOf (Eh prog w) es.toList:=hx.elems;have hsz:es.size < scanBound:=by unfold scanBound;omega
 have hkey:(Eh prog w).is k (.str k tk)=ah:=by simp[Eh,Value.isStrOf]
 unfold setAddHashed setAddHashedIn;refine B3 (Aa (wpAny_setState_of ho hd T.fits ?_));dsimp only;rw[byScan_of (knd:=Eh prog w) (x:=.str k tk) rfl hsz hel];simp only[↓reduceIte];unfold setAddByScan;refine Aa (Aa (wpAny_rule (Aa (wpAny_setScan_of (knd:=Eh prog w) (k:=k) hkey ho hd T.fits hel ?_))));cases hr:es.toList.findIdx? (λe=>(Eh prog w).is k e.2)with
 |some j=>
  dsimp only;obtain⟨hj,hpj,_⟩:=Gm.mp hr;have hk:k∈bI es:=by
   obtain⟨u,hu⟩:=Value.isStrOf_shape hpj;exact A3.mpr ⟨es.toList[j],Cm hj,by rw[hu];rfl⟩
  refine Aj (Aj (h _ s.heap (Heap.SameBut.refl a s.heap) ⟨es,ep,t,T,hx,nd,λk'=>?_,by rw[A2];omega⟩));rw[hm k',Bv,Bn];exact⟨.inl,λz=>z.elim id λe=>e▸(hm k).mp hk⟩
 |none=>
  dsimp only;have hk:k∉bI es:=λz=>by
   obtain⟨e,he,e2⟩:=A3.mp z;obtain⟨k',t',e3,_⟩:=hx e he;have q:=List.findIdx?_eq_none_iff.mp hr e he;rw[e3]at e2 q;have e2:k'=k:=e2;subst e2;simp[Eh,Value.isStrOf]at q
  have hgw:∀(b:Bool){s₁:Ai}{Q':Unit->Ai->Prop},Q' () s₁->Av (A9 prog w) A (match b with|true=>rule "set.scan.the-table-gave-way"|false=>pure ()) Q' E s₁:=
   λb s₁ Q' hq=>by cases b with
    |true=>exact wpAny_rule hq
    |false=>exact Aj hq
  have hp:=layNew_perm t es (hashStr w k) (.str k tk);have hf:=layNew_fits t es (hashStr w k) (.str k tk);have hle:=N3 t es (hashStr w k) (.str k tk);have eh:(Eh prog w).hash k=hashStr w k:=rfl
  try rw[eh]
  generalize layNew t es (hashStr w k) (.str k tk)=L at hp hf hle ⊢;obtain⟨es1,t1,wd,gave⟩:=L;dsimp only at hp hf hle ⊢;rw[Array.toList_push]at hp;obtain⟨x1,n1,m1,l1,z1⟩:=Np hx nd hm hl hk hp;refine Aa (hgw _ ?_)
  split
  ·refine Aa ?_;rw[hashByValue_scannable 8 rfl];refine Aj ?_;have hpl:({t1 with plain:=ai}:SetTable).plain=ai:=rfl;have hft:({t1 with plain:=ai}:SetTable).fits es1.size=ah:=SetTable.fits_plain_off hf;have hld:({t1 with plain:=ai}:SetTable).led=t.led:=hle;simp only[plainKind,Ck,↓reduceIte];generalize({t1 with plain:=ai}:SetTable)=t2 at hpl hft hld ⊢;have hb1:es1.size < scanBound:=by unfold scanBound;omega
   refine Aa (wpAny_storeSet_of ho hd ?_ (fits_of_scanBound hb1));have g1:(s.heap.update a (E4 es1 t2)).get? a=ae {o with data:=.set es1 (ep+1) t2}:=by
    have:=Cn (E4 es1 t2) ho (by rw[putSet_of es1 t2 hd];rfl);rw[putSet_of es1 t2 hd]at this;exact this
   have sb1:=B9 s.heap a (E4 es1 t2)
   split
   ·have hp2:=relayAll_perm t2 es1 (E3 es1.size);have hf2:=relayAll_fits t2 es1 (E3 es1.size);obtain⟨hl2,hq2⟩:=Hw t2 es1 (E3 es1.size);generalize relayAll t2 es1 (E3 es1.size)=R at hp2 hf2 hl2 hq2 ⊢;obtain⟨es2,t3,gave2⟩:=R;dsimp only at hp2 hf2 hl2 hq2 ⊢;obtain⟨x2,n2,m2,z2⟩:=Iw x1 n1 hp2;refine Aa (hgw _ ?_);refine Aa (wpAny_storeSet_of g1 rfl ?_ (fits_of_scanBound (by rw[z2];exact hb1)));have g2:((s.heap.update a (E4 es1 t2)).update a (E4 es2 t3)).get? a=ae {o with data:=.set es2 (ep+1+1) t3}:=by
     have:=Cn (E4 es2 t3) g1 (by rw[putSet_of es2 t3 rfl];rfl);rw[putSet_of es2 t3 rfl]at this;exact this
    refine Aj (Aj (h _ _ (sb1.trans (B9 _ a _)) ⟨es2,ep+1+1,t3,⟨⟨_,g2,hex,rfl⟩,hf2,by rw[hl2,hld];exact T.led,λz=>?_⟩,x2,n2,λk'=>(m2 k').trans (m1 k'),by rw[z2];exact l1⟩));have:=hq2 z;rw[hpl]at this;cases this
   ·refine Aj (Aj (h _ _ sb1 ⟨es1,ep+1,t2,⟨⟨_,g1,hex,rfl⟩,hft,by rw[hld];exact T.led,λz=>?_⟩,x1,n1,m1,l1⟩));rw[hpl]at z;cases z
  ·rename_i hpl0;have hpl:t1.plain=ai:=by simpa using hpl0
   have hft:=hf;have hld:=hle;refine Aa (Aj ?_);simp only[↓reduceIte];clear hf hle hpl0;generalize t1=t2 at hpl hft hld ⊢;have hb1:es1.size < scanBound:=by unfold scanBound;omega
   refine Aa (wpAny_storeSet_of ho hd ?_ (fits_of_scanBound hb1));have g1:(s.heap.update a (E4 es1 t2)).get? a=ae {o with data:=.set es1 (ep+1) t2}:=by
    have:=Cn (E4 es1 t2) ho (by rw[putSet_of es1 t2 hd];rfl);rw[putSet_of es1 t2 hd]at this;exact this
   have sb1:=B9 s.heap a (E4 es1 t2)
   split
   ·have hp2:=relayAll_perm t2 es1 (E3 es1.size);have hf2:=relayAll_fits t2 es1 (E3 es1.size);obtain⟨hl2,hq2⟩:=Hw t2 es1 (E3 es1.size);generalize relayAll t2 es1 (E3 es1.size)=R at hp2 hf2 hl2 hq2 ⊢;obtain⟨es2,t3,gave2⟩:=R;dsimp only at hp2 hf2 hl2 hq2 ⊢;obtain⟨x2,n2,m2,z2⟩:=Iw x1 n1 hp2;refine Aa (hgw _ ?_);refine Aa (wpAny_storeSet_of g1 rfl ?_ (fits_of_scanBound (by rw[z2];exact hb1)));have g2:((s.heap.update a (E4 es1 t2)).update a (E4 es2 t3)).get? a=ae {o with data:=.set es2 (ep+1+1) t3}:=by
     have:=Cn (E4 es2 t3) g1 (by rw[putSet_of es2 t3 rfl];rfl);rw[putSet_of es2 t3 rfl]at this;exact this
    refine Aj (Aj (h _ _ (sb1.trans (B9 _ a _)) ⟨es2,ep+1+1,t3,⟨⟨_,g2,hex,rfl⟩,hf2,by rw[hl2,hld];exact T.led,λz=>?_⟩,x2,n2,λk'=>(m2 k').trans (m1 k'),by rw[z2];exact l1⟩));have:=hq2 z;rw[hpl]at this;cases this
   ·refine Aj (Aj (h _ _ sb1 ⟨es1,ep+1,t2,⟨⟨_,g1,hex,rfl⟩,hft,by rw[hld];exact T.led,λz=>?_⟩,x1,n1,m1,l1⟩));rw[hpl]at z;cases z
theorem Kq{St:Nat->Ai->Prop}(W:WalksS prog w A.in1 I fp wr G n (jv ks) St)(S)(hSf:S∉fp)(hn:ks.length=n)(hb:n < 3000):
  ∀(m i:Nat)(s:Ai),n-i=m->i<=n->St i s->iM w s.heap S (ks.take i)->
   (∀s',Moved (S::wr) G s s'->iM w s'.heap S ks->R (.ok (.ret .none)) s')->Gr (A9 prog w) A (.builtin "set.update.loop" ⟨[.ref S,.ref I],[]⟩) R s:=by
 have hSw:S∉wr:=λh=>hSf (W.sub _ h);have hsub:∀b∈wr,b∈S::wr:=λb hb=>An _ hb;have mv:∀{h h':Heap}{seen:List Str},(∀o,h.get? S=ae o->h'.get? S=ae o)->iM w h S seen->iM w h' S seen:=λk x=>by
  obtain⟨es,ep,t,T,r⟩:=x;exact⟨es,ep,t,T.move k,r⟩
 intro m
 induction m with
 |zero=>
  intro i s hk hi hst hS hR;have hin:i=n:=by omega
  subst hin;refine Gq FQ ?_;rw[Fq vI _];show Av _ A.in1 (pyNext (.ref I)>>=_) _ _ s;refine Aa (W.done s _ _ hst λs' hm=>?_);show Av _ A.in1 (ret B5) _ _ s';rw[<-hn,List.take_length]at hS;exact Aj (hR s' (hm.mono hsub) (mv (λo e=>hm.heap S _ hSw e) hS))
 |succ m ih=>
  intro i s hk hi hst hS hR;have hlt:i < n:=by omega
  refine Gq FQ ?_;rw[Fq vI _];show Av _ A.in1 (pyNext (.ref I)>>=_) _ _ s;refine Aa (W.item i s _ _ hlt hst λv s' hP hst' hm=>?_);obtain⟨k,t,hk1,rfl⟩:=hP;have hS':=mv (λo e=>hm.heap S _ hSw e) hS;show Av _ A.in1 (holding [Gy k t] (setAdd S (.str k t))>>=_) _ _ s';refine Aa (B3 ?_);unfold setAdd;refine B3 ?_;refine Aa (wpAny_pyHash_str ?_);refine UJ (s:={ s' with toks:=s'.toks+1}) hS' (by rw[C4];omega) λb h' hsb hS2=>?_;have et:ks.take i++[k]=ks.take (i+1):=by
   rw[List.take_add_one,hk1];rfl
  rw[et]at hS2;refine Aj ⟨plainId_quiet vI _,ih (i+1) _ ⋯ hlt (W.frame _ s' _ _ hst' (Fz _) λb hb o e=>?_) hS2 λs'' hm'' hS''=>?_⟩
  ·rw[hsb.2 b (λh:b=S=>hSf (by rw[<-h];exact hb))];exact e
  ·refine hR s'' (Moved.trans W.gtrans ((hm.mono hsub).then_heap (Fz _) λb o hb e=>?_) hm'') hS'';rw[hsb.2 b (λh:b=S=>hb (by rw[h];exact Au))];exact e
end
section
variable{prog:A7}{w:Bi}{A:Br}{E:Ae->Ai->Prop}{s:Ai}
set_option maxHeartbeats 3200000 in
theorem Qk(K:TxSrc prog w T x ks OK)(hh:A.handled=af)(hok:OK s.heap)(h64:ks.length < 3000)
  (h:∀(h':Heap)(tk:Nat),iM w h' s.heap.objs.size ks->(∀b o,b < s.heap.objs.size->s.heap.get? b=ae o->h'.get? b=ae o)->Q (.ref s.heap.objs.size) {s with heap:=h',toks:=tk}):
  Av (A9 prog w) A (call (.type "set") [.ref x]) Q E s:=by
 obtain⟨c,tl,hmro⟩:=F.called_set.mro;have hmade:=F.called_set.made;have hsub:=F.called_set.sub;refine wpAny_call (codeAny_of_tree ?_);show Av _ _ (callAny (.type "set") _) _ _ _;refine Aj ⟨Code.quiet_builtin _ ∅,Gq F.entry_type_call ?_⟩;rw[Around.under_plain (weight_type_call_type "set" [.ref x] []) rfl];have h1:=F.called_set.notType;have h2:=F.called_set.canCreate;have hct:=F.typeCall_set_1 (.ref x)
 repeat (any_goals (first|assumption|wp_step))
 refine G4 (NZ (.ref x) (E:=E) (Q₁:=λobj s₁=>obj=.ref s.heap.objs.size/\s₁={ s with heap:=s.heap.push (c9 w)}) ⟨rfl,rfl⟩) λr s₁ hr=>?_;cases r with
 |error e=>exact hr
 |ok fl=>
  cases fl with
  |ret obj=>
   obtain⟨rfl,rfl⟩:=hr;have hS:(s.heap.push (c9 w)).get? s.heap.objs.size=ae (c9 w):=A0 _ rfl;have hT:Shared.TypeIs {s with heap:=s.heap.push (c9 w)} (.ref s.heap.objs.size) "set":=⟨_,hS,rfl⟩;have hli:=F.called_set.init.lookup;have hbi:=F.called_set.init.bind (.ref s.heap.objs.size)
   repeat (any_goals (first|assumption|wp_step))
   refine G4 (codeAny_call_builtin (R:=wants (λr s₂=>r=.none/\∃h' tk,s₂={ s with heap:=h',toks:=tk}/\iM w h' s.heap.objs.size ks /\
     (∀b o,b < s.heap.objs.size->s.heap.get? b=ae o->h'.get? b=ae o)) E) F.called_set.init.plain F.entry_set_init (check_set_init_1 hT ?_)) λr₂ s₂ hr₂=>?_
   ·have hok1:OK (s.heap.push (c9 w)):=K.keep _ _ hok λo e=>Ah _ e;have hTx:Shared.TypeIs {s with heap:=s.heap.push (c9 w)} (.ref x) T:=K.type {s with heap:=s.heap.push (c9 w)} hok1;have hsls:=K.notSet;have hslf:=K.notFrozen;have hne:=K.notDict;unfold Ei.«set.__init__» noKeywords Builtin.Frozenset.updateFrom;generalize hPI:pyIter=PI
    wp_walk
    subst hPI;have hh3:A.in1.in1.in1.handled=af:=by simp[hh]
    obtain⟨oI,St,hit,W,st⟩:=K.iter {s with heap:=s.heap.push (c9 w)} hok1;refine hit _ _ _ ?_;refine Aa (wpAny_runValue ?_);have hxS:x < s.heap.objs.size:=K.there _ hok;have hSf:s.heap.objs.size∉[(s.heap.push (c9 w)).objs.size,x]:=by
     rw[D9];simp only[Aw,Bn,Bh,or_false,not_or];exact⟨A8 (Nat.lt_succ_self _),Ej hxS⟩
    refine Kq (W _ hh3).toS s.heap.objs.size hSf rfl h64 (ks.length-0) 0 _ ⋯ (Az _) st (Pz (Ah _ hS)) ?_;intro s' hm hS';obtain⟨h',g',d',tk',os'⟩:=s';have eg:g'=s.gens:=hm.gens;have ed:d'=s.drawn:=hm.drawn;have eo:os'=s.os:=hm.os;subst eg;subst ed;subst eo;show Av _ _ _ _ _ _;refine Aj ?_;show Av _ _ (ret B5) _ _ _;refine Aj ⟨rfl,h',tk',rfl,hS',λb o hb e=>?_⟩;have hb1:b≠s.heap.objs.size:=A8 hb;have hb2:b≠(s.heap.push (c9 w)).objs.size:=by
     rw[D9];exact A8 (Nat.lt_succ_of_lt hb)
    exact hm.heap b o (by simp only[Aw,Bn,Bh,or_false,not_or];exact⟨hb1,hb2⟩) (Ah _ (Ah _ e))
   ·cases r₂ with
    |error e=>exact hr₂
    |ok fl₂=>
     cases fl₂ with
     |ret r=>
      obtain⟨rfl,h',tk,rfl,hS',hk'⟩:=hr₂
      repeat (any_goals (first|assumption|wp_step))
      exact h _ _ hS' hk'
     |_=>exact hr₂.elim
  |_=>exact hr.elim
end
def xl(w:Bi)(v:Addr)(ks:List Str):HO:=.ext λh=>iM w h v ks
def zR(w:Bi):List V->Hp->VK->Prop:=λxs H Q=>∃(a:Addr)(ks:List Str),xs=[.ref a]/\H a=ae (.lst (ks.map V.str))/\ks.length < 3000/\∀v,H v=af->Q (.ref v) (upd H v (xl w v ks))
theorem OS(hh:X.A.handled=af):CallR X (.type "set") (zR X.w):=by
 intro pins s σ H xs us Q I r h;obtain⟨a,ks,rfl,ha,h64,q⟩:=h;obtain⟨u,rfl,ru⟩:=gg r;cases(show u=As a from ru);obtain⟨hl,vs,c,hv,hL⟩:=I.hok a _ ha;refine Qk (Pf (Qf hv) (Ld hv)) hh ⟨_,hL,rfl,_,rfl⟩ h64 λh' tk hS hk=>?_;have hob:∃o,h'.get? s.heap.objs.size=ae o:=by
  obtain⟨es,ep,t,T,_⟩:=hS;obtain⟨o,e,_⟩:=T.obj;exact⟨o,e⟩
 refine⟨.ref s.heap.objs.size,_,I.laid (t':=tk) (o:=xl X.w s.heap.objs.size ks) (λb o e=>hk b o (Ao e) e) (Am _) ⟨hS,hob,λh1 h2 q k=>?_⟩,rfl,q _ (I.hok.fresh (Am _))⟩;obtain⟨es,ep,t,T,r⟩:=q;exact⟨es,ep,t,T.move λo e=>k _ e,r⟩
def IH(w:Bi):List V->Hp->VK->Prop:=λvs H Q=>∃(v:Addr)(ks:List Str),vs=[.ref v]/\H v=ae (xl w v ks)/\ks.length < 3000/\∀us:List Str,us.Nodup->(∀k,k∈us↔k∈ks)->Q (.int us.length) H
theorem Js:CallR X (.builtin "len") (IH X.w):=by
 intro pins s σ H xs us Q I r h;obtain⟨v,ks,rfl,hv,h18,q⟩:=h;obtain⟨u,rfl,ru⟩:=gg r;cases(show u=As v from ru);obtain⟨es,ep,t,T,hx,nd,hm,hl⟩:=(I.hok v _ hv).1;obtain⟨o,ho,hex,hd⟩:=T.obj;have hn:(bI es).length=es.size:=by unfold bI;rw[Ad,Ce]
 refine PySem.call_len_set ho hex hd T.fits ⋯ ⟨.int (bI es).length,H,I.kept (t':=_) λb o e=>e,?_,q _ nd hm⟩;exact⟨_,by rw[hn]⟩
theorem Lg(hh:X.A.handled=af):CallR X (.builtin "sum") (λxs H Q=>∃(p:Addr)(ns:List Int),xs=[.ref p]/\H p=ae (.tup (ns.map V.int))/\Q (.int ns.sum) H):=by
 intro pins s σ H xs us Q I r h;obtain⟨p,ns,rfl,hp,q⟩:=h;obtain⟨u,rfl,ru⟩:=gg r;cases(show u=As p from ru);obtain⟨_,its,rv,o,e1,e2,⟨n,e3⟩,_⟩:=(show ObjOk X.prog X.w H s.heap p (.tup (ns.map V.int))from I.hok _ _ hp);have hi:IntsAre its ns:=Pn rv;have hl:s.heap.IsTuple p its.toArray:=⟨o,e1,e2,n,e3⟩;have hall:AllInts its.toArray:=hi.allInts;obtain⟨ys,e⟩:=hall.items;have hn:(ys.toList.map (·.1))=ns:=by
  have:=hi.numsOf;rw[show its=its.toArray.toList from rfl,e,nums_intItems]at this;exact this
 rw[e]at hl;refine ktm_sumG hh hl λh' tk t' hk=>?_;rw[preSum_eq,Gs (by simp),hn];exact⟨.int ns.sum,H,I.kept hk,⟨_,rfl⟩,q⟩
end L2
namespace DL
open PySem L2 Nb
def sV:List Wv->Int->DQ->Prop:=λxs n Q=>match xs with
 |[.d (.tuple ds)]=>∃ns,jJ ds=ae ns/\Q (.d (.int ns.sum)) n
 |_=>False
theorem ON:cL (λxs H Q=>∃(p:Addr)(ns:List Int),xs=[.ref p]/\H p=ae (.tup (ns.map V.int))/\Q (.int ns.sum) H) sV:=λC H B σ δ n vs xs Q Q' R r h k=>by
 unfold sV at h
 split at h
 ·rename_i ds;obtain⟨ns,e,h⟩:=h;cases r with
  |cons r1 r2=>
   cases r2;cases(show RdX H B _ (.tuple ds)from r1)with
   |@tup ay ys _ e1 e2 e3 e4=>
    exact⟨ay,ns,rfl,by rw[<-DX e4 e];exact e1,k _ _ H n R (Kp.refl _ _) (wd (.int _)) h⟩
 ·exact h.elim
section
variable{X:Cx}{o:Expr}{td:TE}{wd':DT}{pos p p2 ip:Pos}{W:Bi}
def vE(w:DT):DT:=λδ n Q=>w δ n λx n1=>∃ks:List Str,x=.d (.list (ks.map .str))/\ks.length < 3000/\∀us:List Str,us.Nodup->(∀k,k∈us↔k∈ks)->Q (.d (.int us.length)) n1
theorem NW(hh:X.A.handled=af)(hg:Gl X "len")(hm:X.mg "len"=af)(hg2:Gl X "set")(hm2:X.mg "set"=af)(ho:DE X o td wd')(hW:X.w=W:=by rfl)(hv:Bp "len"=ae (.builtin "len"):=by decide +kernel)(hv2:Bp "set"=ae (.type "set"):=by decide +kernel)
  (he2:Ap [o] X.env=(ai,eval o X.env)::Ap [] X.env:=by rfl) (hpl2:(Cy ip (Ap [] X.env)).any (·.1)=ai:=by rfl)
  (he':Ap [Expr.Call (.Name "set" p2) [o] [] ip] X.env=(ai,eval (Expr.Call (.Name "set" p2) [o] [] ip) X.env)::Ap [] X.env:=by rfl) (hpl:(Cy pos (Ap [] X.env)).any (·.1)=ai:=by rfl):
  DE X (.Call (.Name "len" p) [.Call (.Name "set" p2) [o] [] ip] [] pos) (eT (IH W) (aM (eT (zR W) (aM td aI)) aI)) (vE wd'):=by
 subst hW;refine⟨ju Js hg hm hv (bP (nj (OS hh) hg2 hm2 hv2 (bP ho.pe dC he2) ∎ ∎ he2 hpl2) dC he') ∎ ∎ he' hpl,λC H B σ δ n Q Q' R q k=>
  ho.sd C H B σ δ n _ _ R q λv x H1 n1 R1 k1 r1 q1=>?_⟩
 obtain⟨ks,rfl,h18,kq⟩:=q1;cases(show RdX H1 B v (.list (ks.map .str))from r1)with
 |@lst a xs _ e1 e2 e3 e4=>
  refine⟨a,ks,rfl,by rw[e1,AF e4],h18,λu hu=>⟨u,ks,rfl,aR,h18,λus nd hm=>?_⟩⟩;exact k _ _ _ n1 (R1.new hu) (k1.trans (Kp.new hu)) (wd (.int _)) (kq us nd hm)
end
section
variable{X:Cx}{K:Af}
structure SmlA(d:Ab):Prop where
 lay:Cf d=ah
 dep:Dc d<=20
 shw:Ff d=ah
 len:d.shown.length<=Ar
def DV(K:Af):List V->Hp->VK->Prop:=λxs H Q=>∃x d,xs=[x]/\RdD K H x d/\SmlA d/\Q (.str d.shown) H
theorem S4(hg:X.A.guards=ae [])(hu:X.A.units+64 < Dj)(hK:X.K=K:=by rfl):CallR X (.builtin "repr") (DV K):=by
 subst hK;intro pins s σ H xs us Q I r h;obtain⟨x,d,rfl,hd,hs,q⟩:=h;obtain⟨u,rfl,ru⟩:=gg r;have hsh:=hs.shw;have hln:=hs.len;cases hd with
 |non=>
  cases(show u=B5 from ru);exact P.repr_of_none ⟨.str _,H,I.tok _,⟨_,rfl⟩,q⟩
 |bl b=>
  cases(show u=Value.bool b from ru);exact P.repr_of_bool ⟨.str _,H,I.tok _,⟨_,rfl⟩,by cases b<;>exact q⟩
 |int i=>
  obtain⟨t,rfl⟩:=(show ∃t,u=Value.int i t from ru);exact P.repr_of_int (of_decide_eq_true hsh) ⟨.str _,H,I.tok _,⟨_,rfl⟩,q⟩
 |str y=>
  obtain⟨t,rfl⟩:=(show ∃t,u=Gy y t from ru);exact P.repr_of_str ⟨.str _,H,I.tok _,⟨_,rfl⟩,q⟩ hln
 |@lst a _ _ h1 h2=>
  cases(show u=As a from ru);obtain⟨as,hr⟩:=RdD.reads I (RdD.lst h1 h2) (show RelV (.ref a) (As a)from rfl);have hdp:=hs.dep;refine repr_of_reads' hr hsh (PyData.noDict_hsm (PyData.hasDict_of_canLay _ hs.lay)) hg ⋯ (λ_ _ e=>e) (λh' u tk hk=>?_) hln;exact⟨.str _,H,I.kept hk,⟨u,rfl⟩,q⟩
 |@tup a _ _ h1 h2=>
  cases(show u=As a from ru);obtain⟨as,hr⟩:=RdD.reads I (RdD.tup h1 h2) (show RelV (.ref a) (As a)from rfl);have hdp:=hs.dep;refine repr_of_reads' hr hsh (PyData.noDict_hsm (PyData.hasDict_of_canLay _ hs.lay)) hg ⋯ (λ_ _ e=>e) (λh' u tk hk=>?_) hln;exact⟨.str _,H,I.kept hk,⟨u,rfl⟩,q⟩
def vq:List Wv->Int->DQ->Prop:=λxs n Q=>match xs with
 |[.d d]=>SmlA d/\Q (.d (.str d.shown)) n
 |_=>False
theorem Tq:cL (DV K) vq:=λC H B σ δ n vs xs Q Q' R r h k=>by
 unfold vq at h
 split at h
 ·rename_i d;cases r with
  |cons r1 r2=>
   cases r2;have r1:RdX H B _ d:=r1;exact⟨_,d,rfl,r1.rd,h.1,k _ _ H n R (Kp.refl _ _) (wd (show RdX H B _ (.str _)from .str _ h.1.len)) h.2⟩
 ·exact h.elim
end
end DL
namespace Nb
open PySem L2 DL
abbrev PD:aF:=(aw (eL (dH "int" ↥0) (kE (dH "bool" ↥0))))
abbrev yr:aF:=(aq (aA 4 (w2 ↥0 ⇑0 aB)) (aq (aV (cT (w2 ↥4 (wC (.str "is")) bM)) (aw (w2 (w2 ↥0 ⇑1 aB) ↥1 bM)) aN) (aq (aV (cT (w2 ↥4 (wC (.str "word")) bM)) (aw (dH "str" ↥1)) aN) (aq (aV (cT (w2 ↥4 (wC (.str "number")) bM)) (aw (dH "int" ↥1)) aN) (aq (aV (cT (w2 ↥4 (wC (.str "as")) bM)) (aw (eL (w2 (w2 ↥0 ⇑1 aB) (eC 2) (fo ai)) (w2 (w2 (eC 2) (w2 ↥0 ⇑1 aB) oW) ↥1 bM))) aN) (aq (aV (cT (w2 ↥4 (wC (.str "bind")) bM)) (aw (qA (w2 (w2 ↥0 ⇑1 aB) (eC 3) (fo ah)) (w2 (w2 (eC 3) (w2 ↥0 ⇑1 aB) oW) ↥1 bM))) aN) (aw (wC (.bool ah)))))))))
abbrev vm:aF:=(aq (aV (cT (w2 (wB bK (ao ↥0 ak)) (wB bK (ao ↥1 ak)) ib)) (aw (wC .none)) aN) (aq (j7 3 (lS ↥2)) (aq (j7 4 kD) (aq (dw (qZ ↥0 ↥1) (lX 2 (iu (cj 5) (iu (cj 6) jM))) (aq (aV (fM (cT (aJ iX (ao ↥5 (ao ↥6 (ao (eC 3) (ao (eC 4) ak))))))) (aw (wC .none)) aN) (aV (cT (w2 (w2 ↥5 ⇑0 aB) (wC (.str "bind")) bM)) (aq (sq 4 (w2 ↥5 ⇑1 aB) ↥6) (sq 3 (w2 ↥5 ⇑1 aB) ↥6)) aN))) (aw (wB gy (ao (bU (yz (eC 3))) ak)))))))
abbrev CV:aF:=(aq (aV (cT (dH "str" ↥0)) (aw ↥0) aN) (aw (eS (cT (w2 ↥0 ⇑99 bM)) ⇑0 (w2 ↥0 ⇑1 (fF λi j=>.int (i+j))))))
abbrev ED:aF:=(aq (aV (cT (w2 (w2 ↥0 ⇑0 aB) (wC (.str "is")) bM)) (aw (w2 ↥0 ⇑1 aB)) aN) (aq (aA 2 (w2 (eC 1) (w2 ↥0 ⇑1 aB) oW)) (aw (eS (cT (w2 (w2 ↥0 ⇑0 aB) (wC (.str "next")) bM)) (aJ sZ (ao ↥2 ak)) ↥2))))
abbrev BZ:aF:=(aq (j7 2 (lS ↥1)) (aw (wB gy (ao (bU (dO [af,ae 2] (gi ↥0) (cj 0) dG (aJ m6 (ao ↥0 (ao (eC 1) ak))))) ak))))
abbrev ye:aF:=(aw (eL (aJ w6 (ao ↥0 ak)) (qg mz mz ⇑0 ↥0 ↥1)))
abbrev ID:aF:=(aq (aA 3 (w2 (w2 (w2 ↥1 ⇑0 aB) ↥2 aB) ⇑0 aB)) (aq (aA 4 (w2 (w2 (w2 ↥1 ⇑0 aB) ↥2 aB) ⇑1 aB)) (aq (aA 5 (w2 (w2 (w2 ↥0 ↥2 aB) ↥3 aB) ⇑1 aB)) (aw (eS (cT (w2 ↥4 (wB bK (ao ↥5 ak)) mG)) (w2 ↥5 ↥4 aB) (wC .none))))))
abbrev Zg:List Str:=["take","read","look"]
abbrev AX:aF:=(aq (aA 3 (aJ kg (ao ↥0 (ao ↥1 (ao ↥2 ak))))) (aq (aV (rM (cT (w2 ↥3 (wC .none) (bc ai))) (cT (nW Zg (w2 ↥3 ⇑0 aB)))) (aw (wC .none)) aN) (aq (aA 4 (w2 (w2 (w2 ↥1 ⇑0 aB) ↥2 aB) ⇑2 aB)) (aq (qu 5) (aq (dw (vL (w2 ↥1 ⇑1 aB)) (lX 2 (iu (cj 6) (iu (cj 7) jM))) (aV (cT (qR 5 (w2 ↥7 ⇑0 aB))) (aq (aV (cT (w2 (aJ pX (ao (w2 ↥3 ⇑1 aB) (ao (w2 ↥7 ⇑0 aB) (ao ↥4 ak)))) (wC .none) (bc ah))) (aw ↥6) aN) (EB 5 (w2 ↥7 ⇑0 aB) (wC (.bool ah)))) aN)) (aw (wC .none)))))))
abbrev GP:aF:=(aq (aA 3 (aJ kg (ao ↥0 (ao ↥1 (ao ↥2 ak))))) (aq (aV (cT (w2 ↥3 (wC .none) (bc ai))) (aw (wC (.bool ai))) aN) (aw (qA (w2 (w2 ↥3 ⇑0 aB) (av (ao (wC (.str "take")) (ao (wC (.str "read")) ak))) (lC ah)) (w2 (aJ rq (ao ↥0 (ao ↥1 (ao ↥2 ak)))) (wC .none) (bc ah))))))
abbrev BC:aF:=(hX (dO [af,ae 0,ae 1] (oS (wB bK (ao ↥0 ak))) (cj 0) (cT (aJ rS (ao ↥1 (ao ↥2 (ao ↥0 ak))))) ↥0))
abbrev zJ:aF:=(aw (av (ao (w2 ↥0 ⇑0 aB) (ao (w2 (w2 ↥0 ⇑1 aB) ⇑1 (fF λi j=>.int (i+j))) (ao ↥1 ak)))))
abbrev GF:aF:=(aq (aA 3 (w2 (w2 ↥0 ↥1 aB) ⇑0 aB)) (aw (av (ao ↥1 (ao ⇑0 (ao (wB gy (ao (bU (dO [af,ae 3] (gi ↥2) (cj 0) (cT (w2 (w2 ↥0 ⇑0 aB) ↥1 (lC ai))) ↥0)) ak)) ak))))))
abbrev FW:aF:=(aw (w2 (w2 (gN ↥0 gQ (gW ↥1)) (av (ao ↥2 ak)) jE) (gN ↥0 (gW (w2 ↥1 ⇑1 (fF λi j=>.int (i+j)))) gQ) jE))
abbrev xg:aF:=(aq (aA 4 (w2 (w2 ↥1 ⇑0 aB) ↥2 aB)) (aq (aA 5 (w2 ↥1 ⇑1 aB)) (aq (aA 6 (aJ rq (ao ↥0 (ao ↥1 (ao ↥2 ak))))) (aq (aV (cT (w2 ↥6 (wC .none) (bc ai))) (aq (aV (cT (w2 (w2 ↥3 ⇑0 aB) (wC (.str "look")) ib)) (aw (wC .none)) aN) (aw (av (ao (aJ jh (ao (w2 ↥1 ⇑0 aB) (ao ↥2 (ao (aJ px (ao (w2 ↥0 ↥2 aB) (ao (w2 ↥3 ⇑2 aB) (ao (w2 ↥4 ⇑2 aB) ak)))) ak)))) (ao ↥5 ak))))) aN) (aq (aA 7 (aJ pX (ao (w2 ↥3 ⇑1 aB) (ao (w2 (w2 ↥5 ↥6 aB) ⇑0 aB) (ao (w2 ↥4 ⇑2 aB) ak))))) (aq (aV (cT (w2 (w2 ↥3 ⇑0 aB) (wC (.str "take")) bM)) (aA 5 (w2 (gN ↥5 gQ (gW ↥6)) (gN ↥5 (gW (w2 ↥6 ⇑1 (fF λi j=>.int (i+j)))) gQ) jE)) aN) (aw (av (ao (aJ jh (ao (w2 ↥1 ⇑0 aB) (ao ↥2 (ao (aJ mP (ao ↥4 (ao ↥7 ak))) ak)))) (ao ↥5 ak))))))))))
abbrev DB:aF:=(aq (j7 2 (lS ↥1)) (aw (w2 (aJ m6 (ao (w2 ↥0 ⇑1 aB) (ao (eC 2) ak))) (aJ m6 (ao (w2 ↥0 ⇑2 aB) (ao (eC 2) ak))) bM)))
abbrev FI:aF:=(aq (aA 3 (aJ kg (ao ↥0 (ao ↥1 (ao ↥2 ak))))) (aq (aV (cT (w2 ↥3 (wC .none) (bc ai))) (aw (wC .none)) aN) (aq (aV (cT (ig Zg (w2 ↥3 ⇑0 aB))) (aw (aJ n6 (ao ↥0 (ao ↥1 (ao ↥2 (ao ↥3 ak)))))) aN) (aq (aA 4 (w2 (w2 ↥1 ⇑0 aB) ↥2 aB)) (aq (aA 5 (w2 ↥1 ⇑1 aB)) (aq (aA 6 (w2 ↥4 ⇑2 aB)) (aq (aV (cT (w2 (w2 ↥3 ⇑0 aB) (wC (.str "lay")) bM)) (aq (aA 5 (w2 ↥5 (av (ao (av (ao (aJ sW (ao (w2 ↥3 ⇑1 aB) (ao ↥6 ak))) (ao (w2 ↥3 ⇑2 aB) ak))) ak)) jE)) (aA 4 (aJ mP (ao ↥4 (ao ↥6 ak))))) (aV (gF (cT (w2 (w2 ↥3 ⇑0 aB) (wC (.str "same")) bM)) (cT (aJ tJ (ao ↥3 (ao ↥6 ak))))) (aA 4 (aJ mP (ao ↥4 (ao ↥6 ak)))) (aA 4 (aJ px (ao (w2 ↥0 ↥2 aB) (ao (w2 ↥3 (jg ⇑1) aB) (ao ↥6 ak))))))) (aw (av (ao (aJ jh (ao (w2 ↥1 ⇑0 aB) (ao ↥2 (ao ↥4 ak)))) (ao ↥5 ak)))))))))))
abbrev BH:aF:=(aw (eS (cT (w2 (w2 ↥0 ⇑1 aB) (wC .none) (bc ai))) ↥0 (av (ao (w2 ↥0 ⇑0 aB) (ao (w2 (w2 ↥0 ⇑1 aB) ⇑1 (fF λi j=>.int (i-j))) ak)))))
abbrev GO:aF:=(aw (av (ao (w2 ↥0 ⇑0 aB) (ao (wB gy (ao (bU (dO [af] (gi (w2 ↥0 ⇑1 aB)) (cj 0) (cT (w2 (w2 ↥0 ⇑1 aB) ⇑1 ib)) (aJ xQ (ao ↥0 ak)))) ak)) ak))))
abbrev zp:aF:=(aq (aA 3 (wB bK (ao ↥0 ak))) (aq (aV (fM (cT (aJ xx (ao ↥2 (ao ↥3 ak))))) (aw (wC .none)) aN) (aw (eS (cT (w2 ↥2 ↥3 bM)) (aJ tW (ao ↥1 ak)) (aJ uC (ao ↥0 (ao ↥1 (ao ↥2 ak))))))))
abbrev qF:aF:=(aq (aV (cT (w2 (w2 ↥0 ⇑0 aB) (av (ao (wC (.str "all")) (ao (wC (.str "some")) ak))) (lC ai))) (aw (w2 ↥0 ⇑1 aB)) aN) (aw (eS (cT (w2 (w2 ↥0 ⇑0 aB) (wC (.str "not")) bM)) (av (ao (w2 ↥0 ⇑1 aB) ak)) (av ak))))
abbrev zC:aF:=(aw (wB bK (ao (bU (dO [af,ae 0] (gi ↥1) (cj 0) (cT (w2 (aJ pX (ao ↥1 (ao (w2 ↥0 ⇑0 aB) (ao (av ak) ak)))) (wC .none) (bc ah))) ↥0)) ak)))
abbrev wN(Sf:aL):aF:=(aq (aA 3 (w2 ↥2 ⇑0 aB)) (aq (aV (cT (w2 ↥3 (wC (.str "notes")) (gE λd e=>ae (B4 d e)))) (aw (w2 (aJ xX (ao (w2 ↥2 ⇑1 aB) (ao (w2 ↥1 ⇑1 aB) ak))) (w2 ↥2 ⇑2 aB) vZ)) aN) (aq (aV (cT (w2 ↥3 (wC (.str "at")) (gE λd e=>ae (B4 d e)))) (aw (w2 (gN (w2 (w2 ↥1 ⇑0 aB) (w2 ↥2 ⇑1 aB) aB) gQ (gW ⇑2)) (gN ↥2 (gW ⇑2) gQ) (gE λd e=>ae (B4 d e)))) aN) (aq (aV (cT (w2 ↥3 (wC (.str "ended")) (gE λd e=>ae (B4 d e)))) (aw (w2 (aJ kg (ao ↥0 (ao ↥1 (ao (w2 ↥2 ⇑1 aB) ak)))) (wC .none) (bc ai))) aN) (aq (aA 4 (bU (dO [af,ae 0,ae 1] (gi (aJ qK (ao ↥2 ak))) (cj 0) dG (aJ Sf (ao ↥1 (ao ↥2 (ao ↥0 ak))))))) (aq (aV (cT (w2 ↥3 (wC (.str "not")) (gE λd e=>ae (B4 d e)))) (aw (kE (w2 ↥4 ⇑0 aB))) aN) (aw (eS (cT (w2 ↥3 (wC (.str "all")) (gE λd e=>ae (B4 d e)))) (wB ji (ao ↥4 ak)) (wB i6 (ao ↥4 ak))))))))))
abbrev N7:aF:=(hX (md (rh (jb bq) (ao ↥0 (ao ↥1 ak)))))
abbrev TV:aF:=(aq (fR 2 (bL ak)) (aq (aA 3 (w2 (eu 0) ↥1 nv)) (aq (iG (cT (w2 ↥3 (wC .none) (bc ah))) (aq (fB 2 (w2 ↥3 ⇑1 fI)) (aA 3 (w2 (eu 0) (w2 ↥3 ⇑0 fI) nv)))) (hX (vA (iF 2))))))
abbrev Qw:aF:=(aq (dw (uF ↥1) (cj 3) (aV (cT (aJ (cJ 3) (ao ↥0 (ao ↥3 (ao ↥2 ak))))) (aw ↥3) aN)) (aw (wC .none)))
abbrev S6:aF:=(aq (mD 3 (jb bq) (ao ↥0 (ao ↥1 ak))) (gK 3 (aq (aA 4 (aJ (jX (cJ 3)) (ao ↥0 (ao (eu 3) (ao ↥2 ak))))) (aw (eS (cT (w2 ↥4 (wC .none) (bc ai))) (wC .none) (bU (dQ iP (ao (eu 3) (ao ↥4 ak)))))))))
abbrev zh:aF:=(hX (dO [af,ae 0] (mw (bU (dQ (jN bq) (ao ↥0 (ao ↥1 ak))))) (cj 0) (fM (gb (bU (dQ iW (ao ↥1 (ao ↥0 ak)))))) ↥0))
abbrev M6:aF:=(aq (mD 3 (jb bq) (ao ↥0 (ao ↥1 ak))) (gK 3 (aq (aA 4 (aJ (jX (cJ 3)) (ao ↥0 (ao (eu 3) (ao ↥2 ak))))) (aw (eS (cT (w2 ↥4 (wC .none) (bc ai))) (av (ao (wC (.str "never")) (ao (bU (md (eu 3))) ak))) (av (ao (wC (.str "seen")) (ao (bU (dQ iP (ao (eu 3) (ao ↥4 ak)))) ak))))))))
abbrev IB:aF:=(aq (aA 1 (av (ao (wC (.str "same")) (ao (av (ao (wC (.str "is")) (ao ⇑0 ak))) (ao (av (ao (wC (.str "is")) (ao ⇑0 ak))) (ao ⇑0 ak)))))) (aq (fR 2 (bL ak)) (aq (iG (cT (w2 ↥0 ⇑8 lH)) (aq (fB 2 (av (ao (av ak) (ao (w2 (pI (av (ao ↥1 ak)) ⇑7) (av (ao (av (ao (wC (.str "go")) (ao (w2 (wB rB (ao (iF 2) ak)) ⇑1 (fF λi j=>.int (i+j))) ak))) ak)) jE) ak)))) (aA 0 (w2 ↥0 ⇑8 (fF λi j=>.int (i-j)))))) (aq (fB 2 (av (ao (av ak) (ao (pI (av (ao ↥1 ak)) ↥0) ak)))) (iq 2 (aw (wB rm (ao ↥2 ak))))))))
abbrev DW:aF:=(aq (aA 1 (bU (bL (ao (av ak) (ao (av (ao ⇑7 ak)) (ao (av (ao ⇑2 (ao ⇑3 (ao ⇑4 ak)))) (ao (av (ao ⇑5 (ao ⇑6 ak))) (ao (av (ao ⇑1 (ao ⇑9 (ao ⇑2 ak)))) (ao (av (ao ⇑17 ak)) ak))))))))) (aq (aA 2 (bU (bL (ao (av (ao ⇑10 (ao ⇑10 (ao ⇑20 ak)))) (ao (av (ao ⇑3 (ao ⇑23 (ao ⇑29 ak)))) (ao (av (ao ⇑2 (ao ⇑27 (ao ⇑37 ak)))) (ao (av (ao ⇑11 (ao ⇑13 (ao ⇑14 ak)))) (ao (av (ao ⇑44 (ao ⇑45 ak))) (ao (av (ao ⇑45 (ao ⇑45 ak))) (ao (av (ao ⇑29 (ao ⇑3 (ao ⇑23 ak)))) (ao (av (ao ⇑20 (ao ⇑10 (ao ⇑10 ak)))) ak))))))))))) (aq (aV (cT (w2 (aJ fN (ao ↥0 (ao ⇑3 ak))) ⇑0 lH)) (aw (w2 ↥1 (aJ fN (ao ↥0 (ao ⇑6 ak))) aB)) aN) (aw (w2 ↥2 (aJ fN (ao ↥0 (ao ⇑8 ak))) aB)))))
abbrev DM:aF:=(aw (eL (dH "list" ↥0) (eL (w2 (wB bK (ao ↥0 ak)) ↥1 bM) (w2 (vE (bU (dO [af] (mw ↥0) (cj 0) dG (wB vq (ao ↥0 ak))))) ↥1 bM))))
abbrev AD:aF:=(aq (aA 2 (aJ uq (ao ↥1 ak))) (aq (aA 4 (wB gy (ao (bU (dO [af] (gi ↥2) (cj 0) dG (aJ wG (ao (w2 ↥0 ⇑1 (fF λi j=>.int (i-j))) ak)))) ak))) (aq (aA 5 ⇑1) (aq (dw (gi ↥2) (cj 3) (aA 5 (w2 ↥5 ↥3 (gI CMul λi j=>.int (i*j))))) (aq (aA 6 (av ak)) (aq (aV (gF (cT (w2 ↥5 ⇑100 mG)) (cT (w2 (aJ fN (ao ↥1 (ao ⇑2 ak))) ⇑0 bM))) (aA 6 (av (ao (av (ao (av (ao (wC (.str "a")) (ao ⇑1 ak))) (ao ⇑2 ak))) ak))) aN) (aq (aA 7 (w2 ⇑1 (w2 ⇑2 (wB bK (ao ↥6 ak)) (gI CMul λi j=>.int (i*j))) (fF λi j=>.int (i+j)))) (aq (aA 5 (w2 ↥5 ↥7 (gI CMul λi j=>.int (i*j)))) (aq (aA 8 (av (ao (wB gy (ao (bU (dO [af] (gi ↥2) (cj 0) dG (av (ao ⇑0 (ao ⇑0 (ao (av ak) ak)))))) ak)) (ao ↥6 ak)))) (aq (aA 9 (w2 (bU (bL (ao ⇑0 (ao ⇑1 (ao ⇑2 (ao ⇑1 ak)))))) (aJ fN (ao ↥1 (ao ⇑4 ak))) aB)) (aq (aA 10 (w2 (bU (bL (ao (av (ao (wC (.str "all")) (ao (wB gy (ao (bU (dO [af] (oS (wB bK (ao ↥2 ak))) (cj 0) dG (av (ao (wC (.str "ended")) (ao ↥0 ak))))) ak)) ak))) (ao (av (ao (wC (.str "all")) (ao (av ak) ak))) (ao (av (ao (wC (.str "some")) (ao (av ak) ak))) ak))))) ↥9 aB)) (aq (aA 11 (w2 (bU (bL (ao ⇑0 (ao ⇑1 (ao ⇑2 (ao ⇑3 (ao ⇑1 (ao ⇑3 ak)))))))) (aJ fN (ao ↥1 (ao ⇑6 ak))) aB)) (aq (kI (aJ qv (ao ↥11 (ao ↥4 (ao ↥8 (ao ↥10 ak))))) (lX 2 (iu (cj 12) (iu (cj 13) jM)))) (aq (aV (cT (w2 ↥5 ⇑2000 lH)) (aw (w2 ↥13 (bU (bL (ao (wC (.bool ah)) (ao (wC (.bool ah)) (ao (wC (.bool ai)) ak))))) (gE λd e=>ae (B4 d e)))) aN) (aq (aV (cT (w2 ↥13 (bU (bL ak)) (gE λd e=>ae (!B4 d e)))) (aw (wC (.bool ai))) aN) (aq (aV (cT (w2 ↥11 ⇑0 bM)) (aw (aJ qw (ao ↥12 (ao ↥5 ak)))) aN) (aq (aV (cT (w2 ↥11 ⇑2 bM)) (aw (aJ qw (ao ↥12 (ao ↥7 ak)))) aN) (aq (aV (cT (w2 ↥11 ⇑3 bM)) (aw (w2 (w2 ↥12 ⇑0 aB) (w2 (bU (bL (ao (wC (.str "seen")) (ao (wC (.str "seen")) (ao (wC (.str "never")) ak))))) ↥9 aB) (gE λd e=>ae (B4 d e)))) aN) (aq (aV (cT (w2 ↥9 ⇑2 bM)) (aw (w2 ↥12 (wC .none) (bc ai))) aN) (aw (eL (dH "list" ↥12) (w2 (wB bK (ao ↥12 ak)) (w2 (bU (bL (ao (w2 (wB sV (ao ↥2 ak)) (wB bK (ao ↥2 ak)) (fF λi j=>.int (i-j))) (ao ⇑0 ak)))) ↥9 aB) bM))))))))))))))))))))))
theorem Nc:c7 iX yr ["field","value","having","bound","head"]:=λws n Q h=>by
 obtain⟨f,v,hp,bp,rfl,fok,hv,hh,hb,k⟩:=h;show yr [ae (.w (.d f.d)),ae (.w (.d v)),ae (.w (.dk (bo hp))),ae (.w (.dk (bo bp))),af] n {nx:=λ_ n=>Q (.d .none) n,rt:=Q};cases f with
 |is w=>
  show(match iC w v with|some r=>Q (.d (.bool r)) n|none=>False);rw[rl (show bS w=ah from fok) hv];exact k
 |any=>exact k
 |word=>
  show Q (.d (.bool (gB "str" v))) n;cases v<;>exact k
 |number=>
  show Q (.d (.bool (gB "int" v))) n;cases v<;>first|cases hv|exact k
 |as x=>
  show ia (.d (.bool (bJ (bo hp) (.inr x)).isSome)) (match bJ (bo hp) (.inr x)with|some d=>(match iC d v with|some r=>Q (.d (.bool r)) n|none=>False)|none=>False) (Q (.d (.bool ai)) n);rw[qT];unfold gv at k;cases e:look hp x with
  |none=>
   simp only[e]at k;exact k
  |some w=>
   simp only[e]at k;show(match iC w v with|some r=>Q (.d (.bool r)) n|none=>False);rw[rl (hh _ (mf e)).2 hv];exact k
 |bind x=>
  show ia (.d (.bool (!(bJ (bo bp) (.inr x)).isSome))) (Q (.d (.bool ah)) n) (match bJ (bo bp) (.inr x)with|some d=>(match iC d v with|some r=>Q (.d (.bool r)) n|none=>False)|none=>False);rw[qT];unfold gv at k;cases e:look bp x with
  |none=>
   simp only[e]at k;exact k
  |some w=>
   simp only[e]at k;show(match iC w v with|some r=>Q (.d (.bool r)) n|none=>False);rw[rl (hb _ (mf e)).2 hv];exact k
theorem Ti[Decidable p]{A B:Prop}(h1:p->A)(h2:¬p->B):if decide p=ah then A else B:=by
 by_cases z:p
 ·rw[if_pos (decide_eq_true z)];exact h1 z
 ·rw[if_neg (by rw[decide_eq_false z];exact Ak)];exact h2 z
theorem BI:∀ps:Nm,kO (ps.map ja)=ae (bo ps)
 |[]=>rfl
 |p::r=>by
  show(kO (r.map ja)).map _=_;rw[BI r];rfl
theorem LU(h:x∉l.map (·.1)):put l x v=l++[(x,v)]:=by
 unfold put;rw[if_neg λz=>by
  obtain⟨p,hp,e⟩:=Dl.mp z;exact h (A3.mpr ⟨p,hp,of_decide_eq_true e⟩)]
theorem EJ:∀(r l:Nm),((l++r).map (·.1)).Nodup->mq (bo l) (bo r)=bo (l++r)
 |[],l,_=>by rw[Cc];rfl
 |p::r,l,nd=>by
  have e:l++p::r=(l++[p])++r:=by simp
  show mq (dP (bo l) (.inr p.1) p.2) (bo r)=_;rw[uL,LU,e]
  ·exact EJ r (l++[p]) (by rw[<-e];exact nd)
  ·intro z;rw[Bw,Bg,Gu]at nd;exact nd.2.2 _ z _ Au rfl
theorem vN(e:δ[j]?=ae (ae (.w (.d (cx ps)))))(ok:okN ps)(k:K.nx (δ.set i (ae (.odk (bo ps)))) n):j7 i (lS (aj j)) δ n K:=by
 unfold j7 lS;refine au e ?_;unfold cx;simp only[BI];refine⟨by rw[Ad];have:=ok.1;omega,?_⟩;have:=EJ ps [] (by rw[Cg];exact ok.2.1);rw[Cg]at this;rw[show([]:List (aC×Ab))=bo []from rfl,this];exact k
section
variable{δ:Sl}{n:Int}{K:DEnds}{W V:aF}{Q:DQ}
theorem Qm(k:Q (.d (.bool (!decide (i=j)))) n):ib (.d (.int i)) (.d (.int j)) n Q:=k
theorem Sx(e0:δ[0]?=ae (ae (.w (.d (.tuple xs)))))(e1:δ[1]?=ae (ae (.w (.d (.tuple ys)))))(hT:xs.length≠ys.length->W δ n K)(hF:xs.length=ys.length->V δ n K):
  aV (cT (w2 (wB bK (ao ↥0 ak)) (wB bK (ao ↥1 ak)) ib)) W V δ n K:=by
 unfold aV cT w2 wB ao ak;refine au e0 ?_;show aj 1 δ n _;refine au e1 ?_;dsimp only[bK];refine Qm ?_;refine sD (λh=>hT λz=>?_) λh=>hF ?_
 ·rw[z,decide_eq_true rfl]at h;cases h
 ·by_cases z:(xs.length:Int)=(ys.length:Int)
  ·exact Int.ofNat.inj z
  ·rw[decide_eq_false z]at h;cases h
theorem Ph(e5:δ[5]?=ae (ae (.w (.d g.d))))(e6:δ[6]?=ae (ae (.w (.d v))))(e3:δ[3]?=ae (ae (.odk (bo hp))))(e4:δ[4]?=ae (ae (.odk (bo bp))))(gok:g.ok)(hv:bS v=ah)(hh:∀p∈hp,fh p)(hb:∀p∈bp,fh p)
  (hT:gv g v hp bp=ai->W δ n K) (hF:gv g v hp bp=ah->V δ n K):aV (fM (cT (aJ iX (ao ↥5 (ao ↥6 (ao (eC 3) (ao (eC 4) ak))))))) W V δ n K:=by
 unfold aV fM cT aJ ao ak;refine au e5 ?_;refine au e6 ?_;unfold eC;simp only[e3,e4];refine⟨g,v,hp,bp,rfl,gok,hv,hh,hb,?_⟩;refine sD (λh=>hT ?_) λh=>hF ?_
 ·cases q:gv g v hp bp with|false=>rfl|true=>rw[q]at h;cases h
 ·cases q:gv g v hp bp with|true=>rfl|false=>rw[q]at h;cases h
variable{xs:List Ab}{j:Nat}{a b v:Ab}{r:List Ab}
end
def nh(gs:List Fd)(vs:List Ab)(hp:Nm)(hs:List Str)(r:Ab):Prop:=match wk (gs.zip vs) hp hs with
 |none=>r=.none
 |some h=>r=cx (b9 h)
theorem Lq(h1:∀x,x∈hs↔(look bp x).isSome=ah)(h2:∀x w,look bp x=ae w->look hp x=ae w)(h:gv g v hp bp=ai):nh (g::gs) (v::vs) hp hs .none:=by
 have key:wk ((g,v)::gs.zip vs) hp hs=af:=by
  cases g with
  |is w=>unfold wk;rw[if_neg (by rw[show fq w v=ai from h];exact Ak)]
  |any=>cases h
  |word=>unfold wk;rw[if_neg (by rw[show jB v=ai from h];exact Ak)]
  |number=>unfold wk;rw[if_neg (by rw[show jC v=ai from h];exact Ak)]
  |as x=>
   unfold wk;unfold gv at h;cases q:look hp x with
   |none=>rfl
   |some w=>
    simp only[q]at h;simp only[h,Ck,if_false]
  |bind x=>
   unfold wk;unfold gv at h;cases q:look bp x with
   |none=>simp only[q]at h;cases h
   |some w=>
    simp only[q]at h;rw[if_pos ((h1 x).mpr (by rw[q];rfl)),h2 x w q];simp only[h,Ck,if_false]
 unfold nh;rw[List.zip_cons_cons,key]
theorem JK(ng:∀x,g≠.bind x)(h:gv g v hp bp=ah):wk ((g,v)::l) hp hs=wk l hp hs:=by
 cases g with
 |is w=>rw[wk,if_pos (show fq w v=ah from h)]
 |any=>rw[wk]
 |word=>rw[wk,if_pos (show jB v=ah from h)]
 |number=>rw[wk,if_pos (show jC v=ah from h)]
 |as x=>
  rw[wk];unfold gv at h;cases q:look hp x with
  |none=>simp only[q]at h;cases h
  |some w=>
   simp only[q]at h;simp only[h,if_true]
 |bind x=>exact absurd rfl (ng x)
theorem FO(x):∀hs:List Str,cz (.str x) (hs.map .str)=decide (x∈hs)
 |[]=>by simp[cz]
 |y::r=>by
  show(qX (.str y) (.str x) || cz (.str x) (r.map .str))=_;rw[FO x r];have e:qX (.str y) (.str x)=decide (x=y):=by
   show(y==x)=_;by_cases z:x=y
   ·subst z;rw[decide_eq_true rfl];exact beq_self_eq_true _
   ·rw[decide_eq_false z];exact beq_eq_false_iff_ne.mpr λw=>z w.symm
  rw[e];by_cases z:x=y
  ·subst z;simp
  ·rw[decide_eq_false z,Bool.false_or];by_cases q:x∈r
   ·rw[decide_eq_true q,decide_eq_true (An _ q)]
   ·rw[decide_eq_false q,decide_eq_false (by simp[z,q])]
theorem LA(nd:(hp.map (·.1)).Nodup)(h:p∈hp):look hp p.1=ae p.2:=by
 cases q:look hp p.1 with
 |none=>
  have a:=qS hp p.1;rw[q]at a;have b:(hp.any λq=>decide (q.1=p.1))=ah:=Dl.mpr ⟨p,h,decide_eq_true rfl⟩;rw[b]at a;cases a
 |some v=>
  have hm:=mf q;obtain⟨i,hi⟩:=B7.mp h;obtain⟨j,hj⟩:=B7.mp hm;have a1:(hp.map (·.1))[i]?=ae p.1:=by rw[Aq,hi];rfl
  have a2:(hp.map (·.1))[j]?=ae p.1:=by rw[Aq,hj];rfl
  obtain⟨b1,b2⟩:=Al.mp a1;obtain⟨c1,c2⟩:=Al.mp a2;have:=(F3 nd).mp (b2.trans c2.symm);rw[this,hj]at hi;have:=A4 hi;rw[<-this]
theorem OQ(k:K.nx (δ.set i (ae (.odk (bo [])))) n):j7 i kD δ n K:=k
theorem NF(e0:δ[0]?=ae (ae (.w (.d (.tuple xs)))))(e1:δ[1]?=ae (ae (.w (.d (.tuple ys)))))(hl:xs.length=ys.length)(k:dE g W K (dR xs ys) δ n):dw (qZ ↥0 ↥1) g W δ n K:=by
 unfold dw qZ;exact au e0 (au e1 ⟨hl,k⟩)
theorem Tu:c7 pX vm ["pattern","row","names","having","bound","field","value"]:=λws n Q h=>by
 obtain⟨fs,row,nm,rfl,okp,okr,okn,k0⟩:=h;have k:∀r,mQ fs row nm r->Q (.d r) n:=λr hr=>by rw[UY hr];exact k0
 show vm [ae (.w (.d (cG fs))),ae (.w (.d (.tuple row))),ae (.w (.d (cx nm))),af,af,af,af] n {nx:=λ_ n=>Q (.d .none) n,rt:=Q};unfold vm;refine aE (Sx (xs:=fs.map Fd.d) (ys:=row) rfl rfl (λne=>?_) λel=>?_)
 ·show Q (.d .none) n;refine k .none ?_;unfold mQ;rw[Ad]at ne;rw[if_neg ne]
 ·rw[Ad]at el;dsimp only[aN];refine aE (vN rfl okn ?_);dsimp only[Be];refine aE (OQ ?_);dsimp only[Be];refine aE (NF (xs:=fs.map Fd.d) (ys:=row) rfl rfl (by rw[Ad];exact el) ?_);refine xM (λds δ m=>m=n/\∃(gs:List Fd)(vs:List Ab)(hp bp:Nm)(hs:List Str)(y z:Option SV),ds=dR (gs.map Fd.d) vs/\gs.length=vs.length/\δ=[ae (.w (.d (cG fs))),ae (.w (.d (.tuple row))),ae (.w (.d (cx nm))),ae (.odk (bo hp)),ae (.odk (bo bp)),y,z] /\
   (∀g∈gs,g.ok)/\(∀d∈vs,bS d=ah)/\(hp.map (·.1)).Nodup/\(∀p∈hp,fh p)/\(∀p∈bp,fh p)/\hp.length+gs.length<=48/\bp.length+gs.length<=48/\(∀x,x∈hs↔(look bp x).isSome=ah)/\(∀x w,look bp x=ae w->look hp x=ae w)/\∀r,nh gs vs hp hs r->Q (.d r) n) ?_ ?_ _ _ _ ?_
  ·rintro δ m ⟨rfl,gs,vs,hp,bp,hs,y,z,e,hl,rfl,gok,vok,nd,hok,bok,l1,l2,i1,i2,kq⟩
   have:gs=[]:=by
    cases gs with
    |nil=>rfl
    |cons g gs=>cases vs with|nil=>cases hl|cons v vs=>cases e
   subst this;rw[List.length_nil]at l1;show ∃ps':Nm,bo hp=bo ps'/\_;refine⟨hp,rfl,by omega,nd,λp hp'=>⟨Bb (hok p hp').1.1 ∎,Lk (hok p hp').2⟩,λps' p1 r1=>?_⟩;exact kq (.tuple (ps'.map ja)) (by show PyData.tuple (ps'.map ja)=cx (b9 hp);rw[M4 nd p1 r1];rfl)
  ·rintro d r δ m N ⟨rfl,gs,vs,hp,bp,hs,y,z,e,hl,rfl,gok,vok,nd,hok,bok,l1,l2,i1,i2,kq⟩ hN
   cases gs with
   |nil=>cases e
   |cons g gs=>
    cases vs with
    |nil=>cases hl
    |cons v vs=>
     have e1:d=.tuple [g.d,v]:=by have:=congrArg (λl=>l.head?) e;simpa[dR]using this
     have e2:r=dR (gs.map Fd.d) vs:=by have:=congrArg List.tail e;simpa[dR]using this
     subst e1 e2;rw[Bf]at l1 l2;rw[Bf,Bf]at hl;have gk:=gok g Au;have vk:=vok v Au;refine⟨rfl,?_⟩;dsimp only[iu,cj,jM,Be];refine aE (Ph rfl rfl rfl rfl gk vk hok bok (λff=>?_) λff=>?_)
     ·exact kq .none (Lq i1 i2 ff)
     ·dsimp only[aN];have go:(∀x,g≠.bind x)->N [ae (.w (.d (cG fs))),ae (.w (.d (.tuple row))),ae (.w (.d (cx nm))),ae (.odk (bo hp)),ae (.odk (bo bp)),ae (.w (.d g.d)),ae (.w (.d v))] m:=λng=>by
       refine hN _ _ ⟨rfl,gs,vs,hp,bp,hs,_,_,rfl,by omega,rfl,λg hg=>gok g (An _ hg),λd hd=>vok d (An _ hd),nd,hok,bok,by omega,by omega,i1,i2,λr hr=>kq r ?_⟩;unfold nh at hr ⊢;rw[List.zip_cons_cons,JK ng ff];exact hr
      cases g with
      |is w=>exact go λx z=>nomatch z
      |any=>exact go λx z=>nomatch z
      |word=>exact go λx z=>nomatch z
      |number=>exact go λx z=>nomatch z
      |as x=>exact go λx z=>nomatch z
      |bind x=>
       refine yu (a:=.str "bind") (r:=[.str x]) rfl QY ?_;show(bo bp).length < 1000/\(bo hp).length < 1000/\N [ae (.w (.d (cG fs))),ae (.w (.d (.tuple row))),ae (.w (.d (cx nm))),ae (.odk (dP (bo hp) (.inr x) v)),ae (.odk (dP (bo bp) (.inr x) v)),ae (.w (.d (Fd.d (.bind x)))),ae (.w (.d v))] m;rw[uL,uL];refine⟨by unfold bo;rw[Ad];omega,by unfold bo;rw[Ad];omega,?_⟩;have p1:=t5 hp x v;have p2:=t5 bp x v;refine hN _ _ ⟨rfl,gs,vs,put hp x v,put bp x v,if x∈hs then hs else hs++[x],_,_,rfl,by omega,rfl,λg hg=>gok g (An _ hg),λd hd=>vok d (An _ hd),HE nd,qU hok gk vk,qU bok gk vk,by omega,by omega,λy=>?_,λy w hw=>?_,λr hr=>kq r ?_⟩
       ·by_cases q:y=x
        ·subst q;rw[HX];refine⟨λ_=>rfl,λ_=>?_⟩
         split
         ·assumption
         ·exact Bt _ (Bn.mpr rfl)
        ·rw[CY q,<-i1]
         split
         ·exact Iff.rfl
         ·simp[q]
       ·by_cases q:y=x
        ·subst q;rw[HX]at hw ⊢;exact hw
        ·rw[CY q]at hw ⊢;exact i2 y w hw
       ·unfold nh at hr ⊢;rw[List.zip_cons_cons,wk];by_cases q:x∈hs
        ·rw[if_pos q]at hr ⊢;cases lb:look bp x with
         |none=>rw[i1,lb]at q;cases q
         |some w=>
          have lh:=i2 x w lb;unfold gv at ff;simp only[lb]at ff;have wv:w=v:=RK (bok _ (mf lb)).2 vk ff;subst wv;rw[LG nd lh]at hr;simp only[lh,ff,if_true];exact hr
        ·rw[if_neg q]at hr ⊢;exact hr
  ·refine⟨rfl,fs,row,nm,[],[],af,af,rfl,el,rfl,okp.2.2,okr.2,okn.2.1,okn.2.2,λ_ z=>absurd z Bh,by have:=okp.2.1;have:=okn.1;omega,by have:=okp.2.1;simp;omega,λx=>⟨λz=>absurd z Bh,λz=>by cases z⟩,λx w z=>(nomatch z),λr hr=>k r ?_⟩;unfold mQ;rw[if_pos el];exact hr
theorem tq(h:fO fs):∀k∈fu fs,mL k:=λk hk=>by
 obtain⟨f,hf,e⟩:=Gh.mp hk;have:=h.2 f hf;cases f<;>cases e;exact this
theorem vd(h:fO fs):(fu fs).length<=4:=Bb (List.length_filterMap_le _ _) h.1
theorem AV(hw:∀Q:DQ,Q (.d (.str s)) n->w δ n Q)(e:cz (.str s) (hs.map .str)=b)(q:Q b n):cT (ig hs w) δ n Q:=hw _ (Bj rfl (by show Q (cz (.str s) (hs.map .str)) n;rw[e];exact q))
theorem Mr{a:Ac}(h:fO a.fs):(∀k∈a.bs,mL k)/\a.bs.length<=4:=by
 cases a with
 |take fs=>exact⟨tq h,vd h⟩
 |read fs=>exact⟨tq h,vd h⟩
 |look fs b=>exact⟨tq h,vd h⟩
 |lay fs b=>exact⟨λk hk=>by simp[Ac.bs]at hk,by simp[Ac.bs]⟩
 |same f g b=>exact⟨λk hk=>by simp[Ac.bs]at hk,by simp[Ac.bs]⟩
 |go b=>exact⟨λk hk=>by simp[Ac.bs]at hk,by simp[Ac.bs]⟩
theorem zt:∀{ys ks:List Str},ys.Nodup->(∀k∈ys,k∈ks)->ys.length<=ks.length
 |[],_,_,_=>Az _
 |y::ys,ks,h,hs=>by
  obtain⟨h1,h2⟩:=Df.mp h;have hm:=hs y Au;have:=zt (ks:=ks.erase y) h2 λk hk=>(List.mem_erase_of_ne (λ(e:k=y)=>h1 (e▸hk))).mpr (hs k (An _ hk));rw[List.length_erase_of_mem hm]at this;have:=List.length_pos_of_mem hm;rw[Bf];omega
section
variable{δ:Sl}{n:Int}{K:DEnds}{i:Nat}{s a b c:Str}{r:List Ab}{k:Bool}{Q:Bool->Int->Prop}
theorem wM(e:δ[i]?=ae (ae (.w (.d (.tuple (.str s::r))))))(h:cz (.str s) [.str a,.str b]=k)(q:Q k n):cT (w2 (w2 (aj i) (wC (.int 0)) aB) (av (ao (wC (.str a)) (ao (wC (.str b)) ak))) (lC ai)) δ n Q:=by
 refine ar (dv e ?_);show 2<=1000/\gA (.str s)=ah/\_/\Q (cz (.str s) [.str a,.str b]) n;exact⟨by decide,rfl,rfl,by rw[h];exact q⟩
theorem AY(ha:∀Q:Bool->Int->Prop,Q ai n->A δ n Q)(q:Q ai n):gF A B δ n Q:=ha _ (by show if ai=ah then _ else _;rw[if_neg Ak];exact q)
end
theorem iA(k:Q (.d (.int (i+j))) n):fF (λi j=>.int (i+j)) (.d (.int i)) (.d (.int j)) n Q:=k
theorem Mo(as:List Ac)(h:∀a∈as,kz a):(as.flatMap Ac.bs).length<=4*as.length:=by
 induction as with
 |nil=>exact Az _
 |cons a r ih=>
  rw[List.flatMap_cons,A2,Bf];have:=(Mr (h a Au).1).2;have:=ih λb hb=>h b (An _ hb);omega
theorem Ku(ob:qM b)(p):(kn b.1 b.2 p).length<=36:=by
 unfold kn;rw[A2];have:=Mo (b.2.take p) λa ha=>ob.2.2.2.1 a (List.mem_of_mem_take ha);have:=List.length_take_le p b.2;have:=ob.1;have:=ob.2.2.1;have:=List.length_take_le' p b.2;omega
theorem kW(hu:∀Q:Bool->Int->Prop,Q b n->u δ n Q)(k:if b=ah then v δ n Q else w δ n Q):eS u v w δ n Q:=hu _ k
theorem jT{α:Type}{rest:Sl}(f g)(p):∀(xs:List α)(acc:List Ab)(x:Option SV)(n:Int),(∀a∈xs,∀(n:Int)(Q':Bool->Int->Prop),Q' (p a) n->c (ae (.w (.d (f a)))::rest) n Q')->(∀a∈xs,∀(n:Int)(Q':DQ),Q' (.d (g a)) n->w (ae (.w (.d (f a)))::rest) n Q')->Q (acc++(xs.filter p).map g) n->eY (cj 0) c w Q (xs.map f) acc (x::rest) n
 |[],acc,x,n,_,_,q=>by rw[List.filter_nil,List.map_nil,Cc]at q;exact q
 |a::r,acc,x,n,hp,h,q=>by
  simp only[Bg,eY,cj,List.set_cons_zero];refine hp a Au n _ ?_;cases e:p a with
  |true=>
   simp only[if_true];refine h a Au n _ (jT f g p r (acc++[g a]) _ n (λb hb=>hp b (An _ hb)) (λb hb=>h b (An _ hb)) ?_);rw[List.filter_cons,if_pos e,Bg]at q;rw[Bk];exact q
  |false=>
   simp only[Ck,if_false];refine jT f g p r acc _ n (λb hb=>hp b (An _ hb)) (λb hb=>h b (An _ hb)) ?_;rw[List.filter_cons,if_neg (by rw[e];exact Ak)]at q;exact q
structure HandAt(ps:Pg)(hs:List Hn)(h:Nat)(P:List Bl)(xb xp:Nat)(nm:Nm)(w:List Str)(as:List Ac):Prop where
 prog:ps[h]?=ae P
 hand:hs[h]?=ae (xb,xp,nm)
 blk:P[xb]?=ae (w,as)
 hn:okHn (w,as) (xb,xp,nm)
theorem mJ(ok:okHs ps hs)(hh:h < ps.length):∃P xb xp nm w as,HandAt ps hs h P xb xp nm w as:=by
 have hP:ps[h]?=ae ps[h]:=Ag hh;obtain⟨⟨xb,xp,xn⟩,⟨w,as⟩,e1,e2,e3⟩:=ok.2 h _ hP;exact⟨_,xb,xp,xn,w,as,hP,e1,e2,e3⟩
section
variable{ps:Pg}{hs:List Hn}{h:Nat}{P:List Bl}{xb xp:Nat}{nm:Nm}{w:List Str}{as:List Ac}
theorem HandAt.act(H:HandAt ps hs h P xb xp nm w as):aU ps hs h=as[xp]?:=by
 unfold aU;rw[H.prog,H.hand];show(P[xb]?.bind λb=>b.2[xp]?)=_;rw[H.blk];rfl
theorem HandAt.nms(H:HandAt ps hs h P xb xp nm w as):okN nm:=H.hn.n
theorem HandAt.nmq(H:HandAt ps hs h P xb xp nm w as):wA hs h=nm:=by unfold wA;rw[H.hand];rfl
theorem HandAt.ok(H:HandAt ps hs h P xb xp nm w as)(ok:cV ps)(e:aU ps hs h=ae a):kz a:=by
 rw[H.act]at e;have hP:=(ok.2 P (A1 H.prog)).2.2 (w,as) (A1 H.blk);exact hP.1.2.2.2.1 a (A1 e)
theorem HandAt.hD(H:HandAt ps hs h P xb xp nm w as):(hs.map bQ)[h]?=ae (.tuple [.int xb,.int xp,cx nm]):=by rw[Aq,H.hand];rfl
theorem HandAt.pD(H:HandAt ps hs h P xb xp nm w as):(ps.map h9)[h]?=ae (.tuple (P.map fE)):=by rw[Aq,H.prog];rfl
theorem HandAt.bD(H:HandAt ps hs h P xb xp nm w as):(P.map fE)[xb]?=ae (.tuple [nE w,.tuple (as.map Ac.d)]):=by rw[Aq,H.blk];rfl
end
theorem So{i j xp:Nat}{as:List Ac}(e4:δ[j]?=ae (ae (.w (.d (.int xp)))))(e5:δ[i]?=ae (ae (.w (.d (.tuple (as.map Ac.d))))))(k:Q (.d (m7 as[xp]?)) n):eS (cT (w2 (aj j) (wB bK (ao (aj i) ak)) mG)) (w2 (aj i) (aj j) aB) (wC .none) δ n Q:=by
 refine kW (b:=decide ((xp:Int) < ((as.map Ac.d).length:Nat))) (λQ q=>aT (λQ q=>ar (au e4 (b6 (au e5 (lg q))))) q) ?_;rw[Ad];by_cases z:(xp:Int) < (as.length:Nat)
 ·rw[if_pos (decide_eq_true z)];have zl:xp < as.length:=by omega
  have ha:(as.map Ac.d)[xp]?=ae (Ac.d as[xp]):=by rw[Aq,Ag zl];rfl
  rw[Ag zl]at k;exact ar (au e5 (au e4 (cM ha k)))
 ·rw[if_neg (by simpa using z)];rw[Cb ⋯]at k;exact aH k
theorem Ll:c7 kg ID ["programs","stand","hand","block","place","acts"]:=λws n Q h=>by
 obtain⟨ps,hs,ns,h,rfl,hok,hh,k⟩:=h;obtain⟨P,xb,xp,nm,w,as,H⟩:=mJ hok hh;rw[H.act]at k;show ID [ae (.w (.d (aZ ps))),ae (.w (.d (bg hs ns))),ae (.w (.d (.int h))),af,af,af] n _;refine aE (bE (x:=.int xb) (λQ q=>ar (ar (ar (au rfl (aH (eB (au rfl (cM H.hD (aH (eB q)))))))))) ?_);dsimp only[Be];refine aE (bE (x:=.int xp) (λQ q=>ar (ar (ar (au rfl (aH (eB (au rfl (cM H.hD (aH (kh q)))))))))) ?_);dsimp only[Be];refine aE (bE (x:=.tuple (as.map Ac.d)) (λQ q=>ar (ar (ar (au rfl (au rfl (cM H.pD (au rfl (cM H.bD (aH (kh q)))))))))) ?_);dsimp only[Be];exact bG (So rfl rfl k)
theorem BY:∀{row:List Ab},(∀d∈row,bS d=ah)->∃k:List aC,row=k.map DL.vD
 |[],_=>⟨[],rfl⟩
 |d::r,h=>by
  obtain⟨k,rfl⟩:=BY λe he=>h e (An _ he);have hd:=h d Au;cases d with
  |int i=>exact⟨.inl i::k,rfl⟩
  |str x=>exact⟨.inr x::k,rfl⟩
  |_=>cases hd
theorem xI(h:f.pt=ah):(Fe.fd f).d=f.d:=by cases f<;>first|rfl|cases h
theorem oU(ok:fO fs)(h:gq fs):gZ fs=cG (fs.map Fe.fd)/\lQ (fs.map Fe.fd):=by
 refine⟨?_,by rw[Ad];exact h.1,by rw[Ad];exact ok.1,λg hg=>?_⟩
 ·unfold gZ cG;rw[Cj]
  congr 1
  exact Dy λf hf=>(xI (h.2 f hf)).symm
 ·obtain⟨f,hf,rfl⟩:=A3.mp hg;have:=ok.2 f hf;cases f<;>first|exact this|trivial
theorem zA{a:Ac}(h:a.pf=af):a.wt=ai/\∃s r,a.d=.tuple (.str s::r)/\cz (.str s) [.str "take",.str "read",.str "look"]=ai/\cz (.str s) [.str "take",.str "read"]=ai:=by
 cases a with
 |lay fs age=>exact⟨rfl,"lay",_,rfl,by decide +kernel,by decide +kernel⟩
 |same f g b=>exact⟨rfl,"same",_,rfl,by decide +kernel,by decide +kernel⟩
 |go b=>exact⟨rfl,"go",_,rfl,by decide +kernel,by decide +kernel⟩
 |take fs=>cases h
 |read fs=>cases h
 |look fs b=>cases h
theorem xC(h:a.pf=ae fs)(ok:kz a):lQ fs/\∃s r,a.d=.tuple (.str s::cG fs::r)/\cz (.str s) [.str "take",.str "read",.str "look"]=ah/\cz (.str s) [.str "take",.str "read"]=a.wt:=by
 cases a with
 |lay fs age=>cases h
 |same f g b=>cases h
 |go b=>cases h
 |take gs=>
  cases h;obtain⟨e,o⟩:=oU (fs:=gs) ok.1 ok.2;exact⟨o,"take",[],by rw[<-e];rfl,by decide +kernel,show cz (.str "take") [.str "take",.str "read"]=ah by decide +kernel⟩
 |read gs=>
  cases h;obtain⟨e,o⟩:=oU (fs:=gs) ok.1 ok.2;exact⟨o,"read",[],by rw[<-e];rfl,by decide +kernel,show cz (.str "read") [.str "take",.str "read"]=ah by decide +kernel⟩
 |look gs b=>
  cases h;obtain⟨e,o⟩:=oU (fs:=gs) ok.1 ok.2;exact⟨o,"look",[.int b],by rw[<-e];rfl,by decide +kernel,show cz (.str "look") [.str "take",.str "read"]=ai by decide +kernel⟩
theorem IG(fs)(row)(nm):eZ (d8 fs row nm)=!cn fs row nm:=by
 unfold d8;cases cn fs row nm<;>rfl
theorem Ik:bO fs nm (q::r)=if cn fs q.1 nm=ah then ae 0 else(bO fs nm r).map (·+1):=by
 unfold bO;rw[List.findIdx?_cons]
theorem Rm(h:gD (f7 m k d) k'=ah):k'=k\/gD m k'=ah:=by
 unfold f7 at h
 split at h
 ·unfold gD at h ⊢;rw[List.any_map,Dl]at h;obtain⟨p,hp,e⟩:=h;refine .inr (Dl.mpr ⟨p,hp,?_⟩);have e':=of_decide_eq_true e;dsimp only at e';by_cases z:p.1=k
  ·rw[if_pos z]at e';exact decide_eq_true e'
  ·rw[if_neg z]at e';exact decide_eq_true e'
 ·unfold gD at h ⊢;rw[List.any_append,Bool.or_eq_true]at h;rcases h with h|h
  ·exact .inr h
  ·simp at h;exact .inl h.symm
theorem Qu:(f7 m k d).length<=m.length+1:=by
 unfold f7
 split
 ·rw[Ad];omega
 ·rw[A2];exact Am _
section
variable{δ:Sl}{n:Int}{Q:DQ}{K:DEnds}{W V:aF}{i:Nat}
theorem gh{neg:Bool}(k:Q (.d (.bool (if neg then !eZ a else eZ a))) n):bc neg (.d a) (.d .none) n Q:=k
theorem Lc(e:δ[i]?=ae (ae (.w (.d (.tuple (.str s::r))))))(h:cz (.str s) [.str a,.str b]=k)(q:Q (.d (.bool !k)) n):w2 (w2 (aj i) (wC (.int 0)) aB) (av (ao (wC (.str a)) (ao (wC (.str b)) ak))) (lC ah) δ n Q:=by
 refine ar (dv e ?_);show 2<=1000/\gA (.str s)=ah/\_/\Q (.d (.bool !cz (.str s) [.str a,.str b])) n;exact⟨by decide,rfl,rfl,by rw[h];exact q⟩
theorem Ie{Q:Bool->Int->Prop}(e:δ[i]?=ae (ae (.w (.d (.tuple (.str s::r))))))(h:cz (.str s) (hs.map .str)=k)(q:Q (!k) n):cT (nW hs (w2 (aj i) (wC (.int 0)) aB)) δ n Q:=by
 unfold cT nW;exact dv e ⟨_,rfl,rfl,by rw[h];exact q⟩
theorem sT(e0:δ[i]?=ae (ae (.w (.d (aZ ps)))))(e1:δ[j]?=ae (ae (.w (.d (bg hs ns)))))(e2:δ[l]?=ae (ae (.w (.d (.int h)))))(ok:okHs ps hs)(hh:h < ps.length)(k:Q (.d (m7 (aU ps hs h))) n):aJ kg (ao (aj i) (ao (aj j) (ao (aj l) ak))) δ n Q:=
 cf (au e0 (au e1 (au e2 ⟨ps,hs,ns,h,rfl,ok,hh,k⟩)))
end
theorem LW:c7 rq AX ["programs","stand","hand","act","names","tried","place","note"]:=λws n Q h=>by
 obtain⟨ps,hs,ns,h,rfl,⟨okp,okh,okn⟩,hh,k⟩:=h;obtain⟨P,xb,xp,nm,w,as,H⟩:=mJ okh hh;unfold fZ at k;rw[H.nmq]at k;show AX [ae (.w (.d (aZ ps))),ae (.w (.d (bg hs ns))),ae (.w (.d (.int h))),af,af,af,af,af] n _;refine aE (bE (λQ q=>sT rfl rfl rfl okh hh q) ?_);dsimp only[Be];cases ea:aU ps hs h with
 |none=>
  rw[ea]at k;exact aE (cF (λQ q=>Ua (λQ q=>aT (k:=ah) (λQ q=>ar (au rfl (aH (gh q)))) q) q) (bG (aH k)))
 |some a=>
  rw[ea]at k;have k:Q (.d (fL (a.pf.bind λfs=>bO fs nm ns))) n:=k;have oa:=H.ok okp ea;show aq _ _ [ae (.w (.d (aZ ps))),ae (.w (.d (bg hs ns))),ae (.w (.d (.int h))),ae (.w (.d a.d)),af,af,af,af] n _;have g1:∀(s:Str)(r:List Ab),eZ (PyData.tuple (.str s::r))=ai:=λ_ _=>rfl;cases ef:a.pf with
  |none=>
   rw[ef]at k;obtain⟨_,s,r,e,h1,_⟩:=zA ef;rw[e];exact aE (cF (λQ q=>yn (λQ q=>aT (k:=ai) (λQ q=>ar (au rfl (aH (gh q)))) q) (Ie rfl h1 q)) (bG (aH k)))
  |some fs=>
   rw[ef]at k;have k:Q (.d (fL (bO fs nm ns))) n:=k;obtain⟨of,s,r,e,h1,_⟩:=xC ef oa;rw[e];refine aE (bu (λQ q=>yn (λQ q=>aT (k:=ai) (λQ q=>ar (au rfl (aH (gh q)))) q) (Ie rfl h1 q)) ?_);dsimp only[aN];refine aE (bE (x:=cx nm) (λQ q=>ar (ar (ar (au rfl (aH (eB (au rfl (cM H.hD (aH (fK q)))))))))) ?_);dsimp only[Be];refine aE (show qu 5 _ _ _ from ?_);unfold qu;dsimp only[Be];refine aE ?_;unfold dw vL;refine ar (au rfl (aH (kh ⟨ns.map dF,rfl,?_⟩)));refine xM (λds δ m=>m=n/\∃(re:List Nt)(j:Nat)(kvs:List (List aC×Ab))(x6 x7:Option SV),ds=iE j (re.map dF)/\δ=[ae (.w (.d (aZ ps))),ae (.w (.d (bg hs ns))),ae (.w (.d (.int h))),ae (.w (.d (.tuple (.str s::cG fs::r)))),ae (.w (.d (cx nm))),ae (.odt kvs),x6,x7] /\
    (∀q∈re,oj q)/\kvs.length+re.length<=100/\(∀key,gD kvs key=ah->cn fs (key.map DL.vD) nm=ai)/\Q (.d (fL ((bO fs nm re).map (·+j)))) n) (λδ m I=>?_) (λd r' δ m N I kN=>?_) _ _ _ ⟨rfl,ns,0,[],af,af,rfl,rfl,okn.2,by have:=okn.1;simpa using this,λkey z=>(by cases z),?_⟩
   ·obtain⟨rfl,re,j,kvs,x6,x7,ed,rfl,_,_,_,kq⟩:=I;have:re=[]:=by
     cases re with
     |nil=>rfl
     |cons q re=>rw[Bg,yD]at ed;cases ed
    subst this;exact(show Q (.d .none) m from kq)
   ·obtain⟨rfl,re,j,kvs,x6,x7,ed,rfl,hre,hl,ht,kq⟩:=I;cases re with
    |nil=>cases ed
    |cons q re=>
     rw[Bg,yD]at ed;obtain⟨rfl,rfl⟩:=Ba ed;rw[Bf]at hl;have oq:=hre q Au;obtain⟨key,ek⟩:=BY oq.1.2;have nxt:∀kvs',kvs'.length<=kvs.length+1->(∀key,gD kvs' key=ah->cn fs (key.map DL.vD) nm=ai)->cn fs q.1 nm=ai->N [ae (.w (.d (aZ ps))),ae (.w (.d (bg hs ns))),ae (.w (.d (.int h))),ae (.w (.d (.tuple (.str s::cG fs::r)))),ae (.w (.d (cx nm))),ae (.odt kvs'),ae (.w (.d (.int j))),ae (.w (.d (dF q)))] m:=λkvs' a1 a2 a3=>by
      refine kN _ _ ⟨rfl,re,j+1,kvs',_,_,by rw[show((j+1:Nat):Int)=(j:Int)+1 from rfl],rfl,λx hx=>hre x (An _ hx),by omega,a2,?_⟩;rw[Ik,if_neg (by rw[a3];exact Ak),Option.map_map]at kq;have:((λx=>x+j) ∘ λx=>x+1)=λx=>x+(j+1):=funext λx=>by show x+1+j=x+(j+1);omega
      rw[this]at kq;exact kq
     refine⟨rfl,?_⟩;dsimp only[iu,jM,cj,Be];refine jH (show qR 5 _ _ _ _ from dv rfl ⟨key,kvs,by rw[ek];rfl,rfl,?_⟩);show if (!gD kvs key)=ah then _ else _
     cases et:gD kvs key with
     |true=>
      rw[if_neg (by rw[Bool.not_true];exact Ak)];exact nxt kvs ⋯ ht (by rw[ek];exact ht key et)
     |false=>
      rw[if_pos (show(!ai)=ah from rfl)];refine aE (jH (ar (cf (eV rfl (dv rfl (au rfl ⟨fs,q.1,nm,rfl,of,oq.1,H.nms,?_⟩))))));refine aH (gh ?_);show if (!eZ (d8 fs q.1 nm))=ah then _ else _
      rw[IG,Bool.not_not];cases eb:cn fs q.1 nm with
      |true=>
       rw[if_pos rfl];rw[Ik,if_pos eb,Option.map_some,Nat.zero_add]at kq;exact bG (au rfl kq)
      |false=>
       rw[if_neg Ak];dsimp only[aN];refine aH ⟨kvs,rfl,dv rfl ⟨key,.bool ah,rfl,by rw[ek];rfl,by omega,?_⟩⟩;dsimp only[Be];refine nxt _ Qu (λkey' z=>?_) eb;rcases Rm z with rfl|z
       ·rw[<-ek];exact eb
       ·exact ht key' z
   ·have:(λx:Nat=>x+0)=id:=rfl;rw[this,Option.map_id];exact k
theorem Jv(e:aU ps hs h=ae a):fw ps hs ns h=(!a.wt || (fZ ps hs ns h).isSome):=by unfold fw;rw[e];rfl
theorem MD(oa:kz a):∃s r,a.d=.tuple (.str s::r)/\cz (.str s) [.str "take",.str "read"]=a.wt:=by
 cases ef:a.pf with
 |none=>
  obtain⟨hw,s,r,e,_,h2⟩:=zA ef;exact⟨s,r,e,by rw[h2,hw]⟩
 |some fs=>
  obtain⟨_,s,r,e,_,h2⟩:=xC ef oa;exact⟨s,_,e,h2⟩
theorem TQ(o:Option Nat):(!eZ (fL o))=o.isSome:=by cases o<;>rfl
section
variable{δ:Sl}{n:Int}{Q:DQ}{w u:DT}{ds i j:List Ab}
theorem EH(xs:List Ab)(hp:p<=xs.length):dD xs (ae (p:Int)) af=xs.drop p:=by
 unfold dD;rw[HT.sIx_nat,HT.sIx_none,Nat.min_eq_left hp];exact Gs (by rw[D5];exact Am _)
theorem FF(k:w δ n λx n1=>match iO [x]with
  |some ds=>ds.length<=1000/\Q (.d (.tuple ds)) n1
  |none=>False):av (ao w ak) δ n Q:=k
theorem CC{p:Nat}(hw:∀Q:DQ,Q (.d (.tuple ds)) n->w δ n Q)(hu:∀Q:DQ,Q (.d (.int p)) n->u δ n Q)(hp:p<=ds.length)(k:Q (.d (.tuple (ds.take p))) n):gN w gQ (gW u) δ n Q:=by
 unfold gN;refine hw _ ?_;dsimp only[gQ,gW];refine hu _ ?_;dsimp only;rw[zw _ hp];exact k
theorem BQ{p:Nat}(hw:∀Q:DQ,Q (.d (.tuple ds)) n->w δ n Q)(hu:∀Q:DQ,Q (.d (.int p)) n->u δ n Q)(hp:p<=ds.length)(k:Q (.d (.tuple (ds.drop p))) n):gN w (gW u) gQ δ n Q:=by
 unfold gN;refine hw _ ?_;dsimp only[gQ,gW];refine hu _ ?_;dsimp only;rw[EH _ hp];exact k
theorem nT(h:i.length+j.length<=1000000)(k:Q (.d (.tuple (i++j))) n):jE (.d (.tuple i)) (.d (.tuple j)) n Q:=by
 cases i with
 |nil=>exact k
 |cons a r=>exact⟨.inl (λz=>nomatch z),Bb h ∎,k⟩
end
theorem OP:c7 w6 PD ["thing"]:=λws n Q h=>by
 obtain⟨i,rfl,k⟩:=h;exact k
theorem RX:c7 xx ye ["thing","most"]:=λws n Q h=>by
 obtain⟨i,m,rfl,h0,h1,k⟩:=h;show ye [ae (.w (.d (.int i))),ae (.w (.d (.int m)))] n _;exact bG (sF (λQ q=>gJ (au rfl ⟨i,rfl,q⟩)) (Ji (λQ q=>aH q) (λQ q=>au rfl q) (λQ q=>au rfl q) h0 (by rw[decide_eq_true h1];exact k)))
theorem P7:c7 sZ CV ["value"]:=λws n Q h=>by
 obtain⟨v,rfl,hv,k⟩:=h;show CV [ae (.w (.d v))] n {nx:=λ_ n=>Q (.d .none) n,rt:=Q};cases v with
 |str x=>exact k
 |int i=>
  have k:Q (.d (if i=99 then PyData.int 0 else PyData.int (i+1))) n:=k;show if decide (i=99)=ah then Q (.d (.int 0)) n else Q (.d (.int (i+1))) n
  refine Ti (λe=>?_) λe=>?_
  ·rw[if_pos e]at k;exact k
  ·rw[if_neg e]at k;exact k
 |_=>cases hv
theorem Nv:c7 m6 ED ["field","having","value"]:=λws n Q h=>by
 obtain⟨f,nm,rfl,⟨_,tm,us⟩,k⟩:=h;show ED [ae (.w (.d f.d)),ae (.w (.dk (bo nm))),af] n {nx:=λ_ n=>Q (.d .none) n,rt:=Q};cases f with
 |isv d=>exact k
 |as x=>
  obtain⟨v,e,hv⟩:=us x rfl;have k:Q (.d ((look nm x).getD .none)) n:=k;rw[e]at k;refine aE (rN (h:="is") (a:=.str "as") rfl ∅ ?_);dsimp only[aN];refine aE ?_;show(match bJ (bo nm) (.inr x)with|some d=>_|none=>False);rw[qT,e];exact k
 |nx x=>
  obtain⟨v,e,hv⟩:=us x rfl;have k:Q (.d (pE ((look nm x).getD .none))) n:=k;rw[e]at k;refine aE (rN (h:="is") (a:=.str "next") rfl ∅ ?_);dsimp only[aN];refine aE ?_;show(match bJ (bo nm) (.inr x)with|some d=>_|none=>False);rw[qT,e];exact⟨v,rfl,hv,k⟩
 |_=>cases tm
theorem N0(q:Q ah n):dG δ n Q:=q
theorem Jy{α:Type}{rest:Sl}(f g)(xs:List α)(x)(n)(h:∀a∈xs,∀(n:Int) (Q':DQ),Q' (.d (g a)) n->w (ae (.w (.d (f a)))::rest) n Q')(q:Q (xs.map g) n):eY (cj 0) dG w Q (xs.map f) [] (x::rest) n:=by
 refine jT f g (λ_=>ah) xs [] x n (λa _ n Q' q=>N0 q) h ?_;rw[Cg,List.filter_eq_self.mpr λ_ _=>rfl];exact q
theorem Tt(k:Q (.d (.tuple ds)) n):gy [.d (.list ds)] n Q:=k
theorem OM:c7 sW BZ ["template","names","having"]:=λws n Q h=>by
 obtain⟨fs,nm,rfl,hl,ok,okn,k⟩:=h;show BZ [ae (.w (.d (gZ fs))),ae (.w (.d (cx nm))),af] n {nx:=λ_ n=>Q (.d .none) n,rt:=Q};refine aE (vN rfl okn ?_);dsimp only[Be];refine bG (b6 (bX (lT (ds:=fs.map Fe.d) (λQ q=>au rfl q) ?_)));show eY _ _ _ _ _ _ [af,ae (.w (.dk (bo nm)))] n;exact Jy Fe.d (gY nm) fs af n (λf hf n Q' q=>cP (au rfl (show eC 1 _ _ _ from⟨f,nm,rfl,ok f hf,q⟩))) (Tt k)
theorem Su:c7 mP zJ ["place","names"]:=λws n Q h=>by
 obtain⟨x,nm,rfl,k⟩:=h;show zJ [ae (.w (.d (bQ x))),ae (.w (.d (cx nm)))] n _;exact bG (FN (dv rfl (ar (eV rfl (aH (iA (au rfl (Bj (show 3<=1000 by decide) k))))))))
theorem My:c7 px GF ["program","block","names","wanted"]:=λws n Q h=>by
 obtain⟨P,b,nm,⟨w,as⟩,rfl,hb,hw,k⟩:=h;have hbD:(P.map fE)[b]?=ae (.tuple [nE w,.tuple (as.map Ac.d)]):=by rw[Aq,hb];rfl
 have ew:o9 P b=w:=by unfold o9;rw[hb];rfl
 unfold bB at k;rw[ew]at k;show GF [ae (.w (.d (h9 P))),ae (.w (.d (.int b))),ae (.w (.d (cx nm))),af] n _;refine aE (bE (x:=nE w) (λQ q=>ar (ar (au rfl (au rfl (cM hbD (aH (eB q))))))) ?_);dsimp only[Be];refine bG (FN (au rfl (aH (b6 (bX (lT (ds:=nm.map ja) (λQ q=>au rfl q) ?_))))));show eY _ _ _ _ _ _ [af,ae (.w (.d (nE w)))] n;refine jT ja ja (λp=>decide (p.1∈w)) nm [] af n (λp _ n Q' q=>aT (k:=decide (p.1∈w)) (λQ q=>ar (dv rfl (au rfl ⟨rfl,Qh w,?_⟩))) q) (λp _ n Q' q=>au rfl q) ?_
 ·show Q (.d (.bool (cz (.str p.1) (w.map .str)))) n;rw[FO];exact q
 ·exact Bj (show 3<=1000 by decide) k
theorem J1:c7 jh FW ["hands","hand","place"]:=λws n Q h=>by
 obtain⟨hs,h,x,rfl,hh,hl,k⟩:=h;show FW [ae (.w (.d (.tuple (hs.map bQ)))),ae (.w (.d (.int h))),ae (.w (.d (bQ x)))] n _;have hd:(aX hs h x).map bQ=((hs.map bQ).take h++[bQ x])++(hs.map bQ).drop (h+1):=by
  unfold aX;rw[Bw,Bg,List.map_take,List.map_drop,Bk];rfl
 rw[hd]at k;have l1:((hs.map bQ).take h).length<=5:=Bb (List.length_take_le' _ _) (by rw[Ad];exact hl);have l2:((hs.map bQ).drop (h+1)).length<=5:=by rw[D5,Ad];omega
 refine bG (ar (ar (CC (p:=h) (λQ q=>au rfl q) (λQ q=>au rfl q) (by rw[Ad];omega) (FF (au rfl (Bj (show 1<=1000 by decide) (nT (by rw[C9];omega) ?_)))))));exact BQ (p:=h+1) (λQ q=>au rfl q) (λQ q=>ar (au rfl (aH (iA q)))) (by rw[Ad];omega) (nT (by rw[A2,C9];omega) k)
theorem IW:c7 xQ BH ["note"]:=λws n Q h=>by
 obtain⟨⟨row,a⟩,rfl,ha,k⟩:=h;show BH [ae (.w (.d (dF (row,a))))] n _;rcases ha with rfl|⟨i,rfl,_⟩
 ·exact bG (kW (b:=ah) (λQ q=>aT (k:=ah) (λQ q=>ar (eV rfl (aH (gh q)))) q) (by rw[if_pos rfl];exact au rfl k))
 ·exact bG (kW (b:=ai) (λQ q=>aT (k:=ai) (λQ q=>ar (eV rfl (aH (gh q)))) q) (by rw[if_neg Ak];exact pZ (dv rfl (ar (eV rfl (aH (Bj (show 2<=1000 by decide) k)))))))
theorem R8(ha:jm a)(k:Q (.d (.bool (!ik a))) n):ib (.d a) (.d (.int 1)) n Q:=by
 rcases ha with rfl|⟨i,rfl,_⟩<;>exact k
theorem Jq:c7 tW GO ["stand"]:=λws n Q h=>by
 obtain⟨hs,ns,rfl,ha,k⟩:=h;show GO [ae (.w (.d (bg hs ns)))] n _;refine bG (pZ (dv rfl (b6 (bX (lT (ds:=ns.map dF) (λQ q=>eV rfl q) ?_)))));show eY _ _ _ _ _ _ [af] n;refine jT dF (λq=>dF (q.1,jD q.2)) (λq=>!ik q.2) ns [] af n (λq hq n Q' k'=>aT (λQ q'=>ar (eV rfl (aH (R8 (ha q hq) q')))) k') (λq hq n Q' k'=>gJ (au rfl ⟨q,rfl,ha q hq,k'⟩)) ?_;refine Bj (show 2<=1000 by decide) ?_;unfold bg dq gp at k;rw[Cj]at k;exact k
theorem Tr:∀j:Fin 100,bS (.int ((j.val:Nat):Int))=ah:=by decide +kernel
theorem g9(h0:0<=i)(h1:i<=99):bS (.int i)=ah:=by
 have:=Tr ⟨i.toNat,by omega⟩;rw[show((i.toNat:Nat):Int)=i by omega]at this;exact this
theorem OU(h:bS (.int i)=ah):0<=i/\i<=99:=by
 simp only[bS,Bm,decide_eq_true_eq]at h;exact⟨h.1,h.2.1⟩
theorem v5(h:bS v=ah):bS (pE v)=ah:=by
 cases v with
 |str x=>exact h
 |int i=>
  obtain⟨h0,h1⟩:=OU h;show bS (if i=99 then .int 0 else .int (i+1))=ah
  split
  ·exact g9 ∎ ∎
  ·exact g9 ⋯ ⋯
 |_=>cases h
theorem ly(h:eF nm f):bS (gY nm f)=ah:=by
 obtain⟨ok,tm,us⟩:=h;cases f with
 |isv d=>exact ok
 |as k=>obtain⟨v,e,hv⟩:=us k rfl;show bS ((look nm k).getD .none)=ah;rw[e];exact hv
 |nx k=>obtain⟨v,e,hv⟩:=us k rfl;show bS (pE ((look nm k).getD .none))=ah;rw[e];exact v5 hv
 |_=>cases tm
theorem MC(ha:bS a=ah)(hb:bS b=ah)(k:Q (.d (.bool (fq a b))) n):bM (.d a) (.d b) n Q:=by
 unfold bM;simp only[rl ha hb];exact k
theorem JW:c7 tJ DB ["act","names","having"]:=λws n Q h=>by
 obtain⟨f,g,b,nm,rfl,hf,hg,_,_,okn,k⟩:=h;show DB [ae (.w (.d (.tuple [.str "same",f.d,g.d,.int b]))),ae (.w (.d (cx nm))),af] n _;refine aE (vN rfl okn ?_);dsimp only[Be];exact bG (ar (cP (eV rfl (show eC 2 _ _ _ from⟨f,nm,rfl,hf,cP (ar (au rfl (aH (fK (show eC 2 _ _ _ from⟨g,nm,rfl,hg,MC (ly hf) (ly hg) k⟩)))))⟩))))
theorem yb(h:bO fs nm ns=ae i):∃q,ns[i]?=ae q/\cn fs q.1 nm=ah:=by
 unfold bO at h;rw[Gm]at h;obtain⟨hl,h1,_⟩:=h;exact⟨ns[i],Ag hl,h1⟩
theorem Rk(h:cn fs row nm=ah):d8 fs row nm=cx (b9 (e7 fs row nm)):=by unfold d8;rw[if_pos h]
theorem vp(H:HandAt ps hs h P xb xp nm w as)(e:aU ps hs h=ae a):dJ ps hs ns h=(nU P (xb,xp,nm) ns a).map λr=>(aX hs h r.1,r.2):=by
 unfold dJ;rw[H.prog,H.hand,e];rfl
theorem mM(e:bO (fs.map Fe.fd) x.2.2 ns=af):cm fs x ns=af:=by unfold cm;rw[e];rfl
theorem mj(e:bO (fs.map Fe.fd) x.2.2 ns=ae i):cm fs x ns=ae (i,b8 x (b9 (e7 (fs.map Fe.fd) (dA ns i) x.2.2))):=by unfold cm;rw[e];rfl
theorem uA(k:Q (.d (.bool (!cY h (.str s)))) n):ib (.d (.str s)) (.d (.str h)) n Q:=k
theorem Kn(ns:List Nt)(i):(de ns i).map dF=(ns.map dF).take i++(ns.map dF).drop (i+1):=by unfold de;rw[Bw,List.map_take,List.map_drop]
section
variable{ps:Pg}{hs:List Hn}{ns:List Nt}{h:Nat}{P:List Bl}{xb xp:Nat}{nm:Nm}{w:List Str}{as:List Ac}{n:Int}{Q:DQ}
theorem uO(e1:δ[i1]?=ae (ae (.w (.d (bg hs ns)))))(e2:δ[i2]?=ae (ae (.w (.d (.int h)))))(e5:δ[i5]?=ae (ae (.w (.d (dq ns')))))(hx:∀Q:DQ,Q (.d (bQ x)) n->w2' δ n Q)(hh:h < hs.length)(hl:hs.length<=5)(k:Q (.d (bg (aX hs h x) ns')) n):
  av (ao (aJ jh (ao (w2 (aj i1) ⇑0 aB) (ao (aj i2) (ao w2' ak)))) (ao (aj i5) ak)) δ n Q:=
 pZ (cf (dv e1 (au e2 (hx _ ⟨hs,h,x,rfl,hh,hl,au e5 (Bj (show 2<=1000 by decide) k)⟩))))
theorem tO(H:HandAt ps hs h P xb xp nm w as)(okp:cV ps)(okh:okHs ps hs)(okn:dI 100 ns)(hh:h < ps.length)(ea:aU ps hs h=ae a)(ed:a.d=.tuple (.str s::gZ gs::r))(hpf:a.pf=ae (gs.map Fe.fd))(hof:fO gs)(hpat:gq gs)
  (kN:bO (gs.map Fe.fd) nm ns=af->aq (aV (cT (w2 (w2 ↥3 ⇑0 aB) (wC (.str "look")) ib)) (aw (wC .none)) aN) (aw (av (ao (aJ jh (ao (w2 ↥1 ⇑0 aB) (ao ↥2 (ao (aJ px (ao (w2 ↥0 ↥2 aB) (ao (w2 ↥3 ⇑2 aB) (ao (w2 ↥4 ⇑2 aB) ak)))) ak)))) (ao ↥5 ak))))
   [ae (.w (.d (aZ ps))),ae (.w (.d (bg hs ns))),ae (.w (.d (.int h))),ae (.w (.d (.tuple (.str s::gZ gs::r)))),ae (.w (.d (bQ (xb,xp,nm)))),ae (.w (.d (dq ns))),ae (.w (.d .none)),af] n {nx:=λ_ _=>True,rt:=Q})
  (kS:∀i ns',bO (gs.map Fe.fd) nm ns=ae i->ns'=(if cY "take" (.str s)=ah then de ns i else ns)->Q (.d (bg (aX hs h (b8 (xb,xp,nm) (b9 (e7 (gs.map Fe.fd) (dA ns i) nm)))) ns')) n):
  xg [ae (.w (.d (aZ ps))),ae (.w (.d (bg hs ns))),ae (.w (.d (.int h))),ae (.w (.d a.d)),af,af,af,af] n {nx:=λ_ n=>Q (.d .none) n,rt:=Q}:=by
 rw[ed];obtain⟨ep,op⟩:=oU hof hpat;have hlt:h < hs.length:=by rw[okh.1];exact hh
 have hl5:hs.length<=5:=by rw[okh.1];exact okp.1
 refine aE (bE (x:=bQ (xb,xp,nm)) (λQ q=>ar (ar (au rfl (aH (eB (au rfl (cM H.hD q))))))) ?_);dsimp only[Be];refine aE (bE (x:=dq ns) (λQ q=>eV rfl q) ?_);dsimp only[Be];have eg:fZ ps hs ns h=bO (gs.map Fe.fd) nm ns:=by
  unfold fZ;rw[ea,H.nmq];show(a.pf.bind _)=_;rw[hpf];rfl
 refine aE (bE (x:=fL (bO (gs.map Fe.fd) nm ns)) (λQ q=>cf (au rfl (au rfl (au rfl ⟨ps,hs,ns,h,rfl,⟨okp,okh,okn⟩,hh,by rw[eg];exact q⟩)))) ?_);dsimp only[Be];cases eq:bO (gs.map Fe.fd) nm ns with
 |none=>exact aE (cF (λQ q=>aT (k:=ah) (λQ q=>ar (au rfl (aH (gh q)))) q) (kN eq))
 |some i=>
  obtain⟨⟨row,age⟩,hq,hf⟩:=yb eq;have hi:i < ns.length:=(Al.mp hq).1;have hq':(ns.map dF)[i]?=ae (.tuple [.tuple row,age]):=by rw[Aq,hq];rfl
  have er:dA ns i=row:=by unfold dA;rw[hq];rfl
  have oq:=okn.2 _ (A1 hq);refine aE (bu (λQ q=>aT (k:=ai) (λQ q=>ar (au rfl (aH (gh q)))) q) ?_);dsimp only[aN];refine aE (bE (x:=cx (b9 (e7 (gs.map Fe.fd) (dA ns i) nm))) (λQ q=>?_) ?_)
  ·refine cf (eV rfl (ar (ar (au rfl (au rfl (cM hq' (aH (eB ?_))))))));refine ar (au rfl (aH (fK ⟨gs.map Fe.fd,row,nm,by rw[ep],op,oq.1,H.nms,?_⟩)));rw[Rk hf];rw[er]at q;exact q
  dsimp only[Be];have fin:∀ns',ns'=(if cY "take" (.str s)=ah then de ns i else ns)->aw (av (ao (aJ jh (ao (w2 ↥1 ⇑0 aB) (ao ↥2 (ao (aJ mP (ao ↥4 (ao ↥7 ak))) ak)))) (ao ↥5 ak)))
    [ae (.w (.d (aZ ps))),ae (.w (.d (bg hs ns))),ae (.w (.d (.int h))),ae (.w (.d (.tuple (.str s::gZ gs::r)))),ae (.w (.d (bQ (xb,xp,nm)))),ae (.w (.d (dq ns'))),ae (.w (.d (.int i))),ae (.w (.d (cx (b9 (e7 (gs.map Fe.fd) (dA ns i) nm)))))] n {nx:=λ_ n=>Q (.d .none) n,rt:=Q}:=λns' e'=>
   bG (uO (x:=b8 (xb,xp,nm) (b9 (e7 (gs.map Fe.fd) (dA ns i) nm))) rfl rfl rfl (λQ q=>cP (au rfl (au rfl ⟨(xb,xp,nm),_,rfl,q⟩))) hlt hl5 (kS i ns' eq e'))
  refine aE (v7 rfl (λz=>?_) λz=>?_)
  ·refine bE (x:=dq (de ns i)) (λQ q=>ar (CC (p:=i) (λQ q=>au rfl q) (λQ q=>au rfl q) (by rw[Ad];omega) (BQ (p:=i+1) (λQ q=>au rfl q) (λQ q=>ar (au rfl (aH (iA q)))) (by rw[Ad];omega) (nT ?_ ?_)))) ?_
   ·have:=okn.1;rw[C4,D5,Ad];omega
   ·unfold dq at q;rw[Kn]at q;exact q
   ·dsimp only[Be];exact fin (de ns i) (by rw[if_pos z])
  ·dsimp only[aN];exact fin ns (by rw[if_neg (by rw[z];exact Ak)])
end
theorem J5:c7 n6 xg ["programs","stand","hand","act","place","notes","number","names"]:=λws n Q h=>by
 obtain⟨ps,hs,ns,h,a,rfl,⟨okp,okh,okn⟩,hh,ea,hp,k⟩:=h;obtain⟨P,xb,xp,nm,w,as,H⟩:=mJ okh hh;have oa:=H.ok okp ea;rw[vp H ea]at k;have hlt:h < hs.length:=by rw[okh.1];exact hh
 have hl5:hs.length<=5:=by rw[okh.1];exact okp.1
 show xg [ae (.w (.d (aZ ps))),ae (.w (.d (bg hs ns))),ae (.w (.d (.int h))),ae (.w (.d a.d)),af,af,af,af] n _;cases a with
 |lay fs age=>cases hp
 |same f g b=>cases hp
 |go b=>cases hp
 |take gs=>
  refine tO (s:="take") (gs:=gs) (r:=[]) H okp okh okn hh ea rfl rfl oa.1 oa.2 (λe=>?_) λi ns' e e'=>?_
  ·have k:Q (.d (iK (((cm gs (xb,xp,nm) ns).map λq=>(q.2,de ns q.1)).map λr=>(aX hs h r.1,r.2)))) n:=k;rw[mM e]at k;exact aE (cF (λQ q=>aT (k:=ah) (λQ q=>ar (dv rfl (aH (uA (by rw[show cY "look" (.str "take")=ai by decide +kernel];exact q))))) q) (bG (aH k)))
  ·rw[if_pos ∅]at e';rw[e'];have k:Q (.d (iK (((cm gs (xb,xp,nm) ns).map λq=>(q.2,de ns q.1)).map λr=>(aX hs h r.1,r.2)))) n:=k;rw[mj e]at k;exact k
 |read gs=>
  refine tO (s:="read") (gs:=gs) (r:=[]) H okp okh okn hh ea rfl rfl oa.1 oa.2 (λe=>?_) λi ns' e e'=>?_
  ·have k:Q (.d (iK (((cm gs (xb,xp,nm) ns).map λq=>(q.2,ns)).map λr=>(aX hs h r.1,r.2)))) n:=k;rw[mM e]at k;exact aE (cF (λQ q=>aT (k:=ah) (λQ q=>ar (dv rfl (aH (uA (by rw[show cY "look" (.str "read")=ai by decide +kernel];exact q))))) q) (bG (aH k)))
  ·rw[if_neg ∅]at e';rw[e'];have k:Q (.d (iK (((cm gs (xb,xp,nm) ns).map λq=>(q.2,ns)).map λr=>(aX hs h r.1,r.2)))) n:=k;rw[mj e]at k;exact k
 |look gs b=>
  refine tO (s:="look") (gs:=gs) (r:=[.int b]) H okp okh okn hh ea rfl rfl oa.1 oa.2 (λe=>?_) λi ns' e e'=>?_
  ·have k:Q (.d (iK ((match cm gs (xb,xp,nm) ns with|some q=>ae (q.2,ns)|none=>ae (bB P b nm,ns):Option (Hn×List Nt)).map λr=>(aX hs h r.1,r.2)))) n:=k;rw[mM e]at k;have hr:=(okp.2 P (A1 H.prog)).2.2 (w,as) (A1 H.blk);rw[H.act]at ea;obtain⟨wb,hwb,_⟩:=(hr.2 xp _ ea).2 b rfl;rw[Aq]at hwb;obtain⟨bl,hbl,_⟩:=C3.mp hwb;have obl:=((okp.2 P (A1 H.prog)).2.2 bl (A1 hbl)).1;refine aE (bu (λQ q=>aT (k:=ai) (λQ q=>ar (dv rfl (aH (uA (by rw[show cY "look" (.str "look")=ah by decide +kernel];exact q))))) q) ?_);dsimp only[aN];refine bG (uO (x:=bB P b nm) rfl rfl rfl (λQ q=>?_) hlt hl5 k);refine cf (ar (au rfl (au rfl (cM H.pD ?_))));refine ar (au rfl (aH (fK ?_)));exact ar (au rfl (aH (fK ⟨P,b,nm,bl,rfl,hbl,obl.1,q⟩)))
  ·rw[if_neg ∅]at e';rw[e'];have k:Q (.d (iK ((match cm gs (xb,xp,nm) ns with|some q=>ae (q.2,ns)|none=>ae (bB P b nm,ns):Option (Hn×List Nt)).map λr=>(aX hs h r.1,r.2)))) n:=k;rw[mj e]at k;exact k
theorem nQ(k:w δ n λx n1=>w' δ n1 λy n2=>w'' δ n2 λz n3=>v δ n3 λu n4=>S [x,y,z,u] n4 Q):aJ S (ao w (ao w' (ao w'' (ao v ak)))) δ n Q:=k
theorem Pk(h:k∈nm.map (·.1)):∃v,look nm k=ae v:=by
 obtain⟨p,hp,e⟩:=A3.mp h;have:(nm.any λp=>decide (p.1=k))=ah:=Dl.mpr ⟨p,hp,decide_eq_true e⟩;rw[qS]at this;exact Eu.mp this
theorem LB{f:Fe}(h:f.tm=ah):f.bd=af:=by cases f<;>first|rfl|cases h
theorem qP{f:Fe}(h:f.te=ah):f.tm=ah:=by cases f<;>first|rfl|cases h
theorem ui:∀{fs:List Fe}{ks:List Str},rF ks fs->(∀f∈fs,f.tm=ah)->∀f∈fs,∀k,f.us=ae k->k∈ks
 |[],_,_,_,f,hf,_,_=>by simp at hf
 |g::r,ks,h,ht,f,hf,k,hk=>by
  rcases Aw.mp hf with rfl|hf
  ·exact h.1 k hk
  ·have h2:=h.2;rw[LB (ht g Au)]at h2;have:=ui h2 (λx hx=>ht x (An _ hx)) f hf k hk;simpa using this
section
variable{ps:Pg}{hs:List Hn}{ns:List Nt}{h:Nat}{P:List Bl}{xb xp:Nat}{nm:Nm}{w:List Str}{as:List Ac}{n:Int}{Q:DQ}
theorem HandAt.okb(H:HandAt ps hs h P xb xp nm w as)(okp:cV ps):qM (w,as)/\GH (P.map (·.1)) (w,as):=(okp.2 P (A1 H.prog)).2.2 (w,as) (A1 H.blk)
theorem HandAt.right(H:HandAt ps hs h P xb xp nm w as)(okp:cV ps)(e:aU ps hs h=ae a):a.right (P.map (·.1)) (kn w as xp):=by
 rw[H.act]at e;exact(H.okb okp).2 xp a e
theorem HandAt.fv(H:HandAt ps hs h P xb xp nm w as)(ok:f.ok)(tm:f.tm=ah)(us:∀k,f.us=ae k->k∈kn w as xp):eF nm f:=⟨ok,tm,λk hk=>by
 obtain⟨v,e⟩:=Pk ((H.hn.mem k).mpr (us k hk));exact⟨v,e,(H.hn.ok _ (mf e)).2⟩⟩
theorem HandAt.lay(H:HandAt ps hs h P xb xp nm w as)(okp:cV ps)(e:aU ps hs h=ae (.lay fs age)):fs.length<=4/\∀f∈fs,eF nm f:=by
 have oa:=H.ok okp e;have r:=(H.right okp e).1;exact⟨oa.1.1,λf hf=>H.fv (oa.1.2 f hf) (oa.2.1 f hf) (ui r oa.2.1 f hf)⟩
theorem HandAt.same(H:HandAt ps hs h P xb xp nm w as)(okp:cV ps)(e:aU ps hs h=ae (.same f g b)):eF nm f/\eF nm g/\f.te=ah/\g.te=ah:=by
 have oa:=H.ok okp e;have r:=ui (H.right okp e).1 (λx hx=>by
  simp only[Ac.fs,Aw,Bh,or_false]at hx;rcases hx with rfl|rfl
  ·exact qP oa.2.1
  ·exact qP oa.2.2)
 exact⟨H.fv (oa.1.2 f (by simp[Ac.fs])) (qP oa.2.1) (r f (by simp[Ac.fs])),H.fv (oa.1.2 g (by simp[Ac.fs])) (qP oa.2.2) (r g (by simp[Ac.fs])),oa.2.1,oa.2.2⟩
theorem HandAt.to(H:HandAt ps hs h P xb xp nm w as)(okp:cV ps)(e:aU ps hs h=ae a)(hb:a.to=ae b):∃bl:Bl,P[b]?=ae bl/\qM bl/\∀k∈bl.1,k∈nm.map (·.1):=by
 obtain⟨wb,hwb,hk⟩:=(H.right okp e).2 b hb;rw[Aq]at hwb;obtain⟨bl,hbl,rfl⟩:=C3.mp hwb;exact⟨bl,hbl,((okp.2 P (A1 H.prog)).2.2 bl (A1 hbl)).1,λk z=>(H.hn.mem k).mpr (hk k z)⟩
end
theorem Jz(e:δ[i]?=ae (ae (.w (.d (.tuple [a,b])))))(k:Q (.d b) n):w2 (aj i) (jg (wC (.int 1))) aB δ n Q:=ar (au e k)
theorem TF(e:δ[i]?=ae (ae (.w (.d (.tuple [a,b,c,d])))))(k:Q (.d d) n):w2 (aj i) (jg (wC (.int 1))) aB δ n Q:=ar (au e k)
theorem LN:c7 uC FI ["programs","stand","hand","act","place","notes","names"]:=λws n Q h=>by
 obtain⟨ps,hs,ns,h,rfl,⟨okp,okh,okn⟩,hh,k⟩:=h;obtain⟨P,xb,xp,nm,w,as,H⟩:=mJ okh hh;have hlt:h < hs.length:=by rw[okh.1];exact hh
 have hl5:hs.length<=5:=by rw[okh.1];exact okp.1
 show FI [ae (.w (.d (aZ ps))),ae (.w (.d (bg hs ns))),ae (.w (.d (.int h))),af,af,af,af] n _;refine aE (bE (λQ q=>sT rfl rfl rfl okh hh q) ?_);dsimp only[Be];cases ea:aU ps hs h with
 |none=>
  unfold dJ at k;rw[H.prog,H.hand,ea]at k;exact aE (cF (λQ q=>aT (k:=ah) (λQ q=>ar (au rfl (aH (gh q)))) q) (bG (aH k)))
 |some a=>
  have oa:=H.ok okp ea;show aq _ _ [ae (.w (.d (aZ ps))),ae (.w (.d (bg hs ns))),ae (.w (.d (.int h))),ae (.w (.d a.d)),af,af,af] n _;cases ef:a.pf with
  |some fs=>
   obtain⟨of,s,r,e,h1,_⟩:=xC ef oa;have ha:Q (.d (iK (dJ ps hs ns h))) n->aJ n6 (ao ↥0 (ao ↥1 (ao ↥2 (ao ↥3 ak)))) [ae (.w (.d (aZ ps))),ae (.w (.d (bg hs ns))),ae (.w (.d (.int h))),ae (.w (.d a.d)),af,af,af] n Q:=λk=>
    nQ (au rfl (au rfl (au rfl (au rfl ⟨ps,hs,ns,h,a,rfl,⟨okp,okh,okn⟩,hh,ea,by rw[ef];rfl,k⟩))))
   rw[e]at ha ⊢;refine aE (bu (λQ q=>aT (k:=ai) (λQ q=>ar (au rfl (aH (gh q)))) q) ?_);dsimp only[aN];exact aE (cF (λQ q=>AV (λQ q=>dv rfl q) h1 q) (bG (ha k)))
  |none=>
   rw[vp H ea]at k;have pre:∀(V:aF)(s:Str)(r:List Ab),a.d=.tuple (.str s::r)->cz (.str s) [.str "take",.str "read",.str "look"]=ai->
     V [ae (.w (.d (aZ ps))),ae (.w (.d (bg hs ns))),ae (.w (.d (.int h))),ae (.w (.d a.d)),ae (.w (.d (bQ (xb,xp,nm)))),ae (.w (.d (dq ns))),ae (.w (.d (cx nm)))] n {nx:=λ_ n=>Q (.d .none) n,rt:=Q}->
     aq (aV (cT (w2 ↥3 (wC .none) (bc ai))) (aw (wC .none)) aN) (aq (aV (cT (ig Zg (w2 ↥3 ⇑0 aB))) (aw (aJ n6 (ao ↥0 (ao ↥1 (ao ↥2 (ao ↥3 ak)))))) aN) (aq (aA 4 (w2 (w2 ↥1 ⇑0 aB) ↥2 aB)) (aq (aA 5 (w2 ↥1 ⇑1 aB)) (aq (aA 6 (w2 ↥4 ⇑2 aB)) V))))
      [ae (.w (.d (aZ ps))),ae (.w (.d (bg hs ns))),ae (.w (.d (.int h))),ae (.w (.d a.d)),af,af,af] n {nx:=λ_ n=>Q (.d .none) n,rt:=Q}:=λV s r e h1 kk=>by
    rw[e]at kk ⊢;refine aE (bu (λQ q=>aT (k:=ai) (λQ q=>ar (au rfl (aH (gh q)))) q) ?_);dsimp only[aN];refine aE (bu (λQ q=>AV (λQ q=>dv rfl q) h1 q) ?_);dsimp only[aN];refine aE (bE (x:=bQ (xb,xp,nm)) (λQ q=>ar (ar (au rfl (aH (eB (au rfl (cM H.hD q))))))) ?_);dsimp only[Be];refine aE (bE (x:=dq ns) (λQ q=>eV rfl q) ?_);dsimp only[Be];refine aE (bE (x:=cx nm) (λQ q=>ar (au rfl (aH (fK q)))) ?_);dsimp only[Be];exact kk
   have fin:∀(x:Hn)(ns':List Nt)(d:Ab),Q (.d (bg (aX hs h x) ns')) n->aw (av (ao (aJ jh (ao (w2 ↥1 ⇑0 aB) (ao ↥2 (ao ↥4 ak)))) (ao ↥5 ak))) [ae (.w (.d (aZ ps))),ae (.w (.d (bg hs ns))),ae (.w (.d (.int h))),ae (.w (.d d)),ae (.w (.d (bQ x))),ae (.w (.d (dq ns'))),ae (.w (.d (cx nm)))] n {nx:=λ_ n=>Q (.d .none) n,rt:=Q}:=λx ns' d q=>
    bG (uO (x:=x) rfl rfl rfl (λQ q=>au rfl q) hlt hl5 q)
   cases a with
   |take fs=>cases ef
   |read fs=>cases ef
   |look fs b=>cases ef
   |lay fs age=>
    obtain⟨hl4,hfv⟩:=H.lay okp ea;refine pre _ "lay" [gZ fs,age] rfl ∅ ?_;refine aE (yu (a:=.str "lay") rfl ∅ (aE ?_));refine bE (x:=dq (ns++[(fX fs nm,age)])) (λQ q=>?_) ?_
    ·refine ar (au rfl (FF (pZ (cP (eV rfl (au rfl ⟨fs,nm,rfl,hl4,hfv,H.nms,?_⟩))))));refine ar (au rfl (aH (fK (Bj (show 2<=1000 by decide) (Bj (show 1<=1000 by decide) (nT (by rw[Ad,C9];have:=okn.1;omega) ?_))))));unfold dq at q;rw[Bw]at q;exact q
    ·dsimp only[Be];refine bE (x:=bQ (b8 (xb,xp,nm) nm)) (λQ q=>cP (au rfl (au rfl ⟨(xb,xp,nm),nm,rfl,q⟩))) ?_;dsimp only[Be];exact fin _ _ _ k
   |same f g b=>
    obtain⟨hf,hg,tf,tg⟩:=H.same okp ea;obtain⟨bl,hbl,obl,_⟩:=H.to okp ea (b:=b) rfl;refine pre _ "same" [f.d,g.d,.int b] rfl ∅ ?_;refine aE (rN (a:=.str "same") rfl ∅ (jH (CB (λQ q=>oR (a:=.str "same") rfl ?_) ?_)))
    ·rw[show cY "same" (.str "same")=ah by decide +kernel];exact q
    refine(show cT _ _ _ _ from cP (au rfl (au rfl ⟨f,g,b,nm,rfl,hf,hg,tf,tg,H.nms,?_⟩)));have k:Q (.d (bg (aX hs h (if fq (gY nm f) (gY nm g)=ah then b8 (xb,xp,nm) nm else bB P b nm)) ns)) n:=k;refine sD (λz=>?_) λz=>?_
    ·rw[if_pos z]at k;refine bE (x:=bQ (b8 (xb,xp,nm) nm)) (λQ q=>cP (au rfl (au rfl ⟨(xb,xp,nm),nm,rfl,q⟩))) ?_;dsimp only[Be];exact fin _ _ _ k
    ·rw[if_neg (by rw[z];exact Ak)]at k;refine bE (x:=bQ (bB P b nm)) (λQ q=>cf (ar (au rfl (au rfl (cM H.pD (TF rfl (au rfl ⟨P,b,nm,bl,rfl,hbl,obl.1,q⟩))))))) ?_;dsimp only[Be];exact fin _ _ _ k
   |go b=>
    obtain⟨bl,hbl,obl,_⟩:=H.to okp ea (b:=b) rfl;refine pre _ "go" [.int b] rfl ∅ ?_;refine aE (rN (a:=.str "go") rfl ∅ (bu (λQ q=>AY (λQ q=>oR (a:=.str "go") rfl ?_) q) ?_))
    ·rw[show cY "same" (.str "go")=ai by decide +kernel];exact q
    refine bE (x:=bQ (bB P b nm)) (λQ q=>cf (ar (au rfl (au rfl (cM H.pD (Jz rfl (au rfl ⟨P,b,nm,bl,rfl,hbl,obl.1,q⟩))))))) ?_;dsimp only[Be];exact fin _ _ _ k
theorem NG(k:Q (.d (.bool (decide (a=b)))) n):bM (.d (.int a)) (.d (.int b)) n Q:=k
theorem L9:c7 bq zp ["programs","stand","mover","clock"]:=λws n Q h=>by
 obtain⟨ps,hs,ns,m,rfl,ok,hm,k⟩:=h;show zp [ae (.w (.d (aZ ps))),ae (.w (.d (bg hs ns))),ae (.w (.d (.int m))),af] n _;refine aE (bE (x:=.int ps.length) (λQ q=>b6 (au rfl (show Q (.d (.int ((ps.map h9).length:Nat))) n by rw[Ad];exact q))) ?_);dsimp only[Be];refine aE (bu (λQ q=>y4 (k:=ah) (λQ q=>aT (k:=ah) (λQ q=>cP (au rfl (au rfl ⟨_,_,rfl,by omega,by omega,q⟩))) q) q) ?_);dsimp only[aN];unfold cE at k;refine bG (kW (b:=decide ((m:Int)=ps.length)) (λQ q=>aT (λQ q=>ar (au rfl (au rfl (NG q)))) q) ?_);by_cases e:m=ps.length
 ·rw[if_pos e]at k;rw[if_pos (decide_eq_true ⋯)];exact gJ (au rfl ⟨hs,ns,rfl,λq hq=>(ok.2.2.2 q hq).2,k⟩)
 ·rw[if_neg e]at k;rw[if_neg (by rw[decide_eq_false ⋯];exact Ak)];exact cf (au rfl (au rfl (au rfl ⟨ps,hs,ns,m,rfl,ok,by omega,k⟩)))
theorem zX:∀{xs ys:List Str},xs.Nodup->ys.Nodup->(∀k,k∈xs↔k∈ys)->pB xs->pB ys->xs=ys
 |[],[],_,_,_,_,_=>rfl
 |[],y::ys,_,_,h,_,_=>by have:=(h y).mpr Au;simp at this
 |x::xs,[],_,_,h,_,_=>by have:=(h x).mp Au;simp at this
 |x::xs,y::ys,n1,n2,h,u1,u2=>by
  obtain⟨a1,b1⟩:=Df.mp n1;obtain⟨a2,b2⟩:=Df.mp n2;obtain⟨c1,d1⟩:=List.pairwise_cons.mp u1;obtain⟨c2,d2⟩:=List.pairwise_cons.mp u2;have e:x=y:=by
   rcases Aw.mp ((h x).mp Au)with e|hx
   ·exact e
   ·rcases Aw.mp ((h y).mpr Au)with e|hy
    ·exact e.symm
    ·exact IE _ _ (c2 x hx) (c1 y hy)
  subst e;rw[zX b1 b2 (λk=>⟨λhk=>?_,λhk=>?_⟩) d1 d2]
  ·rcases Aw.mp ((h k).mp (An _ hk))with e|q
   ·exact absurd (e▸hk) a1
   ·exact q
  ·rcases Aw.mp ((h k).mpr (An _ hk))with e|q
   ·exact absurd (e▸hk) a2
   ·exact q
theorem KO{nm:Nm}(nd:(nm.map (·.1)).Nodup)(up:j8 nm)(wn:w.Nodup)(wu:pB w)(sub:∀k∈w,k∈nm.map (·.1)):nm.filter (λp=>decide (p.1∈w))=w.map λk=>(k,jK nm k):=by
 have ek:(nm.filter λp=>decide (p.1∈w)).map (·.1)=w:=by
  refine zX ?_ wn (λk=>⟨λhk=>?_,λhk=>?_⟩) ?_ wu
  ·exact List.Nodup.sublist (List.Sublist.map _ G8) nd
  ·obtain⟨p,hp,rfl⟩:=A3.mp hk;exact of_decide_eq_true (Ef.mp hp).2
  ·obtain⟨p,hp,rfl⟩:=A3.mp (sub k hk);exact A3.mpr ⟨p,Ef.mpr ⟨hp,decide_eq_true hk⟩,rfl⟩
  ·unfold pB;rw[List.pairwise_map];exact List.Pairwise.sublist G8 up
 have e2:(nm.filter λp=>decide (p.1∈w))=(nm.filter λp=>decide (p.1∈w)).map λp=>(p.1,jK nm p.1):=by
  have:(nm.filter λp=>decide (p.1∈w)).map id=(nm.filter λp=>decide (p.1∈w)).map λp=>(p.1,jK nm p.1):=by
   refine Dy λp hp=>?_;have:=LA nd (Ef.mp hp).1;show p=(p.1,jK nm p.1);unfold jK;rw[this];rfl
  rw[List.map_id]at this;exact this
 rw[e2]
 conv=>rhs;rw[<-ek]
 rw[Cj];rfl
theorem Uq(nd:(nm.map (·.1)).Nodup)(h:cn fs row nm=ah):((e7 fs row nm).map (·.1)).Nodup/\(wk (fs.zip row) nm []=ae (e7 fs row nm)):=by
 unfold cn at h;rw[Bm]at h;unfold e7;obtain⟨x,hx⟩:=Eu.mp h.2;rw[hx];exact⟨jS _ _ _ _ nd hx,rfl⟩
theorem rC:∀(l:List (Fd×Ab))(h:Nm)(hs:List Str)(k:Nm),(∀p∈l,p.1.ok/\bS p.2=ah)->(∀p∈h,fh p)->wk l h hs=ae k->(∀p∈k,fh p)/\k.length<=h.length+l.length
 |[],h,hs,k,_,ho,e=>by cases e;exact⟨ho,Am _⟩
 | (f,v)::r,h,hs,k,hl,ho,e=>by
  have hr:∀p∈r,p.1.ok/\bS p.2=ah:=λp hp=>hl p (An _ hp);have same:wk r h hs=ae k->(∀p∈k,fh p)/\k.length<=h.length+((f,v)::r).length:=λe=>by
   have:=rC r h hs k hr ho e;exact⟨this.1,by rw[Bf];omega⟩
  cases f with
  |is w=>unfold wk at e;split at e;exact same e;cases e
  |any=>unfold wk at e;exact same e
  |word=>unfold wk at e;split at e;exact same e;cases e
  |number=>unfold wk at e;split at e;exact same e;cases e
  |as x=>
   unfold wk at e
   split at e
   ·split at e
    ·exact same e
    ·cases e
   ·cases e
  |bind x=>
   unfold wk at e
   split at e
   ·split at e
    ·split at e
     ·exact same e
     ·cases e
    ·cases e
   ·have hb:=hl _ Au;have:=rC r (put h x v) (hs++[x]) k hr (qU ho hb.1 hb.2) e;have:=t5 h x v;exact⟨by have:=rC r (put h x v) (hs++[x]) k hr (qU ho hb.1 hb.2) e;exact this.1,by rw[Bf];omega⟩
theorem Uc(of:lQ fs)(or:vB row):∀p∈fs.zip row,p.1.ok/\bS p.2=ah:=λp hp=>by
 obtain⟨p1,p2⟩:=p;exact⟨of.2.2 _ (Gg hp).1,or.2 _ (Gg hp).2⟩
def Sm(k w:Nat)(d:Ab):Prop:=Cf d=ah/\Dc d<=k/\Gz d<=w/\Fw 13 d=ah/\Ff d=ah
theorem Sm.small(h:Sm k w d)(hk:k<=20)(hw:w<=2 ^ 20):Small d:=⟨h.1,by have:=h.2.1;omega,by have:=h.2.2.1;omega,h.2.2.2⟩
theorem FE:∀ds:List Ab,(∀d∈ds,Sm k w d)->Fk ds=ah/\Gc ds<=k/\PyData.weightAll ds<=(w+1)*ds.length/\PyData.intsShortAll 13 ds=ah/\PyData.showableAll ds=ah
 |[],_=>⟨rfl,Az _,Az _,rfl,rfl⟩
 |d::r,h=>by
  obtain⟨a1,a2,a3,a4,a5⟩:=FE r λx hx=>h x (An _ hx);obtain⟨b1,b2,b3,b4,b5⟩:=h d Au;refine⟨?_,?_,?_,?_,?_⟩
  ·rw[Fk,a1,b1];rfl
  ·rw[Gc];omega
  ·rw[PyData.weightAll,Bf,Nat.mul_succ];omega
  ·rw[PyData.intsShortAll,a4,b4];rfl
  ·rw[PyData.showableAll,a5,b5];rfl
theorem lV(h:∀d∈ds,Sm k w d)(hl:ds.length<=m):Sm (k+1) ((w+1)*m) (.tuple ds):=by
 obtain⟨a1,a2,a3,a4,a5⟩:=FE ds h;have:=Nat.mul_le_mul_left (w+1) hl;refine⟨by rw[Cf];exact a1,by rw[Dc];omega,by rw[Gz];omega,by rw[Fw];exact a4,by rw[Ff];exact a5⟩
theorem Sm.up(h:Sm k w d)(hk:k<=k')(hw:w<=w'):Sm k' w' d:=⟨h.1,Bb h.2.1 hk,Bb h.2.2.1 hw,h.2.2.2⟩
theorem pY(h:bS d=ah):Sm 0 20 d:=by
 cases d with
 |str x=>
  have h:(decide (x.length<=8)&&(Fb x&&decide (x="a"\/x="ab"\/x="go")))=ah:=h;rw[Bm,Bm]at h;have h1:x.cps.size<=8:=of_decide_eq_true h.1;refine⟨?_,by rw[Dc];exact Am _,?_,by rw[Fw],by rw[Ff]⟩
  ·rw[Cf];exact h.2.1
  ·rw[Gz];omega
 |int i=>
  simp only[bS,Bm,decide_eq_true_eq]at h;exact⟨by rw[Cf],by rw[Dc];exact Am _,h.2.2.1,h.2.2.2.1,h.2.2.2.2⟩
 |_=>cases h
theorem RA(h:kG x):Sm 0 20 (.str x):=by
 have h1:x.cps.size<=4:=h.1;refine⟨?_,by rw[Dc];exact Am _,?_,by rw[Fw],by rw[Ff]⟩
 ·rw[Cf];exact h.2.1
 ·rw[Gz];omega
theorem vP(ha:Sm k w a)(hb:Sm k w b):Sm (k+1) ((w+1)*2) (.tuple [a,b]):=lV (λd hd=>by
 simp only[Aw,Bh,or_false]at hd;rcases hd with rfl|rfl
 ·exact ha
 ·exact hb) (Am _)
theorem Lu(h:∀p∈nm,fh p)(hl:nm.length<=40):Sm 2 1720 (cx nm):=(lV (k:=1) (w:=42) (m:=40) (ds:=nm.map ja) (λd hd=>by
 obtain⟨p,hp,rfl⟩:=A3.mp hd;exact vP (RA (h p hp).1) (pY (h p hp).2)) (by rw[Ad];exact hl)).up (Am _) ∎
theorem LF(h:jm d):Sm 0 20 d:=by
 rcases h with rfl|⟨i,rfl,h0,h1⟩
 ·exact⟨rfl,Am _,by decide,rfl,rfl⟩
 ·exact pY (g9 ⋯ ⋯)
theorem UK(h1:h.1<=99)(h2:h.2.1<=99)(ho:∀p∈h.2.2,fh p)(hl:h.2.2.length<=40):Sm 3 5163 (bQ h):=lV (k:=2) (w:=1720) (m:=3) (λd hd=>by
 simp only[Aw,Bh,or_false]at hd;rcases hd with rfl|rfl|rfl
 ·exact(pY (g9 ⋯ ⋯)).up ∎ ∎
 ·exact(pY (g9 ⋯ ⋯)).up ∎ ∎
 ·exact Lu ho hl) (Am _)
theorem OA(h:oj q):Sm 2 170 (dF q):=vP ((lV (k:=0) (w:=20) (m:=4) (λd hd=>pY (h.1.2 d hd)) h.1.1.1)) ((LF h.2).up ∎ ∎)
theorem O7(okp:cV ps)(okh:okHs ps hs)(okn:dI 101 ns):Small (bg hs ns):=by
 have h1:Sm 4 25820 (.tuple (hs.map bQ)):=lV (k:=3) (w:=5163) (m:=5) (λd hd=>by
  obtain⟨h,hh,rfl⟩:=A3.mp hd;obtain⟨i,hi⟩:=B7.mp hh;have hil:=(Al.mp hi).1;have hil':i < ps.length:=by rw[<-okh.1];exact hil
  have hP:ps[i]?=ae ps[i]:=Ag hil';obtain⟨h',b,e1,e2,e3⟩:=okh.2 i _ hP;rw[hi]at e1;cases e1;have og:=okp.2 _ (A1 hP);have hb:=(Al.mp e2).1;have ob:=(og.2.2 b (A1 e2)).1;have:=e3.pl;have:=ob.2.2.1;have:=og.2.1;exact UK ⋯ ⋯ e3.ok e3.ln) (by rw[Ad,okh.1];exact okp.1)
 have h2:Sm 3 17271 (dq ns):=lV (k:=2) (w:=170) (m:=101) (λd hd=>by
  obtain⟨q,hq,rfl⟩:=A3.mp hd;exact OA (okn.2 q hq)) (by rw[Ad];exact okn.1)
 exact(vP h1 (h2.up ∎ ∎)).small ∎ ∎
theorem Uy(hh:h < hs.length):aX hs h x=hs.set h x:=by
 rw[List.set_eq_take_append_cons_drop,if_pos hh];rfl
theorem okHs.put(ok:okHs ps hs)(hP:ps[h]?=ae P)(hb:P[x.1]?=ae b)(hx:okHn b x):okHs ps (aX hs h x):=by
 have hh:h < hs.length:=by rw[ok.1];exact(Al.mp hP).1
 rw[Uy hh];refine⟨by rw[B8];exact ok.1,λi P' hi=>?_⟩;by_cases e:h=i
 ·subst e;rw[hP]at hi;cases hi;exact⟨x,b,Bq hh,hb,hx⟩
 ·obtain⟨h',b',e1,e2,e3⟩:=ok.2 i P' hi;exact⟨h',b',by rw[A6 e];exact e1,e2,e3⟩
theorem ya(h:as[p]?=ae a):kn w as (p+1)=kn w as p++a.bs:=by
 unfold kn;rw[List.take_add_one,h,List.flatMap_append,Bk];simp
theorem ue:∀(l:List (Fd×Ab))(h:Nm)(hs:List Str)(k:Nm),(∀x∈hs,x∈h.map (·.1))->wk l h hs=ae k->∀x,x∈k.map (·.1)↔x∈h.map (·.1)\/∃p∈l,p.1=.bind x
 |[],h,hs,k,_,e,x=>by cases e;simp
 | (f,v)::r,h,hs,k,hh,e,x=>by
  have same:wk r h hs=ae k->(∀y,f=.bind y->y∈h.map (·.1))->(x∈k.map (·.1)↔x∈h.map (·.1)\/∃p∈(f,v)::r,p.1=.bind x):=λe nb=>by
   rw[ue r h hs k hh e x]
   constructor
   ·rintro(q|⟨p,hp,q⟩)
    ·exact .inl q
    ·exact .inr ⟨p,An _ hp,q⟩
   ·rintro(q|⟨p,hp,q⟩)
    ·exact .inl q
    ·rcases Aw.mp hp with rfl|hp
     ·exact .inl (nb x q)
     ·exact .inr ⟨p,hp,q⟩
  cases f with
  |is w=>unfold wk at e;split at e;exact same e (λy z=>by cases z);cases e
  |any=>unfold wk at e;exact same e (λy z=>by cases z)
  |word=>unfold wk at e;split at e;exact same e (λy z=>by cases z);cases e
  |number=>unfold wk at e;split at e;exact same e (λy z=>by cases z);cases e
  |as y=>
   unfold wk at e
   split at e
   ·split at e
    ·exact same e (λy z=>by cases z)
    ·cases e
   ·cases e
  |bind y=>
   unfold wk at e
   split at e
   ·rename_i hy
    split at e
    ·split at e
     ·exact same e (λz q=>by cases q;exact hh y hy)
     ·cases e
    ·cases e
   ·have pk:∀z,z∈(put h y v).map (·.1)↔z∈h.map (·.1)\/z=y:=λz=>by
     rw[GS]
     split
     ·rename_i q;obtain⟨p,hp,q⟩:=Dl.mp q;have hy:y∈h.map (·.1):=A3.mpr ⟨p,hp,of_decide_eq_true q⟩;exact⟨.inl,λq=>q.elim id λq=>q▸hy⟩
     ·rw[Bv,Bn]
    rw[ue r (put h y v) (hs++[y]) k (λz hz=>(pk z).mpr ((Bv.mp hz).elim (λq=>.inl (hh z q)) λq=>.inr (Bn.mp q))) e x,pk x]
    constructor
    ·rintro((q|rfl)|⟨p,hp,q⟩)
     ·exact .inl q
     ·exact .inr ⟨_,Au,rfl⟩
     ·exact .inr ⟨p,An _ hp,q⟩
    ·rintro(q|⟨p,hp,q⟩)
     ·exact .inl (.inl q)
     ·rcases Aw.mp hp with rfl|hp
      ·cases q;exact .inl (.inr rfl)
      ·exact .inr ⟨p,hp,q⟩
theorem N4{row:List Ab}(hp:∀f∈gs,f.pt=ah)(hl:(gs.map Fe.fd).length=row.length)(x):(∃p∈(gs.map Fe.fd).zip row,p.1=.bind x)↔x∈fu gs:=by
 unfold fu;rw[Gh]
 constructor
 ·rintro⟨⟨a,b⟩,hp',e⟩
  obtain⟨f,hf,e'⟩:=A3.mp (Gg hp').1;refine⟨f,hf,?_⟩;have e:a=.bind x:=e;rw[e]at e';cases f<;>first|(cases e';rfl)|cases e'
 ·rintro⟨f,hf,e⟩
  have ef:f=.bind x:=by cases f<;>first|(cases e;rfl)|cases e
  subst ef;obtain⟨i,hi⟩:=B7.mp hf;have hil:=(Al.mp hi).1;rw[Ad]at hl;refine⟨(.bind x,row[i]'⋯),B7.mpr ⟨i,?_⟩,rfl⟩;rw[List.getElem?_zip_eq_some];exact⟨by rw[Aq,hi];rfl,Ag ⋯⟩
theorem Lf(h:jm d)(h1:ik d=ai):jm (jD d):=by
 rcases h with rfl|⟨i,rfl,h0,h2⟩
 ·exact .inl rfl
 ·have:¬i=1:=by simpa[ik]using h1
  exact .inr ⟨i-1,rfl,by omega,by omega⟩
theorem Mh(h:dI m ns):dI m (gp ns):=by
 unfold gp;refine⟨by rw[Ad];exact Bb (List.length_filter_le _ _) h.1,λq hq=>?_⟩;obtain⟨p,hp,rfl⟩:=A3.mp hq;obtain⟨h1,h2⟩:=Ef.mp hp;exact⟨(h.2 p h1).1,Lf (h.2 p h1).2 (by simpa using h2)⟩
theorem QR(okp:cV ps)(okh:okHs ps hs)(okn:dI M ns)(hm:m<=ps.length)(e:cE ps hs ns m=ae r):okHs ps r.1/\dI (M+1) r.2:=by
 unfold cE at e;by_cases em:m=ps.length
 ·rw[if_pos em]at e;cases e;have:=Mh okn;exact⟨okh,Nat.le_succ_of_le this.1,this.2⟩
 rw[if_neg em]at e;have hh:m < ps.length:=by omega
 obtain⟨P,xb,xp,nm,w,as,H⟩:=mJ okh hh;cases ea:aU ps hs m with
 |none=>
  unfold dJ at e;rw[H.prog,H.hand,ea]at e;cases e
 |some a=>
 rw[vp H ea]at e;have oa:=H.ok okp ea;have ea':=ea;rw[H.act]at ea';have hxp:xp < as.length:=(Al.mp ea').1;have okn':dI (M+1) ns:=⟨Nat.le_succ_of_le okn.1,okn.2⟩;have on:a.bs=[]->okHs ps (aX hs m (b8 (xb,xp,nm) nm)):=λhb=>okh.put H.prog (x:=b8 (xb,xp,nm) nm) H.blk ⟨hxp,H.hn.nd,H.hn.ok,H.hn.up,λk=>by
  show k∈nm.map (·.1)↔k∈kn w as (xp+1);rw[ya ea',hb,Cc];exact H.hn.mem k,H.hn.ln⟩
 have to:∀b,a.to=ae b->okHs ps (aX hs m (bB P b nm)):=λb hb=>by
  obtain⟨bl,hbl,obl,sub⟩:=H.to okp ea hb;have ew:o9 P b=bl.1:=by unfold o9;rw[hbl];rfl
  refine okh.put H.prog (x:=bB P b nm) hbl ?_;have en:(bB P b nm).2.2=bl.1.map λk=>(k,jK nm k):=by
   unfold bB;rw[ew];exact KO H.hn.nd H.hn.up obl.2.2.2.2.1 obl.2.2.2.2.2 sub
  have ek:(bB P b nm).2.2.map (·.1)=bl.1:=by rw[en,Cj];exact List.map_id' _
  have sl:(bB P b nm).2.2.Sublist nm:=G8;refine⟨Az _,by rw[ek];exact obl.2.2.2.2.1,λp hp=>H.hn.ok p (sl.subset hp),List.Pairwise.sublist sl H.hn.up,λk=>by rw[ek];unfold kn;show _↔k∈bl.1++(bl.2.take 0).flatMap Ac.bs;simp,Bb sl.length_le H.hn.ln⟩
 have get:∀(gs:List Fe)(i:Nat),a.pf=ae (gs.map Fe.fd)->a.bs=fu gs->fO gs->gq gs->bO (gs.map Fe.fd) nm ns=ae i->okHs ps (aX hs m (b8 (xb,xp,nm) (b9 (e7 (gs.map Fe.fd) (dA ns i) nm)))):=λgs i hpf hbs hof hpat ei=>by
  obtain⟨⟨row,age⟩,hq,hf⟩:=yb ei;have er:dA ns i=row:=by unfold dA;rw[hq];rfl
  rw[er];have oq:=okn.2 _ (A1 hq);obtain⟨ep,op⟩:=oU hof hpat;obtain⟨nd,ew⟩:=Uq H.hn.nd hf;obtain⟨wo,_⟩:=rC _ _ _ _ (Uc op oq.1) H.hn.ok ew;have hlen:(gs.map Fe.fd).length=row.length:=by
   unfold cn at hf;rw[Bm]at hf;exact of_decide_eq_true hf.1
  have pm:=x9 (e7 (gs.map Fe.fd) row nm);have pk:((b9 (e7 (gs.map Fe.fd) row nm)).map (·.1)).Perm ((e7 (gs.map Fe.fd) row nm).map (·.1)):=pm.map _;have hmem:∀k,k∈(b9 (e7 (gs.map Fe.fd) row nm)).map (·.1)↔k∈kn w as (xp+1):=λk=>by
   rw[pk.mem_iff,ue _ _ _ _ (λx hx=>by simp at hx) ew k,N4 hpat.2 hlen,ya ea',Bv,hbs];exact or_congr (H.hn.mem k) Iff.rfl
  have nd':=pk.nodup_iff.mpr nd;refine okh.put H.prog (x:=b8 (xb,xp,nm) _) H.blk ⟨hxp,nd',λp hp=>wo p (pm.mem_iff.mp hp),BO _,hmem,?_⟩;have:=zt nd' (ks:=kn w as (xp+1)) λk hk=>(hmem k).mp hk;rw[Ad]at this;have h36:=Ku (H.okb okp).1 (xp+1);exact Bb this (Bb h36 ∎)
 cases a with
 |lay fs age=>
  cases e;obtain⟨hl4,hfv⟩:=H.lay okp ea;refine⟨on rfl,by rw[A2,C9];have:=okn.1;omega,λq hq=>?_⟩;rcases Bv.mp hq with hq|hq
  ·exact okn.2 q hq
  ·rw[Bn.mp hq];exact⟨⟨⟨by show(fX fs nm).length<=4;unfold fX;rw[Ad];exact hl4,by show 1<=(fX fs nm).length;unfold fX;rw[Ad];exact oa.2.2.2⟩,λd hd=>by
    obtain⟨f,hf,rfl⟩:=A3.mp hd;exact ly (hfv f hf)⟩,oa.2.2.1⟩
 |go b=>cases e;exact⟨to b rfl,okn'⟩
 |same f g b=>
  cases e;refine⟨?_,okn'⟩;show okHs ps (aX hs m (if fq (gY nm f) (gY nm g)=ah then b8 (xb,xp,nm) nm else bB P b nm))
  split
  ·exact on rfl
  ·exact to b rfl
 |take gs=>
  have e:(((cm gs (xb,xp,nm) ns).map λq=>(q.2,de ns q.1)).map λr=>(aX hs m r.1,r.2))=ae r:=e;cases ei:bO (gs.map Fe.fd) nm ns with
  |none=>rw[mM ei]at e;cases e
  |some i=>
   rw[mj ei]at e;cases e;refine⟨get gs i rfl rfl oa.1 oa.2 ei,?_,λq hq=>?_⟩
   ·show(de ns i).length<=_;unfold de;rw[A2,C4,D5];have:=okn.1;omega
   ·rcases Bv.mp hq with hq|hq
    ·exact okn.2 q (List.mem_of_mem_take hq)
    ·exact okn.2 q (List.mem_of_mem_drop hq)
 |read gs=>
  have e:(((cm gs (xb,xp,nm) ns).map λq=>(q.2,ns)).map λr=>(aX hs m r.1,r.2))=ae r:=e;cases ei:bO (gs.map Fe.fd) nm ns with
  |none=>rw[mM ei]at e;cases e
  |some i=>
   rw[mj ei]at e;cases e;exact⟨get gs i rfl rfl oa.1 oa.2 ei,okn'⟩
 |look gs b=>
  have e:((match cm gs (xb,xp,nm) ns with|some q=>ae (q.2,ns)|none=>ae (bB P b nm,ns):Option (Hn×List Nt)).map λr=>(aX hs m r.1,r.2))=ae r:=e;cases ei:bO (gs.map Fe.fd) nm ns with
  |none=>
   rw[mM ei]at e;cases e;exact⟨to b rfl,okn'⟩
  |some i=>
   rw[mj ei]at e;cases e;exact⟨get gs i rfl rfl oa.1 oa.2 ei,okn'⟩
theorem Rb(hw:∀Q:DQ,Q (.d x) n->w δ n Q)(k:Q (.d (.tuple [x])) n):av (ao w ak) δ n Q:=hw _ (Bj (show 1<=1000 by decide) k)
theorem kY{α:Type}{rest:Sl}(f g):∀(xs:List α)(acc:List Ab)(x:Option SV)(n:Int),(∀a∈xs,∀(n:Int)(Q':DQ),Q' (.d (g a)) n->w (ae (.w (.d (f a)))::rest) n Q')->Q (acc++xs.map g) n->eY (cj 0) dG w Q (xs.map f) acc (x::rest) n
 |[],acc,x,n,_,q=>by rw[List.map_nil,Cc]at q;exact q
 |a::r,acc,x,n,h,q=>by
  simp only[Bg,eY,cj,dG,if_true,List.set_cons_zero];refine h a Au n _ (kY f g r (acc++[g a]) _ n (λb hb=>h b (An _ hb)) ?_);rw[Bk];exact q
theorem RQ{α:Type}{xs:List α}{p:α->Bool}(k:Q (.d (.bool (xs.all p))) n):ji [.d (.list (xs.map λa=>.bool (p a)))] n Q:=by
 show(match iN (xs.map λa=>.bool (p a))with|some bs=>Q (.d (.bool (bs.all id))) n|none=>False);rw[vj p xs];show Q (.d (.bool ((xs.map p).all id))) n;rw[List.all_map];exact k
theorem MH{α:Type}{xs:List α}{p:α->Bool}(k:Q (.d (.bool (xs.any p))) n):i6 [.d (.list (xs.map λa=>.bool (p a)))] n Q:=by
 show(match iN (xs.map λa=>.bool (p a))with|some bs=>Q (.d (.bool (bs.any id))) n|none=>False);rw[vj p xs];show Q (.d (.bool ((xs.map p).any id))) n;rw[List.any_map];exact k
theorem Qi(b:Bs):∃(s:Str)(r:List Ab),b.d=.tuple (.str s::r)/\cz (.str s) [.str "all",.str "some"]=ai/\cY "not" (.str s)=ai:=by
 cases b with
 |notes fs k=>exact⟨"notes",_,rfl,by decide +kernel,by decide +kernel⟩
 |«at» h b p=>exact⟨"at",_,rfl,by decide +kernel,by decide +kernel⟩
 |ended h=>exact⟨"ended",_,rfl,by decide +kernel,by decide +kernel⟩
theorem SF(k):cz (.str (lq k)) [.str "all",.str "some"]=ah:=by cases k<;>decide +kernel
theorem Qz:c7 qK qF ["sight"]:=λws n Q h=>by
 obtain⟨t,g,rfl,k⟩:=h;have base:∀b:Bs,Q (.d (.tuple [])) n->qF [ae (.w (.d b.d))] n {nx:=λ_ n=>Q (.d .none) n,rt:=Q}:=λb q=>by
  obtain⟨s,r,e,h1,h2⟩:=Qi b;rw[e];refine aE (bu (λQ q=>wM rfl h1 q) ?_);dsimp only[aN];refine bG (kW (b:=ai) (λQ q=>oR (i:=0) (a:=.str s) (r:=r) rfl (by show Q (cY "not" (.str s)) n;rw[h2];exact q)) ?_);rw[if_neg Ak];exact Bj (Az _) q
 cases t with
 |zero=>exact base g k
 |succ t=>
  match g,k with
  |.inl b,k=>exact base b k
  |.inr (.inl q),k=>
   show qF [ae (.w (.d (.tuple [.str (lq q.1),.tuple (q.2.map (Sg.d t))])))] n _;exact aE (cF (λQ q'=>wM rfl (SF q.1) q') (bG (eV rfl k)))
  |.inr (.inr s),k=>
   show qF [ae (.w (.d (.tuple [.str "not",Sg.d t s])))] n _;refine aE (bu (λQ q=>wM rfl ∅ q) ?_);dsimp only[aN];refine bG (kW (b:=ah) (λQ q=>oR (i:=0) (a:=.str "not") (r:=[Sg.d t s]) rfl (by show Q (cY "not" (.str "not")) n;rw[show cY "not" (.str "not")=ah by decide +kernel];exact q)) ?_);rw[if_pos rfl];exact Rb (λQ q=>eV rfl q) k
theorem ne_str(k:Q (.d (.bool (!cY h (.str s)))) n):ib (.d (.str s)) (.d (.str h)) n Q:=k
theorem yI(e:δ[i]?=ae (ae (.w (.d (Sg.d t g)))))(q:Q (.d (.tuple (Sg.subs t g))) n):aJ qK (ao (aj i) ak) δ n Q:=gJ (au e ⟨t,g,rfl,q⟩)
theorem Ug:c7 xX zC ["pattern","notes"]:=λws n Q h=>by
 obtain⟨fs,ns,rfl,hf,hns,k⟩:=h;show zC [ae (.w (.d (cG fs))),ae (.w (.d (dq ns)))] n _;refine bG (b6 (bX (lT (ds:=ns.map dF) (λQ q=>au rfl q) ?_)));refine jT dF dF (λq=>holds fs q.1) ns [] af n (λa ha n Q' q=>?_) (λa ha n Q' q=>au rfl q) ?_
 ·refine aT (k:=holds fs a.1) (λQ q=>ar (cf (au rfl (dv (a:=.tuple a.1) (r:=[a.2]) rfl (Bj (Az _) ?_))))) q;refine Exists.intro fs ⟨a.1,[],rfl,hf,(hns.2 a ha).1,⟨Az _,by simp,λp hp=>by simp at hp⟩,aH ?_⟩;show Q (.d (.bool (!eZ (d8 fs a.1 [])))) n;rw[IG,Bool.not_not];exact q
 ·rw[Cg];show Q (.d (.int ((ns.filter λq=>holds fs q.1).map dF).length)) n;rw[Ad];exact k
theorem MA(s h):B4 (.str s) (.str h)=cY h (.str s):=by
 simp only[B4,cY];rw[Dg];simp
theorem fQ(e:δ[i]?=ae (ae (.w (.d (.str s)))))(h1:Fb s=ah)(h2:Fb h=ah)(h3:cY h (.str s)=b):∀Q:Bool->Int->Prop,Q b n->cT (w2 (aj i) (wC (.str h)) (gE λd e=>ae (B4 d e))) δ n Q:=λQ q=>by
 refine aT (k:=b) (λQ q=>ar (au e (aH ?_))) q;refine⟨by simp only[Cf];exact h1,by simp only[Cf];exact h2,by simp[Dc],by simp[Dc],b,?_,q⟩;show ae (B4 (.str s) (.str h))=ae b;rw[MA,h3]
theorem Ka(a b c):dD [a,b,c] af (ae 2)=[a,b]:=zw [a,b,c] (p:=2) (by simp)
theorem RT(a b c d):dD [a,b,c,d] (ae 2) af=[c,d]:=EH [a,b,c,d] (p:=2) (by simp)
theorem uR(k:Q (.d (.bool (decide (b<=a)))) n):vZ (.d (.int a)) (.d (.int b)) n Q:=k
theorem Sn:∀d ws n Q,cJ d ws n Q->ws.length=3:=λd ws n Q h=>by
 cases d with
 |zero=>exact h.elim
 |succ t=>obtain⟨_,_,_,rfl,_⟩:=h;rfl
theorem ME{s:Sd}{h b p xb xp:Nat}(e:s.hs[h]?=ae (xb,xp,xn)):Bs.see ps s (.at h b p)=(decide (xb=b)&&decide (xp=p)):=by
 show(match s.hs[h]? with|some x=>decide (x.1=b)&&decide (x.2.1=p)|none=>ai)=_;rw[e]
theorem FY(hs:jt ps s)(hh:h < ps.length):∃(P:List Bl)(xb xp:Nat)(xn:Nm)(w:List Str)(as:List Ac),ps[h]?=ae P/\s.hs[h]?=ae (xb,xp,xn)/\P[xb]?=ae (w,as)/\xp<=as.length:=by
 have hP:ps[h]?=ae ps[h]:=Ag hh;obtain⟨⟨xb,xp,xn⟩,⟨w,as⟩,e1,e2,e3⟩:=hs.1.2 h _ hP;exact⟨_,xb,xp,xn,w,as,hP,e1,e2,e3.pl⟩
theorem JR(k m:Nat):decide ((k:Int)<=(m:Int))=decide (k<=m):=decide_eq_decide.mpr Int.ofNat_le
theorem Mk(a b c d:Nat):B4 (.tuple [.int a,.int b]) (.tuple [.int c,.int d])=(decide (a=c)&&decide (b=d)):=by
 simp only[B4,PyData.eqvAll,Bool.and_true];rw[Dg];simp;omega
theorem JL(a:Ac):eZ a.d=ai:=by cases a<;>rfl
theorem Ui(hs:jt ps s)(hh:h < ps.length):eZ (m7 (aU ps s.hs h))=eO ps s h:=by
 obtain⟨P,xb,xp,xn,w,as,e0,e1,e2,e3⟩:=FY hs hh;have ea:aU ps s.hs h=as[xp]?:=by
  unfold aU;rw[e0,e1];show(P[xb]?.bind λb=>b.2[xp]?)=_;rw[e2];rfl
 have eb:eO ps s h=decide (xp=as.length):=by
  unfold eO;rw[e1,e0];show(match P[xb]? with|some b=>decide (xp=b.2.length)|none=>ai)=_;rw[e2]
 rw[ea,eb];by_cases z:xp < as.length
 ·rw[Ag z,decide_eq_false ⋯];exact JL _
 ·rw[Cb ⋯,decide_eq_true ⋯];rfl
theorem yA{b:Bs}(hp:cV ps)(hs:jt ps s)(hb:b.ok ps)(k:Q (.d (.bool (b.see ps s))) n):
  wN Sf [ae (.w (.d (aZ ps))),ae (.w (.d s.d)),ae (.w (.d b.d)),af,af] n {nx:=λ_ n=>Q (.d .none) n,rt:=Q}:=by
 cases b with
 |notes fs j=>
  refine aE (bE (x:=.str "notes") (λQ q=>dv rfl q) ?_);dsimp only[Be];refine aE (cF (fQ rfl ∅ ∅ ∅) ?_);refine bG (ar (cP (eV rfl (eV rfl (Exists.intro fs ⟨s.ns,rfl,hb,hs.2,?_⟩)))));refine ll (m:=2) (ds:=[.str "notes",cG fs,.int j]) rfl rfl (uR ?_);rw[JR];exact k
 |«at» h b p=>
  obtain⟨P,xb,xp,xn,w,as,e0,e1,e2,e3⟩:=FY hs hb.1;rw[ME e1]at k;have hs':(s.hs.map bQ)[h]?=ae (bQ (xb,xp,xn)):=by rw[Aq,e1];rfl
  refine aE (bE (x:=.str "at") (λQ q=>dv rfl q) ?_);dsimp only[Be];refine aE (bu (fQ rfl ∅ ∅ ∅) ?_);dsimp only[aN];refine aE (cF (fQ rfl ∅ ∅ ∅) ?_);refine bG (ar ?_);unfold gN;refine ar (dv rfl (eV rfl (cM hs' ?_)));dsimp only[gQ,gW,bQ];refine aH ?_;dsimp only;rw[Ka];refine au rfl ?_;dsimp only[Bs.d];refine aH ?_;dsimp only;rw[RT];refine⟨by simp[Cf,Fk],by simp[Cf,Fk],by simp[Dc,Gc],by simp[Dc,Gc],_,rfl,?_⟩;rw[Mk];exact k
 |ended h=>
  refine aE (bE (x:=.str "ended") (λQ q=>dv rfl q) ?_);dsimp only[Be];refine aE (bu (fQ rfl ∅ ∅ ∅) ?_);dsimp only[aN];refine aE (bu (fQ rfl ∅ ∅ ∅) ?_);dsimp only[aN];refine aE (cF (fQ rfl ∅ ∅ ∅) ?_);refine bG (ar (cf (au rfl (au rfl (eV rfl (Exists.intro ps ⟨s.hs,s.ns,h,rfl,hs.1,hb,aH ?_⟩))))));show Q (.d (.bool (eZ (m7 (aU ps s.hs h))))) n;rw[Ui hs hb];exact k
theorem sC(k)(h)(e:h∈(["notes","at","ended","not"]:List Str)):cY h (.str (lq k))=ai:=by
 simp only[Aw,Bh,or_false]at e;rcases e with rfl|rfl|rfl|rfl<;>cases k<;>decide +kernel
theorem pz(k):Fb (lq k)=ah:=by cases k<;>decide +kernel
theorem K2(k):cY "all" (.str (lq k))=k:=by cases k<;>decide +kernel
theorem Jx:∀d ws n Q,cJ (d+1) ws n Q->wN (cJ d) (cO ["programs","stand","sight","head","seen"] ws) n {nx:=λ_ n=>Q (.d .none) n,rt:=Q}:=λt ws n Q h=>by
 obtain⟨ps,s,g,rfl,hp,hs,hg,k⟩:=h;show wN (cJ t) [ae (.w (.d (aZ ps))),ae (.w (.d s.d)),ae (.w (.d (Sg.d t g))),af,af] n _;cases t with
 |zero=>exact yA hp hs hg k
 |succ t=>
  match g,hg,k with
  |.inl b,hg,k=>exact yA hp hs hg k
  |.inr (.inl q),hg,k=>
   refine aE (bE (x:=.str (lq q.1)) (λQ q'=>dv rfl q') ?_);dsimp only[Be];refine aE (bu (fQ rfl (pz q.1) ∅ (sC q.1 _ (by simp))) ?_);dsimp only[aN];refine aE (bu (fQ rfl (pz q.1) ∅ (sC q.1 _ (by simp))) ?_);dsimp only[aN];refine aE (bu (fQ rfl (pz q.1) ∅ (sC q.1 _ (by simp))) ?_);dsimp only[aN];refine aE (show aA 4 _ _ _ _ from bX (lT (ds:=Sg.subs (t+1) (.inr (.inl q))) (λQ q'=>yI (t:=t+1) (g:=.inr (.inl q)) rfl q') ?_));refine kY (Sg.d t) (λu=>.bool (Sg.see ps s t u)) q.2 [] af n (λu hu n Q' q'=>cf (au rfl (au rfl (au rfl ⟨ps,s,u,rfl,hp,hs,hg u hu,q'⟩)))) ?_;rw[Cg];dsimp only[Be];refine aE (bu (fQ rfl (pz q.1) ∅ (sC q.1 _ (by simp))) ?_);dsimp only[aN];refine bG (kW (b:=q.1) (fQ rfl (pz q.1) ∅ (K2 q.1)) ?_);have k:Q (.d (.bool (if q.1 then q.2.all (Sg.see ps s t)else q.2.any (Sg.see ps s t)))) n:=k;cases e:q.1 with
   |true=>rw[e]at k;rw[if_pos rfl];exact b6 (au rfl (RQ k))
   |false=>rw[e]at k;rw[if_neg Ak];exact b6 (au rfl (MH k))
  |.inr (.inr u),hg,k=>
   refine aE (bE (x:=.str "not") (λQ q'=>dv rfl q') ?_);dsimp only[Be];refine aE (bu (fQ rfl ∅ ∅ ∅) ?_);dsimp only[aN];refine aE (bu (fQ rfl ∅ ∅ ∅) ?_);dsimp only[aN];refine aE (bu (fQ rfl ∅ ∅ ∅) ?_);dsimp only[aN];refine aE (show aA 4 _ _ _ _ from bX (lT (ds:=Sg.subs (t+1) (.inr (.inr u))) (λQ q'=>yI (t:=t+1) (g:=.inr (.inr u)) rfl q') ?_));refine kY (Sg.d t) (λu=>.bool (Sg.see ps s t u)) [u] [] af n (λv hv n Q' q'=>cf (au rfl (au rfl (au rfl ⟨ps,s,v,rfl,hp,hs,by rw[Bn.mp hv];exact hg,q'⟩)))) ?_;rw[Cg];dsimp only[Be];refine aE (cF (fQ rfl ∅ ∅ ∅) ?_);exact bG k
theorem EU:∀{ds:List Ab},(∀d∈ds,bV n d=ah)->eG n ds=ah
 |[],_=>by rw[eG]
 |d::r,h=>by rw[eG,h d Au,EU λe he=>h e (An _ he)];rfl
theorem jO(h:∀d∈ds,bV n d=ah):bV (n+1) (.tuple ds)=ah:=by rw[bV];exact EU h
theorem qO(n)(i):bV n (.int i)=ah:=by cases n<;>rw[bV]
theorem EA(h:Fb x=ah):bV n (.str x)=ah:=by cases n<;>(rw[bV];exact h)
theorem oi(h:bS d=ah):bV n d=ah:=by
 cases d with
 |str x=>
  refine EA ?_;unfold bS at h;simp only[Bm]at h;exact h.2.1
 |int i=>exact qO n i
 |_=>cases h
theorem fj{P:Ab->Prop}(ha:P a)(hb:P b)(h:d∈[a,b]):P d:=by
 rcases Aw.mp h with rfl|h
 ·exact ha
 ·rw[Bn.mp h];exact hb
theorem L8(h:∀p∈nm,fh p):bV (n+2) (cx nm)=ah:=jO λd hd=>by
 obtain⟨p,hp,rfl⟩:=A3.mp hd;exact jO λe he=>fj (P:=λe=>bV n e=ah) (EA (h p hp).1.2.1) (oi (h p hp).2) he
theorem SQ(h:jm d):bV n d=ah:=by
 rcases h with rfl|⟨i,rfl,_⟩
 ·cases n<;>rw[bV]
 ·exact qO n i
theorem yN(okh:okHs ps hs):∀h∈hs,∀p∈h.2.2,fh p:=λh hh=>by
 obtain⟨i,hi,e⟩:=F9 hh;obtain⟨h',b,q1,q2,q3⟩:=okh.2 i _ (Ag (by rw[<-okh.1];exact hi));rw[Ag hi,e]at q1;cases q1;exact q3.ok
theorem EF(okh:okHs ps hs)(okn:∀q∈ns,oj q):bV 6 (bg hs ns)=ah:=by
 refine jO λd hd=>fj (P:=λd=>bV 5 d=ah) ?_ ?_ hd
 ·refine jO λd hd=>?_;obtain⟨h,hh,rfl⟩:=A3.mp hd;refine jO λd hd=>?_;rcases Aw.mp hd with rfl|hd
  ·exact qO _ _
  ·exact fj (P:=λd=>bV 3 d=ah) (qO _ _) (L8 (yN okh h hh)) hd
 ·refine jO λd hd=>?_;obtain⟨q,hq,rfl⟩:=A3.mp hd;refine jO λd hd=>fj (P:=λd=>bV 3 d=ah) ?_ (SQ (okn q hq).2) hd;exact jO λd hd=>oi ((okn q hq).1.2 d hd)
def jd(ps:Pg)(s:TK):Option (List Hn×List Nt):=open Classical in if h:∃p:List Hn×List Nt,s.1=bg p.1 p.2/\cQ ps p.1 p.2 then ae h.choose else af
def me(d:Ab):Option TK:=if t:bV 6 d=ah then ae ⟨d,t⟩else af
def bZ(ps:Pg)(s:TK)(m:Nat):Option TK:=(jd ps s).bind λp=>(cE ps p.1 p.2 m).bind λr=>me (bg r.1 r.2)
def Gk(ps:Pg)(c:Nat)(s:TK):Prop:=∃hs ns,s.1=bg hs ns/\cQ ps hs ns/\ns.length+c<=99
theorem qy(h:Gk ps c s):∃hs ns,jd ps s=ae (hs,ns)/\s.1=bg hs ns/\cQ ps hs ns/\ns.length+c<=99:=by
 obtain⟨hs,ns,e,ok,hl⟩:=h;have hx:∃p:List Hn×List Nt,s.1=bg p.1 p.2/\cQ ps p.1 p.2:=⟨(hs,ns),e,ok⟩;refine⟨hx.choose.1,hx.choose.2,by unfold jd;rw[dif_pos hx],hx.choose_spec.1,hx.choose_spec.2,?_⟩;have e2:=e.symm.trans hx.choose_spec.1;unfold bg dq at e2;have e3:=congrArg D8 (Dq (Ba (Ba (Dq e2)).2).1);rw[Ad,Ad]at e3;exact Bb (Nat.le_of_eq (congrArg (λx=>x+c) e3.symm)) hl
section
variable{ps:Pg}{s:TK}{hs:List Hn}{ns:List Nt}{m:Nat}
theorem Ut(h:ps.length < m):cE ps hs ns m=af:=by
 unfold cE dJ;rw[if_neg ⋯,Cb ⋯];rfl
theorem AA(e:jd ps s=ae (hs,ns))(ok:cQ ps hs ns)(ea:cE ps hs ns m=ae r):∃b:TK,bZ ps s m=ae b/\b.1=bg r.1 r.2:=by
 have hm:m<=ps.length:=by
  by_cases z:m<=ps.length
  ·exact z
  ·rw[Ut ⋯]at ea;cases ea
 obtain⟨k1,k2⟩:=QR ok.1 ok.2.1 ok.2.2 hm ea;have t:=EF k1 k2.2;refine⟨⟨_,t⟩,?_,rfl⟩;unfold bZ;rw[e];show((cE ps hs ns m).bind _)=_;rw[ea];show me _=_;unfold me;rw[dif_pos t]
theorem HN(e:jd ps s=ae (hs,ns))(ea:cE ps hs ns m=af):bZ ps s m=af:=by
 unfold bZ;rw[e];show((cE ps hs ns m).bind _)=_;rw[ea];rfl
end
theorem UZ(g:Gk ps c s):∃ds,s.1=.tuple ds:=by
 obtain⟨hs,ns,e,_⟩:=g;exact⟨_,e⟩
theorem UD(g:Gk ps c s)(hi:i<=ps.length)(r:R (.d (match bZ ps s i with|some b=>b.1|none=>.none)) n):bq [.d (aZ ps),.d s.1,.d (.int (i:Nat))] n R:=by
 obtain⟨hs,ns,e,e1,ok,_⟩:=qy g;refine⟨ps,hs,ns,i,by rw[e1],ok,hi,?_⟩;cases ea:cE ps hs ns i with
 |none=>rw[HN e ea]at r;exact r
 |some q=>
  obtain⟨b,h1,h2⟩:=AA e ok ea;rw[h1]at r;have r:R (.d b.1) n:=r;rw[h2]at r;exact r
section
variable{ps:Pg}{Gd:TK->Prop}(h0:∀k,Gd k->Gk ps 0 k)(hc:∀(s:TK) (i:Nat) (b:TK),Gd s->i<=ps.length->bZ ps s i=ae b->Gd b)
include h0 hc
theorem Pr:AfOk bq (aZ ps) ps.length (bZ ps) Gd where
 call:=λ_ _ _ _ g hi r=>UD (h0 _ g) hi r
 good:=hc
 tup:=λ_ g=>UZ (h0 _ g)
 prog:=⟨ps.map h9,rfl,Ad _⟩
end
def fc(ps:Pg)(g:Sg 2)(s:TK):Bool:=match jd ps s with
 |some p=>Sg.see ps ⟨p.1,p.2⟩ 2 g
 |none=>ai
theorem Mt(gs:Gk ps c s)(hg:Sg.ok ps 2 g)(r:R (.d (.bool (fc ps g s))) n):cJ 3 [.d (aZ ps),.d s.1,.d (Sg.d 2 g)] n R:=by
 obtain⟨hs,ns,e,e1,ok,_⟩:=qy gs;unfold fc at r;rw[e]at r;exact⟨ps,⟨hs,ns⟩,g,by rw[e1];rfl,ok.1,⟨ok.2.1,ok.2.2⟩,hg,r⟩
theorem Ru:c7 rS GP ["programs","stand","hand","act"]:=λws n Q h=>by
 obtain⟨ps,hs,ns,h,rfl,ok,hh,k⟩:=h;obtain⟨P,xb,xp,nm,w,as,H⟩:=mJ ok.2.1 hh;show GP [ae (.w (.d (aZ ps))),ae (.w (.d (bg hs ns))),ae (.w (.d (.int h))),af] n _;refine aE (bE (λQ q=>sT rfl rfl rfl ok.2.1 hh q) ?_);dsimp only[Be];cases ea:aU ps hs h with
 |none=>
  unfold fw at k;rw[ea]at k;exact aE (cF (λQ q=>aT (k:=ah) (λQ q=>ar (au rfl (aH (gh q)))) q) (bG (aH k)))
 |some a=>
  rw[Jv ea]at k;obtain⟨s,r,e,h2⟩:=MD (H.ok ok.1 ea);show aq _ _ [ae (.w (.d (aZ ps))),ae (.w (.d (bg hs ns))),ae (.w (.d (.int h))),ae (.w (.d a.d))] n _;rw[e];refine aE (bu (λQ q=>aT (k:=ai) (λQ q=>ar (au rfl (aH (gh q)))) q) ?_);dsimp only[aN];refine bG (show qA _ _ _ _ _ from Lc rfl h2 ?_);rw[T9];cases hw:a.wt with
  |false=>rw[hw]at k;exact k
  |true=>
   rw[hw]at k;rw[if_neg ∎];refine ar (cf (au rfl (au rfl (au rfl ⟨ps,hs,ns,h,rfl,ok,hh,aH (gh ?_)⟩))));show Q (.d (.bool (!eZ (fL (fZ ps hs ns h))))) n;rw[TQ];exact k
theorem UB(ok:cQ ps hs ns)(k:Q (gH ps hs ns) n):eY (cj 0) (cT (aJ rS (ao ↥1 (ao ↥2 (ao ↥0 ak))))) ↥0 Q (dg 0 ps.length) [] [af,ae (.w (.d (aZ ps))),ae (.w (.d (bg hs ns)))] n:=by
 have e:dg 0 ps.length=(A5 ps.length).map λh=>.int (h:Nat):=by
  unfold dg;exact Dy λi _=>by rw[Int.zero_add]
 rw[e];refine jT (λh:Nat=>PyData.int (h:Nat)) (λh:Nat=>PyData.int (h:Nat)) (fw ps hs ns) _ [] af n (λh hh n Q' q=>?_) (λh hh n Q' q=>au rfl q) (by rw[Cg];exact k);exact cf (au rfl (au rfl (au rfl ⟨ps,hs,ns,h,rfl,ok,Bo.mp hh,q⟩)))
theorem Q5:∀ws n Q,iW ws n Q->BC (cO Za ws) n {nx:=λ_ _=>False,rt:=λ_ _=>False,rn:=Q}:=λws n Q h=>by
 obtain⟨ps,hs,ns,rfl,ok,k⟩:=h;show BC [ae (.w (.d (aZ ps))),ae (.w (.d (bg hs ns)))] n _;refine(show hX _ _ _ _ from ?_);unfold hX dO oS;refine b6 (au rfl ?_);refine Bj ⟨by omega,by rw[Ad];have:=ok.1.1;omega⟩ ?_;rw[Dz,Ad];exact UB ok k
theorem PR:∀ws n Q,lL bq iW ws n Q->ws.length=2:=λws n Q h=>by obtain⟨_,_,_,_,_,_,_,rfl,_⟩:=h;rfl
theorem JG:∀ws n Q,lL bq iW ws n Q->zh (cO Za ws) n {nx:=λ_ _=>False,rt:=λ_ _=>False,rn:=Q}:=λws n Q h=>by
 obtain⟨pd,s0,N,aft,Gd,J,en,rfl,A,g0,hN,hJ,hL,hr,q⟩:=h;show zh [ae (.w (.d pd)),ae (.w (.d s0.1))] n _;refine(show hX _ _ _ _ from ?_);unfold hX dO mw;refine bX (show dQ _ _ _ _ _ from ?_);dsimp only[dQ,ao,ak,aj,Cr,Dk];refine⟨pd,s0,N,aft,Gd,J,rfl,A,g0,hN,hJ,hL,?_⟩;refine jT (λk:TK=>k.1) (λk:TK=>k.1) en _ [] af n (λk hk n Q' q'=>?_) (λk hk n Q' q'=>au rfl q') (by rw[Cg];exact q);refine y4 (k:=!en k) (λQ q=>?_) (by rw[Bool.not_not];exact q');unfold gb;refine bX (show dQ _ _ _ _ _ from ?_);unfold dQ ao ak;refine au rfl (au rfl ?_);refine hr k hk n _ λds e=>?_;show Q (!ds.isEmpty) n;rw[e];exact q
theorem OZ:∀ws n Q,iP ws n Q->ws.length=2:=λws n Q h=>by obtain⟨_,_,_,rfl,_⟩:=h;rfl
theorem QM:∀ws n Q,iP ws n Q->TV (cO ["steps","stand","movers","step"] ws) n {nx:=λ_ _=>False,rt:=λ_ _=>False,rn:=Q}:=NP
theorem KL:∀ws n Q,jX (cJ 3) ws n Q->ws.length=3:=λws n Q h=>by obtain⟨_,_,_,_,rfl,_⟩:=h;rfl
theorem Km:∀ws n Q,jX (cJ 3) ws n Q->Qw (cO ["programs","stands","sight","stand"] ws) n {nx:=λ_ n=>Q (.d .none) n,rt:=Q}:=SK (cJ 3)
theorem LX:∀ws n Q,kK bq (cJ 3) ws n Q->ws.length=3:=λws n Q h=>by obtain⟨_,_,_,_,_,_,_,_,rfl,_⟩:=h;rfl
theorem NX:∀ws n Q,kK bq (cJ 3) ws n Q->S6 (cO Zc ws) n {nx:=λ_ n=>Q (.d .none) n,rt:=Q}:=LP bq (cJ 3)
theorem Ra:∀ws n Q,jN bq ws n Q->ws.length=2:=λws n Q h=>by obtain⟨_,_,_,_,_,_,rfl,_⟩:=h;rfl
theorem Lx:∀ws n Q,jN bq ws n Q->N7 (cO Za ws) n {nx:=λ_ _=>False,rt:=λ_ _=>False,rn:=Q}:=Ky bq
theorem NN:∀ws n Q,lj bq (cJ 3) ws n Q->ws.length=3:=λws n Q h=>by obtain⟨_,_,_,_,_,_,_,_,rfl,_⟩:=h;rfl
theorem O1:∀ws n Q,lj bq (cJ 3) ws n Q->M6 (cO Zc ws) n {nx:=λ_ n=>Q (.d .none) n,rt:=Q}:=RH bq (cJ 3)
theorem Uj:∀ws n Q E,ko bq ws n Q E->ws.length=2:=λws n Q E h=>by obtain⟨_,_,_,_,_,_,rfl,_⟩:=h;rfl
abbrev TN(E:Int->Prop):aF:=(aq (uc 2 ↥1 (wC .none)) (aq (fR 3 (bL (ao ↥1 ak))) (aq (iG (gb (iF 3)) (jz bq 0 2 3 E)) (qJ 2))))
theorem Qt:∀ws n Q E,ko bq ws n Q E->TN E (cO Zi ws) n {nx:=λ_ _=>False,rt:=λ_ _=>False,rx:=Q}:=PQ bq
theorem Ux(nd:(E.map (·.1)).Nodup):((dS aft s E i).map (·.1)).Nodup:=by
 unfold dS
 split
 ·exact nd
 ·split
  ·exact nd
  ·rename_i z;rw[Bw,Gu];refine⟨nd,by simp,λa ha b hb=>?_⟩;obtain rfl:=by simpa using hb
   exact λe=>z (e▸ha)
theorem yJ:∀j,((El aft N s0 j).map (·.1)).Nodup
 |0=>by simp[El]
 |j+1=>by
  have ih:=yJ (aft:=aft) (N:=N) (s0:=s0) j;show(List.map (λe:TK×Nat=>e.1) (match (El aft N s0 j)[j]? with|some s=>dM aft N (El aft N s0 j) s|none=>El aft N s0 j)).Nodup;cases(El aft N s0 j)[j]? with
  |none=>exact ih
  |some s=>
   have key:∀(is:List Nat)(E:List (TK×Nat)),(E.map (·.1)).Nodup->((is.foldl (dS aft s) E).map (·.1)).Nodup:=by
    intro is
    induction is with
    |nil=>exact λE h=>h
    |cons i is ih2=>exact λE h=>ih2 _ (Ux h)
   exact key _ _ ih
section
variable{aft:TK->Nat->Option TK}{N:Nat}{s0:TK}
theorem wU(J):(Lr aft N s0 J).Nodup:=by rw[<-jW];exact yJ J
theorem P8(J):s0∈Lr aft N s0 J:=by
 have:=lP (aft:=aft) (N:=N) s0 0 J;rw[Nat.zero_add]at this;exact this.subset (.head _)
theorem tK(i k):El aft N s0 i <+: El aft N s0 (i+k):=by
 induction k with
 |zero=>exact D4 _
 |succ k ih=>
  refine ih.trans ?_;show _ <+: (match (El aft N s0 (i+k))[i+k]? with|some s=>dM aft N (El aft N s0 (i+k)) s|none=>El aft N s0 (i+k))
  split
  ·exact AO _ _
  ·exact D4 _
theorem vV(J):(El aft N s0 J)[0]?=ae (s0,0):=by
 have:=tK (aft:=aft) (N:=N) (s0:=s0) 0 J;rw[Nat.zero_add]at this;rw[mF this (by simp[El])];rfl
theorem zM(h:(El aft N s0 c).length<=c):∀k,El aft N s0 (c+k)=El aft N s0 c
 |0=>rfl
 |k+1=>by
  show(match (El aft N s0 (c+k))[c+k]? with|some s=>dM aft N (El aft N s0 (c+k)) s|none=>El aft N s0 (c+k))=_;rw[zM h k,Cb ⋯]
theorem OJ(h:(Lr aft N s0 J).length<=J)(he:e∈El aft N s0 J)(hm:m<=N)(ea:aft e.1 m=ae b):∃e'∈El aft N s0 J,e'.1=b/\e'.2<=e.2+1:=by
 have hl:(El aft N s0 J).length=(Lr aft N s0 J).length:=by rw[<-jW,Ad]
 obtain⟨j,hj,rfl⟩:=F9 he;have hj':j < J:=by omega
 have p1:=tK (aft:=aft) (N:=N) (s0:=s0) (j+1) (J-(j+1));rw[show j+1+(J-(j+1))=J by omega]at p1;have p0:=tK (aft:=aft) (N:=N) (s0:=s0) j (J-j);rw[show j+(J-j)=J by omega]at p0;have lt:j < (El aft N s0 j).length:=Du λz=>by
  have:=zM (aft:=aft) (N:=N) (s0:=s0) (c:=j) ⋯ (J-j);rw[show j+(J-j)=J by omega]at this;rw[this]at hj;omega
 have ej:(El aft N s0 j)[j]?=ae (El aft N s0 J)[j]:=by rw[<-mF p0 lt];exact Ag hj
 have e1:El aft N s0 (j+1)=dM aft N (El aft N s0 j) (El aft N s0 J)[j]:=by
  show(match (El aft N s0 j)[j]? with|some s=>dM aft N (El aft N s0 j) s|none=>El aft N s0 j)=_;rw[ej]
 obtain⟨g1,g2⟩:=uP (aft:=aft) (N:=N) (s0:=s0) j;have g:Grow (dM aft N (El aft N s0 j) (El aft N s0 J)[j]) (El aft N s0 J)[j].2:=Grow.sM _ _ ⟨g1,g2 _ ej⟩;have mb:b∈(dM aft N (El aft N s0 j) (El aft N s0 J)[j]).map (·.1):=by rw[FU];exact BL hm ea
 obtain⟨e',h1,h2⟩:=A3.mp mb;exact⟨e',p1.subset (by rw[e1];exact h1),h2,g.le e' h1⟩
theorem yg{P:TK×Nat->Prop}(h0:P (s0,0))(hs:∀e b m,P e->m<=N->aft e.1 m=ae b->P (b,e.2+1)):∀j,∀e∈El aft N s0 j,P e
 |0=>λe he=>by obtain rfl:e=(s0,0):=(by simpa[El]using he);exact h0
 |j+1=>by
  have ih:=yg h0 hs j;show ∀e∈(match (El aft N s0 j)[j]? with|some s=>dM aft N (El aft N s0 j) s|none=>El aft N s0 j),P e;cases z:(El aft N s0 j)[j]? with
  |none=>exact ih
  |some s=>
   have ps:=ih s (A1 z);have key:∀(is:List Nat)(E:List (TK×Nat)),(∀i∈is,i<=N)->(∀e∈E,P e)->∀e∈is.foldl (dS aft s) E,P e:=by
    intro is
    induction is with
    |nil=>exact λE _ h=>h
    |cons i is ih2=>
     refine λE hi h=>ih2 _ (λx hx=>hi x (.tail _ hx)) λe he=>?_;unfold dS at he;cases ea:aft s.1 i with
     |none=>rw[ea]at he;exact h e he
     |some b=>
      rw[ea]at he;dsimp only at he
      split at he
      ·exact h e he
      ·rcases Bv.mp he with he|he
       ·exact h e he
       ·obtain rfl:e=(b,s.2+1):=by simpa using he
        exact hs s b i ps (hi i (.head _)) ea
   exact key _ _ (λi hi=>Dw (Bo.mp hi)) ih
end
theorem yZ(e:bQ h=bQ (b,p,[])):h=(b,p,[]):=by
 obtain⟨x,y,z⟩:=h;have e:=Dq e;obtain⟨e1,e⟩:=Ba e;obtain⟨e2,e⟩:=Ba e;obtain⟨e3,_⟩:=Ba e;have e3:=List.map_eq_nil_iff.mp (show z.map _=[]from Dq e3);have f1:x=b:=Int.ofNat.inj (PyData.int.inj e1);have f2:y=p:=Int.ofNat.inj (PyData.int.inj e2);subst e3 f1 f2;rfl
theorem EW:∀{hs gs:List Hn},(∀g∈gs,g.2.2=[])->hs.map bQ=gs.map bQ->hs=gs
 |[],[],_,_=>rfl
 |[],_::_,_,e=>nomatch e
 |_::_,[],_,e=>nomatch e
 |h::hs,⟨b,p,z⟩::gs,hz,e=>by
  obtain⟨e1,e2⟩:=Ba e;obtain rfl:z=[]:=hz _ (.head _);rw[yZ e1,EW (λg hg=>hz g (.tail _ hg)) e2]
theorem Rx(e:dF q=dF r):q=r:=by
 obtain⟨e1,e⟩:=Ba (Dq e);exact Prod.ext (Dq e1) (Ba e).1
theorem CP:∀{ns ms:List Nt},ns.map dF=ms.map dF->ns=ms
 |[],[],_=>rfl
 |[],_::_,e=>nomatch e
 |_::_,[],e=>nomatch e
 |_::_,_::_,e=>by obtain⟨e1,e2⟩:=Ba e;rw[Rx e1,CP e2]
theorem M5:∀g∈cD ms ps,g.2.2=[]:=λg hg=>by
 obtain⟨i,hi,rfl⟩:=F9 hg;rw[List.getElem_zipWith];rfl
theorem uQ(e:bg hs ns=bW ms s):hs=cD ms s.1/\ns=dm s.2:=by
 obtain⟨e1,e⟩:=Ba (Dq e);exact⟨EW M5 (Dq e1),CP (Dq (Ba e).1)⟩
theorem Oh(e:hk m p=hk m q):p=q:=by
 have e1:bk m p=bk m q:=congrArg (·.1) e;have e2:p-8*bk m p=q-8*bk m q:=congrArg (·.2.1) e;have h1:8*bk m p<=p:=by unfold bk;omega
 have h2:8*bk m q<=q:=by unfold bk;omega
 omega
theorem CD:∀{ms ps qs:List Nat},Le2 ps ms->Le2 qs ms->cD ms ps=cD ms qs->ps=qs
 |[],[],[],_,_,_=>rfl
 |m::ms,p::ps,q::qs,h,g,e=>by
  obtain⟨e1,e2⟩:=Ba (show hk m p::cD ms ps=hk m q::cD ms qs from e);rw[Oh e1,CD h.2 g.2 e2]
theorem U3(e:dm a=dm b):a=b:=by
 unfold dm at e
 split at e<;>split at e
 ·omega
 ·cases e
 ·cases e
 ·have:=(Prod.mk.inj (Ba e).1).2;exact Int.ofNat.inj (PyData.int.inj this)
theorem yT{s t:d9}(hs:s∈aP ms a0)(ht:t∈aP ms a0)(e:bW ms s=bW ms t):s=t:=by
 obtain⟨e1,e2⟩:=uQ e;exact Prod.ext (CD (mem_allS.mp hs).1 (mem_allS.mp ht).1 e1) (U3 e2)
section
variable{ms:List Nat}{a0:Nat}
theorem lK(hm:okM ms)(ha:a0<=2){s:d9}(hs:s∈aP ms a0):cQ (aQ ms) (cD ms s.1) (dm s.2):=by
 obtain⟨h1,h2⟩:=mem_allS.mp hs;obtain⟨n1,n2⟩:=yY (Bb h2 ha);exact⟨OW hm,MY h1,Bb n1 ∎,n2⟩
theorem IL(t):me d=ae ⟨d,t⟩:=by unfold me;rw[dif_pos t]
theorem Jc:bV 6 .none=ah:=by rw[bV]
def ck(ms:List Nat)(s:d9):TK:=(me (bW ms s)).getD ⟨.none,Jc⟩
theorem iH(hm:okM ms)(ha:a0<=2){s:d9}(hs:s∈aP ms a0):(ck ms s).1=bW ms s:=by
 obtain⟨o1,o2,o3⟩:=lK hm ha hs;unfold ck;rw[IL (show bV 6 (bW ms s)=ah from EF o2 o3.2)];rfl
def lp(ms:List Nat)(a0:Nat)(k:TK):Prop:=∃s∈aP ms a0,k=ck ms s
theorem jF(hm:okM ms)(ha:a0<=2)(h:lp ms a0 k):Gk (aQ ms) 0 k:=by
 obtain⟨s,hs,rfl⟩:=h;refine⟨_,_,iH hm ha hs,lK hm ha hs,?_⟩;have:=(yY (Bb (mem_allS.mp hs).2 ha)).1;omega
theorem p8(hm:okM ms)(ha:a0<=2){s:d9}(hs:s∈aP ms a0)(hi:i<=ms.length):bZ (aQ ms) (ck ms s) i=(hZ ms s i).map (ck ms):=by
 obtain⟨hs',ns',e,e1,ok,_⟩:=qy (jF hm ha ⟨s,hs,rfl⟩);rw[iH hm ha hs]at e1;obtain⟨rfl,rfl⟩:=uQ e1.symm;obtain⟨l1,l2⟩:=mem_allS.mp hs;have en:=M3 l1 (Bb l2 ha) hi;cases z:hZ ms s i with
 |none=>rw[z]at en;exact HN e en
 |some t=>
  rw[z]at en;obtain⟨b,h1,h2⟩:=AA e ok en;rw[h1];exact congrArg ae (Subtype.ext (h2.trans (iH hm ha (wJ hs z).1).symm))
theorem yj(hm:okM ms)(ha:a0<=2)(k)(i)(b)(h:lp ms a0 k)(hi:i<=(aQ ms).length)(e:bZ (aQ ms) k i=ae b):lp ms a0 b:=by
 obtain⟨s,hs,rfl⟩:=h;rw[Ad]at hi;rw[p8 hm ha hs hi]at e;obtain⟨t,ht,rfl⟩:=C3.mp e;exact⟨t,(wJ hs ht).1,rfl⟩
theorem m5(hm:okM ms)(ha:a0<=2):AfOk bq (aZ (aQ ms)) ms.length (bZ (aQ ms)) (lp ms a0):=by
 have:=Pr (λk h=>jF hm ha h) (yj hm ha);rw[Ad]at this;exact this
theorem mh(ms)(a0):cH ms a0∈aP ms a0:=mem_allS.mpr ⟨Le2.zero ms,Am _⟩
abbrev LK(ms:List Nat)(a0:Nat):List TK:=Lr (bZ (aQ ms)) ms.length (ck ms (cH ms a0)) (a8 ms a0)
theorem ku(hm:okM ms)(ha:a0<=2)(J):∀k∈Lr (bZ (aQ ms)) ms.length (ck ms (cH ms a0)) J,lp ms a0 k:=nF (λs i b g hi e=>yj hm ha s i b g (by rw[Ad];exact hi) e) ⟨_,mh ms a0,rfl⟩ J
theorem Ib(hm:okM ms)(ha:a0<=2){s t:d9}(hs:s∈aP ms a0)(ht:t∈aP ms a0)(e:ck ms s=ck ms t):s=t:=yT hs ht (by rw[<-iH hm ha hs,<-iH hm ha ht,e])
theorem j6(hm:okM ms)(ha:a0<=2)(J):(Lr (bZ (aQ ms)) ms.length (ck ms (cH ms a0)) J).length<=a8 ms a0:=by
 have:=ky (l':=(aP ms a0).map (ck ms)) (wU (aft:=bZ (aQ ms)) (N:=ms.length) (s0:=ck ms (cH ms a0)) J) λk hk=>by
  obtain⟨s,hs,rfl⟩:=ku hm ha J k hk;exact A3.mpr ⟨s,hs,rfl⟩
 rw[Ad,yi]at this;exact this
theorem xm(hm:okM ms)(ha:a0<=2):∀s∈aP ms a0,ck ms s∈LK ms a0:=Kl (P8 _) λs s' i hs h hi e=>QH (j6 hm ha _) h hi (by rw[p8 hm ha hs hi,e];rfl)
theorem mx(hm:okM ms)(ha:a0<=2):(LK ms a0).length=a8 ms a0:=Nat.le_antisymm (j6 hm ha _) (by
 have:=ky (l':=LK ms a0) (oB (Je ms a0) λs hs t ht e=>Ib hm ha hs ht e) λk hk=>by
  obtain⟨s,hs,rfl⟩:=A3.mp hk;exact xm hm ha s hs
 rw[Ad,yi]at this;exact this)
theorem CG(hm:okM ms)(ha:a0<=2):∀{l:List TK},l.Nodup->(∀k∈l,lp ms a0 k)->∃L:List d9,l.map (·.1)=L.map (bW ms)/\l=L.map (ck ms)/\gL ms a0 L:=by
 intro l n h;have:∃L:List d9,l=L.map (ck ms)/\∀s∈L,s∈aP ms a0:=by
  clear n
  induction l with
  |nil=>exact⟨[],rfl,λ_ z=>nomatch z⟩
  |cons k l ih=>
   obtain⟨L,e,hL⟩:=ih λk hk=>h k (.tail _ hk);obtain⟨s,hs,rfl⟩:=h k (.head _);refine⟨s::L,by rw[e];rfl,λt ht=>?_⟩;rcases Aw.mp ht with rfl|ht
   ·exact hs
   ·exact hL t ht
 obtain⟨L,rfl,hL⟩:=this;refine⟨L,?_,rfl,?_,hL⟩
 ·rw[Cj];exact Dy λs hs=>iH hm ha (hL s hs)
 ·have n:(L.map (ck ms)).Nodup:=n;exact List.Pairwise.imp (λh e=>h (congrArg _ e)) (List.pairwise_map.mp n)
theorem Rr(hm:okM ms)(ha:a0<=2)(J):∀e∈El (bZ (aQ ms)) ms.length (ck ms (cH ms a0)) J,∃s∈aP ms a0,e.1=ck ms s/\s.1.sum<=e.2:=by
 have z:∀ms:List Nat,(ms.map λ_=>0).sum<=0:=λms=>by
  induction ms with
  |nil=>exact Am _
  |cons m ms ih=>simpa using ih
 refine yg (P:=λe=>∃s∈aP ms a0,e.1=ck ms s/\s.1.sum<=e.2) ⟨_,mh ms a0,rfl,z ms⟩ (λe b m he hi ea=>?_) J
 ·obtain⟨s,hs,es,le⟩:=he;rw[es,p8 hm ha hs hi]at ea;obtain⟨t,ht,rfl⟩:=C3.mp ea;obtain⟨t1,t2⟩:=wJ hs ht;exact⟨t,t1,rfl,by show t.1.sum<=e.2+1;omega⟩
abbrev EK(ms:List Nat)(a0:Nat):List (TK×Nat):=El (bZ (aQ ms)) ms.length (ck ms (cH ms a0)) (a8 ms a0)
theorem SH(hm:okM ms)(ha:a0<=2):∀(n:Nat)(ps:List Nat),Le2 ps ms->ps.sum=n->∃e∈EK ms a0,e.1=ck ms (ps,a0)/\e.2<=n:=by
 intro n
 induction n with
 |zero=>
  intro ps h e;refine⟨_,A1 (vV _),?_,Am _⟩;rw[h.all0 λi p hp=>by have:=lJ 0 hp;omega];rfl
 |succ n ih=>
  intro ps h e;by_cases hz:∀i p:Nat,ps[i]?=ae p->p=0
  ·have:=h.all0 hz;refine⟨_,A1 (vV _),by rw[this];rfl,Az _⟩
  ·have hz:∃i p:Nat,ps[i]?=ae p/\p≠0:=Du λw=>hz λi p e=>Du λy=>w ⟨i,p,e,y⟩;obtain⟨i,p,hp,p0⟩:=hz;have hil:i < ps.length:=(Al.mp hp).1;have hi:i < ms.length:=by rw[<-h.len];exact hil
   have hmi:ms[i]?=ae ms[i]:=Ag hi;obtain⟨p',hp',le⟩:=h.get hmi;rw[hp]at hp';cases hp';have sm:=lJ (p-1) hp;have h1:=h.set (q:=p-1) hmi ⋯;obtain⟨e1,m1,k1,l1⟩:=ih (ps.set i (p-1)) h1 ⋯;have ok:(ps.set i (p-1),a0)∈aP ms a0:=mem_allS.mpr ⟨h1,Am _⟩;have nx:hZ ms (ps.set i (p-1),a0) i=ae (ps,a0):=by
    unfold hZ;rw[if_neg ⋯];dsimp only;rw[Bq hil,hmi];dsimp only;rw[if_pos ⋯,List.set_set,show p-1+1=p by omega]
    congr 2
    exact Ey λj=>by
     by_cases z:i=j
     ·subst z;rw[Bq hil,hp]
     ·rw[A6 z]
   obtain⟨e2,m2,k2,l2⟩:=OJ (j6 hm ha _) m1 (Fh hi) (b:=ck ms (ps,a0)) (by rw[k1,p8 hm ha ok (Fh hi),nx];rfl);exact⟨e2,m2,k2,by omega⟩
end
section
variable{ms:List Nat}{a0:Nat}
theorem HG(hm:okM ms)(ha:a0<=2){s:d9}(hs:s∈aP ms a0):jd (aQ ms) (ck ms s)=ae (cD ms s.1,dm s.2):=by
 obtain⟨hs',ns',e,e1,ok,_⟩:=qy (jF hm ha ⟨s,hs,rfl⟩);rw[iH hm ha hs]at e1;obtain⟨rfl,rfl⟩:=uQ e1.symm;exact e
theorem rZ(h:Le2 ps ms)(e:ms[i]?=ae m):∃p,ps[i]?=ae p/\((p=m/\aU (aQ ms) (cD ms ps) i=af)\/(p≠m/\∃a,aU (aQ ms) (cD ms ps) i=ae a/\a.wt=ai))/\∀ns,eO (aQ ms) ⟨cD ms ps,ns⟩ i=decide (p=m):=by
 obtain⟨p,hp,le,eh⟩:=sY h e;obtain⟨B,h1,h2,h3,h4,h5⟩:=uB le;have eP:(aQ ms)[i]?=ae (bj m):=by rw[Aq,e];rfl
 have eA:aU (aQ ms) (cD ms ps) i=B.2[p-8*bk m p]?:=by unfold aU;rw[eP,eh];show(bj m)[(hk m p).1]?.bind _=_;rw[show(hk m p).1=bk m p from rfl,h1];rfl
 have eE:∀ns,eO (aQ ms) ⟨cD ms ps,ns⟩ i=decide (p-8*bk m p=B.2.length):=λns=>by
  unfold eO;dsimp only;rw[eP,eh];dsimp only;rw[show(hk m p).1=bk m p from rfl,h1];rfl
 refine⟨p,hp,?_,λns=>?_⟩
 ·rw[eA];rcases h5 with⟨rfl,q⟩|⟨lt,q,_⟩|⟨lt,q,_⟩
  ·exact .inl ⟨rfl,by rw[q,Cb (Am _)]⟩
  ·exact .inr ⟨A8 lt,_,q,rfl⟩
  ·exact .inr ⟨A8 lt,_,q,rfl⟩
 ·rw[eE];rcases h5 with⟨rfl,q⟩|⟨lt,q,_⟩|⟨lt,q,_⟩
  ·rw[q];simp
  ·have:=(Al.mp q).1;rw[decide_eq_false ⋯,decide_eq_false ⋯]
  ·have:=(Al.mp q).1;rw[decide_eq_false ⋯,decide_eq_false ⋯]
theorem yk(h:Le2 ps ms):(∀i,i < ms.length->ps[i]?=ms[i]?)↔ps=ms:=by
 constructor
 ·exact λz=>h.full λi m e=>by rw[z i (Al.mp e).1];exact e
 ·rintro rfl i _;rfl
theorem HC{s:d9}(h:Le2 s.1 ms):(gH (aQ ms) (cD ms s.1) (dm s.2)).isEmpty=decide (s.1=ms):=by
 unfold gH;rw[Dg,List.isEmpty_iff,List.map_eq_nil_iff,List.filter_eq_nil_iff,decide_eq_true_iff,<-yk h]
 constructor
 ·intro z i hi;have e:ms[i]?=ae ms[i]:=Ag hi;obtain⟨p,hp,q,_⟩:=rZ h e;rcases q with⟨rfl,_⟩|⟨ne,a,q1,q2⟩
  ·rw[hp,e]
  ·refine absurd ?_ (z i (Bo.mpr (by rw[Ad];exact hi)));unfold fw;rw[q1];simp[q2]
 ·intro z i hi;rw[Bo,Ad]at hi;have e:ms[i]?=ae ms[i]:=Ag hi;obtain⟨p,hp,q,_⟩:=rZ h e;rcases q with⟨_,q⟩|⟨ne,_⟩
  ·unfold fw;rw[q];simp
  ·rw[z i hi,e]at hp;exact absurd (A4 hp).symm ne
def iB(ms:List Nat)(aim:Nat)(s:d9):Bool:=if aim=0 then decide (s.1=ms)else decide (aim=1)
theorem pb(hm:okM ms)(ha:a0<=2){s:d9}(hs:s∈aP ms a0)(hi:aim < 3):fc (aQ ms) (dY ms aim) (ck ms s)=iB ms aim s:=by
 have h:=(mem_allS.mp hs).1;unfold fc;rw[HG hm ha hs];dsimp only;rcases(by omega:aim=0\/aim=1\/aim=2)with rfl|rfl|rfl
 ·show((A5 ms.length).map λi=>Sg.bs 1 (.ended i)).all (Sg.see (aQ ms) _ 1)=decide (s.1=ms);rw[Dg,Dm,decide_eq_true_iff,<-yk h]
  constructor
  ·intro z i hi;have e:ms[i]?=ae ms[i]:=Ag hi;obtain⟨p,hp,_,q⟩:=rZ h e;have:eO (aQ ms) ⟨cD ms s.1,dm s.2⟩ i=ah:=z _ (A3.mpr ⟨i,Bo.mpr hi,rfl⟩);rw[q,decide_eq_true_iff]at this;rw[hp,e,this]
  ·intro z x hx;obtain⟨i,hi,rfl⟩:=A3.mp hx;rw[Bo]at hi;have e:ms[i]?=ae ms[i]:=Ag hi;obtain⟨p,hp,_,q⟩:=rZ h e;show eO (aQ ms) ⟨cD ms s.1,dm s.2⟩ i=ah;rw[q,decide_eq_true_iff];rw[z i hi,e]at hp;exact(A4 hp).symm
 ·rfl
 ·rfl
theorem OX(aim)(ms):Sg.ok (aQ ms) 2 (dY ms aim):=by
 match aim with
 |0=>
  intro x hx;obtain⟨i,hi,rfl⟩:=A3.mp hx;show i < (aQ ms).length;rw[Ad];exact Bo.mp hi
 |1=>exact λ_ z=>nomatch z
 |_+2=>exact λ_ z=>nomatch z
section
variable(hm:okM ms)(ha:a0<=2){n:Int}
include hm ha
theorem l5:∀a,a<=a0->(ms,a)∈aP ms a0:=λa h=>mem_allS.mpr ⟨Le2.self ms,h⟩
theorem o5:ms.length < 2 ^ 60:=Hh hm.1 ∎
theorem nR:lp ms a0 (ck ms (cH ms a0)):=⟨_,mh ms a0,rfl⟩
theorem tT:([.d (aZ (aQ ms)),.d (bW ms (cH ms a0))]:List Wv)=[.d (aZ (aQ ms)),.d (ck ms (cH ms a0)).1]:=by rw[iH hm ha (mh ms a0)]
theorem P0(h:2000 < a8 ms a0):sj bq [.d (aZ (aQ ms)),.d (bW ms (cH ms a0))]:=⟨_,_,_,_,_,a8 ms a0,tT hm ha,m5 hm ha,nR hm ha,o5 hm ha,j6 hm ha _,by rw[mx hm ha];exact h⟩
theorem Qa(h:a8 ms a0<=2000)(k:∀L:List d9,L.length=a8 ms a0->gL ms a0 L->R (L.map (bW ms)) n):jN bq [.d (aZ (aQ ms)),.d (bW ms (cH ms a0))] n R:=by
 obtain⟨L,e1,e2,hL⟩:=CG hm ha (wU (a8 ms a0)) (ku hm ha _);refine⟨_,_,_,_,_,a8 ms a0,tT hm ha,m5 hm ha,nR hm ha,o5 hm ha,j6 hm ha _,by rw[mx hm ha];exact h,?_⟩;rw[e1];have:=congrArg D8 e2;rw[Ad,mx hm ha]at this;exact k L this.symm hL
theorem NY(h:a8 ms a0<=2000)(k:∀L:List d9,L.length=a0+1->gL ms a0 L->R (L.map (bW ms)) n):lL bq iW [.d (aZ (aQ ms)),.d (bW ms (cH ms a0))] n R:=by
 let en:TK->Bool:=λk=>match jd (aQ ms) k with
  |some p=>(gH (aQ ms) p.1 p.2).isEmpty
  |none=>ai
 have hen:∀s∈aP ms a0,en (ck ms s)=decide (s.1=ms):=λs hs=>by
  show(match jd (aQ ms) (ck ms s)with|some p=>(gH (aQ ms) p.1 p.2).isEmpty|none=>ai)=_;rw[HG hm ha hs];exact HC (mem_allS.mp hs).1
 have nd:((LK ms a0).filter en).Nodup:=(wU _).sublist G8;obtain⟨L,e1,e2,hL⟩:=CG hm ha nd λk hk=>ku hm ha _ k (Ef.mp hk).1;have hl:((LK ms a0).filter en).length=a0+1:=by
  have n2:((A5 (a0+1)).map λa=>ck ms (ms,a)).Nodup:=oB List.nodup_range λa hA b hB e=>(Prod.mk.inj (Ib hm ha (l5 hm ha a (Dw (Bo.mp hA))) (l5 hm ha b (Dw (Bo.mp hB))) e)).2;refine Nat.le_antisymm ?_ ?_
  ·have:=ky (l':=(A5 (a0+1)).map λa=>ck ms (ms,a)) nd λk hk=>by
    obtain⟨h1,h2⟩:=Ef.mp hk;obtain⟨s,hs,rfl⟩:=ku hm ha _ k h1;rw[hen s hs,decide_eq_true_iff]at h2;exact A3.mpr ⟨s.2,Bo.mpr (Nat.lt_succ_of_le (mem_allS.mp hs).2),by rw[<-h2]⟩
   rwa [Ad,Dr]at this
  ·have:=ky (l':=(LK ms a0).filter en) n2 λk hk=>by
    obtain⟨a,hA,rfl⟩:=A3.mp hk;have hs:=l5 hm ha a (Dw (Bo.mp hA));exact Ef.mpr ⟨xm hm ha _ hs,by rw[hen _ hs];simp⟩
   rwa [Ad,Dr]at this
 refine⟨_,_,_,_,_,a8 ms a0,en,tT hm ha,m5 hm ha,nR hm ha,o5 hm ha,j6 hm ha _,by rw[mx hm ha];exact h,λk hk n R r=>?_,?_⟩
 ·obtain⟨s,hs,rfl⟩:=ku hm ha _ k hk;refine⟨_,_,_,by rw[iH hm ha hs];rfl,lK hm ha hs,r _ ?_⟩;rw[hen s hs];exact HC (mem_allS.mp hs).1
 ·rw[e1];have:=congrArg D8 e2;rw[Ad,hl]at this;exact k L this.symm hL
variable{aim:Nat}(hi:aim < 3)
include hi
theorem Ih:∀k∈LK ms a0,∀(n:Int)(R:DQ),R (.d (.bool (fc (aQ ms) (dY ms aim) k))) n->cJ 3 [.d (aZ (aQ ms)),.d k.1,.d (Sg.d 2 (dY ms aim))] n R:=λk hk n R r=>Mt (jF hm ha (ku hm ha _ k hk)) (OX aim ms) r
theorem Md(hk:k∈LK ms a0):∃s∈aP ms a0,k=ck ms s/\fc (aQ ms) (dY ms aim) k=iB ms aim s:=by
 obtain⟨s,hs,rfl⟩:=ku hm ha _ k hk;exact⟨s,hs,rfl,pb hm ha hs hi⟩
theorem zc(h:∀k∈LK ms a0,fc (aQ ms) (dY ms aim) k=ai):aim=2:=by
 have:=h _ (xm hm ha _ (l5 hm ha a0 (Am _)));rw[pb hm ha (l5 hm ha a0 (Am _)) hi]at this;unfold iB at this;rcases(by omega:aim=0\/aim=1\/aim=2)with rfl|rfl|rfl
 ·simp at this
 ·simp at this
 ·rfl
theorem wW(hk:k∈LK ms a0)(h:fc (aQ ms) (dY ms aim) k=ah):aim < 2:=by
 obtain⟨s,hs,rfl,e⟩:=Md hm ha hi hk;rw[e]at h;unfold iB at h
 split at h
 ·omega
 ·have:=decide_eq_true_iff.mp h;omega
theorem GR:([.d (aZ (aQ ms)),.d (bW ms (cH ms a0)),.d (Sg.d 2 (dY ms aim))]:List Wv)=[.d (aZ (aQ ms)),.d (ck ms (cH ms a0)).1,.d (Sg.d 2 (dY ms aim))]:=by rw[iH hm ha (mh ms a0)]
theorem JC(h:a8 ms a0<=2000)(k:∀x,R (.d (.tuple [.str (if aim=2 then "never" else "seen"),x])) n):lj bq (cJ 3) [.d (aZ (aQ ms)),.d (bW ms (cH ms a0)),.d (Sg.d 2 (dY ms aim))] n R:=by
 refine⟨_,_,_,_,_,_,a8 ms a0,_,GR hm ha hi,m5 hm ha,nR hm ha,o5 hm ha,j6 hm ha _,by rw[mx hm ha];exact h,Ih hm ha hi,λz=>?_,λj mv hj hs _ _=>?_⟩
 ·have:=k (.list ((LK ms a0).map (·.1)));rw[if_pos (zc hm ha hi z)]at this;exact this
 ·have:=k (.list (mv.map λi=>.int (i:Nat)));rw[if_neg (by have:=wW hm ha hi hj hs;omega)]at this;exact this
theorem Q4(h:a8 ms a0<=2000)(k0:aim=2->R (.d .none) n)(k:aim < 2->∀mv:List Nat,mv.length=(if aim=0 then ms.sum else 0)->R (.d (.list (mv.map λi=>.int (i:Nat)))) n):kK bq (cJ 3) [.d (aZ (aQ ms)),.d (bW ms (cH ms a0)),.d (Sg.d 2 (dY ms aim))] n R:=by
 refine⟨_,_,_,_,_,_,a8 ms a0,_,GR hm ha hi,m5 hm ha,nR hm ha,o5 hm ha,j6 hm ha _,by rw[mx hm ha];exact h,Ih hm ha hi,λz=>k0 (zc hm ha hi z),λi e mv he hs hb hl _ _=>?_⟩;have hk:e.1∈LK ms a0:=by rw[show LK ms a0=(EK ms a0).map (·.1)from(jW _).symm];exact A3.mpr ⟨e,A1 he,rfl⟩
 refine k (wW hm ha hi hk hs) mv ?_;rw[hl];rcases(by have:=wW hm ha hi hk hs;omega:aim=0\/aim=1)with rfl|rfl
 ·rw[if_pos rfl];obtain⟨s,hs1,es,low⟩:=Rr hm ha _ e (A1 he);have sf:s.1=ms:=by
   rw[es,pb hm ha hs1 hi]at hs;exact decide_eq_true_iff.mp hs
  rw[sf]at low;obtain⟨e2,m2,k2,up⟩:=SH hm ha ms.sum ms (Le2.self ms) rfl;have ms0:=l5 hm ha a0 (Am _);obtain⟨j,hj,rfl⟩:=F9 m2;have hij:i<=j:=Du λz=>by
   have:=hb j _ ⋯ (Ag hj);rw[k2,pb hm ha ms0 hi]at this;simp[iB]at this
  obtain⟨hi',ei⟩:=Al.mp he;have le:e.2<=(EK ms a0)[j].2:=by
   by_cases z:i=j
   ·subst z;rw[ei];exact Am _
   ·have:=Hk.mp (uP (aft:=bZ (aQ ms)) (N:=ms.length) (s0:=ck ms (cH ms a0)) (a8 ms a0)).1 i j (by rw[Ad];exact hi') (by rw[Ad];exact hj) ⋯;rw[G3,G3,ei]at this;exact this
  omega
 ·rw[if_neg ∎];have e0:=vV (aft:=bZ (aQ ms)) (N:=ms.length) (s0:=ck ms (cH ms a0)) (a8 ms a0);by_cases z:i=0
  ·subst z;rw[e0]at he;cases he;rfl
  ·have:=hb 0 _ ⋯ e0;rw[pb hm ha (mh ms a0) hi]at this;cases this
end
end
theorem lU(k:Q (.d (.tuple [])) n):av ak δ n Q:=Bj (Az _) k
theorem rH(ha:∀Q:DQ,Q (.d x) n->a δ n Q)(k:Q (.d (.tuple [x])) n):av (ao a ak) δ n Q:=ha _ (Bj (show 1<=1000 by decide) k)
theorem gf(ha:∀Q:DQ,Q (.d x) n->a δ n Q)(hb:∀Q:DQ,Q (.d y) n->b δ n Q)(k:Q (.d (.tuple [x,y])) n):av (ao a (ao b ak)) δ n Q:=ha _ (hb _ (Bj (show 2<=1000 by decide) k))
theorem MU(ha:∀Q:DQ,Q (.d x) n->a δ n Q)(hb:∀Q:DQ,Q (.d y) n->b δ n Q)(hc:∀Q:DQ,Q (.d z) n->c δ n Q)(k:Q (.d (.tuple [x,y,z])) n):av (ao a (ao b (ao c ak))) δ n Q:=ha _ (hb _ (hc _ (Bj (show 3<=1000 by decide) k)))
theorem EI{α:Type}(x:α):∀m:Nat,(Ay m [x]).flatten=Ay m x
 |0=>rfl
 |m+1=>by rw[Dx,Ex,EI x m];rfl
theorem CK{m:Nat}(ha:∀Q:DQ,Q (.d (.tuple [x])) n->a δ n Q)(hb:∀Q:DQ,Q (.d (.int m)) n->b δ n Q)(hm:m<=8)(k:Q (.d (.tuple (Ay m x))) n):pI a b δ n Q:=by
 unfold pI;refine ha _ (hb _ ⟨[x],m,rfl,rfl,by simp,by omega,by omega,by simp,?_⟩);rw[Dz,EI];exact k
abbrev CU(m f:Nat):Sl:=[ae (.w (.d (.int ((m-8*f:Nat):Int)))),ae (.w (.d stl.d)),ae (.own (((A5 f).map fb).map fE))]
theorem PV:c7 wG IB ["_law_moves","_law_still","_law_blocks"]:=λws n Q h=>by
 obtain⟨m,rfl,hm,k⟩:=h;show IB [ae (.w (.d (.int m))),af,af] n _;refine aE (bE (x:=stl.d) (λQ q=>LI (aH (gf (λQ q=>aH q) (λQ q=>aH q) (gf (λQ q=>aH q) (λQ q=>aH q) (aH (Bj (show 4<=1000 by decide) q)))))) ?_);dsimp only[Be];refine aE (OR ?_);dsimp only[Be];refine aE (show iG _ _ (CU m 0) n _ from ?_);refine⟨λc δ n'=>∃f,c=m-8*f/\n'=n/\f<=(m-1) / 8/\δ=CU m f,⟨_,0,rfl,rfl,Az _,rfl⟩,?_⟩
 rintro c δ n' ⟨f,rfl,rfl,hf,rfl⟩
 refine aT (k:=decide ((8:Int) < ((m-8*f:Nat):Int))) (λQ q=>ar (au rfl (aH q))) ?_;by_cases c8:8 < m-8*f
 ·rw[decide_eq_true ⋯,if_pos rfl];have e1:fE (fb f)=.tuple [.tuple [],.tuple (Ay 7 stl.d++[.tuple [.str "go",.int (((((A5 f).map fb).map fE).length:Int)+1)]])]:=by
   unfold fE fb;rw[Ad,Ad,Dr];rfl
  refine aE (BF (m:=n') (x:=fE (fb f)) rfl (λQ q=>?_) (by rw[Ad,Ad,Dr];omega) ?_)
  ·rw[e1]at q;exact gf (λQ q=>lU q) (λQ q=>ar (CK (λQ q=>rH (λQ q=>au rfl q) q) (λQ q=>aH q) (show 7<=8 by decide) (rH (λQ q=>gf (λQ q=>aH q) (λQ q=>ar (b6 (Kr rfl (O4 (aH (iA q)))))) q) (nT (show 7+1<=1000000 by decide) q)))) q
  ·dsimp only[Be];refine bE (x:=.int ((m-8*(f+1):Nat):Int)) (λQ q=>ar (au rfl (aH ?_))) ?_
   ·show Q (.d (.int (((m-8*f:Nat):Int)-8))) n';rw[show(((m-8*f:Nat):Int)-8)=((m-8*(f+1):Nat):Int) by omega];exact q
   ·refine⟨m-8*(f+1),by omega,f+1,rfl,rfl,by omega,?_⟩;dsimp only[Be];show _=[ae (SV.w (.d (.int ((m-8*(f+1):Nat):Int)))),ae (.w (.d stl.d)),ae (.own (((A5 (f+1)).map fb).map fE))];rw[List.range_succ,Bw,Bw];rfl
 ·rw[decide_eq_false ⋯,if_neg Ak];obtain rfl:f=(m-1) / 8:=by omega
  dsimp only;refine aE (BF (m:=n') (es:=((A5 ((m-1) / 8)).map fb).map fE) (x:=fE (lb (m-8*((m-1) / 8)))) rfl (λQ q=>?_) (by rw[Ad,Ad,Dr];omega) ?_)
  ·refine gf (x:=.tuple []) (y:=.tuple (Ay (m-8*((m-1) / 8)) stl.d)) (λQ q=>lU q) (λQ q=>CK (λQ q=>rH (λQ q=>au rfl q) q) (λQ q=>au rfl q) ⋯ q) ?_;have:fE (lb (m-8*((m-1) / 8)))=.tuple [.tuple [],.tuple (Ay (m-8*((m-1) / 8)) stl.d)]:=by
    unfold fE lb;rw[List.map_replicate];rfl
   rw[this]at q;exact q
  ·dsimp only[Be];refine KA rfl ?_;dsimp only[Be];refine bG (b6 (au rfl (Mb ?_)));have:h9 (bj m)=.tuple (((A5 ((m-1) / 8)).map fb).map fE++[fE (lb (m-8*((m-1) / 8)))]):=by
    unfold h9 bj;rw[Bw];rfl
   rw[this]at k;exact k
theorem lM(e:δ[i]?=ae (ae (.w .tp)))(h:n < 2 ^ 40)(h0:0 < m)(h1:m < 1073741824)(k:∀r:Int,0<=r->r < m->Q (.d (.int r)) (n+1)):aJ fN (ao (aj i) (ao (wC (.int m)) ak)) δ n Q:=cP (au e (aH (QG h h0 h1 k)))
theorem KZ{W V:aF}(e:δ[i]?=ae (ae (.w .tp)))(h:n < 2 ^ 40)(h0:0 < m)(h1:m < 1073741824)(k:∀r:Int,0<=r->r < m->(0 < r->W δ (n+1) K)/\(¬0 < r->V δ (n+1) K)):aV (cT (w2 (aJ fN (ao (aj i) (ao (wC (.int m)) ak))) (wC (.int 0)) lH)) W V δ n K:=by
 refine(show aJ fN (ao (aj i) (ao (wC (.int m)) ak)) δ n _ from lM e h h0 h1 λr r0 r1=>?_);show if decide (0 < r)=ah then _ else _
 obtain⟨a,b⟩:=k r r0 r1;by_cases c:0 < r
 ·rw[if_pos (decide_eq_true c)];exact a c
 ·rw[if_neg (by simpa using c)];exact b c
theorem ixKl(h0:0<=r)(h1:r < (ds.length:Int))(k:∀d∈ds,Q (.d d) n):aB (.d (.list ds)) (.d (.int r)) n Q:=S3 h0 h1 k
theorem TR:c7 uq DW ["_law_tape_here","_law_few","_law_many"]:=λws n Q h=>by
 obtain⟨rfl,hn,k⟩:=h;show DW [ae (.w .tp),af,af] n _;have few:∀d∈([cq [],cq [7],cq [2,3,4],cq [5,6],cq [1,9,2],cq [17]]:List Ab),Q (.d d) (n+2):=λd hd=>by
  simp only[Aw,Bh,or_false]at hd;rcases hd with rfl|rfl|rfl|rfl|rfl|rfl<;>exact k _ (by simp[qC])
 have many:∀d∈([cq [10,10,20],cq [3,23,29],cq [2,27,37],cq [11,13,14],cq [44,45],cq [45,45],cq [29,3,23],cq [20,10,10]]:List Ab),Q (.d d) (n+2):=λd hd=>by
  simp only[Aw,Bh,or_false]at hd;rcases hd with rfl|rfl|rfl|rfl|rfl|rfl|rfl|rfl<;>exact k _ (by simp[qC])
 refine aE (bE (x:=.list [cq [],cq [7],cq [2,3,4],cq [5,6],cq [1,9,2],cq [17]]) (λQ q=>?_) ?_)
 ·exact Bj (Az _) (Bj (show 1<=1000 by decide) (Bj (show 3<=1000 by decide) (Bj (show 2<=1000 by decide) (Bj (show 3<=1000 by decide) (Bj (show 1<=1000 by decide) (Bj (show 6<=1000 by decide) q))))))
 dsimp only[Be];refine aE (bE (x:=.list [cq [10,10,20],cq [3,23,29],cq [2,27,37],cq [11,13,14],cq [44,45],cq [45,45],cq [29,3,23],cq [20,10,10]]) (λQ q=>?_) ?_)
 ·exact Bj (show 3<=1000 by decide) (Bj (show 3<=1000 by decide) (Bj (show 3<=1000 by decide) (Bj (show 3<=1000 by decide) (Bj (show 2<=1000 by decide) (Bj (show 2<=1000 by decide) (Bj (show 3<=1000 by decide) (Bj (show 3<=1000 by decide) (Bj (show 8<=1000 by decide) q))))))))
 dsimp only[Be];refine aE (KZ rfl ⋯ ∎ ∎ λr r0 r1=>⟨λc=>?_,λc=>?_⟩)
 ·refine bG (ar (au rfl (lM (m:=6) rfl ⋯ ∎ ∎ λq q0 q1=>ixKl q0 q1 λd hd=>?_)));rw[show n+1+1=n+2 by omega];exact few d hd
 ·unfold aN;dsimp only;refine bG (ar (au rfl (lM (m:=8) rfl ⋯ ∎ ∎ λq q0 q1=>ixKl q0 q1 λd hd=>?_)));rw[show n+1+1=n+2 by omega];exact many d hd
end Nb
namespace KG
open PySem PySem.W PyProof.Rows
def cU(i:Int):List Nat:=(PyData.int i).shown.cps.toList
mutual
def Cs:Ab->List Nat
 |.none=>[78,111,110,101]
 |.int i=>cU i
 |.str x=>39::(x.cps.toList++[39])
 |.tuple xs=>40::(match xs with
  |[]=>[41]
  |[x]=>Cs x++[44,41]
  |x::y::r=>Cs x++Cl (y::r))
 |_=>[]
def Cl:List Ab->List Nat
 |[]=>[41]
 |x::r=>44::32::(Cs x++Cl r)
end
mutual
def Pl:Ab->Prop
 |.none=>True
 |.int i=>cU i≠[]
 |.str x=>39∉x.cps.toList/\(reprText x).cps.toList=39::(x.cps.toList++[39])
 |.tuple xs=>cZ xs
 |_=>False
def cZ:List Ab->Prop
 |[]=>True
 |x::r=>Pl x/\cZ r
end
def nu(r:List Nat):Prop:=r=[]\/∃c t,r=c::t/\(c=44\/c=41)
theorem CT:∀{a b r r':List Nat},k∉a->k∉b->a++k::r=b++k::r'->a=b/\r=r'
 |[],[],_,_,_,_,h=>⟨rfl,(Ba h).2⟩
 |[],y::b,_,_,_,hb,h=>absurd ((Ba h).1▸Au) hb
 |x::a,[],_,_,ha,_,h=>absurd ((Ba h).1▸Au) ha
 |x::a,y::b,_,_,ha,hb,h=>by
  have h2:=(Ba h).2;have e:=(Ba h).1;subst e;obtain⟨rfl,rfl⟩:=CT (λm=>ha (An _ m)) (λm=>hb (An _ m)) h2;exact⟨rfl,rfl⟩
theorem z9:∀{a b r r':List Nat},44∉a->41∉a->44∉b->41∉b->nu r->nu r'->a++r=b++r'->a=b/\r=r'
 |[],[],_,_,_,_,_,_,_,_,h=>⟨rfl,h⟩
 |[],y::b,r,_,_,_,b1,b2,d,_,h=>by
  rcases d with rfl|⟨c,t,rfl,hc⟩
  ·cases h
  ·obtain⟨rfl,_⟩:=Ba h;rcases hc with rfl|rfl
   ·exact absurd Au b1
   ·exact absurd Au b2
 |x::a,[],_,r',a1,a2,_,_,_,d,h=>by
  rcases d with rfl|⟨c,t,rfl,hc⟩
  ·cases h
  ·obtain⟨rfl,_⟩:=Ba h;rcases hc with rfl|rfl
   ·exact absurd Au a1
   ·exact absurd Au a2
 |x::a,y::b,_,_,a1,a2,b1,b2,d,d',h=>by
  have h2:=(Ba h).2;have e:=(Ba h).1;subst e;obtain⟨rfl,rfl⟩:=z9 (λm=>a1 (An _ m)) (λm=>a2 (An _ m)) (λm=>b1 (An _ m)) (λm=>b2 (An _ m)) d d' h2;exact⟨rfl,rfl⟩
theorem PB(h:cU i≠[]):∃c t,cU i=c::t/\(c=45\/48<=c/\c<=57):=by
 cases e:cU i with
 |nil=>exact absurd e h
 |cons c t=>
  refine⟨c,t,rfl,?_⟩;have m:c∈cU i:=e▸Au;by_cases z:c=45\/48<=c/\c<=57
  ·exact z
  ·exact absurd m (shown_int_free' (k:=c) ⋯ i)
theorem Qe(h:cU i=cU j):i=j:=by
 unfold cU at h;rw[PyData.shown_int,PyData.shown_int,signs_ofString,signs_ofString]at h;have e:(toString i).toList=(toString j).toList:=(List.map_inj_right (λa b k=>Char.ext (UInt32.toNat_inj.mp k))).mp h;exact Int.repr_injective (String.toList_inj.mp e)
theorem mK(xs)(r):nu (Cl xs++r):=by
 cases xs with
 |nil=>exact .inr ⟨41,r,rfl,.inr rfl⟩
 |cons x l=>exact .inr ⟨44,_,rfl,.inl rfl⟩
def kd(c:Nat):Nat:=if c=78 then 1 else if c=39 then 2 else if c=40 then 3 else if c=45\/48<=c/\c<=57 then 4 else 0
def kin:Ab->Nat
 |.none=>1
 |.str _=>2
 |.tuple _=>3
 |.int _=>4
 |_=>5
theorem wO:∀{d:Ab},Pl d->∃c t,Cs d=c::t/\kd c=kin d
 |.none,_=>⟨78,_,by rw[Cs],rfl⟩
 |.str x,_=>⟨39,_,by rw[Cs],rfl⟩
 |.tuple [],_=>⟨40,_,by rw[Cs],rfl⟩
 |.tuple [x],_=>⟨40,_,by rw[Cs],rfl⟩
 |.tuple (x::y::r),_=>⟨40,_,by rw[Cs],rfl⟩
 |.int i,p=>by
  obtain⟨c,t,e,h1⟩:=PB (i:=i) (by simpa[Pl]using p);refine⟨c,t,by rw[Cs,e],?_⟩;show kd c=4;unfold kd;rw[if_neg ⋯,if_neg ⋯,if_neg ⋯,if_pos h1]
 |.bool _,p=>by simp[Pl]at p
 |.list _,p=>by simp[Pl]at p
 |.dict _,p=>by simp[Pl]at p
theorem gP(p:Pl d)(p':Pl d')(h:Cs d++r=Cs d'++r'):kin d=kin d':=by
 obtain⟨c,t,e,k⟩:=wO p;obtain⟨c',t',e',k'⟩:=wO p';rw[e,e']at h;rw[<-k,<-k',(Ba h).1]
theorem sk(p:Pl d)(h:Cs d++r=41::t):False:=by
 obtain⟨c,t',e,k⟩:=wO p;rw[e]at h;rw[(Ba h).1]at k;cases d<;>simp[kin,kd]at k
mutual
theorem lR:∀(d d':Ab){r r':List Nat},Pl d->Pl d'->nu r->nu r'->Cs d++r=Cs d'++r'->d=d'/\r=r'
 |.none,.none,r,r',_,_,_,_,h=>⟨rfl,by simpa[Cs]using h⟩
 |.int i,.int j,r,r',_,_,d,d',h=>by
  have f:∀n:Int,44∉cU n/\41∉cU n:=λn=>⟨shown_int_free' ∎ n,shown_int_free' ∎ n⟩;obtain⟨e,e2⟩:=z9 (f i).1 (f i).2 (f j).1 (f j).2 d d' (by simpa[Cs]using h);exact⟨congrArg _ (Qe e),e2⟩
 |.str x,.str y,r,r',p,p',_,_,h=>by
  rw[Cs,Cs]at h;have h2:(x.cps.toList++[39])++r=(y.cps.toList++[39])++r':=(Ba h).2;rw[Bk,Bk]at h2;obtain⟨e,e2⟩:=CT (show 39∉x.cps.toList from(by simpa[Pl]using p:_/\_).1) (show 39∉y.cps.toList from(by simpa[Pl]using p':_/\_).1) h2;refine⟨congrArg _ ?_,e2⟩;cases x;cases y;exact congrArg _ (G1.mp e)
 |.tuple xs,.tuple ys,r,r',p,p',_,_,h=>by
  have p1:cZ xs:=by simpa[Pl]using p
  have p2:cZ ys:=by simpa[Pl]using p'
  match xs,ys,p1,p2,h with
  |[],[],_,_,h=>exact⟨rfl,by simpa[Cs]using h⟩
  |[],[y],_,p2,h=>
   rw[cZ]at p2;rw[Cs,Cs]at h;have h2:41::r=(Cs y++[44,41])++r':=(Ba h).2;rw[Bk]at h2;exact(sk p2.1 h2.symm).elim
  |[],y::z::l,_,p2,h=>
   rw[cZ]at p2;rw[Cs,Cs]at h;have h2:41::r=(Cs y++Cl (z::l))++r':=(Ba h).2;rw[Bk]at h2;exact(sk p2.1 h2.symm).elim
  |[x],[],p1,_,h=>
   rw[cZ]at p1;rw[Cs,Cs]at h;have h2:(Cs x++[44,41])++r=41::r':=(Ba h).2;rw[Bk]at h2;exact(sk p1.1 h2).elim
  |x::z::l,[],p1,_,h=>
   rw[cZ]at p1;rw[Cs,Cs]at h;have h2:(Cs x++Cl (z::l))++r=41::r':=(Ba h).2;rw[Bk]at h2;exact(sk p1.1 h2).elim
  |[x],[y],p1,p2,h=>
   rw[cZ]at p1 p2;rw[Cs,Cs]at h;have h2:(Cs x++[44,41])++r=(Cs y++[44,41])++r':=(Ba h).2;rw[Bk,Bk]at h2;obtain⟨e,e2⟩:=lR x y p1.1 p2.1 (.inr ⟨44,_,rfl,.inl rfl⟩) (.inr ⟨44,_,rfl,.inl rfl⟩) h2;exact⟨by rw[e],by simpa using e2⟩
  |[x],y::z::l,p1,p2,h=>
   rw[cZ]at p1 p2;rw[Cs,Cs]at h;have h2:(Cs x++[44,41])++r=(Cs y++Cl (z::l))++r':=(Ba h).2;rw[Bk,Bk]at h2;obtain⟨e,e2⟩:=lR x y p1.1 p2.1 (.inr ⟨44,_,rfl,.inl rfl⟩) (mK _ _) h2;simp[Cl]at e2
  |x::z::l,[y],p1,p2,h=>
   rw[cZ]at p1 p2;rw[Cs,Cs]at h;have h2:(Cs x++Cl (z::l))++r=(Cs y++[44,41])++r':=(Ba h).2;rw[Bk,Bk]at h2;obtain⟨e,e2⟩:=lR x y p1.1 p2.1 (mK _ _) (.inr ⟨44,_,rfl,.inl rfl⟩) h2;simp[Cl]at e2
  |x::z::l,y::z'::l',p1,p2,h=>
   rw[cZ]at p1 p2;rw[Cs,Cs]at h;have h2:(Cs x++Cl (z::l))++r=(Cs y++Cl (z'::l'))++r':=(Ba h).2;rw[Bk,Bk]at h2;obtain⟨e,e2⟩:=lR x y p1.1 p2.1 (mK _ _) (mK _ _) h2;obtain⟨e3,e4⟩:=AI (z::l) (z'::l') p1.2 p2.2 e2;exact⟨by rw[e,e3],e4⟩
 |.none,.int _,_,_,p,p',_,_,h=>nomatch gP p p' h
 |.none,.str _,_,_,p,p',_,_,h=>nomatch gP p p' h
 |.none,.tuple _,_,_,p,p',_,_,h=>nomatch gP p p' h
 |.int _,.none,_,_,p,p',_,_,h=>nomatch gP p p' h
 |.int _,.str _,_,_,p,p',_,_,h=>nomatch gP p p' h
 |.int _,.tuple _,_,_,p,p',_,_,h=>nomatch gP p p' h
 |.str _,.none,_,_,p,p',_,_,h=>nomatch gP p p' h
 |.str _,.int _,_,_,p,p',_,_,h=>nomatch gP p p' h
 |.str _,.tuple _,_,_,p,p',_,_,h=>nomatch gP p p' h
 |.tuple _,.none,_,_,p,p',_,_,h=>nomatch gP p p' h
 |.tuple _,.int _,_,_,p,p',_,_,h=>nomatch gP p p' h
 |.tuple _,.str _,_,_,p,p',_,_,h=>nomatch gP p p' h
 |.bool _,_,_,_,p,_,_,_,_=>by simp[Pl]at p
 |.list _,_,_,_,p,_,_,_,_=>by simp[Pl]at p
 |.dict _,_,_,_,p,_,_,_,_=>by simp[Pl]at p
 |_,.bool _,_,_,_,p,_,_,_=>by simp[Pl]at p
 |_,.list _,_,_,_,p,_,_,_=>by simp[Pl]at p
 |_,.dict _,_,_,_,p,_,_,_=>by simp[Pl]at p
theorem AI:∀(xs ys:List Ab){r r':List Nat},cZ xs->cZ ys->Cl xs++r=Cl ys++r'->xs=ys/\r=r'
 |[],[],r,r',_,_,h=>⟨rfl,by simpa[Cl]using h⟩
 |[],_::_,_,_,_,_,h=>by simp[Cl]at h
 |_::_,[],_,_,_,_,h=>by simp[Cl]at h
 |x::xs,y::ys,r,r',p,p',h=>by
  rw[Cl,Cl]at h;have h2:(Cs x++Cl xs)++r=(Cs y++Cl ys)++r':=(Ba (Ba h).2).2;rw[Bk,Bk]at h2;obtain⟨e,e2⟩:=lR x y (by simpa[cZ]using p.1) (by simpa[cZ]using p'.1) (mK _ _) (mK _ _) h2;obtain⟨e3,e4⟩:=AI xs ys (by simpa[cZ]using p.2) (by simpa[cZ]using p'.2) e2;exact⟨by rw[e,e3],e4⟩
end
mutual
theorem mE:∀(d:Ab),Pl d->d.shown.cps.toList=Cs d
 |.none,_=>by rw[PyData.shown_none,Cs];decide +kernel
 |.int i,_=>by rw[Cs];rfl
 |.str x,p=>by
  rw[Pl]at p;rw[PyData.shown_str,Cs];exact p.2
 |.tuple [],_=>by rw[Cs];decide +kernel
 |.tuple [x],p=>by
  rw[Pl,cZ]at p;rw[PyData.shown_tuple,Cs,Eg,Eg,Da,Da,join_one,mE x p.1];rfl
 |.tuple (x::y::r),p=>by
  rw[Pl,cZ]at p;rw[PyData.shown_tuple,Cs,Eg,Eg,Da,Da,join_cons_cons,Eg,Eg,mE x p.1];have j:=EC (y::r) p.2 (λe=>nomatch e);rw[Da,Cl]at j;rw[Cl,<-show _=Cs y++Cl r from j];simp[signs_ofString]
 |.bool _,p=>by simp[Pl]at p
 |.list _,p=>by simp[Pl]at p
 |.dict _,p=>by simp[Pl]at p
theorem EC:∀(l:List Ab),cZ l->l≠[]->(Str.join ", " (Da l)).cps.toList++[41]=(Cl l).drop 2
 |[],_,h=>absurd rfl h
 |[y],p,_=>by
  rw[cZ]at p;rw[Da,Da,join_one,mE y p.1,Cl,Cl];rfl
 |y::z::r,p,_=>by
  rw[cZ]at p;rw[Da,Da,join_cons_cons,Eg,Eg,mE y p.1];have j:=EC (z::r) p.2 (λe=>nomatch e);rw[Da,Cl]at j;rw[Cl,Cl,<-show _=Cs z++Cl r from j];simp[signs_ofString]
end
theorem shown_inj(p:Pl d)(p':Pl d')(h:d.shown=d'.shown):d=d':=
 (lR d d' (r:=[]) (r':=[]) p p' (.inl rfl) (.inl rfl) (by rw[<-mE d p,<-mE d' p',h])).1
end KG
namespace KG
open PySem PySem.W PyProof.Rows
theorem Ju(i):cU i≠[]:=by
 unfold cU;rw[PyData.shown_int,signs_ofString];intro h;have h:=List.map_eq_nil_iff.mp h;have:toString i="":=String.toList_inj.mp h
 revert this
 cases i with
 |ofNat n=>
  intro h;have h2:(Nat.repr n).length=0:=congrArg String.length h;have:0 < (Nat.repr n).length:=Nat.length_repr_pos;omega
 |negSucc n=>
  intro h;have h2:=congrArg String.length (show "-"++Nat.repr (n+1)="" from h);rw[String.length_append]at h2;have:("-":String).length=1:=rfl;have:("":String).length=0:=rfl;omega
end KG
namespace Nb
open PySem L2 DL KG
theorem MT(h:rK c=ah):97<=c/\c<=122:=by
 unfold rK at h;rw[Bm]at h;have ea:("a":Str).cps.toList=[97]:=by decide +kernel
 have ez:("z":Str).cps.toList=[122]:=by decide +kernel
 rw[ea,ez]at h;have h1:¬([c] < [97]):=by simpa using h.1
 have h2:¬([122] < [c]):=by simpa using h.2
 refine⟨Nat.not_lt.mp λz=>h1 ?_,Nat.not_lt.mp λz=>h2 ?_⟩
 ·exact List.Lex.rel z
 ·exact List.Lex.rel z
theorem OD:∀c,c < 26->Builtin.Str.reprChar 39 (97+c)=[97+c]:=by decide +kernel
theorem yC:∀(l:List Nat)(o:Array Nat),(∀c∈l,Builtin.Str.reprChar 39 c=[c])->(l.foldl (λout c=>out++(Builtin.Str.reprChar 39 c).toArray) o).toList=o.toList++l
 |[],o,_=>by rw[Cc];rfl
 |c::l,o,h=>by
  rw[Fi,yC l _ λd hd=>h d (An _ hd),h c Au];simp
theorem yd(h:x.cps.toList.all rK=ah):Pl (.str x):=by
 have hr:∀c∈x.cps.toList,97<=c/\c<=122:=λc hc=>MT (Dm.mp h c hc);have n39:39∉x.cps.toList:=λz=>by have:=hr 39 z;omega
 rw[Pl];refine⟨n39,?_⟩;have hq:reprQuote x=39:=by
  unfold reprQuote;simp;exact λz=>absurd (Array.mem_toList_iff.mpr z) n39
 unfold reprText;rw[hq,Array.toList_push,<-Array.foldl_toList,yC _ _ λc hc=>?_]
 ·rfl
 ·have:=hr c hc;have e:=OD (c-97) ⋯;rw[show 97+(c-97)=c by omega]at e;exact e
theorem rj(i):Pl (.int i):=by rw[Pl];exact Ju i
theorem FJ:∀{ds:List Ab},(∀d∈ds,Pl d)->cZ ds
 |[],_=>by rw[cZ];trivial
 |d::r,h=>by rw[cZ];exact⟨h d Au,FJ λe he=>h e (An _ he)⟩
theorem jQ(h:∀d∈ds,Pl d):Pl (.tuple ds):=by rw[Pl];exact FJ h
theorem pW(h:bS d=ah):Pl d:=by
 cases d with
 |str x=>
  unfold bS at h;simp only[Bm]at h;rcases of_decide_eq_true h.2.2 with rfl|rfl|rfl<;>exact yd ∅
 |int i=>exact rj i
 |_=>cases h
theorem vG(h:kG x):Pl (.str x):=by
 have:=h.2.2;unfold mU at this;rw[Bm,Bm]at this;exact yd this.2.2
theorem zW(okh:okHs ps hs)(okn:∀q∈ns,oj q):Pl (bg hs ns):=by
 refine jQ λd hd=>fj (P:=Pl) ?_ ?_ hd
 ·refine jQ λd hd=>?_;obtain⟨h,hh,rfl⟩:=A3.mp hd;refine jQ λd hd=>?_;rcases Aw.mp hd with rfl|hd
  ·exact rj _
  ·refine fj (P:=Pl) (rj _) (jQ λd hd=>?_) hd;obtain⟨p,hp,rfl⟩:=A3.mp hd;have o:=yN okh h hh p hp;exact jQ λe he=>fj (P:=Pl) (vG o.1) (pW o.2) he
 ·refine jQ λd hd=>?_;obtain⟨q,hq,rfl⟩:=A3.mp hd;refine jQ λd hd=>fj (P:=Pl) (jQ λd hd=>pW ((okn q hq).1.2 d hd)) ?_ hd;rcases(okn q hq).2 with e|⟨i,e,_⟩
  ·rw[e,Pl];trivial
  ·rw[e];exact rj i
end Nb
namespace Nb
open PySem L2 DL
theorem CF(e:δ[i]?=ae (ae (.w (.d (.list ds)))))(k:Q (.d (.bool ah)) n):dH "list" (aj i) δ n Q:=by
 unfold dH;refine au e ?_;show Q (.d (.bool (gB "list" (.list ds)))) n;rw[IQ];exact k
theorem t7(e:δ[i]?=ae (ae (.w (.d (.list ds)))))(k:Q (.d (.int ds.length)) n):wB bK (ao (aj i) ak) δ n Q:=b6 (au e k)
theorem jA(k:Q (.d (.bool (decide (a=b)))) n):bM (.d (.int a)) (.d (.int b)) n Q:=k
theorem Tb(hu:∀Q:DQ,Q (.d (.bool ai)) n->u δ n Q)(k:Q (.d (.bool ai)) n):eL u v δ n Q:=hu _ k
theorem Pe(h:Small d):SmlA d:=⟨h.1,h.2.1,h.2.2.2.2,h.len⟩
theorem RI:c7 qw DM ["_law_told","_law_many"]:=λws n Q h=>by
 obtain⟨ms,a0,L,m,rfl,hm,ha,hl,⟨nd,hL⟩,k⟩:=h;show DM [ae (.w (.d (.list (L.map (bW ms))))),ae (.w (.d (.int m)))] n _;refine bG (sF (λQ q=>CF rfl q) ?_);have e1:((L.map (bW ms)).length:Int)=L.length:=by rw[Ad]
 by_cases c:(L.length:Int)=m
 ·refine sF (λQ q=>ar (t7 rfl (au rfl (jA ?_)))) ?_
  ·rw[e1,decide_eq_true c];exact q
  refine ar ?_;unfold vE;refine bX ?_;unfold dO mw;refine au rfl ?_;show eY _ _ _ _ (L.map (bW ms)) [] [af] n;refine kY (bW ms) (λs=>.str (bW ms s).shown) L [] af n (λs hs n Q' q=>b6 (au rfl ⟨Pe ?_,q⟩)) ?_
  ·obtain⟨o1,o2,o3⟩:=lK hm ha (hL s hs);exact O7 o1 o2 ⟨Bb o3.1 ∎,o3.2⟩
  have inj:∀s∈L,∀t∈L,(bW ms s).shown=(bW ms t).shown->s=t:=λs hs t ht e=>by
   obtain⟨o1,o2,o3⟩:=lK hm ha (hL s hs);obtain⟨p1,p2,p3⟩:=lK hm ha (hL t ht);exact yT (hL s hs) (hL t ht) (KG.shown_inj (zW o2 o3.2) (zW p2 p3.2) e)
  refine⟨L.map λs=>(bW ms s).shown,by rw[Cg,Cj];rfl,by rw[Ad];omega,λus un um=>?_⟩;have nd2:(L.map λs=>(bW ms s).shown).Nodup:=oB nd inj;have l1:=ky un λx hx=>(um x).mp hx;have l2:=ky nd2 λx hx=>(um x).mpr hx;rw[Ad]at l1 l2;refine au rfl (jA ?_);rw[show us.length=L.length by omega];exact k
 ·refine Tb (λQ q=>ar (t7 rfl (au rfl (jA ?_)))) ?_
  ·rw[e1,decide_eq_false c];exact q
  ·rw[decide_eq_false c]at k;exact k
def k8:List Nat->Nat
 |[]=>1
 |i::z=>i*k8 z
theorem FL:∀{z:List Nat},(∀i∈z,1<=i)->iD (z.map (· - 1))=k8 z
 |[],_=>rfl
 |i::z,h=>by
  show(i-1+1)*iD (z.map (· - 1))=i*k8 z;rw[FL λj hj=>h j (.tail _ hj),Nat.sub_add_cancel (h i (.head _))]
theorem FK:∀{z:List Nat},(∀i∈z,1<=i)->(z.map (· - 1)).sum+z.length=z.sum
 |[],_=>rfl
 |i::z,h=>by
  have:=FK λj hj=>h j (List.Mem.tail i hj);have:=h i (.head _);simp;omega
theorem Ny:∀z∈qC,z.length<=3/\∀i∈z,1<=i/\i<=45:=by decide
theorem IA:∀(z:List Nat)(acc:Nat)(x:Option SV),(∀i∈z,i<=45)->(∀x',K.nx [af,t,ae (.w (.d (cq z0))),x',p,ae (.w (.d (.int ((acc*k8 z:Nat):Int)))),a,b,c,d,e,f,g,h] n)->
  dE (cj 3) (aA 5 (w2 ↥5 ↥3 (gI CMul λi j=>.int (i*j)))) K (z.map λi=>.int (i:Nat)) [af,t,ae (.w (.d (cq z0))),x,p,ae (.w (.d (.int (acc:Nat)))),a,b,c,d,e,f,g,h] n
 |[],acc,x,_,k=>by have:=k x;rw[show acc*k8 []=acc from Nat.mul_one _]at this;exact this
 |i::z,acc,x,hz,k=>by
  have:=IA (z0:=z0) (t:=t) (p:=p) (a:=a) (b:=b) (c:=c) (d:=d) (e:=e) (f:=f) (g:=g) (h:=h) (n:=n) (K:=K) z (acc*i) (ae (.w (.d (.int (i:Nat))))) (λj hj=>hz j (.tail _ hj)) λx'=>by
   have:=k x';rw[show acc*k8 (i::z)=acc*i*k8 z from(Nat.mul_assoc _ _ _).symm]at this;exact this
  have hi:=hz i (.head _);show aA 5 _ [af,t,ae (.w (.d (cq z0))),ae (.w (.d (.int (i:Nat)))),p,ae (.w (.d (.int (acc:Nat)))),a,b,c,d,e,f,g,h] n _;refine bE (x:=.int ((acc*i:Nat):Int)) (λQ q=>ar (au rfl (au rfl ⟨.inr ⟨by omega,by omega⟩,?_⟩))) ?_
  ·rw[Int.natCast_mul]at q;exact q
  ·exact this
theorem N6(e5:δ[5]?=ae (ae (.w (.d (.int c)))))(e1:δ[1]?=ae (ae (.w .tp)))(e6:δ[6]?=ae (ae (.w (.d (dq (dm 0))))))(hn:n < 2 ^ 39)(k:∀(a0:Nat) (n':Int),(a0=0\/a0=2)->n'<=n+1->K.nx (δ.set 6 (ae (.w (.d (dq (dm a0)))))) n'):
  aV (gF (cT (w2 ↥5 (wC (.int 100)) mG)) (cT (w2 (aJ fN (ao ↥1 (ao (wC (.int 2)) ak))) (wC (.int 0)) bM))) (aA 6 (av (ao (av (ao (av (ao (wC (.str "a")) (ao (wC (.int 1)) ak))) (ao (wC (.int 2)) ak))) ak))) aN δ n K:=by
 have e0:δ.set 6 (ae (.w (.d (dq (dm 0)))))=δ:=Ey λj=>by
  by_cases z:6=j
  ·subst z;rw[Bq (Al.mp e6).1,e6]
  ·rw[A6 z]
 have k0:∀n',n'<=n+1->K.nx δ n':=λn' h=>by have:=k 0 n' (.inl rfl) h;rw[e0]at this;exact this
 by_cases c0:c < 100
 ·refine CB (λQ q=>aT (k:=ah) (λQ q=>ar (au e5 (aH (lg (by rw[decide_eq_true c0];exact q))))) q) ?_;refine(show aJ fN (ao ↥1 (ao (wC (.int 2)) ak)) δ n _ from lM e1 ⋯ ∎ ∎ λr r0 r1=>?_);show if decide (r=0)=ah then _ else _
  by_cases cr:r=0
  ·rw[if_pos (decide_eq_true cr)];exact bE (x:=dq (dm 2)) (λQ q=>rH (λQ q=>gf (λQ q=>gf (λQ q=>aH q) (λQ q=>aH q) q) (λQ q=>aH q) q) q) (k 2 _ (.inr rfl) (Int.le_refl _))
  ·rw[if_neg (by simpa using cr)];exact k0 _ (Int.le_refl _)
 ·exact bu (λQ q=>AY (λQ q=>aT (k:=ai) (λQ q=>ar (au e5 (aH (lg (by rw[decide_eq_false c0];exact q))))) q) q) (k0 n ⋯)
theorem RR(m):hk m 0=(0,0,[]):=by unfold hk bk;simp
theorem BJ:∀z:List Nat,(cD (z.map (· - 1)) ((z.map (· - 1)).map λ_=>0)).map bQ=z.map λ_=>.tuple [.int 0,.int 0,.tuple []]
 |[]=>rfl
 |i::z=>by
  show bQ (hk (i-1) 0)::_=_::_;rw[RR];exact congrArg _ (BJ z)
theorem KQ(z:List Nat)(a0):bW (z.map (· - 1)) (cH (z.map (· - 1)) a0)=.tuple [.tuple (z.map λ_=>.tuple [.int 0,.int 0,.tuple []]),dq (dm a0)]:=by
 unfold bW bg cH;rw[BJ]
theorem pV(h:CMul i j)(k:Q (.d (.int (i*j))) n):gI CMul (λi j=>.int (i*j)) (.d (.int i)) (.d (.int j)) n Q:=⟨h,k⟩
theorem nV(k:Q (.d (.int (i-j))) n):fF (λi j=>.int (i-j)) (.d (.int i)) (.d (.int j)) n Q:=k
theorem tE(k:Q (.d (.tuple ds)) n):gy [.d (.list ds)] n Q:=k
theorem vC(ms:List Nat):Sg.d 2 (dY ms 0)=.tuple [.str "all",.tuple ((A5 ms.length).map λi=>.tuple [.str "ended",.int (i:Nat)])]:=by
 show PyData.tuple [.str "all",.tuple (((A5 ms.length).map λi=>Sg.bs 1 (.ended i)).map (Sg.d 1))]=_;rw[Cj];rfl
theorem Il:∀z:List Nat,jJ (z.map λi=>.int (i:Nat))=ae (z.map λi:Nat=>((i:Nat):Int))
 |[]=>rfl
 |i::z=>by show jJ (.int (i:Nat)::z.map λi=>.int (i:Nat))=_;unfold jJ;rw[Il z];rfl
theorem xy(ha:∀Q:DQ,Q (.d x) n->a δ n Q)(hb:∀Q:DQ,Q (.d y) n->b δ n Q)(hc:∀Q:DQ,Q (.d z) n->c δ n Q)(k:Q [x,y,z] n):bL (ao a (ao b (ao c ak))) δ n Q:=ha _ (hb _ (hc _ (Bj (show 3<=1000 by decide) k)))
theorem Tw(ha:∀Q:DQ,Q (.d x) n->a δ n Q)(hb:∀Q:DQ,Q (.d y) n->b δ n Q)(k:Q [x,y] n):bL (ao a (ao b ak)) δ n Q:=ha _ (hb _ (Bj (show 2<=1000 by decide) k))
theorem fk{W V:aF}(e:δ[i]?=ae (ae (.w (.d (.int a)))))(hT:a=b->W δ n K)(hF:¬a=b->V δ n K):aV (cT (w2 (aj i) (wC (.int b)) bM)) W V δ n K:=by
 by_cases c:a=b
 ·exact cF (λQ q=>aT (k:=ah) (λQ q=>ar (au e (aH (jA (by rw[decide_eq_true c];exact q))))) q) (hT c)
 ·exact bu (λQ q=>aT (k:=ai) (λQ q=>ar (au e (aH (jA (by rw[decide_eq_false c];exact q))))) q) (hF c)
theorem Ip:∀z:List Nat,(z.map λi:Nat=>((i:Nat):Int)).sum=((z.sum:Nat):Int)
 |[]=>rfl
 |i::z=>by rw[Bg,List.sum_cons,List.sum_cons,Ip z];omega
theorem oD(h:xs[i]?=ae x)(k:Q (.d x) n):aB (.d (.list xs)) (.d (.int (i:Nat))) n Q:=by
 show(match df xs ((i:Nat):Int)with|some d=>Q (.d d) n|none=>False);rw[fG h];exact k
theorem TH:AD (af::ae (.w .tp)::Ay 12 af) 0 pG:=by
 show AD [af,ae (.w .tp),af,af,af,af,af,af,af,af,af,af,af,af] 0 pG;refine aE (show aA 2 _ _ _ _ from gJ (au rfl ⟨rfl,by decide,λz hz=>?_⟩));dsimp only[Be];obtain⟨z3,z45⟩:=Ny z hz;have z1:∀i∈z,1<=i:=λi hi=>(z45 i hi).1;have hm:okM (z.map (· - 1)):=⟨by rw[Ad];exact z3,λm hm=>by obtain⟨i,hi,rfl⟩:=A3.mp hm;have:=(z45 i hi).2;omega⟩;refine aE (bE (x:=aZ (aQ (z.map (· - 1)))) (λQ q=>b6 (bX ?_)) ?_)
 ·unfold dO gi;refine au rfl ?_;refine(show eY _ _ _ _ (z.map λi=>.int (i:Nat)) [] [af] (0+2)from kY (λi:Nat=>.int (i:Nat)) (λi=>h9 (bj (i-1))) z [] af _ (λi hi n Q' q=>gJ (ar (au rfl (aH (nV ⟨i-1,?_,by have:=(z45 i hi).2;omega,q⟩))))) (tE ?_))
  ·have:=z1 i hi;rw[show((i:Int)-1)=((i-1:Nat):Int) by omega]
  ·rw[Cg];have:aZ (aQ (z.map (· - 1)))=.tuple (z.map λi=>h9 (bj (i-1))):=by unfold aZ;rw[Cj,Cj];rfl
   rw[this]at q;exact q
 dsimp only[Be];refine aE (bE (x:=.int 1) (λQ q=>aH q) ?_);dsimp only[Be];refine aE (show dw _ _ _ _ _ _ from ?_);unfold dw gi;refine au rfl ?_;refine(show dE _ _ _ (z.map λi=>.int (i:Nat)) [af,ae (.w .tp),ae (.w (.d (cq z))),af,ae (.w (.d (aZ (aQ (z.map (· - 1)))))),ae (.w (.d (.int ((1:Nat):Int)))),af,af,af,af,af,af,af,af] (0+2)from IA z 1 af (λi hi=>(z45 i hi).2) λx3=>?_);dsimp only;rw[Nat.one_mul,<-FL z1];refine aE (bE (x:=dq (dm 0)) (λQ q=>lU q) ?_);dsimp only[Be];refine aE (N6 rfl rfl rfl ∎ λa0 n hA hn=>?_);dsimp only[Be];have ha:a0<=2:=by omega
 have len:((match dq (dm a0)with|.tuple l=>l.length|_=>0:Nat):Int)*2=a0:=by rcases hA with rfl|rfl<;>rfl
 refine aE (bE (x:=.int ((a0+1:Nat):Int)) (λQ q=>ar (aH (ar (aH (ub rfl (pV (.inl ∎) (iA ?_))))))) ?_)
 ·rcases hA with rfl|rfl
  ·exact q
  ·exact q
 dsimp only[Be];refine aE (bE (x:=.int ((a8 (z.map (· - 1)) a0:Nat):Int)) (λQ q=>ar (au rfl (au rfl (pV (.inr ⋯) ?_)))) ?_)
 ·rw[show((iD (z.map (· - 1)):Nat):Int)*((a0+1:Nat):Int)=((a8 (z.map (· - 1)) a0:Nat):Int) by unfold a8;rw[Nat.mul_comm,Int.natCast_mul]];exact q
 dsimp only[Be];refine aE (bE (x:=bW (z.map (· - 1)) (cH (z.map (· - 1)) a0)) (λQ q=>?_) ?_)
 ·rw[KQ]at q;refine gf (x:=.tuple (z.map λ_=>.tuple [.int 0,.int 0,.tuple []])) (λQ q=>b6 (bX ?_)) (λQ q=>au rfl q) q;unfold dO;refine(show aj 2 _ n _ from au rfl ?_);refine(show eY _ _ _ _ (z.map λi=>.int (i:Nat)) [] [af] n from kY (λi:Nat=>.int (i:Nat)) (λ_=>.tuple [.int 0,.int 0,.tuple []]) z [] af _ (λi hi n Q' q=>MU (λQ q=>aH q) (λQ q=>aH q) (λQ q=>lU q) q) (tE ?_));rw[Cg];exact q
 dsimp only[Be];generalize hms:z.map (· - 1)=ms at *;have hlz:z.length=ms.length:=by rw[<-hms,Ad]
 have aims:∀d∈([.int 0,.int 1,.int 2,.int 1]:List Ab),∃aim:Nat,d=.int (aim:Nat)/\aim < 3:=λd hd=>by
  simp only[Aw,Bh,or_false]at hd;rcases hd with rfl|rfl|rfl|rfl
  ·exact⟨0,rfl,by decide⟩
  ·exact⟨1,rfl,by decide⟩
  ·exact⟨2,rfl,by decide⟩
  ·exact⟨1,rfl,by decide⟩
 refine aE (show aA 9 _ _ _ _ from ar (bX (Bj (show 4<=1000 by decide) (lM rfl ⋯ ∎ ∎ λr r0 r1=>ixKl r0 r1 λd hd=>?_))));obtain⟨aim,rfl,hi⟩:=aims d hd;dsimp only[Be];refine aE (bE (x:=Sg.d 2 (dY ms aim)) (λQ q=>?_) ?_)
 ·refine ar (bX (xy (x:=Sg.d 2 (dY ms 0)) (λQ q=>?_) (λQ q=>gf (λQ q=>aH q) (λQ q=>lU q) q) (λQ q=>gf (λQ q=>aH q) (λQ q=>lU q) q) (au rfl ?_)))
  ·rw[vC]at q;refine gf (λQ q=>aH q) (y:=.tuple ((A5 ms.length).map λi=>.tuple [.str "ended",.int (i:Nat)])) (λQ q=>b6 (bX ?_)) q;unfold dO oS;refine ub rfl ?_;rw[Ad,hlz];refine Bj ⟨by omega,by have:=hm.1;omega⟩ ?_;rw[Dz];have er:dg 0 ms.length=(A5 ms.length).map λi=>.int (i:Nat):=by unfold dg;simp
   rw[er];refine(show eY _ _ _ _ ((A5 ms.length).map λi=>.int (i:Nat)) [] [af] _ from kY (λi:Nat=>.int (i:Nat)) (λi=>.tuple [.str "ended",.int (i:Nat)]) (A5 ms.length) [] af _ (λi hi n Q' q=>gf (λQ q=>aH q) (λQ q=>au rfl q) q) (tE ?_));rw[Cg];exact q
  ·rcases(by omega:aim=0\/aim=1\/aim=2)with rfl|rfl|rfl
   ·exact q
   ·exact q
   ·exact q
 dsimp only[Be];have ways:∀d∈([.int 0,.int 1,.int 2,.int 3,.int 1,.int 3]:List Ab),∃way:Nat,d=.int (way:Nat)/\way < 4:=λd hd=>by
  simp only[Aw,Bh,or_false]at hd;rcases hd with rfl|rfl|rfl|rfl|rfl|rfl
  ·exact⟨0,rfl,by decide⟩
  ·exact⟨1,rfl,by decide⟩
  ·exact⟨2,rfl,by decide⟩
  ·exact⟨3,rfl,by decide⟩
  ·exact⟨1,rfl,by decide⟩
  ·exact⟨3,rfl,by decide⟩
 refine aE (show aA 11 _ _ _ _ from ar (bX (Bj (show 6<=1000 by decide) (lM rfl ⋯ ∎ ∎ λr r0 r1=>ixKl r0 r1 λd hd=>?_))));obtain⟨way,rfl,hw⟩:=ways d hd;dsimp only[Be];refine aE ?_;unfold kI;refine nQ (au rfl (au rfl (au rfl (au rfl ⟨ms,a0,way,aim,rfl,hm,ha,hw,hi,λgt=>?_,λle d hd=>?_⟩))))
 ·refine Bj rfl ?_;dsimp only[iu,jM,cj,Be];refine aE (pH rfl (λ_=>?_) λz=>absurd ⋯ z);exact bG (ar (au rfl (bX (xy (λQ q=>aH q) (λQ q=>aH q) (λQ q=>aH q) (Bj rfl ⟨rfl,by decide,by decide,ah,rfl,rfl⟩)))))
 ·refine Bj rfl ?_;dsimp only[iu,jM,cj,Be];refine aE (pH rfl (λz=>absurd z ⋯) λ_=>?_);unfold aN;dsimp only;refine aE (bu (λQ q=>aT (k:=ai) (λQ q=>ar (au rfl (xD (Ql q)))) q) ?_);dsimp only;rcases hd with⟨rfl,L,rfl,hl,hL⟩|⟨rfl,L,rfl,hl,hL⟩|⟨rfl,x,rfl⟩|⟨rfl,rfl,rfl⟩|⟨rfl,h2,mv,rfl,hl⟩
  ·refine aE (fk rfl (λ_=>?_) λz=>absurd rfl z);refine bG (cP (au rfl (au rfl ⟨ms,a0,L,_,rfl,hm,ha,by omega,hL,?_⟩)));rw[hl,decide_eq_true rfl];rfl
  ·refine aE (fk rfl (λz=>absurd z ∎) λ_=>?_);dsimp only;refine aE (fk rfl (λ_=>?_) λz=>absurd rfl z);refine bG (cP (au rfl (au rfl ⟨ms,a0,L,_,rfl,hm,ha,by omega,hL,?_⟩)));rw[hl,decide_eq_true rfl];rfl
  ·refine aE (fk rfl (λz=>absurd z ∎) λ_=>?_);dsimp only;refine aE (fk rfl (λz=>absurd z ∎) λ_=>?_);dsimp only;refine aE (fk rfl (λ_=>?_) λz=>absurd rfl z);refine bG (ar (ar (au rfl (aH (eB (ar (bX (xy (λQ q=>aH q) (λQ q=>aH q) (λQ q=>aH q) (au rfl ?_)))))))));rcases(by omega:aim=0\/aim=1\/aim=2)with rfl|rfl|rfl
   ·exact oD rfl (Bj ∅ ⟨by decide +kernel,by decide +kernel,by decide +kernel,ah,rfl,rfl⟩)
   ·exact oD rfl (Bj ∅ ⟨by decide +kernel,by decide +kernel,by decide +kernel,ah,rfl,rfl⟩)
   ·exact oD rfl (Bj ∅ ⟨by decide +kernel,by decide +kernel,by decide +kernel,ah,rfl,rfl⟩)
  ·refine aE (fk rfl (λz=>absurd z ∎) λ_=>?_);dsimp only;refine aE (fk rfl (λz=>absurd z ∎) λ_=>?_);dsimp only;refine aE (fk rfl (λz=>absurd z ∎) λ_=>?_);dsimp only;refine aE (fk rfl (λ_=>?_) λz=>absurd rfl z);exact bG (ar (au rfl (aH rfl)))
  ·refine aE (fk rfl (λz=>absurd z ∎) λ_=>?_);dsimp only;refine aE (fk rfl (λz=>absurd z ∎) λ_=>?_);dsimp only;refine aE (fk rfl (λz=>absurd z ∎) λ_=>?_);dsimp only;refine aE (fk rfl (λz=>absurd z ⋯) λ_=>?_);dsimp only;refine bG (sF (λQ q=>CF rfl q) (ar (t7 rfl (ar (bX (Tw (x:=.int (ms.sum:Nat)) (λQ q=>ar (b6 (au rfl ⟨_,Il z,ub rfl (nV ?_)⟩))) (λQ q=>aH q) (au rfl ?_)))))))
   ·have e1:(z.map λi:Nat=>((i:Nat):Int)).sum=((z.sum:Nat):Int):=by
     exact Ip z
    have e2:=FK z1;rw[hms]at e2;rw[e1,Ad,show((z.sum:Nat):Int)-(z.length:Int)=((ms.sum:Nat):Int) by omega];exact q
   ·rcases(by omega:aim=0\/aim=1)with rfl|rfl
    ·refine oD rfl (jA ?_);rw[hl,if_pos rfl,decide_eq_true rfl];rfl
    ·refine oD rfl (jA ?_);rw[hl,if_neg ∎];rfl
end Nb
namespace DL
open PySem L2 Nb
theorem Le(h:DE X e te we)(hK:X.K=K:=by rfl)(he:∀whole,isTrue e X.env whole=(do let v <-whole;standAt e.pos;holding [v] (truthy v)):=by intro _;rfl):DC X e (λσ H Q=>te σ H λx H'=>∃k,je K x H' k/\Q k H') (gb we):=by
 subst hK;exact vH h he
theorem Rel.drop(R:Rel C H B σ δ n):Rel C H B (σ.set i v) (δ.set i af) n:=by
 have g:∀{j:Nat}{x:SV},(δ.set i af)[j]?=ae (ae x)->δ[j]?=ae (ae x)/\(σ.set i v)[j]?=σ[j]?:=λ{j x} e=>by
  by_cases z:i=j
  ·subst z;rw[Cp]at e;cases q:δ[i]? with
   |none=>rw[q]at e;cases e
   |some y=>rw[q]at e;cases e
  ·rw[A6 z]at e;exact⟨e,A6 z⟩
 have h1:∀(j:Nat)(x:SV),(δ.set i af)[j]?=ae (ae x)->∃u,(σ.set i v)[j]?=ae (ae u)/\SRel C.H0 H B C.t u x:=λj x e=>by
  obtain⟨e1,e2⟩:=g e;rw[e2];exact R.sl j x e1
 have h2:∀(j k:Nat)(x y:SV)(u:V),(δ.set i af)[j]?=ae (ae x)->(δ.set i af)[k]?=ae (ae y)->x.isOwn=ah->y.isOwn=ah->(σ.set i v)[j]?=ae (ae u)->(σ.set i v)[k]?=ae (ae u)->j=k:=λj k x y u e1 e2 o1 o2 f1 f2=>by
  obtain⟨a1,a2⟩:=g e1;obtain⟨b1,b2⟩:=g e2;rw[a2]at f1;rw[b2]at f2;exact R.ow j k x y u a1 b1 o1 o2 f1 f2
 exact⟨R.tp,R.kp,R.t0,R.l0,R.g0,R.fz,R.bt,R.b0,R.ba,R.a0,h1,h2,by rw[B8,B8];exact R.len⟩
section
variable{Cl C0:Addr}{S:fm}{t:TA}{w:cK}{EX:St->XK}
theorem mR(ht:dz t w)(R:Rel C H B σ δ n)(hE:∀H',Rel C H' B σ δ n->EX σ (.ref Cl) af H')(q:w δ n λxs n'=>n'=n/\S xs)(Q):gR (gX Cl S) EX t σ H Q:=by
 refine ht C H B σ δ n _ _ R q λvs xs H1 n1 R1 k1 r1 q1=>?_;obtain⟨rfl,q1⟩:=q1;exact⟨C.t,C.l,C.ns,B,xs,n1,R1.tp,R1.bt,R1.ba,r1,q1,λH' T' k'=>hE H' (R1.step T' k')⟩
def Rz(Cl:Addr)(T:(St->XK)->TS)(W:(Sl->Int->Prop)->Sl->Int->Prop):Prop:=∀(C:Ctx)(EX:St->XK)(Ez:Sl->Int->Prop),(∀H B σ δ n,Rel C H B σ δ n->Ez δ n->EX σ (.ref Cl) af H)->∀H B σ δ n D,Rel C H B σ δ n->W Ez δ n->T EX D σ H
theorem qI(ht:dz t w):Rz Cl (λEX=>aW (gR (gX Cl S) EX t) (cv j)) (λEz δ n=>Ez δ n/\w δ n λxs n'=>n'=n/\S xs):=λC EX Ez L H B σ δ n D R q=>mR ht R (λH' R'=>L H' B σ δ n R' q.1) q.2 _
theorem kX(hc:gj tc cc)(hT:Rz Cl T W)(hU:Rz Cl U V'):Rz Cl (λEX=>eQ tc (T EX) (U EX)) (λEz δ n=>cc δ n λb n'=>if b=ah then W Ez δ n' else V' Ez δ n'):=λC EX Ez L H B σ δ n D R q=>
 hc C H B σ δ n _ _ R q λb H1 n1 R1 _ q1=>by
  cases b with
  |true=>rw[if_pos rfl]at q1 ⊢;exact hT C EX Ez L H1 B σ δ n1 D R1 q1
  |false=>rw[if_neg Ak]at q1 ⊢;exact hU C EX Ez L H1 B σ δ n1 D R1 q1
def uS(Cl:Addr)(ie j:Nat)(bs:List Bool)(th:TS):Prop:=∀(D:Ends)(σ:St)(H:Hp)(ea:Addr),σ[ie]?=ae (ae (.ref ea))->H ea=ae (yO ea Cl)->
 (∀p H',(∀b o,H b=ae o->H' b=ae o)->H p=af->H' p=ae (.lst (bs.map .bl))->D.nx (σ.set j (ae (.ref p))) H')->th D σ H
def oZ(ie j:Nat)(bs:List Bool)(Wb:(Sl->Int->Prop)->Sl->Int->Prop):aF:=λδ n K=>Wb (λδ' n'=>ie < δ'.length/\K.nx ((δ'.set j (ae (.w (.d (.list (bs.map .bool)))))).set ie af) n') δ n
theorem ER:∀bs:List Bool,RdXs H B (bs.map .bl) (bs.map .bool)
 |[]=>.nil
 |b::bs=>.cons (.bl b) (ER bs)
theorem Tc(c:XCl K' Cl C0)(hj:j≠ie)(hb:bs.length<=1000)(hth:uS Cl ie j bs th)(hsd:Rz Cl tb Wb):i9 (iV K' C0 ie tb th) (oZ ie j bs Wb):=λC H B σ δ n K D R q E=>by
 refine hsd C (ki K' C0 ie th D) _ (λH1 B1 σ1 δ1 n1 R1 e1=>?_) H B σ δ n D R q;refine⟨Cl,rfl,rfl,c,λea hea=>hth _ _ _ ea (Bq (by rw[R1.len];exact e1.1)) aR λp H' hk hp hl=>?_⟩;have hpa:p≠ea:=λz=>by rw[z,aR]at hp;cases hp
 have hp1:H1 p=af:=by rw[aD hpa]at hp;exact hp
 have R3:=R1.same (H':=H') λb o z=>hk b o (by rw[aD (aY z hea)];exact z);have rd:RdX H' B1 (.ref p) (.list (bs.map .bool)):=.lst hl (R1.nb hp1) (by rw[Ad];exact Bb hb ∎) (ER bs);have R4:=(R3.set (i:=j) (v:=.ref p) (x:=.d (.list (bs.map .bool))) rd rfl).drop (i:=ie) (v:=af);show D.nx (((σ1.set ie (ae (.ref ea))).set j (ae (.ref p))).set ie af) _;have e:((σ1.set ie (ae (.ref ea))).set j (ae (.ref p))).set ie af=(σ1.set j (ae (.ref p))).set ie af:=by rw[List.set_comm _ _ hj.symm,List.set_set]
 rw[e];exact E.nx _ B1 _ _ n1 R4 e1.2
end
section
variable{X:Cx}{Cl c1 c2 c3:Addr}{ie j:Nat}
abbrev n9(C:Addr)(v:V)(b:Bool):List V->Hp->VK->Prop:=λxs H Q=>∃ea,xs=[.ref ea,v]/\H ea=ae (yO ea C)/\Q (.bl b) H
abbrev vS(C:Addr)(cs:List Addr)(b:Bool):List V->Hp->VK->Prop:=λxs H Q=>∃ea t,xs=[.ref ea,.ref t]/\H ea=ae (yO ea C)/\H t=ae (.tup (cs.map V.ref))/\Q (.bl b) H
abbrev AK(Cl c1 c2 c3:Addr)(ie j:Nat):TS:=aW (iZ (aM (eT (n9 Cl (.ref Cl) ah) (aM (az ie) (aM (tC (.ref Cl)) aI))) (aM (eT (n9 Cl (.ty "ValueError") ah) (aM (az ie) (aM (tC (.ty "ValueError")) aI))) (aM (eT (vS Cl [c1,c2,c3] ai) (aM (az ie) (aM (gG (aM (tC (.ref c1)) (aM (tC (.ref c2)) (aM (tC (.ref c3)) aI)))) aI))) aI)))) (cv j)
theorem HY{q0 q1 q2 q3 q4 q5 q6 q7 q8 q9 q10 q11 q12 q13 q14 q15 q16 q17:Pos}(hN:X.N.Nodup)(hj:X.N[j]?=ae xf)(he:X.N[ie]?=ae xe)(hjl:X.env.scope.names.lookup xf=ae .local)(hel:X.env.scope.names.lookup xe=ae .local)
  (hgI:Gl X "isinstance") (hmI:X.mg "isinstance"=af) (hgV:Gl X "ValueError") (hmV:X.mg "ValueError"=af) (hgc:Gl X xc) (hmc:X.mg xc=ae (.ref Cl)) (hg1:Gl X x1) (hm1:X.mg x1=ae (.ref c1)) (hg2:Gl X x2) (hm2:X.mg x2=ae (.ref c2)) (hg3:Gl X x3) (hm3:X.mg x3=ae (.ref c3)) (G:XCla X.K Cl)
  (hV:D6 X.K (.ref Cl) (.type "ValueError")=ae ah) (hT:PySem.W.kitAny X.K (.ref Cl) [.ref c1,.ref c2,.ref c3]=ae ai)
  (d1:(xc==("__debug__":Str))=ai) (d2:(x1==("__debug__":Str))=ai) (d3:(x2==("__debug__":Str))=ai) (d4:(x3==("__debug__":Str))=ai) (d5:(xe==("__debug__":Str))=ai) (d6:(xe==("__classdict__":Str))=ai)
  (s1:Dp (.List [.Call (.Name "isinstance" q3) [.Name xe q4,.Name xc q5] [] q6,.Call (.Name "isinstance" q7) [.Name xe q8,.Name "ValueError" q9] [] q10,.Call (.Name "isinstance" q11) [.Name xe q12,.Tuple [.Name x1 q13,.Name x2 q14,.Name x3 q15] kt q16] [] q17] q1) (ae (.Name xf q0)) q2.line X.env=pure ai) (e0):
  PSs (X.inExc e0) [.Assign [.Name xf q0] (.List [.Call (.Name "isinstance" q3) [.Name xe q4,.Name xc q5] [] q6,.Call (.Name "isinstance" q7) [.Name xe q8,.Name "ValueError" q9] [] q10,.Call (.Name "isinstance" q11) [.Name xe q12,.Tuple [.Name x1 q13,.Name x2 q14,.Name x3 q15] kt q16] [] q17] q1) q2] (AK Cl c1 c2 c3 ie j):=by
 have ve:∀{e0:Ae}{q:Pos},PE (X.inExc e0) (.Name xe q) (az ie):=gC he (.inl hel) d5 d6;have k:D6 X.K (.ref Cl) (.ref Cl)=ae ah:=by unfold D6;rw[if_pos (beq_self_eq_true _)]
 exact ft (dZ hN hj (.inl hjl) (sr (bP (FG hgI hmI (kf (v:=.ref Cl) hgc hmc rfl d1) (λu r=>r) G k ve) (bP (FG hgI hmI (zD (v:=.ty "ValueError") hgV hmV PyProof.Rows.Boot.«ValueError» rfl) (λu r=>r) G hV ve)
   (bP (Qp (cs:=[c1,c2,c3]) hgI hmI G hT ve (FH (bP (kf (v:=.ref c1) hg1 hm1 rfl d2) (bP (kf (v:=.ref c2) hg2 hm2 rfl d3) (bP (kf (v:=.ref c3) hg3 hm3 rfl d4) dC))))) dC)))) s1 (.inr hjl))
theorem PZ(c1 c2 c3):uS Cl ie j [ah,ah,ai] (AK Cl c1 c2 c3 ie j):=by
 intro D σ H ea he1 hH kq;refine⟨.ref ea,he1,ea,rfl,hH,.ref ea,he1,ea,rfl,hH,.ref ea,he1,by show 3<=Ar;decide,λp hp=>?_⟩;have n1:ea≠p:=aY hH hp;refine⟨ea,p,rfl,by rw[aD n1];exact hH,aR,by show 3<=Ar;decide,λr hr=>?_⟩;have hrp:r≠p:=λz=>by rw[z,aR]at hr;cases hr
 have hr1:H r=af:=by rw[aD hrp]at hr;exact hr
 exact kq r _ (λb o z=>by rw[aD (aY z hr1),aD (aY z hp)];exact z) hr1 aR
end
end DL
namespace Nb
open PySem L2 DL
theorem Tv{α:Type}{us:List α}(h:us.length=1):∃a,us=[a]:=match us,h with|[a],_=>⟨a,rfl⟩
theorem Nl{α:Type}{us:List α}(h:us.length=2):∃a b,us=[a,b]:=match us,h with|[a,b],_=>⟨a,b,rfl⟩
theorem N8{α:Type}{us:List α}(h:us.length=3):∃a b c,us=[a,b,c]:=match us,h with|[a,b,c],_=>⟨a,b,c,rfl⟩
theorem RP{α:Type}{us:List α}(h:us.length=4):∃a b c d,us=[a,b,c,d]:=match us,h with|[a,b,c,d],_=>⟨a,b,c,d,rfl⟩
theorem Q6{α:Type}{us:List α}(h:us.length=5):∃a b c d e,us=[a,b,c,d,e]:=match us,h with|[a,b,c,d,e],_=>⟨a,b,c,d,e,rfl⟩
theorem iz{N ps:List Str}{S:E7}(h1:S.kind=.function:=by rfl)(h2:S.isCoroutine=ai:=by rfl)(h3:S.isGenerator=ai:=by rfl)(h4:N.Nodup:=by decide +kernel)(h5:N.take ps.length=ps:=by rfl)(h6:∀x∈ps,S.names.lookup x=ae .local\/S.names.lookup x=ae .cell:=by decide +kernel)(h7:∀y∈S.names,y.2≠.free:=by decide +kernel):FnScope N ps S:=⟨h1,h2,h3,h4,h5,h6,h7⟩
theorem vb(h:Has X.prog X.w X.K X.mg X.base k x ps S)(hr:Room k' X.A)(ha:DA X (e::es) tR wR)(hk:k<=k')(hg:Gl X x)(hdb:(x==("__debug__":Str))=ai)(he:Ap (e::es) X.env=(ai,eval e X.env)::Ap es X.env)(hpl:(Cy pos (Ap es X.env)).any (·.1)=ai):DE X (.Call (.Name x p) (e::es) [] pos) (fH (cu S) [] E0 tR) (aJ S wR):=rY h (hr.mono hk) hg ha hdb he hpl
theorem xP(h:HasN X.prog X.w X.K X.mg X.base k x ps S)(hr:Room k' X.A)(ha:DA X (e::es) tR wR)(hk:k<=k')(hg:Gl X x)(hdb:(x==("__debug__":Str))=ai)(he:Ap (e::es) X.env=(ai,eval e X.env)::Ap es X.env)(hpl:(Cy pos (Ap es X.env)).any (·.1)=ai):DF X (.Call (.Name x p) (e::es) [] pos) (fH (mO S) [] E0 tR) (dQ S wR):=uy h (hr.mono hk) hg ha hdb he hpl
theorem uD(h:HasX X.prog X.w X.K X.mg X.base k x ps S)(hr:Room k' X.A)(ha:DA X (e::es) tR wR)(hk:k<=k')(hg:Gl X x)(hdb:(x==("__debug__":Str))=ai)(he:Ap (e::es) X.env=(ai,eval e X.env)::Ap es X.env)(hpl:(Cy pos (Ap es X.env)).any (·.1)=ai):DE X (.Call (.Name x p) (e::es) [] pos) (fH (mW S) [] E0 tR) (rh S wR):=KP h (hr.mono hk) hg ha hdb he hpl
theorem uX(h:HasX X.prog X.w X.K X.mg X.base k x ps S)(hr:Room k' X.A)(ha:DA X (e::es) tR wR)(hk:k<=k')(hg:Gl X x)(hN:X.N.Nodup)(hi:X.N[i]?=ae y)(hx:gw X.env.scope y)(hs:Dp (.Call (.Name x p) (e::es) [] pos) (ae (.Name y pos')) ap.line X.env=pure ai)(hf:X.fn y=ah\/X.env.scope.names.lookup y=ae .local)(hdb:(x==("__debug__":Str))=ai)(he:Ap (e::es) X.env=(ai,eval e X.env)::Ap es X.env)(hpl:(Cy pos (Ap es X.env)).any (·.1)=ai):DS X (.Assign [.Name y pos'] (.Call (.Name x p) (e::es) [] pos) ap) (aW (fH (mW S) [] E0 tR) (cv i)) (mD i S wR):=TJ h (hr.mono hk) hg hN hi hx ha hs hf hdb he hpl
def RS:NameKind->Bool
 |.local=>ah
 |_=>ai
def Hy:NameKind->Bool
 |.free=>ah
 |_=>ai
def mY(sc:E7):List Str:=(sc.names.filter λy=>Hy y.2).map (·.1)
def cN(sc:E7):List Str:=((sc.names.drop 1).filter λy=>RS y.2).map (·.1)++mY sc
def m8(sc:E7)(cells:List (Str×Addr)):List (Str×Addr):=(mY sc).reverse.map λx=>(x,(cells.lookup x).getD 0)
def rQ(sc:E7):List (Str×NameKind):=sc.names.map λy=>(y.1,bif Hy y.2 then .cell else y.2)
inductive Frs(X:Cx)(sc:E7):List (Option Nat)->List Str->Prop
 |nil:Frs X sc [] []
 |own {f:List (Option Nat)} {x:Str} {N:List Str} (h:Frs X sc f N):Frs X sc (af::f) (x::N)
 |free {f:List (Option Nat)} {x:Str} {N:List Str} {i:Nat} (h1:X.N[i]?=ae x) (h2:fD X.env.scope x) (h3:X.env.kindOf x=ae .cell\/X.env.kindOf x=ae .free) (h4:(rQ sc).lookup x=ae .cell\/(rQ sc).lookup x=ae .free) (h5:(m8 sc X.env.cells).lookup x=X.env.cells.lookup x) (h:Frs X sc f N):Frs X sc (ae i::f) (x::N)
theorem Frs.len(h:Frs X sc f N):f.length=N.length:=by
 induction h with
 |nil=>rfl
 |own _ ih=>rw[Bf,Bf,ih]
 |free _ _ _ _ _ _ ih=>rw[Bf,Bf,ih]
theorem Mw(h1:closureFor sc X.env=pure (m8 sc X.env.cells))(h2:sc.kind=.function)(h3:∀y∈sc.names,y.2≠.cell)(h4:∀y∈sc.names,y.2=.local->sc.names.lookup y.1=ae .local)(h5:((mY sc).all λx=>(X.env.cells.lookup x).isSome)=ah)(h6:(relabel sc X.env).names=rQ sc)(h7:∀y∈rQ sc,(y.2=.cell\/y.2=.free)->y.1∈(mY sc).reverse)(h8:Frs X sc f (cN sc)):CompSc X (cN sc) sc (m8 sc X.env.cells) f:=by
 refine⟨h1,h2,h3,h4,Ry λy hy=>?_,AU _ _ h6 (show(m8 sc X.env.cells).map (·.1)=(mY sc).reverse by unfold m8;rw[Cj];exact List.map_id' _) h7,h8.len,?_⟩
 ·obtain⟨x,hx,rfl⟩:=A3.mp hy;obtain⟨c,hc⟩:=Eu.mp (Dm.mp h5 x (List.mem_reverse.mp hx));show X.env.cells.lookup x=ae ((X.env.cells.lookup x).getD 0);rw[hc];rfl
 ·intro j i h;rw[h6];clear h1 h2 h3 h4 h5 h6 h7;generalize cN sc=N at h8 ⊢
  induction h8 generalizing j with
  |nil=>cases h
  |own _ ih=>cases j with
   |zero=>cases h
   |succ j=>exact ih j h
  |free a b c d e _ ih=>cases j with
   |zero=>cases h;exact⟨_,rfl,a,b,c,d,e⟩
   |succ j=>exact ih j h
theorem NM(h:Frs X sc f N):Frs X sc f N:=h
theorem kC(h:X.K=K):(cC X N sc cl s H fp).K=K:=h
theorem nC(h:N.Nodup):(cC X N sc cl s H fp).N.Nodup:=h
def zL:List Str:=["all","any","bool","dict","enumerate","int","isinstance","len","list","range","repr","reversed","set","sorted","str","sum","tuple","zip","ValueError"]
theorem zU{mg:Str->Option Ae}(z:∀x∈zL,mg x=af)(h:x∈zL):mg x=af:=z x h
theorem UG:Bp "set"=ae (.type "set"):=by decide +kernel
theorem R7:Bp "sorted"=ae (.builtin "sorted"):=by decide +kernel
theorem O5:Bp "sum"=ae (.builtin "sum"):=by decide +kernel
section
variable{P:A7}{w:Bi}{K:Af}{mg:Str->Option Ae}{base:Heap}{fa:Addr}{fd:Bz}
theorem LZ{w:DT}(h:DE X e t w):DE X e t w:=h
theorem MR{w:cK}(h:DA X e t w):DA X e t w:=h
theorem Ki{w:aF}(h:DS X e t w):DS X e t w:=h
theorem xo{w:aF}(h:DSs X e t w):DSs X e t w:=h
theorem Jn{w:bR}(h:DC X e t w):DC X e t w:=h
theorem MB{w:fA}(h:DF X e t w):DF X e t w:=h
theorem Om{w:gc}(h:DI X g e t w):DI X g e t w:=h
theorem vw{b rest:List Stmt}(e:b=st::rest)(h:DSs X (st::rest) T W):DSs X b T W:=e▸h
theorem gO(F:Fun K x x st fa fd)(h:∀(kV doc pm:Ae) (an:Option Addr) (cdv ct:Ae) (us:List Ae),us.length=ps.length->bindArgs (Fu x x (kM st) (eR st) (bw st) .none kV doc pm an cdv ct) ⟨us,[]⟩=pure (ps.zip us):=by
 intro _ _ _ _ _ _ us hl
 first
  |obtain⟨_,rfl⟩:=Tv hl;rfl
  |obtain⟨_,_,rfl⟩:=Nl hl;rfl
  |obtain⟨_,_,_,rfl⟩:=N8 hl;rfl
  |obtain⟨_,_,_,_,rfl⟩:=RP hl;rfl
  |obtain⟨_,_,_,_,_,rfl⟩:=Q6 hl;rfl):Binds K fd ps []:=F.binds h
def iI(x:Str)(st:Stmt)(ps:List Str):Prop:=∀{K:Af}{fa:Addr}{fd:Bz},Fun K x x st fa fd->Binds K fd ps []
def ij(P:A7)(w:Bi)(K:Af)(mg:Str->Option Ae)(base:Heap)(k:Nat)(x:Str)(i:Nat)(fa:Addr)(N:List Str)(b:List Stmt)(W:aF):Prop:=N.Nodup->∀(cdv:Ae)(A:Br)(outer:List Env)(s:Ai)(H:Hp)(E:XK),Room k (A.deeper (Cu x (bw (bh i)) s.heap.objs.size fa cdv))->∃T,DSs (bz cb P w K mg base N x (bw (bh i)) fa cdv A outer s H E).nox b T W
theorem r9{N:List Str}{b:List Stmt}{W:aF}(h:N.Nodup->∀(cdv:Ae) (A:Br) (outer:List Env) (s:Ai) (H:Hp) (E:XK),Room k (A.deeper (Cu x (bw (bh i)) s.heap.objs.size fa cdv))->∃T,DSs (bz cb P w K mg base N x (bw (bh i)) fa cdv A outer s H E).nox b T W:=by
 intro nd cdv A outer s H E hr;apply Exists.intro;apply vw (by exact rfl)
 repeat' first
  |with_reducible first|exact Ni|exact P6|exact Kc|exact IT|exact Nj|exact DO|exact Gp|exact rk|exact PyProof.Rows.boot_range|exact J0|exact UG|exact R7|exact JM|exact O5|exact JV
  |with_reducible first|apply Room.units|apply Room.units0|apply Room.hd|apply Room.gd
  |exact rfl
  |exact By rfl
  |exact Ca (By rfl)
  |exact Ca (Ca rfl)
  |exact Ca rfl
  | (with_reducible apply LZ;with_reducible first|apply bf|apply jY|apply TY|apply rX|apply vb|apply Um|apply n8|apply i8 (uZ ?_) xk ?_ ?_ ?_ ?_ ?_ ?_ ?_ ?_|apply Jl|apply p6|apply QQ|apply Rg|apply sS|apply yf|apply ma (jf ?_ ?_) iJ|apply GD (GQ ?_) yF ?_ ?_ ?_ ?_ ?_ ?_ ?_ ?_|apply JE|apply Po|apply Mu|apply PJ|apply vf|apply Q3|apply PF|apply ma (BD ?_ ?_) wZ|apply P1|apply xa|apply yR|apply RD|apply PL|apply MJ|apply ma y6 GA|apply PY|apply Q9|apply K8|apply NW|apply uD|apply ma (Ia ?_) yy|apply ma tG uT|apply ma NT Q2|apply i8 (UC ?_) Oz ?_ ?_ ?_ ?_ ?_ ?_ ?_ ?_|apply i8 (RY ?_) JZ ?_ ?_ ?_ ?_ ?_ ?_ ?_ ?_|apply i8 GB yq ?_ ?_ ?_ ?_ ?_ ?_ ?_ ?_|apply i8 (uZ ?_) JB ?_ ?_ ?_ ?_ ?_ ?_ ?_ ?_|apply GD (GQ ?_) K4 ?_ ?_ ?_ ?_ ?_ ?_ ?_ ?_|apply i8 (S4 ?_ ?_ ?_) Tq ?_ ?_ ?_ ?_ ?_ ?_ ?_ ?_|apply i8 (Lg ?_) ON ?_ ?_ ?_ ?_ ?_ ?_ ?_ ?_|apply Kh AM EY AM EY ?_ ?_ ?_ ?_|apply Nn|apply DF.d)
  | (with_reducible apply MR;with_reducible first|apply bF|apply dr)
  | ((with_reducible apply Ki);first|((with_reducible apply Tx);case hx=>exact rfl)|with_reducible first|apply uM|apply iR|apply gM|apply wH|apply Nr|apply MP|apply tD|apply HU|apply Pw|apply Oj|apply uX|apply Qq|apply QO|apply AJ|apply AZ|apply CL|apply Iy|apply SS)
  | (with_reducible apply xo;with_reducible first|apply Rj|apply K7|apply gV|apply uo|apply MF|apply fW)
  | ((with_reducible apply Jn);first|(with_reducible apply DCW.cc;with_reducible first|apply cw_and|apply cw_or)|with_reducible first|apply fg (jf ?_ ?_) iJ|apply fg y6 GA|apply fg (BD ?_ ?_) wZ|apply fg tG uT|apply Of|apply fg Kx UE|apply fg K3 Lw|apply fg NU Uk|apply fg (yM ?_) yy|apply Kt|apply Jb|apply O8|apply CO|apply vH|apply Le|apply fg (Qc ?_ ?_) wZ|apply Oe)
  | (with_reducible apply MB;with_reducible first|apply o6|apply yh|apply xP|apply LV|apply Ue|apply QS)
  | (with_reducible apply Om;with_reducible first|apply zd|apply JP|apply NA|apply Oo|apply Rl|apply CQ)
  |with_reducible first|apply qL|apply OY|apply Me|apply LM|apply Lv|apply P2|apply UL|apply OH|apply UM|apply Sb|apply cw_and|apply cw_and1|apply SW|apply cw_or|apply cw_or1|apply Mw
  |assumption
  |with_reducible first|apply kC|apply nC
  | ((with_reducible apply NM);first|apply Frs.nil|apply Frs.own|apply Frs.free)
  |exact gm _
  |exact λ_ _=>rfl
  |exact λ_=>rfl
  |exact zU (by assumption) ∅
  |exact PassesOwn.never
  |exact⟨rfl,rfl,rfl,rfl⟩
  |with_unfolding_all rfl
  |decide
  |decide +kernel
  |omega
  |exact Ca (Ca (By rfl))
  |exact Ca (Ca (Ca (By rfl)))
  |exact Ca (Ca (Ca (Ca rfl)))
  |intro(_:Ai) _ _
  |exact(0:Int)):ij P w K mg base k x i fa N b W:=h
theorem a9(k p)(x)(F:Fun K x x (bh i) fa fd/\mg x=ae (.ref fa))(body:c7 S W N)(len:∀ws n Q,S ws n Q->ws.length=p:=by(intro _ _ _ h;(repeat obtain⟨_,h⟩:=h);subst_vars;rfl))(hp:(N.take p).length=p:=by rfl)(Sc:FnScope N (N.take p) (bw (bh i)):=by exact iz)(b:iI x (bh i) (N.take p):=by intro _ _ _ F;exact gO F)
  (h:ij P w K mg base k x i fa N (eR (bh i)) W:=by exact r9):Has P w K mg base (k+1) x (N.take p) S:=
 Has.mk' F.1 F.2 (b F.1) (Fun.okD F.1 Sc (λws n Q q=>by rw[hp];exact len ws n Q q) λcdv A outer s H E hr=>(h Sc.nd cdv A outer s H E hr).elim λT d=>⟨T,W,d,body⟩)
theorem jo{N:List Str}(k p)(x)(F:Fun K x x (bh i) fa fd/\mg x=ae (.ref fa))(body:∀ws n Q,S ws n Q->W (cO N ws) n {nx:=λ_ _=>False,rt:=λ_ _=>False,rn:=Q})(len:∀ws n Q,S ws n Q->ws.length=p:=by(intro _ _ _ h;(repeat obtain⟨_,h⟩:=h);subst_vars;rfl))(hp:(N.take p).length=p:=by rfl)(Sc:FnScope N (N.take p) (bw (bh i)):=by exact iz)(b:iI x (bh i) (N.take p):=by intro _ _ _ F;exact gO F)
  (h:ij P w K mg base k x i fa N (eR (bh i)) W:=by exact r9):HasN P w K mg base (k+1) x (N.take p) S:=
 HasN.mk' F.1 F.2 (b F.1) (Fun.okN F.1 Sc (λws n Q q=>by rw[hp];exact len ws n Q q) λcdv A outer s H E hr=>(h Sc.nd cdv A outer s H E hr).elim λT d=>⟨T,W,d,body⟩)
theorem vM{S:Nat->aL}{W:aL->aF}(c0)(x)(F:Fun K x x (bh i) fa fd/\mg x=ae (.ref fa))(len:∀d ws n Q,S d ws n Q->ws.length=p)(z:∀ws n Q,¬S 0 ws n Q)(body:∀d ws n Q,S (d+1) ws n Q->W (S d) (cO N ws) n {nx:=λ_ n=>Q (.d .none) n,rt:=Q})(D)(hp:(N.take p).length=p:=by rfl)(Sc:FnScope N (N.take p) (bw (bh i)):=by exact iz)(b:iI x (bh i) (N.take p):=by intro _ _ _ F;exact gO F)
  (h:∀k d:Nat,c0<=k->Has P w K mg base k x (N.take p) (S d)->ij P w K mg base k x i fa N (eR (bh i)) (W (S d)):=by intro k d hk hS;exact r9):Has P w K mg base (c0+D) x (N.take p) (S D):=by
 induction D with
 |zero=>exact Has.mk' F.1 F.2 (b F.1) ⟨λvs H Q E h=>(by obtain⟨_,_,_,_,_,_,_,_,_,_,_,q,_⟩:=h;exact absurd q (z _ _ _)),λA outer s H args us vs Q E hr he hb hv h=>(by obtain⟨_,_,_,_,_,_,_,_,_,_,_,q,_⟩:=h;exact absurd q (z _ _ _))⟩
 |succ d ih=>exact Has.mk' F.1 F.2 (b F.1) (Fun.okD F.1 Sc (λws n Q q=>by rw[hp];exact len (d+1) ws n Q q) λcdv A outer s H E hr=>(h (c0+d) d (Nat.le_add_right _ _) ih Sc.nd cdv A outer s H E hr).elim λT e=>⟨T,W (S d),e,body d⟩)
abbrev Ze:List Str:=["_law_script"]
theorem Oq{rest:List Stmt}(k)(F:Fun K "law" "law" (bh i) fa fd)(GT:FnOk P w K mg base cb 1 fT fdT Ze (pU K))(bT:Binds K fdT Ze [])(mT:mg "_law_tape"=ae (.ref fT))(kT:Bx K (.ref fT)=ah)(hW:W (af::ae (.w .tp)::Ay (N.length-2) af) 0 pG)(e:eR (bh i)=s0::rest)(h0:N.Nodup->∀(cdv:Ae) (A:Br) (outer:List Env) (s:Ai) (H:Hp) (E:XK),Room k (A.deeper (Cu "law" (bw (bh i)) s.heap.objs.size fa cdv))->PS (bz cb P w K mg base N "law" (bw (bh i)) fa cdv A outer s H E).nox s0 (aW (fH (pU K) [] E0 (aM (az 0) aI)) (cv 1)))(hN:∀v,start N [v]=ae v::af::Ay (N.length-2) af:=by intro _;rfl)(Sc:FnScope N Ze (bw (bh i)):=by exact iz)
  (h:ij P w K mg base k "law" i fa N rest W:=by exact r9):FnOk P w K mg base cb (k+1) fa fd Ze (DL.spLaw K):=
 MW F Sc GT bT mT kT hN hW λcdv A outer s H E hr=>(h Sc.nd cdv A outer s H E hr).elim λT d=>⟨s0,rest,T,e,h0 Sc.nd cdv A outer s H E hr,d⟩
end
section
variable{P:A7}{w:Bi}{K:Af}{mg:Str->Option Ae}{base:Heap}{fa:Addr}{fd:Bz}{Cl C0:Addr}
structure TM(K:Af)(mg:Str->Option Ae)(Cl C0:Addr):Prop where
 cl:XCl K Cl C0
 ga:mg "TooMany"=ae (.ref Cl)
theorem LY{p cpos pos:Pos}(R:TM X.K X.mg Cl C0)(hh:X.A.handled=af)(hg:Gl X "TooMany")(hl:vo X Cl EX)(ha:PE X e te)(he:Ap [e] X.env=(ai,eval e X.env)::Ap [] X.env:=by rfl)(hpl:(Cy cpos (Ap [] X.env)).any (·.1)=ai:=by rfl):
  DS X (.Raise (ae (.Call (.Name "TooMany" p) [e] [] cpos)) af pos) (zg Cl EX te) yp:=⟨Sj R.cl hh hg R.ga hl ha ∎ he hpl,λ_ _ _ _ _ _ _ _ _ q _=>False.elim q⟩
theorem IM{b rest:List Stmt}(e:b=st::rest)(h:kl X (st::rest) Sa EX):kl X b Sa EX:=e▸h
theorem U2{b rest:List Stmt}(e:b=st::rest)(h:DRs C X (st::rest) T W):DRs C X b T W:=e▸h
theorem rT{b rest:List Stmt}(e:b=st::rest)(h:PSs X (st::rest) T):PSs X b T:=e▸h
abbrev Zf:List Str:=["programs","steps","stands"]
theorem uY{k ka tk:Nat}(R:TM K mg Cl C0)(F:Fun K "further" "further" (bh 38) fa fd/\mg "further"=ae (.ref fa))(h_after:Has P w K mg base ka "after" ["programs","stand","mover"] bq)(hk:ka<=k)(z_range:mg "range"=af)(z_len:mg "len"=af)(g_MOST_STANDS:mg "MOST_STANDS"=ae (.int 2000 tk))
  (Sc:FnScope ["programs","steps","stands","fresh","stand","mover","behind"] (Zf:List Str) (bw (bh 38)):=by exact iz) (b:iI "further" (bh 38) Zf:=by intro _ _ _ F;exact gO F):HasM P w K mg base (k+1) "further" Zf Cl bq:=
 ⟨fa,fd,Fun.okM F.1 Sc rfl ∎ (λcdv A outer s H E hr=>IM (by exact rfl) (by
  have nd:=Sc.nd;refine⟨_,_,_,_,(show DSs _ _ (kj _ _ _ _ _ _) _ from(gV (tD (i:=3) nd rfl (By rfl) (o6 dr)) (gV (wH (CQ (K:=K) (bf 2)) (qL (i:=4) nd rfl (By rfl)) (fW (wH (zd (by rfl) z_range (yf (i8 (uZ (K:=K)) xk (by rfl) z_len Gp (bF (bf 0) dr)) (jY))) (qL (i:=5) nd rfl (By rfl)) (gV (iR (i:=6) nd rfl (By rfl) (rY h_after (hr.mono hk) (by rfl) (bF (bf 0) (bF (bf 4) (bF (bf 5) dr))))) (fW (gM (DCW.cc (cw_and (fg tG uT (bf 6) (n8) (gm _)) (cw_and1 (CO (K:=K) hr.units (bf 6) (p6 1))))) (gV (gM (fg (jf (K:=K) hr.units0) iJ (i8 GB yq (by rfl) z_len Gp (bF (p6 1) dr)) (yR (by rfl) g_MOST_STANDS) (gm _)) (fW (LY R hr.hd (by rfl) Qy GG)) uo) (gV (AJ (K:=K) (i:=1) hr.units rfl (bf 6) (rX (bF (bf 4) (bF (bf 5) dr)))) (fW (HU (i:=3) rfl (bf 6))))) uo))) PassesOwn.leaving)) PassesOwn.leaving) (fW (AZ 3))))).ps,?_,?_,?_,?_⟩
  ·exact λD σ H q=>q
  ·exact λσ H Q q=>q
  ·exact λx y H Q q=>.inl ⟨rfl,(by rw[show decide (V.int x=V.int y)=decide (x=y)from decide_eq_decide.mpr ⟨λz=>V.int.inj z,congrArg V.int⟩];exact q)⟩
  ·intro σ H Q B v0 ps e r q;cases r with
   |tup e1 e2 e3 e4=>exact⟨_,e,.inr ⟨_,_,rfl,.inr (SqT.of e1),_,_,rfl,rfl,by rw[e4.len];exact q⟩⟩)),b F.1,F.2,F.1.kp⟩
theorem vt(F:Fun K "steps_from" "steps_from" (bh 39) fa fd/\mg "steps_from"=ae (.ref fa))(h:HasM P w K mg base ka "further" Zf Cl bq)(hk:ka<=k)
  (Sc:FnScope Zi (Za:List Str) (bw (bh 39)):=by exact iz) (b:iI "steps_from" (bh 39) Za:=by intro _ _ _ F;exact gO F):HasXE P w K mg base (k+1) "steps_from" Za Cl (ko bq):=
 ⟨fa,fd,Fun.okXE F.1 Sc Uj (λcdv A outer s H E hr C Ed L=>⟨_,U2 (by exact rfl) (by
  have nd:=Sc.nd;exact x4 (DS.r (CL (i:=2) hr.units nd rfl (By rfl) (bf 1) (n8))) (x4 (DS.r (tD (i:=3) nd rfl (By rfl) (o6 (bF (bf 1) dr)))) (x4 (RO (vH (vf 3)) (yB (Uw h (hr.mono hk) pA L (by rfl) nd rfl (By rfl) ∎ (bF (bf 0) (bF (p6 2) (bF (vf 3) dr))))) PassesOwn.leaving) (yB (DS.r (Iy 2))))))⟩) Qt,b F.1,F.2,F.1.kp⟩
end
def bN:fm:=sj bq
def dB:fm:=λws=>∃a b c:Ab,ws=[.d a,.d b,.d c]/\sj bq [.d a,.d b]
theorem sy(h:bN ws):∃a b:Ab,ws=[.d a,.d b]:=by obtain⟨_,_,_,_,_,_,rfl,_⟩:=h;exact⟨_,_,rfl⟩
theorem iU(i):du (az i) (aj i):=λC H B σ δ n Q Q' R h k=>by
 unfold aj at h
 split at h
 ·rename_i x e;obtain⟨v,h1,h2⟩:=R.sl i _ e;exact⟨v,h1,k v x H n R (Kp.refl _ _) h2.1 h⟩
 ·exact h.elim
theorem J9:dz aI ak:=λC H B σ δ n Q Q' R q k=>k [] [] H n R (Kp.refl _ _) .nil q
theorem xS(h:du te we)(hr:dz tR wR):dz (aM te tR) (ao we wR):=λC H B σ δ n Q Q' R q k=>
 h C H B σ δ n _ _ R q λv x H1 n1 R1 k1 r1 q1=>hr C H1 B σ δ n1 _ _ R1 q1 λvs xs H2 n2 R2 k2 r2 q2=>k (v::vs) (x::xs) H2 n2 R2 (k1.trans k2) (.cons (r1.kp k2 R1.bt) r2) q2
theorem fY(i j):dz (aM (az i) (aM (az j) aI)) (ao (aj i) (ao (aj j) ak)):=xS (iU i) (xS (iU j) J9)
theorem oY(i j k):dz (aM (az i) (aM (az j) (aM (az k) aI))) (ao (aj i) (ao (aj j) (ao (aj k) ak))):=xS (iU i) (fY j k)
theorem Ja:mB X e λ_ _ _=>False:=λ_ _ _ _ _ _ h=>h.elim
theorem Jo:PE X e λ_ _ _=>False:=λ_ _ _ _ _ _ h=>h.elim
section
variable{P:A7}{w:Bi}{K:Af}{mg:Str->Option Ae}{base:Heap}{fa:Addr}{fd:Bz}{Cl C0:Addr}
theorem Td(F:Fun K "reached" "reached" (bh 40) fa fd/\mg "reached"=ae (.ref fa))(h:HasZ P w K mg base ka "steps_from" Za Cl bN)(hk:ka<=k)(z_list:mg "list"=af)
  (Sc:FnScope Za (Za:List Str) (bw (bh 40)):=by exact iz) (b:iI "reached" (bh 40) Za:=by intro _ _ _ F;exact gO F):HasZ P w K mg base (k+1) "reached" Za Cl bN:=by
 obtain⟨g,gd,h1,h2,h3,h4⟩:=h.ex;refine⟨fa,fd,Fun.okZ F.1 Sc (λws q=>by obtain⟨_,_,rfl⟩:=sy q;rfl) (λcdv A outer s H E hr=>?_),b F.1,F.2,F.1.kp⟩;refine⟨_,rT (by exact rfl) (ft (iQ (nj (FD hr.hd) (by rfl) z_list rk (bP (iT h1 (hr.mono hk) (by rfl) h3 h4 h2 pA (bF (bf 0) (bF (bf 1) dr)).pa) dC)))),λC B σ n ws D L R q=>?_⟩;obtain⟨a,b,rfl⟩:=sy q;exact mR (Cl:=Cl) (EX:=λ_=>E) (S:=bN) (fY 0 1) R (λH' R'=>L σ H' n R'.tp R'.kp rfl) ⟨rfl,q⟩ _
theorem Tf(F:Fun K "ends" "ends" (bh 44) fa fd/\mg "ends"=ae (.ref fa))(h:HasZ P w K mg base ka "reached" Za Cl bN)(hk:ka<=k)
  (Sc:FnScope Za (Za:List Str) (bw (bh 44)):=by exact iz) (b:iI "ends" (bh 44) Za:=by intro _ _ _ F;exact gO F):HasZ P w K mg base (k+1) "ends" Za Cl bN:=by
 obtain⟨g,gd,h1,h2,h3,h4⟩:=h.ex;refine⟨fa,fd,Fun.okZ F.1 Sc (λws q=>by obtain⟨_,_,rfl⟩:=sy q;rfl) (λcdv A outer s H E hr=>?_),b F.1,F.2,F.1.kp⟩;refine⟨_,rT (by exact rfl) (ft (iQ (Ir (N:=["one","programs"]) (cl:=[("programs",s.heap.objs.size+1)]) (fr:=[af,ae 0]) rfl ⟨by rfl,rfl,by decide +kernel,by decide +kernel,(λx c h=>h),AU [(".0",.local),("one",.local),("ready",.globalImplicit),("programs",.cell)] ["programs"] rfl rfl ∅,rfl,(λj i h=>match j,h with|0,h=>(by cases h)|1,h=>(by cases(A4 (A4 h)).symm;exact⟨"programs",rfl,rfl,Ca (By rfl),By rfl,By rfl,rfl⟩)|(j+2),h=>(by have h2:(af:Option (Option Nat))=ae (ae i):=h;cases h2))⟩
  (y8 (iT h1 (hr.mono hk) (by rfl) h3 h4 h2 pA (bF (bf 0) (bF (bf 1) dr)).pa)) (λ_ _ _=>(qL (i:=0) (show(["one","programs"]:List Str).Nodup by decide +kernel) rfl (By rfl)).pg) (λ_ _ _=>Ja) (λ_ _ _=>Jo)))),λC B σ n ws D L R q=>?_⟩
 obtain⟨a,b,rfl⟩:=sy q;exact mR (Cl:=Cl) (EX:=λ_=>E) (S:=bN) (fY 0 1) R (λH' R'=>L σ H' n R'.tp R'.kp rfl) ⟨rfl,q⟩ _
abbrev Zb:List Str:=["programs","stand","sight"]
theorem tS(F:Fun K "way_to" "way_to" (bh 43) fa fd/\mg "way_to"=ae (.ref fa))(h:HasZ P w K mg base ka "steps_from" Za Cl bN)(hk:ka<=k)
  (Sc:FnScope Zc (Zb:List Str) (bw (bh 43)):=by exact iz) (b:iI "way_to" (bh 43) Zb:=by intro _ _ _ F;exact gO F):HasZ P w K mg base (k+1) "way_to" Zb Cl dB:=by
 obtain⟨g,gd,h1,h2,h3,h4⟩:=h.ex;refine⟨fa,fd,Fun.okZ F.1 Sc (λws q=>by obtain⟨_,_,_,rfl,_⟩:=q;rfl) (λcdv A outer s H E hr=>?_),b F.1,F.2,F.1.kp⟩;refine⟨_,rT (by exact rfl) (f9 (dZ (i:=3) Sc.nd rfl (By rfl) (iT h1 (hr.mono hk) (by rfl) h3 h4 h2 pA (bF (bf 0) (bF (bf 1) dr)).pa) (by rfl) (.inl rfl)) zZ),λC B σ n ws D L R q=>?_⟩;obtain⟨a,b,c,rfl,q⟩:=q;exact mR (Cl:=Cl) (EX:=λ_=>E) (S:=bN) (fY 0 1) R (λH' R'=>L σ H' n R'.tp R'.kp rfl) ⟨rfl,q⟩ _
theorem MN(F:Fun K "never" "never" (bh 46) fa fd/\mg "never"=ae (.ref fa))(h:HasZ P w K mg base ka "steps_from" Za Cl bN)(hk:ka<=k)
  (Sc:FnScope Zc (Zb:List Str) (bw (bh 46)):=by exact iz) (b:iI "never" (bh 46) Zb:=by intro _ _ _ F;exact gO F):HasZ P w K mg base (k+1) "never" Zb Cl dB:=by
 obtain⟨g,gd,h1,h2,h3,h4⟩:=h.ex;refine⟨fa,fd,Fun.okZ F.1 Sc (λws q=>by obtain⟨_,_,_,rfl,_⟩:=q;rfl) (λcdv A outer s H E hr=>?_),b F.1,F.2,F.1.kp⟩;refine⟨_,rT (by exact rfl) (f9 (dZ (i:=3) Sc.nd rfl (By rfl) (iT h1 (hr.mono hk) (by rfl) h3 h4 h2 pA (bF (bf 0) (bF (bf 1) dr)).pa) (by rfl) (.inl rfl)) zZ),λC B σ n ws D L R q=>?_⟩;obtain⟨a,b,c,rfl,q⟩:=q;exact mR (Cl:=Cl) (EX:=λ_=>E) (S:=bN) (fY 0 1) R (λH' R'=>L σ H' n R'.tp R'.kp rfl) ⟨rfl,q⟩ _
end
abbrev kP:List Str:=["_law_way","_law_programs","_law_stand","_law_sight","_law_told","_law_refused","e"]
def wz:aL:=λws n Q=>∃(ms:List Nat)(a0 way aim:Nat),ws=[.d (.int way),.d (aZ (aQ ms)),.d (bW ms (cH ms a0)),.d (Sg.d 2 (dY ms aim))]/\okM ms/\a0<=2/\way < 4/\aim < 3/\a8 ms a0<=2000/\∀d,kQ ms a0 way aim d->Q (.d (.tuple [d,.list []])) n
def w4:aL:=λws n Q=>∃(ms:List Nat)(a0 way aim:Nat),ws=[.d (.int way),.d (aZ (aQ ms)),.d (bW ms (cH ms a0)),.d (Sg.d 2 (dY ms aim))]/\okM ms/\a0<=2/\way < 4/\aim < 3/\2000 < a8 ms a0/\Q (.d (.tuple [.none,.list [.bool ah,.bool ah,.bool ai]])) n
theorem KY(h:qv ws n Q):wz ws n Q\/w4 ws n Q:=by
 obtain⟨ms,a0,way,aim,e,hm,ha,hw,hi,h1,h2⟩:=h;by_cases c:a8 ms a0<=2000
 ·exact .inl ⟨ms,a0,way,aim,e,hm,ha,hw,hi,c,h2 c⟩
 ·exact .inr ⟨ms,a0,way,aim,e,hm,ha,hw,hi,by omega,h1 ⋯⟩
abbrev cW(i:Int):bR:=cT (w2 ↥0 (wC (.int i)) bM)
abbrev vT:aF:=aq (aA 4 (wC .none)) (aq (aA 5 (bU (bL ak))) (aq (aV (cW 0) (aA 4 (bU (dQ (jN bq) (ao ↥1 (ao ↥2 ak))))) (aV (cW 1) (aA 4 (aJ (kK bq (cJ 3)) (ao ↥1 (ao ↥2 (ao ↥3 ak))))) (aV (cW 2) (aA 4 (bU (dQ (lL bq iW) (ao ↥1 (ao ↥2 ak))))) (aA 4 (aJ (lj bq (cJ 3)) (ao ↥1 (ao ↥2 (ao ↥3 ak)))))))) (aw (av (ao ↥4 (ao ↥5 ak))))))
abbrev qQ(Ez:Sl->Int->Prop)(δ:Sl)(n:Int):Prop:=Ez δ n/\ao ↥1 (ao ↥2 ak) δ n λxs n'=>n'=n/\bN xs
abbrev qf(Ez:Sl->Int->Prop)(δ:Sl)(n:Int):Prop:=Ez δ n/\ao ↥1 (ao ↥2 (ao ↥3 ak)) δ n λxs n'=>n'=n/\dB xs
abbrev zI(i:Int)(V U:(Sl->Int->Prop)->Sl->Int->Prop)(Ez:Sl->Int->Prop)(δ:Sl)(n:Int):Prop:=cW i δ n λb n'=>if b=ah then V Ez δ n' else U Ez δ n'
abbrev vJ:aF:=aq (aA 4 (wC .none)) (aq (aA 5 (bU (bL ak))) (aq (oZ 6 5 [ah,ah,ai] (zI 0 qQ (zI 1 qf (zI 2 qQ qf)))) (aw (av (ao ↥4 (ao ↥5 ak))))))
theorem Qg:∀ws n Q,wz ws n Q->vT (cO kP ws) n {nx:=λ_ n=>Q (.d .none) n,rt:=Q}:=λws n Q h=>by
 obtain⟨ms,a0,way,aim,rfl,hm,ha,hw,hi,hc,k⟩:=h;show vT [ae (.w (.d (.int way))),ae (.w (.d (aZ (aQ ms)))),ae (.w (.d (bW ms (cH ms a0)))),ae (.w (.d (Sg.d 2 (dY ms aim)))),af,af,af] n _;refine aE (bE (x:=.none) (λQ q=>aH q) ?_);dsimp only[Be];refine aE (bE (x:=.list []) (λQ q=>xD q) ?_);dsimp only[Be];have fin:∀d,kQ ms a0 way aim d->aw (av (ao ↥4 (ao ↥5 ak))) [ae (.w (.d (.int way))),ae (.w (.d (aZ (aQ ms)))),ae (.w (.d (bW ms (cH ms a0)))),ae (.w (.d (Sg.d 2 (dY ms aim)))),ae (.w (.d d)),ae (.w (.d (.list []))),af] n {nx:=λ_ n=>Q (.d .none) n,rt:=Q}:=λd hd=>bG (gf (λQ q=>au rfl q) (λQ q=>au rfl q) (k d hd));refine aE (fk rfl (λe=>?_) λn0=>fk rfl (λe=>?_) λn1=>fk rfl (λe=>?_) λn2=>?_)
 ·obtain rfl:way=0:=by omega
  refine(show dQ _ _ _ _ _ from ?_);dsimp only[dQ,ao,ak,aj,Cr,Dk];exact Qa hm ha hc λL hl hL=>fin _ (.inl ⟨rfl,L,rfl,hl,hL⟩)
 ·obtain rfl:way=1:=by omega
  refine(show aJ _ _ _ _ _ from cf (au rfl (au rfl (au rfl ?_))));exact Q4 hm ha hi hc (λe=>fin _ (.inr (.inr (.inr (.inl ⟨rfl,e,rfl⟩))))) λh2 mv hl=>fin _ (.inr (.inr (.inr (.inr ⟨rfl,h2,_,rfl,by rw[Ad];exact hl⟩))))
 ·obtain rfl:way=2:=by omega
  refine(show dQ _ _ _ _ _ from ?_);dsimp only[dQ,ao,ak,aj,Cr,Dk];exact NY hm ha hc λL hl hL=>fin _ (.inr (.inl ⟨rfl,L,rfl,hl,hL⟩))
 ·obtain rfl:way=3:=by omega
  refine(show aJ _ _ _ _ _ from cf (au rfl (au rfl (au rfl ?_))));exact JC hm ha hi hc λx=>fin _ (.inr (.inr (.inl ⟨rfl,x,rfl⟩)))
theorem xB{V U:(Sl->Int->Prop)->Sl->Int->Prop}(e:δ[0]?=ae (ae (.w (.d (.int a)))))(hT:a=i->V Ez δ n)(hF:¬a=i->U Ez δ n):zI i V U Ez δ n:=by
 by_cases c:a=i
 ·exact aT (k:=ah) (λQ q=>ar (au e (aH (jA (by rw[decide_eq_true c];exact q))))) (by rw[if_pos rfl];exact hT c)
 ·exact aT (k:=ai) (λQ q=>ar (au e (aH (jA (by rw[decide_eq_false c];exact q))))) (by rw[if_neg Ak];exact hF c)
theorem RJ:∀ws n Q,w4 ws n Q->vJ (cO kP ws) n {nx:=λ_ n=>Q (.d .none) n,rt:=Q}:=λws n Q h=>by
 obtain⟨ms,a0,way,aim,rfl,hm,ha,hw,hi,hc,k⟩:=h;show vJ [ae (.w (.d (.int way))),ae (.w (.d (aZ (aQ ms)))),ae (.w (.d (bW ms (cH ms a0)))),ae (.w (.d (Sg.d 2 (dY ms aim)))),af,af,af] n _;refine aE (bE (x:=.none) (λQ q=>aH q) ?_);dsimp only[Be];refine aE (bE (x:=.list []) (λQ q=>xD q) ?_);dsimp only[Be];have z:=P0 hm ha hc;have fin:aw (av (ao ↥4 (ao ↥5 ak))) [ae (.w (.d (.int way))),ae (.w (.d (aZ (aQ ms)))),ae (.w (.d (bW ms (cH ms a0)))),ae (.w (.d (Sg.d 2 (dY ms aim)))),ae (.w (.d .none)),ae (.w (.d (.list [.bool ah,.bool ah,.bool ai]))),af] n {nx:=λ_ n=>Q (.d .none) n,rt:=Q}:=bG (gf (λQ q=>au rfl q) (λQ q=>au rfl q) k);refine aE (show oZ _ _ _ _ _ _ _ from ?_);unfold oZ;refine xB rfl (λ_=>?_) λ_=>xB rfl (λ_=>?_) λ_=>xB rfl (λ_=>?_) λ_=>?_
 ·exact⟨⟨(show 6 < 7 by decide),fin⟩,rfl,z⟩
 ·exact⟨⟨(show 6 < 7 by decide),fin⟩,rfl,_,_,_,rfl,z⟩
 ·exact⟨⟨(show 6 < 7 by decide),fin⟩,rfl,z⟩
 ·exact⟨⟨(show 6 < 7 by decide),fin⟩,rfl,_,_,_,rfl,z⟩
structure EV(K:Af)(mg:Str->Option Ae)(Cl C0:Addr):Prop extends TM K mg Cl C0 where
 b0:mg "BoardError"=ae (.ref C0)
 G:XCla K Cl
 hV:D6 K (.ref Cl) (.type "ValueError")=ae ah
 hT:∃c1 c2 c3,mg "NoLine"=ae (.ref c1)/\mg "NoRow"=ae (.ref c2)/\mg "NotReady"=ae (.ref c3)/\PySem.W.kitAny K (.ref Cl) [.ref c1,.ref c2,.ref c3]=ae ai
section
variable{P:A7}{w:Bi}{K:Af}{mg:Str->Option Ae}{base:Heap}{fa:Addr}{fd:Bz}{Cl C0:Addr}
theorem FnOk.or(F1:FnOk P w K mg base cb k f fd ps (cu S1))(F2:FnOk P w K mg base cb k f fd ps (cu S2))(h:∀ws n Q,S ws n Q->S1 ws n Q\/S2 ws n Q):FnOk P w K mg base cb k f fd ps (cu S):=by
 have key:∀vs H Q E,cu S vs H Q E->cu S1 vs H Q E\/cu S2 vs H Q E:=λvs H Q E q=>by
  obtain⟨t,l,ns,B,ws,n,Q0,T,bt,ba,r,q,kk⟩:=q;rcases h _ _ _ q with q|q
  ·exact .inl ⟨t,l,ns,B,ws,n,Q0,T,bt,ba,r,q,kk⟩
  ·exact .inr ⟨t,l,ns,B,ws,n,Q0,T,bt,ba,r,q,kk⟩
 refine⟨λvs H Q E q=>?_,λA outer s H args us vs Q E hr he hb hv q=>?_⟩
 ·rcases key vs H Q E q with q|q
  ·exact F1.len _ _ _ _ q
  ·exact F2.len _ _ _ _ q
 ·rcases key vs H Q E q with q|q
  ·exact F1.run A outer s H args us vs Q E hr he hb hv q
  ·exact F2.run A outer s H args us vs Q E hr he hb hv q
theorem JU(hst:X.stack=X.env::X.outer)(hfr:X.env.frame=ae X.env.locals)(hg:Gl X x)(hm:X.mg x=ae (.ref C0))(hN:X.N.Nodup)(hi:X.N[i]?=ae n)(hk:X.env.scope.names.lookup n=ae .local)
  (hb:∀(pn:List (Addr×Obj))(V:Ae->Ai->Prop),DSs (X.inTry pn V) body T W) (hs:∀e,PSs (X.inExc e) (b0::suite) th) (hdb:(x==("__debug__":Str))=ai:=by decide):
  DS X (.Try body [.ExceptHandler (ae (.Name x np)) (ae n) (b0::suite) hpos] [] [] pos) (iV X.K C0 i (λ_=>T) th) W:=⟨EM hst hfr hg hm hN hi hk (λpn V EX _=>(hb pn V).ps) hs hdb,(hb [] λ_ _=>False).sd⟩
theorem IU(c:XCl X.K Cl C0)(hj:j≠i)(hl:bs.length<=1000)(hth:uS Cl i j bs th)(hst:X.stack=X.env::X.outer)(hfr:X.env.frame=ae X.env.locals)(hg:Gl X x)(hm:X.mg x=ae (.ref C0))(hN:X.N.Nodup)(hi:X.N[i]?=ae n)(hk:X.env.scope.names.lookup n=ae .local)
  (hb:∀(pn:List (Addr×Obj))(U:Ae->Ai->Prop)(EX:St->XK),(∀pins σ H s e s',Inv (X.inTry pn U) pins σ H s->CXr X.prog X.w X.stack H s (EX σ) e s'->U e s')->PSs (X.inTry pn U) body (tb EX)) (hs:∀e,PSs (X.inExc e) (b0::suite) th) (hz:Rz Cl tb Wb) (hdb:(x==("__debug__":Str))=ai:=by decide):
  DS X (.Try body [.ExceptHandler (ae (.Name x np)) (ae n) (b0::suite) hpos] [] [] pos) (iV X.K C0 i tb th) (oZ i j bs Wb):=⟨EM hst hfr hg hm hN hi hk hb hs hdb,Tc c hj hl hth hz⟩
theorem kL(K)(i):gj (fe (cS (gz K) (az 0) (tC (.int i)))) (cW i):=k9 (l8 iJ (iU 0) (l9 λ_ _=>.int i))
theorem RL:Rz Cl (λEX=>eQ (fe (cS (gz K) (az 0) (tC (.int 0)))) (aW (gR (gX Cl bN) EX (aM (az 1) (aM (az 2) aI))) (cv 4)) (eQ (fe (cS (gz K) (az 0) (tC (.int 1)))) (aW (gR (gX Cl dB) EX (aM (az 1) (aM (az 2) (aM (az 3) aI)))) (cv 4)) (eQ (fe (cS (gz K) (az 0) (tC (.int 2)))) (aW (gR (gX Cl bN) EX (aM (az 1) (aM (az 2) aI))) (cv 4)) (aW (gR (gX Cl dB) EX (aM (az 1) (aM (az 2) (aM (az 3) aI)))) (cv 4))))) (zI 0 qQ (zI 1 qf (zI 2 qQ qf))):=
 kX (T:=λEX=>aW (gR (gX Cl bN) EX (aM (az 1) (aM (az 2) aI))) (cv 4)) (kL K 0) (qI (fY 1 2)) (kX (T:=λEX=>aW (gR (gX Cl dB) EX (aM (az 1) (aM (az 2) (aM (az 3) aI)))) (cv 4)) (kL K 1) (qI (oY 1 2 3)) (kX (T:=λEX=>aW (gR (gX Cl bN) EX (aM (az 1) (aM (az 2) aI))) (cv 4)) (U:=λEX=>aW (gR (gX Cl dB) EX (aM (az 1) (aM (az 2) (aM (az 3) aI)))) (cv 4)) (kL K 2) (qI (fY 1 2)) (qI (oY 1 2 3))))
abbrev Zd:List Str:=["_law_way","_law_programs","_law_stand","_law_sight"]
theorem T6(V:EV K mg Cl C0)(F:Fun K "_law_asked" "_law_asked" (bh 52) fa fd/\mg "_law_asked"=ae (.ref fa))(hr1:HasN P w K mg base k1 "reached" Za (jN bq))(hw1:Has P w K mg base k2 "way_to" Zb (kK bq (cJ 3)))(he1:HasN P w K mg base k3 "ends" Za (lL bq iW))(hn1:Has P w K mg base k4 "never" Zb (lj bq (cJ 3)))
  (hr2:HasZ P w K mg base k1 "reached" Za Cl bN) (hw2:HasZ P w K mg base k2 "way_to" Zb Cl dB) (he2:HasZ P w K mg base k3 "ends" Za Cl bN) (hn2:HasZ P w K mg base k4 "never" Zb Cl dB) (l1:k1<=k) (l2:k2<=k) (l3:k3<=k) (l4:k4<=k) (zI:mg "isinstance"=af) (zV:mg "ValueError"=af)
  (Sc:FnScope kP (Zd:List Str) (bw (bh 52)):=by exact iz) (b:iI "_law_asked" (bh 52) Zd:=by intro _ _ _ F;exact gO F):Has P w K mg base (k+1) "_law_asked" Zd qv:=by
 obtain⟨c1,c2,c3,m1,m2,m3,hT⟩:=V.hT;have nd:=Sc.nd;refine Has.mk' F.1 F.2 (b F.1) (FnOk.or (S1:=wz) (S2:=w4) (Fun.okD F.1 Sc (λws n Q q=>by obtain⟨_,_,_,_,rfl,_⟩:=q;rfl) λcdv A outer s H E hr=>?_) (Fun.okD F.1 Sc (λws n Q q=>by obtain⟨_,_,_,_,rfl,_⟩:=q;rfl) λcdv A outer s H E hr=>?_) λ_ _ _ h=>KY h)
 ·refine⟨_,vT,vw (by exact rfl) (gV (iR (i:=4) nd rfl (By rfl) n8) (gV (iR (i:=5) nd rfl (By rfl) (DF.d (o6 dr))) (gV (JU (i:=6) rfl rfl (by rfl) V.b0 nd rfl rfl (λpn U=>fW (gM (fg (jf (K:=K) hr.units0) iJ (bf 0) jY (gm _)) (fW (iR (i:=4) nd rfl (By rfl) (DF.d (uy hr1 (hr.mono l1) (by rfl) (bF (bf 1) (bF (bf 2) dr)))))) (fW (gM (fg (jf (K:=K) hr.units0) iJ (bf 0) jY (gm _)) (fW (iR (i:=4) nd rfl (By rfl) (rY hw1 (hr.mono l2) (by rfl) (bF (bf 1) (bF (bf 2) (bF (bf 3) dr)))))) (fW (gM (fg (jf (K:=K) hr.units0) iJ (bf 0) jY (gm _)) (fW (iR (i:=4) nd rfl (By rfl) (DF.d (uy he1 (hr.mono l3) (by rfl) (bF (bf 1) (bF (bf 2) dr)))))) (fW (iR (i:=4) nd rfl (By rfl) (rY hn1 (hr.mono l4) (by rfl) (bF (bf 1) (bF (bf 2) (bF (bf 3) dr)))))))))))) (λe0=>HY (ie:=6) (j:=5) nd rfl rfl rfl rfl (by rfl) zI (by rfl) zV (by rfl) V.ga (by rfl) m1 (by rfl) m2 (by rfl) m3 V.G V.hV hT ∎ ∎ ∎ ∎ ∎ ∎ (by rfl) e0)) (fW (uM (rX (bF (bf 4) (bF (bf 5) dr)))))))),Qg⟩
 ·obtain⟨g1,f1,q1⟩:=hr2.ex;obtain⟨g2,f2,q2⟩:=hw2.ex;obtain⟨g3,f3,q3⟩:=he2.ex;obtain⟨g4,f4,q4⟩:=hn2.ex;refine⟨_,vJ,vw (by exact rfl) (gV (iR (i:=4) nd rfl (By rfl) n8) (gV (iR (i:=5) nd rfl (By rfl) (DF.d (o6 dr))) (gV (IU (i:=6) (j:=5) V.cl ∎ ∎ (PZ c1 c2 c3) rfl rfl (by rfl) V.b0 nd rfl rfl (λpn U EX hx=>ft (lG (fg (jf (K:=K) hr.units0) iJ (bf 0) jY (gm _)).pt (ft (dZ (i:=4) nd rfl (By rfl) (iT q1.1 (hr.mono l1) (by rfl) q1.2.2.1 q1.2.2.2 q1.2.1 hx (bF (bf 1) (bF (bf 2) dr)).pa) (by rfl) (.inl rfl))) (ft (lG (fg (jf (K:=K) hr.units0) iJ (bf 0) jY (gm _)).pt (ft (dZ (i:=4) nd rfl (By rfl) (iT q2.1 (hr.mono l2) (by rfl) q2.2.2.1 q2.2.2.2 q2.2.1 hx (bF (bf 1) (bF (bf 2) (bF (bf 3) dr))).pa) (by rfl) (.inl rfl))) (ft (lG (fg (jf (K:=K) hr.units0) iJ (bf 0) jY (gm _)).pt (ft (dZ (i:=4) nd rfl (By rfl) (iT q3.1 (hr.mono l3) (by rfl) q3.2.2.1 q3.2.2.2 q3.2.1 hx (bF (bf 1) (bF (bf 2) dr)).pa) (by rfl) (.inl rfl))) (ft (dZ (i:=4) nd rfl (By rfl) (iT q4.1 (hr.mono l4) (by rfl) q4.2.2.1 q4.2.2.2 q4.2.1 hx (bF (bf 1) (bF (bf 2) (bF (bf 3) dr))).pa) (by rfl) (.inl rfl))))))))) (λe0=>HY (ie:=6) (j:=5) nd rfl rfl rfl rfl (by rfl) zI (by rfl) zV (by rfl) V.ga (by rfl) m1 (by rfl) m2 (by rfl) m3 V.G V.hV hT ∎ ∎ ∎ ∎ ∎ ∎ (by rfl) e0) RL) (fW (uM (rX (bF (bf 4) (bF (bf 5) dr)))))))),RJ⟩
end
end Nb
namespace Nb
open PySem L2
section
variable{P:A7}{w:Bi}{K:Af}{mg:Str->Option Ae}{base:Heap}
theorem MV:FnScope Ze Ze (bw IJ):=⟨rfl,rfl,rfl,by decide +kernel,rfl,by decide +kernel,by decide +kernel⟩
theorem Qn(F:Fun K "_law_tape" "_law_tape" IJ f fd):FnOk P w K mg base cb 1 f fd Ze (pU K):=by
 refine F.ok MV (λvs H Q E h=>?_) (λcdv A outer s H vs Q E hr h=>?_)
 ·obtain⟨a,ns,rfl,_⟩:=h;rfl
 ·obtain⟨a,ns,rfl,hS,hl,k⟩:=h;refine⟨_,ft (iQ (sr (bP (GN RB (pv 0) DY (AN cg)) (bP cg (bP cg (bP (sr (bP rV (bP rV (bP rV (bP cg (bP cg (bP cg (bP cg dC)))))))) dC)))))),?_⟩;refine⟨_,rfl,_,rfl,a,_,rfl,hS,λp hp=>⟨small (by simp),λg hg=>⟨small (by simp),λq hq=>?_⟩⟩⟩;rw[Mc (by rw[Ad];exact hl)]at hg hq ⊢;have hgp:g≠p:=λz=>by rw[z,aR]at hg;cases hg
  have hg0:H g=af:=by rw[aD hgp]at hg;exact hg
  have hqg:q≠g:=λz=>by rw[z,aR]at hq;cases hq
  rw[aD hqg]at hq;have hqp:q≠p:=λz=>by rw[z,aR]at hq;cases hq
  have hq0:H q=af:=by rw[aD hqp]at hq;exact hq
  refine k q ⟨p,g⟩ _ ⟨⟨0,0,aR,Int.le_refl _,Int.le_refl _⟩,by rw[aD hqp.symm,aD hgp.symm,aR],hl,(λz=>by rw[aD hqg.symm,aR];rfl),hqg.symm⟩ λb o e=>?_;rw[aD (aY e hq0),aD (aY e hg0),aD (aY e hp)];exact e
abbrev Zj:List Str:=["_law_tape_here","_law_many"]
theorem scDraw:FnScope ["_law_tape_here","_law_many","_law_found","_law_spot","_law_cell","_law_mixed"] Zj (bw DZ):=⟨rfl,rfl,rfl,by decide +kernel,rfl,by decide +kernel,by decide +kernel⟩
theorem TX{R:Prop}{G:Int->Prop}(use:(∀c,G c)->R)(fin:∀c,G c):R:=use fin
theorem Kj{R G:Prop}(use:G->R)(fin:G):R:=use fin
theorem Jk(F:Fun K "_law_draw" "_law_draw" DZ f fd)(zl:mg "len"=af):FnOk P w K mg base cb 1 f fd Zj BW:=by
 refine F.ok scDraw (λvs H Q E h=>?_) (λcdv A outer s H vs Q E hr h=>?_)
 ·obtain⟨t,l,ns,n,many,rfl,_⟩:=h;rfl
 ·obtain⟨t,l,ns,n,many,rfl,T,hn,hm0,hm1,k⟩:=h;obtain⟨a,b,ht,ha0,ha1⟩:=T.ob;have ntl:=T.ne;have hl:=T.ls;have hlen:=T.len;refine⟨_,f9 (lG (kU op_gt (ix ix_list (pv 0) cg (λ_ _=>rfl)) cg (gm _))
    (f9 (dZ (i:=2) scDraw.nd rfl (By rfl) (dy jI (ix ix_list (pv 0) cg (λ_ _=>rfl)) (pv 1)))
     (f9 (rG (dy HJ (ix ix_list (pv 0) cg (λ_ _=>rfl)) (pv 1)) (tV (pv 0) cg t9))
     (ft (iQ (pv 2))))) qj)
   (f9 (dZ (i:=3) scDraw.nd rfl (By rfl) (ix ix_list (pv 0) cg (λ_ _=>rfl)))
   (f9 (rG (dy op_add (pv 3) cg) (tV (pv 0) cg t9))
   (f9 (dZ (i:=4) scDraw.nd rfl (By rfl) cg)
   (f9 (lG (kU op_gt (ju rD (by rfl) zl Gp (bP (ix ix_list (pv 0) cg (λ_ _=>rfl)) dC)) cg (gm _))
    (ft (dZ (i:=4) scDraw.nd rfl (By rfl) (ix ix_list (ix ix_list (pv 0) cg (λ_ _=>rfl))
     (dy jI (pv 3) (ju rD (by rfl) zl Gp (bP (ix ix_list (pv 0) cg (λ_ _=>rfl)) dC))) (λ_ _=>rfl)))) qj)
   (f9 (lG (PW.pt (ET (kU op_ge (pv 4) (dy Ta cg cg) (gm _))
     (zo (kU op_lt (pv 3) (ju rD (by rfl) zl Gp (bP (ix ix_list (pv 0) cg (λ_ _=>rfl)) dC)) (gm _)))))
    (f9 (rG (dy HJ (pv 4) (pv 1)) (tV (pv 0) cg t9)) (ft (iQ (dy jI (pv 4) (pv 1))))) qj)
   (f9 (dZ (i:=5) scDraw.nd rfl (By rfl) (dy jI (dy lB (dy op_add (dy op_add (dy jI (pv 4) cg) (dy lB (dy lB cg (pv 3)) (pv 3))) cg) cg) cg))
   (ft (iQ (dy jI (dy jI (dy lB (dy jI (dy op_add (dy lB (pv 5) cg) (dy lB (pv 3) cg)) cg) cg) cg) (pv 1)))))))))),?_⟩
  refine⟨_,rfl,t,_,2,_,rfl,rfl,SqL.of ht,fG (j:=2) rfl,_,_,rfl,rfl,_,rfl,?_⟩;refine jx (λ_=>?_) (λ_=>?_)
  ·-- found=tape[2] % many;tape[2]=tape[2] // many;return found
   refine⟨_,rfl,t,_,2,_,rfl,rfl,SqL.of ht,fG (j:=2) rfl,_,rfl,_,_,rfl,rfl,hm0,?_⟩;refine⟨_,rfl,t,_,2,_,rfl,rfl,SqL.of ht,fG (j:=2) rfl,_,rfl,_,_,rfl,rfl,⟨hm0,hm1⟩,?_⟩;refine⟨_,rfl,t,_,2,2,rfl,rfl,ht,rfl,?_⟩;refine⟨_,rfl,?_⟩;refine k _ _ (Int.emod_nonneg _ ⋯) (Hi _ hm0) ⟨⟨a,b / many,aR,ha0,by omega⟩,by rw[aD ntl.symm];exact hl,hlen,(λz=>by rw[aD T.gne];exact T.ag z),T.gne⟩ Kp.tape
  ·-- spot=tape[1];tape[1]=spot+1;cell=0
   refine⟨_,rfl,t,_,1,_,rfl,rfl,SqL.of ht,fG (j:=1) rfl,?_⟩;refine⟨_,rfl,_,_,rfl,rfl,_,rfl,t,_,1,1,rfl,rfl,ht,rfl,?_⟩;have ht1:∀o,upd H t o t=ae o:=λo=>aR;have hl1:∀o,upd H t o l.s=ae (.lst (ns.map V.int)):=λo=>by rw[aD ntl.symm];exact hl
   generalize hH1:upd H t (.lst (((.ref l.s::.int a::.int b::jk l:List V)).set 1 (.int (a+1))))=H1;have g1:H1 t=ae (.lst (.ref l.s::.int (a+1)::.int b::jk l)):=by rw[<-hH1];exact aR
   have g2:H1 l.s=ae (.lst (ns.map V.int)):=by rw[<-hH1];exact hl1 _
   have g3:Kp t H H1:=by rw[<-hH1];exact Kp.tape
   have g4:l7=ah->H1 l.g=ae (.lst AW):=λz=>by rw[<-hH1,aD T.gne];exact T.ag z
   refine⟨_,rfl,t,_,0,_,rfl,rfl,SqL.of g1,fG (j:=0) rfl,l.s,_,rfl,.inl (SqL.of g2),_,_,rfl,rfl,_,rfl,?_⟩;apply TX
   case use=>
    intro fin;refine jx (λhp=>?_) (λ_=>?_)
    ·have hpos:(0:Int) < ((ns.map V.int).length:Int):=of_decide_eq_true hp;obtain⟨v,hv,hm⟩:=Uo (xs:=ns.map V.int) (r:=a % ((ns.map V.int).length:Int)) (Int.emod_nonneg _ ⋯) (Hi _ hpos);obtain⟨c,_,rfl⟩:=A3.mp hm;refine⟨_,rfl,t,_,0,_,rfl,rfl,SqL.of g1,fG (j:=0) rfl,_,rfl,_,rfl,t,_,0,_,rfl,rfl,SqL.of g1,fG (j:=0) rfl,l.s,_,rfl,.inl (SqL.of g2),_,_,rfl,rfl,hpos,l.s,_,_,.int c,rfl,rfl,SqL.of g2,hv,?_⟩;exact fin c
    ·exact fin 0
   case fin=>
    intro c;refine⟨_,rfl,_,_,rfl,rfl,⟨by decide,by decide,by decide⟩,_,_,rfl,rfl,_,rfl,?_⟩;apply Kj
    case use=>
     intro fin;refine jx (λ_=>?_) (λ_=>?_)
     ·refine⟨_,rfl,_,rfl,t,_,0,_,rfl,rfl,SqL.of g1,fG (j:=0) rfl,l.s,_,rfl,.inl (SqL.of g2),_,_,rfl,rfl,_,rfl,?_⟩;refine jx (λ_=>?_) (λ_=>fin);refine⟨_,rfl,_,rfl,_,_,rfl,rfl,⟨hm0,hm1⟩,_,rfl,t,_,2,2,rfl,rfl,g1,rfl,_,rfl,_,rfl,_,_,rfl,rfl,hm0,?_⟩;exact k _ _ (Int.emod_nonneg _ ⋯) (Hi _ hm0) ⟨⟨a+1,_,aR,by omega,by omega⟩,by rw[aD ntl.symm];exact g2,hlen,(λz=>by rw[aD T.gne];exact g4 z),T.gne⟩ (g3.trans Kp.tape)
     ·exact u6 fin
    case fin=>
     refine⟨_,rfl,_,_,rfl,rfl,(by show(0:Int) < 999331;decide),_,rfl,_,_,rfl,rfl,.inl ⟨by decide,by decide⟩,_,rfl,_,_,rfl,rfl,.inl ⟨by omega,by omega⟩,_,_,rfl,rfl,_,_,rfl,rfl,_,_,rfl,rfl,.inr ⟨by decide,by decide⟩,_,_,rfl,rfl,(by show(0:Int) < 999961;decide),?_⟩;refine⟨_,rfl,_,_,rfl,rfl,.inr ⟨by decide,by decide⟩,_,rfl,_,_,rfl,rfl,.inr ⟨by decide,by decide⟩,_,_,rfl,rfl,_,_,rfl,rfl,(by show(0:Int) < 999953;decide),_,_,rfl,rfl,.inr ⟨by decide,by decide⟩,_,_,rfl,rfl,(by show(0:Int) < 524287;decide),_,rfl,_,_,rfl,rfl,hm0,?_⟩;exact k _ _ (Int.emod_nonneg _ ⋯) (Hi _ hm0) ⟨⟨a+1,b,g1,by omega,by omega⟩,g2,hlen,g4,T.gne⟩ g3
end
end Nb
namespace Nb
open PySem L2 DL
theorem zE(P):(zL.map λx=>PySem.W.nsIn (KK P) D2 x)=zL.map λ_=>ae af:=by kernel_rfl
section
variable{P:Gx}{h:Heap}{mg:Str->Option Ae}(X:(KK P).In h)(G:h.Ns D2 mg)
include X G
theorem yQ(j:Nat)(d:Ds)(e:dL[j]?=ae d):(Fun (KK P) d.x d.x (bh d.i) d.f (kH d)/\mg d.x=ae (.ref d.f))/\Bx (KK P) (.ref d.f)=ah:=by
 have q:=Io (MM P) e;obtain⟨q1,q2⟩:=Prod.mk.inj q;obtain⟨q2,q3⟩:=Prod.mk.inj q2;have k:Bx (KK P) (.ref d.f)=ah:=by
  unfold Bx;simp only[q2]
 exact⟨⟨Oc q2 q3 k,Et X G q1⟩,k⟩
theorem zK(x)(h:x∈zL):mg x=af:=by
 obtain⟨j,e⟩:=B7.mp h;exact PySem.W.mg_none_of X G (Io (zE P) e)
end
theorem qH(P):Bx (KK P) (.ref 75)=ah/\Gi (KK P) (.ref 75) "__init__"=ae (ae (.builtin "ValueError.__init__"))/\D6 (KK P) (.ref 75) (.type "ValueError")=ae ah/\PySem.W.kitAny (KK P) (.ref 75) [.ref 44,.ref 87,.ref 63]=ae ai:=
 ⟨by kernel_rfl,by kernel_rfl,by kernel_rfl,by kernel_rfl⟩
theorem ud(P):(KK P).lookup 24=ae (oX "BoardError" 24 23 [.type "ValueError"] jc [.ref 44,.ref 63,.ref 75,.ref 87] 15 189 197)/\(KK P).lookup 75=ae (oX "TooMany" 75 74 [.ref 24] (.ref 24::jc) [] 66 259 267):=⟨by kernel_rfl,by kernel_rfl⟩
theorem NO(P):(KK P).lookup 23=ae (oT "dict" (.dict #[eN P "__module__" 196 (.str "noteboard.errors" 187),eN P "__firstlineno__" 200 (.int 2 199),eN P "__static_attributes__" 201 (.ref 22),eN P "__weakref__" 203 (.ref 25),eN P "__doc__" 204 .none] 3)):=by kernel_rfl
theorem Mm(P)(X:(KK P).In h):OwnTail h jc (.ref 24::jc):=.own (X _ _ (ud P).1) ⟨_,_,_,X _ _ (NO P),rfl,λe he=>(by
 simp only[List.mem_toArray,Aw,Bh,or_false]at he;rcases he with rfl|rfl|rfl|rfl|rfl<;>exact⟨_,_,rfl⟩),λ_=>rfl⟩ (by kernel_rfl) .base
theorem OF(P):XCl (KK P) 75 24 where
 obj:=⟨_,_,_,_,_,_,_,_,_,_,_,_,_,_,(ud P).2⟩
 base:=⟨_,_,_,_,_,_,_,_,_,_,_,_,_,_,_,(ud P).1⟩
 tail:=λh X=>Mm P X
 ini:=(qH P).2.1
 kp:=(qH P).1
theorem Tg(P):XCla (KK P) 75:=⟨⟨by kernel_rfl,by kernel_rfl,by kernel_rfl⟩,by kernel_rfl,by kernel_rfl,by kernel_rfl,by kernel_rfl,by kernel_rfl⟩
theorem Lh(g0:mg "BoardError"=ae (.ref 24))(g:mg "TooMany"=ae (.ref 75))(g1:mg "NoLine"=ae (.ref 44))(g2:mg "NoRow"=ae (.ref 87))(g3:mg "NotReady"=ae (.ref 63)):EV (KK P) mg 75 24:=⟨⟨OF P,g⟩,g0,Tg P,(qH P).2.2.1,44,87,63,g1,g2,g3,(qH P).2.2.2⟩
abbrev pR:A7:=PySem.W.OpenLaw.prog PySem.Challenge.rw_noteboard_k40_two_thousand_stands
structure Cv where
 P:A7
 w:Bi
 K:Af
 mg:Str->Option Ae
 base:Heap
abbrev HH(c:Cv)(k:Nat)(x:Str)(ps:List Str)(S:aL):Prop:=Has c.P c.w c.K c.mg c.base k x ps S
abbrev sv(c:Cv):Prop:=HH c 1 "_law_draw" Zj fN
abbrev sU(c:Cv):Prop:=HH c 1 "is_whole" ["thing"] w6
abbrev xw(c:Cv):Prop:=HH c 1 "field_fits" ["field","value","having","bound"] iX
abbrev o4(c:Cv):Prop:=HH c 2 "fits" ["pattern","row","names"] pX
abbrev xH(c:Cv):Prop:=HH c 1 "next_value" ["value"] sZ
abbrev qt(c:Cv):Prop:=HH c 2 "field_value" ["field","having"] m6
abbrev vy(c:Cv):Prop:=HH c 3 "filled" ["template","names"] sW
abbrev uV(c:Cv):Prop:=HH c 2 "is_within" ["thing","most"] xx
abbrev Zh:List Str:=["programs","stand","hand"]
abbrev lI(c:Cv):Prop:=HH c 1 "next_act" Zh kg
abbrev qG(c:Cv):Prop:=HH c 3 "gets" Zh rq
abbrev t6(c:Cv):Prop:=HH c 4 "is_ready" Zh rS
abbrev wK(c:Cv):Prop:=HasN c.P c.w c.K c.mg c.base 5 "ready" Za iW
abbrev rR(c:Cv):Prop:=HH c 1 "gone_on" ["place","names"] mP
abbrev sI(c:Cv):Prop:=HH c 1 "gone_to" ["program","block","names"] px
abbrev qh(c:Cv):Prop:=HH c 1 "with_hand" ["hands","hand","place"] jh
abbrev xh(c:Cv):Prop:=HH c 4 "got" ["programs","stand","hand","act"] n6
abbrev xt(c:Cv):Prop:=HH c 3 "is_same_value" ["act","names"] tJ
abbrev wg(c:Cv):Prop:=HH c 5 "hand_moved" Zh uC
abbrev ur(c:Cv):Prop:=HH c 1 "aged" ["note"] xQ
abbrev w8(c:Cv):Prop:=HH c 2 "clock_moved" ["stand"] tW
abbrev uN(c:Cv):Prop:=HH c 6 "after" ["programs","stand","mover"] bq
abbrev uw(c:Cv):Prop:=HH c 1 "others_in" ["sight"] qK
abbrev uv(c:Cv):Prop:=HH c 3 "how_many_fit" ["pattern","notes"] xX
abbrev tw(c:Cv):Prop:=HH c 7 "sees" Zb (cJ 3)
abbrev uj(c:Cv):Prop:=HasM c.P c.w c.K c.mg c.base 7 "further" Zf 75 bq
abbrev pN(c:Cv):Prop:=HasX c.P c.w c.K c.mg c.base 8 "steps_from" Za (jb bq)
abbrev qW(c:Cv):Prop:=HasXE c.P c.w c.K c.mg c.base 8 "steps_from" Za 75 (ko bq)
abbrev mZ(c:Cv):Prop:=HasZ c.P c.w c.K c.mg c.base 8 "steps_from" Za 75 bN
abbrev ql(c:Cv):Prop:=HasN c.P c.w c.K c.mg c.base 9 "reached" Za (jN bq)
abbrev qx(c:Cv):Prop:=HasZ c.P c.w c.K c.mg c.base 9 "reached" Za 75 bN
abbrev sh(c:Cv):Prop:=HasN c.P c.w c.K c.mg c.base 1 "way_along" ["steps","stand"] iP
abbrev qE(c:Cv):Prop:=HH c 8 "first_seeing" ["programs","stands","sight"] (jX (cJ 3))
abbrev sX(c:Cv):Prop:=HH c 9 "way_to" Zb (kK bq (cJ 3))
abbrev ua(c:Cv):Prop:=HasZ c.P c.w c.K c.mg c.base 9 "way_to" Zb 75 dB
abbrev tu(c:Cv):Prop:=HasN c.P c.w c.K c.mg c.base 10 "ends" Za (lL bq iW)
abbrev xi(c:Cv):Prop:=HasZ c.P c.w c.K c.mg c.base 10 "ends" Za 75 bN
abbrev xu(c:Cv):Prop:=HH c 9 "never" Zb (lj bq (cJ 3))
abbrev ux(c:Cv):Prop:=HasZ c.P c.w c.K c.mg c.base 9 "never" Zb 75 dB
abbrev tH(c:Cv):Prop:=HH c 1 "_law_straight" ["_law_moves"] wG
abbrev xr(c:Cv):Prop:=HH c 2 "_law_sizes" ["_law_tape_here"] uq
abbrev wF(c:Cv):Prop:=HH c 11 "_law_asked" Zd qv
abbrev vn(c:Cv):Prop:=HH c 1 "_law_each_once" ["_law_told","_law_many"] qw
section
variable{c:Cv}(F:∀(j:Nat) (d:Ds),dL[j]?=ae d->(Fun c.K d.x d.x (bh d.i) d.f (kH d)/\c.mg d.x=ae (.ref d.f))/\Bx c.K (.ref d.f)=ah)(z:∀x∈zL,c.mg x=af)(u0:c.mg "GREATEST_NUMBER"=ae (.int 99 293))(u1:c.mg "MOST_STANDS"=ae (.int 2000 513))(u2:c.mg "GETTING"=ae (.ref 130))(u3:∀H,SqT c.K H 130 ((Zg:List Str).map V.str))(u4:EV c.K c.mg 75 24)
include F z u0 u1 u2 u3 u4
theorem Q1:sv c:=Has.mk' (F 32 _ rfl).1.1 (F 32 _ rfl).1.2 (gO (F 32 _ rfl).1.1) (MS (Jk (F 32 _ rfl).1.1 (zU z ∅)))
theorem Sh:sU c:=a9 (i:=8) 0 1 "is_whole" (F 0 _ rfl).1 OP
theorem Rf:xw c:=a9 (i:=10) 0 4 "field_fits" (F 1 _ rfl).1 Nc
theorem OL(h0:xw c):o4 c:=a9 (i:=11) 1 3 "fits" (F 2 _ rfl).1 Tu
theorem J4:xH c:=a9 (i:=12) 0 1 "next_value" (F 3 _ rfl).1 P7
theorem SI(h0:xH c):qt c:=a9 (i:=13) 1 2 "field_value" (F 4 _ rfl).1 Nv
theorem Jf(h0:qt c):vy c:=a9 (i:=14) 2 2 "filled" (F 5 _ rfl).1 OM
theorem IX(h0:sU c):uV c:=a9 (i:=17) 1 2 "is_within" (F 6 _ rfl).1 RX
theorem Mx:lI c:=a9 (i:=19) 0 3 "next_act" (F 7 _ rfl).1 Ll
theorem Ro(h0:o4 c)(h1:lI c):qG c:=a9 (i:=20) 2 3 "gets" (F 8 _ rfl).1 LW
theorem Qo(h0:qG c)(h1:lI c):t6 c:=a9 (i:=21) 3 3 "is_ready" (F 9 _ rfl).1 Ru
theorem Mp(h0:t6 c):wK c:=jo (i:=22) 4 2 "ready" (F 10 _ rfl).1 Q5
theorem Od:rR c:=a9 (i:=23) 0 2 "gone_on" (F 11 _ rfl).1 Su
theorem Qd:sI c:=a9 (i:=24) 0 3 "gone_to" (F 12 _ rfl).1 My
theorem O0:qh c:=a9 (i:=25) 0 3 "with_hand" (F 13 _ rfl).1 J1
theorem J2(h0:o4 c)(h1:qG c)(h2:rR c)(h3:sI c)(h4:qh c):xh c:=a9 (i:=26) 3 4 "got" (F 14 _ rfl).1 J5
theorem SX(h0:qt c):xt c:=a9 (i:=27) 2 2 "is_same_value" (F 15 _ rfl).1 JW
theorem Ms(h0:vy c)(h1:rR c)(h2:sI c)(h3:xh c)(h4:xt c)(h5:lI c)(h6:qh c):wg c:=a9 (i:=28) 4 3 "hand_moved" (F 16 _ rfl).1 LN
theorem PX:ur c:=a9 (i:=29) 0 1 "aged" (F 17 _ rfl).1 IW
theorem LL(h0:ur c):w8 c:=a9 (i:=30) 1 1 "clock_moved" (F 18 _ rfl).1 Jq
theorem T5(h0:w8 c)(h1:wg c)(h2:uV c):uN c:=a9 (i:=31) 5 3 "after" (F 19 _ rfl).1 L9
theorem UW:uw c:=a9 (i:=33) 0 1 "others_in" (F 20 _ rfl).1 Qz
theorem SA(h0:o4 c):uv c:=a9 (i:=34) 2 2 "how_many_fit" (F 21 _ rfl).1 Ug
theorem QK(h0:uv c)(h1:lI c)(h2:uw c):tw c:=vM (S:=cJ) (i:=35) 4 "sees" (F 22 _ rfl).1 Sn (λ_ _ _ h=>h) Jx 3
theorem Mv(h0:uN c):uj c:=uY u4.toTM (F 23 _ rfl).1 h0 ∎ (zU z ∅) (zU z ∅) u1
theorem U0(h0:uj c):qW c:=vt (F 24 _ rfl).1 h0 ∎
theorem Ow(h0:qW c):pN c:=h0.x T4
theorem JJ(h0:qW c):mZ c:=h0.z P5
theorem JD(h0:mZ c):qx c:=Td (F 25 _ rfl).1 h0 ∎ (zU z ∅)
theorem N5(h0:pN c):ql c:=jo (i:=40) 8 2 "reached" (F 25 _ rfl).1 (len:=Ra) Lx
theorem Nf:sh c:=jo (i:=41) 0 2 "way_along" (F 26 _ rfl).1 (len:=OZ) QM
theorem KR(h0:tw c):qE c:=a9 (i:=42) 7 3 "first_seeing" (F 27 _ rfl).1 (len:=KL) Km
theorem Pc(h0:mZ c):ua c:=tS (F 28 _ rfl).1 h0 ∎
theorem PK(h0:qE c)(h1:pN c)(h2:sh c):sX c:=a9 (i:=43) 8 3 "way_to" (F 28 _ rfl).1 (len:=LX) NX
theorem Kk(h0:qx c):xi c:=Tf (F 29 _ rfl).1 h0 ∎
theorem M9(h0:ql c)(h1:wK c):tu c:=jo (i:=44) 9 2 "ends" (F 29 _ rfl).1 (len:=PR) JG
theorem UT(h0:mZ c):ux c:=MN (F 30 _ rfl).1 h0 ∎
theorem Kb(h0:qE c)(h1:pN c)(h2:sh c):xu c:=a9 (i:=46) 8 3 "never" (F 30 _ rfl).1 (len:=NN) O1
theorem Kg:tH c:=a9 (i:=50) 0 1 "_law_straight" (F 33 _ rfl).1 PV
theorem Uz(h0:sv c):xr c:=a9 (i:=51) 1 1 "_law_sizes" (F 34 _ rfl).1 TR
theorem MK(h1:ql c)(h2:sX c)(h3:tu c)(h4:xu c)(g1:qx c)(g2:ua c)(g3:xi c)(g4:ux c):wF c:=T6 u4 (F 35 _ rfl).1 h1 h2 h3 h4 g1 g2 g3 g4 ∎ ∎ ∎ ∎ (zU z ∅) (zU z ∅)
theorem PH:vn c:=a9 (i:=53) 0 2 "_law_each_once" (F 36 _ rfl).1 RI
theorem Nh(h0:wF c)(h1:sv c)(h2:vn c)(h3:xr c)(h4:tH c):FnOk c.P c.w c.K c.mg c.base cb 12 (Ds.f ⟨54,"law",654,250,1,334,ai,657,7⟩) (kH ⟨54,"law",654,250,1,334,ai,657,7⟩) Ze (DL.spLaw c.K):=by
 have bT:=gO (ps:=Ze) (F 31 _ rfl).1.1;have GT:=Qn (P:=c.P) (w:=c.w) (mg:=c.mg) (base:=c.base) (F 31 _ rfl).1.1;exact Oq (i:=54) (N:=["_law_script","_law_tape_here","_law_sizes_here","_law_size","_law_programs","_law_many","_law_notes","_law_lasting","_law_stand","_law_aim","_law_sight","_law_way","_law_told","_law_refused"]) 11 (F 37 _ rfl).1.1 GT bT (F 31 _ rfl).1.2 (F 31 _ rfl).2 TH rfl λnd cdv A outer s H E hr=>dZ (i:=1) nd rfl (By rfl) (pQ GT (hr.mono ∎) rfl (F 31 _ rfl).1.2 (F 31 _ rfl).2 bT .nil ny (bP (pv 0) dC))
end
theorem Nd(c:Cv)(F:∀(j:Nat) (d:Ds),dL[j]?=ae d->(Fun c.K d.x d.x (bh d.i) d.f (kH d)/\c.mg d.x=ae (.ref d.f))/\Bx c.K (.ref d.f)=ah)(z:∀x∈zL,c.mg x=af)(u0:c.mg "GREATEST_NUMBER"=ae (.int 99 293))(u1:c.mg "MOST_STANDS"=ae (.int 2000 513))(u2:c.mg "GETTING"=ae (.ref 130))(u3:∀H,SqT c.K H 130 ((Zg:List Str).map V.str))(u4:EV c.K c.mg 75 24):FnOk c.P c.w c.K c.mg c.base cb 12 (Ds.f ⟨54,"law",654,250,1,334,ai,657,7⟩) (kH ⟨54,"law",654,250,1,334,ai,657,7⟩) Ze (DL.spLaw c.K):=by
 have a__law_draw:sv c:=by apply Q1<;>with_reducible assumption
 have a_is_whole:sU c:=by apply Sh<;>with_reducible assumption
 have a_field_fits:xw c:=by apply Rf<;>with_reducible assumption
 have a_fits:o4 c:=by apply OL<;>with_reducible assumption
 have a_next_value:xH c:=by apply J4<;>with_reducible assumption
 have a_field_value:qt c:=by apply SI<;>with_reducible assumption
 have a_filled:vy c:=by apply Jf<;>with_reducible assumption
 have a_is_within:uV c:=by apply IX<;>with_reducible assumption
 have a_next_act:lI c:=by apply Mx<;>with_reducible assumption
 have a_gets:qG c:=by apply Ro<;>with_reducible assumption
 have a_is_ready:t6 c:=by apply Qo<;>with_reducible assumption
 have a_ready:wK c:=by apply Mp<;>with_reducible assumption
 have a_gone_on:rR c:=by apply Od<;>with_reducible assumption
 have a_gone_to:sI c:=by apply Qd<;>with_reducible assumption
 have a_with_hand:qh c:=by apply O0<;>with_reducible assumption
 have a_got:xh c:=by apply J2<;>with_reducible assumption
 have a_is_same_value:xt c:=by apply SX<;>with_reducible assumption
 have a_hand_moved:wg c:=by apply Ms<;>with_reducible assumption
 have a_aged:ur c:=by apply PX<;>with_reducible assumption
 have a_clock_moved:w8 c:=by apply LL<;>with_reducible assumption
 have a_after:uN c:=by apply T5<;>with_reducible assumption
 have a_others_in:uw c:=by apply UW<;>with_reducible assumption
 have a_how_many_fit:uv c:=by apply SA<;>with_reducible assumption
 have a_sees:tw c:=by apply QK<;>with_reducible assumption
 have a_further:uj c:=by apply Mv<;>with_reducible assumption
 have a_stepsE:qW c:=by apply U0<;>with_reducible assumption
 have a_steps_from:pN c:=by apply Ow<;>with_reducible assumption
 have b_steps_from:mZ c:=by apply JJ<;>with_reducible assumption
 have a_reached:ql c:=by apply N5<;>with_reducible assumption
 have b_reached:qx c:=by apply JD<;>with_reducible assumption
 have a_way_along:sh c:=by apply Nf<;>with_reducible assumption
 have a_first_seeing:qE c:=by apply KR<;>with_reducible assumption
 have a_way_to:sX c:=by apply PK<;>with_reducible assumption
 have b_way_to:ua c:=by apply Pc<;>with_reducible assumption
 have a_ends:tu c:=by apply M9<;>with_reducible assumption
 have b_ends:xi c:=by apply Kk<;>with_reducible assumption
 have a_never:xu c:=by apply Kb<;>with_reducible assumption
 have b_never:ux c:=by apply UT<;>with_reducible assumption
 have a__law_straight:tH c:=by apply Kg<;>with_reducible assumption
 have a__law_sizes:xr c:=by apply Uz<;>with_reducible assumption
 have a__law_asked:wF c:=by apply MK<;>with_reducible assumption
 have a__law_each_once:vn c:=by apply PH<;>with_reducible assumption
 apply Nh<;>with_reducible assumption
theorem all_K(w:Bi)(mg)(fa)(h:Heap)(X:(KK w.params).In h)(G:h.Ns D2 mg)(hfa:mg "law"=ae (.ref fa)):
  ∃fd:Bz,(∀(s:Ai)(u:Ae),BindsTo s fd ⟨[u],[]⟩ [("_law_script",u)])/\∀base:Heap,(KK w.params).In base->base.Ns D2 mg->FnOk pR w (KK w.params) mg base cb 12 fa fd Ze (DL.spLaw (KK w.params)):=by
 have e:=hfa.symm.trans (yQ X G 37 ⟨54,"law",654,250,1,334,ai,657,7⟩ rfl).1.2;cases e;exact⟨kH ⟨54,"law",654,250,1,334,ai,657,7⟩,λs v=>.of_eq rfl,λbase _ _=>Nd ⟨pR,w,KK w.params,mg,base⟩ (λj d e=>yQ X G j d e) (zK X G) (Et X G (by kernel_rfl)) (Et X G (by kernel_rfl)) (Et X G (by kernel_rfl)) (λH=>.inr ⟨_,_,_,(show(KK w.params).lookup 130=ae (oT "tuple" (.seq #[(.str "take" 350),(.str "read" 351),(.str "look" 352)] 0)) by kernel_rfl),rfl,rfl,show 3<=Ar by decide,(.cons ⟨_,rfl⟩ (.cons ⟨_,rfl⟩ (.cons ⟨_,rfl⟩ .nil)))⟩) (Lh (Et X G (by kernel_rfl)) (Et X G (by kernel_rfl)) (Et X G (by kernel_rfl)) (Et X G (by kernel_rfl)) (Et X G (by kernel_rfl)))⟩
theorem walk{l:PySem.W.OpenLaw}{XP:(Str->Option Ae)->Heap->Prop}{K:Gx->Af}(hn:l.most=ae 63)(hdf:d.params.defaults=[])
  (hY:∀(w:Bi)(h:Heap),YP w h->(K w.params).In h)
  (F:∀(w:Bi)(mg:Str->Option Ae)(fa:Addr)(h:Heap),(K w.params).In h->h.Ns D2 mg->mg d.name=ae (.ref fa)->
   ∃fd:Bz,(∀(s:Ai)(u:Ae),BindsTo s fd ⟨[u],[]⟩ [("_law_script",u)])/\∀base:Heap,(K w.params).In base->base.Ns D2 mg->FnOk l.prog w (K w.params) mg base cb 12 fa fd Ze (DL.spLaw (K w.params))):
  PySem.W.WalkO q loose XP YP l.row.toRowW d [] (λf vs=>PySem.call f vs):=
 L2.walk_of (n:=63) (k:=12) (x:="_law_script") (CX:=λ_=>cb) (sp:=λw=>DL.spLaw (K w.params)) hn ∎ hdf ⟨rfl,by decide,by decide,rfl⟩ hY F (λ_ _ a ns hl _ hS=>⟨a,ns,rfl,hS,hl,λ_=>rfl⟩) λ_ _ _ _ _ z=>z
end Nb
open PySem PySem.W PyProof.Rows
set_option maxRecDepth 100000 in
set_option maxHeartbeats 0 in
theorem PySem.Challenge.cw_noteboard_k40_two_thousand_stands_holds : PySem.Challenge.rw_noteboard_k40_two_thousand_stands.Holds := by
 refine holds_law Nb.said_ λsaid=>?_;refine holds_open (q:=Nb.qq) (loose:=Nb.lO) (Xt:=Nb.xT) (XP:=XL Nb.qq []) (Yf:=Hook.obs Nb.hK) (Ya:=Hook.val Nb.hK) (YP:=Hook.says Nb.hK) (d:=Nb.dW) (kwd:=[]) (N:=6000) Nb.left_ (Hook.of Nb.hK) (Hook.keeps Nb.hK) (λs e=>xl_of s (Bool.and_eq_true_iff.mp e).1) XL.keeps (by kernel_rfl) (by kernel_rfl) (by kernel_rfl) (λs e=>recFacts_of (Bool.and_eq_true_iff.mp e).2) (by kernel_rfl) said (by decide +kernel) ⟨rfl,rfl,rfl,rfl,rfl,by decide +kernel⟩ ?hw ?hc
 (case hw=>w_witness2)
 exact Nb.walk (l:=PySem.Challenge.rw_noteboard_k40_two_thousand_stands) (by kernel_rfl) (by kernel_rfl) (λw h Y=>kIn_of Y) Nb.all_K
