import PyProof.Rows.All
import Wide.All
import OpenK.AllK
import Wide.FinOn
import Lean
import PyProof.EqAt
import PyProof.EqKinds
import PyProof.TupleCall
import PyProof.AttrMissHeap
import PyProof.Rows.RegFStrParts
import KE.KRevIter
import KE.KUnpack
import PySem.Challenge.RW_noteboard_k45_papers_of_never_made
set_option compiler.extract_closed false
set_option Elab.async false
set_option linter.all false
set_option maxRecDepth 100000
open PySem renaming Addr -> z_, wpAny_bind -> Aa, PyData -> Ad, Value -> Af, wpAny_pure -> Ai, Shared -> Aj, starEach -> Ar, sizeLine -> Aw, wpAny -> A6, model -> A9, Program -> Bb, World -> Bj, bootBuiltins -> Bm, wpAny_callSpecial?_slot -> Bp, Around -> Bt, compareOp -> Bv, wpAny_newObj_type -> B1, wpAny_call_entry -> B2, wpAny_holding -> B7, FuncData -> B8, behindInMarks -> Cg, swapsWith -> Ci, backTo -> Cp, assignEach -> Cq, wpAny_setField -> C0, wpAny_truthy_bool -> C7, wpAny_seqItems -> C8, cLine -> C9, wpAny_mono -> Dc, sysModules -> Dd, wpAny_field -> De, rawInt -> Dm, wpAny_pyIter_tuple -> Dp, mainGlobals -> Dv, foldedSetIterable -> Dx, wpAny_setEntries_of -> D0, wpAny_isInstance -> D4, codeAny_builtin -> Eb, wpAny_attempt -> Ei, Builtin -> Ep, isSubtype_type -> Er, binaryOp -> Es, Scope -> Et, strKind -> Eu, sizeLine_eq -> Ez, wpAny_passesOwn -> E3, SetTable -> E4, plainId_quiet -> E6, builtinLookup_eq_fast -> E7, wpAny_setState_of -> E8, mem_of_lookup -> Fg, wpAny_fieldsOf -> Fl, wpAny_typeOf -> Fq, boot_len -> Fx, wpAny_ite_split -> Fy, codeAny -> Fz, wpAny_setField_rec -> F5, wpAny_Call_Name_kw -> F6, IsPair -> Gf, wpAny_rule -> Gm, entryFor_of_tree -> Gn, DictEntry -> Gp, attributeBase -> Gq, wpAny_typeNameOfWhole_keyiter -> Gr, wpAny_of_eq -> Gs, sliceBounds -> Gt, wpAny_specialOf -> Gz, typeLookup_type -> G0, tupleKind_room_in1 -> G4
open List renaming length_map -> Ab, getElem?_eq_getElem -> Ah, mem_cons_of_mem -> Ak, getElem?_map -> Am, length_append -> An, mem_cons_self -> Ap, getElem?_eq_some_iff -> Aq, mem_cons -> Au, length_cons -> Ax, mem_of_getElem? -> Ay, set -> A0, length_singleton -> A1, mem_singleton -> A2, not_mem_nil -> A4, mem_map -> A5, mem_append -> A7, range -> A8, map_append -> Bc, size_toArray -> Bd, getElem?_set_ne -> Bf, append_nil -> Bh, append_assoc -> Bk, map_cons -> Bo, mem_iff_getElem? -> Br, mem_append_right -> Bw, mem_range -> Bx, map_map -> B4, length_set -> B5, getElem?_cons_zero -> B9, getElem_mem -> Ck, any_eq_true -> Cm, getElem?_eq_none -> Cr, getElem?_set_self' -> Cs, map_eq_cons_iff -> Cu, mem_filter -> Cw, all_eq_true -> Cy, replicate -> C5, any_cons -> C6, mem_append_left -> Da, getElem?_set_self -> Df, map_congr_left -> Di, length_drop -> Dl, length -> Dn, length_range -> Dt, nodup_cons -> Du, nil_append -> D5, map_eq_nil_iff -> Ed, prefix_refl -> Ee, length_take -> Ef, getElem?_replicate -> Eg, filter_cons -> Eh, not_lt -> En, toArray -> Eo, foldl_cons -> Ew, map_nil -> E9, getElem_inj -> Fb, ext_getElem -> Fc, getElem?_append_left -> Fi, drop_eq_getElem_cons -> Fj, of_mem_zip -> Fs, pairwise_singleton -> Fu, getElem?_cons_succ -> Fv, findIdx?_eq_some_iff_getElem -> Fw, reverse_cons -> F0, pairwise_map -> F1, nodup_append -> F2, foldl_append -> F3, length_filter_le -> F9, length_take_le' -> Gi, eq_nil_of_length_eq_zero -> Gj, zip_cons_cons -> Gw, mem_filterMap -> Gx
open PySem.Heap renaming get?_push_of_some -> Ae, lt_size -> As, get?_push_size -> Av, get?_update_self -> Bn, size_push -> Cn, SameBut -> Cz, get?_update_other -> Dg
open PySem.W renaming Frag -> Ag, keepIn -> Co, kia_one -> C2, fnOf -> E5
open And renaming intro -> Al
open Nat renaming le_refl -> Ao, zero_le -> Az, le_trans -> Ba, ne_of_lt -> Be, lt_of_lt_of_le -> Bi, ne_of_gt -> Dy, lt_irrefl -> Dz, lt_of_le_of_lt -> D3, lt_succ_of_lt -> D8, le_of_lt_succ -> E1, le_of_lt -> F7
open Bool renaming false_ne_true -> A3, and_eq_true -> Bu, eq_iff_iff -> D6, false_eq_true -> Gy
open PySem.Heap.SameBut renaming update -> Bg
open Option.some renaming inj -> Bq
open PySem.Obj renaming data_mapFields -> By, isFreed_of_fields -> C4, cls_mapFields -> D7, mapSeq -> Ea
open Or renaming inr -> Bz, inl -> Ce
open PySem.Value renaming none -> B3, ref -> Cf, type -> Dj
open Array renaming length_toList -> B6, getElem?_eq_getElem -> Ca, getElem?_toList -> D1, toList_inj -> Gc, perm_iff_toList_perm -> Gv
open Exists renaming intro -> Cb
open Int renaming toNat_natCast -> Cc, natCast_nonneg -> G1, emod_lt_of_pos -> G2
open PySem.PyData renaming eqv -> Cj, str -> Dr, strOk -> Dw, canLay0 -> Ec, depth -> Ek, canLayAll0 -> Ex, depthAll -> Fn, int -> Fp, weight -> F8
open PyProof.Rows renaming envOfC -> Ct, callWith_type1 -> C3, seqObj -> Dq, slot_tuple_getitem -> D2
open Option renaming isSome_iff_exists -> C1, map_eq_some_iff -> Em, isSome_map -> Ey
open Sum renaming inr -> Dh
open PySem.Paired renaming length -> Dk
open PySem.SetTable renaming below -> D9
open PySem.Builtin.List renaming listLengthHint -> Ej, listSameRef -> E2
open PySem.AutoSeq1 renaming wpAny_loadPart' -> Ff
open PySem.F renaming args_tuple_add_2 -> Fh, slot_tuple_iterator_next -> Fk, entry_tuple_add -> Fo, slot_tuple_add -> Ft, plain_extend_loop -> Gu, plainAttrs_list -> G3
open List.cons renaming inj -> F4
open ForInStep renaming yield -> Ga
open PySem.Builtin.Tuple renaming tupleItemsOf -> Gb
open True renaming intro -> Ge
open PySem.Builtin.Slice renaming slicePlaces -> Gg, sliceAdjust -> Gh
open Option renaming some -> ae, none -> af
open Bool renaming true -> ah, false -> ai
noncomputable section
def a_:=@if_neg
def a':=@if_pos
def b_:=@decide_eq_true
def c_:=@decide_eq_false
def d_:=@of_decide_eq_true
def e_:=@of_decide_eq_false
def f_:=@absurd
def g_:=@or_false
local macro_rules|`(tactic|omega)=>`(tactic|lia)
local macro_rules|`(⋯)=>`(by omega)
local macro_rules|`(∅)=>`(by decide +kernel)
local macro_rules|`(∎)=>`(by decide)
local macro_rules|`(↑$x)=>`(Option.some (.w (.d $x)))
set_option maxHeartbeats 4000000
namespace L2
open PySem PySem.Spec PyProof.Rows
def kY(s:Stmt):Arguments:=match s with
 |.FunctionDef _ a _ _ _ _ _ _ _ _=>a
 |_=>{ posonlyargs:=[],args:=[],vararg:=af,kwonlyargs:=[],kw_defaults:=[],kwarg:=af,defaults:=[]}
def eF(s:Stmt):List Stmt:=match s with
 |.FunctionDef _ _ b _ _ _ _ _ _ _=>b
 |_=>[]
def bN(s:Stmt):Et:=match s with
 |.FunctionDef _ _ _ _ _ _ sc _ _ _=>sc
 |_=>{ kind:=.function,names:=[],isGenerator:=ai,isCoroutine:=ai}
end L2
namespace Nb
open PySem L2
def bV(i:Nat):Stmt:=PySem.Challenge.pw_noteboard_k45_papers_of_never_made.main.body.getD i (.Pass ⟨0,0,0,0⟩)
abbrev Pr:Stmt:=bV 40
abbrev MM:Stmt:=bV 41
abbrev oU:Stmt:=bV 65
abbrev AK:Stmt:=Pr
abbrev xi:Stmt:=MM
abbrev oT(t:String)(d:Data):Obj:=⟨.type t,af,d,#[]⟩
structure Ds where
 i:Nat
 x:Str
 t:Nat
 l:Nat
 n:Nat
 r:Nat
 b:Bool
 v:Nat
 m:Nat
abbrev Ds.c(d:Ds):Nat:=if d.b then d.r+5 else d.r+3
abbrev Ds.f(d:Ds):Nat:=if d.b then d.r+6 else d.r+4
abbrev Ha(m:Nat):Af:=[(.str "noteboard.values" 223),(.str "noteboard.patterns" 234),(.str "noteboard.stands" 286),(.str "noteboard.moving" 296),(.str "noteboard.sights" 406),(.str "noteboard.reaching" 427),(.str "noteboard.nevers" 474),(.str "law_noteboard_k45_papers_of_never_made" 487)].getD m .none
abbrev jW(d:Ds):B8:=E5 d.x d.x (kY (bV d.i)) (eF (bV d.i)) (bN (bV d.i)) .none .none .none (Ha d.m) af (.ref d.c) .none
abbrev oF(d:Ds):Obj:=oT "function" (.func (jW d))
abbrev oC(d:Ds):Obj:=oT "code" (.fields #[.str d.x d.t,.str d.x (d.t+1),.str "/claim/cut.py" (d.t+2),.int d.l 0,.int d.n 0,.int 0 0,.int 0 0,.int 3 0,.ref d.r,.bool ah,.int 181 0,.ref (d.r+1),.none,if d.b then .ref (d.r+2)else .none,if d.b then .ref (d.r+3)else .none,.ref (if d.b then d.r+4 else d.r+2),.int d.v 0,.int d.l 0,.str "/claim/cut.py" (d.v+1)])
abbrev eN(P:Params)(x:Str)(t:Nat)(v:Af):Gp:=⟨PyData.keyHash P x,.str x t,v⟩
abbrev en(P:Params)(d:Ds):Gp:=eN P d.x (d.v+2) (.ref d.f)
def dL:List Ds:=[⟨5,"is_whole",227,8,1,40,ah,231,0⟩,⟨7,"field_fits",236,11,4,47,ah,244,1⟩,⟨8,"fits",247,24,3,54,ah,257,1⟩,⟨9,"next_value",260,36,1,61,ah,264,1⟩,⟨10,"field_value",267,40,2,68,ah,273,1⟩,⟨11,"filled",276,45,2,75,ai,279,1⟩,⟨14,"is_within",288,50,2,81,ah,293,2⟩,⟨16,"next_act",298,53,3,88,ah,307,3⟩,⟨17,"gets",310,58,3,95,ah,321,3⟩,⟨18,"gone_on",324,70,2,102,ah,329,3⟩,⟨19,"gone_to",332,72,3,109,ai,335,3⟩,⟨20,"with_hand",338,75,3,114,ah,344,3⟩,⟨21,"got",347,77,4,121,ah,358,3⟩,⟨22,"is_same_value",361,89,2,128,ah,367,3⟩,⟨23,"hand_moved",370,92,3,135,ah,380,3⟩,⟨24,"aged",383,109,1,142,ah,387,3⟩,⟨25,"clock_moved",390,111,1,149,ai,393,3⟩,⟨26,"after",396,113,3,154,ah,403,3⟩,⟨28,"others_in",408,119,1,161,ah,412,4⟩,⟨29,"how_many_fit",415,123,2,168,ai,418,4⟩,⟨30,"sees",421,125,3,173,ai,424,4⟩,⟨33,"further",431,139,3,178,ah,441,5⟩,⟨34,"steps_from",444,150,2,185,ah,451,5⟩,⟨35,"way_along",454,156,2,192,ah,461,5⟩,⟨36,"first_seeing",464,163,3,199,ah,471,5⟩,⟨38,"never",476,169,3,206,ah,484,6⟩,⟨40,"_law_tape",489,174,1,213,ah,493,7⟩,⟨41,"_law_draw",496,176,2,220,ah,505,7⟩,⟨42,"_law_value",508,191,1,227,ah,512,7⟩,⟨43,"_law_size",515,193,1,234,ah,519,7⟩,⟨44,"_law_pattern",522,195,2,241,ah,533,7⟩,⟨45,"_law_template",536,212,2,248,ah,544,7⟩,⟨46,"_law_term",547,221,2,255,ah,552,7⟩,⟨47,"_law_act",555,225,3,262,ah,565,7⟩,⟨48,"_law_program",568,238,1,269,ai,571,7⟩,⟨49,"_law_notes",574,255,2,274,ai,577,7⟩,⟨50,"_law_known",580,261,3,279,ai,583,7⟩,⟨51,"_law_stand",586,267,3,284,ai,589,7⟩,⟨52,"_law_setting",592,275,1,289,ai,595,7⟩,⟨53,"_law_fits",598,283,3,294,ai,601,7⟩,⟨54,"_law_filled",604,302,2,299,ah,612,7⟩,⟨55,"_law_act_at",615,312,3,306,ah,625,7⟩,⟨56,"_law_got",628,316,3,313,ah,636,7⟩,⟨57,"_law_movers",639,322,2,320,ah,648,7⟩,⟨58,"_law_moved",651,331,3,327,ai,654,7⟩,⟨59,"_law_gone",657,358,3,332,ah,668,7⟩,⟨60,"_law_sight",671,372,3,339,ai,674,7⟩,⟨61,"_law_seen",677,387,3,344,ai,680,7⟩,⟨62,"_law_walked",683,399,3,349,ah,690,7⟩,⟨63,"_law_closed",693,405,3,356,ah,702,7⟩,⟨64,"_law_right",705,416,5,363,ai,708,7⟩,⟨65,"law",711,426,1,368,ah,724,7⟩]
def KK(P:Params):Ag:=let e:=eN P
 (3,oT "dict" (.dict ([e "__name__" 165 (.str "law_noteboard_k45_papers_of_never_made" 487),e "__doc__" 166 .none,e "__package__" 167 .none,e "__loader__" 168 (.builtin "__main__.__loader__#opaque"),e "__spec__" 169 .none,e "__annotations__" 170 (.ref 6),e "__builtins__" 171 (.ref 4),e "__file__" 173 (.str "/claim/cut.py" 172),e "__cached__" 174 .none,e "BoardError" 206 (.ref 24),e "TooMany" 222 (.ref 37),e "GREATEST_NUMBER" 226 (.int 99 225)]++((dL.drop 0).take 6).map (en P)++[e "GETTING" 285 (.ref 80)]++((dL.drop 6).take 15).map (en P)++[e "MOST_STANDS" 430 (.int 2000 429)]++((dL.drop 21).take 31).map (en P)).toArray 66))::(dL.flatMap λd=>[(d.c,oC d),(d.f,oF d)])++[(80,oT "tuple" (.seq #[(.str "take" 282),(.str "read" 283),(.str "look" 284)] 0))]
def aS:List z_:=3::(dL.flatMap λd=>[d.c,d.f])++[80]
abbrev pp:Bb:=PySem.Challenge.pw_noteboard_k45_papers_of_never_made
abbrev qq:Bb:=PySem.W.view pp [65]
def lO:List Str:=(["BoardError","TooMany","GREATEST_NUMBER","is_whole","field_fits","fits","next_value","field_value","filled","GETTING","is_within","next_act","gets","gone_on","gone_to","with_hand","got","is_same_value","hand_moved","aged","clock_moved","after","others_in","how_many_fit","sees","MOST_STANDS","further","steps_from","way_along","first_seeing","never","_law_tape","_law_draw","_law_value","_law_size","_law_pattern","_law_template","_law_term","_law_act","_law_program","_law_notes","_law_known","_law_stand","_law_setting","_law_fits","_law_filled","_law_act_at","_law_got","_law_movers","_law_moved","_law_gone","_law_sight","_law_seen","_law_walked","_law_closed","_law_right"]:List String).map Str.ofString
abbrev xT:Aj->Bool:=λs=>PySem.W.xlAt qq [] s&&PySem.W.recOk (PySem.W.RowW.records PySem.Challenge.rw_noteboard_k45_papers_of_never_made.row.toRowW) s
theorem sai_:PySem.W.looksOpen PySem.Challenge.rw_noteboard_k45_papers_of_never_made.row.prog=ah:=by kernel_rfl
theorem said_:PySem.Challenge.rw_noteboard_k45_papers_of_never_made.wellSaid=ah:=by unfold PySem.W.OpenLaw.wellSaid PySem.W.OpenRow.wellSaid PySem.W.OpenRow.partSaid;rw[sai_];kernel_rfl
theorem aK:∀P,aS=(KK P).map (·.1):=λP=>by kernel_rfl
abbrev hK:PySem.W.Hook:=PySem.W.kHook KK aS aK
theorem left_:PySem.W.LeftO pp qq lO xT hK.obs hK.val 6000:=λw=>by kernel_rfl
def Kj(s:Stmt):Pos:=match s with
 |.FunctionDef _ _ _ _ _ _ _ _ _ p=>p
 |_=>⟨0,0,0,0⟩
def dW:DefRec:=⟨"law",kY oU,eF oU,bN oU,Kj oU⟩
theorem Jy(P:Params):(dL.map λd=>(PySem.W.nsIn (KK P) Dv d.x,(KK P).lookup d.f,PySem.W.codeIn (KK P) (.ref d.c) d.x))=dL.map λd=>(ae (ae (.ref d.f)),ae (oF d),ah):=by kernel_rfl
theorem wO{α β:Type}{f g:α->β}{l:List α}(h:l.map f=l.map g){j:Nat}{a:α}(e:l[j]?=ae a):f a=g a:=by
 have:=congrArg (λl=>l[j]?) h;simp only[Am,e]at this;exact Bq this
end Nb
namespace L2
open PySem PySem.Spec PyProof.Rows
abbrev aF:=Sum Int Str
def jD:aF->Af->Bool
 |.inl k,v=>Value.isInt k v
 |.inr x,v=>Value.isStrOf x v
def km(w:Bj):aF->Int
 |.inl k=>hashInt k
 |.inr x=>hashStr w x
theorem g9:∀{k:aF}{v:Af},jD k v=ah->(∃i t,k=Sum.inl i/\v=Value.int i t)\/(∃x t,k=Dh x/\v=Value.str x t)
 |.inl i,v,h=>by
  obtain⟨t,e⟩:=Value.isInt_shape h;exact .inl ⟨i,t,rfl,e⟩
 |.inr x,v,h=>by
  obtain⟨t,e⟩:=Value.isStrOf_shape h;exact .inr ⟨x,t,rfl,e⟩
theorem OP(i:Int)(t:Tok):jD (.inl i) (.int i t)=ah:=by simp[jD,Value.isInt]
theorem Lb(x:Str)(t:Tok):jD (.inr x) (.str x t)=ah:=by simp[jD,Value.isStrOf]
theorem PX(a b:Int):decide ((Sum.inl a:aF)=Sum.inl b)=(a==b):=by
 by_cases e:a=b
 ·subst e;simp
 ·have h:¬(Sum.inl a:aF)=Sum.inl b:=λq=>e (Sum.inl.inj q);rw[c_ h];exact(beq_eq_false_iff_ne.mpr e).symm
theorem JG(a b:Str):decide ((Dh a:aF)=Dh b)=decide (a=b):=by
 by_cases e:a=b
 ·subst e;simp
 ·have h:¬(Dh a:aF)=Dh b:=λq=>e (Sum.inr.inj q);simp
theorem Iq(a:Int)(b:Str):decide ((Sum.inl a:aF)=Dh b)=ai:=c_ (λq=>nomatch q)
theorem Q5(a:Str)(b:Int):decide ((Dh a:aF)=Sum.inl b)=ai:=c_ (λq=>nomatch q)
def fE(prog:Bb)(w:Bj):PySem.KeyKind prog w aF where
 is:=jD
 hash:=km w
 inj:=λv a b ha hb=>by
  rcases g9 ha with⟨i,t,rfl,rfl⟩|⟨x,t,rfl,rfl⟩
  ·rcases g9 hb with⟨j,u,rfl,e⟩|⟨y,u,rfl,e⟩
   ·injection e with e1 _;rw[e1]
   ·exact nomatch e
  ·rcases g9 hb with⟨j,u,rfl,e⟩|⟨y,u,rfl,e⟩
   ·exact nomatch e
   ·injection e with e1 _;rw[e1]
 byValue:=λk v h=>by
  rcases g9 h with⟨i,t,rfl,rfl⟩|⟨x,t,rfl,rfl⟩<;>rfl
 pyHash:=λhv h=>by
  rcases g9 hv with⟨i,t,rfl,rfl⟩|⟨x,t,rfl,rfl⟩
  ·exact wpAny_pyHash_int h
  ·exact wpAny_pyHash_str h
 eqBool:=λhu hv h=>by
  rcases g9 hu with⟨i,t,rfl,rfl⟩|⟨x,t,rfl,rfl⟩
  ·rcases g9 hv with⟨j,u,rfl,rfl⟩|⟨y,u,rfl,rfl⟩
   ·rw[PX]at h;exact wpAny_eqBool_int h
   ·rw[Iq]at h;exact SeqAt.EqAt.int_str i t y u _ _ _ _ h
  ·rcases g9 hv with⟨j,u,rfl,rfl⟩|⟨y,u,rfl,rfl⟩
   ·rw[Q5]at h;exact SeqAt.EqAt.str_int x t j u _ _ _ _ h
   ·rw[JG]at h;exact wpAny_eqBool_str h
 «strs»:=λk x t v h=>by
  rcases g9 h with⟨i,u,rfl,e⟩|⟨y,u,rfl,e⟩
  ·exact nomatch e
  ·injection e with e1 _;subst e1;cases v<;>rfl
theorem EE(prog:Bb)(w:Bj)(i:Int)(t:Tok):(fE prog w).is (.inl i) (.int i t)=ah:=OP i t
theorem CO(prog:Bb)(w:Bj)(x:Str)(t:Tok):(fE prog w).is (.inr x) (.str x t)=ah:=Lb x t
mutual
def bw:Nat->Ad->Bool
 |_,.none=>ah
 |_,.int _=>ah
 |_,.str x=>Dw x
 |n+1,.tuple ds=>d5 n ds
 |_,_=>ai
def d5:Nat->List Ad->Bool
 |_,[]=>ah
 |n,d::r=>bw n d&&d5 n r
end
mutual
def mU(w:Bj):Ad->Int
 |.str x=>km w (.inr x)
 |.int i=>km w (.inl i)
 |.none=>0xFCA86420
 |.tuple xs=>reduceHash (Builtin.Tuple.tupleHashOf (nQ w xs))
 |_=>0
def nQ(w:Bj):List Ad->List Int
 |[]=>[]
 |x::r=>mU w x::nQ w r
end
mutual
def jJ:Ad->Nat
 |.tuple xs=>qW xs+1
 |_=>1
def qW:List Ad->Nat
 |[]=>0
 |x::r=>jJ x+qW r
end
theorem fY{n:Nat}{d:Ad}(h:bw n d=ah):d=.none\/(∃i,d=.int i)\/(∃x,d=.str x/\Dw x=ah)\/∃m ds,n=m+1/\d=.tuple ds/\d5 m ds=ah:=by
 cases d with
 |none=>exact .inl rfl
 |int i=>exact .inr (.inl ⟨i,rfl⟩)
 |str x=>exact .inr (.inr (.inl ⟨x,rfl,by assumption⟩))
 |tuple ds=>
  cases n with
  |zero=>rw[bw]at h<;>first|cases h|(intros;rfl)
  |succ m=>exact .inr (.inr (.inr ⟨m,ds,rfl,rfl,by assumption⟩))
 |_=>cases n<;>(rw[bw]at h<;>first|cases h|(intros;rfl))
theorem BJ:∀(n:Nat){d:Ad},bw n d=ah->Ec d=ah/\Ek d<=n:=by
 intro n
 induction n with
 |zero=>
  intro d h;rcases fY h with rfl|⟨i,rfl⟩|⟨x,rfl,f⟩|⟨m,b,e,_⟩
  ·exact⟨rfl,Az _⟩
  ·exact⟨rfl,Az _⟩
  ·exact⟨f,Az _⟩
  ·cases e
 |succ n j=>
  intro d h;rcases fY h with rfl|⟨i,rfl⟩|⟨x,rfl,f⟩|⟨m,b,e,rfl,g⟩
  ·exact⟨rfl,Az _⟩
  ·exact⟨rfl,Az _⟩
  ·exact⟨f,Az _⟩
  ·cases e;have:Ex b=ah/\Fn b<=n:=by
    clear h
    induction b with
    |nil=>exact⟨rfl,Az _⟩
    |cons x r c=>
     rw[d5,Bu]at g;obtain⟨l,p⟩:=c g.2;obtain⟨k,o⟩:=j g.1;exact⟨by rw[Ex,l,k];rfl,by rw[Fn];omega⟩
   exact⟨by exact this.1,by rw[Ek];omega⟩
theorem Sj:∀(n:Nat){d e:Ad},bw n d=ah->bw n e=ah->(Cj d e=ah↔d=e):=by
 intro n;have a:∀{d e:Ad},(d=.none\/(∃i,d=.int i)\/∃x,d=.str x)->(e=.none\/(∃i,e=.int i)\/∃x,e=.str x)->(Cj d e=ah↔d=e):=by
  intro d e h g;rcases h with rfl|⟨i,rfl⟩|⟨x,rfl⟩<;>rcases g with rfl|⟨j,rfl⟩|⟨y,rfl⟩<;>simp[Cj]
 induction n with
 |zero=>
  intro d e h g;refine a ?_ ?_
  ·rcases fY h with h|h|⟨x,h,_⟩|⟨m,t,e,_⟩
   ·exact .inl h
   ·exact .inr (.inl h)
   ·exact .inr (.inr ⟨x,h⟩)
   ·cases e
  ·rcases fY g with h|h|⟨x,h,_⟩|⟨m,t,e,_⟩
   ·exact .inl h
   ·exact .inr (.inl h)
   ·exact .inr (.inr ⟨x,h⟩)
   ·cases e
 |succ n z=>
  intro d e h g;have q:∀l c:List Ad,d5 n l=ah->d5 n c=ah->(PyData.eqvAll l c=ah↔l=c):=by
   intro l
   induction l with
   |nil=>intro c _ _;cases c<;>simp[PyData.eqvAll]
   |cons x r u=>
    intro c o p;cases c with
    |nil=>simp[PyData.eqvAll]
    |cons y s=>
     rw[d5,Bu]at o p;rw[PyData.eqvAll,Bu,z o.1 p.1,u s o.2 p.2,List.cons.injEq]
  rcases fY h with rfl|⟨i,rfl⟩|⟨x,rfl,o⟩|⟨m,t,v,rfl,C⟩<;>rcases fY g with rfl|⟨j,rfl⟩|⟨y,rfl,p⟩|⟨k,w,B,rfl,A⟩
  ·exact a (.inl rfl) (.inl rfl)
  ·exact a (.inl rfl) (.inr (.inl ⟨_,rfl⟩))
  ·exact a (.inl rfl) (.inr (.inr ⟨_,rfl⟩))
  ·simp[Cj]
  ·exact a (.inr (.inl ⟨_,rfl⟩)) (.inl rfl)
  ·exact a (.inr (.inl ⟨_,rfl⟩)) (.inr (.inl ⟨_,rfl⟩))
  ·exact a (.inr (.inl ⟨_,rfl⟩)) (.inr (.inr ⟨_,rfl⟩))
  ·simp[Cj]
  ·exact a (.inr (.inr ⟨_,rfl⟩)) (.inl rfl)
  ·exact a (.inr (.inr ⟨_,rfl⟩)) (.inr (.inl ⟨_,rfl⟩))
  ·exact a (.inr (.inr ⟨_,rfl⟩)) (.inr (.inr ⟨_,rfl⟩))
  ·simp[Cj]
  ·simp[Cj]
  ·simp[Cj]
  ·simp[Cj]
  ·cases v;cases B;rw[Cj,q t w C A,PyData.tuple.injEq]
theorem nf{n:Nat}{d:Ad}(h:bw n d=ah):(d=.none\/(∃i,d=.int i)\/∃x,d=.str x)\/∃m ds,n=m+1/\d=.tuple ds/\d5 m ds=ah:=by
 rcases fY h with e|e|⟨x,e,_⟩|e
 ·exact .inl (.inl e)
 ·exact .inl (.inr (.inl e))
 ·exact .inl (.inr (.inr ⟨x,e⟩))
 ·exact .inr e
theorem ud{h:Heap}{v:Af}{d e:Ad}{as bs:List z_}(p:d=.none\/(∃i,d=.int i)\/∃x,d=.str x)(r1:Reads h v d as)(r2:Reads h v e bs):d=e:=by
 rcases p with rfl|⟨i,rfl⟩|⟨x,rfl⟩
 ·cases r1;cases r2;rfl
 ·cases r1;cases r2;rfl
 ·cases r1;cases r2;rfl
theorem zT{h h':Heap}{v:Af}{d:Ad}{as:List z_}(p:d=.none\/(∃i,d=.int i)\/∃x,d=.str x)(r1:Reads h v d as):Reads h' v d as:=by
 rcases p with rfl|⟨i,rfl⟩|⟨x,rfl⟩
 ·cases r1;exact .none
 ·cases r1;exact .int _ _
 ·cases r1;exact .str _ _
theorem Pd:∀(n:Nat){h:Heap}{v:Af}{d e:Ad}{as bs:List z_},bw n d=ah->bw n e=ah->Reads h v d as->Reads h v e bs->d=e:=by
 intro n
 induction n with
 |zero=>
  intro h v d e as bs t B j g;rcases nf t with p|⟨m,F,z,_⟩
  ·exact ud p j g
  ·cases z
 |succ n M=>
  intro h v d e as bs t B j g;rcases nf t with p|⟨m,F,z,rfl,w⟩
  ·exact ud p j g
  ·cases z;rcases nf B with p|⟨m,O,z,rfl,x⟩
   ·exact(ud p g j).symm
   ·cases z;cases j with
    |tuple D N K L=>
     cases g with
     |tuple G P l H=>
      cases Bq (D.symm.trans G);rw[K]at l;injection l with l _;subst l;have:∀{o:List Af}{i f:List Ad}{as bs:List z_},d5 n i=ah->d5 n f=ah->ReadsAll h o i as->ReadsAll h o f bs->i=f:=by
       intro o
       induction o with
       |nil=>intro i f as bs _ _ s A;cases s;cases A;rfl
       |cons v r u=>
        intro i f as bs q y s A;cases s with
        |cons I C=>
         cases A with
         |cons J E=>
          rw[d5,Bu]at q y;rw[M q.1 y.1 I J,u q.2 y.2 C E]
      rw[this w x L H]
theorem QS:∀(n:Nat){h h':Heap}{v:Af}{d:Ad}{as:List z_}{dd:z_}{o:Obj}{es:Array Gp}{ep:Nat},bw n d=ah->Reads h v d as->h.get? dd=ae o->o.data=.dict es ep->Cz dd h h'->Reads h' v d as:=by
 intro n
 induction n with
 |zero=>
  intro h h' v d as dd o es ep q i A g y;rcases nf q with p|⟨m,D,z,_⟩
  ·exact zT p i
  ·cases z
 |succ n I=>
  intro h h' v d as dd o es ep q i A g y;rcases nf q with p|⟨m,D,z,rfl,w⟩
  ·exact zT p i
  ·cases z;cases i with
   |@tuple a J f k _ _ C E G H=>
    have x:a≠dd:=by
     rintro rfl
     simp_all
    have:∀{f:List Af}{e:List Ad}{as:List z_},d5 n e=ah->ReadsAll h f e as->ReadsAll h' f e as:=by
     intro f
     induction f with
     |nil=>intro e as _ l;cases l;exact .nil
     |cons v r s=>
      intro e as j l;cases l with
      |cons F B=>
       rw[d5,Bu]at j;exact .cons (I j.1 F A g y) (s j.2 B)
    exact .tuple ((y.2 a x).trans C) E G (this w H)
section
variable{prog:Bb}{w:Bj}{E:Af->Aj->Prop}
theorem AF{n:Nat}(ih:∀{A:Bt} {s:Aj} {v:Af} {d:Ad} {as:List z_} {Q:Int->Aj->Prop},A.units+n < C9->bw n d=ah->Reads s.heap v d as->Q (mU w d) {s with toks:=s.toks+jJ d}->A6 (A9 prog w) A (pyHash v) Q E s):
  ∀(xs:List Ad)(vs:List Af)(as:List z_)(A:Bt)(s:Aj)(b:Array Int)(Q:Array Int->Aj->Prop),d5 n xs=ah->ReadsAll s.heap vs xs as->A.units+n < C9->
  (∀b',b'.toList=b.toList++nQ w xs->Q b' {s with toks:=s.toks+qW xs})->
  A6 (A9 prog w) A (forIn vs b λx r=>do let h <-pyHash x;pure PUnit.unit;pure (Ga (r.push h))) Q E s
 |[],_,as,A,s,b,Q,_,x,_,h=>by cases x;exact Ai (h b (by simp[nQ]))
 |k::xs,_,as,A,s,b,Q,a,x,c,h=>by
  cases x with
  |cons g e=>
   rw[d5,Bu]at a;rw[List.forIn_cons];refine Aa (Aa (ih c a.1 g (Aa (Ai (Ai ?_)))));refine AF ih xs _ _ A _ _ Q a.2 e c λb' f=>?_;have:=h b' (by simp[f,nQ]);rw[qW,<-Nat.add_assoc]at this;omega
theorem Mv:∀(n:Nat){A:Bt}{s:Aj}{v:Af}{d:Ad}{as:List z_}{Q:Int->Aj->Prop},A.units+n < C9->bw n d=ah->Reads s.heap v d as->Q (mU w d) {s with toks:=s.toks+jJ d}->A6 (A9 prog w) A (pyHash v) Q E s:=by
 intro n;have l:∀{A:Bt}{s:Aj}{v:Af}{d:Ad}{as:List z_}{Q:Int->Aj->Prop},A.units < C9->(d=.none\/(∃i,d=.int i)\/∃x,d=.str x)->Reads s.heap v d as->Q (mU w d) {s with toks:=s.toks+jJ d}->A6 (A9 prog w) A (pyHash v) Q E s:=by
  intro A s v d as Q C B r q;rcases B with rfl|⟨i,rfl⟩|⟨x,rfl⟩
  ·cases r;exact W.pyHash_slot rfl F.slot_NoneType_hash F.entry_NoneType_hash (F.args_NoneType_hash_1 _) (beq_builtin_none _) (.inr C) (Aa (Ai (Aa (wpAny_mkInt (Ai ⟨_,_,rfl,by assumption⟩)))))
  ·cases r;rw[jJ]at q
   ·exact(fE prog w).pyHash (EE prog w _ _) q
   all_goals (intros;trivial)
  ·cases r;rw[jJ]at q
   ·exact(fE prog w).pyHash (CO prog w _ _) q
   all_goals (intros;trivial)
 induction n with
 |zero=>
  intro A s v d as Q C B r q;refine l C ?_ r q;rcases fY B with h|h|⟨x,h,_⟩|⟨m,H,e,_⟩
  ·exact .inl h
  ·exact .inr (.inl h)
  ·exact .inr (.inr ⟨x,h⟩)
  ·cases e
 |succ n M=>
  intro A s v d as Q C B r q;rcases fY B with h|h|⟨x,h,_⟩|⟨m,H,z,rfl,D⟩
  ·exact l ⋯ (.inl h) r q
  ·exact l ⋯ (.inr (.inl h)) r q
  ·exact l ⋯ (.inr (.inr ⟨x,h⟩)) r q
  ·cases z;cases r with
   |@tuple a o K k _ _ I O J L=>
    refine W.pyHash_slot ⟨o,I,O⟩ F.slot_tuple_hash F.entry_tuple_hash (F.args_tuple_hash_1 _) (beq_builtin_none _) (.inr ⋯) ?_;show A6 _ _ (Gb _>>=_) _ _ s;refine Aa (wpAny_tupleItemsOf I J (Aa ?_));rw[<-Array.forIn_toList];refine AF M H K.toList _ A.in1 s #[] _ D L (by simp;omega) λb N=>?_;show A6 _ _ (retInt _) _ _ _;rw[N];refine Aa (wpAny_mkInt (Ai ⟨_,_,rfl,?_⟩));rw[jJ]at q;exact q
theorem Qt:∀(n m:Nat){A:Bt}{s:Aj}{v:Af}{d:Ad}{as:List z_}{Q:Bool->Aj->Prop},n<=m->bw n d=ah->Reads s.heap v d as->Q ah s->A6 (A9 prog w) A (eqIsQuiet m v) Q E s:=by
 intro n;have f:∀{m:Nat}{A:Bt}{s:Aj}{v:Af}{d:Ad}{as:List z_}{Q:Bool->Aj->Prop},(d=.none\/(∃i,d=.int i)\/∃x,d=.str x)->Reads s.heap v d as->Q ah s->A6 (A9 prog w) A (eqIsQuiet m v) Q E s:=by
  intro m A s v d as Q l r q;have P:carriedByValue v=ah:=by
   rcases l with rfl|⟨i,rfl⟩|⟨x,rfl⟩<;>cases r<;>rfl
  rw[eqIsQuiet_byValue _ P];exact Ai q
 induction n with
 |zero=>
  intro m A s v d as Q _ l r q;refine f ?_ r q;rcases fY l with h|h|⟨x,h,_⟩|⟨m,H,e,_⟩
  ·exact .inl h
  ·exact .inr (.inl h)
  ·exact .inr (.inr ⟨x,h⟩)
  ·cases e
 |succ n O=>
  intro m A s v d as Q T l r q;rcases fY l with h|h|⟨x,h,_⟩|⟨X,H,z,rfl,t⟩
  ·exact f (.inl h) r q
  ·exact f (.inr (.inl h)) r q
  ·exact f (.inr (.inr ⟨x,h⟩)) r q
  ·cases z;obtain⟨m,rfl⟩:∃k,m=k+1:=⟨m-1,by omega⟩;cases r with
   |@tuple a o U k _ _ K R M N=>
    have G:s.TypeIs (.ref a) "tuple":=⟨o,K,R⟩;unfold eqIsQuiet;refine Aa (Gz G F.slot_tuple_eq.lookup (Aa (D4 G isSubtype_tuple_tuple ?_)));refine Aa (C8 K M (Aa ?_));rw[<-Array.forIn_toList];refine wpAny_forIn_list _ (λaC r B=>r.1=af/\B=s/\∃u I,d5 n u=ah/\ReadsAll s.heap aC u I) _ ?_ ?_ _ _ ⟨rfl,rfl,H,_,t,N⟩
    ·rintro v aC r B ⟨J,rfl,u,I,y,D⟩
     cases D with
     |cons L S=>
      rw[d5,Bu]at y;exact Aa (O m ⋯ y.1 L (Ai ⟨rfl,rfl,_,_,y.2,S⟩))
    ·rintro⟨V,W⟩ B ⟨J,rfl,_⟩
     subst J;exact Ai q
end
def TK:Type:={ d:Ad // bw 6 d=ah}
noncomputable instance:DecidableEq TK:=λ_ _=>Classical.propDecidable _
def mT(prog:Bb)(w:Bj):HeapKind prog w TK where
 is:=λh k a=>∃as,Reads h (.ref a) k.1 as
 hash:=λk=>mU w k.1
 draws:=λk=>jJ k.1
 room:=λA=>A.units+16 < C9
 inj:=λ{h a x y} hx hy=>by
  obtain⟨as,r1⟩:=hx;obtain⟨bs,r2⟩:=hy;exact Subtype.ext (Pd 6 x.2 y.2 r1 r2)
 keeps:=λ{h h' k a d o es ep} x ho hd hs=>by
  obtain⟨as,r⟩:=x;exact⟨as,QS 6 k.2 r ho hd hs⟩
 pyHash:=λ{A E s k a Q} hu hk h=>by
  obtain⟨as,r⟩:=hk;exact Mv 6 ⋯ k.2 r h
 eqBool:=λ{A E s x y a b Q} hu hx hy h=>by
  obtain⟨as,r1⟩:=hx;obtain⟨bs,r2⟩:=hy;have l1:=BJ 6 x.2;have l2:=BJ 6 y.2;refine SeqAt.eqAt_reads x.1 y.1 A s _ _ _ _ r1 r2 l1.1 l2.1 ⋯ prog w E Q ?_;have e:Cj x.1 y.1=decide (x=y):=by
   rw[D6,Sj 6 x.2 y.2,decide_eq_true_iff];exact⟨Subtype.ext,λh=>by rw[h]⟩
  rw[e];exact h
 quiet:=λ{A E s k a Q} hk h=>by
  obtain⟨as,r⟩:=hk;exact Qt 6 8 ∎ k.2 r h
inductive V where
 |non|bl (b:Bool)|int (i:Int)|str (x:Str)|byt (b:Array UInt8)|flt (b:UInt64)|ref (a:z_)|ty (n:String)
 deriving DecidableEq
def RelV:V->Af->Prop
 |.non,u=>u=B3
 |.bl b,u=>u=Value.bool b
 |.int i,u=>∃t,u=Value.int i t
 |.str x,u=>∃t,u=Value.str x t
 |.byt b,u=>∃t,u=Value.bytes b t
 |.flt b,u=>∃t,u=Value.float b t
 |.ref a,u=>u=Cf a
 |.ty n,u=>u=Dj n
abbrev Vals:List V->List Af->Prop:=Paired RelV
theorem Vals.length{xs:List V}{us:List Af}(r:Vals xs us):xs.length=us.length:=Dk r
theorem Vals.get:∀{xs:List V}{us:List Af}{i:Nat}{x:V},Vals xs us->xs[i]?=ae x->∃u,us[i]?=ae u/\RelV x u
 |_,_,_,_,.nil,e=>by simp at e
 |_,_,0,_,.cons r _,e=>by simp at e;subst e;exact⟨_,rfl,r⟩
 |_,_,i+1,x,.cons _ t,e=>by
  obtain⟨u,b,a⟩:=Vals.get t (by assumption);exact⟨u,by simpa using b,a⟩
theorem Vals.set{x:V}{u:Af}(r:RelV x u):∀{xs:List V}{us:List Af}(i:Nat),Vals xs us->Vals (xs.set i x) (us.set i u)
 |_,_,_,.nil=>.nil
 |_,_,0,.cons _ t=>.cons r t
 |_,_,i+1,.cons q t=>.cons q (Vals.set r i t)
theorem Vals.append:∀{xs ys:List V}{us ws:List Af},Vals xs us->Vals ys ws->Vals (xs++ys) (us++ws)
 |_,_,_,_,.nil,s=>s
 |_,_,_,_,.cons r t,s=>.cons r (Vals.append t s)
theorem Vals.take:∀{xs:List V}{us:List Af}(n:Nat),Vals xs us->Vals (xs.take n) (us.take n)
 |_,_,0,_=>.nil
 |_,_,_+1,.nil=>.nil
 |_,_,n+1,.cons r t=>.cons r (Vals.take n t)
theorem Vals.drop:∀{xs:List V}{us:List Af}(n:Nat),Vals xs us->Vals (xs.drop n) (us.drop n)
 |_,_,0,r=>r
 |_,_,_+1,.nil=>.nil
 |_,_,n+1,.cons _ t=>Vals.drop n t
def RelO:Option V->Option Af->Prop
 |some v,ae u=>RelV v u
 |none,af=>True
 |_,_=>False
def KV{κ:Type}:List (κ×V)->List (κ×Af)->Prop:=Paired λ(p:κ×V)(q:κ×Af)=>p.1=q.1/\RelV p.2 q.2
def kV:aF->V
 |.inl i=>.int i
 |.inr x=>.str x
inductive HO where
 |lst (xs:List V)
 |tup (xs:List V)
 |dK (kvs:List (aF×V))|dT (kvs:List (List aF×V))
 |dX (ps:List (TK×z_×V))
 |set (S:Int->Bool) (n:Nat)
 |ins (C dx:z_) (fs:List (Str×V))
 |own (x:z_)
 |xd (fs:List (Str×V))
 |met (f x:z_)
 |rng (lo hi:Int)
 |frz (o:Obj) (u:HO)
 |tbl (ps:Array Af)
 |ext (φ:Heap->Prop)
abbrev Hp:=z_->Option HO
def upd(H:Hp)(a:z_)(o:HO):Hp:=λb=>if b=a then ae o else H b
theorem bj{H:Hp}{a:z_}{o:HO}:upd H a o a=ae o:=by unfold upd;simp
theorem aL{H:Hp}{a b:z_}{o:HO}(h:b≠a):upd H a o b=H b:=by unfold upd;rw[a_ h]
theorem sV{H:Hp}{a:z_}{o u:HO}:upd (upd H a o) a u=upd H a u:=by
 funext b;unfold upd;simp_all
theorem FI{H:Hp}{a b:z_}{o u:HO}(h:H a=ae o)(h':H b=ae u)(d:o≠u):a≠b:=by
 intro e;subst e;rw[h]at h';simp_all
theorem bH{H:Hp}{a b:z_}{o:HO}(h:H a=ae o)(h':H b=af):a≠b:=by
 intro e;simp_all
def IsTupP(h:Heap)(a:z_)(items:Array Af):Prop:=∃o,h.get? a=ae o/\o.cls=.type "tuple"/\(∃n,o.data=.seq items n)/\o.dict=af
theorem IsTupP.tup{h:Heap}{a:z_}{items:Array Af}(x:IsTupP h a items):IsTup h a items:=let⟨o,e,c,d,_⟩:=x;⟨o,e,c,d⟩
theorem IsTupP.lt{h:Heap}{a:z_}{items:Array Af}(x:IsTupP h a items):a < h.objs.size:=let⟨_,e,_⟩:=x;As e
theorem IsTupP.new(h:Heap)(items:Array Af):IsTupP (h.push {cls:=.type "tuple",data:=.seq items}) h.objs.size items:=⟨_,Av _ rfl,rfl,⟨_,rfl⟩,rfl⟩
section
variable(P:Bb)(w:Bj)
def ObjOk(H:Hp)(h:Heap)(a:z_):HO->Prop
 |.lst xs=>xs.length<=Aw/\∃(i_:List Af)(n:Nat),Vals xs i_/\h.get? a=ae {cls:=.type "list",data:=.seq i_.toArray n}
 |.tup xs=>xs.length<=Aw/\∃i_:List Af,Vals xs i_/\IsTupP h a i_.toArray
 |.dK kvs=>kvs.length<=Aw/\(a==Dd)=ai/\∃vs,KV kvs vs/\h.DictOf (fE P w) a vs
 |.dT kvs=>kvs.length<=Aw/\(a==Dd)=ai/\∃xs:List (List aF×z_×Af),
   Paired (λ(p:List aF×V)(q:List aF×z_×Af)=>p.1=q.1/\H q.2.1=ae (.tup (p.1.map kV))/\RelV p.2 q.2.2) kvs xs /\
   ∃o es ep,h.get? a=ae o/\o.ExactDict/\o.data=.dict es ep/\es.toList=xs.map (entryOfKey (tupleKind (fE P w)))/\(xs.map (·.1)).Nodup
 |.dX ps=>ps.length<=Aw/\(a==Dd)=ai/\∃xs:List (TK×z_×Af),Paired (λ(p:TK×z_×V)(q:TK×z_×Af)=>p.1=q.1/\p.2.1=q.2.1/\RelV p.2.2 q.2.2) ps xs /\
   ∃o es ep,h.get? a=ae o/\o.ExactDict/\o.data=.dict es ep/\es.toList=xs.map (entryOfKey (mT P w))/\(xs.map (·.1)).Nodup
 |.set S n=>h.SetOf (intKind P w) a S n
 |.ins C dx fs=>H dx=ae (.own a)/\fs.length<=1000/\dx≠a/\h.get? a=ae (PySem.W.instObj C dx) /\
   ∃mA,h.Ns1 dx mA/\(∀f,RelO (fs.lookup f) (mA f))/\PySem.Within mA (fs.map (·.1))
 |.own _=>∃o,h.get? a=ae o
 |.xd fs=>∃mA,h.Ns1 a mA/\∀f,RelO (fs.lookup f) (mA f)
 |.rng lo hi=>∃t u v,h.get? a=ae {cls:=.type "range",data:=.fields #[.int lo t,.int hi u,.int 1 v]}
 |.frz o u=>h.get? a=ae o/\ObjOk H h a u
 |.tbl ps=>h.get? a=ae {cls:=.none,data:=.fields ps}
 |.met f x=>h.get? a=ae (PySem.W.methodObj (.ref f) (.ref x))
 |.ext φ=>φ h/\(∃o,h.get? a=ae o)/\∀h1 h2:Heap,φ h1->(∀o,h1.get? a=ae o->h2.get? a=ae o)->φ h2
def HOk(H:Hp)(h:Heap):Prop:=∀a o,H a=ae o->ObjOk P w H h a o
end
section
variable{P:Bb}{w:Bj}{H H':Hp}{h h':Heap}{a:z_}{o:HO}
theorem ObjOk.lt(x:ObjOk P w H h a o):a < h.objs.size:=by
 cases o with
 |lst q=>obtain⟨_,_,_,_,e⟩:=x;exact As e
 |tup q=>obtain⟨_,_,_,p⟩:=x;exact p.lt
 |dK b=>obtain⟨_,_,_,_,o,_,_,e,_⟩:=x;exact As e
 |dT b=>obtain⟨_,_,_,_,o,_,_,e,_⟩:=x;exact As e
 |dX c=>obtain⟨_,_,_,_,o,_,_,e,_⟩:=x;exact As e
 |set S n=>obtain⟨o,_,_,_,e,_⟩:=x;exact As e
 |ins C B s=>obtain⟨_,_,_,e,_⟩:=x;exact As e
 |own y=>obtain⟨_,e⟩:=x;exact As e
 |xd s=>obtain⟨_,⟨_,_,_,e,_⟩,_⟩:=x;exact As e
 |rng F v=>obtain⟨_,_,_,e⟩:=x;exact As e
 |frz E u=>obtain⟨e,_⟩:=x;exact As e
 |tbl c=>exact As (x)
 |met f y=>exact As (x)
 |ext φ=>obtain⟨_,⟨_,e⟩,_⟩:=x;exact As e
theorem Paired.mapP{α β:Type}{F G:α->β->Prop}:∀{v_:List α}{w_:List β},Paired F v_ w_->(∀a b,F a b->G a b)->Paired G v_ w_
 |_,_,.nil,_=>.nil
 |_,_,.cons r t,f=>.cons (f _ _ r) (Paired.mapP t f)
theorem ObjOk.stay(x:ObjOk P w H h a o)(k:∀b u,(b=a\/H b=ae (.own a))->h.get? b=ae u->h'.get? b=ae u)
  (ho:∀b,H b=ae (.own a)->H' b=ae (.own a)) (ht:∀b xs,H b=ae (.tup xs)->H' b=ae (.tup xs)):ObjOk P w H' h' a o:=by
 induction o with
 |lst xs=>obtain⟨z,l,n,r,e⟩:=x;exact⟨z,l,n,r,k _ _ (.inl rfl) e⟩
 |tup xs=>obtain⟨z,l,r,g,e,c⟩:=x;exact⟨z,l,r,g,k _ _ (.inl rfl) e,c⟩
 |dK s=>obtain⟨z,y,I,r,g,i,j,e,c⟩:=x;exact⟨z,y,I,r,g,i,j,k _ _ (.inl rfl) e,c⟩
 |dT s=>
  obtain⟨z,y,xs,r,g,i,j,e,c⟩:=x;exact⟨z,y,xs,Paired.mapP r λp q z=>⟨z.1,ht _ _ z.2.1,z.2.2⟩,g,i,j,k _ _ (.inl rfl) e,c⟩
 |dX D=>
  obtain⟨z,y,xs,r,g,i,j,e,c⟩:=x;exact⟨z,y,xs,r,g,i,j,k _ _ (.inl rfl) e,c⟩
 |set S n=>obtain⟨g,i,j,t,e,c⟩:=x;exact⟨g,i,j,t,k _ _ (.inl rfl) e,c⟩
 |ins C W R=>
  obtain⟨d,z,K,e,m,⟨A,i,j,O,c⟩,r⟩:=x;exact⟨ho _ d,z,K,k _ _ (.inl rfl) e,m,⟨A,i,j,k _ _ (.inr d) O,c⟩,r⟩
 |own y=>obtain⟨g,e⟩:=x;exact⟨g,k _ _ (.inl rfl) e⟩
 |xd R=>obtain⟨m,⟨A,i,j,e,c⟩,r⟩:=x;exact⟨m,⟨A,i,j,k _ _ (.inl rfl) e,c⟩,r⟩
 |rng Y T=>obtain⟨t,u,v,e⟩:=x;exact⟨t,u,v,k _ _ (.inl rfl) e⟩
 |frz g u N=>obtain⟨e,q⟩:=x;exact⟨k _ _ (.inl rfl) e,N q⟩
 |tbl D=>
  have e:=x;exact k a _ (.inl rfl) e
 |met f y=>
  have e:=x;exact k a _ (.inl rfl) e
 |ext φ=>obtain⟨p,⟨o,e⟩,B⟩:=x;exact⟨B _ _ p λo q=>k _ _ (.inl rfl) q,⟨o,k _ _ (.inl rfl) e⟩,B⟩
theorem HOk.lt(x:HOk P w H h)(e:H a=ae o):a < h.objs.size:=(x a o e).lt
theorem HOk.fresh(x:HOk P w H h)(e:h.objs.size<=a):H a=af:=by
 cases q:H a with
 |none=>rfl
 |some u=>exact f_ (Bi (x.lt q) e) (Dz _)
theorem HOk.kept(x:HOk P w H h)(k:∀b u,h.get? b=ae u->h'.get? b=ae u):HOk P w H h':=λa o e=>
 (x a o e).stay (λb u _ q=>k b u q) (λ_ q=>q) λ_ _ q=>q
theorem HOk.laid(x:HOk P w H h)(k:∀b u,h.get? b=ae u->h'.get? b=ae u)(hp:h.objs.size<=a)(new:ObjOk P w (upd H a o) h' a o):HOk P w (upd H a o) h':=λb u e=>by
 have d:=x.fresh hp;by_cases f:b=a
 ·subst f;rw[bj]at e;simp_all
 ·rw[aL f]at e;exact(x b u e).stay (λc v _ q=>k c v q) (λc q=>by rw[aL (bH q d)];exact q) λc g q=>by rw[aL (bH q d)];exact q
end
def Rd(H:Hp)(a:z_)(u:HO):Prop:=H a=ae u\/∃o,H a=ae (.frz o u)
theorem Rd.ok{P:Bb}{w:Bj}{H:Hp}{h:Heap}{a:z_}{u:HO}(r:Rd H a u)(x:HOk P w H h):ObjOk P w H h a u:=by
 rcases r with r|⟨o,r⟩
 ·exact x a u r
 ·obtain⟨_,q⟩:=x a _ r;exact q
def ny:Option HO->Prop
 |some (.lst _)=>True
 |some (.dK _)=>True
 |some (.dT _)=>True
 |some (.dX _)=>True
 |some (.set _ _)=>True
 |some (.ins _ _ _)=>True
 |some (.ext _)=>True
 |_=>False
section
variable{P:Bb}{w:Bj}{H:Hp}{h h':Heap}{x e:z_}{o':HO}
theorem HOk.write(ok:HOk P w H h)(mu:ny (H x))(he:e=x\/H e=ae (.own x))(k:∀b u,b≠e->h.get? b=ae u->h'.get? b=ae u)(heo:∃u,h'.get? e=ae u)
  (new:ObjOk P w (upd H x o') h' x o'):HOk P w (upd H x o') h':=λb u q=>by
 have a:∀c y,H c=ae (.own y)->c≠x:=λc y r z=>by subst z;rw[r]at mu;trivial
 have f:∀c g,H c=ae (.tup g)->c≠x:=λc g r z=>by subst z;rw[r]at mu;trivial
 by_cases j:b=x
 ·subst j;rw[bj]at q;simp_all
 ·rw[aL j]at q;by_cases d:b=e
  ·have l:H b=ae (.own x):=by
    rcases he with z|z
    ·exact f_ (d.trans z) j
    ·rw[d];exact z
   rw[q]at l;cases l;obtain⟨v,m⟩:=heo;exact⟨v,by simp_all⟩
  ·refine(ok b u q).stay (λc v i r=>k c v ?_ r) (λc r=>by rw[aL (a c b r)];exact r) λc g r=>by rw[aL (f c g r)];exact r
   rcases i with rfl|i
   ·exact d
   ·rintro rfl
    rcases he with z|z
    ·exact a c b i z
    ·rw[i]at z;simp_all
end
structure Un(fs ex:List z_)(H H':Hp)(h h':Heap):Prop where
 keep:∀b o,h.get? b=ae o->H b=af->b∉fs->b∉ex->h'.get? b=ae o
 slot:∀b o,h.get? b=ae o->H b=af->b∈fs->b∉ex->∃sl,h'.get? b=ae {o with slots:=sl}
 free:∀b o,h.get? b=ae o->H b=af->b∉ex->H' b=af
 there:∀b o,h.get? b=ae o->b∉ex->∃o',h'.get? b=ae o'
 tups:∀b xs,H b=ae (.tup xs)->H' b=ae (.tup xs)
 frzs:∀b o u,H b=ae (.frz o u)->H' b=ae (.frz o u)
 tbls:∀b ps,H b=ae (.tbl ps)->∃more,H' b=ae (.tbl (ps++more))
section
variable{fs fs' ex ex':List z_}{H H1 H2:Hp}{h h1 h2 h':Heap}{a x e:z_}{o:HO}
theorem Un.any(u:Un fs ex H H1 h h1){b:z_}{ob:Obj}(q:h.get? b=ae ob)(n:H b=af)(hx:b∉ex):∃sl,h1.get? b=ae {ob with slots:=sl}:=by
 by_cases a:b∈fs
 ·exact u.slot b ob q n a hx
 ·exact⟨_,u.keep b ob q n a hx⟩
theorem Un.kept(k:∀b u,h.get? b=ae u->h'.get? b=ae u):Un fs ex H H h h':=
 ⟨λb a q _ _ _=>k b a q,λb a q _ _ _=>⟨_,k b a q⟩,λ_ _ _ n _=>n,λb a q _=>⟨a,k b a q⟩,λ_ _ q=>q,λ_ _ _ q=>q,λ_ c q=>⟨#[],by rw[q];simp⟩⟩
theorem Un.refl:Un fs ex H H h h:=Un.kept λ_ _ q=>q
theorem Un.laid(k:∀b u,h.get? b=ae u->h'.get? b=ae u)(hp:h.objs.size<=a)(hn:H a=af):Un fs ex H (upd H a o) h h' where
 keep:=λb u q _ _ _=>k b u q
 slot:=λb u q _ _ _=>⟨_,k b u q⟩
 free:=λb u q n _=>by rw[aL (Be (Bi (As q) hp))];exact n
 there:=λb u q _=>⟨u,k b u q⟩
 tups:=λb c q=>by rw[aL (bH q hn)];exact q
 frzs:=λb u c q=>by rw[aL (bH q hn)];exact q
 tbls:=λb d q=>⟨#[],by rw[aL (bH q hn),q];simp⟩
theorem Un.write(mu:ny (H x))(he:e=x\/H e=ae (.own x))(k:∀b u,b≠e->h.get? b=ae u->h'.get? b=ae u)(heo:∃u,h'.get? e=ae u):Un fs ex H (upd H x o) h h':=by
 have d:∀b,H b=af->b≠x:=λb n z=>by subst z;rw[n]at mu;trivial
 have f:∀b,H b=af->b≠e:=λb n z=>by
  subst z;rcases he with r|r
  ·exact d b n r
  ·rw[n]at r;cases r
 have c:∀b u,H b=ae u->¬ny (ae u)->b≠x:=λb u q i z=>by simp_all
 refine⟨λb u q n _ _=>k b u (f b n) q,λb u q n _ _=>⟨u.slots,k b u (f b n) q⟩,λb u q n _=>by rw[aL (d b n)];exact n,λb u q _=>?_,
  λb g q=>by rw[aL (c b _ q λz=>z)];exact q,λb u g q=>by rw[aL (c b _ q λz=>z)];exact q,λb j q=>⟨#[],by rw[aL (c b _ q λz=>z),q];simp⟩⟩
 by_cases a:b=e
 ·subst a;omega
 ·exact⟨u,k b u a q⟩
end
def BL(h:Heap)(H:Hp):List z_:=(A8 h.objs.size).filter λa=>(H a).isSome
def fP(h:Heap)(H:Hp):Heap:=PySem.W.hideAll h (BL h H)
theorem G5(h:Heap)(H:Hp):(fP h H).objs.size=h.objs.size:=PySem.W.hideAll_size _ _
theorem RD{h:Heap}{H:Hp}{b:z_}{o:Obj}(e:h.get? b=ae o)(n:H b=af):(fP h H).get? b=ae o:=
 PySem.W.hideAll_get _ e λhm=>by
  have q:=(Cw.mp hm).2;simp_all
theorem RM{h:Heap}{H:Hp}{b:z_}{o:Obj}(e:(fP h H).get? b=ae o):h.get? b=ae o/\H b=af:=by
 have a:=PySem.W.of_hideAll _ e;refine⟨a,?_⟩;cases q:H b with
 |none=>rfl
 |some x=>
  have d:b∈BL h H:=Cw.mpr ⟨Bx.mpr (As a),by simp[q]⟩;have z:(fP h H).get? b=af:=PySem.W.hideAll_none _ d;rw[z]at e;cases e
def Q3(g h:Heap)(L:z_):List (z_×Obj):=(A8 h.objs.size).filterMap λa=>if a=L\/(g.get? a).isSome=ah then af else(h.get? a).map λo=>(a,o)
def aC(g h:Heap)(L d:z_):List (z_×Obj):=(Q3 g h L).filter λp=>decide (p.1≠d)
structure Mod(K:Ag)(mg:Str->Option Af)(base:Heap):Prop where
 kin:K.In base
 glob:base.Ns Dv mg
 blt:∃mb,base.Ns builtinsNs mb/\∀x:Str,x≠"__name__"->mb x=Bm x
 nolimit:base.NoLimit
structure Cx where
 prog:Bb
 w:Bj
 K:Ag
 mg:Str->Option Af
 base:Heap
 A:Bt
 N:List Str
 s₀:Aj
 H₀:Hp
 env:Env
 outer:List Env
 stack:List Env
 ex:List z_
 fn:Str->Bool
 calm:Bool
 pn:List (z_×Obj)
 xe:Af->Aj->Prop
def gS(l:List Env):List z_:=l.filterMap (·.frame)
abbrev Cx.fs(X:Cx):List z_:=gS X.outer
def ej(sc:Et)(x:Str):Prop:=sc.names.lookup x=ae .local\/sc.names.lookup x=ae .cell\/sc.names.lookup x=ae .free
def eZ(sc:Et)(x:Str):Prop:=sc.names.lookup x=ae .local\/sc.names.lookup x=ae .cell
def rM(env:Env)(h:Heap)(m:Str->Option Af)(x:Str)(u:Af):Prop:=
 (env.kindOf x=ae .local/\m x=ae u)\/((env.kindOf x=ae .cell\/env.kindOf x=ae .free)/\∃c,env.cells.lookup x=ae c/\h.IsCell c (ae u))
structure Cx.Ok(X:Cx):Prop where
 mod:Mod X.K X.mg X.base
 kind:X.env.scope.kind=.function
 glob:X.env.globals=Dv
 blt:X.env.builtins=builtinsNs
 above:X.s₀.heap.objs.size<=X.env.locals
 inj:∀x y c,X.env.cells.lookup x=ae c->X.env.cells.lookup y=ae c->x=y
 has:∀x,(X.env.kindOf x=ae .cell\/X.env.kindOf x=ae .free)->∃c,X.env.cells.lookup x=ae c
 cab:∀x c,X.fn x=ah->X.env.cells.lookup x=ae c->X.s₀.heap.objs.size<=c
 hd:X.calm=ah->X.A.handled=af
 frames:X.A.frames=ae X.stack
 stk:X.stack=X.outer\/(X.stack=X.env::X.outer/\X.env.frame=ae X.env.locals)
 exf:∀b∈X.ex,b≠X.env.locals/\∀x c,X.env.cells.lookup x=ae c->c≠b
 bs:∀b o,X.base.get? b=ae o->X.s₀.heap.get? b=ae o/\X.H₀ b=af
 bsz:X.base.objs.size<=X.s₀.heap.objs.size
 noex:∀b o,X.base.get? b=ae o->b∉X.ex
 exfs:∀b∈X.ex,b∉X.fs
 funs:X.s₀.heap.FunFrames X.base X.outer
 frf:∀b∈X.fs,X.H₀ b=af
structure Inv(X:Cx)(h_:List (z_×Obj))(σ:List (Option V))(H:Hp)(s:Aj):Prop where
 ok:X.Ok
 os:s.os=X.s₀.os
 bare:AllBare s.gens
 base:Un X.fs X.ex X.H₀ H X.s₀.heap s.heap
 loc:∃m,s.heap.Ns X.env.locals m/\∀(i:Nat)(x:Str)(v:V),X.N[i]?=ae x->σ[i]?=ae (ae v)->ej X.env.scope x->∃u,RelV v u/\rM X.env s.heap m x u
 cell:∀x c,X.env.cells.lookup x=ae c->∃v,s.heap.IsCell c v
 free:H X.env.locals=af
 freeC:∀x c,X.env.cells.lookup x=ae c->H c=af
 pin:∀p∈X.pn++h_,s.heap.get? p.1=ae p.2/\H p.1=af/\p.1≠X.env.locals/\p.1∉X.fs/\∀v,p.2.data≠.cell v
 hok:HOk X.prog X.w H s.heap
 len:σ.length=X.N.length
section
variable{X:Cx}{h_:List (z_×Obj)}{σ:List (Option V)}{H H':Hp}{s:Aj}{h':Heap}
theorem Cx.Ok.nofr(ok:X.Ok){b:z_}{o:Obj}(e:X.base.get? b=ae o):b∉X.fs:=λhb=>by
 have:=(ok.funs.mem hb).1;simp_all
theorem Inv.bs(I:Inv X h_ σ H s):∀b o,X.base.get? b=ae o->s.heap.get? b=ae o/\H b=af:=λb o e=>
 ⟨I.base.keep b o (I.ok.bs b o e).1 (I.ok.bs b o e).2 (I.ok.nofr e) (I.ok.noex b o e),I.base.free b o (I.ok.bs b o e).1 (I.ok.bs b o e).2 (I.ok.noex b o e)⟩
theorem Inv.bk(I:Inv X h_ σ H s):∀b o,X.base.get? b=ae o->s.heap.get? b=ae o:=λb o e=>(I.bs b o e).1
theorem Inv.mod(I:Inv X h_ σ H s):Mod X.K X.mg X.base:=I.ok.mod
theorem Inv.kIn(I:Inv X h_ σ H s):X.K.In s.heap:=I.ok.mod.kin.keeps I.bk
theorem Inv.lt(I:Inv X h_ σ H s):X.env.locals < s.heap.objs.size:=let⟨_,a,_⟩:=I.loc;a.lt
theorem Inv.sz(I:Inv X h_ σ H s):X.s₀.heap.objs.size<=s.heap.objs.size:=Ba I.ok.above (F7 I.lt)
theorem Inv.nofs(I:Inv X h_ σ H s){a:z_}(h:s.heap.objs.size<=a):a∉X.fs:=λhb=>by
 obtain⟨_,o,b,_⟩:=I.ok.funs.mem hb;exact f_ (Bi (As b) (Ba I.sz h)) (Dz _)
theorem Inv.cne(I:Inv X h_ σ H s):∀x c,X.env.cells.lookup x=ae c->c≠X.env.locals:=λx c e z=>by
 obtain⟨v,o,f,h⟩:=I.cell x c e;obtain⟨m,⟨g,d,i,a,b,_⟩,_⟩:=I.loc;simp_all
theorem Inv.funs(I:Inv X h_ σ H s):s.heap.FunFrames X.base X.outer:=by
 have f:∀l,(∀b∈gS l,b∈X.fs)->X.s₀.heap.FunFrames X.base l->s.heap.FunFrames X.base l:=by
  intro l
  induction l with
  |nil=>intro _ _;trivial
  |cons n r q=>
   intro h i;obtain⟨j,⟨L,o,g,p,k,m⟩,t⟩:=i;have c:=h L (by unfold gS;rw[List.filterMap_cons,g];exact Ap);obtain⟨u,e⟩:=I.base.slot L o k (I.ok.frf L c) c λz=>I.ok.exfs L z c;exact⟨j,⟨L,_,g,p,e,m⟩,q (λb d=>h b (by unfold gS;rw[List.filterMap_cons,g];exact Ak _ d)) t⟩
 exact f X.outer (λ_ d=>d) I.ok.funs
theorem Inv.stack(I:Inv X h_ σ H s):s.heap.FunFrames X.base X.stack:=by
 rcases I.ok.stk with e|⟨e,b⟩
 ·rw[e];exact I.funs
 ·rw[e];obtain⟨m,a,_⟩:=I.loc;exact .cons (by rw[I.ok.kind];decide) b a (Heap.get?_none_of_le (Ba I.ok.bsz I.ok.above)) I.funs
theorem Inv.stkSub(I:Inv X h_ σ H s):∀b∈gS X.stack,b∈X.env.locals::X.fs:=λb a=>by
 rcases I.ok.stk with e|⟨e,c⟩
 ·rw[e]at a;exact Ak _ a
 ·rw[e]at a;unfold gS at a;rw[List.filterMap_cons,c]at a;exact a
theorem Inv.stkFree(I:Inv X h_ σ H s):∀b∈gS X.stack,H b=af:=λb a=>by
 rcases Au.mp (I.stkSub b a)with e|a
 ·rw[e];exact I.free
 ·obtain⟨_,o,c,_⟩:=I.ok.funs.mem a;exact I.base.free b o c (I.ok.frf b a) λz=>I.ok.exfs b z a
theorem Inv.step{g':Array GenState}{t':Nat}{d':Drawn}{ch:List z_}(I:Inv X h_ σ H s)
  (hch:∀b∈ch,(b∈X.ex\/X.s₀.heap.objs.size<=b)/\b≠X.env.locals/\(∀x c,X.env.cells.lookup x=ae c->c≠b)/\∀p∈X.pn++h_,p.1≠b)
  (keep:∀b o,b≠X.env.locals->b∉X.fs->b∉ch->s.heap.get? b=ae o->H b=af->h'.get? b=ae o)
  (slot:∀b o,b≠X.env.locals->b∈X.fs->b∉ch->s.heap.get? b=ae o->H b=af->∃sl,h'.get? b=ae {o with slots:=sl}) (free:∀b o,b∉ch->s.heap.get? b=ae o->H b=af->H' b=af)
  (there:∀b o,b∉ch->s.heap.get? b=ae o->∃o',h'.get? b=ae o')
  (tups:∀b xs,H b=ae (.tup xs)->H' b=ae (.tup xs)) (frzs:∀b o u,H b=ae (.frz o u)->H' b=ae (.frz o u)) (tbls:∀b ps,H b=ae (.tbl ps)->∃more,H' b=ae (.tbl (ps++more)))
  (ns:∀m,s.heap.Ns X.env.locals m->h'.Ns X.env.locals m) (hok:HOk X.prog X.w H' h') (hg:AllBare g'):
  Inv X h_ σ H' {s with heap:=h',gens:=g',drawn:=d',toks:=t'}:=by
 have A:∀b o,X.s₀.heap.get? b=ae o->b≠X.env.locals:=λb o e=>Be (Bi (As e) I.ok.above);have j:∀b o,X.s₀.heap.get? b=ae o->b∉X.ex->b∉ch:=λb o e a t=>by
  rcases(hch b t).1 with z|z
  ·exact a z
  ·exact f_ (Bi (As e) z) (Dz _)
 have f:∀x c,X.env.cells.lookup x=ae c->∀v,s.heap.IsCell c v->h'.IsCell c v:=λx c e v w=>by
  obtain⟨o,y,D⟩:=w;have g:=λz=>(hch c z).2.2.1 x c e rfl;by_cases J:c∈X.fs
  ·obtain⟨sl,q⟩:=slot c o (I.cne x c e) J g y (I.freeC x c e);exact⟨_,q,D⟩
  ·exact⟨o,keep c o (I.cne x c e) J g y (I.freeC x c e),D⟩
 refine⟨I.ok,I.os,hg,⟨λb o e n t a=>?_,λb o e n t a=>?_,λb o e n a=>?_,λb o e a=>?_,λb xs e=>tups b xs (I.base.tups b xs e),λb o xs e=>frzs b o xs (I.base.frzs b o xs e),λb ps e=>?_⟩,?_,λx c e=>?_,?_,λx c e=>?_,λp F=>?_,hok,I.len⟩
 ·exact keep b o (A b o e) t (j b o e a) (I.base.keep b o e n t a) (I.base.free b o e n a)
 ·obtain⟨sl,h⟩:=I.base.slot b o e n t a;obtain⟨C,B⟩:=slot b _ (A b o e) t (j b o e a) h (I.base.free b o e n a);exact⟨C,B⟩
 ·obtain⟨o',h⟩:=I.base.there b o e a;exact free b o' (j b o e a) h (I.base.free b o e n a)
 ·obtain⟨o',h⟩:=I.base.there b o e a;exact there b o' (j b o e a) h
 ·obtain⟨O,h⟩:=I.base.tbls b ps e;obtain⟨K,B⟩:=tbls b _ h;exact⟨O++K,by simp_all⟩
 ·obtain⟨m,N,L⟩:=I.loc;refine⟨m,ns m N,λi x v h B M=>?_⟩;obtain⟨u,r,l⟩:=L i x v h B M;refine⟨u,r,?_⟩;rcases l with l|⟨k,c,e,z⟩
  ·exact .inl l
  ·exact .inr ⟨k,c,e,f x c e _ z⟩
 ·obtain⟨v,z⟩:=I.cell x c e;exact⟨v,f x c e v z⟩
 ·obtain⟨m,⟨o,_,_,y,_⟩,_⟩:=I.loc;exact free _ o (λz=>(hch _ z).2.1 rfl) y I.free
 ·obtain⟨v,o,y,D⟩:=I.cell x c e;exact free c o (λz=>(hch c z).2.2.1 x c e rfl) y (I.freeC x c e)
 ·obtain⟨e,n,G,E,d⟩:=I.pin p F;have g:=λz=>(hch p.1 z).2.2.2 p F rfl;exact⟨keep p.1 p.2 G E g e n,free p.1 p.2 g e n,G,E,d⟩
theorem Inv.un{t':Nat}(I:Inv X h_ σ H s)(u:Un X.fs [] H H' s.heap h')(hok:HOk X.prog X.w H' h'):Inv X h_ σ H' {s with heap:=h',toks:=t'}:=by
 obtain⟨m,⟨o,k,p,g,r⟩,_⟩:=id I.loc;obtain⟨q,h⟩:=u.any g I.free (by simp);exact I.step (ch:=[]) (λ_ z=>nomatch z) (λb o _ d _ e n=>u.keep b o e n d (by simp)) (λb o _ d _ e n=>u.slot b o e n d (by simp)) (λb o _ e n=>u.free b o e n (by simp)) (λb o _ e=>u.there b o e (by simp)) u.tups u.frzs u.tbls (λm' i=>by
  obtain⟨l,f,c,a,j⟩:=i;rw[g]at a;cases a;exact⟨_,f,c,h,j⟩) hok I.bare
theorem Inv.call{g':Array GenState}{t':Nat}{d':Drawn}{ch:List z_}(I:Inv X h_ σ H s)(u:Un (gS X.stack) ch H H' s.heap h')(hok:HOk X.prog X.w H' h')(hg:AllBare g')
  (hch:∀b∈ch,(b∈X.ex\/X.s₀.heap.objs.size<=b)/\b≠X.env.locals/\(∀x c,X.env.cells.lookup x=ae c->c≠b)/\∀p∈X.pn++h_,p.1≠b):
  Inv X h_ σ H' {s with heap:=h',gens:=g',drawn:=d',toks:=t'}:=by
 obtain⟨m,⟨o,q,v,i,r⟩,_⟩:=id I.loc;obtain⟨y,f⟩:=u.any i I.free λz=>(hch _ z).2.1 rfl;exact I.step hch (λb o f l a e n=>u.keep b o e n (λz=>(Au.mp (I.stkSub b z)).elim f l) a) (λb o _ _ a e n=>u.any e n a) (λb o a e n=>u.free b o e n a) (λb o a e=>u.there b o e a) u.tups u.frzs u.tbls (λm' j=>by
  obtain⟨t,h,g,d,k⟩:=j;rw[i]at d;cases d;exact⟨_,h,g,f,k⟩) hok hg
theorem Inv.turned{t':Nat}{it:z_}(I:Inv X h_ σ H s)(k:∀b o,b≠it->s.heap.get? b=ae o->h'.get? b=ae o)(hn:H it=af)(hL:it≠X.env.locals)
  (h1:it∈X.ex\/X.s₀.heap.objs.size<=it) (h2:∀x c,X.env.cells.lookup x=ae c->c≠it) (h3:∀p∈X.pn++h_,p.1≠it):Inv X h_ σ H {s with heap:=h',toks:=t'}:=by
 have d:∀b u,H b=ae u->b≠it:=λb u e z=>by simp_all
 refine I.step (ch:=[it]) (λb j=>?_) (λb o _ _ a e _=>k b o (λz=>a (by simp[z])) e) (λb o _ _ a e _=>⟨_,k b o (λz=>a (by simp[z])) e⟩) (λ_ _ _ _ n=>n)
  (λb o a e=>⟨o,k b o (λz=>a (by simp[z])) e⟩) (λ_ _ e=>e) (λ_ _ _ e=>e) (λb l e=>⟨#[],by rw[e];simp⟩) (λm f=>?_) (λb u e=>?_) I.bare
 ·have e:=by simpa using j
  subst e;exact⟨h1,hL,h2,h3⟩
 ·obtain⟨o,g,i,h,r⟩:=f;exact⟨o,g,i,k _ o (Ne.symm hL) h,r⟩
 ·refine(I.hok b u e).stay (λc v a q=>k c v ?_ q) (λ_ q=>q) λ_ _ q=>q;rcases a with z|z
  ·rw[z];exact d b u e
  ·exact d c _ z
theorem Inv.tok(I:Inv X h_ σ H s)(t:Nat):Inv X h_ σ H {s with toks:=t}:=I.un Un.refl I.hok
theorem Inv.kept{t':Nat}(I:Inv X h_ σ H s)(k:∀b u,s.heap.get? b=ae u->h'.get? b=ae u):Inv X h_ σ H {s with heap:=h',toks:=t'}:=I.un (Un.kept k) (I.hok.kept k)
theorem Inv.laid{a:z_}{o:HO}{t':Nat}(I:Inv X h_ σ H s)(k:∀b u,s.heap.get? b=ae u->h'.get? b=ae u)(hp:s.heap.objs.size<=a)(new:ObjOk X.prog X.w (upd H a o) h' a o):
  Inv X h_ σ (upd H a o) {s with heap:=h',toks:=t'}:=I.un (Un.laid k hp (I.hok.fresh hp)) (I.hok.laid k hp new)
theorem Inv.write{x e:z_}{o:HO}{t':Nat}(I:Inv X h_ σ H s)(mu:ny (H x))(he:e=x\/H e=ae (.own x))(k:∀b u,b≠e->s.heap.get? b=ae u->h'.get? b=ae u)(heo:∃u,h'.get? e=ae u)
  (new:ObjOk X.prog X.w (upd H x o) h' x o):Inv X h_ σ (upd H x o) {s with heap:=h',toks:=t'}:=I.un (Un.write mu he k heo) (I.hok.write mu he k heo new)
theorem Inv.pins_of{pins':List (z_×Obj)}(I:Inv X h_ σ H s)(h:∀p∈pins',s.heap.get? p.1=ae p.2/\H p.1=af/\p.1≠X.env.locals/\p.1∉X.fs/\∀v,p.2.data≠.cell v):Inv X pins' σ H s:=
 ⟨I.ok,I.os,I.bare,I.base,I.loc,I.cell,I.free,I.freeC,λp a=>(A7.mp a).elim (λz=>I.pin p (Da _ z)) (h p),I.hok,I.len⟩
theorem EU{N:List Str}(hN:N.Nodup){i j:Nat}{x:Str}(a:N[i]?=ae x)(b:N[j]?=ae x):i=j:=by
 obtain⟨f,d⟩:=Aq.mp a;obtain⟨e,c⟩:=Aq.mp b;exact(Fb hN).mp (d.trans c.symm)
theorem xQ{M:Model}{A:Bt}{E:Af->Aj->Prop}{i:Nat}{x:Str}{v:V}{u:Af}{Q:Unit->Aj->Prop}(I:Inv X h_ σ H s)(hN:X.N.Nodup)(hi:X.N[i]?=ae x)(hx:eZ X.env.scope x)(r:RelV v u)
  (h:∀s',Inv X h_ (σ.set i (ae v)) H s'->(∃a,Cz a s.heap s'.heap/\(a=X.env.locals\/X.env.cells.lookup x=ae a))->Q () s') (hf:X.fn x=ah\/X.env.scope.names.lookup x=ae .local:=by first|exact .inl rfl|exact .inr rfl|assumption):A6 M A (storeName X.env x u) Q E s:=by
 obtain⟨m,hn,hl⟩:=id I.loc;have O:(X.env.scope.kind==.class || (X.env.scope.kind==.module&&X.env.locals != X.env.globals))=ai:=by rw[I.ok.kind];rfl
 have R:i < σ.length:=by rw[I.len];exact(Aq.mp hi).1
 have L:=I.cne;have l:∀{a:z_}{h':Heap},(∃o,s.heap.get? a=ae o/\H a=af)->Cz a s.heap h'->HOk X.prog X.w H h':=λ{a h'} ha f b ob e=>by
  obtain⟨_,_,C⟩:=ha;refine(I.hok b ob e).stay (λc w' B q=>(f.2 c ?_).trans q) (λ_ q=>q) λ_ _ q=>q
  rintro rfl
  rcases B with rfl|B
  ·rw[C]at e;cases e
  ·rw[C]at B;trivial
 rcases hx with G|G
 ·refine wpAny_storeName_local G hn (λh' hn' f=>?_) O;obtain⟨oL,_,_,hoL,_⟩:=id hn;refine h _ ⟨I.ok,I.os,I.bare,⟨λb o e n K hx=>?_,λb o e n K hx=>?_,I.base.free,λb o e hx=>?_,I.base.tups,I.base.frzs,I.base.tbls⟩,⟨_,hn',λj y v' t D e3=>?_⟩,λy c e=>?_,I.free,I.freeC,λp hp=>?_,l ⟨oL,hoL,I.free⟩ f,by simpa using I.len⟩ ⟨_,f,.inl rfl⟩
  ·exact(f.2 b (Be (Bi (As e) I.ok.above))).trans (I.base.keep b o e n K hx)
  ·obtain⟨sl,t⟩:=I.base.slot b o e n K hx;exact⟨sl,(f.2 b (Be (Bi (As e) I.ok.above))).trans t⟩
  ·obtain⟨o',t⟩:=I.base.there b o e hx;exact⟨o',(f.2 b (Be (Bi (As e) I.ok.above))).trans t⟩
  ·by_cases J:j=i
   ·subst J;rw[hi]at t;cases t;rw[Df R]at D;cases D;exact⟨u,r,.inl ⟨G,by simp⟩⟩
   ·rw[Bf (Ne.symm J)]at D;obtain⟨Z,r',q⟩:=hl j y v' t D e3;refine⟨Z,r',?_⟩;rcases q with⟨k,e⟩|⟨k,c,e,z⟩
    ·refine .inl ⟨k,?_⟩;have:y≠x:=λe=>J (EU hN t (e▸hi));simp[this,e]
    ·exact .inr ⟨k,c,e,z.sameBut f (L y c e)⟩
  ·obtain⟨w',z⟩:=I.cell y c e;exact⟨w',z.sameBut f (L y c e)⟩
  ·obtain⟨e,n,T,Y,d⟩:=I.pin p hp;exact⟨(f.2 p.1 T).trans e,n,T,Y,d⟩
 ·have F:X.fn x=ah:=by
   rcases hf with z|z
   ·exact z
   ·rw[z]at G;trivial
  obtain⟨c,B⟩:=I.ok.has x (.inl G);obtain⟨w',z⟩:=I.cell x c B;refine wpAny_storeName_cell I.ok.kind G B z (λh' S f=>?_);obtain⟨oc,hoc,hocd⟩:=id z;refine h {s with heap:=h'} ⟨I.ok,I.os,I.bare,⟨λb o e n K hx=>?_,λb o e n K hx=>?_,I.base.free,λb o e hx=>?_,I.base.tups,I.base.frzs,I.base.tbls⟩,⟨m,hn.sameBut f (Ne.symm (L x c B)),λj y v' t D e3=>?_⟩,λy U e=>?_,I.free,I.freeC,λp hp=>?_,l ⟨oc,hoc,I.freeC x c B⟩ f,by simpa using I.len⟩ ⟨c,f,.inr B⟩
  ·exact(f.2 b (Be (Bi (As e) (I.ok.cab x c F B)))).trans (I.base.keep b o e n K hx)
  ·obtain⟨sl,t⟩:=I.base.slot b o e n K hx;exact⟨sl,(f.2 b (Be (Bi (As e) (I.ok.cab x c F B)))).trans t⟩
  ·obtain⟨o',t⟩:=I.base.there b o e hx;exact⟨o',(f.2 b (Be (Bi (As e) (I.ok.cab x c F B)))).trans t⟩
  ·by_cases J:j=i
   ·subst J;rw[hi]at t;cases t;rw[Df R]at D;cases D;exact⟨u,r,.inr ⟨.inl G,c,B,S⟩⟩
   ·rw[Bf (Ne.symm J)]at D;obtain⟨Z,r',q⟩:=hl j y v' t D e3;refine⟨Z,r',?_⟩;rcases q with q|⟨k,U,e,z'⟩
    ·exact .inl q
    ·refine .inr ⟨k,U,e,z'.sameBut f ?_⟩
     rintro rfl
     exact J (EU hN t (I.ok.inj _ _ _ e B▸hi))
  ·by_cases P:U=c
   ·subst P;exact⟨_,S⟩
   ·obtain⟨w2,z2⟩:=I.cell y U e;exact⟨w2,z2.sameBut f P⟩
  ·obtain⟨e,n,T,Y,d⟩:=I.pin p hp;refine⟨(f.2 p.1 ?_).trans e,n,T,Y,d⟩;intro q;simp_all
theorem yw{M:Model}{A:Bt}{E:Af->Aj->Prop}{i:Nat}{x:Str}{v:V}{u:Af}{Q:Unit->Aj->Prop}(I:Inv X h_ σ H s)(hN:X.N.Nodup)(hi:X.N[i]?=ae x)(hx:eZ X.env.scope x)(r:RelV v u)
  (h:∀s',Inv X h_ (σ.set i (ae v)) H s'->Q () s') (hf:X.fn x=ah\/X.env.scope.names.lookup x=ae .local:=by first|exact .inl rfl|exact .inr rfl|assumption):A6 M A (storeName X.env x u) Q E s:=
 xQ I hN hi hx r (λs' a _=>h s' a) hf
theorem Inv.call'{s':Aj}{ch:List z_}(I:Inv X h_ σ H s)(ho:s'.os=s.os)(u:Un (gS X.stack) ch H H' s.heap s'.heap)(hok:HOk X.prog X.w H' s'.heap)(hg:AllBare s'.gens)
  (hch:∀b∈ch,(b∈X.ex\/X.s₀.heap.objs.size<=b)/\b≠X.env.locals/\(∀x c,X.env.cells.lookup x=ae c->c≠b)/\∀p∈X.pn++h_,p.1≠b):Inv X h_ σ H' s':=by
 obtain⟨a,_⟩:=s';subst ho;exact I.call u hok hg hch
end
abbrev XK:=Af->Option z_->Hp->Prop
abbrev St:=List (Option V)
abbrev VK:=V->Hp->Prop
abbrev TE:=St->Hp->VK->Prop
abbrev TT:=St->Hp->(Bool->Hp->Prop)->Prop
abbrev TA:=St->Hp->(List V->Hp->Prop)->Prop
structure Ends where
 nx:St->Hp->Prop
 rt:VK
 bk:St->Hp->Prop:=λ_ _=>False
 ct:St->Hp->Prop:=λ_ _=>False
abbrev TS:=Ends->St->Hp->Prop
def EP(X:Cx)(h_:List (z_×Obj))(σ:St)(Q:VK)(u:Af)(s':Aj):Prop:=∃v H',Inv X h_ σ H' s'/\RelV v u/\Q v H'
def TP(X:Cx)(h_:List (z_×Obj))(σ:St)(Q:Bool->Hp->Prop)(b:Bool)(s':Aj):Prop:=∃H',Inv X h_ σ H' s'/\Q b H'
def AP(X:Cx)(h_:List (z_×Obj))(σ:St)(Q:List V->Hp->Prop)(us:List Af)(s':Aj):Prop:=∃vs H',Inv X h_ σ H' s'/\Vals vs us/\Q vs H'
def SP(X:Cx)(h_:List (z_×Obj))(D:Ends)(f:Flow)(s':Aj):Prop:=
 match f with
 |.next=>∃σ' H',Inv X h_ σ' H' s'/\D.nx σ' H'
 |.brk=>∃σ' H',Inv X h_ σ' H' s'/\D.bk σ' H'
 |.cont=>∃σ' H',Inv X h_ σ' H' s'/\D.ct σ' H'
 |.ret u=>∃v σ' H',Inv X h_ σ' H' s'/\RelV v u/\D.rt v H'
def PE(X:Cx)(e:Expr)(t:TE):Prop:=
 ∀(h_:List (z_×Obj))(s:Aj)(σ:St)(H:Hp)(Q:VK),Inv X h_ σ H s->t σ H Q->A6 (A9 X.prog X.w) X.A (eval e X.env) (EP X h_ σ Q) X.xe s
def PT(X:Cx)(e:Expr)(t:TT):Prop:=
 ∀(h_:List (z_×Obj))(s:Aj)(σ:St)(H:Hp)(Q:Bool->Hp->Prop),Inv X h_ σ H s->t σ H Q->A6 (A9 X.prog X.w) X.A (isTrue e X.env (eval e X.env)) (TP X h_ σ Q) X.xe s
def PW(X:Cx)(e:Expr)(t:TT):Prop:=
 ∀(whole:Sem Af)(h_:List (z_×Obj))(s:Aj)(σ:St)(H:Hp)(Q:Bool->Hp->Prop),Inv X h_ σ H s->t σ H Q->A6 (A9 X.prog X.w) X.A (isTrue e X.env whole) (TP X h_ σ Q) X.xe s
theorem PW.pt{X:Cx}{e:Expr}{t:TT}(h:PW X e t):PT X e t:=h _
def PA(X:Cx)(es:List Expr)(t:TA):Prop:=
 ∀(pos:Pos)(h_:List (z_×Obj))(s:Aj)(σ:St)(H:Hp)(Q:List V->Hp->Prop),Inv X h_ σ H s->t σ H Q->A6 (A9 X.prog X.w) X.A (spliced (Cp pos (Ar es X.env))) (AP X h_ σ Q) X.xe s
def PS(X:Cx)(st:Stmt)(t:TS):Prop:=
 ∀(h_:List (z_×Obj))(s:Aj)(σ:St)(H:Hp)(D:Ends),Inv X h_ σ H s->t D σ H->A6 (A9 X.prog X.w) X.A (exec st X.env) (SP X h_ D) X.xe s
def PSs(X:Cx)(st:List Stmt)(t:TS):Prop:=
 ∀(h_:List (z_×Obj))(s:Aj)(σ:St)(H:Hp)(D:Ends),Inv X h_ σ H s->t D σ H->A6 (A9 X.prog X.w) X.A (execs st X.env) (SP X h_ D) X.xe s
theorem aO{α:Type}{t:Sem α}{Q Q':α->Aj->Prop}{M:Model}{A:Bt}{E:Af->Aj->Prop}{s:Aj}(h:A6 M A t Q E s)(hQ:∀a s,Q a s->Q' a s):A6 M A t Q' E s:=Dc h hQ λ_ _ x=>x
section
variable{X:Cx}
theorem TC{a b:Expr}{ta tb:TE}(ha:PE X a ta)(hb:PE X b tb){h_:List (z_×Obj)}{s:Aj}{σ:St}{H:Hp}{R:V->V->Hp->Prop}(I:Inv X h_ σ H s)(h:ta σ H λx H1=>tb σ H1 λy H2=>R x y H2)
  {α:Type} {Q:α->Aj->Prop} {f:Af->Af->Sem α}
  (hf:∀v u s2 x y H2,Inv X h_ σ H2 s2->RelV x v->RelV y u->R x y H2->A6 (A9 X.prog X.w) X.A (f v u) Q X.xe s2):
  A6 (A9 X.prog X.w) X.A (eval a X.env) (λv r_=>A6 (A9 X.prog X.w) X.A (eval b X.env) (λu s_=>A6 (A9 X.prog X.w) X.A (f v u) Q X.xe s_) X.xe r_) X.xe s:=by
 refine aO (ha h_ s σ H _ I h) λv g ⟨x,H1,d,i,c⟩=>aO (hb h_ g σ H1 _ d c) λu s2 w=>?_;obtain⟨y,H2,e,k,j⟩:=w;exact hf v u s2 x y H2 e i k j
def aM(i:Nat):TE:=λσ H Q=>∃v,σ[i]?=ae (ae v)/\Q v H
def tC(v:V):TE:=λ_ H Q=>Q v H
theorem fm{i:Nat}{x:Str}{pos:Pos}(hN:X.N[i]?=ae x)(hv:ej X.env.scope x)(hd:(x==("__debug__":Str))=ai:=by decide)(q_:(x==("__classdict__":Str))=ai:=by decide):PE X (.Name x pos) (aM i):=by
 intro f s σ H Q I h;obtain⟨v,e,h⟩:=h;obtain⟨m,n,j⟩:=I.loc;obtain⟨u,r,l⟩:=j i x v hN e hv;have d:EP X f σ Q u s:=⟨v,H,I,r,h⟩;rcases l with⟨b,k⟩|⟨b,c,g,a⟩
 ·exact wpAny_Name (wpAny_loadName_local I.ok.kind b n k d) hd
 ·rcases b with b|b
  ·exact wpAny_Name (wpAny_loadName_cell I.ok.kind b g a d) hd
  ·exact wpAny_Name (wpAny_loadName_free I.ok.kind b g a d q_) hd
theorem b8{i j pos}:PE X (.Constant (.int i) j pos) (tC (.int i)):=λ_ _ _ H _ I h=>wpAny_Constant_int ⟨.int i,H,I.tok _,⟨_,rfl⟩,h⟩
theorem zF{b j pos}:PE X (.Constant (.bool b) j pos) (tC (.bl b)):=λ_ _ _ H _ I h=>Constant_bool ⟨.bl b,H,I,rfl,h⟩
theorem kD{j pos}:PE X (.Constant .none j pos) (tC .non):=λ_ _ _ H _ I h=>Constant_none ⟨.non,H,I,rfl,h⟩
theorem IX{x j pos}:PE X (.Constant (.str x) j pos) (tC (.str x)):=λ_ _ _ H _ I h=>Calls.Constant_str ⟨.str x,H,I.tok _,⟨_,rfl⟩,h⟩
def Gl(X:Cx)(x:Str):Prop:=X.env.kindOf x=ae .globalImplicit
theorem wQ{E:Af->Aj->Prop}{h_:List (z_×Obj)}{s:Aj}{σ:St}{H:Hp}{x:Str}{u:Af}{pos:Pos}{Q:Af->Aj->Prop}(I:Inv X h_ σ H s)(hg:Gl X x)(hm:X.mg x=ae u)(h:Q u s)
  (hd:(x==("__debug__":Str))=ai:=by decide):A6 (A9 X.prog X.w) X.A (eval (.Name x pos) X.env) Q E s:=
 Calls.Name_function_global I.ok.kind hg (Calls.loadGlobal_global (by rw[I.ok.glob];exact I.mod.glob.keeps I.bk) hm h) hd
theorem jv{E:Af->Aj->Prop}{h_:List (z_×Obj)}{s:Aj}{σ:St}{H:Hp}{x:Str}{u:Af}{pos:Pos}{Q:Af->Aj->Prop}(I:Inv X h_ σ H s)(hg:Gl X x)(hm:X.mg x=af)(hv:Bm x=ae u)(h:Q u s)
  (hn:x≠"__name__":=by decide) (hd:(x==("__debug__":Str))=ai:=by decide):A6 (A9 X.prog X.w) X.A (eval (.Name x pos) X.env) Q E s:=by
 obtain⟨c,b,a⟩:=I.mod.blt;exact Calls.Name_function_global I.ok.kind hg (Calls.loadGlobal_builtin (by rw[I.ok.glob];exact I.mod.glob.keeps I.bk) hm (by rw[I.ok.blt];exact b.keeps I.bk) ((a x hn).trans hv) h) hd
theorem tS{x:Str}{v:V}{u:Af}{pos:Pos}(hg:Gl X x)(hm:X.mg x=ae u)(r:RelV v u)(hd:(x==("__debug__":Str))=ai:=by decide):PE X (.Name x pos) (tC v):=
 λ_ _ _ H _ I h=>wQ I hg hm ⟨v,H,I,r,h⟩ hd
theorem Nw{x:Str}{v:V}{u:Af}{pos:Pos}(hg:Gl X x)(hm:X.mg x=af)(hv:Bm x=ae u)(r:RelV v u)(hn:x≠"__name__":=by decide)(hd:(x==("__debug__":Str))=ai:=by decide):PE X (.Name x pos) (tC v):=
 λ_ _ _ H _ I h=>jv I hg hm hv ⟨v,H,I,r,h⟩ hn hd
variable{a b:Expr}{ta tb:TE}{pos:Pos}
def PC(X:Cx)(op:CmpOp)(a b:Expr)(t:TE):Prop:=
 ∀(h_:List (z_×Obj))(s:Aj)(σ:St)(H:Hp)(Q:VK),Inv X h_ σ H s->t σ H Q->
  A6 (A9 X.prog X.w) X.A (eval a X.env) (λv r_=>A6 (A9 X.prog X.w) X.A (eval b X.env) (λu s_=>A6 (A9 X.prog X.w) X.A (Bv op v u) (EP X h_ σ Q) X.xe s_) X.xe r_) X.xe s
theorem zx(b:Expr){op:CmpOp}(h:op≠.In)(h2:op≠.NotIn):Cg op b=ai:=by
 have c:(op==CmpOp.In)=ai:=by cases op<;>first|rfl|exact f_ rfl h
 have a:(op==CmpOp.NotIn)=ai:=by cases op<;>first|rfl|exact f_ rfl h2
 cases b<;>simp[Cg,c,a]
def tB(t:TE):TT:=λσ H Q=>t σ H λx H1=>∃c,x=.bl c/\Q c H1
theorem AG{op:CmpOp}{t:TE}(h:PC X op a b t)(h1:Cg op b=ai:=by first|exact zx _ ∎ ∎|rfl):PE X (.Compare a [op] [b] pos) t:=λh_ s σ H Q I d=>wpAny_Compare1 (h h_ s σ H Q I d) h1
theorem BM{op:CmpOp}{t:TE}(h:PC X op a b t)(h1:Cg op b=ai:=by first|exact zx _ ∎ ∎|rfl):PT X (.Compare a [op] [b] pos) (tB t):=by
 intro e s σ H Q I k;refine wpAny_isTrue_Compare1 (aO (h e s σ H _ I k) λv n h1=>aO h1 λu m f=>aO f λc o u=>?_) h1;obtain⟨x,i,j,l,g⟩:=u;obtain⟨d,rfl,q⟩:=g;cases l;exact C7 ⟨i,j,q⟩
theorem AO{e:Expr}{t:TE}(h:PE X e t)(he:∀whole,isTrue e X.env whole=(do let v <-whole;standAt e.pos;holding [v] (truthy v)):=by intro _;rfl):PT X e (tB t):=by
 intro a s σ H Q I f;refine isTrue_plain (aO (h a s σ H _ I f) λv j u=>?_) (he _);obtain⟨x,i,c,g,b⟩:=u;obtain⟨d,rfl,q⟩:=b;cases g;exact C7 ⟨i,c,q⟩
variable{tA tB':TT}{aC:List Expr}
def jY(t u:TT):TT:=λσ H Q=>t σ H λc H1=>if c=ah then u σ H1 Q else Q ai H1
def CP(t u:TT):TT:=λσ H Q=>t σ H λc H1=>if c=ah then Q ah H1 else u σ H1 Q
def jU(t:TT):TT:=λσ H Q=>t σ H λc H1=>Q (!c) H1
theorem z7(ha:PT X a tA):PW X (.BoolOp .And [a] pos) tA:=by
 intro d b s σ H Q I h;refine isTrue_and (aO (ha b s σ H Q I h) λc f e=>?_);cases c with
 |true=>exact isTrue_and_nil e
 |false=>exact e
theorem LU(ha:PT X a tA):PW X (.BoolOp .Or [a] pos) tA:=by
 intro d b s σ H Q I h;refine isTrue_or (aO (ha b s σ H Q I h) λc f e=>?_);cases c with
 |false=>exact isTrue_or_nil e
 |true=>exact e
theorem yq(ha:PT X a tA)(hb:PW X (.BoolOp .And (b::aC) pos) tB'):PW X (.BoolOp .And (a::b::aC) pos) (jY tA tB'):=by
 intro i d s σ H Q I h;refine isTrue_and (aO (ha d s σ H _ I h) λc j u=>?_);obtain⟨g,f,e⟩:=u;cases c with
 |true=>exact hb i d j σ g Q f e
 |false=>exact⟨g,f,e⟩
theorem HJ(ha:PT X a tA)(hb:PW X (.BoolOp .Or (b::aC) pos) tB'):PW X (.BoolOp .Or (a::b::aC) pos) (CP tA tB'):=by
 intro i d s σ H Q I h;refine isTrue_or (aO (ha d s σ H _ I h) λc j u=>?_);obtain⟨g,f,e⟩:=u;cases c with
 |true=>exact⟨g,f,e⟩
 |false=>exact hb i d j σ g Q f e
theorem EY(ha:PT X a tA):PT X (.UnaryOp .Not a pos) (jU tA):=λh_ s σ H Q I h=>isTrue_not (ha h_ s σ H _ I h)
def AW(ta tb:TE):TE:=λσ H Q=>ta σ H λx H1=>∃c,x=.bl c/\if c=ah then tb σ H1 Q else Q (.bl ai) H1
def nW(ta tb:TE):TE:=λσ H Q=>ta σ H λx H1=>∃c,x=.bl c/\if c=ah then Q (.bl ah) H1 else tb σ H1 Q
def xM(ta:TE):TE:=λσ H Q=>ta σ H λx H1=>∃c,x=.bl c/\Q (.bl (!c)) H1
theorem O4{op}{t:TE}(h:PE X a t):PE X (.BoolOp op [a] pos) t:=λh_ s σ H Q I c=>BoolOp_one (h h_ s σ H Q I c)
theorem M7(ha:PE X a ta)(hb:PE X (.BoolOp .And (b::aC) pos) tb):PE X (.BoolOp .And (a::b::aC) pos) (AW ta tb):=by
 intro d s σ H Q I h;refine BoolOp_and (aO (ha d s σ H _ I h) λv j u=>?_);obtain⟨x,f,g,i,e⟩:=u;obtain⟨c,rfl,e⟩:=e;cases i;refine C7 ?_;cases c with
 |true=>exact hb d j σ f Q g e
 |false=>exact⟨.bl ai,f,g,rfl,e⟩
theorem OG(ha:PE X a ta)(hb:PE X (.BoolOp .Or (b::aC) pos) tb):PE X (.BoolOp .Or (a::b::aC) pos) (nW ta tb):=by
 intro d s σ H Q I h;refine BoolOp_or (aO (ha d s σ H _ I h) λv j u=>?_);obtain⟨x,f,g,i,e⟩:=u;obtain⟨c,rfl,e⟩:=e;cases i;refine C7 ?_;cases c with
 |false=>exact hb d j σ f Q g e
 |true=>exact⟨.bl ah,f,g,rfl,e⟩
theorem He(ha:PE X a ta):PE X (.UnaryOp .Not a pos) (xM ta):=by
 intro b s σ H Q I h;refine UnaryOp_ (aO (ha b s σ H _ I h) λv i u=>?_);obtain⟨x,g,e,f,d⟩:=u;obtain⟨c,rfl,d⟩:=d;cases f;exact not_of (C7 ⟨.bl _,g,e,rfl,d⟩)
def yK(t:TT)(ta tb:TE):TE:=λσ H Q=>t σ H λc H1=>if c=ah then ta σ H1 Q else tb σ H1 Q
theorem GL{c:Expr}(hc:PT X c tA)(ha:PE X a ta)(hb:PE X b tb):PE X (.IfExp c a b pos) (yK tA ta tb):=by
 intro e s σ H Q I h;refine wpAny_IfExp (aO (hc e s σ H _ I h) λd i u=>?_);obtain⟨j,g,f⟩:=u;cases d with
 |true=>exact ha e i σ j Q g f
 |false=>exact hb e i σ j Q g f
end
def SqL(K:Ag)(H:Hp)(a:z_)(xs:List V):Prop:=
 Rd H a (.lst xs) \/
  ∃(o:Obj)(i_:Array Af)(n:Nat),K.lookup a=ae o/\o.cls=.type "list"/\o.dict=af/\o.data=.seq i_ n/\i_.size<=Aw/\Vals xs i_.toList
def SqT(K:Ag)(H:Hp)(a:z_)(xs:List V):Prop:=
 Rd H a (.tup xs) \/
  ∃(o:Obj)(i_:Array Af)(n:Nat),K.lookup a=ae o/\o.cls=.type "tuple"/\o.data=.seq i_ n/\i_.size<=Aw/\Vals xs i_.toList
def t7:Af->Option V
 |.none=>ae .non
 |.bool b=>ae (.bl b)
 |.int i _=>ae (.int i)
 |.str x _=>ae (.str x)
 |.bytes b _=>ae (.byt b)
 |.float b _=>ae (.flt b)
 |.ref a=>ae (.ref a)
 |.type n=>ae (.ty n)
 |_=>af
theorem RelV.abs{x:V}{u:Af}(r:RelV x u):t7 u=ae x:=by
 cases x with
 |non=>cases r;rfl
 |bl _=>cases r;rfl
 |int _=>obtain⟨t,rfl⟩:=r;rfl
 |str _=>obtain⟨t,rfl⟩:=r;rfl
 |byt _=>obtain⟨t,rfl⟩:=r;rfl
 |flt _=>obtain⟨t,rfl⟩:=r;rfl
 |ref _=>cases r;rfl
 |ty _=>cases r;rfl
theorem RelV.inj{x y:V}{u:Af}(r:RelV x u)(q:RelV y u):x=y:=Bq (r.abs.symm.trans q.abs)
theorem Vals.inj:∀{xs ys:List V}{us:List Af},Vals xs us->Vals ys us->xs=ys
 |_,_,_,.nil,.nil=>rfl
 |_,_,_,.cons r t,.cons b a=>by rw[r.inj b,Vals.inj t a]
section
variable{X:Cx}{h_:List (z_×Obj)}{σ:St}{H:Hp}{s:Aj}{a:z_}{xs ys:List V}
theorem SqL.of{K:Ag}(h:H a=ae (.lst xs)):SqL K H a xs:=.inl (.inl h)
theorem SqT.of{K:Ag}(h:H a=ae (.tup xs)):SqT K H a xs:=.inl (.inl h)
theorem Inv.list(I:Inv X h_ σ H s)(h:SqL X.K H a xs):∃i_:List Af,Vals xs i_/\PlainL s.heap a i_.toArray/\xs.length<=Aw:=by
 rcases h with h|⟨o,i_,n,d,b,c,f,g,r⟩
 ·obtain⟨z,i_,n,r,e⟩:=h.ok I.hok;exact⟨i_,r,⟨_,n,e,rfl,rfl,rfl⟩,z⟩
 ·refine⟨_,r,⟨o,n,I.kIn a o d,b,c,by omega⟩,?_⟩;have e:=r.length;simp only[B6]at e;omega
theorem Inv.tuple(I:Inv X h_ σ H s)(h:SqT X.K H a xs):∃i_:List Af,Vals xs i_/\IsTup s.heap a i_.toArray/\xs.length<=Aw:=by
 rcases h with h|⟨o,i_,n,c,b,d,f,r⟩
 ·obtain⟨z,i_,r,p⟩:=h.ok I.hok;exact⟨i_,r,p.tup,z⟩
 ·refine⟨_,r,⟨o,I.kIn a o c,b,n,by omega⟩,?_⟩;have e:=r.length;simp only[B6]at e;omega
theorem Inv.list_inj(I:Inv X h_ σ H s)(h:SqL X.K H a xs)(h':SqL X.K H a ys):xs=ys:=by
 obtain⟨j,r,⟨o,n,e,_,_,d⟩,_⟩:=I.list h;obtain⟨b,g,⟨k,l,c,_,_,f⟩,_⟩:=I.list h';rw[e]at c;cases c;rw[d]at f;injection f with i _;have:=by simpa using congrArg Array.toList i
 subst this;exact r.inj g
theorem Inv.tuple_inj(I:Inv X h_ σ H s)(h:SqT X.K H a xs)(h':SqT X.K H a ys):xs=ys:=by
 obtain⟨j,r,⟨o,e,_,n,d⟩,_⟩:=I.tuple h;obtain⟨b,g,⟨k,c,_,l,f⟩,_⟩:=I.tuple h';rw[e]at c;cases c;rw[d]at f;injection f with i _;have:=by simpa using congrArg Array.toList i
 subst this;exact r.inj g
end
abbrev Cx.wish(X:Cx)(E:Af->Aj->Prop):Cx:={ X with xe:=E}
abbrev Cx.nox(X:Cx):Cx:=X.wish λ_ _=>False
theorem Cx.Ok.wish{X:Cx}(ok:X.Ok)(E:Af->Aj->Prop):(X.wish E).Ok:=
 ⟨ok.mod,ok.kind,ok.glob,ok.blt,ok.above,ok.inj,ok.has,ok.cab,ok.hd,ok.frames,ok.stk,ok.exf,ok.bs,ok.bsz,ok.noex,ok.exfs,ok.funs,ok.frf⟩
theorem Cx.Ok.unwish{X:Cx}{E:Af->Aj->Prop}(ok:(X.wish E).Ok):X.Ok:=
 ⟨ok.mod,ok.kind,ok.glob,ok.blt,ok.above,ok.inj,ok.has,ok.cab,ok.hd,ok.frames,ok.stk,ok.exf,ok.bs,ok.bsz,ok.noex,ok.exfs,ok.funs,ok.frf⟩
section
variable{X:Cx}{h_:List (z_×Obj)}{σ:St}{H:Hp}{s:Aj}{E:Af->Aj->Prop}
theorem Inv.wish(I:Inv X h_ σ H s)(E:Af->Aj->Prop):Inv (X.wish E) h_ σ H s:=⟨I.ok.wish E,I.os,I.bare,I.base,I.loc,I.cell,I.free,I.freeC,I.pin,I.hok,I.len⟩
theorem Inv.unwish(I:Inv (X.wish E) h_ σ H s):Inv X h_ σ H s:=⟨I.ok.unwish,I.os,I.bare,I.base,I.loc,I.cell,I.free,I.freeC,I.pin,I.hok,I.len⟩
theorem SP.unwish{D:Ends}{f:Flow}{s':Aj}(h:SP (X.wish E) h_ D f s'):SP X h_ D f s':=by
 cases f with
 |next=>obtain⟨b,a,I,q⟩:=h;exact⟨b,a,I.unwish,q⟩
 |brk=>obtain⟨b,a,I,q⟩:=h;exact⟨b,a,I.unwish,q⟩
 |cont=>obtain⟨b,a,I,q⟩:=h;exact⟨b,a,I.unwish,q⟩
 |ret u=>obtain⟨v,b,a,I,r,q⟩:=h;exact⟨v,b,a,I.unwish,r,q⟩
theorem PSs.nox{st:List Stmt}{t:TS}(h:PSs X.nox st t):PSs X st t:=λh_ s σ H D I b=>
 Dc (h h_ s σ H D (I.wish _) b) (λ_ _ q=>q.unwish) λ_ _ z=>False.elim z
end
section
variable{X:Cx}{st:Stmt}{aC:List Stmt}{t u:TS}{e:Expr}{te:TE}{pos:Pos}
def nh:TS:=λD σ H=>D.nx σ H
def eU(t u:TS):TS:=λD σ H=>t {D with nx:=u D} σ H
theorem mF:PSs X [] nh:=λ_ _ σ H _ I h=>wpAny_execs_nil ⟨σ,H,I,h⟩
theorem fK(h1:PS X st t)(h2:PSs X aC u):PSs X (st::aC) (eU t u):=by
 intro a s σ H D I h;refine wpAny_execs_cons (aO (h1 a s σ H {D with nx:=u D} I h) λf k q=>?_);cases f with
 |next=>
  obtain⟨e,i,j,q⟩:=q;exact h2 a k e i D j q
 |ret v=>exact q
 |brk=>exact q
 |cont=>exact q
theorem jF(h1:PS X st t):PSs X [st] t:=by
 intro a s σ H D I h;refine wpAny_execs_cons (aO (h1 a s σ H D I h) λf g q=>?_);cases f with
 |next=>exact wpAny_execs_nil q
 |ret v=>exact q
 |brk=>exact q
 |cont=>exact q
theorem Inv.quiet{h_:List (z_×Obj)}{σ:St}{H:Hp}{s:Aj}(I:Inv X h_ σ H s):interactive X.env=ai:=by simp[interactive,I.ok.kind]
def oM(te:TE):TS:=λD σ H=>te σ H λ_ H1=>D.nx σ H1
theorem tO(he:PE X e te)(hs:Ci e af pos.line X.env=pure ai:=by rfl):PS X (.Expr e pos) (oM te):=λh_ s σ H D I h=>wpAny_Expr_any (aO (he h_ s σ H _ I h) λv f u=>by obtain⟨x,d,b,g,c⟩:=u;exact ⟨σ,d,b,c⟩) I.quiet hs
def fM(te:TE):TS:=λD σ H=>te σ H D.rt
theorem i0(he:PE X e te):PS X (.Return (ae e) pos) (fM te):=λh_ s σ H D I h=>wpAny_Return_some (aO (he h_ s σ H _ I h) λv g u=>by obtain⟨x,f,b,d,c⟩:=u;exact ⟨x,σ,f,b,d,c⟩)
def gP(c:TT)(t u:TS):TS:=λD σ H=>c σ H λb H1=>if b=ah then t D σ H1 else u D σ H1
theorem nH{c:Expr}{a b:List Stmt}{tc:TT}(hc:PT X c tc)(ha:PSs X a t)(hb:PSs X b u):PS X (.If c a b pos) (gP tc t u):=by
 intro e s σ H D I h;refine wpAny_If (aO (hc e s σ H _ I h) λd i u=>?_);obtain⟨j,g,f⟩:=u;cases d with
 |true=>exact ha e i σ j D g f
 |false=>exact hb e i σ j D g f
end
abbrev TG:=V->St->Hp->(St->Hp->Prop)->Prop
abbrev fD:=List V->St->Hp->(St->Hp->Prop)->Prop
def PG(X:Cx)(target:Expr)(t:TG):Prop:=
 ∀(h_:List (z_×Obj))(s:Aj)(σ:St)(H:Hp)(v:V)(u:Af)(Q:St->Hp->Prop),Inv X h_ σ H s->RelV v u->t v σ H Q->
  A6 (A9 X.prog X.w) X.A (assign target X.env u) (λ_ s'=>∃σ' H',Inv X h_ σ' H' s'/\Q σ' H') X.xe s
def lR(X:Cx)(ts:List Expr)(t:fD):Prop:=
 ∀(h_:List (z_×Obj))(s:Aj)(σ:St)(H:Hp)(vs:List V)(us:List Af)(Q:St->Hp->Prop),Inv X h_ σ H s->Vals vs us->t vs σ H Q->
  A6 (A9 X.prog X.w) X.A (assignInOrder ((Cq ts X.env).map (·.2)) us) (λ_ s'=>∃σ' H',Inv X h_ σ' H' s'/\Q σ' H') X.xe s
abbrev k7:=V->V->V->Hp->(Hp->Prop)->Prop
def nK(X:Cx)(t:k7):Prop:=
 ∀(h_:List (z_×Obj))(s:Aj)(σ:St)(H:Hp)(o i v:V)(ov iv u:Af)(Q:Hp->Prop),Inv X h_ σ H s->RelV o ov->RelV i iv->RelV v u->t o i v H Q->
  A6 (A9 X.prog X.w) X.A (setItem ov iv u) (λ_ s'=>∃H',Inv X h_ σ H' s'/\Q H') X.xe s
section
variable{X:Cx}{pos:Pos}
def df(i:Nat):TG:=λv σ H Q=>Q (σ.set i (ae v)) H
theorem Qq{i:Nat}{x:Str}(hN:X.N.Nodup)(hi:X.N[i]?=ae x)(hx:eZ X.env.scope x)(hf:X.fn x=ah\/X.env.scope.names.lookup x=ae .local:=by first|exact .inl rfl|exact .inr rfl|assumption):PG X (.Name x pos) (df i):=λh_ s σ H v u Q I r h=>wpAny_assign_Name (yw I hN hi hx r (λs' a=>⟨_,H,a,h⟩) hf)
def oq:fD:=λvs σ H Q=>vs=[]/\Q σ H
def ES(t:TG)(u:fD):fD:=λvs σ H Q=>∃v r,vs=v::r/\t v σ H λσ' H'=>u r σ' H' Q
theorem S0:lR X [] oq:=by
 intro a s σ H b c Q I r h;obtain⟨e,h⟩:=h;subst e;cases r;exact assignInOrder_nil ⟨σ,H,I,h⟩
theorem QY{e:Expr}{es:List Expr}{t:TG}{u:fD}(h1:PG X e t)(h2:lR X es u)
  (hs:(Cq (e::es) X.env).map (·.2)=assign e X.env::(Cq es X.env).map (·.2):=by rfl):lR X (e::es) (ES t u):=by
 intro a s σ H k m Q I r h;obtain⟨v,l,j,h⟩:=h;subst j;cases r with
 |cons r c=>
  rw[hs];exact assignInOrder_cons (aO (h1 a s σ H _ _ _ I r h) λ_ i u=>by obtain⟨g,d,f,b⟩:=u;exact h2 a i g d _ _ Q f c b)
def jR(K:Ag)(n:Nat)(t:fD):TG:=λv σ H Q=>∃a xs,v=.ref a/\SqT K H a xs/\xs.length=n/\t xs σ H Q
theorem Mi{es:List Expr}{k:Nat}{t:fD}{n:Nat}(hc:X.calm=ah)(h:lR X es t)
  (hn:(Cq es X.env).length=n:=by rfl) (hst:(Cq es X.env).findIdx? (·.1)=af:=by rfl):PG X (.Tuple es k pos) (jR X.K n t):=by
 intro c s σ H v u Q I r d;obtain⟨a,p,y,l,g,d⟩:=d;subst y;cases r;obtain⟨w,j,i,z⟩:=I.tuple l;refine assign_Tuple_tuple (I.ok.hd hc) i (by simp[hn,<-g,j.length]) hst λh' q=>?_;have m:Inv X c σ H {s with heap:=h'}:=I.kept λb o e=>q b o (Be (As e)) e;exact h c _ σ H p _ Q m ⋯ d
def iM(to ti:TE)(t:k7):TG:=λv σ H Q=>to σ H λo H1=>ti σ H1 λi H2=>t o i v H2 λH3=>Q σ H3
theorem og{o i:Expr}{to ti:TE}{t:k7}(ho:PE X o to)(hi:PE X i ti)(hs:nK X t)
  (ha:∀v,assign (.Subscript o i pos) X.env v=(do
   let ov <-holding [v] (eval o X.env)
   let iv <-holding [v,ov] (eval i X.env)
   standAt pos
   holding [v,ov,iv] (setItem ov iv v)
   release [v,ov,iv] []):=by intro _;rfl):PG X (.Subscript o i pos) (iM to ti t):=by
 intro a s σ H v u Q I r h;refine Aa (B7 (aO (ho a s σ H _ I h) λov p ⟨x,g,k,m,e⟩=>Aa (B7 (aO (hi a p σ g _ k e) λiv l z=>?_))));obtain⟨y,f,b,n,c⟩:=z;exact Aa (wpAny_standAt (Aa (B7 (aO (hs a l σ f x y v ov iv u _ b m n r c) λ_ w i=>by obtain⟨d,j,q⟩:=i;exact wpAny_release ⟨σ,d,j,q⟩))))
def bz(te:TE)(g:TG):TS:=λD σ H=>te σ H λx H1=>g x σ H1 D.nx
theorem ly{tg e:Expr}{te:TE}{g:TG}(he:PE X e te)(hg:PG X tg g)(hs:swapsWithSole [tg] e pos.line X.env=pure ai:=by rfl)(hw:swappedStores [tg] e X.env=pure af:=by rfl)
  (h1:(Cq [tg] X.env).map (·.2)=[assign tg X.env]:=by rfl):PS X (.Assign [tg] e pos) (bz te g):=by
 intro a s σ H D I h;refine wpAny_Assign_stores (aO (he a s σ H _ I h) λv d u=>?_) hs hw;obtain⟨x,i,b,f,c⟩:=u;rw[h1];exact aO (hg a d σ i x v _ b f c) λ_ j q=>q
theorem fC{i:Nat}{x:Str}{e:Expr}{te:TE}{pos':Pos}(hN:X.N.Nodup)(hi:X.N[i]?=ae x)(hx:eZ X.env.scope x)(he:PE X e te)(hs:Ci e (ae (.Name x pos')) pos.line X.env=pure ai:=by rfl)(hf:X.fn x=ah\/X.env.scope.names.lookup x=ae .local:=by first|exact .inl rfl|exact .inr rfl|assumption):
  PS X (.Assign [.Name x pos'] e pos) (bz te (df i)):=λh_ s σ H D I h=>wpAny_Assign_Name (aO (he h_ s σ H _ I h) λv j u=>by obtain⟨y,g,c,f,b⟩:=u;exact yw c hN hi hx f (λs2 d=>⟨_,g,d,b⟩) hf) hs
end
section
variable{X:Cx}{pos:Pos}
def xI(c:TT)(tb:TS):TS:=λD σ H=>∃W:Nat->St->Hp->Prop,(∃m,W m σ H)/\∀m σ H,W m σ H->
 c σ H λb H1=>if b=ah then ∃N:St->Hp->Prop,(∀σ' H',N σ' H'->∃m',m' < m/\W m' σ' H')/\tb {D with nx:=N,ct:=N,bk:=D.nx} σ H1 else D.nx σ H1
theorem QM{c:Expr}{body:List Stmt}{tc:TT}{tb:TS}(hp:PassesOwn (A9 X.prog X.w) X.A X.env X.xe)(hc:PT X c tc)(hb:PSs X body tb):PS X (.While c body [] pos) (xI tc tb):=by
 intro a s σ H D I h;obtain⟨W,⟨G,E⟩,e⟩:=h;refine wpAny_While (codeAny_whileLoop (λn L=>∃σ' H',Inv X a σ' H' L/\W n σ' H') ?_ G ⟨σ,H,I,E⟩)
 rintro n M ⟨j,y,J,B⟩
 refine E3 hp (aO (hc a M j y _ J (e n j y B)) λb K w=>?_);obtain⟨t,r,i⟩:=w;cases b with
 |true=>
  obtain⟨N,u,i⟩:=i;refine E3 hp (aO (hb a K j t _ r i) λf O k=>?_);cases f with
  |next=>
   obtain⟨g,d,p,m⟩:=k;obtain⟨q,o,l⟩:=u g d m;exact⟨q,o,g,d,p,l⟩
  |cont=>
   obtain⟨g,d,p,m⟩:=k;obtain⟨q,o,l⟩:=u g d m;exact⟨q,o,g,d,p,l⟩
  |brk=>exact k
  |ret v=>exact k
 |false=>
  exact wpAny_execs_nil ⟨j,t,r,i⟩
end
structure It where
 go:Nat->Hp->Prop
 yld:Nat->Hp->V->Hp->Prop
 stop:Nat->Hp->Prop
def cU(X:Cx)(h_:List (z_×Obj))(H:Hp)(b:z_):Prop:=
 H b=af/\b≠X.env.locals/\b∉X.fs/\(b∈X.ex\/X.s₀.heap.objs.size<=b)/\(∀x c,X.env.cells.lookup x=ae c->c≠b)/\∀p∈X.pn++h_,p.1≠b
theorem Inv.fpOk{X:Cx}{h_:List (z_×Obj)}{σ:St}{H H':Hp}{s:Aj}{b:z_}(I:Inv X h_ σ H s)(hb:s.heap.objs.size<=b)(hn:H' b=af):cU X h_ H' b:=by
 refine⟨hn,Dy (Bi I.lt hb),I.nofs hb,.inr (Ba I.sz hb),λx c e z=>?_,λp a z=>?_⟩
 ·obtain⟨v,q⟩:=I.cell x c e;exact f_ (Bi q.lt (by simp_all)) (Dz _)
 ·exact f_ (Bi (As (I.pin p a).1) (by simp_all)) (Dz _)
structure Turn(P:Bb)(w:Bj)(K:Ag)(tg:Expr)(J:It)(fp:List z_)(it:z_)(tn:Nat->Heap->Prop):Prop where
 mem:it∈fp
 obj:∀i h,tn i h->∀b∈fp,∃o,h.get? b=ae o/\∀v,o.data≠.cell v
 keep:∀i h h',tn i h->(∀b∈fp,∀o,h.get? b=ae o->h'.get? b=ae o)->tn i h'
 item:∀(X:Cx),X.prog=P->X.w=w->X.K=K->X.calm=ah->∀(i:Nat)(h_:List (z_×Obj))(s:Aj)(σ:St)(H:Hp)(E:Af->Aj->Prop),Inv X h_ σ H s->(∀b∈fp,cU X h_ H b)->tn i s.heap->J.go i H->
  A6 (A9 P w) X.A (pyNext (.ref it)) (λr s1=>∃u,r=ae u /\
   A6 (A9 P w) X.A (letOwnedTupleGo tg (.ref it) u) (λ_ s2=>∃x H',Inv X h_ σ H' s2/\RelV x u/\J.yld i H x H'/\tn (i+1) s2.heap/\∀b∈fp,H' b=af) E s1) E s
 done:∀(X:Cx),X.prog=P->X.w=w->X.K=K->X.calm=ah->∀(i:Nat)(h_:List (z_×Obj))(s:Aj)(σ:St)(H:Hp)(E:Af->Aj->Prop),Inv X h_ σ H s->(∀b∈fp,cU X h_ H b)->tn i s.heap->J.stop i H->
  A6 (A9 P w) X.A (pyNext (.ref it)) (λr s1=>r=af/\Inv X h_ σ H s1) E s
 self:∀(A:Bt)(i:Nat)(s:Aj)(Q:Af->Aj->Prop)(E:Af->Aj->Prop),tn i s.heap->Q (.ref it) s->A6 (A9 P w) A (pyIter (.ref it)) Q E s
abbrev TI:=St->Hp->(It->Hp->Prop)->Prop
def xJ(X:Cx)(h_:List (z_×Obj))(σ:St)(tg:Expr)(R:It->Hp->Prop)(itv:Af)(s2:Aj):Prop:=
 ∃(it:z_)(fp:List z_)(tn:Nat->Heap->Prop)(J:It)(H':Hp),itv=.ref it/\Inv X h_ σ H' s2/\Turn X.prog X.w X.K tg J fp it tn/\tn 0 s2.heap/\(∀b∈fp,cU X h_ H' b)/\R J H'
def PI(X:Cx)(tg iter:Expr)(wi:TI):Prop:=
 ∀(h_:List (z_×Obj))(s:Aj)(σ:St)(H:Hp)(R:It->Hp->Prop),Inv X h_ σ H s->wi σ H R->
  A6 (A9 X.prog X.w) X.A (eval iter X.env) (λv s1=>A6 (A9 X.prog X.w) X.A (pyIter v) (xJ X h_ σ tg R) X.xe s1) X.xe s
theorem qX{M:Model}{A:Bt}{E:Af->Aj->Prop}{s:Aj}{tg:Expr}{it:z_}{u:Af}{o:Obj}{n:String}{vs:Array Af}{Q:Unit->Aj->Prop}(ho:s.heap.get? it=ae o)(hc:o.cls=.type n)(hd:o.data=.fields vs)
  (hn:["enumerate","zip","dict_itemiterator","dict_reverseitemiterator","odict_iterator","itertools.zip_longest","itertools.pairwise"].contains n=ai) (hQ:Q () s):A6 M A (letOwnedTupleGo tg (.ref it) u) Q E s:=by
 cases tg<;>first
  |exact Ai hQ
  | (cases u<;>first
    |exact Ai hQ
    | (refine Aa (wpAny_load ho ?_)
       rw[hc,hd];show A6 M A (if _=ah then _ else _) Q E s;rw[a_ (by intro h;rw[hn]at h;cases h)];exact Ai hQ))
def xS(K:Ag)(a:z_):It:=
 ⟨λi H=>∃xs x,SqL K H a xs/\xs[i]?=ae x,λi H x H'=>H'=H/\∀xs,SqL K H a xs->xs[i]?=ae x,λi H=>∃xs,SqL K H a xs/\xs.length<=i⟩
def EV(K:Ag)(a:z_):It:=
 ⟨λi H=>∃xs x,SqT K H a xs/\xs[i]?=ae x,λi H x H'=>H'=H/\∀xs,SqT K H a xs->xs[i]?=ae x,λi H=>∃xs,SqT K H a xs/\xs.length<=i⟩
def p5(lo:Int)(n:Nat):It:=⟨λi _=>i < n,λi H x H'=>H'=H/\x=.int (lo+i),λi _=>n<=i⟩
theorem Kx{P:Bb}{w:Bj}{K:Ag}{tg:Expr}(a it:z_):Turn P w K tg (xS K a) [it] it (λi h=>h.IsListIter it a i) where
 mem:=by simp
 obj:=λi h f b j=>by
  have e:b=it:=by simp_all
  subst e;obtain⟨o,e,c,d⟩:=f;exact⟨o,e,λv z=>by simp_all⟩
 keep:=λi h h' f k=>f.at λo e=>k it (by simp) o e
 item:=by
  intro X r B F N i g s σ H E I n f q;subst r B F;obtain⟨T,x,m,L⟩:=q;obtain⟨D,A,p,R⟩:=I.list m;obtain⟨u,Y,V⟩:=A.get L;obtain⟨y,C,Q,t,J,G⟩:=n it (by simp);refine wpAny_pyNext_list_item f p.isList (by simpa using Y) λh' l Z=>?_;have S:Inv X g σ H {s with heap:=h'}:=I.turned (λb o j e=>(Z.2 b j).trans e) y C t J G;obtain⟨o,e,c,d⟩:=id l;exact⟨u,rfl,qX e c d ∎ ⟨x,H,S,V,⟨rfl,λys U=>by rw[I.list_inj U m];omega⟩,l,λb j=>(n b j).1⟩⟩
 done:=by
  intro X r B F N i g s σ H E I n f q;subst r B F;obtain⟨T,m,L⟩:=q;obtain⟨D,A,p,R⟩:=I.list m;obtain⟨y,C,Q,t,J,G⟩:=n it (by simp);have hl:=A.length;exact wpAny_pyNext_list_end (I.ok.hd N) f p.isList (by simp;omega) λh' O=>⟨rfl,I.turned (λb o j e=>O b o j e) y C t J G⟩
 self:=λ_ _ _ _ _ f h=>wpAny_pyIter_listiter f h
theorem NP{P:Bb}{w:Bj}{K:Ag}{tg:Expr}(a it:z_):Turn P w K tg (EV K a) [it] it (λi h=>h.IsTupleIter it a i) where
 mem:=by simp
 obj:=λi h f b j=>by
  have e:b=it:=by simp_all
  subst e;obtain⟨o,e,c,d⟩:=f;exact⟨o,e,λv z=>by simp_all⟩
 keep:=λi h h' f k=>f.at λo e=>k it (by simp) o e
 item:=by
  intro X r B F N i g s σ H E I n f q;subst r B F;obtain⟨T,x,m,L⟩:=q;obtain⟨D,A,p,R⟩:=I.tuple m;obtain⟨u,Y,V⟩:=A.get L;obtain⟨y,C,Q,t,J,G⟩:=n it (by simp);refine wpAny_pyNext_tuple_item f (p) (by simpa using Y) λh' l Z=>?_;have S:Inv X g σ H {s with heap:=h'}:=I.turned (λb o j e=>(Z.2 b j).trans e) y C t J G;obtain⟨o,e,c,d⟩:=id l;exact⟨u,rfl,qX e c d ∎ ⟨x,H,S,V,⟨rfl,λys U=>by rw[I.tuple_inj U m];omega⟩,l,λb j=>(n b j).1⟩⟩
 done:=by
  intro X r B F N i g s σ H E I n f q;subst r B F;obtain⟨T,m,L⟩:=q;obtain⟨D,A,p,R⟩:=I.tuple m;obtain⟨y,C,Q,t,J,G⟩:=n it (by simp);have hl:=A.length;exact wpAny_pyNext_tuple_end (I.ok.hd N) f (p) (by simp;omega) λh' O=>⟨rfl,I.turned (λb o j e=>O b o j e) y C t J G⟩
 self:=λ_ _ _ _ _ f h=>wpAny_pyIter_tupleiter f h
theorem Qn{P:Bb}{w:Bj}{K:Ag}{tg:Expr}(it:z_)(lo:Int)(n:Nat):Turn P w K tg (p5 lo n) [it] it (λi h=>IsRangeIter h it (lo+(i:Nat)*1) ((n:Int)-(i:Nat)) 1) where
 mem:=by simp
 obj:=λi h a b d=>by
  have e:b=it:=by simp_all
  subst e;exact⟨_,a,λv z=>by
   trivial⟩
 keep:=λi h C a k=>k it (by simp) _ a
 item:=by
  intro X x y B q i c s σ H E I g a j;subst x y B;obtain⟨m,p,F,l,u,r⟩:=g it (by simp);refine(Walks.range (prog:=X.prog) (w:=X.w) (I.ok.hd q) it lo 1 n).item i s _ _ j a λv C G L f M=>?_;obtain⟨t,rfl⟩:=L;have J:Inv X c σ H {s with heap:=C,toks:=G}:=I.turned (λb o d e=>M b o (by simpa using d) e) m p l u r;refine⟨_,rfl,qX f rfl rfl ∎ ⟨.int _,H,J,⟨t,?_⟩,⟨rfl,rfl⟩,f,λb d=>(g b d).1⟩⟩;simp
 done:=by
  intro X x y B q i c s σ H E I g a j;obtain⟨m,p,F,l,u,r⟩:=g it (by simp);exact wpAny_pyNext_range_end (I.ok.hd q) a (by have:n<=i:=j;omega) λh' D=>⟨rfl,I.turned (λb o d e=>D b o d e) m p l u r⟩
 self:=λ_ _ _ _ _ a h=>wpAny_pyIter_rangeiter a h
section
variable{X:Cx}{tg:Expr}
def oQ(K:Ag)(tl:TE):TI:=λσ H R=>tl σ H λx H1=>∃a,x=.ref a/\(∃xs,SqL K H1 a xs)/\R (xS K a) H1
def kU(K:Ag)(tl:TE):TI:=λσ H R=>tl σ H λx H1=>∃a,x=.ref a/\(∃xs,SqT K H1 a xs)/\R (EV K a) H1
theorem G8{l:Expr}{tl:TE}(hl:PE X l tl):PI X tg l (oQ X.K tl):=by
 intro c s σ H R I h;refine aO (hl c s σ H _ I h) λv m v=>?_;obtain⟨x,i,d,j,f⟩:=v;obtain⟨a,e,⟨t,g⟩,q⟩:=f;subst e;cases j;obtain⟨k,n,p,r⟩:=d.list g;refine wpAny_pyIter_list p.isList ⟨_,_,_,_,i,rfl,d.kept λb o e=>Ae _ e,Kx a _,⟨_,Av _ rfl,rfl,rfl⟩,λb u=>?_,q⟩;have e:b=m.heap.objs.size:=by simp_all
 subst e;exact d.fpOk (Ao _) (d.hok.fresh (Ao _))
theorem Lx{l:Expr}{tl:TE}(hl:PE X l tl):PI X tg l (kU X.K tl):=by
 intro c s σ H R I h;refine aO (hl c s σ H _ I h) λv m v=>?_;obtain⟨x,i,d,j,f⟩:=v;obtain⟨a,e,⟨t,g⟩,q⟩:=f;subst e;cases j;obtain⟨k,n,p,r⟩:=d.tuple g;refine Dp (p) ⟨_,_,_,_,i,rfl,d.kept λb o e=>Ae _ e,NP a _,⟨_,Av _ rfl,rfl,rfl⟩,λb u=>?_,q⟩;have e:b=m.heap.objs.size:=by simp_all
 subst e;exact d.fpOk (Ao _) (d.hok.fresh (Ao _))
theorem L4{h_:List (z_×Obj)}{σ:St}{H:Hp}{s:Aj}{R:It->Hp->Prop}{E:Af->Aj->Prop}{lo hi:Int}{t u v:Tok}{tk:Nat}(I:Inv X h_ σ H s)(h1:-(2 ^ 62)<=lo)(h2:lo < 2 ^ 62)(h3:-(2 ^ 62)<=hi)(h4:hi < 2 ^ 62)
  (q:R (p5 lo (hi-lo).toNat) H):A6 (A9 X.prog X.w) X.A (pyIter (.ref s.heap.objs.size)) (xJ X h_ σ tg R) E {s with heap:=s.heap.push {cls:=.type "range",data:=.fields #[.int lo t,.int hi u,.int 1 v]},toks:=tk}:=by
 refine wpAny_pyIter_range (IsRange.new ..) (small_one h1 h2 h3 h4) ?_;have a:Inv X h_ σ H {s with heap:=s.heap.push {cls:=.type "range",data:=.fields #[.int lo t,.int hi u,.int 1 v]},toks:=tk}:=I.kept λb o e=>Ae _ e;refine⟨_,_,_,_,H,rfl,
  a.kept λb o e=>Ae _ e,Qn _ lo (hi-lo).toNat,?_,λb d=>?_,q⟩
 ·have f:lo+((0:Nat):Int)*1=lo:=by simp
  have c:(((hi-lo).toNat:Nat):Int)-((0:Nat):Int)=Builtin.Range.rangeSize lo hi 1:=by rw[rangeSize_one];grind
  rw[f,c];exact Av _ rfl
 ·have e:b=(s.heap.push {cls:=.type "range",data:=.fields #[.int lo t,.int hi u,.int 1 v]}).objs.size:=by simpa using d
  subst e;exact a.fpOk (Ao _) (a.hok.fresh (Ao _))
def pJ(ta:TA):TI:=λσ H R=>ta σ H λvs H1=>∃j:Int,vs=[.int j]/\-(2 ^ 62)<=j/\j < 2 ^ 62/\R (p5 0 j.toNat) H1
theorem Mb{a:Expr}{ta:TA}{p pos:Pos}(hg:Gl X "range")(hm:X.mg "range"=af)(ha:PA X [a] ta)(hs:Ar [a] X.env=[(ai,eval a X.env)]:=by rfl):PI X tg (.Call (.Name "range" p) [a] [] pos) (pJ ta):=by
 intro b s σ H R I h;refine Call_ (jv I hg hm boot_range (C3 (aO (ha pos b s σ H _ I h) λus m u=>?_) hs rfl));obtain⟨k,l,g,i,c⟩:=u;obtain⟨j,e,c,d,q⟩:=c;subst e;cases i with
 |cons r f=>
  cases f;obtain⟨t,rfl⟩:=r;exact call_range_1 (L4 g ⋯ ⋯ c d (by simpa using q))
def g6(wi:TI)(g:TG)(tb:TS):TS:=λD σ H=>wi σ H λJ H1=>∃W:Nat->Nat->St->Hp->Prop,(∃m,W 0 m σ H1)/\∀i m σ H,W i m σ H->
 (J.stop i H/\D.nx σ H)\/(J.go i H/\∃N:St->Hp->Prop,(∀σ' H',N σ' H'->∃m',m' < m/\W (i+1) m' σ' H')/\∀x H',J.yld i H x H'->g x σ H' λσ2 H2=>tb {D with nx:=N,ct:=N,bk:=D.nx} σ2 H2)
def pz(fp:List z_)(h:Heap):List (z_×Obj):=fp.filterMap λb=>(h.get? b).map λo=>(b,o)
theorem qo{fp:List z_}{h:Heap}{b:z_}{o:Obj}(hb:b∈fp)(e:h.get? b=ae o):(b,o)∈pz fp h:=Gx.mpr ⟨b,hb,by rw[e];rfl⟩
theorem NA{fp:List z_}{h:Heap}{p:z_×Obj}(hp:p∈pz fp h):p.1∈fp/\h.get? p.1=ae p.2:=by
 obtain⟨b,a,e⟩:=Gx.mp hp;cases q:h.get? b with
 |none=>rw[q]at e;cases e
 |some o=>
  rw[q]at e;have c:=Bq e;subst c;exact⟨a,q⟩
theorem Inv.pinned{h_:List (z_×Obj)}{σ:St}{H:Hp}{s:Aj}{fp:List z_}(I:Inv X h_ σ H s)(hf:∀b∈fp,cU X h_ H b)(ho:∀b∈fp,∃o,s.heap.get? b=ae o/\∀v,o.data≠.cell v):Inv X (h_++pz fp s.heap) σ H s:=
 I.pins_of λp f=>(A7.mp f).elim (λz=>I.pin p (Bw _ z)) λz=>by
  obtain⟨a,e⟩:=NA z;obtain⟨h,g,i,_⟩:=hf p.1 a;obtain⟨o,c,d⟩:=ho p.1 a;rw[e]at c;cases c;exact⟨e,h,g,i,d⟩
theorem Inv.unpinned{h_ pl:List (z_×Obj)}{σ:St}{H:Hp}{s:Aj}(I:Inv X (h_++pl) σ H s):Inv X h_ σ H s:=I.pins_of λp a=>I.pin p (Bw _ (Da _ a))
theorem RH{iter:Expr}{body:List Stmt}{wi:TI}{g:TG}{tb:TS}{pos:Pos}(hp:PassesOwn (A9 X.prog X.w) X.A X.env X.xe)(hc:X.calm=ah)(hi:PI X tg iter wi)(hg:PG X tg g)(hb:PSs X body tb)
  (hs:∀x,Dx iter X.env x=pure x:=by intro _;rfl):PS X (.For tg iter body [] pos) (g6 wi g tb):=by
 intro c s σ H D I h;refine wpAny_For (aO (hi c s σ H _ I h) λv s1 h1=>aO h1 λitv s2 h2=>?_) hs;obtain⟨it,P,tn,J,H2,e,I2,T,U,f2,W,⟨m0,w0⟩,L⟩:=h2;subst e
 have t:∀{y:Hp},(∀b∈P,y b=af)->∀b∈P,cU X c y b:=λhn b hb=>⟨hn b hb,(f2 b hb).2⟩;refine codeAny_forLoop_any (λn s'=>∃i σ' y,Inv X c σ' y s'/\tn i s'.heap/\(∀b∈P,y b=af)/\W i n σ' y) ?_ m0 ⟨0,σ,H2,I2,U,λb hb=>(f2 b hb).1,w0⟩
 rintro n s3 ⟨i,M,Q,I3,K,C,w3⟩
 rcases L i n M Q w3 with⟨G,qn⟩|⟨go,N,hN,O⟩
 ·refine E3 hp (aO (T.done X rfl rfl rfl hc i c s3 M Q X.xe I3 (t C) K G) λr s4 w=>?_);obtain⟨S,I4⟩:=w;subst S;exact wpAny_execs_nil ⟨M,Q,I4,qn⟩
 ·refine E3 hp (aO (T.item X rfl rfl rfl hc i c s3 M Q X.xe I3 (t C) K go) λr s4 a=>?_);obtain⟨u,S,h4⟩:=a;subst S;refine E3 hp (aO h4 λ_ s5 g=>?_);obtain⟨x,Y,I5,r5,y5,B,V⟩:=g;refine E3 hp (aO (hg _ s5 M Y x u _ (I5.pinned (t V) (T.obj _ _ B)) r5 (O x Y y5)) λ_ s6 ⟨σ6,H6,I6,q6⟩=>E3 hp (aO (hb _ s6 σ6 H6 _ I6 q6) λf R z=>?_));have p:∀{l:St}{q:Hp},Inv X _ l q R->N l q->∃m,m < n/\∃i σ' y,Inv X c σ' y R/\tn i R.heap/\(∀b∈P,y b=af)/\W i m σ' y:=λ{l q} k E=>by
   obtain⟨m',hm,w7⟩:=hN l q E;refine⟨m',hm,i+1,l,q,k.unpinned,T.keep _ _ _ B λb hb o e=>(k.pin _ (Bw _ (Bw _ (qo hb e)))).1,λb hb=>?_,w7⟩;obtain⟨o,e,d⟩:=T.obj _ _ B b hb;exact(k.pin _ (Bw _ (Bw _ (qo hb e)))).2.1
  cases f with
  |next=>obtain⟨l,q,k,E⟩:=z;exact p k E
  |cont=>obtain⟨l,q,k,E⟩:=z;exact p k E
  |brk=>obtain⟨l,q,k,z⟩:=z;exact⟨l,q,k.unpinned,z⟩
  |ret v=>obtain⟨x7,l,q,k,r7,z⟩:=z;exact⟨x7,l,q,k.unpinned,r7,z⟩
end
abbrev R2:=V->V->Hp->VK->Prop
def OpR(X:Cx)(f:Af->Af->Sem Af)(r:R2):Prop:=
 ∀(h_:List (z_×Obj))(s:Aj)(σ:St)(H:Hp)(x y:V)(v u:Af)(Q:VK),Inv X h_ σ H s->RelV x v->RelV y u->r x y H Q->
  A6 (A9 X.prog X.w) X.A (f v u) (EP X h_ σ Q) X.xe s
def u7(X:Cx)(f:Af->Sem Af)(r:V->Hp->VK->Prop):Prop:=
 ∀(h_:List (z_×Obj))(s:Aj)(σ:St)(H:Hp)(x:V)(v:Af)(Q:VK),Inv X h_ σ H s->RelV x v->r x H Q->
  A6 (A9 X.prog X.w) X.A (f v) (EP X h_ σ Q) X.xe s
def CallR(X:Cx)(f:Af)(r:List V->Hp->VK->Prop):Prop:=
 ∀(h_:List (z_×Obj))(s:Aj)(σ:St)(H:Hp)(xs:List V)(us:List Af)(Q:VK),Inv X h_ σ H s->Vals xs us->r xs H Q->
  A6 (A9 X.prog X.w) X.A (call f us) (EP X h_ σ Q) X.xe s
def vK(X:Cx)(r:V->Hp->(Bool->Hp->Prop)->Prop):Prop:=
 ∀(h_:List (z_×Obj))(s:Aj)(σ:St)(H:Hp)(x:V)(v:Af)(Q:Bool->Hp->Prop),Inv X h_ σ H s->RelV x v->r x H Q->
  A6 (A9 X.prog X.w) X.A (truthy v) (TP X h_ σ Q) X.xe s
def dt(r:R2)(ta tb:TE):TE:=λσ H Q=>ta σ H λx H1=>tb σ H1 λy H2=>r x y H2 Q
def CN(r:V->Hp->VK->Prop)(ta:TE):TE:=λσ H Q=>ta σ H λx H1=>r x H1 Q
def rI(C:Int->Int->Prop)(g:Int->Int->V):R2:=λx y H Q=>∃i j,x=.int i/\y=.int j/\C i j/\Q (g i j) H
def fh(g:Int->Int->V):R2:=λx y H Q=>∃i j,x=.int i/\y=.int j/\Q (g i j) H
def rU(g:Int->V):V->Hp->VK->Prop:=λx H Q=>∃i,x=.int i/\Q (g i) H
section
variable{X:Cx}{a b c:Expr}{ta tb tc:TE}{pos:Pos}
theorem kE(ha:PE X a ta)(hb:PE X b tb){h_:List (z_×Obj)}{s:Aj}{σ:St}{H:Hp}{R:V->V->Hp->Prop}(I:Inv X h_ σ H s)
  (h:ta σ H λx H1=>tb σ H1 λy H2=>R x y H2) {Q:Af->Aj->Prop} {f:Af->Af->Sem Af}
  (hf:∀v u s2 x y H2,Inv X h_ σ H2 s2->RelV x v->RelV y u->R x y H2->A6 (A9 X.prog X.w) X.A (f v u) Q X.xe s2):
  A6 (A9 X.prog X.w) X.A (eval a X.env) (λv r_=>A6 (A9 X.prog X.w) X.A (eval b X.env) (λu s_=>A6 (A9 X.prog X.w) X.A (f v u) Q X.xe s_) X.xe r_) X.xe s:=by
 refine aO (ha h_ s σ H _ I h) λv g ⟨x,H1,d,i,c⟩=>aO (hb h_ g σ H1 _ d c) λu s2 w=>?_;obtain⟨y,H2,e,k,j⟩:=w;exact hf v u s2 x y H2 e i k j
theorem dZ{op:Operator}{r:R2}(ho:OpR X (Es op) r)(ha:PE X a ta)(hb:PE X b tb):PE X (.BinOp a op b pos) (dt r ta tb):=λh_ s σ H Q I h=>wpAny_BinOp (kE ha hb I h λv u f x y e g i d q=>ho h_ f σ e x y v u Q g i d q)
theorem PR{op:UnaryOp}{r:V->Hp->VK->Prop}(ho:u7 X (unaryOp op) r)(ha:PE X a ta):PE X (.UnaryOp op a pos) (CN r ta):=λh_ s σ H Q I h=>UnaryOp_ (aO (ha h_ s σ H _ I h) λv e u=>by obtain⟨x,g,c,f,d⟩:=u;exact ho h_ e σ g x v Q c f d)
theorem qC{f:Af->Af->Sem Af}{C:Int->Int->Prop}{g:Int->Int->Int}
  (rule:∀(i j:Int)(t u:Tok)(s:Aj)(Q:Af->Aj->Prop)(E:Af->Aj->Prop),C i j->Q (.int (g i j) s.toks) {s with toks:=s.toks+1}->A6 (A9 X.prog X.w) X.A (f (.int i t) (.int j u)) Q E s):
  OpR X f (rI C λi j=>.int (g i j)):=by
 intro a s σ H x y v u Q I b d h;obtain⟨i,j,rfl,rfl,e,q⟩:=h;obtain⟨t,rfl⟩:=b;obtain⟨c,rfl⟩:=d;exact rule i j t c s _ _ e ⟨.int _,H,I.tok _,⟨_,rfl⟩,q⟩
theorem nS{f:Af->Af->Sem Af}{g:Int->Int->Int}
  (rule:∀(i j:Int)(t u:Tok)(s:Aj)(Q:Af->Aj->Prop)(E:Af->Aj->Prop),Q (.int (g i j) s.toks) {s with toks:=s.toks+1}->A6 (A9 X.prog X.w) X.A (f (.int i t) (.int j u)) Q E s):
  OpR X f (fh λi j=>.int (g i j)):=by
 intro a s σ H x y v u Q I b d h;obtain⟨i,j,rfl,rfl,q⟩:=h;obtain⟨t,rfl⟩:=b;obtain⟨c,rfl⟩:=d;exact rule i j t c s _ _ ⟨.int _,H,I.tok _,⟨_,rfl⟩,q⟩
theorem i9{f:Af->Af->Sem Af}{g:Int->Int->Bool}
  (rule:∀(i j:Int)(t u:Tok)(s:Aj)(Q:Af->Aj->Prop)(E:Af->Aj->Prop),Q (.bool (g i j)) s->A6 (A9 X.prog X.w) X.A (f (.int i t) (.int j u)) Q E s):
  OpR X f (fh λi j=>.bl (g i j)):=by
 intro a s σ H x y v u Q I b d h;obtain⟨i,j,rfl,rfl,q⟩:=h;obtain⟨t,rfl⟩:=b;obtain⟨c,rfl⟩:=d;exact rule i j t c s _ _ ⟨.bl _,H,I,rfl,q⟩
def u4(i j:Int):Prop:=0 < j/\j < 1073741824
def uj(i j:Int):Prop:=0<=j/\j<=1000000/\i.natAbs < 2 ^ 64
def CMul(i j:Int):Prop:=(-(2 ^ 64) < i/\i < 2 ^ 64)\/(-(2 ^ 64) < j/\j < 2 ^ 64)
theorem CMul.ok{i j:Int}(h:CMul i j):IntMulOk i j:=by
 rcases h with⟨b,a⟩|⟨b,a⟩
 ·exact .of_left (intBits_le_64 b a)
 ·exact .of_right (intBits_le_64 b a)
theorem op_add:OpR X (Es .Add) (fh λi j=>.int (i+j)):=nS λ_ _ _ _ _ _ _ q=>add_int q
theorem Nc:OpR X (Es .Sub) (fh λi j=>.int (i-j)):=nS λ_ _ _ _ _ _ _ q=>sub_int q
theorem lN:OpR X (Es .Mult) (rI CMul λi j=>.int (i*j)):=qC λ_ _ _ _ _ _ _ a q=>mul_int q a.ok
theorem yR:OpR X (Es .FloorDiv) (rI u4 λi j=>.int (i / j)):=qC λi j _ _ _ _ _ a q=>by
 have c:=a.1;have b:=a.2;exact floordiv_int ⋯ (by rw[Int.fdiv_eq_ediv_of_nonneg i ⋯];exact q) (.inl (PyProof.noPylong_small ⋯))
theorem jr:OpR X (Es .Mod) (rI (λ_ j=>0 < j) λi j=>.int (i % j)):=qC λi j _ _ _ _ _ a q=>mod_int' ⋯ (by rw[Int.fmod_eq_emod_of_nonneg i ⋯];exact q)
theorem IA:OpR X (Es .Pow) (rI uj λi j=>.int (i ^ j.toNat)):=qC λ_ _ _ _ _ _ _ a q=>pow_int_small a.1 a.2.1 a.2.2 q
theorem J0{f:Af->Sem Af}{g:Int->Int}
  (rule:∀(i:Int)(t:Tok)(s:Aj)(Q:Af->Aj->Prop)(E:Af->Aj->Prop),Q (.int (g i) s.toks) {s with toks:=s.toks+1}->A6 (A9 X.prog X.w) X.A (f (.int i t)) Q E s):
  u7 X f (rU λi=>.int (g i)):=by
 intro a s σ H x v Q I b h;obtain⟨i,rfl,q⟩:=h;obtain⟨t,rfl⟩:=b;exact rule i t s _ _ ⟨.int _,H,I.tok _,⟨_,rfl⟩,q⟩
theorem ME:u7 X (unaryOp .USub) (rU λi=>.int (-i)):=J0 λ_ _ _ _ _ q=>neg_int q
end
def oe:V->V->Bool
 |.non,.non=>ah|.non,.int _=>ah|.int _,.non=>ah|.non,.bl _=>ah|.bl _,.non=>ah|.non,.str _=>ah|.str _,.non=>ah
 |.int _,.int _=>ah|.bl _,.bl _=>ah|.str _,.str _=>ah|.byt _,.byt _=>ah
 |.int _,.str _=>ah|.str _,.int _=>ah|.bl _,.str _=>ah|.str _,.bl _=>ah
 |_,_=>ai
def p8:R2:=λx y H Q=>oe x y=ah/\Q (.bl (decide (x=y))) H
def FF:R2:=λx y H Q=>oe x y=ah/\Q (.bl (!decide (x=y))) H
theorem zw{i j:Int}:decide (V.int i=V.int j)=(i==j):=by
 rw[D6];simp
theorem vT{i j:Bool}:decide (V.bl i=V.bl j)=(i==j):=by
 rw[D6];simp
theorem wA{i j:Str}:decide (V.str i=V.str j)=(i==j):=by
 rw[D6];simp
theorem xR{i j:Array UInt8}:decide (V.byt i=V.byt j)=(i.toList==j.toList):=by
 rw[D6];simp
section
variable{X:Cx}{a b c:Expr}{ta tb tc:TE}{pos:Pos}
theorem cu{h_:List (z_×Obj)}{σ:St}{H:Hp}{s:Aj}{Q:VK}{k k':Bool}(I:Inv X h_ σ H s)(q:Q (.bl k) H)(e:k=k'):EP X h_ σ Q (.bool k') s:=by
 subst e;exact⟨.bl k,H,I,rfl,q⟩
theorem op_eq:OpR X (Bv .Eq) p8:=by
 intro m s σ H x y v u Q I g a h;obtain⟨f,q⟩:=h;cases x with
 |non=>
  cases g;cases y with
  |non=>cases a;exact PySem.EqNone.eq_none_none (cu I q (by simp))
  |bl j=>cases a;exact PySem.EqNone.eq_none_bool (cu I q (by simp))
  |int j=>obtain⟨d,rfl⟩:=a;exact PySem.EqNone.eq_none_int (cu I q (by simp))
  |str j=>obtain⟨d,rfl⟩:=a;exact PySem.EqNone.eq_none_str (cu I q (by simp))
  |_=>exact f_ (f) A3
 |bl i=>
  cases g;cases y with
  |non=>cases a;exact PySem.EqNone.eq_bool_none (cu I q (by simp))
  |bl j=>cases a;exact eq_bool (cu I q vT)
  |str j=>obtain⟨d,rfl⟩:=a;exact PySem.EqMixed.eq_bool_str (cu I q (by simp))
  |_=>exact f_ (f) A3
 |int i=>
  obtain⟨t,rfl⟩:=g;cases y with
  |non=>cases a;exact PySem.EqNone.eq_int_none (cu I q (by simp))
  |int j=>obtain⟨d,rfl⟩:=a;exact eq_int (cu I q zw)
  |str j=>obtain⟨d,rfl⟩:=a;exact PySem.EqMixed.eq_int_str (cu I q (by simp))
  |_=>exact f_ (f) A3
 |str i=>
  obtain⟨t,rfl⟩:=g;cases y with
  |non=>cases a;exact PySem.EqNone.eq_str_none (cu I q (by simp))
  |bl j=>cases a;exact PySem.EqMixed.eq_str_bool (cu I q (by simp))
  |int j=>obtain⟨d,rfl⟩:=a;exact PySem.EqMixed.eq_str_int (cu I q (by simp))
  |str j=>obtain⟨d,rfl⟩:=a;exact eq_str (cu I q wA)
  |_=>exact f_ (f) A3
 |byt i=>
  obtain⟨t,rfl⟩:=g;cases y with
  |byt j=>obtain⟨d,rfl⟩:=a;exact PySem.W.eq_bytes (cu I q xR)
  |_=>exact f_ (f) A3
 |_=>cases y<;>exact f_ (show ai=ah from f) A3
theorem OT:OpR X (Bv .NotEq) FF:=by
 intro m s σ H x y v u Q I g a h;obtain⟨f,q⟩:=h;cases x with
 |non=>
  cases g;cases y with
  |non=>cases a;exact PySem.EqNone.ne_none_none (cu I q (by simp))
  |bl j=>cases a;exact PySem.EqNone.ne_none_bool (cu I q (by simp))
  |int j=>obtain⟨d,rfl⟩:=a;exact PySem.EqNone.ne_none_int (cu I q (by simp))
  |str j=>obtain⟨d,rfl⟩:=a;exact PySem.EqNone.ne_none_str (cu I q (by simp))
  |_=>exact f_ (f) A3
 |bl i=>
  cases g;cases y with
  |non=>cases a;exact PySem.EqNone.ne_bool_none (cu I q (by simp))
  |bl j=>cases a;exact ne_bool (cu I q (congrArg not vT))
  |str j=>obtain⟨d,rfl⟩:=a;exact PySem.EqMixed.ne_bool_str (cu I q (by simp))
  |_=>exact f_ (f) A3
 |int i=>
  obtain⟨t,rfl⟩:=g;cases y with
  |non=>cases a;exact PySem.EqNone.ne_int_none (cu I q (by simp))
  |int j=>obtain⟨d,rfl⟩:=a;exact ne_int (cu I q (congrArg not zw))
  |str j=>obtain⟨d,rfl⟩:=a;exact PySem.EqMixed.ne_int_str (cu I q (by simp))
  |_=>exact f_ (f) A3
 |str i=>
  obtain⟨t,rfl⟩:=g;cases y with
  |non=>cases a;exact PySem.EqNone.ne_str_none (cu I q (by simp))
  |bl j=>cases a;exact PySem.EqMixed.ne_str_bool (cu I q (by simp))
  |int j=>obtain⟨d,rfl⟩:=a;exact PySem.EqMixed.ne_str_int (cu I q (by simp))
  |str j=>obtain⟨d,rfl⟩:=a;exact ne_str (cu I q (congrArg not wA))
  |_=>exact f_ (f) A3
 |byt i=>
  obtain⟨t,rfl⟩:=g;cases y with
  |byt j=>obtain⟨d,rfl⟩:=a;exact PySem.W.ne_bytes (cu I q (congrArg not xR))
  |_=>exact f_ (f) A3
 |_=>cases y<;>exact f_ (show ai=ah from f) A3
theorem op_lt:OpR X (Bv .Lt) (fh λi j=>.bl (decide (i < j))):=i9 λ_ _ _ _ _ _ _ q=>lt_int q
theorem op_le:OpR X (Bv .LtE) (fh λi j=>.bl (decide (i<=j))):=i9 λ_ _ _ _ _ _ _ q=>le_int q
theorem op_gt:OpR X (Bv .Gt) (fh λi j=>.bl (decide (j < i))):=i9 λ_ _ _ _ _ _ _ q=>gt_int q
theorem op_ge:OpR X (Bv .GtE) (fh λi j=>.bl (decide (j<=i))):=i9 λ_ _ _ _ _ _ _ q=>ge_int q
theorem Le:OpR X (Bv .Lt) (λx y H Q=>∃i j,x=.str i/\y=.str j/\Q (.bl (decide (i.cps.toList < j.cps.toList))) H):=by
 intro a s σ H x y v u Q I b c h;obtain⟨i,j,rfl,rfl,q⟩:=h;obtain⟨t,rfl⟩:=b;obtain⟨d,rfl⟩:=c;exact lt_str (cu I q rfl)
theorem vH:OpR X (Bv .Is) (λx y H Q=>y=.non/\Q (.bl (decide (x=.non))) H):=by
 intro b s σ H x y v u Q I a c h;obtain⟨rfl,q⟩:=h;cases c;refine is_none_gen (cu I q ?_);cases x<;>first
  | (cases a;rfl)
  | (obtain⟨t,rfl⟩:=a;rfl)
theorem vk:OpR X (Bv .IsNot) (λx y H Q=>y=.non/\Q (.bl (!decide (x=.non))) H):=by
 intro b s σ H x y v u Q I a c h;obtain⟨rfl,q⟩:=h;cases c;refine isnot_none_gen (cu I q ?_);cases x<;>first
  | (cases a;rfl)
  | (obtain⟨t,rfl⟩:=a;rfl)
theorem OpR.or{f:Af->Af->Sem Af}{r r':R2}(h:OpR X f r)(h':OpR X f r'):OpR X f (λx y H Q=>r x y H Q\/r' x y H Q):=by
 intro a s σ H x y v u Q I c b q;rcases q with q|q
 ·exact h a s σ H x y v u Q I c b q
 ·exact h' a s σ H x y v u Q I c b q
theorem j1(b:Expr){op:CmpOp}(h:op≠.In:=by decide)(h2:op≠.NotIn:=by decide):Cg op b=ai:=by
 have c:(op==CmpOp.In)=ai:=by cases op<;>first|rfl|exact f_ rfl h
 have a:(op==CmpOp.NotIn)=ai:=by cases op<;>first|rfl|exact f_ rfl h2
 cases b<;>simp[Cg,c,a]
theorem RT{op:CmpOp}{r:R2}(ho:OpR X (Bv op) r)(ha:PE X a ta)(hb:PE X b tb)(hm:Cg op b=ai):PE X (.Compare a [op] [b] pos) (dt r ta tb):=λh_ s σ H Q I h=>wpAny_Compare1 (kE ha hb I h λv u f x y e g i d q=>ho h_ f σ e x y v u Q g i d q) hm
def gy(t:TE):TT:=λσ H Q=>t σ H λx H'=>∃k,x=.bl k/\Q k H'
theorem jA{op:CmpOp}{r:R2}(ho:OpR X (Bv op) r)(ha:PE X a ta)(hb:PE X b tb)(hm:Cg op b=ai):PT X (.Compare a [op] [b] pos) (gy (dt r ta tb)):=by
 intro d s σ H Q I h;refine wpAny_isTrue_Compare1 (aO (ha d s σ H _ I h) λv A ⟨x,m,o,q,j⟩=>aO (hb d A σ m _ o j) λu p ⟨y,l,f,t,g⟩=>
  aO (ho d p σ l x y v u _ f q t g) λc C a=>?_) hm;obtain⟨z,i,n,w,k,e,B⟩:=a
 subst e;cases w;exact C7 ⟨i,n,B⟩
def vz(r r':R2)(ta tb tc:TE):TE:=λσ H Q=>ta σ H λx H1=>tb σ H1 λy H2=>r x y H2 λz H3=>∃k,z=.bl k /\
 (if k=ah then tc σ H3 λw' H4=>r' y w' H4 Q else Q (.bl ai) H3)
theorem Oj{op op':CmpOp}{r r':R2}(ho:OpR X (Bv op) r)(ho':OpR X (Bv op') r')(ha:PE X a ta)(hb:PE X b tb)(hc:PE X c tc)
  (hm:lastMarks [op,op'] [b,c]=ai:=by with_unfolding_all rfl):PE X (.Compare a [op,op'] [b,c] pos) (vz r r' ta tb tc):=by
 intro f s σ H Q I h;refine Compare_chain (aO (ha f s σ H _ I h) λv J ⟨x,w,B,D,q⟩=>chain_link (aO (hb f J σ w _ B q) λu C ⟨y,t,n,j,o⟩=>
  aO (ho f C σ t x y v u _ n D j o) λd K a=>?_)) hm;obtain⟨z,g,i,G,k,e,l⟩:=a
 subst e;cases G;refine C7 ?_;cases k with
 |false=>exact ite_ff ⟨.bl ai,g,i,rfl,l⟩
 |true=>exact ite_tt (chain_last (aO (hc f K σ g _ i l) λw' A b=>by obtain⟨F,L,p,m,E⟩:=b;exact ho' f A σ L y F u w' Q p j m E))
def jT(K:Ag)(x:V)(H:Hp)(k:Bool):Prop:=
 match x with
 |.non=>k=ai
 |.bl b=>k=b
 |.int i=>k=(i != 0)
 |.str y=>y.length<=Aw/\k=((y.length:Int) != 0)
 |.byt y=>y.size<=Aw/\k=((y.size:Int) != 0)
 |.ref p=>(∃xs,SqL K H p xs/\k=!xs.isEmpty)\/(∃xs,SqT K H p xs/\k=!xs.isEmpty)\/∃kvs,H p=ae (.dK kvs)/\k=!kvs.isEmpty
 |_=>False
theorem QA{κ:Type}{kvs:List (κ×V)}{vs:List (κ×Af)}(r:KV kvs vs):(!vs.isEmpty)=!kvs.isEmpty:=by
 cases r<;>rfl
theorem xA{xs:List V}{i_:List Af}(r:Vals xs i_):(!i_.toArray.isEmpty)=!xs.isEmpty:=by
 cases r<;>simp
theorem lD:(Aw:Nat) < 2 ^ 63:=by decide
theorem HF:vK X (λx H Q=>∃k,jT X.K x H k/\Q k H):=by
 intro n s σ H x v Q I d h;obtain⟨k,e,q⟩:=h;have J:=Ez;cases x with
 |non=>
  cases d;have a:=e;subst a;exact truthy_none ⟨H,I,q⟩
 |bl b=>
  cases d;have a:=e;subst a;exact C7 ⟨H,I,q⟩
 |int i=>
  obtain⟨t,rfl⟩:=d;have a:=e;subst a;exact PySem.P.truthy_int ⟨H,I,q⟩
 |str y=>
  obtain⟨t,rfl⟩:=d;obtain⟨E,a⟩:=e;subst a;exact PySem.P.truthy_str ⋯ ⟨H,I.tok _,q⟩
 |byt y=>
  obtain⟨t,rfl⟩:=d;obtain⟨E,a⟩:=e;subst a;exact PySem.W.truthy_bytes ⋯ ⟨H,I.tok _,q⟩
 |ref p=>
  cases d;have a:=e;rcases a with⟨z,f,a⟩|⟨z,f,a⟩|⟨u,f,a⟩
  ·subst a;obtain⟨j,r,g,l⟩:=I.list f;have c:=r.length;exact wpAny_truthy_list g.isList (by simp only[Bd];omega) ⟨H,I.tok _,by rw[xA r];exact q⟩
  ·subst a;obtain⟨j,r,g,l⟩:=I.tuple f;have c:=r.length;exact truthy_tuple g (by simp only[Bd];omega) ⟨H,I.tok _,by rw[xA r];exact q⟩
  ·subst a;obtain⟨l,C,F,r,m⟩:=I.hok p _ f;have c:=Dk r;exact wpAny_truthy_dict C m ⋯ ⟨H,I.tok _,by rw[QA r];exact q⟩
 |_=>exact(e).elim
theorem FP(ha:PE X a ta)(he:∀whole,isTrue a X.env whole=(do let v <-whole;standAt a.pos;holding [v] (truthy v))):
  PT X a (λσ H Q=>ta σ H λx H'=>∃k,jT X.K x H' k/\Q k H'):=λh_ s σ H Q I h=>isTrue_plain (aO (ha h_ s σ H _ I h) λv e u=>by obtain⟨x,g,c,f,d⟩:=u;exact HF h_ e σ g x v Q c f d) (he _)
theorem op_add_str:OpR X (Es .Add) (λx y H Q=>∃i j,x=.str i/\y=.str j/\i.length+j.length<=Aw/\Q (.str (i++j)) H):=by
 intro a s σ H x y v u Q I b d h;obtain⟨i,j,rfl,rfl,c,q⟩:=h;obtain⟨t,rfl⟩:=b;obtain⟨f,rfl⟩:=d;exact add_str (λt' e=>⟨.str _,H,I.tok _,⟨_,rfl⟩,q⟩) c
theorem fA{x:V}{us:List Af}(r:Vals [x] us):∃u,us=[u]/\RelV x u:=by
 cases r with
 |cons a b=>cases b;exact⟨_,rfl,a⟩
theorem xf{x y:V}{us:List Af}(r:Vals [x,y] us):∃u w',us=[u,w']/\RelV x u/\RelV y w':=by
 cases r with
 |cons c d=>
  cases d with
  |cons b a=>cases a;exact⟨_,_,rfl,c,b⟩
end
structure ObjM(h:Heap)(x dx C:z_)(mA:Str->Option Af):Prop where
 obj:h.get? x=ae (PySem.W.instObj C dx)
 ns:h.Ns1 dx mA
 ne:dx≠x
theorem Mg{h:Heap}{dx:z_}{mA:Str->Option Af}(n:h.Ns1 dx mA):∃od,h.get? dx=ae od/\∀name,PySem.W.lookIn name od=ae (mA name):=by
 obtain⟨o,c,l,f,g,k,_,d⟩:=n;refine⟨o,f,λname=>?_⟩;have e:=d name;unfold nsFind findBy at e;rw[<-Array.find?_toList]at e;unfold PySem.W.lookIn;rw[g];dsimp only
 split
 ·rename_i y q;rw[q]at e;exact congrArg ae e
 ·rename_i q;rw[q]at e;have a:c.toList.any (·.refKey)=ai:=by
   rw[List.any_eq_false];intro y j;obtain⟨z,t,b⟩:=k y (Array.mem_toList_iff.mp j);simp[DictEntry.refKey,b]
  have i:¬c.toList.any (·.refKey)=ah:=by rw[a];simp
  rw[a_ i];exact congrArg ae e
theorem ObjM.look{h:Heap}{x dx C:z_}{mA:Str->Option Af}(I:ObjM h x dx C mA):∃od,PySem.W.InstAt h x (PySem.W.instObj C dx) C (ae od)/\∀name,PySem.W.lookIn name od=ae (mA name):=
 let⟨od,b,a⟩:=Mg I.ns
 ⟨od,⟨I.obj,rfl,rfl,b⟩,a⟩
theorem RelO.some_of{v:V}{o:Option Af}(r:RelO (ae v) o):∃u,o=ae u/\RelV v u:=by
 cases o with
 |none=>exact(r).elim
 |some u=>exact⟨u,rfl,r⟩
section
variable{P:Bb}{w:Bj}{H H':Hp}{h h':Heap}{a C dx:z_}{fs fs':List (Str×V)}
theorem Sv(hok:HOk P w H h)(e:H a=ae (.ins C dx fs)):∃mA,ObjM h a dx C mA/\(∀f,RelO (fs.lookup f) (mA f))/\PySem.Within mA (fs.map (·.1))/\fs.length<=1000/\H dx=ae (.own a):=by
 obtain⟨d,z,b,c,mA,n,r,q⟩:=(show ObjOk P w H h a (.ins C dx fs)from hok a _ e);exact⟨mA,⟨c,n,b⟩,r,q,z,d⟩
end
structure Cls(K:Ag)(C:z_):Prop where
 pg:PySem.W.plainGet K C Str.empty=ah
 hd:PySem.W.hasDictIn K C=ah
 po:PySem.W.plainOver K C=ah
 sa:PySem.W.findIn K (.ref C) "__setattr__"=ae (ae (.builtin "object.__setattr__"))
theorem Cls.get{K:Ag}{C:z_}(c:Cls K C)(f:Str):PySem.W.plainGet K C f=ah:=c.pg
section
variable{X:Cx}{h_:List (z_×Obj)}{σ:St}{H:Hp}{s:Aj}{A:Bt}{E:Af->Aj->Prop}{Q:Af->Aj->Prop}{c:Af}{b:Bool}
inductive TyOf(K:Ag)(H:Hp):V->Af->Prop where
 |non:TyOf K H .non (.type "NoneType")
 |bl (x:Bool):TyOf K H (.bl x) (.type "bool")
 |int (i:Int):TyOf K H (.int i) (.type "int")
 |str (x:Str):TyOf K H (.str x) (.type "str")
 |flt (x:UInt64):TyOf K H (.flt x) (.type "float")
 |lst {a:z_} {xs:List V} (e:H a=ae (.lst xs)):TyOf K H (.ref a) (.type "list")
 |frz {a:z_} {o:Obj} {xs:List V} (e:H a=ae (.frz o (.lst xs))):TyOf K H (.ref a) (.type "list")
 |tup {a:z_} {xs:List V} (e:H a=ae (.tup xs)):TyOf K H (.ref a) (.type "tuple")
 |dK {a:z_} {kvs:List (aF×V)} (e:H a=ae (.dK kvs)):TyOf K H (.ref a) (.type "dict")
 |dT {a:z_} {kvs:List (List aF×V)} (e:H a=ae (.dT kvs)):TyOf K H (.ref a) (.type "dict")
 |ins {a C dx:z_} {fs:List (Str×V)} (e:H a=ae (.ins C dx fs)) (cl:Cls K C) (ha:PySem.W.findIn K (.ref C) "__class__"=ae (ae (.builtin "object.__class__")))
   (hn:PySem.W.specialIn K (.builtin "object.__class__") "__get__"=ae (ae (.builtin "getset_descriptor.__get__"))) (htk:PySem.W.takesIn K (.builtin "object.__class__")=ae ah)
   (hm:PySem.W.mroIn K C (.type "object")=ae ah):TyOf K H (.ref a) (.ref C)
theorem M5{x:V}{u t:Af}(I:Inv X h_ σ H s)(rx:RelV x u)(ty:TyOf X.K H x t)(e:PySem.W.kitOne X.K t c=ae b)(h:∀tk,Q (.bool b) {s with toks:=tk}):
  A6 (A9 X.prog X.w) A (call (.builtin "isinstance") [u,c]) Q E s:=by
 cases ty with
 |non=>cases(rx);exact C2 PySem.W.kitx_none I.kIn Ge e (λz=>nomatch z) h
 |bl y=>cases(rx);exact C2 PySem.W.kitx_bool I.kIn Ge e (λz=>nomatch z) h
 |int i=>obtain⟨t,q⟩:=(rx);cases q;exact C2 PySem.W.kitx_int I.kIn Ge e (λz=>nomatch z) h
 |str y=>obtain⟨t,q⟩:=(rx);cases q;exact C2 PySem.W.kitx_str I.kIn Ge e (λz=>nomatch z) h
 |flt y=>obtain⟨t,q⟩:=(rx);cases q;exact C2 PySem.W.kitx_float I.kIn Ge e (λz=>nomatch z) h
 |@lst a k d=>
  cases(rx);obtain⟨_,_,n,_,f⟩:=(show ObjOk X.prog X.w H s.heap a (.lst k)from I.hok a _ d);exact C2 PySem.W.kitx_list I.kIn ⟨_,f,rfl⟩ e (λz=>nomatch z) h
 |@frz a S k d=>
  cases(rx);obtain⟨_,_,_,n,_,f⟩:=(show ObjOk X.prog X.w H s.heap a (.frz S _)from I.hok a _ d);exact C2 PySem.W.kitx_list I.kIn ⟨_,f,rfl⟩ e (λz=>nomatch z) h
 |@tup a k d=>
  cases(rx);obtain⟨_,_,_,p⟩:=(show ObjOk X.prog X.w H s.heap a (.tup k)from I.hok a _ d);obtain⟨o,f,j,_⟩:=p;exact C2 PySem.W.kitx_tuple I.kIn ⟨o,f,j⟩ e (λz=>nomatch z) h
 |@dK a g d=>
  cases(rx);obtain⟨_,_,Z,_,p⟩:=(show ObjOk X.prog X.w H s.heap a (.dK g)from I.hok a _ d);obtain⟨o,F,M,f,j,_⟩:=p;exact C2 PySem.W.kitx_dict I.kIn ⟨o,f,j.1⟩ e (λz=>nomatch z) h
 |@dT a g d=>
  cases(rx);obtain⟨_,_,k,_,o,F,M,f,j,_⟩:=(show ObjOk X.prog X.w H s.heap a (.dT g)from I.hok a _ d);exact C2 PySem.W.kitx_dict I.kIn ⟨o,f,j.1⟩ e (λz=>nomatch z) h
 |@ins a C dx fs d m U N l D=>
  cases(rx);obtain⟨Y,O,_⟩:=Sv I.hok d;obtain⟨od,J,_⟩:=O.look;exact C2 (PySem.W.kitx_own (m.get _) m.hd U N l D) I.kIn J e (λz=>nomatch z) h
end
structure Room(k:Nat)(A:Bt):Prop where
 hd:A.handled=af
 dp:A.depth+3*k+5 < recursionLimit
 un:A.units+16*k+200 < C9
 gd:A.guards=ae []
theorem Room.mono{j k:Nat}{A:Bt}(r:Room k A)(h:j<=k):Room j A:=⟨r.hd,by have:=r.dp;omega,by have:=r.un;omega,r.gd⟩
theorem Room.deeper{k:Nat}{A:Bt}(r:Room (k+1) A)(env:Env):Room k (A.deeper env):=
 ⟨r.hd,by have:=r.dp;show A.depth+1+3*k+5 < _;omega,by have:=r.un;show A.units+3+16*k+200 < _;omega,r.gd⟩
theorem Room.depth{k:Nat}{A:Bt}(r:Room k A):A.depth < recursionLimit:=by have:=r.dp;omega
theorem Room.units{k:Nat}{A:Bt}(r:Room k A):A.units+64 < C9:=by have:=r.un;omega
theorem Room.units0{k:Nat}{A:Bt}(r:Room k A):A.units < C9:=by have:=r.un;omega
def bf:TA:=λ_ H Q=>Q [] H
def bJ(ta:TE)(tr:TA):TA:=λσ H Q=>ta σ H λx H1=>tr σ H1 λxs H2=>Q (x::xs) H2
section
variable{X:Cx}{e:Expr}{es:List Expr}{te:TE}{t:TA}{pos:Pos}
theorem eu:PA X [] bf:=λ_ _ _ _ H Q I h=>Calls.spliced_nil ⟨[],H,I,.nil,h⟩
theorem cw(ha:PE X e te)(hr:PA X es t)(hs:Ar (e::es) X.env=(ai,eval e X.env)::Ar es X.env:=by rfl):PA X (e::es) (bJ te t):=by
 intro b a s σ H Q I h;rw[hs];show A6 _ _ (spliced ((ai,eval e X.env)::Cp b _)) _ _ s;exact Calls.spliced_cons (aO (ha a s σ H _ I h) λu m u=>by obtain⟨x,i,j,k,f⟩:=u;exact aO (hr b a m σ i _ j f) λus n v=>by obtain⟨o,g,c,l,d⟩:=v;exact ⟨_,g,c,.cons k l,d⟩)
def la(t:TA):TE:=λσ H Q=>t σ H λxs H1=>xs.length<=Aw/\∀p,H1 p=af->Q (.ref p) (upd H1 p (.tup xs))
def i4(t:TA):TE:=λσ H Q=>t σ H λxs H1=>xs.length<=Aw/\∀p,H1 p=af->Q (.ref p) (upd H1 p (.lst xs))
theorem Qs{x1}(h:PA X es t):PE X (.Tuple es x1 pos) (la t):=by
 intro a s σ H Q I f;refine wpAny_Tuple_spliced (aO (h pos a s σ H _ I f) λus d ⟨g,j,c,r,z,q⟩=>⟨by rw[<-r.length];exact z,?_⟩);refine⟨.ref d.heap.objs.size,_,c.laid (λb u e=>Ae _ e) (Ao _) ?_,rfl,q _ (c.hok.fresh (Ao _))⟩;exact⟨z,us,r,IsTupP.new _ _⟩
theorem pL(h:PA X es t):PE X (.List es pos) (i4 t):=by
 intro a s σ H Q I f;refine wpAny_List_spliced (aO (h pos a s σ H _ I f) λus d ⟨g,j,c,r,z,q⟩=>⟨by rw[<-r.length];exact z,?_⟩);refine⟨.ref d.heap.objs.size,_,c.laid (λb u e=>Ae _ e) (Ao _) ?_,rfl,q _ (c.hok.fresh (Ao _))⟩;exact⟨z,us,0,r,Av _ rfl⟩
end
abbrev Sp:=List V->Hp->VK->XK->Prop
abbrev gT:=List Env->Hp->Aj->XK->Af->Aj->Prop
structure Env0(P:Bb)(w:Bj)(K:Ag)(mg:Str->Option Af)(base:Heap)(A:Bt)(outer:List Env)(s:Aj)(H:Hp):Prop where
 frames:A.frames=ae outer
 mod:Mod K mg base
 bs:∀b o,base.get? b=ae o->s.heap.get? b=ae o/\H b=af
 bsz:base.objs.size<=s.heap.objs.size
 funs:s.heap.FunFrames base outer
 frf:∀b∈gS outer,H b=af
 hok:HOk P w H s.heap
 bare:AllBare s.gens
def CE(outer:List Env)(P:Bb)(w:Bj)(H:Hp)(s:Aj)(Q:VK)(u:Af)(s':Aj):Prop:=
 ∃v H',s'.os=s.os/\AllBare s'.gens/\Un (gS outer) [] H H' s.heap s'.heap/\HOk P w H' s'.heap/\RelV v u/\Q v H'
def CR(CX:gT)(outer:List Env)(P:Bb)(w:Bj)(H:Hp)(s:Aj)(Q:VK)(E:XK)(r:Result)(s':Aj):Prop:=
 match r with
 |.ok (.ret u)=>CE outer P w H s Q u s'
 |.ok _=>False
 |.error e=>CX outer H s E e s'
structure FnOk(P:Bb)(w:Bj)(K:Ag)(mg:Str->Option Af)(base:Heap)(CX:gT)(k:Nat)(f:z_)(fd:B8)(ps:List Str)(sp:Sp):Prop where
 len:∀vs H Q E,sp vs H Q E->vs.length=ps.length
 run:∀(A:Bt)(outer:List Env)(s:Aj)(H:Hp)(args:Args)(us:List Af)(vs:List V)(Q:VK)(E:XK),Room k A->Env0 P w K mg base A outer s H->BindsTo s fd args (ps.zip us)->Vals vs us->sp vs H Q E->
  Fz (A9 P w) A (.call (.ref f) args) (CR CX outer P w H s Q E) s
theorem FnOk.imp{P:Bb}{w:Bj}{K:Ag}{mg:Str->Option Af}{base:Heap}{CX:gT}{k:Nat}{f:z_}{fd:B8}{ps:List Str}{sp sp':Sp}(F:FnOk P w K mg base CX k f fd ps sp)
  (h:∀vs H Q E,sp' vs H Q E->sp vs H Q E):FnOk P w K mg base CX k f fd ps sp':=
 ⟨λvs H Q E q=>F.len vs H Q E (h _ _ _ _ q),λA a s H b i vs Q E g d e c j=>F.run A a s H b i vs Q E g d e c (h _ _ _ _ j)⟩
section
variable{X:Cx}{h_:List (z_×Obj)}{σ:St}{H:Hp}{s s':Aj}
theorem Inv.env0(I:Inv X h_ σ H s):Env0 X.prog X.w X.K X.mg X.base X.A X.stack s H:=
 ⟨I.ok.frames,I.ok.mod,I.bs,Ba I.ok.bsz I.sz,I.stack,I.stkFree,I.hok,I.bare⟩
theorem Inv.after{Q:VK}{u:Af}(I:Inv X h_ σ H s)(h:CE X.stack X.prog X.w H s Q u s'):EP X h_ σ Q u s':=by
 obtain⟨v,d,e,a,f,c,r,q⟩:=h;obtain⟨g,_⟩:=s';obtain rfl:=e;exact⟨v,d,I.call f c a (λb z=>f_ z (by simp)),r,q⟩
end
def eL(sp:Sp)(dvs:List V)(E:XK)(t:TA):TE:=λσ H Q=>t σ H λvs H1=>sp (vs++dvs) H1 Q E
def Binds(K:Ag)(fd:B8)(ps:List Str)(ds:List Af):Prop:=
 ∀(s:Aj)(us:List Af),K.In s.heap->(us++ds).length=ps.length->BindsTo s fd ⟨us,[]⟩ (ps.zip (us++ds))
theorem Binds.all{K:Ag}{fd:B8}{ps:List Str}(h:∀us:List Af,us.length=ps.length->bindArgs fd ⟨us,[]⟩=pure (ps.zip us)):Binds K fd ps []:=λs us _ a=>by
 rw[Bh]at a ⊢;exact .of_eq (h us a)
def vb(CX:gT)(X:Cx)(E:XK):Prop:=∀(h_:List (z_×Obj))(σ:St)(H:Hp)(s:Aj)(e:Af)(s':Aj),Inv X h_ σ H s->CX X.stack H s E e s'->X.xe e s'
section
variable{X:Cx}{CX:gT}{k:Nat}{f C:z_}{fd:B8}{ps:List Str}{sp:Sp}{dvs:List V}{ds:List Af}{E:XK}{x m:Str}{p pos apos:Pos}{e o:Expr}{es:List Expr}{ta:TE}{t:TA}
theorem Jg{h_:List (z_×Obj)}{σ:St}{H:Hp}{s:Aj}{Q:VK}{us:List Af}{vs:List V}(F:FnOk X.prog X.w X.K X.mg X.base CX k f fd ps sp)(hr:Room k X.A)(hb:Binds X.K fd ps ds)(hd:Vals dvs ds)(hx:vb CX X E)
  (I:Inv X h_ σ H s) (r:Vals vs us) (h:sp (vs++dvs) H Q E):A6 (A9 X.prog X.w) X.A (call (.ref f) us) (EP X h_ σ Q) X.xe s:=by
 have g:=r.append hd;have i:(us++ds).length=ps.length:=by rw[<-g.length];exact F.len _ _ _ _ h
 refine wpAny_call (codeAny_mono (F.run X.A X.stack s H _ _ _ Q E hr I.env0 (hb s us I.kIn i) g h) λr l a=>?_);cases r with
 |error e=>exact hx h_ σ H s e l I a
 |ok n=>
  cases n with
  |ret u=>exact I.after a
  |next=>exact False.elim a
  |brk=>exact False.elim a
  |cont=>exact False.elim a
theorem jN(F:FnOk X.prog X.w X.K X.mg X.base CX k f fd ps sp)(hr:Room k X.A)(hg:Gl X x)(hm:X.mg x=ae (.ref f))(hk:Co X.K (.ref f)=ah)(hb:Binds X.K fd ps ds)(hd:Vals dvs ds)(hx:vb CX X E)
  (ha:PA X (e::es) t) (hdb:(x==("__debug__":Str))=ai:=by decide) (he:Ar (e::es) X.env=(ai,eval e X.env)::Ar es X.env:=by rfl) (p_:(Cp pos (Ar es X.env)).any (·.1)=ai:=by rfl):
  PE X (.Call (.Name x p) (e::es) [] pos) (eL sp dvs E t):=by
 intro a s σ H Q I h;refine F6 (wQ I hg hm (PySem.W.callWith_K I.ok.mod.kin hk (aO (ha pos a s σ H _ I h) λus d ⟨c,g,b,r,q⟩=>⟨b.kIn,?_⟩) he p_) hdb);exact Jg F hr hb hd hx b r q
end
structure FnScope(N P:List Str)(sc:Et):Prop where
 kind:sc.kind=.function
 co:sc.isCoroutine=ai
 gen:sc.isGenerator=ai
 nd:N.Nodup
 pre:N.take P.length=P
 par:∀x∈P,sc.names.lookup x=ae .local\/sc.names.lookup x=ae .cell
 nofree:∀y∈sc.names,y.2≠.free
theorem xh{kindOf:Str->Option NameKind}{x:Str}:∀{binds:List (Str×Af)}{m:Str->Option Af},(∀v,(x,v)∉binds)->bindL kindOf binds m x=m x
 |[],_,_=>rfl
 | (n,v)::r,m,h=>by
  unfold bindL;rw[xh λw a=>h w (Ak _ a)]
  split
  ·have:x≠n:=by rintro rfl;exact h v Ap
   simp[this]
  ·rfl
theorem zG{kindOf:Str->Option NameKind}{x:Str}:∀{binds:List (Str×Af)}{m:Str->Option Af},(∀v,(x,v)∉binds)->bindC kindOf binds m x=m x
 |[],_,_=>rfl
 | (n,v)::r,m,h=>by
  unfold bindC;rw[zG λw a=>h w (Ak _ a)]
  split
  ·rfl
  ·have:x≠n:=by rintro rfl;exact h v Ap
   simp[this]
theorem CA{kindOf:Str->Option NameKind}{x:Str}{v:Af}:∀{P:List Str}{vs:List Af}{i:Nat}{m:Str->Option Af},P.Nodup->P[i]?=ae x->vs[i]?=ae v->kindOf x=ae .local->
  bindL kindOf (P.zip vs) m x=ae v
 |[],_,_,_,_,h,_,_=>by simp at h
 |_::_,[],_,_,_,_,h,_=>by simp at h
 |p::P,w::vs,0,m,b,c,a,d=>by
  simp at c a;subst c;subst a;show bindL kindOf ((p,w)::P.zip vs) m p=_;unfold bindL;rw[xh λv e=>(Du.mp b).1 (Fs e).1,a' d];simp
 |p::P,w::vs,i+1,m,b,c,a,d=>by
  unfold bindL;exact CA (Du.mp b).2 (by assumption) (by assumption) d
theorem yv{kindOf:Str->Option NameKind}{x:Str}{v:Af}:∀{P:List Str}{vs:List Af}{i:Nat}{m:Str->Option Af},P.Nodup->P[i]?=ae x->vs[i]?=ae v->kindOf x≠ae .local->
  bindC kindOf (P.zip vs) m x=ae v
 |[],_,_,_,_,h,_,_=>by simp at h
 |_::_,[],_,_,_,_,h,_=>by simp at h
 |p::P,w::vs,0,m,b,c,a,d=>by
  simp at c a;subst c;subst a;show bindC kindOf ((p,w)::P.zip vs) m p=_;unfold bindC;rw[zG λv e=>(Du.mp b).1 (Fs e).1,a_ d];simp
 |p::P,w::vs,i+1,m,b,c,a,d=>by
  unfold bindC;exact yv (Du.mp b).2 (by assumption) (by assumption) d
def start(N:List Str)(vs:List V):St:=vs.map ae++C5 (N.length-vs.length) af
def cn(CX:gT)(P:Bb)(w:Bj)(K:Ag)(mg:Str->Option Af)(base:Heap)(N:List Str)(qual:Str)(scope:Et)(f:z_)(cd:Af)(A:Bt)(outer:List Env)(s:Aj)(H:Hp)(E:XK):Cx where
 prog:=P
 w:=w
 K:=K
 mg:=mg
 base:=base
 A:=A.deeper (envOfC qual scope s.heap.objs.size f cd)
 N:=N
 s₀:=s
 H₀:=H
 env:=envOfC qual scope s.heap.objs.size f cd
 outer:=outer
 stack:=envOfC qual scope s.heap.objs.size f cd::outer
 ex:=[]
 calm:=ah
 fn:=λ_=>ah
 pn:=[]
 xe:=λe s'=>A6 (A9 P w) (A.deeper (envOfC qual scope s.heap.objs.size f cd)) (leaving (envOfC qual scope s.heap.objs.size f cd) e) (λ_ s''=>CX outer H s E e s'') (λe' s''=>CX outer H s E e' s'') s'
theorem CB{sc:Et}{n:Nat}{x:Str}(h:sc.names.lookup x=ae .cell):∃c,(cellsFrom n sc.names []).lookup x=ae c:=by
 exact C1.mp (PySem.W.cellsFrom_some sc.names n [] (.inl h))
theorem RE{CX:gT}{P:Bb}{w:Bj}{K:Ag}{mg:Str->Option Af}{base:Heap}{N ps:List Str}{qual:Str}{scope:Et}{f:z_}{cd:Af}{A:Bt}{outer:List Env}{s s1:Aj}{H:Hp}{E:XK}{us:List Af}{vs:List V}
  (S:FnScope N ps scope) (hd:A.handled=af) (e0:Env0 P w K mg base A outer s H) (hl:vs.length=ps.length) (r:Vals vs us)
  (x:InCallC s s.heap.objs.size (bindL (envOfC qual scope s.heap.objs.size f cd).kindOf (ps.zip us) λ_=>af) (cellsFrom (s.heap.objs.size+1) scope.names []) (bindC (envOfC qual scope s.heap.objs.size f cd).kindOf (ps.zip us) λ_=>af) s1):
  Inv (cn CX P w K mg base N qual scope f cd A outer s H E) [] (start N vs) H s1:=by
 have D:ps.length<=N.length:=by have:=congrArg Dn S.pre;rw[Ef]at this;omega
 obtain⟨o,I,rfl,t⟩:=x.done;have j:∀b:z_,b∉(cn CX P w K mg base N qual scope f cd A outer s H E).ex:=λb z=>f_ (show b∈([]:List z_)from z) (by simp);refine⟨⟨e0.mod,S.kind,rfl,rfl,Ao _,λy z c o d=>?_,λy g=>?_,λy c _ h=>?_,λ_=>hd,Around.frames_deeper e0.frames,.inr ⟨rfl,rfl⟩,λb z=>f_ z (j b),e0.bs,e0.bsz,λb _ _=>j b,λb z=>f_ z (j b),e0.funs,e0.frf⟩,
  rfl,e0.bare,Un.kept t,⟨_,x.toInCall.ns,λi y v o d G=>?_⟩,λy c h=>⟨_,x.cell y c h⟩,e0.hok.fresh (Ao _),λy c h=>?_,λp m=>f_ (show p∈([]:List _)from m) (by simp),e0.hok.kept t,?_⟩
 ·exact name_of_addr x.apart (Fg o) (Fg d)
 ·have g:=g;rcases g with g|g
  ·exact CB g
  ·exact f_ rfl (S.nofree _ (Fg g))
 ·exact F7 (x.above y c (Fg h))
 ·have n:i < vs.length:=by
   unfold start at d;by_cases n:i < vs.length
   ·exact n
   ·rw[List.getElem?_append_right (by simpa using n)]at d;rw[Eg]at d
    simp_all
  have F:vs[i]?=ae v:=by
   unfold start at d;rw[Fi (by simpa using n),Am]at d;cases e:vs[i]? with
   |none=>rw[e]at d;cases d
   |some a=>rw[e]at d;cases d;rfl
  obtain⟨u,B,C⟩:=r.get F;have m:ps[i]?=ae y:=by
   rw[<-S.pre,List.getElem?_take_of_lt ⋯];trivial
  have l:ps.Nodup:=by rw[<-S.pre];exact S.nd.sublist (List.take_sublist _ _)
  refine⟨u,C,?_⟩;rcases S.par y (Ay m)with k|k
  ·exact .inl ⟨k,CA l m B k⟩
  ·obtain⟨c,e⟩:=CB k;refine .inr ⟨.inl k,c,e,?_⟩;have q:=x.cell y c e;rw[yv l m B (by show scope.names.lookup y≠_;rw[k];decide)]at q;exact q
 ·exact e0.hok.fresh (F7 (x.above y c (Fg h)))
 ·unfold start;show _=N.length;rw[An,Ab,List.length_replicate];omega
theorem Md{CX:gT}{P:Bb}{w:Bj}{K:Ag}{mg:Str->Option Af}{base:Heap}{k:Nat}{f:z_}{name qual:Str}{params:Arguments}{body:List Stmt}{scope:Et}{dV kV doc pm m_ ct oc:Af}{an od:Option z_}
  {osl:Array (Option Af)} {N ps:List Str} {sp:Sp} (lk:K.lookup f=ae ⟨oc,od,.func (E5 name qual params body scope dV kV doc pm an m_ ct),osl⟩) (q_:PySem.W.codeIn K m_ qual=ah) (S:FnScope N ps scope)
  (len:∀vs H Q E,sp vs H Q E->vs.length=ps.length)
  (hbody:∀(A:Bt)(outer:List Env)(s:Aj)(H:Hp)(vs:List V)(Q:VK)(E:XK),Room k (A.deeper (envOfC qual scope s.heap.objs.size f m_))->sp vs H Q E->
   ∃t,PSs (cn CX P w K mg base N qual scope f m_ A outer s H E) body t/\t {nx:=λ_ H'=>Q .non H',rt:=Q} (start N vs) H):
  FnOk P w K mg base CX (k+1) f (E5 name qual params body scope dV kV doc pm an m_ ct) ps sp:=by
 refine⟨len,λA outer s H G T vs Q E p h Y r i=>?_⟩;have D:=h.mod.kin.keeps λb o e=>(h.bs b o e).1;have d:∀y∈ps.zip T,scope.names.lookup y.1=ae .local\/(scope.names.lookup y.1=ae .cell/\((cellsFrom (s.heap.objs.size+1) scope.names []).lookup y.1).isSome=ah):=λ⟨n,v⟩ Z=>by
  rcases S.par n (Fs Z).1 with q|q
  ·exact .inl q
  ·exact .inr ⟨q,PySem.W.cellsFrom_some _ _ _ (.inl q)⟩
 refine codeAny_call_function p.depth (D _ _ lk) rfl S.co S.gen rfl (PySem.W.codeRec_of D q_) (Y _ _ _ _ (wpAny_newFunctionEnv_cells S.kind d λenv M L x=>?_));subst M;refine⟨(h.mod.nolimit.keeps λb o e=>(h.bs b o e).1).keeps x.toInCall.keep,codeAny_func ?_⟩;obtain⟨t,R,U⟩:=hbody A outer s H vs Q E (p.deeper _) i;have I:Inv (cn CX P w K mg base N qual scope f m_ A outer s H E) [] _ H L:=RE S p.hd h (len _ _ _ _ i) r x;refine Dc (R [] L _ H _ I U) (λfl z g=>?_) λe z g=>g;have j:∀{l:St}{H':Hp}{v:V}{u:Af},Inv (cn CX P w K mg base N qual scope f m_ A outer s H E) [] l H' z->RelV v u->Q v H'->CE outer P w H s Q u z:=
  λ{l H' v u} J m q=>⟨v,H',J.os,J.bare,J.base,J.hok,m,q⟩
 cases fl with
 |ret u=>
  obtain⟨v,l,H',J,m,q⟩:=g;exact j J m q
 |next=>
  obtain⟨l,H',J,q⟩:=g;exact j (v:=V.non) J rfl q
 |brk=>
  obtain⟨_,_,_,q⟩:=g;exact False.elim q
 |cont=>
  obtain⟨_,_,_,q⟩:=g;exact False.elim q
section
variable{X:Cx}{x:Str}{p pos:Pos}{e:Expr}{es:List Expr}{t:TA}{id T:String}{r:List V->Hp->VK->Prop}
def fk(r:List V->Hp->VK->Prop)(t:TA):TE:=λσ H Q=>t σ H λvs H1=>r vs H1 Q
theorem jG(hc:CallR X (.builtin id) r)(hg:Gl X x)(hm:X.mg x=af)(hv:Bm x=ae (.builtin id))(ha:PA X (e::es) t)(hn:x≠"__name__":=by decide)(hdb:(x==("__debug__":Str))=ai:=by decide)
  (he:Ar (e::es) X.env=(ai,eval e X.env)::Ar es X.env:=by rfl) (p_:(Cp pos (Ar es X.env)).any (·.1)=ai:=by rfl):PE X (.Call (.Name x p) (e::es) [] pos) (fk r t):=λh_ s σ H Q I h=>F6 (jv I hg hm hv (PyProof.Rows.callWith_builtin1 (aO (ha pos h_ s σ H _ I h) λus f u=>by obtain⟨d,i,c,g,b⟩:=u;exact hc h_ f σ i d us Q c g b) he p_) hn hdb)
theorem m6(hc:CallR X (.type T) r)(hg:Gl X x)(hm:X.mg x=af)(hv:Bm x=ae (.type T))(ha:PA X (e::es) t)(hn:x≠"__name__":=by decide)(hdb:(x==("__debug__":Str))=ai:=by decide)
  (he:Ar (e::es) X.env=(ai,eval e X.env)::Ar es X.env:=by rfl) (p_:(Cp pos (Ar es X.env)).any (·.1)=ai:=by rfl):PE X (.Call (.Name x p) (e::es) [] pos) (fk r t):=λh_ s σ H Q I h=>F6 (jv I hg hm hv (C3 (aO (ha pos h_ s σ H _ I h) λus f u=>by obtain⟨d,i,c,g,b⟩:=u;exact hc h_ f σ i d us Q c g b) he p_) hn hdb)
end
end L2
namespace HT
open PySem PyProof.Rows
section
variable{prog:Bb}{w:Bj}{A:Bt}{E:Af->Aj->Prop}{s:Aj}
theorem cat_tup{t b:z_}{vs ws:List Af}{Q:Af->Aj->Prop}(ht:IsTup s.heap t vs.toArray)(hb:IsTup s.heap b ws.toArray)(hv:vs≠[])
  (h1:ws=[]->Q (.ref t) s) (h2:ws≠[]->Q (.ref s.heap.objs.size) {s with heap:=s.heap.push {cls:=.type "tuple",data:=.seq (vs++ws).toArray}})
  (hsz:vs.length+ws.length<=Aw):A6 (A9 prog w) A (Es .Add (.ref t) (.ref b)) Q E s:=by
 obtain⟨⟨cls,j,_,l⟩,h,k,n,m⟩:=id ht;obtain⟨⟨_,g,_,f⟩,a,c,o,d⟩:=id hb;simp only at k m c d;subst k m c d;have e:vs.toArray++ws.toArray=(vs++ws).toArray:=by simp
 by_cases i:ws=[]
 ·exact concat_meets ⟨_,h,rfl⟩ ⟨_,a,rfl⟩ noFill_tuple_add seq_tuple_add Ft Fo (Fh _ _)
   (tuple_addW1 t b vs.toArray ws.toArray n o j g l f (by simpa using hv) (by simp[i])) ⟨h,a,h1 i⟩
 ·refine concat_meets ⟨_,h,rfl⟩ ⟨_,a,rfl⟩ noFill_tuple_add seq_tuple_add Ft Fo (Fh _ _)
   (tuple_addW2 t b vs.toArray ws.toArray n o j g l f (by simpa using hv) (by simpa using i) ⋯) ⟨h,a,?_⟩
  rw[e];exact h2 i
def sIx(n d:Nat):Option Int->Nat
 |none=>d
 |some v=>if v < 0 then(v+(n:Int)).toNat else min v.toNat n
theorem sIx_none(n d:Nat):sIx n d af=d:=rfl
theorem sIx_nat(n d k:Nat):sIx n d (ae (k:Int))=min k n:=by
 rfl
theorem Tz(n d:Nat)(hd:d<=n)(o:Option Int):sIx n d o<=n:=by
 cases o with
 |none=>exact hd
 |some v=>
  show(if v < 0 then(v+n).toNat else min v.toNat n)<=n;by_cases a:v < 0
  ·rw[a' a];omega
  ·rw[a_ a];exact Nat.min_le_right _ _
theorem DX(v:Int)(n d:Nat):(if v < 0 then max (v+(n:Int)) 0 else min v (n:Int))=((sIx n d (ae v):Nat):Int):=by
 show(if v < 0 then max _ 0 else min v _)=(((if v < 0 then(v+n).toNat else min v.toNat n):Nat):Int);by_cases a:v < 0
 ·simp only[a' a];omega
 ·simp only[a_ a];omega
theorem J3(lo hi:Option Int)(n:Nat):Gh lo hi 1 (n:Int)=(((sIx n 0 lo:Nat):Int),((sIx n n hi:Nat):Int)):=by
 have a:¬((1:Int) < 0):=by omega
 unfold Gh;refine Prod.ext ?_ ?_
 ·cases lo with
  |none=>rfl
  |some v=>exact DX v n 0
 ·cases hi with
  |none=>rfl
  |some v=>exact DX v n n
theorem GB(i j:Nat):Gg (i:Int) (j:Int) 1=j-i:=by
 unfold Gg;have a:(1:Int) > 0:=by omega
 simp
 grind
theorem CD{v:Af}{o:Option Int}{Q:Option Int->Aj->Prop}(p:IsPart v o)(h:Q o s):A6 (A9 prog w) A (Builtin.Slice.slicePartIndex v) Q E s:=by
 cases p with
 |none=>exact slicePart_none h
 |int i t=>exact slicePart_int h
theorem FJ{sl:z_}{vl vu:Af}{lo hi:Option Int}{n:Nat}{Q:Int×Int×Nat->Aj->Prop}(hs:s.heap.IsSliceOf sl vl vu .none)(pl:IsPart vl lo)(pu:IsPart vu hi)
  (h:Q (((sIx n 0 lo:Nat):Int),1,sIx n n hi-sIx n 0 lo) s):A6 (A9 prog w) A (Builtin.Slice.sliceApplied (.ref sl) (pure (n:Int))) Q E s:=by
 obtain⟨d,b,c,a⟩:=id hs;refine Aa (Aa (De b a (x:=vl) rfl (Aa (De b a (x:=vu) rfl (Aa (De b a rfl (Ai (Aa (slicePart_none ?_)))))))));refine Aa (CD pl (Aa (CD pu (Aa (Ai ?_)))));show A6 _ _ (match Gh lo hi 1 (n:Int)with|(lo,hi)=>pure (lo,(1:Int),Gg lo hi 1)) _ _ s;rw[J3 lo hi n];show A6 _ _ (pure _) _ _ s;rw[GB];exact Ai h
theorem HL(xs:Array Af)(i k:Nat):((A8 k).filterMap λ(m:Nat)=>xs[((i:Int)+(m:Int)*1).toNat]?).toArray=((xs.toList.drop i).take k).toArray:=by
 have e:(λ(m:Nat)=>xs[(i+(m:Int)*1).toNat]?)=λm=>xs[i+m]?:=by
  funext m
  have:(i+(m:Int)*1).toNat=i+m:=by omega
  rw[this]
 rw[e];have:=pick_run xs i k;rw[List.filterMap_map]at this;have a:((λx=>xs[x]?) ∘ λx=>i+x)=λm=>xs[i+m]?:=rfl;rw[a]at this;rw[this]
theorem getItem_tuple_cut{t sl:z_}{items:Array Af}{vl vu:Af}{lo hi:Option Int}{Q:Af->Aj->Prop}(ht:IsTup s.heap t items)(hs:s.heap.IsSliceOf sl vl vu .none)(pl:IsPart vl lo)(pu:IsPart vu hi)
  (hw:¬(sIx items.size 0 lo=0/\sIx items.size items.size hi=items.size))
  (h:Q (.ref s.heap.objs.size) {s with heap:=s.heap.push {cls:=.type "tuple",data:=.seq ((items.toList.drop (sIx items.size 0 lo)).take (sIx items.size items.size hi-sIx items.size 0 lo)).toArray}})
  (hsz:items.size<=Aw):A6 (A9 prog w) A (getItem (.ref t) (.ref sl)) Q E s:=by
 have a:=by
  show((items.toList.drop (sIx items.size 0 lo)).take (sIx items.size items.size hi-sIx items.size 0 lo)).toArray.size<=Aw;rw[Bd,Ef,Dl,B6];omega
 obtain⟨f,e,c,g⟩:=id hs;have d:s.TypeIs (.ref sl) "slice":=⟨f,e,c⟩;unfold getItem
 try with_reducible refine B7 ?_
 first|refine Aa _|skip
 refine Aa (wpAny_sequenceKey ht.typeIs ∎ ?_);refine Aa (Bp ht.typeIs D2
  (B2 D2 ht.typeIs entry_tuple_getitem ?_ (args_tuple_getitem _ _)))
 show A6 _ _ (Gb _>>=_) _ _ s;refine Aa (tupleItemsOf_ ht (Aa (Fq d ?_)));refine Aa (FJ hs pl pu ?_);have b:¬((((sIx items.size 0 lo:Nat):Int)==0&&(1:Int)==1&&(sIx items.size items.size hi-sIx items.size 0 lo)==items.size)=ah):=by
  intro q;rw[Bu,Bu]at q;have i:=eq_of_beq q.1.1;simp_all
 show A6 _ _ (if _=ah then _ else _) _ _ s;rw[a_ b,HL]
 first
  |exact Aa _
  |exact Aa (B1 (Aa (Ai (Ai ⟨_,rfl,Ai h⟩))) a)
  |exact Aa _
  |exact Aa _
end
end HT
namespace L2
open PySem PySem.Spec PyProof.Rows
abbrev TO:=St->Hp->(Option Int->Hp->Prop)->Prop
def PO(X:Cx)(e:Option Expr)(t:TO):Prop:=
 ∀(h_:List (z_×Obj))(s:Aj)(σ:St)(H:Hp)(Q:Option Int->Hp->Prop),Inv X h_ σ H s->t σ H Q->
  A6 (A9 X.prog X.w) X.A (evalPart e X.env) (λu s'=>∃o H',Inv X h_ σ H' s'/\IsPart u o/\Q o H') X.xe s
def FD:TO:=λ_ H Q=>Q af H
def yB(t:TE):TO:=λσ H Q=>t σ H λx H1=>∃i,x=.int i/\Q (ae i) H1
section
variable{X:Cx}{e:Expr}{te:TE}{lo hi:Option Expr}{tl th:TO}{pos p2:Pos}
theorem wY:PO X af FD:=λh_ s σ H Q I h=>Ai ⟨_,H,I,.none,h⟩
theorem xq(h:PE X e te):PO X (ae e) (yB te):=by
 intro a s σ H Q I d;refine aO (h a s σ H _ I d) λu j u=>?_;obtain⟨x,g,c,f,b⟩:=u;obtain⟨i,rfl,q⟩:=b;obtain⟨t,rfl⟩:=f;exact⟨_,g,c,.int i t,q⟩
def SlR(X:Cx)(r:V->Option Int->Option Int->Hp->VK->Prop):Prop:=
 ∀(h_:List (z_×Obj))(s:Aj)(σ:St)(H:Hp)(x:V)(v vl vu:Af)(lo hi:Option Int)(sl:z_)(Q:VK),Inv X h_ σ H s->RelV x v->s.heap.IsSliceOf sl vl vu .none->IsPart vl lo->IsPart vu hi->r x lo hi H Q->
  ∃T id,typeLookup (.type T) "__getitem__"=pure (ae (.builtin id))/\s.TypeIs v T/\A6 (A9 X.prog X.w) X.A (getItem v (.ref sl)) (EP X h_ σ Q) X.xe s
theorem SlR.or{r r':V->Option Int->Option Int->Hp->VK->Prop}(h:SlR X r)(h':SlR X r'):SlR X (λx lo hi H Q=>r x lo hi H Q\/r' x lo hi H Q):=by
 intro a s σ H x v g c lo hi i Q I b f d e q;rcases q with q|q
 ·exact h a s σ H x v g c lo hi i Q I b f d e q
 ·exact h' a s σ H x v g c lo hi i Q I b f d e q
def yH(r:V->Option Int->Option Int->Hp->VK->Prop)(te:TE)(tl th:TO):TE:=λσ H Q=>te σ H λx H1=>tl σ H1 λl H2=>th σ H2 λu H3=>r x l u H3 Q
theorem AA{r:V->Option Int->Option Int->Hp->VK->Prop}(hr:SlR X r)(he:PE X e te)(hl:PO X lo tl)(hu:PO X hi th):PE X (.Subscript e (.Slice lo hi af p2) pos) (yH r te tl th):=by
 intro a s σ H Q I h;refine Subscript_ (aO (he a s σ H _ I h) λv G ⟨x,z,B,E,p⟩=>wpAny_Slice (aO (hl a G σ z _ B p) λvl C ⟨l,t,j,y,n⟩=>aO (hu a C σ t _ j n) λvu d b=>?_));obtain⟨u,f,A,D,J⟩:=b;refine Ai ?_;have o:Inv X a σ f {d with heap:=d.heap.push {cls:=.type "slice",data:=.fields #[vl,vu,.none]}}:=A.kept λb K q=>Ae _ q;obtain⟨T,L,k,w,m⟩:=hr a {d with heap:=d.heap.push {cls:=.type "slice",data:=.fields #[vl,vu,.none]}} σ f x v vl vu l u d.heap.objs.size Q o E (Heap.IsSliceOf.new ..) y D J;exact tail_any w k m (by with_unfolding_all rfl)
def fI(xs:List V)(lo hi:Option Int):List V:=(xs.drop (HT.sIx xs.length 0 lo)).take (HT.sIx xs.length xs.length hi-HT.sIx xs.length 0 lo)
theorem uc(xs:List V)(lo hi:Option Int):(fI xs lo hi).length<=xs.length:=by
 unfold fI;rw[Ef,Dl];omega
def n9(K:Ag):V->Option Int->Option Int->Hp->VK->Prop:=λx lo hi H Q=>∃a xs,x=.ref a/\SqT K H a xs /\
 ¬(HT.sIx xs.length 0 lo=0/\HT.sIx xs.length xs.length hi=xs.length)/\∀p,H p=af->Q (.ref p) (upd H p (.tup (fI xs lo hi)))
theorem sl_tup:SlR X (n9 X.K):=by
 intro g s σ H x v y t p i z Q I j o k m h;obtain⟨a,f,rfl,n,u,q⟩:=h;cases j;obtain⟨d,r,e,l⟩:=I.tuple n;have c:d.toArray.size=f.length:=r.length.symm;refine⟨_,_,PyProof.Rows.slot_tuple_getitem.lookup,e.typeIs,HT.getItem_tuple_cut e o k m (by rw[c];omega) ?_ (by simp_all)⟩;rw[c];refine⟨.ref s.heap.objs.size,_,I.laid (λb w q=>Ae _ q) (Ao _) ?_,rfl,q _ (I.hok.fresh (Ao _))⟩;exact⟨Ba (uc f p i) l,_,(r.drop _).take _,IsTupP.new _ _⟩
def yV(K:Ag):R2:=λx y H Q=>∃a b xs ys,x=.ref a/\y=.ref b/\SqT K H a xs/\SqT K H b ys/\xs≠[]/\xs.length+ys.length<=Aw /\
 (ys=[]->Q (.ref a) H)/\(ys≠[]->∀p,H p=af->Q (.ref p) (upd H p (.tup (xs++ys))))
theorem Vals.nil_iff{xs:List V}{us:List Af}(r:Vals xs us):us=[]↔xs=[]:=by
 cases r with
 |nil=>simp
 |cons _ _=>simp
theorem op_catT:OpR X (Es .Add) (yV X.K):=by
 intro f s σ H x y v u Q I k m h;obtain⟨a,b,A,C,rfl,rfl,t,o,n,l,j,i⟩:=h;cases k;cases m;obtain⟨p,d,g,_⟩:=I.tuple t;obtain⟨e,c,r,_⟩:=I.tuple o;refine HT.cat_tup g r (λz=>n (d.nil_iff.mp z)) (λz=>⟨.ref a,H,I,rfl,j (c.nil_iff.mp z)⟩) (λz=>⟨.ref s.heap.objs.size,_,I.laid (λb B q=>Ae _ q) (Ao _) ?_,rfl,i (λw=>z (c.nil_iff.mpr w)) _ (I.hok.fresh (Ao _))⟩) (by rw[<-d.length,<-c.length];omega);exact⟨by rw[An];exact l,_,d.append c,IsTupP.new _ _⟩
end
def iI(n:Nat)(i:Int):Option Nat:=if 0<=i then(if i < n then ae i.toNat else af)else if -(n:Int)<=i then ae (i+n).toNat else af
def cX{α:Type}(xs:List α)(i:Int):Option α:=(iI xs.length i).bind λj=>xs[j]?
theorem AX{n:Nat}{i:Int}{j:Nat}(h:iI n i=ae j):seqIndex? i n=ae j/\j < n/\-(n:Int)<=i/\i < n:=by
 unfold iI at h;by_cases b:0<=i
 ·rw[a' b]at h;by_cases a:i < n
  ·rw[a' a]at h;have e:=Bq h;exact⟨by rw[seqIndex_of b a,e],by grind⟩
  ·rw[a_ a]at h;cases h
 ·rw[a_ b]at h;by_cases a:-n<=i
  ·rw[a' a]at h;have e:=Bq h;exact⟨by rw[seqIndex_neg ⋯ a,e],by omega⟩
  ·rw[a_ a]at h;cases h
theorem uu{α:Type}{xs:List α}{i:Int}{v:α}(h:cX xs i=ae v):∃j,seqIndex? i xs.length=ae j/\xs[j]?=ae v/\j < xs.length/\-(xs.length:Int)<=i/\i < xs.length:=by
 unfold cX at h;cases e:iI xs.length i with
 |none=>rw[e]at h;cases h
 |some j=>
  rw[e]at h;obtain⟨f,a,b,c⟩:=AX e;exact⟨j,f,h,a,b,c⟩
theorem eH{α:Type}{xs:List α}{j:Nat}{v:α}(h:xs[j]?=ae v):cX xs (j:Int)=ae v:=by
 have b:=(Aq.mp h).1;have e:iI xs.length j=ae j:=by
  unfold iI;rw[a' ⋯,a' ⋯];simp
 unfold cX;rw[e];exact h
def qu(b:Expr):Prop:=∀o i,subscripted b ai o i=operate [o,i] (getItem o i)
def IxR(X:Cx)(r:R2):Prop:=
 ∀(value slice:Expr)(h_:List (z_×Obj))(s:Aj)(σ:St)(H:Hp)(x y:V)(v u:Af)(Q:VK),Inv X h_ σ H s->RelV x v->RelV y u->r x y H Q->
  subscripted slice ai v u=operate [v,u] (getItem v u)->A6 (A9 X.prog X.w) X.A (subscriptTail value slice v u) (EP X h_ σ Q) X.xe s
def vp(X:Cx)(id:String)(r:V->List V->Hp->VK->Prop):Prop:=
 ∀(h_:List (z_×Obj))(s:Aj)(σ:St)(H:Hp)(x:V)(xs:List V)(v:Af)(us:List Af)(Q:VK),Inv X h_ σ H s->RelV x v->Vals xs us->r x xs H Q->
  A6 (A9 X.prog X.w) X.A (call (.builtin id) (v::us)) (EP X h_ σ Q) X.xe s
section
variable{X:Cx}{a b:Expr}{ta tb:TE}{pos:Pos}
theorem IxR.or{r r':R2}(h:IxR X r)(h':IxR X r'):IxR X (λx y H Q=>r x y H Q\/r' x y H Q):=by
 intro b a c s σ H x y v u Q I e d q f;rcases q with q|q
 ·exact h b a c s σ H x y v u Q I e d q f
 ·exact h' b a c s σ H x y v u Q I e d q f
theorem gp{r:R2}(hr:IxR X r)(ha:PE X a ta)(hb:PE X b tb)(hs:qu b):PE X (.Subscript a b pos) (dt r ta tb):=λh_ s σ H Q I h=>Subscript_ (kE ha hb I h λv u f x y e g i d q=>hr a b h_ f σ e x y v u Q g i d q (hs _ _))
def mH(K:Ag):R2:=λx y H Q=>∃p xs i v,x=.ref p/\y=.int i/\SqL K H p xs/\cX xs i=ae v/\Q v H
def m8(K:Ag):R2:=λx y H Q=>∃p xs i v,x=.ref p/\y=.int i/\SqT K H p xs/\cX xs i=ae v/\Q v H
def nF:R2:=λx y H Q=>∃z i c,x=.str z/\y=.int i/\z.length<=Aw/\cX z.cps.toList i=ae c/\Q (.str ⟨#[c]⟩) H
theorem ix_list:IxR X (mH X.K):=by
 intro k g b s σ H x y v u Q I E G h o;obtain⟨p,O,i,z,rfl,rfl,F,C,q⟩:=h;cases E;obtain⟨t,rfl⟩:=G;obtain⟨f,r,e,M⟩:=I.list F;obtain⟨j,m,A,L,D,B⟩:=uu C;obtain⟨w,n,d⟩:=r.get A;have J:=r.length;have N:=lD;have a:EP X b σ Q w s:=⟨z,H,I,d,q⟩;by_cases l:0<=i
 ·have c:i.toNat=j:=by
   rw[seqIndex_of l B]at m;simp_all
  exact item_listR e.isList l ⋯ (by rw[c];simpa using n) a o
 ·have c:(i+(f.toArray.size:Int)).toNat=j:=by
   rw[seqIndex_neg ⋯ D]at m;simp_all
  exact subscriptTail_builtinR e.isList.typeIs slot_list_getitem.lookup
   (wpAny_getItem_list_neg e.isList ⋯ (by rw[Bd]<;>omega) ⋯ (by rw[c];simpa using n) ⟨rfl,a⟩) o
theorem ix_tup:IxR X (m8 X.K):=by
 intro e d a s σ H x y v u Q I l n h B;obtain⟨p,L,i,z,rfl,rfl,m,k,q⟩:=h;cases l;obtain⟨t,rfl⟩:=n;obtain⟨A,r,f,G⟩:=I.tuple m;obtain⟨j,F,g,D,E,C⟩:=uu k;obtain⟨w,o,b⟩:=r.get g;have J:=lD;have c:EP X a σ Q w s:=⟨z,H,I,b,q⟩;exact subscriptTail_builtinR f.typeIs slot_tuple_getitem.lookup
  (getItem_tuple f ⋯ ⋯ (by rw[Bd,<-r.length];omega) (by simpa using o) ⟨rfl,c⟩) B
theorem HR:IxR X nF:=by
 intro b a e s σ H x y v u Q I n o h r;obtain⟨z,i,c,rfl,rfl,B,l,q⟩:=h;obtain⟨t,rfl⟩:=n;obtain⟨C,rfl⟩:=o;obtain⟨j,d,f,A,m,g⟩:=uu l;have k:z.cps.toList.length=z.length:=by rfl
 rw[k]at d m g;have D:=lD;exact tail_any (typeIs_str s z t) slot_str_getitem.lookup (getItem_str (by
  have w:decide (i < -(2 ^ 63:Int))=ai:=c_ ⋯;have p:decide (i ≥ 2 ^ 63)=ai:=c_ ⋯;rw[w,p,Bool.or_false]) (by rw[d];simpa using f) ⟨.str _,H,I.tok _,⟨_,rfl⟩,q⟩) r
def jH(K:Ag):R2:=λx y H Q=>mH K x y H Q\/m8 K x y H Q\/nF x y H Q
theorem qP:IxR X (jH X.K):=ix_list.or (ix_tup.or HR)
theorem Mc(i_:List Af)(n j:Nat)(u:Af):Ea (·.setIfInBounds j u) {cls:=.type "list",data:=.seq i_.toArray n}={ cls:=.type "list",data:=.seq (i_.set j u).toArray n}:=by
 simp[Ea]
theorem Inv.lst{h_:List (z_×Obj)}{σ:St}{H:Hp}{s:Aj}{p:z_}{xs:List V}(I:Inv X h_ σ H s)(h:H p=ae (.lst xs)):
  ∃(i_:List Af)(n:Nat),Vals xs i_/\s.heap.get? p=ae {cls:=.type "list",data:=.seq i_.toArray n}/\xs.length<=Aw:=by
 obtain⟨z,i_,n,r,e⟩:=I.hok p _ h;exact⟨i_,n,r,e,z⟩
theorem Inv.lstUpd{h_:List (z_×Obj)}{σ:St}{H:Hp}{s:Aj}{p:z_}{xs ys:List V}{i_ its':List Af}{n n':Nat}{f:Obj->Obj}(I:Inv X h_ σ H s)(h:H p=ae (.lst xs))
  (ho:s.heap.get? p=ae {cls:=.type "list",data:=.seq i_.toArray n}) (hf:f {cls:=.type "list",data:=.seq i_.toArray n}={ cls:=.type "list",data:=.seq its'.toArray n'}) (r:Vals ys its') (hz:ys.length<=Aw) (t:Nat):
  Inv X h_ σ (upd H p (.lst ys)) {s with heap:=s.heap.update p f,toks:=t}:=by
 have e:(s.heap.update p f).get? p=ae {cls:=.type "list",data:=.seq its'.toArray n'}:=by
  rw[Bn f ho (by rw[hf]<;>rfl),hf]
 refine I.write (by rw[h];trivial) (.inl rfl) (λb u a q=>(Dg _ _ (Ne.symm a)).trans q) ⟨_,e⟩ ?_;exact⟨hz,_,n',r,e⟩
def qH:V->V->V->Hp->(Hp->Prop)->Prop:=λo i v H Q=>∃p xs k j,o=.ref p/\i=.int k/\H p=ae (.lst xs)/\iI xs.length k=ae j/\Q (upd H p (.lst (xs.set j v)))
theorem oD:nK X qH:=by
 intro m s σ H o i v J F u Q I B z A h;obtain⟨p,G,k,j,rfl,rfl,e,y,q⟩:=h;cases B;obtain⟨t,rfl⟩:=z;obtain⟨a,n,r,c,D⟩:=I.lst e;obtain⟨g,C,w,x⟩:=AX y;have d:=r.length;have E:=lD;have l:=
  I.lstUpd e c (Mc a n j u) (r.set A j) (by rw[B5];omega) s.toks
 by_cases f:0<=k
 ·have b:k.toNat=j:=by
   rw[seqIndex_of f x]at g;simp_all
  exact PySem.W.ki_setAt c f ⋯ (by rw[Bd,<-d];omega) (by rw[b];exact⟨_,l,q⟩)
 ·have b:(k+(a.toArray.size:Int)).toNat=j:=by
   rw[seqIndex_neg ⋯ w]at g;simp_all
  exact PySem.W.ki_setBack c ⋯ (by rw[Bd,<-d];omega) ⋯ (by rw[b];exact⟨_,l,q⟩)
theorem LD(lo hi:Option Int)(n:Nat):(Gt lo hi af n).1=((HT.sIx n 0 lo:Nat):Int)/\(Gt lo hi af n).2.1=((HT.sIx n n hi:Nat):Int)/\(Gt lo hi af n).2.2=1:=by
 refine⟨?_,?_,rfl⟩
 ·cases lo with
  |none=>simp[Gt,HT.sIx]
  |some i=>
   simp only[Gt,HT.sIx,Option.getD_none,show(1:Int) > 0 by decide,if_true];by_cases h:i < 0
   ·simp only[h,if_true]<;>omega
   ·simp only[h,if_false]<;>omega
 ·cases hi with
  |none=>simp[Gt,HT.sIx]
  |some i=>
   simp only[Gt,HT.sIx,Option.getD_none,show(1:Int) > 0 by decide,if_true];by_cases h:i < 0
   ·simp only[h,if_true]<;>omega
   ·simp only[h,if_false]<;>omega
theorem OC(i_:List Af)(lo hi:Option Int):slicePick i_.toArray lo hi af=((i_.drop (HT.sIx i_.length 0 lo)).take (HT.sIx i_.length i_.length hi-HT.sIx i_.length 0 lo)).toArray:=by
 obtain⟨c,a,b⟩:=LD lo hi i_.toArray.size;unfold slicePick;rw[c,a,b];simp only[sliceRange_one,pick_run]<;>rfl
def vM(K:Ag):V->Option Int->Option Int->Hp->VK->Prop:=λx lo hi H Q=>∃a xs,x=.ref a/\SqL K H a xs/\∀p,H p=af->Q (.ref p) (upd H p (.lst (fI xs lo hi)))
theorem LF:SlR X (vM X.K):=by
 intro e s σ H x v w t p f y Q I g o i k h;obtain⟨a,l,rfl,m,q⟩:=h;cases g;obtain⟨n,r,d,j⟩:=I.list m;have c:=r.length;refine⟨_,_,slot_list_getitem.lookup,d.isList.typeIs,wpAny_getItem_list_slice d.isList o i k .none (by simp) ?_ (by rw[Bd]<;>omega)⟩;rw[OC,<-c];refine⟨.ref s.heap.objs.size,_,I.laid (λb u q=>Ae _ q) (Ao _) ?_,rfl,q _ (I.hok.fresh (Ao _))⟩;exact⟨Ba (uc l p f) j,_,0,(r.drop _).take _,Av _ rfl⟩
def gM:V->Bool
 |.non=>ah
 |.bl _=>ah
 |.int _=>ah
 |.str _=>ah
 |_=>ai
def gV:V->V->Bool
 |.non,.non=>ah
 |.bl a,.bl b=>a==b
 |.bl a,.int b=>(if a then 1 else 0)==b
 |.int a,.bl b=>a==(if b then 1 else 0)
 |.int a,.int b=>a==b
 |.str a,.str b=>a==b
 |_,_=>ai
theorem ET{A:Bt}{s:Aj}{y x:V}{u v:Af}(ry:RelV y u)(rx:RelV x v)(fy:gM y=ah)(fx:gM x=ah):SeqAt.EqAt A s u v (gV y x):=by
 cases y with
 |non=>
  cases ry;cases x with
  |non=>cases rx;exact SeqAt.EqAt.same _
  |bl b=>cases rx;exact SeqAt.EqAt.none_bool b
  |int b=>obtain⟨t,rfl⟩:=rx;exact SeqAt.EqAt.none_int b t
  |str b=>obtain⟨t,rfl⟩:=rx;exact SeqAt.EqAt.none_str b t
  |_=>exact f_ (fx) A3
 |bl a=>
  cases ry;cases x with
  |non=>cases rx;exact SeqAt.EqAt.bool_none a
  |bl b=>cases rx;exact SeqAt.EqAt.bool_bool a b
  |int b=>obtain⟨t,rfl⟩:=rx;exact SeqAt.EqAt.bool_int a b t
  |str b=>obtain⟨t,rfl⟩:=rx;exact SeqAt.EqAt.bool_str a b t
  |_=>exact f_ (fx) A3
 |int a=>
  obtain⟨c,rfl⟩:=ry;cases x with
  |non=>cases rx;exact SeqAt.EqAt.int_none a c
  |bl b=>cases rx;exact SeqAt.EqAt.int_bool a c b
  |int b=>obtain⟨t,rfl⟩:=rx;exact SeqAt.EqAt.int_int a c b t
  |str b=>obtain⟨t,rfl⟩:=rx;exact SeqAt.EqAt.int_str a c b t
  |_=>exact f_ (fx) A3
 |str a=>
  obtain⟨c,rfl⟩:=ry;cases x with
  |non=>cases rx;exact SeqAt.EqAt.str_none a c
  |bl b=>cases rx;exact SeqAt.EqAt.str_bool a c b
  |int b=>obtain⟨t,rfl⟩:=rx;exact SeqAt.EqAt.str_int a c b t
  |str b=>obtain⟨t,rfl⟩:=rx;exact SeqAt.EqAt.str_str a c b t
  |_=>exact f_ (fx) A3
 |_=>exact f_ (fy) A3
def kR(x:V)(u:Af):Bool:=match u with
 |.none=>gV .non x
 |.bool b=>gV (.bl b) x
 |.int i _=>gV (.int i) x
 |.str z _=>gV (.str z) x
 |_=>ai
theorem wZ{x y:V}{u:Af}(r:RelV y u)(f:gM y=ah):kR x u=gV y x:=by
 cases y with
 |non=>cases r;rfl
 |bl b=>cases r;rfl
 |int i=>obtain⟨t,rfl⟩:=r;rfl
 |str z=>obtain⟨t,rfl⟩:=r;rfl
 |_=>exact f_ (f) A3
theorem nt{x:V}:∀{xs:List V}{us:List Af},Vals xs us->xs.all gM=ah->us.any (kR x)=xs.any λy=>gV y x
 |_,_,.nil,_=>rfl
 |y::xs,u::us,.cons r t,f=>by
  rw[List.all_cons,Bu]at f;rw[C6,C6,wZ r f.1,nt t f.2]
theorem mC{A:Bt}{s:Aj}{x:V}{v:Af}(rx:RelV x v)(fx:gM x=ah):∀{xs:List V}{us:List Af},Vals xs us->xs.all gM=ah->∀u∈us,SeqAt.EqAt A s u v (kR x u)
 |_,_,.nil,_=>λu a=>by trivial
 |y::xs,u::us,.cons r t,f=>λu' a=>by
  rw[List.all_cons,Bu]at f;rcases Au.mp a with rfl|a
  ·rw[wZ r f.1];exact ET r rx f.1 fx
  ·exact mC rx fx t f.2 u' a
def pT(x:V)(xs:List V):Bool:=xs.any λy=>gV y x
def gE(K:Ag)(neg:Bool):R2:=λx y H Q=>∃p xs,y=.ref p/\(SqL K H p xs\/SqT K H p xs)/\gM x=ah/\xs.all gM=ah/\Q (.bl (if neg then !pT x xs else pT x xs)) H
theorem O7:OpR X (Bv .In) (gE X.K ai):=by
 intro g s σ H x y v u Q I f j h;obtain⟨p,l,rfl,b,e,c,q⟩:=h;cases j;rcases b with b|b
 ·obtain⟨a,r,d,i⟩:=I.list b;refine SeqAt.in_listAt _ d.isList (λw k=>mC f e r c w (by simp_all)) ⟨.bl _,H,I,rfl,?_⟩;rw[show a.toArray.any _=a.any (kR x) by simp,nt r c];exact q
 ·obtain⟨a,r,d,i⟩:=I.tuple b;refine SeqAt.in_tupleAt _ d (λw k=>mC f e r c w (by simp_all)) ⟨.bl _,H,I,rfl,?_⟩;rw[show a.toArray.any _=a.any (kR x) by simp,nt r c];exact q
theorem Qg:OpR X (Bv .NotIn) (gE X.K ah):=by
 intro g s σ H x y v u Q I f j h;obtain⟨p,l,rfl,b,e,c,q⟩:=h;cases j;rcases b with b|b
 ·obtain⟨a,r,d,i⟩:=I.list b;refine SeqAt.notIn_listAt _ d.isList (λw k=>mC f e r c w (by simp_all)) ⟨.bl _,H,I,rfl,?_⟩;rw[show a.toArray.any _=a.any (kR x) by simp,nt r c];exact q
 ·obtain⟨a,r,d,i⟩:=I.tuple b;refine SeqAt.notIn_tupleAt _ d (λw k=>mC f e r c w (by simp_all)) ⟨.bl _,H,I,rfl,?_⟩;rw[show a.toArray.any _=a.any (kR x) by simp,nt r c];exact q
theorem qc:CallR X (.builtin "len") (λxs H Q=>∃p ys,xs=[.ref p]/\(SqL X.K H p ys\/SqT X.K H p ys)/\Q (.int ys.length) H):=by
 intro f s σ H xs j Q I r h;obtain⟨p,ys,rfl,b,q⟩:=h;obtain⟨u,rfl,g⟩:=fA r;cases g;have k:=lD;rcases b with b|b
 ·obtain⟨e,d,c,i⟩:=I.list b;have a:=d.length;exact Calls.call_len_list c.isList (by simp only[Bd]<;>omega) ⟨.int ys.length,H,I.tok _,⟨_,by rw[Bd,a]⟩,q⟩
 ·obtain⟨e,d,c,i⟩:=I.tuple b;have a:=d.length;exact len_tuple c (by simp only[Bd]<;>omega) ⟨.int ys.length,H,I.tok _,⟨_,by rw[Bd,a]⟩,q⟩
theorem call_len_str:CallR X (.builtin "len") (λxs H Q=>∃z,xs=[.str z]/\z.length<=Aw/\Q (.int z.length) H):=by
 intro a s σ H xs c Q I r h;obtain⟨z,rfl,d,q⟩:=h;obtain⟨u,rfl,t,rfl⟩:=fA r;have b:=lD;exact len_str ⋯ ⟨.int z.length,H,I.tok _,⟨_,rfl⟩,q⟩
theorem CallR.or{f:Af}{r r':List V->Hp->VK->Prop}(h:CallR X f r)(h':CallR X f r'):CallR X f (λxs H Q=>r xs H Q\/r' xs H Q):=by
 intro a s σ H xs b Q I c q;rcases q with q|q
 ·exact h a s σ H xs b Q I c q
 ·exact h' a s σ H xs b Q I c q
theorem Kq:CallR X (.type "list") (λxs H Q=>∃p ys,xs=[.ref p]/\(SqL X.K H p ys\/SqT X.K H p ys)/\∀l,H l=af->Q (.ref l) (upd H l (.lst ys))):=by
 intro t s σ H xs D Q I r h;obtain⟨p,ys,rfl,j,q⟩:=h;obtain⟨u,rfl,C⟩:=fA r;cases C;have m:∀i_,Vals ys i_->ys.length<=Aw->∀h' d,(∀b o',s.heap.get? b=ae o'->h'.get? b=ae o')->
   h'.get? s.heap.objs.size=ae {cls:=.type "list",dict:=af,data:=.seq i_.toArray d,slots:=#[]}->EP X t σ Q _ {s with heap:=h'}:=λi_ c k h' d g e=>
  ⟨.ref s.heap.objs.size,_,I.laid g (Ao _) (show ObjOk X.prog X.w _ h' _ (.lst ys)from⟨k,i_,d,c,e⟩),rfl,q _ (I.hok.fresh (Ao _))⟩
 rcases j with j|j
 ·obtain⟨i_,c,y,k⟩:=I.list j;have i:=c.length;obtain⟨o,v,z,n,x⟩:=y.isList;exact call_list_seq p (.inl rfl) v z x (λh' d g e=>m i_ c k h' d g e) (by simp<;>omega)
 ·obtain⟨i_,c,y,k⟩:=I.tuple j;have i:=c.length;obtain⟨o,v,z,n,x⟩:=y;exact call_list_seq p (.inr rfl) v z x (λh' d g e=>m i_ c k h' d g e) (by simp<;>omega)
theorem Pt:CallR X (.type "tuple") (λxs H Q=>∃p ys,xs=[.ref p]/\((SqL X.K H p ys/\∀l,H l=af->Q (.ref l) (upd H l (.tup ys)))\/(SqT X.K H p ys/\Q (.ref p) H))):=by
 intro a s σ H xs y Q I r h;obtain⟨p,ys,rfl,h⟩:=h;obtain⟨u,rfl,x⟩:=fA r;cases x;rcases h with⟨g,q⟩|⟨g,q⟩
 ·obtain⟨c,i,f,n⟩:=I.list g;have m:=i.length;refine call_tuple_list f.isList (λh' v=>?_) (by simp<;>omega);have t:Inv X a σ H {s with heap:=h'}:=I.kept v;have w:Inv X a σ (upd H h'.objs.size (.tup ys)) {s with heap:=h'.push {cls:=.type "tuple",data:=.seq c.toArray}}:=
   t.laid (λb o e=>Ae _ e) (Ao _) (⟨n,c,i,IsTupP.new _ _⟩)
  exact⟨.ref h'.objs.size,_,w,rfl,q _ (t.hok.fresh (Ao _))⟩
 ·obtain⟨c,i,f,n⟩:=I.tuple g;exact call_tuple_same f ⟨.ref p,H,I,rfl,q⟩
def sS(K:Ag)(T:String)(x:V)(H:Hp):Prop:=match x with
 |.str _=>T="str"
 |.int _=>T="int"
 |.ref p=>(T="list"/\∃xs,SqL K H p xs)\/(T="tuple"/\∃o,K.lookup p=ae o/\o.cls=.type "tuple"/\o.dict=af) \/
   (T="dict"/\((∃kvs,H p=ae (.dK kvs))\/∃kvs,H p=ae (.dT kvs)))\/(T="set"/\∃S n,H p=ae (.set S n))
 |_=>False
theorem zQ{h_:List (z_×Obj)}{σ:St}{H:Hp}{s:Aj}{T:String}{x:V}{v:Af}(I:Inv X h_ σ H s)(r:RelV x v)(ty:sS X.K T x H):
  s.TypeIs v T/\∀a,v=.ref a->∃ob,s.heap.get? a=ae ob/\ob.dict=af:=by
 cases x with
 |str z=>
  obtain⟨t,rfl⟩:=r;cases(ty);exact⟨typeIs_str s z t,λ_ e=>nomatch e⟩
 |int i=>
  obtain⟨t,rfl⟩:=r;cases(ty);exact⟨typeIs_int s i t,λ_ e=>nomatch e⟩
 |ref p=>
  cases r;rcases ty with⟨rfl,w,l⟩|⟨rfl,o,b,u,g⟩|⟨rfl,b⟩|⟨rfl,S,n,b⟩
  ·obtain⟨q,_,j,_⟩:=I.list l;refine⟨j.isList.typeIs,λa e=>?_⟩;cases e;obtain⟨o,n,e,c,g,_⟩:=j;exact⟨o,e,g⟩
  ·refine⟨⟨o,I.kIn p o b,u⟩,λa e=>?_⟩;cases e;exact⟨o,I.kIn _ o b,g⟩
  ·have z:∃o,s.heap.get? p=ae o/\o.ExactDict:=by
    rcases b with⟨f,b⟩|⟨f,b⟩
    ·obtain⟨_,_,_,_,o,_,_,e,d,_⟩:=I.hok p _ b;exact⟨o,e,d⟩
    ·obtain⟨_,_,_,_,o,_,_,e,d,_⟩:=I.hok p _ b;exact⟨o,e,d⟩
   obtain⟨o,e,d⟩:=z;refine⟨⟨o,e,d.1⟩,λa h=>?_⟩;cases h;exact⟨o,e,d.2.1⟩
  ·obtain⟨o,_,_,_,e,d,_⟩:=I.hok p _ b;refine⟨⟨o,e,d.1⟩,λa h=>?_⟩;cases h;exact⟨o,e,d.2.1⟩
 |_=>exact False.elim ty
def kl(K:Ag)(T:String)(r:V->List V->Hp->VK->Prop)(to:TE):TE:=λσ H Q=>to σ H λx H1=>sS K T x H1/\r x [] H1 Q
def qM(K:Ag)(T:String)(r:V->List V->Hp->VK->Prop)(to:TE)(t:TA):TE:=λσ H Q=>to σ H λx H1=>sS K T x H1/\t σ H1 λxs H2=>r x xs H2 Q
variable{o e:Expr}{es:List Expr}{to:TE}{t:TA}{name:Str}{apos cpos:Pos}{T id:String}{r:V->List V->Hp->VK->Prop}
theorem CV(pa:PlainAttrs T)(slot:Slot T name id)(hty:typeOf (.builtin id)=pure (.type "method_descriptor"))(hm:vp X id r)(ho:PE X o to)
  (hbase:Gq o name X.env (eval o X.env)=eval o X.env:=by rfl) (hline:(apos.endLine==cpos.line)=ah:=by rfl):PE X (.Call (.Attribute o name apos) [] [] cpos) (kl X.K T r to):=by
 intro a s σ H Q I h;refine wpAny_Call_method0_late hbase hline (aO (ho a s σ H _ I h) λv g u=>?_);obtain⟨x,i,b,c,e,f⟩:=u;obtain⟨j,d⟩:=zQ b c e;exact⟨T,id,pa,slot,hty,j,d,Calls.callWith_builtin rfl (PySem.evalArgs_none (hm a g σ i x [] v [] Q b c .nil f))⟩
theorem xx(pa:PlainAttrs T)(slot:Slot T name id)(hty:typeOf (.builtin id)=pure (.type "method_descriptor"))(hm:vp X id r)(ho:PE X o to)(ha:PA X (e::es) t)
  (hbase:Gq o name X.env (eval o X.env)=eval o X.env:=by rfl)
  (hfew:((Cp cpos (Ar (e::es) X.env)).all (λx=>!x.1)&&(backToKw cpos (keywordEach [] X.env)).all (λx=>x.1.isSome)
   && decide ((e::es).length+([]:List Keyword).length+(if ([]:List Keyword).isEmpty then 0 else 1) < 30))=ah:=by rfl)
  (hline:(apos.endLine==cpos.line)=ah:=by rfl) (hs:Ar (e::es) X.env=(ai,eval e X.env)::Ar es X.env:=by rfl) (hplain:(Cp cpos (Ar es X.env)).any (·.1)=ai:=by rfl):
  PE X (.Call (.Attribute o name apos) (e::es) [] cpos) (qM X.K T r to t):=by
 intro a s σ H Q I h;refine wpAny_Call_method_late hbase hfew hline rfl (aO (ho a s σ H _ I h) λv w y=>?_);obtain⟨x,m,b,c,p,j⟩:=y;obtain⟨n,f⟩:=zQ b c p;refine⟨T,id,pa,slot,hty,n,f,?_⟩;have d:=ha cpos a w σ m _ b j;rw[hs]at d ⊢;exact Calls.callWith_builtin (by show(ai || (Cp cpos _).any _)=ai;rw[hplain]<;>rfl) (Calls.evalArgs_plain (aO d λus q z=>by obtain⟨l,k,g,u,i⟩:=z;exact hm a q σ k x l v us Q g c u i))
end
def uF(X:Cx)(id:String)(r:V->List V->Hp->VK->Prop):Prop:=
 ∀(h_:List (z_×Obj))(s:Aj)(σ:St)(H:Hp)(x:V)(xs:List V)(v:Af)(us:List Af)(Q:VK),Inv X h_ σ H s->RelV x v->Vals xs us->r x xs H Q->
  A6 (A9 X.prog X.w) X.A (call (.builtin id) (v::us)) (EP X h_ σ Q) X.xe s
theorem Vals.one:∀{x:V}{us:List Af},Vals [x] us->∃u,us=[u]/\RelV x u
 |_,_,.cons r .nil=>⟨_,rfl,r⟩
theorem Vals.zero:∀{us:List Af},Vals [] us->us=[]
 |_,.nil=>rfl
theorem Vals.reverse{xs:List V}{us:List Af}(h:Vals xs us):Vals xs.reverse us.reverse:=by
 induction h with
 |nil=>exact .nil
 |cons r t a=>rw[F0,F0];exact Vals.append a (.cons r .nil)
section
variable{X:Cx}{h_:List (z_×Obj)}{σ:St}{H:Hp}{s:Aj}{l b:z_}{xs ys zs:List V}
theorem Inv.lset{i_ its':List Af}{n:Nat}{f:Array Af->Array Af}{t':Nat}(I:Inv X h_ σ H s)(hH:H l=ae (.lst xs))
  (e:s.heap.get? l=ae {cls:=.type "list",data:=.seq i_.toArray n}) (hf:f i_.toArray=its'.toArray) (hv:Vals ys its') (hz:ys.length<=Aw):
  Inv X h_ σ (upd H l (.lst ys)) {s with heap:=s.heap.update l (Ea f),toks:=t'}:=by
 have q:=PySem.IsL.update e f;rw[hf]at q;refine I.write (by rw[hH];trivial) (.inl rfl) (λb' u b a=>(Dg s.heap _ (Ne.symm b)).trans a) ⟨_,q⟩ ?_;exact⟨hz,_,_,hv,q⟩
theorem Inv.lnew{i_:List Af}{t':Nat}(I:Inv X h_ σ H s)(hv:Vals ys i_)(hz:ys.length<=Aw):
  Inv X h_ σ (upd H s.heap.objs.size (.lst ys)) {s with heap:=s.heap.push {cls:=.type "list",data:=.seq i_.toArray},toks:=t'}:=
 I.laid (λ_ _ q=>Ae _ q) (Ao _) ⟨hz,i_,0,hv,Av _ rfl⟩
theorem Inv.fresh(I:Inv X h_ σ H s):H s.heap.objs.size=af:=I.hok.fresh (Ao _)
theorem Inv.lstM(I:Inv X h_ σ H s)(hH:H l=ae (.lst xs)):xs.length<=Aw/\∃(i_:List Af)(n:Nat),Vals xs i_/\xs.length=i_.length/\s.heap.get? l=ae {cls:=.type "list",data:=.seq i_.toArray n}:=by
 obtain⟨z,i_,n,r,e⟩:=I.hok l _ hH;exact⟨z,i_,n,r,r.length,e⟩
theorem Qf{n:Nat}(h:n<=Aw):Builtin.List.listTooLong n=ai:=c_ ⋯
end
section
variable{X:Cx}
def uH:V->List V->Hp->VK->Prop:=λx vs H Q=>∃l xs y,x=.ref l/\vs=[y]/\H l=ae (.lst xs)/\xs.length < Aw/\Q .non (upd H l (.lst (xs++[y])))
theorem zr:uF X "list.append" uH:=by
 intro c s σ H x j v k Q I d f h;obtain⟨l,o,y,rfl,rfl,b,m,q⟩:=h;cases d;obtain⟨u,rfl,g⟩:=f.one;obtain⟨z,a,n,r,i,e⟩:=I.lstM b;refine call_meets F.slot_list_append ⟨_,e,rfl⟩ F.entry_list_append (F.args_list_append_2 _ _) (PySem.list_append l a.toArray n u (by rw[Bd];omega)) ⟨e,⟨.non,_,I.lset b e (by simp) (r.append (.cons g .nil)) ?_,rfl,q⟩⟩;rw[An,A1];omega
def BD:V->List V->Hp->VK->Prop:=λx vs H Q=>∃l b xs zs,x=.ref l/\vs=[.ref b]/\H l=ae (.lst xs)/\H b=ae (.lst zs)/\xs.length+zs.length<=Aw/\Q .non (upd H l (.lst (xs++zs)))
theorem Qe:uF X "list.extend" BD:=by
 intro j s σ H x E v G Q I k m h;obtain⟨l,b,K,C,rfl,rfl,i,o,J,q⟩:=h;cases k;obtain⟨u,rfl,A⟩:=m.one;cases A;obtain⟨z,c,n,r,B,e⟩:=I.lstM i;obtain⟨D,a,p,y,t,w⟩:=I.lstM o;have g:c.toArray.size+a.toArray.size<=Aw:=by rw[Bd,Bd];omega
 have d:¬(!c.toArray.isEmpty&&Builtin.List.listTooLong (c.toArray.size+a.toArray.size))=ah:=by
  rw[Qf g];simp
 refine call_meets F.slot_list_extend ⟨_,e,rfl⟩ F.entry_list_extend (F.args_list_extend_2 _ _)
  (AutoSeq1.list_extend_list_list_0 l c.toArray n b a.toArray p d (by simp_all) ⋯) ⟨e,w,?_⟩
 refine⟨.non,_,I.lset i e (by simp) (r.append y) ?_,rfl,q⟩;rw[An];omega
def DR:V->List V->Hp->VK->Prop:=λx vs H Q=>∃l xs,x=.ref l/\vs=[]/\H l=ae (.lst xs)/\Q .non (upd H l (.lst []))
theorem Oc:uF X "list.clear" DR:=by
 intro c s σ H x j v i Q I g f h;obtain⟨l,m,rfl,rfl,d,q⟩:=h;cases g;have a:=f.zero;subst a;obtain⟨z,b,n,r,k,e⟩:=I.lstM d;exact call_meets F.slot_list_clear ⟨_,e,rfl⟩ F.entry_list_clear (F.args_list_clear_1 _) (AutoSeq1.list_clear_list_0 l b.toArray n (by rw[Bd];omega)) ⟨e,⟨.non,_,I.lset d e rfl .nil (Az _),rfl,q⟩⟩
def ju:R2:=λx y H Q=>∃l b xs zs,x=.ref l/\y=.ref b/\H l=ae (.lst xs)/\H b=ae (.lst zs)/\xs.length+zs.length<=Aw/\∀p,H p=af->Q (.ref p) (upd H p (.lst (xs++zs)))
theorem BV:OpR X (Es .Add) ju:=by
 intro d s σ H x y v u Q I f i h;obtain⟨l,b,D,w,rfl,rfl,o,g,C,q⟩:=h;cases f;cases i;obtain⟨z,c,n,r,t,e⟩:=I.lstM o;obtain⟨A,a,B,m,j,k⟩:=I.lstM g;refine PySem.P.add_list e k ?_ (by rw[Bd,Bd];omega);have p:c.toArray++a.toArray=(c++a).toArray:=by simp
 rw[p];exact⟨.ref _,_,I.lnew (r.append m) (by rw[An];omega),rfl,q _ I.fresh⟩
end
section
variable{κ:Type}[DecidableEq κ]
def cg(kvs:List (κ×V))(k:κ):Option V:=(kvs.find? λkv=>decide (kv.1=k)).map (·.2)
def bQ(kvs:List (κ×V))(k:κ)(v:V):List (κ×V):=
 if (kvs.any λkv=>decide (kv.1=k))=ah then kvs.map (λkv=>if kv.1=k then(kv.1,v)else kv)else kvs++[(k,v)]
theorem tK{p:κ×V}{r:List (κ×V)}{k:κ}(e:p.1=k):cg (p::r) k=ae p.2:=by simp[cg,e]
theorem rD{p:κ×V}{r:List (κ×V)}{k:κ}(e:¬p.1=k):cg (p::r) k=cg r k:=by simp[cg,e]
theorem BE(k:κ):∀kvs:List (κ×V),(kvs.any λkv=>decide (kv.1=k))=(cg kvs k).isSome
 |[]=>rfl
 |p::r=>by
  rw[C6];by_cases e:p.1=k
  ·simp only[tK e,b_ e,Bool.true_or,Option.isSome_some]
  ·rw[rD e,c_ e];exact BE k r
theorem o3(kvs:List (κ×V))(k:κ)(v:V):(bQ kvs k v).length<=kvs.length+1:=by
 unfold bQ
 split
 ·rw[Ab];omega
 ·rw[An,Ax,List.length_nil];omega
theorem RelO.isSome_eq{o:Option V}{u:Option Af}(r:RelO o u):o.isSome=u.isSome:=by
 cases o with
 |none=>cases u with
  |none=>rfl
  |some _=>exact(r).elim
 |some _=>cases u with
  |none=>exact(r).elim
  |some _=>rfl
theorem KV.val{kvs:List (κ×V)}{vs:List (κ×Af)}(r:KV kvs vs)(k:κ):RelO (cg kvs k) (valueAt vs k):=by
 induction r with
 |nil=>exact Ge
 |@cons p q g c h t i=>
  obtain⟨d,f⟩:=h;by_cases e:p.1=k
  ·have a:=d.symm.trans e;have b:valueAt (q::c) k=ae q.2:=by simp[valueAt,a]
   rw[tK e,b];trivial
  ·have a:¬q.1=k:=λz=>e (d.trans z);have b:valueAt (q::c) k=valueAt c k:=by simp[valueAt,a]
   rw[rD e,b];omega
theorem KV.any{kvs:List (κ×V)}{vs:List (κ×Af)}(r:KV kvs vs)(k:κ):(kvs.any λkv=>decide (kv.1=k))=vs.any λkv=>decide (kv.1=k):=by
 induction r with
 |nil=>rfl
 |cons h t a=>rw[C6,C6,a,h.1]
theorem KV.repl{kvs:List (κ×V)}{vs:List (κ×Af)}(r:KV kvs vs)(k:κ){y:V}{u:Af}(ry:RelV y u):
  KV (kvs.map λkv=>if kv.1=k then(kv.1,y)else kv) (vs.map λkv=>if kv.1=k then(kv.1,u)else kv):=by
 induction r with
 |nil=>exact .nil
 |@cons p q f d h t b=>
  rw[Bo,Bo];refine .cons ?_ b;obtain⟨a,c⟩:=h;by_cases e:p.1=k
  ·rw[a' e,a' (a.symm.trans e)];exact⟨a,ry⟩
  ·rw[a_ e,a_ (λz=>e (a.trans z))];trivial
theorem KV.put{kvs:List (κ×V)}{vs:List (κ×Af)}(r:KV kvs vs)(k:κ){y:V}{u:Af}(ry:RelV y u):KV (bQ kvs k y) (stored vs k u):=by
 unfold bQ stored;rw[r.any k];by_cases e:(vs.any λkv=>decide (kv.1=k))=ah
 ·rw[a' e,a' e];exact r.repl k ry
 ·rw[a_ e,a_ e];exact Paired.snoc r ⟨rfl,ry⟩
theorem KV.length{kvs:List (κ×V)}{vs:List (κ×Af)}(r:KV kvs vs):kvs.length=vs.length:=Dk r
end
theorem l8{P:Bb}{w:Bj}{k:aF}{u:Af}(r:RelV (kV k) u):(fE P w).is k u=ah:=by
 cases k with
 |inl i=>obtain⟨t,e⟩:=(r);subst e;exact EE P w i t
 |inr x=>obtain⟨t,e⟩:=(r);subst e;exact CO P w x t
theorem yh{P:Bb}{w:Bj}:∀{ks:List aF}{us:List Af},Vals (ks.map kV) us->ItemsAre (fE P w) ks us
 |[],_,r=>by cases r;exact .nil
 |k::ks,_,r=>by
  cases r with
  |cons h t=>exact .cons (l8 h) (yh t)
abbrev KT(H:Hp):List (List aF×V)->List (List aF×z_×Af)->Prop:=Paired λp q=>p.1=q.1/\H q.2.1=ae (.tup (p.1.map kV))/\RelV p.2 q.2.2
theorem KT.val{H:Hp}{kvs:List (List aF×V)}{xs:List (List aF×z_×Af)}(r:KT H kvs xs)(k:List aF):RelO (cg kvs k) ((atKey xs k).map (·.2)):=by
 induction r with
 |nil=>exact Ge
 |@cons p q g c h t i=>
  obtain⟨d,_,f⟩:=h;by_cases e:p.1=k
  ·have a:=d.symm.trans e;have b:atKey (q::c) k=ae q.2:=by simp[atKey,a]
   rw[tK e,b];exact f
  ·have a:¬q.1=k:=λz=>e (d.trans z);have b:atKey (q::c) k=atKey c k:=by simp[atKey,a]
   rw[rD e,b];omega
theorem KT.repl{H:Hp}{kvs:List (List aF×V)}{xs:List (List aF×z_×Af)}(r:KT H kvs xs)(k:List aF){y:V}{u:Af}(ry:RelV y u):
  KT H (kvs.map λkv=>if kv.1=k then(kv.1,y)else kv) (xs.map (putAt k u)):=by
 induction r with
 |nil=>exact .nil
 |@cons p q f d h t c=>
  rw[Bo];refine .cons ?_ c;obtain⟨a,b,g⟩:=h;unfold putAt;by_cases e:p.1=k
  ·rw[a' e,a' (a.symm.trans e)];exact⟨a,b,ry⟩
  ·rw[a_ e,a_ (λz=>e (a.trans z))];trivial
theorem KT.put{H:Hp}{kvs:List (List aF×V)}{xs:List (List aF×z_×Af)}(r:KT H kvs xs)(k:List aF){b:z_}{y:V}{u:Af}(hb:H b=ae (.tup (k.map kV)))(ry:RelV y u):
  KT H (bQ kvs k y) (storedH xs k b u):=by
 have e:(kvs.any λkv=>decide (kv.1=k))=(atKey xs k).isSome:=by
  rw[BE,(r.val k).isSome_eq,Ey]
 unfold bQ storedH;rw[e];by_cases q:(atKey xs k).isSome=ah
 ·rw[a' q,a' q];exact r.repl k ry
 ·rw[a_ q,a_ q];exact Paired.snoc r ⟨rfl,hb,ry⟩
theorem KT.keeps{H H':Hp}{kvs:List (List aF×V)}{xs:List (List aF×z_×Af)}(r:KT H kvs xs)(ht:∀b ys,H b=ae (.tup ys)->H' b=ae (.tup ys)):KT H' kvs xs:=
 Paired.mapP r λ_ _ z=>⟨z.1,ht _ _ z.2.1,z.2.2⟩
section
variable{P:Bb}{w:Bj}{H:Hp}{h:Heap}{a:z_}
theorem zP{u:HO}(ok:HOk P w H h)(e:Rd H a u):ObjOk P w H h a u:=e.ok ok
theorem mY{kvs:List (aF×V)}(ok:HOk P w H h)(e:Rd H a (.dK kvs)):kvs.length<=Aw/\(a==Dd)=ai/\∃vs,KV kvs vs/\h.DictOf (fE P w) a vs:=
 show ObjOk P w H h a (.dK kvs)from zP ok e
theorem CW{kvs:List (aF×V)}(ok:HOk P w H h)(e:H a=ae (.dK kvs)):kvs.length<=Aw/\(a==Dd)=ai/\∃vs,KV kvs vs/\h.DictOf (fE P w) a vs:=mY ok (.inl e)
theorem nG{ks:List aF}(ok:HOk P w H h)(e:H a=ae (.tup (ks.map kV))):(tupleKind (fE P w)).is h ks a:=by
 obtain⟨_,c,r,o,f,b,⟨n,d⟩,_⟩:=(show ObjOk P w H h a (.tup _)from ok a _ e);exact⟨o,_,n,f,b,d,by simpa using yh r⟩
theorem m5{kvs:List (List aF×V)}(ok:HOk P w H h)(e:Rd H a (.dT kvs)):kvs.length<=Aw/\(a==Dd)=ai /\
  ∃xs,KT H kvs xs/\h.DictOfH (tupleKind (fE P w)) a xs:=by
 obtain⟨z,y,xs,r,o,j,n,k,d,g,i,f⟩:=(show ObjOk P w H h a (.dT kvs)from zP ok e);refine⟨z,y,xs,r,o,j,n,k,d,g,i,λx b=>?_,f⟩;have c:∀{l:List _}{m:List _},KT H l m->∀x∈m,(tupleKind (fE P w)).is h x.1 x.2.1:=by
  intro l m q
  induction q with
  |nil=>intro x b;trivial
  |@cons p q u A v t s=>
   intro x b;rcases Au.mp b with e|b
   ·subst e;exact nG ok (by simp_all)
   ·exact s x b
 exact c r x b
theorem MW{kvs:List (List aF×V)}(ok:HOk P w H h)(e:H a=ae (.dT kvs)):kvs.length<=Aw/\(a==Dd)=ai /\
  ∃xs,KT H kvs xs/\h.DictOfH (tupleKind (fE P w)) a xs:=m5 ok (.inl e)
end
def DGet(H:Hp)(a:z_)(y:V)(r:Option V):Prop:=
 (∃kvs k,Rd H a (.dK kvs)/\y=kV k/\r=cg kvs k)\/∃kvs k b,Rd H a (.dT kvs)/\y=.ref b/\H b=ae (.tup (k.map kV))/\r=cg kvs k
def DPut(H:Hp)(a:z_)(y v:V)(H':Hp):Prop:=
 (∃kvs k,H a=ae (.dK kvs)/\y=kV k/\kvs.length < Aw/\H'=upd H a (.dK (bQ kvs k v))) \/
 ∃kvs k b,H a=ae (.dT kvs)/\y=.ref b/\H b=ae (.tup (k.map kV))/\kvs.length < Aw/\H'=upd H a (.dT (bQ kvs k v))
theorem DGet.t{H:Hp}{a b:z_}{kvs:List (List aF×V)}{k:List aF}(e:H a=ae (.dT kvs))(eb:H b=ae (.tup (k.map kV))):DGet H a (.ref b) (cg kvs k):=.inr ⟨kvs,k,b,.inl e,rfl,eb,rfl⟩
theorem DPut.k{H:Hp}{a:z_}{kvs:List (aF×V)}{k:aF}{v:V}(e:H a=ae (.dK kvs))(hl:kvs.length < Aw):DPut H a (kV k) v (upd H a (.dK (bQ kvs k v))):=.inl ⟨kvs,k,e,rfl,hl,rfl⟩
theorem DPut.t{H:Hp}{a b:z_}{kvs:List (List aF×V)}{k:List aF}{v:V}(e:H a=ae (.dT kvs))(eb:H b=ae (.tup (k.map kV)))(hl:kvs.length < Aw):
  DPut H a (.ref b) v (upd H a (.dT (bQ kvs k v))):=.inr ⟨kvs,k,b,e,rfl,eb,hl,rfl⟩
section
variable{X:Cx}{h_:List (z_×Obj)}{σ:St}{H:Hp}{s:Aj}{a:z_}{y v:V}{u r:Af}{o:Option V}{A:Bt}{E:Af->Aj->Prop}
theorem Inv.big(I:Inv X h_ σ H s):Dd < s.heap.objs.size:=by
 exact Nat.lt_trans ∎ ((I.mod.glob.keeps I.bk).lt)
theorem LZ{Q:Af->Aj->Prop}(hu:A.units+1 < C9)(I:Inv X h_ σ H s)(g:DGet H a y (ae v))(ry:RelV y u)(h:∀w' s',Inv X h_ σ H s'->RelV v w'->Q w' s'):
  A6 (A9 X.prog X.w) A (getItem (.ref a) u) Q E s:=by
 rcases g with⟨i,k,e,n,l⟩|⟨i,k,b,e,n,o,l⟩
 ·subst n;obtain⟨z,r,t,c,f⟩:=mY I.hok e;obtain⟨w',m,d⟩:=RelO.some_of (by rw[l];exact c.val k);exact wpAny_getItem_of (l8 ry) f.mapOf m (h w' _ (I.tok _) d)
 ·subst n;cases(ry);obtain⟨z,r,x,c,f⟩:=m5 I.hok e;obtain⟨w',m,d⟩:=RelO.some_of (by rw[l];exact c.val k);obtain⟨p,q,j⟩:=Em.mp m;refine wpAny_getItem_heap (G4 hu) (nG I.hok o) f q ?_;rw[j];exact h w' _ (I.tok _) d
theorem tE{Q:Af->Aj->Prop}(hu:A.units+1 < C9)(I:Inv X h_ σ H s)(g:DGet H a y o)(ry:RelV y u)(h:∀s',Inv X h_ σ H s'->Q (.bool o.isSome) s'):
  A6 (A9 X.prog X.w) A (Bv .In u (.ref a)) Q E s:=by
 rcases g with⟨j,k,e,f,l⟩|⟨j,k,b,e,f,m,l⟩
 ·subst f;obtain⟨z,i,p,c,d⟩:=mY I.hok e;refine wpAny_in_of (l8 ry) i d.mapOf ?_;rw[<-(c.val k).isSome_eq,<-l];exact h _ (I.tok _)
 ·subst f;cases(ry);obtain⟨z,i,n,c,d⟩:=m5 I.hok e;refine wpAny_in_heap (G4 hu) (nG I.hok m) i d ?_;have q:=(c.val k).isSome_eq;rw[Ey]at q;rw[<-q,<-l];exact h _ (I.tok _)
theorem Rr{Q:Af->Aj->Prop}(hu:A.units+1 < C9)(I:Inv X h_ σ H s)(g:DGet H a y o)(ry:RelV y u)(h:∀s',Inv X h_ σ H s'->Q (.bool (!o.isSome)) s'):
  A6 (A9 X.prog X.w) A (Bv .NotIn u (.ref a)) Q E s:=by
 rcases g with⟨j,k,e,f,l⟩|⟨j,k,b,e,f,m,l⟩
 ·subst f;obtain⟨z,i,p,c,d⟩:=mY I.hok e;refine wpAny_notIn_of (l8 ry) i d.mapOf ?_;rw[<-(c.val k).isSome_eq,<-l];exact h _ (I.tok _)
 ·subst f;cases(ry);obtain⟨z,i,n,c,d⟩:=m5 I.hok e;refine wpAny_notIn_heap (G4 hu) (nG I.hok m) i d ?_;have q:=(c.val k).isSome_eq;rw[Ey]at q;rw[<-q,<-l];exact h _ (I.tok _)
theorem lz{h':Heap}{t':Nat}{ob:HO}(I:Inv X h_ σ H s)(mu:ny (H a))(hs:Cz a s.heap h')(he:∃q,h'.get? a=ae q)(new:ObjOk X.prog X.w (upd H a ob) h' a ob):
  Inv X h_ σ (upd H a ob) {s with heap:=h',toks:=t'}:=
 I.write mu (.inl rfl) (λb q c z=>(hs.2 b c).trans z) he new
theorem yn{P:Bb}{w:Bj}{H':Hp}{h':Heap}{kvs:List (aF×V)}{vs:List (aF×Af)}(z:kvs.length<=Aw)(hd:(a==Dd)=ai)(rel:KV kvs vs)(dd:h'.DictOf (fE P w) a vs):
  ObjOk P w H' h' a (.dK kvs):=⟨z,hd,vs,rel,dd⟩
theorem SE{H':Hp}{Q:Unit->Aj->Prop}(hu:A.units+1 < C9)(I:Inv X h_ σ H s)(g:DPut H a y v H')(ry:RelV y u)(rv:RelV v r)(h:∀s',Inv X h_ σ H' s'->Q () s'):
  A6 (A9 X.prog X.w) A (setItem (.ref a) u r) Q E s:=by
 rcases g with⟨d,k,e,t,l,B⟩|⟨d,k,b,e,t,C,l,B⟩
 ·subst t B;obtain⟨z,p,M,f,n⟩:=CW I.hok e;have N:M.length<=Aw:=by rw[<-f.length];exact z
  have o:(bQ d k v).length<=Aw:=by have:=o3 d k v;omega
  refine wpAny_setItem_pairs (l8 ry) n λh' i x=>h _ ?_;have G:∃q,h'.get? a=ae q:=let⟨q,_,_,m,_⟩:=i;⟨q,m⟩;exact lz I (by rw[e];trivial) x G (yn o p (f.put k rv) i)
 ·subst t B;cases(ry);obtain⟨z,p,P,f,n⟩:=MW I.hok e;have N:P.length<=Aw:=by rw[<-Dk f];exact z
  have o:(bQ d k v).length<=Aw:=by have:=o3 d k v;omega
  refine wpAny_setItem_heap (G4 hu) (nG I.hok C) n λh' i x=>h _ ?_;obtain⟨q,L,O,m,D,J,K,_,F⟩:=i;refine lz I (by rw[e];trivial) x ⟨q,m⟩ ⟨o,p,_,(f.put k C rv).keeps λc S R=>?_,q,L,O,m,D,J,K,F⟩;rw[aL (FI R e (λz=>nomatch z))];omega
end
def h9(i:Expr):Prop:=∀ov iv,subscripted i ai ov iv=operate [ov,iv] (getItem ov iv)
theorem AN{prog:Bb}{w:Bj}{A:Bt}{E:Af->Aj->Prop}{s:Aj}{env:Env}{value slice:Expr}{pos:Pos}{T id:String}{Q:Af->Aj->Prop}
  (hl:typeLookup (.type T) "__getitem__"=pure (ae (.builtin id))) (hs:h9 slice)
  (h:A6 (A9 prog w) A (eval value env) (λo r_=>A6 (A9 prog w) A (eval slice env) (λi s_=>s_.TypeIs o T/\A6 (A9 prog w) A (getItem o i) Q E s_) E r_) E s):
  A6 (A9 prog w) A (eval (.Subscript value slice pos) env) Q E s:=by
 refine Subscript_ (Dc h (λo r_ g=>Dc g (λi s_ c=>?_) λ_ _ x=>x) λ_ _ x=>x);obtain⟨f,c⟩:=c;refine Aa (Aa (Gz f hl ?_));have b:A6 (A9 prog w) A (subscripted slice ai o i) (λr d=>A6 (A9 prog w) A (letTemporaryGo value o r>>=λ_=>pure r) Q E d) E s_:=by
  rw[hs o i];exact wpAny_operating (Dc c (λr d e=>Aa (wpAny_letTemporaryGo (Ai e))) λ_ _ x=>x)
 first
  |exact Ai (Aa b)
  |exact Aa _
  |exact Aa b
theorem FR{X:Cx}{h_:List (z_×Obj)}{σ:St}{H:Hp}{s:Aj}{a:z_}{y:V}{o:Option V}(I:Inv X h_ σ H s)(g:DGet H a y o):s.TypeIs (.ref a) "dict":=by
 rcases g with⟨d,k,e,_,_⟩|⟨d,k,b,e,_,_,_⟩
 ·obtain⟨_,_,h,_,c⟩:=mY I.hok e;exact c.typeIs
 ·obtain⟨_,_,f,_,c⟩:=m5 I.hok e;exact c.typeIs
def v7(td ty:TE):TE:=λσ H Q=>td σ H λx H1=>ty σ H1 λy H2=>∃a v,x=.ref a/\DGet H2 a y (ae v)/\Q v H2
def jX(ty td:TE):TE:=λσ H Q=>ty σ H λy H1=>td σ H1 λx H2=>∃a o,x=.ref a/\DGet H2 a y o/\Q (.bl o.isSome) H2
def m4(ty td:TE):TE:=λσ H Q=>ty σ H λy H1=>td σ H1 λx H2=>∃a o,x=.ref a/\DGet H2 a y o/\Q (.bl (!o.isSome)) H2
def sH(td ty tv:TE):TS:=λD σ H=>tv σ H λv H1=>td σ H1 λx H2=>ty σ H2 λy H3=>∃a H4,x=.ref a/\DPut H3 a y v H4/\D.nx σ H4
section
variable{X:Cx}{o i e value:Expr}{pos pos' tpos:Pos}{td ty tv:TE}
theorem QJ(hu:X.A.units+1 < C9)(ho:PE X o td)(hi:PE X i ty)(hs:h9 i):PE X (.Subscript o i pos) (v7 td ty):=by
 intro b s σ H Q I h;refine AN PySem.F.slot_dict_getitem.lookup hs (aO (ho b s σ H _ I h) λu r ⟨x,l,p,k,f⟩=>aO (hi b r σ l _ p f) λiv t u=>?_);obtain⟨y,j,d,n,a,v,q,g,e⟩:=u;subst q;obtain rfl:=k;exact⟨FR d g,LZ hu d g n λw' w m c=>⟨v,j,m,c,e⟩⟩
theorem JM(hu:X.A.units+1 < C9)(hi:PE X i ty)(ho:PE X o td):PC X .In i o (jX ty td):=by
 intro b s σ H Q I h;refine aO (hi b s σ H _ I h) λiv q ⟨y,k,n,m,e⟩=>aO (ho b q σ k _ n e) λu t u=>?_;obtain⟨x,f,c,j,a,r,p,g,d⟩:=u;subst p;obtain rfl:=j;exact tE hu c g m λs3 l=>⟨.bl r.isSome,f,l,rfl,d⟩
theorem AH(hu:X.A.units+1 < C9)(hi:PE X i ty)(ho:PE X o td):PC X .NotIn i o (m4 ty td):=by
 intro b s σ H Q I h;refine aO (hi b s σ H _ I h) λiv q ⟨y,k,n,m,e⟩=>aO (ho b q σ k _ n e) λu r u=>?_;obtain⟨x,f,c,j,a,t,p,g,d⟩:=u;subst p;obtain rfl:=j;exact Rr hu c g m λs3 l=>⟨.bl _,f,l,rfl,d⟩
theorem zc(hu:X.A.units+1 < C9)(ho:PE X o td)(hi:PE X i ty)(hv:PE X value tv)(hs:Ci value (ae (.Subscript o i pos')) pos.line X.env=pure ai):
  PS X (.Assign [.Subscript o i pos'] value pos) (sH td ty tv):=by
 intro b s σ H D I h;refine wpAny_Assign_Subscript (aO (hv b s σ H _ I h) λr z ⟨v,m,q,l,f⟩=>aO (ho b z σ m _ q f) λu t ⟨x,j,c,k,d⟩=>aO (hi b t σ j _ c d) λiv F u=>?_) hs;obtain⟨y,E,n,p,a,B,w,g,C⟩:=u;subst w;obtain rfl:=k;exact SE hu n g p l λs4 e=>⟨σ,B,e,C⟩
end
theorem xX{P:Bb}{w:Bj}{H:Hp}(h:Heap)(hb:Dd < h.objs.size):ObjOk P w H (h.push {cls:=.type "dict",data:=.dict #[]}) h.objs.size (.dK []):=
 ⟨Az _,beq_eq_false_iff_ne.mpr (Ne.symm (Be hb)),[],.nil,Heap.DictOf.new h⟩
theorem sN{P:Bb}{w:Bj}{H:Hp}(h:Heap)(hb:Dd < h.objs.size):ObjOk P w H (h.push {cls:=.type "dict",data:=.dict #[]}) h.objs.size (.dT []):=
 ⟨Az _,beq_eq_false_iff_ne.mpr (Ne.symm (Be hb)),[],.nil,_,#[],0,Av _ rfl,⟨rfl,rfl,rfl⟩,rfl,rfl,List.nodup_nil⟩
def xk:TE:=λ_ H Q=>∀p,H p=af->Q (.ref p) (upd H p (.dK []))
def z5:TE:=λ_ H Q=>∀p,H p=af->Q (.ref p) (upd H p (.dT []))
section
variable{X:Cx}{pos:Pos}
theorem Hm:PE X (.Dict [] [] pos) xk:=λh_ s σ H Q I h=>
 wpAny_Dict_empty ⟨.ref s.heap.objs.size,_,I.laid (λ_ _ q=>Ae _ q) (Ao _) (xX s.heap I.big),rfl,h _ (I.hok.fresh (Ao _))⟩
theorem Ke:PE X (.Dict [] [] pos) z5:=λh_ s σ H Q I h=>
 wpAny_Dict_empty ⟨.ref s.heap.objs.size,_,I.laid (λ_ _ q=>Ae _ q) (Ao _) (sN s.heap I.big),rfl,h _ (I.hok.fresh (Ao _))⟩
end
def kg(kvs more:List (aF×V)):List (aF×V):=more.foldl (λi' kv=>bQ i' kv.1 kv.2) kvs
end L2
namespace Att
open PySem PySem.W PySem.Calls PyProof.Rows
theorem P4{P:Params}{h:Heap}:∀(ns:List Int)(vs:List Af),WellAll P h vs (ns.map WData.int)->IntsAre vs ns:=by
 intro ns
 induction ns with
 |nil=>
  intro vs w;cases w;exact .nil
 |cons n ns c=>
  intro vs w;cases w with
  |cons a b=>
   cases a;exact .cons _ _ (c _ b)
theorem MO{l:OpenLaw}{n:Nat}(hn:l.most=ae n){P:Params}{h:Heap}{args:List WData}{vals:List Af}
  (hpre:l.row.toRowW.claim.pre args=ah) (hwl:WellAll P h vals args):
  ∃a vs ns,vals=[Cf a]/\args=[WData.list (ns.map WData.int)]/\h.get? a=ae {cls:=.type "list",data:=.seq vs.toArray}/\IntsAre vs ns/\ns.length<=n:=by
 have i:WShape.hasAll [] args [.list .int]=ah:=(pre_splitW hpre).1;have t:l.pre.holds [] {args:=args}=ah:=(pre_splitW hpre).2;obtain⟨d,r,rfl,s,k⟩:=hasAllW_cons i;obtain rfl:=hasAllW_nil k;obtain⟨v,rfl,p⟩:=hasW_list s;obtain⟨ns,rfl⟩:=items_int p;have c:ns.length<=n:=by
  have g:=by
   have g:=(holds_andW t).1;rw[hn]at g;omega
  have j:=condW_of g (w_not (w_lt w_lit (w_len_list (w_arg rfl))));simp
  first
   | (rw[b u]at j;rfl)
   | (simp at j;omega)
 cases hwl with
 |cons m o=>
  cases o;cases m with
  |list q e=>exact⟨_,_,ns,rfl,rfl,q,P4 ns _ e,c⟩
theorem Ol(l:OpenLaw)(args:List WData):l.row.toRowW.claim.post args (.bool ah) args=ah:=
 postW_of
  (by rfl)
  (show(WTm.eq .res _).value [] {args:=args,res:=ae _,after:=args}=ae (.bool _)from w_eq_bool (w_res rfl) w_lit) rfl
theorem attach_call{l:OpenLaw}{n:Nat}{q:Bb}{loose:List Str}{XP:(Str->Option Af)->Heap->Prop}{YP:Bj->Heap->Prop}{d:DefRec}
  (hn:l.most=ae n) (hdf:d.params.defaults=[])
  (call:∀(w:Bj)(s₀ r_:Aj)(mg mb:Str->Option Af)(fa:z_)(o:Obj)(pm cd doc:Af)(a:z_)(vs:List Af)(ns:List Int),
   Ground q loose [] XP w s₀ mg mb r_.heap->YP w r_.heap->
   r_.heap.get? fa=ae o->o.data=.func (docDef d.name d.params d.body d.scope pm cd doc)->r_.heap.CodeRec cd d.name->mg d.name=ae (.ref fa)->
   r_.heap.get? a=ae {cls:=.type "list",data:=.seq vs.toArray}->IntsAre vs ns->ns.length<=n->r_.gens=#[]->
   Fz (A9 l.prog w) callerA (.call (.ref fa) ⟨[.ref a],[]⟩) (λr s'=>r=.ok (.ret (.bool ah))/\OldK r_.heap s'.heap/\s'.os=r_.os/\AllBare s'.gens) r_):
  WalkO q loose XP YP l.row.toRowW d [] (λf vs=>PySem.call f vs):=by
 intro w s₀ r_ mg mb G Y fa o pm cd doc H F z A h s j u p k E g m C i D;obtain rfl:=Dflts.none s hdf;obtain rfl:=Dflts.noKw s;obtain⟨a,vs,ns,rfl,rfl,e,b,c⟩:=MO hn g i;refine enter_call (codeAny_mono (call w s₀ r_ mg mb fa o pm cd doc a vs ns G Y z (fd_plain A) h j e b c u) λr s' B=>?_);obtain⟨rfl,t,v,x⟩:=B;exact⟨.inl ⟨_,_,[],rfl,λ_=>rfl,.bool ah,Ol l _,λ_=>⟨List.Pairwise.nil,λ_ y=>(nomatch y)⟩⟩,t,v,x⟩
end Att
namespace L2
open PySem PySem.Spec PyProof.Rows
theorem xU:∀{vs:List Af}{ns:List Int},IntsAre vs ns->Vals (ns.map V.int) vs
 |_,_,.nil=>.nil
 |_,_,.cons n t h=>.cons ⟨t,rfl⟩ (xU h)
def kc(H:Hp):Prop:=∀b,H b=af\/∃o xs,H b=ae (.frz o (.lst xs))
theorem GR{P:Bb}{w:Bj}{K:Ag}{mg mb:Str->Option Af}{CX:gT}{k:Nat}{fa a:z_}{fd:B8}{x:Str}{sp:Sp}{r_:Aj}{vs:List Af}{ns:List Int}
  (KX:K.In r_.heap) (hns:r_.heap.Ns Dv mg) (hb:r_.heap.Ns builtinsNs mb) (hbb:∀x:Str,x≠"__name__"->mb x=Bm x) (hlim:r_.heap.NoLimit) (hg:r_.gens=#[])
  (ha:r_.heap.get? a=ae {cls:=.type "list",data:=.seq vs.toArray}) (hi:IntsAre vs ns) (hl:ns.length<=Aw) (hr:Room k callerA)
  (F:∀base:Heap,K.In base->base.Ns Dv mg->FnOk P w K mg base CX k fa fd [x] sp) (hbind:∀(s:Aj)(u:Af),BindsTo s fd ⟨[u],[]⟩ [(x,u)])
  (hsp:∀H:Hp,kc H->SqL K H a (ns.map V.int)->sp [.ref a] H (λv _=>v=.bl ah) λ_ _ _=>False)
  (hCX:∀H e s',CX [] H r_ (λ_ _ _=>False) e s'->False):
  Fz (A9 P w) callerA (.call (.ref fa) ⟨[.ref a],[]⟩) (λr s'=>r=.ok (.ret (.bool ah))/\OldK r_.heap s'.heap/\s'.os=r_.os/\AllBare s'.gens) r_:=by
 have U:=xU hi;have p:=hi.length
 have i:∀H:Hp,kc H->SqL K H a (ns.map V.int)->HOk P w H r_.heap->(∀b,H b≠af->b=a)->(H a≠af->K.lookup a=af)->
   Fz (A9 P w) callerA (.call (.ref fa) ⟨[.ref a],[]⟩) (λr s'=>r=.ok (.ret (.bool ah))/\OldK r_.heap s'.heap/\s'.os=r_.os/\AllBare s'.gens) r_:=by
  intro H M hS t R Z;have c:∀{b:z_}{o:Obj},r_.heap.get? b=ae o->H b=af->(fP r_.heap H).get? b=ae o:=λe n=>RD e n;have L:∀{b:z_}{o:Obj}{B:Array Gp}{C:Nat},r_.heap.get? b=ae o->o.data=.dict B C->H b=af:=λ{b o B C} e d=>by
   cases q:H b with
   |none=>rfl
   |some u=>
    have J:=R b (by rw[q];simp);subst J;rw[ha]at e;cases e;cases d
  have f:∀{b:z_}{m:Str->Option Af},r_.heap.Ns b m->(fP r_.heap H).Ns b m:=λ{b m} ⟨o,B,C,e,d,r⟩=>⟨o,B,C,c e (L e d),d,r⟩;have y:=λb o e=>c (KX b o e) (by
   cases q:H b with
   |none=>rfl
   |some u=>
    have J:=R b (by rw[q];simp);subst J;rw[Z (by rw[q];simp)]at e;cases e)
  have hM:Mod K mg (fP r_.heap H):=⟨y,f hns,⟨mb,f hb,hbb⟩,let⟨mc,X,h2⟩:=hlim;⟨mc,f X,h2⟩⟩;have e0:Env0 P w K mg _ callerA [] r_ H:=⟨rfl,hM,λb o e=>RM e,Nat.le_of_eq (G5 _ _),trivial,λb hb=>f_ (show b∈([]:List z_)from hb) (by simp),t,.of_eq hg⟩;refine codeAny_mono ((F _ y (f hns)).run callerA [] r_ H _ [.ref a] [.ref a] _ _ hr e0 (hbind r_ _) (.cons rfl .nil) (hsp H M hS)) λr s' h=>?_;cases r with
  |error e=>exact(hCX H e s' h).elim
  |ok Y=>
   cases Y with
   |next=>exact False.elim h
   |brk=>exact False.elim h
   |cont=>exact False.elim h
   |ret u=>
    obtain⟨v,H',os,l,S,A,r',q⟩:=h;subst q;obtain rfl:=r';refine⟨rfl,OldK.of_keep λb o e=>?_,os,l⟩;cases q:H b with
    |none=>exact S.keep b o e q (by intro z;trivial) (by simp)
    |some u=>
     rcases M b with z|⟨ob,xs,z⟩
     ·rw[q]at z;cases z
     ·obtain⟨e1,_⟩:=t b _ z;obtain⟨e2,_⟩:=A b _ (S.frzs b ob _ z);simp_all
 cases E:K.lookup a with
 |some o=>
  have e:=KX a o E;rw[ha]at e;cases e;refine i _ (λ_=>.inl rfl) (.inr ⟨_,_,_,E,rfl,rfl,rfl,by rw[Bd,p];exact hl,by omega⟩) (λb u z=>by trivial) (λb z=>f_ rfl z) λz=>f_ rfl z
 |none=>
  refine i (λb=>if b=a then ae (.frz {cls:=.type "list",data:=.seq vs.toArray} _)else af) (λb=>?_) (.inl (.inr ⟨_,a' rfl⟩)) (λb u z=>?_) (λb z=>?_) λ_=>E
  ·by_cases hb:b=a
   ·exact .inr ⟨_,_,a' hb⟩
   ·exact .inl (a_ hb)
  ·by_cases hb:b=a
   ·have T:=(a' hb).symm.trans z;cases T;subst hb;exact⟨ha,by rw[Ab];exact hl,vs,_,U,ha⟩
   ·have T:=(a_ hb).symm.trans z;trivial
  ·by_cases hb:b=a
   ·exact hb
   ·exact f_ (a_ hb) z
theorem walk_of{l:PySem.W.OpenLaw}{n k:Nat}{q:Bb}{loose:List Str}{XP:(Str->Option Af)->Heap->Prop}{YP:Bj->Heap->Prop}{d:DefRec}{K:Params->Ag}{CX:Bj->gT}{sp:Bj->Sp}{x:Str}
  (hn:l.most=ae n) (hn2:n<=Aw) (hdf:d.params.defaults=[]) (hr:Room k callerA)
  (hY:∀(w:Bj)(h:Heap),YP w h->(K w.params).In h)
  (F:∀(w:Bj)(mg:Str->Option Af)(fa:z_)(h:Heap),(K w.params).In h->h.Ns Dv mg->mg d.name=ae (.ref fa)->
   ∃fd:B8,(∀(s:Aj)(u:Af),BindsTo s fd ⟨[u],[]⟩ [(x,u)]) /\
    ∀base:Heap,(K w.params).In base->base.Ns Dv mg->FnOk l.prog w (K w.params) mg base (CX w) k fa fd [x] (sp w))
  (hsp:∀(w:Bj)(H:Hp)(a:z_)(ns:List Int),ns.length<=n->kc H->SqL (K w.params) H a (ns.map V.int)->sp w [.ref a] H (λv _=>v=.bl ah) λ_ _ _=>False)
  (hCX:∀(w:Bj)(H:Hp)(s:Aj)(e:Af)(s':Aj),CX w [] H s (λ_ _ _=>False) e s'->False):
  PySem.W.WalkO q loose XP YP l.row.toRowW d [] (λf vs=>PySem.call f vs):=by
 refine Att.attach_call hn hdf λw L D mg N fa o M J C a vs ns G Y E I y m j i c r=>?_;have p:=hY w _ Y;obtain⟨fd,z,A⟩:=F w mg fa _ p G.T.g m;exact GR p G.T.g G.T.b G.T.builtins G.T.nolimit r j i (Ba c hn2) hr A z (λH t B=>hsp w H a ns c t B) λH e s'=>hCX w H D e s'
abbrev b6:gT:=λ_ _ _ _ _ _=>False
abbrev E0:XK:=λ_ _ _=>False
theorem jC{X:Cx}:vb b6 X E0:=λ_ _ _ _ _ _ _ h=>h.elim
structure Fun(K:Ag)(x qual:Str)(st:Stmt)(f:z_)(fd:B8):Prop where
 ex:∃(oc:Af)(od:Option z_)(kV doc pm:Af)(an:Option z_)(m_ ct:Af)(osl:Array (Option Af)),
  fd=E5 x qual (kY st) (eF st) (bN st) .none kV doc pm an m_ ct/\K.lookup f=ae ⟨oc,od,.func fd,osl⟩/\PySem.W.codeIn K m_ qual=ah
 kp:Co K (.ref f)=ah
section
variable{P:Bb}{w:Bj}{K:Ag}{mg:Str->Option Af}{base:Heap}
theorem Fun.ok{x qual:Str}{st:Stmt}{f:z_}{fd:B8}{N ps:List Str}{k:Nat}{sp:Sp}(F:Fun K x qual st f fd)(S:FnScope N ps (bN st))(len:∀vs H Q E,sp vs H Q E->vs.length=ps.length)
  (hbody:∀(m_:Af)(A:Bt)(outer:List Env)(s:Aj)(H:Hp)(vs:List V)(Q:VK)(E:XK),Room k (A.deeper (envOfC qual (bN st) s.heap.objs.size f m_))->sp vs H Q E->
   ∃t,PSs (cn b6 P w K mg base N qual (bN st) f m_ A outer s H E).nox (eF st) t/\t {nx:=λ_ H'=>Q .non H',rt:=Q} (start N vs) H):FnOk P w K mg base b6 (k+1) f fd ps sp:=by
 obtain⟨i,l,n,g,m,j,m_,o,c,rfl,d,a⟩:=F.ex;refine Md d a S len λA outer s H vs Q E e b=>?_;obtain⟨t,h,q⟩:=hbody m_ A outer s H vs Q E e b;exact⟨t,h.nox,q⟩
theorem Fun.binds{x qual:Str}{st:Stmt}{f:z_}{fd:B8}{ps:List Str}(F:Fun K x qual st f fd)
  (h:∀(kV doc pm:Af)(an:Option z_)(m_ ct:Af)(us:List Af),us.length=ps.length->bindArgs (E5 x qual (kY st) (eF st) (bN st) .none kV doc pm an m_ ct) ⟨us,[]⟩=pure (ps.zip us)):Binds K fd ps []:=by
 obtain⟨d,c,kV,doc,pm,an,m_,ct,a,rfl,e,b⟩:=F.ex;exact .all (h kV doc pm an m_ ct)
theorem Qi{x qual:Str}{st:Stmt}{f:z_}{oc:Af}{od an:Option z_}{osl:Array (Option Af)}{kV doc pm m_ ct:Af}(l:K.lookup f=ae ⟨oc,od,.func (E5 x qual (kY st) (eF st) (bN st) .none kV doc pm an m_ ct),osl⟩)
  (c:PySem.W.codeIn K m_ qual=ah) (k:Co K (.ref f)=ah):Fun K x qual st f (E5 x qual (kY st) (eF st) (bN st) .none kV doc pm an m_ ct):=⟨⟨oc,od,kV,doc,pm,an,m_,ct,osl,rfl,l,c⟩,k⟩
end
theorem DK{n:Nat}(h:n<=1000):n < Aw:=D3 h ∎
section
variable{X:Cx}
theorem pv(i:Nat){x:Str}{pos:Pos}(hN:X.N[i]?=ae x:=by rfl)(hv:ej X.env.scope x:=by first|exact Ce rfl|exact Bz (Ce rfl)|exact Bz (Bz rfl))(hd:(x==("__debug__":Str))=ai:=by decide)
  (q_:(x==("__classdict__":Str))=ai:=by decide):PE X (.Name x pos) (aM i):=fm hN hv hd q_
end
theorem vf{A B:Prop}(h:B):if ai=ah then A else B:=h
theorem js{c A B:Prop}[Decidable c](h1:c->A)(h2:¬c->B):if c then A else B:=by
 by_cases h:c
 ·rw[a' h];exact h1 h
 ·rw[a_ h];exact h2 h
def gN(H H':Hp):Prop:=∀b o,H b=ae o->H' b=ae o
end L2
namespace L2
open PySem PySem.Spec PyProof.Rows
section
variable{prog:Bb}{w:Bj}{A:Bt}{R:Result->Aj->Prop}{s:Aj}
theorem LS{elt target iter:Expr}{ifs:List Expr}{scope:Et}{pos:Pos}{it i':Af}{env:Env}(I:Nat->Aj->Prop)
  (turn:∀n s,I n s->A6 (A9 prog w) A (pyNext it) (λr r_=>match r with
   |none=>R (.ok .next) r_
   |some v=>A6 (A9 prog w) A (letOwnedTupleGo target it v) (λ_ s₁'=>A6 (A9 prog w) A (assign target env v) (λ_ s_=>
     A6 (A9 prog w) A (forIn ifs ah λc r=>if r=ah then do let ok <-isTrue c env (eval c env);pure (Ga ok)else pure (Ga r)) (λok u_=>
      if ok=ah then A6 (A9 prog w) A (eval elt env) (λx x_=>
       A6 (A9 prog w) A (call (.builtin "list.append") [i',x]) (λ_ y_=>∃m,m < n/\I m y_) (λ_ _=>False) x_) (λ_ _=>False) u_
      else ∃m,m < n/\I m u_) (λ_ _=>False) s_) (λ_ _=>False) s₁') (λ_ _=>False) r_) (λ_ _=>False) s)
  (n:Nat) (h:I n s):Fz (A9 prog w) A (.compLoop (.ListComp elt [⟨target,iter,ifs,0⟩] scope pos) 0 it i' env) R s:=by
 refine codeAny_loop rfl I (λn s g=>?_) n h;show A6 _ A _ _ _ s;refine wpAny_noted ?_;rw[compTurn_list];refine Aa (wpAny_standAt (Aa (Dc (turn n s g) (λr r_ d=>?_) λ_ _ f=>f.elim)));cases r with
 |none=>exact Ai d
 |some v=>
  refine Aa (Dc d (λ_ s₁' a=>Aa (Dc a (λ_ s_ j=>Aa (Dc j (λok u_ b=>?_) λ_ _ f=>f.elim)) λ_ _ f=>f.elim)) λ_ _ f=>f.elim);cases ok with
  |false=>exact Ai ⟨rfl,b⟩
  |true=>
   exact Aa (Aa (Dc b (λx x_ i=>Aa (Dc i (λ_ y_ e=>Ai (Ai ⟨rfl,e⟩)) λ_ _ f=>f.elim)) λ_ _ f=>f.elim))
end
def cW(X:Cx)(N:List Str)(scope:Et)(cl:List (Str×z_))(s:Aj)(H:Hp)(fp:List z_):Cx:=
 { X with N:=N,s₀:=s,H₀:=H,env:=compEnvC scope cl s.heap.objs.size X.env,outer:=X.stack,ex:=fp,fn:=λ_=>ai,pn:=[],xe:=λ_ _=>False}
structure CompSc(X:Cx)(N:List Str)(scope:Et)(cl:List (Str×z_))(fr:List (Option Nat)):Prop where
 clos:closureFor scope X.env=pure cl
 kind:scope.kind=.function
 nocell:∀y∈scope.names,y.2≠.cell
 names:∀y∈scope.names,y.2=.local->scope.names.lookup y.1=ae .local
 sub:∀x c,cl.lookup x=ae c->X.env.cells.lookup x=ae c
 has:∀x,((relabel scope X.env).names.lookup x=ae .cell\/(relabel scope X.env).names.lookup x=ae .free)->∃c,cl.lookup x=ae c
 len:fr.length=N.length
 fre:∀(j i:Nat),fr[j]?=ae (ae i)->∃x,N[j]?=ae x/\X.N[i]?=ae x/\ej X.env.scope x/\(X.env.kindOf x=ae .cell\/X.env.kindOf x=ae .free) /\
  ((relabel scope X.env).names.lookup x=ae .cell\/(relabel scope X.env).names.lookup x=ae .free)/\cl.lookup x=X.env.cells.lookup x
theorem qT{κ:Type}:∀{l:List (Str×κ)}{x:Str}{k:κ},l.lookup x=ae k->(x,k)∈l
 |[],_,_,h=>nomatch h
 | (y,b)::r,x,k,h=>by
  rw[List.lookup_cons]at h;cases e:x==y with
  |true=>
   rw[e]at h;have a:x=y:=by simp_all
   rw[a,(Bq h)];exact Ap
  |false=>
   rw[e]at h;exact Ak _ (qT h)
theorem yz{κ:Type}:∀{l:List (Str×κ)}{x:Str},x∈l.map (·.1)->∃k,l.lookup x=ae k
 |[],_,h=>f_ h (by simp)
 | (y,a)::r,x,h=>by
  rw[List.lookup_cons];cases e:x==y with
  |true=>exact⟨a,rfl⟩
  |false=>
   have b:¬x=y:=λz=>by simp_all
   rcases Au.mp h with z|z
   ·exact f_ z b
   ·exact yz z
theorem KY{X:Cx}{scope:Et}{cl:List (Str×z_)}(nm:List (Str×NameKind))(ks:List Str)(hrel:(relabel scope X.env).names=nm)(hks:cl.map (·.1)=ks)(h3:∀y∈nm,(y.2=.cell\/y.2=.free)->y.1∈ks):
  ∀x,((relabel scope X.env).names.lookup x=ae .cell\/(relabel scope X.env).names.lookup x=ae .free)->∃c,cl.lookup x=ae c:=by
 intro x h;rw[hrel]at h;refine yz ?_;rw[hks];rcases h with h|h
 ·exact h3 _ (qT h) (.inl rfl)
 ·exact h3 _ (qT h) (.inr rfl)
def dN(fr:List (Option Nat))(σ:St):St:=fr.map λo=>o.bind λi=>(σ[i]?).bind id
theorem R8{fr:List (Option Nat)}{σ:St}{j:Nat}{v:V}(h:(dN fr σ)[j]?=ae (ae v)):∃i,fr[j]?=ae (ae i)/\σ[i]?=ae (ae v):=by
 unfold dN at h;rw[Am]at h;cases e:fr[j]? with
 |none=>rw[e]at h;cases h
 |some o=>
  rw[e]at h;cases o with
  |none=>cases h
  |some i=>
   refine⟨i,rfl,?_⟩;have a:(σ[i]?).bind id=ae v:=Bq h;cases b:σ[i]? with
   |none=>rw[b]at a;cases a
   |some d=>
    rw[b]at a;have c:d=ae v:=a;rw[c]
def lp(X:Cx)(ifs:List Expr)(tt:TT):Prop:=
 ∀(h_:List (z_×Obj))(s:Aj)(σ:St)(H:Hp)(Q:Bool->Hp->Prop),Inv X h_ σ H s->tt σ H Q->
  A6 (A9 X.prog X.w) X.A (forIn ifs ah λc r=>if r=ah then do let ok <-isTrue c X.env (eval c X.env);pure (Ga ok)else pure (Ga r)) (TP X h_ σ Q) X.xe s
def yX:TT:=λ_ H Q=>Q ah H
theorem Sq{X:Cx}:lp X [] yX:=λ_ _ _ H _ I h=>wpAny_tests_nil ⟨H,I,h⟩
theorem FU{X:Cx}{c:Expr}{tt:TT}(h:PT X c tt):lp X [c] tt:=λh_ s σ H Q I q=>wpAny_tests_one (h h_ s σ H Q I q)
def lr(fr:List (Option Nat))(wi:TI)(g:TG)(tt:TT)(te:TE):TE:=λσ H Q=>wi σ H λJ H1=>∀D,H1 D=af->
 ∃W:Nat->Nat->List V->St->Hp->Prop,(∃m,W 0 m [] (dN fr σ) (upd H1 D (.lst [])))/\∀i m ys τ H,W i m ys τ H->
  ((J.stop i H/\Q (.ref D) H)\/(J.go i H/\ys.length < Aw/\∀x H',J.yld i H x H'->g x τ H' λτ2 H2=>tt τ2 H2 λb H3=>
   if b=ah then te τ2 H3 (λy H4=>H4 D=ae (.lst ys)/\∃m',m' < m/\W (i+1) m' (ys++[y]) τ2 (upd H4 D (.lst (ys++[y]))))else ∃m',m' < m/\W (i+1) m' ys τ2 H3))
section
variable{X:Cx}{N:List Str}{scope:Et}{cl:List (Str×z_)}{fr:List (Option Nat)}{h_:List (z_×Obj)}{σ:St}{H:Hp}{s:Aj}{fp:List z_}
theorem NB(S:CompSc X N scope cl fr)(I:Inv X h_ σ H s)(hf:∀b∈fp,cU X h_ H b)(k_:∀b∈fp,b < s.heap.objs.size):(cW X N scope cl s H fp).Ok where
 mod:=I.ok.mod
 kind:=S.kind
 glob:=I.ok.glob
 blt:=I.ok.blt
 above:=Ao _
 inj:=λx y c a b=>I.ok.inj x y c (S.sub x c a) (S.sub y c b)
 has:=λx h=>S.has x h
 cab:=λx c h=>nomatch h
 hd:=I.ok.hd
 frames:=I.ok.frames
 stk:=.inl rfl
 exf:=λb d=>⟨Be (k_ b d),λx c e=>(hf b d).2.2.2.2.1 x c (S.sub x c e)⟩
 bs:=I.bs
 bsz:=Ba I.ok.bsz I.sz
 noex:=λb o e d=>by
  rcases(hf b d).2.2.2.1 with z|z
  ·exact I.ok.noex b o e z
  ·exact f_ (Bi (As (I.ok.bs b o e).1) z) (Dz _)
 exfs:=λb d z=>by
  rcases Au.mp (I.stkSub b z)with e|e
  ·exact(hf b d).2.1 e
  ·exact(hf b d).2.2.1 e
 funs:=I.stack
 frf:=I.stkFree
theorem NJ{t_:Heap}{t':Nat}(S:CompSc X N scope cl fr)(I:Inv X h_ σ H s)(hf:∀b∈fp,cU X h_ H b)(k_:∀b∈fp,b < s.heap.objs.size)
  {ob:Obj} (hsb:Cz s.heap.objs.size (s.heap.push ob) t_) {m:Str->Option Af} (hn:t_.Ns s.heap.objs.size m):
  Inv (cW X N scope cl s H fp) [] (dN fr σ) H {s with heap:=t_,toks:=t'}:=by
 have a:∀b o,s.heap.get? b=ae o->t_.get? b=ae o:=λb o e=>(hsb.2 b (Be (As e))).trans (Ae _ e);refine⟨NB S I hf k_,rfl,I.bare,Un.kept a,⟨m,hn,λj x v F B K=>?_⟩,λx c e=>?_,I.fresh,λx c e=>I.freeC x c (S.sub x c e),λp t=>?_,I.hok.kept a,?_⟩
 ·obtain⟨i,A,n⟩:=R8 B;obtain⟨y,E,G,D,C,J,w⟩:=S.fre j i A;have d:N[j]?=ae x:=F;rw[E]at d;have f:=Bq d;subst f;obtain⟨L,g,h⟩:=I.loc;obtain⟨u,r,l⟩:=h i y v G n D;refine⟨u,r,.inr ⟨J,?_⟩⟩;rcases l with⟨k,_⟩|⟨k,c,e,z⟩
  ·rcases C with q|q
   ·rw[q]at k;cases k
   ·rw[q]at k;cases k
  ·exact⟨c,w.trans e,z.keeps a⟩
 ·obtain⟨v,z⟩:=I.cell x c (S.sub x c e);exact⟨v,z.keeps a⟩
 ·exact f_ t (by simp[cW])
 ·show(dN fr σ).length=N.length;unfold dN;rw[Ab,S.len]
theorem zz{H':Hp}{τ:St}{s0 s':Aj}{h':Heap}(I:Inv X h_ σ H s0)(hf:∀b∈fp,cU X h_ H b)(I':Inv (cW X N scope cl s0 H fp) [] τ H' s')(hs:Cz s0.heap.objs.size s'.heap h'):
  Inv X h_ σ H' {s' with heap:=h'}:=by
 have h:H' s0.heap.objs.size=af:=I'.free;have u:=I'.base;have f:∀b o,s0.heap.get? b=ae o->b≠s0.heap.objs.size:=λb o e=>Be (As e);have d:=λb o e=>by
  refine(I'.hok b o e).stay (λc v p z=>(hs.2 c ?_).trans z) (λ_ z=>z) λ_ _ z=>z
  rintro rfl
  rcases p with z|z
  ·rw[<-z,h]at e;cases e
  ·rw[h]at z;cases z
 refine I.call' (ch:=fp) I'.os ?_ d I'.bare λb l=>?_
 ·refine⟨λb o e n g a=>(hs.2 b (f b o e)).trans (u.keep b o e n g a),λb o e n g a=>?_,u.free,λb o e a=>?_,u.tups,u.frzs,u.tbls⟩
  ·obtain⟨q,z⟩:=u.slot b o e n g a;exact⟨q,(hs.2 b (f b o e)).trans z⟩
  ·obtain⟨j,z⟩:=u.there b o e a;exact⟨j,(hs.2 b (f b o e)).trans z⟩
 ·obtain⟨_,k,_,i,r,m⟩:=hf b l;exact⟨i,k,r,m⟩
end
theorem xW{X:Cx}{elt tg iter:Expr}{ifs:List Expr}{scope:Et}{cl:List (Str×z_)}{cpos:Pos}{N:List Str}{fr:List (Option Nat)}{wi:TI}{g:TG}{tt:TT}{te:TE}{use:Option (Af->Sem Unit)}{R:Af->Aj->Prop}
  (hc:X.calm=ah) (S:CompSc X N scope cl fr) (hi:PI X tg iter wi) (hg:∀s H fp,PG (cW X N scope cl s H fp) tg g) (ht:∀s H fp,lp (cW X N scope cl s H fp) ifs tt)
  (he:∀s H fp,PE (cW X N scope cl s H fp) elt te) (hs:∀x,Dx iter X.env x=pure x) {h_:List (z_×Obj)} {s:Aj} {σ:St} {H:Hp} {K:V->Hp->Prop} (I:Inv X h_ σ H s) (h:lr fr wi g tt te σ H K)
  (fin:∀{fp:List z_}{s3 s6:Aj}{H3 Hc:Hp}{τ:St}{a:z_}{mm:Str->Option Af},Inv X h_ σ H3 s3->(∀b∈fp,cU X h_ H3 b)->Inv (cW X N scope cl s3 H3 fp) [] τ Hc s6->K (.ref a) Hc->s6.heap.Ns s3.heap.objs.size mm->compPost (A9 X.prog X.w) X.A X.xe use R (.ref a) s3.heap.objs.size (.ok .next) s6):
  A6 (A9 X.prog X.w) X.A (comprehension (.ListComp elt [⟨tg,iter,ifs,0⟩] scope cpos) scope X.env (firstIterPos [⟨tg,iter,ifs,0⟩] cpos) (newList []) (firstAsync [⟨tg,iter,ifs,0⟩]) (firstIter [⟨tg,iter,ifs,0⟩] X.env) use) R X.xe s:=by
 refine wpAny_comprehension_free rfl hs S.clos S.kind S.names (aO (hi h_ s σ H _ I h) λv s1 h1=>aO h1 λitv k h2=>?_);obtain⟨it,fp,tn,J,H2,e,I2,T,st2,f2,q⟩:=h2;subst e;refine B1 (wpAny_newFunctionEnv S.nocell (by simp) (λt_ hn B=>?_) S.kind);obtain⟨W,⟨m0,w0⟩,turn⟩:=q k.heap.objs.size I2.fresh
 have G:Inv X h_ σ _ {k with heap:=k.heap.push {cls:=.type "list",dict:=af,data:=.seq ([]:List Af).toArray}}:=I2.lnew .nil (Az _);have P:∀s3:Aj,s3={ k with heap:=k.heap.push {cls:=.type "list",dict:=af,data:=.seq ([]:List Af).toArray}}->Inv X h_ σ (upd H2 k.heap.objs.size (.lst [])) s3->
   ∀ob mm,Cz s3.heap.objs.size (s3.heap.push ob) t_->t_.Ns s3.heap.objs.size mm->
   Fz (A9 X.prog X.w) X.A (.compStart (.ListComp elt [⟨tg,iter,ifs,0⟩] scope cpos) 0 (.ref it) (.ref k.heap.objs.size) (compEnvC scope cl s3.heap.objs.size X.env))
    (compPost (A9 X.prog X.w) X.A X.xe use R (.ref k.heap.objs.size) s3.heap.objs.size) {s3 with heap:=t_,toks:=s3.toks+([]:List (Str×Af)).length}:=?P
 ·exact P _ rfl G _ _ B hn
 intro s3 hs3 G ob mm B hn;have hfp:∀b∈fp,∃o,k.heap.get? b=ae o:=λb f=>let⟨o,e,_⟩:=T.obj _ _ st2 b f;⟨o,e⟩;have up:∀b o,k.heap.get? b=ae o->s3.heap.get? b=ae o:=λb o e=>by rw[hs3];exact Ae _ e
 have f3:∀b∈fp,cU X h_ (upd H2 k.heap.objs.size (.lst [])) b:=λb f=>by
  obtain⟨o,e⟩:=hfp b f;obtain⟨g0,gr⟩:=f2 b f;exact⟨by rw[aL (Be (As e))];exact g0,gr⟩
 have k_:=λb f=>let⟨o,e⟩:=hfp b f;As (up b o e);generalize hH3:upd H2 k.heap.objs.size _=H3 at G f3 w0;have U:=T.keep _ _ _ st2 λb f o e=>(B.2 b (Be (As (up b o e)))).trans (Ae _ (up b o e));have t:∀{C:Hp},(∀b∈fp,C b=af)->∀b∈fp,cU (cW X N scope cl s3 H3 fp) [] C b:=λhn b f=>by
  obtain⟨_,Y,k2,k3,k4,k5⟩:=f3 b f;refine⟨hn b f,Be (k_ b f),λz=>?_,.inl f,λx c e=>k4 x c (S.sub x c e),λp hp=>f_ hp (by simp[cW])⟩;rcases Au.mp (G.stkSub b z)with e|e
  ·exact Y e
  ·exact k2 e
 have E:Fz (A9 X.prog X.w) X.A (.compLoop (.ListComp elt [⟨tg,iter,ifs,0⟩] scope cpos) 0 (.ref it) (.ref k.heap.objs.size) (compEnvC scope cl s3.heap.objs.size X.env))
   (compPost (A9 X.prog X.w) X.A X.xe use R (.ref k.heap.objs.size) s3.heap.objs.size) {s3 with heap:=t_,toks:=s3.toks+([]:List (Str×Af)).length}:=by
  refine LS (λn s'=>∃i Q τ Hc,Inv _ [] τ Hc s'/\tn i s'.heap/\(∀b∈fp,Hc b=af)/\W i n Q τ Hc) ?_ m0 ⟨0,[],_,H3,(NJ (t':=s3.toks+([]:List (Str×Af)).length) S G f3 k_ B hn),U,λb f=>(f3 b f).1,w0⟩
  rintro n s5 ⟨i,Q,τ,Hc,I5,st5,O,w5⟩
  rcases turn i n Q τ Hc w5 with⟨stop,qn⟩|⟨go,hz,Z⟩
  ·refine aO (T.done (cW X N scope cl s3 H3 fp) rfl rfl rfl hc i [] s5 τ Hc _ I5 (t O) st5 stop) λr s6 v=>?_;obtain⟨hr,I6⟩:=v;subst hr;obtain⟨mm,hm,_⟩:=I6.loc;exact fin G f3 I6 qn hm
  ·refine aO (T.item (cW X N scope cl s3 H3 fp) rfl rfl rfl hc i [] s5 τ Hc _ I5 (t O) st5 go) λr s6 a=>?_;obtain⟨u,hr,h6⟩:=a;subst hr;refine aO h6 λ_ s7 g=>?_;obtain⟨x,H7,I7,r7,y7,F,fr7⟩:=g;refine aO (hg s3 H3 fp _ s7 τ H7 x u _ (I7.pinned (t fr7) (T.obj _ _ F)) r7 (Z x H7 y7)) λ_ s8 ⟨L,H8,I8,q8⟩=>aO (ht s3 H3 fp _ s8 L H8 _ I8 q8) λok s9 j=>?_;obtain⟨H9,I9,q9⟩:=j;have D:∀{st:Aj}{τ':St}{C:Hp},Inv (cW X N scope cl s3 H3 fp) ([]++pz fp s7.heap) τ' C st->tn _ st.heap/\∀b∈fp,C b=af:=λ{st τ' C} Ix=>by
    refine⟨T.keep _ _ _ F λb f o e=>(Ix.pin _ (Bw _ (Bw _ (qo f e)))).1,λb f=>?_⟩;obtain⟨o,e,d⟩:=T.obj _ _ F b f;exact(Ix.pin _ (Bw _ (Bw _ (qo f e)))).2.1
   cases ok with
   |false=>
    obtain⟨M,hm,w9⟩:=q9;obtain⟨Y,k2⟩:=D I9;exact⟨M,hm,i+1,Q,L,H9,I9.unpinned,Y,k2,w9⟩
   |true=>
    refine aO (he s3 H3 fp _ s9 L H9 _ I9 q9) λxv s10 ⟨y,H10,I10,r10,hD,M,hm,w10⟩=>aO (zr _ s10 L H10 (.ref k.heap.objs.size) [y] _ [xv] (λz C=>∃M,M < n/\W _ M _ L C) I10 rfl (.cons r10 .nil) ⟨_,Q,y,rfl,rfl,hD,hz,M,hm,w10⟩) λz s11 l=>?_;obtain⟨z',H11,I11,_,m'',hm',w11⟩:=l;obtain⟨Y,k2⟩:=D I11;exact⟨m'',hm',i+1,_,L,H11,I11.unpinned,Y,k2,w11⟩
 exact codeAny_compStart_list E (T.self _ 0 _ _ _ U E)
theorem OR{X:Cx}{elt tg iter:Expr}{ifs:List Expr}{scope:Et}{cl:List (Str×z_)}{pos:Pos}{N:List Str}{fr:List (Option Nat)}{wi:TI}{g:TG}{tt:TT}{te:TE}
  (hc:X.calm=ah) (S:CompSc X N scope cl fr) (hi:PI X tg iter wi) (hg:∀s H fp,PG (cW X N scope cl s H fp) tg g) (ht:∀s H fp,lp (cW X N scope cl s H fp) ifs tt)
  (he:∀s H fp,PE (cW X N scope cl s H fp) elt te) (hs:∀x,Dx iter X.env x=pure x:=by intro _;rfl):
  PE X (.ListComp elt [⟨tg,iter,ifs,0⟩] scope pos) (lr fr wi g tt te):=λh_ s σ H Q I h=>xW hc S hi hg ht he hs I h λ{_ _ _ _ _ _ a _} i d e f c=>⟨_,c,λh' b=>⟨.ref a,_,zz i d e b,rfl,f⟩⟩
mutual
inductive RdD(K:Ag)(H:Hp):V->Ad->Prop
 |non:RdD K H .non .none
 |bl (b:Bool):RdD K H (.bl b) (.bool b)
 |int (i:Int):RdD K H (.int i) (.int i)
 |str (x:Str):RdD K H (.str x) (.str x)
 |lst {a:z_} {xs:List V} {ds:List Ad}:SqL K H a xs->RdAll K H xs ds->RdD K H (.ref a) (.list ds)
 |tup {a:z_} {xs:List V} {ds:List Ad}:SqT K H a xs->RdAll K H xs ds->RdD K H (.ref a) (.tuple ds)
inductive RdAll(K:Ag)(H:Hp):List V->List Ad->Prop
 |nil:RdAll K H [] []
 |cons {x:V} {xs:List V} {d:Ad} {ds:List Ad}:RdD K H x d->RdAll K H xs ds->RdAll K H (x::xs) (d::ds)
end
section
variable{X:Cx}{h_:List (z_×Obj)}{σ:St}{H:Hp}{s:Aj}
mutual
theorem RdD.reads(I:Inv X h_ σ H s):∀{v:V}{d:Ad}{u:Af},RdD X.K H v d->RelV v u->∃as,Reads s.heap u d as
 |_,_,u,.non,r=>by
  cases(show u=B3 from r);exact⟨_,.none⟩
 |_,_,u,.bl b,r=>by
  cases(show u=Value.bool b from r);exact⟨_,.bool b⟩
 |_,_,u,.int i,r=>by
  obtain⟨t,rfl⟩:=(show ∃t,u=Value.int i t from r);exact⟨_,.int i t⟩
 |_,_,u,.str x,r=>by
  obtain⟨t,rfl⟩:=(show ∃t,u=Value.str x t from r);exact⟨_,.str x t⟩
 |_,_,u,.lst (a:=a) h1 h2,r=>by
  cases(show u=Cf a from r);obtain⟨i_,rv,⟨o,n,e,c,_,d⟩,_⟩:=I.list h1;obtain⟨as,ha⟩:=RdAll.reads I h2 rv;exact⟨_,.list e c d (by simpa using ha)⟩
 |_,_,u,.tup (a:=a) h1 h2,r=>by
  cases(show u=Cf a from r);obtain⟨i_,rv,⟨o,e,c,n,d⟩,_⟩:=I.tuple h1;obtain⟨as,ha⟩:=RdAll.reads I h2 rv;exact⟨_,.tuple e c d (by simpa using ha)⟩
theorem RdAll.reads(I:Inv X h_ σ H s):∀{vs:List V}{ds:List Ad}{us:List Af},RdAll X.K H vs ds->Vals vs us->∃as,ReadsAll s.heap us ds as
 |_,_,_,.nil,.nil=>⟨_,.nil⟩
 |_,_,_,.cons h1 h2,.cons r1 r2=>by
  obtain⟨as,ha⟩:=RdD.reads I h1 r1;obtain⟨bs,hb⟩:=RdAll.reads I h2 r2;exact⟨_,.cons ha hb⟩
end
end
def Small(d:Ad):Prop:=Ec d=ah/\Ek d<=20/\F8 d<=2 ^ 20/\PyData.intsShort 13 d=ah/\PyData.showable d=ah
theorem Small.len{d:Ad}(h:Small d):d.shown.length<=Aw:=by
 have a:PyData.layable0 d=ah:=by
  unfold PyData.layable0;rw[h.1,b_ (by have:=h.2.1;omega),b_ h.2.2.1];rfl
 have:=shown_le13 a h.2.2.2.1;rw[Ez];omega
theorem Small.noDict{d:Ad}(h:Small d):d.hasDict=ai:=PyData.hasDict_of_canLay d h.1
theorem GJ{X:Cx}(hg:X.A.guards=ae [])(hu:X.A.units+64 < C9):CallR X (.builtin "repr") (λxs H Q=>∃a d,xs=[.ref a]/\RdD X.K H (.ref a) d/\Small d/\Q (.str d.shown) H):=by
 intro c s σ H xs l Q I r h;obtain⟨a,d,rfl,k,b,q⟩:=h;obtain⟨u,rfl,j⟩:=fA r;cases(j);obtain⟨m,g⟩:=RdD.reads I k (show RelV _ (Cf a)from rfl);have i:=b.2.1;exact repr_of_reads' g b.2.2.2.2 (PyData.noDict_hsm b.noDict) hg ⋯ (λ_ _ e=>e) (λh' u n f=>⟨.str d.shown,H,I.kept f,⟨u,rfl⟩,q⟩) b.len
def q7(K:Ag):R2:=λx y H Q=>∃a b xs,x=.ref a/\y=.ref b/\SqL K H a xs/\SqL K H b []/\Q (.bl xs.isEmpty) H
theorem Kw{X:Cx}(hu:X.A.units < C9):OpR X (Bv .Eq) (q7 X.K):=by
 intro i s σ H x y v u Q I k m h;obtain⟨a,b,w,rfl,rfl,t,o,q⟩:=h;cases(k);cases(m);obtain⟨p,f,c,_⟩:=I.list t;obtain⟨d,r,g,_⟩:=I.list o;have n:=Vals.zero r;subst n;cases f with
 |nil=>exact PySem.SeqAt.eq_listAt (e:=λ_=>ah) c.isList g.isList rfl hu (λj l=>f_ l (by simp)) ⟨_,H,I,(by rfl),q⟩
 |cons f z=>exact PySem.SeqAt.eq_list_lengthsAt c.isList g.isList (by simp) hu ⟨.bl ai,H,I,rfl,q⟩
def yb(K:Ag):R2:=λx y H Q=>∃a b xs ys,x=.ref a/\y=.ref b/\SqT K H a xs/\SqT K H b ys/\ys≠[]/\xs.length+ys.length<=Aw /\
 (xs=[]->Q (.ref b) H)/\(xs≠[]->∀p,H p=af->Q (.ref p) (upd H p (.tup (xs++ys))))
theorem op_catA{X:Cx}:OpR X (Es .Add) (yb X.K):=by
 intro f s σ H x y v u Q I p q h;obtain⟨a,b,r,O,rfl,rfl,w,t,L,G,B,C⟩:=h;by_cases g:r=[]
 ·cases(p);cases(q);obtain⟨l,J,z,_⟩:=I.tuple w;obtain⟨c,S,P,_⟩:=I.tuple t;obtain⟨⟨R,A,_,N⟩,o,M,n,D⟩:=id z;obtain⟨⟨_,m,_,k⟩,d,i,E,j⟩:=id P;subst M D i j;exact concat_meets ⟨_,o,rfl⟩ ⟨_,d,rfl⟩ noFill_tuple_add seq_tuple_add Ft Fo (Fh _ _)
   (tuple_addW0 a b l.toArray c.toArray n E A m N k (by simp[(J.nil_iff.mpr g)])) ⟨o,d,⟨.ref b,H,I,rfl,B g⟩⟩
 ·exact op_catT f s σ H _ _ v u Q I p q ⟨a,b,r,O,rfl,rfl,w,t,g,G,λe=>f_ e L,λ_=>C g⟩
theorem IE{X:Cx}{T:String}:CallR X (.builtin "isinstance") (λxs H Q=>∃x t b,xs=[x,.ty T]/\TyOf X.K H x t/\PySem.W.kitOne X.K t (.type T)=ae b/\Q (.bl b) H):=by
 intro c s σ H xs i Q I r h;obtain⟨x,t,b,rfl,ty,e,q⟩:=h;obtain⟨u,f,rfl,d,a⟩:=xf r;cases(a);exact M5 I d ty e λtk=>⟨.bl b,H,I.tok tk,rfl,q⟩
section
variable{prog:Bb}{w:Bj}{A:Bt}{E:Af->Aj->Prop}{s:Aj}
theorem z6:entryFor table "dict.update.loop"=ae Ep.«dict.update.loop»:=Gn (by kernel_rfl)
theorem BP:plainId "dict.update.loop"=ah:=by decide +kernel
theorem Su:typeLookup (.type "tuple") "keys"=pure af:=by rw[G0,E7];kernel_rfl
theorem Nl{a:z_}{i_:List Af}{Q:List Af->Aj->Prop}(p:IsTup s.heap a i_.toArray)(h:Q i_ s):A6 (A9 prog w) A (Builtin.Dict.pairItems (.ref a)) Q E s:=by
 obtain⟨o,b,c,n,d⟩:=id p;refine Aa (Fq (⟨o,b,c⟩) (Aa (C8 b d (Ai ?_))));simpa using h
set_option maxRecDepth 8000 in
theorem Hr{a:z_}{o:Obj}{xs:Array Af}{k:Nat}{name:Str}{Q:Option Af->Aj->Prop}
  (hx:s.heap.get? a=ae o) (hc:o.cls=.type "tuple") (hdat:o.data=.seq xs k) (hd:o.dict=af) (hmiss:typeLookup (.type "tuple") name=pure af) (hname:(["__module__","__name__","__qualname__","__doc__","__annotations__"]:List Str).contains name=ai) (hA:A.handled=af)
  (h:∀h' tk e,Heap.NewExcOf s.heap h' e "AttributeError"->Q af {s with heap:=h',toks:=tk}) (hsz:name.length+100<=Aw:=by size_fits):
  A6 (A9 prog w) A (getAttr? (.ref a) name) Q E s:=by
 obtain⟨c,u,r,v⟩:=o;simp only at hc hdat hd;subst hc hdat hd;obtain⟨t,g,d,tk,q⟩:=s;have n:∀m,(⟨t,g,d,m,q⟩:Aj).TypeIs (.ref a) "tuple":=λ_=>⟨_,hx,rfl⟩;have C:=sub_AttributeError;have z:=F.slot_tuple_getattribute.lookup;have G:=F.slot_tuple_getattribute.bind (.ref a);have D:=am_tuple_getattr_none;unfold getAttr? getAttrBy? getAttrBy
 repeat (any_goals (first|assumption|exact n _|((with_reducible show A6 _ _ (call _ _ _) _ _ _);refine call_meets F.slot_tuple_getattribute (n _) am_entry_tuple_getattribute (F.args_tuple_getattribute_2 _ _) (meets_getattribute_miss_tuple a xs k v name _ hmiss hname hsz) ⟨hx,hA,λh' m e l=>?_⟩)|wp_step))
 obtain⟨B,y,x⟩:=l.there;show A6 _ _ _ _ _ _;simp
 repeat (any_goals (first|assumption|wp_step))
 exact h _ _ _ l.of
end
section
variable{X:Cx}{h_:List (z_×Obj)}{σ:St}{A:Bt}{R:Result->Aj->Prop}
theorem SqT.upd{K:Ag}{H:Hp}{a d:z_}{xs:List V}{o:HO}(h:H a=ae (.tup xs))(hd:a≠d):(L2.upd H d o) a=ae (.tup xs):=by rw[aL hd];exact h
theorem SU(hA:A.handled=af){src d it:z_}(ps:List (z_×aF×V)):∀(n i:Nat)(H:Hp)(s:Aj)(kvs:List (aF×V)),n+i=ps.length->Inv X h_ σ H s->H d=ae (.dK kvs)->kvs.length+n<=Aw->
  H src=ae (.tup (ps.map λp=>.ref p.1))->(∀p∈ps,H p.1=ae (.tup [kV p.2.1,p.2.2]))->s.heap.IsTupleIter it src i->cU X h_ H it->
  (∀H' s',Inv X h_ σ H' s'->H'=L2.upd H d (.dK (kg kvs ((ps.drop i).map (·.2))))->R (.ok (.ret .none)) s')->
  Fz (A9 X.prog X.w) A (.builtin "dict.update.loop" ⟨[.ref d,.ref it,Dm i,.none],[]⟩) R s:=by
 intro n
 induction n with
 |zero=>
  intro i H s kvs hn I x hz l v O f S;obtain⟨G,D,p,_⟩:=I.tuple (SqT.of l);obtain⟨m,C,W,B,y,t⟩:=f;refine Eb z6 ?_;have hl:=D.length;rw[Ab]at hl;refine Aa (wpAny_pyNext_tuple_end hA O (p) (by simp;omega) λh' eb=>Aa (Ai (Ai ?_)));refine S H _ (I.turned (λb o g e=>eb b o g e) m C B y t) ?_;have e1:ps.drop i=[]:=List.drop_eq_nil_of_le ⋯;rw[e1]
  funext b
  unfold L2.upd
  split
  ·rename_i g;rw[g,x];rfl
  ·rfl
 |succ n ih=>
  intro i H s kvs hn I x hz l v O f S;obtain⟨G,D,p,_⟩:=I.tuple (SqT.of l);obtain⟨m,C,W,B,y,t⟩:=id f;have L:i < ps.length:=by omega
  have Q:(ps.map λp=>V.ref p.1)[i]?=ae (V.ref (ps[i]).1):=by simp[L]
  obtain⟨u,hu,ru⟩:=D.get Q;cases(ru);have E:=v _ (Ck L);refine Eb z6 (Aa (wpAny_pyNext_tuple_item O (p) (by simpa using hu) λh1 M sb=>?_));have F:Inv X h_ σ H {s with heap:=h1}:=I.turned (λb o g e=>(sb.2 b g).trans e) m C B y t;obtain⟨T,P,p1,_⟩:=F.tuple (SqT.of E);obtain⟨u1,u2,rfl,r1,r2⟩:=xf P;refine Aa (B7 (Aa (wpAny_tryCatch (Nl p1 ?_))));obtain⟨z,J,vs,c,Z⟩:=CW F.hok x;have hz1:vs.length<=Aw:=by rw[<-c.length];exact z
  have hl1:=o3 kvs (ps[i]).2.1 (ps[i]).2.2;refine B7 (wpAny_dictSet_pairs (l8 r1) Z λh2 h a=>?_);have N:∃q,h2.get? d=ae q:=let⟨q,_,_,E,_⟩:=h;⟨q,E⟩;have U:∀b Y,H b=ae (.tup Y)->b≠d:=λb Y e z=>by simp_all
  have j:it≠d:=λz=>by simp_all
  have hc:(i+1)=((i+1:Nat):Int):=by push_cast;rfl
  refine Ai ⟨E6 BP _,?_⟩;refine ih (i+1) _ _ _ ⋯ (lz (t':=s.toks+1) F (by rw[x];trivial) a N (yn ⋯ J (c.put (ps[i]).2.1 r2) h)) bj ⋯ (SqT.upd (K:=X.K) l (U _ _ l)) (λq k=>SqT.upd (K:=X.K) (v q k) (U _ _ (v q k))) (by
   obtain⟨o,e,r⟩:=M;exact⟨o,(a.2 it j).trans e,r⟩) ⟨by rw[aL j];exact m,C,W,B,y,t⟩ λH' s' I' e=>S H' s' I' ?_;rw[e,sV,Fj L];rfl
theorem fc{n:Nat}(h:n<=1000):n<=Aw:=F7 (DK h)
theorem G7(hh:X.A.handled=af):CallR X (.type "dict") (λxs H Q=>∃(src:z_)(ps:List (z_×aF×V)),xs=[.ref src]/\H src=ae (.tup (ps.map λp=>V.ref p.1))/\(∀p∈ps,H p.1=ae (.tup [kV p.2.1,p.2.2]))/\ps.length<=1000 /\
  ∀l,H l=af->Q (.ref l) (L2.upd H l (.dK (kg [] (ps.map (·.2)))))):=by
 intro i s σ H xs U Q I r h;obtain⟨src,ps,rfl,J,B,x,q⟩:=h;obtain⟨u,rfl,P⟩:=fA r;cases(P);refine callType_codes (Q₁:=λobj L=>obj=.ref s.heap.objs.size/\L={ s with heap:=s.heap.push {cls:=.type "dict",data:=.dict #[]}}) F.kt_called_dict (F.kt_typeCall_dict_1 _) F.entry_dict_init (kt_code_dict_new _ ⟨rfl,rfl⟩) ?_
 rintro obj L ⟨rfl,rfl⟩
 have t:=I.fresh;have G:Inv X i σ _ {s with heap:=s.heap.push {cls:=.type "dict",data:=.dict #[]}}:=I.laid (λb o e=>Ae _ e) (Ao _) (xX s.heap I.big);have E:∀b xs,H b=ae (.tup xs)->b≠s.heap.objs.size:=λb xs e z=>by simp_all
 have f:=SqT.upd (K:=X.K) (o:=.dK []) J (E _ _ J);obtain⟨S,N,T,o,k,v,⟨n,c⟩,M⟩:=(show ObjOk X.prog X.w _ _ src (.tup _)from G.hok src _ f);have a:(s.heap.push {cls:=.type "dict",data:=.dict #[]}).DictOf (fE X.prog X.w) s.heap.objs.size []:=Heap.DictOf.new s.heap;refine⟨a.typeIs,F.args_dict_init_2 _ _,Aa ?_⟩;refine Aa (wpAny_notOrdered_dict a.typeIs (Ai ?_));show A6 _ _ _ _ _ _;refine Aa (Fq ⟨o,k,v⟩ (Aa (Hr k v c M Su (by rfl) hh (λh' y e C=>?_))));have j:=G.kept (t':=y) C.keeps;refine Aa (Gm (Aa (Dp ((IsTup.keeps ⟨o,k,v,n,c⟩ C.keeps)) ?_)));refine Ai ⟨E6 BP _,?_⟩;refine SU (A:=X.A.in1) hh ps ps.length 0 _ _ [] ⋯ (j.kept (t':=y) (λb o e=>Ae {cls:=.type "tuple_iterator",data:=.fields #[.ref src,.int 0 0]} e)) bj (by simp;exact fc ⋯) f (λq D=>SqT.upd (K:=X.K) (B q D) (E _ _ (B q D))) ⟨_,Av _ rfl,rfl,rfl⟩ (j.fpOk (Ao _) j.fresh) λH' Y O e=>?_;refine⟨rfl,.ref s.heap.objs.size,H',O,rfl,?_⟩;rw[e,sV];exact q _ t
end
theorem R0(bs:List Bool):((A8 bs.length).all λi=>(bs[i]?).getD ah)=bs.all id:=by
 rw[D6,Cy,Cy]
 constructor
 ·intro h b d;obtain⟨i,c,rfl⟩:=List.mem_iff_getElem.mp d;have:=h i (Bx.mpr c);rw[Ah c]at this;exact this
 ·intro h i c;have a:=Bx.mp c;rw[Ah a];exact h _ (Ck a)
theorem Ni{X:Cx}(hh:X.A.handled=af):CallR X (.builtin "all") (λxs H Q=>∃(p:z_)(bs:List Bool),xs=[.ref p]/\H p=ae (.lst (bs.map V.bl))/\Q (.bl (bs.all id)) H):=by
 intro o s σ H xs E Q I r h;obtain⟨p,bs,rfl,y,q⟩:=h;obtain⟨u,rfl,j⟩:=fA r;cases(j);obtain⟨c,m,z,_⟩:=I.list (SqL.of y);have d:=z.isList;have k:p < s.heap.objs.size:=by obtain⟨_,e,_⟩:=d;exact As e
 have a:=by have:=m.length;rwa [Ab]at this
 refine call_all_walk (wpAny_pyIter_list d ?_);refine⟨_,_,_,_,_,_,λi=>(bs[i]?).getD ah,rfl,Walks.list (A:=X.A.in1) hh _ p (Be k) c.toArray,
  ⟨⟨_,Av _ rfl,rfl,rfl⟩,d.push _⟩,λi v J G F t g=>?_,λh' C w=>?_⟩
 ·have l:=by simpa using t
  have f:i < bs.length:=by rw[a];exact(Aq.mp l).1
  have B:(bs.map V.bl)[i]?=ae (V.bl bs[i]):=by simp
  obtain⟨u,n,j⟩:=m.get B;rw[l]at n;cases(Bq n);cases(show v=Value.bool bs[i]from j);dsimp only at g;rw[Ah f]at g;exact C7 g
 ·have e:((A8 c.toArray.size).all λi=>(bs[i]?).getD ah)=bs.all id:=by
   rw[Bd,<-a];exact R0 bs
  rw[e];refine⟨.bl _,H,I.kept λb x e=>w b x (λhm=>?_) (Ae _ e),rfl,q⟩;rw[A2.mp hm]at e;exact Dz _ (As e)
theorem Ly{X:Cx}:OpR X (Bv .LtE) (λx y H Q=>∃i j,x=.str i/\y=.str j/\Q (.bl (!decide (j.cps.toList < i.cps.toList))) H):=by
 intro a s σ H x y v u Q I b c h;obtain⟨i,j,rfl,rfl,q⟩:=h;obtain⟨t,rfl⟩:=b;obtain⟨d,rfl⟩:=c;exact P.le_str (cu I q rfl)
theorem Ou{X:Cx}:OpR X (Bv .Gt) (λx y H Q=>∃i j,x=.str i/\y=.str j/\Q (.bl (decide (j.cps.toList < i.cps.toList))) H):=by
 intro a s σ H x y v u Q I b c h;obtain⟨i,j,rfl,rfl,q⟩:=h;obtain⟨t,rfl⟩:=b;obtain⟨d,rfl⟩:=c;exact P.gt_str (cu I q rfl)
def oY:Ad->String
 |.none=>"NoneType"
 |.bool _=>"bool"
 |.int _=>"int"
 |.str _=>"str"
 |.list _=>"list"
 |.tuple _=>"tuple"
 |.dict _=>"dict"
def gW(T:String)(d:Ad):Bool:=oY d==T || (T=="int"&&oY d=="bool")
def cx(h:Str):Ad->Bool
 |.str x=>decide (x=h)
 |_=>ai
end L2
namespace Nb
open PySem L2
def lC:Bool:=ah
def pV:List V:=[.non,.non,.non,.int 1,.int 2]
def j9:List Ad:=[.none,.none,.none,.int 1,.int 2]
end Nb
set_option Elab.async false
set_option maxRecDepth 100000
namespace Nb
open PySem L2
def Kp(t:z_)(H H':Hp):Prop:=∀b o,H b=ae o->b≠t->H' b=ae o
theorem Kp.refl(t:z_)(H:Hp):Kp t H H:=λ_ _ h _=>h
theorem Kp.trans{t:z_}{H H1 H2:Hp}(a:Kp t H H1)(b:Kp t H1 H2):Kp t H H2:=λc o h n=>b c o (a c o h n) n
theorem Kp.new{t p:z_}{H:Hp}{o:HO}(h:H p=af):Kp t H (upd H p o):=λc a e _=>by
 rw[aL (bH e h)];exact e
theorem Kp.tape{t:z_}{H:Hp}{o:HO}:Kp t H (upd H t o):=λc a e n=>by
 rw[aL n];exact e
structure TL where
 s:z_
 g:z_
def ko(l:TL):List V:=if lC=ah then[.ref l.g]else[]
structure Tp(H:Hp)(t:z_)(l:TL)(ns:List Int)(n:Int):Prop where
 ob:∃a b:Int,H t=ae (.lst (.ref l.s::.int a::.int b::ko l))/\0<=a/\a<=n
 ls:H l.s=ae (.lst (ns.map V.int))
 len:ns.length<=63
 ag:lC=ah->H l.g=ae (.lst pV)
 gne:l.g≠t
theorem Tp.ne{H:Hp}{t:z_}{l:TL}{ns:List Int}{n:Int}(T:Tp H t l ns n):t≠l.s:=by
 obtain⟨a,b,h,_⟩:=T.ob;refine FI h T.ls λz=>?_;cases ns with
 |nil=>cases(HO.lst.inj z)
 |cons m r=>
  simp_all
theorem Tp.other{H:Hp}{t p:z_}{l:TL}{ns:List Int}{n:Int}{o:HO}(T:Tp H t l ns n)(h1:t≠p)(h2:l.s≠p)(h3:lC=ah->l.g≠p):Tp (upd H p o) t l ns n:=by
 obtain⟨a,b,e,h⟩:=T.ob;exact⟨⟨a,b,by rw[aL h1];trivial⟩,by rw[aL h2];exact T.ls,T.len,λz=>by rw[aL (h3 z)];exact T.ag z,T.gne⟩
theorem Tp.new{H:Hp}{t p:z_}{l:TL}{ns:List Int}{n:Int}{o:HO}(T:Tp H t l ns n)(h:H p=af):Tp (upd H p o) t l ns n:=by
 obtain⟨a,b,e,_⟩:=T.ob;exact T.other (bH e h) (bH T.ls h) λz=>bH (T.ag z) h
theorem HB{xs:List V}{r:Int}(h0:0<=r)(h1:r < xs.length):∃v,cX xs r=ae v/\v∈xs:=by
 obtain⟨j,rfl⟩:=Int.eq_ofNat_of_zero_le h0;have a:j < xs.length:=by omega
 exact⟨_,eH (Ah a),Ck a⟩
theorem small{n:Nat}(h:n<=1000):n<=Aw:=F7 (DK h)
theorem Sk:Bm "tuple"=ae (.type "tuple"):=by rfl
theorem MV:Bm "dict"=ae (.type "dict"):=by rfl
theorem LX:Bm "int"=ae (.type "int"):=by rfl
theorem Nd:Bm "str"=ae (.type "str"):=by rfl
theorem Rk:Bm "repr"=ae (.builtin "repr"):=by rfl
theorem DW:Bm "isinstance"=ae (.builtin "isinstance"):=by rfl
theorem Tc:Bm "all"=ae (.builtin "all"):=by rfl
theorem o4:Bm "list"=ae (.type "list"):=by rfl
theorem Je:Bm "bool"=ae (.type "bool"):=by rfl
theorem QZ{xs:List V}(h:xs.length<=63):fI xs af (ae 63)=xs:=by
 unfold fI;have c:HT.sIx xs.length 0 af=0:=rfl;have b:HT.sIx xs.length xs.length (ae 63)=xs.length:=by
  have e:=HT.sIx_nat xs.length xs.length 63;simp_all
 simp_all
def z0:Sp:=λvs H Q _=>∃(t:z_)(l:TL)(ns:List Int)(n many:Int),vs=[.ref t,.int many]/\Tp H t l ns n/\n < 2 ^ 40/\0 < many/\many < 1073741824 /\
 ∀(r:Int)(H':Hp),0<=r->r < many->Tp H' t l ns (n+1)->Kp t H H'->Q (.int r) H'
end Nb
namespace DL
open PySem L2 Nb
abbrev D:=Ad
mutual
inductive RdX(H:Hp)(B:z_->Prop):V->Ad->Prop
 |non:RdX H B .non .none
 |bl (b:Bool):RdX H B (.bl b) (.bool b)
 |int (i:Int):RdX H B (.int i) (.int i)
 |str (x:Str) (h:x.length<=Aw):RdX H B (.str x) (.str x)
 |lst {a:z_} {xs:List V} {ds:List Ad}:H a=ae (.lst xs)->¬B a->xs.length<=Aw->RdXs H B xs ds->RdX H B (.ref a) (.list ds)
 |tup {a:z_} {xs:List V} {ds:List Ad}:H a=ae (.tup xs)->¬B a->xs.length<=Aw->RdXs H B xs ds->RdX H B (.ref a) (.tuple ds)
inductive RdXs(H:Hp)(B:z_->Prop):List V->List Ad->Prop
 |nil:RdXs H B [] []
 |cons {x:V} {xs:List V} {d:Ad} {ds:List Ad}:RdX H B x d->RdXs H B xs ds->RdXs H B (x::xs) (d::ds)
end
mutual
theorem RdX.move{H H':Hp}{B B':z_->Prop}(k:∀b o,H b=ae o->¬B b->H' b=ae o/\¬B' b):∀{v:V}{d:Ad},RdX H B v d->RdX H' B' v d
 |_,_,.non=>.non
 |_,_,.bl b=>.bl b
 |_,_,.int i=>.int i
 |_,_,.str x h=>.str x h
 |_,_,.lst h1 h2 h3 h4=>.lst (k _ _ h1 h2).1 (k _ _ h1 h2).2 h3 (RdXs.move k h4)
 |_,_,.tup h1 h2 h3 h4=>.tup (k _ _ h1 h2).1 (k _ _ h1 h2).2 h3 (RdXs.move k h4)
theorem RdXs.move{H H':Hp}{B B':z_->Prop}(k:∀b o,H b=ae o->¬B b->H' b=ae o/\¬B' b):∀{vs:List V}{ds:List Ad},RdXs H B vs ds->RdXs H' B' vs ds
 |_,_,.nil=>.nil
 |_,_,.cons h1 h2=>.cons (RdX.move k h1) (RdXs.move k h2)
end
section
variable{H H':Hp}{B B':z_->Prop}{v:V}{d:Ad}{vs ws:List V}{ds es:List Ad}{t:z_}
theorem RdX.kp(k:Kp t H H')(ht:B t)(h:RdX H B v d):RdX H' B v d:=h.move λb o e n=>⟨k b o e λz=>n (z▸ht),n⟩
theorem RdXs.kp(k:Kp t H H')(ht:B t)(h:RdXs H B vs ds):RdXs H' B vs ds:=h.move λb o e n=>⟨k b o e λz=>n (z▸ht),n⟩
theorem RdX.less(k:∀b,B' b->B b)(h:RdX H B v d):RdX H B' v d:=h.move λb o e n=>⟨e,λz=>n (k b z)⟩
theorem RdXs.less(k:∀b,B' b->B b)(h:RdXs H B vs ds):RdXs H B' vs ds:=h.move λb o e n=>⟨e,λz=>n (k b z)⟩
theorem RdXs.keep(k:∀b o,H b=ae o->¬B b->H' b=ae o)(h:RdXs H B vs ds):RdXs H' B vs ds:=h.move λb o e n=>⟨k b o e n,n⟩
theorem RdXs.len:∀{vs:List V}{ds:List Ad},RdXs H B vs ds->vs.length=ds.length
 |_,_,.nil=>rfl
 |_,_,.cons _ t=>by rw[Ax,Ax,RdXs.len t]
theorem RdXs.get:∀{vs:List V}{ds:List Ad}{i:Nat}{v:V},RdXs H B vs ds->vs[i]?=ae v->∃d,ds[i]?=ae d/\RdX H B v d
 |_,_,_,_,.nil,e=>by simp at e
 |_,_,0,_,.cons h _,e=>by
  simp at e;subst e;exact⟨_,rfl,h⟩
 |_,_,i+1,v,.cons _ t,e=>by
  obtain⟨d,b,a⟩:=RdXs.get t (by assumption);exact⟨d,by simpa using b,a⟩
theorem RdXs.getD:∀{vs:List V}{ds:List Ad}{i:Nat}{d:Ad},RdXs H B vs ds->ds[i]?=ae d->∃v,vs[i]?=ae v/\RdX H B v d
 |_,_,_,_,.nil,e=>by simp at e
 |_,_,0,_,.cons h _,e=>by
  simp at e;subst e;exact⟨_,rfl,h⟩
 |_,_,i+1,d,.cons _ t,e=>by
  obtain⟨v,b,a⟩:=RdXs.getD t (by assumption);exact⟨v,by simpa using b,a⟩
theorem RdXs.append:∀{vs ws:List V}{ds es:List Ad},RdXs H B vs ds->RdXs H B ws es->RdXs H B (vs++ws) (ds++es)
 |_,_,_,_,.nil,h=>h
 |_,_,_,_,.cons b a,h=>.cons b (RdXs.append a h)
theorem RdXs.set:∀{vs:List V}{ds:List Ad}(i:Nat){v:V}{d:Ad},RdXs H B vs ds->RdX H B v d->RdXs H B (vs.set i v) (ds.set i d)
 |_,_,_,_,_,.nil,_=>.nil
 |_,_,0,_,_,.cons _ t,h=>.cons h t
 |_,_,i+1,_,_,.cons q t,h=>.cons q (RdXs.set i t h)
theorem RdXs.take:∀{vs:List V}{ds:List Ad}(n:Nat),RdXs H B vs ds->RdXs H B (vs.take n) (ds.take n)
 |_,_,0,_=>.nil
 |_,_,_+1,.nil=>.nil
 |_,_,n+1,.cons r t=>.cons r (RdXs.take n t)
theorem RdXs.drop:∀{vs:List V}{ds:List Ad}(n:Nat),RdXs H B vs ds->RdXs H B (vs.drop n) (ds.drop n)
 |_,_,0,r=>r
 |_,_,_+1,.nil=>.nil
 |_,_,n+1,.cons _ t=>RdXs.drop n t
end
mutual
theorem RdX.rd{K:Ag}{H:Hp}{B:z_->Prop}:∀{v:V}{d:Ad},RdX H B v d->RdD K H v d
 |_,_,.non=>.non
 |_,_,.bl b=>.bl b
 |_,_,.int i=>.int i
 |_,_,.str x h=>.str x
 |_,_,.lst h1 h2 h3 h4=>.lst (SqL.of h1) (RdXs.rd h4)
 |_,_,.tup h1 h2 h3 h4=>.tup (SqT.of h1) (RdXs.rd h4)
theorem RdXs.rd{K:Ag}{H:Hp}{B:z_->Prop}:∀{vs:List V}{ds:List Ad},RdXs H B vs ds->RdAll K H vs ds
 |_,_,.nil=>.nil
 |_,_,.cons h1 h2=>.cons (RdX.rd h1) (RdXs.rd h2)
end
inductive Ob where
 |o|p (d:Ad)|k (m:List (aF×Ad))|q (d:Ad) (m:List (aF×Ad))|x (m:List (TK×Ad))|y (m:List (TK×Ad))
inductive Wv where
 |d (x:Ad)|tp|dk (kvs:List (aF×Ad))|ln (ds:List Ad)|ob (o:Ob)|dx (kvs:List (TK×Ad))
def Wv.lent:Wv->Bool
 |.dk _=>ah
 |.dx _=>ah
 |.ln _=>ah
 |_=>ai
inductive SV where
 |w (x:Wv)|own (ds:List Ad)|odk (kvs:List (aF×Ad))|odt (kvs:List (List aF×Ad))|odx (kvs:List (TK×Ad))
abbrev Sl:=List (Option SV)
def RdK(H:Hp)(B:z_->Prop):List (aF×V)->List (aF×Ad)->Prop:=Paired λp q=>p.1=q.1/\RdX H B p.2 q.2
theorem RdK.move{H H':Hp}{B B':z_->Prop}(k:∀b o,H b=ae o->¬B b->H' b=ae o/\¬B' b){l:List (aF×V)}{m:List (aF×Ad)}(h:RdK H B l m):RdK H' B' l m:=
 Paired.mapP h λ_ _ z=>⟨z.1,z.2.move k⟩
def RdT(H:Hp)(B:z_->Prop):List (List aF×V)->List (List aF×Ad)->Prop:=Paired λp q=>p.1=q.1/\RdX H B p.2 q.2
theorem RdT.move{H H':Hp}{B B':z_->Prop}(k:∀b o,H b=ae o->¬B b->H' b=ae o/\¬B' b){l:List (List aF×V)}{m:List (List aF×Ad)}(h:RdT H B l m):RdT H' B' l m:=
 Paired.mapP h λ_ _ z=>⟨z.1,z.2.move k⟩
def RdY(H:Hp)(B:z_->Prop):List (TK×z_×V)->List (TK×Ad)->Prop:=Paired λp q=>p.1=q.1/\RdX H B (.ref p.2.1) p.1.1/\RdX H B p.2.2 q.2
theorem RdY.move{H H':Hp}{B B':z_->Prop}(k:∀b o,H b=ae o->¬B b->H' b=ae o/\¬B' b){l:List (TK×z_×V)}{m:List (TK×Ad)}(h:RdY H B l m):RdY H' B' l m:=
 Paired.mapP h λ_ _ z=>⟨z.1,z.2.1.move k,z.2.2.move k⟩
def ORel(H:Hp)(B:z_->Prop)(v:V):Ob->Prop
 |.o=>∃a,v=.ref a
 |.p d=>∃a x y,v=.ref a/\H a=ae (.tup [x,y])/\¬B a/\RdX H B x d
 |.k m=>∃a l,v=.ref a/\H a=ae (.dK l)/\¬B a/\RdK H B l m
 |.x m=>∃a l,v=.ref a/\H a=ae (.dX l)/\¬B a/\RdY H B l m
 |.y m=>∃a o l,v=.ref a/\H a=ae (.frz o (.dX l))/\¬B a/\RdY H B l m
 |.q d m=>∃a x b l,v=.ref a/\H a=ae (.tup [x,.ref b])/\¬B a/\RdX H B x d/\H b=ae (.dK l)/\¬B b/\RdK H B l m
theorem ORel.move{H H':Hp}{B B':z_->Prop}(k:∀b o,H b=ae o->¬B b->H' b=ae o/\¬B' b){v:V}{o:Ob}(h:ORel H B v o):ORel H' B' v o:=by
 cases o with
 |o=>exact h
 |p d=>
  obtain⟨a,x,y,e,f,c,g⟩:=h;exact⟨a,x,y,e,(k _ _ f c).1,(k _ _ f c).2,g.move k⟩
 |k m=>
  obtain⟨a,l,e,f,c,g⟩:=h;exact⟨a,l,e,(k _ _ f c).1,(k _ _ f c).2,g.move k⟩
 |y m=>
  obtain⟨a,o,l,e,f,c,g⟩:=h;exact⟨a,o,l,e,(k _ _ f c).1,(k _ _ f c).2,g.move k⟩
 |x m=>
  obtain⟨a,l,e,f,c,g⟩:=h;exact⟨a,l,e,(k _ _ f c).1,(k _ _ f c).2,g.move k⟩
 |q d m=>
  obtain⟨a,x,b,l,e,f,c,g,j,i,n⟩:=h;exact⟨a,x,b,l,e,(k _ _ f c).1,(k _ _ f c).2,g.move k,(k _ _ j i).1,(k _ _ j i).2,n.move k⟩
def WRel(H:Hp)(B:z_->Prop)(t:z_)(v:V):Wv->Prop
 |.d x=>RdX H B v x
 |.tp=>v=.ref t
 |.dk kvs=>∃a l,v=.ref a/\H a=ae (.dK l)/\a≠t/\RdK H B l kvs
 |.dx kvs=>∃a l,v=.ref a/\H a=ae (.dX l)/\a≠t/\RdY H B l kvs
 |.ln ds=>∃a xs,v=.ref a/\H a=ae (.lst xs)/\a≠t/\xs.length<=Aw/\RdXs H B xs ds
 |.ob o=>ORel H B v o
def SRel(H0:Hp)(H:Hp)(B:z_->Prop)(t:z_)(v:V):SV->Prop
 |.w x=>WRel H B t v x/\(x.lent=ah->∃a,v=.ref a/\H0 a≠af)
 |.own ds=>∃a xs,v=.ref a/\H a=ae (.lst xs)/\B a/\H0 a=af/\xs.length<=Aw/\RdXs H B xs ds
 |.odk kvs=>∃a l,v=.ref a/\H a=ae (.dK l)/\B a/\H0 a=af/\l.length<=1000/\RdK H B l kvs
 |.odt kvs=>∃a l,v=.ref a/\H a=ae (.dT l)/\B a/\H0 a=af/\l.length<=1000/\RdT H B l kvs
 |.odx kvs=>∃a l,v=.ref a/\H a=ae (.dX l)/\B a/\H0 a=af/\l.length<=1000/\RdY H B l kvs
def SV.isOwn:SV->Bool
 |.w _=>ai
 |_=>ah
structure Ctx where
 t:z_
 l:TL
 ns:List Int
 H0:Hp
 B0:z_->Prop
 fz:Hp
structure Rel(C:Ctx)(H:Hp)(B:z_->Prop)(σ:St)(δ:Sl)(n:Int):Prop where
 tp:Tp H C.t C.l C.ns n
 kp:Kp C.t C.H0 H
 t0:C.H0 C.t≠af
 l0:C.H0 C.l.s≠af
 g0:lC=ah->C.H0 C.l.g≠af
 fz:∀b o,C.fz b=ae o->H b=ae o/\¬B b
 bt:B C.t
 b0:∀b,C.B0 b->B b
 ba:∀b,B b->H b≠af
 a0:∀b,C.B0 b->C.H0 b≠af
 sl:∀(i:Nat)(x:SV),δ[i]?=ae (ae x)->∃v,σ[i]?=ae (ae v)/\SRel C.H0 H B C.t v x
 ow:∀(i j:Nat)(x y:SV)(v:V),δ[i]?=ae (ae x)->δ[j]?=ae (ae y)->x.isOwn=ah->y.isOwn=ah->σ[i]?=ae (ae v)->σ[j]?=ae (ae v)->i=j
 len:σ.length=δ.length
theorem WRel.kp{H H':Hp}{B:z_->Prop}{t:z_}{v:V}{x:Wv}(k:Kp t H H')(ht:B t)(h:WRel H B t v x):WRel H' B t v x:=by
 cases x with
 |d x=>exact RdX.kp k ht h
 |tp=>exact h
 |dk i=>
  obtain⟨a,l,e,g,c,f⟩:=h;exact⟨a,l,e,k _ _ g c,c,f.move λb o e n=>⟨k b o e λz=>n (z▸ht),n⟩⟩
 |dx i=>
  obtain⟨a,l,e,g,c,f⟩:=h;exact⟨a,l,e,k _ _ g c,c,f.move λb o e n=>⟨k b o e λz=>n (z▸ht),n⟩⟩
 |ln p=>
  obtain⟨a,l,e,g,c,f,j⟩:=h;exact⟨a,l,e,k _ _ g c,c,f,j.kp k ht⟩
 |ob o=>exact ORel.move (λb o e n=>⟨k b o e λz=>n (z▸ht),n⟩) h
theorem WRel.less{H:Hp}{B B':z_->Prop}{t:z_}{v:V}{x:Wv}(k:∀b,B' b->B b)(h:WRel H B t v x):WRel H B' t v x:=by
 cases x with
 |d x=>exact RdX.less k h
 |tp=>exact h
 |dk i=>
  obtain⟨a,l,e,g,c,f⟩:=h;exact⟨a,l,e,g,c,f.move λb o e n=>⟨e,λz=>n (k b z)⟩⟩
 |dx i=>
  obtain⟨a,l,e,g,c,f⟩:=h;exact⟨a,l,e,g,c,f.move λb o e n=>⟨e,λz=>n (k b z)⟩⟩
 |ln p=>
  obtain⟨a,l,e,g,c,f,j⟩:=h;exact⟨a,l,e,g,c,f,j.less k⟩
 |ob o=>exact ORel.move (λb o e n=>⟨e,λz=>n (k b z)⟩) h
theorem SRel.kp{H0 H H':Hp}{B:z_->Prop}{t:z_}{v:V}{x:SV}(k:Kp t H H')(ht:B t)(t0:H0 t≠af)(h:SRel H0 H B t v x):SRel H0 H' B t v x:=by
 cases x with
 |w x=>exact⟨h.1.kp k ht,h.2⟩
 |own u=>
  obtain⟨a,r,e,i,d,c,g,f⟩:=h;exact⟨a,r,e,k _ _ i (λz=>t0 (z▸c)),d,c,g,f.kp k ht⟩
 |odk j=>
  obtain⟨a,l,e,i,d,c,g,f⟩:=h;exact⟨a,l,e,k _ _ i (λz=>t0 (z▸c)),d,c,g,f.move λb o e n=>⟨k b o e λz=>n (z▸ht),n⟩⟩
 |odt j=>
  obtain⟨a,l,e,i,d,c,g,f⟩:=h;exact⟨a,l,e,k _ _ i (λz=>t0 (z▸c)),d,c,g,f.move λb o e n=>⟨k b o e λz=>n (z▸ht),n⟩⟩
 |odx j=>
  obtain⟨a,l,e,i,d,c,g,f⟩:=h;exact⟨a,l,e,k _ _ i (λz=>t0 (z▸c)),d,c,g,f.move λb o e n=>⟨k b o e λz=>n (z▸ht),n⟩⟩
theorem Rel.step{C:Ctx}{H H':Hp}{B:z_->Prop}{σ:St}{δ:Sl}{n n':Int}(R:Rel C H B σ δ n)(T:Tp H' C.t C.l C.ns n')(k:Kp C.t H H'):Rel C H' B σ δ n' where
 tp:=T
 kp:=R.kp.trans k
 t0:=R.t0
 l0:=R.l0
 g0:=R.g0
 fz:=λb o e=>⟨k b o (R.fz b o e).1 λz=>(R.fz b o e).2 (z▸R.bt),(R.fz b o e).2⟩
 bt:=R.bt
 b0:=R.b0
 ba:=λb c e=>by
  by_cases z:b=C.t
  ·subst z;obtain⟨x,_⟩:=T.ob;simp_all
  ·cases q:H b with
   |none=>exact R.ba b c q
   |some o=>rw[k b o q z]at e;cases e
 a0:=R.a0
 sl:=λi x e=>by
  obtain⟨v,d,a⟩:=R.sl i x e;exact⟨v,d,a.kp k R.bt R.t0⟩
 ow:=R.ow
 len:=R.len
theorem Rel.new{C:Ctx}{H:Hp}{B:z_->Prop}{σ:St}{δ:Sl}{n:Int}{p:z_}{o:HO}(R:Rel C H B σ δ n)(h:H p=af):Rel C (upd H p o) B σ δ n:=R.step (R.tp.new h) (Kp.new h)
theorem Rel.nb{C:Ctx}{H:Hp}{B:z_->Prop}{σ:St}{δ:Sl}{n:Int}{p:z_}(R:Rel C H B σ δ n)(h:H p=af):¬B p:=λz=>R.ba p z h
theorem e9{α:Type}{l:List (Option α)}{i j:Nat}{x y:α}(h:(l.set i (ae x))[j]?=ae (ae y)):(j=i/\y=x)\/(j≠i/\l[j]?=ae (ae y)):=by
 by_cases e:i=j
 ·subst e;rw[Cs]at h;cases q:l[i]? with
  |none=>rw[q]at h;cases h
  |some z=>
   rw[q]at h;exact .inl ⟨rfl,(Bq (Bq h)).symm⟩
 ·rw[Bf e]at h;exact .inr ⟨λz=>e z.symm,h⟩
theorem qN{α:Type}{l:List (Option α)}{i:Nat}{x y:Option α}(h:(l.set i x)[i]?=ae y):i < l.length:=by
 have:=(Aq.mp h).1;rwa [B5]at this
theorem qi{α:Type}{l:List (Option α)}{i:Nat}{x:α}(h:i < l.length):(l.set i (ae x))[i]?=ae (ae x):=by simp[h]
theorem jP{α:Type}{l:List (Option α)}{i j:Nat}{x:α}(h:j≠i):(l.set i (ae x))[j]?=l[j]?:=Bf (λz=>h z.symm)
theorem Rel.set{C:Ctx}{H:Hp}{B:z_->Prop}{σ:St}{δ:Sl}{n:Int}{i:Nat}{v:V}{x:Wv}(R:Rel C H B σ δ n)(h:WRel H B C.t v x)(hx:x.lent=ai):Rel C H B (σ.set i (ae v)) (δ.set i (ae (.w x))) n where
 tp:=R.tp
 kp:=R.kp
 t0:=R.t0
 l0:=R.l0
 g0:=R.g0
 fz:=R.fz
 bt:=R.bt
 b0:=R.b0
 ba:=R.ba
 a0:=R.a0
 sl:=λj y e=>by
  rcases e9 e with⟨rfl,rfl⟩|⟨s,r⟩
  ·exact⟨v,qi (by rw[R.len];exact qN e),h,λz=>by rw[hx]at z;cases z⟩
  ·obtain⟨u,_⟩:=R.sl j y r;exact⟨u,by rw[jP s];trivial⟩
 ow:=λj k y z u D A m q p o=>by
  rcases e9 D with⟨rfl,rfl⟩|⟨l,f⟩
  ·cases m
  ·rcases e9 A with⟨rfl,rfl⟩|⟨d,g⟩
   ·cases q
   ·rw[jP l]at p;rw[jP d]at o;exact R.ow j k y z u f g m q p o
 len:=by rw[B5,B5];exact R.len
theorem Rel.mut{C:Ctx}{H:Hp}{B:z_->Prop}{σ:St}{δ:Sl}{n:Int}{a:z_}{o:HO}(R:Rel C H B σ δ n)(hb:B a)(h0:C.H0 a=af)
  (ho:∀(i:Nat)(x:SV),δ[i]?=ae (ae x)->x.isOwn=ah->σ[i]?≠ae (ae (.ref a))):Rel C (upd H a o) B σ δ n where
 tp:=R.tp.other (λz=>R.t0 (z▸h0)) (λz=>R.l0 (z▸h0)) (λe z=>R.g0 e (z▸h0))
 kp:=λb q e s=>by
  rw[aL (bH e h0)];exact R.kp b q e s
 t0:=R.t0
 l0:=R.l0
 g0:=R.g0
 fz:=λb q e=>⟨by rw[aL λ(z:b=a)=>(R.fz b q e).2 (z▸hb)];exact(R.fz b q e).1,(R.fz b q e).2⟩
 bt:=R.bt
 b0:=R.b0
 ba:=λb E e=>by
  by_cases z:b=a
  ·rw[z,bj]at e;cases e
  ·rw[aL z]at e;exact R.ba b E e
 a0:=R.a0
 sl:=λi x e=>by
  obtain⟨v,K,g⟩:=R.sl i x e;have p:∀b q,H b=ae q->¬B b->upd H a o b=ae q/\¬B b:=λb q e n=>⟨by rw[aL λ(z:b=a)=>n (z▸hb)];exact e,n⟩;refine⟨v,K,?_⟩;cases x with
  |w x=>
   refine⟨?_,g.2⟩;cases x with
   |d x=>exact g.1.move p
   |tp=>exact g.1
   |dk m=>
    obtain⟨c,l,f,k,h,j⟩:=g.1;obtain⟨D,t,A⟩:=g.2 rfl;rw[f]at t;cases t;exact⟨c,l,f,by rw[aL λ(z:c=a)=>A (z▸h0)];exact k,h,j.move p⟩
   |dx m=>
    obtain⟨c,l,f,k,h,j⟩:=g.1;obtain⟨D,t,A⟩:=g.2 rfl;rw[f]at t;cases t;exact⟨c,l,f,by rw[aL λ(z:c=a)=>A (z▸h0)];exact k,h,j.move p⟩
   |ln G=>
    obtain⟨c,l,f,k,h,j,r⟩:=g.1;obtain⟨D,t,A⟩:=g.2 rfl;rw[f]at t;cases t;exact⟨c,l,f,by rw[aL λ(z:c=a)=>A (z▸h0)];exact k,h,j,r.move p⟩
   |ob o=>exact ORel.move p g.1
  |own G=>
   obtain⟨c,y,f,k,h,j,r,u⟩:=g;have s:c≠a:=λz=>ho i _ e rfl (by simp_all);exact⟨c,y,f,by rw[aL s];exact k,h,j,r,u.move p⟩
  |odk m=>
   obtain⟨c,y,f,k,h,j,r,u⟩:=g;have s:c≠a:=λz=>ho i _ e rfl (by simp_all);exact⟨c,y,f,by rw[aL s];exact k,h,j,r,u.move p⟩
  |odt m=>
   obtain⟨c,y,f,k,h,j,r,u⟩:=g;have s:c≠a:=λz=>ho i _ e rfl (by simp_all);exact⟨c,y,f,by rw[aL s];exact k,h,j,r,u.move p⟩
  |odx m=>
   obtain⟨c,y,f,k,h,j,r,u⟩:=g;have s:c≠a:=λz=>ho i _ e rfl (by simp_all);exact⟨c,y,f,by rw[aL s];exact k,h,j,r,u.move p⟩
 ow:=R.ow
 len:=R.len
theorem Rel.mutOwn{C:Ctx}{H:Hp}{B:z_->Prop}{σ:St}{δ:Sl}{n:Int}{i:Nat}{x x':SV}{a:z_}{o:HO}(R:Rel C H B σ δ n)(hi:δ[i]?=ae (ae x))(hx:x.isOwn=ah)(hσ:σ[i]?=ae (ae (.ref a)))(hb:B a)(h0:C.H0 a=af)
  (h:SRel C.H0 (upd H a o) B C.t (.ref a) x') (hx':x'.isOwn=ah):Rel C (upd H a o) B σ (δ.set i (ae x')) n:=by
 have I:Rel C H B σ (δ.set i af) n:={
  tp:=R.tp,kp:=R.kp,t0:=R.t0,l0:=R.l0,g0:=R.g0,fz:=R.fz,bt:=R.bt,b0:=R.b0,ba:=R.ba,a0:=R.a0
  sl:=λj y e=>by
   by_cases z:i=j
   ·subst z;rw[Cs]at e;simp_all
   ·rw[Bf z]at e;exact R.sl j y e
  ow:=λj k y z u F A v D s p=>by
   have g:∀{m:Nat}{w:SV},(δ.set i af)[m]?=ae (ae w)->δ[m]?=ae (ae w):=λ{m w} e=>by
    by_cases q:i=m
    ·subst q;rw[Cs,hi]at e;cases e
    ·rwa [Bf q]at e
   exact R.ow j k y z u (g F) (g A) v D s p
  len:=by rw[B5];exact R.len}
 have d:Rel C (upd H a o) B σ _ n:=I.mut hb h0 λj y e G f=>by
  by_cases z:i=j
  ·subst z;rw[Cs,hi]at e;cases e
  ·rw[Bf z]at e;exact z (R.ow i j x y _ hi e hx G hσ f)
 exact{
  tp:=d.tp,kp:=d.kp,t0:=d.t0,l0:=d.l0,g0:=d.g0,fz:=d.fz,bt:=d.bt,b0:=d.b0,ba:=d.ba,a0:=d.a0
  sl:=λj y e=>by
   rcases e9 e with⟨rfl,rfl⟩|⟨J,L⟩
   ·exact⟨_,hσ,h⟩
   ·exact d.sl j y (by rw[Bf λz=>J z.symm];omega)
  ow:=λj k y z u F A v D s p=>by
   rcases e9 F with⟨rfl,rfl⟩|⟨K,r⟩
   ·rcases e9 A with⟨rfl,rfl⟩|⟨E,l⟩
    ·rfl
    ·exact R.ow _ _ x z u hi l hx D s p
   ·rcases e9 A with⟨rfl,rfl⟩|⟨E,l⟩
    ·exact R.ow _ _ y x u r hi v hx s p
    ·exact R.ow j k y z u r l v D s p
  len:=by rw[B5];exact R.len}
theorem Rel.own{C:Ctx}{H H':Hp}{B:z_->Prop}{σ:St}{δ:Sl}{n n':Int}{i:Nat}{a:z_}{x:SV}(R:Rel C H B σ δ n)(R':Rel C H' B σ δ n')(k:Kp C.t H H')(h0:H a=af)(h1:H' a≠af)(hx:x.isOwn=ah)
  (h:SRel C.H0 H' (λb=>B b\/b=a) C.t (.ref a) x):Rel C H' (λb=>B b\/b=a) (σ.set i (ae (.ref a))) (δ.set i (ae x)) n' where
 tp:=R'.tp
 kp:=R'.kp
 t0:=R'.t0
 l0:=R'.l0
 g0:=R'.g0
 fz:=λb o e=>⟨(R'.fz b o e).1,λz=>z.elim (R'.fz b o e).2 λq=>bH (R.fz b o e).1 h0 q⟩
 bt:=.inl R.bt
 b0:=λb z=>.inl (R.b0 b z)
 ba:=λb z=>z.elim (R'.ba b) λq=>q▸h1
 a0:=R.a0
 sl:=λj y e=>by
  simp_all
  have I:∀b Q,H b=ae Q->¬B b->H' b=ae Q/\¬(B b\/b=a):=λb Q e n=>⟨k b Q e λz=>n (z▸R.bt),λz=>z.elim n λq=>bH e h0 q⟩;rcases e9 e with⟨rfl,rfl⟩|⟨ne,e'⟩
  ·exact⟨_,qi (by rw[R.len];exact qN e),h⟩
  ·obtain⟨v,M,D⟩:=R.sl j y e';refine⟨v,by rw[jP ne];exact M,?_⟩;cases y with
   |w y=>
    refine⟨?_,D.2⟩;cases y with
    |d y=>exact D.1.move I
    |tp=>exact D.1
    |dk G=>
     obtain⟨A,l,r,g,E,s⟩:=D.1;exact⟨A,l,r,k _ _ g E,E,s.move I⟩
    |dx G=>
     obtain⟨A,l,r,g,E,s⟩:=D.1;exact⟨A,l,r,k _ _ g E,E,s.move I⟩
    |ln N=>
     obtain⟨A,l,r,g,E,s,J⟩:=D.1;exact⟨A,l,r,k _ _ g E,E,s,J.move I⟩
    |ob o=>exact ORel.move I D.1
   |own N=>
    obtain⟨A,F,r,g,E,s,J,K⟩:=D;exact⟨A,F,r,k _ _ g (λz=>R.t0 (z▸s)),.inl E,s,J,K.move I⟩
   |odk G=>
    obtain⟨A,F,r,g,E,s,J,K⟩:=D;exact⟨A,F,r,k _ _ g (λz=>R.t0 (z▸s)),.inl E,s,J,K.move I⟩
   |odt G=>
    obtain⟨A,F,r,g,E,s,J,K⟩:=D;exact⟨A,F,r,k _ _ g (λz=>R.t0 (z▸s)),.inl E,s,J,K.move I⟩
   |odx G=>
    obtain⟨A,F,r,g,E,s,J,K⟩:=D;exact⟨A,F,r,k _ _ g (λz=>R.t0 (z▸s)),.inl E,s,J,K.move I⟩
 ow:=λj m y z u r g Z o2 M D=>by
  have out:∀{p:Nat}{w:SV},δ[p]?=ae _->w.isOwn=ah->σ[p]?=ae (ae (.ref a))->False:=λ{p w} e ow f=>by
   obtain⟨v,Y,S⟩:=R.sl p w e;rw[f]at Y;cases Y;cases w with
   |w _=>cases ow
   |own N=>
    obtain⟨A,F,r,g,_⟩:=S;simp_all
   |odk N=>
    obtain⟨A,F,r,g,_⟩:=S;simp_all
   |odt N=>
    obtain⟨A,F,r,g,_⟩:=S;simp_all
   |odx N=>
    obtain⟨A,F,r,g,_⟩:=S;simp_all
  rcases e9 r with⟨rfl,rfl⟩|⟨P,V⟩
  ·rcases e9 g with⟨rfl,rfl⟩|⟨L,O⟩
   ·rfl
   ·rw[qi (by rw[R.len];exact qN r)]at M;rw[jP L]at D;simp_all
  ·rcases e9 g with⟨rfl,rfl⟩|⟨L,O⟩
   ·rw[qi (by rw[R.len];exact qN g)]at D;rw[jP P]at M;simp_all
   ·rw[jP P]at M;rw[jP L]at D;exact R.ow j m y z u V O Z o2 M D
 len:=by rw[B5,B5];exact R.len
theorem Rel.give{C:Ctx}{H:Hp}{B:z_->Prop}{σ:St}{δ:Sl}{n:Int}{i:Nat}{x:SV}{y:Wv}{a:z_}(R:Rel C H B σ δ n)(hi:δ[i]?=ae (ae x))(ox:x.isOwn=ah)(hv:σ[i]?=ae (ae (.ref a)))(e4:C.H0 a=af)(hy:WRel H (λb=>B b/\b≠a) C.t (.ref a) y)(hl:y.lent=ai):Rel C H (λb=>B b/\b≠a) σ (δ.set i (ae (.w y))) n:=by
 have f:∀b,(B b/\b≠a)->B b:=λb z=>z.1;exact{
  tp:=R.tp,kp:=R.kp,t0:=R.t0,l0:=R.l0,g0:=R.g0
  fz:=λb o e=>⟨(R.fz b o e).1,λz=>(R.fz b o e).2 z.1⟩
  bt:=⟨R.bt,λz=>R.t0 (z▸e4)⟩
  b0:=λb z=>⟨R.b0 b z,λq=>R.a0 b z (q▸e4)⟩
  ba:=λb z=>R.ba b z.1
  a0:=R.a0
  sl:=λj K e=>by
   rcases e9 e with⟨rfl,rfl⟩|⟨F,E⟩
   ·exact⟨_,hv,hy,λz=>by rw[hl]at z;cases z⟩
   ·obtain⟨u,m,g⟩:=R.sl j K E;refine⟨u,m,?_⟩;cases K with
    |w y=>exact⟨g.1.less f,g.2⟩
    |own l=>
     obtain⟨p,d,v,A,s,r,D,h⟩:=g;exact⟨p,d,v,A,⟨s,λz=>F (R.ow j i _ _ _ E hi rfl ox m (by simp_all))⟩,r,D,h.less f⟩
    |odk l=>
     obtain⟨p,d,v,A,s,r,D,h⟩:=g;exact⟨p,d,v,A,⟨s,λz=>F (R.ow j i _ _ _ E hi rfl ox m (by simp_all))⟩,r,D,h.move λb o e n=>⟨e,λz=>n z.1⟩⟩
    |odt l=>
     obtain⟨p,d,v,A,s,r,D,h⟩:=g;exact⟨p,d,v,A,⟨s,λz=>F (R.ow j i _ _ _ E hi rfl ox m (by simp_all))⟩,r,D,h.move λb o e n=>⟨e,λz=>n z.1⟩⟩
    |odx l=>
     obtain⟨p,d,v,A,s,r,D,h⟩:=g;exact⟨p,d,v,A,⟨s,λz=>F (R.ow j i _ _ _ E hi rfl ox m (by simp_all))⟩,r,D,h.move λb o e n=>⟨e,λz=>n z.1⟩⟩
  ow:=λj k y z u U Q J L m g=>by
   rcases e9 U with⟨rfl,rfl⟩|⟨T,G⟩
   ·cases J
   ·rcases e9 Q with⟨rfl,rfl⟩|⟨O,I⟩
    ·cases L
    ·exact R.ow j k y z u G I J L m g
  len:=by rw[B5];exact R.len}
theorem Rel.frz{C:Ctx}{H:Hp}{B:z_->Prop}{σ:St}{δ:Sl}{n:Int}{i:Nat}{ds:List Ad}(R:Rel C H B σ δ n)(hi:δ[i]?=ae (ae (.own ds))):∃B',Rel C H B' σ (δ.set i (↑(.list ds))) n:=by
 obtain⟨v,c,a,k,rfl,e,j,f,g,h⟩:=R.sl i _ hi;exact⟨_,R.give hi rfl c f (show RdX H _ _ (.list ds)from .lst e (λz=>z.2 rfl) g (h.less λb z=>z.1)) rfl⟩
theorem Rel.frzK{C:Ctx}{H:Hp}{B:z_->Prop}{σ:St}{δ:Sl}{n:Int}{i:Nat}{m:List (aF×Ad)}(R:Rel C H B σ δ n)(hi:δ[i]?=ae (ae (.odk m))):∃B',Rel C H B' σ (δ.set i (ae (.w (.ob (.k m))))) n:=by
 obtain⟨v,c,a,d,rfl,f,j,g,l,h⟩:=R.sl i _ hi;exact⟨_,R.give hi rfl c g ⟨a,d,rfl,f,λz=>z.2 rfl,h.move λb o e n=>⟨e,λz=>n z.1⟩⟩ rfl⟩
theorem Rel.frzX{C:Ctx}{H:Hp}{B:z_->Prop}{σ:St}{δ:Sl}{n:Int}{i:Nat}{m:List (TK×Ad)}(R:Rel C H B σ δ n)(hi:δ[i]?=ae (ae (.odx m))):∃B',Rel C H B' σ (δ.set i (ae (.w (.ob (.x m))))) n:=by
 obtain⟨v,c,a,d,rfl,f,j,g,k,h⟩:=R.sl i _ hi;exact⟨_,R.give hi rfl c g ⟨a,d,rfl,f,λz=>z.2 rfl,h.move λb o e n=>⟨e,λz=>n z.1⟩⟩ rfl⟩
abbrev DQ:=Wv->Int->Prop
abbrev DT:=Sl->Int->DQ->Prop
abbrev b3:=Sl->Int->(Bool->Int->Prop)->Prop
abbrev cY:=Sl->Int->(List Wv->Int->Prop)->Prop
inductive ARel(H:Hp)(B:z_->Prop)(t:z_):List V->List Wv->Prop
 |nil:ARel H B t [] []
 |cons {v:V} {vs:List V} {x:Wv} {xs:List Wv}:WRel H B t v x->ARel H B t vs xs->ARel H B t (v::vs) (x::xs)
theorem ARel.kp{H H':Hp}{B:z_->Prop}{t:z_}(k:Kp t H H')(ht:B t):∀{vs:List V}{xs:List Wv},ARel H B t vs xs->ARel H' B t vs xs
 |_,_,.nil=>.nil
 |_,_,.cons a b=>.cons (a.kp k ht) (ARel.kp k ht b)
theorem ARel.len{H:Hp}{B:z_->Prop}{t:z_}:∀{vs:List V}{xs:List Wv},ARel H B t vs xs->vs.length=xs.length
 |_,_,.nil=>rfl
 |_,_,.cons _ b=>by rw[Ax,Ax,ARel.len b]
def dG(t:TE)(w:DT):Prop:=∀(C:Ctx)(H:Hp)(B:z_->Prop)(σ:St)(δ:Sl)(n:Int)(Q:DQ)(Q':VK),Rel C H B σ δ n->w δ n Q->
 (∀v x H' n',Rel C H' B σ δ n'->Kp C.t H H'->WRel H' B C.t v x->Q x n'->Q' v H')->t σ H Q'
def iS(t:TT)(w:b3):Prop:=∀(C:Ctx)(H:Hp)(B:z_->Prop)(σ:St)(δ:Sl)(n:Int)(Q:Bool->Int->Prop)(Q':Bool->Hp->Prop),Rel C H B σ δ n->w δ n Q->
 (∀b H' n',Rel C H' B σ δ n'->Kp C.t H H'->Q b n'->Q' b H')->t σ H Q'
def iU(t:TA)(w:cY):Prop:=∀(C:Ctx)(H:Hp)(B:z_->Prop)(σ:St)(δ:Sl)(n:Int)(Q:List Wv->Int->Prop)(Q':List V->Hp->Prop),Rel C H B σ δ n->w δ n Q->
 (∀vs xs H' n',Rel C H' B σ δ n'->Kp C.t H H'->ARel H' B C.t vs xs->Q xs n'->Q' vs H')->t σ H Q'
abbrev d6:=Sl->Int->(List Ad->Int->Prop)->Prop
def jf(t:TE)(w:d6):Prop:=∀(C:Ctx)(H:Hp)(B:z_->Prop)(σ:St)(δ:Sl)(n:Int)(Q:List Ad->Int->Prop)(Q':VK),Rel C H B σ δ n->w δ n Q->
 (∀a xs ds H' n',Rel C H' B σ δ n'->Kp C.t H H'->H a=af->H' a=ae (.lst xs)->xs.length<=Aw->RdXs H' (λb=>B b\/b=a) xs ds->Q ds n'->Q' (.ref a) H')->t σ H Q'
structure DE(X:Cx)(e:Expr)(t:TE)(w:DT):Prop where
 pe:PE X e t
 sd:dG t w
structure DC(X:Cx)(e:Expr)(t:TT)(w:b3):Prop where
 pt:PT X e t
 sd:iS t w
structure DCW(X:Cx)(e:Expr)(t:TT)(w:b3):Prop where
 pw:PW X e t
 sd:iS t w
structure DA(X:Cx)(es:List Expr)(t:TA)(w:cY):Prop where
 pa:PA X es t
 sd:iU t w
structure DF(X:Cx)(e:Expr)(t:TE)(w:d6):Prop where
 pe:PE X e t
 sd:jf t w
variable{X:Cx}{a b c e:Expr}{ta tb tc te:TE}{wa wb wc we:DT}{pos:Pos}
def aj(i:Nat):DT:=λδ n Q=>match δ[i]? with
 |some (ae (.w x))=>Q x n
 |_=>False
theorem gC(i:Nat){x:Str}{p:Pos}(hN:X.N[i]?=ae x:=by rfl)(hv:ej X.env.scope x:=by first|exact Ce rfl|exact Bz (Ce rfl)|exact Bz (Bz rfl))(hd:(x==("__debug__":Str))=ai:=by decide)
  (q_:(x==("__classdict__":Str))=ai:=by decide):DE X (.Name x p) (aM i) (aj i):=⟨fm hN hv hd q_,λC H B σ δ n Q c R h k=>by
 unfold aj at h
 split at h
 ·rename_i x e;obtain⟨v,b,a⟩:=R.sl i _ e;exact⟨v,b,k v x H n R (Kp.refl _ _) a.1 h⟩
 ·exact h.elim⟩
def wC(d:Ad):DT:=λ_ n Q=>Q (.d d) n
theorem nk{v:V}{d:Ad}(h:∀H B,RdX H B v d):dG (tC v) (wC d):=λC H B σ δ n Q a R q k=>k v (.d d) H n R (Kp.refl _ _) (h H B) q
theorem AS{i j p}:DE X (.Constant (.int i) j p) (tC (.int i)) (wC (.int i)):=⟨b8,nk λ_ _=>.int i⟩
theorem uf{i j p}:DE X (.Constant (.bool i) j p) (tC (.bl i)) (wC (.bool i)):=⟨zF,nk λ_ _=>.bl i⟩
theorem zq{j p}:DE X (.Constant .none j p) (tC .non) (wC .none):=⟨kD,nk λ_ _=>.non⟩
theorem Hk{x j p}(h:Str.length x<=Aw:=by decide +kernel):DE X (.Constant (.str x) j p) (tC (.str x)) (wC (.str x)):=⟨IX,nk λ_ _=>.str x h⟩
theorem BX{x:Str}{i:Int}{tk:Tok}{p:Pos}(hg:Gl X x)(hm:X.mg x=ae (.int i tk))(hd:(x==("__debug__":Str))=ai:=by decide):DE X (.Name x p) (tC (.int i)) (wC (.int i)):=⟨tS hg hm ⟨tk,rfl⟩ hd,nk λ_ _=>.int i⟩
def w2(wa wb:DT)(g:Wv->Wv->Int->DQ->Prop):DT:=λδ n Q=>wa δ n λx n1=>wb δ n1 λy n2=>g x y n2 Q
def bh(r:R2)(g:Wv->Wv->Int->DQ->Prop):Prop:=∀(C:Ctx)(H:Hp)(B:z_->Prop)(σ:St)(δ:Sl)(n:Int)(x y:V)(p q:Wv)(Q:DQ)(Q':VK),Rel C H B σ δ n->WRel H B C.t x p->WRel H B C.t y q->g p q n Q->
 (∀v x H' n',Rel C H' B σ δ n'->Kp C.t H H'->WRel H' B C.t v x->Q x n'->Q' v H')->r x y H Q'
theorem mO{r:R2}{g:Wv->Wv->Int->DQ->Prop}(hr:bh r g)(ha:dG ta wa)(hb:dG tb wb):dG (dt r ta tb) (w2 wa wb g):=λC H B σ δ n Q q R h k=>
 ha C H B σ δ n _ _ R h λv x m o b A s f=>hb C m B σ δ o _ _ b f λu y j l R2 a t d=>
  hr C j B σ δ l v u x y Q q R2 (s.kp a b.bt) t d λz p e i D c w E=>k z p e i D ((A.trans a).trans c) w E
theorem hX{op:Operator}{r:R2}{g:Wv->Wv->Int->DQ->Prop}(ho:OpR X (Es op) r)(hr:bh r g)(ha:DE X a ta wa)(hb:DE X b tb wb):DE X (.BinOp a op b pos) (dt r ta tb) (w2 wa wb g):=
 ⟨dZ ho ha.pe hb.pe,mO hr ha.sd hb.sd⟩
theorem kx{op:CmpOp}{r:R2}{g:Wv->Wv->Int->DQ->Prop}(ho:OpR X (Bv op) r)(hr:bh r g)(ha:DE X a ta wa)(hb:DE X b tb wb)(hm:Cg op b=ai):DE X (.Compare a [op] [b] pos) (dt r ta tb) (w2 wa wb g):=
 ⟨RT ho ha.pe hb.pe hm,mO hr ha.sd hb.sd⟩
def cT(w:DT):b3:=λδ n Q=>w δ n λx n'=>match x with
 |.d (.bool k)=>Q k n'
 |_=>False
theorem wd{H:Hp}{B:z_->Prop}{t:z_}{v:V}{d:Ad}(h:RdX H B v d):WRel H B t v (.d d):=h
theorem kI{t:TE}{w:DT}(h:dG t w):iS (gy t) (cT w):=λC H B σ δ n Q j R q k=>
 h C H B σ δ n _ _ R q λv x c e d g f a=>by
  split at a
  ·rename_i b;cases(show RdX c B v (.bool b)from f);exact⟨b,rfl,k b c e d g a⟩
  ·exact a.elim
theorem f5{op:CmpOp}{r:R2}{g:Wv->Wv->Int->DQ->Prop}(ho:OpR X (Bv op) r)(hr:bh r g)(ha:DE X a ta wa)(hb:DE X b tb wb)(hm:Cg op b=ai):DC X (.Compare a [op] [b] pos) (gy (dt r ta tb)) (cT (w2 wa wb g)):=
 ⟨jA ho ha.pe hb.pe hm,kI (mO hr ha.sd hb.sd)⟩
theorem Ph{t:TE}{w:DT}(h:DE X e t w)(he:∀whole,isTrue e X.env whole=(do let v <-whole;standAt e.pos;holding [v] (truthy v)):=by intro _;rfl):DC X e (gy t) (cT w):=⟨AO h.pe he,kI h.sd⟩
def gF(x:Wv)(A B:Prop):Prop:=match x with
 |.d (.bool ah)=>A
 |.d (.bool ai)=>B
 |_=>False
theorem Tx(b:Bool)(A B:Prop):gF (.d (.bool b)) A B=if b=ah then A else B:=by cases b<;>simp[gF]
def qJ(g g':Wv->Wv->Int->DQ->Prop)(wa wb wc:DT):DT:=λδ n Q=>wa δ n λx n1=>wb δ n1 λy n2=>g x y n2 λz n3=>gF z (wc δ n3 λu n4=>g' y u n4 Q) (Q (.d (.bool ai)) n3)
theorem Rh{r r':R2}{g g':Wv->Wv->Int->DQ->Prop}(hr:bh r g)(hr':bh r' g')(ha:dG ta wa)(hb:dG tb wb)(hc:dG tc wc):dG (vz r r' ta tb tc) (qJ g g' wa wb wc):=λC H B σ δ n Q O R h k=>
 ha C H B σ δ n _ _ R h λv x I M l V T E=>hb C I B σ δ M _ _ l E λu y F G R2 i m w=>
  hr C F B σ δ G v u x y _ _ R2 (T.kp i l.bt) m w λz p c j e f o b=>by
   have a:=(V.trans i).trans f;unfold gF at b
   split at b
   ·cases(show RdX c B z (.bool ah)from o);exact⟨_,rfl,hc C c B σ δ j _ _ e b λw0 s N S P q t U=>hr' C N B σ δ S u w0 y s Q O P ((m.kp f R2.bt).kp q e.bt) t U λz p W J D A L K=>k z p W J D ((a.trans q).trans A) L K⟩
   ·cases(show RdX c B z (.bool ai)from o);exact⟨_,rfl,k _ _ c j e a (wd (.bl ai)) b⟩
   ·exact b.elim
theorem NQ{op op':CmpOp}{r r':R2}{g g':Wv->Wv->Int->DQ->Prop}(ho:OpR X (Bv op) r)(hr:bh r g)(ho':OpR X (Bv op') r')(hr':bh r' g')(ha:DE X a ta wa)(hb:DE X b tb wb)(hc:DE X c tc wc)
  (hm:lastMarks [op,op'] [b,c]=ai:=by with_unfolding_all rfl):DE X (.Compare a [op,op'] [b,c] pos) (vz r r' ta tb tc) (qJ g g' wa wb wc):=⟨Oj ho ho' ha.pe hb.pe hc.pe hm,Rh hr hr' ha.sd hb.sd hc.sd⟩
variable{tA tB':TT}{cA cB:b3}{aC:List Expr}
def cJ(u v:b3):b3:=λδ n Q=>u δ n λb n1=>if b=ah then v δ n1 Q else Q ai n1
def d0(u v:b3):b3:=λδ n Q=>u δ n λb n1=>if b=ah then Q ah n1 else v δ n1 Q
def cH(u:b3):b3:=λδ n Q=>u δ n λb n1=>Q (!b) n1
theorem cw_and1(h:DC X a tA cA):DCW X (.BoolOp .And [a] pos) tA cA:=⟨z7 h.pt,h.sd⟩
theorem cw_or1(h:DC X a tA cA):DCW X (.BoolOp .Or [a] pos) tA cA:=⟨LU h.pt,h.sd⟩
theorem cw_and(h:DC X a tA cA)(h2:DCW X (.BoolOp .And (b::aC) pos) tB' cB):DCW X (.BoolOp .And (a::b::aC) pos) (jY tA tB') (cJ cA cB):=⟨yq h.pt h2.pw,λC H B σ δ n Q p R q k=>
 h.sd C H B σ δ n _ _ R q λb e f d g c=>by
  cases b with
  |true=>
   exact h2.sd C e B σ δ f _ _ d c λb l m o i j=>k b l m o (g.trans i) j
  |false=>
   exact k ai e f d g c⟩
theorem cw_or(h:DC X a tA cA)(h2:DCW X (.BoolOp .Or (b::aC) pos) tB' cB):DCW X (.BoolOp .Or (a::b::aC) pos) (CP tA tB') (d0 cA cB):=⟨HJ h.pt h2.pw,λC H B σ δ n Q p R q k=>
 h.sd C H B σ δ n _ _ R q λb e f d g c=>by
  cases b with
  |true=>
   exact k ah e f d g c
  |false=>
   exact h2.sd C e B σ δ f _ _ d c λb l m o i j=>k b l m o (g.trans i) j⟩
theorem DCW.cc(h:DCW X a tA cA):DC X a tA cA:=⟨h.pw.pt,h.sd⟩
theorem OI(h:DC X a tA cA):DC X (.UnaryOp .Not a pos) (jU tA) (cH cA):=⟨EY h.pt,λC H B σ δ n Q i R q k=>h.sd C H B σ δ n _ _ R q λb e c f g d=>k _ e c f g d⟩
def cO(u v:DT):DT:=λδ n Q=>u δ n λx n1=>gF x (v δ n1 Q) (Q (.d (.bool ai)) n1)
def AD(u v:DT):DT:=λδ n Q=>u δ n λx n1=>gF x (Q (.d (.bool ah)) n1) (v δ n1 Q)
def je(u:DT):DT:=λδ n Q=>u δ n λx n1=>match x with
 |.d (.bool b)=>Q (.d (.bool !b)) n1
 |_=>False
theorem NC{op}(h:DE X a ta wa):DE X (.BoolOp op [a] pos) ta wa:=⟨O4 h.pe,h.sd⟩
theorem SD(h:DE X a ta wa)(h2:DE X (.BoolOp .And (b::aC) pos) tb wb):DE X (.BoolOp .And (a::b::aC) pos) (AW ta tb) (cO wa wb):=⟨M7 h.pe h2.pe,λC H B σ δ n Q t R q k=>
 h.sd C H B σ δ n _ _ R q λv x d g f j i c=>by
  unfold gF at c
  split at c
  ·cases(show RdX d B v (.bool ah)from i);exact⟨_,rfl,h2.sd C d B σ δ g _ _ f c λv x o p r l s m=>k v x o p r (j.trans l) s m⟩
  ·cases(show RdX d B v (.bool ai)from i);exact⟨_,rfl,k _ _ d g f j (wd (.bl ai)) c⟩
  ·exact c.elim⟩
theorem r9(h:DE X a ta wa)(h2:DE X (.BoolOp .Or (b::aC) pos) tb wb):DE X (.BoolOp .Or (a::b::aC) pos) (nW ta tb) (AD wa wb):=⟨OG h.pe h2.pe,λC H B σ δ n Q t R q k=>
 h.sd C H B σ δ n _ _ R q λv x d g f j i c=>by
  unfold gF at c
  split at c
  ·cases(show RdX d B v (.bool ah)from i);exact⟨_,rfl,k _ _ d g f j (wd (.bl ah)) c⟩
  ·cases(show RdX d B v (.bool ai)from i);exact⟨_,rfl,h2.sd C d B σ δ g _ _ f c λv x o p r l s m=>k v x o p r (j.trans l) s m⟩
  ·exact c.elim⟩
theorem Nk(h:DE X a ta wa):DE X (.UnaryOp .Not a pos) (xM ta) (je wa):=⟨He h.pe,λC H B σ δ n Q l R q k=>
 h.sd C H B σ δ n _ _ R q λv x d f e j g c=>by
  split at c
  ·rename_i b;cases(show RdX d B v (.bool b)from g);exact⟨b,rfl,k _ _ d f e j (wd (.bl _)) c⟩
  ·exact c.elim⟩
def dz(u:b3)(v w:DT):DT:=λδ n Q=>u δ n λb n1=>if b=ah then v δ n1 Q else w δ n1 Q
theorem Q8(h:DC X c tA cA)(h1:DE X a ta wa)(h2:DE X b tb wb):DE X (.IfExp c a b pos) (yK tA ta tb) (dz cA wa wb):=⟨GL h.pt h1.pe h2.pe,λC H B σ δ n Q s R q k=>
 h.sd C H B σ δ n _ _ R q λb o p m r l=>by
  cases b with
  |true=>
   exact h1.sd C o B σ δ p _ _ m l λv x f g i d j e=>k v x f g i (r.trans d) j e
  |false=>
   exact h2.sd C o B σ δ p _ _ m l λv x f g i d j e=>k v x f g i (r.trans d) j e⟩
variable{es:List Expr}{tR:TA}{wR:cY}
def ak:cY:=λ_ n Q=>Q [] n
def ao(w:DT)(r:cY):cY:=λδ n Q=>w δ n λx n1=>r δ n1 λxs n2=>Q (x::xs) n2
theorem mf:DA X [] bf ak:=⟨eu,λC H B σ δ n Q a R q k=>k [] [] H n R (Kp.refl _ _) .nil q⟩
theorem jz(h:DE X e te we)(hr:DA X es tR wR)(hs:Ar (e::es) X.env=(ai,eval e X.env)::Ar es X.env:=by rfl):DA X (e::es) (bJ te tR) (ao we wR):=⟨cw h.pe hr.pa hs,λC H B σ δ n Q r R q k=>
 h.sd C H B σ δ n _ _ R q λv x i j b p m d=>hr.sd C i B σ δ j _ _ b d λvs s f g l a o c=>k _ _ f g l (p.trans a) (.cons (m.kp a b.bt) o) c⟩
def il:List Wv->Option (List Ad)
 |[]=>ae []
 |.d x::r=>(il r).map (x::·)
 |_::_=>af
theorem ARel.plain{H:Hp}{B:z_->Prop}{t:z_}:∀{vs:List V}{xs:List Wv}{ds:List Ad},ARel H B t vs xs->il xs=ae ds->RdXs H B vs ds
 |_,_,_,.nil,h=>by
  cases h;exact .nil
 |_,_,ds,.cons (x:=x) (xs:=xs) a b,h=>by
  cases x with
  |d x=>
   have c:(il xs).map _=ae ds:=h;cases e:il xs with
   |none=>rw[e]at c;trivial
   |some f=>
    rw[e]at c;cases c;exact .cons a (ARel.plain b e)
  |tp=>cases h
  |dk _=>cases h
  |dx _=>cases h
  |ln _=>cases h
  |ob _=>cases h
theorem RdXs.fresh{H:Hp}{B:z_->Prop}{vs:List V}{ds:List Ad}{p:z_}{o:HO}(h:RdXs H B vs ds)(hp:H p=af):RdXs (upd H p o) (λb=>B b\/b=p) vs ds:=
 h.move λb a e n=>⟨by rw[aL (bH e hp)];exact e,λz=>z.elim n λq=>bH e hp q⟩
def ay(w:cY):DT:=λδ n Q=>w δ n λxs n1=>match il xs with
 |some ds=>ds.length<=1000/\Q (.d (.tuple ds)) n1
 |none=>False
theorem wU{x1}(h:DA X es tR wR):DE X (.Tuple es x1 pos) (la tR) (ay wR):=⟨Qs h.pa,λC H B σ δ n Q s R q k=>
 h.sd C H B σ δ n _ _ R q λvs t o g f j i a=>by
  split at a
  ·rename_i l e;have r:=i.plain e;have d:vs.length<=Aw:=by rw[r.len];exact small a.1
   exact⟨d,λp c=>k _ _ _ g (f.new c) (j.trans (Kp.new c)) (wd (show RdX _ B _ (.tuple l)from(.tup bj (f.nb c) d ((r.fresh c).less λb z=>.inl z)))) a.2⟩
  ·exact a.elim⟩
def aN(w:cY):d6:=λδ n Q=>w δ n λxs n1=>match il xs with
 |some ds=>ds.length<=1000/\Q ds n1
 |none=>False
theorem EW(h:DA X es tR wR):DF X (.List es pos) (i4 tR) (aN wR):=⟨pL h.pa,λC H B σ δ n Q u R q k=>
 h.sd C H B σ δ n _ _ R q λvs v j m d f s b=>by
  split at b
  ·rename_i g e;have r:=s.plain e;have c:vs.length<=Aw:=by rw[r.len];exact small b.1
   have l:∀p,j p=af->H p=af:=λp a=>by
    cases q:H p with
    |none=>rfl
    |some o=>
     by_cases z:p=C.t
     ·subst z;obtain⟨_,_,h,_⟩:=d.tp.ob;rw[h]at a;cases a
     ·rw[f p o q z]at a;omega
   exact⟨c,λp a=>k p vs g _ m (d.new a) (f.trans (Kp.new a)) (l p a) bj c (r.fresh a) b.2⟩
  ·exact b.elim⟩
def aZ(w:d6):DT:=λδ n Q=>w δ n λds n1=>Q (.d (.list ds)) n1
theorem MX{t:TE}{w:d6}(h:jf t w):dG t (aZ w):=λC H B σ δ n Q p R q k=>
 h C H B σ δ n _ _ R q λa r o c i e m j l d f g=>k _ _ c i e m (wd (show RdX c B _ (.list o)from .lst l (R.nb j) d (f.less λb z=>.inl z))) g
theorem DF.d{w:d6}{t:TE}(h:DF X e t w):DE X e t (aZ w):=⟨h.pe,MX h.sd⟩
theorem Rel.was{C:Ctx}{H H1:Hp}{B:z_->Prop}{σ:St}{δ:Sl}{n1:Int}(R1:Rel C H1 B σ δ n1)(k1:Kp C.t H H1){p:z_}(hp:H1 p=af):H p=af:=by
 cases q:H p with
 |none=>rfl
 |some o=>
  by_cases z:p=C.t
  ·subst z;obtain⟨_,_,h,_⟩:=R1.tp.ob;rw[h]at hp;cases hp
  ·rw[k1 p o q z]at hp;omega
abbrev aJ:=List Wv->Int->DQ->Prop
def dy(S:aJ):Sp:=λvs H Q _=>∃(t:z_)(l:TL)(ns:List Int)(B:z_->Prop)(ws:List Wv)(n:Int)(Q0:DQ),Tp H t l ns n/\B t/\(∀b,B b->H b≠af)/\ARel H B t vs ws/\S ws n Q0 /\
 ∀w n',Q0 w n'->∀v H',Tp H' t l ns n'->Kp t H H'->WRel H' B t v w->Q v H'
section
variable{X:Cx}{e:Expr}{es:List Expr}{pos p:Pos}{tR:TA}{wR:cY}
def aA(S:aJ)(w:cY):DT:=λδ n Q=>w δ n λxs n1=>S xs n1 Q
theorem Li{S:aJ}{t:TA}{w:cY}(h:iU t w):dG (eL (dy S) [] E0 t) (aA S w):=λC H B σ δ n Q s R q k=>
 h C H B σ δ n _ _ R q λvs j r f a p o d=>⟨C.t,C.l,_,B,j,f,Q,a.tp,a.bt,a.ba,by rw[Bh];exact o,d,λw e c v g m b i=>k v w g e (a.step m b) (p.trans b) i c⟩
theorem Rp{k:Nat}{f:z_}{fd:B8}{ps:List Str}{S:aJ}{x:Str}(F:FnOk X.prog X.w X.K X.mg X.base b6 k f fd ps (dy S))(hr:Room k X.A)(hg:Gl X x)(hm:X.mg x=ae (.ref f))(hk:Co X.K (.ref f)=ah)(hb:Binds X.K fd ps [])
  (ha:DA X (e::es) tR wR) (hdb:(x==("__debug__":Str))=ai:=by decide) (he:Ar (e::es) X.env=(ai,eval e X.env)::Ar es X.env:=by rfl) (p_:(Cp pos (Ar es X.env)).any (·.1)=ai:=by rfl):
  DE X (.Call (.Name x p) (e::es) [] pos) (eL (dy S) [] E0 tR) (aA S wR):=⟨jN F hr hg hm hk hb .nil jC ha.pa hdb he p_,Li ha.sd⟩
def cP(r:List V->Hp->VK->Prop)(g:List Wv->Int->DQ->Prop):Prop:=∀(C:Ctx)(H:Hp)(B:z_->Prop)(σ:St)(δ:Sl)(n:Int)(vs:List V)(xs:List Wv)(Q:DQ)(Q':VK),Rel C H B σ δ n->ARel H B C.t vs xs->g xs n Q->
 (∀v x H' n',Rel C H' B σ δ n'->Kp C.t H H'->WRel H' B C.t v x->Q x n'->Q' v H')->r vs H Q'
def wB(g:List Wv->Int->DQ->Prop)(w:cY):DT:=λδ n Q=>w δ n λxs n1=>g xs n1 Q
theorem z9{r:List V->Hp->VK->Prop}{g:List Wv->Int->DQ->Prop}{t:TA}{w:cY}(hr:cP r g)(h:iU t w):dG (fk r t) (wB g w):=λC H B σ δ n Q l R q k=>
 h C H B σ δ n _ _ R q λvs m i j e u p c=>hr C i B σ δ j vs m Q l e p c λv x d f o a s b=>k v x d f o (u.trans a) s b
theorem jQ{id:String}{x:Str}{r:List V->Hp->VK->Prop}{g:List Wv->Int->DQ->Prop}(hc:CallR X (.builtin id) r)(hr:cP r g)(hg:Gl X x)(hm:X.mg x=af)(hv:Bm x=ae (.builtin id))(ha:DA X (e::es) tR wR)(hn:x≠"__name__":=by decide)(hdb:(x==("__debug__":Str))=ai:=by decide)
  (he:Ar (e::es) X.env=(ai,eval e X.env)::Ar es X.env:=by rfl) (p_:(Cp pos (Ar es X.env)).any (·.1)=ai:=by rfl):DE X (.Call (.Name x p) (e::es) [] pos) (fk r tR) (wB g wR):=⟨jG hc hg hm hv ha.pa hn hdb he p_,z9 hr ha.sd⟩
theorem zZ{T:String}{x:Str}{r:List V->Hp->VK->Prop}{g:List Wv->Int->DQ->Prop}(hc:CallR X (.type T) r)(hr:cP r g)(hg:Gl X x)(hm:X.mg x=af)(hv:Bm x=ae (.type T))(ha:DA X (e::es) tR wR)(hn:x≠"__name__":=by decide)(hdb:(x==("__debug__":Str))=ai:=by decide)
  (he:Ar (e::es) X.env=(ai,eval e X.env)::Ar es X.env:=by rfl) (p_:(Cp pos (Ar es X.env)).any (·.1)=ai:=by rfl):DE X (.Call (.Name x p) (e::es) [] pos) (fk r tR) (wB g wR):=⟨m6 hc hg hm hv ha.pa hn hdb he p_,z9 hr ha.sd⟩
end
structure DEnds where
 nx:Sl->Int->Prop
 rt:DQ
 bk:Sl->Int->Prop:=λ_ _=>False
 ct:Sl->Int->Prop:=λ_ _=>False
 rn:List Ad->Int->Prop:=λ_ _=>False
 rx:List (TK×Ad)->Int->Prop:=λ_ _=>False
abbrev aH:=Sl->Int->DEnds->Prop
structure EndsOk(C:Ctx)(K:DEnds)(D:Ends):Prop where
 nx:∀H B σ δ n,Rel C H B σ δ n->K.nx δ n->D.nx σ H
 rt:∀H B σ δ n v w,Rel C H B σ δ n->WRel H B C.t v w->K.rt w n->D.rt v H
 bk:∀H B σ δ n,Rel C H B σ δ n->K.bk δ n->D.bk σ H
 ct:∀H B σ δ n,Rel C H B σ δ n->K.ct δ n->D.ct σ H
 rn:∀H B σ δ n a xs ds,Rel C H B σ δ n->C.H0 a=af->H a=ae (.lst xs)->xs.length<=Aw->RdXs H (λb=>B b\/b=a) xs ds->K.rn ds n->D.rt (.ref a) H
 rx:∀H B σ δ n a l kvs,Rel C H B σ δ n->C.H0 a=af->H a=ae (.dX l)->l.length<=1000->RdY H (λb=>B b\/b=a) l kvs->K.rx kvs n->D.rt (.ref a) H
def iF(T:TS)(W:aH):Prop:=∀(C:Ctx)(H:Hp)(B:z_->Prop)(σ:St)(δ:Sl)(n:Int)(K:DEnds)(D:Ends),Rel C H B σ δ n->W δ n K->EndsOk C K D->T D σ H
structure DS(X:Cx)(st:Stmt)(T:TS)(W:aH):Prop where
 ps:PS X st T
 sd:iF T W
structure DSs(X:Cx)(st:List Stmt)(T:TS)(W:aH):Prop where
 ps:PSs X st T
 sd:iF T W
section
variable{X:Cx}{st:Stmt}{aC:List Stmt}{T U:TS}{W V':aH}{e:Expr}{te:TE}{we:DT}{pos:Pos}
def aD:aH:=λδ n K=>K.nx δ n
def aq(W V:aH):aH:=λδ n K=>W δ n {K with nx:=λδ n=>V δ n K}
theorem sk:DSs X [] nh aD:=⟨mF,λC H B σ δ n K D R h E=>E.nx H B σ δ n R h⟩
theorem lV(h:DS X st T W)(h2:DSs X aC U V'):DSs X (st::aC) (eU T U) (aq W V'):=⟨fK h.ps h2.ps,λC H B σ δ n K D R q E=>
 h.sd C H B σ δ n _ _ R q ⟨λH B σ δ n R q=>h2.sd C H B σ δ n K D R q E,E.rt,E.bk,E.ct,E.rn,E.rx⟩⟩
theorem nI(h:DS X st T W):DSs X [st] T W:=⟨jF h.ps,h.sd⟩
def aw(w:DT):aH:=λδ n K=>w δ n K.rt
theorem NS(h:DE X e te we):DS X (.Return (ae e) pos) (fM te) (aw we):=⟨i0 h.pe,λC H B σ δ n K D R q E=>
 h.sd C H B σ δ n _ _ R q λv x d c a _ f b=>E.rt d B σ δ c v x a f b⟩
def aI(c:b3)(W V:aH):aH:=λδ n K=>c δ n λb n1=>if b=ah then W δ n1 K else V δ n1 K
theorem kQ{c:Expr}{a b:List Stmt}{tc:TT}{cc:b3}(hc:DC X c tc cc)(ha:DSs X a T W)(hb:DSs X b U V'):DS X (.If c a b pos) (gP tc T U) (aI cc W V'):=⟨nH hc.pt ha.ps hb.ps,λC H B σ δ n K D R q E=>
 hc.sd C H B σ δ n _ _ R q λb f g e _ d=>by
  cases b with
  |true=>
   exact ha.sd C f B σ δ g K D e d E
  |false=>
   exact hb.sd C f B σ δ g K D e d E⟩
def ax(i:Nat)(w:DT):aH:=λδ n K=>w δ n λx n1=>match x with
 |.d d=>K.nx (δ.set i (↑d)) n1
 |.tp=>K.nx (δ.set i (ae (.w .tp))) n1
 |.dk _=>False
 |.dx _=>False
 |.ln _=>False
 |.ob o=>K.nx (δ.set i (ae (.w (.ob o)))) n1
theorem EL{i:Nat}{x:Str}{pos':Pos}(hN:X.N.Nodup)(hi:X.N[i]?=ae x)(hx:eZ X.env.scope x)(he:DE X e te we)(hs:Ci e (ae (.Name x pos')) pos.line X.env=pure ai:=by rfl)(hf:X.fn x=ah\/X.env.scope.names.lookup x=ae .local:=by first|exact .inl rfl|exact .inr rfl|assumption):
  DS X (.Assign [.Name x pos'] e pos) (bz te (df i)) (ax i we):=⟨fC hN hi hx he.pe hs hf,λC H B σ δ n K D R q E=>
 he.sd C H B σ δ n _ _ R q λv x g h b _ c a=>by
  cases x with
  |d d=>exact E.nx _ _ _ _ _ (b.set c rfl) a
  |tp=>exact E.nx _ _ _ _ _ (b.set c rfl) a
  |dk _=>exact a.elim
  |dx _=>exact a.elim
  |ln _=>exact a.elim
  |ob o=>exact E.nx _ _ _ _ _ (b.set c rfl) a⟩
def bx(i:Nat)(w:d6):aH:=λδ n K=>w δ n λds n1=>K.nx (δ.set i (ae (.own ds))) n1
theorem Rel.h0{C:Ctx}{H:Hp}{B:z_->Prop}{σ:St}{δ:Sl}{n:Int}{a:z_}(R:Rel C H B σ δ n)(h:H a=af):C.H0 a=af:=R.was R.kp h
theorem zm{i:Nat}{x:Str}{pos':Pos}{w:d6}(hN:X.N.Nodup)(hi:X.N[i]?=ae x)(hx:eZ X.env.scope x)(he:DF X e te w)(hs:Ci e (ae (.Name x pos')) pos.line X.env=pure ai:=by rfl)(hf:X.fn x=ah\/X.env.scope.names.lookup x=ae .local:=by first|exact .inl rfl|exact .inr rfl|assumption):
  DS X (.Assign [.Name x pos'] e pos) (bz te (df i)) (bx i w):=⟨fC hN hi hx he.pe hs hf,λC H B σ δ n K D R q E=>
 he.sd C H B σ δ n _ _ R q λa j o l m h k b c d f g=>by
  refine E.nx _ _ _ _ _ (R.own h k b (by rw[c];simp) rfl ?_) g;exact⟨a,j,rfl,c,.inr rfl,R.h0 b,d,f⟩⟩
def bX(i:Nat)(W:aH):aH:=λδ n K=>match δ[i]? with
 |some (ae (.own ds))=>W (δ.set i (↑(.list ds))) n K
 |some (ae (.odk m))=>W (δ.set i (ae (.w (.ob (.k m))))) n K
 |some (ae (.odx m))=>W (δ.set i (ae (.w (.ob (.x m))))) n K
 |_=>W δ n K
theorem II(i:Nat){sts:List Stmt}(h:DSs X sts T W):DSs X sts T (bX i W):=⟨h.ps,λC H B σ δ n K D R q E=>by
 unfold bX at q
 split at q
 ·rename_i c e;obtain⟨b,a⟩:=R.frz e;exact h.sd C H b σ _ n K D a q E
 ·rename_i m e;obtain⟨b,a⟩:=R.frzK e;exact h.sd C H b σ _ n K D a q E
 ·rename_i m e;obtain⟨b,a⟩:=R.frzX e;exact h.sd C H b σ _ n K D a q E
 ·exact h.sd C H B σ δ n K D R q E⟩
def aY(i:Nat)(w:DT):aH:=λδ n K=>match δ[i]? with
 |some (ae (.own ds))=>w δ n λx n1=>match x with
  |.d d=>ds.length < 1000000/\K.nx (δ.set i (ae (.own (ds++[d])))) n1
  |_=>False
 |_=>False
theorem xt{n:Nat}(h:n < 1000000):n < Aw:=Nat.lt_trans h ∎
theorem z4{i:Nat}{x:Str}{xp ap cp:Pos}(hN:X.N[i]?=ae x)(he:DE X e te we)(hv:ej X.env.scope x:=by first|exact Ce rfl|exact Bz (Ce rfl)|exact Bz (Bz rfl))(hd:(x==("__debug__":Str))=ai:=by decide)
  (q_:(x==("__classdict__":Str))=ai:=by decide)
  (hbase:Gq (.Name x xp) "append" X.env (eval (.Name x xp) X.env)=eval (.Name x xp) X.env:=by rfl)
  (hfew:((Cp cp (Ar [e] X.env)).all (λx=>!x.1)&&(backToKw cp (keywordEach [] X.env)).all (λx=>x.1.isSome)
   && decide ([e].length+([]:List Keyword).length+(if ([]:List Keyword).isEmpty then 0 else 1) < 30))=ah:=by rfl)
  (hline:(ap.endLine==cp.line)=ah:=by rfl) (hs:Ar [e] X.env=[(ai,eval e X.env)]:=by rfl) (hplain:(Cp cp (Ar [] X.env)).any (·.1)=ai:=by rfl)
  (hsw:Ci (.Call (.Attribute (.Name x xp) "append" ap) [e] [] cp) af pos.line X.env=pure ai:=by rfl):
  DS X (.Expr (.Call (.Attribute (.Name x xp) "append" ap) [e] [] cp) pos) (oM (qM X.K "list" uH (aM i) (bJ te bf))) (aY i we):=
 ⟨tO (xx G3 PySem.F.slot_list_append PySem.F.type_list_append zr (fm hN hv hd q_) (cw he.pe eu hs) hbase hfew hline hs hplain) hsw,λC H B σ δ n K D R q E=>by
  unfold aY at q
  split at q
  ·rename_i A k;obtain⟨v,hv,a,r,rfl,l,g,h,G,f⟩:=R.sl i _ k;refine⟨_,hv,.inl ⟨rfl,_,SqL.of l⟩,he.sd C H B σ δ n _ _ R q λu y I J p m s c=>?_⟩;cases y with
   |d d=>
    have j:a≠C.t:=λz=>R.t0 (z▸h);refine⟨a,r,u,rfl,rfl,(m _ _ l j),xt (by rw[f.len];exact c.1),E.nx _ _ _ _ _ (p.mutOwn k rfl hv g h ?_ rfl) c.2⟩;refine⟨a,_,rfl,bj,g,h,?_,?_⟩
    ·rw[An,f.len];exact xt c.1
    ·refine RdXs.keep (λb o e n=>?_) ((f.kp m R.bt).append (.cons s .nil));rw[aL λ(z:b=a)=>n (z▸g)];exact e
   |tp=>exact c.elim
   |dk _=>exact c.elim
   |dx _=>exact c.elim
   |ln _=>exact c.elim
   |ob _=>exact c.elim
  ·exact q.elim⟩
end
def cL(N:List Str)(ws:List Wv):Sl:=ws.map (λx=>ae (.w x))++C5 (N.length-ws.length) af
def cm(S:aJ)(W:aH)(N:List Str):Prop:=∀ws n Q,S ws n Q->W (cL N ws) n {nx:=λ_ n=>Q (.d .none) n,rt:=Q}
theorem ARel.get{H:Hp}{B:z_->Prop}{t:z_}:∀{vs:List V}{xs:List Wv}{i:Nat}{x:Wv},ARel H B t vs xs->xs[i]?=ae x->∃v,vs[i]?=ae v/\WRel H B t v x
 |_,_,_,_,.nil,e=>by simp at e
 |_,_,0,_,.cons h _,e=>by
  simp at e;subst e;exact⟨_,rfl,h⟩
 |_,_,i+1,x,.cons _ r,e=>by
  obtain⟨v,b,a⟩:=ARel.get r (by assumption);exact⟨v,by simpa using b,a⟩
theorem rg{H:Hp}{t:z_}{l:TL}{ns:List Int}{B:z_->Prop}{vs:List V}{ws:List Wv}{n:Int}{N:List Str}(T:Tp H t l ns n)(bt:B t)(ba:∀b,B b->H b≠af)(r:ARel H B t vs ws):Rel ⟨t,l,ns,H,B,λ_=>af⟩ H B (L2.start N vs) (cL N ws) n where
 tp:=T
 kp:=Kp.refl _ _
 t0:=by
  obtain⟨_,_,h,_⟩:=T.ob;show H t≠af;rw[h];simp
 l0:=by
  show H l.s≠af;rw[T.ls];simp
 g0:=λe=>by
  show H l.g≠af;rw[T.ag e];simp
 fz:=λb o e=>nomatch e
 bt:=bt
 b0:=λ_ z=>z
 ba:=ba
 a0:=ba
 sl:=λi x e=>by
  unfold cL at e;rw[List.getElem?_append]at e
  split at e
  ·rename_i u;rw[Ab]at u;rw[Am]at e;cases q:ws[i]? with
   |none=>rw[q]at e;cases e
   |some y=>
    rw[q]at e;cases e;obtain⟨v,w,m⟩:=r.get q;refine⟨v,?_,m,λz=>?_⟩
    ·unfold L2.start;rw[Fi (by rw[Ab,r.len];omega),Am,w];rfl
    ·cases y with
     |d _=>cases z
     |tp=>cases z
     |dk _=>
      obtain⟨a,p,k,f,_⟩:=m;exact⟨a,k,by show H a≠af;rw[f];simp⟩
     |dx _=>
      obtain⟨a,p,k,f,_⟩:=m;exact⟨a,k,by show H a≠af;rw[f];simp⟩
     |ln _=>
      obtain⟨a,p,k,f,_⟩:=m;exact⟨a,k,by show H a≠af;rw[f];simp⟩
     |ob _=>cases z
  ·rw[Eg]at e
   split at e
   ·cases e
   ·cases e
 ow:=λi j x y v c E D J _ _=>by
  unfold cL at c;rw[List.getElem?_append]at c
  split at c
  ·rw[Am]at c;cases q:ws[i]? with
   |none=>rw[q]at c;trivial
   |some y=>
    rw[q]at c;cases c;trivial
  ·rw[Eg]at c
   split at c
   ·cases c
   ·cases c
 len:=by
  unfold L2.start cL;rw[An,An,Ab,Ab,List.length_replicate,List.length_replicate,r.len]
section
variable{P:Bb}{w:Bj}{K:Ag}{mg:Str->Option Af}{base:Heap}
theorem Fun.okD{x qual:Str}{st:Stmt}{f:z_}{fd:B8}{N ps:List Str}{k:Nat}{S:aJ}(F:Fun K x qual st f fd)(Sc:FnScope N ps (bN st))(len:∀ws n Q,S ws n Q->ws.length=ps.length)
  (hbody:∀(m_:Af)(A:Bt)(outer:List Env)(s:Aj)(H:Hp)(E:XK),Room k (A.deeper (Ct qual (bN st) s.heap.objs.size f m_))->
   ∃T W,DSs (cn b6 P w K mg base N qual (bN st) f m_ A outer s H E).nox (eF st) T W/\∀ws n Q,S ws n Q->W (cL N ws) n {nx:=λ_ n=>Q (.d .none) n,rt:=Q}):FnOk P w K mg base b6 (k+1) f fd ps (dy S):=by
 refine F.ok Sc (λvs H Q E h=>?_) (λm_ A outer s H G Q E C h=>?_)
 ·obtain⟨t,l,i,B,ws,n,c,_,_,_,r,q,_⟩:=h;rw[r.len];exact len ws n c q
 ·obtain⟨t,l,i,B,ws,n,c,T,g,p,r,q,e⟩:=h;obtain⟨u,W,d,y⟩:=hbody m_ A outer s H E C;refine⟨u,d.ps,d.sd _ H B _ _ n _ _ (rg T g p r) (y ws n c q) ⟨?_,?_,?_,?_,λ_ _ _ _ _ _ _ _ _ _ _ _ _ z=>z.elim,λ_ _ _ _ _ _ _ _ _ _ _ _ _ z=>z.elim⟩⟩
  ·exact λH' D σ δ j a b=>e _ _ b .non H' a.tp a.kp (.non)
  ·exact λH' D σ δ j v x a o b=>e _ _ b v H' a.tp a.kp (o.less a.b0)
  ·exact λ_ _ _ _ _ _ z=>z.elim
  ·exact λ_ _ _ _ _ _ z=>z.elim
end
section
variable{X:Cx}{a b c e:Expr}{ta tb tc te:TE}{wa wb wc we:DT}{pos p:Pos}
def gI(Cd:Int->Int->Prop)(f:Int->Int->Ad):Wv->Wv->Int->DQ->Prop:=λx y n Q=>match x,y with
 |.d (.int i),.d (.int j)=>Cd i j/\Q (.d (f i j)) n
 |_,_=>False
theorem P1{Cd:Int->Int->Prop}{g:Int->Int->V}{f:Int->Int->Ad}(h:∀i j H B,RdX H B (g i j) (f i j)):bh (rI Cd g) (gI Cd f):=λC H B σ δ n x y p q Q d R b c a k=>by
 unfold gI at a
 split at a
 ·rename_i i j;cases(show RdX H B x (.int i)from b);cases(show RdX H B y (.int j)from c);exact⟨i,j,rfl,rfl,a.1,k _ _ H n R (Kp.refl _ _) (wd (h i j H B)) a.2⟩
 ·exact a.elim
def b9(f:Int->Int->Ad):Wv->Wv->Int->DQ->Prop:=λx y n Q=>match x,y with
 |.d (.int i),.d (.int j)=>Q (.d (f i j)) n
 |_,_=>False
theorem yE{g:Int->Int->V}{f:Int->Int->Ad}(h:∀i j H B,RdX H B (g i j) (f i j)):bh (fh g) (b9 f):=λC H B σ δ n x y p q Q d R b c a k=>by
 unfold b9 at a
 split at a
 ·rename_i i j;cases(show RdX H B x (.int i)from b);cases(show RdX H B y (.int j)from c);exact⟨i,j,rfl,rfl,k _ _ H n R (Kp.refl _ _) (wd (h i j H B)) a⟩
 ·exact a.elim
theorem IY(ha:DE X a ta wa)(hb:DE X b tb wb):DE X (.BinOp a .Sub b pos) (dt (fh λi j=>.int (i-j)) ta tb) (w2 wa wb (b9 λi j=>.int (i-j))):=hX Nc (yE λ_ _ _ _=>.int _) ha hb
theorem O8(ha:DE X a ta wa)(hb:DE X b tb wb):DE X (.BinOp a .Mod b pos) (dt (rI (λ_ j=>0 < j) λi j=>.int (i % j)) ta tb) (w2 wa wb (gI (λ_ j=>0 < j) λi j=>.int (i % j))):=hX jr (P1 λ_ _ _ _=>.int _) ha hb
def iP(w:DT):DT:=λδ n Q=>w δ n λx n1=>match x with
 |.d (.int i)=>Q (.d (.int (-i))) n1
 |_=>False
theorem PJ(ha:DE X a ta wa):DE X (.UnaryOp .USub a pos) (CN (rU λi=>.int (-i)) ta) (iP wa):=⟨PR ME ha.pe,λC H B σ δ n Q j R q k=>ha.sd C H B σ δ n _ _ R q λv x c e d h f b=>by
 split at b
 ·rename_i i;cases(show RdX c B v (.int i)from f);exact⟨i,rfl,k _ _ c e d h (wd (.int _)) b⟩
 ·exact b.elim⟩
def kz:Wv->Wv->Int->DQ->Prop:=λx y n Q=>match x,y with
 |.d (.int i),.d (.int j)=>Q (.d (.int (i+j))) n
 |.d (.str i),.d (.str j)=>i.length+j.length<=Aw/\Q (.d (.str (i++j))) n
 |.d (.tuple i),.d (.tuple j)=>(i≠[]\/j≠[])/\i.length+j.length<=Aw/\Q (.d (.tuple (i++j))) n
 |.d (.list i),.d (.list j)=>i.length+j.length<=Aw/\Q (.d (.list (i++j))) n
 |_,_=>False
def pq(K:Ag):R2:=λx y H Q=>(fh λi j=>.int (i+j)) x y H Q\/(∃i j,x=.str i/\y=.str j/\i.length+j.length<=Aw/\Q (.str (i++j)) H)\/yb K x y H Q\/yV K x y H Q\/ju x y H Q
theorem op_addA:OpR X (Es .Add) (pq X.K):=
 op_add.or (op_add_str.or (op_catA.or (op_catT.or BV)))
theorem GQ(i j:Str):(i++j).length=i.length+j.length:=Array.size_append
theorem IP{K:Ag}:bh (pq K) kz:=λC H B σ δ n x y p q Q N R u v f k=>by
 unfold kz at f
 split at f
 ·rename_i i j;cases(show RdX H B x (.int i)from u);cases(show RdX H B y (.int j)from v);exact .inl ⟨i,j,rfl,rfl,k _ _ H n R (Kp.refl _ _) (wd (.int _)) f⟩
 ·rename_i i j;cases(show RdX H B x (.str i)from u);cases(show RdX H B y (.str j)from v);exact .inr (.inl ⟨i,j,rfl,rfl,f.1,k _ _ H n R (Kp.refl _ _) (wd (show RdX H B _ (.str _)from .str _ (by rw[GQ];simp_all))) f.2⟩)
 ·rename_i i j;cases(show RdX H B x (.tuple i)from u)with
  |@tup s h _ r I G e=>
   cases(show RdX H B y (.tuple j)from v)with
   |@tup t l _ o E F g=>
    obtain⟨O,L,q⟩:=f;have c:h.length+l.length<=Aw:=by rw[e.len,g.len];omega
    have m:∀J,H J=af->N _ (upd H J _):=λpn d=>k _ _ _ n (R.new d) (Kp.new d) (wd (show RdX _ B _ (.tuple _)from .tup bj (R.nb d) (by rw[An];omega) (((e.append g).fresh d).less λb z=>.inl z))) q;by_cases A:l=[]
    ·have M:h≠[]:=λz=>by
      subst A z;cases e;cases g;trivial
     refine .inr (.inr (.inr (.inl ⟨s,t,h,l,rfl,rfl,SqT.of r,SqT.of o,M,c,λ_=>?_,λ_=>m⟩)));subst A;cases g;rw[Bh]at q;exact k _ _ H n R (Kp.refl _ _) (wd (show RdX H B _ (.tuple i)from .tup r I G e)) q
    ·refine .inr (.inr (.inl ⟨s,t,h,l,rfl,rfl,SqT.of r,SqT.of o,A,c,λz=>?_,λ_=>m⟩));subst z;cases e;exact k _ _ H n R (Kp.refl _ _) (wd (show RdX H B _ (.tuple j)from .tup o E F g)) q
 ·rename_i i j;cases(show RdX H B x (.list i)from u)with
  |@lst s h _ r I G e=>
   cases(show RdX H B y (.list j)from v)with
   |@lst t l _ o E F g=>
    obtain⟨L,q⟩:=f;have c:h.length+l.length<=Aw:=by rw[e.len,g.len];omega
    refine .inr (.inr (.inr (.inr ⟨s,t,h,l,rfl,rfl,r,o,c,λpn d=>k _ _ _ n (R.new d) (Kp.new d) (wd (show RdX _ B _ (.list _)from .lst bj (R.nb d) (by rw[An];omega) ?_)) q⟩)));exact((e.append g).fresh d).less λb z=>.inl z
 ·exact f.elim
def gm(f:Int->Int->Bool)(h:List Nat->List Nat->Bool):Wv->Wv->Int->DQ->Prop:=λx y n Q=>match x,y with
 |.d (.int i),.d (.int j)=>Q (.d (.bool (f i j))) n
 |.d (.str i),.d (.str j)=>Q (.d (.bool (h i.cps.toList j.cps.toList))) n
 |_,_=>False
theorem pN{f:Int->Int->Bool}{h:List Nat->List Nat->Bool}:bh (λx y H Q=>(fh λi j=>.bl (f i j)) x y H Q\/∃i j,x=.str i/\y=.str j/\Q (.bl (h i.cps.toList j.cps.toList)) H) (gm f h):=λC H B σ δ n x y p q Q e R c d b k=>by
 unfold gm at b
 split at b
 ·rename_i i j;cases(show RdX H B x (.int i)from c);cases(show RdX H B y (.int j)from d);exact .inl ⟨i,j,rfl,rfl,k _ _ H n R (Kp.refl _ _) (wd (.bl _)) b⟩
 ·rename_i i j;cases(show RdX H B x (.str i)from c);cases(show RdX H B y (.str j)from d);exact .inr ⟨i,j,rfl,rfl,k _ _ H n R (Kp.refl _ _) (wd (.bl _)) b⟩
 ·exact b.elim
theorem Ms:OpR X (Bv .GtE) (λx y H Q=>∃i j,x=.str i/\y=.str j/\Q (.bl (!decide (i.cps.toList < j.cps.toList))) H):=by
 intro a s σ H x y v u Q I b c h;obtain⟨i,j,rfl,rfl,q⟩:=h;obtain⟨t,rfl⟩:=b;obtain⟨d,rfl⟩:=c;exact P.ge_str (cu I q rfl)
abbrev fw:=gm (λi j=>decide (i < j)) (λi j=>decide (i < j))
abbrev om:=gm (λi j=>decide (i<=j)) (λi j=>!decide (j < i))
abbrev iz:=gm (λi j=>decide (j < i)) (λi j=>decide (j < i))
abbrev pE:=gm (λi j=>decide (j<=i)) (λi j=>!decide (i < j))
def oH:R2:=λx y H Q=>(fh λi j=>.bl (decide (i < j))) x y H Q\/∃i j,x=.str i/\y=.str j/\Q (.bl (decide (i.cps.toList < j.cps.toList))) H
theorem HX:OpR X (Bv .Lt) oH:=op_lt.or Le
def mz:R2:=λx y H Q=>(fh λi j=>.bl (decide (i<=j))) x y H Q\/∃i j,x=.str i/\y=.str j/\Q (.bl (!decide (j.cps.toList < i.cps.toList))) H
theorem yP:OpR X (Bv .LtE) mz:=op_le.or Ly
def oA:R2:=λx y H Q=>(fh λi j=>.bl (decide (j < i))) x y H Q\/∃i j,x=.str i/\y=.str j/\Q (.bl (decide (j.cps.toList < i.cps.toList))) H
theorem Ko:OpR X (Bv .Gt) oA:=op_gt.or Ou
def nX:R2:=λx y H Q=>(fh λi j=>.bl (decide (j<=i))) x y H Q\/∃i j,x=.str i/\y=.str j/\Q (.bl (!decide (i.cps.toList < j.cps.toList))) H
theorem Mr:OpR X (Bv .GtE) nX:=op_ge.or Ms
theorem Jv:bh oH fw:=pN
theorem DZ:bh mz om:=pN
theorem Kf:bh oA iz:=pN
theorem HV:bh nX pE:=pN
def eW:Ad->Ad->Option Bool
 |.none,.none=>ae ah
 |.none,.int _=>ae ai
 |.int _,.none=>ae ai
 |.none,.bool _=>ae ai
 |.bool _,.none=>ae ai
 |.none,.str _=>ae ai
 |.str _,.none=>ae ai
 |.int i,.int j=>ae (decide (i=j))
 |.bool i,.bool j=>ae (decide (i=j))
 |.str i,.str j=>ae (decide (i=j))
 |.int _,.str _=>ae ai
 |.str _,.int _=>ae ai
 |.bool _,.str _=>ae ai
 |.str _,.bool _=>ae ai
 |.list _,.str _=>ae ai
 |.tuple _,.str _=>ae ai
 |.dict _,.str _=>ae ai
 |.list xs,.list []=>ae xs.isEmpty
 |_,_=>af
def rq:R2:=λx y H Q=>∃d h B,RdX H B x d/\y=.str h/\Q (.bl (cx h d)) H
theorem sG(x y:Str):decide (V.str x=V.str y)=decide (x=y):=by
 by_cases z:x=y
 ·rw[z,b_ rfl,b_ rfl]
 ·rw[c_ z,c_ λw=>z (V.str.inj w)]
theorem yU(x y:Int):decide (V.int x=V.int y)=decide (x=y):=by
 by_cases z:x=y
 ·rw[z,b_ rfl,b_ rfl]
 ·rw[c_ z,c_ λw=>z (V.int.inj w)]
theorem xj(x y:Bool):decide (V.bl x=V.bl y)=decide (x=y):=by
 by_cases z:x=y
 ·rw[z,b_ rfl,b_ rfl]
 ·rw[c_ z,c_ λw=>z (V.bl.inj w)]
theorem Jb(hu:X.A.units < C9):OpR X (Bv .Eq) rq:=by
 intro c s σ H x y v u Q I e f h;obtain⟨d,g,B,z,rfl,q⟩:=h;cases z with
 |non=>exact op_eq c s σ H _ _ v u Q I e f ⟨rfl,q⟩
 |bl b=>exact op_eq c s σ H _ _ v u Q I e f ⟨rfl,q⟩
 |int i=>exact op_eq c s σ H _ _ v u Q I e f ⟨rfl,q⟩
 |str x J=>
  refine op_eq c s σ H _ _ v u Q I e f ⟨rfl,?_⟩;rw[sG];exact q
 |@lst a C r j l m n=>
  cases(show v=Cf a from e);obtain⟨t,rfl⟩:=(show ∃t,u=Value.str g t from f);obtain⟨k,_,p,_⟩:=I.list (SqL.of j);exact PySem.SeqAt.RcAt.list_str g t p.isList hu _ _ _ _ ⟨.bl ai,H,I,rfl,q⟩
 |@tup a C r j l m n=>
  cases(show v=Cf a from e);obtain⟨t,rfl⟩:=(show ∃t,u=Value.str g t from f);obtain⟨k,_,p,_⟩:=I.tuple (SqT.of j);exact PySem.SeqAt.RcAt.tuple_str g t (p) hu _ _ _ _ ⟨.bl ai,H,I,rfl,q⟩
def aX:Wv->Wv->Int->DQ->Prop:=λx y n Q=>match x,y with
 |.d a,.d b=>match eW a b with
  |some r=>Q (.d (.bool r)) n
  |none=>False
 |_,_=>False
theorem QU(hu:X.A.units < C9):OpR X (Bv .Eq) (λx y H Q=>p8 x y H Q\/rq x y H Q\/q7 X.K x y H Q):=op_eq.or ((Jb hu).or (Kw hu))
theorem Ox{K:Ag}:bh (λx y H Q=>p8 x y H Q\/rq x y H Q\/q7 K x y H Q) aX:=λC H B σ δ n x y p q Q U R E e b k=>by
 unfold aX at b
 split at b
 ·rename_i X T;have v:=λr q=>k _ _ H n R (Kp.refl _ _) (wd (.bl r)) q
  split at b
  ·rename_i r a;have b:=v r b;cases E with
   |non=>cases e<;>first|(cases a;done)|(cases a;exact .inl ⟨rfl,b⟩)
   |bl i=>cases e<;>first|(cases a;done)|(cases a;exact .inl ⟨rfl,by first|exact b|(rw[xj];omega)⟩)
   |int i=>cases e<;>first|(cases a;done)|(cases a;exact .inl ⟨rfl,by first|exact b|(rw[yU];omega)⟩)
   |str i M=>cases e<;>first|(cases a;done)|(cases a;exact .inl ⟨rfl,by first|exact b|(rw[sG];omega)⟩)
   |@lst w t z m u s l=>
    cases e with
    |str j D=>cases a;exact .inr (.inl ⟨_,j,B,.lst m u s l,rfl,b⟩)
    |@lst A V P G N O L=>
     cases L with
     |nil=>
      cases a;refine .inr (.inr ⟨w,A,t,rfl,rfl,SqL.of m,SqL.of G,?_⟩);have:t.isEmpty=z.isEmpty:=by cases l<;>rfl
      simp_all
     |cons _ _=>cases a
    |_=>cases a
   |@tup w t z m u s l=>
    cases e with
    |str j D=>cases a;exact .inr (.inl ⟨_,j,B,.tup m u s l,rfl,b⟩)
    |_=>cases a
  ·exact b.elim
 ·exact b.elim
def oJ(a b:Ad):Option Bool:=match a,b with
 |.list _,_=>af
 |.tuple _,_=>af
 |a,b=>(eW a b).map not
def ec:Wv->Wv->Int->DQ->Prop:=λx y n Q=>match x,y with
 |.d a,.d b=>match oJ a b with
  |some r=>Q (.d (.bool r)) n
  |none=>False
 |_,_=>False
theorem O3:bh FF ec:=λC H B σ δ n x y p q Q z R m g b k=>by
 unfold ec at b
 split at b
 ·rename_i A w;have h:=λr q=>k _ _ H n R (Kp.refl _ _) (wd (.bl r)) q
  split at b
  ·rename_i r c;have b:=h r b;cases m with
   |non=>cases g<;>first|(cases c;done)|(cases c;trivial)
   |bl i=>cases g<;>first|(cases c;done)|(cases c;exact⟨rfl,by first|exact b|(rw[xj];omega)⟩)
   |int i=>cases g<;>first|(cases c;done)|(cases c;exact⟨rfl,by first|exact b|(rw[yU];omega)⟩)
   |str i u=>cases g<;>first|(cases c;done)|(cases c;exact⟨rfl,by first|exact b|(rw[sG];omega)⟩)
   |lst _ _ _ _=>cases c
   |tup _ _ _ _=>cases c
  ·exact b.elim
 ·exact b.elim
def fR:Ad->Bool
 |.none=>ah
 |_=>ai
def bc(neg:Bool):Wv->Wv->Int->DQ->Prop:=λx y n Q=>match x,y with
 |.d a,.d .none=>Q (.d (.bool (if neg then !fR a else fR a))) n
 |_,_=>False
theorem CQ{H:Hp}{B:z_->Prop}{v:V}{d:Ad}(h:RdX H B v d):decide (v=.non)=fR d:=by cases h<;>rfl
theorem rS:bh (λx y H Q=>y=.non/\Q (.bl (decide (x=.non))) H) (bc ai):=λC H B σ δ n x y p q Q d R c b a k=>by
 unfold bc at a
 split at a
 ·rename_i e;cases(b);exact⟨rfl,k _ _ H n R (Kp.refl _ _) (wd (by rw[CQ c];exact .bl _)) a⟩
 ·exact a.elim
theorem r8:bh (λx y H Q=>y=.non/\Q (.bl (!decide (x=.non))) H) (bc ah):=λC H B σ δ n x y p q Q d R c b a k=>by
 unfold bc at a
 split at a
 ·rename_i e;cases(b);exact⟨rfl,k _ _ H n R (Kp.refl _ _) (wd (by rw[CQ c];exact .bl _)) a⟩
 ·exact a.elim
def eI:Ad->Bool
 |.none=>ah
 |.bool _=>ah
 |.int _=>ah
 |.str _=>ah
 |_=>ai
def lB:Ad->Ad->Bool
 |.none,.none=>ah
 |.bool a,.bool b=>a==b
 |.bool a,.int b=>(if a then 1 else 0)==b
 |.int a,.bool b=>a==(if b then 1 else 0)
 |.int a,.int b=>a==b
 |.str a,.str b=>a==b
 |_,_=>ai
def bW(x:Ad)(ds:List Ad):Bool:=ds.any λy=>lB y x
theorem kr{H:Hp}{B:z_->Prop}{v:V}{d:Ad}(h:RdX H B v d)(f:eI d=ah):gM v=ah:=by cases h<;>first|rfl|cases f
theorem jw{H:Hp}{B:z_->Prop}:∀{vs:List V}{ds:List Ad},RdXs H B vs ds->ds.all eI=ah->vs.all gM=ah
 |_,_,.nil,_=>rfl
 |_,_,.cons h r,f=>by
  rw[List.all_cons,Bu]at f ⊢;exact⟨kr h f.1,jw r f.2⟩
theorem G9{H:Hp}{B:z_->Prop}{v u:V}{d e:Ad}(h:RdX H B v d)(h2:RdX H B u e):gV v u=lB d e:=by cases h<;>cases h2<;>rfl
theorem kJ{H:Hp}{B:z_->Prop}{v:V}{d:Ad}(h:RdX H B v d):∀{vs:List V}{ds:List Ad},RdXs H B vs ds->pT v vs=bW d ds
 |_,_,.nil=>rfl
 |_,_,.cons a r=>by
  have:=kJ h r;unfold pT bW at this ⊢;rw[C6,C6,this,G9 a h]
def dP(neg:Bool):Wv->Wv->Int->DQ->Prop:=λx y n Q=>match x,y with
 |.d a,.d (.tuple ds)=>eI a=ah/\ds.all eI=ah/\Q (.d (.bool (if neg then !bW a ds else bW a ds))) n
 |.d a,.d (.list ds)=>eI a=ah/\ds.all eI=ah/\Q (.d (.bool (if neg then !bW a ds else bW a ds))) n
 |_,_=>False
theorem i7{K:Ag}{neg:Bool}:bh (gE K neg) (dP neg):=λC H B σ δ n x y p q Q u R a l c k=>by
 unfold dP at c
 split at c
 ·rename_i t e;obtain⟨g,f,q⟩:=c;have a:=a;cases(show RdX H B y (.tuple e)from l)with
  |@tup d i _ j r o b=>
   refine⟨d,i,rfl,.inr (SqT.of j),kr a g,jw b f,?_⟩;rw[kJ a b];exact k _ _ H n R (Kp.refl _ _) (wd (.bl _)) q
 ·rename_i t e;obtain⟨g,f,q⟩:=c;have a:=a;cases(show RdX H B y (.list e)from l)with
  |@lst d i _ j r o b=>
   refine⟨d,i,rfl,.inl (SqL.of j),kr a g,jw b f,?_⟩;rw[kJ a b];exact k _ _ H n R (Kp.refl _ _) (wd (.bl _)) q
 ·exact c.elim
def av:Wv->Wv->Int->DQ->Prop:=λx y n Q=>match x,y with
 |.d (.list ds),.d (.int i)=>match cX ds i with
  |some d=>Q (.d d) n
  |none=>False
 |.d (.tuple ds),.d (.int i)=>match cX ds i with
  |some d=>Q (.d d) n
  |none=>False
 |.d (.str z),.d (.int i)=>match cX z.cps.toList i with
  |some c=>Q (.d (.str ⟨#[c]⟩)) n
  |none=>False
 |_,_=>False
theorem tP{H:Hp}{B:z_->Prop}{vs:List V}{ds:List Ad}{i:Int}{d:Ad}(r:RdXs H B vs ds)(h:cX ds i=ae d):∃v,cX vs i=ae v/\RdX H B v d:=by
 unfold cX at h ⊢;rw[r.len];cases e:iI ds.length i with
 |none=>rw[e]at h;cases h
 |some j=>
  rw[e]at h;exact r.getD h
theorem lI{K:Ag}:bh (jH K) av:=λC H B σ δ n x y p q Q F R l m b k=>by
 unfold av at b
 split at b
 ·rename_i g i
  split at b
  ·rename_i d e;cases(show RdX H B y (.int i)from m);cases(show RdX H B x (.list g)from l)with
   |@lst f r _ s D w j=>
    obtain⟨v,o,h⟩:=tP j e;exact .inl ⟨f,r,i,v,rfl,rfl,SqL.of s,o,k _ _ H n R (Kp.refl _ _) (wd h) b⟩
  ·exact b.elim
 ·rename_i g i
  split at b
  ·rename_i d e;cases(show RdX H B y (.int i)from m);cases(show RdX H B x (.tuple g)from l)with
   |@tup f r _ s D w j=>
    obtain⟨v,o,h⟩:=tP j e;exact .inr (.inl ⟨f,r,i,v,rfl,rfl,SqT.of s,o,k _ _ H n R (Kp.refl _ _) (wd h) b⟩)
  ·exact b.elim
 ·rename_i z i
  split at b
  ·rename_i c e;cases(show RdX H B y (.int i)from m);cases(show RdX H B x (.str z)from l)with
   |str _ A=>exact .inr (.inr ⟨z,i,c,rfl,rfl,A,e,k _ _ H n R (Kp.refl _ _) (wd (show RdX H B _ (.str _)from .str _ (by show 1<=Aw;decide))) b⟩)
  ·exact b.elim
 ·exact b.elim
theorem t5(ha:DE X a ta wa)(hb:DE X b tb wb)(hs:qu b:=by exact λ_ _=>rfl):DE X (.Subscript a b pos) (dt (jH X.K) ta tb) (w2 wa wb av):=⟨gp qP ha.pe hb.pe hs,mO lI ha.sd hb.sd⟩
def a9:List Wv->Int->DQ->Prop:=λxs n Q=>match xs with
 |[.d (.str x)]=>Q (.d (.int x.length)) n
 |[.d (.list ds)]=>Q (.d (.int ds.length)) n
 |[.d (.tuple ds)]=>Q (.d (.int ds.length)) n
 |_=>False
theorem ID:CallR X (.builtin "len") (λxs H Q=>(∃z,xs=[.str z]/\z.length<=Aw/\Q (.int z.length) H)\/∃p ys,xs=[.ref p]/\(SqL X.K H p ys\/SqT X.K H p ys)/\Q (.int ys.length) H):=call_len_str.or qc
theorem Rt{K:Ag}:cP (λxs H Q=>(∃z,xs=[.str z]/\z.length<=Aw/\Q (.int z.length) H)\/∃p ys,xs=[.ref p]/\(SqL K H p ys\/SqT K H p ys)/\Q (.int ys.length) H) a9:=λC H B σ δ n q xs Q s R r h k=>by
 unfold a9 at h
 split at h
 ·rename_i x;cases r with
  |cons a b=>
   cases b;cases(show RdX H B _ (.str x)from a)with
   |str _ l=>exact .inl ⟨x,rfl,l,k _ _ H n R (Kp.refl _ _) (wd (.int _)) h⟩
 ·rename_i e;cases r with
  |cons a b=>
   cases b;cases(show RdX H B _ (.list e)from a)with
   |@lst d ys _ g m j f=>
    refine .inr ⟨d,ys,rfl,.inl (SqL.of g),?_⟩;rw[f.len];exact k _ _ H n R (Kp.refl _ _) (wd (.int _)) h
 ·rename_i e;cases r with
  |cons a b=>
   cases b;cases(show RdX H B _ (.tuple e)from a)with
   |@tup d ys _ g m j f=>
    refine .inr ⟨d,ys,rfl,.inr (SqT.of g),?_⟩;rw[f.len];exact k _ _ H n R (Kp.refl _ _) (wd (.int _)) h
 ·exact h.elim
theorem OM{K:Ag}{H:Hp}{B:z_->Prop}{v:V}{d:Ad}(h:RdX H B v d):TyOf K H v (.type (oY d)):=by
 cases h with
 |non=>exact .non
 |bl b=>exact .bl b
 |int i=>exact .int i
 |str x h=>exact .str x
 |lst a c j k=>exact .lst a
 |tup a c j k=>exact .tup a
theorem Qy{K:Ag}{H:Hp}{B:z_->Prop}{v:V}{d:Ad}(h:RdX H B v d){T:String}(hT:T="int"\/T="bool"\/T="str"\/T="tuple"\/T="list"):PySem.W.kitOne K (.type (oY d)) (.type T)=ae (gW T d):=by
 cases h<;>rcases hT with rfl|rfl|rfl|rfl|rfl<;>rfl
def bU(T:String)(w:DT):DT:=λδ n Q=>w δ n λx n1=>match x with
 |.d d=>Q (.d (.bool (gW T d))) n1
 |_=>False
theorem Q6{T:String}{x:Str}{p p2:Pos}(hT:T="int"\/T="bool"\/T="str"\/T="tuple"\/T="list")(hg:Gl X "isinstance")(hm:X.mg "isinstance"=af)(hg2:Gl X x)(hm2:X.mg x=af)(hv:Bm x=ae (.type T))(ha:DE X a ta wa)(hn:x≠"__name__":=by decide)(hdb:(x==("__debug__":Str))=ai:=by decide)
  (he:Ar [a,.Name x p2] X.env=(ai,eval a X.env)::Ar [.Name x p2] X.env:=by rfl) (he2:Ar [.Name x p2] X.env=(ai,eval (.Name x p2) X.env)::Ar [] X.env:=by rfl) (p_:(Cp pos (Ar [.Name x p2] X.env)).any (·.1)=ai:=by rfl):
  DE X (.Call (.Name "isinstance" p) [a,.Name x p2] [] pos) (fk (λxs H Q=>∃x t b,xs=[x,.ty T]/\TyOf X.K H x t/\PySem.W.kitOne X.K t (.type T)=ae b/\Q (.bl b) H) (bJ ta (bJ (tC (.ty T)) bf))) (bU T wa):=
 ⟨jG (IE) hg hm DW (cw ha.pe (cw (Nw hg2 hm2 hv rfl hn hdb) eu he2) he) ∎ ∎ he p_,λC H B σ δ n Q l R q k=>ha.sd C H B σ δ n _ _ R q λv x g h f i e c=>by
  cases x with
  |d d=>exact⟨v,_,_,rfl,OM e,Qy (e) hT,k _ _ g h f i (wd (.bl _)) c⟩
  |tp=>exact c.elim
  |dk _=>exact c.elim
  |dx _=>exact c.elim
  |ln _=>exact c.elim
  |ob _=>exact c.elim⟩
def qr:List Wv->Int->DQ->Prop:=λxs n Q=>match xs with
 |[.d (.list ds)]=>Small (.list ds)/\Q (.d (.str (PyData.shown (.list ds)))) n
 |[.d (.tuple ds)]=>Small (.tuple ds)/\Q (.d (.str (PyData.shown (.tuple ds)))) n
 |_=>False
theorem GZ{K:Ag}:cP (λxs H Q=>∃a d,xs=[.ref a]/\RdD K H (.ref a) d/\Small d/\Q (.str d.shown) H) qr:=λC H B σ δ n s xs Q t R r h k=>by
 unfold qr at h
 split at h
 ·rename_i j;cases r with
  |cons m c=>
   cases c;cases(show RdX H B _ (.list j)from m)with
   |@lst f o _ g e i l=>exact⟨f,_,rfl,(RdX.lst g e i l).rd,h.1,k _ _ H n R (Kp.refl _ _) (wd (show RdX H B _ (.str _)from .str _ h.1.len)) h.2⟩
 ·rename_i j;cases r with
  |cons m c=>
   cases c;cases(show RdX H B _ (.tuple j)from m)with
   |@tup f o _ g e i l=>exact⟨f,_,rfl,(RdX.tup g e i l).rd,h.1,k _ _ H n R (Kp.refl _ _) (wd (show RdX H B _ (.str _)from .str _ h.1.len)) h.2⟩
 ·exact h.elim
def ir:List Ad->Option (List Bool)
 |[]=>ae []
 |.bool b::r=>(ir r).map (b::·)
 |_::_=>af
theorem ui{H:Hp}{B:z_->Prop}:∀{vs:List V}{ds:List Ad}{bs:List Bool},RdXs H B vs ds->ir ds=ae bs->vs=bs.map V.bl
 |_,_,bs,.nil,h=>by
  cases h;rfl
 |_,_,bs,.cons (ds:=ds) c h2,h=>by
  cases c with
  |bl b=>
   have a:(ir ds).map _=ae bs:=h;cases e:ir ds with
   |none=>rw[e]at a;trivial
   |some d=>
    rw[e]at a;cases a;rw[ui h2 e];rfl
  |_=>cases h
def iD:List Wv->Int->DQ->Prop:=λxs n Q=>match xs with
 |[.d (.list ds)]=>match ir ds with
  |some bs=>Q (.d (.bool (bs.all id))) n
  |none=>False
 |_=>False
theorem IG:cP (λxs H Q=>∃(p:z_)(bs:List Bool),xs=[.ref p]/\H p=ae (.lst (bs.map V.bl))/\Q (.bl (bs.all id)) H) iD:=λC H B σ δ n l xs Q m R r h k=>by
 unfold iD at h
 split at h
 ·rename_i b
  split at h
  ·rename_i bs e;cases r with
   |cons d f=>
    cases f;cases(show RdX H B _ (.list b)from d)with
    |@lst a q _ i o j c=>
     exact⟨a,bs,rfl,by rw[<-ui c e];exact i,k _ _ H n R (Kp.refl _ _) (wd (.bl _)) h⟩
  ·exact h.elim
 ·exact h.elim
def eQ:List Wv->Int->DQ->Prop:=λxs n Q=>match xs with
 |[.d (.list ds)]=>Q (.d (.tuple ds)) n
 |[.d (.tuple ds)]=>Q (.d (.tuple ds)) n
 |_=>False
theorem Qx{K:Ag}:cP (λxs H Q=>∃p ys,xs=[.ref p]/\((SqL K H p ys/\∀l,H l=af->Q (.ref l) (upd H l (.tup ys)))\/(SqT K H p ys/\Q (.ref p) H))) eQ:=λC H B σ δ n s xs Q t R r h k=>by
 unfold eQ at h
 split at h
 ·rename_i c;cases r with
  |cons j m=>
   cases m;cases(show RdX H B _ (.list c)from j)with
   |@lst f ys _ e o g i=>
    exact⟨f,ys,rfl,.inl ⟨SqL.of e,λl d=>k _ _ _ n (R.new d) (Kp.new d) (wd (show RdX _ B _ (.tuple c)from .tup bj (R.nb d) g ((i.fresh d).less λb z=>.inl z))) h⟩⟩
 ·rename_i c;cases r with
  |cons j m=>
   cases m;cases(show RdX H B _ (.tuple c)from j)with
   |@tup f ys _ e o g i=>exact⟨f,ys,rfl,.inr ⟨SqT.of e,k _ _ H n R (Kp.refl _ _) (wd (show RdX H B _ (.tuple c)from .tup e o g i)) h⟩⟩
 ·exact h.elim
end
structure ItOk(fz:Hp)(J:It)(ds:List Ad):Prop where
 le:ds.length<=Aw
 go:∀i H,(∀b o,fz b=ae o->H b=ae o)->i < ds.length->J.go i H
 stop:∀H,(∀b o,fz b=ae o->H b=ae o)->J.stop ds.length H
 yld:∀i H x H' d,(∀b o,fz b=ae o->H b=ae o)->ds[i]?=ae d->J.yld i H x H'->gN H H'/\∀B,(∀b o,fz b=ae o->¬B b)->(∀b,B b->H b≠af)->RdX H' B x d
def nc(H:Hp)(B:z_->Prop)(fz:Hp):Prop:=(∀b o,fz b=ae o->H b=ae o/\¬B b)/\∀b o,H b=ae o->¬B b->fz b=ae o
abbrev fW:=Sl->Int->(List Ad->Int->Prop)->Prop
def sv(wi:TI)(v:fW):Prop:=∀(C:Ctx)(H:Hp)(B:z_->Prop)(σ:St)(δ:Sl)(n:Int)(Q:List Ad->Int->Prop)(Q':It->Hp->Prop),Rel C H B σ δ n->v δ n Q->
 (∀J ds H' n',Rel C H' B σ δ n'->Kp C.t H H'->(∀fz,nc H' B fz->ItOk fz J ds)->Q ds n'->Q' J H')->wi σ H Q'
structure DI(X:Cx)(tg iter:Expr)(wi:TI)(v:fW):Prop where
 pi:PI X tg iter wi
 sd:sv wi v
section
variable{X:Cx}{tg a b c e:Expr}{ta tb te:TE}{wa wb we:DT}{pos p:Pos}
def dY(w:DT):fW:=λδ n Q=>w δ n λx n1=>match x with
 |.d (.list ds)=>Q ds n1
 |_=>False
def c7(w:DT):fW:=λδ n Q=>w δ n λx n1=>match x with
 |.d (.tuple ds)=>Q ds n1
 |_=>False
theorem QC(ha:DE X a ta wa):DI X tg a (oQ X.K ta) (dY wa):=⟨G8 ha.pe,λC H B σ δ n Q U R q k=>ha.sd C H B σ δ n _ _ R q λv x t I G S M h=>by
 split at h
 ·rename_i p;cases(show RdX t B v (.list p)from M)with
  |@lst y m _ w J D g=>
   refine⟨y,rfl,⟨m,SqL.of w⟩,k _ p t I G S (λfz j=>?_) h⟩;have c:=j.2 _ _ w J;refine⟨by rw[<-g.len];exact D,λi H f r=>?_,λH f=>?_,λi H x T d f F l=>?_⟩
   ·rw[<-g.len]at r;exact⟨m,_,SqL.of (f _ _ c),Ah r⟩
   ·exact⟨m,SqL.of (f _ _ c),by rw[g.len];simp⟩
   ·obtain⟨rfl,l⟩:=l;refine⟨λ_ _ z=>z,λB' E L=>?_⟩;obtain⟨u,P,O⟩:=g.getD F;have:=l _ (SqL.of (f _ _ c));rw[P]at this;cases this;exact O.move λb o e s=>⟨f _ _ (j.2 _ _ e s),E _ _ (j.2 _ _ e s)⟩
 ·exact h.elim⟩
theorem Q4(ha:DE X a ta wa):DI X tg a (kU X.K ta) (c7 wa):=⟨Lx ha.pe,λC H B σ δ n Q U R q k=>ha.sd C H B σ δ n _ _ R q λv x t G F S L h=>by
 split at h
 ·rename_i p;cases(show RdX t B v (.tuple p)from L)with
  |@tup y m _ w I A g=>
   refine⟨y,rfl,⟨m,SqT.of w⟩,k _ p t G F S (λfz j=>?_) h⟩;have c:=j.2 _ _ w I;refine⟨by rw[<-g.len];exact A,λi H f r=>?_,λH f=>?_,λi H x T d f E l=>?_⟩
   ·rw[<-g.len]at r;exact⟨m,_,SqT.of (f _ _ c),Ah r⟩
   ·exact⟨m,SqT.of (f _ _ c),by rw[g.len];simp⟩
   ·obtain⟨rfl,l⟩:=l;refine⟨λ_ _ z=>z,λB' D J=>?_⟩;obtain⟨u,O,N⟩:=g.getD E;have:=l _ (SqT.of (f _ _ c));rw[O]at this;cases this;exact N.move λb o e s=>⟨f _ _ (j.2 _ _ e s),D _ _ (j.2 _ _ e s)⟩
 ·exact h.elim⟩
def cf(lo:Int)(n:Nat):List Ad:=(A8 n).map λi=>.int (lo+(i:Nat))
def d3(w:DT):fW:=λδ n Q=>w δ n λx n1=>match x with
 |.d (.int j)=>(-(2 ^ 62)<=j/\j<=1000000)/\Q (cf 0 j.toNat) n1
 |_=>False
theorem JX(fz:Hp)(lo:Int)(n:Nat)(hn:n<=1000000):ItOk fz (p5 lo n) (cf lo n):=by
 have b:(cf lo n).length=n:=by unfold cf;simp
 refine⟨?_,λi H c f=>?_,λH c=>?_,λi H y o d c a h=>?_⟩
 ·rw[b];exact Ba hn ∎
 ·rw[b]at f;trivial
 ·show n<=(cf lo n).length;simp_all
 ·obtain⟨rfl,rfl⟩:=h;refine⟨λ_ _ z=>z,λB' l g=>?_⟩;unfold cf at a;rw[Am]at a;cases e:(A8 n)[i]? with
  |none=>rw[e]at a;trivial
  |some j=>
   rw[e]at a;have:j=i:=by
    obtain⟨m,k⟩:=Aq.mp e;simp_all
   subst this;cases a;exact .int _
theorem zM{p:Pos}(hg:Gl X "range")(hm:X.mg "range"=af)(ha:DE X a ta wa)(hs:Ar [a] X.env=[(ai,eval a X.env)]:=by rfl):DI X tg (.Call (.Name "range" p) [a] [] pos) (pJ (bJ ta bf)) (d3 wa):=⟨Mb hg hm (cw ha.pe eu hs) hs,λC H B σ δ n Q i R q k=>ha.sd C H B σ δ n _ _ R q λv x c d g h f b=>by
 split at b
 ·rename_i j;cases(show RdX c B v (.int j)from f);refine⟨j,rfl,b.1.1,by omega,k _ _ c d g h (λfz _=>JX fz 0 j.toNat ⋯) b.2⟩
 ·exact b.elim⟩
end
abbrev dE:=Ad->Sl->(Sl->Prop)->Prop
def rZ(g:TG)(v:dE):Prop:=∀(C:Ctx)(H:Hp)(B:z_->Prop)(σ:St)(δ:Sl)(n:Int)(x:V)(d:Ad)(Q:Sl->Prop)(Q':St->Hp->Prop),Rel C H B σ δ n->RdX H B x d->v d δ Q->
 (∀σ' δ',Rel C H B σ' δ' n->Q δ'->Q' σ' H)->g x σ H Q'
structure DG(X:Cx)(tg:Expr)(g:TG)(v:dE):Prop where
 pg:PG X tg g
 sd:rZ g v
section
variable{X:Cx}{pos:Pos}
def aG(i:Nat):dE:=λd δ Q=>Q (δ.set i (↑d))
theorem uv{i:Nat}{x:Str}(hN:X.N.Nodup)(hi:X.N[i]?=ae x)(hx:eZ X.env.scope x)(hf:X.fn x=ah\/X.env.scope.names.lookup x=ae .local:=by first|exact .inl rfl|exact .inr rfl|assumption):DG X (.Name x pos) (df i) (aG i):=
 ⟨Qq hN hi hx hf,λC H B σ δ n x d Q a R r q k=>k _ _ (R.set (x:=.d d) r rfl) q⟩
end
def dw(g:dE)(W:aH)(K:DEnds):List Ad->Sl->Int->Prop
 |[],δ,n=>K.nx δ n
 |d::r,δ,n=>g d δ λδ'=>W δ' n {K with nx:=dw g W K r,ct:=dw g W K r,bk:=K.nx}
def aP(v:fW)(g:dE)(W:aH):aH:=λδ n K=>v δ n λds n1=>dw g W K ds δ n1
def fJ(H:Hp)(B:z_->Prop):Hp:=λb=>open Classical in if B b then af else H b
theorem mR(H:Hp)(B:z_->Prop):nc H B (fJ H B):=by
 refine⟨λb o e=>?_,λb o e n=>?_⟩
 ·unfold fJ at e
  split at e
  ·cases e
  ·rename_i h;trivial
 ·unfold fJ;rw[a_ n];exact e
theorem Rel.refz{C:Ctx}{H:Hp}{B:z_->Prop}{σ:St}{δ:Sl}{n:Int}(R:Rel C H B σ δ n):Rel {C with fz:=fJ H B} H B σ δ n:=
 ⟨R.tp,R.kp,R.t0,R.l0,R.g0,(mR H B).1,R.bt,R.b0,R.ba,R.a0,R.sl,R.ow,R.len⟩
theorem Rel.unfz{C:Ctx}{fz:Hp}{H:Hp}{B:z_->Prop}{σ:St}{δ:Sl}{n:Int}(R:Rel {C with fz:=fz} H B σ δ n)(h:∀b o,C.fz b=ae o->fz b=ae o):Rel C H B σ δ n:=
 ⟨R.tp,R.kp,R.t0,R.l0,R.g0,λb o e=>R.fz b o (h b o e),R.bt,R.b0,R.ba,R.a0,R.sl,R.ow,R.len⟩
theorem Rel.same{C:Ctx}{H H':Hp}{B:z_->Prop}{σ:St}{δ:Sl}{n:Int}(R:Rel C H B σ δ n)(k:gN H H'):Rel C H' B σ δ n:=by
 obtain⟨a,b,e,h⟩:=R.tp.ob;exact R.step ⟨⟨a,b,k _ _ e,h⟩,k _ _ R.tp.ls,R.tp.len,λz=>k _ _ (R.tp.ag z),R.tp.gne⟩ λb o e _=>k b o e
section
variable{X:Cx}{tg iter:Expr}{body:List Stmt}{wi:TI}{v:fW}{g:TG}{gd:dE}{T:TS}{W:aH}{pos:Pos}
theorem rG(hi:DI X tg iter wi v)(hg:DG X tg g gd)(hb:DSs X body T W)(hp:PassesOwn (A9 X.prog X.w) X.A X.env X.xe:=by exact PassesOwn.never)(hc:X.calm=ah:=by rfl)
  (hs:∀x,Dx iter X.env x=pure x:=by intro _;rfl):DS X (.For tg iter body [] pos) (g6 wi g T) (aP v gd W):=⟨RH hp hc hi.pi hg.pg hb.ps hs,λC H B σ δ n K D R q E=>
 hi.sd C H B σ δ n _ _ R q λJ d y Z M k1 hJ V=>by
  have Q:=hJ _ (mR y B);have c:∀{H p σ δ n},Rel {C with fz:=fJ y B} H p σ δ n->Rel C H p σ δ n:=λR=>R.unfz λb o e=>(mR y B).2 b o (M.fz b o e).1 (M.fz b o e).2;refine⟨λi m σ H=>m=d.length-i/\i<=d.length/\∃p δ n,Rel {C with fz:=fJ y B} H p σ δ n/\dw gd W K (d.drop i) δ n,⟨d.length,by simp,Az _,B,δ,Z,M.refz,by simpa using V⟩,?_⟩
  rintro i m S t ⟨rfl,hi,u,U,N,k,s⟩
  have h:=λb o e=>(k.fz b o e).1;by_cases f:i < d.length
  ·rw[Fj f]at s;refine .inr ⟨Q.go i t h f,λσ3 H3=>∃p δ n,_,λσ' F z=>⟨_,by omega,rfl,f,z⟩,λx F hy=>?_⟩;obtain⟨sm,Y⟩:=Q.yld i t x F d[i] h (Ah f) hy;refine hg.sd _ F u S U N x d[i] _ _ (k.same sm) (Y u (λb o e=>(k.fz b o e).2) k.ba) s λσ' δ' R4 q4=>hb.sd _ F u σ' δ' N _ _ R4 q4 ⟨?_,?_,?_,?_,λH B σ δ n a xs d R O P G I q=>E.rn H B σ δ n a xs d (c R) O P G I q,λH B σ δ n a l L R O P G I q=>E.rx H B σ δ n a l L (c R) O P G I q⟩
   ·exact λH B σ δ n R q=>⟨B,δ,n,R,q⟩
   ·exact λH B σ δ n v w R r q=>E.rt H B σ δ n v w (c R) r q
   ·exact λH B σ δ n R q=>E.nx H B σ δ n (c R) q
   ·exact λH B σ δ n R q=>⟨B,δ,n,R,q⟩
  ·have e:i=d.length:=by omega
   subst e;rw[List.drop_length]at s;exact .inl ⟨Q.stop t h,E.nx t u S U N (c k) s⟩⟩
end
def iX(fr:List (Option Nat))(δ:Sl):Sl:=fr.map λo=>o.bind λi=>match δ[i]? with
 |some (ae (.w x))=>ae (.w x)
 |some (ae (.odk kvs))=>ae (.w (.dk kvs))
 |some (ae (.own ds))=>ae (.w (.ln ds))
 |some (ae (.odx kvs))=>ae (.w (.dx kvs))
 |_=>af
def dg(g:dE)(c:b3)(w:DT)(Q:List Ad->Int->Prop):List Ad->List Ad->Sl->Int->Prop
 |[],i',_,n=>Q i' n
 |d::r,i',δ,n=>g d δ λδ'=>c δ' n λb n1=>if b=ah then w δ' n1 λx n2=>match x with
   |.d y=>dg g c w Q r (i'++[y]) δ' n2
   |_=>False
  else dg g c w Q r i' δ' n1
def bY(fr:List (Option Nat))(v:fW)(g:dE)(c:b3)(w:DT):d6:=λδ n Q=>v δ n λds n1=>dg g c w Q ds [] (iX fr δ) n1
structure DIf(X:Cx)(ifs:List Expr)(t:TT)(c:b3):Prop where
 pf:lp X ifs t
 sd:iS t c
def bB:b3:=λ_ n Q=>Q ah n
theorem Mq{X:Cx}:DIf X [] yX bB:=⟨Sq,λC H B σ δ n Q a R q k=>k ah H n R (Kp.refl _ _) q⟩
theorem Ji{X:Cx}{c:Expr}{t:TT}{cc:b3}(h:DC X c t cc):DIf X [c] t cc:=⟨FU h.pt,h.sd⟩
theorem Sb(fr:List (Option Nat))(σ:St):(dN fr σ).length=fr.length:=by unfold dN;simp
theorem Ov(fr:List (Option Nat))(δ:Sl):(iX fr δ).length=fr.length:=by unfold iX;rw[Ab]
theorem uA{fr:List (Option Nat)}{δ:Sl}{j:Nat}{x:SV}(h:(iX fr δ)[j]?=ae (ae x)):∃i y,fr[j]?=ae (ae i)/\δ[i]?=ae (ae y)/\((∃z,x=.w z/\y=.w z)\/(∃kvs,x=.w (.dk kvs)/\y=.odk kvs)\/(∃ds,x=.w (.ln ds)/\y=.own ds)\/∃kvs,x=.w (.dx kvs)/\y=.odx kvs):=by
 unfold iX at h;rw[Am]at h;cases e:fr[j]? with
 |none=>rw[e]at h;cases h
 |some o=>
  rw[e]at h;cases o with
  |none=>cases h
  |some i=>
   have b:=Bq h;dsimp only[Option.bind]at b
   split at b
   ·rename_i z a;cases b;exact⟨i,_,rfl,a,.inl ⟨z,rfl,rfl⟩⟩
   ·rename_i kvs a;cases b;exact⟨i,_,rfl,a,.inr (.inl ⟨kvs,rfl,rfl⟩)⟩
   ·rename_i ds a;cases b;exact⟨i,_,rfl,a,.inr (.inr (.inl ⟨ds,rfl,rfl⟩))⟩
   ·rename_i kvs a;cases b;exact⟨i,_,rfl,a,.inr (.inr (.inr ⟨kvs,rfl,rfl⟩))⟩
   ·cases b
theorem JR{fr:List (Option Nat)}{σ:St}{j i:Nat}{v:V}(h:fr[j]?=ae (ae i))(h2:σ[i]?=ae (ae v)):(dN fr σ)[j]?=ae (ae v):=by
 unfold dN;rw[Am,h];show ae ((σ[i]?).bind id)=_;rw[h2];rfl
theorem Qo{C:Ctx}{H:Hp}{B:z_->Prop}{σ:St}{δ:Sl}{n:Int}{L:z_}{fr:List (Option Nat)}(R:Rel C H B σ δ n)(hL:H L=af):
  Rel ⟨C.t,C.l,C.ns,H,B,fJ H B⟩ (upd H L (.lst [])) (λb=>B b\/b=L) (dN fr σ) (iX fr δ) n where
 tp:=R.tp.new hL
 kp:=Kp.new hL
 t0:=R.ba _ R.bt
 l0:=by
  show H C.l.s≠af;rw[R.tp.ls];simp
 g0:=λe=>by
  show H C.l.g≠af;rw[R.tp.ag e];simp
 fz:=λb o e=>by
  obtain⟨u,E⟩:=(mR H B).1 b o e;exact⟨by rw[aL (bH u hL)];exact u,λz=>z.elim E λq=>bH u hL q⟩
 bt:=.inl R.bt
 b0:=λb z=>.inl z
 ba:=λb z e=>by
  by_cases q:b=L
  ·rw[q,bj]at e;cases e
  ·rw[aL q]at e;exact R.ba b (z.resolve_right q) e
 a0:=R.ba
 sl:=λj x e=>by
  have p:∀b F,H b=ae F->¬B b->upd H L (.lst []) b=ae F/\¬(B b\/b=L):=λb F e n=>⟨by rw[aL (bH e hL)];exact e,λz=>z.elim n λq=>bH e hL q⟩;obtain⟨i,y,u,E,G⟩:=uA e;obtain⟨v,J,m⟩:=R.sl i y E;refine⟨v,JR u J,?_⟩;rcases G with⟨z,rfl,rfl⟩|⟨h,rfl,rfl⟩|⟨I,rfl,rfl⟩|⟨h,rfl,rfl⟩
  ·cases z with
   |d d=>exact⟨m.1.move p,λz=>by cases z⟩
   |tp=>exact⟨m.1,λz=>by cases z⟩
   |ln I=>
    obtain⟨a,l,f,c,r,k,A⟩:=m.1;exact⟨⟨a,l,f,by rw[aL (bH c hL)];exact c,r,k,A.move p⟩,λ_=>⟨a,f,by show H a≠af;rw[c];simp⟩⟩
   |dk h=>
    obtain⟨a,l,f,c,r,k⟩:=m.1;exact⟨⟨a,l,f,by rw[aL (bH c hL)];exact c,r,k.move p⟩,λ_=>⟨a,f,by show H a≠af;rw[c];simp⟩⟩
   |dx h=>
    obtain⟨a,l,f,c,r,k⟩:=m.1;exact⟨⟨a,l,f,by rw[aL (bH c hL)];exact c,r,k.move p⟩,λ_=>⟨a,f,by show H a≠af;rw[c];simp⟩⟩
   |ob o=>
    exact⟨ORel.move p m.1,λz=>by cases z⟩
  ·obtain⟨a,l,f,c,r,k,A,w⟩:=m;exact⟨⟨a,l,f,by rw[aL (bH c hL)];exact c,λz=>R.t0 (z▸k),w.move p⟩,λ_=>⟨a,f,by show H a≠af;rw[c];simp⟩⟩
  ·obtain⟨a,l,f,c,r,k,A,w⟩:=m;exact⟨⟨a,l,f,by rw[aL (bH c hL)];exact c,λz=>R.t0 (z▸k),A,w.move p⟩,λ_=>⟨a,f,by show H a≠af;rw[c];simp⟩⟩
  ·obtain⟨a,l,f,c,r,k,A,w⟩:=m;exact⟨⟨a,l,f,by rw[aL (bH c hL)];exact c,λz=>R.t0 (z▸k),w.move p⟩,λ_=>⟨a,f,by show H a≠af;rw[c];simp⟩⟩
 ow:=λi j x y v u E D Q _ _=>by
  obtain⟨_,_,_,_,G⟩:=uA u;rcases G with⟨z,rfl,_⟩|⟨h,rfl,_⟩|⟨I,rfl,_⟩|⟨h,rfl,_⟩
  ·cases D
  ·cases D
  ·cases D
  ·cases D
 len:=by rw[Sb,Ov]
section
variable{X:Cx}{elt tg iter:Expr}{ifs:List Expr}{scope:Et}{cl:List (Str×z_)}{pos:Pos}{N:List Str}{fr:List (Option Nat)}{wi:TI}{v:fW}{g:TG}{gd:dE}{tt:TT}{cc:b3}{te:TE}{we:DT}
def gz(δ:Sl):Prop:=∀(i:Nat)(x:SV),δ[i]?=ae (ae x)->x.isOwn=ai
theorem Of(fr:List (Option Nat))(δ:Sl):gz (iX fr δ):=λi x e=>by
 obtain⟨_,_,_,_,b⟩:=uA e;rcases b with⟨z,rfl,_⟩|⟨a,rfl,_⟩|⟨c,rfl,_⟩|⟨a,rfl,_⟩<;>rfl
def kA(v:dE):Prop:=∀d δ Q,gz δ->v d δ Q->v d δ λδ'=>gz δ'/\Q δ'
theorem sJ(i:Nat):kA (aG i):=λd δ Q h q=>⟨λj x e=>by
 rcases e9 e with⟨_,rfl⟩|⟨_,b⟩
 ·rfl
 ·exact h j x b,q⟩
theorem uO(hc:X.calm=ah)(S:CompSc X N scope cl fr)(hi:DI X tg iter wi v)(hg:∀s H fp,DG (cW X N scope cl s H fp) tg g gd)(ht:∀s H fp,DIf (cW X N scope cl s H fp) ifs tt cc)
  (he:∀s H fp,DE (cW X N scope cl s H fp) elt te we) (hno:kA gd) (hs:∀x,Dx iter X.env x=pure x:=by intro _;rfl):
  DF X (.ListComp elt [⟨tg,iter,ifs,0⟩] scope pos) (lr fr wi g tt te) (bY fr v gd cc we):=by
 refine⟨OR hc S hi.pi (λs H fp=>(hg s H fp).pg) (λs H fp=>(ht s H fp).pf) (λs H fp=>(he s H fp).pe) hs,λC H B σ δ n Q Q' R q k=>hi.sd C H B σ δ n _ _ R q λJ f H1 n1 K k1 hJ q1=>λL O=>?_⟩;have I:=hJ _ (mR H1 B);have w:L≠C.t:=λz=>K.ba _ K.bt (z▸O);refine⟨λi m A τ H=>m=f.length-i/\i<=f.length/\A.length<=i/\∃δ' n' c,Rel _ H _ τ δ' n'/\gz δ'/\H L=ae (.lst A)/\RdXs H (λb=>B b\/b=L) A c/\dg gd cc we Q (f.drop i) c δ' n',
  ⟨f.length,by simp,Az _,Az _,_,n1,[],Qo K O,Of fr δ,bj,.nil,by simpa using q1⟩,?_⟩
 rintro i m A τ T ⟨rfl,hi,G,δ2,V,c,p,no2,M,D,P⟩
 have l:=λb o e=>(p.fz b o e).1;by_cases a:i < f.length
 ·rw[Fj a]at P;refine .inr ⟨I.go i T l a,Bi (D3 G a) I.le,λx W hy=>?_⟩;obtain⟨Y,rd⟩:=I.yld i T x W f[i] l (Ah a) hy;refine((hg X.s₀ X.H₀ []).sd) _ W _ τ δ2 V x f[i] _ _ (p.same Y) (rd _ (λb o e=>(p.fz b o e).2) p.ba) (hno _ _ _ no2 P) λτ3 U R4 ⟨h,q4⟩=>((ht X.s₀ X.H₀ []).sd) _ W _ τ3 U V _ _ R4 q4 λb H4 n4 Z k5 q5=>?_;have E:=k5 _ _ (Y _ _ M) w;have F:=(D.keep λb o e _=>Y b o e).kp k5 R4.bt;cases b with
  |false=>
   exact⟨_,by omega,rfl,a,by omega,U,n4,c,Z,h,E,F,q5⟩
  |true=>
   refine((he X.s₀ X.H₀ []).sd) _ H4 _ τ3 U n4 _ _ Z q5 λu y H5 n5 R6 k6 r6 r=>?_;cases y with
   |d y=>
    refine⟨(k6 _ _ E w),_,by omega,rfl,a,by rw[An,A1];omega,U,n5,_,R6.mut (.inr rfl) O λj z e o=>f_ (h j z e) (by rw[o];simp),h,bj,RdXs.keep (λb o e n=>?_) ((F.kp k6 Z.bt).append (.cons r6 .nil)),r⟩;rw[aL λz=>n (.inr z)];exact e
   |tp=>exact r.elim
   |dk _=>exact r.elim
   |dx _=>exact r.elim
   |ln _=>exact r.elim
   |ob _=>exact r.elim
 ·have e:i=f.length:=by omega
  subst e;rw[List.drop_length]at P;refine .inl ⟨I.stop T l,k L A c T V (K.step p.tp p.kp) (k1.trans p.kp) (K.was k1 O) M (Ba G I.le) D P⟩
end
abbrev c8:=List Ad->Sl->(Sl->Prop)->Prop
def N4(g:fD)(v:c8):Prop:=∀(C:Ctx)(H:Hp)(B:z_->Prop)(σ:St)(δ:Sl)(n:Int)(xs:List V)(ds:List Ad)(Q:Sl->Prop)(Q':St->Hp->Prop),Rel C H B σ δ n->RdXs H B xs ds->v ds δ Q->
 (∀σ' δ',Rel C H B σ' δ' n->Q δ'->Q' σ' H)->g xs σ H Q'
structure DGs(X:Cx)(ts:List Expr)(g:fD)(v:c8):Prop where
 pg:lR X ts g
 sd:N4 g v
def di:c8:=λds δ Q=>match ds with
 |[]=>Q δ
 |_=>False
def bF(v:dE)(r:c8):c8:=λds δ Q=>match ds with
 |d::ds=>v d δ λδ'=>r ds δ' Q
 |[]=>False
def d4(n:Nat)(r:c8):dE:=λd δ Q=>match d with
 |.tuple ds=>ds.length=n/\r ds δ Q
 |_=>False
theorem K1:∀ds δ Q,gz δ->di ds δ Q->di ds δ λδ'=>gz δ'/\Q δ':=λds δ Q h q=>by
 cases ds with
 |nil=>exact⟨h,q⟩
 |cons _ _=>exact q
theorem yl{v:dE}{r:c8}(mono:∀d δ (Q Q':Sl->Prop),(∀δ',Q δ'->Q' δ')->v d δ Q->v d δ Q')(hv:kA v)(hr:∀ds δ Q,gz δ->r ds δ Q->r ds δ λδ'=>gz δ'/\Q δ'):∀ds δ Q,gz δ->bF v r ds δ Q->bF v r ds δ λδ'=>gz δ'/\Q δ':=λds δ Q h q=>by
 cases ds with
 |nil=>exact q
 |cons d ds=>exact mono d δ _ _ (λδ' z=>hr ds δ' Q z.1 z.2) (hv d δ _ h q)
theorem KJ{n:Nat}{r:c8}(hr:∀ds δ Q,gz δ->r ds δ Q->r ds δ λδ'=>gz δ'/\Q δ'):kA (d4 n r):=λd δ Q h q=>by
 unfold d4 at q ⊢
 split at q
 ·exact⟨q.1,hr _ _ _ h q.2⟩
 ·exact q.elim
theorem Nh(i j n:Nat):kA (d4 n (bF (aG i) (bF (aG j) di))):=
 KJ (yl (λ_ _ _ _ h q=>h _ q) (sJ i) (yl (λ_ _ _ _ h q=>h _ q) (sJ j) K1))
section
variable{X:Cx}{pos:Pos}
theorem Ti:DGs X [] oq di:=⟨S0,λC H B σ δ n a c Q b R r q k=>by
 cases r with
 |nil=>exact⟨rfl,k σ δ R q⟩
 |cons _ _=>exact q.elim⟩
end
section
variable{X:Cx}{pos:Pos}
theorem FN{e:Expr}{es:List Expr}{t:TG}{u:fD}{v:dE}{r:c8}(h1:DG X e t v)(h2:DGs X es u r)
  (hs:(Cq (e::es) X.env).map (·.2)=assign e X.env::(Cq es X.env).map (·.2):=by rfl):DGs X (e::es) (ES t u) (bF v r):=⟨QY h1.pg h2.pg hs,λC H B σ δ n j h Q l R c q k=>by
 cases c with
 |nil=>exact q.elim
 |cons d f=>exact⟨_,_,rfl,h1.sd C H B σ δ n _ _ _ _ R d q λσ' g a b=>h2.sd C H B σ' g n _ _ _ _ a f b k⟩⟩
theorem Mo{es:List Expr}{k:Nat}{t:fD}{n:Nat}{r:c8}(h:DGs X es t r)(hc:X.calm=ah:=by rfl)
  (hn:(Cq es X.env).length=n:=by rfl) (hst:(Cq es X.env).findIdx? (·.1)=af:=by rfl):DG X (.Tuple es k pos) (jR X.K n t) (d4 n r):=⟨Mi hc h.pg hn hst,λC H B σ δ e x d Q m R c q k=>by
 unfold d4 at q
 split at q
 ·rename_i j;cases c with
  |@tup b g _ i o l a=>exact⟨b,g,rfl,SqT.of i,by rw[a.len];exact q.1,h.sd C H B σ δ e _ _ _ _ R a q.2 k⟩
 ·exact q.elim⟩
def kX(i:Nat)(wj w:DT):aH:=λδ n K=>match δ[i]? with
 |some (ae (.own ds))=>w δ n λx n1=>wj δ n1 λj n2=>match x,j with
  |.d d,.d (.int k)=>match iI ds.length k with
   |some m=>K.nx (δ.set i (ae (.own (ds.set m d)))) n2
   |none=>False
  |_,_=>False
 |_=>False
theorem FX{i:Nat}{x:Str}{xp sp:Pos}{j e:Expr}{tj te:TE}{wj we:DT}(hN:X.N[i]?=ae x)(hj:DE X j tj wj)(he:DE X e te we)(hv:ej X.env.scope x:=by first|exact Ce rfl|exact Bz (Ce rfl)|exact Bz (Bz rfl))(hd:(x==("__debug__":Str))=ai:=by decide)
  (q_:(x==("__classdict__":Str))=ai:=by decide)
  (ha:∀v,assign (.Subscript (.Name x xp) j sp) X.env v=(do
   let ov <-holding [v] (eval (.Name x xp) X.env)
   let iv <-holding [v,ov] (eval j X.env)
   standAt sp
   holding [v,ov,iv] (setItem ov iv v)
   release [v,ov,iv] []):=by intro _;rfl)
  (hs:swapsWithSole [.Subscript (.Name x xp) j sp] e pos.line X.env=pure ai:=by rfl) (hw:swappedStores [.Subscript (.Name x xp) j sp] e X.env=pure af:=by rfl)
  (h1:(Cq [.Subscript (.Name x xp) j sp] X.env).map (·.2)=[assign (.Subscript (.Name x xp) j sp) X.env]:=by rfl):
  DS X (.Assign [.Subscript (.Name x xp) j sp] e pos) (bz te (iM (aM i) tj qH)) (kX i wj we):=
 ⟨ly he.pe (og (fm hN hv hd q_) hj.pe oD ha) hs hw h1,λC H B σ δ n K D R q E=>by
  unfold kX at q
  split at q
  ·rename_i W r;refine he.sd C H B σ δ n _ _ R q λu y J L f V Q A=>?_;obtain⟨v,hv,a,M,rfl,O,h,l,I,s⟩:=f.sl i _ r;refine⟨_,hv,hj.sd C J B σ δ L _ _ f A λw z G U P g S c=>?_⟩
   split at c
   ·rename_i d k
    split at c
    ·rename_i m F;cases(show RdX G B w (.int k)from S);have p:a≠C.t:=λz=>R.t0 (z▸l);refine⟨a,M,k,m,rfl,rfl,(g _ _ O p),by rw[s.len];exact F,E.nx _ _ _ _ _ (P.mutOwn r rfl hv h l ?_ rfl) c⟩;refine⟨a,_,rfl,bj,h,l,by rw[B5];exact I,RdXs.keep (λb o e n=>?_) (RdXs.set m (s.kp g f.bt) (Q.kp g f.bt))⟩;rw[aL λ(z:b=a)=>n (z▸h)];exact e
    ·exact c.elim
   ·exact c.elim
  ·exact q.elim⟩
end
structure Has(P:Bb)(w:Bj)(K:Ag)(mg:Str->Option Af)(base:Heap)(k:Nat)(x:Str)(ps:List Str)(S:aJ):Prop where
 ex:∃(f:z_)(fd:B8),FnOk P w K mg base b6 k f fd ps (dy S)/\Binds K fd ps []/\mg x=ae (.ref f)/\Co K (.ref f)=ah
section
variable{P:Bb}{w:Bj}{K:Ag}{mg:Str->Option Af}{base:Heap}
theorem Has.mk'{k:Nat}{x qual:Str}{st:Stmt}{ps:List Str}{S:aJ}{f:z_}{fd:B8}(F:Fun K x qual st f fd)(m:mg x=ae (.ref f))(b:Binds K fd ps [])(h:FnOk P w K mg base b6 k f fd ps (dy S)):Has P w K mg base k x ps S:=⟨f,fd,h,b,m,F.kp⟩
end
theorem EH{X:Cx}{e:Expr}{es:List Expr}{pos p:Pos}{tR:TA}{wR:cY}{k:Nat}{ps:List Str}{S:aJ}{x:Str}(h:Has X.prog X.w X.K X.mg X.base k x ps S)(hr:Room k X.A)(hg:Gl X x)
  (ha:DA X (e::es) tR wR) (hdb:(x==("__debug__":Str))=ai:=by decide) (he:Ar (e::es) X.env=(ai,eval e X.env)::Ar es X.env:=by rfl) (p_:(Cp pos (Ar es X.env)).any (·.1)=ai:=by rfl):
  DE X (.Call (.Name x p) (e::es) [] pos) (eL (dy S) [] E0 tR) (aA S wR):=by
 obtain⟨f,g,d,a,b,c⟩:=h.ex;exact Rp d hr hg b c a ha hdb he p_
theorem Kc{cl cells:List (Str×z_)}(h:∀y∈cl,cells.lookup y.1=ae y.2):∀x c,cl.lookup x=ae c->cells.lookup x=ae c:=λx c e=>h _ (qT e)
def bP:aJ:=λws n Q=>match ws with
 |[.tp,.d (.int many)]=>(n < 2 ^ 40/\0 < many/\many < 1073741824)/\∀r:Int,0<=r->r < many->Q (.d (.int r)) (n+1)
 |_=>False
section
variable{P:Bb}{w:Bj}{K:Ag}{mg:Str->Option Af}{base:Heap}
theorem Qd{k:Nat}{f:z_}{fd:B8}{ps:List Str}(h:FnOk P w K mg base b6 k f fd ps z0):FnOk P w K mg base b6 k f fd ps (dy bP):=h.imp λvs H Q E s=>by
 obtain⟨t,l,c,B,z,n,A,T,x,y,r,q,m⟩:=s;unfold bP at q
 split at q
 ·rename_i a;cases r with
  |cons o p=>
   cases p with
   |cons v b=>
    cases b;cases(o);cases(show RdX H B _ (.int a)from v);exact⟨t,l,c,n,_,rfl,T,q.1.1,q.1.2.1,q.1.2.2,λr g d e i j=>m _ _ (q.2 r d e) _ g i j (.int r)⟩
 ·exact q.elim
def spLaw(K:Ag):Sp:=λvs H Q _=>∃(a:z_)(ns:List Int),vs=[.ref a]/\SqL K H a (ns.map V.int)/\ns.length<=63/\∀H',Q (.bl ah) H'
def rk:DEnds:={ nx:=λ_ _=>False,rt:=λw _=>w=.d (.bool ah)}
theorem Qm{H:Hp}{t:z_}{l:TL}{ns:List Int}{a:V}{k:Nat}(T:Tp H t l ns 0):Rel ⟨t,l,ns,H,λb=>b=t,λ_=>af⟩ H (λb=>b=t) (ae a::ae (.ref t)::C5 k af) (af::ae (.w .tp)::C5 k af) 0 where
 tp:=T
 kp:=Kp.refl _ _
 t0:=by
  obtain⟨_,_,h,_⟩:=T.ob;show H t≠af;rw[h];simp
 l0:=by
  show H l.s≠af;rw[T.ls];simp
 g0:=λe=>by
  show H l.g≠af;rw[T.ag e];simp
 fz:=λb o e=>nomatch e
 bt:=rfl
 b0:=λ_ z=>z
 ba:=λb z=>by
  obtain⟨_,_,h,_⟩:=T.ob;rw[z,h];simp
 a0:=λb z=>by
  obtain⟨_,_,h,_⟩:=T.ob;show H b≠af;rw[z,h];simp
 sl:=λi x e=>by
  rcases i with _|_|i
  ·cases e
  ·cases e;exact⟨_,rfl,rfl,λz=>by cases z⟩
  ·have c:(C5 k _)[i]?=ae (ae x):=e;rw[Eg]at c
   split at c
   ·cases c
   ·cases c
 ow:=λi j x y v d p f q n m=>by
  rcases i with _|_|i
  ·cases d
  ·cases d;cases f
  ·have c:(C5 k _)[i]?=ae (ae x):=d;rw[Eg]at c
   split at c
   ·cases c
   ·cases c
 len:=by simp
end
end DL
local macro_rules|`(⇑$n:num)=>`(DL.wC (.int $n))
local macro_rules|`(↥$n:num)=>`(DL.aj $n)
namespace Nb
open PySem L2 DL
def QP(c:Nat):Bool:=!decide ([c] < ("a":Str).cps.toList)&&!decide (("z":Str).cps.toList < [c])
def mN(k:Int):Ad->Bool
 |.str x=>decide ((1:Int)<=(x.length:Int))&&(decide ((x.length:Int)<=k)&&x.cps.toList.all QP)
 |_=>ai
def TJ:Ad->Bool
 |.int _=>ah
 |_=>ai
theorem vR{w:DT}{Q:List Ad->Int->Prop}{aC:Sl}(P:Ad->Prop)(f:Ad->Ad)(h:∀d n Q',P d->Q' (.d (f d)) n->w (↑d::aC) n Q'):∀(items i':List Ad)(x:Option SV)(n:Int),(∀d∈items,P d)->Q (i'++items.map f) n->dg (aG 0) bB w Q items i' (x::aC) n
 |[],i',x,n,a,q=>by
  rw[E9,Bh]at q;exact q
 |d::r,i',x,n,a,q=>by
  refine h d n _ (a d Ap) (vR P f h r _ _ n (λe b=>a e (Ak _ b)) ?_);rw[Bk];exact q
theorem pU{c:b3}{w:DT}{Q:List Ad->Int->Prop}{aC:Sl}(P:Ad->Prop)(p:Ad->Bool)(f:Ad->Ad)(hp:∀d n Q',P d->Q' (p d) n->c (↑d::aC) n Q')(h:∀d n Q',P d->Q' (.d (f d)) n->w (↑d::aC) n Q'):
  ∀(items i':List Ad)(x:Option SV)(n:Int),(∀d∈items,P d)->Q (i'++(items.filter p).map f) n->dg (aG 0) c w Q items i' (x::aC) n
 |[],i',x,n,a,q=>by
  rw[List.filter_nil,E9,Bh]at q;exact q
 |d::r,i',x,n,a,q=>by
  refine hp d n _ (a d Ap) ?_;cases e:p d with
  |true=>
   refine h d n _ (a d Ap) (pU P p f hp h r _ _ n (λe b=>a e (Ak _ b)) ?_);rw[List.filter_cons_of_pos e]at q;rw[Bk];exact q
  |false=>
   refine pU P p f hp h r i' _ n (λe b=>a e (Ak _ b)) ?_;simp_all
def okD:Ad->Bool
 |.str y=>!decide (y.cps.toList < ("a":Str).cps.toList)&&!decide (("z":Str).cps.toList < y.cps.toList)
 |_=>ai
theorem tM{α:Type}(f:α->Bool):∀l:List α,ir (l.map λa=>.bool (f a))=ae (l.map f)
 |[]=>rfl
 |a::r=>by
  show(ir _).map _=_;rw[tM f r];rfl
theorem y3{α:Type}{xs:List α}{r:Int}(h0:0<=r)(h1:r < xs.length):∃v,cX xs r=ae v/\v∈xs:=by
 obtain⟨j,rfl⟩:=Int.eq_ofNat_of_zero_le h0;have a:j < xs.length:=by omega
 exact⟨_,eH (Ah a),Ck a⟩
theorem qG(d:Ad):gW "str" d=match d with|.str _=>ah|_=>ai:=by cases d<;>rfl
theorem TH(d:Ad):gW "list" d=match d with|.list _=>ah|_=>ai:=by cases d<;>rfl
theorem mS{b:Bool}{A B:Prop}(h1:b=ah->A)(h2:b=ai->B):if b=ah then A else B:=by
 cases b with
 |true=>rw[a' rfl];exact h1 rfl
 |false=>rw[a_ A3];exact h2 rfl
end Nb
namespace DL
open PySem L2 Nb
section
variable{X:Cx}{tg a b c e:Expr}{ta tb tc te:TE}{wa wb wc we:DT}{pos p:Pos}{K:Ag}
theorem Q9(ha:DE X a ta wa)(hb:DE X b tb wb)(hK:X.K=K:=by rfl)(hs:qu b:=by exact λ_ _=>rfl):DE X (.Subscript a b pos) (dt (jH K) ta tb) (w2 wa wb av):=by subst hK;exact t5 ha hb hs
def sf(K:Ag)(T:String):List V->Hp->VK->Prop:=λxs H Q=>∃x t b,xs=[x,.ty T]/\TyOf K H x t/\PySem.W.kitOne K t (.type T)=ae b/\Q (.bl b) H
theorem GH{T:String}{x:Str}{p p2:Pos}(hT:T="int"\/T="bool"\/T="str"\/T="tuple"\/T="list")(hg:Gl X "isinstance")(hm:X.mg "isinstance"=af)(hg2:Gl X x)(hm2:X.mg x=af)(hv:Bm x=ae (.type T))(ha:DE X a ta wa)(hK:X.K=K:=by rfl)(hn:x≠"__name__":=by decide)(hdb:(x==("__debug__":Str))=ai:=by decide)
  (he:Ar [a,.Name x p2] X.env=(ai,eval a X.env)::Ar [.Name x p2] X.env:=by rfl) (he2:Ar [.Name x p2] X.env=(ai,eval (.Name x p2) X.env)::Ar [] X.env:=by rfl) (p_:(Cp pos (Ar [.Name x p2] X.env)).any (·.1)=ai:=by rfl):
  DE X (.Call (.Name "isinstance" p) [a,.Name x p2] [] pos) (fk (sf K T) (bJ ta (bJ (tC (.ty T)) bf))) (bU T wa):=by subst hK;exact Q6 hT hg hm hg2 hm2 hv ha hn hdb he he2 p_
def j5(K:Ag):R2:=λx y H Q=>p8 x y H Q\/rq x y H Q\/q7 K x y H Q
theorem pO(hu:X.A.units < C9)(hK:X.K=K:=by rfl):OpR X (Bv .Eq) (j5 K):=by subst hK;exact QU hu
theorem pA:bh (j5 K) aX:=Ox
theorem qp(hK:X.K=K:=by rfl):OpR X (Bv .In) (gE K ai):=by subst hK;exact O7
theorem qZ(hK:X.K=K:=by rfl):OpR X (Bv .NotIn) (gE K ah):=by subst hK;exact Qg
def sy(K:Ag):List V->Hp->VK->Prop:=λxs H Q=>(∃z,xs=[.str z]/\z.length<=Aw/\Q (.int z.length) H)\/∃p ys,xs=[.ref p]/\(SqL K H p ys\/SqT K H p ys)/\Q (.int ys.length) H
theorem vc(hK:X.K=K:=by rfl):CallR X (.builtin "len") (sy K):=by subst hK;exact ID
theorem sj:cP (sy K) a9:=Rt
def vm(K:Ag):List V->Hp->VK->Prop:=λxs H Q=>∃a d,xs=[.ref a]/\RdD K H (.ref a) d/\Small d/\Q (.str d.shown) H
theorem Me(hg:X.A.guards=ae [])(hu:X.A.units+64 < C9)(hK:X.K=K:=by rfl):CallR X (.builtin "repr") (vm K):=by subst hK;exact GJ hg hu
theorem Jp:cP (vm K) qr:=GZ
def vC(K:Ag):List V->Hp->VK->Prop:=λxs H Q=>∃p ys,xs=[.ref p]/\((SqL K H p ys/\∀l,H l=af->Q (.ref l) (upd H l (.tup ys)))\/(SqT K H p ys/\Q (.ref p) H))
theorem w6(hK:X.K=K:=by rfl):CallR X (.type "tuple") (vC K):=by subst hK;exact Pt
theorem ER:cP (vC K) eQ:=Qx
def FK(K:Ag):List V->Hp->VK->Prop:=λxs H Q=>∃p ys,xs=[.ref p]/\(SqL K H p ys\/SqT K H p ys)/\∀l,H l=af->Q (.ref l) (upd H l (.lst ys))
theorem I0(hK:X.K=K:=by rfl):CallR X (.type "list") (FK K):=by subst hK;exact Kq
theorem yO(ha:DE X a ta wa)(hK:X.K=K:=by rfl):DI X tg a (oQ K ta) (dY wa):=by subst hK;exact QC ha
theorem N7(ha:DE X a ta wa)(hK:X.K=K:=by rfl):DI X tg a (kU K ta) (c7 wa):=by subst hK;exact Q4 ha
theorem J5{es:List Expr}{k:Nat}{t:fD}{n:Nat}{r:c8}(h:DGs X es t r)(hc:X.calm=ah:=by rfl)(hK:X.K=K:=by rfl)
  (hn:(Cq es X.env).length=n:=by rfl) (hst:(Cq es X.env).findIdx? (·.1)=af:=by rfl):DG X (.Tuple es k pos) (jR K n t) (d4 n r):=by subst hK;exact Mo h hc hn hst
end
end DL
namespace L2
open PySem PySem.Spec PyProof.Rows
theorem xo{X:Cx}{elt tg iter:Expr}{ifs:List Expr}{scope:Et}{cl:List (Str×z_)}{cpos pos pos':Pos}{N:List Str}{fr:List (Option Nat)}{wi:TI}{g:TG}{tt:TT}{te:TE}{i:Nat}{x:Str}
  (hN:X.N.Nodup) (hix:X.N[i]?=ae x) (hx:X.env.scope.names.lookup x=ae .local)
  (hc:X.calm=ah) (S:CompSc X N scope cl fr) (hi:PI X tg iter wi) (hg:∀s H fp,PG (cW X N scope cl s H fp) tg g) (ht:∀s H fp,lp (cW X N scope cl s H fp) ifs tt)
  (he:∀s H fp,PE (cW X N scope cl s H fp) elt te) (hs:∀x,Dx iter X.env x=pure x:=by intro _;rfl)
  (hsw:Ci (.ListComp elt [⟨tg,iter,ifs,0⟩] scope cpos) (ae (.Name x pos')) pos.line X.env=pure ah:=by rfl):
  PS X (.Assign [.Name x pos'] (.ListComp elt [⟨tg,iter,ifs,0⟩] scope cpos) pos) (bz (lr fr wi g tt te) (df i)):=by
 intro k s σ H D I h;rw[exec_Assign_Name_used _ _ _ _ hsw];refine Aa (wpAny_standAt (Aa (Aa ?_)));have O:∀(u:Unit) p,SP X k D .next p->A6 (A9 X.prog X.w) X.A _ _ X.xe p:=λ_ p z=>Ai z
 refine aO (xW hc S hi hg ht he hs I h λ{fp m s6 H3 F τ a U} E R K qn Y=>?_) λ_ p z=>Ai (Ai z);have r:F m.heap.objs.size=af:=K.free;obtain⟨_,M,_,c3,J,W⟩:=E.fpOk (Ao _) r;refine wpAny_assign_Name (xQ (zz E R K (Heap.SameBut.refl _ _)) hN hix (.inl hx) (show RelV (.ref a) (Cf a)from rfl) (λs7 y f=>?_) (.inr hx));obtain⟨L,f,t⟩:=f;have B:m.heap.objs.size≠L:=by
  rcases t with z|z
  ·rw[z];omega
  ·exact λq=>J x L z q.symm
 obtain⟨oo,Z,ep,T,Q⟩:=Y;refine⟨U,⟨oo,Z,ep,(f.2 _ B).trans T,Q⟩,λh' d=>⟨_,F,?_,qn⟩⟩;have C:∀b,b∉[m.heap.objs.size]->b≠m.heap.objs.size:=λb z q=>z (by rw[q];simp);have l:=λb o e=>by
  refine(y.hok b o e).stay (λc v hc z=>(d.2 c ?_).trans z) (λ_ z=>z) λ_ _ z=>z
  rintro rfl
  rcases hc with z|z
  ·rw[<-z,r]at e;cases e
  ·rw[r]at z;cases z
 refine y.call' (ch:=[m.heap.objs.size]) rfl ?_ l y.bare λb P=>?_
 ·exact⟨λb o e n V j=>(d.2 b (C b j)).trans e,λb o e n V j=>⟨_,(d.2 b (C b j)).trans e⟩,λb o e n j=>n,λb o e j=>⟨o,(d.2 b (C b j)).trans e⟩,λ_ _ z=>z,λ_ _ _ z=>z,λb ps z=>⟨#[],z⟩⟩
 ·cases A2.mp P;exact⟨c3,M,J,W⟩
end L2
namespace DL
open PySem L2 Nb
section
variable{X:Cx}{elt tg iter:Expr}{ifs:List Expr}{scope:Et}{cl:List (Str×z_)}{cpos pos pos':Pos}{N:List Str}{fr:List (Option Nat)}{wi:TI}{v:fW}{g:TG}{gd:dE}{tt:TT}{cc:b3}{te:TE}{we:DT}{i:Nat}{x:Str}
theorem RU{t:TE}{w:d6}(h:jf t w):iF (bz t (df i)) (bx i w):=λC H B σ δ n K D R q E=>
 h C H B σ δ n _ _ R q λa j o l m g k b c d e f=>by
  refine E.nx _ _ _ _ _ (R.own g k b (by rw[c];simp) rfl ?_) f;exact⟨a,j,rfl,c,.inr rfl,R.h0 b,d,e⟩
theorem JB{t:TE}{w:DT}(h:dG t w):iF (bz t (df i)) (ax i w):=λC H B σ δ n K D R q E=>
 h C H B σ δ n _ _ R q λv x f g b _ c a=>by
  cases x with
  |d d=>exact E.nx _ _ _ _ _ (b.set c rfl) a
  |tp=>exact E.nx _ _ _ _ _ (b.set c rfl) a
  |dk _=>exact a.elim
  |dx _=>exact a.elim
  |ln _=>exact a.elim
  |ob _=>exact E.nx _ _ _ _ _ (b.set c rfl) a
theorem JH(hN:X.N.Nodup)(hix:X.N[i]?=ae x)(hx:X.env.scope.names.lookup x=ae .local)(hc:X.calm=ah)(S:CompSc X N scope cl fr)(hi:DI X tg iter wi v)(hg:∀s H fp,DG (cW X N scope cl s H fp) tg g gd)(ht:∀s H fp,DIf (cW X N scope cl s H fp) ifs tt cc)
  (he:∀s H fp,DE (cW X N scope cl s H fp) elt te we) (hno:kA gd) (hs:∀x,Dx iter X.env x=pure x:=by intro _;rfl)
  (hsw:Ci (.ListComp elt [⟨tg,iter,ifs,0⟩] scope cpos) (ae (.Name x pos')) pos.line X.env=pure ah:=by rfl):
  DS X (.Assign [.Name x pos'] (.ListComp elt [⟨tg,iter,ifs,0⟩] scope cpos) pos) (bz (lr fr wi g tt te) (df i)) (bx i (bY fr v gd cc we)):=
 ⟨xo hN hix hx hc S hi.pi (λs H fp=>(hg s H fp).pg) (λs H fp=>(ht s H fp).pf) (λs H fp=>(he s H fp).pe) hs hsw,RU (uO (pos:=cpos) hc S hi hg ht he hno hs).sd⟩
theorem GA(hN:X.N.Nodup)(hix:X.N[i]?=ae x)(hx:X.env.scope.names.lookup x=ae .local)(hc:X.calm=ah)(S:CompSc X N scope cl fr)(hi:DI X tg iter wi v)(hg:∀s H fp,DG (cW X N scope cl s H fp) tg g gd)(ht:∀s H fp,DIf (cW X N scope cl s H fp) ifs tt cc)
  (he:∀s H fp,DE (cW X N scope cl s H fp) elt te we) (hno:kA gd) (hs:∀x,Dx iter X.env x=pure x:=by intro _;rfl)
  (hsw:Ci (.ListComp elt [⟨tg,iter,ifs,0⟩] scope cpos) (ae (.Name x pos')) pos.line X.env=pure ah:=by rfl):
  DS X (.Assign [.Name x pos'] (.ListComp elt [⟨tg,iter,ifs,0⟩] scope cpos) pos) (bz (lr fr wi g tt te) (df i)) (ax i (aZ (bY fr v gd cc we))):=
 ⟨xo hN hix hx hc S hi.pi (λs H fp=>(hg s H fp).pg) (λs H fp=>(ht s H fp).pf) (λs H fp=>(he s H fp).pe) hs hsw,JB (uO (pos:=cpos) hc S hi hg ht he hno hs).d.sd⟩
end
end DL
namespace KS
open PySem PySem.W PyProof.Rows
def run{α:Type}(c:Nat->Nat->Bool):KasT α->α
 |.ret a=>a
 |.ask i j k=>run c (k (c i j))
theorem lX{α β:Type}(c:Nat->Nat->Bool)(f:α->KasT β):∀t:KasT α,run c (t.bind f)=run c (f (run c t))
 |.ret _=>rfl
 |.ask i j k=>lX c f (k _)
def Wi{α:Type}(n:Nat)(P:α->Prop):KasT α->Prop
 |.ret a=>P a
 |.ask i j k=>i < n/\j < n/\∀b,Wi n P (k b)
theorem Wi.bind{α β:Type}{n:Nat}{P:α->Prop}{R:β->Prop}{f:α->KasT β}(hf:∀a,P a->Wi n R (f a)):∀{t:KasT α},Wi n P t->Wi n R (t.bind f)
 |.ret a,h=>hf a h
 |.ask i j k,h=>⟨h.1,h.2.1,λb=>Wi.bind hf (h.2.2 b)⟩
theorem Wi.out{α:Type}{n:Nat}{P:α->Prop}(c:Nat->Nat->Bool):∀{t:KasT α},Wi n P t->P (run c t)
 |.ret a,h=>h
 |.ask i j k,h=>Wi.out c (t:=k _) (h.2.2 _)
theorem wp_run{α:Type}{n:Nat}{P:α->Prop}{cmp:Nat->Nat->(Bool->Aj->Prop)->Aj->Prop}{c:Nat->Nat->Bool}{St:Aj->Prop}{Q:α->Aj->Prop}
  (hc:∀i j C s,i < n->j < n->St s->(∀s',St s'->C (c i j) s')->cmp i j C s):∀(t:KasT α)(s:Aj),Wi n P t->St s->(∀s',St s'->Q (run c t) s')->t.kasWp cmp Q s
 |.ret a,s,_,d,h=>h s d
 |.ask i j k,s,w,d,h=>hc i j _ s w.1 w.2.1 d λs' b=>wp_run hc _ s' (w.2.2 _) b h
def Lo(n:Nat)(p:Array Nat):Prop:=∀i,p.getD i 0 < n
theorem jB(p:Array Nat)(i:Nat):p.getD i 0=(p[i]?).getD 0:=by simp
theorem LO{n:Nat}{p:Array Nat}(hn:0 < n)(h:∀x∈p,x < n):Lo n p:=λi=>by
 rw[jB];cases e:p[i]? with
 |none=>exact hn
 |some x=>exact h x (Array.mem_of_getElem? e)
def Pm(n:Nat)(p:Array Nat):Prop:=p.Perm (Eo (A8 n))
theorem Pm.size{n:Nat}{p:Array Nat}(h:Pm n p):p.size=n:=by rw[Array.Perm.size_eq h];simp
theorem Pm.lo{n:Nat}{p:Array Nat}(hn:0 < n)(h:Pm n p):Lo n p:=LO hn λx a=>by
 have:=(Array.Perm.mem_iff h).mp a;simpa using this
theorem Pm.rev{n:Nat}{p:Array Nat}(h:Pm n p)(i j:Nat):Pm n (kas_rev p i j):=(mirror_perm p i j _).trans h
theorem Pm.bub{n:Nat}{p:Array Nat}(h:Pm n p)(i j:Nat):Pm n (bubble p i j):=(bubble_perm p i j).trans h
section
variable{n:Nat}(hn:0 < n)
include hn
theorem sh{p:Array Nat}(h:Lo n p):∀f m,Wi n (λ_=>True) (kas_asc p f m)
 |0,m=>trivial
 |f+1,m=>⟨h _,h _,λb=>by
  cases b with
  |true=>exact trivial
  |false=>exact sh h f _⟩
theorem qQ:∀f (p:Array Nat) m q,Pm n p->Wi n (λr=>Pm n r.1) (kas_desc f p m q)
 |0,p,m,q,h=>h
 |f+1,p,m,q,h=>⟨h.lo hn _,h.lo hn _,λb=>by
  cases b with
  |true=>
   show Wi n _ (if q > 0 then _ else _)
   split
   ·exact qQ f _ _ _ (h.rev _ _)
   ·exact qQ f _ _ _ h
  |false=>exact⟨h.lo hn _,h.lo hn _,λd=>by
    cases d with
    |true=>exact h
    |false=>exact qQ f _ _ _ h⟩⟩
theorem CG(m nrem:Nat){p:Array Nat}(h:Pm n p):Wi n (λr=>Pm n r.2) (kas_tail3 m nrem p):=by
 refine Wi.bind (λa _=>?_) (sh hn ((h.rev 0 m).lo hn) _ _);exact h.rev _ _
theorem yT(m nrem:Nat){p:Array Nat}(h:Pm n p):Wi n (λr=>Pm n r.2) (kas_descPart m nrem p):=
 Wi.bind (λr a=>by
  split
  ·exact CG hn _ _ (Pm.rev a _ _)
  ·exact CG hn _ _ a) (qQ hn _ p _ _ h)
theorem HY(nrem:Nat){p:Array Nat}(h:Pm n p):Wi n (λr=>Pm n r.2) (kas_count nrem p):=
 Wi.bind (λm _=>by
  split
  ·exact h
  ·split
   ·exact⟨h.lo hn _,h.lo hn _,λb=>by
     cases b with
     |true=>exact h
     |false=>exact yT hn _ _ (h.rev _ _)⟩
   ·exact yT hn _ _ h) (sh hn (h.lo hn) _ _)
theorem ur{p:Array Nat}(h:Lo n p)(k:Nat):∀f l r,Wi n (λ_=>True) (kas_place p k f l r)
 |0,l,r=>trivial
 |f+1,l,r=>by
  show Wi n _ (if l ≥ r then _ else _)
  split
  ·exact trivial
  ·exact⟨h _,h _,λb=>by
    cases b with
    |true=>exact ur h k f _ _
    |false=>exact ur h k f _ _⟩
theorem BQ:∀f (p:Array Nat) k,Pm n p->Wi n (Pm n) (kas_bin f p k)
 |0,p,k,h=>h
 |f+1,p,k,h=>Wi.bind (λl _=>BQ f _ _ (h.bub _ _)) (ur hn (h.lo hn) k _ _ _)
theorem wi_sort:Wi n (Pm n) (kas_sort n):=
 Wi.bind (λr a=>by
  split
  ·exact BQ hn _ _ _ a
  ·exact a) (HY hn n (Array.Perm.refl _))
end
structure Ord(lt:Nat->Nat->Bool):Prop where
 asym:∀i j,lt i j=ah->lt j i=ai
 ltr:∀i j k,lt j i=ai->lt k j=ai->lt k i=ai
section
variable{lt:Nat->Nat->Bool}(O:Ord lt)
def g(p:Array Nat)(i:Nat):Nat:=p.getD i 0
def SP(lt:Nat->Nat->Bool)(p:Array Nat)(n:Nat):Prop:=∀i j,i < j->j < n->lt (g p j) (g p i)=ai
def DP(lt:Nat->Nat->Bool)(p:Array Nat)(n:Nat):Prop:=∀i j,i < j->j < n->lt (g p i) (g p j)=ai
def Sim(lt:Nat->Nat->Bool)(x y:Nat):Prop:=lt x y=ai/\lt y x=ai
include O
theorem gw(i:Nat):lt i i=ai:=by
 cases e:lt i i with
 |false=>rfl
 |true=>exact(O.asym i i e).symm.trans e |>.symm▸rfl
theorem Sim.eq{a b x y:Nat}(h1:Sim lt a x)(h2:Sim lt b y):lt a b=lt x y:=by
 cases e:lt x y with
 |false=>exact O.ltr _ _ _ h2.2 (O.ltr _ _ _ e h1.1)
 |true=>
  cases c:lt a b with
  |true=>rfl
  |false=>
   have:=O.ltr _ _ _ h2.1 (O.ltr _ _ _ c h1.2);rw[this]at e;cases e
theorem SP.snoc{p:Array Nat}{n:Nat}(h:SP lt p n)(h1:1<=n)(e:lt (g p n) (g p (n-1))=ai):SP lt p (n+1):=λi j a b=>by
 by_cases q:j < n
 ·exact h i j a q
 ·have:j=n:=by omega
  subst this;by_cases r:i=j-1
  ·subst r;exact e
  ·exact O.ltr _ _ _ (h i _ ⋯ ⋯) e
theorem tL{p:Array Nat}:∀f n,1<=n->SP lt p n->n<=run lt (kas_asc p f n)/\run lt (kas_asc p f n)<=n+f/\SP lt p (run lt (kas_asc p f n))/\(run lt (kas_asc p f n)=n+f\/lt (g p (run lt (kas_asc p f n))) (g p (run lt (kas_asc p f n)-1))=ah)
 |0,n,a,h=>⟨Ao _,Ao _,h,.inl rfl⟩
 |f+1,n,a,h=>by
  have e:run lt (kas_asc p (f+1) n)=run lt (if lt (g p n) (g p _)=ah then .ret n else kas_asc p f _):=rfl;rw[e];cases q:lt _ (g p _)with
  |true=>exact⟨Ao _,Nat.le_add_right _ _,h,.inr q⟩
  |false=>
   rw[a_ A3];obtain⟨i,d,b,c⟩:=tL f _ ⋯ (SP.snoc O h a q);exact⟨by omega,by omega,b,c.imp (λz=>by omega) id⟩
omit O
theorem tU{p:Array Nat}{i j:Nat}(hj:j<=p.size)(k:Nat):g (kas_rev p i j) k=if i<=k/\k < j then g p (i+j-1-k)else g p k:=by
 unfold g kas_rev;rw[jB,jB,jB,getElem?_mirror hj _ ⋯];by_cases h:i<=k/\k < j
 ·rw[a' h];by_cases q:(i<=k/\k < i+(j-i) / 2)\/(j-(j-i) / 2<=k/\k < j)
  ·rw[a' q]
  ·rw[a_ q];have:i+j-1-k=k:=by omega
   rw[this]
 ·rw[a_ h,a_ ⋯]
include O
theorem vg{p:Array Nat}{i j:Nat}(hj:j<=p.size)(h:∀a b,i<=a->a < j->i<=b->b < j->Sim lt (g p a) (g p b))(k:Nat):Sim lt (g (kas_rev p i j) k) (g p k):=by
 rw[tU hj]
 split
 ·rename_i q;grind
 ·exact⟨gw O _,gw O _⟩
theorem DP.sim{p p':Array Nat}{n:Nat}(h:DP lt p n)(s:∀k,Sim lt (g p' k) (g p k)):DP lt p' n:=λi j a b=>(Sim.eq O (s i) (s j)).trans (h i j a b)
theorem DP.snoc{p:Array Nat}{n:Nat}(h:DP lt p n)(h1:1<=n)(e:lt (g p (n-1)) (g p n)=ai):DP lt p (n+1):=λi j a b=>by
 by_cases q:j < n
 ·exact h i j a q
 ·have:j=n:=by omega
  subst this;by_cases r:i=j-1
  ·subst r;exact e
  ·exact O.ltr _ _ _ e (h i _ ⋯ ⋯)
omit O
def sX(lt:Nat->Nat->Bool)(sz n f:Nat)(r:Array Nat×Nat×Nat):Prop:=
 r.1.size=sz/\n<=r.2.1/\r.2.1<=n+f/\r.2.2+1<=r.2.1/\DP lt r.1 r.2.1/\(∀a b,r.2.1-(r.2.2+1)<=a->a < r.2.1->r.2.1-(r.2.2+1)<=b->b < r.2.1->Sim lt (g r.1 a) (g r.1 b))
def iW(lt:Nat->Nat->Bool)(sz nrem:Nat)(r:Nat×Array Nat):Prop:=r.2.size=sz/\1<=r.1/\r.1<=nrem/\SP lt r.2 r.1
def tN(lt:Nat->Nat->Bool)(p:Array Nat)(k m:Nat):Prop:=m<=k/\(∀i,i < m->lt (g p k) (g p i)=ai)/\(∀i,m<=i->i < k->lt (g p k) (g p i)=ah)
include O
theorem qV:∀f (p:Array Nat) n q,q+1<=n->n+f<=p.size->DP lt p n->(∀a b,n-(q+1)<=a->a < n->n-(q+1)<=b->b < n->Sim lt (g p a) (g p b))->
  sX lt p.size n f (run lt (kas_desc f p n q))
 |0,p,n,q,A,K,c,j=>⟨rfl,Ao _,Ao _,A,c,j⟩
 |f+1,p,n,q,A,K,c,j=>by
  have o:∀F m a b,m+1-(0+1)<=a->a < m+1->m+1-(0+1)<=b->b < m+1->Sim lt (g F a) (g F b):=λp' m a b J k E l=>by
   have R:a=m:=by omega
   have P:b=m:=by omega
   rw[R,P];exact⟨gw O _,gw O _⟩
  show sX lt p.size n _ (run lt (if lt (g p n) (g p _)=ah then(if q > 0 then kas_desc f _ _ 0 else kas_desc f p _ 0)else .ask _ _ λd=>if d=ah then .ret (p,n,q)else kas_desc f p _ _));cases w:lt _ (g p _)with
  |true=>
   rw[a' rfl];by_cases C:q > 0
   ·rw[a' C];have M:=DP.sim O (DP.snoc O c ⋯ (O.asym _ _ w)) (vg O ⋯ j);have Q:(kas_rev p (n-(q+1)) n).size=p.size:=mirror_size _ _ _ _;obtain⟨u,G,B,r,t,v⟩:=qV f _ _ 0 ⋯ ⋯ M (o _ n);exact⟨u.trans Q,by omega,by omega,r,t,v⟩
   ·rw[a_ C];obtain⟨u,G,B,r,t,v⟩:=qV f p _ 0 ⋯ ⋯ (DP.snoc O c ⋯ (O.asym _ _ w)) (o _ n);exact⟨u,by omega,by omega,r,t,v⟩
  |false=>
   show sX lt p.size n _ (run lt (if lt (g p _) (g p n)=ah then .ret (p,n,q)else kas_desc f p _ _));cases D:lt _ (g p n)with
   |true=>exact⟨rfl,Ao _,by show n<=n+(f+1);omega,A,c,j⟩
   |false=>
    rw[a_ A3];have T:Sim lt _ (g p _):=⟨w,D⟩;have N:∀{x y z:Nat},Sim lt x y->Sim lt y z->Sim lt x z:=λh H=>⟨O.ltr _ _ _ H.1 h.1,O.ltr _ _ _ h.2 H.2⟩;obtain⟨u,G,B,r,t,v⟩:=qV f p _ (q+1) ⋯ ⋯ (DP.snoc O c ⋯ D) (λa b J k E l=>by
     have i:∀x,n+1-(q+1+1)<=x->x < n+1->Sim lt _ (g p (n-1)):=λx S L=>by
      by_cases e:x=n
      ·rw[e];omega
      ·exact j x _ ⋯ ⋯ ⋯ ⋯
     have I:=i b E l;exact N (i a J k) ⟨I.2,I.1⟩)
    exact⟨u,by omega,by omega,r,t,v⟩
theorem BO{p:Array Nat}{n nrem:Nat}(h1:1<=n)(hn:n<=nrem)(hz:nrem<=p.size)(h:DP lt p n):iW lt p.size nrem (run lt (kas_tail3 n nrem p)):=by
 unfold kas_tail3;rw[lX];have e:(kas_rev p 0 n).size=p.size:=mirror_size _ _ _ _;have c:SP lt (kas_rev p 0 n) n:=λi j d f=>by
  rw[tU ⋯,tU ⋯,a' ⟨Az _,f⟩,a' ⟨Az _,by omega⟩];exact h _ _ ⋯ ⋯
 obtain⟨l,g,b,_⟩:=tL O _ n h1 c;exact⟨e,by show 1<=run lt _;omega,by show run lt _<=nrem;omega,b⟩
theorem zg{p:Array Nat}{n nrem:Nat}(h1:1<=n)(hn:n+1<=nrem)(hz:nrem<=p.size)(h:DP lt p (n+1)):iW lt p.size nrem (run lt (kas_descPart n nrem p)):=by
 unfold kas_descPart;rw[lX];obtain⟨g,t,k,o,f,j⟩:=qV O (nrem-(n+1)) p _ 0 ⋯ ⋯ h (λa b w l v m=>by
  have u:a=n:=by omega
  have q:b=n:=by omega
  rw[u,q];exact⟨gw O _,gw O _⟩)
 generalize run lt _=r at g t k o f j;by_cases i:r.2.2 > 0
 ·rw[a' i];have s:(kas_rev r.1 (r.2.1-(r.2.2+1)) r.2.1).size=r.1.size:=mirror_size _ _ _ _;obtain⟨e,d⟩:=BO O (nrem:=nrem) ⋯ ⋯ ⋯ (DP.sim O f (vg O ⋯ j));exact⟨e.trans (s.trans g),d⟩
 ·rw[a_ i];obtain⟨e,d⟩:=BO O (nrem:=nrem) ⋯ ⋯ ⋯ f;exact⟨e.trans g,d⟩
theorem J4{p:Array Nat}{nrem:Nat}(h1:1<=nrem)(hz:nrem<=p.size):iW lt p.size nrem (run lt (kas_count nrem p)):=by
 unfold kas_count;rw[lX];obtain⟨n,B,d,h⟩:=tL O _ 1 (Ao _) (λi j l r=>by omega);generalize run lt _=m at n B d h;by_cases q:(m==nrem)=ah
 ·rw[a' q];exact⟨rfl,n,by show m<=nrem;omega,d⟩
 ·rw[a_ q];have D:m≠nrem:=λz=>q (by rw[z];simp);have h:=h.resolve_left ⋯;by_cases f:m > 1
  ·rw[a' f];show iW lt p.size nrem (run lt (if lt (g p 0) (g p _)=ah then .ret (m,p)else kas_descPart m nrem _));cases c:lt _ (g p _)with
   |true=>exact⟨rfl,n,by show m<=nrem;omega,d⟩
   |false=>
    have A:(kas_rev p 0 m).size=p.size:=mirror_size _ _ _ _;have s:∀a b,a < m->b < m->lt (g p b) (g p a)=ai:=λa b u o=>by
     simp_all
     have y:lt (g p (m-1)) (g p b)=ai:=by
      by_cases z:b=m-1
      ·rw[z];exact gw O _
      ·exact d b _ ⋯ ⋯
     have v:lt (g p b) (g p 0)=ai:=by
      by_cases z:b=0
      ·rw[z];exact gw O _
      ·exact d 0 b ⋯ o
     have C:lt _ (g p a)=ai:=O.ltr _ _ _ (by
      by_cases z:a=m-1
      ·rw[z];exact gw O _
      ·exact d a _ ⋯ ⋯) c
     exact O.ltr _ _ _ C v
    have t:∀a b,0<=a->a < m->0<=b->b < m->Sim lt _ (g p b):=λa b _ u _ o=>⟨s b a o u,s a b u o⟩;obtain⟨x,w⟩:=zg O (nrem:=nrem) n ⋯ (by simp_all) (DP.sim O (DP.snoc O (λi j l r=>s j i r ⋯) n (O.asym _ _ h)) (vg O ⋯ t));exact⟨x.trans A,w⟩
  ·rw[a_ f];have e:m=1:=by omega
   subst e;exact zg O (Ao _) ⋯ hz (DP.snoc O (λi j l r=>by omega) (Ao _) (O.asym _ _ h))
theorem tT{p:Array Nat}{k:Nat}(h:SP lt p k):∀f l r,l<=r->r<=k->r-l<=f->(∀i,i < l->lt (g p k) (g p i)=ai)->(∀i,r<=i->i < k->lt (g p k) (g p i)=ah)->
  tN lt p k (run lt (kas_place p k f l r))
 |0,l,r,b,m,o,j,d=>by
  have e:l=r:=by omega
  subst e;trivial
 |f+1,l,r,b,m,o,j,d=>by
  show tN lt p k (run lt (if l ≥ r then .ret l else .ask _ _ λc=>if c=ah then kas_place p k f l ((l+r) / 2)else kas_place p k f _ r));by_cases q:l ≥ r
  ·rw[a' q];have e:l=r:=by omega
   subst e;trivial
  ·rw[a_ q];show tN lt p k (run lt (if lt (g p k) (g p _)=ah then kas_place p k f l ((l+r) / 2)else kas_place p k f _ r));cases c:lt _ (g p _)with
   |true=>
    refine tT h f l _ ⋯ ⋯ ⋯ j λi n a=>?_;by_cases e:i=(l+r) / 2
    ·rw[e];exact c
    ·cases z:lt _ (g p i)with
     |true=>rfl
     |false=>
      have:=O.ltr _ _ _ (h ((l+r) / 2) i ⋯ a) z;rw[this]at c;cases c
   |false=>
    refine tT h f _ r ⋯ m ⋯ (λi n=>?_) d;by_cases e:i=(l+r) / 2
    ·rw[e];exact c
    ·exact O.ltr _ _ _ (h i _ ⋯ ⋯) c
omit O
theorem xZ{p:Array Nat}{k l:Nat}(hk:k < p.size)(hl:l<=k)(i:Nat):g (bubble p k (k-l)) i=if i=l then g p k else if l < i/\i<=k then g p (i-1)else g p i:=by
 unfold g;rw[jB,getElem?_bubble hk _ ⋯,jB,jB,jB];have e:k-(k-l)=l:=by omega
 rw[e];by_cases b:i=l
 ·rw[a' b,a' b]
 ·rw[a_ b,a_ b];by_cases a:l < i/\i<=k
  ·rw[a' a,a' a]
  ·rw[a_ a,a_ a]
include O
theorem EB:∀f (p:Array Nat) k,1<=k->k+f<=p.size->SP lt p k->SP lt (run lt (kas_bin f p k)) (k+f)
 |0,p,k,t,u,h=>h
 |f+1,p,k,t,u,h=>by
  show SP lt (run lt ((kas_place p k k 0 k).bind λl=>kas_bin f _ _)) _;rw[lX];obtain⟨c,s,m⟩:=tT O h k 0 k (Az _) (Ao _) ⋯ (λi q=>by omega) (λi q v=>by omega);generalize run lt _=l at c s m;have r:SP lt (bubble p k _) (k+1):=λi j b w=>by
   rw[xZ ⋯ c,xZ ⋯ c];by_cases o:j=l
   ·rw[a' o,a_ ⋯,a_ ⋯];simp_all
   ·rw[a_ o];by_cases n:l < j/\j<=k
    ·rw[a' n];by_cases d:i=l
     ·rw[a' d];exact O.asym _ _ (m _ ⋯ ⋯)
     ·rw[a_ d];by_cases g:l < i/\i<=k
      ·rw[a' g];exact h _ _ ⋯ ⋯
      ·rw[a_ g];exact h i _ ⋯ ⋯
    ·rw[a_ n,a_ ⋯,a_ ⋯];exact h i j b ⋯
  have:=EB f _ _ ⋯ (by rw[bubble_size];omega) r;have e:k+1+f=k+(f+1):=by omega
  rwa [e]at this
theorem sort_ok{n:Nat}(h1:1<=n):SP lt (run lt (kas_sort n)) n:=by
 unfold kas_sort;rw[lX];obtain⟨g,b,c,a⟩:=J4 O (p:=Eo (A8 n)) h1 (by simp);generalize run lt _=r at g b c a;have h:r.2.size=n:=by simp_all
 by_cases q:r.1 < n
 ·rw[a' q];have e:max r.1 1=r.1:=by omega
  rw[e];have:=EB O (n-r.1) r.2 r.1 b ⋯ a;have f:r.1+(n-r.1)=n:=by omega
  rwa [f]at this
 ·rw[a_ q];have e:r.1=n:=by omega
  rw[e]at a;trivial
end
end KS
namespace KS
open PySem PySem.W PySem.Calls PyProof.Rows
section
variable{prog:Bb}{w:Bj}{A:Bt}{E:Af->Aj->Prop}{s:Aj}{a:z_}{vs:List Af}
theorem ls_sort{n:Nat}{P:PySem.Fin->Aj->Prop}(ho:s.heap.get? a=ae (Dq "list" vs.toArray n))(h2:2<=vs.length)(h64:vs.length < 64)
  (h:∀e1 h',h'.get? a=ae (Dq "list" #[] e1)->(∀b o,b≠a->s.heap.get? b=ae o->h'.get? b=ae o)->
   A6 (A9 prog w) A (keyKind' vs.toArray) (λκ s'=>(kas_sort vs.length).kasWp (kas_ask prog w A κ vs)
    (λp s''=>s''.heap.get? a=ae (Dq "list" #[] e1)/\∀h3 c,Cz a s''.heap h3->h3.get? a=ae (Dq "list" (Eo (p.toList.map λi=>vs.getD i B3)) c)->P (.done (.ret .none)) {s'' with heap:=h3}) s') (λ_ _=>False) {s with heap:=h'}):
  A6 (A9 prog w) A (Ep.«list.sort» ⟨[.ref a],[]⟩) P E s:=by
 obtain⟨e1,g⟩:∃e1,(s.heap.update a _).get? a=ae (Dq "list" #[] e1):=⟨_,get?_update_seq ho λ_=>#[]⟩;have t:=h e1 (((s.heap.update a _).push (Dq "tuple" vs.toArray 0)).push (Dq "list" #[] 0)) (Ae _ (Ae _ g))
  λb o B e=>Ae _ (Ae _ (((Bg s.heap a (Ea λ_=>(#[]:Array Af))).2 b B).trans e))
 rw[list_sort_plain];refine Aa (listItems_at ho rfl (Aa (listUpdate_at ho rfl ?_ (by rw[Bd,Ez];omega) (Az _))));refine Aa (seqEpoch_at g rfl (Aa (wpAny_newTuple ?_ (by show vs.length<=_;rw[Ez];omega))));refine Aa (wpAny_newList (B7 ?_) (Az _));have f:¬vs.toArray.size < 2:=by rw[Bd];omega
 rw[a_ f,a_ f];refine Aa (Dc t (λκ G u=>?_) λ_ _ x=>x.elim);refine Aa (Dc (kat_run (Q:=λst' s'=>∃p:Array Nat,p.size=vs.length/\arrOf st'=p.map _/\failedOf st'=af/\s'.heap.get? a=ae _/\∀h3 c,Cz a s'.heap h3->h3.get? a=ae _->P _ {s' with heap:=h3})
  rfl h2 h64 (λp' st' s' F C v z=>⟨p',F,C,v,z⟩) u) ?_ λ_ _ e=>e)
 rintro⟨⟨⟩,st'⟩ s' ⟨p,y,r,D,q,k⟩
 dsimp only;have l:(Eo (p.toList.map λi=>vs.getD i B3)).size=vs.length:=by rw[Bd,Ab,B6,y]
 rw[(kat_snds rfl r)];obtain⟨m,j⟩:∃m,(s'.heap.update a _).get? a=ae (Dq "list" _ m):=⟨_,get?_update_seq q λ_=>Eo _⟩;refine Aa (seqEpoch_at q rfl (Aa (listUpdate_at q rfl ?_ (Az _) (Ba (Nat.le_of_eq l) (by rw[Ez];omega)))));rw[D];simp only[bne_self_eq_false,if_false];exact Ai (k _ m (Bg s'.heap a (Ea λ_=>Eo (p.toList.map λi=>vs.getD i B3))) j)
theorem ls_short{n:Nat}{P:PySem.Fin->Aj->Prop}(ho:s.heap.get? a=ae (Dq "list" vs.toArray n))(h2:vs.length < 2)
  (h:∀h' c,h'.get? a=ae (Dq "list" vs.toArray c)->(∀b o,b≠a->s.heap.get? b=ae o->h'.get? b=ae o)->P (.done (.ret .none)) {s with heap:=h'}):
  A6 (A9 prog w) A (Ep.«list.sort» ⟨[.ref a],[]⟩) P E s:=by
 obtain⟨i,g⟩:∃i,(s.heap.update a _).get? a=ae (Dq "list" #[] i):=⟨_,get?_update_seq ho λ_=>#[]⟩;have d:(((s.heap.update a _).push (Dq "tuple" vs.toArray 0)).push (Dq "list" #[] 0)).get? a=ae (Dq "list" #[] i):=Ae _ (Ae _ g);rw[list_sort_plain];refine Aa (listItems_at ho rfl (Aa (listUpdate_at ho rfl ?_ (by rw[Bd,Ez];omega) (Az _))));refine Aa (seqEpoch_at g rfl (Aa (wpAny_newTuple ?_ (by show vs.length<=_;rw[Ez];omega))));refine Aa (wpAny_newList (B7 ?_) (Az _));dsimp only;have f:vs.toArray.size < 2:=by omega
 rw[a' f,a' f];refine Aa (Ai (Aa (Ai ?_)));dsimp only;refine Aa (seqEpoch_at d rfl (Aa (listUpdate_at d rfl ?_ (hsz2:=by rw[Array.size_map];show(pairsOf vs).size<=_;rw[pairsOf_size,Ez];omega))));simp only[bne_self_eq_false,if_false];have e:=by
  show(vs.toArray.zip vs.toArray).map (·.2)=vs.toArray;apply Gc.mp;simp;exact List.map_snd_zip (Ao _)
 have k:=Bg (((s.heap.update a (Ea λ_=>(#[]:Array Af))).push (Dq "tuple" vs.toArray 0)).push (Dq "list" #[] 0)) a (Ea λ_=>(arrOf (SortSt.mk' general' (vs.toArray.zip vs.toArray) #[] 7 af)).map (·.2));refine Ai (h _ _ (by rw[e];exact get?_update_seq d λ_=>vs.toArray) λb o j q=>(k.2 b j).trans (Ae _ (Ae _ (((Bg s.heap a (Ea λ_=>(#[]:Array Af))).2 b j).trans q))))
theorem sorted_of{r:Af}{Q:Af->Aj->Prop}{R:List Af->Aj->Prop}(hcol:A6 (A9 prog w) A.in1 (collect r) R E s)
  (h:∀vs s1,R vs s1->vs.length<=Aw/\A6 (A9 prog w) A.in1.in1 (Ep.«list.sort» ⟨[.ref s1.heap.objs.size],[]⟩) (λf s2=>f=.done (.ret .none)/\Q (.ref s1.heap.objs.size) s2) E {s1 with heap:=s1.heap.push (Dq "list" vs.toArray 0)}):
  A6 (A9 prog w) A (call (.builtin "sorted") [r]) Q E s:=by
 refine Calls.call_function_entry kind_sorted plain_sorted entry_sorted (args_sorted1 _) (Aa (Ai ?_));refine Aa (Dc hcol (λvs s1 c=>?_) λ_ _ e=>e);obtain⟨b,i⟩:=h vs s1 c;refine Aa (wpAny_newList ?_ b);have a:(s1.heap.push _).get? s1.heap.objs.size=ae (Dq "list" vs.toArray 0):=Av _ rfl;refine Aa (B7 (B2 slot_list_sort ⟨_,a,rfl⟩ entry_list_sort ?body (args_list_sort _)))
 case body=>
  refine Dc i (λf s2 d=>?_) λ_ _ e=>e;obtain⟨rfl,g⟩:=d;exact⟨_,rfl,Ai ⟨_,rfl,g⟩⟩
def ItsOk(h:Heap)(as:List z_)(ks:List Str)(xs:List Af):Prop:=
 as.length=ks.length/\as.length=xs.length/\∀(j:Nat)(a:z_),as[j]?=ae a->∃k t x,ks[j]?=ae k/\xs[j]?=ae x/\h.get? a=ae {cls:=.type "tuple",data:=.seq #[.str k t,x]}
def ltK(ks:List Str)(i j:Nat):Bool:=decide ((ks.getD i ⟨#[]⟩).cps.toList < (ks.getD j ⟨#[]⟩).cps.toList)
theorem S6(x y:List Nat)(h:x < y):¬y < x:=λz=>List.lt_irrefl x (List.lt_trans h z)
theorem ordK(ks:List Str):Ord (ltK ks) where
 asym:=λi j h=>c_ (S6 _ _ (d_ h))
 ltr:=λi j k b a=>by
  refine c_ λz=>?_;exact f_ z (En.mpr (List.le_trans (En.mp (e_ b)) (En.mp (e_ a))))
theorem katTups{h:Heap}:∀{as:List z_}{ks:List Str}{xs:List Af},ItsOk h as ks xs->∃fs:List Af,KatTups h (as.map Cf) fs/\fs.length=as.length/\∀f∈fs,∃k t,f=.str k t
 |[],ks,xs,_=>⟨[],trivial,rfl,λf c=>nomatch c⟩
 |a::as,ks,xs,I=>by
  obtain⟨e,r,d⟩:=I;obtain⟨k,t,x,s,n,l⟩:=d 0 a rfl;cases ks with
  |nil=>cases s
  |cons B ks=>
   cases xs with
   |nil=>cases n
   |cons v xs=>
    obtain⟨fs,o,g,i⟩:=katTups ⟨by simpa using e,by simpa using r,λj b q=>by
     obtain⟨p,m,u,y,A,w⟩:=d (j+1) b (by simpa using q);exact⟨p,m,u,by trivial⟩⟩
    refine⟨.str k t::fs,.cons l rfl rfl rfl o,by simp[g],λf c=>?_⟩;rcases Au.mp c with rfl|z
    ·exact⟨k,t,rfl⟩
    ·exact i f z
end
section
variable{prog:Bb}{w:Bj}{A:Bt}{E:Af->Aj->Prop}{s:Aj}{a:z_}{as:List z_}{ks:List Str}{xs:List Af}
theorem ask_items(hI:ItsOk s.heap as ks xs)(nd:ks.Nodup)(hx:∀x∈xs,∀(s:Aj),SeqAt.EqAt A s x x ah){i j:Nat}(hi:i < as.length)(hj:j < as.length){C:Bool->Aj->Prop}(h:C (ltK ks i j) s):
  kas_ask prog w A (tuples' ah) (as.map Cf) i j C s:=by
 obtain⟨E,H,f⟩:=hI;obtain⟨b,F,r,v,g,o⟩:=f i as[i] (Ah hi);obtain⟨a,G,D,q,d,n⟩:=f j as[j] (Ah hj);unfold kas_ask;have u:(as.map Cf).getD i B3=.ref as[i]:=by simp[hi]
 have y:(as.map Cf).getD j B3=.ref as[j]:=by simp[hj]
 rw[u,y];have k:ks.getD i ⟨#[]⟩=b:=by simp[v]
 have p:ks.getD j ⟨#[]⟩=a:=by simp[q]
 have t:ltK ks i j=decide (b.cps.toList < a.cps.toList):=by unfold ltK;rw[k,p]
 rw[t]at h;refine kat_lt o rfl n rfl (kat_cons (wpAny_eqBool_str ?_));by_cases e:b=a
 ·rw[b_ e];have c:=by
   have B:i < ks.length:=by omega
   have z:j < ks.length:=by omega
   have m:ks[i]=b:=by simp_all
   have l:ks[j]=a:=by simp_all
   exact(Fb nd).mp (m.trans (e.trans l.symm))
  subst c;rw[g]at d;cases d;refine kat_yes (kat_cons (hx r (Ay g) s _ _ _ _ ?_));refine kat_yes (kat_nil ?_);rw[e]at h;have:decide (a.cps.toList < a.cps.toList)=ai:=c_ (List.lt_irrefl _);rw[this]at h;exact h
 ·rw[c_ e];exact kat_no (oneLt_str h)
end
end KS
namespace L2
open PySem PySem.Spec PyProof.Rows PySem.W
def jO(d v:z_):HO:=.ext λh=>h.get? v=ae {cls:=.type "dict_items",data:=.fields #[.ref d]}
theorem HM{X:Cx}:vp X "dict.items" (λx vs H Q=>∃d kvs,x=.ref d/\vs=[]/\H d=ae (.dK kvs)/\∀v,H v=af->Q (.ref v) (upd H v (jO d v))):=by
 intro f s σ H x r v p Q I j l h;obtain⟨d,kvs,rfl,rfl,m,q⟩:=h;cases j;cases l.zero;obtain⟨z,a,c,i,g⟩:=I.hok d _ m;refine call_meetsIn PySem.F.slot_dict_items g.typeIs PySem.F.entry_dict_items (PySem.F.args_dict_items_1 _) (meets_dict_items _ d a) ⟨⟨c,g⟩,?_⟩;have e:(s.heap.push _).get? s.heap.objs.size=ae {cls:=.type "dict_items",data:=.fields #[.ref d]}:=Av _ rfl;exact⟨.ref s.heap.objs.size,_,I.laid (o:=jO d s.heap.objs.size) (λb t q=>Ae _ q) (Ao _) ⟨e,⟨_,e⟩,λh1 n q k=>k _ q⟩,rfl,q _ (I.hok.fresh (Ao _))⟩
def fB(as:List z_)(ks:List Str)(xv:List V)(i:Nat):z_×Str×V:=(as.getD i 0,ks.getD i ⟨#[]⟩,xv.getD i .non)
def fj(H:Hp)(D:z_)(l:List V)(as:List z_)(ks:List Str)(xv:List V):Hp:=λb=>if b=D then ae (.lst l)else match as.idxOf? b with
 |some j=>ae (.tup [.str (ks.getD j ⟨#[]⟩),xv.getD j .non])
 |none=>H b
theorem qY{as:List z_}{b:z_}{j:Nat}(h:as.idxOf? b=ae j):as[j]?=ae b:=by
 obtain⟨a,_⟩:=Fw.mp h;simp_all
theorem Ii{as:List z_}{b:z_}(h:as.idxOf? b=af):b∉as:=λhb=>by
 simp_all
theorem QO{as:List z_}(nd:as.Nodup){j:Nat}{a:z_}(h:as[j]?=ae a):as.idxOf? a=ae j:=by
 obtain⟨f,b⟩:=Aq.mp h;cases e:as.idxOf? a with
 |none=>exact f_ (Ay h) (Ii e)
 |some i=>
  obtain⟨d,c⟩:=Aq.mp (qY e);rw[(Fb nd).mp (c.trans b.symm)]
section
variable{X:Cx}{h_:List (z_×Obj)}{σ:St}{H:Hp}{s:Aj}
theorem wM{as:List z_}{ks:List Str}{xv:List V}{xs:List Af}{D:z_}{idx:List Nat}{h3:Heap}{tk c:Nat}{Q:VK}(I:Inv X h_ σ H s)(hk:∀b o,s.heap.get? b=ae o->h3.get? b=ae o)
  (hI:KS.ItsOk h3 as ks xs) (hx:Vals xv xs) (hup:∀a∈as,s.heap.objs.size<=a) (nd:as.Nodup) (hD:∀b o,s.heap.get? b=ae o->b≠D) (hDH:H D=af) (hDa:D∉as) (hl:as.length < 64) (hidx:idx.Perm (A8 as.length))
  (hL:h3.get? D=ae (Dq "list" (Eo (idx.map λi=>(as.map Cf).getD i B3)) c))
  (q:∀H',gN H H'->H D=af->(∀a∈as,H a=af)->H' D=ae (.lst (idx.map λi=>V.ref (fB as ks xv i).1))->(∀i∈idx,H' (fB as ks xv i).1=ae (.tup [.str (fB as ks xv i).2.1,(fB as ks xv i).2.2]))->Q (.ref D) H'):
  EP X h_ σ Q (.ref D) {s with heap:=h3,toks:=tk}:=by
 obtain⟨l1,l2,O⟩:=hI;have lx:=hx.length;have E:∀{b o},H b=ae o->b < s.heap.objs.size:=λe=>I.hok.lt e;have g:∀i∈idx,i < as.length:=λi v=>Bx.mp (hidx.mem_iff.mp v);have F:idx.length=as.length:=by rw[hidx.length_eq,Dt]
 have d:gN H (fj H D (idx.map λi=>V.ref (fB as ks xv i).1) as ks xv):=λb o e=>by
  unfold fj;rw[a_ (λz=>by simp_all)];cases q:as.idxOf? b with
  |none=>exact e
  |some j=>
   have:=hup b (Ay (qY q));exact f_ (E e) (Nat.not_lt.mpr this)
 have h:=by
  have:∀l:List Nat,(∀i∈l,i < as.length)->Vals (l.map λi=>V.ref (fB as ks xv i).1) (l.map λi=>(as.map Cf).getD i B3):=by
   intro l
   induction l with
   |nil=>intro _;exact .nil
   |cons i r R=>
    intro hl;have v:=hl i Ap;refine .cons ?_ (R λj M=>hl j (Ak _ M));show(as.map Cf).getD i B3=Cf (as.getD i 0);simp[v]
  exact this idx g
 have y:HOk X.prog X.w (fj H D _ as ks xv) h3:=λb o e=>by
  by_cases C:b=D
  ·subst C;unfold fj at e;rw[a' rfl]at e;cases e;refine⟨?_,_,c,h,hL⟩;rw[Ab];exact fc ⋯
  ·have p:=e;unfold fj at p;rw[a_ C]at p;cases B:as.idxOf? b with
   |none=>
    rw[B]at p;refine(I.hok b o p).stay (λcc u _ z=>hk cc u z) (λcc z=>d _ _ z) λcc W z=>d _ _ z
   |some j=>
    rw[B]at p;cases p;obtain⟨k,t,x,Y,K,T⟩:=O j b (qY B);have A:j < xv.length:=by
     have:=(Aq.mp K).1;omega
    have U:RelV (xv.getD j .non) x:=by
     obtain⟨u,J,ru⟩:=hx.get (Ah A);rw[K]at J;cases J;have:xv.getD j .non=xv[j]:=by simp[A]
     rw[this];omega
    have S:ks.getD j ⟨#[]⟩=k:=by simp[Y]
    exact⟨by show 2<=Aw;decide,_,.cons (by rw[S];exact⟨t,rfl⟩) (.cons U .nil),⟨_,T,rfl,⟨_,rfl⟩,rfl⟩⟩
 refine⟨.ref D,_,I.call' (ch:=[]) rfl ?_ y I.bare (λb C=>nomatch C),rfl,q _ d hDH (λa Z=>I.hok.fresh (hup a Z)) (by unfold fj;simp) λi v=>?_⟩
 ·refine⟨λb o e n _ _=>hk b o e,λb o e n _ _=>⟨_,hk b o e⟩,λb o e n _=>?_,λb o e _=>⟨o,hk b o e⟩,λb W z=>d _ _ z,λb o' u z=>d _ _ z,λb ps z=>⟨#[],d _ _ z⟩⟩;unfold fj;rw[a_ (hD b o e)];cases B:as.idxOf? b with
  |none=>exact n
  |some j=>exact f_ (As e) (Nat.not_lt.mpr (hup b (Ay (qY B))))
 ·have m:=g i v;have L:(fB as ks xv i).1=as[i]:=by show as.getD i 0=_;simp[m]
  have P:as[i]≠D:=λz=>hDa (z▸Ck m);rw[L];unfold fj;rw[a_ P,QO nd (Ah m)];rfl
end
def yQ:List V->Hp->VK->Prop:=λxs H Q=>∃(v d:z_)(ks:List Str)(xv:List V),xs=[.ref v]/\H v=ae (jO d v)/\ks.length=xv.length/\H d=ae (.dK ((ks.zip xv).map λp=>((Dh p.1:aF),p.2)))/\ks.length < 64/\ks.Nodup/\xv.all gM=ah /\
 ∀(D:z_)(as:List z_)(idx:List Nat)(H':Hp),as.length=ks.length->idx.Perm (A8 ks.length)->(idx.map λi=>ks.getD i ⟨#[]⟩).Pairwise (λa b=>¬b.cps.toList < a.cps.toList)->gN H H'->H D=af->(∀a∈as,H a=af)->
  H' D=ae (.lst (idx.map λi=>V.ref (fB as ks xv i).1))->(∀i∈idx,H' (fB as ks xv i).1=ae (.tup [.str (fB as ks xv i).2.1,(fB as ks xv i).2.2]))->Q (.ref D) H'
theorem AY{xs:List Af}:∀{ks:List Str}{xv:List V}{vs:List (aF×Af)},ks.length=xv.length->KV ((ks.zip xv).map λp=>((Dh p.1:aF),p.2)) vs->vs.length=ks.length/\Vals xv (vs.map (·.2))/\vs.map (·.1)=ks.map (Dh:Str->aF)
 |[],[],_,_,.nil=>⟨rfl,.nil,rfl⟩
 |k::ks,x::xv,_,e,.cons r b=>by
  obtain⟨d,a,c⟩:=AY (xs:=xs) (by simp_all) b;refine⟨by simp[d],.cons r.2 a,?_⟩;rw[Bo,Bo,c,<-r.1]
theorem uR{ks:List Str}{p:Array Nat}{n:Nat}(hz:p.size=n)(h:KS.SP (KS.ltK ks) p n):(p.toList.map λi=>ks.getD i ⟨#[]⟩).Pairwise (λa b=>¬b.cps.toList < a.cps.toList):=by
 rw[List.pairwise_iff_getElem];intro i j e d c;rw[Ab,B6,hz]at e d;have:=h i j c d;unfold KS.ltK KS.g at this;have k:p.getD i 0=p[i]:=by simp[hz,e]
 have f:p.getD j 0=p[j]:=by simp[hz,d]
 rw[k,f]at this;simp only[List.getElem_map];exact e_ this
theorem SH{X:Cx}(hh:X.A.handled=af):CallR X (.builtin "sorted") yQ:=by
 intro h_ s σ H xs us Q I r h;obtain⟨v,d,V,xv,rfl,hv,hl,hd,h64,nd,fl,q⟩:=h;obtain⟨u,rfl,ru⟩:=fA r;cases(ru);obtain⟨z,hsys,F,rel,S⟩:=I.hok d _ hd;obtain⟨ep,hat⟩:=S.dictAt;obtain⟨lv,p,U⟩:=AY (xs:=[]) hl rel;refine KS.sorted_of (R:=λvs s1=>∃(h':Heap)(tk:Nat)(g:List z_),vs=g.map Cf/\s1={ s with heap:=h',toks:=tk}/\(∀b o,s.heap.get? b=ae o->h'.get? b=ae o)/\g.length=F.length/\KdxG _ F s.heap.objs.size h' g)
  (kdx_collect hh ⟨_,((I.hok v _ hv).1),rfl,rfl⟩ hat (by simp_all) λh' tk g hk hl Y=>⟨h',tk,g,rfl,rfl,hk,hl,Y⟩) ?_
 rintro vs s1 ⟨h',tk,g,rfl,rfl,hk,hla,Y⟩
 have m:=hla.trans lv;have P:KS.ItsOk h' g V (F.map (·.2)):=⟨m,by rw[Ab,hla],λj a W=>by
  obtain⟨l_,k,x,Z,e2,e3⟩:=Y.pairs j a W;have G:(F.map (·.1))[j]?=ae k:=by rw[Am,Z];rfl
  rw[U,Am]at G;cases eq:V[j]? with
  |none=>rw[eq]at G;cases G
  |some k0=>
   rw[eq]at G;have hk2:=Bq G;subst hk2;rcases g9 (show jD (Dh k0) l_=ah from e2)with⟨i,t,z,_⟩|⟨y,t,z,rfl⟩
   ·cases z
   ·cases z;exact⟨k0,t,x,rfl,by rw[Am,Z];rfl,e3⟩⟩
 have hup:=λa W=>F7 (Y.above a W);have ndA:=Y.rise.imp λh=>Be h;have O:=λhm=>Dz _ (Y.there hm);have E:=λb o e=>Be (As (hk b o e));have hsH:=(I.hok.kept hk).fresh (Ao _);refine⟨by rw[Ab];exact fc ⋯,?_⟩;have hoL:(h'.push _).get? h'.objs.size=ae (Dq "list" (g.map Cf).toArray 0):=Av _ rfl;have D:∀h4:Heap,(∀b o,b≠h'.objs.size->(h'.push (Dq "list" (g.map Cf).toArray 0)).get? b=ae o->h4.get? b=ae o)->KS.ItsOk h4 g V (F.map _):=λh4 L=>⟨P.1,P.2.1,λj a W=>by
  obtain⟨k,t,x,Z,e2,e3⟩:=P.2.2 j a W;exact⟨k,t,x,Z,e2,L a _ (λz=>O (z▸Ay W)) (Ae _ e3)⟩⟩
 have B:∀h4:Heap,(∀b o,b≠h'.objs.size->(h'.push (Dq "list" (g.map Cf).toArray 0)).get? b=ae o->h4.get? b=ae o)->∀b o,s.heap.get? b=ae o->h4.get? b=ae o:=λh4 L b o e=>
  L b o (E b o e) (Ae _ (hk b o e))
 by_cases h2:2<=(g.map Cf).length
 ·refine KS.ls_sort hoL h2 (by rw[Ab];omega) λe1 h4 K L=>?_;have N:=D h4 L;obtain⟨fs,f1,f2,f3⟩:=KS.katTups N;rw[Ab]at h2;refine kat_kind (T:=Dj "str") f1 ⋯ (λf hf=>?_) rfl ?_
  ·obtain⟨k,t,rfl⟩:=f3 f hf;exact .now
  ·rw[Ab];have hn:0 < g.length:=by omega
   have hwi:=KS.wi_sort hn;refine KS.wp_run (c:=KS.ltK V) (λi j C s' hi hj hs hC=>?_) _ _ hwi rfl λs' E=>?_
   ·subst hs;refine KS.ask_items N nd (λx hx s''=>?_) hi hj (hC _ rfl);obtain⟨j,hj⟩:=Br.mp hx;have hjl:j < xv.length:=by
     have:=(Aq.mp hj).1;rw[Ab]at this;omega
    obtain⟨u,hu,ru⟩:=p.get (Ah hjl);rw[hj]at hu;cases hu;have fx:=Cy.mp fl _ (Ck hjl);have:=ET (A:=X.A.in1.in1) (s:=s'') ru ru fx fx;have Z:gV xv[j] xv[j]=ah:=by
     cases ex:xv[j]<;>simp[gV]<;>(rw[ex]at fx;trivial)
    rw[Z]at this;omega
   ·subst E;refine⟨K,λh3 c sb hL3=>⟨rfl,?_⟩⟩;have hpm:KS.Pm g.length (KS.run (KS.ltK V) _):=KS.Wi.out _ hwi;have hidx:=by
     have:=Gv.mp hpm;omega
    have k3:=λb o hb e=>(sb.2 b hb).trans (L b o hb e);exact wM (s:=s) I (B h3 k3) (D h3 k3) p hup ndA E hsH O ⋯ hidx hL3 λH' a1 a2 a3 a4 a5=>q _ g _ H' m (by rw[<-m];omega) (uR hpm.size (KS.sort_ok (KS.ordK V) hn)) a1 a2 a3 a4 a5
 ·refine KS.ls_short hoL ⋯ λh4 c K L=>⟨rfl,?_⟩;rw[Ab]at h2;have el:g.map Cf=(A8 g.length).map λi=>(g.map Cf).getD i B3:=by
   apply Fc (by simp);intro i h1 h2;simp at h1;simp[h1]
  rw[el]at K;refine wM (s:=s) I (B h4 L) (D h4 L) p hup ndA E hsH O ⋯ (List.Perm.refl _) K λH' a1 a2 a3 a4 a5=>q _ g _ H' m (by rw[<-m]) ?_ a1 a2 a3 a4 a5;have:(A8 g.length).length<=1:=by simp;omega
  match hr:A8 g.length,this with
  |[],_=>exact .nil
  |[i],_=>exact Fu _ _
def gX(vs:List Af)(ks:List Str):Prop:=vs.length=ks.length/\∀(j:Nat) v,vs[j]?=ae v->∃k t,ks[j]?=ae k/\v=.str k t
theorem uy{vs:List Af}{ks:List Str}(h:gX vs ks):∀(idx:List Nat),(∀i∈idx,i < ks.length)->Vals ((idx.map λi=>ks.getD i ⟨#[]⟩).map V.str) (idx.map λi=>vs.getD i B3)
 |[],_=>.nil
 |i::r,b=>by
  have f:=b i Ap;have a:i < vs.length:=by rw[h.1];omega
  obtain⟨k,t,e,c⟩:=h.2 i vs[i] (Ah a);refine .cons ⟨t,?_⟩ (uy h r λj d=>b j (Ak _ d));simp[a,e,c]
theorem yW{ks:List Str}{idx:List Nat}(h:idx.Perm (A8 ks.length)):(idx.map λi=>ks.getD i ⟨#[]⟩).Perm ks:=by
 have b:=h.map λi=>ks.getD i (⟨#[]⟩:Str);have a:(A8 ks.length).map (λi=>ks.getD i (⟨#[]⟩:Str))=ks:=by
  apply Fc (by simp);intro i b a;simp[a]
 rw[a]at b;omega
def xw:List V->Hp->VK->Prop:=λxs H Q=>∃(d:z_)(l:List (aF×V))(ks:List Str),xs=[.ref d]/\H d=ae (.dK l)/\l.map (·.1)=ks.map (Dh:Str->aF)/\ks.length < 64 /\
 ∀(D:z_)(ys:List Str),ys.Perm ks->ys.Pairwise (λa b=>¬b.cps.toList < a.cps.toList)->H D=af->Q (.ref D) (upd H D (.lst (ys.map V.str)))
theorem RX{l:List (aF×V)}{vs:List (aF×Af)}(h:KV l vs):vs.map (·.1)=l.map (·.1):=by
 induction h with
 |nil=>rfl
 |cons r _ a=>rw[Bo,Bo,a,r.1]
theorem LY{X:Cx}(hh:X.A.handled=af):CallR X (.builtin "sorted") xw:=by
 intro E s σ H xs us Q I r h;obtain⟨d,l,n,rfl,hd,hk,h64,q⟩:=h;obtain⟨u,rfl,ru⟩:=fA r;cases(ru);obtain⟨z,M,vs',rel,F⟩:=I.hok d _ hd;obtain⟨ep,hat⟩:=F.dictAt;have p:=(RX rel).trans hk;have L:=by have:=congrArg Dn p;simpa using this
 refine KS.sorted_of (R:=λvs s1=>∃(h':Heap)(J:Nat),s1={ s with heap:=h',toks:=J}/\(∀b o,s.heap.get? b=ae o->h'.get? b=ae o)/\gX vs n)
  (kdu_collect (kdl_dict M) hh hat (fc ⋯) λh' J i' hk' hI=>⟨h',J,rfl,hk',?_⟩) ?_
 ·refine⟨by rw[B6,hI.1,L],λj v N=>?_⟩;obtain⟨k,x,e1,e2⟩:=hI.2 j v (by simp_all);have B:(vs'.map (·.1))[j]?=ae k:=by rw[Am,e1];rfl
  rw[p,Am]at B;cases eq:n[j]? with
  |none=>rw[eq]at B;cases B
  |some k0=>
   rw[eq]at B;have hk2:=Bq B;subst hk2;rcases g9 (show jD (Dh k0) v=ah from e2)with⟨i,t,z,_⟩|⟨y,t,z,rfl⟩
   ·cases z
   ·cases z;simp
 rintro vs s1 ⟨h',J,rfl,hkp,K⟩
 have hl:=K.1;refine⟨by rw[hl];exact fc ⋯,?_⟩;have V:(h'.push _).get? h'.objs.size=ae (Dq "list" vs.toArray 0):=Av _ rfl;have U:∀(idx:List Nat) h3 c,idx.Perm _->(idx.map λi=>n.getD i _).Pairwise _->
   (∀b o,b≠h'.objs.size->(h'.push (Dq "list" vs.toArray 0)).get? b=ae o->h3.get? b=ae o)->h3.get? h'.objs.size=ae _->EP X E σ Q _ {s with heap:=h3,toks:=J}:=λidx h3 c hp hw k3 hL=>by
  have I1:Inv X E σ H {s with heap:=h',toks:=J}:=I.kept hkp;have Z:=I1.hok.fresh (Ao _);refine⟨.ref h'.objs.size,_,I1.laid (o:=.lst _) (λb o e=>k3 b o (Be (As e)) (Ae _ e)) (Ao _) ⟨?_,_,c,uy K idx (λi Y=>Bx.mp (hp.mem_iff.mp Y)),hL⟩,rfl,q _ _ (yW hp) hw Z⟩;rw[Ab,Ab,hp.length_eq,Dt];exact fc ⋯
 by_cases h2:2<=vs.length
 ·refine KS.ls_sort V h2 ⋯ λe1 h4 P k4=>kas_kind (T:=Dj "str") h2 (λf hf=>?_) rfl rfl ?_
  ·obtain⟨j,N⟩:=Br.mp hf;obtain⟨k,t,_,rfl⟩:=K.2 j f N;exact .now
  ·have Z:0 < vs.length:=by omega
   have W:=KS.wi_sort Z;refine KS.wp_run (c:=KS.ltK n) (St:=λs'=>s'={ s with heap:=h4,toks:=J}) (λi j C s' Y N hs hC=>?_) _ _ W rfl λs' hs'=>?_
   ·subst hs;obtain⟨k1,t1,a1,a2⟩:=K.2 i vs[i] (Ah Y);obtain⟨k2,t2,b1,b2⟩:=K.2 j vs[j] (Ah N);unfold kas_ask;have g1:vs.getD i B3=.str k1 t1:=by simp[Y,a2]
    have g2:vs.getD j B3=.str k2 t2:=by simp[N,b2]
    rw[g1,g2];have c1:n.getD i ⟨#[]⟩=k1:=by simp[a1]
    have c2:n.getD j ⟨#[]⟩=k2:=by simp[b1]
    have:=hC _ rfl;unfold KS.ltK at this;rw[c1,c2]at this;exact kas_lt_str this
   ·subst hs';refine⟨P,λh3 c sb hL3=>⟨rfl,?_⟩⟩;have O:KS.Pm vs.length (KS.run (KS.ltK n) _):=KS.Wi.out _ W;have hidx:=by
     have:=Gv.mp O;omega
    refine U _ h3 c (by simp_all) (uR O.size (KS.sort_ok (KS.ordK n) Z)) (λb o hb e=>(sb.2 b hb).trans (k4 b o hb e)) hL3
 ·refine KS.ls_short V ⋯ λh4 c P k4=>⟨rfl,?_⟩;have el:vs=(A8 n.length).map λi=>vs.getD i B3:=by
   apply Fc (by simp[hl]);intro i h1 h2;simp[h1]
  have ha5:h4.get? h'.objs.size=ae (Dq "list" (Eo ((A8 n.length).map λi=>vs.getD i B3)) c):=by rw[<-el];omega
  refine U _ h4 c (List.Perm.refl _) ?_ k4 ha5;have:(A8 n.length).length<=1:=by simp;omega
  match hr:A8 n.length,this with
  |[],_=>exact .nil
  |[i],_=>exact Fu _ _
end L2
namespace L2
open PySem PySem.Spec PyProof.Rows
section
variable{prog:Bb}{w:Bj}{A:Bt}{E:Af->Aj->Prop}{s:Aj}
theorem tQ{it t:z_}{i:Nat}{items:Array Af}{x:Af}{Q:Af->Aj->Prop}(hit:s.heap.IsTupleIter it t i)(ht:s.heap.IsTuple t items)(hx:items[i]?=ae x)
  (hQ:∀h',h'.IsTupleIter it t (i+1)->Cz it s.heap h'->Q x {s with heap:=h'}):A6 (A9 prog w) A (Builtin.SmallTypes.nextOf (.ref it)) Q E s:=by
 obtain⟨o,b,e,a⟩:=id hit;obtain⟨f,c,_,g,d⟩:=ht;refine Aa (Bp hit.typeIs Fk
  (B2 Fk hit.typeIs F.entry_tuple_iterator_next ?_ (F.args_tuple_iterator_next_1 _)))
 show A6 _ _ (field _ 0>>=_) _ _ s;refine Aa (De b a (x:=.ref t) rfl (Aa (De b a rfl ?_)));refine Aa (C8 c d ?_);simp only[Cc,hx];refine Aa (C0 b a (by simp) (Ai ⟨x,rfl,Ai (hQ _ ?_ (Bg ..))⟩));exact⟨_,Bn _ b (C4 (By a _)),(D7 ..).trans e,by
  rw[By a];rfl⟩
theorem AI{it t:z_}{i:Nat}{items:Array Af}{Q:Af->Aj->Prop}(hh:A.handled=af)(hit:s.heap.IsTupleIter it t i)(ht:s.heap.IsTuple t items)(hx:items[i]?=af)
  (hE:∀h' e,Heap.ExtBut it s.heap h'->(∃o,h'.get? e=ae o/\o.cls=.type "StopIteration")->E (.ref e) {s with heap:=h'}):
  A6 (A9 prog w) A (Builtin.SmallTypes.nextOf (.ref it)) Q E s:=by
 obtain⟨o,a,g,b⟩:=id hit;obtain⟨f,c,_,h,d⟩:=ht;refine Aa (Bp hit.typeIs Fk
  (B2 Fk hit.typeIs F.entry_tuple_iterator_next ?_ (F.args_tuple_iterator_next_1 _)))
 show A6 _ _ (field _ 0>>=_) _ _ s;refine Aa (De a b (x:=.ref t) rfl (Aa (De a b rfl ?_)));refine Aa (C8 c d ?_);simp only[Cc,hx];refine Aa (Gm (Aa (C0 a b (by simp) (Aa ?_))));refine Aa (B1 (Aa (Gs (by rfl) ?_)) (by size_fits));refine B1 (Aa (wpAny_handled ?_)) (by size_fits)
 first|rw[hh]|rw[hh]
 exact Aa (Ai (wpAny_throw (hE _ _ (((Bg ..).extBut.push _).push _) ⟨_,Av _ rfl,rfl⟩)))
theorem Jm{z TI TO i1 i2 l1 l2:z_}{k:Nat}{xs ys:Array Af}{x y a b:Af}{Q:Af->Aj->Prop}(D:ZipApart z TI TO i1 i2 l1 l2)
  (hz:IsZip s.heap z TI TO .none) (hTI:Gf s.heap TI (.ref i1) (.ref i2)) (hTO:Gf s.heap TO a b)
  (h1:s.heap.IsTupleIter i1 l1 k) (h2:s.heap.IsTupleIter i2 l2 k) (hl1:s.heap.IsTuple l1 xs) (hl2:s.heap.IsTuple l2 ys) (hx:xs[k]?=ae x) (hy:ys[k]?=ae y)
  (hQ:∀h',IsZip h' z TI TO (Dm s.heap.objs.size)->Gf h' TO x y->h'.IsTupleIter i1 l1 (k+1)->h'.IsTupleIter i2 l2 (k+1)->Gf h' s.heap.objs.size x y->h'.objs.size=s.heap.objs.size+1->
   (∀c o,c≠z->c≠TO->c≠i1->c≠i2->s.heap.get? c=ae o->h'.get? c=ae o)->Q (.ref s.heap.objs.size) {s with heap:=h'}):
  A6 (A9 prog w) A (Ep.«zip.__next__» ⟨[.ref z],[]⟩) (λfin s'=>∃v,fin=.done (.ret v)/\Q v s') E s:=by
 show A6 _ _ (field _ 2>>=_) _ _ _;refine Aa (De hz rfl (x:=.bool ai) rfl (Aa (De hz rfl rfl ?_)));refine Aa (C8 hTI rfl (Aa ?_));refine Aa (De hz rfl rfl (Ai (Aa (Gm ?_))));refine Aa (De hz rfl rfl (Aa (F5 hz (by simp) λg1 f g=>?_)))
 replace f:IsZip g1 z TI TO .ellipsis:=f
 refine Aa (Aa (Aa (wpAny_onRaise ?_)));refine Aa (tQ (h1.extBut g.extBut D.i1z) (hl1.extBut g.extBut D.l1z) hx λg2 T i=>Ai ?_);have N:=i.extBut _ _ D.TOi1 (g.extBut _ _ D.TOz hTO);refine Aa (C8 N rfl (Aa (wpAny_updateSeq_pair N λg3 u j=>?_)))
 replace u:Gf g3 TO x b:=u
 refine Aa (wpAny_letGo (Ai (Aa (Aa (wpAny_onRaise ?_)))));refine Aa (tQ (((h2.extBut g.extBut D.i2z).extBut i.extBut D.i12.symm).extBut j.extBut D.TOi2.symm)
  (((hl2.extBut g.extBut D.l2z).extBut i.extBut D.l2i1).extBut j.extBut D.l2TO) hy λg4 S n=>Ai ?_)
 have K:=n.extBut _ _ D.TOi2 u;refine Aa (C8 K rfl (Aa (wpAny_updateSeq_pair K λg5 q m=>?_)))
 replace q:Gf g5 TO x y:=q
 refine Aa (wpAny_letGo (Ai (Ai (Aa (C8 q rfl ?_)))));refine Aa (wpAny_newTuple ?_);have O:g5.objs.size=s.heap.objs.size:=by rw[m.1,n.1,j.1,i.1,g.1]
 have J:=m.extBut _ _ D.TOz.symm (n.extBut _ _ D.i2z.symm (j.extBut _ _ D.TOz.symm (i.extBut _ _ D.i1z.symm f)));have P:∀c o,c≠z->c≠TO->c≠i1->c≠i2->s.heap.get? c=ae o->g5.get? c=ae o:=λc o d r H G e=>
  m.extBut _ _ r (n.extBut _ _ G (j.extBut _ _ r (i.extBut _ _ H (g.extBut _ _ d e))))
 have l:=As J;refine Aa ?_;have R:IsZip (g5.push {cls:=.type "tuple",data:=.seq #[x,y]}) z TI TO .ellipsis:=Ae _ J;refine Aa (F5 R (by simp) λg7 I C=>?_)
 replace I:IsZip g7 z TI TO (Dm g5.objs.size):=I
 refine F5 I (by simp) λg8 p F=>?_
 replace p:IsZip g8 z TI TO (Dm g5.objs.size):=p
 have t:∀c o,c≠z->g5.get? c=ae o->g8.get? c=ae o:=λc o d e=>F.extBut _ _ d (C.extBut _ _ d (Ae _ e));have M:=F.extBut _ _ (Dy l) (C.extBut _ _ (Dy l) (Av _ rfl));have L:g8.objs.size=g5.objs.size+1:=by rw[F.1,C.1,Cn]
 rw[O]at p M L;refine Ai ⟨_,rfl,?_⟩;rw[O];exact hQ g8 p (t _ _ D.TOz q) ((((T.extBut j.extBut D.TOi1.symm).extBut n.extBut D.i12).extBut m.extBut D.TOi1.symm).at λo e=>t _ o D.i1z e) ((S.extBut m.extBut D.TOi2.symm).at λo e=>t _ o D.i2z e) M L λc o d r H G e=>t c o d (P c o d r H G e)
theorem Km{z TI TO i1 i2 l1 l2:z_}{k:Nat}{xs:Array Af}{Q:Fin->Aj->Prop}(hh:A.handled=af)(D:ZipApart z TI TO i1 i2 l1 l2)
  (hz:IsZip s.heap z TI TO .none) (hTI:Gf s.heap TI (.ref i1) (.ref i2)) (h1:s.heap.IsTupleIter i1 l1 k) (hl1:s.heap.IsTuple l1 xs) (hx:xs[k]?=af)
  (hE:∀h' e,(∀c o,c≠z->c≠i1->s.heap.get? c=ae o->h'.get? c=ae o)->(∃o,h'.get? e=ae o/\o.cls=.type "StopIteration")->E (.ref e) {s with heap:=h'}):
  A6 (A9 prog w) A (Ep.«zip.__next__» ⟨[.ref z],[]⟩) Q E s:=by
 show A6 _ _ (field _ 2>>=_) _ _ _;refine Aa (De hz rfl (x:=.bool ai) rfl (Aa (De hz rfl rfl ?_)));refine Aa (C8 hTI rfl (Aa ?_));refine Aa (De hz rfl rfl (Ai (Aa (Gm ?_))));refine Aa (De hz rfl rfl (Aa (F5 hz (by simp) λg1 b g=>?_)))
 replace b:IsZip g1 z TI TO .ellipsis:=b
 refine Aa (Aa (Aa (wpAny_onRaise ?_)));refine Aa (AI hh (h1.extBut g.extBut D.i1z) (hl1.extBut g.extBut D.l1z) hx λg2 e j m=>?_);obtain⟨n,a,d⟩:=m;have i:=j _ _ D.i1z.symm b;have f:e≠z:=λx=>by subst x;rw[i]at a;cases a;simp_all
 refine F5 i (by simp) λg3 _ l=>hE g3 e (λc o h p x=>l.extBut _ _ h (j _ _ p (g.extBut _ _ h x))) ⟨n,l.extBut _ _ f a,d⟩
theorem Pn{z TI TO i1 i2 l1 l2:z_}{k:Nat}{xs ys:Array Af}{x y a b:Af}{Q:Option Af->Aj->Prop}(D:ZipApart z TI TO i1 i2 l1 l2)
  (hz:IsZip s.heap z TI TO .none) (hTI:Gf s.heap TI (.ref i1) (.ref i2)) (hTO:Gf s.heap TO a b)
  (h1:s.heap.IsTupleIter i1 l1 k) (h2:s.heap.IsTupleIter i2 l2 k) (hl1:s.heap.IsTuple l1 xs) (hl2:s.heap.IsTuple l2 ys) (hx:xs[k]?=ae x) (hy:ys[k]?=ae y)
  (hQ:∀h',IsZip h' z TI TO (Dm s.heap.objs.size)->Gf h' TO x y->h'.IsTupleIter i1 l1 (k+1)->h'.IsTupleIter i2 l2 (k+1)->Gf h' s.heap.objs.size x y->h'.objs.size=s.heap.objs.size+1->
   (∀c o,c≠z->c≠TO->c≠i1->c≠i2->s.heap.get? c=ae o->h'.get? c=ae o)->Q (ae (.ref s.heap.objs.size)) {s with heap:=h'}):
  A6 (A9 prog w) A (pyNext (.ref z)) Q E s:=by
 have d:s.TypeIs (.ref z) "zip":=⟨_,hz,rfl⟩;exact Aa (Ei (Bp d F.slot_zip_next
  (B2 F.slot_zip_next d F.entry_zip_next
   (Jm D hz hTI hTO h1 h2 hl1 hl2 hx hy λh' h f e j g i l=>Ai (hQ h' h f e j g i l)) (F.args_zip_next_1 _))))
theorem RV{z TI TO i1 i2 l1 l2:z_}{k:Nat}{xs:Array Af}{Q:Option Af->Aj->Prop}(hh:A.handled=af)(D:ZipApart z TI TO i1 i2 l1 l2)
  (hz:IsZip s.heap z TI TO .none) (hTI:Gf s.heap TI (.ref i1) (.ref i2)) (h1:s.heap.IsTupleIter i1 l1 k) (hl1:s.heap.IsTuple l1 xs) (hx:xs[k]?=af)
  (hQ:∀h',(∀c o,c≠z->c≠i1->s.heap.get? c=ae o->h'.get? c=ae o)->Q af {s with heap:=h'}):A6 (A9 prog w) A (pyNext (.ref z)) Q E s:=by
 have a:s.TypeIs (.ref z) "zip":=⟨_,hz,rfl⟩;refine Aa (Ei (Bp a F.slot_zip_next
  (B2 F.slot_zip_next a F.entry_zip_next (Km hh D hz hTI h1 hl1 hx λh' e g f=>?_) (F.args_zip_next_1 _))))
 obtain⟨o,d,b⟩:=f;exact Aa (D4 ⟨o,d,b⟩ isSubtype_stop (Ai (hQ _ g)))
end
abbrev pI(h:Heap)(l1:z_):Heap:=h.push {cls:=.type "tuple_iterator",data:=.fields #[.ref l1,.int 0 0]}
abbrev pG(h:Heap)(l1 l2:z_):Heap:=(pI h l1).push {cls:=.type "tuple_iterator",data:=.fields #[.ref l2,.int 0 0]}
abbrev qv(h:Heap)(l1 l2:z_):Heap:=(pG h l1 l2).push {cls:=.type "tuple",data:=.seq #[.ref h.objs.size,.ref (pI h l1).objs.size]}
abbrev pB(h:Heap)(l1 l2:z_):Heap:=(qv h l1 l2).push {cls:=.type "tuple",data:=.seq #[.none,.none]}
abbrev mi(h:Heap)(l1 l2:z_):Heap:=(pB h l1 l2).push {cls:=.type "zip",data:=.fields #[.none,.bool ai,.bool ai,.ref (pG h l1 l2).objs.size,.ref (qv h l1 l2).objs.size]}
theorem O2(l1 l2:z_)(xs ys:Array Af):
  Meets (Ep.«zip.__new__» ⟨[.type "zip",.ref l1,.ref l2],[]⟩) (λ_ R s=>s.heap.IsTuple l1 xs/\s.heap.IsTuple l2 ys /\
   R (.ok (.ret (.ref (pB s.heap l1 l2).objs.size))) {s with heap:=mi s.heap l1 l2}):=
 .of_wp λprog w A R s h=>by
  obtain⟨k,g,d,m,j⟩:=s;obtain⟨f,e,h⟩:=h;have i:=sub_zip;have c:Heap.IsTuple (Shared.heap ⟨k.push {cls:=.type "tuple_iterator",data:=.fields #[.ref l1,.int 0 0]},g,d,m,j⟩) l2 ys:=Heap.IsTuple.push e _
  wp_walk using Dp f,Dp c
  exact⟨_,rfl,h⟩
section
variable{prog:Bb}{w:Bj}{A:Bt}{E:Af->Aj->Prop}{s:Aj}
theorem Px{l1 l2:z_}{xs ys:Array Af}{Q:Af->Aj->Prop}(hl1:s.heap.IsTuple l1 xs)(hl2:s.heap.IsTuple l2 ys)
  (h:∀h',IsZip h' (s.heap.objs.size+4) (s.heap.objs.size+2) (s.heap.objs.size+3) .none->Gf h' (s.heap.objs.size+2) (.ref s.heap.objs.size) (.ref (s.heap.objs.size+1))->
   Gf h' (s.heap.objs.size+3) .none .none->h'.IsTupleIter s.heap.objs.size l1 0->h'.IsTupleIter (s.heap.objs.size+1) l2 0->
   (∀c o,s.heap.get? c=ae o->h'.get? c=ae o)->Q (.ref (s.heap.objs.size+4)) {s with heap:=h'}):
  A6 (A9 prog w) A (call (.type "zip") [.ref l1,.ref l2]) Q E s:=by
 refine callType_new F.called_zip ∎ (F.typeCall_zip_2 _ _) (F.newCall_zip_2 _ _) (λobj=>F.args_object_init_3 obj _ _) F.entry_zip_new
  (O2 l1 l2 xs ys) ⟨hl1,hl2,?_⟩
 have e:(pI s.heap l1).objs.size=s.heap.objs.size+1:=Cn ..;have b:(pG s.heap l1 l2).objs.size=s.heap.objs.size+2:=by rw[Cn,e]
 have g:(qv s.heap l1 l2).objs.size=s.heap.objs.size+3:=by rw[Cn,b]
 have n:(pB s.heap l1 l2).objs.size=s.heap.objs.size+4:=by rw[Cn,g]
 have k:(mi s.heap l1 l2).get? (pB s.heap l1 l2).objs.size=ae _:=Av _ rfl;have l:(mi s.heap l1 l2).get? (qv s.heap l1 l2).objs.size=ae _:=Ae _ (Av _ rfl);have m:(mi s.heap l1 l2).get? (pG s.heap l1 l2).objs.size=ae _:=Ae _ (Ae _ (Av _ rfl));have p:(mi s.heap l1 l2).get? (pI s.heap l1).objs.size=ae _:=Ae _ (Ae _ (Ae _ (Av _ rfl)));have r:(mi s.heap l1 l2).get? s.heap.objs.size=ae _:=Ae _ (Ae _ (Ae _ (Ae _ (Av _ rfl))));rw[b,g,n]at k;rw[e,b]at m;rw[g]at l;rw[e]at p;rw[n];exact⟨⟨_,k,rfl⟩,h _ k m l ⟨_,r,rfl,rfl⟩ ⟨_,p,rfl,rfl⟩ λc o x=>
  Ae _ (Ae _ (Ae _ (Ae _ (Ae _ x))))⟩
end
def CJ(K:Ag)(a b:z_):It:=
 ⟨λi H=>∃xs ys x y,SqT K H a xs/\SqT K H b ys/\xs[i]?=ae x/\ys[i]?=ae y,
  λi H v H'=>∃T x y,v=.ref T/\H T=af/\H'=upd H T (.tup [x,y])/\(∀xs,SqT K H a xs->xs[i]?=ae x)/\∀ys,SqT K H b ys->ys[i]?=ae y,
  λi H=>∃xs,SqT K H a xs/\xs.length<=i⟩
theorem Inv.many{X:Cx}{h_:List (z_×Obj)}{σ:St}{H:Hp}{s:Aj}{h':Heap}{t':Nat}{fp:List z_}{a:z_}{o:HO}(I:Inv X h_ σ H s)(hf:∀b∈fp,cU X h_ H b)(k:∀b u,b∉fp->s.heap.get? b=ae u->h'.get? b=ae u)
  (ha:s.heap.objs.size<=a) (new:ObjOk X.prog X.w (upd H a o) h' a o):Inv X h_ σ (upd H a o) {s with heap:=h',toks:=t'}:=by
 have d:=I.hok.fresh ha;have f:∀b u,H b=ae u->b∉fp:=λb u e z=>by rw[(hf b z).1]at e;cases e
 refine I.call' rfl ⟨λb u q _ _ z=>k b u z q,λb u q _ _ z=>⟨_,k b u z q⟩,λb u q n _=>?_,λb u q z=>⟨u,k b u z q⟩,λb i q=>?_,λb u i q=>?_,λb r q=>⟨#[],?_⟩⟩ (λb u e=>?_) I.bare (λb j=>?_)
 ·rw[aL (Be (Bi (As q) ha))];exact n
 ·rw[aL (bH q d)];exact q
 ·rw[aL (bH q d)];exact q
 ·rw[aL (bH q d),q];simp
 ·by_cases z:b=a
  ·subst z;rw[bj]at e;cases e;omega
  ·rw[aL z]at e;refine(I.hok b u e).stay (λc v m q=>k c v ?_ q) (λc q=>?_) λc y q=>?_
   ·rcases m with z|z
    ·rw[z];exact f b u e
    ·exact f c _ z
   ·rw[aL (bH q d)];exact q
   ·rw[aL (bH q d)];exact q
 ·obtain⟨x,h,t,g,p,l⟩:=hf b j;exact⟨g,h,p,l⟩
theorem Inv.many0{X:Cx}{h_:List (z_×Obj)}{σ:St}{H:Hp}{s:Aj}{h':Heap}{t':Nat}{fp:List z_}(I:Inv X h_ σ H s)(hf:∀b∈fp,cU X h_ H b)(k:∀b u,b∉fp->s.heap.get? b=ae u->h'.get? b=ae u):Inv X h_ σ H {s with heap:=h',toks:=t'}:=by
 have a:∀b u,H b=ae u->b∉fp:=λb u e z=>by rw[(hf b z).1]at e;cases e
 refine I.call' rfl ⟨λb u q _ _ z=>k b u z q,λb u q _ _ z=>⟨_,k b u z q⟩,λb u q n _=>n,λb u q z=>⟨u,k b u z q⟩,λb g q=>q,λb u g q=>q,λb m q=>⟨#[],by rw[q];simp⟩⟩ (λb u e=>?_) I.bare (λb h=>?_)
 ·refine(I.hok b u e).stay (λc v j q=>k c v ?_ q) (λc q=>q) λc r q=>q;rcases j with z|z
  ·rw[z];exact a b u e
  ·exact a c _ z
 ·obtain⟨p,f,o,d,l,i⟩:=hf b h;exact⟨d,f,l,i⟩
theorem Lg{P:Bb}{w:Bj}{K:Ag}{elts:List Expr}{kk:Nat}{pos:Pos}{a b z TI TO i1 i2:z_}(D:ZipApart z TI TO i1 i2 a b):Turn P w K (.Tuple elts kk pos) (CJ K a b) [z,TI,TO,i1,i2] z
  (λi h=>IsZip h z TI TO .none/\Gf h TI (.ref i1) (.ref i2)/\(∃x y,Gf h TO x y)/\h.IsTupleIter i1 a i/\h.IsTupleIter i2 b i) where
 mem:=by simp
 obj:=λi h j c d=>by
  obtain⟨g,f,⟨x,y,l⟩,⟨o1,e1,c1,d1⟩,⟨o2,e2,c2,d2⟩⟩:=j;simp only[Au,A4,g_]at d;rcases d with rfl|rfl|rfl|rfl|rfl
  ·exact⟨_,g,λv q=>by trivial⟩
  ·exact⟨_,f,λv q=>by trivial⟩
  ·exact⟨_,l,λv q=>by trivial⟩
  ·exact⟨o1,e1,λv q=>by simp_all⟩
  ·exact⟨o2,e2,λv q=>by simp_all⟩
 keep:=λi h h' j k=>by
  obtain⟨g,f,⟨x,y,l⟩,m,r⟩:=j;exact⟨k z (by simp) _ g,k TI (by simp) _ f,⟨x,y,k TO (by simp) _ l⟩,m.at λo e=>k i1 (by simp) o e,r.at λo e=>k i2 (by simp) o e⟩
 item:=by
  intro X O Q G d i t s σ H E I A j J;subst O Q G;obtain⟨g,f,⟨x0,y0,l⟩,m,r⟩:=j;obtain⟨xs,ys,x,y,S,R,U,ey⟩:=J;obtain⟨F,C,p,_⟩:=I.tuple S;obtain⟨Y,B,p',_⟩:=I.tuple R;obtain⟨u,hu,ru⟩:=C.get U;obtain⟨u',N,L⟩:=B.get ey;refine Pn D g f l m r (p) (p') (by simpa using hu) (by simpa using N) λh' a1 a2 a3 a4 a5 a6 T=>⟨_,rfl,wpAny_letOwnedTupleGo_zip a1 λh'' b1 n=>?_⟩;have V:∀c o,c∉[z,TI,TO,i1,i2]->s.heap.get? c=ae o->h''.get? c=ae o:=λc o d e=>by
   simp only[Au,A4,g_,not_or]at d;exact n.extBut _ _ d.1 (T c o d.1 d.2.2.1 d.2.2.2.1 d.2.2.2.2 e)
  refine⟨.ref s.heap.objs.size,upd H s.heap.objs.size (.tup [x,y]),I.many A V (Ao _) ⟨by show 2<=Aw;decide,[u,u'],.cons ru (.cons L .nil),_,(n.extBut _ _ (Dy (As g)) a5),rfl,⟨_,rfl⟩,rfl⟩,rfl,⟨_,x,y,rfl,(I.hok.fresh (Ao _)),rfl,λzs q=>by rw[I.tuple_inj q S];exact U,λzs q=>by rw[I.tuple_inj q R];omega⟩,
   ⟨b1,n.extBut _ _ D.TIz (T _ _ D.TIz D.TITO D.TIi1 D.TIi2 f),⟨_,_,n.extBut _ _ D.TOz a2⟩,a3.extBut n.extBut D.i1z,a4.extBut n.extBut D.i2z⟩,λc d=>?_⟩
  have M:c < s.heap.objs.size:=by
   simp only[Au,A4,g_]at d;rcases d with rfl|rfl|rfl|rfl|rfl
   ·exact As g
   ·exact As f
   ·exact As l
   ·obtain⟨_,e,_⟩:=m;exact As e
   ·obtain⟨_,e,_⟩:=r;exact As e
  rw[aL (Be M)];exact(A c d).1
 done:=by
  intro X O Q G d i t s σ H E I A j J;subst O Q G;obtain⟨g,f,_,m,r⟩:=j;obtain⟨xs,Z,hx⟩:=J;obtain⟨F,C,p,_⟩:=I.tuple Z;have hl:=C.length;refine RV (I.ok.hd d) D g f m (p) (by simp;omega) λh' k=>⟨rfl,I.many0 A λc o d e=>?_⟩;simp_all
 self:=λ_ _ _ _ _ j h=>wpAny_pyIter_zip j.1 h
def mD(K:Ag)(ta:TA):TI:=λσ H R=>ta σ H λvs H1=>∃a b,vs=[.ref a,.ref b]/\(∃xs,SqT K H1 a xs)/\(∃ys,SqT K H1 b ys)/\R (CJ K a b) H1
theorem Ld:Bm "zip"=ae (.type "zip"):=by rfl
theorem NI{X:Cx}{elts:List Expr}{kk:Nat}{tpos:Pos}{e1 e2:Expr}{ta:TA}{p pos:Pos}(hg:Gl X "zip")(hm:X.mg "zip"=af)(ha:PA X [e1,e2] ta)(hs:Ar [e1,e2] X.env=[(ai,eval e1 X.env),(ai,eval e2 X.env)]:=by rfl)(hs2:Ar [e2] X.env=[(ai,eval e2 X.env)]:=by rfl):
  PI X (.Tuple elts kk tpos) (.Call (.Name "zip" p) [e1,e2] [] pos) (mD X.K ta):=by
 intro i s σ H R I h;refine Call_ (jv I hg hm Ld (C3 (aO (ha pos i s σ H _ I h) λus k ⟨L,v,d,z,o⟩=>?_) (by simp_all) (by rw[hs2];rfl)));obtain⟨a,b,e,⟨M,G⟩,⟨O,C⟩,q⟩:=o;subst e;cases z with
 |cons r j=>
  cases j with
  |cons y j=>
   cases j;cases r;cases y;obtain⟨A,J,l,_⟩:=d.tuple G;obtain⟨n,u,f,_⟩:=d.tuple C;have x:a < k.heap.objs.size:=by obtain⟨_,e,_⟩:=id l;exact As e
   have B:b < k.heap.objs.size:=by obtain⟨_,e,_⟩:=id f;exact As e
   refine Px (l) (f) λh' m D t w E F=>wpAny_pyIter_zip m ⟨_,_,_,_,v,rfl,d.kept F,Lg (zipApart_new x B),⟨m,D,⟨_,_,t⟩,w,E⟩,λc N=>?_,q⟩;have g:k.heap.objs.size<=c:=by
    grind
   exact d.fpOk g (d.hok.fresh g)
end L2
namespace DL
open PySem L2 Nb
def bS(kvs:List (aF×Ad))(k:aF):Option Ad:=(kvs.find? λkv=>decide (kv.1=k)).map (·.2)
def fU(kvs:List (aF×Ad))(k:aF)(v:Ad):List (aF×Ad):=
 if (kvs.any λkv=>decide (kv.1=k))=ah then kvs.map (λkv=>if kv.1=k then(kv.1,v)else kv)else kvs++[(k,v)]
def p6(kvs more:List (aF×Ad)):List (aF×Ad):=more.foldl (λi' kv=>fU i' kv.1 kv.2) kvs
section
variable{H H':Hp}{B B':z_->Prop}{l:List (aF×V)}{m:List (aF×Ad)}{v:V}{d:Ad}{t:z_}
theorem RdK.len(h:RdK H B l m):l.length=m.length:=by
 induction h with
 |nil=>rfl
 |cons _ _ a=>rw[Ax,Ax,a]
theorem RdK.val(h:RdK H B l m)(k:aF):(cg l k=af/\bS m k=af)\/∃v d,cg l k=ae v/\bS m k=ae d/\RdX H B v d:=by
 induction h with
 |nil=>exact .inl ⟨rfl,rfl⟩
 |@cons p q b a r _ i=>
  by_cases e:p.1=k
  ·have g:=r.1▸e;exact .inr ⟨p.2,q.2,by simp[cg,e],by simp[bS,g],r.2⟩
  ·have f:cg (p::b) k=cg b k:=by simp[cg,e]
   have c:bS (q::a) k=bS a k:=by simp[bS,(r.1▸e)]
   rw[f,c];omega
theorem RdK.any(h:RdK H B l m)(k:aF):(l.any λkv=>decide (kv.1=k))=(m.any λkv=>decide (kv.1=k)):=by
 induction h with
 |nil=>rfl
 |cons r _ a=>rw[C6,C6,a,r.1]
theorem RdK.map(h:RdK H B l m)(r:RdX H B v d)(k:aF):RdK H B (l.map λkv=>if kv.1=k then(kv.1,v)else kv) (m.map λkv=>if kv.1=k then(kv.1,d)else kv):=by
 induction h with
 |nil=>exact .nil
 |@cons p q f c a _ b=>
  rw[Bo,Bo];refine .cons ?_ b;by_cases e:p.1=k
  ·rw[a' e,a' (a.1▸e:q.1=k)];exact⟨a.1,r⟩
  ·rw[a_ e,a_ (a.1▸e:¬q.1=k)];omega
theorem RdK.append{l2:List (aF×V)}{m2:List (aF×Ad)}(h:RdK H B l m)(h2:RdK H B l2 m2):RdK H B (l++l2) (m++m2):=by
 induction h with
 |nil=>exact h2
 |cons b _ a=>exact .cons b a
theorem RdK.put(h:RdK H B l m)(r:RdX H B v d)(k:aF):RdK H B (bQ l k v) (fU m k d):=by
 unfold bQ fU;rw[h.any k]
 split
 ·exact h.map r k
 ·exact h.append (.cons ⟨rfl,r⟩ .nil)
theorem RdK.merge{l2:List (aF×V)}{m2:List (aF×Ad)}(h2:RdK H B l2 m2):∀{l:List (aF×V)}{m:List (aF×Ad)},RdK H B l m->RdK H B (kg l l2) (p6 m m2):=by
 induction h2 with
 |nil=>intro l m h;exact h
 |@cons p q b c r _ a=>
  intro l m h;show RdK H B (kg (bQ l p.1 p.2) b) _;rw[r.1];exact a (h.put r.2 _)
theorem zd(l:List (aF×V))(k:aF)(v:V):(bQ l k v).length<=l.length+1:=by
 unfold bQ
 split
 ·rw[Ab];omega
 ·rw[An];exact Ao _
theorem RI(l2:List (aF×V)):∀l:List (aF×V),(kg l l2).length<=l.length+l2.length:=by
 induction l2 with
 |nil=>exact λl=>Ao _
 |cons p r a=>
  intro l;show(kg (bQ l p.1 p.2) r).length<=_;have:=a (bQ l p.1 p.2);have:=zd l p.1 p.2;rw[Ax];omega
end
section
variable{X:Cx}{a b c e o i f:Expr}{ta tb te td ty tx:TE}{wa wb we wd' wy wx:DT}{pos p:Pos}{K:Ag}
def dF(i:Nat):DT:=λδ n Q=>match δ[i]? with
 |some (ae (.odk kvs))=>Q (.dk kvs) n
 |some (ae (.w x))=>Q x n
 |_=>False
theorem PY(i:Nat){x:Str}{p:Pos}(hN:X.N[i]?=ae x:=by rfl)(hv:ej X.env.scope x:=by first|exact Ce rfl|exact Bz (Ce rfl)|exact Bz (Bz rfl))(hd:(x==("__debug__":Str))=ai:=by decide)
  (q_:(x==("__classdict__":Str))=ai:=by decide):DE X (.Name x p) (aM i) (dF i):=⟨fm hN hv hd q_,λC H B σ δ n Q m R h k=>by
 unfold dF at h
 split at h
 ·rename_i b e;obtain⟨v,c,a,l,rfl,j,o,g,q,f⟩:=R.sl i _ e;exact⟨_,c,k _ (.dk b) H n R (Kp.refl _ _) ⟨a,l,rfl,j,λz=>R.t0 (z▸g),f⟩ h⟩
 ·rename_i x e;obtain⟨v,c,d⟩:=R.sl i _ e;exact⟨v,c,k v x H n R (Kp.refl _ _) d.1 h⟩
 ·exact h.elim⟩
def fT:Wv->Wv->Int->DQ->Prop:=λx y n Q=>match x,y with
 |.dk kvs,.d (.str k)=>match bS kvs (.inr k)with
  |some d=>Q (.d d) n
  |none=>False
 |_,_=>False
theorem Mx(hu:X.A.units+64 < C9)(ho:DE X o td wd')(hi:DE X i ty wy)(hs:h9 i:=by exact λ_ _=>rfl):DE X (.Subscript o i pos) (v7 td ty) (w2 wd' wy fT):=⟨QJ ⋯ ho.pe hi.pe hs,λC H B σ δ n Q K R h k=>
 ho.sd C H B σ δ n _ _ R h λv x t w j J D q=>hi.sd C t B σ δ w _ _ j q λu y g s z f F c=>by
  unfold fT at c
  split at c
  ·rename_i p b;obtain⟨a,l,rfl,I,L,E⟩:=(D.kp f j.bt);cases(show RdX g B u (.str b)from F);rcases E.val (.inr b)with⟨m,e⟩|⟨v,d,m,e,r⟩
   ·rw[e]at c;exact c.elim
   ·rw[e]at c;exact⟨a,v,rfl,.inl ⟨l,.inr b,.inl I,rfl,m.symm⟩,k v (.d d) g s z (J.trans f) r c⟩
  ·exact c.elim⟩
def eB(neg:Bool):Wv->Wv->Int->DQ->Prop:=λx y n Q=>match x,y with
 |.d (.str k),.dk kvs=>Q (.d (.bool (if neg then !(bS kvs (.inr k)).isSome else(bS kvs (.inr k)).isSome))) n
 |_,_=>False
theorem Th(hi:DE X i ty wy)(ho:DE X o td wd'):dG (jX ty td) (w2 wy wd' (eB ai)):=λC H B σ δ n Q J R h k=>
 hi.sd C H B σ δ n _ _ R h λv x s t m G z q=>ho.sd C s B σ δ t _ _ m q λu y j r w g D c=>by
  unfold eB at c
  split at c
  ·rename_i b p;obtain⟨a,l,rfl,F,K,A⟩:=D;cases(show RdX j B v (.str b)from(z.kp g m.bt));refine⟨a,_,rfl,.inl ⟨l,.inr b,.inl F,rfl,rfl⟩,k _ _ j r w (G.trans g) (wd (.bl _)) ?_⟩;rcases A.val (.inr b)with⟨f,e⟩|⟨v,d,f,e,I⟩
   ·rw[f];rw[e]at c;exact c
   ·rw[f];rw[e]at c;exact c
  ·exact c.elim
theorem Kv(hi:DE X i ty wy)(ho:DE X o td wd'):dG (m4 ty td) (w2 wy wd' (eB ah)):=λC H B σ δ n Q J R h k=>
 hi.sd C H B σ δ n _ _ R h λv x s t m G z q=>ho.sd C s B σ δ t _ _ m q λu y j r w g D c=>by
  unfold eB at c
  split at c
  ·rename_i b p;obtain⟨a,l,rfl,F,K,A⟩:=D;cases(show RdX j B v (.str b)from(z.kp g m.bt));refine⟨a,_,rfl,.inl ⟨l,.inr b,.inl F,rfl,rfl⟩,k _ _ j r w (G.trans g) (wd (.bl _)) ?_⟩;rcases A.val (.inr b)with⟨f,e⟩|⟨v,d,f,e,I⟩
   ·rw[f];rw[e]at c;exact c
   ·rw[f];rw[e]at c;exact c
  ·exact c.elim
theorem N1(hu:X.A.units+64 < C9)(hi:DE X i ty wy)(ho:DE X o td wd')(hm:Cg .In o=ai:=by with_unfolding_all rfl):DE X (.Compare i [.In] [o] pos) (jX ty td) (w2 wy wd' (eB ai)):=⟨AG (JM ⋯ hi.pe ho.pe) hm,Th hi ho⟩
theorem GD(hu:X.A.units+64 < C9)(hi:DE X i ty wy)(ho:DE X o td wd')(hm:Cg .NotIn o=ai:=by with_unfolding_all rfl):DE X (.Compare i [.NotIn] [o] pos) (m4 ty td) (w2 wy wd' (eB ah)):=⟨AG (AH ⋯ hi.pe ho.pe) hm,Kv hi ho⟩
def Tu(wd wy wx:DT):DT:=λδ n Q=>wd δ n λx n1=>match x with
 |.dk kvs=>wy δ n1 λy n2=>wx δ n2 λz n3=>match y,z with
  |.d (.str k),.d z=>Q (.d ((bS kvs (.inr k)).getD z)) n3
  |_,_=>False
 |_=>False
abbrev jM:=Sl->Int->(List (aF×Ad)->Int->Prop)->Prop
def va(t:TE)(w:jM):Prop:=∀(C:Ctx)(H:Hp)(B:z_->Prop)(σ:St)(δ:Sl)(n:Int)(Q:List (aF×Ad)->Int->Prop)(Q':VK),Rel C H B σ δ n->w δ n Q->
 (∀a l kvs H' n',Rel C H' B σ δ n'->Kp C.t H H'->H a=af->H' a=ae (.dK l)->l.length<=1000->RdK H' (λb=>B b\/b=a) l kvs->Q kvs n'->Q' (.ref a) H')->t σ H Q'
structure DN(X:Cx)(e:Expr)(t:TE)(w:jM):Prop where
 pe:PE X e t
 sd:va t w
def j0:jM:=λ_ n Q=>Q [] n
theorem OH:DN X (.Dict [] [] pos) xk j0:=⟨Hm,λC H B σ δ n Q c R q k=>λa b=>k a [] [] _ n (R.new b) (Kp.new b) b bj (Az _) .nil q⟩
def kG:List Ad->Option (List (aF×Ad))
 |[]=>ae []
 |.tuple [.str k,d]::r=>(kG r).map ((.inr k,d)::·)
 |_=>af
theorem vN{H:Hp}{B:z_->Prop}:∀{xs:List V}{ds:List Ad}{ps:List (aF×Ad)},RdXs H B xs ds->kG ds=ae ps->∃qs:List (z_×aF×V),xs=qs.map (λp=>V.ref p.1)/\(∀p∈qs,H p.1=ae (.tup [kV p.2.1,p.2.2]))/\RdK H B (qs.map (·.2)) ps
 |_,_,ps,.nil,h=>by
  cases h;exact⟨[],rfl,λp b=>f_ b A4,Paired.nil⟩
 |_,_,ps,.cons (ds:=ds) j h2,h=>by
  unfold kG at h
  split at h
  ·rename_i e;cases e
  ·rename_i k t r e;cases e;cases c:kG ds with
   |none=>rw[c]at h;cases h
   |some f=>
    rw[c]at h;cases h;obtain⟨qs,m,g,i⟩:=vN h2 c;cases j with
    |@tup a v _ q w u n=>
     cases n with
     |cons d l=>
      cases l with
      |cons s o=>
       cases o;cases d;refine⟨(a,.inr k,_)::qs,by rw[m];rfl,λp b=>?_,.cons ⟨rfl,s⟩ i⟩;rcases Au.mp b with rfl|z
       ·exact q
       ·exact g p z
  ·cases h
def yA:List V->Hp->VK->Prop:=λxs H Q=>∃(src:z_)(ps:List (z_×aF×V)),xs=[.ref src]/\H src=ae (.tup (ps.map λp=>V.ref p.1))/\(∀p∈ps,H p.1=ae (.tup [kV p.2.1,p.2.2]))/\ps.length<=1000 /\
  ∀l,H l=af->Q (.ref l) (L2.upd H l (.dK (kg [] (ps.map (·.2)))))
def iO(w:DT):jM:=λδ n Q=>w δ n λx n1=>match x with
 |.d (.tuple ds)=>match kG ds with
  |some ps=>ds.length<=1000/\Q (p6 [] ps) n1
  |none=>False
 |_=>False
theorem zo(hh:X.A.handled=af)(hg:Gl X "dict")(hm:X.mg "dict"=af)(he:DE X e te we)(hv:Bm "dict"=ae (.type "dict"):=by decide +kernel)
  (he':Ar [e] X.env=(ai,eval e X.env)::Ar [] X.env:=by rfl) (p_:(Cp pos (Ar [] X.env)).any (·.1)=ai:=by rfl):DN X (.Call (.Name "dict" p) [e] [] pos) (fk yA (bJ te bf)) (iO we):=
 ⟨m6 (G7 hh) hg hm hv (cw he.pe eu he') ∎ ∎ he' p_,λC H B σ δ n Q K R q k=>
  he.sd C H B σ δ n _ _ R q λv x u y g i E d=>by
   split at d
   ·rename_i m
    split at d
    ·rename_i J w;cases(show RdX u B v (.tuple m)from E)with
     |@tup a M _ I N L h=>
      obtain⟨f,D,r,s⟩:=vN h w;subst D;have j:f.length<=1000:=by have:=h.len;simp_all
      refine⟨a,f,rfl,I,r,j,λl c=>k l _ _ _ y (g.new c) (i.trans (Kp.new c)) (g.was i c) bj ?_ ?_ d.2⟩
      ·have:=RI (f.map (·.2)) [];rw[Ab]at this;have z:([]:List (aF×V)).length=0:=rfl;omega
      ·exact RdK.merge (s.move λb o e n=>⟨by rw[aL (bH e c)];exact e,λz=>z.elim n λq=>bH e c q⟩) .nil
    ·exact d.elim
   ·exact d.elim⟩
def jm(i:Nat)(w:jM):aH:=λδ n K=>w δ n λkvs n1=>K.nx (δ.set i (ae (.odk kvs))) n1
theorem Lq{i:Nat}{x:Str}{pos':Pos}{w:jM}(hN:X.N.Nodup)(hi:X.N[i]?=ae x)(hx:eZ X.env.scope x)(he:DN X e te w)(hs:Ci e (ae (.Name x pos')) pos.line X.env=pure ai:=by rfl)(hf:X.fn x=ah\/X.env.scope.names.lookup x=ae .local:=by first|exact .inl rfl|exact .inr rfl|assumption):
  DS X (.Assign [.Name x pos'] e pos) (bz te (df i)) (jm i w):=⟨fC hN hi hx he.pe hs hf,λC H B σ δ n K D R q E=>
 he.sd C H B σ δ n _ _ R q λa l g m o j k b c d f h=>by
  refine E.nx _ _ _ _ _ (R.own j k b (by rw[c];simp) rfl ?_) h;exact⟨a,l,rfl,c,.inr rfl,R.h0 b,d,f⟩⟩
def ll(i:Nat)(wy wv:DT):aH:=λδ n K=>match δ[i]? with
 |some (ae (.odk kvs))=>wv δ n λv n1=>wy δ n1 λy n2=>match v,y with
  |.d d,.d (.str k)=>kvs.length < 1000/\K.nx (δ.set i (ae (.odk (fU kvs (.inr k) d)))) n2
  |_,_=>False
 |_=>False
theorem Hb{i:Nat}{x:Str}{xp sp:Pos}{j e:Expr}{tj te:TE}{wj we:DT}(hu:X.A.units+64 < C9)(hN:X.N[i]?=ae x)(hj:DE X j tj wj)(he:DE X e te we)(hv:ej X.env.scope x:=by first|exact Ce rfl|exact Bz (Ce rfl)|exact Bz (Bz rfl))(hd:(x==("__debug__":Str))=ai:=by decide)
  (q_:(x==("__classdict__":Str))=ai:=by decide) (hs:Ci e (ae (.Subscript (.Name x xp) j sp)) pos.line X.env=pure ai:=by rfl):
  DS X (.Assign [.Subscript (.Name x xp) j sp] e pos) (sH (aM i) tj te) (ll i wj we):=
 ⟨zc ⋯ (fm hN hv hd q_) hj.pe he.pe hs,λC H B σ δ n K D R q E=>by
  unfold ll at q
  split at q
  ·rename_i I F;refine he.sd C H B σ δ n _ _ R q λu y O P h Z T L=>?_;obtain⟨v,hv,a,l,rfl,Q,p,r,W,J⟩:=h.sl i _ F;refine⟨_,hv,hj.sd C O B σ δ P _ _ h L λw z M Y S m U g=>?_⟩
   split at g
   ·rename_i d c;cases(show RdX M B w (.str c)from U);have s:a≠C.t:=λz=>R.t0 (z▸r);have f:=J.move λb o e n=>⟨m b o e λz=>n (z▸h.bt),n⟩;have G:l.length < 1000:=by rw[f.len];exact g.1
    refine⟨a,_,rfl,DPut.k (k:=.inr c) (m _ _ Q s) (Bi G (fc (Ao _))),E.nx _ _ _ _ _ (S.mutOwn F rfl hv p r ?_ rfl) g.2⟩;refine⟨a,_,rfl,bj,p,r,?_,?_⟩
    ·have:=zd l (.inr c) u;omega
    ·exact(f.put (T.kp m h.bt) _).move λb o e n=>⟨by rw[aL λ(z:b=a)=>n (z▸p)];exact e,n⟩
   ·exact g.elim
  ·exact q.elim⟩
def lK(i:Nat)(w:DT):DT:=λδ n Q=>w δ n λx n1=>match x,δ[i]? with
 |.d a,ae (ae (.own ds))=>eI a=ah/\ds.all eI=ah/\Q (.d (.bool (bW a ds))) n1
 |_,_=>False
theorem G6{i:Nat}(h:dG ta wa):dG (dt (gE K ai) ta (aM i)) (lK i wa):=λC H B σ δ n Q r R q k=>
 h C H B σ δ n _ _ R q λv x g l d p f b=>by
  split at b
  ·rename_i w y e;obtain⟨u,j,a,m,rfl,o,t,s,z,c⟩:=d.sl i _ e;refine⟨_,j,a,m,rfl,.inl (SqL.of o),kr f b.1,jw c b.2.1,k _ _ g l d p (wd (.bl _)) ?_⟩;rw[kJ f c];exact b.2.2
  ·exact b.elim
theorem S4(i:Nat){x:Str}{xp:Pos}(ha:DE X a ta wa)(hK:X.K=K:=by rfl)(hN:X.N[i]?=ae x:=by rfl)(hv:ej X.env.scope x:=by first|exact Ce rfl|exact Bz (Ce rfl)|exact Bz (Bz rfl))(hd:(x==("__debug__":Str))=ai:=by decide)
  (q_:(x==("__classdict__":Str))=ai:=by decide) (hm:Cg .In (Expr.Name x xp)=ai:=by with_unfolding_all rfl):DC X (.Compare a [.In] [.Name x xp] pos) (gy (dt (gE K ai) ta (aM i))) (cT (lK i wa)):=
 ⟨jA (qp hK) ha.pe (fm hN hv hd q_) hm,kI (G6 ha.sd)⟩
end
section
variable{X:Cx}{a b c e o i f:Expr}{ta tb te td ty tx:TE}{wa wb we wd' wy wx:DT}{pos p:Pos}{K:Ag}
def b4(ps:List (Str×Ad)):List (aF×Ad):=ps.map λp=>(Dh p.1,p.2)
def jh(ps:List (Str×Ad)):Prop:=ps.Pairwise λa b=>¬b.1.cps.toList < a.1.cps.toList
def wK(w:DT):d6:=λδ n Q=>w δ n λx n1=>match x with
 |.dk kvs=>∃ps:List (Str×Ad),kvs=b4 ps/\ps.length < 64/\(ps.map (·.1)).Nodup/\(∀p∈ps,p.1.length<=1000/\eI p.2=ah)/\∀ps':List (Str×Ad),ps'.Perm ps->jh ps'->Q (ps'.map λp=>.tuple [.str p.1,p.2]) n1
 |_=>False
theorem tZ{H:Hp}{B:z_->Prop}:∀{l:List (aF×V)}{ps:List (Str×Ad)},RdK H B l (b4 ps)->∃xv:List V,xv.length=ps.length/\l=(((ps.map (·.1)).zip xv).map λp=>((Dh p.1:aF),p.2))/\RdXs H B xv (ps.map (·.2))
 |[],[],_=>⟨[],rfl,rfl,.nil⟩
 |[],_::_,h=>nomatch h
 |_::_,[],h=>nomatch h
 |q::l,p::ps,.cons r h=>by
  obtain⟨xv,c,b,a⟩:=tZ h;refine⟨_,by simp[c],?_,.cons r.2 a⟩;rw[b];have d:q.1=(Dh p.1:aF):=r.1;have:q=((Dh p.1:aF),q.2):=by rw[<-d]
  rw[this];rfl
def QE:V->List V->Hp->VK->Prop:=λx vs H Q=>∃d kvs,x=.ref d/\vs=[]/\H d=ae (.dK kvs)/\∀v,H v=af->Q (.ref v) (upd H v (jO d v))
theorem zf{α β:Type}{f:α->β}{l:List α}{i:Nat}{x:α}{y:β}(h:i < l.length):(l.map f).getD i y=f (l.getD i x):=by simp[h]
theorem LB{ap ip:Pos}(hh:X.A.handled=af)(hg:Gl X "sorted")(hm:X.mg "sorted"=af)(ho:DE X o td wd')(hv:Bm "sorted"=ae (.builtin "sorted"):=by decide +kernel)(hK:X.K=K:=by rfl)
  (hbase:Gq o "items" X.env (eval o X.env)=eval o X.env:=by rfl) (hline:(ap.endLine==ip.line)=ah:=by rfl)
  (he':Ar [Expr.Call (.Attribute o "items" ap) [] [] ip] X.env=(ai,eval (Expr.Call (.Attribute o "items" ap) [] [] ip) X.env)::Ar [] X.env:=by rfl) (p_:(Cp pos (Ar [] X.env)).any (·.1)=ai:=by rfl):
  DF X (.Call (.Name "sorted" p) [.Call (.Attribute o "items" ap) [] [] ip] [] pos) (fk yQ (bJ (kl K "dict" QE td) bf)) (wK wd'):=by
 subst hK;refine⟨jG (SH hh) hg hm hv (cw (CV PySem.F.plainAttrs_dict PySem.F.slot_dict_items PySem.F.type_dict_items HM ho.pe hbase hline) eu he') ∎ ∎ he' p_,λC H B σ δ n Q Q' R q k=>
  ho.sd C H B σ δ n _ _ R q λv x N n1 R1 k1 r1 J=>?_⟩
 cases x with
 |d _=>exact J.elim
 |tp=>exact J.elim
 |ln _=>exact J.elim
 |ob _=>exact J.elim
 |dx _=>exact J.elim
 |dk kvs=>
  obtain⟨a,l,rfl,Y,g2,g3⟩:=r1;obtain⟨c,rfl,h64,nd,M,kq⟩:=J;obtain⟨E,ex1,ex2,T⟩:=tZ g3;refine⟨.inr (.inr (.inl ⟨rfl,.inl ⟨l,Y⟩⟩)),a,l,rfl,rfl,Y,λv hv=>?_⟩;have R2:=R1.new (o:=jO a v) hv;have kp2:Kp C.t N (upd N v (jO a v)):=Kp.new hv;refine⟨v,a,_,E,rfl,bj,by rw[Ab,ex1],by rw[aL (bH Y hv),Y,ex2],by rw[Ab];exact h64,nd,jw T ?_,λD u s U Z g O sm hD has hD' hit=>?_⟩
  ·rw[Cy];intro d hd;obtain⟨p,hp,rfl⟩:=A5.mp hd;exact(M p hp).2
  ·rw[Ab]at Z g;have hDn:=R1.was k1 (by
    cases q:N D with
    |none=>rfl
    |some o=>
     have:upd N v (jO a v) D=ae o:=by rw[aL (bH q hv)];exact q
     rw[hD]at this;cases this)
   have I:∀i∈s,i < c.length:=λi W=>Bx.mp (g.mem_iff.mp W);have lidx:s.length=c.length:=by rw[g.length_eq,Dt]
   refine k D _ _ U n1 (R2.same sm) ((k1.trans kp2).trans λb o e _=>sm b o e) hDn hD' (by rw[Ab];exact fc ⋯) ?_ (kq (s.map λi=>c.getD i (⟨#[]⟩,.none)) ?_ ?_)
   ·rw[B4];have l_:∀m:List Nat,(∀i∈m,i∈s)->RdXs U (λb=>B b\/b=D) (m.map λi=>V.ref (fB u (c.map (·.1)) E i).1) (m.map ((λp=>PyData.tuple [.str p.1,p.2]) ∘ λi=>c.getD i (⟨#[]⟩,.none))):=by
     intro m
     induction m with
     |nil=>exact λ_=>.nil
     |cons i r ih=>
      intro hm;have W:=hm i Ap;have w:=I i W;refine .cons ?_ (ih λj hj=>hm j (Ak _ hj));have ht:=hit i W;have L:i < u.length:=by simp_all
      have eA:(fB u (c.map (·.1)) E i).1=u[i]:=by show u.getD i 0=_;simp[L]
      have eK:(fB u (c.map (·.1)) E i).2.1=c[i].1:=by show(c.map (·.1)).getD i _=_;simp[w]
      have S:i < E.length:=by simp_all
      have eX:(fB u (c.map (·.1)) E i).2.2=E[i]:=by show E.getD i .non=_;simp[S]
      rw[eA,eK,eX]at ht;show RdX U _ (.ref (fB u _ E i).1) _;rw[eA];have eP:c.getD i (⟨#[]⟩,.none)=c[i]:=by simp[w]
      show RdX U _ _ (.tuple [.str (c.getD i _).1,(c.getD i _).2]);rw[eP];have nD:u[i]≠D:=λz=>by simp_all
      refine .tup ht (λz=>z.elim (R2.nb (has u[i] (Ck L))) nD) (by show 2<=Aw;decide) (.cons (.str _ (fc (M c[i] (Ck w)).1)) (.cons ?_ .nil));obtain⟨d,f1,f2⟩:=T.get (Ah S);rw[Am,Ah w]at f1;cases f1;exact f2.move λb o e n=>⟨sm b o (by rw[aL (bH e hv)];exact e),λz=>z.elim n λq=>by
       have e2:upd N v (jO a v) b=ae o:=by rw[aL (bH e hv)];exact e
       simp_all⟩
    exact l_ s λ_ h=>h
   ·have h1:=g.map λi=>c.getD i ((⟨#[]⟩:Str),PyData.none);have h2:(A8 c.length).map (λi=>c.getD i ((⟨#[]⟩:Str),PyData.none))=c:=by
     apply Fc (by simp);intro i h1 h2;simp[h2]
    rw[h2]at h1;omega
   ·unfold jh;rw[F1];rw[F1]at O;refine List.Pairwise.imp_of_mem (λ{x y} hx hy h=>?_) O;rw[zf (I x hx),zf (I y hy)]at h;exact h
def CL(w:DT):d6:=λδ n Q=>w δ n λx n1=>match x with
 |.dk kvs=>∃ps:List (Str×Ad),kvs=b4 ps/\ps.length < 64/\(∀p∈ps,p.1.length<=1000)/\∀ys:List Str,ys.Perm (ps.map (·.1))->ys.Pairwise (λa b=>¬b.cps.toList < a.cps.toList)->Q (ys.map .str) n1
 |_=>False
theorem mK{H:Hp}{B:z_->Prop}:∀{ys:List Str},(∀y∈ys,y.length<=1000)->RdXs H B (ys.map V.str) (ys.map .str)
 |[],_=>.nil
 |y::r,h=>.cons (.str _ (fc (h y Ap))) (mK λz a=>h z (Ak _ a))
theorem PH(hh:X.A.handled=af)(hg:Gl X "sorted")(hm:X.mg "sorted"=af)(ho:DE X o td wd')(hv:Bm "sorted"=ae (.builtin "sorted"):=by decide +kernel)
  (he':Ar [o] X.env=(ai,eval o X.env)::Ar [] X.env:=by rfl) (p_:(Cp pos (Ar [] X.env)).any (·.1)=ai:=by rfl):
  DF X (.Call (.Name "sorted" p) [o] [] pos) (fk xw (bJ td bf)) (CL wd'):=by
 refine⟨jG (LY hh) hg hm hv (cw ho.pe eu he') ∎ ∎ he' p_,λC H B σ δ n Q O R q k=>
  ho.sd C H B σ δ n _ _ R q λv x N E s u I b=>?_⟩
 cases x with
 |d _=>exact b.elim
 |tp=>exact b.elim
 |ln _=>exact b.elim
 |ob _=>exact b.elim
 |dx _=>exact b.elim
 |dk z=>
  obtain⟨a,l,rfl,L,V,J⟩:=I;obtain⟨r,rfl,f,i,K⟩:=b;obtain⟨F,j,g,w⟩:=tZ J;refine⟨a,l,r.map (·.1),rfl,L,?_,by rw[Ab];exact f,λD t e G m=>?_⟩
  ·rw[g,B4];show((r.map _).zip F).map (Dh ∘ Prod.fst)=_;rw[<-B4,List.map_fst_zip (by rw[j];simp)]
  ·have h:∀y∈t,y.length<=1000:=λy h=>by
    obtain⟨p,c,rfl⟩:=A5.mp (e.mem_iff.mp h);exact i p c
   refine k D _ _ _ E (s.new m) (u.trans (Kp.new m)) (s.was u m) bj ?_ (mK h) (K t e G);rw[Ab,e.length_eq,Ab];exact fc ⋯
def dU(xs ys:List Ad):List Ad:=List.zipWith (λx y=>.tuple [x,y]) xs ys
def m7(w w':DT):fW:=λδ n Q=>w δ n λx n1=>w' δ n1 λy n2=>match x,y with
 |.d (.tuple xs),.d (.tuple ys)=>xs.length=ys.length/\Q (dU xs ys) n2
 |_,_=>False
theorem Js{elts:List Expr}{kk:Nat}{tpos:Pos}(hg:Gl X "zip")(hm:X.mg "zip"=af)(ha:DE X a ta wa)(hb:DE X b tb wb)(hK:X.K=K:=by rfl)(hs:Ar [a,b] X.env=[(ai,eval a X.env),(ai,eval b X.env)]:=by rfl)(hs2:Ar [b] X.env=[(ai,eval b X.env)]:=by rfl)
  (he1:Ar [a,b] X.env=(ai,eval a X.env)::Ar [b] X.env:=by rfl) (he2:Ar [b] X.env=(ai,eval b X.env)::Ar [] X.env:=by rfl):
  DI X (.Tuple elts kk tpos) (.Call (.Name "zip" p) [a,b] [] pos) (mD K (bJ ta (bJ tb bf))) (m7 wa wb):=by
 subst hK;refine⟨NI hg hm (cw ha.pe (cw hb.pe eu he2) he1) hs hs2,λC H B σ δ n Q Q' R q k=>ha.sd C H B σ δ n _ _ R q λv x H1 n1 R1 k1 r1 q1=>hb.sd C H1 B σ δ n1 _ _ R1 q1 λu y s n2 R2 U r2 g=>?_⟩;have P:=r1.kp U R1.bt
 split at g
 ·rename_i h r;cases(show RdX s B v (.tuple h)from P)with
  |@tup aa w _ e1 e2 e3 t=>
   cases(show RdX s B u (.tuple r)from r2)with
   |@tup ab F _ f1 f2 f3 f4=>
    refine⟨aa,ab,rfl,⟨w,SqT.of e1⟩,⟨F,SqT.of f1⟩,k _ _ s n2 R2 (k1.trans U) (λfz j=>?_) g.2⟩;have I:=j.2 _ _ e1 e2;have Y:=j.2 _ _ f1 f2;have m:(dU h r).length=h.length:=by unfold dU;rw[List.length_zipWith,g.1,Nat.min_self]
    refine⟨by rw[m,<-t.len];exact e3,λi H f l=>?_,λH f=>?_,λi H x H' d f V L=>?_⟩
    ·rw[m]at l;have h1:i < w.length:=by rw[t.len];exact l
     have h2:i < F.length:=by rw[f4.len,<-g.1];omega
     exact⟨w,F,_,_,SqT.of (f _ _ I),SqT.of (f _ _ Y),Ah h1,Ah h2⟩
    ·exact⟨w,SqT.of (f _ _ I),by rw[m,t.len];simp⟩
    ·obtain⟨T,x1,y1,rfl,A,rfl,hx,L⟩:=L;refine⟨λb o e=>by rw[aL (bH e A)];exact e,λB' hB E=>?_⟩;have l:i < h.length:=by rw[<-m];exact(Aq.mp V).1
     have N:i < r.length:=by simp_all
     have ed:d=.tuple [h[i],r[i]]:=by
      unfold dU at V;simp_all
     subst ed;obtain⟨u1,D,M⟩:=t.getD (Ah l);obtain⟨u2,S,J⟩:=f4.getD (Ah N);have W:=hx _ (SqT.of (f _ _ I));have t2:=L _ (SqT.of (f _ _ Y));rw[D]at W;rw[S]at t2;cases W;cases t2;have Z:∀b o,s b=ae o->¬B b->upd H T (.tup [x1,y1]) b=ae o/\¬B' b:=λb o e ne=>by
      have:=f _ _ (j.2 _ _ e ne);exact⟨by rw[aL (bH this A)];exact this,hB _ _ (j.2 _ _ e ne)⟩
     exact .tup bj (λz=>E T z A) (by show 2<=Aw;decide) (.cons (M.move Z) (.cons (J.move Z) .nil))
 ·exact g.elim
end
end DL
namespace L2
open PySem PySem.Spec PyProof.Rows PySem.SeqAt
end L2
namespace DL
open PySem L2 Nb
section
variable{X:Cx}{K:Ag}
def yp(K:Ag)(f:Ad->Ad->Option Bool):R2:=λx y H Q=>∃d e b,RdD K H x d/\RdD K H y e/\d.canLay0=ah/\e.canLay0=ah/\d.depth<=20/\e.depth<=20/\f d e=ae b/\Q (.bl b) H
theorem ED(hu:X.A.units+64 < C9)(hK:X.K=K:=by rfl):OpR X (Bv .Eq) (yp K λd e=>ae (Cj d e)):=by
 subst hK;intro a s σ H x y v u Q I i k h;obtain⟨d,e,b,j,c,f,g,o,p,m,q⟩:=h;cases m;obtain⟨t,l⟩:=RdD.reads I j i;obtain⟨r,n⟩:=RdD.reads I c k;exact SeqAt.compareEq_reads l n f g ⋯ ⟨.bl _,H,I,rfl,q⟩
def iK(f:Ad->Ad->Option Bool):Wv->Wv->Int->DQ->Prop:=λx y n Q=>match x,y with
 |.d d,.d e=>d.canLay0=ah/\e.canLay0=ah/\d.depth<=20/\e.depth<=20/\∃b,f d e=ae b/\Q (.d (.bool b)) n
 |_,_=>False
theorem zO{f:Ad->Ad->Option Bool}:bh (yp K f) (iK f):=λC H B σ δ n x y p q Q r R g i a k=>by
 unfold iK at a
 split at a
 ·rename_i d e;obtain⟨m,j,c,h,b,l,o⟩:=a;exact⟨d,e,b,RdX.rd g,RdX.rd i,m,j,c,h,l,k _ _ H n R (Kp.refl _ _) (wd (.bl b)) o⟩
 ·exact a.elim
end
end DL
namespace L2
open PySem PySem.Spec PyProof.Rows PySem.W
section
variable{prog:Bb}{w:Bj}{A:Bt}{E:Af->Aj->Prop}{s:Aj}
theorem FZ{src:Source}{n:Nat}{Q:Nat->Aj->Prop}(hn:n≠0)(h:∀i dr,i < n->Q i {s with drawn:=dr}):A6 (A9 prog w) A (choose src n) Q E s:=
 λ_ _ _=>⟨hn,h _ _ (Nat.mod_lt _ (Nat.pos_of_ne_zero hn))⟩
theorem rV{α:Type}:∀(l:List α)(i:Nat)(h:i < l.length),(l[i]::l.eraseIdx i).Perm l
 |x::r,0,_=>List.Perm.refl _
 |x::r,i+1,h=>(List.Perm.swap x _ _).trans ((rV r i _).cons x)
theorem vX{α:Type}:∀(n:Nat)(xs:List α)(s:Aj){Q:List α->Aj->Prop},xs.length=n->(∀ys dr,ys.Perm xs->Q ys {s with drawn:=dr})->A6 (A9 prog w) A (drawOrder n xs) Q E s
 |0,xs,s,Q,a,h=>by
  cases Gj a;exact Ai (h [] s.drawn (List.Perm.refl _))
 |n+1,[],s,Q,a,h=>by trivial
 |n+1,x::r,s,Q,a,h=>by
  refine Aa (FZ (by simp) λi dr c=>?_);rw[Ah c];exact Aa (vX n _ _ (by rw[List.length_eraseIdx_of_lt c];simp_all) λys b d=>Ai (h _ b ((d.cons _).trans (rV _ _ c))))
theorem zW{α:Type}(next:Nat->Nat):∀(fuel k:Nat)(left:List α)(out:Array α),left.length=fuel->(pickOrder.go next fuel k left out).toList.Perm (out.toList++left)
 |0,k,left,out,b=>by
  cases Gj b;simp[pickOrder.go]
 |fuel+1,k,left,out,b=>by
  have a:next k % left.length < left.length:=Nat.mod_lt _ ⋯
  unfold pickOrder.go;rw[Ah a];refine(zW next fuel _ _ _ (by rw[List.length_eraseIdx_of_lt a];omega)).trans ?_;rw[Array.toList_push,Bk];exact List.Perm.append_left _ (rV _ _ a)
theorem NG{α:Type}(next:Nat->Nat)(xs:Array α):(pickOrder next xs).toList.Perm xs.toList:=by
 have:=zW next xs.size 0 xs.toList #[] (by simp)
 assumption
def cR(w:Bj):Bool:=w.params.followText "set-order"
theorem pH{Q:Bool->Aj->Prop}(h:Q (cR w) s):A6 (A9 prog w) A setsByText Q E s:=Aa (wpAny_askSetting (Ai h))
structure SetTb(w:Bj)(h:Heap)(a:z_)(es:Array (Int×Af))(ep:Nat)(t:E4):Prop where
 obj:∃o,h.get? a=ae o/\o.ExactSet/\o.data=.set es ep t
 fits:t.fits es.size=ah
 led:t.led=!cR w
 plain:t.plain=ah->es.size=0
theorem SetTb.move{h h':Heap}{a:z_}{es:Array (Int×Af)}{ep:Nat}{t:E4}(x:SetTb w h a es ep t)(k:∀o,h.get? a=ae o->h'.get? a=ae o):SetTb w h' a es ep t:=
 ⟨let⟨o,e,r⟩:=x.obj;⟨o,k o e,r⟩,x.fits,x.led,x.plain⟩
theorem SetTb.typeIs{a:z_}{es:Array (Int×Af)}{ep:Nat}{t:E4}(x:SetTb w s.heap a es ep t):s.TypeIs (.ref a) "set":=let⟨o,e,r,_⟩:=x.obj;⟨o,e,r.1⟩
theorem SetTb.lt{h:Heap}{a:z_}{es:Array (Int×Af)}{ep:Nat}{t:E4}(x:SetTb w h a es ep t):a < h.objs.size:=let⟨_,e,_⟩:=x.obj;As e
theorem Mj(t:E4)(n:Nat):(t.orStandIn n).led=t.led:=by
 unfold SetTable.orStandIn
 split<;>rfl
theorem Rn(t:E4)(es:Array (Int×Af))(h:Int)(x:Af):(layNew t es h x).2.1.led=t.led:=by
 unfold layNew
 split
 ·exact Mj _ _
 ·rfl
theorem N8{t t':E4}{hs:Array Int}{n:Nat}{ord:Array Nat}(h:t.relaid hs n=ae (t',ord)):t'.led=t.led/\t'.plain=t.plain:=by
 unfold SetTable.relaid SetTable.laid at h;cases a:SetTable.layClean _ hs with
 |none=>rw[a]at h;cases h
 |some b=>
  rw[a]at h;cases h;simp
theorem wW(t:E4)(es:Array (Int×Af))(n:Nat):(relayAll t es n).2.1.led=t.led/\((relayAll t es n).2.1.plain=ah->t.plain=ah):=by
 unfold relayAll
 split
 ·rename_i e c b;obtain⟨d,a⟩:=N8 b;dsimp only
  split
  ·exact⟨d,λz=>a▸z⟩
  ·exact⟨rfl,λz=>by trivial⟩
 ·exact⟨rfl,λz=>by trivial⟩
def gn(v:Af):Str:=match v with
 |.str k _=>k
 |_=>⟨#[]⟩
def cK(es:Array (Int×Af)):List Str:=es.toList.map λe=>gn e.2
def TxEs(w:Bj)(es:Array (Int×Af)):Prop:=∀e∈es.toList,∃k t,e.2=.str k t/\e.1=hashStr w k
theorem TxEs.elems{es:Array (Int×Af)}(h:TxEs w es):ElemsOf (Eu prog w) es.toList:=λe c=>by
 obtain⟨k,t,a,b⟩:=h e c;refine⟨⟨k,?_,b⟩,by rw[a];rfl⟩;rw[a];simp[Eu,Value.isStrOf]
def hU(w:Bj)(h:Heap)(a:z_)(seen:List Str):Prop:=∃es ep t,SetTb w h a es ep t/\TxEs w es/\(cK es).Nodup/\(∀k,k∈cK es↔k∈seen)/\es.size<=seen.length
end
theorem xB:entryFor table "set.update.loop"=ae Ep.«set.update.loop»:=Gn (by kernel_rfl)
theorem Pl:plainId "set.update.loop"=ah:=by decide +kernel
section
variable{prog:Bb}{w:Bj}{A:Bt}{E:Af->Aj->Prop}{s:Aj}
theorem Si{es es':Array (Int×Af)}{seen:List Str}{k:Str}{tk:Tok}(hx:TxEs w es)(nd:(cK es).Nodup)(hm:∀k,k∈cK es↔k∈seen)(hl:es.size<=seen.length)(hk:k∉cK es)
  (p:es'.toList.Perm (es.toList++[(hashStr w k,.str k tk)])):TxEs w es'/\(cK es').Nodup/\(∀k',k'∈cK es'↔k'∈seen++[k])/\es'.size<=(seen++[k]).length/\es'.size=es.size+1:=by
 have d:(cK es').Perm (cK es++[k]):=by
  have:=p.map λe=>gn e.2;rw[Bc]at this;trivial
 have c:=by
  have:=p.length_eq;simpa using this
 refine⟨λe f=>?_,d.nodup_iff.mpr ?_,λk'=>?_,by rw[c,An];exact Nat.succ_le_succ hl,c⟩
 ·rcases A7.mp (p.mem_iff.mp f)with h|h
  ·exact hx e h
  ·rw[A2]at h;subst h;exact⟨k,tk,rfl,rfl⟩
 ·rw[F2];exact⟨nd,Fu _ _,λa i b g e=>hk (by rw[A2]at g;simp_all)⟩
 ·rw[d.mem_iff,A7,A7,hm k']
theorem yx{es es':Array (Int×Af)}(hx:TxEs w es)(nd:(cK es).Nodup)(p:es'.toList.Perm es.toList):TxEs w es'/\(cK es').Nodup/\(∀k',k'∈cK es'↔k'∈cK es)/\es'.size=es.size:=by
 have a:=List.Perm.map (λe:Int×Af=>gn e.2) p;exact⟨λe b=>hx e (p.mem_iff.mp b),a.nodup_iff.mpr nd,λk'=>a.mem_iff,by have:=p.length_eq;omega⟩
theorem P5{a:z_}{k:Str}{tk:Tok}{seen:List Str}{Q:Bool->Aj->Prop}(hS:hU w s.heap a seen)(hb:seen.length < 1000)
  (h:∀b h',Cz a s.heap h'->hU w h' a (seen++[k])->Q b {s with heap:=h'}):A6 (A9 prog w) A (setAddHashed a (.str k tk) (hashStr w k)) Q E s:=by
 obtain⟨D,ep,t,T,hx,nd,hm,hl⟩:=hS;obtain⟨o,O,F,H⟩:=T.obj;have V:ElemsOf (Eu prog w) D.toList:=hx.elems;have hsz:D.size < scanBound:=by unfold scanBound;omega
 have W:(Eu prog w).is k (.str k tk)=ah:=by simp[Eu,Value.isStrOf]
 refine B7 (Aa (E8 O H T.fits ?_));dsimp only;rw[byScan_of rfl hsz V];refine Aa (Aa (Gm (Aa (wpAny_setScan_of W O H T.fits V ?_))));cases hr:D.toList.findIdx? (λe=>(Eu prog w).is k e.2)with
 |some j=>
  obtain⟨hj,hpj,_⟩:=Fw.mp hr;have hk:k∈cK D:=by
   obtain⟨u,hu⟩:=Value.isStrOf_shape hpj;exact A5.mpr ⟨_,Ck hj,by rw[hu];rfl⟩
  refine Ai (Ai (h _ s.heap (Heap.SameBut.refl a s.heap) ⟨D,ep,t,T,hx,nd,λk'=>?_,by rw[An];omega⟩));rw[hm k',A7,A2];exact⟨.inl,λz=>z.elim id λe=>e▸(hm k).mp hk⟩
 |none=>
  have hk:k∉cK D:=λz=>by
   obtain⟨e,he,e2⟩:=A5.mp z;obtain⟨k',t',e3,_⟩:=hx e he;have q:=List.findIdx?_eq_none_iff.mp hr e he;rw[e3]at e2 q;have e2:k'=k:=e2;subst e2;simp[Eu,Value.isStrOf]at q
  have M:∀b {r_:Aj} {Q':Unit->Aj->Prop},Q' () r_->A6 (A9 prog w) A (match b with|true=>rule "set.scan.the-table-gave-way"|false=>pure ()) Q' E r_:=
   λb r_ Q' hq=>by cases b with
    |true=>exact Gm hq
    |false=>exact Ai hq
  have Y:=layNew_perm t D (hashStr w k) (.str k tk);have hf:=layNew_fits t D (hashStr w k) (.str k tk);have G:=Rn t D (hashStr w k) (.str k tk);have eh:(Eu prog w).hash k=hashStr w k:=rfl
  try rw[eh]
  generalize layNew t D _ _=L at Y hf G ⊢;obtain⟨c,t1,wd,gave⟩:=L;dsimp only at Y hf G ⊢;rw[Array.toList_push]at Y;obtain⟨x1,Z,m1,l1,z1⟩:=Si hx nd hm hl hk Y;refine Aa (M _ ?_)
  split
  ·refine Aa (Ai ?_);have n:({t1 with plain:=ai}:E4).plain=ai:=rfl;have C:=SetTable.fits_plain_off hf;have i:({t1 with plain:=ai}:E4).led=t.led:=G;simp only[Gy,↓reduceIte];generalize({t1 with plain:=ai}:E4)=g at n C i ⊢;have J:c.size < scanBound:=by unfold scanBound;omega
   refine Aa (wpAny_storeSet_of O H ?_ (fits_of_scanBound J));have K:=by
    have:=Bn (Obj.putSet c g) O (by rw[putSet_of c g H];rfl);rw[putSet_of c g H]at this;omega
   have y:=Bg s.heap a (Obj.putSet c g)
   split
   ·have l:=relayAll_perm g c (SetTable.grown c.size);have m:=relayAll_fits g c (SetTable.grown c.size);obtain⟨p,r⟩:=wW g c _;generalize relayAll g c _=R at l m p r ⊢;obtain⟨x,X,I⟩:=R;dsimp only at l m p r ⊢;obtain⟨x2,n2,m2,z2⟩:=yx x1 Z l;refine Aa (M _ (Aa (wpAny_storeSet_of K rfl ?_ (fits_of_scanBound (by simp_all)))));have g2:=by
     have:=Bn (Obj.putSet x X) K (by rfl);assumption
    refine Ai (Ai (h _ _ (y.trans (Bg _ a _)) ⟨x,_,X,⟨⟨_,g2,F,rfl⟩,m,by rw[p,i];exact T.led,λz=>?_⟩,x2,n2,λk'=>(m2 k').trans (m1 k'),by simp_all⟩));have:=r z;rw[n]at this;cases this
   ·refine Ai (Ai (h _ _ y ⟨c,_,g,⟨⟨_,K,F,rfl⟩,C,by rw[i];exact T.led,λz=>?_⟩,x1,Z,m1,l1⟩));rw[n]at z;cases z
  ·rename_i P;have n:=by simpa using P
   have C:=hf;have i:=G;refine Aa (Ai ?_);simp only[↓reduceIte];generalize t1=g at n C i ⊢;have J:c.size < scanBound:=by unfold scanBound;omega
   refine Aa (wpAny_storeSet_of O H ?_ (fits_of_scanBound J));have K:=by
    have:=Bn (Obj.putSet c g) O (by rw[putSet_of c g H];rfl);rw[putSet_of c g H]at this;omega
   have y:=Bg s.heap a (Obj.putSet c g)
   split
   ·have l:=relayAll_perm g c (SetTable.grown c.size);have m:=relayAll_fits g c (SetTable.grown c.size);obtain⟨p,r⟩:=wW g c _;generalize relayAll g c _=R at l m p r ⊢;obtain⟨x,X,I⟩:=R;dsimp only at l m p r ⊢;obtain⟨x2,n2,m2,z2⟩:=yx x1 Z l;refine Aa (M _ (Aa (wpAny_storeSet_of K rfl ?_ (fits_of_scanBound (by simp_all)))));have g2:=by
     have:=Bn (Obj.putSet x X) K (by rfl);assumption
    refine Ai (Ai (h _ _ (y.trans (Bg _ a _)) ⟨x,_,X,⟨⟨_,g2,F,rfl⟩,m,by rw[p,i];exact T.led,λz=>?_⟩,x2,n2,λk'=>(m2 k').trans (m1 k'),by simp_all⟩));have:=r z;rw[n]at this;cases this
   ·refine Ai (Ai (h _ _ y ⟨c,_,g,⟨⟨_,K,F,rfl⟩,C,by rw[i];exact T.led,λz=>?_⟩,x1,Z,m1,l1⟩));rw[n]at z;cases z
def gU(ks:List Str)(i:Nat)(v:Af):Prop:=∃k t,ks[i]?=ae k/\v=.str k t
theorem Rx{R:Result->Aj->Prop}{I:z_}{fp wr:List z_}{G:Array GenState->Array GenState->Prop}{n:Nat}{St:Nat->Aj->Prop}{ks:List Str}(W:WalksS prog w A.in1 I fp wr G n (gU ks) St)(S:z_)(hSf:S∉fp)(hn:ks.length=n)(hb:n < 64):
  ∀(m i:Nat)(s:Aj),n-i=m->i<=n->St i s->hU w s.heap S (ks.take i)->
   (∀s',Moved (S::wr) G s s'->hU w s'.heap S ks->R (.ok (.ret .none)) s')->Fz (A9 prog w) A (.builtin "set.update.loop" ⟨[.ref S,.ref I],[]⟩) R s:=by
 have p:=λh=>hSf (W.sub _ h);have c:∀b∈wr,b∈S::wr:=λb hb=>Ak _ hb;have F:∀{h D:Heap}{a:List Str},(∀o,h.get? S=ae o->D.get? S=ae o)->hU w h S a->hU w D S a:=λk x=>by
  obtain⟨M,O,t,T,r⟩:=x;exact⟨M,O,t,T.move k,r⟩
 intro m
 induction m with
 |zero=>
  intro i s K J d z C;have B:i=n:=by omega
  subst B;refine Eb xB (Aa (W.done s _ _ d λs' j=>?_));rw[<-hn,List.take_length]at z;exact Ai (C s' (j.mono c) (F (λo e=>j.heap S _ p e) z))
 |succ m P=>
  intro i s K J d z C;have u:i < n:=by omega
  refine Eb xB (Aa (W.item i s _ _ u d λv s' L q j=>?_));obtain⟨k,t,E,rfl⟩:=L;refine Aa (B7 (B7 ?_));refine Aa (wpAny_pyHash_str (P5 (F (λo e=>j.heap S _ p e) z) (by rw[Ef];omega) λb D g l=>?_));have Q:ks.take i++[k]=ks.take (i+1):=by
   rw[List.take_add_one,E];rfl
  rw[Q]at l;refine Ai ⟨E6 Pl _,P _ _ ⋯ u (W.frame _ s' _ _ q (Nat.le_succ _) λb hb o e=>?_) l λs'' f y=>?_⟩
  ·rw[g.2 b (λh:b=S=>hSf (by simp_all))];exact e
  ·refine C s'' (Moved.trans W.gtrans ((j.mono c).then_heap (Nat.le_succ _) λb o hb e=>?_) f) y;rw[g.2 b (λh:b=S=>hb (by rw[h];simp))];exact e
end
theorem slot_setit_next:Slot "set_iterator" "__next__" "set_iterator.__next__":=Slot.of (owner:="set_iterator") (n:="__next__") (by rw[G0,E7];kernel_rfl)
 ∅ ∅ ∅ (by first|exact .inl ∅|exact .inr ∅) (by rw[Er];kernel_rfl)
theorem lJ:entryFor table "set_iterator.__next__"=ae Ep.«set_iterator.__next__»:=Gn (by kernel_rfl)
theorem mw(a:Af):argsOk "set_iterator.__next__" ⟨[a],[]⟩:=by unfold argsOk;kernel_rfl
theorem v8:Slot "set_iterator" "__iter__" "set_iterator.__iter__":=Slot.of (owner:="set_iterator") (n:="__iter__") (by rw[G0,E7];kernel_rfl)
 ∅ ∅ ∅ (by first|exact .inl ∅|exact .inr ∅) (by rw[Er];kernel_rfl)
theorem KN:entryFor table "set_iterator.__iter__"=ae Ep.«dict_keyiterator.__iter__»:=by exact entryFor_alias (id':="dict_keyiterator.__iter__") (by kernel_rfl) rfl ∅ (by kernel_rfl)
theorem N6(a:Af):argsOk "set_iterator.__iter__" ⟨[a],[]⟩:=by unfold argsOk;kernel_rfl
theorem Ir:entryFor table "set.__iter__"=ae Ep.«frozenset.__iter__»:=by exact entryFor_alias (id':="frozenset.__iter__") (by kernel_rfl) rfl ∅ (by kernel_rfl)
def SetIt(h:Heap)(I:z_)(first:Af)(i:Nat)(a:z_)(n ep:Nat):Prop:=∃o,h.get? I=ae o/\o.cls=.type "set_iterator"/\o.data=.fields #[first,.int i 0,.ref a,.int n 0,.int ep 0]
section
variable{prog:Bb}{w:Bj}{A:Bt}{E:Af->Aj->Prop}{s:Aj}{I a T:z_}{n ep i j:Nat}{es:Array (Int×Af)}{t:E4}{first:Af}
theorem SetIt.typeIs(x:SetIt s.heap I first i a n ep):s.TypeIs (.ref I) "set_iterator":=let⟨o,e,c,_⟩:=x;⟨o,e,c⟩
theorem SetIt.move{h h':Heap}(x:SetIt h I first i a n ep)(k:∀o,h.get? I=ae o->h'.get? I=ae o):SetIt h' I first i a n ep:=let⟨o,e,r⟩:=x;⟨o,k o e,r⟩
theorem oi{Q:Af->Aj->Prop}(hit:SetIt s.heap I first i a n ep)(h:Q (.ref I) s):A6 (A9 prog w) A (pyIter (.ref I)) Q E s:=wpAny_pyIter_slot hit.typeIs v8 (B2 v8 hit.typeIs KN (Ai ⟨_,rfl,_,_,hit.typeIs,slot_setit_next.lookup,h⟩) (N6 _))
theorem LP{pl:Array Af}{x:Int×Af}{Q:Option Af->Aj->Prop}(hit:SetIt s.heap I (.ref T) i a n ep)(hs:SetTb w s.heap a es ep t)(hn:es.size=n)(hT:s.heap.IsTuple T pl)(hp:pl[i]?=ae (.int j 0))(hx:es[j]?=ae x)
  (hQ:∀h',SetIt h' I (.ref T) (i+1) a n ep->Cz I s.heap h'->Q (ae x.2) {s with heap:=h'}):A6 (A9 prog w) A (pyNext (.ref I)) Q E s:=by
 obtain⟨o,e,h,d⟩:=id hit;obtain⟨m,c,_,b⟩:=hs.obj;obtain⟨k,g,_,l,f⟩:=hT;refine Aa (Ei (Bp hit.typeIs slot_setit_next (B2 slot_setit_next hit.typeIs lJ ?_ (mw _))));refine Aa (Ai (Aa (Fl e d ?_)));dsimp only;refine Aa (D0 c b hs.fits ?_);rw[a_ (by rw[hn];simp)];refine Aa (C8 g f ?_);simp only[Cc,hp];refine Aa (Aa (E8 c b hs.fits ?_));simp only[bne_self_eq_false,hx];refine Ai (Aa (C0 e d (by simp) (Ai ⟨x.2,rfl,Ai (hQ _ ?_ (Bg ..))⟩)));exact⟨_,Bn _ e (C4 (By d _)),(D7 ..).trans h,by
  rw[By d];rfl⟩
theorem S1{pl:Array Af}{Q:Option Af->Aj->Prop}(hh:A.handled=af)(hit:SetIt s.heap I (.ref T) i a n ep)(hs:SetTb w s.heap a es ep t)(hn:es.size=n)(hT:s.heap.IsTuple T pl)(hp:pl[i]?=af)
  (hQ:∀h',Heap.ExtBut I s.heap h'->Q af {s with heap:=h'}):A6 (A9 prog w) A (pyNext (.ref I)) Q E s:=by
 obtain⟨h,e,_,k,f⟩:=hT;obtain⟨o,c,j,b⟩:=id hit;obtain⟨l,g,_,d⟩:=hs.obj;refine Aa (Ei (Bp hit.typeIs slot_setit_next (B2 slot_setit_next hit.typeIs lJ ?_ (mw _))));refine Aa (Ai (Aa (Fl c b ?_)));refine Aa (D0 g d hs.fits ?_);rw[a_ (by rw[hn];simp)];refine Aa (C8 e f ?_);simp only[Cc,hp];refine Aa (C0 c b (by simp) ?_);refine Aa (C0 (Bn (Obj.mapFields (·.setIfInBounds 0 (Dm 0))) c (C4 (By b _))) (By b (·.setIfInBounds 0 (Dm 0))) (by simp) (Aa ?_));refine Aa (B1 (Aa (Gs (by rfl) ?_)) (by size_fits));refine B1 (Aa (wpAny_handled ?_)) (by size_fits)
 first|rw[hh]|rw[hh]
 refine Aa (Ai (wpAny_throw ?_));refine Aa (D4 ⟨_,Av _ rfl,rfl⟩ isSubtype_stop ?_);exact Ai (hQ _ (((((Bg ..).trans (Bg ..)).extBut).push _).push _))
def lu(w:Bj)(a:z_)(ep:Nat)(es:Array (Int×Af)):Array (Int×Af):=pickOrder (w.params.setOrder a ep) es
theorem zI{Q:Option (Af×Nat)->Aj->Prop}{k:Nat}(hb:cR w=ah)(hs:SetTb w s.heap a es ep t)(h:Q (((lu w a ep es)[i]?).map λe=>(e.2,k)) s):A6 (A9 prog w) A (setNext a k i ep) Q E s:=by
 obtain⟨d,c,_,b⟩:=hs.obj;refine Aa (E8 c b hs.fits (Aa (pH ?_)));rw[hb];simp;refine Aa (Aa (E8 c b hs.fits ?_));refine Aa (pH ?_);rw[hb];refine Aa (wpAny_askSetting (Ai (Ai h)))
theorem Hj{x:Int×Af}{Q:Option Af->Aj->Prop}(hb:cR w=ah)(hit:SetIt s.heap I (.int 0 0) i a n ep)(hs:SetTb w s.heap a es ep t)(hn:es.size=n)(hx:(lu w a ep es)[i]?=ae x)
  (hQ:∀h',SetIt h' I (.int 0 0) (i+1) a n ep->Cz I s.heap h'->Q (ae x.2) {s with heap:=h'}):A6 (A9 prog w) A (pyNext (.ref I)) Q E s:=by
 obtain⟨o,e,h,d⟩:=id hit;obtain⟨j,g,_,f⟩:=hs.obj;refine Aa (Ei (Bp hit.typeIs slot_setit_next (B2 slot_setit_next hit.typeIs lJ ?_ (mw _))));refine Aa (Ai (Aa (Fl e d ?_)));dsimp only;refine Aa (D0 g f hs.fits ?_);rw[a_ (by rw[hn];simp)];refine Aa (zI hb hs ?_);simp only[Cc,hx,Option.map_some];refine Aa (C0 e d (by simp) ?_);have c:=Bn (Obj.mapFields (·.setIfInBounds 0 (Dm ((0:Int).toNat:Nat)))) e (C4 (By d _));have b:=By d (·.setIfInBounds 0 (Dm ((0:Int).toNat:Nat)));refine Aa (C0 c b (by simp) (Ai ⟨x.2,rfl,Ai (hQ _ ?_ ((Bg ..).trans (Bg ..)))⟩));exact⟨_,Bn _ c (C4 (By b _)),(D7 ..).trans ((D7 ..).trans h),by
  rw[By b];rfl⟩
theorem Ht{Q:Option Af->Aj->Prop}(hh:A.handled=af)(hb:cR w=ah)(hit:SetIt s.heap I (.int 0 0) i a n ep)(hs:SetTb w s.heap a es ep t)(hn:es.size=n)(hx:(lu w a ep es)[i]?=af)
  (hQ:∀h',Heap.ExtBut I s.heap h'->Q af {s with heap:=h'}):A6 (A9 prog w) A (pyNext (.ref I)) Q E s:=by
 obtain⟨o,d,f,e⟩:=id hit;obtain⟨g,c,_,b⟩:=hs.obj;refine Aa (Ei (Bp hit.typeIs slot_setit_next (B2 slot_setit_next hit.typeIs lJ ?_ (mw _))));refine Aa (Ai (Aa (Fl d e ?_)));dsimp only;refine Aa (D0 c b hs.fits ?_);rw[a_ (by rw[hn];simp)];refine Aa (zI hb hs ?_);simp only[Cc,hx,Option.map_none];refine Aa (C0 d e (by simp) (Aa ?_));refine Aa (B1 (Aa (Gs (by rfl) ?_)) (by size_fits));refine B1 (Aa (wpAny_handled ?_)) (by size_fits)
 first|rw[hh]|rw[hh]
 refine Aa (Ai (wpAny_throw ?_));refine Aa (D4 ⟨_,Av _ rfl,rfl⟩ isSubtype_stop ?_);exact Ai (hQ _ (((Bg ..).extBut.push _).push _))
theorem yu{Q:Option (Af×Nat)->Aj->Prop}{k:Nat}(hb:cR w=ai)(h1:es.size<=1)(hs:SetTb w s.heap a es ep t)
  (h:Q (match es[D9 t.place k]?,t.place[D9 t.place k]? with
   |some (_,x),ae j=>ae (x,j+1)
   |_,_=>af) s):A6 (A9 prog w) A (setNext a k i ep) Q E s:=by
 obtain⟨g,c,_,b⟩:=hs.obj;have e:t.led=ah:=by rw[hs.led,hb];rfl
 refine Aa (E8 c b hs.fits (Aa (pH ?_)));rw[hb];simp;have f:(!t.plain&&decide (es.size > 1))=ai:=by
  have:decide (es.size > 1)=ai:=c_ ⋯;rw[this,Bool.and_false]
 split
 ·rename_i z;have d:(!t.plain&&decide _)=ah:=z;rw[f]at d;cases d
 ·refine Aa (Gs (a:=()) ?_ (Ai h));show(if _=ah then unsupported "set:maker-not-led" else pure ())=pure ();rw[e];rfl
theorem JT{j:Nat}:D9 #[j] 0=0/\D9 #[j] (j+1)=1:=by
 constructor
 ·simp[D9,SetTable.below.go]
 ·simp[D9,SetTable.below.go]
theorem Kz{x:Int×Af}{Q:Option Af->Aj->Prop}(hb:cR w=ai)(hp:t.place=#[j])(he:es=#[x])(hit:SetIt s.heap I (.int 0 0) 0 a 1 ep)(hs:SetTb w s.heap a es ep t)
  (hQ:∀h',SetIt h' I (.int ((j+1:Nat):Int) 0) 1 a 1 ep->Cz I s.heap h'->Q (ae x.2) {s with heap:=h'}):A6 (A9 prog w) A (pyNext (.ref I)) Q E s:=by
 have i:es.size=1:=by simp_all
 obtain⟨o,f,k,e⟩:=id hit;obtain⟨l,h,_,g⟩:=hs.obj;refine Aa (Ei (Bp hit.typeIs slot_setit_next (B2 slot_setit_next hit.typeIs lJ ?_ (mw _))));refine Aa (Ai (Aa (Fl f e ?_)));refine Aa (D0 h g hs.fits ?_);rw[a_ (by rw[i];simp)];refine Aa (yu hb ⋯ hs ?_);have m:D9 t.place (0:Int).toNat=0:=by rw[hp];rfl
 rw[hp,he];refine Aa (C0 f e (by simp) ?_);have d:=Bn (Obj.mapFields (·.setIfInBounds 0 (Dm ((j+1:Nat):Int)))) f (C4 (By e _));have b:=By e (·.setIfInBounds 0 (Dm ((j+1:Nat):Int)));refine Aa (C0 d b (by simp) (Ai ⟨x.2,rfl,Ai (hQ _ ?_ ((Bg ..).trans (Bg ..)))⟩));exact⟨_,Bn _ d (C4 (By b _)),(D7 ..).trans ((D7 ..).trans k),by
  rw[By b];rfl⟩
theorem BB{k:Nat}{Q:Option Af->Aj->Prop}(hh:A.handled=af)(hb:cR w=ai)(h1:es.size<=1)(hk:es[D9 t.place k]?=af)(hit:SetIt s.heap I (.int (k:Int) 0) i a n ep)(hs:SetTb w s.heap a es ep t)(hn:es.size=n)
  (hQ:∀h',Heap.ExtBut I s.heap h'->Q af {s with heap:=h'}):A6 (A9 prog w) A (pyNext (.ref I)) Q E s:=by
 obtain⟨o,d,f,e⟩:=id hit;obtain⟨g,c,_,b⟩:=hs.obj;refine Aa (Ei (Bp hit.typeIs slot_setit_next (B2 slot_setit_next hit.typeIs lJ ?_ (mw _))));refine Aa (Ai (Aa (Fl d e ?_)));dsimp only;refine Aa (D0 c b hs.fits ?_);rw[a_ (by rw[hn];simp)];refine Aa (yu hb h1 hs ?_);rw[Cc,hk];refine Aa (C0 d e (by simp) (Aa ?_));refine Aa (B1 (Aa (Gs (by rfl) ?_)) (by size_fits));refine B1 (Aa (wpAny_handled ?_)) (by size_fits)
 first|rw[hh]|rw[hh]
 refine Aa (Ai (wpAny_throw ?_));refine Aa (D4 ⟨_,Av _ rfl,rfl⟩ isSubtype_stop ?_);exact Ai (hQ _ (((Bg ..).extBut.push _).push _))
end
section
variable{prog:Bb}{w:Bj}{A:Bt}{E:Af->Aj->Prop}{s:Aj}{a:z_}{ep:Nat}{es:Array (Int×Af)}{t:E4}
def jx(vs:List (Int×Af))(i:Nat)(v:Af):Prop:=∃e,vs[i]?=ae e/\v=e.2
structure SetWk(prog:Bb)(w:Bj)(sz:Nat)(h':Heap)(a I:z_)(vs:List (Int×Af)):Prop where
 above:sz<=I
 walk:∃(fp:List z_)(St:Nat->Heap->Prop),(∀b∈fp,b=a\/sz<=b)/\(∀b∈fp,b < h'.objs.size)/\(∀A:Bt,A.handled=af->Walks prog w A I fp [I] vs.length (jx vs) St)/\St 0 h'
theorem Nz{α:Type}{xs:Array α}{j:Nat}{d:α}(h:j < xs.size):xs[j]?=ae (xs.getD j d):=by
 simp[h]
theorem Lp{ys:List Nat}{n:Nat}(hp:ys.Perm (A8 n))(hn:es.size=n):(ys.map λj=>es.getD j (0,B3)).Perm es.toList:=by
 have b:=hp.map λj=>es.getD j ((0:Int),B3);have a:(A8 n).map (λj=>es.getD j ((0:Int),B3))=es.toList:=by
  apply Fc (by simp[hn]);intro i b a;simp at a;simp[a]
 rw[a]at b;omega
theorem JP{I T:z_}{ys:List Nat}{n:Nat}(hne:a≠I)(hTI:T≠I)(hp:ys.Perm (A8 n))(hn:es.size=n)(A:Bt)(hh:A.handled=af):
  Walks prog w A I [I,a,T] [I] (ys.map λj=>es.getD j (0,B3)).length (jx (ys.map λj=>es.getD j (0,B3)))
   (λi h=>SetIt h I (.ref T) i a n ep/\SetTb w h a es ep t/\h.IsTuple T (ys.map λ(j:Nat)=>Value.int (j:Int) 0).toArray) where
 sub:=λb g=>by simp at g;simp[g]
 frame:=λ_ _ _ c p=>⟨c.1.move λo e=>p I (by simp) o e,c.2.1.move λo e=>p a (by simp) o e,let⟨o,e,r⟩:=c.2.2;⟨o,p T (by simp) o e,r⟩⟩
 item:=λi s Q E m c k=>by
  rw[Ab]at m;have u:ys[i] < es.size:=by rw[hn];exact Bx.mp (hp.mem_iff.mp (Ck m))
  refine LP c.1 c.2.1 hn c.2.2 (by simp[m]) (Nz (d:=(0,B3)) u) λh' l f=>k _ h' s.toks ⟨_,by rw[Am,Ah m];rfl,rfl⟩ ⟨l,c.2.1.move λo e=>(f.2 a hne).trans e,let⟨o,e,r⟩:=c.2.2;⟨o,(f.2 T hTI).trans e,r⟩⟩ λb o g e=>f.extBut b o (λh=>g (by simp[h])) e
 done:=λs Q E c k=>S1 hh c.1 c.2.1 hn c.2.2 (by simp) λh' q=>k h' s.toks λb o g e=>q b o (λh=>g (by simp[h])) e
 self:=λ_ _ _ _ c k=>oi c.1 k
theorem MU{I:z_}{n:Nat}(hb:cR w=ah)(hne:a≠I)(hn:es.size=n)(A:Bt)(hh:A.handled=af):
  Walks prog w A I [I,a] [I] (lu w a ep es).toList.length (jx (lu w a ep es).toList) (λi h=>SetIt h I (.int 0 0) i a n ep/\SetTb w h a es ep t) where
 sub:=λb hb=>by simp at hb;simp[hb]
 frame:=λ_ _ _ c k=>⟨c.1.move λo e=>k I (by simp) o e,c.2.move λo e=>k a (by simp) o e⟩
 item:=λi s Q E l c d=>by
  have m:=Ca l;exact Hj hb c.1 c.2 hn m λh' f g=>d _ h' s.toks ⟨_,by rw[D1];trivial⟩ ⟨f,c.2.move λo e=>(g.2 a hne).trans e⟩ λb o hb e=>g.extBut b o (λh=>hb (by simp[h])) e
 done:=λs Q E c d=>Ht hh hb c.1 c.2 hn (by simp) λh' j=>d h' s.toks λb o hb e=>j b o (λh=>hb (by simp[h])) e
 self:=λ_ _ _ _ c d=>oi c.1 d
theorem MF{I:z_}(hb:cR w=ai)(hn:es.size=0)(A:Bt)(hh:A.handled=af):
  Walks prog w A I [I,a] [I] ([]:List (Int×Af)).length (jx []) (λ_ h=>SetIt h I (.int ((0:Nat):Int) 0) 0 a 0 ep/\SetTb w h a es ep t) where
 sub:=λb hb=>by simp at hb;simp[hb]
 frame:=λ_ _ _ c g=>⟨c.1.move λo e=>g I (by simp) o e,c.2.move λo e=>g a (by simp) o e⟩
 item:=λi s Q E k c d=>by simp_all
 done:=λs Q E c d=>BB hh hb ⋯ (by rw[Array.getElem?_eq_none];omega) c.1 c.2 hn λh' f=>d h' s.toks λb o hb e=>f b o (λh=>hb (by simp[h])) e
 self:=λ_ _ _ _ c d=>oi c.1 d
theorem GW{I:z_}{x:Int×Af}{j:Nat}(hb:cR w=ai)(hne:a≠I)(he:es=#[x])(hp:t.place=#[j])(A:Bt)(hh:A.handled=af):
  Walks prog w A I [I,a] [I] [x].length (jx [x]) (λi h=>((i=0/\SetIt h I (.int 0 0) 0 a 1 ep)\/(i=1/\SetIt h I (.int ((j+1:Nat):Int) 0) 1 a 1 ep))/\SetTb w h a es ep t) where
 sub:=λb hb=>by simp at hb;simp[hb]
 frame:=λ_ _ _ c m=>⟨c.1.imp (λz=>⟨z.1,z.2.move λo e=>m I (by simp) o e⟩) (λz=>⟨z.1,z.2.move λo e=>m I (by simp) o e⟩),c.2.move λo e=>m a (by simp) o e⟩
 item:=λi s Q E r c g=>by
  have n:i=0:=by simp_all
  subst n;rcases c.1 with⟨_,z⟩|⟨z,_⟩
  ·exact Kz hb hp he z c.2 λh' k l=>g _ h' s.toks ⟨x,rfl,rfl⟩ ⟨.inr ⟨rfl,k⟩,c.2.move λo e=>(l.2 a hne).trans e⟩ λb o hb e=>l.extBut b o (λh=>hb (by simp[h])) e
  ·cases z
 done:=λs Q E c g=>by
  rcases c.1 with⟨z,_⟩|⟨_,z⟩
  ·cases z
  ·refine BB hh hb (by simp_all) ?_ z c.2 (by simp_all) λh' p=>g h' s.toks λb o hb e=>p b o (λh=>hb (by simp[h])) e;rw[hp,JT.2,he];rfl
 self:=λi s Q E c g=>by
  rcases c.1 with⟨_,z⟩|⟨_,z⟩
  ·exact oi z g
  ·exact oi z g
theorem Np{Q:Af->Aj->Prop}(hs:SetTb w s.heap a es ep t)(h64:es.size < 64)
  (h:∀(h':Heap)(dr:Drawn)(I:z_)(vs:List (Int×Af)),vs.Perm es.toList->(∀b o,s.heap.get? b=ae o->h'.get? b=ae o)->SetWk prog w s.heap.objs.size h' a I vs->Q (.ref I) {s with heap:=h',drawn:=dr}):
  A6 (A9 prog w) A (pyIter (.ref a)) Q E s:=by
 obtain⟨W,g,O,f⟩:=hs.obj;have k:=hs.lt;refine wpAny_pyIter_slot hs.typeIs F.slot_set_iter (B2 F.slot_set_iter hs.typeIs Ir (Aa (Ai ?_)) (F.args_set_iter_1 _));refine Aa (Aa (D0 g f hs.fits (Ai (Aa ?_))));refine Aa (E8 g f hs.fits (Aa (pH ?_)));refine Ai ?_
 split
 ·rename_i J;refine Aa (vX es.size _ s (by simp) λys dr B=>?_);have R:ys.length=es.size:=by rw[B.length_eq,Dt]
  refine Aa (wpAny_newTuple ?_ (by rw[Ab,Ez];omega));refine Aa (wpAny_setEpoch_of (Ae ({cls:=.type "tuple",data:=.seq (ys.map λ(i:Nat)=>Dm i).toArray}:Obj) g) f hs.fits (Aa (B1 (Ai ⟨_,rfl,_,_,⟨_,Av _ rfl,rfl⟩,slot_setit_next.lookup,?_⟩))));have M:(s.heap.push _).get? s.heap.objs.size=ae {cls:=.type "tuple",data:=.seq (ys.map λ(i:Nat)=>Dm i).toArray}:=Av _ rfl;refine h _ dr _ _ (Lp B rfl) (λb o e=>Ae _ (Ae _ e)) ⟨by rw[Cn];exact Nat.le_succ _,_,_,λb c=>?_,λb c=>?_,λA q=>JP (by rw[Cn];exact Be (D8 k)) (by simp) B rfl A q,⟨⟨_,Av _ rfl,rfl,rfl⟩,hs.move λo e=>Ae _ (Ae _ e),⟨_,Ae _ M,rfl,_,rfl⟩⟩⟩
  ·simp only[Au,A4,g_]at c;rcases c with rfl|rfl|rfl
   ·rw[Cn];simp
   ·exact .inl rfl
   ·exact .inr (Ao _)
  ·simp only[Au,A4,g_]at c;rw[Cn,Cn];rcases c with rfl|rfl|rfl
   ·rw[Cn];simp
   ·exact D8 (D8 k)
   ·exact D8 (Nat.lt_succ_self _)
 ·rename_i J;refine Aa (Ai (Aa (wpAny_setEpoch_of g f hs.fits ?_)));refine Aa (B1 (Ai ⟨_,rfl,_,_,⟨_,Av _ rfl,rfl⟩,slot_setit_next.lookup,?_⟩));have n:SetIt (s.heap.push {cls:=.type "set_iterator",data:=.fields #[Dm 0,Dm 0,.ref a,Dm es.size,Dm ep]}) s.heap.objs.size (.int 0 0) 0 a es.size ep:=⟨_,Av _ rfl,rfl,rfl⟩;have p:SetTb w (s.heap.push {cls:=.type "set_iterator",data:=.fields #[Dm 0,Dm 0,.ref a,Dm es.size,Dm ep]}) a es ep t:=hs.move λo e=>Ae _ e;have v:∀b o,s.heap.get? b=ae o->(s.heap.push {cls:=.type "set_iterator",data:=.fields #[Dm 0,Dm 0,.ref a,Dm es.size,Dm ep]}).get? b=ae o:=λb o e=>Ae _ e;have C:∀b∈[s.heap.objs.size,a],b=a\/s.heap.objs.size<=b:=λb c=>by
   simp only[Au,A4,g_]at c;rcases c with rfl|rfl
   ·exact .inr (Ao _)
   ·exact .inl rfl
  have z:∀b∈[s.heap.objs.size,a],b < (s.heap.push {cls:=.type "set_iterator",data:=.fields #[Dm 0,Dm 0,.ref a,Dm es.size,Dm ep]}).objs.size:=λb c=>by
   simp only[Au,A4,g_]at c;rw[Cn];rcases c with rfl|rfl
   ·exact Nat.lt_succ_self _
   ·exact D8 k
  have u:=Be k;cases c:cR w with
  |true=>exact h _ s.drawn _ (lu w a ep es).toList (NG _ _) v ⟨Ao _,_,_,C,z,λA q=>MU c u rfl A q,⟨n,p⟩⟩
  |false=>
   have H:¬((!cR w&&(!t.plain&&decide _))=ah):=J;have m:(!cR w&&(!t.plain&&decide (es.size > 1)))=ai:=by simpa using H
   have V:es.size<=1:=by
    rw[c]at m;by_cases T:es.size<=1
    ·exact T
    ·have N:decide (es.size > 1)=ah:=b_ ⋯;rw[N]at m;have D:=by simpa using m
     have:=hs.plain D;omega
   by_cases K:es.size=0
   ·have S:=Gj ⋯;refine h _ s.drawn _ [] (by rw[S]) v ⟨Ao _,_,_,C,z,λA q=>MF c K A q,⟨?_,p⟩⟩;rw[K]at n ⊢;omega
   ·have y:es.size=1:=by omega
    obtain⟨x,r⟩:∃x,es=#[x]:=by
     have:=by omega
     obtain⟨x,r⟩:=List.length_eq_one_iff.mp this;exact⟨x,Gc.mp r⟩
    have U:t.place.size=1:=by
     have:=hs.fits;simp only[SetTable.fits,beq_iff_eq]at this;simp_all
    obtain⟨j,P⟩:∃j,t.place=#[j]:=by
     have:=by omega
     obtain⟨x,r⟩:=List.length_eq_one_iff.mp this;exact⟨x,Gc.mp r⟩
    refine h _ s.drawn _ [x] (by rw[r]) v ⟨Ao _,_,_,C,z,λA q=>GW c u r P A q,⟨.inl ⟨rfl,?_⟩,p⟩⟩;rw[y]at n ⊢;omega
end
theorem L8:entryFor table "proto.collect"=ae Ep.«proto.collect»:=Gn (by kernel_rfl)
theorem Q2:entryFor table "list.__iadd__"=ae Ep.«list.__iadd__»:=Gn (by kernel_rfl)
section
variable{prog:Bb}{w:Bj}{A:Bt}{E:Af->Aj->Prop}{s:Aj}{a:z_}{ep:Nat}{es:Array (Int×Af)}{t:E4}
theorem SQ{Q:Bool->Aj->Prop}(hT:s.TypeIs (.ref a) "set")(h:Q ai s):A6 (A9 prog w) A (Ej (.ref a)) Q E s:=by
 unfold Ej;refine Aa (Gz hT F.slot_set_len.lookup ?_);generalize hid:("set.__len__":String)=id0
 wp_delta
 rw[show splitId id0=ae ("set","__len__")from by subst hid;decide +kernel];subst hid;refine Aa (D4 (T:="set") (b:=ah) hT (by rw[Er];kernel_rfl) ?_);refine Fy (λhab=>f_ hab ∎) (λ_=>?_);refine Fy (λ_=>?_) (λhab=>f_ ∅ hab);refine Aa (Fq hT ?_);exact Ai h
theorem Oq{R:Result->Aj->Prop}(hh:A.handled=af)(hs:SetTb w s.heap a es ep t)(h64:es.size < 64)(S:z_)(hSa:S≠a)(res:Af)(hS:s.heap.get? S=ae {cls:=.type "list",data:=.seq #[]})
  (hR:∀h' tk dr (vs:List (Int×Af)) i' c,vs.Perm es.toList->(∀b o,b≠S->s.heap.get? b=ae o->h'.get? b=ae o)->h'.get? S=ae {cls:=.type "list",dict:=af,data:=.seq i' c,slots:=#[]}->ItemsOf (jx vs) i' vs.length->R (.ok (.ret res)) {s with heap:=h',toks:=tk,drawn:=dr}):
  A6 (A9 prog w) A.in1 (Builtin.List.listExtendWith (.ref S) (.ref a) res)
   (λfin s'=>match fin with|.done f=>R (.ok f) s'|.again c'=>c'.quiet=ah/\Fz (A9 prog w) A c' R s') (λe s'=>R (.error e) s') s:=by
 refine Aa (Fq hs.typeIs ?_);have P:E2 (.ref S) (.ref a)=ai:=by simp[E2,hSa]
 have U:(Dj "set"==Dj "list")=ai:=by decide
 have X:(Dj "set"==Dj "tuple")=ai:=by decide
 simp only[P,if_false];refine Aa (Np hs h64 λh' dr I vs L x Q=>?_);obtain⟨N,V,St,H,T,W,M⟩:=Q;have v:=λhm=>(H S hm).elim hSa λz=>Dz _ (Bi (As hS) z);have k:=x S _ hS;have K:vs.length=es.size:=by rw[L.length_eq,B6]
 have m:∀h J tk,St 0 h->(∀b o,b≠S->s.heap.get? b=ae o->h.get? b=ae o)->
   h.get? S=ae {cls:=.type "list",data:=.seq #[] J}->Fz (A9 prog w) A (.builtin "list.extend.loop" ⟨[.ref S,.ref I,res],[]⟩) R {s with heap:=h,toks:=tk,drawn:=dr}:=by
  intro h J tk G D B;refine codeAny_extend_loopS (W A.in1 hh).toS (by rw[Ez];omega) S v res vs.length 0 _ #[] J rfl (Az _) G B (ItemsOf.nil _) λs' q c' hm E n=>?_;rw[Moved.eq_with hm];refine hR s'.heap s'.toks dr vs q c' L (λb o l e=>hm.heap b o (λhmem=>?_) (D b o l e)) E n;rcases Au.mp hmem with O|hmem
  ·exact l O
  ·exact f_ (As e) (by rw[(A2.mp hmem)];exact Nat.not_lt.mpr N)
 refine Aa (B7 (SQ (hs.move λo e=>x a o e).typeIs (Fy (λ_=>?_) (λ_=>Ai ⟨E6 Gu _,m _ 0 _ M (λb o _ e=>x b o e) k⟩))));refine Aa (Gm (Aa ?_));refine Aa (wpAny_updateSeq k rfl ?_);have p:=Bn (Ea (·.push B3)) k rfl;refine wpAny_updateSeq p rfl ?_;refine Ai ⟨E6 Gu _,m _ _ _ ?_ (λb o l e=>?_) (Bn (Ea (·.pop)) p rfl)⟩
 ·refine(W A hh).frame 0 _ _ M λb l o e=>?_;have r:b≠S:=λh=>v (h▸l);exact(Dg _ _ (Ne.symm r)).trans ((Dg _ _ (Ne.symm r)).trans e)
 ·exact(Dg _ _ (Ne.symm l)).trans ((Dg _ _ (Ne.symm l)).trans (x b o e))
theorem yk{vs:List (Int×Af)}{i':Array Af}(h:ItemsOf (jx vs) i' vs.length):i'.toList=vs.map (·.2):=by
 apply List.ext_getElem?;intro i;by_cases d:i < vs.length
 ·have a:i < i'.size:=by rw[h.1];exact d
  obtain⟨e,c,b⟩:=h.2 i i'[i] (Ca a);rw[Am,c,D1,Ca a,b];rfl
 ·rw[Cr (by rw[B6,h.1];omega),Cr (by rw[Ab];omega)]
theorem J1{R:List Af->Aj->Prop}(hh:A.handled=af)(hs:SetTb w s.heap a es ep t)(h64:es.size < 64)
  (h:∀(h':Heap)(tk:Nat)(dr:Drawn)(vs:List (Int×Af)),vs.Perm es.toList->(∀b o,s.heap.get? b=ae o->h'.get? b=ae o)->R (vs.map (·.2)) {s with heap:=h',toks:=tk,drawn:=dr}):
  A6 (A9 prog w) A (collect (.ref a)) R E s:=by
 refine Aa (wpAny_runValue (Eb L8 (Aa (B1 ?_))));refine Ai ⟨E6 PySem.F.plain_list_iadd _,Eb Q2 ?_⟩;have n:(s.heap.push {cls:=.type "list",data:=.seq ([]:List Af).toArray}).get? s.heap.objs.size=ae {cls:=.type "list",data:=.seq #[]}:=Av _ rfl;have m:=Oq (prog:=prog) (s:={ s with heap:=s.heap.push {cls:=.type "list",data:=.seq ([]:List Af).toArray}})
  (R:=λq r=>∃(h':Heap)(tk:Nat)(dr:Drawn)(vs:List _)(d:Array Af)(l:Nat),q=.ok _/\r={ s with heap:=h',toks:=tk,drawn:=dr}/\vs.Perm es.toList /\
   (∀b o,s.heap.get? b=ae o->h'.get? b=ae o)/\h'.get? s.heap.objs.size=ae {cls:=.type "list",dict:=af,data:=.seq d l,slots:=#[]}/\ItemsOf (jx vs) d vs.length)
  hh (hs.move λo e=>Ae _ e) h64 s.heap.objs.size (Dy hs.lt) (.ref s.heap.objs.size) n
  (λh' tk dr vs d l k j g c=>⟨h',tk,dr,vs,_,l,rfl,rfl,k,λb o e=>j b o (Be (As e)) (Ae _ e),g,c⟩)
 refine Dc m (λfin r x=>?_) λe r x=>?_
 ·cases fin with
  |done f=>
   obtain⟨h',tk,dr,vs,d,l,e,rfl,k,j,g,c⟩:=x;cases e;refine Aa (wpAny_load g (Ai ?_));rw[yk c];exact h h' tk dr vs k j
  |again C=>
   refine⟨x.1,codeAny_mono x.2 λq B y=>?_⟩;obtain⟨h',tk,dr,vs,d,l,rfl,rfl,k,j,g,c⟩:=y;refine Aa (wpAny_load g (Ai ?_));rw[yk c];exact h h' tk dr vs k j
 ·obtain⟨_,_,_,_,_,_,z,_⟩:=x;cases z
end
def dC(w:Bj):Obj:={ cls:=.type "set",dict:=af,data:=.set #[] 0 (.fresh 0 0 (!cR w))}
section
variable{prog:Bb}{w:Bj}{A:Bt}{E:Af->Aj->Prop}{s:Aj}
theorem MA{h:Heap}{a:z_}(e:h.get? a=ae (dC w)):hU w h a []:=
 ⟨#[],0,_,⟨⟨_,e,⟨rfl,rfl,rfl⟩,rfl⟩,rfl,rfl,λ_=>rfl⟩,λe b=>by simp at b,List.Pairwise.nil,λk=>by simp[cK],Ao _⟩
theorem MP(a:Af){Q₁:Af->Aj->Prop}(h:Q₁ (.ref s.heap.objs.size) {s with heap:=s.heap.push (dC w)}):
  Fz (A9 prog w) A (.call (.builtin "set.__new__") ⟨[.type "set",a],[]⟩) (wants Q₁ E) s:=by
 refine codeAny_of_tree (Aa (Gs (F.newCall_set_1 a) (Ai ⟨E6 F.plain_set_new _,Eb F.entry_set_new ?_⟩)));unfold Ep.«set.__new__» Builtin.Frozenset.newClass;have b:=sub_set_self;dsimp only
 wp_walk
 exact wpAny_askSetting (Ai (Aa (wpAny_alloc (Ai (Ai h)))))
structure TxSrc(prog:Bb)(w:Bj)(T:String)(x:z_)(ks:List Str)(OK:Heap->Prop):Prop where
 type:∀s:Aj,OK s.heap->s.TypeIs (.ref x) T
 there:∀h:Heap,OK h->x < h.objs.size
 keep:∀h h':Heap,OK h->(∀o,h.get? x=ae o->h'.get? x=ae o)->OK h'
 notSet:isSubtype (.type T) (.type "set")=pure ai
 notFrozen:isSubtype (.type T) (.type "frozenset")=pure ai
 notDict:(Dj T==Dj "dict")=ai
 iter:∀s:Aj,OK s.heap->∃(oI:Obj)(St:Nat->Heap->Prop),
  (∀(A:Bt)(E:Af->Aj->Prop)(Q:Af->Aj->Prop),Q (.ref s.heap.objs.size) {s with heap:=s.heap.push oI}->A6 (A9 prog w) A (pyIter (.ref x)) Q E s) /\
  (∀A:Bt,A.handled=af->Walks prog w A s.heap.objs.size [s.heap.objs.size,x] [s.heap.objs.size] ks.length (gU ks) St)/\St 0 (s.heap.push oI)
set_option maxHeartbeats 3200000 in
theorem BI{T:String}{x:z_}{ks:List Str}{OK:Heap->Prop}{Q:Af->Aj->Prop}(K:TxSrc prog w T x ks OK)(hh:A.handled=af)(hok:OK s.heap)(h64:ks.length < 64)
  (h:∀(h':Heap)(tk:Nat),hU w h' s.heap.objs.size ks->(∀b o,b < s.heap.objs.size->s.heap.get? b=ae o->h'.get? b=ae o)->Q (.ref s.heap.objs.size) {s with heap:=h',toks:=tk}):
  A6 (A9 prog w) A (call (.type "set") [.ref x]) Q E s:=by
 obtain⟨c,tl,hmro⟩:=F.called_set.mro;have hmade:=F.called_set.made;have hsub:=F.called_set.sub;refine wpAny_call (codeAny_of_tree ?_);show A6 _ _ (callAny (.type "set") _) _ _ _;refine Ai ⟨Code.quiet_builtin _ ∅,Eb F.entry_type_call ?_⟩;rw[Around.under_plain (weight_type_call_type "set" [.ref x] []) rfl];have h1:=F.called_set.notType;have h2:=F.called_set.canCreate;have hct:=F.typeCall_set_1 (.ref x)
 repeat (any_goals (first|assumption|wp_step))
 refine codeAny_mono (MP (.ref x) (E:=E) (Q₁:=λobj r_=>obj=.ref s.heap.objs.size/\r_={ s with heap:=s.heap.push (dC w)}) ⟨rfl,rfl⟩) λr r_ hr=>?_;cases r with
 |error e=>exact hr
 |ok fl=>
  cases fl with
  |ret obj=>
   obtain⟨rfl,rfl⟩:=hr;have hS:(s.heap.push (dC w)).get? s.heap.objs.size=ae (dC w):=Av _ rfl;have hT:Shared.TypeIs {s with heap:=s.heap.push (dC w)} (.ref s.heap.objs.size) "set":=⟨_,hS,rfl⟩;have hli:=F.called_set.init.lookup;have hbi:=F.called_set.init.bind (.ref s.heap.objs.size)
   repeat (any_goals (first|assumption|wp_step))
   refine codeAny_mono (codeAny_call_builtin (R:=wants (λr s_=>r=.none/\∃h' tk,s_={ s with heap:=h',toks:=tk}/\hU w h' s.heap.objs.size ks /\
     (∀b o,b < s.heap.objs.size->s.heap.get? b=ae o->h'.get? b=ae o)) E) F.called_set.init.plain F.entry_set_init (check_set_init_1 hT ?_)) λy' s_ hr₂=>?_
   ·have hok1:OK (s.heap.push (dC w)):=K.keep _ _ hok λo e=>Ae _ e;have hTx:Shared.TypeIs {s with heap:=s.heap.push (dC w)} (.ref x) T:=K.type {s with heap:=s.heap.push (dC w)} hok1;have hsls:=K.notSet;have hslf:=K.notFrozen;have hne:=K.notDict;unfold Ep.«set.__init__» noKeywords Builtin.Frozenset.updateFrom;generalize hPI:pyIter=PI
    wp_walk
    subst hPI;have hh3:A.in1.in1.in1.handled=af:=by simp[hh]
    obtain⟨oI,St,hit,W,st⟩:=K.iter {s with heap:=s.heap.push (dC w)} hok1;refine hit _ _ _ ?_;refine Aa (wpAny_runValue ?_);have hxS:x < s.heap.objs.size:=K.there _ hok;have hSf:s.heap.objs.size∉[(s.heap.push (dC w)).objs.size,x]:=by
     rw[Cn];simp only[Au,A2,A4,g_,not_or];exact⟨Be (Nat.lt_succ_self _),Dy hxS⟩
    refine Rx (W _ hh3).toS s.heap.objs.size hSf rfl h64 (ks.length-0) 0 _ ⋯ (Az _) st (MA (Ae _ hS)) ?_;intro s' hm hS';obtain⟨h',g',d',tk',os'⟩:=s';have eg:g'=s.gens:=hm.gens;have ed:d'=s.drawn:=hm.drawn;have eo:os'=s.os:=hm.os;subst eg;subst ed;subst eo;show A6 _ _ _ _ _ _;refine Ai ?_;show A6 _ _ (ret B3) _ _ _;refine Ai ⟨rfl,h',tk',rfl,hS',λb o hb e=>?_⟩;have hb1:b≠s.heap.objs.size:=Be hb;have hb2:b≠(s.heap.push (dC w)).objs.size:=by
     rw[Cn];exact Be (D8 hb)
    exact hm.heap b o (by simp only[Au,A2,A4,g_,not_or];exact⟨hb1,hb2⟩) (Ae _ (Ae _ e))
   ·cases y' with
    |error e=>exact hr₂
    |ok fl₂=>
     cases fl₂ with
     |ret r=>
      obtain⟨rfl,h',tk,rfl,hS',hk'⟩:=hr₂
      repeat (any_goals (first|assumption|wp_step))
      exact h _ _ hS' hk'
     |_=>exact hr₂.elim
  |_=>exact hr.elim
theorem N0{x:z_}{ks:List Str}{items:Array Af}(hk:∀i v,items[i]?=ae v->gU ks i v)(hl:items.size=ks.length):TxSrc prog w "list" x ks (λh=>h.IsList x items) where
 type:=λs h=>h.typeIs
 there:=λh hl=>let⟨_,e,_⟩:=hl;As e
 keep:=λh h' hl k=>let⟨o,e,r⟩:=hl;⟨o,k o e,r⟩
 notSet:=by rw[Er];kernel_rfl
 notFrozen:=by rw[Er];kernel_rfl
 notDict:=by decide
 iter:=λs hok=>⟨_,(λi h=>h.IsListIter s.heap.objs.size x i/\h.IsList x items),(λA E Q hq=>wpAny_pyIter_list hok hq),(λA hh=>by
  have W:=Walks.list (prog:=prog) (w:=w) hh s.heap.objs.size x (Be (let⟨_,e,_⟩:=hok;As e)) items;refine⟨W.sub,W.frame,λi s Q E hi st hQ=>W.item i s Q E (by rw[hl];exact hi) st λv h' tk hv a b=>hQ v h' tk (hk i v hv) a b,?_,W.self⟩;rw[<-hl];exact W.done),⟨⟨_,Av _ rfl,rfl,rfl⟩,hok.push _⟩⟩
theorem Iv{x:z_}{ks:List Str}{items:Array Af}(hk:∀i v,items[i]?=ae v->gU ks i v)(hl:items.size=ks.length):TxSrc prog w "tuple" x ks (λh=>h.IsTuple x items) where
 type:=λs h=>h.typeIs
 there:=λh hl=>let⟨_,e,_⟩:=hl;As e
 keep:=λh h' hl k=>let⟨o,e,r⟩:=hl;⟨o,k o e,r⟩
 notSet:=by rw[Er];kernel_rfl
 notFrozen:=by rw[Er];kernel_rfl
 notDict:=by decide
 iter:=λs hok=>⟨_,(λi h=>h.IsTupleIter s.heap.objs.size x i/\h.IsTuple x items),(λA E Q hq=>Dp hok hq),(λA hh=>by
  have W:=Walks.tuple (prog:=prog) (w:=w) hh s.heap.objs.size x (Be (let⟨_,e,_⟩:=hok;As e)) items;refine⟨W.sub,W.frame,λi s Q E hi st hQ=>W.item i s Q E (by rw[hl];exact hi) st λv h' tk hv a b=>hQ v h' tk (hk i v hv) a b,?_,W.self⟩;rw[<-hl];exact W.done),⟨⟨_,Av _ rfl,rfl,rfl⟩,hok.push _⟩⟩
end
def gY(w:Bj)(v:z_)(ks:List Str):HO:=.ext λh=>hU w h v ks
def sU(w:Bj):List V->Hp->VK->Prop:=λxs H Q=>∃(a:z_)(ks:List Str),xs=[.ref a]/\(H a=ae (.lst (ks.map V.str))\/H a=ae (.tup (ks.map V.str)))/\ks.length < 64/\∀v,H v=af->Q (.ref v) (upd H v (gY w v ks))
theorem EI{ks:List Str}{vs:List Af}(h:Vals (ks.map V.str) vs)(i:Nat)(v:Af)(e:vs.toArray[i]?=ae v):gU ks i v:=by
 have c:vs[i]?=ae v:=by simp_all
 have b:=h.length;rw[Ab]at b;have d:i < ks.length:=by rw[b];exact(Aq.mp c).1
 obtain⟨u,a,f⟩:=h.get (by rw[Am,Ah d];rfl);rw[c]at a;cases a;obtain⟨t,g⟩:=f;exact⟨_,t,Ah d,g⟩
theorem yf{ks:List Str}{vs:List Af}(h:Vals (ks.map V.str) vs):vs.toArray.size=ks.length:=by
 have a:=h.length;rw[Ab]at a;rw[Bd,<-a]
theorem GU{X:Cx}(hh:X.A.handled=af):CallR X (.type "set") (sU X.w):=by
 intro i s σ H P O Q I r h;obtain⟨a,C,rfl,j,d,q⟩:=h;obtain⟨u,rfl,L⟩:=fA r;cases(L);have g:∀h' v,hU X.w h' s.heap.objs.size C->(∀b o,b < s.heap.objs.size->s.heap.get? b=ae o->h'.get? b=ae o)->EP X i σ Q _ {s with heap:=h',toks:=v}:=λh' v z F=>by
  have m:∃o,h'.get? s.heap.objs.size=ae o:=by
   obtain⟨x,y,t,T,_⟩:=z;obtain⟨o,e,_⟩:=T.obj;exact⟨o,e⟩
  refine⟨.ref s.heap.objs.size,_,I.laid (o:=gY X.w s.heap.objs.size C) (λb o e=>F b o (As e) e) (Ao _) ⟨z,m,λh1 N q k=>?_⟩,rfl,q _ (I.hok.fresh (Ao _))⟩;obtain⟨x,y,t,T,r⟩:=q;exact⟨x,y,t,T.move λo e=>k _ e,r⟩
 rcases j with j|j
 ·obtain⟨E,J,c,f,D⟩:=I.hok a _ j;exact BI (N0 (EI f) (yf f)) hh ⟨_,D,rfl,_,rfl⟩ d g
 ·obtain⟨E,J,f,o,G,M,⟨n,K⟩,_⟩:=I.hok a _ j;exact BI (Iv (EI f) (yf f)) hh ⟨o,G,M,n,K⟩ d g
theorem Inv.drew{X:Cx}{h_:List (z_×Obj)}{σ:St}{H:Hp}{s:Aj}(I:Inv X h_ σ H s)(dr:Drawn):Inv X h_ σ H {s with drawn:=dr}:=⟨I.ok,I.os,I.bare,I.base,I.loc,I.cell,I.free,I.freeC,I.pin,I.hok,I.len⟩
theorem Lc{X:Cx}{h_:List (z_×Obj)}{σ:St}{H:Hp}{s:Aj}{h':Heap}{tk:Nat}{vs:List Af}{ks:List Str}{Q:VK}(I:Inv X h_ σ H s)(hkp:∀b o,s.heap.get? b=ae o->h'.get? b=ae o)(hT:gX vs ks)(h64:ks.length < 64)
  (q:∀(D:z_)(ys:List Str),ys.Perm ks->ys.Pairwise (λa b=>¬b.cps.toList < a.cps.toList)->H D=af->Q (.ref D) (upd H D (.lst (ys.map V.str)))):
  vs.length<=Aw/\A6 (A9 X.prog X.w) X.A.in1.in1 (Ep.«list.sort» ⟨[.ref h'.objs.size],[]⟩) (λf s2=>f=.done (.ret .none)/\EP X h_ σ Q (.ref h'.objs.size) s2) X.xe {s with heap:=h'.push (Dq "list" vs.toArray 0),toks:=tk}:=by
 have K:=hT.1;refine⟨by rw[K];exact fc ⋯,?_⟩;have p:(h'.push _).get? h'.objs.size=ae (Dq "list" vs.toArray 0):=Av _ rfl;have n:∀(idx:List Nat) h3 c,idx.Perm _->(idx.map λi=>ks.getD i _).Pairwise _->
   (∀b o,b≠h'.objs.size->(h'.push (Dq "list" vs.toArray 0)).get? b=ae o->h3.get? b=ae o)->h3.get? h'.objs.size=ae _->EP X h_ σ Q _ {s with heap:=h3,toks:=tk}:=λidx h3 c B hw R S=>by
  have N:Inv X h_ σ H {s with heap:=h',toks:=tk}:=I.kept hkp;have x:=N.hok.fresh (Ao _);refine⟨.ref h'.objs.size,_,N.laid (o:=.lst _) (λb o e=>R b o (Be (As e)) (Ae _ e)) (Ao _) ⟨?_,_,c,uy hT idx (λi u=>Bx.mp (B.mem_iff.mp u)),S⟩,rfl,q _ _ (yW B) hw x⟩;rw[Ab,Ab,B.length_eq,Dt];exact fc ⋯
 by_cases y:2<=vs.length
 ·refine KS.ls_sort p y ⋯ λe1 h4 m J=>kas_kind (T:=Dj "str") y (λf W=>?_) rfl rfl ?_
  ·obtain⟨j,v⟩:=Br.mp W;obtain⟨k,t,_,rfl⟩:=hT.2 j f v;exact .now
  ·have x:0 < vs.length:=by omega
   have r:=KS.wi_sort x;refine KS.wp_run (c:=KS.ltK ks) (St:=λs'=>s'={ s with heap:=h4,toks:=tk}) (λi j C s' u v hs hC=>?_) _ _ r rfl λs' G=>?_
   ·subst hs;obtain⟨P,t1,a1,a2⟩:=hT.2 i vs[i] (Ah u);obtain⟨L,t2,b1,Y⟩:=hT.2 j vs[j] (Ah v);unfold kas_ask;have g1:vs.getD i B3=.str P t1:=by simp[u,a2]
    have g2:vs.getD j B3=.str L t2:=by simp[v,Y]
    rw[g1,g2];have U:ks.getD i ⟨#[]⟩=P:=by simp[a1]
    have c2:ks.getD j ⟨#[]⟩=L:=by simp[b1]
    have:=hC _ rfl;unfold KS.ltK at this;rw[U,c2]at this;exact kas_lt_str this
   ·subst G;refine⟨m,λh3 c sb E=>⟨rfl,?_⟩⟩;have l:KS.Pm vs.length (KS.run (KS.ltK ks) _):=KS.Wi.out _ r;have M:=by
     have:=Gv.mp l;omega
    refine n _ h3 c (by simp_all) (uR l.size (KS.sort_ok (KS.ordK ks) x)) (λb o O e=>(sb.2 b O).trans (J b o O e)) E
 ·refine KS.ls_short p ⋯ λh4 c m J=>⟨rfl,?_⟩;have el:vs=(A8 ks.length).map λi=>vs.getD i B3:=by
   apply Fc (by simp[K]);intro i Z y;simp[Z]
  have F:h4.get? h'.objs.size=ae (Dq "list" (Eo ((A8 ks.length).map λi=>vs.getD i B3)) c):=by rw[<-el];omega
  refine n _ h4 c (List.Perm.refl _) ?_ J F;have:(A8 ks.length).length<=1:=by simp;omega
  match hr:A8 ks.length,this with
  |[],_=>exact .nil
  |[i],_=>exact Fu _ _
def rX(w:Bj):List V->Hp->VK->Prop:=λxs H Q=>∃(v:z_)(ks:List Str),xs=[.ref v]/\H v=ae (gY w v ks)/\ks.length < 64 /\
 ∀(D:z_)(ys:List Str),ys.Nodup->(∀k,k∈ys↔k∈ks)->ys.Pairwise (λa b=>¬b.cps.toList < a.cps.toList)->H D=af->Q (.ref D) (upd H D (.lst (ys.map V.str)))
theorem PD{w:Bj}{es vs:List (Int×Af)}(h:∀e∈es,∃k t,e.2=.str k t/\e.1=hashStr w k)(p:vs.Perm es):gX (vs.map (·.2)) (vs.map λe=>gn e.2):=by
 refine⟨by rw[Ab,Ab],λj v a=>?_⟩;rw[Am]at a;cases e:vs[j]? with
 |none=>rw[e]at a;cases a
 |some x=>
  rw[e]at a;obtain⟨k,t,b,_⟩:=h x (p.mem_iff.mp (Ay e));refine⟨k,t,?_,(Bq a)▸b⟩;rw[Am,e];show ae (gn x.2)=ae k;rw[b];rfl
theorem OL{X:Cx}(hh:X.A.handled=af):CallR X (.builtin "sorted") (rX X.w):=by
 intro C s σ H Z W Q I r h;obtain⟨v,S,rfl,M,n,q⟩:=h;obtain⟨u,rfl,P⟩:=fA r;cases(P);obtain⟨V,Y,t,T,N,L,K,E⟩:=(I.hok v _ M).1;have a:=D3 E n;refine KS.sorted_of (R:=λvs B=>∃(h':Heap)(i:Nat)(f:Drawn)(g:List Str),B={ s with heap:=h',toks:=i,drawn:=f}/\(∀b o,s.heap.get? b=ae o->h'.get? b=ae o)/\gX vs g/\g.Nodup/\(∀k,k∈g↔k∈S)/\g.length < 64)
  (J1 hh T a λh' i f vs d J=>?_) ?_
 ·have z:=List.Perm.map (λe:Int×Af=>gn e.2) d;exact⟨h',i,f,_,rfl,J,PD N d,z.nodup_iff.mpr L,λk=>z.mem_iff.trans (K k),by rw[Ab,d.length_eq];omega⟩
 rintro vs B ⟨h',i,f,g,rfl,p,G,l,m,a⟩
 exact Lc (s:={ s with drawn:=f}) (I.drew f) p G a λD F d O U=>q D F (d.nodup_iff.mpr l) (λk=>d.mem_iff.trans (m k)) O U
theorem OO{α:Type}(lt:α->α->Prop)[∀a b,Decidable (lt a b)](gw:∀a,¬lt a a)(tr:∀a b c,lt a c->lt c b->lt a b)(f:Nat->α):∀k,argBest (λi j=>decide (lt (f i) (f j))) k<=k/\∀j,j<=k->¬lt (f j) (f (argBest (λi j=>decide (lt (f i) (f j))) k))
 |0=>⟨Ao _,λj d=>by cases Nat.le_zero.mp d;exact gw _⟩
 |k+1=>by
  obtain⟨l,h⟩:=OO lt gw tr f k;unfold argBest;by_cases g:lt (f (k+1)) (f (argBest (λi j=>decide (lt (f i) (f j))) k))
  ·rw[a' (b_ g)];refine⟨Ao _,λj d=>?_⟩;by_cases e:j=k+1
   ·subst e;simp_all
   ·exact λz=>h j ⋯ (tr _ _ _ z g)
  ·rw[a_ (by simpa using g)];refine⟨Nat.le_succ_of_le l,λj d=>?_⟩;by_cases e:j=k+1
   ·subst e;omega
   ·exact h j ⋯
end L2
namespace DL
open PySem L2 Nb
section
variable{X:Cx}{o:Expr}{td:TE}{wd':DT}{pos p p2 ip:Pos}{W:Bj}
def ia(ys:List Str):Prop:=ys.Pairwise λa b=>¬b.cps.toList < a.cps.toList
def CT(w:DT):d6:=λδ n Q=>w δ n λx n1=>∃ks:List Str,(x=.d (.list (ks.map .str))\/x=.d (.tuple (ks.map .str)))/\ks.length < 64/\(∀k∈ks,k.length<=1000) /\
 ∀ys:List Str,ys.Nodup->(∀k,k∈ys↔k∈ks)->ia ys->Q (ys.map .str) n1
theorem wX{α:Type}:∀{xs ys:List α},xs.Nodup->(∀x∈xs,x∈ys)->xs.length<=ys.length
 |[],_,_,_=>Az _
 |x::xs,ys,d,h=>by
  obtain⟨f,c⟩:=Du.mp d;obtain⟨l,r,e⟩:=List.append_of_mem (h x Ap);have:=wX (ys:=l++r) c λz b=>by
   have a:=h z (Ak _ b);rw[e]at a;rcases A7.mp a with q|q
   ·exact Da _ q
   ·rcases Au.mp q with q|q
    ·exact f_ (q▸b) f
    ·exact Bw _ q
  rw[e];simp only[Ax,An]at this ⊢;omega
theorem uq{H:Hp}{B:z_->Prop}:∀{xs:List V}{ks:List Str},RdXs H B xs (ks.map .str)->xs=ks.map V.str
 |[],[],_=>rfl
 |_::_,[],h=>nomatch h
 |[],_::_,h=>nomatch h
 |x::xs,k::ks,.cons h t=>by
  cases h;rw[uq t];rfl
theorem Jc(hh:X.A.handled=af)(hg:Gl X "sorted")(hm:X.mg "sorted"=af)(hg2:Gl X "set")(hm2:X.mg "set"=af)(ho:DE X o td wd')(hW:X.w=W:=by rfl)(hv:Bm "sorted"=ae (.builtin "sorted"):=by decide +kernel)(hv2:Bm "set"=ae (.type "set"):=by decide +kernel)
  (he2:Ar [o] X.env=(ai,eval o X.env)::Ar [] X.env:=by rfl) (hpl2:(Cp ip (Ar [] X.env)).any (·.1)=ai:=by rfl)
  (he':Ar [Expr.Call (.Name "set" p2) [o] [] ip] X.env=(ai,eval (Expr.Call (.Name "set" p2) [o] [] ip) X.env)::Ar [] X.env:=by rfl) (p_:(Cp pos (Ar [] X.env)).any (·.1)=ai:=by rfl):
  DF X (.Call (.Name "sorted" p) [.Call (.Name "set" p2) [o] [] ip] [] pos) (fk (rX W) (bJ (fk (sU W) (bJ td bf)) bf)) (CT wd'):=by
 subst hW;refine⟨jG (OL hh) hg hm hv (cw (m6 (GU hh) hg2 hm2 hv2 (cw ho.pe eu he2) ∎ ∎ he2 hpl2) eu he') ∎ ∎ he' p_,λC H B σ δ n Q M R q k=>
  ho.sd C H B σ δ n _ _ R q λv x b L t F E J=>?_⟩
 obtain⟨h,N,f,I,V⟩:=J;have c:∀a:z_,v=.ref a->(b a=ae _\/b a=ae _)->fk (rX X.w) (bJ (λσ H Q=>sU X.w [v] H Q) bf) σ b M:=λa ea ha=>by
  subst ea;refine⟨a,h,rfl,ha,f,λu s=>⟨u,h,rfl,bj,f,λD Y z hm O i=>?_⟩⟩;have j:b D=af:=by
   cases e:b D with
   |none=>rfl
   |some T=>
    have:upd b u (gY X.w u h) D=ae T:=by rw[aL (bH e s)];exact e
    rw[i]at this;cases this
  have g:=λy g=>I y ((hm y).mp g);refine k D _ _ _ L ((t.new (o:=gY X.w u h) s).new i) ((F.trans (Kp.new s)).trans (Kp.new i)) (t.was F j) bj ?_ (mK g) (V Y z hm O);rw[Ab];have:=wX z λy g=>(hm y).mp g;exact fc ⋯
 rcases N with rfl|rfl
 ·cases(show RdX b B v (.list _)from E)with
  |@lst a P _ r S K l=>exact c a rfl (.inl (by rw[r,uq l]))
 ·cases(show RdX b B v (.tuple _)from E)with
  |@tup a P _ r S K l=>exact c a rfl (.inr (by rw[r,uq l]))
def j8(c:b3)(W:aH):aH:=λδ n K=>∃I:Nat->Sl->Int->Prop,(∃m,I m δ n)/\∀m δ n,I m δ n->
 c δ n λb n1=>if b=ah then W δ n1 {nx:=λδ n=>∃m',m' < m/\I m' δ n,rt:=K.rt,bk:=K.nx,ct:=λδ n=>∃m',m' < m/\I m' δ n,rn:=K.rn,rx:=K.rx}else K.nx δ n1
theorem ML{c:Expr}{body:List Stmt}{tc:TT}{tb:TS}{cc:b3}{V':aH}(hc:DC X c tc cc)(hb:DSs X body tb V')(hp:PassesOwn (A9 X.prog X.w) X.A X.env X.xe:=by exact PassesOwn.never):DS X (.While c body [] pos) (xI tc tb) (j8 cc V'):=⟨QM hp hc.pt hb.ps,λC H B σ δ n K D R q E=>by
 obtain⟨I,⟨l,k⟩,a⟩:=q;refine⟨λm σ H=>∃B δ n,Rel C H B σ δ n/\I m δ n,⟨l,B,δ,n,R,k⟩,λm σ H ⟨B,δ,n,R,i⟩=>hc.sd C H B σ δ n _ _ R (a m δ n i) λb h j g p f=>?_⟩;cases b with
 |true=>
  refine⟨λσ' o=>∃d,d < m/\∃B δ n,_,λσ' o z=>z,hb.sd C h B σ δ j _ _ g f ⟨?_,E.rt,?_,?_,E.rn,E.rx⟩⟩
  ·exact λH B σ δ n R ⟨d,e,z⟩=>⟨d,e,B,δ,n,R,z⟩
  ·exact E.nx
  ·exact λH B σ δ n R ⟨d,e,z⟩=>⟨d,e,B,δ,n,R,z⟩
 |false=>
  exact E.nx h B σ δ j g f⟩
variable{a:Expr}{ta:TE}{wa:DT}{K:Ag}
end
section
variable{X:Cx}{a b c e o i f:Expr}{ta tb te td ty tx:TE}{wa wb we wd' wy wx:DT}{pos p:Pos}{K:Ag}
def cy(i:Nat):DT:=λδ n Q=>match δ[i]? with
 |some (ae (.own ds))=>Q (.ln ds) n
 |some (ae (.w x))=>Q x n
 |_=>False
theorem PF(i:Nat){x:Str}{p:Pos}(hN:X.N[i]?=ae x:=by rfl)(hv:ej X.env.scope x:=by first|exact Ce rfl|exact Bz (Ce rfl)|exact Bz (Bz rfl))(hd:(x==("__debug__":Str))=ai:=by decide)
  (q_:(x==("__classdict__":Str))=ai:=by decide):DE X (.Name x p) (aM i) (cy i):=⟨fm hN hv hd q_,λC H B σ δ n Q o R h k=>by
 unfold cy at h
 split at h
 ·rename_i l e;obtain⟨v,b,a,f,rfl,j,q,g,m,d⟩:=R.sl i _ e;exact⟨_,b,k _ (.ln l) H n R (Kp.refl _ _) ⟨a,f,rfl,j,λz=>R.t0 (z▸g),m,d⟩ h⟩
 ·rename_i x e;obtain⟨v,b,c⟩:=R.sl i _ e;exact⟨v,b,k v x H n R (Kp.refl _ _) c.1 h⟩
 ·exact h.elim⟩
def aU:Wv->Wv->Int->DQ->Prop:=λx y n Q=>match x with
 |.ln ds=>match y with
  |.d (.int i)=>match cX ds i with
   |some d=>Q (.d d) n
   |none=>False
  |_=>False
 |x=>av x y n Q
theorem LM:bh (jH K) aU:=λC H B σ δ n x y p q Q f R b c a k=>by
 cases p with
 |ln t=>
  unfold aU at a;simp_all
  split at a
  ·rename_i i
   split at a
   ·rename_i d e;cases(show RdX H B y (.int i)from c);obtain⟨g,o,rfl,r,w,u,j⟩:=b;obtain⟨v,l,h⟩:=tP j e;exact .inl ⟨g,o,i,v,rfl,rfl,SqL.of r,l,k _ _ H n R (Kp.refl _ _) (wd h) a⟩
   ·exact a.elim
  ·exact a.elim
 |d _=>exact lI C H B σ δ n x y _ q Q f R b c a k
 |tp=>exact lI C H B σ δ n x y _ q Q f R b c a k
 |dk _=>exact lI C H B σ δ n x y _ q Q f R b c a k
 |dx _=>exact lI C H B σ δ n x y _ q Q f R b c a k
 |ob _=>exact lI C H B σ δ n x y _ q Q f R b c a k
theorem Rj(ha:DE X a ta wa)(hb:DE X b tb wb)(hK:X.K=K:=by rfl)(hs:qu b:=by exact λ_ _=>rfl):DE X (.Subscript a b pos) (dt (jH K) ta tb) (w2 wa wb aU):=by
 subst hK;exact⟨gp qP ha.pe hb.pe hs,mO LM ha.sd hb.sd⟩
def d8(neg:Bool):Wv->Wv->Int->DQ->Prop:=λx y n Q=>match y with
 |.ln ds=>match x with
  |.d a=>eI a=ah/\ds.all eI=ah/\Q (.d (.bool (if neg then !bW a ds else bW a ds))) n
  |_=>False
 |y=>dP neg x y n Q
theorem Py{neg:Bool}:bh (gE K neg) (d8 neg):=λC H B σ δ n x y p q Q e R b c a k=>by
 cases q with
 |ln o=>
  unfold d8 at a;dsimp only at a
  split at a
  ·rename_i z;obtain⟨i,h,q⟩:=a;obtain⟨g,j,rfl,l,s,r,f⟩:=c;refine⟨g,j,rfl,.inl (SqL.of l),kr b i,jw f h,?_⟩;rw[kJ b f];exact k _ _ H n R (Kp.refl _ _) (wd (.bl _)) q
  ·exact a.elim
 |d _=>exact i7 C H B σ δ n x y p _ Q e R b c a k
 |tp=>exact i7 C H B σ δ n x y p _ Q e R b c a k
 |dk _=>exact i7 C H B σ δ n x y p _ Q e R b c a k
 |dx _=>exact i7 C H B σ δ n x y p _ Q e R b c a k
 |ob _=>exact i7 C H B σ δ n x y p _ Q e R b c a k
def d7:List Wv->Int->DQ->Prop:=λxs n Q=>match xs with
 |[.ln ds]=>Q (.d (.int ds.length)) n
 |xs=>a9 xs n Q
theorem JD:cP (sy K) d7:=λC H B σ δ n c d Q e R r h k=>by
 unfold d7 at h
 split at h
 ·rename_i l;cases r with
  |cons f g=>
   cases g;obtain⟨a,i,rfl,j,o,m,b⟩:=f;refine .inr ⟨a,i,rfl,.inl (SqL.of j),?_⟩;rw[b.len];exact k _ _ H n R (Kp.refl _ _) (wd (.int _)) h
 ·exact sj C H B σ δ n c d Q e R r h k
def bL:Wv->Wv->Int->DQ->Prop:=λx y n Q=>match x,y with
 |.ln ds,.d (.list [])=>Q (.d (.bool ds.isEmpty)) n
 |x,y=>aX x y n Q
theorem Nn:bh (j5 K) bL:=λC H B σ δ n x y p q Q j R b c a k=>by
 unfold bL at a
 split at a
 ·rename_i g;obtain⟨e,d,rfl,o,v,u,i⟩:=b;cases(show RdX H B y (.list [])from c)with
  |@lst f w _ l s t r=>
   cases r;refine .inr (.inr ⟨e,f,d,rfl,rfl,SqL.of o,SqL.of l,?_⟩);have:d.isEmpty=g.isEmpty:=by cases i<;>rfl
   rw[this];exact k _ _ H n R (Kp.refl _ _) (wd (.bl _)) a
 ·exact pA C H B σ δ n x y p q Q j R b c a k
def gg:Wv->Option (List Ad)
 |.ln ds=>ae ds
 |.d (.list ds)=>ae ds
 |_=>af
def fV:Wv->Wv->Int->DQ->Prop:=λx y n Q=>match gg x,gg y with
 |some i,ae j=>i.length+j.length<=Aw/\Q (.d (.list (i++j))) n
 |_,_=>False
theorem rH{H:Hp}{B:z_->Prop}{t:z_}{v:V}{x:Wv}{ds:List Ad}(h:WRel H B t v x)(e:gg x=ae ds):∃a xs,v=.ref a/\H a=ae (.lst xs)/\xs.length<=Aw/\RdXs H B xs ds:=by
 cases x with
 |ln j=>
  cases e;obtain⟨a,xs,l,c,p,g,f⟩:=h;exact⟨a,xs,l,c,g,f⟩
 |d y=>
  cases y with
  |list j=>
   cases e;cases(show RdX H B v (.list ds)from h)with
   |@lst a xs _ n q i k=>exact⟨a,xs,rfl,n,i,k⟩
  |_=>cases e
 |tp=>cases e
 |dk _=>cases e
 |dx _=>cases e
 |ob _=>cases e
theorem QF:bh ju fV:=λC H B σ δ n x y p q Q E R s t c k=>by
 unfold fV at c
 split at c
 ·rename_i i j o v;obtain⟨l,f,rfl,w,D,e⟩:=rH s o;obtain⟨r,g,rfl,u,A,h⟩:=rH t v;obtain⟨m,q⟩:=c;have d:f.length+g.length<=Aw:=by rw[e.len,h.len];exact m
  refine⟨l,r,f,g,rfl,rfl,w,u,d,λpn a=>k _ _ _ n (R.new a) (Kp.new a) (wd (show RdX _ B _ (.list _)from .lst bj (R.nb a) (by rw[An];omega) ?_)) q⟩;exact((e.append h).fresh a).less λb z=>.inl z
 ·exact c.elim
theorem Qr(ha:DE X a ta wa)(hb:DE X b tb wb):DE X (.BinOp a .Add b pos) (dt ju ta tb) (w2 wa wb fV):=hX BV QF ha hb
end
section
variable{X:Cx}{a b c e o i f:Expr}{ta tb te td ty tx:TE}{wa wb we wd' wy wx:DT}{pos p:Pos}{K:Ag}
def dB(w:DT)(g:dE):aH:=λδ n K=>w δ n λx n1=>match x with
 |.d d=>g d δ λδ'=>K.nx δ' n1
 |_=>False
theorem Qw{tg:Expr}{g:TG}{gd:dE}(he:DE X e te we)(hg:DG X tg g gd)(hs:swapsWithSole [tg] e pos.line X.env=pure ai:=by rfl)(hw:swappedStores [tg] e X.env=pure af:=by rfl)
  (h1:(Cq [tg] X.env).map (·.2)=[assign tg X.env]:=by rfl):DS X (.Assign [tg] e pos) (bz te g) (dB we gd):=⟨ly he.pe hg.pg hs hw h1,λC H B σ δ n K D R q E=>
 he.sd C H B σ δ n _ _ R q λv x h i f s j a=>by
  cases x with
  |d d=>exact hg.sd C h B σ δ i v d _ _ f j a λσ' o b c=>E.nx _ _ _ _ _ b c
  |tp=>exact a.elim
  |dk _=>exact a.elim
  |dx _=>exact a.elim
  |ln _=>exact a.elim
  |ob _=>exact a.elim⟩
def mJ:Wv->Option (List Ad)
 |.ln ds=>ae ds
 |.d (.list ds)=>ae ds
 |.d (.tuple ds)=>ae ds
 |_=>af
theorem Ry{H:Hp}{B:z_->Prop}{t:z_}{v:V}{x:Wv}{ds:List Ad}(h:WRel H B t v x)(e:mJ x=ae ds):∃a xs,v=.ref a/\(SqL K H a xs\/SqT K H a xs)/\xs.length<=Aw/\RdXs H B xs ds:=by
 cases x with
 |ln k=>
  cases e;obtain⟨a,xs,p,l,u,n,m⟩:=h;exact⟨a,xs,p,.inl (SqL.of l),n,m⟩
 |d y=>
  cases y with
  |list k=>
   cases e;cases(show RdX H B v (.list ds)from h)with
   |@lst a xs _ i q b c=>exact⟨a,xs,rfl,.inl (SqL.of i),b,c⟩
  |tuple k=>
   cases e;cases(show RdX H B v (.tuple ds)from h)with
   |@tup a xs _ i q b c=>exact⟨a,xs,rfl,.inr (SqT.of i),b,c⟩
  |_=>cases e
 |tp=>cases e
 |dk _=>cases e
 |dx _=>cases e
 |ob _=>cases e
def lF(w:DT):d6:=λδ n Q=>w δ n λx n1=>match mJ x with
 |some ds=>Q ds n1
 |none=>False
theorem O6(hg:Gl X "list")(hm:X.mg "list"=af)(ho:DE X o td wd')(hK:X.K=K:=by rfl)(he:Ar [o] X.env=(ai,eval o X.env)::Ar [] X.env:=by rfl)(p_:(Cp pos (Ar [] X.env)).any (·.1)=ai:=by rfl):
  DF X (.Call (.Name "list" p) [o] [] pos) (fk (FK K) (bJ td bf)) (lF wd'):=
 ⟨m6 (I0 hK) hg hm o4 (cw ho.pe eu he) ∎ ∎ he p_,λC H B σ δ n Q u R q k=>ho.sd C H B σ δ n _ _ R q λv x t j d f r c=>by
  split at c
  ·rename_i s m;obtain⟨a,e,rfl,i,g,h⟩:=Ry r m;exact⟨a,e,rfl,i,λl b=>k l e s _ j (d.new b) (f.trans (Kp.new b)) (d.was f b) bj g (h.fresh b) c⟩
  ·exact c.elim⟩
def fX:List Wv->Int->DQ->Prop:=λxs n Q=>match xs with
 |[.ln ds]=>Q (.d (.tuple ds)) n
 |xs=>eQ xs n Q
theorem Rz:cP (vC K) fX:=λC H B σ δ n g i Q j R r h k=>by
 unfold fX at h
 split at h
 ·rename_i d;cases r with
  |cons m o=>
   cases o;obtain⟨c,p,rfl,q,s,e,f⟩:=m;refine⟨c,p,rfl,.inl ⟨SqL.of q,λl a=>k _ _ _ n (R.new a) (Kp.new a) (wd (show RdX _ B _ (.tuple d)from .tup bj (R.nb a) e ?_)) h⟩⟩;exact(f.fresh a).less λb z=>.inl z
 ·exact ER C H B σ δ n g i Q j R r h k
def fN(i:Nat)(w:DT):aH:=λδ n K=>match δ[i]? with
 |some (ae (.own ds))=>w δ n λx n1=>match x with
  |.d (.list es)=>(ds.length < 1000000/\es.length < 1000000)/\K.nx (δ.set i (ae (.own (ds++es)))) n1
  |_=>False
 |_=>False
theorem yD{n m:Nat}(h:n < 1000000)(h':m < 1000000):n+m<=Aw:=by
 have:2000000<=Aw:=by decide
 omega
theorem KL{i:Nat}{x:Str}{xp ap cp:Pos}(hN:X.N[i]?=ae x)(he:DE X e te we)(hv:ej X.env.scope x:=by first|exact Ce rfl|exact Bz (Ce rfl)|exact Bz (Bz rfl))(hd:(x==("__debug__":Str))=ai:=by decide)
  (q_:(x==("__classdict__":Str))=ai:=by decide)
  (hbase:Gq (.Name x xp) "extend" X.env (eval (.Name x xp) X.env)=eval (.Name x xp) X.env:=by rfl)
  (hfew:((Cp cp (Ar [e] X.env)).all (λx=>!x.1)&&(backToKw cp (keywordEach [] X.env)).all (λx=>x.1.isSome)
   && decide ([e].length+([]:List Keyword).length+(if ([]:List Keyword).isEmpty then 0 else 1) < 30))=ah:=by rfl)
  (hline:(ap.endLine==cp.line)=ah:=by rfl) (hs:Ar [e] X.env=[(ai,eval e X.env)]:=by rfl) (hplain:(Cp cp (Ar [] X.env)).any (·.1)=ai:=by rfl)
  (hsw:Ci (.Call (.Attribute (.Name x xp) "extend" ap) [e] [] cp) af pos.line X.env=pure ai:=by rfl):
  DS X (.Expr (.Call (.Attribute (.Name x xp) "extend" ap) [e] [] cp) pos) (oM (qM X.K "list" BD (aM i) (bJ te bf))) (fN i we):=
 ⟨tO (xx G3 PySem.F.slot_list_extend PySem.F.type_list_extend Qe (fm hN hv hd q_) (cw he.pe eu hs) hbase hfew hline hs hplain) hsw,λC H B σ δ n K D R q E=>by
  unfold fN at q
  split at q
  ·rename_i T k;obtain⟨v,hv,a,m,rfl,p,d,f,Q,l⟩:=R.sl i _ k;refine⟨_,hv,.inl ⟨rfl,_,SqL.of p⟩,he.sd C H B σ δ n _ _ R q λu y I S G r L c=>?_⟩
   split at c
   ·rename_i A;have g:a≠C.t:=λz=>R.t0 (z▸f);cases(show RdX I B u (.list A)from L)with
    |@lst b j _ J O P s=>
     have h:m.length+j.length<=Aw:=by rw[l.len,s.len];exact yD c.1.1 c.1.2
     refine⟨a,b,m,j,rfl,rfl,(r _ _ p g),J,h,E.nx _ _ _ _ _ (G.mutOwn k rfl hv d f ?_ rfl) c.2⟩;refine⟨a,_,rfl,bj,d,f,by rw[An];exact h,RdXs.keep (λb o e n=>?_) ((l.kp r R.bt).append s)⟩;rw[aL λ(z:b=a)=>n (z▸d)];exact e
   ·exact c.elim
  ·exact q.elim⟩
theorem R9(H:Hp)(B:z_->Prop):RdXs H B pV j9:=.cons .non (.cons .non (.cons .non (.cons (.int _) (.cons (.int _) .nil))))
def eC(i:Nat):DT:=λδ n Q=>match δ[i]? with
 |some (ae (.w .tp))=>Q (.ln j9) n
 |_=>False
theorem Jx(i:Nat){x:Str}{ix:Int}{p p2:Pos}{jj}(hK:X.K=K:=by rfl)(hN:X.N[i]?=ae x:=by rfl)(hv:ej X.env.scope x:=by first|exact Ce rfl|exact Bz (Ce rfl)|exact Bz (Bz rfl))(hd:(x==("__debug__":Str))=ai:=by decide)
  (q_:(x==("__classdict__":Str))=ai:=by decide):DE X (.Subscript (.Name x p) (.Constant (.int 3) jj p2) pos) (dt (jH K) (aM i) (tC (.int 3))) (eC i):=by
 subst hK;refine⟨gp qP (fm hN hv hd q_) b8 (λ_ _=>rfl),λC H B σ δ n Q g R h k=>?_⟩;unfold eC at h
 split at h
 ·rename_i e;obtain⟨v,f,c⟩:=R.sl i _ e;cases(c.1);obtain⟨a,b,d,_⟩:=R.tp.ob;refine⟨_,f,.inl ⟨C.t,_,3,_,rfl,rfl,SqL.of d,eH rfl,k _ (.ln j9) H n R (Kp.refl _ _) ⟨_,_,rfl,R.tp.ag rfl,R.tp.gne,by decide,R9 _ _⟩ h⟩⟩
 ·exact h.elim
end
section
variable{X:Cx}{e:Expr}{st:Stmt}{sts:List Stmt}
def Pz:aH:=λ_ _ _=>False
theorem xm:DSs X sts (λ_ _ _=>False) Pz:=⟨λ_ _ _ _ _ _ h=>h.elim,λ_ _ _ _ _ _ _ _ _ h _=>h.elim⟩
end
end DL
namespace L2
open PySem PySem.Spec PyProof.Rows
end L2
namespace DL
open PySem L2 Nb
end DL
namespace HT
open PySem PyProof.Rows
open PySem.SeqAt
open PySem.AutoSeq1 (wpAny_loadPart')
open PySem.MeetsSeq PySem.MeetsSeq2 PySem.MeetsSeq3
section
variable{prog:Bb}{w:Bj}{A:Bt}{E:Af->Aj->Prop}{s:Aj}
theorem getItem_tuple_whole{t sl:z_}{items:Array Af}{vl vu:Af}{lo hi:Option Int}{Q:Af->Aj->Prop}(ht:IsTup s.heap t items)(hs:s.heap.IsSliceOf sl vl vu .none)(pl:IsPart vl lo)(pu:IsPart vu hi)
  (h0:sIx items.size 0 lo=0) (h1:sIx items.size items.size hi=items.size) (h:Q (.ref t) s):A6 (A9 prog w) A (getItem (.ref t) (.ref sl)) Q E s:=by
 obtain⟨e,d,b,f⟩:=id hs;have c:s.TypeIs (.ref sl) "slice":=⟨e,d,b⟩;unfold getItem
 try with_reducible refine B7 ?_
 first|refine Aa _|skip
 refine Aa (wpAny_sequenceKey ht.typeIs ∎ ?_);refine Aa (Bp ht.typeIs D2
  (B2 D2 ht.typeIs entry_tuple_getitem ?_ (args_tuple_getitem _ _)))
 show A6 _ _ (Gb _>>=_) _ _ s;refine Aa (tupleItemsOf_ ht (Aa (Fq c ?_)));refine Aa (FJ hs pl pu ?_);have a:(((sIx items.size 0 lo:Nat):Int)==0&&(1:Int)==1&&(sIx items.size items.size hi-sIx items.size 0 lo)==items.size)=ah:=by
  rw[h0,h1];simp
 show A6 _ _ (if _=ah then _ else _) _ _ s;rw[a' a];exact Aa (Aa (Fq ht.typeIs (Ai (Aa (Gm (Ai ⟨_,rfl,Ai h⟩))))))
end
end HT
namespace L2
open PySem PySem.Spec PyProof.Rows
def nB(K:Ag):V->Option Int->Option Int->Hp->VK->Prop:=λx lo hi H Q=>∃a xs,x=.ref a/\SqT K H a xs/\HT.sIx xs.length 0 lo=0/\HT.sIx xs.length xs.length hi=xs.length/\Q (.ref a) H
theorem NN{X:Cx}:SlR X (nB X.K):=by
 intro e s σ H x v w n u m y Q I f l g i h;obtain⟨a,j,rfl,k,o,p,q⟩:=h;cases f;obtain⟨c,r,d,t⟩:=I.tuple k;have b:c.toArray.size=j.length:=r.length.symm;exact⟨_,_,PyProof.Rows.slot_tuple_getitem.lookup,d.typeIs,HT.getItem_tuple_whole d l g i (by rw[b];omega) (by rw[b];omega) ⟨.ref a,H,I,rfl,q⟩⟩
end L2
namespace DL
open PySem L2 Nb
section
variable{X:Cx}{e:Expr}{te:TE}{we:DT}{pos p2:Pos}{K:Ag}{lo hi:Option Expr}
abbrev lZ:=Sl->Int->(Option Int->Int->Prop)->Prop
def du:lZ:=λ_ n Q=>Q af n
def dv(w:DT):lZ:=λδ n Q=>w δ n λx n1=>match x with
 |.d (.int i)=>Q (ae i) n1
 |_=>False
def MJ(t:TO)(w:lZ):Prop:=∀(C:Ctx)(H:Hp)(B:z_->Prop)(σ:St)(δ:Sl)(n:Int)(Q:Option Int->Int->Prop)(Q':Option Int->Hp->Prop),Rel C H B σ δ n->w δ n Q->
 (∀o H' n',Rel C H' B σ δ n'->Kp C.t H H'->Q o n'->Q' o H')->t σ H Q'
structure DOp(X:Cx)(o:Option Expr)(t:TO)(w:lZ):Prop where
 po:PO X o t
 sd:MJ t w
theorem Kg:DOp X af FD du:=⟨wY,λC H B σ δ n Q a R q k=>k af H n R (Kp.refl _ _) q⟩
theorem Tn(h:DE X e te we):DOp X (ae e) (yB te) (dv we):=⟨xq h.pe,λC H B σ δ n Q l R q k=>h.sd C H B σ δ n _ _ R q λv x b d c j f a=>by
 split at a
 ·rename_i i;cases(show RdX b B v (.int i)from f);exact⟨i,rfl,k _ b d c j a⟩
 ·exact a.elim⟩
def dI(xs:List Ad)(lo hi:Option Int):List Ad:=(xs.drop (HT.sIx xs.length 0 lo)).take (HT.sIx xs.length xs.length hi-HT.sIx xs.length 0 lo)
def dA(w:DT)(l u:lZ):DT:=λδ n Q=>w δ n λx n1=>l δ n1 λa n2=>u δ n2 λb n3=>match x with
 |.d (.tuple ds)=>Q (.d (.tuple (dI ds a b))) n3
 |_=>False
def uk(K:Ag):V->Option Int->Option Int->Hp->VK->Prop:=λx lo hi H Q=>n9 K x lo hi H Q\/nB K x lo hi H Q
theorem Qp{tl th:TO}{wl wh:lZ}(he:DE X e te we)(hl:DOp X lo tl wl)(hh:DOp X hi th wh)(hK:X.K=K:=by rfl):DE X (.Subscript e (.Slice lo hi af p2) pos) (yH (uk K) te tl th) (dA we wl wh):=by
 subst hK;refine⟨AA (sl_tup.or NN) he.pe hl.po hh.po,λC H B σ δ n Q U R q k=>he.sd C H B σ δ n _ _ R q λv x J L y T O F=>
  hl.sd C J B σ δ L _ _ y F λa G I A s E=>hh.sd C G B σ δ I _ _ A E λb t u j o m=>?_⟩
 split at m
 ·rename_i i;have S:=(O.kp s y.bt).kp o A.bt;cases S with
  |@tup r d _ l N w f=>
   have D:=(T.trans s).trans o;by_cases g:HT.sIx d.length 0 a=0/\HT.sIx d.length d.length b=d.length
   ·refine .inr ⟨r,d,rfl,SqT.of l,g.1,g.2,k _ _ t u j D (wd (show RdX t B _ (.tuple i)from .tup l N w f)) ?_⟩;have:dI i a b=i:=by
     unfold dI;rw[<-f.len,g.1,g.2,List.drop_zero,Nat.sub_zero,f.len,List.take_length]
    simp_all
   ·refine .inl ⟨r,d,rfl,SqT.of l,g,λp h=>k _ _ _ u (j.new h) (D.trans (Kp.new h)) (wd (show RdX _ B _ (.tuple _)from .tup bj (j.nb h) (Ba (uc d a b) w) ?_)) m⟩;unfold dI fI;rw[<-f.len];exact(((f.drop _).take _).fresh h).less λb z=>.inl z
 ·exact m.elim
end
end DL
namespace Nb
open PySem L2
end Nb
namespace DL
open PySem L2 Nb
section
variable{X:Cx}{tg a b c e o i f:Expr}{ta tb te td ty tx:TE}{wa wb we wd' wy wx:DT}{pos p:Pos}{K:Ag}
def hV(hs:List Str)(w:DT):DT:=λδ n Q=>w δ n λx n1=>match x with
 |.d a=>eI a=ah/\Q (.d (.bool (bW a (hs.map .str)))) n1
 |_=>False
theorem QT{q:z_}{hs:List Str}(hl:∀h∈hs,h.length<=1000)(hq:∀H,SqT K H q (hs.map V.str))(h:dG ta wa):dG (dt (gE K ai) ta (tC (.ref q))) (hV hs wa):=λC H B σ δ n Q j R z k=>
 h C H B σ δ n _ _ R z λv x b g f i d a=>by
  split at a
  ·rename_i l;have c:RdXs b B _ (hs.map .str):=mK hl;refine⟨q,_,rfl,.inr (hq b),kr d a.1,jw c ?_,k _ _ b g f i (wd (.bl _)) ?_⟩
   ·rw[List.all_map];exact Cy.mpr λ_ _=>rfl
   ·rw[kJ d c];exact a.2
  ·exact a.elim
theorem MZ{q:z_}{hs:List Str}{x:Str}{xp:Pos}(ha:DE X a ta wa)(hg:Gl X x)(hm:X.mg x=ae (.ref q))(hq:∀H,SqT K H q (hs.map V.str))(hl:∀h∈hs,h.length<=1000:=by decide +kernel)(hK:X.K=K:=by rfl)(hd:(x==("__debug__":Str))=ai:=by decide)
  (hmk:Cg .In (Expr.Name x xp)=ai:=by with_unfolding_all rfl):DC X (.Compare a [.In] [.Name x xp] pos) (gy (dt (gE K ai) ta (tC (.ref q)))) (cT (hV hs wa)):=
 ⟨jA (qp hK) ha.pe (tS hg hm rfl hd) hmk,kI (QT hl hq ha.sd)⟩
end
abbrev ee:=List Wv->Int->(List Ad->Int->Prop)->Prop
def lP(S:ee):Sp:=λvs H Q _=>∃(t:z_)(l:TL)(ns:List Int)(B:z_->Prop)(ws:List Wv)(n:Int)(Q0:List Ad->Int->Prop),Tp H t l ns n/\B t/\(∀b,B b->H b≠af)/\ARel H B t vs ws/\S ws n Q0 /\
 ∀ds n',Q0 ds n'->∀a xs H',Tp H' t l ns n'->Kp t H H'->H a=af->H' a=ae (.lst xs)->xs.length<=Aw->RdXs H' (λb=>B b\/b=a) xs ds->Q (.ref a) H'
section
variable{X:Cx}{e:Expr}{es:List Expr}{pos p:Pos}{tR:TA}{wR:cY}{te:TE}{we:DT}
def n6(S:ee)(w:cY):d6:=λδ n Q=>w δ n λxs n1=>S xs n1 Q
theorem K7{S:ee}{t:TA}{w:cY}(h:iU t w):jf (eL (lP S) [] E0 t) (n6 S w):=λC H B σ δ n Q z R q k=>
 h C H B σ δ n _ _ R q λvs s y p b d v i=>⟨C.t,C.l,_,B,s,p,Q,b.tp,b.bt,b.ba,by rw[Bh];exact v,i,λds j f a x r u c m o e g=>k a x ds r j (b.step u c) (d.trans c) (b.was d m) o e g f⟩
structure HasN(P:Bb)(w:Bj)(K:Ag)(mg:Str->Option Af)(base:Heap)(k:Nat)(x:Str)(ps:List Str)(S:ee):Prop where
 ex:∃(f:z_)(fd:B8),FnOk P w K mg base b6 k f fd ps (lP S)/\Binds K fd ps []/\mg x=ae (.ref f)/\Co K (.ref f)=ah
theorem HasN.mk'{P:Bb}{w:Bj}{K:Ag}{mg:Str->Option Af}{base:Heap}{k:Nat}{x qual:Str}{st:Stmt}{ps:List Str}{S:ee}{f:z_}{fd:B8}(F:Fun K x qual st f fd)(m:mg x=ae (.ref f))(b:Binds K fd ps [])(h:FnOk P w K mg base b6 k f fd ps (lP S)):HasN P w K mg base k x ps S:=⟨f,fd,h,b,m,F.kp⟩
theorem Hf{k:Nat}{ps:List Str}{S:ee}{x:Str}(h:HasN X.prog X.w X.K X.mg X.base k x ps S)(hr:Room k X.A)(hg:Gl X x)
  (ha:DA X (e::es) tR wR) (hdb:(x==("__debug__":Str))=ai:=by decide) (he:Ar (e::es) X.env=(ai,eval e X.env)::Ar es X.env:=by rfl) (p_:(Cp pos (Ar es X.env)).any (·.1)=ai:=by rfl):
  DF X (.Call (.Name x p) (e::es) [] pos) (eL (lP S) [] E0 tR) (n6 S wR):=by
 obtain⟨f,g,d,a,b,c⟩:=h.ex;exact⟨jN d hr hg b c a .nil jC ha.pa hdb he p_,K7 ha.sd⟩
def vL(w:d6):aH:=λδ n K=>w δ n K.rn
theorem NO{w:d6}(h:DF X e te w):DS X (.Return (ae e) pos) (fM te) (vL w):=⟨i0 h.pe,λC H B σ δ n K D R q E=>
 h.sd C H B σ δ n _ _ R q λa l m k g c o i j b d f=>E.rn k B σ δ g a l m c (R.h0 i) j b d f⟩
def vP(i:Nat):aH:=λδ n K=>match δ[i]? with
 |some (ae (.own ds))=>K.rn ds n
 |_=>False
theorem DD(i:Nat){x:Str}{xp:Pos}(hN:X.N[i]?=ae x:=by rfl)(hv:ej X.env.scope x:=by first|exact Ce rfl|exact Bz (Ce rfl)|exact Bz (Bz rfl))(hd:(x==("__debug__":Str))=ai:=by decide)
  (q_:(x==("__classdict__":Str))=ai:=by decide):DS X (.Return (ae (.Name x xp)) pos) (fM (aM i)) (vP i):=⟨i0 (fm hN hv hd q_),λC H B σ δ n K D R q E=>by
 unfold vP at q
 split at q
 ·rename_i l c;obtain⟨v,hv,a,j,rfl,k,f,g,h,d⟩:=R.sl i _ c;exact⟨_,hv,E.rn H B σ δ n a j l R g k h (d.less λb z=>z.elim id λe=>e▸f) q⟩
 ·exact q.elim⟩
theorem RdXs.rev{H:Hp}{B:z_->Prop}:∀{vs:List V}{ds:List Ad},RdXs H B vs ds->RdXs H B vs.reverse ds.reverse
 |_,_,.nil=>.nil
 |_,_,.cons h r=>by
  rw[F0,F0];exact(RdXs.rev r).append (.cons h .nil)
end
section
variable{P:Bb}{w:Bj}{K:Ag}{mg:Str->Option Af}{base:Heap}
theorem Fun.okN{x qual:Str}{st:Stmt}{f:z_}{fd:B8}{N ps:List Str}{k:Nat}{S:ee}(F:Fun K x qual st f fd)(Sc:FnScope N ps (bN st))(len:∀ws n Q,S ws n Q->ws.length=ps.length)
  (hbody:∀(m_:Af)(A:Bt)(outer:List Env)(s:Aj)(H:Hp)(E:XK),Room k (A.deeper (Ct qual (bN st) s.heap.objs.size f m_))->
   ∃T W,DSs (cn b6 P w K mg base N qual (bN st) f m_ A outer s H E).nox (eF st) T W/\∀ws n Q,S ws n Q->W (cL N ws) n {nx:=λ_ _=>False,rt:=λ_ _=>False,rn:=Q}):FnOk P w K mg base b6 (k+1) f fd ps (lP S):=by
 refine F.ok Sc (λvs H Q E h=>?_) (λm_ A outer s H J Q E I h=>?_)
 ·obtain⟨t,l,o,B,ws,n,e,_,_,_,r,q,_⟩:=h;rw[r.len];exact len ws n e q
 ·obtain⟨t,l,o,B,ws,n,e,T,i,v,r,q,G⟩:=h;obtain⟨C,W,d,D⟩:=hbody m_ A outer s H E I;refine⟨C,d.ps,d.sd _ H B _ _ n _ _ (rg T i v r) (D ws n e q) ⟨?_,?_,?_,?_,?_,λ_ _ _ _ _ _ _ _ _ _ _ _ _ z=>z.elim⟩⟩
  ·exact λ_ _ _ _ _ _ z=>z.elim
  ·exact λ_ _ _ _ _ _ _ _ _ z=>z.elim
  ·exact λ_ _ _ _ _ _ z=>z.elim
  ·exact λ_ _ _ _ _ _ z=>z.elim
  ·exact λH' O σ δ L a y R c p u g j m=>G _ _ m a y H' c.tp c.kp p u g (j.less λb z=>z.elim (λz=>.inl (c.b0 b z)) .inr)
end
end DL
namespace Nb
open PySem L2
end Nb
namespace DL
open PySem L2 Nb
section
variable{X:Cx}{a b c e o i f:Expr}{ta tb te ty:TE}{wa wb we wy:DT}{pos p xp:Pos}{K:Ag}{D:List (Str×Str)}{q:z_}{x:Str}
theorem Jh{n:Nat}(h:n<=1000):n<=Aw:=Ba h ∎
end
end DL
namespace L2
open PySem PySem.Spec PyProof.Rows PySem.SeqAt PySem.W
end L2
namespace L2
open PySem PySem.Spec PyProof.Rows
def DEs(h:Heap)(d:z_)(es:Array Gp)(ep:Nat):Prop:=∃o,h.get? d=ae o/\o.ExactDict/\o.data=.dict es ep
end L2
namespace L2
open PySem PySem.Spec PyProof.Rows PySem.SeqAt PySem.W
end L2
namespace L2
open PySem PySem.Spec PyProof.Rows PySem.W
section
variable{prog:Bb}{w:Bj}{A:Bt}{E:Af->Aj->Prop}{s:Aj}{d it:z_}{es:Array Gp}{ep i:Nat}
theorem DEs.ty(x:DEs s.heap d es ep):s.TypeIs (.ref d) "dict":=let⟨o,e,c,_⟩:=x;⟨o,e,c.1⟩
theorem wg{Q:Af->Aj->Prop}(hd:(d==Dd)=ai)(x:DEs s.heap d es ep)
  (k:Q (.ref s.heap.objs.size) {s with heap:=s.heap.push {cls:=.type "dict_keyiterator",data:=.fields #[.ref d,.int 0 0,.int es.size 0,.int ep 0]}}):A6 (A9 prog w) A (pyIter (.ref d)) Q E s:=by
 obtain⟨o,b,c,a⟩:=id x;refine wpAny_pyIter_slot x.ty F.slot_dict_iter (B2 F.slot_dict_iter x.ty F.entry_dict_iter (Aa ?_) (F.args_dict_iter_1 _));refine Aa (wpAny_notOrdered_dict x.ty (Ai ?_));refine(show A6 _ _ (Builtin.Dict.showsAll d>>=_) _ _ s from ?_);unfold Builtin.Dict.showsAll;rw[a_ (by rw[hd];decide)];refine Aa (Ai (Aa (wpAny_dictEntries b a (Aa (wpAny_dictEpoch b a (Aa (B1 (Ai ⟨_,rfl,_,_,⟨_,Av _ rfl,rfl⟩,F.slot_dict_keyiterator_next.lookup,?_⟩))))))));assumption
theorem qw{Q:Option Af->Aj->Prop}(y:s.heap.IsKeyIter it d i es.size ep)(x:DEs s.heap d es ep)
  (hI:i < es.size->∀h',h'.IsKeyIter it d (i+1) es.size ep->Cz it s.heap h'->Q (ae (es.getD i ⟨0,.none,.none⟩).key) {s with heap:=h'})
  (hE:es.size<=i->A.handled=af/\∀h',Heap.ExtBut it s.heap h'->Q af {s with heap:=h'}):A6 (A9 prog w) A (pyNext (.ref it)) Q E s:=by
 obtain⟨u,c,j,b⟩:=id y;obtain⟨o,h,k,g⟩:=id x;refine Aa (Ei (Bp y.typeIs F.slot_dict_keyiterator_next (B2 F.slot_dict_keyiterator_next y.typeIs F.entry_dict_keyiterator_next ?_ (F.args_dict_keyiterator_next_1 _))));refine Aa (Ai (Aa (Aa ?_)))
 first|refine Aa (Gr y.typeIs (Ai ?_))|refine Aa _
 refine Aa (Fl c b (show A6 _ _ _ _ _ s from ?_));refine Aa (Ai (Aa (wpAny_dictEntries h g ?_)));rw[a_ (by simp)];refine Aa (Ai (Aa (wpAny_dictEpoch h g ?_)));rw[a_ (by simp)];refine Ai ?_;by_cases f:i < es.size
 ·simp only[Cc,Ca f];refine Aa ?_
  first|refine Aa (Gr y.typeIs (Ai ?_))|refine Aa _
  refine Aa (wpAny_isOneOf_keyiter y.typeIs (show A6 _ _ (setField _ 1 _>>=_) _ _ s from Aa (C0 c b (by simp) ?_)));have z:(s.heap.update it (Obj.mapFields (·.setIfInBounds 1 _))).IsKeyIter it d (i+1) es.size ep:=
   ⟨_,Bn _ c (C4 (By b _)),(D7 ..).trans j,by rw[By b];rfl⟩
  refine Aa (B7 (Aa (wpAny_isOneOf_keyiter z.typeIs ?_)));have e:=hI f _ z (Bg ..);rw[show es.getD i _=es[i] by simp[f]]at e;exact(Ai (Ai ⟨_,rfl,Ai e⟩))
 ·obtain⟨l,e⟩:=hE ⋯;simp only[Cc,Array.getElem?_eq_none (show es.size<=i by omega)];refine Aa ?_
  first|refine Aa (Gr y.typeIs (Ai ?_))|refine Aa _
  refine(show A6 _ _ (setField _ 0 .none>>=_) _ _ s from Aa (C0 c b (by simp) (Aa ?_)));refine Aa (B1 (Aa (Gs (by rfl) (B1 (Aa (wpAny_handled ?_)) (by size_fits)))) (by size_fits));rw[show A.in1.handled=af by omega];refine Aa (Ai (wpAny_throw (?_:A6 _ _ _ _ _ _)));refine Aa (D4 ⟨_,Av _ rfl,rfl⟩ isSubtype_stop (?_:A6 _ _ _ _ _ _));exact Ai (e _ (((Bg ..).extBut.push _).push _))
theorem DEs.keep{h h':Heap}(x:DEs h d es ep)(k:∀o,h.get? d=ae o->h'.get? d=ae o):DEs h' d es ep:=let⟨o,e,r⟩:=x;⟨o,k o e,r⟩
theorem S2(lo:(d==Dd)=ai):KdlSrc prog w "dict" d d es.size (λi v=>(es[i]?).map (·.key)=ae v) (λh=>DEs h d es ep) where
 type:=λ_ x=>x.ty
 there:=λ_ x=>let⟨_,e,_⟩:=x;⟨As e,As e⟩
 keep:=λ_ _ x k=>x.keep λo e=>k d (.inl rfl) o e
 notList:=by decide
 notTuple:=by decide
 hint:=λ_ _ _ _ x q=>kdl_hint_dict x.ty q
 iter:=λA s t x=>by
  obtain⟨y,r,u⟩:=id x;refine⟨_,λi h=>h.IsKeyIter s.heap.objs.size d i es.size ep/\DEs h d es ep,λ_ _ q=>wg lo x q,?_,⟨_,Av _ rfl,rfl,rfl⟩,x.keep λo e=>Ae _ e⟩;exact
   { sub:=λb c=>by simp at c;simp[c],frame:=λ_ _ _ a j=>⟨a.1.at λo e=>j _ (by simp) o e,a.2.keep λo e=>j d (by simp) o e⟩,item:=λi s' Q E g a f=>qw a.1 a.2 (λhi' h' z m=>f _ h' s'.toks (by simp[g]) ⟨z,a.2.keep λo e=>m.extBut d o (Be (As r)) e⟩ λb o c e=>m.extBut b o (λh=>c (by simp[h])) e) (λz=>f_ g ⋯),done:=λs' Q E a f=>qw a.1 a.2 (λz=>f_ z ⋯) (λ_=>⟨t,λh' p=>f h' s'.toks λb o c e=>p b o (λh=>c (by simp[h])) e⟩),self:=λ_ _ _ _ a f=>wpAny_pyIter_keyiter a.1 f}
end
end L2
namespace L2
open PySem PySem.Spec PyProof.Rows PySem.SeqAt PySem.W
end L2
namespace DL
open PySem L2 Nb
end DL
namespace L2
open PySem PySem.Spec PyProof.Rows PySem.SeqAt PySem.W
end L2
namespace DL
open PySem L2 Nb
end DL
namespace HT
open PySem PyProof.Rows
end HT
namespace L2
open PySem PySem.Spec PyProof.Rows
end L2
namespace DL
open PySem L2 Nb
end DL
namespace L2
open PySem PySem.Spec PyProof.Rows PySem.SeqAt
end L2
namespace DL
open PySem L2 Nb
end DL
namespace L2
open PySem PySem.Spec PyProof.Rows
end L2
namespace DL
open PySem L2 Nb
end DL
namespace L2
open PySem PySem.Spec PyProof.Rows
def tH(K:Ag):R2:=λx y H Q=>∃a b ys,x=.ref a/\y=.ref b/\SqT K H a []/\SqT K H b ys/\Q (.ref b) H
theorem To{X:Cx}:OpR X (Es .Add) (tH X.K):=by
 intro o s σ H x y v u Q I t z h;obtain⟨a,b,L,rfl,rfl,G,A,r⟩:=h;cases(t);cases(z);obtain⟨i,B,p,_⟩:=I.tuple G;obtain⟨d,J,D,_⟩:=I.tuple A;obtain⟨⟨E,q,_,C⟩,k,m,n,l⟩:=id p;obtain⟨⟨_,j,_,g⟩,f,c,w,e⟩:=id D;simp only at m l c e;subst m l c e;exact concat_meets ⟨_,k,rfl⟩ ⟨_,f,rfl⟩ noFill_tuple_add seq_tuple_add Ft Fo (Fh _ _)
  (tuple_addW0 a b i.toArray d.toArray n w q j C g (by simp[(B.nil_iff.mpr rfl)])) ⟨k,f,⟨.ref b,H,I,rfl,r⟩⟩
end L2
namespace DL
open PySem L2 Nb
section
variable{X:Cx}{a b:Expr}{ta tb:TE}{wa wb:DT}{pos p:Pos}{K:Ag}
def eM:Wv->Wv->Int->DQ->Prop:=λx y n Q=>match x,y with
 |.d (.tuple []),.d (.tuple j)=>Q (.d (.tuple j)) n
 |x,y=>kz x y n Q
theorem LV:bh (λx y H Q=>pq K x y H Q\/tH K x y H Q) eM:=λC H B σ δ n x y p q Q o R d e b k=>by
 unfold eM at b
 split at b
 ·rename_i j;cases(show RdX H B x (.tuple [])from d)with
  |@tup g v _ s w u m=>
   cases(show RdX H B y (.tuple j)from e)with
   |@tup h r _ f i l t=>
    cases m;exact .inr ⟨g,h,r,rfl,rfl,SqT.of s,SqT.of f,k _ _ H n R (Kp.refl _ _) (wd (show RdX H B _ (.tuple j)from .tup f i l t)) b⟩
 ·exact .inl (IP C H B σ δ n x y _ _ Q o R d e b k)
theorem Jr(ha:DE X a ta wa)(hb:DE X b tb wb)(hK:X.K=K:=by rfl):DE X (.BinOp a .Add b pos) (dt (λx y H Q=>pq K x y H Q\/tH K x y H Q) ta tb) (w2 wa wb eM):=by
 subst hK;exact hX (op_addA.or To) LV ha hb
end
end DL
namespace L2
open PySem PySem.Spec PyProof.Rows
end L2
namespace DL
open PySem L2 Nb
end DL
namespace L2
open PySem PySem.Spec PyProof.Rows
end L2
namespace DL
open PySem L2 Nb
end DL
namespace L2
open PySem PySem.Spec PyProof.Rows
theorem O0(bs:List Bool):((A8 bs.length).any λi=>(bs[i]?).getD ah)=bs.any id:=by
 apply D6.mpr;rw[Cm,Cm]
 constructor
 ·rintro⟨i,c,e⟩
  have a:=Bx.mp c;rw[Ah a]at e;exact⟨_,Ck a,e⟩
 ·rintro⟨b,d,e⟩
  obtain⟨i,c⟩:=Br.mp d;exact⟨i,Bx.mpr (Aq.mp c).1,by rw[c];exact e⟩
theorem Jj{X:Cx}(hh:X.A.handled=af):CallR X (.builtin "any") (λxs H Q=>∃(p:z_)(bs:List Bool),xs=[.ref p]/\H p=ae (.lst (bs.map V.bl))/\Q (.bl (bs.any id)) H):=by
 intro o s σ H xs E Q I r h;obtain⟨p,bs,rfl,y,q⟩:=h;obtain⟨u,rfl,j⟩:=fA r;cases(j);obtain⟨c,m,z,_⟩:=I.list (SqL.of y);have d:=z.isList;have k:p < s.heap.objs.size:=by obtain⟨_,e,_⟩:=d;exact As e
 have a:=by have:=m.length;rwa [Ab]at this
 refine call_any_walk (wpAny_pyIter_list d ?_);refine⟨_,_,_,_,_,_,λi=>(bs[i]?).getD ah,rfl,Walks.list (A:=X.A.in1) hh _ p (Be k) c.toArray,
  ⟨⟨_,Av _ rfl,rfl,rfl⟩,d.push _⟩,λi v J G F t g=>?_,λh' C w=>?_⟩
 ·have l:=by simpa using t
  have f:i < bs.length:=by rw[a];exact(Aq.mp l).1
  have B:(bs.map V.bl)[i]?=ae (V.bl bs[i]):=by simp
  obtain⟨u,n,j⟩:=m.get B;rw[l]at n;cases(Bq n);cases(show v=Value.bool bs[i]from j);dsimp only at g;rw[Ah f]at g;exact C7 g
 ·have e:((A8 c.toArray.size).any λi=>(bs[i]?).getD ah)=bs.any id:=by
   rw[Bd,<-a];exact O0 bs
  rw[e];refine⟨.bl _,H,I.kept λb x e=>w b x (λhm=>?_) (Ae _ e),rfl,q⟩;rw[A2.mp hm]at e;exact Dz _ (As e)
end L2
namespace DL
open PySem L2 Nb
def iE:List Wv->Int->DQ->Prop:=λxs n Q=>match xs with
 |[.d (.list ds)]=>match ir ds with
  |some bs=>Q (.d (.bool (bs.any id))) n
  |none=>False
 |_=>False
theorem GV:cP (λxs H Q=>∃(p:z_)(bs:List Bool),xs=[.ref p]/\H p=ae (.lst (bs.map V.bl))/\Q (.bl (bs.any id)) H) iE:=λC H B σ δ n l xs Q m R r h k=>by
 unfold iE at h
 split at h
 ·rename_i b
  split at h
  ·rename_i bs e;cases r with
   |cons d f=>
    cases f;cases(show RdX H B _ (.list b)from d)with
    |@lst a q _ i o j c=>
     exact⟨a,bs,rfl,by rw[<-ui c e];exact i,k _ _ H n R (Kp.refl _ _) (wd (.bl _)) h⟩
  ·exact h.elim
 ·exact h.elim
theorem Ik:Bm "any"=ae (.builtin "any"):=by rfl
end DL
namespace L2
open PySem PySem.Spec PyProof.Rows
end L2
namespace DL
open PySem L2 Nb
end DL
namespace L2
open PySem PySem.Spec PyProof.Rows
end L2
namespace DL
open PySem L2 Nb
section
variable{X:Cx}{o:Expr}{td:TE}{wd':DT}{pos p p2:Pos}{K:Ag}
def vD:aF->Ad
 |.inl i=>.int i
 |.inr x=>.str x
def nN(k:List aF):Ad:=.tuple (k.map vD)
theorem yL{H:Hp}{B:z_->Prop}{k:List aF}:∀{vs:List V},RdXs H B vs (k.map vD)->vs=k.map kV:=by
 induction k with
 |nil=>intro vs h;cases h;rfl
 |cons x k b=>
  intro vs h;cases h with
  |cons h t=>
   rw[b t];cases x with
   |inl i=>cases(show RdX H B _ (.int i)from h);rfl
   |inr x=>cases(show RdX H B _ (.str x)from h);rfl
end
theorem EM{X:Cx}{a b:Expr}{ta tb:TE}{wa wb:DT}{pos:Pos}(ha:DE X a ta wa)(hb:DE X b tb wb):DE X (.BinOp a .Add b pos) (dt (fh λi j=>.int (i+j)) ta tb) (w2 wa wb (b9 λi j=>.int (i+j))):=hX op_add (yE λ_ _ _ _=>.int _) ha hb
end DL
namespace L2
open PySem PySem.Spec PyProof.Rows
theorem FH{P:Bb}{w:Bj}{A:Bt}(hh:A.handled=af)(it t:z_)(hne:t≠it)(xs:Array Af):Draws P w A it [it,t] xs.size (λi v=>xs[i]?=ae v) (λi h=>h.IsTupleIter it t i/\h.IsTuple t xs) where
 live:=λ_ _ z=>by obtain⟨⟨o,q,_⟩,_⟩:=z;exact⟨o,q⟩
 frame:=λ_ _ _ z k=>⟨z.1.at λo e=>k it (.head _) o e,z.2.at λo e=>k t (.tail _ (.head _)) o e⟩
 item:=λi s Q E c z k=>tQ z.1 z.2 (Ca c) λh' a b=>k _ h' s.toks (Ca c) ⟨a,z.2.extBut b.extBut hne⟩ b
 done:=λs Q E z k=>AI hh z.1 z.2 (by simp) k
abbrev qk(h:Heap)(l:z_):Heap:=h.push {cls:=.type "tuple_iterator",data:=.fields #[.ref l,.int 0 0]}
abbrev sE(h:Heap)(l:z_):Heap:=(qk h l).push {cls:=.type "enumerate",data:=.fields #[.none,.bool ai,.ref h.objs.size,Dm 0,.none,.none]}
theorem QH(l:z_)(xs:Array Af)(n:Nat)(dc:Option z_)(sl:Array (Option Af)):
  Meets (Ep.«enumerate.__new__» ⟨[.type "enumerate",.ref l],[]⟩) (λ_ R s=>s.heap.get? l=ae {cls:=.type "tuple",dict:=dc,data:=.seq xs n,slots:=sl} /\
   R (.ok (.ret (.ref (qk s.heap l).objs.size))) {s with heap:=sE s.heap l}):=
 .of_wp λP w A R s h=>by
  obtain⟨f,_⟩:=s;obtain⟨a,h⟩:=h;have e:=sub_enumerate;have b:Heap.IsTuple _ l xs:=⟨_,a,rfl,n,rfl⟩
  wp_walk using Ff a
  refine wpAny_stack_any λst=>Ai ?_
  split
  ·rename_i c _ _ _ _ _;cases(c==Dj "enumerate")
   ·wp_walk using Ff a,Dp b
    exact⟨_,rfl,h⟩
   ·wp_walk using Ff a,Dp b
    exact⟨_,rfl,h⟩
  ·wp_walk using Ff a,Dp b
   exact⟨_,rfl,h⟩
section
variable{prog:Bb}{w:Bj}{A:Bt}{E:Af->Aj->Prop}{s:Aj}
theorem SO{l:z_}{xs:Array Af}{Q:Af->Aj->Prop}(hl:s.heap.IsTuple l xs)
  (h:∀h',IsEnum h' (s.heap.objs.size+1) s.heap.objs.size 0 .none->h'.IsTupleIter s.heap.objs.size l 0->(∀c o,s.heap.get? c=ae o->h'.get? c=ae o)->Q (.ref (s.heap.objs.size+1)) {s with heap:=h'}):
  A6 (A9 prog w) A (call (.type "enumerate") [.ref l]) Q E s:=by
 obtain⟨⟨c,k,m,g⟩,hl,f,n,i⟩:=hl;obtain rfl:=f;obtain rfl:=i;refine callType_new F.called_enumerate ∎ (F.typeCall_enumerate_1 _) (F.newCall_enumerate_1 _) (λo=>F.args_object_init_2 o _) F.entry_enumerate_new (QH l xs n k g) ⟨hl,?_⟩;have e:(qk s.heap l).objs.size=s.heap.objs.size+1:=Cn ..;have a:(sE s.heap l).get? (qk s.heap l).objs.size=ae _:=Av _ rfl;have j:(sE s.heap l).get? s.heap.objs.size=ae _:=Ae _ (Av _ rfl);rw[e]at a ⊢;exact⟨⟨_,a,rfl⟩,h _ a ⟨_,j,rfl,rfl⟩ λc o x=>Ae _ (Ae _ x)⟩
end
def CK(K:Ag)(a:z_):It:=
 ⟨λi H=>∃xs x,SqT K H a xs/\xs[i]?=ae x,
  λi H v H'=>∃T x,v=.ref T/\H T=af/\H'=upd H T (.tup [.int i,x])/\∀xs,SqT K H a xs->xs[i]?=ae x,
  λi H=>∃xs,SqT K H a xs/\xs.length=i⟩
theorem Io{P:Bb}{w:Bj}{K:Ag}{elts:List Expr}{kk:Nat}{pos:Pos}{a e it:z_}(h1:e≠it)(h2:a≠it)(h3:e≠a):Turn P w K (.Tuple elts kk pos) (CK K a) [e,it] e
  (λi h=>(∃old,IsEnum h e it i old)/\h.IsTupleIter it a i) where
 mem:=by simp
 obj:=λi h d c b=>by
  obtain⟨⟨x,g⟩,⟨N,e1,c1,d1⟩⟩:=d;simp only[Au,A4,g_]at b;rcases b with rfl|rfl
  ·exact⟨_,g,λv q=>by trivial⟩
  ·exact⟨N,e1,λv q=>by simp_all⟩
 keep:=λi h h' d k=>⟨d.1.imp λ_ q=>k e (by simp) _ q,d.2.at λo q=>k it (by simp) o q⟩
 item:=by
  intro X r D G b i l s σ H E I m d n;subst r D G;obtain⟨⟨old,g⟩,t⟩:=d;obtain⟨S,x,L,T⟩:=n;obtain⟨f,C,p,_⟩:=I.tuple L;obtain⟨u,Z,Y⟩:=C.get T;have j:=by simpa using(Aq.mp Z).1
  have F:e∉[it,a]:=λz=>by
   simp_all
  refine wpAny_pyNext_enum_itemD (FH (A:=X.A.in1) (I.ok.hd b) it a h2 f.toArray) g ⟨t,p⟩ j h1 F λy h' J a1 a2 O R a5 a6=>⟨_,rfl,?_⟩;obtain rfl:u=y:=by
   simp_all
  refine wpAny_letOwnedTupleGo_enum a2 λh'' b1 B=>?_;have M:∀c o,c∉[e,it]->s.heap.get? c=ae o->h''.get? c=ae o:=λc o b e=>by
   simp only[Au,A4,g_,not_or]at b;exact B.extBut _ _ b.1 (a6 c o b.1 b.2 e)
  refine⟨.ref s.heap.objs.size,upd H s.heap.objs.size (.tup [.int i,x]),I.many m M (Ao _) ⟨by show 2<=Aw;decide,[.int i J,u],.cons ⟨J,rfl⟩ (.cons Y .nil),_,(B.extBut _ _ (Dy (As g)) R),rfl,⟨_,rfl⟩,rfl⟩,rfl,⟨_,x,rfl,(I.hok.fresh (Ao _)),rfl,λzs q=>by rw[I.tuple_inj q L];omega⟩,
   ⟨⟨u,by rw[show((i+1:Nat):Int)=i+1 from rfl];omega⟩,O.1.extBut B.extBut h1.symm⟩,λc b=>?_⟩
  have j:c < s.heap.objs.size:=by
   simp only[Au,A4,g_]at b;rcases b with rfl|rfl
   ·exact As g
   ·obtain⟨_,e,_⟩:=t;exact As e
  rw[aL (Be j)];exact(m c b).1
 done:=by
  intro X r D G b i l s σ H E I m d n;subst r D G;obtain⟨⟨old,g⟩,t⟩:=d;obtain⟨S,Q,hx⟩:=n;obtain⟨f,C,p,_⟩:=I.tuple Q;have hl:=C.length;have V:f.toArray.size=i:=by simp;omega
  refine wpAny_pyNext_enum_endD (FH (A:=X.A.in1) (I.ok.hd b) it a h2 f.toArray) g (by rw[V];trivial) λh' k=>⟨rfl,I.many0 m λc o b e=>?_⟩;simp only[Au,A4,g_,not_or]at b;exact k c o b.2 e
 self:=λ_ _ _ _ _ d h=>wpAny_pyIter_enum d.1.choose_spec h
def yg(K:Ag)(ta:TA):TI:=λσ H R=>ta σ H λvs H1=>∃a,vs=[.ref a]/\(∃xs,SqT K H1 a xs)/\R (CK K a) H1
theorem JY{X:Cx}{elts:List Expr}{kk:Nat}{tpos:Pos}{e1:Expr}{ta:TA}{p pos:Pos}(hg:Gl X "enumerate")(hm:X.mg "enumerate"=af)(ha:PA X [e1] ta)(hs:Ar [e1] X.env=[(ai,eval e1 X.env)]:=by rfl):
  PI X (.Tuple elts kk tpos) (.Call (.Name "enumerate" p) [e1] [] pos) (yg X.K ta):=by
 intro d s σ H R I h;refine Call_ (jv I hg hm boot_enumerate (C3 (aO (ha pos d s σ H _ I h) λus k p=>?_) (by trivial) rfl));obtain⟨y,o,f,t,l⟩:=p;obtain⟨a,e,⟨z,w⟩,q⟩:=l;subst e;cases t with
 |cons r n=>
  cases n;cases r;obtain⟨u,x,i,_⟩:=f.tuple w;have g:a < k.heap.objs.size:=by obtain⟨_,e,_⟩:=id i;exact As e
  refine SO (i) λh' j v m=>wpAny_pyIter_enum j ⟨_,_,_,_,o,rfl,f.kept m,Io (Nat.succ_ne_self _) (Be g) (Dy (D8 g)),⟨⟨_,j⟩,v⟩,λc A=>?_,q⟩;have b:k.heap.objs.size<=c:=by
   grind
  exact f.fpOk b (f.hok.fresh b)
end L2
namespace DL
open PySem L2 Nb
section
variable{X:Cx}{a b e o i f:Expr}{ta tb te td ty:TE}{wa wb we wd' wy:DT}{pos p p2:Pos}{K:Ag}
def iG(neg:Bool):Wv->Wv->Int->DQ->Prop:=λx y n Q=>(∃o,x=.ob o/\y=.d .none/\Q (.d (.bool neg)) n)\/bc neg x y n Q
theorem Tq{H:Hp}{B:z_->Prop}{t:z_}{v:V}{o:Ob}(h:WRel H B t v (.ob o)):∃a,v=.ref a:=by
 cases o with
 |o=>exact h
 |p d=>obtain⟨a,_,_,e,_⟩:=h;exact⟨a,e⟩
 |k m=>obtain⟨a,_,e,_⟩:=h;exact⟨a,e⟩
 |y m=>obtain⟨a,_,_,e,_⟩:=h;exact⟨a,e⟩
 |x m=>obtain⟨a,_,e,_⟩:=h;exact⟨a,e⟩
 |q d m=>obtain⟨a,_,_,_,e,_⟩:=h;exact⟨a,e⟩
theorem Ho:bh (λx y H Q=>y=.non/\Q (.bl (decide (x=.non))) H) (iG ai):=λC H B σ δ n x y p q Q e R b c d k=>by
 rcases d with⟨o,rfl,rfl,h⟩|h
 ·obtain⟨a,rfl⟩:=Tq b;cases(c);exact⟨rfl,k _ _ H n R (Kp.refl _ _) (wd (.bl _)) h⟩
 ·exact rS C H B σ δ n x y p q Q e R b c h k
end
section
variable{X:Cx}{a b e o:Expr}{ta tb te td ty:TE}{wa wb we wd' wy:DT}{pos p p2:Pos}{K:Ag}{H:Hp}{B:z_->Prop}{l:List (List aF×V)}{m:List (List aF×Ad)}
def gB(m:List (List aF×Ad))(k:List aF):Bool:=m.any λkv=>decide (kv.1=k)
def fO(m:List (List aF×Ad))(k:List aF)(d:Ad):List (List aF×Ad):=if gB m k=ah then m.map (λkv=>if kv.1=k then(kv.1,d)else kv)else m++[(k,d)]
theorem RdT.any(h:RdT H B l m)(k:List aF):(l.any λkv=>decide (kv.1=k))=gB m k:=by
 unfold gB
 induction h with
 |nil=>rfl
 |cons r _ a=>rw[C6,C6,a,r.1]
theorem RdT.isSome(h:RdT H B l m)(k:List aF):(cg l k).isSome=gB m k:=by
 rw[<-h.any k];unfold cg;rw[Ey,List.isSome_find?]
theorem RdT.len(h:RdT H B l m):l.length=m.length:=by
 induction h with
 |nil=>rfl
 |cons _ _ a=>rw[Ax,Ax,a]
theorem RdT.map{v:V}{d:Ad}(h:RdT H B l m)(r:RdX H B v d)(k:List aF):RdT H B (l.map λkv=>if kv.1=k then(kv.1,v)else kv) (m.map λkv=>if kv.1=k then(kv.1,d)else kv):=by
 induction h with
 |nil=>exact .nil
 |@cons p q f c z _ a=>
  rw[Bo,Bo];refine .cons ?_ a;by_cases e:p.1=k
  ·have b:=z.1▸e;rw[a' e,a' b];exact⟨z.1,r⟩
  ·rw[a_ e,a_ (z.1▸e)];exact z
theorem RdT.snoc{v:V}{d:Ad}(h:RdT H B l m)(r:RdX H B v d)(k:List aF):RdT H B (l++[(k,v)]) (m++[(k,d)]):=by
 induction h with
 |nil=>exact .cons ⟨rfl,r⟩ .nil
 |cons z _ a=>exact .cons z a
theorem RdT.put{v:V}{d:Ad}(h:RdT H B l m)(r:RdX H B v d)(k:List aF):RdT H B (bQ l k v) (fO m k d):=by
 unfold bQ fO;rw[h.any k]
 split
 ·exact h.map r k
 ·exact h.snoc r k
def rT(i:Nat):aH:=λδ n K=>K.nx (δ.set i (ae (.odt []))) n
theorem RW{i:Nat}{x:Str}{pos':Pos}(hN:X.N.Nodup)(hi:X.N[i]?=ae x)(hx:eZ X.env.scope x)(hs:Ci (.Dict [] [] p) (ae (.Name x pos')) pos.line X.env=pure ai:=by rfl)(hf:X.fn x=ah\/X.env.scope.names.lookup x=ae .local:=by first|exact .inl rfl|exact .inr rfl|assumption):
  DS X (.Assign [.Name x pos'] (.Dict [] [] p) pos) (bz z5 (df i)) (rT i):=⟨fC hN hi hx Ke hs hf,λC H B σ δ n K D R q E=>λa b=>by
  refine E.nx _ _ _ _ _ (R.own (R.new b) (Kp.new b) b (by rw[bj];simp) rfl ?_) q;exact⟨a,[],rfl,bj,.inr rfl,R.h0 b,Az _,.nil⟩⟩
def qh(i:Nat)(w:DT):DT:=λδ n Q=>w δ n λx n1=>∃k kvs,x=.d (nN k)/\δ[i]?=ae (ae (.odt kvs))/\Q (.d (.bool !gB kvs k)) n1
theorem NX{i:Nat}(hi:DE X a ta wa):dG (m4 ta (aM i)) (qh i wa):=λC H B σ δ n Q J R h k=>
 hi.sd C H B σ δ n _ _ R h λv x g u f F y p=>by
  obtain⟨d,m,rfl,e,q⟩:=p;obtain⟨w,s,b,l,rfl,E,L,K,N,r⟩:=f.sl i _ e;refine⟨_,s,?_⟩;cases(show RdX g B v (.tuple _)from y)with
  |@tup c G _ D I M j=>
   have o:=yL j;subst o;refine⟨b,_,rfl,DGet.t E D,k _ _ g u f F (wd (.bl _)) ?_⟩;rw[r.isSome d];exact q
theorem NM{i:Nat}{x:Str}{xp:Pos}(hu:X.A.units+64 < C9)(hN:X.N[i]?=ae x)(hi:DE X a ta wa)(hv:ej X.env.scope x:=by first|exact Ce rfl|exact Bz (Ce rfl)|exact Bz (Bz rfl))(hd:(x==("__debug__":Str))=ai:=by decide)
  (q_:(x==("__classdict__":Str))=ai:=by decide) (hm:Cg .NotIn (.Name x xp)=ai:=by with_unfolding_all rfl):DC X (.Compare a [.NotIn] [.Name x xp] pos) (gy (m4 ta (aM i))) (cT (qh i wa)):=⟨BM (AH ⋯ hi.pe (fm hN hv hd q_)) hm,kI (NX hi)⟩
def vY(i:Nat)(wy wv:DT):aH:=λδ n K=>wv δ n λv n1=>∃kvs,δ[i]?=ae (ae (.odt kvs))/\wy δ n1 λy n2=>∃k d,v=.d d/\y=.d (nN k)/\kvs.length < 1000/\K.nx (δ.set i (ae (.odt (fO kvs k d)))) n2
theorem IT{i:Nat}{x:Str}{xp sp:Pos}{j e:Expr}{tj te:TE}{wj we:DT}(hu:X.A.units+64 < C9)(hN:X.N[i]?=ae x)(hj:DE X j tj wj)(he:DE X e te we)(hv:ej X.env.scope x:=by first|exact Ce rfl|exact Bz (Ce rfl)|exact Bz (Bz rfl))(hd:(x==("__debug__":Str))=ai:=by decide)
  (q_:(x==("__classdict__":Str))=ai:=by decide) (hs:Ci e (ae (.Subscript (.Name x xp) j sp)) pos.line X.env=pure ai:=by rfl):
  DS X (.Assign [.Subscript (.Name x xp) j sp] e pos) (sH (aM i) tj te) (vY i wj we):=
 ⟨zc ⋯ (fm hN hv hd q_) hj.pe he.pe hs,λC H B σ δ n K D R q E=>
  he.sd C H B σ δ n _ _ R q λu y T U g k1 Y p=>by
   obtain⟨O,I,p⟩:=p;obtain⟨v,hv,a,l,rfl,V,r,s,e5,P⟩:=g.sl i _ I;refine⟨_,hv,hj.sd C T B σ δ U _ _ g p λw z S n2 W k Z m=>?_⟩;obtain⟨h,d,rfl,rfl,J,m⟩:=m;have G:a≠C.t:=λz=>R.t0 (z▸s);have f:=P.move λb o e n=>⟨k b o e λz=>n (z▸g.bt),n⟩;have L:l.length < 1000:=by rw[f.len];omega
   cases(show RdX S B w (.tuple _)from Z)with
   |@tup c zs _ i1 i2 i3 M=>
    have Q:=yL M;subst Q;refine⟨a,_,rfl,DPut.t (k _ _ V G) i1 (Bi L (fc (Ao _))),E.nx _ _ _ _ _ (W.mutOwn I rfl hv r s ?_ rfl) m⟩;refine⟨a,_,rfl,bj,r,s,?_,?_⟩
    ·have:=o3 l h u;omega
    ·exact(f.put (RdX.kp k g.bt Y) _).move λb o e n=>⟨by rw[aL λ(z:b=a)=>n (z▸r)];exact e,n⟩⟩
end
section
variable{X:Cx}{a b e o i f:Expr}{ta tb te td ty:TE}{wa wb we wd' wy:DT}{pos p p2:Pos}{K:Ag}
def iC(k:Int)(xs:List Ad):List Ad:=xs.zipIdx.map λq=>.tuple [.int (k+q.2),q.1]
theorem rO{k:Int}{xs:List Ad}:(iC k xs).length=xs.length:=by unfold iC;simp
theorem Q1{k:Int}{xs:List Ad}{i:Nat}{d:Ad}(h:(iC k xs)[i]?=ae d):∃x,xs[i]?=ae x/\d=.tuple [.int (k+i),x]:=by
 unfold iC at h;rw[Am,List.getElem?_zipIdx]at h;cases e:xs[i]? with
 |none=>rw[e]at h;cases h
 |some x=>
  refine⟨x,rfl,?_⟩;simp_all
theorem GN{k:Int}{x:Ad}{xs:List Ad}:iC k (x::xs)=.tuple [.int k,x]::iC (k+1) xs:=by
 refine List.ext_getElem? λi=>?_;unfold iC;cases i with
 |zero=>rw[List.zipIdx_cons,Bo,B9,B9,Int.natCast_zero,Int.add_zero]
 |succ i=>
  rw[Fv,Am,Am,List.getElem?_zipIdx,List.getElem?_zipIdx,Fv];cases xs[i]? with
  |none=>rfl
  |some y=>
   show ae (PyData.tuple [.int _,y])=ae _;have:k+(0+(i+1):Nat)=k+1+(0+i:Nat):=by omega
   rw[this]
def zA(w:DT):fW:=λδ n Q=>w δ n λx n1=>∃xs,x=.d (.tuple xs)/\Q (iC 0 xs) n1
theorem Q7{elts:List Expr}{kk:Nat}{tpos:Pos}(hg:Gl X "enumerate")(hm:X.mg "enumerate"=af)(ha:DE X a ta wa)(hK:X.K=K:=by rfl)(hs:Ar [a] X.env=[(ai,eval a X.env)]:=by rfl)(he1:Ar [a] X.env=(ai,eval a X.env)::Ar [] X.env:=by rfl):
  DI X (.Tuple elts kk tpos) (.Call (.Name "enumerate" p) [a] [] pos) (yg K (bJ ta bf)) (zA wa):=by
 subst hK;refine⟨JY hg hm (cw ha.pe eu he1) hs,λC H B σ δ n Q Q' R q k=>ha.sd C H B σ δ n _ _ R q λv x m S O k1 Z I=>?_⟩;obtain⟨U,rfl,G⟩:=I;cases(show RdX m B v (.tuple U)from Z)with
 |@tup F g _ E W J f=>
  refine⟨F,rfl,⟨g,SqT.of E⟩,k _ _ m S O k1 (λfz s=>?_) G⟩;have u:=s.2 _ _ E W;refine⟨by rw[rO,<-f.len];exact J,λi H c w=>?_,λH c=>?_,λi H x H' d c N t=>?_⟩
  ·rw[rO]at w;have P:i < g.length:=by rw[f.len];exact w
   exact⟨g,_,SqT.of (c _ _ u),Ah P⟩
  ·exact⟨g,SqT.of (c _ _ u),by rw[rO,f.len]⟩
  ·obtain⟨T,Y,rfl,h,rfl,V⟩:=t;refine⟨λb o e=>by rw[aL (bH e h)];exact e,λB' M r=>?_⟩;obtain⟨y,t,rfl⟩:=Q1 N;obtain⟨u1,j,l⟩:=f.getD t;have D:=V _ (SqT.of (c _ _ u));rw[j]at D;cases D;have L:∀b o,m b=ae o->¬B b->upd H T (.tup [.int i,Y]) b=ae o/\¬B' b:=λb o e A=>by
    have:=c _ _ (s.2 _ _ e A);exact⟨by rw[aL (bH this h)];exact this,M _ _ (s.2 _ _ e A)⟩
   rw[Int.zero_add];exact .tup bj (λz=>r T z h) (by show 2<=Aw;decide) (.cons (.int _) (.cons (l.move L) .nil))
def ro(hs:List Str)(w:DT):DT:=λδ n Q=>w δ n λx n1=>∃a,x=.d a/\eI a=ah/\Q (.d (.bool !bW a (hs.map .str))) n1
theorem HP{q:z_}{hs:List Str}(hl:∀h∈hs,h.length<=1000)(hq:∀H,SqT K H q (hs.map V.str))(h:dG ta wa):dG (dt (gE K ah) ta (tC (.ref q))) (ro hs wa):=λC H B σ δ n Q j R z k=>
 h C H B σ δ n _ _ R z λv x b g f i d a=>by
  obtain⟨l,rfl,a⟩:=a;have c:RdXs b B _ (hs.map .str):=mK hl;refine⟨q,_,rfl,.inr (hq b),kr d a.1,jw c ?_,k _ _ b g f i (wd (.bl _)) ?_⟩
  ·rw[List.all_map];exact Cy.mpr λ_ _=>rfl
  ·rw[kJ d c];exact a.2
theorem La{q:z_}{hs:List Str}{x:Str}{xp:Pos}(ha:DE X a ta wa)(hg:Gl X x)(hm:X.mg x=ae (.ref q))(hq:∀H,SqT K H q (hs.map V.str))(hl:∀h∈hs,h.length<=1000:=by decide +kernel)(hK:X.K=K:=by rfl)(hd:(x==("__debug__":Str))=ai:=by decide)
  (hmk:Cg .NotIn (Expr.Name x xp)=ai:=by with_unfolding_all rfl):DC X (.Compare a [.NotIn] [.Name x xp] pos) (gy (dt (gE K ah) ta (tC (.ref q)))) (cT (ro hs wa)):=
 ⟨jA (qZ hK) ha.pe (tS hg hm rfl hd) hmk,kI (HP hl hq ha.sd)⟩
end
section
variable{X:Cx}{e:Expr}{te:TE}{we:DT}{pos p:Pos}
def kd(w:jM):DT:=λδ n Q=>w δ n λkvs n1=>Q (.dk kvs) n1
theorem DN.d{w:jM}(h:DN X e te w):DE X e te (kd w):=⟨h.pe,λC H B σ δ n Q u R q k=>
 h.sd C H B σ δ n _ _ R q λa l c p j f r t m s g i=>by
  refine k _ (.dk c) p j f r ⟨a,l,rfl,m,λz=>?_,g.move λb o e n=>⟨e,λz=>n (.inl z)⟩⟩ i;obtain⟨_,_⟩:=R.tp.ob;simp_all⟩
abbrev ki(w:DT):DT:=kd (iO w)
theorem SS(hh:X.A.handled=af)(hg:Gl X "dict")(hm:X.mg "dict"=af)(he:DE X e te we)(he':Ar [e] X.env=(ai,eval e X.env)::Ar [] X.env:=by rfl)(p_:(Cp pos (Ar [] X.env)).any (·.1)=ai:=by rfl):DE X (.Call (.Name "dict" p) [e] [] pos) (fk yA (bJ te bf)) (ki we):=
 (zo hh hg hm he (by rfl) he' p_).d
end
end DL
namespace Nb
open PySem L2 DL
theorem oP{n many:Int}{Q:DQ}(h:n < 2 ^ 40)(h0:0 < many)(h1:many < 1073741824)(k:∀r:Int,0<=r->r < many->Q (.d (.int r)) (n+1)):bP [.tp,.d (.int many)] n Q:=⟨⟨h,h0,h1⟩,k⟩
theorem jS{ds:List Ad}{r:Int}{n:Int}{Q:DQ}(h0:0<=r)(h1:r < (ds.length:Int))(k:∀d∈ds,Q (.d d) n):av (.d (.list ds)) (.d (.int r)) n Q:=by
 obtain⟨v,_⟩:=y3 h0 h1;show match cX ds r with|some d=>Q _ n|none=>False
 simp_all
theorem PB{w:DT}{Q:List Ad->Int->Prop}{aC:Sl}(c:Nat)(h:∀d n Q',n+(c:Int) < 2 ^ 39->(∀y n',n'<=n+(c:Int)->Q' (.d y) n')->w (↑d::aC) n Q'):
  ∀(items i':List Ad)(x:Option SV)(n:Int),n+(c:Int)*(items.length:Int) < 2 ^ 39->(∀ds n',n'<=n+(c:Int)*(items.length:Int)->Q ds n')->dg (aG 0) bB w Q items i' (x::aC) n
 |[],i',x,n,b,q=>q i' n (by simp)
 |d::r,i',x,n,b,q=>by
  rw[Ax]at b q;have e:c*((r.length+1:Nat):Int)=c*(r.length:Int)+c:=by rfl
  have i:0<=c*(r.length:Int):=Int.mul_nonneg (G1 _) (G1 _);exact h d n _ ⋯ λy n' f=>PB c h r _ _ n' ⋯ λds a g=>q ds a ⋯
theorem eJ(n:Nat):(cf 0 n).length=n:=by unfold cf;simp
theorem pj{w:DT}{Q:List Ad->Int->Prop}{aC:Sl}(P:Ad->Prop)(c:Nat)(h:∀d n Q',n+(c:Int) < 2 ^ 39->(∀y n',P y->n'<=n+(c:Int)->Q' (.d y) n')->w (↑d::aC) n Q'):
  ∀(items i':List Ad)(x:Option SV)(n:Int),n+(c:Int)*(items.length:Int) < 2 ^ 39->(∀ds n',ds.length=items.length->(∀d∈ds,P d)->n'<=n+(c:Int)*(items.length:Int)->Q (i'++ds) n')->dg (aG 0) bB w Q items i' (x::aC) n
 |[],i',x,n,f,q=>by
  have:=q [] n rfl (by simp) (by simp);rwa [Bh]at this
 |d::r,i',x,n,f,q=>by
  rw[Ax]at f q;have e:c*((r.length+1:Nat):Int)=c*(r.length:Int)+c:=by rfl
  have m:0<=c*(r.length:Int):=Int.mul_nonneg (G1 _) (G1 _);refine h d n _ ⋯ λy n' l j=>pj P c h r _ _ n' ⋯ λds a g b k=>?_;rw[Bk];refine q (y::ds) a (by rw[Ax,g]) (λd i=>?_) ⋯;rcases Au.mp i with rfl|z
  ·exact l
  ·exact b d z
theorem eq_str(a:Ad)(h:Str):eW a (.str h)=ae (cx h a):=by cases a<;>rfl
theorem eq_int(i j:Int):eW (.int i) (.int j)=ae (decide (i=j)):=rfl
theorem Sw{α:Type}(a:α)(r:List α):cX (a::r) 0=ae a:=eH rfl
theorem Qc{α:Type}(a b:α)(r:List α):cX (a::b::r) 1=ae b:=eH rfl
section
variable{δ:Sl}{n:Int}{Q:DQ}{K:DEnds}{W V:aH}{i j:Nat}{a b d:Ad}{r ds:List Ad}{h:Str}
theorem az(h:W δ n {K with nx:=λδ n=>V δ n K}):aq W V δ n K:=h
theorem au{x:Wv}(e:δ[i]?=ae (ae (.w x)))(k:Q x n):aj i δ n Q:=by unfold aj;simp_all
theorem eT{m:Nat}(e:δ[i]?=ae (↑(.tuple ds)))(e2:ds[m]?=ae a)(k:Q (.d a) n):w2 (aj i) (wC (.int (m:Int))) av δ n Q:=by
 refine au e ?_;unfold wC av;simp only[eH e2];exact k
theorem cS(e:δ[i]?=ae (↑(.tuple (a::r))))(k:Q (.d a) n):w2 (aj i) (wC (.int 0)) av δ n Q:=eT e rfl k
theorem bK(e:δ[i]?=ae (↑(.tuple (a::b::r))))(k:Q (.d b) n):w2 (aj i) (wC (.int 1)) av δ n Q:=eT e rfl k
theorem dQ(e:δ[i]?=ae (↑(.tuple (a::r))))(k:Q (.d (.bool (cx h a))) n):w2 (w2 (aj i) (wC (.int 0)) av) (wC (.str h)) aX δ n Q:=by
 refine cS e ?_;unfold wC aX;simp only[eq_str];exact k
theorem cz{c:b3}(k:c δ n λb n1=>if b=ah then W δ n1 K else V δ n1 K):aI c W V δ n K:=k
theorem qO(e:δ[i]?=ae (↑(.tuple (a::r))))(hT:cx h a=ah->W δ n K)(hF:cx h a=ai->V δ n K):aI (cT (w2 (w2 (aj i) (wC (.int 0)) av) (wC (.str h)) aX)) W V δ n K:=dQ e (mS hT hF)
theorem cZ(e:δ[i]?=ae (↑(.tuple (a::r))))(z:cx h a=ai)(hF:V δ n K):aI (cT (w2 (w2 (aj i) (wC (.int 0)) av) (wC (.str h)) aX)) W V δ n K:=qO e (λq=>by simp_all) λ_=>hF
theorem ij(e:δ[i]?=ae (↑(.tuple (a::r))))(z:cx h a=ah)(hT:W δ n K):aI (cT (w2 (w2 (aj i) (wC (.int 0)) av) (wC (.str h)) aX)) W V δ n K:=qO e (λ_=>hT) λq=>by simp_all
end
theorem O1:cx "is" (.str "is")=ah:=by rfl
theorem Ic:cx "is" (.str "any")=ai:=by rfl
theorem KP:cx "is" (.str "word")=ai:=by rfl
theorem Ks:cx "is" (.str "number")=ai:=by rfl
theorem N5:cx "is" (.str "bind")=ai:=by rfl
theorem y6:cx "is" (.str "as")=ai:=by rfl
theorem Tv:cx "word" (.str "word")=ah:=by rfl
theorem TM:cx "word" (.str "number")=ai:=by rfl
theorem Tt:cx "as" (.str "bind")=ai:=by rfl
theorem TF:cx "as" (.str "as")=ah:=by rfl
theorem y2:cx "bind" (.str "bind")=ah:=by rfl
section
variable{δ:Sl}{n:Int}{Q:DQ}{K:DEnds}{W V:aH}{i j:Nat}{a b d:Ad}{r ds:List Ad}
theorem ar{wa wb:DT}{g:Wv->Wv->Int->DQ->Prop}(k:wa δ n λx n1=>wb δ n1 λy n2=>g x y n2 Q):w2 wa wb g δ n Q:=k
theorem bC{w:DT}{x:Ad}(h:∀Q:DQ,Q (.d x) n->w δ n Q)(k:K.nx (δ.set i (↑x)) n):ax i w δ n K:=h _ k
theorem ie(k:K.nx (δ.set i (ae (.own []))) n):bx i (aN ak) δ n K:=⟨Az _,k⟩
theorem cQ(k:Q (.d a) n):av (.d (.tuple (a::r))) (.d (.int 0)) n Q:=by
 show(match cX _ 0 with|some d=>Q (.d d) n|none=>False);rw[Sw];exact k
theorem ew(k:Q (.d b) n):av (.d (.tuple (a::b::r))) (.d (.int 1)) n Q:=by
 show(match cX _ 1 with|some d=>Q (.d d) n|none=>False);rw[Qc];exact k
theorem fL{c:Ad}(k:Q (.d c) n):av (.d (.tuple (a::b::c::r))) (.d (.int 2)) n Q:=by
 show(match cX _ 2 with|some d=>Q (.d d) n|none=>False);rw[show cX _ 2=ae c from eH rfl];exact k
theorem aB{c:Ad}(k:Q (.d c) n):wC c δ n Q:=k
theorem aQ{w:DT}{g:List Wv->Int->DQ->Prop}(k:w δ n λx n1=>g [x] n1 Q):wB g (ao w ak) δ n Q:=k
theorem dh{w:DT}{S:aJ}(k:w δ n λx n1=>S [x] n1 Q):aA S (ao w ak) δ n Q:=k
theorem bO{w w':DT}{S:aJ}(k:w δ n λx n1=>w' δ n1 λy n2=>S [x,y] n2 Q):aA S (ao w (ao w' ak)) δ n Q:=k
theorem bg{w w' w'':DT}{S:aJ}(k:w δ n λx n1=>w' δ n1 λy n2=>w'' δ n2 λz n3=>S [x,y,z] n3 Q):aA S (ao w (ao w' (ao w'' ak))) δ n Q:=k
theorem aV{w:d6}(k:w δ n λds n1=>Q (.d (.list ds)) n1):aZ w δ n Q:=k
theorem f6{fr:List (Option Nat)}{w e:DT}{g:dE}{c:b3}{Q:List Ad->Int->Prop}(hw:∀Q:DQ,Q (.d (.tuple ds)) n->w δ n Q)(k:dg g c e Q ds [] (iX fr δ) n):bY fr (c7 w) g c e δ n Q:=hw _ k
theorem oK(e:δ[i]?=ae (↑(.tuple ds)))(k:Q (.d (.int ds.length)) n):wB a9 (ao (aj i) ak) δ n Q:=aQ (au e k)
theorem Lh(e:δ[j]?=ae (↑(.tuple ds)))(k:K.nx (δ.set i (ae (.own ds))) n):bx i (lF (aj j)) δ n K:=by
 unfold bx lF;exact au e k
theorem bo{w:DT}(k:w δ n K.rt):aw w δ n K:=k
theorem ON{wa wb wc:DT}{x y z:Int}(ha:∀Q:DQ,Q (.d (.int x)) n->wa δ n Q)(hb:∀Q:DQ,Q (.d (.int y)) n->wb δ n Q)(hc:∀Q:DQ,Q (.d (.int z)) n->wc δ n Q)(h:x<=y)(k:Q (.d (.bool (decide (y<=z)))) n):qJ om om wa wb wc δ n Q:=by
 refine ha _ (hb _ ?_);show gF (.d (.bool (decide _))) _ _;rw[b_ h];exact hc _ k
theorem ik(e:δ[i]?=ae (ae (.own ds)))(k:W (δ.set i (↑(.list ds))) n K):bX i W δ n K:=by
 unfold bX;simp_all
theorem IK{u v:DT}(hu:∀Q:DQ,Q (.d (.bool ah)) n->u δ n Q)(hv:v δ n Q):cO u v δ n Q:=hu _ hv
theorem aE{w:DT}{k:Bool}{Q:Bool->Int->Prop}(hw:∀Q':DQ,Q' (.d (.bool k)) n->w δ n Q')(q:Q k n):cT w δ n Q:=hw _ q
theorem aT{C:b3}(hc:∀Q:Bool->Int->Prop,Q ai n->C δ n Q)(hF:V δ n K):aI C W V δ n K:=hc _ (by rw[a_ A3];omega)
theorem bG{C:b3}(hc:∀Q:Bool->Int->Prop,Q ah n->C δ n Q)(hT:W δ n K):aI C W V δ n K:=hc _ (by rw[a' rfl];omega)
theorem f7{A B:b3}{Q:Bool->Int->Prop}(ha:∀Q:Bool->Int->Prop,Q ai n->A δ n Q)(hb:B δ n Q):d0 A B δ n Q:=ha _ (by rw[a_ A3];omega)
theorem nE{A B:b3}{Q:Bool->Int->Prop}(ha:∀Q:Bool->Int->Prop,Q ah n->A δ n Q)(k:Q ah n):d0 A B δ n Q:=ha _ (k)
theorem kj{A B:b3}{Q:Bool->Int->Prop}(ha:∀Q:Bool->Int->Prop,Q ah n->A δ n Q)(hb:B δ n Q):cJ A B δ n Q:=ha _ (by rw[a' rfl];omega)
theorem lA{A:b3}{k:Bool}{Q:Bool->Int->Prop}(ha:∀Q:Bool->Int->Prop,Q k n->A δ n Q)(q:Q (!k) n):cH A δ n Q:=ha _ q
end
theorem eD{g:dE}{W:aH}{K:DEnds}(I:List Ad->Sl->Int->Prop)(h0:∀δ n,I [] δ n->K.nx δ n)
  (h1:∀d r δ n (N:Sl->Int->Prop),I (d::r) δ n->(∀δ n,I r δ n->N δ n)->g d δ λδ'=>W δ' n {K with nx:=N,ct:=N,bk:=K.nx}):∀ds δ n,I ds δ n->dw g W K ds δ n
 |[],δ,n,h=>h0 δ n h
 |d::r,δ,n,h=>h1 d r δ n _ h (eD I h0 h1 r)
section
variable{δ:Sl}{n m:Int}{Q:DQ}{K:DEnds}{W V:aH}{i j:Nat}{ds:List Ad}
theorem gD{w:DT}(e0:δ[0]?=ae (ae (.w .tp)))(hw:∀Q:DQ,Q (.d (.int m)) n->w δ n Q)(h:n < 2 ^ 40)(h0:0 < m)(h1:m < 1073741824)(k:∀r:Int,0<=r->r < m->Q (.d (.int r)) (n+1)):aA bP (ao ↥0 (ao w ak)) δ n Q:=
 bO (au e0 (hw _ (oP h h0 h1 k)))
theorem gG(e0:δ[0]?=ae (ae (.w .tp)))(h:n < 2 ^ 40)(h0:0 < m)(h1:m < 1073741824)(k:∀r:Int,0<=r->r < m->Q (.d (.int r)) (n+1)):aA bP (ao ↥0 (ao (wC (.int m)) ak)) δ n Q:=gD e0 (λQ q=>aB q) h h0 h1 k
theorem qd(e0:δ[0]?=ae (ae (.w .tp)))(h:n < 2 ^ 40)(h0:0 < m)(h1:m < 1073741824)(k:∀r:Int,0<=r->r < m->K.nx (δ.set i (↑(.int r))) (n+1)):ax i (aA bP (ao ↥0 (ao (wC (.int m)) ak))) δ n K:=gG e0 h h0 h1 k
theorem vF{r:Int}(h0:0<=r)(h1:r < (ds.length:Int))(k:∀d∈ds,Q (.d d) n):aU (.ln ds) (.d (.int r)) n Q:=by
 obtain⟨v,_⟩:=y3 h0 h1;show(match cX ds r with|some d=>Q _ n|none=>False);simp_all
theorem iZ{r:Int}(h0:0<=r)(h1:r < (ds.length:Int))(k:∀d∈ds,Q (.d d) n):aU (.d (.list ds)) (.d (.int r)) n Q:=jS h0 h1 k
theorem lQ(e:δ[i]?=ae (ae (.own ds)))(k:Q (.ln ds) n):cy i δ n Q:=by
 unfold cy;simp_all
theorem k8{w:DT}{x:Ad}{es:List Ad}(e:δ[i]?=ae (ae (.own es)))(hw:∀Q:DQ,Q (.d x) m->w δ n Q)(hl:es.length < 1000000)(k:K.nx (δ.set i (ae (.own (es++[x])))) m):aY i w δ n K:=by
 unfold aY;rw[e];exact hw _ (Al hl k)
theorem iH{w:DT}{es:List Ad}(e:δ[i]?=ae (ae (.own es)))(k:w δ n λx n1=>match x with
  |.d d=>es.length < 1000000/\K.nx (δ.set i (ae (.own (es++[d])))) n1
  |_=>False):aY i w δ n K:=by
 unfold aY;rw[e];exact k
theorem cv{w w':DT}(k:w δ n λx n1=>w' δ n1 λy n2=>match il [x,y]with
  |some ds=>ds.length<=1000/\Q (.d (.tuple ds)) n2
  |none=>False):ay (ao w (ao w' ak)) δ n Q:=k
theorem ig{w w' w'':DT}(k:w δ n λx n1=>w' δ n1 λy n2=>w'' δ n2 λz n3=>match il [x,y,z]with
  |some ds=>ds.length<=1000/\Q (.d (.tuple ds)) n3
  |none=>False):ay (ao w (ao w' (ao w'' ak))) δ n Q:=k
theorem ke(k:Q (.d (.tuple ds)) n):fX [.d (.list ds)] n Q:=k
theorem rB{a b:Int}(k:Q (.d (.bool (decide (a < b)))) n):fw (.d (.int a)) (.d (.int b)) n Q:=k
theorem k9{a b:Int}(e:δ[i]?=ae (↑(.int a)))(hT:a < b->W δ n K)(hF:¬a < b->V δ n K):aI (cT (w2 (aj i) (wC (.int b)) fw)) W V δ n K:=by
 refine cz (ar (au e (aB ?_)));show if decide _=ah then _ else _
 by_cases h:a < b
 ·rw[a' (b_ h)];exact hT h
 ·rw[a_ (by simpa using h)];exact hF h
end
section
variable{δ:Sl}{n m:Int}{Q:DQ}{K:DEnds}{W V:aH}{i j:Nat}{ds:List Ad}
theorem DY{w w' w'' v:DT}(k:w δ n λx n1=>w' δ n1 λy n2=>w'' δ n2 λz n3=>v δ n3 λu n4=>match il [x,y,z,u]with
  |some ds=>ds.length<=1000/\Q (.d (.tuple ds)) n4
  |none=>False):ay (ao w (ao w' (ao w'' (ao v ak)))) δ n Q:=k
theorem jt(k:Q (.d (.list [])) n):aZ (aN ak) δ n Q:=Al (Az _) k
theorem jd(k:Q (.d (.bool ds.isEmpty)) n):bL (.ln ds) (.d (.list [])) n Q:=k
theorem i6{a b:Int}(k:Q (.d (.bool (decide (a=b)))) n):bL (.d (.int a)) (.d (.int b)) n Q:=k
theorem m3{a b:Int}(e:δ[i]?=ae (↑(.int a)))(hT:a=b->W δ n K)(hF:¬a=b->V δ n K):aI (cT (w2 (aj i) (wC (.int b)) bL)) W V δ n K:=by
 refine cz (ar (au e (aB ?_)));show if decide _=ah then _ else _
 by_cases h:a=b
 ·rw[a' (b_ h)];exact hT h
 ·rw[a_ (by simpa using h)];exact hF h
theorem sF{a b:Int}(e:δ[i]?=ae (↑(.int a)))(hT:b < a->W δ n K)(hF:¬b < a->V δ n K):aI (cT (w2 (aj i) (wC (.int b)) iz)) W V δ n K:=by
 refine cz (ar (au e (aB ?_)));show if decide _=ah then _ else _
 by_cases h:b < a
 ·rw[a' (b_ h)];exact hT h
 ·rw[a_ (by simpa using h)];exact hF h
end
theorem oh(hs:List Str):(hs.map Dr).all eI=ah:=by
 rw[Cy];intro d a;obtain⟨x,_,rfl⟩:=A5.mp a;rfl
theorem yC{δ:Sl}{n m:Int}{K:DEnds}{W:aH}{g:dE}{L:List Ad}{wl:DT}{M:Nat}(e:δ[0]?=ae (ae (.w .tp)))(hl:∀Q:DQ,Q (.d (.list L)) n->wl δ n Q)(hn:n < 2 ^ 40)(hm:m=L.length)(h0:0 < m)(h1:m < 1000)(hL:∀d∈L,∃j:Nat,j<=M/\d=.int j)(hM:M<=1000)(k:∀j:Nat,j<=M->dw g W K (cf 0 j) δ (n+1)):
  aP (d3 (w2 wl (aA bP (ao ↥0 (ao (wC (.int m)) ak))) aU)) g W δ n K:=by
 refine ar (hl _ (gG e hn h0 ⋯ λr b f=>iZ b ⋯ λd a=>?_));obtain⟨j,c,rfl⟩:=hL d a;exact Al ⟨by omega,by omega⟩ (k j c)
theorem Hu{ds:List Ad}{n:Int}{Q:DQ}(k:Q (.d (.int ds.length)) n):d7 [.ln ds] n Q:=k
theorem bb{n:Int}{Q:DQ}{i:Nat}{x:Ad}{xs:List Ad}(h:xs[i]?=ae x)(k:Q (.d x) n):av (.d (.tuple xs)) (.d (.int (i:Nat))) n Q:=by
 show(match cX xs (i:Int)with|some d=>Q _ n|none=>False);rw[eH h];exact k
theorem u6(xs:List Ad){p:Nat}(hp:p<=xs.length):dI xs af (ae (p:Int))=xs.take p:=by
 unfold dI;show(xs.drop 0).take (min p xs.length-0)=_;simp_all
end Nb
namespace DL
open PySem L2 Nb
section
variable{X:Cx}{K:Ag}
def MC:Option Nat->Ad
 |none=>.none
 |some i=>.int i
def rK:Option Nat->Str
 |none=>"None"
 |some i=>toString (i:Int)
def AB:List V->Hp->VK->Prop:=λxs H Q=>(∃i:Nat,xs=[.int i]/\i < 128/\Q (.str (rK (ae i))) H)\/(xs=[.non]/\Q (.str (rK af)) H)
theorem call_reprN:CallR X (.builtin "repr") AB:=by
 intro a s σ H d e Q I r h;rcases h with⟨i,rfl,c,q⟩|⟨rfl,q⟩
 ·obtain⟨u,rfl,t,rfl⟩:=fA r;refine PySem.P.repr_of_int (D3 (Nat.log2_le_self _) ?_) ⟨.str _,H,I.tok _,⟨_,rfl⟩,q⟩;rw[Int.natAbs_natCast];omega
 ·obtain⟨u,rfl,b⟩:=fA r;cases(b);exact P.repr_of_none ⟨.str "None",H,I.tok _,⟨_,rfl⟩,q⟩
def px:List Wv->Int->DQ->Prop:=λxs n Q=>(∃o:Option Nat,xs=[.d (MC o)]/\(∀i,o=ae i->i < 128)/\Q (.d (.str (rK o))) n)\/qr xs n Q
theorem Hz:∀i < 128,(Str.ofString (toString ((i:Nat):Int))).length<=1000:=by decide +kernel
theorem Ny:cP (λxs H Q=>AB xs H Q\/vm K xs H Q) px:=λC H B σ δ n e xs Q f R r h k=>by
 rcases h with⟨o,rfl,b,q⟩|h
 ·refine .inl ?_;cases r with
  |cons c d=>
   cases d;cases o with
   |none=>
    cases(c);exact .inr ⟨rfl,k _ _ H n R (Kp.refl _ _) (wd (show RdX H B _ (.str _)from .str _ (by trivial))) q⟩
   |some i=>
    cases(show RdX H B _ (.int i)from c);exact .inl ⟨i,rfl,b i rfl,k _ _ H n R (Kp.refl _ _) (wd (.str _ (Jh (Hz i (b i rfl))))) q⟩
 ·exact .inr (Jp C H B σ δ n e _ Q f R r h k)
end
end DL
namespace Nb
open PySem L2 DL
abbrev Nm:=List (Str×Ad)
inductive Fd where
 |is (v:Ad)|any|word|number|bind (x:Str)|as (x:Str)
def Fd.d:Fd->Ad
 |.is v=>.tuple [.str "is",v]
 |.any=>.tuple [.str "any"]
 |.word=>.tuple [.str "word"]
 |.number=>.tuple [.str "number"]
 |.bind x=>.tuple [.str "bind",.str x]
 |.as x=>.tuple [.str "as",.str x]
abbrev okX(x:Str):Prop:=x.length<=4/\Dw x=ah/\mN 4 (.str x)=ah
def b7:Ad->Bool
 |.str x=>decide (x.length<=8)&&(Dw x&&decide (x="a"\/x="ab"\/x="go"))
 |.int i=>decide (0<=i)&&(decide (i<=99)&&(decide (F8 (.int i)<=20)&&(PyData.intsShort 13 (.int i)&&PyData.showable (.int i))))
 |_=>ai
def Fd.ok:Fd->Prop
 |.is v=>b7 v=ah
 |.bind x=>okX x
 |.as x=>okX x
 |_=>True
def fq(a b:Ad):Bool:=(eW a b).getD ai
theorem lg{a b:Ad}(ha:b7 a=ah)(hb:b7 b=ah):eW a b=ae (fq a b):=by
 cases a<;>first|cases ha|(cases b<;>first|cases hb|rfl)
theorem Og{a b:Ad}(ha:b7 a=ah)(hb:b7 b=ah)(h:fq a b=ah):a=b:=by
 cases a<;>first|cases ha|(cases b<;>first|cases hb|cases h|(rw[d_ h]))
theorem HA{a:Ad}(ha:b7 a=ah):eI a=ah:=by cases a<;>first|cases ha|rfl
def gR:Ad->Bool
 |.str _=>ah
 |_=>ai
def gQ:Ad->Bool
 |.int _=>ah
 |_=>ai
def look(ps:Nm)(x:Str):Option Ad:=(ps.find? λp=>decide (p.1=x)).map (·.2)
def put(ps:Nm)(x:Str)(v:Ad):Nm:=if (ps.any λp=>decide (p.1=x))=ah then ps.map (λp=>if p.1=x then(p.1,v)else p)else ps++[(x,v)]
theorem Mp(a b:Str):decide ((Dh a:aF)=Dh b)=decide (a=b):=by
 by_cases z:a=b
 ·rw[z,b_ rfl,b_ rfl]
 ·rw[c_ z,c_ λw=>z (Sum.inr.inj w)]
theorem jk(ps:Nm)(x:Str):bS (b4 ps) (.inr x)=look ps x:=by
 induction ps with
 |nil=>rfl
 |cons p r c=>
  by_cases e:p.1=x
  ·have b:bS (b4 (p::r)) (.inr x)=ae p.2:=by simp[bS,b4,e]
   have a:look (p::r) x=ae p.2:=by simp[look,e]
   simp_all
  ·have b:bS (b4 (p::r)) (.inr x)=bS (b4 r) (.inr x):=by simp[bS,b4,e]
   have a:look (p::r) x=look r x:=by simp[look,e]
   simp_all
theorem Nr(ps:Nm)(x:Str):((b4 ps).any λkv=>decide (kv.1=(Dh x:aF)))=(ps.any λp=>decide (p.1=x)):=by
 unfold b4;simp
 congr 1
 funext p
 exact Mp _ _
theorem qm(ps:Nm)(x:Str)(v:Ad):fU (b4 ps) (.inr x) v=b4 (put ps x v):=by
 unfold fU put;rw[Nr]
 split
 ·unfold b4;rw[B4,B4];apply Di;intro p _;show(if _=Dh x then _ else _)=_;by_cases e:p.1=x
  ·rw[a' (congrArg Dh e)];show _=(Dh (if p.1=x then(p.1,v)else p).1,(if p.1=x then(p.1,v)else p).2);rw[a' e]
  ·rw[a_ λz=>e (Sum.inr.inj z)];show _=(Dh (if p.1=x then(p.1,v)else p).1,(if p.1=x then(p.1,v)else p).2);rw[a_ e]
 ·unfold b4;simp
theorem j3{ps:Nm}{x:Str}{v:Ad}(h:look ps x=ae v):(x,v)∈ps:=by
 unfold look at h;cases e:ps.find? λp=>decide (p.1=x)with
 |none=>rw[e]at h;cases h
 |some p=>
  rw[e]at h;have a:=List.find?_some e;have:=List.mem_of_find?_eq_some e;rw[<-(d_ a),<-(Bq h)];omega
theorem rj(ps:Nm)(x:Str):(ps.any λp=>decide (p.1=x))=(look ps x).isSome:=by
 induction ps with
 |nil=>rfl
 |cons p r b=>
  by_cases e:p.1=x
  ·have a:look (p::r) x=ae p.2:=by simp[look,e]
   rw[a,C6,b_ e];rfl
  ·have a:look (p::r) x=look r x:=by simp[look,e]
   rw[a,C6,c_ e,Bool.false_or,b]
theorem BF(ps:Nm)(x:Str)(v:Ad):(put ps x v).map (·.1)=if (ps.any λp=>decide (p.1=x))=ah then ps.map (·.1)else ps.map (·.1)++[x]:=by
 unfold put
 split
 ·rw[B4];apply Di;intro p _;show(if p.1=x then(p.1,v)else p).1=p.1
  split<;>rfl
 ·rw[Bc];rfl
theorem vh{ps:Nm}{x:Str}{v:Ad}(h:(ps.map (·.1)).Nodup):((put ps x v).map (·.1)).Nodup:=by
 rw[BF]
 split
 ·exact h
 ·rename_i e;rw[F2];refine⟨h,by simp,λa f b c z=>?_⟩;have c:=by simpa using c
  obtain⟨p,d,rfl⟩:=A5.mp f;exact e (Cm.mpr ⟨p,d,b_ (z.trans c)⟩)
theorem qF(ps:Nm)(x:Str)(v:Ad):(put ps x v).length<=ps.length+1:=by
 unfold put
 split
 ·rw[Ab];omega
 ·rw[An];exact Ao _
def eG(p:Str×Ad):Prop:=okX p.1/\b7 p.2=ah
theorem my{ps:Nm}{x:Str}{v:Ad}(h:∀p∈ps,eG p)(hx:okX x)(hv:b7 v=ah):∀p∈put ps x v,eG p:=by
 intro p a;unfold put at a
 split at a
 ·obtain⟨q,b,rfl⟩:=A5.mp a
  split
  ·exact⟨(h q b).1,hv⟩
  ·exact h q b
 ·rcases A7.mp a with a|a
  ·exact h p a
  ·have:=by simpa using a
   subst this;trivial
theorem Jw{ps:Nm}{x:Str}{v:Ad}(nd:(ps.map (·.1)).Nodup)(h:look ps x=ae v):put ps x v=ps:=by
 unfold put;rw[rj,h,a' (show(ae v).isSome=ah from rfl)];have:ps.map (λp=>if p.1=x then(p.1,v)else p)=ps.map id:=by
  apply Di;intro p c
  split
  ·rename_i e;have:p=(x,v):=by
    obtain⟨i,g⟩:=Br.mp c;obtain⟨j,k⟩:=Br.mp (j3 h);have f:(ps.map (·.1))[i]?=ae x:=by rw[Am,g];exact congrArg ae e
    have a:(ps.map (·.1))[j]?=ae x:=by rw[Am,k];rfl
    obtain⟨l,d⟩:=Aq.mp f;obtain⟨m,b⟩:=Aq.mp a;have:=(Fb nd).mp (d.trans b.symm);simp_all
   rw[this];rfl
  ·rfl
 rw[this,List.map_id]
theorem EZ(ps:Nm)(x:Str)(v:Ad):look (put ps x v) x=ae v:=by
 unfold put;rw[rj]
 split
 ·rename_i e
  induction ps with
  |nil=>cases e
  |cons p r c=>
   by_cases z:p.1=x
   ·simp[look,z]
   ·have b:look (p::r) x=look r x:=by simp[look,z]
    rw[b]at e;rw[Bo,a_ z];have a:look (p::r.map λp=>if p.1=x then(p.1,v)else p) x=look (r.map λp=>if p.1=x then(p.1,v)else p) x:=by simp[look,z]
    rw[a];exact c e
 ·rename_i e;have:look ps x=af:=by cases q:look ps x with|none=>rfl|some _=>rw[q]at e;exact f_ rfl e
  unfold look at this ⊢;rw[List.find?_append];cases q:ps.find? λp=>decide (p.1=x)with
  |some p=>rw[q]at this;cases this
  |none=>simp
theorem yt{ps:Nm}{x y:Str}{v:Ad}(h:y≠x):look (put ps x v) y=look ps y:=by
 unfold put
 split
 ·induction ps with
  |nil=>rfl
  |cons p r f=>
   rw[Bo];have a:look (r.map λp=>if p.1=x then(p.1,v)else p) y=look r y:=by
    by_cases q:(r.any λp=>decide (p.1=x))=ah
    ·exact f q
    ·have:r.map (λp=>if p.1=x then(p.1,v)else p)=r.map id:=by
      apply Di;intro p e;rw[a_ λz=>q (Cm.mpr ⟨p,e,b_ z⟩)];rfl
     rw[this,List.map_id]
   by_cases z:p.1=x
   ·rw[a' z];have d:¬p.1=y:=λw=>h (w.symm.trans z);have c:look ((p.1,v)::r.map λp=>if p.1=x then(p.1,v)else p) y=look (r.map λp=>if p.1=x then(p.1,v)else p) y:=by simp[look,d]
    have b:look (p::r) y=look r y:=by simp[look,d]
    rw[c,b,a]
   ·rw[a_ z];by_cases w:p.1=y
    ·simp[look,w]
    ·have c:look (p::r.map λp=>if p.1=x then(p.1,v)else p) y=look (r.map λp=>if p.1=x then(p.1,v)else p) y:=by simp[look,w]
     have b:look (p::r) y=look r y:=by simp[look,w]
     rw[c,b,a]
 ·unfold look;rw[List.find?_append];have:[(x,v)].find? (λp=>decide (p.1=y))=af:=by simp[Ne.symm h]
  rw[this,Option.or_none]
def gb(f:Fd)(v:Ad)(h bs:Nm):Bool:=match f with
 |.is w=>fq w v
 |.any=>ah
 |.word=>gR v
 |.number=>gQ v
 |.as x=>match look h x with
  |some w=>fq w v
  |none=>ai
 |.bind x=>match look bs x with
  |some w=>fq w v
  |none=>ah
def wk:List (Fd×Ad)->Nm->List Str->Option Nm
 |[],h,_=>ae h
 | (.is w,v)::r,h,hs=>if fq w v=ah then wk r h hs else af
 | (.any,_)::r,h,hs=>wk r h hs
 | (.word,v)::r,h,hs=>if gR v=ah then wk r h hs else af
 | (.number,v)::r,h,hs=>if gQ v=ah then wk r h hs else af
 | (.as x,v)::r,h,hs=>match look h x with
  |some w=>if fq w v=ah then wk r h hs else af
  |none=>af
 | (.bind x,v)::r,h,hs=>if x∈hs then(match look h x with
   |some w=>if fq w v=ah then wk r h hs else af
   |none=>af)else wk r (put h x v) (hs++[x])
def iL(p:Str×Ad):Ad:=.tuple [.str p.1,p.2]
def cV(ps:Nm):Ad:=.tuple (ps.map iL)
def dJ(fs:List Fd):Ad:=.tuple (fs.map Fd.d)
def okN(ps:Nm):Prop:=ps.length<=40/\(ps.map (·.1)).Nodup/\∀p∈ps,eG p
def mn(fs:List Fd):Prop:=1<=fs.length/\fs.length<=4/\∀f∈fs,f.ok
def uJ(row:List Ad):Prop:=(row.length<=4/\1<=row.length)/\∀d∈row,b7 d=ah
theorem vQ(x y:Str)(h1:¬x.cps.toList < y.cps.toList)(h2:¬y.cps.toList < x.cps.toList):x=y:=by
 have:=List.le_antisymm (En.mp h2) (En.mp h1);cases x;simp_all
theorem L6{h a b:Nm}(nd:(h.map (·.1)).Nodup)(ha:a.Perm h)(hb:b.Perm h)(ra:jh a)(rb:jh b):a=b:=by
 refine List.Perm.eq_of_pairwise (λx y f k l m=>?_) ra rb (ha.trans hb.symm);obtain⟨i,n⟩:=Br.mp (ha.mem_iff.mp f);obtain⟨j,o⟩:=Br.mp (hb.mem_iff.mp k);have g:(h.map (·.1))[i]?=ae x.1:=by rw[Am,n];rfl
 have c:(h.map (·.1))[j]?=ae x.1:=by rw[Am,o,(vQ _ _ m l)];rfl
 obtain⟨p,e⟩:=Aq.mp g;obtain⟨q,d⟩:=Aq.mp c;have:=(Fb nd).mp (e.trans d.symm);simp_all
theorem jK:∀(l:List (Fd×Ad))(h:Nm)(hs:List Str)(k:Nm),(h.map (·.1)).Nodup->wk l h hs=ae k->(k.map (·.1)).Nodup
 |[],h,hs,k,a,e=>by cases e;omega
 | (.is w,v)::r,h,hs,k,a,e=>by unfold wk at e;split at e;exact jK r h hs k a e;cases e
 | (.any,v)::r,h,hs,k,a,e=>jK r h hs k a e
 | (.word,v)::r,h,hs,k,a,e=>by unfold wk at e;split at e;exact jK r h hs k a e;cases e
 | (.number,v)::r,h,hs,k,a,e=>by unfold wk at e;split at e;exact jK r h hs k a e;cases e
 | (.as x,v)::r,h,hs,k,a,e=>by
  unfold wk at e
  split at e
  ·split at e
   ·exact jK r h hs k a e
   ·cases e
  ·cases e
 | (.bind x,v)::r,h,hs,k,a,e=>by
  unfold wk at e
  split at e
  ·split at e
   ·split at e
    ·exact jK r h hs k a e
    ·cases e
   ·cases e
  ·exact jK r _ _ k (vh a) e
def vr(a b:Str×Ad):Bool:=decide (¬b.1.cps.toList < a.1.cps.toList)
def bT(h:Nm):Nm:=h.mergeSort vr
theorem BN(h:Nm):(bT h).Perm h:=List.mergeSort_perm h vr
theorem y4(h:Nm):jh (bT h):=by
 have:=List.pairwise_mergeSort (le:=vr) (λa b c x y=>b_ (En.mpr (List.le_trans (En.mp (d_ x)) (En.mp (d_ y))))) (λa b=>?_) h
 ·exact List.Pairwise.imp (λx=>d_ x) this
 ·rw[Bool.or_eq_true];rcases List.le_total a.1.cps.toList b.1.cps.toList with z|z
  ·exact .inl (b_ (En.mpr z))
  ·exact .inr (b_ (En.mpr z))
theorem yM{h h':Nm}(nd:(h.map (·.1)).Nodup)(p:h'.Perm h)(r:jh h'):h'=bT h:=L6 nd p (BN h) r (y4 h)
def eS(fs:List Fd)(row:List Ad)(nm:Nm):Nm:=(wk (fs.zip row) nm []).getD []
def cb(fs:List Fd)(row:List Ad)(nm:Nm):Bool:=decide (fs.length=row.length)&&(wk (fs.zip row) nm []).isSome
def dD(fs:List Fd)(row:List Ad)(nm:Nm):Ad:=if cb fs row nm=ah then cV (bT (eS fs row nm))else .none
def nY(fs:List Fd)(row:List Ad)(ps:Nm)(r:Ad):Prop:=
 if fs.length=row.length then match wk (fs.zip row) ps []with
  |none=>r=.none
  |some h=>r=cV (bT h)
 else r=.none
theorem N2{fs:List Fd}{row:List Ad}{ps:Nm}{r:Ad}(h:nY fs row ps r):r=dD fs row ps:=by
 unfold nY at h;unfold dD cb eS;by_cases e:fs.length=row.length
 ·rw[a' e]at h;rw[b_ e];cases q:wk _ ps []with
  |none=>rw[q]at h;exact h
  |some x=>rw[q]at h;exact h
 ·rw[a_ e]at h;rw[c_ e];exact h
def jq:aJ:=λws n Q=>∃(f:Fd)(v:Ad)(hp bp:Nm),ws=[.d f.d,.d v,.dk (b4 hp),.dk (b4 bp)]/\f.ok/\b7 v=ah/\(∀p∈hp,eG p)/\(∀p∈bp,eG p)/\Q (.d (.bool (gb f v hp bp))) n
def me:aJ:=λws n Q=>∃(fs:List Fd)(row:List Ad)(nm:Nm),ws=[.d (dJ fs),.d (.tuple row),.d (cV nm)]/\mn fs/\uJ row/\okN nm/\Q (.d (dD fs row nm)) n
def fe(ys:List Str):Ad:=.tuple (ys.map .str)
def pZ:List Ad:=[.str "a",.int 0,.int 1,.str "ab",.str "go",.int 99]
inductive Fe where
 |any|word|num|isv (d:Ad)|bind (k:Str)|as (k:Str)|nx (k:Str)
def Fe.hd:Fe->Str
 |.any=>"any"
 |.word=>"word"
 |.num=>"number"
 |.isv _=>"is"
 |.bind _=>"bind"
 |.as _=>"as"
 |.nx _=>"next"
def Fe.tl:Fe->List Ad
 |.any=>[]
 |.word=>[]
 |.num=>[]
 |.isv d=>[d]
 |.bind k=>[.str k]
 |.as k=>[.str k]
 |.nx k=>[.str k]
def Fe.d(f:Fe):Ad:=.tuple (.str f.hd::f.tl)
abbrev fG(k:Str):Prop:=okX k
def Fe.ok:Fe->Prop
 |.isv d=>b7 d=ah
 |.bind k=>fG k
 |.as k=>fG k
 |.nx k=>fG k
 |_=>True
def Fe.bd:Fe->Option Str
 |.bind k=>ae k
 |_=>af
def Fe.us:Fe->Option Str
 |.as k=>ae k
 |.nx k=>ae k
 |_=>af
def bq(fs:List Fe):List Str:=fs.filterMap Fe.bd
def Fe.pt:Fe->Bool
 |.nx _=>ai
 |_=>ah
def Fe.tm:Fe->Bool
 |.isv _=>ah
 |.as _=>ah
 |.nx _=>ah
 |_=>ai
def Fe.te:Fe->Bool
 |.isv _=>ah
 |.as _=>ah
 |_=>ai
def eE(fs:List Fe):Prop:=fs.length<=4/\∀f∈fs,f.ok
def rF:List Str->List Fe->Prop
 |_,[]=>True
 |ks,f::r=>(∀k,f.us=ae k->k∈ks)/\rF (ks++f.bd.toList) r
inductive Ac where
 |lay (fs:List Fe) (age:Ad)|take (fs:List Fe)|read (fs:List Fe)|look (fs:List Fe) (b:Nat)|same (f g:Fe) (b:Nat)|go (b:Nat)
def cG(fs:List Fe):Ad:=.tuple (fs.map Fe.d)
def Ac.d:Ac->Ad
 |.lay fs age=>.tuple [.str "lay",cG fs,age]
 |.take fs=>.tuple [.str "take",cG fs]
 |.read fs=>.tuple [.str "read",cG fs]
 |.look fs b=>.tuple [.str "look",cG fs,.int b]
 |.same f g b=>.tuple [.str "same",f.d,g.d,.int b]
 |.go b=>.tuple [.str "go",.int b]
def Ac.bs:Ac->List Str
 |.take fs=>bq fs
 |.read fs=>bq fs
 |.look fs _=>bq fs
 |_=>[]
def Ac.fs:Ac->List Fe
 |.lay fs _=>fs
 |.take fs=>fs
 |.read fs=>fs
 |.look fs _=>fs
 |.same f g _=>[f,g]
 |.go _=>[]
def Ac.to:Ac->Option Nat
 |.look _ b=>ae b
 |.same _ _ b=>ae b
 |.go b=>ae b
 |_=>af
def Ac.right(wants:List (List Str))(ks:List Str)(a:Ac):Prop:=rF ks a.fs/\∀b,a.to=ae b->∃w,wants[b]?=ae w/\∀k∈w,k∈ks
def gZ(d:Ad):Prop:=d=.none\/∃i:Int,d=.int i/\1<=i/\i<=20
def gh(fs:List Fe):Prop:=1<=fs.length/\∀f∈fs,f.pt=ah
def Ac.pat:Ac->Prop
 |.take fs=>gh fs
 |.read fs=>gh fs
 |.look fs _=>gh fs
 |.lay fs age=>(∀f∈fs,f.tm=ah)/\gZ age/\1<=fs.length
 |.same f g _=>f.te=ah/\g.te=ah
 |.go _=>True
def jo(a:Ac):Prop:=eE a.fs/\a.pat
abbrev Bl:=List Str×List Ac
def fF(b:Bl):Ad:=.tuple [fe b.1,.tuple (b.2.map Ac.d)]
def fZ(bs:List Bl):Ad:=.tuple (bs.map fF)
def kn(w:List Str)(as:List Ac)(p:Nat):List Str:=w++(as.take p).flatMap Ac.bs
def kL(b:Bl):Prop:=b.1.length<=4/\(∀k∈b.1,fG k)/\b.2.length<=8/\(∀a∈b.2,jo a)/\b.1.Nodup/\ia b.1
def j7(wants:List (List Str))(b:Bl):Prop:=∀(p:Nat)(a:Ac),b.2[p]?=ae a->a.right wants (kn b.1 b.2 p)
def iq:aJ:=λws n Q=>ws=[.tp]/\n < 2 ^ 39/\∀v∈pZ,Q (.d v) (n+1)
def lq:aJ:=λws n Q=>ws=[.tp]/\n < 2 ^ 39/\∀m:Nat,1<=m->m<=4->Q (.d (.int m)) (n+1)
def uo:aJ:=λws n Q=>∃ks:List Str,ws=[.tp,.ln (ks.map .str)]/\ks.length<=1000/\(∀k∈ks,fG k)/\n+9 < 2 ^ 39/\∀(fs:List Fe)(n':Int),1<=fs.length->eE fs->(∀f∈fs,f.tm=ah)->rF ks fs->n'<=n+9->Q (.d (cG fs)) n'
def pF:aJ:=λws n Q=>∃ks:List Str,ws=[.tp,.ln (ks.map .str)]/\ks.length<=1000/\(∀k∈ks,fG k)/\n+2 < 2 ^ 39/\∀(f:Fe)(n':Int),f.ok->f.te=ah->(∀k,f.us=ae k->k∈ks)->n'<=n+2->Q (.d f.d) n'
def oB:aJ:=λws n Q=>∃(ks:List Str)(os:List Nat)(wants:List (List Str)),ws=[.tp,.ln (ks.map .str),.d (.list (os.map λb=>.int (b:Nat)))]/\ks.length<=1000/\(∀k∈ks,fG k)/\0 < os.length/\os.length<=1000 /\
 (∀b∈os,∃w,wants[b]?=ae w/\∀k∈w,k∈ks)/\n+11 < 2 ^ 39/\∀(a:Ac)(n':Int),jo a->a.right wants ks->n'<=n+11->Q (.d (.tuple [a.d,.list (a.bs.map .str)])) n'
def qB(bs:List Bl):Prop:=1<=bs.length/\bs.length<=6/\∀b∈bs,kL b/\j7 (bs.map (·.1)) b
def qL:aJ:=λws n Q=>∃(ks:List Str)(v:Wv),ws=[.tp,v]/\gg v=ae (ks.map .str)/\ks.length<=1000/\(∀k∈ks,fG k)/\n+9 < 2 ^ 39/\∀(fs:List Fe)(n':Int),1<=fs.length->eE fs->(∀f∈fs,f.pt=ah)->rF ks fs->n'<=n+9->Q (.d (.tuple [cG fs,.list ((bq fs).map .str)])) n'
def jn(bs:List Bl):Prop:=∃w,bs.map (·.1)=[]::w
def sL:aJ:=λws n Q=>ws=[.tp]/\n+600 < 2 ^ 39/\∀(bs:List Bl)(n':Int),qB bs->jn bs->n'<=n+600->Q (.d (fZ bs)) n'
abbrev Hn:=Nat×Nat×Nm
def bZ(h:Hn):Ad:=.tuple [.int h.1,.int h.2.1,cV h.2.2]
abbrev Nt:=List Ad×Ad
def eV(q:Nt):Ad:=.tuple [.tuple q.1,q.2]
def e7(ns:List Nt):Ad:=.tuple (ns.map eV)
def bR(hs:List Hn)(ns:List Nt):Ad:=.tuple [.tuple (hs.map bZ),e7 ns]
abbrev Pg:=List (List Bl)
def cI(ps:Pg):Ad:=.tuple (ps.map fZ)
def bM(ps:Pg):Prop:=ps.length<=5/\∀P∈ps,qB P
def nT(q:Nt):Prop:=uJ q.1/\gZ q.2
def c9(m:Nat)(ns:List Nt):Prop:=ns.length<=m/\∀q∈ns,nT q
structure okHn(b:Bl)(h:Hn):Prop where
 pl:h.2.1<=b.2.length
 nd:(h.2.2.map (·.1)).Nodup
 ok:∀p∈h.2.2,eG p
 up:jh h.2.2
 mem:∀k,k∈h.2.2.map (·.1)↔k∈kn b.1 b.2 h.2.1
 ln:h.2.2.length<=40
theorem okHn.n{b:Bl}{h:Hn}(H:okHn b h):okN h.2.2:=⟨H.ln,H.nd,H.ok⟩
def okHs(ps:Pg)(hs:List Hn):Prop:=hs.length=ps.length/\∀(i:Nat)(P:List Bl),ps[i]?=ae P->∃(h:Hn)(b:Bl),hs[i]?=ae h/\P[h.1]?=ae b/\okHn b h
def bA(ps:Pg)(hs:List Hn)(h:Nat):Option Ac:=ps[h]?.bind λP=>hs[h]?.bind λx=>P[x.1]?.bind λb=>b.2[x.2.1]?
def mX:Option Ac->Ad
 |none=>.none
 |some a=>a.d
def Fe.fd:Fe->Fd
 |.any=>.any
 |.word=>.word
 |.num=>.number
 |.isv d=>.is d
 |.bind k=>.bind k
 |.as k=>.as k
 |.nx _=>.any
def Ac.pf:Ac->Option (List Fd)
 |.take fs=>ae (fs.map Fe.fd)
 |.read fs=>ae (fs.map Fe.fd)
 |.look fs _=>ae (fs.map Fe.fd)
 |_=>af
def Ac.wt:Ac->Bool
 |.take _=>ah
 |.read _=>ah
 |_=>ai
def a7(fs:List Fd)(nm:Nm)(ns:List Nt):Option Nat:=ns.findIdx? λq=>cb fs q.1 nm
def u5(hs:List Hn)(h:Nat):Nm:=(hs[h]?.map (·.2.2)).getD []
def dO(ps:Pg)(hs:List Hn)(ns:List Nt)(h:Nat):Option Nat:=(bA ps hs h).bind λa=>a.pf.bind λfs=>a7 fs (u5 hs h) ns
def ck(ps:Pg)(hs:List Hn)(ns:List Nt)(h:Nat):Bool:=((bA ps hs h).map λa=>!a.wt || (dO ps hs ns h).isSome).getD ai
def jc:Option Nat->Ad
 |none=>.none
 |some i=>.int i
def cF(ns:List Nt)(i:Nat):List Ad:=(ns[i]?.map (·.1)).getD []
def dj(ps:Pg)(hs:List Hn)(ns:List Nt):Prop:=bM ps/\okHs ps hs/\c9 100 ns
def jy:Ad->Ad
 |.int i=>if i=99 then .int 0 else .int (i+1)
 |d=>d
def hG(nm:Nm)(k:Str):Ad:=(look nm k).getD .none
def fu(nm:Nm):Fe->Ad
 |.isv d=>d
 |.as k=>hG nm k
 |.nx k=>jy (hG nm k)
 |_=>.none
def gi(fs:List Fe)(nm:Nm):List Ad:=fs.map (fu nm)
def kK(P:List Bl)(b:Nat):List Str:=(P[b]?.map (·.1)).getD []
def cj(P:List Bl)(b:Nat)(nm:Nm):Hn:=(b,0,nm.filter λp=>decide (p.1∈kK P b))
def d9(x:Hn)(nm:Nm):Hn:=(x.1,x.2.1+1,nm)
def a8(hs:List Hn)(h:Nat)(x:Hn):List Hn:=hs.take h++x::hs.drop (h+1)
def iR:Ad->Ad
 |.int i=>.int (i-1)
 |d=>d
def gj:Ad->Bool
 |.int i=>decide (i=1)
 |_=>ai
def dH(ns:List Nt):List Nt:=(ns.filter λq=>!gj q.2).map λq=>(q.1,iR q.2)
def cD(ns:List Nt)(i:Nat):List Nt:=ns.take i++ns.drop (i+1)
def bE(fs:List Fe)(x:Hn)(ns:List Nt):Option (Nat×Hn):=(a7 (fs.map Fe.fd) x.2.2 ns).map λi=>(i,d9 x (bT (eS (fs.map Fe.fd) (cF ns i) x.2.2)))
def nV(P:List Bl)(x:Hn)(ns:List Nt):Ac->Option (Hn×List Nt)
 |.lay fs age=>ae (d9 x x.2.2,ns++[(gi fs x.2.2,age)])
 |.go b=>ae (cj P b x.2.2,ns)
 |.same f g b=>ae (if fq (fu x.2.2 f) (fu x.2.2 g)=ah then d9 x x.2.2 else cj P b x.2.2,ns)
 |.take fs=>(bE fs x ns).map λq=>(q.2,cD ns q.1)
 |.read fs=>(bE fs x ns).map λq=>(q.2,ns)
 |.look fs b=>match bE fs x ns with
  |some q=>ae (q.2,ns)
  |none=>ae (cj P b x.2.2,ns)
def dR(ps:Pg)(hs:List Hn)(ns:List Nt)(h:Nat):Option (List Hn×List Nt):=ps[h]?.bind λP=>hs[h]?.bind λx=>(bA ps hs h).bind λa=>(nV P x ns a).map λr=>(a8 hs h r.1,r.2)
def bI(ps:Pg)(hs:List Hn)(ns:List Nt)(m:Nat):Option (List Hn×List Nt):=if m=ps.length then ae (hs,dH ns)else dR ps hs ns m
def iw:Option (List Hn×List Nt)->Ad
 |none=>.none
 |some r=>bR r.1 r.2
def ef(nm:Nm)(f:Fe):Prop:=f.ok/\f.tm=ah/\∀k,f.us=ae k->∃v,look nm k=ae v/\b7 v=ah
def sq:aJ:=λws n Q=>∃i m:Int,ws=[.d (.int i),.d (.int m)]/\0<=i/\i<=m/\Q (.d (.bool ah)) n
def su:aJ:=λws n Q=>∃v,ws=[.d v]/\b7 v=ah/\Q (.d (jy v)) n
def nJ:aJ:=λws n Q=>∃(f:Fe)(nm:Nm),ws=[.d f.d,.dk (b4 nm)]/\ef nm f/\Q (.d (fu nm f)) n
def qx:aJ:=λws n Q=>∃(fs:List Fe)(nm:Nm),ws=[.d (cG fs),.d (cV nm)]/\fs.length<=4/\(∀f∈fs,ef nm f)/\okN nm/\Q (.d (.tuple (gi fs nm))) n
def uB:aJ:=λws n Q=>∃(f g:Fe)(b:Nat)(nm:Nm),ws=[.d (Ac.same f g b).d,.d (cV nm)]/\ef nm f/\ef nm g/\f.te=ah/\g.te=ah/\okN nm/\Q (.d (.bool (fq (fu nm f) (fu nm g)))) n
def mx:aJ:=λws n Q=>∃(x:Hn)(nm:Nm),ws=[.d (bZ x),.d (cV nm)]/\Q (.d (bZ (d9 x nm))) n
def oj:aJ:=λws n Q=>∃(P:List Bl)(b:Nat)(nm:Nm)(w:Bl),ws=[.d (fZ P),.d (.int b),.d (cV nm)]/\P[b]?=ae w/\w.1.length<=4/\Q (.d (bZ (cj P b nm))) n
def jg:aJ:=λws n Q=>∃(hs:List Hn)(h:Nat)(x:Hn),ws=[.d (.tuple (hs.map bZ)),.d (.int h),.d (bZ x)]/\h < hs.length/\hs.length<=5/\Q (.d (.tuple ((a8 hs h x).map bZ))) n
def nP:aJ:=λws n Q=>∃(ps:Pg)(hs:List Hn)(ns:List Nt)(h:Nat)(a:Ac),ws=[.d (cI ps),.d (bR hs ns),.d (.int h),.d a.d]/\dj ps hs ns/\h < ps.length/\bA ps hs h=ae a/\a.pf.isSome=ah/\Q (.d (iw (dR ps hs ns h))) n
def vi:aJ:=λws n Q=>∃(ps:Pg)(hs:List Hn)(ns:List Nt)(h:Nat),ws=[.d (cI ps),.d (bR hs ns),.d (.int h)]/\dj ps hs ns/\h < ps.length/\Q (.d (iw (dR ps hs ns h))) n
def sx:aJ:=λws n Q=>∃q:Nt,ws=[.d (eV q)]/\gZ q.2/\Q (.d (eV (q.1,iR q.2))) n
def vd:aJ:=λws n Q=>∃(hs:List Hn)(ns:List Nt),ws=[.d (bR hs ns)]/\(∀q∈ns,gZ q.2)/\Q (.d (bR hs (dH ns))) n
def eO:aJ:=λws n Q=>∃(ps:Pg)(hs:List Hn)(ns:List Nt)(m:Nat),ws=[.d (cI ps),.d (bR hs ns),.d (.int m)]/\dj ps hs ns/\m<=ps.length/\Q (.d (iw (bI ps hs ns m))) n
def da:aJ:=λws n Q=>∃(ps:Pg)(hs:List Hn)(ns:List Nt)(m:Nat)(r:List Hn×List Nt),ws=[.d (cI ps),.d (bR hs ns),.d (.int m)]/\dj ps hs ns/\m<=ps.length/\bI ps hs ns m=ae r/\Q (.d (bR r.1 r.2)) n
def lj:aJ:=λws n Q=>∃(ps:Pg)(hs:List Hn)(ns:List Nt)(h:Nat),ws=[.d (cI ps),.d (bR hs ns),.d (.int h)]/\okHs ps hs/\h < ps.length/\Q (.d (mX (bA ps hs h))) n
def t4:aJ:=λws n Q=>∃(ps:Pg)(hs:List Hn)(ns:List Nt)(h:Nat),ws=[.d (cI ps),.d (bR hs ns),.d (.int h)]/\dj ps hs ns/\h < ps.length/\Q (.d (jc (dO ps hs ns h))) n
def nZ:aJ:=λws n Q=>∃m:Nat,ws=[.tp,.d (.int m)]/\m<=12/\n+100 < 2 ^ 39/\∀(ns:List Nt)(n':Int),c9 m ns->n'<=n+100->Q (.d (e7 ns)) n'
def rJ:aJ:=λws n Q=>∃(P:List Bl)(i p:Nat)(b:Bl),ws=[.d (fZ P),.d (.int i),.d (.int p)]/\P[i]?=ae b/\kL b/\p<=b.2.length/\∀ys:List Str,ys.Nodup->(∀k∈ys,fG k)->ia ys->(∀k,k∈ys↔k∈kn b.1 b.2 p)->Q (.d (.list (ys.map .str))) n
def uV:aJ:=λws n Q=>∃i:Int,ws=[.d (.int i)]/\Q (.d (.bool ah)) n
def qt:aJ:=λws n Q=>∃(ps:Pg)(m:Nat),ws=[.tp,.d (cI ps),.d (.int m)]/\m<=6/\bM ps/\n+400 < 2 ^ 39/\∀(hs:List Hn)(ns:List Nt)(n':Int),okHs ps hs->c9 m ns->n'<=n+400->Q (.d (bR hs ns)) n'
def si:aJ:=λws n Q=>ws=[.tp]/\n+3000 < 2 ^ 39/\∀(ps:Pg)(hs:List Hn)(ns:List Nt)(n':Int),bM ps->okHs ps hs->c9 4 ns->n'<=n+3000->Q (.d (.tuple [cI ps,bR hs ns])) n'
def qU:aJ:=me
def u9:aJ:=qx
def tY:aJ:=λws n Q=>∃(ps:Pg)(hs:List Hn)(h:Nat),ws=[.d (cI ps),.d (.tuple (hs.map bZ)),.d (.int h)]/\okHs ps hs/\h < ps.length/\Q (.d (mX (bA ps hs h))) n
def gv(fs:List Fd)(nm:Nm)(ns:List Nt):Ad:=match a7 fs nm ns with
 |none=>.none
 |some i=>.tuple [.int (i:Nat),cV (bT (eS fs (cF ns i) nm))]
def mW:aJ:=λws n Q=>∃(a:Ac)(fs:List Fd)(ns:List Nt)(nm:Nm),ws=[.d a.d,.d (e7 ns),.d (cV nm)]/\jo a/\a.pf=ae fs/\c9 100 ns/\okN nm/\Q (.d (gv fs nm ns)) n
def i8(ps:Pg)(hs:List Hn)(ns:List Nt):List Nat:=(A8 (ps.length+1)).filter λi=>(bI ps hs ns i).isSome
def de:aJ:=λws n Q=>∃(ps:Pg)(hs:List Hn)(ns:List Nt),ws=[.d (cI ps),.d (bR hs ns)]/\dj ps hs ns/\Q (.d (.list ((i8 ps hs ns).map λi=>.int (i:Nat)))) n
structure Sd where
 hs:List Hn
 ns:List Nt
def Sd.d(s:Sd):Ad:=bR s.hs s.ns
def hZ(ps:Pg)(s:Sd):Prop:=okHs ps s.hs/\c9 100 s.ns
inductive Bs where
 |notes (fs:List Fd) (k:Nat)|at(h b p:Nat)|ended (h:Nat)
def Bs.d:Bs->Ad
 |.notes fs k=>.tuple [.str "notes",dJ fs,.int k]
 |.at h b p=>.tuple [.str "at",.int h,.int b,.int p]
 |.ended h=>.tuple [.str "ended",.int h]
def Bs.ok(ps:Pg):Bs->Prop
 |.notes fs _=>mn fs
 |.at h b p=>h < ps.length/\b<=100/\p<=100
 |.ended h=>h < ps.length
def holds(fs:List Fd)(row:List Ad):Bool:=cb fs row []
def many(fs:List Fd)(ns:List Nt):Nat:=(ns.filter λq=>holds fs q.1).length
def f9(ps:Pg)(s:Sd)(h:Nat):Bool:=match s.hs[h]?,ps[h]? with
 |some x,ae P=>match P[x.1]? with
  |some b=>decide (x.2.1=b.2.length)
  |none=>ai
 |_,_=>ai
def Bs.see(ps:Pg)(s:Sd):Bs->Bool
 |.notes fs k=>decide (k<=many fs s.ns)
 |.at h b p=>match s.hs[h]? with
  |some x=>decide (x.1=b)&&decide (x.2.1=p)
  |none=>ai
 |.ended h=>f9 ps s h
def Sg:Nat->Type
 |0=>Bs
 |t+1=>Bs ⊕ ((Bool×List (Sg t)) ⊕ Sg t)
def n8(k:Bool):Str:=if k then "all" else "some"
def Sg.d:(t:Nat)->Sg t->Ad
 |0,b=>Bs.d b
 |_+1,.inl b=>Bs.d b
 |t+1,.inr (.inl q)=>.tuple [.str (n8 q.1),.tuple (q.2.map (Sg.d t))]
 |t+1,.inr (.inr s)=>.tuple [.str "not",Sg.d t s]
def Sg.ok(ps:Pg):(t:Nat)->Sg t->Prop
 |0,b=>Bs.ok ps b
 |_+1,.inl b=>Bs.ok ps b
 |t+1,.inr (.inl q)=>∀s∈q.2,Sg.ok ps t s
 |t+1,.inr (.inr s)=>Sg.ok ps t s
def Sg.see(ps:Pg)(st:Sd):(t:Nat)->Sg t->Bool
 |0,b=>Bs.see ps st b
 |_+1,.inl b=>Bs.see ps st b
 |t+1,.inr (.inl q)=>if q.1 then q.2.all (Sg.see ps st t)else q.2.any (Sg.see ps st t)
 |t+1,.inr (.inr s)=>!Sg.see ps st t s
def Sg.subs:(t:Nat)->Sg t->List Ad
 |0,_=>[]
 |_+1,.inl _=>[]
 |t+1,.inr (.inl q)=>q.2.map (Sg.d t)
 |t+1,.inr (.inr s)=>[Sg.d t s]
def Sg.bs:(t:Nat)->Bs->Sg t
 |0,b=>b
 |_+1,b=>.inl b
theorem Qv(t:Nat)(b:Bs):Sg.d t (Sg.bs t b)=b.d:=by cases t<;>rfl
theorem yJ(ps:Pg)(t:Nat)(b:Bs)(h:b.ok ps):Sg.ok ps t (Sg.bs t b):=by cases t<;>exact h
def p7:aJ:=λws n Q=>∃(t:Nat)(g:Sg t),ws=[.d (Sg.d t g)]/\Q (.d (.tuple (Sg.subs t g))) n
def vE:aJ:=λws n Q=>∃(fs:List Fd)(ns:List Nt),ws=[.d (dJ fs),.d (e7 ns)]/\mn fs/\c9 100 ns/\Q (.d (.int (many fs ns))) n
def dm:Nat->aJ
 |0=>λ_ _ _=>False
 |t+1=>λws n Q=>∃(ps:Pg)(s:Sd)(g:Sg t),ws=[.d (cI ps),.d s.d,.d (Sg.d t g)]/\bM ps/\hZ ps s/\Sg.ok ps t g/\Q (.d (.bool (Sg.see ps s t g))) n
def gu:Nat->Int
 |0=>20
 |t+1=>4*gu t
def kh:Nat->aJ
 |0=>λ_ _ _=>False
 |t+1=>λws n Q=>∃ps:Pg,ws=[.tp,.d (cI ps),.d (.int t)]/\bM ps/\n+gu t < 2 ^ 39/\∀(g:Sg t)(n':Int),Sg.ok ps t g->n'<=n+gu t->Q (.d (Sg.d t g)) n'
end Nb
namespace L2
open PySem PySem.Spec PyProof.Rows
abbrev XP:=TK×z_×V
def cq(ps:List XP)(k:TK):Option V:=(ps.find? λp=>decide (p.1=k)).map (·.2.2)
def dq(ps:List XP)(k:TK)(b:z_)(v:V):List XP:=if (cq ps k).isSome=ah then ps.map (λp=>if p.1=k then(p.1,p.2.1,v)else p)else ps++[(k,b,v)]
abbrev KX:List XP->List (TK×z_×Af)->Prop:=Paired λp q=>p.1=q.1/\p.2.1=q.2.1/\RelV p.2.2 q.2.2
theorem KX.val{ps:List XP}{xs:List (TK×z_×Af)}(r:KX ps xs)(k:TK):RelO (cq ps k) ((atKey xs k).map (·.2)):=by
 induction r with
 |nil=>exact Ge
 |@cons p q ps d h t i=>
  obtain⟨f,_,g⟩:=h;by_cases e:p.1=k
  ·have a:=f.symm.trans e;have b:atKey (q::d) k=ae q.2:=by simp[atKey,a]
   have c:cq (p::ps) k=ae p.2.2:=by simp[cq,e]
   rw[c,b];exact g
  ·have a:¬q.1=k:=λz=>e (f.trans z);have b:atKey (q::d) k=atKey d k:=by simp[atKey,a]
   have c:cq (p::ps) k=cq ps k:=by simp[cq,e]
   simp_all
theorem KX.repl{ps:List XP}{xs:List (TK×z_×Af)}(r:KX ps xs)(k:TK){y:V}{u:Af}(ry:RelV y u):KX (ps.map λp=>if p.1=k then(p.1,p.2.1,y)else p) (xs.map (putAt k u)):=by
 induction r with
 |nil=>exact .nil
 |@cons p q ps d h t c=>
  rw[Bo];refine .cons ?_ c;obtain⟨a,b,f⟩:=h;unfold putAt;by_cases e:p.1=k
  ·rw[a' e,a' (a.symm.trans e)];exact⟨a,b,ry⟩
  ·rw[a_ e,a_ (λz=>e (a.trans z))];trivial
theorem KX.put{ps:List XP}{xs:List (TK×z_×Af)}(r:KX ps xs)(k:TK){b:z_}{y:V}{u:Af}(ry:RelV y u):KX (dq ps k b y) (storedH xs k b u):=by
 have e:(cq ps k).isSome=(atKey xs k).isSome:=by rw[(r.val k).isSome_eq,Ey]
 unfold dq storedH;rw[e];by_cases q:(atKey xs k).isSome=ah
 ·rw[a' q,a' q];exact r.repl k ry
 ·rw[a_ q,a_ q];exact Paired.snoc r ⟨rfl,rfl,ry⟩
theorem vo(ps:List XP)(k:TK)(b:z_)(v:V):(dq ps k b v).length<=ps.length+1:=by
 unfold dq
 split
 ·rw[Ab];omega
 ·rw[An,A1];omega
def gO(K:Ag)(H:Hp)(ps:List XP):Prop:=∀p∈ps,RdD K H (.ref p.2.1) p.1.1
section
variable{X:Cx}{h_:List (z_×Obj)}{σ:St}{H:Hp}{s:Aj}{a b:z_}{v d:V}{u r:Af}{ps:List XP}{k:TK}{A:Bt}{E:Af->Aj->Prop}
theorem mB(I:Inv X h_ σ H s)(e:RdD X.K H (.ref b) k.1):(mT X.prog X.w).is s.heap k b:=RdD.reads I e (show RelV _ (.ref b)from rfl)
theorem oz(I:Inv X h_ σ H s)(e:Rd H a (.dX ps))(hk:gO X.K H ps):ps.length<=Aw/\(a==Dd)=ai/\∃xs,KX ps xs/\s.heap.DictOfH (mT X.prog X.w) a xs:=by
 obtain⟨z,y,xs,c,o,n,v,u,h,j,k,i⟩:=(show ObjOk X.prog X.w H s.heap a (.dX ps)from e.ok I.hok);refine⟨z,y,xs,c,o,n,v,u,h,j,k,λx b=>?_,i⟩;have d:∀{l:List XP}{m:List _},KX l m->gO X.K H l->∀x∈m,(mT X.prog X.w).is s.heap x.1 x.2.1:=by
  intro l m q
  induction q with
  |nil=>intro _ x b;trivial
  |@cons p q ps C g t A=>
   intro f x b;rcases Au.mp b with e|b
   ·subst e;have:=f p Ap;rw[g.1,g.2.1]at this;exact mB I this
   ·exact A (λp r=>f p (Ak _ r)) x b
 exact d c hk x b
theorem NY{Q:Af->Aj->Prop}(hu:A.units+64 < C9)(I:Inv X h_ σ H s)(e:Rd H a (.dX ps))(hk:gO X.K H ps)(eb:RdD X.K H (.ref b) k.1)(l:cq ps k=ae v)(h:∀w' s',Inv X h_ σ H s'->RelV v w'->Q w' s'):
  A6 (A9 X.prog X.w) A (getItem (.ref a) (.ref b)) Q E s:=by
 obtain⟨z,n,m,c,g⟩:=oz I e hk;obtain⟨w',i,f⟩:=RelO.some_of (by rw[<-l];exact c.val k);obtain⟨p,j,d⟩:=Em.mp i;refine wpAny_getItem_heap (show A.in1.units+16 < C9 by simp;omega) (mB I eb) g j ?_;rw[d];exact h w' _ (I.tok _) f
theorem OQ{Q:Af->Aj->Prop}(hu:A.units+64 < C9)(I:Inv X h_ σ H s)(e:Rd H a (.dX ps))(hk:gO X.K H ps)(eb:RdD X.K H (.ref b) k.1)(h:∀s',Inv X h_ σ H s'->Q (.bool (!(cq ps k).isSome)) s'):
  A6 (A9 X.prog X.w) A (Bv .NotIn (.ref b) (.ref a)) Q E s:=by
 obtain⟨z,f,g,c,d⟩:=oz I e hk;refine wpAny_notIn_heap (show A.in1.units+16 < C9 by simp;omega) (mB I eb) f d ?_;have q:=(c.val k).isSome_eq;rw[Ey]at q;rw[<-q];exact h _ (I.tok _)
theorem JA{Q:Unit->Aj->Prop}(hu:A.units+64 < C9)(I:Inv X h_ σ H s)(e:H a=ae (.dX ps))(hk:gO X.K H ps)(eb:RdD X.K H (.ref b) k.1)(l:ps.length < Aw)(rv:RelV v r)(h:∀s',Inv X h_ σ (upd H a (.dX (dq ps k b v))) s'->Q () s'):
  A6 (A9 X.prog X.w) A (setItem (.ref a) (.ref b) r) Q E s:=by
 obtain⟨z,t,x,c,g⟩:=oz I (.inl e) hk;have B:x.length<=Aw:=by rw[<-Dk c];exact z
 have m:(dq ps k b v).length<=Aw:=by have:=vo ps k b v;omega
 refine wpAny_setItem_heap (show A.in1.units+16 < C9 by simp;omega) (mB I eb) g λh' d y=>h _ ?_;obtain⟨q,p,u,f,i,n,o,_,j⟩:=d;exact lz I (by rw[e];trivial) y ⟨q,f⟩ ⟨m,t,_,c.put k rv,q,p,u,f,i,n,o,j⟩
end
def xN:TE:=λ_ H Q=>∀p,H p=af->Q (.ref p) (upd H p (.dX []))
theorem O9{X:Cx}{pos:Pos}:PE X (.Dict [] [] pos) xN:=λh_ s σ H Q I h=>by
 refine wpAny_Dict_empty ⟨.ref s.heap.objs.size,_,I.laid (λ_ _ q=>Ae _ q) (Ao _) ?_,rfl,h _ (I.hok.fresh (Ao _))⟩;obtain⟨z,y,g,r,o,e,f,c,a,b,d,i⟩:=sN (P:=X.prog) (w:=X.w) (H:=upd H s.heap.objs.size (.dT [])) s.heap I.big;cases r;exact⟨Az _,y,[],.nil,o,e,f,c,a,b,d,List.nodup_nil⟩
def XGet(K:Ag)(H:Hp)(a:z_)(y:V)(r:Option V):Prop:=∃ps k b,Rd H a (.dX ps)/\gO K H ps/\y=.ref b/\RdD K H (.ref b) k.1/\r=cq ps k
def nz(K:Ag)(H:Hp)(a:z_)(y v:V)(H':Hp):Prop:=∃ps k b,H a=ae (.dX ps)/\gO K H ps/\y=.ref b/\RdD K H (.ref b) k.1/\ps.length < Aw/\H'=upd H a (.dX (dq ps k b v))
def AM(K:Ag)(H:Hp)(a:z_):Prop:=∃ps,Rd H a (.dX ps)/\gO K H ps
def vW(K:Ag)(td ty:TE):TE:=λσ H Q=>td σ H λx H1=>ty σ H1 λy H2=>∃a v,x=.ref a/\XGet K H2 a y (ae v)/\Q v H2
def qS(K:Ag)(ty td:TE):TE:=λσ H Q=>ty σ H λy H1=>td σ H1 λx H2=>∃a o,x=.ref a/\XGet K H2 a y o/\Q (.bl (!o.isSome)) H2
def uK(K:Ag)(td ty tv:TE):TS:=λD σ H=>tv σ H λv H1=>td σ H1 λx H2=>ty σ H2 λy H3=>∃a H4,x=.ref a/\nz K H3 a y v H4/\D.nx σ H4
section
variable{X:Cx}{h_:List (z_×Obj)}{σ:St}{H:Hp}{s:Aj}{a:z_}
theorem K6(I:Inv X h_ σ H s)(h:AM X.K H a):s.TypeIs (.ref a) "dict":=by
 obtain⟨f,e,c⟩:=h;obtain⟨_,_,d,_,b⟩:=oz I e c;exact b.typeIs
theorem XGet.isX{y:V}{r:Option V}(g:XGet X.K H a y r):AM X.K H a:=let⟨c,_,_,e,b,_⟩:=g;⟨c,e,b⟩
end
section
variable{X:Cx}{o i e f value:Expr}{pos pos' tpos apos cpos:Pos}{td ty tv tx:TE}
theorem MG(hu:X.A.units+64 < C9)(ho:PE X o td)(hi:PE X i ty)(hs:h9 i):PE X (.Subscript o i pos) (vW X.K td ty):=by
 intro c s σ H Q I h;refine AN PySem.F.slot_dict_getitem.lookup hs (aO (ho c s σ H _ I h) λu D ⟨x,t,B,r,p⟩=>aO (hi c D σ t _ B p) λiv G u=>?_);obtain⟨y,q,f,z,a,v,C,g,j⟩:=u;subst C;obtain rfl:=r;have ty:=K6 f g.isX;obtain⟨E,k,b,e,n,rfl,m,l⟩:=g;obtain rfl:=z;exact⟨ty,NY hu f e n m l.symm λw' J w d=>⟨v,q,w,d,j⟩⟩
theorem RK(hu:X.A.units+64 < C9)(hi:PE X i ty)(ho:PE X o td):PC X .NotIn i o (qS X.K ty td):=by
 intro c s σ H Q I h;refine aO (hi c s σ H _ I h) λiv z ⟨y,q,v,t,m⟩=>aO (ho c z σ q _ v m) λu C u=>?_;obtain⟨x,n,d,p,a,D,w,g,f⟩:=u;subst w;obtain rfl:=p;obtain⟨B,k,b,e,l,rfl,j,rfl⟩:=g;obtain rfl:=t;exact OQ hu d e l j λs3 r=>⟨.bl _,n,r,rfl,f⟩
theorem NH(hu:X.A.units+64 < C9)(ho:PE X o td)(hi:PE X i ty)(hv:PE X value tv)(hs:Ci value (ae (.Subscript o i pos')) pos.line X.env=pure ai):
  PS X (.Assign [.Subscript o i pos'] value pos) (uK X.K td ty tv):=by
 intro c s σ H D I h;refine wpAny_Assign_Subscript (aO (hv c s σ H _ I h) λr J ⟨v,z,E,w,p⟩=>aO (ho c J σ z _ E p) λu F ⟨x,q,d,t,f⟩=>aO (hi c F σ q _ d f) λiv O u=>?_) hs;obtain⟨y,N,B,C,a,P,G,g,L⟩:=u;subst G;obtain rfl:=t;obtain⟨M,k,b,e,n,rfl,j,l,rfl⟩:=g;obtain rfl:=C;exact JA hu B e n j l w λs4 m=>⟨σ,_,m,L⟩
end
end L2
namespace DL
open PySem L2 Nb
def aW(m:List (TK×Ad))(k:TK):Option Ad:=(m.find? λq=>decide (q.1=k)).map (·.2)
def fi(m:List (TK×Ad))(k:TK)(d:Ad):List (TK×Ad):=if (aW m k).isSome=ah then m.map (λq=>if q.1=k then(q.1,d)else q)else m++[(k,d)]
section
variable{H:Hp}{B:z_->Prop}{l:List (TK×z_×V)}{m:List (TK×Ad)}
theorem RdY.len(h:RdY H B l m):l.length=m.length:=Dk h
theorem RdY.keys{K:Ag}(h:RdY H B l m):gO K H l:=by
 induction h with
 |nil=>exact λp c=>nomatch c
 |@cons p q f e d t b=>
  intro x a;rcases Au.mp a with rfl|a
  ·exact d.2.1.rd
  ·exact b x a
theorem RdY.val(h:RdY H B l m)(k:TK):(cq l k=af/\aW m k=af)\/∃v d,cq l k=ae v/\aW m k=ae d/\RdX H B v d:=by
 induction h with
 |nil=>exact .inl ⟨rfl,rfl⟩
 |@cons p q c f b t j=>
  by_cases e:p.1=k
  ·have a:=b.1.symm.trans e;exact .inr ⟨_,q.2,by simp[cq,e],by simp[aW,a],b.2.2⟩
  ·have a:¬q.1=k:=λz=>e (b.1.trans z);have g:cq (p::c) k=cq c k:=by simp[cq,e]
   have i:aW (q::f) k=aW f k:=by simp[aW,a]
   rw[g,i];omega
theorem RdY.isSome(h:RdY H B l m)(k:TK):(cq l k).isSome=(aW m k).isSome:=by
 rcases h.val k with⟨b,a⟩|⟨v,d,b,a,_⟩<;>rw[b,a]<;>rfl
theorem RdY.put{v:V}{d:Ad}{b:z_}{k:TK}(h:RdY H B l m)(rb:RdX H B (.ref b) k.1)(r:RdX H B v d):RdY H B (dq l k b v) (fi m k d):=by
 have e:=h.isSome k;have g:RdY H B (l.map λp=>if p.1=k then(p.1,p.2.1,v)else p) (m.map λq=>if q.1=k then(q.1,d)else q):=by
  clear e
  induction h with
  |nil=>exact .nil
  |@cons p q i j a t f=>
   rw[Bo,Bo];refine .cons ?_ f;by_cases e:p.1=k
   ·rw[a' e,a' (a.1.symm.trans e)];exact⟨a.1,a.2.1,r⟩
   ·rw[a_ e,a_ λz=>e (a.1.trans z)];omega
 unfold dq fi;rw[e];by_cases z:(aW m k).isSome=ah
 ·rw[a' z,a' z];omega
 ·rw[a_ z,a_ z];exact Paired.snoc h ⟨rfl,rb,r⟩
end
section
variable{X:Cx}{a b c e o i f:Expr}{ta tb te td ty tx:TE}{wa wb we wd' wy wx:DT}{pos p:Pos}{K:Ag}
def b5(i:Nat):DT:=λδ n Q=>match δ[i]? with
 |some (ae (.odx kvs))=>Q (.dx kvs) n
 |some (ae (.w (.ob (.x kvs))))=>Q (.dx kvs) n
 |some (ae (.w x))=>Q x n
 |_=>False
theorem sQ(i:Nat){x:Str}{p:Pos}(hN:X.N[i]?=ae x:=by rfl)(hv:ej X.env.scope x:=by first|exact Ce rfl|exact Bz (Ce rfl)|exact Bz (Bz rfl))(hd:(x==("__debug__":Str))=ai:=by decide)
  (q_:(x==("__classdict__":Str))=ai:=by decide):DE X (.Name x p) (aM i) (b5 i):=⟨fm hN hv hd q_,λC H B σ δ n Q o R h k=>by
 unfold b5 at h
 split at h
 ·rename_i b e;obtain⟨v,c,a,l,rfl,f,g,m,q,d⟩:=R.sl i _ e;exact⟨_,c,k _ (.dx b) H n R (Kp.refl _ _) ⟨a,l,rfl,f,λz=>R.t0 (z▸m),d⟩ h⟩
 ·rename_i b e;obtain⟨v,c,⟨a,l,rfl,f,g,d⟩,_⟩:=R.sl i _ e;exact⟨_,c,k _ (.dx b) H n R (Kp.refl _ _) ⟨a,l,rfl,f,λz=>g (z▸R.bt),d⟩ h⟩
 ·rename_i x _ e;obtain⟨v,c,j⟩:=R.sl i _ e;exact⟨v,c,k v x H n R (Kp.refl _ _) j.1 h⟩
 ·exact h.elim⟩
def nv(d:Ad)(k:TK):Prop:=d=k.1/\∃ds,d=.tuple ds
theorem oG{H:Hp}{B:z_->Prop}{u:V}{d:Ad}{k:TK}(r:RdX H B u d)(h:nv d k):∃b,u=.ref b/\RdX H B (.ref b) k.1:=by
 obtain⟨rfl,j,e⟩:=h;rw[e]at r;cases r with
 |tup i a f g=>exact⟨_,rfl,by rw[e];exact .tup i a f g⟩
def gK(x:Wv)(kvs:List (TK×Ad)):Prop:=x=.dx kvs\/x=.ob (.y kvs)
theorem WRel.rdX{H:Hp}{B:z_->Prop}{t:z_}{v:V}{x:Wv}{kvs:List (TK×Ad)}(ht:B t)(h:gK x kvs)(r:WRel H B t v x):∃a l,v=.ref a/\Rd H a (.dX l)/\a≠t/\RdY H B l kvs:=by
 rcases h with rfl|rfl
 ·obtain⟨a,l,e,b,d,c⟩:=r;exact⟨a,l,e,.inl b,d,c⟩
 ·obtain⟨a,o,l,e,b,d,c⟩:=(show ORel H B v (.y kvs)from r);exact⟨a,l,e,.inr ⟨o,b⟩,λz=>d (z▸ht),c⟩
def iB:Wv->Wv->Int->DQ->Prop:=λx y n Q=>∃kvs d k v,gK x kvs/\y=.d d/\nv d k/\aW kvs k=ae v/\Q (.d v) n
theorem Ot(hu:X.A.units+64 < C9)(ho:DE X o td wd')(hi:DE X i ty wy)(hK:X.K=K:=by rfl)(hs:h9 i:=by exact λ_ _=>rfl):DE X (.Subscript o i pos) (vW K td ty) (w2 wd' wy iB):=by
 subst hK;exact⟨MG hu ho.pe hi.pe hs,λC H B σ δ n Q U R h k=>
 ho.sd C H B σ δ n _ _ R h λv x I J j S M D=>hi.sd C I B σ δ J _ _ j D λu y F G m g N s=>by
  obtain⟨t,d,c,w,L,rfl,z,e,q⟩:=s;obtain⟨a,l,rfl,P,V,p⟩:=WRel.rdX m.bt L (M.kp g j.bt);obtain⟨b,rfl,O⟩:=oG (N) z;rcases p.val c with⟨r,f⟩|⟨v,T,r,f,E⟩
  ·rw[f]at e;cases e
  ·rw[f]at e;cases e;exact⟨a,v,rfl,⟨l,c,b,P,p.keys,rfl,O.rd,r.symm⟩,k v (.d _) F G m (S.trans g) E q⟩⟩
def fo(neg:Bool):Wv->Wv->Int->DQ->Prop:=λy x n Q=>∃kvs d k,gK x kvs/\y=.d d/\nv d k/\Q (.d (.bool (if neg then !(aW kvs k).isSome else(aW kvs k).isSome))) n
theorem S8(hi:DE X i ty wy)(ho:DE X o td wd'):dG (qS K ty td) (w2 wy wd' (fo ah)):=λC H B σ δ n Q L R h k=>
 hi.sd C H B σ δ n _ _ R h λv x z A f J E s=>ho.sd C z B σ δ A _ _ f s λu y t w g e F m=>by
  obtain⟨p,d,c,D,rfl,r,q⟩:=m;obtain⟨a,l,rfl,I,M,j⟩:=WRel.rdX g.bt D F;obtain⟨b,rfl,G⟩:=oG ((E.kp e f.bt)) r;refine⟨a,_,rfl,⟨l,c,b,I,j.keys,rfl,G.rd,rfl⟩,k _ _ t w g (J.trans e) (wd (.bl _)) ?_⟩;rw[j.isSome c];exact q
theorem zh(hu:X.A.units+64 < C9)(hi:DE X i ty wy)(ho:DE X o td wd')(hK:X.K=K:=by rfl)(hm:Cg .NotIn o=ai:=by with_unfolding_all rfl):DC X (.Compare i [.NotIn] [o] pos) (gy (qS K ty td)) (cT (w2 wy wd' (fo ah))):=by
 subst hK;exact⟨BM (RK hu hi.pe ho.pe) hm,kI (S8 hi ho)⟩
def rC(i:Nat):aH:=λδ n K=>K.nx (δ.set i (ae (.odx []))) n
theorem Mw{i:Nat}{x:Str}{pos':Pos}(hN:X.N.Nodup)(hi:X.N[i]?=ae x)(hx:eZ X.env.scope x)(hs:Ci (.Dict [] [] p) (ae (.Name x pos')) pos.line X.env=pure ai:=by rfl)(hf:X.fn x=ah\/X.env.scope.names.lookup x=ae .local:=by first|exact .inl rfl|exact .inr rfl|assumption):
  DS X (.Assign [.Name x pos'] (.Dict [] [] p) pos) (bz xN (df i)) (rC i):=⟨fC hN hi hx O9 hs hf,λC H B σ δ n K D R q E=>λa b=>by
  refine E.nx _ _ _ _ _ (R.own (R.new b) (Kp.new b) b (by rw[bj];simp) rfl ?_) q;exact⟨a,[],rfl,bj,.inr rfl,R.h0 b,Az _,.nil⟩⟩
def jZ(i:Nat)(wy wv:DT):aH:=λδ n K=>wv δ n λv n1=>∃kvs,δ[i]?=ae (ae (.odx kvs))/\wy δ n1 λy n2=>∃k d e,v=.d d/\y=.d e/\nv e k/\kvs.length < 1000/\K.nx (δ.set i (ae (.odx (fi kvs k d)))) n2
theorem CZ{i:Nat}{x:Str}{xp sp:Pos}{j e:Expr}{tj te:TE}{wj we:DT}(hu:X.A.units+64 < C9)(hN:X.N[i]?=ae x)(hj:DE X j tj wj)(he:DE X e te we)(hK:X.K=K:=by rfl)(hv:ej X.env.scope x:=by first|exact Ce rfl|exact Bz (Ce rfl)|exact Bz (Bz rfl))(hd:(x==("__debug__":Str))=ai:=by decide)
  (q_:(x==("__classdict__":Str))=ai:=by decide) (hs:Ci e (ae (.Subscript (.Name x xp) j sp)) pos.line X.env=pure ai:=by rfl):
  DS X (.Assign [.Subscript (.Name x xp) j sp] e pos) (uK K (aM i) tj te) (jZ i wj we):=by
 subst hK;exact⟨NH hu (fm hN hv hd q_) hj.pe he.pe hs,λC H B σ δ n K D R q E=>
  he.sd C H B σ δ n _ _ R q λu y P Q g k1 U m=>by
   obtain⟨L,F,m⟩:=m;obtain⟨v,hv,a,l,rfl,S,p,r,Y,O⟩:=g.sl i _ F;refine⟨_,hv,hj.sd C P B σ δ Q _ _ g m λw z W Z T h V k=>?_⟩;obtain⟨f,d,ek,rfl,rfl,M,I,k⟩:=k;have s:a≠C.t:=λz=>R.t0 (z▸r);have c:=O.move λb o e n=>⟨h b o e λz=>n (z▸g.bt),n⟩;have J:l.length < 1000:=by rw[c.len];omega
   obtain⟨b,rfl,G⟩:=oG (V) M;refine⟨a,_,rfl,⟨l,f,b,(h _ _ S s),c.keys,rfl,G.rd,Bi J (fc (Ao _)),rfl⟩,E.nx _ _ _ _ _ (T.mutOwn F rfl hv p r ?_ rfl) k⟩;refine⟨a,_,rfl,bj,p,r,?_,?_⟩
   ·have:=vo l f b u;omega
   ·exact(c.put G (RdX.kp h g.bt U)).move λb o e n=>⟨by rw[aL λ(z:b=a)=>n (z▸p)];exact e,n⟩⟩
end
end DL
namespace L2
open PySem PySem.Spec PyProof.Rows PySem.W
def ya(K:Ag):List V->Hp->VK->Prop:=λxs H Q=>∃a ps,xs=[.ref a]/\Rd H a (.dX ps)/\gO K H ps/\∀l,H l=af->Q (.ref l) (upd H l (.lst (ps.map λp=>V.ref p.2.1)))
theorem EC{ps:List XP}{xs:List (TK×z_×Af)}(r:KX ps xs):Vals (ps.map λp=>V.ref p.2.1) (xs.map λx=>Cf x.2.1):=by
 induction r with
 |nil=>exact .nil
 |@cons p q ps b h t a=>exact .cons (show RelV (V.ref p.2.1) _ by rw[h.2.1];rfl) a
theorem JQ{X:Cx}(hh:X.A.handled=af):CallR X (.type "list") (ya X.K):=by
 intro p s σ H R O Q I r h;obtain⟨a,v,rfl,J,M,q⟩:=h;obtain⟨u,rfl,F⟩:=fA r;cases(F);obtain⟨z,y,G,d,o,n,P,D,t,B,m,L⟩:=(show ObjOk X.prog X.w H s.heap a (.dX v)from J.ok I.hok);have E:=by
  have:=congrArg Dn m;rw[Ab,B6]at this;omega
 have l:=(Dk d).symm;refine kdl_call (S2 y) hh (⟨o,D,t,B⟩) (by simp_all) λh' N b c i k f=>?_;have e:b=(G.map λx=>Cf x.2.1).toArray:=by
  apply Gc.mp;apply List.ext_getElem?;intro j;by_cases C:j < n.size
  ·have g:j < b.toList.length:=by rw[B6,f.1];exact C
   have this:(n[j]?).map _=ae (b.toList[j]):=f.2 j _ (by simp);rw[<-D1,m,Am,Option.map_map]at this;rw[Ah g,<-this,Am];rfl
  ·rw[Cr (by rw[B6,f.1];omega),Cr (by simp;omega)]
 rw[e]at k;refine⟨.ref s.heap.objs.size,_,I.laid (o:=.lst _) i (Ao _) ⟨by rw[Ab];exact z,_,c,EC d,k⟩,rfl,q _ (I.hok.fresh (Ao _))⟩
def wV(a:z_)(o:Obj)(l:List XP):It:=
 ⟨λi H=>H a=ae (.frz o (.dX l))/\i < l.length,λi H x H'=>H'=H/\∃p,l[i]?=ae p/\x=.ref p.2.1,λi H=>H a=ae (.frz o (.dX l))/\l.length<=i⟩
theorem rQ{P:Bb}{w:Bj}{H:Hp}{h:Heap}{a:z_}{o:Obj}{l:List XP}{es:Array Gp}{ep:Nat}(hd:o.data=.dict es ep)(ok:ObjOk P w H h a (.frz o (.dX l))):(a==Dd)=ai/\DEs h a es ep/\es.size=l.length/\∀i p,l[i]?=ae p->(es.getD i ⟨0,.none,.none⟩).key=.ref p.2.1:=by
 obtain⟨g,z,A,m,b,E,C,x,k,s,d,f,D⟩:=ok;rw[g]at k;cases k;rw[hd]at d;cases d;have t:=by
  have:=congrArg Dn f;rw[Ab,B6]at this;omega
 refine⟨A,⟨o,g,s,hd⟩,t.trans (Dk b).symm,λi p e=>?_⟩;have v:i < m.length:=by rw[<-Dk b];exact(Aq.mp e).1
 obtain⟨q,n⟩:∃q,m[i]?=ae q:=⟨_,Ah v⟩;have j:es[i]?=ae (entryOfKey (mT P w) q):=by rw[<-D1,f,Am,n];rfl
 have y:p.2.1=q.2.1:=by
  have:=EC b;obtain⟨u,r,B⟩:=this.get (by rw[Am,e];rfl);rw[Am,n]at r;cases r;exact(Value.ref.inj (B)).symm
 have c:i < es.size:=by simp_all
 rw[show es.getD i _=es[i] by simp[c]];rw[Ca c]at j;rw[Bq j,y];rfl
theorem L1{P:Bb}{w:Bj}{K:Ag}{tg:Expr}{a it:z_}{o:Obj}{l:List XP}{es:Array Gp}{ep:Nat}(hd:o.data=.dict es ep):Turn P w K tg (wV a o l) [it] it (λi h=>h.IsKeyIter it a i es.size ep) where
 mem:=by simp
 obj:=λi h f b j=>by
  have e:b=it:=by simp_all
  subst e;obtain⟨o,e,c,d⟩:=f;exact⟨o,e,λv z=>by simp_all⟩
 keep:=λi h L f k=>f.at λo e=>k it (by simp) o e
 item:=by
  intro X O S T J i g s σ H E I n f r;obtain⟨B,D⟩:=r;obtain⟨_,q,M,C⟩:=rQ hd (I.hok a _ B);obtain⟨p,F⟩:∃p,l[i]?=ae p:=⟨_,Ah D⟩;obtain⟨u,x,Q,t,A,y⟩:=n it (by simp);refine qw f q (λ_ L m U=>?_) λz=>f_ z ⋯;rw[C i p F];have R:Inv X g σ H {s with heap:=L}:=I.turned (λb o j e=>(U.2 b j).trans e) u x t A y;obtain⟨Y,e,c,d⟩:=id m;exact⟨_,rfl,qX e c d ∎ ⟨.ref p.2.1,H,R,rfl,⟨rfl,p,F,rfl⟩,m,λb j=>(n b j).1⟩⟩
 done:=by
  intro X O S T J i g s σ H E I n f r;obtain⟨B,D⟩:=r;obtain⟨_,q,M,C⟩:=rQ hd (I.hok a _ B);obtain⟨u,x,Q,t,A,y⟩:=n it (by simp);exact qw f q (λz=>f_ z ⋯) λ_=>⟨I.ok.hd J,λh' N=>⟨rfl,I.turned (λb o j e=>N b o j e) u x t A y⟩⟩
 self:=λ_ _ _ _ _ f h=>wpAny_pyIter_keyiter f h
def wI(tl:TE):TI:=λσ H R=>tl σ H λx H1=>∃a o l,x=.ref a/\H1 a=ae (.frz o (.dX l))/\R (wV a o l) H1
theorem Kh{X:Cx}{tg l:Expr}{tl:TE}(hl:PE X l tl):PI X tg l (wI tl):=by
 intro c s σ H R I h;refine aO (hl c s σ H _ I h) λv w v=>?_;obtain⟨x,r,d,t,m⟩:=v;obtain⟨a,o,B,e,p,q⟩:=m;subst e;cases t;have j:=d.hok a _ p;obtain⟨g,z,u,G,n,E,D,F,i,y,f,C,A⟩:=id j;rw[g]at i;cases i;obtain⟨_,k,_,_⟩:=rQ f j;refine wg u k ⟨_,_,_,_,r,rfl,d.kept λb o e=>Ae _ e,L1 f,⟨_,Av _ rfl,rfl,rfl⟩,λb J=>?_,q⟩;have e:b=w.heap.objs.size:=by simp_all
 subst e;exact d.fpOk (Ao _) (d.hok.fresh (Ao _))
theorem Inv.freezeX{X:Cx}{h_:List (z_×Obj)}{σ:St}{H:Hp}{s:Aj}{a:z_}{l:List XP}(I:Inv X h_ σ H s)(e:H a=ae (.dX l)):∃o,Inv X h_ σ (upd H a (.frz o (.dX l))) s:=by
 obtain⟨z,k,h,b,o,f,m,c,d,i,j,g⟩:=I.hok a _ e;exact⟨o,lz I (by rw[e];trivial) ⟨rfl,λ_ _=>rfl⟩ ⟨o,c⟩ ⟨c,z,k,h,b,o,f,m,c,d,i,j,g⟩⟩
def j6(T:TS):TS:=λD σ H=>∃a l,H a=ae (.dX l)/\∀o,T D σ (upd H a (.frz o (.dX l)))
theorem v5{X:Cx}{b:List Stmt}{T:TS}(h:PSs X b T):PSs X b (j6 T):=λh_ s σ H D I q=>by
 obtain⟨a,l,e,q⟩:=q;obtain⟨o,d⟩:=I.freezeX e;exact h h_ s σ _ D d (q o)
end L2
namespace DL
open PySem L2 Nb
theorem Rel.fzX{C:Ctx}{H:Hp}{B:z_->Prop}{σ:St}{δ:Sl}{n:Int}{i:Nat}{m:List (TK×Ad)}(R:Rel C H B σ δ n)(hi:δ[i]?=ae (ae (.odx m))):
  ∃a l,σ[i]?=ae (ae (.ref a))/\H a=ae (.dX l)/\B a/\C.H0 a=af/\a≠C.t/\∀o,Rel C (upd H a (.frz o (.dX l))) (λb=>B b/\b≠a) σ (δ.set i (ae (.w (.ob (.y m))))) n:=by
 obtain⟨v,S,a,l,rfl,N,U,M,e5,e6⟩:=R.sl i _ hi;have W:a≠C.t:=λz=>R.t0 (z▸M);refine⟨a,l,S,N,U,M,W,λo=>?_⟩;have R1:Rel C H B σ (δ.set i af) n:={
  tp:=R.tp,kp:=R.kp,t0:=R.t0,l0:=R.l0,g0:=R.g0,fz:=R.fz,bt:=R.bt,b0:=R.b0,ba:=R.ba,a0:=R.a0
  sl:=λj y e=>by
   by_cases z:i=j
   ·subst z;rw[Cs]at e;simp_all
   ·rw[Bf z]at e;exact R.sl j y e
  ow:=λj k y z u X N O Q p h=>by
   have g:∀{m:Nat}{w:SV},(δ.set i af)[m]?=ae (ae w)->δ[m]?=ae (ae w):=λ{m w} e=>by
    by_cases q:i=m
    ·subst q;rw[Cs,hi]at e;cases e
    ·rwa [Bf q]at e
   exact R.ow j k y z u (g X) (g N) O Q p h
  len:=by rw[B5];exact R.len}
 have r:Rel C (upd H a (.frz o (.dX l))) B σ _ n:=R1.mut U M λj y e oy f=>by
  by_cases z:i=j
  ·subst z;rw[Cs,hi]at e;cases e
  ·rw[Bf z]at e;exact z (R.ow i j _ y _ hi e rfl oy S f)
 have s:∀b,(B b/\b≠a)->B b:=λb z=>z.1;exact{
  tp:=r.tp,kp:=r.kp,t0:=r.t0,l0:=r.l0,g0:=r.g0
  fz:=λb o e=>⟨(r.fz b o e).1,λz=>(r.fz b o e).2 z.1⟩
  bt:=⟨R.bt,λz=>R.t0 (z▸M)⟩
  b0:=λb z=>⟨R.b0 b z,λq=>R.a0 b z (q▸M)⟩
  ba:=λb z=>r.ba b z.1
  a0:=R.a0
  sl:=λj Y e=>by
   rcases e9 e with⟨rfl,rfl⟩|⟨L,P⟩
   ·refine⟨_,S,⟨a,o,l,rfl,bj,λz=>z.2 rfl,e6.move λb ob e n=>⟨?_,λz=>n z.1⟩⟩,λz=>by cases z⟩;rw[aL λ(z:b=a)=>n (z▸U)];exact e
   ·obtain⟨u,p,h⟩:=r.sl j Y (by rw[Bf λz=>L z.symm];omega);refine⟨u,p,?_⟩;cases Y with
    |w y=>exact⟨h.1.less s,h.2⟩
    |own x=>
     obtain⟨D,d,G,I,F,E,J,A⟩:=h;exact⟨D,d,G,I,⟨F,λz=>L (R.ow j i _ _ _ P hi rfl rfl p (by simp_all))⟩,E,J,A.less s⟩
    |odk x=>
     obtain⟨D,d,G,I,F,E,J,A⟩:=h;exact⟨D,d,G,I,⟨F,λz=>L (R.ow j i _ _ _ P hi rfl rfl p (by simp_all))⟩,E,J,A.move λb o e n=>⟨e,λz=>n z.1⟩⟩
    |odt x=>
     obtain⟨D,d,G,I,F,E,J,A⟩:=h;exact⟨D,d,G,I,⟨F,λz=>L (R.ow j i _ _ _ P hi rfl rfl p (by simp_all))⟩,E,J,A.move λb o e n=>⟨e,λz=>n z.1⟩⟩
    |odx x=>
     obtain⟨D,d,G,I,F,E,J,A⟩:=h;exact⟨D,d,G,I,⟨F,λz=>L (R.ow j i _ _ _ P hi rfl rfl p (by simp_all))⟩,E,J,A.move λb o e n=>⟨e,λz=>n z.1⟩⟩
  ow:=λj k y z u X N O Q p h=>by
   rcases e9 X with⟨rfl,rfl⟩|⟨ne1,T⟩
   ·cases O
   ·rcases e9 N with⟨rfl,rfl⟩|⟨ne2,V⟩
    ·cases Q
    ·exact R.ow j k y z u T V O Q p h
  len:=by rw[B5];exact R.len}
theorem RdY.at{H:Hp}{B:z_->Prop}{l:List (TK×z_×V)}{m:List (TK×Ad)}(h:RdY H B l m):∀{j:Nat}{p:TK×z_×V},l[j]?=ae p->∃q,m[j]?=ae q/\p.1=q.1/\RdX H B (.ref p.2.1) p.1.1/\RdX H B p.2.2 q.2:=by
 induction h with
 |nil=>intro j p e;cases e
 |@cons a b f d r t c=>
  intro j p e;cases j with
  |zero=>cases e;exact⟨b,rfl,r⟩
  |succ j=>exact c e
section
variable{X:Cx}{a b c e o i f tg:Expr}{ta tb te td ty tx:TE}{wa wb we wd' wy wx:DT}{pos p:Pos}{K:Ag}
def gq(i:Nat)(W:aH):aH:=λδ n K=>match δ[i]? with
 |some (ae (.odx m))=>W (δ.set i (ae (.w (.ob (.y m))))) n K
 |_=>False
theorem JF(i:Nat){l:List Stmt}{T:TS}{W:aH}(h:DSs X l T W):DSs X l (j6 T) (gq i W):=⟨v5 h.ps,λC H B σ δ n K D R q E=>by
 unfold gq at q
 split at q
 ·rename_i m e;obtain⟨a,l,f,c,j,g,d,b⟩:=R.fzX e;exact⟨a,l,c,λo=>h.sd C _ _ σ _ n K D (b o) q E⟩
 ·exact q.elim⟩
def ib(w:DT):fW:=λδ n Q=>w δ n λx n1=>∃kvs:List (TK×Ad),x=.ob (.y kvs)/\kvs.length<=1000/\Q (kvs.map λp=>p.1.1) n1
theorem Qz(ha:DE X a ta wa):DI X tg a (wI ta) (ib wa):=⟨Kh ha.pe,λC H B σ δ n Q U R q k=>ha.sd C H B σ δ n _ _ R q λv x t K I S N F=>by
 obtain⟨i,rfl,A,D⟩:=F;obtain⟨a,o,l,rfl,w,P,u⟩:=(show ORel t B v (.y i)from N);have f:=u.len;refine⟨a,o,l,rfl,w,k _ _ t K I S (λfz m=>?_) D⟩;have g:=m.2 _ _ w P;refine⟨by rw[Ab];exact fc A,λj H h E=>?_,λH h=>?_,λj H x T d h c O=>?_⟩
 ·rw[Ab]at E;exact⟨h _ _ g,by simp_all⟩
 ·exact⟨h _ _ g,by rw[f];simp⟩
 ·obtain⟨rfl,p,L,rfl⟩:=O;refine⟨λ_ _ z=>z,λB' G M=>?_⟩;rw[Am]at c;obtain⟨q,J,r⟩:=RdY.at u L;rw[J]at c;cases c;exact(r.1▸r.2.1).move λb V e s=>⟨h _ _ (m.2 _ _ e s),G _ _ (m.2 _ _ e s)⟩⟩
end
end DL
namespace L2
open PySem PySem.Spec PyProof.Rows PySem.W
section
variable{prog:Bb}{w:Bj}{A:Bt}{E:Af->Aj->Prop}{s:Aj}{d:z_}{es:Array Gp}{ep:Nat}
theorem RG(hd:(d==Dd)=ai):MeetsIn prog w (Ep.«dict.__len__» ⟨[.ref d],[]⟩) (λ_ R s=>DEs s.heap d es ep/\R (.ok (.ret (.int es.size s.toks))) {s with toks:=s.toks+1}):=
 .of_wp λA R s u=>by
  obtain⟨x,h⟩:=u;obtain⟨o,a,c,b⟩:=x;refine(show A6 _ _ (dictSize d>>=_) _ _ s from(Aa (Aa (wpAny_dictEntries a b (Ai (Aa (wpAny_pendingCount_other hd (wpAny_ret_mkInt ?_))))))));exact h
theorem N9{Q:Af->Aj->Prop}(hd:(d==Dd)=ai)(x:DEs s.heap d es ep)(hf:(es.size:Int) < 2 ^ 63)(h:Q (.int es.size (s.toks+1)) {s with toks:=s.toks+1+1}):A6 (A9 prog w) A (call (.builtin "len") [.ref d]) Q E s:=by
 refine Calls.call_function_entry kind_len plain_len entry_len (args_len1 _) (Aa (Ai (Aa (Bp x.ty F.slot_dict_len (call_meetsIn F.slot_dict_len x.ty F.entry_dict_len (F.args_dict_len_1 _) (RG hd) ⟨x,?_⟩)))));refine(show A6 _ _ _ _ _ {s with toks:=s.toks+1}from Aa (B7 (Ai (Aa (wpAny_letGo (?_))))));rw[a_ ⋯];refine(?_);rw[a_ ⋯];exact Aa (wpAny_mkInt (Ai ⟨_,rfl,h⟩))
end
theorem zJ{X:Cx}:CallR X (.builtin "len") (λxs H Q=>∃a ps,xs=[V.ref a]/\Rd H a (.dX ps)/\Q (.int ps.length) H):=by
 intro e s σ H xs p Q I r h;obtain⟨a,ps,rfl,l,q⟩:=h;obtain⟨u,rfl,k⟩:=fA r;cases(k);obtain⟨z,y,x,c,o,n,t,j,f,g,i,m⟩:=(show ObjOk X.prog X.w H s.heap a (.dX ps)from l.ok I.hok);have d:=by
  have:=congrArg Dn i;rw[Ab,B6]at this;exact this.trans (Dk c).symm
 have v:Aw=16777216:=by decide
 refine N9 y ⟨o,j,f,g⟩ ⋯ ?_;rw[d];exact⟨.int ps.length,H,I.tok _,⟨_,rfl⟩,q⟩
end L2
namespace Nb
open PySem L2 DL
structure AfOk(Sa:aJ)(pd:Ad)(N:Nat)(aft:TK->Nat->Option TK)(Gd:TK->Prop):Prop where
 call:∀(k:TK)(m:Nat)(n:Int)(Q:DQ),Gd k->m<=N->Q (.d (match aft k m with|some b=>b.1|none=>.none)) n->Sa [.d pd,.d k.1,.d (.int (m:Nat))] n Q
 good:∀(k:TK)(m:Nat)(b:TK),Gd k->m<=N->aft k m=ae b->Gd b
 tup:∀k:TK,Gd k->∃ds,k.1=.tuple ds
 prog:∃ps:List Ad,pd=.tuple ps/\ps.length=N
abbrev Fm:=List (TK×Ad)×List TK
def stp(aft:TK->Nat->Option TK)(s:TK)(p:Fm)(m:Nat):Fm:=match aft s m with
 |none=>p
 |some b=>if (aW p.1 b).isSome=ah then p else(p.1++[(b,.tuple [s.1,.int (m:Nat)])],p.2++[b])
def stpM(aft:TK->Nat->Option TK)(N:Nat)(p:Fm)(s:TK):Fm:=(A8 (N+1)).foldl (stp aft s) p
def cE(aft:TK->Nat->Option TK)(N:Nat)(p:Fm)(ss:List TK):Fm:=ss.foldl (stpM aft N) p
abbrev SI:R2:=λx y H Q=>y=.non/\Q (.bl (!decide (x=.non))) H
abbrev vV:List V->Hp->VK->Prop:=λxs H Q=>∃a ps,xs=[V.ref a]/\Rd H a (.dX ps)/\Q (.int ps.length) H
abbrev IU(K:Ag)(tm:TE)(rE:R2):TS:=eU (gP (gy (dt rE (fk vV (bJ (aM 1) bf)) tm)) (λ_ _ _=>False) nh) (eU (uK K (aM 1) (aM 6) (la (bJ (aM 4) (bJ (aM 5) bf)))) (oM (qM K "list" uH (aM 3) (bJ (aM 6) bf))))
abbrev se(K:Ag)(Sa:aJ)(tm:TE)(rE:R2):TS:=eU (bz (eL (dy Sa) [] E0 (bJ (aM 0) (bJ (aM 4) (bJ (aM 5) bf)))) (df 6)) (gP (jY (gy (dt SI (aM 6) (tC .non))) (gy (qS K (aM 6) (aM 1)))) (IU K tm rE) nh)
abbrev mM(K:Ag)(Sa:aJ)(tm:TE)(rE:R2)(tr:TE):TS:=eU (bz (i4 bf) (df 3)) (eU (g6 (oQ K (aM 2)) (df 4) (g6 (pJ (bJ tr bf)) (df 5) (se K Sa tm rE))) (fM (aM 3)))
def KpD(t a:z_)(H H':Hp):Prop:=∀b o,H b=ae o->b≠t->b≠a->H' b=ae o
section
variable{t a b:z_}{H H1 H2 H3:Hp}
theorem KpD.refl:KpD t a H H:=λ_ _ e _ _=>e
theorem KpD.kp(k:KpD t a H1 H2)(k2:Kp t H2 H3):KpD t a H1 H3:=λb o e c d=>k2 b o (k b o e c d) c
theorem KpD.new{o:HO}(k:KpD t a H1 H2)(h:H2 b=af):KpD t a H1 (upd H2 b o):=k.kp (Kp.new h)
theorem KpD.put{o:HO}(k:KpD t a H1 H2):KpD t a H1 (upd H2 a o):=λc d e f b=>by rw[aL b];exact k c d e f b
theorem KpD.app{o:HO}(k:KpD t a H1 H2)(hb:H1 b=af):KpD t a H1 (upd H2 b o):=λc f e g d=>by rw[aL (bH e hb)];exact k c f e g d
end
structure FuI(H0:Hp)(t:z_)(l:TL)(ns:List Int)(n:Int)(B:z_->Prop)(a b:z_)(p:Fm)(H:Hp):Prop where
 tp:Tp H t l ns n
 kp:KpD t a H0 H
 nb:H0 b=af
 fr:∃xs,H b=ae (.lst xs)/\RdXs H (λc=>B c\/c=b) xs (p.2.map (·.1))
 st:∃l',H a=ae (.dX l')/\RdY H (λc=>B c\/c=b) l' p.1
section
variable{H0 H H':Hp}{t:z_}{l:TL}{ns:List Int}{n:Int}{B:z_->Prop}{a b:z_}{p:Fm}
theorem FuI.out(I:FuI H0 t l ns n B a b p H)(ht:B t)(ha:a≠t)(hb:b≠t)(T:Tp H' t l ns n)(k:Kp t H H'):FuI H0 t l ns n B a b p H':=by
 obtain⟨g,j,i⟩:=I.fr;obtain⟨q,h,m⟩:=I.st;have d:∀c o,H c=ae o->¬(B c\/c=b)->H' c=ae o/\¬(B c\/c=b):=λc o e f=>⟨k c o e λz=>f (.inl (z▸ht)),f⟩;exact⟨T,I.kp.kp k,I.nb,⟨g,k _ _ j hb,i.move d⟩,q,k _ _ h ha,m.move d⟩
end
structure FuC(H0:Hp)(t:z_)(l:TL)(B:z_->Prop)(a:z_):Prop where
 bt:B t
 ba:B a
 ex:∀c,B c->H0 c≠af
 at':a≠t
 l0:H0 l.s≠af
 g0:lC=ah->H0 l.g≠af
section
variable{K:Ag}{Sa:aJ}{pd:Ad}{N:Nat}{aft:TK->Nat->Option TK}{Gd:TK->Prop}{tm:TE}{rE:R2}{H0 H:Hp}{t:z_}{l:TL}{ns:List Int}{n:Int}{B:z_->Prop}{a b:z_}{p:Fm}
theorem FuI.up{v:V}{d:Ad}(C:FuC H0 t l B a)(I:FuI H0 t l ns n B a b p H)(r:RdX H0 B v d):RdX H (λc=>B c\/c=b) v d:=
 r.move λc o e f=>⟨I.kp c o e (λz=>f (z▸C.bt)) (λz=>f (z▸C.ba)),λz=>z.elim f λq=>by rw[q,I.nb]at e;cases e⟩
theorem Oi(A:AfOk Sa pd N aft Gd)(C:FuC H0 t l B a)(htm:∀(σ:St) (H:Hp) (Q:VK),Q (.int 2000) H->tm σ H Q)(hrE:∀(x y:Int) (H:Hp) (Q:VK),Q (.bl (decide (x=y))) H->rE (.int x) (.int y) H Q)
  {σ:St} {v0 v4:V} {m:Nat} {s:TK} (I:FuI H0 t l ns n B a b p H) (e0:σ[0]?=ae (ae v0)) (e1:σ[1]?=ae (ae (.ref a))) (e3:σ[3]?=ae (ae (.ref b))) (e4:σ[4]?=ae (ae v4)) (e5:σ[5]?=ae (ae (.int (m:Nat)))) (e6:6 < σ.length)
  (r0:RdX H0 B v0 pd) (r4:RdX H0 B v4 s.1) (gd:Gd s) (hm:m<=N) (hl:p.1.length < 2000) (hl2:p.2.length < Aw) {D:Ends} (hD:∀v6 H',FuI H0 t l ns n B a b (stp aft s p m) H'->D.nx (σ.set 6 (ae v6)) H'):se K Sa tm rE D σ H:=by
 have P:b≠t:=λz=>C.ex t C.bt (z▸I.nb);have i:a≠b:=λz=>C.ex a C.ba (z▸I.nb);obtain⟨xs0,eb0,_⟩:=I.fr;have hB':∀c,(B c\/c=b)->H c≠af:=λc z=>by
  rcases z with z|rfl
  ·by_cases G:c=t
   ·subst G;obtain⟨_,_,h,_⟩:=I.tp.ob;rw[h];simp
   ·by_cases E:c=a
    ·subst E;obtain⟨_,h,_⟩:=I.st;rw[h];simp
    ·cases e:H0 c with
     |none=>exact(C.ex c z e).elim
     |some o=>rw[I.kp c o e G E];simp
  ·rw[eb0];simp
 refine⟨v0,e0,v4,e4,_,e5,⟨t,l,ns,λc=>B c\/c=b,[.d pd,.d s.1,.d _],n,λw n'=>n'=n/\w=.d _,I.tp,.inl C.bt,hB',.cons (I.up C r0) (.cons (I.up C r4) (.cons (.int _) .nil)),A.call s m n _ gd hm ⟨rfl,rfl⟩,?_⟩⟩
 rintro w n' ⟨rfl,rfl⟩ v u O k1 W
 have R:=I.out C.bt C.at' P O k1;have M:(σ.set 6 (ae v))[6]?=ae (ae v):=by simp[e6]
 have r:∀j,j≠6->(σ.set 6 (ae v))[j]?=σ[j]?:=λj z=>Bf λq=>z q.symm;have hD:=hD v;cases Y:aft s m with
 |none=>
  rw[Y]at W;have ev:v=.non:=by cases(W);rfl
  subst ev;refine⟨_,M,rfl,ai,by simp,?_⟩;dsimp only;refine hD u ?_;unfold stp;simp_all
 |some k=>
  rw[Y]at W;obtain⟨ds,hds⟩:=A.tup k (A.good s m k gd hm Y);obtain⟨q,rfl,X⟩:=oG (W) ⟨rfl,ds,hds⟩;obtain⟨F,e2,S⟩:=R.st;obtain⟨xs,eb,rx⟩:=R.fr;refine⟨_,M,rfl,ah,by simp,?_⟩;dsimp only;refine⟨_,M,_,by rw[r 1 ∎];exact e1,a,_,rfl,⟨F,k,q,.inl e2,S.keys,rfl,X.rd,rfl⟩,_,rfl,?_⟩;rw[S.isSome k];cases hs:(aW p.1 k).isSome with
  |true=>
   refine hD u ?_;unfold stp;simp_all
  |false=>
   refine⟨_,by rw[r 1 ∎];exact e1,a,F,rfl,.inl e2,htm _ _ _ (hrE _ _ _ _ ⟨_,rfl,?_⟩)⟩;have Z:F.length < 2000:=by rw[S.len];omega
   dsimp only;rw[a_ (by simp;omega)];refine⟨v4,by rw[r 4 ∎];exact e4,_,by rw[r 5 ∎];exact e5,(show 2<=Aw by decide),λq' f=>?_⟩;have nq:¬(B q'\/q'=b):=λz=>by
    rcases z with z|rfl
    ·by_cases G:q'=t
     ·subst G;obtain⟨_,_⟩:=O.ob;simp_all
     ·by_cases E:q'=a
      ·subst E;simp_all
      ·cases e:H0 q' with
       |none=>exact C.ex q' z e
       |some o=>rw[R.kp q' o e G E]at f;trivial
    ·rw[eb]at f;trivial
   have qa:a≠q':=λz=>nq (.inl (z▸C.ba));have qb:b≠q':=λz=>nq (.inr z.symm);have T:∀c o,u c=ae o->¬(B c\/c=b)->upd u q' (.tup [v4,.int m]) c=ae o/\¬(B c\/c=b):=λc o e L=>⟨by rw[aL (bH e f)];exact e,L⟩;refine⟨_,by rw[r 1 ∎];exact e1,_,M,a,_,rfl,⟨F,k,q,by rw[aL qa];exact e2,(S.move T).keys,rfl,(X.move T).rd,Nat.lt_trans Z ∎,rfl⟩,⟨.ref b,by rw[r 3 ∎];exact e3,.inl ⟨rfl,xs,SqL.of (by rw[aL i.symm,aL qb];omega)⟩,_,M,b,xs,_,rfl,rfl,by rw[aL i.symm,aL qb];exact eb,by rw[rx.len,Ab];exact hl2,?_⟩⟩;have J:∀c o,u c=ae o->¬(B c\/c=b)->upd (upd (upd u q' (.tup [v4,.int m])) a (.dX (dq F k q (.ref q')))) b (.lst (xs++[.ref q])) c=ae o/\¬(B c\/c=b):=λc o e L=>
    ⟨by rw[aL λz=>L (.inr z),aL λ(z:c=a)=>L (.inl (z▸C.ba)),aL (bH e f)];exact e,L⟩
   refine hD _ ?_;unfold stp;rw[Y];dsimp only;rw[a_ (by rw[hs];decide)];have als:l.s≠a:=λz=>by have:=O.ls;simp_all
   refine⟨((O.new f).other C.at'.symm als λe z=>by have:=O.ag e;simp_all).other P.symm (λz=>C.l0 (z▸I.nb)) (λe z=>C.g0 e (z▸I.nb)),((R.kp.new f).put).app I.nb,I.nb,⟨_,bj,?_⟩,_,by rw[aL i,bj],?_⟩
   ·rw[Bc];exact(rx.move J).append (.cons (X.move J) .nil)
   ·have:=(S.move J).put (X.move J) (.tup (xs:=[v4,.int _]) (by rw[aL qb.symm,aL qa.symm,bj]) nq (show 2<=Aw by decide) (.cons ((R.up C r4).move J) (.cons (.int _) .nil)));unfold fi at this;rw[a_ (by rw[hs];decide)]at this;omega
end
theorem zt(aft:TK->Nat->Option TK)(s:TK)(p:Fm)(m:Nat):p.1.length<=(stp aft s p m).1.length:=by
 unfold stp
 split
 ·exact Ao _
 ·split
  ·exact Ao _
  ·rw[An];simp
theorem xE(aft:TK->Nat->Option TK)(s:TK)(p:Fm)(m:Nat)(h:p.2.length<=p.1.length):(stp aft s p m).2.length<=(stp aft s p m).1.length:=by
 unfold stp
 split
 ·exact h
 ·split
  ·exact h
  ·rw[An,An];exact Nat.succ_le_succ h
theorem pb{α:Type}(f:Fm->α->Fm)(h:∀p x,p.1.length<=(f p x).1.length):∀(l:List α)(p:Fm),p.1.length<=(l.foldl f p).1.length
 |[],_=>Ao _
 |x::l,p=>Ba (h p x) (pb f h l _)
theorem mP{α:Type}(f:Fm->α->Fm)(h:∀p x,p.2.length<=p.1.length->(f p x).2.length<=(f p x).1.length):∀(l:List α)(p:Fm),p.2.length<=p.1.length->(l.foldl f p).2.length<=(l.foldl f p).1.length
 |[],_,q=>q
 |x::l,p,q=>mP f h l _ (h p x q)
theorem Po(aft:TK->Nat->Option TK)(N:Nat)(p:Fm)(s:TK):p.1.length<=(stpM aft N p s).1.length:=pb _ (zt aft s) _ _
theorem xP(aft:TK->Nat->Option TK)(N:Nat)(p:Fm)(s:TK)(h:p.2.length<=p.1.length):(stpM aft N p s).2.length<=(stpM aft N p s).1.length:=mP _ (λp m=>xE aft s p m) _ _ h
structure FuS(v0:V)(a c b:z_)(σ:St):Prop where
 s0:σ[0]?=ae (ae v0)
 s1:σ[1]?=ae (ae (.ref a))
 s2:σ[2]?=ae (ae (.ref c))
 s3:σ[3]?=ae (ae (.ref b))
 ln:6 < σ.length
theorem FuS.set{v0 v:V}{a c b:z_}{σ:St}{j:Nat}(S:FuS v0 a c b σ)(hj:3 < j):FuS v0 a c b (σ.set j (ae v)):=by
 have g:∀i,i<=3->(σ.set j (ae v))[i]?=σ[i]?:=λi h=>Bf ⋯;exact⟨by rw[g 0 ∎];exact S.s0,by rw[g 1 ∎];exact S.s1,by rw[g 2 ∎];exact S.s2,by rw[g 3 ∎];exact S.s3,by rw[B5];exact S.ln⟩
section
variable{K:Ag}{Sa:aJ}{pd:Ad}{N:Nat}{aft:TK->Nat->Option TK}{Gd:TK->Prop}{tm tr:TE}{rE:R2}{H0 H:Hp}{t:z_}{l:TL}{ns:List Int}{n:Int}{B:z_->Prop}{a b c:z_}{p:Fm}{v0:V}
theorem RP(A:AfOk Sa pd N aft Gd)(C:FuC H0 t l B a)(hN:N < 2 ^ 60)(htm:∀(σ:St) (H:Hp) (Q:VK),Q (.int 2000) H->tm σ H Q)(hrE:∀(x y:Int) (H:Hp) (Q:VK),Q (.bl (decide (x=y))) H->rE (.int x) (.int y) H Q)
  (r0:RdX H0 B v0 pd) (htr:∀(σ:St)(H:Hp)(Q:VK)(B:z_->Prop),σ[0]?=ae (ae v0)->RdX H B v0 pd->Q (.int ((N+1:Nat):Int)) H->tr σ H Q)
  {σ:St} {v4:V} {s:TK} (I:FuI H0 t l ns n B a b p H) (S:FuS v0 a c b σ) (e4:σ[4]?=ae (ae v4)) (r4:RdX H0 B v4 s.1) (gd:Gd s) (hs:p.2.length<=p.1.length) (hl:(stpM aft N p s).1.length < 2000) {D:Ends}
  (hD:∀σ' H',FuS v0 a c b σ'->FuI H0 t l ns n B a b (stpM aft N p s) H'->D.nx σ' H'):g6 (pJ (bJ tr bf)) (df 5) (se K Sa tm rE) D σ H:=by
 refine htr σ H _ _ S.s0 (I.up C r0) ⟨_,rfl,by omega,by omega,⟨λi m σ' H'=>m=N+1-i/\i<=N+1/\FuS v0 a c b σ'/\σ'[4]?=ae _/\FuI H0 t l ns n B a b ((A8 i).foldl (stp aft s) p) H',⟨_,rfl,Az _,S,e4,I⟩,?_⟩⟩
 rintro i m σ' H' ⟨rfl,E,j,G,r⟩
 by_cases q:i=N+1
 ·subst q;exact .inl ⟨Ao _,hD σ' H' j r⟩
 ·have d:i < N+1:=by omega
  refine .inr ⟨d,λσ2 k=>FuS v0 a c b σ2/\σ2[4]?=ae _/\FuI H0 t l ns n B a b _ k,λσ2 k z=>⟨_,by omega,rfl,d,z⟩,?_⟩
  rintro x k ⟨rfl,rfl⟩
  rw[Int.zero_add];have g:FuS v0 a c b (σ'.set 5 (ae (.int i))):=j.set ∎;have v:(σ'.set 5 (ae (V.int i)))[4]?=ae (ae v4):=by rw[Bf ∎];omega
  have F:(σ'.set 5 _)[5]?=ae (ae (.int i)):=Df (by have:=j.ln;omega);have e:=List.range_succ (n:=i);have f:((A8 i).foldl (stp aft s) p).1.length < 2000:=by
   refine D3 ?_ hl;unfold stpM;obtain⟨u,o⟩:∃u,A8 (N+1)=A8 i++u:=⟨_,by
    have:(A8 (N+1)).take i=A8 i:=by rw[List.take_range,Nat.min_eq_left E]
    rw[<-this,List.take_append_drop]⟩
   rw[o,F3];exact pb _ (zt aft s) _ _
  refine Oi A C htm hrE r g.s0 g.s1 g.s3 v F g.ln r0 r4 gd (E1 d) f (D3 (mP _ (λp m=>xE aft s p m) (A8 i) p hs) (Nat.lt_trans f ∎)) λv6 J L=>⟨g.set ∎,by rw[Bf ∎];exact v,?_⟩;simp_all
theorem S9(A:AfOk Sa pd N aft Gd)(C:FuC H0 t l B a)(hN:N < 2 ^ 60)(htm:∀(σ:St) (H:Hp) (Q:VK),Q (.int 2000) H->tm σ H Q)(hrE:∀(x y:Int) (H:Hp) (Q:VK),Q (.bl (decide (x=y))) H->rE (.int x) (.int y) H Q)
  (r0:RdX H0 B v0 pd) (htr:∀(σ:St)(H:Hp)(Q:VK)(B:z_->Prop),σ[0]?=ae (ae v0)->RdX H B v0 pd->Q (.int ((N+1:Nat):Int)) H->tr σ H Q)
  {σ:St} {xs:List V} {ss:List TK} {m0:List (TK×Ad)} {l0:List (TK×z_×V)} (T:Tp H0 t l ns n) (e0:σ[0]?=ae (ae v0)) (e1:σ[1]?=ae (ae (.ref a))) (e2:σ[2]?=ae (ae (.ref c))) (e6:6 < σ.length)
  (ha:H0 a=ae (.dX l0)) (ra:RdY H0 B l0 m0) (hc:H0 c=ae (.lst xs)) (ct:c≠t) (rc:RdXs H0 B xs (ss.map (·.1))) (gd:∀s∈ss,Gd s) (hl:(cE aft N (m0,[]) ss).1.length < 2000) {D:Ends}
  (hD:∀b H',FuI H0 t l ns n B a b (cE aft N (m0,[]) ss) H'->D.rt (.ref b) H'):mM K Sa tm rE tr D σ H0:=by
 refine⟨Az _,λb v=>?_⟩;have ca:c≠a:=λz=>by simp_all
 have W:∀q o,H0 q=ae o->¬B q->upd H0 b (.lst []) q=ae o/\¬(B q\/q=b):=λq o e X=>⟨by rw[aL (bH e v)];exact e,λz=>z.elim X λw=>by simp_all⟩;have S:FuI H0 t l ns n B a b (m0,[]) (upd H0 b _):=⟨T.new v,KpD.refl.new v,v,⟨[],bj,.nil⟩,l0,by rw[aL (bH ha v)];exact ha,ra.move W⟩;have R:FuS v0 a c b (σ.set 3 (ae (.ref b))):=by
  have g:∀i,i≠3->(σ.set 3 (ae (V.ref b)))[i]?=σ[i]?:=λi h=>Bf λz=>h z.symm;exact⟨by rw[g 0 ∎];exact e0,by rw[g 1 ∎];exact e1,by rw[g 2 ∎];exact e2,Df ⋯,by rw[B5];omega⟩
 have j:∀{p:Fm}{H:Hp},FuI H0 t l ns n B a b p H->SqL K H c xs:=λI=>SqL.of (I.kp c _ hc ct ca);refine⟨_,R.s2,c,rfl,⟨xs,j S⟩,λi m O H'=>m=ss.length-i/\i<=ss.length/\FuS v0 a c b O/\FuI H0 t l ns n B a b ((ss.take i).foldl (stpM aft N) _) H',⟨_,rfl,Az _,R,S⟩,?_⟩;have M:xs.length=ss.length:=by rw[rc.len,Ab]
 rintro i m O H' ⟨rfl,hi,G,r⟩
 by_cases q:i=ss.length
 ·subst q;rw[List.take_length]at r;exact .inl ⟨⟨xs,j r,by omega⟩,_,G.s3,hD b H' r⟩
 ·have k:i < ss.length:=by omega
  obtain⟨x,J⟩:∃x,xs[i]?=ae x:=⟨xs[i],Ah _⟩;obtain⟨d,P,Y⟩:=rc.get J;rw[Am,(Ah k)]at P;cases P;have e:ss.take (i+1)=ss.take i++[ss[i]]:=by simp
  refine .inr ⟨⟨xs,x,j r,J⟩,λσ2 E=>FuS v0 a c b σ2/\FuI H0 t l ns n B a b _ E,λσ2 E z=>⟨_,by omega,rfl,k,z⟩,?_⟩
  rintro y E ⟨rfl,F⟩
  have F:=F xs (j r);rw[J]at F;cases F;have U:(ss.take (i+1)).foldl (stpM aft N) (m0,[])=stpM aft N ((ss.take i).foldl (stpM aft N) (m0,[])) ss[i]:=by rw[e,F3];rfl
  refine RP A C hN htm hrE r0 htr r (G.set ∎) (Df (by have:=G.ln;omega)) Y (gd _ (Ck k)) (mP _ (λp s=>xP aft N p s) (ss.take i) (m0,[]) (Az _)) ?_ λσ2 E Z I2=>⟨Z,by simp_all⟩;refine D3 ?_ hl;rw[<-U];show _<=(ss.foldl _ (m0,[])).1.length
  conv=>rhs;rw[<-List.take_append_drop (i+1) ss,F3]
  exact pb _ (Po aft N) _ _
end
theorem ic(m:List (TK×Ad))(k:TK):((aW m k).isSome=ah)↔k∈m.map (·.1):=by
 unfold aW;simp
section
variable(aft:TK->Nat->Option TK)(N:Nat)
def q1(s:TK)(ks:List TK)(m:Nat):List TK:=match aft s m with
 |none=>ks
 |some b=>if b∈ks then ks else ks++[b]
def qs(ks:List TK)(s:TK):List TK:=(A8 (N+1)).foldl (q1 aft s) ks
def Lr(s0:TK):Nat->List TK
 |0=>[s0]
 |j+1=>match (Lr s0 j)[j]? with
  |some s=>qs aft N (Lr s0 j) s
  |none=>Lr s0 j
end
section
variable{aft:TK->Nat->Option TK}{N:Nat}
theorem lL{α β:Type}(f:List α->β->List α)(h:∀l x,l <+: f l x):∀(xs:List β)(l:List α),l <+: xs.foldl f l
 |[],_=>Ee _
 |x::xs,l=>(h l x).trans (lL f h xs _)
theorem zp(s:TK)(ks:List TK)(m:Nat):ks <+: q1 aft s ks m:=by
 unfold q1
 split
 ·exact Ee _
 ·split
  ·exact Ee _
  ·exact List.prefix_append _ _
theorem GO(ks:List TK)(s:TK):ks <+: qs aft N ks s:=lL _ (zp s) _ _
theorem M8{s b:TK}{ks:List TK}{m:Nat}(h:aft s m=ae b):b∈q1 aft s ks m:=by
 unfold q1;simp_all
 split
 ·assumption
 ·simp
theorem QL{s b:TK}{ks:List TK}{m:Nat}(hm:m<=N)(h:aft s m=ae b):b∈qs aft N ks s:=by
 obtain⟨c,a,e⟩:=List.append_of_mem (Bx.mpr (Nat.lt_succ_of_le hm));unfold qs;rw[e,F3];exact(lL _ (zp s) a _).subset (M8 h)
theorem KA(s0:TK)(j:Nat):Lr aft N s0 j <+: Lr aft N s0 (j+1):=by
 show _ <+: (match _[j]? with|some s=>qs aft N _ s|none=>Lr aft N s0 j)
 split
 ·exact GO _ _
 ·exact Ee _
theorem kf(s0:TK)(i k:Nat):Lr aft N s0 i <+: Lr aft N s0 (i+k):=by
 induction k with
 |zero=>exact Ee _
 |succ k a=>exact a.trans (KA s0 _)
theorem qD{α:Type}{l l':List α}(h:l <+: l'){i:Nat}(hi:i < l.length):l'[i]?=l[i]?:=by
 obtain⟨t,rfl⟩:=h;rw[Fi hi]
theorem wm(s0:TK)(c:Nat):∀k,c+k<=(Lr aft N s0 c).length->Lr aft N s0 (c+k)=(((Lr aft N s0 c).drop c).take k).foldl (qs aft N) (Lr aft N s0 c)
 |0,_=>by simp
 |k+1,h=>by
  have b:=wm s0 c k ⋯;have a:c+k < (Lr aft N s0 c).length:=by omega
  have e:(Lr aft N s0 (c+k))[c+k]?=ae (Lr aft N s0 c)[c+k]:=by rw[qD (kf s0 c k) a];simp
  have d:((Lr aft N s0 c).drop c).take (k+1)=((Lr aft N s0 c).drop c).take k++[(Lr aft N s0 c)[c+k]]:=by
   rw[List.take_succ,List.getElem?_drop,Ah a];rfl
  show(match _[c+k]? with|some s=>qs aft N _ s|none=>Lr aft N s0 _)=_;simp_all
theorem Kk{s:TK}{p:Fm}{m:Nat}{base:List TK}(h:p.1.map (·.1)=base++p.2):(stp aft s p m).1.map (·.1)=base++(stp aft s p m).2/\(stp aft s p m).1.map (·.1)=q1 aft s (p.1.map (·.1)) m:=by
 unfold stp q1;cases e:aft s m with
 |none=>exact⟨h,rfl⟩
 |some b=>
  dsimp only;by_cases z:(aW p.1 b).isSome=ah
  ·rw[a' z,a' ((ic _ _).mp z)];exact⟨h,rfl⟩
  ·rw[a_ z,a_ λy=>z ((ic _ _).mpr y)];refine⟨?_,by simp⟩;simp_all
theorem uI{α:Type}(f:Fm->α->Fm)(g:List TK->α->List TK){base:List TK}(hf:∀p x,p.1.map (·.1)=base++p.2->(f p x).1.map (·.1)=base++(f p x).2/\(f p x).1.map (·.1)=g (p.1.map (·.1)) x):
  ∀(xs:List α)(p:Fm),p.1.map (·.1)=base++p.2->(xs.foldl f p).1.map (·.1)=base++(xs.foldl f p).2/\(xs.foldl f p).1.map (·.1)=xs.foldl g (p.1.map (·.1))
 |[],p,h=>⟨h,rfl⟩
 |x::xs,p,h=>by
  obtain⟨b,a⟩:=hf p x h;have:=uI f g hf xs _ b;rw[a]at this;exact this
theorem Hq{m:List (TK×Ad)}(ss:List TK):(cE aft N (m,[]) ss).1.map (·.1)=m.map (·.1)++(cE aft N (m,[]) ss).2/\(cE aft N (m,[]) ss).1.map (·.1)=ss.foldl (qs aft N) (m.map (·.1)):=
 uI _ _ (λp s h=>uI _ _ (λ_ _ h=>Kk h) (A8 _) p h) ss _ (by simp)
structure Lev(aft:TK->Nat->Option TK)(N:Nat)(s0:TK)(c:Nat)(m:List (TK×Ad))(ss:List TK):Prop where
 ks:m.map (·.1)=Lr aft N s0 c
 rs:ss=(Lr aft N s0 c).drop c
 le:c<=(Lr aft N s0 c).length
theorem Lev.next{s0:TK}{c:Nat}{m:List (TK×Ad)}{ss:List TK}(L:Lev aft N s0 c m ss):Lev aft N s0 (Lr aft N s0 c).length (cE aft N (m,[]) ss).1 (cE aft N (m,[]) ss).2:=by
 obtain⟨d,e⟩:=Hq ss;have f:c+((Lr aft N s0 c).length-c)=(Lr aft N s0 c).length:=by have:=L.le;omega
 have b:=wm (aft:=aft) (N:=N) s0 c ((Lr aft N s0 c).length-c) ⋯;rw[f,List.take_of_length_le (by simp),<-L.rs,<-L.ks]at b;have a:(cE aft N (m,[]) ss).1.map (·.1)=Lr aft N s0 (m.map (·.1)).length:=by rw[e,<-b]
 rw[L.ks]at a;refine⟨a,?_,?_⟩
 ·rw[<-a,d,L.ks,List.drop_left'];rfl
 ·rw[<-a,d,L.ks,An];omega
theorem Lev.first(s0:TK)(d:Ad):Lev aft N s0 0 [(s0,d)] [s0]:=⟨rfl,rfl,Az _⟩
theorem ph{s0:TK}{J:Nat}(h:(Lr aft N s0 J).length<=J):∀k,Lr aft N s0 (J+k)=Lr aft N s0 J
 |0=>rfl
 |k+1=>by
  show(match (Lr aft N s0 (J+k))[J+k]? with|some s=>qs aft N _ s|none=>Lr aft N s0 (J+k))=_;rw[ph h k,Cr ⋯]
theorem JO{s0:TK}{J:Nat}(h:(Lr aft N s0 J).length<=J)(c:Nat):(Lr aft N s0 c).length<=(Lr aft N s0 J).length:=by
 by_cases z:c<=J
 ·have:=(kf (aft:=aft) (N:=N) s0 c (J-c)).length_le;rwa [show c+(J-c)=J by omega]at this
 ·have:=ph h (c-J);rw[show J+(c-J)=c by omega]at this;rw[this];simp
theorem IM{s0:TK}{J:Nat}(h:(Lr aft N s0 J).length<=J){s b:TK}{m:Nat}(hs:s∈Lr aft N s0 J)(hm:m<=N)(e:aft s m=ae b):b∈Lr aft N s0 J:=by
 obtain⟨i,d,rfl⟩:=List.getElem_of_mem hs;simp_all;have a:=kf (aft:=aft) (N:=N) s0 (i+1) (J-(i+1));rw[show i+1+(J-_)=J by omega]at a;have f:=kf (aft:=aft) (N:=N) s0 i (J-i);rw[show i+(J-i)=J by omega]at f;refine a.subset ?_;show b∈(match _[i]? with|some s=>qs aft N _ s|none=>Lr aft N s0 i);by_cases g:i < (Lr aft N s0 i).length
 ·have:(Lr aft N s0 i)[i]?=ae (Lr aft N s0 J)[i]:=by rw[<-qD f g];exact Ah d
  rw[this];exact QL hm e
 ·have c:=ph (aft:=aft) (N:=N) (s0:=s0) (J:=i) ⋯ (J-i);rw[show i+(J-i)=J by omega]at c;rw[c]at d;trivial
end
section
variable{aft:TK->Nat->Option TK}{N:Nat}{s0:TK}
def gf(aft:TK->Nat->Option TK):TK->List Nat->Option TK
 |s,[]=>ae s
 |s,m::r=>(aft s m).bind λb=>gf aft b r
theorem EG(aft:TK->Nat->Option TK):∀(s:TK)(r:List Nat)(m:Nat),gf aft s (r++[m])=(gf aft s r).bind λb=>aft b m
 |s,[],m=>by show(aft s m).bind (λb=>ae b)=aft s m;simp
 |s,x::r,m=>by
  show(aft s x).bind _=((aft s x).bind λb=>gf aft b r).bind λb=>aft b m;cases aft s x with
  |none=>rfl
  |some b=>exact EG aft b r m
inductive ParI(aft:TK->Nat->Option TK)(N:Nat)(s0:TK):List (TK×Ad)->Prop
 |one:ParI aft N s0 [(s0,.none)]
 |snoc {m:List (TK×Ad)} {s b:TK} {mv:Nat}:ParI aft N s0 m->s∈m.map (·.1)->mv<=N->aft s mv=ae b->b∉m.map (·.1)->ParI aft N s0 (m++[(b,.tuple [s.1,.int (mv:Nat)])])
inductive Way(m:List (TK×Ad)):TK->List Nat->Prop
 |root {k:TK}:aW m k=ae .none->Way m k []
 |step {k s:TK} {mv:Nat} {ms:List Nat}:aW m k=ae (.tuple [s.1,.int (mv:Nat)])->Way m s ms->Way m k (mv::ms)
theorem EN{m x:List (TK×Ad)}{k:TK}{d:Ad}(h:aW m k=ae d):aW (m++x) k=ae d:=by
 unfold aW at h ⊢;rw[List.find?_append];cases e:m.find? λq=>decide (q.1=k)with
 |none=>rw[e]at h;cases h
 |some q=>rw[e]at h;exact h
theorem EA{m:List (TK×Ad)}{k:TK}{d:Ad}(h:k∉m.map (·.1)):aW (m++[(k,d)]) k=ae d:=by
 have e:aW m k=af:=by
  cases z:aW m k with
  |none=>rfl
  |some d=>exact f_ ((ic m k).mp (by simp_all)) h
 unfold aW at e ⊢;rw[List.find?_append];cases z:m.find? λq=>decide (q.1=k)with
 |none=>simp
 |some q=>rw[z]at e;cases e
theorem Way.app{m x:List (TK×Ad)}{k:TK}{ms:List Nat}(h:Way m k ms):Way (m++x) k ms:=by
 induction h with
 |root e=>exact .root (EN e)
 |step e _ c=>exact .step (EN e) c
theorem Ie{m:List (TK×Ad)}(h:ParI aft N s0 m):∀k∈m.map (·.1),∃ms,Way m k ms/\gf aft s0 ms.reverse=ae k/\ms.length < m.length/\∀x∈ms,x<=N:=by
 induction h with
 |one=>
  intro k a;obtain rfl:k=s0:=by simp_all
  exact⟨[],.root (by simp[aW]),rfl,Nat.zero_lt_one,λx c=>nomatch c⟩
 |@snoc m s b q r o i p n g=>
  intro k a;rw[Bc,A7]at a;rcases a with a|a
  ·obtain⟨ms,w,e,l,f⟩:=g k a;exact⟨ms,w.app,e,by rw[An];omega,f⟩
  ·obtain rfl:=by simpa using a
   obtain⟨ms,w,e,l,f⟩:=g s o;refine⟨_,.step (EA n) w.app,?_,by rw[An,Ax,A1];omega,λx c=>(Au.mp c).elim (λz=>z▸i) (f x)⟩;rw[F0,EG,e];exact p
theorem ParI.stp{s:TK}{p:Fm}{mv:Nat}(h:ParI aft N s0 p.1)(hs:s∈p.1.map (·.1))(hm:mv<=N):ParI aft N s0 (stp aft s p mv).1:=by
 unfold Nb.stp;cases e:aft s mv with
 |none=>exact h
 |some b=>
  dsimp only;by_cases z:(aW p.1 b).isSome=ah
  ·rw[a' z];exact h
  ·rw[a_ z];exact .snoc h hs hm e λy=>z ((ic _ _).mpr y)
theorem y8{s b:TK}{p:Fm}{mv:Nat}(h:b∈p.1.map (·.1)):b∈(stp aft s p mv).1.map (·.1):=by
 unfold Nb.stp
 split
 ·exact h
 ·split
  ·exact h
  ·rw[Bc];exact Da _ h
theorem ParI.stpM{s:TK}:∀(ms:List Nat)(p:Fm),ParI aft N s0 p.1->s∈p.1.map (·.1)->(∀m∈ms,m<=N)->ParI aft N s0 (ms.foldl (Nb.stp aft s) p).1/\∀b∈p.1.map (·.1),b∈(ms.foldl (Nb.stp aft s) p).1.map (·.1)
 |[],_,h,_,_=>⟨h,λ_ z=>z⟩
 |m::ms,p,h,c,a=>by
  obtain⟨g,d⟩:=ParI.stpM ms _ (h.stp c (a m Ap)) (y8 c) λx e=>a x (Ak _ e);exact⟨g,λb f=>d b (y8 f)⟩
theorem ParI.fur:∀(ss:List TK)(p:Fm),ParI aft N s0 p.1->(∀s∈ss,s∈p.1.map (·.1))->ParI aft N s0 (cE aft N p ss).1
 |[],_,h,_=>h
 |s::ss,p,h,b=>by
  obtain⟨d,c⟩:=ParI.stpM _ p h (b s Ap) λx a=>E1 (Bx.mp a);exact ParI.fur ss _ d λx a=>c x (b x (Ak _ a))
end
section
variable(aft:TK->Nat->Option TK)(N:Nat)
def dS(s:TK×Nat)(E:List (TK×Nat))(m:Nat):List (TK×Nat):=match aft s.1 m with
 |none=>E
 |some b=>if b∈E.map (·.1)then E else E++[(b,s.2+1)]
def dM(E:List (TK×Nat))(s:TK×Nat):List (TK×Nat):=(A8 (N+1)).foldl (dS aft s) E
def El(s0:TK):Nat->List (TK×Nat)
 |0=>[(s0,0)]
 |j+1=>match (El s0 j)[j]? with
  |some s=>dM aft N (El s0 j) s
  |none=>El s0 j
def pS(s:TK)(m:List (TK×Ad))(i:Nat):List (TK×Ad):=match aft s i with
 |none=>m
 |some b=>if b∈m.map (·.1)then m else m++[(b,.tuple [s.1,.int (i:Nat)])]
def pM(m:List (TK×Ad))(s:TK):List (TK×Ad):=(A8 (N+1)).foldl (pS aft s) m
end
section
variable{aft:TK->Nat->Option TK}{N:Nat}{s0:TK}
theorem OW(s:TK)(p:Fm)(i:Nat):(stp aft s p i).1=pS aft s p.1 i:=by
 unfold stp pS;cases aft s i with
 |none=>rfl
 |some b=>
  dsimp only;by_cases z:(aW p.1 b).isSome=ah
  ·rw[a' z,a' ((ic _ _).mp z)]
  ·rw[a_ z,a_ λy=>z ((ic _ _).mpr y)]
theorem uP{α:Type}(f:Fm->α->Fm)(g:List (TK×Ad)->α->List (TK×Ad))(h:∀p x,(f p x).1=g p.1 x):∀(xs:List α)(p:Fm),(xs.foldl f p).1=xs.foldl g p.1
 |[],_=>rfl
 |x::xs,p=>by rw[Ew,Ew,uP f g h xs,h]
theorem SM(m:List (TK×Ad))(ss:List TK):(cE aft N (m,[]) ss).1=ss.foldl (pM aft N) m:=uP _ _ (λp s=>uP _ _ (OW s) _ p) ss _
structure Syn(m:List (TK×Ad))(E:List (TK×Nat)):Prop where
 ks:m.map (·.1)=E.map (·.1)
 wy:∀e∈E,∃ms,Way m e.1 ms/\ms.length=e.2
theorem Syn.one:Syn [(s0,.none)] [(s0,0)]:=⟨rfl,λe a=>by obtain rfl:e=(s0,0):=(by simp_all);exact⟨[],.root (by simp[aW]),rfl⟩⟩
theorem Syn.st{m:List (TK×Ad)}{E:List (TK×Nat)}{s:TK×Nat}(h:Syn m E)(hs:s∈E)(i:Nat):Syn (pS aft s.1 m i) (dS aft s E i)/\s∈dS aft s E i:=by
 unfold pS dS;cases aft s.1 i with
 |none=>exact⟨h,hs⟩
 |some b=>
  dsimp only;rw[h.ks];by_cases z:b∈E.map (·.1)
  ·rw[a' z,a' z];trivial
  ·rw[a_ z,a_ z];refine⟨⟨by rw[Bc,Bc,h.ks];rfl,λe a=>?_⟩,Da _ hs⟩;rcases A7.mp a with a|a
   ·obtain⟨c,w,l⟩:=h.wy e a;exact⟨c,w.app,l⟩
   ·obtain rfl:=by simpa using a
    obtain⟨c,w,l⟩:=h.wy s hs;exact⟨_,.step (EA (by rw[h.ks];exact z)) w.app,by rw[Ax,l]⟩
theorem Syn.sM{s:TK×Nat}:∀(is:List Nat)(m:List (TK×Ad))(E:List (TK×Nat)),Syn m E->s∈E->Syn (is.foldl (pS aft s.1) m) (is.foldl (dS aft s) E)
 |[],_,_,h,_=>h
 |i::is,m,E,h,a=>let⟨c,b⟩:=h.st a i;Syn.sM is _ _ c b
theorem HG(s:TK×Nat)(E:List (TK×Nat))(i:Nat):(dS aft s E i).map (·.1)=q1 aft s.1 (E.map (·.1)) i:=by
 unfold dS q1;cases aft s.1 i with
 |none=>rfl
 |some b=>
  dsimp only;by_cases z:b∈E.map (·.1)
  ·rw[a' z,a' z]
  ·rw[a_ z,a_ z,Bc];rfl
theorem Kl(s:TK×Nat)(E:List (TK×Nat)):(dM aft N E s).map (·.1)=qs aft N (E.map (·.1)) s.1:=by
 unfold dM qs;generalize A8 _=l
 induction l generalizing E with
 |nil=>rfl
 |cons i l b=>rw[Ew,Ew,b,HG]
theorem iT:∀j,(El aft N s0 j).map (·.1)=Lr aft N s0 j
 |0=>rfl
 |j+1=>by
  show List.map _ (match _[j]? with|some s=>dM aft N _ s|none=>El aft N s0 j)=(match _[j]? with|some s=>qs aft N _ s|none=>Lr aft N s0 j);rw[<-(iT j),Am];cases(El aft N s0 j)[j]? with
  |none=>rfl
  |some s=>exact Kl s _
theorem mE(s:TK×Nat)(E:List (TK×Nat))(i:Nat):E <+: dS aft s E i:=by
 unfold dS
 split
 ·exact Ee _
 ·split
  ·exact Ee _
  ·exact List.prefix_append _ _
theorem Lm(E:List (TK×Nat))(s:TK×Nat):E <+: dM aft N E s:=lL _ (mE s) _ _
theorem Syn.level{c:Nat}{m:List (TK×Ad)}(h:Syn m (El aft N s0 c)):∀k,c+k<=(El aft N s0 c).length->Syn ((((Lr aft N s0 c).drop c).take k).foldl (pM aft N) m) (El aft N s0 (c+k))
 |0,_=>by simpa using h
 |k+1,j=>by
  have f:=Syn.level h k ⋯;have e:(Lr aft N s0 c).length=(El aft N s0 c).length:=by rw[<-iT,Ab]
  have a:c+k < (Lr aft N s0 c).length:=by omega
  have i:((Lr aft N s0 c).drop c).take (k+1)=((Lr aft N s0 c).drop c).take k++[(Lr aft N s0 c)[c+k]]:=by
   rw[List.take_succ,List.getElem?_drop,Ah a];rfl
  have d:(Lr aft N s0 (c+k))[c+k]?=ae (Lr aft N s0 c)[c+k]:=by rw[qD (kf s0 c k) a];simp
  rw[i,F3];rw[<-iT,Am]at d;obtain⟨s,b,g⟩:=Em.mp d;show Syn _ (match (El aft N s0 (c+k))[c+k]? with|some s=>dM aft N _ s|none=>El aft N s0 _);rw[b,<-g];exact Syn.sM _ _ _ f (Ay b)
theorem Syn.next{c:Nat}{m:List (TK×Ad)}{ss:List TK}(h:Syn m (El aft N s0 c))(L:Lev aft N s0 c m ss):Syn (cE aft N (m,[]) ss).1 (El aft N s0 (Lr aft N s0 c).length):=by
 have a:(Lr aft N s0 c).length=(El aft N s0 c).length:=by rw[<-iT,Ab]
 have b:c+((Lr aft N s0 c).length-c)=(Lr aft N s0 c).length:=by have:=L.le;omega
 have:=h.level ((Lr aft N s0 c).length-c) ⋯;rw[b,List.take_of_length_le (by simp),<-L.rs,<-SM]at this;omega
end
end Nb
namespace DL
open PySem L2 Nb
theorem Rel.fur{C:Ctx}{H H':Hp}{B:z_->Prop}{σ:St}{δ:Sl}{n:Int}{i j:Nat}{m:List (TK×Ad)}{a b:z_}{p:Fm}(R:Rel C H B σ δ n)(hi:δ[i]?=ae (ae (.odx m)))(hij:i≠j)(hσ:σ[i]?=ae (ae (.ref a)))
  (I:FuI H C.t C.l C.ns n B a b p H') (hl:p.1.length<=1000) (hl2:p.2.length<=Aw):Rel C H' (λc=>B c\/c=b) (σ.set j (ae (.ref b))) ((δ.set j (ae (.own (p.2.map (·.1))))).set i (ae (.odx p.1))) n:=by
 obtain⟨v,w,T,N,rfl,y,k,h,S,O⟩:=R.sl i _ hi;rw[hσ]at w;cases w;have r:a≠C.t:=λz=>R.t0 (z▸h);obtain⟨x,P,A⟩:=I.fr;obtain⟨s,E,M⟩:=I.st;have q:=bH y I.nb
 let f:=upd H' a (.dX N)
 have D:Kp C.t H f:=λc o e K=>by
  by_cases z:c=a
  ·subst z;rw[y]at e;cases e;exact bj
  ·show upd H' a _ c=ae o;rw[aL z];exact I.kp c o e K z
 have J:Tp f C.t C.l C.ns n:=I.tp.other r.symm (λz=>R.l0 (z▸h)) (λe z=>R.g0 e (z▸h));have G:∀c o,H' c=ae o->¬(B c\/c=b)->f c=ae o/\¬(B c\/c=b):=λc o e u=>⟨by show upd H' a _ c=ae o;rw[aL λ(z:c=a)=>u (.inl (z▸k))];exact e,u⟩;have g:f b=ae (.lst x):=by show upd H' a _ b=_;rw[aL q.symm];omega
 have L:Rel C f _ _ (δ.set j (ae (.own _))) n:=
  R.own (R.step J D) D I.nb (by rw[g];simp) rfl ⟨b,x,rfl,g,.inr rfl,R.h0 I.nb,by rw[A.len,Ab];exact hl2,A.move G⟩
 have F:upd f a (.dX s)=H':=by
  rw[sV]
  funext c
  by_cases z:c=a
  ·subst z;rw[bj,E]
  ·rw[aL z]
 have:=L.mutOwn (x':=.odx p.1) (by rw[Bf hij.symm];omega) rfl (by rw[Bf hij.symm];omega) (.inl k) h
  (by rw[F];exact⟨a,s,rfl,E,.inl k,h,by rw[M.len];trivial⟩) rfl
 simp_all
def pX(Sa:aJ):Sp:=λvs H Q _=>∃(t:z_)(l:TL)(ns:List Int)(n:Int)(B:z_->Prop)(v0:V)(a c:z_)(pd:Ad)(N:Nat)(aft:TK->Nat->Option TK)(Gd:TK->Prop)(xs:List V)(ss:List TK)(m0:List (TK×Ad))(l0:List (TK×z_×V)),
 vs=[v0,.ref a,.ref c]/\AfOk Sa pd N aft Gd/\FuC H t l B a/\N < 2 ^ 60/\RdX H B v0 pd/\Tp H t l ns n/\H a=ae (.dX l0)/\RdY H B l0 m0/\H c=ae (.lst xs)/\c≠t/\RdXs H B xs (ss.map (·.1))/\(∀s∈ss,Gd s)/\(cE aft N (m0,[]) ss).1.length < 2000 /\
 ∀b H',FuI H t l ns n B a b (cE aft N (m0,[]) ss) H'->Q (.ref b) H'
structure HasM(P:Bb)(w:Bj)(K:Ag)(mg:Str->Option Af)(base:Heap)(k:Nat)(x:Str)(ps:List Str)(Sa:aJ):Prop where
 ex:∃(f:z_)(fd:B8),FnOk P w K mg base b6 k f fd ps (pX Sa)/\Binds K fd ps []/\mg x=ae (.ref f)/\Co K (.ref f)=ah
def iN(Sa:aJ)(h i j:Nat):aH:=λδ n E=>∃(pd:Ad)(N:Nat)(aft:TK->Nat->Option TK)(Gd:TK->Prop)(m:List (TK×Ad))(ss:List TK),AfOk Sa pd N aft Gd/\N < 2 ^ 60/\δ[h]?=ae (↑pd)/\δ[i]?=ae (ae (.odx m))/\δ[j]?=ae (ae (.own (ss.map (·.1))))/\(∀s∈ss,Gd s)/\(cE aft N (m,[]) ss).1.length<=1000 /\
 E.nx ((δ.set j (ae (.own ((cE aft N (m,[]) ss).2.map (·.1))))).set i (ae (.odx (cE aft N (m,[]) ss).1))) n
section
variable{X:Cx}{pos p0 p1 p2 p3 p4 cp:Pos}
theorem Jk{x0 x1 x2 f:Str}{h i j k:Nat}{ps:List Str}{Sa:aJ}(F:HasM X.prog X.w X.K X.mg X.base k f ps Sa)(hr:Room k X.A)(hg:Gl X f)(hN:X.N.Nodup)(h2:X.N[j]?=ae x2)(hx:eZ X.env.scope x2)(hij:i≠j)
  {wR:cY} (ha:DA X [.Name x0 p1,.Name x1 p2,.Name x2 p3] (bJ (aM h) (bJ (aM i) (bJ (aM j) bf))) wR)
  (hs:Ci (.Call (.Name f p0) [.Name x0 p1,.Name x1 p2,.Name x2 p3] [] cp) (ae (.Name x2 p4)) pos.line X.env=pure ai:=by rfl) (hf:X.fn x2=ah\/X.env.scope.names.lookup x2=ae .local:=by first|exact .inl rfl|exact .inr rfl|assumption)
  (hdb:(f==("__debug__":Str))=ai:=by decide)
  (he:Ar (.Name x0 p1::[.Name x1 p2,.Name x2 p3]) X.env=(ai,eval (.Name x0 p1) X.env)::Ar [.Name x1 p2,.Name x2 p3] X.env:=by rfl) (p_:(Cp cp (Ar [.Name x1 p2,.Name x2 p3] X.env)).any (·.1)=ai:=by rfl):
  DS X (.Assign [.Name x2 p4] (.Call (.Name f p0) [.Name x0 p1,.Name x1 p2,.Name x2 p3] [] cp) pos) (bz (eL (pX Sa) [] E0 (bJ (aM h) (bJ (aM i) (bJ (aM j) bf)))) (df j)) (iN Sa h i j):=by
 obtain⟨g,fd,Z,J,P,f4⟩:=F.ex;refine⟨fC hN h2 hx (jN Z hr hg P f4 J .nil jC ha.pa hdb he p_) hs hf,λC H B σ δ n E D R q G=>?_⟩;obtain⟨M,N,d,Gd,m,u,A,o,L,v,Q,S,r,q⟩:=q;obtain⟨y,V,U⟩:=R.sl h _ L;obtain⟨_,x,a,l0,rfl,a2,O,T,a5,a6⟩:=R.sl i _ v;obtain⟨_,Y,c,xs,rfl,W,c3,c4,c5,c6⟩:=R.sl j _ Q;refine⟨y,V,_,x,_,Y,⟨C.t,C.l,_,n,B,y,a,c,M,N,d,Gd,xs,u,m,l0,rfl,A,⟨R.bt,O,R.ba,λz=>R.t0 (z▸T),?_,?_⟩,o,U.1,R.tp,a2,a6,W,λz=>R.t0 (z▸c4),c6,S,by omega,λb H' I=>?_⟩⟩
 ·rw[R.tp.ls];simp
 ·exact λe=>by rw[R.tp.ag e];simp
 ·exact G.nx _ _ _ _ _ (Rel.fur R v hij x I r (Ba (Ba (mP _ (λp s=>xP d N p s) u (m,[]) (Az _)) r) ∎)) q
end
section
variable{P:Bb}{w:Bj}{K:Ag}{mg:Str->Option Af}{base:Heap}
def kP(X:Cx)(b:List Stmt)(Sa:aJ):Prop:=∃(tm tr:TE)(rE:R2),PSs X b (mM X.K Sa tm rE tr)/\(∀(σ:St)(H:Hp)(Q:VK),Q (.int 2000) H->tm σ H Q)/\(∀(x y:Int)(H:Hp)(Q:VK),Q (.bl (decide (x=y))) H->rE (.int x) (.int y) H Q) /\
 ∀(σ:St)(H:Hp)(Q:VK)(B:z_->Prop)(v0:V)(ps:List Ad),σ[0]?=ae (ae v0)->RdX H B v0 (.tuple ps)->Q (.int ((ps.length+1:Nat):Int)) H->tr σ H Q
theorem Fun.okM{x qual:Str}{st:Stmt}{f:z_}{fd:B8}{N ps:List Str}{k:Nat}{Sa:aJ}(F:Fun K x qual st f fd)(Sc:FnScope N ps (bN st))(hps:ps.length=3)(hNl:6 < N.length)
  (hbody:∀(m_:Af)(A:Bt)(outer:List Env)(s:Aj)(H:Hp)(E:XK),Room k (A.deeper (Ct qual (bN st) s.heap.objs.size f m_))->
   kP (cn b6 P w K mg base N qual (bN st) f m_ A outer s H E).nox (eF st) Sa):FnOk P w K mg base b6 (k+1) f fd ps (pX Sa):=by
 refine F.ok Sc (λvs H Q E h=>?_) (λm_ A outer s H vs Q E V h=>?_)
 ·obtain⟨t,l,L,n,B,p,a,c,I,y,u,Z,S,G,R,l0,rfl,_⟩:=h;exact hps.symm
 ·obtain⟨t,l,L,n,B,p,a,c,I,y,u,Z,S,G,R,l0,rfl,v,C,m,O,T,ha,D,W,X,Y,J,z,U⟩:=h;obtain⟨tm,tr,rE,d,i,o,g⟩:=hbody m_ A outer s H E V;obtain⟨M,j,b⟩:=v.prog;subst j b;exact⟨_,d,S9 v C m i o O (λσ H Q B e r q=>g σ H Q B p M e r q) T rfl rfl rfl (by show 6 < ([ae p,ae _,ae _]++C5 _ af).length;simp;omega) ha D W X Y J z U⟩
end
end DL
namespace L2
open PySem PySem.Spec PyProof.Rows
theorem IJ{X:Cx}{h_:List (z_×Obj)}{σ:St}{H:Hp}{s:Aj}{a b:z_}{v:V}{r:Af}{ps:List XP}{k:TK}{A:Bt}{E:Af->Aj->Prop}{Q:Unit->Aj->Prop}(hu:A.units+64 < C9)(I:Inv X h_ σ H s)(e:H a=ae (.dX ps))(hk:gO X.K H ps)(eb:RdD X.K H (.ref b) k.1)(l:ps.length < Aw)(rv:RelV v r)(h:∀s',Inv X h_ σ (upd H a (.dX (dq ps k b v))) s'->Q () s'):
  A6 (A9 X.prog X.w) A (dictSet a (.ref b) r) Q E s:=by
 obtain⟨z,t,x,c,g⟩:=oz I (.inl e) hk;have B:x.length<=Aw:=by rw[<-Dk c];exact z
 have m:(dq ps k b v).length<=Aw:=by have:=vo ps k b v;omega
 refine wpAny_dictSet_heap (show A.units+16 < C9 by omega) (mB I eb) g λh' d y=>h _ ?_;obtain⟨q,p,u,f,i,n,o,_,j⟩:=d;exact lz I (by rw[e];trivial) y ⟨q,f⟩ ⟨m,t,_,c.put k rv,q,p,u,f,i,n,o,j⟩
def m9(K:Ag)(tk tv:TE):TE:=λσ H Q=>∀p,H p=af->tk σ (upd H p (.dX [])) λy H1=>tv σ H1 λv H2=>∃H3,nz K H2 p y v H3/\Q (.ref p) H3
theorem Hw{X:Cx}{k v:Expr}{tk tv:TE}{pos:Pos}(hu:X.A.units+64 < C9)(hk:PE X k tk)(hv:PE X v tv):PE X (.Dict [ae k] [v] pos) (m9 X.K tk tv):=by
 intro a s σ H Q I h;refine wpAny_Dict_any rfl rfl (by simp) (show 1<=15 by decide) ?_;have M:Inv X a σ (upd H s.heap.objs.size (.dX [])) {s with heap:=s.heap.push {cls:=.type "dict",data:=.dict #[]}}:=by
  refine I.laid (λ_ _ q=>Ae _ q) (Ao _) ?_;obtain⟨z,y,Z,r,o,D,G,F,i,n,p,S⟩:=sN (P:=X.prog) (w:=X.w) (H:=upd H s.heap.objs.size (.dT [])) s.heap I.big;cases r;exact⟨Az _,y,[],.nil,o,D,G,F,i,n,p,List.nodup_nil⟩
 refine Aa (aO (hk a _ σ _ _ M (h _ (I.hok.fresh (Ao _)))) λkv R ⟨y,E,m,L,C⟩=>Aa (B7 (Aa (aO (hv a R σ E _ m C) λvv Y ⟨u,W,J,N,U,g,t⟩=>Aa (wpAny_standAt (Ai ?_))))));refine Aa (B7 (Ai (Ai ?_)));obtain⟨T,j,b,e,c,rfl,x,l,rfl⟩:=g;obtain rfl:=L;show A6 _ _ (forIn [(Cf b,vv)] PUnit.unit _) _ _ _;rw[List.forIn_cons];refine Aa (Aa (IJ hu J e c x l N λs4 B=>Ai ?_));show A6 _ _ _ _ _ _;exact Ai ⟨.ref s.heap.objs.size,_,B,rfl,t⟩
end L2
namespace DL
open PySem L2 Nb
section
variable{X:Cx}{k v:Expr}{tk tv:TE}{wk wv:DT}{pos p:Pos}
def ni(i:Nat)(wk wv:DT):aH:=λδ n K=>wk δ n λy n1=>wv δ n1 λz n2=>∃l_ d e,z=.d d/\y=.d e/\nv e l_/\K.nx (δ.set i (ae (.odx [(l_,d)]))) n2
theorem Ky{i:Nat}{x:Str}{pos':Pos}(hu:X.A.units+64 < C9)(hN:X.N.Nodup)(hi:X.N[i]?=ae x)(hx:eZ X.env.scope x)(hk:DE X k tk wk)(hv:DE X v tv wv)(hs:Ci (.Dict [ae k] [v] p) (ae (.Name x pos')) pos.line X.env=pure ai:=by rfl)(hf:X.fn x=ah\/X.env.scope.names.lookup x=ae .local:=by first|exact .inl rfl|exact .inr rfl|assumption):
  DS X (.Assign [.Name x pos'] (.Dict [ae k] [v] p) pos) (bz (m9 X.K tk tv) (df i)) (ni i wk wv):=⟨fC hN hi hx (Hw hu hk.pe hv.pe) hs hf,λC H B σ δ n K D R q E=>λa g=>by
 have T:=by
  have:=R.own (i:=δ.length) (R.new g) (Kp.new g) g (by rw[bj];simp) (x:=.odx []) rfl ⟨a,[],rfl,bj,.inr rfl,R.h0 g,Az _,.nil⟩;rwa [List.set_eq_of_length_le (by rw[R.len];simp),List.set_eq_of_length_le (Ao _)]at this
 refine hk.sd C _ _ σ δ n _ _ T q λu y W Y O S r1 U=>hv.sd C W _ σ δ Y _ _ O U λw z m V Z r r2 s=>?_;obtain⟨f,d,e,rfl,rfl,F,s⟩:=s;obtain⟨b,rfl,Q⟩:=oG ((r1.kp r O.bt)) F;have h:a≠C.t:=λz=>by obtain⟨_,_⟩:=R.tp.ob;simp_all
 refine⟨_,⟨[],f,b,(r _ _ (S _ _ bj h) h),(λp L=>nomatch L),rfl,Q.rd,by decide,rfl⟩,?_⟩;have L:dq [] f b w=[(f,b,w)]:=by rfl
 have G:Kp C.t H (upd m a (.dX [(f,b,w)])):=λc o e P=>by
  rw[aL (bH e g)];exact r _ _ (S _ _ (by rw[aL (bH e g)];exact e) P) P
 have T3:Tp (upd m a (.dX [(f,b,w)])) C.t C.l C.ns V:=Z.tp.other h.symm (λz=>by have:=R.tp.ls;simp_all) (λe z=>by have:=R.tp.ag e;simp_all);have J:∀c o,m c=ae o->¬(B c\/c=a)->upd m a (.dX [(f,b,w)]) c=ae o/\¬(B c\/c=a):=λc o e M=>⟨by rw[aL λz=>M (.inr z)];exact e,M⟩;refine E.nx _ _ _ _ _ (R.own (x:=.odx [(f,d)]) (R.step T3 G) G g (by rw[bj];simp) rfl ⟨a,_,rfl,bj,.inr rfl,R.h0 g,show 1<=1000 by decide,.cons ⟨rfl,Q.move J,(r2).move J⟩ .nil⟩) s⟩
end
section
variable{X:Cx}{o:Expr}{td:TE}{wd':DT}{pos p:Pos}{K:Ag}
theorem RdY.refs{H:Hp}{B:z_->Prop}{l:List (TK×z_×V)}{m:List (TK×Ad)}(h:RdY H B l m):RdXs H B (l.map λq=>V.ref q.2.1) (m.map λq=>q.1.1):=by
 induction h with
 |nil=>exact .nil
 |@cons p q d c a t b=>exact .cons (show RdX H B _ q.1.1 by rw[<-a.1];exact a.2.1) b
def ot(w:DT):d6:=λδ n Q=>w δ n λx n1=>∃kvs,gK x kvs/\kvs.length<=1000/\Q (kvs.map (·.1.1)) n1
theorem Qu(hh:X.A.handled=af)(hg:Gl X "list")(hm:X.mg "list"=af)(ho:DE X o td wd')(hK:X.K=K:=by rfl)(he:Ar [o] X.env=(ai,eval o X.env)::Ar [] X.env:=by rfl)(p_:(Cp pos (Ar [] X.env)).any (·.1)=ai:=by rfl):
  DF X (.Call (.Name "list" p) [o] [] pos) (fk (ya K) (bJ td bf)) (ot wd'):=by
 subst hK;refine⟨m6 (JQ hh) hg hm o4 (cw ho.pe eu he) ∎ ∎ he p_,λC H B σ δ n Q t R q k=>ho.sd C H B σ δ n _ _ R q λv x s i d f m c=>?_⟩;obtain⟨h,j,g,c⟩:=c;obtain⟨a,l,rfl,r,u,e⟩:=WRel.rdX d.bt j m;exact⟨a,l,rfl,r,e.keys,λL b=>k L _ _ _ i (d.new b) (f.trans (Kp.new b)) (d.was f b) bj (by rw[Ab,e.len];exact fc g) (e.refs.fresh b) c⟩
end
end DL
namespace L2
open PySem PySem.Spec PyProof.Rows PySem.W
end L2
namespace DL
open PySem L2 Nb
end DL
namespace L2
open PySem PySem.Spec PyProof.Rows PySem.W
end L2
namespace DL
open PySem L2 Nb
abbrev eR:=List Wv->Int->(List (TK×Ad)->Int->Prop)->Prop
def nu(S:eR):Sp:=λvs H Q _=>∃(t:z_)(l:TL)(ns:List Int)(B:z_->Prop)(ws:List Wv)(n:Int)(Q0:List (TK×Ad)->Int->Prop),Tp H t l ns n/\B t/\(∀b,B b->H b≠af)/\ARel H B t vs ws/\S ws n Q0 /\
 ∀kvs n',Q0 kvs n'->∀a l' H',Tp H' t l ns n'->Kp t H H'->H a=af->H' a=ae (.dX l')->l'.length<=1000->RdY H' (λb=>B b\/b=a) l' kvs->Q (.ref a) H'
structure HasX(P:Bb)(w:Bj)(K:Ag)(mg:Str->Option Af)(base:Heap)(k:Nat)(x:Str)(ps:List Str)(S:eR):Prop where
 ex:∃(f:z_)(fd:B8),FnOk P w K mg base b6 k f fd ps (nu S)/\Binds K fd ps []/\mg x=ae (.ref f)/\Co K (.ref f)=ah
theorem HasX.mk'{P:Bb}{w:Bj}{K:Ag}{mg:Str->Option Af}{base:Heap}{k:Nat}{x qual:Str}{st:Stmt}{ps:List Str}{S:eR}{f:z_}{fd:B8}(F:Fun K x qual st f fd)(m:mg x=ae (.ref f))(b:Binds K fd ps [])(h:FnOk P w K mg base b6 k f fd ps (nu S)):HasX P w K mg base k x ps S:=⟨f,fd,h,b,m,F.kp⟩
section
variable{X:Cx}{e:Expr}{es:List Expr}{pos p:Pos}{tR:TA}{wR:cY}
def mq(i:Nat):aH:=λδ n K=>match δ[i]? with
 |some (ae (.odx kvs))=>K.rx kvs n
 |_=>False
theorem Kn(i:Nat){x:Str}{xp:Pos}(hN:X.N[i]?=ae x:=by rfl)(hv:ej X.env.scope x:=by first|exact Ce rfl|exact Bz (Ce rfl)|exact Bz (Bz rfl))(hd:(x==("__debug__":Str))=ai:=by decide)
  (q_:(x==("__classdict__":Str))=ai:=by decide):DS X (.Return (ae (.Name x xp)) pos) (fM (aM i)) (mq i):=⟨i0 (fm hN hv hd q_),λC H B σ δ n K D R q E=>by
 unfold mq at q
 split at q
 ·rename_i c f;obtain⟨v,hv,a,l,rfl,m,h,j,k,g⟩:=R.sl i _ f;exact⟨_,hv,E.rx H B σ δ n a l c R j m k (g.move λb o e d=>⟨e,λz=>z.elim d λq=>d (q▸h)⟩) q⟩
 ·exact q.elim⟩
def qz(i:Nat)(S:eR)(w:cY):aH:=λδ n K=>w δ n λxs n1=>S xs n1 λkvs n2=>K.nx (δ.set i (ae (.odx kvs))) n2
theorem QN{i:Nat}{x:Str}{pos' cp:Pos}{k:Nat}{ps:List Str}{S:eR}{f:Str}(h:HasX X.prog X.w X.K X.mg X.base k f ps S)(hr:Room k X.A)(hg:Gl X f)(hN:X.N.Nodup)(hi:X.N[i]?=ae x)(hx:eZ X.env.scope x)(ha:DA X (e::es) tR wR)
  (hs:Ci (.Call (.Name f p) (e::es) [] cp) (ae (.Name x pos')) pos.line X.env=pure ai:=by rfl) (hf:X.fn x=ah\/X.env.scope.names.lookup x=ae .local:=by first|exact .inl rfl|exact .inr rfl|assumption)
  (hdb:(f==("__debug__":Str))=ai:=by decide) (he:Ar (e::es) X.env=(ai,eval e X.env)::Ar es X.env:=by rfl) (p_:(Cp cp (Ar es X.env)).any (·.1)=ai:=by rfl):
  DS X (.Assign [.Name x pos'] (.Call (.Name f p) (e::es) [] cp) pos) (bz (eL (nu S) [] E0 tR) (df i)) (qz i S wR):=by
 obtain⟨g,T,G,s,u,v⟩:=h.ex;refine⟨fC hN hi hx (jN G hr hg u v s .nil jC ha.pa hdb he p_) hs hf,λC H B σ δ n K D R q E=>ha.sd C H B σ δ n _ _ R q λvs J P I b m M F=>⟨C.t,C.l,_,B,J,I,_,b.tp,b.bt,b.ba,by rw[Bh];exact M,F,λkvs O y a z Q L r o c d j=>?_⟩⟩;refine E.nx _ _ _ _ _ (R.own (b.step L r) (m.trans r) (b.was m o) (by rw[c];simp) rfl ?_) y;exact⟨a,z,rfl,c,.inr rfl,R.h0 (b.was m o),d,j⟩
end
section
variable{P:Bb}{w:Bj}{K:Ag}{mg:Str->Option Af}{base:Heap}
theorem Fun.okX{x qual:Str}{st:Stmt}{f:z_}{fd:B8}{N ps:List Str}{k:Nat}{S:eR}(F:Fun K x qual st f fd)(Sc:FnScope N ps (bN st))(len:∀ws n Q,S ws n Q->ws.length=ps.length)
  (hbody:∀(m_:Af)(A:Bt)(outer:List Env)(s:Aj)(H:Hp)(E:XK),Room k (A.deeper (Ct qual (bN st) s.heap.objs.size f m_))->
   ∃T W,DSs (cn b6 P w K mg base N qual (bN st) f m_ A outer s H E).nox (eF st) T W/\∀ws n Q,S ws n Q->W (cL N ws) n {nx:=λ_ _=>False,rt:=λ_ _=>False,rx:=Q}):FnOk P w K mg base b6 (k+1) f fd ps (nu S):=by
 refine F.ok Sc (λvs H Q E h=>?_) (λm_ A outer s H R Q E O h=>?_)
 ·obtain⟨t,l,C,B,ws,n,g,_,_,_,r,q,_⟩:=h;rw[r.len];exact len ws n g q
 ·obtain⟨t,l,C,B,ws,n,g,T,j,I,r,q,M⟩:=h;obtain⟨J,W,d,L⟩:=hbody m_ A outer s H E O;refine⟨J,d.ps,d.sd _ H B _ _ n _ _ (rg T j I r) (L ws n g q) ⟨?_,?_,?_,?_,?_,?_⟩⟩
  ·exact λ_ _ _ _ _ _ z=>z.elim
  ·exact λ_ _ _ _ _ _ _ _ _ z=>z.elim
  ·exact λ_ _ _ _ _ _ z=>z.elim
  ·exact λ_ _ _ _ _ _ z=>z.elim
  ·exact λ_ _ _ _ _ _ _ _ _ _ _ _ _ z=>z.elim
  ·exact λH' X σ δ U a p v c D G i m u=>M _ _ u a p H' c.tp c.kp D G i (m.move λb o e y=>⟨e,λz=>y (z.elim (λz=>.inl (c.b0 b z)) .inr)⟩)
end
section
variable{X:Cx}{a b:Expr}{ta tb:TE}{wa wb:DT}{pos:Pos}{K:Ag}
def ku(w:DT):b3:=λδ n Q=>w δ n λx n1=>match gg x with
 |some ds=>Q (!ds.isEmpty) n1
 |none=>False
theorem Pe{e:Expr}{te:TE}{we:DT}(h:DE X e te we)(he:∀whole,isTrue e X.env whole=(do let v <-whole;standAt e.pos;holding [v] (truthy v)):=by intro _;rfl):DC X e (λσ H Q=>te σ H λx H'=>∃k,jT X.K x H' k/\Q k H') (ku we):=
 ⟨FP h.pe he,λC H B σ δ n Q r R q k=>h.sd C H B σ δ n _ _ R q λv x f g d m j b=>by
  split at b
  ·rename_i s o;obtain⟨a,i,rfl,l,p,c⟩:=rH j o;refine⟨_,.inl ⟨i,SqL.of l,?_⟩,k _ f g d m b⟩;cases c<;>rfl
  ·exact b.elim⟩
end
end DL
namespace Nb
open PySem L2 DL
def lE(Sa:aJ):eR:=λws n Q=>∃(pd:Ad)(s0:TK)(N:Nat)(aft:TK->Nat->Option TK)(Gd:TK->Prop)(J:Nat),ws=[.d pd,.d s0.1]/\AfOk Sa pd N aft Gd/\Gd s0/\N < 2 ^ 60/\(Lr aft N s0 J).length<=J/\(Lr aft N s0 J).length<=1000 /\
 ∀m,m.map (·.1)=Lr aft N s0 J->ParI aft N s0 m->Syn m (El aft N s0 J)->Q m n
theorem tq{N:Nat}{aft:TK->Nat->Option TK}{Gd:TK->Prop}{s0:TK}(A:∀(s:TK) (i:Nat) (b:TK),Gd s->i<=N->aft s i=ae b->Gd b)(h0:Gd s0):∀j,∀s∈Lr aft N s0 j,Gd s
 |0=>λs a=>by obtain rfl:=(by simpa[Lr]using a);omega
 |j+1=>by
  have k:=tq A h0 j;show ∀s∈(match (Lr aft N s0 j)[j]? with|some s=>qs aft N (Lr aft N s0 j) s|none=>Lr aft N s0 j),Gd s;cases e:(Lr aft N s0 j)[j]? with
  |none=>exact k
  |some t=>
   have f:∀(c:List Nat) l,(∀i∈c,i<=N)->(∀s∈l,Gd s)->∀s∈c.foldl (q1 aft t) l,Gd s:=by
    intro c
    induction c with
    |nil=>exact λks _ h=>h
    |cons i c g=>
     intro l d h;refine g _ (λx n=>d x (Ak _ n)) λs a=>?_;unfold q1 at a;cases m:aft t i with
     |none=>rw[m]at a;simp_all
     |some b=>
      rw[m]at a;dsimp only at a
      split at a
      ·exact h s a
      ·rcases A7.mp a with a|a
       ·exact h s a
       ·obtain rfl:=by simpa using a
        exact A t i s (k t (Ay e)) (d i Ap) m
   exact f _ _ (λi d=>E1 (Bx.mp d)) k
theorem Jd(Sa:aJ)(ws:List Wv)(n:Int)(Q:List (TK×Ad)->Int->Prop)(h:lE Sa ws n Q):
  (aq (ni 2 ↥1 (wC .none)) (aq (bx 3 (aN (ao ↥1 ak))) (aq (j8 (ku (cy 3)) (iN Sa 0 2 3)) (mq 2)))) (cL ["programs","stand","steps","stands"] ws) n {nx:=λ_ _=>False,rt:=λ_ _=>False,rx:=Q}:=by
 obtain⟨F,s0,N,aft,E,J,rfl,A,z,B,x,u,q⟩:=h;obtain⟨p,g⟩:=A.tup s0 z;refine⟨s0,_,_,rfl,rfl,⟨rfl,p,g⟩,⟨show 1<=1000 by decide,?_⟩⟩;refine⟨λk δ y=>∃c m f,k=J+1-c/\y=n/\c<=J/\δ=[ae _,ae _,ae (.odx m),ae (.own (f.map (·.1)))]/\Lev aft N s0 c m f/\ParI aft N s0 m/\Syn m (El aft N s0 c),⟨J+1,0,_,_,rfl,rfl,Az _,rfl,Lev.first s0 _,.one,Syn.one⟩,?_⟩
 rintro k δ y ⟨c,m,f,rfl,rfl,K,rfl,L,P,S⟩
 show(if _=ah then _ else _);have d:f.length=(Lr aft N s0 c).length-c:=by rw[L.rs,Dl]
 cases f with
 |nil=>
  have l:(Lr aft N s0 c).length<=c:=by
   simp at d;omega
  have G:Lr aft N s0 c=Lr aft N s0 J:=by
   have:=ph l (J-c);simp_all
  have D:∀k,El aft N s0 (c+k)=El aft N s0 c:=by
   intro k
   induction k with
   |zero=>rfl
   |succ k C=>
    show(match (El aft N s0 (c+k))[c+k]? with|some s=>dM aft N _ s|none=>El aft N s0 (c+k))=_;rw[C,Cr (by have:=congrArg Dn (iT (aft:=aft) (N:=N) (s0:=s0) c);rw[Ab]at this;omega)]
  have I:=D (J-c);exact q m (L.ks.trans G) P (by simp_all)
 |cons t r=>
  have H:=by simp at d;omega
  have v:=JO x;have e:∀s∈t::r,s∈m.map (·.1):=λs i=>by rw[L.ks];rw[L.rs]at i;exact List.mem_of_mem_drop i
  have w:=L.next;refine⟨F,N,aft,E,m,_,A,B,rfl,rfl,rfl,λs i=>tq A.good z c s (by rw[<-L.ks];exact e s i),?_,?_⟩
  ·have:=congrArg Dn w.ks;rw[Ab]at this;rw[this];exact Ba (v _) u
  ·exact⟨_,by omega,_,_,_,rfl,rfl,Ba (v c) x,rfl,w,P.fur _ _ e,S.next L⟩
end Nb
namespace L2
open PySem PySem.Spec PyProof.Rows PySem.W
section
variable{prog:Bb}{w:Bj}{A:Bt}{E:Af->Aj->Prop}{s:Aj}{R:Result->Aj->Prop}
theorem KH:typeLookup (.type "list_reverseiterator") "__len__"=pure af:=by rw[G0,E7];kernel_rfl
theorem P0:typeLookup (.type "list_reverseiterator") "__length_hint__"=pure (ae (.builtin "list_reverseiterator.__length_hint__")):=by rw[G0,E7];kernel_rfl
theorem KG{r:z_}{Q:Bool->Aj->Prop}(ty:s.TypeIs (.ref r) "list_reverseiterator")(h:Q ai s):A6 (A9 prog w) A (Ej (.ref r)) Q E s:=by
 unfold Ej;refine Aa (Gz ty KH ?_)
 wp_delta
 refine Aa (Gz ty P0 ?_);generalize hid:("list_reverseiterator.__length_hint__":String)=id0
 wp_delta
 rw[show splitId id0=ae ("list_reverseiterator","__length_hint__")from by subst hid;decide +kernel];subst hid;refine Aa (D4 (T:="list_reverseiterator") (b:=ah) ty (by rw[Er];kernel_rfl) ?_);refine Fy (λz=>f_ z ∎) (λ_=>?_);refine Fy (λ_=>?_) (λz=>f_ ∅ z);exact Ai h
abbrev EO(items:Array Af):Nat->Af->Prop:=λi v=>items[items.size-1-i]?=ae v
theorem Pu{I l S:z_}{items:Array Af}{res:Af}{c0:Nat}(hh:A.handled=af)(hit:s.heap.IsRevIter I l ((items.size:Int)-1))(hl:s.heap.IsList l items)(hne:l≠I)(hSI:S≠I)(hSl:S≠l)(hS:s.heap.get? S=ae {cls:=.type "list",data:=.seq #[] c0})(hn:items.size<=Aw)
  (fin:∀h' tk i' c,(∀b o,b≠S->b≠I->s.heap.get? b=ae o->h'.get? b=ae o)->h'.get? S=ae {cls:=.type "list",dict:=af,data:=.seq i' c,slots:=#[]}->ItemsOf (EO items) i' items.size->R (.ok (.ret res)) {s with heap:=h',toks:=tk}):
  A6 (A9 prog w) A.in1 (Builtin.List.listExtendWith (.ref S) (.ref I) res) (λfin s'=>match fin with|.done f=>R (.ok f) s'|.again c'=>c'.quiet=ah/\Fz (A9 prog w) A c' R s') (λe s'=>R (.error e) s') s:=by
 have p:S∉[I,l]:=by simp[hSI,hSl]
 have g:∀{h:Heap},h.IsRevIter I l _->h.IsList l items->(0<=items.size/\h.IsRevIter I l ((items.size:Int)-1-((0:Nat):Int))/\h.IsList l items):=λa b=>⟨Az _,by simpa using a,b⟩;have x:∀h d tk,h.IsRevIter I l ((items.size:Int)-1)->h.IsList l items->(∀b o,b≠S->b≠I->s.heap.get? b=ae o->h.get? b=ae o)->h.get? S=ae {cls:=.type "list",data:=.seq #[] d}->Fz (A9 prog w) A (.builtin "list.extend.loop" ⟨[.ref S,.ref I,res],[]⟩) R {s with heap:=h,toks:=tk}:=by
  intro h d tk y v r t;refine codeAny_extend_loopS (Walks.listRev (prog:=prog) (w:=w) (A:=A.in1) hh I l hne items).toS hn S p res items.size 0 _ #[] d rfl (Az _) (g y v) t (ItemsOf.nil _) λs' i' c i n q=>?_;rw[Moved.eq_with i];refine fin s'.heap s'.toks i' c (λb o k j e=>i.heap b o (λz=>?_) (r b o k j e)) n q;rcases Au.mp z with z|z
  ·exact k z
  ·exact j (A2.mp z)
 refine Aa (Fq hit.typeIs ?_);have u:E2 (.ref S) (.ref I)=ai:=by simp[E2,hSI]
 have B:(Dj "list_reverseiterator"==Dj "list")=ai:=by decide
 have C:(Dj "list_reverseiterator"==Dj "tuple")=ai:=by decide
 simp only[u,if_false];refine Aa (wpAny_pyIter_revIter hit (Aa (B7 (KG hit.typeIs ?_))));refine Fy (λz=>?_) (λ_=>Ai ⟨E6 Gu _,x _ c0 _ hit hl (λ_ _ _ _ e=>e) hS⟩);trivial
theorem NV{I l:z_}{items:Array Af}{Q:Af->Aj->Prop}(hh:A.handled=af)(hit:s.heap.IsRevIter I l ((items.size:Int)-1))(hl:s.heap.IsList l items)(hne:l≠I)(hn:items.size<=Aw)
  (fin:∀h' tk i' c,(∀b o,b≠I->s.heap.get? b=ae o->h'.get? b=ae o)->h'.get? s.heap.objs.size=ae {cls:=.type "list",dict:=af,data:=.seq i' c,slots:=#[]}->ItemsOf (EO items) i' items.size->Q (.ref s.heap.objs.size) {s with heap:=h',toks:=tk}):
  A6 (A9 prog w) A (call (.type "list") [.ref I]) Q E s:=by
 refine callType_codes (Q₁:=λv f=>v=.ref s.heap.objs.size/\f={ s with heap:=s.heap.push {cls:=.type "list",data:=.seq #[]}}) PySem.F.called_list (PySem.F.typeCall_list_1 _) PySem.F.entry_list_init (code_list_new _ ⟨rfl,rfl⟩) λv f z=>?_;obtain⟨rfl,rfl⟩:=z;have a:(s.heap.push {cls:=.type "list",data:=.seq #[]}).get? s.heap.objs.size=ae {cls:=.type "list",data:=.seq #[]}:=Av _ rfl;have k:=let⟨_,e,_⟩:=hit;Dy (As e);have i:=let⟨_,e,_⟩:=hl;Dy (As e);refine⟨⟨_,a,rfl⟩,PySem.F.args_list_init_2 _ _,Aa ?_⟩;refine Aa (C8 a rfl (Ai (Aa (wpAny_updateSeq a rfl ?_))));have d:∀b o,s.heap.get? b=ae o->((s.heap.push {cls:=.type "list",data:=.seq #[]}).update s.heap.objs.size (Ea (λ_=>(#[]:Array Af)))).get? b=ae o:=
  λb o e=>(Dg _ _ (Dy (As e))).trans (Ae _ e)
 refine Aa (wpAny_letGo (Pu hh (hit.at λo e=>d _ o e) (hl.at λo e=>d _ o e) hne k i (Bn (Ea (λ_=>(#[]:Array Af))) a rfl) hn λh' tk i' c j h g=>?_));exact⟨rfl,fin h' tk i' c (λb o n e=>j b o (Be (As e)) n (d b o e)) h g⟩
end
def yi(te:TE):TE:=λσ H Q=>te σ H λx H1=>∃a xs,x=.ref a/\H1 a=ae (.lst xs)/\∀l,H1 l=af->Q (.ref l) (upd H1 l (.lst xs.reverse))
theorem Ku{X:Cx}{e:Expr}{te:TE}{p1 p2 pos1 pos2:Pos}(hh:X.A.handled=af)(gl:Gl X "list")(ml:X.mg "list"=af)(gr:Gl X "reversed")(mr:X.mg "reversed"=af)(bl:Bm "list"=ae (.type "list"))(br:Bm "reversed"=ae (.type "reversed"))(he:PE X e te)
  (h1:Ar [e] X.env=(ai,eval e X.env)::Ar [] X.env:=by rfl) (h2:(Cp pos2 (Ar [] X.env)).any (·.1)=ai:=by rfl)
  (h3:Ar [.Call (.Name "reversed" p2) [e] [] pos2] X.env=(ai,eval (.Call (.Name "reversed" p2) [e] [] pos2) X.env)::Ar [] X.env:=by rfl) (h4:(Cp pos1 (Ar [] X.env)).any (·.1)=ai:=by rfl):
  PE X (.Call (.Name "list" p1) [.Call (.Name "reversed" p2) [e] [] pos2] [] pos1) (yi te):=by
 intro l s σ H Q I h;refine F6 (jv I gl ml bl (C3 (Calls.spliced_cons ?_) h3 h4) ∎ ∎);refine F6 (jv I gr mr br (C3 ?_ h1 h2) ∎ ∎);rw[h1];refine Calls.spliced_cons (aO (he l s σ H _ I h) λu t ⟨x,K,r,C,q⟩=>Calls.spliced_nil ?_);obtain⟨a,E,rfl,G,q⟩:=q;obtain rfl:=C;obtain⟨z,d,n,D,B,y⟩:=r.lstM G;have k:t.heap.IsList a d.toArray:=⟨_,y,rfl,_,rfl⟩;refine call_reversed_list k (Calls.spliced_nil ?_);refine NV hh ⟨_,Av _ rfl,rfl,rfl⟩ (k.at λo e=>Ae _ e) (Be (As y)) (by rw[Bd,<-B];exact z) λh' J f c F v p=>?_;have L:(t.heap.push (revObj a ((d.toArray.size:Int)-1))).objs.size=t.heap.objs.size+1:=by simp
 have i:f=d.reverse.toArray:=by
  apply Gc.mp;apply List.ext_getElem?;intro j;by_cases w:j < d.length
  ·have g:j < f.size:=by rw[p.1];simpa using w
   have:=p.2 j f[j] (Ca g);rw[D1,Ca g,<-this];simp[w]
  ·rw[D1,Array.getElem?_eq_none (by rw[p.1];simp;omega)];simp;omega
 rw[i]at v;refine⟨.ref _,_,r.laid (o:=.lst E.reverse) (λb o e=>F b o (Be (As e)) (Ae _ e)) (by simp) ⟨by rw[List.length_reverse];exact z,d.reverse,c,D.reverse,v⟩,rfl,q _ (r.hok.fresh (by simp))⟩
end L2
namespace DL
open PySem L2 Nb
section
variable{X:Cx}{o:Expr}{td:TE}{wd':DT}
def tD(w:DT):d6:=λδ n Q=>w δ n λx n1=>∃ds,x=.ln ds/\Q ds.reverse n1
theorem RO{p1 p2 pos1 pos2:Pos}(hh:X.A.handled=af)(gl:Gl X "list")(ml:X.mg "list"=af)(gr:Gl X "reversed")(mr:X.mg "reversed"=af)(ho:DE X o td wd')
  (h1:Ar [o] X.env=(ai,eval o X.env)::Ar [] X.env:=by rfl) (h2:(Cp pos2 (Ar [] X.env)).any (·.1)=ai:=by rfl)
  (h3:Ar [.Call (.Name "reversed" p2) [o] [] pos2] X.env=(ai,eval (.Call (.Name "reversed" p2) [o] [] pos2) X.env)::Ar [] X.env:=by rfl) (h4:(Cp pos1 (Ar [] X.env)).any (·.1)=ai:=by rfl):
  DF X (.Call (.Name "list" p1) [.Call (.Name "reversed" p2) [o] [] pos2] [] pos1) (yi td) (tD wd'):=by
 refine⟨Ku hh gl ml gr mr o4 rfl ho.pe h1 h2 h3 h4,λC H B σ δ n Q m R q k=>ho.sd C H B σ δ n _ _ R q λv x l f d e i c=>?_⟩;obtain⟨s,rfl,c⟩:=c;obtain⟨a,g,rfl,j,r,p,h⟩:=i;exact⟨a,g,rfl,j,λL b=>k L _ _ _ f (d.new b) (e.trans (Kp.new b)) (d.was e b) bj (by rw[List.length_reverse];omega) ((RdXs.rev h).fresh b) c⟩
end
end DL
namespace Nb
open PySem L2 DL
def lG:ee:=λws n Q=>∃(m:List (TK×Ad))(k:TK)(ms:List Nat),ws=[.ob (.y m),.d k.1]/\Way m k ms/\ms.length < 1000/\(∀j d,aW m j=ae d->∃ds,j.1=.tuple ds)/\Q (ms.reverse.map λi=>.int (i:Nat)) n
theorem Way.val{m:List (TK×Ad)}{k:TK}{ms:List Nat}(w:Way m k ms):∃d,aW m k=ae d:=by
 cases w with
 |root e=>exact⟨_,e⟩
 |step e _=>exact⟨_,e⟩
theorem PU(ws:List Wv)(n:Int)(Q:List Ad->Int->Prop)(h:lG ws n Q):
  (aq (bx 2 (aN ak)) (aq (ax 3 (w2 (b5 0) ↥1 iB)) (aq (j8 (cT (w2 ↥3 (wC .none) (bc ah))) (aq (aY 2 (w2 ↥3 ⇑1 aU)) (ax 3 (w2 (b5 0) (w2 ↥3 ⇑0 aU) iB)))) (vL (tD (cy 2)))))) (cL ["steps","stand","movers","step"] ws) n {nx:=λ_ _=>False,rt:=λ_ _=>False,rn:=Q}:=by
 obtain⟨m,k,t,rfl,w,x,r,q⟩:=h;obtain⟨f,j⟩:=w.val;refine⟨Az _,⟨m,k.1,k,f,.inr rfl,rfl,⟨rfl,r k f j⟩,j,?_⟩⟩;refine⟨λz δ u=>∃(c a:List Nat)(s:TK)(d:Ad),z=a.length/\u=n/\t=c++a/\Way m s a/\aW m s=ae d/\δ=[ae _,ae _,ae (.own (c.map λi=>.int (i:Nat))),↑d],⟨_,[],t,k,f,rfl,rfl,rfl,w,j,rfl⟩,?_⟩
 rintro z δ u ⟨c,a,s,d,rfl,rfl,rfl,w,e,rfl⟩
 cases w with
 |root b=>
  rw[e]at b;cases b;refine⟨_,rfl,?_⟩;rw[Bh]at q;rw[<-List.map_reverse];exact q
 |@step _ o y a b v=>
  rw[e]at b;cases b;obtain⟨g,l⟩:=v.val;refine⟨by rw[Ab];rw[An]at x;omega,⟨m,_,o,g,.inr rfl,rfl,⟨rfl,r o g l⟩,l,?_⟩⟩;exact⟨_,Nat.lt_succ_self _,c++[y],a,o,g,rfl,rfl,by simp,v,l,by simp⟩
def l9(Ss:aJ):aJ:=λws n Q=>∃(pd:Ad)(m:List (TK×Ad))(sg:Ad)(see:TK->Bool),ws=[.d pd,.ob (.y m),.d sg]/\m.length<=1000/\(∀k∈m.map (·.1),∀(n:Int)(R:DQ),R (.d (.bool (see k))) n->Ss [.d pd,.d k.1,.d sg] n R) /\
 Q (.d (match (m.map (·.1)).find? see with|some k=>k.1|none=>.none)) n
theorem L3(Ss:aJ)(ws:List Wv)(n:Int)(Q:DQ)(h:l9 Ss ws n Q):
  (aq (aP (ib ↥1) (aG 3) (aI (cT (aA Ss (ao ↥0 (ao ↥3 (ao ↥2 ak))))) (aw ↥3) aD)) (aw (wC .none))) (cL ["programs","stands","sight","stand"] ws) n {nx:=λ_ _=>False,rt:=Q}:=by
 obtain⟨g,m,i,a,rfl,l,t,q⟩:=h;refine⟨m,rfl,l,?_⟩;have e:(m.map λp=>p.1.1)=(m.map (·.1)).map (·.1):=by rw[B4];rfl
 rw[e];have c:∀(b:List TK) o,(∀k∈b,∀n R,R (.d (.bool (a k))) n->Ss [.d g,.d k.1,.d i] n R)->Q (.d (match b.find? a with|some k=>k.1|none=>.none)) n->
   dw (aG 3) (aI (cT (aA Ss (ao ↥0 (ao ↥3 (ao ↥2 ak))))) (aw ↥3) aD) {nx:=λδ n=>aw (wC .none) δ n {nx:=λ_ _=>False,rt:=Q},rt:=Q} (b.map (·.1)) [↑g,ae (.w (.ob (.y m))),↑i,o] n:=by
  intro b
  induction b with
  |nil=>exact λo _ q=>q
  |cons k b s=>
   intro o f q;refine f k Ap n _ ?_;rw[List.find?_cons]at q;cases z:a k with
   |true=>
    rw[z]at q;exact q
   |false=>
    rw[z]at q;exact s _ (λj r=>f j (Ak _ r)) q
 exact c _ af t q
end Nb
namespace DL
open PySem L2 Nb
abbrev jl:=List Wv->Int->(Option (List (TK×Ad))->Int->Prop)->Prop
def mV(S:jl):Sp:=λvs H Q _=>∃(t:z_)(l:TL)(ns:List Int)(B:z_->Prop)(ws:List Wv)(n:Int)(Q0:Option (List (TK×Ad))->Int->Prop),Tp H t l ns n/\B t/\(∀b,B b->H b≠af)/\ARel H B t vs ws/\S ws n Q0 /\
 (∀n',Q0 af n'->∀H',Tp H' t l ns n'->Kp t H H'->Q .non H') /\
 ∀kvs n',Q0 (ae kvs) n'->∀a l' H',Tp H' t l ns n'->Kp t H H'->H a=af->H' a=ae (.dX l')->l'.length<=1000->RdY H' (λb=>B b\/b=a) l' kvs->Q (.ref a) H'
structure HasXO(P:Bb)(w:Bj)(K:Ag)(mg:Str->Option Af)(base:Heap)(k:Nat)(x:Str)(ps:List Str)(S:jl):Prop where
 ex:∃(f:z_)(fd:B8),FnOk P w K mg base b6 k f fd ps (mV S)/\Binds K fd ps []/\mg x=ae (.ref f)/\Co K (.ref f)=ah
theorem HasXO.mk'{P:Bb}{w:Bj}{K:Ag}{mg:Str->Option Af}{base:Heap}{k:Nat}{x qual:Str}{st:Stmt}{ps:List Str}{S:jl}{f:z_}{fd:B8}(F:Fun K x qual st f fd)(m:mg x=ae (.ref f))(b:Binds K fd ps [])(h:FnOk P w K mg base b6 k f fd ps (mV S)):HasXO P w K mg base k x ps S:=⟨f,fd,h,b,m,F.kp⟩
def rr:Option (List (TK×Ad))->SV
 |none=>.w (.d .none)
 |some kvs=>.odx kvs
section
variable{X:Cx}{e:Expr}{es:List Expr}{pos p:Pos}{tR:TA}{wR:cY}{te:TE}{we:DT}
def sY(i:Nat)(S:jl)(w:cY):aH:=λδ n K=>w δ n λxs n1=>S xs n1 λr n2=>K.nx (δ.set i (ae (rr r))) n2
theorem Ng{i:Nat}{x:Str}{pos' cp:Pos}{k:Nat}{ps:List Str}{S:jl}{f:Str}(h:HasXO X.prog X.w X.K X.mg X.base k f ps S)(hr:Room k X.A)(hg:Gl X f)(hN:X.N.Nodup)(hi:X.N[i]?=ae x)(hx:eZ X.env.scope x)(ha:DA X (e::es) tR wR)
  (hs:Ci (.Call (.Name f p) (e::es) [] cp) (ae (.Name x pos')) pos.line X.env=pure ai:=by rfl) (hf:X.fn x=ah\/X.env.scope.names.lookup x=ae .local:=by first|exact .inl rfl|exact .inr rfl|assumption)
  (hdb:(f==("__debug__":Str))=ai:=by decide) (he:Ar (e::es) X.env=(ai,eval e X.env)::Ar es X.env:=by rfl) (p_:(Cp cp (Ar es X.env)).any (·.1)=ai:=by rfl):
  DS X (.Assign [.Name x pos'] (.Call (.Name f p) (e::es) [] cp) pos) (bz (eL (mV S) [] E0 tR) (df i)) (sY i S wR):=by
 obtain⟨g,U,J,y,z,F⟩:=h.ex;refine⟨fC hN hi hx (jN J hr hg z F y .nil jC ha.pa hdb he p_) hs hf,λC H B σ δ n K D R q E=>ha.sd C H B σ δ n _ _ R q λvs O T L b u P I=>⟨C.t,C.l,_,B,O,L,_,b.tp,b.bt,b.ba,by rw[Bh];exact P,I,λn' m M r j=>?_,λkvs Q m a G M r j v c o s=>?_⟩⟩
 ·exact E.nx _ _ _ _ _ ((b.step r j).set (x:=.d .none) .non rfl) m
 ·refine E.nx _ _ _ _ _ (R.own (b.step r j) (u.trans j) (b.was u v) (by rw[c];simp) rfl ?_) m;exact⟨a,G,rfl,c,.inr rfl,R.h0 (b.was u v),o,s⟩
end
section
variable{P:Bb}{w:Bj}{K:Ag}{mg:Str->Option Af}{base:Heap}
theorem Fun.okXO{x qual:Str}{st:Stmt}{f:z_}{fd:B8}{N ps:List Str}{k:Nat}{S:jl}(F:Fun K x qual st f fd)(Sc:FnScope N ps (bN st))(len:∀ws n Q,S ws n Q->ws.length=ps.length)
  (hbody:∀(m_:Af)(A:Bt)(outer:List Env)(s:Aj)(H:Hp)(E:XK),Room k (A.deeper (Ct qual (bN st) s.heap.objs.size f m_))->
   ∃T W,DSs (cn b6 P w K mg base N qual (bN st) f m_ A outer s H E).nox (eF st) T W/\∀ws n Q,S ws n Q->W (cL N ws) n {nx:=λ_ _=>False,rt:=λw n=>w=.d .none/\Q af n,rx:=λkvs n=>Q (ae kvs) n}):FnOk P w K mg base b6 (k+1) f fd ps (mV S):=by
 refine F.ok Sc (λvs H Q E h=>?_) (λm_ A outer s H vs Q E V h=>?_)
 ·obtain⟨t,l,G,B,ws,n,i,_,_,_,r,q,_⟩:=h;rw[r.len];exact len ws n i q
 ·obtain⟨t,l,G,B,ws,n,i,T,u,M,r,q,Z,U⟩:=h;obtain⟨O,W,d,R⟩:=hbody m_ A outer s H E V;refine⟨O,d.ps,d.sd _ H B _ _ n _ _ (rg T u M r) (R ws n i q) ⟨?_,?_,?_,?_,?_,?_⟩⟩
  ·exact λ_ _ _ _ _ _ z=>z.elim
  ·intro H' Y σ δ j v w' c L z;obtain⟨rfl,g⟩:=z;have X:v=.non:=by cases(L);rfl
   subst X;exact Z j g H' c.tp c.kp
  ·exact λ_ _ _ _ _ _ z=>z.elim
  ·exact λ_ _ _ _ _ _ z=>z.elim
  ·exact λ_ _ _ _ _ _ _ _ _ _ _ _ _ z=>z.elim
  ·exact λH' Y σ δ j a C kvs c I J p y g=>U _ _ g a C H' c.tp c.kp I J p (y.move λb o e D=>⟨e,λz=>D (z.elim (λz=>.inl (c.b0 b z)) .inr)⟩)
end
def nM(neg:Bool):Wv->Wv->Int->DQ->Prop:=λx y n Q=>(∃kvs,x=.dx kvs/\y=.d .none/\Q (.d (.bool neg)) n)\/iG neg x y n Q
theorem Se:bh (λx y H Q=>y=.non/\Q (.bl (decide (x=.non))) H) (nM ai):=λC H B σ δ n x y p q Q f R c d b k=>by
 rcases b with⟨e,rfl,rfl,b⟩|b
 ·obtain⟨a,l,rfl,_⟩:=c;cases(d);exact⟨rfl,k _ _ H n R (Kp.refl _ _) (by exact .bl ai) b⟩
 ·exact Ho C H B σ δ n x y p q Q f R c d b k
end DL
namespace Nb
open PySem L2 DL
theorem sW{ds:List Ad}{i:Int}{d:Ad}{n:Int}{Q:DQ}(h:cX ds i=ae d)(q:Q (.d d) n):aU (.ln ds) (.d (.int i)) n Q:=by
 show(match cX ds i with|some d=>Q _ n|none=>False);simp_all
theorem wG{a b:Ad}{r:Bool}{n:Int}{Q:DQ}(h:eW a b=ae r)(q:Q (.d (.bool r)) n):bL (.d a) (.d b) n Q:=by
 show(match eW a b with|some r=>Q _ n|none=>False);simp_all
abbrev eY(E:List (TK×Nat)):List (TK×Ad):=E.map λe=>(e.1,.int (e.2:Nat))
abbrev ky(E:List (TK×Nat)):List Ad:=E.map λe=>e.1.1
def fg(aft:TK->Nat->Option TK)(N:Nat)(s:TK):List Nat:=(A8 (N+1)).filter λi=>(aft s i).isSome
structure GoOk(Sm Sl:aJ)(pd:Ad)(N:Nat)(aft:TK->Nat->Option TK)(Gd:TK->Prop):Prop where
 mv:∀(s:TK)(n:Int)(R:DQ),Gd s->R (.d (.list ((fg aft N s).map λi=>.int (i:Nat)))) n->Sm [.d pd,.d s.1] n R
 go:∀(s:TK)(i:Nat)(b:TK)(n:Int)(R:DQ),Gd s->aft s i=ae b->R (.d b.1) n->Sl [.d pd,.d s.1,.d (.int (i:Nat))] n R
 tup:∀k:TK,Gd k->∃ds,k.1=.tuple ds
 good:∀(s:TK)(i:Nat)(b:TK),Gd s->i<=N->aft s i=ae b->Gd b
structure GoL(Sm Sl:aJ)(pd:Ad)(N:Nat)(aft:TK->Nat->Option TK)(Gk:Nat->TK->Prop):Prop where
 mv:∀(c:Nat)(s:TK)(n:Int)(R:DQ),Gk (c+1) s->R (.d (.list ((fg aft N s).map λi=>.int (i:Nat)))) n->Sm [.d pd,.d s.1] n R
 go:∀(c:Nat)(s:TK)(i:Nat)(b:TK)(n:Int)(R:DQ),Gk (c+1) s->aft s i=ae b->R (.d b.1) n->Sl [.d pd,.d s.1,.d (.int (i:Nat))] n R
 tup:∀(c:Nat)(k:TK),Gk c k->∃ds,k.1=.tuple ds
 good:∀(c:Nat)(s:TK)(i:Nat)(b:TK),Gk (c+1) s->i<=N->aft s i=ae b->Gk c b
theorem qf{N M:Nat}{aft:TK->Nat->Option TK}{Gk:Nat->TK->Prop}{s0:TK}(A:∀(c:Nat) (s:TK) (i:Nat) (b:TK),Gk (c+1) s->i<=N->aft s i=ae b->Gk c b)(h0:Gk (M+1) s0):∀j,(El aft N s0 j).length<=M->∀e∈El aft N s0 j,e.2 < (El aft N s0 j).length/\Gk (M+1-e.2) e.1
 |0=>λ_ e a=>by obtain rfl:=(by simpa[El]using a);exact⟨Nat.zero_lt_one,h0⟩
 |j+1=>by
  have p:=qf A h0 j;show(match _[j]? with|some s=>dM aft N _ s|none=>El aft N s0 j).length<=M->∀e∈(match (El aft N s0 j)[j]? with|some s=>dM aft N (El aft N s0 j) s|none=>El aft N s0 j),e.2 < (match (El aft N s0 j)[j]? with|some s=>dM aft N (El aft N s0 j) s|none=>El aft N s0 j).length/\_;cases t:(El aft N s0 j)[j]? with
  |none=>exact p
  |some s=>
   have m:∀(d:List Nat) E,(∀i∈d,i<=N)->s∈E->(d.foldl (dS aft s) E).length<=M->(∀e∈E,e.2 < E.length/\Gk (M+1-e.2) e.1)->∀e∈d.foldl (dS aft s) E,e.2 < (d.foldl (dS aft s) E).length/\Gk (M+1-e.2) e.1:=by
    intro d
    induction d with
    |nil=>exact λE _ _ _ h=>h
    |cons i d n=>
     intro E k q hl h;have u:E <+: dS aft s E i:=mE s E i;refine n _ (λx v=>k x (Ak _ v)) (u.subset q) hl ?_;have g:=Ba (lL _ (mE s) d _).length_le hl;unfold dS at g ⊢;cases r:aft s.1 i with
     |none=>exact h
     |some b=>
      rw[r]at g;dsimp only at g ⊢
      split
      ·exact h
      ·rename_i z;rw[a_ z,An,A1]at g;rw[An,A1];intro e a;rcases A7.mp a with a|a
       ·exact⟨by have:=(h e a).1;omega,(h e a).2⟩
       ·obtain rfl:=by simpa using a
        obtain⟨w,o⟩:=h s q;refine⟨by omega,?_⟩;rw[show M+1-s.2=(M+1-(s.2+1))+1 by omega]at o;exact A _ s.1 i b o (k i Ap) r
   exact λhl=>m _ _ (λi k=>E1 (Bx.mp k)) (Ay t) hl (p (Ba (Lm _ s).length_le hl))
def oE(Sm Sl:aJ):jl:=λws n Q=>∃(pd:Ad)(s0:TK)(M:Nat)(N:Nat)(aft:TK->Nat->Option TK)(Gk:Nat->TK->Prop),ws=[.d pd,.d s0.1,.d (.int (M:Nat))]/\GoL Sm Sl pd N aft Gk/\Gk (M+1) s0/\1<=M/\M<=900/\Q af n /\
 ∀J,(El aft N s0 J).length<=J->(El aft N s0 J).length<=M->Q (ae (eY (El aft N s0 J))) n
theorem Nu(E:List (TK×Nat)):(eY E).map (·.1)=E.map (·.1):=by rw[B4];rfl
theorem t6{aft:TK->Nat->Option TK}{s:TK×Nat}:∀(is:List Nat)(E:List (TK×Nat)),(is.filter λi=>(aft s.1 i).isSome).foldl (dS aft s) E=is.foldl (dS aft s) E
 |[],_=>rfl
 |i::is,E=>by
  rw[Eh];cases e:aft s.1 i with
  |none=>
   rw[a_ (by simp),Ew,t6 is]
   congr 1
   unfold dS;rw[e]
  |some b=>rw[a' (by simp),Ew,Ew,t6 is]
theorem AL{E:List (TK×Nat)}{s:TK×Nat}(nd:(E.map (·.1)).Nodup)(h:s∈E):aW (eY E) s.1=ae (.int (s.2:Nat)):=by
 induction E with
 |nil=>exact nomatch h
 |cons e E a=>
  rw[Bo,Du]at nd;rcases Au.mp h with rfl|h
  ·simp[aW]
  ·have b:¬e.1=s.1:=λz=>nd.1 (z▸A5.mpr ⟨s,h,rfl⟩);have:=a nd.2 h;unfold aW at this ⊢;rw[eY,Bo,List.find?_cons];simp only[b,decide_false];omega
theorem xg{aft:TK->Nat->Option TK}{s:TK×Nat}{E:List (TK×Nat)}{i:Nat}(nd:(E.map (·.1)).Nodup):((dS aft s E i).map (·.1)).Nodup:=by
 unfold dS
 split
 ·exact nd
 ·split
  ·exact nd
  ·rename_i z;rw[Bc,F2];refine⟨nd,by simp,λa d b c=>?_⟩;obtain rfl:=by simpa using c
   exact λe=>z (e▸d)
abbrev uN(Sm Sl:aJ):aH:=aq (ax 7 (aA Sl (ao ↥0 (ao (w2 (cy 4) ↥5 aU) (ao ↥6 ak))))) (aI (cT (w2 ↥7 (b5 3) (fo ah))) (aq (aI (cT (w2 (wB d7 (ao (cy 4) ak)) ↥2 bL)) (aw (wC .none)) aD) (aq (jZ 3 ↥7 (w2 (w2 (b5 3) (w2 (cy 4) ↥5 aU) iB) ⇑1 (b9 λi j=>.int (i+j)))) (aY 4 ↥7))) aD)
abbrev kb(pd:Ad)(s0:TK)(M j:Nat)(E:List (TK×Nat))(o6 o7:Option SV):Sl:=[↑pd,↑s0.1,↑(.int (M:Nat)),ae (.odx (eY E)),ae (.own (ky E)),↑(.int (j:Nat)),o6,o7]
theorem Jz{Sm Sl:aJ}{pd:Ad}{N:Nat}{aft:TK->Nat->Option TK}{Gk:Nat->TK->Prop}{c:Nat}(A:GoL Sm Sl pd N aft Gk){s0:TK}{M j i:Nat}{E:List (TK×Nat)}{s:TK×Nat}{b:TK}{o7:Option SV}{n:Int}{K:DEnds}(hs:E[j]?=ae s)(gs:Gk (c+1) s.1)(nd:(E.map (·.1)).Nodup)(hi:i<=N)(e:aft s.1 i=ae b)(hM:E.length<=M)(hM2:M<=900)
  (k0:K.rt (.d .none) n) (k1:∀o,(dS aft s E i).length<=M->K.nx (kb pd s0 M j (dS aft s E i) (↑(.int (i:Nat))) o) n):uN Sm Sl (kb pd s0 M j E (↑(.int (i:Nat))) o7) n K:=by
 have G:cX _ _=ae s.1.1:=eH (by rw[Am,hs];rfl);have O:=A.good _ s.1 i b gs hi e;show aU (.ln _) (.d (.int _)) n (λx Y=>Sl [.d pd,x,.d _] Y _);refine sW G (A.go _ s.1 i b n _ gs e ?_);refine⟨_,b.1,b,.inl rfl,rfl,⟨rfl,A.tup _ b O⟩,?_⟩;have P:(aW (eY E) b).isSome=decide (b∈E.map (·.1)):=by
  have:=ic (eY E) b;rw[Nu]at this;by_cases z:b∈E.map (·.1)
  ·rw[b_ z];simp_all
  ·rw[c_ z];cases q:(aW _ b).isSome with
   |false=>rfl
   |true=>exact f_ (this.mp q) z
 rw[P];by_cases z:b∈E.map (·.1)
 ·rw[b_ z];have J:dS aft s E i=E:=by unfold dS;rw[e];dsimp only;rw[a' z]
  rw[J]at k1;exact k1 _ hM
 ·rw[c_ z];have J:dS aft s E i=E++[(b,s.2+1)]:=by unfold dS;rw[e];dsimp only;rw[a_ z]
  rw[J]at k1;have F:aq (aI (cT (w2 (wB d7 (ao (cy 4) ak)) ↥2 bL)) (aw (wC .none)) aD) (aq (jZ 3 ↥7 (w2 (w2 (b5 3) (w2 (cy 4) ↥5 aU) iB) ⇑1 (b9 λi j=>.int (i+j)))) (aY 4 ↥7)) (kb pd s0 M j E (↑(.int i)) (↑b.1)) n K:=by
   by_cases U:E.length=M
   ·have:eW (.int ((ky E).length:Int)) (.int M)=ae ah:=by
     rw[Ab,U];simp[eW]
    dsimp only[aq,aI,cT,w2,wB,ao,ak,cy,aj,d7,B9];exact wG this k0
   ·have:eW (.int ((ky E).length:Int)) (.int M)=ae ai:=by
     simp[eW];omega
    dsimp only[aq,aI,cT,w2,wB,ao,ak,cy,aj,d7,B9];refine wG this ?_;dsimp only;rw[a_ A3];dsimp only[aD,jZ,w2,b5,cy,aj,B9];refine sW G ⟨_,_,s.1,_,.inl rfl,rfl,⟨rfl,A.tup _ s.1 gs⟩,AL nd (Ay hs),?_⟩;refine⟨_,rfl,b,_,b.1,rfl,rfl,⟨rfl,A.tup _ b O⟩,by rw[Ab];omega,?_⟩;have W:fi (eY E) b (.int ((s.2:Nat)+1:Int))=eY (E++[(b,s.2+1)]):=by
     unfold fi;rw[a_ (by rw[P,c_ z];decide),eY,eY,Bc];rfl
    refine⟨by rw[Ab];omega,?_⟩;have:=k1 (↑b.1) (by rw[An,A1];omega);rw[kb,ky,Bc]at this;rw[W];exact this
  exact F
theorem CC{Sm Sl:aJ}{pd:Ad}{N:Nat}{aft:TK->Nat->Option TK}{Gk:Nat->TK->Prop}{c:Nat}(A:GoL Sm Sl pd N aft Gk){s0:TK}{M j:Nat}{s:TK×Nat}{n:Int}{K:DEnds}(gs:Gk (c+1) s.1)(hM2:M<=900)(k0:K.rt (.d .none) n):
  ∀(is:List Nat)(E:List (TK×Nat))(o6 o7:Option SV),(∀i∈is,i<=N/\(aft s.1 i).isSome=ah)->E[j]?=ae s->(E.map (·.1)).Nodup->E.length<=M->
   (∀o6 o7,(is.foldl (dS aft s) E).length<=M->((is.foldl (dS aft s) E).map (·.1)).Nodup->K.nx (kb pd s0 M j (is.foldl (dS aft s) E) o6 o7) n)->dw (aG 6) (uN Sm Sl) K (is.map λi=>.int (i:Nat)) (kb pd s0 M j E o6 o7) n
 |[],E,o6,o7,_,_,a,f,g=>g o6 o7 f a
 |i::is,E,o6,o7,h,k,a,f,g=>by
  obtain⟨p,l⟩:=h i Ap;obtain⟨b,e⟩:=C1.mp l;exact Jz A k gs a p e f hM2 k0 λo m=>CC A gs hM2 k0 is _ _ o (λx q=>h x (Ak _ q)) (by rw[qD (mE s E i) (Aq.mp k).1];omega) (xg a) m g
abbrev Za:List Str:=["_law_programs","_law_stand_here","_law_most","_law_found","_law_line","_law_at","_law_mover","_law_behind"]
theorem LN(Sm Sl:aJ)(ws:List Wv)(n:Int)(Q:Option (List (TK×Ad))->Int->Prop)(h:oE Sm Sl ws n Q):
  (aq (ni 3 ↥1 ⇑0) (aq (bx 4 (aN (ao ↥1 ak))) (aq (ax 5 ⇑0) (aq (j8 (cT (w2 ↥5 (wB d7 (ao (cy 4) ak)) fw)) (aq (aP (dY (aA Sm (ao ↥0 (ao (w2 (cy 4) ↥5 aU) ak)))) (aG 6) (uN Sm Sl)) (ax 5 (w2 ↥5 ⇑1 (b9 λi j=>.int (i+j)))))) (mq 3)))))
   (cL Za ws) n {nx:=λ_ _=>False,rt:=λw n=>w=.d .none/\Q af n,rx:=λkvs n=>Q (ae kvs) n}:=by
 obtain⟨H,b,M,N,a,J,rfl,A,B,l,u,F,I⟩:=h;refine⟨b,_,_,rfl,rfl,⟨rfl,A.tup _ b B⟩,⟨show 1<=1000 by decide,?_⟩⟩;refine⟨λk δ o=>∃j o6 g,k=M+1-j/\o=n/\j<=(El a N b j).length/\(El a N b j).length<=M/\((El a N b j).map (·.1)).Nodup/\δ=kb H b M j (El a N b j) o6 g,⟨M+1,0,_,_,rfl,rfl,Az _,l,by simp[El],rfl⟩,?_⟩
 rintro k δ o ⟨j,o6,g,rfl,rfl,O,q,K,rfl⟩
 by_cases z:j < (El a N b j).length
 ·have p:=Ah z;have r:cX (ky _) _=ae (El a N b j)[j].1.1:=eH (by rw[Am,p];rfl);have C:J ((M-(El a N b j)[j].2)+1) (El a N b j)[j].1:=by
   obtain⟨y,v⟩:=qf A.good B j q _ (Ck z);rw[show M-(El a N b j)[j].2+1=M+1-(El a N b j)[j].2 by omega];omega
  have m:decide (j < ((ky (El a N b j)).length:Int))=ah:=b_ (by rw[Ab];omega);have D:El a N b (j+1)=(fg a N (El a N b j)[j].1).foldl (dS a (El a N b j)[j]) (El a N b j):=by
   show(match _[j]? with|some s=>dM a N _ s|none=>El a N b j)=_;rw[p];unfold fg;rw[t6];rfl
  show(if decide _=ah then _ else _);rw[m,a' rfl];dsimp only[aq,aP,dY,aA,ao,w2,cy,aj,B9];refine sW r (A.mv _ _ o _ C (CC A C u ?_ _ _ _ _ (λi G=>?_) p K q λo6 g x e=>?_))
  ·exact⟨rfl,F⟩
  ·obtain⟨y,v⟩:=Cw.mp G;exact⟨E1 (Bx.mp y),v⟩
  ·rw[<-D]at x e ⊢;have L:(El a N b j).length<=(El a N b (j+1)).length:=by rw[D];exact(lL _ (mE _) _ _).length_le
   exact⟨_,by omega,j+1,o6,g,rfl,rfl,by omega,x,e,rfl⟩
 ·have m:decide (j < ((ky (El a N b j)).length:Int))=ai:=c_ (by rw[Ab];omega);show(if decide _=ah then _ else _);rw[m];exact I j (Nat.le_of_not_lt z) q
def l5(Sm Sl:aJ):aJ:=λws n Q=>∃(pd:Ad)(s b:TK)(ms:List Nat)(N:Nat)(aft:TK->Nat->Option TK)(Gd:TK->Prop),ws=[.d pd,.d s.1,.d (.list (ms.map λi=>.int (i:Nat)))]/\GoOk Sm Sl pd N aft Gd/\Gd s/\(∀i∈ms,i<=N)/\gf aft s ms=ae b/\Q (.d b.1) n
theorem L0{is:List Nat}{i:Nat}(h:i∈is):bW (.int (i:Nat)) (is.map λi=>.int (i:Nat))=ah:=by
 unfold bW;rw[List.any_map,Cm];exact⟨i,h,by simp[lB]⟩
theorem KW(is:List Nat):(is.map λi=>Fp (i:Nat)).all eI=ah:=by
 rw[List.all_map,Cy];exact λ_ _=>rfl
abbrev Zh:List Str:=["_law_programs","_law_stand_here","_law_movers_here","_law_mover"]
theorem Ja(Sm Sl:aJ)(ws:List Wv)(n:Int)(Q:DQ)(h:l5 Sm Sl ws n Q):
  (aq (aP (dY ↥2) (aG 3) (aq (aI (d0 (cT (bU "bool" ↥3)) (d0 (cH (cT (bU "int" ↥3))) (cT (w2 ↥3 (aA Sm (ao ↥0 (ao ↥1 ak))) (dP ah))))) (aw (wC .none)) aD) (ax 1 (aA Sl (ao ↥0 (ao ↥1 (ao ↥3 ak))))))) (aw ↥1)) (cL Zh ws) n {nx:=λ_ _=>False,rt:=Q}:=by
 obtain⟨B,s,b,z,N,f,v,rfl,A,j,l,a,q⟩:=h;have k:∀g s m o,v s->(∀i∈g,i<=N)->gf f s g=ae b->
   dw (aG 3) (aq (aI (d0 (cT (bU "bool" ↥3)) (d0 (cH (cT (bU "int" ↥3))) (cT (w2 ↥3 (aA Sm (ao ↥0 (ao ↥1 ak))) (dP ah))))) (aw (wC .none)) aD) (ax 1 (aA Sl (ao ↥0 (ao ↥1 (ao ↥3 ak)))))) {nx:=λδ n=>aw ↥1 δ n {nx:=λ_ _=>False,rt:=Q},rt:=Q} (g.map λi=>.int (i:Nat)) [↑B,↑s.1,↑m,o] n:=by
  intro g
  induction g with
  |nil=>
   intro s m o _ _ a;have e:=Bq a;subst e;exact q
  |cons i g u=>
   intro s m o j l a;cases e:f s i with
   |none=>rw[gf,e]at a;cases a
   |some c=>
    rw[gf,e]at a;have t:=l i Ap;have p:i∈fg f N s:=Cw.mpr ⟨Bx.mpr (Nat.lt_succ_of_le t),by simp_all⟩;rw[Bo];dsimp only[dw,aq,aI,d0,cT,gW];refine A.mv s n _ j ⟨rfl,KW _,?_⟩;rw[L0 p];exact A.go s i c n _ j e (u c m _ (A.good s i c j t e) (λx y=>l x (Ak _ y)) a)
 exact k z s _ af j l a
end Nb
namespace L2
open PySem PySem.Spec PyProof.Rows PySem.W
end L2
namespace DL
open PySem L2 Nb
def Qh:List Wv->Int->DQ->Prop:=λxs n Q=>∃is:List Int,xs=[.d (.list (is.map .int))]/\0 < is.length/\∀m,m∈is->(∀k∈is,m<=k)->Q (.d (.int m)) n
end DL
namespace Nb
open PySem L2 DL
theorem uw{Ss:aJ}{pd sg:Ad}{E:List (TK×Nat)}{see:TK->Bool}{n:Int}{Q:List Ad->Int->Prop}(nd:(E.map (·.1)).Nodup)(tp:∀e∈E,∃ds,e.1.1=.tuple ds)(hs:∀e∈E,∀(n:Int) (R:DQ),R (.d (.bool (see e.1))) n->Ss [.d pd,.d e.1.1,.d sg] n R):
  ∀(es:List (TK×Nat))(i':List Ad)(o:Option SV),(∀e∈es,e∈E)->Q (i'++(es.filter λe=>see e.1).map λe=>.int (e.2:Nat)) n->
   dg (aG 0) (cT (aA Ss (ao ↥2 (ao ↥0 (ao ↥3 ak))))) (w2 (b5 1) ↥0 iB) Q (es.map λe=>e.1.1) i' [o,ae (.w (.ob (.y (eY E)))),↑pd,↑sg] n
 |[],i',o,_,q=>by rw[List.filter_nil,E9,Bh]at q;exact q
 |e::es,i',o,b,q=>by
  rw[Bo];have c:=b e Ap;refine hs e c n _ ?_;rw[Eh]at q;cases z:see e.1 with
  |false=>
   rw[z]at q;exact uw nd tp hs es i' _ (λx a=>b x (Ak _ a)) q
  |true=>
   rw[z]at q;refine⟨_,_,e.1,_,.inr rfl,rfl,⟨rfl,tp e c⟩,AL nd c,uw nd tp hs es _ _ (λx a=>b x (Ak _ a)) ?_⟩;rw[Bk];exact q
def Nf(Ss Sm Sl:aJ):aJ:=λws n Q=>∃(pd:Ad)(s0:TK)(sg told:Ad)(E:List (TK×Nat))(N:Nat)(aft:TK->Nat->Option TK)(Gd:TK->Prop)(see:TK->Bool),ws=[.d pd,.d s0.1,.d sg,.ob (.y (eY E)),.d told]/\GoOk Sm Sl pd N aft Gd/\Gd s0/\E.length<=900/\(E.map (·.1)).Nodup/\(∀e∈E,Gd e.1)/\(E.map (·.2)).Pairwise (·<=·) /\
 (∀e∈E,∀(n:Int)(R:DQ),R (.d (.bool (see e.1))) n->Ss [.d pd,.d e.1.1,.d sg] n R) /\
 ((told=.none/\∀e∈E,see e.1=ai)\/∃(i:Nat)(e:TK×Nat)(ms:List Nat),told=.list (ms.map λi=>.int (i:Nat))/\E[i]?=ae e/\see e.1=ah/\(∀j x,j < i->E[j]?=ae x->see x.1=ai)/\ms.length=e.2/\gf aft s0 ms=ae e.1/\∀x∈ms,x<=N)/\Q (.d (.bool ah)) n
theorem OX{a b:Ad}{r:Bool}{n:Int}{Q:DQ}(h:oJ a b=ae r)(q:Q (.d (.bool r)) n):ec (.d a) (.d b) n Q:=by
 show(match oJ a b with|some r=>Q _ n|none=>False);simp_all
theorem Tw(Ss Sm Sl:aJ)(ws:List Wv)(n:Int)(Q:DQ)(h:Nf Ss Sm Sl ws n Q):
  (aq (ax 5 (aZ (bY [af,ae 3,ae 0,ae 2] (ib (b5 3)) (aG 0) (cT (aA Ss (ao ↥2 (ao ↥0 (ao ↥3 ak))))) (w2 (b5 1) ↥0 iB)))) (aq (aI (cT (w2 ↥5 (aZ (aN ak)) aX)) (aw (w2 ↥4 (wC .none) (bc ai))) aD) (aq (aI (d0 (cH (cT (bU "list" ↥4))) (cT (w2 (wB a9 (ao ↥4 ak)) (wB Qh (ao ↥5 ak)) ec))) (aw (wC (.bool ai))) aD) (aq (ax 6 (aA (l5 Sm Sl) (ao ↥0 (ao ↥1 (ao ↥4 ak))))) (aw (cO (w2 ↥6 (wC .none) (bc ah)) (aA Ss (ao ↥0 (ao ↥6 (ao ↥2 ak)))))))))) (cL ["_law_programs","_law_stand_here","_law_sight_here","_law_due","_law_told","_law_moves","_law_last"] ws) n {nx:=λ_ _=>False,rt:=Q}:=by
 obtain⟨pd,X,sg,I,E,N,u,W,a,rfl,A,g0,hl,L,C,V,D,hc,q⟩:=h;refine⟨_,rfl,by rw[Ab];omega,?_⟩;have Z:((eY E).map λp=>p.1.1)=E.map λe=>e.1.1:=by simp
 rw[Z];refine uw L (λe b=>A.tup e.1 (C e b)) D E [] af (λ_ h=>h) ?_;rcases hc with⟨rfl,hf⟩|⟨i,e,H,rfl,g,v,J,s,hw,K⟩
 ·have:(E.filter λe=>a e.1)=[]:=List.filter_eq_nil_iff.mpr λe b=>by rw[hf e b];decide
  rw[this];exact⟨Az _,q⟩
 ·have b:e∈E.filter λe=>a e.1:=Cw.mpr ⟨Ay g,v⟩;generalize Y:(E.filter λe=>a e.1)=F at b;have t:∀x∈F,e.2<=x.2:=λx k=>by
   rw[<-Y]at k;obtain⟨B,l⟩:=Cw.mp k;obtain⟨j,G⟩:=Br.mp B;by_cases z:j < i
   ·rw[J j x z G]at l;trivial
   ·obtain⟨a1,M⟩:=Aq.mp g;obtain⟨b1,R⟩:=Aq.mp G;by_cases y:i=j
    ·subst y;simp_all
    ·have:=List.pairwise_iff_getElem.mp V i j (by rw[Ab];omega) (by rw[Ab];omega) ⋯;rw[List.getElem_map,List.getElem_map,M,R]at this;omega
  cases F with
  |nil=>exact nomatch b
  |cons f F=>
   refine⟨Az _,⟨_,by rw[B4];rfl,by simp,λm T P=>?_⟩⟩;have S:m=((e.2:Nat):Int):=by
    have h1:=P _ (A5.mpr ⟨e,b,rfl⟩);obtain⟨x,k,rfl⟩:=A5.mp T;have h2:=t x k;omega
   subst S;have O:oJ (.int ((H.map λi=>Fp (i:Nat)).length:Int)) (.int ((e.2:Nat):Int))=ae ai:=by
    rw[Ab,s];simp[oJ,eW]
   refine OX O ⟨pd,X,e.1,H,N,u,W,rfl,A,g0,K,hw,?_⟩;obtain⟨ds,r⟩:=A.tup e.1 (C e (Ay g));have U:fR e.1.1=ai:=by rw[r];rfl
   show aw (cO (w2 ↥6 (wC .none) (bc ah)) _) [ae _,ae _,ae _,ae _,ae _,ae _,↑e.1.1] n {nx:=λ_ _=>False,rt:=Q};dsimp only[aw,cO,w2,aj,bc,wC,Fv,B9];rw[U];refine D e (Ay g) n _ ?_;simp_all
end Nb
namespace DL
open PySem L2 Nb
def yZ(T:TS):TS:=λD σ H=>T D σ H\/j6 T D σ H
theorem Hx{X:Cx}{b:List Stmt}{T:TS}(h:PSs X b T):PSs X b (yZ T):=λh_ s σ H D I q=>q.elim (h h_ s σ H D I) (v5 h h_ s σ H D I)
def nr(i:Nat)(W:aH):aH:=λδ n K=>match δ[i]? with
 |some (ae (.odx m))=>W (δ.set i (ae (.w (.ob (.y m))))) n K
 |some (ae (.w _))=>W δ n K
 |_=>False
theorem Ls{X:Cx}(i:Nat){l:List Stmt}{T:TS}{W:aH}(h:DSs X l T W):DSs X l (yZ T) (nr i W):=⟨Hx h.ps,λC H B σ δ n K D R q E=>by
 unfold nr at q
 split at q
 ·rename_i m e;obtain⟨a,l,f,c,j,g,d,b⟩:=R.fzX e;exact .inr ⟨a,l,c,λo=>h.sd C _ _ σ _ n K D (b o) q E⟩
 ·exact .inl (h.sd C H B σ δ n K D R q E)
 ·exact q.elim⟩
def sR:List Wv->Int->DQ->Prop:=λxs n Q=>∃(x:Wv)(kvs:List (TK×Ad)),xs=[x]/\gK x kvs/\Q (.d (.int (kvs.length:Int))) n
theorem DV:cP vV sR:=λC H B σ δ n i j Q m R r g k=>by
 obtain⟨x,b,rfl,c,q⟩:=g;cases r with
 |cons h t=>
  cases t;obtain⟨a,l,rfl,f,o,e⟩:=WRel.rdX R.bt c h;refine⟨a,l,rfl,f,?_⟩;rw[RdY.len e];exact k _ (.d _) H n R (Kp.refl _ _) (.int _) q
end DL
namespace L2
open PySem
section
variable{X:Cx}{pos:Pos}
def kZ(K:Ag)(n:Nat)(t:fD):TG:=λv σ H Q=>∃a xs,v=.ref a/\SqL K H a xs/\xs.length=n/\t xs σ H Q
theorem R3{es:List Expr}{k:Nat}{t:fD}{n:Nat}(hc:X.calm=ah)(h:lR X es t)
  (hn:(Cq es X.env).length=n:=by rfl) (hst:(Cq es X.env).findIdx? (·.1)=af:=by rfl):PG X (.Tuple es k pos) (kZ X.K n t):=by
 intro c s σ H v u Q I r d;obtain⟨a,w,z,p,j,d⟩:=d;subst z;cases r;obtain⟨g,l,m,A⟩:=I.list p;refine Aa (wpAny_standAt ?_);unfold unpack;have f:(Cq es X.env).length=g.toArray.size:=by simp[hn,<-j,l.length]
 rw[f,hst];refine Aa (B7 (PySem.W.kun_itemsOf (I.ok.hd hc) m.isList λh' x=>?_));have q:Inv X c σ H {s with heap:=h'}:=I.kept λb o e=>x b o (Be (As e)) e;exact h c _ σ H w _ Q q ⋯ d
end
end L2
namespace DL
open PySem L2
def qA(n:Nat)(r:c8):dE:=λd δ Q=>match d with
 |.list ds=>ds.length=n/\r ds δ Q
 |_=>False
section
variable{X:Cx}{pos:Pos}{K:Ag}
theorem Ip{es:List Expr}{k:Nat}{t:fD}{n:Nat}{r:c8}(h:DGs X es t r)(hc:X.calm=ah:=by rfl)
  (hn:(Cq es X.env).length=n:=by rfl) (hst:(Cq es X.env).findIdx? (·.1)=af:=by rfl):DG X (.Tuple es k pos) (kZ X.K n t) (qA n r):=⟨R3 hc h.pg hn hst,λC H B σ δ f x d Q m R e q k=>by
 unfold qA at q
 split at q
 ·rename_i j;cases e with
  |@lst b g _ i o l a=>exact⟨b,g,rfl,SqL.of i,by rw[a.len];exact q.1,h.sd C H B σ δ f _ _ _ _ R a q.2 k⟩
 ·exact q.elim⟩
theorem Hg{es:List Expr}{k:Nat}{t:fD}{n:Nat}{r:c8}(h:DGs X es t r)(hc:X.calm=ah:=by rfl)(hK:X.K=K:=by rfl)
  (hn:(Cq es X.env).length=n:=by rfl) (hst:(Cq es X.env).findIdx? (·.1)=af:=by rfl):DG X (.Tuple es k pos) (kZ K n t) (qA n r):=by subst hK;exact Ip h hc hn hst
end
end DL
namespace DL
open PySem L2 Nb
theorem RdXs.noL{H:Hp}{B B':z_->Prop}{k:Nat}(ih:∀{v:V} {d:Ad},bw k d=ah->RdX H B v d->RdX H B' v d):∀{ds:List Ad}{vs:List V},d5 k ds=ah->RdXs H B vs ds->RdXs H B' vs ds
 |[],_,_,.nil=>.nil
 |d::ds,_,h,.cons b a=>by
  rw[d5,Bu]at h;exact .cons (ih h.1 b) (RdXs.noL ih h.2 a)
theorem RdX.noL{H:Hp}{B:z_->Prop}(k:Nat):∀{v:V}{d:Ad},bw k d=ah->RdX H B v d->RdX H (λb=>B b\/∃xs,H b=ae (.lst xs)) v d:=by
 induction k with
 |zero=>
  intro v d h r;cases r with
  |non=>exact .non
  |bl b=>exact .bl b
  |int i=>exact .int i
  |str x q=>exact .str x q
  |lst _ _ _ _=>rcases fY h with e|⟨_,e⟩|⟨_,e,_⟩|⟨_,_,e,_⟩<;>cases e
  |tup _ _ _ _=>rcases fY h with e|⟨_,e⟩|⟨_,e,_⟩|⟨_,_,e,_⟩<;>cases e
 |succ k s=>
  intro v d h r;cases r with
  |non=>exact .non
  |bl b=>exact .bl b
  |int i=>exact .int i
  |str x q=>exact .str x q
  |lst _ _ _ _=>rcases fY h with e|⟨_,e⟩|⟨_,e,_⟩|⟨_,_,_,e,_⟩<;>cases e
  |tup p l m n=>
   exact .tup p (λz=>z.elim l λ⟨xs,e⟩=>by simp_all) m (RdXs.noL s h n)
def nj:Wv->Prop
 |.d d=>∃k,bw k d=ah
 |_=>False
theorem ARel.noL{H:Hp}{B:z_->Prop}{t:z_}{vs:List V}{ws:List Wv}(h:ARel H B t vs ws)(hw:∀w∈ws,nj w):ARel H (λb=>B b\/∃xs,H b=ae (.lst xs)) t vs ws:=by
 induction h with
 |nil=>exact .nil
 |@cons v vs x xs f i e=>
  refine .cons ?_ (e λw a=>hw w (Ak _ a));have c:=hw x Ap;cases x with
  |d d=>obtain⟨k,g⟩:=c;exact RdX.noL k g f
  |_=>exact c.elim
theorem Rel.drop{C:Ctx}{H:Hp}{B:z_->Prop}{σ:St}{δ:Sl}{n:Int}{i:Nat}{v:Option V}(R:Rel C H B σ δ n):Rel C H B (σ.set i v) (δ.set i af) n:=by
 have g:∀{j:Nat}{x:SV},(δ.set i af)[j]?=ae (ae x)->δ[j]?=ae _/\(σ.set i v)[j]?=σ[j]?:=λ{j x} e=>by
  by_cases z:i=j
  ·subst z;rw[Cs]at e;simp_all
  ·rw[Bf z]at e;exact⟨e,Bf z⟩
 have r:∀(j:Nat) x,(δ.set i af)[j]?=ae _->∃u,(σ.set i v)[j]?=ae _/\SRel C.H0 H B C.t u x:=λj x e=>by
  obtain⟨b,a⟩:=g e;rw[a];exact R.sl j x b
 have s:∀j k (x y:SV) u,(δ.set i af)[j]?=ae _->(δ.set i af)[k]?=ae _->x.isOwn=ah->y.isOwn=ah->(σ.set i v)[j]?=ae _->(σ.set i v)[k]?=ae _->j=k:=λj k x y u b a m f d c=>by
  obtain⟨p,h⟩:=g b;obtain⟨q,l⟩:=g a;rw[h]at d;rw[l]at c;exact R.ow j k x y u p q m f d c
 exact⟨R.tp,R.kp,R.t0,R.l0,R.g0,R.fz,R.bt,R.b0,R.ba,R.a0,r,s,by rw[B5,B5];exact R.len⟩
def ug(i:Nat)(Sn Sr:aJ)(w1 w2:cY):aH:=λδ n K=>i < δ.length/\w1 δ n λxs n1=>(∀x∈xs,nj x)/\Sn xs n1 λtold n2=>(∃(s:Ad)(ds:List Ad),told=.d (.tuple [s,.list ds]))/\w2 (δ.set i (ae (.w told))) n2 λys n3=>Sr ys n3 λb n4=>b=.d (.bool ah)/\K.nx (δ.set i af) n4
section
variable{X:Cx}{e e2:Expr}{es es2:List Expr}{p p' p'' p2 pos pos2 pos3 cp cp2 up rp bp xp sp ip ap ccp:Pos}{tR tR2:TA}{wR wR2:cY}{Sn Sr:aJ}{f g x:Str}{k k2 k' i jb ji:Nat}{ps ps2:List Str}
abbrev K3(K:Ag)(i:Nat)(Sn Sr:aJ)(tR tR2:TA):TS:=eU (bz (eL (dy Sn) [] E0 tR) (df i)) (eU (gP (jU (tB (eL (dy Sr) [] E0 tR2))) (fM (tC (.bl ai))) nh) (oM (kl K "list" DR (dt (jH K) (aM i) (tC (.int 1))))))
theorem Sz(hn:Has X.prog X.w X.K X.mg X.base k f ps Sn)(hq:Has X.prog X.w X.K X.mg X.base k2 g ps2 Sr)(hr:Room k' X.A)(h1:DA X (e::es) tR wR)(h2:DA X (e2::es2) tR2 wR2)(hk:k<=k')(hk2:k2<=k')(hg:Gl X f)(hg2:Gl X g)(hN:X.N.Nodup)(hi:X.N[i]?=ae x)(hx:eZ X.env.scope x)
  (hs:Ci (.Call (.Name f p) (e::es) [] cp) (ae (.Name x p')) pos.line X.env=pure ai) (hf:X.fn x=ah\/X.env.scope.names.lookup x=ae .local) (hdb:(f==("__debug__":Str))=ai) (he:Ar (e::es) X.env=(ai,eval e X.env)::Ar es X.env) (p_:(Cp cp (Ar es X.env)).any (·.1)=ai)
  (hdb2:(g==("__debug__":Str))=ai) (he2:Ar (e2::es2) X.env=(ai,eval e2 X.env)::Ar es2 X.env) (hpl2:(Cp cp2 (Ar es2 X.env)).any (·.1)=ai)
  (hv:ej X.env.scope x) (hd:(x==("__debug__":Str))=ai) (q_:(x==("__classdict__":Str))=ai)
  (hit:∀(whole:Sem Af),PySem.isTrue (.Call (.Name g p2) (e2::es2) [] cp2) X.env whole=(do
      let v <-whole
      standAt (Expr.Call (.Name g p2) (e2::es2) [] cp2).pos
      holding [v] (truthy v)))
  (hbase:Gq (.Subscript (.Name x xp) (.Constant (.int 1) ji ip) sp) "clear" X.env (eval (.Subscript (.Name x xp) (.Constant (.int 1) ji ip) sp) X.env)=eval (.Subscript (.Name x xp) (.Constant (.int 1) ji ip) sp) X.env) (hline:(ap.endLine==ccp.line)=ah)
  (hsw:Ci (.Call (.Attribute (.Subscript (.Name x xp) (.Constant (.int 1) ji ip) sp) "clear" ap) [] [] ccp) af pos3.line X.env=pure ai):
  DSs X [.Assign [.Name x p'] (.Call (.Name f p) (e::es) [] cp) pos,.If (.UnaryOp .Not (.Call (.Name g p2) (e2::es2) [] cp2) up) [.Return (ae (.Constant (.bool ai) jb bp)) rp] [] pos2,.Expr (.Call (.Attribute (.Subscript (.Name x xp) (.Constant (.int 1) ji ip) sp) "clear" ap) [] [] ccp) pos3] (K3 X.K i Sn Sr tR tR2) (ug i Sn Sr wR wR2):=by
 obtain⟨a1,d1,f1,f2,f3,f4⟩:=hn.ex;obtain⟨a2,d2,g1,g2,g3,g4⟩:=hq.ex;refine⟨fK (fC hN hi hx (jN f1 (hr.mono hk) hg f3 f4 f2 .nil jC h1.pa hdb he p_) hs hf) (fK (nH (EY (AO (jN g1 (hr.mono hk2) hg2 g3 g4 g2 .nil jC h2.pa hdb2 he2 hpl2) hit)) (jF (i0 zF)) mF) (jF (tO (CV G3 PySem.F.slot_list_clear PySem.F.type_list_clear Oc (gp qP (fm hi hv hd q_) b8 (λ_ _=>rfl)) hbase hline) hsw))),λC H B σ δ n K D R q E=>?_⟩;obtain⟨hil,q⟩:=q;refine h1.sd C H B σ δ n _ _ R q λvs r I n1 a k1 r1 P=>?_;obtain⟨hw,P⟩:=P;refine⟨C.t,C.l,_,λb=>B b\/∃r,I b=ae (.lst r),r,n1,_,a.tp,.inl a.bt,(λb z=>z.elim (a.ba b) λ⟨r,e⟩=>(by rw[e];simp)),(by rw[Bh];exact r1.noL hw),P,λw n2 Y v Q T2 h r2=>?_⟩;obtain⟨⟨s,ds,rfl⟩,Y⟩:=Y;have L:∀b,B b->(B b\/∃r,I b=ae (.lst r)):=λb z=>.inl z;have R2:Rel C Q B _ (δ.set i (↑_)) n2:=(a.step T2 h).set (RdX.less L r2) rfl;cases(show RdX Q _ v (.tuple [s,.list ds])from r2)with
 |@tup y xs0 _ e1 e2 e3 e4=>
 cases e4 with
 |@cons y0 ys0 _ _ c1 c2=>
 cases c2 with
 |@cons y1 ys1 _ _ c3 c4=>
 cases c4;cases c3 with
 |@lst c xl _ l1 O l3 l4=>
 have j:I c=af:=by
  cases q:I c with
  |none=>rfl
  |some o=>
   by_cases z:c=C.t
   ·exact f_ (.inl (z▸a.bt)) O
   ·have:=h c o q z;rw[l1]at this;cases this;exact f_ (.inr ⟨xl,q⟩) O
 refine h2.sd C Q B _ _ n2 _ _ R2 Y λvs2 ys H3 n3 S Z r3 q3=>⟨C.t,C.l,_,B,ys,n3,_,S.tp,S.bt,S.ba,by rw[Bh];exact r3,q3,λw4 n4 V v4 W T4 T r4=>?_⟩;obtain⟨rfl,V⟩:=V;cases(show RdX W B v4 (.bool ah)from r4);have m:c≠C.t:=λz=>O (.inl (z▸a.bt));have J:y≠C.t:=λz=>e2 (.inl (z▸a.bt));have m1:=T _ _ (Z _ _ l1 m) m;have u:i < σ.length:=by rw[R.len];omega
 refine⟨_,rfl,⟨_,Df u,?_⟩⟩;refine .inr (.inl ⟨y,_,1,_,rfl,rfl,SqT.of (T _ _ (Z _ _ e1 J) J),eH rfl,⟨.inl ⟨rfl,_,SqL.of m1⟩,c,xl,rfl,rfl,m1,?_⟩⟩);have T5:Tp (upd W c (.lst [])) C.t C.l C.ns n4:=T4.other (λz=>m z.symm) (bH a.tp.ls j) λz=>bH (a.tp.ag z) j;have k5:Kp C.t I (upd W c (.lst [])):=λb o eb U=>by
  rw[aL (bH eb j)];exact T _ _ (Z _ _ (h _ _ eb U) U) U
 exact E.nx _ B _ _ _ (a.step T5 k5).drop V
end
end DL
namespace Nb
open PySem L2 DL
def jV(Sa Ss:aJ):aJ:=λws n Q=>∃(pd:Ad)(s0:TK)(sg:Ad)(N:Nat)(aft:TK->Nat->Option TK)(Gd:TK->Prop)(J:Nat)(see:TK->Bool),ws=[.d pd,.d s0.1,.d sg]/\AfOk Sa pd N aft Gd/\Gd s0/\N < 2 ^ 60/\(Lr aft N s0 J).length<=J/\(Lr aft N s0 J).length<=1000 /\
 (∀k∈Lr aft N s0 J,∀(n:Int)(R:DQ),R (.d (.bool (see k))) n->Ss [.d pd,.d k.1,.d sg] n R) /\
 ((∀k∈Lr aft N s0 J,see k=ai)->Q (.d (.tuple [.str "never",.list ((Lr aft N s0 J).map (·.1))])) n) /\
 ∀(k:TK)(ms:List Nat),k∈Lr aft N s0 J->see k=ah->gf aft s0 ms=ae k->(∀x∈ms,x<=N)->Q (.d (.tuple [.str "seen",.list (ms.map λi=>.int (i:Nat))])) n
theorem PM{Sa Ss:aJ}:∀ws n Q,jV Sa Ss ws n Q->ws.length=3:=λws n Q h=>by obtain⟨_,_,_,_,_,_,_,_,rfl,_⟩:=h;rfl
theorem J6(Sa Ss:aJ)(ws:List Wv)(n:Int)(Q:DQ)(h:jV Sa Ss ws n Q):
  (aq (qz 3 (lE Sa) (ao ↥0 (ao ↥1 ak))) (gq 3 (aq (ax 4 (aA (l9 Ss) (ao ↥0 (ao (b5 3) (ao ↥2 ak))))) (aw (dz (cT (w2 ↥4 (wC .none) (bc ai))) (ay (ao (wC (.str "never")) (ao (aZ (ot (b5 3))) ak))) (ay (ao (wC (.str "seen")) (ao (aZ (n6 lG (ao (b5 3) (ao ↥4 ak)))) ak)))))))) (cL ["programs","stand","sight","steps","one"] ws) n {nx:=λ_ n=>Q (.d .none) n,rt:=Q}:=by
 obtain⟨t,G,H,N,l,C,J,b,rfl,A,u,v,B,o,y,L,K⟩:=h;refine⟨t,G,N,l,C,J,rfl,A,u,v,B,o,λm g P S=>?_⟩;have a:m.length<=1000:=by have:=congrArg Dn g;rw[Ab]at this;omega
 refine⟨t,m,H,b,rfl,a,by rw[g];exact y,?_⟩;cases z:(m.map _).find? b with
 |none=>
  have q:=L λk I=>(by simp_all);rw[<-g,B4]at q;exact⟨m,.inr rfl,a,(show 2<=1000 by decide),q⟩
 |some k=>
  have r:=List.mem_of_find?_eq_some z;have p:∀j∈m.map (·.1),∃c,j.1=.tuple c:=λj D=>A.tup j (tq A.good u J j (by simp_all));obtain⟨s,w,F,M,E⟩:=Ie P k r;have i:∀d:Ad,(∃c,d=.tuple c)->fR d=ai:=by rintro d ⟨c,rfl⟩;rfl
  show dz (cT (w2 ↥4 (wC .none) (bc ai))) _ _ [ae _,ae _,ae _,ae _,↑k.1] n Q;dsimp only[dz,cT,w2,aj,bc,Fv,B9,wC];rw[(i _ (p k r))];exact⟨m,k,s,rfl,w,by omega,λj d D=>p j ((ic m j).mp (by simp_all)),⟨show 2<=1000 by decide,K k s.reverse (by simp_all) (List.find?_some z) F λx f=>E x (List.mem_reverse.mp f)⟩⟩
abbrev jL(ks:List TK):List (TK×Ad):=ks.map λk=>(k,.bool ah)
theorem PZ(ks:List TK):(jL ks).map (·.1)=ks:=by rw[B4];exact List.map_id' ks
def mh(Sm Sl:aJ):aJ:=λws n Q=>∃(pd:Ad)(s0:TK)(ks:List TK)(N:Nat)(aft:TK->Nat->Option TK)(Gd:TK->Prop),ws=[.d pd,.d s0.1,.d (.list (ks.map (·.1)))]/\GoOk Sm Sl pd N aft Gd/\ks.length<=900/\ks.Nodup/\(∀k∈ks,Gd k)/\s0∈ks/\(∀s∈ks,∀(i:Nat)(b:TK),i<=N->aft s i=ae b->b∈ks)/\Q (.d (.bool ah)) n
theorem Hs(Sm Sl:aJ):∀ws n Q,mh Sm Sl ws n Q->ws.length=3:=λws n Q h=>by obtain⟨_,_,_,_,_,_,rfl,_⟩:=h;rfl
theorem yF{ks:List TK}{b:TK}(h:b∈ks):(aW (jL ks) b).isSome=ah:=(ic _ _).mpr (by rw[PZ];exact h)
abbrev Zd:List Str:=["_law_programs","_law_stand_here","_law_some","_law_known_here","_law_one","_law_mover"]
theorem OV(Sm Sl:aJ)(ws:List Wv)(n:Int)(Q:DQ)(h:mh Sm Sl ws n Q):
  (aq (rC 3) (aq (aP (dY ↥2) (aG 4) (jZ 3 ↥4 (wC (.bool ah)))) (aq (aI (cT (w2 ↥1 (b5 3) (fo ah))) (aw (wC (.bool ai))) aD) (gq 3 (aq (aP (ib (b5 3)) (aG 4) (aP (dY (aA Sm (ao ↥0 (ao ↥4 ak)))) (aG 5) (aI (cT (w2 (aA Sl (ao ↥0 (ao ↥4 (ao ↥5 ak)))) (b5 3) (fo ah))) (aw (wC (.bool ai))) aD))) (aw (wC (.bool ah)))))))) (cL Zd ws) n {nx:=λ_ n=>Q (.d .none) n,rt:=Q}:=by
 obtain⟨pd,G,D,N,H,Z,rfl,A,hl,M,p,O,X,q⟩:=h;refine((?_));refine eD (λds δ m=>m=n/\∃(c f:List TK)(o:Option SV),ds=f.map _/\c++f=D/\δ=[ae _,ae _,ae _,ae (.odx (jL c)),o,af]) (λδ m I=>?_) (λd r δ m F I B=>?_) _ _ _ ⟨rfl,[],D,_,rfl,rfl,rfl⟩
 ·obtain⟨rfl,c,f,o,u,l,rfl⟩:=I;cases Ed.mp u.symm;rw[Bh]at l;subst l;refine(⟨_,_,G,.inl rfl,rfl,⟨rfl,A.tup G (p G O)⟩,?_⟩);rw[yF O];refine(⟨_,rfl,by rw[Ab];omega,?_⟩);rw[show(jL c).map _=c.map (·.1) by simp];refine eD (λds δ w=>w=m/\∃(f:List TK)(o e:Option SV),ds=f.map _/\(∀k∈f,k∈c)/\δ=[ae _,ae _,ae _,ae _,o,e]) (λδ w I=>?_) (λd r δ w F I B=>?_) _ _ _ ⟨rfl,c,o,_,rfl,λ_ h=>h,rfl⟩
  ·obtain⟨rfl,_⟩:=I;exact q
  ·obtain⟨rfl,f,o,e,u,v,rfl⟩:=I;obtain⟨k,g,rfl,rfl,rfl⟩:=Cu.mp u.symm;have s:=v k Ap;refine A.mv k w _ (p k s) (eD (λds δ y=>y=w/\∃(x:List Nat)(e:Option SV),ds=x.map _/\(∀i∈x,i∈fg H N k)/\δ=[ae _,ae _,ae _,ae _,ae _,e]) (λδ y I=>?_) (λd r δ y Y I J=>?_) _ _ _ ⟨rfl,_,e,rfl,λ_ h=>h,rfl⟩)
   ·obtain⟨rfl,x,e,_,_,rfl⟩:=I;exact B _ _ ⟨rfl,g,_,e,rfl,λj E=>v j (Ak _ E),rfl⟩
   ·obtain⟨rfl,x,e,V,L,rfl⟩:=I;obtain⟨i,C,rfl,rfl,rfl⟩:=Cu.mp V.symm;obtain⟨S,W⟩:=Cw.mp (L i Ap);obtain⟨b,P⟩:=C1.mp W;have K:=X k s i b (E1 (Bx.mp S)) P;refine A.go k i b y _ (p k s) P ⟨_,b.1,b,.inr rfl,rfl,⟨rfl,A.tup b (p b K)⟩,?_⟩;rw[yF K];exact J _ _ ⟨rfl,C,_,rfl,λj E=>L j (Ak _ E),rfl⟩
 ·obtain⟨rfl,c,f,o,u,l,rfl⟩:=I;obtain⟨k,g,rfl,rfl,rfl⟩:=Cu.mp u.symm;have s:k∈D:=by rw[<-l];exact Bw _ Ap
  have U:=by
   rw[<-l,F2]at M;exact λz=>M.2.2 k z k Ap rfl
  refine⟨_,rfl,k,_,k.1,rfl,rfl,⟨rfl,A.tup k (p k s)⟩,?_,?_⟩
  ·rw[Ab];have:=congrArg Dn l;rw[An]at this;omega
  ·have T:fi (jL c) k (.bool ah)=jL (c++[k]):=by
    unfold fi;rw[a_ (λz=>U (by have:=(ic _ _).mp z;simp_all)),jL,jL,Bc];rfl
   rw[T];exact B _ _ ⟨rfl,_,g,_,rfl,by rw[Bk];exact l,rfl⟩
def kO(Ss Sm Sl:aJ):aJ:=λws n Q=>∃(pd:Ad)(s0:TK)(sg told:Ad)(E:List (TK×Nat))(N:Nat)(aft:TK->Nat->Option TK)(Gd:TK->Prop)(see:TK->Bool),ws=[.d pd,.d s0.1,.d sg,.ob (.y (eY E)),.d told]/\GoOk Sm Sl pd N aft Gd/\E.length<=900/\(E.map (·.1)).Nodup/\(∀k∈E.map (·.1),Gd k)/\s0∈E.map (·.1)/\(∀s∈E.map (·.1),∀(i:Nat)(b:TK),i<=N->aft s i=ae b->b∈E.map (·.1))/\(∀k∈E.map (·.1),Small k.1) /\
 (∀k∈E.map (·.1),∀(n:Int)(R:DQ),R (.d (.bool (see k))) n->Ss [.d pd,.d k.1,.d sg] n R) /\
 ((told=.tuple [.str "never",.list ((E.map (·.1)).map (·.1))]/\∀k∈E.map (·.1),see k=ai)\/∃(k:TK)(ms:List Nat),told=.tuple [.str "seen",.list (ms.map λi=>.int (i:Nat))]/\k∈E.map (·.1)/\see k=ah/\gf aft s0 ms=ae k/\∀x∈ms,x<=N)/\Q (.d (.bool ah)) n
theorem HW(Ss Sm Sl:aJ):∀ws n Q,kO Ss Sm Sl ws n Q->ws.length=5:=λws n Q h=>by obtain⟨_,_,_,_,_,_,_,_,_,rfl,_⟩:=h;rfl
abbrev Td:aH:=(aw (cO (bU "int" ↥0) (je (bU "bool" ↥0))))
abbrev KD:aH:=(aq (ax 4 (w2 ↥0 ⇑0 av)) (aq (aI (cT (w2 ↥4 (wC (.str "is")) aX)) (aw (w2 (w2 ↥0 ⇑1 av) ↥1 aX)) aD) (aq (aI (cT (w2 ↥4 (wC (.str "word")) aX)) (aw (bU "str" ↥1)) aD) (aq (aI (cT (w2 ↥4 (wC (.str "number")) aX)) (aw (bU "int" ↥1)) aD) (aq (aI (cT (w2 ↥4 (wC (.str "as")) aX)) (aw (cO (w2 (w2 ↥0 ⇑1 av) (dF 2) (eB ai)) (w2 (w2 (dF 2) (w2 ↥0 ⇑1 av) fT) ↥1 aX))) aD) (aq (aI (cT (w2 ↥4 (wC (.str "bind")) aX)) (aw (AD (w2 (w2 ↥0 ⇑1 av) (dF 3) (eB ah)) (w2 (w2 (dF 3) (w2 ↥0 ⇑1 av) fT) ↥1 aX))) aD) (aw (wC (.bool ah)))))))))
abbrev Rl:aH:=(aq (aI (cT (w2 (wB a9 (ao ↥0 ak)) (wB a9 (ao ↥1 ak)) ec)) (aw (wC .none)) aD) (aq (jm 3 (iO ↥2)) (aq (jm 4 j0) (aq (aP (m7 ↥0 ↥1) (d4 2 (bF (aG 5) (bF (aG 6) di))) (aq (aI (cH (cT (aA jq (ao ↥5 (ao ↥6 (ao (dF 3) (ao (dF 4) ak))))))) (aw (wC .none)) aD) (aI (cT (w2 (w2 ↥5 ⇑0 av) (wC (.str "bind")) aX)) (aq (ll 4 (w2 ↥5 ⇑1 av) ↥6) (ll 3 (w2 ↥5 ⇑1 av) ↥6)) aD))) (aw (wB eQ (ao (aZ (wK (dF 3))) ak)))))))
abbrev Jt:aH:=(aq (aI (cT (bU "str" ↥0)) (aw ↥0) aD) (aw (dz (cT (w2 ↥0 ⇑99 aX)) ⇑0 (w2 ↥0 ⇑1 (b9 λi j=>.int (i+j))))))
abbrev NW:aH:=(aq (aI (cT (w2 (w2 ↥0 ⇑0 av) (wC (.str "is")) aX)) (aw (w2 ↥0 ⇑1 av)) aD) (aq (ax 2 (w2 (dF 1) (w2 ↥0 ⇑1 av) fT)) (aw (dz (cT (w2 (w2 ↥0 ⇑0 av) (wC (.str "next")) aX)) (aA su (ao ↥2 ak)) ↥2))))
abbrev J9:aH:=(aq (jm 2 (iO ↥1)) (aw (wB eQ (ao (aZ (bY [af,ae 2] (c7 ↥0) (aG 0) bB (aA nJ (ao ↥0 (ao (dF 1) ak))))) ak))))
abbrev RL:aH:=(aw (cO (aA uV (ao ↥0 ak)) (qJ om om ⇑0 ↥0 ↥1)))
abbrev Jl:aH:=(aq (ax 3 (w2 (w2 (w2 ↥1 ⇑0 av) ↥2 av) ⇑0 av)) (aq (ax 4 (w2 (w2 (w2 ↥1 ⇑0 av) ↥2 av) ⇑1 av)) (aq (ax 5 (w2 (w2 (w2 ↥0 ↥2 av) ↥3 av) ⇑1 av)) (aw (dz (cT (w2 ↥4 (wB a9 (ao ↥5 ak)) fw)) (w2 ↥5 ↥4 av) (wC .none))))))
abbrev Zf:List Str:=["take","read","look"]
abbrev Hd:aH:=(aq (ax 3 (aA lj (ao ↥0 (ao ↥1 (ao ↥2 ak))))) (aq (aI (d0 (cT (w2 ↥3 (wC .none) (bc ai))) (cT (ro Zf (w2 ↥3 ⇑0 av)))) (aw (wC .none)) aD) (aq (ax 4 (w2 (w2 (w2 ↥1 ⇑0 av) ↥2 av) ⇑2 av)) (aq (rT 5) (aq (aP (zA (w2 ↥1 ⇑1 av)) (d4 2 (bF (aG 6) (bF (aG 7) di))) (aI (cT (qh 5 (w2 ↥7 ⇑0 av))) (aq (aI (cT (w2 (aA me (ao (w2 ↥3 ⇑1 av) (ao (w2 ↥7 ⇑0 av) (ao ↥4 ak)))) (wC .none) (bc ah))) (aw ↥6) aD) (vY 5 (w2 ↥7 ⇑0 av) (wC (.bool ah)))) aD)) (aw (wC .none)))))))
abbrev LI:aH:=(aw (ay (ao (w2 ↥0 ⇑0 av) (ao (w2 (w2 ↥0 ⇑1 av) ⇑1 (b9 λi j=>.int (i+j))) (ao ↥1 ak)))))
abbrev QW:aH:=(aq (ax 3 (w2 (w2 ↥0 ↥1 av) ⇑0 av)) (aw (ay (ao ↥1 (ao ⇑0 (ao (wB eQ (ao (aZ (bY [af,ae 3] (c7 ↥2) (aG 0) (cT (w2 (w2 ↥0 ⇑0 av) ↥1 (dP ai))) ↥0)) ak)) ak))))))
abbrev J2:aH:=(aw (w2 (w2 (dA ↥0 du (dv ↥1)) (ay (ao ↥2 ak)) eM) (dA ↥0 (dv (w2 ↥1 ⇑1 (b9 λi j=>.int (i+j)))) du) eM))
abbrev BR:aH:=(aq (ax 4 (w2 (w2 ↥1 ⇑0 av) ↥2 av)) (aq (ax 5 (w2 ↥1 ⇑1 av)) (aq (ax 6 (aA t4 (ao ↥0 (ao ↥1 (ao ↥2 ak))))) (aq (aI (cT (w2 ↥6 (wC .none) (bc ai))) (aq (aI (cT (w2 (w2 ↥3 ⇑0 av) (wC (.str "look")) ec)) (aw (wC .none)) aD) (aw (ay (ao (aA jg (ao (w2 ↥1 ⇑0 av) (ao ↥2 (ao (aA oj (ao (w2 ↥0 ↥2 av) (ao (w2 ↥3 ⇑2 av) (ao (w2 ↥4 ⇑2 av) ak)))) ak)))) (ao ↥5 ak))))) aD) (aq (ax 7 (aA me (ao (w2 ↥3 ⇑1 av) (ao (w2 (w2 ↥5 ↥6 av) ⇑0 av) (ao (w2 ↥4 ⇑2 av) ak))))) (aq (aI (cT (w2 (w2 ↥3 ⇑0 av) (wC (.str "take")) aX)) (ax 5 (w2 (dA ↥5 du (dv ↥6)) (dA ↥5 (dv (w2 ↥6 ⇑1 (b9 λi j=>.int (i+j)))) du) eM)) aD) (aw (ay (ao (aA jg (ao (w2 ↥1 ⇑0 av) (ao ↥2 (ao (aA mx (ao ↥4 (ao ↥7 ak))) ak)))) (ao ↥5 ak))))))))))
abbrev MK:aH:=(aq (jm 2 (iO ↥1)) (aw (w2 (aA nJ (ao (w2 ↥0 ⇑1 av) (ao (dF 2) ak))) (aA nJ (ao (w2 ↥0 ⇑2 av) (ao (dF 2) ak))) aX)))
abbrev HS:aH:=(aq (ax 3 (aA lj (ao ↥0 (ao ↥1 (ao ↥2 ak))))) (aq (aI (cT (w2 ↥3 (wC .none) (bc ai))) (aw (wC .none)) aD) (aq (aI (cT (hV Zf (w2 ↥3 ⇑0 av))) (aw (aA nP (ao ↥0 (ao ↥1 (ao ↥2 (ao ↥3 ak)))))) aD) (aq (ax 4 (w2 (w2 ↥1 ⇑0 av) ↥2 av)) (aq (ax 5 (w2 ↥1 ⇑1 av)) (aq (ax 6 (w2 ↥4 ⇑2 av)) (aq (aI (cT (w2 (w2 ↥3 ⇑0 av) (wC (.str "lay")) aX)) (aq (ax 5 (w2 ↥5 (ay (ao (ay (ao (aA qx (ao (w2 ↥3 ⇑1 av) (ao ↥6 ak))) (ao (w2 ↥3 ⇑2 av) ak))) ak)) eM)) (ax 4 (aA mx (ao ↥4 (ao ↥6 ak))))) (aI (cJ (cT (w2 (w2 ↥3 ⇑0 av) (wC (.str "same")) aX)) (cT (aA uB (ao ↥3 (ao ↥6 ak))))) (ax 4 (aA mx (ao ↥4 (ao ↥6 ak)))) (ax 4 (aA oj (ao (w2 ↥0 ↥2 av) (ao (w2 ↥3 (iP ⇑1) av) (ao ↥6 ak))))))) (aw (ay (ao (aA jg (ao (w2 ↥1 ⇑0 av) (ao ↥2 (ao ↥4 ak)))) (ao ↥5 ak)))))))))))
abbrev L9:aH:=(aw (dz (cT (w2 (w2 ↥0 ⇑1 av) (wC .none) (bc ai))) ↥0 (ay (ao (w2 ↥0 ⇑0 av) (ao (w2 (w2 ↥0 ⇑1 av) ⇑1 (b9 λi j=>.int (i-j))) ak)))))
abbrev Pk:aH:=(aw (ay (ao (w2 ↥0 ⇑0 av) (ao (wB eQ (ao (aZ (bY [af] (c7 (w2 ↥0 ⇑1 av)) (aG 0) (cT (w2 (w2 ↥0 ⇑1 av) ⇑1 ec)) (aA sx (ao ↥0 ak)))) ak)) ak))))
abbrev Od:aH:=(aq (ax 3 (wB a9 (ao ↥0 ak))) (aq (aI (cH (cT (aA sq (ao ↥2 (ao ↥3 ak))))) (aw (wC .none)) aD) (aw (dz (cT (w2 ↥2 ↥3 aX)) (aA vd (ao ↥1 ak)) (aA vi (ao ↥0 (ao ↥1 (ao ↥2 ak))))))))
abbrev zu:aH:=(aq (aI (cT (w2 (w2 ↥0 ⇑0 av) (ay (ao (wC (.str "all")) (ao (wC (.str "some")) ak))) (dP ai))) (aw (w2 ↥0 ⇑1 av)) aD) (aw (dz (cT (w2 (w2 ↥0 ⇑0 av) (wC (.str "not")) aX)) (ay (ao (w2 ↥0 ⇑1 av) ak)) (ay ak))))
abbrev KI:aH:=(aw (wB a9 (ao (aZ (bY [af,ae 0] (c7 ↥1) (aG 0) (cT (w2 (aA me (ao ↥1 (ao (w2 ↥0 ⇑0 av) (ao (ay ak) ak)))) (wC .none) (bc ah))) ↥0)) ak)))
abbrev wL(Sf:aJ):aH:=(aq (ax 3 (w2 ↥2 ⇑0 av)) (aq (aI (cT (w2 ↥3 (wC (.str "notes")) (iK λd e=>ae (Cj d e)))) (aw (w2 (aA vE (ao (w2 ↥2 ⇑1 av) (ao (w2 ↥1 ⇑1 av) ak))) (w2 ↥2 ⇑2 av) pE)) aD) (aq (aI (cT (w2 ↥3 (wC (.str "at")) (iK λd e=>ae (Cj d e)))) (aw (w2 (dA (w2 (w2 ↥1 ⇑0 av) (w2 ↥2 ⇑1 av) av) du (dv ⇑2)) (dA ↥2 (dv ⇑2) du) (iK λd e=>ae (Cj d e)))) aD) (aq (aI (cT (w2 ↥3 (wC (.str "ended")) (iK λd e=>ae (Cj d e)))) (aw (w2 (aA lj (ao ↥0 (ao ↥1 (ao (w2 ↥2 ⇑1 av) ak)))) (wC .none) (bc ai))) aD) (aq (ax 4 (aZ (bY [af,ae 0,ae 1] (c7 (aA p7 (ao ↥2 ak))) (aG 0) bB (aA Sf (ao ↥1 (ao ↥2 (ao ↥0 ak))))))) (aq (aI (cT (w2 ↥3 (wC (.str "not")) (iK λd e=>ae (Cj d e)))) (aw (je (w2 ↥4 ⇑0 av))) aD) (aw (dz (cT (w2 ↥3 (wC (.str "all")) (iK λd e=>ae (Cj d e)))) (wB iD (ao ↥4 ak)) (wB iE (ao ↥4 ak))))))))))
abbrev GP:aH:=(aq (ni 2 ↥1 (wC .none)) (aq (bx 3 (aN (ao ↥1 ak))) (aq (j8 (ku (cy 3)) (iN eO 0 2 3)) (mq 2))))
abbrev HN:aH:=(aq (bx 2 (aN ak)) (aq (ax 3 (w2 (b5 0) ↥1 iB)) (aq (j8 (cT (w2 ↥3 (wC .none) (bc ah))) (aq (aY 2 (w2 ↥3 ⇑1 aU)) (ax 3 (w2 (b5 0) (w2 ↥3 ⇑0 aU) iB)))) (vL (tD (cy 2))))))
abbrev Rm:aH:=(aq (aP (ib ↥1) (aG 3) (aI (cT (aA (dm 3) (ao ↥0 (ao ↥3 (ao ↥2 ak))))) (aw ↥3) aD)) (aw (wC .none)))
abbrev SR:aH:=(aq (qz 3 (lE eO) (ao ↥0 (ao ↥1 ak))) (gq 3 (aq (ax 4 (aA (l9 (dm 3)) (ao ↥0 (ao (b5 3) (ao ↥2 ak))))) (aw (dz (cT (w2 ↥4 (wC .none) (bc ai))) (ay (ao (wC (.str "never")) (ao (aZ (ot (b5 3))) ak))) (ay (ao (wC (.str "seen")) (ao (aZ (n6 lG (ao (b5 3) (ao ↥4 ak)))) ak))))))))
abbrev KC:aH:=(aw (w2 (aZ (aN (ao (wC (.str "a")) (ao ⇑0 (ao (wC (.str "a")) (ao ⇑1 (ao (wC (.str "ab")) (ao (wC (.str "go")) (ao ⇑99 (ao ⇑0 ak)))))))))) (aA bP (ao ↥0 (ao ⇑8 ak))) av))
abbrev GG:aH:=(aw (w2 (aZ (aN (ao ⇑1 (ao ⇑2 (ao ⇑2 (ao ⇑2 (ao ⇑1 (ao ⇑3 (ao ⇑4 ak))))))))) (aA bP (ao ↥0 (ao ⇑7 ak))) av))
abbrev Pb:aH:=(aq (bx 2 (aN ak)) (aq (bx 3 (aN ak)) (aq (aP (d3 (aA lq (ao ↥0 ak))) (aG 4) (aq (ax 5 (aA bP (ao ↥0 (ao ⇑9 ak)))) (aq (ax 6 (w2 ↥1 (cy 3) fV)) (aI (cT (w2 ↥5 ⇑3 fw)) (aY 2 (ay (ao (wC (.str "is")) (ao (aA iq (ao ↥0 ak)) ak)))) (aI (cT (w2 ↥5 ⇑6 fw)) (aY 2 (w2 (aZ (aN (ao (ay (ao (wC (.str "any")) ak)) (ao (ay (ao (wC (.str "word")) ak)) (ao (ay (ao (wC (.str "number")) ak)) ak))))) (w2 ↥5 ⇑3 (b9 λi j=>.int (i-j))) aU)) (aI (d0 (cT (w2 ↥5 ⇑8 fw)) (cT (w2 ↥6 (aZ (aN ak)) bL))) (aq (ax 7 (w2 (aZ (aN (ao (wC (.str "n")) (ao (wC (.str "nm")) (ao (wC (.str "go")) (ao (wC (.str "m")) ak)))))) (aA bP (ao ↥0 (ao ⇑4 ak))) aU)) (aq (aY 3 ↥7) (aY 2 (ay (ao (wC (.str "bind")) (ao ↥7 ak)))))) (aY 2 (ay (ao (wC (.str "as")) (ao (w2 ↥6 (aA bP (ao ↥0 (ao (wB d7 (ao ↥6 ak)) ak))) aU) ak)))))))))) (bX 2 (bX 3 (aw (ay (ao (wB fX (ao ↥2 ak)) (ao ↥3 ak)))))))))
abbrev Ru:aH:=(aq (bx 2 (aN ak)) (aq (aP (d3 (aA lq (ao ↥0 ak))) (aG 3) (aq (ax 4 (aA bP (ao ↥0 (ao ⇑6 ak)))) (aI (d0 (cT (w2 ↥4 ⇑3 fw)) (cT (w2 ↥1 (aZ (aN ak)) bL))) (aY 2 (ay (ao (wC (.str "is")) (ao (aA iq (ao ↥0 ak)) ak)))) (aY 2 (ay (ao (w2 (aZ (aN (ao (wC (.str "as")) (ao (wC (.str "as")) (ao (wC (.str "next")) ak))))) (w2 ↥4 ⇑3 (b9 λi j=>.int (i-j))) aU) (ao (w2 ↥1 (aA bP (ao ↥0 (ao (wB d7 (ao ↥1 ak)) ak))) aU) ak))))))) (bX 2 (aw (wB fX (ao ↥2 ak))))))
abbrev IV:aH:=(aq (aI (d0 (cT (w2 ↥1 (aZ (aN ak)) bL)) (cT (w2 (aA bP (ao ↥0 (ao ⇑2 ak))) ⇑0 bL))) (aw (ay (ao (wC (.str "is")) (ao (aA iq (ao ↥0 ak)) ak)))) aD) (aw (ay (ao (wC (.str "as")) (ao (w2 ↥1 (aA bP (ao ↥0 (ao (wB d7 (ao ↥1 ak)) ak))) aU) ak)))))
abbrev zN:aH:=(aq (ax 3 (aA bP (ao ↥0 (ao ⇑12 ak)))) (aq (aI (cT (w2 ↥3 ⇑4 fw)) (aw (ay (ao (ay (ao (wC (.str "lay")) (ao (aA uo (ao ↥0 (ao ↥1 ak))) (ao (w2 (eC 0) (aA bP (ao ↥0 (ao (wB d7 (ao (eC 0) ak)) ak))) aU) ak)))) (ao (aZ (aN ak)) ak)))) aD) (aq (ax 4 (w2 ↥2 (aA bP (ao ↥0 (ao (wB d7 (ao ↥2 ak)) ak))) aU)) (aq (aI (cT (w2 ↥3 ⇑10 bL)) (aw (ay (ao (ay (ao (wC (.str "same")) (ao (aA pF (ao ↥0 (ao ↥1 ak))) (ao (aA pF (ao ↥0 (ao ↥1 ak))) (ao ↥4 ak))))) (ao (aZ (aN ak)) ak)))) aD) (aq (aI (cT (w2 ↥3 ⇑11 bL)) (aw (ay (ao (ay (ao (wC (.str "go")) (ao ↥4 ak))) (ao (aZ (aN ak)) ak)))) aD) (aq (dB (aA qL (ao ↥0 (ao ↥1 ak))) (d4 2 (bF (aG 5) (bF (aG 6) di)))) (aq (aI (cT (w2 ↥3 ⇑7 iz)) (aw (ay (ao (ay (ao (wC (.str "look")) (ao ↥5 (ao ↥4 ak)))) (ao ↥6 ak)))) aD) (aw (ay (ao (ay (ao (w2 (aZ (aN (ao (wC (.str "take")) (ao (wC (.str "take")) (ao (wC (.str "take")) (ao (wC (.str "read")) ak)))))) (w2 ↥3 ⇑4 (b9 λi j=>.int (i-j))) aU) (ao ↥5 ak))) (ao ↥6 ak)))))))))))
abbrev Iy:aH:=(aq (bx 1 (aN (ao (ay ak) ak))) (aq (aP (d3 (w2 (aZ (aN (ao ⇑0 (ao ⇑1 (ao ⇑0 (ao ⇑1 (ao ⇑2 ak))))))) (aA bP (ao ↥0 (ao ⇑5 ak))) aU)) (aG 2) (aY 1 (w2 (aZ (aN (ao (ay ak) (ao (ay (ao (wC (.str "n")) ak)) (ao (ay (ao (wC (.str "go")) (ao (wC (.str "n")) ak))) (ao (ay (ao (wC (.str "nm")) ak)) (ao (ay ak) ak))))))) (aA bP (ao ↥0 (ao ⇑5 ak))) aU))) (aq (bx 3 (aN ak)) (bX 1 (aq (aP (dY ↥1) (aG 4) (aq (bx 5 (lF ↥4)) (aq (bx 6 (aN ak)) (aq (aP (d3 (w2 (aZ (aN (ao ⇑2 (ao ⇑1 (ao ⇑3 (ao ⇑2 (ao ⇑0 (ao ⇑1 (ao ⇑2 (ao ⇑3 ak)))))))))) (aA bP (ao ↥0 (ao ⇑8 ak))) aU)) (aG 2) (aq (ax 8 (aZ (bY [af,ae 5,ae 1] (d3 (wB d7 (ao ↥1 ak))) (aG 0) (cT (w2 (aZ (bY [af,ae 1] (c7 (w2 ↥2 ↥0 aU)) (aG 0) (cT (w2 ↥0 ↥1 (d8 ah))) ↥0)) (aZ (aN ak)) bL)) ↥0))) (aq (dB (aA oB (ao ↥0 (ao (cy 5) (ao ↥8 ak)))) (d4 2 (bF (aG 9) (bF (aG 10) di)))) (aq (aY 6 ↥9) (aP (dY ↥10) (aG 7) (aI (cT (w2 ↥7 (cy 5) (d8 ah))) (aY 5 ↥7) aD)))))) (bX 6 (aY 3 (ay (ao ↥4 (ao (wB fX (ao ↥6 ak)) ak))))))))) (bX 3 (aw (wB fX (ao ↥3 ak)))))))))
abbrev LC:aH:=(aq (bx 2 (aN ak)) (aq (aP (d3 (aA bP (ao ↥0 (ao (w2 ↥1 ⇑1 (b9 λi j=>.int (i+j))) ak)))) (aG 3) (aq (ax 4 (wB fX (ao (aZ (bY [af,ae 0] (d3 (aA lq (ao ↥0 ak))) (aG 0) bB (aA iq (ao ↥1 ak)))) ak))) (aY 2 (ay (ao ↥4 (ao (w2 (eC 0) (aA bP (ao ↥0 (ao (wB d7 (ao (eC 0) ak)) ak))) aU) ak)))))) (bX 2 (aw (wB fX (ao ↥2 ak))))))
abbrev Ra:aH:=(aq (bx 3 (lF (w2 (w2 ↥0 ↥1 av) ⇑0 av))) (aq (aP (c7 (dA (w2 (w2 ↥0 ↥1 av) ⇑1 av) du (dv ↥2))) (aG 4) (aI (cT (w2 (w2 ↥4 ⇑0 av) (ay (ao (wC (.str "take")) (ao (wC (.str "read")) (ao (wC (.str "look")) ak)))) (dP ai))) (fN 3 (aZ (bY [af] (c7 (w2 ↥4 ⇑1 av)) (aG 0) (cT (w2 (w2 ↥0 ⇑0 av) (wC (.str "bind")) aX)) (w2 ↥0 ⇑1 av)))) aD)) (bX 3 (aw (aZ (CT ↥3))))))
abbrev K2:aH:=(aq (bx 3 (aN ak)) (aq (aP (c7 ↥1) (aG 4) (aq (ax 5 (aA bP (ao ↥0 (ao (wB a9 (ao ↥4 ak)) ak)))) (aq (ax 6 (aA bP (ao ↥0 (ao (w2 (wB a9 (ao (w2 (w2 ↥4 ↥5 av) ⇑1 av) ak)) ⇑1 (b9 λi j=>.int (i+j))) ak)))) (aq (ax 7 (wB eQ (ao (aZ (bY [af,ae 0] (dY (aA rJ (ao ↥4 (ao ↥5 (ao ↥6 ak))))) (aG 0) bB (ay (ao ↥0 (ao (aA iq (ao ↥1 ak)) ak))))) ak))) (aY 3 (ay (ao ↥5 (ao ↥6 (ao ↥7 ak))))))))) (bX 3 (aw (ay (ao (wB eQ (ao ↥3 ak)) (ao (aA nZ (ao ↥0 (ao ↥2 ak))) ak)))))))
abbrev zv:aH:=(aq (bx 1 (bY [af,ae 0] (d3 (w2 (aZ (aN (ao ⇑1 (ao ⇑2 (ao ⇑2 (ao ⇑1 (ao ⇑3 (ao ⇑2 (ao ⇑0 (ao ⇑2 ak)))))))))) (aA bP (ao ↥0 (ao ⇑8 ak))) aU)) (aG 0) bB (aA sL (ao ↥1 ak)))) (aq (aI (cJ (cT (w2 (wB d7 (ao (cy 1) ak)) ⇑2 bL)) (cT (w2 (aA bP (ao ↥0 (ao ⇑4 ak))) ⇑0 bL))) (kX 1 ⇑1 (w2 (cy 1) ⇑0 aU)) aD) (aq (ax 1 (wB fX (ao (cy 1) ak))) (aq (aI (cT (w2 (aA bP (ao ↥0 (ao ⇑2 ak))) ⇑0 bL)) (bX 1 (aw (ay (ao ↥1 (ao (aA qt (ao ↥0 (ao ↥1 (ao ⇑3 ak)))) ak))))) aD) (bX 1 (aw (ay (ao ↥1 (ao (ay (ao (wB fX (ao (aZ (bY [af] (c7 ↥1) (aG 0) bB (ay (ao ⇑0 (ao ⇑0 (ao (ay ak) ak)))))) ak)) (ao (aA nZ (ao ↥0 (ao ⇑4 ak))) ak))) ak)))))))))
abbrev MY:aH:=(aq (aI (cT (w2 (wB a9 (ao ↥0 ak)) (wB a9 (ao ↥1 ak)) ec)) (aw (wC .none)) aD) (aq (jm 3 (iO ↥2)) (aq (bx 4 (aN ak)) (aq (aP (m7 ↥0 ↥1) (d4 2 (bF (aG 5) (bF (aG 6) di))) (aq (ax 7 (wC (.bool ah))) (aq (aI (cT (w2 (w2 ↥5 ⇑0 av) (wC (.str "is")) aX)) (ax 7 (w2 (w2 ↥5 ⇑1 av) ↥6 aX)) (aI (cT (w2 (w2 ↥5 ⇑0 av) (ay (ao (wC (.str "word")) (ao (wC (.str "number")) ak))) (dP ai))) (ax 7 (w2 (bU "str" ↥6) (w2 (w2 ↥5 ⇑0 av) (wC (.str "word")) aX) aX)) (aI (d0 (cT (w2 (w2 ↥5 ⇑0 av) (wC (.str "as")) aX)) (cJ (cT (w2 (w2 ↥5 ⇑0 av) (wC (.str "bind")) aX)) (cT (lK 4 (w2 ↥5 ⇑1 av))))) (ax 7 (cO (w2 (w2 ↥5 ⇑1 av) (dF 3) (eB ai)) (w2 (w2 (dF 3) (w2 ↥5 ⇑1 av) fT) ↥6 aX))) (aI (cT (w2 (w2 ↥5 ⇑0 av) (wC (.str "bind")) aX)) (aq (aY 4 (w2 ↥5 ⇑1 av)) (ll 3 (w2 ↥5 ⇑1 av) ↥6)) aD)))) (aI (cH (cT ↥7)) (aw (wC .none)) aD)))) (aw (wB eQ (ao (aZ (bY [af,ae 3] (dY (aZ (CL (dF 3)))) (aG 0) bB (ay (ao ↥0 (ao (w2 (dF 1) ↥0 fT) ak))))) ak)))))))
abbrev IB:aH:=(aq (bx 2 (aN ak)) (aq (aP (c7 ↥0) (aG 3) (aq (ax 4 (w2 ↥3 ⇑1 av)) (aq (aI (cT (w2 (w2 ↥3 ⇑0 av) (wC (.str "is")) ec)) (ax 4 (w2 (ki ↥1) (w2 ↥3 ⇑1 av) fT)) aD) (aq (aI (cJ (cT (w2 (w2 ↥3 ⇑0 av) (wC (.str "next")) aX)) (cH (cT (bU "str" ↥4)))) (ax 4 (w2 (w2 ↥4 ⇑1 (b9 λi j=>.int (i+j))) ⇑100 (gI (λ_ j=>0 < j) λi j=>.int (i % j)))) aD) (aY 2 ↥4))))) (bX 2 (aw (wB eQ (ao ↥2 ak))))))
abbrev P6:aH:=(aq (dB (w2 ↥1 ↥2 av) (d4 3 (bF (aG 3) (bF (aG 4) (bF (aG 5) di))))) (aq (ax 6 (w2 (w2 (w2 ↥0 ↥2 av) ↥3 av) ⇑1 av)) (aw (dz (cT (w2 ↥4 (wB a9 (ao ↥6 ak)) fw)) (w2 ↥6 ↥4 av) (wC .none)))))
abbrev GF:aH:=(aq (aP (d3 (wB a9 (ao ↥1 ak))) (aG 3) (aq (ax 4 (aA qU (ao (w2 ↥0 ⇑1 av) (ao (w2 (w2 ↥1 ↥3 av) ⇑0 av) (ao ↥2 ak))))) (aI (cT (w2 ↥4 (wC .none) (bc ah))) (aw (ay (ao ↥3 (ao ↥4 ak)))) aD))) (aw (wC .none)))
abbrev HC:aH:=(aq (bx 2 (aN ak)) (aq (aP (d3 (wB a9 (ao ↥0 ak))) (aG 3) (aq (ax 4 (aA tY (ao ↥0 (ao (w2 ↥1 ⇑0 av) (ao ↥3 ak))))) (aI (cT (w2 ↥4 (wC .none) (bc ah))) (aq (ax 5 (w2 (w2 (w2 ↥1 ⇑0 av) ↥3 av) ⇑2 av)) (aI (d0 (cT (w2 (w2 ↥4 ⇑0 av) (ay (ao (wC (.str "take")) (ao (wC (.str "read")) ak))) (dP ah))) (cT (w2 (aA mW (ao ↥4 (ao (w2 ↥1 ⇑1 av) (ao ↥5 ak)))) (wC .none) (bc ah)))) (aY 2 ↥3) aD)) aD))) (bX 2 (aw (w2 ↥2 (aZ (aN (ao (wB a9 (ao ↥0 ak)) ak))) fV)))))
abbrev v9:aH:=(aq (dB ↥1 (d4 2 (bF (aG 3) (bF (aG 4) di)))) (aq (aI (cT (w2 ↥2 (wB a9 (ao ↥0 ak)) aX)) (aw (ay (ao ↥3 (ao (wB eQ (ao (aZ (bY [af,af] (c7 ↥4) (d4 2 (bF (aG 0) (bF (aG 1) di))) (cT (w2 ↥1 ⇑1 ec)) (ay (ao ↥0 (ao (dz (cT (w2 ↥1 (wC .none) (bc ai))) ↥1 (w2 ↥1 ⇑1 (b9 λi j=>.int (i-j)))) ak))))) ak)) ak)))) aD) (aq (dB (w2 ↥3 ↥2 av) (d4 3 (bF (aG 5) (bF (aG 6) (bF (aG 7) di))))) (aq (ax 8 (w2 (w2 (w2 (w2 ↥0 ↥2 av) ↥5 av) ⇑1 av) ↥6 av)) (aq (ax 9 (wC .none)) (aq (aI (cT (w2 (w2 ↥8 ⇑0 av) (wC (.str "lay")) aX)) (ax 4 (w2 ↥4 (ay (ao (ay (ao (aA u9 (ao (w2 ↥8 ⇑1 av) (ao ↥7 ak))) (ao (w2 ↥8 ⇑2 av) ak))) ak)) eM)) (aI (cT (w2 (w2 ↥8 ⇑0 av) (wC (.str "go")) aX)) (ax 9 (w2 ↥8 ⇑1 av)) (aI (cT (w2 (w2 ↥8 ⇑0 av) (wC (.str "same")) aX)) (aq (dB (aZ (bY [af,ae 7] (c7 (dA ↥8 (dv ⇑1) (dv ⇑3))) (aG 0) bB (dz (cT (w2 (w2 ↥0 ⇑0 av) (wC (.str "is")) aX)) (w2 ↥0 ⇑1 av) (w2 (ki ↥1) (w2 ↥0 ⇑1 av) fT)))) (qA 2 (bF (aG 10) (bF (aG 11) di)))) (ax 9 (dz (cT (w2 ↥10 ↥11 aX)) (wC .none) (w2 ↥8 ⇑3 av)))) (aq (ax 12 (aA mW (ao ↥8 (ao ↥4 (ao ↥7 ak))))) (aI (cT (w2 ↥12 (wC .none) (bc ai))) (ax 9 (w2 ↥8 ⇑2 av)) (aq (ax 7 (w2 ↥12 ⇑1 av)) (aI (cT (w2 (w2 ↥8 ⇑0 av) (wC (.str "take")) aX)) (ax 4 (w2 (dA ↥4 du (dv (w2 ↥12 ⇑0 av))) (dA ↥4 (dv (w2 (w2 ↥12 ⇑0 av) ⇑1 (b9 λi j=>.int (i+j)))) du) eM)) aD))))))) (aq (ax 13 (ay (ao ↥5 (ao (w2 ↥6 ⇑1 (b9 λi j=>.int (i+j))) (ao ↥7 ak))))) (aq (aI (cT (w2 ↥9 (wC .none) (bc ah))) (aq (ax 14 (w2 (w2 (w2 ↥0 ↥2 av) ↥9 av) ⇑0 av)) (ax 13 (ay (ao ↥9 (ao ⇑0 (ao (wB eQ (ao (aZ (bY [af,ae 14] (c7 ↥7) (aG 0) (cT (w2 (w2 ↥0 ⇑0 av) ↥1 (dP ai))) ↥0)) ak)) ak)))))) aD) (aw (ay (ao (w2 (w2 (dA ↥3 du (dv ↥2)) (ay (ao ↥13 ak)) eM) (dA ↥3 (dv (w2 ↥2 ⇑1 (b9 λi j=>.int (i+j)))) du) eM) (ao ↥4 ak))))))))))))
abbrev JZ:aH:=(aq (ni 3 ↥1 ⇑0) (aq (bx 4 (aN (ao ↥1 ak))) (aq (ax 5 ⇑0) (aq (j8 (cT (w2 ↥5 (wB d7 (ao (cy 4) ak)) fw)) (aq (aP (dY (aA de (ao ↥0 (ao (w2 (cy 4) ↥5 aU) ak)))) (aG 6) (aq (ax 7 (aA da (ao ↥0 (ao (w2 (cy 4) ↥5 aU) (ao ↥6 ak))))) (aI (cT (w2 ↥7 (b5 3) (fo ah))) (aq (aI (cT (w2 (wB d7 (ao (cy 4) ak)) ↥2 bL)) (aw (wC .none)) aD) (aq (jZ 3 ↥7 (w2 (w2 (b5 3) (w2 (cy 4) ↥5 aU) iB) ⇑1 (b9 λi j=>.int (i+j)))) (aY 4 ↥7))) aD))) (ax 5 (w2 ↥5 ⇑1 (b9 λi j=>.int (i+j)))))) (mq 3)))))
abbrev CS(Sf:aJ):aH:=(aq (ax 3 (aA bP (ao ↥0 (ao ⇑8 ak)))) (aq (aI (cJ (cT (w2 ↥2 ⇑0 iz)) (cT (w2 ↥3 ⇑0 aX))) (aw (ay (ao (wC (.str "not")) (ao (aA Sf (ao ↥0 (ao ↥1 (ao (w2 ↥2 ⇑1 (b9 λi j=>.int (i-j))) ak)))) ak)))) aD) (aq (aI (cJ (cT (w2 ↥2 ⇑0 iz)) (cT (w2 ↥3 ⇑3 fw))) (aq (ax 4 (aZ (bY [af,ae 2,ae 1,ae 0] (d3 (w2 (aZ (aN (ao ⇑2 (ao ⇑0 (ao ⇑1 (ao ⇑3 ak)))))) (aA bP (ao ↥0 (ao ⇑4 ak))) av)) (aG 0) bB (aA Sf (ao ↥3 (ao ↥2 (ao (w2 ↥1 ⇑1 (b9 λi j=>.int (i-j))) ak))))))) (aw (ay (ao (w2 (aZ (aN (ao (wC (.str "all")) (ao (wC (.str "some")) ak)))) (w2 ↥3 ⇑1 (b9 λi j=>.int (i-j))) av) (ao (wB eQ (ao ↥4 ak)) ak))))) aD) (aq (aI (cJ (cT (w2 (wB a9 (ao ↥1 ak)) ⇑0 iz)) (cT (w2 ↥3 ⇑5 iz))) (aq (ax 5 (aA bP (ao ↥0 (ao (wB a9 (ao ↥1 ak)) ak)))) (aq (aI (cT (w2 ↥3 ⇑6 aX)) (aw (ay (ao (wC (.str "ended")) (ao ↥5 ak)))) aD) (aq (ax 6 (aA bP (ao ↥0 (ao (wB a9 (ao (w2 ↥1 ↥5 av) ak)) ak)))) (aw (ay (ao (wC (.str "at")) (ao ↥5 (ao ↥6 (ao (aA bP (ao ↥0 (ao (w2 (wB a9 (ao (w2 (w2 (w2 ↥1 ↥5 av) ↥6 av) ⇑1 av) ak)) ⇑1 (b9 λi j=>.int (i+j))) ak))) ak))))))))) aD) (aq (ax 7 (aZ (bY [af] (c7 (w2 (aA qL (ao ↥0 (ao (aZ (aN ak)) ak))) ⇑0 av)) (aG 0) bB (dz (cT (w2 (w2 ↥0 ⇑0 av) (wC (.str "as")) aX)) (ay (ao (wC (.str "bind")) (ao (w2 ↥0 ⇑1 av) ak))) ↥0)))) (aw (ay (ao (wC (.str "notes")) (ao (wB eQ (ao ↥7 ak)) (ao (w2 (aZ (aN (ao ⇑1 (ao ⇑2 (ao ⇑1 (ao ⇑3 (ao ⇑9 ak))))))) (aA bP (ao ↥0 (ao ⇑5 ak))) av) ak))))))))))
abbrev FE(Sf:aJ):aH:=(aq (aI (cT (w2 (w2 ↥2 ⇑0 av) (wC (.str "notes")) aX)) (aw (w2 (wB a9 (ao (aZ (bY [af,af,ae 2] (c7 (w2 ↥1 ⇑1 av)) (d4 2 (bF (aG 0) (bF (aG 1) di))) (cT (w2 (aA qU (ao (w2 ↥2 ⇑1 av) (ao ↥0 (ao (ay ak) ak)))) (wC .none) (bc ah))) ↥0)) ak)) (w2 ↥2 ⇑2 av) pE)) aD) (aq (aI (cT (w2 (w2 ↥2 ⇑0 av) (wC (.str "not")) aX)) (aw (je (aA Sf (ao ↥0 (ao ↥1 (ao (w2 ↥2 ⇑1 av) ak)))))) aD) (aq (aI (cT (w2 (w2 ↥2 ⇑0 av) (ay (ao (wC (.str "all")) (ao (wC (.str "some")) ak))) (dP ai))) (aq (ax 3 (aZ (bY [af,ae 0,ae 1] (c7 (w2 ↥2 ⇑1 av)) (aG 0) bB (aA Sf (ao ↥1 (ao ↥2 (ao ↥0 ak))))))) (aw (dz (cT (w2 (w2 ↥2 ⇑0 av) (wC (.str "all")) aX)) (w2 (wC (.bool ai)) ↥3 (dP ah)) (w2 (wC (.bool ah)) ↥3 (dP ai))))) aD) (aq (dB (w2 (w2 ↥1 ⇑0 av) (w2 ↥2 ⇑1 av) av) (d4 3 (bF (aG 4) (bF (aG 5) (bF (aG 6) di))))) (aq (aI (cT (w2 (w2 ↥2 ⇑0 av) (wC (.str "at")) aX)) (aw (cO (w2 ↥4 (w2 ↥2 ⇑2 av) aX) (w2 ↥5 (w2 ↥2 ⇑3 av) aX))) aD) (aw (w2 ↥5 (wB a9 (ao (w2 (w2 (w2 ↥0 (w2 ↥2 ⇑1 av) av) ↥4 av) ⇑1 av) ak)) aX)))))))
abbrev Om:aH:=(aq (aP (dY ↥2) (aG 3) (aq (aI (d0 (cT (bU "bool" ↥3)) (d0 (cH (cT (bU "int" ↥3))) (cT (w2 ↥3 (aA de (ao ↥0 (ao ↥1 ak))) (dP ah))))) (aw (wC .none)) aD) (ax 1 (aA da (ao ↥0 (ao ↥1 (ao ↥3 ak))))))) (aw ↥1))
abbrev Oo:aH:=(aq (rC 3) (aq (aP (dY ↥2) (aG 4) (jZ 3 ↥4 (wC (.bool ah)))) (aq (aI (cT (w2 ↥1 (b5 3) (fo ah))) (aw (wC (.bool ai))) aD) (gq 3 (aq (aP (ib (b5 3)) (aG 4) (aP (dY (aA de (ao ↥0 (ao ↥4 ak)))) (aG 5) (aI (cT (w2 (aA da (ao ↥0 (ao ↥4 (ao ↥5 ak)))) (b5 3) (fo ah))) (aw (wC (.bool ai))) aD))) (aw (wC (.bool ah))))))))
abbrev FO:aH:=(aq (aI (d0 (cH (cT (bU "tuple" ↥4))) (d0 (cT (w2 (wB a9 (ao ↥4 ak)) ⇑2 ec)) (cH (cT (bU "list" (w2 ↥4 ⇑1 av)))))) (aw (wC (.bool ai))) aD) (aq (aI (cT (w2 (wC (.bool ah)) (aZ (bY [af,ae 0,ae 2] (ib (b5 3)) (aG 0) bB (aA (dm 3) (ao ↥1 (ao ↥0 (ao ↥2 ak)))))) (dP ai))) (aq (ax 5 (aA (l5 de da) (ao ↥0 (ao ↥1 (ao (w2 ↥4 ⇑1 av) ak))))) (aw (cO (w2 (w2 ↥4 ⇑0 av) (wC (.str "seen")) aX) (cO (w2 ↥5 (wC .none) (bc ah)) (aA (dm 3) (ao ↥0 (ao ↥5 (ao ↥2 ak)))))))) aD) (aq (ax 6 (aZ (bY [af] (dY (w2 ↥4 ⇑1 av)) (aG 0) bB (wB px (ao ↥0 ak))))) (aq (aI (d0 (cT (w2 (w2 ↥4 ⇑0 av) (wC (.str "never")) ec)) (cT (w2 (wC (.bool ai)) (aZ (bY [af,ae 6] (ib (b5 3)) (aG 0) bB (w2 (wB px (ao ↥0 ak)) ↥1 (dP ai)))) (dP ai)))) (aw (wC (.bool ai))) aD) (aw (cO (aA (mh de da) (ao ↥0 (ao ↥1 (ao (w2 ↥4 ⇑1 av) ak)))) (w2 (wC (.bool ah)) (aZ (bY [af,ae 0,ae 2] (dY (w2 ↥4 ⇑1 av)) (aG 0) bB (aA (dm 3) (ao ↥1 (ao ↥0 (ao ↥2 ak)))))) (dP ah))))))))
abbrev SW:aH:=(aq (dB (aA si (ao ↥1 ak)) (d4 2 (bF (aG 2) (bF (aG 3) di)))) (aq (sY 4 (oE de da) (ao ↥2 (ao ↥3 (ao ⇑30 ak)))) (nr 4 (aq (aP (d3 (dz (cT (w2 (b5 4) (wC .none) (nM ai))) ⇑0 ⇑3)) (aG 5) (aq (ax 6 (aA (kh 3) (ao ↥1 (ao ↥2 (ao ⇑2 ak))))) (aq (aI (cJ (cT (w2 (wB a9 (ao ↥2 ak)) ⇑0 iz)) (cT (w2 (aA bP (ao ↥1 (ao ⇑2 ak))) ⇑0 aX))) (aq (ax 7 (aA bP (ao ↥1 (ao (wB a9 (ao ↥2 ak)) ak)))) (ax 6 (w2 (ay (ao (wC (.str "at")) (ao ↥7 ak))) (dA (w2 (w2 (w2 (aZ (ot (b5 4))) (aA bP (ao ↥1 (ao (wB sR (ao (b5 4) ak)) ak))) av) ⇑0 av) ↥7 av) du (dv ⇑2)) eM))) aD) (aP (d3 ⇑2) (aG 8) (ug 9 (jV eO (dm 3)) (kO (dm 3) de da) (ao ↥2 (ao ↥3 (ao ↥6 ak))) (ao ↥2 (ao ↥3 (ao ↥6 (ao (b5 4) (ao ↥9 ak)))))))))) (aw (wC (.bool ah)))))))
theorem PN:cm jq KD ["field","value","having","bound","head"]:=λws n Q h=>by
 obtain⟨f,v,l,m,rfl,g,c,p,o,k⟩:=h;cases f with
 |is w=>
  show(match eW w v with|some r=>Q _ n|none=>False);rw[lg (g) c];exact k
 |any=>exact k
 |word=>
  cases v<;>exact k
 |number=>
  show Q _ n;cases v<;>first|cases c|exact k
 |as x=>
  show gF _ (match bS _ (.inr x)with|some d=>(match eW d v with|some r=>Q _ n|none=>False)|none=>False) (Q _ n);rw[jk];unfold gb at k;cases e:look l x with
  |none=>
   simp only[e]at k;exact k
  |some w=>
   simp only[e]at k;show(match eW w v with|some r=>Q _ n|none=>False);rw[lg (p _ (j3 e)).2 c];exact k
 |bind x=>
  show gF _ (Q _ n) (match bS _ (.inr x)with|some d=>(match eW d v with|some r=>Q _ n|none=>False)|none=>False);rw[jk];unfold gb at k;cases e:look m x with
  |none=>
   simp only[e]at k;exact k
  |some w=>
   simp only[e]at k;show(match eW w v with|some r=>Q _ n|none=>False);rw[lg (o _ (j3 e)).2 c];exact k
theorem BG{p:Prop}[Decidable p]{A B:Prop}(h1:p->A)(h2:¬p->B):if decide p=ah then A else B:=by
 by_cases z:p
 ·rw[a' (b_ z)];exact h1 z
 ·rw[a_ (by rw[c_ z];simp)];exact h2 z
theorem uX:∀ps:Nm,kG (ps.map iL)=ae (b4 ps)
 |[]=>rfl
 |p::r=>by
  show(kG _).map _=_;rw[uX r];rfl
theorem SY{l:Nm}{x:Str}{v:Ad}(h:x∉l.map (·.1)):put l x v=l++[(x,v)]:=by
 unfold put;rw[a_ λz=>by
  obtain⟨p,a,e⟩:=Cm.mp z;exact h (A5.mpr ⟨p,a,d_ e⟩)]
theorem vB:∀(r l:Nm),((l++r).map (·.1)).Nodup->p6 (b4 l) (b4 r)=b4 (l++r)
 |[],l,_=>by rw[Bh];rfl
 |p::r,l,a=>by
  have e:l++p::r=(l++[p])++r:=by simp
  show p6 (fU _ _ p.2) _=_;rw[qm,SY,e]
  ·exact vB r _ (by rw[<-e];omega)
  ·intro z;rw[Bc,F2]at a;exact a.2.2 _ z _ Ap rfl
theorem pC{δ:Sl}{n:Int}{K:DEnds}{i j:Nat}{ps:Nm}(e:δ[j]?=ae (↑(cV ps)))(ok:okN ps)(k:K.nx (δ.set i (ae (.odk (b4 ps)))) n):jm i (iO (aj j)) δ n K:=by
 unfold jm iO;refine au e ?_;unfold cV;simp only[uX];refine⟨by rw[Ab];have:=ok.1;omega,?_⟩;have:=vB ps [] (ok.2.1);rw[show([]:List _)=b4 []from rfl,this];exact k
section
variable{δ:Sl}{n:Int}{K:DEnds}{W V:aH}{Q:DQ}
theorem Mm{i j n:Int}{Q:DQ}(k:Q (.d (.bool (!decide (i=j)))) n):ec (.d (.int i)) (.d (.int j)) n Q:=k
theorem xr{xs ys:List Ad}(e0:δ[0]?=ae (↑(.tuple xs)))(e1:δ[1]?=ae (↑(.tuple ys)))(hT:xs.length≠ys.length->W δ n K)(hF:xs.length=ys.length->V δ n K):
  aI (cT (w2 (wB a9 (ao ↥0 ak)) (wB a9 (ao ↥1 ak)) ec)) W V δ n K:=by
 refine au e0 (au e1 ?_);dsimp only[a9];refine Mm (mS (λh=>hT λz=>?_) λh=>hF ?_)
 ·rw[z,b_ rfl]at h;cases h
 ·by_cases z:(xs.length:Int)=(ys.length:Int)
  ·exact Int.ofNat.inj z
  ·rw[c_ z]at h;cases h
theorem L7{g:Fd}{v:Ad}{hp bp:Nm}(e5:δ[5]?=ae (↑g.d))(e6:δ[6]?=ae (↑v))(e3:δ[3]?=ae (ae (.odk (b4 hp))))(e4:δ[4]?=ae (ae (.odk (b4 bp))))(gok:g.ok)(hv:b7 v=ah)(hh:∀p∈hp,eG p)(hb:∀p∈bp,eG p)
  (hT:gb g v hp bp=ai->W δ n K) (hF:gb g v hp bp=ah->V δ n K):aI (cH (cT (aA jq (ao ↥5 (ao ↥6 (ao (dF 3) (ao (dF 4) ak))))))) W V δ n K:=by
 unfold aI cH cT aA ao ak;refine au e5 (au e6 ?_);unfold dF;simp only[e3,e4];refine⟨g,v,hp,bp,rfl,gok,hv,hh,hb,mS (λh=>hT ?_) λh=>hF ?_⟩
 ·cases q:gb g v hp bp with|false=>rfl|true=>rw[q]at h;cases h
 ·cases q:gb g v hp bp with|true=>rfl|false=>rw[q]at h;cases h
variable{xs:List Ad}{j:Nat}{a b v:Ad}{r:List Ad}
end
def nR(gs:List Fd)(vs:List Ad)(hp:Nm)(hs:List Str)(r:Ad):Prop:=match wk (gs.zip vs) hp hs with
 |none=>r=.none
 |some h=>r=cV (bT h)
theorem SJ{g:Fd}{v:Ad}{gs:List Fd}{vs:List Ad}{hp bp:Nm}{hs:List Str}(h1:∀x,x∈hs↔(look bp x).isSome=ah)(h2:∀x w,look bp x=ae w->look hp x=ae w)(h:gb g v hp bp=ai):nR (g::gs) (v::vs) hp hs .none:=by
 have c:wk ((g,v)::gs.zip vs) hp hs=af:=by
  cases g with
  |is w=>unfold wk;rw[a_ (by rw[show fq w v=ai from h];simp)]
  |any=>cases h
  |word=>unfold wk;rw[a_ (by rw[show gR v=ai from h];simp)]
  |number=>unfold wk;rw[a_ (by rw[show gQ v=ai from h];simp)]
  |as x=>
   unfold wk;unfold gb at h;cases q:look hp x with
   |none=>rfl
   |some w=>
    simp only[q]at h;simp only[h,Gy,if_false]
  |bind x=>
   unfold wk;unfold gb at h;cases q:look bp x with
   |none=>simp only[q]at h;cases h
   |some w=>
    simp_all
 unfold nR;rw[Gw,c]
theorem Ig{g:Fd}{v:Ad}{l:List (Fd×Ad)}{hp bp:Nm}{hs:List Str}(ng:∀x,g≠.bind x)(h:gb g v hp bp=ah):wk ((g,v)::l) hp hs=wk l hp hs:=by
 cases g with
 |is w=>rw[wk,a' (show fq w v=ah from h)]
 |any=>rw[wk]
 |word=>rw[wk,a' (show gR v=ah from h)]
 |number=>rw[wk,a' (show gQ v=ah from h)]
 |as x=>
  rw[wk];unfold gb at h;cases q:look hp x with
  |none=>simp only[q]at h;cases h
  |some w=>
   simp only[q]at h;simp only[h,if_true]
 |bind x=>exact f_ rfl (ng x)
theorem j2(x:Str):∀hs:List Str,bW (.str x) (hs.map .str)=decide (x∈hs)
 |[]=>by rfl
 |y::r=>by
  show(lB _ _ || bW _ _)=_;rw[j2 x r];have e:lB (.str y) (.str x)=decide (x=y):=by
   by_cases z:x=y
   ·subst z;rfl
   ·rw[c_ z];exact beq_eq_false_iff_ne.mpr λw=>z w.symm
  rw[e];by_cases z:x=y
  ·subst z;simp
  ·rw[c_ z,Bool.false_or];by_cases q:x∈r
   ·rw[b_ q,b_ (Ak _ q)]
   ·rw[c_ q,c_ (by simp[z,q])]
theorem vn{hp:Nm}(nd:(hp.map (·.1)).Nodup){p:Str×Ad}(h:p∈hp):look hp p.1=ae p.2:=by
 cases q:look hp p.1 with
 |none=>
  have a:=rj hp p.1;rw[q]at a;have b:(hp.any λq=>decide (q.1=p.1))=ah:=Cm.mpr ⟨p,h,b_ rfl⟩;rw[b]at a;cases a
 |some v=>
  obtain⟨i,c⟩:=Br.mp h;obtain⟨j,d⟩:=Br.mp (j3 q);have k:(hp.map (·.1))[i]?=ae p.1:=by rw[Am,c];rfl
  have g:(hp.map (·.1))[j]?=ae p.1:=by rw[Am,d];rfl
  obtain⟨m,e⟩:=Aq.mp k;obtain⟨l,f⟩:=Aq.mp g;have:=(Fb nd).mp (e.trans f.symm);rw[this,d]at c;have:=Bq c;rw[<-this]
theorem Jq{δ:Sl}{n:Int}{K:DEnds}{i:Nat}(k:K.nx (δ.set i (ae (.odk (b4 [])))) n):jm i j0 δ n K:=k
theorem EJ{δ:Sl}{n:Int}{K:DEnds}{g:dE}{W:aH}{xs ys:List Ad}(e0:δ[0]?=ae (↑(.tuple xs)))(e1:δ[1]?=ae (↑(.tuple ys)))(hl:xs.length=ys.length)(k:dw g W K (dU xs ys) δ n):aP (m7 ↥0 ↥1) g W δ n K:=by
 unfold aP m7;exact au e0 (au e1 ⟨hl,k⟩)
theorem JJ:cm me Rl ["pattern","row","names","having","bound","field","value"]:=λws n Q h=>by
 obtain⟨T,row,S,rfl,C,X,A,k0⟩:=h;have k:∀r,nY T row S r->Q _ n:=λr s=>by rw[N2 s];omega
 refine az (xr rfl rfl (λne=>?_) λel=>?_)
 ·show Q _ n;refine k .none ?_;unfold nY;rw[Ab]at ne;rw[a_ ne]
 ·rw[Ab]at el;dsimp only[aD];refine az (pC rfl A ?_);dsimp only[A0];refine az (Jq ?_);dsimp only[A0];refine az (EJ rfl rfl (by rw[Ab];omega) ?_);refine eD (λds δ m=>m=n/\∃(a:List Fd)(c:List Ad)(f j:Nm)(B:List Str)(y z:Option SV),ds=dU (a.map Fd.d) c/\a.length=c.length/\δ=[↑(dJ T),↑(.tuple row),↑(cV S),ae (.odk (b4 f)),ae (.odk (b4 j)),y,z] /\
   (∀g∈a,g.ok)/\(∀d∈c,b7 d=ah)/\(f.map (·.1)).Nodup/\(∀p∈f,eG p)/\(∀p∈j,eG p)/\f.length+a.length<=48/\j.length+a.length<=48/\(∀x,x∈B↔(look j x).isSome=ah)/\(∀x w,look j x=ae w->look f x=ae w)/\∀r,nR a c f B r->Q (.d r) n) ?_ ?_ _ _ _ ?_
  ·rintro δ m ⟨rfl,a,c,f,j,B,y,z,e,O,rfl,u,t,D,b,o,W,l2,G,E,K⟩
   have:a=[]:=by
    cases a with
    |nil=>rfl
    |cons g a=>cases c with|nil=>cases O|cons v c=>cases e
   subst this;rw[List.length_nil]at W;exact⟨f,rfl,by omega,D,λp H=>⟨Ba (b p H).1.1 ∎,HA (b p H).2⟩,λps' p1 r1=>K _ (by rw[yM D p1 r1];rfl)⟩
  ·rintro d r δ m N ⟨rfl,a,c,f,j,B,y,z,e,O,rfl,u,t,D,b,o,W,l2,G,E,K⟩ Z
   cases a with
   |nil=>cases e
   |cons g a=>
    cases c with
    |nil=>cases O
    |cons v c=>
     have e1:=by have:=congrArg (λl=>l.head?) e;simpa[dU]using this
     have e2:r=dU (a.map Fd.d) c:=by have:=congrArg List.tail e;assumption
     subst e1 e2;rw[Ax]at W l2;rw[Ax,Ax]at O;have R:=u g Ap;have P:=t v Ap;refine⟨rfl,?_⟩;dsimp only[bF,di];refine az (L7 rfl rfl rfl rfl R P b o (λff=>?_) λff=>?_)
     ·exact K .none (SJ G E ff)
     ·dsimp only[aD];have I:(∀x,g≠.bind x)->N [ae _,ae _,ae _,ae _,ae _,↑g.d,↑v] m:=λng=>by
       refine Z _ _ ⟨rfl,a,c,f,j,B,_,_,rfl,by omega,rfl,λg V=>u g (Ak _ V),λd U=>t d (Ak _ U),D,b,o,by omega,by omega,G,E,λr s=>K r ?_⟩;unfold nR at s ⊢;rw[Gw,Ig ng ff];omega
      cases g with
      |is w=>exact I λx z=>nomatch z
      |any=>exact I λx z=>nomatch z
      |word=>exact I λx z=>nomatch z
      |number=>exact I λx z=>nomatch z
      |as x=>exact I λx z=>nomatch z
      |bind x=>
       refine ij rfl y2 ?_;show(b4 j).length < 1000/\(b4 f).length < 1000/\N [ae _,ae _,ae _,ae _,ae _,ae _,ae _] m;rw[qm,qm];refine⟨by unfold b4;rw[Ab];omega,by unfold b4;rw[Ab];omega,?_⟩;have p1:=qF f x v;have p2:=qF j x v;refine Z _ _ ⟨rfl,a,c,_,_,if x∈B then B else B++[x],_,_,rfl,by omega,rfl,λg V=>u g (Ak _ V),λd U=>t d (Ak _ U),vh D,my b R P,my o R P,by omega,by omega,λy=>?_,λy w Y=>?_,λr s=>K r ?_⟩
       ·by_cases q:y=x
        ·subst q;rw[EZ];refine⟨λ_=>rfl,λ_=>?_⟩
         split
         ·assumption
         ·exact Bw _ (A2.mpr rfl)
        ·rw[yt q,<-G]
         split
         ·exact Iff.rfl
         ·simp[q]
       ·by_cases q:y=x
        ·subst q;rw[EZ]at Y ⊢;omega
        ·rw[yt q]at Y ⊢;exact E y w Y
       ·unfold nR at s ⊢;rw[Gw,wk];by_cases q:x∈B
        ·rw[a' q]at s ⊢;cases M:look j x with
         |none=>rw[G,M]at q;cases q
         |some w=>
          have lh:=E x w M;unfold gb at ff;simp only[M]at ff;have wv:=Og (o _ (j3 M)).2 P ff;subst wv;rw[Jw D lh]at s;simp only[lh,ff,if_true];omega
        ·rw[a_ q]at s ⊢;omega
  ·refine⟨rfl,T,row,S,[],[],_,_,rfl,el,rfl,C.2.2,X.2,A.2.1,A.2.2,λ_ z=>f_ z A4,by have:=C.2.1;have:=A.1;omega,by have:=C.2.1;simp;omega,λx=>⟨λz=>f_ z A4,λz=>by cases z⟩,λx w z=>(nomatch z),λr s=>k r ?_⟩;unfold nY;rw[a' el];trivial
abbrev Zg:List Str:=["_law_tape_here"]
theorem LL:cm iq KC Zg:=λws n Q h=>by
 obtain⟨rfl,f,k⟩:=h;refine bo (ar (aV (Al ∎ (gG rfl ⋯ ∎ ∎ λr c e=>jS c e λd b=>k d ?_))));simp only[Au,A4,g_]at b;rcases b with rfl|rfl|rfl|rfl|rfl|rfl|rfl|rfl<;>simp[pZ]
theorem Lu:cm lq GG Zg:=λws n Q h=>by
 obtain⟨rfl,e,k⟩:=h;refine bo (ar (aV (Al ∎ ?_)));dsimp only;refine gG rfl ⋯ ∎ ∎ λr b c=>jS b c λd a=>?_;simp only[Au,A4,g_]at a;rcases a with rfl|rfl|rfl|rfl|rfl|rfl|rfl
 ·exact k 1 ∎ ∎
 ·exact k 2 ∎ ∎
 ·exact k 2 ∎ ∎
 ·exact k 2 ∎ ∎
 ·exact k 1 ∎ ∎
 ·exact k 3 ∎ ∎
 ·exact k 4 ∎ ∎
theorem vU{δ:Sl}{n:Int}{K:DEnds}{W:aH}{g:dE}(e:δ[0]?=ae (ae (.w .tp)))(hn:n < 2 ^ 39)(k:∀m:Nat,1<=m->m<=4->dw g W K (cf 0 m) δ (n+1)):aP (d3 (aA lq (ao ↥0 ak))) g W δ n K:=by
 refine dh (au e (Al rfl ⟨hn,λm b a=>Al ⟨by omega,by omega⟩ ?_⟩));exact k m b a
theorem rz{c:b3}{w:DT}{Q:List Ad->Int->Prop}{aC:Sl}(g:Fe->Option Ad)(hno:∀(f:Fe) (n:Int) (Q':Bool->Int->Prop),g f=af->Q' ai n->c (↑f.d::aC) n Q')
  (hyes:∀(f:Fe)(n:Int)(Q':Bool->Int->Prop)(y:Ad),g f=ae y->Q' ah n->c (↑f.d::aC) n Q') (hw:∀(f:Fe)(n:Int)(Q':DQ)(y:Ad),g f=ae y->Q' (.d y) n->w (↑f.d::aC) n Q'):
  ∀(fs:List Fe)(i':List Ad)(x:Option SV)(n:Int),Q (i'++fs.filterMap g) n->dg (aG 0) c w Q (fs.map Fe.d) i' (x::aC) n
 |[],i',x,n,q=>by
  rw[List.filterMap_nil,Bh]at q;exact q
 |f::r,i',x,n,q=>by
  rw[Bo];cases e:g f with
  |none=>
   refine hno f n _ e (rz g hno hyes hw r i' _ n ?_);simp_all
  |some y=>
   refine hyes f n _ y e (hw f n _ y e ?_);refine rz g hno hyes hw r _ _ n ?_;rw[List.filterMap_cons_some e]at q;rw[Bk];exact q
def iJ(o:Option Str):Option Ad:=o.map .str
theorem M3(g:Fe->Option Str)(fs:List Fe):fs.filterMap (λf=>iJ (g f))=(fs.filterMap g).map .str:=by
 rw[List.map_filterMap];rfl
theorem Mt(f:Fe):cx "bind" (.str f.hd)=f.bd.isSome:=by
 cases f with
 |any=>exact(by rfl)
 |word=>exact(by rfl)
 |num=>exact(by rfl)
 |isv _=>exact(by rfl)
 |bind _=>exact(by rfl)
 |as _=>exact(by rfl)
 |nx _=>exact(by rfl)
theorem OS{f:Fe}{k:Str}(h:f.bd=ae k):f.d=.tuple [.str f.hd,.str k]:=by
 cases f<;>cases h;rfl
theorem AE{o:Option Str}{y:Ad}(h:iJ o=ae y):∃k,o=ae k/\y=.str k:=by
 cases o with
 |none=>cases h
 |some k=>cases h;exact⟨k,rfl,rfl⟩
theorem Qj{o:Option Str}(h:iJ o=af):o=af:=by
 cases o with
 |none=>rfl
 |some k=>cases h
theorem oX{fs:List Fe}(h:eE fs):∀k∈bq fs,fG k:=λk b=>by
 obtain⟨f,a,e⟩:=Gx.mp b;have:=h.2 f a;cases f<;>cases e;trivial
theorem p9{fs:List Fe}(h:eE fs):(bq fs).length<=4:=Ba (List.length_filterMap_le _ _) h.1
theorem Mf{δ:Sl}{n:Int}{Q:DQ}{a b:Ad}(e:δ[0]?=ae (↑(.tuple [a,b])))(k:Q (.d b) n):w2 ↥0 (wC (.int 1)) av δ n Q:=bK e k
theorem yy{f:Fe}{aC:Sl}{n:Int}{Q':Bool->Int->Prop}(k:Q' f.bd.isSome n):cT (w2 (w2 ↥0 (wC (.int 0)) av) (wC (.str "bind")) aX) (↑f.d::aC) n Q':=by
 refine dQ rfl ?_;rw[Mt];exact k
theorem Oa{Q:List Ad->Int->Prop}(fs:List Fe)(n:Int)(k:Q ((bq fs).map .str) n):
  dg (aG 0) (cT (w2 (w2 ↥0 (wC (.int 0)) av) (wC (.str "bind")) aX)) (w2 ↥0 (wC (.int 1)) av) Q (fs.map Fe.d) [] [af] n:=by
 refine rz (λf=>iJ f.bd) (λf n a e q=>yy ?_) (λf n a y e q=>yy ?_) (λf n a y e q=>?_) fs [] af n ?_
 ·rw[Qj e];exact q
 ·obtain⟨x,_⟩:=AE e;simp_all
 ·obtain⟨x,b,rfl⟩:=AE e;exact Mf (by rw[OS b];rfl) q
 ·rw[M3];exact k
theorem ye{δ:Sl}{n:Int}{hs:List Str}{w:DT}{s:Str}{b:Bool}{Q:Bool->Int->Prop}(hw:∀Q:DQ,Q (.d (.str s)) n->w δ n Q)(e:bW (.str s) (hs.map .str)=b)(q:Q b n):cT (hV hs w) δ n Q:=hw _ (Al rfl (by simp_all))
theorem sP{a:Ac}(h:eE a.fs):(∀k∈a.bs,fG k)/\a.bs.length<=4:=by
 cases a with
 |take fs=>exact⟨oX h,p9 h⟩
 |read fs=>exact⟨oX h,p9 h⟩
 |look fs b=>exact⟨oX h,p9 h⟩
 |lay fs b=>exact⟨λk c=>by simp[Ac.bs]at c,by simp[Ac.bs]⟩
 |same f g b=>exact⟨λk c=>by simp[Ac.bs]at c,by simp[Ac.bs]⟩
 |go b=>exact⟨λk c=>by simp[Ac.bs]at c,by simp[Ac.bs]⟩
theorem sr:∀{ys ks:List Str},ys.Nodup->(∀k∈ys,k∈ks)->ys.length<=ks.length
 |[],_,_,_=>Az _
 |y::ys,ks,h,b=>by
  obtain⟨f,d⟩:=Du.mp h;have a:=b y Ap;have:=sr d λk c=>(List.mem_erase_of_ne (λ(e:k=y)=>f (e▸c))).mpr (b k (Ak _ c));rw[List.length_erase_of_mem a]at this;have:=List.length_pos_of_mem a;rw[Ax];omega
structure KnI(w:List Str)(dn:List Ac)(L:List Str):Prop where
 mem:∀k,k∈L↔k∈w++dn.flatMap Ac.bs
 len:L.length<=4+4*dn.length
 ok:∀k∈L,fG k
theorem KnI.first{w:List Str}(h:w.length<=4)(ok:∀k∈w,fG k):KnI w [] w:=⟨λk=>by simp,by simpa using h,ok⟩
theorem KnI.skip{w L:List Str}{dn:List Ac}{a:Ac}(I:KnI w dn L)(e:a.bs=[]):KnI w (dn++[a]) L:=
 ⟨λk=>by rw[I.mem k];simp[e],by rw[An,A1];have:=I.len;omega,I.ok⟩
theorem KnI.more{w L ys:List Str}{dn:List Ac}{a:Ac}(I:KnI w dn L)(h:∀k,k∈ys↔k∈a.bs)(hl:ys.length<=4)(ok:eE a.fs):KnI w (dn++[a]) (L++ys):=
 ⟨λk=>by rw[A7,I.mem k,h k,List.flatMap_append];simp[or_assoc],by rw[An,An,A1];have:=I.len;omega,λk b=>by
  rcases A7.mp b with z|z
  ·exact I.ok k z
  ·exact(sP ok).1 k ((h k).mp z)⟩
theorem nA{v:Ad}(h:v∈pZ):b7 v=ah:=by
 simp only[pZ,Au,A4,g_]at h;rcases h with rfl|rfl|rfl|rfl|rfl|rfl<;>decide +kernel
theorem S7{v:Wv}{a b:List Ad}{n:Int}{Q:DQ}(hv:gg v=ae a)(hl:a.length+b.length<=Aw)(q:Q (.d (.list (a++b))) n):fV v (.ln b) n Q:=by
 unfold fV;rw[hv];trivial
theorem zY{δ:Sl}{n:Int}{Q:DQ}(e0:δ[0]?=ae (ae (.w .tp)))(h:n < 2 ^ 39)(k:∀v∈j9,Q (.d v) (n+1)):w2 (eC 0) (aA bP (ao ↥0 (ao (wB d7 (ao (eC 0) ak)) ak))) aU δ n Q:=by
 have a:∀n Q,Q (.ln j9) n->eC 0 δ n Q:=λn Q q=>by unfold eC;simp_all
 exact ar (a _ _ (gD e0 (λQ q=>aQ (a _ _ q)) ⋯ ∎ ∎ λr b c=>vF b c k))
theorem GS(f:Fe)(r:List Fe):bq (f::r)=f.bd.toList++bq r:=by cases f<;>rfl
theorem GI(fs:List Fe)(f:Fe):bq (fs++[f])=bq fs++f.bd.toList:=by
 unfold bq;rw[List.filterMap_append];rfl
theorem uE:∀{fs:List Fe}{ks:List Str}{f:Fe},rF ks fs->(∀k,f.us=ae k->k∈ks++bq fs)->rF ks (fs++[f])
 |[],ks,f,_,h=>⟨λk a=>by simpa[bq]using h k a,trivial⟩
 |g::r,ks,f,b,c=>⟨b.1,uE b.2 λk a=>by
  have:=c k a;rw[GS,<-Bk]at this;omega⟩
theorem tX{f:Ad}{ks:List Str}(h:f∈ks.map .str):∃s∈ks,f=.str s:=by
 obtain⟨s,a,rfl⟩:=A5.mp h;exact⟨s,a,rfl⟩
def sO(kv:Wv)(ks:List Str)(n0:Int)(ds:List Ad)(δ:Sl)(n:Int):Prop:=∃(fs:List Fe)(x y z u:Option SV),δ=[ae (.w .tp),ae (.w kv),ae (.own (fs.map Fe.d)),ae (.own ((bq fs).map .str)),x,y,z,u]/\1<=fs.length+ds.length/\fs.length+ds.length<=4/\(∀f∈fs,f.ok/\f.pt=ah)/\rF ks fs/\n+2*(ds.length:Int)<=n0+9
theorem LW:cm qL Pb ["_law_tape_here","_law_known_here","_law_fields","_law_bound","_law_k","_law_way","_law_some","_law_name"]:=λws n0 Q h=>by
 obtain⟨H,kv,rfl,hkv,hks,hok,hn0,k⟩:=h;refine az (ie (az (ie ?_)));dsimp only[A0];refine az (vU rfl ⋯ λm h1 h4=>eD (sO kv H n0) (λδ n I=>?_) (λd r δ n N I kN=>?_) _ _ _ ⟨[],_,_,_,_,rfl,by rw[eJ];simpa using h1,by rw[eJ];simpa using h4,λf P=>(by trivial),trivial,by rw[eJ];omega⟩)
 ·obtain⟨p,x,y,z,u,rfl,J,P,D,W,hn⟩:=I;dsimp only;refine ik rfl (ik rfl ?_);exact bo (cv (aQ (au rfl (ke (au rfl (Al (show 2<=1000 by decide) (k p n ⋯ ⟨by simpa using P,λf z=>(D f z).1⟩ (λf z=>(D f z).2) W (by simp_all))))))))
 ·obtain⟨p,x,y,z,u,rfl,J,P,D,W,hn⟩:=I;rw[Ax]at J P hn;have A:(p.map Fe.d).length < 1000000:=by rw[Ab];omega
  have hbl:(bq p).length<=4:=Ba (List.length_filterMap_le _ _) ⋯;have hbo:=λs hs=>(A7.mp hs).elim (hok s) λz=>oX ⟨by omega,λf z=>(D f z).1⟩ s z;have R:∀(f:Fe) G y z u (B:List Ad),f.ok/\f.pt=ah->(∀k,f.us=ae k->k∈H++bq p)->G<=n+2->B=(bq p).map .str++f.bd.toList.map .str->N [ae _,ae _,ae (.own (p.map Fe.d++[f.d])),ae _,ae _,y,z,u] G:=λf G y z u B Y Z S hB=>
   kN _ _ ⟨_,↑d,y,z,u,by rw[hB,Bc,GI,Bc];rfl,by rw[An,A1];omega,by rw[An,A1];omega,λg hg=>(A7.mp hg).elim (D g) λz=>by rw[A2]at z;subst z;exact Y,uE W Z,by omega⟩
  have j:∀(f:Fe) G y z u,f.bd=af->f.ok/\f.pt=ah->(∀k,f.us=ae k->k∈H++bq p)->G<=n+2->N [ae _,ae _,ae _,ae (.own ((bq p).map .str)),ae _,y,z,u] G:=λf G y z u fb Y Z S=>
   R f G y z u _ Y Z S (by rw[fb];simp)
  refine az (qd rfl ⋯ ∎ ∎ λw w0 w1=>?_);dsimp only[A0];refine az (bC (λQ q=>ar (au rfl (lQ rfl (S7 hkv (yD (by rw[Ab];omega) (by rw[Ab];omega)) q)))) ?_);dsimp only[A0];refine k9 rfl (λhw=>?_) (λhw=>?_)
  ·exact iH rfl (cv (aB (dh (au rfl (Al rfl ⟨by omega,λv hv=>Al (show 2<=1000 by decide) (Al A (j (.isv v) _ _ _ _ rfl ⟨nA hv,rfl⟩ (λk C=>by cases C) ⋯))⟩)))))
  ·refine k9 rfl (λhw6=>?_) (λhw6=>?_)
   ·refine iH rfl (ar (aV (Al ∎ (Al ∎ (Al ∎ (Al ∎ (ar (au rfl (aB ?_)))))))));dsimp only[b9];refine iZ ⋯ (show w-3 < 3 by omega) λf o=>?_;simp only[Au,A4,g_]at o;rcases o with rfl|rfl|rfl
    ·exact Al A (j .any _ _ _ _ rfl ⟨trivial,rfl⟩ (λk C=>by cases C) ⋯)
    ·exact Al A (j .word _ _ _ _ rfl ⟨trivial,rfl⟩ (λk C=>by cases C) ⋯)
    ·exact Al A (j .num _ _ _ _ rfl ⟨trivial,rfl⟩ (λk C=>by cases C) ⋯)
   ·have F:∀K L,(∀δ n,N δ n->K.nx δ n)->aq (ax 7 (w2 (aZ (aN (ao (wC (.str "n")) (ao (wC (.str "nm")) (ao (wC (.str "go")) (ao (wC (.str "m")) ak)))))) _ aU)) (aq (aY 3 ↥7) (aY 2 (ay (ao (wC (.str "bind")) (ao ↥7 ak)))))
      [ae _,ae _,ae _,ae (.own ((bq p).map .str)),ae _,↑(.int w),↑(.list L),u] (n+1) K:=λK L hK=>by
     refine az (ar (aV (Al ∎ (gG rfl ⋯ ∎ ∎ λr V r1=>iZ V r1 λf o=>?_))));have:∃s:Str,f=.str s/\fG s:=by
      simp only[Au,A4,g_]at o;rcases o with rfl|rfl|rfl|rfl<;>exact⟨_,rfl,by decide +kernel,by decide +kernel⟩
     obtain⟨s,rfl,so⟩:=this;dsimp only[A0];refine az (k8 rfl (λQ q=>au rfl q) (by rw[Ab];omega) ?_);dsimp only[A0];exact k8 rfl (λQ q=>cv (aB (au rfl (Al (show 2<=1000 by decide) q)))) A (hK _ _ (R (.bind s) _ _ _ _ _ ⟨so,rfl⟩ (λk C=>by cases C) ⋯ rfl))
    by_cases M:w < 8
    ·refine bG (λQ q=>nE (λQ q=>aE (λQ q=>ar (au rfl (aB ?_))) q) q) (F _ _ λ_ _ z=>z);show Q _ _;simp_all
    ·have E:∀f∈H.map Dr++(bq p).map Dr,∃s∈H++bq p,f=.str s:=λf P=>tX (by rw[Bc];omega);have O:(H.map Dr++(bq p).map Dr).length<=2000:=by rw[An,Ab,Ab];omega
     generalize(H.map Dr++(bq p).map Dr)=L at E O;cases L with
     |nil=>
      refine bG (λQ q=>f7 (λQ q=>aE (λQ q=>ar (au rfl (aB ?_))) q) (aE (λQ q=>ar (au rfl (aV (Al (Az _) q)))) q)) (F _ _ λ_ _ z=>z);show Q (.d (.bool (decide _))) _;rw[c_ M];exact q
     |cons a l=>
      refine aT (λQ q=>f7 (λQ q=>aE (λQ q=>ar (au rfl (aB ?_))) q) (aE (λQ q=>ar (au rfl (aV (Al (Az _) q)))) q)) ?_
      ·show Q (.d (.bool (decide _))) _;rw[c_ M];exact q
      ·refine iH rfl (cv (aB (ar (au rfl (gD rfl (λQ q=>aQ (au rfl q)) ⋯ (by simp) ⋯ λr V r1=>iZ V r1 λf o=>?_)))));obtain⟨s,hs,rfl⟩:=E f o;exact Al (show 2<=1000 by decide) (Al A (j (.as s) _ _ _ _ rfl ⟨hbo s hs,rfl⟩ (λk C=>by cases C;omega) ⋯))
theorem zC{v:Ad}(h:v∈j9):gZ v:=by
 simp only[j9,Au,A4,g_]at h;rcases h with rfl|rfl|rfl|rfl|rfl<;>first|exact .inl rfl|exact .inr ⟨_,rfl,by simp⟩
def tF(ks:List Str)(n0:Int)(ds:List Ad)(δ:Sl)(n:Int):Prop:=∃(fs:List Fe)(x y:Option SV),δ=[ae (.w .tp),ae (.w (.ln (ks.map .str))),ae (.own (fs.map Fe.d)),x,y]/\fs.length+ds.length<=4/\1<=fs.length+ds.length/\(∀f∈fs,f.ok/\f.tm=ah)/\rF ks fs/\n+2*(ds.length:Int)<=n0+9
theorem QB:cm uo Ru ["_law_tape_here","_law_known_here","_law_fields","_law_k","_law_way"]:=λws n0 Q h=>by
 obtain⟨E,rfl,S,j,R,k⟩:=h;refine az (ie ?_);dsimp only[A0];refine az (vU rfl ⋯ λm Y U=>eD (tF E n0) (λδ n I=>?_) (λd r δ n N I Z=>?_) _ _ _ ⟨[],_,_,rfl,by rw[eJ];simpa using U,by rw[eJ];simpa using Y,λf D=>(by trivial),trivial,by rw[eJ];omega⟩)
 ·obtain⟨u,x,y,rfl,D,A,e,J,P⟩:=I;dsimp only;exact ik rfl (bo (aQ (au rfl (ke (k u n ⋯ ⟨by simpa using D,λf z=>(e f z).1⟩ (λf z=>(e f z).2) J (by simp_all))))))
 ·obtain⟨u,x,y,rfl,D,A,e,J,P⟩:=I;rw[Ax]at D A P;have b:(u.map Fe.d).length < 1000000:=by rw[Ab];omega
  have c:∀(f:Fe) H y,f.ok/\f.tm=ah->(∀k,f.us=ae k->k∈E)->H<=n+2->N [ae _,ae _,ae (.own (u.map Fe.d++[f.d])),ae _,y] H:=λf H y W V hn'=>
   Z _ _ ⟨_,↑d,y,by rw[Bc];rfl,by rw[An,A1];omega,by rw[An,A1];omega,λg T=>(A7.mp T).elim (e g) λz=>by rw[A2]at z;subst z;exact W,uE J λk i=>Da _ (V k i),by omega⟩
  refine az (qd rfl ⋯ ∎ ∎ λw w0 w1=>?_);dsimp only[A0];have B:∀K:DEnds,(∀δ n,N δ n->K.nx δ n)->aY 2 (ay (ao (wC (.str "is")) (ao (aA iq (ao ↥0 ak)) ak))) [ae _,ae _,ae _,ae _,↑(.int w)] (n+1) K:=λK hK=>
   iH rfl (cv (aB (dh (au rfl (Al rfl ⟨by omega,λv hv=>Al (show 2<=1000 by decide) (Al b (hK _ _ (c (.isv v) _ _ ⟨nA hv,rfl⟩ (λk i=>by trivial) ⋯)))⟩)))))
  by_cases O:w < 3
  ·refine bG (λQ q=>nE (λQ q=>aE (λQ q=>ar (au rfl (aB ?_))) q) q) (B _ λ_ _ z=>z);show Q _ _;simp_all
  ·have o:∀Q:DQ,Q _ _->w2 ↥4 (wC (.int 3)) fw [ae (.w .tp),ae (.w (.ln (E.map .str))),ae (.own (u.map Fe.d)),↑d,↑(.int w)] (n+1) Q:=λQ q=>ar (au rfl (aB (by
    show Q (.d (.bool (decide _))) _;rw[c_ O];exact q)))
   cases E with
   |nil=>exact bG (λQ q=>f7 (λQ q=>aE o q) (aE (λQ q=>ar (au rfl (jt (jd q)))) q)) (B _ λ_ _ z=>z)
   |cons a l=>
    refine aT (λQ q=>f7 (λQ q=>aE o q) (aE (λQ q=>ar (au rfl (jt (jd q)))) q)) (iH rfl (cv (ar (aV (Al ∎ ?_)))));refine ar (au rfl (aB ?_));dsimp only[b9];refine iZ ⋯ (show w-3 < 3 by omega) λf t=>ar (au rfl ?_);have hl:((a::l).map Dr).length<=1000:=by rw[Ab];omega
    refine gD rfl (λQ q=>aQ (au rfl q)) ⋯ (by simp) ⋯ λr X r1=>vF X r1 λf' p=>?_;obtain⟨s,L,rfl⟩:=tX p;simp only[Au,A4,g_]at t;rcases t with rfl|rfl|rfl
    ·exact Al (show 2<=1000 by decide) (Al b (c (.as s) _ _ ⟨j s L,rfl⟩ (λk i=>by cases i;omega) ⋯))
    ·exact Al (show 2<=1000 by decide) (Al b (c (.as s) _ _ ⟨j s L,rfl⟩ (λk i=>by cases i;omega) ⋯))
    ·exact Al (show 2<=1000 by decide) (Al b (c (.nx s) _ _ ⟨j s L,rfl⟩ (λk i=>by cases i;omega) ⋯))
abbrev Zc:List Str:=["_law_tape_here","_law_known_here"]
theorem PQ:cm pF IV Zc:=λws n Q h=>by
 obtain⟨p,rfl,f,g,t,k⟩:=h;have c:∀j,j<=n+1->aw (ay (ao (wC (.str "is")) (ao (aA iq (ao ↥0 ak)) ak))) [ae _,ae (.w (.ln (p.map .str)))] j {nx:=λ_ n=>Q (.d .none) n,rt:=Q}:=λn' x=>
  bo (cv (aB (dh (au rfl (Al rfl ⟨by omega,λv u=>Al (show 2<=1000 by decide) (k (.isv v) _ (nA u) rfl (λk i=>by trivial) ⋯)⟩)))))
 cases p with
 |nil=>exact az (bG (λQ q=>nE (λQ q=>aE (λQ q=>ar (au rfl (jt (jd q)))) q) q) (c n ⋯))
 |cons a l=>
  refine az (cz (f7 (λQ q=>aE (λQ q=>ar (au rfl (jt (jd q)))) q) (ar (gG rfl ⋯ ∎ ∎ λr m o=>aB (i6 ?_)))));show if decide _=ah then _ else _
  by_cases h:r=0
  ·rw[a' (b_ h)];exact c _ ⋯
  ·rw[a_ (by simpa using h)];dsimp only[aD];refine bo (cv (aB (ar (au rfl ?_))));have z:((a::l).map Dr).length<=1000:=by rw[Ab];exact f
   refine gD rfl (λQ q=>aQ (au rfl q)) ⋯ (by simp) ⋯ λr m o=>vF m o λf' b=>?_;obtain⟨s,y,rfl⟩:=tX b;exact Al (show 2<=1000 by decide) (k (.as s) _ (g s y) rfl (λk i=>by cases i;omega) ⋯)
theorem HZ:cm oB zN ["_law_tape_here","_law_known_here","_law_open_ones","_law_way","_law_block","_law_pattern_here","_law_bound"]:=λws n Q h=>by
 obtain⟨B,os,D,rfl,p,t,ho,V,F,K,k⟩:=h;show zN [ae _,ae _,ae _,af,af,af,af] n _;refine az (qd rfl ⋯ ∎ ∎ λw w0 Z=>?_);dsimp only[A0];refine az (k9 rfl (λhw=>?_) (λhw=>?_))
 ·refine bo (cv (ig (aB (bO (au rfl (au rfl (Cb B ⟨rfl,p,t,by omega,λfs I l j G i y=>zY rfl ⋯ λv T=>?_⟩)))))));exact Al (show 3<=1000 by decide) (jt (Al (show 2<=1000 by decide) (k (.lay fs v) _ ⟨j,G,zC T,l⟩ ⟨i,λb J=>by trivial⟩ ⋯)))
 dsimp only[aD];refine az (ar (au rfl (gD rfl (λQ q=>aQ (au rfl q)) ⋯ (by rw[Ab];omega) (by rw[Ab];omega) λr S U=>iZ S U λb J=>?_)));obtain⟨b,E,rfl⟩:=A5.mp J;have Y:=F b E;dsimp only[A0];refine az (m3 rfl (λh10=>?_) (λh10=>?_))
 ·refine bo (cv (DY (aB (bO (au rfl (au rfl (Cb B ⟨rfl,p,t,by omega,λf I R O X y=>bO (au rfl (au rfl (Cb B ⟨rfl,p,t,by omega,λg L W M P H=>?_⟩)))⟩)))))));refine au rfl (Al (show 4<=1000 by decide) (jt (Al (show 2<=1000 by decide) (k (.same f g b) _ ⟨⟨show 2<=4 by decide,λe C=>?_⟩,O,M⟩ ⟨⟨X,λk N=>Da _ (P k N),trivial⟩,λb' d=>by cases d;omega⟩ ⋯))));simp only[Ac.fs,Au,A4,g_]at C;rcases C with rfl|rfl
  ·exact R
  ·exact W
 dsimp only[aD];refine az (m3 rfl (λh11=>?_) (λh11=>?_))
 ·exact bo (cv (cv (aB (au rfl (Al (show 2<=1000 by decide) (jt (Al (show 2<=1000 by decide) (k (.go b) _ ⟨⟨show 0<=4 by decide,λe C=>by trivial⟩,trivial⟩ ⟨trivial,λb' d=>by cases d;omega⟩ ⋯))))))))
 dsimp only[aD];refine az (bO (au rfl (au rfl (Cb B ⟨_,rfl,rfl,p,t,by omega,λfs I l j o i y=>?_⟩))));refine Al rfl ?_;dsimp only[bF,aG];refine az (sF rfl (λh7=>?_) (λh7=>?_))
 ·exact bo (cv (ig (aB (au rfl (au rfl (Al (show 3<=1000 by decide) (au rfl (Al (show 2<=1000 by decide) (k (.look fs b) _ ⟨j,l,o⟩ ⟨i,λb' d=>by cases d;omega⟩ ⋯)))))))))
 dsimp only[aD];refine bo (cv (cv (ar (aV (Al ∎ (ar (au rfl (aB ?_))))))));dsimp only[b9];refine iZ ⋯ (show w-4 < 4 by omega) λf z=>?_;simp only[Au,A4,g_]at z;rcases z with rfl|rfl|rfl|rfl
 ·exact au rfl (Al (show 2<=1000 by decide) (au rfl (Al (show 2<=1000 by decide) (k (.take fs) _ ⟨j,l,o⟩ ⟨i,λb' d=>by trivial⟩ ⋯))))
 ·exact au rfl (Al (show 2<=1000 by decide) (au rfl (Al (show 2<=1000 by decide) (k (.take fs) _ ⟨j,l,o⟩ ⟨i,λb' d=>by trivial⟩ ⋯))))
 ·exact au rfl (Al (show 2<=1000 by decide) (au rfl (Al (show 2<=1000 by decide) (k (.take fs) _ ⟨j,l,o⟩ ⟨i,λb' d=>by trivial⟩ ⋯))))
 ·exact au rfl (Al (show 2<=1000 by decide) (au rfl (Al (show 2<=1000 by decide) (k (.read fs) _ ⟨j,l,o⟩ ⟨i,λb' d=>by trivial⟩ ⋯))))
def gx:List (List Str):=[[],["n"],["go","n"],["nm"]]
theorem RQ{w:List Str}(h:w∈gx):w.length<=4/\(∀k∈w,fG k)/\w.Nodup/\ia w:=by
 have c:∀w∈gx,w.length<=4/\(∀k∈w,k.length<=4/\Dw k=ah/\mN 4 (.str k)=ah)/\w.Nodup/\w.Pairwise λa b=>¬b.cps.toList < a.cps.toList:=by decide +kernel
 exact c w h
theorem Qa{Q:List Ad->Int->Prop}{n:Int}(ss ks:List Str)(k:Q ((ss.map Dr).filter λx=>!bW x (ks.map .str)) n):
  dg (aG 0) (cT (w2 ↥0 ↥1 (d8 ah))) ↥0 Q (ss.map .str) [] [af,ae (.w (.ln (ks.map .str)))] n:=by
 refine pU (λd=>∃s:Str,d=.str s) (λx=>!bW x (ks.map .str)) id (λd n c b q=>?_) (λd n c b q=>au rfl q) _ [] af n (λd b=>?_) ?_
 ·obtain⟨s,rfl⟩:=b;exact aE (λQ q=>ar (au rfl (au rfl (Al rfl ⟨oh ks,q⟩)))) q
 ·obtain⟨s,_,rfl⟩:=A5.mp b;exact⟨s,rfl⟩
 ·rw[List.map_id];exact k
theorem Tj(ss ks:List Str):((ss.map Dr).filter λx=>!bW x (ks.map .str)).isEmpty=decide (∀k∈ss,k∈ks):=by
 rw[D6,List.isEmpty_iff,List.filter_eq_nil_iff,decide_eq_true_iff]
 constructor
 ·intro h k a;have:=h _ (A5.mpr ⟨k,a,rfl⟩);rw[j2]at this;simp_all
 ·intro h d b;obtain⟨k,a,rfl⟩:=A5.mp b;rw[j2,b_ (h k a)];simp
def sA(ws:List (List Str))(ks:List Str):Ad->Bool
 |.int j=>decide (∀k∈ws.getD j.toNat [],k∈ks)
 |_=>ai
def md(ws:List (List Str))(ks:List Str):List Nat:=(A8 ws.length).filter λb=>decide (∀k∈ws.getD b [],k∈ks)
theorem Nv(ws:List (List Str))(ks:List Str):(cf 0 ws.length).filter (sA ws ks)=(md ws ks).map λb=>.int (b:Nat):=by
 unfold cf md;rw[List.filter_map];have e:(λi:Nat=>Fp (0+i))=λb=>.int b:=funext λi=>by simp
 rw[e];rfl
theorem Iz{Q:List Ad->Int->Prop}{n:Int}(ws:List (List Str))(ks:List Str)(k:Q ((md ws ks).map λb=>.int (b:Nat)) n):
  dg (aG 0) (cT (w2 (aZ (bY [af,ae 1] (c7 (w2 ↥2 ↥0 aU)) (aG 0) (cT (w2 ↥0 ↥1 (d8 ah))) ↥0)) (aZ (aN ak)) bL)) ↥0 Q (cf 0 ws.length) [] [af,ae (.w (.ln (ks.map .str))),↑(.list (ws.map fe))] n:=by
 refine pU (λd=>∃j:Nat,j < ws.length/\d=.int j) (sA ws ks) id (λd n f c q=>?_) (λd n f c q=>au rfl q) _ [] af n (λd c=>?_) ?_
 ·obtain⟨j,e,rfl⟩:=c;have g:(ws.map fe)[j]?=ae (.tuple (ws[j].map .str)):=by rw[Am,Ah e];rfl
  refine aE (λQ q=>ar (aV (f6 (λQ q=>ar (au rfl (au rfl ?_))) (Qa ws[j] ks (jt ?_))))) q
  ·show(match cX _ (j:Int)with|some d=>Q (.d d) n|none=>False);rw[eH g];exact q
  ·have h:sA ws ks (.int j)=((ws[j].map Dr).filter λx=>!bW x (ks.map .str)).isEmpty:=by
    rw[Tj];show decide _=_;rw[Cc,List.getD_eq_getElem?_getD,Ah e,Option.getD_some]
   rw[h]at q;exact q
 ·unfold cf at c;obtain⟨j,e,rfl⟩:=A5.mp c;exact⟨j,Bx.mp e,by simp⟩
 ·rw[List.map_id,Nv];exact k
theorem RJ{ws w0:List (List Str)}{ks:List Str}(h:ws=[]::w0):0 < (md ws ks).length:=
 List.length_pos_of_mem (a:=0) (Cw.mpr ⟨Bx.mpr (by simp_all),by subst h;simp⟩)
theorem Oz{ws:List (List Str)}{ks:List Str}{b:Nat}(h:b∈md ws ks):∃w,ws[b]?=ae w/\∀k∈w,k∈ks:=by
 obtain⟨d,c⟩:=Cw.mp h;have a:=Bx.mp d;refine⟨_,Ah a,?_⟩;have:=d_ c;rw[List.getD_eq_getElem?_getD,Ah a,Option.getD_some]at this;omega
theorem zX:∀{fs:List Fe}{ks ks':List Str},(∀k∈ks,k∈ks')->rF ks fs->rF ks' fs
 |[],_,_,_,_=>trivial
 |f::r,ks,ks',h,z=>⟨λk a=>h k (z.1 k a),zX (λk a=>(A7.mp a).elim (λq=>Da _ (h k q)) λq=>Bw _ q) z.2⟩
theorem Ac.right_mono{ws:List (List Str)}{ks ks':List Str}{a:Ac}(h:∀k∈ks,k∈ks')(z:a.right ws ks):a.right ws ks':=
 ⟨zX h z.1,λb d=>by obtain⟨w,e,c⟩:=z.2 b d;exact⟨w,e,λk f=>h k (c k f)⟩⟩
theorem K0{ws:List (List Str)}{w ks:List Str}{as:List Ac}{a:Ac}(h:j7 ws (w,as))(hk:∀k∈ks,k∈w++as.flatMap Ac.bs)(ha:a.right ws ks):j7 ws (w,as++[a]):=λp b c=>by
 by_cases d:p < as.length
 ·rw[Fi d]at c;have:=h p b c;unfold kn at this ⊢;rw[List.take_append_of_le_length (F7 d)];omega
 ·rw[List.getElem?_append_right ⋯]at c;have f:p-as.length=0:=by
   by_cases e:p-as.length=0
   ·exact e
   ·rw[Cr (by rw[A1];omega)]at c;trivial
  rw[f]at c;cases c;have g:p=as.length:=by omega
  subst g;refine Ac.right_mono (λk z=>?_) ha;unfold kn;rw[List.take_append_of_le_length (Ao _),List.take_length];exact hk k z
structure ActO(ws:List (List Str))(want ks:List Str)(acts:List Ac):Prop where
 mem:∀k,k∈ks↔k∈want++acts.flatMap Ac.bs
 ok:∀k∈ks,fG k
 fs:∀a∈acts,jo a
 ri:j7 ws (want,acts)
def mG(ws:List (List Str))(bl:List Ad)(want:List Str)(nb:Int)(ds:List Ad)(δ:Sl)(n:Int):Prop:=∃(ks:List Str)(acts:List Ac)(x2 x7 x8 x9 x10:Option SV),
 δ=[ae (.w .tp),↑(.list (ws.map fe)),x2,ae (.own bl),↑(fe want),ae (.own (ks.map .str)),ae (.own (acts.map Ac.d)),x7,x8,x9,x10]/\ActO ws want ks acts/\ks.length+4*ds.length<=40/\acts.length+ds.length<=8/\n+11*(ds.length:Int)<=nb+89
theorem P9{ws w0:List (List Str)}{bl r:List Ad}{want:List Str}{d:Ad}{ks:List Str}{acts:List Ac}{nb n:Int}{x7 x8 x9 x10:Option SV}{K:DEnds}(hw0:ws=[]::w0)(hwl:ws.length<=6)(hnb:nb+89 < 2 ^ 39)(O:ActO ws want ks acts)(hk:ks.length+4*(r.length+1)<=40)(ha:acts.length+(r.length+1)<=8)(hn:n+11*((r.length:Int)+1)<=nb+89)
  (kN:∀δ n,mG ws bl want nb r δ n->K.nx δ n):
  aq (ax 8 (aZ (bY [af,ae 5,ae 1] (d3 (wB d7 (ao ↥1 ak))) (aG 0) (cT (w2 (aZ (bY [af,ae 1] (c7 (w2 ↥2 ↥0 aU)) (aG 0) (cT (w2 ↥0 ↥1 (d8 ah))) ↥0)) (aZ (aN ak)) bL)) ↥0))) (aq (dB (aA oB (ao ↥0 (ao (cy 5) (ao ↥8 ak)))) (d4 2 (bF (aG 9) (bF (aG 10) di)))) (aq (aY 6 ↥9) (aP (dY ↥10) (aG 7) (aI (cT (w2 ↥7 (cy 5) (d8 ah))) (aY 5 ↥7) aD))))
   [ae (.w .tp),↑(.list (ws.map fe)),↑d,ae (.own bl),↑(fe want),ae (.own (ks.map .str)),ae (.own (acts.map Ac.d)),x7,x8,x9,x10] n K:=by
 refine az (aV (aQ (au rfl ?_)));refine Al ⟨by omega,by rw[Ab];omega⟩ ?_;rw[Ab];refine Iz ws ks ?_;dsimp only[A0];refine az ?_;have P:(md ws ks).length<=6:=Ba (F9 _ _) (by rw[Dt];omega);refine bg (au rfl (lQ rfl (au rfl (Cb ks (Cb _ (Cb ws ⟨rfl,by omega,O.ok,RJ hw0,by omega,λb J=>Oz J,by omega,λact G C y H=>?_⟩))))));refine Al rfl ?_;dsimp only[bF,aG];refine az (k8 rfl (λQ q=>au rfl q) (by rw[Ab];omega) ?_);dsimp only[A0];unfold aP dY;refine au rfl ?_;have D:=sP C.1;refine eD (λds δ l=>∃(c o g:List Str)(x7:Option SV),ds=g.map .str/\o++g=act.bs/\(∀k,k∈c↔k∈ks++o)/\l=G/\δ=[ae _,ae _,ae _,ae _,ae _,ae (.own (c.map .str)),ae _,x7,ae _,ae _,ae _]/\c.length+g.length<=ks.length+4)
  (λδ l I=>?_) (λe S δ l N I x=>?_) _ _ _ ⟨ks,[],_,x7,rfl,rfl,λk=>by simp,rfl,rfl,by omega⟩
 ·obtain⟨c,o,g,x7,e,h,p,rfl,rfl,u⟩:=I;cases Ed.mp e.symm;rw[Bh]at h;subst h;have B:∀k,k∈c↔k∈want++(acts++[act]).flatMap Ac.bs:=λk=>by
   rw[p k,A7,O.mem k,List.flatMap_append,<-Bk,A7 (s:=want++acts.flatMap Ac.bs)];simp
  refine kN _ _ ⟨c,_,_,_,_,_,_,by rw[Bc];rfl,⟨B,λk z=>?_,λa z=>?_,K0 O.ri (λk z=>(O.mem k).mp z) y⟩,by omega,by rw[An,A1];omega⟩
  ·exact(A7.mp ((p k).mp z)).elim (O.ok k) (D.1 k)
  ·rcases A7.mp z with z|z
   ·exact O.fs a z
   ·rw[A2]at z;simp_all
 ·obtain⟨c,o,g,x7,F,h,p,rfl,rfl,u⟩:=I;obtain⟨s,v,rfl,rfl,rfl⟩:=Cu.mp F.symm;rw[Ax]at u;have i:(o++[s])++v=act.bs:=by rw[Bk];exact h
  refine cz (ar (au rfl (lQ rfl (Al rfl ⟨oh c,mS (λz=>?_) (λz=>?_)⟩))))
  ·refine k8 rfl (λQ q=>au rfl q) (by rw[Ab];omega) (x _ _ ⟨c++[s],_,_,↑(.str s),rfl,i,λk=>?_,rfl,?_,by rw[An,A1];omega⟩)
   ·rw[A7,p k,<-Bk,A7 (s:=ks++o)]
   ·rw[Bc];rfl
  ·have M:=by
    have E:=z;rw[j2]at E;simpa using E
   refine x _ _ ⟨c,_,_,_,rfl,i,λk=>?_,rfl,rfl,by omega⟩;rw[<-Bk,A7,A2,<-p k];exact⟨.inl,λq=>q.elim id λe=>e▸M⟩
def tW(n0:Int)(ds:List Ad)(δ:Sl)(n:Int):Prop:=∃(more:List (List Str))(x2:Option SV),δ=[ae (.w .tp),ae (.own (([]::more).map fe)),x2,af,af,af,af,af,af,af,af]/\more.length+ds.length<=5/\(∀w∈more,w∈gx)/\n+(ds.length:Int)<=n0+6
def nO(ws:List (List Str))(n0:Int)(ds:List Ad)(δ:Sl)(n:Int):Prop:=∃(bl:List Bl)(re:List (List Str))(x2 x4 x5 x6 x7 x8 x9 x10:Option SV),
 δ=[ae (.w .tp),↑(.list (ws.map fe)),x2,ae (.own (bl.map fF)),x4,x5,x6,x7,x8,x9,x10]/\ds=re.map fe/\bl.map (·.1)++re=ws/\(∀b∈bl,kL b/\j7 ws b)/\n+90*(ds.length:Int)<=n0+600
theorem J7{ws w0 re:List (List Str)}{bl:List Bl}{want:List Str}{n0 n:Int}{x2 x5 x6 x7 x8 x9 x10:Option SV}{K:DEnds}(hw:∀w∈ws,w∈gx)(hw0:ws=[]::w0)(hwl:ws.length<=6)(hn0:n0+600 < 2 ^ 39)(hb:bl.map (·.1)++want::re=ws)(hbo:∀b∈bl,kL b/\j7 ws b)(hn:n+90*((re.length:Int)+1)<=n0+600)
  (kN:∀δ n,nO ws n0 (re.map fe) δ n->K.nx δ n):
  aq (bx 5 (lF ↥4)) (aq (bx 6 (aN ak)) (aq (aP (d3 (w2 (aZ (aN (ao ⇑2 (ao ⇑1 (ao ⇑3 (ao ⇑2 (ao ⇑0 (ao ⇑1 (ao ⇑2 (ao ⇑3 ak)))))))))) (aA bP (ao ↥0 (ao ⇑8 ak))) aU)) (aG 2) (aq (ax 8 (aZ (bY [af,ae 5,ae 1] (d3 (wB d7 (ao ↥1 ak))) (aG 0) (cT (w2 (aZ (bY [af,ae 1] (c7 (w2 ↥2 ↥0 aU)) (aG 0) (cT (w2 ↥0 ↥1 (d8 ah))) ↥0)) (aZ (aN ak)) bL)) ↥0))) (aq (dB (aA oB (ao ↥0 (ao (cy 5) (ao ↥8 ak)))) (d4 2 (bF (aG 9) (bF (aG 10) di)))) (aq (aY 6 ↥9) (aP (dY ↥10) (aG 7) (aI (cT (w2 ↥7 (cy 5) (d8 ah))) (aY 5 ↥7) aD)))))) (bX 6 (aY 3 (ay (ao ↥4 (ao (wB fX (ao ↥6 ak)) ak)))))))
   [ae (.w .tp),↑(.list (ws.map fe)),x2,ae (.own (bl.map fF)),↑(fe want),x5,x6,x7,x8,x9,x10] n K:=by
 obtain⟨m,h,i,o⟩:=RQ (hw want (by rw[<-hb];simp));have x:bl.length+(re.length+1)<=6:=by rw[<-hb,An,Ab]at hwl;omega
 refine az (Lh rfl (az (ie ?_)));dsimp only[A0];refine az (yC (M:=8) rfl (λQ q=>aV (Al ∎ q)) ⋯ rfl ∎ ∎ (λd v=>?_) ∎ λj A=>?_)
 ·simp only[Au,A4,g_]at v;rcases v with rfl|rfl|rfl|rfl|rfl|rfl|rfl|rfl
  ·exact⟨2,by simp⟩
  ·exact⟨1,by simp⟩
  ·exact⟨3,by simp⟩
  ·exact⟨2,by simp⟩
  ·exact⟨0,by simp⟩
  ·exact⟨1,by simp⟩
  ·exact⟨2,by simp⟩
  ·exact⟨3,by simp⟩
 refine eD (mG ws _ want n) (λδ C I=>?_) (λd H δ C N I s=>?_) _ _ _ ⟨_,[],_,_,_,_,_,rfl,⟨λk=>by simp,h,λa e=>by simp at e,λp a e=>by simp at e⟩,by rw[eJ];omega,by rw[eJ];simpa using A,by rw[eJ];omega⟩
 ·obtain⟨F,c,y,D,E,B,r,rfl,O,_,e,f⟩:=I;dsimp only;refine ik rfl (iH rfl (cv (au rfl (aQ (au rfl (ke ?_))))));have l:=by simpa using e
  refine Al (show 2<=1000 by decide) (Al (by rw[Ab];omega) (kN _ _ ⟨bl++[(want,c)],re,_,_,_,_,_,_,_,_,by rw[Bc];rfl,rfl,by rw[Bc,Bk];exact hb,λb z=>?_,?_⟩))
  ·rcases A7.mp z with z|z
   ·exact hbo b z
   ·rw[A2]at z;subst z;exact⟨⟨m,h,l,O.fs,i,o⟩,O.ri⟩
  ·have G:=by simpa using f
   rw[Ab];omega
 ·obtain⟨F,c,y,D,E,B,r,rfl,O,u,e,f⟩:=I;rw[Ax]at u e f;exact P9 hw0 hwl ⋯ O u e ⋯ s
theorem Mk:cm sL Iy ["_law_tape_here","_law_wants","_law_k","_law_blocks","_law_want","_law_known_here","_law_acts","_law_name","_law_open_ones","_law_act_here","_law_bound"]:=λws H Q h=>by
 obtain⟨rfl,t,k⟩:=h;refine az (Al (Az _) (Al ∎ ?_));dsimp only[A0];refine az (yC (M:=5) rfl (λQ q=>aV (Al ∎ q)) ⋯ rfl ∎ ∎ (λd m=>?_) ∎ λj T=>?_)
 ·simp only[Au,A4,g_]at m;rcases m with rfl|rfl|rfl|rfl|rfl
  ·exact⟨0,by simp⟩
  ·exact⟨1,by simp⟩
  ·exact⟨0,by simp⟩
  ·exact⟨1,by simp⟩
  ·exact⟨2,by simp⟩
 refine eD (tW H) (λδ n I=>?_) (λd r δ n N I x=>?_) _ _ _ ⟨[],_,rfl,by rw[eJ];simpa using T,λd m=>by simp at m,by rw[eJ];omega⟩
 ·obtain⟨c,L,rfl,C,u,y⟩:=I;refine az (ie ?_);dsimp only[A0];refine ik rfl (az ?_);unfold aP dY;refine au rfl ?_;have s:∀w∈([]:List Str)::c,w∈gx:=λd m=>by
   rcases Au.mp m with rfl|z
   ·simp[gx]
   ·exact u d z
  have o:(([]:List Str)::c).length<=6:=by rw[Ax];omega
  refine eD (nO _ H) (λδ G I=>?_) (λd r δ G N I x=>?_) _ _ _ ⟨[],_,_,_,_,_,_,_,_,_,rfl,rfl,rfl,λb g=>by simp at g,?_⟩
  ·obtain⟨F,E,R,S,W,K,X,Y,U,B,rfl,A,g,i,l⟩:=I;cases Ed.mp A.symm;rw[Bh]at g;dsimp only;refine ik rfl (bo (aQ (au rfl (ke (k F G ⟨by have:=congrArg Dn g;simp at this;omega,?_,λb z=>⟨(i b z).1,by rw[g];exact(i b z).2⟩⟩ ⟨_,g⟩ (by simpa using l))))));rw[<-g,Ab]at o;omega
  ·obtain⟨F,E,R,S,W,K,X,Y,U,B,rfl,A,g,i,l⟩:=I;obtain⟨J,E,rfl,rfl,rfl⟩:=Cu.mp A.symm;rw[Ax,Ab]at l;exact J7 s rfl o t g i ⋯ x
  ·have Z:=by simpa using y
   simp;omega
 ·obtain⟨c,L,rfl,C,u,y⟩:=I;rw[Ax]at C y;dsimp only[aG];refine iH rfl (ar (aV (Al ∎ (Al ∎ (Al ∎ (Al ∎ (Al ∎ (Al ∎ (gG rfl ⋯ ∎ ∎ λq O V=>iZ O V λw s=>?_)))))))));have:∃v∈gx,w=fe v:=by
   simp only[Au,A4,g_]at s;rcases s with rfl|rfl|rfl|rfl|rfl
   ·exact⟨[],by simp[gx],rfl⟩
   ·exact⟨["n"],by simp[gx],rfl⟩
   ·exact⟨["go","n"],by simp[gx],rfl⟩
   ·exact⟨["nm"],by simp[gx],rfl⟩
   ·exact⟨[],by simp[gx],rfl⟩
  obtain⟨v,hv,rfl⟩:=this;refine Al (by rw[Ab,Ax];omega) (x _ _ ⟨c++[v],↑d,?_,by rw[An,A1];omega,λe P=>?_,by omega⟩)
  ·rw[show([]::(c++[v]):List _)=([]::c)++[v]from rfl,Bc];rfl
  rcases A7.mp P with z|z
  ·exact u e z
  ·rw[A2]at z;simp_all
section
variable{δ:Sl}{n:Int}{K:DEnds}{i:Nat}{s a b c:Str}{r:List Ad}{k:Bool}{Q:Bool->Int->Prop}
theorem DO(e:δ[i]?=ae (↑(.tuple (.str s::r))))(h:bW (.str s) [.str a,.str b,.str c]=k)(q:Q k n):cT (w2 (w2 (aj i) (wC (.int 0)) av) (ay (ao (wC (.str a)) (ao (wC (.str b)) (ao (wC (.str c)) ak)))) (dP ai)) δ n Q:=by
 refine ar (cS e ?_);show 3<=1000/\eI _=ah/\_/\Q _ n;exact⟨by decide,rfl,rfl,by simp_all⟩
theorem hO(e:δ[i]?=ae (↑(.tuple (.str s::r))))(h:bW (.str s) [.str a,.str b]=k)(q:Q k n):cT (w2 (w2 (aj i) (wC (.int 0)) av) (ay (ao (wC (.str a)) (ao (wC (.str b)) ak))) (dP ai)) δ n Q:=by
 refine ar (cS e ?_);show 2<=1000/\eI _=ah/\_/\Q _ n;exact⟨by decide,rfl,rfl,by simp_all⟩
theorem lW{A B:b3}(ha:∀Q:Bool->Int->Prop,Q ai n->A δ n Q)(q:Q ai n):cJ A B δ n Q:=ha _ (q)
end
theorem Jf{δ:Sl}{n:Int}{K:DEnds}{i:Nat}{w:DT}{es:List Ad}(e:δ[i]?=ae (ae (.own es)))(k:w δ n λx n1=>match x with
  |.d (.list fs)=>(es.length < 1000000/\fs.length < 1000000)/\K.nx (δ.set i (ae (.own (es++fs)))) n1
  |_=>False):fN i w δ n K:=by
 unfold fN;rw[e];exact k
theorem NK:cm rJ Ra ["_law_program_here","_law_block","_law_place","_law_found","_law_act_here"]:=λws n Q h=>by
 obtain⟨Z,i,p,⟨w,u⟩,rfl,hi,⟨D,E,H,B,_,_⟩,hp,k⟩:=h;dsimp only at D E H B hp k;have G:(Z.map fF)[i]?=ae (fF (w,u)):=by rw[Am,hi];rfl
 refine az (ar (ar (au rfl (au rfl (bb G (aB (cQ ?_)))))));dsimp only[A0];refine az (ar (ar (au rfl (au rfl (bb G (aB (ew ?_)))))));dsimp only[du];refine au rfl ?_;dsimp only;rw[u6 _ (by rw[Ab];omega),<-List.map_take];refine eD (λds δ t=>∃(y o:List Ac)(L:List Str)(x:Option SV),ds=o.map Ac.d/\y++o=u.take p/\t=n/\δ=[ae _,ae _,ae _,ae (.own (L.map .str)),x]/\KnI w y L) (λδ t I=>?_) (λd r δ t N I kN=>?_) _ _ _
  ⟨[],_,w,_,rfl,rfl,rfl,rfl,KnI.first D E⟩
 ·obtain⟨y,o,L,x,e,l,rfl,rfl,I⟩:=I;cases Ed.mp e.symm;rw[Bh]at l;subst l;dsimp only;refine ik rfl ?_;have hl:(u.take p).length<=8:=Ba (List.length_take_le _ _) ⋯;have hI:=I.len;exact bo (aV (au rfl (Cb L ⟨.inl rfl,by omega,λx hx=>Ba (I.ok x hx).1 ∎,λys a b c=>k ys a (λz hz=>I.ok z ((b z).mp hz)) c λz=>(b z).trans (I.mem z)⟩)))
 ·obtain⟨y,o,L,x,e,l,rfl,rfl,I⟩:=I;obtain⟨a,o,rfl,rfl,rfl⟩:=Cu.mp e.symm;have W:=(B a (List.mem_of_mem_take (by rw[<-l];simp))).1;have U:L.length<=36:=by
   have h1:y.length+(o.length+1)=(u.take p).length:=by rw[<-l,An,Ax]
   have h3:=I.len;have h4:(u.take p).length<=u.length:=Gi _ _;omega
  have A:(y++[a])++o=u.take p:=by rw[Bk];exact l
  have m:∀L',KnI w _ L'->N [ae _,ae _,ae _,ae _,↑a.d] t:=λL' I'=>kN _ _ ⟨_,o,L',_,rfl,A,rfl,rfl,I'⟩;have v:∀K (C:∀δ n,N δ n->K.nx δ n) s j r,a.d=.tuple (.str s::cG j::r)->bW _ [.str "take",.str "read",.str "look"]=ah->a.bs=bq j->a.fs=j->aI (cT (w2 (w2 ↥4 _ av) _ _)) (fN 3 (aZ (bY [af] (c7 (w2 ↥4 _ av)) _ _ _))) aD
    [ae _,ae _,ae _,ae (.own (L.map .str)),↑a.d] t K:=λK C s j r R P J e4=>by
   rw[R]at m ⊢;refine bG (λQ q=>DO rfl P q) ?_;have hb:=p9 (e4▸W);refine Jf rfl (aV (f6 (λQ q=>bK rfl q) (Oa j t (Al ⟨by rw[Ab];omega,by rw[Ab];omega⟩ ?_))));have:=m _ (I.more (λk=>by rw[J]) hb W);rw[Bc]at this;exact C _ _ this
  have skip:∀K (C:∀δ n,N δ n->K.nx δ n) s r,a.d=.tuple (.str s::r)->bW _ [.str "take",.str "read",.str "look"]=ai->a.bs=[]->aI (cT (w2 (w2 ↥4 _ av) _ _)) (fN 3 (aZ (bY [af] (c7 (w2 ↥4 ⇑1 av)) (aG 0) (cT (w2 (w2 ↥0 ⇑0 av) (wC (.str "bind")) aX)) (w2 ↥0 ⇑1 av)))) aD
    [ae _,ae _,ae _,ae _,↑a.d] t K:=λK C s r R P J=>by
   rw[R]at m ⊢;refine aT (λQ q=>DO rfl P q) (C _ _ (m L (I.skip J)))
  cases a with
  |lay j O=>exact skip _ (λ_ _ z=>z) "lay" [cG j,O] rfl (by rfl) rfl
  |take j=>exact v _ (λ_ _ z=>z) "take" j [] rfl (by rfl) rfl rfl
  |read j=>exact v _ (λ_ _ z=>z) "read" j [] rfl (by rfl) rfl rfl
  |look j b=>exact v _ (λ_ _ z=>z) "look" j [.int b] rfl (by rfl) rfl rfl
  |same f g b=>exact skip _ (λ_ _ z=>z) "same" [f.d,g.d,.int b] rfl (by rfl) rfl
  |go b=>exact skip _ (λ_ _ z=>z) "go" [.int b] rfl (by rfl) rfl
theorem vw{α:Type}{f:α->Ad}{P:α->Prop}:∀{ds:List Ad},(∀d∈ds,∃x,P x/\d=f x)->∃xs:List α,ds=xs.map f/\∀x∈xs,P x
 |[],_=>⟨[],rfl,λx b=>by simp_all⟩
 |d::r,h=>by
  obtain⟨x,b,rfl⟩:=h d Ap;obtain⟨xs,rfl,a⟩:=vw λe c=>h e (Ak _ c);exact⟨_,rfl,λy g=>(Au.mp g).elim (λe=>e▸b) (a y)⟩
def uU(m:Nat)(n0:Int)(ds:List Ad)(δ:Sl)(n:Int):Prop:=∃(ns:List Nt)(x y:Option SV),δ=[ae (.w .tp),↑(.int m),ae (.own (ns.map eV)),x,y]/\ns.length+ds.length<=m/\(∀q∈ns,nT q)/\n+6*(ds.length:Int)<=n0+100
theorem Hv:cm nZ LC ["_law_tape_here","_law_most","_law_found","_law_k","_law_row"]:=λws A Q h=>by
 obtain⟨m,rfl,C,p,k⟩:=h;refine az (ie ?_);dsimp only[A0];refine az ?_;unfold aP d3;refine gD rfl (λQ q=>ar (au rfl (aB q))) ⋯ ⋯ ⋯ λr F J=>Al ⟨by omega,by omega⟩ ?_;have B:r.toNat<=m:=by omega
 refine eD (uU m A) (λδ n I=>?_) (λd G δ n N I w=>?_) _ _ _ ⟨[],_,_,rfl,by rw[eJ];simpa using B,λd u=>by simp at u,by rw[eJ];omega⟩
 ·obtain⟨g,x,y,rfl,f,a,i⟩:=I;dsimp only;exact ik rfl (bo (aQ (au rfl (ke (k g n ⟨by simpa using f,a⟩ (by simp_all))))))
 ·obtain⟨g,x,y,rfl,f,a,i⟩:=I;rw[Ax]at f i;refine az (aQ (aV (dh (au rfl (Al rfl ⟨by omega,λs K E=>?_⟩)))));refine Al ⟨by omega,by omega⟩ ?_;rw[Cc];refine pj _ 1 (λd n H i q=>dh (au rfl (Al rfl ⟨by omega,λv j=>q v _ (nA j) ⋯⟩))) _ [] af _ (by rw[eJ];omega) λrow D o b l=>?_;rw[eJ]at o l;refine ke ?_;dsimp only[A0];refine iH rfl (cv (au rfl (zY rfl ⋯ λv j=>Al (show 2<=1000 by decide) (Al (by rw[Ab];omega) (w _ _ ⟨g++[(row,v)],_,_,by rw[Bc];rfl,by rw[An,A1];omega,λe t=>?_,by omega⟩)))));rcases A7.mp t with z|z
  ·exact a e z
  ·rw[A2]at z;subst z;exact⟨⟨⟨by show row.length<=4;omega,by show 1<=row.length;omega⟩,b⟩,zC j⟩
theorem ez{i j n:Int}{Q:DQ}(k:Q (.d (.int (i+j))) n):b9 (λi j=>.int (i+j)) (.d (.int i)) (.d (.int j)) n Q:=k
theorem vO{Q:List Ad->Int->Prop}:∀(ys:List Str)(i':Nm)(x:Option SV)(n:Int),n+(ys.length:Int) < 2 ^ 39->(∀p∈i',b7 p.2=ah)->(∀(nm:Nm)(n':Int),nm.map (·.1)=i'.map (·.1)++ys->(∀p∈nm,b7 p.2=ah)->n'<=n+(ys.length:Int)->Q (nm.map iL) n')->
  dg (aG 0) bB (ay (ao ↥0 (ao (aA iq (ao ↥1 ak)) ak))) Q (ys.map .str) (i'.map iL) [x,ae (.w .tp)] n
 |[],i',x,n,_,a,q=>q i' n (by simp) a ⋯
 |y::ys,i',x,n,f,a,q=>by
  rw[Ax]at f q;simp only[Bo,dg,aG,bB,if_true];refine cv (au rfl (dh (au rfl (Al rfl ⟨by omega,λv g=>Al (show 2<=1000 by decide) ?_⟩))));have:=vO ys (i'++[(y,v)]) (↑(.str y)) (n+1) ⋯ (λp c=>(A7.mp c).elim (a p) λz=>by rw[A2.mp z];exact nA g) λnm n' e b h=>q nm n' (by simp_all) b ⋯;rw[Bc]at this;exact this
theorem Kr(as:List Ac)(h:∀a∈as,jo a):(as.flatMap Ac.bs).length<=4*as.length:=by
 induction as with
 |nil=>exact Az _
 |cons a r c=>
  rw[List.flatMap_cons,An,Ax];have:=(sP (h a Ap).1).2;have:=c λb d=>h b (Ak _ d);omega
theorem CF{b:Bl}(ob:kL b)(p:Nat):(kn b.1 b.2 p).length<=36:=by
 unfold kn;rw[An];have:=Kr (b.2.take p) λa c=>ob.2.2.2.1 a (List.mem_of_mem_take c);have:=ob.1;have:=ob.2.2.1;have:=Gi p b.2;omega
def PK(ps:Pg)(mm:Nat)(n0:Int)(ds:List Ad)(δ:Sl)(n:Int):Prop:=∃(hs:List Hn)(re:Pg)(x4 x5 x6 x7:Option SV),δ=[ae (.w .tp),↑(cI ps),↑(.int mm),ae (.own (hs.map bZ)),x4,x5,x6,x7]/\ds=re.map fZ/\re=ps.drop hs.length/\hs.length<=ps.length /\
 (∀(i:Nat)(P:List Bl),i < hs.length->ps[i]?=ae P->∃(h:Hn)(b:Bl),hs[i]?=ae h/\P[h.1]?=ae b/\okHn b h)/\n+42*(ds.length:Int)<=n0+210
theorem Lw:cm qt K2 ["_law_tape_here","_law_programs","_law_most","_law_hands","_law_program_here","_law_block","_law_place","_law_names"]:=λws n0 Q h=>by
 obtain⟨y,Z,rfl,hmm,⟨p_,C⟩,hn0,k⟩:=h;refine az (ie ?_);dsimp only[A0];refine az ?_;unfold aP c7;refine au rfl (eD (PK y Z n0) (λδ n I=>?_) (λd r δ n N I kN=>?_) _ _ _ ⟨[],y,_,_,_,_,rfl,rfl,rfl,Az _,λi P s=>f_ s (Nat.not_lt_zero _),by rw[Ab];omega⟩)
 ·obtain⟨o,re,x4,x5,x6,x7,rfl,S,c,T,l,J⟩:=I;rw[(Ed.mp S.symm)]at c;have j_:=List.drop_eq_nil_iff.mp c.symm;dsimp only;refine ik rfl (bo (cv (aQ (au rfl (bO (au rfl (au rfl (Cb Z ⟨rfl,by omega,by simp at J;omega,λns n' V O=>?_⟩))))))));exact Al (show 2<=1000 by decide) (k o ns n' ⟨by omega,λi P s=>l i P (by have:=(Aq.mp s).1;omega) s⟩ V (by grind))
 ·obtain⟨o,re,x4,x5,x6,x7,rfl,S,c,T,l,J⟩:=I;obtain⟨P,K,rfl,rfl,rfl⟩:=Cu.mp S.symm;rw[Ax,Ab]at J;have M:o.length < y.length:=by
   have:=congrArg Dn c;rw[Ax,Dl]at this;omega
  have f:=Fj M;rw[<-c]at f;obtain⟨hP,v⟩:=F4 f;have x:y[o.length]?=ae P:=by simp_all
  obtain⟨g1,g2,g3⟩:=C P (Ay x);refine az (gD rfl (λQ q=>aQ (au rfl q)) ⋯ (by rw[Ab];omega) (by rw[Ab];omega) λr r0 r1=>?_);rw[Ab]at r1;obtain⟨b,hb⟩:∃b:Nat,r=b:=⟨r.toNat,by omega⟩;subst hb;have D:b < P.length:=by omega
  obtain⟨B,a⟩:∃B:Bl,P[b]?=ae B:=⟨_,Ah D⟩;obtain⟨w,t⟩:=B;have W:(P.map fF)[b]?=ae (fF (w,t)):=by rw[Am,a];rfl
  obtain⟨F,_⟩:=g3 _ (Ay a);have has:t.length<=8:=F.2.2.1;dsimp only[A0];refine az (gD (m:=((t.map Ac.d).length:Int)+1) rfl (λQ q=>ar (aQ (ar (ar (au rfl (au rfl (bb W (aB (ew ?_)))))))) ) ⋯ ⋯ (by rw[Ab];omega) λr r0' L=>?_)
  ·exact ez q
  rw[Ab]at L;obtain⟨p,hp⟩:∃p:Nat,r=p:=⟨r.toNat,by omega⟩;subst hp;dsimp only[A0];refine az (aQ (aV (bg (au rfl (au rfl (au rfl (Cb P ⟨b,p,_,rfl,a,F,by show p<=t.length;omega,λys u R hup g=>?_⟩)))))));have hys:=Ba (sr u λz hz=>(g z).mp hz) (CF F p);refine vO ys [] af _ ⋯ (λp hp=>by trivial) λnm n' e G O=>?_;rw[E9,D5]at e;have hnl:nm.length=ys.length:=by rw[<-e,Ab]
  have E:okHn (w,t) (b,p,nm):=⟨by show p<=t.length;omega,by rw[e];exact u,λq Y=>⟨R _ (by rw[<-e];exact A5.mpr ⟨q,Y,rfl⟩),G q Y⟩,(by have q:ia (nm.map (·.1)):=(by simp_all);unfold ia at q;rw[F1]at q;exact q),λk=>by rw[e];exact g k,by show nm.length<=40;omega⟩;dsimp only[eQ];refine iH rfl (ig (au rfl (au rfl (au rfl (Al (show 3<=1000 by decide) (Al (by rw[Ab];omega) (kN _ _ ⟨o++[(b,p,nm)],K,_,_,_,_,by rw[Bc];rfl,rfl,by rw[An];exact v,by rw[An,A1];omega,λi P' s j=>?_,by rw[Ab];omega⟩)))))));rw[An,A1]at s;by_cases z:i < o.length
  ·obtain⟨h,b',q1,q2,q3⟩:=l i P' z j;exact⟨h,b',by simp_all⟩
  ·have z':i=o.length:=by omega
   subst z';rw[x]at j;cases j;exact⟨_,_,by simp,a,E⟩
theorem e8{δ:Sl}{n:Int}{Q:DQ}{u:b3}{v w:DT}{b:Bool}(hu:∀Q:Bool->Int->Prop,Q b n->u δ n Q)(k:if b=ah then v δ n Q else w δ n Q):dz u v w δ n Q:=hu _ k
theorem kM{α:Type}{c:b3}{w:DT}{Q:List Ad->Int->Prop}{aC:Sl}(f g:α->Ad)(p:α->Bool):∀(xs:List α)(i':List Ad)(x:Option SV)(n:Int),(∀a∈xs,∀(n:Int)(Q':Bool->Int->Prop),Q' (p a) n->c (↑(f a)::aC) n Q')->(∀a∈xs,∀(n:Int)(Q':DQ),Q' (.d (g a)) n->w (↑(f a)::aC) n Q')->Q (i'++(xs.filter p).map g) n->dg (aG 0) c w Q (xs.map f) i' (x::aC) n
 |[],i',x,n,_,_,q=>by rw[List.filter_nil,E9,Bh]at q;exact q
 |a::r,i',x,n,j,h,q=>by
  refine j a Ap n _ ?_;cases e:p a with
  |true=>
   refine h a Ap n _ (kM f g p r _ _ n (λb i=>j b (Ak _ i)) (λb i=>h b (Ak _ i)) ?_);rw[Eh,a' e]at q;rw[Bk];exact q
  |false=>
   refine kM f g p r i' _ n (λb i=>j b (Ak _ i)) (λb i=>h b (Ak _ i)) ?_;simp_all
structure HandAt(ps:Pg)(hs:List Hn)(h:Nat)(P:List Bl)(xb xp:Nat)(nm:Nm)(w:List Str)(as:List Ac):Prop where
 prog:ps[h]?=ae P
 hand:hs[h]?=ae (xb,xp,nm)
 blk:P[xb]?=ae (w,as)
 hn:okHn (w,as) (xb,xp,nm)
theorem gH{ps:Pg}{hs:List Hn}(ok:okHs ps hs){h:Nat}(hh:h < ps.length):∃P xb xp nm w as,HandAt ps hs h P xb xp nm w as:=by
 have a:=Ah hh;obtain⟨⟨xb,xp,d⟩,⟨w,as⟩,e,c,b⟩:=ok.2 h _ a;exact⟨_,xb,xp,d,w,as,a,e,c,b⟩
section
variable{ps:Pg}{hs:List Hn}{h:Nat}{P:List Bl}{xb xp:Nat}{nm:Nm}{w:List Str}{as:List Ac}
theorem HandAt.act(H:HandAt ps hs h P xb xp nm w as):bA ps hs h=as[xp]?:=by
 unfold bA;rw[H.prog,H.hand];show(P[xb]?.bind λb=>b.2[xp]?)=_;rw[H.blk];rfl
theorem HandAt.nms(H:HandAt ps hs h P xb xp nm w as):okN nm:=H.hn.n
theorem HandAt.nmq(H:HandAt ps hs h P xb xp nm w as):u5 hs h=nm:=by unfold u5;rw[H.hand];rfl
theorem HandAt.ok(H:HandAt ps hs h P xb xp nm w as)(ok:bM ps){a:Ac}(e:bA ps hs h=ae a):jo a:=by
 rw[H.act]at e;exact((ok.2 P (Ay H.prog)).2.2 _ (Ay H.blk)).1.2.2.2.1 a (Ay e)
theorem HandAt.hD(H:HandAt ps hs h P xb xp nm w as):(hs.map bZ)[h]?=ae (.tuple [.int xb,.int xp,cV nm]):=by rw[Am,H.hand];rfl
theorem HandAt.pD(H:HandAt ps hs h P xb xp nm w as):(ps.map fZ)[h]?=ae (.tuple (P.map fF)):=by rw[Am,H.prog];rfl
theorem HandAt.bD(H:HandAt ps hs h P xb xp nm w as):(P.map fF)[xb]?=ae (.tuple [fe w,.tuple (as.map Ac.d)]):=by rw[Am,H.blk];rfl
end
theorem yc{δ:Sl}{n:Int}{Q:DQ}{i j xp:Nat}{as:List Ac}(e4:δ[j]?=ae (↑(.int xp)))(e5:δ[i]?=ae (↑(.tuple (as.map Ac.d))))(k:Q (.d (mX as[xp]?)) n):dz (cT (w2 (aj j) (wB a9 (ao (aj i) ak)) fw)) (w2 (aj i) (aj j) av) (wC .none) δ n Q:=by
 refine e8 (λQ q=>aE (λQ q=>ar (au e4 (aQ (au e5 (rB q))))) q) ?_;rw[Ab];by_cases z:(xp:Int) < (as.length:Nat)
 ·rw[a' (b_ z)];have a:xp < as.length:=by omega
  have b:(as.map Ac.d)[xp]?=ae (Ac.d as[xp]):=by rw[Am,Ah a];rfl
  rw[Ah a]at k;exact ar (au e5 (au e4 (bb b k)))
 ·rw[a_ (by simpa using z)];rw[Cr ⋯]at k;assumption
theorem Lf:cm lj Jl ["programs","stand","hand","block","place","acts"]:=λws n Q h=>by
 obtain⟨c,i,e,h,rfl,a,b,k⟩:=h;obtain⟨P,j,d,g,w,f,H⟩:=gH a b;rw[H.act]at k;refine az (bC (λQ q=>ar (ar (ar (au rfl (aB (cQ (au rfl (bb H.hD (aB (cQ q)))))))))) ?_);dsimp only[A0];refine az (bC (λQ q=>ar (ar (ar (au rfl (aB (cQ (au rfl (bb H.hD (aB (ew q)))))))))) ?_);dsimp only[A0];refine az (bC (λQ q=>ar (ar (ar (au rfl (au rfl (bb H.pD (au rfl (bb H.bD (aB (ew q)))))))))) ?_);dsimp only[A0];exact bo (yc rfl rfl k)
theorem EF:∀{row:List Ad},(∀d∈row,b7 d=ah)->∃k:List aF,row=k.map DL.vD
 |[],_=>⟨[],rfl⟩
 |d::r,h=>by
  obtain⟨k,rfl⟩:=EF λe a=>h e (Ak _ a);have c:=h d Ap;cases d with
  |int i=>exact⟨.inl i::k,rfl⟩
  |str x=>exact⟨.inr x::k,rfl⟩
  |_=>cases c
theorem qE(k:Int)(m:Nat):cf k (m+1)=.int k::cf (k+1) m:=by
 unfold cf;rw[List.range_succ_eq_map,Bo,B4]
 congr 1
 ·rw[show((0:Nat):Int)=0 from rfl,Int.add_zero]
 ·refine Di λi _=>?_;show Fp _=.int _;have:k+((i+1:Nat):Int)=k+1+i:=by omega
  rw[this]
theorem vJ{f:Fe}(h:f.pt=ah):(Fe.fd f).d=f.d:=by cases f<;>first|rfl|cases h
theorem mI{fs:List Fe}(ok:eE fs)(h:gh fs):cG fs=dJ (fs.map Fe.fd)/\mn (fs.map Fe.fd):=by
 refine⟨?_,by rw[Ab];exact h.1,by rw[Ab];exact ok.1,λg b=>?_⟩
 ·unfold cG dJ;rw[B4]
  congr 1
  exact Di λf a=>(vJ (h.2 f a)).symm
 ·obtain⟨f,a,rfl⟩:=A5.mp b;have:=ok.2 f a;cases f<;>first|exact this|trivial
theorem BZ{a:Ac}(h:a.pf=af):a.wt=ai/\∃s r,a.d=.tuple (.str s::r)/\bW (.str s) [.str "take",.str "read",.str "look"]=ai/\bW (.str s) [.str "take",.str "read"]=ai:=by
 cases a with
 |lay c j=>exact⟨rfl,_,_,rfl,by trivial⟩
 |same f g b=>exact⟨rfl,_,_,rfl,by trivial⟩
 |go b=>exact⟨rfl,_,_,rfl,by trivial⟩
 |take c=>cases h
 |read c=>cases h
 |look c b=>cases h
theorem pK{a:Ac}{fs:List Fd}(h:a.pf=ae fs)(ok:jo a):mn fs/\∃s r,a.d=.tuple (.str s::dJ fs::r)/\bW (.str s) [.str "take",.str "read",.str "look"]=ah/\bW (.str s) [.str "take",.str "read"]=a.wt:=by
 cases a with
 |lay fs k=>cases h
 |same f g b=>cases h
 |go b=>cases h
 |take c=>
  cases h;obtain⟨e,o⟩:=mI (fs:=c) ok.1 ok.2;exact⟨o,_,[],by rw[<-e];rfl,by trivial⟩
 |read c=>
  cases h;obtain⟨e,o⟩:=mI (fs:=c) ok.1 ok.2;exact⟨o,_,[],by rw[<-e];rfl,by trivial⟩
 |look c b=>
  cases h;obtain⟨e,o⟩:=mI (fs:=c) ok.1 ok.2;exact⟨o,_,_,by rw[<-e];rfl,by trivial⟩
theorem vy(fs:List Fd)(row:List Ad)(nm:Nm):fR (dD fs row nm)=!cb fs row nm:=by
 unfold dD;cases cb fs row nm<;>rfl
theorem rf{fs:List Fd}{nm:Nm}{q:Nt}{r:List Nt}:a7 fs nm (q::r)=if cb fs q.1 nm=ah then ae 0 else(a7 fs nm r).map (·+1):=by
 unfold a7;rw[List.findIdx?_cons]
theorem M6{m:List (List aF×Ad)}{k k':List aF}{d:Ad}(h:gB (fO m k d) k'=ah):k'=k\/gB m k'=ah:=by
 unfold fO at h
 split at h
 ·unfold gB at h ⊢;rw[List.any_map,Cm]at h;obtain⟨p,b,e⟩:=h;refine .inr (Cm.mpr ⟨p,b,?_⟩);have a:=d_ e;dsimp only at a;by_cases z:p.1=k
  ·rw[a' z]at a;exact b_ a
  ·rw[a_ z]at a;exact b_ a
 ·unfold gB at h ⊢;rw[List.any_append,Bool.or_eq_true]at h;rcases h with h|h
  ·exact .inr h
  ·simp at h;exact .inl h.symm
theorem My{m:List (List aF×Ad)}{k:List aF}{d:Ad}:(fO m k d).length<=m.length+1:=by
 unfold fO
 split
 ·rw[Ab];omega
 ·rw[An];exact Ao _
section
variable{δ:Sl}{n:Int}{Q:DQ}{K:DEnds}{W V:aH}{i:Nat}
theorem iY{neg:Bool}{a:Ad}(k:Q (.d (.bool (if neg then !fR a else fR a))) n):bc neg (.d a) (.d .none) n Q:=k
theorem Lk{neg:Bool}{a:Ad}(k:Q (.d (.bool (if neg then !fR a else fR a))) n):iG neg (.d a) (.d .none) n Q:=.inr k
theorem R5{neg:Bool}{o:Ob}(k:Q (.d (.bool neg)) n):iG neg (.ob o) (.d .none) n Q:=.inl ⟨o,rfl,rfl,k⟩
theorem CH{s a b:Str}{r:List Ad}{k:Bool}(e:δ[i]?=ae (↑(.tuple (.str s::r))))(h:bW (.str s) [.str a,.str b]=k)(q:Q (.d (.bool !k)) n):w2 (w2 (aj i) (wC (.int 0)) av) (ay (ao (wC (.str a)) (ao (wC (.str b)) ak))) (dP ah) δ n Q:=by
 refine ar (cS e ?_);show 2<=1000/\eI _=ah/\_/\Q _ n;exact⟨by decide,rfl,rfl,by simp_all⟩
theorem BH{s:Str}{hs:List Str}{r:List Ad}{k:Bool}{Q:Bool->Int->Prop}(e:δ[i]?=ae (↑(.tuple (.str s::r))))(h:bW (.str s) (hs.map .str)=k)(q:Q (!k) n):cT (ro hs (w2 (aj i) (wC (.int 0)) av)) δ n Q:=cS e ⟨_,rfl,rfl,by rw[h];exact q⟩
theorem xK{ps:Pg}{hs:List Hn}{ns:List Nt}{h i j l:Nat}(e0:δ[i]?=ae (↑(cI ps)))(e1:δ[j]?=ae (↑(bR hs ns)))(e2:δ[l]?=ae (↑(.int h)))(ok:okHs ps hs)(hh:h < ps.length)(k:Q (.d (mX (bA ps hs h))) n):aA lj (ao (aj i) (ao (aj j) (ao (aj l) ak))) δ n Q:=
 bg (au e0 (au e1 (au e2 ⟨ps,hs,ns,h,rfl,ok,hh,k⟩)))
end
theorem Ka:cm t4 Hd ["programs","stand","hand","act","names","tried","place","note"]:=λws n Q h=>by
 obtain⟨X,hs,R,h,rfl,⟨G,C,y⟩,S,k⟩:=h;obtain⟨P,xb,xp,l,w,as,H⟩:=gH C S;unfold dO at k;rw[H.nmq]at k;refine az (bC (λQ q=>xK rfl rfl rfl C S q) ?_);dsimp only[A0];cases L:bA X hs h with
 |none=>
  rw[L]at k;assumption
 |some a=>
  rw[L]at k;have k:Q (.d (jc (a.pf.bind λfs=>a7 fs l R))) n:=k;show aq _ _ [ae _,ae _,ae _,↑a.d,af,af,af,af] n _;cases E:a.pf with
  |none=>
   rw[E]at k;obtain⟨_,s,r,e,F,_⟩:=BZ E;rw[e];exact az (bG (λQ q=>f7 (λQ q=>aE (λQ q=>ar (au rfl (aB (iY q)))) q) (BH rfl F q)) (bo (aB k)))
  |some fs=>
   rw[E]at k;obtain⟨of,s,r,e,F,_⟩:=pK E (H.ok G L);rw[e];refine az (aT (λQ q=>f7 (λQ q=>aE (λQ q=>ar (au rfl (aB (iY q)))) q) (BH rfl F q)) ?_);dsimp only[aD];refine az (bC (λQ q=>ar (ar (ar (au rfl (aB (cQ (au rfl (bb H.hD (aB (fL q)))))))))) ?_);dsimp only[A0];refine az (?_);unfold rT;dsimp only[A0];refine az (ar (au rfl (aB (ew ⟨_,rfl,?_⟩))));refine eD (λds δ m=>m=n/\∃(f:List Nt)(j:Nat)(b:List _)(J K:Option SV),ds=iC j (f.map eV)/\δ=[ae _,ae _,ae _,ae _,ae _,ae (.odt b),J,K] /\
    (∀q∈f,nT q)/\b.length+f.length<=100/\(∀c,gB b c=ah->cb fs (c.map DL.vD) l=ai)/\Q (.d (jc ((a7 fs l f).map (·+j)))) n) (λδ m I=>?_) (λd r' δ m N I kN=>?_) _ _ _ ⟨rfl,R,0,[],_,_,rfl,rfl,y.2,by have:=y.1;simpa using this,λl_ z=>(by cases z),?_⟩
   ·obtain⟨rfl,f,j,b,J,K,p,rfl,_,_,_,D⟩:=I;have:f=[]:=by
     cases f with
     |nil=>rfl
     |cons q f=>rw[Bo]at p;cases p
    subst this;exact(D)
   ·obtain⟨rfl,f,j,b,J,K,p,rfl,v,Y,V,D⟩:=I;cases f with
    |nil=>cases p
    |cons q f=>
     rw[Bo,GN]at p;obtain⟨rfl,rfl⟩:=F4 p;rw[Ax]at Y;have O:=v q Ap;obtain⟨c,M⟩:=EF O.1.2;have A:∀i,i.length<=b.length+1->(∀c,gB i c=ah->cb fs _ l=ai)->cb fs q.1 l=ai->N [ae _,ae _,ae _,ae _,ae _,ae _,↑(.int j),↑(eV q)] m:=λkvs' a1 a2 Z=>by
      refine kN _ _ ⟨rfl,f,j+1,_,_,_,by rw[show((j+1:Nat):Int)=j+1 from rfl],rfl,λx hx=>v x (Ak _ hx),by omega,a2,?_⟩;rw[rf,a_ (by rw[Z];simp)]at D;have:((λx=>x+j) ∘ λx=>x+1)=λx=>x+(j+1):=funext λx=>by show x+1+j=x+(j+1);omega
      simp_all
     refine⟨rfl,?_⟩;dsimp only[bF,di,A0];refine cz (show qh 5 _ _ _ _ from cS rfl ⟨c,b,by rw[M];rfl,rfl,?_⟩);show if _=ah then _ else _
     cases et:gB b c with
     |true=>
      exact A b ⋯ V (by simp_all)
     |false=>
      refine az (cz (ar (bg (bK rfl (cS rfl (au rfl ⟨fs,q.1,l,rfl,of,O.1,H.nms,aB (iY ?_)⟩))))));show if (!fR _)=ah then _ else _
      rw[vy,Bool.not_not];cases W:cb fs q.1 l with
      |true=>
       rw[rf,a' W,Option.map_some,Nat.zero_add]at D;exact bo (au rfl D)
      |false=>
       rw[a_ A3];dsimp only[aD];refine aB ⟨b,rfl,cS rfl ⟨c,_,rfl,by rw[M];rfl,by omega,A _ My (λkey' z=>?_) W⟩⟩;rcases M6 z with rfl|z
       ·rw[<-M];omega
       ·exact V key' z
   ·have:(λx:Nat=>x+0)=id:=rfl;rw[this,Option.map_id];exact k
theorem qj{ps:Pg}{hs:List Hn}{ns:List Nt}{h:Nat}{a:Ac}(e:bA ps hs h=ae a):ck ps hs ns h=(!a.wt || (dO ps hs ns h).isSome):=by unfold ck;simp_all
theorem Il{a:Ac}(oa:jo a):∃s r,a.d=.tuple (.str s::r)/\bW (.str s) [.str "take",.str "read"]=a.wt:=by
 cases c:a.pf with
 |none=>
  obtain⟨f,s,r,e,_,b⟩:=BZ c;exact⟨s,r,e,by simp_all⟩
 |some g=>
  obtain⟨_,s,r,e,_,b⟩:=pK c oa;exact⟨s,_,e,b⟩
section
variable{δ:Sl}{n:Int}{Q:DQ}{w u:DT}{ds i j:List Ad}
theorem yG(xs:List Ad){p:Nat}(hp:p<=xs.length):dI xs (ae (p:Int)) af=xs.drop p:=by
 unfold dI;rw[HT.sIx_nat,HT.sIx_none,Nat.min_eq_left hp];exact List.take_of_length_le (by simp)
theorem oN(k:w δ n λx n1=>match il [x]with
  |some ds=>ds.length<=1000/\Q (.d (.tuple ds)) n1
  |none=>False):ay (ao w ak) δ n Q:=k
theorem pP{p:Nat}(hw:∀Q:DQ,Q (.d (.tuple ds)) n->w δ n Q)(hu:∀Q:DQ,Q (.d (.int p)) n->u δ n Q)(hp:p<=ds.length)(k:Q (.d (.tuple (ds.take p))) n):dA w du (dv u) δ n Q:=by
 refine hw _ (hu _ ?_);dsimp only;rw[u6 _ hp];exact k
theorem rm{p:Nat}(hw:∀Q:DQ,Q (.d (.tuple ds)) n->w δ n Q)(hu:∀Q:DQ,Q (.d (.int p)) n->u δ n Q)(hp:p<=ds.length)(k:Q (.d (.tuple (ds.drop p))) n):dA w (dv u) du δ n Q:=by
 refine hw _ ?_;dsimp only[du];refine hu _ ?_;dsimp only;rw[yG _ hp];exact k
theorem ja(h:i.length+j.length<=1000000)(k:Q (.d (.tuple (i++j))) n):eM (.d (.tuple i)) (.d (.tuple j)) n Q:=by
 cases i with
 |nil=>exact k
 |cons a r=>exact⟨.inl (λz=>nomatch z),Ba h ∎,k⟩
end
theorem RC:cm uV Td ["thing"]:=λws n Q h=>by
 obtain⟨i,rfl,k⟩:=h;exact k
theorem JN:cm sq RL ["thing","most"]:=λws n Q h=>by
 obtain⟨i,m,rfl,a,b,k⟩:=h;exact bo (IK (λQ q=>dh (au rfl ⟨i,rfl,q⟩)) (ON (λQ q=>aB q) (λQ q=>au rfl q) (λQ q=>au rfl q) a (by rw[b_ b];exact k)))
theorem OJ:cm su Jt ["value"]:=λws n Q h=>by
 obtain⟨v,rfl,a,k⟩:=h;cases v with
 |str x=>exact k
 |int i=>
  have k:Q (.d (if i=99 then Fp 0 else Fp _)) n:=k;show if decide _=ah then Q _ n else Q _ n
  refine BG (λe=>?_) λe=>?_
  ·rw[a' e]at k;exact k
  ·rw[a_ e]at k;exact k
 |_=>cases a
theorem HQ:cm nJ NW ["field","having","value"]:=λws n Q h=>by
 obtain⟨f,g,rfl,⟨_,i,b⟩,k⟩:=h;cases f with
 |isv d=>exact k
 |as x=>
  obtain⟨v,e,c⟩:=b x rfl;have k:Q (.d ((look g x).getD .none)) n:=k;rw[e]at k;refine az (cZ rfl (by rfl) ?_);dsimp only[aD];refine az ?_;show(match bS _ (.inr x)with|some d=>_|none=>False);rw[jk,e];exact k
 |nx x=>
  obtain⟨v,e,c⟩:=b x rfl;have k:Q (.d (jy ((look g x).getD .none))) n:=k;rw[e]at k;refine az (cZ rfl (by rfl) ?_);dsimp only[aD];refine az ?_;show(match bS _ (.inr x)with|some d=>_|none=>False);rw[jk,e];exact⟨v,rfl,c,k⟩
 |_=>cases i
theorem Rq{δ:Sl}{n:Int}{Q:Bool->Int->Prop}(q:Q ah n):bB δ n Q:=q
theorem DB{α:Type}{w:DT}{Q:List Ad->Int->Prop}{aC:Sl}(f g:α->Ad)(xs:List α)(x:Option SV)(n:Int)(h:∀a∈xs,∀(n:Int) (Q':DQ),Q' (.d (g a)) n->w (↑(f a)::aC) n Q')(q:Q (xs.map g) n):dg (aG 0) bB w Q (xs.map f) [] (x::aC) n:=by
 refine kM f g _ xs [] x n (λa _ n Q' q=>Rq q) h ?_;rw[List.filter_eq_self.mpr λ_ _=>rfl];exact q
theorem ND{ds:List Ad}{n:Int}{Q:DQ}(k:Q (.d (.tuple ds)) n):eQ [.d (.list ds)] n Q:=k
theorem S5:cm qx J9 ["template","names","having"]:=λws n Q h=>by
 obtain⟨g,e,rfl,i,b,a,k⟩:=h;refine az (pC rfl a ?_);dsimp only[A0];refine bo (aQ (aV (f6 (λQ q=>au rfl q) ?_)));show dg _ _ _ _ _ _ [af,ae _] n;exact DB Fe.d _ g af n (λf c n j q=>bO (au rfl (⟨f,e,rfl,b f c,q⟩))) (ND k)
theorem Tf:cm mx LI ["place","names"]:=λws n Q h=>by
 obtain⟨x,a,rfl,k⟩:=h;exact bo (ig (cS rfl (ar (bK rfl (aB (ez (au rfl (Al (show 3<=1000 by decide) k))))))))
theorem N3:cm oj QW ["program","block","names","wanted"]:=λws n Q h=>by
 obtain⟨P,b,j,⟨w,e⟩,rfl,g,m,k⟩:=h;have a:(P.map fF)[b]?=ae (.tuple [fe w,.tuple (e.map Ac.d)]):=by rw[Am,g];rfl
 have i:kK P b=w:=by unfold kK;simp_all
 unfold cj at k;rw[i]at k;refine az (bC (λQ q=>ar (ar (au rfl (au rfl (bb a (aB (cQ q))))))) ?_);dsimp only[A0];refine bo (ig (au rfl (aB (aQ (aV (f6 (λQ q=>au rfl q) ?_))))));show dg _ _ _ _ _ _ [af,ae _] n;refine kM iL iL (λp=>decide (p.1∈w)) j [] af n (λp _ n f q=>aE (λQ q=>ar (cS rfl (au rfl ⟨rfl,oh w,?_⟩))) q) (λp _ n f q=>au rfl q) ?_
 ·show Q _ n;rw[j2];exact q
 ·exact Al (show 3<=1000 by decide) k
theorem K8:cm jg J2 ["hands","hand","place"]:=λws n Q h=>by
 obtain⟨c,h,x,rfl,e,f,k⟩:=h;have d:(a8 c h x).map bZ=((c.map bZ).take h++[bZ x])++(c.map bZ).drop (h+1):=by
  unfold a8;simp
 rw[d]at k;have g:((c.map bZ).take h).length<=5:=Ba (Gi _ _) (by rw[Ab];omega);have i:((c.map bZ).drop (h+1)).length<=5:=by rw[Dl,Ab];omega
 exact bo (ar (ar (pP (λQ q=>au rfl q) (λQ q=>au rfl q) (by rw[Ab];omega) (oN (au rfl (Al (show 1<=1000 by decide) (ja (by rw[A1];omega) (rm (p:=h+1) (λQ q=>au rfl q) (λQ q=>ar (au rfl (aB (ez q)))) (by rw[Ab];omega) (ja (by rw[An,A1];omega) k)))))))))
theorem Rf:cm sx L9 ["note"]:=λws n Q h=>by
 obtain⟨⟨d,a⟩,rfl,e,k⟩:=h;rcases e with rfl|⟨i,rfl,_⟩
 ·exact bo (e8 (λQ q=>aE (k:=ah) (λQ q=>ar (bK rfl (aB (iY q)))) q) (by rw[a' rfl];exact au rfl k))
 ·exact bo (e8 (λQ q=>aE (k:=ai) (λQ q=>ar (bK rfl (aB (iY q)))) q) (cv (cS rfl (ar (bK rfl (aB (Al (show 2<=1000 by decide) k)))))))
theorem zi{a:Ad}{n:Int}{Q:DQ}(ha:gZ a)(k:Q (.d (.bool (!gj a))) n):ec (.d a) (.d (.int 1)) n Q:=by
 rcases ha with rfl|⟨i,rfl,_⟩<;>exact k
theorem IH:cm vd Pk ["stand"]:=λws n Q h=>by
 obtain⟨g,f,rfl,c,k⟩:=h;refine bo (cv (cS rfl (aQ (aV (f6 (λQ q=>bK rfl q) ?_)))));show dg _ _ _ _ _ _ [af] n;refine kM eV _ _ f [] af n (λq a n d b=>aE (λQ e=>ar (bK rfl (aB (zi (c q a) e)))) b) (λq a n d b=>dh (au rfl ⟨q,rfl,c q a,b⟩)) (Al (show 2<=1000 by decide) ?_);unfold bR e7 dH at k;rw[B4]at k;exact k
theorem SF:∀j:Fin 100,b7 (.int ((j.val:Nat):Int))=ah:=by trivial
theorem gJ{i:Int}(h0:0<=i)(h1:i<=99):b7 (.int i)=ah:=by
 have:=SF ⟨i.toNat,by omega⟩;rw[show((i.toNat:Nat):Int)=i by omega]at this;omega
theorem AR{i:Int}(h:b7 (.int i)=ah):0<=i/\i<=99:=by
 simp only[b7,decide_eq_true_eq]at h;simp_all
theorem sC{v:Ad}(h:b7 v=ah):b7 (jy v)=ah:=by
 cases v with
 |str x=>exact h
 |int i=>
  obtain⟨c,d⟩:=AR h;show b7 (if i=99 then .int 0 else .int _)=ah
  split
  ·exact gJ ∎ ∎
  ·exact gJ ⋯ ⋯
 |_=>cases h
theorem fS{nm:Nm}{f:Fe}(h:ef nm f):b7 (fu nm f)=ah:=by
 obtain⟨c,i,b⟩:=h;cases f with
 |isv d=>exact c
 |as k=>obtain⟨v,e,a⟩:=b k rfl;show b7 ((look nm k).getD .none)=ah;rw[e];exact a
 |nx k=>obtain⟨v,e,a⟩:=b k rfl;show b7 (jy ((look nm k).getD .none))=ah;rw[e];exact sC a
 |_=>cases i
theorem rA{a b:Ad}{n:Int}{Q:DQ}(ha:b7 a=ah)(hb:b7 b=ah)(k:Q (.d (.bool (fq a b))) n):aX (.d a) (.d b) n Q:=by
 unfold aX;simp only[lg ha hb];exact k
theorem Kd:cm uB MK ["act","names","having"]:=λws n Q h=>by
 obtain⟨f,g,b,e,rfl,c,d,_,_,a,k⟩:=h;refine az (pC rfl a ?_);dsimp only[A0];exact bo (ar (bO (bK rfl (⟨f,e,rfl,c,bO (ar (au rfl (aB (fL (⟨g,e,rfl,d,rA (fS c) (fS d) k⟩)))))⟩))))
theorem vj{fs:List Fd}{nm:Nm}{ns:List Nt}{i:Nat}(h:a7 fs nm ns=ae i):∃q,ns[i]?=ae q/\cb fs q.1 nm=ah:=by
 unfold a7 at h;rw[Fw]at h;obtain⟨a,b,_⟩:=h;exact⟨_,Ah a,b⟩
theorem BK{fs:List Fd}{row:List Ad}{nm:Nm}(h:cb fs row nm=ah):dD fs row nm=cV (bT (eS fs row nm)):=by unfold dD;rw[a' h]
theorem lT{ps:Pg}{hs:List Hn}{ns:List Nt}{h:Nat}{P:List Bl}{xb xp:Nat}{nm:Nm}{w:List Str}{as:List Ac}(H:HandAt ps hs h P xb xp nm w as){a:Ac}(e:bA ps hs h=ae a):dR ps hs ns h=(nV P (xb,xp,nm) ns a).map λr=>(a8 hs h r.1,r.2):=by
 unfold dR;rw[H.prog,H.hand,e];rfl
theorem iA{fs:List Fe}{x:Hn}{ns:List Nt}(e:a7 (fs.map Fe.fd) x.2.2 ns=af):bE fs x ns=af:=by unfold bE;rw[e];rfl
theorem iy{fs:List Fe}{x:Hn}{ns:List Nt}{i:Nat}(e:a7 (fs.map Fe.fd) x.2.2 ns=ae i):bE fs x ns=ae (i,d9 x (bT (eS (fs.map Fe.fd) (cF ns i) x.2.2))):=by unfold bE;rw[e];rfl
theorem KZ{s h:Str}{n:Int}{Q:DQ}(k:Q (.d (.bool (!cx h (.str s)))) n):ec (.d (.str s)) (.d (.str h)) n Q:=k
theorem wJ(ns:List Nt)(i:Nat):(cD ns i).map eV=(ns.map eV).take i++(ns.map eV).drop (i+1):=by unfold cD;simp
section
variable{ps:Pg}{hs:List Hn}{ns:List Nt}{h:Nat}{P:List Bl}{xb xp:Nat}{nm:Nm}{w:List Str}{as:List Ac}{n:Int}{Q:DQ}
theorem rN{δ:Sl}{w2':DT}{x:Hn}{i1 i2 i5:Nat}{ns':List Nt}(e1:δ[i1]?=ae (↑(bR hs ns)))(e2:δ[i2]?=ae (↑(.int h)))(e5:δ[i5]?=ae (↑(e7 ns')))(hx:∀Q:DQ,Q (.d (bZ x)) n->w2' δ n Q)(hh:h < hs.length)(hl:hs.length<=5)(k:Q (.d (bR (a8 hs h x) ns')) n):
  ay (ao (aA jg (ao (w2 (aj i1) ⇑0 av) (ao (aj i2) (ao w2' ak)))) (ao (aj i5) ak)) δ n Q:=
 cv (bg (cS e1 (au e2 (hx _ ⟨hs,h,x,rfl,hh,hl,au e5 (Al (show 2<=1000 by decide) k)⟩))))
theorem sD{a:Ac}{s:Str}{gs:List Fe}{r:List Ad}(H:HandAt ps hs h P xb xp nm w as)(j':bM ps)(n_:okHs ps hs)(o_:c9 100 ns)(hh:h < ps.length)(ea:bA ps hs h=ae a)(ed:a.d=.tuple (.str s::cG gs::r))(hpf:a.pf=ae (gs.map Fe.fd))(hof:eE gs)(hpat:gh gs)
  (kN:a7 (gs.map Fe.fd) nm ns=af->aq (aI (cT (w2 (w2 ↥3 ⇑0 av) (wC (.str "look")) ec)) (aw (wC .none)) aD) (aw (ay (ao (aA jg (ao (w2 ↥1 ⇑0 av) (ao ↥2 (ao (aA oj (ao (w2 ↥0 ↥2 av) (ao (w2 ↥3 ⇑2 av) (ao (w2 ↥4 ⇑2 av) ak)))) ak)))) (ao ↥5 ak))))
   [↑(cI ps),↑(bR hs ns),↑(.int h),↑(.tuple (.str s::cG gs::r)),↑(bZ (xb,xp,nm)),↑(e7 ns),ae (.w (.d .none)),af] n {nx:=λ_ _=>True,rt:=Q})
  (kS:∀i ns',a7 (gs.map Fe.fd) nm ns=ae i->ns'=(if cx "take" (.str s)=ah then cD ns i else ns)->Q (.d (bR (a8 hs h (d9 (xb,xp,nm) (bT (eS (gs.map Fe.fd) (cF ns i) nm)))) ns')) n):
  BR [↑(cI ps),↑(bR hs ns),↑(.int h),↑a.d,af,af,af,af] n {nx:=λ_ n=>Q (.d .none) n,rt:=Q}:=by
 rw[ed];obtain⟨v,o⟩:=mI hof hpat;have m:h < hs.length:=by rw[n_.1];omega
 have l:hs.length<=5:=by rw[n_.1];exact j'.1
 refine az (bC (λQ q=>ar (ar (au rfl (aB (cQ (au rfl (bb H.hD q))))))) ?_);dsimp only[A0];refine az (bC (λQ q=>bK rfl q) ?_);dsimp only[A0];have C:dO ps hs ns h=a7 (gs.map Fe.fd) nm ns:=by
  unfold dO;rw[H.nmq];simp_all
 refine az (bC (x:=jc (a7 (gs.map Fe.fd) nm ns)) (λQ q=>bg (au rfl (au rfl (au rfl ⟨ps,hs,ns,h,rfl,⟨j',n_,o_⟩,hh,by simp_all⟩)))) ?_);dsimp only[A0];cases j:a7 _ nm ns with
 |none=>exact az (bG (λQ q=>aE (λQ q=>ar (au rfl (aB (iY q)))) q) (kN j))
 |some i=>
  obtain⟨⟨b,k⟩,g,A⟩:=vj j;have B:=(Aq.mp g).1;have f:(ns.map eV)[i]?=ae (.tuple [.tuple b,k]):=by rw[Am,g];rfl
  have y:cF ns i=b:=by unfold cF;simp_all
  refine az (aT (λQ q=>aE (λQ q=>ar (au rfl (aB (iY q)))) q) ?_);dsimp only[aD];refine az (bC (x:=cV (bT (eS (gs.map Fe.fd) (cF ns i) nm))) (λQ q=>?_) ?_)
  ·refine bg (bK rfl (ar (ar (au rfl (au rfl (bb f (aB (cQ (ar (au rfl (aB (fL ⟨_,b,nm,by rw[v],o,(o_.2 _ (Ay g)).1,H.nms,?_⟩))))))))))));rw[BK A];rw[y]at q;exact q
  dsimp only[A0];have e:∀ns',ns'=(if cx "take" _=ah then cD ns i else ns)->aw (ay (ao (aA jg (ao (w2 ↥1 _ av) (ao ↥2 (ao (aA mx (ao ↥4 (ao ↥7 ak))) ak)))) (ao ↥5 ak)))
    [↑(cI ps),↑(bR hs ns),ae _,↑(.tuple (.str s::cG gs::r)),ae _,ae _,↑(.int i),ae _] n {nx:=λ_ n=>Q (.d .none) n,rt:=Q}:=λns' u=>
   bo (rN rfl rfl rfl (λQ q=>bO (au rfl (au rfl ⟨_,_,rfl,q⟩))) m l (kS i ns' j u))
  refine az (qO rfl (λz=>?_) λz=>?_)
  ·refine bC (x:=e7 (cD ns i)) (λQ q=>ar (pP (λQ q=>au rfl q) (λQ q=>au rfl q) (by rw[Ab];omega) (rm (p:=i+1) (λQ q=>au rfl q) (λQ q=>ar (au rfl (aB (ez q)))) (by rw[Ab];omega) (ja ?_ ?_)))) ?_
   ·have:=o_.1;rw[Ef,Dl,Ab];omega
   ·unfold e7 at q;rw[wJ]at q;exact q
   ·dsimp only[A0];exact e _ (by rw[a' z])
  ·dsimp only[aD];exact e ns (by rw[a_ (by rw[z];simp)])
end
theorem Ri:cm nP BR ["programs","stand","hand","act","place","notes","number","names"]:=λws n Q h=>by
 obtain⟨R,s,m,h,a,rfl,⟨j,l,u⟩,B,v,C,k⟩:=h;obtain⟨P,W,M,D,w,T,H⟩:=gH l B;have x:=H.ok j v;rw[lT H v]at k;have F:h < s.length:=by rw[l.1];omega
 have E:s.length<=5:=by rw[l.1];exact j.1
 cases a with
 |lay U N=>cases C
 |same f g b=>cases C
 |go b=>cases C
 |take t=>
  refine sD H j l u B v rfl rfl x.1 x.2 (λe=>?_) λi z e p=>?_
  ·have k:Q (.d (iw (((bE t _ m).map λq=>(q.2,cD m q.1)).map λr=>(a8 s h r.1,r.2)))) n:=k;rw[iA e]at k;assumption
  ·rw[a' (by rfl)]at p;rw[p];have k:Q (.d (iw (((bE t _ m).map λq=>(q.2,cD m q.1)).map λr=>(a8 s h r.1,r.2)))) n:=k;rw[iy e]at k;exact k
 |read t=>
  refine sD H j l u B v rfl rfl x.1 x.2 (λe=>?_) λi z e p=>?_
  ·have k:Q (.d (iw (((bE t _ m).map λq=>(q.2,m)).map λr=>(a8 s h r.1,r.2)))) n:=k;rw[iA e]at k;assumption
  ·rw[a_ ∅]at p;rw[p];have k:Q (.d (iw (((bE t _ m).map λq=>(q.2,m)).map λr=>(a8 s h r.1,r.2)))) n:=k;rw[iy e]at k;exact k
 |look t b=>
  refine sD H j l u B v rfl rfl x.1 x.2 (λe=>?_) λi z e p=>?_
  ·have k:Q (.d (iw ((match bE t _ m with|some q=>ae _|none=>ae (cj P b D,m):Option _).map λr=>(a8 s h r.1,r.2)))) n:=k;rw[iA e]at k;rw[H.act]at v;obtain⟨S,A,_⟩:=(((j.2 P (Ay H.prog)).2.2 _ (Ay H.blk)).2 M _ v).2 b rfl;rw[Am]at A;obtain⟨I,y,_⟩:=Em.mp A;refine az (aT (λQ q=>aE (λQ q=>ar (cS rfl (aB (KZ (by assumption))))) q) ?_);dsimp only[aD];refine bo (rN rfl rfl rfl (λQ q=>bg (ar (au rfl (au rfl (bb H.pD ?_))))) F E k);exact ar (au rfl (aB (fL (ar (au rfl (aB (fL ⟨P,b,D,I,rfl,y,(((j.2 P (Ay H.prog)).2.2 I (Ay y)).1).1,q⟩)))))))
  ·rw[a_ ∅]at p;rw[p];have k:Q (.d (iw ((match bE t _ m with|some q=>ae _|none=>ae (cj P b D,m):Option _).map λr=>(a8 s h r.1,r.2)))) n:=k;rw[iy e]at k;exact k
theorem rW{δ:Sl}{n:Int}{Q:DQ}{w w' w'' v:DT}{S:aJ}(k:w δ n λx n1=>w' δ n1 λy n2=>w'' δ n2 λz n3=>v δ n3 λu n4=>S [x,y,z,u] n4 Q):aA S (ao w (ao w' (ao w'' (ao v ak)))) δ n Q:=k
theorem RA{nm:Nm}{k:Str}(h:k∈nm.map (·.1)):∃v,look nm k=ae v:=by
 obtain⟨p,a,e⟩:=A5.mp h;have:(nm.any λp=>decide (p.1=k))=ah:=Cm.mpr ⟨p,a,b_ e⟩;rw[rj]at this;exact C1.mp this
theorem MB{f:Fe}(h:f.tm=ah):f.bd=af:=by cases f<;>first|rfl|cases h
theorem qK{f:Fe}(h:f.te=ah):f.tm=ah:=by cases f<;>first|rfl|cases h
theorem ua:∀{fs:List Fe}{ks:List Str},rF ks fs->(∀f∈fs,f.tm=ah)->∀f∈fs,∀k,f.us=ae k->k∈ks
 |[],_,_,_,f,a,_,_=>by simp_all
 |g::r,ks,h,c,f,a,k,d=>by
  rcases Au.mp a with rfl|a
  ·exact h.1 k d
  ·have b:=h.2;rw[MB (c g Ap)]at b;have:=ua b (λx e=>c x (Ak _ e)) f a k d;simp_all
section
variable{ps:Pg}{hs:List Hn}{ns:List Nt}{h:Nat}{P:List Bl}{xb xp:Nat}{nm:Nm}{w:List Str}{as:List Ac}{n:Int}{Q:DQ}
theorem HandAt.okb(H:HandAt ps hs h P xb xp nm w as)(j':bM ps):kL (w,as)/\j7 (P.map (·.1)) (w,as):=(j'.2 P (Ay H.prog)).2.2 _ (Ay H.blk)
theorem HandAt.right(H:HandAt ps hs h P xb xp nm w as)(j':bM ps){a:Ac}(e:bA ps hs h=ae a):a.right (P.map (·.1)) (kn w as xp):=by
 rw[H.act]at e;exact(H.okb j').2 xp a e
theorem HandAt.fv(H:HandAt ps hs h P xb xp nm w as){f:Fe}(ok:f.ok)(tm:f.tm=ah)(us:∀k,f.us=ae k->k∈kn w as xp):ef nm f:=⟨ok,tm,λk a=>by
 obtain⟨v,e⟩:=RA ((H.hn.mem k).mpr (us k a));exact⟨v,e,(H.hn.ok _ (j3 e)).2⟩⟩
theorem HandAt.lay(H:HandAt ps hs h P xb xp nm w as)(j':bM ps){fs:List Fe}{age:Ad}(e:bA ps hs h=ae (.lay fs age)):fs.length<=4/\∀f∈fs,ef nm f:=by
 have a:=H.ok j' e;exact⟨a.1.1,λf b=>H.fv (a.1.2 f b) (a.2.1 f b) (ua ((H.right j' e).1) a.2.1 f b)⟩
theorem HandAt.same(H:HandAt ps hs h P xb xp nm w as)(j':bM ps){f g:Fe}{b:Nat}(e:bA ps hs h=ae (.same f g b)):ef nm f/\ef nm g/\f.te=ah/\g.te=ah:=by
 have a:=H.ok j' e;have r:=ua (H.right j' e).1 (λx c=>by
  simp only[Ac.fs,Au,A4,g_]at c;rcases c with rfl|rfl
  ·exact qK a.2.1
  ·exact qK a.2.2)
 exact⟨H.fv (a.1.2 f (by simp[Ac.fs])) (qK a.2.1) (r f (by simp[Ac.fs])),H.fv (a.1.2 g (by simp[Ac.fs])) (qK a.2.2) (r g (by simp[Ac.fs])),a.2.1,a.2.2⟩
theorem HandAt.to(H:HandAt ps hs h P xb xp nm w as)(j':bM ps){a:Ac}{b:Nat}(e:bA ps hs h=ae a)(hb:a.to=ae b):∃bl:Bl,P[b]?=ae bl/\kL bl/\∀k∈bl.1,k∈nm.map (·.1):=by
 obtain⟨g,c,f⟩:=(H.right j' e).2 b hb;rw[Am]at c;obtain⟨bl,d,rfl⟩:=Em.mp c;exact⟨bl,d,((j'.2 P (Ay H.prog)).2.2 bl (Ay d)).1,λk z=>(H.hn.mem k).mpr (f k z)⟩
end
theorem K4{a b:Ad}{n:Int}{Q:DQ}{δ:Sl}{i:Nat}(e:δ[i]?=ae (↑(.tuple [a,b])))(k:Q (.d b) n):w2 (aj i) (iP (wC (.int 1))) av δ n Q:=ar (au e k)
theorem OA{a b c d:Ad}{n:Int}{Q:DQ}{δ:Sl}{i:Nat}(e:δ[i]?=ae (↑(.tuple [a,b,c,d])))(k:Q (.d d) n):w2 (aj i) (iP (wC (.int 1))) av δ n Q:=ar (au e k)
theorem RN:cm vi HS ["programs","stand","hand","act","place","notes","names"]:=λws n Q h=>by
 obtain⟨B,u,y,h,rfl,⟨c,i,E⟩,M,k⟩:=h;obtain⟨P,Z,T,j,w,as,H⟩:=gH i M;have N:h < u.length:=by rw[i.1];omega
 have L:u.length<=5:=by rw[i.1];exact c.1
 refine az (bC (λQ q=>xK rfl rfl rfl i M q) ?_);dsimp only[A0];cases m:bA B u h with
 |none=>
  unfold dR at k;rw[H.prog,H.hand,m]at k;assumption
 |some a=>
  show aq _ _ [ae _,ae _,ae _,↑a.d,af,af,af] n _;cases G:a.pf with
  |some v=>
   obtain⟨of,s,r,e,K,_⟩:=pK G (H.ok c m);have S:Q (.d (iw (dR B u y h))) n->aA nP (ao ↥0 (ao ↥1 (ao ↥2 (ao ↥3 ak)))) [ae _,ae _,ae _,ae _,af,af,af] n Q:=λk=>
    rW (au rfl (au rfl (au rfl (au rfl ⟨B,u,y,h,a,rfl,⟨c,i,E⟩,M,m,by simp_all⟩))))
   rw[e]at S ⊢;refine az (aT (λQ q=>aE (λQ q=>ar (au rfl (aB (iY q)))) q) ?_);dsimp only[aD];exact az (bG (λQ q=>ye (λQ q=>cS rfl q) K q) (bo (S k)))
  |none=>
   rw[lT H m]at k;have t:∀(V:aH) s r,a.d=.tuple (.str s::r)->bW _ [.str "take",.str "read",.str "look"]=ai->
     V [ae _,ae _,ae _,↑a.d,ae _,ae _,ae _] n {nx:=λ_ n=>Q _ n,rt:=Q}->
     aq (aI (cT (w2 ↥3 _ (bc ai))) (aw (wC .none)) aD) (aq (aI (cT (hV Zf (w2 ↥3 _ av))) (aw (aA nP (ao ↥0 (ao ↥1 (ao ↥2 (ao ↥3 ak)))))) aD) (aq (ax 4 (w2 (w2 ↥1 _ av) ↥2 av)) (aq (ax 5 (w2 ↥1 ⇑1 av)) (aq (ax 6 (w2 ↥4 ⇑2 av)) V))))
      [↑(cI B),↑(bR u y),ae _,↑a.d,af,af,af] n {nx:=λ_ n=>Q (.d .none) n,rt:=Q}:=λV s r e K kk=>by
    rw[e]at kk ⊢;refine az (aT (λQ q=>aE (λQ q=>ar (au rfl (aB (iY q)))) q) ?_);dsimp only[aD];refine az (aT (λQ q=>ye (λQ q=>cS rfl q) K q) ?_);dsimp only[aD];refine az (bC (λQ q=>ar (ar (au rfl (aB (cQ (au rfl (bb H.hD q))))))) ?_);assumption
   have l:∀x C d,Q _ n->aw (ay (ao (aA jg (ao (w2 ↥1 _ av) (ao ↥2 (ao ↥4 ak)))) (ao ↥5 ak))) [↑(cI B),↑(bR u y),ae _,↑d,↑(bZ x),↑(e7 C),↑(cV j)] n {nx:=λ_ n=>Q (.d .none) n,rt:=Q}:=λx C d q=>
    bo (rN rfl rfl rfl (λQ q=>au rfl q) N L q)
   cases a with
   |take v=>cases G
   |read v=>cases G
   |look v b=>cases G
   |lay v D=>
    obtain⟨I,O⟩:=H.lay c m;refine t _ "lay" [cG v,D] rfl (by rfl) (az (ij rfl (by rfl) (az ?_)));refine bC (x:=e7 (y++[(gi v j,D)])) (λQ q=>?_) ?_
    ·refine ar (au rfl (oN (cv (bO (bK rfl (au rfl ⟨v,j,rfl,I,O,H.nms,ar (au rfl (aB (fL (Al (show 2<=1000 by decide) (Al (show 1<=1000 by decide) (ja (by rw[Ab,A1];have:=E.1;omega) ?_))))))⟩))))));unfold e7 at q;rw[Bc]at q;exact q
    ·dsimp only[A0];exact bC (λQ q=>bO (au rfl (au rfl ⟨(Z,T,j),j,rfl,q⟩))) (l _ _ _ k)
   |same f g b=>
    obtain⟨hf,hg,tf,tg⟩:=H.same c m;obtain⟨J,o,p,_⟩:=H.to c m rfl;refine t _ "same" [f.d,g.d,.int b] rfl (by rfl) (az (cZ rfl (by rfl) (cz (kj (λQ q=>dQ rfl ?_) ?_))))
    ·rw[show cx "same" _=ah by rfl];exact q
    refine(bO (au rfl (au rfl ⟨f,g,b,j,rfl,hf,hg,tf,tg,H.nms,?_⟩)));have k:Q (.d (bR _ y)) n:=k;refine mS (λz=>?_) λz=>?_
    ·rw[a' z]at k;exact bC (λQ q=>bO (au rfl (au rfl ⟨(Z,T,j),j,rfl,q⟩))) (l _ _ _ k)
    ·rw[a_ (by rw[z];simp)]at k;exact bC (λQ q=>bg (ar (au rfl (au rfl (bb H.pD (OA rfl (au rfl ⟨P,b,j,J,rfl,o,p.1,q⟩))))))) (l _ _ _ k)
   |go b=>
    obtain⟨J,o,p,_⟩:=H.to c m rfl;refine t _ "go" [.int b] rfl (by rfl) (az (cZ rfl (by rfl) (aT (λQ q=>lW (λQ q=>dQ rfl ?_) q) ?_)))
    ·rw[show cx "same" _=ai by rfl];exact q
    exact bC (λQ q=>bg (ar (au rfl (au rfl (bb H.pD (K4 rfl (au rfl ⟨P,b,j,J,rfl,o,p.1,q⟩))))))) (l _ _ _ k)
theorem FA{a b n:Int}{Q:DQ}(k:Q (.d (.bool (decide (a=b)))) n):aX (.d (.int a)) (.d (.int b)) n Q:=k
theorem Pq:cm eO Od ["programs","stand","mover","clock"]:=λws n Q h=>by
 obtain⟨d,a,b,m,rfl,c,g,k⟩:=h;refine az (bC (λQ q=>aQ (au rfl (show Q _ n by rw[Ab];exact q))) ?_);dsimp only[A0];refine az (aT (λQ q=>lA (λQ q=>aE (λQ q=>bO (au rfl (au rfl ⟨_,_,rfl,by omega,by omega,q⟩))) q) q) ?_);dsimp only[aD];unfold bI at k;refine bo (e8 (λQ q=>aE (λQ q=>ar (au rfl (au rfl (FA q)))) q) ?_);by_cases e:m=d.length
 ·rw[a' e]at k;rw[a' (b_ ⋯)];exact dh (au rfl ⟨a,b,rfl,λq f=>(c.2.2.2 q f).2,k⟩)
 ·rw[a_ e]at k;rw[a_ (by rw[c_ ⋯];simp)];exact bg (au rfl (au rfl (au rfl ⟨d,a,b,m,rfl,c,by omega,k⟩)))
theorem BS{δ:Sl}{n:Int}{Q:DQ}{j:Nat}{ps:Nm}(e:δ[j]?=ae (↑(cV ps)))(ok:okN ps)(k:Q (.dk (b4 ps)) n):ki (aj j) δ n Q:=by
 unfold ki kd iO;refine au e ?_;unfold cV;simp only[uX];refine⟨by rw[Ab];have:=ok.1;omega,?_⟩;have:=vB ps [] (ok.2.1);rw[show([]:List _)=b4 []from rfl,this];exact k
theorem Nx{i:Int}(h:b7 (.int i)=ah):jy (.int i)=.int ((i+1) % 100):=by
 obtain⟨a,b⟩:=AR h;show(if i=99 then Fp 0 else Fp _)=_
 split
 ·rename_i e;subst e;rfl
 ·rw[Int.emod_eq_of_lt ⋯ ⋯]
theorem wH:∀{xs ys:List Str},xs.Nodup->ys.Nodup->(∀k,k∈xs↔k∈ys)->ia xs->ia ys->xs=ys
 |[],[],_,_,_,_,_=>rfl
 |[],y::ys,_,_,h,_,_=>by have:=(h y).mpr Ap;simp at this
 |x::xs,[],_,_,h,_,_=>by have:=(h x).mp Ap;simp at this
 |x::xs,y::ys,g,f,h,r,o=>by
  obtain⟨s,j⟩:=Du.mp g;obtain⟨p,d⟩:=Du.mp f;obtain⟨b,m⟩:=List.pairwise_cons.mp r;obtain⟨i,c⟩:=List.pairwise_cons.mp o;have e:x=y:=by
   rcases Au.mp ((h x).mp Ap)with e|l
   ·exact e
   ·rcases Au.mp ((h y).mpr Ap)with e|n
    ·exact e.symm
    ·exact vQ _ _ (i x l) (b y n)
  subst e;rw[wH j d (λk=>⟨λhk=>?_,λhk=>?_⟩) m c]
  ·rcases Au.mp ((h k).mp (Ak _ hk))with e|q
   ·exact f_ (e▸hk) s
   ·exact q
  ·rcases Au.mp ((h k).mpr (Ak _ hk))with e|q
   ·exact f_ (e▸hk) p
   ·exact q
theorem Ml{nm:Nm}{w:List Str}(nd:(nm.map (·.1)).Nodup)(up:jh nm)(wn:w.Nodup)(wu:ia w)(sub:∀k∈w,k∈nm.map (·.1)):nm.filter (λp=>decide (p.1∈w))=w.map λk=>(k,hG nm k):=by
 have d:(nm.filter λp=>decide (p.1∈w)).map (·.1)=w:=by
  refine wH ?_ wn (λk=>⟨λhk=>?_,λhk=>?_⟩) ?_ wu
  ·exact List.Nodup.sublist (List.Sublist.map _ List.filter_sublist) nd
  ·obtain⟨p,a,rfl⟩:=A5.mp hk;simp_all
  ·obtain⟨p,a,rfl⟩:=A5.mp (sub k hk);exact A5.mpr ⟨p,Cw.mpr ⟨a,b_ hk⟩,rfl⟩
  ·unfold ia;rw[F1];exact List.Pairwise.sublist List.filter_sublist up
 have c:=by
  have:(nm.filter λp=>decide (p.1∈w)).map id=(nm.filter λp=>decide (p.1∈w)).map λp=>(p.1,hG nm p.1):=by
   refine Di λp a=>?_;have:=vn nd (Cw.mp a).1;unfold hG;simp_all
  rw[List.map_id]at this;omega
 rw[c]
 conv=>rhs;rw[<-d]
 rw[B4];rfl
theorem Ql{fs:List Fd}{row:List Ad}{nm:Nm}(nd:(nm.map (·.1)).Nodup)(h:cb fs row nm=ah):((eS fs row nm).map (·.1)).Nodup/\(wk (fs.zip row) nm []=ae (eS fs row nm)):=by
 unfold cb at h;rw[Bu]at h;unfold eS;obtain⟨x,a⟩:=C1.mp h.2;rw[a];exact⟨jK _ _ _ _ nd a,rfl⟩
theorem oR:∀(l:List (Fd×Ad))(h:Nm)(hs:List Str)(k:Nm),(∀p∈l,p.1.ok/\b7 p.2=ah)->(∀p∈h,eG p)->wk l h hs=ae k->(∀p∈k,eG p)/\k.length<=h.length+l.length
 |[],h,hs,k,_,b,e=>by cases e;exact⟨b,Ao _⟩
 | (f,v)::r,h,hs,k,i,b,e=>by
  have g:=λp n=>i p (Ak _ n);have a:wk r h hs=ae k->(∀p∈k,eG p)/\k.length<=h.length+((f,v)::r).length:=λe=>by
   have:=oR r h hs k g b e;exact⟨this.1,by rw[Ax];omega⟩
  cases f with
  |is w=>unfold wk at e;split at e;exact a e;cases e
  |any=>unfold wk at e;exact a e
  |word=>unfold wk at e;split at e;exact a e;cases e
  |number=>unfold wk at e;split at e;exact a e;cases e
  |as x=>
   unfold wk at e
   split at e
   ·split at e
    ·exact a e
    ·cases e
   ·cases e
  |bind x=>
   unfold wk at e
   split at e
   ·split at e
    ·split at e
     ·exact a e
     ·cases e
    ·cases e
   ·have d:=i _ Ap;have:=oR r (put h x v) _ k g (my b d.1 d.2) e;have:=qF h x v;exact⟨by have:=oR r _ _ k g (my b d.1 d.2) e;exact this.1,by rw[Ax];omega⟩
theorem HD{fs:List Fd}{row:List Ad}(of:mn fs)(or:uJ row):∀p∈fs.zip row,p.1.ok/\b7 p.2=ah:=λp a=>⟨of.2.2 _ (Fs a).1,or.2 _ (Fs a).2⟩
def Sm(k w:Nat)(d:Ad):Prop:=Ec d=ah/\Ek d<=k/\F8 d<=w/\PyData.intsShort 13 d=ah/\PyData.showable d=ah
theorem Sm.small{k w:Nat}{d:Ad}(h:Sm k w d)(hk:k<=20)(hw:w<=2 ^ 20):Small d:=⟨h.1,by have:=h.2.1;omega,by have:=h.2.2.1;omega,h.2.2.2⟩
theorem xa{k w:Nat}:∀ds:List Ad,(∀d∈ds,Sm k w d)->Ex ds=ah/\Fn ds<=k/\PyData.weightAll ds<=(w+1)*ds.length/\PyData.intsShortAll 13 ds=ah/\PyData.showableAll ds=ah
 |[],_=>⟨rfl,Az _,Az _,rfl,rfl⟩
 |d::r,h=>by
  obtain⟨a,j,l,e,b⟩:=xa r λx i=>h x (Ak _ i);obtain⟨f,m,n,c,g⟩:=h d Ap;refine⟨?_,?_,?_,?_,?_⟩
  ·rw[Ex,a,f];rfl
  ·rw[Fn];omega
  ·rw[PyData.weightAll,Ax,Nat.mul_succ];omega
  ·rw[PyData.intsShortAll,e,c];rfl
  ·rw[PyData.showableAll,b,g];rfl
theorem ma{k w m:Nat}{ds:List Ad}(h:∀d∈ds,Sm k w d)(hl:ds.length<=m):Sm (k+1) ((w+1)*m) (.tuple ds):=by
 obtain⟨a,b,e,f,c⟩:=xa ds h;have:=Nat.mul_le_mul_left (w+1) hl;refine⟨by exact a,by rw[Ek];omega,by rw[F8];omega,by trivial⟩
theorem Sm.up{k w k' w':Nat}{d:Ad}(h:Sm k w d)(hk:k<=k')(hw:w<=w'):Sm k' w' d:=⟨h.1,Ba h.2.1 hk,Ba h.2.2.1 hw,h.2.2.2⟩
theorem nU{d:Ad}(h:b7 d=ah):Sm 0 20 d:=by
 cases d with
 |str x=>
  have h:(decide _&&(Dw x&&decide _))=ah:=h;rw[Bu,Bu]at h;have c:x.cps.size<=8:=d_ h.1;refine⟨?_,Ao _,?_,by trivial⟩
  ·rw[Ec];exact h.2.1
  ·rw[F8];omega
 |int i=>
  simp only[b7,Bu,decide_eq_true_eq]at h;exact⟨by rw[Ec],Ao _,h.2.2.1,h.2.2.2.1,h.2.2.2.2⟩
 |_=>cases h
theorem M4{x:Str}(h:okX x):Sm 0 20 (.str x):=by
 have a:x.cps.size<=4:=h.1;refine⟨?_,Ao _,?_,by trivial⟩
 ·rw[Ec];simp_all
 ·rw[F8];omega
theorem t8{a b:Ad}{k w:Nat}(ha:Sm k w a)(hb:Sm k w b):Sm (k+1) ((w+1)*2) (.tuple [a,b]):=ma (λd c=>by
 simp only[Au,A4,g_]at c;rcases c with rfl|rfl
 ·exact ha
 ·exact hb) (Ao _)
theorem MQ{nm:Nm}(h:∀p∈nm,eG p)(hl:nm.length<=40):Sm 2 1720 (cV nm):=(ma (λd b=>by
 obtain⟨p,a,rfl⟩:=A5.mp b;exact t8 (M4 (h p a).1) (nU (h p a).2)) (by rw[Ab];omega)).up (Ao _) ∎
theorem GK{d:Ad}(h:gZ d):Sm 0 20 d:=by
 rcases h with rfl|⟨i,rfl,b,a⟩
 ·exact⟨rfl,Ao _,by trivial⟩
 ·exact nU (gJ ⋯ ⋯)
theorem NZ{h:Hn}(h1:h.1<=99)(h2:h.2.1<=99)(ho:∀p∈h.2.2,eG p)(hl:h.2.2.length<=40):Sm 3 5163 (bZ h):=ma (w:=1720) (λd a=>by
 simp only[Au,A4,g_]at a;rcases a with rfl|rfl|rfl
 ·exact(nU (gJ ⋯ ⋯)).up ∎ ∎
 ·exact(nU (gJ ⋯ ⋯)).up ∎ ∎
 ·exact MQ ho hl) (Ao _)
theorem SG{q:Nt}(h:nT q):Sm 2 170 (eV q):=t8 ((ma (λd a=>nU (h.1.2 d a)) h.1.1.1)) ((GK h.2).up ∎ ∎)
theorem Mu{ps:Pg}{hs:List Hn}{ns:List Nt}(j':bM ps)(n_:okHs ps hs)(o_:c9 101 ns):Small (bR hs ns):=by
 exact(t8 (ma (λd e=>by
  obtain⟨h,o,rfl⟩:=A5.mp e;obtain⟨i,f⟩:=Br.mp o;have m:=(Aq.mp f).1;have a:i < ps.length:=by rw[<-n_.1];omega
  have l:=Ah a;obtain⟨r,b,j,g,c⟩:=n_.2 i _ l;rw[f]at j;cases j;have k:=j'.2 _ (Ay l);have p:=(Aq.mp g).1;have:=c.pl;have:=((k.2.2 b (Ay g)).1).2.2.1;have:=k.2.1;exact NZ ⋯ ⋯ c.ok c.ln) (by rw[Ab,n_.1];exact j'.1)) ((ma (λd e=>by
  obtain⟨q,n,rfl⟩:=A5.mp e;exact SG (o_.2 q n)) (by rw[Ab];exact o_.1)).up ∎ ∎)).small ∎ ∎
theorem Ju{hs:List Hn}{h:Nat}{x:Hn}(hh:h < hs.length):a8 hs h x=hs.set h x:=by
 rw[List.set_eq_take_append_cons_drop,a' hh];rfl
theorem okHs.put{ps:Pg}{hs:List Hn}{h:Nat}{x:Hn}{P:List Bl}{b:Bl}(ok:okHs ps hs)(hP:ps[h]?=ae P)(hb:P[x.1]?=ae b)(hx:okHn b x):okHs ps (a8 hs h x):=by
 have c:h < hs.length:=by rw[ok.1];exact(Aq.mp hP).1
 rw[Ju c];refine⟨by rw[B5];exact ok.1,λi f a=>?_⟩;by_cases e:h=i
 ·subst e;rw[hP]at a;cases a;exact⟨x,b,Df c,hb,hx⟩
 ·obtain⟨d,g,l,k,j⟩:=ok.2 i f a;exact⟨d,g,by rw[Bf e];trivial⟩
theorem wD{w:List Str}{as:List Ac}{p:Nat}{a:Ac}(h:as[p]?=ae a):kn w as (p+1)=kn w as p++a.bs:=by
 unfold kn;rw[List.take_add_one,h,Bk];simp
theorem uY:∀(l:List (Fd×Ad))(h:Nm)(hs:List Str)(k:Nm),(∀x∈hs,x∈h.map (·.1))->wk l h hs=ae k->∀x,x∈k.map (·.1)↔x∈h.map (·.1)\/∃p∈l,p.1=.bind x
 |[],h,hs,k,_,e,x=>by cases e;simp
 | (f,v)::r,h,hs,k,g,e,x=>by
  have a:wk r h hs=ae k->(∀y,f=.bind y->y∈h.map _)->(x∈k.map _↔x∈h.map _\/∃p∈(f,v)::r,p.1=.bind x):=λe m=>by
   rw[uY r h hs k g e x]
   constructor
   ·rintro(q|⟨p,b,q⟩)
    ·exact .inl q
    ·exact .inr ⟨p,Ak _ b,q⟩
   ·rintro(q|⟨p,b,q⟩)
    ·exact .inl q
    ·rcases Au.mp b with rfl|b
     ·exact .inl (m x q)
     ·exact .inr ⟨p,b,q⟩
  cases f with
  |is w=>unfold wk at e;split at e;exact a e (λy z=>by cases z);cases e
  |any=>unfold wk at e;exact a e (λy z=>by cases z)
  |word=>unfold wk at e;split at e;exact a e (λy z=>by cases z);cases e
  |number=>unfold wk at e;split at e;exact a e (λy z=>by cases z);cases e
  |as y=>
   unfold wk at e
   split at e
   ·split at e
    ·exact a e (λy z=>by cases z)
    ·cases e
   ·cases e
  |bind y=>
   unfold wk at e
   split at e
   ·rename_i d
    split at e
    ·split at e
     ·exact a e (λz q=>by cases q;exact g y d)
     ·cases e
    ·cases e
   ·have i:∀z,z∈(put h y v).map _↔z∈h.map _\/z=y:=λz=>by
     rw[BF]
     split
     ·rename_i q;obtain⟨p,b,q⟩:=Cm.mp q;have d:=A5.mpr ⟨p,b,d_ q⟩;exact⟨.inl,λq=>q.elim id λq=>q▸d⟩
     ·rw[A7,A2]
    rw[uY r _ _ k (λz o=>(i z).mpr ((A7.mp o).elim (λq=>.inl (g z q)) λq=>.inr (A2.mp q))) e x,i x]
    constructor
    ·rintro((q|rfl)|⟨p,b,q⟩)
     ·exact .inl q
     ·exact .inr ⟨_,Ap,rfl⟩
     ·exact .inr ⟨p,Ak _ b,q⟩
    ·rintro(q|⟨p,b,q⟩)
     ·exact .inl (.inl q)
     ·rcases Au.mp b with rfl|b
      ·cases q;exact .inl (.inr rfl)
      ·exact .inr ⟨p,b,q⟩
theorem JC{gs:List Fe}{row:List Ad}(hp:∀f∈gs,f.pt=ah)(hl:(gs.map Fe.fd).length=row.length)(x:Str):(∃p∈(gs.map Fe.fd).zip row,p.1=.bind x)↔x∈bq gs:=by
 unfold bq;rw[Gx]
 constructor
 ·rintro⟨⟨a,b⟩,g,e⟩
  obtain⟨f,c,d⟩:=A5.mp (Fs g).1;refine⟨f,c,?_⟩;have e:a=.bind x:=e;rw[e]at d;cases f<;>first|(cases d;rfl)|cases d
 ·rintro⟨f,c,e⟩
  have j:f=.bind x:=by cases f<;>first|(cases e;rfl)|cases e
  subst j;obtain⟨i,h⟩:=Br.mp c;have k:=(Aq.mp h).1;rw[Ab]at hl;refine⟨(.bind x,row[i]'⋯),Br.mpr ⟨i,?_⟩,rfl⟩;rw[List.getElem?_zip_eq_some];exact⟨by rw[Am,h];rfl,Ah _⟩
theorem FV{d:Ad}(h:gZ d)(h1:gj d=ai):gZ (iR d):=by
 rcases h with rfl|⟨i,rfl,b,a⟩
 ·exact .inl rfl
 ·have:=by simpa[gj]using h1
  exact .inr ⟨_,rfl,by omega⟩
theorem LA{m:Nat}{ns:List Nt}(h:c9 m ns):c9 m (dH ns):=by
 unfold dH;refine⟨by rw[Ab];exact Ba (F9 _ _) h.1,λq d=>?_⟩;obtain⟨p,c,rfl⟩:=A5.mp d;obtain⟨a,b⟩:=Cw.mp c;exact⟨(h.2 p a).1,FV (h.2 p a).2 (by simpa using b)⟩
theorem wz{ps:Pg}{hs:List Hn}{ns:List Nt}{m M:Nat}{r:List Hn×List Nt}(j':bM ps)(n_:okHs ps hs)(o_:c9 M ns)(hm:m<=ps.length)(e:bI ps hs ns m=ae r):okHs ps r.1/\c9 (M+1) r.2:=by
 unfold bI at e;by_cases em:m=ps.length
 ·rw[a' em]at e;cases e;have:=LA o_;exact⟨n_,Nat.le_succ_of_le this.1,this.2⟩
 rw[a_ em]at e;have hh:m < ps.length:=by omega
 obtain⟨P,xb,J,c,w,as,H⟩:=gH n_ hh;cases O:bA ps hs m with
 |none=>
  unfold dR at e;simp_all
 |some a=>
 rw[lT H O]at e;have B:=H.ok j' O;have t:=O;rw[H.act]at t;have L:=(Aq.mp t).1;have h:c9 _ ns:=⟨Nat.le_succ_of_le o_.1,o_.2⟩;have on:a.bs=[]->okHs ps (a8 hs m (d9 (xb,J,c) c)):=λhb=>n_.put H.prog H.blk ⟨L,H.hn.nd,H.hn.ok,H.hn.up,λk=>by
  show k∈c.map _↔k∈kn w as (J+1);rw[wD t,hb,Bh];exact H.hn.mem k,H.hn.ln⟩
 have W:∀b,a.to=ae b->okHs ps (a8 hs m (cj P b c)):=λb hb=>by
  obtain⟨G,U,D,sub⟩:=H.to j' O hb;have R:kK P b=G.1:=by unfold kK;simp_all
  refine n_.put H.prog U ?_;have en:(cj P b c).2.2=G.1.map λk=>(k,hG c k):=by
   unfold cj;rw[R];exact Ml H.hn.nd H.hn.up D.2.2.2.2.1 D.2.2.2.2.2 sub
  have ek:(cj P b c).2.2.map (·.1)=G.1:=by rw[en,B4];exact List.map_id' _
  have S:(cj P b c).2.2.Sublist c:=List.filter_sublist;refine⟨Az _,by rw[ek];exact D.2.2.2.2.1,λp V=>H.hn.ok p (S.subset V),List.Pairwise.sublist S H.hn.up,λk=>by rw[ek];show _↔k∈G.1++(G.2.take 0).flatMap Ac.bs;simp,Ba S.length_le H.hn.ln⟩
 have E:∀gs i,a.pf=ae (gs.map Fe.fd)->a.bs=bq gs->eE gs->gh gs->a7 _ c ns=ae i->okHs ps (a8 hs m (d9 (xb,J,c) (bT (eS _ (cF ns i) c)))):=λgs i hpf hbs T y o=>by
  obtain⟨⟨C,Y⟩,n,F⟩:=vj o;have er:cF ns i=C:=by unfold cF;simp_all
  rw[er];obtain⟨ep,op⟩:=mI T y;obtain⟨nd,R⟩:=Ql H.hn.nd F;obtain⟨wo,_⟩:=oR _ _ _ _ (HD op (o_.2 _ (Ay n)).1) H.hn.ok R;have I:=by
   unfold cb at F;rw[Bu]at F;exact d_ F.1
  have pm:=BN (eS (gs.map Fe.fd) C c);have pk:((bT _).map _).Perm ((eS _ C c).map (·.1)):=pm.map _;have z:∀k,k∈(bT _).map _↔k∈kn w as (J+1):=λk=>by
   rw[pk.mem_iff,uY _ _ _ _ (λx hx=>by simp at hx) R k,JC y.2 I,wD t,A7,hbs];exact or_congr (H.hn.mem k) Iff.rfl
  have N:=pk.nodup_iff.mpr nd;refine n_.put H.prog H.blk ⟨L,N,λp V=>wo p (pm.mem_iff.mp V),y4 _,z,?_⟩;have:=sr N λk hk=>(z k).mp hk;rw[Ab]at this;exact Ba this (Ba (CF (H.okb j').1 (J+1)) ∎)
 cases a with
 |lay fs Y=>
  cases e;obtain⟨X,Z⟩:=H.lay j' O;refine⟨on rfl,by rw[An,A1];have:=o_.1;omega,λq n=>?_⟩;rcases A7.mp n with n|n
  ·exact o_.2 q n
  ·rw[A2.mp n];exact⟨⟨⟨by unfold gi;rw[Ab];exact X,by unfold gi;rw[Ab];exact B.2.2.2⟩,λd hd=>by
    obtain⟨f,F,rfl⟩:=A5.mp hd;exact fS (Z f F)⟩,B.2.2.1⟩
 |go b=>cases e;exact⟨W b rfl,h⟩
 |same f g b=>
  cases e;refine⟨?_,h⟩;simp
  split
  ·exact on rfl
  ·exact W b rfl
 |take gs=>
  have e:(((bE gs _ ns).map λq=>(q.2,cD ns q.1)).map λr=>(a8 hs m r.1,r.2))=ae r:=e;cases o:a7 _ c ns with
  |none=>rw[iA o]at e;cases e
  |some i=>
   rw[iy o]at e;cases e;refine⟨E gs i rfl rfl B.1 B.2 o,?_,λq n=>?_⟩
   ·show(cD ns i).length<=_;unfold cD;rw[An,Ef,Dl];have:=o_.1;omega
   ·rcases A7.mp n with n|n
    ·exact o_.2 q (List.mem_of_mem_take n)
    ·exact o_.2 q (List.mem_of_mem_drop n)
 |read gs=>
  have e:(((bE gs _ ns).map λq=>(q.2,ns)).map λr=>(a8 hs m r.1,r.2))=ae r:=e;cases o:a7 _ c ns with
  |none=>rw[iA o]at e;cases e
  |some i=>
   rw[iy o]at e;cases e;exact⟨E gs i rfl rfl B.1 B.2 o,h⟩
 |look gs b=>
  have e:((match bE gs _ ns with|some q=>ae _|none=>ae (cj P b c,ns):Option _).map λr=>(a8 hs m r.1,r.2))=ae r:=e;cases o:a7 _ c ns with
  |none=>
   rw[iA o]at e;cases e;exact⟨W b rfl,h⟩
  |some i=>
   rw[iy o]at e;cases e;exact⟨E gs i rfl rfl B.1 B.2 o,h⟩
theorem Te{ps:Pg}{hs:List Hn}{ns:List Nt}{m:Nat}(n_:okHs ps hs)(hh:m < ps.length)(h:ck ps hs ns m=ah):∃r,bI ps hs ns m=ae r:=by
 obtain⟨P,F,A,l,w,G,H⟩:=gH n_ hh;unfold bI;rw[a_ ⋯];cases n:bA ps hs m with
 |none=>unfold ck at h;rw[n]at h;cases h
 |some a=>
 rw[qj n]at h;rw[lT H n];have B:∀gs:List Fe,a.pf=ae (gs.map Fe.fd)->dO ps hs ns m=a7 (gs.map Fe.fd) l ns:=λgs C=>by
  unfold dO;rw[H.nmq];simp_all
 have o:∀gs:List Fe,(dO ps hs ns m).isSome=ah->a.pf=ae _->∃q,bE gs (F,A,l) ns=ae q:=λgs t y=>by
  rw[B gs y]at t;obtain⟨i,z⟩:=C1.mp t;exact⟨_,iy z⟩
 cases a with
 |lay I D=>exact⟨_,rfl⟩
 |go b=>exact⟨_,rfl⟩
 |same f g b=>exact⟨_,rfl⟩
 |take gs=>
  obtain⟨q,k⟩:=o gs h rfl;show ∃r,(((bE gs _ ns).map λq=>(q.2,cD ns q.1)).map λr=>(a8 hs m r.1,r.2))=ae r;rw[k];simp
 |read gs=>
  obtain⟨q,k⟩:=o gs h rfl;show ∃r,(((bE gs _ ns).map λq=>(q.2,ns)).map λr=>(a8 hs m r.1,r.2))=ae r;rw[k];simp
 |look gs b=>
  show ∃r,((match bE gs _ ns with|some q=>ae _|none=>ae (cj P b l,ns):Option _).map λr=>(a8 hs m r.1,r.2))=ae r;cases bE gs _ ns with
  |none=>exact⟨_,rfl⟩
  |some q=>exact⟨_,rfl⟩
theorem Rw{δ:Sl}{n:Int}{Q:DQ}{w:DT}{x:Ad}(hw:∀Q:DQ,Q (.d x) n->w δ n Q)(k:Q (.d (.tuple [x])) n):ay (ao w ak) δ n Q:=hw _ (Al (show 1<=1000 by decide) k)
theorem j4{α:Type}{w:DT}{Q:List Ad->Int->Prop}{aC:Sl}(f g:α->Ad):∀(xs:List α)(i':List Ad)(x:Option SV)(n:Int),(∀a∈xs,∀(n:Int)(Q':DQ),Q' (.d (g a)) n->w (↑(f a)::aC) n Q')->Q (i'++xs.map g) n->dg (aG 0) bB w Q (xs.map f) i' (x::aC) n
 |[],i',x,n,_,q=>by rw[E9,Bh]at q;exact q
 |a::r,i',x,n,h,q=>by
  refine h a Ap n _ (j4 f g r _ _ n (λb c=>h b (Ak _ c)) ?_);rw[Bk];exact q
theorem FY{α:Type}{xs:List α}{p:α->Bool}{n:Int}{Q:DQ}(k:Q (.d (.bool (xs.all p))) n):iD [.d (.list (xs.map λa=>.bool (p a)))] n Q:=by
 show(match ir (xs.map λa=>.bool _)with|some b=>Q _ n|none=>False);rw[tM p xs];show Q _ n;rw[List.all_map];exact k
theorem MH{α:Type}{xs:List α}{p:α->Bool}{n:Int}{Q:DQ}(k:Q (.d (.bool (xs.any p))) n):iE [.d (.list (xs.map λa=>.bool (p a)))] n Q:=by
 show(match ir (xs.map λa=>.bool _)with|some b=>Q _ n|none=>False);rw[tM p xs];show Q _ n;rw[List.any_map];exact k
theorem PL(b:Bs):∃(s:Str)(r:List Ad),b.d=.tuple (.str s::r)/\bW (.str s) [.str "all",.str "some"]=ai/\cx "not" (.str s)=ai:=by
 cases b with
 |notes e k=>exact⟨_,_,rfl,by trivial⟩
 |«at» h b p=>exact⟨_,_,rfl,by trivial⟩
 |ended h=>exact⟨_,_,rfl,by trivial⟩
theorem BY(k:Bool):bW (.str (n8 k)) [.str "all",.str "some"]=ah:=by cases k<;>decide +kernel
theorem JS:cm p7 zu ["sight"]:=λws n Q h=>by
 obtain⟨t,g,rfl,k⟩:=h;have a:∀b:Bs,Q _ n->zu [↑b.d] n {nx:=λ_ n=>Q (.d .none) n,rt:=Q}:=λb q=>by
  obtain⟨s,r,e,f,i⟩:=PL b;rw[e];refine az (aT (λQ q=>hO rfl f q) ?_);dsimp only[aD];exact bo (e8 (b:=ai) (λQ q=>dQ rfl (by simp_all)) (Al (Az _) q))
 cases t with
 |zero=>exact a g k
 |succ t=>
  match g,k with
  |.inl b,k=>exact a b k
  |.inr (.inl q),k=>
   exact az (bG (λQ c=>hO rfl (BY q.1) c) (bo (bK rfl k)))
  |.inr (.inr s),k=>
   refine az (aT (λQ q=>hO rfl (by rfl) q) ?_);dsimp only[aD];exact bo (e8 (b:=ah) (λQ q=>dQ rfl (by assumption)) (Rw (λQ q=>bK rfl q) k))
theorem ne_str{s h:Str}{n:Int}{Q:DQ}(k:Q (.d (.bool (!cx h (.str s)))) n):ec (.d (.str s)) (.d (.str h)) n Q:=k
theorem oW{δ:Sl}{n:Int}{Q:DQ}{u v:DT}{b:Bool}(hu:∀Q:DQ,Q (.d (.bool b)) n->u δ n Q)(k:if b=ah then v δ n Q else Q (.d (.bool ai)) n):cO u v δ n Q:=hu _ (by cases b<;>exact k)
theorem yY{δ:Sl}{n:Int}{i t:Nat}{g:Sg t}{Q:DQ}(e:δ[i]?=ae (↑(Sg.d t g)))(q:Q (.d (.tuple (Sg.subs t g))) n):aA p7 (ao (aj i) ak) δ n Q:=dh (au e ⟨t,g,rfl,q⟩)
theorem Ow:cm vE KI ["pattern","notes"]:=λws n Q h=>by
 obtain⟨d,f,rfl,i,c,k⟩:=h;refine bo (aQ (aV (f6 (λQ q=>au rfl q) (kM eV eV (λq=>holds d q.1) f [] af n (λa e n g q=>?_) (λa e n g q=>au rfl q) ?_))))
 ·refine aE (λQ q=>ar (bg (au rfl (cS rfl (Al (Az _) (Cb d ⟨a.1,[],rfl,i,(c.2 a e).1,⟨Az _,by simp,λp j=>by simp_all⟩,aB ?_⟩)))))) q;show Q _ n;rw[vy,Bool.not_not];exact q
 ·rw[D5];show Q _ n;rw[Ab];exact k
theorem Ia(s h:Str):Cj (.str s) (.str h)=cx h (.str s):=by
 rfl
theorem fH{δ:Sl}{n:Int}{i:Nat}{s h:Str}{b:Bool}(e:δ[i]?=ae (↑(.str s)))(h1:Dw s=ah)(h2:Dw h=ah)(h3:cx h (.str s)=b):∀Q:Bool->Int->Prop,Q b n->cT (w2 (aj i) (wC (.str h)) (iK λd e=>ae (Cj d e))) δ n Q:=λQ q=>by
 refine aE (λQ q=>ar (au e (aB ⟨h1,h2,by simp[Ek],by simp[Ek],b,?_,q⟩))) q;show ae _=ae b;rw[Ia,h3]
theorem M9(a b c:Ad):dI [a,b,c] af (ae 2)=[a,b]:=u6 [a,b,c] (by simp)
theorem Kt(a b c d:Ad):dI [a,b,c,d] (ae 2) af=[c,d]:=yG [a,b,c,d] (by simp)
theorem ou{a b:Int}{n:Int}{Q:DQ}(k:Q (.d (.bool (decide (b<=a)))) n):pE (.d (.int a)) (.d (.int b)) n Q:=k
theorem w8:∀d ws n Q,dm d ws n Q->ws.length=3:=λd ws n Q h=>by
 cases d with
 |zero=>exact h.elim
 |succ t=>obtain⟨_,_,_,rfl,_⟩:=h;rfl
theorem xH{ps:Pg}{s:Sd}{h b p xb xp:Nat}{xn:Nm}(e:s.hs[h]?=ae (xb,xp,xn)):Bs.see ps s (.at h b p)=(decide (xb=b)&&decide (xp=p)):=by
 show(match s.hs[h]? with|some x=>decide _&&decide _|none=>ai)=_;rw[e]
theorem qR{ps:Pg}{s:Sd}(hs:hZ ps s){h:Nat}(hh:h < ps.length):∃(P:List Bl)(xb xp:Nat)(xn:Nm)(w:List Str)(as:List Ac),ps[h]?=ae P/\s.hs[h]?=ae (xb,xp,xn)/\P[xb]?=ae (w,as)/\xp<=as.length:=by
 have a:=Ah hh;obtain⟨⟨xb,xp,xn⟩,⟨w,as⟩,d,c,b⟩:=hs.1.2 h _ a;exact⟨_,xb,xp,xn,w,as,a,d,c,b.pl⟩
theorem AV(k m:Nat):decide ((k:Int)<=(m:Int))=decide (k<=m):=decide_eq_decide.mpr Int.ofNat_le
theorem Ma(a b c d:Nat):Cj (.tuple [.int a,.int b]) (.tuple [.int c,.int d])=(decide (a=c)&&decide (b=d)):=by
 simp only[Cj,PyData.eqvAll];grind
theorem FL(a:Ac):fR a.d=ai:=by cases a<;>rfl
theorem OB{ps:Pg}{s:Sd}(hs:hZ ps s){h:Nat}(hh:h < ps.length):fR (mX (bA ps s.hs h))=f9 ps s h:=by
 obtain⟨P,j,a,l,w,c,d,g,f,k⟩:=qR hs hh;have i:bA ps s.hs h=c[a]?:=by
  unfold bA;rw[d];simp_all
 have e:f9 ps s h=decide (a=c.length):=by
  unfold f9;rw[g,d];show(match P[j]? with|some b=>decide _|none=>ai)=_;rw[f]
 rw[i,e];by_cases z:a < c.length
 ·rw[Ah z,c_ ⋯];exact FL _
 ·rw[Cr ⋯,b_ ⋯];rfl
theorem zB{Sf:aJ}{ps:Pg}{s:Sd}{b:Bs}{n:Int}{Q:DQ}(hp:bM ps)(hs:hZ ps s)(hb:b.ok ps)(k:Q (.d (.bool (b.see ps s))) n):
  wL Sf [↑(cI ps),↑s.d,↑b.d,af,af] n {nx:=λ_ n=>Q (.d .none) n,rt:=Q}:=by
 cases b with
 |notes o j=>
  refine az (bC (λQ q=>cS rfl q) ?_);dsimp only[A0];refine az (bG (fH rfl ∅ ∅ (by rfl)) (bo (ar (bO (bK rfl (bK rfl (Cb o ⟨_,rfl,hb,hs.2,?_⟩)))))));refine eT rfl rfl (ou ?_);rw[AV];exact k
 |«at» h b p=>
  obtain⟨P,r,l,m,w,u,x,i,v,t⟩:=qR hs hb.1;rw[xH i]at k;have f:(s.hs.map bZ)[h]?=ae (bZ (r,l,m)):=by rw[Am,i];rfl
  refine az (bC (λQ q=>cS rfl q) ?_);dsimp only[A0];refine az (aT (fH rfl ∅ ∅ (by rfl)) ?_);dsimp only[aD];refine az (bG (fH rfl ∅ ∅ (by rfl)) (bo (ar ?_)));unfold dA;refine ar (cS rfl (bK rfl (bb f ?_)));dsimp only[du,bZ];refine aB ?_;dsimp only;rw[M9];refine au rfl ?_;dsimp only[Bs.d];refine aB ?_;dsimp only;rw[Kt];refine⟨by simp[Ec,Ex],by simp[Ec,Ex],by simp[Ek,Fn],by simp[Ek,Fn],_,rfl,?_⟩;rw[Ma];exact k
 |ended h=>
  refine az (bC (λQ q=>cS rfl q) ?_);dsimp only[A0];refine az (aT (fH rfl ∅ ∅ (by rfl)) ?_);dsimp only[aD];refine az (aT (fH rfl ∅ ∅ (by rfl)) ?_);dsimp only[aD];refine az (bG (fH rfl ∅ ∅ (by rfl)) (bo (ar (bg (au rfl (au rfl (bK rfl (Cb ps ⟨_,_,h,rfl,hs.1,hb,aB ?_⟩))))))));show Q _ n;rw[OB hs hb];exact k
theorem lM(k:Bool)(h:Str)(e:h∈(["notes","at","ended","not"]:List Str)):cx h (.str (n8 k))=ai:=by
 simp only[Au,A4,g_]at e;rcases e with rfl|rfl|rfl|rfl<;>cases k<;>decide +kernel
theorem lU(k:Bool):Dw (n8 k)=ah:=by cases k<;>decide +kernel
theorem AJ(k:Bool):cx "all" (.str (n8 k))=k:=by cases k<;>decide +kernel
theorem OE:∀d ws n Q,dm (d+1) ws n Q->wL (dm d) (cL ["programs","stand","sight","head","seen"] ws) n {nx:=λ_ n=>Q (.d .none) n,rt:=Q}:=λt ws n Q h=>by
 obtain⟨j,s,g,rfl,f,i,c,k⟩:=h;cases t with
 |zero=>exact zB f i c k
 |succ t=>
  match g,c,k with
  |.inl b,c,k=>exact zB f i c k
  |.inr (.inl q),c,k=>
   refine az (bC (λQ a=>cS rfl a) ?_);dsimp only[A0];refine az (aT (fH rfl (lU q.1) ∅ (lM q.1 _ (by simp))) ?_);dsimp only[aD];refine az (aT (fH rfl (lU q.1) ∅ (lM q.1 _ (by simp))) ?_);dsimp only[aD];refine az (aT (fH rfl (lU q.1) ∅ (lM q.1 _ (by simp))) ?_);dsimp only[aD];refine az (aV (f6 (λQ a=>yY rfl a) (j4 _ _ q.2 [] af n (λu o n m a=>bg (au rfl (au rfl (au rfl ⟨j,s,u,rfl,f,i,c u o,a⟩)))) ?_)));dsimp only[A0];refine az (aT (fH rfl (lU q.1) ∅ (lM q.1 _ (by simp))) ?_);dsimp only[aD];refine bo (e8 (fH rfl (lU q.1) ∅ (AJ q.1)) ?_);have k:Q (.d (.bool (if q.1 then q.2.all (Sg.see j s t)else q.2.any _))) n:=k;cases e:q.1 with
   |true=>rw[e]at k;exact aQ (au rfl (FY k))
   |false=>rw[e]at k;exact aQ (au rfl (MH k))
  |.inr (.inr u),c,k=>
   refine az (bC (λQ a=>cS rfl a) ?_);dsimp only[A0];refine az (aT (fH rfl ∅ ∅ (by rfl)) ?_);dsimp only[aD];refine az (aT (fH rfl ∅ ∅ (by rfl)) ?_);dsimp only[aD];refine az (aT (fH rfl ∅ ∅ (by rfl)) ?_);dsimp only[aD];refine az (aV (f6 (λQ a=>yY rfl a) (j4 _ _ [u] [] af n (λv l n m a=>bg (au rfl (au rfl (au rfl ⟨j,s,v,rfl,f,i,by rw[A2.mp l];exact c,a⟩)))) ?_)));dsimp only[A0];exact az (bG (fH rfl ∅ ∅ (by rfl)) (bo k))
theorem uM{c:b3}{Q:List Ad->Int->Prop}{z:Option SV}(p:Nt->Bool):∀(ns:List Nt)(i':List Ad)(x y:Option SV)(n:Int),(∀a∈ns,∀(n:Int)(Q':Bool->Int->Prop),Q' (p a) n->c [↑(.tuple a.1),↑a.2,z] n Q')->Q (i'++(ns.filter p).map λq=>.tuple q.1) n->
  dg (d4 2 (bF (aG 0) (bF (aG 1) di))) c ↥0 Q (ns.map eV) i' [x,y,z] n
 |[],i',x,y,n,_,q=>by rw[List.filter_nil,E9,Bh]at q;exact q
 |a::r,i',x,y,n,f,q=>by
  refine Al rfl (f a Ap n _ ?_);cases e:p a with
  |true=>
   simp;refine au rfl (uM p r _ _ _ n (λb g=>f b (Ak _ g)) ?_);rw[Eh,a' e]at q;rw[Bk];exact q
  |false=>
   refine uM p r i' _ _ n (λb g=>f b (Ak _ g)) ?_;simp_all
theorem mj{α:Type}(b:Bool)(p:α->Bool):∀xs:List α,bW (.bool b) (xs.map λa=>.bool (p a))=xs.any λa=>p a==b
 |[]=>rfl
 |a::r=>by
  have c:=mj b p r;unfold bW at c ⊢;simp
  congr 1
theorem mQ{α:Type}(p:α->Bool)(xs:List α):(xs.map λa=>PyData.bool (p a)).all eI=ah:=by
 rw[Cy];intro d b;obtain⟨x,_,rfl⟩:=A5.mp b;rfl
theorem xG{α:Type}(p:α->Bool):∀xs:List α,(!(xs.any λa=>p a==ai))=xs.all p
 |[]=>rfl
 |a::r=>by
  rw[List.all_cons,<-xG p r];simp
theorem uW{α:Type}(p:α->Bool):∀xs:List α,(xs.any λa=>p a==ah)=xs.any p
 |[]=>rfl
 |a::r=>by
  simp
theorem rP{a b:Nat}{n:Int}{Q:DQ}(k:Q (.d (.bool (decide (a=b)))) n):aX (.d (.int a)) (.d (.int b)) n Q:=by
 show Q _ n;rw[show decide _=decide (a=b)from decide_eq_decide.mpr Int.ofNat_inj];exact k
theorem IC:∀d ws n Q,dm d ws n Q->ws.length=3:=w8
theorem yd{Sf:aJ}{ps:Pg}{s:Sd}{b:Bs}{n:Int}{Q:DQ}(hp:bM ps)(hs:hZ ps s)(hb:b.ok ps)(k:Q (.d (.bool (b.see ps s))) n):
  FE Sf [↑(cI ps),↑s.d,↑b.d,af,af,af,af] n {nx:=λ_ n=>Q (.d .none) n,rt:=Q}:=by
 cases b with
 |notes D j=>
  refine az (ij rfl (by rfl) (bo (ar (aQ (aV (f6 (λQ q=>bK rfl q) ?_))))));refine uM (λq=>holds D q.1) s.ns [] af af n (λa F n H q=>?_) ?_
  ·refine aE (λQ q=>ar (bg (bK rfl (au rfl (Al (Az _) (Cb D ⟨a.1,[],rfl,hb,(hs.2.2 a F).1,⟨Az _,by simp⟩,aB ?_⟩)))))) q;show Q _ n;rw[vy,Bool.not_not];exact q
  ·rw[D5];refine eT rfl rfl (ou ?_);rw[Ab,AV];exact k
 |«at» h b p=>
  obtain⟨P,f,g,t,w,y,B,l,C,G⟩:=qR hs hb.1;rw[xH l]at k;have e:(s.hs.map bZ)[h]?=ae (bZ (f,g,t)):=by rw[Am,l];rfl
  refine az (cZ rfl (by rfl) ?_);dsimp only[aD];refine az (cZ rfl (by rfl) ?_);dsimp only[aD];refine az (aT (λQ q=>hO rfl (by rfl) q) ?_);dsimp only[aD];refine az (ar (cS rfl (bK rfl (bb e ?_))));refine Al rfl ?_;dsimp only[bF,aG];refine az (ij rfl (by rfl) (bo (oW (λQ q=>ar (au rfl (eT rfl rfl (rP q)))) ?_)));cases z:decide (f=b)with
  |true=>
   rw[z]at k;exact ar (au rfl (eT rfl rfl (rP k)))
  |false=>
   rw[z]at k;exact k
 |ended h=>
  obtain⟨P,f,g,t,w,y,B,l,C,G⟩:=qR hs hb;have e:(s.hs.map bZ)[h]?=ae (bZ (f,g,t)):=by rw[Am,l];rfl
  have o:(ps.map fZ)[h]?=ae (fZ P):=by rw[Am,B];rfl
  have r:(P.map fF)[f]?=ae (fF (w,y)):=by rw[Am,C];rfl
  have E:Bs.see ps s (.ended h)=decide (g=y.length):=by
   show f9 ps s h=_;unfold f9;simp_all
  rw[E]at k;refine az (cZ rfl (by rfl) ?_);dsimp only[aD];refine az (cZ rfl (by rfl) ?_);dsimp only[aD];refine az (aT (λQ q=>hO rfl (by rfl) q) ?_);dsimp only[aD];refine az (ar (cS rfl (bK rfl (bb e ?_))));refine Al rfl ?_;dsimp only[bF,aG];refine az (cZ rfl (by rfl) ?_);dsimp only[aD];refine bo (ar (au rfl (aQ (ar (ar (ar (au rfl (bK rfl (bb o (au rfl (bb r (aB (ew ?_)))))))))))));dsimp only[a9];rw[Ab];exact rP k
theorem Tr:∀d ws n Q,dm (d+1) ws n Q->FE (dm d) (cL ["_law_programs","_law_stand_here","_law_sight_here","_law_told","_law_block","_law_place","_law_names"] ws) n {nx:=λ_ n=>Q (.d .none) n,rt:=Q}:=λt ws n Q h=>by
 obtain⟨j,s,g,rfl,f,i,a,k⟩:=h;cases t with
 |zero=>exact yd f i a k
 |succ t=>
  match g,a,k with
  |.inl b,a,k=>exact yd f i a k
  |.inr (.inl q),a,k=>
   refine az (cZ rfl (lM q.1 _ (by simp)) ?_);dsimp only[aD];refine az (cZ rfl (lM q.1 _ (by simp)) ?_);dsimp only[aD];refine az (bG (λQ c=>hO rfl (BY q.1) c) (az (aV (f6 (λQ c=>bK rfl c) ?_))));refine j4 _ _ q.2 [] af n (λu l n o c=>bg (au rfl (au rfl (au rfl ⟨j,s,u,rfl,f,i,a u l,c⟩)))) ?_;dsimp only[A0];refine bo (e8 (λQ c=>dQ rfl (by rw[AJ];omega)) ?_);have k:Q (.d (.bool (if q.1 then q.2.all (Sg.see j s t)else q.2.any _))) n:=k;cases e:q.1 with
   |true=>
    rw[e]at k;refine ar (aB (au rfl ⟨rfl,mQ _ _,?_⟩));show Q (.d (.bool (!bW _ (q.2.map λu=>.bool _)))) n;rw[mj,xG];exact k
   |false=>
    rw[e]at k;refine ar (aB (au rfl ⟨rfl,mQ _ _,?_⟩));show Q (.d (.bool (bW _ (q.2.map λu=>.bool _)))) n;rw[mj,uW];exact k
  |.inr (.inr u),a,k=>
   refine az (cZ rfl (by rfl) ?_);dsimp only[aD];exact az (ij rfl (by rfl) (bo (bg (au rfl (au rfl (bK rfl ⟨j,s,u,rfl,f,i,a,k⟩))))))
section
variable{δ:Sl}{n:Int}{K:DEnds}{a v:Ad}{r:List Ad}{x:Str}{hp:Nm}{hs:List Str}{W V:aH}
theorem lS{b:Bool}(e:δ[7]?=ae (↑(.bool b)))(kT:b=ah->K.nx δ n)(kF:b=ai->K.rt (.d .none) n):aI (cH (cT ↥7)) (aw (wC .none)) aD δ n K:=by
 refine cz (lA (λQ q=>aE (λQ q=>au e q) q) ?_);cases b with
 |true=>exact kT rfl
 |false=>exact kF rfl
def lH(hp:Nm)(x:Str)(v:Ad):Bool:=match look hp x with
 |some w=>fq w v
 |none=>ai
theorem CI(e5:δ[5]?=ae (↑(.tuple (a::.str x::r))))(e3:δ[3]?=ae (ae (.odk (b4 hp))))(e6:δ[6]?=ae (↑v))(hv:b7 v=ah)(hok:∀p∈hp,eG p)(k:K.nx (δ.set 7 (↑(.bool (lH hp x v)))) n):
  ax 7 (cO (w2 (w2 ↥5 (wC (.int 1)) av) (dF 3) (eB ai)) (w2 (w2 (dF 3) (w2 ↥5 (wC (.int 1)) av) fT) ↥6 aX)) δ n K:=by
 refine ar (bK e5 ?_);have c:∀n Q,Q (.dk (b4 hp)) n->dF 3 δ n Q:=λn Q q=>by unfold dF;simp_all
 refine c _ _ ?_;show gF _ _ _;rw[jk];unfold lH at k;cases q:look hp x with
 |none=>rw[q]at k;exact k
 |some w=>
  rw[q]at k;refine ar (ar (c _ _ (bK e5 ?_)));unfold fT;simp only[jk,q];refine au e6 ?_;unfold aX;simp only[lg (hok _ (j3 q)).2 hv];exact k
theorem Pj(s:Str)(e5:δ[5]?=ae (↑(.tuple (.str s::r))))(h1:cx "as" (.str s)=ai)(h2:cx "bind" (.str s)=ai)(hF:V δ n K):
  aI (d0 (cT (w2 (w2 ↥5 (wC (.int 0)) av) (wC (.str "as")) aX)) (cJ (cT (w2 (w2 ↥5 (wC (.int 0)) av) (wC (.str "bind")) aX)) (cT (lK 4 (w2 ↥5 (wC (.int 1)) av))))) W V δ n K:=by
 refine aT (λQ q=>f7 (λQ q=>dQ e5 ?_) (lW (λQ q=>dQ e5 ?_) q)) hF
 ·show Q _ n;simp_all
 ·show Q _ n;simp_all
theorem Tb(e5:δ[5]?=ae (↑(.tuple [.str "bind",.str x])))(e4:δ[4]?=ae (ae (.own (hs.map .str))))(hT:x∈hs->W δ n K)(hF:x∉hs->V δ n K):
  aI (d0 (cT (w2 (w2 ↥5 (wC (.int 0)) av) (wC (.str "as")) aX)) (cJ (cT (w2 (w2 ↥5 (wC (.int 0)) av) (wC (.str "bind")) aX)) (cT (lK 4 (w2 ↥5 (wC (.int 1)) av))))) W V δ n K:=by
 refine cz (f7 (λQ q=>dQ e5 ?_) (kj (λQ q=>dQ e5 ?_) ?_))
 ·show Q _ n;assumption
 ·show Q _ n;assumption
 ·unfold cT lK;refine bK e5 ?_;rw[e4];refine⟨rfl,oh hs,?_⟩;show if bW _ _=ah then _ else _
  rw[j2];exact BG hT hF
end
def K5:Option Nm->Ad
 |none=>.none
 |some h=>cV (bT h)
theorem P8{hp:Nm}{ys:List Str}(nd:(hp.map (·.1)).Nodup)(p:ys.Perm (hp.map (·.1)))(r:ys.Pairwise (λa b=>¬b.cps.toList < a.cps.toList)):bT hp=ys.map λx=>(x,(look hp x).getD .none):=by
 refine(yM nd ?_ ?_).symm
 ·have h:=p.map λx=>(x,(look hp x).getD PyData.none);have e:hp.map ((λx=>(x,(look hp x).getD PyData.none)) ∘ λp=>p.1)=hp:=by
   conv=>rhs;rw[<-List.map_id hp]
   refine Di λq c=>?_;show(q.1,(look hp q.1).getD .none)=q;rw[vn nd c];rfl
  simp_all
 ·unfold jh;rw[F1];exact r
theorem Rc:cm qU MY ["_law_pattern_here","_law_row","_law_names","_law_found","_law_bound","_law_field","_law_value_here","_law_good"]:=λws n Q h=>by
 obtain⟨fs,O,W,rfl,G,Z,F,k⟩:=h;refine az (xr rfl rfl (λne=>?_) λel=>?_)
 ·show Q _ n;unfold dD cb at k;simp_all
 ·rw[Ab]at el;dsimp only[aD];refine az (pC rfl F (az (ie ?_)));dsimp only[A0];refine az (EJ rfl rfl (by rw[Ab];omega) ?_);refine eD (λds δ m=>m=n/\∃(o:List Fd)(B:List Ad)(a:Nm)(A:List Str)(y z u:Option SV),ds=dU (o.map Fd.d) B/\o.length=B.length/\δ=[↑(dJ fs),↑(.tuple O),↑(cV W),ae (.odk (b4 a)),ae (.own (A.map .str)),y,z,u] /\
   (∀g∈o,g.ok)/\(∀d∈B,b7 d=ah)/\(a.map (·.1)).Nodup/\(∀p∈a,eG p)/\a.length+o.length<=48/\A.length+o.length<=16/\Q (.d (K5 (wk (o.zip B) a A))) n) ?_ ?_ _ _ _ ?_
  ·rintro δ m ⟨rfl,o,B,a,A,y,z,u,e,T,rfl,I,H,C,c,Y,l2,K⟩
   have:o=[]:=by
    cases o with
    |nil=>rfl
    |cons g o=>cases B with|nil=>cases T|cons v B=>cases e
   subst this;rw[List.length_nil]at Y;show ∃ps':Nm,b4 a=b4 ps'/\ps'.length < 64/\(∀p∈ps',p.1.length<=1000)/\∀ys:List Str,ys.Perm _->ys.Pairwise _->
    dg _ bB _ _ _ [] [af,ae _] m
   refine⟨a,rfl,by omega,λp hp'=>Ba (c p hp').1.1 ∎,λys p1 r1=>vR (λd=>∃x w,d=.str x/\look a x=ae w) (λd=>match d with|.str x=>.tuple [.str x,(look a x).getD .none]|d=>d) (λd n' Q' hP P=>?_) _ _ _ _ (λd X=>?_) ?_⟩
   ·obtain⟨x,w,rfl,lw⟩:=hP;have P:Q' (.d (.tuple [.str x,(look a x).getD .none])) n':=P;rw[lw]at P;show(match bS _ (.inr x)with|some d=>(2:Nat)<=1000/\Q' _ n'|none=>False);rw[jk,lw];exact⟨by decide,P⟩
   ·obtain⟨x,hx,rfl⟩:=A5.mp X;obtain⟨p,hp',rfl⟩:=A5.mp (p1.mem_iff.mp hx);exact⟨p.1,p.2,rfl,vn C hp'⟩
   ·rw[D5];have K:Q (.d (cV _)) m:=K;rw[P8 C p1 r1]at K;have e:(ys.map Dr).map (λd=>match d with|.str x=>PyData.tuple [.str x,(look a x).getD .none]|d=>d)=(ys.map λx=>(x,(look a x).getD .none)).map iL:=by rw[B4,B4];rfl
    rw[e];exact K
  ·rintro d r δ m N ⟨rfl,o,B,a,A,y,z,u,e,T,rfl,I,H,C,c,Y,l2,K⟩ hN
   cases o with
   |nil=>cases e
   |cons g o=>
    cases B with
    |nil=>cases T
    |cons v B=>
     have e1:=by have:=congrArg (λl=>l.head?) e;simpa[dU]using this
     have e2:r=dU (o.map Fd.d) B:=by have:=congrArg List.tail e;assumption
     subst e1 e2;rw[Ax]at Y l2;rw[Ax,Ax]at T;have gk:=I g Ap;have L:=H v Ap;rw[Gw]at K;have M:(wk _ a A=af)->Q _ m:=λw=>by rw[w]at K;trivial
     have J:∀hp' D y z u,wk _ a A=wk _ hp' D->(hp'.map _).Nodup->(∀p∈hp',eG p)->hp'.length<=a.length+1->D.length<=A.length+1->
       N [ae _,ae _,ae _,ae _,ae _,y,z,u] m:=λhp' D y z u hw a1 a2 a3 a4=>
      hN _ _ ⟨rfl,o,B,hp',D,y,z,u,rfl,by omega,rfl,λg hg=>I g (Ak _ hg),λd X=>H d (Ak _ X),a1,a2,by omega,by omega,by rw[<-hw];omega⟩
     refine⟨rfl,az (bC (λQ q=>aB q) ?_)⟩;dsimp only[A0];cases g with
     |any=>
      refine az (cZ rfl Ic (aT (λQ q=>hO rfl (by rfl) q) (Pj "any" rfl (by rfl) (by rfl) (cZ rfl (by rfl) ?_))));dsimp only[aD];exact lS rfl (λ_=>J a A _ _ _ (by rw[wk]) C c ⋯ ⋯) (λz=>by cases z)
     |is w=>
      refine az (ij rfl O1 (bC (x:=.bool (fq w v)) (λQ q=>ar (bK rfl (au rfl ?_))) ?_))
      ·unfold aX;simp only[lg (gk) L];exact q
      dsimp only[A0];exact lS rfl (λz=>J a A _ _ _ (by rw[wk,a' z]) C c ⋯ ⋯) (λz=>M (by rw[wk,a_ (by rw[z];simp)]))
     |word=>
      refine az (cZ rfl KP (bG (λQ q=>hO rfl (by rfl) q) (bC (x:=.bool (gR v)) (λQ q=>ar ?_) ?_)))
      ·unfold bU;refine au rfl (dQ rfl ?_);cases v with
       |str s=>rw[qG];exact q
       |int i=>rw[qG];exact q
       |_=>cases L
      dsimp only[A0];exact lS rfl (λz=>J a A _ _ _ (by rw[wk,a' z]) C c ⋯ ⋯) (λz=>M (by rw[wk,a_ (by rw[z];simp)]))
     |number=>
      refine az (cZ rfl Ks (bG (λQ q=>hO rfl (by rfl) q) (bC (x:=.bool (gQ v)) (λQ q=>ar ?_) ?_)))
      ·unfold bU;refine au rfl (dQ rfl ?_);cases v with
       |str s=>rw[qG];exact q
       |int i=>rw[qG];exact q
       |_=>cases L
      dsimp only[A0];exact lS rfl (λz=>J a A _ _ _ (by rw[wk,a' z]) C c ⋯ ⋯) (λz=>M (by rw[wk,a_ (by rw[z];simp)]))
     |as x=>
      refine az (cZ rfl y6 (aT (λQ q=>hO rfl (by rfl) q) (bG (λQ q=>nE (λQ q=>dQ rfl ?_) q) (CI rfl rfl rfl L c ?_))))
      ·show Q _ m;assumption
      dsimp only[A0];refine lS rfl (λz=>J a A _ _ _ ?_ C c ⋯ ⋯) (λz=>M ?_)
      ·unfold lH at z;rw[wk];cases q:look a x with
       |none=>rw[q]at z;cases z
       |some w=>rw[q]at z;simp only[z,if_true]
      ·unfold lH at z;rw[wk];cases q:look a x with
       |none=>rfl
       |some w=>rw[q]at z;simp only[z,Gy,if_false]
     |bind x=>
      refine az (cZ rfl N5 (aT (λQ q=>hO rfl (by rfl) q) (Tb rfl rfl (λhx=>CI rfl rfl rfl L c ?_) λhx=>ij rfl y2 ?_)))
      ·dsimp only[A0];refine lS rfl (λz=>J a A _ _ _ ?_ C c ⋯ ⋯) (λz=>M ?_)
       ·unfold lH at z;rw[wk,a' hx];cases q:look a x with
        |none=>rw[q]at z;cases z
        |some w=>rw[q]at z;simp only[z,if_true]
       ·unfold lH at z;rw[wk,a' hx];cases q:look a x with
        |none=>rfl
        |some w=>rw[q]at z;simp only[z,Gy,if_false]
      ·refine az (k8 rfl (λQ q=>bK rfl q) (by rw[Ab];omega) ?_);dsimp only[A0];unfold ll;refine au rfl (bK rfl ⟨by unfold b4;rw[Ab];omega,?_⟩);rw[qm];have:=J _ _ (↑(.tuple [.str "bind",.str x])) (↑v) (↑(.bool ah)) (by rw[wk,a_ hx]) (vh C) (my c gk L) (qF _ _ _) (by simp);rw[Bc]at this;assumption
  ·refine⟨rfl,fs,O,W,[],_,_,_,rfl,el,rfl,G.2.2,Z.2,F.2.1,F.2.2,by have:=G.2.1;have:=F.1;omega,by have:=G.2.1;simpa using Ba this ∎,?_⟩;unfold dD cb at k;rw[b_ el]at k;unfold eS at k;cases e:wk _ W []with
   |none=>rw[e]at k;exact k
   |some x=>rw[e]at k;exact k
theorem MT{δ:Sl}{n:Int}{Q:DQ}{w1 w2:DT}{a b:Ad}(h1:∀Q:DQ,Q (.d a) n->w1 δ n Q)(h2:∀Q:DQ,Q (.d b) n->w2 δ n Q)(k:Q (.d (.tuple [a,b])) n):ay (ao w1 (ao w2 ak)) δ n Q:=h1 _ (h2 _ (Al (show 2<=1000 by decide) k))
theorem tw:∀t,20<=gu t
 |0=>by decide
 |t+1=>by have:=tw t;show 20<=4*gu t;omega
def Fe.sg:Fe->Fd
 |.any=>.any
 |.word=>.word
 |.num=>.number
 |.isv d=>.is d
 |.bind k=>.bind k
 |.as k=>.bind k
 |.nx _=>.any
theorem Ro{f:Fe}(h:f.ok):f.sg.ok:=by cases f<;>first|exact h|exact trivial
section
variable{δ:Sl}{n:Int}{Q:DQ}{i:Nat}
theorem rR{a b:Int}(e:δ[i]?=ae (↑(.int a))):∀Q:Bool->Int->Prop,Q (decide (b < a)) n->cT (w2 (aj i) (wC (.int b)) iz) δ n Q:=λQ q=>ar (au e (aB q))
theorem KU{a b:Int}(e:δ[i]?=ae (↑(.int a))):∀Q:Bool->Int->Prop,Q (decide (a < b)) n->cT (w2 (aj i) (wC (.int b)) fw) δ n Q:=λQ q=>ar (au e (aB q))
theorem DU{a b:Int}(e:δ[i]?=ae (↑(.int a))):∀Q:Bool->Int->Prop,Q (decide (a=b)) n->cT (w2 (aj i) (wC (.int b)) aX) δ n Q:=λQ q=>ar (au e (aB q))
theorem uG{A B:b3}{a b:Bool}{W V:aH}{K:DEnds}(ha:∀Q:Bool->Int->Prop,Q a n->A δ n Q)(hb:∀Q:Bool->Int->Prop,Q b n->B δ n Q)(hT:a=ah->b=ah->W δ n K)(hF:(a&&b)=ai->V δ n K):aI (cJ A B) W V δ n K:=by
 cases a with
 |false=>exact aT (λQ q=>lW ha q) (hF rfl)
 |true=>
  cases b with
  |false=>exact aT (λQ q=>kj ha (hb _ q)) (hF rfl)
  |true=>exact bG (λQ q=>kj ha (hb _ q)) (hT rfl rfl)
theorem kW{a b:Int}(k:Q (.d (.int (a-b))) n):b9 (λi j=>.int (i-j)) (.d (.int a)) (.d (.int b)) n Q:=k
end
theorem JE{f:Fe}(h:f.pt=ah):∀(n:Int)(Q':DQ),Q' (.d f.sg.d) n->dz (cT (w2 (w2 ↥0 ⇑0 av) (wC (.str "as")) aX)) (ay (ao (wC (.str "bind")) (ao (w2 ↥0 ⇑1 av) ak))) ↥0 [↑f.d] n Q':=λn Q' q=>by
 have a:∀s r,f.d=.tuple (.str s::r)->cx "as" (.str s)=ai->f.sg.d=f.d->dz (cT (w2 (w2 ↥0 _ av) (wC (.str "as")) aX)) (ay (ao (wC (.str "bind")) (ao (w2 ↥0 ⇑1 av) ak))) ↥0 [↑f.d] n Q':=λs r e m l=>by
  refine e8 (b:=ai) (λQ q=>dQ (by rw[e];rfl) (by simp_all)) ?_;rw[a_ A3];refine au rfl ?_;simp_all
 cases f with
 |any=>exact a "any" _ rfl (by rfl) rfl
 |word=>exact a "word" _ rfl (by rfl) rfl
 |num=>exact a "number" _ rfl (by rfl) rfl
 |isv d=>exact a "is" _ rfl (by rfl) rfl
 |bind k=>exact a "bind" _ rfl (by rfl) rfl
 |nx k=>cases h
 |as k=>
  exact e8 (b:=ah) (λQ q=>dQ rfl (by assumption)) (MT (λQ q=>aB q) (λQ q=>bK rfl q) q)
theorem Na:∀d ws n Q,kh d ws n Q->ws.length=3:=λd ws n Q h=>by
 cases d with
 |zero=>exact h.elim
 |succ t=>obtain⟨_,rfl,_⟩:=h;rfl
theorem Mz:∀d ws n Q,kh (d+1) ws n Q->CS (kh d) (cL ["_law_tape_here","_law_programs","_law_deep","_law_way","_law_some","_law_hand","_law_block","_law_fields"] ws) n {nx:=λ_ n=>Q (.d .none) n,rt:=Q}:=λt ws n Q h=>by
 obtain⟨E,rfl,⟨hp5,L⟩,hn,k⟩:=h;have g20:=tw t;have G:=λb s B x=>by
  have:=k _ s (yJ E t b B) ⋯;rw[Qv]at this;omega
 show CS _ [ae _,ae _,ae _,af,af,af,af,af] n _;refine az (qd rfl ⋯ ∎ ∎ λw w0 w1=>?_);dsimp only[A0];have v:∀u,t=u+1->∀S I,S+gu u < 2 ^ 39->(∀g s,Sg.ok E u g->s<=S+gu u->I (.d (Sg.d u g)) s)->kh t [.tp,.d _,.d (.int (t-1))] S I:=λu e S I W q=>by
  subst e;exact⟨E,by rw[show((u+1:Nat):Int)-1=u by omega],⟨hp5,L⟩,W,q⟩
 refine az (uG (rR rfl) (DU rfl) (λha B=>?_) λhw0=>?_)
 ·have ha:=d_ ha;cases t with
  |zero=>exact f_ ha ∎
  |succ u=>
   have e4:gu (u+1)=4*gu u:=rfl;exact bo (cv (aB (bg (au rfl (au rfl (ar (au rfl (aB (kW (v u rfl _ _ ⋯ λg s hg x=>Al (show 2<=1000 by decide) (k (.inr (.inr g)) s hg ⋯)))))))))))
 dsimp only[aD];refine az (uG (rR rfl) (KU rfl) (λha B=>?_) λ_=>?_)
 ·have ha:=d_ ha;have B:=d_ B;cases t with
  |zero=>exact f_ ha ∎
  |succ u=>
   have g20':=tw u;have e4:gu (u+1)=4*gu u:=rfl;refine az (aV (ar (aV (Al ∎ ?_))));refine gG rfl ⋯ ∎ ∎ λq q0 T=>jS q0 T λd M=>?_;have R:∃j:Nat,j<=3/\d=.int j:=by
    simp only[Au,A4,g_]at M;rcases M with rfl|rfl|rfl|rfl
    ·exact⟨2,by simp⟩
    ·exact⟨0,by simp⟩
    ·exact⟨1,by simp⟩
    ·exact⟨3,by simp⟩
   obtain⟨j,R,rfl⟩:=R;refine Al ⟨by omega,by omega⟩ ?_;rw[Cc];obtain⟨c,hc⟩:∃c:Nat,gu u=c:=⟨(gu u).toNat,by omega⟩;have hm:c*j<=3*(c:Int):=by
    rw[Int.mul_comm];exact Int.mul_le_mul_of_nonneg_right ⋯ ⋯
   refine pj (λd=>∃g,Sg.ok E u g/\d=Sg.d u g) c (λd n I hn q=>bg (au rfl (au rfl (ar (au rfl (aB (kW (v u rfl n _ ⋯ λg s hg x=>q _ s ⟨g,hg,rfl⟩ ⋯)))))))) _ [] af _ (by rw[eJ];omega) λds s hl Z x=>?_;rw[eJ]at hl x;obtain⟨gs,rfl,O⟩:=vw Z;dsimp only[A0];refine bo (cv (ar (aV (Al ∎ (ar (au rfl (aB (kW ?_))))))));refine jS ?_ ?_ λf H=>?_
   ·have:w≠0:=λz=>by rw[b_ ha,b_ z]at hw0;cases hw0
    omega
   ·show w-1 < 2;omega
   refine aQ (au rfl ?_);simp only[Au,A4,g_]at H;rcases H with rfl|rfl
   ·exact Al (show 2<=1000 by decide) (k (.inr (.inl (ah,gs))) s O ⋯)
   ·exact Al (show 2<=1000 by decide) (k (.inr (.inl (ai,gs))) s O ⋯)
 dsimp only[aD];refine az (uG (λQ q=>aE (λQ q=>ar (oK rfl (aB q))) q) (rR rfl) (λha B=>?_) λ_=>?_)
 ·have ha:=d_ ha;rw[Ab]at ha;refine az (gD rfl (λQ q=>aQ (au rfl q)) ⋯ (by rw[Ab];omega) (by rw[Ab];omega) λr r0 r1=>?_);rw[Ab]at r1;obtain⟨h,hh⟩:∃b:Nat,r=b:=⟨r.toNat,by omega⟩;subst hh;have F:h < E.length:=by omega
  dsimp only[A0];refine az (cz (DU rfl _ ?_));by_cases h6:w=6
  ·rw[a' (b_ h6)];exact bo (cv (aB (au rfl (Al (show 2<=1000 by decide) (G (.ended h) _ F ⋯)))))
  rw[a_ (by simpa using h6)];dsimp only[aD];have hP:=Ah F;generalize E[h]=P at hP;have N:(E.map fZ)[h]?=ae (fZ P):=by rw[Am,hP];rfl
  obtain⟨g1,g2,g3⟩:=L P (Ay hP);refine az (gD rfl (λQ q=>aQ (ar (au rfl (au rfl (bb N q))))) ⋯ (by rw[Ab];omega) (by rw[Ab];omega) λr r0 r1=>?_);rw[Ab]at r1;obtain⟨b,B⟩:∃b:Nat,r=b:=⟨r.toNat,by omega⟩;subst B;have X:b < P.length:=by omega
  obtain⟨U,C⟩:∃U:Bl,P[b]?=ae U:=⟨_,Ah X⟩;obtain⟨wn,as⟩:=U;have hi':(P.map fF)[b]?=ae (fF (wn,as)):=by rw[Am,C];rfl
  obtain⟨ob,_⟩:=g3 _ (Ay C);have has:as.length<=8:=ob.2.2.1;dsimp only[A0];refine bo (DY (aB (au rfl (au rfl (gD (m:=((as.map Ac.d).length:Int)+1) rfl (λQ q=>ar (aQ (ar (ar (ar (au rfl (au rfl (bb N (au rfl (bb hi' (aB (ew ?_))))))))))))  ⋯ ⋯ (by rw[Ab];omega) λr r0' r1'=>?_)))))
  ·exact ez q
  rw[Ab]at r1';obtain⟨p,hp⟩:∃p:Nat,r=p:=⟨r.toNat,by omega⟩;subst hp;exact Al (show 4<=1000 by decide) (G (.at h b p) _ ⟨F,by omega⟩ ⋯)
 dsimp only[aD];refine az (aV (ar (bO (au rfl (jt (Cb [] ⟨_,rfl,rfl,by decide,λk hk=>by simp at hk,by omega,λfs s V J Y _ x=>?_⟩))))));refine aB (cQ (j4 Fe.d _ fs [] af s (λf H n I q=>JE (Y f H) n I q) ?_));rw[D5];dsimp only[A0];refine bo (ig (aB (aQ (au rfl (ar (aV (Al ∎ ?_)))))));refine gG rfl ⋯ ∎ ∎ λq q0 T=>jS q0 T λd M=>?_;have R:∃j:Nat,d=.int j:=by
  simp only[Au,A4,g_]at M;rcases M with rfl|rfl|rfl|rfl|rfl
  ·exact⟨1,rfl⟩
  ·exact⟨2,rfl⟩
  ·exact⟨1,rfl⟩
  ·exact⟨3,rfl⟩
  ·exact⟨9,rfl⟩
 obtain⟨j,rfl⟩:=R;have:=G (.notes (fs.map Fe.sg) j) (s+1) ⟨by rw[Ab];exact V,by rw[Ab];exact J.1,λf H=>by obtain⟨e,he,rfl⟩:=A5.mp H;exact Ro (J.2 e he)⟩ ⋯;have e:dJ (fs.map Fe.sg)=.tuple (fs.map λf=>f.sg.d):=by unfold dJ;simp
 refine Al (show 3<=1000 by decide) ?_;have t2:Bs.d (.notes (fs.map Fe.sg) j)=.tuple [.str "notes",.tuple (fs.map λf=>f.sg.d),.int j]:=by show PyData.tuple [.str "notes",dJ _,.int j]=_;rw[e]
 rw[t2]at this;omega
theorem PV:cm u9 IB ["_law_template_here","_law_names","_law_row","_law_field","_law_value_here"]:=λws n Q h=>by
 obtain⟨C,p,rfl,T,R,B,k⟩:=h;refine az (ie ?_);dsimp only[A0];refine az ?_;unfold aP c7;refine au rfl (eD (λds δ m=>m=n/\∃(l o:List Fe)(x y:Option SV),ds=o.map Fe.d/\l++o=C/\δ=[ae _,ae _,ae (.own (l.map (fu p))),x,y]) (λδ m I=>?_) (λd r δ m N I J=>?_) _ _ _ ⟨rfl,[],C,_,_,rfl,rfl,rfl⟩)
 ·obtain⟨rfl,l,o,x,y,D,u,rfl⟩:=I;cases Ed.mp D.symm;rw[Bh]at u;subst u;assumption
 ·obtain⟨rfl,l,o,x,y,D,u,rfl⟩:=I;obtain⟨f,o,rfl,rfl,rfl⟩:=Cu.mp D.symm;have P:=by
   have:=congrArg Dn u;rw[An]at this;omega
  obtain⟨V,L,F⟩:=(R f (by rw[<-u];simp));have c:∀K x v,v=fu p f->(∀δ n,N δ n->K.nx δ n)->aY 2 ↥4 [ae _,ae _,ae (.own (l.map _)),x,↑v] m K:=λK x v e O=>
   k8 rfl (λQ q=>au rfl q) (by rw[Ab];omega) (by subst e;exact O _ _ (J _ _ ⟨rfl,l++[f],o,x,_,rfl,by rw[Bk];exact u,by rw[Bc];rfl⟩))
  have b:∀K s x v,look p x=ae v->cx "is" (.str s)=ai->(aq _ _) [ae _,ae _,ae _,ae _,ae _] m K->
    aq (aI (cT (w2 (w2 ↥3 _ av) (wC (.str "is")) ec)) (ax 4 (w2 (ki ↥1) (w2 ↥3 _ av) fT)) aD) (aq (aI (cJ (cT (w2 (w2 ↥3 ⇑0 av) (wC (.str "next")) aX)) (cH (cT (bU "str" ↥4)))) (ax 4 (w2 (w2 ↥4 ⇑1 (b9 λi j=>.int (i+j))) ⇑100 (gI (λ_ j=>0 < j) λi j=>.int (i % j)))) aD) (aY 2 ↥4)) [↑(cG C),ae _,ae (.own (l.map (fu p))),↑(.tuple [.str s,.str x]),↑(.str x)] m K:=λK s x v e Y X=>by
   refine az (bG (λQ q=>aE (λQ q=>ar (cS rfl (aB (ne_str (by simp_all))))) q) (bC (x:=v) (λQ q=>ar (BS rfl B (bK rfl ?_))) ?_))
   ·unfold fT;simp only[jk,e];exact q
   ·dsimp only[A0];omega
  cases f with
  |isv d=>
   refine az (bC (λQ q=>bK rfl q) ?_);dsimp only[A0];refine az (aT (λQ q=>aE (λQ q=>ar (cS rfl (aB (ne_str (by assumption))))) q) ?_);dsimp only[aD];exact az (aT (λQ q=>lW (λQ q=>dQ (a:=.str "is") rfl (q)) q) (c _ _ _ rfl λ_ _ z=>z))
  |as x=>
   obtain⟨v,e,A⟩:=F x rfl;refine az (bC (λQ q=>bK rfl q) (b _ "as" x v e y6 ?_));exact az (aT (λQ q=>lW (λQ q=>dQ rfl (q)) q) (c _ _ _ (by show v=hG p x;unfold hG;simp_all) λ_ _ z=>z))
  |nx x=>
   obtain⟨v,e,A⟩:=F x rfl;have G:fu p (.nx x)=jy v:=by show jy _=_;unfold hG;simp_all
   refine az (bC (λQ q=>bK rfl q) (b _ "next" x v e (by rfl) ?_));cases v with
   |str t=>
    exact az (aT (λQ q=>kj (λQ q=>dQ rfl (q)) (lA (λQ q=>aE (k:=ah) (λQ q=>au rfl (by assumption)) q) q)) (c _ _ _ (by rw[G];rfl) λ_ _ z=>z))
   |int i=>
    refine az (bG (λQ q=>kj (λQ q=>dQ rfl (q)) (lA (λQ q=>aE (k:=ai) (λQ q=>au rfl (by assumption)) q) q)) (bC (λQ q=>ar (ar (au rfl (aB (ez (aB ⟨show(0:Int) < 100 by decide,q⟩)))))) ?_));exact c _ _ _ (by rw[G,Nx A]) λ_ _ z=>z
   |_=>cases A
  |_=>cases L
theorem IQ:cm tY P6 ["_law_programs","_law_hands","_law_hand","_law_block","_law_place","_law_names","_law_acts"]:=λws n Q h=>by
 obtain⟨c,g,h,rfl,a,b,k⟩:=h;obtain⟨P,i,d,f,w,e,H⟩:=gH a b;rw[H.act]at k;refine az (ar (au rfl (au rfl (bb H.hD (Al rfl ?_)))));dsimp only[bF,aG];refine az (bC (λQ q=>ar (ar (ar (au rfl (au rfl (bb H.pD (au rfl (bb H.bD (aB (ew q)))))))))) ?_);dsimp only[A0];exact bo (yc rfl rfl k)
def CU(fs:List Fd)(nm:Nm)(ns:List Nt):Option Nat->Ad
 |none=>.none
 |some i=>.tuple [.int (i:Nat),cV (bT (eS fs (cF ns i) nm))]
theorem TB(fs:List Fd)(nm:Nm)(ns:List Nt):gv fs nm ns=CU fs nm ns (a7 fs nm ns):=by rfl
theorem Ib:cm mW GF ["_law_act_here","_law_notes_here","_law_names","_law_place","_law_found"]:=λws n Q h=>by
 obtain⟨a,l,g,j,rfl,J,F,p,A,k⟩:=h;obtain⟨H,s,r,e,L,_⟩:=pK F J;rw[e]at *;refine az (aQ (au rfl ?_));refine Al ⟨by omega,by rw[Ab];have:=p.1;omega⟩ ?_;rw[Ab];refine eD (λds δ m=>m=n/\∃(b c:List Nt)(w y:Option SV),ds=cf (b.length:Nat) c.length/\b++c=g/\δ=[ae _,ae _,ae _,w,y] /\
  Q (.d (CU l j g ((a7 l j c).map λi=>i+b.length))) n) (λδ m I=>?_) (λd M δ m N I G=>?_) _ _ _ ⟨rfl,[],g,_,_,rfl,rfl,rfl,?_⟩
 ·obtain⟨rfl,b,c,w,y,o,z,rfl,f⟩:=I;have:c=[]:=by
   cases c with
   |nil=>rfl
   |cons q c=>rw[Ax,qE]at o;cases o
  subst this;exact(f)
 ·obtain⟨rfl,b,c,w,y,o,z,rfl,f⟩:=I;cases c with
  |nil=>cases o
  |cons q c=>
   rw[Ax,qE]at o;obtain⟨rfl,rfl⟩:=F4 o;have B:g[b.length]?=ae q:=by rw[<-z];simp
   have v:(g.map eV)[b.length]?=ae (.tuple [.tuple q.1,q.2]):=by rw[Am,B];rfl
   refine az (bC (x:=dD l q.1 j) (λQ E=>?_) ?_)
   ·refine bg (bK rfl (ar (ar (au rfl (au rfl (bb v (aB (cQ (au rfl ?_)))))))));exact⟨l,q.1,j,rfl,H,(p.2 q (Ay B)).1,A,E⟩
   dsimp only[A0];cases u:cb l q.1 j with
   |true=>
    rw[rf,a' u,Option.map_some,Nat.zero_add]at f;have f:Q (.d (.tuple [.int _,cV _])) m:=f;rw[show cF g b.length=q.1 by unfold cF;simp_all]at f;rw[BK u];exact bG (λQ q=>aE (λQ q=>ar (au rfl (aB q))) q) (bo (cv (au rfl (au rfl (Al (show 2<=1000 by decide) f)))))
   |false=>
    rw[show dD l q.1 j=.none by unfold dD;rw[a_ (by rw[u];simp)]];refine aT (λQ q=>aE (λQ q=>ar (au rfl (aB q))) q) (G _ _ ⟨rfl,b++[q],c,_,_,?_,by rw[Bk];exact z,rfl,?_⟩)
    ·rw[An];rfl
    ·rw[rf,a_ (by rw[u];simp),Option.map_map]at f;have:((λi=>i+b.length) ∘ λx=>x+1)=λi=>i+(b++[q]).length:=funext λx=>by
      show x+1+b.length=_;rw[An,A1];omega
     rw[this]at f;omega
 ·rw[show((a7 l j g).map λi=>i+([]:List Nt).length)=a7 l j g by simp];exact k
theorem Ts{ps:Pg}{hs:List Hn}{ns:List Nt}{m:Nat}(n_:okHs ps hs)(hh:m < ps.length):(bI ps hs ns m).isSome=ck ps hs ns m:=by
 cases h:ck ps hs ns m with
 |true=>obtain⟨r,e⟩:=Te n_ hh h;simp_all
 |false=>
  obtain⟨P,B,x,k,w,D,H⟩:=gH n_ hh;unfold bI;rw[a_ ⋯];cases l:bA ps hs m with
  |none=>
   unfold dR;rw[H.prog,H.hand,l];rfl
  |some a=>
  rw[qj l,Bool.or_eq_false_iff]at h;rw[lT H l];have s:∀j:List Fe,a.pf=ae _->bE j (B,x,k) ns=af:=λgs n=>by
   refine iA (?_);have c:=h.2;unfold dO at c;rw[l,H.nmq]at c;have c:(a.pf.bind λfs=>a7 fs k ns).isSome=ai:=c;rw[n]at c;have c:(a7 _ k ns).isSome=ai:=c;cases q:a7 _ k ns with
   |none=>rfl
   |some i=>rw[q]at c;cases c
  cases a with
  |take j=>
   show(((bE j _ ns).map λq=>(q.2,cD ns q.1)).map λr=>(a8 hs m r.1,r.2)).isSome=ai;rw[s j rfl];rfl
  |read j=>
   show(((bE j _ ns).map λq=>(q.2,ns)).map λr=>(a8 hs m r.1,r.2)).isSome=ai;rw[s j rfl];rfl
  |lay fs y=>cases h.1
  |go b=>cases h.1
  |same f g b=>cases h.1
  |look j b=>cases h.1
theorem NT{ps:Pg}{hs:List Hn}{ns:List Nt}(n_:okHs ps hs):i8 ps hs ns=(A8 ps.length).filter (ck ps hs ns)++[ps.length]:=by
 unfold i8;rw[List.range_succ,List.filter_append]
 congr 1
 ·refine List.filter_congr λi b=>?_;rw[Ts n_ (Bx.mp b)]
 ·have:bI ps hs ns ps.length=ae (hs,dH ns):=by unfold bI;rw[a' rfl]
  rw[Eh,this];rfl
theorem FQ(fs:List Fd)(nm:Nm)(ns:List Nt):fR (gv fs nm ns)=!(a7 fs nm ns).isSome:=by
 unfold gv;cases a7 fs nm ns<;>rfl
theorem Mn:cm de HC ["_law_programs","_law_stand_here","_law_found","_law_hand","_law_act_here","_law_names"]:=λws n Q h=>by
 obtain⟨c,g,f,rfl,⟨p,t,F⟩,k⟩:=h;rw[NT t,Bc]at k;refine az (ie ?_);dsimp only[A0];refine az (aQ (au rfl ?_));refine Al ⟨by omega,by rw[Ab];have:=p.1;omega⟩ ?_;rw[Ab];refine eD (λds δ m=>m=n/\∃(i:Nat)(x3 j l:Option SV),ds=cf i (c.length-i)/\i<=c.length/\δ=[ae _,ae _,ae (.own (((A8 i).filter (ck c g f)).map λi=>.int (i:Nat))),x3,j,l]) (λδ m I=>?_) (λd r' δ m N I V=>?_) _ _ _ ⟨rfl,0,_,_,_,rfl,Az _,rfl⟩
 ·obtain⟨rfl,i,x3,j,l,B,U,rfl⟩:=I;have T:i=c.length:=by
   by_cases z:i=c.length
   ·exact z
   ·rw[show c.length-i=(c.length-i-1)+1 by omega,qE]at B;trivial
  subst T;dsimp only;refine ik rfl (bo (ar (au rfl (aV ?_))));refine aQ (au rfl ?_);show 1<=1000/\_;refine Al ∎ ⟨?_,?_⟩
  ·rw[Ab];have E:=F9 (ck c g f) (A8 c.length);rw[Dt]at E;have:=p.1;refine small ?_;show _+1<=_;omega
  ·rw[Ab];exact k
 ·obtain⟨rfl,i,x3,j,l,B,U,rfl⟩:=I;have u:i < c.length:=by
   by_cases z:i < c.length
   ·exact z
   ·rw[show c.length-i=0 by omega]at B;trivial
  rw[show c.length-i=(c.length-i-1)+1 by omega,qE]at B;obtain⟨rfl,rfl⟩:=F4 B;have L:∀x3 j l o,o=((A8 _).filter _).map _->N [ae _,ae _,ae _,x3,j,l] m:=λx3 j l o e=>
   V _ _ ⟨rfl,i+1,x3,j,l,by rfl,u,by rw[e]⟩
  have Y:(A8 (i+1)).filter (ck c g f)=(A8 i).filter (ck c g f)++if ck c g f i=ah then[i]else[]:=by
   rw[List.range_succ,List.filter_append,Eh];rfl
  obtain⟨P,xb,xp,G,w,as,H⟩:=gH t u;refine az (bC (λQ q=>bg (au rfl (ar (au rfl (aB (cQ (au rfl ⟨c,g,i,rfl,t,u,q⟩))))))) ?_);dsimp only[A0];cases C:bA c g i with
  |none=>
   refine aT (λQ q=>aE (λQ q=>ar (au rfl (aB q))) q) (L _ _ _ _ ?_);rw[Y,a_ (by unfold ck;rw[C];simp),Bh]
  |some a=>
   have O:=H.ok p C;refine bG (λQ q=>aE (λQ q=>ar (au rfl (aB (by show Q (.d (.bool (!fR a.d))) m;rw[FL];exact q)))) q) (az (bC (λQ q=>ar (ar (ar (au rfl (aB (cQ (au rfl (bb H.hD (aB (fL q)))))))))) ?_));dsimp only[A0];obtain⟨s,r,e,D⟩:=Il O;have R:(((A8 i).filter (ck c g f)).map λi=>Fp (i:Nat)).length < 1000000:=by
    rw[Ab];have E:=F9 (ck c g f) (A8 i);rw[Dt]at E;have:=p.1;omega
   have J:ck c g f i=ah->∀K j l,(∀δ n,N δ n->K.nx δ n)->aY 2 ↥3 [ae _,ae _,ae _,↑(.int i),j,l] m K:=λhc K j l W=>
    k8 rfl (λQ q=>au rfl q) R (W _ _ (L _ _ _ _ (by simp_all)))
   cases x:a.wt with
   |false=>
    rw[x]at D;exact bG (λQ q=>nE (λQ q=>aE (λQ q=>CH (by show ae (ae (SV.w (.d a.d)))=_;rw[e]) D q) q) q) (J (by rw[qj C,x];rfl) _ _ _ λ_ _ z=>z)
   |true=>
    rw[x]at D;obtain⟨fs,y⟩:∃fs,a.pf=ae fs:=by cases a<;>first|exact⟨_,rfl⟩|cases x
    have X:ck c g f i=(a7 fs G f).isSome:=by
     rw[qj C,x];unfold dO;rw[C,H.nmq];show(ai || (a.pf.bind λfs=>a7 fs G f).isSome)=_;rw[y];rfl
    refine cz (f7 (λQ q=>aE (λQ q=>CH (by show ae (ae (SV.w (.d a.d)))=_;rw[e]) D q) q) (aE (k:=ck c g f i) (λQ q=>ar (bg (au rfl (ar (au rfl (aB (ew (au rfl ⟨a,fs,f,G,rfl,O,y,F,H.nms,aB ?_⟩)))))))) ?_))
    ·show Q _ m;rw[FQ,Bool.not_not,<-X];exact q
    ·cases S:ck c g f i with
     |true=>
      simp_all
     |false=>
      exact L _ _ _ _ (by simp_all)
theorem BU{Q:List Ad->Int->Prop}:∀(ns:List Nt)(i':List Ad)(x y:Option SV)(n:Int),(∀q∈ns,gZ q.2)->Q (i'++(dH ns).map eV) n->
  dg (d4 2 (bF (aG 0) (bF (aG 1) di))) (cT (w2 ↥1 ⇑1 ec)) (ay (ao ↥0 (ao (dz (cT (w2 ↥1 (wC .none) (bc ai))) ↥1 (w2 ↥1 ⇑1 (b9 λi j=>.int (i-j)))) ak))) Q (ns.map eV) i' [x,y] n
 |[],i',x,y,n,_,q=>by
  have:dH []=[]:=rfl;rw[this,E9,Bh]at q;exact q
 | (f,a)::r,i',x,y,n,h,q=>by
  have l:=h _ Ap;have g:=λi' x y n q=>BU (Q:=Q) r i' x y n (λq o=>h q (Ak _ o)) q;refine(⟨rfl,?_⟩);dsimp only[bF,aG,A0];refine aE (λQ q=>ar (au rfl (aB (zi l q)))) ?_;show if _=ah then _ else _
  have p:dH ((f,a)::r)=(if (!gj a)=ah then[(f,iR a)]else[])++dH r:=by
   unfold dH;rw[Eh];dsimp only
   split<;>rfl
  rw[p]at q;cases m:gj a with
  |true=>
   simp_all
  |false=>
   rw[m,Bc,<-Bk]at q;rw[a' ∎];rcases l with rfl|⟨i,rfl,_⟩
   ·exact cv (au rfl (e8 (λQ q=>aE (k:=ah) (λQ q=>ar (au rfl (aB q))) q) (by rw[a' rfl];exact au rfl (Al (show 2<=1000 by decide) (g _ _ _ _ q)))))
   ·exact cv (au rfl (e8 (λQ q=>aE (k:=ai) (λQ q=>ar (au rfl (aB q))) q) (ar (au rfl (aB (Al (show 2<=1000 by decide) (g _ _ _ _ q)))))))
abbrev tV:aH:=aq (ax 13 (ay (ao ↥5 (ao (w2 ↥6 ⇑1 (b9 λi j=>.int (i+j))) (ao ↥7 ak))))) (aq (aI (cT (w2 ↥9 (wC .none) (bc ah))) (aq (ax 14 (w2 (w2 (w2 ↥0 ↥2 av) ↥9 av) ⇑0 av)) (ax 13 (ay (ao ↥9 (ao ⇑0 (ao (wB eQ (ao (aZ (bY [af,ae 14] (c7 ↥7) (aG 0) (cT (w2 (w2 ↥0 ⇑0 av) ↥1 (dP ai))) ↥0)) ak)) ak)))))) aD) (aw (ay (ao (w2 (w2 (dA ↥3 du (dv ↥2)) (ay (ao ↥13 ak)) eM) (dA ↥3 (dv (w2 ↥2 ⇑1 (b9 λi j=>.int (i+j)))) du) eM) (ao ↥4 ak)))))
abbrev sZ(ps:Pg)(hs:List Hn)(ns ns':List Nt)(m xb xp:Nat)(nm:Nm)(o8 o9 o10 o11 o12 o13 o14:Option SV):Sl:=[↑(cI ps),↑(bR hs ns),↑(.int m),↑(.tuple (hs.map bZ)),↑(e7 ns'),↑(.int xb),↑(.int xp),↑(cV nm),o8,o9,o10,o11,o12,o13,o14]
section
variable{ps:Pg}{hs:List Hn}{ns ns':List Nt}{m xb xp:Nat}{nm:Nm}{n:Int}{Q:DQ}
theorem zj(n_:okHs ps hs)(j':bM ps)(hh:m < ps.length)(x:Hn)(o5 o6 o7 o8 o9 o10 o11 o12 o14:Option SV)(q:Q (.d (bR (a8 hs m x) ns')) n):aw (ay (ao (w2 (w2 (dA ↥3 du (dv ↥2)) (ay (ao ↥13 ak)) eM) (dA ↥3 (dv (w2 ↥2 ⇑1 (b9 λi j=>.int (i+j)))) du) eM) (ao ↥4 ak)))
   [↑(cI ps),↑(bR hs ns),↑(.int m),↑(.tuple (hs.map bZ)),↑(e7 ns'),o5,o6,o7,o8,o9,o10,o11,o12,↑(bZ x),o14] n {nx:=λ_ n=>Q (.d .none) n,rt:=Q}:=by
 have a:m < hs.length:=by rw[n_.1];omega
 have c:hs.length<=5:=by rw[n_.1];exact j'.1
 have b:(a8 hs m x).map bZ=((hs.map bZ).take m++[bZ x])++(hs.map bZ).drop (m+1):=by
  unfold a8;simp
 unfold bR at q;rw[b]at q;have e:((hs.map bZ).take m).length<=5:=Ba (Gi _ _) (by rw[Ab];omega);have f:((hs.map bZ).drop (m+1)).length<=5:=by rw[Dl,Ab];omega
 exact bo (cv (ar (ar (pP (λQ q=>au rfl q) (λQ q=>au rfl q) (by rw[Ab];omega) (oN (au rfl (Al (show 1<=1000 by decide) (ja (by rw[A1];omega) (rm (p:=m+1) (λQ q=>au rfl q) (λQ q=>ar (au rfl (aB (ez q)))) (by rw[Ab];omega) (ja (by rw[An,A1];omega) (au rfl (Al (show 2<=1000 by decide) q))))))))))))
theorem qg(n_:okHs ps hs)(j':bM ps)(hh:m < ps.length)(o8 o10 o11 o12 o13 o14:Option SV)(q:Q (.d (bR (a8 hs m (xb,xp+1,nm)) ns')) n):tV (sZ ps hs ns ns' m xb xp nm o8 (ae (.w (.d .none))) o10 o11 o12 o13 o14) n {nx:=λ_ n=>Q (.d .none) n,rt:=Q}:=by
 refine az (bC (x:=bZ (xb,xp+1,nm)) (λQ q=>ig (au rfl (ar (au rfl (aB (ez (au rfl (Al (show 3<=1000 by decide) q)))))))) ?_);dsimp only[A0];exact az (aT (λQ q=>aE (λQ q=>ar (au rfl (aB q))) q) (zj n_ j' hh _ _ _ _ _ _ _ _ _ _ q))
theorem uh(n_:okHs ps hs)(j':bM ps)(hh:m < ps.length){P:List Bl}{b:Nat}{bl:Bl}(hP:(ps.map fZ)[m]?=ae (.tuple (P.map fF)))(hb:P[b]?=ae bl)(hbl:bl.1.length<=4)(o8 o10 o11 o12 o13 o14:Option SV)(q:Q (.d (bR (a8 hs m (cj P b nm)) ns')) n):tV (sZ ps hs ns ns' m xb xp nm o8 (↑(.int (b:Nat))) o10 o11 o12 o13 o14) n {nx:=λ_ n=>Q (.d .none) n,rt:=Q}:=by
 have g:(P.map fF)[b]?=ae (.tuple [fe bl.1,.tuple (bl.2.map Ac.d)]):=by rw[Am,hb];rfl
 refine az (bC (λQ q=>ig (au rfl (ar (au rfl (aB (ez (au rfl (Al (show 3<=1000 by decide) q)))))))) ?_);dsimp only[A0];refine az (bG (λQ q=>aE (λQ q=>ar (au rfl (aB q))) q) (az (bC (λQ q=>ar (ar (ar (au rfl (au rfl (bb hP (au rfl (bb g (aB (cQ q)))))))))) ?_)));dsimp only[A0];refine bC (x:=bZ (cj P b nm)) (λQ q=>?_) ?_
 ·refine ig (au rfl (aB (aQ (aV (f6 (λQ q=>au rfl q) (kM iL iL (λp=>decide (p.1∈bl.1)) nm [] af n (λa h n f q=>?_) (λa h n f q=>au rfl q) ?_))))))
  ·refine aE (λQ q=>ar (cS rfl (au rfl ⟨rfl,oh bl.1,?_⟩))) q;rw[j2];exact q
  ·rw[D5];refine Al (show 3<=1000 by decide) ?_;have e:kK P b=bl.1:=by unfold kK;rw[hb];rfl
   unfold cj at q;rw[e]at q;exact q
 ·dsimp only[A0];exact zj n_ j' hh _ _ _ _ _ _ _ _ _ _ q
end
theorem z8{nm:Nm}{f:Fe}(hf:ef nm f)(te:f.te=ah)(o_:okN nm):∀(n:Int)(Q':DQ),Q' (.d (fu nm f)) n->dz (cT (w2 (w2 ↥0 ⇑0 av) (wC (.str "is")) aX)) (w2 ↥0 ⇑1 av) (w2 (ki ↥1) (w2 ↥0 ⇑1 av) fT) [↑f.d,↑(cV nm)] n Q':=λn Q' q=>by
 cases f with
 |isv d=>exact e8 (b:=ah) (λQ q=>dQ rfl (by assumption)) (by assumption)
 |as x=>
  obtain⟨v,e,h⟩:=hf.2.2 x rfl;refine e8 (b:=ai) (λQ q=>dQ rfl (by assumption)) (ar (BS rfl o_ (bK rfl ?_)));have q:Q' (.d (hG nm x)) n:=q;unfold hG at q;rw[e]at q;unfold fT;simp only[jk,e];exact q
 |_=>cases te
theorem Pa(a b c d:Ad):dI [a,b,c,d] (ae 1) (ae 3)=[b,c]:=rfl
theorem K9:cm da v9 ["_law_programs","_law_stand_here","_law_mover","_law_hands","_law_notes_here","_law_block","_law_place","_law_names","_law_act_here","_law_target","_law_one","_law_other","_law_got_here","_law_behind","_law_wanted"]:=λws n Q h=>by
 obtain⟨ps,hs,ns,m,r,rfl,⟨j',n_,o_⟩,hm,e,k⟩:=h;show v9 [↑(cI ps),↑(bR hs ns),↑(.int m),af,af,af,af,af,af,af,af,af,af,af,af] n _;refine az ?_;unfold dB;refine au rfl (Al rfl ?_);dsimp only[bF,di,aG,A0];unfold bI at e;refine az (cz (aE (k:=decide ((m:Int)=(ps.length:Nat))) (λQ q=>ar (au rfl (aQ (au rfl ?_)))) ?_))
 ·show Q (.d (.bool (decide ((m:Int)=((ps.map fZ).length:Nat))))) n;rw[Ab];exact q
 by_cases em:m=ps.length
 ·rw[a' em]at e;cases e;show if decide ((m:Int)=(ps.length:Nat))=ah then _ else _
  rw[a' (b_ ⋯)];refine bo (cv (au rfl (aQ (aV (f6 (ds:=ns.map eV) (λQ q=>au rfl q) ?_)))));show dg _ _ _ _ _ _ [af,af] n;exact BU ns [] af af n (λq hq=>(o_.2 q hq).2) (Al (show 2<=1000 by decide) k)
 rw[a_ em]at e;show if decide ((m:Int)=(ps.length:Nat))=ah then _ else _
 rw[a_ (by rw[c_ ⋯];exact A3)];dsimp only[aD];have hh:m < ps.length:=by omega
 obtain⟨P,xb,xp,nm,w,as,H⟩:=gH n_ hh;refine az ?_;refine ar (au rfl (au rfl (bb H.hD (Al rfl ?_))));dsimp only[bF,di,aG,A0];cases ea:bA ps hs m with
 |none=>
  unfold dR at e;rw[H.prog,H.hand,ea]at e;cases e
 |some a=>
 rw[lT H ea]at e;have oa:=H.ok j' ea;have hA:(as.map Ac.d)[xp]?=ae a.d:=by rw[Am,<-H.act,ea];rfl
 refine az (bC (x:=a.d) (λQ q=>ar (ar (ar (ar (au rfl (au rfl (bb H.pD (au rfl (bb H.bD (aB (ew (au rfl (bb hA q))))))))))))) ?_);dsimp only[A0];refine az (bC (x:=.none) (λQ q=>aB q) ?_);dsimp only[A0];have toB:∀(b:Nat),a.to=ae b->∃bl:Bl,P[b]?=ae bl/\bl.1.length<=4:=λb hb=>by
  obtain⟨bl,hbl,obl,sub⟩:=H.to j' ea hb;exact⟨bl,hbl,obl.1⟩
 have getY:∀(s:Str)(gs:List Fe)(r5:List Ad)(i:Nat),a.d=.tuple (.str s::r5)->a.pf=ae (gs.map Fe.fd)->a7 (gs.map Fe.fd) nm ns=ae i->∀K:DEnds,
   (∀δ n,tV δ n {nx:=λ_ n=>Q (.d .none) n,rt:=Q}->K.nx δ n)->
   Q (.d (bR (a8 hs m (d9 (xb,xp,nm) (bT (eS (gs.map Fe.fd) (cF ns i) nm)))) (if cx "take" (.str s)=ah then cD ns i else ns))) n->
   (aq (ax 12 (aA mW (ao ↥8 (ao ↥4 (ao ↥7 ak))))) (aI (cT (w2 ↥12 (wC .none) (bc ai))) (ax 9 (w2 ↥8 ⇑2 av)) (aq (ax 7 (w2 ↥12 ⇑1 av)) (aI (cT (w2 (w2 ↥8 ⇑0 av) (wC (.str "take")) aX)) (ax 4 (w2 (dA ↥4 du (dv (w2 ↥12 ⇑0 av))) (dA ↥4 (dv (w2 (w2 ↥12 ⇑0 av) ⇑1 (b9 λi j=>.int (i+j)))) du) eM)) aD)))) (sZ ps hs ns ns m xb xp nm (↑a.d) (ae (.w (.d .none))) af af af af af) n K:=λs gs r5 i ed hpf ei K hK q=>by
  refine az (bC (x:=.tuple [.int (i:Nat),cV (bT (eS (gs.map Fe.fd) (cF ns i) nm))]) (λQ q=>bg (au rfl (au rfl (au rfl ⟨a,_,ns,nm,rfl,oa,hpf,o_,H.nms,?_⟩)))) ?_)
  ·unfold gv;rw[ei];exact q
  dsimp only[A0];refine aT (λQ q=>aE (k:=ai) (λQ q=>ar (au rfl (aB q))) q) (az ?_);refine bC (x:=cV (bT (eS (gs.map Fe.fd) (cF ns i) nm))) (λQ q=>bK rfl q) ?_;dsimp only[A0];obtain⟨⟨row,age⟩,hq,hf⟩:=vj ei;have hi:i < ns.length:=(Aq.mp hq).1;rw[ed];refine qO rfl (λz=>?_) λz=>?_
  ·rw[a' z]at q;refine bC (x:=e7 (cD ns i)) (λQ q=>ar (pP (p:=i) (λQ q=>au rfl q) (λQ q=>cS rfl q) (by rw[Ab];omega) (rm (p:=i+1) (λQ q=>au rfl q) (λQ q=>ar (cS rfl (aB (ez q)))) (by rw[Ab];omega) (ja ?_ ?_)))) ?_
   ·have:=o_.1;rw[Ef,Dl,Ab];omega
   ·unfold e7 at q;rw[wJ]at q;exact q
   ·dsimp only[A0];exact hK _ _ (qg n_ j' hh _ _ _ _ _ _ q)
  ·rw[a_ (by rw[z];exact A3)]at q;exact hK _ _ (qg n_ j' hh _ _ _ _ _ _ q)
 cases a with
 |lay fs age=>
  obtain⟨hl4,hfv⟩:=H.lay j' ea;cases e;refine az (ij (a:=.str "lay") (r:=[cG fs,age]) rfl ∅ ?_);refine bC (x:=e7 (ns++[(gi fs nm,age)])) (λQ q=>?_) ?_
  ·refine ar (au rfl (oN (cv (bO (bK (a:=.str "lay") (b:=cG fs) (r:=[age]) rfl (au rfl ⟨fs,nm,rfl,hl4,hfv,H.nms,?_⟩))))));refine eT (m:=2) (ds:=[.str "lay",cG fs,age]) rfl rfl (Al (show 2<=1000 by decide) (Al (show 1<=1000 by decide) (ja (by rw[Ab,A1];have:=o_.1;omega) ?_)));unfold e7 at q;rw[Bc]at q;exact q
  ·dsimp only[A0];exact qg n_ j' hh _ _ _ _ _ _ k
 |go b=>
  cases e;obtain⟨bl,h1,h2⟩:=toB b rfl;refine az (cZ (a:=.str "go") (r:=[.int b]) rfl ∅ (ij (a:=.str "go") (r:=[.int b]) rfl ∅ ?_));refine bC (x:=.int b) (λQ q=>bK (a:=.str "go") (b:=.int b) (r:=[]) rfl q) ?_;dsimp only[A0];exact uh n_ j' hh H.pD h1 h2 _ _ _ _ _ _ k
 |same f g b=>
  obtain⟨hf,hg,tf,tg⟩:=H.same j' ea;obtain⟨bl,h1,h2⟩:=toB b rfl;cases e;refine az (cZ (a:=.str "same") (r:=[f.d,g.d,.int b]) rfl ∅ (cZ (a:=.str "same") (r:=[f.d,g.d,.int b]) rfl ∅ (ij (a:=.str "same") (r:=[f.d,g.d,.int b]) rfl ∅ ?_)));refine az ?_;refine aV (f6 (ds:=[f.d,g.d]) (λQ q=>?_) ?_)
  ·unfold dA;refine au rfl ?_;dsimp only[Ac.d,dv];refine aB ?_;dsimp only;refine aB ?_;dsimp only;rw[Pa];exact q
  refine j4 (α:=Fe) Fe.d (fu nm) [f,g] [] af n (λu hu n Q' q=>?_) ?_
  ·rcases Au.mp hu with rfl|hu
   ·exact z8 hf tf H.nms n Q' q
   ·rw[A2.mp hu]at q ⊢;exact z8 hg tg H.nms n Q' q
  rw[D5];refine Al rfl ?_;dsimp only[bF,di,aG,A0];have k:Q (.d (bR (a8 hs m (if fq (fu nm f) (fu nm g)=ah then d9 (xb,xp,nm) nm else cj P b nm)) ns)) n:=k;cases z:fq (fu nm f) (fu nm g)with
  |true=>
   rw[z,a' rfl]at k;refine bC (x:=.none) (λQ q=>e8 (b:=ah) (λQ q=>aE (k:=ah) (λQ q=>ar (au rfl (au rfl (rA (fS hf) (fS hg) (by rw[z];exact q))))) q) (by rw[a' rfl];exact aB q)) ?_;dsimp only[A0];exact qg n_ j' hh _ _ _ _ _ _ k
  |false=>
   rw[z,a_ A3]at k;refine bC (x:=.int b) (λQ q=>e8 (b:=ai) (λQ q=>aE (k:=ai) (λQ q=>ar (au rfl (au rfl (rA (fS hf) (fS hg) (by rw[z];exact q))))) q) (by rw[a_ A3];exact eT (m:=3) (ds:=[.str "same",f.d,g.d,.int b]) rfl rfl q)) ?_;dsimp only[A0];exact uh n_ j' hh H.pD h1 h2 _ _ _ _ _ _ k
 |take gs=>
  have e:(((bE gs (xb,xp,nm) ns).map λq=>(q.2,cD ns q.1)).map λr=>(a8 hs m r.1,r.2))=ae r:=e;refine az (cZ (a:=.str "take") (r:=[cG gs]) rfl ∅ (cZ (a:=.str "take") (r:=[cG gs]) rfl ∅ (cZ (a:=.str "take") (r:=[cG gs]) rfl ∅ ?_)));cases ei:a7 (gs.map Fe.fd) nm ns with
  |none=>rw[iA ei]at e;cases e
  |some i=>
   rw[iy ei]at e;cases e;exact getY "take" gs [cG gs] i rfl rfl ei _ (λ_ _ z=>z) (by rw[a' ∅];exact k)
 |read gs=>
  have e:(((bE gs (xb,xp,nm) ns).map λq=>(q.2,ns)).map λr=>(a8 hs m r.1,r.2))=ae r:=e;refine az (cZ (a:=.str "read") (r:=[cG gs]) rfl ∅ (cZ (a:=.str "read") (r:=[cG gs]) rfl ∅ (cZ (a:=.str "read") (r:=[cG gs]) rfl ∅ ?_)));cases ei:a7 (gs.map Fe.fd) nm ns with
  |none=>rw[iA ei]at e;cases e
  |some i=>
   rw[iy ei]at e;cases e;exact getY "read" gs [cG gs] i rfl rfl ei _ (λ_ _ z=>z) (by rw[a_ ∅];exact k)
 |look gs b=>
  have e:((match bE gs (xb,xp,nm) ns with|some q=>ae (q.2,ns)|none=>ae (cj P b nm,ns):Option (Hn×List Nt)).map λr=>(a8 hs m r.1,r.2))=ae r:=e;refine az (cZ (a:=.str "look") (r:=[cG gs,.int b]) rfl ∅ (cZ (a:=.str "look") (r:=[cG gs,.int b]) rfl ∅ (cZ (a:=.str "look") (r:=[cG gs,.int b]) rfl ∅ ?_)));cases ei:a7 (gs.map Fe.fd) nm ns with
  |none=>
   rw[iA ei]at e;cases e;obtain⟨bl,h1,h2⟩:=toB b rfl;refine az (bC (x:=.none) (λQ q=>bg (au rfl (au rfl (au rfl ⟨.look gs b,_,ns,nm,rfl,oa,rfl,o_,H.nms,?_⟩)))) ?_)
   ·unfold gv;rw[ei];exact q
   dsimp only[A0];refine bG (λQ q=>aE (k:=ah) (λQ q=>ar (au rfl (aB q))) q) ?_;refine bC (x:=.int b) (λQ q=>eT (m:=2) (ds:=[.str "look",cG gs,.int b]) rfl rfl q) ?_;dsimp only[A0];exact uh n_ j' hh H.pD h1 h2 _ _ _ _ _ _ k
  |some i=>
   rw[iy ei]at e;cases e;exact getY "look" gs [cG gs,.int b] i rfl rfl ei _ (λ_ _ z=>z) (by rw[a_ ∅];exact k)
def pY(ps:Pg):List Hn:=ps.map λ_=>(0,0,[])
theorem S3{ps:Pg}(hf:∀P∈ps,jn P):okHs ps (pY ps):=by
 refine⟨Ab _,λi P a=>?_⟩;obtain⟨w,c⟩:=hf P (Ay a);obtain⟨b,r,rfl,d,_⟩:=Cu.mp c;refine⟨(0,0,[]),b,?_,rfl,Az _,List.nodup_nil,λp e=>(by simp_all),List.Pairwise.nil,λk=>?_,Az _⟩
 ·unfold pY;rw[Am,a];rfl
 ·show k∈([]:List Str)↔k∈kn b.1 b.2 0;unfold kn;rw[d];simp
theorem Qk:cm si zv ["_law_tape_here","_law_programs"]:=λws S Q h=>by
 obtain⟨rfl,N,k⟩:=h;show zv [ae _,af] S _;refine az (ar (aV (Al ∎ ?_)));refine gG rfl ⋯ ∎ ∎ λq z B=>iZ z B λd K=>?_;have I:∃j:Nat,j<=3/\d=.int j:=by
  simp only[Au,A4,g_]at K;rcases K with rfl|rfl|rfl|rfl|rfl|rfl|rfl|rfl
  ·exact⟨1,by simp⟩
  ·exact⟨2,by simp⟩
  ·exact⟨2,by simp⟩
  ·exact⟨1,by simp⟩
  ·exact⟨3,by simp⟩
  ·exact⟨2,by simp⟩
  ·exact⟨0,by simp⟩
  ·exact⟨2,by simp⟩
 obtain⟨j,I,rfl⟩:=I;refine Al ⟨by omega,by omega⟩ ?_;rw[Cc];refine pj (λd=>∃P,(qB P/\jn P)/\d=fZ P) 600 (λd n U D q=>dh (au rfl (Al rfl ⟨by omega,λP p m F s=>q _ p ⟨P,⟨m,F⟩,rfl⟩ ⋯⟩))) _ [] af _ (by rw[eJ];omega) λds T u v y=>?_;rw[eJ]at u y;rw[D5];obtain⟨l,rfl,t⟩:=vw v;rw[Ab]at u;dsimp only[A0];have g:∀(ps':Pg) C,ps'.length<=3->(∀P∈ps',qB P/\jn P)->C<=T+1->(aq (ax 1 (wB fX (ao (cy 1) ak))) (aq (aI (cT (w2 (aA bP (ao _ (ao ⇑2 ak))) ⇑0 bL)) (bX 1 (aw (ay (ao ↥1 (ao (aA qt (ao ↥0 (ao ↥1 _))) ak))))) aD) (bX 1 (aw (ay (ao ↥1 (ao (ay (ao (wB fX (ao (aZ (bY [af] (c7 ↥1) _ bB (ay (ao _ (ao _ (ao (ay ak) ak)))))) ak)) (ao (aA nZ (ao ↥0 _)) ak))) ak))))))) [ae _,ae (.own _)] C {nx:=λ_ n=>Q (.d .none) n,rt:=Q}:=λps' C O o V=>by
  have A:bM ps':=⟨by omega,λP m=>(o P m).1⟩;refine az (bC (λQ q=>aQ (lQ rfl (q))) ?_);dsimp only[A0];refine az (cz (ar (gG rfl ⋯ ∎ ∎ λq z B=>aB (i6 ?_))));show if decide _=ah then _ else _
  by_cases r:q=0
  ·rw[a' (b_ r)];refine(bo (cv (au rfl (bg (au rfl (au rfl (aB (Cb ps' ⟨3,rfl,by decide,A,by omega,λhs ns p W D s=>?_⟩))))))));exact Al (show 2<=1000 by decide) (k ps' hs ns p A W ⟨Ba D.1 ∎,D.2⟩ ⋯)
  ·rw[a_ (by simpa using r)];dsimp only[aD];refine(bo (cv (au rfl (cv (aQ (aV (f6 (λQ q=>au rfl q) ?_)))))));refine j4 fZ (λ_=>bZ (0,0,[])) ps' [] af _ (λa ha n U q=>ig (aB (aB (Al (Az _) (Al ∎ q))))) (ke (bO (au rfl (aB (Cb 4 ⟨rfl,by decide,by omega,λns p G s=>?_⟩)))));have e:(ps'.map λ_=>bZ (0,0,[]))=(pY ps').map bZ:=by unfold pY;rw[B4];rfl
   rw[e];exact Al (show 2<=1000 by decide) (Al (show 2<=1000 by decide) (k ps' _ ns p A (S3 λP m=>(o P m).2) G ⋯))
 refine az (cz (ar (aQ (lQ rfl (Hu (aB (i6 ?_)))))));rw[Ab];show if decide _=ah then _ else _
 by_cases H:(l.length:Int)=2
 ·rw[a' (b_ H)];refine ar (gG rfl ⋯ ∎ ∎ λq z B=>aB (i6 ?_));show if decide _=ah then _ else _
  by_cases r:q=0
  ·rw[a' (b_ r)];have E:=by omega
   obtain⟨P,x,rfl⟩:∃P x,l=[P,x]:=by
    match l,E with
    |[P,x],_=>exact⟨P,x,rfl⟩
   refine(ar (lQ rfl (aB (?_))));refine g [P,P] _ (show 2<=3 by decide) (λR Z=>?_) ⋯;simp_all
  ·rw[a_ (by simpa using r)];exact g l _ ⋯ t ⋯
 ·rw[a_ (by simpa using H)];exact g l _ ⋯ t ⋯
theorem BA{n:Nat}:∀{ds:List Ad},(∀d∈ds,bw n d=ah)->d5 n ds=ah
 |[],_=>by rw[d5]
 |d::r,h=>by rw[d5,h d Ap,BA λe a=>h e (Ak _ a)];rfl
theorem cC{n:Nat}{ds:List Ad}(h:∀d∈ds,bw n d=ah):bw (n+1) (.tuple ds)=ah:=BA h
theorem gA(n:Nat)(i:Int):bw n (.int i)=ah:=by rfl
theorem iu{n:Nat}{x:Str}(h:Dw x=ah):bw n (.str x)=ah:=by assumption
theorem iQ{n:Nat}{d:Ad}(h:b7 d=ah):bw n d=ah:=by
 cases d with
 |str x=>
  refine iu ?_;unfold b7 at h;simp only[Bu]at h;exact h.2.1
 |int i=>exact gA n i
 |_=>cases h
theorem cM{a b d:Ad}{P:Ad->Prop}(ha:P a)(hb:P b)(h:d∈[a,b]):P d:=by
 rcases Au.mp h with rfl|h
 ·exact ha
 ·rw[A2.mp h];omega
theorem GX{n:Nat}{nm:Nm}(h:∀p∈nm,eG p):bw (n+2) (cV nm)=ah:=cC λd c=>by
 obtain⟨p,a,rfl⟩:=A5.mp c;exact cC λe b=>cM (P:=λe=>bw n e=ah) (iu (h p a).1.2.1) (iQ (h p a).2) b
theorem zk{n:Nat}{d:Ad}(h:gZ d):bw n d=ah:=by
 rcases h with rfl|⟨i,rfl,_⟩
 ·cases n<;>rw[bw]
 ·exact gA n i
theorem Sx{ps:Pg}{hs:List Hn}(n_:okHs ps hs):∀h∈hs,∀p∈h.2.2,eG p:=λh c=>by
 obtain⟨i,d,e⟩:=List.getElem_of_mem c;obtain⟨g,b,a,j,f⟩:=n_.2 i _ (Ah (by rw[<-n_.1];omega));rw[Ah d,e]at a;cases a;exact f.ok
theorem BW{ps:Pg}{hs:List Hn}{ns:List Nt}(n_:okHs ps hs)(o_:∀q∈ns,nT q):bw 6 (bR hs ns)=ah:=by
 refine cC λd a=>cM (P:=λd=>bw 5 d=ah) ?_ ?_ a
 ·refine cC λd a=>?_;obtain⟨h,c,rfl⟩:=A5.mp a;refine cC λd a=>?_;rcases Au.mp a with rfl|a
  ·exact gA _ _
  ·exact cM (P:=λd=>bw 3 d=ah) (gA _ _) (GX (Sx n_ h c)) a
 ·refine cC λd a=>?_;obtain⟨q,b,rfl⟩:=A5.mp a;exact cC λd a=>cM (P:=λd=>bw 3 d=ah) (cC λd a=>iQ ((o_ q b).1.2 d a)) (zk (o_ q b).2) a
def jE(ps:Pg)(s:TK):Option (List Hn×List Nt):=open Classical in if h:∃p:List Hn×List Nt,s.1=bR p.1 p.2/\dj ps p.1 p.2 then ae h.choose else af
def xY(d:Ad):Option TK:=if t:bw 6 d=ah then ae ⟨d,t⟩else af
def bu(ps:Pg)(s:TK)(m:Nat):Option TK:=(jE ps s).bind λp=>(bI ps p.1 p.2 m).bind λr=>xY (bR r.1 r.2)
def Gk(ps:Pg)(c:Nat)(s:TK):Prop:=∃hs ns,s.1=bR hs ns/\dj ps hs ns/\ns.length+c<=99
theorem nL{ps:Pg}{c:Nat}{s:TK}(h:Gk ps c s):∃hs ns,jE ps s=ae (hs,ns)/\s.1=bR hs ns/\dj ps hs ns/\ns.length+c<=99:=by
 obtain⟨hs,ns,e,f,d⟩:=h;have a:∃p:List Hn×List Nt,s.1=bR p.1 p.2/\dj ps p.1 p.2:=⟨(hs,ns),e,f⟩;refine⟨_,_,by unfold jE;rw[dif_pos a],a.choose_spec.1,a.choose_spec.2,?_⟩;have b:=congrArg Dn (PyData.tuple.inj (F4 (F4 (PyData.tuple.inj (e.symm.trans a.choose_spec.1))).2).1);rw[Ab,Ab]at b;exact Ba (Nat.le_of_eq (congrArg (λx=>x+c) b.symm)) d
section
variable{ps:Pg}{s:TK}{hs:List Hn}{ns:List Nt}{m:Nat}
theorem wN(h:ps.length < m):bI ps hs ns m=af:=by
 unfold bI dR;grind
theorem uC(e:jE ps s=ae (hs,ns))(ok:dj ps hs ns){r:List Hn×List Nt}(ea:bI ps hs ns m=ae r):∃b:TK,bu ps s m=ae b/\b.1=bR r.1 r.2:=by
 have a:m<=ps.length:=by
  by_cases z:m<=ps.length
  ·exact z
  ·rw[wN ⋯]at ea;trivial
 obtain⟨d,c⟩:=wz ok.1 ok.2.1 ok.2.2 a ea;have t:=BW d c.2;refine⟨⟨_,t⟩,?_,rfl⟩;unfold bu;rw[e];show((bI ps hs ns m).bind _)=_;rw[ea];unfold xY;simp_all
theorem uz(e:jE ps s=ae (hs,ns))(ea:bI ps hs ns m=af):bu ps s m=af:=by
 unfold bu;rw[e];show((bI ps hs ns m).bind _)=_;rw[ea];rfl
theorem zS(e:jE ps s=ae (hs,ns))(ok:dj ps hs ns){b:TK}(h:bu ps s m=ae b):∃r,bI ps hs ns m=ae r/\b.1=bR r.1 r.2/\m<=ps.length:=by
 cases a:bI ps hs ns m with
 |none=>rw[uz e a]at h;cases h
 |some r=>
  obtain⟨f,c,d⟩:=uC e ok a;rw[h]at c;cases c;refine⟨r,rfl,d,?_⟩;by_cases z:m<=ps.length
  ·exact z
  ·rw[wN ⋯]at a;trivial
theorem QK(e:jE ps s=ae (hs,ns))(ok:dj ps hs ns):fg (bu ps) ps.length s=i8 ps hs ns:=by
 refine List.filter_congr λi _=>?_;cases c:bI ps hs ns i with
 |none=>rw[uz e c];rfl
 |some r=>obtain⟨b,d,_⟩:=uC e ok c;rw[d];rfl
end
theorem n7{ps:Pg}{c:Nat}{s:TK}{n:Int}{R:DQ}(g:Gk ps c s)(r:R (.d (.list ((fg (bu ps) ps.length s).map λi=>.int (i:Nat)))) n):de [.d (cI ps),.d s.1] n R:=by
 obtain⟨h,b,e,f,a,_⟩:=nL g;rw[QK e a]at r;exact⟨ps,h,b,by rw[f],a,r⟩
theorem mZ{ps:Pg}{c:Nat}{s b:TK}{i:Nat}{n:Int}{R:DQ}(g:Gk ps c s)(h:bu ps s i=ae b)(r:R (.d b.1) n):da [.d (cI ps),.d s.1,.d (.int (i:Nat))] n R:=by
 obtain⟨m,j,e,k,a,_⟩:=nL g;obtain⟨q,o,f,l⟩:=zS e a h;rw[f]at r;exact⟨ps,m,j,i,q,by rw[k],a,l,o,r⟩
theorem ve{ps:Pg}{c:Nat}{s:TK}(g:Gk ps c s):∃ds,s.1=.tuple ds:=by
 obtain⟨a,b,e,_⟩:=g;exact⟨_,e⟩
theorem rL{ps:Pg}{c:Nat}{s b:TK}{i:Nat}(g:Gk ps (c+1) s)(h:bu ps s i=ae b):Gk ps c b:=by
 obtain⟨p,n,e,o,a,m⟩:=nL g;obtain⟨q,l,f,j⟩:=zS e a h;obtain⟨k,d⟩:=wz a.1 a.2.1 ⟨Ao _,a.2.2.2⟩ j l;have:=d.1;exact⟨q.1,q.2,f,⟨a.1,k,by omega,d.2⟩,by omega⟩
theorem Hh{ps:Pg}{c:Nat}{s:TK}{i:Nat}{n:Int}{R:DQ}(g:Gk ps c s)(hi:i<=ps.length)(r:R (.d (match bu ps s i with|some b=>b.1|none=>.none)) n):eO [.d (cI ps),.d s.1,.d (.int (i:Nat))] n R:=by
 obtain⟨h,a,e,l,k,_⟩:=nL g;refine⟨ps,h,a,i,by rw[l],k,hi,?_⟩;cases j:bI ps h a i with
 |none=>rw[uz e j]at r;exact r
 |some q=>
  obtain⟨b,m,o⟩:=uC e k j;rw[m]at r;have r:R (.d b.1) n:=r;rw[o]at r;exact r
theorem vA(ps:Pg):GoL de da (cI ps) ps.length (bu ps) (Gk ps) where
 mv:=λ_ _ _ _ g r=>n7 g r
 go:=λ_ _ _ _ _ _ g h r=>mZ g h r
 tup:=λ_ _ g=>ve g
 good:=λ_ _ _ _ g _ h=>rL g h
section
variable{ps:Pg}{Gd:TK->Prop}(h0:∀k,Gd k->Gk ps 0 k)(hc:∀(s:TK) (i:Nat) (b:TK),Gd s->i<=ps.length->bu ps s i=ae b->Gd b)
include h0 hc
theorem Lz:GoOk de da (cI ps) ps.length (bu ps) Gd where
 mv:=λ_ _ _ g r=>n7 (h0 _ g) r
 go:=λ_ _ _ _ _ g h r=>mZ (h0 _ g) h r
 tup:=λ_ g=>ve (h0 _ g)
 good:=hc
theorem IS:AfOk eO (cI ps) ps.length (bu ps) Gd where
 call:=λ_ _ _ _ g a r=>Hh (h0 _ g) a r
 good:=hc
 tup:=λ_ g=>ve (h0 _ g)
 prog:=⟨_,rfl,Ab _⟩
end
def gL(ps:Pg)(g:Sg 2)(s:TK):Bool:=match jE ps s with
 |some p=>Sg.see ps ⟨p.1,p.2⟩ 2 g
 |none=>ai
theorem vS{ps:Pg}{c:Nat}{g:Sg 2}{s:TK}{n:Int}{R:DQ}(gs:Gk ps c s)(hg:Sg.ok ps 2 g)(r:R (.d (.bool (gL ps g s))) n):dm 3 [.d (cI ps),.d s.1,.d (Sg.d 2 g)] n R:=by
 obtain⟨f,b,e,a,ok,_⟩:=nL gs;unfold gL at r;rw[e]at r;exact⟨ps,_,g,by rw[a];rfl,ok.1,⟨ok.2.1,ok.2.2⟩,hg,r⟩
section
variable{δ:Sl}{n:Int}{Q:DQ}{i:Nat}
theorem oS{m:List (TK×Ad)}(e:δ[i]?=ae (ae (.w (.ob (.y m)))))(k:Q (.ob (.y m)) n):b5 i δ n Q:=by unfold b5;simp_all
theorem P7{d:Ad}(e:δ[i]?=ae (↑d))(k:Q (.d d) n):b5 i δ n Q:=by unfold b5;simp_all
end
theorem CM{δ:Sl}{n:Int}{fr:List (Option Nat)}{e:DT}{g:dE}{c:b3}{Q:List Ad->Int->Prop}{i:Nat}{m:List (TK×Ad)}(h:δ[i]?=ae (ae (.w (.ob (.y m)))))(hl:m.length<=1000)(k:dg g c e Q (m.map λp=>p.1.1) [] (iX fr δ) n):bY fr (ib (b5 i)) g c e δ n Q:=by
 unfold bY ib;exact oS h ⟨m,rfl,hl,k⟩
theorem oV{w:DT}{Q:List Ad->Int->Prop}{aC:Sl}(g:TK->Ad)(ks:List TK)(x:Option SV)(n:Int)(h:∀k∈ks,∀(n:Int) (Q':DQ),Q' (.d (g k)) n->w (↑k.1::aC) n Q')(q:Q (ks.map g) n):dg (aG 0) bB w Q (ks.map (·.1)) [] (x::aC) n:=
 DB _ g ks x n h q
theorem FG(E:List (TK×Nat)):(eY E).map (λp=>p.1.1)=(E.map (·.1)).map (·.1):=by rw[B4,B4];rfl
theorem vx{α:Type}{p:α->Bool}{xs:List α}(h:∀a∈xs,p a=ai):xs.any p=ai:=by
 rw[List.any_eq_false];exact λa b=>by rw[h a b];simp
theorem uD{n:Int}{Q:DQ}(q:Q (.d (.bool ai)) n):ec (.d (.int ((2:Nat):Int))) (.d (.int 2)) n Q:=q
theorem IL:∀ws n Q,kO (dm 3) de da ws n Q->ws.length=5:=HW _ _ _
theorem QI:∀ws n Q,kO (dm 3) de da ws n Q->FO (cL ["_law_programs","_law_stand_here","_law_sight_here","_law_due","_law_told","_law_last","_law_reprs"] ws) n {nx:=λ_ n=>Q (.d .none) n,rt:=Q}:=λws n Q h=>by
 obtain⟨I,z,X,t,E,N,r,G,y,rfl,A,P,M,u,D,U,v,x,J,q⟩:=h;have o:(eY E).length<=1000:=by rw[Ab];omega
 obtain⟨w,C,B⟩:∃(w:Str)(C:List Ad),t=.tuple [.str w,.list C]:=by
  rcases J with⟨e,_⟩|⟨_,_,e,_⟩
  ·exact⟨_,_,e⟩
  ·exact⟨_,_,e⟩
 rw[B];refine az (aT (λQ q=>f7 (λQ q=>lA (λQ q=>aE (λQ q=>au rfl q) q) q) (f7 (λQ q=>aE (λQ q=>ar (oK rfl (aB (uD q)))) q) (lA (λQ q=>aE (λQ q=>bK rfl q) q) q))) ?_);dsimp only[aD];refine az (cz (aE (k:=(E.map (·.1)).any y) (λQ q=>ar (aB (aV (CM rfl o ?_)))) ?_))
 ·rw[FG];refine oV _ _ af n (λk c n f g=>bg (au rfl (au rfl (au rfl (x k c n f g))))) ⟨rfl,mQ _ _,?_⟩;rw[mj,uW];exact q
 rcases J with⟨l,K⟩|⟨k,O,l,c,s,S,L⟩
 ·rw[B]at l;cases l;rw[vx K,a_ A3];dsimp only[aD];have F:∀k∈E.map (·.1),∀(n:Int)(f:DQ),f (.d (.str k.1.shown)) n->px [.d k.1] n f:=λk c n f g=>by
   obtain⟨C,e⟩:=A.tup k (u k c);have H:=v k c;rw[e]at H g ⊢;exact .inr ⟨H,g⟩
  refine az (aV ?_);unfold bY dY;refine bK rfl ?_;refine oV _ _ af n (λk c n f g=>aQ (au rfl (F k c n f g))) ?_;dsimp only[A0];refine az (aT (λQ q=>f7 (λQ q=>aE (λQ q=>ar (cS rfl (aB (ne_str (by assumption))))) q) (aE (λQ q=>ar (aB (aV (CM rfl o ?_)))) q)) ?_)
  ·rw[FG];refine oV (λ_=>.bool ah) _ af n (λk c n f g=>ar (aQ (au rfl (F k c n _ (au rfl ⟨rfl,?_,?_⟩))))) ⟨rfl,mQ _ _,?_⟩
   ·rw[List.all_map,Cy];exact λ_ _=>rfl
   ·have:bW (.str k.1.shown) ((E.map (·.1)).map λk=>Dr k.1.shown)=ah:=by
     unfold bW;rw[List.any_map,Cm];exact⟨k,c,by simp[lB]⟩
    show f (.d (.bool (bW _ _))) n;rw[this];omega
   ·show Q _ n;rw[mj,vx (p:=λ_=>ah==ai) (λ_ _=>rfl)];exact q
  ·dsimp only[aD];refine bo (oW (λQ q=>bg (au rfl (au rfl (bK rfl ⟨I,z,_,N,r,G,rfl,A,by rw[Ab];exact P,M,u,D,U,q⟩)))) ?_);refine ar (aB (aV ?_));refine bK rfl ?_;refine oV _ _ af n (λk c n f g=>bg (au rfl (au rfl (au rfl (x k c n f g))))) ⟨rfl,mQ _ _,?_⟩;rw[mj,uW,vx K];exact q
 ·rw[B]at l;cases l;rw[Cm.mpr ⟨k,c,s⟩,a' rfl];refine az (bC (λQ q=>bg (au rfl (au rfl (bK rfl ⟨I,z,k,O,N,r,G,rfl,A,u z D,L,S,q⟩)))) ?_);dsimp only[A0];refine bo (oW (b:=ah) (λQ q=>dQ rfl (by assumption)) ?_);obtain⟨V,T⟩:=A.tup k (u k c);refine oW (b:=ah) (λQ q=>ar (au rfl (aB (by rw[T];exact q)))) ?_;refine bg (au rfl (au rfl (au rfl (x k c n _ ?_))));rw[s];exact q
theorem Im:∀ws n Q,mh de da ws n Q->ws.length=3:=Hs _ _
theorem IF:∀ws n Q,mh de da ws n Q->Oo (cL Zd ws) n {nx:=λ_ n=>Q (.d .none) n,rt:=Q}:=OV de da
theorem LK:∀ws n Q,jV eO (dm 3) ws n Q->ws.length=3:=PM
theorem Lv:∀ws n Q,jV eO (dm 3) ws n Q->SR (cL ["programs","stand","sight","steps","one"] ws) n {nx:=λ_ n=>Q (.d .none) n,rt:=Q}:=J6 eO _
theorem um{f:Fe}(h:f.ok)(n:Nat):bw (n+1) f.d=ah:=by
 have e:bw n (.str f.hd)=ah:=iu (by cases f<;>(dsimp only[Fe.hd];decide +kernel));refine cC λd a=>?_;rcases Au.mp a with rfl|a
 ·exact e
 ·cases f with
  |any=>cases a
  |word=>cases a
  |num=>cases a
  |isv v=>rw[A2.mp a];exact iQ h
  |bind k=>rw[A2.mp a];exact iu h.2.1
  |as k=>rw[A2.mp a];exact iu h.2.1
  |nx k=>rw[A2.mp a];exact iu h.2.1
theorem rl{fs:List Fe}(h:∀f∈fs,f.ok)(n:Nat):bw (n+2) (cG fs)=ah:=cC λd a=>by
 obtain⟨f,b,rfl⟩:=A5.mp a;exact um (h f b) n
theorem iV{a b c d:Ad}{P:Ad->Prop}(ha:P a)(hb:P b)(hc:P c)(h:d∈[a,b,c]):P d:=by
 rcases Au.mp h with rfl|h
 ·exact ha
 ·exact cM hb hc h
theorem mL{a b c e d:Ad}{P:Ad->Prop}(ha:P a)(hb:P b)(hc:P c)(he:P e)(h:d∈[a,b,c,e]):P d:=by
 rcases Au.mp h with rfl|h
 ·exact ha
 ·exact iV hb hc he h
theorem ft(n:Nat)(x:Str)(h:Dw x=ah):bw n (.str x)=ah:=iu h
theorem Jo{a:Ac}(h:jo a)(n:Nat):bw (n+3) a.d=ah:=by
 cases a with
 |lay e o=>exact cC λd c=>iV (P:=λd=>bw _ d=ah) (ft _ _ ∅) (rl h.1.2 n) (zk h.2.2.1) c
 |take e=>exact cC λd c=>cM (P:=λd=>bw _ d=ah) (ft _ _ ∅) (rl h.1.2 n) c
 |read e=>exact cC λd c=>cM (P:=λd=>bw _ d=ah) (ft _ _ ∅) (rl h.1.2 n) c
 |look e b=>exact cC λd c=>iV (P:=λd=>bw _ d=ah) (ft _ _ ∅) (rl h.1.2 n) (gA _ _) c
 |same f g b=>exact cC λd c=>mL (P:=λd=>bw _ d=ah) (ft _ _ ∅) (um (h.1.2 f Ap) _) (um (h.1.2 g (Ak _ Ap)) _) (gA _ _) c
 |go b=>exact cC λd c=>cM (P:=λd=>bw _ d=ah) (ft _ _ ∅) (gA _ _) c
theorem OD{ps:Pg}(h:bM ps):bw 7 (cI ps)=ah:=cC λd c=>by
 obtain⟨P,g,rfl⟩:=A5.mp c;refine cC λd c=>?_;obtain⟨b,f,rfl⟩:=A5.mp c;have e:=((h.2 P g).2.2 b f).1;refine cC λd c=>cM (P:=λd=>bw 4 d=ah) ?_ ?_ c
 ·refine cC λd c=>?_;obtain⟨k,i,rfl⟩:=A5.mp c;exact iu (e.2.1 k i).2.1
 ·refine cC λd c=>?_;obtain⟨a,j,rfl⟩:=A5.mp c;exact Jo (e.2.2.2.1 a j) 0
theorem LR{f:Fd}(h:f.ok)(n:Nat):bw (n+1) f.d=ah:=by
 cases f with
 |is v=>exact cC λd a=>cM (P:=λd=>bw n d=ah) (ft _ _ ∅) (iQ h) a
 |any=>exact cC λd a=>by rw[A2.mp a];exact ft _ _ ∅
 |word=>exact cC λd a=>by rw[A2.mp a];exact ft _ _ ∅
 |number=>exact cC λd a=>by rw[A2.mp a];exact ft _ _ ∅
 |bind x=>exact cC λd a=>cM (P:=λd=>bw n d=ah) (ft _ _ ∅) (iu h.2.1) a
 |as x=>exact cC λd a=>cM (P:=λd=>bw n d=ah) (ft _ _ ∅) (iu h.2.1) a
theorem z3{ps:Pg}{b:Bs}(h:b.ok ps)(n:Nat):bw (n+3) b.d=ah:=by
 cases b with
 |notes i k=>exact cC λd a=>iV (P:=λd=>bw _ d=ah) (ft _ _ ∅) (cC λd a=>by obtain⟨f,g,rfl⟩:=A5.mp a;exact LR (h.2.2 f g) n) (gA _ _) a
 |«at» h b p=>exact cC λd a=>mL (P:=λd=>bw _ d=ah) (ft _ _ ∅) (gA _ _) (gA _ _) (gA _ _) a
 |ended h=>exact cC λd a=>cM (P:=λd=>bw _ d=ah) (ft _ _ ∅) (gA _ _) a
theorem tI{ps:Pg}:∀(t n:Nat)(g:Sg t),Sg.ok ps t g->bw (n+3+2*t) (Sg.d t g)=ah
 |0,n,g,h=>z3 h n
 |t+1,n,.inl b,h=>by
  have:=z3 h (n+2*(t+1));rw[show n+2*(t+1)+3=n+3+2*(t+1) by omega]at this;trivial
 |t+1,n,.inr (.inl q),h=>cC λd a=>cM (P:=λd=>bw _ d=ah) (ft _ _ (lU q.1)) (cC λd a=>by obtain⟨u,c,rfl⟩:=A5.mp a;exact tI t n u (h u c)) a
 |t+1,n,.inr (.inr s),h=>by
  rw[show n+3+2*(t+1)=(n+1+3+2*t)+1 by omega];exact cC λd a=>cM (P:=λd=>bw _ d=ah) (ft _ _ ∅) (tI t _ s h) a
theorem zV{aft:TK->Nat->Option TK}{N:Nat}{s0:TK}:∀j,((El aft N s0 j).map (·.1)).Nodup
 |0=>by simp[El]
 |j+1=>by
  have d:=zV (aft:=aft) (N:=N) (s0:=s0) j;show(List.map _ (match _[j]? with|some s=>dM aft N _ s|none=>El aft N s0 j)).Nodup;cases(El aft N s0 j)[j]? with
  |none=>exact d
  |some s=>
   have b:∀(a:List Nat) E,(E.map (·.1)).Nodup->((a.foldl (dS aft s) E).map (·.1)).Nodup:=by
    intro a
    induction a with
    |nil=>exact λE h=>h
    |cons i a c=>exact λE h=>c _ (xg h)
   exact b _ _ d
abbrev pW:aH:=aP (d3 ⇑2) (aG 8) (ug 9 (jV eO (dm 3)) (kO (dm 3) de da) (ao ↥2 (ao ↥3 (ao ↥6 ak))) (ao ↥2 (ao ↥3 (ao ↥6 (ao (b5 4) (ao ↥9 ak))))))
abbrev vt:aH:=aq (ax 6 (aA (kh 3) (ao ↥1 (ao ↥2 (ao ⇑2 ak))))) (aq (aI (cJ (cT (w2 (wB a9 (ao ↥2 ak)) ⇑0 iz)) (cT (w2 (aA bP (ao ↥1 (ao ⇑2 ak))) ⇑0 aX))) (aq (ax 7 (aA bP (ao ↥1 (ao (wB a9 (ao ↥2 ak)) ak)))) (ax 6 (w2 (ay (ao (wC (.str "at")) (ao ↥7 ak))) (dA (w2 (w2 (w2 (aZ (ot (b5 4))) (aA bP (ao ↥1 (ao (wB sR (ao (b5 4) ak)) ak))) av) ⇑0 av) ↥7 av) du (dv ⇑2)) eM))) aD) pW)
section
variable{ps:Pg}{s0:TK}{J:Nat}
abbrev kH(ps:Pg)(s0:TK)(J:Nat)(x5 x6 x7 x8 x9:Option SV):Sl:=[af,ae (.w .tp),↑(cI ps),↑s0.1,ae (.w (.ob (.y (eY (El (bu ps) ps.length s0 J))))),x5,x6,x7,x8,x9]
theorem Rv{g:Sg 2}{n:Int}{K:DEnds}{x5 x7 x8 x9:Option SV}(op:bM ps)(g0:Gk ps 31 s0)(hJ:(El (bu ps) ps.length s0 J).length<=J)(hM:(El (bu ps) ps.length s0 J).length<=30)(hg:Sg.ok ps 2 g)
  (kN:∀x8 x9,K.nx (kH ps s0 J x5 (↑(Sg.d 2 g)) x7 x8 x9) n):pW (kH ps s0 J x5 (↑(Sg.d 2 g)) x7 x8 x9) n K:=by
 have V:(Lr (bu ps) ps.length s0 J).length=(El (bu ps) ps.length s0 J).length:=by rw[<-iT,Ab]
 have M:(Lr (bu ps) ps.length s0 J).length<=J:=by simp_all
 have q:∀k∈Lr _ ps.length s0 J,Gk ps 0 k:=λk j=>by
  rw[<-iT]at j;obtain⟨e,U,rfl⟩:=A5.mp j;obtain⟨l,E,A,C,H⟩:=((qf (Gk:=Gk ps) (λ_ _ _ _ g _ h=>rL g h) g0 J hM) e U).2;exact⟨l,E,A,C,by omega⟩
 have D:∀s i b,s∈Lr _ ps.length s0 J->i<=ps.length->bu ps s i=ae b->b∈Lr _ ps.length s0 J:=λs i b l y e=>IM M l y e;have L:s0∈Lr (bu ps) ps.length s0 J:=by
  have:=(kf s0 0 J).subset (show s0∈Lr (bu ps) ps.length s0 0 by simp[Lr]);simp_all
 have P:=op.1;have Q:∀k∈Lr _ ps.length s0 J,Small k.1:=λk j=>by
  obtain⟨l,E,e,ok,_⟩:=q k j;rw[e];exact Mu ok.1 ok.2.1 ⟨Ba ok.2.2.1 ∎,ok.2.2.2⟩
 have c:∀(f:Ad)(R:DQ),((f=.tuple [.str "never",.list _]/\∀k∈Lr _ ps.length s0 J,gL ps g k=ai)\/∃(k:TK)(t:List Nat),f=.tuple [.str "seen",.list _]/\k∈Lr _ ps.length s0 J/\gL ps g k=ah/\gf _ s0 t=ae k/\∀x∈t,x<=ps.length)->R _ n->
   kO _ de da [.d _,.d s0.1,.d _,.ob _,.d f] n R:=λtold R T r=>by
  refine⟨_,s0,_,_,_,_,_,λk=>k∈Lr _ ps.length s0 J,gL ps g,rfl,Lz q D,by omega,(zV (aft:=bu ps) (N:=ps.length) (s0:=s0) J),?_⟩;rw[iT];exact⟨λk j=>j,L,λs l i b y e=>D s i b l y e,Q,λk j n R r=>vS (q k j) hg r,T,r⟩
 unfold pW aP d3;refine aB (Al ⟨by decide,by decide⟩ (eD (λds δ m=>m=n/\∃x8 x9,δ=kH ps s0 J x5 _ x7 x8 x9) (λδ m I=>?_) (λd r δ m F I G=>?_) _ _ _ ⟨rfl,x8,x9,rfl⟩))
 ·obtain⟨rfl,x8,x9,rfl⟩:=I;simp_all
 ·obtain⟨rfl,x8,x9,rfl⟩:=I;refine⟨show 9 < 10 by decide,⟨λx p=>?_,_,s0,_,_,_,λk=>k∈Lr _ ps.length s0 J,J,_,rfl,IS q D,L,by omega,M,by omega,λk j n R r=>vS (q k j) hg r,λhf=>⟨⟨_,_,rfl⟩,?_⟩,λk t A C H O=>⟨⟨_,_,rfl⟩,?_⟩⟩⟩
  ·rcases Au.mp p with rfl|p
   ·exact⟨7,OD op⟩
   ·rcases Au.mp p with rfl|p
    ·exact⟨6,s0.2⟩
    ·rw[A2.mp p];exact⟨_,tI 2 0 g hg⟩
  ·exact c _ (λb S=>b=.d _/\_) (.inl ⟨rfl,hf⟩) ⟨rfl,G _ _ ⟨rfl,_,_,rfl⟩⟩
  ·exact c _ (λb S=>b=.d _/\_) (.inr ⟨k,t,rfl,A,C,H,O⟩) ⟨rfl,G _ _ ⟨rfl,_,_,rfl⟩⟩
theorem KQ{n:Int}{K:DEnds}{x5 x6 x7 x8 x9:Option SV}(op:bM ps)(g0:Gk ps 31 s0)(hJ:(El (bu ps) ps.length s0 J).length<=J)(hM:(El (bu ps) ps.length s0 J).length<=30)(hn:n+400 < 2 ^ 39)
  (kN:∀x6 x7 x8 x9 (n':Int),n'<=n+400->K.nx (kH ps s0 J x5 x6 x7 x8 x9) n'):vt (kH ps s0 J x5 x6 x7 x8 x9) n K:=by
 have B:=op.1;have v:0 < (El (bu ps) ps.length s0 J).length:=by
  have h:=(kf (aft:=bu ps) (N:=ps.length) s0 0 J).length_le;rw[Nat.zero_add,<-iT J,Ab]at h;exact h
 refine az (bg (au rfl (au rfl (aB (Cb ps ⟨rfl,op,by show n+320 < _;omega,λg f c b=>?_⟩)))));have b:f<=n+320:=b;dsimp only[A0];have a:∀g n' x7,Sg.ok ps 2 g->n'<=n+400->pW (kH ps s0 J x5 _ x7 x8 x9) n' K:=λg n' x7 c l=>Rv op g0 hJ hM c λx8 x9=>kN _ _ _ _ _ l;by_cases z:0 < ps.length
 ·refine az (cz (kj (λQ q=>aE (λQ q=>ar (oK rfl (aB (by show Q (.d (.bool (decide _))) f;rw[Ab,b_ ⋯];exact q)))) q) (ar (bO (au rfl (aB (oP ⋯ ∎ ∎ λr O T=>aB (FA ?_))))))));show if decide _=ah then _ else _
  by_cases p:r=0
  ·rw[a' (b_ p)];refine az (bO (au rfl (oK rfl (oP ⋯ (by rw[Ab];omega) (by rw[Ab];omega) λh R u=>?_))));obtain⟨h,rfl⟩:∃j:Nat,h=j:=⟨h.toNat,by omega⟩;rw[Ab]at u;dsimp only[A0];refine(ar (cv (aB (au rfl (Al (show 2<=1000 by decide) (ar (ar (ar (aV (oS rfl ⟨_,.inr rfl,by rw[Ab];omega,?_⟩))))))))));refine bO (au rfl (aQ (oS rfl ⟨_,_,rfl,.inr rfl,?_⟩)));rw[Ab];refine oP ⋯ ⋯ ⋯ λj A S=>jS A (by rw[Ab,Ab];omega) λd F=>?_;obtain⟨k,y,rfl⟩:=A5.mp F;obtain⟨e,G,rfl⟩:=A5.mp y;obtain⟨M,I,C,E,_⟩:=((qf (Gk:=Gk ps) (λ_ _ _ _ g _ h=>rL g h) g0 J hM) e G).2;rw[C];obtain⟨P,t,i,L,w,s,H⟩:=gH E.2.1 (show h < ps.length by omega);refine aB (cQ (au rfl (bb H.hD ?_)));dsimp only[du];refine aB ?_;dsimp only;refine ja (show 2+2<=1000000 by decide) ?_;have x:=op.2 P (Ay H.prog);have m:t<=100:=by have:=(Aq.mp H.blk).1;have:=x.2.1;omega
   have o:i<=100:=by have u:i<=s.length:=H.hn.pl;have U:s.length<=8:=((x.2.2 _ (Ay H.blk)).1).2.2.1;omega
   exact(a (Sg.bs 2 (.at h t i)) (f+1+1+1) (↑(.int h)) (yJ ps 2 _ ⟨by omega,m,o⟩) ⋯)
  ·rw[a_ (by simpa using p)];exact a g _ _ c ⋯
 ·exact az (aT (λQ q=>lW (λQ q=>aE (λQ q=>ar (oK rfl (aB (by show Q (.d (.bool (decide _))) f;rw[Ab,c_ ⋯];exact q)))) q) q) (a g _ _ c ⋯))
end
theorem P2:SW (af::ae (.w .tp)::C5 8 af) 0 rk:=by
 refine az (dh (au rfl ⟨rfl,by decide,λps l i A p s g v=>?_⟩));refine Al rfl ?_;dsimp only[bF,di,A0];have D:=g.1;obtain⟨b,o⟩:∃b:TK,b.1=bR l i:=⟨⟨_,BW s g.2⟩,rfl⟩;have t:Gk ps 31 b:=⟨l,i,o,⟨p,s,by omega,g.2⟩,by omega⟩;rw[<-o];refine az (⟨_,b,30,_,_,_,rfl,vA ps,t,by decide,by decide,?_,λJ x z=>?_⟩)
 ·dsimp only[nr,B9];refine az (e8 (λQ q=>aE (k:=ah) (λQ q=>ar (P7 rfl (aB (.inr (Lk q))))) q) ?_);rw[a' rfl];exact aB (Al ⟨by decide,by decide⟩ rfl)
 ·dsimp only[nr,B9];refine az (e8 (λQ q=>aE (λQ q=>ar (oS rfl (aB (.inr (R5 q))))) q) ?_);rw[a_ A3];refine aB (Al ⟨by decide,by decide⟩ (eD (λds δ n=>n+400*(ds.length:Int)<=A+1200/\∃j x6 e f c,δ=kH ps b J j x6 e f c) (λδ n I=>?_) (λd r δ n N I u=>?_) _ _ _ ⟨?_,_,_,_,_,_,rfl⟩))
  ·rfl
  ·obtain⟨B,j,x6,e,f,c,rfl⟩:=I;rw[Ax]at B;exact KQ p t x z ⋯ λx6 e f c F y=>u _ _ ⟨by omega,_,x6,e,f,c,rfl⟩
  ·rw[eJ];simp
theorem JI:∀ws n Q,lE eO ws n Q->ws.length=2:=λws n Q h=>by obtain⟨_,_,_,_,_,_,rfl,_⟩:=h;rfl
theorem RR:∀ws n Q,lE eO ws n Q->GP (cL ["programs","stand","steps","stands"] ws) n {nx:=λ_ _=>False,rt:=λ_ _=>False,rx:=Q}:=Jd eO
theorem IW:∀ws n Q,lG ws n Q->ws.length=2:=λws n Q h=>by obtain⟨_,_,_,rfl,_⟩:=h;rfl
theorem JU:∀ws n Q,lG ws n Q->HN (cL ["steps","stand","movers","step"] ws) n {nx:=λ_ _=>False,rt:=λ_ _=>False,rn:=Q}:=PU
theorem LJ:∀ws n Q,l9 (dm 3) ws n Q->ws.length=3:=λws n Q h=>by obtain⟨_,_,_,_,rfl,_⟩:=h;rfl
theorem Ll:∀ws n Q,l9 (dm 3) ws n Q->Rm (cL ["programs","stands","sight","stand"] ws) n {nx:=λ_ n=>Q (.d .none) n,rt:=Q}:=L3 _
theorem LH:∀ws n Q,oE de da ws n Q->ws.length=3:=λws n Q h=>by obtain⟨_,_,_,_,_,_,rfl,_⟩:=h;rfl
theorem L5:∀ws n Q,oE de da ws n Q->JZ (cL Za ws) n {nx:=λ_ _=>False,rt:=λw n=>w=.d .none/\Q af n,rx:=λkvs n=>Q (ae kvs) n}:=LN de da
theorem SK:∀ws n Q,l5 de da ws n Q->ws.length=3:=λws n Q h=>by obtain⟨_,_,_,_,_,_,_,rfl,_⟩:=h;rfl
theorem OY:∀ws n Q,l5 de da ws n Q->Om (cL Zh ws) n {nx:=λ_ n=>Q (.d .none) n,rt:=Q}:=Ja de da
end Nb
namespace Nb
open PySem L2
def vI(K:Ag):Sp:=λvs H Q _=>∃(a:z_)(ns:List Int),vs=[.ref a]/\SqL K H a (ns.map V.int)/\ns.length<=63 /\
 ∀(t p g:z_)(H':Hp),H' t=ae (.lst [.ref p,.int 0,.int 0,.ref g])->H' p=ae (.lst (ns.map V.int))->t≠p->Q (.ref t) H'
abbrev yr:TE:=i4 (bJ (tC .non) (bJ (tC .non) (bJ (tC .non) (bJ (tC (.int 1)) (bJ (tC (.int 2)) bf)))))
end Nb
namespace DL
open PySem L2 Nb
section
variable{P:Bb}{w:Bj}{K:Ag}{mg:Str->Option Af}{base:Heap}
theorem JW{f:z_}{fd:B8}{st:Stmt}{N:List Str}{k:Nat}{W:aH}(F:Fun K "law" "law" st f fd)(Sc:FnScope N ["_law_script"] (bN st))
  (hN:∀v,start N [v]=ae v::af::C5 (N.length-2) af)
  (hW:W (af::ae (.w .tp)::C5 (N.length-2) af) 0 rk)
  (hbody:∀(m_:Af)(A:Bt)(outer:List Env)(s:Aj)(H:Hp)(E:XK),Room k (A.deeper (Ct "law" (bN st) s.heap.objs.size f m_))->
   ∃s0 s1 aC T,eF st=s0::s1::aC/\PS (cn b6 P w K mg base N "law" (bN st) f m_ A outer s H E).nox s0 (bz (eL (vI K) [] E0 (bJ (aM 0) bf)) (df 1))/\PS (cn b6 P w K mg base N "law" (bN st) f m_ A outer s H E).nox s1 (bz yr (iM (aM 1) (tC (.int 3)) qH))/\DSs (cn b6 P w K mg base N "law" (bN st) f m_ A outer s H E).nox aC T W):
  FnOk P w K mg base b6 (k+1) f fd ["_law_script"] (spLaw K):=by
 refine F.ok Sc (λvs H Q E h=>?_) (λm_ A outer s H S Q E L h=>?_)
 ·obtain⟨a,i,rfl,_⟩:=h;rfl
 ·obtain⟨a,i,rfl,I,o,J⟩:=h;obtain⟨s0,s1,aC,T,e,G,x,d⟩:=hbody m_ A outer s H E L;rw[e];refine⟨_,fK G (fK x d.ps),?_⟩;rw[hN];refine⟨_,rfl,a,i,rfl,I,o,λt p g D y O l=>⟨small ∎,λq u=>?_⟩⟩;have b:q≠t:=λz=>by rw[z,y]at u;cases u
  have j:q≠p:=λz=>by simp_all
  refine⟨_,rfl,t,_,3,3,rfl,rfl,(by rw[aL b.symm];omega),rfl,?_⟩;have C:Tp (upd (upd D q (.lst pV)) t _) t ⟨p,q⟩ i 0:={
   ob:=⟨0,0,bj,Int.le_refl _,Int.le_refl _⟩
   ls:=by rw[aL l.symm,aL j.symm];omega
   len:=o
   ag:=λ_=>by rw[aL b,bj]
   gne:=b}
  refine d.sd _ _ _ _ _ 0 rk _ (Qm C) hW ⟨?_,?_,?_,?_,λ_ _ _ _ _ _ _ _ _ _ _ _ _ z=>z.elim,λ_ _ _ _ _ _ _ _ _ _ _ _ _ z=>z.elim⟩
  ·exact λ_ _ _ _ _ _ z=>z.elim
  ·intro H B σ δ n v w R r z;subst z;cases(show RdX H B v (.bool ah)from r);exact J H
  ·exact λ_ _ _ _ _ _ z=>z.elim
  ·exact λ_ _ _ _ _ _ z=>z.elim
end
end DL
namespace Nb
open PySem L2 DL
theorem MI{α:Type}{us:List α}(h:us.length=1):∃a,us=[a]:=match us,h with|[a],_=>⟨a,rfl⟩
theorem Pp{α:Type}{us:List α}(h:us.length=2):∃a b,us=[a,b]:=match us,h with|[a,b],_=>⟨a,b,rfl⟩
theorem Ki{α:Type}{us:List α}(h:us.length=3):∃a b c,us=[a,b,c]:=match us,h with|[a,b,c],_=>⟨a,b,c,rfl⟩
theorem Lj{α:Type}{us:List α}(h:us.length=4):∃a b c d,us=[a,b,c,d]:=match us,h with|[a,b,c,d],_=>⟨a,b,c,d,rfl⟩
theorem GY{α:Type}{us:List α}(h:us.length=5):∃a b c d e,us=[a,b,c,d,e]:=match us,h with|[a,b,c,d,e],_=>⟨a,b,c,d,e,rfl⟩
theorem lb{N ps:List Str}{S:Et}(h1:S.kind=.function:=by rfl)(h2:S.isCoroutine=ai:=by rfl)(h3:S.isGenerator=ai:=by rfl)(h4:N.Nodup:=by decide +kernel)(h5:N.take ps.length=ps:=by rfl)(h6:∀x∈ps,S.names.lookup x=ae .local\/S.names.lookup x=ae .cell:=by decide +kernel)(h7:∀y∈S.names,y.2≠.free:=by decide +kernel):FnScope N ps S:=⟨h1,h2,h3,h4,h5,h6,h7⟩
theorem rY{X:Cx}{e:Expr}{es:List Expr}{pos p:Pos}{tR:TA}{wR:cY}{k k':Nat}{ps:List Str}{S:aJ}{x:Str}(h:Has X.prog X.w X.K X.mg X.base k x ps S)(hr:Room k' X.A)(ha:DA X (e::es) tR wR)(hk:k<=k')(hg:Gl X x)(hdb:(x==("__debug__":Str))=ai)(he:Ar (e::es) X.env=(ai,eval e X.env)::Ar es X.env)(p_:(Cp pos (Ar es X.env)).any (·.1)=ai):DE X (.Call (.Name x p) (e::es) [] pos) (eL (dy S) [] E0 tR) (aA S wR):=EH h (hr.mono hk) hg ha hdb he p_
theorem tG{X:Cx}{e:Expr}{es:List Expr}{pos p:Pos}{tR:TA}{wR:cY}{k k':Nat}{ps:List Str}{S:ee}{x:Str}(h:HasN X.prog X.w X.K X.mg X.base k x ps S)(hr:Room k' X.A)(ha:DA X (e::es) tR wR)(hk:k<=k')(hg:Gl X x)(hdb:(x==("__debug__":Str))=ai)(he:Ar (e::es) X.env=(ai,eval e X.env)::Ar es X.env)(p_:(Cp pos (Ar es X.env)).any (·.1)=ai):DF X (.Call (.Name x p) (e::es) [] pos) (eL (lP S) [] E0 tR) (n6 S wR):=Hf h (hr.mono hk) hg ha hdb he p_
theorem ux{X:Cx}{e:Expr}{es:List Expr}{pos p pos' ap:Pos}{tR:TA}{wR:cY}{k k' i:Nat}{ps:List Str}{S:eR}{x y:Str}(h:HasX X.prog X.w X.K X.mg X.base k x ps S)(hr:Room k' X.A)(ha:DA X (e::es) tR wR)(hk:k<=k')(hg:Gl X x)(hN:X.N.Nodup)(hi:X.N[i]?=ae y)(hx:eZ X.env.scope y)(hs:Ci (.Call (.Name x p) (e::es) [] pos) (ae (.Name y pos')) ap.line X.env=pure ai)(hf:X.fn y=ah\/X.env.scope.names.lookup y=ae .local)(hdb:(x==("__debug__":Str))=ai)(he:Ar (e::es) X.env=(ai,eval e X.env)::Ar es X.env)(p_:(Cp pos (Ar es X.env)).any (·.1)=ai):DS X (.Assign [.Name y pos'] (.Call (.Name x p) (e::es) [] pos) ap) (bz (eL (nu S) [] E0 tR) (df i)) (qz i S wR):=QN h (hr.mono hk) hg hN hi hx ha hs hf hdb he p_
theorem Nj{X:Cx}{e:Expr}{es:List Expr}{pos p pos' ap:Pos}{tR:TA}{wR:cY}{k k' i:Nat}{ps:List Str}{S:jl}{x y:Str}(h:HasXO X.prog X.w X.K X.mg X.base k x ps S)(hr:Room k' X.A)(ha:DA X (e::es) tR wR)(hk:k<=k')(hg:Gl X x)(hN:X.N.Nodup)(hi:X.N[i]?=ae y)(hx:eZ X.env.scope y)(hs:Ci (.Call (.Name x p) (e::es) [] pos) (ae (.Name y pos')) ap.line X.env=pure ai)(hf:X.fn y=ah\/X.env.scope.names.lookup y=ae .local)(hdb:(x==("__debug__":Str))=ai)(he:Ar (e::es) X.env=(ai,eval e X.env)::Ar es X.env)(p_:(Cp pos (Ar es X.env)).any (·.1)=ai):DS X (.Assign [.Name y pos'] (.Call (.Name x p) (e::es) [] pos) ap) (bz (eL (mV S) [] E0 tR) (df i)) (sY i S wR):=Ng h (hr.mono hk) hg hN hi hx ha hs hf hdb he p_
theorem ue{X:Cx}{pos p0 p1 p2 p3 p4 cp:Pos}{x0 x1 x2 f:Str}{h i j k k':Nat}{ps:List Str}{Sa:aJ}{wR:cY}(F:HasM X.prog X.w X.K X.mg X.base k f ps Sa)(hr:Room k' X.A)(ha:DA X [.Name x0 p1,.Name x1 p2,.Name x2 p3] (bJ (aM h) (bJ (aM i) (bJ (aM j) bf))) wR)(hk:k<=k')(hg:Gl X f)(hN:X.N.Nodup)(h2:X.N[j]?=ae x2)(hx:eZ X.env.scope x2)(hij:i≠j)
  (hs:Ci (.Call (.Name f p0) [.Name x0 p1,.Name x1 p2,.Name x2 p3] [] cp) (ae (.Name x2 p4)) pos.line X.env=pure ai) (hf:X.fn x2=ah\/X.env.scope.names.lookup x2=ae .local) (hdb:(f==("__debug__":Str))=ai) (he:Ar (.Name x0 p1::[.Name x1 p2,.Name x2 p3]) X.env=(ai,eval (.Name x0 p1) X.env)::Ar [.Name x1 p2,.Name x2 p3] X.env) (p_:(Cp cp (Ar [.Name x1 p2,.Name x2 p3] X.env)).any (·.1)=ai):
  DS X (.Assign [.Name x2 p4] (.Call (.Name f p0) [.Name x0 p1,.Name x1 p2,.Name x2 p3] [] cp) pos) (bz (eL (pX Sa) [] E0 (bJ (aM h) (bJ (aM i) (bJ (aM j) bf)))) (df j)) (iN Sa h i j):=Jk F (hr.mono hk) hg hN h2 hx hij ha hs hf hdb he p_
def Rb:NameKind->Bool
 |.local=>ah
 |_=>ai
def yo:NameKind->Bool
 |.free=>ah
 |_=>ai
def pQ(sc:Et):List Str:=(sc.names.filter λy=>yo y.2).map (·.1)
def cN(sc:Et):List Str:=((sc.names.drop 1).filter λy=>Rb y.2).map (·.1)++pQ sc
def qy(sc:Et)(cells:List (Str×z_)):List (Str×z_):=(pQ sc).reverse.map λx=>(x,(cells.lookup x).getD 0)
def oZ(sc:Et):List (Str×NameKind):=sc.names.map λy=>(y.1,bif yo y.2 then .cell else y.2)
inductive Frs(X:Cx)(sc:Et):List (Option Nat)->List Str->Prop
 |nil:Frs X sc [] []
 |own {f:List (Option Nat)} {x:Str} {N:List Str} (h:Frs X sc f N):Frs X sc (af::f) (x::N)
 |free {f:List (Option Nat)} {x:Str} {N:List Str} {i:Nat} (h1:X.N[i]?=ae x) (h2:ej X.env.scope x) (h3:X.env.kindOf x=ae .cell\/X.env.kindOf x=ae .free) (h4:(oZ sc).lookup x=ae .cell\/(oZ sc).lookup x=ae .free) (h5:(qy sc X.env.cells).lookup x=X.env.cells.lookup x) (h:Frs X sc f N):Frs X sc (ae i::f) (x::N)
theorem Frs.len{X:Cx}{sc:Et}{f:List (Option Nat)}{N:List Str}(h:Frs X sc f N):f.length=N.length:=by
 induction h with
 |nil=>rfl
 |own _ a=>rw[Ax,Ax,a]
 |free _ _ _ _ _ _ a=>rw[Ax,Ax,a]
theorem Iw{X:Cx}{sc:Et}{f:List (Option Nat)}(h1:closureFor sc X.env=pure (qy sc X.env.cells))(h2:sc.kind=.function)(h3:∀y∈sc.names,y.2≠.cell)(h4:∀y∈sc.names,y.2=.local->sc.names.lookup y.1=ae .local)(h5:((pQ sc).all λx=>(X.env.cells.lookup x).isSome)=ah)(h6:(relabel sc X.env).names=oZ sc)(h7:∀y∈oZ sc,(y.2=.cell\/y.2=.free)->y.1∈(pQ sc).reverse)(h8:Frs X sc f (cN sc)):CompSc X (cN sc) sc (qy sc X.env.cells) f:=by
 refine⟨h1,h2,h3,h4,Kc λy n=>?_,KY _ _ h6 (by unfold qy;rw[B4];exact List.map_id' _) h7,h8.len,?_⟩
 ·obtain⟨x,m,rfl⟩:=A5.mp n;obtain⟨c,o⟩:=C1.mp (Cy.mp h5 x (List.mem_reverse.mp m));simp_all
 ·intro j i h;rw[h6];generalize cN sc=N at h8 ⊢
  induction h8 generalizing j with
  |nil=>cases h
  |own _ k=>cases j with
   |zero=>cases h
   |succ j=>exact k j h
  |free a b c d e _ k=>cases j with
   |zero=>cases h;exact⟨_,rfl,a,b,c,d,e⟩
   |succ j=>exact k j h
theorem HI{X:Cx}{sc:Et}{f:List (Option Nat)}{N:List Str}(h:Frs X sc f N):Frs X sc f N:=h
theorem kC{X:Cx}{N:List Str}{sc:Et}{cl:List (Str×z_)}{s:Aj}{H:Hp}{fp:List z_}{K:Ag}(h:X.K=K):(cW X N sc cl s H fp).K=K:=h
theorem nC{X:Cx}{N:List Str}{sc:Et}{cl:List (Str×z_)}{s:Aj}{H:Hp}{fp:List z_}(h:N.Nodup):(cW X N sc cl s H fp).N.Nodup:=h
def zL:List Str:=["all","any","bool","dict","enumerate","int","isinstance","len","list","range","repr","reversed","set","sorted","str","tuple","zip"]
theorem zU{mg:Str->Option Af}{x:Str}(z:∀x∈zL,mg x=af)(h:x∈zL):mg x=af:=z x h
theorem Mh:Bm "set"=ae (.type "set"):=by rfl
theorem M0:Bm "sorted"=ae (.builtin "sorted"):=by rfl
section
variable{P:Bb}{w:Bj}{K:Ag}{mg:Str->Option Af}{base:Heap}{fa:z_}{fd:B8}
theorem QX{X:Cx}{e:Expr}{t:TE}{w:DT}(h:DE X e t w):DE X e t w:=h
theorem MD{X:Cx}{e:List Expr}{t:TA}{w:cY}(h:DA X e t w):DA X e t w:=h
theorem Ih{X:Cx}{e:Stmt}{t:TS}{w:aH}(h:DS X e t w):DS X e t w:=h
theorem uQ{X:Cx}{e:List Stmt}{t:TS}{w:aH}(h:DSs X e t w):DSs X e t w:=h
theorem J8{X:Cx}{e:Expr}{t:TT}{w:b3}(h:DC X e t w):DC X e t w:=h
theorem NL{X:Cx}{e:Expr}{t:TE}{w:d6}(h:DF X e t w):DF X e t w:=h
theorem Ln{X:Cx}{g e:Expr}{t:TI}{w:fW}(h:DI X g e t w):DI X g e t w:=h
theorem NR{X:Cx}{b aC:List Stmt}{st:Stmt}{T:TS}{W:aH}(e:b=st::aC)(h:DSs X (st::aC) T W):DSs X b T W:=e▸h
theorem jI{x:Str}{st:Stmt}{ps:List Str}(F:Fun K x x st fa fd)(h:∀(kV doc pm:Af) (an:Option z_) (m_ ct:Af) (us:List Af),us.length=ps.length->bindArgs (E5 x x (kY st) (eF st) (bN st) .none kV doc pm an m_ ct) ⟨us,[]⟩=pure (ps.zip us):=by
 intro _ _ _ _ _ _ us hl
 first
  |obtain⟨_,rfl⟩:=MI hl;rfl
  |obtain⟨_,_,rfl⟩:=Pp hl;rfl
  |obtain⟨_,_,_,rfl⟩:=Ki hl;rfl
  |obtain⟨_,_,_,_,rfl⟩:=Lj hl;rfl
  |obtain⟨_,_,_,_,_,rfl⟩:=GY hl;rfl):Binds K fd ps []:=F.binds h
def lY(x:Str)(st:Stmt)(ps:List Str):Prop:=∀{K:Ag}{fa:z_}{fd:B8},Fun K x x st fa fd->Binds K fd ps []
def fQ(P:Bb)(w:Bj)(K:Ag)(mg:Str->Option Af)(base:Heap)(k:Nat)(x:Str)(i:Nat)(fa:z_)(N:List Str)(b:List Stmt)(W:aH):Prop:=N.Nodup->∀(m_:Af)(A:Bt)(outer:List Env)(s:Aj)(H:Hp)(E:XK),Room k (A.deeper (Ct x (bN (bV i)) s.heap.objs.size fa m_))->∃T,DSs (cn b6 P w K mg base N x (bN (bV i)) fa m_ A outer s H E).nox b T W
theorem l7{k:Nat}{x:Str}{i:Nat}{N:List Str}{b:List Stmt}{W:aH}(h:N.Nodup->∀(m_:Af) (A:Bt) (outer:List Env) (s:Aj) (H:Hp) (E:XK),Room k (A.deeper (Ct x (bN (bV i)) s.heap.objs.size fa m_))->∃T,DSs (cn b6 P w K mg base N x (bN (bV i)) fa m_ A outer s H E).nox b T W:=by
 intro nd m_ A outer s H E hr;apply Cb;apply NR (by exact rfl)
 repeat' first
  |with_reducible first|exact Tc|exact Ik|exact Je|exact MV|exact LX|exact DW|exact Fx|exact o4|exact PyProof.Rows.boot_range|exact Rk|exact Mh|exact M0|exact Nd|exact Sk
  |with_reducible first|apply Room.units|apply Room.units0|apply Room.hd|apply Room.gd
  |exact rfl
  |exact Ce rfl
  |exact Bz (Ce rfl)
  |exact Bz (Bz rfl)
  |exact Bz rfl
  | (with_reducible apply QX;with_reducible first|apply gC|apply AS|apply Q9|apply rY|apply Hk|apply wU|apply zq|apply jQ (vc ?_) sj ?_ ?_ ?_ ?_ ?_ ?_ ?_ ?_|apply Rj|apply sQ|apply PY|apply uf|apply Q8|apply EM|apply PF|apply Qp|apply kx (pO ?_ ?_) pA|apply zZ (w6 ?_) ER ?_ ?_ ?_ ?_ ?_ ?_ ?_ ?_|apply GH|apply jQ (vc ?_) JD ?_ ?_ ?_ ?_ ?_ ?_ ?_ ?_|apply Jr|apply SD|apply IY|apply zZ (w6 ?_) Rz ?_ ?_ ?_ ?_ ?_ ?_ ?_ ?_|apply Mx|apply Jx|apply Nk|apply Ot|apply N1|apply BX|apply Qr|apply SS|apply kx Mr HV|apply kx (qZ ?_) i7|apply kx (qp ?_) i7|apply jQ zJ DV ?_ ?_ ?_ ?_ ?_ ?_ ?_ ?_|apply jQ (call_reprN.or (Me ?_ ?_ ?_)) Ny ?_ ?_ ?_ ?_ ?_ ?_ ?_ ?_|apply r9|apply GD|apply PJ|apply O8|apply kx (ED ?_ ?_) zO|apply kx vH rS|apply kx vk r8|apply jQ (Ni ?_) IG ?_ ?_ ?_ ?_ ?_ ?_ ?_ ?_|apply jQ (Jj ?_) GV ?_ ?_ ?_ ?_ ?_ ?_ ?_ ?_|apply NQ yP DZ yP DZ ?_ ?_ ?_ ?_|apply NC|apply DF.d)
  | (with_reducible apply MD;with_reducible first|apply jz|apply mf)
  | ((with_reducible apply Ih);first|((with_reducible apply GA);case hx=>exact rfl)|((with_reducible apply JH);case hx=>exact rfl)|with_reducible first|apply NS|apply kQ|apply EL|apply rG|apply z4|apply zm|apply Qw|apply Lq|apply Hb|apply CZ|apply ML|apply Ky|apply Kn|apply RW|apply IT|apply DD|apply ue|apply NO|apply KL|apply FX|apply Mw|apply Nj|apply ux)
  | (with_reducible apply uQ;with_reducible first|apply II|apply JF|apply Ls|apply Sz|apply lV|apply sk|apply xm|apply nI)
  | ((with_reducible apply J8);first|(with_reducible apply DCW.cc;with_reducible first|apply cw_and|apply cw_or)|with_reducible first|apply f5 (pO ?_ ?_) pA|apply f5 (pO ?_ ?_) Nn|apply f5 HX Jv|apply f5 vk r8|apply f5 OT O3|apply f5 (qp ?_) i7|apply OI|apply f5 vH rS|apply f5 Ko Kf|apply f5 (ED ?_ ?_) zO|apply zh|apply f5 (qZ ?_) Py|apply f5 (qZ ?_) i7|apply La|apply NM|apply MZ|apply Pe|apply S4|apply f5 vH Se|apply Ph)
  | (with_reducible apply NL;with_reducible first|apply EW|apply uO|apply Qu|apply O6|apply LB|apply RO|apply Jc|apply PH|apply tG)
  | (with_reducible apply Ln;with_reducible first|apply zM|apply Qz|apply Js|apply Q7|apply N7|apply yO)
  |with_reducible first|apply uv|apply FN|apply sJ|apply Mq|apply Tn|apply Ti|apply J5|apply Kg|apply cw_or|apply cw_or1|apply Ji|apply cw_and|apply cw_and1|apply zo|apply Nh|apply OH|apply Hg|apply Iw
  |assumption
  |with_reducible first|apply kC|apply nC
  | ((with_reducible apply HI);first|apply Frs.nil|apply Frs.own|apply Frs.free)
  |exact j1 _
  |exact λ_ _=>rfl
  |exact λ_=>rfl
  |exact zU (by assumption) ∅
  |exact PassesOwn.never
  |exact⟨rfl,rfl,rfl,rfl⟩
  |with_unfolding_all rfl
  |decide
  |decide +kernel
  |omega
  |exact Bz (Bz (Ce rfl))
  |exact Bz (Bz (Bz (Ce rfl)))
  |exact Bz (Bz (Bz (Bz rfl)))
  |intro(_:Aj) _ _
  |exact(0:Int)):fQ P w K mg base k x i fa N b W:=h
theorem aR{i:Nat}{N:List Str}{S:aJ}{W:aH}(k p:Nat)(x:Str)(F:Fun K x x (bV i) fa fd/\mg x=ae (.ref fa))(body:cm S W N)(len:∀ws n Q,S ws n Q->ws.length=p:=by(intro _ _ _ h;(repeat obtain⟨_,h⟩:=h);subst_vars;rfl))(hp:(N.take p).length=p:=by rfl)(Sc:FnScope N (N.take p) (bN (bV i)):=by exact lb)(b:lY x (bV i) (N.take p):=by intro _ _ _ F;exact jI F)
  (h:fQ P w K mg base k x i fa N (eF (bV i)) W:=by exact l7):Has P w K mg base (k+1) x (N.take p) S:=
 Has.mk' F.1 F.2 (b F.1) (Fun.okD F.1 Sc (λws n Q q=>by rw[hp];exact len ws n Q q) λm_ A a s H E e=>(h Sc.nd m_ A a s H E e).elim λT d=>⟨T,W,d,body⟩)
theorem sI{i:Nat}{N:List Str}{S:ee}{W:aH}(k p:Nat)(x:Str)(F:Fun K x x (bV i) fa fd/\mg x=ae (.ref fa))(body:∀ws n Q,S ws n Q->W (cL N ws) n {nx:=λ_ _=>False,rt:=λ_ _=>False,rn:=Q})(len:∀ws n Q,S ws n Q->ws.length=p:=by(intro _ _ _ h;(repeat obtain⟨_,h⟩:=h);subst_vars;rfl))(hp:(N.take p).length=p:=by rfl)(Sc:FnScope N (N.take p) (bN (bV i)):=by exact lb)(b:lY x (bV i) (N.take p):=by intro _ _ _ F;exact jI F)
  (h:fQ P w K mg base k x i fa N (eF (bV i)) W:=by exact l7):HasN P w K mg base (k+1) x (N.take p) S:=
 HasN.mk' F.1 F.2 (b F.1) (Fun.okN F.1 Sc (λws n Q q=>by rw[hp];exact len ws n Q q) λm_ A a s H E e=>(h Sc.nd m_ A a s H E e).elim λT d=>⟨T,W,d,body⟩)
theorem t9{i p:Nat}{N:List Str}{S:eR}{W:aH}(k:Nat)(x:Str)(F:Fun K x x (bV i) fa fd/\mg x=ae (.ref fa))(len:∀ws n Q,S ws n Q->ws.length=p)(body:∀ws n Q,S ws n Q->W (cL N ws) n {nx:=λ_ _=>False,rt:=λ_ _=>False,rx:=Q})(hp:(N.take p).length=p:=by rfl)(Sc:FnScope N (N.take p) (bN (bV i)):=by exact lb)(b:lY x (bV i) (N.take p):=by intro _ _ _ F;exact jI F)
  (h:fQ P w K mg base k x i fa N (eF (bV i)) W:=by exact l7):HasX P w K mg base (k+1) x (N.take p) S:=
 HasX.mk' F.1 F.2 (b F.1) (Fun.okX F.1 Sc (λws n Q q=>by rw[hp];exact len ws n Q q) λm_ A a s H E e=>(h Sc.nd m_ A a s H E e).elim λT d=>⟨T,W,d,body⟩)
theorem HU{i p:Nat}{N:List Str}{S:jl}{W:aH}(k:Nat)(x:Str)(F:Fun K x x (bV i) fa fd/\mg x=ae (.ref fa))(len:∀ws n Q,S ws n Q->ws.length=p)(body:∀ws n Q,S ws n Q->W (cL N ws) n {nx:=λ_ _=>False,rt:=λw n=>w=.d .none/\Q af n,rx:=λkvs n=>Q (ae kvs) n})(hp:(N.take p).length=p:=by rfl)(Sc:FnScope N (N.take p) (bN (bV i)):=by exact lb)(b:lY x (bV i) (N.take p):=by intro _ _ _ F;exact jI F)
  (h:fQ P w K mg base k x i fa N (eF (bV i)) W:=by exact l7):HasXO P w K mg base (k+1) x (N.take p) S:=
 HasXO.mk' F.1 F.2 (b F.1) (Fun.okXO F.1 Sc (λws n Q q=>by rw[hp];exact len ws n Q q) λm_ A a s H E e=>(h Sc.nd m_ A a s H E e).elim λT d=>⟨T,W,d,body⟩)
theorem kB{i p:Nat}{N:List Str}{S:Nat->aJ}{W:aJ->aH}(c0:Nat)(x:Str)(F:Fun K x x (bV i) fa fd/\mg x=ae (.ref fa))(len:∀d ws n Q,S d ws n Q->ws.length=p)(z:∀ws n Q,¬S 0 ws n Q)(body:∀d ws n Q,S (d+1) ws n Q->W (S d) (cL N ws) n {nx:=λ_ n=>Q (.d .none) n,rt:=Q})(D:Nat)(hp:(N.take p).length=p:=by rfl)(Sc:FnScope N (N.take p) (bN (bV i)):=by exact lb)(b:lY x (bV i) (N.take p):=by intro _ _ _ F;exact jI F)
  (h:∀k d:Nat,c0<=k->Has P w K mg base k x (N.take p) (S d)->fQ P w K mg base k x i fa N (eF (bV i)) (W (S d)):=by intro k d hk hS;exact l7):Has P w K mg base (c0+D) x (N.take p) (S D):=by
 induction D with
 |zero=>exact Has.mk' F.1 F.2 (b F.1) ⟨λvs H Q E h=>(by obtain⟨_,_,_,_,_,_,_,_,_,_,_,q,_⟩:=h;exact f_ q (z _ _ _)),λA a s H f o m Q E c l t r h=>(by obtain⟨_,_⟩:=h;simp_all)⟩
 |succ d j=>exact Has.mk' F.1 F.2 (b F.1) (Fun.okD F.1 Sc (λws n Q q=>by rw[hp];exact len _ ws n Q q) λm_ A a s H E c=>(h _ d (Nat.le_add_right _ _) j Sc.nd m_ A a s H E c).elim λT e=>⟨T,W _,e,body d⟩)
abbrev Zb:List Str:=["_law_script"]
theorem ub{i:Nat}{N:List Str}{W:aH}{s0 s1:Stmt}{aC:List Stmt}(k:Nat)(F:Fun K "law" "law" (bV i) fa fd)(hW:W (af::ae (.w .tp)::C5 (N.length-2) af) 0 rk)(e:eF (bV i)=s0::s1::aC)(h0:N.Nodup->∀(m_:Af) (A:Bt) (outer:List Env) (s:Aj) (H:Hp) (E:XK),Room k (A.deeper (Ct "law" (bN (bV i)) s.heap.objs.size fa m_))->PS (cn b6 P w K mg base N "law" (bN (bV i)) fa m_ A outer s H E).nox s0 (bz (eL (vI K) [] E0 (bJ (aM 0) bf)) (df 1))/\PS (cn b6 P w K mg base N "law" (bN (bV i)) fa m_ A outer s H E).nox s1 (bz yr (iM (aM 1) (tC (.int 3)) qH)))(hN:∀v,start N [v]=ae v::af::C5 (N.length-2) af:=by intro _;rfl)(Sc:FnScope N Zb (bN (bV i)):=by exact lb)
  (h:fQ P w K mg base k "law" i fa N aC W:=by exact l7):FnOk P w K mg base b6 (k+1) fa fd Zb (DL.spLaw K):=
 JW F Sc hN hW λm_ A outer s H E a=>(h Sc.nd m_ A outer s H E a).elim λT d=>⟨s0,s1,_,T,e,(h0 Sc.nd m_ A outer s H E a).1,(h0 Sc.nd m_ A outer s H E a).2,d⟩
theorem Oe{X:Cx}{b aC:List Stmt}{st:Stmt}{Sa:aJ}(e:b=st::aC)(h:kP X (st::aC) Sa):kP X b Sa:=e▸h
abbrev Ze:List Str:=["programs","steps","stands"]
theorem sT{k ka tk:Nat}(F:Fun K "further" "further" (bV 33) fa fd/\mg "further"=ae (.ref fa))(h_after:Has P w K mg base ka "after" ["programs","stand","mover"] eO)(hk:ka<=k)(z_range:mg "range"=af)(z_len:mg "len"=af)(g_MOST_STANDS:mg "MOST_STANDS"=ae (.int 2000 tk))(Sc:FnScope ["programs","steps","stands","fresh","stand","mover","behind"] (Ze:List Str) (bN (bV 33)):=by exact lb)(b:lY "further" (bV 33) Ze:=by intro _ _ _ F;exact jI F):HasM P w K mg base (k+1) "further" Ze eO:=
 ⟨fa,fd,Fun.okM F.1 Sc rfl ∎ (λm_ A d s H E c=>Oe (by rfl) (by
  have a:=Sc.nd;refine⟨_,_,_,((lV (zm a rfl (Ce rfl) (EW mf)) (lV (rG (yO (gC 2)) (uv a rfl (Ce rfl)) (nI (rG (zM (by rfl) z_range (EM (jQ (vc (K:=K)) sj (by rfl) z_len Fx (jz (gC 0) mf)) (AS))) (uv a rfl (Ce rfl)) (lV (EL a rfl (Ce rfl) (EH h_after (c.mono hk) (by rfl) (jz (gC 0) (jz (gC 4) (jz (gC 5) mf))))) (nI (kQ (DCW.cc (cw_and (f5 vk r8 (gC 6) (zq) (j1 _)) (cw_and1 (zh c.units (gC 6) (sQ 1))))) (lV (kQ (f5 (pO c.units0) pA (jQ zJ DV (by rfl) z_len Fx (jz (sQ 1) mf)) (BX (by rfl) g_MOST_STANDS) (j1 _)) xm sk) (lV (CZ c.units rfl (gC 6) (wU (jz (gC 4) (jz (gC 5) mf)))) (nI (z4 rfl (gC 6))))) sk)))))) (nI (DD 3))))).ps,?_,?_,?_⟩
  ·exact λσ H Q q=>q
  ·exact λx y H Q q=>.inl ⟨rfl,(by rw[show decide _=decide (x=y)from decide_eq_decide.mpr ⟨λz=>V.int.inj z,congrArg V.int⟩];exact q)⟩
  ·intro σ H Q B j l e r q;cases r with
   |tup f i m h=>exact⟨_,e,.inr ⟨_,_,rfl,.inr (SqT.of f),_,_,rfl,rfl,by rw[h.len];exact q⟩⟩)),b F.1,F.2,F.1.kp⟩
end
end Nb
namespace Nb
open PySem L2
section
variable{P:Bb}{w:Bj}{K:Ag}{mg:Str->Option Af}{base:Heap}
theorem Hy:FnScope Zb Zb (bN AK):=⟨rfl,rfl,rfl,by decide +kernel,rfl,by decide +kernel,by decide +kernel⟩
theorem RF{f:z_}{fd:B8}(F:Fun K "_law_tape" "_law_tape" AK f fd):FnOk P w K mg base b6 1 f fd Zb (vI K):=by
 refine F.ok Hy (λvs H Q E h=>?_) (λm_ A d s H n Q E t h=>?_)
 ·obtain⟨a,m,rfl,_⟩:=h;rfl
 ·obtain⟨a,m,rfl,l,o,k⟩:=h;refine⟨_,jF (i0 (pL (cw (AA LF (pv 0) wY (xq b8)) (cw b8 (cw b8 (cw (pL (cw kD (cw kD (cw kD (cw b8 (cw b8 (cw b8 (cw b8 eu)))))))) eu)))))),?_⟩;refine⟨_,rfl,_,rfl,a,_,rfl,l,λp r=>⟨small (by simp),λg e=>⟨small (by simp),λq b=>?_⟩⟩⟩;rw[QZ (by rw[Ab];omega)]at e b ⊢;have j:g≠p:=λz=>by rw[z,bj]at e;cases e
  have i:q≠g:=λz=>by rw[z,bj]at b;cases b
  rw[aL i]at b;have c:q≠p:=λz=>by rw[z,bj]at b;cases b
  exact k q p g _ bj (by rw[aL c.symm,aL j.symm,bj]) c
theorem scDraw:FnScope ["_law_tape_here","_law_many","_law_found","_law_spot","_law_cell","_law_mixed"] ["_law_tape_here","_law_many"] (bN xi):=⟨rfl,rfl,rfl,by decide +kernel,rfl,by decide +kernel,by decide +kernel⟩
theorem Sy{R:Prop}{G:Int->Prop}(use:(∀c,G c)->R)(fin:∀c,G c):R:=use fin
theorem RZ{R G:Prop}(use:G->R)(fin:G):R:=use fin
theorem QD{f:z_}{fd:B8}(F:Fun K "_law_draw" "_law_draw" xi f fd)(zl:mg "len"=af):FnOk P w K mg base b6 1 f fd ["_law_tape_here","_law_many"] z0:=by
 refine F.ok scDraw (λvs H Q E h=>?_) (λm_ A outer s H vs Q E hr h=>?_)
 ·obtain⟨t,l,ns,n,many,rfl,_⟩:=h;rfl
 ·obtain⟨t,l,ns,n,many,rfl,T,hn,hm0,hm1,k⟩:=h;obtain⟨a,b,ht,ha0,ha1⟩:=T.ob;have ntl:=T.ne;have hl:=T.ls;have j_:=T.len;refine⟨_,fK (nH (jA op_gt (gp ix_list (pv 0) b8 (λ_ _=>rfl)) b8 (j1 _))
    (fK (fC (i:=2) scDraw.nd rfl (Ce rfl) (dZ jr (gp ix_list (pv 0) b8 (λ_ _=>rfl)) (pv 1)))
     (fK (ly (dZ yR (gp ix_list (pv 0) b8 (λ_ _=>rfl)) (pv 1)) (og (pv 0) b8 oD))
     (jF (i0 (pv 2))))) mF)
   (fK (fC (i:=3) scDraw.nd rfl (Ce rfl) (gp ix_list (pv 0) b8 (λ_ _=>rfl)))
   (fK (ly (dZ op_add (pv 3) b8) (og (pv 0) b8 oD))
   (fK (fC (i:=4) scDraw.nd rfl (Ce rfl) b8)
   (fK (nH (jA op_gt (jG qc (by rfl) zl Fx (cw (gp ix_list (pv 0) b8 (λ_ _=>rfl)) eu)) b8 (j1 _))
    (jF (fC (i:=4) scDraw.nd rfl (Ce rfl) (gp ix_list (gp ix_list (pv 0) b8 (λ_ _=>rfl))
     (dZ jr (pv 3) (jG qc (by rfl) zl Fx (cw (gp ix_list (pv 0) b8 (λ_ _=>rfl)) eu))) (λ_ _=>rfl)))) mF)
   (fK (nH (PW.pt (yq (jA op_ge (pv 4) (dZ IA b8 b8) (j1 _))
     (z7 (jA op_lt (pv 3) (jG qc (by rfl) zl Fx (cw (gp ix_list (pv 0) b8 (λ_ _=>rfl)) eu)) (j1 _)))))
    (fK (ly (dZ yR (pv 4) (pv 1)) (og (pv 0) b8 oD)) (jF (i0 (dZ jr (pv 4) (pv 1))))) mF)
   (fK (fC (i:=5) scDraw.nd rfl (Ce rfl) (dZ jr (dZ lN (dZ op_add (dZ op_add (dZ jr (pv 4) b8) (dZ lN (dZ lN b8 (pv 3)) (pv 3))) b8) b8) b8))
   (jF (i0 (dZ jr (dZ jr (dZ lN (dZ jr (dZ op_add (dZ lN (pv 5) b8) (dZ lN (pv 3) b8)) b8) b8) b8) (pv 1)))))))))),?_⟩
  refine⟨_,rfl,t,_,2,_,rfl,rfl,SqL.of ht,eH (j:=2) rfl,_,_,rfl,rfl,_,rfl,?_⟩;refine js (λ_=>?_) (λ_=>?_)
  ·-- found=tape[2] % many;tape[2]=tape[2] // many;return found
   refine⟨_,rfl,t,_,2,_,rfl,rfl,SqL.of ht,eH (j:=2) rfl,_,rfl,_,_,rfl,rfl,hm0,?_⟩;refine⟨_,rfl,t,_,2,_,rfl,rfl,SqL.of ht,eH (j:=2) rfl,_,rfl,_,_,rfl,rfl,⟨hm0,hm1⟩,?_⟩;refine⟨_,rfl,t,_,2,2,rfl,rfl,ht,rfl,?_⟩;refine⟨_,rfl,?_⟩;refine k _ _ (Int.emod_nonneg _ ⋯) (G2 _ hm0) ⟨⟨a,b / many,bj,ha0,by omega⟩,by rw[aL ntl.symm];exact hl,j_,(λz=>by rw[aL T.gne];exact T.ag z),T.gne⟩ Kp.tape
  ·-- spot=tape[1];tape[1]=spot+1;cell=0
   refine⟨_,rfl,t,_,1,_,rfl,rfl,SqL.of ht,eH (j:=1) rfl,?_⟩;refine⟨_,rfl,_,_,rfl,rfl,_,rfl,t,_,1,1,rfl,rfl,ht,rfl,?_⟩;have ht1:∀o,upd H t o t=ae o:=λo=>bj;have hl1:∀o,upd H t o l.s=ae (.lst (ns.map V.int)):=λo=>by rw[aL ntl.symm];exact hl
   generalize hH1:upd H t (.lst (((.ref l.s::.int a::.int b::ko l:List V)).set 1 (.int (a+1))))=H1;have g1:H1 t=ae (.lst (.ref l.s::.int (a+1)::.int b::ko l)):=by rw[<-hH1];exact bj
   have g2:H1 l.s=ae (.lst (ns.map V.int)):=by rw[<-hH1];exact hl1 _
   have g3:Kp t H H1:=by rw[<-hH1];exact Kp.tape
   have g4:lC=ah->H1 l.g=ae (.lst pV):=λz=>by rw[<-hH1,aL T.gne];exact T.ag z
   refine⟨_,rfl,t,_,0,_,rfl,rfl,SqL.of g1,eH (j:=0) rfl,l.s,_,rfl,.inl (SqL.of g2),_,_,rfl,rfl,_,rfl,?_⟩;apply Sy
   case use=>
    intro fin;refine js (λhp=>?_) (λ_=>?_)
    ·have hpos:(0:Int) < ((ns.map V.int).length:Int):=d_ hp;obtain⟨v,hv,hm⟩:=HB (xs:=ns.map V.int) (r:=a % ((ns.map V.int).length:Int)) (Int.emod_nonneg _ ⋯) (G2 _ hpos);obtain⟨c,_,rfl⟩:=A5.mp hm;refine⟨_,rfl,t,_,0,_,rfl,rfl,SqL.of g1,eH (j:=0) rfl,_,rfl,_,rfl,t,_,0,_,rfl,rfl,SqL.of g1,eH (j:=0) rfl,l.s,_,rfl,.inl (SqL.of g2),_,_,rfl,rfl,hpos,l.s,_,_,.int c,rfl,rfl,SqL.of g2,hv,?_⟩;exact fin c
    ·exact fin 0
   case fin=>
    intro c;refine⟨_,rfl,_,_,rfl,rfl,⟨by decide,by decide,by decide⟩,_,_,rfl,rfl,_,rfl,?_⟩;apply RZ
    case use=>
     intro fin;refine js (λ_=>?_) (λ_=>?_)
     ·refine⟨_,rfl,_,rfl,t,_,0,_,rfl,rfl,SqL.of g1,eH (j:=0) rfl,l.s,_,rfl,.inl (SqL.of g2),_,_,rfl,rfl,_,rfl,?_⟩;refine js (λ_=>?_) (λ_=>fin);refine⟨_,rfl,_,rfl,_,_,rfl,rfl,⟨hm0,hm1⟩,_,rfl,t,_,2,2,rfl,rfl,g1,rfl,_,rfl,_,rfl,_,_,rfl,rfl,hm0,?_⟩;exact k _ _ (Int.emod_nonneg _ ⋯) (G2 _ hm0) ⟨⟨a+1,_,bj,by omega,by omega⟩,by rw[aL ntl.symm];exact g2,j_,(λz=>by rw[aL T.gne];exact g4 z),T.gne⟩ (g3.trans Kp.tape)
     ·exact vf fin
    case fin=>
     refine⟨_,rfl,_,_,rfl,rfl,(by show(0:Int) < 999331;decide),_,rfl,_,_,rfl,rfl,.inl ⟨by decide,by decide⟩,_,rfl,_,_,rfl,rfl,.inl ⟨by omega,by omega⟩,_,_,rfl,rfl,_,_,rfl,rfl,_,_,rfl,rfl,.inr ⟨by decide,by decide⟩,_,_,rfl,rfl,(by show(0:Int) < 999961;decide),?_⟩;refine⟨_,rfl,_,_,rfl,rfl,.inr ⟨by decide,by decide⟩,_,rfl,_,_,rfl,rfl,.inr ⟨by decide,by decide⟩,_,_,rfl,rfl,_,_,rfl,rfl,(by show(0:Int) < 999953;decide),_,_,rfl,rfl,.inr ⟨by decide,by decide⟩,_,_,rfl,rfl,(by show(0:Int) < 524287;decide),_,rfl,_,_,rfl,rfl,hm0,?_⟩;exact k _ _ (Int.emod_nonneg _ ⋯) (G2 _ hm0) ⟨⟨a+1,b,g1,by omega,by omega⟩,g2,j_,g4,T.gne⟩ g3
end
end Nb
namespace Nb
open PySem L2 DL
theorem zE(P:Params):(zL.map λx=>PySem.W.nsIn (KK P) Dv x)=zL.map λ_=>ae af:=by kernel_rfl
section
variable{P:Params}{h:Heap}{mg:Str->Option Af}(X:(KK P).In h)(G:h.Ns Dv mg)
include X G
theorem zR(j:Nat)(d:Ds)(e:dL[j]?=ae d):(Fun (KK P) d.x d.x (bV d.i) d.f (jW d)/\mg d.x=ae (.ref d.f))/\Co (KK P) (.ref d.f)=ah:=by
 obtain⟨b,a⟩:=Prod.mk.inj (wO (Jy P) e);obtain⟨a,c⟩:=Prod.mk.inj a;have k:Co (KK P) (.ref d.f)=ah:=by
  unfold Co;simp only[a]
 exact⟨⟨Qi a c k,PySem.W.mg_of X G b⟩,k⟩
theorem zK(x:Str)(h:x∈zL):mg x=af:=by
 obtain⟨j,e⟩:=Br.mp h;exact PySem.W.mg_none_of X G (wO (zE P) e)
end
abbrev pR:Bb:=PySem.W.OpenLaw.prog PySem.Challenge.rw_noteboard_k45_papers_of_never_made
structure Cv where
 P:Bb
 w:Bj
 K:Ag
 mg:Str->Option Af
 base:Heap
abbrev HH(c:Cv)(k:Nat)(x:Str)(ps:List Str)(S:aJ):Prop:=Has c.P c.w c.K c.mg c.base k x ps S
abbrev gc(c:Cv):Prop:=HH c 1 "_law_draw" ["_law_tape_here","_law_many"] bP
abbrev xu(c:Cv):Prop:=HH c 1 "is_whole" ["thing"] uV
abbrev ym(c:Cv):Prop:=HH c 1 "field_fits" ["field","value","having","bound"] jq
abbrev qI(c:Cv):Prop:=HH c 2 "fits" ["pattern","row","names"] me
abbrev EK(c:Cv):Prop:=HH c 1 "next_value" ["value"] su
abbrev uT(c:Cv):Prop:=HH c 2 "field_value" ["field","having"] nJ
abbrev BC(c:Cv):Prop:=HH c 3 "filled" ["template","names"] qx
abbrev yN(c:Cv):Prop:=HH c 2 "is_within" ["thing","most"] sq
abbrev ql(c:Cv):Prop:=HH c 1 "next_act" ["programs","stand","hand"] lj
abbrev zy(c:Cv):Prop:=HH c 3 "gets" ["programs","stand","hand"] t4
abbrev uS(c:Cv):Prop:=HH c 1 "gone_on" ["place","names"] mx
abbrev vG(c:Cv):Prop:=HH c 1 "gone_to" ["program","block","names"] oj
abbrev tJ(c:Cv):Prop:=HH c 1 "with_hand" ["hands","hand","place"] jg
abbrev zD(c:Cv):Prop:=HH c 4 "got" ["programs","stand","hand","act"] nP
abbrev DJ(c:Cv):Prop:=HH c 3 "is_same_value" ["act","names"] uB
abbrev vZ(c:Cv):Prop:=HH c 5 "hand_moved" ["programs","stand","hand"] vi
abbrev xV(c:Cv):Prop:=HH c 1 "aged" ["note"] sx
abbrev yS(c:Cv):Prop:=HH c 2 "clock_moved" ["stand"] vd
abbrev za(c:Cv):Prop:=HH c 6 "after" ["programs","stand","mover"] eO
abbrev zH(c:Cv):Prop:=HH c 1 "others_in" ["sight"] p7
abbrev v3(c:Cv):Prop:=HH c 3 "how_many_fit" ["pattern","notes"] vE
abbrev DM(c:Cv):Prop:=HH c 7 "sees" ["programs","stand","sight"] (dm 3)
abbrev FC(c:Cv):Prop:=HasM c.P c.w c.K c.mg c.base 7 "further" Ze eO
abbrev zb(c:Cv):Prop:=HasX c.P c.w c.K c.mg c.base 8 "steps_from" ["programs","stand"] (lE eO)
abbrev y9(c:Cv):Prop:=HasN c.P c.w c.K c.mg c.base 1 "way_along" ["steps","stand"] lG
abbrev AU(c:Cv):Prop:=HH c 8 "first_seeing" ["programs","stands","sight"] (l9 (dm 3))
abbrev DH(c:Cv):Prop:=HH c 9 "never" ["programs","stand","sight"] (jV eO (dm 3))
abbrev l6(c:Cv):Prop:=HH c 2 "_law_value" Zg iq
abbrev rh(c:Cv):Prop:=HH c 2 "_law_size" Zg lq
abbrev uZ(c:Cv):Prop:=HH c 3 "_law_pattern" Zc qL
abbrev CY(c:Cv):Prop:=HH c 3 "_law_template" Zc uo
abbrev xO(c:Cv):Prop:=HH c 3 "_law_term" Zc pF
abbrev EX(c:Cv):Prop:=HH c 4 "_law_act" ["_law_tape_here","_law_known_here","_law_open_ones"] oB
abbrev yI(c:Cv):Prop:=HH c 5 "_law_program" Zg sL
abbrev vq(c:Cv):Prop:=HH c 3 "_law_notes" ["_law_tape_here","_law_most"] nZ
abbrev AZ(c:Cv):Prop:=HH c 1 "_law_known" ["_law_program_here","_law_block","_law_place"] rJ
abbrev ze(c:Cv):Prop:=HH c 4 "_law_stand" ["_law_tape_here","_law_programs","_law_most"] qt
abbrev yj(c:Cv):Prop:=HH c 6 "_law_setting" Zg si
abbrev tu(c:Cv):Prop:=HH c 1 "_law_fits" ["_law_pattern_here","_law_row","_law_names"] qU
abbrev xc(c:Cv):Prop:=HH c 1 "_law_filled" ["_law_template_here","_law_names"] u9
abbrev xC(c:Cv):Prop:=HH c 1 "_law_act_at" ["_law_programs","_law_hands","_law_hand"] tY
abbrev uL(c:Cv):Prop:=HH c 2 "_law_got" ["_law_act_here","_law_notes_here","_law_names"] mW
abbrev qe(c:Cv):Prop:=HH c 3 "_law_movers" ["_law_programs","_law_stand_here"] de
abbrev oO(c:Cv):Prop:=HH c 3 "_law_moved" ["_law_programs","_law_stand_here","_law_mover"] da
abbrev xD(c:Cv):Prop:=HasXO c.P c.w c.K c.mg c.base 4 "_law_gone" ["_law_programs","_law_stand_here","_law_most"] (oE de da)
abbrev xF(c:Cv):Prop:=HH c 7 "_law_sight" ["_law_tape_here","_law_programs","_law_deep"] (kh 3)
abbrev wq(c:Cv):Prop:=HH c 5 "_law_seen" ["_law_programs","_law_stand_here","_law_sight_here"] (dm 3)
abbrev AQ(c:Cv):Prop:=HH c 4 "_law_walked" ["_law_programs","_law_stand_here","_law_movers_here"] (l5 de da)
abbrev wF(c:Cv):Prop:=HH c 4 "_law_closed" ["_law_programs","_law_stand_here","_law_some"] (mh de da)
abbrev xy(c:Cv):Prop:=HH c 6 "_law_right" ["_law_programs","_law_stand_here","_law_sight_here","_law_due","_law_told"] (kO (dm 3) de da)
section
variable{c:Cv}(F:∀(j:Nat) (d:Ds),dL[j]?=ae d->(Fun c.K d.x d.x (bV d.i) d.f (jW d)/\c.mg d.x=ae (.ref d.f))/\Co c.K (.ref d.f)=ah)(z:∀x∈zL,c.mg x=af)(u0:c.mg "GREATEST_NUMBER"=ae (.int 99 225))(u1:c.mg "MOST_STANDS"=ae (.int 2000 429))(u2:c.mg "GETTING"=ae (.ref 80))(u3:∀H,SqT c.K H 80 ((Zf:List Str).map V.str))
include F z u0 u1 u2 u3
theorem Iu:gc c:=Has.mk' (F 27 _ rfl).1.1 (F 27 _ rfl).1.2 (jI (F 27 _ rfl).1.1) (Qd (QD (F 27 _ rfl).1.1 (zU z (by trivial))))
theorem QV:xu c:=aR (i:=5) 0 1 "is_whole" (F 0 _ rfl).1 RC
theorem Nq:ym c:=aR (i:=7) 0 4 "field_fits" (F 1 _ rfl).1 PN
theorem FT(h0:ym c):qI c:=aR (i:=8) 1 3 "fits" (F 2 _ rfl).1 JJ
theorem JV:EK c:=aR (i:=9) 0 1 "next_value" (F 3 _ rfl).1 OJ
theorem QG(h0:EK c):uT c:=aR (i:=10) 1 2 "field_value" (F 4 _ rfl).1 HQ
theorem Qb(h0:uT c):BC c:=aR (i:=11) 2 2 "filled" (F 5 _ rfl).1 S5
theorem O5(h0:xu c):yN c:=aR (i:=14) 1 2 "is_within" (F 6 _ rfl).1 JN
theorem M1:ql c:=aR (i:=16) 0 3 "next_act" (F 7 _ rfl).1 Lf
theorem Pc(h0:qI c)(h1:ql c):zy c:=aR 2 3 "gets" (F 8 _ rfl).1 Ka
theorem FW:uS c:=aR (i:=18) 0 2 "gone_on" (F 9 _ rfl).1 Tf
theorem LG:vG c:=aR (i:=19) 0 3 "gone_to" (F 10 _ rfl).1 N3
theorem Pf:tJ c:=aR (i:=20) 0 3 "with_hand" (F 11 _ rfl).1 K8
theorem Rg(h0:qI c)(h1:zy c)(h2:uS c)(h3:vG c)(h4:tJ c):zD c:=aR 3 4 "got" (F 12 _ rfl).1 Ri
theorem JK(h0:uT c):DJ c:=aR (i:=22) 2 2 "is_same_value" (F 13 _ rfl).1 Kd
theorem NU(h0:BC c)(h1:uS c)(h2:vG c)(h3:zD c)(h4:DJ c)(h5:ql c)(h6:tJ c):vZ c:=aR 4 3 "hand_moved" (F 14 _ rfl).1 RN
theorem Oh:xV c:=aR (i:=24) 0 1 "aged" (F 15 _ rfl).1 Rf
theorem RY(h0:xV c):yS c:=aR (i:=25) 1 1 "clock_moved" (F 16 _ rfl).1 IH
theorem RS(h0:yS c)(h1:vZ c)(h2:yN c):za c:=aR (i:=26) 5 3 "after" (F 17 _ rfl).1 Pq
theorem Ij:zH c:=aR (i:=28) 0 1 "others_in" (F 18 _ rfl).1 JS
theorem Ta(h0:qI c):v3 c:=aR (i:=29) 2 2 "how_many_fit" (F 19 _ rfl).1 Ow
theorem HK(h0:v3 c)(h1:ql c)(h2:zH c):DM c:=kB 4 "sees" (F 20 _ rfl).1 w8 (λ_ _ _ h=>h) OE 3
theorem RB(h0:za c):FC c:=sT (F 21 _ rfl).1 h0 ∎ (zU z (by trivial)) (zU z (by trivial)) u1
theorem QQ(h0:FC c):zb c:=t9 (i:=34) 7 "steps_from" (F 22 _ rfl).1 JI RR
theorem QR:y9 c:=sI (i:=35) 0 2 "way_along" (F 23 _ rfl).1 (len:=IW) JU
theorem Oy(h0:DM c):AU c:=aR (i:=36) 7 3 "first_seeing" (F 24 _ rfl).1 (len:=LJ) Ll
theorem Sh(h0:AU c)(h1:zb c)(h2:y9 c):DH c:=aR (i:=38) 8 3 "never" (F 25 _ rfl).1 (len:=LK) Lv
theorem MR(h0:gc c):l6 c:=aR (i:=42) 1 1 "_law_value" (F 28 _ rfl).1 LL
theorem JL(h0:gc c):rh c:=aR (i:=43) 1 1 "_law_size" (F 29 _ rfl).1 Lu
theorem HE(h0:gc c)(h1:rh c)(h2:l6 c):uZ c:=aR 2 2 "_law_pattern" (F 30 _ rfl).1 LW
theorem NF(h0:gc c)(h1:rh c)(h2:l6 c):CY c:=aR (i:=45) 2 2 "_law_template" (F 31 _ rfl).1 QB
theorem OU(h0:gc c)(h1:l6 c):xO c:=aR (i:=46) 2 2 "_law_term" (F 32 _ rfl).1 PQ
theorem OF(h0:gc c)(h1:uZ c)(h2:CY c)(h3:xO c):EX c:=aR 3 3 "_law_act" (F 33 _ rfl).1 HZ
theorem Pw(h0:EX c)(h1:gc c):yI c:=aR 4 1 "_law_program" (F 34 _ rfl).1 Mk
theorem Tg(h0:gc c)(h1:rh c)(h2:l6 c):vq c:=aR (i:=49) 2 2 "_law_notes" (F 35 _ rfl).1 Hv
theorem Kb:AZ c:=aR (i:=50) 0 3 "_law_known" (F 36 _ rfl).1 NK
theorem LQ(h0:gc c)(h1:AZ c)(h2:vq c)(h3:l6 c):ze c:=aR 3 3 "_law_stand" (F 37 _ rfl).1 Lw
theorem Hi(h0:gc c)(h1:vq c)(h2:yI c)(h3:ze c):yj c:=aR 5 1 "_law_setting" (F 38 _ rfl).1 Qk
theorem R7:tu c:=aR 0 3 "_law_fits" (F 39 _ rfl).1 Rc
theorem SN:xc c:=aR (i:=54) 0 2 "_law_filled" (F 40 _ rfl).1 PV
theorem MS:xC c:=aR (i:=55) 0 3 "_law_act_at" (F 41 _ rfl).1 IQ
theorem SA(h0:tu c):uL c:=aR (i:=56) 1 3 "_law_got" (F 42 _ rfl).1 Ib
theorem IZ(h0:xC c)(h1:uL c):qe c:=aR (i:=57) 2 2 "_law_movers" (F 43 _ rfl).1 Mn
theorem Hl(h0:xc c)(h1:uL c):oO c:=aR 2 3 "_law_moved" (F 44 _ rfl).1 K9
theorem KR(h0:oO c)(h1:qe c):xD c:=HU (i:=59) 3 "_law_gone" (F 45 _ rfl).1 LH L5
theorem SX(h0:gc c)(h1:uZ c):xF c:=kB 4 "_law_sight" (F 46 _ rfl).1 Na (λ_ _ _ h=>h) Mz 3
theorem Jn(h0:tu c):wq c:=kB 2 "_law_seen" (F 47 _ rfl).1 IC (λ_ _ _ h=>h) Tr 3
theorem GC(h0:oO c)(h1:qe c):AQ c:=aR (i:=62) 3 3 "_law_walked" (F 48 _ rfl).1 (len:=SK) OY
theorem So(h0:oO c)(h1:qe c):wF c:=aR (i:=63) 3 3 "_law_closed" (F 49 _ rfl).1 (len:=Im) IF
theorem OZ(h0:wF c)(h1:wq c)(h2:AQ c):xy c:=aR 5 5 "_law_right" (F 50 _ rfl).1 (len:=IL) QI
theorem MN(h0:gc c)(h1:xD c)(h2:xy c)(h3:yj c)(h4:xF c)(h5:DH c):FnOk c.P c.w c.K c.mg c.base b6 10 (Ds.f ⟨65,"law",711,426,1,368,ah,724,7⟩) (jW ⟨65,"law",711,426,1,368,ah,724,7⟩) Zb (DL.spLaw c.K):=by
 exact ub (N:=["_law_script","_law_tape_here","_law_programs","_law_stand_here","_law_due","_law_k","_law_sight_here","_law_hand","_law_turn","_law_told"]) 9 (F 51 _ rfl).1.1 P2 rfl λnd b A a s H E d=>⟨fC nd rfl (Ce rfl) (jN (RF (P:=c.P) (w:=c.w) (mg:=c.mg) (base:=c.base) (F 26 _ rfl).1.1) (d.mono ∎) rfl (F 26 _ rfl).1.2 (F 26 _ rfl).2 (jI (ps:=Zb) (F 26 _ rfl).1.1) .nil jC (cw (pv 0) eu)),ly (pL (cw kD (cw kD (cw kD (cw b8 (cw b8 eu)))))) (og (pv 1) b8 oD)⟩
end
theorem KO(c:Cv)(F:∀(j:Nat) (d:Ds),dL[j]?=ae d->(Fun c.K d.x d.x (bV d.i) d.f (jW d)/\c.mg d.x=ae (.ref d.f))/\Co c.K (.ref d.f)=ah)(z:∀x∈zL,c.mg x=af)(u0:c.mg "GREATEST_NUMBER"=ae (.int 99 225))(u1:c.mg "MOST_STANDS"=ae (.int 2000 429))(u2:c.mg "GETTING"=ae (.ref 80))(u3:∀H,SqT c.K H 80 ((Zf:List Str).map V.str)):FnOk c.P c.w c.K c.mg c.base b6 10 (Ds.f ⟨65,"law",711,426,1,368,ah,724,7⟩) (jW ⟨65,"law",711,426,1,368,ah,724,7⟩) Zb (DL.spLaw c.K):=by
 have T:=by apply Iu<;>with_reducible assumption
 have Z:=by apply QV<;>with_reducible assumption
 have y:=by apply Nq<;>with_reducible assumption
 have a_fits:=by apply FT<;>with_reducible assumption
 have B:=by apply JV<;>with_reducible assumption
 have n:=by apply QG<;>with_reducible assumption
 have a_filled:=by apply Qb<;>with_reducible assumption
 have N:=by apply O5<;>with_reducible assumption
 have Y:=by apply M1<;>with_reducible assumption
 have a_gets:=by apply Pc<;>with_reducible assumption
 have a_gone_on:=by apply FW<;>with_reducible assumption
 have a_gone_to:=by apply LG<;>with_reducible assumption
 have M:=by apply Pf<;>with_reducible assumption
 have a_got:=by apply Rg<;>with_reducible assumption
 have a:=by apply JK<;>with_reducible assumption
 have v:=by apply NU<;>with_reducible assumption
 have a_aged:=by apply Oh<;>with_reducible assumption
 have p:=by apply RY<;>with_reducible assumption
 have a_after:=by apply RS<;>with_reducible assumption
 have O:=by apply Ij<;>with_reducible assumption
 have k:=by apply Ta<;>with_reducible assumption
 have a_sees:=by apply HK<;>with_reducible assumption
 have a_further:=by apply RB<;>with_reducible assumption
 have D:=by apply QQ<;>with_reducible assumption
 have Q:=by apply QR<;>with_reducible assumption
 have l:=by apply Oy<;>with_reducible assumption
 have a_never:=by apply Sh<;>with_reducible assumption
 have I:=by apply MR<;>with_reducible assumption
 have L:=by apply JL<;>with_reducible assumption
 have h:=by apply HE<;>with_reducible assumption
 have b:=by apply NF<;>with_reducible assumption
 have R:=by apply OU<;>with_reducible assumption
 have X:=by apply OF<;>with_reducible assumption
 have e:=by apply Pw<;>with_reducible assumption
 have C:=by apply Tg<;>with_reducible assumption
 have t:=by apply Kb<;>with_reducible assumption
 have E:=by apply LQ<;>with_reducible assumption
 have g:=by apply Hi<;>with_reducible assumption
 have J:=by apply R7<;>with_reducible assumption
 have s:=by apply SN<;>with_reducible assumption
 have o:=by apply MS<;>with_reducible assumption
 have a__law_got:=by apply SA<;>with_reducible assumption
 have m:=by apply IZ<;>with_reducible assumption
 have G:=by apply Hl<;>with_reducible assumption
 have U:=by apply KR<;>with_reducible assumption
 have A:=by apply SX<;>with_reducible assumption
 have S:=by apply Jn<;>with_reducible assumption
 have r:=by apply GC<;>with_reducible assumption
 have q:=by apply So<;>with_reducible assumption
 have u:=by apply OZ<;>with_reducible assumption
 apply MN<;>with_reducible assumption
theorem all_K(w:Bj)(mg:Str->Option Af)(fa:z_)(h:Heap)(X:(KK w.params).In h)(G:h.Ns Dv mg)(hfa:mg "law"=ae (.ref fa)):
  ∃fd:B8,(∀(s:Aj)(u:Af),BindsTo s fd ⟨[u],[]⟩ [("_law_script",u)])/\∀base:Heap,(KK w.params).In base->base.Ns Dv mg->FnOk pR w (KK w.params) mg base b6 10 fa fd Zb (DL.spLaw (KK w.params)):=by
 have e:=hfa.symm.trans (zR X G 51 ⟨65,"law",711,426,1,368,ah,724,7⟩ rfl).1.2;cases e;exact⟨jW ⟨65,"law",711,426,1,368,ah,724,7⟩,λs v=>.of_eq rfl,λbase _ _=>KO ⟨pR,w,KK w.params,mg,base⟩ (λj d e=>zR X G j d e) (zK X G) (PySem.W.mg_of X G (by kernel_rfl)) (PySem.W.mg_of X G (by kernel_rfl)) (PySem.W.mg_of X G (by kernel_rfl)) (λH=>.inr ⟨_,_,_,(show(KK w.params).lookup 80=ae (oT "tuple" (.seq #[(.str "take" 282),(.str "read" 283),(.str "look" 284)] 0)) by kernel_rfl),rfl,rfl,show 3<=Aw by decide,(.cons ⟨_,rfl⟩ (.cons ⟨_,rfl⟩ (.cons ⟨_,rfl⟩ .nil)))⟩)⟩
theorem walk{l:PySem.W.OpenLaw}{q:Bb}{loose:List Str}{XP:(Str->Option Af)->Heap->Prop}{YP:Bj->Heap->Prop}{d:DefRec}{K:Params->Ag}(hn:l.most=ae 63)(hdf:d.params.defaults=[])
  (hY:∀(w:Bj)(h:Heap),YP w h->(K w.params).In h)
  (F:∀(w:Bj)(mg:Str->Option Af)(fa:z_)(h:Heap),(K w.params).In h->h.Ns Dv mg->mg d.name=ae (.ref fa)->
   ∃fd:B8,(∀(s:Aj)(u:Af),BindsTo s fd ⟨[u],[]⟩ [("_law_script",u)])/\∀base:Heap,(K w.params).In base->base.Ns Dv mg->FnOk l.prog w (K w.params) mg base b6 10 fa fd Zb (DL.spLaw (K w.params))):
  PySem.W.WalkO q loose XP YP l.row.toRowW d [] (λf vs=>PySem.call f vs):=
 L2.walk_of hn ∎ hdf ⟨rfl,by decide,by decide,rfl⟩ hY F (λ_ _ a b c _ e=>⟨a,b,rfl,e,c,λ_=>rfl⟩) λ_ _ _ _ _ z=>z
end Nb
open PySem PySem.W PyProof.Rows
set_option maxRecDepth 100000 in
set_option maxHeartbeats 0 in
theorem PySem.Challenge.cw_noteboard_k45_papers_of_never_made_holds : PySem.Challenge.rw_noteboard_k45_papers_of_never_made.Holds := by
 refine holds_law Nb.said_ λsaid=>?_;refine holds_open (q:=Nb.qq) (loose:=Nb.lO) (Xt:=Nb.xT) (XP:=XL Nb.qq []) (Yf:=Hook.obs Nb.hK) (Ya:=Hook.val Nb.hK) (YP:=Hook.says Nb.hK) (d:=Nb.dW) (kwd:=[]) (N:=6000) Nb.left_ (Hook.of Nb.hK) (Hook.keeps Nb.hK) (λs e=>xl_of s (Bool.and_eq_true_iff.mp e).1) XL.keeps (by kernel_rfl) (by kernel_rfl) (by kernel_rfl) (λs e=>recFacts_of (Bool.and_eq_true_iff.mp e).2) (by kernel_rfl) said (by decide +kernel) ⟨rfl,rfl,rfl,rfl,rfl,by decide +kernel⟩ ?hw ?hc
 (case hw=>w_witness2)
 exact Nb.walk (l:=PySem.Challenge.rw_noteboard_k45_papers_of_never_made) (by kernel_rfl) (by kernel_rfl) (λw h Y=>kIn_of Y) Nb.all_K
