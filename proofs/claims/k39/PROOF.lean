import PyProof.Rows.All
import Wide.All
import OpenK.AllK
import Wide.FinOn
import Lean
import PyProof.EqAt
import PyProof.EqKinds
import PyProof.TupleCall
import PyProof.AttrMissHeap
import PyProof.Rows.RegFStrParts
import KE.KRevIter
import KE.KUnpack
import PySem.Challenge.RW_noteboard_k39_stands_come_to
set_option compiler.extract_closed false
set_option Elab.async false
set_option linter.all false
set_option maxRecDepth 100000
open PySem renaming Addr -> A', wpAny_bind -> Aa, PyData -> Ad, Value -> Af, Shared -> Ai, wpAny_pure -> Aj, starEach -> As, sizeLine -> Ay, Program -> A3, wpAny -> A6, model -> A9, World -> Bi, Around -> Bq, wpAny_callSpecial?_slot -> Bv, bootBuiltins -> Bz, compareOp -> B3, wpAny_newObj_type -> B7, wpAny_call_entry -> B8, wpAny_holding -> Cc, FuncData -> Ce, behindInMarks -> Cm, assignEach -> Cu, backTo -> Cw, swapsWith -> Cy, wpAny_setField -> C8, wpAny_mono -> C9, cLine -> De, sysModules -> Dk, wpAny_field -> Dn, wpAny_seqItems -> Dy, rawInt -> D5, wpAny_pyIter_tuple -> D6, mainGlobals -> Eb, wpAny_truthy_bool -> Ed, foldedSetIterable -> Ee, wpAny_setEntries_of -> Eh, wpAny_attempt -> Em, Builtin -> Ep, codeAny_builtin -> Eu, sizeLine_eq -> Ew, wpAny_isInstance -> E7, binaryOp -> E8, Scope -> E9, strKind -> Fc, wpAny_rule -> Fh, wpAny_passesOwn -> Fk, SetTable -> Fn, wpAny_setState_of -> Fp, mem_of_lookup -> Fu, wpAny_fieldsOf -> F1, isSubtype_type -> F2, plainId_quiet -> Gb, boot_len -> Gf, wpAny_setField_rec -> Gi, wpAny_typeOf -> Gx, IsPair -> Gy, entryFor_of_tree -> G4, DictEntry -> G6, attributeBase -> G7, wpAny_typeNameOfWhole_keyiter -> G8, wpAny_of_eq -> G9, sliceBounds -> Ha, tupleKind_room_in1 -> Hm
open List renaming length_map -> Ab, getElem?_eq_getElem -> Ah, mem_cons_of_mem -> Ak, getElem?_map -> Am, length_append -> An, mem_cons_self -> Ap, getElem?_eq_some_iff -> Ar, length_cons -> Au, mem_cons -> Av, mem_of_getElem? -> A0, append_assoc -> A2, length_singleton -> A4, mem_append -> A7, set -> A8, mem_map -> Ba, size_toArray -> Bb, not_mem_nil -> Bc, map_append -> Bd, range -> Be, getElem?_set_ne -> Bh, mem_singleton -> Bm, map_cons -> Bn, append_nil -> Bu, mem_iff_getElem? -> B1, mem_append_right -> B2, map_map -> B6, getElem?_cons_zero -> Ca, length_set -> Cb, getElem?_eq_none -> Cf, mem_range -> Cn, getElem?_set_self' -> Cz, mem_append_left -> C3, map_eq_cons_iff -> C4, getElem_mem -> C5, replicate -> Di, any_cons -> Dj, getElem?_set_self -> Dq, map_eq_nil_iff -> Dt, map_congr_left -> Du, nodup_cons -> Dw, length -> Dx, getElem?_toArray -> Dz, length_drop -> D3, any_eq_true -> D4, pairwise_singleton -> D8, length_range -> D9, mem_filter -> En, foldl_cons -> Eo, prefix_refl -> Ex, length_take -> Ey, getElem?_replicate -> Ez, all_eq_true -> E1, not_lt -> E5, toArray -> E6, pairwise_map -> Fi, getElem_inj -> Fq, ext_getElem -> Fs, getElem?_zip_eq_some -> Fx, getElem?_append_left -> Fy, drop_eq_getElem_cons -> Fz, of_mem_zip -> F5, findIdx?_eq_some_iff_getElem -> F9, nodup_append -> Gg, foldl_append -> Gh, length_filter_le -> Gr, filter_cons -> Gv, length_take_le' -> G1, eq_nil_of_length_eq_zero -> G2, nil_append -> G3, getElem_of_mem -> G5, zip_cons_cons -> Hf, mem_filterMap -> Hg, pairwise_iff_getElem -> Hk
open PySem.Heap renaming get?_push_of_some -> Ae, lt_size -> Aw, get?_push_size -> Ax, get?_update_self -> By, size_push -> Co, get?_update_other -> C6, SameBut -> C7
open PySem.W renaming Frag -> Ag, keepIn -> Ct, kia_one -> Df, fnOf -> Fo
open Nat renaming le_refl -> Al, zero_le -> A1, le_trans -> A5, ne_of_lt -> Bf, lt_of_lt_of_le -> Bp, lt_succ_of_lt -> Ea, lt_of_le_of_lt -> Ek, lt_irrefl -> Fg, ne_of_gt -> Fw, le_of_lt_succ -> Gm, le_of_lt -> Gn
open And renaming intro -> Ao
open PyProof.Rows renaming SortSt -> Aq, Keyed -> Bk, pendingOf -> Br, seqObj -> Ck, envOfC -> C2, wpS_bind -> Dd, wpS_pure -> Dm, oneType' -> Dp, arrOf -> Dv, pairsOf_size -> D7, cps_toList_append -> Ef, slot_tuple_getitem -> Ej, callWith_type1 -> E2, get?_update_seq -> Fl, elem' -> F7, reverseSlice' -> Ga, listUpdate_at -> Gc, failedOf -> Ge, setPending -> Gj, wpS_forRange -> Gw, seqEpoch_at -> Hb
open Bool renaming false_ne_true -> Az, and_eq_true -> Bj, eq_iff_iff -> F6, false_eq_true -> Hh
open PySem.Heap.SameBut renaming update -> Bg
open Array renaming length_toList -> Bo, getElem?_toList -> Bx, getElem?_eq_getElem -> Cg, size_map -> Ei, toList_inj -> Gt, perm_iff_toList_perm -> Hd, getElem?_setIfInBounds_self_of_lt -> Ho
open List.cons renaming inj -> Bt
open Option.some renaming inj -> Bw
open PySem.Obj renaming data_mapFields -> B4, isFreed_of_fields -> Dh, mapSeq -> Dr, cls_mapFields -> Es
open Or renaming inr -> B5, inl -> Ci
open PySem.Value renaming none -> B9, ref -> Cj, type -> Er
open PySem.PyData renaming canLayAll0 -> Cp, eqv -> C0, canLay0 -> C1, shownAll -> Dg, strOk -> Ec, str -> Eg, depth -> E3, eqvAll -> Fb, int -> Fj, depthAll -> F3, weight -> Gq
open Int renaming toNat_natCast -> Cq, natCast_nonneg -> Hi, emod_lt_of_pos -> Hj
open ForInStep renaming yield -> Cr, done -> D0
open PyProof.Rows.SortSt renaming mk' -> Da
open Sum renaming inr -> Dc
open Exists renaming intro -> Dl
open PySem.Paired renaming length -> D1
open Option renaming isSome_iff_exists -> D2, map_eq_some_iff -> E4, isSome_map -> Ff
open PySem.SetTable renaming below -> Et
open PySem.AutoSeq1 renaming wpAny_loadPart' -> Ft
open PySem.F renaming args_tuple_add_2 -> Fv, slot_tuple_iterator_next -> F0, entry_tuple_add -> F4, slot_tuple_add -> F8, plainAttrs_list -> Hl
open ForIn renaming forIn -> Gp
open PySem.Builtin.Tuple renaming tupleItemsOf -> Gs
open True renaming intro -> Gu
open PySem.Builtin.Slice renaming slicePlaces -> Gz, sliceAdjust -> G0
open Std.Legacy.Range renaming forIn_eq_forIn_range' -> He
open Option renaming some -> ae, none -> af
open Bool renaming true -> ah, false -> ai
noncomputable section
def a_:=@if_neg
def b_:=@if_pos
def c_:=@decide_eq_true
def d_:=@decide_eq_false
def e_:=@of_decide_eq_true
def f_:=@of_decide_eq_false
def g_:=@absurd
def h_:=@or_false
local macro_rules|`(tactic|omega)=>`(tactic|lia)
local macro_rules|`(⋯)=>`(by omega)
local macro_rules|`(∅)=>`(by decide +kernel)
local macro_rules|`(∎)=>`(by decide)
local macro_rules|`(↑$x)=>`(Option.some (.w (.d $x)))
set_option maxHeartbeats 4000000
namespace L2
open PySem PySem.Spec PyProof.Rows
def jW(s:Stmt):Arguments:=match s with
 |.FunctionDef _ a _ _ _ _ _ _ _ _=>a
 |_=>{ posonlyargs:=[],args:=[],vararg:=af,kwonlyargs:=[],kw_defaults:=[],kwarg:=af,defaults:=[]}
def ez(s:Stmt):List Stmt:=match s with
 |.FunctionDef _ _ b _ _ _ _ _ _ _=>b
 |_=>[]
def bE(s:Stmt):E9:=match s with
 |.FunctionDef _ _ _ _ _ _ sc _ _ _=>sc
 |_=>{ kind:=.function,names:=[],isGenerator:=ai,isCoroutine:=ai}
end L2
namespace Nb
open PySem L2
def b5(i:Nat):Stmt:=PySem.Challenge.pw_noteboard_k39_stands_come_to.main.body.getD i (.Pass ⟨0,0,0,0⟩)
abbrev SH:Stmt:=b5 33
abbrev IE:Stmt:=b5 34
abbrev pX:Stmt:=b5 54
abbrev EB:Stmt:=SH
abbrev yT:Stmt:=IE
abbrev oT(t:String)(d:Data):Obj:=⟨.type t,af,d,#[]⟩
structure Ds where
 i:Nat
 x:Str
 t:Nat
 l:Nat
 n:Nat
 r:Nat
 b:Bool
 v:Nat
 m:Nat
abbrev Ds.c(d:Ds):Nat:=if d.b then d.r+5 else d.r+3
abbrev Ds.f(d:Ds):Nat:=if d.b then d.r+6 else d.r+4
abbrev OX(m:Nat):Af:=[(.str "noteboard.values" 223),(.str "noteboard.patterns" 234),(.str "noteboard.stands" 286),(.str "noteboard.moving" 296),(.str "noteboard.reaching" 406),(.str "law_noteboard_k39_stands_come_to" 441)].getD m .none
abbrev jU(d:Ds):Ce:=Fo d.x d.x (jW (b5 d.i)) (ez (b5 d.i)) (bE (b5 d.i)) .none .none .none (OX d.m) af (.ref d.c) .none
abbrev oF(d:Ds):Obj:=oT "function" (.func (jU d))
abbrev oC(d:Ds):Obj:=oT "code" (.fields #[.str d.x d.t,.str d.x (d.t+1),.str "/claim/cut.py" (d.t+2),.int d.l 0,.int d.n 0,.int 0 0,.int 0 0,.int 3 0,.ref d.r,.bool ah,.int 181 0,.ref (d.r+1),.none,if d.b then .ref (d.r+2)else .none,if d.b then .ref (d.r+3)else .none,.ref (if d.b then d.r+4 else d.r+2),.int d.v 0,.int d.l 0,.str "/claim/cut.py" (d.v+1)])
abbrev eN(P:Params)(x:Str)(t:Nat)(v:Af):G6:=⟨PyData.keyHash P x,.str x t,v⟩
abbrev en(P:Params)(d:Ds):G6:=eN P d.x (d.v+2) (.ref d.f)
def dL:List Ds:=[⟨5,"is_whole",227,8,1,40,ah,231,0⟩,⟨7,"field_fits",236,11,4,47,ah,244,1⟩,⟨8,"fits",247,24,3,54,ah,257,1⟩,⟨9,"next_value",260,36,1,61,ah,264,1⟩,⟨10,"field_value",267,40,2,68,ah,273,1⟩,⟨11,"filled",276,45,2,75,ai,279,1⟩,⟨14,"is_within",288,50,2,81,ah,293,2⟩,⟨16,"next_act",298,53,3,88,ah,307,3⟩,⟨17,"gets",310,58,3,95,ah,321,3⟩,⟨18,"gone_on",324,70,2,102,ah,329,3⟩,⟨19,"gone_to",332,72,3,109,ai,335,3⟩,⟨20,"with_hand",338,75,3,114,ah,344,3⟩,⟨21,"got",347,77,4,121,ah,358,3⟩,⟨22,"is_same_value",361,89,2,128,ah,367,3⟩,⟨23,"hand_moved",370,92,3,135,ah,380,3⟩,⟨24,"aged",383,109,1,142,ah,387,3⟩,⟨25,"clock_moved",390,111,1,149,ai,393,3⟩,⟨26,"after",396,113,3,154,ah,403,3⟩,⟨29,"further",410,120,3,161,ah,420,4⟩,⟨30,"steps_from",423,131,2,168,ah,430,4⟩,⟨31,"reached",433,137,2,175,ah,438,4⟩,⟨33,"_law_tape",443,140,1,182,ah,447,5⟩,⟨34,"_law_draw",450,142,2,189,ah,459,5⟩,⟨35,"_law_value",462,157,1,196,ah,466,5⟩,⟨36,"_law_size",469,159,1,203,ah,473,5⟩,⟨37,"_law_pattern",476,161,2,210,ah,487,5⟩,⟨38,"_law_template",490,178,2,217,ah,498,5⟩,⟨39,"_law_term",501,187,2,224,ah,506,5⟩,⟨40,"_law_act",509,191,3,231,ah,519,5⟩,⟨41,"_law_program",522,204,1,238,ai,525,5⟩,⟨42,"_law_notes",528,221,2,243,ai,531,5⟩,⟨43,"_law_known",534,227,3,248,ai,537,5⟩,⟨44,"_law_stand",540,233,3,253,ai,543,5⟩,⟨45,"_law_setting",546,241,1,258,ai,549,5⟩,⟨46,"_law_fits",552,249,3,263,ai,555,5⟩,⟨47,"_law_filled",558,268,2,268,ah,566,5⟩,⟨48,"_law_act_at",569,278,3,275,ah,579,5⟩,⟨49,"_law_got",582,282,3,282,ah,590,5⟩,⟨50,"_law_movers",593,288,2,289,ah,602,5⟩,⟨51,"_law_moved",605,297,3,296,ai,608,5⟩,⟨52,"_law_gone",611,324,3,301,ah,622,5⟩,⟨53,"_law_right",625,338,3,308,ai,628,5⟩,⟨54,"law",631,349,1,313,ah,640,5⟩]
def KK(P:Params):Ag:=let e:=eN P
 (3,oT "dict" (.dict ([e "__name__" 165 (.str "law_noteboard_k39_stands_come_to" 441),e "__doc__" 166 .none,e "__package__" 167 .none,e "__loader__" 168 (.builtin "__main__.__loader__#opaque"),e "__spec__" 169 .none,e "__annotations__" 170 (.ref 6),e "__builtins__" 171 (.ref 4),e "__file__" 173 (.str "/claim/cut.py" 172),e "__cached__" 174 .none,e "BoardError" 206 (.ref 24),e "TooMany" 222 (.ref 37),e "GREATEST_NUMBER" 226 (.int 99 225)]++((dL.drop 0).take 6).map (en P)++[e "GETTING" 285 (.ref 80)]++((dL.drop 6).take 12).map (en P)++[e "MOST_STANDS" 409 (.int 2000 408)]++((dL.drop 18).take 25).map (en P)).toArray 57))::(dL.flatMap λd=>[(d.c,oC d),(d.f,oF d)])++[(80,oT "tuple" (.seq #[(.str "take" 282),(.str "read" 283),(.str "look" 284)] 0))]
def aS:List A':=3::(dL.flatMap λd=>[d.c,d.f])++[80]
abbrev pp:A3:=PySem.Challenge.pw_noteboard_k39_stands_come_to
abbrev qq:A3:=PySem.W.view pp [54]
def lO:List Str:=(["BoardError","TooMany","GREATEST_NUMBER","is_whole","field_fits","fits","next_value","field_value","filled","GETTING","is_within","next_act","gets","gone_on","gone_to","with_hand","got","is_same_value","hand_moved","aged","clock_moved","after","MOST_STANDS","further","steps_from","reached","_law_tape","_law_draw","_law_value","_law_size","_law_pattern","_law_template","_law_term","_law_act","_law_program","_law_notes","_law_known","_law_stand","_law_setting","_law_fits","_law_filled","_law_act_at","_law_got","_law_movers","_law_moved","_law_gone","_law_right"]:List String).map Str.ofString
abbrev xT:Ai->Bool:=λs=>PySem.W.xlAt qq [] s&&PySem.W.recOk (PySem.W.RowW.records PySem.Challenge.rw_noteboard_k39_stands_come_to.row.toRowW) s
theorem sai_:PySem.W.looksOpen PySem.Challenge.rw_noteboard_k39_stands_come_to.row.prog=ah:=by kernel_rfl
theorem said_:PySem.Challenge.rw_noteboard_k39_stands_come_to.wellSaid=ah:=by unfold PySem.W.OpenLaw.wellSaid PySem.W.OpenRow.wellSaid PySem.W.OpenRow.partSaid;rw[sai_];kernel_rfl
theorem aK:∀P,aS=(KK P).map (·.1):=λP=>by kernel_rfl
abbrev hK:PySem.W.Hook:=PySem.W.kHook KK aS aK
theorem left_:PySem.W.LeftO pp qq lO xT hK.obs hK.val 6000:=λw=>by kernel_rfl
def J2(s:Stmt):Pos:=match s with
 |.FunctionDef _ _ _ _ _ _ _ _ _ p=>p
 |_=>⟨0,0,0,0⟩
def dW:DefRec:=⟨"law",jW pX,ez pX,bE pX,J2 pX⟩
theorem Md(P:Params):(dL.map λd=>(PySem.W.nsIn (KK P) Eb d.x,(KK P).lookup d.f,PySem.W.codeIn (KK P) (.ref d.c) d.x))=dL.map λd=>(ae (ae (.ref d.f)),ae (oF d),ah):=by kernel_rfl
theorem vr{α β:Type}{f g:α->β}{l:List α}(h:l.map f=l.map g){j:Nat}{a:α}(e:l[j]?=ae a):f a=g a:=by
 have:=congrArg (λl=>l[j]?) h;simp only[Am,e]at this;exact Bw this
end Nb
namespace L2
open PySem PySem.Spec PyProof.Rows
abbrev aC:=Sum Int Str
def iJ:aC->Af->Bool
 |.inl k,v=>Value.isInt k v
 |.inr x,v=>Value.isStrOf x v
def j7(w:Bi):aC->Int
 |.inl k=>hashInt k
 |.inr x=>hashStr w x
theorem fZ:∀{k:aC}{v:Af},iJ k v=ah->(∃i t,k=Sum.inl i/\v=Value.int i t)\/(∃x t,k=Dc x/\v=Value.str x t)
 |.inl i,v,h=>by
  obtain⟨t,e⟩:=Value.isInt_shape h;exact .inl ⟨i,t,rfl,e⟩
 |.inr x,v,h=>by
  obtain⟨t,e⟩:=Value.isStrOf_shape h;exact .inr ⟨x,t,rfl,e⟩
theorem Ra(i:Int)(t:Tok):iJ (.inl i) (.int i t)=ah:=by simp[iJ,Value.isInt]
theorem JJ(x:Str)(t:Tok):iJ (.inr x) (.str x t)=ah:=by simp[iJ,Value.isStrOf]
theorem GI(a b:Int):decide ((Sum.inl a:aC)=Sum.inl b)=(a==b):=by
 by_cases e:a=b
 ·subst e;simp
 ·have h:¬(Sum.inl a:aC)=Sum.inl b:=λq=>e (Sum.inl.inj q);rw[d_ h];exact(beq_eq_false_iff_ne.mpr e).symm
theorem NC(a b:Str):decide ((Dc a:aC)=Dc b)=decide (a=b):=by
 by_cases e:a=b
 ·subst e;simp
 ·have h:¬(Dc a:aC)=Dc b:=λq=>e (Sum.inr.inj q);simp
theorem JV(a:Int)(b:Str):decide ((Sum.inl a:aC)=Dc b)=ai:=d_ (λq=>nomatch q)
theorem FF(a:Str)(b:Int):decide ((Dc a:aC)=Sum.inl b)=ai:=d_ (λq=>nomatch q)
def fj(prog:A3)(w:Bi):PySem.KeyKind prog w aC where
 is:=iJ
 hash:=j7 w
 inj:=λv a b ha hb=>by
  rcases fZ ha with⟨i,t,rfl,rfl⟩|⟨x,t,rfl,rfl⟩
  ·rcases fZ hb with⟨j,u,rfl,e⟩|⟨y,u,rfl,e⟩
   ·injection e with e1 _;rw[e1]
   ·exact nomatch e
  ·rcases fZ hb with⟨j,u,rfl,e⟩|⟨y,u,rfl,e⟩
   ·exact nomatch e
   ·injection e with e1 _;rw[e1]
 byValue:=λk v h=>by
  rcases fZ h with⟨i,t,rfl,rfl⟩|⟨x,t,rfl,rfl⟩<;>rfl
 pyHash:=λhv h=>by
  rcases fZ hv with⟨i,t,rfl,rfl⟩|⟨x,t,rfl,rfl⟩
  ·exact wpAny_pyHash_int h
  ·exact wpAny_pyHash_str h
 eqBool:=λhu hv h=>by
  rcases fZ hu with⟨i,t,rfl,rfl⟩|⟨x,t,rfl,rfl⟩
  ·rcases fZ hv with⟨j,u,rfl,rfl⟩|⟨y,u,rfl,rfl⟩
   ·rw[GI]at h;exact wpAny_eqBool_int h
   ·rw[JV]at h;exact SeqAt.EqAt.int_str i t y u _ _ _ _ h
  ·rcases fZ hv with⟨j,u,rfl,rfl⟩|⟨y,u,rfl,rfl⟩
   ·rw[FF]at h;exact SeqAt.EqAt.str_int x t j u _ _ _ _ h
   ·rw[NC]at h;exact wpAny_eqBool_str h
 «strs»:=λk x t v h=>by
  rcases fZ h with⟨i,u,rfl,e⟩|⟨y,u,rfl,e⟩
  ·exact nomatch e
  ·injection e with e1 _;subst e1;cases v<;>rfl
theorem AE(prog:A3)(w:Bi)(i:Int)(t:Tok):(fj prog w).is (.inl i) (.int i t)=ah:=Ra i t
theorem zf(prog:A3)(w:Bi)(x:Str)(t:Tok):(fj prog w).is (.inr x) (.str x t)=ah:=JJ x t
mutual
def cI:Nat->Ad->Bool
 |_,.none=>ah
 |_,.int _=>ah
 |_,.str x=>Ec x
 |n+1,.tuple ds=>ec n ds
 |_,_=>ai
def ec:Nat->List Ad->Bool
 |_,[]=>ah
 |n,d::r=>cI n d&&ec n r
end
mutual
def lU(w:Bi):Ad->Int
 |.str x=>j7 w (.inr x)
 |.int i=>j7 w (.inl i)
 |.none=>0xFCA86420
 |.tuple xs=>reduceHash (Builtin.Tuple.tupleHashOf (m9 w xs))
 |_=>0
def m9(w:Bi):List Ad->List Int
 |[]=>[]
 |x::r=>lU w x::m9 w r
end
mutual
def jv:Ad->Nat
 |.tuple xs=>oQ xs+1
 |_=>1
def oQ:List Ad->Nat
 |[]=>0
 |x::r=>jv x+oQ r
end
theorem gy{n:Nat}{d:Ad}(h:cI n d=ah):d=.none\/(∃i,d=.int i)\/(∃x,d=.str x/\Ec x=ah)\/∃m ds,n=m+1/\d=.tuple ds/\ec m ds=ah:=by
 cases d with
 |none=>exact .inl rfl
 |int i=>exact .inr (.inl ⟨i,rfl⟩)
 |str x=>exact .inr (.inr (.inl ⟨x,rfl,by assumption⟩))
 |tuple ds=>
  cases n with
  |zero=>rw[cI]at h<;>first|cases h|(intros;rfl)
  |succ m=>exact .inr (.inr (.inr ⟨m,ds,rfl,rfl,by assumption⟩))
 |_=>cases n<;>(rw[cI]at h<;>first|cases h|(intros;rfl))
theorem vA:∀(n:Nat){d:Ad},cI n d=ah->C1 d=ah/\E3 d<=n:=by
 intro n
 induction n with
 |zero=>
  intro d h;rcases gy h with rfl|⟨i,rfl⟩|⟨x,rfl,f⟩|⟨m,b,e,_⟩
  ·exact⟨rfl,A1 _⟩
  ·exact⟨rfl,A1 _⟩
  ·exact⟨f,A1 _⟩
  ·cases e
 |succ n j=>
  intro d h;rcases gy h with rfl|⟨i,rfl⟩|⟨x,rfl,f⟩|⟨m,b,e,rfl,g⟩
  ·exact⟨rfl,A1 _⟩
  ·exact⟨rfl,A1 _⟩
  ·exact⟨f,A1 _⟩
  ·cases e;have:Cp b=ah/\F3 b<=n:=by
    clear h
    induction b with
    |nil=>exact⟨rfl,A1 _⟩
    |cons x r c=>
     rw[ec,Bj]at g;obtain⟨l,p⟩:=c g.2;obtain⟨k,o⟩:=j g.1;exact⟨by rw[Cp,l,k];rfl,by rw[F3];omega⟩
   exact⟨by exact this.1,by rw[E3];omega⟩
theorem Qq:∀(n:Nat){d e:Ad},cI n d=ah->cI n e=ah->(C0 d e=ah↔d=e):=by
 intro n;have a:∀{d e:Ad},(d=.none\/(∃i,d=.int i)\/∃x,d=.str x)->(e=.none\/(∃i,e=.int i)\/∃x,e=.str x)->(C0 d e=ah↔d=e):=by
  intro d e h g;rcases h with rfl|⟨i,rfl⟩|⟨x,rfl⟩<;>rcases g with rfl|⟨j,rfl⟩|⟨y,rfl⟩<;>simp[C0]
 induction n with
 |zero=>
  intro d e h g;refine a ?_ ?_
  ·rcases gy h with h|h|⟨x,h,_⟩|⟨m,t,e,_⟩
   ·exact .inl h
   ·exact .inr (.inl h)
   ·exact .inr (.inr ⟨x,h⟩)
   ·cases e
  ·rcases gy g with h|h|⟨x,h,_⟩|⟨m,t,e,_⟩
   ·exact .inl h
   ·exact .inr (.inl h)
   ·exact .inr (.inr ⟨x,h⟩)
   ·cases e
 |succ n z=>
  intro d e h g;have q:∀l c:List Ad,ec n l=ah->ec n c=ah->(Fb l c=ah↔l=c):=by
   intro l
   induction l with
   |nil=>intro c _ _;cases c<;>simp[Fb]
   |cons x r u=>
    intro c o p;cases c with
    |nil=>simp[Fb]
    |cons y s=>
     rw[ec,Bj]at o p;rw[Fb,Bj,z o.1 p.1,u s o.2 p.2,List.cons.injEq]
  rcases gy h with rfl|⟨i,rfl⟩|⟨x,rfl,o⟩|⟨m,t,v,rfl,C⟩<;>rcases gy g with rfl|⟨j,rfl⟩|⟨y,rfl,p⟩|⟨k,w,B,rfl,A⟩
  ·exact a (.inl rfl) (.inl rfl)
  ·exact a (.inl rfl) (.inr (.inl ⟨_,rfl⟩))
  ·exact a (.inl rfl) (.inr (.inr ⟨_,rfl⟩))
  ·simp[C0]
  ·exact a (.inr (.inl ⟨_,rfl⟩)) (.inl rfl)
  ·exact a (.inr (.inl ⟨_,rfl⟩)) (.inr (.inl ⟨_,rfl⟩))
  ·exact a (.inr (.inl ⟨_,rfl⟩)) (.inr (.inr ⟨_,rfl⟩))
  ·simp[C0]
  ·exact a (.inr (.inr ⟨_,rfl⟩)) (.inl rfl)
  ·exact a (.inr (.inr ⟨_,rfl⟩)) (.inr (.inl ⟨_,rfl⟩))
  ·exact a (.inr (.inr ⟨_,rfl⟩)) (.inr (.inr ⟨_,rfl⟩))
  ·simp[C0]
  ·simp[C0]
  ·simp[C0]
  ·simp[C0]
  ·cases v;cases B;rw[C0,q t w C A,PyData.tuple.injEq]
theorem l8{n:Nat}{d:Ad}(h:cI n d=ah):(d=.none\/(∃i,d=.int i)\/∃x,d=.str x)\/∃m ds,n=m+1/\d=.tuple ds/\ec m ds=ah:=by
 rcases gy h with e|e|⟨x,e,_⟩|e
 ·exact .inl (.inl e)
 ·exact .inl (.inr (.inl e))
 ·exact .inl (.inr (.inr ⟨x,e⟩))
 ·exact .inr e
theorem tE{h:Heap}{v:Af}{d e:Ad}{as bs:List A'}(p:d=.none\/(∃i,d=.int i)\/∃x,d=.str x)(r1:Reads h v d as)(r2:Reads h v e bs):d=e:=by
 rcases p with rfl|⟨i,rfl⟩|⟨x,rfl⟩
 ·cases r1;cases r2;rfl
 ·cases r1;cases r2;rfl
 ·cases r1;cases r2;rfl
theorem yh{h h':Heap}{v:Af}{d:Ad}{as:List A'}(p:d=.none\/(∃i,d=.int i)\/∃x,d=.str x)(r1:Reads h v d as):Reads h' v d as:=by
 rcases p with rfl|⟨i,rfl⟩|⟨x,rfl⟩
 ·cases r1;exact .none
 ·cases r1;exact .int _ _
 ·cases r1;exact .str _ _
theorem NU:∀(n:Nat){h:Heap}{v:Af}{d e:Ad}{as bs:List A'},cI n d=ah->cI n e=ah->Reads h v d as->Reads h v e bs->d=e:=by
 intro n
 induction n with
 |zero=>
  intro h v d e as bs t B j g;rcases l8 t with p|⟨m,F,z,_⟩
  ·exact tE p j g
  ·cases z
 |succ n M=>
  intro h v d e as bs t B j g;rcases l8 t with p|⟨m,F,z,rfl,w⟩
  ·exact tE p j g
  ·cases z;rcases l8 B with p|⟨m,O,z,rfl,x⟩
   ·exact(tE p g j).symm
   ·cases z;cases j with
    |tuple D N K L=>
     cases g with
     |tuple G P l H=>
      cases Bw (D.symm.trans G);rw[K]at l;injection l with l _;subst l;have:∀{o:List Af}{i f:List Ad}{as bs:List A'},ec n i=ah->ec n f=ah->ReadsAll h o i as->ReadsAll h o f bs->i=f:=by
       intro o
       induction o with
       |nil=>intro i f as bs _ _ s A;cases s;cases A;rfl
       |cons v r u=>
        intro i f as bs q y s A;cases s with
        |cons I C=>
         cases A with
         |cons J E=>
          rw[ec,Bj]at q y;rw[M q.1 y.1 I J,u q.2 y.2 C E]
      rw[this w x L H]
theorem P2:∀(n:Nat){h h':Heap}{v:Af}{d:Ad}{as:List A'}{dd:A'}{o:Obj}{es:Array G6}{ep:Nat},cI n d=ah->Reads h v d as->h.get? dd=ae o->o.data=.dict es ep->C7 dd h h'->Reads h' v d as:=by
 intro n
 induction n with
 |zero=>
  intro h h' v d as dd o es ep q i A g y;rcases l8 q with p|⟨m,D,z,_⟩
  ·exact yh p i
  ·cases z
 |succ n I=>
  intro h h' v d as dd o es ep q i A g y;rcases l8 q with p|⟨m,D,z,rfl,w⟩
  ·exact yh p i
  ·cases z;cases i with
   |@tuple a J f k _ _ C E G H=>
    have x:a≠dd:=by
     rintro rfl
     simp_all
    have:∀{f:List Af}{e:List Ad}{as:List A'},ec n e=ah->ReadsAll h f e as->ReadsAll h' f e as:=by
     intro f
     induction f with
     |nil=>intro e as _ l;cases l;exact .nil
     |cons v r s=>
      intro e as j l;cases l with
      |cons F B=>
       rw[ec,Bj]at j;exact .cons (I j.1 F A g y) (s j.2 B)
    exact .tuple ((y.2 a x).trans C) E G (this w H)
section
variable{prog:A3}{w:Bi}{E:Af->Ai->Prop}
theorem CM{n:Nat}(ih:∀{A:Bq} {s:Ai} {v:Af} {d:Ad} {as:List A'} {Q:Int->Ai->Prop},A.units+n < De->cI n d=ah->Reads s.heap v d as->Q (lU w d) {s with toks:=s.toks+jv d}->A6 (A9 prog w) A (pyHash v) Q E s):
  ∀(xs:List Ad)(vs:List Af)(as:List A')(A:Bq)(s:Ai)(b:Array Int)(Q:Array Int->Ai->Prop),ec n xs=ah->ReadsAll s.heap vs xs as->A.units+n < De->
  (∀b',b'.toList=b.toList++m9 w xs->Q b' {s with toks:=s.toks+oQ xs})->
  A6 (A9 prog w) A (Gp vs b λx r=>do let h <-pyHash x;pure PUnit.unit;pure (Cr (r.push h))) Q E s
 |[],_,as,A,s,b,Q,_,x,_,h=>by cases x;exact Aj (h b (by simp[m9]))
 |k::xs,_,as,A,s,b,Q,a,x,c,h=>by
  cases x with
  |cons g e=>
   rw[ec,Bj]at a;rw[List.forIn_cons];refine Aa (Aa (ih c a.1 g (Aa (Aj (Aj ?_)))));refine CM ih xs _ _ A _ _ Q a.2 e c λb' f=>?_;have:=h b' (by simp[f,m9]);rw[oQ,<-Nat.add_assoc]at this;omega
theorem Iq:∀(n:Nat){A:Bq}{s:Ai}{v:Af}{d:Ad}{as:List A'}{Q:Int->Ai->Prop},A.units+n < De->cI n d=ah->Reads s.heap v d as->Q (lU w d) {s with toks:=s.toks+jv d}->A6 (A9 prog w) A (pyHash v) Q E s:=by
 intro n;have l:∀{A:Bq}{s:Ai}{v:Af}{d:Ad}{as:List A'}{Q:Int->Ai->Prop},A.units < De->(d=.none\/(∃i,d=.int i)\/∃x,d=.str x)->Reads s.heap v d as->Q (lU w d) {s with toks:=s.toks+jv d}->A6 (A9 prog w) A (pyHash v) Q E s:=by
  intro A s v d as Q C B r q;rcases B with rfl|⟨i,rfl⟩|⟨x,rfl⟩
  ·cases r;exact W.pyHash_slot rfl F.slot_NoneType_hash F.entry_NoneType_hash (F.args_NoneType_hash_1 _) (beq_builtin_none _) (.inr C) (Aa (Aj (Aa (wpAny_mkInt (Aj ⟨_,_,rfl,by assumption⟩)))))
  ·cases r;rw[jv]at q
   ·exact(fj prog w).pyHash (AE prog w _ _) q
   all_goals (intros;trivial)
  ·cases r;rw[jv]at q
   ·exact(fj prog w).pyHash (zf prog w _ _) q
   all_goals (intros;trivial)
 induction n with
 |zero=>
  intro A s v d as Q C B r q;refine l C ?_ r q;rcases gy B with h|h|⟨x,h,_⟩|⟨m,H,e,_⟩
  ·exact .inl h
  ·exact .inr (.inl h)
  ·exact .inr (.inr ⟨x,h⟩)
  ·cases e
 |succ n M=>
  intro A s v d as Q C B r q;rcases gy B with h|h|⟨x,h,_⟩|⟨m,H,z,rfl,D⟩
  ·exact l ⋯ (.inl h) r q
  ·exact l ⋯ (.inr (.inl h)) r q
  ·exact l ⋯ (.inr (.inr ⟨x,h⟩)) r q
  ·cases z;cases r with
   |@tuple a o K k _ _ I O J L=>
    refine W.pyHash_slot ⟨o,I,O⟩ F.slot_tuple_hash F.entry_tuple_hash (F.args_tuple_hash_1 _) (beq_builtin_none _) (.inr ⋯) ?_;show A6 _ _ (Gs _>>=_) _ _ s;refine Aa (wpAny_tupleItemsOf I J (Aa ?_));rw[<-Array.forIn_toList];refine CM M H K.toList _ A.in1 s #[] _ D L (by simp;omega) λb N=>?_;show A6 _ _ (retInt _) _ _ _;rw[N];refine Aa (wpAny_mkInt (Aj ⟨_,_,rfl,?_⟩));rw[jv]at q;exact q
theorem Ly:∀(n m:Nat){A:Bq}{s:Ai}{v:Af}{d:Ad}{as:List A'}{Q:Bool->Ai->Prop},n<=m->cI n d=ah->Reads s.heap v d as->Q ah s->A6 (A9 prog w) A (eqIsQuiet m v) Q E s:=by
 intro n;have f:∀{m:Nat}{A:Bq}{s:Ai}{v:Af}{d:Ad}{as:List A'}{Q:Bool->Ai->Prop},(d=.none\/(∃i,d=.int i)\/∃x,d=.str x)->Reads s.heap v d as->Q ah s->A6 (A9 prog w) A (eqIsQuiet m v) Q E s:=by
  intro m A s v d as Q l r q;have P:carriedByValue v=ah:=by
   rcases l with rfl|⟨i,rfl⟩|⟨x,rfl⟩<;>cases r<;>rfl
  rw[eqIsQuiet_byValue _ P];exact Aj q
 induction n with
 |zero=>
  intro m A s v d as Q _ l r q;refine f ?_ r q;rcases gy l with h|h|⟨x,h,_⟩|⟨m,H,e,_⟩
  ·exact .inl h
  ·exact .inr (.inl h)
  ·exact .inr (.inr ⟨x,h⟩)
  ·cases e
 |succ n O=>
  intro m A s v d as Q T l r q;rcases gy l with h|h|⟨x,h,_⟩|⟨X,H,z,rfl,t⟩
  ·exact f (.inl h) r q
  ·exact f (.inr (.inl h)) r q
  ·exact f (.inr (.inr ⟨x,h⟩)) r q
  ·cases z;obtain⟨m,rfl⟩:∃k,m=k+1:=⟨m-1,by omega⟩;cases r with
   |@tuple a o U k _ _ K R M N=>
    have G:s.TypeIs (.ref a) "tuple":=⟨o,K,R⟩;unfold eqIsQuiet;refine Aa (wpAny_specialOf G F.slot_tuple_eq.lookup (Aa (E7 G isSubtype_tuple_tuple ?_)));refine Aa (Dy K M (Aa ?_));rw[<-Array.forIn_toList];refine wpAny_forIn_list _ (λaA r B=>r.1=af/\B=s/\∃u I,ec n u=ah/\ReadsAll s.heap aA u I) _ ?_ ?_ _ _ ⟨rfl,rfl,H,_,t,N⟩
    ·rintro v aA r B ⟨J,rfl,u,I,y,D⟩
     cases D with
     |cons L S=>
      rw[ec,Bj]at y;exact Aa (O m ⋯ y.1 L (Aj ⟨rfl,rfl,_,_,y.2,S⟩))
    ·rintro⟨V,W⟩ B ⟨J,rfl,_⟩
     subst J;exact Aj q
end
def TK:Type:={ d:Ad // cI 6 d=ah}
noncomputable instance:DecidableEq TK:=λ_ _=>Classical.propDecidable _
def ny(prog:A3)(w:Bi):HeapKind prog w TK where
 is:=λh k a=>∃as,Reads h (.ref a) k.1 as
 hash:=λk=>lU w k.1
 draws:=λk=>jv k.1
 room:=λA=>A.units+16 < De
 inj:=λ{h a x y} hx hy=>by
  obtain⟨as,r1⟩:=hx;obtain⟨bs,r2⟩:=hy;exact Subtype.ext (NU 6 x.2 y.2 r1 r2)
 keeps:=λ{h h' k a d o es ep} x ho hd hs=>by
  obtain⟨as,r⟩:=x;exact⟨as,P2 6 k.2 r ho hd hs⟩
 pyHash:=λ{A E s k a Q} hu hk h=>by
  obtain⟨as,r⟩:=hk;exact Iq 6 ⋯ k.2 r h
 eqBool:=λ{A E s x y a b Q} hu hx hy h=>by
  obtain⟨as,r1⟩:=hx;obtain⟨bs,r2⟩:=hy;have l1:=vA 6 x.2;have l2:=vA 6 y.2;refine SeqAt.eqAt_reads x.1 y.1 A s _ _ _ _ r1 r2 l1.1 l2.1 ⋯ prog w E Q ?_;have e:C0 x.1 y.1=decide (x=y):=by
   rw[F6,Qq 6 x.2 y.2,decide_eq_true_iff];exact⟨Subtype.ext,λh=>by rw[h]⟩
  rw[e];exact h
 quiet:=λ{A E s k a Q} hk h=>by
  obtain⟨as,r⟩:=hk;exact Ly 6 8 ∎ k.2 r h
inductive V where
 |non|bl (b:Bool)|int (i:Int)|str (x:Str)|byt (b:Array UInt8)|flt (b:UInt64)|ref (a:A')|ty (n:String)
 deriving DecidableEq
def RelV:V->Af->Prop
 |.non,u=>u=B9
 |.bl b,u=>u=Value.bool b
 |.int i,u=>∃t,u=Value.int i t
 |.str x,u=>∃t,u=Value.str x t
 |.byt b,u=>∃t,u=Value.bytes b t
 |.flt b,u=>∃t,u=Value.float b t
 |.ref a,u=>u=Cj a
 |.ty n,u=>u=Er n
abbrev Vals:List V->List Af->Prop:=Paired RelV
theorem Vals.length{xs:List V}{us:List Af}(r:Vals xs us):xs.length=us.length:=D1 r
theorem Vals.get:∀{xs:List V}{us:List Af}{i:Nat}{x:V},Vals xs us->xs[i]?=ae x->∃u,us[i]?=ae u/\RelV x u
 |_,_,_,_,.nil,e=>by simp at e
 |_,_,0,_,.cons r _,e=>by simp at e;subst e;exact⟨_,rfl,r⟩
 |_,_,i+1,x,.cons _ t,e=>by
  obtain⟨u,b,a⟩:=Vals.get t (by assumption);exact⟨u,by simpa using b,a⟩
theorem Vals.set{x:V}{u:Af}(r:RelV x u):∀{xs:List V}{us:List Af}(i:Nat),Vals xs us->Vals (xs.set i x) (us.set i u)
 |_,_,_,.nil=>.nil
 |_,_,0,.cons _ t=>.cons r t
 |_,_,i+1,.cons q t=>.cons q (Vals.set r i t)
theorem Vals.append:∀{xs ys:List V}{us ws:List Af},Vals xs us->Vals ys ws->Vals (xs++ys) (us++ws)
 |_,_,_,_,.nil,s=>s
 |_,_,_,_,.cons r t,s=>.cons r (Vals.append t s)
theorem Vals.take:∀{xs:List V}{us:List Af}(n:Nat),Vals xs us->Vals (xs.take n) (us.take n)
 |_,_,0,_=>.nil
 |_,_,_+1,.nil=>.nil
 |_,_,n+1,.cons r t=>.cons r (Vals.take n t)
theorem Vals.drop:∀{xs:List V}{us:List Af}(n:Nat),Vals xs us->Vals (xs.drop n) (us.drop n)
 |_,_,0,r=>r
 |_,_,_+1,.nil=>.nil
 |_,_,n+1,.cons _ t=>Vals.drop n t
def RelO:Option V->Option Af->Prop
 |some v,ae u=>RelV v u
 |none,af=>True
 |_,_=>False
def KV{κ:Type}:List (κ×V)->List (κ×Af)->Prop:=Paired λ(p:κ×V)(q:κ×Af)=>p.1=q.1/\RelV p.2 q.2
def kV:aC->V
 |.inl i=>.int i
 |.inr x=>.str x
inductive HO where
 |lst (xs:List V)
 |tup (xs:List V)
 |dK (kvs:List (aC×V))|dT (kvs:List (List aC×V))
 |dX (ps:List (TK×A'×V))
 |set (S:Int->Bool) (n:Nat)
 |ins (C dx:A') (fs:List (Str×V))
 |own (x:A')
 |xd (fs:List (Str×V))
 |met (f x:A')
 |rng (lo hi:Int)
 |frz (o:Obj) (u:HO)
 |tbl (ps:Array Af)
 |ext (φ:Heap->Prop)
abbrev Hp:=A'->Option HO
def upd(H:Hp)(a:A')(o:HO):Hp:=λb=>if b=a then ae o else H b
theorem a9{H:Hp}{a:A'}{o:HO}:upd H a o a=ae o:=by unfold upd;simp
theorem aG{H:Hp}{a b:A'}{o:HO}(h:b≠a):upd H a o b=H b:=by unfold upd;rw[a_ h]
theorem uj{H:Hp}{a:A'}{o u:HO}:upd (upd H a o) a u=upd H a u:=by
 funext b;unfold upd;simp_all
theorem xY{H:Hp}{a b:A'}{o u:HO}(h:H a=ae o)(h':H b=ae u)(d:o≠u):a≠b:=by
 intro e;subst e;rw[h]at h';simp_all
theorem bu{H:Hp}{a b:A'}{o:HO}(h:H a=ae o)(h':H b=af):a≠b:=by
 intro e;simp_all
def IsTupP(h:Heap)(a:A')(items:Array Af):Prop:=∃o,h.get? a=ae o/\o.cls=.type "tuple"/\(∃n,o.data=.seq items n)/\o.dict=af
theorem IsTupP.tup{h:Heap}{a:A'}{items:Array Af}(x:IsTupP h a items):IsTup h a items:=let⟨o,e,c,d,_⟩:=x;⟨o,e,c,d⟩
theorem IsTupP.lt{h:Heap}{a:A'}{items:Array Af}(x:IsTupP h a items):a < h.objs.size:=let⟨_,e,_⟩:=x;Aw e
theorem IsTupP.new(h:Heap)(items:Array Af):IsTupP (h.push {cls:=.type "tuple",data:=.seq items}) h.objs.size items:=⟨_,Ax _ rfl,rfl,⟨_,rfl⟩,rfl⟩
section
variable(P:A3)(w:Bi)
def ObjOk(H:Hp)(h:Heap)(a:A'):HO->Prop
 |.lst xs=>xs.length<=Ay/\∃(i':List Af)(n:Nat),Vals xs i'/\h.get? a=ae {cls:=.type "list",data:=.seq i'.toArray n}
 |.tup xs=>xs.length<=Ay/\∃i':List Af,Vals xs i'/\IsTupP h a i'.toArray
 |.dK kvs=>kvs.length<=Ay/\(a==Dk)=ai/\∃vs,KV kvs vs/\h.DictOf (fj P w) a vs
 |.dT kvs=>kvs.length<=Ay/\(a==Dk)=ai/\∃xs:List (List aC×A'×Af),
   Paired (λ(p:List aC×V)(q:List aC×A'×Af)=>p.1=q.1/\H q.2.1=ae (.tup (p.1.map kV))/\RelV p.2 q.2.2) kvs xs /\
   ∃o es ep,h.get? a=ae o/\o.ExactDict/\o.data=.dict es ep/\es.toList=xs.map (entryOfKey (tupleKind (fj P w)))/\(xs.map (·.1)).Nodup
 |.dX ps=>ps.length<=Ay/\(a==Dk)=ai/\∃xs:List (TK×A'×Af),Paired (λ(p:TK×A'×V)(q:TK×A'×Af)=>p.1=q.1/\p.2.1=q.2.1/\RelV p.2.2 q.2.2) ps xs /\
   ∃o es ep,h.get? a=ae o/\o.ExactDict/\o.data=.dict es ep/\es.toList=xs.map (entryOfKey (ny P w))/\(xs.map (·.1)).Nodup
 |.set S n=>h.SetOf (intKind P w) a S n
 |.ins C dx fs=>H dx=ae (.own a)/\fs.length<=1000/\dx≠a/\h.get? a=ae (PySem.W.instObj C dx) /\
   ∃mA,h.Ns1 dx mA/\(∀f,RelO (fs.lookup f) (mA f))/\PySem.Within mA (fs.map (·.1))
 |.own _=>∃o,h.get? a=ae o
 |.xd fs=>∃mA,h.Ns1 a mA/\∀f,RelO (fs.lookup f) (mA f)
 |.rng lo hi=>∃t u v,h.get? a=ae {cls:=.type "range",data:=.fields #[.int lo t,.int hi u,.int 1 v]}
 |.frz o u=>h.get? a=ae o/\ObjOk H h a u
 |.tbl ps=>h.get? a=ae {cls:=.none,data:=.fields ps}
 |.met f x=>h.get? a=ae (PySem.W.methodObj (.ref f) (.ref x))
 |.ext φ=>φ h/\(∃o,h.get? a=ae o)/\∀h1 h2:Heap,φ h1->(∀o,h1.get? a=ae o->h2.get? a=ae o)->φ h2
def HOk(H:Hp)(h:Heap):Prop:=∀a o,H a=ae o->ObjOk P w H h a o
end
section
variable{P:A3}{w:Bi}{H H':Hp}{h h':Heap}{a:A'}{o:HO}
theorem ObjOk.lt(x:ObjOk P w H h a o):a < h.objs.size:=by
 cases o with
 |lst q=>obtain⟨_,_,_,_,e⟩:=x;exact Aw e
 |tup q=>obtain⟨_,_,_,p⟩:=x;exact p.lt
 |dK b=>obtain⟨_,_,_,_,o,_,_,e,_⟩:=x;exact Aw e
 |dT b=>obtain⟨_,_,_,_,o,_,_,e,_⟩:=x;exact Aw e
 |dX c=>obtain⟨_,_,_,_,o,_,_,e,_⟩:=x;exact Aw e
 |set S n=>obtain⟨o,_,_,_,e,_⟩:=x;exact Aw e
 |ins C B s=>obtain⟨_,_,_,e,_⟩:=x;exact Aw e
 |own y=>obtain⟨_,e⟩:=x;exact Aw e
 |xd s=>obtain⟨_,⟨_,_,_,e,_⟩,_⟩:=x;exact Aw e
 |rng F v=>obtain⟨_,_,_,e⟩:=x;exact Aw e
 |frz E u=>obtain⟨e,_⟩:=x;exact Aw e
 |tbl c=>exact Aw (x)
 |met f y=>exact Aw (x)
 |ext φ=>obtain⟨_,⟨_,e⟩,_⟩:=x;exact Aw e
theorem Paired.mapP{α β:Type}{F G:α->β->Prop}:∀{w_:List α}{x_:List β},Paired F w_ x_->(∀a b,F a b->G a b)->Paired G w_ x_
 |_,_,.nil,_=>.nil
 |_,_,.cons r t,f=>.cons (f _ _ r) (Paired.mapP t f)
theorem ObjOk.stay(x:ObjOk P w H h a o)(k:∀b u,(b=a\/H b=ae (.own a))->h.get? b=ae u->h'.get? b=ae u)
  (ho:∀b,H b=ae (.own a)->H' b=ae (.own a)) (ht:∀b xs,H b=ae (.tup xs)->H' b=ae (.tup xs)):ObjOk P w H' h' a o:=by
 induction o with
 |lst xs=>obtain⟨z,l,n,r,e⟩:=x;exact⟨z,l,n,r,k _ _ (.inl rfl) e⟩
 |tup xs=>obtain⟨z,l,r,g,e,c⟩:=x;exact⟨z,l,r,g,k _ _ (.inl rfl) e,c⟩
 |dK s=>obtain⟨z,y,I,r,g,i,j,e,c⟩:=x;exact⟨z,y,I,r,g,i,j,k _ _ (.inl rfl) e,c⟩
 |dT s=>
  obtain⟨z,y,xs,r,g,i,j,e,c⟩:=x;exact⟨z,y,xs,Paired.mapP r λp q z=>⟨z.1,ht _ _ z.2.1,z.2.2⟩,g,i,j,k _ _ (.inl rfl) e,c⟩
 |dX D=>
  obtain⟨z,y,xs,r,g,i,j,e,c⟩:=x;exact⟨z,y,xs,r,g,i,j,k _ _ (.inl rfl) e,c⟩
 |set S n=>obtain⟨g,i,j,t,e,c⟩:=x;exact⟨g,i,j,t,k _ _ (.inl rfl) e,c⟩
 |ins C W R=>
  obtain⟨d,z,K,e,m,⟨A,i,j,O,c⟩,r⟩:=x;exact⟨ho _ d,z,K,k _ _ (.inl rfl) e,m,⟨A,i,j,k _ _ (.inr d) O,c⟩,r⟩
 |own y=>obtain⟨g,e⟩:=x;exact⟨g,k _ _ (.inl rfl) e⟩
 |xd R=>obtain⟨m,⟨A,i,j,e,c⟩,r⟩:=x;exact⟨m,⟨A,i,j,k _ _ (.inl rfl) e,c⟩,r⟩
 |rng Y T=>obtain⟨t,u,v,e⟩:=x;exact⟨t,u,v,k _ _ (.inl rfl) e⟩
 |frz g u N=>obtain⟨e,q⟩:=x;exact⟨k _ _ (.inl rfl) e,N q⟩
 |tbl D=>
  have e:=x;exact k a _ (.inl rfl) e
 |met f y=>
  have e:=x;exact k a _ (.inl rfl) e
 |ext φ=>obtain⟨p,⟨o,e⟩,B⟩:=x;exact⟨B _ _ p λo q=>k _ _ (.inl rfl) q,⟨o,k _ _ (.inl rfl) e⟩,B⟩
theorem HOk.lt(x:HOk P w H h)(e:H a=ae o):a < h.objs.size:=(x a o e).lt
theorem HOk.fresh(x:HOk P w H h)(e:h.objs.size<=a):H a=af:=by
 cases q:H a with
 |none=>rfl
 |some u=>exact g_ (Bp (x.lt q) e) (Fg _)
theorem HOk.kept(x:HOk P w H h)(k:∀b u,h.get? b=ae u->h'.get? b=ae u):HOk P w H h':=λa o e=>
 (x a o e).stay (λb u _ q=>k b u q) (λ_ q=>q) λ_ _ q=>q
theorem HOk.laid(x:HOk P w H h)(k:∀b u,h.get? b=ae u->h'.get? b=ae u)(hp:h.objs.size<=a)(new:ObjOk P w (upd H a o) h' a o):HOk P w (upd H a o) h':=λb u e=>by
 have d:=x.fresh hp;by_cases f:b=a
 ·subst f;rw[a9]at e;simp_all
 ·rw[aG f]at e;exact(x b u e).stay (λc v _ q=>k c v q) (λc q=>by rw[aG (bu q d)];exact q) λc g q=>by rw[aG (bu q d)];exact q
end
def Rd(H:Hp)(a:A')(u:HO):Prop:=H a=ae u\/∃o,H a=ae (.frz o u)
theorem Rd.ok{P:A3}{w:Bi}{H:Hp}{h:Heap}{a:A'}{u:HO}(r:Rd H a u)(x:HOk P w H h):ObjOk P w H h a u:=by
 rcases r with r|⟨o,r⟩
 ·exact x a u r
 ·obtain⟨_,q⟩:=x a _ r;exact q
def mF:Option HO->Prop
 |some (.lst _)=>True
 |some (.dK _)=>True
 |some (.dT _)=>True
 |some (.dX _)=>True
 |some (.set _ _)=>True
 |some (.ins _ _ _)=>True
 |some (.ext _)=>True
 |_=>False
section
variable{P:A3}{w:Bi}{H:Hp}{h h':Heap}{x e:A'}{o':HO}
theorem HOk.write(ok:HOk P w H h)(mu:mF (H x))(he:e=x\/H e=ae (.own x))(k:∀b u,b≠e->h.get? b=ae u->h'.get? b=ae u)(heo:∃u,h'.get? e=ae u)
  (new:ObjOk P w (upd H x o') h' x o'):HOk P w (upd H x o') h':=λb u q=>by
 have a:∀c y,H c=ae (.own y)->c≠x:=λc y r z=>by subst z;rw[r]at mu;trivial
 have f:∀c g,H c=ae (.tup g)->c≠x:=λc g r z=>by subst z;rw[r]at mu;trivial
 by_cases j:b=x
 ·subst j;rw[a9]at q;simp_all
 ·rw[aG j]at q;by_cases d:b=e
  ·have l:H b=ae (.own x):=by
    rcases he with z|z
    ·exact g_ (d.trans z) j
    ·rw[d];exact z
   rw[q]at l;cases l;obtain⟨v,m⟩:=heo;exact⟨v,by simp_all⟩
  ·refine(ok b u q).stay (λc v i r=>k c v ?_ r) (λc r=>by rw[aG (a c b r)];exact r) λc g r=>by rw[aG (f c g r)];exact r
   rcases i with rfl|i
   ·exact d
   ·rintro rfl
    rcases he with z|z
    ·exact a c b i z
    ·rw[i]at z;simp_all
end
structure Un(fs ex:List A')(H H':Hp)(h h':Heap):Prop where
 keep:∀b o,h.get? b=ae o->H b=af->b∉fs->b∉ex->h'.get? b=ae o
 slot:∀b o,h.get? b=ae o->H b=af->b∈fs->b∉ex->∃sl,h'.get? b=ae {o with slots:=sl}
 free:∀b o,h.get? b=ae o->H b=af->b∉ex->H' b=af
 there:∀b o,h.get? b=ae o->b∉ex->∃o',h'.get? b=ae o'
 tups:∀b xs,H b=ae (.tup xs)->H' b=ae (.tup xs)
 frzs:∀b o u,H b=ae (.frz o u)->H' b=ae (.frz o u)
 tbls:∀b ps,H b=ae (.tbl ps)->∃more,H' b=ae (.tbl (ps++more))
section
variable{fs fs' ex ex':List A'}{H H1 H2:Hp}{h h1 h2 h':Heap}{a x e:A'}{o:HO}
theorem Un.any(u:Un fs ex H H1 h h1){b:A'}{ob:Obj}(q:h.get? b=ae ob)(n:H b=af)(hx:b∉ex):∃sl,h1.get? b=ae {ob with slots:=sl}:=by
 by_cases a:b∈fs
 ·exact u.slot b ob q n a hx
 ·exact⟨_,u.keep b ob q n a hx⟩
theorem Un.kept(k:∀b u,h.get? b=ae u->h'.get? b=ae u):Un fs ex H H h h':=
 ⟨λb a q _ _ _=>k b a q,λb a q _ _ _=>⟨_,k b a q⟩,λ_ _ _ n _=>n,λb a q _=>⟨a,k b a q⟩,λ_ _ q=>q,λ_ _ _ q=>q,λ_ c q=>⟨#[],by rw[q];simp⟩⟩
theorem Un.refl:Un fs ex H H h h:=Un.kept λ_ _ q=>q
theorem Un.laid(k:∀b u,h.get? b=ae u->h'.get? b=ae u)(hp:h.objs.size<=a)(hn:H a=af):Un fs ex H (upd H a o) h h' where
 keep:=λb u q _ _ _=>k b u q
 slot:=λb u q _ _ _=>⟨_,k b u q⟩
 free:=λb u q n _=>by rw[aG (Bf (Bp (Aw q) hp))];exact n
 there:=λb u q _=>⟨u,k b u q⟩
 tups:=λb c q=>by rw[aG (bu q hn)];exact q
 frzs:=λb u c q=>by rw[aG (bu q hn)];exact q
 tbls:=λb d q=>⟨#[],by rw[aG (bu q hn),q];simp⟩
theorem Un.write(mu:mF (H x))(he:e=x\/H e=ae (.own x))(k:∀b u,b≠e->h.get? b=ae u->h'.get? b=ae u)(heo:∃u,h'.get? e=ae u):Un fs ex H (upd H x o) h h':=by
 have d:∀b,H b=af->b≠x:=λb n z=>by subst z;rw[n]at mu;trivial
 have f:∀b,H b=af->b≠e:=λb n z=>by
  subst z;rcases he with r|r
  ·exact d b n r
  ·rw[n]at r;cases r
 have c:∀b u,H b=ae u->¬mF (ae u)->b≠x:=λb u q i z=>by simp_all
 refine⟨λb u q n _ _=>k b u (f b n) q,λb u q n _ _=>⟨u.slots,k b u (f b n) q⟩,λb u q n _=>by rw[aG (d b n)];exact n,λb u q _=>?_,
  λb g q=>by rw[aG (c b _ q λz=>z)];exact q,λb u g q=>by rw[aG (c b _ q λz=>z)];exact q,λb j q=>⟨#[],by rw[aG (c b _ q λz=>z),q];simp⟩⟩
 by_cases a:b=e
 ·subst a;omega
 ·exact⟨u,k b u a q⟩
end
def zp(h:Heap)(H:Hp):List A':=(Be h.objs.size).filter λa=>(H a).isSome
def fD(h:Heap)(H:Hp):Heap:=PySem.W.hideAll h (zp h H)
theorem RQ(h:Heap)(H:Hp):(fD h H).objs.size=h.objs.size:=PySem.W.hideAll_size _ _
theorem QX{h:Heap}{H:Hp}{b:A'}{o:Obj}(e:h.get? b=ae o)(n:H b=af):(fD h H).get? b=ae o:=
 PySem.W.hideAll_get _ e λhm=>by
  have q:=(En.mp hm).2;simp_all
theorem K3{h:Heap}{H:Hp}{b:A'}{o:Obj}(e:(fD h H).get? b=ae o):h.get? b=ae o/\H b=af:=by
 have a:=PySem.W.of_hideAll _ e;refine⟨a,?_⟩;cases q:H b with
 |none=>rfl
 |some x=>
  have d:b∈zp h H:=En.mpr ⟨Cn.mpr (Aw a),by simp[q]⟩;have z:(fD h H).get? b=af:=PySem.W.hideAll_none _ d;rw[z]at e;cases e
def GF(g h:Heap)(L:A'):List (A'×Obj):=(Be h.objs.size).filterMap λa=>if a=L\/(g.get? a).isSome=ah then af else(h.get? a).map λo=>(a,o)
def aA(g h:Heap)(L d:A'):List (A'×Obj):=(GF g h L).filter λp=>decide (p.1≠d)
structure Mod(K:Ag)(mg:Str->Option Af)(base:Heap):Prop where
 kin:K.In base
 glob:base.Ns Eb mg
 blt:∃mb,base.Ns builtinsNs mb/\∀x:Str,x≠"__name__"->mb x=Bz x
 nolimit:base.NoLimit
structure Cx where
 prog:A3
 w:Bi
 K:Ag
 mg:Str->Option Af
 base:Heap
 A:Bq
 N:List Str
 s₀:Ai
 H₀:Hp
 env:Env
 outer:List Env
 stack:List Env
 ex:List A'
 fn:Str->Bool
 calm:Bool
 pn:List (A'×Obj)
 xe:Af->Ai->Prop
def gB(l:List Env):List A':=l.filterMap (·.frame)
abbrev Cx.fs(X:Cx):List A':=gB X.outer
def dU(sc:E9)(x:Str):Prop:=sc.names.lookup x=ae .local\/sc.names.lookup x=ae .cell\/sc.names.lookup x=ae .free
def fA(sc:E9)(x:Str):Prop:=sc.names.lookup x=ae .local\/sc.names.lookup x=ae .cell
def u5(env:Env)(h:Heap)(m:Str->Option Af)(x:Str)(u:Af):Prop:=
 (env.kindOf x=ae .local/\m x=ae u)\/((env.kindOf x=ae .cell\/env.kindOf x=ae .free)/\∃c,env.cells.lookup x=ae c/\h.IsCell c (ae u))
structure Cx.Ok(X:Cx):Prop where
 mod:Mod X.K X.mg X.base
 kind:X.env.scope.kind=.function
 glob:X.env.globals=Eb
 blt:X.env.builtins=builtinsNs
 above:X.s₀.heap.objs.size<=X.env.locals
 inj:∀x y c,X.env.cells.lookup x=ae c->X.env.cells.lookup y=ae c->x=y
 has:∀x,(X.env.kindOf x=ae .cell\/X.env.kindOf x=ae .free)->∃c,X.env.cells.lookup x=ae c
 cab:∀x c,X.fn x=ah->X.env.cells.lookup x=ae c->X.s₀.heap.objs.size<=c
 hd:X.calm=ah->X.A.handled=af
 frames:X.A.frames=ae X.stack
 stk:X.stack=X.outer\/(X.stack=X.env::X.outer/\X.env.frame=ae X.env.locals)
 exf:∀b∈X.ex,b≠X.env.locals/\∀x c,X.env.cells.lookup x=ae c->c≠b
 bs:∀b o,X.base.get? b=ae o->X.s₀.heap.get? b=ae o/\X.H₀ b=af
 bsz:X.base.objs.size<=X.s₀.heap.objs.size
 noex:∀b o,X.base.get? b=ae o->b∉X.ex
 exfs:∀b∈X.ex,b∉X.fs
 funs:X.s₀.heap.FunFrames X.base X.outer
 frf:∀b∈X.fs,X.H₀ b=af
structure Inv(X:Cx)(i_:List (A'×Obj))(σ:List (Option V))(H:Hp)(s:Ai):Prop where
 ok:X.Ok
 os:s.os=X.s₀.os
 bare:AllBare s.gens
 base:Un X.fs X.ex X.H₀ H X.s₀.heap s.heap
 loc:∃m,s.heap.Ns X.env.locals m/\∀(i:Nat)(x:Str)(v:V),X.N[i]?=ae x->σ[i]?=ae (ae v)->dU X.env.scope x->∃u,RelV v u/\u5 X.env s.heap m x u
 cell:∀x c,X.env.cells.lookup x=ae c->∃v,s.heap.IsCell c v
 free:H X.env.locals=af
 freeC:∀x c,X.env.cells.lookup x=ae c->H c=af
 pin:∀p∈X.pn++i_,s.heap.get? p.1=ae p.2/\H p.1=af/\p.1≠X.env.locals/\p.1∉X.fs/\∀v,p.2.data≠.cell v
 hok:HOk X.prog X.w H s.heap
 len:σ.length=X.N.length
section
variable{X:Cx}{i_:List (A'×Obj)}{σ:List (Option V)}{H H':Hp}{s:Ai}{h':Heap}
theorem Cx.Ok.nofr(ok:X.Ok){b:A'}{o:Obj}(e:X.base.get? b=ae o):b∉X.fs:=λhb=>by
 have:=(ok.funs.mem hb).1;simp_all
theorem Inv.bs(I:Inv X i_ σ H s):∀b o,X.base.get? b=ae o->s.heap.get? b=ae o/\H b=af:=λb o e=>
 ⟨I.base.keep b o (I.ok.bs b o e).1 (I.ok.bs b o e).2 (I.ok.nofr e) (I.ok.noex b o e),I.base.free b o (I.ok.bs b o e).1 (I.ok.bs b o e).2 (I.ok.noex b o e)⟩
theorem Inv.bk(I:Inv X i_ σ H s):∀b o,X.base.get? b=ae o->s.heap.get? b=ae o:=λb o e=>(I.bs b o e).1
theorem Inv.mod(I:Inv X i_ σ H s):Mod X.K X.mg X.base:=I.ok.mod
theorem Inv.kIn(I:Inv X i_ σ H s):X.K.In s.heap:=I.ok.mod.kin.keeps I.bk
theorem Inv.lt(I:Inv X i_ σ H s):X.env.locals < s.heap.objs.size:=let⟨_,a,_⟩:=I.loc;a.lt
theorem Inv.sz(I:Inv X i_ σ H s):X.s₀.heap.objs.size<=s.heap.objs.size:=A5 I.ok.above (Gn I.lt)
theorem Inv.nofs(I:Inv X i_ σ H s){a:A'}(h:s.heap.objs.size<=a):a∉X.fs:=λhb=>by
 obtain⟨_,o,b,_⟩:=I.ok.funs.mem hb;exact g_ (Bp (Aw b) (A5 I.sz h)) (Fg _)
theorem Inv.cne(I:Inv X i_ σ H s):∀x c,X.env.cells.lookup x=ae c->c≠X.env.locals:=λx c e z=>by
 obtain⟨v,o,f,h⟩:=I.cell x c e;obtain⟨m,⟨g,d,i,a,b,_⟩,_⟩:=I.loc;simp_all
theorem Inv.funs(I:Inv X i_ σ H s):s.heap.FunFrames X.base X.outer:=by
 have f:∀l,(∀b∈gB l,b∈X.fs)->X.s₀.heap.FunFrames X.base l->s.heap.FunFrames X.base l:=by
  intro l
  induction l with
  |nil=>intro _ _;trivial
  |cons n r q=>
   intro h i;obtain⟨j,⟨L,o,g,p,k,m⟩,t⟩:=i;have c:=h L (by unfold gB;rw[List.filterMap_cons,g];exact Ap);obtain⟨u,e⟩:=I.base.slot L o k (I.ok.frf L c) c λz=>I.ok.exfs L z c;exact⟨j,⟨L,_,g,p,e,m⟩,q (λb d=>h b (by unfold gB;rw[List.filterMap_cons,g];exact Ak _ d)) t⟩
 exact f X.outer (λ_ d=>d) I.ok.funs
theorem Inv.stack(I:Inv X i_ σ H s):s.heap.FunFrames X.base X.stack:=by
 rcases I.ok.stk with e|⟨e,b⟩
 ·rw[e];exact I.funs
 ·rw[e];obtain⟨m,a,_⟩:=I.loc;exact .cons (by rw[I.ok.kind];decide) b a (Heap.get?_none_of_le (A5 I.ok.bsz I.ok.above)) I.funs
theorem Inv.stkSub(I:Inv X i_ σ H s):∀b∈gB X.stack,b∈X.env.locals::X.fs:=λb a=>by
 rcases I.ok.stk with e|⟨e,c⟩
 ·rw[e]at a;exact Ak _ a
 ·rw[e]at a;unfold gB at a;rw[List.filterMap_cons,c]at a;exact a
theorem Inv.stkFree(I:Inv X i_ σ H s):∀b∈gB X.stack,H b=af:=λb a=>by
 rcases Av.mp (I.stkSub b a)with e|a
 ·rw[e];exact I.free
 ·obtain⟨_,o,c,_⟩:=I.ok.funs.mem a;exact I.base.free b o c (I.ok.frf b a) λz=>I.ok.exfs b z a
theorem Inv.step{g':Array GenState}{t':Nat}{d':Drawn}{ch:List A'}(I:Inv X i_ σ H s)
  (hch:∀b∈ch,(b∈X.ex\/X.s₀.heap.objs.size<=b)/\b≠X.env.locals/\(∀x c,X.env.cells.lookup x=ae c->c≠b)/\∀p∈X.pn++i_,p.1≠b)
  (keep:∀b o,b≠X.env.locals->b∉X.fs->b∉ch->s.heap.get? b=ae o->H b=af->h'.get? b=ae o)
  (slot:∀b o,b≠X.env.locals->b∈X.fs->b∉ch->s.heap.get? b=ae o->H b=af->∃sl,h'.get? b=ae {o with slots:=sl}) (free:∀b o,b∉ch->s.heap.get? b=ae o->H b=af->H' b=af)
  (there:∀b o,b∉ch->s.heap.get? b=ae o->∃o',h'.get? b=ae o')
  (tups:∀b xs,H b=ae (.tup xs)->H' b=ae (.tup xs)) (frzs:∀b o u,H b=ae (.frz o u)->H' b=ae (.frz o u)) (tbls:∀b ps,H b=ae (.tbl ps)->∃more,H' b=ae (.tbl (ps++more)))
  (ns:∀m,s.heap.Ns X.env.locals m->h'.Ns X.env.locals m) (hok:HOk X.prog X.w H' h') (hg:AllBare g'):
  Inv X i_ σ H' {s with heap:=h',gens:=g',drawn:=d',toks:=t'}:=by
 have A:∀b o,X.s₀.heap.get? b=ae o->b≠X.env.locals:=λb o e=>Bf (Bp (Aw e) I.ok.above);have j:∀b o,X.s₀.heap.get? b=ae o->b∉X.ex->b∉ch:=λb o e a t=>by
  rcases(hch b t).1 with z|z
  ·exact a z
  ·exact g_ (Bp (Aw e) z) (Fg _)
 have f:∀x c,X.env.cells.lookup x=ae c->∀v,s.heap.IsCell c v->h'.IsCell c v:=λx c e v w=>by
  obtain⟨o,y,D⟩:=w;have g:=λz=>(hch c z).2.2.1 x c e rfl;by_cases J:c∈X.fs
  ·obtain⟨sl,q⟩:=slot c o (I.cne x c e) J g y (I.freeC x c e);exact⟨_,q,D⟩
  ·exact⟨o,keep c o (I.cne x c e) J g y (I.freeC x c e),D⟩
 refine⟨I.ok,I.os,hg,⟨λb o e n t a=>?_,λb o e n t a=>?_,λb o e n a=>?_,λb o e a=>?_,λb xs e=>tups b xs (I.base.tups b xs e),λb o xs e=>frzs b o xs (I.base.frzs b o xs e),λb ps e=>?_⟩,?_,λx c e=>?_,?_,λx c e=>?_,λp F=>?_,hok,I.len⟩
 ·exact keep b o (A b o e) t (j b o e a) (I.base.keep b o e n t a) (I.base.free b o e n a)
 ·obtain⟨sl,h⟩:=I.base.slot b o e n t a;obtain⟨C,B⟩:=slot b _ (A b o e) t (j b o e a) h (I.base.free b o e n a);exact⟨C,B⟩
 ·obtain⟨o',h⟩:=I.base.there b o e a;exact free b o' (j b o e a) h (I.base.free b o e n a)
 ·obtain⟨o',h⟩:=I.base.there b o e a;exact there b o' (j b o e a) h
 ·obtain⟨O,h⟩:=I.base.tbls b ps e;obtain⟨K,B⟩:=tbls b _ h;exact⟨O++K,by simp_all⟩
 ·obtain⟨m,N,L⟩:=I.loc;refine⟨m,ns m N,λi x v h B M=>?_⟩;obtain⟨u,r,l⟩:=L i x v h B M;refine⟨u,r,?_⟩;rcases l with l|⟨k,c,e,z⟩
  ·exact .inl l
  ·exact .inr ⟨k,c,e,f x c e _ z⟩
 ·obtain⟨v,z⟩:=I.cell x c e;exact⟨v,f x c e v z⟩
 ·obtain⟨m,⟨o,_,_,y,_⟩,_⟩:=I.loc;exact free _ o (λz=>(hch _ z).2.1 rfl) y I.free
 ·obtain⟨v,o,y,D⟩:=I.cell x c e;exact free c o (λz=>(hch c z).2.2.1 x c e rfl) y (I.freeC x c e)
 ·obtain⟨e,n,G,E,d⟩:=I.pin p F;have g:=λz=>(hch p.1 z).2.2.2 p F rfl;exact⟨keep p.1 p.2 G E g e n,free p.1 p.2 g e n,G,E,d⟩
theorem Inv.un{t':Nat}(I:Inv X i_ σ H s)(u:Un X.fs [] H H' s.heap h')(hok:HOk X.prog X.w H' h'):Inv X i_ σ H' {s with heap:=h',toks:=t'}:=by
 obtain⟨m,⟨o,k,p,g,r⟩,_⟩:=id I.loc;obtain⟨q,h⟩:=u.any g I.free (by simp);exact I.step (ch:=[]) (λ_ z=>nomatch z) (λb o _ d _ e n=>u.keep b o e n d (by simp)) (λb o _ d _ e n=>u.slot b o e n d (by simp)) (λb o _ e n=>u.free b o e n (by simp)) (λb o _ e=>u.there b o e (by simp)) u.tups u.frzs u.tbls (λm' i=>by
  obtain⟨l,f,c,a,j⟩:=i;rw[g]at a;cases a;exact⟨_,f,c,h,j⟩) hok I.bare
theorem Inv.call{g':Array GenState}{t':Nat}{d':Drawn}{ch:List A'}(I:Inv X i_ σ H s)(u:Un (gB X.stack) ch H H' s.heap h')(hok:HOk X.prog X.w H' h')(hg:AllBare g')
  (hch:∀b∈ch,(b∈X.ex\/X.s₀.heap.objs.size<=b)/\b≠X.env.locals/\(∀x c,X.env.cells.lookup x=ae c->c≠b)/\∀p∈X.pn++i_,p.1≠b):
  Inv X i_ σ H' {s with heap:=h',gens:=g',drawn:=d',toks:=t'}:=by
 obtain⟨m,⟨o,q,v,i,r⟩,_⟩:=id I.loc;obtain⟨y,f⟩:=u.any i I.free λz=>(hch _ z).2.1 rfl;exact I.step hch (λb o f l a e n=>u.keep b o e n (λz=>(Av.mp (I.stkSub b z)).elim f l) a) (λb o _ _ a e n=>u.any e n a) (λb o a e n=>u.free b o e n a) (λb o a e=>u.there b o e a) u.tups u.frzs u.tbls (λm' j=>by
  obtain⟨t,h,g,d,k⟩:=j;rw[i]at d;cases d;exact⟨_,h,g,f,k⟩) hok hg
theorem Inv.turned{t':Nat}{it:A'}(I:Inv X i_ σ H s)(k:∀b o,b≠it->s.heap.get? b=ae o->h'.get? b=ae o)(hn:H it=af)(hL:it≠X.env.locals)
  (h1:it∈X.ex\/X.s₀.heap.objs.size<=it) (h2:∀x c,X.env.cells.lookup x=ae c->c≠it) (h3:∀p∈X.pn++i_,p.1≠it):Inv X i_ σ H {s with heap:=h',toks:=t'}:=by
 have d:∀b u,H b=ae u->b≠it:=λb u e z=>by simp_all
 refine I.step (ch:=[it]) (λb j=>?_) (λb o _ _ a e _=>k b o (λz=>a (by simp[z])) e) (λb o _ _ a e _=>⟨_,k b o (λz=>a (by simp[z])) e⟩) (λ_ _ _ _ n=>n)
  (λb o a e=>⟨o,k b o (λz=>a (by simp[z])) e⟩) (λ_ _ e=>e) (λ_ _ _ e=>e) (λb l e=>⟨#[],by rw[e];simp⟩) (λm f=>?_) (λb u e=>?_) I.bare
 ·have e:=by simpa using j
  subst e;exact⟨h1,hL,h2,h3⟩
 ·obtain⟨o,g,i,h,r⟩:=f;exact⟨o,g,i,k _ o (Ne.symm hL) h,r⟩
 ·refine(I.hok b u e).stay (λc v a q=>k c v ?_ q) (λ_ q=>q) λ_ _ q=>q;rcases a with z|z
  ·rw[z];exact d b u e
  ·exact d c _ z
theorem Inv.tok(I:Inv X i_ σ H s)(t:Nat):Inv X i_ σ H {s with toks:=t}:=I.un Un.refl I.hok
theorem Inv.kept{t':Nat}(I:Inv X i_ σ H s)(k:∀b u,s.heap.get? b=ae u->h'.get? b=ae u):Inv X i_ σ H {s with heap:=h',toks:=t'}:=I.un (Un.kept k) (I.hok.kept k)
theorem Inv.laid{a:A'}{o:HO}{t':Nat}(I:Inv X i_ σ H s)(k:∀b u,s.heap.get? b=ae u->h'.get? b=ae u)(hp:s.heap.objs.size<=a)(new:ObjOk X.prog X.w (upd H a o) h' a o):
  Inv X i_ σ (upd H a o) {s with heap:=h',toks:=t'}:=I.un (Un.laid k hp (I.hok.fresh hp)) (I.hok.laid k hp new)
theorem Inv.write{x e:A'}{o:HO}{t':Nat}(I:Inv X i_ σ H s)(mu:mF (H x))(he:e=x\/H e=ae (.own x))(k:∀b u,b≠e->s.heap.get? b=ae u->h'.get? b=ae u)(heo:∃u,h'.get? e=ae u)
  (new:ObjOk X.prog X.w (upd H x o) h' x o):Inv X i_ σ (upd H x o) {s with heap:=h',toks:=t'}:=I.un (Un.write mu he k heo) (I.hok.write mu he k heo new)
theorem Inv.pins_of{pins':List (A'×Obj)}(I:Inv X i_ σ H s)(h:∀p∈pins',s.heap.get? p.1=ae p.2/\H p.1=af/\p.1≠X.env.locals/\p.1∉X.fs/\∀v,p.2.data≠.cell v):Inv X pins' σ H s:=
 ⟨I.ok,I.os,I.bare,I.base,I.loc,I.cell,I.free,I.freeC,λp a=>(A7.mp a).elim (λz=>I.pin p (C3 _ z)) (h p),I.hok,I.len⟩
theorem vO{N:List Str}(hN:N.Nodup){i j:Nat}{x:Str}(a:N[i]?=ae x)(b:N[j]?=ae x):i=j:=by
 obtain⟨f,d⟩:=Ar.mp a;obtain⟨e,c⟩:=Ar.mp b;exact(Fq hN).mp (d.trans c.symm)
theorem wK{M:Model}{A:Bq}{E:Af->Ai->Prop}{i:Nat}{x:Str}{v:V}{u:Af}{Q:Unit->Ai->Prop}(I:Inv X i_ σ H s)(hN:X.N.Nodup)(hi:X.N[i]?=ae x)(hx:fA X.env.scope x)(r:RelV v u)
  (h:∀s',Inv X i_ (σ.set i (ae v)) H s'->(∃a,C7 a s.heap s'.heap/\(a=X.env.locals\/X.env.cells.lookup x=ae a))->Q () s') (hf:X.fn x=ah\/X.env.scope.names.lookup x=ae .local:=by first|exact .inl rfl|exact .inr rfl|assumption):A6 M A (storeName X.env x u) Q E s:=by
 obtain⟨m,hn,hl⟩:=id I.loc;have O:(X.env.scope.kind==.class || (X.env.scope.kind==.module&&X.env.locals != X.env.globals))=ai:=by rw[I.ok.kind];rfl
 have R:i < σ.length:=by rw[I.len];exact(Ar.mp hi).1
 have L:=I.cne;have l:∀{a:A'}{h':Heap},(∃o,s.heap.get? a=ae o/\H a=af)->C7 a s.heap h'->HOk X.prog X.w H h':=λ{a h'} ha f b ob e=>by
  obtain⟨_,_,C⟩:=ha;refine(I.hok b ob e).stay (λc w' B q=>(f.2 c ?_).trans q) (λ_ q=>q) λ_ _ q=>q
  rintro rfl
  rcases B with rfl|B
  ·rw[C]at e;cases e
  ·rw[C]at B;trivial
 rcases hx with G|G
 ·refine wpAny_storeName_local G hn (λh' hn' f=>?_) O;obtain⟨oL,_,_,hoL,_⟩:=id hn;refine h _ ⟨I.ok,I.os,I.bare,⟨λb o e n K hx=>?_,λb o e n K hx=>?_,I.base.free,λb o e hx=>?_,I.base.tups,I.base.frzs,I.base.tbls⟩,⟨_,hn',λj y v' t D e3=>?_⟩,λy c e=>?_,I.free,I.freeC,λp hp=>?_,l ⟨oL,hoL,I.free⟩ f,by simpa using I.len⟩ ⟨_,f,.inl rfl⟩
  ·exact(f.2 b (Bf (Bp (Aw e) I.ok.above))).trans (I.base.keep b o e n K hx)
  ·obtain⟨sl,t⟩:=I.base.slot b o e n K hx;exact⟨sl,(f.2 b (Bf (Bp (Aw e) I.ok.above))).trans t⟩
  ·obtain⟨o',t⟩:=I.base.there b o e hx;exact⟨o',(f.2 b (Bf (Bp (Aw e) I.ok.above))).trans t⟩
  ·by_cases J:j=i
   ·subst J;rw[hi]at t;cases t;rw[Dq R]at D;cases D;exact⟨u,r,.inl ⟨G,by simp⟩⟩
   ·rw[Bh (Ne.symm J)]at D;obtain⟨Z,r',q⟩:=hl j y v' t D e3;refine⟨Z,r',?_⟩;rcases q with⟨k,e⟩|⟨k,c,e,z⟩
    ·refine .inl ⟨k,?_⟩;have:y≠x:=λe=>J (vO hN t (e▸hi));simp[this,e]
    ·exact .inr ⟨k,c,e,z.sameBut f (L y c e)⟩
  ·obtain⟨w',z⟩:=I.cell y c e;exact⟨w',z.sameBut f (L y c e)⟩
  ·obtain⟨e,n,T,Y,d⟩:=I.pin p hp;exact⟨(f.2 p.1 T).trans e,n,T,Y,d⟩
 ·have F:X.fn x=ah:=by
   rcases hf with z|z
   ·exact z
   ·rw[z]at G;trivial
  obtain⟨c,B⟩:=I.ok.has x (.inl G);obtain⟨w',z⟩:=I.cell x c B;refine wpAny_storeName_cell I.ok.kind G B z (λh' S f=>?_);obtain⟨oc,hoc,hocd⟩:=id z;refine h {s with heap:=h'} ⟨I.ok,I.os,I.bare,⟨λb o e n K hx=>?_,λb o e n K hx=>?_,I.base.free,λb o e hx=>?_,I.base.tups,I.base.frzs,I.base.tbls⟩,⟨m,hn.sameBut f (Ne.symm (L x c B)),λj y v' t D e3=>?_⟩,λy U e=>?_,I.free,I.freeC,λp hp=>?_,l ⟨oc,hoc,I.freeC x c B⟩ f,by simpa using I.len⟩ ⟨c,f,.inr B⟩
  ·exact(f.2 b (Bf (Bp (Aw e) (I.ok.cab x c F B)))).trans (I.base.keep b o e n K hx)
  ·obtain⟨sl,t⟩:=I.base.slot b o e n K hx;exact⟨sl,(f.2 b (Bf (Bp (Aw e) (I.ok.cab x c F B)))).trans t⟩
  ·obtain⟨o',t⟩:=I.base.there b o e hx;exact⟨o',(f.2 b (Bf (Bp (Aw e) (I.ok.cab x c F B)))).trans t⟩
  ·by_cases J:j=i
   ·subst J;rw[hi]at t;cases t;rw[Dq R]at D;cases D;exact⟨u,r,.inr ⟨.inl G,c,B,S⟩⟩
   ·rw[Bh (Ne.symm J)]at D;obtain⟨Z,r',q⟩:=hl j y v' t D e3;refine⟨Z,r',?_⟩;rcases q with q|⟨k,U,e,z'⟩
    ·exact .inl q
    ·refine .inr ⟨k,U,e,z'.sameBut f ?_⟩
     rintro rfl
     exact J (vO hN t (I.ok.inj _ _ _ e B▸hi))
  ·by_cases P:U=c
   ·subst P;exact⟨_,S⟩
   ·obtain⟨w2,z2⟩:=I.cell y U e;exact⟨w2,z2.sameBut f P⟩
  ·obtain⟨e,n,T,Y,d⟩:=I.pin p hp;refine⟨(f.2 p.1 ?_).trans e,n,T,Y,d⟩;intro q;simp_all
theorem EA{M:Model}{A:Bq}{E:Af->Ai->Prop}{i:Nat}{x:Str}{v:V}{u:Af}{Q:Unit->Ai->Prop}(I:Inv X i_ σ H s)(hN:X.N.Nodup)(hi:X.N[i]?=ae x)(hx:fA X.env.scope x)(r:RelV v u)
  (h:∀s',Inv X i_ (σ.set i (ae v)) H s'->Q () s') (hf:X.fn x=ah\/X.env.scope.names.lookup x=ae .local:=by first|exact .inl rfl|exact .inr rfl|assumption):A6 M A (storeName X.env x u) Q E s:=
 wK I hN hi hx r (λs' a _=>h s' a) hf
theorem Inv.call'{s':Ai}{ch:List A'}(I:Inv X i_ σ H s)(ho:s'.os=s.os)(u:Un (gB X.stack) ch H H' s.heap s'.heap)(hok:HOk X.prog X.w H' s'.heap)(hg:AllBare s'.gens)
  (hch:∀b∈ch,(b∈X.ex\/X.s₀.heap.objs.size<=b)/\b≠X.env.locals/\(∀x c,X.env.cells.lookup x=ae c->c≠b)/\∀p∈X.pn++i_,p.1≠b):Inv X i_ σ H' s':=by
 obtain⟨a,_⟩:=s';subst ho;exact I.call u hok hg hch
end
abbrev XK:=Af->Option A'->Hp->Prop
abbrev St:=List (Option V)
abbrev VK:=V->Hp->Prop
abbrev TE:=St->Hp->VK->Prop
abbrev TT:=St->Hp->(Bool->Hp->Prop)->Prop
abbrev TA:=St->Hp->(List V->Hp->Prop)->Prop
structure Ends where
 nx:St->Hp->Prop
 rt:VK
 bk:St->Hp->Prop:=λ_ _=>False
 ct:St->Hp->Prop:=λ_ _=>False
abbrev TS:=Ends->St->Hp->Prop
def EP(X:Cx)(i_:List (A'×Obj))(σ:St)(Q:VK)(u:Af)(s':Ai):Prop:=∃v H',Inv X i_ σ H' s'/\RelV v u/\Q v H'
def TP(X:Cx)(i_:List (A'×Obj))(σ:St)(Q:Bool->Hp->Prop)(b:Bool)(s':Ai):Prop:=∃H',Inv X i_ σ H' s'/\Q b H'
def AP(X:Cx)(i_:List (A'×Obj))(σ:St)(Q:List V->Hp->Prop)(us:List Af)(s':Ai):Prop:=∃vs H',Inv X i_ σ H' s'/\Vals vs us/\Q vs H'
def SP(X:Cx)(i_:List (A'×Obj))(D:Ends)(f:Flow)(s':Ai):Prop:=
 match f with
 |.next=>∃σ' H',Inv X i_ σ' H' s'/\D.nx σ' H'
 |.brk=>∃σ' H',Inv X i_ σ' H' s'/\D.bk σ' H'
 |.cont=>∃σ' H',Inv X i_ σ' H' s'/\D.ct σ' H'
 |.ret u=>∃v σ' H',Inv X i_ σ' H' s'/\RelV v u/\D.rt v H'
def PE(X:Cx)(e:Expr)(t:TE):Prop:=
 ∀(i_:List (A'×Obj))(s:Ai)(σ:St)(H:Hp)(Q:VK),Inv X i_ σ H s->t σ H Q->A6 (A9 X.prog X.w) X.A (eval e X.env) (EP X i_ σ Q) X.xe s
def PT(X:Cx)(e:Expr)(t:TT):Prop:=
 ∀(i_:List (A'×Obj))(s:Ai)(σ:St)(H:Hp)(Q:Bool->Hp->Prop),Inv X i_ σ H s->t σ H Q->A6 (A9 X.prog X.w) X.A (isTrue e X.env (eval e X.env)) (TP X i_ σ Q) X.xe s
def PW(X:Cx)(e:Expr)(t:TT):Prop:=
 ∀(whole:Sem Af)(i_:List (A'×Obj))(s:Ai)(σ:St)(H:Hp)(Q:Bool->Hp->Prop),Inv X i_ σ H s->t σ H Q->A6 (A9 X.prog X.w) X.A (isTrue e X.env whole) (TP X i_ σ Q) X.xe s
theorem PW.pt{X:Cx}{e:Expr}{t:TT}(h:PW X e t):PT X e t:=h _
def PA(X:Cx)(es:List Expr)(t:TA):Prop:=
 ∀(pos:Pos)(i_:List (A'×Obj))(s:Ai)(σ:St)(H:Hp)(Q:List V->Hp->Prop),Inv X i_ σ H s->t σ H Q->A6 (A9 X.prog X.w) X.A (spliced (Cw pos (As es X.env))) (AP X i_ σ Q) X.xe s
def PS(X:Cx)(st:Stmt)(t:TS):Prop:=
 ∀(i_:List (A'×Obj))(s:Ai)(σ:St)(H:Hp)(D:Ends),Inv X i_ σ H s->t D σ H->A6 (A9 X.prog X.w) X.A (exec st X.env) (SP X i_ D) X.xe s
def PSs(X:Cx)(st:List Stmt)(t:TS):Prop:=
 ∀(i_:List (A'×Obj))(s:Ai)(σ:St)(H:Hp)(D:Ends),Inv X i_ σ H s->t D σ H->A6 (A9 X.prog X.w) X.A (execs st X.env) (SP X i_ D) X.xe s
theorem aL{α:Type}{t:Sem α}{Q Q':α->Ai->Prop}{M:Model}{A:Bq}{E:Af->Ai->Prop}{s:Ai}(h:A6 M A t Q E s)(hQ:∀a s,Q a s->Q' a s):A6 M A t Q' E s:=C9 h hQ λ_ _ x=>x
section
variable{X:Cx}
theorem bin{a b:Expr}{ta tb:TE}(ha:PE X a ta)(hb:PE X b tb){i_:List (A'×Obj)}{s:Ai}{σ:St}{H:Hp}{R:V->V->Hp->Prop}(I:Inv X i_ σ H s)(h:ta σ H λx H1=>tb σ H1 λy H2=>R x y H2)
  {α:Type} {Q:α->Ai->Prop} {f:Af->Af->Sem α}
  (hf:∀v u s2 x y H2,Inv X i_ σ H2 s2->RelV x v->RelV y u->R x y H2->A6 (A9 X.prog X.w) X.A (f v u) Q X.xe s2):
  A6 (A9 X.prog X.w) X.A (eval a X.env) (λv s_=>A6 (A9 X.prog X.w) X.A (eval b X.env) (λu t_=>A6 (A9 X.prog X.w) X.A (f v u) Q X.xe t_) X.xe s_) X.xe s:=by
 refine aL (ha i_ s σ H _ I h) λv g ⟨x,H1,d,i,c⟩=>aL (hb i_ g σ H1 _ d c) λu s2 w=>?_;obtain⟨y,H2,e,k,j⟩:=w;exact hf v u s2 x y H2 e i k j
def aI(i:Nat):TE:=λσ H Q=>∃v,σ[i]?=ae (ae v)/\Q v H
def tC(v:V):TE:=λ_ H Q=>Q v H
theorem eY{i:Nat}{x:Str}{pos:Pos}(hN:X.N[i]?=ae x)(hv:dU X.env.scope x)(hd:(x==("__debug__":Str))=ai:=by decide)(r_:(x==("__classdict__":Str))=ai:=by decide):PE X (.Name x pos) (aI i):=by
 intro f s σ H Q I h;obtain⟨v,e,h⟩:=h;obtain⟨m,n,j⟩:=I.loc;obtain⟨u,r,l⟩:=j i x v hN e hv;have d:EP X f σ Q u s:=⟨v,H,I,r,h⟩;rcases l with⟨b,k⟩|⟨b,c,g,a⟩
 ·exact wpAny_Name (wpAny_loadName_local I.ok.kind b n k d) hd
 ·rcases b with b|b
  ·exact wpAny_Name (wpAny_loadName_cell I.ok.kind b g a d) hd
  ·exact wpAny_Name (wpAny_loadName_free I.ok.kind b g a d r_) hd
theorem bY{i j pos}:PE X (.Constant (.int i) j pos) (tC (.int i)):=λ_ _ _ H _ I h=>wpAny_Constant_int ⟨.int i,H,I.tok _,⟨_,rfl⟩,h⟩
theorem zb{b j pos}:PE X (.Constant (.bool b) j pos) (tC (.bl b)):=λ_ _ _ H _ I h=>Constant_bool ⟨.bl b,H,I,rfl,h⟩
theorem jV{j pos}:PE X (.Constant .none j pos) (tC .non):=λ_ _ _ H _ I h=>Constant_none ⟨.non,H,I,rfl,h⟩
theorem O6{x j pos}:PE X (.Constant (.str x) j pos) (tC (.str x)):=λ_ _ _ H _ I h=>Calls.Constant_str ⟨.str x,H,I.tok _,⟨_,rfl⟩,h⟩
def Gl(X:Cx)(x:Str):Prop:=X.env.kindOf x=ae .globalImplicit
theorem vQ{E:Af->Ai->Prop}{i_:List (A'×Obj)}{s:Ai}{σ:St}{H:Hp}{x:Str}{u:Af}{pos:Pos}{Q:Af->Ai->Prop}(I:Inv X i_ σ H s)(hg:Gl X x)(hm:X.mg x=ae u)(h:Q u s)
  (hd:(x==("__debug__":Str))=ai:=by decide):A6 (A9 X.prog X.w) X.A (eval (.Name x pos) X.env) Q E s:=
 Calls.Name_function_global I.ok.kind hg (Calls.loadGlobal_global (by rw[I.ok.glob];exact I.mod.glob.keeps I.bk) hm h) hd
theorem ll{E:Af->Ai->Prop}{i_:List (A'×Obj)}{s:Ai}{σ:St}{H:Hp}{x:Str}{u:Af}{pos:Pos}{Q:Af->Ai->Prop}(I:Inv X i_ σ H s)(hg:Gl X x)(hm:X.mg x=af)(hv:Bz x=ae u)(h:Q u s)
  (hn:x≠"__name__":=by decide) (hd:(x==("__debug__":Str))=ai:=by decide):A6 (A9 X.prog X.w) X.A (eval (.Name x pos) X.env) Q E s:=by
 obtain⟨c,b,a⟩:=I.mod.blt;exact Calls.Name_function_global I.ok.kind hg (Calls.loadGlobal_builtin (by rw[I.ok.glob];exact I.mod.glob.keeps I.bk) hm (by rw[I.ok.blt];exact b.keeps I.bk) ((a x hn).trans hv) h) hd
theorem uB{x:Str}{v:V}{u:Af}{pos:Pos}(hg:Gl X x)(hm:X.mg x=ae u)(r:RelV v u)(hd:(x==("__debug__":Str))=ai:=by decide):PE X (.Name x pos) (tC v):=
 λ_ _ _ H _ I h=>vQ I hg hm ⟨v,H,I,r,h⟩ hd
theorem QO{x:Str}{v:V}{u:Af}{pos:Pos}(hg:Gl X x)(hm:X.mg x=af)(hv:Bz x=ae u)(r:RelV v u)(hn:x≠"__name__":=by decide)(hd:(x==("__debug__":Str))=ai:=by decide):PE X (.Name x pos) (tC v):=
 λ_ _ _ H _ I h=>ll I hg hm hv ⟨v,H,I,r,h⟩ hn hd
variable{a b:Expr}{ta tb:TE}{pos:Pos}
def PC(X:Cx)(op:CmpOp)(a b:Expr)(t:TE):Prop:=
 ∀(i_:List (A'×Obj))(s:Ai)(σ:St)(H:Hp)(Q:VK),Inv X i_ σ H s->t σ H Q->
  A6 (A9 X.prog X.w) X.A (eval a X.env) (λv s_=>A6 (A9 X.prog X.w) X.A (eval b X.env) (λu t_=>A6 (A9 X.prog X.w) X.A (B3 op v u) (EP X i_ σ Q) X.xe t_) X.xe s_) X.xe s
theorem yB(b:Expr){op:CmpOp}(h:op≠.In)(h2:op≠.NotIn):Cm op b=ai:=by
 have c:(op==CmpOp.In)=ai:=by cases op<;>first|rfl|exact g_ rfl h
 have a:(op==CmpOp.NotIn)=ai:=by cases op<;>first|rfl|exact g_ rfl h2
 cases b<;>simp[Cm,c,a]
def tB(t:TE):TT:=λσ H Q=>t σ H λx H1=>∃c,x=.bl c/\Q c H1
theorem vM{op:CmpOp}{t:TE}(h:PC X op a b t)(h1:Cm op b=ai:=by first|exact yB _ ∎ ∎|rfl):PE X (.Compare a [op] [b] pos) t:=λi_ s σ H Q I d=>wpAny_Compare1 (h i_ s σ H Q I d) h1
theorem xK{op:CmpOp}{t:TE}(h:PC X op a b t)(h1:Cm op b=ai:=by first|exact yB _ ∎ ∎|rfl):PT X (.Compare a [op] [b] pos) (tB t):=by
 intro e s σ H Q I k;refine wpAny_isTrue_Compare1 (aL (h e s σ H _ I k) λv n h1=>aL h1 λu m f=>aL f λc o u=>?_) h1;obtain⟨x,i,j,l,g⟩:=u;obtain⟨d,rfl,q⟩:=g;cases l;exact Ed ⟨i,j,q⟩
theorem CC{e:Expr}{t:TE}(h:PE X e t)(he:∀whole,isTrue e X.env whole=(do let v <-whole;standAt e.pos;holding [v] (truthy v)):=by intro _;rfl):PT X e (tB t):=by
 intro a s σ H Q I f;refine isTrue_plain (aL (h a s σ H _ I f) λv j u=>?_) (he _);obtain⟨x,i,c,g,b⟩:=u;obtain⟨d,rfl,q⟩:=b;cases g;exact Ed ⟨i,c,q⟩
variable{tA tB':TT}{aA:List Expr}
def kz(t u:TT):TT:=λσ H Q=>t σ H λc H1=>if c=ah then u σ H1 Q else Q ai H1
def y4(t u:TT):TT:=λσ H Q=>t σ H λc H1=>if c=ah then Q ah H1 else u σ H1 Q
def kb(t:TT):TT:=λσ H Q=>t σ H λc H1=>Q (!c) H1
theorem DM(ha:PT X a tA):PW X (.BoolOp .And [a] pos) tA:=by
 intro d b s σ H Q I h;refine isTrue_and (aL (ha b s σ H Q I h) λc f e=>?_);cases c with
 |true=>exact isTrue_and_nil e
 |false=>exact e
theorem PM(ha:PT X a tA):PW X (.BoolOp .Or [a] pos) tA:=by
 intro d b s σ H Q I h;refine isTrue_or (aL (ha b s σ H Q I h) λc f e=>?_);cases c with
 |false=>exact isTrue_or_nil e
 |true=>exact e
theorem zw(ha:PT X a tA)(hb:PW X (.BoolOp .And (b::aA) pos) tB'):PW X (.BoolOp .And (a::b::aA) pos) (kz tA tB'):=by
 intro i d s σ H Q I h;refine isTrue_and (aL (ha d s σ H _ I h) λc j u=>?_);obtain⟨g,f,e⟩:=u;cases c with
 |true=>exact hb i d j σ g Q f e
 |false=>exact⟨g,f,e⟩
theorem IZ(ha:PT X a tA)(hb:PW X (.BoolOp .Or (b::aA) pos) tB'):PW X (.BoolOp .Or (a::b::aA) pos) (y4 tA tB'):=by
 intro i d s σ H Q I h;refine isTrue_or (aL (ha d s σ H _ I h) λc j u=>?_);obtain⟨g,f,e⟩:=u;cases c with
 |true=>exact⟨g,f,e⟩
 |false=>exact hb i d j σ g Q f e
theorem xW(ha:PT X a tA):PT X (.UnaryOp .Not a pos) (kb tA):=λi_ s σ H Q I h=>isTrue_not (ha i_ s σ H _ I h)
def zP(ta tb:TE):TE:=λσ H Q=>ta σ H λx H1=>∃c,x=.bl c/\if c=ah then tb σ H1 Q else Q (.bl ai) H1
def mL(ta tb:TE):TE:=λσ H Q=>ta σ H λx H1=>∃c,x=.bl c/\if c=ah then Q (.bl ah) H1 else tb σ H1 Q
def zq(ta:TE):TE:=λσ H Q=>ta σ H λx H1=>∃c,x=.bl c/\Q (.bl (!c)) H1
theorem Qg{op}{t:TE}(h:PE X a t):PE X (.BoolOp op [a] pos) t:=λi_ s σ H Q I c=>BoolOp_one (h i_ s σ H Q I c)
theorem GQ(ha:PE X a ta)(hb:PE X (.BoolOp .And (b::aA) pos) tb):PE X (.BoolOp .And (a::b::aA) pos) (zP ta tb):=by
 intro d s σ H Q I h;refine BoolOp_and (aL (ha d s σ H _ I h) λv j u=>?_);obtain⟨x,f,g,i,e⟩:=u;obtain⟨c,rfl,e⟩:=e;cases i;refine Ed ?_;cases c with
 |true=>exact hb d j σ f Q g e
 |false=>exact⟨.bl ai,f,g,rfl,e⟩
theorem KN(ha:PE X a ta)(hb:PE X (.BoolOp .Or (b::aA) pos) tb):PE X (.BoolOp .Or (a::b::aA) pos) (mL ta tb):=by
 intro d s σ H Q I h;refine BoolOp_or (aL (ha d s σ H _ I h) λv j u=>?_);obtain⟨x,f,g,i,e⟩:=u;obtain⟨c,rfl,e⟩:=e;cases i;refine Ed ?_;cases c with
 |false=>exact hb d j σ f Q g e
 |true=>exact⟨.bl ah,f,g,rfl,e⟩
theorem PJ(ha:PE X a ta):PE X (.UnaryOp .Not a pos) (zq ta):=by
 intro b s σ H Q I h;refine UnaryOp_ (aL (ha b s σ H _ I h) λv i u=>?_);obtain⟨x,g,e,f,d⟩:=u;obtain⟨c,rfl,d⟩:=d;cases f;exact not_of (Ed ⟨.bl _,g,e,rfl,d⟩)
def xm(t:TT)(ta tb:TE):TE:=λσ H Q=>t σ H λc H1=>if c=ah then ta σ H1 Q else tb σ H1 Q
theorem Of{c:Expr}(hc:PT X c tA)(ha:PE X a ta)(hb:PE X b tb):PE X (.IfExp c a b pos) (xm tA ta tb):=by
 intro e s σ H Q I h;refine wpAny_IfExp (aL (hc e s σ H _ I h) λd i u=>?_);obtain⟨j,g,f⟩:=u;cases d with
 |true=>exact ha e i σ j Q g f
 |false=>exact hb e i σ j Q g f
end
def SqL(K:Ag)(H:Hp)(a:A')(xs:List V):Prop:=
 Rd H a (.lst xs) \/
  ∃(o:Obj)(i':Array Af)(n:Nat),K.lookup a=ae o/\o.cls=.type "list"/\o.dict=af/\o.data=.seq i' n/\i'.size<=Ay/\Vals xs i'.toList
def SqT(K:Ag)(H:Hp)(a:A')(xs:List V):Prop:=
 Rd H a (.tup xs) \/
  ∃(o:Obj)(i':Array Af)(n:Nat),K.lookup a=ae o/\o.cls=.type "tuple"/\o.data=.seq i' n/\i'.size<=Ay/\Vals xs i'.toList
def qV:Af->Option V
 |.none=>ae .non
 |.bool b=>ae (.bl b)
 |.int i _=>ae (.int i)
 |.str x _=>ae (.str x)
 |.bytes b _=>ae (.byt b)
 |.float b _=>ae (.flt b)
 |.ref a=>ae (.ref a)
 |.type n=>ae (.ty n)
 |_=>af
theorem RelV.abs{x:V}{u:Af}(r:RelV x u):qV u=ae x:=by
 cases x with
 |non=>cases r;rfl
 |bl _=>cases r;rfl
 |int _=>obtain⟨t,rfl⟩:=r;rfl
 |str _=>obtain⟨t,rfl⟩:=r;rfl
 |byt _=>obtain⟨t,rfl⟩:=r;rfl
 |flt _=>obtain⟨t,rfl⟩:=r;rfl
 |ref _=>cases r;rfl
 |ty _=>cases r;rfl
theorem RelV.inj{x y:V}{u:Af}(r:RelV x u)(q:RelV y u):x=y:=Bw (r.abs.symm.trans q.abs)
theorem Vals.inj:∀{xs ys:List V}{us:List Af},Vals xs us->Vals ys us->xs=ys
 |_,_,_,.nil,.nil=>rfl
 |_,_,_,.cons r t,.cons b a=>by rw[r.inj b,Vals.inj t a]
section
variable{X:Cx}{i_:List (A'×Obj)}{σ:St}{H:Hp}{s:Ai}{a:A'}{xs ys:List V}
theorem SqL.of{K:Ag}(h:H a=ae (.lst xs)):SqL K H a xs:=.inl (.inl h)
theorem SqT.of{K:Ag}(h:H a=ae (.tup xs)):SqT K H a xs:=.inl (.inl h)
theorem Inv.list(I:Inv X i_ σ H s)(h:SqL X.K H a xs):∃i':List Af,Vals xs i'/\PlainL s.heap a i'.toArray/\xs.length<=Ay:=by
 rcases h with h|⟨o,i',n,d,b,c,f,g,r⟩
 ·obtain⟨z,i',n,r,e⟩:=h.ok I.hok;exact⟨i',r,⟨_,n,e,rfl,rfl,rfl⟩,z⟩
 ·refine⟨_,r,⟨o,n,I.kIn a o d,b,c,by omega⟩,?_⟩;have e:=r.length;simp only[Bo]at e;omega
theorem Inv.tuple(I:Inv X i_ σ H s)(h:SqT X.K H a xs):∃i':List Af,Vals xs i'/\IsTup s.heap a i'.toArray/\xs.length<=Ay:=by
 rcases h with h|⟨o,i',n,c,b,d,f,r⟩
 ·obtain⟨z,i',r,p⟩:=h.ok I.hok;exact⟨i',r,p.tup,z⟩
 ·refine⟨_,r,⟨o,I.kIn a o c,b,n,by omega⟩,?_⟩;have e:=r.length;simp only[Bo]at e;omega
theorem Inv.list_inj(I:Inv X i_ σ H s)(h:SqL X.K H a xs)(h':SqL X.K H a ys):xs=ys:=by
 obtain⟨j,r,⟨o,n,e,_,_,d⟩,_⟩:=I.list h;obtain⟨b,g,⟨k,l,c,_,_,f⟩,_⟩:=I.list h';rw[e]at c;cases c;rw[d]at f;injection f with i _;have:=by simpa using congrArg Array.toList i
 subst this;exact r.inj g
theorem Inv.tuple_inj(I:Inv X i_ σ H s)(h:SqT X.K H a xs)(h':SqT X.K H a ys):xs=ys:=by
 obtain⟨j,r,⟨o,e,_,n,d⟩,_⟩:=I.tuple h;obtain⟨b,g,⟨k,c,_,l,f⟩,_⟩:=I.tuple h';rw[e]at c;cases c;rw[d]at f;injection f with i _;have:=by simpa using congrArg Array.toList i
 subst this;exact r.inj g
end
abbrev Cx.wish(X:Cx)(E:Af->Ai->Prop):Cx:={ X with xe:=E}
abbrev Cx.nox(X:Cx):Cx:=X.wish λ_ _=>False
theorem Cx.Ok.wish{X:Cx}(ok:X.Ok)(E:Af->Ai->Prop):(X.wish E).Ok:=
 ⟨ok.mod,ok.kind,ok.glob,ok.blt,ok.above,ok.inj,ok.has,ok.cab,ok.hd,ok.frames,ok.stk,ok.exf,ok.bs,ok.bsz,ok.noex,ok.exfs,ok.funs,ok.frf⟩
theorem Cx.Ok.unwish{X:Cx}{E:Af->Ai->Prop}(ok:(X.wish E).Ok):X.Ok:=
 ⟨ok.mod,ok.kind,ok.glob,ok.blt,ok.above,ok.inj,ok.has,ok.cab,ok.hd,ok.frames,ok.stk,ok.exf,ok.bs,ok.bsz,ok.noex,ok.exfs,ok.funs,ok.frf⟩
section
variable{X:Cx}{i_:List (A'×Obj)}{σ:St}{H:Hp}{s:Ai}{E:Af->Ai->Prop}
theorem Inv.wish(I:Inv X i_ σ H s)(E:Af->Ai->Prop):Inv (X.wish E) i_ σ H s:=⟨I.ok.wish E,I.os,I.bare,I.base,I.loc,I.cell,I.free,I.freeC,I.pin,I.hok,I.len⟩
theorem Inv.unwish(I:Inv (X.wish E) i_ σ H s):Inv X i_ σ H s:=⟨I.ok.unwish,I.os,I.bare,I.base,I.loc,I.cell,I.free,I.freeC,I.pin,I.hok,I.len⟩
theorem SP.unwish{D:Ends}{f:Flow}{s':Ai}(h:SP (X.wish E) i_ D f s'):SP X i_ D f s':=by
 cases f with
 |next=>obtain⟨b,a,I,q⟩:=h;exact⟨b,a,I.unwish,q⟩
 |brk=>obtain⟨b,a,I,q⟩:=h;exact⟨b,a,I.unwish,q⟩
 |cont=>obtain⟨b,a,I,q⟩:=h;exact⟨b,a,I.unwish,q⟩
 |ret u=>obtain⟨v,b,a,I,r,q⟩:=h;exact⟨v,b,a,I.unwish,r,q⟩
theorem PSs.nox{st:List Stmt}{t:TS}(h:PSs X.nox st t):PSs X st t:=λi_ s σ H D I b=>
 C9 (h i_ s σ H D (I.wish _) b) (λ_ _ q=>q.unwish) λ_ _ z=>False.elim z
end
section
variable{X:Cx}{st:Stmt}{aA:List Stmt}{t u:TS}{e:Expr}{te:TE}{pos:Pos}
def ni:TS:=λD σ H=>D.nx σ H
def dI(t u:TS):TS:=λD σ H=>t {D with nx:=u D} σ H
theorem mh:PSs X [] ni:=λ_ _ σ H _ I h=>wpAny_execs_nil ⟨σ,H,I,h⟩
theorem fg(h1:PS X st t)(h2:PSs X aA u):PSs X (st::aA) (dI t u):=by
 intro a s σ H D I h;refine wpAny_execs_cons (aL (h1 a s σ H {D with nx:=u D} I h) λf k q=>?_);cases f with
 |next=>
  obtain⟨e,i,j,q⟩:=q;exact h2 a k e i D j q
 |ret v=>exact q
 |brk=>exact q
 |cont=>exact q
theorem ku(h1:PS X st t):PSs X [st] t:=by
 intro a s σ H D I h;refine wpAny_execs_cons (aL (h1 a s σ H D I h) λf g q=>?_);cases f with
 |next=>exact wpAny_execs_nil q
 |ret v=>exact q
 |brk=>exact q
 |cont=>exact q
theorem Inv.quiet{i_:List (A'×Obj)}{σ:St}{H:Hp}{s:Ai}(I:Inv X i_ σ H s):interactive X.env=ai:=by simp[interactive,I.ok.kind]
def nY(te:TE):TS:=λD σ H=>te σ H λ_ H1=>D.nx σ H1
theorem qX(he:PE X e te)(hs:Cy e af pos.line X.env=pure ai:=by rfl):PS X (.Expr e pos) (nY te):=λi_ s σ H D I h=>wpAny_Expr_any (aL (he i_ s σ H _ I h) λv f u=>by obtain⟨x,d,b,g,c⟩:=u;exact ⟨σ,d,b,c⟩) I.quiet hs
def fE(te:TE):TS:=λD σ H=>te σ H D.rt
theorem i0(he:PE X e te):PS X (.Return (ae e) pos) (fE te):=λi_ s σ H D I h=>wpAny_Return_some (aL (he i_ s σ H _ I h) λv g u=>by obtain⟨x,f,b,d,c⟩:=u;exact ⟨x,σ,f,b,d,c⟩)
def gS(c:TT)(t u:TS):TS:=λD σ H=>c σ H λb H1=>if b=ah then t D σ H1 else u D σ H1
theorem m8{c:Expr}{a b:List Stmt}{tc:TT}(hc:PT X c tc)(ha:PSs X a t)(hb:PSs X b u):PS X (.If c a b pos) (gS tc t u):=by
 intro e s σ H D I h;refine wpAny_If (aL (hc e s σ H _ I h) λd i u=>?_);obtain⟨j,g,f⟩:=u;cases d with
 |true=>exact ha e i σ j D g f
 |false=>exact hb e i σ j D g f
end
abbrev TG:=V->St->Hp->(St->Hp->Prop)->Prop
abbrev fh:=List V->St->Hp->(St->Hp->Prop)->Prop
def PG(X:Cx)(target:Expr)(t:TG):Prop:=
 ∀(i_:List (A'×Obj))(s:Ai)(σ:St)(H:Hp)(v:V)(u:Af)(Q:St->Hp->Prop),Inv X i_ σ H s->RelV v u->t v σ H Q->
  A6 (A9 X.prog X.w) X.A (assign target X.env u) (λ_ s'=>∃σ' H',Inv X i_ σ' H' s'/\Q σ' H') X.xe s
def lA(X:Cx)(ts:List Expr)(t:fh):Prop:=
 ∀(i_:List (A'×Obj))(s:Ai)(σ:St)(H:Hp)(vs:List V)(us:List Af)(Q:St->Hp->Prop),Inv X i_ σ H s->Vals vs us->t vs σ H Q->
  A6 (A9 X.prog X.w) X.A (assignInOrder ((Cu ts X.env).map (·.2)) us) (λ_ s'=>∃σ' H',Inv X i_ σ' H' s'/\Q σ' H') X.xe s
abbrev ki:=V->V->V->Hp->(Hp->Prop)->Prop
def lV(X:Cx)(t:ki):Prop:=
 ∀(i_:List (A'×Obj))(s:Ai)(σ:St)(H:Hp)(o i v:V)(ov iv u:Af)(Q:Hp->Prop),Inv X i_ σ H s->RelV o ov->RelV i iv->RelV v u->t o i v H Q->
  A6 (A9 X.prog X.w) X.A (setItem ov iv u) (λ_ s'=>∃H',Inv X i_ σ H' s'/\Q H') X.xe s
section
variable{X:Cx}{pos:Pos}
def c8(i:Nat):TG:=λv σ H Q=>Q (σ.set i (ae v)) H
theorem Pt{i:Nat}{x:Str}(hN:X.N.Nodup)(hi:X.N[i]?=ae x)(hx:fA X.env.scope x)(hf:X.fn x=ah\/X.env.scope.names.lookup x=ae .local:=by first|exact .inl rfl|exact .inr rfl|assumption):PG X (.Name x pos) (c8 i):=λi_ s σ H v u Q I r h=>wpAny_assign_Name (EA I hN hi hx r (λs' a=>⟨_,H,a,h⟩) hf)
def nR:fh:=λvs σ H Q=>vs=[]/\Q σ H
def xN(t:TG)(u:fh):fh:=λvs σ H Q=>∃v r,vs=v::r/\t v σ H λσ' H'=>u r σ' H' Q
theorem Jr:lA X [] nR:=by
 intro a s σ H b c Q I r h;obtain⟨e,h⟩:=h;subst e;cases r;exact assignInOrder_nil ⟨σ,H,I,h⟩
theorem Rh{e:Expr}{es:List Expr}{t:TG}{u:fh}(h1:PG X e t)(h2:lA X es u)
  (hs:(Cu (e::es) X.env).map (·.2)=assign e X.env::(Cu es X.env).map (·.2):=by rfl):lA X (e::es) (xN t u):=by
 intro a s σ H k m Q I r h;obtain⟨v,l,j,h⟩:=h;subst j;cases r with
 |cons r c=>
  rw[hs];exact assignInOrder_cons (aL (h1 a s σ H _ _ _ I r h) λ_ i u=>by obtain⟨g,d,f,b⟩:=u;exact h2 a i g d _ _ Q f c b)
def kg(K:Ag)(n:Nat)(t:fh):TG:=λv σ H Q=>∃a xs,v=.ref a/\SqT K H a xs/\xs.length=n/\t xs σ H Q
theorem Kw{es:List Expr}{k:Nat}{t:fh}{n:Nat}(hc:X.calm=ah)(h:lA X es t)
  (hn:(Cu es X.env).length=n:=by rfl) (hst:(Cu es X.env).findIdx? (·.1)=af:=by rfl):PG X (.Tuple es k pos) (kg X.K n t):=by
 intro c s σ H v u Q I r d;obtain⟨a,p,y,l,g,d⟩:=d;subst y;cases r;obtain⟨w,j,i,z⟩:=I.tuple l;refine assign_Tuple_tuple (I.ok.hd hc) i (by simp[hn,<-g,j.length]) hst λh' q=>?_;have m:Inv X c σ H {s with heap:=h'}:=I.kept λb o e=>q b o (Bf (Aw e)) e;exact h c _ σ H p _ Q m ⋯ d
def iT(to ti:TE)(t:ki):TG:=λv σ H Q=>to σ H λo H1=>ti σ H1 λi H2=>t o i v H2 λH3=>Q σ H3
theorem mw{o i:Expr}{to ti:TE}{t:ki}(ho:PE X o to)(hi:PE X i ti)(hs:lV X t)
  (ha:∀v,assign (.Subscript o i pos) X.env v=(do
   let ov <-holding [v] (eval o X.env)
   let iv <-holding [v,ov] (eval i X.env)
   standAt pos
   holding [v,ov,iv] (setItem ov iv v)
   release [v,ov,iv] []):=by intro _;rfl):PG X (.Subscript o i pos) (iT to ti t):=by
 intro a s σ H v u Q I r h;refine Aa (Cc (aL (ho a s σ H _ I h) λov p ⟨x,g,k,m,e⟩=>Aa (Cc (aL (hi a p σ g _ k e) λiv l z=>?_))));obtain⟨y,f,b,n,c⟩:=z;exact Aa (wpAny_standAt (Aa (Cc (aL (hs a l σ f x y v ov iv u _ b m n r c) λ_ w i=>by obtain⟨d,j,q⟩:=i;exact wpAny_release ⟨σ,d,j,q⟩))))
def bw(te:TE)(g:TG):TS:=λD σ H=>te σ H λx H1=>g x σ H1 D.nx
theorem lg{tg e:Expr}{te:TE}{g:TG}(he:PE X e te)(hg:PG X tg g)(hs:swapsWithSole [tg] e pos.line X.env=pure ai:=by rfl)(hw:swappedStores [tg] e X.env=pure af:=by rfl)
  (h1:(Cu [tg] X.env).map (·.2)=[assign tg X.env]:=by rfl):PS X (.Assign [tg] e pos) (bw te g):=by
 intro a s σ H D I h;refine wpAny_Assign_stores (aL (he a s σ H _ I h) λv d u=>?_) hs hw;obtain⟨x,i,b,f,c⟩:=u;rw[h1];exact aL (hg a d σ i x v _ b f c) λ_ j q=>q
theorem fG{i:Nat}{x:Str}{e:Expr}{te:TE}{pos':Pos}(hN:X.N.Nodup)(hi:X.N[i]?=ae x)(hx:fA X.env.scope x)(he:PE X e te)(hs:Cy e (ae (.Name x pos')) pos.line X.env=pure ai:=by rfl)(hf:X.fn x=ah\/X.env.scope.names.lookup x=ae .local:=by first|exact .inl rfl|exact .inr rfl|assumption):
  PS X (.Assign [.Name x pos'] e pos) (bw te (c8 i)):=λi_ s σ H D I h=>wpAny_Assign_Name (aL (he i_ s σ H _ I h) λv j u=>by obtain⟨y,g,c,f,b⟩:=u;exact EA c hN hi hx f (λs2 d=>⟨_,g,d,b⟩) hf) hs
end
section
variable{X:Cx}{pos:Pos}
def zz(c:TT)(tb:TS):TS:=λD σ H=>∃W:Nat->St->Hp->Prop,(∃m,W m σ H)/\∀m σ H,W m σ H->
 c σ H λb H1=>if b=ah then ∃N:St->Hp->Prop,(∀σ' H',N σ' H'->∃m',m' < m/\W m' σ' H')/\tb {D with nx:=N,ct:=N,bk:=D.nx} σ H1 else D.nx σ H1
theorem MN{c:Expr}{body:List Stmt}{tc:TT}{tb:TS}(hp:PassesOwn (A9 X.prog X.w) X.A X.env X.xe)(hc:PT X c tc)(hb:PSs X body tb):PS X (.While c body [] pos) (zz tc tb):=by
 intro a s σ H D I h;obtain⟨W,⟨G,E⟩,e⟩:=h;refine wpAny_While (codeAny_whileLoop (λn L=>∃σ' H',Inv X a σ' H' L/\W n σ' H') ?_ G ⟨σ,H,I,E⟩)
 rintro n M ⟨j,y,J,B⟩
 refine Fk hp (aL (hc a M j y _ J (e n j y B)) λb K w=>?_);obtain⟨t,r,i⟩:=w;cases b with
 |true=>
  obtain⟨N,u,i⟩:=i;refine Fk hp (aL (hb a K j t _ r i) λf O k=>?_);cases f with
  |next=>
   obtain⟨g,d,p,m⟩:=k;obtain⟨q,o,l⟩:=u g d m;exact⟨q,o,g,d,p,l⟩
  |cont=>
   obtain⟨g,d,p,m⟩:=k;obtain⟨q,o,l⟩:=u g d m;exact⟨q,o,g,d,p,l⟩
  |brk=>exact k
  |ret v=>exact k
 |false=>
  exact wpAny_execs_nil ⟨j,t,r,i⟩
end
structure It where
 go:Nat->Hp->Prop
 yld:Nat->Hp->V->Hp->Prop
 stop:Nat->Hp->Prop
def cE(X:Cx)(i_:List (A'×Obj))(H:Hp)(b:A'):Prop:=
 H b=af/\b≠X.env.locals/\b∉X.fs/\(b∈X.ex\/X.s₀.heap.objs.size<=b)/\(∀x c,X.env.cells.lookup x=ae c->c≠b)/\∀p∈X.pn++i_,p.1≠b
theorem Inv.fpOk{X:Cx}{i_:List (A'×Obj)}{σ:St}{H H':Hp}{s:Ai}{b:A'}(I:Inv X i_ σ H s)(hb:s.heap.objs.size<=b)(hn:H' b=af):cE X i_ H' b:=by
 refine⟨hn,Fw (Bp I.lt hb),I.nofs hb,.inr (A5 I.sz hb),λx c e z=>?_,λp a z=>?_⟩
 ·obtain⟨v,q⟩:=I.cell x c e;exact g_ (Bp q.lt (by simp_all)) (Fg _)
 ·exact g_ (Bp (Aw (I.pin p a).1) (by simp_all)) (Fg _)
structure Turn(P:A3)(w:Bi)(K:Ag)(tg:Expr)(J:It)(fp:List A')(it:A')(tn:Nat->Heap->Prop):Prop where
 mem:it∈fp
 obj:∀i h,tn i h->∀b∈fp,∃o,h.get? b=ae o/\∀v,o.data≠.cell v
 keep:∀i h h',tn i h->(∀b∈fp,∀o,h.get? b=ae o->h'.get? b=ae o)->tn i h'
 item:∀(X:Cx),X.prog=P->X.w=w->X.K=K->X.calm=ah->∀(i:Nat)(i_:List (A'×Obj))(s:Ai)(σ:St)(H:Hp)(E:Af->Ai->Prop),Inv X i_ σ H s->(∀b∈fp,cE X i_ H b)->tn i s.heap->J.go i H->
  A6 (A9 P w) X.A (pyNext (.ref it)) (λr s1=>∃u,r=ae u /\
   A6 (A9 P w) X.A (letOwnedTupleGo tg (.ref it) u) (λ_ s2=>∃x H',Inv X i_ σ H' s2/\RelV x u/\J.yld i H x H'/\tn (i+1) s2.heap/\∀b∈fp,H' b=af) E s1) E s
 done:∀(X:Cx),X.prog=P->X.w=w->X.K=K->X.calm=ah->∀(i:Nat)(i_:List (A'×Obj))(s:Ai)(σ:St)(H:Hp)(E:Af->Ai->Prop),Inv X i_ σ H s->(∀b∈fp,cE X i_ H b)->tn i s.heap->J.stop i H->
  A6 (A9 P w) X.A (pyNext (.ref it)) (λr s1=>r=af/\Inv X i_ σ H s1) E s
 self:∀(A:Bq)(i:Nat)(s:Ai)(Q:Af->Ai->Prop)(E:Af->Ai->Prop),tn i s.heap->Q (.ref it) s->A6 (A9 P w) A (pyIter (.ref it)) Q E s
abbrev TI:=St->Hp->(It->Hp->Prop)->Prop
def xi(X:Cx)(i_:List (A'×Obj))(σ:St)(tg:Expr)(R:It->Hp->Prop)(itv:Af)(s2:Ai):Prop:=
 ∃(it:A')(fp:List A')(tn:Nat->Heap->Prop)(J:It)(H':Hp),itv=.ref it/\Inv X i_ σ H' s2/\Turn X.prog X.w X.K tg J fp it tn/\tn 0 s2.heap/\(∀b∈fp,cE X i_ H' b)/\R J H'
def PI(X:Cx)(tg iter:Expr)(wi:TI):Prop:=
 ∀(i_:List (A'×Obj))(s:Ai)(σ:St)(H:Hp)(R:It->Hp->Prop),Inv X i_ σ H s->wi σ H R->
  A6 (A9 X.prog X.w) X.A (eval iter X.env) (λv s1=>A6 (A9 X.prog X.w) X.A (pyIter v) (xi X i_ σ tg R) X.xe s1) X.xe s
theorem qr{M:Model}{A:Bq}{E:Af->Ai->Prop}{s:Ai}{tg:Expr}{it:A'}{u:Af}{o:Obj}{n:String}{vs:Array Af}{Q:Unit->Ai->Prop}(ho:s.heap.get? it=ae o)(hc:o.cls=.type n)(hd:o.data=.fields vs)
  (hn:["enumerate","zip","dict_itemiterator","dict_reverseitemiterator","odict_iterator","itertools.zip_longest","itertools.pairwise"].contains n=ai) (hQ:Q () s):A6 M A (letOwnedTupleGo tg (.ref it) u) Q E s:=by
 cases tg<;>first
  |exact Aj hQ
  | (cases u<;>first
    |exact Aj hQ
    | (refine Aa (wpAny_load ho ?_)
       rw[hc,hd];show A6 M A (if _=ah then _ else _) Q E s;rw[a_ (by intro h;rw[hn]at h;cases h)];exact Aj hQ))
def zm(K:Ag)(a:A'):It:=
 ⟨λi H=>∃xs x,SqL K H a xs/\xs[i]?=ae x,λi H x H'=>H'=H/\∀xs,SqL K H a xs->xs[i]?=ae x,λi H=>∃xs,SqL K H a xs/\xs.length<=i⟩
def zk(K:Ag)(a:A'):It:=
 ⟨λi H=>∃xs x,SqT K H a xs/\xs[i]?=ae x,λi H x H'=>H'=H/\∀xs,SqT K H a xs->xs[i]?=ae x,λi H=>∃xs,SqT K H a xs/\xs.length<=i⟩
def qE(lo:Int)(n:Nat):It:=⟨λi _=>i < n,λi H x H'=>H'=H/\x=.int (lo+i),λi _=>n<=i⟩
theorem HD{P:A3}{w:Bi}{K:Ag}{tg:Expr}(a it:A'):Turn P w K tg (zm K a) [it] it (λi h=>h.IsListIter it a i) where
 mem:=by simp
 obj:=λi h f b j=>by
  have e:b=it:=by simp_all
  subst e;obtain⟨o,e,c,d⟩:=f;exact⟨o,e,λv z=>by simp_all⟩
 keep:=λi h h' f k=>f.at λo e=>k it (by simp) o e
 item:=by
  intro X r B F N i g s σ H E I n f q;subst r B F;obtain⟨T,x,m,L⟩:=q;obtain⟨D,A,p,R⟩:=I.list m;obtain⟨u,Y,V⟩:=A.get L;obtain⟨y,C,Q,t,J,G⟩:=n it (by simp);refine wpAny_pyNext_list_item f p.isList (by simpa using Y) λh' l Z=>?_;have S:Inv X g σ H {s with heap:=h'}:=I.turned (λb o j e=>(Z.2 b j).trans e) y C t J G;obtain⟨o,e,c,d⟩:=id l;exact⟨u,rfl,qr e c d ∎ ⟨x,H,S,V,⟨rfl,λys U=>by rw[I.list_inj U m];omega⟩,l,λb j=>(n b j).1⟩⟩
 done:=by
  intro X r B F N i g s σ H E I n f q;subst r B F;obtain⟨T,m,L⟩:=q;obtain⟨D,A,p,R⟩:=I.list m;obtain⟨y,C,Q,t,J,G⟩:=n it (by simp);have hl:=A.length;exact wpAny_pyNext_list_end (I.ok.hd N) f p.isList (by simp;omega) λh' O=>⟨rfl,I.turned (λb o j e=>O b o j e) y C t J G⟩
 self:=λ_ _ _ _ _ f h=>wpAny_pyIter_listiter f h
theorem NJ{P:A3}{w:Bi}{K:Ag}{tg:Expr}(a it:A'):Turn P w K tg (zk K a) [it] it (λi h=>h.IsTupleIter it a i) where
 mem:=by simp
 obj:=λi h f b j=>by
  have e:b=it:=by simp_all
  subst e;obtain⟨o,e,c,d⟩:=f;exact⟨o,e,λv z=>by simp_all⟩
 keep:=λi h h' f k=>f.at λo e=>k it (by simp) o e
 item:=by
  intro X r B F N i g s σ H E I n f q;subst r B F;obtain⟨T,x,m,L⟩:=q;obtain⟨D,A,p,R⟩:=I.tuple m;obtain⟨u,Y,V⟩:=A.get L;obtain⟨y,C,Q,t,J,G⟩:=n it (by simp);refine wpAny_pyNext_tuple_item f (p) (by simpa using Y) λh' l Z=>?_;have S:Inv X g σ H {s with heap:=h'}:=I.turned (λb o j e=>(Z.2 b j).trans e) y C t J G;obtain⟨o,e,c,d⟩:=id l;exact⟨u,rfl,qr e c d ∎ ⟨x,H,S,V,⟨rfl,λys U=>by rw[I.tuple_inj U m];omega⟩,l,λb j=>(n b j).1⟩⟩
 done:=by
  intro X r B F N i g s σ H E I n f q;subst r B F;obtain⟨T,m,L⟩:=q;obtain⟨D,A,p,R⟩:=I.tuple m;obtain⟨y,C,Q,t,J,G⟩:=n it (by simp);have hl:=A.length;exact wpAny_pyNext_tuple_end (I.ok.hd N) f (p) (by simp;omega) λh' O=>⟨rfl,I.turned (λb o j e=>O b o j e) y C t J G⟩
 self:=λ_ _ _ _ _ f h=>wpAny_pyIter_tupleiter f h
theorem Lx{P:A3}{w:Bi}{K:Ag}{tg:Expr}(it:A')(lo:Int)(n:Nat):Turn P w K tg (qE lo n) [it] it (λi h=>IsRangeIter h it (lo+(i:Nat)*1) ((n:Int)-(i:Nat)) 1) where
 mem:=by simp
 obj:=λi h a b d=>by
  have e:b=it:=by simp_all
  subst e;exact⟨_,a,λv z=>by
   trivial⟩
 keep:=λi h C a k=>k it (by simp) _ a
 item:=by
  intro X x y B q i c s σ H E I g a j;subst x y B;obtain⟨m,p,F,l,u,r⟩:=g it (by simp);refine(Walks.range (prog:=X.prog) (w:=X.w) (I.ok.hd q) it lo 1 n).item i s _ _ j a λv C G L f M=>?_;obtain⟨t,rfl⟩:=L;have J:Inv X c σ H {s with heap:=C,toks:=G}:=I.turned (λb o d e=>M b o (by simpa using d) e) m p l u r;refine⟨_,rfl,qr f rfl rfl ∎ ⟨.int _,H,J,⟨t,?_⟩,⟨rfl,rfl⟩,f,λb d=>(g b d).1⟩⟩;simp
 done:=by
  intro X x y B q i c s σ H E I g a j;obtain⟨m,p,F,l,u,r⟩:=g it (by simp);exact wpAny_pyNext_range_end (I.ok.hd q) a (by have:n<=i:=j;omega) λh' D=>⟨rfl,I.turned (λb o d e=>D b o d e) m p l u r⟩
 self:=λ_ _ _ _ _ a h=>wpAny_pyIter_rangeiter a h
section
variable{X:Cx}{tg:Expr}
def oh(K:Ag)(tl:TE):TI:=λσ H R=>tl σ H λx H1=>∃a,x=.ref a/\(∃xs,SqL K H1 a xs)/\R (zm K a) H1
def kj(K:Ag)(tl:TE):TI:=λσ H R=>tl σ H λx H1=>∃a,x=.ref a/\(∃xs,SqT K H1 a xs)/\R (zk K a) H1
theorem M1{l:Expr}{tl:TE}(hl:PE X l tl):PI X tg l (oh X.K tl):=by
 intro c s σ H R I h;refine aL (hl c s σ H _ I h) λv m v=>?_;obtain⟨x,i,d,j,f⟩:=v;obtain⟨a,e,⟨t,g⟩,q⟩:=f;subst e;cases j;obtain⟨k,n,p,r⟩:=d.list g;refine wpAny_pyIter_list p.isList ⟨_,_,_,_,i,rfl,d.kept λb o e=>Ae _ e,HD a _,⟨_,Ax _ rfl,rfl,rfl⟩,λb u=>?_,q⟩;have e:b=m.heap.objs.size:=by simp_all
 subst e;exact d.fpOk (Al _) (d.hok.fresh (Al _))
theorem M3{l:Expr}{tl:TE}(hl:PE X l tl):PI X tg l (kj X.K tl):=by
 intro c s σ H R I h;refine aL (hl c s σ H _ I h) λv m v=>?_;obtain⟨x,i,d,j,f⟩:=v;obtain⟨a,e,⟨t,g⟩,q⟩:=f;subst e;cases j;obtain⟨k,n,p,r⟩:=d.tuple g;refine D6 (p) ⟨_,_,_,_,i,rfl,d.kept λb o e=>Ae _ e,NJ a _,⟨_,Ax _ rfl,rfl,rfl⟩,λb u=>?_,q⟩;have e:b=m.heap.objs.size:=by simp_all
 subst e;exact d.fpOk (Al _) (d.hok.fresh (Al _))
theorem Mg{i_:List (A'×Obj)}{σ:St}{H:Hp}{s:Ai}{R:It->Hp->Prop}{E:Af->Ai->Prop}{lo hi:Int}{t u v:Tok}{tk:Nat}(I:Inv X i_ σ H s)(h1:-(2 ^ 62)<=lo)(h2:lo < 2 ^ 62)(h3:-(2 ^ 62)<=hi)(h4:hi < 2 ^ 62)
  (q:R (qE lo (hi-lo).toNat) H):A6 (A9 X.prog X.w) X.A (pyIter (.ref s.heap.objs.size)) (xi X i_ σ tg R) E {s with heap:=s.heap.push {cls:=.type "range",data:=.fields #[.int lo t,.int hi u,.int 1 v]},toks:=tk}:=by
 refine wpAny_pyIter_range (IsRange.new ..) (small_one h1 h2 h3 h4) ?_;have a:Inv X i_ σ H {s with heap:=s.heap.push {cls:=.type "range",data:=.fields #[.int lo t,.int hi u,.int 1 v]},toks:=tk}:=I.kept λb o e=>Ae _ e;refine⟨_,_,_,_,H,rfl,
  a.kept λb o e=>Ae _ e,Lx _ lo (hi-lo).toNat,?_,λb d=>?_,q⟩
 ·have f:lo+((0:Nat):Int)*1=lo:=by simp
  have c:(((hi-lo).toNat:Nat):Int)-((0:Nat):Int)=Builtin.Range.rangeSize lo hi 1:=by rw[rangeSize_one];grind
  rw[f,c];exact Ax _ rfl
 ·have e:b=(s.heap.push {cls:=.type "range",data:=.fields #[.int lo t,.int hi u,.int 1 v]}).objs.size:=by simpa using d
  subst e;exact a.fpOk (Al _) (a.hok.fresh (Al _))
def qe(ta:TA):TI:=λσ H R=>ta σ H λvs H1=>∃j:Int,vs=[.int j]/\-(2 ^ 62)<=j/\j < 2 ^ 62/\R (qE 0 j.toNat) H1
theorem PK{a:Expr}{ta:TA}{p pos:Pos}(hg:Gl X "range")(hm:X.mg "range"=af)(ha:PA X [a] ta)(hs:As [a] X.env=[(ai,eval a X.env)]:=by rfl):PI X tg (.Call (.Name "range" p) [a] [] pos) (qe ta):=by
 intro b s σ H R I h;refine Call_ (ll I hg hm boot_range (E2 (aL (ha pos b s σ H _ I h) λus m u=>?_) hs rfl));obtain⟨k,l,g,i,c⟩:=u;obtain⟨j,e,c,d,q⟩:=c;subst e;cases i with
 |cons r f=>
  cases f;obtain⟨t,rfl⟩:=r;exact call_range_1 (Mg g ⋯ ⋯ c d (by simpa using q))
def gv(wi:TI)(g:TG)(tb:TS):TS:=λD σ H=>wi σ H λJ H1=>∃W:Nat->Nat->St->Hp->Prop,(∃m,W 0 m σ H1)/\∀i m σ H,W i m σ H->
 (J.stop i H/\D.nx σ H)\/(J.go i H/\∃N:St->Hp->Prop,(∀σ' H',N σ' H'->∃m',m' < m/\W (i+1) m' σ' H')/\∀x H',J.yld i H x H'->g x σ H' λσ2 H2=>tb {D with nx:=N,ct:=N,bk:=D.nx} σ2 H2)
def qw(fp:List A')(h:Heap):List (A'×Obj):=fp.filterMap λb=>(h.get? b).map λo=>(b,o)
theorem oN{fp:List A'}{h:Heap}{b:A'}{o:Obj}(hb:b∈fp)(e:h.get? b=ae o):(b,o)∈qw fp h:=Hg.mpr ⟨b,hb,by rw[e];rfl⟩
theorem Mm{fp:List A'}{h:Heap}{p:A'×Obj}(hp:p∈qw fp h):p.1∈fp/\h.get? p.1=ae p.2:=by
 obtain⟨b,a,e⟩:=Hg.mp hp;cases q:h.get? b with
 |none=>rw[q]at e;cases e
 |some o=>
  rw[q]at e;have c:=Bw e;subst c;exact⟨a,q⟩
theorem Inv.pinned{i_:List (A'×Obj)}{σ:St}{H:Hp}{s:Ai}{fp:List A'}(I:Inv X i_ σ H s)(hf:∀b∈fp,cE X i_ H b)(ho:∀b∈fp,∃o,s.heap.get? b=ae o/\∀v,o.data≠.cell v):Inv X (i_++qw fp s.heap) σ H s:=
 I.pins_of λp f=>(A7.mp f).elim (λz=>I.pin p (B2 _ z)) λz=>by
  obtain⟨a,e⟩:=Mm z;obtain⟨h,g,i,_⟩:=hf p.1 a;obtain⟨o,c,d⟩:=ho p.1 a;rw[e]at c;cases c;exact⟨e,h,g,i,d⟩
theorem Inv.unpinned{i_ pl:List (A'×Obj)}{σ:St}{H:Hp}{s:Ai}(I:Inv X (i_++pl) σ H s):Inv X i_ σ H s:=I.pins_of λp a=>I.pin p (B2 _ (C3 _ a))
theorem KL{iter:Expr}{body:List Stmt}{wi:TI}{g:TG}{tb:TS}{pos:Pos}(hp:PassesOwn (A9 X.prog X.w) X.A X.env X.xe)(hc:X.calm=ah)(hi:PI X tg iter wi)(hg:PG X tg g)(hb:PSs X body tb)
  (hs:∀x,Ee iter X.env x=pure x:=by intro _;rfl):PS X (.For tg iter body [] pos) (gv wi g tb):=by
 intro c s σ H D I h;refine wpAny_For (aL (hi c s σ H _ I h) λv s1 h1=>aL h1 λitv s2 h2=>?_) hs;obtain⟨it,P,tn,J,H2,e,I2,T,U,f2,W,⟨m0,w0⟩,L⟩:=h2;subst e
 have t:∀{y:Hp},(∀b∈P,y b=af)->∀b∈P,cE X c y b:=λhn b hb=>⟨hn b hb,(f2 b hb).2⟩;refine codeAny_forLoop_any (λn s'=>∃i σ' y,Inv X c σ' y s'/\tn i s'.heap/\(∀b∈P,y b=af)/\W i n σ' y) ?_ m0 ⟨0,σ,H2,I2,U,λb hb=>(f2 b hb).1,w0⟩
 rintro n s3 ⟨i,M,Q,I3,K,C,w3⟩
 rcases L i n M Q w3 with⟨G,qn⟩|⟨go,N,hN,O⟩
 ·refine Fk hp (aL (T.done X rfl rfl rfl hc i c s3 M Q X.xe I3 (t C) K G) λr s4 w=>?_);obtain⟨S,I4⟩:=w;subst S;exact wpAny_execs_nil ⟨M,Q,I4,qn⟩
 ·refine Fk hp (aL (T.item X rfl rfl rfl hc i c s3 M Q X.xe I3 (t C) K go) λr s4 a=>?_);obtain⟨u,S,h4⟩:=a;subst S;refine Fk hp (aL h4 λ_ s5 g=>?_);obtain⟨x,Y,I5,r5,y5,B,V⟩:=g;refine Fk hp (aL (hg _ s5 M Y x u _ (I5.pinned (t V) (T.obj _ _ B)) r5 (O x Y y5)) λ_ s6 ⟨σ6,H6,I6,q6⟩=>Fk hp (aL (hb _ s6 σ6 H6 _ I6 q6) λf R z=>?_));have p:∀{l:St}{q:Hp},Inv X _ l q R->N l q->∃m,m < n/\∃i σ' y,Inv X c σ' y R/\tn i R.heap/\(∀b∈P,y b=af)/\W i m σ' y:=λ{l q} k E=>by
   obtain⟨m',hm,w7⟩:=hN l q E;refine⟨m',hm,i+1,l,q,k.unpinned,T.keep _ _ _ B λb hb o e=>(k.pin _ (B2 _ (B2 _ (oN hb e)))).1,λb hb=>?_,w7⟩;obtain⟨o,e,d⟩:=T.obj _ _ B b hb;exact(k.pin _ (B2 _ (B2 _ (oN hb e)))).2.1
  cases f with
  |next=>obtain⟨l,q,k,E⟩:=z;exact p k E
  |cont=>obtain⟨l,q,k,E⟩:=z;exact p k E
  |brk=>obtain⟨l,q,k,z⟩:=z;exact⟨l,q,k.unpinned,z⟩
  |ret v=>obtain⟨x7,l,q,k,r7,z⟩:=z;exact⟨x7,l,q,k.unpinned,r7,z⟩
end
abbrev R2:=V->V->Hp->VK->Prop
def OpR(X:Cx)(f:Af->Af->Sem Af)(r:R2):Prop:=
 ∀(i_:List (A'×Obj))(s:Ai)(σ:St)(H:Hp)(x y:V)(v u:Af)(Q:VK),Inv X i_ σ H s->RelV x v->RelV y u->r x y H Q->
  A6 (A9 X.prog X.w) X.A (f v u) (EP X i_ σ Q) X.xe s
def sD(X:Cx)(f:Af->Sem Af)(r:V->Hp->VK->Prop):Prop:=
 ∀(i_:List (A'×Obj))(s:Ai)(σ:St)(H:Hp)(x:V)(v:Af)(Q:VK),Inv X i_ σ H s->RelV x v->r x H Q->
  A6 (A9 X.prog X.w) X.A (f v) (EP X i_ σ Q) X.xe s
def CallR(X:Cx)(f:Af)(r:List V->Hp->VK->Prop):Prop:=
 ∀(i_:List (A'×Obj))(s:Ai)(σ:St)(H:Hp)(xs:List V)(us:List Af)(Q:VK),Inv X i_ σ H s->Vals xs us->r xs H Q->
  A6 (A9 X.prog X.w) X.A (call f us) (EP X i_ σ Q) X.xe s
def rK(X:Cx)(r:V->Hp->(Bool->Hp->Prop)->Prop):Prop:=
 ∀(i_:List (A'×Obj))(s:Ai)(σ:St)(H:Hp)(x:V)(v:Af)(Q:Bool->Hp->Prop),Inv X i_ σ H s->RelV x v->r x H Q->
  A6 (A9 X.prog X.w) X.A (truthy v) (TP X i_ σ Q) X.xe s
def cY(r:R2)(ta tb:TE):TE:=λσ H Q=>ta σ H λx H1=>tb σ H1 λy H2=>r x y H2 Q
def CU(r:V->Hp->VK->Prop)(ta:TE):TE:=λσ H Q=>ta σ H λx H1=>r x H1 Q
def rI(C:Int->Int->Prop)(g:Int->Int->V):R2:=λx y H Q=>∃i j,x=.int i/\y=.int j/\C i j/\Q (g i j) H
def e9(g:Int->Int->V):R2:=λx y H Q=>∃i j,x=.int i/\y=.int j/\Q (g i j) H
def rU(g:Int->V):V->Hp->VK->Prop:=λx H Q=>∃i,x=.int i/\Q (g i) H
section
variable{X:Cx}{a b c:Expr}{ta tb tc:TE}{pos:Pos}
theorem jD(ha:PE X a ta)(hb:PE X b tb){i_:List (A'×Obj)}{s:Ai}{σ:St}{H:Hp}{R:V->V->Hp->Prop}(I:Inv X i_ σ H s)
  (h:ta σ H λx H1=>tb σ H1 λy H2=>R x y H2) {Q:Af->Ai->Prop} {f:Af->Af->Sem Af}
  (hf:∀v u s2 x y H2,Inv X i_ σ H2 s2->RelV x v->RelV y u->R x y H2->A6 (A9 X.prog X.w) X.A (f v u) Q X.xe s2):
  A6 (A9 X.prog X.w) X.A (eval a X.env) (λv s_=>A6 (A9 X.prog X.w) X.A (eval b X.env) (λu t_=>A6 (A9 X.prog X.w) X.A (f v u) Q X.xe t_) X.xe s_) X.xe s:=by
 refine aL (ha i_ s σ H _ I h) λv g ⟨x,H1,d,i,c⟩=>aL (hb i_ g σ H1 _ d c) λu s2 w=>?_;obtain⟨y,H2,e,k,j⟩:=w;exact hf v u s2 x y H2 e i k j
theorem dC{op:Operator}{r:R2}(ho:OpR X (E8 op) r)(ha:PE X a ta)(hb:PE X b tb):PE X (.BinOp a op b pos) (cY r ta tb):=λi_ s σ H Q I h=>wpAny_BinOp (jD ha hb I h λv u f x y e g i d q=>ho i_ f σ e x y v u Q g i d q)
theorem HJ{op:UnaryOp}{r:V->Hp->VK->Prop}(ho:sD X (unaryOp op) r)(ha:PE X a ta):PE X (.UnaryOp op a pos) (CU r ta):=λi_ s σ H Q I h=>UnaryOp_ (aL (ha i_ s σ H _ I h) λv e u=>by obtain⟨x,g,c,f,d⟩:=u;exact ho i_ e σ g x v Q c f d)
theorem oX{f:Af->Af->Sem Af}{C:Int->Int->Prop}{g:Int->Int->Int}
  (rule:∀(i j:Int)(t u:Tok)(s:Ai)(Q:Af->Ai->Prop)(E:Af->Ai->Prop),C i j->Q (.int (g i j) s.toks) {s with toks:=s.toks+1}->A6 (A9 X.prog X.w) X.A (f (.int i t) (.int j u)) Q E s):
  OpR X f (rI C λi j=>.int (g i j)):=by
 intro a s σ H x y v u Q I b d h;obtain⟨i,j,rfl,rfl,e,q⟩:=h;obtain⟨t,rfl⟩:=b;obtain⟨c,rfl⟩:=d;exact rule i j t c s _ _ e ⟨.int _,H,I.tok _,⟨_,rfl⟩,q⟩
theorem nM{f:Af->Af->Sem Af}{g:Int->Int->Int}
  (rule:∀(i j:Int)(t u:Tok)(s:Ai)(Q:Af->Ai->Prop)(E:Af->Ai->Prop),Q (.int (g i j) s.toks) {s with toks:=s.toks+1}->A6 (A9 X.prog X.w) X.A (f (.int i t) (.int j u)) Q E s):
  OpR X f (e9 λi j=>.int (g i j)):=by
 intro a s σ H x y v u Q I b d h;obtain⟨i,j,rfl,rfl,q⟩:=h;obtain⟨t,rfl⟩:=b;obtain⟨c,rfl⟩:=d;exact rule i j t c s _ _ ⟨.int _,H,I.tok _,⟨_,rfl⟩,q⟩
theorem iH{f:Af->Af->Sem Af}{g:Int->Int->Bool}
  (rule:∀(i j:Int)(t u:Tok)(s:Ai)(Q:Af->Ai->Prop)(E:Af->Ai->Prop),Q (.bool (g i j)) s->A6 (A9 X.prog X.w) X.A (f (.int i t) (.int j u)) Q E s):
  OpR X f (e9 λi j=>.bl (g i j)):=by
 intro a s σ H x y v u Q I b d h;obtain⟨i,j,rfl,rfl,q⟩:=h;obtain⟨t,rfl⟩:=b;obtain⟨c,rfl⟩:=d;exact rule i j t c s _ _ ⟨.bl _,H,I,rfl,q⟩
def uR(i j:Int):Prop:=0 < j/\j < 1073741824
def rh(i j:Int):Prop:=0<=j/\j<=1000000/\i.natAbs < 2 ^ 64
def CMul(i j:Int):Prop:=(-(2 ^ 64) < i/\i < 2 ^ 64)\/(-(2 ^ 64) < j/\j < 2 ^ 64)
theorem CMul.ok{i j:Int}(h:CMul i j):IntMulOk i j:=by
 rcases h with⟨b,a⟩|⟨b,a⟩
 ·exact .of_left (intBits_le_64 b a)
 ·exact .of_right (intBits_le_64 b a)
theorem op_add:OpR X (E8 .Add) (e9 λi j=>.int (i+j)):=nM λ_ _ _ _ _ _ _ q=>add_int q
theorem N3:OpR X (E8 .Sub) (e9 λi j=>.int (i-j)):=nM λ_ _ _ _ _ _ _ q=>sub_int q
theorem lL:OpR X (E8 .Mult) (rI CMul λi j=>.int (i*j)):=oX λ_ _ _ _ _ _ _ a q=>mul_int q a.ok
theorem yn:OpR X (E8 .FloorDiv) (rI uR λi j=>.int (i / j)):=oX λi j _ _ _ _ _ a q=>by
 have c:=a.1;have b:=a.2;exact floordiv_int ⋯ (by rw[Int.fdiv_eq_ediv_of_nonneg i ⋯];exact q) (.inl (PyProof.noPylong_small ⋯))
theorem iV:OpR X (E8 .Mod) (rI (λ_ j=>0 < j) λi j=>.int (i % j)):=oX λi j _ _ _ _ _ a q=>mod_int' ⋯ (by rw[Int.fmod_eq_emod_of_nonneg i ⋯];exact q)
theorem Mf:OpR X (E8 .Pow) (rI rh λi j=>.int (i ^ j.toNat)):=oX λ_ _ _ _ _ _ _ a q=>pow_int_small a.1 a.2.1 a.2.2 q
theorem OJ{f:Af->Sem Af}{g:Int->Int}
  (rule:∀(i:Int)(t:Tok)(s:Ai)(Q:Af->Ai->Prop)(E:Af->Ai->Prop),Q (.int (g i) s.toks) {s with toks:=s.toks+1}->A6 (A9 X.prog X.w) X.A (f (.int i t)) Q E s):
  sD X f (rU λi=>.int (g i)):=by
 intro a s σ H x v Q I b h;obtain⟨i,rfl,q⟩:=h;obtain⟨t,rfl⟩:=b;exact rule i t s _ _ ⟨.int _,H,I.tok _,⟨_,rfl⟩,q⟩
theorem Pz:sD X (unaryOp .USub) (rU λi=>.int (-i)):=OJ λ_ _ _ _ _ q=>neg_int q
end
def nj:V->V->Bool
 |.non,.non=>ah|.non,.int _=>ah|.int _,.non=>ah|.non,.bl _=>ah|.bl _,.non=>ah|.non,.str _=>ah|.str _,.non=>ah
 |.int _,.int _=>ah|.bl _,.bl _=>ah|.str _,.str _=>ah|.byt _,.byt _=>ah
 |.int _,.str _=>ah|.str _,.int _=>ah|.bl _,.str _=>ah|.str _,.bl _=>ah
 |_,_=>ai
def qu:R2:=λx y H Q=>nj x y=ah/\Q (.bl (decide (x=y))) H
def DO:R2:=λx y H Q=>nj x y=ah/\Q (.bl (!decide (x=y))) H
theorem BR{i j:Int}:decide (V.int i=V.int j)=(i==j):=by
 rw[F6];simp
theorem zh{i j:Bool}:decide (V.bl i=V.bl j)=(i==j):=by
 rw[F6];simp
theorem CL{i j:Str}:decide (V.str i=V.str j)=(i==j):=by
 rw[F6];simp
theorem vH{i j:Array UInt8}:decide (V.byt i=V.byt j)=(i.toList==j.toList):=by
 rw[F6];simp
section
variable{X:Cx}{a b c:Expr}{ta tb tc:TE}{pos:Pos}
theorem cf{i_:List (A'×Obj)}{σ:St}{H:Hp}{s:Ai}{Q:VK}{k k':Bool}(I:Inv X i_ σ H s)(q:Q (.bl k) H)(e:k=k'):EP X i_ σ Q (.bool k') s:=by
 subst e;exact⟨.bl k,H,I,rfl,q⟩
theorem op_eq:OpR X (B3 .Eq) qu:=by
 intro m s σ H x y v u Q I g a h;obtain⟨f,q⟩:=h;cases x with
 |non=>
  cases g;cases y with
  |non=>cases a;exact PySem.EqNone.eq_none_none (cf I q (by simp))
  |bl j=>cases a;exact PySem.EqNone.eq_none_bool (cf I q (by simp))
  |int j=>obtain⟨d,rfl⟩:=a;exact PySem.EqNone.eq_none_int (cf I q (by simp))
  |str j=>obtain⟨d,rfl⟩:=a;exact PySem.EqNone.eq_none_str (cf I q (by simp))
  |_=>exact g_ (f) Az
 |bl i=>
  cases g;cases y with
  |non=>cases a;exact PySem.EqNone.eq_bool_none (cf I q (by simp))
  |bl j=>cases a;exact eq_bool (cf I q zh)
  |str j=>obtain⟨d,rfl⟩:=a;exact PySem.EqMixed.eq_bool_str (cf I q (by simp))
  |_=>exact g_ (f) Az
 |int i=>
  obtain⟨t,rfl⟩:=g;cases y with
  |non=>cases a;exact PySem.EqNone.eq_int_none (cf I q (by simp))
  |int j=>obtain⟨d,rfl⟩:=a;exact eq_int (cf I q BR)
  |str j=>obtain⟨d,rfl⟩:=a;exact PySem.EqMixed.eq_int_str (cf I q (by simp))
  |_=>exact g_ (f) Az
 |str i=>
  obtain⟨t,rfl⟩:=g;cases y with
  |non=>cases a;exact PySem.EqNone.eq_str_none (cf I q (by simp))
  |bl j=>cases a;exact PySem.EqMixed.eq_str_bool (cf I q (by simp))
  |int j=>obtain⟨d,rfl⟩:=a;exact PySem.EqMixed.eq_str_int (cf I q (by simp))
  |str j=>obtain⟨d,rfl⟩:=a;exact eq_str (cf I q CL)
  |_=>exact g_ (f) Az
 |byt i=>
  obtain⟨t,rfl⟩:=g;cases y with
  |byt j=>obtain⟨d,rfl⟩:=a;exact PySem.W.eq_bytes (cf I q vH)
  |_=>exact g_ (f) Az
 |_=>cases y<;>exact g_ (show ai=ah from f) Az
theorem MQ:OpR X (B3 .NotEq) DO:=by
 intro m s σ H x y v u Q I g a h;obtain⟨f,q⟩:=h;cases x with
 |non=>
  cases g;cases y with
  |non=>cases a;exact PySem.EqNone.ne_none_none (cf I q (by simp))
  |bl j=>cases a;exact PySem.EqNone.ne_none_bool (cf I q (by simp))
  |int j=>obtain⟨d,rfl⟩:=a;exact PySem.EqNone.ne_none_int (cf I q (by simp))
  |str j=>obtain⟨d,rfl⟩:=a;exact PySem.EqNone.ne_none_str (cf I q (by simp))
  |_=>exact g_ (f) Az
 |bl i=>
  cases g;cases y with
  |non=>cases a;exact PySem.EqNone.ne_bool_none (cf I q (by simp))
  |bl j=>cases a;exact ne_bool (cf I q (congrArg not zh))
  |str j=>obtain⟨d,rfl⟩:=a;exact PySem.EqMixed.ne_bool_str (cf I q (by simp))
  |_=>exact g_ (f) Az
 |int i=>
  obtain⟨t,rfl⟩:=g;cases y with
  |non=>cases a;exact PySem.EqNone.ne_int_none (cf I q (by simp))
  |int j=>obtain⟨d,rfl⟩:=a;exact ne_int (cf I q (congrArg not BR))
  |str j=>obtain⟨d,rfl⟩:=a;exact PySem.EqMixed.ne_int_str (cf I q (by simp))
  |_=>exact g_ (f) Az
 |str i=>
  obtain⟨t,rfl⟩:=g;cases y with
  |non=>cases a;exact PySem.EqNone.ne_str_none (cf I q (by simp))
  |bl j=>cases a;exact PySem.EqMixed.ne_str_bool (cf I q (by simp))
  |int j=>obtain⟨d,rfl⟩:=a;exact PySem.EqMixed.ne_str_int (cf I q (by simp))
  |str j=>obtain⟨d,rfl⟩:=a;exact ne_str (cf I q (congrArg not CL))
  |_=>exact g_ (f) Az
 |byt i=>
  obtain⟨t,rfl⟩:=g;cases y with
  |byt j=>obtain⟨d,rfl⟩:=a;exact PySem.W.ne_bytes (cf I q (congrArg not vH))
  |_=>exact g_ (f) Az
 |_=>cases y<;>exact g_ (show ai=ah from f) Az
theorem op_lt:OpR X (B3 .Lt) (e9 λi j=>.bl (decide (i < j))):=iH λ_ _ _ _ _ _ _ q=>lt_int q
theorem op_le:OpR X (B3 .LtE) (e9 λi j=>.bl (decide (i<=j))):=iH λ_ _ _ _ _ _ _ q=>le_int q
theorem op_gt:OpR X (B3 .Gt) (e9 λi j=>.bl (decide (j < i))):=iH λ_ _ _ _ _ _ _ q=>gt_int q
theorem IF:OpR X (B3 .GtE) (e9 λi j=>.bl (decide (j<=i))):=iH λ_ _ _ _ _ _ _ q=>ge_int q
theorem R3:OpR X (B3 .Lt) (λx y H Q=>∃i j,x=.str i/\y=.str j/\Q (.bl (decide (i.cps.toList < j.cps.toList))) H):=by
 intro a s σ H x y v u Q I b c h;obtain⟨i,j,rfl,rfl,q⟩:=h;obtain⟨t,rfl⟩:=b;obtain⟨d,rfl⟩:=c;exact lt_str (cf I q rfl)
theorem z4:OpR X (B3 .Is) (λx y H Q=>y=.non/\Q (.bl (decide (x=.non))) H):=by
 intro b s σ H x y v u Q I a c h;obtain⟨rfl,q⟩:=h;cases c;refine is_none_gen (cf I q ?_);cases x<;>first
  | (cases a;rfl)
  | (obtain⟨t,rfl⟩:=a;rfl)
theorem BY:OpR X (B3 .IsNot) (λx y H Q=>y=.non/\Q (.bl (!decide (x=.non))) H):=by
 intro b s σ H x y v u Q I a c h;obtain⟨rfl,q⟩:=h;cases c;refine isnot_none_gen (cf I q ?_);cases x<;>first
  | (cases a;rfl)
  | (obtain⟨t,rfl⟩:=a;rfl)
theorem OpR.or{f:Af->Af->Sem Af}{r r':R2}(h:OpR X f r)(h':OpR X f r'):OpR X f (λx y H Q=>r x y H Q\/r' x y H Q):=by
 intro a s σ H x y v u Q I c b q;rcases q with q|q
 ·exact h a s σ H x y v u Q I c b q
 ·exact h' a s σ H x y v u Q I c b q
theorem jk(b:Expr){op:CmpOp}(h:op≠.In:=by decide)(h2:op≠.NotIn:=by decide):Cm op b=ai:=by
 have c:(op==CmpOp.In)=ai:=by cases op<;>first|rfl|exact g_ rfl h
 have a:(op==CmpOp.NotIn)=ai:=by cases op<;>first|rfl|exact g_ rfl h2
 cases b<;>simp[Cm,c,a]
theorem NG{op:CmpOp}{r:R2}(ho:OpR X (B3 op) r)(ha:PE X a ta)(hb:PE X b tb)(hm:Cm op b=ai):PE X (.Compare a [op] [b] pos) (cY r ta tb):=λi_ s σ H Q I h=>wpAny_Compare1 (jD ha hb I h λv u f x y e g i d q=>ho i_ f σ e x y v u Q g i d q) hm
def fN(t:TE):TT:=λσ H Q=>t σ H λx H'=>∃k,x=.bl k/\Q k H'
theorem jc{op:CmpOp}{r:R2}(ho:OpR X (B3 op) r)(ha:PE X a ta)(hb:PE X b tb)(hm:Cm op b=ai):PT X (.Compare a [op] [b] pos) (fN (cY r ta tb)):=by
 intro d s σ H Q I h;refine wpAny_isTrue_Compare1 (aL (ha d s σ H _ I h) λv A ⟨x,m,o,q,j⟩=>aL (hb d A σ m _ o j) λu p ⟨y,l,f,t,g⟩=>
  aL (ho d p σ l x y v u _ f q t g) λc C a=>?_) hm;obtain⟨z,i,n,w,k,e,B⟩:=a
 subst e;cases w;exact Ed ⟨i,n,B⟩
def uI(r r':R2)(ta tb tc:TE):TE:=λσ H Q=>ta σ H λx H1=>tb σ H1 λy H2=>r x y H2 λz H3=>∃k,z=.bl k /\
 (if k=ah then tc σ H3 λw' H4=>r' y w' H4 Q else Q (.bl ai) H3)
theorem KA{op op':CmpOp}{r r':R2}(ho:OpR X (B3 op) r)(ho':OpR X (B3 op') r')(ha:PE X a ta)(hb:PE X b tb)(hc:PE X c tc)
  (hm:lastMarks [op,op'] [b,c]=ai:=by with_unfolding_all rfl):PE X (.Compare a [op,op'] [b,c] pos) (uI r r' ta tb tc):=by
 intro f s σ H Q I h;refine Compare_chain (aL (ha f s σ H _ I h) λv J ⟨x,w,B,D,q⟩=>chain_link (aL (hb f J σ w _ B q) λu C ⟨y,t,n,j,o⟩=>
  aL (ho f C σ t x y v u _ n D j o) λd K a=>?_)) hm;obtain⟨z,g,i,G,k,e,l⟩:=a
 subst e;cases G;refine Ed ?_;cases k with
 |false=>exact ite_ff ⟨.bl ai,g,i,rfl,l⟩
 |true=>exact ite_tt (chain_last (aL (hc f K σ g _ i l) λw' A b=>by obtain⟨F,L,p,m,E⟩:=b;exact ho' f A σ L y F u w' Q p j m E))
def j6(K:Ag)(x:V)(H:Hp)(k:Bool):Prop:=
 match x with
 |.non=>k=ai
 |.bl b=>k=b
 |.int i=>k=(i != 0)
 |.str y=>y.length<=Ay/\k=((y.length:Int) != 0)
 |.byt y=>y.size<=Ay/\k=((y.size:Int) != 0)
 |.ref p=>(∃xs,SqL K H p xs/\k=!xs.isEmpty)\/(∃xs,SqT K H p xs/\k=!xs.isEmpty)\/∃kvs,H p=ae (.dK kvs)/\k=!kvs.isEmpty
 |_=>False
theorem GD{κ:Type}{kvs:List (κ×V)}{vs:List (κ×Af)}(r:KV kvs vs):(!vs.isEmpty)=!kvs.isEmpty:=by
 cases r<;>rfl
theorem wJ{xs:List V}{i':List Af}(r:Vals xs i'):(!i'.toArray.isEmpty)=!xs.isEmpty:=by
 cases r<;>simp
theorem kO:(Ay:Nat) < 2 ^ 63:=by decide
theorem J1:rK X (λx H Q=>∃k,j6 X.K x H k/\Q k H):=by
 intro n s σ H x v Q I d h;obtain⟨k,e,q⟩:=h;have J:=Ew;cases x with
 |non=>
  cases d;have a:=e;subst a;exact truthy_none ⟨H,I,q⟩
 |bl b=>
  cases d;have a:=e;subst a;exact Ed ⟨H,I,q⟩
 |int i=>
  obtain⟨t,rfl⟩:=d;have a:=e;subst a;exact PySem.P.truthy_int ⟨H,I,q⟩
 |str y=>
  obtain⟨t,rfl⟩:=d;obtain⟨E,a⟩:=e;subst a;exact PySem.P.truthy_str ⋯ ⟨H,I.tok _,q⟩
 |byt y=>
  obtain⟨t,rfl⟩:=d;obtain⟨E,a⟩:=e;subst a;exact PySem.W.truthy_bytes ⋯ ⟨H,I.tok _,q⟩
 |ref p=>
  cases d;have a:=e;rcases a with⟨z,f,a⟩|⟨z,f,a⟩|⟨u,f,a⟩
  ·subst a;obtain⟨j,r,g,l⟩:=I.list f;have c:=r.length;exact wpAny_truthy_list g.isList (by simp only[Bb];omega) ⟨H,I.tok _,by rw[wJ r];exact q⟩
  ·subst a;obtain⟨j,r,g,l⟩:=I.tuple f;have c:=r.length;exact truthy_tuple g (by simp only[Bb];omega) ⟨H,I.tok _,by rw[wJ r];exact q⟩
  ·subst a;obtain⟨l,C,F,r,m⟩:=I.hok p _ f;have c:=D1 r;exact wpAny_truthy_dict C m ⋯ ⟨H,I.tok _,by rw[GD r];exact q⟩
 |_=>exact(e).elim
theorem Ot(ha:PE X a ta)(he:∀whole,isTrue a X.env whole=(do let v <-whole;standAt a.pos;holding [v] (truthy v))):
  PT X a (λσ H Q=>ta σ H λx H'=>∃k,j6 X.K x H' k/\Q k H'):=λi_ s σ H Q I h=>isTrue_plain (aL (ha i_ s σ H _ I h) λv e u=>by obtain⟨x,g,c,f,d⟩:=u;exact J1 i_ e σ g x v Q c f d) (he _)
theorem op_add_str:OpR X (E8 .Add) (λx y H Q=>∃i j,x=.str i/\y=.str j/\i.length+j.length<=Ay/\Q (.str (i++j)) H):=by
 intro a s σ H x y v u Q I b d h;obtain⟨i,j,rfl,rfl,c,q⟩:=h;obtain⟨t,rfl⟩:=b;obtain⟨f,rfl⟩:=d;exact add_str (λt' e=>⟨.str _,H,I.tok _,⟨_,rfl⟩,q⟩) c
theorem eL{x:V}{us:List Af}(r:Vals [x] us):∃u,us=[u]/\RelV x u:=by
 cases r with
 |cons a b=>cases b;exact⟨_,rfl,a⟩
theorem vZ{x y:V}{us:List Af}(r:Vals [x,y] us):∃u w',us=[u,w']/\RelV x u/\RelV y w':=by
 cases r with
 |cons c d=>
  cases d with
  |cons b a=>cases a;exact⟨_,_,rfl,c,b⟩
end
structure ObjM(h:Heap)(x dx C:A')(mA:Str->Option Af):Prop where
 obj:h.get? x=ae (PySem.W.instObj C dx)
 ns:h.Ns1 dx mA
 ne:dx≠x
theorem RC{h:Heap}{dx:A'}{mA:Str->Option Af}(n:h.Ns1 dx mA):∃od,h.get? dx=ae od/\∀name,PySem.W.lookIn name od=ae (mA name):=by
 obtain⟨o,c,l,f,g,k,_,d⟩:=n;refine⟨o,f,λname=>?_⟩;have e:=d name;unfold nsFind findBy at e;rw[<-Array.find?_toList]at e;unfold PySem.W.lookIn;rw[g];dsimp only
 split
 ·rename_i y q;rw[q]at e;exact congrArg ae e
 ·rename_i q;rw[q]at e;have a:c.toList.any (·.refKey)=ai:=by
   rw[List.any_eq_false];intro y j;obtain⟨z,t,b⟩:=k y (Array.mem_toList_iff.mp j);simp[DictEntry.refKey,b]
  have i:¬c.toList.any (·.refKey)=ah:=by rw[a];simp
  rw[a_ i];exact congrArg ae e
theorem ObjM.look{h:Heap}{x dx C:A'}{mA:Str->Option Af}(I:ObjM h x dx C mA):∃od,PySem.W.InstAt h x (PySem.W.instObj C dx) C (ae od)/\∀name,PySem.W.lookIn name od=ae (mA name):=
 let⟨od,b,a⟩:=RC I.ns
 ⟨od,⟨I.obj,rfl,rfl,b⟩,a⟩
theorem RelO.some_of{v:V}{o:Option Af}(r:RelO (ae v) o):∃u,o=ae u/\RelV v u:=by
 cases o with
 |none=>exact(r).elim
 |some u=>exact⟨u,rfl,r⟩
section
variable{P:A3}{w:Bi}{H H':Hp}{h h':Heap}{a C dx:A'}{fs fs':List (Str×V)}
theorem LK(hok:HOk P w H h)(e:H a=ae (.ins C dx fs)):∃mA,ObjM h a dx C mA/\(∀f,RelO (fs.lookup f) (mA f))/\PySem.Within mA (fs.map (·.1))/\fs.length<=1000/\H dx=ae (.own a):=by
 obtain⟨d,z,b,c,mA,n,r,q⟩:=(show ObjOk P w H h a (.ins C dx fs)from hok a _ e);exact⟨mA,⟨c,n,b⟩,r,q,z,d⟩
end
structure Cls(K:Ag)(C:A'):Prop where
 pg:PySem.W.plainGet K C Str.empty=ah
 hd:PySem.W.hasDictIn K C=ah
 po:PySem.W.plainOver K C=ah
 sa:PySem.W.findIn K (.ref C) "__setattr__"=ae (ae (.builtin "object.__setattr__"))
theorem Cls.get{K:Ag}{C:A'}(c:Cls K C)(f:Str):PySem.W.plainGet K C f=ah:=c.pg
section
variable{X:Cx}{i_:List (A'×Obj)}{σ:St}{H:Hp}{s:Ai}{A:Bq}{E:Af->Ai->Prop}{Q:Af->Ai->Prop}{c:Af}{b:Bool}
inductive TyOf(K:Ag)(H:Hp):V->Af->Prop where
 |non:TyOf K H .non (.type "NoneType")
 |bl (x:Bool):TyOf K H (.bl x) (.type "bool")
 |int (i:Int):TyOf K H (.int i) (.type "int")
 |str (x:Str):TyOf K H (.str x) (.type "str")
 |flt (x:UInt64):TyOf K H (.flt x) (.type "float")
 |lst {a:A'} {xs:List V} (e:H a=ae (.lst xs)):TyOf K H (.ref a) (.type "list")
 |frz {a:A'} {o:Obj} {xs:List V} (e:H a=ae (.frz o (.lst xs))):TyOf K H (.ref a) (.type "list")
 |tup {a:A'} {xs:List V} (e:H a=ae (.tup xs)):TyOf K H (.ref a) (.type "tuple")
 |dK {a:A'} {kvs:List (aC×V)} (e:H a=ae (.dK kvs)):TyOf K H (.ref a) (.type "dict")
 |dT {a:A'} {kvs:List (List aC×V)} (e:H a=ae (.dT kvs)):TyOf K H (.ref a) (.type "dict")
 |ins {a C dx:A'} {fs:List (Str×V)} (e:H a=ae (.ins C dx fs)) (cl:Cls K C) (ha:PySem.W.findIn K (.ref C) "__class__"=ae (ae (.builtin "object.__class__")))
   (hn:PySem.W.specialIn K (.builtin "object.__class__") "__get__"=ae (ae (.builtin "getset_descriptor.__get__"))) (htk:PySem.W.takesIn K (.builtin "object.__class__")=ae ah)
   (hm:PySem.W.mroIn K C (.type "object")=ae ah):TyOf K H (.ref a) (.ref C)
theorem RP{x:V}{u t:Af}(I:Inv X i_ σ H s)(rx:RelV x u)(ty:TyOf X.K H x t)(e:PySem.W.kitOne X.K t c=ae b)(h:∀tk,Q (.bool b) {s with toks:=tk}):
  A6 (A9 X.prog X.w) A (call (.builtin "isinstance") [u,c]) Q E s:=by
 cases ty with
 |non=>cases(rx);exact Df PySem.W.kitx_none I.kIn Gu e (λz=>nomatch z) h
 |bl y=>cases(rx);exact Df PySem.W.kitx_bool I.kIn Gu e (λz=>nomatch z) h
 |int i=>obtain⟨t,q⟩:=(rx);cases q;exact Df PySem.W.kitx_int I.kIn Gu e (λz=>nomatch z) h
 |str y=>obtain⟨t,q⟩:=(rx);cases q;exact Df PySem.W.kitx_str I.kIn Gu e (λz=>nomatch z) h
 |flt y=>obtain⟨t,q⟩:=(rx);cases q;exact Df PySem.W.kitx_float I.kIn Gu e (λz=>nomatch z) h
 |@lst a k d=>
  cases(rx);obtain⟨_,_,n,_,f⟩:=(show ObjOk X.prog X.w H s.heap a (.lst k)from I.hok a _ d);exact Df PySem.W.kitx_list I.kIn ⟨_,f,rfl⟩ e (λz=>nomatch z) h
 |@frz a S k d=>
  cases(rx);obtain⟨_,_,_,n,_,f⟩:=(show ObjOk X.prog X.w H s.heap a (.frz S _)from I.hok a _ d);exact Df PySem.W.kitx_list I.kIn ⟨_,f,rfl⟩ e (λz=>nomatch z) h
 |@tup a k d=>
  cases(rx);obtain⟨_,_,_,p⟩:=(show ObjOk X.prog X.w H s.heap a (.tup k)from I.hok a _ d);obtain⟨o,f,j,_⟩:=p;exact Df PySem.W.kitx_tuple I.kIn ⟨o,f,j⟩ e (λz=>nomatch z) h
 |@dK a g d=>
  cases(rx);obtain⟨_,_,Z,_,p⟩:=(show ObjOk X.prog X.w H s.heap a (.dK g)from I.hok a _ d);obtain⟨o,F,M,f,j,_⟩:=p;exact Df PySem.W.kitx_dict I.kIn ⟨o,f,j.1⟩ e (λz=>nomatch z) h
 |@dT a g d=>
  cases(rx);obtain⟨_,_,k,_,o,F,M,f,j,_⟩:=(show ObjOk X.prog X.w H s.heap a (.dT g)from I.hok a _ d);exact Df PySem.W.kitx_dict I.kIn ⟨o,f,j.1⟩ e (λz=>nomatch z) h
 |@ins a C dx fs d m U N l D=>
  cases(rx);obtain⟨Y,O,_⟩:=LK I.hok d;obtain⟨od,J,_⟩:=O.look;exact Df (PySem.W.kitx_own (m.get _) m.hd U N l D) I.kIn J e (λz=>nomatch z) h
end
structure Room(k:Nat)(A:Bq):Prop where
 hd:A.handled=af
 dp:A.depth+3*k+5 < recursionLimit
 un:A.units+16*k+200 < De
 gd:A.guards=ae []
theorem Room.mono{j k:Nat}{A:Bq}(r:Room k A)(h:j<=k):Room j A:=⟨r.hd,by have:=r.dp;omega,by have:=r.un;omega,r.gd⟩
theorem Room.deeper{k:Nat}{A:Bq}(r:Room (k+1) A)(env:Env):Room k (A.deeper env):=
 ⟨r.hd,by have:=r.dp;show A.depth+1+3*k+5 < _;omega,by have:=r.un;show A.units+3+16*k+200 < _;omega,r.gd⟩
theorem Room.depth{k:Nat}{A:Bq}(r:Room k A):A.depth < recursionLimit:=by have:=r.dp;omega
theorem Room.units{k:Nat}{A:Bq}(r:Room k A):A.units+64 < De:=by have:=r.un;omega
theorem Room.units0{k:Nat}{A:Bq}(r:Room k A):A.units < De:=by have:=r.un;omega
def aX:TA:=λ_ H Q=>Q [] H
def br(ta:TE)(tr:TA):TA:=λσ H Q=>ta σ H λx H1=>tr σ H1 λxs H2=>Q (x::xs) H2
section
variable{X:Cx}{e:Expr}{es:List Expr}{te:TE}{t:TA}{pos:Pos}
theorem dm:PA X [] aX:=λ_ _ _ _ H Q I h=>Calls.spliced_nil ⟨[],H,I,.nil,h⟩
theorem b3(ha:PE X e te)(hr:PA X es t)(hs:As (e::es) X.env=(ai,eval e X.env)::As es X.env:=by rfl):PA X (e::es) (br te t):=by
 intro b a s σ H Q I h;rw[hs];show A6 _ _ (spliced ((ai,eval e X.env)::Cw b _)) _ _ s;exact Calls.spliced_cons (aL (ha a s σ H _ I h) λu m u=>by obtain⟨x,i,j,k,f⟩:=u;exact aL (hr b a m σ i _ j f) λus n v=>by obtain⟨o,g,c,l,d⟩:=v;exact ⟨_,g,c,.cons k l,d⟩)
def jE(t:TA):TE:=λσ H Q=>t σ H λxs H1=>xs.length<=Ay/\∀p,H1 p=af->Q (.ref p) (upd H1 p (.tup xs))
def iN(t:TA):TE:=λσ H Q=>t σ H λxs H1=>xs.length<=Ay/\∀p,H1 p=af->Q (.ref p) (upd H1 p (.lst xs))
theorem Ri{x1}(h:PA X es t):PE X (.Tuple es x1 pos) (jE t):=by
 intro a s σ H Q I f;refine wpAny_Tuple_spliced (aL (h pos a s σ H _ I f) λus d ⟨g,j,c,r,z,q⟩=>⟨by rw[<-r.length];exact z,?_⟩);refine⟨.ref d.heap.objs.size,_,c.laid (λb u e=>Ae _ e) (Al _) ?_,rfl,q _ (c.hok.fresh (Al _))⟩;exact⟨z,us,r,IsTupP.new _ _⟩
theorem pH(h:PA X es t):PE X (.List es pos) (iN t):=by
 intro a s σ H Q I f;refine wpAny_List_spliced (aL (h pos a s σ H _ I f) λus d ⟨g,j,c,r,z,q⟩=>⟨by rw[<-r.length];exact z,?_⟩);refine⟨.ref d.heap.objs.size,_,c.laid (λb u e=>Ae _ e) (Al _) ?_,rfl,q _ (c.hok.fresh (Al _))⟩;exact⟨z,us,0,r,Ax _ rfl⟩
end
abbrev Sp:=List V->Hp->VK->XK->Prop
abbrev gM:=List Env->Hp->Ai->XK->Af->Ai->Prop
structure Env0(P:A3)(w:Bi)(K:Ag)(mg:Str->Option Af)(base:Heap)(A:Bq)(outer:List Env)(s:Ai)(H:Hp):Prop where
 frames:A.frames=ae outer
 mod:Mod K mg base
 bs:∀b o,base.get? b=ae o->s.heap.get? b=ae o/\H b=af
 bsz:base.objs.size<=s.heap.objs.size
 funs:s.heap.FunFrames base outer
 frf:∀b∈gB outer,H b=af
 hok:HOk P w H s.heap
 bare:AllBare s.gens
def CE(outer:List Env)(P:A3)(w:Bi)(H:Hp)(s:Ai)(Q:VK)(u:Af)(s':Ai):Prop:=
 ∃v H',s'.os=s.os/\AllBare s'.gens/\Un (gB outer) [] H H' s.heap s'.heap/\HOk P w H' s'.heap/\RelV v u/\Q v H'
def CR(CX:gM)(outer:List Env)(P:A3)(w:Bi)(H:Hp)(s:Ai)(Q:VK)(E:XK)(r:Result)(s':Ai):Prop:=
 match r with
 |.ok (.ret u)=>CE outer P w H s Q u s'
 |.ok _=>False
 |.error e=>CX outer H s E e s'
structure FnOk(P:A3)(w:Bi)(K:Ag)(mg:Str->Option Af)(base:Heap)(CX:gM)(k:Nat)(f:A')(fd:Ce)(ps:List Str)(sp:Sp):Prop where
 len:∀vs H Q E,sp vs H Q E->vs.length=ps.length
 run:∀(A:Bq)(outer:List Env)(s:Ai)(H:Hp)(args:Args)(us:List Af)(vs:List V)(Q:VK)(E:XK),Room k A->Env0 P w K mg base A outer s H->BindsTo s fd args (ps.zip us)->Vals vs us->sp vs H Q E->
  codeAny (A9 P w) A (.call (.ref f) args) (CR CX outer P w H s Q E) s
theorem FnOk.imp{P:A3}{w:Bi}{K:Ag}{mg:Str->Option Af}{base:Heap}{CX:gM}{k:Nat}{f:A'}{fd:Ce}{ps:List Str}{sp sp':Sp}(F:FnOk P w K mg base CX k f fd ps sp)
  (h:∀vs H Q E,sp' vs H Q E->sp vs H Q E):FnOk P w K mg base CX k f fd ps sp':=
 ⟨λvs H Q E q=>F.len vs H Q E (h _ _ _ _ q),λA a s H b i vs Q E g d e c j=>F.run A a s H b i vs Q E g d e c (h _ _ _ _ j)⟩
section
variable{X:Cx}{i_:List (A'×Obj)}{σ:St}{H:Hp}{s s':Ai}
theorem Inv.env0(I:Inv X i_ σ H s):Env0 X.prog X.w X.K X.mg X.base X.A X.stack s H:=
 ⟨I.ok.frames,I.ok.mod,I.bs,A5 I.ok.bsz I.sz,I.stack,I.stkFree,I.hok,I.bare⟩
theorem Inv.after{Q:VK}{u:Af}(I:Inv X i_ σ H s)(h:CE X.stack X.prog X.w H s Q u s'):EP X i_ σ Q u s':=by
 obtain⟨v,d,e,a,f,c,r,q⟩:=h;obtain⟨g,_⟩:=s';obtain rfl:=e;exact⟨v,d,I.call f c a (λb z=>g_ z (by simp)),r,q⟩
end
def eu(sp:Sp)(dvs:List V)(E:XK)(t:TA):TE:=λσ H Q=>t σ H λvs H1=>sp (vs++dvs) H1 Q E
def Binds(K:Ag)(fd:Ce)(ps:List Str)(ds:List Af):Prop:=
 ∀(s:Ai)(us:List Af),K.In s.heap->(us++ds).length=ps.length->BindsTo s fd ⟨us,[]⟩ (ps.zip (us++ds))
theorem Binds.all{K:Ag}{fd:Ce}{ps:List Str}(h:∀us:List Af,us.length=ps.length->bindArgs fd ⟨us,[]⟩=pure (ps.zip us)):Binds K fd ps []:=λs us _ a=>by
 rw[Bu]at a ⊢;exact .of_eq (h us a)
def uD(CX:gM)(X:Cx)(E:XK):Prop:=∀(i_:List (A'×Obj))(σ:St)(H:Hp)(s:Ai)(e:Af)(s':Ai),Inv X i_ σ H s->CX X.stack H s E e s'->X.xe e s'
section
variable{X:Cx}{CX:gM}{k:Nat}{f C:A'}{fd:Ce}{ps:List Str}{sp:Sp}{dvs:List V}{ds:List Af}{E:XK}{x m:Str}{p pos apos:Pos}{e o:Expr}{es:List Expr}{ta:TE}{t:TA}
theorem My{i_:List (A'×Obj)}{σ:St}{H:Hp}{s:Ai}{Q:VK}{us:List Af}{vs:List V}(F:FnOk X.prog X.w X.K X.mg X.base CX k f fd ps sp)(hr:Room k X.A)(hb:Binds X.K fd ps ds)(hd:Vals dvs ds)(hx:uD CX X E)
  (I:Inv X i_ σ H s) (r:Vals vs us) (h:sp (vs++dvs) H Q E):A6 (A9 X.prog X.w) X.A (call (.ref f) us) (EP X i_ σ Q) X.xe s:=by
 have g:=r.append hd;have i:(us++ds).length=ps.length:=by rw[<-g.length];exact F.len _ _ _ _ h
 refine wpAny_call (codeAny_mono (F.run X.A X.stack s H _ _ _ Q E hr I.env0 (hb s us I.kIn i) g h) λr l a=>?_);cases r with
 |error e=>exact hx i_ σ H s e l I a
 |ok n=>
  cases n with
  |ret u=>exact I.after a
  |next=>exact False.elim a
  |brk=>exact False.elim a
  |cont=>exact False.elim a
theorem jg(F:FnOk X.prog X.w X.K X.mg X.base CX k f fd ps sp)(hr:Room k X.A)(hg:Gl X x)(hm:X.mg x=ae (.ref f))(hk:Ct X.K (.ref f)=ah)(hb:Binds X.K fd ps ds)(hd:Vals dvs ds)(hx:uD CX X E)
  (ha:PA X (e::es) t) (hdb:(x==("__debug__":Str))=ai:=by decide) (he:As (e::es) X.env=(ai,eval e X.env)::As es X.env:=by rfl) (q_:(Cw pos (As es X.env)).any (·.1)=ai:=by rfl):
  PE X (.Call (.Name x p) (e::es) [] pos) (eu sp dvs E t):=by
 intro a s σ H Q I h;refine wpAny_Call_Name_kw (vQ I hg hm (PySem.W.callWith_K I.ok.mod.kin hk (aL (ha pos a s σ H _ I h) λus d ⟨c,g,b,r,q⟩=>⟨b.kIn,?_⟩) he q_) hdb);exact My F hr hb hd hx b r q
end
structure FnScope(N P:List Str)(sc:E9):Prop where
 kind:sc.kind=.function
 co:sc.isCoroutine=ai
 gen:sc.isGenerator=ai
 nd:N.Nodup
 pre:N.take P.length=P
 par:∀x∈P,sc.names.lookup x=ae .local\/sc.names.lookup x=ae .cell
 nofree:∀y∈sc.names,y.2≠.free
theorem CI{kindOf:Str->Option NameKind}{x:Str}:∀{binds:List (Str×Af)}{m:Str->Option Af},(∀v,(x,v)∉binds)->bindL kindOf binds m x=m x
 |[],_,_=>rfl
 | (n,v)::r,m,h=>by
  unfold bindL;rw[CI λw a=>h w (Ak _ a)]
  split
  ·have:x≠n:=by rintro rfl;exact h v Ap
   simp[this]
  ·rfl
theorem zX{kindOf:Str->Option NameKind}{x:Str}:∀{binds:List (Str×Af)}{m:Str->Option Af},(∀v,(x,v)∉binds)->bindC kindOf binds m x=m x
 |[],_,_=>rfl
 | (n,v)::r,m,h=>by
  unfold bindC;rw[zX λw a=>h w (Ak _ a)]
  split
  ·rfl
  ·have:x≠n:=by rintro rfl;exact h v Ap
   simp[this]
theorem vn{kindOf:Str->Option NameKind}{x:Str}{v:Af}:∀{P:List Str}{vs:List Af}{i:Nat}{m:Str->Option Af},P.Nodup->P[i]?=ae x->vs[i]?=ae v->kindOf x=ae .local->
  bindL kindOf (P.zip vs) m x=ae v
 |[],_,_,_,_,h,_,_=>by simp at h
 |_::_,[],_,_,_,_,h,_=>by simp at h
 |p::P,w::vs,0,m,b,c,a,d=>by
  simp at c a;subst c;subst a;show bindL kindOf ((p,w)::P.zip vs) m p=_;unfold bindL;rw[CI λv e=>(Dw.mp b).1 (F5 e).1,b_ d];simp
 |p::P,w::vs,i+1,m,b,c,a,d=>by
  unfold bindL;exact vn (Dw.mp b).2 (by assumption) (by assumption) d
theorem DD{kindOf:Str->Option NameKind}{x:Str}{v:Af}:∀{P:List Str}{vs:List Af}{i:Nat}{m:Str->Option Af},P.Nodup->P[i]?=ae x->vs[i]?=ae v->kindOf x≠ae .local->
  bindC kindOf (P.zip vs) m x=ae v
 |[],_,_,_,_,h,_,_=>by simp at h
 |_::_,[],_,_,_,_,h,_=>by simp at h
 |p::P,w::vs,0,m,b,c,a,d=>by
  simp at c a;subst c;subst a;show bindC kindOf ((p,w)::P.zip vs) m p=_;unfold bindC;rw[zX λv e=>(Dw.mp b).1 (F5 e).1,a_ d];simp
 |p::P,w::vs,i+1,m,b,c,a,d=>by
  unfold bindC;exact DD (Dw.mp b).2 (by assumption) (by assumption) d
def start(N:List Str)(vs:List V):St:=vs.map ae++Di (N.length-vs.length) af
def b6(CX:gM)(P:A3)(w:Bi)(K:Ag)(mg:Str->Option Af)(base:Heap)(N:List Str)(qual:Str)(scope:E9)(f:A')(cd:Af)(A:Bq)(outer:List Env)(s:Ai)(H:Hp)(E:XK):Cx where
 prog:=P
 w:=w
 K:=K
 mg:=mg
 base:=base
 A:=A.deeper (envOfC qual scope s.heap.objs.size f cd)
 N:=N
 s₀:=s
 H₀:=H
 env:=envOfC qual scope s.heap.objs.size f cd
 outer:=outer
 stack:=envOfC qual scope s.heap.objs.size f cd::outer
 ex:=[]
 calm:=ah
 fn:=λ_=>ah
 pn:=[]
 xe:=λe s'=>A6 (A9 P w) (A.deeper (envOfC qual scope s.heap.objs.size f cd)) (leaving (envOfC qual scope s.heap.objs.size f cd) e) (λ_ s''=>CX outer H s E e s'') (λe' s''=>CX outer H s E e' s'') s'
theorem yM{sc:E9}{n:Nat}{x:Str}(h:sc.names.lookup x=ae .cell):∃c,(cellsFrom n sc.names []).lookup x=ae c:=by
 exact D2.mp (PySem.W.cellsFrom_some sc.names n [] (.inl h))
theorem MT{CX:gM}{P:A3}{w:Bi}{K:Ag}{mg:Str->Option Af}{base:Heap}{N ps:List Str}{qual:Str}{scope:E9}{f:A'}{cd:Af}{A:Bq}{outer:List Env}{s s1:Ai}{H:Hp}{E:XK}{us:List Af}{vs:List V}
  (S:FnScope N ps scope) (hd:A.handled=af) (e0:Env0 P w K mg base A outer s H) (hl:vs.length=ps.length) (r:Vals vs us)
  (x:InCallC s s.heap.objs.size (bindL (envOfC qual scope s.heap.objs.size f cd).kindOf (ps.zip us) λ_=>af) (cellsFrom (s.heap.objs.size+1) scope.names []) (bindC (envOfC qual scope s.heap.objs.size f cd).kindOf (ps.zip us) λ_=>af) s1):
  Inv (b6 CX P w K mg base N qual scope f cd A outer s H E) [] (start N vs) H s1:=by
 have D:ps.length<=N.length:=by have:=congrArg Dx S.pre;rw[Ey]at this;omega
 obtain⟨o,I,rfl,t⟩:=x.done;have j:∀b:A',b∉(b6 CX P w K mg base N qual scope f cd A outer s H E).ex:=λb z=>g_ (show b∈([]:List A')from z) (by simp);refine⟨⟨e0.mod,S.kind,rfl,rfl,Al _,λy z c o d=>?_,λy g=>?_,λy c _ h=>?_,λ_=>hd,Around.frames_deeper e0.frames,.inr ⟨rfl,rfl⟩,λb z=>g_ z (j b),e0.bs,e0.bsz,λb _ _=>j b,λb z=>g_ z (j b),e0.funs,e0.frf⟩,
  rfl,e0.bare,Un.kept t,⟨_,x.toInCall.ns,λi y v o d G=>?_⟩,λy c h=>⟨_,x.cell y c h⟩,e0.hok.fresh (Al _),λy c h=>?_,λp m=>g_ (show p∈([]:List _)from m) (by simp),e0.hok.kept t,?_⟩
 ·exact name_of_addr x.apart (Fu o) (Fu d)
 ·have g:=g;rcases g with g|g
  ·exact yM g
  ·exact g_ rfl (S.nofree _ (Fu g))
 ·exact Gn (x.above y c (Fu h))
 ·have n:i < vs.length:=by
   unfold start at d;by_cases n:i < vs.length
   ·exact n
   ·rw[List.getElem?_append_right (by simpa using n)]at d;rw[Ez]at d
    simp_all
  have F:vs[i]?=ae v:=by
   unfold start at d;rw[Fy (by simpa using n),Am]at d;cases e:vs[i]? with
   |none=>rw[e]at d;cases d
   |some a=>rw[e]at d;cases d;rfl
  obtain⟨u,B,C⟩:=r.get F;have m:ps[i]?=ae y:=by
   rw[<-S.pre,List.getElem?_take_of_lt ⋯];trivial
  have l:ps.Nodup:=by rw[<-S.pre];exact S.nd.sublist (List.take_sublist _ _)
  refine⟨u,C,?_⟩;rcases S.par y (A0 m)with k|k
  ·exact .inl ⟨k,vn l m B k⟩
  ·obtain⟨c,e⟩:=yM k;refine .inr ⟨.inl k,c,e,?_⟩;have q:=x.cell y c e;rw[DD l m B (by show scope.names.lookup y≠_;rw[k];decide)]at q;exact q
 ·exact e0.hok.fresh (Gn (x.above y c (Fu h)))
 ·unfold start;show _=N.length;rw[An,Ab,List.length_replicate];omega
theorem NO{CX:gM}{P:A3}{w:Bi}{K:Ag}{mg:Str->Option Af}{base:Heap}{k:Nat}{f:A'}{name qual:Str}{params:Arguments}{body:List Stmt}{scope:E9}{dV kV doc pm n_ ct oc:Af}{an od:Option A'}
  {osl:Array (Option Af)} {N ps:List Str} {sp:Sp} (lk:K.lookup f=ae ⟨oc,od,.func (Fo name qual params body scope dV kV doc pm an n_ ct),osl⟩) (r_:PySem.W.codeIn K n_ qual=ah) (S:FnScope N ps scope)
  (len:∀vs H Q E,sp vs H Q E->vs.length=ps.length)
  (hbody:∀(A:Bq)(outer:List Env)(s:Ai)(H:Hp)(vs:List V)(Q:VK)(E:XK),Room k (A.deeper (envOfC qual scope s.heap.objs.size f n_))->sp vs H Q E->
   ∃t,PSs (b6 CX P w K mg base N qual scope f n_ A outer s H E) body t/\t {nx:=λ_ H'=>Q .non H',rt:=Q} (start N vs) H):
  FnOk P w K mg base CX (k+1) f (Fo name qual params body scope dV kV doc pm an n_ ct) ps sp:=by
 refine⟨len,λA outer s H G T vs Q E p h Y r i=>?_⟩;have D:=h.mod.kin.keeps λb o e=>(h.bs b o e).1;have d:∀y∈ps.zip T,scope.names.lookup y.1=ae .local\/(scope.names.lookup y.1=ae .cell/\((cellsFrom (s.heap.objs.size+1) scope.names []).lookup y.1).isSome=ah):=λ⟨n,v⟩ Z=>by
  rcases S.par n (F5 Z).1 with q|q
  ·exact .inl q
  ·exact .inr ⟨q,PySem.W.cellsFrom_some _ _ _ (.inl q)⟩
 refine codeAny_call_function p.depth (D _ _ lk) rfl S.co S.gen rfl (PySem.W.codeRec_of D r_) (Y _ _ _ _ (wpAny_newFunctionEnv_cells S.kind d λenv M L x=>?_));subst M;refine⟨(h.mod.nolimit.keeps λb o e=>(h.bs b o e).1).keeps x.toInCall.keep,codeAny_func ?_⟩;obtain⟨t,R,U⟩:=hbody A outer s H vs Q E (p.deeper _) i;have I:Inv (b6 CX P w K mg base N qual scope f n_ A outer s H E) [] _ H L:=MT S p.hd h (len _ _ _ _ i) r x;refine C9 (R [] L _ H _ I U) (λfl z g=>?_) λe z g=>g;have j:∀{l:St}{H':Hp}{v:V}{u:Af},Inv (b6 CX P w K mg base N qual scope f n_ A outer s H E) [] l H' z->RelV v u->Q v H'->CE outer P w H s Q u z:=
  λ{l H' v u} J m q=>⟨v,H',J.os,J.bare,J.base,J.hok,m,q⟩
 cases fl with
 |ret u=>
  obtain⟨v,l,H',J,m,q⟩:=g;exact j J m q
 |next=>
  obtain⟨l,H',J,q⟩:=g;exact j (v:=V.non) J rfl q
 |brk=>
  obtain⟨_,_,_,q⟩:=g;exact False.elim q
 |cont=>
  obtain⟨_,_,_,q⟩:=g;exact False.elim q
section
variable{X:Cx}{x:Str}{p pos:Pos}{e:Expr}{es:List Expr}{t:TA}{id T:String}{r:List V->Hp->VK->Prop}
def d3(r:List V->Hp->VK->Prop)(t:TA):TE:=λσ H Q=>t σ H λvs H1=>r vs H1 Q
theorem gp(hc:CallR X (.builtin id) r)(hg:Gl X x)(hm:X.mg x=af)(hv:Bz x=ae (.builtin id))(ha:PA X (e::es) t)(hn:x≠"__name__":=by decide)(hdb:(x==("__debug__":Str))=ai:=by decide)
  (he:As (e::es) X.env=(ai,eval e X.env)::As es X.env:=by rfl) (q_:(Cw pos (As es X.env)).any (·.1)=ai:=by rfl):PE X (.Call (.Name x p) (e::es) [] pos) (d3 r t):=λi_ s σ H Q I h=>wpAny_Call_Name_kw (ll I hg hm hv (PyProof.Rows.callWith_builtin1 (aL (ha pos i_ s σ H _ I h) λus f u=>by obtain⟨d,i,c,g,b⟩:=u;exact hc i_ f σ i d us Q c g b) he q_) hn hdb)
theorem mE(hc:CallR X (.type T) r)(hg:Gl X x)(hm:X.mg x=af)(hv:Bz x=ae (.type T))(ha:PA X (e::es) t)(hn:x≠"__name__":=by decide)(hdb:(x==("__debug__":Str))=ai:=by decide)
  (he:As (e::es) X.env=(ai,eval e X.env)::As es X.env:=by rfl) (q_:(Cw pos (As es X.env)).any (·.1)=ai:=by rfl):PE X (.Call (.Name x p) (e::es) [] pos) (d3 r t):=λi_ s σ H Q I h=>wpAny_Call_Name_kw (ll I hg hm hv (E2 (aL (ha pos i_ s σ H _ I h) λus f u=>by obtain⟨d,i,c,g,b⟩:=u;exact hc i_ f σ i d us Q c g b) he q_) hn hdb)
end
end L2
namespace HT
open PySem PyProof.Rows
section
variable{prog:A3}{w:Bi}{A:Bq}{E:Af->Ai->Prop}{s:Ai}
theorem cat_tup{t b:A'}{vs ws:List Af}{Q:Af->Ai->Prop}(ht:IsTup s.heap t vs.toArray)(hb:IsTup s.heap b ws.toArray)(hv:vs≠[])
  (h1:ws=[]->Q (.ref t) s) (h2:ws≠[]->Q (.ref s.heap.objs.size) {s with heap:=s.heap.push {cls:=.type "tuple",data:=.seq (vs++ws).toArray}})
  (hsz:vs.length+ws.length<=Ay):A6 (A9 prog w) A (E8 .Add (.ref t) (.ref b)) Q E s:=by
 obtain⟨⟨cls,j,_,l⟩,h,k,n,m⟩:=id ht;obtain⟨⟨_,g,_,f⟩,a,c,o,d⟩:=id hb;simp only at k m c d;subst k m c d;have e:vs.toArray++ws.toArray=(vs++ws).toArray:=by simp
 by_cases i:ws=[]
 ·exact concat_meets ⟨_,h,rfl⟩ ⟨_,a,rfl⟩ noFill_tuple_add seq_tuple_add F8 F4 (Fv _ _)
   (tuple_addW1 t b vs.toArray ws.toArray n o j g l f (by simpa using hv) (by simp[i])) ⟨h,a,h1 i⟩
 ·refine concat_meets ⟨_,h,rfl⟩ ⟨_,a,rfl⟩ noFill_tuple_add seq_tuple_add F8 F4 (Fv _ _)
   (tuple_addW2 t b vs.toArray ws.toArray n o j g l f (by simpa using hv) (by simpa using i) ⋯) ⟨h,a,?_⟩
  rw[e];exact h2 i
def sIx(n d:Nat):Option Int->Nat
 |none=>d
 |some v=>if v < 0 then(v+(n:Int)).toNat else min v.toNat n
theorem sIx_none(n d:Nat):sIx n d af=d:=rfl
theorem sIx_nat(n d k:Nat):sIx n d (ae (k:Int))=min k n:=by
 rfl
theorem SJ(n d:Nat)(hd:d<=n)(o:Option Int):sIx n d o<=n:=by
 cases o with
 |none=>exact hd
 |some v=>
  show(if v < 0 then(v+n).toNat else min v.toNat n)<=n;by_cases a:v < 0
  ·rw[b_ a];omega
  ·rw[a_ a];exact Nat.min_le_right _ _
theorem EC(v:Int)(n d:Nat):(if v < 0 then max (v+(n:Int)) 0 else min v (n:Int))=((sIx n d (ae v):Nat):Int):=by
 show(if v < 0 then max _ 0 else min v _)=(((if v < 0 then(v+n).toNat else min v.toNat n):Nat):Int);by_cases a:v < 0
 ·simp only[b_ a];omega
 ·simp only[a_ a];omega
theorem IX(lo hi:Option Int)(n:Nat):G0 lo hi 1 (n:Int)=(((sIx n 0 lo:Nat):Int),((sIx n n hi:Nat):Int)):=by
 have a:¬((1:Int) < 0):=by omega
 unfold G0;refine Prod.ext ?_ ?_
 ·cases lo with
  |none=>rfl
  |some v=>exact EC v n 0
 ·cases hi with
  |none=>rfl
  |some v=>exact EC v n n
theorem FC(i j:Nat):Gz (i:Int) (j:Int) 1=j-i:=by
 unfold Gz;have a:(1:Int) > 0:=by omega
 simp
 grind
theorem zB{v:Af}{o:Option Int}{Q:Option Int->Ai->Prop}(p:IsPart v o)(h:Q o s):A6 (A9 prog w) A (Builtin.Slice.slicePartIndex v) Q E s:=by
 cases p with
 |none=>exact slicePart_none h
 |int i t=>exact slicePart_int h
theorem yZ{sl:A'}{vl vu:Af}{lo hi:Option Int}{n:Nat}{Q:Int×Int×Nat->Ai->Prop}(hs:s.heap.IsSliceOf sl vl vu .none)(pl:IsPart vl lo)(pu:IsPart vu hi)
  (h:Q (((sIx n 0 lo:Nat):Int),1,sIx n n hi-sIx n 0 lo) s):A6 (A9 prog w) A (Builtin.Slice.sliceApplied (.ref sl) (pure (n:Int))) Q E s:=by
 obtain⟨d,b,c,a⟩:=id hs;refine Aa (Aa (Dn b a (x:=vl) rfl (Aa (Dn b a (x:=vu) rfl (Aa (Dn b a rfl (Aj (Aa (slicePart_none ?_)))))))));refine Aa (zB pl (Aa (zB pu (Aa (Aj ?_)))));show A6 _ _ (match G0 lo hi 1 (n:Int)with|(lo,hi)=>pure (lo,(1:Int),Gz lo hi 1)) _ _ s;rw[IX lo hi n];show A6 _ _ (pure _) _ _ s;rw[FC];exact Aj h
theorem Ld(xs:Array Af)(i k:Nat):((Be k).filterMap λ(m:Nat)=>xs[((i:Int)+(m:Int)*1).toNat]?).toArray=((xs.toList.drop i).take k).toArray:=by
 have e:(λ(m:Nat)=>xs[(i+(m:Int)*1).toNat]?)=λm=>xs[i+m]?:=by
  funext m
  have:(i+(m:Int)*1).toNat=i+m:=by omega
  rw[this]
 rw[e];have:=pick_run xs i k;rw[List.filterMap_map]at this;have a:((λx=>xs[x]?) ∘ λx=>i+x)=λm=>xs[i+m]?:=rfl;rw[a]at this;rw[this]
theorem getItem_tuple_cut{t sl:A'}{items:Array Af}{vl vu:Af}{lo hi:Option Int}{Q:Af->Ai->Prop}(ht:IsTup s.heap t items)(hs:s.heap.IsSliceOf sl vl vu .none)(pl:IsPart vl lo)(pu:IsPart vu hi)
  (hw:¬(sIx items.size 0 lo=0/\sIx items.size items.size hi=items.size))
  (h:Q (.ref s.heap.objs.size) {s with heap:=s.heap.push {cls:=.type "tuple",data:=.seq ((items.toList.drop (sIx items.size 0 lo)).take (sIx items.size items.size hi-sIx items.size 0 lo)).toArray}})
  (hsz:items.size<=Ay):A6 (A9 prog w) A (getItem (.ref t) (.ref sl)) Q E s:=by
 have a:=by
  show((items.toList.drop (sIx items.size 0 lo)).take (sIx items.size items.size hi-sIx items.size 0 lo)).toArray.size<=Ay;rw[Bb,Ey,D3,Bo];omega
 obtain⟨f,e,c,g⟩:=id hs;have d:s.TypeIs (.ref sl) "slice":=⟨f,e,c⟩;unfold getItem
 try with_reducible refine Cc ?_
 first|refine Aa _|skip
 refine Aa (wpAny_sequenceKey ht.typeIs ∎ ?_);refine Aa (Bv ht.typeIs Ej
  (B8 Ej ht.typeIs entry_tuple_getitem ?_ (args_tuple_getitem _ _)))
 show A6 _ _ (Gs _>>=_) _ _ s;refine Aa (tupleItemsOf_ ht (Aa (Gx d ?_)));refine Aa (yZ hs pl pu ?_);have b:¬((((sIx items.size 0 lo:Nat):Int)==0&&(1:Int)==1&&(sIx items.size items.size hi-sIx items.size 0 lo)==items.size)=ah):=by
  intro q;rw[Bj,Bj]at q;have i:=eq_of_beq q.1.1;simp_all
 show A6 _ _ (if _=ah then _ else _) _ _ s;rw[a_ b,Ld]
 first
  |exact Aa _
  |exact Aa (B7 (Aa (Aj (Aj ⟨_,rfl,Aj h⟩))) a)
  |exact Aa _
  |exact Aa _
end
end HT
namespace L2
open PySem PySem.Spec PyProof.Rows
abbrev TO:=St->Hp->(Option Int->Hp->Prop)->Prop
def PO(X:Cx)(e:Option Expr)(t:TO):Prop:=
 ∀(i_:List (A'×Obj))(s:Ai)(σ:St)(H:Hp)(Q:Option Int->Hp->Prop),Inv X i_ σ H s->t σ H Q->
  A6 (A9 X.prog X.w) X.A (evalPart e X.env) (λu s'=>∃o H',Inv X i_ σ H' s'/\IsPart u o/\Q o H') X.xe s
def AJ:TO:=λ_ H Q=>Q af H
def v8(t:TE):TO:=λσ H Q=>t σ H λx H1=>∃i,x=.int i/\Q (ae i) H1
section
variable{X:Cx}{e:Expr}{te:TE}{lo hi:Option Expr}{tl th:TO}{pos p2:Pos}
theorem wF:PO X af AJ:=λi_ s σ H Q I h=>Aj ⟨_,H,I,.none,h⟩
theorem v5(h:PE X e te):PO X (ae e) (v8 te):=by
 intro a s σ H Q I d;refine aL (h a s σ H _ I d) λu j u=>?_;obtain⟨x,g,c,f,b⟩:=u;obtain⟨i,rfl,q⟩:=b;obtain⟨t,rfl⟩:=f;exact⟨_,g,c,.int i t,q⟩
def SlR(X:Cx)(r:V->Option Int->Option Int->Hp->VK->Prop):Prop:=
 ∀(i_:List (A'×Obj))(s:Ai)(σ:St)(H:Hp)(x:V)(v vl vu:Af)(lo hi:Option Int)(sl:A')(Q:VK),Inv X i_ σ H s->RelV x v->s.heap.IsSliceOf sl vl vu .none->IsPart vl lo->IsPart vu hi->r x lo hi H Q->
  ∃T id,typeLookup (.type T) "__getitem__"=pure (ae (.builtin id))/\s.TypeIs v T/\A6 (A9 X.prog X.w) X.A (getItem v (.ref sl)) (EP X i_ σ Q) X.xe s
theorem SlR.or{r r':V->Option Int->Option Int->Hp->VK->Prop}(h:SlR X r)(h':SlR X r'):SlR X (λx lo hi H Q=>r x lo hi H Q\/r' x lo hi H Q):=by
 intro a s σ H x v g c lo hi i Q I b f d e q;rcases q with q|q
 ·exact h a s σ H x v g c lo hi i Q I b f d e q
 ·exact h' a s σ H x v g c lo hi i Q I b f d e q
def zD(r:V->Option Int->Option Int->Hp->VK->Prop)(te:TE)(tl th:TO):TE:=λσ H Q=>te σ H λx H1=>tl σ H1 λl H2=>th σ H2 λu H3=>r x l u H3 Q
theorem DH{r:V->Option Int->Option Int->Hp->VK->Prop}(hr:SlR X r)(he:PE X e te)(hl:PO X lo tl)(hu:PO X hi th):PE X (.Subscript e (.Slice lo hi af p2) pos) (zD r te tl th):=by
 intro a s σ H Q I h;refine Subscript_ (aL (he a s σ H _ I h) λv G ⟨x,z,B,E,p⟩=>wpAny_Slice (aL (hl a G σ z _ B p) λvl C ⟨l,t,j,y,n⟩=>aL (hu a C σ t _ j n) λvu d b=>?_));obtain⟨u,f,A,D,J⟩:=b;refine Aj ?_;have o:Inv X a σ f {d with heap:=d.heap.push {cls:=.type "slice",data:=.fields #[vl,vu,.none]}}:=A.kept λb K q=>Ae _ q;obtain⟨T,L,k,w,m⟩:=hr a {d with heap:=d.heap.push {cls:=.type "slice",data:=.fields #[vl,vu,.none]}} σ f x v vl vu l u d.heap.objs.size Q o E (Heap.IsSliceOf.new ..) y D J;exact tail_any w k m (by with_unfolding_all rfl)
def fo(xs:List V)(lo hi:Option Int):List V:=(xs.drop (HT.sIx xs.length 0 lo)).take (HT.sIx xs.length xs.length hi-HT.sIx xs.length 0 lo)
theorem uH(xs:List V)(lo hi:Option Int):(fo xs lo hi).length<=xs.length:=by
 unfold fo;rw[Ey,D3];omega
def nL(K:Ag):V->Option Int->Option Int->Hp->VK->Prop:=λx lo hi H Q=>∃a xs,x=.ref a/\SqT K H a xs /\
 ¬(HT.sIx xs.length 0 lo=0/\HT.sIx xs.length xs.length hi=xs.length)/\∀p,H p=af->Q (.ref p) (upd H p (.tup (fo xs lo hi)))
theorem sl_tup:SlR X (nL X.K):=by
 intro g s σ H x v y t p i z Q I j o k m h;obtain⟨a,f,rfl,n,u,q⟩:=h;cases j;obtain⟨d,r,e,l⟩:=I.tuple n;have c:d.toArray.size=f.length:=r.length.symm;refine⟨_,_,PyProof.Rows.slot_tuple_getitem.lookup,e.typeIs,HT.getItem_tuple_cut e o k m (by rw[c];omega) ?_ (by simp_all)⟩;rw[c];refine⟨.ref s.heap.objs.size,_,I.laid (λb w q=>Ae _ q) (Al _) ?_,rfl,q _ (I.hok.fresh (Al _))⟩;exact⟨A5 (uH f p i) l,_,(r.drop _).take _,IsTupP.new _ _⟩
def z7(K:Ag):R2:=λx y H Q=>∃a b xs ys,x=.ref a/\y=.ref b/\SqT K H a xs/\SqT K H b ys/\xs≠[]/\xs.length+ys.length<=Ay /\
 (ys=[]->Q (.ref a) H)/\(ys≠[]->∀p,H p=af->Q (.ref p) (upd H p (.tup (xs++ys))))
theorem Vals.nil_iff{xs:List V}{us:List Af}(r:Vals xs us):us=[]↔xs=[]:=by
 cases r with
 |nil=>simp
 |cons _ _=>simp
theorem op_catT:OpR X (E8 .Add) (z7 X.K):=by
 intro f s σ H x y v u Q I k m h;obtain⟨a,b,A,C,rfl,rfl,t,o,n,l,j,i⟩:=h;cases k;cases m;obtain⟨p,d,g,_⟩:=I.tuple t;obtain⟨e,c,r,_⟩:=I.tuple o;refine HT.cat_tup g r (λz=>n (d.nil_iff.mp z)) (λz=>⟨.ref a,H,I,rfl,j (c.nil_iff.mp z)⟩) (λz=>⟨.ref s.heap.objs.size,_,I.laid (λb B q=>Ae _ q) (Al _) ?_,rfl,i (λw=>z (c.nil_iff.mpr w)) _ (I.hok.fresh (Al _))⟩) (by rw[<-d.length,<-c.length];omega);exact⟨by rw[An];exact l,_,d.append c,IsTupP.new _ _⟩
end
def iy(n:Nat)(i:Int):Option Nat:=if 0<=i then(if i < n then ae i.toNat else af)else if -(n:Int)<=i then ae (i+n).toNat else af
def cx{α:Type}(xs:List α)(i:Int):Option α:=(iy xs.length i).bind λj=>xs[j]?
theorem vV{n:Nat}{i:Int}{j:Nat}(h:iy n i=ae j):seqIndex? i n=ae j/\j < n/\-(n:Int)<=i/\i < n:=by
 unfold iy at h;by_cases b:0<=i
 ·rw[b_ b]at h;by_cases a:i < n
  ·rw[b_ a]at h;have e:=Bw h;exact⟨by rw[seqIndex_of b a,e],by grind⟩
  ·rw[a_ a]at h;cases h
 ·rw[a_ b]at h;by_cases a:-n<=i
  ·rw[b_ a]at h;have e:=Bw h;exact⟨by rw[seqIndex_neg ⋯ a,e],by omega⟩
  ·rw[a_ a]at h;cases h
theorem uT{α:Type}{xs:List α}{i:Int}{v:α}(h:cx xs i=ae v):∃j,seqIndex? i xs.length=ae j/\xs[j]?=ae v/\j < xs.length/\-(xs.length:Int)<=i/\i < xs.length:=by
 unfold cx at h;cases e:iy xs.length i with
 |none=>rw[e]at h;cases h
 |some j=>
  rw[e]at h;obtain⟨f,a,b,c⟩:=vV e;exact⟨j,f,h,a,b,c⟩
theorem d7{α:Type}{xs:List α}{j:Nat}{v:α}(h:xs[j]?=ae v):cx xs (j:Int)=ae v:=by
 have b:=(Ar.mp h).1;have e:iy xs.length j=ae j:=by
  unfold iy;rw[b_ ⋯,b_ ⋯];simp
 unfold cx;rw[e];exact h
def oP(b:Expr):Prop:=∀o i,subscripted b ai o i=operate [o,i] (getItem o i)
def IxR(X:Cx)(r:R2):Prop:=
 ∀(value slice:Expr)(i_:List (A'×Obj))(s:Ai)(σ:St)(H:Hp)(x y:V)(v u:Af)(Q:VK),Inv X i_ σ H s->RelV x v->RelV y u->r x y H Q->
  subscripted slice ai v u=operate [v,u] (getItem v u)->A6 (A9 X.prog X.w) X.A (subscriptTail value slice v u) (EP X i_ σ Q) X.xe s
def uc(X:Cx)(id:String)(r:V->List V->Hp->VK->Prop):Prop:=
 ∀(i_:List (A'×Obj))(s:Ai)(σ:St)(H:Hp)(x:V)(xs:List V)(v:Af)(us:List Af)(Q:VK),Inv X i_ σ H s->RelV x v->Vals xs us->r x xs H Q->
  A6 (A9 X.prog X.w) X.A (call (.builtin id) (v::us)) (EP X i_ σ Q) X.xe s
section
variable{X:Cx}{a b:Expr}{ta tb:TE}{pos:Pos}
theorem IxR.or{r r':R2}(h:IxR X r)(h':IxR X r'):IxR X (λx y H Q=>r x y H Q\/r' x y H Q):=by
 intro b a c s σ H x y v u Q I e d q f;rcases q with q|q
 ·exact h b a c s σ H x y v u Q I e d q f
 ·exact h' b a c s σ H x y v u Q I e d q f
theorem f7{r:R2}(hr:IxR X r)(ha:PE X a ta)(hb:PE X b tb)(hs:oP b):PE X (.Subscript a b pos) (cY r ta tb):=λi_ s σ H Q I h=>Subscript_ (jD ha hb I h λv u f x y e g i d q=>hr a b i_ f σ e x y v u Q g i d q (hs _ _))
def lZ(K:Ag):R2:=λx y H Q=>∃p xs i v,x=.ref p/\y=.int i/\SqL K H p xs/\cx xs i=ae v/\Q v H
def mW(K:Ag):R2:=λx y H Q=>∃p xs i v,x=.ref p/\y=.int i/\SqT K H p xs/\cx xs i=ae v/\Q v H
def nk:R2:=λx y H Q=>∃z i c,x=.str z/\y=.int i/\z.length<=Ay/\cx z.cps.toList i=ae c/\Q (.str ⟨#[c]⟩) H
theorem ix_list:IxR X (lZ X.K):=by
 intro k g b s σ H x y v u Q I E G h o;obtain⟨p,O,i,z,rfl,rfl,F,C,q⟩:=h;cases E;obtain⟨t,rfl⟩:=G;obtain⟨f,r,e,M⟩:=I.list F;obtain⟨j,m,A,L,D,B⟩:=uT C;obtain⟨w,n,d⟩:=r.get A;have J:=r.length;have N:=kO;have a:EP X b σ Q w s:=⟨z,H,I,d,q⟩;by_cases l:0<=i
 ·have c:i.toNat=j:=by
   rw[seqIndex_of l B]at m;simp_all
  exact item_listR e.isList l ⋯ (by rw[c];simpa using n) a o
 ·have c:(i+(f.toArray.size:Int)).toNat=j:=by
   rw[seqIndex_neg ⋯ D]at m;simp_all
  exact subscriptTail_builtinR e.isList.typeIs slot_list_getitem.lookup
   (wpAny_getItem_list_neg e.isList ⋯ (by rw[Bb]<;>omega) ⋯ (by rw[c];simpa using n) ⟨rfl,a⟩) o
theorem ix_tup:IxR X (mW X.K):=by
 intro e d a s σ H x y v u Q I l n h B;obtain⟨p,L,i,z,rfl,rfl,m,k,q⟩:=h;cases l;obtain⟨t,rfl⟩:=n;obtain⟨A,r,f,G⟩:=I.tuple m;obtain⟨j,F,g,D,E,C⟩:=uT k;obtain⟨w,o,b⟩:=r.get g;have J:=kO;have c:EP X a σ Q w s:=⟨z,H,I,b,q⟩;exact subscriptTail_builtinR f.typeIs slot_tuple_getitem.lookup
  (getItem_tuple f ⋯ ⋯ (by rw[Bb,<-r.length];omega) (by simpa using o) ⟨rfl,c⟩) B
theorem JS:IxR X nk:=by
 intro b a e s σ H x y v u Q I n o h r;obtain⟨z,i,c,rfl,rfl,B,l,q⟩:=h;obtain⟨t,rfl⟩:=n;obtain⟨C,rfl⟩:=o;obtain⟨j,d,f,A,m,g⟩:=uT l;have k:z.cps.toList.length=z.length:=by rfl
 rw[k]at d m g;have D:=kO;exact tail_any (typeIs_str s z t) slot_str_getitem.lookup (getItem_str (by
  have w:decide (i < -(2 ^ 63:Int))=ai:=d_ ⋯;have p:decide (i ≥ 2 ^ 63)=ai:=d_ ⋯;rw[w,p,Bool.or_false]) (by rw[d];simpa using f) ⟨.str _,H,I.tok _,⟨_,rfl⟩,q⟩) r
def jC(K:Ag):R2:=λx y H Q=>lZ K x y H Q\/mW K x y H Q\/nk x y H Q
theorem rS:IxR X (jC X.K):=ix_list.or (ix_tup.or JS)
theorem O3(i':List Af)(n j:Nat)(u:Af):Dr (·.setIfInBounds j u) {cls:=.type "list",data:=.seq i'.toArray n}={ cls:=.type "list",data:=.seq (i'.set j u).toArray n}:=by
 simp[Dr]
theorem Inv.lst{i_:List (A'×Obj)}{σ:St}{H:Hp}{s:Ai}{p:A'}{xs:List V}(I:Inv X i_ σ H s)(h:H p=ae (.lst xs)):
  ∃(i':List Af)(n:Nat),Vals xs i'/\s.heap.get? p=ae {cls:=.type "list",data:=.seq i'.toArray n}/\xs.length<=Ay:=by
 obtain⟨z,i',n,r,e⟩:=I.hok p _ h;exact⟨i',n,r,e,z⟩
theorem Inv.lstUpd{i_:List (A'×Obj)}{σ:St}{H:Hp}{s:Ai}{p:A'}{xs ys:List V}{i' its':List Af}{n n':Nat}{f:Obj->Obj}(I:Inv X i_ σ H s)(h:H p=ae (.lst xs))
  (ho:s.heap.get? p=ae {cls:=.type "list",data:=.seq i'.toArray n}) (hf:f {cls:=.type "list",data:=.seq i'.toArray n}={ cls:=.type "list",data:=.seq its'.toArray n'}) (r:Vals ys its') (hz:ys.length<=Ay) (t:Nat):
  Inv X i_ σ (upd H p (.lst ys)) {s with heap:=s.heap.update p f,toks:=t}:=by
 have e:(s.heap.update p f).get? p=ae {cls:=.type "list",data:=.seq its'.toArray n'}:=by
  rw[By f ho (by rw[hf]<;>rfl),hf]
 refine I.write (by rw[h];trivial) (.inl rfl) (λb u a q=>(C6 _ _ (Ne.symm a)).trans q) ⟨_,e⟩ ?_;exact⟨hz,_,n',r,e⟩
def qy:V->V->V->Hp->(Hp->Prop)->Prop:=λo i v H Q=>∃p xs k j,o=.ref p/\i=.int k/\H p=ae (.lst xs)/\iy xs.length k=ae j/\Q (upd H p (.lst (xs.set j v)))
theorem nu:lV X qy:=by
 intro m s σ H o i v J F u Q I B z A h;obtain⟨p,G,k,j,rfl,rfl,e,y,q⟩:=h;cases B;obtain⟨t,rfl⟩:=z;obtain⟨a,n,r,c,D⟩:=I.lst e;obtain⟨g,C,w,x⟩:=vV y;have d:=r.length;have E:=kO;have l:=
  I.lstUpd e c (O3 a n j u) (r.set A j) (by rw[Cb];omega) s.toks
 by_cases f:0<=k
 ·have b:k.toNat=j:=by
   rw[seqIndex_of f x]at g;simp_all
  exact PySem.W.ki_setAt c f ⋯ (by rw[Bb,<-d];omega) (by rw[b];exact⟨_,l,q⟩)
 ·have b:(k+(a.toArray.size:Int)).toNat=j:=by
   rw[seqIndex_neg ⋯ w]at g;simp_all
  exact PySem.W.ki_setBack c ⋯ (by rw[Bb,<-d];omega) ⋯ (by rw[b];exact⟨_,l,q⟩)
theorem FU(lo hi:Option Int)(n:Nat):(Ha lo hi af n).1=((HT.sIx n 0 lo:Nat):Int)/\(Ha lo hi af n).2.1=((HT.sIx n n hi:Nat):Int)/\(Ha lo hi af n).2.2=1:=by
 refine⟨?_,?_,rfl⟩
 ·cases lo with
  |none=>simp[Ha,HT.sIx]
  |some i=>
   simp only[Ha,HT.sIx,Option.getD_none,show(1:Int) > 0 by decide,if_true];by_cases h:i < 0
   ·simp only[h,if_true]<;>omega
   ·simp only[h,if_false]<;>omega
 ·cases hi with
  |none=>simp[Ha,HT.sIx]
  |some i=>
   simp only[Ha,HT.sIx,Option.getD_none,show(1:Int) > 0 by decide,if_true];by_cases h:i < 0
   ·simp only[h,if_true]<;>omega
   ·simp only[h,if_false]<;>omega
theorem RY(i':List Af)(lo hi:Option Int):slicePick i'.toArray lo hi af=((i'.drop (HT.sIx i'.length 0 lo)).take (HT.sIx i'.length i'.length hi-HT.sIx i'.length 0 lo)).toArray:=by
 obtain⟨c,a,b⟩:=FU lo hi i'.toArray.size;unfold slicePick;rw[c,a,b];simp only[sliceRange_one,pick_run]<;>rfl
def sh(K:Ag):V->Option Int->Option Int->Hp->VK->Prop:=λx lo hi H Q=>∃a xs,x=.ref a/\SqL K H a xs/\∀p,H p=af->Q (.ref p) (upd H p (.lst (fo xs lo hi)))
theorem Lz:SlR X (sh X.K):=by
 intro e s σ H x v w t p f y Q I g o i k h;obtain⟨a,l,rfl,m,q⟩:=h;cases g;obtain⟨n,r,d,j⟩:=I.list m;have c:=r.length;refine⟨_,_,slot_list_getitem.lookup,d.isList.typeIs,wpAny_getItem_list_slice d.isList o i k .none (by simp) ?_ (by rw[Bb]<;>omega)⟩;rw[RY,<-c];refine⟨.ref s.heap.objs.size,_,I.laid (λb u q=>Ae _ q) (Al _) ?_,rfl,q _ (I.hok.fresh (Al _))⟩;exact⟨A5 (uH l p f) j,_,0,(r.drop _).take _,Ax _ rfl⟩
def gC:V->Bool
 |.non=>ah
 |.bl _=>ah
 |.int _=>ah
 |.str _=>ah
 |_=>ai
def gH:V->V->Bool
 |.non,.non=>ah
 |.bl a,.bl b=>a==b
 |.bl a,.int b=>(if a then 1 else 0)==b
 |.int a,.bl b=>a==(if b then 1 else 0)
 |.int a,.int b=>a==b
 |.str a,.str b=>a==b
 |_,_=>ai
theorem BA{A:Bq}{s:Ai}{y x:V}{u v:Af}(ry:RelV y u)(rx:RelV x v)(fy:gC y=ah)(fx:gC x=ah):SeqAt.EqAt A s u v (gH y x):=by
 cases y with
 |non=>
  cases ry;cases x with
  |non=>cases rx;exact SeqAt.EqAt.same _
  |bl b=>cases rx;exact SeqAt.EqAt.none_bool b
  |int b=>obtain⟨t,rfl⟩:=rx;exact SeqAt.EqAt.none_int b t
  |str b=>obtain⟨t,rfl⟩:=rx;exact SeqAt.EqAt.none_str b t
  |_=>exact g_ (fx) Az
 |bl a=>
  cases ry;cases x with
  |non=>cases rx;exact SeqAt.EqAt.bool_none a
  |bl b=>cases rx;exact SeqAt.EqAt.bool_bool a b
  |int b=>obtain⟨t,rfl⟩:=rx;exact SeqAt.EqAt.bool_int a b t
  |str b=>obtain⟨t,rfl⟩:=rx;exact SeqAt.EqAt.bool_str a b t
  |_=>exact g_ (fx) Az
 |int a=>
  obtain⟨c,rfl⟩:=ry;cases x with
  |non=>cases rx;exact SeqAt.EqAt.int_none a c
  |bl b=>cases rx;exact SeqAt.EqAt.int_bool a c b
  |int b=>obtain⟨t,rfl⟩:=rx;exact SeqAt.EqAt.int_int a c b t
  |str b=>obtain⟨t,rfl⟩:=rx;exact SeqAt.EqAt.int_str a c b t
  |_=>exact g_ (fx) Az
 |str a=>
  obtain⟨c,rfl⟩:=ry;cases x with
  |non=>cases rx;exact SeqAt.EqAt.str_none a c
  |bl b=>cases rx;exact SeqAt.EqAt.str_bool a c b
  |int b=>obtain⟨t,rfl⟩:=rx;exact SeqAt.EqAt.str_int a c b t
  |str b=>obtain⟨t,rfl⟩:=rx;exact SeqAt.EqAt.str_str a c b t
  |_=>exact g_ (fx) Az
 |_=>exact g_ (fy) Az
def ke(x:V)(u:Af):Bool:=match u with
 |.none=>gH .non x
 |.bool b=>gH (.bl b) x
 |.int i _=>gH (.int i) x
 |.str z _=>gH (.str z) x
 |_=>ai
theorem AR{x y:V}{u:Af}(r:RelV y u)(f:gC y=ah):ke x u=gH y x:=by
 cases y with
 |non=>cases r;rfl
 |bl b=>cases r;rfl
 |int i=>obtain⟨t,rfl⟩:=r;rfl
 |str z=>obtain⟨t,rfl⟩:=r;rfl
 |_=>exact g_ (f) Az
theorem lX{x:V}:∀{xs:List V}{us:List Af},Vals xs us->xs.all gC=ah->us.any (ke x)=xs.any λy=>gH y x
 |_,_,.nil,_=>rfl
 |y::xs,u::us,.cons r t,f=>by
  rw[List.all_cons,Bj]at f;rw[Dj,Dj,AR r f.1,lX t f.2]
theorem mI{A:Bq}{s:Ai}{x:V}{v:Af}(rx:RelV x v)(fx:gC x=ah):∀{xs:List V}{us:List Af},Vals xs us->xs.all gC=ah->∀u∈us,SeqAt.EqAt A s u v (ke x u)
 |_,_,.nil,_=>λu a=>by trivial
 |y::xs,u::us,.cons r t,f=>λu' a=>by
  rw[List.all_cons,Bj]at f;rcases Av.mp a with rfl|a
  ·rw[AR r f.1];exact BA r rx f.1 fx
  ·exact mI rx fx t f.2 u' a
def pB(x:V)(xs:List V):Bool:=xs.any λy=>gH y x
def gc(K:Ag)(neg:Bool):R2:=λx y H Q=>∃p xs,y=.ref p/\(SqL K H p xs\/SqT K H p xs)/\gC x=ah/\xs.all gC=ah/\Q (.bl (if neg then !pB x xs else pB x xs)) H
theorem II:OpR X (B3 .In) (gc X.K ai):=by
 intro g s σ H x y v u Q I f j h;obtain⟨p,l,rfl,b,e,c,q⟩:=h;cases j;rcases b with b|b
 ·obtain⟨a,r,d,i⟩:=I.list b;refine SeqAt.in_listAt _ d.isList (λw k=>mI f e r c w (by simp_all)) ⟨.bl _,H,I,rfl,?_⟩;rw[show a.toArray.any _=a.any (ke x) by simp,lX r c];exact q
 ·obtain⟨a,r,d,i⟩:=I.tuple b;refine SeqAt.in_tupleAt _ d (λw k=>mI f e r c w (by simp_all)) ⟨.bl _,H,I,rfl,?_⟩;rw[show a.toArray.any _=a.any (ke x) by simp,lX r c];exact q
theorem LF:OpR X (B3 .NotIn) (gc X.K ah):=by
 intro g s σ H x y v u Q I f j h;obtain⟨p,l,rfl,b,e,c,q⟩:=h;cases j;rcases b with b|b
 ·obtain⟨a,r,d,i⟩:=I.list b;refine SeqAt.notIn_listAt _ d.isList (λw k=>mI f e r c w (by simp_all)) ⟨.bl _,H,I,rfl,?_⟩;rw[show a.toArray.any _=a.any (ke x) by simp,lX r c];exact q
 ·obtain⟨a,r,d,i⟩:=I.tuple b;refine SeqAt.notIn_tupleAt _ d (λw k=>mI f e r c w (by simp_all)) ⟨.bl _,H,I,rfl,?_⟩;rw[show a.toArray.any _=a.any (ke x) by simp,lX r c];exact q
theorem o4:CallR X (.builtin "len") (λxs H Q=>∃p ys,xs=[.ref p]/\(SqL X.K H p ys\/SqT X.K H p ys)/\Q (.int ys.length) H):=by
 intro f s σ H xs j Q I r h;obtain⟨p,ys,rfl,b,q⟩:=h;obtain⟨u,rfl,g⟩:=eL r;cases g;have k:=kO;rcases b with b|b
 ·obtain⟨e,d,c,i⟩:=I.list b;have a:=d.length;exact Calls.call_len_list c.isList (by simp only[Bb]<;>omega) ⟨.int ys.length,H,I.tok _,⟨_,by rw[Bb,a]⟩,q⟩
 ·obtain⟨e,d,c,i⟩:=I.tuple b;have a:=d.length;exact len_tuple c (by simp only[Bb]<;>omega) ⟨.int ys.length,H,I.tok _,⟨_,by rw[Bb,a]⟩,q⟩
theorem call_len_str:CallR X (.builtin "len") (λxs H Q=>∃z,xs=[.str z]/\z.length<=Ay/\Q (.int z.length) H):=by
 intro a s σ H xs c Q I r h;obtain⟨z,rfl,d,q⟩:=h;obtain⟨u,rfl,t,rfl⟩:=eL r;have b:=kO;exact len_str ⋯ ⟨.int z.length,H,I.tok _,⟨_,rfl⟩,q⟩
theorem CallR.or{f:Af}{r r':List V->Hp->VK->Prop}(h:CallR X f r)(h':CallR X f r'):CallR X f (λxs H Q=>r xs H Q\/r' xs H Q):=by
 intro a s σ H xs b Q I c q;rcases q with q|q
 ·exact h a s σ H xs b Q I c q
 ·exact h' a s σ H xs b Q I c q
theorem Ml:CallR X (.type "list") (λxs H Q=>∃p ys,xs=[.ref p]/\(SqL X.K H p ys\/SqT X.K H p ys)/\∀l,H l=af->Q (.ref l) (upd H l (.lst ys))):=by
 intro t s σ H xs D Q I r h;obtain⟨p,ys,rfl,j,q⟩:=h;obtain⟨u,rfl,C⟩:=eL r;cases C;have m:∀i',Vals ys i'->ys.length<=Ay->∀h' d,(∀b o',s.heap.get? b=ae o'->h'.get? b=ae o')->
   h'.get? s.heap.objs.size=ae {cls:=.type "list",dict:=af,data:=.seq i'.toArray d,slots:=#[]}->EP X t σ Q _ {s with heap:=h'}:=λi' c k h' d g e=>
  ⟨.ref s.heap.objs.size,_,I.laid g (Al _) (show ObjOk X.prog X.w _ h' _ (.lst ys)from⟨k,i',d,c,e⟩),rfl,q _ (I.hok.fresh (Al _))⟩
 rcases j with j|j
 ·obtain⟨i',c,y,k⟩:=I.list j;have i:=c.length;obtain⟨o,v,z,n,x⟩:=y.isList;exact call_list_seq p (.inl rfl) v z x (λh' d g e=>m i' c k h' d g e) (by simp<;>omega)
 ·obtain⟨i',c,y,k⟩:=I.tuple j;have i:=c.length;obtain⟨o,v,z,n,x⟩:=y;exact call_list_seq p (.inr rfl) v z x (λh' d g e=>m i' c k h' d g e) (by simp<;>omega)
theorem Kx:CallR X (.type "tuple") (λxs H Q=>∃p ys,xs=[.ref p]/\((SqL X.K H p ys/\∀l,H l=af->Q (.ref l) (upd H l (.tup ys)))\/(SqT X.K H p ys/\Q (.ref p) H))):=by
 intro a s σ H xs y Q I r h;obtain⟨p,ys,rfl,h⟩:=h;obtain⟨u,rfl,x⟩:=eL r;cases x;rcases h with⟨g,q⟩|⟨g,q⟩
 ·obtain⟨c,i,f,n⟩:=I.list g;have m:=i.length;refine call_tuple_list f.isList (λh' v=>?_) (by simp<;>omega);have t:Inv X a σ H {s with heap:=h'}:=I.kept v;have w:Inv X a σ (upd H h'.objs.size (.tup ys)) {s with heap:=h'.push {cls:=.type "tuple",data:=.seq c.toArray}}:=
   t.laid (λb o e=>Ae _ e) (Al _) (⟨n,c,i,IsTupP.new _ _⟩)
  exact⟨.ref h'.objs.size,_,w,rfl,q _ (t.hok.fresh (Al _))⟩
 ·obtain⟨c,i,f,n⟩:=I.tuple g;exact call_tuple_same f ⟨.ref p,H,I,rfl,q⟩
def qU(K:Ag)(T:String)(x:V)(H:Hp):Prop:=match x with
 |.str _=>T="str"
 |.int _=>T="int"
 |.ref p=>(T="list"/\∃xs,SqL K H p xs)\/(T="tuple"/\∃o,K.lookup p=ae o/\o.cls=.type "tuple"/\o.dict=af) \/
   (T="dict"/\((∃kvs,H p=ae (.dK kvs))\/∃kvs,H p=ae (.dT kvs)))\/(T="set"/\∃S n,H p=ae (.set S n))
 |_=>False
theorem wH{i_:List (A'×Obj)}{σ:St}{H:Hp}{s:Ai}{T:String}{x:V}{v:Af}(I:Inv X i_ σ H s)(r:RelV x v)(ty:qU X.K T x H):
  s.TypeIs v T/\∀a,v=.ref a->∃ob,s.heap.get? a=ae ob/\ob.dict=af:=by
 cases x with
 |str z=>
  obtain⟨t,rfl⟩:=r;cases(ty);exact⟨typeIs_str s z t,λ_ e=>nomatch e⟩
 |int i=>
  obtain⟨t,rfl⟩:=r;cases(ty);exact⟨typeIs_int s i t,λ_ e=>nomatch e⟩
 |ref p=>
  cases r;rcases ty with⟨rfl,w,l⟩|⟨rfl,o,b,u,g⟩|⟨rfl,b⟩|⟨rfl,S,n,b⟩
  ·obtain⟨q,_,j,_⟩:=I.list l;refine⟨j.isList.typeIs,λa e=>?_⟩;cases e;obtain⟨o,n,e,c,g,_⟩:=j;exact⟨o,e,g⟩
  ·refine⟨⟨o,I.kIn p o b,u⟩,λa e=>?_⟩;cases e;exact⟨o,I.kIn _ o b,g⟩
  ·have z:∃o,s.heap.get? p=ae o/\o.ExactDict:=by
    rcases b with⟨f,b⟩|⟨f,b⟩
    ·obtain⟨_,_,_,_,o,_,_,e,d,_⟩:=I.hok p _ b;exact⟨o,e,d⟩
    ·obtain⟨_,_,_,_,o,_,_,e,d,_⟩:=I.hok p _ b;exact⟨o,e,d⟩
   obtain⟨o,e,d⟩:=z;refine⟨⟨o,e,d.1⟩,λa h=>?_⟩;cases h;exact⟨o,e,d.2.1⟩
  ·obtain⟨o,_,_,_,e,d,_⟩:=I.hok p _ b;refine⟨⟨o,e,d.1⟩,λa h=>?_⟩;cases h;exact⟨o,e,d.2.1⟩
 |_=>exact False.elim ty
def kA(K:Ag)(T:String)(r:V->List V->Hp->VK->Prop)(to:TE):TE:=λσ H Q=>to σ H λx H1=>qU K T x H1/\r x [] H1 Q
def pI(K:Ag)(T:String)(r:V->List V->Hp->VK->Prop)(to:TE)(t:TA):TE:=λσ H Q=>to σ H λx H1=>qU K T x H1/\t σ H1 λxs H2=>r x xs H2 Q
variable{o e:Expr}{es:List Expr}{to:TE}{t:TA}{name:Str}{apos cpos:Pos}{T id:String}{r:V->List V->Hp->VK->Prop}
theorem DV(pa:PlainAttrs T)(slot:Slot T name id)(hty:typeOf (.builtin id)=pure (.type "method_descriptor"))(hm:uc X id r)(ho:PE X o to)
  (hbase:G7 o name X.env (eval o X.env)=eval o X.env:=by rfl) (hline:(apos.endLine==cpos.line)=ah:=by rfl):PE X (.Call (.Attribute o name apos) [] [] cpos) (kA X.K T r to):=by
 intro a s σ H Q I h;refine wpAny_Call_method0_late hbase hline (aL (ho a s σ H _ I h) λv g u=>?_);obtain⟨x,i,b,c,e,f⟩:=u;obtain⟨j,d⟩:=wH b c e;exact⟨T,id,pa,slot,hty,j,d,Calls.callWith_builtin rfl (PySem.evalArgs_none (hm a g σ i x [] v [] Q b c .nil f))⟩
theorem wD(pa:PlainAttrs T)(slot:Slot T name id)(hty:typeOf (.builtin id)=pure (.type "method_descriptor"))(hm:uc X id r)(ho:PE X o to)(ha:PA X (e::es) t)
  (hbase:G7 o name X.env (eval o X.env)=eval o X.env:=by rfl)
  (hfew:((Cw cpos (As (e::es) X.env)).all (λx=>!x.1)&&(backToKw cpos (keywordEach [] X.env)).all (λx=>x.1.isSome)
   && decide ((e::es).length+([]:List Keyword).length+(if ([]:List Keyword).isEmpty then 0 else 1) < 30))=ah:=by rfl)
  (hline:(apos.endLine==cpos.line)=ah:=by rfl) (hs:As (e::es) X.env=(ai,eval e X.env)::As es X.env:=by rfl) (hplain:(Cw cpos (As es X.env)).any (·.1)=ai:=by rfl):
  PE X (.Call (.Attribute o name apos) (e::es) [] cpos) (pI X.K T r to t):=by
 intro a s σ H Q I h;refine wpAny_Call_method_late hbase hfew hline rfl (aL (ho a s σ H _ I h) λv w y=>?_);obtain⟨x,m,b,c,p,j⟩:=y;obtain⟨n,f⟩:=wH b c p;refine⟨T,id,pa,slot,hty,n,f,?_⟩;have d:=ha cpos a w σ m _ b j;rw[hs]at d ⊢;exact Calls.callWith_builtin (by show(ai || (Cw cpos _).any _)=ai;rw[hplain]<;>rfl) (Calls.evalArgs_plain (aL d λus q z=>by obtain⟨l,k,g,u,i⟩:=z;exact hm a q σ k x l v us Q g c u i))
end
def tO(X:Cx)(id:String)(r:V->List V->Hp->VK->Prop):Prop:=
 ∀(i_:List (A'×Obj))(s:Ai)(σ:St)(H:Hp)(x:V)(xs:List V)(v:Af)(us:List Af)(Q:VK),Inv X i_ σ H s->RelV x v->Vals xs us->r x xs H Q->
  A6 (A9 X.prog X.w) X.A (call (.builtin id) (v::us)) (EP X i_ σ Q) X.xe s
theorem Vals.one:∀{x:V}{us:List Af},Vals [x] us->∃u,us=[u]/\RelV x u
 |_,_,.cons r .nil=>⟨_,rfl,r⟩
theorem Vals.zero:∀{us:List Af},Vals [] us->us=[]
 |_,.nil=>rfl
section
variable{X:Cx}{i_:List (A'×Obj)}{σ:St}{H:Hp}{s:Ai}{l b:A'}{xs ys zs:List V}
theorem Inv.lset{i' its':List Af}{n:Nat}{f:Array Af->Array Af}{t':Nat}(I:Inv X i_ σ H s)(hH:H l=ae (.lst xs))
  (e:s.heap.get? l=ae {cls:=.type "list",data:=.seq i'.toArray n}) (hf:f i'.toArray=its'.toArray) (hv:Vals ys its') (hz:ys.length<=Ay):
  Inv X i_ σ (upd H l (.lst ys)) {s with heap:=s.heap.update l (Dr f),toks:=t'}:=by
 have q:=PySem.IsL.update e f;rw[hf]at q;refine I.write (by rw[hH];trivial) (.inl rfl) (λb' u b a=>(C6 s.heap _ (Ne.symm b)).trans a) ⟨_,q⟩ ?_;exact⟨hz,_,_,hv,q⟩
theorem Inv.lnew{i':List Af}{t':Nat}(I:Inv X i_ σ H s)(hv:Vals ys i')(hz:ys.length<=Ay):
  Inv X i_ σ (upd H s.heap.objs.size (.lst ys)) {s with heap:=s.heap.push {cls:=.type "list",data:=.seq i'.toArray},toks:=t'}:=
 I.laid (λ_ _ q=>Ae _ q) (Al _) ⟨hz,i',0,hv,Ax _ rfl⟩
theorem Inv.fresh(I:Inv X i_ σ H s):H s.heap.objs.size=af:=I.hok.fresh (Al _)
theorem Inv.lstM(I:Inv X i_ σ H s)(hH:H l=ae (.lst xs)):xs.length<=Ay/\∃(i':List Af)(n:Nat),Vals xs i'/\xs.length=i'.length/\s.heap.get? l=ae {cls:=.type "list",data:=.seq i'.toArray n}:=by
 obtain⟨z,i',n,r,e⟩:=I.hok l _ hH;exact⟨z,i',n,r,r.length,e⟩
theorem Ik{n:Nat}(h:n<=Ay):Builtin.List.listTooLong n=ai:=d_ ⋯
end
section
variable{X:Cx}
def ub:V->List V->Hp->VK->Prop:=λx vs H Q=>∃l xs y,x=.ref l/\vs=[y]/\H l=ae (.lst xs)/\xs.length < Ay/\Q .non (upd H l (.lst (xs++[y])))
theorem xr:tO X "list.append" ub:=by
 intro c s σ H x j v k Q I d f h;obtain⟨l,o,y,rfl,rfl,b,m,q⟩:=h;cases d;obtain⟨u,rfl,g⟩:=f.one;obtain⟨z,a,n,r,i,e⟩:=I.lstM b;refine call_meets F.slot_list_append ⟨_,e,rfl⟩ F.entry_list_append (F.args_list_append_2 _ _) (PySem.list_append l a.toArray n u (by rw[Bb];omega)) ⟨e,⟨.non,_,I.lset b e (by simp) (r.append (.cons g .nil)) ?_,rfl,q⟩⟩;rw[An,A4];omega
def vT:V->List V->Hp->VK->Prop:=λx vs H Q=>∃l b xs zs,x=.ref l/\vs=[.ref b]/\H l=ae (.lst xs)/\H b=ae (.lst zs)/\xs.length+zs.length<=Ay/\Q .non (upd H l (.lst (xs++zs)))
theorem KZ:tO X "list.extend" vT:=by
 intro j s σ H x E v G Q I k m h;obtain⟨l,b,K,C,rfl,rfl,i,o,J,q⟩:=h;cases k;obtain⟨u,rfl,A⟩:=m.one;cases A;obtain⟨z,c,n,r,B,e⟩:=I.lstM i;obtain⟨D,a,p,y,t,w⟩:=I.lstM o;have g:c.toArray.size+a.toArray.size<=Ay:=by rw[Bb,Bb];omega
 have d:¬(!c.toArray.isEmpty&&Builtin.List.listTooLong (c.toArray.size+a.toArray.size))=ah:=by
  rw[Ik g];simp
 refine call_meets F.slot_list_extend ⟨_,e,rfl⟩ F.entry_list_extend (F.args_list_extend_2 _ _)
  (AutoSeq1.list_extend_list_list_0 l c.toArray n b a.toArray p d (by simp_all) ⋯) ⟨e,w,?_⟩
 refine⟨.non,_,I.lset i e (by simp) (r.append y) ?_,rfl,q⟩;rw[An];omega
def CG:V->List V->Hp->VK->Prop:=λx vs H Q=>∃l xs,x=.ref l/\vs=[]/\H l=ae (.lst xs)/\Q .non (upd H l (.lst []))
theorem JQ:tO X "list.clear" CG:=by
 intro c s σ H x j v i Q I g f h;obtain⟨l,m,rfl,rfl,d,q⟩:=h;cases g;have a:=f.zero;subst a;obtain⟨z,b,n,r,k,e⟩:=I.lstM d;exact call_meets F.slot_list_clear ⟨_,e,rfl⟩ F.entry_list_clear (F.args_list_clear_1 _) (AutoSeq1.list_clear_list_0 l b.toArray n (by rw[Bb];omega)) ⟨e,⟨.non,_,I.lset d e rfl .nil (A1 _),rfl,q⟩⟩
def ja:R2:=λx y H Q=>∃l b xs zs,x=.ref l/\y=.ref b/\H l=ae (.lst xs)/\H b=ae (.lst zs)/\xs.length+zs.length<=Ay/\∀p,H p=af->Q (.ref p) (upd H p (.lst (xs++zs)))
theorem wV:OpR X (E8 .Add) ja:=by
 intro d s σ H x y v u Q I f i h;obtain⟨l,b,D,w,rfl,rfl,o,g,C,q⟩:=h;cases f;cases i;obtain⟨z,c,n,r,t,e⟩:=I.lstM o;obtain⟨A,a,B,m,j,k⟩:=I.lstM g;refine PySem.P.add_list e k ?_ (by rw[Bb,Bb];omega);have p:c.toArray++a.toArray=(c++a).toArray:=by simp
 rw[p];exact⟨.ref _,_,I.lnew (r.append m) (by rw[An];omega),rfl,q _ I.fresh⟩
end
section
variable{κ:Type}[DecidableEq κ]
def bX(kvs:List (κ×V))(k:κ):Option V:=(kvs.find? λkv=>decide (kv.1=k)).map (·.2)
def bG(kvs:List (κ×V))(k:κ)(v:V):List (κ×V):=
 if (kvs.any λkv=>decide (kv.1=k))=ah then kvs.map (λkv=>if kv.1=k then(kv.1,v)else kv)else kvs++[(k,v)]
theorem rf{p:κ×V}{r:List (κ×V)}{k:κ}(e:p.1=k):bX (p::r) k=ae p.2:=by simp[bX,e]
theorem sN{p:κ×V}{r:List (κ×V)}{k:κ}(e:¬p.1=k):bX (p::r) k=bX r k:=by simp[bX,e]
theorem zA(k:κ):∀kvs:List (κ×V),(kvs.any λkv=>decide (kv.1=k))=(bX kvs k).isSome
 |[]=>rfl
 |p::r=>by
  rw[Dj];by_cases e:p.1=k
  ·simp only[rf e,c_ e,Bool.true_or,Option.isSome_some]
  ·rw[sN e,d_ e];exact zA k r
theorem qt(kvs:List (κ×V))(k:κ)(v:V):(bG kvs k v).length<=kvs.length+1:=by
 unfold bG
 split
 ·rw[Ab];omega
 ·rw[An,Au,List.length_nil];omega
theorem RelO.isSome_eq{o:Option V}{u:Option Af}(r:RelO o u):o.isSome=u.isSome:=by
 cases o with
 |none=>cases u with
  |none=>rfl
  |some _=>exact(r).elim
 |some _=>cases u with
  |none=>exact(r).elim
  |some _=>rfl
theorem KV.val{kvs:List (κ×V)}{vs:List (κ×Af)}(r:KV kvs vs)(k:κ):RelO (bX kvs k) (valueAt vs k):=by
 induction r with
 |nil=>exact Gu
 |@cons p q g c h t i=>
  obtain⟨d,f⟩:=h;by_cases e:p.1=k
  ·have a:=d.symm.trans e;have b:valueAt (q::c) k=ae q.2:=by simp[valueAt,a]
   rw[rf e,b];trivial
  ·have a:¬q.1=k:=λz=>e (d.trans z);have b:valueAt (q::c) k=valueAt c k:=by simp[valueAt,a]
   rw[sN e,b];omega
theorem KV.any{kvs:List (κ×V)}{vs:List (κ×Af)}(r:KV kvs vs)(k:κ):(kvs.any λkv=>decide (kv.1=k))=vs.any λkv=>decide (kv.1=k):=by
 induction r with
 |nil=>rfl
 |cons h t a=>rw[Dj,Dj,a,h.1]
theorem KV.repl{kvs:List (κ×V)}{vs:List (κ×Af)}(r:KV kvs vs)(k:κ){y:V}{u:Af}(ry:RelV y u):
  KV (kvs.map λkv=>if kv.1=k then(kv.1,y)else kv) (vs.map λkv=>if kv.1=k then(kv.1,u)else kv):=by
 induction r with
 |nil=>exact .nil
 |@cons p q f d h t b=>
  rw[Bn,Bn];refine .cons ?_ b;obtain⟨a,c⟩:=h;by_cases e:p.1=k
  ·rw[b_ e,b_ (a.symm.trans e)];exact⟨a,ry⟩
  ·rw[a_ e,a_ (λz=>e (a.trans z))];trivial
theorem KV.put{kvs:List (κ×V)}{vs:List (κ×Af)}(r:KV kvs vs)(k:κ){y:V}{u:Af}(ry:RelV y u):KV (bG kvs k y) (stored vs k u):=by
 unfold bG stored;rw[r.any k];by_cases e:(vs.any λkv=>decide (kv.1=k))=ah
 ·rw[b_ e,b_ e];exact r.repl k ry
 ·rw[a_ e,a_ e];exact Paired.snoc r ⟨rfl,ry⟩
theorem KV.length{kvs:List (κ×V)}{vs:List (κ×Af)}(r:KV kvs vs):kvs.length=vs.length:=D1 r
end
theorem lr{P:A3}{w:Bi}{k:aC}{u:Af}(r:RelV (kV k) u):(fj P w).is k u=ah:=by
 cases k with
 |inl i=>obtain⟨t,e⟩:=(r);subst e;exact AE P w i t
 |inr x=>obtain⟨t,e⟩:=(r);subst e;exact zf P w x t
theorem xV{P:A3}{w:Bi}:∀{ks:List aC}{us:List Af},Vals (ks.map kV) us->ItemsAre (fj P w) ks us
 |[],_,r=>by cases r;exact .nil
 |k::ks,_,r=>by
  cases r with
  |cons h t=>exact .cons (lr h) (xV t)
abbrev KT(H:Hp):List (List aC×V)->List (List aC×A'×Af)->Prop:=Paired λp q=>p.1=q.1/\H q.2.1=ae (.tup (p.1.map kV))/\RelV p.2 q.2.2
theorem KT.val{H:Hp}{kvs:List (List aC×V)}{xs:List (List aC×A'×Af)}(r:KT H kvs xs)(k:List aC):RelO (bX kvs k) ((atKey xs k).map (·.2)):=by
 induction r with
 |nil=>exact Gu
 |@cons p q g c h t i=>
  obtain⟨d,_,f⟩:=h;by_cases e:p.1=k
  ·have a:=d.symm.trans e;have b:atKey (q::c) k=ae q.2:=by simp[atKey,a]
   rw[rf e,b];exact f
  ·have a:¬q.1=k:=λz=>e (d.trans z);have b:atKey (q::c) k=atKey c k:=by simp[atKey,a]
   rw[sN e,b];omega
theorem KT.repl{H:Hp}{kvs:List (List aC×V)}{xs:List (List aC×A'×Af)}(r:KT H kvs xs)(k:List aC){y:V}{u:Af}(ry:RelV y u):
  KT H (kvs.map λkv=>if kv.1=k then(kv.1,y)else kv) (xs.map (putAt k u)):=by
 induction r with
 |nil=>exact .nil
 |@cons p q f d h t c=>
  rw[Bn];refine .cons ?_ c;obtain⟨a,b,g⟩:=h;unfold putAt;by_cases e:p.1=k
  ·rw[b_ e,b_ (a.symm.trans e)];exact⟨a,b,ry⟩
  ·rw[a_ e,a_ (λz=>e (a.trans z))];trivial
theorem KT.put{H:Hp}{kvs:List (List aC×V)}{xs:List (List aC×A'×Af)}(r:KT H kvs xs)(k:List aC){b:A'}{y:V}{u:Af}(hb:H b=ae (.tup (k.map kV)))(ry:RelV y u):
  KT H (bG kvs k y) (storedH xs k b u):=by
 have e:(kvs.any λkv=>decide (kv.1=k))=(atKey xs k).isSome:=by
  rw[zA,(r.val k).isSome_eq,Ff]
 unfold bG storedH;rw[e];by_cases q:(atKey xs k).isSome=ah
 ·rw[b_ q,b_ q];exact r.repl k ry
 ·rw[a_ q,a_ q];exact Paired.snoc r ⟨rfl,hb,ry⟩
theorem KT.keeps{H H':Hp}{kvs:List (List aC×V)}{xs:List (List aC×A'×Af)}(r:KT H kvs xs)(ht:∀b ys,H b=ae (.tup ys)->H' b=ae (.tup ys)):KT H' kvs xs:=
 Paired.mapP r λ_ _ z=>⟨z.1,ht _ _ z.2.1,z.2.2⟩
section
variable{P:A3}{w:Bi}{H:Hp}{h:Heap}{a:A'}
theorem DY{u:HO}(ok:HOk P w H h)(e:Rd H a u):ObjOk P w H h a u:=e.ok ok
theorem mz{kvs:List (aC×V)}(ok:HOk P w H h)(e:Rd H a (.dK kvs)):kvs.length<=Ay/\(a==Dk)=ai/\∃vs,KV kvs vs/\h.DictOf (fj P w) a vs:=
 show ObjOk P w H h a (.dK kvs)from DY ok e
theorem wW{kvs:List (aC×V)}(ok:HOk P w H h)(e:H a=ae (.dK kvs)):kvs.length<=Ay/\(a==Dk)=ai/\∃vs,KV kvs vs/\h.DictOf (fj P w) a vs:=mz ok (.inl e)
theorem mR{ks:List aC}(ok:HOk P w H h)(e:H a=ae (.tup (ks.map kV))):(tupleKind (fj P w)).is h ks a:=by
 obtain⟨_,c,r,o,f,b,⟨n,d⟩,_⟩:=(show ObjOk P w H h a (.tup _)from ok a _ e);exact⟨o,_,n,f,b,d,by simpa using xV r⟩
theorem nE{kvs:List (List aC×V)}(ok:HOk P w H h)(e:Rd H a (.dT kvs)):kvs.length<=Ay/\(a==Dk)=ai /\
  ∃xs,KT H kvs xs/\h.DictOfH (tupleKind (fj P w)) a xs:=by
 obtain⟨z,y,xs,r,o,j,n,k,d,g,i,f⟩:=(show ObjOk P w H h a (.dT kvs)from DY ok e);refine⟨z,y,xs,r,o,j,n,k,d,g,i,λx b=>?_,f⟩;have c:∀{l:List _}{m:List _},KT H l m->∀x∈m,(tupleKind (fj P w)).is h x.1 x.2.1:=by
  intro l m q
  induction q with
  |nil=>intro x b;trivial
  |@cons p q u A v t s=>
   intro x b;rcases Av.mp b with e|b
   ·subst e;exact mR ok (by simp_all)
   ·exact s x b
 exact c r x b
theorem OP{kvs:List (List aC×V)}(ok:HOk P w H h)(e:H a=ae (.dT kvs)):kvs.length<=Ay/\(a==Dk)=ai /\
  ∃xs,KT H kvs xs/\h.DictOfH (tupleKind (fj P w)) a xs:=nE ok (.inl e)
end
def DGet(H:Hp)(a:A')(y:V)(r:Option V):Prop:=
 (∃kvs k,Rd H a (.dK kvs)/\y=kV k/\r=bX kvs k)\/∃kvs k b,Rd H a (.dT kvs)/\y=.ref b/\H b=ae (.tup (k.map kV))/\r=bX kvs k
def DPut(H:Hp)(a:A')(y v:V)(H':Hp):Prop:=
 (∃kvs k,H a=ae (.dK kvs)/\y=kV k/\kvs.length < Ay/\H'=upd H a (.dK (bG kvs k v))) \/
 ∃kvs k b,H a=ae (.dT kvs)/\y=.ref b/\H b=ae (.tup (k.map kV))/\kvs.length < Ay/\H'=upd H a (.dT (bG kvs k v))
theorem DGet.t{H:Hp}{a b:A'}{kvs:List (List aC×V)}{k:List aC}(e:H a=ae (.dT kvs))(eb:H b=ae (.tup (k.map kV))):DGet H a (.ref b) (bX kvs k):=.inr ⟨kvs,k,b,.inl e,rfl,eb,rfl⟩
theorem DPut.k{H:Hp}{a:A'}{kvs:List (aC×V)}{k:aC}{v:V}(e:H a=ae (.dK kvs))(hl:kvs.length < Ay):DPut H a (kV k) v (upd H a (.dK (bG kvs k v))):=.inl ⟨kvs,k,e,rfl,hl,rfl⟩
theorem DPut.t{H:Hp}{a b:A'}{kvs:List (List aC×V)}{k:List aC}{v:V}(e:H a=ae (.dT kvs))(eb:H b=ae (.tup (k.map kV)))(hl:kvs.length < Ay):
  DPut H a (.ref b) v (upd H a (.dT (bG kvs k v))):=.inr ⟨kvs,k,b,e,rfl,eb,hl,rfl⟩
section
variable{X:Cx}{i_:List (A'×Obj)}{σ:St}{H:Hp}{s:Ai}{a:A'}{y v:V}{u r:Af}{o:Option V}{A:Bq}{E:Af->Ai->Prop}
theorem Inv.big(I:Inv X i_ σ H s):Dk < s.heap.objs.size:=by
 exact Nat.lt_trans ∎ ((I.mod.glob.keeps I.bk).lt)
theorem Mx{Q:Af->Ai->Prop}(hu:A.units+1 < De)(I:Inv X i_ σ H s)(g:DGet H a y (ae v))(ry:RelV y u)(h:∀w' s',Inv X i_ σ H s'->RelV v w'->Q w' s'):
  A6 (A9 X.prog X.w) A (getItem (.ref a) u) Q E s:=by
 rcases g with⟨i,k,e,n,l⟩|⟨i,k,b,e,n,o,l⟩
 ·subst n;obtain⟨z,r,t,c,f⟩:=mz I.hok e;obtain⟨w',m,d⟩:=RelO.some_of (by rw[l];exact c.val k);exact wpAny_getItem_of (lr ry) f.mapOf m (h w' _ (I.tok _) d)
 ·subst n;cases(ry);obtain⟨z,r,x,c,f⟩:=nE I.hok e;obtain⟨w',m,d⟩:=RelO.some_of (by rw[l];exact c.val k);obtain⟨p,q,j⟩:=E4.mp m;refine wpAny_getItem_heap (Hm hu) (mR I.hok o) f q ?_;rw[j];exact h w' _ (I.tok _) d
theorem rg{Q:Af->Ai->Prop}(hu:A.units+1 < De)(I:Inv X i_ σ H s)(g:DGet H a y o)(ry:RelV y u)(h:∀s',Inv X i_ σ H s'->Q (.bool o.isSome) s'):
  A6 (A9 X.prog X.w) A (B3 .In u (.ref a)) Q E s:=by
 rcases g with⟨j,k,e,f,l⟩|⟨j,k,b,e,f,m,l⟩
 ·subst f;obtain⟨z,i,p,c,d⟩:=mz I.hok e;refine wpAny_in_of (lr ry) i d.mapOf ?_;rw[<-(c.val k).isSome_eq,<-l];exact h _ (I.tok _)
 ·subst f;cases(ry);obtain⟨z,i,n,c,d⟩:=nE I.hok e;refine wpAny_in_heap (Hm hu) (mR I.hok m) i d ?_;have q:=(c.val k).isSome_eq;rw[Ff]at q;rw[<-q,<-l];exact h _ (I.tok _)
theorem Oz{Q:Af->Ai->Prop}(hu:A.units+1 < De)(I:Inv X i_ σ H s)(g:DGet H a y o)(ry:RelV y u)(h:∀s',Inv X i_ σ H s'->Q (.bool (!o.isSome)) s'):
  A6 (A9 X.prog X.w) A (B3 .NotIn u (.ref a)) Q E s:=by
 rcases g with⟨j,k,e,f,l⟩|⟨j,k,b,e,f,m,l⟩
 ·subst f;obtain⟨z,i,p,c,d⟩:=mz I.hok e;refine wpAny_notIn_of (lr ry) i d.mapOf ?_;rw[<-(c.val k).isSome_eq,<-l];exact h _ (I.tok _)
 ·subst f;cases(ry);obtain⟨z,i,n,c,d⟩:=nE I.hok e;refine wpAny_notIn_heap (Hm hu) (mR I.hok m) i d ?_;have q:=(c.val k).isSome_eq;rw[Ff]at q;rw[<-q,<-l];exact h _ (I.tok _)
theorem kX{h':Heap}{t':Nat}{ob:HO}(I:Inv X i_ σ H s)(mu:mF (H a))(hs:C7 a s.heap h')(he:∃q,h'.get? a=ae q)(new:ObjOk X.prog X.w (upd H a ob) h' a ob):
  Inv X i_ σ (upd H a ob) {s with heap:=h',toks:=t'}:=
 I.write mu (.inl rfl) (λb q c z=>(hs.2 b c).trans z) he new
theorem BW{P:A3}{w:Bi}{H':Hp}{h':Heap}{kvs:List (aC×V)}{vs:List (aC×Af)}(z:kvs.length<=Ay)(hd:(a==Dk)=ai)(rel:KV kvs vs)(dd:h'.DictOf (fj P w) a vs):
  ObjOk P w H' h' a (.dK kvs):=⟨z,hd,vs,rel,dd⟩
theorem QJ{H':Hp}{Q:Unit->Ai->Prop}(hu:A.units+1 < De)(I:Inv X i_ σ H s)(g:DPut H a y v H')(ry:RelV y u)(rv:RelV v r)(h:∀s',Inv X i_ σ H' s'->Q () s'):
  A6 (A9 X.prog X.w) A (setItem (.ref a) u r) Q E s:=by
 rcases g with⟨d,k,e,t,l,B⟩|⟨d,k,b,e,t,C,l,B⟩
 ·subst t B;obtain⟨z,p,M,f,n⟩:=wW I.hok e;have N:M.length<=Ay:=by rw[<-f.length];exact z
  have o:(bG d k v).length<=Ay:=by have:=qt d k v;omega
  refine wpAny_setItem_pairs (lr ry) n λh' i x=>h _ ?_;have G:∃q,h'.get? a=ae q:=let⟨q,_,_,m,_⟩:=i;⟨q,m⟩;exact kX I (by rw[e];trivial) x G (BW o p (f.put k rv) i)
 ·subst t B;cases(ry);obtain⟨z,p,P,f,n⟩:=OP I.hok e;have N:P.length<=Ay:=by rw[<-D1 f];exact z
  have o:(bG d k v).length<=Ay:=by have:=qt d k v;omega
  refine wpAny_setItem_heap (Hm hu) (mR I.hok C) n λh' i x=>h _ ?_;obtain⟨q,L,O,m,D,J,K,_,F⟩:=i;refine kX I (by rw[e];trivial) x ⟨q,m⟩ ⟨o,p,_,(f.put k C rv).keeps λc S R=>?_,q,L,O,m,D,J,K,F⟩;rw[aG (xY R e (λz=>nomatch z))];omega
end
def gw(i:Expr):Prop:=∀ov iv,subscripted i ai ov iv=operate [ov,iv] (getItem ov iv)
theorem vp{prog:A3}{w:Bi}{A:Bq}{E:Af->Ai->Prop}{s:Ai}{env:Env}{value slice:Expr}{pos:Pos}{T id:String}{Q:Af->Ai->Prop}
  (hl:typeLookup (.type T) "__getitem__"=pure (ae (.builtin id))) (hs:gw slice)
  (h:A6 (A9 prog w) A (eval value env) (λo s_=>A6 (A9 prog w) A (eval slice env) (λi t_=>t_.TypeIs o T/\A6 (A9 prog w) A (getItem o i) Q E t_) E s_) E s):
  A6 (A9 prog w) A (eval (.Subscript value slice pos) env) Q E s:=by
 refine Subscript_ (C9 h (λo s_ g=>C9 g (λi t_ c=>?_) λ_ _ x=>x) λ_ _ x=>x);obtain⟨f,c⟩:=c;refine Aa (Aa (wpAny_specialOf f hl ?_));have b:A6 (A9 prog w) A (subscripted slice ai o i) (λr d=>A6 (A9 prog w) A (letTemporaryGo value o r>>=λ_=>pure r) Q E d) E t_:=by
  rw[hs o i];exact wpAny_operating (C9 c (λr d e=>Aa (wpAny_letTemporaryGo (Aj e))) λ_ _ x=>x)
 first
  |exact Aj (Aa b)
  |exact Aa _
  |exact Aa b
theorem LU{X:Cx}{i_:List (A'×Obj)}{σ:St}{H:Hp}{s:Ai}{a:A'}{y:V}{o:Option V}(I:Inv X i_ σ H s)(g:DGet H a y o):s.TypeIs (.ref a) "dict":=by
 rcases g with⟨d,k,e,_,_⟩|⟨d,k,b,e,_,_,_⟩
 ·obtain⟨_,_,h,_,c⟩:=mz I.hok e;exact c.typeIs
 ·obtain⟨_,_,f,_,c⟩:=nE I.hok e;exact c.typeIs
def DK(td ty:TE):TE:=λσ H Q=>td σ H λx H1=>ty σ H1 λy H2=>∃a v,x=.ref a/\DGet H2 a y (ae v)/\Q v H2
def jX(ty td:TE):TE:=λσ H Q=>ty σ H λy H1=>td σ H1 λx H2=>∃a o,x=.ref a/\DGet H2 a y o/\Q (.bl o.isSome) H2
def lT(ty td:TE):TE:=λσ H Q=>ty σ H λy H1=>td σ H1 λx H2=>∃a o,x=.ref a/\DGet H2 a y o/\Q (.bl (!o.isSome)) H2
def sv(td ty tv:TE):TS:=λD σ H=>tv σ H λv H1=>td σ H1 λx H2=>ty σ H2 λy H3=>∃a H4,x=.ref a/\DPut H3 a y v H4/\D.nx σ H4
section
variable{X:Cx}{o i e value:Expr}{pos pos' tpos:Pos}{td ty tv:TE}
theorem RM(hu:X.A.units+1 < De)(ho:PE X o td)(hi:PE X i ty)(hs:gw i):PE X (.Subscript o i pos) (DK td ty):=by
 intro b s σ H Q I h;refine vp PySem.F.slot_dict_getitem.lookup hs (aL (ho b s σ H _ I h) λu r ⟨x,l,p,k,f⟩=>aL (hi b r σ l _ p f) λiv t u=>?_);obtain⟨y,j,d,n,a,v,q,g,e⟩:=u;subst q;obtain rfl:=k;exact⟨LU d g,Mx hu d g n λw' w m c=>⟨v,j,m,c,e⟩⟩
theorem OD(hu:X.A.units+1 < De)(hi:PE X i ty)(ho:PE X o td):PC X .In i o (jX ty td):=by
 intro b s σ H Q I h;refine aL (hi b s σ H _ I h) λiv q ⟨y,k,n,m,e⟩=>aL (ho b q σ k _ n e) λu t u=>?_;obtain⟨x,f,c,j,a,r,p,g,d⟩:=u;subst p;obtain rfl:=j;exact rg hu c g m λs3 l=>⟨.bl r.isSome,f,l,rfl,d⟩
theorem vx(hu:X.A.units+1 < De)(hi:PE X i ty)(ho:PE X o td):PC X .NotIn i o (lT ty td):=by
 intro b s σ H Q I h;refine aL (hi b s σ H _ I h) λiv q ⟨y,k,n,m,e⟩=>aL (ho b q σ k _ n e) λu r u=>?_;obtain⟨x,f,c,j,a,t,p,g,d⟩:=u;subst p;obtain rfl:=j;exact Oz hu c g m λs3 l=>⟨.bl _,f,l,rfl,d⟩
theorem xX(hu:X.A.units+1 < De)(ho:PE X o td)(hi:PE X i ty)(hv:PE X value tv)(hs:Cy value (ae (.Subscript o i pos')) pos.line X.env=pure ai):
  PS X (.Assign [.Subscript o i pos'] value pos) (sv td ty tv):=by
 intro b s σ H D I h;refine wpAny_Assign_Subscript (aL (hv b s σ H _ I h) λr z ⟨v,m,q,l,f⟩=>aL (ho b z σ m _ q f) λu t ⟨x,j,c,k,d⟩=>aL (hi b t σ j _ c d) λiv F u=>?_) hs;obtain⟨y,E,n,p,a,B,w,g,C⟩:=u;subst w;obtain rfl:=k;exact QJ hu n g p l λs4 e=>⟨σ,B,e,C⟩
end
theorem xP{P:A3}{w:Bi}{H:Hp}(h:Heap)(hb:Dk < h.objs.size):ObjOk P w H (h.push {cls:=.type "dict",data:=.dict #[]}) h.objs.size (.dK []):=
 ⟨A1 _,beq_eq_false_iff_ne.mpr (Ne.symm (Bf hb)),[],.nil,Heap.DictOf.new h⟩
theorem yP{P:A3}{w:Bi}{H:Hp}(h:Heap)(hb:Dk < h.objs.size):ObjOk P w H (h.push {cls:=.type "dict",data:=.dict #[]}) h.objs.size (.dT []):=
 ⟨A1 _,beq_eq_false_iff_ne.mpr (Ne.symm (Bf hb)),[],.nil,_,#[],0,Ax _ rfl,⟨rfl,rfl,rfl⟩,rfl,rfl,List.nodup_nil⟩
def DR:TE:=λ_ H Q=>∀p,H p=af->Q (.ref p) (upd H p (.dK []))
def EO:TE:=λ_ H Q=>∀p,H p=af->Q (.ref p) (upd H p (.dT []))
section
variable{X:Cx}{pos:Pos}
theorem MS:PE X (.Dict [] [] pos) DR:=λi_ s σ H Q I h=>
 wpAny_Dict_empty ⟨.ref s.heap.objs.size,_,I.laid (λ_ _ q=>Ae _ q) (Al _) (xP s.heap I.big),rfl,h _ (I.hok.fresh (Al _))⟩
theorem OG:PE X (.Dict [] [] pos) EO:=λi_ s σ H Q I h=>
 wpAny_Dict_empty ⟨.ref s.heap.objs.size,_,I.laid (λ_ _ q=>Ae _ q) (Al _) (yP s.heap I.big),rfl,h _ (I.hok.fresh (Al _))⟩
end
def jB(kvs more:List (aC×V)):List (aC×V):=more.foldl (λj_ kv=>bG j_ kv.1 kv.2) kvs
end L2
namespace Att
open PySem PySem.W PySem.Calls PyProof.Rows
theorem J0{P:Params}{h:Heap}:∀(ns:List Int)(vs:List Af),WellAll P h vs (ns.map WData.int)->IntsAre vs ns:=by
 intro ns
 induction ns with
 |nil=>
  intro vs w;cases w;exact .nil
 |cons n ns c=>
  intro vs w;cases w with
  |cons a b=>
   cases a;exact .cons _ _ (c _ b)
theorem Kn{l:OpenLaw}{n:Nat}(hn:l.most=ae n){P:Params}{h:Heap}{args:List WData}{vals:List Af}
  (hpre:l.row.toRowW.claim.pre args=ah) (hwl:WellAll P h vals args):
  ∃a vs ns,vals=[Cj a]/\args=[WData.list (ns.map WData.int)]/\h.get? a=ae {cls:=.type "list",data:=.seq vs.toArray}/\IntsAre vs ns/\ns.length<=n:=by
 have i:WShape.hasAll [] args [.list .int]=ah:=(pre_splitW hpre).1;have t:l.pre.holds [] {args:=args}=ah:=(pre_splitW hpre).2;obtain⟨d,r,rfl,s,k⟩:=hasAllW_cons i;obtain rfl:=hasAllW_nil k;obtain⟨v,rfl,p⟩:=hasW_list s;obtain⟨ns,rfl⟩:=items_int p;have c:ns.length<=n:=by
  have g:=by
   have g:=(holds_andW t).1;rw[hn]at g;omega
  have j:=condW_of g (w_not (w_lt w_lit (w_len_list (w_arg rfl))));simp
  first
   | (rw[b u]at j;rfl)
   | (simp at j;omega)
 cases hwl with
 |cons m o=>
  cases o;cases m with
  |list q e=>exact⟨_,_,ns,rfl,rfl,q,J0 ns _ e,c⟩
theorem R5(l:OpenLaw)(args:List WData):l.row.toRowW.claim.post args (.bool ah) args=ah:=
 postW_of
  (by rfl)
  (show(WTm.eq .res _).value [] {args:=args,res:=ae _,after:=args}=ae (.bool _)from w_eq_bool (w_res rfl) w_lit) rfl
theorem attach_call{l:OpenLaw}{n:Nat}{q:A3}{loose:List Str}{XP:(Str->Option Af)->Heap->Prop}{YP:Bi->Heap->Prop}{d:DefRec}
  (hn:l.most=ae n) (hdf:d.params.defaults=[])
  (call:∀(w:Bi)(s₀ s_:Ai)(mg mb:Str->Option Af)(fa:A')(o:Obj)(pm cd doc:Af)(a:A')(vs:List Af)(ns:List Int),
   Ground q loose [] XP w s₀ mg mb s_.heap->YP w s_.heap->
   s_.heap.get? fa=ae o->o.data=.func (docDef d.name d.params d.body d.scope pm cd doc)->s_.heap.CodeRec cd d.name->mg d.name=ae (.ref fa)->
   s_.heap.get? a=ae {cls:=.type "list",data:=.seq vs.toArray}->IntsAre vs ns->ns.length<=n->s_.gens=#[]->
   codeAny (A9 l.prog w) callerA (.call (.ref fa) ⟨[.ref a],[]⟩) (λr s'=>r=.ok (.ret (.bool ah))/\OldK s_.heap s'.heap/\s'.os=s_.os/\AllBare s'.gens) s_):
  WalkO q loose XP YP l.row.toRowW d [] (λf vs=>PySem.call f vs):=by
 intro w s₀ s_ mg mb G Y fa o pm cd doc H F z A h s j u p k E g m C i D;obtain rfl:=Dflts.none s hdf;obtain rfl:=Dflts.noKw s;obtain⟨a,vs,ns,rfl,rfl,e,b,c⟩:=Kn hn g i;refine enter_call (codeAny_mono (call w s₀ s_ mg mb fa o pm cd doc a vs ns G Y z (fd_plain A) h j e b c u) λr s' B=>?_);obtain⟨rfl,t,v,x⟩:=B;exact⟨.inl ⟨_,_,[],rfl,λ_=>rfl,.bool ah,R5 l _,λ_=>⟨List.Pairwise.nil,λ_ y=>(nomatch y)⟩⟩,t,v,x⟩
end Att
namespace L2
open PySem PySem.Spec PyProof.Rows
theorem yu:∀{vs:List Af}{ns:List Int},IntsAre vs ns->Vals (ns.map V.int) vs
 |_,_,.nil=>.nil
 |_,_,.cons n t h=>.cons ⟨t,rfl⟩ (yu h)
def jZ(H:Hp):Prop:=∀b,H b=af\/∃o xs,H b=ae (.frz o (.lst xs))
theorem FH{P:A3}{w:Bi}{K:Ag}{mg mb:Str->Option Af}{CX:gM}{k:Nat}{fa a:A'}{fd:Ce}{x:Str}{sp:Sp}{s_:Ai}{vs:List Af}{ns:List Int}
  (KX:K.In s_.heap) (hns:s_.heap.Ns Eb mg) (hb:s_.heap.Ns builtinsNs mb) (hbb:∀x:Str,x≠"__name__"->mb x=Bz x) (hlim:s_.heap.NoLimit) (hg:s_.gens=#[])
  (ha:s_.heap.get? a=ae {cls:=.type "list",data:=.seq vs.toArray}) (hi:IntsAre vs ns) (hl:ns.length<=Ay) (hr:Room k callerA)
  (F:∀base:Heap,K.In base->base.Ns Eb mg->FnOk P w K mg base CX k fa fd [x] sp) (hbind:∀(s:Ai)(u:Af),BindsTo s fd ⟨[u],[]⟩ [(x,u)])
  (hsp:∀H:Hp,jZ H->SqL K H a (ns.map V.int)->sp [.ref a] H (λv _=>v=.bl ah) λ_ _ _=>False)
  (hCX:∀H e s',CX [] H s_ (λ_ _ _=>False) e s'->False):
  codeAny (A9 P w) callerA (.call (.ref fa) ⟨[.ref a],[]⟩) (λr s'=>r=.ok (.ret (.bool ah))/\OldK s_.heap s'.heap/\s'.os=s_.os/\AllBare s'.gens) s_:=by
 have U:=yu hi;have p:=hi.length
 have i:∀H:Hp,jZ H->SqL K H a (ns.map V.int)->HOk P w H s_.heap->(∀b,H b≠af->b=a)->(H a≠af->K.lookup a=af)->
   codeAny (A9 P w) callerA (.call (.ref fa) ⟨[.ref a],[]⟩) (λr s'=>r=.ok (.ret (.bool ah))/\OldK s_.heap s'.heap/\s'.os=s_.os/\AllBare s'.gens) s_:=by
  intro H M hS t R Z;have c:∀{b:A'}{o:Obj},s_.heap.get? b=ae o->H b=af->(fD s_.heap H).get? b=ae o:=λe n=>QX e n;have L:∀{b:A'}{o:Obj}{B:Array G6}{C:Nat},s_.heap.get? b=ae o->o.data=.dict B C->H b=af:=λ{b o B C} e d=>by
   cases q:H b with
   |none=>rfl
   |some u=>
    have J:=R b (by rw[q];simp);subst J;rw[ha]at e;cases e;cases d
  have f:∀{b:A'}{m:Str->Option Af},s_.heap.Ns b m->(fD s_.heap H).Ns b m:=λ{b m} ⟨o,B,C,e,d,r⟩=>⟨o,B,C,c e (L e d),d,r⟩;have y:=λb o e=>c (KX b o e) (by
   cases q:H b with
   |none=>rfl
   |some u=>
    have J:=R b (by rw[q];simp);subst J;rw[Z (by rw[q];simp)]at e;cases e)
  have hM:Mod K mg (fD s_.heap H):=⟨y,f hns,⟨mb,f hb,hbb⟩,let⟨mc,X,h2⟩:=hlim;⟨mc,f X,h2⟩⟩;have e0:Env0 P w K mg _ callerA [] s_ H:=⟨rfl,hM,λb o e=>K3 e,Nat.le_of_eq (RQ _ _),trivial,λb hb=>g_ (show b∈([]:List A')from hb) (by simp),t,.of_eq hg⟩;refine codeAny_mono ((F _ y (f hns)).run callerA [] s_ H _ [.ref a] [.ref a] _ _ hr e0 (hbind s_ _) (.cons rfl .nil) (hsp H M hS)) λr s' h=>?_;cases r with
  |error e=>exact(hCX H e s' h).elim
  |ok Y=>
   cases Y with
   |next=>exact False.elim h
   |brk=>exact False.elim h
   |cont=>exact False.elim h
   |ret u=>
    obtain⟨v,H',os,l,S,A,r',q⟩:=h;subst q;obtain rfl:=r';refine⟨rfl,OldK.of_keep λb o e=>?_,os,l⟩;cases q:H b with
    |none=>exact S.keep b o e q (by intro z;trivial) (by simp)
    |some u=>
     rcases M b with z|⟨ob,xs,z⟩
     ·rw[q]at z;cases z
     ·obtain⟨e1,_⟩:=t b _ z;obtain⟨e2,_⟩:=A b _ (S.frzs b ob _ z);simp_all
 cases E:K.lookup a with
 |some o=>
  have e:=KX a o E;rw[ha]at e;cases e;refine i _ (λ_=>.inl rfl) (.inr ⟨_,_,_,E,rfl,rfl,rfl,by rw[Bb,p];exact hl,by omega⟩) (λb u z=>by trivial) (λb z=>g_ rfl z) λz=>g_ rfl z
 |none=>
  refine i (λb=>if b=a then ae (.frz {cls:=.type "list",data:=.seq vs.toArray} _)else af) (λb=>?_) (.inl (.inr ⟨_,b_ rfl⟩)) (λb u z=>?_) (λb z=>?_) λ_=>E
  ·by_cases hb:b=a
   ·exact .inr ⟨_,_,b_ hb⟩
   ·exact .inl (a_ hb)
  ·by_cases hb:b=a
   ·have T:=(b_ hb).symm.trans z;cases T;subst hb;exact⟨ha,by rw[Ab];exact hl,vs,_,U,ha⟩
   ·have T:=(a_ hb).symm.trans z;trivial
  ·by_cases hb:b=a
   ·exact hb
   ·exact g_ (a_ hb) z
theorem walk_of{l:PySem.W.OpenLaw}{n k:Nat}{q:A3}{loose:List Str}{XP:(Str->Option Af)->Heap->Prop}{YP:Bi->Heap->Prop}{d:DefRec}{K:Params->Ag}{CX:Bi->gM}{sp:Bi->Sp}{x:Str}
  (hn:l.most=ae n) (hn2:n<=Ay) (hdf:d.params.defaults=[]) (hr:Room k callerA)
  (hY:∀(w:Bi)(h:Heap),YP w h->(K w.params).In h)
  (F:∀(w:Bi)(mg:Str->Option Af)(fa:A')(h:Heap),(K w.params).In h->h.Ns Eb mg->mg d.name=ae (.ref fa)->
   ∃fd:Ce,(∀(s:Ai)(u:Af),BindsTo s fd ⟨[u],[]⟩ [(x,u)]) /\
    ∀base:Heap,(K w.params).In base->base.Ns Eb mg->FnOk l.prog w (K w.params) mg base (CX w) k fa fd [x] (sp w))
  (hsp:∀(w:Bi)(H:Hp)(a:A')(ns:List Int),ns.length<=n->jZ H->SqL (K w.params) H a (ns.map V.int)->sp w [.ref a] H (λv _=>v=.bl ah) λ_ _ _=>False)
  (hCX:∀(w:Bi)(H:Hp)(s:Ai)(e:Af)(s':Ai),CX w [] H s (λ_ _ _=>False) e s'->False):
  PySem.W.WalkO q loose XP YP l.row.toRowW d [] (λf vs=>PySem.call f vs):=by
 refine Att.attach_call hn hdf λw L D mg N fa o M J C a vs ns G Y E I y m j i c r=>?_;have p:=hY w _ Y;obtain⟨fd,z,A⟩:=F w mg fa _ p G.T.g m;exact FH p G.T.g G.T.b G.T.builtins G.T.nolimit r j i (A5 c hn2) hr A z (λH t B=>hsp w H a ns c t B) λH e s'=>hCX w H D e s'
abbrev bS:gM:=λ_ _ _ _ _ _=>False
abbrev E0:XK:=λ_ _ _=>False
theorem ju{X:Cx}:uD bS X E0:=λ_ _ _ _ _ _ _ h=>h.elim
structure Fun(K:Ag)(x qual:Str)(st:Stmt)(f:A')(fd:Ce):Prop where
 ex:∃(oc:Af)(od:Option A')(kV doc pm:Af)(an:Option A')(n_ ct:Af)(osl:Array (Option Af)),
  fd=Fo x qual (jW st) (ez st) (bE st) .none kV doc pm an n_ ct/\K.lookup f=ae ⟨oc,od,.func fd,osl⟩/\PySem.W.codeIn K n_ qual=ah
 kp:Ct K (.ref f)=ah
section
variable{P:A3}{w:Bi}{K:Ag}{mg:Str->Option Af}{base:Heap}
theorem Fun.ok{x qual:Str}{st:Stmt}{f:A'}{fd:Ce}{N ps:List Str}{k:Nat}{sp:Sp}(F:Fun K x qual st f fd)(S:FnScope N ps (bE st))(len:∀vs H Q E,sp vs H Q E->vs.length=ps.length)
  (hbody:∀(n_:Af)(A:Bq)(outer:List Env)(s:Ai)(H:Hp)(vs:List V)(Q:VK)(E:XK),Room k (A.deeper (envOfC qual (bE st) s.heap.objs.size f n_))->sp vs H Q E->
   ∃t,PSs (b6 bS P w K mg base N qual (bE st) f n_ A outer s H E).nox (ez st) t/\t {nx:=λ_ H'=>Q .non H',rt:=Q} (start N vs) H):FnOk P w K mg base bS (k+1) f fd ps sp:=by
 obtain⟨i,l,n,g,m,j,n_,o,c,rfl,d,a⟩:=F.ex;refine NO d a S len λA outer s H vs Q E e b=>?_;obtain⟨t,h,q⟩:=hbody n_ A outer s H vs Q E e b;exact⟨t,h.nox,q⟩
theorem Fun.binds{x qual:Str}{st:Stmt}{f:A'}{fd:Ce}{ps:List Str}(F:Fun K x qual st f fd)
  (h:∀(kV doc pm:Af)(an:Option A')(n_ ct:Af)(us:List Af),us.length=ps.length->bindArgs (Fo x qual (jW st) (ez st) (bE st) .none kV doc pm an n_ ct) ⟨us,[]⟩=pure (ps.zip us)):Binds K fd ps []:=by
 obtain⟨d,c,kV,doc,pm,an,n_,ct,a,rfl,e,b⟩:=F.ex;exact .all (h kV doc pm an n_ ct)
theorem Qh{x qual:Str}{st:Stmt}{f:A'}{oc:Af}{od an:Option A'}{osl:Array (Option Af)}{kV doc pm n_ ct:Af}(l:K.lookup f=ae ⟨oc,od,.func (Fo x qual (jW st) (ez st) (bE st) .none kV doc pm an n_ ct),osl⟩)
  (c:PySem.W.codeIn K n_ qual=ah) (k:Ct K (.ref f)=ah):Fun K x qual st f (Fo x qual (jW st) (ez st) (bE st) .none kV doc pm an n_ ct):=⟨⟨oc,od,kV,doc,pm,an,n_,ct,osl,rfl,l,c⟩,k⟩
end
theorem yE{n:Nat}(h:n<=1000):n < Ay:=Ek h ∎
section
variable{X:Cx}
theorem pv(i:Nat){x:Str}{pos:Pos}(hN:X.N[i]?=ae x:=by rfl)(hv:dU X.env.scope x:=by first|exact Ci rfl|exact B5 (Ci rfl)|exact B5 (B5 rfl))(hd:(x==("__debug__":Str))=ai:=by decide)
  (r_:(x==("__classdict__":Str))=ai:=by decide):PE X (.Name x pos) (aI i):=eY hN hv hd r_
end
theorem rC{A B:Prop}(h:B):if ai=ah then A else B:=h
theorem iG{c A B:Prop}[Decidable c](h1:c->A)(h2:¬c->B):if c then A else B:=by
 by_cases h:c
 ·rw[b_ h];exact h1 h
 ·rw[a_ h];exact h2 h
def gO(H H':Hp):Prop:=∀b o,H b=ae o->H' b=ae o
end L2
namespace L2
open PySem PySem.Spec PyProof.Rows
section
variable{prog:A3}{w:Bi}{A:Bq}{R:Result->Ai->Prop}{s:Ai}
theorem EY{elt target iter:Expr}{ifs:List Expr}{scope:E9}{pos:Pos}{it j_:Af}{env:Env}(I:Nat->Ai->Prop)
  (turn:∀n s,I n s->A6 (A9 prog w) A (pyNext it) (λr s_=>match r with
   |none=>R (.ok .next) s_
   |some v=>A6 (A9 prog w) A (letOwnedTupleGo target it v) (λ_ s₁'=>A6 (A9 prog w) A (assign target env v) (λ_ t_=>
     A6 (A9 prog w) A (Gp ifs ah λc r=>if r=ah then do let ok <-isTrue c env (eval c env);pure (Cr ok)else pure (Cr r)) (λok v_=>
      if ok=ah then A6 (A9 prog w) A (eval elt env) (λx y_=>
       A6 (A9 prog w) A (call (.builtin "list.append") [j_,x]) (λ_ z_=>∃m,m < n/\I m z_) (λ_ _=>False) y_) (λ_ _=>False) v_
      else ∃m,m < n/\I m v_) (λ_ _=>False) t_) (λ_ _=>False) s₁') (λ_ _=>False) s_) (λ_ _=>False) s)
  (n:Nat) (h:I n s):codeAny (A9 prog w) A (.compLoop (.ListComp elt [⟨target,iter,ifs,0⟩] scope pos) 0 it j_ env) R s:=by
 refine codeAny_loop rfl I (λn s g=>?_) n h;show A6 _ A _ _ _ s;refine wpAny_noted ?_;rw[compTurn_list];refine Aa (wpAny_standAt (Aa (C9 (turn n s g) (λr s_ d=>?_) λ_ _ f=>f.elim)));cases r with
 |none=>exact Aj d
 |some v=>
  refine Aa (C9 d (λ_ s₁' a=>Aa (C9 a (λ_ t_ j=>Aa (C9 j (λok v_ b=>?_) λ_ _ f=>f.elim)) λ_ _ f=>f.elim)) λ_ _ f=>f.elim);cases ok with
  |false=>exact Aj ⟨rfl,b⟩
  |true=>
   exact Aa (Aa (C9 b (λx y_ i=>Aa (C9 i (λ_ z_ e=>Aj (Aj ⟨rfl,e⟩)) λ_ _ f=>f.elim)) λ_ _ f=>f.elim))
end
def cJ(X:Cx)(N:List Str)(scope:E9)(cl:List (Str×A'))(s:Ai)(H:Hp)(fp:List A'):Cx:=
 { X with N:=N,s₀:=s,H₀:=H,env:=compEnvC scope cl s.heap.objs.size X.env,outer:=X.stack,ex:=fp,fn:=λ_=>ai,pn:=[],xe:=λ_ _=>False}
structure CompSc(X:Cx)(N:List Str)(scope:E9)(cl:List (Str×A'))(fr:List (Option Nat)):Prop where
 clos:closureFor scope X.env=pure cl
 kind:scope.kind=.function
 nocell:∀y∈scope.names,y.2≠.cell
 names:∀y∈scope.names,y.2=.local->scope.names.lookup y.1=ae .local
 sub:∀x c,cl.lookup x=ae c->X.env.cells.lookup x=ae c
 has:∀x,((relabel scope X.env).names.lookup x=ae .cell\/(relabel scope X.env).names.lookup x=ae .free)->∃c,cl.lookup x=ae c
 len:fr.length=N.length
 fre:∀(j i:Nat),fr[j]?=ae (ae i)->∃x,N[j]?=ae x/\X.N[i]?=ae x/\dU X.env.scope x/\(X.env.kindOf x=ae .cell\/X.env.kindOf x=ae .free) /\
  ((relabel scope X.env).names.lookup x=ae .cell\/(relabel scope X.env).names.lookup x=ae .free)/\cl.lookup x=X.env.cells.lookup x
theorem oE{κ:Type}:∀{l:List (Str×κ)}{x:Str}{k:κ},l.lookup x=ae k->(x,k)∈l
 |[],_,_,h=>nomatch h
 | (y,b)::r,x,k,h=>by
  rw[List.lookup_cons]at h;cases e:x==y with
  |true=>
   rw[e]at h;have a:x=y:=by simp_all
   rw[a,(Bw h)];exact Ap
  |false=>
   rw[e]at h;exact Ak _ (oE h)
theorem xc{κ:Type}:∀{l:List (Str×κ)}{x:Str},x∈l.map (·.1)->∃k,l.lookup x=ae k
 |[],_,h=>g_ h (by simp)
 | (y,a)::r,x,h=>by
  rw[List.lookup_cons];cases e:x==y with
  |true=>exact⟨a,rfl⟩
  |false=>
   have b:¬x=y:=λz=>by simp_all
   rcases Av.mp h with z|z
   ·exact g_ z b
   ·exact xc z
theorem RE{X:Cx}{scope:E9}{cl:List (Str×A')}(nm:List (Str×NameKind))(ks:List Str)(hrel:(relabel scope X.env).names=nm)(hks:cl.map (·.1)=ks)(h3:∀y∈nm,(y.2=.cell\/y.2=.free)->y.1∈ks):
  ∀x,((relabel scope X.env).names.lookup x=ae .cell\/(relabel scope X.env).names.lookup x=ae .free)->∃c,cl.lookup x=ae c:=by
 intro x h;rw[hrel]at h;refine xc ?_;rw[hks];rcases h with h|h
 ·exact h3 _ (oE h) (.inl rfl)
 ·exact h3 _ (oE h) (.inr rfl)
def dB(fr:List (Option Nat))(σ:St):St:=fr.map λo=>o.bind λi=>(σ[i]?).bind id
theorem O4{fr:List (Option Nat)}{σ:St}{j:Nat}{v:V}(h:(dB fr σ)[j]?=ae (ae v)):∃i,fr[j]?=ae (ae i)/\σ[i]?=ae (ae v):=by
 unfold dB at h;rw[Am]at h;cases e:fr[j]? with
 |none=>rw[e]at h;cases h
 |some o=>
  rw[e]at h;cases o with
  |none=>cases h
  |some i=>
   refine⟨i,rfl,?_⟩;have a:(σ[i]?).bind id=ae v:=Bw h;cases b:σ[i]? with
   |none=>rw[b]at a;cases a
   |some d=>
    rw[b]at a;have c:d=ae v:=a;rw[c]
def lJ(X:Cx)(ifs:List Expr)(tt:TT):Prop:=
 ∀(i_:List (A'×Obj))(s:Ai)(σ:St)(H:Hp)(Q:Bool->Hp->Prop),Inv X i_ σ H s->tt σ H Q->
  A6 (A9 X.prog X.w) X.A (Gp ifs ah λc r=>if r=ah then do let ok <-isTrue c X.env (eval c X.env);pure (Cr ok)else pure (Cr r)) (TP X i_ σ Q) X.xe s
def wI:TT:=λ_ H Q=>Q ah H
theorem LZ{X:Cx}:lJ X [] wI:=λ_ _ _ H _ I h=>wpAny_tests_nil ⟨H,I,h⟩
theorem Rk{X:Cx}{c:Expr}{tt:TT}(h:PT X c tt):lJ X [c] tt:=λi_ s σ H Q I q=>wpAny_tests_one (h i_ s σ H Q I q)
def lG(fr:List (Option Nat))(wi:TI)(g:TG)(tt:TT)(te:TE):TE:=λσ H Q=>wi σ H λJ H1=>∀D,H1 D=af->
 ∃W:Nat->Nat->List V->St->Hp->Prop,(∃m,W 0 m [] (dB fr σ) (upd H1 D (.lst [])))/\∀i m ys τ H,W i m ys τ H->
  ((J.stop i H/\Q (.ref D) H)\/(J.go i H/\ys.length < Ay/\∀x H',J.yld i H x H'->g x τ H' λτ2 H2=>tt τ2 H2 λb H3=>
   if b=ah then te τ2 H3 (λy H4=>H4 D=ae (.lst ys)/\∃m',m' < m/\W (i+1) m' (ys++[y]) τ2 (upd H4 D (.lst (ys++[y]))))else ∃m',m' < m/\W (i+1) m' ys τ2 H3))
section
variable{X:Cx}{N:List Str}{scope:E9}{cl:List (Str×A')}{fr:List (Option Nat)}{i_:List (A'×Obj)}{σ:St}{H:Hp}{s:Ai}{fp:List A'}
theorem Jm(S:CompSc X N scope cl fr)(I:Inv X i_ σ H s)(hf:∀b∈fp,cE X i_ H b)(l_:∀b∈fp,b < s.heap.objs.size):(cJ X N scope cl s H fp).Ok where
 mod:=I.ok.mod
 kind:=S.kind
 glob:=I.ok.glob
 blt:=I.ok.blt
 above:=Al _
 inj:=λx y c a b=>I.ok.inj x y c (S.sub x c a) (S.sub y c b)
 has:=λx h=>S.has x h
 cab:=λx c h=>nomatch h
 hd:=I.ok.hd
 frames:=I.ok.frames
 stk:=.inl rfl
 exf:=λb d=>⟨Bf (l_ b d),λx c e=>(hf b d).2.2.2.2.1 x c (S.sub x c e)⟩
 bs:=I.bs
 bsz:=A5 I.ok.bsz I.sz
 noex:=λb o e d=>by
  rcases(hf b d).2.2.2.1 with z|z
  ·exact I.ok.noex b o e z
  ·exact g_ (Bp (Aw (I.ok.bs b o e).1) z) (Fg _)
 exfs:=λb d z=>by
  rcases Av.mp (I.stkSub b z)with e|e
  ·exact(hf b d).2.1 e
  ·exact(hf b d).2.2.1 e
 funs:=I.stack
 frf:=I.stkFree
theorem GG{u_:Heap}{t':Nat}(S:CompSc X N scope cl fr)(I:Inv X i_ σ H s)(hf:∀b∈fp,cE X i_ H b)(l_:∀b∈fp,b < s.heap.objs.size)
  {ob:Obj} (hsb:C7 s.heap.objs.size (s.heap.push ob) u_) {m:Str->Option Af} (hn:u_.Ns s.heap.objs.size m):
  Inv (cJ X N scope cl s H fp) [] (dB fr σ) H {s with heap:=u_,toks:=t'}:=by
 have a:∀b o,s.heap.get? b=ae o->u_.get? b=ae o:=λb o e=>(hsb.2 b (Bf (Aw e))).trans (Ae _ e);refine⟨Jm S I hf l_,rfl,I.bare,Un.kept a,⟨m,hn,λj x v F B K=>?_⟩,λx c e=>?_,I.fresh,λx c e=>I.freeC x c (S.sub x c e),λp t=>?_,I.hok.kept a,?_⟩
 ·obtain⟨i,A,n⟩:=O4 B;obtain⟨y,E,G,D,C,J,w⟩:=S.fre j i A;have d:N[j]?=ae x:=F;rw[E]at d;have f:=Bw d;subst f;obtain⟨L,g,h⟩:=I.loc;obtain⟨u,r,l⟩:=h i y v G n D;refine⟨u,r,.inr ⟨J,?_⟩⟩;rcases l with⟨k,_⟩|⟨k,c,e,z⟩
  ·rcases C with q|q
   ·rw[q]at k;cases k
   ·rw[q]at k;cases k
  ·exact⟨c,w.trans e,z.keeps a⟩
 ·obtain⟨v,z⟩:=I.cell x c (S.sub x c e);exact⟨v,z.keeps a⟩
 ·exact g_ t (by simp[cJ])
 ·show(dB fr σ).length=N.length;unfold dB;rw[Ab,S.len]
theorem zu{H':Hp}{τ:St}{s0 s':Ai}{h':Heap}(I:Inv X i_ σ H s0)(hf:∀b∈fp,cE X i_ H b)(I':Inv (cJ X N scope cl s0 H fp) [] τ H' s')(hs:C7 s0.heap.objs.size s'.heap h'):
  Inv X i_ σ H' {s' with heap:=h'}:=by
 have h:H' s0.heap.objs.size=af:=I'.free;have u:=I'.base;have f:∀b o,s0.heap.get? b=ae o->b≠s0.heap.objs.size:=λb o e=>Bf (Aw e);have d:=λb o e=>by
  refine(I'.hok b o e).stay (λc v p z=>(hs.2 c ?_).trans z) (λ_ z=>z) λ_ _ z=>z
  rintro rfl
  rcases p with z|z
  ·rw[<-z,h]at e;cases e
  ·rw[h]at z;cases z
 refine I.call' (ch:=fp) I'.os ?_ d I'.bare λb l=>?_
 ·refine⟨λb o e n g a=>(hs.2 b (f b o e)).trans (u.keep b o e n g a),λb o e n g a=>?_,u.free,λb o e a=>?_,u.tups,u.frzs,u.tbls⟩
  ·obtain⟨q,z⟩:=u.slot b o e n g a;exact⟨q,(hs.2 b (f b o e)).trans z⟩
  ·obtain⟨j,z⟩:=u.there b o e a;exact⟨j,(hs.2 b (f b o e)).trans z⟩
 ·obtain⟨_,k,_,i,r,m⟩:=hf b l;exact⟨i,k,r,m⟩
end
theorem xa{X:Cx}{elt tg iter:Expr}{ifs:List Expr}{scope:E9}{cl:List (Str×A')}{cpos:Pos}{N:List Str}{fr:List (Option Nat)}{wi:TI}{g:TG}{tt:TT}{te:TE}{use:Option (Af->Sem Unit)}{R:Af->Ai->Prop}
  (hc:X.calm=ah) (S:CompSc X N scope cl fr) (hi:PI X tg iter wi) (hg:∀s H fp,PG (cJ X N scope cl s H fp) tg g) (ht:∀s H fp,lJ (cJ X N scope cl s H fp) ifs tt)
  (he:∀s H fp,PE (cJ X N scope cl s H fp) elt te) (hs:∀x,Ee iter X.env x=pure x) {i_:List (A'×Obj)} {s:Ai} {σ:St} {H:Hp} {K:V->Hp->Prop} (I:Inv X i_ σ H s) (h:lG fr wi g tt te σ H K)
  (fin:∀{fp:List A'}{s3 s6:Ai}{H3 Hc:Hp}{τ:St}{a:A'}{mm:Str->Option Af},Inv X i_ σ H3 s3->(∀b∈fp,cE X i_ H3 b)->Inv (cJ X N scope cl s3 H3 fp) [] τ Hc s6->K (.ref a) Hc->s6.heap.Ns s3.heap.objs.size mm->compPost (A9 X.prog X.w) X.A X.xe use R (.ref a) s3.heap.objs.size (.ok .next) s6):
  A6 (A9 X.prog X.w) X.A (comprehension (.ListComp elt [⟨tg,iter,ifs,0⟩] scope cpos) scope X.env (firstIterPos [⟨tg,iter,ifs,0⟩] cpos) (newList []) (firstAsync [⟨tg,iter,ifs,0⟩]) (firstIter [⟨tg,iter,ifs,0⟩] X.env) use) R X.xe s:=by
 refine wpAny_comprehension_free rfl hs S.clos S.kind S.names (aL (hi i_ s σ H _ I h) λv s1 h1=>aL h1 λitv k h2=>?_);obtain⟨it,fp,tn,J,H2,e,I2,T,st2,f2,q⟩:=h2;subst e;refine B7 (wpAny_newFunctionEnv S.nocell (by simp) (λu_ hn B=>?_) S.kind);obtain⟨W,⟨m0,w0⟩,turn⟩:=q k.heap.objs.size I2.fresh
 have G:Inv X i_ σ _ {k with heap:=k.heap.push {cls:=.type "list",dict:=af,data:=.seq ([]:List Af).toArray}}:=I2.lnew .nil (A1 _);have P:∀s3:Ai,s3={ k with heap:=k.heap.push {cls:=.type "list",dict:=af,data:=.seq ([]:List Af).toArray}}->Inv X i_ σ (upd H2 k.heap.objs.size (.lst [])) s3->
   ∀ob mm,C7 s3.heap.objs.size (s3.heap.push ob) u_->u_.Ns s3.heap.objs.size mm->
   codeAny (A9 X.prog X.w) X.A (.compStart (.ListComp elt [⟨tg,iter,ifs,0⟩] scope cpos) 0 (.ref it) (.ref k.heap.objs.size) (compEnvC scope cl s3.heap.objs.size X.env))
    (compPost (A9 X.prog X.w) X.A X.xe use R (.ref k.heap.objs.size) s3.heap.objs.size) {s3 with heap:=u_,toks:=s3.toks+([]:List (Str×Af)).length}:=?P
 ·exact P _ rfl G _ _ B hn
 intro s3 hs3 G ob mm B hn;have hfp:∀b∈fp,∃o,k.heap.get? b=ae o:=λb f=>let⟨o,e,_⟩:=T.obj _ _ st2 b f;⟨o,e⟩;have up:∀b o,k.heap.get? b=ae o->s3.heap.get? b=ae o:=λb o e=>by rw[hs3];exact Ae _ e
 have f3:∀b∈fp,cE X i_ (upd H2 k.heap.objs.size (.lst [])) b:=λb f=>by
  obtain⟨o,e⟩:=hfp b f;obtain⟨g0,gr⟩:=f2 b f;exact⟨by rw[aG (Bf (Aw e))];exact g0,gr⟩
 have l_:=λb f=>let⟨o,e⟩:=hfp b f;Aw (up b o e);generalize hH3:upd H2 k.heap.objs.size _=H3 at G f3 w0;have U:=T.keep _ _ _ st2 λb f o e=>(B.2 b (Bf (Aw (up b o e)))).trans (Ae _ (up b o e));have t:∀{C:Hp},(∀b∈fp,C b=af)->∀b∈fp,cE (cJ X N scope cl s3 H3 fp) [] C b:=λhn b f=>by
  obtain⟨_,Y,k2,k3,k4,k5⟩:=f3 b f;refine⟨hn b f,Bf (l_ b f),λz=>?_,.inl f,λx c e=>k4 x c (S.sub x c e),λp hp=>g_ hp (by simp[cJ])⟩;rcases Av.mp (G.stkSub b z)with e|e
  ·exact Y e
  ·exact k2 e
 have E:codeAny (A9 X.prog X.w) X.A (.compLoop (.ListComp elt [⟨tg,iter,ifs,0⟩] scope cpos) 0 (.ref it) (.ref k.heap.objs.size) (compEnvC scope cl s3.heap.objs.size X.env))
   (compPost (A9 X.prog X.w) X.A X.xe use R (.ref k.heap.objs.size) s3.heap.objs.size) {s3 with heap:=u_,toks:=s3.toks+([]:List (Str×Af)).length}:=by
  refine EY (λn s'=>∃i Q τ Hc,Inv _ [] τ Hc s'/\tn i s'.heap/\(∀b∈fp,Hc b=af)/\W i n Q τ Hc) ?_ m0 ⟨0,[],_,H3,(GG (t':=s3.toks+([]:List (Str×Af)).length) S G f3 l_ B hn),U,λb f=>(f3 b f).1,w0⟩
  rintro n s5 ⟨i,Q,τ,Hc,I5,st5,O,w5⟩
  rcases turn i n Q τ Hc w5 with⟨stop,qn⟩|⟨go,hz,Z⟩
  ·refine aL (T.done (cJ X N scope cl s3 H3 fp) rfl rfl rfl hc i [] s5 τ Hc _ I5 (t O) st5 stop) λr s6 v=>?_;obtain⟨hr,I6⟩:=v;subst hr;obtain⟨mm,hm,_⟩:=I6.loc;exact fin G f3 I6 qn hm
  ·refine aL (T.item (cJ X N scope cl s3 H3 fp) rfl rfl rfl hc i [] s5 τ Hc _ I5 (t O) st5 go) λr s6 a=>?_;obtain⟨u,hr,h6⟩:=a;subst hr;refine aL h6 λ_ s7 g=>?_;obtain⟨x,H7,I7,r7,y7,F,fr7⟩:=g;refine aL (hg s3 H3 fp _ s7 τ H7 x u _ (I7.pinned (t fr7) (T.obj _ _ F)) r7 (Z x H7 y7)) λ_ s8 ⟨L,H8,I8,q8⟩=>aL (ht s3 H3 fp _ s8 L H8 _ I8 q8) λok s9 j=>?_;obtain⟨H9,I9,q9⟩:=j;have D:∀{st:Ai}{τ':St}{C:Hp},Inv (cJ X N scope cl s3 H3 fp) ([]++qw fp s7.heap) τ' C st->tn _ st.heap/\∀b∈fp,C b=af:=λ{st τ' C} Ix=>by
    refine⟨T.keep _ _ _ F λb f o e=>(Ix.pin _ (B2 _ (B2 _ (oN f e)))).1,λb f=>?_⟩;obtain⟨o,e,d⟩:=T.obj _ _ F b f;exact(Ix.pin _ (B2 _ (B2 _ (oN f e)))).2.1
   cases ok with
   |false=>
    obtain⟨M,hm,w9⟩:=q9;obtain⟨Y,k2⟩:=D I9;exact⟨M,hm,i+1,Q,L,H9,I9.unpinned,Y,k2,w9⟩
   |true=>
    refine aL (he s3 H3 fp _ s9 L H9 _ I9 q9) λxv s10 ⟨y,H10,I10,r10,hD,M,hm,w10⟩=>aL (xr _ s10 L H10 (.ref k.heap.objs.size) [y] _ [xv] (λz C=>∃M,M < n/\W _ M _ L C) I10 rfl (.cons r10 .nil) ⟨_,Q,y,rfl,rfl,hD,hz,M,hm,w10⟩) λz s11 l=>?_;obtain⟨z',H11,I11,_,m'',hm',w11⟩:=l;obtain⟨Y,k2⟩:=D I11;exact⟨m'',hm',i+1,_,L,H11,I11.unpinned,Y,k2,w11⟩
 exact codeAny_compStart_list E (T.self _ 0 _ _ _ U E)
theorem FV{X:Cx}{elt tg iter:Expr}{ifs:List Expr}{scope:E9}{cl:List (Str×A')}{pos:Pos}{N:List Str}{fr:List (Option Nat)}{wi:TI}{g:TG}{tt:TT}{te:TE}
  (hc:X.calm=ah) (S:CompSc X N scope cl fr) (hi:PI X tg iter wi) (hg:∀s H fp,PG (cJ X N scope cl s H fp) tg g) (ht:∀s H fp,lJ (cJ X N scope cl s H fp) ifs tt)
  (he:∀s H fp,PE (cJ X N scope cl s H fp) elt te) (hs:∀x,Ee iter X.env x=pure x:=by intro _;rfl):
  PE X (.ListComp elt [⟨tg,iter,ifs,0⟩] scope pos) (lG fr wi g tt te):=λi_ s σ H Q I h=>xa hc S hi hg ht he hs I h λ{_ _ _ _ _ _ a _} i d e f c=>⟨_,c,λh' b=>⟨.ref a,_,zu i d e b,rfl,f⟩⟩
mutual
inductive RdD(K:Ag)(H:Hp):V->Ad->Prop
 |non:RdD K H .non .none
 |bl (b:Bool):RdD K H (.bl b) (.bool b)
 |int (i:Int):RdD K H (.int i) (.int i)
 |str (x:Str):RdD K H (.str x) (.str x)
 |lst {a:A'} {xs:List V} {ds:List Ad}:SqL K H a xs->RdAll K H xs ds->RdD K H (.ref a) (.list ds)
 |tup {a:A'} {xs:List V} {ds:List Ad}:SqT K H a xs->RdAll K H xs ds->RdD K H (.ref a) (.tuple ds)
inductive RdAll(K:Ag)(H:Hp):List V->List Ad->Prop
 |nil:RdAll K H [] []
 |cons {x:V} {xs:List V} {d:Ad} {ds:List Ad}:RdD K H x d->RdAll K H xs ds->RdAll K H (x::xs) (d::ds)
end
section
variable{X:Cx}{i_:List (A'×Obj)}{σ:St}{H:Hp}{s:Ai}
mutual
theorem RdD.reads(I:Inv X i_ σ H s):∀{v:V}{d:Ad}{u:Af},RdD X.K H v d->RelV v u->∃as,Reads s.heap u d as
 |_,_,u,.non,r=>by
  cases(show u=B9 from r);exact⟨_,.none⟩
 |_,_,u,.bl b,r=>by
  cases(show u=Value.bool b from r);exact⟨_,.bool b⟩
 |_,_,u,.int i,r=>by
  obtain⟨t,rfl⟩:=(show ∃t,u=Value.int i t from r);exact⟨_,.int i t⟩
 |_,_,u,.str x,r=>by
  obtain⟨t,rfl⟩:=(show ∃t,u=Value.str x t from r);exact⟨_,.str x t⟩
 |_,_,u,.lst (a:=a) h1 h2,r=>by
  cases(show u=Cj a from r);obtain⟨i',rv,⟨o,n,e,c,_,d⟩,_⟩:=I.list h1;obtain⟨as,ha⟩:=RdAll.reads I h2 rv;exact⟨_,.list e c d (by simpa using ha)⟩
 |_,_,u,.tup (a:=a) h1 h2,r=>by
  cases(show u=Cj a from r);obtain⟨i',rv,⟨o,e,c,n,d⟩,_⟩:=I.tuple h1;obtain⟨as,ha⟩:=RdAll.reads I h2 rv;exact⟨_,.tuple e c d (by simpa using ha)⟩
theorem RdAll.reads(I:Inv X i_ σ H s):∀{vs:List V}{ds:List Ad}{us:List Af},RdAll X.K H vs ds->Vals vs us->∃as,ReadsAll s.heap us ds as
 |_,_,_,.nil,.nil=>⟨_,.nil⟩
 |_,_,_,.cons h1 h2,.cons r1 r2=>by
  obtain⟨as,ha⟩:=RdD.reads I h1 r1;obtain⟨bs,hb⟩:=RdAll.reads I h2 r2;exact⟨_,.cons ha hb⟩
end
end
def Small(d:Ad):Prop:=C1 d=ah/\E3 d<=20/\Gq d<=2 ^ 20/\PyData.intsShort 13 d=ah/\PyData.showable d=ah
theorem Small.len{d:Ad}(h:Small d):d.shown.length<=Ay:=by
 have a:PyData.layable0 d=ah:=by
  unfold PyData.layable0;rw[h.1,c_ (by have:=h.2.1;omega),c_ h.2.2.1];rfl
 have:=shown_le13 a h.2.2.2.1;rw[Ew];omega
theorem Small.noDict{d:Ad}(h:Small d):d.hasDict=ai:=PyData.hasDict_of_canLay d h.1
theorem Pd{X:Cx}(hg:X.A.guards=ae [])(hu:X.A.units+64 < De):CallR X (.builtin "repr") (λxs H Q=>∃a d,xs=[.ref a]/\RdD X.K H (.ref a) d/\Small d/\Q (.str d.shown) H):=by
 intro c s σ H xs l Q I r h;obtain⟨a,d,rfl,k,b,q⟩:=h;obtain⟨u,rfl,j⟩:=eL r;cases(j);obtain⟨m,g⟩:=RdD.reads I k (show RelV _ (Cj a)from rfl);have i:=b.2.1;exact repr_of_reads' g b.2.2.2.2 (PyData.noDict_hsm b.noDict) hg ⋯ (λ_ _ e=>e) (λh' u n f=>⟨.str d.shown,H,I.kept f,⟨u,rfl⟩,q⟩) b.len
def pN(K:Ag):R2:=λx y H Q=>∃a b xs,x=.ref a/\y=.ref b/\SqL K H a xs/\SqL K H b []/\Q (.bl xs.isEmpty) H
theorem Lb{X:Cx}(hu:X.A.units < De):OpR X (B3 .Eq) (pN X.K):=by
 intro i s σ H x y v u Q I k m h;obtain⟨a,b,w,rfl,rfl,t,o,q⟩:=h;cases(k);cases(m);obtain⟨p,f,c,_⟩:=I.list t;obtain⟨d,r,g,_⟩:=I.list o;have n:=Vals.zero r;subst n;cases f with
 |nil=>exact PySem.SeqAt.eq_listAt (e:=λ_=>ah) c.isList g.isList rfl hu (λj l=>g_ l (by simp)) ⟨_,H,I,(by rfl),q⟩
 |cons f z=>exact PySem.SeqAt.eq_list_lengthsAt c.isList g.isList (by simp) hu ⟨.bl ai,H,I,rfl,q⟩
def za(K:Ag):R2:=λx y H Q=>∃a b xs ys,x=.ref a/\y=.ref b/\SqT K H a xs/\SqT K H b ys/\ys≠[]/\xs.length+ys.length<=Ay /\
 (xs=[]->Q (.ref b) H)/\(xs≠[]->∀p,H p=af->Q (.ref p) (upd H p (.tup (xs++ys))))
theorem op_catA{X:Cx}:OpR X (E8 .Add) (za X.K):=by
 intro f s σ H x y v u Q I p q h;obtain⟨a,b,r,O,rfl,rfl,w,t,L,G,B,C⟩:=h;by_cases g:r=[]
 ·cases(p);cases(q);obtain⟨l,J,z,_⟩:=I.tuple w;obtain⟨c,S,P,_⟩:=I.tuple t;obtain⟨⟨R,A,_,N⟩,o,M,n,D⟩:=id z;obtain⟨⟨_,m,_,k⟩,d,i,E,j⟩:=id P;subst M D i j;exact concat_meets ⟨_,o,rfl⟩ ⟨_,d,rfl⟩ noFill_tuple_add seq_tuple_add F8 F4 (Fv _ _)
   (tuple_addW0 a b l.toArray c.toArray n E A m N k (by simp[(J.nil_iff.mpr g)])) ⟨o,d,⟨.ref b,H,I,rfl,B g⟩⟩
 ·exact op_catT f s σ H _ _ v u Q I p q ⟨a,b,r,O,rfl,rfl,w,t,g,G,λe=>g_ e L,λ_=>C g⟩
theorem RV{X:Cx}{T:String}:CallR X (.builtin "isinstance") (λxs H Q=>∃x t b,xs=[x,.ty T]/\TyOf X.K H x t/\PySem.W.kitOne X.K t (.type T)=ae b/\Q (.bl b) H):=by
 intro c s σ H xs i Q I r h;obtain⟨x,t,b,rfl,ty,e,q⟩:=h;obtain⟨u,f,rfl,d,a⟩:=vZ r;cases(a);exact RP I d ty e λtk=>⟨.bl b,H,I.tok tk,rfl,q⟩
section
variable{prog:A3}{w:Bi}{A:Bq}{E:Af->Ai->Prop}{s:Ai}
theorem z9:entryFor table "dict.update.loop"=ae Ep.«dict.update.loop»:=G4 (by kernel_rfl)
theorem zo:plainId "dict.update.loop"=ah:=by decide +kernel
theorem Jv:typeLookup (.type "tuple") "keys"=pure af:=by rw[typeLookup_type,builtinLookup_eq_fast];kernel_rfl
theorem Ip{a:A'}{i':List Af}{Q:List Af->Ai->Prop}(p:IsTup s.heap a i'.toArray)(h:Q i' s):A6 (A9 prog w) A (Builtin.Dict.pairItems (.ref a)) Q E s:=by
 obtain⟨o,b,c,n,d⟩:=id p;refine Aa (Gx (⟨o,b,c⟩) (Aa (Dy b d (Aj ?_))));simpa using h
set_option maxRecDepth 8000 in
theorem Mn{a:A'}{o:Obj}{xs:Array Af}{k:Nat}{name:Str}{Q:Option Af->Ai->Prop}
  (hx:s.heap.get? a=ae o) (hc:o.cls=.type "tuple") (hdat:o.data=.seq xs k) (hd:o.dict=af) (hmiss:typeLookup (.type "tuple") name=pure af) (hname:(["__module__","__name__","__qualname__","__doc__","__annotations__"]:List Str).contains name=ai) (hA:A.handled=af)
  (h:∀h' tk e,Heap.NewExcOf s.heap h' e "AttributeError"->Q af {s with heap:=h',toks:=tk}) (hsz:name.length+100<=Ay:=by size_fits):
  A6 (A9 prog w) A (getAttr? (.ref a) name) Q E s:=by
 obtain⟨c,u,r,v⟩:=o;simp only at hc hdat hd;subst hc hdat hd;obtain⟨t,g,d,tk,q⟩:=s;have n:∀m,(⟨t,g,d,m,q⟩:Ai).TypeIs (.ref a) "tuple":=λ_=>⟨_,hx,rfl⟩;have C:=sub_AttributeError;have z:=F.slot_tuple_getattribute.lookup;have G:=F.slot_tuple_getattribute.bind (.ref a);have D:=am_tuple_getattr_none;unfold getAttr? getAttrBy? getAttrBy
 repeat (any_goals (first|assumption|exact n _|((with_reducible show A6 _ _ (call _ _ _) _ _ _);refine call_meets F.slot_tuple_getattribute (n _) am_entry_tuple_getattribute (F.args_tuple_getattribute_2 _ _) (meets_getattribute_miss_tuple a xs k v name _ hmiss hname hsz) ⟨hx,hA,λh' m e l=>?_⟩)|wp_step))
 obtain⟨B,y,x⟩:=l.there;show A6 _ _ _ _ _ _;simp
 repeat (any_goals (first|assumption|wp_step))
 exact h _ _ _ l.of
end
section
variable{X:Cx}{i_:List (A'×Obj)}{σ:St}{A:Bq}{R:Result->Ai->Prop}
theorem SqT.upd{K:Ag}{H:Hp}{a d:A'}{xs:List V}{o:HO}(h:H a=ae (.tup xs))(hd:a≠d):(L2.upd H d o) a=ae (.tup xs):=by rw[aG hd];exact h
theorem KC(hA:A.handled=af){src d it:A'}(ps:List (A'×aC×V)):∀(n i:Nat)(H:Hp)(s:Ai)(kvs:List (aC×V)),n+i=ps.length->Inv X i_ σ H s->H d=ae (.dK kvs)->kvs.length+n<=Ay->
  H src=ae (.tup (ps.map λp=>.ref p.1))->(∀p∈ps,H p.1=ae (.tup [kV p.2.1,p.2.2]))->s.heap.IsTupleIter it src i->cE X i_ H it->
  (∀H' s',Inv X i_ σ H' s'->H'=L2.upd H d (.dK (jB kvs ((ps.drop i).map (·.2))))->R (.ok (.ret .none)) s')->
  codeAny (A9 X.prog X.w) A (.builtin "dict.update.loop" ⟨[.ref d,.ref it,D5 i,.none],[]⟩) R s:=by
 intro n
 induction n with
 |zero=>
  intro i H s kvs hn I x hz l v O f S;obtain⟨G,D,p,_⟩:=I.tuple (SqT.of l);obtain⟨m,C,W,B,y,t⟩:=f;refine Eu z9 ?_;have hl:=D.length;rw[Ab]at hl;refine Aa (wpAny_pyNext_tuple_end hA O (p) (by simp;omega) λh' eb=>Aa (Aj (Aj ?_)));refine S H _ (I.turned (λb o g e=>eb b o g e) m C B y t) ?_;have e1:ps.drop i=[]:=List.drop_eq_nil_of_le ⋯;rw[e1]
  funext b
  unfold L2.upd
  split
  ·rename_i g;rw[g,x];rfl
  ·rfl
 |succ n ih=>
  intro i H s kvs hn I x hz l v O f S;obtain⟨G,D,p,_⟩:=I.tuple (SqT.of l);obtain⟨m,C,W,B,y,t⟩:=id f;have L:i < ps.length:=by omega
  have Q:(ps.map λp=>V.ref p.1)[i]?=ae (V.ref (ps[i]).1):=by simp[L]
  obtain⟨u,hu,ru⟩:=D.get Q;cases(ru);have E:=v _ (C5 L);refine Eu z9 (Aa (wpAny_pyNext_tuple_item O (p) (by simpa using hu) λh1 M sb=>?_));have F:Inv X i_ σ H {s with heap:=h1}:=I.turned (λb o g e=>(sb.2 b g).trans e) m C B y t;obtain⟨T,P,p1,_⟩:=F.tuple (SqT.of E);obtain⟨u1,u2,rfl,r1,r2⟩:=vZ P;refine Aa (Cc (Aa (wpAny_tryCatch (Ip p1 ?_))));obtain⟨z,J,vs,c,Z⟩:=wW F.hok x;have hz1:vs.length<=Ay:=by rw[<-c.length];exact z
  have hl1:=qt kvs (ps[i]).2.1 (ps[i]).2.2;refine Cc (wpAny_dictSet_pairs (lr r1) Z λh2 h a=>?_);have N:∃q,h2.get? d=ae q:=let⟨q,_,_,E,_⟩:=h;⟨q,E⟩;have U:∀b Y,H b=ae (.tup Y)->b≠d:=λb Y e z=>by simp_all
  have j:it≠d:=λz=>by simp_all
  have hc:(i+1)=((i+1:Nat):Int):=by push_cast;rfl
  refine Aj ⟨Gb zo _,?_⟩;refine ih (i+1) _ _ _ ⋯ (kX (t':=s.toks+1) F (by rw[x];trivial) a N (BW ⋯ J (c.put (ps[i]).2.1 r2) h)) a9 ⋯ (SqT.upd (K:=X.K) l (U _ _ l)) (λq k=>SqT.upd (K:=X.K) (v q k) (U _ _ (v q k))) (by
   obtain⟨o,e,r⟩:=M;exact⟨o,(a.2 it j).trans e,r⟩) ⟨by rw[aG j];exact m,C,W,B,y,t⟩ λH' s' I' e=>S H' s' I' ?_;rw[e,uj,Fz L];rfl
theorem dD{n:Nat}(h:n<=1000):n<=Ay:=Gn (yE h)
theorem Sb(hh:X.A.handled=af):CallR X (.type "dict") (λxs H Q=>∃(src:A')(ps:List (A'×aC×V)),xs=[.ref src]/\H src=ae (.tup (ps.map λp=>V.ref p.1))/\(∀p∈ps,H p.1=ae (.tup [kV p.2.1,p.2.2]))/\ps.length<=1000 /\
  ∀l,H l=af->Q (.ref l) (L2.upd H l (.dK (jB [] (ps.map (·.2)))))):=by
 intro i s σ H xs U Q I r h;obtain⟨src,ps,rfl,J,B,x,q⟩:=h;obtain⟨u,rfl,P⟩:=eL r;cases(P);refine callType_codes (Q₁:=λobj L=>obj=.ref s.heap.objs.size/\L={ s with heap:=s.heap.push {cls:=.type "dict",data:=.dict #[]}}) F.kt_called_dict (F.kt_typeCall_dict_1 _) F.entry_dict_init (kt_code_dict_new _ ⟨rfl,rfl⟩) ?_
 rintro obj L ⟨rfl,rfl⟩
 have t:=I.fresh;have G:Inv X i σ _ {s with heap:=s.heap.push {cls:=.type "dict",data:=.dict #[]}}:=I.laid (λb o e=>Ae _ e) (Al _) (xP s.heap I.big);have E:∀b xs,H b=ae (.tup xs)->b≠s.heap.objs.size:=λb xs e z=>by simp_all
 have f:=SqT.upd (K:=X.K) (o:=.dK []) J (E _ _ J);obtain⟨S,N,T,o,k,v,⟨n,c⟩,M⟩:=(show ObjOk X.prog X.w _ _ src (.tup _)from G.hok src _ f);have a:(s.heap.push {cls:=.type "dict",data:=.dict #[]}).DictOf (fj X.prog X.w) s.heap.objs.size []:=Heap.DictOf.new s.heap;refine⟨a.typeIs,F.args_dict_init_2 _ _,Aa ?_⟩;refine Aa (wpAny_notOrdered_dict a.typeIs (Aj ?_));show A6 _ _ _ _ _ _;refine Aa (Gx ⟨o,k,v⟩ (Aa (Mn k v c M Jv (by rfl) hh (λh' y e C=>?_))));have j:=G.kept (t':=y) C.keeps;refine Aa (Fh (Aa (D6 ((IsTup.keeps ⟨o,k,v,n,c⟩ C.keeps)) ?_)));refine Aj ⟨Gb zo _,?_⟩;refine KC (A:=X.A.in1) hh ps ps.length 0 _ _ [] ⋯ (j.kept (t':=y) (λb o e=>Ae {cls:=.type "tuple_iterator",data:=.fields #[.ref src,.int 0 0]} e)) a9 (by simp;exact dD ⋯) f (λq D=>SqT.upd (K:=X.K) (B q D) (E _ _ (B q D))) ⟨_,Ax _ rfl,rfl,rfl⟩ (j.fpOk (Al _) j.fresh) λH' Y O e=>?_;refine⟨rfl,.ref s.heap.objs.size,H',O,rfl,?_⟩;rw[e,uj];exact q _ t
end
theorem Jx{X:Cx}:OpR X (B3 .LtE) (λx y H Q=>∃i j,x=.str i/\y=.str j/\Q (.bl (!decide (j.cps.toList < i.cps.toList))) H):=by
 intro a s σ H x y v u Q I b c h;obtain⟨i,j,rfl,rfl,q⟩:=h;obtain⟨t,rfl⟩:=b;obtain⟨d,rfl⟩:=c;exact P.le_str (cf I q rfl)
theorem PD{X:Cx}:OpR X (B3 .Gt) (λx y H Q=>∃i j,x=.str i/\y=.str j/\Q (.bl (decide (j.cps.toList < i.cps.toList))) H):=by
 intro a s σ H x y v u Q I b c h;obtain⟨i,j,rfl,rfl,q⟩:=h;obtain⟨t,rfl⟩:=b;obtain⟨d,rfl⟩:=c;exact P.gt_str (cf I q rfl)
def p5:Ad->String
 |.none=>"NoneType"
 |.bool _=>"bool"
 |.int _=>"int"
 |.str _=>"str"
 |.list _=>"list"
 |.tuple _=>"tuple"
 |.dict _=>"dict"
def i4(T:String)(d:Ad):Bool:=p5 d==T || (T=="int"&&p5 d=="bool")
def cH(h:Str):Ad->Bool
 |.str x=>decide (x=h)
 |_=>ai
end L2
namespace Nb
open PySem L2
def kW:Bool:=ah
def oS:List V:=[.non,.non,.non,.int 1,.int 2]
def ky:List Ad:=[.none,.none,.none,.int 1,.int 2]
end Nb
set_option Elab.async false
set_option maxRecDepth 100000
namespace Nb
open PySem L2
def Kp(t:A')(H H':Hp):Prop:=∀b o,H b=ae o->b≠t->H' b=ae o
theorem Kp.refl(t:A')(H:Hp):Kp t H H:=λ_ _ h _=>h
theorem Kp.trans{t:A'}{H H1 H2:Hp}(a:Kp t H H1)(b:Kp t H1 H2):Kp t H H2:=λc o h n=>b c o (a c o h n) n
theorem Kp.new{t p:A'}{H:Hp}{o:HO}(h:H p=af):Kp t H (upd H p o):=λc a e _=>by
 rw[aG (bu e h)];exact e
theorem Kp.tape{t:A'}{H:Hp}{o:HO}:Kp t H (upd H t o):=λc a e n=>by
 rw[aG n];exact e
structure TL where
 s:A'
 g:A'
def jY(l:TL):List V:=if kW=ah then[.ref l.g]else[]
structure Tp(H:Hp)(t:A')(l:TL)(ns:List Int)(n:Int):Prop where
 ob:∃a b:Int,H t=ae (.lst (.ref l.s::.int a::.int b::jY l))/\0<=a/\a<=n
 ls:H l.s=ae (.lst (ns.map V.int))
 len:ns.length<=63
 ag:kW=ah->H l.g=ae (.lst oS)
 gne:l.g≠t
theorem Tp.ne{H:Hp}{t:A'}{l:TL}{ns:List Int}{n:Int}(T:Tp H t l ns n):t≠l.s:=by
 obtain⟨a,b,h,_⟩:=T.ob;refine xY h T.ls λz=>?_;cases ns with
 |nil=>cases(HO.lst.inj z)
 |cons m r=>
  simp_all
theorem Tp.other{H:Hp}{t p:A'}{l:TL}{ns:List Int}{n:Int}{o:HO}(T:Tp H t l ns n)(h1:t≠p)(h2:l.s≠p)(h3:kW=ah->l.g≠p):Tp (upd H p o) t l ns n:=by
 obtain⟨a,b,e,h⟩:=T.ob;exact⟨⟨a,b,by rw[aG h1];trivial⟩,by rw[aG h2];exact T.ls,T.len,λz=>by rw[aG (h3 z)];exact T.ag z,T.gne⟩
theorem Tp.new{H:Hp}{t p:A'}{l:TL}{ns:List Int}{n:Int}{o:HO}(T:Tp H t l ns n)(h:H p=af):Tp (upd H p o) t l ns n:=by
 obtain⟨a,b,e,_⟩:=T.ob;exact T.other (bu e h) (bu T.ls h) λz=>bu (T.ag z) h
theorem Lh{xs:List V}{r:Int}(h0:0<=r)(h1:r < xs.length):∃v,cx xs r=ae v/\v∈xs:=by
 obtain⟨j,rfl⟩:=Int.eq_ofNat_of_zero_le h0;have a:j < xs.length:=by omega
 exact⟨_,d7 (Ah a),C5 a⟩
theorem small{n:Nat}(h:n<=1000):n<=Ay:=Gn (yE h)
theorem QN:Bz "tuple"=ae (.type "tuple"):=by rfl
theorem Sd:Bz "dict"=ae (.type "dict"):=by rfl
theorem Kj:Bz "int"=ae (.type "int"):=by rfl
theorem OY:Bz "str"=ae (.type "str"):=by rfl
theorem Qs:Bz "repr"=ae (.builtin "repr"):=by rfl
theorem xj:Bz "isinstance"=ae (.builtin "isinstance"):=by rfl
theorem qK:Bz "list"=ae (.type "list"):=by rfl
theorem IU:Bz "bool"=ae (.type "bool"):=by rfl
theorem N8{xs:List V}(h:xs.length<=63):fo xs af (ae 63)=xs:=by
 unfold fo;have c:HT.sIx xs.length 0 af=0:=rfl;have b:HT.sIx xs.length xs.length (ae 63)=xs.length:=by
  have e:=HT.sIx_nat xs.length xs.length 63;simp_all
 simp_all
def vW:Sp:=λvs H Q _=>∃(t:A')(l:TL)(ns:List Int)(n many:Int),vs=[.ref t,.int many]/\Tp H t l ns n/\n < 2 ^ 40/\0 < many/\many < 1073741824 /\
 ∀(r:Int)(H':Hp),0<=r->r < many->Tp H' t l ns (n+1)->Kp t H H'->Q (.int r) H'
end Nb
namespace DL
open PySem L2 Nb
abbrev D:=Ad
mutual
inductive RdX(H:Hp)(B:A'->Prop):V->Ad->Prop
 |non:RdX H B .non .none
 |bl (b:Bool):RdX H B (.bl b) (.bool b)
 |int (i:Int):RdX H B (.int i) (.int i)
 |str (x:Str) (h:x.length<=Ay):RdX H B (.str x) (.str x)
 |lst {a:A'} {xs:List V} {ds:List Ad}:H a=ae (.lst xs)->¬B a->xs.length<=Ay->RdXs H B xs ds->RdX H B (.ref a) (.list ds)
 |tup {a:A'} {xs:List V} {ds:List Ad}:H a=ae (.tup xs)->¬B a->xs.length<=Ay->RdXs H B xs ds->RdX H B (.ref a) (.tuple ds)
inductive RdXs(H:Hp)(B:A'->Prop):List V->List Ad->Prop
 |nil:RdXs H B [] []
 |cons {x:V} {xs:List V} {d:Ad} {ds:List Ad}:RdX H B x d->RdXs H B xs ds->RdXs H B (x::xs) (d::ds)
end
mutual
theorem RdX.move{H H':Hp}{B B':A'->Prop}(k:∀b o,H b=ae o->¬B b->H' b=ae o/\¬B' b):∀{v:V}{d:Ad},RdX H B v d->RdX H' B' v d
 |_,_,.non=>.non
 |_,_,.bl b=>.bl b
 |_,_,.int i=>.int i
 |_,_,.str x h=>.str x h
 |_,_,.lst h1 h2 h3 h4=>.lst (k _ _ h1 h2).1 (k _ _ h1 h2).2 h3 (RdXs.move k h4)
 |_,_,.tup h1 h2 h3 h4=>.tup (k _ _ h1 h2).1 (k _ _ h1 h2).2 h3 (RdXs.move k h4)
theorem RdXs.move{H H':Hp}{B B':A'->Prop}(k:∀b o,H b=ae o->¬B b->H' b=ae o/\¬B' b):∀{vs:List V}{ds:List Ad},RdXs H B vs ds->RdXs H' B' vs ds
 |_,_,.nil=>.nil
 |_,_,.cons h1 h2=>.cons (RdX.move k h1) (RdXs.move k h2)
end
section
variable{H H':Hp}{B B':A'->Prop}{v:V}{d:Ad}{vs ws:List V}{ds es:List Ad}{t:A'}
theorem RdX.kp(k:Kp t H H')(ht:B t)(h:RdX H B v d):RdX H' B v d:=h.move λb o e n=>⟨k b o e λz=>n (z▸ht),n⟩
theorem RdXs.kp(k:Kp t H H')(ht:B t)(h:RdXs H B vs ds):RdXs H' B vs ds:=h.move λb o e n=>⟨k b o e λz=>n (z▸ht),n⟩
theorem RdX.less(k:∀b,B' b->B b)(h:RdX H B v d):RdX H B' v d:=h.move λb o e n=>⟨e,λz=>n (k b z)⟩
theorem RdXs.less(k:∀b,B' b->B b)(h:RdXs H B vs ds):RdXs H B' vs ds:=h.move λb o e n=>⟨e,λz=>n (k b z)⟩
theorem RdXs.keep(k:∀b o,H b=ae o->¬B b->H' b=ae o)(h:RdXs H B vs ds):RdXs H' B vs ds:=h.move λb o e n=>⟨k b o e n,n⟩
theorem RdXs.len:∀{vs:List V}{ds:List Ad},RdXs H B vs ds->vs.length=ds.length
 |_,_,.nil=>rfl
 |_,_,.cons _ t=>by rw[Au,Au,RdXs.len t]
theorem RdXs.get:∀{vs:List V}{ds:List Ad}{i:Nat}{v:V},RdXs H B vs ds->vs[i]?=ae v->∃d,ds[i]?=ae d/\RdX H B v d
 |_,_,_,_,.nil,e=>by simp at e
 |_,_,0,_,.cons h _,e=>by
  simp at e;subst e;exact⟨_,rfl,h⟩
 |_,_,i+1,v,.cons _ t,e=>by
  obtain⟨d,b,a⟩:=RdXs.get t (by assumption);exact⟨d,by simpa using b,a⟩
theorem RdXs.getD:∀{vs:List V}{ds:List Ad}{i:Nat}{d:Ad},RdXs H B vs ds->ds[i]?=ae d->∃v,vs[i]?=ae v/\RdX H B v d
 |_,_,_,_,.nil,e=>by simp at e
 |_,_,0,_,.cons h _,e=>by
  simp at e;subst e;exact⟨_,rfl,h⟩
 |_,_,i+1,d,.cons _ t,e=>by
  obtain⟨v,b,a⟩:=RdXs.getD t (by assumption);exact⟨v,by simpa using b,a⟩
theorem RdXs.append:∀{vs ws:List V}{ds es:List Ad},RdXs H B vs ds->RdXs H B ws es->RdXs H B (vs++ws) (ds++es)
 |_,_,_,_,.nil,h=>h
 |_,_,_,_,.cons b a,h=>.cons b (RdXs.append a h)
theorem RdXs.set:∀{vs:List V}{ds:List Ad}(i:Nat){v:V}{d:Ad},RdXs H B vs ds->RdX H B v d->RdXs H B (vs.set i v) (ds.set i d)
 |_,_,_,_,_,.nil,_=>.nil
 |_,_,0,_,_,.cons _ t,h=>.cons h t
 |_,_,i+1,_,_,.cons q t,h=>.cons q (RdXs.set i t h)
theorem RdXs.take:∀{vs:List V}{ds:List Ad}(n:Nat),RdXs H B vs ds->RdXs H B (vs.take n) (ds.take n)
 |_,_,0,_=>.nil
 |_,_,_+1,.nil=>.nil
 |_,_,n+1,.cons r t=>.cons r (RdXs.take n t)
theorem RdXs.drop:∀{vs:List V}{ds:List Ad}(n:Nat),RdXs H B vs ds->RdXs H B (vs.drop n) (ds.drop n)
 |_,_,0,r=>r
 |_,_,_+1,.nil=>.nil
 |_,_,n+1,.cons _ t=>RdXs.drop n t
end
mutual
theorem RdX.rd{K:Ag}{H:Hp}{B:A'->Prop}:∀{v:V}{d:Ad},RdX H B v d->RdD K H v d
 |_,_,.non=>.non
 |_,_,.bl b=>.bl b
 |_,_,.int i=>.int i
 |_,_,.str x h=>.str x
 |_,_,.lst h1 h2 h3 h4=>.lst (SqL.of h1) (RdXs.rd h4)
 |_,_,.tup h1 h2 h3 h4=>.tup (SqT.of h1) (RdXs.rd h4)
theorem RdXs.rd{K:Ag}{H:Hp}{B:A'->Prop}:∀{vs:List V}{ds:List Ad},RdXs H B vs ds->RdAll K H vs ds
 |_,_,.nil=>.nil
 |_,_,.cons h1 h2=>.cons (RdX.rd h1) (RdXs.rd h2)
end
inductive Ob where
 |o|p (d:Ad)|k (m:List (aC×Ad))|q (d:Ad) (m:List (aC×Ad))|x (m:List (TK×Ad))|y (m:List (TK×Ad))
inductive Wv where
 |d (x:Ad)|tp|dk (kvs:List (aC×Ad))|ln (ds:List Ad)|ob (o:Ob)|dx (kvs:List (TK×Ad))
def Wv.lent:Wv->Bool
 |.dk _=>ah
 |.dx _=>ah
 |.ln _=>ah
 |_=>ai
inductive SV where
 |w (x:Wv)|own (ds:List Ad)|odk (kvs:List (aC×Ad))|odt (kvs:List (List aC×Ad))|odx (kvs:List (TK×Ad))
abbrev Sl:=List (Option SV)
def RdK(H:Hp)(B:A'->Prop):List (aC×V)->List (aC×Ad)->Prop:=Paired λp q=>p.1=q.1/\RdX H B p.2 q.2
theorem RdK.move{H H':Hp}{B B':A'->Prop}(k:∀b o,H b=ae o->¬B b->H' b=ae o/\¬B' b){l:List (aC×V)}{m:List (aC×Ad)}(h:RdK H B l m):RdK H' B' l m:=
 Paired.mapP h λ_ _ z=>⟨z.1,z.2.move k⟩
def RdT(H:Hp)(B:A'->Prop):List (List aC×V)->List (List aC×Ad)->Prop:=Paired λp q=>p.1=q.1/\RdX H B p.2 q.2
theorem RdT.move{H H':Hp}{B B':A'->Prop}(k:∀b o,H b=ae o->¬B b->H' b=ae o/\¬B' b){l:List (List aC×V)}{m:List (List aC×Ad)}(h:RdT H B l m):RdT H' B' l m:=
 Paired.mapP h λ_ _ z=>⟨z.1,z.2.move k⟩
def RdY(H:Hp)(B:A'->Prop):List (TK×A'×V)->List (TK×Ad)->Prop:=Paired λp q=>p.1=q.1/\RdX H B (.ref p.2.1) p.1.1/\RdX H B p.2.2 q.2
theorem RdY.move{H H':Hp}{B B':A'->Prop}(k:∀b o,H b=ae o->¬B b->H' b=ae o/\¬B' b){l:List (TK×A'×V)}{m:List (TK×Ad)}(h:RdY H B l m):RdY H' B' l m:=
 Paired.mapP h λ_ _ z=>⟨z.1,z.2.1.move k,z.2.2.move k⟩
def ORel(H:Hp)(B:A'->Prop)(v:V):Ob->Prop
 |.o=>∃a,v=.ref a
 |.p d=>∃a x y,v=.ref a/\H a=ae (.tup [x,y])/\¬B a/\RdX H B x d
 |.k m=>∃a l,v=.ref a/\H a=ae (.dK l)/\¬B a/\RdK H B l m
 |.x m=>∃a l,v=.ref a/\H a=ae (.dX l)/\¬B a/\RdY H B l m
 |.y m=>∃a o l,v=.ref a/\H a=ae (.frz o (.dX l))/\¬B a/\RdY H B l m
 |.q d m=>∃a x b l,v=.ref a/\H a=ae (.tup [x,.ref b])/\¬B a/\RdX H B x d/\H b=ae (.dK l)/\¬B b/\RdK H B l m
theorem ORel.move{H H':Hp}{B B':A'->Prop}(k:∀b o,H b=ae o->¬B b->H' b=ae o/\¬B' b){v:V}{o:Ob}(h:ORel H B v o):ORel H' B' v o:=by
 cases o with
 |o=>exact h
 |p d=>
  obtain⟨a,x,y,e,f,c,g⟩:=h;exact⟨a,x,y,e,(k _ _ f c).1,(k _ _ f c).2,g.move k⟩
 |k m=>
  obtain⟨a,l,e,f,c,g⟩:=h;exact⟨a,l,e,(k _ _ f c).1,(k _ _ f c).2,g.move k⟩
 |y m=>
  obtain⟨a,o,l,e,f,c,g⟩:=h;exact⟨a,o,l,e,(k _ _ f c).1,(k _ _ f c).2,g.move k⟩
 |x m=>
  obtain⟨a,l,e,f,c,g⟩:=h;exact⟨a,l,e,(k _ _ f c).1,(k _ _ f c).2,g.move k⟩
 |q d m=>
  obtain⟨a,x,b,l,e,f,c,g,j,i,n⟩:=h;exact⟨a,x,b,l,e,(k _ _ f c).1,(k _ _ f c).2,g.move k,(k _ _ j i).1,(k _ _ j i).2,n.move k⟩
def WRel(H:Hp)(B:A'->Prop)(t:A')(v:V):Wv->Prop
 |.d x=>RdX H B v x
 |.tp=>v=.ref t
 |.dk kvs=>∃a l,v=.ref a/\H a=ae (.dK l)/\a≠t/\RdK H B l kvs
 |.dx kvs=>∃a l,v=.ref a/\H a=ae (.dX l)/\a≠t/\RdY H B l kvs
 |.ln ds=>∃a xs,v=.ref a/\H a=ae (.lst xs)/\a≠t/\xs.length<=Ay/\RdXs H B xs ds
 |.ob o=>ORel H B v o
def SRel(H0:Hp)(H:Hp)(B:A'->Prop)(t:A')(v:V):SV->Prop
 |.w x=>WRel H B t v x/\(x.lent=ah->∃a,v=.ref a/\H0 a≠af)
 |.own ds=>∃a xs,v=.ref a/\H a=ae (.lst xs)/\B a/\H0 a=af/\xs.length<=Ay/\RdXs H B xs ds
 |.odk kvs=>∃a l,v=.ref a/\H a=ae (.dK l)/\B a/\H0 a=af/\l.length<=1000/\RdK H B l kvs
 |.odt kvs=>∃a l,v=.ref a/\H a=ae (.dT l)/\B a/\H0 a=af/\l.length<=1000/\RdT H B l kvs
 |.odx kvs=>∃a l,v=.ref a/\H a=ae (.dX l)/\B a/\H0 a=af/\l.length<=1000/\RdY H B l kvs
def SV.isOwn:SV->Bool
 |.w _=>ai
 |_=>ah
structure Ctx where
 t:A'
 l:TL
 ns:List Int
 H0:Hp
 B0:A'->Prop
 fz:Hp
structure Rel(C:Ctx)(H:Hp)(B:A'->Prop)(σ:St)(δ:Sl)(n:Int):Prop where
 tp:Tp H C.t C.l C.ns n
 kp:Kp C.t C.H0 H
 t0:C.H0 C.t≠af
 l0:C.H0 C.l.s≠af
 g0:kW=ah->C.H0 C.l.g≠af
 fz:∀b o,C.fz b=ae o->H b=ae o/\¬B b
 bt:B C.t
 b0:∀b,C.B0 b->B b
 ba:∀b,B b->H b≠af
 a0:∀b,C.B0 b->C.H0 b≠af
 sl:∀(i:Nat)(x:SV),δ[i]?=ae (ae x)->∃v,σ[i]?=ae (ae v)/\SRel C.H0 H B C.t v x
 ow:∀(i j:Nat)(x y:SV)(v:V),δ[i]?=ae (ae x)->δ[j]?=ae (ae y)->x.isOwn=ah->y.isOwn=ah->σ[i]?=ae (ae v)->σ[j]?=ae (ae v)->i=j
 len:σ.length=δ.length
theorem WRel.kp{H H':Hp}{B:A'->Prop}{t:A'}{v:V}{x:Wv}(k:Kp t H H')(ht:B t)(h:WRel H B t v x):WRel H' B t v x:=by
 cases x with
 |d x=>exact RdX.kp k ht h
 |tp=>exact h
 |dk i=>
  obtain⟨a,l,e,g,c,f⟩:=h;exact⟨a,l,e,k _ _ g c,c,f.move λb o e n=>⟨k b o e λz=>n (z▸ht),n⟩⟩
 |dx i=>
  obtain⟨a,l,e,g,c,f⟩:=h;exact⟨a,l,e,k _ _ g c,c,f.move λb o e n=>⟨k b o e λz=>n (z▸ht),n⟩⟩
 |ln p=>
  obtain⟨a,l,e,g,c,f,j⟩:=h;exact⟨a,l,e,k _ _ g c,c,f,j.kp k ht⟩
 |ob o=>exact ORel.move (λb o e n=>⟨k b o e λz=>n (z▸ht),n⟩) h
theorem WRel.less{H:Hp}{B B':A'->Prop}{t:A'}{v:V}{x:Wv}(k:∀b,B' b->B b)(h:WRel H B t v x):WRel H B' t v x:=by
 cases x with
 |d x=>exact RdX.less k h
 |tp=>exact h
 |dk i=>
  obtain⟨a,l,e,g,c,f⟩:=h;exact⟨a,l,e,g,c,f.move λb o e n=>⟨e,λz=>n (k b z)⟩⟩
 |dx i=>
  obtain⟨a,l,e,g,c,f⟩:=h;exact⟨a,l,e,g,c,f.move λb o e n=>⟨e,λz=>n (k b z)⟩⟩
 |ln p=>
  obtain⟨a,l,e,g,c,f,j⟩:=h;exact⟨a,l,e,g,c,f,j.less k⟩
 |ob o=>exact ORel.move (λb o e n=>⟨e,λz=>n (k b z)⟩) h
theorem SRel.kp{H0 H H':Hp}{B:A'->Prop}{t:A'}{v:V}{x:SV}(k:Kp t H H')(ht:B t)(t0:H0 t≠af)(h:SRel H0 H B t v x):SRel H0 H' B t v x:=by
 cases x with
 |w x=>exact⟨h.1.kp k ht,h.2⟩
 |own u=>
  obtain⟨a,r,e,i,d,c,g,f⟩:=h;exact⟨a,r,e,k _ _ i (λz=>t0 (z▸c)),d,c,g,f.kp k ht⟩
 |odk j=>
  obtain⟨a,l,e,i,d,c,g,f⟩:=h;exact⟨a,l,e,k _ _ i (λz=>t0 (z▸c)),d,c,g,f.move λb o e n=>⟨k b o e λz=>n (z▸ht),n⟩⟩
 |odt j=>
  obtain⟨a,l,e,i,d,c,g,f⟩:=h;exact⟨a,l,e,k _ _ i (λz=>t0 (z▸c)),d,c,g,f.move λb o e n=>⟨k b o e λz=>n (z▸ht),n⟩⟩
 |odx j=>
  obtain⟨a,l,e,i,d,c,g,f⟩:=h;exact⟨a,l,e,k _ _ i (λz=>t0 (z▸c)),d,c,g,f.move λb o e n=>⟨k b o e λz=>n (z▸ht),n⟩⟩
theorem Rel.step{C:Ctx}{H H':Hp}{B:A'->Prop}{σ:St}{δ:Sl}{n n':Int}(R:Rel C H B σ δ n)(T:Tp H' C.t C.l C.ns n')(k:Kp C.t H H'):Rel C H' B σ δ n' where
 tp:=T
 kp:=R.kp.trans k
 t0:=R.t0
 l0:=R.l0
 g0:=R.g0
 fz:=λb o e=>⟨k b o (R.fz b o e).1 λz=>(R.fz b o e).2 (z▸R.bt),(R.fz b o e).2⟩
 bt:=R.bt
 b0:=R.b0
 ba:=λb c e=>by
  by_cases z:b=C.t
  ·subst z;obtain⟨x,_⟩:=T.ob;simp_all
  ·cases q:H b with
   |none=>exact R.ba b c q
   |some o=>rw[k b o q z]at e;cases e
 a0:=R.a0
 sl:=λi x e=>by
  obtain⟨v,d,a⟩:=R.sl i x e;exact⟨v,d,a.kp k R.bt R.t0⟩
 ow:=R.ow
 len:=R.len
theorem Rel.new{C:Ctx}{H:Hp}{B:A'->Prop}{σ:St}{δ:Sl}{n:Int}{p:A'}{o:HO}(R:Rel C H B σ δ n)(h:H p=af):Rel C (upd H p o) B σ δ n:=R.step (R.tp.new h) (Kp.new h)
theorem Rel.nb{C:Ctx}{H:Hp}{B:A'->Prop}{σ:St}{δ:Sl}{n:Int}{p:A'}(R:Rel C H B σ δ n)(h:H p=af):¬B p:=λz=>R.ba p z h
theorem eF{α:Type}{l:List (Option α)}{i j:Nat}{x y:α}(h:(l.set i (ae x))[j]?=ae (ae y)):(j=i/\y=x)\/(j≠i/\l[j]?=ae (ae y)):=by
 by_cases e:i=j
 ·subst e;rw[Cz]at h;cases q:l[i]? with
  |none=>rw[q]at h;cases h
  |some z=>
   rw[q]at h;exact .inl ⟨rfl,(Bw (Bw h)).symm⟩
 ·rw[Bh e]at h;exact .inr ⟨λz=>e z.symm,h⟩
theorem qF{α:Type}{l:List (Option α)}{i:Nat}{x y:Option α}(h:(l.set i x)[i]?=ae y):i < l.length:=by
 have:=(Ar.mp h).1;rwa [Cb]at this
theorem oe{α:Type}{l:List (Option α)}{i:Nat}{x:α}(h:i < l.length):(l.set i (ae x))[i]?=ae (ae x):=by simp[h]
theorem js{α:Type}{l:List (Option α)}{i j:Nat}{x:α}(h:j≠i):(l.set i (ae x))[j]?=l[j]?:=Bh (λz=>h z.symm)
theorem Rel.set{C:Ctx}{H:Hp}{B:A'->Prop}{σ:St}{δ:Sl}{n:Int}{i:Nat}{v:V}{x:Wv}(R:Rel C H B σ δ n)(h:WRel H B C.t v x)(hx:x.lent=ai):Rel C H B (σ.set i (ae v)) (δ.set i (ae (.w x))) n where
 tp:=R.tp
 kp:=R.kp
 t0:=R.t0
 l0:=R.l0
 g0:=R.g0
 fz:=R.fz
 bt:=R.bt
 b0:=R.b0
 ba:=R.ba
 a0:=R.a0
 sl:=λj y e=>by
  rcases eF e with⟨rfl,rfl⟩|⟨s,r⟩
  ·exact⟨v,oe (by rw[R.len];exact qF e),h,λz=>by rw[hx]at z;cases z⟩
  ·obtain⟨u,_⟩:=R.sl j y r;exact⟨u,by rw[js s];trivial⟩
 ow:=λj k y z u D A m q p o=>by
  rcases eF D with⟨rfl,rfl⟩|⟨l,f⟩
  ·cases m
  ·rcases eF A with⟨rfl,rfl⟩|⟨d,g⟩
   ·cases q
   ·rw[js l]at p;rw[js d]at o;exact R.ow j k y z u f g m q p o
 len:=by rw[Cb,Cb];exact R.len
theorem Rel.mut{C:Ctx}{H:Hp}{B:A'->Prop}{σ:St}{δ:Sl}{n:Int}{a:A'}{o:HO}(R:Rel C H B σ δ n)(hb:B a)(h0:C.H0 a=af)
  (ho:∀(i:Nat)(x:SV),δ[i]?=ae (ae x)->x.isOwn=ah->σ[i]?≠ae (ae (.ref a))):Rel C (upd H a o) B σ δ n where
 tp:=R.tp.other (λz=>R.t0 (z▸h0)) (λz=>R.l0 (z▸h0)) (λe z=>R.g0 e (z▸h0))
 kp:=λb q e s=>by
  rw[aG (bu e h0)];exact R.kp b q e s
 t0:=R.t0
 l0:=R.l0
 g0:=R.g0
 fz:=λb q e=>⟨by rw[aG λ(z:b=a)=>(R.fz b q e).2 (z▸hb)];exact(R.fz b q e).1,(R.fz b q e).2⟩
 bt:=R.bt
 b0:=R.b0
 ba:=λb E e=>by
  by_cases z:b=a
  ·rw[z,a9]at e;cases e
  ·rw[aG z]at e;exact R.ba b E e
 a0:=R.a0
 sl:=λi x e=>by
  obtain⟨v,K,g⟩:=R.sl i x e;have p:∀b q,H b=ae q->¬B b->upd H a o b=ae q/\¬B b:=λb q e n=>⟨by rw[aG λ(z:b=a)=>n (z▸hb)];exact e,n⟩;refine⟨v,K,?_⟩;cases x with
  |w x=>
   refine⟨?_,g.2⟩;cases x with
   |d x=>exact g.1.move p
   |tp=>exact g.1
   |dk m=>
    obtain⟨c,l,f,k,h,j⟩:=g.1;obtain⟨D,t,A⟩:=g.2 rfl;rw[f]at t;cases t;exact⟨c,l,f,by rw[aG λ(z:c=a)=>A (z▸h0)];exact k,h,j.move p⟩
   |dx m=>
    obtain⟨c,l,f,k,h,j⟩:=g.1;obtain⟨D,t,A⟩:=g.2 rfl;rw[f]at t;cases t;exact⟨c,l,f,by rw[aG λ(z:c=a)=>A (z▸h0)];exact k,h,j.move p⟩
   |ln G=>
    obtain⟨c,l,f,k,h,j,r⟩:=g.1;obtain⟨D,t,A⟩:=g.2 rfl;rw[f]at t;cases t;exact⟨c,l,f,by rw[aG λ(z:c=a)=>A (z▸h0)];exact k,h,j,r.move p⟩
   |ob o=>exact ORel.move p g.1
  |own G=>
   obtain⟨c,y,f,k,h,j,r,u⟩:=g;have s:c≠a:=λz=>ho i _ e rfl (by simp_all);exact⟨c,y,f,by rw[aG s];exact k,h,j,r,u.move p⟩
  |odk m=>
   obtain⟨c,y,f,k,h,j,r,u⟩:=g;have s:c≠a:=λz=>ho i _ e rfl (by simp_all);exact⟨c,y,f,by rw[aG s];exact k,h,j,r,u.move p⟩
  |odt m=>
   obtain⟨c,y,f,k,h,j,r,u⟩:=g;have s:c≠a:=λz=>ho i _ e rfl (by simp_all);exact⟨c,y,f,by rw[aG s];exact k,h,j,r,u.move p⟩
  |odx m=>
   obtain⟨c,y,f,k,h,j,r,u⟩:=g;have s:c≠a:=λz=>ho i _ e rfl (by simp_all);exact⟨c,y,f,by rw[aG s];exact k,h,j,r,u.move p⟩
 ow:=R.ow
 len:=R.len
theorem Rel.mutOwn{C:Ctx}{H:Hp}{B:A'->Prop}{σ:St}{δ:Sl}{n:Int}{i:Nat}{x x':SV}{a:A'}{o:HO}(R:Rel C H B σ δ n)(hi:δ[i]?=ae (ae x))(hx:x.isOwn=ah)(hσ:σ[i]?=ae (ae (.ref a)))(hb:B a)(h0:C.H0 a=af)
  (h:SRel C.H0 (upd H a o) B C.t (.ref a) x') (hx':x'.isOwn=ah):Rel C (upd H a o) B σ (δ.set i (ae x')) n:=by
 have I:Rel C H B σ (δ.set i af) n:={
  tp:=R.tp,kp:=R.kp,t0:=R.t0,l0:=R.l0,g0:=R.g0,fz:=R.fz,bt:=R.bt,b0:=R.b0,ba:=R.ba,a0:=R.a0
  sl:=λj y e=>by
   by_cases z:i=j
   ·subst z;rw[Cz]at e;simp_all
   ·rw[Bh z]at e;exact R.sl j y e
  ow:=λj k y z u F A v D s p=>by
   have g:∀{m:Nat}{w:SV},(δ.set i af)[m]?=ae (ae w)->δ[m]?=ae (ae w):=λ{m w} e=>by
    by_cases q:i=m
    ·subst q;rw[Cz,hi]at e;cases e
    ·rwa [Bh q]at e
   exact R.ow j k y z u (g F) (g A) v D s p
  len:=by rw[Cb];exact R.len}
 have d:Rel C (upd H a o) B σ _ n:=I.mut hb h0 λj y e G f=>by
  by_cases z:i=j
  ·subst z;rw[Cz,hi]at e;cases e
  ·rw[Bh z]at e;exact z (R.ow i j x y _ hi e hx G hσ f)
 exact{
  tp:=d.tp,kp:=d.kp,t0:=d.t0,l0:=d.l0,g0:=d.g0,fz:=d.fz,bt:=d.bt,b0:=d.b0,ba:=d.ba,a0:=d.a0
  sl:=λj y e=>by
   rcases eF e with⟨rfl,rfl⟩|⟨J,L⟩
   ·exact⟨_,hσ,h⟩
   ·exact d.sl j y (by rw[Bh λz=>J z.symm];omega)
  ow:=λj k y z u F A v D s p=>by
   rcases eF F with⟨rfl,rfl⟩|⟨K,r⟩
   ·rcases eF A with⟨rfl,rfl⟩|⟨E,l⟩
    ·rfl
    ·exact R.ow _ _ x z u hi l hx D s p
   ·rcases eF A with⟨rfl,rfl⟩|⟨E,l⟩
    ·exact R.ow _ _ y x u r hi v hx s p
    ·exact R.ow j k y z u r l v D s p
  len:=by rw[Cb];exact R.len}
theorem Rel.own{C:Ctx}{H H':Hp}{B:A'->Prop}{σ:St}{δ:Sl}{n n':Int}{i:Nat}{a:A'}{x:SV}(R:Rel C H B σ δ n)(R':Rel C H' B σ δ n')(k:Kp C.t H H')(h0:H a=af)(h1:H' a≠af)(hx:x.isOwn=ah)
  (h:SRel C.H0 H' (λb=>B b\/b=a) C.t (.ref a) x):Rel C H' (λb=>B b\/b=a) (σ.set i (ae (.ref a))) (δ.set i (ae x)) n' where
 tp:=R'.tp
 kp:=R'.kp
 t0:=R'.t0
 l0:=R'.l0
 g0:=R'.g0
 fz:=λb o e=>⟨(R'.fz b o e).1,λz=>z.elim (R'.fz b o e).2 λq=>bu (R.fz b o e).1 h0 q⟩
 bt:=.inl R.bt
 b0:=λb z=>.inl (R.b0 b z)
 ba:=λb z=>z.elim (R'.ba b) λq=>q▸h1
 a0:=R.a0
 sl:=λj y e=>by
  simp_all
  have I:∀b Q,H b=ae Q->¬B b->H' b=ae Q/\¬(B b\/b=a):=λb Q e n=>⟨k b Q e λz=>n (z▸R.bt),λz=>z.elim n λq=>bu e h0 q⟩;rcases eF e with⟨rfl,rfl⟩|⟨ne,e'⟩
  ·exact⟨_,oe (by rw[R.len];exact qF e),h⟩
  ·obtain⟨v,M,D⟩:=R.sl j y e';refine⟨v,by rw[js ne];exact M,?_⟩;cases y with
   |w y=>
    refine⟨?_,D.2⟩;cases y with
    |d y=>exact D.1.move I
    |tp=>exact D.1
    |dk G=>
     obtain⟨A,l,r,g,E,s⟩:=D.1;exact⟨A,l,r,k _ _ g E,E,s.move I⟩
    |dx G=>
     obtain⟨A,l,r,g,E,s⟩:=D.1;exact⟨A,l,r,k _ _ g E,E,s.move I⟩
    |ln N=>
     obtain⟨A,l,r,g,E,s,J⟩:=D.1;exact⟨A,l,r,k _ _ g E,E,s,J.move I⟩
    |ob o=>exact ORel.move I D.1
   |own N=>
    obtain⟨A,F,r,g,E,s,J,K⟩:=D;exact⟨A,F,r,k _ _ g (λz=>R.t0 (z▸s)),.inl E,s,J,K.move I⟩
   |odk G=>
    obtain⟨A,F,r,g,E,s,J,K⟩:=D;exact⟨A,F,r,k _ _ g (λz=>R.t0 (z▸s)),.inl E,s,J,K.move I⟩
   |odt G=>
    obtain⟨A,F,r,g,E,s,J,K⟩:=D;exact⟨A,F,r,k _ _ g (λz=>R.t0 (z▸s)),.inl E,s,J,K.move I⟩
   |odx G=>
    obtain⟨A,F,r,g,E,s,J,K⟩:=D;exact⟨A,F,r,k _ _ g (λz=>R.t0 (z▸s)),.inl E,s,J,K.move I⟩
 ow:=λj m y z u r g Z o2 M D=>by
  have out:∀{p:Nat}{w:SV},δ[p]?=ae _->w.isOwn=ah->σ[p]?=ae (ae (.ref a))->False:=λ{p w} e ow f=>by
   obtain⟨v,Y,S⟩:=R.sl p w e;rw[f]at Y;cases Y;cases w with
   |w _=>cases ow
   |own N=>
    obtain⟨A,F,r,g,_⟩:=S;simp_all
   |odk N=>
    obtain⟨A,F,r,g,_⟩:=S;simp_all
   |odt N=>
    obtain⟨A,F,r,g,_⟩:=S;simp_all
   |odx N=>
    obtain⟨A,F,r,g,_⟩:=S;simp_all
  rcases eF r with⟨rfl,rfl⟩|⟨P,V⟩
  ·rcases eF g with⟨rfl,rfl⟩|⟨L,O⟩
   ·rfl
   ·rw[oe (by rw[R.len];exact qF r)]at M;rw[js L]at D;simp_all
  ·rcases eF g with⟨rfl,rfl⟩|⟨L,O⟩
   ·rw[oe (by rw[R.len];exact qF g)]at D;rw[js P]at M;simp_all
   ·rw[js P]at M;rw[js L]at D;exact R.ow j m y z u V O Z o2 M D
 len:=by rw[Cb,Cb];exact R.len
theorem Rel.give{C:Ctx}{H:Hp}{B:A'->Prop}{σ:St}{δ:Sl}{n:Int}{i:Nat}{x:SV}{y:Wv}{a:A'}(R:Rel C H B σ δ n)(hi:δ[i]?=ae (ae x))(ox:x.isOwn=ah)(hv:σ[i]?=ae (ae (.ref a)))(e4:C.H0 a=af)(hy:WRel H (λb=>B b/\b≠a) C.t (.ref a) y)(hl:y.lent=ai):Rel C H (λb=>B b/\b≠a) σ (δ.set i (ae (.w y))) n:=by
 have f:∀b,(B b/\b≠a)->B b:=λb z=>z.1;exact{
  tp:=R.tp,kp:=R.kp,t0:=R.t0,l0:=R.l0,g0:=R.g0
  fz:=λb o e=>⟨(R.fz b o e).1,λz=>(R.fz b o e).2 z.1⟩
  bt:=⟨R.bt,λz=>R.t0 (z▸e4)⟩
  b0:=λb z=>⟨R.b0 b z,λq=>R.a0 b z (q▸e4)⟩
  ba:=λb z=>R.ba b z.1
  a0:=R.a0
  sl:=λj K e=>by
   rcases eF e with⟨rfl,rfl⟩|⟨F,E⟩
   ·exact⟨_,hv,hy,λz=>by rw[hl]at z;cases z⟩
   ·obtain⟨u,m,g⟩:=R.sl j K E;refine⟨u,m,?_⟩;cases K with
    |w y=>exact⟨g.1.less f,g.2⟩
    |own l=>
     obtain⟨p,d,v,A,s,r,D,h⟩:=g;exact⟨p,d,v,A,⟨s,λz=>F (R.ow j i _ _ _ E hi rfl ox m (by simp_all))⟩,r,D,h.less f⟩
    |odk l=>
     obtain⟨p,d,v,A,s,r,D,h⟩:=g;exact⟨p,d,v,A,⟨s,λz=>F (R.ow j i _ _ _ E hi rfl ox m (by simp_all))⟩,r,D,h.move λb o e n=>⟨e,λz=>n z.1⟩⟩
    |odt l=>
     obtain⟨p,d,v,A,s,r,D,h⟩:=g;exact⟨p,d,v,A,⟨s,λz=>F (R.ow j i _ _ _ E hi rfl ox m (by simp_all))⟩,r,D,h.move λb o e n=>⟨e,λz=>n z.1⟩⟩
    |odx l=>
     obtain⟨p,d,v,A,s,r,D,h⟩:=g;exact⟨p,d,v,A,⟨s,λz=>F (R.ow j i _ _ _ E hi rfl ox m (by simp_all))⟩,r,D,h.move λb o e n=>⟨e,λz=>n z.1⟩⟩
  ow:=λj k y z u U Q J L m g=>by
   rcases eF U with⟨rfl,rfl⟩|⟨T,G⟩
   ·cases J
   ·rcases eF Q with⟨rfl,rfl⟩|⟨O,I⟩
    ·cases L
    ·exact R.ow j k y z u G I J L m g
  len:=by rw[Cb];exact R.len}
theorem Rel.frz{C:Ctx}{H:Hp}{B:A'->Prop}{σ:St}{δ:Sl}{n:Int}{i:Nat}{ds:List Ad}(R:Rel C H B σ δ n)(hi:δ[i]?=ae (ae (.own ds))):∃B',Rel C H B' σ (δ.set i (↑(.list ds))) n:=by
 obtain⟨v,c,a,k,rfl,e,j,f,g,h⟩:=R.sl i _ hi;exact⟨_,R.give hi rfl c f (show RdX H _ _ (.list ds)from .lst e (λz=>z.2 rfl) g (h.less λb z=>z.1)) rfl⟩
theorem Rel.frzK{C:Ctx}{H:Hp}{B:A'->Prop}{σ:St}{δ:Sl}{n:Int}{i:Nat}{m:List (aC×Ad)}(R:Rel C H B σ δ n)(hi:δ[i]?=ae (ae (.odk m))):∃B',Rel C H B' σ (δ.set i (ae (.w (.ob (.k m))))) n:=by
 obtain⟨v,c,a,d,rfl,f,j,g,l,h⟩:=R.sl i _ hi;exact⟨_,R.give hi rfl c g ⟨a,d,rfl,f,λz=>z.2 rfl,h.move λb o e n=>⟨e,λz=>n z.1⟩⟩ rfl⟩
theorem Rel.frzX{C:Ctx}{H:Hp}{B:A'->Prop}{σ:St}{δ:Sl}{n:Int}{i:Nat}{m:List (TK×Ad)}(R:Rel C H B σ δ n)(hi:δ[i]?=ae (ae (.odx m))):∃B',Rel C H B' σ (δ.set i (ae (.w (.ob (.x m))))) n:=by
 obtain⟨v,c,a,d,rfl,f,j,g,k,h⟩:=R.sl i _ hi;exact⟨_,R.give hi rfl c g ⟨a,d,rfl,f,λz=>z.2 rfl,h.move λb o e n=>⟨e,λz=>n z.1⟩⟩ rfl⟩
abbrev DQ:=Wv->Int->Prop
abbrev DT:=Sl->Int->DQ->Prop
abbrev bZ:=Sl->Int->(Bool->Int->Prop)->Prop
abbrev cG:=Sl->Int->(List Wv->Int->Prop)->Prop
inductive ARel(H:Hp)(B:A'->Prop)(t:A'):List V->List Wv->Prop
 |nil:ARel H B t [] []
 |cons {v:V} {vs:List V} {x:Wv} {xs:List Wv}:WRel H B t v x->ARel H B t vs xs->ARel H B t (v::vs) (x::xs)
theorem ARel.kp{H H':Hp}{B:A'->Prop}{t:A'}(k:Kp t H H')(ht:B t):∀{vs:List V}{xs:List Wv},ARel H B t vs xs->ARel H' B t vs xs
 |_,_,.nil=>.nil
 |_,_,.cons a b=>.cons (a.kp k ht) (ARel.kp k ht b)
theorem ARel.len{H:Hp}{B:A'->Prop}{t:A'}:∀{vs:List V}{xs:List Wv},ARel H B t vs xs->vs.length=xs.length
 |_,_,.nil=>rfl
 |_,_,.cons _ b=>by rw[Au,Au,ARel.len b]
def dj(t:TE)(w:DT):Prop:=∀(C:Ctx)(H:Hp)(B:A'->Prop)(σ:St)(δ:Sl)(n:Int)(Q:DQ)(Q':VK),Rel C H B σ δ n->w δ n Q->
 (∀v x H' n',Rel C H' B σ δ n'->Kp C.t H H'->WRel H' B C.t v x->Q x n'->Q' v H')->t σ H Q'
def iS(t:TT)(w:bZ):Prop:=∀(C:Ctx)(H:Hp)(B:A'->Prop)(σ:St)(δ:Sl)(n:Int)(Q:Bool->Int->Prop)(Q':Bool->Hp->Prop),Rel C H B σ δ n->w δ n Q->
 (∀b H' n',Rel C H' B σ δ n'->Kp C.t H H'->Q b n'->Q' b H')->t σ H Q'
def iE(t:TA)(w:cG):Prop:=∀(C:Ctx)(H:Hp)(B:A'->Prop)(σ:St)(δ:Sl)(n:Int)(Q:List Wv->Int->Prop)(Q':List V->Hp->Prop),Rel C H B σ δ n->w δ n Q->
 (∀vs xs H' n',Rel C H' B σ δ n'->Kp C.t H H'->ARel H' B C.t vs xs->Q xs n'->Q' vs H')->t σ H Q'
abbrev dO:=Sl->Int->(List Ad->Int->Prop)->Prop
def iU(t:TE)(w:dO):Prop:=∀(C:Ctx)(H:Hp)(B:A'->Prop)(σ:St)(δ:Sl)(n:Int)(Q:List Ad->Int->Prop)(Q':VK),Rel C H B σ δ n->w δ n Q->
 (∀a xs ds H' n',Rel C H' B σ δ n'->Kp C.t H H'->H a=af->H' a=ae (.lst xs)->xs.length<=Ay->RdXs H' (λb=>B b\/b=a) xs ds->Q ds n'->Q' (.ref a) H')->t σ H Q'
structure DE(X:Cx)(e:Expr)(t:TE)(w:DT):Prop where
 pe:PE X e t
 sd:dj t w
structure DC(X:Cx)(e:Expr)(t:TT)(w:bZ):Prop where
 pt:PT X e t
 sd:iS t w
structure DCW(X:Cx)(e:Expr)(t:TT)(w:bZ):Prop where
 pw:PW X e t
 sd:iS t w
structure DA(X:Cx)(es:List Expr)(t:TA)(w:cG):Prop where
 pa:PA X es t
 sd:iE t w
structure DF(X:Cx)(e:Expr)(t:TE)(w:dO):Prop where
 pe:PE X e t
 sd:iU t w
variable{X:Cx}{a b c e:Expr}{ta tb tc te:TE}{wa wb wc we:DT}{pos:Pos}
def aj(i:Nat):DT:=λδ n Q=>match δ[i]? with
 |some (ae (.w x))=>Q x n
 |_=>False
theorem gh(i:Nat){x:Str}{p:Pos}(hN:X.N[i]?=ae x:=by rfl)(hv:dU X.env.scope x:=by first|exact Ci rfl|exact B5 (Ci rfl)|exact B5 (B5 rfl))(hd:(x==("__debug__":Str))=ai:=by decide)
  (r_:(x==("__classdict__":Str))=ai:=by decide):DE X (.Name x p) (aI i) (aj i):=⟨eY hN hv hd r_,λC H B σ δ n Q c R h k=>by
 unfold aj at h
 split at h
 ·rename_i x e;obtain⟨v,b,a⟩:=R.sl i _ e;exact⟨v,b,k v x H n R (Kp.refl _ _) a.1 h⟩
 ·exact h.elim⟩
def wC(d:Ad):DT:=λ_ n Q=>Q (.d d) n
theorem ml{v:V}{d:Ad}(h:∀H B,RdX H B v d):dj (tC v) (wC d):=λC H B σ δ n Q a R q k=>k v (.d d) H n R (Kp.refl _ _) (h H B) q
theorem CY{i j p}:DE X (.Constant (.int i) j p) (tC (.int i)) (wC (.int i)):=⟨bY,ml λ_ _=>.int i⟩
theorem t6{i j p}:DE X (.Constant (.bool i) j p) (tC (.bl i)) (wC (.bool i)):=⟨zb,ml λ_ _=>.bl i⟩
theorem xZ{j p}:DE X (.Constant .none j p) (tC .non) (wC .none):=⟨jV,ml λ_ _=>.non⟩
theorem LD{x j p}(h:Str.length x<=Ay:=by decide +kernel):DE X (.Constant (.str x) j p) (tC (.str x)) (wC (.str x)):=⟨O6,ml λ_ _=>.str x h⟩
theorem yf{x:Str}{i:Int}{tk:Tok}{p:Pos}(hg:Gl X x)(hm:X.mg x=ae (.int i tk))(hd:(x==("__debug__":Str))=ai:=by decide):DE X (.Name x p) (tC (.int i)) (wC (.int i)):=⟨uB hg hm ⟨tk,rfl⟩ hd,ml λ_ _=>.int i⟩
def w2(wa wb:DT)(g:Wv->Wv->Int->DQ->Prop):DT:=λδ n Q=>wa δ n λx n1=>wb δ n1 λy n2=>g x y n2 Q
def a8(r:R2)(g:Wv->Wv->Int->DQ->Prop):Prop:=∀(C:Ctx)(H:Hp)(B:A'->Prop)(σ:St)(δ:Sl)(n:Int)(x y:V)(p q:Wv)(Q:DQ)(Q':VK),Rel C H B σ δ n->WRel H B C.t x p->WRel H B C.t y q->g p q n Q->
 (∀v x H' n',Rel C H' B σ δ n'->Kp C.t H H'->WRel H' B C.t v x->Q x n'->Q' v H')->r x y H Q'
theorem mq{r:R2}{g:Wv->Wv->Int->DQ->Prop}(hr:a8 r g)(ha:dj ta wa)(hb:dj tb wb):dj (cY r ta tb) (w2 wa wb g):=λC H B σ δ n Q q R h k=>
 ha C H B σ δ n _ _ R h λv x m o b A s f=>hb C m B σ δ o _ _ b f λu y j l R2 a t d=>
  hr C j B σ δ l v u x y Q q R2 (s.kp a b.bt) t d λz p e i D c w E=>k z p e i D ((A.trans a).trans c) w E
theorem gL{op:Operator}{r:R2}{g:Wv->Wv->Int->DQ->Prop}(ho:OpR X (E8 op) r)(hr:a8 r g)(ha:DE X a ta wa)(hb:DE X b tb wb):DE X (.BinOp a op b pos) (cY r ta tb) (w2 wa wb g):=
 ⟨dC ho ha.pe hb.pe,mq hr ha.sd hb.sd⟩
theorem BH{op:CmpOp}{r:R2}{g:Wv->Wv->Int->DQ->Prop}(ho:OpR X (B3 op) r)(hr:a8 r g)(ha:DE X a ta wa)(hb:DE X b tb wb)(hm:Cm op b=ai):DE X (.Compare a [op] [b] pos) (cY r ta tb) (w2 wa wb g):=
 ⟨NG ho ha.pe hb.pe hm,mq hr ha.sd hb.sd⟩
def cT(w:DT):bZ:=λδ n Q=>w δ n λx n'=>match x with
 |.d (.bool k)=>Q k n'
 |_=>False
theorem wd{H:Hp}{B:A'->Prop}{t:A'}{v:V}{d:Ad}(h:RdX H B v d):WRel H B t v (.d d):=h
theorem kE{t:TE}{w:DT}(h:dj t w):iS (fN t) (cT w):=λC H B σ δ n Q j R q k=>
 h C H B σ δ n _ _ R q λv x c e d g f a=>by
  split at a
  ·rename_i b;cases(show RdX c B v (.bool b)from f);exact⟨b,rfl,k b c e d g a⟩
  ·exact a.elim
theorem fX{op:CmpOp}{r:R2}{g:Wv->Wv->Int->DQ->Prop}(ho:OpR X (B3 op) r)(hr:a8 r g)(ha:DE X a ta wa)(hb:DE X b tb wb)(hm:Cm op b=ai):DC X (.Compare a [op] [b] pos) (fN (cY r ta tb)) (cT (w2 wa wb g)):=
 ⟨jc ho ha.pe hb.pe hm,kE (mq hr ha.sd hb.sd)⟩
theorem Ko{t:TE}{w:DT}(h:DE X e t w)(he:∀whole,isTrue e X.env whole=(do let v <-whole;standAt e.pos;holding [v] (truthy v)):=by intro _;rfl):DC X e (fN t) (cT w):=⟨CC h.pe he,kE h.sd⟩
def gm(x:Wv)(A B:Prop):Prop:=match x with
 |.d (.bool ah)=>A
 |.d (.bool ai)=>B
 |_=>False
theorem SN(b:Bool)(A B:Prop):gm (.d (.bool b)) A B=if b=ah then A else B:=by cases b<;>simp[gm]
def oi(g g':Wv->Wv->Int->DQ->Prop)(wa wb wc:DT):DT:=λδ n Q=>wa δ n λx n1=>wb δ n1 λy n2=>g x y n2 λz n3=>gm z (wc δ n3 λu n4=>g' y u n4 Q) (Q (.d (.bool ai)) n3)
theorem J4{r r':R2}{g g':Wv->Wv->Int->DQ->Prop}(hr:a8 r g)(hr':a8 r' g')(ha:dj ta wa)(hb:dj tb wb)(hc:dj tc wc):dj (uI r r' ta tb tc) (oi g g' wa wb wc):=λC H B σ δ n Q O R h k=>
 ha C H B σ δ n _ _ R h λv x I M l V T E=>hb C I B σ δ M _ _ l E λu y F G R2 i m w=>
  hr C F B σ δ G v u x y _ _ R2 (T.kp i l.bt) m w λz p c j e f o b=>by
   have a:=(V.trans i).trans f;unfold gm at b
   split at b
   ·cases(show RdX c B z (.bool ah)from o);exact⟨_,rfl,hc C c B σ δ j _ _ e b λw0 s N S P q t U=>hr' C N B σ δ S u w0 y s Q O P ((m.kp f R2.bt).kp q e.bt) t U λz p W J D A L K=>k z p W J D ((a.trans q).trans A) L K⟩
   ·cases(show RdX c B z (.bool ai)from o);exact⟨_,rfl,k _ _ c j e a (wd (.bl ai)) b⟩
   ·exact b.elim
theorem FG{op op':CmpOp}{r r':R2}{g g':Wv->Wv->Int->DQ->Prop}(ho:OpR X (B3 op) r)(hr:a8 r g)(ho':OpR X (B3 op') r')(hr':a8 r' g')(ha:DE X a ta wa)(hb:DE X b tb wb)(hc:DE X c tc wc)
  (hm:lastMarks [op,op'] [b,c]=ai:=by with_unfolding_all rfl):DE X (.Compare a [op,op'] [b,c] pos) (uI r r' ta tb tc) (oi g g' wa wb wc):=⟨KA ho ho' ha.pe hb.pe hc.pe hm,J4 hr hr' ha.sd hb.sd hc.sd⟩
variable{tA tB':TT}{cA cB:bZ}{aA:List Expr}
def dR(u v:bZ):bZ:=λδ n Q=>u δ n λb n1=>if b=ah then v δ n1 Q else Q ai n1
def fW(u v:bZ):bZ:=λδ n Q=>u δ n λb n1=>if b=ah then Q ah n1 else v δ n1 Q
def dv(u:bZ):bZ:=λδ n Q=>u δ n λb n1=>Q (!b) n1
theorem cw_and1(h:DC X a tA cA):DCW X (.BoolOp .And [a] pos) tA cA:=⟨DM h.pt,h.sd⟩
theorem cw_or1(h:DC X a tA cA):DCW X (.BoolOp .Or [a] pos) tA cA:=⟨PM h.pt,h.sd⟩
theorem cw_and(h:DC X a tA cA)(h2:DCW X (.BoolOp .And (b::aA) pos) tB' cB):DCW X (.BoolOp .And (a::b::aA) pos) (kz tA tB') (dR cA cB):=⟨zw h.pt h2.pw,λC H B σ δ n Q p R q k=>
 h.sd C H B σ δ n _ _ R q λb e f d g c=>by
  cases b with
  |true=>
   exact h2.sd C e B σ δ f _ _ d c λb l m o i j=>k b l m o (g.trans i) j
  |false=>
   exact k ai e f d g c⟩
theorem cw_or(h:DC X a tA cA)(h2:DCW X (.BoolOp .Or (b::aA) pos) tB' cB):DCW X (.BoolOp .Or (a::b::aA) pos) (y4 tA tB') (fW cA cB):=⟨IZ h.pt h2.pw,λC H B σ δ n Q p R q k=>
 h.sd C H B σ δ n _ _ R q λb e f d g c=>by
  cases b with
  |true=>
   exact k ah e f d g c
  |false=>
   exact h2.sd C e B σ δ f _ _ d c λb l m o i j=>k b l m o (g.trans i) j⟩
theorem DCW.cc(h:DCW X a tA cA):DC X a tA cA:=⟨h.pw.pt,h.sd⟩
theorem R8(h:DC X a tA cA):DC X (.UnaryOp .Not a pos) (kb tA) (dv cA):=⟨xW h.pt,λC H B σ δ n Q i R q k=>h.sd C H B σ δ n _ _ R q λb e c f g d=>k _ e c f g d⟩
def fB(u v:DT):DT:=λδ n Q=>u δ n λx n1=>gm x (v δ n1 Q) (Q (.d (.bool ai)) n1)
def BP(u v:DT):DT:=λδ n Q=>u δ n λx n1=>gm x (Q (.d (.bool ah)) n1) (v δ n1 Q)
def nI(u:DT):DT:=λδ n Q=>u δ n λx n1=>match x with
 |.d (.bool b)=>Q (.d (.bool !b)) n1
 |_=>False
theorem PR{op}(h:DE X a ta wa):DE X (.BoolOp op [a] pos) ta wa:=⟨Qg h.pe,h.sd⟩
theorem IK(h:DE X a ta wa)(h2:DE X (.BoolOp .And (b::aA) pos) tb wb):DE X (.BoolOp .And (a::b::aA) pos) (zP ta tb) (fB wa wb):=⟨GQ h.pe h2.pe,λC H B σ δ n Q t R q k=>
 h.sd C H B σ δ n _ _ R q λv x d g f j i c=>by
  unfold gm at c
  split at c
  ·cases(show RdX d B v (.bool ah)from i);exact⟨_,rfl,h2.sd C d B σ δ g _ _ f c λv x o p r l s m=>k v x o p r (j.trans l) s m⟩
  ·cases(show RdX d B v (.bool ai)from i);exact⟨_,rfl,k _ _ d g f j (wd (.bl ai)) c⟩
  ·exact c.elim⟩
theorem qS(h:DE X a ta wa)(h2:DE X (.BoolOp .Or (b::aA) pos) tb wb):DE X (.BoolOp .Or (a::b::aA) pos) (mL ta tb) (BP wa wb):=⟨KN h.pe h2.pe,λC H B σ δ n Q t R q k=>
 h.sd C H B σ δ n _ _ R q λv x d g f j i c=>by
  unfold gm at c
  split at c
  ·cases(show RdX d B v (.bool ah)from i);exact⟨_,rfl,k _ _ d g f j (wd (.bl ah)) c⟩
  ·cases(show RdX d B v (.bool ai)from i);exact⟨_,rfl,h2.sd C d B σ δ g _ _ f c λv x o p r l s m=>k v x o p r (j.trans l) s m⟩
  ·exact c.elim⟩
theorem QZ(h:DE X a ta wa):DE X (.UnaryOp .Not a pos) (zq ta) (nI wa):=⟨PJ h.pe,λC H B σ δ n Q l R q k=>
 h.sd C H B σ δ n _ _ R q λv x d f e j g c=>by
  split at c
  ·rename_i b;cases(show RdX d B v (.bool b)from g);exact⟨b,rfl,k _ _ d f e j (wd (.bl _)) c⟩
  ·exact c.elim⟩
def fF(u:bZ)(v w:DT):DT:=λδ n Q=>u δ n λb n1=>if b=ah then v δ n1 Q else w δ n1 Q
theorem GV(h:DC X c tA cA)(h1:DE X a ta wa)(h2:DE X b tb wb):DE X (.IfExp c a b pos) (xm tA ta tb) (fF cA wa wb):=⟨Of h.pt h1.pe h2.pe,λC H B σ δ n Q s R q k=>
 h.sd C H B σ δ n _ _ R q λb o p m r l=>by
  cases b with
  |true=>
   exact h1.sd C o B σ δ p _ _ m l λv x f g i d j e=>k v x f g i (r.trans d) j e
  |false=>
   exact h2.sd C o B σ δ p _ _ m l λv x f g i d j e=>k v x f g i (r.trans d) j e⟩
variable{es:List Expr}{tR:TA}{wR:cG}
def ak:cG:=λ_ n Q=>Q [] n
def ao(w:DT)(r:cG):cG:=λδ n Q=>w δ n λx n1=>r δ n1 λxs n2=>Q (x::xs) n2
theorem lP:DA X [] aX ak:=⟨dm,λC H B σ δ n Q a R q k=>k [] [] H n R (Kp.refl _ _) .nil q⟩
theorem jn(h:DE X e te we)(hr:DA X es tR wR)(hs:As (e::es) X.env=(ai,eval e X.env)::As es X.env:=by rfl):DA X (e::es) (br te tR) (ao we wR):=⟨b3 h.pe hr.pa hs,λC H B σ δ n Q r R q k=>
 h.sd C H B σ δ n _ _ R q λv x i j b p m d=>hr.sd C i B σ δ j _ _ b d λvs s f g l a o c=>k _ _ f g l (p.trans a) (.cons (m.kp a b.bt) o) c⟩
def gW:List Wv->Option (List Ad)
 |[]=>ae []
 |.d x::r=>(gW r).map (x::·)
 |_::_=>af
theorem ARel.plain{H:Hp}{B:A'->Prop}{t:A'}:∀{vs:List V}{xs:List Wv}{ds:List Ad},ARel H B t vs xs->gW xs=ae ds->RdXs H B vs ds
 |_,_,_,.nil,h=>by
  cases h;exact .nil
 |_,_,ds,.cons (x:=x) (xs:=xs) a b,h=>by
  cases x with
  |d x=>
   have c:(gW xs).map _=ae ds:=h;cases e:gW xs with
   |none=>rw[e]at c;trivial
   |some f=>
    rw[e]at c;cases c;exact .cons a (ARel.plain b e)
  |tp=>cases h
  |dk _=>cases h
  |dx _=>cases h
  |ln _=>cases h
  |ob _=>cases h
theorem RdXs.fresh{H:Hp}{B:A'->Prop}{vs:List V}{ds:List Ad}{p:A'}{o:HO}(h:RdXs H B vs ds)(hp:H p=af):RdXs (upd H p o) (λb=>B b\/b=p) vs ds:=
 h.move λb a e n=>⟨by rw[aG (bu e hp)];exact e,λz=>z.elim n λq=>bu e hp q⟩
def ax(w:cG):DT:=λδ n Q=>w δ n λxs n1=>match gW xs with
 |some ds=>ds.length<=1000/\Q (.d (.tuple ds)) n1
 |none=>False
theorem xA{x1}(h:DA X es tR wR):DE X (.Tuple es x1 pos) (jE tR) (ax wR):=⟨Ri h.pa,λC H B σ δ n Q s R q k=>
 h.sd C H B σ δ n _ _ R q λvs t o g f j i a=>by
  split at a
  ·rename_i l e;have r:=i.plain e;have d:vs.length<=Ay:=by rw[r.len];exact small a.1
   exact⟨d,λp c=>k _ _ _ g (f.new c) (j.trans (Kp.new c)) (wd (show RdX _ B _ (.tuple l)from(.tup a9 (f.nb c) d ((r.fresh c).less λb z=>.inl z)))) a.2⟩
  ·exact a.elim⟩
def aO(w:cG):dO:=λδ n Q=>w δ n λxs n1=>match gW xs with
 |some ds=>ds.length<=1000/\Q ds n1
 |none=>False
theorem vq(h:DA X es tR wR):DF X (.List es pos) (iN tR) (aO wR):=⟨pH h.pa,λC H B σ δ n Q u R q k=>
 h.sd C H B σ δ n _ _ R q λvs v j m d f s b=>by
  split at b
  ·rename_i g e;have r:=s.plain e;have c:vs.length<=Ay:=by rw[r.len];exact small b.1
   have l:∀p,j p=af->H p=af:=λp a=>by
    cases q:H p with
    |none=>rfl
    |some o=>
     by_cases z:p=C.t
     ·subst z;obtain⟨_,_,h,_⟩:=d.tp.ob;rw[h]at a;cases a
     ·rw[f p o q z]at a;omega
   exact⟨c,λp a=>k p vs g _ m (d.new a) (f.trans (Kp.new a)) (l p a) a9 c (r.fresh a) b.2⟩
  ·exact b.elim⟩
def bg(w:dO):DT:=λδ n Q=>w δ n λds n1=>Q (.d (.list ds)) n1
theorem LQ{t:TE}{w:dO}(h:iU t w):dj t (bg w):=λC H B σ δ n Q p R q k=>
 h C H B σ δ n _ _ R q λa r o c i e m j l d f g=>k _ _ c i e m (wd (show RdX c B _ (.list o)from .lst l (R.nb j) d (f.less λb z=>.inl z))) g
theorem DF.d{w:dO}{t:TE}(h:DF X e t w):DE X e t (bg w):=⟨h.pe,LQ h.sd⟩
theorem Rel.was{C:Ctx}{H H1:Hp}{B:A'->Prop}{σ:St}{δ:Sl}{n1:Int}(R1:Rel C H1 B σ δ n1)(k1:Kp C.t H H1){p:A'}(hp:H1 p=af):H p=af:=by
 cases q:H p with
 |none=>rfl
 |some o=>
  by_cases z:p=C.t
  ·subst z;obtain⟨_,_,h,_⟩:=R1.tp.ob;rw[h]at hp;cases hp
  ·rw[k1 p o q z]at hp;omega
abbrev aP:=List Wv->Int->DQ->Prop
def dA(S:aP):Sp:=λvs H Q _=>∃(t:A')(l:TL)(ns:List Int)(B:A'->Prop)(ws:List Wv)(n:Int)(Q0:DQ),Tp H t l ns n/\B t/\(∀b,B b->H b≠af)/\ARel H B t vs ws/\S ws n Q0 /\
 ∀w n',Q0 w n'->∀v H',Tp H' t l ns n'->Kp t H H'->WRel H' B t v w->Q v H'
section
variable{X:Cx}{e:Expr}{es:List Expr}{pos p:Pos}{tR:TA}{wR:cG}
def aD(S:aP)(w:cG):DT:=λδ n Q=>w δ n λxs n1=>S xs n1 Q
theorem Nw{S:aP}{t:TA}{w:cG}(h:iE t w):dj (eu (dA S) [] E0 t) (aD S w):=λC H B σ δ n Q s R q k=>
 h C H B σ δ n _ _ R q λvs j r f a p o d=>⟨C.t,C.l,_,B,j,f,Q,a.tp,a.bt,a.ba,by rw[Bu];exact o,d,λw e c v g m b i=>k v w g e (a.step m b) (p.trans b) i c⟩
theorem Ss{k:Nat}{f:A'}{fd:Ce}{ps:List Str}{S:aP}{x:Str}(F:FnOk X.prog X.w X.K X.mg X.base bS k f fd ps (dA S))(hr:Room k X.A)(hg:Gl X x)(hm:X.mg x=ae (.ref f))(hk:Ct X.K (.ref f)=ah)(hb:Binds X.K fd ps [])
  (ha:DA X (e::es) tR wR) (hdb:(x==("__debug__":Str))=ai:=by decide) (he:As (e::es) X.env=(ai,eval e X.env)::As es X.env:=by rfl) (q_:(Cw pos (As es X.env)).any (·.1)=ai:=by rfl):
  DE X (.Call (.Name x p) (e::es) [] pos) (eu (dA S) [] E0 tR) (aD S wR):=⟨jg F hr hg hm hk hb .nil ju ha.pa hdb he q_,Nw ha.sd⟩
def cX(r:List V->Hp->VK->Prop)(g:List Wv->Int->DQ->Prop):Prop:=∀(C:Ctx)(H:Hp)(B:A'->Prop)(σ:St)(δ:Sl)(n:Int)(vs:List V)(xs:List Wv)(Q:DQ)(Q':VK),Rel C H B σ δ n->ARel H B C.t vs xs->g xs n Q->
 (∀v x H' n',Rel C H' B σ δ n'->Kp C.t H H'->WRel H' B C.t v x->Q x n'->Q' v H')->r vs H Q'
def wB(g:List Wv->Int->DQ->Prop)(w:cG):DT:=λδ n Q=>w δ n λxs n1=>g xs n1 Q
theorem CS{r:List V->Hp->VK->Prop}{g:List Wv->Int->DQ->Prop}{t:TA}{w:cG}(hr:cX r g)(h:iE t w):dj (d3 r t) (wB g w):=λC H B σ δ n Q l R q k=>
 h C H B σ δ n _ _ R q λvs m i j e u p c=>hr C i B σ δ j vs m Q l e p c λv x d f o a s b=>k v x d f o (u.trans a) s b
theorem la{id:String}{x:Str}{r:List V->Hp->VK->Prop}{g:List Wv->Int->DQ->Prop}(hc:CallR X (.builtin id) r)(hr:cX r g)(hg:Gl X x)(hm:X.mg x=af)(hv:Bz x=ae (.builtin id))(ha:DA X (e::es) tR wR)(hn:x≠"__name__":=by decide)(hdb:(x==("__debug__":Str))=ai:=by decide)
  (he:As (e::es) X.env=(ai,eval e X.env)::As es X.env:=by rfl) (q_:(Cw pos (As es X.env)).any (·.1)=ai:=by rfl):DE X (.Call (.Name x p) (e::es) [] pos) (d3 r tR) (wB g wR):=⟨gp hc hg hm hv ha.pa hn hdb he q_,CS hr ha.sd⟩
theorem AB{T:String}{x:Str}{r:List V->Hp->VK->Prop}{g:List Wv->Int->DQ->Prop}(hc:CallR X (.type T) r)(hr:cX r g)(hg:Gl X x)(hm:X.mg x=af)(hv:Bz x=ae (.type T))(ha:DA X (e::es) tR wR)(hn:x≠"__name__":=by decide)(hdb:(x==("__debug__":Str))=ai:=by decide)
  (he:As (e::es) X.env=(ai,eval e X.env)::As es X.env:=by rfl) (q_:(Cw pos (As es X.env)).any (·.1)=ai:=by rfl):DE X (.Call (.Name x p) (e::es) [] pos) (d3 r tR) (wB g wR):=⟨mE hc hg hm hv ha.pa hn hdb he q_,CS hr ha.sd⟩
end
structure DEnds where
 nx:Sl->Int->Prop
 rt:DQ
 bk:Sl->Int->Prop:=λ_ _=>False
 ct:Sl->Int->Prop:=λ_ _=>False
 rn:List Ad->Int->Prop:=λ_ _=>False
 rx:List (TK×Ad)->Int->Prop:=λ_ _=>False
abbrev aF:=Sl->Int->DEnds->Prop
structure EndsOk(C:Ctx)(K:DEnds)(D:Ends):Prop where
 nx:∀H B σ δ n,Rel C H B σ δ n->K.nx δ n->D.nx σ H
 rt:∀H B σ δ n v w,Rel C H B σ δ n->WRel H B C.t v w->K.rt w n->D.rt v H
 bk:∀H B σ δ n,Rel C H B σ δ n->K.bk δ n->D.bk σ H
 ct:∀H B σ δ n,Rel C H B σ δ n->K.ct δ n->D.ct σ H
 rn:∀H B σ δ n a xs ds,Rel C H B σ δ n->C.H0 a=af->H a=ae (.lst xs)->xs.length<=Ay->RdXs H (λb=>B b\/b=a) xs ds->K.rn ds n->D.rt (.ref a) H
 rx:∀H B σ δ n a l kvs,Rel C H B σ δ n->C.H0 a=af->H a=ae (.dX l)->l.length<=1000->RdY H (λb=>B b\/b=a) l kvs->K.rx kvs n->D.rt (.ref a) H
def ir(T:TS)(W:aF):Prop:=∀(C:Ctx)(H:Hp)(B:A'->Prop)(σ:St)(δ:Sl)(n:Int)(K:DEnds)(D:Ends),Rel C H B σ δ n->W δ n K->EndsOk C K D->T D σ H
structure DS(X:Cx)(st:Stmt)(T:TS)(W:aF):Prop where
 ps:PS X st T
 sd:ir T W
structure DSs(X:Cx)(st:List Stmt)(T:TS)(W:aF):Prop where
 ps:PSs X st T
 sd:ir T W
section
variable{X:Cx}{st:Stmt}{aA:List Stmt}{T U:TS}{W V':aF}{e:Expr}{te:TE}{we:DT}{pos:Pos}
def aN:aF:=λδ n K=>K.nx δ n
def aq(W V:aF):aF:=λδ n K=>W δ n {K with nx:=λδ n=>V δ n K}
theorem ur:DSs X [] ni aN:=⟨mh,λC H B σ δ n K D R h E=>E.nx H B σ δ n R h⟩
theorem k8(h:DS X st T W)(h2:DSs X aA U V'):DSs X (st::aA) (dI T U) (aq W V'):=⟨fg h.ps h2.ps,λC H B σ δ n K D R q E=>
 h.sd C H B σ δ n _ _ R q ⟨λH B σ δ n R q=>h2.sd C H B σ δ n K D R q E,E.rt,E.bk,E.ct,E.rn,E.rx⟩⟩
theorem l9(h:DS X st T W):DSs X [st] T W:=⟨ku h.ps,h.sd⟩
def az(w:DT):aF:=λδ n K=>w δ n K.rt
theorem Kt(h:DE X e te we):DS X (.Return (ae e) pos) (fE te) (az we):=⟨i0 h.pe,λC H B σ δ n K D R q E=>
 h.sd C H B σ δ n _ _ R q λv x d c a _ f b=>E.rt d B σ δ c v x a f b⟩
def aM(c:bZ)(W V:aF):aF:=λδ n K=>c δ n λb n1=>if b=ah then W δ n1 K else V δ n1 K
theorem j5{c:Expr}{a b:List Stmt}{tc:TT}{cc:bZ}(hc:DC X c tc cc)(ha:DSs X a T W)(hb:DSs X b U V'):DS X (.If c a b pos) (gS tc T U) (aM cc W V'):=⟨m8 hc.pt ha.ps hb.ps,λC H B σ δ n K D R q E=>
 hc.sd C H B σ δ n _ _ R q λb f g e _ d=>by
  cases b with
  |true=>
   exact ha.sd C f B σ δ g K D e d E
  |false=>
   exact hb.sd C f B σ δ g K D e d E⟩
def ay(i:Nat)(w:DT):aF:=λδ n K=>w δ n λx n1=>match x with
 |.d d=>K.nx (δ.set i (↑d)) n1
 |.tp=>K.nx (δ.set i (ae (.w .tp))) n1
 |.dk _=>False
 |.dx _=>False
 |.ln _=>False
 |.ob o=>K.nx (δ.set i (ae (.w (.ob o)))) n1
theorem AH{i:Nat}{x:Str}{pos':Pos}(hN:X.N.Nodup)(hi:X.N[i]?=ae x)(hx:fA X.env.scope x)(he:DE X e te we)(hs:Cy e (ae (.Name x pos')) pos.line X.env=pure ai:=by rfl)(hf:X.fn x=ah\/X.env.scope.names.lookup x=ae .local:=by first|exact .inl rfl|exact .inr rfl|assumption):
  DS X (.Assign [.Name x pos'] e pos) (bw te (c8 i)) (ay i we):=⟨fG hN hi hx he.pe hs hf,λC H B σ δ n K D R q E=>
 he.sd C H B σ δ n _ _ R q λv x g h b _ c a=>by
  cases x with
  |d d=>exact E.nx _ _ _ _ _ (b.set c rfl) a
  |tp=>exact E.nx _ _ _ _ _ (b.set c rfl) a
  |dk _=>exact a.elim
  |dx _=>exact a.elim
  |ln _=>exact a.elim
  |ob o=>exact E.nx _ _ _ _ _ (b.set c rfl) a⟩
def bq(i:Nat)(w:dO):aF:=λδ n K=>w δ n λds n1=>K.nx (δ.set i (ae (.own ds))) n1
theorem Rel.h0{C:Ctx}{H:Hp}{B:A'->Prop}{σ:St}{δ:Sl}{n:Int}{a:A'}(R:Rel C H B σ δ n)(h:H a=af):C.H0 a=af:=R.was R.kp h
theorem ET{i:Nat}{x:Str}{pos':Pos}{w:dO}(hN:X.N.Nodup)(hi:X.N[i]?=ae x)(hx:fA X.env.scope x)(he:DF X e te w)(hs:Cy e (ae (.Name x pos')) pos.line X.env=pure ai:=by rfl)(hf:X.fn x=ah\/X.env.scope.names.lookup x=ae .local:=by first|exact .inl rfl|exact .inr rfl|assumption):
  DS X (.Assign [.Name x pos'] e pos) (bw te (c8 i)) (bq i w):=⟨fG hN hi hx he.pe hs hf,λC H B σ δ n K D R q E=>
 he.sd C H B σ δ n _ _ R q λa j o l m h k b c d f g=>by
  refine E.nx _ _ _ _ _ (R.own h k b (by rw[c];simp) rfl ?_) g;exact⟨a,j,rfl,c,.inr rfl,R.h0 b,d,f⟩⟩
def bO(i:Nat)(W:aF):aF:=λδ n K=>match δ[i]? with
 |some (ae (.own ds))=>W (δ.set i (↑(.list ds))) n K
 |some (ae (.odk m))=>W (δ.set i (ae (.w (.ob (.k m))))) n K
 |some (ae (.odx m))=>W (δ.set i (ae (.w (.ob (.x m))))) n K
 |_=>W δ n K
theorem JC(i:Nat){sts:List Stmt}(h:DSs X sts T W):DSs X sts T (bO i W):=⟨h.ps,λC H B σ δ n K D R q E=>by
 unfold bO at q
 split at q
 ·rename_i c e;obtain⟨b,a⟩:=R.frz e;exact h.sd C H b σ _ n K D a q E
 ·rename_i m e;obtain⟨b,a⟩:=R.frzK e;exact h.sd C H b σ _ n K D a q E
 ·rename_i m e;obtain⟨b,a⟩:=R.frzX e;exact h.sd C H b σ _ n K D a q E
 ·exact h.sd C H B σ δ n K D R q E⟩
def aW(i:Nat)(w:DT):aF:=λδ n K=>match δ[i]? with
 |some (ae (.own ds))=>w δ n λx n1=>match x with
  |.d d=>ds.length < 1000000/\K.nx (δ.set i (ae (.own (ds++[d])))) n1
  |_=>False
 |_=>False
theorem yS{n:Nat}(h:n < 1000000):n < Ay:=Nat.lt_trans h ∎
theorem zF{i:Nat}{x:Str}{xp ap cp:Pos}(hN:X.N[i]?=ae x)(he:DE X e te we)(hv:dU X.env.scope x:=by first|exact Ci rfl|exact B5 (Ci rfl)|exact B5 (B5 rfl))(hd:(x==("__debug__":Str))=ai:=by decide)
  (r_:(x==("__classdict__":Str))=ai:=by decide)
  (hbase:G7 (.Name x xp) "append" X.env (eval (.Name x xp) X.env)=eval (.Name x xp) X.env:=by rfl)
  (hfew:((Cw cp (As [e] X.env)).all (λx=>!x.1)&&(backToKw cp (keywordEach [] X.env)).all (λx=>x.1.isSome)
   && decide ([e].length+([]:List Keyword).length+(if ([]:List Keyword).isEmpty then 0 else 1) < 30))=ah:=by rfl)
  (hline:(ap.endLine==cp.line)=ah:=by rfl) (hs:As [e] X.env=[(ai,eval e X.env)]:=by rfl) (hplain:(Cw cp (As [] X.env)).any (·.1)=ai:=by rfl)
  (hsw:Cy (.Call (.Attribute (.Name x xp) "append" ap) [e] [] cp) af pos.line X.env=pure ai:=by rfl):
  DS X (.Expr (.Call (.Attribute (.Name x xp) "append" ap) [e] [] cp) pos) (nY (pI X.K "list" ub (aI i) (br te aX))) (aW i we):=
 ⟨qX (wD Hl PySem.F.slot_list_append PySem.F.type_list_append xr (eY hN hv hd r_) (b3 he.pe dm hs) hbase hfew hline hs hplain) hsw,λC H B σ δ n K D R q E=>by
  unfold aW at q
  split at q
  ·rename_i A k;obtain⟨v,hv,a,r,rfl,l,g,h,G,f⟩:=R.sl i _ k;refine⟨_,hv,.inl ⟨rfl,_,SqL.of l⟩,he.sd C H B σ δ n _ _ R q λu y I J p m s c=>?_⟩;cases y with
   |d d=>
    have j:a≠C.t:=λz=>R.t0 (z▸h);refine⟨a,r,u,rfl,rfl,(m _ _ l j),yS (by rw[f.len];exact c.1),E.nx _ _ _ _ _ (p.mutOwn k rfl hv g h ?_ rfl) c.2⟩;refine⟨a,_,rfl,a9,g,h,?_,?_⟩
    ·rw[An,f.len];exact yS c.1
    ·refine RdXs.keep (λb o e n=>?_) ((f.kp m R.bt).append (.cons s .nil));rw[aG λ(z:b=a)=>n (z▸g)];exact e
   |tp=>exact c.elim
   |dk _=>exact c.elim
   |dx _=>exact c.elim
   |ln _=>exact c.elim
   |ob _=>exact c.elim
  ·exact q.elim⟩
end
def eE(N:List Str)(ws:List Wv):Sl:=ws.map (λx=>ae (.w x))++Di (N.length-ws.length) af
def b7(S:aP)(W:aF)(N:List Str):Prop:=∀ws n Q,S ws n Q->W (eE N ws) n {nx:=λ_ n=>Q (.d .none) n,rt:=Q}
theorem ARel.get{H:Hp}{B:A'->Prop}{t:A'}:∀{vs:List V}{xs:List Wv}{i:Nat}{x:Wv},ARel H B t vs xs->xs[i]?=ae x->∃v,vs[i]?=ae v/\WRel H B t v x
 |_,_,_,_,.nil,e=>by simp at e
 |_,_,0,_,.cons h _,e=>by
  simp at e;subst e;exact⟨_,rfl,h⟩
 |_,_,i+1,x,.cons _ r,e=>by
  obtain⟨v,b,a⟩:=ARel.get r (by assumption);exact⟨v,by simpa using b,a⟩
theorem pK{H:Hp}{t:A'}{l:TL}{ns:List Int}{B:A'->Prop}{vs:List V}{ws:List Wv}{n:Int}{N:List Str}(T:Tp H t l ns n)(bt:B t)(ba:∀b,B b->H b≠af)(r:ARel H B t vs ws):Rel ⟨t,l,ns,H,B,λ_=>af⟩ H B (L2.start N vs) (eE N ws) n where
 tp:=T
 kp:=Kp.refl _ _
 t0:=by
  obtain⟨_,_,h,_⟩:=T.ob;show H t≠af;rw[h];simp
 l0:=by
  show H l.s≠af;rw[T.ls];simp
 g0:=λe=>by
  show H l.g≠af;rw[T.ag e];simp
 fz:=λb o e=>nomatch e
 bt:=bt
 b0:=λ_ z=>z
 ba:=ba
 a0:=ba
 sl:=λi x e=>by
  unfold eE at e;rw[List.getElem?_append]at e
  split at e
  ·rename_i u;rw[Ab]at u;rw[Am]at e;cases q:ws[i]? with
   |none=>rw[q]at e;cases e
   |some y=>
    rw[q]at e;cases e;obtain⟨v,w,m⟩:=r.get q;refine⟨v,?_,m,λz=>?_⟩
    ·unfold L2.start;rw[Fy (by rw[Ab,r.len];omega),Am,w];rfl
    ·cases y with
     |d _=>cases z
     |tp=>cases z
     |dk _=>
      obtain⟨a,p,k,f,_⟩:=m;exact⟨a,k,by show H a≠af;rw[f];simp⟩
     |dx _=>
      obtain⟨a,p,k,f,_⟩:=m;exact⟨a,k,by show H a≠af;rw[f];simp⟩
     |ln _=>
      obtain⟨a,p,k,f,_⟩:=m;exact⟨a,k,by show H a≠af;rw[f];simp⟩
     |ob _=>cases z
  ·rw[Ez]at e
   split at e
   ·cases e
   ·cases e
 ow:=λi j x y v c E D J _ _=>by
  unfold eE at c;rw[List.getElem?_append]at c
  split at c
  ·rw[Am]at c;cases q:ws[i]? with
   |none=>rw[q]at c;trivial
   |some y=>
    rw[q]at c;cases c;trivial
  ·rw[Ez]at c
   split at c
   ·cases c
   ·cases c
 len:=by
  unfold L2.start eE;rw[An,An,Ab,Ab,List.length_replicate,List.length_replicate,r.len]
section
variable{P:A3}{w:Bi}{K:Ag}{mg:Str->Option Af}{base:Heap}
theorem Fun.okD{x qual:Str}{st:Stmt}{f:A'}{fd:Ce}{N ps:List Str}{k:Nat}{S:aP}(F:Fun K x qual st f fd)(Sc:FnScope N ps (bE st))(len:∀ws n Q,S ws n Q->ws.length=ps.length)
  (hbody:∀(n_:Af)(A:Bq)(outer:List Env)(s:Ai)(H:Hp)(E:XK),Room k (A.deeper (C2 qual (bE st) s.heap.objs.size f n_))->
   ∃T W,DSs (b6 bS P w K mg base N qual (bE st) f n_ A outer s H E).nox (ez st) T W/\∀ws n Q,S ws n Q->W (eE N ws) n {nx:=λ_ n=>Q (.d .none) n,rt:=Q}):FnOk P w K mg base bS (k+1) f fd ps (dA S):=by
 refine F.ok Sc (λvs H Q E h=>?_) (λn_ A outer s H G Q E C h=>?_)
 ·obtain⟨t,l,i,B,ws,n,c,_,_,_,r,q,_⟩:=h;rw[r.len];exact len ws n c q
 ·obtain⟨t,l,i,B,ws,n,c,T,g,p,r,q,e⟩:=h;obtain⟨u,W,d,y⟩:=hbody n_ A outer s H E C;refine⟨u,d.ps,d.sd _ H B _ _ n _ _ (pK T g p r) (y ws n c q) ⟨?_,?_,?_,?_,λ_ _ _ _ _ _ _ _ _ _ _ _ _ z=>z.elim,λ_ _ _ _ _ _ _ _ _ _ _ _ _ z=>z.elim⟩⟩
  ·exact λH' D σ δ j a b=>e _ _ b .non H' a.tp a.kp (.non)
  ·exact λH' D σ δ j v x a o b=>e _ _ b v H' a.tp a.kp (o.less a.b0)
  ·exact λ_ _ _ _ _ _ z=>z.elim
  ·exact λ_ _ _ _ _ _ z=>z.elim
end
section
variable{X:Cx}{a b c e:Expr}{ta tb tc te:TE}{wa wb wc we:DT}{pos p:Pos}
def gI(Cd:Int->Int->Prop)(f:Int->Int->Ad):Wv->Wv->Int->DQ->Prop:=λx y n Q=>match x,y with
 |.d (.int i),.d (.int j)=>Cd i j/\Q (.d (f i j)) n
 |_,_=>False
theorem Qe{Cd:Int->Int->Prop}{g:Int->Int->V}{f:Int->Int->Ad}(h:∀i j H B,RdX H B (g i j) (f i j)):a8 (rI Cd g) (gI Cd f):=λC H B σ δ n x y p q Q d R b c a k=>by
 unfold gI at a
 split at a
 ·rename_i i j;cases(show RdX H B x (.int i)from b);cases(show RdX H B y (.int j)from c);exact⟨i,j,rfl,rfl,a.1,k _ _ H n R (Kp.refl _ _) (wd (h i j H B)) a.2⟩
 ·exact a.elim
def cg(f:Int->Int->Ad):Wv->Wv->Int->DQ->Prop:=λx y n Q=>match x,y with
 |.d (.int i),.d (.int j)=>Q (.d (f i j)) n
 |_,_=>False
theorem ze{g:Int->Int->V}{f:Int->Int->Ad}(h:∀i j H B,RdX H B (g i j) (f i j)):a8 (e9 g) (cg f):=λC H B σ δ n x y p q Q d R b c a k=>by
 unfold cg at a
 split at a
 ·rename_i i j;cases(show RdX H B x (.int i)from b);cases(show RdX H B y (.int j)from c);exact⟨i,j,rfl,rfl,k _ _ H n R (Kp.refl _ _) (wd (h i j H B)) a⟩
 ·exact a.elim
theorem NX(ha:DE X a ta wa)(hb:DE X b tb wb):DE X (.BinOp a .Sub b pos) (cY (e9 λi j=>.int (i-j)) ta tb) (w2 wa wb (cg λi j=>.int (i-j))):=gL N3 (ze λ_ _ _ _=>.int _) ha hb
theorem P6(ha:DE X a ta wa)(hb:DE X b tb wb):DE X (.BinOp a .Mod b pos) (cY (rI (λ_ j=>0 < j) λi j=>.int (i % j)) ta tb) (w2 wa wb (gI (λ_ j=>0 < j) λi j=>.int (i % j))):=gL iV (Qe λ_ _ _ _=>.int _) ha hb
def ij(w:DT):DT:=λδ n Q=>w δ n λx n1=>match x with
 |.d (.int i)=>Q (.d (.int (-i))) n1
 |_=>False
theorem LR(ha:DE X a ta wa):DE X (.UnaryOp .USub a pos) (CU (rU λi=>.int (-i)) ta) (ij wa):=⟨HJ Pz ha.pe,λC H B σ δ n Q j R q k=>ha.sd C H B σ δ n _ _ R q λv x c e d h f b=>by
 split at b
 ·rename_i i;cases(show RdX c B v (.int i)from f);exact⟨i,rfl,k _ _ c e d h (wd (.int _)) b⟩
 ·exact b.elim⟩
def jJ:Wv->Wv->Int->DQ->Prop:=λx y n Q=>match x,y with
 |.d (.int i),.d (.int j)=>Q (.d (.int (i+j))) n
 |.d (.str i),.d (.str j)=>i.length+j.length<=Ay/\Q (.d (.str (i++j))) n
 |.d (.tuple i),.d (.tuple j)=>(i≠[]\/j≠[])/\i.length+j.length<=Ay/\Q (.d (.tuple (i++j))) n
 |.d (.list i),.d (.list j)=>i.length+j.length<=Ay/\Q (.d (.list (i++j))) n
 |_,_=>False
def oZ(K:Ag):R2:=λx y H Q=>(e9 λi j=>.int (i+j)) x y H Q\/(∃i j,x=.str i/\y=.str j/\i.length+j.length<=Ay/\Q (.str (i++j)) H)\/za K x y H Q\/z7 K x y H Q\/ja x y H Q
theorem op_addA:OpR X (E8 .Add) (oZ X.K):=
 op_add.or (op_add_str.or (op_catA.or (op_catT.or wV)))
theorem J5(i j:Str):(i++j).length=i.length+j.length:=Array.size_append
theorem QT{K:Ag}:a8 (oZ K) jJ:=λC H B σ δ n x y p q Q N R u v f k=>by
 unfold jJ at f
 split at f
 ·rename_i i j;cases(show RdX H B x (.int i)from u);cases(show RdX H B y (.int j)from v);exact .inl ⟨i,j,rfl,rfl,k _ _ H n R (Kp.refl _ _) (wd (.int _)) f⟩
 ·rename_i i j;cases(show RdX H B x (.str i)from u);cases(show RdX H B y (.str j)from v);exact .inr (.inl ⟨i,j,rfl,rfl,f.1,k _ _ H n R (Kp.refl _ _) (wd (show RdX H B _ (.str _)from .str _ (by rw[J5];simp_all))) f.2⟩)
 ·rename_i i j;cases(show RdX H B x (.tuple i)from u)with
  |@tup s h _ r I G e=>
   cases(show RdX H B y (.tuple j)from v)with
   |@tup t l _ o E F g=>
    obtain⟨O,L,q⟩:=f;have c:h.length+l.length<=Ay:=by rw[e.len,g.len];omega
    have m:∀J,H J=af->N _ (upd H J _):=λpn d=>k _ _ _ n (R.new d) (Kp.new d) (wd (show RdX _ B _ (.tuple _)from .tup a9 (R.nb d) (by rw[An];omega) (((e.append g).fresh d).less λb z=>.inl z))) q;by_cases A:l=[]
    ·have M:h≠[]:=λz=>by
      subst A z;cases e;cases g;trivial
     refine .inr (.inr (.inr (.inl ⟨s,t,h,l,rfl,rfl,SqT.of r,SqT.of o,M,c,λ_=>?_,λ_=>m⟩)));subst A;cases g;rw[Bu]at q;exact k _ _ H n R (Kp.refl _ _) (wd (show RdX H B _ (.tuple i)from .tup r I G e)) q
    ·refine .inr (.inr (.inl ⟨s,t,h,l,rfl,rfl,SqT.of r,SqT.of o,A,c,λz=>?_,λ_=>m⟩));subst z;cases e;exact k _ _ H n R (Kp.refl _ _) (wd (show RdX H B _ (.tuple j)from .tup o E F g)) q
 ·rename_i i j;cases(show RdX H B x (.list i)from u)with
  |@lst s h _ r I G e=>
   cases(show RdX H B y (.list j)from v)with
   |@lst t l _ o E F g=>
    obtain⟨L,q⟩:=f;have c:h.length+l.length<=Ay:=by rw[e.len,g.len];omega
    refine .inr (.inr (.inr (.inr ⟨s,t,h,l,rfl,rfl,r,o,c,λpn d=>k _ _ _ n (R.new d) (Kp.new d) (wd (show RdX _ B _ (.list _)from .lst a9 (R.nb d) (by rw[An];omega) ?_)) q⟩)));exact((e.append g).fresh d).less λb z=>.inl z
 ·exact f.elim
def gG(f:Int->Int->Bool)(h:List Nat->List Nat->Bool):Wv->Wv->Int->DQ->Prop:=λx y n Q=>match x,y with
 |.d (.int i),.d (.int j)=>Q (.d (.bool (f i j))) n
 |.d (.str i),.d (.str j)=>Q (.d (.bool (h i.cps.toList j.cps.toList))) n
 |_,_=>False
theorem rj{f:Int->Int->Bool}{h:List Nat->List Nat->Bool}:a8 (λx y H Q=>(e9 λi j=>.bl (f i j)) x y H Q\/∃i j,x=.str i/\y=.str j/\Q (.bl (h i.cps.toList j.cps.toList)) H) (gG f h):=λC H B σ δ n x y p q Q e R c d b k=>by
 unfold gG at b
 split at b
 ·rename_i i j;cases(show RdX H B x (.int i)from c);cases(show RdX H B y (.int j)from d);exact .inl ⟨i,j,rfl,rfl,k _ _ H n R (Kp.refl _ _) (wd (.bl _)) b⟩
 ·rename_i i j;cases(show RdX H B x (.str i)from c);cases(show RdX H B y (.str j)from d);exact .inr ⟨i,j,rfl,rfl,k _ _ H n R (Kp.refl _ _) (wd (.bl _)) b⟩
 ·exact b.elim
abbrev fK:=gG (λi j=>decide (i < j)) (λi j=>decide (i < j))
abbrev nf:=gG (λi j=>decide (i<=j)) (λi j=>!decide (j < i))
abbrev uE:=gG (λi j=>decide (j < i)) (λi j=>decide (j < i))
def nr:R2:=λx y H Q=>(e9 λi j=>.bl (decide (i < j))) x y H Q\/∃i j,x=.str i/\y=.str j/\Q (.bl (decide (i.cps.toList < j.cps.toList))) H
theorem R7:OpR X (B3 .Lt) nr:=op_lt.or R3
def nh:R2:=λx y H Q=>(e9 λi j=>.bl (decide (i<=j))) x y H Q\/∃i j,x=.str i/\y=.str j/\Q (.bl (!decide (j.cps.toList < i.cps.toList))) H
theorem z5:OpR X (B3 .LtE) nh:=op_le.or Jx
def m4:R2:=λx y H Q=>(e9 λi j=>.bl (decide (j < i))) x y H Q\/∃i j,x=.str i/\y=.str j/\Q (.bl (decide (j.cps.toList < i.cps.toList))) H
theorem R0:OpR X (B3 .Gt) m4:=op_gt.or PD
theorem MI:a8 nr fK:=rj
theorem yi:a8 nh nf:=rj
theorem FY:a8 m4 uE:=rj
def eM:Ad->Ad->Option Bool
 |.none,.none=>ae ah
 |.none,.int _=>ae ai
 |.int _,.none=>ae ai
 |.none,.bool _=>ae ai
 |.bool _,.none=>ae ai
 |.none,.str _=>ae ai
 |.str _,.none=>ae ai
 |.int i,.int j=>ae (decide (i=j))
 |.bool i,.bool j=>ae (decide (i=j))
 |.str i,.str j=>ae (decide (i=j))
 |.int _,.str _=>ae ai
 |.str _,.int _=>ae ai
 |.bool _,.str _=>ae ai
 |.str _,.bool _=>ae ai
 |.list _,.str _=>ae ai
 |.tuple _,.str _=>ae ai
 |.dict _,.str _=>ae ai
 |.list xs,.list []=>ae xs.isEmpty
 |_,_=>af
def qp:R2:=λx y H Q=>∃d h B,RdX H B x d/\y=.str h/\Q (.bl (cH h d)) H
theorem q0(x y:Str):decide (V.str x=V.str y)=decide (x=y):=by
 by_cases z:x=y
 ·rw[z,c_ rfl,c_ rfl]
 ·rw[d_ z,d_ λw=>z (V.str.inj w)]
theorem ED(x y:Int):decide (V.int x=V.int y)=decide (x=y):=by
 by_cases z:x=y
 ·rw[z,c_ rfl,c_ rfl]
 ·rw[d_ z,d_ λw=>z (V.int.inj w)]
theorem wq(x y:Bool):decide (V.bl x=V.bl y)=decide (x=y):=by
 by_cases z:x=y
 ·rw[z,c_ rfl,c_ rfl]
 ·rw[d_ z,d_ λw=>z (V.bl.inj w)]
theorem PN(hu:X.A.units < De):OpR X (B3 .Eq) qp:=by
 intro c s σ H x y v u Q I e f h;obtain⟨d,g,B,z,rfl,q⟩:=h;cases z with
 |non=>exact op_eq c s σ H _ _ v u Q I e f ⟨rfl,q⟩
 |bl b=>exact op_eq c s σ H _ _ v u Q I e f ⟨rfl,q⟩
 |int i=>exact op_eq c s σ H _ _ v u Q I e f ⟨rfl,q⟩
 |str x J=>
  refine op_eq c s σ H _ _ v u Q I e f ⟨rfl,?_⟩;rw[q0];exact q
 |@lst a C r j l m n=>
  cases(show v=Cj a from e);obtain⟨t,rfl⟩:=(show ∃t,u=Value.str g t from f);obtain⟨k,_,p,_⟩:=I.list (SqL.of j);exact PySem.SeqAt.RcAt.list_str g t p.isList hu _ _ _ _ ⟨.bl ai,H,I,rfl,q⟩
 |@tup a C r j l m n=>
  cases(show v=Cj a from e);obtain⟨t,rfl⟩:=(show ∃t,u=Value.str g t from f);obtain⟨k,_,p,_⟩:=I.tuple (SqT.of j);exact PySem.SeqAt.RcAt.tuple_str g t (p) hu _ _ _ _ ⟨.bl ai,H,I,rfl,q⟩
def bf:Wv->Wv->Int->DQ->Prop:=λx y n Q=>match x,y with
 |.d a,.d b=>match eM a b with
  |some r=>Q (.d (.bool r)) n
  |none=>False
 |_,_=>False
theorem JX(hu:X.A.units < De):OpR X (B3 .Eq) (λx y H Q=>qu x y H Q\/qp x y H Q\/pN X.K x y H Q):=op_eq.or ((PN hu).or (Lb hu))
theorem GX{K:Ag}:a8 (λx y H Q=>qu x y H Q\/qp x y H Q\/pN K x y H Q) bf:=λC H B σ δ n x y p q Q U R E e b k=>by
 unfold bf at b
 split at b
 ·rename_i X T;have v:=λr q=>k _ _ H n R (Kp.refl _ _) (wd (.bl r)) q
  split at b
  ·rename_i r a;have b:=v r b;cases E with
   |non=>cases e<;>first|(cases a;done)|(cases a;exact .inl ⟨rfl,b⟩)
   |bl i=>cases e<;>first|(cases a;done)|(cases a;exact .inl ⟨rfl,by first|exact b|(rw[wq];omega)⟩)
   |int i=>cases e<;>first|(cases a;done)|(cases a;exact .inl ⟨rfl,by first|exact b|(rw[ED];omega)⟩)
   |str i M=>cases e<;>first|(cases a;done)|(cases a;exact .inl ⟨rfl,by first|exact b|(rw[q0];omega)⟩)
   |@lst w t z m u s l=>
    cases e with
    |str j D=>cases a;exact .inr (.inl ⟨_,j,B,.lst m u s l,rfl,b⟩)
    |@lst A V P G N O L=>
     cases L with
     |nil=>
      cases a;refine .inr (.inr ⟨w,A,t,rfl,rfl,SqL.of m,SqL.of G,?_⟩);have:t.isEmpty=z.isEmpty:=by cases l<;>rfl
      simp_all
     |cons _ _=>cases a
    |_=>cases a
   |@tup w t z m u s l=>
    cases e with
    |str j D=>cases a;exact .inr (.inl ⟨_,j,B,.tup m u s l,rfl,b⟩)
    |_=>cases a
  ·exact b.elim
 ·exact b.elim
def LA(a b:Ad):Option Bool:=match a,b with
 |.list _,_=>af
 |.tuple _,_=>af
 |a,b=>(eM a b).map not
def d0:Wv->Wv->Int->DQ->Prop:=λx y n Q=>match x,y with
 |.d a,.d b=>match LA a b with
  |some r=>Q (.d (.bool r)) n
  |none=>False
 |_,_=>False
theorem SD:a8 DO d0:=λC H B σ δ n x y p q Q z R m g b k=>by
 unfold d0 at b
 split at b
 ·rename_i A w;have h:=λr q=>k _ _ H n R (Kp.refl _ _) (wd (.bl r)) q
  split at b
  ·rename_i r c;have b:=h r b;cases m with
   |non=>cases g<;>first|(cases c;done)|(cases c;trivial)
   |bl i=>cases g<;>first|(cases c;done)|(cases c;exact⟨rfl,by first|exact b|(rw[wq];omega)⟩)
   |int i=>cases g<;>first|(cases c;done)|(cases c;exact⟨rfl,by first|exact b|(rw[ED];omega)⟩)
   |str i u=>cases g<;>first|(cases c;done)|(cases c;exact⟨rfl,by first|exact b|(rw[q0];omega)⟩)
   |lst _ _ _ _=>cases c
   |tup _ _ _ _=>cases c
  ·exact b.elim
 ·exact b.elim
def f5:Ad->Bool
 |.none=>ah
 |_=>ai
def bK(neg:Bool):Wv->Wv->Int->DQ->Prop:=λx y n Q=>match x,y with
 |.d a,.d .none=>Q (.d (.bool (if neg then !f5 a else f5 a))) n
 |_,_=>False
theorem wm{H:Hp}{B:A'->Prop}{v:V}{d:Ad}(h:RdX H B v d):decide (v=.non)=f5 d:=by cases h<;>rfl
theorem xw:a8 (λx y H Q=>y=.non/\Q (.bl (decide (x=.non))) H) (bK ai):=λC H B σ δ n x y p q Q d R c b a k=>by
 unfold bK at a
 split at a
 ·rename_i e;cases(b);exact⟨rfl,k _ _ H n R (Kp.refl _ _) (wd (by rw[wm c];exact .bl _)) a⟩
 ·exact a.elim
theorem EE:a8 (λx y H Q=>y=.non/\Q (.bl (!decide (x=.non))) H) (bK ah):=λC H B σ δ n x y p q Q d R c b a k=>by
 unfold bK at a
 split at a
 ·rename_i e;cases(b);exact⟨rfl,k _ _ H n R (Kp.refl _ _) (wd (by rw[wm c];exact .bl _)) a⟩
 ·exact a.elim
def eG:Ad->Bool
 |.none=>ah
 |.bool _=>ah
 |.int _=>ah
 |.str _=>ah
 |_=>ai
def oW:Ad->Ad->Bool
 |.none,.none=>ah
 |.bool a,.bool b=>a==b
 |.bool a,.int b=>(if a then 1 else 0)==b
 |.int a,.bool b=>a==(if b then 1 else 0)
 |.int a,.int b=>a==b
 |.str a,.str b=>a==b
 |_,_=>ai
def cC(x:Ad)(ds:List Ad):Bool:=ds.any λy=>oW y x
theorem jN{H:Hp}{B:A'->Prop}{v:V}{d:Ad}(h:RdX H B v d)(f:eG d=ah):gC v=ah:=by cases h<;>first|rfl|cases f
theorem jt{H:Hp}{B:A'->Prop}:∀{vs:List V}{ds:List Ad},RdXs H B vs ds->ds.all eG=ah->vs.all gC=ah
 |_,_,.nil,_=>rfl
 |_,_,.cons h r,f=>by
  rw[List.all_cons,Bj]at f ⊢;exact⟨jN h f.1,jt r f.2⟩
theorem HX{H:Hp}{B:A'->Prop}{v u:V}{d e:Ad}(h:RdX H B v d)(h2:RdX H B u e):gH v u=oW d e:=by cases h<;>cases h2<;>rfl
theorem j3{H:Hp}{B:A'->Prop}{v:V}{d:Ad}(h:RdX H B v d):∀{vs:List V}{ds:List Ad},RdXs H B vs ds->pB v vs=cC d ds
 |_,_,.nil=>rfl
 |_,_,.cons a r=>by
  have:=j3 h r;unfold pB cC at this ⊢;rw[Dj,Dj,this,HX a h]
def gi(neg:Bool):Wv->Wv->Int->DQ->Prop:=λx y n Q=>match x,y with
 |.d a,.d (.tuple ds)=>eG a=ah/\ds.all eG=ah/\Q (.d (.bool (if neg then !cC a ds else cC a ds))) n
 |.d a,.d (.list ds)=>eG a=ah/\ds.all eG=ah/\Q (.d (.bool (if neg then !cC a ds else cC a ds))) n
 |_,_=>False
theorem j1{K:Ag}{neg:Bool}:a8 (gc K neg) (gi neg):=λC H B σ δ n x y p q Q u R a l c k=>by
 unfold gi at c
 split at c
 ·rename_i t e;obtain⟨g,f,q⟩:=c;have a:=a;cases(show RdX H B y (.tuple e)from l)with
  |@tup d i _ j r o b=>
   refine⟨d,i,rfl,.inr (SqT.of j),jN a g,jt b f,?_⟩;rw[j3 a b];exact k _ _ H n R (Kp.refl _ _) (wd (.bl _)) q
 ·rename_i t e;obtain⟨g,f,q⟩:=c;have a:=a;cases(show RdX H B y (.list e)from l)with
  |@lst d i _ j r o b=>
   refine⟨d,i,rfl,.inl (SqL.of j),jN a g,jt b f,?_⟩;rw[j3 a b];exact k _ _ H n R (Kp.refl _ _) (wd (.bl _)) q
 ·exact c.elim
def aw:Wv->Wv->Int->DQ->Prop:=λx y n Q=>match x,y with
 |.d (.list ds),.d (.int i)=>match cx ds i with
  |some d=>Q (.d d) n
  |none=>False
 |.d (.tuple ds),.d (.int i)=>match cx ds i with
  |some d=>Q (.d d) n
  |none=>False
 |.d (.str z),.d (.int i)=>match cx z.cps.toList i with
  |some c=>Q (.d (.str ⟨#[c]⟩)) n
  |none=>False
 |_,_=>False
theorem qQ{H:Hp}{B:A'->Prop}{vs:List V}{ds:List Ad}{i:Int}{d:Ad}(r:RdXs H B vs ds)(h:cx ds i=ae d):∃v,cx vs i=ae v/\RdX H B v d:=by
 unfold cx at h ⊢;rw[r.len];cases e:iy ds.length i with
 |none=>rw[e]at h;cases h
 |some j=>
  rw[e]at h;exact r.getD h
theorem lN{K:Ag}:a8 (jC K) aw:=λC H B σ δ n x y p q Q F R l m b k=>by
 unfold aw at b
 split at b
 ·rename_i g i
  split at b
  ·rename_i d e;cases(show RdX H B y (.int i)from m);cases(show RdX H B x (.list g)from l)with
   |@lst f r _ s D w j=>
    obtain⟨v,o,h⟩:=qQ j e;exact .inl ⟨f,r,i,v,rfl,rfl,SqL.of s,o,k _ _ H n R (Kp.refl _ _) (wd h) b⟩
  ·exact b.elim
 ·rename_i g i
  split at b
  ·rename_i d e;cases(show RdX H B y (.int i)from m);cases(show RdX H B x (.tuple g)from l)with
   |@tup f r _ s D w j=>
    obtain⟨v,o,h⟩:=qQ j e;exact .inr (.inl ⟨f,r,i,v,rfl,rfl,SqT.of s,o,k _ _ H n R (Kp.refl _ _) (wd h) b⟩)
  ·exact b.elim
 ·rename_i z i
  split at b
  ·rename_i c e;cases(show RdX H B y (.int i)from m);cases(show RdX H B x (.str z)from l)with
   |str _ A=>exact .inr (.inr ⟨z,i,c,rfl,rfl,A,e,k _ _ H n R (Kp.refl _ _) (wd (show RdX H B _ (.str _)from .str _ (by show 1<=Ay;decide))) b⟩)
  ·exact b.elim
 ·exact b.elim
theorem qW(ha:DE X a ta wa)(hb:DE X b tb wb)(hs:oP b:=by exact λ_ _=>rfl):DE X (.Subscript a b pos) (cY (jC X.K) ta tb) (w2 wa wb aw):=⟨f7 rS ha.pe hb.pe hs,mq lN ha.sd hb.sd⟩
def bH:List Wv->Int->DQ->Prop:=λxs n Q=>match xs with
 |[.d (.str x)]=>Q (.d (.int x.length)) n
 |[.d (.list ds)]=>Q (.d (.int ds.length)) n
 |[.d (.tuple ds)]=>Q (.d (.int ds.length)) n
 |_=>False
theorem Nj:CallR X (.builtin "len") (λxs H Q=>(∃z,xs=[.str z]/\z.length<=Ay/\Q (.int z.length) H)\/∃p ys,xs=[.ref p]/\(SqL X.K H p ys\/SqT X.K H p ys)/\Q (.int ys.length) H):=call_len_str.or o4
theorem SE{K:Ag}:cX (λxs H Q=>(∃z,xs=[.str z]/\z.length<=Ay/\Q (.int z.length) H)\/∃p ys,xs=[.ref p]/\(SqL K H p ys\/SqT K H p ys)/\Q (.int ys.length) H) bH:=λC H B σ δ n q xs Q s R r h k=>by
 unfold bH at h
 split at h
 ·rename_i x;cases r with
  |cons a b=>
   cases b;cases(show RdX H B _ (.str x)from a)with
   |str _ l=>exact .inl ⟨x,rfl,l,k _ _ H n R (Kp.refl _ _) (wd (.int _)) h⟩
 ·rename_i e;cases r with
  |cons a b=>
   cases b;cases(show RdX H B _ (.list e)from a)with
   |@lst d ys _ g m j f=>
    refine .inr ⟨d,ys,rfl,.inl (SqL.of g),?_⟩;rw[f.len];exact k _ _ H n R (Kp.refl _ _) (wd (.int _)) h
 ·rename_i e;cases r with
  |cons a b=>
   cases b;cases(show RdX H B _ (.tuple e)from a)with
   |@tup d ys _ g m j f=>
    refine .inr ⟨d,ys,rfl,.inr (SqT.of g),?_⟩;rw[f.len];exact k _ _ H n R (Kp.refl _ _) (wd (.int _)) h
 ·exact h.elim
theorem HE{K:Ag}{H:Hp}{B:A'->Prop}{v:V}{d:Ad}(h:RdX H B v d):TyOf K H v (.type (p5 d)):=by
 cases h with
 |non=>exact .non
 |bl b=>exact .bl b
 |int i=>exact .int i
 |str x h=>exact .str x
 |lst a c j k=>exact .lst a
 |tup a c j k=>exact .tup a
theorem Jb{K:Ag}{H:Hp}{B:A'->Prop}{v:V}{d:Ad}(h:RdX H B v d){T:String}(hT:T="int"\/T="bool"\/T="str"\/T="tuple"\/T="list"):PySem.W.kitOne K (.type (p5 d)) (.type T)=ae (i4 T d):=by
 cases h<;>rcases hT with rfl|rfl|rfl|rfl|rfl<;>rfl
def cV(T:String)(w:DT):DT:=λδ n Q=>w δ n λx n1=>match x with
 |.d d=>Q (.d (.bool (i4 T d))) n1
 |_=>False
theorem QS{T:String}{x:Str}{p p2:Pos}(hT:T="int"\/T="bool"\/T="str"\/T="tuple"\/T="list")(hg:Gl X "isinstance")(hm:X.mg "isinstance"=af)(hg2:Gl X x)(hm2:X.mg x=af)(hv:Bz x=ae (.type T))(ha:DE X a ta wa)(hn:x≠"__name__":=by decide)(hdb:(x==("__debug__":Str))=ai:=by decide)
  (he:As [a,.Name x p2] X.env=(ai,eval a X.env)::As [.Name x p2] X.env:=by rfl) (he2:As [.Name x p2] X.env=(ai,eval (.Name x p2) X.env)::As [] X.env:=by rfl) (q_:(Cw pos (As [.Name x p2] X.env)).any (·.1)=ai:=by rfl):
  DE X (.Call (.Name "isinstance" p) [a,.Name x p2] [] pos) (d3 (λxs H Q=>∃x t b,xs=[x,.ty T]/\TyOf X.K H x t/\PySem.W.kitOne X.K t (.type T)=ae b/\Q (.bl b) H) (br ta (br (tC (.ty T)) aX))) (cV T wa):=
 ⟨gp (RV) hg hm xj (b3 ha.pe (b3 (QO hg2 hm2 hv rfl hn hdb) dm he2) he) ∎ ∎ he q_,λC H B σ δ n Q l R q k=>ha.sd C H B σ δ n _ _ R q λv x g h f i e c=>by
  cases x with
  |d d=>exact⟨v,_,_,rfl,HE e,Jb (e) hT,k _ _ g h f i (wd (.bl _)) c⟩
  |tp=>exact c.elim
  |dk _=>exact c.elim
  |dx _=>exact c.elim
  |ln _=>exact c.elim
  |ob _=>exact c.elim⟩
def ou:List Wv->Int->DQ->Prop:=λxs n Q=>match xs with
 |[.d (.list ds)]=>Small (.list ds)/\Q (.d (.str (PyData.shown (.list ds)))) n
 |[.d (.tuple ds)]=>Small (.tuple ds)/\Q (.d (.str (PyData.shown (.tuple ds)))) n
 |_=>False
theorem Oo{K:Ag}:cX (λxs H Q=>∃a d,xs=[.ref a]/\RdD K H (.ref a) d/\Small d/\Q (.str d.shown) H) ou:=λC H B σ δ n s xs Q t R r h k=>by
 unfold ou at h
 split at h
 ·rename_i j;cases r with
  |cons m c=>
   cases c;cases(show RdX H B _ (.list j)from m)with
   |@lst f o _ g e i l=>exact⟨f,_,rfl,(RdX.lst g e i l).rd,h.1,k _ _ H n R (Kp.refl _ _) (wd (show RdX H B _ (.str _)from .str _ h.1.len)) h.2⟩
 ·rename_i j;cases r with
  |cons m c=>
   cases c;cases(show RdX H B _ (.tuple j)from m)with
   |@tup f o _ g e i l=>exact⟨f,_,rfl,(RdX.tup g e i l).rd,h.1,k _ _ H n R (Kp.refl _ _) (wd (show RdX H B _ (.str _)from .str _ h.1.len)) h.2⟩
 ·exact h.elim
def eJ:List Wv->Int->DQ->Prop:=λxs n Q=>match xs with
 |[.d (.list ds)]=>Q (.d (.tuple ds)) n
 |[.d (.tuple ds)]=>Q (.d (.tuple ds)) n
 |_=>False
theorem OU{K:Ag}:cX (λxs H Q=>∃p ys,xs=[.ref p]/\((SqL K H p ys/\∀l,H l=af->Q (.ref l) (upd H l (.tup ys)))\/(SqT K H p ys/\Q (.ref p) H))) eJ:=λC H B σ δ n s xs Q t R r h k=>by
 unfold eJ at h
 split at h
 ·rename_i c;cases r with
  |cons j m=>
   cases m;cases(show RdX H B _ (.list c)from j)with
   |@lst f ys _ e o g i=>
    exact⟨f,ys,rfl,.inl ⟨SqL.of e,λl d=>k _ _ _ n (R.new d) (Kp.new d) (wd (show RdX _ B _ (.tuple c)from .tup a9 (R.nb d) g ((i.fresh d).less λb z=>.inl z))) h⟩⟩
 ·rename_i c;cases r with
  |cons j m=>
   cases m;cases(show RdX H B _ (.tuple c)from j)with
   |@tup f ys _ e o g i=>exact⟨f,ys,rfl,.inr ⟨SqT.of e,k _ _ H n R (Kp.refl _ _) (wd (show RdX H B _ (.tuple c)from .tup e o g i)) h⟩⟩
 ·exact h.elim
end
structure ItOk(fz:Hp)(J:It)(ds:List Ad):Prop where
 le:ds.length<=Ay
 go:∀i H,(∀b o,fz b=ae o->H b=ae o)->i < ds.length->J.go i H
 stop:∀H,(∀b o,fz b=ae o->H b=ae o)->J.stop ds.length H
 yld:∀i H x H' d,(∀b o,fz b=ae o->H b=ae o)->ds[i]?=ae d->J.yld i H x H'->gO H H'/\∀B,(∀b o,fz b=ae o->¬B b)->(∀b,B b->H b≠af)->RdX H' B x d
def nW(H:Hp)(B:A'->Prop)(fz:Hp):Prop:=(∀b o,fz b=ae o->H b=ae o/\¬B b)/\∀b o,H b=ae o->¬B b->fz b=ae o
abbrev fJ:=Sl->Int->(List Ad->Int->Prop)->Prop
def tP(wi:TI)(v:fJ):Prop:=∀(C:Ctx)(H:Hp)(B:A'->Prop)(σ:St)(δ:Sl)(n:Int)(Q:List Ad->Int->Prop)(Q':It->Hp->Prop),Rel C H B σ δ n->v δ n Q->
 (∀J ds H' n',Rel C H' B σ δ n'->Kp C.t H H'->(∀fz,nW H' B fz->ItOk fz J ds)->Q ds n'->Q' J H')->wi σ H Q'
structure DI(X:Cx)(tg iter:Expr)(wi:TI)(v:fJ):Prop where
 pi:PI X tg iter wi
 sd:tP wi v
section
variable{X:Cx}{tg a b c e:Expr}{ta tb te:TE}{wa wb we:DT}{pos p:Pos}
def e8(w:DT):fJ:=λδ n Q=>w δ n λx n1=>match x with
 |.d (.list ds)=>Q ds n1
 |_=>False
def dh(w:DT):fJ:=λδ n Q=>w δ n λx n1=>match x with
 |.d (.tuple ds)=>Q ds n1
 |_=>False
theorem Lq(ha:DE X a ta wa):DI X tg a (oh X.K ta) (e8 wa):=⟨M1 ha.pe,λC H B σ δ n Q U R q k=>ha.sd C H B σ δ n _ _ R q λv x t I G S M h=>by
 split at h
 ·rename_i p;cases(show RdX t B v (.list p)from M)with
  |@lst y m _ w J D g=>
   refine⟨y,rfl,⟨m,SqL.of w⟩,k _ p t I G S (λfz j=>?_) h⟩;have c:=j.2 _ _ w J;refine⟨by rw[<-g.len];exact D,λi H f r=>?_,λH f=>?_,λi H x T d f F l=>?_⟩
   ·rw[<-g.len]at r;exact⟨m,_,SqL.of (f _ _ c),Ah r⟩
   ·exact⟨m,SqL.of (f _ _ c),by rw[g.len];simp⟩
   ·obtain⟨rfl,l⟩:=l;refine⟨λ_ _ z=>z,λB' E L=>?_⟩;obtain⟨u,P,O⟩:=g.getD F;have:=l _ (SqL.of (f _ _ c));rw[P]at this;cases this;exact O.move λb o e s=>⟨f _ _ (j.2 _ _ e s),E _ _ (j.2 _ _ e s)⟩
 ·exact h.elim⟩
theorem Sj(ha:DE X a ta wa):DI X tg a (kj X.K ta) (dh wa):=⟨M3 ha.pe,λC H B σ δ n Q U R q k=>ha.sd C H B σ δ n _ _ R q λv x t G F S L h=>by
 split at h
 ·rename_i p;cases(show RdX t B v (.tuple p)from L)with
  |@tup y m _ w I A g=>
   refine⟨y,rfl,⟨m,SqT.of w⟩,k _ p t G F S (λfz j=>?_) h⟩;have c:=j.2 _ _ w I;refine⟨by rw[<-g.len];exact A,λi H f r=>?_,λH f=>?_,λi H x T d f E l=>?_⟩
   ·rw[<-g.len]at r;exact⟨m,_,SqT.of (f _ _ c),Ah r⟩
   ·exact⟨m,SqT.of (f _ _ c),by rw[g.len];simp⟩
   ·obtain⟨rfl,l⟩:=l;refine⟨λ_ _ z=>z,λB' D J=>?_⟩;obtain⟨u,O,N⟩:=g.getD E;have:=l _ (SqT.of (f _ _ c));rw[O]at this;cases this;exact N.move λb o e s=>⟨f _ _ (j.2 _ _ e s),D _ _ (j.2 _ _ e s)⟩
 ·exact h.elim⟩
def bW(lo:Int)(n:Nat):List Ad:=(Be n).map λi=>.int (lo+(i:Nat))
def eW(w:DT):fJ:=λδ n Q=>w δ n λx n1=>match x with
 |.d (.int j)=>(-(2 ^ 62)<=j/\j<=1000000)/\Q (bW 0 j.toNat) n1
 |_=>False
theorem NV(fz:Hp)(lo:Int)(n:Nat)(hn:n<=1000000):ItOk fz (qE lo n) (bW lo n):=by
 have b:(bW lo n).length=n:=by unfold bW;simp
 refine⟨?_,λi H c f=>?_,λH c=>?_,λi H y o d c a h=>?_⟩
 ·rw[b];exact A5 hn ∎
 ·rw[b]at f;trivial
 ·show n<=(bW lo n).length;simp_all
 ·obtain⟨rfl,rfl⟩:=h;refine⟨λ_ _ z=>z,λB' l g=>?_⟩;unfold bW at a;rw[Am]at a;cases e:(Be n)[i]? with
  |none=>rw[e]at a;trivial
  |some j=>
   rw[e]at a;have:j=i:=by
    obtain⟨m,k⟩:=Ar.mp e;simp_all
   subst this;cases a;exact .int _
theorem yX{p:Pos}(hg:Gl X "range")(hm:X.mg "range"=af)(ha:DE X a ta wa)(hs:As [a] X.env=[(ai,eval a X.env)]:=by rfl):DI X tg (.Call (.Name "range" p) [a] [] pos) (qe (br ta aX)) (eW wa):=⟨PK hg hm (b3 ha.pe dm hs) hs,λC H B σ δ n Q i R q k=>ha.sd C H B σ δ n _ _ R q λv x c d g h f b=>by
 split at b
 ·rename_i j;cases(show RdX c B v (.int j)from f);refine⟨j,rfl,b.1.1,by omega,k _ _ c d g h (λfz _=>NV fz 0 j.toNat ⋯) b.2⟩
 ·exact b.elim⟩
end
abbrev dz:=Ad->Sl->(Sl->Prop)->Prop
def qM(g:TG)(v:dz):Prop:=∀(C:Ctx)(H:Hp)(B:A'->Prop)(σ:St)(δ:Sl)(n:Int)(x:V)(d:Ad)(Q:Sl->Prop)(Q':St->Hp->Prop),Rel C H B σ δ n->RdX H B x d->v d δ Q->
 (∀σ' δ',Rel C H B σ' δ' n->Q δ'->Q' σ' H)->g x σ H Q'
structure DG(X:Cx)(tg:Expr)(g:TG)(v:dz):Prop where
 pg:PG X tg g
 sd:qM g v
section
variable{X:Cx}{pos:Pos}
def aJ(i:Nat):dz:=λd δ Q=>Q (δ.set i (↑d))
theorem rm{i:Nat}{x:Str}(hN:X.N.Nodup)(hi:X.N[i]?=ae x)(hx:fA X.env.scope x)(hf:X.fn x=ah\/X.env.scope.names.lookup x=ae .local:=by first|exact .inl rfl|exact .inr rfl|assumption):DG X (.Name x pos) (c8 i) (aJ i):=
 ⟨Pt hN hi hx hf,λC H B σ δ n x d Q a R r q k=>k _ _ (R.set (x:=.d d) r rfl) q⟩
end
def ew(g:dz)(W:aF)(K:DEnds):List Ad->Sl->Int->Prop
 |[],δ,n=>K.nx δ n
 |d::r,δ,n=>g d δ λδ'=>W δ' n {K with nx:=ew g W K r,ct:=ew g W K r,bk:=K.nx}
def aZ(v:fJ)(g:dz)(W:aF):aF:=λδ n K=>v δ n λds n1=>ew g W K ds δ n1
def fC(H:Hp)(B:A'->Prop):Hp:=λb=>open Classical in if B b then af else H b
theorem mx(H:Hp)(B:A'->Prop):nW H B (fC H B):=by
 refine⟨λb o e=>?_,λb o e n=>?_⟩
 ·unfold fC at e
  split at e
  ·cases e
  ·rename_i h;trivial
 ·unfold fC;rw[a_ n];exact e
theorem Rel.refz{C:Ctx}{H:Hp}{B:A'->Prop}{σ:St}{δ:Sl}{n:Int}(R:Rel C H B σ δ n):Rel {C with fz:=fC H B} H B σ δ n:=
 ⟨R.tp,R.kp,R.t0,R.l0,R.g0,(mx H B).1,R.bt,R.b0,R.ba,R.a0,R.sl,R.ow,R.len⟩
theorem Rel.unfz{C:Ctx}{fz:Hp}{H:Hp}{B:A'->Prop}{σ:St}{δ:Sl}{n:Int}(R:Rel {C with fz:=fz} H B σ δ n)(h:∀b o,C.fz b=ae o->fz b=ae o):Rel C H B σ δ n:=
 ⟨R.tp,R.kp,R.t0,R.l0,R.g0,λb o e=>R.fz b o (h b o e),R.bt,R.b0,R.ba,R.a0,R.sl,R.ow,R.len⟩
theorem Rel.same{C:Ctx}{H H':Hp}{B:A'->Prop}{σ:St}{δ:Sl}{n:Int}(R:Rel C H B σ δ n)(k:gO H H'):Rel C H' B σ δ n:=by
 obtain⟨a,b,e,h⟩:=R.tp.ob;exact R.step ⟨⟨a,b,k _ _ e,h⟩,k _ _ R.tp.ls,R.tp.len,λz=>k _ _ (R.tp.ag z),R.tp.gne⟩ λb o e _=>k b o e
section
variable{X:Cx}{tg iter:Expr}{body:List Stmt}{wi:TI}{v:fJ}{g:TG}{gd:dz}{T:TS}{W:aF}{pos:Pos}
theorem qL(hi:DI X tg iter wi v)(hg:DG X tg g gd)(hb:DSs X body T W)(hp:PassesOwn (A9 X.prog X.w) X.A X.env X.xe:=by exact PassesOwn.never)(hc:X.calm=ah:=by rfl)
  (hs:∀x,Ee iter X.env x=pure x:=by intro _;rfl):DS X (.For tg iter body [] pos) (gv wi g T) (aZ v gd W):=⟨KL hp hc hi.pi hg.pg hb.ps hs,λC H B σ δ n K D R q E=>
 hi.sd C H B σ δ n _ _ R q λJ d y Z M k1 hJ V=>by
  have Q:=hJ _ (mx y B);have c:∀{H p σ δ n},Rel {C with fz:=fC y B} H p σ δ n->Rel C H p σ δ n:=λR=>R.unfz λb o e=>(mx y B).2 b o (M.fz b o e).1 (M.fz b o e).2;refine⟨λi m σ H=>m=d.length-i/\i<=d.length/\∃p δ n,Rel {C with fz:=fC y B} H p σ δ n/\ew gd W K (d.drop i) δ n,⟨d.length,by simp,A1 _,B,δ,Z,M.refz,by simpa using V⟩,?_⟩
  rintro i m S t ⟨rfl,hi,u,U,N,k,s⟩
  have h:=λb o e=>(k.fz b o e).1;by_cases f:i < d.length
  ·rw[Fz f]at s;refine .inr ⟨Q.go i t h f,λσ3 H3=>∃p δ n,_,λσ' F z=>⟨_,by omega,rfl,f,z⟩,λx F hy=>?_⟩;obtain⟨sm,Y⟩:=Q.yld i t x F d[i] h (Ah f) hy;refine hg.sd _ F u S U N x d[i] _ _ (k.same sm) (Y u (λb o e=>(k.fz b o e).2) k.ba) s λσ' δ' R4 q4=>hb.sd _ F u σ' δ' N _ _ R4 q4 ⟨?_,?_,?_,?_,λH B σ δ n a xs d R O P G I q=>E.rn H B σ δ n a xs d (c R) O P G I q,λH B σ δ n a l L R O P G I q=>E.rx H B σ δ n a l L (c R) O P G I q⟩
   ·exact λH B σ δ n R q=>⟨B,δ,n,R,q⟩
   ·exact λH B σ δ n v w R r q=>E.rt H B σ δ n v w (c R) r q
   ·exact λH B σ δ n R q=>E.nx H B σ δ n (c R) q
   ·exact λH B σ δ n R q=>⟨B,δ,n,R,q⟩
  ·have e:i=d.length:=by omega
   subst e;rw[List.drop_length]at s;exact .inl ⟨Q.stop t h,E.nx t u S U N (c k) s⟩⟩
end
def jx(fr:List (Option Nat))(δ:Sl):Sl:=fr.map λo=>o.bind λi=>match δ[i]? with
 |some (ae (.w x))=>ae (.w x)
 |some (ae (.odk kvs))=>ae (.w (.dk kvs))
 |some (ae (.own ds))=>ae (.w (.ln ds))
 |some (ae (.odx kvs))=>ae (.w (.dx kvs))
 |_=>af
def di(g:dz)(c:bZ)(w:DT)(Q:List Ad->Int->Prop):List Ad->List Ad->Sl->Int->Prop
 |[],j_,_,n=>Q j_ n
 |d::r,j_,δ,n=>g d δ λδ'=>c δ' n λb n1=>if b=ah then w δ' n1 λx n2=>match x with
   |.d y=>di g c w Q r (j_++[y]) δ' n2
   |_=>False
  else di g c w Q r j_ δ' n1
def cK(fr:List (Option Nat))(v:fJ)(g:dz)(c:bZ)(w:DT):dO:=λδ n Q=>v δ n λds n1=>di g c w Q ds [] (jx fr δ) n1
structure DIf(X:Cx)(ifs:List Expr)(t:TT)(c:bZ):Prop where
 pf:lJ X ifs t
 sd:iS t c
def bQ:bZ:=λ_ n Q=>Q ah n
theorem HP{X:Cx}:DIf X [] wI bQ:=⟨LZ,λC H B σ δ n Q a R q k=>k ah H n R (Kp.refl _ _) q⟩
theorem Nq{X:Cx}{c:Expr}{t:TT}{cc:bZ}(h:DC X c t cc):DIf X [c] t cc:=⟨Rk h.pt,h.sd⟩
theorem Nr(fr:List (Option Nat))(σ:St):(dB fr σ).length=fr.length:=by unfold dB;simp
theorem Sw(fr:List (Option Nat))(δ:Sl):(jx fr δ).length=fr.length:=by unfold jx;rw[Ab]
theorem tu{fr:List (Option Nat)}{δ:Sl}{j:Nat}{x:SV}(h:(jx fr δ)[j]?=ae (ae x)):∃i y,fr[j]?=ae (ae i)/\δ[i]?=ae (ae y)/\((∃z,x=.w z/\y=.w z)\/(∃kvs,x=.w (.dk kvs)/\y=.odk kvs)\/(∃ds,x=.w (.ln ds)/\y=.own ds)\/∃kvs,x=.w (.dx kvs)/\y=.odx kvs):=by
 unfold jx at h;rw[Am]at h;cases e:fr[j]? with
 |none=>rw[e]at h;cases h
 |some o=>
  rw[e]at h;cases o with
  |none=>cases h
  |some i=>
   have b:=Bw h;dsimp only[Option.bind]at b
   split at b
   ·rename_i z a;cases b;exact⟨i,_,rfl,a,.inl ⟨z,rfl,rfl⟩⟩
   ·rename_i kvs a;cases b;exact⟨i,_,rfl,a,.inr (.inl ⟨kvs,rfl,rfl⟩)⟩
   ·rename_i ds a;cases b;exact⟨i,_,rfl,a,.inr (.inr (.inl ⟨ds,rfl,rfl⟩))⟩
   ·rename_i kvs a;cases b;exact⟨i,_,rfl,a,.inr (.inr (.inr ⟨kvs,rfl,rfl⟩))⟩
   ·cases b
theorem K0{fr:List (Option Nat)}{σ:St}{j i:Nat}{v:V}(h:fr[j]?=ae (ae i))(h2:σ[i]?=ae (ae v)):(dB fr σ)[j]?=ae (ae v):=by
 unfold dB;rw[Am,h];show ae ((σ[i]?).bind id)=_;rw[h2];rfl
theorem Ij{C:Ctx}{H:Hp}{B:A'->Prop}{σ:St}{δ:Sl}{n:Int}{L:A'}{fr:List (Option Nat)}(R:Rel C H B σ δ n)(hL:H L=af):
  Rel ⟨C.t,C.l,C.ns,H,B,fC H B⟩ (upd H L (.lst [])) (λb=>B b\/b=L) (dB fr σ) (jx fr δ) n where
 tp:=R.tp.new hL
 kp:=Kp.new hL
 t0:=R.ba _ R.bt
 l0:=by
  show H C.l.s≠af;rw[R.tp.ls];simp
 g0:=λe=>by
  show H C.l.g≠af;rw[R.tp.ag e];simp
 fz:=λb o e=>by
  obtain⟨u,E⟩:=(mx H B).1 b o e;exact⟨by rw[aG (bu u hL)];exact u,λz=>z.elim E λq=>bu u hL q⟩
 bt:=.inl R.bt
 b0:=λb z=>.inl z
 ba:=λb z e=>by
  by_cases q:b=L
  ·rw[q,a9]at e;cases e
  ·rw[aG q]at e;exact R.ba b (z.resolve_right q) e
 a0:=R.ba
 sl:=λj x e=>by
  have p:∀b F,H b=ae F->¬B b->upd H L (.lst []) b=ae F/\¬(B b\/b=L):=λb F e n=>⟨by rw[aG (bu e hL)];exact e,λz=>z.elim n λq=>bu e hL q⟩;obtain⟨i,y,u,E,G⟩:=tu e;obtain⟨v,J,m⟩:=R.sl i y E;refine⟨v,K0 u J,?_⟩;rcases G with⟨z,rfl,rfl⟩|⟨h,rfl,rfl⟩|⟨I,rfl,rfl⟩|⟨h,rfl,rfl⟩
  ·cases z with
   |d d=>exact⟨m.1.move p,λz=>by cases z⟩
   |tp=>exact⟨m.1,λz=>by cases z⟩
   |ln I=>
    obtain⟨a,l,f,c,r,k,A⟩:=m.1;exact⟨⟨a,l,f,by rw[aG (bu c hL)];exact c,r,k,A.move p⟩,λ_=>⟨a,f,by show H a≠af;rw[c];simp⟩⟩
   |dk h=>
    obtain⟨a,l,f,c,r,k⟩:=m.1;exact⟨⟨a,l,f,by rw[aG (bu c hL)];exact c,r,k.move p⟩,λ_=>⟨a,f,by show H a≠af;rw[c];simp⟩⟩
   |dx h=>
    obtain⟨a,l,f,c,r,k⟩:=m.1;exact⟨⟨a,l,f,by rw[aG (bu c hL)];exact c,r,k.move p⟩,λ_=>⟨a,f,by show H a≠af;rw[c];simp⟩⟩
   |ob o=>
    exact⟨ORel.move p m.1,λz=>by cases z⟩
  ·obtain⟨a,l,f,c,r,k,A,w⟩:=m;exact⟨⟨a,l,f,by rw[aG (bu c hL)];exact c,λz=>R.t0 (z▸k),w.move p⟩,λ_=>⟨a,f,by show H a≠af;rw[c];simp⟩⟩
  ·obtain⟨a,l,f,c,r,k,A,w⟩:=m;exact⟨⟨a,l,f,by rw[aG (bu c hL)];exact c,λz=>R.t0 (z▸k),A,w.move p⟩,λ_=>⟨a,f,by show H a≠af;rw[c];simp⟩⟩
  ·obtain⟨a,l,f,c,r,k,A,w⟩:=m;exact⟨⟨a,l,f,by rw[aG (bu c hL)];exact c,λz=>R.t0 (z▸k),w.move p⟩,λ_=>⟨a,f,by show H a≠af;rw[c];simp⟩⟩
 ow:=λi j x y v u E D Q _ _=>by
  obtain⟨_,_,_,_,G⟩:=tu u;rcases G with⟨z,rfl,_⟩|⟨h,rfl,_⟩|⟨I,rfl,_⟩|⟨h,rfl,_⟩
  ·cases D
  ·cases D
  ·cases D
  ·cases D
 len:=by rw[Nr,Sw]
section
variable{X:Cx}{elt tg iter:Expr}{ifs:List Expr}{scope:E9}{cl:List (Str×A')}{pos:Pos}{N:List Str}{fr:List (Option Nat)}{wi:TI}{v:fJ}{g:TG}{gd:dz}{tt:TT}{cc:bZ}{te:TE}{we:DT}
def f9(δ:Sl):Prop:=∀(i:Nat)(x:SV),δ[i]?=ae (ae x)->x.isOwn=ai
theorem RL(fr:List (Option Nat))(δ:Sl):f9 (jx fr δ):=λi x e=>by
 obtain⟨_,_,_,_,b⟩:=tu e;rcases b with⟨z,rfl,_⟩|⟨a,rfl,_⟩|⟨c,rfl,_⟩|⟨a,rfl,_⟩<;>rfl
def kr(v:dz):Prop:=∀d δ Q,f9 δ->v d δ Q->v d δ λδ'=>f9 δ'/\Q δ'
theorem qR(i:Nat):kr (aJ i):=λd δ Q h q=>⟨λj x e=>by
 rcases eF e with⟨_,rfl⟩|⟨_,b⟩
 ·rfl
 ·exact h j x b,q⟩
theorem ua(hc:X.calm=ah)(S:CompSc X N scope cl fr)(hi:DI X tg iter wi v)(hg:∀s H fp,DG (cJ X N scope cl s H fp) tg g gd)(ht:∀s H fp,DIf (cJ X N scope cl s H fp) ifs tt cc)
  (he:∀s H fp,DE (cJ X N scope cl s H fp) elt te we) (hno:kr gd) (hs:∀x,Ee iter X.env x=pure x:=by intro _;rfl):
  DF X (.ListComp elt [⟨tg,iter,ifs,0⟩] scope pos) (lG fr wi g tt te) (cK fr v gd cc we):=by
 refine⟨FV hc S hi.pi (λs H fp=>(hg s H fp).pg) (λs H fp=>(ht s H fp).pf) (λs H fp=>(he s H fp).pe) hs,λC H B σ δ n Q Q' R q k=>hi.sd C H B σ δ n _ _ R q λJ f H1 n1 K k1 hJ q1=>λL O=>?_⟩;have I:=hJ _ (mx H1 B);have w:L≠C.t:=λz=>K.ba _ K.bt (z▸O);refine⟨λi m A τ H=>m=f.length-i/\i<=f.length/\A.length<=i/\∃δ' n' c,Rel _ H _ τ δ' n'/\f9 δ'/\H L=ae (.lst A)/\RdXs H (λb=>B b\/b=L) A c/\di gd cc we Q (f.drop i) c δ' n',
  ⟨f.length,by simp,A1 _,A1 _,_,n1,[],Ij K O,RL fr δ,a9,.nil,by simpa using q1⟩,?_⟩
 rintro i m A τ T ⟨rfl,hi,G,δ2,V,c,p,no2,M,D,P⟩
 have l:=λb o e=>(p.fz b o e).1;by_cases a:i < f.length
 ·rw[Fz a]at P;refine .inr ⟨I.go i T l a,Bp (Ek G a) I.le,λx W hy=>?_⟩;obtain⟨Y,rd⟩:=I.yld i T x W f[i] l (Ah a) hy;refine((hg X.s₀ X.H₀ []).sd) _ W _ τ δ2 V x f[i] _ _ (p.same Y) (rd _ (λb o e=>(p.fz b o e).2) p.ba) (hno _ _ _ no2 P) λτ3 U R4 ⟨h,q4⟩=>((ht X.s₀ X.H₀ []).sd) _ W _ τ3 U V _ _ R4 q4 λb H4 n4 Z k5 q5=>?_;have E:=k5 _ _ (Y _ _ M) w;have F:=(D.keep λb o e _=>Y b o e).kp k5 R4.bt;cases b with
  |false=>
   exact⟨_,by omega,rfl,a,by omega,U,n4,c,Z,h,E,F,q5⟩
  |true=>
   refine((he X.s₀ X.H₀ []).sd) _ H4 _ τ3 U n4 _ _ Z q5 λu y H5 n5 R6 k6 r6 r=>?_;cases y with
   |d y=>
    refine⟨(k6 _ _ E w),_,by omega,rfl,a,by rw[An,A4];omega,U,n5,_,R6.mut (.inr rfl) O λj z e o=>g_ (h j z e) (by rw[o];simp),h,a9,RdXs.keep (λb o e n=>?_) ((F.kp k6 Z.bt).append (.cons r6 .nil)),r⟩;rw[aG λz=>n (.inr z)];exact e
   |tp=>exact r.elim
   |dk _=>exact r.elim
   |dx _=>exact r.elim
   |ln _=>exact r.elim
   |ob _=>exact r.elim
 ·have e:i=f.length:=by omega
  subst e;rw[List.drop_length]at P;refine .inl ⟨I.stop T l,k L A c T V (K.step p.tp p.kp) (k1.trans p.kp) (K.was k1 O) M (A5 G I.le) D P⟩
end
abbrev cL:=List Ad->Sl->(Sl->Prop)->Prop
def MC(g:fh)(v:cL):Prop:=∀(C:Ctx)(H:Hp)(B:A'->Prop)(σ:St)(δ:Sl)(n:Int)(xs:List V)(ds:List Ad)(Q:Sl->Prop)(Q':St->Hp->Prop),Rel C H B σ δ n->RdXs H B xs ds->v ds δ Q->
 (∀σ' δ',Rel C H B σ' δ' n->Q δ'->Q' σ' H)->g xs σ H Q'
structure DGs(X:Cx)(ts:List Expr)(g:fh)(v:cL):Prop where
 pg:lA X ts g
 sd:MC g v
def dg:cL:=λds δ Q=>match ds with
 |[]=>Q δ
 |_=>False
def bF(v:dz)(r:cL):cL:=λds δ Q=>match ds with
 |d::ds=>v d δ λδ'=>r ds δ' Q
 |[]=>False
def ef(n:Nat)(r:cL):dz:=λd δ Q=>match d with
 |.tuple ds=>ds.length=n/\r ds δ Q
 |_=>False
theorem Qw:∀ds δ Q,f9 δ->dg ds δ Q->dg ds δ λδ'=>f9 δ'/\Q δ':=λds δ Q h q=>by
 cases ds with
 |nil=>exact⟨h,q⟩
 |cons _ _=>exact q
theorem xn{v:dz}{r:cL}(mono:∀d δ (Q Q':Sl->Prop),(∀δ',Q δ'->Q' δ')->v d δ Q->v d δ Q')(hv:kr v)(hr:∀ds δ Q,f9 δ->r ds δ Q->r ds δ λδ'=>f9 δ'/\Q δ'):∀ds δ Q,f9 δ->bF v r ds δ Q->bF v r ds δ λδ'=>f9 δ'/\Q δ':=λds δ Q h q=>by
 cases ds with
 |nil=>exact q
 |cons d ds=>exact mono d δ _ _ (λδ' z=>hr ds δ' Q z.1 z.2) (hv d δ _ h q)
theorem IG{n:Nat}{r:cL}(hr:∀ds δ Q,f9 δ->r ds δ Q->r ds δ λδ'=>f9 δ'/\Q δ'):kr (ef n r):=λd δ Q h q=>by
 unfold ef at q ⊢
 split at q
 ·exact⟨q.1,hr _ _ _ h q.2⟩
 ·exact q.elim
theorem GS(i j n:Nat):kr (ef n (bF (aJ i) (bF (aJ j) dg))):=
 IG (xn (λ_ _ _ _ h q=>h _ q) (qR i) (xn (λ_ _ _ _ h q=>h _ q) (qR j) Qw))
section
variable{X:Cx}{pos:Pos}
theorem HK:DGs X [] nR dg:=⟨Jr,λC H B σ δ n a c Q b R r q k=>by
 cases r with
 |nil=>exact⟨rfl,k σ δ R q⟩
 |cons _ _=>exact q.elim⟩
end
section
variable{X:Cx}{pos:Pos}
theorem Iy{e:Expr}{es:List Expr}{t:TG}{u:fh}{v:dz}{r:cL}(h1:DG X e t v)(h2:DGs X es u r)
  (hs:(Cu (e::es) X.env).map (·.2)=assign e X.env::(Cu es X.env).map (·.2):=by rfl):DGs X (e::es) (xN t u) (bF v r):=⟨Rh h1.pg h2.pg hs,λC H B σ δ n j h Q l R c q k=>by
 cases c with
 |nil=>exact q.elim
 |cons d f=>exact⟨_,_,rfl,h1.sd C H B σ δ n _ _ _ _ R d q λσ' g a b=>h2.sd C H B σ' g n _ _ _ _ a f b k⟩⟩
theorem QF{es:List Expr}{k:Nat}{t:fh}{n:Nat}{r:cL}(h:DGs X es t r)(hc:X.calm=ah:=by rfl)
  (hn:(Cu es X.env).length=n:=by rfl) (hst:(Cu es X.env).findIdx? (·.1)=af:=by rfl):DG X (.Tuple es k pos) (kg X.K n t) (ef n r):=⟨Kw hc h.pg hn hst,λC H B σ δ e x d Q m R c q k=>by
 unfold ef at q
 split at q
 ·rename_i j;cases c with
  |@tup b g _ i o l a=>exact⟨b,g,rfl,SqT.of i,by rw[a.len];exact q.1,h.sd C H B σ δ e _ _ _ _ R a q.2 k⟩
 ·exact q.elim⟩
def jS(i:Nat)(wj w:DT):aF:=λδ n K=>match δ[i]? with
 |some (ae (.own ds))=>w δ n λx n1=>wj δ n1 λj n2=>match x,j with
  |.d d,.d (.int k)=>match iy ds.length k with
   |some m=>K.nx (δ.set i (ae (.own (ds.set m d)))) n2
   |none=>False
  |_,_=>False
 |_=>False
theorem OS{i:Nat}{x:Str}{xp sp:Pos}{j e:Expr}{tj te:TE}{wj we:DT}(hN:X.N[i]?=ae x)(hj:DE X j tj wj)(he:DE X e te we)(hv:dU X.env.scope x:=by first|exact Ci rfl|exact B5 (Ci rfl)|exact B5 (B5 rfl))(hd:(x==("__debug__":Str))=ai:=by decide)
  (r_:(x==("__classdict__":Str))=ai:=by decide)
  (ha:∀v,assign (.Subscript (.Name x xp) j sp) X.env v=(do
   let ov <-holding [v] (eval (.Name x xp) X.env)
   let iv <-holding [v,ov] (eval j X.env)
   standAt sp
   holding [v,ov,iv] (setItem ov iv v)
   release [v,ov,iv] []):=by intro _;rfl)
  (hs:swapsWithSole [.Subscript (.Name x xp) j sp] e pos.line X.env=pure ai:=by rfl) (hw:swappedStores [.Subscript (.Name x xp) j sp] e X.env=pure af:=by rfl)
  (h1:(Cu [.Subscript (.Name x xp) j sp] X.env).map (·.2)=[assign (.Subscript (.Name x xp) j sp) X.env]:=by rfl):
  DS X (.Assign [.Subscript (.Name x xp) j sp] e pos) (bw te (iT (aI i) tj qy)) (jS i wj we):=
 ⟨lg he.pe (mw (eY hN hv hd r_) hj.pe nu ha) hs hw h1,λC H B σ δ n K D R q E=>by
  unfold jS at q
  split at q
  ·rename_i W r;refine he.sd C H B σ δ n _ _ R q λu y J L f V Q A=>?_;obtain⟨v,hv,a,M,rfl,O,h,l,I,s⟩:=f.sl i _ r;refine⟨_,hv,hj.sd C J B σ δ L _ _ f A λw z G U P g S c=>?_⟩
   split at c
   ·rename_i d k
    split at c
    ·rename_i m F;cases(show RdX G B w (.int k)from S);have p:a≠C.t:=λz=>R.t0 (z▸l);refine⟨a,M,k,m,rfl,rfl,(g _ _ O p),by rw[s.len];exact F,E.nx _ _ _ _ _ (P.mutOwn r rfl hv h l ?_ rfl) c⟩;refine⟨a,_,rfl,a9,h,l,by rw[Cb];exact I,RdXs.keep (λb o e n=>?_) (RdXs.set m (s.kp g f.bt) (Q.kp g f.bt))⟩;rw[aG λ(z:b=a)=>n (z▸h)];exact e
    ·exact c.elim
   ·exact c.elim
  ·exact q.elim⟩
end
structure Has(P:A3)(w:Bi)(K:Ag)(mg:Str->Option Af)(base:Heap)(k:Nat)(x:Str)(ps:List Str)(S:aP):Prop where
 ex:∃(f:A')(fd:Ce),FnOk P w K mg base bS k f fd ps (dA S)/\Binds K fd ps []/\mg x=ae (.ref f)/\Ct K (.ref f)=ah
section
variable{P:A3}{w:Bi}{K:Ag}{mg:Str->Option Af}{base:Heap}
theorem Has.mk'{k:Nat}{x qual:Str}{st:Stmt}{ps:List Str}{S:aP}{f:A'}{fd:Ce}(F:Fun K x qual st f fd)(m:mg x=ae (.ref f))(b:Binds K fd ps [])(h:FnOk P w K mg base bS k f fd ps (dA S)):Has P w K mg base k x ps S:=⟨f,fd,h,b,m,F.kp⟩
end
theorem zV{X:Cx}{e:Expr}{es:List Expr}{pos p:Pos}{tR:TA}{wR:cG}{k:Nat}{ps:List Str}{S:aP}{x:Str}(h:Has X.prog X.w X.K X.mg X.base k x ps S)(hr:Room k X.A)(hg:Gl X x)
  (ha:DA X (e::es) tR wR) (hdb:(x==("__debug__":Str))=ai:=by decide) (he:As (e::es) X.env=(ai,eval e X.env)::As es X.env:=by rfl) (q_:(Cw pos (As es X.env)).any (·.1)=ai:=by rfl):
  DE X (.Call (.Name x p) (e::es) [] pos) (eu (dA S) [] E0 tR) (aD S wR):=by
 obtain⟨f,g,d,a,b,c⟩:=h.ex;exact Ss d hr hg b c a ha hdb he q_
theorem FK{cl cells:List (Str×A')}(h:∀y∈cl,cells.lookup y.1=ae y.2):∀x c,cl.lookup x=ae c->cells.lookup x=ae c:=λx c e=>h _ (oE e)
def cm:aP:=λws n Q=>match ws with
 |[.tp,.d (.int many)]=>(n < 2 ^ 40/\0 < many/\many < 1073741824)/\∀r:Int,0<=r->r < many->Q (.d (.int r)) (n+1)
 |_=>False
section
variable{P:A3}{w:Bi}{K:Ag}{mg:Str->Option Af}{base:Heap}
theorem JH{k:Nat}{f:A'}{fd:Ce}{ps:List Str}(h:FnOk P w K mg base bS k f fd ps vW):FnOk P w K mg base bS k f fd ps (dA cm):=h.imp λvs H Q E s=>by
 obtain⟨t,l,c,B,z,n,A,T,x,y,r,q,m⟩:=s;unfold cm at q
 split at q
 ·rename_i a;cases r with
  |cons o p=>
   cases p with
   |cons v b=>
    cases b;cases(o);cases(show RdX H B _ (.int a)from v);exact⟨t,l,c,n,_,rfl,T,q.1.1,q.1.2.1,q.1.2.2,λr g d e i j=>m _ _ (q.2 r d e) _ g i j (.int r)⟩
 ·exact q.elim
def spLaw(K:Ag):Sp:=λvs H Q _=>∃(a:A')(ns:List Int),vs=[.ref a]/\SqL K H a (ns.map V.int)/\ns.length<=63/\∀H',Q (.bl ah) H'
def mV:DEnds:={ nx:=λ_ _=>False,rt:=λw _=>w=.d (.bool ah)}
theorem Q3{H:Hp}{t:A'}{l:TL}{ns:List Int}{a:V}{k:Nat}(T:Tp H t l ns 0):Rel ⟨t,l,ns,H,λb=>b=t,λ_=>af⟩ H (λb=>b=t) (ae a::ae (.ref t)::Di k af) (af::ae (.w .tp)::Di k af) 0 where
 tp:=T
 kp:=Kp.refl _ _
 t0:=by
  obtain⟨_,_,h,_⟩:=T.ob;show H t≠af;rw[h];simp
 l0:=by
  show H l.s≠af;rw[T.ls];simp
 g0:=λe=>by
  show H l.g≠af;rw[T.ag e];simp
 fz:=λb o e=>nomatch e
 bt:=rfl
 b0:=λ_ z=>z
 ba:=λb z=>by
  obtain⟨_,_,h,_⟩:=T.ob;rw[z,h];simp
 a0:=λb z=>by
  obtain⟨_,_,h,_⟩:=T.ob;show H b≠af;rw[z,h];simp
 sl:=λi x e=>by
  rcases i with _|_|i
  ·cases e
  ·cases e;exact⟨_,rfl,rfl,λz=>by cases z⟩
  ·have c:(Di k _)[i]?=ae (ae x):=e;rw[Ez]at c
   split at c
   ·cases c
   ·cases c
 ow:=λi j x y v d p f q n m=>by
  rcases i with _|_|i
  ·cases d
  ·cases d;cases f
  ·have c:(Di k _)[i]?=ae (ae x):=d;rw[Ez]at c
   split at c
   ·cases c
   ·cases c
 len:=by simp
end
end DL
local macro_rules|`(⇑$n:num)=>`(DL.wC (.int $n))
local macro_rules|`(↥$n:num)=>`(DL.aj $n)
namespace Nb
open PySem L2 DL
def pJ(c:Nat):Bool:=!decide ([c] < ("a":Str).cps.toList)&&!decide (("z":Str).cps.toList < [c])
def kx(k:Int):Ad->Bool
 |.str x=>decide ((1:Int)<=(x.length:Int))&&(decide ((x.length:Int)<=k)&&x.cps.toList.all pJ)
 |_=>ai
def SK:Ad->Bool
 |.int _=>ah
 |_=>ai
theorem wU{w:DT}{Q:List Ad->Int->Prop}{aA:Sl}(P:Ad->Prop)(f:Ad->Ad)(h:∀d n Q',P d->Q' (.d (f d)) n->w (↑d::aA) n Q'):∀(items j_:List Ad)(x:Option SV)(n:Int),(∀d∈items,P d)->Q (j_++items.map f) n->di (aJ 0) bQ w Q items j_ (x::aA) n
 |[],j_,x,n,a,q=>by
  rw[List.map_nil,Bu]at q;exact q
 |d::r,j_,x,n,a,q=>by
  refine h d n _ (a d Ap) (wU P f h r _ _ n (λe b=>a e (Ak _ b)) ?_);rw[A2];exact q
theorem qz{c:bZ}{w:DT}{Q:List Ad->Int->Prop}{aA:Sl}(P:Ad->Prop)(p:Ad->Bool)(f:Ad->Ad)(hp:∀d n Q',P d->Q' (p d) n->c (↑d::aA) n Q')(h:∀d n Q',P d->Q' (.d (f d)) n->w (↑d::aA) n Q'):
  ∀(items j_:List Ad)(x:Option SV)(n:Int),(∀d∈items,P d)->Q (j_++(items.filter p).map f) n->di (aJ 0) c w Q items j_ (x::aA) n
 |[],j_,x,n,a,q=>by
  rw[List.filter_nil,List.map_nil,Bu]at q;exact q
 |d::r,j_,x,n,a,q=>by
  refine hp d n _ (a d Ap) ?_;cases e:p d with
  |true=>
   refine h d n _ (a d Ap) (qz P p f hp h r _ _ n (λe b=>a e (Ak _ b)) ?_);rw[List.filter_cons_of_pos e]at q;rw[A2];exact q
  |false=>
   refine qz P p f hp h r j_ _ n (λe b=>a e (Ak _ b)) ?_;simp_all
def okD:Ad->Bool
 |.str y=>!decide (y.cps.toList < ("a":Str).cps.toList)&&!decide (("z":Str).cps.toList < y.cps.toList)
 |_=>ai
theorem wM{α:Type}{xs:List α}{r:Int}(h0:0<=r)(h1:r < xs.length):∃v,cx xs r=ae v/\v∈xs:=by
 obtain⟨j,rfl⟩:=Int.eq_ofNat_of_zero_le h0;have a:j < xs.length:=by omega
 exact⟨_,d7 (Ah a),C5 a⟩
theorem og(d:Ad):i4 "str" d=match d with|.str _=>ah|_=>ai:=by cases d<;>rfl
theorem SQ(d:Ad):i4 "list" d=match d with|.list _=>ah|_=>ai:=by cases d<;>rfl
theorem mU{b:Bool}{A B:Prop}(h1:b=ah->A)(h2:b=ai->B):if b=ah then A else B:=by
 cases b with
 |true=>rw[b_ rfl];exact h1 rfl
 |false=>rw[a_ Az];exact h2 rfl
end Nb
namespace DL
open PySem L2 Nb
section
variable{X:Cx}{tg a b c e:Expr}{ta tb tc te:TE}{wa wb wc we:DT}{pos p:Pos}{K:Ag}
theorem Q9(ha:DE X a ta wa)(hb:DE X b tb wb)(hK:X.K=K:=by rfl)(hs:oP b:=by exact λ_ _=>rfl):DE X (.Subscript a b pos) (cY (jC K) ta tb) (w2 wa wb aw):=by subst hK;exact qW ha hb hs
def sQ(K:Ag)(T:String):List V->Hp->VK->Prop:=λxs H Q=>∃x t b,xs=[x,.ty T]/\TyOf K H x t/\PySem.W.kitOne K t (.type T)=ae b/\Q (.bl b) H
theorem Ro{T:String}{x:Str}{p p2:Pos}(hT:T="int"\/T="bool"\/T="str"\/T="tuple"\/T="list")(hg:Gl X "isinstance")(hm:X.mg "isinstance"=af)(hg2:Gl X x)(hm2:X.mg x=af)(hv:Bz x=ae (.type T))(ha:DE X a ta wa)(hK:X.K=K:=by rfl)(hn:x≠"__name__":=by decide)(hdb:(x==("__debug__":Str))=ai:=by decide)
  (he:As [a,.Name x p2] X.env=(ai,eval a X.env)::As [.Name x p2] X.env:=by rfl) (he2:As [.Name x p2] X.env=(ai,eval (.Name x p2) X.env)::As [] X.env:=by rfl) (q_:(Cw pos (As [.Name x p2] X.env)).any (·.1)=ai:=by rfl):
  DE X (.Call (.Name "isinstance" p) [a,.Name x p2] [] pos) (d3 (sQ K T) (br ta (br (tC (.ty T)) aX))) (cV T wa):=by subst hK;exact QS hT hg hm hg2 hm2 hv ha hn hdb he he2 q_
def j4(K:Ag):R2:=λx y H Q=>qu x y H Q\/qp x y H Q\/pN K x y H Q
theorem pL(hu:X.A.units < De)(hK:X.K=K:=by rfl):OpR X (B3 .Eq) (j4 K):=by subst hK;exact JX hu
theorem n8:a8 (j4 K) bf:=GX
theorem si(hK:X.K=K:=by rfl):OpR X (B3 .In) (gc K ai):=by subst hK;exact II
theorem uq(hK:X.K=K:=by rfl):OpR X (B3 .NotIn) (gc K ah):=by subst hK;exact LF
def sP(K:Ag):List V->Hp->VK->Prop:=λxs H Q=>(∃z,xs=[.str z]/\z.length<=Ay/\Q (.int z.length) H)\/∃p ys,xs=[.ref p]/\(SqL K H p ys\/SqT K H p ys)/\Q (.int ys.length) H
theorem rO(hK:X.K=K:=by rfl):CallR X (.builtin "len") (sP K):=by subst hK;exact Nj
theorem sk:cX (sP K) bH:=SE
def qN(K:Ag):List V->Hp->VK->Prop:=λxs H Q=>∃a d,xs=[.ref a]/\RdD K H (.ref a) d/\Small d/\Q (.str d.shown) H
theorem Ib(hg:X.A.guards=ae [])(hu:X.A.units+64 < De)(hK:X.K=K:=by rfl):CallR X (.builtin "repr") (qN K):=by subst hK;exact Pd hg hu
theorem MZ:cX (qN K) ou:=Oo
def qY(K:Ag):List V->Hp->VK->Prop:=λxs H Q=>∃p ys,xs=[.ref p]/\((SqL K H p ys/\∀l,H l=af->Q (.ref l) (upd H l (.tup ys)))\/(SqT K H p ys/\Q (.ref p) H))
theorem zG(hK:X.K=K:=by rfl):CallR X (.type "tuple") (qY K):=by subst hK;exact Kx
theorem vj:cX (qY K) eJ:=OU
def ve(K:Ag):List V->Hp->VK->Prop:=λxs H Q=>∃p ys,xs=[.ref p]/\(SqL K H p ys\/SqT K H p ys)/\∀l,H l=af->Q (.ref l) (upd H l (.lst ys))
theorem L1(hK:X.K=K:=by rfl):CallR X (.type "list") (ve K):=by subst hK;exact Ml
theorem BI(ha:DE X a ta wa)(hK:X.K=K:=by rfl):DI X tg a (oh K ta) (e8 wa):=by subst hK;exact Lq ha
theorem PU(ha:DE X a ta wa)(hK:X.K=K:=by rfl):DI X tg a (kj K ta) (dh wa):=by subst hK;exact Sj ha
theorem PH{es:List Expr}{k:Nat}{t:fh}{n:Nat}{r:cL}(h:DGs X es t r)(hc:X.calm=ah:=by rfl)(hK:X.K=K:=by rfl)
  (hn:(Cu es X.env).length=n:=by rfl) (hst:(Cu es X.env).findIdx? (·.1)=af:=by rfl):DG X (.Tuple es k pos) (kg K n t) (ef n r):=by subst hK;exact QF h hc hn hst
end
end DL
namespace L2
open PySem PySem.Spec PyProof.Rows
theorem vw{X:Cx}{elt tg iter:Expr}{ifs:List Expr}{scope:E9}{cl:List (Str×A')}{cpos pos pos':Pos}{N:List Str}{fr:List (Option Nat)}{wi:TI}{g:TG}{tt:TT}{te:TE}{i:Nat}{x:Str}
  (hN:X.N.Nodup) (hix:X.N[i]?=ae x) (hx:X.env.scope.names.lookup x=ae .local)
  (hc:X.calm=ah) (S:CompSc X N scope cl fr) (hi:PI X tg iter wi) (hg:∀s H fp,PG (cJ X N scope cl s H fp) tg g) (ht:∀s H fp,lJ (cJ X N scope cl s H fp) ifs tt)
  (he:∀s H fp,PE (cJ X N scope cl s H fp) elt te) (hs:∀x,Ee iter X.env x=pure x:=by intro _;rfl)
  (hsw:Cy (.ListComp elt [⟨tg,iter,ifs,0⟩] scope cpos) (ae (.Name x pos')) pos.line X.env=pure ah:=by rfl):
  PS X (.Assign [.Name x pos'] (.ListComp elt [⟨tg,iter,ifs,0⟩] scope cpos) pos) (bw (lG fr wi g tt te) (c8 i)):=by
 intro k s σ H D I h;rw[exec_Assign_Name_used _ _ _ _ hsw];refine Aa (wpAny_standAt (Aa (Aa ?_)));have O:∀(u:Unit) p,SP X k D .next p->A6 (A9 X.prog X.w) X.A _ _ X.xe p:=λ_ p z=>Aj z
 refine aL (xa hc S hi hg ht he hs I h λ{fp m s6 H3 F τ a U} E R K qn Y=>?_) λ_ p z=>Aj (Aj z);have r:F m.heap.objs.size=af:=K.free;obtain⟨_,M,_,c3,J,W⟩:=E.fpOk (Al _) r;refine wpAny_assign_Name (wK (zu E R K (Heap.SameBut.refl _ _)) hN hix (.inl hx) (show RelV (.ref a) (Cj a)from rfl) (λs7 y f=>?_) (.inr hx));obtain⟨L,f,t⟩:=f;have B:m.heap.objs.size≠L:=by
  rcases t with z|z
  ·rw[z];omega
  ·exact λq=>J x L z q.symm
 obtain⟨oo,Z,ep,T,Q⟩:=Y;refine⟨U,⟨oo,Z,ep,(f.2 _ B).trans T,Q⟩,λh' d=>⟨_,F,?_,qn⟩⟩;have C:∀b,b∉[m.heap.objs.size]->b≠m.heap.objs.size:=λb z q=>z (by rw[q];simp);have l:=λb o e=>by
  refine(y.hok b o e).stay (λc v hc z=>(d.2 c ?_).trans z) (λ_ z=>z) λ_ _ z=>z
  rintro rfl
  rcases hc with z|z
  ·rw[<-z,r]at e;cases e
  ·rw[r]at z;cases z
 refine y.call' (ch:=[m.heap.objs.size]) rfl ?_ l y.bare λb P=>?_
 ·exact⟨λb o e n V j=>(d.2 b (C b j)).trans e,λb o e n V j=>⟨_,(d.2 b (C b j)).trans e⟩,λb o e n j=>n,λb o e j=>⟨o,(d.2 b (C b j)).trans e⟩,λ_ _ z=>z,λ_ _ _ z=>z,λb ps z=>⟨#[],z⟩⟩
 ·cases Bm.mp P;exact⟨c3,M,J,W⟩
end L2
namespace DL
open PySem L2 Nb
section
variable{X:Cx}{elt tg iter:Expr}{ifs:List Expr}{scope:E9}{cl:List (Str×A')}{cpos pos pos':Pos}{N:List Str}{fr:List (Option Nat)}{wi:TI}{v:fJ}{g:TG}{gd:dz}{tt:TT}{cc:bZ}{te:TE}{we:DT}{i:Nat}{x:Str}
theorem JT{t:TE}{w:dO}(h:iU t w):ir (bw t (c8 i)) (bq i w):=λC H B σ δ n K D R q E=>
 h C H B σ δ n _ _ R q λa j o l m g k b c d e f=>by
  refine E.nx _ _ _ _ _ (R.own g k b (by rw[c];simp) rfl ?_) f;exact⟨a,j,rfl,c,.inr rfl,R.h0 b,d,e⟩
theorem IL{t:TE}{w:DT}(h:dj t w):ir (bw t (c8 i)) (ay i w):=λC H B σ δ n K D R q E=>
 h C H B σ δ n _ _ R q λv x f g b _ c a=>by
  cases x with
  |d d=>exact E.nx _ _ _ _ _ (b.set c rfl) a
  |tp=>exact E.nx _ _ _ _ _ (b.set c rfl) a
  |dk _=>exact a.elim
  |dx _=>exact a.elim
  |ln _=>exact a.elim
  |ob _=>exact E.nx _ _ _ _ _ (b.set c rfl) a
theorem Pn(hN:X.N.Nodup)(hix:X.N[i]?=ae x)(hx:X.env.scope.names.lookup x=ae .local)(hc:X.calm=ah)(S:CompSc X N scope cl fr)(hi:DI X tg iter wi v)(hg:∀s H fp,DG (cJ X N scope cl s H fp) tg g gd)(ht:∀s H fp,DIf (cJ X N scope cl s H fp) ifs tt cc)
  (he:∀s H fp,DE (cJ X N scope cl s H fp) elt te we) (hno:kr gd) (hs:∀x,Ee iter X.env x=pure x:=by intro _;rfl)
  (hsw:Cy (.ListComp elt [⟨tg,iter,ifs,0⟩] scope cpos) (ae (.Name x pos')) pos.line X.env=pure ah:=by rfl):
  DS X (.Assign [.Name x pos'] (.ListComp elt [⟨tg,iter,ifs,0⟩] scope cpos) pos) (bw (lG fr wi g tt te) (c8 i)) (bq i (cK fr v gd cc we)):=
 ⟨vw hN hix hx hc S hi.pi (λs H fp=>(hg s H fp).pg) (λs H fp=>(ht s H fp).pf) (λs H fp=>(he s H fp).pe) hs hsw,JT (ua (pos:=cpos) hc S hi hg ht he hno hs).sd⟩
theorem Oh(hN:X.N.Nodup)(hix:X.N[i]?=ae x)(hx:X.env.scope.names.lookup x=ae .local)(hc:X.calm=ah)(S:CompSc X N scope cl fr)(hi:DI X tg iter wi v)(hg:∀s H fp,DG (cJ X N scope cl s H fp) tg g gd)(ht:∀s H fp,DIf (cJ X N scope cl s H fp) ifs tt cc)
  (he:∀s H fp,DE (cJ X N scope cl s H fp) elt te we) (hno:kr gd) (hs:∀x,Ee iter X.env x=pure x:=by intro _;rfl)
  (hsw:Cy (.ListComp elt [⟨tg,iter,ifs,0⟩] scope cpos) (ae (.Name x pos')) pos.line X.env=pure ah:=by rfl):
  DS X (.Assign [.Name x pos'] (.ListComp elt [⟨tg,iter,ifs,0⟩] scope cpos) pos) (bw (lG fr wi g tt te) (c8 i)) (ay i (bg (cK fr v gd cc we))):=
 ⟨vw hN hix hx hc S hi.pi (λs H fp=>(hg s H fp).pg) (λs H fp=>(ht s H fp).pf) (λs H fp=>(he s H fp).pe) hs hsw,IL (ua (pos:=cpos) hc S hi hg ht he hno hs).d.sd⟩
end
end DL
namespace KS
open PySem PySem.W PyProof.Rows
def run{α:Type}(c:Nat->Nat->Bool):KasT α->α
 |.ret a=>a
 |.ask i j k=>run c (k (c i j))
theorem kQ{α β:Type}(c:Nat->Nat->Bool)(f:α->KasT β):∀t:KasT α,run c (t.bind f)=run c (f (run c t))
 |.ret _=>rfl
 |.ask i j k=>kQ c f (k _)
def Wi{α:Type}(n:Nat)(P:α->Prop):KasT α->Prop
 |.ret a=>P a
 |.ask i j k=>i < n/\j < n/\∀b,Wi n P (k b)
theorem Wi.bind{α β:Type}{n:Nat}{P:α->Prop}{R:β->Prop}{f:α->KasT β}(hf:∀a,P a->Wi n R (f a)):∀{t:KasT α},Wi n P t->Wi n R (t.bind f)
 |.ret a,h=>hf a h
 |.ask i j k,h=>⟨h.1,h.2.1,λb=>Wi.bind hf (h.2.2 b)⟩
theorem Wi.out{α:Type}{n:Nat}{P:α->Prop}(c:Nat->Nat->Bool):∀{t:KasT α},Wi n P t->P (run c t)
 |.ret a,h=>h
 |.ask i j k,h=>Wi.out c (t:=k _) (h.2.2 _)
theorem wp_run{α:Type}{n:Nat}{P:α->Prop}{cmp:Nat->Nat->(Bool->Ai->Prop)->Ai->Prop}{c:Nat->Nat->Bool}{St:Ai->Prop}{Q:α->Ai->Prop}
  (hc:∀i j C s,i < n->j < n->St s->(∀s',St s'->C (c i j) s')->cmp i j C s):∀(t:KasT α)(s:Ai),Wi n P t->St s->(∀s',St s'->Q (run c t) s')->t.kasWp cmp Q s
 |.ret a,s,_,d,h=>h s d
 |.ask i j k,s,w,d,h=>hc i j _ s w.1 w.2.1 d λs' b=>wp_run hc _ s' (w.2.2 _) b h
def Lo(n:Nat)(p:Array Nat):Prop:=∀i,p.getD i 0 < n
theorem jl(p:Array Nat)(i:Nat):p.getD i 0=(p[i]?).getD 0:=by simp
theorem Sk{n:Nat}{p:Array Nat}(hn:0 < n)(h:∀x∈p,x < n):Lo n p:=λi=>by
 rw[jl];cases e:p[i]? with
 |none=>exact hn
 |some x=>exact h x (Array.mem_of_getElem? e)
def Pm(n:Nat)(p:Array Nat):Prop:=p.Perm (E6 (Be n))
theorem Pm.size{n:Nat}{p:Array Nat}(h:Pm n p):p.size=n:=by rw[Array.Perm.size_eq h];simp
theorem Pm.lo{n:Nat}{p:Array Nat}(hn:0 < n)(h:Pm n p):Lo n p:=Sk hn λx a=>by
 have:=(Array.Perm.mem_iff h).mp a;simpa using this
theorem Pm.rev{n:Nat}{p:Array Nat}(h:Pm n p)(i j:Nat):Pm n (kas_rev p i j):=(mirror_perm p i j _).trans h
theorem Pm.bub{n:Nat}{p:Array Nat}(h:Pm n p)(i j:Nat):Pm n (bubble p i j):=(bubble_perm p i j).trans h
section
variable{n:Nat}(hn:0 < n)
include hn
theorem tq{p:Array Nat}(h:Lo n p):∀f m,Wi n (λ_=>True) (kas_asc p f m)
 |0,m=>trivial
 |f+1,m=>⟨h _,h _,λb=>by
  cases b with
  |true=>exact trivial
  |false=>exact tq h f _⟩
theorem ot:∀f (p:Array Nat) m q,Pm n p->Wi n (λr=>Pm n r.1) (kas_desc f p m q)
 |0,p,m,q,h=>h
 |f+1,p,m,q,h=>⟨h.lo hn _,h.lo hn _,λb=>by
  cases b with
  |true=>
   show Wi n _ (if q > 0 then _ else _)
   split
   ·exact ot f _ _ _ (h.rev _ _)
   ·exact ot f _ _ _ h
  |false=>exact⟨h.lo hn _,h.lo hn _,λd=>by
    cases d with
    |true=>exact h
    |false=>exact ot f _ _ _ h⟩⟩
theorem CZ(m nrem:Nat){p:Array Nat}(h:Pm n p):Wi n (λr=>Pm n r.2) (kas_tail3 m nrem p):=by
 refine Wi.bind (λa _=>?_) (tq hn ((h.rev 0 m).lo hn) _ _);exact h.rev _ _
theorem BG(m nrem:Nat){p:Array Nat}(h:Pm n p):Wi n (λr=>Pm n r.2) (kas_descPart m nrem p):=
 Wi.bind (λr a=>by
  split
  ·exact CZ hn _ _ (Pm.rev a _ _)
  ·exact CZ hn _ _ a) (ot hn _ p _ _ h)
theorem GA(nrem:Nat){p:Array Nat}(h:Pm n p):Wi n (λr=>Pm n r.2) (kas_count nrem p):=
 Wi.bind (λm _=>by
  split
  ·exact h
  ·split
   ·exact⟨h.lo hn _,h.lo hn _,λb=>by
     cases b with
     |true=>exact h
     |false=>exact BG hn _ _ (h.rev _ _)⟩
   ·exact BG hn _ _ h) (tq hn (h.lo hn) _ _)
theorem uA{p:Array Nat}(h:Lo n p)(k:Nat):∀f l r,Wi n (λ_=>True) (kas_place p k f l r)
 |0,l,r=>trivial
 |f+1,l,r=>by
  show Wi n _ (if l ≥ r then _ else _)
  split
  ·exact trivial
  ·exact⟨h _,h _,λb=>by
    cases b with
    |true=>exact uA h k f _ _
    |false=>exact uA h k f _ _⟩
theorem vz:∀f (p:Array Nat) k,Pm n p->Wi n (Pm n) (kas_bin f p k)
 |0,p,k,h=>h
 |f+1,p,k,h=>Wi.bind (λl _=>vz f _ _ (h.bub _ _)) (uA hn (h.lo hn) k _ _ _)
theorem wi_sort:Wi n (Pm n) (kas_sort n):=
 Wi.bind (λr a=>by
  split
  ·exact vz hn _ _ _ a
  ·exact a) (GA hn n (Array.Perm.refl _))
end
structure Ord(lt:Nat->Nat->Bool):Prop where
 asym:∀i j,lt i j=ah->lt j i=ai
 ltr:∀i j k,lt j i=ai->lt k j=ai->lt k i=ai
section
variable{lt:Nat->Nat->Bool}(O:Ord lt)
def g(p:Array Nat)(i:Nat):Nat:=p.getD i 0
def SP(lt:Nat->Nat->Bool)(p:Array Nat)(n:Nat):Prop:=∀i j,i < j->j < n->lt (g p j) (g p i)=ai
def DP(lt:Nat->Nat->Bool)(p:Array Nat)(n:Nat):Prop:=∀i j,i < j->j < n->lt (g p i) (g p j)=ai
def Sim(lt:Nat->Nat->Bool)(x y:Nat):Prop:=lt x y=ai/\lt y x=ai
include O
theorem iF(i:Nat):lt i i=ai:=by
 cases e:lt i i with
 |false=>rfl
 |true=>exact(O.asym i i e).symm.trans e |>.symm▸rfl
theorem Sim.eq{a b x y:Nat}(h1:Sim lt a x)(h2:Sim lt b y):lt a b=lt x y:=by
 cases e:lt x y with
 |false=>exact O.ltr _ _ _ h2.2 (O.ltr _ _ _ e h1.1)
 |true=>
  cases c:lt a b with
  |true=>rfl
  |false=>
   have:=O.ltr _ _ _ h2.1 (O.ltr _ _ _ c h1.2);rw[this]at e;cases e
theorem SP.snoc{p:Array Nat}{n:Nat}(h:SP lt p n)(h1:1<=n)(e:lt (g p n) (g p (n-1))=ai):SP lt p (n+1):=λi j a b=>by
 by_cases q:j < n
 ·exact h i j a q
 ·have:j=n:=by omega
  subst this;by_cases r:i=j-1
  ·subst r;exact e
  ·exact O.ltr _ _ _ (h i _ ⋯ ⋯) e
theorem sg{p:Array Nat}:∀f n,1<=n->SP lt p n->n<=run lt (kas_asc p f n)/\run lt (kas_asc p f n)<=n+f/\SP lt p (run lt (kas_asc p f n))/\(run lt (kas_asc p f n)=n+f\/lt (g p (run lt (kas_asc p f n))) (g p (run lt (kas_asc p f n)-1))=ah)
 |0,n,a,h=>⟨Al _,Al _,h,.inl rfl⟩
 |f+1,n,a,h=>by
  have e:run lt (kas_asc p (f+1) n)=run lt (if lt (g p n) (g p _)=ah then .ret n else kas_asc p f _):=rfl;rw[e];cases q:lt _ (g p _)with
  |true=>exact⟨Al _,Nat.le_add_right _ _,h,.inr q⟩
  |false=>
   rw[a_ Az];obtain⟨i,d,b,c⟩:=sg f _ ⋯ (SP.snoc O h a q);exact⟨by omega,by omega,b,c.imp (λz=>by omega) id⟩
omit O
theorem rz{p:Array Nat}{i j:Nat}(hj:j<=p.size)(k:Nat):g (kas_rev p i j) k=if i<=k/\k < j then g p (i+j-1-k)else g p k:=by
 unfold g kas_rev;rw[jl,jl,jl,getElem?_mirror hj _ ⋯];by_cases h:i<=k/\k < j
 ·rw[b_ h];by_cases q:(i<=k/\k < i+(j-i) / 2)\/(j-(j-i) / 2<=k/\k < j)
  ·rw[b_ q]
  ·rw[a_ q];have:i+j-1-k=k:=by omega
   rw[this]
 ·rw[a_ h,a_ ⋯]
include O
theorem sW{p:Array Nat}{i j:Nat}(hj:j<=p.size)(h:∀a b,i<=a->a < j->i<=b->b < j->Sim lt (g p a) (g p b))(k:Nat):Sim lt (g (kas_rev p i j) k) (g p k):=by
 rw[rz hj]
 split
 ·rename_i q;grind
 ·exact⟨iF O _,iF O _⟩
theorem DP.sim{p p':Array Nat}{n:Nat}(h:DP lt p n)(s:∀k,Sim lt (g p' k) (g p k)):DP lt p' n:=λi j a b=>(Sim.eq O (s i) (s j)).trans (h i j a b)
theorem DP.snoc{p:Array Nat}{n:Nat}(h:DP lt p n)(h1:1<=n)(e:lt (g p (n-1)) (g p n)=ai):DP lt p (n+1):=λi j a b=>by
 by_cases q:j < n
 ·exact h i j a q
 ·have:j=n:=by omega
  subst this;by_cases r:i=j-1
  ·subst r;exact e
  ·exact O.ltr _ _ _ e (h i _ ⋯ ⋯)
omit O
def ug(lt:Nat->Nat->Bool)(sz n f:Nat)(r:Array Nat×Nat×Nat):Prop:=
 r.1.size=sz/\n<=r.2.1/\r.2.1<=n+f/\r.2.2+1<=r.2.1/\DP lt r.1 r.2.1/\(∀a b,r.2.1-(r.2.2+1)<=a->a < r.2.1->r.2.1-(r.2.2+1)<=b->b < r.2.1->Sim lt (g r.1 a) (g r.1 b))
def iw(lt:Nat->Nat->Bool)(sz nrem:Nat)(r:Nat×Array Nat):Prop:=r.2.size=sz/\1<=r.1/\r.1<=nrem/\SP lt r.2 r.1
def rJ(lt:Nat->Nat->Bool)(p:Array Nat)(k m:Nat):Prop:=m<=k/\(∀i,i < m->lt (g p k) (g p i)=ai)/\(∀i,m<=i->i < k->lt (g p k) (g p i)=ah)
include O
theorem oj:∀f (p:Array Nat) n q,q+1<=n->n+f<=p.size->DP lt p n->(∀a b,n-(q+1)<=a->a < n->n-(q+1)<=b->b < n->Sim lt (g p a) (g p b))->
  ug lt p.size n f (run lt (kas_desc f p n q))
 |0,p,n,q,A,K,c,j=>⟨rfl,Al _,Al _,A,c,j⟩
 |f+1,p,n,q,A,K,c,j=>by
  have o:∀F m a b,m+1-(0+1)<=a->a < m+1->m+1-(0+1)<=b->b < m+1->Sim lt (g F a) (g F b):=λp' m a b J k E l=>by
   have R:a=m:=by omega
   have P:b=m:=by omega
   rw[R,P];exact⟨iF O _,iF O _⟩
  show ug lt p.size n _ (run lt (if lt (g p n) (g p _)=ah then(if q > 0 then kas_desc f _ _ 0 else kas_desc f p _ 0)else .ask _ _ λd=>if d=ah then .ret (p,n,q)else kas_desc f p _ _));cases w:lt _ (g p _)with
  |true=>
   rw[b_ rfl];by_cases C:q > 0
   ·rw[b_ C];have M:=DP.sim O (DP.snoc O c ⋯ (O.asym _ _ w)) (sW O ⋯ j);have Q:(kas_rev p (n-(q+1)) n).size=p.size:=mirror_size _ _ _ _;obtain⟨u,G,B,r,t,v⟩:=oj f _ _ 0 ⋯ ⋯ M (o _ n);exact⟨u.trans Q,by omega,by omega,r,t,v⟩
   ·rw[a_ C];obtain⟨u,G,B,r,t,v⟩:=oj f p _ 0 ⋯ ⋯ (DP.snoc O c ⋯ (O.asym _ _ w)) (o _ n);exact⟨u,by omega,by omega,r,t,v⟩
  |false=>
   show ug lt p.size n _ (run lt (if lt (g p _) (g p n)=ah then .ret (p,n,q)else kas_desc f p _ _));cases D:lt _ (g p n)with
   |true=>exact⟨rfl,Al _,by show n<=n+(f+1);omega,A,c,j⟩
   |false=>
    rw[a_ Az];have T:Sim lt _ (g p _):=⟨w,D⟩;have N:∀{x y z:Nat},Sim lt x y->Sim lt y z->Sim lt x z:=λh H=>⟨O.ltr _ _ _ H.1 h.1,O.ltr _ _ _ h.2 H.2⟩;obtain⟨u,G,B,r,t,v⟩:=oj f p _ (q+1) ⋯ ⋯ (DP.snoc O c ⋯ D) (λa b J k E l=>by
     have i:∀x,n+1-(q+1+1)<=x->x < n+1->Sim lt _ (g p (n-1)):=λx S L=>by
      by_cases e:x=n
      ·rw[e];omega
      ·exact j x _ ⋯ ⋯ ⋯ ⋯
     have I:=i b E l;exact N (i a J k) ⟨I.2,I.1⟩)
    exact⟨u,by omega,by omega,r,t,v⟩
theorem DU{p:Array Nat}{n nrem:Nat}(h1:1<=n)(hn:n<=nrem)(hz:nrem<=p.size)(h:DP lt p n):iw lt p.size nrem (run lt (kas_tail3 n nrem p)):=by
 unfold kas_tail3;rw[kQ];have e:(kas_rev p 0 n).size=p.size:=mirror_size _ _ _ _;have c:SP lt (kas_rev p 0 n) n:=λi j d f=>by
  rw[rz ⋯,rz ⋯,b_ ⟨A1 _,f⟩,b_ ⟨A1 _,by omega⟩];exact h _ _ ⋯ ⋯
 obtain⟨l,g,b,_⟩:=sg O _ n h1 c;exact⟨e,by show 1<=run lt _;omega,by show run lt _<=nrem;omega,b⟩
theorem yR{p:Array Nat}{n nrem:Nat}(h1:1<=n)(hn:n+1<=nrem)(hz:nrem<=p.size)(h:DP lt p (n+1)):iw lt p.size nrem (run lt (kas_descPart n nrem p)):=by
 unfold kas_descPart;rw[kQ];obtain⟨g,t,k,o,f,j⟩:=oj O (nrem-(n+1)) p _ 0 ⋯ ⋯ h (λa b w l v m=>by
  have u:a=n:=by omega
  have q:b=n:=by omega
  rw[u,q];exact⟨iF O _,iF O _⟩)
 generalize run lt _=r at g t k o f j;by_cases i:r.2.2 > 0
 ·rw[b_ i];have s:(kas_rev r.1 (r.2.1-(r.2.2+1)) r.2.1).size=r.1.size:=mirror_size _ _ _ _;obtain⟨e,d⟩:=DU O (nrem:=nrem) ⋯ ⋯ ⋯ (DP.sim O f (sW O ⋯ j));exact⟨e.trans (s.trans g),d⟩
 ·rw[a_ i];obtain⟨e,d⟩:=DU O (nrem:=nrem) ⋯ ⋯ ⋯ f;exact⟨e.trans g,d⟩
theorem GC{p:Array Nat}{nrem:Nat}(h1:1<=nrem)(hz:nrem<=p.size):iw lt p.size nrem (run lt (kas_count nrem p)):=by
 unfold kas_count;rw[kQ];obtain⟨n,B,d,h⟩:=sg O _ 1 (Al _) (λi j l r=>by omega);generalize run lt _=m at n B d h;by_cases q:(m==nrem)=ah
 ·rw[b_ q];exact⟨rfl,n,by show m<=nrem;omega,d⟩
 ·rw[a_ q];have D:m≠nrem:=λz=>q (by rw[z];simp);have h:=h.resolve_left ⋯;by_cases f:m > 1
  ·rw[b_ f];show iw lt p.size nrem (run lt (if lt (g p 0) (g p _)=ah then .ret (m,p)else kas_descPart m nrem _));cases c:lt _ (g p _)with
   |true=>exact⟨rfl,n,by show m<=nrem;omega,d⟩
   |false=>
    have A:(kas_rev p 0 m).size=p.size:=mirror_size _ _ _ _;have s:∀a b,a < m->b < m->lt (g p b) (g p a)=ai:=λa b u o=>by
     simp_all
     have y:lt (g p (m-1)) (g p b)=ai:=by
      by_cases z:b=m-1
      ·rw[z];exact iF O _
      ·exact d b _ ⋯ ⋯
     have v:lt (g p b) (g p 0)=ai:=by
      by_cases z:b=0
      ·rw[z];exact iF O _
      ·exact d 0 b ⋯ o
     have C:lt _ (g p a)=ai:=O.ltr _ _ _ (by
      by_cases z:a=m-1
      ·rw[z];exact iF O _
      ·exact d a _ ⋯ ⋯) c
     exact O.ltr _ _ _ C v
    have t:∀a b,0<=a->a < m->0<=b->b < m->Sim lt _ (g p b):=λa b _ u _ o=>⟨s b a o u,s a b u o⟩;obtain⟨x,w⟩:=yR O (nrem:=nrem) n ⋯ (by simp_all) (DP.sim O (DP.snoc O (λi j l r=>s j i r ⋯) n (O.asym _ _ h)) (sW O ⋯ t));exact⟨x.trans A,w⟩
  ·rw[a_ f];have e:m=1:=by omega
   subst e;exact yR O (Al _) ⋯ hz (DP.snoc O (λi j l r=>by omega) (Al _) (O.asym _ _ h))
theorem t5{p:Array Nat}{k:Nat}(h:SP lt p k):∀f l r,l<=r->r<=k->r-l<=f->(∀i,i < l->lt (g p k) (g p i)=ai)->(∀i,r<=i->i < k->lt (g p k) (g p i)=ah)->
  rJ lt p k (run lt (kas_place p k f l r))
 |0,l,r,b,m,o,j,d=>by
  have e:l=r:=by omega
  subst e;trivial
 |f+1,l,r,b,m,o,j,d=>by
  show rJ lt p k (run lt (if l ≥ r then .ret l else .ask _ _ λc=>if c=ah then kas_place p k f l ((l+r) / 2)else kas_place p k f _ r));by_cases q:l ≥ r
  ·rw[b_ q];have e:l=r:=by omega
   subst e;trivial
  ·rw[a_ q];show rJ lt p k (run lt (if lt (g p k) (g p _)=ah then kas_place p k f l ((l+r) / 2)else kas_place p k f _ r));cases c:lt _ (g p _)with
   |true=>
    refine t5 h f l _ ⋯ ⋯ ⋯ j λi n a=>?_;by_cases e:i=(l+r) / 2
    ·rw[e];exact c
    ·cases z:lt _ (g p i)with
     |true=>rfl
     |false=>
      have:=O.ltr _ _ _ (h ((l+r) / 2) i ⋯ a) z;rw[this]at c;cases c
   |false=>
    refine t5 h f _ r ⋯ m ⋯ (λi n=>?_) d;by_cases e:i=(l+r) / 2
    ·rw[e];exact c
    ·exact O.ltr _ _ _ (h i _ ⋯ ⋯) c
omit O
theorem AS{p:Array Nat}{k l:Nat}(hk:k < p.size)(hl:l<=k)(i:Nat):g (bubble p k (k-l)) i=if i=l then g p k else if l < i/\i<=k then g p (i-1)else g p i:=by
 unfold g;rw[jl,getElem?_bubble hk _ ⋯,jl,jl,jl];have e:k-(k-l)=l:=by omega
 rw[e];by_cases b:i=l
 ·rw[b_ b,b_ b]
 ·rw[a_ b,a_ b];by_cases a:l < i/\i<=k
  ·rw[b_ a,b_ a]
  ·rw[a_ a,a_ a]
include O
theorem xF:∀f (p:Array Nat) k,1<=k->k+f<=p.size->SP lt p k->SP lt (run lt (kas_bin f p k)) (k+f)
 |0,p,k,t,u,h=>h
 |f+1,p,k,t,u,h=>by
  show SP lt (run lt ((kas_place p k k 0 k).bind λl=>kas_bin f _ _)) _;rw[kQ];obtain⟨c,s,m⟩:=t5 O h k 0 k (A1 _) (Al _) ⋯ (λi q=>by omega) (λi q v=>by omega);generalize run lt _=l at c s m;have r:SP lt (bubble p k _) (k+1):=λi j b w=>by
   rw[AS ⋯ c,AS ⋯ c];by_cases o:j=l
   ·rw[b_ o,a_ ⋯,a_ ⋯];simp_all
   ·rw[a_ o];by_cases n:l < j/\j<=k
    ·rw[b_ n];by_cases d:i=l
     ·rw[b_ d];exact O.asym _ _ (m _ ⋯ ⋯)
     ·rw[a_ d];by_cases g:l < i/\i<=k
      ·rw[b_ g];exact h _ _ ⋯ ⋯
      ·rw[a_ g];exact h i _ ⋯ ⋯
    ·rw[a_ n,a_ ⋯,a_ ⋯];exact h i j b ⋯
  have:=xF f _ _ ⋯ (by rw[bubble_size];omega) r;have e:k+1+f=k+(f+1):=by omega
  rwa [e]at this
theorem sort_ok{n:Nat}(h1:1<=n):SP lt (run lt (kas_sort n)) n:=by
 unfold kas_sort;rw[kQ];obtain⟨g,b,c,a⟩:=GC O (p:=E6 (Be n)) h1 (by simp);generalize run lt _=r at g b c a;have h:r.2.size=n:=by simp_all
 by_cases q:r.1 < n
 ·rw[b_ q];have e:max r.1 1=r.1:=by omega
  rw[e];have:=xF O (n-r.1) r.2 r.1 b ⋯ a;have f:r.1+(n-r.1)=n:=by omega
  rwa [f]at this
 ·rw[a_ q];have e:r.1=n:=by omega
  rw[e]at a;trivial
end
end KS
namespace KS
open PySem PySem.W PySem.Calls PyProof.Rows
section
variable{prog:A3}{w:Bi}{A:Bq}{E:Af->Ai->Prop}{s:Ai}{a:A'}{vs:List Af}
theorem ls_sort{n:Nat}{P:PySem.Fin->Ai->Prop}(ho:s.heap.get? a=ae (Ck "list" vs.toArray n))(h2:2<=vs.length)(h64:vs.length < 64)
  (h:∀e1 h',h'.get? a=ae (Ck "list" #[] e1)->(∀b o,b≠a->s.heap.get? b=ae o->h'.get? b=ae o)->
   A6 (A9 prog w) A (keyKind' vs.toArray) (λκ s'=>(kas_sort vs.length).kasWp (kas_ask prog w A κ vs)
    (λp s''=>s''.heap.get? a=ae (Ck "list" #[] e1)/\∀h3 c,C7 a s''.heap h3->h3.get? a=ae (Ck "list" (E6 (p.toList.map λi=>vs.getD i B9)) c)->P (.done (.ret .none)) {s'' with heap:=h3}) s') (λ_ _=>False) {s with heap:=h'}):
  A6 (A9 prog w) A (Ep.«list.sort» ⟨[.ref a],[]⟩) P E s:=by
 obtain⟨e1,g⟩:∃e1,(s.heap.update a _).get? a=ae (Ck "list" #[] e1):=⟨_,Fl ho λ_=>#[]⟩;have t:=h e1 (((s.heap.update a _).push (Ck "tuple" vs.toArray 0)).push (Ck "list" #[] 0)) (Ae _ (Ae _ g))
  λb o B e=>Ae _ (Ae _ (((Bg s.heap a (Dr λ_=>(#[]:Array Af))).2 b B).trans e))
 rw[list_sort_plain];refine Aa (listItems_at ho rfl (Aa (Gc ho rfl ?_ (by rw[Bb,Ew];omega) (A1 _))));refine Aa (Hb g rfl (Aa (wpAny_newTuple ?_ (by show vs.length<=_;rw[Ew];omega))));refine Aa (wpAny_newList (Cc ?_) (A1 _));have f:¬vs.toArray.size < 2:=by rw[Bb];omega
 rw[a_ f,a_ f];refine Aa (C9 t (λκ G u=>?_) λ_ _ x=>x.elim);refine Aa (C9 (kat_run (Q:=λst' s'=>∃p:Array Nat,p.size=vs.length/\Dv st'=p.map _/\Ge st'=af/\s'.heap.get? a=ae _/\∀h3 c,C7 a s'.heap h3->h3.get? a=ae _->P _ {s' with heap:=h3})
  rfl h2 h64 (λp' st' s' F C v z=>⟨p',F,C,v,z⟩) u) ?_ λ_ _ e=>e)
 rintro⟨⟨⟩,st'⟩ s' ⟨p,y,r,D,q,k⟩
 dsimp only;have l:(E6 (p.toList.map λi=>vs.getD i B9)).size=vs.length:=by rw[Bb,Ab,Bo,y]
 rw[(kat_snds rfl r)];obtain⟨m,j⟩:∃m,(s'.heap.update a _).get? a=ae (Ck "list" _ m):=⟨_,Fl q λ_=>E6 _⟩;refine Aa (Hb q rfl (Aa (Gc q rfl ?_ (A1 _) (A5 (Nat.le_of_eq l) (by rw[Ew];omega)))));rw[D];simp only[bne_self_eq_false,if_false];exact Aj (k _ m (Bg s'.heap a (Dr λ_=>E6 (p.toList.map λi=>vs.getD i B9))) j)
theorem ls_short{n:Nat}{P:PySem.Fin->Ai->Prop}(ho:s.heap.get? a=ae (Ck "list" vs.toArray n))(h2:vs.length < 2)
  (h:∀h' c,h'.get? a=ae (Ck "list" vs.toArray c)->(∀b o,b≠a->s.heap.get? b=ae o->h'.get? b=ae o)->P (.done (.ret .none)) {s with heap:=h'}):
  A6 (A9 prog w) A (Ep.«list.sort» ⟨[.ref a],[]⟩) P E s:=by
 obtain⟨i,g⟩:∃i,(s.heap.update a _).get? a=ae (Ck "list" #[] i):=⟨_,Fl ho λ_=>#[]⟩;have d:(((s.heap.update a _).push (Ck "tuple" vs.toArray 0)).push (Ck "list" #[] 0)).get? a=ae (Ck "list" #[] i):=Ae _ (Ae _ g);rw[list_sort_plain];refine Aa (listItems_at ho rfl (Aa (Gc ho rfl ?_ (by rw[Bb,Ew];omega) (A1 _))));refine Aa (Hb g rfl (Aa (wpAny_newTuple ?_ (by show vs.length<=_;rw[Ew];omega))));refine Aa (wpAny_newList (Cc ?_) (A1 _));dsimp only;have f:vs.toArray.size < 2:=by omega
 rw[b_ f,b_ f];refine Aa (Aj (Aa (Aj ?_)));dsimp only;refine Aa (Hb d rfl (Aa (Gc d rfl ?_ (hsz2:=by rw[Ei];show(pairsOf vs).size<=_;rw[D7,Ew];omega))));simp only[bne_self_eq_false,if_false];have e:=by
  show(vs.toArray.zip vs.toArray).map (·.2)=vs.toArray;apply Gt.mp;simp;exact List.map_snd_zip (Al _)
 have k:=Bg (((s.heap.update a (Dr λ_=>(#[]:Array Af))).push (Ck "tuple" vs.toArray 0)).push (Ck "list" #[] 0)) a (Dr λ_=>(Dv (Da general' (vs.toArray.zip vs.toArray) #[] 7 af)).map (·.2));refine Aj (h _ _ (by rw[e];exact Fl d λ_=>vs.toArray) λb o j q=>(k.2 b j).trans (Ae _ (Ae _ (((Bg s.heap a (Dr λ_=>(#[]:Array Af))).2 b j).trans q))))
theorem sorted_of{r:Af}{Q:Af->Ai->Prop}{R:List Af->Ai->Prop}(hcol:A6 (A9 prog w) A.in1 (collect r) R E s)
  (h:∀vs s1,R vs s1->vs.length<=Ay/\A6 (A9 prog w) A.in1.in1 (Ep.«list.sort» ⟨[.ref s1.heap.objs.size],[]⟩) (λf s2=>f=.done (.ret .none)/\Q (.ref s1.heap.objs.size) s2) E {s1 with heap:=s1.heap.push (Ck "list" vs.toArray 0)}):
  A6 (A9 prog w) A (call (.builtin "sorted") [r]) Q E s:=by
 refine Calls.call_function_entry kind_sorted plain_sorted entry_sorted (args_sorted1 _) (Aa (Aj ?_));refine Aa (C9 hcol (λvs s1 c=>?_) λ_ _ e=>e);obtain⟨b,i⟩:=h vs s1 c;refine Aa (wpAny_newList ?_ b);have a:(s1.heap.push _).get? s1.heap.objs.size=ae (Ck "list" vs.toArray 0):=Ax _ rfl;refine Aa (Cc (B8 slot_list_sort ⟨_,a,rfl⟩ entry_list_sort ?body (args_list_sort _)))
 case body=>
  refine C9 i (λf s2 d=>?_) λ_ _ e=>e;obtain⟨rfl,g⟩:=d;exact⟨_,rfl,Aj ⟨_,rfl,g⟩⟩
def ItsOk(h:Heap)(as:List A')(ks:List Str)(xs:List Af):Prop:=
 as.length=ks.length/\as.length=xs.length/\∀(j:Nat)(a:A'),as[j]?=ae a->∃k t x,ks[j]?=ae k/\xs[j]?=ae x/\h.get? a=ae {cls:=.type "tuple",data:=.seq #[.str k t,x]}
def ltK(ks:List Str)(i j:Nat):Bool:=decide ((ks.getD i ⟨#[]⟩).cps.toList < (ks.getD j ⟨#[]⟩).cps.toList)
theorem HS(x y:List Nat)(h:x < y):¬y < x:=λz=>List.lt_irrefl x (List.lt_trans h z)
theorem ordK(ks:List Str):Ord (ltK ks) where
 asym:=λi j h=>d_ (HS _ _ (e_ h))
 ltr:=λi j k b a=>by
  refine d_ λz=>?_;exact g_ z (E5.mpr (List.le_trans (E5.mp (f_ b)) (E5.mp (f_ a))))
theorem katTups{h:Heap}:∀{as:List A'}{ks:List Str}{xs:List Af},ItsOk h as ks xs->∃fs:List Af,KatTups h (as.map Cj) fs/\fs.length=as.length/\∀f∈fs,∃k t,f=.str k t
 |[],ks,xs,_=>⟨[],trivial,rfl,λf c=>nomatch c⟩
 |a::as,ks,xs,I=>by
  obtain⟨e,r,d⟩:=I;obtain⟨k,t,x,s,n,l⟩:=d 0 a rfl;cases ks with
  |nil=>cases s
  |cons B ks=>
   cases xs with
   |nil=>cases n
   |cons v xs=>
    obtain⟨fs,o,g,i⟩:=katTups ⟨by simpa using e,by simpa using r,λj b q=>by
     obtain⟨p,m,u,y,A,w⟩:=d (j+1) b (by simpa using q);exact⟨p,m,u,by trivial⟩⟩
    refine⟨.str k t::fs,.cons l rfl rfl rfl o,by simp[g],λf c=>?_⟩;rcases Av.mp c with rfl|z
    ·exact⟨k,t,rfl⟩
    ·exact i f z
end
section
variable{prog:A3}{w:Bi}{A:Bq}{E:Af->Ai->Prop}{s:Ai}{a:A'}{as:List A'}{ks:List Str}{xs:List Af}
theorem ask_items(hI:ItsOk s.heap as ks xs)(nd:ks.Nodup)(hx:∀x∈xs,∀(s:Ai),SeqAt.EqAt A s x x ah){i j:Nat}(hi:i < as.length)(hj:j < as.length){C:Bool->Ai->Prop}(h:C (ltK ks i j) s):
  kas_ask prog w A (tuples' ah) (as.map Cj) i j C s:=by
 obtain⟨E,H,f⟩:=hI;obtain⟨b,F,r,v,g,o⟩:=f i as[i] (Ah hi);obtain⟨a,G,D,q,d,n⟩:=f j as[j] (Ah hj);unfold kas_ask;have u:(as.map Cj).getD i B9=.ref as[i]:=by simp[hi]
 have y:(as.map Cj).getD j B9=.ref as[j]:=by simp[hj]
 rw[u,y];have k:ks.getD i ⟨#[]⟩=b:=by simp[v]
 have p:ks.getD j ⟨#[]⟩=a:=by simp[q]
 have t:ltK ks i j=decide (b.cps.toList < a.cps.toList):=by unfold ltK;rw[k,p]
 rw[t]at h;refine kat_lt o rfl n rfl (kat_cons (wpAny_eqBool_str ?_));by_cases e:b=a
 ·rw[c_ e];have c:=by
   have B:i < ks.length:=by omega
   have z:j < ks.length:=by omega
   have m:ks[i]=b:=by simp_all
   have l:ks[j]=a:=by simp_all
   exact(Fq nd).mp (m.trans (e.trans l.symm))
  subst c;rw[g]at d;cases d;refine kat_yes (kat_cons (hx r (A0 g) s _ _ _ _ ?_));refine kat_yes (kat_nil ?_);rw[e]at h;have:decide (a.cps.toList < a.cps.toList)=ai:=d_ (List.lt_irrefl _);rw[this]at h;exact h
 ·rw[d_ e];exact kat_no (oneLt_str h)
end
end KS
namespace L2
open PySem PySem.Spec PyProof.Rows PySem.W
def jq(d v:A'):HO:=.ext λh=>h.get? v=ae {cls:=.type "dict_items",data:=.fields #[.ref d]}
theorem RR{X:Cx}:uc X "dict.items" (λx vs H Q=>∃d kvs,x=.ref d/\vs=[]/\H d=ae (.dK kvs)/\∀v,H v=af->Q (.ref v) (upd H v (jq d v))):=by
 intro f s σ H x r v p Q I j l h;obtain⟨d,kvs,rfl,rfl,m,q⟩:=h;cases j;cases l.zero;obtain⟨z,a,c,i,g⟩:=I.hok d _ m;refine call_meetsIn PySem.F.slot_dict_items g.typeIs PySem.F.entry_dict_items (PySem.F.args_dict_items_1 _) (meets_dict_items _ d a) ⟨⟨c,g⟩,?_⟩;have e:(s.heap.push _).get? s.heap.objs.size=ae {cls:=.type "dict_items",data:=.fields #[.ref d]}:=Ax _ rfl;exact⟨.ref s.heap.objs.size,_,I.laid (o:=jq d s.heap.objs.size) (λb t q=>Ae _ q) (Al _) ⟨e,⟨_,e⟩,λh1 n q k=>k _ q⟩,rfl,q _ (I.hok.fresh (Al _))⟩
def fc(as:List A')(ks:List Str)(xv:List V)(i:Nat):A'×Str×V:=(as.getD i 0,ks.getD i ⟨#[]⟩,xv.getD i .non)
def eU(H:Hp)(D:A')(l:List V)(as:List A')(ks:List Str)(xv:List V):Hp:=λb=>if b=D then ae (.lst l)else match as.idxOf? b with
 |some j=>ae (.tup [.str (ks.getD j ⟨#[]⟩),xv.getD j .non])
 |none=>H b
theorem oR{as:List A'}{b:A'}{j:Nat}(h:as.idxOf? b=ae j):as[j]?=ae b:=by
 obtain⟨a,_⟩:=F9.mp h;simp_all
theorem FP{as:List A'}{b:A'}(h:as.idxOf? b=af):b∉as:=λhb=>by
 simp_all
theorem LP{as:List A'}(nd:as.Nodup){j:Nat}{a:A'}(h:as[j]?=ae a):as.idxOf? a=ae j:=by
 obtain⟨f,b⟩:=Ar.mp h;cases e:as.idxOf? a with
 |none=>exact g_ (A0 h) (FP e)
 |some i=>
  obtain⟨d,c⟩:=Ar.mp (oR e);rw[(Fq nd).mp (c.trans b.symm)]
section
variable{X:Cx}{i_:List (A'×Obj)}{σ:St}{H:Hp}{s:Ai}
theorem zQ{as:List A'}{ks:List Str}{xv:List V}{xs:List Af}{D:A'}{idx:List Nat}{h3:Heap}{tk c:Nat}{Q:VK}(I:Inv X i_ σ H s)(hk:∀b o,s.heap.get? b=ae o->h3.get? b=ae o)
  (hI:KS.ItsOk h3 as ks xs) (hx:Vals xv xs) (hup:∀a∈as,s.heap.objs.size<=a) (nd:as.Nodup) (hD:∀b o,s.heap.get? b=ae o->b≠D) (hDH:H D=af) (hDa:D∉as) (hl:as.length < 64) (hidx:idx.Perm (Be as.length))
  (hL:h3.get? D=ae (Ck "list" (E6 (idx.map λi=>(as.map Cj).getD i B9)) c))
  (q:∀H',gO H H'->H D=af->(∀a∈as,H a=af)->H' D=ae (.lst (idx.map λi=>V.ref (fc as ks xv i).1))->(∀i∈idx,H' (fc as ks xv i).1=ae (.tup [.str (fc as ks xv i).2.1,(fc as ks xv i).2.2]))->Q (.ref D) H'):
  EP X i_ σ Q (.ref D) {s with heap:=h3,toks:=tk}:=by
 obtain⟨l1,l2,O⟩:=hI;have lx:=hx.length;have E:∀{b o},H b=ae o->b < s.heap.objs.size:=λe=>I.hok.lt e;have g:∀i∈idx,i < as.length:=λi v=>Cn.mp (hidx.mem_iff.mp v);have F:idx.length=as.length:=by rw[hidx.length_eq,D9]
 have d:gO H (eU H D (idx.map λi=>V.ref (fc as ks xv i).1) as ks xv):=λb o e=>by
  unfold eU;rw[a_ (λz=>by simp_all)];cases q:as.idxOf? b with
  |none=>exact e
  |some j=>
   have:=hup b (A0 (oR q));exact g_ (E e) (Nat.not_lt.mpr this)
 have h:=by
  have:∀l:List Nat,(∀i∈l,i < as.length)->Vals (l.map λi=>V.ref (fc as ks xv i).1) (l.map λi=>(as.map Cj).getD i B9):=by
   intro l
   induction l with
   |nil=>intro _;exact .nil
   |cons i r R=>
    intro hl;have v:=hl i Ap;refine .cons ?_ (R λj M=>hl j (Ak _ M));show(as.map Cj).getD i B9=Cj (as.getD i 0);simp[v]
  exact this idx g
 have y:HOk X.prog X.w (eU H D _ as ks xv) h3:=λb o e=>by
  by_cases C:b=D
  ·subst C;unfold eU at e;rw[b_ rfl]at e;cases e;refine⟨?_,_,c,h,hL⟩;rw[Ab];exact dD ⋯
  ·have p:=e;unfold eU at p;rw[a_ C]at p;cases B:as.idxOf? b with
   |none=>
    rw[B]at p;refine(I.hok b o p).stay (λcc u _ z=>hk cc u z) (λcc z=>d _ _ z) λcc W z=>d _ _ z
   |some j=>
    rw[B]at p;cases p;obtain⟨k,t,x,Y,K,T⟩:=O j b (oR B);have A:j < xv.length:=by
     have:=(Ar.mp K).1;omega
    have U:RelV (xv.getD j .non) x:=by
     obtain⟨u,J,ru⟩:=hx.get (Ah A);rw[K]at J;cases J;have:xv.getD j .non=xv[j]:=by simp[A]
     rw[this];omega
    have S:ks.getD j ⟨#[]⟩=k:=by simp[Y]
    exact⟨by show 2<=Ay;decide,_,.cons (by rw[S];exact⟨t,rfl⟩) (.cons U .nil),⟨_,T,rfl,⟨_,rfl⟩,rfl⟩⟩
 refine⟨.ref D,_,I.call' (ch:=[]) rfl ?_ y I.bare (λb C=>nomatch C),rfl,q _ d hDH (λa Z=>I.hok.fresh (hup a Z)) (by unfold eU;simp) λi v=>?_⟩
 ·refine⟨λb o e n _ _=>hk b o e,λb o e n _ _=>⟨_,hk b o e⟩,λb o e n _=>?_,λb o e _=>⟨o,hk b o e⟩,λb W z=>d _ _ z,λb o' u z=>d _ _ z,λb ps z=>⟨#[],d _ _ z⟩⟩;unfold eU;rw[a_ (hD b o e)];cases B:as.idxOf? b with
  |none=>exact n
  |some j=>exact g_ (Aw e) (Nat.not_lt.mpr (hup b (A0 (oR B))))
 ·have m:=g i v;have L:(fc as ks xv i).1=as[i]:=by show as.getD i 0=_;simp[m]
  have P:as[i]≠D:=λz=>hDa (z▸C5 m);rw[L];unfold eU;rw[a_ P,LP nd (Ah m)];rfl
end
def yV:List V->Hp->VK->Prop:=λxs H Q=>∃(v d:A')(ks:List Str)(xv:List V),xs=[.ref v]/\H v=ae (jq d v)/\ks.length=xv.length/\H d=ae (.dK ((ks.zip xv).map λp=>((Dc p.1:aC),p.2)))/\ks.length < 64/\ks.Nodup/\xv.all gC=ah /\
 ∀(D:A')(as:List A')(idx:List Nat)(H':Hp),as.length=ks.length->idx.Perm (Be ks.length)->(idx.map λi=>ks.getD i ⟨#[]⟩).Pairwise (λa b=>¬b.cps.toList < a.cps.toList)->gO H H'->H D=af->(∀a∈as,H a=af)->
  H' D=ae (.lst (idx.map λi=>V.ref (fc as ks xv i).1))->(∀i∈idx,H' (fc as ks xv i).1=ae (.tup [.str (fc as ks xv i).2.1,(fc as ks xv i).2.2]))->Q (.ref D) H'
theorem y2{xs:List Af}:∀{ks:List Str}{xv:List V}{vs:List (aC×Af)},ks.length=xv.length->KV ((ks.zip xv).map λp=>((Dc p.1:aC),p.2)) vs->vs.length=ks.length/\Vals xv (vs.map (·.2))/\vs.map (·.1)=ks.map (Dc:Str->aC)
 |[],[],_,_,.nil=>⟨rfl,.nil,rfl⟩
 |k::ks,x::xv,_,e,.cons r b=>by
  obtain⟨d,a,c⟩:=y2 (xs:=xs) (by simp_all) b;refine⟨by simp[d],.cons r.2 a,?_⟩;rw[Bn,Bn,c,<-r.1]
theorem ux{ks:List Str}{p:Array Nat}{n:Nat}(hz:p.size=n)(h:KS.SP (KS.ltK ks) p n):(p.toList.map λi=>ks.getD i ⟨#[]⟩).Pairwise (λa b=>¬b.cps.toList < a.cps.toList):=by
 rw[Hk];intro i j e d c;rw[Ab,Bo,hz]at e d;have:=h i j c d;unfold KS.ltK KS.g at this;have k:p.getD i 0=p[i]:=by simp[hz,e]
 have f:p.getD j 0=p[j]:=by simp[hz,d]
 rw[k,f]at this;simp only[List.getElem_map];exact f_ this
theorem Jd{X:Cx}(hh:X.A.handled=af):CallR X (.builtin "sorted") yV:=by
 intro i_ s σ H xs us Q I r h;obtain⟨v,d,V,xv,rfl,hv,hl,hd,h64,nd,fl,q⟩:=h;obtain⟨u,rfl,ru⟩:=eL r;cases(ru);obtain⟨z,hsys,F,rel,S⟩:=I.hok d _ hd;obtain⟨ep,hat⟩:=S.dictAt;obtain⟨lv,p,U⟩:=y2 (xs:=[]) hl rel;refine KS.sorted_of (R:=λvs s1=>∃(h':Heap)(tk:Nat)(g:List A'),vs=g.map Cj/\s1={ s with heap:=h',toks:=tk}/\(∀b o,s.heap.get? b=ae o->h'.get? b=ae o)/\g.length=F.length/\KdxG _ F s.heap.objs.size h' g)
  (kdx_collect hh ⟨_,((I.hok v _ hv).1),rfl,rfl⟩ hat (by simp_all) λh' tk g hk hl Y=>⟨h',tk,g,rfl,rfl,hk,hl,Y⟩) ?_
 rintro vs s1 ⟨h',tk,g,rfl,rfl,hk,hla,Y⟩
 have m:=hla.trans lv;have P:KS.ItsOk h' g V (F.map (·.2)):=⟨m,by rw[Ab,hla],λj a W=>by
  obtain⟨m_,k,x,Z,e2,e3⟩:=Y.pairs j a W;have G:(F.map (·.1))[j]?=ae k:=by rw[Am,Z];rfl
  rw[U,Am]at G;cases eq:V[j]? with
  |none=>rw[eq]at G;cases G
  |some k0=>
   rw[eq]at G;have hk2:=Bw G;subst hk2;rcases fZ (show iJ (Dc k0) m_=ah from e2)with⟨i,t,z,_⟩|⟨y,t,z,rfl⟩
   ·cases z
   ·cases z;exact⟨k0,t,x,rfl,by rw[Am,Z];rfl,e3⟩⟩
 have hup:=λa W=>Gn (Y.above a W);have ndA:=Y.rise.imp λh=>Bf h;have O:=λhm=>Fg _ (Y.there hm);have E:=λb o e=>Bf (Aw (hk b o e));have hsH:=(I.hok.kept hk).fresh (Al _);refine⟨by rw[Ab];exact dD ⋯,?_⟩;have hoL:(h'.push _).get? h'.objs.size=ae (Ck "list" (g.map Cj).toArray 0):=Ax _ rfl;have D:∀h4:Heap,(∀b o,b≠h'.objs.size->(h'.push (Ck "list" (g.map Cj).toArray 0)).get? b=ae o->h4.get? b=ae o)->KS.ItsOk h4 g V (F.map _):=λh4 L=>⟨P.1,P.2.1,λj a W=>by
  obtain⟨k,t,x,Z,e2,e3⟩:=P.2.2 j a W;exact⟨k,t,x,Z,e2,L a _ (λz=>O (z▸A0 W)) (Ae _ e3)⟩⟩
 have B:∀h4:Heap,(∀b o,b≠h'.objs.size->(h'.push (Ck "list" (g.map Cj).toArray 0)).get? b=ae o->h4.get? b=ae o)->∀b o,s.heap.get? b=ae o->h4.get? b=ae o:=λh4 L b o e=>
  L b o (E b o e) (Ae _ (hk b o e))
 by_cases h2:2<=(g.map Cj).length
 ·refine KS.ls_sort hoL h2 (by rw[Ab];omega) λe1 h4 K L=>?_;have N:=D h4 L;obtain⟨fs,f1,f2,f3⟩:=KS.katTups N;rw[Ab]at h2;refine kat_kind (T:=Er "str") f1 ⋯ (λf hf=>?_) rfl ?_
  ·obtain⟨k,t,rfl⟩:=f3 f hf;exact .now
  ·rw[Ab];have hn:0 < g.length:=by omega
   have hwi:=KS.wi_sort hn;refine KS.wp_run (c:=KS.ltK V) (λi j C s' hi hj hs hC=>?_) _ _ hwi rfl λs' E=>?_
   ·subst hs;refine KS.ask_items N nd (λx hx s''=>?_) hi hj (hC _ rfl);obtain⟨j,hj⟩:=B1.mp hx;have hjl:j < xv.length:=by
     have:=(Ar.mp hj).1;rw[Ab]at this;omega
    obtain⟨u,hu,ru⟩:=p.get (Ah hjl);rw[hj]at hu;cases hu;have fx:=E1.mp fl _ (C5 hjl);have:=BA (A:=X.A.in1.in1) (s:=s'') ru ru fx fx;have Z:gH xv[j] xv[j]=ah:=by
     cases ex:xv[j]<;>simp[gH]<;>(rw[ex]at fx;trivial)
    rw[Z]at this;omega
   ·subst E;refine⟨K,λh3 c sb hL3=>⟨rfl,?_⟩⟩;have hpm:KS.Pm g.length (KS.run (KS.ltK V) _):=KS.Wi.out _ hwi;have hidx:=by
     have:=Hd.mp hpm;omega
    have k3:=λb o hb e=>(sb.2 b hb).trans (L b o hb e);exact zQ (s:=s) I (B h3 k3) (D h3 k3) p hup ndA E hsH O ⋯ hidx hL3 λH' a1 a2 a3 a4 a5=>q _ g _ H' m (by rw[<-m];omega) (ux hpm.size (KS.sort_ok (KS.ordK V) hn)) a1 a2 a3 a4 a5
 ·refine KS.ls_short hoL ⋯ λh4 c K L=>⟨rfl,?_⟩;rw[Ab]at h2;have el:g.map Cj=(Be g.length).map λi=>(g.map Cj).getD i B9:=by
   apply Fs (by simp);intro i h1 h2;simp at h1;simp[h1]
  rw[el]at K;refine zQ (s:=s) I (B h4 L) (D h4 L) p hup ndA E hsH O ⋯ (List.Perm.refl _) K λH' a1 a2 a3 a4 a5=>q _ g _ H' m (by rw[<-m]) ?_ a1 a2 a3 a4 a5;have:(Be g.length).length<=1:=by simp;omega
  match hr:Be g.length,this with
  |[],_=>exact .nil
  |[i],_=>exact D8 _ _
def TxOk(vs:List Af)(ks:List Str):Prop:=vs.length=ks.length/\∀(j:Nat) v,vs[j]?=ae v->∃k t,ks[j]?=ae k/\v=.str k t
theorem uu{vs:List Af}{ks:List Str}(h:TxOk vs ks):∀(idx:List Nat),(∀i∈idx,i < ks.length)->Vals ((idx.map λi=>ks.getD i ⟨#[]⟩).map V.str) (idx.map λi=>vs.getD i B9)
 |[],_=>.nil
 |i::r,b=>by
  have f:=b i Ap;have a:i < vs.length:=by rw[h.1];omega
  obtain⟨k,t,e,c⟩:=h.2 i vs[i] (Ah a);refine .cons ⟨t,?_⟩ (uu h r λj d=>b j (Ak _ d));simp[a,e,c]
theorem DB{ks:List Str}{idx:List Nat}(h:idx.Perm (Be ks.length)):(idx.map λi=>ks.getD i ⟨#[]⟩).Perm ks:=by
 have b:=h.map λi=>ks.getD i (⟨#[]⟩:Str);have a:(Be ks.length).map (λi=>ks.getD i (⟨#[]⟩:Str))=ks:=by
  apply Fs (by simp);intro i b a;simp[a]
 rw[a]at b;omega
def BX:List V->Hp->VK->Prop:=λxs H Q=>∃(d:A')(l:List (aC×V))(ks:List Str),xs=[.ref d]/\H d=ae (.dK l)/\l.map (·.1)=ks.map (Dc:Str->aC)/\ks.length < 64 /\
 ∀(D:A')(ys:List Str),ys.Perm ks->ys.Pairwise (λa b=>¬b.cps.toList < a.cps.toList)->H D=af->Q (.ref D) (upd H D (.lst (ys.map V.str)))
theorem zI{l:List (aC×V)}{vs:List (aC×Af)}(h:KV l vs):vs.map (·.1)=l.map (·.1):=by
 induction h with
 |nil=>rfl
 |cons r _ a=>rw[Bn,Bn,a,r.1]
theorem Qm{X:Cx}(hh:X.A.handled=af):CallR X (.builtin "sorted") BX:=by
 intro E s σ H xs us Q I r h;obtain⟨d,l,n,rfl,hd,hk,h64,q⟩:=h;obtain⟨u,rfl,ru⟩:=eL r;cases(ru);obtain⟨z,M,vs',rel,F⟩:=I.hok d _ hd;obtain⟨ep,hat⟩:=F.dictAt;have p:=(zI rel).trans hk;have L:=by have:=congrArg Dx p;simpa using this
 refine KS.sorted_of (R:=λvs s1=>∃(h':Heap)(J:Nat),s1={ s with heap:=h',toks:=J}/\(∀b o,s.heap.get? b=ae o->h'.get? b=ae o)/\TxOk vs n)
  (kdu_collect (kdl_dict M) hh hat (dD ⋯) λh' J j_ hk' hI=>⟨h',J,rfl,hk',?_⟩) ?_
 ·refine⟨by rw[Bo,hI.1,L],λj v N=>?_⟩;obtain⟨k,x,e1,e2⟩:=hI.2 j v (by simp_all);have B:(vs'.map (·.1))[j]?=ae k:=by rw[Am,e1];rfl
  rw[p,Am]at B;cases eq:n[j]? with
  |none=>rw[eq]at B;cases B
  |some k0=>
   rw[eq]at B;have hk2:=Bw B;subst hk2;rcases fZ (show iJ (Dc k0) v=ah from e2)with⟨i,t,z,_⟩|⟨y,t,z,rfl⟩
   ·cases z
   ·cases z;simp
 rintro vs s1 ⟨h',J,rfl,hkp,K⟩
 have hl:=K.1;refine⟨by rw[hl];exact dD ⋯,?_⟩;have V:(h'.push _).get? h'.objs.size=ae (Ck "list" vs.toArray 0):=Ax _ rfl;have U:∀(idx:List Nat) h3 c,idx.Perm _->(idx.map λi=>n.getD i _).Pairwise _->
   (∀b o,b≠h'.objs.size->(h'.push (Ck "list" vs.toArray 0)).get? b=ae o->h3.get? b=ae o)->h3.get? h'.objs.size=ae _->EP X E σ Q _ {s with heap:=h3,toks:=J}:=λidx h3 c hp hw k3 hL=>by
  have I1:Inv X E σ H {s with heap:=h',toks:=J}:=I.kept hkp;have Z:=I1.hok.fresh (Al _);refine⟨.ref h'.objs.size,_,I1.laid (o:=.lst _) (λb o e=>k3 b o (Bf (Aw e)) (Ae _ e)) (Al _) ⟨?_,_,c,uu K idx (λi Y=>Cn.mp (hp.mem_iff.mp Y)),hL⟩,rfl,q _ _ (DB hp) hw Z⟩;rw[Ab,Ab,hp.length_eq,D9];exact dD ⋯
 by_cases h2:2<=vs.length
 ·refine KS.ls_sort V h2 ⋯ λe1 h4 P k4=>kas_kind (T:=Er "str") h2 (λf hf=>?_) rfl rfl ?_
  ·obtain⟨j,N⟩:=B1.mp hf;obtain⟨k,t,_,rfl⟩:=K.2 j f N;exact .now
  ·have Z:0 < vs.length:=by omega
   have W:=KS.wi_sort Z;refine KS.wp_run (c:=KS.ltK n) (St:=λs'=>s'={ s with heap:=h4,toks:=J}) (λi j C s' Y N hs hC=>?_) _ _ W rfl λs' hs'=>?_
   ·subst hs;obtain⟨k1,t1,a1,a2⟩:=K.2 i vs[i] (Ah Y);obtain⟨k2,t2,b1,b2⟩:=K.2 j vs[j] (Ah N);unfold kas_ask;have g1:vs.getD i B9=.str k1 t1:=by simp[Y,a2]
    have g2:vs.getD j B9=.str k2 t2:=by simp[N,b2]
    rw[g1,g2];have c1:n.getD i ⟨#[]⟩=k1:=by simp[a1]
    have c2:n.getD j ⟨#[]⟩=k2:=by simp[b1]
    have:=hC _ rfl;unfold KS.ltK at this;rw[c1,c2]at this;exact kas_lt_str this
   ·subst hs';refine⟨P,λh3 c sb hL3=>⟨rfl,?_⟩⟩;have O:KS.Pm vs.length (KS.run (KS.ltK n) _):=KS.Wi.out _ W;have hidx:=by
     have:=Hd.mp O;omega
    refine U _ h3 c (by simp_all) (ux O.size (KS.sort_ok (KS.ordK n) Z)) (λb o hb e=>(sb.2 b hb).trans (k4 b o hb e)) hL3
 ·refine KS.ls_short V ⋯ λh4 c P k4=>⟨rfl,?_⟩;have el:vs=(Be n.length).map λi=>vs.getD i B9:=by
   apply Fs (by simp[hl]);intro i h1 h2;simp[h1]
  have ha5:h4.get? h'.objs.size=ae (Ck "list" (E6 ((Be n.length).map λi=>vs.getD i B9)) c):=by rw[<-el];omega
  refine U _ h4 c (List.Perm.refl _) ?_ k4 ha5;have:(Be n.length).length<=1:=by simp;omega
  match hr:Be n.length,this with
  |[],_=>exact .nil
  |[i],_=>exact D8 _ _
end L2
namespace L2
open PySem PySem.Spec PyProof.Rows
section
variable{prog:A3}{w:Bi}{A:Bq}{E:Af->Ai->Prop}{s:Ai}
theorem tX{it t:A'}{i:Nat}{items:Array Af}{x:Af}{Q:Af->Ai->Prop}(hit:s.heap.IsTupleIter it t i)(ht:s.heap.IsTuple t items)(hx:items[i]?=ae x)
  (hQ:∀h',h'.IsTupleIter it t (i+1)->C7 it s.heap h'->Q x {s with heap:=h'}):A6 (A9 prog w) A (Builtin.SmallTypes.nextOf (.ref it)) Q E s:=by
 obtain⟨o,b,e,a⟩:=id hit;obtain⟨f,c,_,g,d⟩:=ht;refine Aa (Bv hit.typeIs F0
  (B8 F0 hit.typeIs F.entry_tuple_iterator_next ?_ (F.args_tuple_iterator_next_1 _)))
 show A6 _ _ (field _ 0>>=_) _ _ s;refine Aa (Dn b a (x:=.ref t) rfl (Aa (Dn b a rfl ?_)));refine Aa (Dy c d ?_);simp only[Cq,hx];refine Aa (C8 b a (by simp) (Aj ⟨x,rfl,Aj (hQ _ ?_ (Bg ..))⟩));exact⟨_,By _ b (Dh (B4 a _)),(Es ..).trans e,by
  rw[B4 a];rfl⟩
theorem zc{it t:A'}{i:Nat}{items:Array Af}{Q:Af->Ai->Prop}(hh:A.handled=af)(hit:s.heap.IsTupleIter it t i)(ht:s.heap.IsTuple t items)(hx:items[i]?=af)
  (hE:∀h' e,Heap.ExtBut it s.heap h'->(∃o,h'.get? e=ae o/\o.cls=.type "StopIteration")->E (.ref e) {s with heap:=h'}):
  A6 (A9 prog w) A (Builtin.SmallTypes.nextOf (.ref it)) Q E s:=by
 obtain⟨o,a,g,b⟩:=id hit;obtain⟨f,c,_,h,d⟩:=ht;refine Aa (Bv hit.typeIs F0
  (B8 F0 hit.typeIs F.entry_tuple_iterator_next ?_ (F.args_tuple_iterator_next_1 _)))
 show A6 _ _ (field _ 0>>=_) _ _ s;refine Aa (Dn a b (x:=.ref t) rfl (Aa (Dn a b rfl ?_)));refine Aa (Dy c d ?_);simp only[Cq,hx];refine Aa (Fh (Aa (C8 a b (by simp) (Aa ?_))));refine Aa (B7 (Aa (G9 (by rfl) ?_)) (by size_fits));refine B7 (Aa (wpAny_handled ?_)) (by size_fits)
 first|rw[hh]|rw[hh]
 exact Aa (Aj (wpAny_throw (hE _ _ (((Bg ..).extBut.push _).push _) ⟨_,Ax _ rfl,rfl⟩)))
theorem Ka{z TI TO i1 i2 l1 l2:A'}{k:Nat}{xs ys:Array Af}{x y a b:Af}{Q:Af->Ai->Prop}(D:ZipApart z TI TO i1 i2 l1 l2)
  (hz:IsZip s.heap z TI TO .none) (hTI:Gy s.heap TI (.ref i1) (.ref i2)) (hTO:Gy s.heap TO a b)
  (h1:s.heap.IsTupleIter i1 l1 k) (h2:s.heap.IsTupleIter i2 l2 k) (hl1:s.heap.IsTuple l1 xs) (hl2:s.heap.IsTuple l2 ys) (hx:xs[k]?=ae x) (hy:ys[k]?=ae y)
  (hQ:∀h',IsZip h' z TI TO (D5 s.heap.objs.size)->Gy h' TO x y->h'.IsTupleIter i1 l1 (k+1)->h'.IsTupleIter i2 l2 (k+1)->Gy h' s.heap.objs.size x y->h'.objs.size=s.heap.objs.size+1->
   (∀c o,c≠z->c≠TO->c≠i1->c≠i2->s.heap.get? c=ae o->h'.get? c=ae o)->Q (.ref s.heap.objs.size) {s with heap:=h'}):
  A6 (A9 prog w) A (Ep.«zip.__next__» ⟨[.ref z],[]⟩) (λfin s'=>∃v,fin=.done (.ret v)/\Q v s') E s:=by
 show A6 _ _ (field _ 2>>=_) _ _ _;refine Aa (Dn hz rfl (x:=.bool ai) rfl (Aa (Dn hz rfl rfl ?_)));refine Aa (Dy hTI rfl (Aa ?_));refine Aa (Dn hz rfl rfl (Aj (Aa (Fh ?_))));refine Aa (Dn hz rfl rfl (Aa (Gi hz (by simp) λg1 f g=>?_)))
 replace f:IsZip g1 z TI TO .ellipsis:=f
 refine Aa (Aa (Aa (wpAny_onRaise ?_)));refine Aa (tX (h1.extBut g.extBut D.i1z) (hl1.extBut g.extBut D.l1z) hx λg2 T i=>Aj ?_);have N:=i.extBut _ _ D.TOi1 (g.extBut _ _ D.TOz hTO);refine Aa (Dy N rfl (Aa (wpAny_updateSeq_pair N λg3 u j=>?_)))
 replace u:Gy g3 TO x b:=u
 refine Aa (wpAny_letGo (Aj (Aa (Aa (wpAny_onRaise ?_)))));refine Aa (tX (((h2.extBut g.extBut D.i2z).extBut i.extBut D.i12.symm).extBut j.extBut D.TOi2.symm)
  (((hl2.extBut g.extBut D.l2z).extBut i.extBut D.l2i1).extBut j.extBut D.l2TO) hy λg4 S n=>Aj ?_)
 have K:=n.extBut _ _ D.TOi2 u;refine Aa (Dy K rfl (Aa (wpAny_updateSeq_pair K λg5 q m=>?_)))
 replace q:Gy g5 TO x y:=q
 refine Aa (wpAny_letGo (Aj (Aj (Aa (Dy q rfl ?_)))));refine Aa (wpAny_newTuple ?_);have O:g5.objs.size=s.heap.objs.size:=by rw[m.1,n.1,j.1,i.1,g.1]
 have J:=m.extBut _ _ D.TOz.symm (n.extBut _ _ D.i2z.symm (j.extBut _ _ D.TOz.symm (i.extBut _ _ D.i1z.symm f)));have P:∀c o,c≠z->c≠TO->c≠i1->c≠i2->s.heap.get? c=ae o->g5.get? c=ae o:=λc o d r H G e=>
  m.extBut _ _ r (n.extBut _ _ G (j.extBut _ _ r (i.extBut _ _ H (g.extBut _ _ d e))))
 have l:=Aw J;refine Aa ?_;have R:IsZip (g5.push {cls:=.type "tuple",data:=.seq #[x,y]}) z TI TO .ellipsis:=Ae _ J;refine Aa (Gi R (by simp) λg7 I C=>?_)
 replace I:IsZip g7 z TI TO (D5 g5.objs.size):=I
 refine Gi I (by simp) λg8 p F=>?_
 replace p:IsZip g8 z TI TO (D5 g5.objs.size):=p
 have t:∀c o,c≠z->g5.get? c=ae o->g8.get? c=ae o:=λc o d e=>F.extBut _ _ d (C.extBut _ _ d (Ae _ e));have M:=F.extBut _ _ (Fw l) (C.extBut _ _ (Fw l) (Ax _ rfl));have L:g8.objs.size=g5.objs.size+1:=by rw[F.1,C.1,Co]
 rw[O]at p M L;refine Aj ⟨_,rfl,?_⟩;rw[O];exact hQ g8 p (t _ _ D.TOz q) ((((T.extBut j.extBut D.TOi1.symm).extBut n.extBut D.i12).extBut m.extBut D.TOi1.symm).at λo e=>t _ o D.i1z e) ((S.extBut m.extBut D.TOi2.symm).at λo e=>t _ o D.i2z e) M L λc o d r H G e=>t c o d (P c o d r H G e)
theorem M9{z TI TO i1 i2 l1 l2:A'}{k:Nat}{xs:Array Af}{Q:Fin->Ai->Prop}(hh:A.handled=af)(D:ZipApart z TI TO i1 i2 l1 l2)
  (hz:IsZip s.heap z TI TO .none) (hTI:Gy s.heap TI (.ref i1) (.ref i2)) (h1:s.heap.IsTupleIter i1 l1 k) (hl1:s.heap.IsTuple l1 xs) (hx:xs[k]?=af)
  (hE:∀h' e,(∀c o,c≠z->c≠i1->s.heap.get? c=ae o->h'.get? c=ae o)->(∃o,h'.get? e=ae o/\o.cls=.type "StopIteration")->E (.ref e) {s with heap:=h'}):
  A6 (A9 prog w) A (Ep.«zip.__next__» ⟨[.ref z],[]⟩) Q E s:=by
 show A6 _ _ (field _ 2>>=_) _ _ _;refine Aa (Dn hz rfl (x:=.bool ai) rfl (Aa (Dn hz rfl rfl ?_)));refine Aa (Dy hTI rfl (Aa ?_));refine Aa (Dn hz rfl rfl (Aj (Aa (Fh ?_))));refine Aa (Dn hz rfl rfl (Aa (Gi hz (by simp) λg1 b g=>?_)))
 replace b:IsZip g1 z TI TO .ellipsis:=b
 refine Aa (Aa (Aa (wpAny_onRaise ?_)));refine Aa (zc hh (h1.extBut g.extBut D.i1z) (hl1.extBut g.extBut D.l1z) hx λg2 e j m=>?_);obtain⟨n,a,d⟩:=m;have i:=j _ _ D.i1z.symm b;have f:e≠z:=λx=>by subst x;rw[i]at a;cases a;simp_all
 refine Gi i (by simp) λg3 _ l=>hE g3 e (λc o h p x=>l.extBut _ _ h (j _ _ p (g.extBut _ _ h x))) ⟨n,l.extBut _ _ f a,d⟩
theorem Il{z TI TO i1 i2 l1 l2:A'}{k:Nat}{xs ys:Array Af}{x y a b:Af}{Q:Option Af->Ai->Prop}(D:ZipApart z TI TO i1 i2 l1 l2)
  (hz:IsZip s.heap z TI TO .none) (hTI:Gy s.heap TI (.ref i1) (.ref i2)) (hTO:Gy s.heap TO a b)
  (h1:s.heap.IsTupleIter i1 l1 k) (h2:s.heap.IsTupleIter i2 l2 k) (hl1:s.heap.IsTuple l1 xs) (hl2:s.heap.IsTuple l2 ys) (hx:xs[k]?=ae x) (hy:ys[k]?=ae y)
  (hQ:∀h',IsZip h' z TI TO (D5 s.heap.objs.size)->Gy h' TO x y->h'.IsTupleIter i1 l1 (k+1)->h'.IsTupleIter i2 l2 (k+1)->Gy h' s.heap.objs.size x y->h'.objs.size=s.heap.objs.size+1->
   (∀c o,c≠z->c≠TO->c≠i1->c≠i2->s.heap.get? c=ae o->h'.get? c=ae o)->Q (ae (.ref s.heap.objs.size)) {s with heap:=h'}):
  A6 (A9 prog w) A (pyNext (.ref z)) Q E s:=by
 have d:s.TypeIs (.ref z) "zip":=⟨_,hz,rfl⟩;exact Aa (Em (Bv d F.slot_zip_next
  (B8 F.slot_zip_next d F.entry_zip_next
   (Ka D hz hTI hTO h1 h2 hl1 hl2 hx hy λh' h f e j g i l=>Aj (hQ h' h f e j g i l)) (F.args_zip_next_1 _))))
theorem Ol{z TI TO i1 i2 l1 l2:A'}{k:Nat}{xs:Array Af}{Q:Option Af->Ai->Prop}(hh:A.handled=af)(D:ZipApart z TI TO i1 i2 l1 l2)
  (hz:IsZip s.heap z TI TO .none) (hTI:Gy s.heap TI (.ref i1) (.ref i2)) (h1:s.heap.IsTupleIter i1 l1 k) (hl1:s.heap.IsTuple l1 xs) (hx:xs[k]?=af)
  (hQ:∀h',(∀c o,c≠z->c≠i1->s.heap.get? c=ae o->h'.get? c=ae o)->Q af {s with heap:=h'}):A6 (A9 prog w) A (pyNext (.ref z)) Q E s:=by
 have a:s.TypeIs (.ref z) "zip":=⟨_,hz,rfl⟩;refine Aa (Em (Bv a F.slot_zip_next
  (B8 F.slot_zip_next a F.entry_zip_next (M9 hh D hz hTI h1 hl1 hx λh' e g f=>?_) (F.args_zip_next_1 _))))
 obtain⟨o,d,b⟩:=f;exact Aa (E7 ⟨o,d,b⟩ isSubtype_stop (Aj (hQ _ g)))
end
abbrev pG(h:Heap)(l1:A'):Heap:=h.push {cls:=.type "tuple_iterator",data:=.fields #[.ref l1,.int 0 0]}
abbrev n9(h:Heap)(l1 l2:A'):Heap:=(pG h l1).push {cls:=.type "tuple_iterator",data:=.fields #[.ref l2,.int 0 0]}
abbrev o3(h:Heap)(l1 l2:A'):Heap:=(n9 h l1 l2).push {cls:=.type "tuple",data:=.seq #[.ref h.objs.size,.ref (pG h l1).objs.size]}
abbrev pP(h:Heap)(l1 l2:A'):Heap:=(o3 h l1 l2).push {cls:=.type "tuple",data:=.seq #[.none,.none]}
abbrev lp(h:Heap)(l1 l2:A'):Heap:=(pP h l1 l2).push {cls:=.type "zip",data:=.fields #[.none,.bool ai,.bool ai,.ref (n9 h l1 l2).objs.size,.ref (o3 h l1 l2).objs.size]}
theorem Sh(l1 l2:A')(xs ys:Array Af):
  Meets (Ep.«zip.__new__» ⟨[.type "zip",.ref l1,.ref l2],[]⟩) (λ_ R s=>s.heap.IsTuple l1 xs/\s.heap.IsTuple l2 ys /\
   R (.ok (.ret (.ref (pP s.heap l1 l2).objs.size))) {s with heap:=lp s.heap l1 l2}):=
 .of_wp λprog w A R s h=>by
  obtain⟨k,g,d,m,j⟩:=s;obtain⟨f,e,h⟩:=h;have i:=sub_zip;have c:Heap.IsTuple (Shared.heap ⟨k.push {cls:=.type "tuple_iterator",data:=.fields #[.ref l1,.int 0 0]},g,d,m,j⟩) l2 ys:=Heap.IsTuple.push e _
  wp_walk using D6 f,D6 c
  exact⟨_,rfl,h⟩
section
variable{prog:A3}{w:Bi}{A:Bq}{E:Af->Ai->Prop}{s:Ai}
theorem Iv{l1 l2:A'}{xs ys:Array Af}{Q:Af->Ai->Prop}(hl1:s.heap.IsTuple l1 xs)(hl2:s.heap.IsTuple l2 ys)
  (h:∀h',IsZip h' (s.heap.objs.size+4) (s.heap.objs.size+2) (s.heap.objs.size+3) .none->Gy h' (s.heap.objs.size+2) (.ref s.heap.objs.size) (.ref (s.heap.objs.size+1))->
   Gy h' (s.heap.objs.size+3) .none .none->h'.IsTupleIter s.heap.objs.size l1 0->h'.IsTupleIter (s.heap.objs.size+1) l2 0->
   (∀c o,s.heap.get? c=ae o->h'.get? c=ae o)->Q (.ref (s.heap.objs.size+4)) {s with heap:=h'}):
  A6 (A9 prog w) A (call (.type "zip") [.ref l1,.ref l2]) Q E s:=by
 refine callType_new F.called_zip ∎ (F.typeCall_zip_2 _ _) (F.newCall_zip_2 _ _) (λobj=>F.args_object_init_3 obj _ _) F.entry_zip_new
  (Sh l1 l2 xs ys) ⟨hl1,hl2,?_⟩
 have e:(pG s.heap l1).objs.size=s.heap.objs.size+1:=Co ..;have b:(n9 s.heap l1 l2).objs.size=s.heap.objs.size+2:=by rw[Co,e]
 have g:(o3 s.heap l1 l2).objs.size=s.heap.objs.size+3:=by rw[Co,b]
 have n:(pP s.heap l1 l2).objs.size=s.heap.objs.size+4:=by rw[Co,g]
 have k:(lp s.heap l1 l2).get? (pP s.heap l1 l2).objs.size=ae _:=Ax _ rfl;have l:(lp s.heap l1 l2).get? (o3 s.heap l1 l2).objs.size=ae _:=Ae _ (Ax _ rfl);have m:(lp s.heap l1 l2).get? (n9 s.heap l1 l2).objs.size=ae _:=Ae _ (Ae _ (Ax _ rfl));have p:(lp s.heap l1 l2).get? (pG s.heap l1).objs.size=ae _:=Ae _ (Ae _ (Ae _ (Ax _ rfl)));have r:(lp s.heap l1 l2).get? s.heap.objs.size=ae _:=Ae _ (Ae _ (Ae _ (Ae _ (Ax _ rfl))));rw[b,g,n]at k;rw[e,b]at m;rw[g]at l;rw[e]at p;rw[n];exact⟨⟨_,k,rfl⟩,h _ k m l ⟨_,r,rfl,rfl⟩ ⟨_,p,rfl,rfl⟩ λc o x=>
  Ae _ (Ae _ (Ae _ (Ae _ (Ae _ x))))⟩
end
def vR(K:Ag)(a b:A'):It:=
 ⟨λi H=>∃xs ys x y,SqT K H a xs/\SqT K H b ys/\xs[i]?=ae x/\ys[i]?=ae y,
  λi H v H'=>∃T x y,v=.ref T/\H T=af/\H'=upd H T (.tup [x,y])/\(∀xs,SqT K H a xs->xs[i]?=ae x)/\∀ys,SqT K H b ys->ys[i]?=ae y,
  λi H=>∃xs,SqT K H a xs/\xs.length<=i⟩
theorem Inv.many{X:Cx}{i_:List (A'×Obj)}{σ:St}{H:Hp}{s:Ai}{h':Heap}{t':Nat}{fp:List A'}{a:A'}{o:HO}(I:Inv X i_ σ H s)(hf:∀b∈fp,cE X i_ H b)(k:∀b u,b∉fp->s.heap.get? b=ae u->h'.get? b=ae u)
  (ha:s.heap.objs.size<=a) (new:ObjOk X.prog X.w (upd H a o) h' a o):Inv X i_ σ (upd H a o) {s with heap:=h',toks:=t'}:=by
 have d:=I.hok.fresh ha;have f:∀b u,H b=ae u->b∉fp:=λb u e z=>by rw[(hf b z).1]at e;cases e
 refine I.call' rfl ⟨λb u q _ _ z=>k b u z q,λb u q _ _ z=>⟨_,k b u z q⟩,λb u q n _=>?_,λb u q z=>⟨u,k b u z q⟩,λb i q=>?_,λb u i q=>?_,λb r q=>⟨#[],?_⟩⟩ (λb u e=>?_) I.bare (λb j=>?_)
 ·rw[aG (Bf (Bp (Aw q) ha))];exact n
 ·rw[aG (bu q d)];exact q
 ·rw[aG (bu q d)];exact q
 ·rw[aG (bu q d),q];simp
 ·by_cases z:b=a
  ·subst z;rw[a9]at e;cases e;omega
  ·rw[aG z]at e;refine(I.hok b u e).stay (λc v m q=>k c v ?_ q) (λc q=>?_) λc y q=>?_
   ·rcases m with z|z
    ·rw[z];exact f b u e
    ·exact f c _ z
   ·rw[aG (bu q d)];exact q
   ·rw[aG (bu q d)];exact q
 ·obtain⟨x,h,t,g,p,l⟩:=hf b j;exact⟨g,h,p,l⟩
theorem Inv.many0{X:Cx}{i_:List (A'×Obj)}{σ:St}{H:Hp}{s:Ai}{h':Heap}{t':Nat}{fp:List A'}(I:Inv X i_ σ H s)(hf:∀b∈fp,cE X i_ H b)(k:∀b u,b∉fp->s.heap.get? b=ae u->h'.get? b=ae u):Inv X i_ σ H {s with heap:=h',toks:=t'}:=by
 have a:∀b u,H b=ae u->b∉fp:=λb u e z=>by rw[(hf b z).1]at e;cases e
 refine I.call' rfl ⟨λb u q _ _ z=>k b u z q,λb u q _ _ z=>⟨_,k b u z q⟩,λb u q n _=>n,λb u q z=>⟨u,k b u z q⟩,λb g q=>q,λb u g q=>q,λb m q=>⟨#[],by rw[q];simp⟩⟩ (λb u e=>?_) I.bare (λb h=>?_)
 ·refine(I.hok b u e).stay (λc v j q=>k c v ?_ q) (λc q=>q) λc r q=>q;rcases j with z|z
  ·rw[z];exact a b u e
  ·exact a c _ z
 ·obtain⟨p,f,o,d,l,i⟩:=hf b h;exact⟨d,f,l,i⟩
theorem Qc{P:A3}{w:Bi}{K:Ag}{elts:List Expr}{kk:Nat}{pos:Pos}{a b z TI TO i1 i2:A'}(D:ZipApart z TI TO i1 i2 a b):Turn P w K (.Tuple elts kk pos) (vR K a b) [z,TI,TO,i1,i2] z
  (λi h=>IsZip h z TI TO .none/\Gy h TI (.ref i1) (.ref i2)/\(∃x y,Gy h TO x y)/\h.IsTupleIter i1 a i/\h.IsTupleIter i2 b i) where
 mem:=by simp
 obj:=λi h j c d=>by
  obtain⟨g,f,⟨x,y,l⟩,⟨o1,e1,c1,d1⟩,⟨o2,e2,c2,d2⟩⟩:=j;simp only[Av,Bc,h_]at d;rcases d with rfl|rfl|rfl|rfl|rfl
  ·exact⟨_,g,λv q=>by trivial⟩
  ·exact⟨_,f,λv q=>by trivial⟩
  ·exact⟨_,l,λv q=>by trivial⟩
  ·exact⟨o1,e1,λv q=>by simp_all⟩
  ·exact⟨o2,e2,λv q=>by simp_all⟩
 keep:=λi h h' j k=>by
  obtain⟨g,f,⟨x,y,l⟩,m,r⟩:=j;exact⟨k z (by simp) _ g,k TI (by simp) _ f,⟨x,y,k TO (by simp) _ l⟩,m.at λo e=>k i1 (by simp) o e,r.at λo e=>k i2 (by simp) o e⟩
 item:=by
  intro X O Q G d i t s σ H E I A j J;subst O Q G;obtain⟨g,f,⟨x0,y0,l⟩,m,r⟩:=j;obtain⟨xs,ys,x,y,S,R,U,ey⟩:=J;obtain⟨F,C,p,_⟩:=I.tuple S;obtain⟨Y,B,p',_⟩:=I.tuple R;obtain⟨u,hu,ru⟩:=C.get U;obtain⟨u',N,L⟩:=B.get ey;refine Il D g f l m r (p) (p') (by simpa using hu) (by simpa using N) λh' a1 a2 a3 a4 a5 a6 T=>⟨_,rfl,wpAny_letOwnedTupleGo_zip a1 λh'' b1 n=>?_⟩;have V:∀c o,c∉[z,TI,TO,i1,i2]->s.heap.get? c=ae o->h''.get? c=ae o:=λc o d e=>by
   simp only[Av,Bc,h_,not_or]at d;exact n.extBut _ _ d.1 (T c o d.1 d.2.2.1 d.2.2.2.1 d.2.2.2.2 e)
  refine⟨.ref s.heap.objs.size,upd H s.heap.objs.size (.tup [x,y]),I.many A V (Al _) ⟨by show 2<=Ay;decide,[u,u'],.cons ru (.cons L .nil),_,(n.extBut _ _ (Fw (Aw g)) a5),rfl,⟨_,rfl⟩,rfl⟩,rfl,⟨_,x,y,rfl,(I.hok.fresh (Al _)),rfl,λzs q=>by rw[I.tuple_inj q S];exact U,λzs q=>by rw[I.tuple_inj q R];omega⟩,
   ⟨b1,n.extBut _ _ D.TIz (T _ _ D.TIz D.TITO D.TIi1 D.TIi2 f),⟨_,_,n.extBut _ _ D.TOz a2⟩,a3.extBut n.extBut D.i1z,a4.extBut n.extBut D.i2z⟩,λc d=>?_⟩
  have M:c < s.heap.objs.size:=by
   simp only[Av,Bc,h_]at d;rcases d with rfl|rfl|rfl|rfl|rfl
   ·exact Aw g
   ·exact Aw f
   ·exact Aw l
   ·obtain⟨_,e,_⟩:=m;exact Aw e
   ·obtain⟨_,e,_⟩:=r;exact Aw e
  rw[aG (Bf M)];exact(A c d).1
 done:=by
  intro X O Q G d i t s σ H E I A j J;subst O Q G;obtain⟨g,f,_,m,r⟩:=j;obtain⟨xs,Z,hx⟩:=J;obtain⟨F,C,p,_⟩:=I.tuple Z;have hl:=C.length;refine Ol (I.ok.hd d) D g f m (p) (by simp;omega) λh' k=>⟨rfl,I.many0 A λc o d e=>?_⟩;simp_all
 self:=λ_ _ _ _ _ j h=>wpAny_pyIter_zip j.1 h
def l6(K:Ag)(ta:TA):TI:=λσ H R=>ta σ H λvs H1=>∃a b,vs=[.ref a,.ref b]/\(∃xs,SqT K H1 a xs)/\(∃ys,SqT K H1 b ys)/\R (vR K a b) H1
theorem GW:Bz "zip"=ae (.type "zip"):=by rfl
theorem Mk{X:Cx}{elts:List Expr}{kk:Nat}{tpos:Pos}{e1 e2:Expr}{ta:TA}{p pos:Pos}(hg:Gl X "zip")(hm:X.mg "zip"=af)(ha:PA X [e1,e2] ta)(hs:As [e1,e2] X.env=[(ai,eval e1 X.env),(ai,eval e2 X.env)]:=by rfl)(hs2:As [e2] X.env=[(ai,eval e2 X.env)]:=by rfl):
  PI X (.Tuple elts kk tpos) (.Call (.Name "zip" p) [e1,e2] [] pos) (l6 X.K ta):=by
 intro i s σ H R I h;refine Call_ (ll I hg hm GW (E2 (aL (ha pos i s σ H _ I h) λus k ⟨L,v,d,z,o⟩=>?_) (by simp_all) (by rw[hs2];rfl)));obtain⟨a,b,e,⟨M,G⟩,⟨O,C⟩,q⟩:=o;subst e;cases z with
 |cons r j=>
  cases j with
  |cons y j=>
   cases j;cases r;cases y;obtain⟨A,J,l,_⟩:=d.tuple G;obtain⟨n,u,f,_⟩:=d.tuple C;have x:a < k.heap.objs.size:=by obtain⟨_,e,_⟩:=id l;exact Aw e
   have B:b < k.heap.objs.size:=by obtain⟨_,e,_⟩:=id f;exact Aw e
   refine Iv (l) (f) λh' m D t w E F=>wpAny_pyIter_zip m ⟨_,_,_,_,v,rfl,d.kept F,Qc (zipApart_new x B),⟨m,D,⟨_,_,t⟩,w,E⟩,λc N=>?_,q⟩;have g:k.heap.objs.size<=c:=by
    grind
   exact d.fpOk g (d.hok.fresh g)
end L2
namespace DL
open PySem L2 Nb
def bA(kvs:List (aC×Ad))(k:aC):Option Ad:=(kvs.find? λkv=>decide (kv.1=k)).map (·.2)
def ee(kvs:List (aC×Ad))(k:aC)(v:Ad):List (aC×Ad):=
 if (kvs.any λkv=>decide (kv.1=k))=ah then kvs.map (λkv=>if kv.1=k then(kv.1,v)else kv)else kvs++[(k,v)]
def pj(kvs more:List (aC×Ad)):List (aC×Ad):=more.foldl (λj_ kv=>ee j_ kv.1 kv.2) kvs
section
variable{H H':Hp}{B B':A'->Prop}{l:List (aC×V)}{m:List (aC×Ad)}{v:V}{d:Ad}{t:A'}
theorem RdK.len(h:RdK H B l m):l.length=m.length:=by
 induction h with
 |nil=>rfl
 |cons _ _ a=>rw[Au,Au,a]
theorem RdK.val(h:RdK H B l m)(k:aC):(bX l k=af/\bA m k=af)\/∃v d,bX l k=ae v/\bA m k=ae d/\RdX H B v d:=by
 induction h with
 |nil=>exact .inl ⟨rfl,rfl⟩
 |@cons p q b a r _ i=>
  by_cases e:p.1=k
  ·have g:=r.1▸e;exact .inr ⟨p.2,q.2,by simp[bX,e],by simp[bA,g],r.2⟩
  ·have f:bX (p::b) k=bX b k:=by simp[bX,e]
   have c:bA (q::a) k=bA a k:=by simp[bA,(r.1▸e)]
   rw[f,c];omega
theorem RdK.any(h:RdK H B l m)(k:aC):(l.any λkv=>decide (kv.1=k))=(m.any λkv=>decide (kv.1=k)):=by
 induction h with
 |nil=>rfl
 |cons r _ a=>rw[Dj,Dj,a,r.1]
theorem RdK.map(h:RdK H B l m)(r:RdX H B v d)(k:aC):RdK H B (l.map λkv=>if kv.1=k then(kv.1,v)else kv) (m.map λkv=>if kv.1=k then(kv.1,d)else kv):=by
 induction h with
 |nil=>exact .nil
 |@cons p q f c a _ b=>
  rw[Bn,Bn];refine .cons ?_ b;by_cases e:p.1=k
  ·rw[b_ e,b_ (a.1▸e:q.1=k)];exact⟨a.1,r⟩
  ·rw[a_ e,a_ (a.1▸e:¬q.1=k)];omega
theorem RdK.append{l2:List (aC×V)}{m2:List (aC×Ad)}(h:RdK H B l m)(h2:RdK H B l2 m2):RdK H B (l++l2) (m++m2):=by
 induction h with
 |nil=>exact h2
 |cons b _ a=>exact .cons b a
theorem RdK.put(h:RdK H B l m)(r:RdX H B v d)(k:aC):RdK H B (bG l k v) (ee m k d):=by
 unfold bG ee;rw[h.any k]
 split
 ·exact h.map r k
 ·exact h.append (.cons ⟨rfl,r⟩ .nil)
theorem RdK.merge{l2:List (aC×V)}{m2:List (aC×Ad)}(h2:RdK H B l2 m2):∀{l:List (aC×V)}{m:List (aC×Ad)},RdK H B l m->RdK H B (jB l l2) (pj m m2):=by
 induction h2 with
 |nil=>intro l m h;exact h
 |@cons p q b c r _ a=>
  intro l m h;show RdK H B (jB (bG l p.1 p.2) b) _;rw[r.1];exact a (h.put r.2 _)
theorem vi(l:List (aC×V))(k:aC)(v:V):(bG l k v).length<=l.length+1:=by
 unfold bG
 split
 ·rw[Ab];omega
 ·rw[An];exact Al _
theorem K2(l2:List (aC×V)):∀l:List (aC×V),(jB l l2).length<=l.length+l2.length:=by
 induction l2 with
 |nil=>exact λl=>Al _
 |cons p r a=>
  intro l;show(jB (bG l p.1 p.2) r).length<=_;have:=a (bG l p.1 p.2);have:=vi l p.1 p.2;rw[Au];omega
end
section
variable{X:Cx}{a b c e o i f:Expr}{ta tb te td ty tx:TE}{wa wb we wd' wy wx:DT}{pos p:Pos}{K:Ag}
def cQ(i:Nat):DT:=λδ n Q=>match δ[i]? with
 |some (ae (.odk kvs))=>Q (.dk kvs) n
 |some (ae (.w x))=>Q x n
 |_=>False
theorem Py(i:Nat){x:Str}{p:Pos}(hN:X.N[i]?=ae x:=by rfl)(hv:dU X.env.scope x:=by first|exact Ci rfl|exact B5 (Ci rfl)|exact B5 (B5 rfl))(hd:(x==("__debug__":Str))=ai:=by decide)
  (r_:(x==("__classdict__":Str))=ai:=by decide):DE X (.Name x p) (aI i) (cQ i):=⟨eY hN hv hd r_,λC H B σ δ n Q m R h k=>by
 unfold cQ at h
 split at h
 ·rename_i b e;obtain⟨v,c,a,l,rfl,j,o,g,q,f⟩:=R.sl i _ e;exact⟨_,c,k _ (.dk b) H n R (Kp.refl _ _) ⟨a,l,rfl,j,λz=>R.t0 (z▸g),f⟩ h⟩
 ·rename_i x e;obtain⟨v,c,d⟩:=R.sl i _ e;exact⟨v,c,k v x H n R (Kp.refl _ _) d.1 h⟩
 ·exact h.elim⟩
def fk:Wv->Wv->Int->DQ->Prop:=λx y n Q=>match x,y with
 |.dk kvs,.d (.str k)=>match bA kvs (.inr k)with
  |some d=>Q (.d d) n
  |none=>False
 |_,_=>False
theorem OI(hu:X.A.units+64 < De)(ho:DE X o td wd')(hi:DE X i ty wy)(hs:gw i:=by exact λ_ _=>rfl):DE X (.Subscript o i pos) (DK td ty) (w2 wd' wy fk):=⟨RM ⋯ ho.pe hi.pe hs,λC H B σ δ n Q K R h k=>
 ho.sd C H B σ δ n _ _ R h λv x t w j J D q=>hi.sd C t B σ δ w _ _ j q λu y g s z f F c=>by
  unfold fk at c
  split at c
  ·rename_i p b;obtain⟨a,l,rfl,I,L,E⟩:=(D.kp f j.bt);cases(show RdX g B u (.str b)from F);rcases E.val (.inr b)with⟨m,e⟩|⟨v,d,m,e,r⟩
   ·rw[e]at c;exact c.elim
   ·rw[e]at c;exact⟨a,v,rfl,.inl ⟨l,.inr b,.inl I,rfl,m.symm⟩,k v (.d d) g s z (J.trans f) r c⟩
  ·exact c.elim⟩
def dN(neg:Bool):Wv->Wv->Int->DQ->Prop:=λx y n Q=>match x,y with
 |.d (.str k),.dk kvs=>Q (.d (.bool (if neg then !(bA kvs (.inr k)).isSome else(bA kvs (.inr k)).isSome))) n
 |_,_=>False
theorem RG(hi:DE X i ty wy)(ho:DE X o td wd'):dj (jX ty td) (w2 wy wd' (dN ai)):=λC H B σ δ n Q J R h k=>
 hi.sd C H B σ δ n _ _ R h λv x s t m G z q=>ho.sd C s B σ δ t _ _ m q λu y j r w g D c=>by
  unfold dN at c
  split at c
  ·rename_i b p;obtain⟨a,l,rfl,F,K,A⟩:=D;cases(show RdX j B v (.str b)from(z.kp g m.bt));refine⟨a,_,rfl,.inl ⟨l,.inr b,.inl F,rfl,rfl⟩,k _ _ j r w (G.trans g) (wd (.bl _)) ?_⟩;rcases A.val (.inr b)with⟨f,e⟩|⟨v,d,f,e,I⟩
   ·rw[f];rw[e]at c;exact c
   ·rw[f];rw[e]at c;exact c
  ·exact c.elim
theorem Ii(hi:DE X i ty wy)(ho:DE X o td wd'):dj (lT ty td) (w2 wy wd' (dN ah)):=λC H B σ δ n Q J R h k=>
 hi.sd C H B σ δ n _ _ R h λv x s t m G z q=>ho.sd C s B σ δ t _ _ m q λu y j r w g D c=>by
  unfold dN at c
  split at c
  ·rename_i b p;obtain⟨a,l,rfl,F,K,A⟩:=D;cases(show RdX j B v (.str b)from(z.kp g m.bt));refine⟨a,_,rfl,.inl ⟨l,.inr b,.inl F,rfl,rfl⟩,k _ _ j r w (G.trans g) (wd (.bl _)) ?_⟩;rcases A.val (.inr b)with⟨f,e⟩|⟨v,d,f,e,I⟩
   ·rw[f];rw[e]at c;exact c
   ·rw[f];rw[e]at c;exact c
  ·exact c.elim
theorem IH(hu:X.A.units+64 < De)(hi:DE X i ty wy)(ho:DE X o td wd')(hm:Cm .In o=ai:=by with_unfolding_all rfl):DE X (.Compare i [.In] [o] pos) (jX ty td) (w2 wy wd' (dN ai)):=⟨vM (OD ⋯ hi.pe ho.pe) hm,RG hi ho⟩
theorem Oc(hu:X.A.units+64 < De)(hi:DE X i ty wy)(ho:DE X o td wd')(hm:Cm .NotIn o=ai:=by with_unfolding_all rfl):DE X (.Compare i [.NotIn] [o] pos) (lT ty td) (w2 wy wd' (dN ah)):=⟨vM (vx ⋯ hi.pe ho.pe) hm,Ii hi ho⟩
def SW(wd wy wx:DT):DT:=λδ n Q=>wd δ n λx n1=>match x with
 |.dk kvs=>wy δ n1 λy n2=>wx δ n2 λz n3=>match y,z with
  |.d (.str k),.d z=>Q (.d ((bA kvs (.inr k)).getD z)) n3
  |_,_=>False
 |_=>False
abbrev jf:=Sl->Int->(List (aC×Ad)->Int->Prop)->Prop
def rR(t:TE)(w:jf):Prop:=∀(C:Ctx)(H:Hp)(B:A'->Prop)(σ:St)(δ:Sl)(n:Int)(Q:List (aC×Ad)->Int->Prop)(Q':VK),Rel C H B σ δ n->w δ n Q->
 (∀a l kvs H' n',Rel C H' B σ δ n'->Kp C.t H H'->H a=af->H' a=ae (.dK l)->l.length<=1000->RdK H' (λb=>B b\/b=a) l kvs->Q kvs n'->Q' (.ref a) H')->t σ H Q'
structure DN(X:Cx)(e:Expr)(t:TE)(w:jf):Prop where
 pe:PE X e t
 sd:rR t w
def iR:jf:=λ_ n Q=>Q [] n
theorem L8:DN X (.Dict [] [] pos) DR iR:=⟨MS,λC H B σ δ n Q c R q k=>λa b=>k a [] [] _ n (R.new b) (Kp.new b) b a9 (A1 _) .nil q⟩
def jR:List Ad->Option (List (aC×Ad))
 |[]=>ae []
 |.tuple [.str k,d]::r=>(jR r).map ((.inr k,d)::·)
 |_=>af
theorem xU{H:Hp}{B:A'->Prop}:∀{xs:List V}{ds:List Ad}{ps:List (aC×Ad)},RdXs H B xs ds->jR ds=ae ps->∃qs:List (A'×aC×V),xs=qs.map (λp=>V.ref p.1)/\(∀p∈qs,H p.1=ae (.tup [kV p.2.1,p.2.2]))/\RdK H B (qs.map (·.2)) ps
 |_,_,ps,.nil,h=>by
  cases h;exact⟨[],rfl,λp b=>g_ b Bc,Paired.nil⟩
 |_,_,ps,.cons (ds:=ds) j h2,h=>by
  unfold jR at h
  split at h
  ·rename_i e;cases e
  ·rename_i k t r e;cases e;cases c:jR ds with
   |none=>rw[c]at h;cases h
   |some f=>
    rw[c]at h;cases h;obtain⟨qs,m,g,i⟩:=xU h2 c;cases j with
    |@tup a v _ q w u n=>
     cases n with
     |cons d l=>
      cases l with
      |cons s o=>
       cases o;cases d;refine⟨(a,.inr k,_)::qs,by rw[m];rfl,λp b=>?_,.cons ⟨rfl,s⟩ i⟩;rcases Av.mp b with rfl|z
       ·exact q
       ·exact g p z
  ·cases h
def vI:List V->Hp->VK->Prop:=λxs H Q=>∃(src:A')(ps:List (A'×aC×V)),xs=[.ref src]/\H src=ae (.tup (ps.map λp=>V.ref p.1))/\(∀p∈ps,H p.1=ae (.tup [kV p.2.1,p.2.2]))/\ps.length<=1000 /\
  ∀l,H l=af->Q (.ref l) (L2.upd H l (.dK (jB [] (ps.map (·.2)))))
def iq(w:DT):jf:=λδ n Q=>w δ n λx n1=>match x with
 |.d (.tuple ds)=>match jR ds with
  |some ps=>ds.length<=1000/\Q (pj [] ps) n1
  |none=>False
 |_=>False
theorem CB(hh:X.A.handled=af)(hg:Gl X "dict")(hm:X.mg "dict"=af)(he:DE X e te we)(hv:Bz "dict"=ae (.type "dict"):=by decide +kernel)
  (he':As [e] X.env=(ai,eval e X.env)::As [] X.env:=by rfl) (q_:(Cw pos (As [] X.env)).any (·.1)=ai:=by rfl):DN X (.Call (.Name "dict" p) [e] [] pos) (d3 vI (br te aX)) (iq we):=
 ⟨mE (Sb hh) hg hm hv (b3 he.pe dm he') ∎ ∎ he' q_,λC H B σ δ n Q K R q k=>
  he.sd C H B σ δ n _ _ R q λv x u y g i E d=>by
   split at d
   ·rename_i m
    split at d
    ·rename_i J w;cases(show RdX u B v (.tuple m)from E)with
     |@tup a M _ I N L h=>
      obtain⟨f,D,r,s⟩:=xU h w;subst D;have j:f.length<=1000:=by have:=h.len;simp_all
      refine⟨a,f,rfl,I,r,j,λl c=>k l _ _ _ y (g.new c) (i.trans (Kp.new c)) (g.was i c) a9 ?_ ?_ d.2⟩
      ·have:=K2 (f.map (·.2)) [];rw[Ab]at this;have z:([]:List (aC×V)).length=0:=rfl;omega
      ·exact RdK.merge (s.move λb o e n=>⟨by rw[aG (bu e c)];exact e,λz=>z.elim n λq=>bu e c q⟩) .nil
    ·exact d.elim
   ·exact d.elim⟩
def hX(i:Nat)(w:jf):aF:=λδ n K=>w δ n λkvs n1=>K.nx (δ.set i (ae (.odk kvs))) n1
theorem Nk{i:Nat}{x:Str}{pos':Pos}{w:jf}(hN:X.N.Nodup)(hi:X.N[i]?=ae x)(hx:fA X.env.scope x)(he:DN X e te w)(hs:Cy e (ae (.Name x pos')) pos.line X.env=pure ai:=by rfl)(hf:X.fn x=ah\/X.env.scope.names.lookup x=ae .local:=by first|exact .inl rfl|exact .inr rfl|assumption):
  DS X (.Assign [.Name x pos'] e pos) (bw te (c8 i)) (hX i w):=⟨fG hN hi hx he.pe hs hf,λC H B σ δ n K D R q E=>
 he.sd C H B σ δ n _ _ R q λa l g m o j k b c d f h=>by
  refine E.nx _ _ _ _ _ (R.own j k b (by rw[c];simp) rfl ?_) h;exact⟨a,l,rfl,c,.inr rfl,R.h0 b,d,f⟩⟩
def kB(i:Nat)(wy wv:DT):aF:=λδ n K=>match δ[i]? with
 |some (ae (.odk kvs))=>wv δ n λv n1=>wy δ n1 λy n2=>match v,y with
  |.d d,.d (.str k)=>kvs.length < 1000/\K.nx (δ.set i (ae (.odk (ee kvs (.inr k) d)))) n2
  |_,_=>False
 |_=>False
theorem Iw{i:Nat}{x:Str}{xp sp:Pos}{j e:Expr}{tj te:TE}{wj we:DT}(hu:X.A.units+64 < De)(hN:X.N[i]?=ae x)(hj:DE X j tj wj)(he:DE X e te we)(hv:dU X.env.scope x:=by first|exact Ci rfl|exact B5 (Ci rfl)|exact B5 (B5 rfl))(hd:(x==("__debug__":Str))=ai:=by decide)
  (r_:(x==("__classdict__":Str))=ai:=by decide) (hs:Cy e (ae (.Subscript (.Name x xp) j sp)) pos.line X.env=pure ai:=by rfl):
  DS X (.Assign [.Subscript (.Name x xp) j sp] e pos) (sv (aI i) tj te) (kB i wj we):=
 ⟨xX ⋯ (eY hN hv hd r_) hj.pe he.pe hs,λC H B σ δ n K D R q E=>by
  unfold kB at q
  split at q
  ·rename_i I F;refine he.sd C H B σ δ n _ _ R q λu y O P h Z T L=>?_;obtain⟨v,hv,a,l,rfl,Q,p,r,W,J⟩:=h.sl i _ F;refine⟨_,hv,hj.sd C O B σ δ P _ _ h L λw z M Y S m U g=>?_⟩
   split at g
   ·rename_i d c;cases(show RdX M B w (.str c)from U);have s:a≠C.t:=λz=>R.t0 (z▸r);have f:=J.move λb o e n=>⟨m b o e λz=>n (z▸h.bt),n⟩;have G:l.length < 1000:=by rw[f.len];exact g.1
    refine⟨a,_,rfl,DPut.k (k:=.inr c) (m _ _ Q s) (Bp G (dD (Al _))),E.nx _ _ _ _ _ (S.mutOwn F rfl hv p r ?_ rfl) g.2⟩;refine⟨a,_,rfl,a9,p,r,?_,?_⟩
    ·have:=vi l (.inr c) u;omega
    ·exact(f.put (T.kp m h.bt) _).move λb o e n=>⟨by rw[aG λ(z:b=a)=>n (z▸p)];exact e,n⟩
   ·exact g.elim
  ·exact q.elim⟩
def ly(i:Nat)(w:DT):DT:=λδ n Q=>w δ n λx n1=>match x,δ[i]? with
 |.d a,ae (ae (.own ds))=>eG a=ah/\ds.all eG=ah/\Q (.d (.bool (cC a ds))) n1
 |_,_=>False
theorem NB{i:Nat}(h:dj ta wa):dj (cY (gc K ai) ta (aI i)) (ly i wa):=λC H B σ δ n Q r R q k=>
 h C H B σ δ n _ _ R q λv x g l d p f b=>by
  split at b
  ·rename_i w y e;obtain⟨u,j,a,m,rfl,o,t,s,z,c⟩:=d.sl i _ e;refine⟨_,j,a,m,rfl,.inl (SqL.of o),jN f b.1,jt c b.2.1,k _ _ g l d p (wd (.bl _)) ?_⟩;rw[j3 f c];exact b.2.2
  ·exact b.elim
theorem K7(i:Nat){x:Str}{xp:Pos}(ha:DE X a ta wa)(hK:X.K=K:=by rfl)(hN:X.N[i]?=ae x:=by rfl)(hv:dU X.env.scope x:=by first|exact Ci rfl|exact B5 (Ci rfl)|exact B5 (B5 rfl))(hd:(x==("__debug__":Str))=ai:=by decide)
  (r_:(x==("__classdict__":Str))=ai:=by decide) (hm:Cm .In (Expr.Name x xp)=ai:=by with_unfolding_all rfl):DC X (.Compare a [.In] [.Name x xp] pos) (fN (cY (gc K ai) ta (aI i))) (cT (ly i wa)):=
 ⟨jc (si hK) ha.pe (eY hN hv hd r_) hm,kE (NB ha.sd)⟩
end
section
variable{X:Cx}{a b c e o i f:Expr}{ta tb te td ty tx:TE}{wa wb we wd' wy wx:DT}{pos p:Pos}{K:Ag}
def bM(ps:List (Str×Ad)):List (aC×Ad):=ps.map λp=>(Dc p.1,p.2)
def iL(ps:List (Str×Ad)):Prop:=ps.Pairwise λa b=>¬b.1.cps.toList < a.1.cps.toList
def vC(w:DT):dO:=λδ n Q=>w δ n λx n1=>match x with
 |.dk kvs=>∃ps:List (Str×Ad),kvs=bM ps/\ps.length < 64/\(ps.map (·.1)).Nodup/\(∀p∈ps,p.1.length<=1000/\eG p.2=ah)/\∀ps':List (Str×Ad),ps'.Perm ps->iL ps'->Q (ps'.map λp=>.tuple [.str p.1,p.2]) n1
 |_=>False
theorem sS{H:Hp}{B:A'->Prop}:∀{l:List (aC×V)}{ps:List (Str×Ad)},RdK H B l (bM ps)->∃xv:List V,xv.length=ps.length/\l=(((ps.map (·.1)).zip xv).map λp=>((Dc p.1:aC),p.2))/\RdXs H B xv (ps.map (·.2))
 |[],[],_=>⟨[],rfl,rfl,.nil⟩
 |[],_::_,h=>nomatch h
 |_::_,[],h=>nomatch h
 |q::l,p::ps,.cons r h=>by
  obtain⟨xv,c,b,a⟩:=sS h;refine⟨_,by simp[c],?_,.cons r.2 a⟩;rw[b];have d:q.1=(Dc p.1:aC):=r.1;have:q=((Dc p.1:aC),q.2):=by rw[<-d]
  rw[this];rfl
def OB:V->List V->Hp->VK->Prop:=λx vs H Q=>∃d kvs,x=.ref d/\vs=[]/\H d=ae (.dK kvs)/\∀v,H v=af->Q (.ref v) (upd H v (jq d v))
theorem BS{α β:Type}{f:α->β}{l:List α}{i:Nat}{x:α}{y:β}(h:i < l.length):(l.map f).getD i y=f (l.getD i x):=by simp[h]
theorem Rt{ap ip:Pos}(hh:X.A.handled=af)(hg:Gl X "sorted")(hm:X.mg "sorted"=af)(ho:DE X o td wd')(hv:Bz "sorted"=ae (.builtin "sorted"):=by decide +kernel)(hK:X.K=K:=by rfl)
  (hbase:G7 o "items" X.env (eval o X.env)=eval o X.env:=by rfl) (hline:(ap.endLine==ip.line)=ah:=by rfl)
  (he':As [Expr.Call (.Attribute o "items" ap) [] [] ip] X.env=(ai,eval (Expr.Call (.Attribute o "items" ap) [] [] ip) X.env)::As [] X.env:=by rfl) (q_:(Cw pos (As [] X.env)).any (·.1)=ai:=by rfl):
  DF X (.Call (.Name "sorted" p) [.Call (.Attribute o "items" ap) [] [] ip] [] pos) (d3 yV (br (kA K "dict" OB td) aX)) (vC wd'):=by
 subst hK;refine⟨gp (Jd hh) hg hm hv (b3 (DV PySem.F.plainAttrs_dict PySem.F.slot_dict_items PySem.F.type_dict_items RR ho.pe hbase hline) dm he') ∎ ∎ he' q_,λC H B σ δ n Q Q' R q k=>
  ho.sd C H B σ δ n _ _ R q λv x N n1 R1 k1 r1 J=>?_⟩
 cases x with
 |d _=>exact J.elim
 |tp=>exact J.elim
 |ln _=>exact J.elim
 |ob _=>exact J.elim
 |dx _=>exact J.elim
 |dk kvs=>
  obtain⟨a,l,rfl,Y,g2,g3⟩:=r1;obtain⟨c,rfl,h64,nd,M,kq⟩:=J;obtain⟨E,ex1,ex2,T⟩:=sS g3;refine⟨.inr (.inr (.inl ⟨rfl,.inl ⟨l,Y⟩⟩)),a,l,rfl,rfl,Y,λv hv=>?_⟩;have R2:=R1.new (o:=jq a v) hv;have kp2:Kp C.t N (upd N v (jq a v)):=Kp.new hv;refine⟨v,a,_,E,rfl,a9,by rw[Ab,ex1],by rw[aG (bu Y hv),Y,ex2],by rw[Ab];exact h64,nd,jt T ?_,λD u s U Z g O sm hD has hD' hit=>?_⟩
  ·rw[E1];intro d hd;obtain⟨p,hp,rfl⟩:=Ba.mp hd;exact(M p hp).2
  ·rw[Ab]at Z g;have hDn:=R1.was k1 (by
    cases q:N D with
    |none=>rfl
    |some o=>
     have:upd N v (jq a v) D=ae o:=by rw[aG (bu q hv)];exact q
     rw[hD]at this;cases this)
   have I:∀i∈s,i < c.length:=λi W=>Cn.mp (g.mem_iff.mp W);have lidx:s.length=c.length:=by rw[g.length_eq,D9]
   refine k D _ _ U n1 (R2.same sm) ((k1.trans kp2).trans λb o e _=>sm b o e) hDn hD' (by rw[Ab];exact dD ⋯) ?_ (kq (s.map λi=>c.getD i (⟨#[]⟩,.none)) ?_ ?_)
   ·rw[B6];have m_:∀m:List Nat,(∀i∈m,i∈s)->RdXs U (λb=>B b\/b=D) (m.map λi=>V.ref (fc u (c.map (·.1)) E i).1) (m.map ((λp=>PyData.tuple [.str p.1,p.2]) ∘ λi=>c.getD i (⟨#[]⟩,.none))):=by
     intro m
     induction m with
     |nil=>exact λ_=>.nil
     |cons i r ih=>
      intro hm;have W:=hm i Ap;have w:=I i W;refine .cons ?_ (ih λj hj=>hm j (Ak _ hj));have ht:=hit i W;have L:i < u.length:=by simp_all
      have eA:(fc u (c.map (·.1)) E i).1=u[i]:=by show u.getD i 0=_;simp[L]
      have eK:(fc u (c.map (·.1)) E i).2.1=c[i].1:=by show(c.map (·.1)).getD i _=_;simp[w]
      have S:i < E.length:=by simp_all
      have eX:(fc u (c.map (·.1)) E i).2.2=E[i]:=by show E.getD i .non=_;simp[S]
      rw[eA,eK,eX]at ht;show RdX U _ (.ref (fc u _ E i).1) _;rw[eA];have eP:c.getD i (⟨#[]⟩,.none)=c[i]:=by simp[w]
      show RdX U _ _ (.tuple [.str (c.getD i _).1,(c.getD i _).2]);rw[eP];have nD:u[i]≠D:=λz=>by simp_all
      refine .tup ht (λz=>z.elim (R2.nb (has u[i] (C5 L))) nD) (by show 2<=Ay;decide) (.cons (.str _ (dD (M c[i] (C5 w)).1)) (.cons ?_ .nil));obtain⟨d,f1,f2⟩:=T.get (Ah S);rw[Am,Ah w]at f1;cases f1;exact f2.move λb o e n=>⟨sm b o (by rw[aG (bu e hv)];exact e),λz=>z.elim n λq=>by
       have e2:upd N v (jq a v) b=ae o:=by rw[aG (bu e hv)];exact e
       simp_all⟩
    exact m_ s λ_ h=>h
   ·have h1:=g.map λi=>c.getD i ((⟨#[]⟩:Str),PyData.none);have h2:(Be c.length).map (λi=>c.getD i ((⟨#[]⟩:Str),PyData.none))=c:=by
     apply Fs (by simp);intro i h1 h2;simp[h2]
    rw[h2]at h1;omega
   ·unfold iL;rw[Fi];rw[Fi]at O;refine List.Pairwise.imp_of_mem (λ{x y} hx hy h=>?_) O;rw[BS (I x hx),BS (I y hy)]at h;exact h
def yN(w:DT):dO:=λδ n Q=>w δ n λx n1=>match x with
 |.dk kvs=>∃ps:List (Str×Ad),kvs=bM ps/\ps.length < 64/\(∀p∈ps,p.1.length<=1000)/\∀ys:List Str,ys.Perm (ps.map (·.1))->ys.Pairwise (λa b=>¬b.cps.toList < a.cps.toList)->Q (ys.map .str) n1
 |_=>False
theorem m7{H:Hp}{B:A'->Prop}:∀{ys:List Str},(∀y∈ys,y.length<=1000)->RdXs H B (ys.map V.str) (ys.map .str)
 |[],_=>.nil
 |y::r,h=>.cons (.str _ (dD (h y Ap))) (m7 λz a=>h z (Ak _ a))
theorem MB(hh:X.A.handled=af)(hg:Gl X "sorted")(hm:X.mg "sorted"=af)(ho:DE X o td wd')(hv:Bz "sorted"=ae (.builtin "sorted"):=by decide +kernel)
  (he':As [o] X.env=(ai,eval o X.env)::As [] X.env:=by rfl) (q_:(Cw pos (As [] X.env)).any (·.1)=ai:=by rfl):
  DF X (.Call (.Name "sorted" p) [o] [] pos) (d3 BX (br td aX)) (yN wd'):=by
 refine⟨gp (Qm hh) hg hm hv (b3 ho.pe dm he') ∎ ∎ he' q_,λC H B σ δ n Q O R q k=>
  ho.sd C H B σ δ n _ _ R q λv x N E s u I b=>?_⟩
 cases x with
 |d _=>exact b.elim
 |tp=>exact b.elim
 |ln _=>exact b.elim
 |ob _=>exact b.elim
 |dx _=>exact b.elim
 |dk z=>
  obtain⟨a,l,rfl,L,V,J⟩:=I;obtain⟨r,rfl,f,i,K⟩:=b;obtain⟨F,j,g,w⟩:=sS J;refine⟨a,l,r.map (·.1),rfl,L,?_,by rw[Ab];exact f,λD t e G m=>?_⟩
  ·rw[g,B6];show((r.map _).zip F).map (Dc ∘ Prod.fst)=_;rw[<-B6,List.map_fst_zip (by rw[j];simp)]
  ·have h:∀y∈t,y.length<=1000:=λy h=>by
    obtain⟨p,c,rfl⟩:=Ba.mp (e.mem_iff.mp h);exact i p c
   refine k D _ _ _ E (s.new m) (u.trans (Kp.new m)) (s.was u m) a9 ?_ (m7 h) (K t e G);rw[Ab,e.length_eq,Ab];exact dD ⋯
def du(xs ys:List Ad):List Ad:=List.zipWith (λx y=>.tuple [x,y]) xs ys
def ma(w w':DT):fJ:=λδ n Q=>w δ n λx n1=>w' δ n1 λy n2=>match x,y with
 |.d (.tuple xs),.d (.tuple ys)=>xs.length=ys.length/\Q (du xs ys) n2
 |_,_=>False
theorem Im{elts:List Expr}{kk:Nat}{tpos:Pos}(hg:Gl X "zip")(hm:X.mg "zip"=af)(ha:DE X a ta wa)(hb:DE X b tb wb)(hK:X.K=K:=by rfl)(hs:As [a,b] X.env=[(ai,eval a X.env),(ai,eval b X.env)]:=by rfl)(hs2:As [b] X.env=[(ai,eval b X.env)]:=by rfl)
  (he1:As [a,b] X.env=(ai,eval a X.env)::As [b] X.env:=by rfl) (he2:As [b] X.env=(ai,eval b X.env)::As [] X.env:=by rfl):
  DI X (.Tuple elts kk tpos) (.Call (.Name "zip" p) [a,b] [] pos) (l6 K (br ta (br tb aX))) (ma wa wb):=by
 subst hK;refine⟨Mk hg hm (b3 ha.pe (b3 hb.pe dm he2) he1) hs hs2,λC H B σ δ n Q Q' R q k=>ha.sd C H B σ δ n _ _ R q λv x H1 n1 R1 k1 r1 q1=>hb.sd C H1 B σ δ n1 _ _ R1 q1 λu y s n2 R2 U r2 g=>?_⟩;have P:=r1.kp U R1.bt
 split at g
 ·rename_i h r;cases(show RdX s B v (.tuple h)from P)with
  |@tup aa w _ e1 e2 e3 t=>
   cases(show RdX s B u (.tuple r)from r2)with
   |@tup ab F _ f1 f2 f3 f4=>
    refine⟨aa,ab,rfl,⟨w,SqT.of e1⟩,⟨F,SqT.of f1⟩,k _ _ s n2 R2 (k1.trans U) (λfz j=>?_) g.2⟩;have I:=j.2 _ _ e1 e2;have Y:=j.2 _ _ f1 f2;have m:(du h r).length=h.length:=by unfold du;rw[List.length_zipWith,g.1,Nat.min_self]
    refine⟨by rw[m,<-t.len];exact e3,λi H f l=>?_,λH f=>?_,λi H x H' d f V L=>?_⟩
    ·rw[m]at l;have h1:i < w.length:=by rw[t.len];exact l
     have h2:i < F.length:=by rw[f4.len,<-g.1];omega
     exact⟨w,F,_,_,SqT.of (f _ _ I),SqT.of (f _ _ Y),Ah h1,Ah h2⟩
    ·exact⟨w,SqT.of (f _ _ I),by rw[m,t.len];simp⟩
    ·obtain⟨T,x1,y1,rfl,A,rfl,hx,L⟩:=L;refine⟨λb o e=>by rw[aG (bu e A)];exact e,λB' hB E=>?_⟩;have l:i < h.length:=by rw[<-m];exact(Ar.mp V).1
     have N:i < r.length:=by simp_all
     have ed:d=.tuple [h[i],r[i]]:=by
      unfold du at V;simp_all
     subst ed;obtain⟨u1,D,M⟩:=t.getD (Ah l);obtain⟨u2,S,J⟩:=f4.getD (Ah N);have W:=hx _ (SqT.of (f _ _ I));have t2:=L _ (SqT.of (f _ _ Y));rw[D]at W;rw[S]at t2;cases W;cases t2;have Z:∀b o,s b=ae o->¬B b->upd H T (.tup [x1,y1]) b=ae o/\¬B' b:=λb o e ne=>by
      have:=f _ _ (j.2 _ _ e ne);exact⟨by rw[aG (bu this A)];exact this,hB _ _ (j.2 _ _ e ne)⟩
     exact .tup a9 (λz=>E T z A) (by show 2<=Ay;decide) (.cons (M.move Z) (.cons (J.move Z) .nil))
 ·exact g.elim
end
end DL
namespace L2
open PySem PySem.Spec PyProof.Rows PySem.SeqAt
end L2
namespace DL
open PySem L2 Nb
section
variable{X:Cx}{K:Ag}
def n6(K:Ag)(f:Ad->Ad->Option Bool):R2:=λx y H Q=>∃d e b,RdD K H x d/\RdD K H y e/\d.canLay0=ah/\e.canLay0=ah/\d.depth<=20/\e.depth<=20/\f d e=ae b/\Q (.bl b) H
theorem QU(hu:X.A.units+64 < De)(hK:X.K=K:=by rfl):OpR X (B3 .Eq) (n6 K λd e=>ae (C0 d e)):=by
 subst hK;intro a s σ H x y v u Q I i k h;obtain⟨d,e,b,j,c,f,g,o,p,m,q⟩:=h;cases m;obtain⟨t,l⟩:=RdD.reads I j i;obtain⟨r,n⟩:=RdD.reads I c k;exact SeqAt.compareEq_reads l n f g ⋯ ⟨.bl _,H,I,rfl,q⟩
theorem Lw(hu:X.A.units+64 < De)(hK:X.K=K:=by rfl):OpR X (B3 .NotEq) (n6 K λd e=>ae (!C0 d e)):=by
 subst hK;intro a s σ H x y v u Q I k f h;obtain⟨d,e,b,g,m,j,c,t,o,l,q⟩:=h;cases l;obtain⟨p,n⟩:=RdD.reads I g k;obtain⟨r,i⟩:=RdD.reads I m f;exact SeqAt.compareNe_reads n i j c ⋯ ⟨.bl _,H,I,rfl,q⟩
def tW(f:Ad->Ad->Option Bool):Wv->Wv->Int->DQ->Prop:=λx y n Q=>match x,y with
 |.d d,.d e=>d.canLay0=ah/\e.canLay0=ah/\d.depth<=20/\e.depth<=20/\∃b,f d e=ae b/\Q (.d (.bool b)) n
 |_,_=>False
theorem HR{f:Ad->Ad->Option Bool}:a8 (n6 K f) (tW f):=λC H B σ δ n x y p q Q r R g i a k=>by
 unfold tW at a
 split at a
 ·rename_i d e;obtain⟨m,j,c,h,b,l,o⟩:=a;exact⟨d,e,b,RdX.rd g,RdX.rd i,m,j,c,h,l,k _ _ H n R (Kp.refl _ _) (wd (.bl b)) o⟩
 ·exact a.elim
end
end DL
namespace L2
open PySem PySem.Spec PyProof.Rows PySem.W
section
variable{prog:A3}{w:Bi}{A:Bq}{E:Af->Ai->Prop}{s:Ai}
theorem ML{src:Source}{n:Nat}{Q:Nat->Ai->Prop}(hn:n≠0)(h:∀i dr,i < n->Q i {s with drawn:=dr}):A6 (A9 prog w) A (choose src n) Q E s:=
 λ_ _ _=>⟨hn,h _ _ (Nat.mod_lt _ (Nat.pos_of_ne_zero hn))⟩
theorem tU{α:Type}:∀(l:List α)(i:Nat)(h:i < l.length),(l[i]::l.eraseIdx i).Perm l
 |x::r,0,_=>List.Perm.refl _
 |x::r,i+1,h=>(List.Perm.swap x _ _).trans ((tU r i _).cons x)
theorem vX{α:Type}:∀(n:Nat)(xs:List α)(s:Ai){Q:List α->Ai->Prop},xs.length=n->(∀ys dr,ys.Perm xs->Q ys {s with drawn:=dr})->A6 (A9 prog w) A (drawOrder n xs) Q E s
 |0,xs,s,Q,a,h=>by
  cases G2 a;exact Aj (h [] s.drawn (List.Perm.refl _))
 |n+1,[],s,Q,a,h=>by trivial
 |n+1,x::r,s,Q,a,h=>by
  refine Aa (ML (by simp) λi dr c=>?_);rw[Ah c];exact Aa (vX n _ _ (by rw[List.length_eraseIdx_of_lt c];simp_all) λys b d=>Aj (h _ b ((d.cons _).trans (tU _ _ c))))
theorem yd{α:Type}(next:Nat->Nat):∀(fuel k:Nat)(left:List α)(out:Array α),left.length=fuel->(pickOrder.go next fuel k left out).toList.Perm (out.toList++left)
 |0,k,left,out,b=>by
  cases G2 b;simp[pickOrder.go]
 |fuel+1,k,left,out,b=>by
  have a:next k % left.length < left.length:=Nat.mod_lt _ ⋯
  unfold pickOrder.go;rw[Ah a];refine(yd next fuel _ _ _ (by rw[List.length_eraseIdx_of_lt a];omega)).trans ?_;rw[Array.toList_push,A2];exact List.Perm.append_left _ (tU _ _ a)
theorem Km{α:Type}(next:Nat->Nat)(xs:Array α):(pickOrder next xs).toList.Perm xs.toList:=by
 have:=yd next xs.size 0 xs.toList #[] (by simp)
 assumption
def cD(w:Bi):Bool:=w.params.followText "set-order"
theorem qo{Q:Bool->Ai->Prop}(h:Q (cD w) s):A6 (A9 prog w) A setsByText Q E s:=Aa (wpAny_askSetting (Aj h))
structure SetTb(w:Bi)(h:Heap)(a:A')(es:Array (Int×Af))(ep:Nat)(t:Fn):Prop where
 obj:∃o,h.get? a=ae o/\o.ExactSet/\o.data=.set es ep t
 fits:t.fits es.size=ah
 led:t.led=!cD w
 plain:t.plain=ah->es.size=0
theorem SetTb.move{h h':Heap}{a:A'}{es:Array (Int×Af)}{ep:Nat}{t:Fn}(x:SetTb w h a es ep t)(k:∀o,h.get? a=ae o->h'.get? a=ae o):SetTb w h' a es ep t:=
 ⟨let⟨o,e,r⟩:=x.obj;⟨o,k o e,r⟩,x.fits,x.led,x.plain⟩
theorem SetTb.typeIs{a:A'}{es:Array (Int×Af)}{ep:Nat}{t:Fn}(x:SetTb w s.heap a es ep t):s.TypeIs (.ref a) "set":=let⟨o,e,r,_⟩:=x.obj;⟨o,e,r.1⟩
theorem SetTb.lt{h:Heap}{a:A'}{es:Array (Int×Af)}{ep:Nat}{t:Fn}(x:SetTb w h a es ep t):a < h.objs.size:=let⟨_,e,_⟩:=x.obj;Aw e
theorem Hz(t:Fn)(n:Nat):(t.orStandIn n).led=t.led:=by
 unfold SetTable.orStandIn
 split<;>rfl
theorem RI(t:Fn)(es:Array (Int×Af))(h:Int)(x:Af):(layNew t es h x).2.1.led=t.led:=by
 unfold layNew
 split
 ·exact Hz _ _
 ·rfl
theorem HY{t t':Fn}{hs:Array Int}{n:Nat}{ord:Array Nat}(h:t.relaid hs n=ae (t',ord)):t'.led=t.led/\t'.plain=t.plain:=by
 unfold SetTable.relaid SetTable.laid at h;cases a:SetTable.layClean _ hs with
 |none=>rw[a]at h;cases h
 |some b=>
  rw[a]at h;cases h;simp
theorem xG(t:Fn)(es:Array (Int×Af))(n:Nat):(relayAll t es n).2.1.led=t.led/\((relayAll t es n).2.1.plain=ah->t.plain=ah):=by
 unfold relayAll
 split
 ·rename_i e c b;obtain⟨d,a⟩:=HY b;dsimp only
  split
  ·exact⟨d,λz=>a▸z⟩
  ·exact⟨rfl,λz=>by trivial⟩
 ·exact⟨rfl,λz=>by trivial⟩
def fM(v:Af):Str:=match v with
 |.str k _=>k
 |_=>⟨#[]⟩
def ck(es:Array (Int×Af)):List Str:=es.toList.map λe=>fM e.2
def TxEs(w:Bi)(es:Array (Int×Af)):Prop:=∀e∈es.toList,∃k t,e.2=.str k t/\e.1=hashStr w k
theorem TxEs.elems{es:Array (Int×Af)}(h:TxEs w es):ElemsOf (Fc prog w) es.toList:=λe c=>by
 obtain⟨k,t,a,b⟩:=h e c;refine⟨⟨k,?_,b⟩,by rw[a];rfl⟩;rw[a];simp[Fc,Value.isStrOf]
def gu(w:Bi)(h:Heap)(a:A')(seen:List Str):Prop:=∃es ep t,SetTb w h a es ep t/\TxEs w es/\(ck es).Nodup/\(∀k,k∈ck es↔k∈seen)/\es.size<=seen.length
end
theorem CK:entryFor table "set.update.loop"=ae Ep.«set.update.loop»:=G4 (by kernel_rfl)
theorem N5:plainId "set.update.loop"=ah:=by decide +kernel
section
variable{prog:A3}{w:Bi}{A:Bq}{E:Af->Ai->Prop}{s:Ai}
theorem JO{es es':Array (Int×Af)}{seen:List Str}{k:Str}{tk:Tok}(hx:TxEs w es)(nd:(ck es).Nodup)(hm:∀k,k∈ck es↔k∈seen)(hl:es.size<=seen.length)(hk:k∉ck es)
  (p:es'.toList.Perm (es.toList++[(hashStr w k,.str k tk)])):TxEs w es'/\(ck es').Nodup/\(∀k',k'∈ck es'↔k'∈seen++[k])/\es'.size<=(seen++[k]).length/\es'.size=es.size+1:=by
 have d:(ck es').Perm (ck es++[k]):=by
  have:=p.map λe=>fM e.2;rw[Bd]at this;trivial
 have c:=by
  have:=p.length_eq;simpa using this
 refine⟨λe f=>?_,d.nodup_iff.mpr ?_,λk'=>?_,by rw[c,An];exact Nat.succ_le_succ hl,c⟩
 ·rcases A7.mp (p.mem_iff.mp f)with h|h
  ·exact hx e h
  ·rw[Bm]at h;subst h;exact⟨k,tk,rfl,rfl⟩
 ·rw[Gg];exact⟨nd,D8 _ _,λa i b g e=>hk (by rw[Bm]at g;simp_all)⟩
 ·rw[d.mem_iff,A7,A7,hm k']
theorem CH{es es':Array (Int×Af)}(hx:TxEs w es)(nd:(ck es).Nodup)(p:es'.toList.Perm es.toList):TxEs w es'/\(ck es').Nodup/\(∀k',k'∈ck es'↔k'∈ck es)/\es'.size=es.size:=by
 have a:=List.Perm.map (λe:Int×Af=>fM e.2) p;exact⟨λe b=>hx e (p.mem_iff.mp b),a.nodup_iff.mpr nd,λk'=>a.mem_iff,by have:=p.length_eq;omega⟩
theorem Me{a:A'}{k:Str}{tk:Tok}{seen:List Str}{Q:Bool->Ai->Prop}(hS:gu w s.heap a seen)(hb:seen.length < 1000)
  (h:∀b h',C7 a s.heap h'->gu w h' a (seen++[k])->Q b {s with heap:=h'}):A6 (A9 prog w) A (setAddHashed a (.str k tk) (hashStr w k)) Q E s:=by
 obtain⟨D,ep,t,T,hx,nd,hm,hl⟩:=hS;obtain⟨o,O,F,H⟩:=T.obj;have V:ElemsOf (Fc prog w) D.toList:=hx.elems;have hsz:D.size < scanBound:=by unfold scanBound;omega
 have W:(Fc prog w).is k (.str k tk)=ah:=by simp[Fc,Value.isStrOf]
 refine Cc (Aa (Fp O H T.fits ?_));dsimp only;rw[byScan_of rfl hsz V];refine Aa (Aa (Fh (Aa (wpAny_setScan_of W O H T.fits V ?_))));cases hr:D.toList.findIdx? (λe=>(Fc prog w).is k e.2)with
 |some j=>
  obtain⟨hj,hpj,_⟩:=F9.mp hr;have hk:k∈ck D:=by
   obtain⟨u,hu⟩:=Value.isStrOf_shape hpj;exact Ba.mpr ⟨_,C5 hj,by rw[hu];rfl⟩
  refine Aj (Aj (h _ s.heap (Heap.SameBut.refl a s.heap) ⟨D,ep,t,T,hx,nd,λk'=>?_,by rw[An];omega⟩));rw[hm k',A7,Bm];exact⟨.inl,λz=>z.elim id λe=>e▸(hm k).mp hk⟩
 |none=>
  have hk:k∉ck D:=λz=>by
   obtain⟨e,he,e2⟩:=Ba.mp z;obtain⟨k',t',e3,_⟩:=hx e he;have q:=List.findIdx?_eq_none_iff.mp hr e he;rw[e3]at e2 q;have e2:k'=k:=e2;subst e2;simp[Fc,Value.isStrOf]at q
  have M:∀b {s_:Ai} {Q':Unit->Ai->Prop},Q' () s_->A6 (A9 prog w) A (match b with|true=>rule "set.scan.the-table-gave-way"|false=>pure ()) Q' E s_:=
   λb s_ Q' hq=>by cases b with
    |true=>exact Fh hq
    |false=>exact Aj hq
  have Y:=layNew_perm t D (hashStr w k) (.str k tk);have hf:=layNew_fits t D (hashStr w k) (.str k tk);have G:=RI t D (hashStr w k) (.str k tk);have eh:(Fc prog w).hash k=hashStr w k:=rfl
  try rw[eh]
  generalize layNew t D _ _=L at Y hf G ⊢;obtain⟨c,t1,wd,gave⟩:=L;dsimp only at Y hf G ⊢;rw[Array.toList_push]at Y;obtain⟨x1,Z,m1,l1,z1⟩:=JO hx nd hm hl hk Y;refine Aa (M _ ?_)
  split
  ·refine Aa (Aj ?_);have n:({t1 with plain:=ai}:Fn).plain=ai:=rfl;have C:=SetTable.fits_plain_off hf;have i:({t1 with plain:=ai}:Fn).led=t.led:=G;simp only[Hh,↓reduceIte];generalize({t1 with plain:=ai}:Fn)=g at n C i ⊢;have J:c.size < scanBound:=by unfold scanBound;omega
   refine Aa (wpAny_storeSet_of O H ?_ (fits_of_scanBound J));have K:=by
    have:=By (Obj.putSet c g) O (by rw[putSet_of c g H];rfl);rw[putSet_of c g H]at this;omega
   have y:=Bg s.heap a (Obj.putSet c g)
   split
   ·have l:=relayAll_perm g c (SetTable.grown c.size);have m:=relayAll_fits g c (SetTable.grown c.size);obtain⟨p,r⟩:=xG g c _;generalize relayAll g c _=R at l m p r ⊢;obtain⟨x,X,I⟩:=R;dsimp only at l m p r ⊢;obtain⟨x2,n2,m2,z2⟩:=CH x1 Z l;refine Aa (M _ (Aa (wpAny_storeSet_of K rfl ?_ (fits_of_scanBound (by simp_all)))));have g2:=by
     have:=By (Obj.putSet x X) K (by rfl);assumption
    refine Aj (Aj (h _ _ (y.trans (Bg _ a _)) ⟨x,_,X,⟨⟨_,g2,F,rfl⟩,m,by rw[p,i];exact T.led,λz=>?_⟩,x2,n2,λk'=>(m2 k').trans (m1 k'),by simp_all⟩));have:=r z;rw[n]at this;cases this
   ·refine Aj (Aj (h _ _ y ⟨c,_,g,⟨⟨_,K,F,rfl⟩,C,by rw[i];exact T.led,λz=>?_⟩,x1,Z,m1,l1⟩));rw[n]at z;cases z
  ·rename_i P;have n:=by simpa using P
   have C:=hf;have i:=G;refine Aa (Aj ?_);simp only[↓reduceIte];generalize t1=g at n C i ⊢;have J:c.size < scanBound:=by unfold scanBound;omega
   refine Aa (wpAny_storeSet_of O H ?_ (fits_of_scanBound J));have K:=by
    have:=By (Obj.putSet c g) O (by rw[putSet_of c g H];rfl);rw[putSet_of c g H]at this;omega
   have y:=Bg s.heap a (Obj.putSet c g)
   split
   ·have l:=relayAll_perm g c (SetTable.grown c.size);have m:=relayAll_fits g c (SetTable.grown c.size);obtain⟨p,r⟩:=xG g c _;generalize relayAll g c _=R at l m p r ⊢;obtain⟨x,X,I⟩:=R;dsimp only at l m p r ⊢;obtain⟨x2,n2,m2,z2⟩:=CH x1 Z l;refine Aa (M _ (Aa (wpAny_storeSet_of K rfl ?_ (fits_of_scanBound (by simp_all)))));have g2:=by
     have:=By (Obj.putSet x X) K (by rfl);assumption
    refine Aj (Aj (h _ _ (y.trans (Bg _ a _)) ⟨x,_,X,⟨⟨_,g2,F,rfl⟩,m,by rw[p,i];exact T.led,λz=>?_⟩,x2,n2,λk'=>(m2 k').trans (m1 k'),by simp_all⟩));have:=r z;rw[n]at this;cases this
   ·refine Aj (Aj (h _ _ y ⟨c,_,g,⟨⟨_,K,F,rfl⟩,C,by rw[i];exact T.led,λz=>?_⟩,x1,Z,m1,l1⟩));rw[n]at z;cases z
def gn(ks:List Str)(i:Nat)(v:Af):Prop:=∃k t,ks[i]?=ae k/\v=.str k t
theorem Mu{R:Result->Ai->Prop}{I:A'}{fp wr:List A'}{G:Array GenState->Array GenState->Prop}{n:Nat}{St:Nat->Ai->Prop}{ks:List Str}(W:WalksS prog w A.in1 I fp wr G n (gn ks) St)(S:A')(hSf:S∉fp)(hn:ks.length=n)(hb:n < 64):
  ∀(m i:Nat)(s:Ai),n-i=m->i<=n->St i s->gu w s.heap S (ks.take i)->
   (∀s',Moved (S::wr) G s s'->gu w s'.heap S ks->R (.ok (.ret .none)) s')->codeAny (A9 prog w) A (.builtin "set.update.loop" ⟨[.ref S,.ref I],[]⟩) R s:=by
 have p:=λh=>hSf (W.sub _ h);have c:∀b∈wr,b∈S::wr:=λb hb=>Ak _ hb;have F:∀{h D:Heap}{a:List Str},(∀o,h.get? S=ae o->D.get? S=ae o)->gu w h S a->gu w D S a:=λk x=>by
  obtain⟨M,O,t,T,r⟩:=x;exact⟨M,O,t,T.move k,r⟩
 intro m
 induction m with
 |zero=>
  intro i s K J d z C;have B:i=n:=by omega
  subst B;refine Eu CK (Aa (W.done s _ _ d λs' j=>?_));rw[<-hn,List.take_length]at z;exact Aj (C s' (j.mono c) (F (λo e=>j.heap S _ p e) z))
 |succ m P=>
  intro i s K J d z C;have u:i < n:=by omega
  refine Eu CK (Aa (W.item i s _ _ u d λv s' L q j=>?_));obtain⟨k,t,E,rfl⟩:=L;refine Aa (Cc (Cc ?_));refine Aa (wpAny_pyHash_str (Me (F (λo e=>j.heap S _ p e) z) (by rw[Ey];omega) λb D g l=>?_));have Q:ks.take i++[k]=ks.take (i+1):=by
   rw[List.take_add_one,E];rfl
  rw[Q]at l;refine Aj ⟨Gb N5 _,P _ _ ⋯ u (W.frame _ s' _ _ q (Nat.le_succ _) λb hb o e=>?_) l λs'' f y=>?_⟩
  ·rw[g.2 b (λh:b=S=>hSf (by simp_all))];exact e
  ·refine C s'' (Moved.trans W.gtrans ((j.mono c).then_heap (Nat.le_succ _) λb o hb e=>?_) f) y;rw[g.2 b (λh:b=S=>hb (by rw[h];simp))];exact e
end
theorem slot_setit_next:Slot "set_iterator" "__next__" "set_iterator.__next__":=Slot.of (owner:="set_iterator") (n:="__next__") (by rw[typeLookup_type,builtinLookup_eq_fast];kernel_rfl)
 ∅ ∅ ∅ (by first|exact .inl ∅|exact .inr ∅) (by rw[F2];kernel_rfl)
theorem kM:entryFor table "set_iterator.__next__"=ae Ep.«set_iterator.__next__»:=G4 (by kernel_rfl)
theorem lF(a:Af):argsOk "set_iterator.__next__" ⟨[a],[]⟩:=by unfold argsOk;kernel_rfl
theorem wO:Slot "set_iterator" "__iter__" "set_iterator.__iter__":=Slot.of (owner:="set_iterator") (n:="__iter__") (by rw[typeLookup_type,builtinLookup_eq_fast];kernel_rfl)
 ∅ ∅ ∅ (by first|exact .inl ∅|exact .inr ∅) (by rw[F2];kernel_rfl)
theorem Ls:entryFor table "set_iterator.__iter__"=ae Ep.«dict_keyiterator.__iter__»:=by exact entryFor_alias (id':="dict_keyiterator.__iter__") (by kernel_rfl) rfl ∅ (by kernel_rfl)
theorem Ja(a:Af):argsOk "set_iterator.__iter__" ⟨[a],[]⟩:=by unfold argsOk;kernel_rfl
theorem MU:entryFor table "set.__iter__"=ae Ep.«frozenset.__iter__»:=by exact entryFor_alias (id':="frozenset.__iter__") (by kernel_rfl) rfl ∅ (by kernel_rfl)
def SetIt(h:Heap)(I:A')(first:Af)(i:Nat)(a:A')(n ep:Nat):Prop:=∃o,h.get? I=ae o/\o.cls=.type "set_iterator"/\o.data=.fields #[first,.int i 0,.ref a,.int n 0,.int ep 0]
section
variable{prog:A3}{w:Bi}{A:Bq}{E:Af->Ai->Prop}{s:Ai}{I a T:A'}{n ep i j:Nat}{es:Array (Int×Af)}{t:Fn}{first:Af}
theorem SetIt.typeIs(x:SetIt s.heap I first i a n ep):s.TypeIs (.ref I) "set_iterator":=let⟨o,e,c,_⟩:=x;⟨o,e,c⟩
theorem SetIt.move{h h':Heap}(x:SetIt h I first i a n ep)(k:∀o,h.get? I=ae o->h'.get? I=ae o):SetIt h' I first i a n ep:=let⟨o,e,r⟩:=x;⟨o,k o e,r⟩
theorem mX{Q:Af->Ai->Prop}(hit:SetIt s.heap I first i a n ep)(h:Q (.ref I) s):A6 (A9 prog w) A (pyIter (.ref I)) Q E s:=wpAny_pyIter_slot hit.typeIs wO (B8 wO hit.typeIs Ls (Aj ⟨_,rfl,_,_,hit.typeIs,slot_setit_next.lookup,h⟩) (Ja _))
theorem Su{pl:Array Af}{x:Int×Af}{Q:Option Af->Ai->Prop}(hit:SetIt s.heap I (.ref T) i a n ep)(hs:SetTb w s.heap a es ep t)(hn:es.size=n)(hT:s.heap.IsTuple T pl)(hp:pl[i]?=ae (.int j 0))(hx:es[j]?=ae x)
  (hQ:∀h',SetIt h' I (.ref T) (i+1) a n ep->C7 I s.heap h'->Q (ae x.2) {s with heap:=h'}):A6 (A9 prog w) A (pyNext (.ref I)) Q E s:=by
 obtain⟨o,e,h,d⟩:=id hit;obtain⟨m,c,_,b⟩:=hs.obj;obtain⟨k,g,_,l,f⟩:=hT;refine Aa (Em (Bv hit.typeIs slot_setit_next (B8 slot_setit_next hit.typeIs kM ?_ (lF _))));refine Aa (Aj (Aa (F1 e d ?_)));dsimp only;refine Aa (Eh c b hs.fits ?_);rw[a_ (by rw[hn];simp)];refine Aa (Dy g f ?_);simp only[Cq,hp];refine Aa (Aa (Fp c b hs.fits ?_));simp only[bne_self_eq_false,hx];refine Aj (Aa (C8 e d (by simp) (Aj ⟨x.2,rfl,Aj (hQ _ ?_ (Bg ..))⟩)));exact⟨_,By _ e (Dh (B4 d _)),(Es ..).trans h,by
  rw[B4 d];rfl⟩
theorem M6{pl:Array Af}{Q:Option Af->Ai->Prop}(hh:A.handled=af)(hit:SetIt s.heap I (.ref T) i a n ep)(hs:SetTb w s.heap a es ep t)(hn:es.size=n)(hT:s.heap.IsTuple T pl)(hp:pl[i]?=af)
  (hQ:∀h',Heap.ExtBut I s.heap h'->Q af {s with heap:=h'}):A6 (A9 prog w) A (pyNext (.ref I)) Q E s:=by
 obtain⟨h,e,_,k,f⟩:=hT;obtain⟨o,c,j,b⟩:=id hit;obtain⟨l,g,_,d⟩:=hs.obj;refine Aa (Em (Bv hit.typeIs slot_setit_next (B8 slot_setit_next hit.typeIs kM ?_ (lF _))));refine Aa (Aj (Aa (F1 c b ?_)));refine Aa (Eh g d hs.fits ?_);rw[a_ (by rw[hn];simp)];refine Aa (Dy e f ?_);simp only[Cq,hp];refine Aa (C8 c b (by simp) ?_);refine Aa (C8 (By (Obj.mapFields (·.setIfInBounds 0 (D5 0))) c (Dh (B4 b _))) (B4 b (·.setIfInBounds 0 (D5 0))) (by simp) (Aa ?_));refine Aa (B7 (Aa (G9 (by rfl) ?_)) (by size_fits));refine B7 (Aa (wpAny_handled ?_)) (by size_fits)
 first|rw[hh]|rw[hh]
 refine Aa (Aj (wpAny_throw ?_));refine Aa (E7 ⟨_,Ax _ rfl,rfl⟩ isSubtype_stop ?_);exact Aj (hQ _ (((((Bg ..).trans (Bg ..)).extBut).push _).push _))
def lI(w:Bi)(a:A')(ep:Nat)(es:Array (Int×Af)):Array (Int×Af):=pickOrder (w.params.setOrder a ep) es
theorem CQ{Q:Option (Af×Nat)->Ai->Prop}{k:Nat}(hb:cD w=ah)(hs:SetTb w s.heap a es ep t)(h:Q (((lI w a ep es)[i]?).map λe=>(e.2,k)) s):A6 (A9 prog w) A (setNext a k i ep) Q E s:=by
 obtain⟨d,c,_,b⟩:=hs.obj;refine Aa (Fp c b hs.fits (Aa (qo ?_)));rw[hb];simp;refine Aa (Aa (Fp c b hs.fits ?_));refine Aa (qo ?_);rw[hb];refine Aa (wpAny_askSetting (Aj (Aj h)))
theorem Nl{x:Int×Af}{Q:Option Af->Ai->Prop}(hb:cD w=ah)(hit:SetIt s.heap I (.int 0 0) i a n ep)(hs:SetTb w s.heap a es ep t)(hn:es.size=n)(hx:(lI w a ep es)[i]?=ae x)
  (hQ:∀h',SetIt h' I (.int 0 0) (i+1) a n ep->C7 I s.heap h'->Q (ae x.2) {s with heap:=h'}):A6 (A9 prog w) A (pyNext (.ref I)) Q E s:=by
 obtain⟨o,e,h,d⟩:=id hit;obtain⟨j,g,_,f⟩:=hs.obj;refine Aa (Em (Bv hit.typeIs slot_setit_next (B8 slot_setit_next hit.typeIs kM ?_ (lF _))));refine Aa (Aj (Aa (F1 e d ?_)));dsimp only;refine Aa (Eh g f hs.fits ?_);rw[a_ (by rw[hn];simp)];refine Aa (CQ hb hs ?_);simp only[Cq,hx,Option.map_some];refine Aa (C8 e d (by simp) ?_);have c:=By (Obj.mapFields (·.setIfInBounds 0 (D5 ((0:Int).toNat:Nat)))) e (Dh (B4 d _));have b:=B4 d (·.setIfInBounds 0 (D5 ((0:Int).toNat:Nat)));refine Aa (C8 c b (by simp) (Aj ⟨x.2,rfl,Aj (hQ _ ?_ ((Bg ..).trans (Bg ..)))⟩));exact⟨_,By _ c (Dh (B4 b _)),(Es ..).trans ((Es ..).trans h),by
  rw[B4 b];rfl⟩
theorem Nh{Q:Option Af->Ai->Prop}(hh:A.handled=af)(hb:cD w=ah)(hit:SetIt s.heap I (.int 0 0) i a n ep)(hs:SetTb w s.heap a es ep t)(hn:es.size=n)(hx:(lI w a ep es)[i]?=af)
  (hQ:∀h',Heap.ExtBut I s.heap h'->Q af {s with heap:=h'}):A6 (A9 prog w) A (pyNext (.ref I)) Q E s:=by
 obtain⟨o,d,f,e⟩:=id hit;obtain⟨g,c,_,b⟩:=hs.obj;refine Aa (Em (Bv hit.typeIs slot_setit_next (B8 slot_setit_next hit.typeIs kM ?_ (lF _))));refine Aa (Aj (Aa (F1 d e ?_)));dsimp only;refine Aa (Eh c b hs.fits ?_);rw[a_ (by rw[hn];simp)];refine Aa (CQ hb hs ?_);simp only[Cq,hx,Option.map_none];refine Aa (C8 d e (by simp) (Aa ?_));refine Aa (B7 (Aa (G9 (by rfl) ?_)) (by size_fits));refine B7 (Aa (wpAny_handled ?_)) (by size_fits)
 first|rw[hh]|rw[hh]
 refine Aa (Aj (wpAny_throw ?_));refine Aa (E7 ⟨_,Ax _ rfl,rfl⟩ isSubtype_stop ?_);exact Aj (hQ _ (((Bg ..).extBut.push _).push _))
theorem yw{Q:Option (Af×Nat)->Ai->Prop}{k:Nat}(hb:cD w=ai)(h1:es.size<=1)(hs:SetTb w s.heap a es ep t)
  (h:Q (match es[Et t.place k]?,t.place[Et t.place k]? with
   |some (_,x),ae j=>ae (x,j+1)
   |_,_=>af) s):A6 (A9 prog w) A (setNext a k i ep) Q E s:=by
 obtain⟨g,c,_,b⟩:=hs.obj;have e:t.led=ah:=by rw[hs.led,hb];rfl
 refine Aa (Fp c b hs.fits (Aa (qo ?_)));rw[hb];simp;have f:(!t.plain&&decide (es.size > 1))=ai:=by
  have:decide (es.size > 1)=ai:=d_ ⋯;rw[this,Bool.and_false]
 split
 ·rename_i z;have d:(!t.plain&&decide _)=ah:=z;rw[f]at d;cases d
 ·refine Aa (G9 (a:=()) ?_ (Aj h));show(if _=ah then unsupported "set:maker-not-led" else pure ())=pure ();rw[e];rfl
theorem FL{j:Nat}:Et #[j] 0=0/\Et #[j] (j+1)=1:=by
 constructor
 ·simp[Et,SetTable.below.go]
 ·simp[Et,SetTable.below.go]
theorem Nc{x:Int×Af}{Q:Option Af->Ai->Prop}(hb:cD w=ai)(hp:t.place=#[j])(he:es=#[x])(hit:SetIt s.heap I (.int 0 0) 0 a 1 ep)(hs:SetTb w s.heap a es ep t)
  (hQ:∀h',SetIt h' I (.int ((j+1:Nat):Int) 0) 1 a 1 ep->C7 I s.heap h'->Q (ae x.2) {s with heap:=h'}):A6 (A9 prog w) A (pyNext (.ref I)) Q E s:=by
 have i:es.size=1:=by simp_all
 obtain⟨o,f,k,e⟩:=id hit;obtain⟨l,h,_,g⟩:=hs.obj;refine Aa (Em (Bv hit.typeIs slot_setit_next (B8 slot_setit_next hit.typeIs kM ?_ (lF _))));refine Aa (Aj (Aa (F1 f e ?_)));refine Aa (Eh h g hs.fits ?_);rw[a_ (by rw[i];simp)];refine Aa (yw hb ⋯ hs ?_);have m:Et t.place (0:Int).toNat=0:=by rw[hp];rfl
 rw[hp,he];refine Aa (C8 f e (by simp) ?_);have d:=By (Obj.mapFields (·.setIfInBounds 0 (D5 ((j+1:Nat):Int)))) f (Dh (B4 e _));have b:=B4 e (·.setIfInBounds 0 (D5 ((j+1:Nat):Int)));refine Aa (C8 d b (by simp) (Aj ⟨x.2,rfl,Aj (hQ _ ?_ ((Bg ..).trans (Bg ..)))⟩));exact⟨_,By _ d (Dh (B4 b _)),(Es ..).trans ((Es ..).trans k),by
  rw[B4 b];rfl⟩
theorem xO{k:Nat}{Q:Option Af->Ai->Prop}(hh:A.handled=af)(hb:cD w=ai)(h1:es.size<=1)(hk:es[Et t.place k]?=af)(hit:SetIt s.heap I (.int (k:Int) 0) i a n ep)(hs:SetTb w s.heap a es ep t)(hn:es.size=n)
  (hQ:∀h',Heap.ExtBut I s.heap h'->Q af {s with heap:=h'}):A6 (A9 prog w) A (pyNext (.ref I)) Q E s:=by
 obtain⟨o,d,f,e⟩:=id hit;obtain⟨g,c,_,b⟩:=hs.obj;refine Aa (Em (Bv hit.typeIs slot_setit_next (B8 slot_setit_next hit.typeIs kM ?_ (lF _))));refine Aa (Aj (Aa (F1 d e ?_)));dsimp only;refine Aa (Eh c b hs.fits ?_);rw[a_ (by rw[hn];simp)];refine Aa (yw hb h1 hs ?_);rw[Cq,hk];refine Aa (C8 d e (by simp) (Aa ?_));refine Aa (B7 (Aa (G9 (by rfl) ?_)) (by size_fits));refine B7 (Aa (wpAny_handled ?_)) (by size_fits)
 first|rw[hh]|rw[hh]
 refine Aa (Aj (wpAny_throw ?_));refine Aa (E7 ⟨_,Ax _ rfl,rfl⟩ isSubtype_stop ?_);exact Aj (hQ _ (((Bg ..).extBut.push _).push _))
end
section
variable{prog:A3}{w:Bi}{A:Bq}{E:Af->Ai->Prop}{s:Ai}{a:A'}{ep:Nat}{es:Array (Int×Af)}{t:Fn}
def jz(vs:List (Int×Af))(i:Nat)(v:Af):Prop:=∃e,vs[i]?=ae e/\v=e.2
structure SetWk(prog:A3)(w:Bi)(sz:Nat)(h':Heap)(a I:A')(vs:List (Int×Af)):Prop where
 above:sz<=I
 walk:∃(fp:List A')(St:Nat->Heap->Prop),(∀b∈fp,b=a\/sz<=b)/\(∀b∈fp,b < h'.objs.size)/\(∀A:Bq,A.handled=af->Walks prog w A I fp [I] vs.length (jz vs) St)/\St 0 h'
theorem LH{α:Type}{xs:Array α}{j:Nat}{d:α}(h:j < xs.size):xs[j]?=ae (xs.getD j d):=by
 simp[h]
theorem Na{ys:List Nat}{n:Nat}(hp:ys.Perm (Be n))(hn:es.size=n):(ys.map λj=>es.getD j (0,B9)).Perm es.toList:=by
 have b:=hp.map λj=>es.getD j ((0:Int),B9);have a:(Be n).map (λj=>es.getD j ((0:Int),B9))=es.toList:=by
  apply Fs (by simp[hn]);intro i b a;simp at a;simp[a]
 rw[a]at b;omega
theorem FW{I T:A'}{ys:List Nat}{n:Nat}(hne:a≠I)(hTI:T≠I)(hp:ys.Perm (Be n))(hn:es.size=n)(A:Bq)(hh:A.handled=af):
  Walks prog w A I [I,a,T] [I] (ys.map λj=>es.getD j (0,B9)).length (jz (ys.map λj=>es.getD j (0,B9)))
   (λi h=>SetIt h I (.ref T) i a n ep/\SetTb w h a es ep t/\h.IsTuple T (ys.map λ(j:Nat)=>Value.int (j:Int) 0).toArray) where
 sub:=λb g=>by simp at g;simp[g]
 frame:=λ_ _ _ c p=>⟨c.1.move λo e=>p I (by simp) o e,c.2.1.move λo e=>p a (by simp) o e,let⟨o,e,r⟩:=c.2.2;⟨o,p T (by simp) o e,r⟩⟩
 item:=λi s Q E m c k=>by
  rw[Ab]at m;have u:ys[i] < es.size:=by rw[hn];exact Cn.mp (hp.mem_iff.mp (C5 m))
  refine Su c.1 c.2.1 hn c.2.2 (by simp[m]) (LH (d:=(0,B9)) u) λh' l f=>k _ h' s.toks ⟨_,by rw[Am,Ah m];rfl,rfl⟩ ⟨l,c.2.1.move λo e=>(f.2 a hne).trans e,let⟨o,e,r⟩:=c.2.2;⟨o,(f.2 T hTI).trans e,r⟩⟩ λb o g e=>f.extBut b o (λh=>g (by simp[h])) e
 done:=λs Q E c k=>M6 hh c.1 c.2.1 hn c.2.2 (by simp) λh' q=>k h' s.toks λb o g e=>q b o (λh=>g (by simp[h])) e
 self:=λ_ _ _ _ c k=>mX c.1 k
theorem Qo{I:A'}{n:Nat}(hb:cD w=ah)(hne:a≠I)(hn:es.size=n)(A:Bq)(hh:A.handled=af):
  Walks prog w A I [I,a] [I] (lI w a ep es).toList.length (jz (lI w a ep es).toList) (λi h=>SetIt h I (.int 0 0) i a n ep/\SetTb w h a es ep t) where
 sub:=λb hb=>by simp at hb;simp[hb]
 frame:=λ_ _ _ c k=>⟨c.1.move λo e=>k I (by simp) o e,c.2.move λo e=>k a (by simp) o e⟩
 item:=λi s Q E l c d=>by
  have m:=Cg l;exact Nl hb c.1 c.2 hn m λh' f g=>d _ h' s.toks ⟨_,by rw[Bx];trivial⟩ ⟨f,c.2.move λo e=>(g.2 a hne).trans e⟩ λb o hb e=>g.extBut b o (λh=>hb (by simp[h])) e
 done:=λs Q E c d=>Nh hh hb c.1 c.2 hn (by simp) λh' j=>d h' s.toks λb o hb e=>j b o (λh=>hb (by simp[h])) e
 self:=λ_ _ _ _ c d=>mX c.1 d
theorem HC{I:A'}(hb:cD w=ai)(hn:es.size=0)(A:Bq)(hh:A.handled=af):
  Walks prog w A I [I,a] [I] ([]:List (Int×Af)).length (jz []) (λ_ h=>SetIt h I (.int ((0:Nat):Int) 0) 0 a 0 ep/\SetTb w h a es ep t) where
 sub:=λb hb=>by simp at hb;simp[hb]
 frame:=λ_ _ _ c g=>⟨c.1.move λo e=>g I (by simp) o e,c.2.move λo e=>g a (by simp) o e⟩
 item:=λi s Q E k c d=>by simp_all
 done:=λs Q E c d=>xO hh hb ⋯ (by rw[Array.getElem?_eq_none];omega) c.1 c.2 hn λh' f=>d h' s.toks λb o hb e=>f b o (λh=>hb (by simp[h])) e
 self:=λ_ _ _ _ c d=>mX c.1 d
theorem QV{I:A'}{x:Int×Af}{j:Nat}(hb:cD w=ai)(hne:a≠I)(he:es=#[x])(hp:t.place=#[j])(A:Bq)(hh:A.handled=af):
  Walks prog w A I [I,a] [I] [x].length (jz [x]) (λi h=>((i=0/\SetIt h I (.int 0 0) 0 a 1 ep)\/(i=1/\SetIt h I (.int ((j+1:Nat):Int) 0) 1 a 1 ep))/\SetTb w h a es ep t) where
 sub:=λb hb=>by simp at hb;simp[hb]
 frame:=λ_ _ _ c m=>⟨c.1.imp (λz=>⟨z.1,z.2.move λo e=>m I (by simp) o e⟩) (λz=>⟨z.1,z.2.move λo e=>m I (by simp) o e⟩),c.2.move λo e=>m a (by simp) o e⟩
 item:=λi s Q E r c g=>by
  have n:i=0:=by simp_all
  subst n;rcases c.1 with⟨_,z⟩|⟨z,_⟩
  ·exact Nc hb hp he z c.2 λh' k l=>g _ h' s.toks ⟨x,rfl,rfl⟩ ⟨.inr ⟨rfl,k⟩,c.2.move λo e=>(l.2 a hne).trans e⟩ λb o hb e=>l.extBut b o (λh=>hb (by simp[h])) e
  ·cases z
 done:=λs Q E c g=>by
  rcases c.1 with⟨z,_⟩|⟨_,z⟩
  ·cases z
  ·refine xO hh hb (by simp_all) ?_ z c.2 (by simp_all) λh' p=>g h' s.toks λb o hb e=>p b o (λh=>hb (by simp[h])) e;rw[hp,FL.2,he];rfl
 self:=λi s Q E c g=>by
  rcases c.1 with⟨_,z⟩|⟨_,z⟩
  ·exact mX z g
  ·exact mX z g
theorem Qj{Q:Af->Ai->Prop}(hs:SetTb w s.heap a es ep t)(h64:es.size < 64)
  (h:∀(h':Heap)(dr:Drawn)(I:A')(vs:List (Int×Af)),vs.Perm es.toList->(∀b o,s.heap.get? b=ae o->h'.get? b=ae o)->SetWk prog w s.heap.objs.size h' a I vs->Q (.ref I) {s with heap:=h',drawn:=dr}):
  A6 (A9 prog w) A (pyIter (.ref a)) Q E s:=by
 obtain⟨W,g,O,f⟩:=hs.obj;have k:=hs.lt;refine wpAny_pyIter_slot hs.typeIs F.slot_set_iter (B8 F.slot_set_iter hs.typeIs MU (Aa (Aj ?_)) (F.args_set_iter_1 _));refine Aa (Aa (Eh g f hs.fits (Aj (Aa ?_))));refine Aa (Fp g f hs.fits (Aa (qo ?_)));refine Aj ?_
 split
 ·rename_i J;refine Aa (vX es.size _ s (by simp) λys dr B=>?_);have R:ys.length=es.size:=by rw[B.length_eq,D9]
  refine Aa (wpAny_newTuple ?_ (by rw[Ab,Ew];omega));refine Aa (wpAny_setEpoch_of (Ae ({cls:=.type "tuple",data:=.seq (ys.map λ(i:Nat)=>D5 i).toArray}:Obj) g) f hs.fits (Aa (B7 (Aj ⟨_,rfl,_,_,⟨_,Ax _ rfl,rfl⟩,slot_setit_next.lookup,?_⟩))));have M:(s.heap.push _).get? s.heap.objs.size=ae {cls:=.type "tuple",data:=.seq (ys.map λ(i:Nat)=>D5 i).toArray}:=Ax _ rfl;refine h _ dr _ _ (Na B rfl) (λb o e=>Ae _ (Ae _ e)) ⟨by rw[Co];exact Nat.le_succ _,_,_,λb c=>?_,λb c=>?_,λA q=>FW (by rw[Co];exact Bf (Ea k)) (by simp) B rfl A q,⟨⟨_,Ax _ rfl,rfl,rfl⟩,hs.move λo e=>Ae _ (Ae _ e),⟨_,Ae _ M,rfl,_,rfl⟩⟩⟩
  ·simp only[Av,Bc,h_]at c;rcases c with rfl|rfl|rfl
   ·rw[Co];simp
   ·exact .inl rfl
   ·exact .inr (Al _)
  ·simp only[Av,Bc,h_]at c;rw[Co,Co];rcases c with rfl|rfl|rfl
   ·rw[Co];simp
   ·exact Ea (Ea k)
   ·exact Ea (Nat.lt_succ_self _)
 ·rename_i J;refine Aa (Aj (Aa (wpAny_setEpoch_of g f hs.fits ?_)));refine Aa (B7 (Aj ⟨_,rfl,_,_,⟨_,Ax _ rfl,rfl⟩,slot_setit_next.lookup,?_⟩));have n:SetIt (s.heap.push {cls:=.type "set_iterator",data:=.fields #[D5 0,D5 0,.ref a,D5 es.size,D5 ep]}) s.heap.objs.size (.int 0 0) 0 a es.size ep:=⟨_,Ax _ rfl,rfl,rfl⟩;have p:SetTb w (s.heap.push {cls:=.type "set_iterator",data:=.fields #[D5 0,D5 0,.ref a,D5 es.size,D5 ep]}) a es ep t:=hs.move λo e=>Ae _ e;have v:∀b o,s.heap.get? b=ae o->(s.heap.push {cls:=.type "set_iterator",data:=.fields #[D5 0,D5 0,.ref a,D5 es.size,D5 ep]}).get? b=ae o:=λb o e=>Ae _ e;have C:∀b∈[s.heap.objs.size,a],b=a\/s.heap.objs.size<=b:=λb c=>by
   simp only[Av,Bc,h_]at c;rcases c with rfl|rfl
   ·exact .inr (Al _)
   ·exact .inl rfl
  have z:∀b∈[s.heap.objs.size,a],b < (s.heap.push {cls:=.type "set_iterator",data:=.fields #[D5 0,D5 0,.ref a,D5 es.size,D5 ep]}).objs.size:=λb c=>by
   simp only[Av,Bc,h_]at c;rw[Co];rcases c with rfl|rfl
   ·exact Nat.lt_succ_self _
   ·exact Ea k
  have u:=Bf k;cases c:cD w with
  |true=>exact h _ s.drawn _ (lI w a ep es).toList (Km _ _) v ⟨Al _,_,_,C,z,λA q=>Qo c u rfl A q,⟨n,p⟩⟩
  |false=>
   have H:¬((!cD w&&(!t.plain&&decide _))=ah):=J;have m:(!cD w&&(!t.plain&&decide (es.size > 1)))=ai:=by simpa using H
   have V:es.size<=1:=by
    rw[c]at m;by_cases T:es.size<=1
    ·exact T
    ·have N:decide (es.size > 1)=ah:=c_ ⋯;rw[N]at m;have D:=by simpa using m
     have:=hs.plain D;omega
   by_cases K:es.size=0
   ·have S:=G2 ⋯;refine h _ s.drawn _ [] (by rw[S]) v ⟨Al _,_,_,C,z,λA q=>HC c K A q,⟨?_,p⟩⟩;rw[K]at n ⊢;omega
   ·have y:es.size=1:=by omega
    obtain⟨x,r⟩:∃x,es=#[x]:=by
     have:=by omega
     obtain⟨x,r⟩:=List.length_eq_one_iff.mp this;exact⟨x,Gt.mp r⟩
    have U:t.place.size=1:=by
     have:=hs.fits;simp only[SetTable.fits,beq_iff_eq]at this;simp_all
    obtain⟨j,P⟩:∃j,t.place=#[j]:=by
     have:=by omega
     obtain⟨x,r⟩:=List.length_eq_one_iff.mp this;exact⟨x,Gt.mp r⟩
    refine h _ s.drawn _ [x] (by rw[r]) v ⟨Al _,_,_,C,z,λA q=>QV c u r P A q,⟨.inl ⟨rfl,?_⟩,p⟩⟩;rw[y]at n ⊢;omega
end
theorem Ny:entryFor table "proto.collect"=ae Ep.«proto.collect»:=G4 (by kernel_rfl)
theorem NS:entryFor table "list.__iadd__"=ae Ep.«list.__iadd__»:=G4 (by kernel_rfl)
section
variable{prog:A3}{w:Bi}{A:Bq}{E:Af->Ai->Prop}{s:Ai}{a:A'}{ep:Nat}{es:Array (Int×Af)}{t:Fn}
theorem EX{Q:Bool->Ai->Prop}(hT:s.TypeIs (.ref a) "set")(h:Q ai s):A6 (A9 prog w) A (Builtin.List.listLengthHint (.ref a)) Q E s:=by
 unfold Builtin.List.listLengthHint;refine Aa (wpAny_specialOf hT F.slot_set_len.lookup ?_);generalize hid:("set.__len__":String)=id0
 wp_delta
 rw[show splitId id0=ae ("set","__len__")from by subst hid;decide +kernel];subst hid;refine Aa (E7 (T:="set") (b:=ah) hT (by rw[F2];kernel_rfl) ?_);refine wpAny_ite_split (λhab=>g_ hab ∎) (λ_=>?_);refine wpAny_ite_split (λ_=>?_) (λhab=>g_ ∅ hab);refine Aa (Gx hT ?_);exact Aj h
theorem NW{R:Result->Ai->Prop}(hh:A.handled=af)(hs:SetTb w s.heap a es ep t)(h64:es.size < 64)(S:A')(hSa:S≠a)(res:Af)(hS:s.heap.get? S=ae {cls:=.type "list",data:=.seq #[]})
  (hR:∀h' tk dr (vs:List (Int×Af)) j_ c,vs.Perm es.toList->(∀b o,b≠S->s.heap.get? b=ae o->h'.get? b=ae o)->h'.get? S=ae {cls:=.type "list",dict:=af,data:=.seq j_ c,slots:=#[]}->ItemsOf (jz vs) j_ vs.length->R (.ok (.ret res)) {s with heap:=h',toks:=tk,drawn:=dr}):
  A6 (A9 prog w) A.in1 (Builtin.List.listExtendWith (.ref S) (.ref a) res)
   (λfin s'=>match fin with|.done f=>R (.ok f) s'|.again c'=>c'.quiet=ah/\codeAny (A9 prog w) A c' R s') (λe s'=>R (.error e) s') s:=by
 refine Aa (Gx hs.typeIs ?_);have P:Builtin.List.listSameRef (.ref S) (.ref a)=ai:=by simp[Builtin.List.listSameRef,hSa]
 have U:(Er "set"==Er "list")=ai:=by decide
 have X:(Er "set"==Er "tuple")=ai:=by decide
 simp only[P,if_false];refine Aa (Qj hs h64 λh' dr I vs L x Q=>?_);obtain⟨N,V,St,H,T,W,M⟩:=Q;have v:=λhm=>(H S hm).elim hSa λz=>Fg _ (Bp (Aw hS) z);have k:=x S _ hS;have K:vs.length=es.size:=by rw[L.length_eq,Bo]
 have m:∀h J tk,St 0 h->(∀b o,b≠S->s.heap.get? b=ae o->h.get? b=ae o)->
   h.get? S=ae {cls:=.type "list",data:=.seq #[] J}->codeAny (A9 prog w) A (.builtin "list.extend.loop" ⟨[.ref S,.ref I,res],[]⟩) R {s with heap:=h,toks:=tk,drawn:=dr}:=by
  intro h J tk G D B;refine codeAny_extend_loopS (W A.in1 hh).toS (by rw[Ew];omega) S v res vs.length 0 _ #[] J rfl (A1 _) G B (ItemsOf.nil _) λs' q c' hm E n=>?_;rw[Moved.eq_with hm];refine hR s'.heap s'.toks dr vs q c' L (λb o l e=>hm.heap b o (λhmem=>?_) (D b o l e)) E n;rcases Av.mp hmem with O|hmem
  ·exact l O
  ·exact g_ (Aw e) (by rw[(Bm.mp hmem)];exact Nat.not_lt.mpr N)
 refine Aa (Cc (EX (hs.move λo e=>x a o e).typeIs (wpAny_ite_split (λ_=>?_) (λ_=>Aj ⟨Gb PySem.F.plain_extend_loop _,m _ 0 _ M (λb o _ e=>x b o e) k⟩))));refine Aa (Fh (Aa ?_));refine Aa (wpAny_updateSeq k rfl ?_);have p:=By (Dr (·.push B9)) k rfl;refine wpAny_updateSeq p rfl ?_;refine Aj ⟨Gb PySem.F.plain_extend_loop _,m _ _ _ ?_ (λb o l e=>?_) (By (Dr (·.pop)) p rfl)⟩
 ·refine(W A hh).frame 0 _ _ M λb l o e=>?_;have r:b≠S:=λh=>v (h▸l);exact(C6 _ _ (Ne.symm r)).trans ((C6 _ _ (Ne.symm r)).trans e)
 ·exact(C6 _ _ (Ne.symm l)).trans ((C6 _ _ (Ne.symm l)).trans (x b o e))
theorem wX{vs:List (Int×Af)}{j_:Array Af}(h:ItemsOf (jz vs) j_ vs.length):j_.toList=vs.map (·.2):=by
 apply List.ext_getElem?;intro i;by_cases d:i < vs.length
 ·have a:i < j_.size:=by rw[h.1];exact d
  obtain⟨e,c,b⟩:=h.2 i j_[i] (Cg a);rw[Am,c,Bx,Cg a,b];rfl
 ·rw[Cf (by rw[Bo,h.1];omega),Cf (by rw[Ab];omega)]
theorem Jj{R:List Af->Ai->Prop}(hh:A.handled=af)(hs:SetTb w s.heap a es ep t)(h64:es.size < 64)
  (h:∀(h':Heap)(tk:Nat)(dr:Drawn)(vs:List (Int×Af)),vs.Perm es.toList->(∀b o,s.heap.get? b=ae o->h'.get? b=ae o)->R (vs.map (·.2)) {s with heap:=h',toks:=tk,drawn:=dr}):
  A6 (A9 prog w) A (collect (.ref a)) R E s:=by
 refine Aa (wpAny_runValue (Eu Ny (Aa (B7 ?_))));refine Aj ⟨Gb PySem.F.plain_list_iadd _,Eu NS ?_⟩;have n:(s.heap.push {cls:=.type "list",data:=.seq ([]:List Af).toArray}).get? s.heap.objs.size=ae {cls:=.type "list",data:=.seq #[]}:=Ax _ rfl;have m:=NW (prog:=prog) (s:={ s with heap:=s.heap.push {cls:=.type "list",data:=.seq ([]:List Af).toArray}})
  (R:=λq r=>∃(h':Heap)(tk:Nat)(dr:Drawn)(vs:List _)(d:Array Af)(l:Nat),q=.ok _/\r={ s with heap:=h',toks:=tk,drawn:=dr}/\vs.Perm es.toList /\
   (∀b o,s.heap.get? b=ae o->h'.get? b=ae o)/\h'.get? s.heap.objs.size=ae {cls:=.type "list",dict:=af,data:=.seq d l,slots:=#[]}/\ItemsOf (jz vs) d vs.length)
  hh (hs.move λo e=>Ae _ e) h64 s.heap.objs.size (Fw hs.lt) (.ref s.heap.objs.size) n
  (λh' tk dr vs d l k j g c=>⟨h',tk,dr,vs,_,l,rfl,rfl,k,λb o e=>j b o (Bf (Aw e)) (Ae _ e),g,c⟩)
 refine C9 m (λfin r x=>?_) λe r x=>?_
 ·cases fin with
  |done f=>
   obtain⟨h',tk,dr,vs,d,l,e,rfl,k,j,g,c⟩:=x;cases e;refine Aa (wpAny_load g (Aj ?_));rw[wX c];exact h h' tk dr vs k j
  |again C=>
   refine⟨x.1,codeAny_mono x.2 λq B y=>?_⟩;obtain⟨h',tk,dr,vs,d,l,rfl,rfl,k,j,g,c⟩:=y;refine Aa (wpAny_load g (Aj ?_));rw[wX c];exact h h' tk dr vs k j
 ·obtain⟨_,_,_,_,_,_,z,_⟩:=x;cases z
end
def df(w:Bi):Obj:={ cls:=.type "set",dict:=af,data:=.set #[] 0 (.fresh 0 0 (!cD w))}
section
variable{prog:A3}{w:Bi}{A:Bq}{E:Af->Ai->Prop}{s:Ai}
theorem OF{h:Heap}{a:A'}(e:h.get? a=ae (df w)):gu w h a []:=
 ⟨#[],0,_,⟨⟨_,e,⟨rfl,rfl,rfl⟩,rfl⟩,rfl,rfl,λ_=>rfl⟩,λe b=>by simp at b,List.Pairwise.nil,λk=>by simp[ck],Al _⟩
theorem JN(a:Af){Q₁:Af->Ai->Prop}(h:Q₁ (.ref s.heap.objs.size) {s with heap:=s.heap.push (df w)}):
  codeAny (A9 prog w) A (.call (.builtin "set.__new__") ⟨[.type "set",a],[]⟩) (wants Q₁ E) s:=by
 refine codeAny_of_tree (Aa (G9 (F.newCall_set_1 a) (Aj ⟨Gb F.plain_set_new _,Eu F.entry_set_new ?_⟩)));unfold Ep.«set.__new__» Builtin.Frozenset.newClass;have b:=sub_set_self;dsimp only
 wp_walk
 exact wpAny_askSetting (Aj (Aa (wpAny_alloc (Aj (Aj h)))))
structure TxSrc(prog:A3)(w:Bi)(T:String)(x:A')(ks:List Str)(OK:Heap->Prop):Prop where
 type:∀s:Ai,OK s.heap->s.TypeIs (.ref x) T
 there:∀h:Heap,OK h->x < h.objs.size
 keep:∀h h':Heap,OK h->(∀o,h.get? x=ae o->h'.get? x=ae o)->OK h'
 notSet:isSubtype (.type T) (.type "set")=pure ai
 notFrozen:isSubtype (.type T) (.type "frozenset")=pure ai
 notDict:(Er T==Er "dict")=ai
 iter:∀s:Ai,OK s.heap->∃(oI:Obj)(St:Nat->Heap->Prop),
  (∀(A:Bq)(E:Af->Ai->Prop)(Q:Af->Ai->Prop),Q (.ref s.heap.objs.size) {s with heap:=s.heap.push oI}->A6 (A9 prog w) A (pyIter (.ref x)) Q E s) /\
  (∀A:Bq,A.handled=af->Walks prog w A s.heap.objs.size [s.heap.objs.size,x] [s.heap.objs.size] ks.length (gn ks) St)/\St 0 (s.heap.push oI)
set_option maxHeartbeats 3200000 in
theorem zg{T:String}{x:A'}{ks:List Str}{OK:Heap->Prop}{Q:Af->Ai->Prop}(K:TxSrc prog w T x ks OK)(hh:A.handled=af)(hok:OK s.heap)(h64:ks.length < 64)
  (h:∀(h':Heap)(tk:Nat),gu w h' s.heap.objs.size ks->(∀b o,b < s.heap.objs.size->s.heap.get? b=ae o->h'.get? b=ae o)->Q (.ref s.heap.objs.size) {s with heap:=h',toks:=tk}):
  A6 (A9 prog w) A (call (.type "set") [.ref x]) Q E s:=by
 obtain⟨c,tl,hmro⟩:=F.called_set.mro;have hmade:=F.called_set.made;have hsub:=F.called_set.sub;refine wpAny_call (codeAny_of_tree ?_);show A6 _ _ (callAny (.type "set") _) _ _ _;refine Aj ⟨Code.quiet_builtin _ ∅,Eu F.entry_type_call ?_⟩;rw[Around.under_plain (weight_type_call_type "set" [.ref x] []) rfl];have h1:=F.called_set.notType;have h2:=F.called_set.canCreate;have hct:=F.typeCall_set_1 (.ref x)
 repeat (any_goals (first|assumption|wp_step))
 refine codeAny_mono (JN (.ref x) (E:=E) (Q₁:=λobj s_=>obj=.ref s.heap.objs.size/\s_={ s with heap:=s.heap.push (df w)}) ⟨rfl,rfl⟩) λr s_ hr=>?_;cases r with
 |error e=>exact hr
 |ok fl=>
  cases fl with
  |ret obj=>
   obtain⟨rfl,rfl⟩:=hr;have hS:(s.heap.push (df w)).get? s.heap.objs.size=ae (df w):=Ax _ rfl;have hT:Shared.TypeIs {s with heap:=s.heap.push (df w)} (.ref s.heap.objs.size) "set":=⟨_,hS,rfl⟩;have hli:=F.called_set.init.lookup;have hbi:=F.called_set.init.bind (.ref s.heap.objs.size)
   repeat (any_goals (first|assumption|wp_step))
   refine codeAny_mono (codeAny_call_builtin (R:=wants (λr t_=>r=.none/\∃h' tk,t_={ s with heap:=h',toks:=tk}/\gu w h' s.heap.objs.size ks /\
     (∀b o,b < s.heap.objs.size->s.heap.get? b=ae o->h'.get? b=ae o)) E) F.called_set.init.plain F.entry_set_init (check_set_init_1 hT ?_)) λA_ t_ hr₂=>?_
   ·have hok1:OK (s.heap.push (df w)):=K.keep _ _ hok λo e=>Ae _ e;have hTx:Shared.TypeIs {s with heap:=s.heap.push (df w)} (.ref x) T:=K.type {s with heap:=s.heap.push (df w)} hok1;have hsls:=K.notSet;have hslf:=K.notFrozen;have hne:=K.notDict;unfold Ep.«set.__init__» noKeywords Builtin.Frozenset.updateFrom;generalize hPI:pyIter=PI
    wp_walk
    subst hPI;have hh3:A.in1.in1.in1.handled=af:=by simp[hh]
    obtain⟨oI,St,hit,W,st⟩:=K.iter {s with heap:=s.heap.push (df w)} hok1;refine hit _ _ _ ?_;refine Aa (wpAny_runValue ?_);have hxS:x < s.heap.objs.size:=K.there _ hok;have hSf:s.heap.objs.size∉[(s.heap.push (df w)).objs.size,x]:=by
     rw[Co];simp only[Av,Bm,Bc,h_,not_or];exact⟨Bf (Nat.lt_succ_self _),Fw hxS⟩
    refine Mu (W _ hh3).toS s.heap.objs.size hSf rfl h64 (ks.length-0) 0 _ ⋯ (A1 _) st (OF (Ae _ hS)) ?_;intro s' hm hS';obtain⟨h',g',d',tk',os'⟩:=s';have eg:g'=s.gens:=hm.gens;have ed:d'=s.drawn:=hm.drawn;have eo:os'=s.os:=hm.os;subst eg;subst ed;subst eo;show A6 _ _ _ _ _ _;refine Aj ?_;show A6 _ _ (ret B9) _ _ _;refine Aj ⟨rfl,h',tk',rfl,hS',λb o hb e=>?_⟩;have hb1:b≠s.heap.objs.size:=Bf hb;have hb2:b≠(s.heap.push (df w)).objs.size:=by
     rw[Co];exact Bf (Ea hb)
    exact hm.heap b o (by simp only[Av,Bm,Bc,h_,not_or];exact⟨hb1,hb2⟩) (Ae _ (Ae _ e))
   ·cases A_ with
    |error e=>exact hr₂
    |ok fl₂=>
     cases fl₂ with
     |ret r=>
      obtain⟨rfl,h',tk,rfl,hS',hk'⟩:=hr₂
      repeat (any_goals (first|assumption|wp_step))
      exact h _ _ hS' hk'
     |_=>exact hr₂.elim
  |_=>exact hr.elim
theorem JU{x:A'}{ks:List Str}{items:Array Af}(hk:∀i v,items[i]?=ae v->gn ks i v)(hl:items.size=ks.length):TxSrc prog w "list" x ks (λh=>h.IsList x items) where
 type:=λs h=>h.typeIs
 there:=λh hl=>let⟨_,e,_⟩:=hl;Aw e
 keep:=λh h' hl k=>let⟨o,e,r⟩:=hl;⟨o,k o e,r⟩
 notSet:=by rw[F2];kernel_rfl
 notFrozen:=by rw[F2];kernel_rfl
 notDict:=by decide
 iter:=λs hok=>⟨_,(λi h=>h.IsListIter s.heap.objs.size x i/\h.IsList x items),(λA E Q hq=>wpAny_pyIter_list hok hq),(λA hh=>by
  have W:=Walks.list (prog:=prog) (w:=w) hh s.heap.objs.size x (Bf (let⟨_,e,_⟩:=hok;Aw e)) items;refine⟨W.sub,W.frame,λi s Q E hi st hQ=>W.item i s Q E (by rw[hl];exact hi) st λv h' tk hv a b=>hQ v h' tk (hk i v hv) a b,?_,W.self⟩;rw[<-hl];exact W.done),⟨⟨_,Ax _ rfl,rfl,rfl⟩,hok.push _⟩⟩
theorem IC{x:A'}{ks:List Str}{items:Array Af}(hk:∀i v,items[i]?=ae v->gn ks i v)(hl:items.size=ks.length):TxSrc prog w "tuple" x ks (λh=>h.IsTuple x items) where
 type:=λs h=>h.typeIs
 there:=λh hl=>let⟨_,e,_⟩:=hl;Aw e
 keep:=λh h' hl k=>let⟨o,e,r⟩:=hl;⟨o,k o e,r⟩
 notSet:=by rw[F2];kernel_rfl
 notFrozen:=by rw[F2];kernel_rfl
 notDict:=by decide
 iter:=λs hok=>⟨_,(λi h=>h.IsTupleIter s.heap.objs.size x i/\h.IsTuple x items),(λA E Q hq=>D6 hok hq),(λA hh=>by
  have W:=Walks.tuple (prog:=prog) (w:=w) hh s.heap.objs.size x (Bf (let⟨_,e,_⟩:=hok;Aw e)) items;refine⟨W.sub,W.frame,λi s Q E hi st hQ=>W.item i s Q E (by rw[hl];exact hi) st λv h' tk hv a b=>hQ v h' tk (hk i v hv) a b,?_,W.self⟩;rw[<-hl];exact W.done),⟨⟨_,Ax _ rfl,rfl,rfl⟩,hok.push _⟩⟩
end
def gT(w:Bi)(v:A')(ks:List Str):HO:=.ext λh=>gu w h v ks
def tQ(w:Bi):List V->Hp->VK->Prop:=λxs H Q=>∃(a:A')(ks:List Str),xs=[.ref a]/\(H a=ae (.lst (ks.map V.str))\/H a=ae (.tup (ks.map V.str)))/\ks.length < 64/\∀v,H v=af->Q (.ref v) (upd H v (gT w v ks))
theorem BU{ks:List Str}{vs:List Af}(h:Vals (ks.map V.str) vs)(i:Nat)(v:Af)(e:vs.toArray[i]?=ae v):gn ks i v:=by
 have c:vs[i]?=ae v:=by simp_all
 have b:=h.length;rw[Ab]at b;have d:i < ks.length:=by rw[b];exact(Ar.mp c).1
 obtain⟨u,a,f⟩:=h.get (by rw[Am,Ah d];rfl);rw[c]at a;cases a;obtain⟨t,g⟩:=f;exact⟨_,t,Ah d,g⟩
theorem EF{ks:List Str}{vs:List Af}(h:Vals (ks.map V.str) vs):vs.toArray.size=ks.length:=by
 have a:=h.length;rw[Ab]at a;rw[Bb,<-a]
theorem Lp{X:Cx}(hh:X.A.handled=af):CallR X (.type "set") (tQ X.w):=by
 intro i s σ H P O Q I r h;obtain⟨a,C,rfl,j,d,q⟩:=h;obtain⟨u,rfl,L⟩:=eL r;cases(L);have g:∀h' v,gu X.w h' s.heap.objs.size C->(∀b o,b < s.heap.objs.size->s.heap.get? b=ae o->h'.get? b=ae o)->EP X i σ Q _ {s with heap:=h',toks:=v}:=λh' v z F=>by
  have m:∃o,h'.get? s.heap.objs.size=ae o:=by
   obtain⟨x,y,t,T,_⟩:=z;obtain⟨o,e,_⟩:=T.obj;exact⟨o,e⟩
  refine⟨.ref s.heap.objs.size,_,I.laid (o:=gT X.w s.heap.objs.size C) (λb o e=>F b o (Aw e) e) (Al _) ⟨z,m,λh1 N q k=>?_⟩,rfl,q _ (I.hok.fresh (Al _))⟩;obtain⟨x,y,t,T,r⟩:=q;exact⟨x,y,t,T.move λo e=>k _ e,r⟩
 rcases j with j|j
 ·obtain⟨E,J,c,f,D⟩:=I.hok a _ j;exact zg (JU (BU f) (EF f)) hh ⟨_,D,rfl,_,rfl⟩ d g
 ·obtain⟨E,J,f,o,G,M,⟨n,K⟩,_⟩:=I.hok a _ j;exact zg (IC (BU f) (EF f)) hh ⟨o,G,M,n,K⟩ d g
theorem Inv.drew{X:Cx}{i_:List (A'×Obj)}{σ:St}{H:Hp}{s:Ai}(I:Inv X i_ σ H s)(dr:Drawn):Inv X i_ σ H {s with drawn:=dr}:=⟨I.ok,I.os,I.bare,I.base,I.loc,I.cell,I.free,I.freeC,I.pin,I.hok,I.len⟩
theorem Lm{X:Cx}{i_:List (A'×Obj)}{σ:St}{H:Hp}{s:Ai}{h':Heap}{tk:Nat}{vs:List Af}{ks:List Str}{Q:VK}(I:Inv X i_ σ H s)(hkp:∀b o,s.heap.get? b=ae o->h'.get? b=ae o)(hT:TxOk vs ks)(h64:ks.length < 64)
  (q:∀(D:A')(ys:List Str),ys.Perm ks->ys.Pairwise (λa b=>¬b.cps.toList < a.cps.toList)->H D=af->Q (.ref D) (upd H D (.lst (ys.map V.str)))):
  vs.length<=Ay/\A6 (A9 X.prog X.w) X.A.in1.in1 (Ep.«list.sort» ⟨[.ref h'.objs.size],[]⟩) (λf s2=>f=.done (.ret .none)/\EP X i_ σ Q (.ref h'.objs.size) s2) X.xe {s with heap:=h'.push (Ck "list" vs.toArray 0),toks:=tk}:=by
 have K:=hT.1;refine⟨by rw[K];exact dD ⋯,?_⟩;have p:(h'.push _).get? h'.objs.size=ae (Ck "list" vs.toArray 0):=Ax _ rfl;have n:∀(idx:List Nat) h3 c,idx.Perm _->(idx.map λi=>ks.getD i _).Pairwise _->
   (∀b o,b≠h'.objs.size->(h'.push (Ck "list" vs.toArray 0)).get? b=ae o->h3.get? b=ae o)->h3.get? h'.objs.size=ae _->EP X i_ σ Q _ {s with heap:=h3,toks:=tk}:=λidx h3 c B hw R S=>by
  have N:Inv X i_ σ H {s with heap:=h',toks:=tk}:=I.kept hkp;have x:=N.hok.fresh (Al _);refine⟨.ref h'.objs.size,_,N.laid (o:=.lst _) (λb o e=>R b o (Bf (Aw e)) (Ae _ e)) (Al _) ⟨?_,_,c,uu hT idx (λi u=>Cn.mp (B.mem_iff.mp u)),S⟩,rfl,q _ _ (DB B) hw x⟩;rw[Ab,Ab,B.length_eq,D9];exact dD ⋯
 by_cases y:2<=vs.length
 ·refine KS.ls_sort p y ⋯ λe1 h4 m J=>kas_kind (T:=Er "str") y (λf W=>?_) rfl rfl ?_
  ·obtain⟨j,v⟩:=B1.mp W;obtain⟨k,t,_,rfl⟩:=hT.2 j f v;exact .now
  ·have x:0 < vs.length:=by omega
   have r:=KS.wi_sort x;refine KS.wp_run (c:=KS.ltK ks) (St:=λs'=>s'={ s with heap:=h4,toks:=tk}) (λi j C s' u v hs hC=>?_) _ _ r rfl λs' G=>?_
   ·subst hs;obtain⟨P,t1,a1,a2⟩:=hT.2 i vs[i] (Ah u);obtain⟨L,t2,b1,Y⟩:=hT.2 j vs[j] (Ah v);unfold kas_ask;have g1:vs.getD i B9=.str P t1:=by simp[u,a2]
    have g2:vs.getD j B9=.str L t2:=by simp[v,Y]
    rw[g1,g2];have U:ks.getD i ⟨#[]⟩=P:=by simp[a1]
    have c2:ks.getD j ⟨#[]⟩=L:=by simp[b1]
    have:=hC _ rfl;unfold KS.ltK at this;rw[U,c2]at this;exact kas_lt_str this
   ·subst G;refine⟨m,λh3 c sb E=>⟨rfl,?_⟩⟩;have l:KS.Pm vs.length (KS.run (KS.ltK ks) _):=KS.Wi.out _ r;have M:=by
     have:=Hd.mp l;omega
    refine n _ h3 c (by simp_all) (ux l.size (KS.sort_ok (KS.ordK ks) x)) (λb o O e=>(sb.2 b O).trans (J b o O e)) E
 ·refine KS.ls_short p ⋯ λh4 c m J=>⟨rfl,?_⟩;have el:vs=(Be ks.length).map λi=>vs.getD i B9:=by
   apply Fs (by simp[K]);intro i Z y;simp[Z]
  have F:h4.get? h'.objs.size=ae (Ck "list" (E6 ((Be ks.length).map λi=>vs.getD i B9)) c):=by rw[<-el];omega
  refine n _ h4 c (List.Perm.refl _) ?_ J F;have:(Be ks.length).length<=1:=by simp;omega
  match hr:Be ks.length,this with
  |[],_=>exact .nil
  |[i],_=>exact D8 _ _
def sY(w:Bi):List V->Hp->VK->Prop:=λxs H Q=>∃(v:A')(ks:List Str),xs=[.ref v]/\H v=ae (gT w v ks)/\ks.length < 64 /\
 ∀(D:A')(ys:List Str),ys.Nodup->(∀k,k∈ys↔k∈ks)->ys.Pairwise (λa b=>¬b.cps.toList < a.cps.toList)->H D=af->Q (.ref D) (upd H D (.lst (ys.map V.str)))
theorem GN{w:Bi}{es vs:List (Int×Af)}(h:∀e∈es,∃k t,e.2=.str k t/\e.1=hashStr w k)(p:vs.Perm es):TxOk (vs.map (·.2)) (vs.map λe=>fM e.2):=by
 refine⟨by rw[Ab,Ab],λj v a=>?_⟩;rw[Am]at a;cases e:vs[j]? with
 |none=>rw[e]at a;cases a
 |some x=>
  rw[e]at a;obtain⟨k,t,b,_⟩:=h x (p.mem_iff.mp (A0 e));refine⟨k,t,?_,(Bw a)▸b⟩;rw[Am,e];show ae (fM x.2)=ae k;rw[b];rfl
theorem FX{X:Cx}(hh:X.A.handled=af):CallR X (.builtin "sorted") (sY X.w):=by
 intro C s σ H Z W Q I r h;obtain⟨v,S,rfl,M,n,q⟩:=h;obtain⟨u,rfl,P⟩:=eL r;cases(P);obtain⟨V,Y,t,T,N,L,K,E⟩:=(I.hok v _ M).1;have a:=Ek E n;refine KS.sorted_of (R:=λvs B=>∃(h':Heap)(i:Nat)(f:Drawn)(g:List Str),B={ s with heap:=h',toks:=i,drawn:=f}/\(∀b o,s.heap.get? b=ae o->h'.get? b=ae o)/\TxOk vs g/\g.Nodup/\(∀k,k∈g↔k∈S)/\g.length < 64)
  (Jj hh T a λh' i f vs d J=>?_) ?_
 ·have z:=List.Perm.map (λe:Int×Af=>fM e.2) d;exact⟨h',i,f,_,rfl,J,GN N d,z.nodup_iff.mpr L,λk=>z.mem_iff.trans (K k),by rw[Ab,d.length_eq];omega⟩
 rintro vs B ⟨h',i,f,g,rfl,p,G,l,m,a⟩
 exact Lm (s:={ s with drawn:=f}) (I.drew f) p G a λD F d O U=>q D F (d.nodup_iff.mpr l) (λk=>d.mem_iff.trans (m k)) O U
end L2
namespace DL
open PySem L2 Nb
section
variable{X:Cx}{o:Expr}{td:TE}{wd':DT}{pos p p2 ip:Pos}{W:Bi}
def ie(ys:List Str):Prop:=ys.Pairwise λa b=>¬b.cps.toList < a.cps.toList
def BD(w:DT):dO:=λδ n Q=>w δ n λx n1=>∃ks:List Str,(x=.d (.list (ks.map .str))\/x=.d (.tuple (ks.map .str)))/\ks.length < 64/\(∀k∈ks,k.length<=1000) /\
 ∀ys:List Str,ys.Nodup->(∀k,k∈ys↔k∈ks)->ie ys->Q (ys.map .str) n1
theorem vK{α:Type}:∀{xs ys:List α},xs.Nodup->(∀x∈xs,x∈ys)->xs.length<=ys.length
 |[],_,_,_=>A1 _
 |x::xs,ys,d,h=>by
  obtain⟨f,c⟩:=Dw.mp d;obtain⟨l,r,e⟩:=List.append_of_mem (h x Ap);have:=vK (ys:=l++r) c λz b=>by
   have a:=h z (Ak _ b);rw[e]at a;rcases A7.mp a with q|q
   ·exact C3 _ q
   ·rcases Av.mp q with q|q
    ·exact g_ (q▸b) f
    ·exact B2 _ q
  rw[e];simp only[Au,An]at this ⊢;omega
theorem oY{H:Hp}{B:A'->Prop}:∀{xs:List V}{ks:List Str},RdXs H B xs (ks.map .str)->xs=ks.map V.str
 |[],[],_=>rfl
 |_::_,[],h=>nomatch h
 |[],_::_,h=>nomatch h
 |x::xs,k::ks,.cons h t=>by
  cases h;rw[oY t];rfl
theorem Hx(hh:X.A.handled=af)(hg:Gl X "sorted")(hm:X.mg "sorted"=af)(hg2:Gl X "set")(hm2:X.mg "set"=af)(ho:DE X o td wd')(hW:X.w=W:=by rfl)(hv:Bz "sorted"=ae (.builtin "sorted"):=by decide +kernel)(hv2:Bz "set"=ae (.type "set"):=by decide +kernel)
  (he2:As [o] X.env=(ai,eval o X.env)::As [] X.env:=by rfl) (hpl2:(Cw ip (As [] X.env)).any (·.1)=ai:=by rfl)
  (he':As [Expr.Call (.Name "set" p2) [o] [] ip] X.env=(ai,eval (Expr.Call (.Name "set" p2) [o] [] ip) X.env)::As [] X.env:=by rfl) (q_:(Cw pos (As [] X.env)).any (·.1)=ai:=by rfl):
  DF X (.Call (.Name "sorted" p) [.Call (.Name "set" p2) [o] [] ip] [] pos) (d3 (sY W) (br (d3 (tQ W) (br td aX)) aX)) (BD wd'):=by
 subst hW;refine⟨gp (FX hh) hg hm hv (b3 (mE (Lp hh) hg2 hm2 hv2 (b3 ho.pe dm he2) ∎ ∎ he2 hpl2) dm he') ∎ ∎ he' q_,λC H B σ δ n Q M R q k=>
  ho.sd C H B σ δ n _ _ R q λv x b L t F E J=>?_⟩
 obtain⟨h,N,f,I,V⟩:=J;have c:∀a:A',v=.ref a->(b a=ae _\/b a=ae _)->d3 (sY X.w) (br (λσ H Q=>tQ X.w [v] H Q) aX) σ b M:=λa ea ha=>by
  subst ea;refine⟨a,h,rfl,ha,f,λu s=>⟨u,h,rfl,a9,f,λD Y z hm O i=>?_⟩⟩;have j:b D=af:=by
   cases e:b D with
   |none=>rfl
   |some T=>
    have:upd b u (gT X.w u h) D=ae T:=by rw[aG (bu e s)];exact e
    rw[i]at this;cases this
  have g:=λy g=>I y ((hm y).mp g);refine k D _ _ _ L ((t.new (o:=gT X.w u h) s).new i) ((F.trans (Kp.new s)).trans (Kp.new i)) (t.was F j) a9 ?_ (m7 g) (V Y z hm O);rw[Ab];have:=vK z λy g=>(hm y).mp g;exact dD ⋯
 rcases N with rfl|rfl
 ·cases(show RdX b B v (.list _)from E)with
  |@lst a P _ r S K l=>exact c a rfl (.inl (by rw[r,oY l]))
 ·cases(show RdX b B v (.tuple _)from E)with
  |@tup a P _ r S K l=>exact c a rfl (.inr (by rw[r,oY l]))
def mf(c:bZ)(W:aF):aF:=λδ n K=>∃I:Nat->Sl->Int->Prop,(∃m,I m δ n)/\∀m δ n,I m δ n->
 c δ n λb n1=>if b=ah then W δ n1 {nx:=λδ n=>∃m',m' < m/\I m' δ n,rt:=K.rt,bk:=K.nx,ct:=λδ n=>∃m',m' < m/\I m' δ n,rn:=K.rn,rx:=K.rx}else K.nx δ n1
theorem Jp{c:Expr}{body:List Stmt}{tc:TT}{tb:TS}{cc:bZ}{V':aF}(hc:DC X c tc cc)(hb:DSs X body tb V')(hp:PassesOwn (A9 X.prog X.w) X.A X.env X.xe:=by exact PassesOwn.never):DS X (.While c body [] pos) (zz tc tb) (mf cc V'):=⟨MN hp hc.pt hb.ps,λC H B σ δ n K D R q E=>by
 obtain⟨I,⟨l,k⟩,a⟩:=q;refine⟨λm σ H=>∃B δ n,Rel C H B σ δ n/\I m δ n,⟨l,B,δ,n,R,k⟩,λm σ H ⟨B,δ,n,R,i⟩=>hc.sd C H B σ δ n _ _ R (a m δ n i) λb h j g p f=>?_⟩;cases b with
 |true=>
  refine⟨λσ' o=>∃d,d < m/\∃B δ n,_,λσ' o z=>z,hb.sd C h B σ δ j _ _ g f ⟨?_,E.rt,?_,?_,E.rn,E.rx⟩⟩
  ·exact λH B σ δ n R ⟨d,e,z⟩=>⟨d,e,B,δ,n,R,z⟩
  ·exact E.nx
  ·exact λH B σ δ n R ⟨d,e,z⟩=>⟨d,e,B,δ,n,R,z⟩
 |false=>
  exact E.nx h B σ δ j g f⟩
variable{a:Expr}{ta:TE}{wa:DT}{K:Ag}
end
section
variable{X:Cx}{a b c e o i f:Expr}{ta tb te td ty tx:TE}{wa wb we wd' wy wx:DT}{pos p:Pos}{K:Ag}
def cn(i:Nat):DT:=λδ n Q=>match δ[i]? with
 |some (ae (.own ds))=>Q (.ln ds) n
 |some (ae (.w x))=>Q x n
 |_=>False
theorem RN(i:Nat){x:Str}{p:Pos}(hN:X.N[i]?=ae x:=by rfl)(hv:dU X.env.scope x:=by first|exact Ci rfl|exact B5 (Ci rfl)|exact B5 (B5 rfl))(hd:(x==("__debug__":Str))=ai:=by decide)
  (r_:(x==("__classdict__":Str))=ai:=by decide):DE X (.Name x p) (aI i) (cn i):=⟨eY hN hv hd r_,λC H B σ δ n Q o R h k=>by
 unfold cn at h
 split at h
 ·rename_i l e;obtain⟨v,b,a,f,rfl,j,q,g,m,d⟩:=R.sl i _ e;exact⟨_,b,k _ (.ln l) H n R (Kp.refl _ _) ⟨a,f,rfl,j,λz=>R.t0 (z▸g),m,d⟩ h⟩
 ·rename_i x e;obtain⟨v,b,c⟩:=R.sl i _ e;exact⟨v,b,k v x H n R (Kp.refl _ _) c.1 h⟩
 ·exact h.elim⟩
def aR:Wv->Wv->Int->DQ->Prop:=λx y n Q=>match x with
 |.ln ds=>match y with
  |.d (.int i)=>match cx ds i with
   |some d=>Q (.d d) n
   |none=>False
  |_=>False
 |x=>aw x y n Q
theorem Sv:a8 (jC K) aR:=λC H B σ δ n x y p q Q f R b c a k=>by
 cases p with
 |ln t=>
  unfold aR at a;simp_all
  split at a
  ·rename_i i
   split at a
   ·rename_i d e;cases(show RdX H B y (.int i)from c);obtain⟨g,o,rfl,r,w,u,j⟩:=b;obtain⟨v,l,h⟩:=qQ j e;exact .inl ⟨g,o,i,v,rfl,rfl,SqL.of r,l,k _ _ H n R (Kp.refl _ _) (wd h) a⟩
   ·exact a.elim
  ·exact a.elim
 |d _=>exact lN C H B σ δ n x y _ q Q f R b c a k
 |tp=>exact lN C H B σ δ n x y _ q Q f R b c a k
 |dk _=>exact lN C H B σ δ n x y _ q Q f R b c a k
 |dx _=>exact lN C H B σ δ n x y _ q Q f R b c a k
 |ob _=>exact lN C H B σ δ n x y _ q Q f R b c a k
theorem LW(ha:DE X a ta wa)(hb:DE X b tb wb)(hK:X.K=K:=by rfl)(hs:oP b:=by exact λ_ _=>rfl):DE X (.Subscript a b pos) (cY (jC K) ta tb) (w2 wa wb aR):=by
 subst hK;exact⟨f7 rS ha.pe hb.pe hs,mq Sv ha.sd hb.sd⟩
def dZ(neg:Bool):Wv->Wv->Int->DQ->Prop:=λx y n Q=>match y with
 |.ln ds=>match x with
  |.d a=>eG a=ah/\ds.all eG=ah/\Q (.d (.bool (if neg then !cC a ds else cC a ds))) n
  |_=>False
 |y=>gi neg x y n Q
theorem Qt{neg:Bool}:a8 (gc K neg) (dZ neg):=λC H B σ δ n x y p q Q e R b c a k=>by
 cases q with
 |ln o=>
  unfold dZ at a;dsimp only at a
  split at a
  ·rename_i z;obtain⟨i,h,q⟩:=a;obtain⟨g,j,rfl,l,s,r,f⟩:=c;refine⟨g,j,rfl,.inl (SqL.of l),jN b i,jt f h,?_⟩;rw[j3 b f];exact k _ _ H n R (Kp.refl _ _) (wd (.bl _)) q
  ·exact a.elim
 |d _=>exact j1 C H B σ δ n x y p _ Q e R b c a k
 |tp=>exact j1 C H B σ δ n x y p _ Q e R b c a k
 |dk _=>exact j1 C H B σ δ n x y p _ Q e R b c a k
 |dx _=>exact j1 C H B σ δ n x y p _ Q e R b c a k
 |ob _=>exact j1 C H B σ δ n x y p _ Q e R b c a k
def dJ:List Wv->Int->DQ->Prop:=λxs n Q=>match xs with
 |[.ln ds]=>Q (.d (.int ds.length)) n
 |xs=>bH xs n Q
theorem OC:cX (sP K) dJ:=λC H B σ δ n c d Q e R r h k=>by
 unfold dJ at h
 split at h
 ·rename_i l;cases r with
  |cons f g=>
   cases g;obtain⟨a,i,rfl,j,o,m,b⟩:=f;refine .inr ⟨a,i,rfl,.inl (SqL.of j),?_⟩;rw[b.len];exact k _ _ H n R (Kp.refl _ _) (wd (.int _)) h
 ·exact sk C H B σ δ n c d Q e R r h k
def bC:Wv->Wv->Int->DQ->Prop:=λx y n Q=>match x,y with
 |.ln ds,.d (.list [])=>Q (.d (.bool ds.isEmpty)) n
 |x,y=>bf x y n Q
theorem Oy:a8 (j4 K) bC:=λC H B σ δ n x y p q Q j R b c a k=>by
 unfold bC at a
 split at a
 ·rename_i g;obtain⟨e,d,rfl,o,v,u,i⟩:=b;cases(show RdX H B y (.list [])from c)with
  |@lst f w _ l s t r=>
   cases r;refine .inr (.inr ⟨e,f,d,rfl,rfl,SqL.of o,SqL.of l,?_⟩);have:d.isEmpty=g.isEmpty:=by cases i<;>rfl
   rw[this];exact k _ _ H n R (Kp.refl _ _) (wd (.bl _)) a
 ·exact n8 C H B σ δ n x y p q Q j R b c a k
def fQ:Wv->Option (List Ad)
 |.ln ds=>ae ds
 |.d (.list ds)=>ae ds
 |_=>af
def ft:Wv->Wv->Int->DQ->Prop:=λx y n Q=>match fQ x,fQ y with
 |some i,ae j=>i.length+j.length<=Ay/\Q (.d (.list (i++j))) n
 |_,_=>False
theorem rl{H:Hp}{B:A'->Prop}{t:A'}{v:V}{x:Wv}{ds:List Ad}(h:WRel H B t v x)(e:fQ x=ae ds):∃a xs,v=.ref a/\H a=ae (.lst xs)/\xs.length<=Ay/\RdXs H B xs ds:=by
 cases x with
 |ln j=>
  cases e;obtain⟨a,xs,l,c,p,g,f⟩:=h;exact⟨a,xs,l,c,g,f⟩
 |d y=>
  cases y with
  |list j=>
   cases e;cases(show RdX H B v (.list ds)from h)with
   |@lst a xs _ n q i k=>exact⟨a,xs,rfl,n,i,k⟩
  |_=>cases e
 |tp=>cases e
 |dk _=>cases e
 |dx _=>cases e
 |ob _=>cases e
theorem JF:a8 ja ft:=λC H B σ δ n x y p q Q E R s t c k=>by
 unfold ft at c
 split at c
 ·rename_i i j o v;obtain⟨l,f,rfl,w,D,e⟩:=rl s o;obtain⟨r,g,rfl,u,A,h⟩:=rl t v;obtain⟨m,q⟩:=c;have d:f.length+g.length<=Ay:=by rw[e.len,h.len];exact m
  refine⟨l,r,f,g,rfl,rfl,w,u,d,λpn a=>k _ _ _ n (R.new a) (Kp.new a) (wd (show RdX _ B _ (.list _)from .lst a9 (R.nb a) (by rw[An];omega) ?_)) q⟩;exact((e.append h).fresh a).less λb z=>.inl z
 ·exact c.elim
theorem Kr(ha:DE X a ta wa)(hb:DE X b tb wb):DE X (.BinOp a .Add b pos) (cY ja ta tb) (w2 wa wb ft):=gL wV JF ha hb
end
section
variable{X:Cx}{a b c e o i f:Expr}{ta tb te td ty tx:TE}{wa wb we wd' wy wx:DT}{pos p:Pos}{K:Ag}
def dq(w:DT)(g:dz):aF:=λδ n K=>w δ n λx n1=>match x with
 |.d d=>g d δ λδ'=>K.nx δ' n1
 |_=>False
theorem Qr{tg:Expr}{g:TG}{gd:dz}(he:DE X e te we)(hg:DG X tg g gd)(hs:swapsWithSole [tg] e pos.line X.env=pure ai:=by rfl)(hw:swappedStores [tg] e X.env=pure af:=by rfl)
  (h1:(Cu [tg] X.env).map (·.2)=[assign tg X.env]:=by rfl):DS X (.Assign [tg] e pos) (bw te g) (dq we gd):=⟨lg he.pe hg.pg hs hw h1,λC H B σ δ n K D R q E=>
 he.sd C H B σ δ n _ _ R q λv x h i f s j a=>by
  cases x with
  |d d=>exact hg.sd C h B σ δ i v d _ _ f j a λσ' o b c=>E.nx _ _ _ _ _ b c
  |tp=>exact a.elim
  |dk _=>exact a.elim
  |dx _=>exact a.elim
  |ln _=>exact a.elim
  |ob _=>exact a.elim⟩
def nF:Wv->Option (List Ad)
 |.ln ds=>ae ds
 |.d (.list ds)=>ae ds
 |.d (.tuple ds)=>ae ds
 |_=>af
theorem QE{H:Hp}{B:A'->Prop}{t:A'}{v:V}{x:Wv}{ds:List Ad}(h:WRel H B t v x)(e:nF x=ae ds):∃a xs,v=.ref a/\(SqL K H a xs\/SqT K H a xs)/\xs.length<=Ay/\RdXs H B xs ds:=by
 cases x with
 |ln k=>
  cases e;obtain⟨a,xs,p,l,u,n,m⟩:=h;exact⟨a,xs,p,.inl (SqL.of l),n,m⟩
 |d y=>
  cases y with
  |list k=>
   cases e;cases(show RdX H B v (.list ds)from h)with
   |@lst a xs _ i q b c=>exact⟨a,xs,rfl,.inl (SqL.of i),b,c⟩
  |tuple k=>
   cases e;cases(show RdX H B v (.tuple ds)from h)with
   |@tup a xs _ i q b c=>exact⟨a,xs,rfl,.inr (SqT.of i),b,c⟩
  |_=>cases e
 |tp=>cases e
 |dk _=>cases e
 |dx _=>cases e
 |ob _=>cases e
def lR(w:DT):dO:=λδ n Q=>w δ n λx n1=>match nF x with
 |some ds=>Q ds n1
 |none=>False
theorem IW(hg:Gl X "list")(hm:X.mg "list"=af)(ho:DE X o td wd')(hK:X.K=K:=by rfl)(he:As [o] X.env=(ai,eval o X.env)::As [] X.env:=by rfl)(q_:(Cw pos (As [] X.env)).any (·.1)=ai:=by rfl):
  DF X (.Call (.Name "list" p) [o] [] pos) (d3 (ve K) (br td aX)) (lR wd'):=
 ⟨mE (L1 hK) hg hm qK (b3 ho.pe dm he) ∎ ∎ he q_,λC H B σ δ n Q u R q k=>ho.sd C H B σ δ n _ _ R q λv x t j d f r c=>by
  split at c
  ·rename_i s m;obtain⟨a,e,rfl,i,g,h⟩:=QE r m;exact⟨a,e,rfl,i,λl b=>k l e s _ j (d.new b) (f.trans (Kp.new b)) (d.was f b) a9 g (h.fresh b) c⟩
  ·exact c.elim⟩
def fH:List Wv->Int->DQ->Prop:=λxs n Q=>match xs with
 |[.ln ds]=>Q (.d (.tuple ds)) n
 |xs=>eJ xs n Q
theorem Hr:cX (qY K) fH:=λC H B σ δ n g i Q j R r h k=>by
 unfold fH at h
 split at h
 ·rename_i d;cases r with
  |cons m o=>
   cases o;obtain⟨c,p,rfl,q,s,e,f⟩:=m;refine⟨c,p,rfl,.inl ⟨SqL.of q,λl a=>k _ _ _ n (R.new a) (Kp.new a) (wd (show RdX _ B _ (.tuple d)from .tup a9 (R.nb a) e ?_)) h⟩⟩;exact(f.fresh a).less λb z=>.inl z
 ·exact vj C H B σ δ n g i Q j R r h k
def fq(i:Nat)(w:DT):aF:=λδ n K=>match δ[i]? with
 |some (ae (.own ds))=>w δ n λx n1=>match x with
  |.d (.list es)=>(ds.length < 1000000/\es.length < 1000000)/\K.nx (δ.set i (ae (.own (ds++es)))) n1
  |_=>False
 |_=>False
theorem xq{n m:Nat}(h:n < 1000000)(h':m < 1000000):n+m<=Ay:=by
 have:2000000<=Ay:=by decide
 omega
theorem Ju{i:Nat}{x:Str}{xp ap cp:Pos}(hN:X.N[i]?=ae x)(he:DE X e te we)(hv:dU X.env.scope x:=by first|exact Ci rfl|exact B5 (Ci rfl)|exact B5 (B5 rfl))(hd:(x==("__debug__":Str))=ai:=by decide)
  (r_:(x==("__classdict__":Str))=ai:=by decide)
  (hbase:G7 (.Name x xp) "extend" X.env (eval (.Name x xp) X.env)=eval (.Name x xp) X.env:=by rfl)
  (hfew:((Cw cp (As [e] X.env)).all (λx=>!x.1)&&(backToKw cp (keywordEach [] X.env)).all (λx=>x.1.isSome)
   && decide ([e].length+([]:List Keyword).length+(if ([]:List Keyword).isEmpty then 0 else 1) < 30))=ah:=by rfl)
  (hline:(ap.endLine==cp.line)=ah:=by rfl) (hs:As [e] X.env=[(ai,eval e X.env)]:=by rfl) (hplain:(Cw cp (As [] X.env)).any (·.1)=ai:=by rfl)
  (hsw:Cy (.Call (.Attribute (.Name x xp) "extend" ap) [e] [] cp) af pos.line X.env=pure ai:=by rfl):
  DS X (.Expr (.Call (.Attribute (.Name x xp) "extend" ap) [e] [] cp) pos) (nY (pI X.K "list" vT (aI i) (br te aX))) (fq i we):=
 ⟨qX (wD Hl PySem.F.slot_list_extend PySem.F.type_list_extend KZ (eY hN hv hd r_) (b3 he.pe dm hs) hbase hfew hline hs hplain) hsw,λC H B σ δ n K D R q E=>by
  unfold fq at q
  split at q
  ·rename_i T k;obtain⟨v,hv,a,m,rfl,p,d,f,Q,l⟩:=R.sl i _ k;refine⟨_,hv,.inl ⟨rfl,_,SqL.of p⟩,he.sd C H B σ δ n _ _ R q λu y I S G r L c=>?_⟩
   split at c
   ·rename_i A;have g:a≠C.t:=λz=>R.t0 (z▸f);cases(show RdX I B u (.list A)from L)with
    |@lst b j _ J O P s=>
     have h:m.length+j.length<=Ay:=by rw[l.len,s.len];exact xq c.1.1 c.1.2
     refine⟨a,b,m,j,rfl,rfl,(r _ _ p g),J,h,E.nx _ _ _ _ _ (G.mutOwn k rfl hv d f ?_ rfl) c.2⟩;refine⟨a,_,rfl,a9,d,f,by rw[An];exact h,RdXs.keep (λb o e n=>?_) ((l.kp r R.bt).append s)⟩;rw[aG λ(z:b=a)=>n (z▸d)];exact e
   ·exact c.elim
  ·exact q.elim⟩
theorem FO(H:Hp)(B:A'->Prop):RdXs H B oS ky:=.cons .non (.cons .non (.cons .non (.cons (.int _) (.cons (.int _) .nil))))
def dQ(i:Nat):DT:=λδ n Q=>match δ[i]? with
 |some (ae (.w .tp))=>Q (.ln ky) n
 |_=>False
theorem LL(i:Nat){x:Str}{ix:Int}{p p2:Pos}{jj}(hK:X.K=K:=by rfl)(hN:X.N[i]?=ae x:=by rfl)(hv:dU X.env.scope x:=by first|exact Ci rfl|exact B5 (Ci rfl)|exact B5 (B5 rfl))(hd:(x==("__debug__":Str))=ai:=by decide)
  (r_:(x==("__classdict__":Str))=ai:=by decide):DE X (.Subscript (.Name x p) (.Constant (.int 3) jj p2) pos) (cY (jC K) (aI i) (tC (.int 3))) (dQ i):=by
 subst hK;refine⟨f7 rS (eY hN hv hd r_) bY (λ_ _=>rfl),λC H B σ δ n Q g R h k=>?_⟩;unfold dQ at h
 split at h
 ·rename_i e;obtain⟨v,f,c⟩:=R.sl i _ e;cases(c.1);obtain⟨a,b,d,_⟩:=R.tp.ob;refine⟨_,f,.inl ⟨C.t,_,3,_,rfl,rfl,SqL.of d,d7 rfl,k _ (.ln ky) H n R (Kp.refl _ _) ⟨_,_,rfl,R.tp.ag rfl,R.tp.gne,by decide,FO _ _⟩ h⟩⟩
 ·exact h.elim
end
section
variable{X:Cx}{e:Expr}{st:Stmt}{sts:List Stmt}
def Ih:aF:=λ_ _ _=>False
theorem BK:DSs X sts (λ_ _ _=>False) Ih:=⟨λ_ _ _ _ _ _ h=>h.elim,λ_ _ _ _ _ _ _ _ _ h _=>h.elim⟩
end
end DL
namespace L2
open PySem PySem.Spec PyProof.Rows
end L2
namespace DL
open PySem L2 Nb
end DL
namespace HT
open PySem PyProof.Rows
open PySem.SeqAt
open PySem.AutoSeq1 (wpAny_loadPart')
open PySem.MeetsSeq PySem.MeetsSeq2 PySem.MeetsSeq3
section
variable{prog:A3}{w:Bi}{A:Bq}{E:Af->Ai->Prop}{s:Ai}
theorem getItem_tuple_whole{t sl:A'}{items:Array Af}{vl vu:Af}{lo hi:Option Int}{Q:Af->Ai->Prop}(ht:IsTup s.heap t items)(hs:s.heap.IsSliceOf sl vl vu .none)(pl:IsPart vl lo)(pu:IsPart vu hi)
  (h0:sIx items.size 0 lo=0) (h1:sIx items.size items.size hi=items.size) (h:Q (.ref t) s):A6 (A9 prog w) A (getItem (.ref t) (.ref sl)) Q E s:=by
 obtain⟨e,d,b,f⟩:=id hs;have c:s.TypeIs (.ref sl) "slice":=⟨e,d,b⟩;unfold getItem
 try with_reducible refine Cc ?_
 first|refine Aa _|skip
 refine Aa (wpAny_sequenceKey ht.typeIs ∎ ?_);refine Aa (Bv ht.typeIs Ej
  (B8 Ej ht.typeIs entry_tuple_getitem ?_ (args_tuple_getitem _ _)))
 show A6 _ _ (Gs _>>=_) _ _ s;refine Aa (tupleItemsOf_ ht (Aa (Gx c ?_)));refine Aa (yZ hs pl pu ?_);have a:(((sIx items.size 0 lo:Nat):Int)==0&&(1:Int)==1&&(sIx items.size items.size hi-sIx items.size 0 lo)==items.size)=ah:=by
  rw[h0,h1];simp
 show A6 _ _ (if _=ah then _ else _) _ _ s;rw[b_ a];exact Aa (Aa (Gx ht.typeIs (Aj (Aa (Fh (Aj ⟨_,rfl,Aj h⟩))))))
end
end HT
namespace L2
open PySem PySem.Spec PyProof.Rows
def mQ(K:Ag):V->Option Int->Option Int->Hp->VK->Prop:=λx lo hi H Q=>∃a xs,x=.ref a/\SqT K H a xs/\HT.sIx xs.length 0 lo=0/\HT.sIx xs.length xs.length hi=xs.length/\Q (.ref a) H
theorem OH{X:Cx}:SlR X (mQ X.K):=by
 intro e s σ H x v w n u m y Q I f l g i h;obtain⟨a,j,rfl,k,o,p,q⟩:=h;cases f;obtain⟨c,r,d,t⟩:=I.tuple k;have b:c.toArray.size=j.length:=r.length.symm;exact⟨_,_,PyProof.Rows.slot_tuple_getitem.lookup,d.typeIs,HT.getItem_tuple_whole d l g i (by rw[b];omega) (by rw[b];omega) ⟨.ref a,H,I,rfl,q⟩⟩
end L2
namespace DL
open PySem L2 Nb
section
variable{X:Cx}{e:Expr}{te:TE}{we:DT}{pos p2:Pos}{K:Ag}{lo hi:Option Expr}
abbrev kZ:=Sl->Int->(Option Int->Int->Prop)->Prop
def d8:kZ:=λ_ n Q=>Q af n
def dG(w:DT):kZ:=λδ n Q=>w δ n λx n1=>match x with
 |.d (.int i)=>Q (ae i) n1
 |_=>False
def Ks(t:TO)(w:kZ):Prop:=∀(C:Ctx)(H:Hp)(B:A'->Prop)(σ:St)(δ:Sl)(n:Int)(Q:Option Int->Int->Prop)(Q':Option Int->Hp->Prop),Rel C H B σ δ n->w δ n Q->
 (∀o H' n',Rel C H' B σ δ n'->Kp C.t H H'->Q o n'->Q' o H')->t σ H Q'
structure DOp(X:Cx)(o:Option Expr)(t:TO)(w:kZ):Prop where
 po:PO X o t
 sd:Ks t w
theorem Kc:DOp X af AJ d8:=⟨wF,λC H B σ δ n Q a R q k=>k af H n R (Kp.refl _ _) q⟩
theorem Je(h:DE X e te we):DOp X (ae e) (v8 te) (dG we):=⟨v5 h.pe,λC H B σ δ n Q l R q k=>h.sd C H B σ δ n _ _ R q λv x b d c j f a=>by
 split at a
 ·rename_i i;cases(show RdX b B v (.int i)from f);exact⟨i,rfl,k _ b d c j a⟩
 ·exact a.elim⟩
def eD(xs:List Ad)(lo hi:Option Int):List Ad:=(xs.drop (HT.sIx xs.length 0 lo)).take (HT.sIx xs.length xs.length hi-HT.sIx xs.length 0 lo)
def d4(w:DT)(l u:kZ):DT:=λδ n Q=>w δ n λx n1=>l δ n1 λa n2=>u δ n2 λb n3=>match x with
 |.d (.tuple ds)=>Q (.d (.tuple (eD ds a b))) n3
 |_=>False
def rW(K:Ag):V->Option Int->Option Int->Hp->VK->Prop:=λx lo hi H Q=>nL K x lo hi H Q\/mQ K x lo hi H Q
theorem Ji{tl th:TO}{wl wh:kZ}(he:DE X e te we)(hl:DOp X lo tl wl)(hh:DOp X hi th wh)(hK:X.K=K:=by rfl):DE X (.Subscript e (.Slice lo hi af p2) pos) (zD (rW K) te tl th) (d4 we wl wh):=by
 subst hK;refine⟨DH (sl_tup.or OH) he.pe hl.po hh.po,λC H B σ δ n Q U R q k=>he.sd C H B σ δ n _ _ R q λv x J L y T O F=>
  hl.sd C J B σ δ L _ _ y F λa G I A s E=>hh.sd C G B σ δ I _ _ A E λb t u j o m=>?_⟩
 split at m
 ·rename_i i;have S:=(O.kp s y.bt).kp o A.bt;cases S with
  |@tup r d _ l N w f=>
   have D:=(T.trans s).trans o;by_cases g:HT.sIx d.length 0 a=0/\HT.sIx d.length d.length b=d.length
   ·refine .inr ⟨r,d,rfl,SqT.of l,g.1,g.2,k _ _ t u j D (wd (show RdX t B _ (.tuple i)from .tup l N w f)) ?_⟩;have:eD i a b=i:=by
     unfold eD;rw[<-f.len,g.1,g.2,List.drop_zero,Nat.sub_zero,f.len,List.take_length]
    simp_all
   ·refine .inl ⟨r,d,rfl,SqT.of l,g,λp h=>k _ _ _ u (j.new h) (D.trans (Kp.new h)) (wd (show RdX _ B _ (.tuple _)from .tup a9 (j.nb h) (A5 (uH d a b) w) ?_)) m⟩;unfold eD fo;rw[<-f.len];exact(((f.drop _).take _).fresh h).less λb z=>.inl z
 ·exact m.elim
end
end DL
namespace Nb
open PySem L2
end Nb
namespace DL
open PySem L2 Nb
section
variable{X:Cx}{tg a b c e o i f:Expr}{ta tb te td ty tx:TE}{wa wb we wd' wy wx:DT}{pos p:Pos}{K:Ag}
def gJ(hs:List Str)(w:DT):DT:=λδ n Q=>w δ n λx n1=>match x with
 |.d a=>eG a=ah/\Q (.d (.bool (cC a (hs.map .str)))) n1
 |_=>False
theorem Ke{q:A'}{hs:List Str}(hl:∀h∈hs,h.length<=1000)(hq:∀H,SqT K H q (hs.map V.str))(h:dj ta wa):dj (cY (gc K ai) ta (tC (.ref q))) (gJ hs wa):=λC H B σ δ n Q j R z k=>
 h C H B σ δ n _ _ R z λv x b g f i d a=>by
  split at a
  ·rename_i l;have c:RdXs b B _ (hs.map .str):=m7 hl;refine⟨q,_,rfl,.inr (hq b),jN d a.1,jt c ?_,k _ _ b g f i (wd (.bl _)) ?_⟩
   ·rw[List.all_map];exact E1.mpr λ_ _=>rfl
   ·rw[j3 d c];exact a.2
  ·exact a.elim
theorem Hy{q:A'}{hs:List Str}{x:Str}{xp:Pos}(ha:DE X a ta wa)(hg:Gl X x)(hm:X.mg x=ae (.ref q))(hq:∀H,SqT K H q (hs.map V.str))(hl:∀h∈hs,h.length<=1000:=by decide +kernel)(hK:X.K=K:=by rfl)(hd:(x==("__debug__":Str))=ai:=by decide)
  (hmk:Cm .In (Expr.Name x xp)=ai:=by with_unfolding_all rfl):DC X (.Compare a [.In] [.Name x xp] pos) (fN (cY (gc K ai) ta (tC (.ref q)))) (cT (gJ hs wa)):=
 ⟨jc (si hK) ha.pe (uB hg hm rfl hd) hmk,kE (Ke hl hq ha.sd)⟩
end
abbrev cU:=List Wv->Int->(List Ad->Int->Prop)->Prop
def jO(S:cU):Sp:=λvs H Q _=>∃(t:A')(l:TL)(ns:List Int)(B:A'->Prop)(ws:List Wv)(n:Int)(Q0:List Ad->Int->Prop),Tp H t l ns n/\B t/\(∀b,B b->H b≠af)/\ARel H B t vs ws/\S ws n Q0 /\
 ∀ds n',Q0 ds n'->∀a xs H',Tp H' t l ns n'->Kp t H H'->H a=af->H' a=ae (.lst xs)->xs.length<=Ay->RdXs H' (λb=>B b\/b=a) xs ds->Q (.ref a) H'
section
variable{X:Cx}{e:Expr}{es:List Expr}{pos p:Pos}{tR:TA}{wR:cG}{te:TE}{we:DT}
def nJ(S:cU)(w:cG):dO:=λδ n Q=>w δ n λxs n1=>S xs n1 Q
theorem Ig{S:cU}{t:TA}{w:cG}(h:iE t w):iU (eu (jO S) [] E0 t) (nJ S w):=λC H B σ δ n Q z R q k=>
 h C H B σ δ n _ _ R q λvs s y p b d v i=>⟨C.t,C.l,_,B,s,p,Q,b.tp,b.bt,b.ba,by rw[Bu];exact v,i,λds j f a x r u c m o e g=>k a x ds r j (b.step u c) (d.trans c) (b.was d m) o e g f⟩
structure HasN(P:A3)(w:Bi)(K:Ag)(mg:Str->Option Af)(base:Heap)(k:Nat)(x:Str)(ps:List Str)(S:cU):Prop where
 ex:∃(f:A')(fd:Ce),FnOk P w K mg base bS k f fd ps (jO S)/\Binds K fd ps []/\mg x=ae (.ref f)/\Ct K (.ref f)=ah
theorem HasN.mk'{P:A3}{w:Bi}{K:Ag}{mg:Str->Option Af}{base:Heap}{k:Nat}{x qual:Str}{st:Stmt}{ps:List Str}{S:cU}{f:A'}{fd:Ce}(F:Fun K x qual st f fd)(m:mg x=ae (.ref f))(b:Binds K fd ps [])(h:FnOk P w K mg base bS k f fd ps (jO S)):HasN P w K mg base k x ps S:=⟨f,fd,h,b,m,F.kp⟩
theorem Js{k:Nat}{ps:List Str}{S:cU}{x:Str}(h:HasN X.prog X.w X.K X.mg X.base k x ps S)(hr:Room k X.A)(hg:Gl X x)
  (ha:DA X (e::es) tR wR) (hdb:(x==("__debug__":Str))=ai:=by decide) (he:As (e::es) X.env=(ai,eval e X.env)::As es X.env:=by rfl) (q_:(Cw pos (As es X.env)).any (·.1)=ai:=by rfl):
  DF X (.Call (.Name x p) (e::es) [] pos) (eu (jO S) [] E0 tR) (nJ S wR):=by
 obtain⟨f,g,d,a,b,c⟩:=h.ex;exact⟨jg d hr hg b c a .nil ju ha.pa hdb he q_,Ig ha.sd⟩
def rA(w:dO):aF:=λδ n K=>w δ n K.rn
theorem Ki{w:dO}(h:DF X e te w):DS X (.Return (ae e) pos) (fE te) (rA w):=⟨i0 h.pe,λC H B σ δ n K D R q E=>
 h.sd C H B σ δ n _ _ R q λa l m k g c o i j b d f=>E.rn k B σ δ g a l m c (R.h0 i) j b d f⟩
def DJ(i:Nat):aF:=λδ n K=>match δ[i]? with
 |some (ae (.own ds))=>K.rn ds n
 |_=>False
theorem y6(i:Nat){x:Str}{xp:Pos}(hN:X.N[i]?=ae x:=by rfl)(hv:dU X.env.scope x:=by first|exact Ci rfl|exact B5 (Ci rfl)|exact B5 (B5 rfl))(hd:(x==("__debug__":Str))=ai:=by decide)
  (r_:(x==("__classdict__":Str))=ai:=by decide):DS X (.Return (ae (.Name x xp)) pos) (fE (aI i)) (DJ i):=⟨i0 (eY hN hv hd r_),λC H B σ δ n K D R q E=>by
 unfold DJ at q
 split at q
 ·rename_i l c;obtain⟨v,hv,a,j,rfl,k,f,g,h,d⟩:=R.sl i _ c;exact⟨_,hv,E.rn H B σ δ n a j l R g k h (d.less λb z=>z.elim id λe=>e▸f) q⟩
 ·exact q.elim⟩
end
section
variable{P:A3}{w:Bi}{K:Ag}{mg:Str->Option Af}{base:Heap}
theorem Fun.okN{x qual:Str}{st:Stmt}{f:A'}{fd:Ce}{N ps:List Str}{k:Nat}{S:cU}(F:Fun K x qual st f fd)(Sc:FnScope N ps (bE st))(len:∀ws n Q,S ws n Q->ws.length=ps.length)
  (hbody:∀(n_:Af)(A:Bq)(outer:List Env)(s:Ai)(H:Hp)(E:XK),Room k (A.deeper (C2 qual (bE st) s.heap.objs.size f n_))->
   ∃T W,DSs (b6 bS P w K mg base N qual (bE st) f n_ A outer s H E).nox (ez st) T W/\∀ws n Q,S ws n Q->W (eE N ws) n {nx:=λ_ _=>False,rt:=λ_ _=>False,rn:=Q}):FnOk P w K mg base bS (k+1) f fd ps (jO S):=by
 refine F.ok Sc (λvs H Q E h=>?_) (λn_ A outer s H J Q E I h=>?_)
 ·obtain⟨t,l,o,B,ws,n,e,_,_,_,r,q,_⟩:=h;rw[r.len];exact len ws n e q
 ·obtain⟨t,l,o,B,ws,n,e,T,i,v,r,q,G⟩:=h;obtain⟨C,W,d,D⟩:=hbody n_ A outer s H E I;refine⟨C,d.ps,d.sd _ H B _ _ n _ _ (pK T i v r) (D ws n e q) ⟨?_,?_,?_,?_,?_,λ_ _ _ _ _ _ _ _ _ _ _ _ _ z=>z.elim⟩⟩
  ·exact λ_ _ _ _ _ _ z=>z.elim
  ·exact λ_ _ _ _ _ _ _ _ _ z=>z.elim
  ·exact λ_ _ _ _ _ _ z=>z.elim
  ·exact λ_ _ _ _ _ _ z=>z.elim
  ·exact λH' O σ δ L a y R c p u g j m=>G _ _ m a y H' c.tp c.kp p u g (j.less λb z=>z.elim (λz=>.inl (c.b0 b z)) .inr)
end
end DL
namespace Nb
open PySem L2
end Nb
namespace DL
open PySem L2 Nb
section
variable{X:Cx}{a b c e o i f:Expr}{ta tb te ty:TE}{wa wb we wy:DT}{pos p xp:Pos}{K:Ag}{D:List (Str×Str)}{q:A'}{x:Str}
theorem Q1{n:Nat}(h:n<=1000):n<=Ay:=A5 h ∎
end
end DL
namespace L2
open PySem PySem.Spec PyProof.Rows PySem.SeqAt PySem.W
end L2
namespace L2
open PySem PySem.Spec PyProof.Rows
def DEs(h:Heap)(d:A')(es:Array G6)(ep:Nat):Prop:=∃o,h.get? d=ae o/\o.ExactDict/\o.data=.dict es ep
end L2
namespace L2
open PySem PySem.Spec PyProof.Rows PySem.SeqAt PySem.W
end L2
namespace L2
open PySem PySem.Spec PyProof.Rows PySem.W
section
variable{prog:A3}{w:Bi}{A:Bq}{E:Af->Ai->Prop}{s:Ai}{d it:A'}{es:Array G6}{ep i:Nat}
theorem DEs.ty(x:DEs s.heap d es ep):s.TypeIs (.ref d) "dict":=let⟨o,e,c,_⟩:=x;⟨o,e,c.1⟩
theorem yy{Q:Af->Ai->Prop}(hd:(d==Dk)=ai)(x:DEs s.heap d es ep)
  (k:Q (.ref s.heap.objs.size) {s with heap:=s.heap.push {cls:=.type "dict_keyiterator",data:=.fields #[.ref d,.int 0 0,.int es.size 0,.int ep 0]}}):A6 (A9 prog w) A (pyIter (.ref d)) Q E s:=by
 obtain⟨o,b,c,a⟩:=id x;refine wpAny_pyIter_slot x.ty F.slot_dict_iter (B8 F.slot_dict_iter x.ty F.entry_dict_iter (Aa ?_) (F.args_dict_iter_1 _));refine Aa (wpAny_notOrdered_dict x.ty (Aj ?_));refine(show A6 _ _ (Builtin.Dict.showsAll d>>=_) _ _ s from ?_);unfold Builtin.Dict.showsAll;rw[a_ (by rw[hd];decide)];refine Aa (Aj (Aa (wpAny_dictEntries b a (Aa (wpAny_dictEpoch b a (Aa (B7 (Aj ⟨_,rfl,_,_,⟨_,Ax _ rfl,rfl⟩,F.slot_dict_keyiterator_next.lookup,?_⟩))))))));assumption
theorem oV{Q:Option Af->Ai->Prop}(y:s.heap.IsKeyIter it d i es.size ep)(x:DEs s.heap d es ep)
  (hI:i < es.size->∀h',h'.IsKeyIter it d (i+1) es.size ep->C7 it s.heap h'->Q (ae (es.getD i ⟨0,.none,.none⟩).key) {s with heap:=h'})
  (hE:es.size<=i->A.handled=af/\∀h',Heap.ExtBut it s.heap h'->Q af {s with heap:=h'}):A6 (A9 prog w) A (pyNext (.ref it)) Q E s:=by
 obtain⟨u,c,j,b⟩:=id y;obtain⟨o,h,k,g⟩:=id x;refine Aa (Em (Bv y.typeIs F.slot_dict_keyiterator_next (B8 F.slot_dict_keyiterator_next y.typeIs F.entry_dict_keyiterator_next ?_ (F.args_dict_keyiterator_next_1 _))));refine Aa (Aj (Aa (Aa ?_)))
 first|refine Aa (G8 y.typeIs (Aj ?_))|refine Aa _
 refine Aa (F1 c b (show A6 _ _ _ _ _ s from ?_));refine Aa (Aj (Aa (wpAny_dictEntries h g ?_)));rw[a_ (by simp)];refine Aa (Aj (Aa (wpAny_dictEpoch h g ?_)));rw[a_ (by simp)];refine Aj ?_;by_cases f:i < es.size
 ·simp only[Cq,Cg f];refine Aa ?_
  first|refine Aa (G8 y.typeIs (Aj ?_))|refine Aa _
  refine Aa (wpAny_isOneOf_keyiter y.typeIs (show A6 _ _ (setField _ 1 _>>=_) _ _ s from Aa (C8 c b (by simp) ?_)));have z:(s.heap.update it (Obj.mapFields (·.setIfInBounds 1 _))).IsKeyIter it d (i+1) es.size ep:=
   ⟨_,By _ c (Dh (B4 b _)),(Es ..).trans j,by rw[B4 b];rfl⟩
  refine Aa (Cc (Aa (wpAny_isOneOf_keyiter z.typeIs ?_)));have e:=hI f _ z (Bg ..);rw[show es.getD i _=es[i] by simp[f]]at e;exact(Aj (Aj ⟨_,rfl,Aj e⟩))
 ·obtain⟨l,e⟩:=hE ⋯;simp only[Cq,Array.getElem?_eq_none (show es.size<=i by omega)];refine Aa ?_
  first|refine Aa (G8 y.typeIs (Aj ?_))|refine Aa _
  refine(show A6 _ _ (setField _ 0 .none>>=_) _ _ s from Aa (C8 c b (by simp) (Aa ?_)));refine Aa (B7 (Aa (G9 (by rfl) (B7 (Aa (wpAny_handled ?_)) (by size_fits)))) (by size_fits));rw[show A.in1.handled=af by omega];refine Aa (Aj (wpAny_throw (?_:A6 _ _ _ _ _ _)));refine Aa (E7 ⟨_,Ax _ rfl,rfl⟩ isSubtype_stop (?_:A6 _ _ _ _ _ _));exact Aj (e _ (((Bg ..).extBut.push _).push _))
theorem DEs.keep{h h':Heap}(x:DEs h d es ep)(k:∀o,h.get? d=ae o->h'.get? d=ae o):DEs h' d es ep:=let⟨o,e,r⟩:=x;⟨o,k o e,r⟩
theorem Sx(lo:(d==Dk)=ai):KdlSrc prog w "dict" d d es.size (λi v=>(es[i]?).map (·.key)=ae v) (λh=>DEs h d es ep) where
 type:=λ_ x=>x.ty
 there:=λ_ x=>let⟨_,e,_⟩:=x;⟨Aw e,Aw e⟩
 keep:=λ_ _ x k=>x.keep λo e=>k d (.inl rfl) o e
 notList:=by decide
 notTuple:=by decide
 hint:=λ_ _ _ _ x q=>kdl_hint_dict x.ty q
 iter:=λA s t x=>by
  obtain⟨y,r,u⟩:=id x;refine⟨_,λi h=>h.IsKeyIter s.heap.objs.size d i es.size ep/\DEs h d es ep,λ_ _ q=>yy lo x q,?_,⟨_,Ax _ rfl,rfl,rfl⟩,x.keep λo e=>Ae _ e⟩;exact
   { sub:=λb c=>by simp at c;simp[c],frame:=λ_ _ _ a j=>⟨a.1.at λo e=>j _ (by simp) o e,a.2.keep λo e=>j d (by simp) o e⟩,item:=λi s' Q E g a f=>oV a.1 a.2 (λhi' h' z m=>f _ h' s'.toks (by simp[g]) ⟨z,a.2.keep λo e=>m.extBut d o (Bf (Aw r)) e⟩ λb o c e=>m.extBut b o (λh=>c (by simp[h])) e) (λz=>g_ g ⋯),done:=λs' Q E a f=>oV a.1 a.2 (λz=>g_ z ⋯) (λ_=>⟨t,λh' p=>f h' s'.toks λb o c e=>p b o (λh=>c (by simp[h])) e⟩),self:=λ_ _ _ _ a f=>wpAny_pyIter_keyiter a.1 f}
end
end L2
namespace L2
open PySem PySem.Spec PyProof.Rows PySem.SeqAt PySem.W
end L2
namespace DL
open PySem L2 Nb
end DL
namespace L2
open PySem PySem.Spec PyProof.Rows PySem.SeqAt PySem.W
end L2
namespace DL
open PySem L2 Nb
end DL
namespace HT
open PySem PyProof.Rows
end HT
namespace L2
open PySem PySem.Spec PyProof.Rows
end L2
namespace DL
open PySem L2 Nb
end DL
namespace L2
open PySem PySem.Spec PyProof.Rows PySem.SeqAt
end L2
namespace DL
open PySem L2 Nb
end DL
namespace L2
open PySem PySem.Spec PyProof.Rows
end L2
namespace DL
open PySem L2 Nb
end DL
namespace L2
open PySem PySem.Spec PyProof.Rows
def va(K:Ag):R2:=λx y H Q=>∃a b ys,x=.ref a/\y=.ref b/\SqT K H a []/\SqT K H b ys/\Q (.ref b) H
theorem NQ{X:Cx}:OpR X (E8 .Add) (va X.K):=by
 intro o s σ H x y v u Q I t z h;obtain⟨a,b,L,rfl,rfl,G,A,r⟩:=h;cases(t);cases(z);obtain⟨i,B,p,_⟩:=I.tuple G;obtain⟨d,J,D,_⟩:=I.tuple A;obtain⟨⟨E,q,_,C⟩,k,m,n,l⟩:=id p;obtain⟨⟨_,j,_,g⟩,f,c,w,e⟩:=id D;simp only at m l c e;subst m l c e;exact concat_meets ⟨_,k,rfl⟩ ⟨_,f,rfl⟩ noFill_tuple_add seq_tuple_add F8 F4 (Fv _ _)
  (tuple_addW0 a b i.toArray d.toArray n w q j C g (by simp[(B.nil_iff.mpr rfl)])) ⟨k,f,⟨.ref b,H,I,rfl,r⟩⟩
end L2
namespace DL
open PySem L2 Nb
section
variable{X:Cx}{a b:Expr}{ta tb:TE}{wa wb:DT}{pos p:Pos}{K:Ag}
def eT:Wv->Wv->Int->DQ->Prop:=λx y n Q=>match x,y with
 |.d (.tuple []),.d (.tuple j)=>Q (.d (.tuple j)) n
 |x,y=>jJ x y n Q
theorem M4:a8 (λx y H Q=>oZ K x y H Q\/va K x y H Q) eT:=λC H B σ δ n x y p q Q o R d e b k=>by
 unfold eT at b
 split at b
 ·rename_i j;cases(show RdX H B x (.tuple [])from d)with
  |@tup g v _ s w u m=>
   cases(show RdX H B y (.tuple j)from e)with
   |@tup h r _ f i l t=>
    cases m;exact .inr ⟨g,h,r,rfl,rfl,SqT.of s,SqT.of f,k _ _ H n R (Kp.refl _ _) (wd (show RdX H B _ (.tuple j)from .tup f i l t)) b⟩
 ·exact .inl (QT C H B σ δ n x y _ _ Q o R d e b k)
theorem L3(ha:DE X a ta wa)(hb:DE X b tb wb)(hK:X.K=K:=by rfl):DE X (.BinOp a .Add b pos) (cY (λx y H Q=>oZ K x y H Q\/va K x y H Q) ta tb) (w2 wa wb eT):=by
 subst hK;exact gL (op_addA.or NQ) M4 ha hb
end
end DL
namespace L2
open PySem PySem.Spec PyProof.Rows
end L2
namespace DL
open PySem L2 Nb
end DL
namespace L2
open PySem PySem.Spec PyProof.Rows
theorem AG:∀{ks:List Str}{i':List Af},Vals (ks.map V.str) i'->TxOk i' ks
 |[],_,h=>by cases h;exact⟨rfl,λj v a=>by simp at a⟩
 |k::ks,_,h=>by
  cases h with
  |cons r t=>
   obtain⟨l,p⟩:=AG t;obtain⟨c,rfl⟩:=(r);refine⟨by rw[Au,Au,l],λj v a=>?_⟩;cases j with
   |zero=>
    simp only[Ca,Option.some.injEq]at a;exact⟨k,c,rfl,a.symm⟩
   |succ j=>
    obtain⟨b,e,d,f⟩:=p j v (by assumption);exact⟨b,e,by simpa using d,f⟩
end L2
namespace DL
open PySem L2 Nb
end DL
namespace L2
open PySem PySem.Spec PyProof.Rows
end L2
namespace DL
open PySem L2 Nb
end DL
namespace L2
open PySem PySem.Spec PyProof.Rows
end L2
namespace DL
open PySem L2 Nb
end DL
namespace L2
open PySem PySem.Spec PyProof.Rows
end L2
namespace DL
open PySem L2 Nb
section
variable{X:Cx}{o:Expr}{td:TE}{wd':DT}{pos p p2:Pos}{K:Ag}
def vD:aC->Ad
 |.inl i=>.int i
 |.inr x=>.str x
def mM(k:List aC):Ad:=.tuple (k.map vD)
theorem EI{H:Hp}{B:A'->Prop}{k:List aC}:∀{vs:List V},RdXs H B vs (k.map vD)->vs=k.map kV:=by
 induction k with
 |nil=>intro vs h;cases h;rfl
 |cons x k b=>
  intro vs h;cases h with
  |cons h t=>
   rw[b t];cases x with
   |inl i=>cases(show RdX H B _ (.int i)from h);rfl
   |inr x=>cases(show RdX H B _ (.str x)from h);rfl
end
theorem zS{X:Cx}{a b:Expr}{ta tb:TE}{wa wb:DT}{pos:Pos}(ha:DE X a ta wa)(hb:DE X b tb wb):DE X (.BinOp a .Add b pos) (cY (e9 λi j=>.int (i+j)) ta tb) (w2 wa wb (cg λi j=>.int (i+j))):=gL op_add (ze λ_ _ _ _=>.int _) ha hb
end DL
namespace L2
open PySem PySem.Spec PyProof.Rows
theorem zY{P:A3}{w:Bi}{A:Bq}(hh:A.handled=af)(it t:A')(hne:t≠it)(xs:Array Af):Draws P w A it [it,t] xs.size (λi v=>xs[i]?=ae v) (λi h=>h.IsTupleIter it t i/\h.IsTuple t xs) where
 live:=λ_ _ z=>by obtain⟨⟨o,q,_⟩,_⟩:=z;exact⟨o,q⟩
 frame:=λ_ _ _ z k=>⟨z.1.at λo e=>k it (.head _) o e,z.2.at λo e=>k t (.tail _ (.head _)) o e⟩
 item:=λi s Q E c z k=>tX z.1 z.2 (Cg c) λh' a b=>k _ h' s.toks (Cg c) ⟨a,z.2.extBut b.extBut hne⟩ b
 done:=λs Q E z k=>zc hh z.1 z.2 (by simp) k
abbrev pT(h:Heap)(l:A'):Heap:=h.push {cls:=.type "tuple_iterator",data:=.fields #[.ref l,.int 0 0]}
abbrev uz(h:Heap)(l:A'):Heap:=(pT h l).push {cls:=.type "enumerate",data:=.fields #[.none,.bool ai,.ref h.objs.size,D5 0,.none,.none]}
theorem QY(l:A')(xs:Array Af)(n:Nat)(dc:Option A')(sl:Array (Option Af)):
  Meets (Ep.«enumerate.__new__» ⟨[.type "enumerate",.ref l],[]⟩) (λ_ R s=>s.heap.get? l=ae {cls:=.type "tuple",dict:=dc,data:=.seq xs n,slots:=sl} /\
   R (.ok (.ret (.ref (pT s.heap l).objs.size))) {s with heap:=uz s.heap l}):=
 .of_wp λP w A R s h=>by
  obtain⟨f,_⟩:=s;obtain⟨a,h⟩:=h;have e:=sub_enumerate;have b:Heap.IsTuple _ l xs:=⟨_,a,rfl,n,rfl⟩
  wp_walk using Ft a
  refine wpAny_stack_any λst=>Aj ?_
  split
  ·rename_i c _ _ _ _ _;cases(c==Er "enumerate")
   ·wp_walk using Ft a,D6 b
    exact⟨_,rfl,h⟩
   ·wp_walk using Ft a,D6 b
    exact⟨_,rfl,h⟩
  ·wp_walk using Ft a,D6 b
   exact⟨_,rfl,h⟩
section
variable{prog:A3}{w:Bi}{A:Bq}{E:Af->Ai->Prop}{s:Ai}
theorem Pb{l:A'}{xs:Array Af}{Q:Af->Ai->Prop}(hl:s.heap.IsTuple l xs)
  (h:∀h',IsEnum h' (s.heap.objs.size+1) s.heap.objs.size 0 .none->h'.IsTupleIter s.heap.objs.size l 0->(∀c o,s.heap.get? c=ae o->h'.get? c=ae o)->Q (.ref (s.heap.objs.size+1)) {s with heap:=h'}):
  A6 (A9 prog w) A (call (.type "enumerate") [.ref l]) Q E s:=by
 obtain⟨⟨c,k,m,g⟩,hl,f,n,i⟩:=hl;obtain rfl:=f;obtain rfl:=i;refine callType_new F.called_enumerate ∎ (F.typeCall_enumerate_1 _) (F.newCall_enumerate_1 _) (λo=>F.args_object_init_2 o _) F.entry_enumerate_new (QY l xs n k g) ⟨hl,?_⟩;have e:(pT s.heap l).objs.size=s.heap.objs.size+1:=Co ..;have a:(uz s.heap l).get? (pT s.heap l).objs.size=ae _:=Ax _ rfl;have j:(uz s.heap l).get? s.heap.objs.size=ae _:=Ae _ (Ax _ rfl);rw[e]at a ⊢;exact⟨⟨_,a,rfl⟩,h _ a ⟨_,j,rfl,rfl⟩ λc o x=>Ae _ (Ae _ x)⟩
end
def wN(K:Ag)(a:A'):It:=
 ⟨λi H=>∃xs x,SqT K H a xs/\xs[i]?=ae x,
  λi H v H'=>∃T x,v=.ref T/\H T=af/\H'=upd H T (.tup [.int i,x])/\∀xs,SqT K H a xs->xs[i]?=ae x,
  λi H=>∃xs,SqT K H a xs/\xs.length=i⟩
theorem JP{P:A3}{w:Bi}{K:Ag}{elts:List Expr}{kk:Nat}{pos:Pos}{a e it:A'}(h1:e≠it)(h2:a≠it)(h3:e≠a):Turn P w K (.Tuple elts kk pos) (wN K a) [e,it] e
  (λi h=>(∃old,IsEnum h e it i old)/\h.IsTupleIter it a i) where
 mem:=by simp
 obj:=λi h d c b=>by
  obtain⟨⟨x,g⟩,⟨N,e1,c1,d1⟩⟩:=d;simp only[Av,Bc,h_]at b;rcases b with rfl|rfl
  ·exact⟨_,g,λv q=>by trivial⟩
  ·exact⟨N,e1,λv q=>by simp_all⟩
 keep:=λi h h' d k=>⟨d.1.imp λ_ q=>k e (by simp) _ q,d.2.at λo q=>k it (by simp) o q⟩
 item:=by
  intro X r D G b i l s σ H E I m d n;subst r D G;obtain⟨⟨old,g⟩,t⟩:=d;obtain⟨S,x,L,T⟩:=n;obtain⟨f,C,p,_⟩:=I.tuple L;obtain⟨u,Z,Y⟩:=C.get T;have j:=by simpa using(Ar.mp Z).1
  have F:e∉[it,a]:=λz=>by
   simp_all
  refine wpAny_pyNext_enum_itemD (zY (A:=X.A.in1) (I.ok.hd b) it a h2 f.toArray) g ⟨t,p⟩ j h1 F λy h' J a1 a2 O R a5 a6=>⟨_,rfl,?_⟩;obtain rfl:u=y:=by
   simp_all
  refine wpAny_letOwnedTupleGo_enum a2 λh'' b1 B=>?_;have M:∀c o,c∉[e,it]->s.heap.get? c=ae o->h''.get? c=ae o:=λc o b e=>by
   simp only[Av,Bc,h_,not_or]at b;exact B.extBut _ _ b.1 (a6 c o b.1 b.2 e)
  refine⟨.ref s.heap.objs.size,upd H s.heap.objs.size (.tup [.int i,x]),I.many m M (Al _) ⟨by show 2<=Ay;decide,[.int i J,u],.cons ⟨J,rfl⟩ (.cons Y .nil),_,(B.extBut _ _ (Fw (Aw g)) R),rfl,⟨_,rfl⟩,rfl⟩,rfl,⟨_,x,rfl,(I.hok.fresh (Al _)),rfl,λzs q=>by rw[I.tuple_inj q L];omega⟩,
   ⟨⟨u,by rw[show((i+1:Nat):Int)=i+1 from rfl];omega⟩,O.1.extBut B.extBut h1.symm⟩,λc b=>?_⟩
  have j:c < s.heap.objs.size:=by
   simp only[Av,Bc,h_]at b;rcases b with rfl|rfl
   ·exact Aw g
   ·obtain⟨_,e,_⟩:=t;exact Aw e
  rw[aG (Bf j)];exact(m c b).1
 done:=by
  intro X r D G b i l s σ H E I m d n;subst r D G;obtain⟨⟨old,g⟩,t⟩:=d;obtain⟨S,Q,hx⟩:=n;obtain⟨f,C,p,_⟩:=I.tuple Q;have hl:=C.length;have V:f.toArray.size=i:=by simp;omega
  refine wpAny_pyNext_enum_endD (zY (A:=X.A.in1) (I.ok.hd b) it a h2 f.toArray) g (by rw[V];trivial) λh' k=>⟨rfl,I.many0 m λc o b e=>?_⟩;simp only[Av,Bc,h_,not_or]at b;exact k c o b.2 e
 self:=λ_ _ _ _ _ d h=>wpAny_pyIter_enum d.1.choose_spec h
def xy(K:Ag)(ta:TA):TI:=λσ H R=>ta σ H λvs H1=>∃a,vs=[.ref a]/\(∃xs,SqT K H1 a xs)/\R (wN K a) H1
theorem Pf{X:Cx}{elts:List Expr}{kk:Nat}{tpos:Pos}{e1:Expr}{ta:TA}{p pos:Pos}(hg:Gl X "enumerate")(hm:X.mg "enumerate"=af)(ha:PA X [e1] ta)(hs:As [e1] X.env=[(ai,eval e1 X.env)]:=by rfl):
  PI X (.Tuple elts kk tpos) (.Call (.Name "enumerate" p) [e1] [] pos) (xy X.K ta):=by
 intro d s σ H R I h;refine Call_ (ll I hg hm boot_enumerate (E2 (aL (ha pos d s σ H _ I h) λus k p=>?_) (by trivial) rfl));obtain⟨y,o,f,t,l⟩:=p;obtain⟨a,e,⟨z,w⟩,q⟩:=l;subst e;cases t with
 |cons r n=>
  cases n;cases r;obtain⟨u,x,i,_⟩:=f.tuple w;have g:a < k.heap.objs.size:=by obtain⟨_,e,_⟩:=id i;exact Aw e
  refine Pb (i) λh' j v m=>wpAny_pyIter_enum j ⟨_,_,_,_,o,rfl,f.kept m,JP (Nat.succ_ne_self _) (Bf g) (Fw (Ea g)),⟨⟨_,j⟩,v⟩,λc A=>?_,q⟩;have b:k.heap.objs.size<=c:=by
   grind
  exact f.fpOk b (f.hok.fresh b)
end L2
namespace DL
open PySem L2 Nb
section
variable{X:Cx}{a b e o i f:Expr}{ta tb te td ty:TE}{wa wb we wd' wy:DT}{pos p p2:Pos}{K:Ag}
def iW(neg:Bool):Wv->Wv->Int->DQ->Prop:=λx y n Q=>(∃o,x=.ob o/\y=.d .none/\Q (.d (.bool neg)) n)\/bK neg x y n Q
theorem Ir{H:Hp}{B:A'->Prop}{t:A'}{v:V}{o:Ob}(h:WRel H B t v (.ob o)):∃a,v=.ref a:=by
 cases o with
 |o=>exact h
 |p d=>obtain⟨a,_,_,e,_⟩:=h;exact⟨a,e⟩
 |k m=>obtain⟨a,_,e,_⟩:=h;exact⟨a,e⟩
 |y m=>obtain⟨a,_,_,e,_⟩:=h;exact⟨a,e⟩
 |x m=>obtain⟨a,_,e,_⟩:=h;exact⟨a,e⟩
 |q d m=>obtain⟨a,_,_,_,e,_⟩:=h;exact⟨a,e⟩
theorem Kq:a8 (λx y H Q=>y=.non/\Q (.bl (decide (x=.non))) H) (iW ai):=λC H B σ δ n x y p q Q e R b c d k=>by
 rcases d with⟨o,rfl,rfl,h⟩|h
 ·obtain⟨a,rfl⟩:=Ir b;cases(c);exact⟨rfl,k _ _ H n R (Kp.refl _ _) (wd (.bl _)) h⟩
 ·exact xw C H B σ δ n x y p q Q e R b c h k
end
section
variable{X:Cx}{a b e o:Expr}{ta tb te td ty:TE}{wa wb we wd' wy:DT}{pos p p2:Pos}{K:Ag}{H:Hp}{B:A'->Prop}{l:List (List aC×V)}{m:List (List aC×Ad)}
def fY(m:List (List aC×Ad))(k:List aC):Bool:=m.any λkv=>decide (kv.1=k)
def fu(m:List (List aC×Ad))(k:List aC)(d:Ad):List (List aC×Ad):=if fY m k=ah then m.map (λkv=>if kv.1=k then(kv.1,d)else kv)else m++[(k,d)]
theorem RdT.any(h:RdT H B l m)(k:List aC):(l.any λkv=>decide (kv.1=k))=fY m k:=by
 unfold fY
 induction h with
 |nil=>rfl
 |cons r _ a=>rw[Dj,Dj,a,r.1]
theorem RdT.isSome(h:RdT H B l m)(k:List aC):(bX l k).isSome=fY m k:=by
 rw[<-h.any k];unfold bX;rw[Ff,List.isSome_find?]
theorem RdT.len(h:RdT H B l m):l.length=m.length:=by
 induction h with
 |nil=>rfl
 |cons _ _ a=>rw[Au,Au,a]
theorem RdT.map{v:V}{d:Ad}(h:RdT H B l m)(r:RdX H B v d)(k:List aC):RdT H B (l.map λkv=>if kv.1=k then(kv.1,v)else kv) (m.map λkv=>if kv.1=k then(kv.1,d)else kv):=by
 induction h with
 |nil=>exact .nil
 |@cons p q f c z _ a=>
  rw[Bn,Bn];refine .cons ?_ a;by_cases e:p.1=k
  ·have b:=z.1▸e;rw[b_ e,b_ b];exact⟨z.1,r⟩
  ·rw[a_ e,a_ (z.1▸e)];exact z
theorem RdT.snoc{v:V}{d:Ad}(h:RdT H B l m)(r:RdX H B v d)(k:List aC):RdT H B (l++[(k,v)]) (m++[(k,d)]):=by
 induction h with
 |nil=>exact .cons ⟨rfl,r⟩ .nil
 |cons z _ a=>exact .cons z a
theorem RdT.put{v:V}{d:Ad}(h:RdT H B l m)(r:RdX H B v d)(k:List aC):RdT H B (bG l k v) (fu m k d):=by
 unfold bG fu;rw[h.any k]
 split
 ·exact h.map r k
 ·exact h.snoc r k
def tL(i:Nat):aF:=λδ n K=>K.nx (δ.set i (ae (.odt []))) n
theorem IB{i:Nat}{x:Str}{pos':Pos}(hN:X.N.Nodup)(hi:X.N[i]?=ae x)(hx:fA X.env.scope x)(hs:Cy (.Dict [] [] p) (ae (.Name x pos')) pos.line X.env=pure ai:=by rfl)(hf:X.fn x=ah\/X.env.scope.names.lookup x=ae .local:=by first|exact .inl rfl|exact .inr rfl|assumption):
  DS X (.Assign [.Name x pos'] (.Dict [] [] p) pos) (bw EO (c8 i)) (tL i):=⟨fG hN hi hx OG hs hf,λC H B σ δ n K D R q E=>λa b=>by
  refine E.nx _ _ _ _ _ (R.own (R.new b) (Kp.new b) b (by rw[a9];simp) rfl ?_) q;exact⟨a,[],rfl,a9,.inr rfl,R.h0 b,A1 _,.nil⟩⟩
def oD(i:Nat)(w:DT):DT:=λδ n Q=>w δ n λx n1=>∃k kvs,x=.d (mM k)/\δ[i]?=ae (ae (.odt kvs))/\Q (.d (.bool !fY kvs k)) n1
theorem Qy{i:Nat}(hi:DE X a ta wa):dj (lT ta (aI i)) (oD i wa):=λC H B σ δ n Q J R h k=>
 hi.sd C H B σ δ n _ _ R h λv x g u f F y p=>by
  obtain⟨d,m,rfl,e,q⟩:=p;obtain⟨w,s,b,l,rfl,E,L,K,N,r⟩:=f.sl i _ e;refine⟨_,s,?_⟩;cases(show RdX g B v (.tuple _)from y)with
  |@tup c G _ D I M j=>
   have o:=EI j;subst o;refine⟨b,_,rfl,DGet.t E D,k _ _ g u f F (wd (.bl _)) ?_⟩;rw[r.isSome d];exact q
theorem L9{i:Nat}{x:Str}{xp:Pos}(hu:X.A.units+64 < De)(hN:X.N[i]?=ae x)(hi:DE X a ta wa)(hv:dU X.env.scope x:=by first|exact Ci rfl|exact B5 (Ci rfl)|exact B5 (B5 rfl))(hd:(x==("__debug__":Str))=ai:=by decide)
  (r_:(x==("__classdict__":Str))=ai:=by decide) (hm:Cm .NotIn (.Name x xp)=ai:=by with_unfolding_all rfl):DC X (.Compare a [.NotIn] [.Name x xp] pos) (fN (lT ta (aI i))) (cT (oD i wa)):=⟨xK (vx ⋯ hi.pe (eY hN hv hd r_)) hm,kE (Qy hi)⟩
def vJ(i:Nat)(wy wv:DT):aF:=λδ n K=>wv δ n λv n1=>∃kvs,δ[i]?=ae (ae (.odt kvs))/\wy δ n1 λy n2=>∃k d,v=.d d/\y=.d (mM k)/\kvs.length < 1000/\K.nx (δ.set i (ae (.odt (fu kvs k d)))) n2
theorem Kv{i:Nat}{x:Str}{xp sp:Pos}{j e:Expr}{tj te:TE}{wj we:DT}(hu:X.A.units+64 < De)(hN:X.N[i]?=ae x)(hj:DE X j tj wj)(he:DE X e te we)(hv:dU X.env.scope x:=by first|exact Ci rfl|exact B5 (Ci rfl)|exact B5 (B5 rfl))(hd:(x==("__debug__":Str))=ai:=by decide)
  (r_:(x==("__classdict__":Str))=ai:=by decide) (hs:Cy e (ae (.Subscript (.Name x xp) j sp)) pos.line X.env=pure ai:=by rfl):
  DS X (.Assign [.Subscript (.Name x xp) j sp] e pos) (sv (aI i) tj te) (vJ i wj we):=
 ⟨xX ⋯ (eY hN hv hd r_) hj.pe he.pe hs,λC H B σ δ n K D R q E=>
  he.sd C H B σ δ n _ _ R q λu y T U g k1 Y p=>by
   obtain⟨O,I,p⟩:=p;obtain⟨v,hv,a,l,rfl,V,r,s,e5,P⟩:=g.sl i _ I;refine⟨_,hv,hj.sd C T B σ δ U _ _ g p λw z S n2 W k Z m=>?_⟩;obtain⟨h,d,rfl,rfl,J,m⟩:=m;have G:a≠C.t:=λz=>R.t0 (z▸s);have f:=P.move λb o e n=>⟨k b o e λz=>n (z▸g.bt),n⟩;have L:l.length < 1000:=by rw[f.len];omega
   cases(show RdX S B w (.tuple _)from Z)with
   |@tup c zs _ i1 i2 i3 M=>
    have Q:=EI M;subst Q;refine⟨a,_,rfl,DPut.t (k _ _ V G) i1 (Bp L (dD (Al _))),E.nx _ _ _ _ _ (W.mutOwn I rfl hv r s ?_ rfl) m⟩;refine⟨a,_,rfl,a9,r,s,?_,?_⟩
    ·have:=qt l h u;omega
    ·exact(f.put (RdX.kp k g.bt Y) _).move λb o e n=>⟨by rw[aG λ(z:b=a)=>n (z▸r)];exact e,n⟩⟩
end
section
variable{X:Cx}{a b e o i f:Expr}{ta tb te td ty:TE}{wa wb we wd' wy:DT}{pos p p2:Pos}{K:Ag}
def iI(k:Int)(xs:List Ad):List Ad:=xs.zipIdx.map λq=>.tuple [.int (k+q.2),q.1]
theorem vb{k:Int}{xs:List Ad}:(iI k xs).length=xs.length:=by unfold iI;simp
theorem Hs{k:Int}{xs:List Ad}{i:Nat}{d:Ad}(h:(iI k xs)[i]?=ae d):∃x,xs[i]?=ae x/\d=.tuple [.int (k+i),x]:=by
 unfold iI at h;rw[Am,List.getElem?_zipIdx]at h;cases e:xs[i]? with
 |none=>rw[e]at h;cases h
 |some x=>
  refine⟨x,rfl,?_⟩;simp_all
theorem Ph{k:Int}{x:Ad}{xs:List Ad}:iI k (x::xs)=.tuple [.int k,x]::iI (k+1) xs:=by
 refine List.ext_getElem? λi=>?_;unfold iI;cases i with
 |zero=>rw[List.zipIdx_cons,Bn,Ca,Ca,Int.natCast_zero,Int.add_zero]
 |succ i=>
  rw[List.getElem?_cons_succ,Am,Am,List.getElem?_zipIdx,List.getElem?_zipIdx,List.getElem?_cons_succ];cases xs[i]? with
  |none=>rfl
  |some y=>
   show ae (PyData.tuple [.int _,y])=ae _;have:k+(0+(i+1):Nat)=k+1+(0+i:Nat):=by omega
   rw[this]
def vo(w:DT):fJ:=λδ n Q=>w δ n λx n1=>∃xs,x=.d (.tuple xs)/\Q (iI 0 xs) n1
theorem GK{elts:List Expr}{kk:Nat}{tpos:Pos}(hg:Gl X "enumerate")(hm:X.mg "enumerate"=af)(ha:DE X a ta wa)(hK:X.K=K:=by rfl)(hs:As [a] X.env=[(ai,eval a X.env)]:=by rfl)(he1:As [a] X.env=(ai,eval a X.env)::As [] X.env:=by rfl):
  DI X (.Tuple elts kk tpos) (.Call (.Name "enumerate" p) [a] [] pos) (xy K (br ta aX)) (vo wa):=by
 subst hK;refine⟨Pf hg hm (b3 ha.pe dm he1) hs,λC H B σ δ n Q Q' R q k=>ha.sd C H B σ δ n _ _ R q λv x m S O k1 Z I=>?_⟩;obtain⟨U,rfl,G⟩:=I;cases(show RdX m B v (.tuple U)from Z)with
 |@tup F g _ E W J f=>
  refine⟨F,rfl,⟨g,SqT.of E⟩,k _ _ m S O k1 (λfz s=>?_) G⟩;have u:=s.2 _ _ E W;refine⟨by rw[vb,<-f.len];exact J,λi H c w=>?_,λH c=>?_,λi H x H' d c N t=>?_⟩
  ·rw[vb]at w;have P:i < g.length:=by rw[f.len];exact w
   exact⟨g,_,SqT.of (c _ _ u),Ah P⟩
  ·exact⟨g,SqT.of (c _ _ u),by rw[vb,f.len]⟩
  ·obtain⟨T,Y,rfl,h,rfl,V⟩:=t;refine⟨λb o e=>by rw[aG (bu e h)];exact e,λB' M r=>?_⟩;obtain⟨y,t,rfl⟩:=Hs N;obtain⟨u1,j,l⟩:=f.getD t;have D:=V _ (SqT.of (c _ _ u));rw[j]at D;cases D;have L:∀b o,m b=ae o->¬B b->upd H T (.tup [.int i,Y]) b=ae o/\¬B' b:=λb o e A=>by
    have:=c _ _ (s.2 _ _ e A);exact⟨by rw[aG (bu this h)];exact this,M _ _ (s.2 _ _ e A)⟩
   rw[Int.zero_add];exact .tup a9 (λz=>r T z h) (by show 2<=Ay;decide) (.cons (.int _) (.cons (l.move L) .nil))
def qg(hs:List Str)(w:DT):DT:=λδ n Q=>w δ n λx n1=>∃a,x=.d a/\eG a=ah/\Q (.d (.bool !cC a (hs.map .str))) n1
theorem K6{q:A'}{hs:List Str}(hl:∀h∈hs,h.length<=1000)(hq:∀H,SqT K H q (hs.map V.str))(h:dj ta wa):dj (cY (gc K ah) ta (tC (.ref q))) (qg hs wa):=λC H B σ δ n Q j R z k=>
 h C H B σ δ n _ _ R z λv x b g f i d a=>by
  obtain⟨l,rfl,a⟩:=a;have c:RdXs b B _ (hs.map .str):=m7 hl;refine⟨q,_,rfl,.inr (hq b),jN d a.1,jt c ?_,k _ _ b g f i (wd (.bl _)) ?_⟩
  ·rw[List.all_map];exact E1.mpr λ_ _=>rfl
  ·rw[j3 d c];exact a.2
theorem So{q:A'}{hs:List Str}{x:Str}{xp:Pos}(ha:DE X a ta wa)(hg:Gl X x)(hm:X.mg x=ae (.ref q))(hq:∀H,SqT K H q (hs.map V.str))(hl:∀h∈hs,h.length<=1000:=by decide +kernel)(hK:X.K=K:=by rfl)(hd:(x==("__debug__":Str))=ai:=by decide)
  (hmk:Cm .NotIn (Expr.Name x xp)=ai:=by with_unfolding_all rfl):DC X (.Compare a [.NotIn] [.Name x xp] pos) (fN (cY (gc K ah) ta (tC (.ref q)))) (cT (qg hs wa)):=
 ⟨jc (uq hK) ha.pe (uB hg hm rfl hd) hmk,kE (K6 hl hq ha.sd)⟩
end
section
variable{X:Cx}{e:Expr}{te:TE}{we:DT}{pos p:Pos}
def jI(w:jf):DT:=λδ n Q=>w δ n λkvs n1=>Q (.dk kvs) n1
theorem DN.d{w:jf}(h:DN X e te w):DE X e te (jI w):=⟨h.pe,λC H B σ δ n Q u R q k=>
 h.sd C H B σ δ n _ _ R q λa l c p j f r t m s g i=>by
  refine k _ (.dk c) p j f r ⟨a,l,rfl,m,λz=>?_,g.move λb o e n=>⟨e,λz=>n (.inl z)⟩⟩ i;obtain⟨_,_⟩:=R.tp.ob;simp_all⟩
abbrev kh(w:DT):DT:=jI (iq w)
theorem Sy(hh:X.A.handled=af)(hg:Gl X "dict")(hm:X.mg "dict"=af)(he:DE X e te we)(he':As [e] X.env=(ai,eval e X.env)::As [] X.env:=by rfl)(q_:(Cw pos (As [] X.env)).any (·.1)=ai:=by rfl):DE X (.Call (.Name "dict" p) [e] [] pos) (d3 vI (br te aX)) (kh we):=
 (CB hh hg hm he (by rfl) he' q_).d
end
end DL
namespace Nb
open PySem L2 DL
theorem OT{n many:Int}{Q:DQ}(h:n < 2 ^ 40)(h0:0 < many)(h1:many < 1073741824)(k:∀r:Int,0<=r->r < many->Q (.d (.int r)) (n+1)):cm [.tp,.d (.int many)] n Q:=⟨⟨h,h0,h1⟩,k⟩
theorem tT{ds:List Ad}{r:Int}{n:Int}{Q:DQ}(h0:0<=r)(h1:r < (ds.length:Int))(k:∀d∈ds,Q (.d d) n):aw (.d (.list ds)) (.d (.int r)) n Q:=by
 obtain⟨v,_⟩:=wM h0 h1;show match cx ds r with|some d=>Q _ n|none=>False
 simp_all
theorem L6{w:DT}{Q:List Ad->Int->Prop}{aA:Sl}(c:Nat)(h:∀d n Q',n+(c:Int) < 2 ^ 39->(∀y n',n'<=n+(c:Int)->Q' (.d y) n')->w (↑d::aA) n Q'):
  ∀(items j_:List Ad)(x:Option SV)(n:Int),n+(c:Int)*(items.length:Int) < 2 ^ 39->(∀ds n',n'<=n+(c:Int)*(items.length:Int)->Q ds n')->di (aJ 0) bQ w Q items j_ (x::aA) n
 |[],j_,x,n,b,q=>q j_ n (by simp)
 |d::r,j_,x,n,b,q=>by
  rw[Au]at b q;have e:c*((r.length+1:Nat):Int)=c*(r.length:Int)+c:=by rfl
  have i:0<=c*(r.length:Int):=Int.mul_nonneg (Hi _) (Hi _);exact h d n _ ⋯ λy n' f=>L6 c h r _ _ n' ⋯ λds a g=>q ds a ⋯
theorem eQ(n:Nat):(bW 0 n).length=n:=by unfold bW;simp
theorem uS{w:DT}{Q:List Ad->Int->Prop}{aA:Sl}(P:Ad->Prop)(c:Nat)(h:∀d n Q',n+(c:Int) < 2 ^ 39->(∀y n',P y->n'<=n+(c:Int)->Q' (.d y) n')->w (↑d::aA) n Q'):
  ∀(items j_:List Ad)(x:Option SV)(n:Int),n+(c:Int)*(items.length:Int) < 2 ^ 39->(∀ds n',ds.length=items.length->(∀d∈ds,P d)->n'<=n+(c:Int)*(items.length:Int)->Q (j_++ds) n')->di (aJ 0) bQ w Q items j_ (x::aA) n
 |[],j_,x,n,f,q=>by
  have:=q [] n rfl (by simp) (by simp);rwa [Bu]at this
 |d::r,j_,x,n,f,q=>by
  rw[Au]at f q;have e:c*((r.length+1:Nat):Int)=c*(r.length:Int)+c:=by rfl
  have m:0<=c*(r.length:Int):=Int.mul_nonneg (Hi _) (Hi _);refine h d n _ ⋯ λy n' l j=>uS P c h r _ _ n' ⋯ λds a g b k=>?_;rw[A2];refine q (y::ds) a (by rw[Au,g]) (λd i=>?_) ⋯;rcases Av.mp i with rfl|z
  ·exact l
  ·exact b d z
theorem eq_str(a:Ad)(h:Str):eM a (.str h)=ae (cH h a):=by cases a<;>rfl
theorem eq_int(i j:Int):eM (.int i) (.int j)=ae (decide (i=j)):=rfl
theorem Pe{α:Type}(a:α)(r:List α):cx (a::r) 0=ae a:=d7 rfl
theorem NT{α:Type}(a b:α)(r:List α):cx (a::b::r) 1=ae b:=d7 rfl
section
variable{δ:Sl}{n:Int}{Q:DQ}{K:DEnds}{W V:aF}{i j:Nat}{a b d:Ad}{r ds:List Ad}{h:Str}
theorem aB(h:W δ n {K with nx:=λδ n=>V δ n K}):aq W V δ n K:=h
theorem av{x:Wv}(e:δ[i]?=ae (ae (.w x)))(k:Q x n):aj i δ n Q:=by unfold aj;simp_all
theorem gN{m:Nat}(e:δ[i]?=ae (↑(.tuple ds)))(e2:ds[m]?=ae a)(k:Q (.d a) n):w2 (aj i) (wC (.int (m:Int))) aw δ n Q:=by
 refine av e ?_;unfold wC aw;simp only[d7 e2];exact k
theorem dF(e:δ[i]?=ae (↑(.tuple (a::r))))(k:Q (.d a) n):w2 (aj i) (wC (.int 0)) aw δ n Q:=gN e rfl k
theorem cO(e:δ[i]?=ae (↑(.tuple (a::b::r))))(k:Q (.d b) n):w2 (aj i) (wC (.int 1)) aw δ n Q:=gN e rfl k
theorem eH(e:δ[i]?=ae (↑(.tuple (a::r))))(k:Q (.d (.bool (cH h a))) n):w2 (w2 (aj i) (wC (.int 0)) aw) (wC (.str h)) bf δ n Q:=by
 refine dF e ?_;unfold wC bf;simp only[eq_str];exact k
theorem cM{c:bZ}(k:c δ n λb n1=>if b=ah then W δ n1 K else V δ n1 K):aM c W V δ n K:=k
theorem oK(e:δ[i]?=ae (↑(.tuple (a::r))))(hT:cH h a=ah->W δ n K)(hF:cH h a=ai->V δ n K):aM (cT (w2 (w2 (aj i) (wC (.int 0)) aw) (wC (.str h)) bf)) W V δ n K:=eH e (mU hT hF)
theorem dE(e:δ[i]?=ae (↑(.tuple (a::r))))(z:cH h a=ai)(hF:V δ n K):aM (cT (w2 (w2 (aj i) (wC (.int 0)) aw) (wC (.str h)) bf)) W V δ n K:=oK e (λq=>by simp_all) λ_=>hF
theorem kl(e:δ[i]?=ae (↑(.tuple (a::r))))(z:cH h a=ah)(hT:W δ n K):aM (cT (w2 (w2 (aj i) (wC (.int 0)) aw) (wC (.str h)) bf)) W V δ n K:=oK e (λ_=>hT) λq=>by simp_all
end
theorem QP:cH "is" (.str "is")=ah:=by rfl
theorem GP:cH "is" (.str "any")=ai:=by rfl
theorem Mh:cH "is" (.str "word")=ai:=by rfl
theorem Ia:cH "is" (.str "number")=ai:=by rfl
theorem Px:cH "is" (.str "bind")=ai:=by rfl
theorem wQ:cH "is" (.str "as")=ai:=by rfl
theorem SX:cH "word" (.str "word")=ah:=by rfl
theorem SI:cH "word" (.str "number")=ai:=by rfl
theorem SS:cH "as" (.str "bind")=ai:=by rfl
theorem SM:cH "as" (.str "as")=ah:=by rfl
theorem BJ:cH "bind" (.str "bind")=ah:=by rfl
section
variable{δ:Sl}{n:Int}{Q:DQ}{K:DEnds}{W V:aF}{i j:Nat}{a b d:Ad}{r ds:List Ad}
theorem au{wa wb:DT}{g:Wv->Wv->Int->DQ->Prop}(k:wa δ n λx n1=>wb δ n1 λy n2=>g x y n2 Q):w2 wa wb g δ n Q:=k
theorem bB{w:DT}{x:Ad}(h:∀Q:DQ,Q (.d x) n->w δ n Q)(k:K.nx (δ.set i (↑x)) n):ay i w δ n K:=h _ k
theorem g6(k:K.nx (δ.set i (ae (.own []))) n):bq i (aO ak) δ n K:=⟨A1 _,k⟩
theorem cW(k:Q (.d a) n):aw (.d (.tuple (a::r))) (.d (.int 0)) n Q:=by
 show(match cx _ 0 with|some d=>Q (.d d) n|none=>False);rw[Pe];exact k
theorem e7(k:Q (.d b) n):aw (.d (.tuple (a::b::r))) (.d (.int 1)) n Q:=by
 show(match cx _ 1 with|some d=>Q (.d d) n|none=>False);rw[NT];exact k
theorem fm{c:Ad}(k:Q (.d c) n):aw (.d (.tuple (a::b::c::r))) (.d (.int 2)) n Q:=by
 show(match cx _ 2 with|some d=>Q (.d d) n|none=>False);rw[show cx _ 2=ae c from d7 rfl];exact k
theorem aH{c:Ad}(k:Q (.d c) n):wC c δ n Q:=k
theorem aT{w:DT}{g:List Wv->Int->DQ->Prop}(k:w δ n λx n1=>g [x] n1 Q):wB g (ao w ak) δ n Q:=k
theorem de{w:DT}{S:aP}(k:w δ n λx n1=>S [x] n1 Q):aD S (ao w ak) δ n Q:=k
theorem cb{w w':DT}{S:aP}(k:w δ n λx n1=>w' δ n1 λy n2=>S [x,y] n2 Q):aD S (ao w (ao w' ak)) δ n Q:=k
theorem b9{w w' w'':DT}{S:aP}(k:w δ n λx n1=>w' δ n1 λy n2=>w'' δ n2 λz n3=>S [x,y,z] n3 Q):aD S (ao w (ao w' (ao w'' ak))) δ n Q:=k
theorem a7{w:dO}(k:w δ n λds n1=>Q (.d (.list ds)) n1):bg w δ n Q:=k
theorem i9{fr:List (Option Nat)}{w e:DT}{g:dz}{c:bZ}{Q:List Ad->Int->Prop}(hw:∀Q:DQ,Q (.d (.tuple ds)) n->w δ n Q)(k:di g c e Q ds [] (jx fr δ) n):cK fr (dh w) g c e δ n Q:=hw _ k
theorem FQ(e:δ[j]?=ae (↑(.tuple ds)))(k:K.nx (δ.set i (ae (.own ds))) n):bq i (lR (aj j)) δ n K:=by
 unfold bq lR;exact av e k
theorem bN{w:DT}(k:w δ n K.rt):az w δ n K:=k
theorem Qn{wa wb wc:DT}{x y z:Int}(ha:∀Q:DQ,Q (.d (.int x)) n->wa δ n Q)(hb:∀Q:DQ,Q (.d (.int y)) n->wb δ n Q)(hc:∀Q:DQ,Q (.d (.int z)) n->wc δ n Q)(h:x<=y)(k:Q (.d (.bool (decide (y<=z)))) n):oi nf nf wa wb wc δ n Q:=by
 refine ha _ (hb _ ?_);show gm (.d (.bool (decide _))) _ _;rw[c_ h];exact hc _ k
theorem h9(e:δ[i]?=ae (ae (.own ds)))(k:W (δ.set i (↑(.list ds))) n K):bO i W δ n K:=by
 unfold bO;simp_all
theorem NI{u v:DT}(hu:∀Q:DQ,Q (.d (.bool ah)) n->u δ n Q)(hv:v δ n Q):fB u v δ n Q:=hu _ hv
theorem aE{w:DT}{k:Bool}{Q:Bool->Int->Prop}(hw:∀Q':DQ,Q' (.d (.bool k)) n->w δ n Q')(q:Q k n):cT w δ n Q:=hw _ q
theorem bo{C:bZ}(hc:∀Q:Bool->Int->Prop,Q ai n->C δ n Q)(hF:V δ n K):aM C W V δ n K:=hc _ (by rw[a_ Az];omega)
theorem bP{C:bZ}(hc:∀Q:Bool->Int->Prop,Q ah n->C δ n Q)(hT:W δ n K):aM C W V δ n K:=hc _ (by rw[b_ rfl];omega)
theorem gf{A B:bZ}{Q:Bool->Int->Prop}(ha:∀Q:Bool->Int->Prop,Q ai n->A δ n Q)(hb:B δ n Q):fW A B δ n Q:=ha _ (by rw[a_ Az];omega)
theorem md{A B:bZ}{Q:Bool->Int->Prop}(ha:∀Q:Bool->Int->Prop,Q ah n->A δ n Q)(k:Q ah n):fW A B δ n Q:=ha _ (k)
theorem ql{A B:bZ}{Q:Bool->Int->Prop}(ha:∀Q:Bool->Int->Prop,Q ah n->A δ n Q)(hb:B δ n Q):dR A B δ n Q:=ha _ (by rw[b_ rfl];omega)
theorem m5{A:bZ}{k:Bool}{Q:Bool->Int->Prop}(ha:∀Q:Bool->Int->Prop,Q k n->A δ n Q)(q:Q (!k) n):dv A δ n Q:=ha _ q
end
theorem eS{g:dz}{W:aF}{K:DEnds}(I:List Ad->Sl->Int->Prop)(h0:∀δ n,I [] δ n->K.nx δ n)
  (h1:∀d r δ n (N:Sl->Int->Prop),I (d::r) δ n->(∀δ n,I r δ n->N δ n)->g d δ λδ'=>W δ' n {K with nx:=N,ct:=N,bk:=K.nx}):∀ds δ n,I ds δ n->ew g W K ds δ n
 |[],δ,n,h=>h0 δ n h
 |d::r,δ,n,h=>h1 d r δ n _ h (eS I h0 h1 r)
section
variable{δ:Sl}{n m:Int}{Q:DQ}{K:DEnds}{W V:aF}{i j:Nat}{ds:List Ad}
theorem i6{w:DT}(e0:δ[0]?=ae (ae (.w .tp)))(hw:∀Q:DQ,Q (.d (.int m)) n->w δ n Q)(h:n < 2 ^ 40)(h0:0 < m)(h1:m < 1073741824)(k:∀r:Int,0<=r->r < m->Q (.d (.int r)) (n+1)):aD cm (ao ↥0 (ao w ak)) δ n Q:=
 cb (av e0 (hw _ (OT h h0 h1 k)))
theorem ic(e0:δ[0]?=ae (ae (.w .tp)))(h:n < 2 ^ 40)(h0:0 < m)(h1:m < 1073741824)(k:∀r:Int,0<=r->r < m->Q (.d (.int r)) (n+1)):aD cm (ao ↥0 (ao (wC (.int m)) ak)) δ n Q:=i6 e0 (λQ q=>aH q) h h0 h1 k
theorem rk(e0:δ[0]?=ae (ae (.w .tp)))(h:n < 2 ^ 40)(h0:0 < m)(h1:m < 1073741824)(k:∀r:Int,0<=r->r < m->K.nx (δ.set i (↑(.int r))) (n+1)):ay i (aD cm (ao ↥0 (ao (wC (.int m)) ak))) δ n K:=ic e0 h h0 h1 k
theorem uw{r:Int}(h0:0<=r)(h1:r < (ds.length:Int))(k:∀d∈ds,Q (.d d) n):aR (.ln ds) (.d (.int r)) n Q:=by
 obtain⟨v,_⟩:=wM h0 h1;show(match cx ds r with|some d=>Q _ n|none=>False);simp_all
theorem iC{r:Int}(h0:0<=r)(h1:r < (ds.length:Int))(k:∀d∈ds,Q (.d d) n):aR (.d (.list ds)) (.d (.int r)) n Q:=tT h0 h1 k
theorem lQ(e:δ[i]?=ae (ae (.own ds)))(k:Q (.ln ds) n):cn i δ n Q:=by
 unfold cn;simp_all
theorem kH{w:DT}{x:Ad}{es:List Ad}(e:δ[i]?=ae (ae (.own es)))(hw:∀Q:DQ,Q (.d x) m->w δ n Q)(hl:es.length < 1000000)(k:K.nx (δ.set i (ae (.own (es++[x])))) m):aW i w δ n K:=by
 unfold aW;rw[e];exact hw _ (Ao hl k)
theorem iO{w:DT}{es:List Ad}(e:δ[i]?=ae (ae (.own es)))(k:w δ n λx n1=>match x with
  |.d d=>es.length < 1000000/\K.nx (δ.set i (ae (.own (es++[d])))) n1
  |_=>False):aW i w δ n K:=by
 unfold aW;rw[e];exact k
theorem cy{w w':DT}(k:w δ n λx n1=>w' δ n1 λy n2=>match gW [x,y]with
  |some ds=>ds.length<=1000/\Q (.d (.tuple ds)) n2
  |none=>False):ax (ao w (ao w' ak)) δ n Q:=k
theorem iZ{w w' w'':DT}(k:w δ n λx n1=>w' δ n1 λy n2=>w'' δ n2 λz n3=>match gW [x,y,z]with
  |some ds=>ds.length<=1000/\Q (.d (.tuple ds)) n3
  |none=>False):ax (ao w (ao w' (ao w'' ak))) δ n Q:=k
theorem kf(k:Q (.d (.tuple ds)) n):fH [.d (.list ds)] n Q:=k
theorem uJ{a b:Int}(k:Q (.d (.bool (decide (a < b)))) n):fK (.d (.int a)) (.d (.int b)) n Q:=k
theorem jQ{a b:Int}(e:δ[i]?=ae (↑(.int a)))(hT:a < b->W δ n K)(hF:¬a < b->V δ n K):aM (cT (w2 (aj i) (wC (.int b)) fK)) W V δ n K:=by
 refine cM (au (av e (aH ?_)));show if decide _=ah then _ else _
 by_cases h:a < b
 ·rw[b_ (c_ h)];exact hT h
 ·rw[a_ (by simpa using h)];exact hF h
end
section
variable{δ:Sl}{n m:Int}{Q:DQ}{K:DEnds}{W V:aF}{i j:Nat}{ds:List Ad}
theorem LC{w w' w'' v:DT}(k:w δ n λx n1=>w' δ n1 λy n2=>w'' δ n2 λz n3=>v δ n3 λu n4=>match gW [x,y,z,u]with
  |some ds=>ds.length<=1000/\Q (.d (.tuple ds)) n4
  |none=>False):ax (ao w (ao w' (ao w'' (ao v ak)))) δ n Q:=k
theorem jm(k:Q (.d (.list [])) n):bg (aO ak) δ n Q:=Ao (A1 _) k
theorem ik(k:Q (.d (.bool ds.isEmpty)) n):bC (.ln ds) (.d (.list [])) n Q:=k
theorem iu{a b:Int}(k:Q (.d (.bool (decide (a=b)))) n):bC (.d (.int a)) (.d (.int b)) n Q:=k
theorem nQ{a b:Int}(e:δ[i]?=ae (↑(.int a)))(hT:a=b->W δ n K)(hF:¬a=b->V δ n K):aM (cT (w2 (aj i) (wC (.int b)) bC)) W V δ n K:=by
 refine cM (au (av e (aH ?_)));show if decide _=ah then _ else _
 by_cases h:a=b
 ·rw[b_ (c_ h)];exact hT h
 ·rw[a_ (by simpa using h)];exact hF h
theorem tS{a b:Int}(e:δ[i]?=ae (↑(.int a)))(hT:b < a->W δ n K)(hF:¬b < a->V δ n K):aM (cT (w2 (aj i) (wC (.int b)) uE)) W V δ n K:=by
 refine cM (au (av e (aH ?_)));show if decide _=ah then _ else _
 by_cases h:b < a
 ·rw[b_ (c_ h)];exact hT h
 ·rw[a_ (by simpa using h)];exact hF h
end
theorem mY(hs:List Str):(hs.map Eg).all eG=ah:=by
 rw[E1];intro d a;obtain⟨x,_,rfl⟩:=Ba.mp a;rfl
theorem BF{δ:Sl}{n m:Int}{K:DEnds}{W:aF}{g:dz}{L:List Ad}{wl:DT}{M:Nat}(e:δ[0]?=ae (ae (.w .tp)))(hl:∀Q:DQ,Q (.d (.list L)) n->wl δ n Q)(hn:n < 2 ^ 40)(hm:m=L.length)(h0:0 < m)(h1:m < 1000)(hL:∀d∈L,∃j:Nat,j<=M/\d=.int j)(hM:M<=1000)(k:∀j:Nat,j<=M->ew g W K (bW 0 j) δ (n+1)):
  aZ (eW (w2 wl (aD cm (ao ↥0 (ao (wC (.int m)) ak))) aR)) g W δ n K:=by
 refine au (hl _ (ic e hn h0 ⋯ λr b f=>iC b ⋯ λd a=>?_));obtain⟨j,c,rfl⟩:=hL d a;exact Ao ⟨by omega,by omega⟩ (k j c)
theorem Nd{ds:List Ad}{n:Int}{Q:DQ}(k:Q (.d (.int ds.length)) n):dJ [.ln ds] n Q:=k
theorem bh{n:Int}{Q:DQ}{i:Nat}{x:Ad}{xs:List Ad}(h:xs[i]?=ae x)(k:Q (.d x) n):aw (.d (.tuple xs)) (.d (.int (i:Nat))) n Q:=by
 show(match cx xs (i:Int)with|some d=>Q _ n|none=>False);rw[d7 h];exact k
theorem vL(xs:List Ad){p:Nat}(hp:p<=xs.length):eD xs af (ae (p:Int))=xs.take p:=by
 unfold eD;show(xs.drop 0).take (min p xs.length-0)=_;simp_all
end Nb
namespace DL
open PySem L2 Nb
section
variable{X:Cx}{K:Ag}
def RO:Option Nat->Ad
 |none=>.none
 |some i=>.int i
def ui:Option Nat->Str
 |none=>"None"
 |some i=>toString (i:Int)
def AQ:List V->Hp->VK->Prop:=λxs H Q=>(∃i:Nat,xs=[.int i]/\i < 128/\Q (.str (ui (ae i))) H)\/(xs=[.non]/\Q (.str (ui af)) H)
theorem call_reprN:CallR X (.builtin "repr") AQ:=by
 intro a s σ H d e Q I r h;rcases h with⟨i,rfl,c,q⟩|⟨rfl,q⟩
 ·obtain⟨u,rfl,t,rfl⟩:=eL r;refine PySem.P.repr_of_int (Ek (Nat.log2_le_self _) ?_) ⟨.str _,H,I.tok _,⟨_,rfl⟩,q⟩;rw[Int.natAbs_natCast];omega
 ·obtain⟨u,rfl,b⟩:=eL r;cases(b);exact P.repr_of_none ⟨.str "None",H,I.tok _,⟨_,rfl⟩,q⟩
def kK:List Wv->Int->DQ->Prop:=λxs n Q=>(∃o:Option Nat,xs=[.d (RO o)]/\(∀i,o=ae i->i < 128)/\Q (.d (.str (ui o))) n)\/ou xs n Q
theorem P4:∀i < 128,(Str.ofString (toString ((i:Nat):Int))).length<=1000:=by decide +kernel
theorem J3:cX (λxs H Q=>AQ xs H Q\/qN K xs H Q) kK:=λC H B σ δ n e xs Q f R r h k=>by
 rcases h with⟨o,rfl,b,q⟩|h
 ·refine .inl ?_;cases r with
  |cons c d=>
   cases d;cases o with
   |none=>
    cases(c);exact .inr ⟨rfl,k _ _ H n R (Kp.refl _ _) (wd (show RdX H B _ (.str _)from .str _ (by trivial))) q⟩
   |some i=>
    cases(show RdX H B _ (.int i)from c);exact .inl ⟨i,rfl,b i rfl,k _ _ H n R (Kp.refl _ _) (wd (.str _ (Q1 (P4 i (b i rfl))))) q⟩
 ·exact .inr (MZ C H B σ δ n e _ Q f R r h k)
end
end DL
namespace Nb
open PySem L2 DL
abbrev Nm:=List (Str×Ad)
inductive Fd where
 |is (v:Ad)|any|word|number|bind (x:Str)|as (x:Str)
def Fd.d:Fd->Ad
 |.is v=>.tuple [.str "is",v]
 |.any=>.tuple [.str "any"]
 |.word=>.tuple [.str "word"]
 |.number=>.tuple [.str "number"]
 |.bind x=>.tuple [.str "bind",.str x]
 |.as x=>.tuple [.str "as",.str x]
abbrev okX(x:Str):Prop:=x.length<=4/\Ec x=ah/\kx 4 (.str x)=ah
def bL:Ad->Bool
 |.str x=>decide (x.length<=8)&&(Ec x&&decide (x="a"\/x="ab"\/x="go"))
 |.int i=>decide (0<=i)&&(decide (i<=99)&&(decide (Gq (.int i)<=20)&&(PyData.intsShort 13 (.int i)&&PyData.showable (.int i))))
 |_=>ai
def Fd.ok:Fd->Prop
 |.is v=>bL v=ah
 |.bind x=>okX x
 |.as x=>okX x
 |_=>True
def eR(a b:Ad):Bool:=(eM a b).getD ai
theorem lb{a b:Ad}(ha:bL a=ah)(hb:bL b=ah):eM a b=ae (eR a b):=by
 cases a<;>first|cases ha|(cases b<;>first|cases hb|rfl)
theorem K5{a b:Ad}(ha:bL a=ah)(hb:bL b=ah)(h:eR a b=ah):a=b:=by
 cases a<;>first|cases ha|(cases b<;>first|cases hb|cases h|(rw[e_ h]))
theorem EZ{a:Ad}(ha:bL a=ah):eG a=ah:=by cases a<;>first|cases ha|rfl
def gK:Ad->Bool
 |.str _=>ah
 |_=>ai
def gz:Ad->Bool
 |.int _=>ah
 |_=>ai
def look(ps:Nm)(x:Str):Option Ad:=(ps.find? λp=>decide (p.1=x)).map (·.2)
def put(ps:Nm)(x:Str)(v:Ad):Nm:=if (ps.any λp=>decide (p.1=x))=ah then ps.map (λp=>if p.1=x then(p.1,v)else p)else ps++[(x,v)]
theorem Nf(a b:Str):decide ((Dc a:aC)=Dc b)=decide (a=b):=by
 by_cases z:a=b
 ·rw[z,c_ rfl,c_ rfl]
 ·rw[d_ z,d_ λw=>z (Sum.inr.inj w)]
theorem iB(ps:Nm)(x:Str):bA (bM ps) (.inr x)=look ps x:=by
 induction ps with
 |nil=>rfl
 |cons p r c=>
  by_cases e:p.1=x
  ·have b:bA (bM (p::r)) (.inr x)=ae p.2:=by simp[bA,bM,e]
   have a:look (p::r) x=ae p.2:=by simp[look,e]
   simp_all
  ·have b:bA (bM (p::r)) (.inr x)=bA (bM r) (.inr x):=by simp[bA,bM,e]
   have a:look (p::r) x=look r x:=by simp[look,e]
   simp_all
theorem Io(ps:Nm)(x:Str):((bM ps).any λkv=>decide (kv.1=(Dc x:aC)))=(ps.any λp=>decide (p.1=x)):=by
 unfold bM;simp
 congr 1
 funext p
 exact Nf _ _
theorem n7(ps:Nm)(x:Str)(v:Ad):ee (bM ps) (.inr x) v=bM (put ps x v):=by
 unfold ee put;rw[Io]
 split
 ·unfold bM;rw[B6,B6];apply Du;intro p _;show(if _=Dc x then _ else _)=_;by_cases e:p.1=x
  ·rw[b_ (congrArg Dc e)];show _=(Dc (if p.1=x then(p.1,v)else p).1,(if p.1=x then(p.1,v)else p).2);rw[b_ e]
  ·rw[a_ λz=>e (Sum.inr.inj z)];show _=(Dc (if p.1=x then(p.1,v)else p).1,(if p.1=x then(p.1,v)else p).2);rw[a_ e]
 ·unfold bM;simp
theorem j0{ps:Nm}{x:Str}{v:Ad}(h:look ps x=ae v):(x,v)∈ps:=by
 unfold look at h;cases e:ps.find? λp=>decide (p.1=x)with
 |none=>rw[e]at h;cases h
 |some p=>
  rw[e]at h;have a:=List.find?_some e;have:=List.mem_of_find?_eq_some e;rw[<-(e_ a),<-(Bw h)];omega
theorem qj(ps:Nm)(x:Str):(ps.any λp=>decide (p.1=x))=(look ps x).isSome:=by
 induction ps with
 |nil=>rfl
 |cons p r b=>
  by_cases e:p.1=x
  ·have a:look (p::r) x=ae p.2:=by simp[look,e]
   rw[a,Dj,c_ e];rfl
  ·have a:look (p::r) x=look r x:=by simp[look,e]
   rw[a,Dj,d_ e,Bool.false_or,b]
theorem xD(ps:Nm)(x:Str)(v:Ad):(put ps x v).map (·.1)=if (ps.any λp=>decide (p.1=x))=ah then ps.map (·.1)else ps.map (·.1)++[x]:=by
 unfold put
 split
 ·rw[B6];apply Du;intro p _;show(if p.1=x then(p.1,v)else p).1=p.1
  split<;>rfl
 ·rw[Bd];rfl
theorem uY{ps:Nm}{x:Str}{v:Ad}(h:(ps.map (·.1)).Nodup):((put ps x v).map (·.1)).Nodup:=by
 rw[xD]
 split
 ·exact h
 ·rename_i e;rw[Gg];refine⟨h,by simp,λa f b c z=>?_⟩;have c:=by simpa using c
  obtain⟨p,d,rfl⟩:=Ba.mp f;exact e (D4.mpr ⟨p,d,c_ (z.trans c)⟩)
theorem ph(ps:Nm)(x:Str)(v:Ad):(put ps x v).length<=ps.length+1:=by
 unfold put
 split
 ·rw[Ab];omega
 ·rw[An];exact Al _
def d6(p:Str×Ad):Prop:=okX p.1/\bL p.2=ah
theorem l7{ps:Nm}{x:Str}{v:Ad}(h:∀p∈ps,d6 p)(hx:okX x)(hv:bL v=ah):∀p∈put ps x v,d6 p:=by
 intro p a;unfold put at a
 split at a
 ·obtain⟨q,b,rfl⟩:=Ba.mp a
  split
  ·exact⟨(h q b).1,hv⟩
  ·exact h q b
 ·rcases A7.mp a with a|a
  ·exact h p a
  ·have:=by simpa using a
   subst this;trivial
theorem M0{ps:Nm}{x:Str}{v:Ad}(nd:(ps.map (·.1)).Nodup)(h:look ps x=ae v):put ps x v=ps:=by
 unfold put;rw[qj,h,b_ (show(ae v).isSome=ah from rfl)];have:ps.map (λp=>if p.1=x then(p.1,v)else p)=ps.map id:=by
  apply Du;intro p c
  split
  ·rename_i e;have:p=(x,v):=by
    obtain⟨i,g⟩:=B1.mp c;obtain⟨j,k⟩:=B1.mp (j0 h);have f:(ps.map (·.1))[i]?=ae x:=by rw[Am,g];exact congrArg ae e
    have a:(ps.map (·.1))[j]?=ae x:=by rw[Am,k];rfl
    obtain⟨l,d⟩:=Ar.mp f;obtain⟨m,b⟩:=Ar.mp a;have:=(Fq nd).mp (d.trans b.symm);simp_all
   rw[this];rfl
  ·rfl
 rw[this,List.map_id]
theorem BC(ps:Nm)(x:Str)(v:Ad):look (put ps x v) x=ae v:=by
 unfold put;rw[qj]
 split
 ·rename_i e
  induction ps with
  |nil=>cases e
  |cons p r c=>
   by_cases z:p.1=x
   ·simp[look,z]
   ·have b:look (p::r) x=look r x:=by simp[look,z]
    rw[b]at e;rw[Bn,a_ z];have a:look (p::r.map λp=>if p.1=x then(p.1,v)else p) x=look (r.map λp=>if p.1=x then(p.1,v)else p) x:=by simp[look,z]
    rw[a];exact c e
 ·rename_i e;have:look ps x=af:=by cases q:look ps x with|none=>rfl|some _=>rw[q]at e;exact g_ rfl e
  unfold look at this ⊢;rw[List.find?_append];cases q:ps.find? λp=>decide (p.1=x)with
  |some p=>rw[q]at this;cases this
  |none=>simp
theorem AX{ps:Nm}{x y:Str}{v:Ad}(h:y≠x):look (put ps x v) y=look ps y:=by
 unfold put
 split
 ·induction ps with
  |nil=>rfl
  |cons p r f=>
   rw[Bn];have a:look (r.map λp=>if p.1=x then(p.1,v)else p) y=look r y:=by
    by_cases q:(r.any λp=>decide (p.1=x))=ah
    ·exact f q
    ·have:r.map (λp=>if p.1=x then(p.1,v)else p)=r.map id:=by
      apply Du;intro p e;rw[a_ λz=>q (D4.mpr ⟨p,e,c_ z⟩)];rfl
     rw[this,List.map_id]
   by_cases z:p.1=x
   ·rw[b_ z];have d:¬p.1=y:=λw=>h (w.symm.trans z);have c:look ((p.1,v)::r.map λp=>if p.1=x then(p.1,v)else p) y=look (r.map λp=>if p.1=x then(p.1,v)else p) y:=by simp[look,d]
    have b:look (p::r) y=look r y:=by simp[look,d]
    rw[c,b,a]
   ·rw[a_ z];by_cases w:p.1=y
    ·simp[look,w]
    ·have c:look (p::r.map λp=>if p.1=x then(p.1,v)else p) y=look (r.map λp=>if p.1=x then(p.1,v)else p) y:=by simp[look,w]
     have b:look (p::r) y=look r y:=by simp[look,w]
     rw[c,b,a]
 ·unfold look;rw[List.find?_append];have:[(x,v)].find? (λp=>decide (p.1=y))=af:=by simp[Ne.symm h]
  rw[this,Option.or_none]
def fL(f:Fd)(v:Ad)(h bs:Nm):Bool:=match f with
 |.is w=>eR w v
 |.any=>ah
 |.word=>gK v
 |.number=>gz v
 |.as x=>match look h x with
  |some w=>eR w v
  |none=>ai
 |.bind x=>match look bs x with
  |some w=>eR w v
  |none=>ah
def wk:List (Fd×Ad)->Nm->List Str->Option Nm
 |[],h,_=>ae h
 | (.is w,v)::r,h,hs=>if eR w v=ah then wk r h hs else af
 | (.any,_)::r,h,hs=>wk r h hs
 | (.word,v)::r,h,hs=>if gK v=ah then wk r h hs else af
 | (.number,v)::r,h,hs=>if gz v=ah then wk r h hs else af
 | (.as x,v)::r,h,hs=>match look h x with
  |some w=>if eR w v=ah then wk r h hs else af
  |none=>af
 | (.bind x,v)::r,h,hs=>if x∈hs then(match look h x with
   |some w=>if eR w v=ah then wk r h hs else af
   |none=>af)else wk r (put h x v) (hs++[x])
def iX(p:Str×Ad):Ad:=.tuple [.str p.1,p.2]
def cF(ps:Nm):Ad:=.tuple (ps.map iX)
def fR(fs:List Fd):Ad:=.tuple (fs.map Fd.d)
def okN(ps:Nm):Prop:=ps.length<=40/\(ps.map (·.1)).Nodup/\∀p∈ps,d6 p
def pz(fs:List Fd):Prop:=1<=fs.length/\fs.length<=4/\∀f∈fs,f.ok
def qO(row:List Ad):Prop:=(row.length<=4/\1<=row.length)/\∀d∈row,bL d=ah
theorem zR(x y:Str)(h1:¬x.cps.toList < y.cps.toList)(h2:¬y.cps.toList < x.cps.toList):x=y:=by
 have:=List.le_antisymm (E5.mp h2) (E5.mp h1);cases x;simp_all
theorem Q5{h a b:Nm}(nd:(h.map (·.1)).Nodup)(ha:a.Perm h)(hb:b.Perm h)(ra:iL a)(rb:iL b):a=b:=by
 refine List.Perm.eq_of_pairwise (λx y f k l m=>?_) ra rb (ha.trans hb.symm);obtain⟨i,n⟩:=B1.mp (ha.mem_iff.mp f);obtain⟨j,o⟩:=B1.mp (hb.mem_iff.mp k);have g:(h.map (·.1))[i]?=ae x.1:=by rw[Am,n];rfl
 have c:(h.map (·.1))[j]?=ae x.1:=by rw[Am,o,(zR _ _ m l)];rfl
 obtain⟨p,e⟩:=Ar.mp g;obtain⟨q,d⟩:=Ar.mp c;have:=(Fq nd).mp (e.trans d.symm);simp_all
theorem jy:∀(l:List (Fd×Ad))(h:Nm)(hs:List Str)(k:Nm),(h.map (·.1)).Nodup->wk l h hs=ae k->(k.map (·.1)).Nodup
 |[],h,hs,k,a,e=>by cases e;omega
 | (.is w,v)::r,h,hs,k,a,e=>by unfold wk at e;split at e;exact jy r h hs k a e;cases e
 | (.any,v)::r,h,hs,k,a,e=>jy r h hs k a e
 | (.word,v)::r,h,hs,k,a,e=>by unfold wk at e;split at e;exact jy r h hs k a e;cases e
 | (.number,v)::r,h,hs,k,a,e=>by unfold wk at e;split at e;exact jy r h hs k a e;cases e
 | (.as x,v)::r,h,hs,k,a,e=>by
  unfold wk at e
  split at e
  ·split at e
   ·exact jy r h hs k a e
   ·cases e
  ·cases e
 | (.bind x,v)::r,h,hs,k,a,e=>by
  unfold wk at e
  split at e
  ·split at e
   ·split at e
    ·exact jy r h hs k a e
    ·cases e
   ·cases e
  ·exact jy r _ _ k (uY a) e
def tK(a b:Str×Ad):Bool:=decide (¬b.1.cps.toList < a.1.cps.toList)
def bJ(h:Nm):Nm:=h.mergeSort tK
theorem yk(h:Nm):(bJ h).Perm h:=List.mergeSort_perm h tK
theorem yc(h:Nm):iL (bJ h):=by
 have:=List.pairwise_mergeSort (le:=tK) (λa b c x y=>c_ (E5.mpr (List.le_trans (E5.mp (e_ x)) (E5.mp (e_ y))))) (λa b=>?_) h
 ·exact List.Pairwise.imp (λx=>e_ x) this
 ·rw[Bool.or_eq_true];rcases List.le_total a.1.cps.toList b.1.cps.toList with z|z
  ·exact .inl (c_ (E5.mpr z))
  ·exact .inr (c_ (E5.mpr z))
theorem xu{h h':Nm}(nd:(h.map (·.1)).Nodup)(p:h'.Perm h)(r:iL h'):h'=bJ h:=Q5 nd p (yk h) r (yc h)
def eB(fs:List Fd)(row:List Ad)(nm:Nm):Nm:=(wk (fs.zip row) nm []).getD []
def bV(fs:List Fd)(row:List Ad)(nm:Nm):Bool:=decide (fs.length=row.length)&&(wk (fs.zip row) nm []).isSome
def c9(fs:List Fd)(row:List Ad)(nm:Nm):Ad:=if bV fs row nm=ah then cF (bJ (eB fs row nm))else .none
def nU(fs:List Fd)(row:List Ad)(ps:Nm)(r:Ad):Prop:=
 if fs.length=row.length then match wk (fs.zip row) ps []with
  |none=>r=.none
  |some h=>r=cF (bJ h)
 else r=.none
theorem Nv{fs:List Fd}{row:List Ad}{ps:Nm}{r:Ad}(h:nU fs row ps r):r=c9 fs row ps:=by
 unfold nU at h;unfold c9 bV eB;by_cases e:fs.length=row.length
 ·rw[b_ e]at h;rw[c_ e];cases q:wk _ ps []with
  |none=>rw[q]at h;exact h
  |some x=>rw[q]at h;exact h
 ·rw[a_ e]at h;rw[d_ e];exact h
def iQ:aP:=λws n Q=>∃(f:Fd)(v:Ad)(hp bp:Nm),ws=[.d f.d,.d v,.dk (bM hp),.dk (bM bp)]/\f.ok/\bL v=ah/\(∀p∈hp,d6 p)/\(∀p∈bp,d6 p)/\Q (.d (.bool (fL f v hp bp))) n
def mS:aP:=λws n Q=>∃(fs:List Fd)(row:List Ad)(nm:Nm),ws=[.d (fR fs),.d (.tuple row),.d (cF nm)]/\pz fs/\qO row/\okN nm/\Q (.d (c9 fs row nm)) n
def eZ(ys:List Str):Ad:=.tuple (ys.map .str)
def oH:List Ad:=[.str "a",.int 0,.int 1,.str "ab",.str "go",.int 99]
inductive Fe where
 |any|word|num|isv (d:Ad)|bind (k:Str)|as (k:Str)|nx (k:Str)
def Fe.hd:Fe->Str
 |.any=>"any"
 |.word=>"word"
 |.num=>"number"
 |.isv _=>"is"
 |.bind _=>"bind"
 |.as _=>"as"
 |.nx _=>"next"
def Fe.tl:Fe->List Ad
 |.any=>[]
 |.word=>[]
 |.num=>[]
 |.isv d=>[d]
 |.bind k=>[.str k]
 |.as k=>[.str k]
 |.nx k=>[.str k]
def Fe.d(f:Fe):Ad:=.tuple (.str f.hd::f.tl)
abbrev fe(k:Str):Prop:=okX k
def Fe.ok:Fe->Prop
 |.isv d=>bL d=ah
 |.bind k=>fe k
 |.as k=>fe k
 |.nx k=>fe k
 |_=>True
def Fe.bd:Fe->Option Str
 |.bind k=>ae k
 |_=>af
def Fe.us:Fe->Option Str
 |.as k=>ae k
 |.nx k=>ae k
 |_=>af
def bb(fs:List Fe):List Str:=fs.filterMap Fe.bd
def Fe.pt:Fe->Bool
 |.nx _=>ai
 |_=>ah
def Fe.tm:Fe->Bool
 |.isv _=>ah
 |.as _=>ah
 |.nx _=>ah
 |_=>ai
def Fe.te:Fe->Bool
 |.isv _=>ah
 |.as _=>ah
 |_=>ai
def dP(fs:List Fe):Prop:=fs.length<=4/\∀f∈fs,f.ok
def rF:List Str->List Fe->Prop
 |_,[]=>True
 |ks,f::r=>(∀k,f.us=ae k->k∈ks)/\rF (ks++f.bd.toList) r
inductive Ac where
 |lay (fs:List Fe) (age:Ad)|take (fs:List Fe)|read (fs:List Fe)|look (fs:List Fe) (b:Nat)|same (f g:Fe) (b:Nat)|go (b:Nat)
def cz(fs:List Fe):Ad:=.tuple (fs.map Fe.d)
def Ac.d:Ac->Ad
 |.lay fs age=>.tuple [.str "lay",cz fs,age]
 |.take fs=>.tuple [.str "take",cz fs]
 |.read fs=>.tuple [.str "read",cz fs]
 |.look fs b=>.tuple [.str "look",cz fs,.int b]
 |.same f g b=>.tuple [.str "same",f.d,g.d,.int b]
 |.go b=>.tuple [.str "go",.int b]
def Ac.bs:Ac->List Str
 |.take fs=>bb fs
 |.read fs=>bb fs
 |.look fs _=>bb fs
 |_=>[]
def Ac.fs:Ac->List Fe
 |.lay fs _=>fs
 |.take fs=>fs
 |.read fs=>fs
 |.look fs _=>fs
 |.same f g _=>[f,g]
 |.go _=>[]
def Ac.to:Ac->Option Nat
 |.look _ b=>ae b
 |.same _ _ b=>ae b
 |.go b=>ae b
 |_=>af
def Ac.right(wants:List (List Str))(ks:List Str)(a:Ac):Prop:=rF ks a.fs/\∀b,a.to=ae b->∃w,wants[b]?=ae w/\∀k∈w,k∈ks
def gx(d:Ad):Prop:=d=.none\/∃i:Int,d=.int i/\1<=i/\i<=20
def fO(fs:List Fe):Prop:=1<=fs.length/\∀f∈fs,f.pt=ah
def Ac.pat:Ac->Prop
 |.take fs=>fO fs
 |.read fs=>fO fs
 |.look fs _=>fO fs
 |.lay fs age=>(∀f∈fs,f.tm=ah)/\gx age/\1<=fs.length
 |.same f g _=>f.te=ah/\g.te=ah
 |.go _=>True
def jw(a:Ac):Prop:=dP a.fs/\a.pat
abbrev Bl:=List Str×List Ac
def gg(b:Bl):Ad:=.tuple [eZ b.1,.tuple (b.2.map Ac.d)]
def gY(bs:List Bl):Ad:=.tuple (bs.map gg)
def kn(w:List Str)(as:List Ac)(p:Nat):List Str:=w++(as.take p).flatMap Ac.bs
def j8(b:Bl):Prop:=b.1.length<=4/\(∀k∈b.1,fe k)/\b.2.length<=8/\(∀a∈b.2,jw a)/\b.1.Nodup/\ie b.1
def jT(wants:List (List Str))(b:Bl):Prop:=∀(p:Nat)(a:Ac),b.2[p]?=ae a->a.right wants (kn b.1 b.2 p)
def gX:aP:=λws n Q=>ws=[.tp]/\n < 2 ^ 39/\∀v∈oH,Q (.d v) (n+1)
def k7:aP:=λws n Q=>ws=[.tp]/\n < 2 ^ 39/\∀m:Nat,1<=m->m<=4->Q (.d (.int m)) (n+1)
def tF:aP:=λws n Q=>∃ks:List Str,ws=[.tp,.ln (ks.map .str)]/\ks.length<=1000/\(∀k∈ks,fe k)/\n+9 < 2 ^ 39/\∀(fs:List Fe)(n':Int),1<=fs.length->dP fs->(∀f∈fs,f.tm=ah)->rF ks fs->n'<=n+9->Q (.d (cz fs)) n'
def qf:aP:=λws n Q=>∃ks:List Str,ws=[.tp,.ln (ks.map .str)]/\ks.length<=1000/\(∀k∈ks,fe k)/\n+2 < 2 ^ 39/\∀(f:Fe)(n':Int),f.ok->f.te=ah->(∀k,f.us=ae k->k∈ks)->n'<=n+2->Q (.d f.d) n'
def nG:aP:=λws n Q=>∃(ks:List Str)(os:List Nat)(wants:List (List Str)),ws=[.tp,.ln (ks.map .str),.d (.list (os.map λb=>.int (b:Nat)))]/\ks.length<=1000/\(∀k∈ks,fe k)/\0 < os.length/\os.length<=1000 /\
 (∀b∈os,∃w,wants[b]?=ae w/\∀k∈w,k∈ks)/\n+11 < 2 ^ 39/\∀(a:Ac)(n':Int),jw a->a.right wants ks->n'<=n+11->Q (.d (.tuple [a.d,.list (a.bs.map .str)])) n'
def oG(bs:List Bl):Prop:=1<=bs.length/\bs.length<=6/\∀b∈bs,j8 b/\jT (bs.map (·.1)) b
def rT:aP:=λws n Q=>∃(ks:List Str)(v:Wv),ws=[.tp,v]/\fQ v=ae (ks.map .str)/\ks.length<=1000/\(∀k∈ks,fe k)/\n+9 < 2 ^ 39/\∀(fs:List Fe)(n':Int),1<=fs.length->dP fs->(∀f∈fs,f.pt=ah)->rF ks fs->n'<=n+9->Q (.d (.tuple [cz fs,.list ((bb fs).map .str)])) n'
def iY(bs:List Bl):Prop:=∃w,bs.map (·.1)=[]::w
def sA:aP:=λws n Q=>ws=[.tp]/\n+600 < 2 ^ 39/\∀(bs:List Bl)(n':Int),oG bs->iY bs->n'<=n+600->Q (.d (gY bs)) n'
abbrev Hn:=Nat×Nat×Nm
def cj(h:Hn):Ad:=.tuple [.int h.1,.int h.2.1,cF h.2.2]
abbrev Nt:=List Ad×Ad
def fi(q:Nt):Ad:=.tuple [.tuple q.1,q.2]
def eO(ns:List Nt):Ad:=.tuple (ns.map fi)
def bI(hs:List Hn)(ns:List Nt):Ad:=.tuple [.tuple (hs.map cj),eO ns]
abbrev Pg:=List (List Bl)
def cZ(ps:Pg):Ad:=.tuple (ps.map gY)
def cu(ps:Pg):Prop:=ps.length<=5/\∀P∈ps,oG P
def lM(q:Nt):Prop:=qO q.1/\gx q.2
def c7(m:Nat)(ns:List Nt):Prop:=ns.length<=m/\∀q∈ns,lM q
structure okHn(b:Bl)(h:Hn):Prop where
 pl:h.2.1<=b.2.length
 nd:(h.2.2.map (·.1)).Nodup
 ok:∀p∈h.2.2,d6 p
 up:iL h.2.2
 mem:∀k,k∈h.2.2.map (·.1)↔k∈kn b.1 b.2 h.2.1
 ln:h.2.2.length<=40
theorem okHn.n{b:Bl}{h:Hn}(H:okHn b h):okN h.2.2:=⟨H.ln,H.nd,H.ok⟩
def okHs(ps:Pg)(hs:List Hn):Prop:=hs.length=ps.length/\∀(i:Nat)(P:List Bl),ps[i]?=ae P->∃(h:Hn)(b:Bl),hs[i]?=ae h/\P[h.1]?=ae b/\okHn b h
def bx(ps:Pg)(hs:List Hn)(h:Nat):Option Ac:=ps[h]?.bind λP=>hs[h]?.bind λx=>P[x.1]?.bind λb=>b.2[x.2.1]?
def p9:Option Ac->Ad
 |none=>.none
 |some a=>a.d
def Fe.fd:Fe->Fd
 |.any=>.any
 |.word=>.word
 |.num=>.number
 |.isv d=>.is d
 |.bind k=>.bind k
 |.as k=>.as k
 |.nx _=>.any
def Ac.pf:Ac->Option (List Fd)
 |.take fs=>ae (fs.map Fe.fd)
 |.read fs=>ae (fs.map Fe.fd)
 |.look fs _=>ae (fs.map Fe.fd)
 |_=>af
def Ac.wt:Ac->Bool
 |.take _=>ah
 |.read _=>ah
 |_=>ai
def aQ(fs:List Fd)(nm:Nm)(ns:List Nt):Option Nat:=ns.findIdx? λq=>bV fs q.1 nm
def qI(hs:List Hn)(h:Nat):Nm:=(hs[h]?.map (·.2.2)).getD []
def dt(ps:Pg)(hs:List Hn)(ns:List Nt)(h:Nat):Option Nat:=(bx ps hs h).bind λa=>a.pf.bind λfs=>aQ fs (qI hs h) ns
def bU(ps:Pg)(hs:List Hn)(ns:List Nt)(h:Nat):Bool:=((bx ps hs h).map λa=>!a.wt || (dt ps hs ns h).isSome).getD ai
def i7:Option Nat->Ad
 |none=>.none
 |some i=>.int i
def cq(ns:List Nt)(i:Nat):List Ad:=(ns[i]?.map (·.1)).getD []
def cR(ps:Pg)(hs:List Hn)(ns:List Nt):Prop:=cu ps/\okHs ps hs/\c7 100 ns
def jr:Ad->Ad
 |.int i=>if i=99 then .int 0 else .int (i+1)
 |d=>d
def gD(nm:Nm)(k:Str):Ad:=(look nm k).getD .none
def eI(nm:Nm):Fe->Ad
 |.isv d=>d
 |.as k=>gD nm k
 |.nx k=>jr (gD nm k)
 |_=>.none
def fS(fs:List Fe)(nm:Nm):List Ad:=fs.map (eI nm)
def kJ(P:List Bl)(b:Nat):List Str:=(P[b]?.map (·.1)).getD []
def b4(P:List Bl)(b:Nat)(nm:Nm):Hn:=(b,0,nm.filter λp=>decide (p.1∈kJ P b))
def dY(x:Hn)(nm:Nm):Hn:=(x.1,x.2.1+1,nm)
def aU(hs:List Hn)(h:Nat)(x:Hn):List Hn:=hs.take h++x::hs.drop (h+1)
def je:Ad->Ad
 |.int i=>.int (i-1)
 |d=>d
def fP:Ad->Bool
 |.int i=>decide (i=1)
 |_=>ai
def dy(ns:List Nt):List Nt:=(ns.filter λq=>!fP q.2).map λq=>(q.1,je q.2)
def cw(ns:List Nt)(i:Nat):List Nt:=ns.take i++ns.drop (i+1)
def bj(fs:List Fe)(x:Hn)(ns:List Nt):Option (Nat×Hn):=(aQ (fs.map Fe.fd) x.2.2 ns).map λi=>(i,dY x (bJ (eB (fs.map Fe.fd) (cq ns i) x.2.2)))
def nV(P:List Bl)(x:Hn)(ns:List Nt):Ac->Option (Hn×List Nt)
 |.lay fs age=>ae (dY x x.2.2,ns++[(fS fs x.2.2,age)])
 |.go b=>ae (b4 P b x.2.2,ns)
 |.same f g b=>ae (if eR (eI x.2.2 f) (eI x.2.2 g)=ah then dY x x.2.2 else b4 P b x.2.2,ns)
 |.take fs=>(bj fs x ns).map λq=>(q.2,cw ns q.1)
 |.read fs=>(bj fs x ns).map λq=>(q.2,ns)
 |.look fs b=>match bj fs x ns with
  |some q=>ae (q.2,ns)
  |none=>ae (b4 P b x.2.2,ns)
def dw(ps:Pg)(hs:List Hn)(ns:List Nt)(h:Nat):Option (List Hn×List Nt):=ps[h]?.bind λP=>hs[h]?.bind λx=>(bx ps hs h).bind λa=>(nV P x ns a).map λr=>(aU hs h r.1,r.2)
def bz(ps:Pg)(hs:List Hn)(ns:List Nt)(m:Nat):Option (List Hn×List Nt):=if m=ps.length then ae (hs,dy ns)else dw ps hs ns m
def hU:Option (List Hn×List Nt)->Ad
 |none=>.none
 |some r=>bI r.1 r.2
def dH(nm:Nm)(f:Fe):Prop:=f.ok/\f.tm=ah/\∀k,f.us=ae k->∃v,look nm k=ae v/\bL v=ah
def t8:aP:=λws n Q=>∃i m:Int,ws=[.d (.int i),.d (.int m)]/\0<=i/\i<=m/\Q (.d (.bool ah)) n
def sx:aP:=λws n Q=>∃v,ws=[.d v]/\bL v=ah/\Q (.d (jr v)) n
def mG:aP:=λws n Q=>∃(f:Fe)(nm:Nm),ws=[.d f.d,.dk (bM nm)]/\dH nm f/\Q (.d (eI nm f)) n
def qd:aP:=λws n Q=>∃(fs:List Fe)(nm:Nm),ws=[.d (cz fs),.d (cF nm)]/\fs.length<=4/\(∀f∈fs,dH nm f)/\okN nm/\Q (.d (.tuple (fS fs nm))) n
def sG:aP:=λws n Q=>∃(f g:Fe)(b:Nat)(nm:Nm),ws=[.d (Ac.same f g b).d,.d (cF nm)]/\dH nm f/\dH nm g/\f.te=ah/\g.te=ah/\okN nm/\Q (.d (.bool (eR (eI nm f) (eI nm g)))) n
def lj:aP:=λws n Q=>∃(x:Hn)(nm:Nm),ws=[.d (cj x),.d (cF nm)]/\Q (.d (cj (dY x nm))) n
def lW:aP:=λws n Q=>∃(P:List Bl)(b:Nat)(nm:Nm)(w:Bl),ws=[.d (gY P),.d (.int b),.d (cF nm)]/\P[b]?=ae w/\w.1.length<=4/\Q (.d (cj (b4 P b nm))) n
def iA:aP:=λws n Q=>∃(hs:List Hn)(h:Nat)(x:Hn),ws=[.d (.tuple (hs.map cj)),.d (.int h),.d (cj x)]/\h < hs.length/\hs.length<=5/\Q (.d (.tuple ((aU hs h x).map cj))) n
def nT:aP:=λws n Q=>∃(ps:Pg)(hs:List Hn)(ns:List Nt)(h:Nat)(a:Ac),ws=[.d (cZ ps),.d (bI hs ns),.d (.int h),.d a.d]/\cR ps hs ns/\h < ps.length/\bx ps hs h=ae a/\a.pf.isSome=ah/\Q (.d (hU (dw ps hs ns h))) n
def qJ:aP:=λws n Q=>∃(ps:Pg)(hs:List Hn)(ns:List Nt)(h:Nat),ws=[.d (cZ ps),.d (bI hs ns),.d (.int h)]/\cR ps hs ns/\h < ps.length/\Q (.d (hU (dw ps hs ns h))) n
def u4:aP:=λws n Q=>∃q:Nt,ws=[.d (fi q)]/\gx q.2/\Q (.d (fi (q.1,je q.2))) n
def tG:aP:=λws n Q=>∃(hs:List Hn)(ns:List Nt),ws=[.d (bI hs ns)]/\(∀q∈ns,gx q.2)/\Q (.d (bI hs (dy ns))) n
def d5:aP:=λws n Q=>∃(ps:Pg)(hs:List Hn)(ns:List Nt)(m:Nat),ws=[.d (cZ ps),.d (bI hs ns),.d (.int m)]/\cR ps hs ns/\m<=ps.length/\Q (.d (hU (bz ps hs ns m))) n
def gV:aP:=λws n Q=>∃(ps:Pg)(hs:List Hn)(ns:List Nt)(m:Nat)(r:List Hn×List Nt),ws=[.d (cZ ps),.d (bI hs ns),.d (.int m)]/\cR ps hs ns/\m<=ps.length/\bz ps hs ns m=ae r/\Q (.d (bI r.1 r.2)) n
def nA:aP:=λws n Q=>∃(ps:Pg)(hs:List Hn)(ns:List Nt)(h:Nat),ws=[.d (cZ ps),.d (bI hs ns),.d (.int h)]/\okHs ps hs/\h < ps.length/\Q (.d (p9 (bx ps hs h))) n
def sf:aP:=λws n Q=>∃(ps:Pg)(hs:List Hn)(ns:List Nt)(h:Nat),ws=[.d (cZ ps),.d (bI hs ns),.d (.int h)]/\cR ps hs ns/\h < ps.length/\Q (.d (i7 (dt ps hs ns h))) n
def my:aP:=λws n Q=>∃m:Nat,ws=[.tp,.d (.int m)]/\m<=12/\n+100 < 2 ^ 39/\∀(ns:List Nt)(n':Int),c7 m ns->n'<=n+100->Q (.d (eO ns)) n'
def rN:aP:=λws n Q=>∃(P:List Bl)(i p:Nat)(b:Bl),ws=[.d (gY P),.d (.int i),.d (.int p)]/\P[i]?=ae b/\j8 b/\p<=b.2.length/\∀ys:List Str,ys.Nodup->(∀k∈ys,fe k)->ie ys->(∀k,k∈ys↔k∈kn b.1 b.2 p)->Q (.d (.list (ys.map .str))) n
def sR:aP:=λws n Q=>∃i:Int,ws=[.d (.int i)]/\Q (.d (.bool ah)) n
def oO:aP:=λws n Q=>∃(ps:Pg)(m:Nat),ws=[.tp,.d (cZ ps),.d (.int m)]/\m<=6/\cu ps/\n+400 < 2 ^ 39/\∀(hs:List Hn)(ns:List Nt)(n':Int),okHs ps hs->c7 m ns->n'<=n+400->Q (.d (bI hs ns)) n'
def rD:aP:=λws n Q=>ws=[.tp]/\n+3000 < 2 ^ 39/\∀(ps:Pg)(hs:List Hn)(ns:List Nt)(n':Int),cu ps->okHs ps hs->c7 4 ns->n'<=n+3000->Q (.d (.tuple [cZ ps,bI hs ns])) n'
def rQ:aP:=mS
def sJ:aP:=qd
def uh:aP:=λws n Q=>∃(ps:Pg)(hs:List Hn)(h:Nat),ws=[.d (cZ ps),.d (.tuple (hs.map cj)),.d (.int h)]/\okHs ps hs/\h < ps.length/\Q (.d (p9 (bx ps hs h))) n
def fU(fs:List Fd)(nm:Nm)(ns:List Nt):Ad:=match aQ fs nm ns with
 |none=>.none
 |some i=>.tuple [.int (i:Nat),cF (bJ (eB fs (cq ns i) nm))]
def mB:aP:=λws n Q=>∃(a:Ac)(fs:List Fd)(ns:List Nt)(nm:Nm),ws=[.d a.d,.d (eO ns),.d (cF nm)]/\jw a/\a.pf=ae fs/\c7 100 ns/\okN nm/\Q (.d (fU fs nm ns)) n
def iz(ps:Pg)(hs:List Hn)(ns:List Nt):List Nat:=(Be (ps.length+1)).filter λi=>(bz ps hs ns i).isSome
def hG:aP:=λws n Q=>∃(ps:Pg)(hs:List Hn)(ns:List Nt),ws=[.d (cZ ps),.d (bI hs ns)]/\cR ps hs ns/\Q (.d (.list ((iz ps hs ns).map λi=>.int (i:Nat)))) n
inductive Bs where
 |notes (fs:List Fd) (k:Nat)|at(h b p:Nat)|ended (h:Nat)
def holds(fs:List Fd)(row:List Ad):Bool:=bV fs row []
def many(fs:List Fd)(ns:List Nt):Nat:=(ns.filter λq=>holds fs q.1).length
def Sg:Nat->Type
 |0=>Bs
 |t+1=>Bs ⊕ ((Bool×List (Sg t)) ⊕ Sg t)
end Nb
namespace L2
open PySem PySem.Spec PyProof.Rows
abbrev XP:=TK×A'×V
def b8(ps:List XP)(k:TK):Option V:=(ps.find? λp=>decide (p.1=k)).map (·.2.2)
def cS(ps:List XP)(k:TK)(b:A')(v:V):List XP:=if (b8 ps k).isSome=ah then ps.map (λp=>if p.1=k then(p.1,p.2.1,v)else p)else ps++[(k,b,v)]
abbrev KX:List XP->List (TK×A'×Af)->Prop:=Paired λp q=>p.1=q.1/\p.2.1=q.2.1/\RelV p.2.2 q.2.2
theorem KX.val{ps:List XP}{xs:List (TK×A'×Af)}(r:KX ps xs)(k:TK):RelO (b8 ps k) ((atKey xs k).map (·.2)):=by
 induction r with
 |nil=>exact Gu
 |@cons p q ps d h t i=>
  obtain⟨f,_,g⟩:=h;by_cases e:p.1=k
  ·have a:=f.symm.trans e;have b:atKey (q::d) k=ae q.2:=by simp[atKey,a]
   have c:b8 (p::ps) k=ae p.2.2:=by simp[b8,e]
   rw[c,b];exact g
  ·have a:¬q.1=k:=λz=>e (f.trans z);have b:atKey (q::d) k=atKey d k:=by simp[atKey,a]
   have c:b8 (p::ps) k=b8 ps k:=by simp[b8,e]
   simp_all
theorem KX.repl{ps:List XP}{xs:List (TK×A'×Af)}(r:KX ps xs)(k:TK){y:V}{u:Af}(ry:RelV y u):KX (ps.map λp=>if p.1=k then(p.1,p.2.1,y)else p) (xs.map (putAt k u)):=by
 induction r with
 |nil=>exact .nil
 |@cons p q ps d h t c=>
  rw[Bn];refine .cons ?_ c;obtain⟨a,b,f⟩:=h;unfold putAt;by_cases e:p.1=k
  ·rw[b_ e,b_ (a.symm.trans e)];exact⟨a,b,ry⟩
  ·rw[a_ e,a_ (λz=>e (a.trans z))];trivial
theorem KX.put{ps:List XP}{xs:List (TK×A'×Af)}(r:KX ps xs)(k:TK){b:A'}{y:V}{u:Af}(ry:RelV y u):KX (cS ps k b y) (storedH xs k b u):=by
 have e:(b8 ps k).isSome=(atKey xs k).isSome:=by rw[(r.val k).isSome_eq,Ff]
 unfold cS storedH;rw[e];by_cases q:(atKey xs k).isSome=ah
 ·rw[b_ q,b_ q];exact r.repl k ry
 ·rw[a_ q,a_ q];exact Paired.snoc r ⟨rfl,rfl,ry⟩
theorem tJ(ps:List XP)(k:TK)(b:A')(v:V):(cS ps k b v).length<=ps.length+1:=by
 unfold cS
 split
 ·rw[Ab];omega
 ·rw[An,A4];omega
def gA(K:Ag)(H:Hp)(ps:List XP):Prop:=∀p∈ps,RdD K H (.ref p.2.1) p.1.1
section
variable{X:Cx}{i_:List (A'×Obj)}{σ:St}{H:Hp}{s:Ai}{a b:A'}{v d:V}{u r:Af}{ps:List XP}{k:TK}{A:Bq}{E:Af->Ai->Prop}
theorem nO(I:Inv X i_ σ H s)(e:RdD X.K H (.ref b) k.1):(ny X.prog X.w).is s.heap k b:=RdD.reads I e (show RelV _ (.ref b)from rfl)
theorem lY(I:Inv X i_ σ H s)(e:Rd H a (.dX ps))(hk:gA X.K H ps):ps.length<=Ay/\(a==Dk)=ai/\∃xs,KX ps xs/\s.heap.DictOfH (ny X.prog X.w) a xs:=by
 obtain⟨z,y,xs,c,o,n,v,u,h,j,k,i⟩:=(show ObjOk X.prog X.w H s.heap a (.dX ps)from e.ok I.hok);refine⟨z,y,xs,c,o,n,v,u,h,j,k,λx b=>?_,i⟩;have d:∀{l:List XP}{m:List _},KX l m->gA X.K H l->∀x∈m,(ny X.prog X.w).is s.heap x.1 x.2.1:=by
  intro l m q
  induction q with
  |nil=>intro _ x b;trivial
  |@cons p q ps C g t A=>
   intro f x b;rcases Av.mp b with e|b
   ·subst e;have:=f p Ap;rw[g.1,g.2.1]at this;exact nO I this
   ·exact A (λp r=>f p (Ak _ r)) x b
 exact d c hk x b
theorem OV{Q:Af->Ai->Prop}(hu:A.units+64 < De)(I:Inv X i_ σ H s)(e:Rd H a (.dX ps))(hk:gA X.K H ps)(eb:RdD X.K H (.ref b) k.1)(l:b8 ps k=ae v)(h:∀w' s',Inv X i_ σ H s'->RelV v w'->Q w' s'):
  A6 (A9 X.prog X.w) A (getItem (.ref a) (.ref b)) Q E s:=by
 obtain⟨z,n,m,c,g⟩:=lY I e hk;obtain⟨w',i,f⟩:=RelO.some_of (by rw[<-l];exact c.val k);obtain⟨p,j,d⟩:=E4.mp i;refine wpAny_getItem_heap (show A.in1.units+16 < De by simp;omega) (nO I eb) g j ?_;rw[d];exact h w' _ (I.tok _) f
theorem Sq{Q:Af->Ai->Prop}(hu:A.units+64 < De)(I:Inv X i_ σ H s)(e:Rd H a (.dX ps))(hk:gA X.K H ps)(eb:RdD X.K H (.ref b) k.1)(h:∀s',Inv X i_ σ H s'->Q (.bool (!(b8 ps k).isSome)) s'):
  A6 (A9 X.prog X.w) A (B3 .NotIn (.ref b) (.ref a)) Q E s:=by
 obtain⟨z,f,g,c,d⟩:=lY I e hk;refine wpAny_notIn_heap (show A.in1.units+16 < De by simp;omega) (nO I eb) f d ?_;have q:=(c.val k).isSome_eq;rw[Ff]at q;rw[<-q];exact h _ (I.tok _)
theorem HM{Q:Unit->Ai->Prop}(hu:A.units+64 < De)(I:Inv X i_ σ H s)(e:H a=ae (.dX ps))(hk:gA X.K H ps)(eb:RdD X.K H (.ref b) k.1)(l:ps.length < Ay)(rv:RelV v r)(h:∀s',Inv X i_ σ (upd H a (.dX (cS ps k b v))) s'->Q () s'):
  A6 (A9 X.prog X.w) A (setItem (.ref a) (.ref b) r) Q E s:=by
 obtain⟨z,t,x,c,g⟩:=lY I (.inl e) hk;have B:x.length<=Ay:=by rw[<-D1 c];exact z
 have m:(cS ps k b v).length<=Ay:=by have:=tJ ps k b v;omega
 refine wpAny_setItem_heap (show A.in1.units+16 < De by simp;omega) (nO I eb) g λh' d y=>h _ ?_;obtain⟨q,p,u,f,i,n,o,_,j⟩:=d;exact kX I (by rw[e];trivial) y ⟨q,f⟩ ⟨m,t,_,c.put k rv,q,p,u,f,i,n,o,j⟩
end
def XGet(K:Ag)(H:Hp)(a:A')(y:V)(r:Option V):Prop:=∃ps k b,Rd H a (.dX ps)/\gA K H ps/\y=.ref b/\RdD K H (.ref b) k.1/\r=b8 ps k
def mT(K:Ag)(H:Hp)(a:A')(y v:V)(H':Hp):Prop:=∃ps k b,H a=ae (.dX ps)/\gA K H ps/\y=.ref b/\RdD K H (.ref b) k.1/\ps.length < Ay/\H'=upd H a (.dX (cS ps k b v))
def BB(K:Ag)(H:Hp)(a:A'):Prop:=∃ps,Rd H a (.dX ps)/\gA K H ps
def xS(K:Ag)(td ty:TE):TE:=λσ H Q=>td σ H λx H1=>ty σ H1 λy H2=>∃a v,x=.ref a/\XGet K H2 a y (ae v)/\Q v H2
def qc(K:Ag)(ty td:TE):TE:=λσ H Q=>ty σ H λy H1=>td σ H1 λx H2=>∃a o,x=.ref a/\XGet K H2 a y o/\Q (.bl (!o.isSome)) H2
def ud(K:Ag)(td ty tv:TE):TS:=λD σ H=>tv σ H λv H1=>td σ H1 λx H2=>ty σ H2 λy H3=>∃a H4,x=.ref a/\mT K H3 a y v H4/\D.nx σ H4
section
variable{X:Cx}{i_:List (A'×Obj)}{σ:St}{H:Hp}{s:Ai}{a:A'}
theorem LX(I:Inv X i_ σ H s)(h:BB X.K H a):s.TypeIs (.ref a) "dict":=by
 obtain⟨f,e,c⟩:=h;obtain⟨_,_,d,_,b⟩:=lY I e c;exact b.typeIs
theorem XGet.isX{y:V}{r:Option V}(g:XGet X.K H a y r):BB X.K H a:=let⟨c,_,_,e,b,_⟩:=g;⟨c,e,b⟩
end
section
variable{X:Cx}{o i e f value:Expr}{pos pos' tpos apos cpos:Pos}{td ty tv tx:TE}
theorem Mr(hu:X.A.units+64 < De)(ho:PE X o td)(hi:PE X i ty)(hs:gw i):PE X (.Subscript o i pos) (xS X.K td ty):=by
 intro c s σ H Q I h;refine vp PySem.F.slot_dict_getitem.lookup hs (aL (ho c s σ H _ I h) λu D ⟨x,t,B,r,p⟩=>aL (hi c D σ t _ B p) λiv G u=>?_);obtain⟨y,q,f,z,a,v,C,g,j⟩:=u;subst C;obtain rfl:=r;have ty:=LX f g.isX;obtain⟨E,k,b,e,n,rfl,m,l⟩:=g;obtain rfl:=z;exact⟨ty,OV hu f e n m l.symm λw' J w d=>⟨v,q,w,d,j⟩⟩
theorem N9(hu:X.A.units+64 < De)(hi:PE X i ty)(ho:PE X o td):PC X .NotIn i o (qc X.K ty td):=by
 intro c s σ H Q I h;refine aL (hi c s σ H _ I h) λiv z ⟨y,q,v,t,m⟩=>aL (ho c z σ q _ v m) λu C u=>?_;obtain⟨x,n,d,p,a,D,w,g,f⟩:=u;subst w;obtain rfl:=p;obtain⟨B,k,b,e,l,rfl,j,rfl⟩:=g;obtain rfl:=t;exact Sq hu d e l j λs3 r=>⟨.bl _,n,r,rfl,f⟩
theorem FR(hu:X.A.units+64 < De)(ho:PE X o td)(hi:PE X i ty)(hv:PE X value tv)(hs:Cy value (ae (.Subscript o i pos')) pos.line X.env=pure ai):
  PS X (.Assign [.Subscript o i pos'] value pos) (ud X.K td ty tv):=by
 intro c s σ H D I h;refine wpAny_Assign_Subscript (aL (hv c s σ H _ I h) λr J ⟨v,z,E,w,p⟩=>aL (ho c J σ z _ E p) λu F ⟨x,q,d,t,f⟩=>aL (hi c F σ q _ d f) λiv O u=>?_) hs;obtain⟨y,N,B,C,a,P,G,g,L⟩:=u;subst G;obtain rfl:=t;obtain⟨M,k,b,e,n,rfl,j,l,rfl⟩:=g;obtain rfl:=C;exact HM hu B e n j l w λs4 m=>⟨σ,_,m,L⟩
end
end L2
namespace DL
open PySem L2 Nb
def aY(m:List (TK×Ad))(k:TK):Option Ad:=(m.find? λq=>decide (q.1=k)).map (·.2)
def fT(m:List (TK×Ad))(k:TK)(d:Ad):List (TK×Ad):=if (aY m k).isSome=ah then m.map (λq=>if q.1=k then(q.1,d)else q)else m++[(k,d)]
section
variable{H:Hp}{B:A'->Prop}{l:List (TK×A'×V)}{m:List (TK×Ad)}
theorem RdY.len(h:RdY H B l m):l.length=m.length:=D1 h
theorem RdY.keys{K:Ag}(h:RdY H B l m):gA K H l:=by
 induction h with
 |nil=>exact λp c=>nomatch c
 |@cons p q f e d t b=>
  intro x a;rcases Av.mp a with rfl|a
  ·exact d.2.1.rd
  ·exact b x a
theorem RdY.val(h:RdY H B l m)(k:TK):(b8 l k=af/\aY m k=af)\/∃v d,b8 l k=ae v/\aY m k=ae d/\RdX H B v d:=by
 induction h with
 |nil=>exact .inl ⟨rfl,rfl⟩
 |@cons p q c f b t j=>
  by_cases e:p.1=k
  ·have a:=b.1.symm.trans e;exact .inr ⟨_,q.2,by simp[b8,e],by simp[aY,a],b.2.2⟩
  ·have a:¬q.1=k:=λz=>e (b.1.trans z);have g:b8 (p::c) k=b8 c k:=by simp[b8,e]
   have i:aY (q::f) k=aY f k:=by simp[aY,a]
   rw[g,i];omega
theorem RdY.isSome(h:RdY H B l m)(k:TK):(b8 l k).isSome=(aY m k).isSome:=by
 rcases h.val k with⟨b,a⟩|⟨v,d,b,a,_⟩<;>rw[b,a]<;>rfl
theorem RdY.put{v:V}{d:Ad}{b:A'}{k:TK}(h:RdY H B l m)(rb:RdX H B (.ref b) k.1)(r:RdX H B v d):RdY H B (cS l k b v) (fT m k d):=by
 have e:=h.isSome k;have g:RdY H B (l.map λp=>if p.1=k then(p.1,p.2.1,v)else p) (m.map λq=>if q.1=k then(q.1,d)else q):=by
  clear e
  induction h with
  |nil=>exact .nil
  |@cons p q i j a t f=>
   rw[Bn,Bn];refine .cons ?_ f;by_cases e:p.1=k
   ·rw[b_ e,b_ (a.1.symm.trans e)];exact⟨a.1,a.2.1,r⟩
   ·rw[a_ e,a_ λz=>e (a.1.trans z)];omega
 unfold cS fT;rw[e];by_cases z:(aY m k).isSome=ah
 ·rw[b_ z,b_ z];omega
 ·rw[a_ z,a_ z];exact Paired.snoc h ⟨rfl,rb,r⟩
end
section
variable{X:Cx}{a b c e o i f:Expr}{ta tb te td ty tx:TE}{wa wb we wd' wy wx:DT}{pos p:Pos}{K:Ag}
def d9(i:Nat):DT:=λδ n Q=>match δ[i]? with
 |some (ae (.odx kvs))=>Q (.dx kvs) n
 |some (ae (.w (.ob (.x kvs))))=>Q (.dx kvs) n
 |some (ae (.w x))=>Q x n
 |_=>False
theorem sZ(i:Nat){x:Str}{p:Pos}(hN:X.N[i]?=ae x:=by rfl)(hv:dU X.env.scope x:=by first|exact Ci rfl|exact B5 (Ci rfl)|exact B5 (B5 rfl))(hd:(x==("__debug__":Str))=ai:=by decide)
  (r_:(x==("__classdict__":Str))=ai:=by decide):DE X (.Name x p) (aI i) (d9 i):=⟨eY hN hv hd r_,λC H B σ δ n Q o R h k=>by
 unfold d9 at h
 split at h
 ·rename_i b e;obtain⟨v,c,a,l,rfl,f,g,m,q,d⟩:=R.sl i _ e;exact⟨_,c,k _ (.dx b) H n R (Kp.refl _ _) ⟨a,l,rfl,f,λz=>R.t0 (z▸m),d⟩ h⟩
 ·rename_i b e;obtain⟨v,c,⟨a,l,rfl,f,g,d⟩,_⟩:=R.sl i _ e;exact⟨_,c,k _ (.dx b) H n R (Kp.refl _ _) ⟨a,l,rfl,f,λz=>g (z▸R.bt),d⟩ h⟩
 ·rename_i x _ e;obtain⟨v,c,j⟩:=R.sl i _ e;exact⟨v,c,k v x H n R (Kp.refl _ _) j.1 h⟩
 ·exact h.elim⟩
def nB(d:Ad)(k:TK):Prop:=d=k.1/\∃ds,d=.tuple ds
theorem nz{H:Hp}{B:A'->Prop}{u:V}{d:Ad}{k:TK}(r:RdX H B u d)(h:nB d k):∃b,u=.ref b/\RdX H B (.ref b) k.1:=by
 obtain⟨rfl,j,e⟩:=h;rw[e]at r;cases r with
 |tup i a f g=>exact⟨_,rfl,by rw[e];exact .tup i a f g⟩
def gq(x:Wv)(kvs:List (TK×Ad)):Prop:=x=.dx kvs\/x=.ob (.y kvs)
theorem WRel.rdX{H:Hp}{B:A'->Prop}{t:A'}{v:V}{x:Wv}{kvs:List (TK×Ad)}(ht:B t)(h:gq x kvs)(r:WRel H B t v x):∃a l,v=.ref a/\Rd H a (.dX l)/\a≠t/\RdY H B l kvs:=by
 rcases h with rfl|rfl
 ·obtain⟨a,l,e,b,d,c⟩:=r;exact⟨a,l,e,.inl b,d,c⟩
 ·obtain⟨a,o,l,e,b,d,c⟩:=(show ORel H B v (.y kvs)from r);exact⟨a,l,e,.inr ⟨o,b⟩,λz=>d (z▸ht),c⟩
def mD:Wv->Wv->Int->DQ->Prop:=λx y n Q=>∃kvs d k v,gq x kvs/\y=.d d/\nB d k/\aY kvs k=ae v/\Q (.d v) n
theorem NY(hu:X.A.units+64 < De)(ho:DE X o td wd')(hi:DE X i ty wy)(hK:X.K=K:=by rfl)(hs:gw i:=by exact λ_ _=>rfl):DE X (.Subscript o i pos) (xS K td ty) (w2 wd' wy mD):=by
 subst hK;exact⟨Mr hu ho.pe hi.pe hs,λC H B σ δ n Q U R h k=>
 ho.sd C H B σ δ n _ _ R h λv x I J j S M D=>hi.sd C I B σ δ J _ _ j D λu y F G m g N s=>by
  obtain⟨t,d,c,w,L,rfl,z,e,q⟩:=s;obtain⟨a,l,rfl,P,V,p⟩:=WRel.rdX m.bt L (M.kp g j.bt);obtain⟨b,rfl,O⟩:=nz (N) z;rcases p.val c with⟨r,f⟩|⟨v,T,r,f,E⟩
  ·rw[f]at e;cases e
  ·rw[f]at e;cases e;exact⟨a,v,rfl,⟨l,c,b,P,p.keys,rfl,O.rd,r.symm⟩,k v (.d _) F G m (S.trans g) E q⟩⟩
def i8(neg:Bool):Wv->Wv->Int->DQ->Prop:=λy x n Q=>∃kvs d k,gq x kvs/\y=.d d/\nB d k/\Q (.d (.bool (if neg then !(aY kvs k).isSome else(aY kvs k).isSome))) n
theorem Mz(hi:DE X i ty wy)(ho:DE X o td wd'):dj (qc K ty td) (w2 wy wd' (i8 ah)):=λC H B σ δ n Q L R h k=>
 hi.sd C H B σ δ n _ _ R h λv x z A f J E s=>ho.sd C z B σ δ A _ _ f s λu y t w g e F m=>by
  obtain⟨p,d,c,D,rfl,r,q⟩:=m;obtain⟨a,l,rfl,I,M,j⟩:=WRel.rdX g.bt D F;obtain⟨b,rfl,G⟩:=nz ((E.kp e f.bt)) r;refine⟨a,_,rfl,⟨l,c,b,I,j.keys,rfl,G.rd,rfl⟩,k _ _ t w g (J.trans e) (wd (.bl _)) ?_⟩;rw[j.isSome c];exact q
theorem z3(hu:X.A.units+64 < De)(hi:DE X i ty wy)(ho:DE X o td wd')(hK:X.K=K:=by rfl)(hm:Cm .NotIn o=ai:=by with_unfolding_all rfl):DC X (.Compare i [.NotIn] [o] pos) (fN (qc K ty td)) (cT (w2 wy wd' (i8 ah))):=by
 subst hK;exact⟨xK (N9 hu hi.pe ho.pe) hm,kE (Mz hi ho)⟩
def nZ(i:Nat)(wy wv:DT):aF:=λδ n K=>wv δ n λv n1=>∃kvs,δ[i]?=ae (ae (.odx kvs))/\wy δ n1 λy n2=>∃k d e,v=.d d/\y=.d e/\nB e k/\kvs.length < 1000/\K.nx (δ.set i (ae (.odx (fT kvs k d)))) n2
theorem yU{i:Nat}{x:Str}{xp sp:Pos}{j e:Expr}{tj te:TE}{wj we:DT}(hu:X.A.units+64 < De)(hN:X.N[i]?=ae x)(hj:DE X j tj wj)(he:DE X e te we)(hK:X.K=K:=by rfl)(hv:dU X.env.scope x:=by first|exact Ci rfl|exact B5 (Ci rfl)|exact B5 (B5 rfl))(hd:(x==("__debug__":Str))=ai:=by decide)
  (r_:(x==("__classdict__":Str))=ai:=by decide) (hs:Cy e (ae (.Subscript (.Name x xp) j sp)) pos.line X.env=pure ai:=by rfl):
  DS X (.Assign [.Subscript (.Name x xp) j sp] e pos) (ud K (aI i) tj te) (nZ i wj we):=by
 subst hK;exact⟨FR hu (eY hN hv hd r_) hj.pe he.pe hs,λC H B σ δ n K D R q E=>
  he.sd C H B σ δ n _ _ R q λu y P Q g k1 U m=>by
   obtain⟨L,F,m⟩:=m;obtain⟨v,hv,a,l,rfl,S,p,r,Y,O⟩:=g.sl i _ F;refine⟨_,hv,hj.sd C P B σ δ Q _ _ g m λw z W Z T h V k=>?_⟩;obtain⟨f,d,ek,rfl,rfl,M,I,k⟩:=k;have s:a≠C.t:=λz=>R.t0 (z▸r);have c:=O.move λb o e n=>⟨h b o e λz=>n (z▸g.bt),n⟩;have J:l.length < 1000:=by rw[c.len];omega
   obtain⟨b,rfl,G⟩:=nz (V) M;refine⟨a,_,rfl,⟨l,f,b,(h _ _ S s),c.keys,rfl,G.rd,Bp J (dD (Al _)),rfl⟩,E.nx _ _ _ _ _ (T.mutOwn F rfl hv p r ?_ rfl) k⟩;refine⟨a,_,rfl,a9,p,r,?_,?_⟩
   ·have:=tJ l f b u;omega
   ·exact(c.put G (RdX.kp h g.bt U)).move λb o e n=>⟨by rw[aG λ(z:b=a)=>n (z▸p)];exact e,n⟩⟩
end
end DL
namespace L2
open PySem PySem.Spec PyProof.Rows PySem.W
def yz(K:Ag):List V->Hp->VK->Prop:=λxs H Q=>∃a ps,xs=[.ref a]/\Rd H a (.dX ps)/\gA K H ps/\∀l,H l=af->Q (.ref l) (upd H l (.lst (ps.map λp=>V.ref p.2.1)))
theorem CJ{ps:List XP}{xs:List (TK×A'×Af)}(r:KX ps xs):Vals (ps.map λp=>V.ref p.2.1) (xs.map λx=>Cj x.2.1):=by
 induction r with
 |nil=>exact .nil
 |@cons p q ps b h t a=>exact .cons (show RelV (V.ref p.2.1) _ by rw[h.2.1];rfl) a
theorem Si{X:Cx}(hh:X.A.handled=af):CallR X (.type "list") (yz X.K):=by
 intro p s σ H R O Q I r h;obtain⟨a,v,rfl,J,M,q⟩:=h;obtain⟨u,rfl,F⟩:=eL r;cases(F);obtain⟨z,y,G,d,o,n,P,D,t,B,m,L⟩:=(show ObjOk X.prog X.w H s.heap a (.dX v)from J.ok I.hok);have E:=by
  have:=congrArg Dx m;rw[Ab,Bo]at this;omega
 have l:=(D1 d).symm;refine kdl_call (Sx y) hh (⟨o,D,t,B⟩) (by simp_all) λh' N b c i k f=>?_;have e:b=(G.map λx=>Cj x.2.1).toArray:=by
  apply Gt.mp;apply List.ext_getElem?;intro j;by_cases C:j < n.size
  ·have g:j < b.toList.length:=by rw[Bo,f.1];exact C
   have this:(n[j]?).map _=ae (b.toList[j]):=f.2 j _ (by simp);rw[<-Bx,m,Am,Option.map_map]at this;rw[Ah g,<-this,Am];rfl
  ·rw[Cf (by rw[Bo,f.1];omega),Cf (by simp;omega)]
 rw[e]at k;refine⟨.ref s.heap.objs.size,_,I.laid (o:=.lst _) i (Al _) ⟨by rw[Ab];exact z,_,c,CJ d,k⟩,rfl,q _ (I.hok.fresh (Al _))⟩
def AZ(a:A')(o:Obj)(l:List XP):It:=
 ⟨λi H=>H a=ae (.frz o (.dX l))/\i < l.length,λi H x H'=>H'=H/\∃p,l[i]?=ae p/\x=.ref p.2.1,λi H=>H a=ae (.frz o (.dX l))/\l.length<=i⟩
theorem sX{P:A3}{w:Bi}{H:Hp}{h:Heap}{a:A'}{o:Obj}{l:List XP}{es:Array G6}{ep:Nat}(hd:o.data=.dict es ep)(ok:ObjOk P w H h a (.frz o (.dX l))):(a==Dk)=ai/\DEs h a es ep/\es.size=l.length/\∀i p,l[i]?=ae p->(es.getD i ⟨0,.none,.none⟩).key=.ref p.2.1:=by
 obtain⟨g,z,A,m,b,E,C,x,k,s,d,f,D⟩:=ok;rw[g]at k;cases k;rw[hd]at d;cases d;have t:=by
  have:=congrArg Dx f;rw[Ab,Bo]at this;omega
 refine⟨A,⟨o,g,s,hd⟩,t.trans (D1 b).symm,λi p e=>?_⟩;have v:i < m.length:=by rw[<-D1 b];exact(Ar.mp e).1
 obtain⟨q,n⟩:∃q,m[i]?=ae q:=⟨_,Ah v⟩;have j:es[i]?=ae (entryOfKey (ny P w) q):=by rw[<-Bx,f,Am,n];rfl
 have y:p.2.1=q.2.1:=by
  have:=CJ b;obtain⟨u,r,B⟩:=this.get (by rw[Am,e];rfl);rw[Am,n]at r;cases r;exact(Value.ref.inj (B)).symm
 have c:i < es.size:=by simp_all
 rw[show es.getD i _=es[i] by simp[c]];rw[Cg c]at j;rw[Bw j,y];rfl
theorem OZ{P:A3}{w:Bi}{K:Ag}{tg:Expr}{a it:A'}{o:Obj}{l:List XP}{es:Array G6}{ep:Nat}(hd:o.data=.dict es ep):Turn P w K tg (AZ a o l) [it] it (λi h=>h.IsKeyIter it a i es.size ep) where
 mem:=by simp
 obj:=λi h f b j=>by
  have e:b=it:=by simp_all
  subst e;obtain⟨o,e,c,d⟩:=f;exact⟨o,e,λv z=>by simp_all⟩
 keep:=λi h L f k=>f.at λo e=>k it (by simp) o e
 item:=by
  intro X O S T J i g s σ H E I n f r;obtain⟨B,D⟩:=r;obtain⟨_,q,M,C⟩:=sX hd (I.hok a _ B);obtain⟨p,F⟩:∃p,l[i]?=ae p:=⟨_,Ah D⟩;obtain⟨u,x,Q,t,A,y⟩:=n it (by simp);refine oV f q (λ_ L m U=>?_) λz=>g_ z ⋯;rw[C i p F];have R:Inv X g σ H {s with heap:=L}:=I.turned (λb o j e=>(U.2 b j).trans e) u x t A y;obtain⟨Y,e,c,d⟩:=id m;exact⟨_,rfl,qr e c d ∎ ⟨.ref p.2.1,H,R,rfl,⟨rfl,p,F,rfl⟩,m,λb j=>(n b j).1⟩⟩
 done:=by
  intro X O S T J i g s σ H E I n f r;obtain⟨B,D⟩:=r;obtain⟨_,q,M,C⟩:=sX hd (I.hok a _ B);obtain⟨u,x,Q,t,A,y⟩:=n it (by simp);exact oV f q (λz=>g_ z ⋯) λ_=>⟨I.ok.hd J,λh' N=>⟨rfl,I.turned (λb o j e=>N b o j e) u x t A y⟩⟩
 self:=λ_ _ _ _ _ f h=>wpAny_pyIter_keyiter f h
def zC(tl:TE):TI:=λσ H R=>tl σ H λx H1=>∃a o l,x=.ref a/\H1 a=ae (.frz o (.dX l))/\R (AZ a o l) H1
theorem FE{X:Cx}{tg l:Expr}{tl:TE}(hl:PE X l tl):PI X tg l (zC tl):=by
 intro c s σ H R I h;refine aL (hl c s σ H _ I h) λv w v=>?_;obtain⟨x,r,d,t,m⟩:=v;obtain⟨a,o,B,e,p,q⟩:=m;subst e;cases t;have j:=d.hok a _ p;obtain⟨g,z,u,G,n,E,D,F,i,y,f,C,A⟩:=id j;rw[g]at i;cases i;obtain⟨_,k,_,_⟩:=sX f j;refine yy u k ⟨_,_,_,_,r,rfl,d.kept λb o e=>Ae _ e,OZ f,⟨_,Ax _ rfl,rfl,rfl⟩,λb J=>?_,q⟩;have e:b=w.heap.objs.size:=by simp_all
 subst e;exact d.fpOk (Al _) (d.hok.fresh (Al _))
theorem Inv.freezeX{X:Cx}{i_:List (A'×Obj)}{σ:St}{H:Hp}{s:Ai}{a:A'}{l:List XP}(I:Inv X i_ σ H s)(e:H a=ae (.dX l)):∃o,Inv X i_ σ (upd H a (.frz o (.dX l))) s:=by
 obtain⟨z,k,h,b,o,f,m,c,d,i,j,g⟩:=I.hok a _ e;exact⟨o,kX I (by rw[e];trivial) ⟨rfl,λ_ _=>rfl⟩ ⟨o,c⟩ ⟨c,z,k,h,b,o,f,m,c,d,i,j,g⟩⟩
def j2(T:TS):TS:=λD σ H=>∃a l,H a=ae (.dX l)/\∀o,T D σ (upd H a (.frz o (.dX l)))
theorem yb{X:Cx}{b:List Stmt}{T:TS}(h:PSs X b T):PSs X b (j2 T):=λi_ s σ H D I q=>by
 obtain⟨a,l,e,q⟩:=q;obtain⟨o,d⟩:=I.freezeX e;exact h i_ s σ _ D d (q o)
end L2
namespace DL
open PySem L2 Nb
theorem Rel.fzX{C:Ctx}{H:Hp}{B:A'->Prop}{σ:St}{δ:Sl}{n:Int}{i:Nat}{m:List (TK×Ad)}(R:Rel C H B σ δ n)(hi:δ[i]?=ae (ae (.odx m))):
  ∃a l,σ[i]?=ae (ae (.ref a))/\H a=ae (.dX l)/\B a/\C.H0 a=af/\a≠C.t/\∀o,Rel C (upd H a (.frz o (.dX l))) (λb=>B b/\b≠a) σ (δ.set i (ae (.w (.ob (.y m))))) n:=by
 obtain⟨v,S,a,l,rfl,N,U,M,e5,e6⟩:=R.sl i _ hi;have W:a≠C.t:=λz=>R.t0 (z▸M);refine⟨a,l,S,N,U,M,W,λo=>?_⟩;have R1:Rel C H B σ (δ.set i af) n:={
  tp:=R.tp,kp:=R.kp,t0:=R.t0,l0:=R.l0,g0:=R.g0,fz:=R.fz,bt:=R.bt,b0:=R.b0,ba:=R.ba,a0:=R.a0
  sl:=λj y e=>by
   by_cases z:i=j
   ·subst z;rw[Cz]at e;simp_all
   ·rw[Bh z]at e;exact R.sl j y e
  ow:=λj k y z u X N O Q p h=>by
   have g:∀{m:Nat}{w:SV},(δ.set i af)[m]?=ae (ae w)->δ[m]?=ae (ae w):=λ{m w} e=>by
    by_cases q:i=m
    ·subst q;rw[Cz,hi]at e;cases e
    ·rwa [Bh q]at e
   exact R.ow j k y z u (g X) (g N) O Q p h
  len:=by rw[Cb];exact R.len}
 have r:Rel C (upd H a (.frz o (.dX l))) B σ _ n:=R1.mut U M λj y e oy f=>by
  by_cases z:i=j
  ·subst z;rw[Cz,hi]at e;cases e
  ·rw[Bh z]at e;exact z (R.ow i j _ y _ hi e rfl oy S f)
 have s:∀b,(B b/\b≠a)->B b:=λb z=>z.1;exact{
  tp:=r.tp,kp:=r.kp,t0:=r.t0,l0:=r.l0,g0:=r.g0
  fz:=λb o e=>⟨(r.fz b o e).1,λz=>(r.fz b o e).2 z.1⟩
  bt:=⟨R.bt,λz=>R.t0 (z▸M)⟩
  b0:=λb z=>⟨R.b0 b z,λq=>R.a0 b z (q▸M)⟩
  ba:=λb z=>r.ba b z.1
  a0:=R.a0
  sl:=λj Y e=>by
   rcases eF e with⟨rfl,rfl⟩|⟨L,P⟩
   ·refine⟨_,S,⟨a,o,l,rfl,a9,λz=>z.2 rfl,e6.move λb ob e n=>⟨?_,λz=>n z.1⟩⟩,λz=>by cases z⟩;rw[aG λ(z:b=a)=>n (z▸U)];exact e
   ·obtain⟨u,p,h⟩:=r.sl j Y (by rw[Bh λz=>L z.symm];omega);refine⟨u,p,?_⟩;cases Y with
    |w y=>exact⟨h.1.less s,h.2⟩
    |own x=>
     obtain⟨D,d,G,I,F,E,J,A⟩:=h;exact⟨D,d,G,I,⟨F,λz=>L (R.ow j i _ _ _ P hi rfl rfl p (by simp_all))⟩,E,J,A.less s⟩
    |odk x=>
     obtain⟨D,d,G,I,F,E,J,A⟩:=h;exact⟨D,d,G,I,⟨F,λz=>L (R.ow j i _ _ _ P hi rfl rfl p (by simp_all))⟩,E,J,A.move λb o e n=>⟨e,λz=>n z.1⟩⟩
    |odt x=>
     obtain⟨D,d,G,I,F,E,J,A⟩:=h;exact⟨D,d,G,I,⟨F,λz=>L (R.ow j i _ _ _ P hi rfl rfl p (by simp_all))⟩,E,J,A.move λb o e n=>⟨e,λz=>n z.1⟩⟩
    |odx x=>
     obtain⟨D,d,G,I,F,E,J,A⟩:=h;exact⟨D,d,G,I,⟨F,λz=>L (R.ow j i _ _ _ P hi rfl rfl p (by simp_all))⟩,E,J,A.move λb o e n=>⟨e,λz=>n z.1⟩⟩
  ow:=λj k y z u X N O Q p h=>by
   rcases eF X with⟨rfl,rfl⟩|⟨ne1,T⟩
   ·cases O
   ·rcases eF N with⟨rfl,rfl⟩|⟨ne2,V⟩
    ·cases Q
    ·exact R.ow j k y z u T V O Q p h
  len:=by rw[Cb];exact R.len}
theorem RdY.at{H:Hp}{B:A'->Prop}{l:List (TK×A'×V)}{m:List (TK×Ad)}(h:RdY H B l m):∀{j:Nat}{p:TK×A'×V},l[j]?=ae p->∃q,m[j]?=ae q/\p.1=q.1/\RdX H B (.ref p.2.1) p.1.1/\RdX H B p.2.2 q.2:=by
 induction h with
 |nil=>intro j p e;cases e
 |@cons a b f d r t c=>
  intro j p e;cases j with
  |zero=>cases e;exact⟨b,rfl,r⟩
  |succ j=>exact c e
section
variable{X:Cx}{a b c e o i f tg:Expr}{ta tb te td ty tx:TE}{wa wb we wd' wy wx:DT}{pos p:Pos}{K:Ag}
def nX(i:Nat)(W:aF):aF:=λδ n K=>match δ[i]? with
 |some (ae (.odx m))=>W (δ.set i (ae (.w (.ob (.y m))))) n K
 |_=>False
theorem SF(i:Nat){l:List Stmt}{T:TS}{W:aF}(h:DSs X l T W):DSs X l (j2 T) (nX i W):=⟨yb h.ps,λC H B σ δ n K D R q E=>by
 unfold nX at q
 split at q
 ·rename_i m e;obtain⟨a,l,f,c,j,g,d,b⟩:=R.fzX e;exact⟨a,l,c,λo=>h.sd C _ _ σ _ n K D (b o) q E⟩
 ·exact q.elim⟩
def p6(w:DT):fJ:=λδ n Q=>w δ n λx n1=>∃kvs:List (TK×Ad),x=.ob (.y kvs)/\kvs.length<=1000/\Q (kvs.map λp=>p.1.1) n1
theorem HU(ha:DE X a ta wa):DI X tg a (zC ta) (p6 wa):=⟨FE ha.pe,λC H B σ δ n Q U R q k=>ha.sd C H B σ δ n _ _ R q λv x t K I S N F=>by
 obtain⟨i,rfl,A,D⟩:=F;obtain⟨a,o,l,rfl,w,P,u⟩:=(show ORel t B v (.y i)from N);have f:=u.len;refine⟨a,o,l,rfl,w,k _ _ t K I S (λfz m=>?_) D⟩;have g:=m.2 _ _ w P;refine⟨by rw[Ab];exact dD A,λj H h E=>?_,λH h=>?_,λj H x T d h c O=>?_⟩
 ·rw[Ab]at E;exact⟨h _ _ g,by simp_all⟩
 ·exact⟨h _ _ g,by rw[f];simp⟩
 ·obtain⟨rfl,p,L,rfl⟩:=O;refine⟨λ_ _ z=>z,λB' G M=>?_⟩;rw[Am]at c;obtain⟨q,J,r⟩:=RdY.at u L;rw[J]at c;cases c;exact(r.1▸r.2.1).move λb V e s=>⟨h _ _ (m.2 _ _ e s),G _ _ (m.2 _ _ e s)⟩⟩
end
end DL
namespace L2
open PySem PySem.Spec PyProof.Rows PySem.W
section
variable{prog:A3}{w:Bi}{A:Bq}{E:Af->Ai->Prop}{s:Ai}{d:A'}{es:Array G6}{ep:Nat}
theorem QH(hd:(d==Dk)=ai):MeetsIn prog w (Ep.«dict.__len__» ⟨[.ref d],[]⟩) (λ_ R s=>DEs s.heap d es ep/\R (.ok (.ret (.int es.size s.toks))) {s with toks:=s.toks+1}):=
 .of_wp λA R s u=>by
  obtain⟨x,h⟩:=u;obtain⟨o,a,c,b⟩:=x;refine(show A6 _ _ (dictSize d>>=_) _ _ s from(Aa (Aa (wpAny_dictEntries a b (Aj (Aa (wpAny_pendingCount_other hd (wpAny_ret_mkInt ?_))))))));exact h
theorem Ky{Q:Af->Ai->Prop}(hd:(d==Dk)=ai)(x:DEs s.heap d es ep)(hf:(es.size:Int) < 2 ^ 63)(h:Q (.int es.size (s.toks+1)) {s with toks:=s.toks+1+1}):A6 (A9 prog w) A (call (.builtin "len") [.ref d]) Q E s:=by
 refine Calls.call_function_entry kind_len plain_len entry_len (args_len1 _) (Aa (Aj (Aa (Bv x.ty F.slot_dict_len (call_meetsIn F.slot_dict_len x.ty F.entry_dict_len (F.args_dict_len_1 _) (QH hd) ⟨x,?_⟩)))));refine(show A6 _ _ _ _ _ {s with toks:=s.toks+1}from Aa (Cc (Aj (Aa (wpAny_letGo (?_))))));rw[a_ ⋯];refine(?_);rw[a_ ⋯];exact Aa (wpAny_mkInt (Aj ⟨_,rfl,h⟩))
end
theorem wA{X:Cx}:CallR X (.builtin "len") (λxs H Q=>∃a ps,xs=[V.ref a]/\Rd H a (.dX ps)/\Q (.int ps.length) H):=by
 intro e s σ H xs p Q I r h;obtain⟨a,ps,rfl,l,q⟩:=h;obtain⟨u,rfl,k⟩:=eL r;cases(k);obtain⟨z,y,x,c,o,n,t,j,f,g,i,m⟩:=(show ObjOk X.prog X.w H s.heap a (.dX ps)from l.ok I.hok);have d:=by
  have:=congrArg Dx i;rw[Ab,Bo]at this;exact this.trans (D1 c).symm
 have v:Ay=16777216:=by decide
 refine Ky y ⟨o,j,f,g⟩ ⋯ ?_;rw[d];exact⟨.int ps.length,H,I.tok _,⟨_,rfl⟩,q⟩
end L2
namespace Nb
open PySem L2 DL
structure AfOk(Sa:aP)(pd:Ad)(N:Nat)(aft:TK->Nat->Option TK)(Gd:TK->Prop):Prop where
 call:∀(k:TK)(m:Nat)(n:Int)(Q:DQ),Gd k->m<=N->Q (.d (match aft k m with|some b=>b.1|none=>.none)) n->Sa [.d pd,.d k.1,.d (.int (m:Nat))] n Q
 good:∀(k:TK)(m:Nat)(b:TK),Gd k->m<=N->aft k m=ae b->Gd b
 tup:∀k:TK,Gd k->∃ds,k.1=.tuple ds
 prog:∃ps:List Ad,pd=.tuple ps/\ps.length=N
abbrev Fm:=List (TK×Ad)×List TK
def stp(aft:TK->Nat->Option TK)(s:TK)(p:Fm)(m:Nat):Fm:=match aft s m with
 |none=>p
 |some b=>if (aY p.1 b).isSome=ah then p else(p.1++[(b,.tuple [s.1,.int (m:Nat)])],p.2++[b])
def stpM(aft:TK->Nat->Option TK)(N:Nat)(p:Fm)(s:TK):Fm:=(Be (N+1)).foldl (stp aft s) p
def cv(aft:TK->Nat->Option TK)(N:Nat)(p:Fm)(ss:List TK):Fm:=ss.foldl (stpM aft N) p
abbrev JL:R2:=λx y H Q=>y=.non/\Q (.bl (!decide (x=.non))) H
abbrev wg:List V->Hp->VK->Prop:=λxs H Q=>∃a ps,xs=[V.ref a]/\Rd H a (.dX ps)/\Q (.int ps.length) H
abbrev Lj(K:Ag)(tm:TE)(rE:R2):TS:=dI (gS (fN (cY rE (d3 wg (br (aI 1) aX)) tm)) (λ_ _ _=>False) ni) (dI (ud K (aI 1) (aI 6) (jE (br (aI 4) (br (aI 5) aX)))) (nY (pI K "list" ub (aI 3) (br (aI 6) aX))))
abbrev uC(K:Ag)(Sa:aP)(tm:TE)(rE:R2):TS:=dI (bw (eu (dA Sa) [] E0 (br (aI 0) (br (aI 4) (br (aI 5) aX)))) (c8 6)) (gS (kz (fN (cY JL (aI 6) (tC .non))) (fN (qc K (aI 6) (aI 1)))) (Lj K tm rE) ni)
abbrev mH(K:Ag)(Sa:aP)(tm:TE)(rE:R2)(tr:TE):TS:=dI (bw (iN aX) (c8 3)) (dI (gv (oh K (aI 2)) (c8 4) (gv (qe (br tr aX)) (c8 5) (uC K Sa tm rE))) (fE (aI 3)))
def KpD(t a:A')(H H':Hp):Prop:=∀b o,H b=ae o->b≠t->b≠a->H' b=ae o
section
variable{t a b:A'}{H H1 H2 H3:Hp}
theorem KpD.refl:KpD t a H H:=λ_ _ e _ _=>e
theorem KpD.kp(k:KpD t a H1 H2)(k2:Kp t H2 H3):KpD t a H1 H3:=λb o e c d=>k2 b o (k b o e c d) c
theorem KpD.new{o:HO}(k:KpD t a H1 H2)(h:H2 b=af):KpD t a H1 (upd H2 b o):=k.kp (Kp.new h)
theorem KpD.put{o:HO}(k:KpD t a H1 H2):KpD t a H1 (upd H2 a o):=λc d e f b=>by rw[aG b];exact k c d e f b
theorem KpD.app{o:HO}(k:KpD t a H1 H2)(hb:H1 b=af):KpD t a H1 (upd H2 b o):=λc f e g d=>by rw[aG (bu e hb)];exact k c f e g d
end
structure FuI(H0:Hp)(t:A')(l:TL)(ns:List Int)(n:Int)(B:A'->Prop)(a b:A')(p:Fm)(H:Hp):Prop where
 tp:Tp H t l ns n
 kp:KpD t a H0 H
 nb:H0 b=af
 fr:∃xs,H b=ae (.lst xs)/\RdXs H (λc=>B c\/c=b) xs (p.2.map (·.1))
 st:∃l',H a=ae (.dX l')/\RdY H (λc=>B c\/c=b) l' p.1
section
variable{H0 H H':Hp}{t:A'}{l:TL}{ns:List Int}{n:Int}{B:A'->Prop}{a b:A'}{p:Fm}
theorem FuI.out(I:FuI H0 t l ns n B a b p H)(ht:B t)(ha:a≠t)(hb:b≠t)(T:Tp H' t l ns n)(k:Kp t H H'):FuI H0 t l ns n B a b p H':=by
 obtain⟨g,j,i⟩:=I.fr;obtain⟨q,h,m⟩:=I.st;have d:∀c o,H c=ae o->¬(B c\/c=b)->H' c=ae o/\¬(B c\/c=b):=λc o e f=>⟨k c o e λz=>f (.inl (z▸ht)),f⟩;exact⟨T,I.kp.kp k,I.nb,⟨g,k _ _ j hb,i.move d⟩,q,k _ _ h ha,m.move d⟩
end
structure FuC(H0:Hp)(t:A')(l:TL)(B:A'->Prop)(a:A'):Prop where
 bt:B t
 ba:B a
 ex:∀c,B c->H0 c≠af
 at':a≠t
 l0:H0 l.s≠af
 g0:kW=ah->H0 l.g≠af
section
variable{K:Ag}{Sa:aP}{pd:Ad}{N:Nat}{aft:TK->Nat->Option TK}{Gd:TK->Prop}{tm:TE}{rE:R2}{H0 H:Hp}{t:A'}{l:TL}{ns:List Int}{n:Int}{B:A'->Prop}{a b:A'}{p:Fm}
theorem FuI.up{v:V}{d:Ad}(C:FuC H0 t l B a)(I:FuI H0 t l ns n B a b p H)(r:RdX H0 B v d):RdX H (λc=>B c\/c=b) v d:=
 r.move λc o e f=>⟨I.kp c o e (λz=>f (z▸C.bt)) (λz=>f (z▸C.ba)),λz=>z.elim f λq=>by rw[q,I.nb]at e;cases e⟩
theorem JI(A:AfOk Sa pd N aft Gd)(C:FuC H0 t l B a)(htm:∀(σ:St) (H:Hp) (Q:VK),Q (.int 2000) H->tm σ H Q)(hrE:∀(x y:Int) (H:Hp) (Q:VK),Q (.bl (decide (x=y))) H->rE (.int x) (.int y) H Q)
  {σ:St} {v0 v4:V} {m:Nat} {s:TK} (I:FuI H0 t l ns n B a b p H) (e0:σ[0]?=ae (ae v0)) (e1:σ[1]?=ae (ae (.ref a))) (e3:σ[3]?=ae (ae (.ref b))) (e4:σ[4]?=ae (ae v4)) (e5:σ[5]?=ae (ae (.int (m:Nat)))) (e6:6 < σ.length)
  (r0:RdX H0 B v0 pd) (r4:RdX H0 B v4 s.1) (gd:Gd s) (hm:m<=N) (hl:p.1.length < 2000) (hl2:p.2.length < Ay) {D:Ends} (hD:∀v6 H',FuI H0 t l ns n B a b (stp aft s p m) H'->D.nx (σ.set 6 (ae v6)) H'):uC K Sa tm rE D σ H:=by
 have P:b≠t:=λz=>C.ex t C.bt (z▸I.nb);have i:a≠b:=λz=>C.ex a C.ba (z▸I.nb);obtain⟨xs0,eb0,_⟩:=I.fr;have hB':∀c,(B c\/c=b)->H c≠af:=λc z=>by
  rcases z with z|rfl
  ·by_cases G:c=t
   ·subst G;obtain⟨_,_,h,_⟩:=I.tp.ob;rw[h];simp
   ·by_cases E:c=a
    ·subst E;obtain⟨_,h,_⟩:=I.st;rw[h];simp
    ·cases e:H0 c with
     |none=>exact(C.ex c z e).elim
     |some o=>rw[I.kp c o e G E];simp
  ·rw[eb0];simp
 refine⟨v0,e0,v4,e4,_,e5,⟨t,l,ns,λc=>B c\/c=b,[.d pd,.d s.1,.d _],n,λw n'=>n'=n/\w=.d _,I.tp,.inl C.bt,hB',.cons (I.up C r0) (.cons (I.up C r4) (.cons (.int _) .nil)),A.call s m n _ gd hm ⟨rfl,rfl⟩,?_⟩⟩
 rintro w n' ⟨rfl,rfl⟩ v u O k1 W
 have R:=I.out C.bt C.at' P O k1;have M:(σ.set 6 (ae v))[6]?=ae (ae v):=by simp[e6]
 have r:∀j,j≠6->(σ.set 6 (ae v))[j]?=σ[j]?:=λj z=>Bh λq=>z q.symm;have hD:=hD v;cases Y:aft s m with
 |none=>
  rw[Y]at W;have ev:v=.non:=by cases(W);rfl
  subst ev;refine⟨_,M,rfl,ai,by simp,?_⟩;dsimp only;refine hD u ?_;unfold stp;simp_all
 |some k=>
  rw[Y]at W;obtain⟨ds,hds⟩:=A.tup k (A.good s m k gd hm Y);obtain⟨q,rfl,X⟩:=nz (W) ⟨rfl,ds,hds⟩;obtain⟨F,e2,S⟩:=R.st;obtain⟨xs,eb,rx⟩:=R.fr;refine⟨_,M,rfl,ah,by simp,?_⟩;dsimp only;refine⟨_,M,_,by rw[r 1 ∎];exact e1,a,_,rfl,⟨F,k,q,.inl e2,S.keys,rfl,X.rd,rfl⟩,_,rfl,?_⟩;rw[S.isSome k];cases hs:(aY p.1 k).isSome with
  |true=>
   refine hD u ?_;unfold stp;simp_all
  |false=>
   refine⟨_,by rw[r 1 ∎];exact e1,a,F,rfl,.inl e2,htm _ _ _ (hrE _ _ _ _ ⟨_,rfl,?_⟩)⟩;have Z:F.length < 2000:=by rw[S.len];omega
   dsimp only;rw[a_ (by simp;omega)];refine⟨v4,by rw[r 4 ∎];exact e4,_,by rw[r 5 ∎];exact e5,(show 2<=Ay by decide),λq' f=>?_⟩;have nq:¬(B q'\/q'=b):=λz=>by
    rcases z with z|rfl
    ·by_cases G:q'=t
     ·subst G;obtain⟨_,_⟩:=O.ob;simp_all
     ·by_cases E:q'=a
      ·subst E;simp_all
      ·cases e:H0 q' with
       |none=>exact C.ex q' z e
       |some o=>rw[R.kp q' o e G E]at f;trivial
    ·rw[eb]at f;trivial
   have qa:a≠q':=λz=>nq (.inl (z▸C.ba));have qb:b≠q':=λz=>nq (.inr z.symm);have T:∀c o,u c=ae o->¬(B c\/c=b)->upd u q' (.tup [v4,.int m]) c=ae o/\¬(B c\/c=b):=λc o e L=>⟨by rw[aG (bu e f)];exact e,L⟩;refine⟨_,by rw[r 1 ∎];exact e1,_,M,a,_,rfl,⟨F,k,q,by rw[aG qa];exact e2,(S.move T).keys,rfl,(X.move T).rd,Nat.lt_trans Z ∎,rfl⟩,⟨.ref b,by rw[r 3 ∎];exact e3,.inl ⟨rfl,xs,SqL.of (by rw[aG i.symm,aG qb];omega)⟩,_,M,b,xs,_,rfl,rfl,by rw[aG i.symm,aG qb];exact eb,by rw[rx.len,Ab];exact hl2,?_⟩⟩;have J:∀c o,u c=ae o->¬(B c\/c=b)->upd (upd (upd u q' (.tup [v4,.int m])) a (.dX (cS F k q (.ref q')))) b (.lst (xs++[.ref q])) c=ae o/\¬(B c\/c=b):=λc o e L=>
    ⟨by rw[aG λz=>L (.inr z),aG λ(z:c=a)=>L (.inl (z▸C.ba)),aG (bu e f)];exact e,L⟩
   refine hD _ ?_;unfold stp;rw[Y];dsimp only;rw[a_ (by rw[hs];decide)];have als:l.s≠a:=λz=>by have:=O.ls;simp_all
   refine⟨((O.new f).other C.at'.symm als λe z=>by have:=O.ag e;simp_all).other P.symm (λz=>C.l0 (z▸I.nb)) (λe z=>C.g0 e (z▸I.nb)),((R.kp.new f).put).app I.nb,I.nb,⟨_,a9,?_⟩,_,by rw[aG i,a9],?_⟩
   ·rw[Bd];exact(rx.move J).append (.cons (X.move J) .nil)
   ·have:=(S.move J).put (X.move J) (.tup (xs:=[v4,.int _]) (by rw[aG qb.symm,aG qa.symm,a9]) nq (show 2<=Ay by decide) (.cons ((R.up C r4).move J) (.cons (.int _) .nil)));unfold fT at this;rw[a_ (by rw[hs];decide)]at this;omega
end
theorem CA(aft:TK->Nat->Option TK)(s:TK)(p:Fm)(m:Nat):p.1.length<=(stp aft s p m).1.length:=by
 unfold stp
 split
 ·exact Al _
 ·split
  ·exact Al _
  ·rw[An];simp
theorem z8(aft:TK->Nat->Option TK)(s:TK)(p:Fm)(m:Nat)(h:p.2.length<=p.1.length):(stp aft s p m).2.length<=(stp aft s p m).1.length:=by
 unfold stp
 split
 ·exact h
 ·split
  ·exact h
  ·rw[An,An];exact Nat.succ_le_succ h
theorem qC{α:Type}(f:Fm->α->Fm)(h:∀p x,p.1.length<=(f p x).1.length):∀(l:List α)(p:Fm),p.1.length<=(l.foldl f p).1.length
 |[],_=>Al _
 |x::l,p=>A5 (h p x) (qC f h l _)
theorem mN{α:Type}(f:Fm->α->Fm)(h:∀p x,p.2.length<=p.1.length->(f p x).2.length<=(f p x).1.length):∀(l:List α)(p:Fm),p.2.length<=p.1.length->(l.foldl f p).2.length<=(l.foldl f p).1.length
 |[],_,q=>q
 |x::l,p,q=>mN f h l _ (h p x q)
theorem IT(aft:TK->Nat->Option TK)(N:Nat)(p:Fm)(s:TK):p.1.length<=(stpM aft N p s).1.length:=qC _ (CA aft s) _ _
theorem wG(aft:TK->Nat->Option TK)(N:Nat)(p:Fm)(s:TK)(h:p.2.length<=p.1.length):(stpM aft N p s).2.length<=(stpM aft N p s).1.length:=mN _ (λp m=>z8 aft s p m) _ _ h
structure FuS(v0:V)(a c b:A')(σ:St):Prop where
 s0:σ[0]?=ae (ae v0)
 s1:σ[1]?=ae (ae (.ref a))
 s2:σ[2]?=ae (ae (.ref c))
 s3:σ[3]?=ae (ae (.ref b))
 ln:6 < σ.length
theorem FuS.set{v0 v:V}{a c b:A'}{σ:St}{j:Nat}(S:FuS v0 a c b σ)(hj:3 < j):FuS v0 a c b (σ.set j (ae v)):=by
 have g:∀i,i<=3->(σ.set j (ae v))[i]?=σ[i]?:=λi h=>Bh ⋯;exact⟨by rw[g 0 ∎];exact S.s0,by rw[g 1 ∎];exact S.s1,by rw[g 2 ∎];exact S.s2,by rw[g 3 ∎];exact S.s3,by rw[Cb];exact S.ln⟩
section
variable{K:Ag}{Sa:aP}{pd:Ad}{N:Nat}{aft:TK->Nat->Option TK}{Gd:TK->Prop}{tm tr:TE}{rE:R2}{H0 H:Hp}{t:A'}{l:TL}{ns:List Int}{n:Int}{B:A'->Prop}{a b c:A'}{p:Fm}{v0:V}
theorem HG(A:AfOk Sa pd N aft Gd)(C:FuC H0 t l B a)(hN:N < 2 ^ 60)(htm:∀(σ:St) (H:Hp) (Q:VK),Q (.int 2000) H->tm σ H Q)(hrE:∀(x y:Int) (H:Hp) (Q:VK),Q (.bl (decide (x=y))) H->rE (.int x) (.int y) H Q)
  (r0:RdX H0 B v0 pd) (htr:∀(σ:St)(H:Hp)(Q:VK)(B:A'->Prop),σ[0]?=ae (ae v0)->RdX H B v0 pd->Q (.int ((N+1:Nat):Int)) H->tr σ H Q)
  {σ:St} {v4:V} {s:TK} (I:FuI H0 t l ns n B a b p H) (S:FuS v0 a c b σ) (e4:σ[4]?=ae (ae v4)) (r4:RdX H0 B v4 s.1) (gd:Gd s) (hs:p.2.length<=p.1.length) (hl:(stpM aft N p s).1.length < 2000) {D:Ends}
  (hD:∀σ' H',FuS v0 a c b σ'->FuI H0 t l ns n B a b (stpM aft N p s) H'->D.nx σ' H'):gv (qe (br tr aX)) (c8 5) (uC K Sa tm rE) D σ H:=by
 refine htr σ H _ _ S.s0 (I.up C r0) ⟨_,rfl,by omega,by omega,⟨λi m σ' H'=>m=N+1-i/\i<=N+1/\FuS v0 a c b σ'/\σ'[4]?=ae _/\FuI H0 t l ns n B a b ((Be i).foldl (stp aft s) p) H',⟨_,rfl,A1 _,S,e4,I⟩,?_⟩⟩
 rintro i m σ' H' ⟨rfl,E,j,G,r⟩
 by_cases q:i=N+1
 ·subst q;exact .inl ⟨Al _,hD σ' H' j r⟩
 ·have d:i < N+1:=by omega
  refine .inr ⟨d,λσ2 k=>FuS v0 a c b σ2/\σ2[4]?=ae _/\FuI H0 t l ns n B a b _ k,λσ2 k z=>⟨_,by omega,rfl,d,z⟩,?_⟩
  rintro x k ⟨rfl,rfl⟩
  rw[Int.zero_add];have g:FuS v0 a c b (σ'.set 5 (ae (.int i))):=j.set ∎;have v:(σ'.set 5 (ae (V.int i)))[4]?=ae (ae v4):=by rw[Bh ∎];omega
  have F:(σ'.set 5 _)[5]?=ae (ae (.int i)):=Dq (by have:=j.ln;omega);have e:=List.range_succ (n:=i);have f:((Be i).foldl (stp aft s) p).1.length < 2000:=by
   refine Ek ?_ hl;unfold stpM;obtain⟨u,o⟩:∃u,Be (N+1)=Be i++u:=⟨_,by
    have:(Be (N+1)).take i=Be i:=by rw[List.take_range,Nat.min_eq_left E]
    rw[<-this,List.take_append_drop]⟩
   rw[o,Gh];exact qC _ (CA aft s) _ _
  refine JI A C htm hrE r g.s0 g.s1 g.s3 v F g.ln r0 r4 gd (Gm d) f (Ek (mN _ (λp m=>z8 aft s p m) (Be i) p hs) (Nat.lt_trans f ∎)) λv6 J L=>⟨g.set ∎,by rw[Bh ∎];exact v,?_⟩;simp_all
theorem Rc(A:AfOk Sa pd N aft Gd)(C:FuC H0 t l B a)(hN:N < 2 ^ 60)(htm:∀(σ:St) (H:Hp) (Q:VK),Q (.int 2000) H->tm σ H Q)(hrE:∀(x y:Int) (H:Hp) (Q:VK),Q (.bl (decide (x=y))) H->rE (.int x) (.int y) H Q)
  (r0:RdX H0 B v0 pd) (htr:∀(σ:St)(H:Hp)(Q:VK)(B:A'->Prop),σ[0]?=ae (ae v0)->RdX H B v0 pd->Q (.int ((N+1:Nat):Int)) H->tr σ H Q)
  {σ:St} {xs:List V} {ss:List TK} {m0:List (TK×Ad)} {l0:List (TK×A'×V)} (T:Tp H0 t l ns n) (e0:σ[0]?=ae (ae v0)) (e1:σ[1]?=ae (ae (.ref a))) (e2:σ[2]?=ae (ae (.ref c))) (e6:6 < σ.length)
  (ha:H0 a=ae (.dX l0)) (ra:RdY H0 B l0 m0) (hc:H0 c=ae (.lst xs)) (ct:c≠t) (rc:RdXs H0 B xs (ss.map (·.1))) (gd:∀s∈ss,Gd s) (hl:(cv aft N (m0,[]) ss).1.length < 2000) {D:Ends}
  (hD:∀b H',FuI H0 t l ns n B a b (cv aft N (m0,[]) ss) H'->D.rt (.ref b) H'):mH K Sa tm rE tr D σ H0:=by
 refine⟨A1 _,λb v=>?_⟩;have ca:c≠a:=λz=>by simp_all
 have W:∀q o,H0 q=ae o->¬B q->upd H0 b (.lst []) q=ae o/\¬(B q\/q=b):=λq o e X=>⟨by rw[aG (bu e v)];exact e,λz=>z.elim X λw=>by simp_all⟩;have S:FuI H0 t l ns n B a b (m0,[]) (upd H0 b _):=⟨T.new v,KpD.refl.new v,v,⟨[],a9,.nil⟩,l0,by rw[aG (bu ha v)];exact ha,ra.move W⟩;have R:FuS v0 a c b (σ.set 3 (ae (.ref b))):=by
  have g:∀i,i≠3->(σ.set 3 (ae (V.ref b)))[i]?=σ[i]?:=λi h=>Bh λz=>h z.symm;exact⟨by rw[g 0 ∎];exact e0,by rw[g 1 ∎];exact e1,by rw[g 2 ∎];exact e2,Dq ⋯,by rw[Cb];omega⟩
 have j:∀{p:Fm}{H:Hp},FuI H0 t l ns n B a b p H->SqL K H c xs:=λI=>SqL.of (I.kp c _ hc ct ca);refine⟨_,R.s2,c,rfl,⟨xs,j S⟩,λi m O H'=>m=ss.length-i/\i<=ss.length/\FuS v0 a c b O/\FuI H0 t l ns n B a b ((ss.take i).foldl (stpM aft N) _) H',⟨_,rfl,A1 _,R,S⟩,?_⟩;have M:xs.length=ss.length:=by rw[rc.len,Ab]
 rintro i m O H' ⟨rfl,hi,G,r⟩
 by_cases q:i=ss.length
 ·subst q;rw[List.take_length]at r;exact .inl ⟨⟨xs,j r,by omega⟩,_,G.s3,hD b H' r⟩
 ·have k:i < ss.length:=by omega
  obtain⟨x,J⟩:∃x,xs[i]?=ae x:=⟨xs[i],Ah _⟩;obtain⟨d,P,Y⟩:=rc.get J;rw[Am,(Ah k)]at P;cases P;have e:ss.take (i+1)=ss.take i++[ss[i]]:=by simp
  refine .inr ⟨⟨xs,x,j r,J⟩,λσ2 E=>FuS v0 a c b σ2/\FuI H0 t l ns n B a b _ E,λσ2 E z=>⟨_,by omega,rfl,k,z⟩,?_⟩
  rintro y E ⟨rfl,F⟩
  have F:=F xs (j r);rw[J]at F;cases F;have U:(ss.take (i+1)).foldl (stpM aft N) (m0,[])=stpM aft N ((ss.take i).foldl (stpM aft N) (m0,[])) ss[i]:=by rw[e,Gh];rfl
  refine HG A C hN htm hrE r0 htr r (G.set ∎) (Dq (by have:=G.ln;omega)) Y (gd _ (C5 k)) (mN _ (λp s=>wG aft N p s) (ss.take i) (m0,[]) (A1 _)) ?_ λσ2 E Z I2=>⟨Z,by simp_all⟩;refine Ek ?_ hl;rw[<-U];show _<=(ss.foldl _ (m0,[])).1.length
  conv=>rhs;rw[<-List.take_append_drop (i+1) ss,Gh]
  exact qC _ (IT aft N) _ _
end
theorem jP(m:List (TK×Ad))(k:TK):((aY m k).isSome=ah)↔k∈m.map (·.1):=by
 unfold aY;simp
section
variable(aft:TK->Nat->Option TK)(N:Nat)
def q1(s:TK)(ks:List TK)(m:Nat):List TK:=match aft s m with
 |none=>ks
 |some b=>if b∈ks then ks else ks++[b]
def qs(ks:List TK)(s:TK):List TK:=(Be (N+1)).foldl (q1 aft s) ks
def Lr(s0:TK):Nat->List TK
 |0=>[s0]
 |j+1=>match (Lr s0 j)[j]? with
  |some s=>qs aft N (Lr s0 j) s
  |none=>Lr s0 j
end
section
variable{aft:TK->Nat->Option TK}{N:Nat}
theorem lu{α β:Type}(f:List α->β->List α)(h:∀l x,l <+: f l x):∀(xs:List β)(l:List α),l <+: xs.foldl f l
 |[],_=>Ex _
 |x::xs,l=>(h l x).trans (lu f h xs _)
theorem yD(s:TK)(ks:List TK)(m:Nat):ks <+: q1 aft s ks m:=by
 unfold q1
 split
 ·exact Ex _
 ·split
  ·exact Ex _
  ·exact List.prefix_append _ _
theorem FD(ks:List TK)(s:TK):ks <+: qs aft N ks s:=lu _ (yD s) _ _
theorem Pu{s b:TK}{ks:List TK}{m:Nat}(h:aft s m=ae b):b∈q1 aft s ks m:=by
 unfold q1;simp_all
 split
 ·assumption
 ·simp
theorem N1{s b:TK}{ks:List TK}{m:Nat}(hm:m<=N)(h:aft s m=ae b):b∈qs aft N ks s:=by
 obtain⟨c,a,e⟩:=List.append_of_mem (Cn.mpr (Nat.lt_succ_of_le hm));unfold qs;rw[e,Gh];exact(lu _ (yD s) a _).subset (Pu h)
theorem J8(s0:TK)(j:Nat):Lr aft N s0 j <+: Lr aft N s0 (j+1):=by
 show _ <+: (match _[j]? with|some s=>qs aft N _ s|none=>Lr aft N s0 j)
 split
 ·exact FD _ _
 ·exact Ex _
theorem jG(s0:TK)(i k:Nat):Lr aft N s0 i <+: Lr aft N s0 (i+k):=by
 induction k with
 |zero=>exact Ex _
 |succ k a=>exact a.trans (J8 s0 _)
theorem mJ{α:Type}{l l':List α}(h:l <+: l'){i:Nat}(hi:i < l.length):l'[i]?=l[i]?:=by
 obtain⟨t,rfl⟩:=h;rw[Fy hi]
theorem EL(s0:TK)(c:Nat):∀k,c+k<=(Lr aft N s0 c).length->Lr aft N s0 (c+k)=(((Lr aft N s0 c).drop c).take k).foldl (qs aft N) (Lr aft N s0 c)
 |0,_=>by simp
 |k+1,h=>by
  have b:=EL s0 c k ⋯;have a:c+k < (Lr aft N s0 c).length:=by omega
  have e:(Lr aft N s0 (c+k))[c+k]?=ae (Lr aft N s0 c)[c+k]:=by rw[mJ (jG s0 c k) a];simp
  have d:((Lr aft N s0 c).drop c).take (k+1)=((Lr aft N s0 c).drop c).take k++[(Lr aft N s0 c)[c+k]]:=by
   rw[List.take_succ,List.getElem?_drop,Ah a];rfl
  show(match _[c+k]? with|some s=>qs aft N _ s|none=>Lr aft N s0 _)=_;simp_all
theorem GJ{s:TK}{p:Fm}{m:Nat}{base:List TK}(h:p.1.map (·.1)=base++p.2):(stp aft s p m).1.map (·.1)=base++(stp aft s p m).2/\(stp aft s p m).1.map (·.1)=q1 aft s (p.1.map (·.1)) m:=by
 unfold stp q1;cases e:aft s m with
 |none=>exact⟨h,rfl⟩
 |some b=>
  dsimp only;by_cases z:(aY p.1 b).isSome=ah
  ·rw[b_ z,b_ ((jP _ _).mp z)];exact⟨h,rfl⟩
  ·rw[a_ z,a_ λy=>z ((jP _ _).mpr y)];refine⟨?_,by simp⟩;simp_all
theorem tw{α:Type}(f:Fm->α->Fm)(g:List TK->α->List TK){base:List TK}(hf:∀p x,p.1.map (·.1)=base++p.2->(f p x).1.map (·.1)=base++(f p x).2/\(f p x).1.map (·.1)=g (p.1.map (·.1)) x):
  ∀(xs:List α)(p:Fm),p.1.map (·.1)=base++p.2->(xs.foldl f p).1.map (·.1)=base++(xs.foldl f p).2/\(xs.foldl f p).1.map (·.1)=xs.foldl g (p.1.map (·.1))
 |[],p,h=>⟨h,rfl⟩
 |x::xs,p,h=>by
  obtain⟨b,a⟩:=hf p x h;have:=tw f g hf xs _ b;rw[a]at this;exact this
theorem HF{m:List (TK×Ad)}(ss:List TK):(cv aft N (m,[]) ss).1.map (·.1)=m.map (·.1)++(cv aft N (m,[]) ss).2/\(cv aft N (m,[]) ss).1.map (·.1)=ss.foldl (qs aft N) (m.map (·.1)):=
 tw _ _ (λp s h=>tw _ _ (λ_ _ h=>GJ h) (Be _) p h) ss _ (by simp)
structure Lev(aft:TK->Nat->Option TK)(N:Nat)(s0:TK)(c:Nat)(m:List (TK×Ad))(ss:List TK):Prop where
 ks:m.map (·.1)=Lr aft N s0 c
 rs:ss=(Lr aft N s0 c).drop c
 le:c<=(Lr aft N s0 c).length
theorem Lev.next{s0:TK}{c:Nat}{m:List (TK×Ad)}{ss:List TK}(L:Lev aft N s0 c m ss):Lev aft N s0 (Lr aft N s0 c).length (cv aft N (m,[]) ss).1 (cv aft N (m,[]) ss).2:=by
 obtain⟨d,e⟩:=HF ss;have f:c+((Lr aft N s0 c).length-c)=(Lr aft N s0 c).length:=by have:=L.le;omega
 have b:=EL (aft:=aft) (N:=N) s0 c ((Lr aft N s0 c).length-c) ⋯;rw[f,List.take_of_length_le (by simp),<-L.rs,<-L.ks]at b;have a:(cv aft N (m,[]) ss).1.map (·.1)=Lr aft N s0 (m.map (·.1)).length:=by rw[e,<-b]
 rw[L.ks]at a;refine⟨a,?_,?_⟩
 ·rw[<-a,d,L.ks,List.drop_left'];rfl
 ·rw[<-a,d,L.ks,An];omega
theorem Lev.first(s0:TK)(d:Ad):Lev aft N s0 0 [(s0,d)] [s0]:=⟨rfl,rfl,A1 _⟩
theorem qx{s0:TK}{J:Nat}(h:(Lr aft N s0 J).length<=J):∀k,Lr aft N s0 (J+k)=Lr aft N s0 J
 |0=>rfl
 |k+1=>by
  show(match (Lr aft N s0 (J+k))[J+k]? with|some s=>qs aft N _ s|none=>Lr aft N s0 (J+k))=_;rw[qx h k,Cf ⋯]
theorem Oe{s0:TK}{J:Nat}(h:(Lr aft N s0 J).length<=J)(c:Nat):(Lr aft N s0 c).length<=(Lr aft N s0 J).length:=by
 by_cases z:c<=J
 ·have:=(jG (aft:=aft) (N:=N) s0 c (J-c)).length_le;rwa [show c+(J-c)=J by omega]at this
 ·have:=qx h (c-J);rw[show J+(c-J)=c by omega]at this;rw[this];simp
theorem FI{s0:TK}{J:Nat}(h:(Lr aft N s0 J).length<=J){s b:TK}{m:Nat}(hs:s∈Lr aft N s0 J)(hm:m<=N)(e:aft s m=ae b):b∈Lr aft N s0 J:=by
 obtain⟨i,d,rfl⟩:=G5 hs;simp_all;have a:=jG (aft:=aft) (N:=N) s0 (i+1) (J-(i+1));rw[show i+1+(J-_)=J by omega]at a;have f:=jG (aft:=aft) (N:=N) s0 i (J-i);rw[show i+(J-i)=J by omega]at f;refine a.subset ?_;show b∈(match _[i]? with|some s=>qs aft N _ s|none=>Lr aft N s0 i);by_cases g:i < (Lr aft N s0 i).length
 ·have:(Lr aft N s0 i)[i]?=ae (Lr aft N s0 J)[i]:=by rw[<-mJ f g];exact Ah d
  rw[this];exact N1 hm e
 ·have c:=qx (aft:=aft) (N:=N) (s0:=s0) (J:=i) ⋯ (J-i);rw[show i+(J-i)=J by omega]at c;rw[c]at d;trivial
end
section
variable{aft:TK->Nat->Option TK}{N:Nat}{s0:TK}
inductive ParI(aft:TK->Nat->Option TK)(N:Nat)(s0:TK):List (TK×Ad)->Prop
 |one:ParI aft N s0 [(s0,.none)]
 |snoc {m:List (TK×Ad)} {s b:TK} {mv:Nat}:ParI aft N s0 m->s∈m.map (·.1)->mv<=N->aft s mv=ae b->b∉m.map (·.1)->ParI aft N s0 (m++[(b,.tuple [s.1,.int (mv:Nat)])])
inductive Way(m:List (TK×Ad)):TK->List Nat->Prop
 |root {k:TK}:aY m k=ae .none->Way m k []
 |step {k s:TK} {mv:Nat} {ms:List Nat}:aY m k=ae (.tuple [s.1,.int (mv:Nat)])->Way m s ms->Way m k (mv::ms)
theorem AL{m x:List (TK×Ad)}{k:TK}{d:Ad}(h:aY m k=ae d):aY (m++x) k=ae d:=by
 unfold aY at h ⊢;rw[List.find?_append];cases e:m.find? λq=>decide (q.1=k)with
 |none=>rw[e]at h;cases h
 |some q=>rw[e]at h;exact h
theorem RX{m:List (TK×Ad)}{k:TK}{d:Ad}(h:k∉m.map (·.1)):aY (m++[(k,d)]) k=ae d:=by
 have e:aY m k=af:=by
  cases z:aY m k with
  |none=>rfl
  |some d=>exact g_ ((jP m k).mp (by simp_all)) h
 unfold aY at e ⊢;rw[List.find?_append];cases z:m.find? λq=>decide (q.1=k)with
 |none=>simp
 |some q=>rw[z]at e;cases e
theorem Way.app{m x:List (TK×Ad)}{k:TK}{ms:List Nat}(h:Way m k ms):Way (m++x) k ms:=by
 induction h with
 |root e=>exact .root (AL e)
 |step e _ c=>exact .step (AL e) c
theorem ParI.stp{s:TK}{p:Fm}{mv:Nat}(h:ParI aft N s0 p.1)(hs:s∈p.1.map (·.1))(hm:mv<=N):ParI aft N s0 (stp aft s p mv).1:=by
 unfold Nb.stp;cases e:aft s mv with
 |none=>exact h
 |some b=>
  dsimp only;by_cases z:(aY p.1 b).isSome=ah
  ·rw[b_ z];exact h
  ·rw[a_ z];exact .snoc h hs hm e λy=>z ((jP _ _).mpr y)
theorem AF{s b:TK}{p:Fm}{mv:Nat}(h:b∈p.1.map (·.1)):b∈(stp aft s p mv).1.map (·.1):=by
 unfold Nb.stp
 split
 ·exact h
 ·split
  ·exact h
  ·rw[Bd];exact C3 _ h
theorem ParI.stpM{s:TK}:∀(ms:List Nat)(p:Fm),ParI aft N s0 p.1->s∈p.1.map (·.1)->(∀m∈ms,m<=N)->ParI aft N s0 (ms.foldl (Nb.stp aft s) p).1/\∀b∈p.1.map (·.1),b∈(ms.foldl (Nb.stp aft s) p).1.map (·.1)
 |[],_,h,_,_=>⟨h,λ_ z=>z⟩
 |m::ms,p,h,c,a=>by
  obtain⟨g,d⟩:=ParI.stpM ms _ (h.stp c (a m Ap)) (AF c) λx e=>a x (Ak _ e);exact⟨g,λb f=>d b (AF f)⟩
theorem ParI.fur:∀(ss:List TK)(p:Fm),ParI aft N s0 p.1->(∀s∈ss,s∈p.1.map (·.1))->ParI aft N s0 (cv aft N p ss).1
 |[],_,h,_=>h
 |s::ss,p,h,b=>by
  obtain⟨d,c⟩:=ParI.stpM _ p h (b s Ap) λx a=>Gm (Cn.mp a);exact ParI.fur ss _ d λx a=>c x (b x (Ak _ a))
end
section
variable(aft:TK->Nat->Option TK)(N:Nat)
def dS(s:TK×Nat)(E:List (TK×Nat))(m:Nat):List (TK×Nat):=match aft s.1 m with
 |none=>E
 |some b=>if b∈E.map (·.1)then E else E++[(b,s.2+1)]
def dM(E:List (TK×Nat))(s:TK×Nat):List (TK×Nat):=(Be (N+1)).foldl (dS aft s) E
def El(s0:TK):Nat->List (TK×Nat)
 |0=>[(s0,0)]
 |j+1=>match (El s0 j)[j]? with
  |some s=>dM aft N (El s0 j) s
  |none=>El s0 j
def pS(s:TK)(m:List (TK×Ad))(i:Nat):List (TK×Ad):=match aft s i with
 |none=>m
 |some b=>if b∈m.map (·.1)then m else m++[(b,.tuple [s.1,.int (i:Nat)])]
def pM(m:List (TK×Ad))(s:TK):List (TK×Ad):=(Be (N+1)).foldl (pS aft s) m
end
section
variable{aft:TK->Nat->Option TK}{N:Nat}{s0:TK}
theorem FJ(s:TK)(p:Fm)(i:Nat):(stp aft s p i).1=pS aft s p.1 i:=by
 unfold stp pS;cases aft s i with
 |none=>rfl
 |some b=>
  dsimp only;by_cases z:(aY p.1 b).isSome=ah
  ·rw[b_ z,b_ ((jP _ _).mp z)]
  ·rw[a_ z,a_ λy=>z ((jP _ _).mpr y)]
theorem sH{α:Type}(f:Fm->α->Fm)(g:List (TK×Ad)->α->List (TK×Ad))(h:∀p x,(f p x).1=g p.1 x):∀(xs:List α)(p:Fm),(xs.foldl f p).1=xs.foldl g p.1
 |[],_=>rfl
 |x::xs,p=>by rw[Eo,Eo,sH f g h xs,h]
theorem N0(m:List (TK×Ad))(ss:List TK):(cv aft N (m,[]) ss).1=ss.foldl (pM aft N) m:=sH _ _ (λp s=>sH _ _ (FJ s) _ p) ss _
structure Syn(m:List (TK×Ad))(E:List (TK×Nat)):Prop where
 ks:m.map (·.1)=E.map (·.1)
 wy:∀e∈E,∃ms,Way m e.1 ms/\ms.length=e.2
theorem Syn.one:Syn [(s0,.none)] [(s0,0)]:=⟨rfl,λe a=>by obtain rfl:e=(s0,0):=(by simp_all);exact⟨[],.root (by simp[aY]),rfl⟩⟩
theorem Syn.st{m:List (TK×Ad)}{E:List (TK×Nat)}{s:TK×Nat}(h:Syn m E)(hs:s∈E)(i:Nat):Syn (pS aft s.1 m i) (dS aft s E i)/\s∈dS aft s E i:=by
 unfold pS dS;cases aft s.1 i with
 |none=>exact⟨h,hs⟩
 |some b=>
  dsimp only;rw[h.ks];by_cases z:b∈E.map (·.1)
  ·rw[b_ z,b_ z];trivial
  ·rw[a_ z,a_ z];refine⟨⟨by rw[Bd,Bd,h.ks];rfl,λe a=>?_⟩,C3 _ hs⟩;rcases A7.mp a with a|a
   ·obtain⟨c,w,l⟩:=h.wy e a;exact⟨c,w.app,l⟩
   ·obtain rfl:=by simpa using a
    obtain⟨c,w,l⟩:=h.wy s hs;exact⟨_,.step (RX (by rw[h.ks];exact z)) w.app,by rw[Au,l]⟩
theorem Syn.sM{s:TK×Nat}:∀(is:List Nat)(m:List (TK×Ad))(E:List (TK×Nat)),Syn m E->s∈E->Syn (is.foldl (pS aft s.1) m) (is.foldl (dS aft s) E)
 |[],_,_,h,_=>h
 |i::is,m,E,h,a=>let⟨c,b⟩:=h.st a i;Syn.sM is _ _ c b
theorem PX(s:TK×Nat)(E:List (TK×Nat))(i:Nat):(dS aft s E i).map (·.1)=q1 aft s.1 (E.map (·.1)) i:=by
 unfold dS q1;cases aft s.1 i with
 |none=>rfl
 |some b=>
  dsimp only;by_cases z:b∈E.map (·.1)
  ·rw[b_ z,b_ z]
  ·rw[a_ z,a_ z,Bd];rfl
theorem Pq(s:TK×Nat)(E:List (TK×Nat)):(dM aft N E s).map (·.1)=qs aft N (E.map (·.1)) s.1:=by
 unfold dM qs;generalize Be _=l
 induction l generalizing E with
 |nil=>rfl
 |cons i l b=>rw[Eo,Eo,b,PX]
theorem il:∀j,(El aft N s0 j).map (·.1)=Lr aft N s0 j
 |0=>rfl
 |j+1=>by
  show List.map _ (match _[j]? with|some s=>dM aft N _ s|none=>El aft N s0 j)=(match _[j]? with|some s=>qs aft N _ s|none=>Lr aft N s0 j);rw[<-(il j),Am];cases(El aft N s0 j)[j]? with
  |none=>rfl
  |some s=>exact Pq s _
structure Grow(E:List (TK×Nat))(n:Nat):Prop where
 so:(E.map (·.2)).Pairwise (·<=·)
 le:∀e∈E,e.2<=n+1
theorem Grow.st{s:TK×Nat}{E:List (TK×Nat)}(h:Grow E s.2)(i:Nat):Grow (dS aft s E i) s.2:=by
 unfold dS;cases aft s.1 i with
 |none=>exact h
 |some b=>
  simp
  split
  ·exact h
  ·refine⟨?_,λe a=>?_⟩
   ·rw[Bd,List.pairwise_append];refine⟨h.so,D8 _ _,λx c y d=>?_⟩;obtain rfl:=by simpa using d
    obtain⟨e,a,rfl⟩:=Ba.mp c;exact h.le e a
   ·rcases A7.mp a with a|a
    ·exact h.le e a
    ·obtain rfl:=by simpa using a
     simp
theorem Grow.sM{s:TK×Nat}:∀(is:List Nat)(E:List (TK×Nat)),Grow E s.2->Grow (is.foldl (dS aft s) E) s.2
 |[],_,h=>h
 |i::is,E,h=>Grow.sM is _ (h.st i)
theorem mZ(s:TK×Nat)(E:List (TK×Nat))(i:Nat):E <+: dS aft s E i:=by
 unfold dS
 split
 ·exact Ex _
 ·split
  ·exact Ex _
  ·exact List.prefix_append _ _
theorem zM(E:List (TK×Nat))(s:TK×Nat):E <+: dM aft N E s:=lu _ (mZ s) _ _
theorem CF:∀j,(((El aft N s0 j).map (·.2)).Pairwise (·<=·))/\∀s,(El aft N s0 j)[j]?=ae s->∀e∈El aft N s0 j,e.2<=s.2+1
 |0=>⟨D8 _ _,λs d e m=>by obtain rfl:=(by simpa[El]using m);simp⟩
 |j+1=>by
  obtain⟨f,o⟩:=CF j;have e:El aft N s0 (j+1)=(match _[j]? with|some s=>dM aft N _ s|none=>El aft N s0 j):=rfl;cases z:(El aft N s0 j)[j]? with
  |none=>
   rw[z]at e;dsimp only at e;rw[e];refine⟨f,λs d=>?_⟩;rw[Cf (by have:=List.getElem?_eq_none_iff.mp z;omega)]at d;cases d
  |some s=>
   rw[z]at e;have g:Grow (dM aft N _ s) s.2:=Grow.sM _ _ ⟨f,o s z⟩;rw[e];refine⟨g.so,λs' b x l=>?_⟩;have n:(dM aft N (El aft N s0 j) s)[j]?=ae s:=by
    rw[mJ (zM _ s) (Ar.mp z).1];exact z
   have c:s.2<=s'.2:=by
    obtain⟨r,k⟩:=Ar.mp n;obtain⟨q,i⟩:=Ar.mp b;have:=(Hk.mp g.so) j _ (by rw[Ab];omega) (by rw[Ab];omega) (Nat.lt_succ_self j);rw[List.getElem_map,List.getElem_map,k,i]at this;omega
   exact A5 (g.le x l) (Nat.succ_le_succ c)
theorem Syn.level{c:Nat}{m:List (TK×Ad)}(h:Syn m (El aft N s0 c)):∀k,c+k<=(El aft N s0 c).length->Syn ((((Lr aft N s0 c).drop c).take k).foldl (pM aft N) m) (El aft N s0 (c+k))
 |0,_=>by simpa using h
 |k+1,j=>by
  have f:=Syn.level h k ⋯;have e:(Lr aft N s0 c).length=(El aft N s0 c).length:=by rw[<-il,Ab]
  have a:c+k < (Lr aft N s0 c).length:=by omega
  have i:((Lr aft N s0 c).drop c).take (k+1)=((Lr aft N s0 c).drop c).take k++[(Lr aft N s0 c)[c+k]]:=by
   rw[List.take_succ,List.getElem?_drop,Ah a];rfl
  have d:(Lr aft N s0 (c+k))[c+k]?=ae (Lr aft N s0 c)[c+k]:=by rw[mJ (jG s0 c k) a];simp
  rw[i,Gh];rw[<-il,Am]at d;obtain⟨s,b,g⟩:=E4.mp d;show Syn _ (match (El aft N s0 (c+k))[c+k]? with|some s=>dM aft N _ s|none=>El aft N s0 _);rw[b,<-g];exact Syn.sM _ _ _ f (A0 b)
theorem Syn.next{c:Nat}{m:List (TK×Ad)}{ss:List TK}(h:Syn m (El aft N s0 c))(L:Lev aft N s0 c m ss):Syn (cv aft N (m,[]) ss).1 (El aft N s0 (Lr aft N s0 c).length):=by
 have a:(Lr aft N s0 c).length=(El aft N s0 c).length:=by rw[<-il,Ab]
 have b:c+((Lr aft N s0 c).length-c)=(Lr aft N s0 c).length:=by have:=L.le;omega
 have:=h.level ((Lr aft N s0 c).length-c) ⋯;rw[b,List.take_of_length_le (by simp),<-L.rs,<-N0]at this;omega
end
end Nb
namespace DL
open PySem L2 Nb
theorem Rel.fur{C:Ctx}{H H':Hp}{B:A'->Prop}{σ:St}{δ:Sl}{n:Int}{i j:Nat}{m:List (TK×Ad)}{a b:A'}{p:Fm}(R:Rel C H B σ δ n)(hi:δ[i]?=ae (ae (.odx m)))(hij:i≠j)(hσ:σ[i]?=ae (ae (.ref a)))
  (I:FuI H C.t C.l C.ns n B a b p H') (hl:p.1.length<=1000) (hl2:p.2.length<=Ay):Rel C H' (λc=>B c\/c=b) (σ.set j (ae (.ref b))) ((δ.set j (ae (.own (p.2.map (·.1))))).set i (ae (.odx p.1))) n:=by
 obtain⟨v,w,T,N,rfl,y,k,h,S,O⟩:=R.sl i _ hi;rw[hσ]at w;cases w;have r:a≠C.t:=λz=>R.t0 (z▸h);obtain⟨x,P,A⟩:=I.fr;obtain⟨s,E,M⟩:=I.st;have q:=bu y I.nb
 let f:=upd H' a (.dX N)
 have D:Kp C.t H f:=λc o e K=>by
  by_cases z:c=a
  ·subst z;rw[y]at e;cases e;exact a9
  ·show upd H' a _ c=ae o;rw[aG z];exact I.kp c o e K z
 have J:Tp f C.t C.l C.ns n:=I.tp.other r.symm (λz=>R.l0 (z▸h)) (λe z=>R.g0 e (z▸h));have G:∀c o,H' c=ae o->¬(B c\/c=b)->f c=ae o/\¬(B c\/c=b):=λc o e u=>⟨by show upd H' a _ c=ae o;rw[aG λ(z:c=a)=>u (.inl (z▸k))];exact e,u⟩;have g:f b=ae (.lst x):=by show upd H' a _ b=_;rw[aG q.symm];omega
 have L:Rel C f _ _ (δ.set j (ae (.own _))) n:=
  R.own (R.step J D) D I.nb (by rw[g];simp) rfl ⟨b,x,rfl,g,.inr rfl,R.h0 I.nb,by rw[A.len,Ab];exact hl2,A.move G⟩
 have F:upd f a (.dX s)=H':=by
  rw[uj]
  funext c
  by_cases z:c=a
  ·subst z;rw[a9,E]
  ·rw[aG z]
 have:=L.mutOwn (x':=.odx p.1) (by rw[Bh hij.symm];omega) rfl (by rw[Bh hij.symm];omega) (.inl k) h
  (by rw[F];exact⟨a,s,rfl,E,.inl k,h,by rw[M.len];trivial⟩) rfl
 simp_all
def qD(Sa:aP):Sp:=λvs H Q _=>∃(t:A')(l:TL)(ns:List Int)(n:Int)(B:A'->Prop)(v0:V)(a c:A')(pd:Ad)(N:Nat)(aft:TK->Nat->Option TK)(Gd:TK->Prop)(xs:List V)(ss:List TK)(m0:List (TK×Ad))(l0:List (TK×A'×V)),
 vs=[v0,.ref a,.ref c]/\AfOk Sa pd N aft Gd/\FuC H t l B a/\N < 2 ^ 60/\RdX H B v0 pd/\Tp H t l ns n/\H a=ae (.dX l0)/\RdY H B l0 m0/\H c=ae (.lst xs)/\c≠t/\RdXs H B xs (ss.map (·.1))/\(∀s∈ss,Gd s)/\(cv aft N (m0,[]) ss).1.length < 2000 /\
 ∀b H',FuI H t l ns n B a b (cv aft N (m0,[]) ss) H'->Q (.ref b) H'
structure HasM(P:A3)(w:Bi)(K:Ag)(mg:Str->Option Af)(base:Heap)(k:Nat)(x:Str)(ps:List Str)(Sa:aP):Prop where
 ex:∃(f:A')(fd:Ce),FnOk P w K mg base bS k f fd ps (qD Sa)/\Binds K fd ps []/\mg x=ae (.ref f)/\Ct K (.ref f)=ah
def iM(Sa:aP)(h i j:Nat):aF:=λδ n E=>∃(pd:Ad)(N:Nat)(aft:TK->Nat->Option TK)(Gd:TK->Prop)(m:List (TK×Ad))(ss:List TK),AfOk Sa pd N aft Gd/\N < 2 ^ 60/\δ[h]?=ae (↑pd)/\δ[i]?=ae (ae (.odx m))/\δ[j]?=ae (ae (.own (ss.map (·.1))))/\(∀s∈ss,Gd s)/\(cv aft N (m,[]) ss).1.length<=1000 /\
 E.nx ((δ.set j (ae (.own ((cv aft N (m,[]) ss).2.map (·.1))))).set i (ae (.odx (cv aft N (m,[]) ss).1))) n
section
variable{X:Cx}{pos p0 p1 p2 p3 p4 cp:Pos}
theorem JK{x0 x1 x2 f:Str}{h i j k:Nat}{ps:List Str}{Sa:aP}(F:HasM X.prog X.w X.K X.mg X.base k f ps Sa)(hr:Room k X.A)(hg:Gl X f)(hN:X.N.Nodup)(h2:X.N[j]?=ae x2)(hx:fA X.env.scope x2)(hij:i≠j)
  {wR:cG} (ha:DA X [.Name x0 p1,.Name x1 p2,.Name x2 p3] (br (aI h) (br (aI i) (br (aI j) aX))) wR)
  (hs:Cy (.Call (.Name f p0) [.Name x0 p1,.Name x1 p2,.Name x2 p3] [] cp) (ae (.Name x2 p4)) pos.line X.env=pure ai:=by rfl) (hf:X.fn x2=ah\/X.env.scope.names.lookup x2=ae .local:=by first|exact .inl rfl|exact .inr rfl|assumption)
  (hdb:(f==("__debug__":Str))=ai:=by decide)
  (he:As (.Name x0 p1::[.Name x1 p2,.Name x2 p3]) X.env=(ai,eval (.Name x0 p1) X.env)::As [.Name x1 p2,.Name x2 p3] X.env:=by rfl) (q_:(Cw cp (As [.Name x1 p2,.Name x2 p3] X.env)).any (·.1)=ai:=by rfl):
  DS X (.Assign [.Name x2 p4] (.Call (.Name f p0) [.Name x0 p1,.Name x1 p2,.Name x2 p3] [] cp) pos) (bw (eu (qD Sa) [] E0 (br (aI h) (br (aI i) (br (aI j) aX)))) (c8 j)) (iM Sa h i j):=by
 obtain⟨g,fd,Z,J,P,f4⟩:=F.ex;refine⟨fG hN h2 hx (jg Z hr hg P f4 J .nil ju ha.pa hdb he q_) hs hf,λC H B σ δ n E D R q G=>?_⟩;obtain⟨M,N,d,Gd,m,u,A,o,L,v,Q,S,r,q⟩:=q;obtain⟨y,V,U⟩:=R.sl h _ L;obtain⟨_,x,a,l0,rfl,a2,O,T,a5,a6⟩:=R.sl i _ v;obtain⟨_,Y,c,xs,rfl,W,c3,c4,c5,c6⟩:=R.sl j _ Q;refine⟨y,V,_,x,_,Y,⟨C.t,C.l,_,n,B,y,a,c,M,N,d,Gd,xs,u,m,l0,rfl,A,⟨R.bt,O,R.ba,λz=>R.t0 (z▸T),?_,?_⟩,o,U.1,R.tp,a2,a6,W,λz=>R.t0 (z▸c4),c6,S,by omega,λb H' I=>?_⟩⟩
 ·rw[R.tp.ls];simp
 ·exact λe=>by rw[R.tp.ag e];simp
 ·exact G.nx _ _ _ _ _ (Rel.fur R v hij x I r (A5 (A5 (mN _ (λp s=>wG d N p s) u (m,[]) (A1 _)) r) ∎)) q
end
section
variable{P:A3}{w:Bi}{K:Ag}{mg:Str->Option Af}{base:Heap}
def j9(X:Cx)(b:List Stmt)(Sa:aP):Prop:=∃(tm tr:TE)(rE:R2),PSs X b (mH X.K Sa tm rE tr)/\(∀(σ:St)(H:Hp)(Q:VK),Q (.int 2000) H->tm σ H Q)/\(∀(x y:Int)(H:Hp)(Q:VK),Q (.bl (decide (x=y))) H->rE (.int x) (.int y) H Q) /\
 ∀(σ:St)(H:Hp)(Q:VK)(B:A'->Prop)(v0:V)(ps:List Ad),σ[0]?=ae (ae v0)->RdX H B v0 (.tuple ps)->Q (.int ((ps.length+1:Nat):Int)) H->tr σ H Q
theorem Fun.okM{x qual:Str}{st:Stmt}{f:A'}{fd:Ce}{N ps:List Str}{k:Nat}{Sa:aP}(F:Fun K x qual st f fd)(Sc:FnScope N ps (bE st))(hps:ps.length=3)(hNl:6 < N.length)
  (hbody:∀(n_:Af)(A:Bq)(outer:List Env)(s:Ai)(H:Hp)(E:XK),Room k (A.deeper (C2 qual (bE st) s.heap.objs.size f n_))->
   j9 (b6 bS P w K mg base N qual (bE st) f n_ A outer s H E).nox (ez st) Sa):FnOk P w K mg base bS (k+1) f fd ps (qD Sa):=by
 refine F.ok Sc (λvs H Q E h=>?_) (λn_ A outer s H vs Q E V h=>?_)
 ·obtain⟨t,l,L,n,B,p,a,c,I,y,u,Z,S,G,R,l0,rfl,_⟩:=h;exact hps.symm
 ·obtain⟨t,l,L,n,B,p,a,c,I,y,u,Z,S,G,R,l0,rfl,v,C,m,O,T,ha,D,W,X,Y,J,z,U⟩:=h;obtain⟨tm,tr,rE,d,i,o,g⟩:=hbody n_ A outer s H E V;obtain⟨M,j,b⟩:=v.prog;subst j b;exact⟨_,d,Rc v C m i o O (λσ H Q B e r q=>g σ H Q B p M e r q) T rfl rfl rfl (by show 6 < ([ae p,ae _,ae _]++Di _ af).length;simp;omega) ha D W X Y J z U⟩
end
end DL
namespace L2
open PySem PySem.Spec PyProof.Rows
theorem Lc{X:Cx}{i_:List (A'×Obj)}{σ:St}{H:Hp}{s:Ai}{a b:A'}{v:V}{r:Af}{ps:List XP}{k:TK}{A:Bq}{E:Af->Ai->Prop}{Q:Unit->Ai->Prop}(hu:A.units+64 < De)(I:Inv X i_ σ H s)(e:H a=ae (.dX ps))(hk:gA X.K H ps)(eb:RdD X.K H (.ref b) k.1)(l:ps.length < Ay)(rv:RelV v r)(h:∀s',Inv X i_ σ (upd H a (.dX (cS ps k b v))) s'->Q () s'):
  A6 (A9 X.prog X.w) A (dictSet a (.ref b) r) Q E s:=by
 obtain⟨z,t,x,c,g⟩:=lY I (.inl e) hk;have B:x.length<=Ay:=by rw[<-D1 c];exact z
 have m:(cS ps k b v).length<=Ay:=by have:=tJ ps k b v;omega
 refine wpAny_dictSet_heap (show A.units+16 < De by omega) (nO I eb) g λh' d y=>h _ ?_;obtain⟨q,p,u,f,i,n,o,_,j⟩:=d;exact kX I (by rw[e];trivial) y ⟨q,f⟩ ⟨m,t,_,c.put k rv,q,p,u,f,i,n,o,j⟩
def nP(K:Ag)(tk tv:TE):TE:=λσ H Q=>∀p,H p=af->tk σ (upd H p (.dX [])) λy H1=>tv σ H1 λv H2=>∃H3,mT K H2 p y v H3/\Q (.ref p) H3
theorem R9{X:Cx}{k v:Expr}{tk tv:TE}{pos:Pos}(hu:X.A.units+64 < De)(hk:PE X k tk)(hv:PE X v tv):PE X (.Dict [ae k] [v] pos) (nP X.K tk tv):=by
 intro a s σ H Q I h;refine wpAny_Dict_any rfl rfl (by simp) (show 1<=15 by decide) ?_;have M:Inv X a σ (upd H s.heap.objs.size (.dX [])) {s with heap:=s.heap.push {cls:=.type "dict",data:=.dict #[]}}:=by
  refine I.laid (λ_ _ q=>Ae _ q) (Al _) ?_;obtain⟨z,y,Z,r,o,D,G,F,i,n,p,S⟩:=yP (P:=X.prog) (w:=X.w) (H:=upd H s.heap.objs.size (.dT [])) s.heap I.big;cases r;exact⟨A1 _,y,[],.nil,o,D,G,F,i,n,p,List.nodup_nil⟩
 refine Aa (aL (hk a _ σ _ _ M (h _ (I.hok.fresh (Al _)))) λkv R ⟨y,E,m,L,C⟩=>Aa (Cc (Aa (aL (hv a R σ E _ m C) λvv Y ⟨u,W,J,N,U,g,t⟩=>Aa (wpAny_standAt (Aj ?_))))));refine Aa (Cc (Aj (Aj ?_)));obtain⟨T,j,b,e,c,rfl,x,l,rfl⟩:=g;obtain rfl:=L;show A6 _ _ (Gp [(Cj b,vv)] PUnit.unit _) _ _ _;rw[List.forIn_cons];refine Aa (Aa (Lc hu J e c x l N λs4 B=>Aj ?_));show A6 _ _ _ _ _ _;exact Aj ⟨.ref s.heap.objs.size,_,B,rfl,t⟩
end L2
namespace DL
open PySem L2 Nb
section
variable{X:Cx}{k v:Expr}{tk tv:TE}{wk wv:DT}{pos p:Pos}
def m3(i:Nat)(wk wv:DT):aF:=λδ n K=>wk δ n λy n1=>wv δ n1 λz n2=>∃m_ d e,z=.d d/\y=.d e/\nB e m_/\K.nx (δ.set i (ae (.odx [(m_,d)]))) n2
theorem QL{i:Nat}{x:Str}{pos':Pos}(hu:X.A.units+64 < De)(hN:X.N.Nodup)(hi:X.N[i]?=ae x)(hx:fA X.env.scope x)(hk:DE X k tk wk)(hv:DE X v tv wv)(hs:Cy (.Dict [ae k] [v] p) (ae (.Name x pos')) pos.line X.env=pure ai:=by rfl)(hf:X.fn x=ah\/X.env.scope.names.lookup x=ae .local:=by first|exact .inl rfl|exact .inr rfl|assumption):
  DS X (.Assign [.Name x pos'] (.Dict [ae k] [v] p) pos) (bw (nP X.K tk tv) (c8 i)) (m3 i wk wv):=⟨fG hN hi hx (R9 hu hk.pe hv.pe) hs hf,λC H B σ δ n K D R q E=>λa g=>by
 have T:=by
  have:=R.own (i:=δ.length) (R.new g) (Kp.new g) g (by rw[a9];simp) (x:=.odx []) rfl ⟨a,[],rfl,a9,.inr rfl,R.h0 g,A1 _,.nil⟩;rwa [List.set_eq_of_length_le (by rw[R.len];simp),List.set_eq_of_length_le (Al _)]at this
 refine hk.sd C _ _ σ δ n _ _ T q λu y W Y O S r1 U=>hv.sd C W _ σ δ Y _ _ O U λw z m V Z r r2 s=>?_;obtain⟨f,d,e,rfl,rfl,F,s⟩:=s;obtain⟨b,rfl,Q⟩:=nz ((r1.kp r O.bt)) F;have h:a≠C.t:=λz=>by obtain⟨_,_⟩:=R.tp.ob;simp_all
 refine⟨_,⟨[],f,b,(r _ _ (S _ _ a9 h) h),(λp L=>nomatch L),rfl,Q.rd,by decide,rfl⟩,?_⟩;have L:cS [] f b w=[(f,b,w)]:=by rfl
 have G:Kp C.t H (upd m a (.dX [(f,b,w)])):=λc o e P=>by
  rw[aG (bu e g)];exact r _ _ (S _ _ (by rw[aG (bu e g)];exact e) P) P
 have T3:Tp (upd m a (.dX [(f,b,w)])) C.t C.l C.ns V:=Z.tp.other h.symm (λz=>by have:=R.tp.ls;simp_all) (λe z=>by have:=R.tp.ag e;simp_all);have J:∀c o,m c=ae o->¬(B c\/c=a)->upd m a (.dX [(f,b,w)]) c=ae o/\¬(B c\/c=a):=λc o e M=>⟨by rw[aG λz=>M (.inr z)];exact e,M⟩;refine E.nx _ _ _ _ _ (R.own (x:=.odx [(f,d)]) (R.step T3 G) G g (by rw[a9];simp) rfl ⟨a,_,rfl,a9,.inr rfl,R.h0 g,show 1<=1000 by decide,.cons ⟨rfl,Q.move J,(r2).move J⟩ .nil⟩) s⟩
end
section
variable{X:Cx}{o:Expr}{td:TE}{wd':DT}{pos p:Pos}{K:Ag}
theorem RdY.refs{H:Hp}{B:A'->Prop}{l:List (TK×A'×V)}{m:List (TK×Ad)}(h:RdY H B l m):RdXs H B (l.map λq=>V.ref q.2.1) (m.map λq=>q.1.1):=by
 induction h with
 |nil=>exact .nil
 |@cons p q d c a t b=>exact .cons (show RdX H B _ q.1.1 by rw[<-a.1];exact a.2.1) b
def uL(w:DT):dO:=λδ n Q=>w δ n λx n1=>∃kvs,gq x kvs/\kvs.length<=1000/\Q (kvs.map (·.1.1)) n1
theorem Jh(hh:X.A.handled=af)(hg:Gl X "list")(hm:X.mg "list"=af)(ho:DE X o td wd')(hK:X.K=K:=by rfl)(he:As [o] X.env=(ai,eval o X.env)::As [] X.env:=by rfl)(q_:(Cw pos (As [] X.env)).any (·.1)=ai:=by rfl):
  DF X (.Call (.Name "list" p) [o] [] pos) (d3 (yz K) (br td aX)) (uL wd'):=by
 subst hK;refine⟨mE (Si hh) hg hm qK (b3 ho.pe dm he) ∎ ∎ he q_,λC H B σ δ n Q t R q k=>ho.sd C H B σ δ n _ _ R q λv x s i d f m c=>?_⟩;obtain⟨h,j,g,c⟩:=c;obtain⟨a,l,rfl,r,u,e⟩:=WRel.rdX d.bt j m;exact⟨a,l,rfl,r,e.keys,λL b=>k L _ _ _ i (d.new b) (f.trans (Kp.new b)) (d.was f b) a9 (by rw[Ab,e.len];exact dD g) (e.refs.fresh b) c⟩
end
end DL
namespace L2
open PySem PySem.Spec PyProof.Rows PySem.W
end L2
namespace DL
open PySem L2 Nb
end DL
namespace L2
open PySem PySem.Spec PyProof.Rows PySem.W
end L2
namespace DL
open PySem L2 Nb
abbrev ej:=List Wv->Int->(List (TK×Ad)->Int->Prop)->Prop
def mK(S:ej):Sp:=λvs H Q _=>∃(t:A')(l:TL)(ns:List Int)(B:A'->Prop)(ws:List Wv)(n:Int)(Q0:List (TK×Ad)->Int->Prop),Tp H t l ns n/\B t/\(∀b,B b->H b≠af)/\ARel H B t vs ws/\S ws n Q0 /\
 ∀kvs n',Q0 kvs n'->∀a l' H',Tp H' t l ns n'->Kp t H H'->H a=af->H' a=ae (.dX l')->l'.length<=1000->RdY H' (λb=>B b\/b=a) l' kvs->Q (.ref a) H'
structure HasX(P:A3)(w:Bi)(K:Ag)(mg:Str->Option Af)(base:Heap)(k:Nat)(x:Str)(ps:List Str)(S:ej):Prop where
 ex:∃(f:A')(fd:Ce),FnOk P w K mg base bS k f fd ps (mK S)/\Binds K fd ps []/\mg x=ae (.ref f)/\Ct K (.ref f)=ah
theorem HasX.mk'{P:A3}{w:Bi}{K:Ag}{mg:Str->Option Af}{base:Heap}{k:Nat}{x qual:Str}{st:Stmt}{ps:List Str}{S:ej}{f:A'}{fd:Ce}(F:Fun K x qual st f fd)(m:mg x=ae (.ref f))(b:Binds K fd ps [])(h:FnOk P w K mg base bS k f fd ps (mK S)):HasX P w K mg base k x ps S:=⟨f,fd,h,b,m,F.kp⟩
section
variable{X:Cx}{e:Expr}{es:List Expr}{pos p:Pos}{tR:TA}{wR:cG}
def kL(i:Nat):aF:=λδ n K=>match δ[i]? with
 |some (ae (.odx kvs))=>K.rx kvs n
 |_=>False
theorem JD(i:Nat){x:Str}{xp:Pos}(hN:X.N[i]?=ae x:=by rfl)(hv:dU X.env.scope x:=by first|exact Ci rfl|exact B5 (Ci rfl)|exact B5 (B5 rfl))(hd:(x==("__debug__":Str))=ai:=by decide)
  (r_:(x==("__classdict__":Str))=ai:=by decide):DS X (.Return (ae (.Name x xp)) pos) (fE (aI i)) (kL i):=⟨i0 (eY hN hv hd r_),λC H B σ δ n K D R q E=>by
 unfold kL at q
 split at q
 ·rename_i c f;obtain⟨v,hv,a,l,rfl,m,h,j,k,g⟩:=R.sl i _ f;exact⟨_,hv,E.rx H B σ δ n a l c R j m k (g.move λb o e d=>⟨e,λz=>z.elim d λq=>d (q▸h)⟩) q⟩
 ·exact q.elim⟩
end
section
variable{P:A3}{w:Bi}{K:Ag}{mg:Str->Option Af}{base:Heap}
theorem Fun.okX{x qual:Str}{st:Stmt}{f:A'}{fd:Ce}{N ps:List Str}{k:Nat}{S:ej}(F:Fun K x qual st f fd)(Sc:FnScope N ps (bE st))(len:∀ws n Q,S ws n Q->ws.length=ps.length)
  (hbody:∀(n_:Af)(A:Bq)(outer:List Env)(s:Ai)(H:Hp)(E:XK),Room k (A.deeper (C2 qual (bE st) s.heap.objs.size f n_))->
   ∃T W,DSs (b6 bS P w K mg base N qual (bE st) f n_ A outer s H E).nox (ez st) T W/\∀ws n Q,S ws n Q->W (eE N ws) n {nx:=λ_ _=>False,rt:=λ_ _=>False,rx:=Q}):FnOk P w K mg base bS (k+1) f fd ps (mK S):=by
 refine F.ok Sc (λvs H Q E h=>?_) (λn_ A outer s H R Q E O h=>?_)
 ·obtain⟨t,l,C,B,ws,n,g,_,_,_,r,q,_⟩:=h;rw[r.len];exact len ws n g q
 ·obtain⟨t,l,C,B,ws,n,g,T,j,I,r,q,M⟩:=h;obtain⟨J,W,d,L⟩:=hbody n_ A outer s H E O;refine⟨J,d.ps,d.sd _ H B _ _ n _ _ (pK T j I r) (L ws n g q) ⟨?_,?_,?_,?_,?_,?_⟩⟩
  ·exact λ_ _ _ _ _ _ z=>z.elim
  ·exact λ_ _ _ _ _ _ _ _ _ z=>z.elim
  ·exact λ_ _ _ _ _ _ z=>z.elim
  ·exact λ_ _ _ _ _ _ z=>z.elim
  ·exact λ_ _ _ _ _ _ _ _ _ _ _ _ _ z=>z.elim
  ·exact λH' X σ δ U a p v c D G i m u=>M _ _ u a p H' c.tp c.kp D G i (m.move λb o e y=>⟨e,λz=>y (z.elim (λz=>.inl (c.b0 b z)) .inr)⟩)
end
section
variable{X:Cx}{a b:Expr}{ta tb:TE}{wa wb:DT}{pos:Pos}{K:Ag}
def kG(w:DT):bZ:=λδ n Q=>w δ n λx n1=>match fQ x with
 |some ds=>Q (!ds.isEmpty) n1
 |none=>False
theorem O8{e:Expr}{te:TE}{we:DT}(h:DE X e te we)(he:∀whole,isTrue e X.env whole=(do let v <-whole;standAt e.pos;holding [v] (truthy v)):=by intro _;rfl):DC X e (λσ H Q=>te σ H λx H'=>∃k,j6 X.K x H' k/\Q k H') (kG we):=
 ⟨Ot h.pe he,λC H B σ δ n Q r R q k=>h.sd C H B σ δ n _ _ R q λv x f g d m j b=>by
  split at b
  ·rename_i s o;obtain⟨a,i,rfl,l,p,c⟩:=rl j o;refine⟨_,.inl ⟨i,SqL.of l,?_⟩,k _ f g d m b⟩;cases c<;>rfl
  ·exact b.elim⟩
end
end DL
namespace Nb
open PySem L2 DL
def kR(Sa:aP):ej:=λws n Q=>∃(pd:Ad)(s0:TK)(N:Nat)(aft:TK->Nat->Option TK)(Gd:TK->Prop)(J:Nat),ws=[.d pd,.d s0.1]/\AfOk Sa pd N aft Gd/\Gd s0/\N < 2 ^ 60/\(Lr aft N s0 J).length<=J/\(Lr aft N s0 J).length<=1000 /\
 ∀m,m.map (·.1)=Lr aft N s0 J->ParI aft N s0 m->Syn m (El aft N s0 J)->Q m n
theorem zH{N:Nat}{aft:TK->Nat->Option TK}{Gd:TK->Prop}{s0:TK}(A:∀(s:TK) (i:Nat) (b:TK),Gd s->i<=N->aft s i=ae b->Gd b)(h0:Gd s0):∀j,∀s∈Lr aft N s0 j,Gd s
 |0=>λs a=>by obtain rfl:=(by simpa[Lr]using a);omega
 |j+1=>by
  have k:=zH A h0 j;show ∀s∈(match (Lr aft N s0 j)[j]? with|some s=>qs aft N (Lr aft N s0 j) s|none=>Lr aft N s0 j),Gd s;cases e:(Lr aft N s0 j)[j]? with
  |none=>exact k
  |some t=>
   have f:∀(c:List Nat) l,(∀i∈c,i<=N)->(∀s∈l,Gd s)->∀s∈c.foldl (q1 aft t) l,Gd s:=by
    intro c
    induction c with
    |nil=>exact λks _ h=>h
    |cons i c g=>
     intro l d h;refine g _ (λx n=>d x (Ak _ n)) λs a=>?_;unfold q1 at a;cases m:aft t i with
     |none=>rw[m]at a;simp_all
     |some b=>
      rw[m]at a;dsimp only at a
      split at a
      ·exact h s a
      ·rcases A7.mp a with a|a
       ·exact h s a
       ·obtain rfl:=by simpa using a
        exact A t i s (k t (A0 e)) (d i Ap) m
   exact f _ _ (λi d=>Gm (Cn.mp d)) k
theorem Q2(Sa:aP)(ws:List Wv)(n:Int)(Q:List (TK×Ad)->Int->Prop)(h:kR Sa ws n Q):
  (aq (m3 2 ↥1 (wC .none)) (aq (bq 3 (aO (ao ↥1 ak))) (aq (mf (kG (cn 3)) (iM Sa 0 2 3)) (kL 2)))) (eE ["programs","stand","steps","stands"] ws) n {nx:=λ_ _=>False,rt:=λ_ _=>False,rx:=Q}:=by
 obtain⟨F,s0,N,aft,E,J,rfl,A,z,B,x,u,q⟩:=h;obtain⟨p,g⟩:=A.tup s0 z;refine⟨s0,_,_,rfl,rfl,⟨rfl,p,g⟩,⟨show 1<=1000 by decide,?_⟩⟩;refine⟨λk δ y=>∃c m f,k=J+1-c/\y=n/\c<=J/\δ=[ae _,ae _,ae (.odx m),ae (.own (f.map (·.1)))]/\Lev aft N s0 c m f/\ParI aft N s0 m/\Syn m (El aft N s0 c),⟨J+1,0,_,_,rfl,rfl,A1 _,rfl,Lev.first s0 _,.one,Syn.one⟩,?_⟩
 rintro k δ y ⟨c,m,f,rfl,rfl,K,rfl,L,P,S⟩
 show(if _=ah then _ else _);have d:f.length=(Lr aft N s0 c).length-c:=by rw[L.rs,D3]
 cases f with
 |nil=>
  have l:(Lr aft N s0 c).length<=c:=by
   simp at d;omega
  have G:Lr aft N s0 c=Lr aft N s0 J:=by
   have:=qx l (J-c);simp_all
  have D:∀k,El aft N s0 (c+k)=El aft N s0 c:=by
   intro k
   induction k with
   |zero=>rfl
   |succ k C=>
    show(match (El aft N s0 (c+k))[c+k]? with|some s=>dM aft N _ s|none=>El aft N s0 (c+k))=_;rw[C,Cf (by have:=congrArg Dx (il (aft:=aft) (N:=N) (s0:=s0) c);rw[Ab]at this;omega)]
  have I:=D (J-c);exact q m (L.ks.trans G) P (by simp_all)
 |cons t r=>
  have H:=by simp at d;omega
  have v:=Oe x;have e:∀s∈t::r,s∈m.map (·.1):=λs i=>by rw[L.ks];rw[L.rs]at i;exact List.mem_of_mem_drop i
  have w:=L.next;refine⟨F,N,aft,E,m,_,A,B,rfl,rfl,rfl,λs i=>zH A.good z c s (by rw[<-L.ks];exact e s i),?_,?_⟩
  ·have:=congrArg Dx w.ks;rw[Ab]at this;rw[this];exact A5 (v _) u
  ·exact⟨_,by omega,_,_,_,rfl,rfl,A5 (v c) x,rfl,w,P.fur _ _ e,S.next L⟩
end Nb
namespace L2
open PySem PySem.Spec PyProof.Rows PySem.W
end L2
namespace DL
open PySem L2 Nb
end DL
namespace Nb
open PySem L2 DL
end Nb
namespace DL
open PySem L2 Nb
abbrev ig:=List Wv->Int->(Option (List (TK×Ad))->Int->Prop)->Prop
def nc(S:ig):Sp:=λvs H Q _=>∃(t:A')(l:TL)(ns:List Int)(B:A'->Prop)(ws:List Wv)(n:Int)(Q0:Option (List (TK×Ad))->Int->Prop),Tp H t l ns n/\B t/\(∀b,B b->H b≠af)/\ARel H B t vs ws/\S ws n Q0 /\
 (∀n',Q0 af n'->∀H',Tp H' t l ns n'->Kp t H H'->Q .non H') /\
 ∀kvs n',Q0 (ae kvs) n'->∀a l' H',Tp H' t l ns n'->Kp t H H'->H a=af->H' a=ae (.dX l')->l'.length<=1000->RdY H' (λb=>B b\/b=a) l' kvs->Q (.ref a) H'
structure HasXO(P:A3)(w:Bi)(K:Ag)(mg:Str->Option Af)(base:Heap)(k:Nat)(x:Str)(ps:List Str)(S:ig):Prop where
 ex:∃(f:A')(fd:Ce),FnOk P w K mg base bS k f fd ps (nc S)/\Binds K fd ps []/\mg x=ae (.ref f)/\Ct K (.ref f)=ah
theorem HasXO.mk'{P:A3}{w:Bi}{K:Ag}{mg:Str->Option Af}{base:Heap}{k:Nat}{x qual:Str}{st:Stmt}{ps:List Str}{S:ig}{f:A'}{fd:Ce}(F:Fun K x qual st f fd)(m:mg x=ae (.ref f))(b:Binds K fd ps [])(h:FnOk P w K mg base bS k f fd ps (nc S)):HasXO P w K mg base k x ps S:=⟨f,fd,h,b,m,F.kp⟩
def rY:Option (List (TK×Ad))->SV
 |none=>.w (.d .none)
 |some kvs=>.odx kvs
section
variable{X:Cx}{e:Expr}{es:List Expr}{pos p:Pos}{tR:TA}{wR:cG}{te:TE}{we:DT}
def sU(i:Nat)(S:ig)(w:cG):aF:=λδ n K=>w δ n λxs n1=>S xs n1 λr n2=>K.nx (δ.set i (ae (rY r))) n2
theorem Rl{i:Nat}{x:Str}{pos' cp:Pos}{k:Nat}{ps:List Str}{S:ig}{f:Str}(h:HasXO X.prog X.w X.K X.mg X.base k f ps S)(hr:Room k X.A)(hg:Gl X f)(hN:X.N.Nodup)(hi:X.N[i]?=ae x)(hx:fA X.env.scope x)(ha:DA X (e::es) tR wR)
  (hs:Cy (.Call (.Name f p) (e::es) [] cp) (ae (.Name x pos')) pos.line X.env=pure ai:=by rfl) (hf:X.fn x=ah\/X.env.scope.names.lookup x=ae .local:=by first|exact .inl rfl|exact .inr rfl|assumption)
  (hdb:(f==("__debug__":Str))=ai:=by decide) (he:As (e::es) X.env=(ai,eval e X.env)::As es X.env:=by rfl) (q_:(Cw cp (As es X.env)).any (·.1)=ai:=by rfl):
  DS X (.Assign [.Name x pos'] (.Call (.Name f p) (e::es) [] cp) pos) (bw (eu (nc S) [] E0 tR) (c8 i)) (sU i S wR):=by
 obtain⟨g,U,J,y,z,F⟩:=h.ex;refine⟨fG hN hi hx (jg J hr hg z F y .nil ju ha.pa hdb he q_) hs hf,λC H B σ δ n K D R q E=>ha.sd C H B σ δ n _ _ R q λvs O T L b u P I=>⟨C.t,C.l,_,B,O,L,_,b.tp,b.bt,b.ba,by rw[Bu];exact P,I,λn' m M r j=>?_,λkvs Q m a G M r j v c o s=>?_⟩⟩
 ·exact E.nx _ _ _ _ _ ((b.step r j).set (x:=.d .none) .non rfl) m
 ·refine E.nx _ _ _ _ _ (R.own (b.step r j) (u.trans j) (b.was u v) (by rw[c];simp) rfl ?_) m;exact⟨a,G,rfl,c,.inr rfl,R.h0 (b.was u v),o,s⟩
end
section
variable{P:A3}{w:Bi}{K:Ag}{mg:Str->Option Af}{base:Heap}
theorem Fun.okXO{x qual:Str}{st:Stmt}{f:A'}{fd:Ce}{N ps:List Str}{k:Nat}{S:ig}(F:Fun K x qual st f fd)(Sc:FnScope N ps (bE st))(len:∀ws n Q,S ws n Q->ws.length=ps.length)
  (hbody:∀(n_:Af)(A:Bq)(outer:List Env)(s:Ai)(H:Hp)(E:XK),Room k (A.deeper (C2 qual (bE st) s.heap.objs.size f n_))->
   ∃T W,DSs (b6 bS P w K mg base N qual (bE st) f n_ A outer s H E).nox (ez st) T W/\∀ws n Q,S ws n Q->W (eE N ws) n {nx:=λ_ _=>False,rt:=λw n=>w=.d .none/\Q af n,rx:=λkvs n=>Q (ae kvs) n}):FnOk P w K mg base bS (k+1) f fd ps (nc S):=by
 refine F.ok Sc (λvs H Q E h=>?_) (λn_ A outer s H vs Q E V h=>?_)
 ·obtain⟨t,l,G,B,ws,n,i,_,_,_,r,q,_⟩:=h;rw[r.len];exact len ws n i q
 ·obtain⟨t,l,G,B,ws,n,i,T,u,M,r,q,Z,U⟩:=h;obtain⟨O,W,d,R⟩:=hbody n_ A outer s H E V;refine⟨O,d.ps,d.sd _ H B _ _ n _ _ (pK T u M r) (R ws n i q) ⟨?_,?_,?_,?_,?_,?_⟩⟩
  ·exact λ_ _ _ _ _ _ z=>z.elim
  ·intro H' Y σ δ j v w' c L z;obtain⟨rfl,g⟩:=z;have X:v=.non:=by cases(L);rfl
   subst X;exact Z j g H' c.tp c.kp
  ·exact λ_ _ _ _ _ _ z=>z.elim
  ·exact λ_ _ _ _ _ _ z=>z.elim
  ·exact λ_ _ _ _ _ _ _ _ _ _ _ _ _ z=>z.elim
  ·exact λH' Y σ δ j a C kvs c I J p y g=>U _ _ g a C H' c.tp c.kp I J p (y.move λb o e D=>⟨e,λz=>D (z.elim (λz=>.inl (c.b0 b z)) .inr)⟩)
end
def mi(neg:Bool):Wv->Wv->Int->DQ->Prop:=λx y n Q=>(∃kvs,x=.dx kvs/\y=.d .none/\Q (.d (.bool neg)) n)\/iW neg x y n Q
theorem Qa:a8 (λx y H Q=>y=.non/\Q (.bl (decide (x=.non))) H) (mi ai):=λC H B σ δ n x y p q Q f R c d b k=>by
 rcases b with⟨e,rfl,rfl,b⟩|b
 ·obtain⟨a,l,rfl,_⟩:=c;cases(d);exact⟨rfl,k _ _ H n R (Kp.refl _ _) (by exact .bl ai) b⟩
 ·exact Kq C H B σ δ n x y p q Q f R c d b k
end DL
namespace Nb
open PySem L2 DL
theorem r9{ds:List Ad}{i:Int}{d:Ad}{n:Int}{Q:DQ}(h:cx ds i=ae d)(q:Q (.d d) n):aR (.ln ds) (.d (.int i)) n Q:=by
 show(match cx ds i with|some d=>Q _ n|none=>False);simp_all
theorem zJ{a b:Ad}{r:Bool}{n:Int}{Q:DQ}(h:eM a b=ae r)(q:Q (.d (.bool r)) n):bC (.d a) (.d b) n Q:=by
 show(match eM a b with|some r=>Q _ n|none=>False);simp_all
abbrev fI(E:List (TK×Nat)):List (TK×Ad):=E.map λe=>(e.1,.int (e.2:Nat))
abbrev jH(E:List (TK×Nat)):List Ad:=E.map λe=>e.1.1
def gP(aft:TK->Nat->Option TK)(N:Nat)(s:TK):List Nat:=(Be (N+1)).filter λi=>(aft s i).isSome
structure GoL(Sm Sl:aP)(pd:Ad)(N:Nat)(aft:TK->Nat->Option TK)(Gk:Nat->TK->Prop):Prop where
 mv:∀(c:Nat)(s:TK)(n:Int)(R:DQ),Gk (c+1) s->R (.d (.list ((gP aft N s).map λi=>.int (i:Nat)))) n->Sm [.d pd,.d s.1] n R
 go:∀(c:Nat)(s:TK)(i:Nat)(b:TK)(n:Int)(R:DQ),Gk (c+1) s->aft s i=ae b->R (.d b.1) n->Sl [.d pd,.d s.1,.d (.int (i:Nat))] n R
 tup:∀(c:Nat)(k:TK),Gk c k->∃ds,k.1=.tuple ds
 good:∀(c:Nat)(s:TK)(i:Nat)(b:TK),Gk (c+1) s->i<=N->aft s i=ae b->Gk c b
theorem t7{N M:Nat}{aft:TK->Nat->Option TK}{Gk:Nat->TK->Prop}{s0:TK}(A:∀(c:Nat) (s:TK) (i:Nat) (b:TK),Gk (c+1) s->i<=N->aft s i=ae b->Gk c b)(h0:Gk (M+1) s0):∀j,(El aft N s0 j).length<=M->∀e∈El aft N s0 j,e.2 < (El aft N s0 j).length/\Gk (M+1-e.2) e.1
 |0=>λ_ e a=>by obtain rfl:=(by simpa[El]using a);exact⟨Nat.zero_lt_one,h0⟩
 |j+1=>by
  have p:=t7 A h0 j;show(match _[j]? with|some s=>dM aft N _ s|none=>El aft N s0 j).length<=M->∀e∈(match (El aft N s0 j)[j]? with|some s=>dM aft N (El aft N s0 j) s|none=>El aft N s0 j),e.2 < (match (El aft N s0 j)[j]? with|some s=>dM aft N (El aft N s0 j) s|none=>El aft N s0 j).length/\_;cases t:(El aft N s0 j)[j]? with
  |none=>exact p
  |some s=>
   have m:∀(d:List Nat) E,(∀i∈d,i<=N)->s∈E->(d.foldl (dS aft s) E).length<=M->(∀e∈E,e.2 < E.length/\Gk (M+1-e.2) e.1)->∀e∈d.foldl (dS aft s) E,e.2 < (d.foldl (dS aft s) E).length/\Gk (M+1-e.2) e.1:=by
    intro d
    induction d with
    |nil=>exact λE _ _ _ h=>h
    |cons i d n=>
     intro E k q hl h;have u:E <+: dS aft s E i:=mZ s E i;refine n _ (λx v=>k x (Ak _ v)) (u.subset q) hl ?_;have g:=A5 (lu _ (mZ s) d _).length_le hl;unfold dS at g ⊢;cases r:aft s.1 i with
     |none=>exact h
     |some b=>
      rw[r]at g;dsimp only at g ⊢
      split
      ·exact h
      ·rename_i z;rw[a_ z,An,A4]at g;rw[An,A4];intro e a;rcases A7.mp a with a|a
       ·exact⟨by have:=(h e a).1;omega,(h e a).2⟩
       ·obtain rfl:=by simpa using a
        obtain⟨w,o⟩:=h s q;refine⟨by omega,?_⟩;rw[show M+1-s.2=(M+1-(s.2+1))+1 by omega]at o;exact A _ s.1 i b o (k i Ap) r
   exact λhl=>m _ _ (λi k=>Gm (Cn.mp k)) (A0 t) hl (p (A5 (zM _ s).length_le hl))
def mj(Sm Sl:aP):ig:=λws n Q=>∃(pd:Ad)(s0:TK)(M:Nat)(N:Nat)(aft:TK->Nat->Option TK)(Gk:Nat->TK->Prop),ws=[.d pd,.d s0.1,.d (.int (M:Nat))]/\GoL Sm Sl pd N aft Gk/\Gk (M+1) s0/\1<=M/\M<=900/\Q af n /\
 ∀J,(El aft N s0 J).length<=J->(El aft N s0 J).length<=M->Q (ae (fI (El aft N s0 J))) n
theorem RB(E:List (TK×Nat)):(fI E).map (·.1)=E.map (·.1):=by rw[B6];rfl
theorem uF{aft:TK->Nat->Option TK}{s:TK×Nat}:∀(is:List Nat)(E:List (TK×Nat)),(is.filter λi=>(aft s.1 i).isSome).foldl (dS aft s) E=is.foldl (dS aft s) E
 |[],_=>rfl
 |i::is,E=>by
  rw[Gv];cases e:aft s.1 i with
  |none=>
   rw[a_ (by simp),Eo,uF is]
   congr 1
   unfold dS;rw[e]
  |some b=>rw[b_ (by simp),Eo,Eo,uF is]
theorem AY{E:List (TK×Nat)}{s:TK×Nat}(nd:(E.map (·.1)).Nodup)(h:s∈E):aY (fI E) s.1=ae (.int (s.2:Nat)):=by
 induction E with
 |nil=>exact nomatch h
 |cons e E a=>
  rw[Bn,Dw]at nd;rcases Av.mp h with rfl|h
  ·simp[aY]
  ·have b:¬e.1=s.1:=λz=>nd.1 (z▸Ba.mpr ⟨s,h,rfl⟩);have:=a nd.2 h;unfold aY at this ⊢;rw[fI,Bn,List.find?_cons];simp only[b,decide_false];omega
theorem yF{aft:TK->Nat->Option TK}{s:TK×Nat}{E:List (TK×Nat)}{i:Nat}(nd:(E.map (·.1)).Nodup):((dS aft s E i).map (·.1)).Nodup:=by
 unfold dS
 split
 ·exact nd
 ·split
  ·exact nd
  ·rename_i z;rw[Bd,Gg];refine⟨nd,by simp,λa d b c=>?_⟩;obtain rfl:=by simpa using c
   exact λe=>z (e▸d)
abbrev uP(Sm Sl:aP):aF:=aq (ay 7 (aD Sl (ao ↥0 (ao (w2 (cn 4) ↥5 aR) (ao ↥6 ak))))) (aM (cT (w2 ↥7 (d9 3) (i8 ah))) (aq (aM (cT (w2 (wB dJ (ao (cn 4) ak)) ↥2 bC)) (az (wC .none)) aN) (aq (nZ 3 ↥7 (w2 (w2 (d9 3) (w2 (cn 4) ↥5 aR) mD) ⇑1 (cg λi j=>.int (i+j)))) (aW 4 ↥7))) aN)
abbrev jM(pd:Ad)(s0:TK)(M j:Nat)(E:List (TK×Nat))(o6 o7:Option SV):Sl:=[↑pd,↑s0.1,↑(.int (M:Nat)),ae (.odx (fI E)),ae (.own (jH E)),↑(.int (j:Nat)),o6,o7]
theorem Kz{Sm Sl:aP}{pd:Ad}{N:Nat}{aft:TK->Nat->Option TK}{Gk:Nat->TK->Prop}{c:Nat}(A:GoL Sm Sl pd N aft Gk){s0:TK}{M j i:Nat}{E:List (TK×Nat)}{s:TK×Nat}{b:TK}{o7:Option SV}{n:Int}{K:DEnds}(hs:E[j]?=ae s)(gs:Gk (c+1) s.1)(nd:(E.map (·.1)).Nodup)(hi:i<=N)(e:aft s.1 i=ae b)(hM:E.length<=M)(hM2:M<=900)
  (k0:K.rt (.d .none) n) (k1:∀o,(dS aft s E i).length<=M->K.nx (jM pd s0 M j (dS aft s E i) (↑(.int (i:Nat))) o) n):uP Sm Sl (jM pd s0 M j E (↑(.int (i:Nat))) o7) n K:=by
 have G:cx _ _=ae s.1.1:=d7 (by rw[Am,hs];rfl);have O:=A.good _ s.1 i b gs hi e;show aR (.ln _) (.d (.int _)) n (λx Y=>Sl [.d pd,x,.d _] Y _);refine r9 G (A.go _ s.1 i b n _ gs e ?_);refine⟨_,b.1,b,.inl rfl,rfl,⟨rfl,A.tup _ b O⟩,?_⟩;have P:(aY (fI E) b).isSome=decide (b∈E.map (·.1)):=by
  have:=jP (fI E) b;rw[RB]at this;by_cases z:b∈E.map (·.1)
  ·rw[c_ z];simp_all
  ·rw[d_ z];cases q:(aY _ b).isSome with
   |false=>rfl
   |true=>exact g_ (this.mp q) z
 rw[P];by_cases z:b∈E.map (·.1)
 ·rw[c_ z];have J:dS aft s E i=E:=by unfold dS;rw[e];dsimp only;rw[b_ z]
  rw[J]at k1;exact k1 _ hM
 ·rw[d_ z];have J:dS aft s E i=E++[(b,s.2+1)]:=by unfold dS;rw[e];dsimp only;rw[a_ z]
  rw[J]at k1;have F:aq (aM (cT (w2 (wB dJ (ao (cn 4) ak)) ↥2 bC)) (az (wC .none)) aN) (aq (nZ 3 ↥7 (w2 (w2 (d9 3) (w2 (cn 4) ↥5 aR) mD) ⇑1 (cg λi j=>.int (i+j)))) (aW 4 ↥7)) (jM pd s0 M j E (↑(.int i)) (↑b.1)) n K:=by
   by_cases U:E.length=M
   ·have:eM (.int ((jH E).length:Int)) (.int M)=ae ah:=by
     rw[Ab,U];simp[eM]
    dsimp only[aq,aM,cT,w2,wB,ao,ak,cn,aj,dJ,Ca];exact zJ this k0
   ·have:eM (.int ((jH E).length:Int)) (.int M)=ae ai:=by
     simp[eM];omega
    dsimp only[aq,aM,cT,w2,wB,ao,ak,cn,aj,dJ,Ca];refine zJ this ?_;dsimp only;rw[a_ Az];dsimp only[aN,nZ,w2,d9,cn,aj,Ca];refine r9 G ⟨_,_,s.1,_,.inl rfl,rfl,⟨rfl,A.tup _ s.1 gs⟩,AY nd (A0 hs),?_⟩;refine⟨_,rfl,b,_,b.1,rfl,rfl,⟨rfl,A.tup _ b O⟩,by rw[Ab];omega,?_⟩;have W:fT (fI E) b (.int ((s.2:Nat)+1:Int))=fI (E++[(b,s.2+1)]):=by
     unfold fT;rw[a_ (by rw[P,d_ z];decide),fI,fI,Bd];rfl
    refine⟨by rw[Ab];omega,?_⟩;have:=k1 (↑b.1) (by rw[An,A4];omega);rw[jM,jH,Bd]at this;rw[W];exact this
  exact F
theorem yl{Sm Sl:aP}{pd:Ad}{N:Nat}{aft:TK->Nat->Option TK}{Gk:Nat->TK->Prop}{c:Nat}(A:GoL Sm Sl pd N aft Gk){s0:TK}{M j:Nat}{s:TK×Nat}{n:Int}{K:DEnds}(gs:Gk (c+1) s.1)(hM2:M<=900)(k0:K.rt (.d .none) n):
  ∀(is:List Nat)(E:List (TK×Nat))(o6 o7:Option SV),(∀i∈is,i<=N/\(aft s.1 i).isSome=ah)->E[j]?=ae s->(E.map (·.1)).Nodup->E.length<=M->
   (∀o6 o7,(is.foldl (dS aft s) E).length<=M->((is.foldl (dS aft s) E).map (·.1)).Nodup->K.nx (jM pd s0 M j (is.foldl (dS aft s) E) o6 o7) n)->ew (aJ 6) (uP Sm Sl) K (is.map λi=>.int (i:Nat)) (jM pd s0 M j E o6 o7) n
 |[],E,o6,o7,_,_,a,f,g=>g o6 o7 f a
 |i::is,E,o6,o7,h,k,a,f,g=>by
  obtain⟨p,l⟩:=h i Ap;obtain⟨b,e⟩:=D2.mp l;exact Kz A k gs a p e f hM2 k0 λo m=>yl A gs hM2 k0 is _ _ o (λx q=>h x (Ak _ q)) (by rw[mJ (mZ s E i) (Ar.mp k).1];omega) (yF a) m g
abbrev Za:List Str:=["_law_programs","_law_stand_here","_law_most","_law_found","_law_line","_law_at","_law_mover","_law_behind"]
theorem GO(Sm Sl:aP)(ws:List Wv)(n:Int)(Q:Option (List (TK×Ad))->Int->Prop)(h:mj Sm Sl ws n Q):
  (aq (m3 3 ↥1 ⇑0) (aq (bq 4 (aO (ao ↥1 ak))) (aq (ay 5 ⇑0) (aq (mf (cT (w2 ↥5 (wB dJ (ao (cn 4) ak)) fK)) (aq (aZ (e8 (aD Sm (ao ↥0 (ao (w2 (cn 4) ↥5 aR) ak)))) (aJ 6) (uP Sm Sl)) (ay 5 (w2 ↥5 ⇑1 (cg λi j=>.int (i+j)))))) (kL 3)))))
   (eE Za ws) n {nx:=λ_ _=>False,rt:=λw n=>w=.d .none/\Q af n,rx:=λkvs n=>Q (ae kvs) n}:=by
 obtain⟨H,b,M,N,a,J,rfl,A,B,l,u,F,I⟩:=h;refine⟨b,_,_,rfl,rfl,⟨rfl,A.tup _ b B⟩,⟨show 1<=1000 by decide,?_⟩⟩;refine⟨λk δ o=>∃j o6 g,k=M+1-j/\o=n/\j<=(El a N b j).length/\(El a N b j).length<=M/\((El a N b j).map (·.1)).Nodup/\δ=jM H b M j (El a N b j) o6 g,⟨M+1,0,_,_,rfl,rfl,A1 _,l,by simp[El],rfl⟩,?_⟩
 rintro k δ o ⟨j,o6,g,rfl,rfl,O,q,K,rfl⟩
 by_cases z:j < (El a N b j).length
 ·have p:=Ah z;have r:cx (jH _) _=ae (El a N b j)[j].1.1:=d7 (by rw[Am,p];rfl);have C:J ((M-(El a N b j)[j].2)+1) (El a N b j)[j].1:=by
   obtain⟨y,v⟩:=t7 A.good B j q _ (C5 z);rw[show M-(El a N b j)[j].2+1=M+1-(El a N b j)[j].2 by omega];omega
  have m:decide (j < ((jH (El a N b j)).length:Int))=ah:=c_ (by rw[Ab];omega);have D:El a N b (j+1)=(gP a N (El a N b j)[j].1).foldl (dS a (El a N b j)[j]) (El a N b j):=by
   show(match _[j]? with|some s=>dM a N _ s|none=>El a N b j)=_;rw[p];unfold gP;rw[uF];rfl
  show(if decide _=ah then _ else _);rw[m,b_ rfl];dsimp only[aq,aZ,e8,aD,ao,w2,cn,aj,Ca];refine r9 r (A.mv _ _ o _ C (yl A C u ?_ _ _ _ _ (λi G=>?_) p K q λo6 g x e=>?_))
  ·exact⟨rfl,F⟩
  ·obtain⟨y,v⟩:=En.mp G;exact⟨Gm (Cn.mp y),v⟩
  ·rw[<-D]at x e ⊢;have L:(El a N b j).length<=(El a N b (j+1)).length:=by rw[D];exact(lu _ (mZ _) _ _).length_le
   exact⟨_,by omega,j+1,o6,g,rfl,rfl,by omega,x,e,rfl⟩
 ·have m:decide (j < ((jH (El a N b j)).length:Int))=ai:=d_ (by rw[Ab];omega);show(if decide _=ah then _ else _);rw[m];exact I j (Nat.le_of_not_lt z) q
end Nb
namespace DL
open PySem L2 Nb
def EJ(T:TS):TS:=λD σ H=>T D σ H\/j2 T D σ H
theorem Qv{X:Cx}{b:List Stmt}{T:TS}(h:PSs X b T):PSs X b (EJ T):=λi_ s σ H D I q=>q.elim (h i_ s σ H D I) (yb h i_ s σ H D I)
def sO(i:Nat)(W:aF):aF:=λδ n K=>match δ[i]? with
 |some (ae (.odx m))=>W (δ.set i (ae (.w (.ob (.y m))))) n K
 |some (ae (.w _))=>W δ n K
 |_=>False
theorem Ht{X:Cx}(i:Nat){l:List Stmt}{T:TS}{W:aF}(h:DSs X l T W):DSs X l (EJ T) (sO i W):=⟨Qv h.ps,λC H B σ δ n K D R q E=>by
 unfold sO at q
 split at q
 ·rename_i m e;obtain⟨a,l,f,c,j,g,d,b⟩:=R.fzX e;exact .inr ⟨a,l,c,λo=>h.sd C _ _ σ _ n K D (b o) q E⟩
 ·exact .inl (h.sd C H B σ δ n K D R q E)
 ·exact q.elim⟩
def zy:List Wv->Int->DQ->Prop:=λxs n Q=>∃(x:Wv)(kvs:List (TK×Ad)),xs=[x]/\gq x kvs/\Q (.d (.int (kvs.length:Int))) n
theorem xH:cX wg zy:=λC H B σ δ n i j Q m R r g k=>by
 obtain⟨x,b,rfl,c,q⟩:=g;cases r with
 |cons h t=>
  cases t;obtain⟨a,l,rfl,f,o,e⟩:=WRel.rdX R.bt c h;refine⟨a,l,rfl,f,?_⟩;rw[RdY.len e];exact k _ (.d _) H n R (Kp.refl _ _) (.int _) q
end DL
namespace L2
open PySem
section
variable{X:Cx}{pos:Pos}
def kc(K:Ag)(n:Nat)(t:fh):TG:=λv σ H Q=>∃a xs,v=.ref a/\SqL K H a xs/\xs.length=n/\t xs σ H Q
theorem MH{es:List Expr}{k:Nat}{t:fh}{n:Nat}(hc:X.calm=ah)(h:lA X es t)
  (hn:(Cu es X.env).length=n:=by rfl) (hst:(Cu es X.env).findIdx? (·.1)=af:=by rfl):PG X (.Tuple es k pos) (kc X.K n t):=by
 intro c s σ H v u Q I r d;obtain⟨a,w,z,p,j,d⟩:=d;subst z;cases r;obtain⟨g,l,m,A⟩:=I.list p;refine Aa (wpAny_standAt ?_);unfold unpack;have f:(Cu es X.env).length=g.toArray.size:=by simp[hn,<-j,l.length]
 rw[f,hst];refine Aa (Cc (PySem.W.kun_itemsOf (I.ok.hd hc) m.isList λh' x=>?_));have q:Inv X c σ H {s with heap:=h'}:=I.kept λb o e=>x b o (Bf (Aw e)) e;exact h c _ σ H w _ Q q ⋯ d
end
end L2
namespace DL
open PySem L2
def om(n:Nat)(r:cL):dz:=λd δ Q=>match d with
 |.list ds=>ds.length=n/\r ds δ Q
 |_=>False
section
variable{X:Cx}{pos:Pos}{K:Ag}
theorem K8{es:List Expr}{k:Nat}{t:fh}{n:Nat}{r:cL}(h:DGs X es t r)(hc:X.calm=ah:=by rfl)
  (hn:(Cu es X.env).length=n:=by rfl) (hst:(Cu es X.env).findIdx? (·.1)=af:=by rfl):DG X (.Tuple es k pos) (kc X.K n t) (om n r):=⟨MH hc h.pg hn hst,λC H B σ δ f x d Q m R e q k=>by
 unfold om at q
 split at q
 ·rename_i j;cases e with
  |@lst b g _ i o l a=>exact⟨b,g,rfl,SqL.of i,by rw[a.len];exact q.1,h.sd C H B σ δ f _ _ _ _ R a q.2 k⟩
 ·exact q.elim⟩
theorem P9{es:List Expr}{k:Nat}{t:fh}{n:Nat}{r:cL}(h:DGs X es t r)(hc:X.calm=ah:=by rfl)(hK:X.K=K:=by rfl)
  (hn:(Cu es X.env).length=n:=by rfl) (hst:(Cu es X.env).findIdx? (·.1)=af:=by rfl):DG X (.Tuple es k pos) (kc K n t) (om n r):=by subst hK;exact K8 h hc hn hst
end
end DL
namespace KG
open PySem PySem.W PyProof.Rows
section
variable{pw:A3×Bi}{α β:Type}
def W2(pw:A3×Bi)(m1 m2:StateT Aq Sem α)(Q:α->α->Aq->Aq->Prop)(t u:Aq):Prop:=
 ∃a b t' u',Q a b t' u'/\(∀(A:Bq)(E:Af->Ai->Prop)(s:Ai)(P:α->Aq->Prop),P a t'->wpS (A9 pw.1 pw.2) A E s m1 P t)/\∀(A:Bq)(E:Af->Ai->Prop)(s:Ai)(P:α->Aq->Prop),P b u'->wpS (A9 pw.1 pw.2) A E s m2 P u
theorem W2.mono{m1 m2:StateT Aq Sem α}{Q R:α->α->Aq->Aq->Prop}{t u:Aq}(h:W2 pw m1 m2 Q t u)(f:∀a b t u,Q a b t u->R a b t u):W2 pw m1 m2 R t u:=by
 obtain⟨a,b,d,g,q,e,c⟩:=h;exact⟨a,b,d,g,f _ _ _ _ q,e,c⟩
theorem W2.pur{a b:α}{Q:α->α->Aq->Aq->Prop}{t u:Aq}(h:Q a b t u):W2 pw (Pure.pure a) (Pure.pure b) Q t u:=⟨a,b,t,u,h,λ_ _ _ _ p=>Dm p,λ_ _ _ _ p=>Dm p⟩
theorem W2.bind{m1 m2:StateT Aq Sem α}{f g:α->StateT Aq Sem β}{Q:β->β->Aq->Aq->Prop}{t u:Aq}(h:W2 pw m1 m2 (λa b t u=>W2 pw (f a) (g b) Q t u) t u):W2 pw (m1>>=f) (m2>>=g) Q t u:=by
 obtain⟨a,b,n,o,⟨c,d,k,m,q,j,l⟩,i,e⟩:=h;exact⟨c,d,k,m,q,λA E s P p=>Dd (i A E s _ (j A E s P p)),λA E s P p=>Dd (e A E s _ (l A E s P p))⟩
theorem W2.getS{Q:Aq->Aq->Aq->Aq->Prop}{t u:Aq}(h:Q t u t u):W2 pw get get Q t u:=⟨t,u,t,u,h,λ_ _ _ _ p=>wpS_get p,λ_ _ _ _ p=>wpS_get p⟩
theorem W2.modS{f g:Aq->Aq}{Q:PUnit->PUnit->Aq->Aq->Prop}{t u:Aq}(h:Q ⟨⟩ ⟨⟩ (f t) (g u)):W2 pw (modify f) (modify g) Q t u:=⟨⟨⟩,⟨⟩,f t,g u,h,λ_ _ _ _ p=>wpS_modify p,λ_ _ _ _ p=>wpS_modify p⟩
theorem W2.rul{x y:String}{Q:Unit->Unit->Aq->Aq->Prop}{t u:Aq}(h:Q () () t u):W2 pw (liftM (rule x)) (liftM (rule y)) Q t u:=⟨(),(),t,u,h,λ_ _ _ _ p=>wpS_lift (Fh ⟨rfl,p⟩),λ_ _ _ _ p=>wpS_lift (Fh ⟨rfl,p⟩)⟩
theorem W2.one{a b:α}{m1 m2:StateT Aq Sem α}{Q:α->α->Aq->Aq->Prop}{t u t' u':Aq}(h1:∀(A:Bq) (E:Af->Ai->Prop) (s:Ai) (P:α->Aq->Prop),P a t'->wpS (A9 pw.1 pw.2) A E s m1 P t)(h2:∀(A:Bq) (E:Af->Ai->Prop) (s:Ai) (P:α->Aq->Prop),P b u'->wpS (A9 pw.1 pw.2) A E s m2 P u)(h:Q a b t' u'):W2 pw m1 m2 Q t u:=⟨a,b,t',u',h,h1,h2⟩
theorem W2.ifT{c:Prop}{i1 i2:Decidable c}{m1 m2 n1 n2:StateT Aq Sem α}{Q:α->α->Aq->Aq->Prop}{t u:Aq}(z:c)(h:W2 pw m1 m2 Q t u):W2 pw (@ite _ c i1 m1 n1) (@ite _ c i2 m2 n2) Q t u:=by
 simp_all
theorem W2.ifF{c:Prop}{i1 i2:Decidable c}{m1 m2 n1 n2:StateT Aq Sem α}{Q:α->α->Aq->Aq->Prop}{t u:Aq}(z:¬c)(h:W2 pw n1 n2 Q t u):W2 pw (@ite _ c i1 m1 n1) (@ite _ c i2 m2 n2) Q t u:=by
 simp_all
def gj(Q I:β->β->Aq->Aq->Prop):ForInStep β->ForInStep β->Aq->Aq->Prop
 |.done c,.done d,t,u=>Q c d t u
 |.yield c,.yield d,t,u=>I c d t u
 |_,_,_,_=>False
theorem W2.forL{f g:Nat->β->StateT Aq Sem (ForInStep β)}(I:List Nat->β->β->Aq->Aq->Prop){Q:β->β->Aq->Aq->Prop}(step:∀i l c d t u,I (i::l) c d t u->W2 pw (f i c) (g i d) (gj Q (I l)) t u)(fin:∀c d t u,I [] c d t u->Q c d t u):
  ∀(l:List Nat){c d:β}{t u:Aq},I l c d t u->W2 pw (Gp l c f) (Gp l d g) Q t u
 |[],c,d,t,u,h=>W2.pur (fin _ _ _ _ h)
 |i::l,c,d,t,u,h=>by
  rw[List.forIn_cons,List.forIn_cons];refine W2.bind (W2.mono (step i l c d t u h) λr a t u q=>?_)
  match r,a,q with
  |.done c,.done d,q=>exact W2.pur q
  |.yield c,.yield d,q=>exact W2.forL I step fin l q
theorem W2.for{a b:Nat}{f g:Nat->β->StateT Aq Sem (ForInStep β)}(I:Nat->β->β->Aq->Aq->Prop){Q:β->β->Aq->Aq->Prop}(step:∀i c d t u,a<=i->i < b->I i c d t u->W2 pw (f i c) (g i d) (gj Q (I (i+1))) t u)(fin:∀c d t u,I (max a b) c d t u->Q c d t u){c d:β}{t u:Aq}(h:I a c d t u):W2 pw (Gp [a:b] c f) (Gp [a:b] d g) Q t u:=by
 rw[He,He];have e:[a:b].size=b-a:=by simp
 rw[e];refine W2.forL (λl c d t u=>∃i,a<=i/\l=List.range' i (b-i)/\(l=[]->max a b<=i)/\i<=max a b/\I i c d t u) (λi l c d t u J=>?_) (λc d t u J=>?_) _ ⟨a,Al _,rfl,λz=>?_,Nat.le_max_left _ _,h⟩
 ·obtain⟨j,o,k,m,s,n⟩:=J;have v:j < b:=by
   by_cases z:j < b
   ·exact z
   ·rw[show b-j=0 by omega]at k;trivial
  rw[show b-j=(b-(j+1))+1 by omega]at k;obtain⟨rfl,rfl⟩:=Bt k;refine W2.mono (step i c d t u o v n) λr p t u q=>?_
  match r,p,q with
  |.done c,.done d,q=>exact q
  |.yield c,.yield d,q=>exact⟨i+1,by omega,rfl,λz=>by rw[List.range'_eq_nil_iff]at z;omega,by omega,q⟩
 ·obtain⟨j,o,k,m,s,n⟩:=J;exact fin c d t u (by rw[show max a b=j by have:=m rfl;omega];omega)
 ·rw[List.range'_eq_nil_iff]at z;omega
end
end KG
namespace KW
open PySem PySem.W PyProof.Rows
def iD:Bool->Bk->Array Bk->Nat->Nat->Nat->StateT Aq Sem (Option Nat):=sortPriv% PySem.Builtin.gallop
def bey(left:Bool)(m_:Bk)(arr:Array Bk)(i:Nat):StateT Aq Sem (Option Bool):=F7 arr i>>=λx=>if left=ah then lt' x m_ else lt' m_ x>>=λr=>pure (r.map (!·))
section
variable{prog:A3}{w:Bi}{A:Bq}{E:Af->Ai->Prop}{s:Ai}
theorem BZ{st:Aq}{arr:Array Bk}{i:Nat}{p:Bk}{Q:Bk->Aq->Prop}(e:arr[i]?=ae p)(h:Q p st):wpS (A9 prog w) A E s (F7 arr i) Q st:=by
 rw[elem'_eq,e];exact Dm h
theorem SU{st:Aq}{left:Bool}{m_:Bk}{arr:Array Bk}{base n hint T:Nat}{Q:Option Nat->Aq->Prop}(hT:T<=n)(hh:hint < n)
  (hb:∀i,i < n->∀Q':Option Bool->Aq->Prop,Q' (ae (decide (i < T))) st->wpS (A9 prog w) A E s (bey left m_ arr (base+i)) Q' st)
  (h:Q (ae T) st):wpS (A9 prog w) A E s (iD left m_ arr base n hint) Q st:=by
 refine Dd (hb hint hh _ ?_);dsimp only;have k:∀lo j,lo<=T->T<=j->j<=n->wpS _ A E s (Gp [:n] (af,lo,j) λx (b:Option (Option Nat)×Nat×Nat)=>
   if b.2.1 ≥ b.2.2 then pure (D0 (af,b.2.1,b.2.2))
   else bey left m_ arr (base+(b.2.1+(b.2.2-b.2.1) / 2))>>=λr=>match r with
    |some g=>if g=ah then pure (Cr (af,b.2.1+(b.2.2-b.2.1) / 2+1,b.2.2))else pure (Cr (af,b.2.1,b.2.1+(b.2.2-b.2.1) / 2))
    |x=>pure (D0 (ae af,b.2.1,b.2.2))) (λr a=>a=st/\r.1=af/\r.2.2=T) st:=λlo j B D y=>by
  refine Gw (λi c a=>a=st/\c.1=af/\c.2.1<=T/\T<=c.2.2/\c.2.2<=n/\c.2.2-c.2.1<=n-i) (λi c a _ l I=>?_) (λc a I=>?_) ⟨rfl,rfl,B,D,y,by show j-lo<=n-0;omega⟩
  ·obtain⟨rfl,e,d,f,u,C⟩:=I;by_cases z:c.2.1 ≥ c.2.2
   ·rw[b_ z];exact Dm ⟨rfl,rfl,by show c.2.2=T;omega⟩
   ·rw[a_ z];refine Dd (hb _ ⋯ _ ?_);dsimp only;by_cases q:c.2.1+(c.2.2-c.2.1) / 2 < T
    ·rw[c_ q,b_ rfl];exact Dm ⟨rfl,rfl,by show c.2.1+(c.2.2-c.2.1) / 2+1<=T;omega,f,u,by show c.2.2-(c.2.1+(c.2.2-c.2.1) / 2+1)<=n-_;omega⟩
    ·rw[d_ q,a_ Az];exact Dm ⟨rfl,rfl,d,by show T<=c.2.1+(c.2.2-c.2.1) / 2;omega,by show c.2.1+(c.2.2-c.2.1) / 2<=n;omega,by show c.2.1+(c.2.2-c.2.1) / 2-c.2.1<=n-_;omega⟩
  ·obtain⟨rfl,e,d,f,u,C⟩:=I;exact⟨rfl,e,by omega⟩
 by_cases v:hint < T
 ·rw[c_ v,b_ rfl];refine Dd (wpS_mono (Gw (Q:=λc a=>a=st/\c.1=af/\hint+c.2.1 < T/\T<=hint+min c.2.2 (n-hint)) (λi c a=>a=st/\c.1=af/\hint+c.2.1 < T/\i+1<=c.2.2) (λi c a _ l I=>?_) (λc a I=>?_) ⟨rfl,rfl,by omega,by simp⟩) λc a I=>?_)
  ·obtain⟨rfl,e,d,f⟩:=I;by_cases z:c.2.2 ≥ n-hint
   ·rw[b_ z];exact Dm ⟨rfl,rfl,d,by show T<=hint+min c.2.2 _;omega⟩
   ·rw[a_ z];refine Dd (hb _ ⋯ _ ?_);dsimp only;by_cases q:hint+c.2.2 < T
    ·rw[c_ q,a_ ∎];exact Dm ⟨rfl,rfl,q,by show i+1+1<=2*c.2.2+1;omega⟩
    ·rw[d_ q,b_ ∎];exact Dm ⟨rfl,rfl,d,by show T<=hint+min c.2.2 _;omega⟩
  ·obtain⟨rfl,e,d,f⟩:=I;exact⟨rfl,e,d,by omega⟩
  ·obtain⟨rfl,e,d,f⟩:=I;rw[e];refine Dd (wpS_mono (k _ _ ⋯ f ⋯) λr p I=>?_);obtain⟨rfl,o,t⟩:=I;rw[o];rw[t];exact Dm h
 ·rw[d_ v,a_ Az];refine Dd (wpS_mono (Gw (Q:=λc a=>a=st/\c.1=af/\T+c.2.1<=hint/\hint+1-min c.2.2 (hint+1)<=T) (λi c a=>a=st/\c.1=af/\T+c.2.1<=hint/\i+1<=c.2.2) (λi c a _ l I=>?_) (λc a I=>?_) ⟨rfl,rfl,by show T+0<=hint;omega,by simp⟩) λc a I=>?_)
  ·obtain⟨rfl,e,d,f⟩:=I;by_cases z:c.2.2 ≥ hint+1
   ·rw[b_ z];exact Dm ⟨rfl,rfl,d,by show hint+1-min c.2.2 (hint+1)<=T;omega⟩
   ·rw[a_ z];refine Dd (hb (hint-c.2.2) ⋯ _ ?_);dsimp only;by_cases q:hint-c.2.2 < T
    ·rw[c_ q,b_ rfl];exact Dm ⟨rfl,rfl,d,by show hint+1-min c.2.2 (hint+1)<=T;omega⟩
    ·rw[d_ q,a_ Az];exact Dm ⟨rfl,rfl,by show T+c.2.2<=hint;omega,by show i+1+1<=2*c.2.2+1;omega⟩
  ·obtain⟨rfl,e,d,f⟩:=I;exact⟨rfl,e,d,by omega⟩
  ·obtain⟨rfl,e,d,f⟩:=I;rw[e];refine Dd (wpS_mono (k _ _ f ⋯ ⋯) λr p I=>?_);obtain⟨rfl,o,t⟩:=I;rw[o];rw[t];exact Dm h
end
end KW
namespace KW
open PySem PySem.W PyProof.Rows
def qm:Array Bk->Array Bk->StateT Aq Sem (Array Bk):=sortPriv% PySem.Builtin.mergeLo
def pA:Array Bk->Array Bk->StateT Aq Sem (Array Bk):=sortPriv% PySem.Builtin.mergeHi
abbrev hZ(st:Aq)(g:Nat):Aq:=Da (kindOf st) (Dv st) (Br st) g (Ge st)
def kD:Nat->StateT Aq Sem Unit:=sortPriv% PySem.Builtin.setMinGallop
section
variable{prog:A3}{w:Bi}{A:Bq}{E:Af->Ai->Prop}{s:Ai}
theorem DX{st:Aq}{g:Nat}{Q:Unit->Aq->Prop}(h:Q () (hZ st g)):wpS (A9 prog w) A E s (kD g) Q st:=wpS_modify h
end
end KW
namespace KG
open PySem PySem.W PyProof.Rows KW
variable{G:Str->Tok->Tok->Prop}
def RK(G:Str->Tok->Tok->Prop)(x y:Bk):Prop:=∃(s:Str)(t u:Tok),G s t u/\x=(.str s t,.str s t)/\y=(.str s u,.str s u)
def RA(G:Str->Tok->Tok->Prop)(a b:Array Bk):Prop:=a.size=b.size/\∀i,i < a.size->∃x y,a[i]?=ae x/\b[i]?=ae y/\RK G x y
theorem RA.sz{a b:Array Bk}(h:RA G a b):b.size=a.size:=h.1.symm
theorem RA.get{a b:Array Bk}(h:RA G a b){i:Nat}(hi:i < a.size):∃x y,a[i]?=ae x/\b[i]?=ae y/\RK G x y:=h.2 i hi
theorem RA.one{x y:Bk}(h:RK G x y):RA G #[x] #[y]:=⟨rfl,λi a=>by
 have:=by simp at a;omega
 subst this;exact⟨x,y,rfl,rfl,h⟩⟩
theorem RA.push{a b:Array Bk}(h:RA G a b){x y:Bk}(k:RK G x y):RA G (a.push x) (b.push y):=⟨by simp[h.1],λi g=>by
 rw[Array.size_push]at g;by_cases z:i < a.size
 ·obtain⟨j,f,e,c,d⟩:=h.2 i z;exact⟨j,f,by rw[Array.getElem?_push_lt z,Cg z]at *;rw[<-e],by rw[Array.getElem?_push_lt _];rw[Cg (by rw[<-h.1];exact z)]at c;rw[<-c],d⟩
 ·have:i=a.size:=by omega
  subst this;exact⟨x,y,by simp,by rw[h.1];simp,k⟩⟩
theorem RA.app{a b c d:Array Bk}(h:RA G a b)(k:RA G c d):RA G (a++c) (b++d):=⟨by simp[h.1,k.1],λi e=>by
 rw[Array.size_append]at e;by_cases z:i < a.size
 ·rw[Array.getElem?_append_left z,Array.getElem?_append_left (by rw[<-h.1];exact z)];exact h.2 i z
 ·rw[Array.getElem?_append_right ⋯,Array.getElem?_append_right (by rw[<-h.1];omega),<-h.1];exact k.2 _ ⋯⟩
theorem RA.ex{a b:Array Bk}(h:RA G a b)(i j:Nat):RA G (a.extract i j) (b.extract i j):=⟨by simp[h.1],λk c=>by
 rw[Array.size_extract]at c;rw[Array.getElem?_extract,Array.getElem?_extract,<-h.1,b_ ⋯,b_ ⋯];exact h.2 _ ⋯⟩
theorem RA.rev{a b:Array Bk}(h:RA G a b):RA G a.reverse b.reverse:=⟨by simp[h.1],λi c=>by
 rw[Array.size_reverse]at c;rw[Array.getElem?_reverse c,Array.getElem?_reverse (by rw[<-h.1];omega),<-h.1];exact h.2 _ ⋯⟩
structure RS(G:Str->Tok->Tok->Prop)(t u:Aq):Prop where
 k1:kindOf t=Dp
 k2:kindOf u=Dp
 pd:Br u=Br t
 gl:gallopOf u=gallopOf t
 ar:RA G (Dv t) (Dv u)
section
variable{pw:A3×Bi}{α β:Type}
theorem zO{prog:A3}{w:Bi}{A:Bq}{E:Af->Ai->Prop}{s:Ai}{st:Aq}{a b:Str}{t u:Tok}{p q:Af}{Q:Option Bool->Aq->Prop}(hk:kindOf st=Dp)(h:Q (ae (decide (a.cps.toList < b.cps.toList))) st):
  wpS (A9 prog w) A E s (lt' (.str a t,p) (.str b u,q)) Q st:=by
 rw[lt'_eq];refine Dd (wpS_get ?_);rw[hk];exact Dd (wpS_lift (Em (oneLt_str ⟨rfl,Dm h⟩)))
theorem W2.ltS{t u:Aq}(R:RS G t u){x x' y y':Bk}(hx:RK G x x')(hy:RK G y y'){Q:Option Bool->Option Bool->Aq->Aq->Prop}(h:∀b,Q (ae b) (ae b) t u):W2 pw (lt' x y) (lt' x' y') Q t u:=by
 obtain⟨s,d,f,_,rfl,rfl⟩:=hx;obtain⟨e,a,c,_,rfl,rfl⟩:=hy;exact W2.one (λ_ _ _ P p=>zO R.k1 p) (λ_ _ _ P p=>zO R.k2 p) (h _)
theorem W2.elS{t u:Aq}{a b:Array Bk}(h:RA G a b){i:Nat}(hi:i < a.size){Q:Bk->Bk->Aq->Aq->Prop}(q:∀x y,RK G x y->Q x y t u):W2 pw (F7 a i) (F7 b i) Q t u:=by
 obtain⟨x,y,c,d,k⟩:=h.get hi;exact W2.one (λ_ _ _ P p=>BZ c p) (λ_ _ _ P p=>BZ d p) (q x y k)
theorem W2.beyS{t u:Aq}(R:RS G t u){left:Bool}{m_ key':Bk}(hk:RK G m_ key'){a b:Array Bk}(h:RA G a b){i:Nat}(hi:i < a.size){Q:Option Bool->Option Bool->Aq->Aq->Prop}(q:∀b,Q (ae b) (ae b) t u):W2 pw (bey left m_ a i) (bey left key' b i) Q t u:=by
 refine W2.bind (W2.elS h hi λx y k=>?_);cases left with
 |true=>exact W2.ltS R k hk q
 |false=>exact W2.bind (W2.ltS R hk k λb=>W2.pur (q _))
theorem W2.galS{t u:Aq}(R:RS G t u){left:Bool}{m_ key':Bk}(hk:RK G m_ key'){a b:Array Bk}(h:RA G a b){base n hint:Nat}(hb:base+n<=a.size)(hh:hint < n){Q:Option Nat->Option Nat->Aq->Aq->Prop}(q:∀k,k<=n->Q (ae k) (ae k) t u):W2 pw (iD left m_ a base n hint) (iD left key' b base n hint) Q t u:=by
 refine W2.bind (W2.beyS R hk h ⋯ λright=>?_);dsimp only;have m:∀E v,v<=n->W2 pw (Gp [:n] _ λx e=>
   if e.2.1 ≥ e.2.2 then pure (D0 _)
   else KW.bey left m_ a _>>=λr=>match r with
    |some more=>if more=ah then pure (Cr _)else pure (Cr _)
    |x=>pure (D0 (ae af,e.2.1,e.2.2)))
   (Gp [:n] (af,E,v) λx e=>
   if e.2.1 ≥ e.2.2 then pure (D0 (af,e.2.1,e.2.2))
   else KW.bey left key' b (base+(e.2.1+(e.2.2-e.2.1) / 2))>>=λr=>match r with
    |some more=>if more=ah then pure (Cr (af,e.2.1+(e.2.2-e.2.1) / 2+1,e.2.2))else pure (Cr (af,e.2.1,e.2.1+(e.2.2-e.2.1) / 2))
    |x=>pure (D0 (ae af,e.2.1,e.2.2))) _ t u:=λlo v C=>by
  refine W2.for (λi (c d:Option (Option Nat)×Nat×Nat) j g=>j=t/\g=u/\c=d/\c.1=af/\c.2.2<=n) (λi c d j g _ _ I=>?_) (λc d j g I=>I) ⟨rfl,rfl,rfl,rfl,C⟩;obtain⟨rfl,rfl,rfl,l,B⟩:=I;by_cases z:c.2.1 ≥ c.2.2
  ·rw[b_ z,b_ z];exact W2.pur ⟨rfl,rfl,rfl,rfl,B⟩
  ·rw[a_ z,a_ z];refine W2.bind (W2.beyS R hk h ⋯ λmore=>?_);cases more with
   |true=>
    exact W2.pur ⟨rfl,rfl,rfl,rfl,B⟩
   |false=>
    exact W2.pur ⟨rfl,rfl,rfl,rfl,by show c.2.1+(c.2.2-c.2.1) / 2<=n;omega⟩
 cases right with
 |true=>
  try rw[b_ rfl]
  refine W2.bind (W2.mono (W2.for (λi c d j g=>j=t/\g=u/\c=d/\c.1=af) (λi c d j g _ _ I=>?_) (λc d j g I=>I) ⟨rfl,rfl,rfl,rfl⟩) λr D j g I=>?_)
  ·obtain⟨rfl,rfl,rfl,l⟩:=I;by_cases z:c.2.2 ≥ n-hint
   ·rw[b_ z,b_ z];exact W2.pur ⟨rfl,rfl,rfl,rfl⟩
   ·rw[a_ z,a_ z];refine W2.bind (W2.beyS R hk h ⋯ λmore=>?_);cases more with
    |true=>
     exact W2.pur ⟨rfl,rfl,rfl,rfl⟩
    |false=>
     exact W2.pur ⟨rfl,rfl,rfl,rfl⟩
  ·obtain⟨rfl,rfl,rfl,l⟩:=I;rw[l];refine W2.bind (W2.mono (m _ _ ⋯) λr2 s H F y=>?_);obtain⟨rfl,rfl,rfl,p,w⟩:=y;rw[p];exact W2.pur (q _ w)
 |false=>
  try rw[a_ Az]
  refine W2.bind (W2.mono (W2.for (λi c d j g=>j=t/\g=u/\c=d/\c.1=af) (λi c d j g _ _ I=>?_) (λc d j g I=>I) ⟨rfl,rfl,rfl,rfl⟩) λr D j g I=>?_)
  ·obtain⟨rfl,rfl,rfl,l⟩:=I;by_cases z:c.2.2 ≥ hint+1
   ·rw[b_ z,b_ z];exact W2.pur ⟨rfl,rfl,rfl,rfl⟩
   ·rw[a_ z,a_ z];refine W2.bind (W2.beyS R hk h ⋯ λfound=>?_);cases found with
    |true=>
     exact W2.pur ⟨rfl,rfl,rfl,rfl⟩
    |false=>
     exact W2.pur ⟨rfl,rfl,rfl,rfl⟩
  ·obtain⟨rfl,rfl,rfl,l⟩:=I;rw[l];refine W2.bind (W2.mono (m _ _ ⋯) λr2 s H F y=>?_);obtain⟨rfl,rfl,rfl,p,w⟩:=y;rw[p];exact W2.pur (q _ w)
end
end KG
namespace KG
open PySem PySem.W PyProof.Rows KW
variable{G:Str->Tok->Tok->Prop}
section
variable{pw:A3×Bi}{α β:Type}
theorem RS.gal{t u:Aq}(R:RS G t u)(g:Nat):RS G (hZ t g) (hZ u g):=⟨R.k1,R.k2,R.pd,rfl,R.ar⟩
def SG(t t':Aq):Prop:=kindOf t'=kindOf t/\Dv t'=Dv t/\Br t'=Br t/\Ge t'=Ge t
theorem SG.refl(t:Aq):SG t t:=⟨rfl,rfl,rfl,rfl⟩
theorem SG.gal{t t':Aq}(h:SG t t')(g:Nat):SG t (hZ t' g):=⟨h.1,h.2.1,h.2.2.1,h.2.2.2⟩
theorem W2.setG{g:Nat}{t u:Aq}{Q:Unit->Unit->Aq->Aq->Prop}(h:Q () () (hZ t g) (hZ u g)):W2 pw (kD g) (kD g) Q t u:=W2.one (λ_ _ _ P p=>DX p) (λ_ _ _ P p=>DX p) h
abbrev LO:=Option (Array Bk)×Array Bk×Nat×Nat×Nat×Nat
abbrev LG:=Option (Array Bk)×Array Bk×Nat×Nat×Nat×Nat×Nat
abbrev LM:=Option (Array Bk)×Array Bk×Nat×Nat×Nat
def da(G:Str->Tok->Tok->Prop)(x y:Option (Array Bk)):Prop:=∃r r',x=ae r/\y=ae r'/\RA G r r'
def loJ3(na nb:Nat)(a b out:Array Bk)(ia ib g ac bc:Nat):StateT Aq Sem (ForInStep LG):=F7 a ia>>=λx=>
 if (ia+1+1==na)=ah then pure (.done (ae (out.push x++b.extract ib nb++a.extract (ia+1) na),out.push x,ia+1,ib,g,ac,bc))else
 if (decide (ac < 7)&&decide (bc < 7))=ah then pure (.done (af,out.push x,ia+1,ib,g,ac,bc))else pure (.yield (af,out.push x,ia+1,ib,g,ac,bc))
def loJ2(na nb:Nat)(a b out:Array Bk)(ia ib g ac bc:Nat):StateT Aq Sem (ForInStep LG):=F7 b ib>>=λx=>
 if (ib+1==nb)=ah then pure (.done (ae (out.push x++a.extract ia na++b.extract (ib+1) nb),out.push x,ia,ib+1,g,ac,bc))else
 F7 a ia>>=λy=>iD ah y b (ib+1) (nb-(ib+1)) 0>>=λr=>match r with
 |some k=>if k > 0 then(if (ib+1+k==nb)=ah then pure (.done (ae (out.push x++b.extract (ib+1) (ib+1+k)++a.extract ia na++b.extract (ib+1+k) nb),out.push x++b.extract (ib+1) (ib+1+k),ia,ib+1+k,g,ac,k))else
   loJ3 na nb a b (out.push x++b.extract (ib+1) (ib+1+k)) ia (ib+1+k) g ac k)else loJ3 na nb a b (out.push x) ia (ib+1) g ac k
 |_=>pure (.done (ae (out.push x++a.extract ia na++b.extract (ib+1) nb),out.push x,ia,ib+1,g,ac,bc))
def loJ1(na nb:Nat)(a b out:Array Bk)(ia ib g ac bc:Nat):StateT Aq Sem (ForInStep LG):=kD g>>=λ_=>F7 b ib>>=λx=>iD ai x a ia (na-ia) 0>>=λr=>match r with
 |some k=>if k > 0 then(if (ia+k+1==na)=ah then pure (.done (ae (out++a.extract ia (ia+k)++b.extract ib nb++a.extract (ia+k) na),out++a.extract ia (ia+k),ia+k,ib,g,k,bc))else
   if (ia+k==na)=ah then pure (.done (ae (out++a.extract ia (ia+k)++a.extract (ia+k) na++b.extract ib nb),out++a.extract ia (ia+k),ia+k,ib,g,k,bc))else
   loJ2 na nb a b (out++a.extract ia (ia+k)) (ia+k) ib g k bc)else loJ2 na nb a b out ia ib g k bc
 |_=>pure (.done (ae (out++a.extract ia na++b.extract ib nb),out,ia,ib,g,ac,bc))
structure PQ(G:Str->Tok->Tok->Prop)(na nb m:Nat)(Q:ForInStep LG->ForInStep LG->Aq->Aq->Prop)(t u:Aq):Prop where
 d:∀{r r':Array Bk}{p p':Array Bk×Nat×Nat×Nat×Nat×Nat},RA G r r'->Q (.done (ae r,p)) (.done (ae r',p')) t u
 n:∀{o o':Array Bk}{ia ib:Nat}{s:Nat×Nat×Nat},RA G o o'->ia+1 < na->ib < nb->m+1<=ia+ib->Q (.done (af,o,ia,ib,s)) (.done (af,o',ia,ib,s)) t u
 y:∀{o o':Array Bk}{ia ib:Nat}{s:Nat×Nat×Nat},RA G o o'->ia+1 < na->ib < nb->m+1<=ia+ib->Q (.yield (af,o,ia,ib,s)) (.yield (af,o',ia,ib,s)) t u
section
variable{t u:Aq}{a a' b b' out out':Array Bk}{Q:ForInStep LG->ForInStep LG->Aq->Aq->Prop}{ia ib g ac bc m:Nat}
theorem W2.loJ3(ha:RA G a a')(hb:RA G b b')(ro:RA G out out')(h3:ia+1 < a.size)(h4:ib < b.size)(h5:m<=ia+ib)(q:PQ G a.size b.size m Q t u):W2 pw (loJ3 a.size b.size a b out ia ib g ac bc) (loJ3 a.size b.size a' b' out' ia ib g ac bc) Q t u:=by
 refine W2.bind (W2.elS ha ⋯ λx y c=>?_);by_cases z:(ia+1+1==a.size)=ah
 ·exact W2.ifT z (W2.pur (q.d (((ro.push c).app (hb.ex _ _)).app (ha.ex _ _))))
 ·have f:¬ia+1+1=a.size:=λy=>z (by simpa using y);refine W2.ifF z ?_;by_cases e:(decide (ac < 7)&&decide (bc < 7))=ah
  ·exact W2.ifT e (W2.pur (q.n (ro.push c) ⋯ h4 ⋯))
  ·exact W2.ifF e (W2.pur (q.y (ro.push c) ⋯ h4 ⋯))
theorem W2.loJ2(R:RS G t u)(ha:RA G a a')(hb:RA G b b')(ro:RA G out out')(h3:ia+1 < a.size)(h4:ib < b.size)(h5:m<=ia+ib)(q:PQ G a.size b.size m Q t u):W2 pw (loJ2 a.size b.size a b out ia ib g ac bc) (loJ2 a.size b.size a' b' out' ia ib g ac bc) Q t u:=by
 refine W2.bind (W2.elS hb h4 λx y c=>?_);by_cases z:(ib+1==b.size)=ah
 ·exact W2.ifT z (W2.pur (q.d (((ro.push c).app (ha.ex _ _)).app (hb.ex _ _))))
 ·have j:¬ib+1=b.size:=λy=>z (by simpa using y);refine W2.ifF z (W2.bind (W2.elS ha ⋯ λx3 i h=>W2.bind (W2.galS R h hb ⋯ ⋯ λk l=>?_)));by_cases f:k > 0
  ·refine W2.ifT f ?_;by_cases e:(ib+1+k==b.size)=ah
   ·exact W2.ifT e (W2.pur (q.d ((((ro.push c).app (hb.ex _ _)).app (ha.ex _ _)).app (hb.ex _ _))))
   ·have n:¬ib+1+k=b.size:=λy=>e (by simpa using y);exact W2.ifF e (W2.loJ3 ha hb ((ro.push c).app (hb.ex _ _)) h3 ⋯ ⋯ q)
  ·exact W2.ifF f (W2.loJ3 ha hb (ro.push c) h3 ⋯ ⋯ q)
theorem W2.loJ1(R:RS G t u)(ha:RA G a a')(hb:RA G b b')(ro:RA G out out')(h3:ia+1 < a.size)(h4:ib < b.size)(h5:m<=ia+ib)(q:PQ G a.size b.size m Q (hZ t g) (hZ u g)):W2 pw (loJ1 a.size b.size a b out ia ib g ac bc) (loJ1 a.size b.size a' b' out' ia ib g ac bc) Q t u:=by
 refine W2.bind (W2.setG (W2.bind (W2.elS hb h4 λx y h=>W2.bind (W2.galS (R.gal _) h ha ⋯ ⋯ λk j=>?_))));by_cases f:k > 0
 ·refine W2.ifT f ?_;by_cases c:(ia+k+1==a.size)=ah
  ·exact W2.ifT c (W2.pur (q.d (((ro.app (ha.ex _ _)).app (hb.ex _ _)).app (ha.ex _ _))))
  ·refine W2.ifF c ?_;by_cases e:(ia+k==a.size)=ah
   ·exact W2.ifT e (W2.pur (q.d (((ro.app (ha.ex _ _)).app (ha.ex _ _)).app (hb.ex _ _))))
   ·have i:¬ia+k+1=a.size:=λy=>c (by simpa using y);have l:¬ia+k=a.size:=λy=>e (by simpa using y);exact W2.ifF e (W2.loJ2 (R.gal _) ha hb (ro.app (ha.ex _ _)) ⋯ h4 ⋯ q)
 ·exact W2.ifF f (W2.loJ2 (R.gal _) ha hb ro h3 h4 h5 q)
end
def uN(na nb:Nat)(a b:Array Bk)(g:Nat)(_:Nat):LO->StateT Aq Sem (ForInStep LO):=λ(_,out,ia,ib,ac,bc)=>F7 b ib>>=λx=>F7 a ia>>=λy=>lt' x y>>=λr=>match r with
 |some w=>if w=ah then F7 b ib>>=λx=>if (ib+1==nb)=ah then pure (.done (ae (out.push x++a.extract ia na++b.extract (ib+1) nb),out.push x,ia,ib+1,0,bc+1))else
   if bc+1 ≥ g then pure (.done (af,out.push x,ia,ib+1,0,bc+1))else pure (.yield (af,out.push x,ia,ib+1,0,bc+1))
  else F7 a ia>>=λx=>if (ia+1+1==na)=ah then pure (.done (ae (out.push x++b.extract ib nb++a.extract (ia+1) na),out.push x,ia+1,ib,ac+1,0))else
   if ac+1 ≥ g then pure (.done (af,out.push x,ia+1,ib,ac+1,0))else pure (.yield (af,out.push x,ia+1,ib,ac+1,0))
 |_=>pure (.done (ae (out++a.extract ia na++b.extract ib nb),out,ia,ib,ac,bc))
def ko(na nb:Nat)(a b:Array Bk)(_:Nat):LG->StateT Aq Sem (ForInStep LG):=λ(_,out,ia,ib,g,ac,bc)=>if g > 1 then loJ1 na nb a b out ia ib (g-1) ac bc else loJ1 na nb a b out ia ib g ac bc
def tD(na nb:Nat)(a b:Array Bk)(_:Nat):LM->StateT Aq Sem (ForInStep LM):=λ(_,out,ia,ib,g)=>Gp [:na+nb] ((af,out,ia,ib,0,0):LO) (uN na nb a b g)>>=λs=>match s.1 with
 |some r=>pure (.done (ae r,s.2.1,s.2.2.1,s.2.2.2.1,g))
 |none=>liftM (rule "list.sort.gallop")>>=λ_=>Gp [:na+nb] ((af,s.2.1,s.2.2.1,s.2.2.2.1,g+1,s.2.2.2.2):LG) (ko na nb a b)>>=λs=>match s.1 with
  |some r=>pure (.done (ae r,s.2.1,s.2.2.1,s.2.2.2.1,s.2.2.2.2.1))
  |none=>kD (s.2.2.2.2.1+1)>>=λ_=>pure (.yield (af,s.2.1,s.2.2.1,s.2.2.2.1,s.2.2.2.2.1+1))
theorem zd(a b:Array Bk):qm a b=(liftM (rule "list.sort.merge-lo")>>=λ_=>F7 b 0>>=λx=>if (1==b.size)=ah then pure (#[x]++a.extract 0++b.extract 1)else if (0+1==a.size)=ah then pure (#[x]++b.extract 1++a.extract 0)else
  get>>=λs=>Gp [:a.size+b.size] ((af,#[x],0,1,gallopOf s):LM) (tD a.size b.size a b)>>=λs=>match s.1 with
  |some r=>pure r
  |none=>liftM (unsupported "internal:list.sort.merge-bound")):=by kernel_rfl
structure LoI{σ:Type}(G:Str->Tok->Tok->Prop)(a b:Array Bk)(k:Nat)(c d:Option (Array Bk)×Array Bk×Nat×Nat×σ):Prop where
 e1:c.1=af
 e2:d.1=af
 ro:RA G c.2.1 d.2.1
 e3:c.2.2=d.2.2
 h3:c.2.2.1+1 < a.size
 h4:c.2.2.2.1 < b.size
 h5:k<=c.2.2.1+c.2.2.2.1
theorem LoI.ex{σ:Type}{a b:Array Bk}{k:Nat}{c d:Option (Array Bk)×Array Bk×Nat×Nat×σ}(I:LoI G a b k c d):∃(o o':Array Bk)(s:Nat×Nat×σ),c=(af,o,s)/\d=(af,o',s)/\RA G o o'/\s.1+1 < a.size/\s.2.1 < b.size/\k<=s.1+s.2.1:=by
 obtain⟨m,o,s⟩:=c;obtain⟨p,o',n⟩:=d;obtain⟨f,l,j,e,g,h,i⟩:=I;dsimp only at f l j e g h i;subst f l e;exact⟨o,o',s,rfl,rfl,j,g,h,i⟩
section
variable{t u:Aq}{a a' b b':Array Bk}
theorem W2.loSs{i j g:Nat}{c d:LO}(R':RS G t u)(ha:RA G a a')(hb:RA G b b')(I:LoI G a b (i+1+j) c d):W2 pw (uN a.size b.size a b g j c) (uN a.size b.size a' b' g j d) (gj (λc d t2 u2=>(da G c.1 d.1\/LoI G a b (i+2) c d)/\t2=t/\u2=u) λc d t2 u2=>LoI G a b (i+1+(j+1)) c d/\t2=t/\u2=u) t u:=by
 obtain⟨s,p,⟨e,f,w,v⟩,rfl,rfl,h,o,n,q⟩:=I.ex;dsimp only at o n q;refine W2.bind (W2.elS hb n λx y m=>W2.bind (W2.elS ha ⋯ λx' A k=>?_));refine W2.bind (W2.ltS R' m k λr=>?_);cases r with
 |true=>
  refine W2.ifT (rfl) (W2.bind (W2.elS hb n λx y m=>?_));by_cases z:(f+1==b.size)=ah
  ·exact W2.ifT (z) (W2.pur ⟨.inl ⟨_,_,rfl,rfl,(((h.push m).app (ha.ex _ _)).app (hb.ex _ _))⟩,rfl,rfl⟩)
  ·refine W2.ifF (z) ?_;have:¬f+1=b.size:=λy=>z (by simpa using y);by_cases l:v+1 ≥ g
   ·exact W2.ifT (l) (W2.pur ⟨.inr ⟨rfl,rfl,h.push m,rfl,o,by show f+1 < b.size;omega,by show i+2<=e+(f+1);omega⟩,rfl,rfl⟩)
   ·exact W2.ifF (l) (W2.pur ⟨⟨rfl,rfl,h.push m,rfl,o,by show f+1 < b.size;omega,by show i+1+(j+1)<=e+(f+1);omega⟩,rfl,rfl⟩)
 |false=>
  refine W2.ifF (Az) (W2.bind (W2.elS ha ⋯ λx y k=>?_));by_cases z:(e+1+1==a.size)=ah
  ·exact W2.ifT (z) (W2.pur ⟨.inl ⟨_,_,rfl,rfl,(((h.push k).app (hb.ex _ _)).app (ha.ex _ _))⟩,rfl,rfl⟩)
  ·refine W2.ifF (z) ?_;have:¬e+1+1=a.size:=λy=>z (by simpa using y);by_cases l:w+1 ≥ g
   ·exact W2.ifT (l) (W2.pur ⟨.inr ⟨rfl,rfl,h.push k,rfl,by show e+1+1 < a.size;omega,n,by show i+2<=e+1+f;omega⟩,rfl,rfl⟩)
   ·exact W2.ifF (l) (W2.pur ⟨⟨rfl,rfl,h.push k,rfl,by show e+1+1 < a.size;omega,n,by show i+1+(j+1)<=e+1+f;omega⟩,rfl,rfl⟩)
theorem W2.loGs{t3 u3:Aq}{i j:Nat}{c d:LG}(ha:RA G a a')(hb:RA G b b')(I:LoI G a b (i+2+j) c d/\RS G t3 u3/\SG t t3/\SG u u3):W2 pw (ko a.size b.size a b j c) (ko a.size b.size a' b' j d) (gj (λc d t3 u3=>(da G c.1 d.1\/LoI G a b (i+2) c d)/\RS G t3 u3/\SG t t3/\SG u u3) λc d t3 u3=>LoI G a b (i+2+(j+1)) c d/\RS G t3 u3/\SG t t3/\SG u u3) t3 u3:=by
 obtain⟨I,e,l,m⟩:=I;obtain⟨v,r,⟨y,A,g,B,x⟩,rfl,rfl,s,o,q,p⟩:=I.ex;by_cases z:g > 1
 ·exact W2.ifT z (W2.loJ1 e ha hb s o q p ⟨λhr=>⟨.inl ⟨_,_,rfl,rfl,hr⟩,e.gal _,l.gal _,m.gal _⟩,λho h f k=>⟨.inr ⟨rfl,rfl,ho,rfl,h,f,A5 ⋯ k⟩,e.gal _,l.gal _,m.gal _⟩,λho h f k=>⟨⟨rfl,rfl,ho,rfl,h,f,k⟩,e.gal _,l.gal _,m.gal _⟩⟩)
 ·exact W2.ifF z (W2.loJ1 e ha hb s o q p ⟨λhr=>⟨.inl ⟨_,_,rfl,rfl,hr⟩,e.gal _,l.gal _,m.gal _⟩,λho h f k=>⟨.inr ⟨rfl,rfl,ho,rfl,h,f,A5 ⋯ k⟩,e.gal _,l.gal _,m.gal _⟩,λho h f k=>⟨⟨rfl,rfl,ho,rfl,h,f,k⟩,e.gal _,l.gal _,m.gal _⟩⟩)
theorem W2.loOs{t' u':Aq}{i:Nat}{c d:LM}(ha:RA G a a')(hb:RA G b b')(I:LoI G a b (i+1) c d/\RS G t' u'/\SG t t'/\SG u u'):W2 pw (tD a.size b.size a b i c) (tD a.size b.size a' b' i d) (gj (λc d t' u'=>da G c.1 d.1/\RS G t' u'/\SG t t'/\SG u u') λc d t' u'=>LoI G a b (i+1+1) c d/\RS G t' u'/\SG t t'/\SG u u') t' u':=by
 obtain⟨I,v,B,y⟩:=I;obtain⟨m,g,⟨z,_⟩,rfl,rfl,p,l,o,q⟩:=I.ex;refine W2.bind (W2.mono (W2.for (Q:=λc d k h=>(da G c.1 d.1\/LoI G a b (i+2) c d)/\k=t'/\h=u') (λj c d k h=>LoI G a b (i+1+j) c d/\k=t'/\h=u') (λj c d k h _ E I=>?_) (λc d k h I=>?_) ⟨⟨rfl,rfl,p,rfl,l,o,by omega⟩,rfl,rfl⟩) λc d k h I=>?_)
 ·obtain⟨I,rfl,rfl⟩:=I;exact W2.loSs v ha hb I
 ·obtain⟨⟨n,_⟩,rfl,rfl⟩:=I;grind
 ·obtain⟨I,rfl,rfl⟩:=I;rcases I with⟨r,s,n,x,w⟩|I
  ·rw[n,x];exact W2.pur ⟨⟨r,s,rfl,rfl,w⟩,v,B,y⟩
  ·obtain⟨m,g,⟨z,_⟩,rfl,rfl,p,l,o,q⟩:=I.ex;refine W2.bind (W2.rul (W2.bind (W2.mono (W2.for (Q:=λc d f e=>(da G c.1 d.1\/LoI G a b (i+2) c d)/\RS G f e/\SG t f/\SG u e) (λj c d f e=>LoI G a b (i+2+j) c d/\RS G f e/\SG t f/\SG u e) (λj c d f e _ E I=>?_) (λc d f e I=>?_) ⟨⟨rfl,rfl,p,rfl,l,o,by omega⟩,v,B,y⟩) λc d f e I=>?_)))
   ·exact W2.loGs ha hb I
   ·obtain⟨⟨n,_⟩,_⟩:=I;grind
   ·obtain⟨I,A,C,D⟩:=I;rcases I with⟨r,s,n,x,w⟩|I
    ·rw[n,x];exact W2.pur ⟨⟨r,s,rfl,rfl,w⟩,A,C,D⟩
    ·obtain⟨m,g,⟨z,_⟩,rfl,rfl,p,l,o,q⟩:=I.ex;exact W2.bind (W2.setG (W2.pur ⟨⟨rfl,rfl,p,rfl,l,o,q⟩,A.gal _,C.gal _,D.gal _⟩))
end
theorem W2.mLo{t u:Aq}(R:RS G t u){a a' b b':Array Bk}(ha:RA G a a')(hb:RA G b b')(h1:1<=a.size)(h2:1<=b.size){Q:Array Bk->Array Bk->Aq->Aq->Prop}(q:∀r r' t' u',RA G r r'->RS G t' u'->SG t t'->SG u u'->Q r r' t' u'):W2 pw (qm a b) (qm a' b') Q t u:=by
 rw[zd,zd];refine W2.bind (W2.rul (W2.bind (W2.elS hb ⋯ λx y k=>?_)));have B:∀o e i j,RA G o e->RA G _ (e++a'.extract i a.size++b'.extract j b.size):=λo e i j h=>(h.app (ha.ex i _)).app (hb.ex j _);have v:∀o e i j,RA G o e->RA G _ (e++b'.extract j b.size++a'.extract i a.size):=λo e i j h=>(h.app (hb.ex j _)).app (ha.ex i _);rw[<-ha.1,<-hb.1];by_cases l:(1==b.size)=ah
 ·exact W2.ifT (l) (W2.pur (q _ _ _ _ (B _ _ _ _ (RA.one k)) R (SG.refl _) (SG.refl _)))
 ·refine W2.ifF (l) ?_;by_cases n:(0+1==a.size)=ah
  ·exact W2.ifT (n) (W2.pur (q _ _ _ _ (v _ _ _ _ (RA.one k)) R (SG.refl _) (SG.refl _)))
  ·refine W2.ifF (n) ?_;have m:1 < b.size:=by have:¬1=b.size:=λz=>l (by simpa using z);omega
   have f:1 < a.size:=by have:¬1=a.size:=λz=>n (by simpa using z);omega
   refine W2.bind (W2.getS (W2.bind (W2.mono (W2.for (Q:=λc d t' u'=>da G c.1 d.1/\RS G t' u'/\SG t t'/\SG u u') (λi c d t' u'=>LoI G a b (i+1) c d/\RS G t' u'/\SG t t'/\SG u u') (λi c d t' u' _ E I=>?_) (λc d t' u' I=>?_) ⟨⟨rfl,rfl,RA.one k,?_,f,m,Al _⟩,R,SG.refl _,SG.refl _⟩) λc d t' u' I=>?_)))
   ·exact W2.loOs ha hb I
   ·obtain⟨⟨p,_⟩,_⟩:=I;grind
   ·exact congrArg (λg=>(0,1,g)) R.gl.symm
   ·obtain⟨⟨r,r',p,D,C⟩,A,w,s⟩:=I;rw[p,D];exact W2.pur (q _ _ _ _ C A w s)
end
end KG
namespace KG
open PySem PySem.W PyProof.Rows KW
variable{G:Str->Tok->Tok->Prop}
section
variable{pw:A3×Bi}{α β:Type}
abbrev qi:=Option (Array Bk)×Nat×Nat×Array Bk×Nat×Nat
abbrev gR:=Option (Array Bk)×Nat×Nat×Array Bk×Nat×Nat×Nat
abbrev pZ:=Option (Array Bk)×Nat×Nat×Array Bk×Nat
abbrev hV(a b:Array Bk)(na nb:Nat)(out:Array Bk):Array Bk:=a.extract 0 na++b.extract 0 nb++out.reverse
abbrev lD(a b:Array Bk)(na nb:Nat)(out:Array Bk):Array Bk:=b.extract 0 nb++a.extract 0 na++out.reverse
def hiJ3(a b:Array Bk)(na nb:Nat)(out:Array Bk)(g ac bc:Nat):StateT Aq Sem (ForInStep gR):=F7 a (na-1)>>=λx=>
 if (na-1==0)=ah then pure (.done (ae (hV a b (na-1) nb (out.push x)),na-1,nb,out.push x,g,ac,bc))else
 if (decide (ac < 7)&&decide (bc < 7))=ah then pure (.done (af,na-1,nb,out.push x,g,ac,bc))else pure (.yield (af,na-1,nb,out.push x,g,ac,bc))
def hiJ2(a b:Array Bk)(na nb:Nat)(out:Array Bk)(g ac bc:Nat):StateT Aq Sem (ForInStep gR):=F7 b (nb-1)>>=λx=>
 if (nb-1==1)=ah then pure (.done (ae (lD a b na (nb-1) (out.push x)),na,nb-1,out.push x,g,ac,bc))else
 F7 a (na-1)>>=λy=>iD ah y b 0 (nb-1) (nb-1-1)>>=λr=>match r with
 |some k=>if nb-1-k > 0 then(if (k==1)=ah then pure (.done (ae (lD a b na k (out.push x++(b.extract k (nb-1)).reverse)),na,k,out.push x++(b.extract k (nb-1)).reverse,g,ac,nb-1-k))else
   if (k==0)=ah then pure (.done (ae (hV a b na k (out.push x++(b.extract k (nb-1)).reverse)),na,k,out.push x++(b.extract k (nb-1)).reverse,g,ac,nb-1-k))else
   hiJ3 a b na k (out.push x++(b.extract k (nb-1)).reverse) g ac (nb-1-k))else hiJ3 a b na (nb-1) (out.push x) g ac (nb-1-k)
 |_=>pure (.done (ae (hV a b na (nb-1) (out.push x)),na,nb-1,out.push x,g,ac,bc))
def hiJ1(a b:Array Bk)(na nb:Nat)(out:Array Bk)(g ac bc:Nat):StateT Aq Sem (ForInStep gR):=kD g>>=λ_=>F7 b (nb-1)>>=λx=>iD ai x a 0 na (na-1)>>=λr=>match r with
 |some k=>if na-k > 0 then(if (k==0)=ah then pure (.done (ae (hV a b k nb (out++(a.extract k na).reverse)),k,nb,out++(a.extract k na).reverse,g,na-k,bc))else
   hiJ2 a b k nb (out++(a.extract k na).reverse) g (na-k) bc)else hiJ2 a b na nb out g (na-k) bc
 |_=>pure (.done (ae (hV a b na nb out),na,nb,out,g,ac,bc))
structure HQ(G:Str->Tok->Tok->Prop)(A B T m:Nat)(Q:ForInStep gR->ForInStep gR->Aq->Aq->Prop)(t u:Aq):Prop where
 d:∀{r r':Array Bk}{p p':Nat×Nat×Array Bk×Nat×Nat×Nat},RA G r r'->Q (.done (ae r,p)) (.done (ae r',p')) t u
 n:∀{o o':Array Bk}{na nb:Nat}{s:Nat×Nat×Nat},RA G o o'->1<=na->na<=A->2<=nb->nb<=B->m+1+(na+nb)<=T->Q (.done (af,na,nb,o,s)) (.done (af,na,nb,o',s)) t u
 y:∀{o o':Array Bk}{na nb:Nat}{s:Nat×Nat×Nat},RA G o o'->1<=na->na<=A->2<=nb->nb<=B->m+1+(na+nb)<=T->Q (.yield (af,na,nb,o,s)) (.yield (af,na,nb,o',s)) t u
section
variable{t u:Aq}{a a' b b' out out':Array Bk}{Q:ForInStep gR->ForInStep gR->Aq->Aq->Prop}{na nb g ac bc m T:Nat}
theorem RA.hD(ha:RA G a a')(hb:RA G b b')(ro:RA G out out'):RA G (hV a b na nb out) (hV a' b' na nb out'):=((ha.ex _ _).app (hb.ex _ _)).app ro.rev
theorem RA.hF(ha:RA G a a')(hb:RA G b b')(ro:RA G out out'):RA G (lD a b na nb out) (lD a' b' na nb out'):=((hb.ex _ _).app (ha.ex _ _)).app ro.rev
theorem W2.hiJ3(ha:RA G a a')(hb:RA G b b')(ro:RA G out out')(h3:1<=na)(h4:na<=a.size)(h5:2<=nb)(h6:nb<=b.size)(h7:m+(na+nb)<=T)(q:HQ G a.size b.size T m Q t u):W2 pw (hiJ3 a b na nb out g ac bc) (hiJ3 a' b' na nb out' g ac bc) Q t u:=by
 refine W2.bind (W2.elS ha ⋯ λx y c=>?_);by_cases z:(na-1==0)=ah
 ·exact W2.ifT z (W2.pur (q.d (RA.hD ha hb (ro.push c))))
 ·have f:¬na-1=0:=λy=>z (by simpa using y);refine W2.ifF z ?_;by_cases e:(decide (ac < 7)&&decide (bc < 7))=ah
  ·exact W2.ifT e (W2.pur (q.n (ro.push c) ⋯ ⋯ h5 h6 ⋯))
  ·exact W2.ifF e (W2.pur (q.y (ro.push c) ⋯ ⋯ h5 h6 ⋯))
theorem W2.hiJ2(R:RS G t u)(ha:RA G a a')(hb:RA G b b')(ro:RA G out out')(h3:1<=na)(h4:na<=a.size)(h5:2<=nb)(h6:nb<=b.size)(h7:m+(na+nb)<=T)(q:HQ G a.size b.size T m Q t u):W2 pw (hiJ2 a b na nb out g ac bc) (hiJ2 a' b' na nb out' g ac bc) Q t u:=by
 refine W2.bind (W2.elS hb ⋯ λx y c=>?_);by_cases z:(nb-1==1)=ah
 ·exact W2.ifT z (W2.pur (q.d (RA.hF ha hb (ro.push c))))
 ·have n:¬nb-1=1:=λy=>z (by simpa using y);refine W2.ifF z (W2.bind (W2.elS ha ⋯ λx3 j i=>W2.bind (W2.galS R i hb ⋯ ⋯ λk o=>?_)));by_cases h:nb-1-k > 0
  ·refine W2.ifT h ?_;by_cases f:(k==1)=ah
   ·exact W2.ifT f (W2.pur (q.d (RA.hF ha hb ((ro.push c).app (hb.ex _ _).rev))))
   ·refine W2.ifF f ?_;by_cases e:(k==0)=ah
    ·exact W2.ifT e (W2.pur (q.d (RA.hD ha hb ((ro.push c).app (hb.ex _ _).rev))))
    ·have p:¬k=1:=λy=>f (by simpa using y);have l:¬k=0:=λy=>e (by simpa using y);exact W2.ifF e (W2.hiJ3 ha hb ((ro.push c).app (hb.ex _ _).rev) h3 h4 ⋯ ⋯ ⋯ q)
  ·exact W2.ifF h (W2.hiJ3 ha hb (ro.push c) h3 h4 ⋯ ⋯ ⋯ q)
theorem W2.hiJ1(R:RS G t u)(ha:RA G a a')(hb:RA G b b')(ro:RA G out out')(h3:1<=na)(h4:na<=a.size)(h5:2<=nb)(h6:nb<=b.size)(h7:m+(na+nb)<=T)(q:HQ G a.size b.size T m Q (hZ t g) (hZ u g)):W2 pw (hiJ1 a b na nb out g ac bc) (hiJ1 a' b' na nb out' g ac bc) Q t u:=by
 refine W2.bind (W2.setG (W2.bind (W2.elS hb ⋯ λx y f=>W2.bind (W2.galS (R.gal _) f ha ⋯ ⋯ λk i=>?_))));by_cases e:na-k > 0
 ·refine W2.ifT e ?_;by_cases c:(k==0)=ah
  ·exact W2.ifT c (W2.pur (q.d (RA.hD ha hb (ro.app (ha.ex _ _).rev))))
  ·have h:¬k=0:=λy=>c (by simpa using y);exact W2.ifF c (W2.hiJ2 (R.gal _) ha hb (ro.app (ha.ex _ _).rev) ⋯ ⋯ h5 h6 ⋯ q)
 ·exact W2.ifF e (W2.hiJ2 (R.gal _) ha hb ro h3 h4 h5 h6 h7 q)
end
def rM(a b:Array Bk)(g:Nat)(_:Nat):qi->StateT Aq Sem (ForInStep qi):=λ(_,na,nb,out,ac,bc)=>F7 b (nb-1)>>=λx=>F7 a (na-1)>>=λy=>lt' x y>>=λr=>match r with
 |some w=>if w=ah then F7 a (na-1)>>=λx=>if (na-1==0)=ah then pure (.done (ae (hV a b (na-1) nb (out.push x)),na-1,nb,out.push x,ac+1,0))else
   if ac+1 ≥ g then pure (.done (af,na-1,nb,out.push x,ac+1,0))else pure (.yield (af,na-1,nb,out.push x,ac+1,0))
  else F7 b (nb-1)>>=λx=>if (nb-1==1)=ah then pure (.done (ae (lD a b na (nb-1) (out.push x)),na,nb-1,out.push x,0,bc+1))else
   if bc+1 ≥ g then pure (.done (af,na,nb-1,out.push x,0,bc+1))else pure (.yield (af,na,nb-1,out.push x,0,bc+1))
 |_=>pure (.done (ae (hV a b na nb out),na,nb,out,ac,bc))
def jA(a b:Array Bk)(_:Nat):gR->StateT Aq Sem (ForInStep gR):=λ(_,na,nb,out,g,ac,bc)=>if g > 1 then hiJ1 a b na nb out (g-1) ac bc else hiJ1 a b na nb out g ac bc
def u7(T:Nat)(a b:Array Bk)(_:Nat):pZ->StateT Aq Sem (ForInStep pZ):=λ(_,na,nb,out,g)=>Gp [:T] ((af,na,nb,out,0,0):qi) (rM a b g)>>=λs=>match s.1 with
 |some r=>pure (.done (ae r,s.2.1,s.2.2.1,s.2.2.2.1,g))
 |none=>liftM (rule "list.sort.gallop")>>=λ_=>Gp [:T] ((af,s.2.1,s.2.2.1,s.2.2.2.1,g+1,s.2.2.2.2):gR) (jA a b)>>=λs=>match s.1 with
  |some r=>pure (.done (ae r,s.2.1,s.2.2.1,s.2.2.2.1,s.2.2.2.2.1))
  |none=>kD (s.2.2.2.2.1+1)>>=λ_=>pure (.yield (af,s.2.1,s.2.2.1,s.2.2.2.1,s.2.2.2.2.1+1))
theorem v7(a b:Array Bk):pA a b=(liftM (rule "list.sort.merge-hi")>>=λ_=>F7 a (a.size-1)>>=λx=>if (a.size-1==0)=ah then pure (hV a b (a.size-1) b.size #[x])else if (b.size==1)=ah then pure (lD a b (a.size-1) b.size #[x])else
  get>>=λs=>Gp [:a.size+b.size] ((af,a.size-1,b.size,#[x],gallopOf s):pZ) (u7 (a.size+b.size) a b)>>=λs=>match s.1 with
  |some r=>pure r
  |none=>liftM (unsupported "internal:list.sort.merge-bound")):=by kernel_rfl
structure HiI{σ:Type}(G:Str->Tok->Tok->Prop)(a b:Array Bk)(k:Nat)(c d:Option (Array Bk)×Nat×Nat×Array Bk×σ):Prop where
 e1:c.1=af
 e2:d.1=af
 e3:c.2.1=d.2.1
 e4:c.2.2.1=d.2.2.1
 ro:RA G c.2.2.2.1 d.2.2.2.1
 e5:c.2.2.2.2=d.2.2.2.2
 h3:1<=c.2.1
 h4:c.2.1<=a.size
 h5:2<=c.2.2.1
 h6:c.2.2.1<=b.size
 h7:k+(c.2.1+c.2.2.1)<=a.size+b.size
theorem HiI.ex{σ:Type}{a b:Array Bk}{k:Nat}{c d:Option (Array Bk)×Nat×Nat×Array Bk×σ}(I:HiI G a b k c d):∃(na nb:Nat)(o o':Array Bk)(s:σ),c=(af,na,nb,o,s)/\d=(af,na,nb,o',s)/\RA G o o'/\1<=na/\na<=a.size/\2<=nb/\nb<=b.size/\k+(na+nb)<=a.size+b.size:=by
 obtain⟨u,na,nb,o,s⟩:=c;obtain⟨w,r,t,o',v⟩:=d;obtain⟨h,m,e,i,p,q,f,l,g,n,j⟩:=I;dsimp only at h m e i p q f l g n j;subst h m e i q;exact⟨na,nb,o,o',s,rfl,rfl,p,f,l,g,n,j⟩
section
variable{t u:Aq}{a a' b b':Array Bk}
theorem W2.hiSs{i j g:Nat}{c d:qi}(R':RS G t u)(ha:RA G a a')(hb:RA G b b')(I:HiI G a b (i+1+j) c d):W2 pw (rM a b g j c) (rM a' b' g j d) (gj (λc d t2 u2=>(da G c.1 d.1\/HiI G a b (i+2) c d)/\t2=t/\u2=u) λc d t2 u2=>HiI G a b (i+1+(j+1)) c d/\t2=t/\u2=u) t u:=by
 obtain⟨f,e,v,s,⟨B,w⟩,rfl,rfl,h,n,p,o,q,D⟩:=I.ex;refine W2.bind (W2.elS hb ⋯ λx y m=>W2.bind (W2.elS ha ⋯ λx' C k=>?_));refine W2.bind (W2.ltS R' m k λr=>?_);cases r with
 |true=>
  refine W2.ifT (rfl) (W2.bind (W2.elS ha ⋯ λx y k=>?_));by_cases z:(f-1==0)=ah
  ·exact W2.ifT (z) (W2.pur ⟨.inl ⟨_,_,rfl,rfl,RA.hD ha hb (h.push k)⟩,rfl,rfl⟩)
  ·refine W2.ifF (z) ?_;have A:¬f-1=0:=λy=>z (by simpa using y);by_cases l:B+1 ≥ g
   ·exact W2.ifT (l) (W2.pur ⟨.inr ⟨rfl,rfl,rfl,rfl,h.push k,rfl,show 1<=f-1 by omega,show f-1<=a.size by omega,o,q,show i+2+(f-1+e)<=a.size+b.size by omega⟩,rfl,rfl⟩)
   ·exact W2.ifF (l) (W2.pur ⟨⟨rfl,rfl,rfl,rfl,h.push k,rfl,show 1<=f-1 by omega,show f-1<=a.size by omega,o,q,show i+1+(j+1)+(f-1+e)<=a.size+b.size by omega⟩,rfl,rfl⟩)
 |false=>
  refine W2.ifF (Az) (W2.bind (W2.elS hb ⋯ λx y m=>?_));by_cases z:(e-1==1)=ah
  ·exact W2.ifT (z) (W2.pur ⟨.inl ⟨_,_,rfl,rfl,RA.hF ha hb (h.push m)⟩,rfl,rfl⟩)
  ·refine W2.ifF (z) ?_;have A:¬e-1=1:=λy=>z (by simpa using y);by_cases l:w+1 ≥ g
   ·exact W2.ifT (l) (W2.pur ⟨.inr ⟨rfl,rfl,rfl,rfl,h.push m,rfl,n,p,show 2<=e-1 by omega,show e-1<=b.size by omega,show i+2+(f+(e-1))<=a.size+b.size by omega⟩,rfl,rfl⟩)
   ·exact W2.ifF (l) (W2.pur ⟨⟨rfl,rfl,rfl,rfl,h.push m,rfl,n,p,show 2<=e-1 by omega,show e-1<=b.size by omega,show i+1+(j+1)+(f+(e-1))<=a.size+b.size by omega⟩,rfl,rfl⟩)
theorem W2.hiGs{t3 u3:Aq}{i j:Nat}{c d:gR}(ha:RA G a a')(hb:RA G b b')(I:HiI G a b (i+2+j) c d/\RS G t3 u3/\SG t t3/\SG u u3):W2 pw (jA a b j c) (jA a' b' j d) (gj (λc d t3 u3=>(da G c.1 d.1\/HiI G a b (i+2) c d)/\RS G t3 u3/\SG t t3/\SG u u3) λc d t3 u3=>HiI G a b (i+2+(j+1)) c d/\RS G t3 u3/\SG t t3/\SG u u3) t3 u3:=by
 obtain⟨I,e,n,o⟩:=I;obtain⟨D,C,A,x,⟨g,_⟩,rfl,rfl,y,q,v,r,w,s⟩:=I.ex;by_cases z:g > 1
 ·exact W2.ifT z (W2.hiJ1 e ha hb y q v r w s ⟨λhr=>⟨.inl ⟨_,_,rfl,rfl,hr⟩,e.gal _,n.gal _,o.gal _⟩,λho h f l k m=>⟨.inr ⟨rfl,rfl,rfl,rfl,ho,rfl,h,f,l,k,A5 (Nat.add_le_add_right ⋯ _) m⟩,e.gal _,n.gal _,o.gal _⟩,λho h f l k m=>⟨⟨rfl,rfl,rfl,rfl,ho,rfl,h,f,l,k,m⟩,e.gal _,n.gal _,o.gal _⟩⟩)
 ·exact W2.ifF z (W2.hiJ1 e ha hb y q v r w s ⟨λhr=>⟨.inl ⟨_,_,rfl,rfl,hr⟩,e.gal _,n.gal _,o.gal _⟩,λho h f l k m=>⟨.inr ⟨rfl,rfl,rfl,rfl,ho,rfl,h,f,l,k,A5 (Nat.add_le_add_right ⋯ _) m⟩,e.gal _,n.gal _,o.gal _⟩,λho h f l k m=>⟨⟨rfl,rfl,rfl,rfl,ho,rfl,h,f,l,k,m⟩,e.gal _,n.gal _,o.gal _⟩⟩)
theorem W2.hiOs{t' u':Aq}{i:Nat}{c d:pZ}(ha:RA G a a')(hb:RA G b b')(I:HiI G a b (i+1) c d/\RS G t' u'/\SG t t'/\SG u u'):W2 pw (u7 (a.size+b.size) a b i c) (u7 (a.size+b.size) a' b' i d) (gj (λc d t' u'=>da G c.1 d.1/\RS G t' u'/\SG t t'/\SG u u') λc d t' u'=>HiI G a b (i+1+1) c d/\RS G t' u'/\SG t t'/\SG u u') t' u':=by
 obtain⟨I,x,E,C⟩:=I;obtain⟨F,B,o,h,g,rfl,rfl,v,m,q,n,s,y⟩:=I.ex;refine W2.bind (W2.mono (W2.for (Q:=λc d l k=>(da G c.1 d.1\/HiI G a b (i+2) c d)/\l=t'/\k=u') (λj c d l k=>HiI G a b (i+1+j) c d/\l=t'/\k=u') (λj c d l k _ K I=>?_) (λc d l k I=>?_) ⟨⟨rfl,rfl,rfl,rfl,v,rfl,m,q,n,s,by omega⟩,rfl,rfl⟩) λc d l k I=>?_)
 ·obtain⟨I,rfl,rfl⟩:=I;exact W2.hiSs x ha hb I
 ·obtain⟨⟨p,_⟩,rfl,rfl⟩:=I;grind
 ·obtain⟨I,rfl,rfl⟩:=I;rcases I with⟨r,w,p,A,z⟩|I
  ·rw[p,A];exact W2.pur ⟨⟨r,w,rfl,rfl,z⟩,x,E,C⟩
  ·obtain⟨F,B,o,h,⟨M,L⟩,rfl,rfl,v,m,q,n,s,y⟩:=I.ex;refine W2.bind (W2.rul (W2.bind (W2.mono (W2.for (Q:=λc d f e=>(da G c.1 d.1\/HiI G a b (i+2) c d)/\RS G f e/\SG t f/\SG u e) (λj c d f e=>HiI G a b (i+2+j) c d/\RS G f e/\SG t f/\SG u e) (λj c d f e _ K I=>?_) (λc d f e I=>?_) ⟨⟨rfl,rfl,rfl,rfl,v,rfl,m,q,n,s,by omega⟩,x,E,C⟩) λc d f e I=>?_)))
   ·exact W2.hiGs ha hb I
   ·obtain⟨⟨p,_⟩,_⟩:=I;grind
   ·obtain⟨I,D,H,J⟩:=I;rcases I with⟨r,w,p,A,z⟩|I
    ·rw[p,A];exact W2.pur ⟨⟨r,w,rfl,rfl,z⟩,D,H,J⟩
    ·obtain⟨F,B,o,h,⟨g,_⟩,rfl,rfl,v,m,q,n,s,y⟩:=I.ex;exact W2.bind (W2.setG (W2.pur ⟨⟨rfl,rfl,rfl,rfl,v,rfl,m,q,n,s,y⟩,D.gal _,H.gal _,J.gal _⟩))
end
theorem W2.mHi{t u:Aq}(R:RS G t u){a a' b b':Array Bk}(ha:RA G a a')(hb:RA G b b')(h1:1<=a.size)(h2:1<=b.size){Q:Array Bk->Array Bk->Aq->Aq->Prop}(q:∀r r' t' u',RA G r r'->RS G t' u'->SG t t'->SG u u'->Q r r' t' u'):W2 pw (pA a b) (pA a' b') Q t u:=by
 have v:∀o e i j,RA G o e->RA G _ (a'.extract 0 i++b'.extract 0 j++e.reverse):=λo e i j h=>((ha.ex 0 i).app (hb.ex 0 j)).app h.rev;have s:∀o e i j,RA G o e->RA G _ (b'.extract 0 j++a'.extract 0 i++e.reverse):=λo e i j h=>((hb.ex 0 j).app (ha.ex 0 i)).app h.rev;rw[v7,v7];refine W2.bind (W2.rul ?_);rw[<-ha.1,<-hb.1];refine W2.bind (W2.elS ha ⋯ λx y k=>?_);by_cases f:(a.size-1==0)=ah
 ·exact W2.ifT (f) (W2.pur (q _ _ _ _ (v _ _ _ _ (RA.one k)) R (SG.refl _) (SG.refl _)))
 ·refine W2.ifF (f) ?_;by_cases g:(b.size==1)=ah
  ·exact W2.ifT (g) (W2.pur (q _ _ _ _ (s _ _ _ _ (RA.one k)) R (SG.refl _) (SG.refl _)))
  ·refine W2.ifF (g) ?_;have C:¬a.size-1=0:=λz=>f (by simpa using z);have w:¬b.size=1:=λz=>g (by simpa using z);refine W2.bind (W2.getS (W2.bind (W2.mono (W2.for (Q:=λc d t' u'=>da G c.1 d.1/\RS G t' u'/\SG t t'/\SG u u') (λi c d t' u'=>HiI G a b (i+1) c d/\RS G t' u'/\SG t t'/\SG u u') (λi c d t' u' _ D I=>?_) (λc d t' u' I=>?_) ⟨⟨rfl,rfl,rfl,rfl,RA.one k,R.gl.symm,show 1<=a.size-1 by omega,Nat.sub_le _ _,show 2<=b.size by omega,Al _,show 0+1+(a.size-1+b.size)<=a.size+b.size by omega⟩,R,SG.refl _,SG.refl _⟩) λc d t' u' I=>?_)))
   ·exact W2.hiOs ha hb I
   ·obtain⟨⟨l,_⟩,_⟩:=I;grind
   ·obtain⟨⟨r,r',l,B,A⟩,p,n,m⟩:=I;rw[l,B];exact W2.pur (q _ _ _ _ A p n m)
end
end KG
namespace KG
open PySem PySem.W PyProof.Rows KW
variable{G:Str->Tok->Tok->Prop}
section
variable{pw:A3×Bi}{α β:Type}
theorem OL(i:Nat):mergeAt' i=(do
 let s <-get
 let(ae (sa,na,power),ae (sb,nb,_)):=((Br s)[i]?,(Br s)[i+1]?)|liftM (m:=Sem) (unsupported "internal:list.sort.pending")
 set (Gj s (((Br s).setIfInBounds i (sa,na+nb,power)).eraseIdxIfInBounds (i+1)))
 let ae k <-iD ai (<-F7 (Dv s) sb) (Dv s) sa na 0|return ai
 let(sa,na):=(sa+k,na-k)
 if na==0 then return ah
 let ae nb <-iD ah (<-F7 (Dv s) (sa+na-1)) (Dv s) sb nb (nb-1)|return ai
 if nb==0 then return ah
 let x:=(Dv s).extract sa sb
 let y:=(Dv s).extract sb (sb+nb)
 let merged <-if na<=nb then qm x y else pA x y
 modify λs=>setArr s (merged.toList.zipIdx.foldl (λa (p,j)=>a.setIfInBounds (sa+j) p) (Dv s))
 return(Ge (<-get)).isNone):=rfl
theorem RA.set{a b:Array Bk}(h:RA G a b){x y:Bk}(k:RK G x y)(i:Nat):RA G (a.setIfInBounds i x) (b.setIfInBounds i y):=⟨by simp[h.1],λj c=>by
 rw[Array.size_setIfInBounds]at c;by_cases e:i=j
 ·cases e;exact⟨x,y,by rw[Ho c],by rw[Ho (by rw[h.sz];omega)],k⟩
 ·rw[Array.getElem?_setIfInBounds_ne e,Array.getElem?_setIfInBounds_ne e];exact h.get c⟩
theorem RA.laid(n:Nat):∀(l l':List Bk)(m:Nat){a b:Array Bk},RA G a b->l.length=l'.length->(∀i,i < l.length->∃x y,l[i]?=ae x/\l'[i]?=ae y/\RK G x y)->RA G ((l.zipIdx m).foldl (λa (p,j)=>a.setIfInBounds (n+j) p) a) ((l'.zipIdx m).foldl (λa (p,j)=>a.setIfInBounds (n+j) p) b)
 |[],[],m,a,b,h,_,_=>h
 |p::l,g::l',m,a,b,h,e,k=>by
  obtain⟨x,y,c,f,r⟩:=k 0 (Nat.zero_lt_succ _);cases c;cases f;exact RA.laid n l l' _ (h.set r _) (Nat.succ.inj e) λi d=>k _ (Nat.succ_lt_succ d)
 |[],_::_,_,_,_,_,e,_=>nomatch e
 |_::_,[],_,_,_,_,e,_=>nomatch e
theorem rH(n:Nat):∀(l:List Bk)(m:Nat)(a:Array Bk),((l.zipIdx m).foldl (λa (p,j)=>a.setIfInBounds (n+j) p) a).size=a.size
 |[],_,_=>rfl
 |p::l,m,a=>(rH n l _ _).trans Array.size_setIfInBounds
theorem RA.lay{a b r r':Array Bk}(h:RA G a b)(k:RA G r r')(n:Nat):RA G (r.toList.zipIdx.foldl (λa (p,j)=>a.setIfInBounds (n+j) p) a) (r'.toList.zipIdx.foldl (λa (p,j)=>a.setIfInBounds (n+j) p) b):=
 RA.laid n _ _ 0 h k.1 λi d=>by
  obtain⟨x,y,c,e,q⟩:=k.get d;exact⟨x,y,by rw[Bx];exact c,by rw[Bx];trivial⟩
theorem W2.setS{f g:Aq}{Q:PUnit->PUnit->Aq->Aq->Prop}{t u:Aq}(h:Q ⟨⟩ ⟨⟩ f g):W2 pw (set f) (set g) Q t u:=W2.one (λ_ _ _ P p=>wpS_modify p) (λ_ _ _ P p=>wpS_modify p) h
theorem W2.mAt{t u:Aq}(R:RS G t u)(f1:Ge t=af)(f2:Ge u=af){i sa na pa sb nb pb:Nat}(hp1:(Br t)[i]?=ae (sa,na,pa))(hp2:(Br t)[i+1]?=ae (sb,nb,pb))(c:sa+na=sb)(n1:1<=na)(n2:1<=nb)(le:sb+nb<=(Dv t).size){Q:Bool->Bool->Aq->Aq->Prop}
  (q:∀t' u',RS G t' u'->Ge t'=af->Ge u'=af->Br t'=((Br t).setIfInBounds i (sa,na+nb,pa)).eraseIdxIfInBounds (i+1)->(Dv t').size=(Dv t).size->Q ah ah t' u'):W2 pw (mergeAt' i) (mergeAt' i) Q t u:=by
 rw[OL];refine W2.bind (W2.getS ?_);rw[R.pd,hp1,hp2];refine W2.bind (W2.setS ?_);have e:RS G (Gj t (((Br t).setIfInBounds i _).eraseIdxIfInBounds _)) (Gj u (((Br t).setIfInBounds i (sa,na+nb,pa)).eraseIdxIfInBounds (i+1))):=⟨R.k1,R.k2,rfl,R.gl,R.ar⟩;refine W2.bind (W2.elS R.ar ⋯ λx y k=>W2.bind (W2.galS e k R.ar ⋯ ⋯ λm D=>?_));dsimp only;by_cases z:(na-m==0)=ah
 ·rw[b_ z];try rw[b_ z]
  exact W2.pur (q _ _ e f1 f2 rfl rfl)
 ·rw[a_ z];try rw[a_ z]
  have C:¬na-m=0:=λy=>z (by simpa using y);refine W2.bind (W2.elS R.ar ⋯ λx2 E w=>W2.bind (W2.galS e w R.ar ⋯ ⋯ λm2 A=>?_));dsimp only;by_cases h:(m2==0)=ah
  ·rw[b_ h];try rw[b_ h]
   exact W2.pur (q _ _ e f1 f2 rfl rfl)
  ·rw[a_ h];try rw[a_ h]
   have B:¬m2=0:=λy=>h (by simpa using y);have p:1<=((Dv t).extract (sa+m) sb).size:=by rw[Array.size_extract];omega
   have s:1<=((Dv t).extract sb (sb+m2)).size:=by rw[Array.size_extract];omega
   by_cases j:na-m<=m2
   ·rw[b_ j];try rw[b_ j]
    refine W2.bind (W2.mLo e (R.ar.ex _ _) (R.ar.ex _ _) p s λr v t' u' o b d l=>W2.bind (W2.modS ?_));refine W2.bind (W2.getS ?_);have f:=d.2.2.2.trans f1;have g:=l.2.2.2.trans f2;rw[f,g];exact W2.pur (q _ _ ⟨b.k1,b.k2,b.pd,b.gl,b.ar.lay o _⟩ f g d.2.2.1 ((rH _ _ _ _).trans (congrArg Array.size d.2.1)))
   ·rw[a_ j];try rw[a_ j]
    refine W2.bind (W2.mHi e (R.ar.ex _ _) (R.ar.ex _ _) p s λr v t' u' o b d l=>W2.bind (W2.modS ?_));refine W2.bind (W2.getS ?_);have f:=d.2.2.2.trans f1;have g:=l.2.2.2.trans f2;rw[f,g];exact W2.pur (q _ _ ⟨b.k1,b.k2,b.pd,b.gl,b.ar.lay o _⟩ f g d.2.2.1 ((rH _ _ _ _).trans (congrArg Array.size d.2.1)))
end
end KG
namespace KG
open PySem PySem.W PyProof.Rows KW
variable{G:Str->Tok->Tok->Prop}
theorem RA.swap{a b:Array Bk}(h:RA G a b)(i j:Nat):RA G (a.swapIfInBounds i j) (b.swapIfInBounds i j):=by
 unfold Array.swapIfInBounds;by_cases d:i < a.size
 ·by_cases e:j < a.size
  ·have c:=h.sz▸d;have f:=h.sz▸e;rw[dif_pos d,dif_pos e,dif_pos c,dif_pos f];refine⟨by simp[h.1],λk o=>?_⟩;rw[Array.size_swap]at o;rw[Array.getElem?_swap,Array.getElem?_swap];by_cases g:j=k
   ·rw[b_ g,b_ g];obtain⟨x,y,n,m,r⟩:=h.get d;exact⟨x,y,by rw[<-n,getElem?_pos a i d],by rw[<-m,getElem?_pos b i c],r⟩
   ·rw[a_ g,a_ g];by_cases l:i=k
    ·rw[b_ l,b_ l];obtain⟨x,y,n,m,r⟩:=h.get e;exact⟨x,y,by rw[<-n,getElem?_pos a j e],by rw[<-m,getElem?_pos b j f],r⟩
    ·rw[a_ l,a_ l];exact h.get o
  ·have c:=h.sz▸d;rw[dif_pos d,dif_neg e,dif_pos c,dif_neg (h.sz▸e)];exact h
 ·rw[dif_neg d,dif_neg (h.sz▸d)];exact h
theorem RA.bub{a b:Array Bk}(h:RA G a b)(src:Nat):∀d,RA G (bubble a src d) (bubble b src d)
 |0=>h
 |d+1=>by
  rw[bubble_succ,bubble_succ];exact(h.bub src d).swap _ _
theorem RA.mir{a b:Array Bk}(h:RA G a b)(i j:Nat):∀d,RA G (mirror a i j d) (mirror b i j d)
 |0=>h
 |d+1=>by
  rw[mirror_succ,mirror_succ];exact(h.mir i j d).swap _ _
structure RT(G:Str->Tok->Tok->Prop)(t u:Aq):Prop extends RS G t u where
 f1:Ge t=af
 f2:Ge u=af
theorem RT.arr{t u:Aq}(R:RT G t u){a b:Array Bk}(h:RA G a b):RT G (setArr t a) (setArr u b):=⟨⟨R.k1,R.k2,R.pd,R.gl,h⟩,R.f1,R.f2⟩
def SP(t t':Aq):Prop:=Br t'=Br t/\(Dv t').size=(Dv t).size
theorem SP.refl(t:Aq):SP t t:=⟨rfl,rfl⟩
theorem SP.arr{t t':Aq}(h:SP t t'){a:Array Bk}(e:a.size=(Dv t').size):SP t (setArr t' a):=⟨h.1,e.trans h.2⟩
section
variable{pw:A3×Bi}{α β:Type}
theorem W2.ltA{t u:Aq}(R:RT G t u){i j:Nat}(hi:i < (Dv t).size)(hj:j < (Dv t).size){Q:Option Bool->Option Bool->Aq->Aq->Prop}(q:∀b,Q (ae b) (ae b) t u):W2 pw (ltAt' i j) (ltAt' i j) Q t u:=by
 refine W2.bind (W2.getS (W2.bind (W2.elS R.ar hi λx y k=>?_)));exact W2.bind (W2.elS R.ar hj λx2 c a=>W2.ltS R.toRS k a q)
theorem W2.mov{t u:Aq}(R:RT G t u){i j:Nat}{Q:Unit->Unit->Aq->Aq->Prop}(q:∀t' u',RT G t' u'->SP t t'->Q () () t' u'):W2 pw (moveDown' i j) (moveDown' i j) Q t u:=W2.modS (q _ _ (R.arr (R.ar.bub _ _)) ((SP.refl t).arr (bubble_size _ _ _)))
theorem W2.rvs{t u:Aq}(R:RT G t u){i j:Nat}{Q:Unit->Unit->Aq->Aq->Prop}(q:∀t' u',RT G t' u'->SP t t'->Q () () t' u'):W2 pw (Ga i j) (Ga i j) Q t u:=W2.modS (q _ _ (R.arr (R.ar.mir _ _ _)) ((SP.refl t).arr (mirror_size _ _ _ _)))
theorem SP.trans{t t' t'':Aq}(h:SP t t')(k:SP t' t''):SP t t'':=⟨k.1.trans h.1,k.2.trans h.2⟩
theorem W2.bin{t u:Aq}(R:RT G t u){lo n ok:Nat}(hn:lo+n<=(Dv t).size){Q:Bool->Bool->Aq->Aq->Prop}(q:∀t' u',RT G t' u'->SP t t'->Q ah ah t' u'):W2 pw (binarySort' lo n ok) (binarySort' lo n ok) Q t u:=by
 refine W2.bind (W2.mono (W2.for (λ_ c d t' u'=>c=(af,())/\d=(af,())/\RT G t' u'/\SP t t') (λk c d t' u' i j I=>?_) (λc d t' u' I=>I) ⟨rfl,rfl,R,SP.refl t⟩) λc d t' u' I=>?_)
 ·obtain⟨rfl,rfl,g,S⟩:=I;have y:=S.2;refine W2.bind (W2.mono (W2.for (λ_ c d f a=>f=t'/\a=u'/\c=d/\c.1=af/\c.2.2<=k) (Q:=λc d f a=>f=t'/\a=u'/\c=d/\c.1=af) (λx c d f a v p I=>?_) (λc d f a I=>⟨I.1,I.2.1,I.2.2.1,I.2.2.2.1⟩) ⟨rfl,rfl,rfl,rfl,Al _⟩) λc d f a I=>?_)
  ·obtain⟨rfl,rfl,rfl,e,h⟩:=I;obtain⟨o,l,r⟩:=c;cases e;dsimp only at h ⊢;by_cases z:l ≥ r
   ·rw[b_ z];try rw[b_ z]
    exact W2.pur ⟨rfl,rfl,rfl,rfl⟩
   ·rw[a_ z];try rw[a_ z]
    refine W2.bind (W2.ltA g ⋯ ⋯ λb=>?_);cases b with
    |true=>exact W2.pur ⟨rfl,rfl,rfl,rfl,show(l+r) / 2<=k by omega⟩
    |false=>exact W2.pur ⟨rfl,rfl,rfl,rfl,h⟩
  ·obtain⟨rfl,rfl,rfl,e⟩:=I;obtain⟨o,_⟩:=c;cases e;exact W2.bind (W2.mov g λt3 w m s=>W2.pur ⟨rfl,rfl,m,S.trans s⟩)
 ·obtain⟨rfl,rfl,g,S⟩:=I;exact W2.pur (q _ _ g S)
end
end KG
namespace KG
open PySem PySem.W PyProof.Rows KW
variable{G:Str->Tok->Tok->Prop}
def zi(lo nrem n0:Nat):StateT Aq Sem (Option Nat):=do
 rule "list.sort.descending-run"
 let mut n:=n0+1
 let mut neq:=0
 for _ in [n:nrem] do
  let ae smaller <-ltAt' (lo+n) (lo+n-1)|return af
  if smaller then
   if neq > 0 then Ga (lo+n-(neq+1)) (lo+n)
   neq:=0
  else
   let ae larger <-ltAt' (lo+n-1) (lo+n)|return af
   if larger then break
   neq:=neq+1
  n:=n+1
 if neq > 0 then Ga (lo+n-(neq+1)) (lo+n)
 Ga lo (lo+n)
 for _ in [n:nrem] do
  let ae smaller <-ltAt' (lo+n) (lo+n-1)|return af
  if smaller then break
  n:=n+1
 return ae n
section
variable{pw:A3×Bi}{α β:Type}
theorem W2.asc{t u:Aq}(R:RT G t u){lo a nrem:Nat}(hn:lo+nrem<=(Dv t).size)(ha:1<=a)(han:a<=nrem){Q:Option (Option Nat)×Nat->Option (Option Nat)×Nat->Aq->Aq->Prop}(q:∀n,a<=n->n<=nrem->Q (af,n) (af,n) t u):
  W2 pw (Gp [a:nrem] ((af,a):Option (Option Nat)×Nat) λ_ __s=>have n:=__s.snd;do
   let __x <-ltAt' (lo+n) (lo+n-1)
   match __x with
   |some smaller=>if smaller=ah then pure (D0 (af,n))else have n:=n+1;pure (Cr (af,n))
   |_=>pure (D0 (ae af,n))) (Gp [a:nrem] ((af,a):Option (Option Nat)×Nat) λ_ __s=>have n:=__s.snd;do
   let __x <-ltAt' (lo+n) (lo+n-1)
   match __x with
   |some smaller=>if smaller=ah then pure (D0 (af,n))else have n:=n+1;pure (Cr (af,n))
   |_=>pure (D0 (ae af,n))) Q t u:=by
 refine W2.for (λx c d e f=>c=(af,x)/\d=(af,x)/\e=t/\f=u) (λx c d e f g h I=>?_) (λc d e f I=>?_) ⟨rfl,rfl,rfl,rfl⟩
 ·obtain⟨rfl,rfl,rfl,rfl⟩:=I;refine W2.bind (W2.ltA R ⋯ ⋯ λb=>?_);cases b with
  |true=>exact W2.pur (q x ⋯ ⋯)
  |false=>exact W2.pur ⟨rfl,rfl,rfl,rfl⟩
 ·obtain⟨rfl,_⟩:=I;simp_all
theorem W2.fall{t u:Aq}(R:RT G t u){lo nrem n0:Nat}(hn:lo+nrem<=(Dv t).size)(h:n0+1<=nrem){Q:Option Nat->Option Nat->Aq->Aq->Prop}(q:∀n t' u',1<=n->n<=nrem->RT G t' u'->SP t t'->Q (ae n) (ae n) t' u'):W2 pw (zi lo nrem n0) (zi lo nrem n0) Q t u:=by
 refine W2.bind (W2.rul (W2.bind (W2.mono (W2.for (λx c d t' u'=>c=d/\c.1=af/\c.2.1=x/\RT G t' u'/\SP t t') (Q:=λc d t' u'=>c=d/\c.1=af/\n0+1<=c.2.1/\c.2.1<=nrem/\RT G t' u'/\SP t t') (λx c d t' u' l s I=>?_) (λc d t' u' I=>?_) ⟨rfl,rfl,rfl,R,SP.refl t⟩) λc d t' u' I=>?_)))
 ·obtain⟨rfl,e,p,f,S⟩:=I;obtain⟨B,n,g⟩:=c;cases e;cases p;dsimp only at l s ⊢;have C:=S.2;refine W2.bind (W2.ltA f ⋯ ⋯ λb=>?_);dsimp only;cases b with
  |true=>
   try rw[b_ rfl]
   by_cases z:g > 0
   ·rw[b_ z];try rw[b_ z]
    exact W2.bind (W2.rvs f λt2 k o j=>W2.pur ⟨rfl,rfl,rfl,o,S.trans j⟩)
   ·rw[a_ z];try rw[a_ z]
    exact W2.pur ⟨rfl,rfl,rfl,f,S⟩
  |false=>
   try rw[a_ Az]
   refine W2.bind (W2.ltA f ⋯ ⋯ λb2=>?_);cases b2 with
   |true=>exact W2.pur ⟨rfl,rfl,l,show n<=nrem by omega,f,S⟩
   |false=>exact W2.pur ⟨rfl,rfl,rfl,f,S⟩
 ·obtain⟨rfl,e,p,f,S⟩:=I;exact⟨rfl,e,by simp_all⟩
 ·obtain⟨rfl,e,p,w,f,S⟩:=I;obtain⟨B,n,g⟩:=c;cases e;dsimp only at p w ⊢;have T:∀r k,RT G r k->SP t r->W2 pw (do
    Ga lo (lo+n)
    let mut n:=n
    for _ in [n:nrem] do
     let ae a <-ltAt' (lo+n) (lo+n-1)|return af
     if a then break
     n:=n+1
    return ae n) (do
    Ga lo (lo+n)
    let mut n:=n
    for _ in [n:nrem] do
     let ae a <-ltAt' (lo+n) (lo+n-1)|return af
     if a then break
     n:=n+1
    return ae n) Q r k:=by
   intro r k o j;refine W2.bind (W2.rvs o λt3 F y A=>?_);have C:=(j.trans A).2;exact W2.bind (W2.asc y ⋯ ⋯ w λm H D=>W2.pur (q m _ _ ⋯ D y (j.trans A)))
  by_cases z:g > 0
  ·rw[b_ z];try rw[b_ z]
   exact W2.bind (W2.rvs f λt2 k o j=>T _ _ o (S.trans j))
  ·rw[a_ z];try rw[a_ z]
   exact T _ _ f S
theorem W2.cnt{t u:Aq}(R:RT G t u){lo nrem:Nat}(hn:lo+nrem<=(Dv t).size)(h:1<=nrem){Q:Option Nat->Option Nat->Aq->Aq->Prop}(q:∀n t' u',1<=n->n<=nrem->RT G t' u'->SP t t'->Q (ae n) (ae n) t' u'):W2 pw (countRun' lo nrem) (countRun' lo nrem) Q t u:=by
 rw[countRun'_eq];refine W2.bind (W2.asc R hn (Al 1) h λn i j=>?_);dsimp only;by_cases z:(n==nrem)=ah
 ·rw[b_ z];try rw[b_ z]
  exact W2.pur (q n _ _ i j R (SP.refl t))
 ·rw[a_ z];try rw[a_ z]
  have o:¬n=nrem:=λy=>z (by simpa using y);by_cases a:n > 1
  ·rw[b_ a];try rw[b_ a]
   refine W2.bind (W2.ltA R ⋯ ⋯ λb=>?_);dsimp only;cases b with
   |true=>exact W2.pur (q n _ _ i j R (SP.refl t))
   |false=>
    try rw[a_ Az]
    exact W2.bind (W2.rvs R λt2 l k g=>W2.fall k (by have:=g.2;omega) ⋯ λm t' u' d c e f=>q m t' u' d c e (g.trans f))
  ·rw[a_ a];try rw[a_ a]
   exact W2.fall R hn ⋯ λm t' u' d c e f=>q m t' u' d c e f
end
end KG
namespace KG
open PySem PySem.W PyProof.Rows KW
variable{G:Str->Tok->Tok->Prop}
def gQ:List (Nat×Nat×Nat)->Nat->Nat->Prop
 |[],a,b=>a=b
 | (s,n,_)::l,a,b=>s=a/\1<=n/\gQ l (a+n) b
theorem v9:∀(l:List (Nat×Nat×Nat)){a b:Nat},gQ l a b->a+l.length<=b
 |[],a,b,h=>Nat.le_of_eq h
 | (s,n,p)::l,a,b,h=>by
  have:=v9 l h.2.2;have:=h.2.1;rw[Au];omega
theorem vm:∀(l:List (Nat×Nat×Nat)){a b n p:Nat},gQ l a b->1<=n->gQ (l++[(b,n,p)]) a (b+n)
 |[],a,b,n,p,h,c=>by cases(h);exact⟨rfl,c,rfl⟩
 | (s,m,d)::l,a,b,n,p,h,c=>⟨h.1,h.2.1,vm l h.2.2 c⟩
theorem vY(pw:Nat):∀(l:List (Nat×Nat×Nat))(i:Nat){a b:Nat},gQ l a b->gQ (l.modify i λ(st,len,_)=>(st,len,pw)) a b
 |[],i,a,b,h=>by cases i<;>exact h
 | (s,m,c)::l,0,a,b,h=>h
 | (s,m,c)::l,i+1,a,b,h=>⟨h.1,h.2.1,vY pw l i h.2.2⟩
theorem ye:∀(i:Nat)(l:List (Nat×Nat×Nat)){a b:Nat},gQ l a b->i+1 < l.length->∃sa na pa sb nb pb,l[i]?=ae (sa,na,pa)/\l[i+1]?=ae (sb,nb,pb)/\sa+na=sb/\1<=na/\1<=nb/\sb+nb<=b/\gQ ((l.set i (sa,na+nb,pa)).eraseIdx (i+1)) a b/\((l.set i (sa,na+nb,pa)).eraseIdx (i+1)).length+1=l.length
 |0,(sa,na,pa)::(sb,nb,pb)::l,a,b,h,_=>by
  obtain⟨rfl,j,rfl,r,d⟩:=h;have:=v9 _ d;exact⟨_,_,_,_,_,_,rfl,rfl,rfl,j,r,by omega,⟨rfl,by omega,by rw[<-Nat.add_assoc];exact d⟩,rfl⟩
 |i+1,(s,n,p)::l,a,b,h,c=>by
  obtain⟨sa,na,pa,sb,nb,pb,g,q,e,k,t,m,f,o⟩:=ye i l h.2.2 (Nat.lt_of_succ_lt_succ c);exact⟨sa,na,pa,sb,nb,pb,g,q,e,k,t,m,⟨h.1,h.2.1,f⟩,congrArg Nat.succ o⟩
 |0,[_],_,_,_,c=>by simp at c
 |_,[],_,_,_,c=>by simp at c
section
variable{pw:A3×Bi}{α β:Type}
theorem W2.mAtC{t u:Aq}(R:RT G t u){lo i:Nat}(C:gQ (Br t).toList 0 lo)(hl:lo<=(Dv t).size)(hi:i+1 < (Br t).size){Q:Bool->Bool->Aq->Aq->Prop}
  (q:∀t' u',RT G t' u'->gQ (Br t').toList 0 lo->(Dv t').size=(Dv t).size->(Br t').size+1=(Br t).size->Q ah ah t' u'):W2 pw (mergeAt' i) (mergeAt' i) Q t u:=by
 obtain⟨f,e,c,v,a,x,d,h,j,l,r,m,s,w⟩:=ye i _ C ⋯;rw[Bx]at d h;have b:(((Br t).setIfInBounds i (f,e+a,c)).eraseIdxIfInBounds (i+1)).toList=((Br t).toList.set i (f,e+a,c)).eraseIdx (i+1):=by simp
 refine W2.mAt R.toRS R.f1 R.f2 d h j l r (A5 m hl) λt' u' n p k g o=>q t' u' ⟨n,p,k⟩ ?_ o ?_
 ·rw[g,b];omega
 ·rw[g,<-Bo,b];omega
theorem NH{c:Prop}[Decidable c]{a n:Nat}(h:a+1 < n):(if c then a-1 else a)+1 < n:=by split<;>omega
structure UW(G:Str->Tok->Tok->Prop)(n lo:Nat)(t u:Aq):Prop where
 rt:RT G t u
 sz:(Dv t).size=n
 ch:gQ (Br t).toList 0 lo
 le:lo<=n
theorem UW.push{m lo n:Nat}{t u:Aq}(U:UW G m lo t u)(h1:1<=n)(h2:lo+n<=m):UW G m (lo+n) (Gj t ((Br t).push (lo,n,0))) (Gj u ((Br u).push (lo,n,0))):=
 ⟨⟨⟨U.rt.k1,U.rt.k2,congrArg (λp=>p.push (lo,n,0)) U.rt.pd,U.rt.gl,U.rt.ar⟩,U.rt.f1,U.rt.f2⟩,U.sz,by
  rw[Array.toList_push];exact vm _ U.ch h1,h2⟩
theorem UW.mod{m lo:Nat}{t u:Aq}(U:UW G m lo t u)(pw:Nat):UW G m lo (Gj t ((Br t).modify ((Br t).size-1) λx=>(x.fst,x.2.fst,pw))) (Gj u ((Br u).modify ((Br u).size-1) λx=>(x.fst,x.2.fst,pw))):=
 ⟨⟨⟨U.rt.k1,U.rt.k2,congrArg (λp:Array (Nat×Nat×Nat)=>p.modify (p.size-1) λx=>(x.fst,x.2.fst,pw)) U.rt.pd,U.rt.gl,U.rt.ar⟩,U.rt.f1,U.rt.f2⟩,U.sz,by
  rw[Array.toList_modify];exact vY pw _ _ U.ch,U.le⟩
abbrev RU:=Option Unit×Unit
def rnM(p:Nat)(_:Nat)(_:RU):StateT Aq Sem (ForInStep RU):=get>>=λs=>match (if (Br s).size > 1 then(Br s)[(Br s).size-2]? else af)with
 |some (_,_,o)=>if o<=p then pure (.done (af,()))else mergeAt' ((Br s).size-2)>>=λb=>if (!b)=ah then pure (.done (ae (),()))else pure (.yield (af,()))
 |_=>pure (.done (af,()))
def yt(lo n:Nat):StateT Aq Sem (ForInStep (Option Unit×Nat)):=modify (λs=>Gj s ((Br s).push (lo,n,0)))>>=λ_=>pure (.yield (af,lo+n))
def rnJ(z lo n:Nat):StateT Aq Sem (ForInStep (Option Unit×Nat)):=get>>=λs=>match (Br s).back? with
 |some (s1,n1,_)=>Gp [:z] ((af,()):RU) (rnM (power' z (2*s1+n1) (2*s1+n1+n1+n) z))>>=λr=>match r.1 with
  |some r=>pure (.done (ae r,lo))
  |none=>modify (λs=>Gj s ((Br s).modify ((Br s).size-1) λx=>(x.1,x.2.1,power' z (2*s1+n1) (2*s1+n1+n1+n) z)))>>=λ_=>yt lo n
 |_=>yt lo n
def rnB(z:Nat)(_:Nat)(c:Option Unit×Nat):StateT Aq Sem (ForInStep (Option Unit×Nat)):=if c.2 ≥ z then pure (.done (af,c.2))else countRun' c.2 (z-c.2)>>=λr=>match r with
 |some n=>if n < minRun' z z 0 then liftM (rule "list.sort.binary-insertion")>>=λ_=>binarySort' c.2 (min (z-c.2) (minRun' z z 0)) n>>=λb=>if (!b)=ah then pure (.done (ae (),c.2))else rnJ z c.2 (min (z-c.2) (minRun' z z 0))else rnJ z c.2 n
 |_=>pure (.done (ae (),c.2))
def zZ(p:Array (Nat×Nat×Nat)):Nat:=if (Option.any (λx=>decide (x < p[p.size-2+1]?.elim 0 λx=>x.2.1)) (if p.size-2 > 0 then Option.map (λx=>x.2.1) p[p.size-2-1]? else af))=ah then p.size-2-1 else p.size-2
def rnF(_:Nat)(_:RU):StateT Aq Sem (ForInStep RU):=get>>=λs=>if (Br s).size<=1 then pure (.done (af,()))else mergeAt' (zZ (Br s))>>=λb=>if (!b)=ah then pure (.done (ae (),()))else pure (.yield (af,()))
theorem yv:sortRuns'=(get>>=λs=>Gp [:(Dv s).size] ((af,0):Option Unit×Nat) (rnB (Dv s).size)>>=λr=>match r.1 with
 |some r=>pure r
 |none=>Gp [:(Dv s).size] ((af,()):RU) rnF>>=λr=>match r.1 with
  |some r=>pure r
  |none=>pure ()):=by kernel_rfl
section
variable{t u:Aq}{m lo n:Nat}
theorem W2.rnM{p j:Nat}{c d:RU}(I:c=(af,())/\d=(af,())/\UW G m lo t u):W2 pw (rnM p j c) (rnM p j d) (gj (λc d t' u'=>c=(af,())/\d=(af,())/\UW G m lo t' u') λc d t' u'=>c=(af,())/\d=(af,())/\UW G m lo t' u') t u:=by
 have e:=I.2.2;refine W2.bind (W2.getS ?_);rw[e.rt.pd];by_cases z:(Br t).size > 1
 ·rw[b_ z];cases(Br t)[(Br t).size-2]? with
  |none=>exact W2.pur ⟨rfl,rfl,e⟩
  |some b=>
   by_cases y:b.2.2<=p
   ·exact W2.ifT y (W2.pur ⟨rfl,rfl,e⟩)
   ·exact W2.ifF y (W2.bind (W2.mAtC e.rt e.ch (by rw[e.sz];exact e.le) ⋯ λt2 i g h f _=>W2.pur ⟨rfl,rfl,g,f.trans e.sz,h,e.le⟩))
 ·rw[a_ z];exact W2.pur ⟨rfl,rfl,e⟩
theorem W2.rnJ{i:Nat}(U:UW G m lo t u)(h1:1<=n)(h2:lo+n<=m)(h3:i+1<=lo+n):W2 pw (rnJ m lo n) (rnJ m lo n) (gj (λc d t' u'=>c=d/\c.1=af/\UW G m c.2 t' u'/\c.2=m) λc d t' u'=>c=d/\c.1=af/\i+1<=c.2/\UW G m c.2 t' u') t u:=by
 refine W2.bind (W2.getS ?_);rw[U.rt.pd];cases(Br t).back? with
 |none=>exact W2.bind (W2.modS (W2.pur ⟨rfl,rfl,h3,U.push h1 h2⟩))
 |some b=>
  refine W2.bind (W2.mono (W2.for (λ_ c d t' u'=>c=(af,())/\d=(af,())/\UW G m lo t' u') (λx c d t' u' _ _ I=>W2.rnM (j:=x) I) (λc d t' u' I=>I) ⟨rfl,rfl,U⟩) λc d t' u' I=>?_);obtain⟨rfl,rfl,e⟩:=I;exact W2.bind (W2.modS (W2.bind (W2.modS (W2.pur ⟨rfl,rfl,h3,(e.mod _).push h1 h2⟩))))
theorem W2.rnB{i:Nat}{c d:Option Unit×Nat}(I:c=d/\c.1=af/\i<=c.2/\UW G m c.2 t u):W2 pw (rnB m i c) (rnB m i d) (gj (λc d t' u'=>c=d/\c.1=af/\UW G m c.2 t' u'/\c.2=m) λc d t' u'=>c=d/\c.1=af/\i+1<=c.2/\UW G m c.2 t' u') t u:=by
 obtain⟨rfl,e,r,U⟩:=I;by_cases z:c.2 ≥ m
 ·exact W2.ifT z (W2.pur ⟨rfl,rfl,U,Nat.le_antisymm U.le z⟩)
 ·have s:=U.sz;refine W2.ifF z (W2.bind (W2.cnt U.rt ⋯ ⋯ λn q l p x h f=>?_));have b:UW G m c.2 q l:=⟨h,f.2.trans U.sz,by rw[f.1];exact U.ch,U.le⟩;by_cases y:n < minRun' m m 0
  ·have w:=b.sz;refine W2.ifT y (W2.bind (W2.rul (W2.bind (W2.bin h ⋯ λt3 j o g=>?_))));have k:UW G m c.2 t3 j:=⟨o,g.2.trans b.sz,by rw[g.1];exact b.ch,U.le⟩;exact W2.ifF ∎ (W2.rnJ k ⋯ ⋯ ⋯)
  ·exact W2.ifF y (W2.rnJ b p ⋯ ⋯)
theorem K9{p:Array (Nat×Nat×Nat)}(h:¬p.size<=1):zZ p+1 < p.size:=NH ⋯
theorem W2.rnF{j:Nat}{c d:RU}(I:c=(af,())/\d=(af,())/\UW G m lo t u):W2 pw (rnF j c) (rnF j d) (gj (λc d t' u'=>c=(af,())/\d=(af,())/\UW G m lo t' u') λc d t' u'=>c=(af,())/\d=(af,())/\UW G m lo t' u') t u:=by
 have a:=I.2.2;refine W2.bind (W2.getS ?_);rw[a.rt.pd];by_cases z:(Br t).size<=1
 ·exact W2.ifT z (W2.pur ⟨rfl,rfl,a⟩)
 ·exact W2.ifF z (W2.bind (W2.mAtC a.rt a.ch (by rw[a.sz];exact a.le) (K9 z) λt2 h f g e _=>W2.pur ⟨rfl,rfl,f,e.trans a.sz,g,a.le⟩))
end
theorem W2.runs{t u:Aq}(R:RT G t u)(hp:Br t=#[]){Q:Unit->Unit->Aq->Aq->Prop}(q:∀t' u',RT G t' u'->(Dv t').size=(Dv t).size->Q () () t' u'):W2 pw sortRuns' sortRuns' Q t u:=by
 rw[yv];refine W2.bind (W2.getS ?_);rw[R.ar.sz];refine W2.bind (W2.mono (W2.for (λx c d t' u'=>c=d/\c.1=af/\x<=c.2/\UW G (Dv t).size c.2 t' u') (λx c d t' u' _ _ I=>W2.rnB I) (λc d t' u' I=>?_) ⟨rfl,rfl,Al _,R,rfl,by rw[hp];rfl,A1 _⟩) λc d t' u' I=>?_)
 ·obtain⟨rfl,e,h,U⟩:=I;exact⟨rfl,e,U,by have:=U.le;omega⟩
 ·obtain⟨rfl,e,U,g⟩:=I;obtain⟨f,b⟩:=c;cases e;refine W2.bind (W2.mono (W2.for (λ_ c d t' u'=>c=(af,())/\d=(af,())/\UW G (Dv t).size b t' u') (λx c d t' u' _ _ I=>W2.rnF (j:=x) I) (λc d t' u' I=>I) ⟨rfl,rfl,U⟩) λc d t' u' I=>?_);obtain⟨rfl,rfl,a⟩:=I;exact W2.pur (q _ _ a.rt a.sz)
end
end KG
namespace KG
open PySem PySem.W PyProof.Rows KW
variable{G:Str->Tok->Tok->Prop}
def LT(G:Str->Tok->Tok->Prop)(xs ys:Array Af):Prop:=xs.size=ys.size/\∀i,i < xs.size->∃(s:Str)(t u:Tok),xs[i]?=ae (.str s t)/\ys[i]?=ae (.str s u)/\G s t u
section
variable{prog:A3}{w:Bi}
def Told(prog:A3)(w:Bi)(vs:List Af)(out:Array Af):Prop:=
 out.size=vs.length/\(vs.length < 2/\out=(pairsOf vs).map (·.2)\/2<=vs.length/\(∀(A:Bq)(E:Af->Ai->Prop)(s:Ai)(Q:SortKind->Ai->Prop),Q Dp s->A6 (A9 prog w) A (keyKind' vs.toArray) Q E s)/\∃e:Aq,Ge e=af/\out=(Dv e).map (·.2) /\
  ∀(A:Bq)(E:Af->Ai->Prop)(s:Ai)(P:Unit->Aq->Prop),P () e->wpS (A9 prog w) A E s sortRuns' P (Da Dp (pairsOf vs) #[] 7 af))
variable{A:Bq}{E:Af->Ai->Prop}{s:Ai}
theorem srt1{a:A'}{vs:List Af}{out:Array Af}(T:Told prog w vs out)(hl:vs.length<=1000){n:Nat}{P:Fin->Ai->Prop}(ho:s.heap.get? a=ae (Ck "list" vs.toArray n))
  (q:P (.done (.ret .none)) {s with heap:=sortedHeap s.heap a vs out}):A6 (A9 prog w) A (Ep.«list.sort» ⟨[.ref a],[]⟩) P E s:=by
 have g:=Aw ho;obtain⟨m,h⟩:∃m,(s.heap.update a (Dr λ_=>#[])).get? a=ae (Ck "list" #[] m):=⟨_,Fl ho _⟩;have d:(((s.heap.update a (Dr λ_=>#[])).push (Ck "tuple" vs.toArray 0)).push (Ck "list" #[] 0)).get? a=ae (Ck "list" #[] m):=by
  rw[Heap.get?_push_ne _ _ _ (by rw[size_push',Heap.size_update];exact Bf (Ea g)),Heap.get?_push_ne _ _ _ (by rw[Heap.size_update];exact Bf g),h]
 have p:=Ew;have k:vs.toArray.size=vs.length:=Bb;rw[list_sort_plain];apply Aa;apply listItems_at ho rfl;apply Aa;apply Gc ho rfl;apply Aa;apply Hb h rfl;apply Aa;apply wpAny_newTuple (hsz:=by show vs.length<=Ay;omega);apply Aa;apply wpAny_newList (hsz:=A1 _);apply Cc;rw[k];show A6 (A9 prog w) A _ P E {s with heap:=((s.heap.update a (Dr λ_=>#[])).push (Ck "tuple" vs.toArray 0)).push (Ck "list" #[] 0)};rcases T with⟨z,⟨c,rfl⟩|⟨c,l,e,j,rfl,f⟩⟩
 ·rw[b_ c];try rw[b_ c]
  apply Aa;apply Aj;dsimp only;rw[StateT.run_pure];apply Aa;apply Aj;dsimp only;apply Aa;apply Hb d rfl;apply Aa;refine Gc d rfl ?_ (hsz2:=?_)
  ·rw[bne_self_eq_false];exact Aj q
  ·exact A5 (Nat.le_of_eq z) ⋯
 ·rw[a_ (Nat.not_lt.mpr c)];try rw[a_ (Nat.not_lt.mpr c)]
  apply Aa;apply l;apply Aa;refine C9 (f A E _ (λ_ i=>i=e) rfl) ?_ λ_ _ x=>x
  rintro⟨⟨⟩,i⟩ o ⟨rfl,rfl⟩
  dsimp only;apply Aa;apply Hb d rfl;apply Aa;refine Gc d rfl ?_ (hsz2:=?_)
  ·rw[j,bne_self_eq_false];exact Aj q
  ·exact A5 (Nat.le_of_eq z) ⋯
end
end KG
namespace KG
open PySem PySem.W PyProof.Rows KW
variable{G:Str->Tok->Tok->Prop}
theorem LT.strs{vs vs':List Af}(h:LT G vs.toArray vs'.toArray):StrsAre vs (vs.map strOf)/\StrsAre vs' (vs'.map strOf):=by
 have c:=by simpa using h.1
 refine⟨strsAre_map _ λv a=>?_,strsAre_map _ λv a=>?_⟩<;>obtain⟨i,b,rfl⟩:=G5 a
 ·obtain⟨s,t,u,e,_⟩:=h.2 i ⋯;rw[Dz,Ah b]at e;exact⟨s,t,Bw e⟩
 ·obtain⟨s,t,u,_,e,_⟩:=h.2 i (by rw[Bb];omega);rw[Dz,Ah b]at e;exact⟨s,u,Bw e⟩
theorem r8(prog:A3)(w:Bi){vs vs':List Af}(h:LT G vs.toArray vs'.toArray):∃out out',LT G out out'/\Told prog w vs out/\Told prog w vs' out':=by
 have e:=by simpa using h.1
 have P:RA G (pairsOf vs) (pairsOf vs'):=⟨by rw[D7,D7,e],λi o=>by
  rw[D7]at o;obtain⟨s,t,u,f,m,g⟩:=h.2 i ⋯;refine⟨_,_,?_,?_,s,t,u,g,rfl,rfl⟩
  ·rw[<-Bx,pairsOf_toList,Fx];rw[Dz]at f;exact⟨f,f⟩
  ·rw[<-Bx,pairsOf_toList,Fx];rw[Dz]at m;exact⟨m,m⟩⟩
 have M:∀{a b:Array Bk},RA G a b->LT G (a.map (·.2)) (b.map (·.2)):=λ{a b} r=>⟨by rw[Ei,Ei,r.sz],λi o=>by
  rw[Ei]at o;obtain⟨x,y,f,m,s,t,u,g,rfl,rfl⟩:=r.get o;exact⟨s,t,u,by rw[Array.getElem?_map,f];rfl,by rw[Array.getElem?_map,m];rfl,g⟩⟩
 by_cases z:vs.length < 2
 ·exact⟨_,_,M P,⟨by rw[Ei,D7],.inl ⟨z,rfl⟩⟩,by rw[Ei,D7],.inl ⟨e▸z,rfl⟩⟩
 ·obtain⟨K,D⟩:=h.strs;obtain⟨_,_,p,n,⟨R,B⟩,I,J⟩:=W2.runs (pw:=(prog,w)) (t:=Da Dp (pairsOf vs) #[] 7 af) (u:=Da Dp (pairsOf vs') #[] 7 af) ⟨⟨rfl,rfl,rfl,rfl,P⟩,rfl,rfl⟩ rfl (Q:=λ_ _ p n=>RT G p n/\(Dv p).size=(pairsOf vs).size) λt' n R z=>⟨R,z⟩;have C:∀{l:List Af}{F:List Str},StrsAre l F->2<=l.length->keyKind' l.toArray=Pure.pure Dp
   |_::_::_,_,k,_=>keyKind_strs k
  refine⟨_,_,M R.ar,⟨?_,.inr ⟨by omega,λA E s Q q=>by rw[C K ⋯];exact Aj q,p,R.f1,rfl,I⟩⟩,?_,.inr ⟨by omega,λA E s Q q=>by rw[C D ⋯];exact Aj q,n,R.f2,rfl,J⟩⟩
  ·rw[Ei,B,D7]
  ·rw[Ei,R.ar.sz,B,D7,e]
end KG
namespace KG
open PySem PySem.W PyProof.Rows KW
theorem Q4{α:Type}{M:Model}{m:Sem α}{a b:α}{s:Ai}(c:Code)(h1:∀A:Bq,A6 M A m (λr _=>r=a) (λ_ _=>False) s)(h2:∀A:Bq,A6 M A m (λr _=>r=b) (λ_ _=>False) s):a=b:=by
 apply Classical.byContradiction;intro p
 let f:=λr=>@ite (Sem PySem.Fin) (r=a) (Classical.propDecidable _) (.pure (.done .next)) (.pure (.done .brk))
 let Γ:=Ctx.of c []
 have j:Γ.In {handled:=Γ.handled,depth:=frameCount Γ.below+Γ.code.weight,units:=Γ.units}:=by
  refine⟨rfl,Al _,?_,?_,Al _⟩<;>intro _ z<;>cases z
 have k:∀x i,(f x=.pure (.done i))->(∀A:Bq,A6 M A m (λr _=>r=x) (λ_ _=>False) s)->∃g,Reach M [] s _ c default [] g (.ret _):=λx i e h=>by
  have w:Sem.wp M Γ (m.bind f) (Sem.finPost M Γ λr _=>r=.ok i) (λe _ _=>(Except.error e:Result)=.ok i) default s:=by
   rw[Sem.wp_bind];refine Sem.wp_mono M Γ m (λy v g q=>?_) (λ_ _ _ q=>q.elim) _ _ (h _ Γ default j);cases(q);rw[e];rfl
  obtain⟨r,g,o,rfl⟩:=(Sem.wp_iff_runs ..).mp w;exact⟨g,runs_iff_reach.mp o⟩
 obtain⟨t,n⟩:=k a .next (b_ rfl) h1
 obtain⟨u,l⟩:=k b .brk (a_ λz=>p z.symm) h2;exact nomatch (Reach.det n l).2
variable{prog:A3}{w:Bi}
theorem Told.once{vs:List Af}{o o':Array Af}(h:Told prog w vs o)(h':Told prog w vs o'):o=o':=by
 rcases h with⟨z,⟨t,rfl⟩|⟨t,D,e,v,rfl,c⟩⟩<;>rcases h' with⟨y,⟨l,rfl⟩|⟨l,u,C,p,rfl,f⟩⟩
 ·rfl
 ·omega
 ·omega
 ·have g:∀{e:Aq},(∀A E s P,P () e->wpS _ A E s sortRuns' P _)->∀A:Bq,A6 (A9 prog w) A (sortRuns'.run (Da Dp (pairsOf vs) #[] 7 af)) (λr _=>r=((),e)) _ {}:=λ{e} c A=>
   C9 (c A (λ_ _=>False) {} (λ_ x=>x=e) rfl) (λr B q=>by obtain⟨⟨⟩,x⟩:=r;exact congrArg _ q.2) λ_ _ x=>x
  have:=Q4 default (g c) (g f);simp_all
def SR(prog:A3)(w:Bi)(ks ys:List Str):Prop:=∃(vs:List Af)(out:Array Af),L2.TxOk vs ks/\L2.TxOk out.toList ys/\Told prog w vs out
theorem wY{vs vs':List Af}{ks:List Str}(h:L2.TxOk vs ks)(h':L2.TxOk vs' ks):LT (λ_ _ _=>True) vs.toArray vs'.toArray:=⟨by rw[Bb,Bb,h.1,h'.1],λi d=>by
 have a:i < vs'.length:=by rw[h'.1,<-h.1];omega
 obtain⟨k,t,e,g⟩:=h.2 i _ (Ah d);obtain⟨j,f,b,c⟩:=h'.2 i _ (Ah a);rw[e]at b;cases b;exact⟨k,t,f,by rw[Dz,Ah d,g],by rw[Dz,Ah a,c],trivial⟩⟩
theorem SR.once{ks ys ys':List Str}(h:SR prog w ks ys)(h':SR prog w ks ys'):ys=ys':=by
 obtain⟨v,a,p,c,f⟩:=h;obtain⟨g,d,e,b,n⟩:=h';obtain⟨o,x,L,T,l⟩:=r8 prog w (wY p e);obtain rfl:=f.once T;obtain rfl:=n.once l;apply List.ext_getElem?;intro i;by_cases z:i < a.size
 ·obtain⟨s,t,u,r,y,_⟩:=L.2 i z;obtain⟨k,_⟩:=c.2 i _ (by rw[Bx];omega);obtain⟨q,_,m,j⟩:=b.2 i _ (by rw[Bx];omega);simp_all
 ·rw[Cf,Cf]
  ·rw[<-b.1,Bo,<-L.1];omega
  ·rw[<-c.1,Bo];omega
theorem SR.ex{vs:List Af}{ks:List Str}(h:L2.TxOk vs ks):∃out ys,Told prog w vs out/\L2.TxOk out.toList ys/\SR prog w ks ys/\ys.length=ks.length:=by
 obtain⟨o,f,L,T,e⟩:=r8 prog w (wY h h);have x:L2.TxOk o.toList (o.toList.map strOf):=⟨by rw[Ab],λj v a=>by
  have d:=by
   have:=(Ar.mp a).1;omega
  obtain⟨s,t,u,c,_⟩:=L.2 j d;rw[Bx]at a;rw[a]at c;cases c;exact⟨s,t,by rw[Am,Bx,a];rfl,rfl⟩⟩
 exact⟨o,_,T,x,⟨vs,o,h,x,T⟩,by rw[Ab,Bo,T.1,h.1]⟩
theorem SR.mem{ks ys:List Str}{P:Str->Prop}(h:SR prog w ks ys)(hP:∀k∈ks,P k):∀y∈ys,P y:=λy m=>by
 obtain⟨b,a,r,d,l⟩:=h;have n:LT (λs _ _=>P s) b.toArray b.toArray:=⟨rfl,λi f=>by
  obtain⟨k,t,e,q⟩:=r.2 i _ (Ah f);have c:b.toArray[i]?=ae (.str k t):=by rw[Dz,Ah f,q]
  exact⟨k,t,t,c,c,hP k (A0 e)⟩⟩
 obtain⟨o,A,L,T,C⟩:=r8 prog w n;obtain rfl:=l.once T;obtain⟨j,z,rfl⟩:=G5 m;have p:j < a.size:=by rw[<-Bo,d.1];omega
 obtain⟨s,t,u,e,_,g⟩:=L.2 j p;obtain⟨k,_,B,v⟩:=d.2 j _ (by rw[Bx];omega);simp_all
end KG
namespace KG
open PySem PySem.W PyProof.Rows KW
section
variable{prog:A3}{w:Bi}{A:Bq}{E:Af->Ai->Prop}{s:Ai}
theorem Ic{st:Aq}{n:Nat}{k:Nat->Int}{Q:Option Nat->Aq->Prop}(hk:kindOf st=Dp)(hI:∀i,i < n->∃t q,(Dv st)[i]?=ae (.int (k i) t,q))(up:∀i,1<=i->i < n->k (i-1)<=k i)(h1:1<=n)(h:Q (ae n) st):wpS (A9 prog w) A E s (countRun' 0 n) Q st:=by
 refine Dd (wpS_mono (Gw (Q:=λc a=>st=a/\c=(af,n)) (λi c a=>st=a/\c=(af,i)) (λi c a h1 b I=>?_) (λc a I=>?_) ⟨rfl,rfl⟩) λc a I=>?_)
 ·obtain⟨rfl,rfl⟩:=I;obtain⟨t,q,e⟩:=hI i b;obtain⟨f,d,g⟩:=hI (i-1) ⋯;refine Dd (wpS_ltAt hk (by rw[Nat.zero_add];exact e) (by rw[Nat.zero_add];omega) ?_);dsimp only;rw[d_ (by have:=up i h1 b;omega)];exact Dm ⟨rfl,rfl⟩
 ·obtain⟨rfl,rfl⟩:=I;exact⟨rfl,by rw[show max 1 n=n by omega]⟩
 ·obtain⟨rfl,rfl⟩:=I;dsimp only;rw[b_ (by simp)];exact Dm h
theorem MP{st:Aq}{lo m n:Nat}{Q:Bool->Aq->Prop}(hm:m=n)(h1:1<=n)(h:Q ah st):wpS (A9 prog w) A E s (binarySort' lo m n) Q st:=by
 rw[hm];refine Dd (wpS_mono (Gw (λk c a=>st=a/\c=(af,())) (λk c a h1 b I=>?_) (λc a I=>I) ⟨rfl,rfl⟩) λc a I=>?_)
 ·omega
 ·obtain⟨rfl,rfl⟩:=I;exact Dm h
theorem Jz{a:Array Bk}{n:Nat}{Q:ForInStep (Option Unit×Nat)->Aq->Prop}(h:Q (.yield (af,0+n)) (Da Dp a #[(0,n,0)] 7 af)):wpS (A9 prog w) A E s (rnJ a.size 0 n) Q (Da Dp a #[] 7 af):=Dd (wpS_get (Dd (wpS_modify (Dm h))))
theorem HB{a:Array Bk}{k:Nat->Int}{Q:Unit->Aq->Prop}(hI:∀i,i < a.size->∃t q,a[i]?=ae (.int (k i) t,q))(up:∀i,1<=i->i < a.size->k (i-1)<=k i)(h1:1<=a.size)(h:Q () (Da Dp a #[(0,a.size,0)] 7 af)):wpS (A9 prog w) A E s sortRuns' Q (Da Dp a #[] 7 af):=by
 rw[yv];refine Dd (wpS_get (Dd (wpS_mono (Gw (b:=a.size) (Q:=λc d=>c=(af,a.size)/\d=Da Dp a #[(0,a.size,0)] 7 af) (λx c d=>(x=0/\c=(af,0)/\d=Da Dp a #[] 7 af)\/(1<=x/\c=(af,a.size)/\d=Da Dp a #[(0,a.size,0)] 7 af)) (λx c d l o I=>?_) (λc d I=>?_) (.inl ⟨rfl,rfl,rfl⟩)) λc d I=>?_)))
 ·rcases I with⟨rfl,rfl,rfl⟩|⟨m,rfl,rfl⟩
  ·show wpS _ A E s (rnB a.size 0 _) _ _;unfold rnB;rw[a_ ⋯];refine Dd (Ic rfl hI up h1 ?_);have f:∀n,n=a.size->wpS (A9 prog w) A E s (rnJ a.size 0 n) (λr d=>match r with
     |.done g=>g=(af,a.size)/\d=Da Dp a #[(0,a.size,0)] 7 af
     |.yield g=>(0+1=0/\g=(af,0)/\d=Da Dp a #[] 7 af)\/(1<=0+1/\g=(af,a.size)/\d=Da Dp a #[(0,a.size,0)] 7 af)) (Da Dp a #[] 7 af):=λn j=>by
    subst j;exact Jz (.inr ⟨Al _,by simp⟩)
   by_cases z:a.size-0 < minRun' a.size a.size 0
   ·dsimp only;rw[b_ z];refine Dd (wpS_lift (Fh ⟨rfl,Dd (MP (show min _ _=a.size by omega) h1 ?_)⟩));exact f _ ⋯
   ·dsimp only;rw[a_ z];exact f _ rfl
  ·show wpS _ A E s _ _ _;unfold rnB;rw[b_ (Al _)];exact Dm ⟨rfl,rfl⟩
 ·rcases I with⟨h,_⟩|⟨_,rfl,rfl⟩
  ·omega
  ·exact⟨rfl,rfl⟩
 ·obtain⟨rfl,rfl⟩:=I;refine Dd (wpS_mono (Gw (λk c d=>d=Da Dp a #[(0,a.size,0)] 7 af/\c=(af,())) (λk c d h1 p I=>?_) (λc d I=>I) ⟨rfl,rfl⟩) λc d I=>?_)
  ·obtain⟨rfl,rfl⟩:=I;exact Dd (wpS_get (Dm ⟨rfl,rfl⟩))
  ·obtain⟨rfl,rfl⟩:=I;exact Dm h
theorem told_up{vs:List Af}{k:Nat->Int}(hI:∀i,i < vs.length->∃t,vs[i]?=ae (.int (k i) t))(up:∀i,1<=i->i < vs.length->k (i-1)<=k i):Told prog w vs vs.toArray:=by
 have g:(pairsOf vs).map (·.2)=vs.toArray:=by
  apply Array.ext (by rw[Ei,D7,Bb]);intro i c l;simp[pairsOf]
 refine⟨Bb,?_⟩;by_cases z:vs.length < 2
 ·exact .inl ⟨z,g.symm⟩
 ·refine .inr ⟨by omega,λA E s Q q=>kas_kind (T:=Er "int") ⋯ (λf h=>?_) rfl rfl q,_,rfl,g.symm,λA E s P p=>HB (λi b=>?_) (λi c b=>up i c (by rw[D7]at b;omega)) (by rw[D7];omega) p⟩
  ·obtain⟨j,d⟩:=B1.mp h;obtain⟨t,e⟩:=hI j (Ar.mp d).1;rw[d]at e;cases e;exact .now
  ·rw[D7]at b;obtain⟨t,e⟩:=hI i b;refine⟨t,.int (k i) t,?_⟩;rw[<-Bx,pairsOf_toList,Fx];exact⟨e,e⟩
end
theorem sortedH{h:Heap}{a:A'}{vs:List Af}{n:Nat}(out:Array Af)(ho:h.get? a=ae (Ck "list" vs.toArray n)):(∃c,(sortedHeap h a vs out).get? a=ae (Ck "list" out c))/\∀b o,b≠a->h.get? b=ae o->(sortedHeap h a vs out).get? b=ae o:=by
 obtain⟨e,d⟩:∃e,(h.update a _).get? a=ae (Ck "list" #[] e):=⟨_,Fl ho λ_=>#[]⟩;have f:(((h.update a _).push (Ck "tuple" vs.toArray 0)).push (Ck "list" #[] 0)).get? a=ae (Ck "list" #[] e):=Ae _ (Ae _ d);exact⟨⟨_,Fl f λ_=>out⟩,λb o g q=>((Bg (((h.update a (Dr λ_=>(#[]:Array Af))).push (Ck "tuple" vs.toArray 0)).push (Ck "list" #[] 0)) a (Dr λ_=>out)).2 b g).trans (Ae _ (Ae _ (((Bg h a (Dr λ_=>(#[]:Array Af))).2 b g).trans q)))⟩
end KG
namespace L2
open PySem PySem.Spec PyProof.Rows PySem.W
theorem rr:∀{vs:List Af}{ks:List Str},TxOk vs ks->Vals (ks.map V.str) vs
 |[],[],_=>.nil
 |[],_::_,h=>g_ h.1 (by simp)
 |_::_,[],h=>g_ h.1 (by simp)
 |v::vs,k::ks,h=>by
  obtain⟨c,t,e,a⟩:=h.2 0 v rfl;cases e;exact .cons ⟨t,a⟩ (rr ⟨by simpa using h.1,λj v b=>h.2 (j+1) v b⟩)
theorem se{X:Cx}{i_:List (A'×Obj)}{σ:St}{H:Hp}{s:Ai}{h':Heap}{tk:Nat}{vs:List Af}{out:Array Af}{zs:List V}{Q:VK}(I:Inv X i_ σ H s)(hkp:∀b o,s.heap.get? b=ae o->h'.get? b=ae o)(T:KG.Told X.prog X.w vs out)(hl:vs.length<=1000)(hz:Vals zs out.toList)
  (q:∀D:A',H D=af->Q (.ref D) (upd H D (.lst zs))):
  vs.length<=Ay/\A6 (A9 X.prog X.w) X.A.in1.in1 (Ep.«list.sort» ⟨[.ref h'.objs.size],[]⟩) (λf s2=>f=.done (.ret .none)/\EP X i_ σ Q (.ref h'.objs.size) s2) X.xe {s with heap:=h'.push (Ck "list" vs.toArray 0),toks:=tk}:=by
 have a:(h'.push _).get? h'.objs.size=ae (Ck "list" vs.toArray 0):=Ax _ rfl;have d:Inv X i_ σ H {s with heap:=h',toks:=tk}:=I.kept hkp;obtain⟨⟨c,h⟩,g⟩:=KG.sortedH out a;refine⟨dD hl,KG.srt1 T hl a ⟨rfl,⟨.ref h'.objs.size,_,d.laid (o:=.lst zs) (λb o e=>g b o (Bf (Aw e)) (Ae _ e)) (Al _) ⟨?_,out.toList,c,hz,by rw[h]⟩,rfl,q _ (d.hok.fresh (Al _))⟩⟩⟩;have:=hz.length;rw[this,Bo,T.1];exact dD hl
def vN(P:A3)(w:Bi):List V->Hp->VK->Prop:=λxs H Q=>∃(v:A')(ks:List Str),xs=[.ref v]/\H v=ae (.lst (ks.map V.str))/\ks.length<=1000 /\
 ∀(D:A')(ys:List Str),KG.SR P w ks ys->ys.length=ks.length->H D=af->Q (.ref D) (upd H D (.lst (ys.map V.str)))
theorem P0{X:Cx}(hh:X.A.handled=af):CallR X (.builtin "sorted") (vN X.prog X.w):=by
 intro f s σ H G J Q I r h;obtain⟨v,K,rfl,F,L,q⟩:=h;obtain⟨u,rfl,m⟩:=eL r;cases(m);obtain⟨z,c,n,B,l,e⟩:=I.lstM F;obtain⟨k,E,T,x,S,y⟩:=KG.SR.ex (AG B);refine KS.sorted_of (R:=λvs g=>vs=c/\∃a d,g={ s with heap:=a,toks:=d}/\∀b o,s.heap.get? b=ae o->a.get? b=ae o) ?_ ?_
 ·refine collect_list (⟨_,e,rfl,_,rfl⟩) ⟨rfl,_,_,rfl,λb o i=>?_⟩ (by simp_all);rw[C6 _ _ (Ne.symm (Bf (Aw i)))];exact Ae _ i
 ·rintro vs g ⟨rfl,a,d,rfl,C⟩
  exact se (s:=s) I C T (by simp_all) (rr x) λD t=>q D E S y t
def vE(P:A3)(w:Bi):List V->Hp->VK->Prop:=λxs H Q=>∃(d:A')(l:List (aC×V))(ks:List Str),xs=[.ref d]/\H d=ae (.dK l)/\l.map (·.1)=ks.map (Dc:Str->aC)/\ks.length<=1000 /\
 ∀(D:A')(ys:List Str),KG.SR P w ks ys->ys.length=ks.length->H D=af->Q (.ref D) (upd H D (.lst (ys.map V.str)))
theorem Qz{X:Cx}(hh:X.A.handled=af):CallR X (.builtin "sorted") (vE X.prog X.w):=by
 intro M s σ H xs us Q I r h;obtain⟨d,l,V,rfl,hd,hk,hl,q⟩:=h;obtain⟨u,rfl,ru⟩:=eL r;cases(ru);obtain⟨z,m,J,B,g⟩:=I.hok d _ hd;obtain⟨ep,G⟩:=g.dictAt;have c:=(zI B).trans hk;have f:=by have:=congrArg Dx c;simpa using this
 refine KS.sorted_of (R:=λvs O=>∃(h':Heap)(n:Nat),O={ s with heap:=h',toks:=n}/\(∀b o,s.heap.get? b=ae o->h'.get? b=ae o)/\TxOk vs V)
  (kdu_collect (kdl_dict m) hh G (by rw[f];exact dD ⋯) λh' n j_ F P=>⟨h',n,rfl,F,?_⟩) ?_
 ·refine⟨by rw[Bo,P.1,f],λj v hj=>?_⟩;obtain⟨k,x,e1,e2⟩:=P.2 j v (by simp_all);have a:(J.map (·.1))[j]?=ae k:=by rw[Am,e1];rfl
  rw[c,Am]at a;cases W:V[j]? with
  |none=>rw[W]at a;cases a
  |some L=>
   rw[W]at a;have E:=Bw a;subst E;rcases fZ (show iJ (Dc L) v=ah from e2)with⟨i,t,z,_⟩|⟨y,t,z,rfl⟩
   ·cases z
   ·cases z;exact⟨L,t,rfl,rfl⟩
 rintro vs O ⟨h',n,rfl,K,N⟩
 obtain⟨Y,ys,T,x,S,hy⟩:=KG.SR.ex N;exact se (s:=s) I K T (by rw[N.1];omega) (rr x) λD hD=>q D ys S hy hD
def BQ:List V->Hp->VK->Prop:=λxs H Q=>∃(v:A')(ks:List Int),xs=[.ref v]/\H v=ae (.lst (ks.map V.int))/\ks.length<=1000/\ks.Pairwise (·<=·) /\
 ∀D:A',H D=af->Q (.ref D) (upd H D (.lst (ks.map V.int)))
theorem CD:∀{ks:List Int}{vs:List Af},Vals (ks.map V.int) vs->vs.length=ks.length/\∀i,i < vs.length->∃t,vs[i]?=ae (.int (ks.getD i 0) t)
 |[],_,h=>by cases h;exact⟨rfl,λi a=>g_ a (Nat.not_lt_zero _)⟩
 |k::ks,_,h=>by
  cases h with
  |cons r t=>
   obtain⟨l,p⟩:=CD t;obtain⟨b,rfl⟩:=(r);refine⟨by rw[Au,Au,l],λi a=>?_⟩;cases i with
   |zero=>exact⟨b,rfl⟩
   |succ i=>exact p i (by simpa using a)
theorem N6{X:Cx}:CallR X (.builtin "sorted") BQ:=by
 intro g s σ H E F Q I r h;obtain⟨v,p,rfl,C,J,w,q⟩:=h;obtain⟨u,rfl,x⟩:=eL r;cases(x);obtain⟨z,d,n,A,t,e⟩:=I.lstM C;obtain⟨l,a⟩:=CD A;refine KS.sorted_of (R:=λvs j=>vs=d/\∃c f,j={ s with heap:=c,toks:=f}/\∀b o,s.heap.get? b=ae o->c.get? b=ae o) ?_ ?_
 ·refine collect_list (⟨_,e,rfl,_,rfl⟩) ⟨rfl,_,_,rfl,λb o k=>?_⟩ (by simp_all);rw[C6 _ _ (Ne.symm (Bf (Aw k)))];exact Ae _ k
 ·rintro vs j ⟨rfl,c,f,rfl,B⟩
  refine se (s:=s) I B (KG.told_up a λi D G=>?_) ⋯ ⋯ q;have:=Hk.mp w (i-1) i ⋯ ⋯ ⋯;simpa[show i-1 < p.length by omega,show i < p.length by omega]using this
end L2
namespace DL
open PySem L2 Nb
section
variable{X:Cx}{a b o:Expr}{ta tb td:TE}{wa wb wd':DT}{pos pos1 pos2 p p2:Pos}{K:Ag}
theorem xQ{H:Hp}{B:A'->Prop}:∀{ks:List Int}{xs:List V},RdXs H B xs (ks.map .int)->xs=ks.map V.int
 |[],_,.nil=>rfl
 |k::ks,_,.cons b a=>by
  cases b;rw[xQ a];rfl
theorem vG{H:Hp}{B:A'->Prop}:∀(ks:List Int),RdXs H B (ks.map V.int) (ks.map .int)
 |[]=>.nil
 |k::ks=>.cons (.int k) (vG ks)
def xf(w:DT):dO:=λδ n Q=>w δ n λx n1=>∃ks:List Int,x=.d (.list (ks.map .int))/\ks.length<=1000/\ks.Pairwise (·<=·)/\Q (ks.map .int) n1
theorem MD(hg:Gl X "sorted")(hm:X.mg "sorted"=af)(ho:DE X o td wd')(hv:Bz "sorted"=ae (.builtin "sorted"):=by decide +kernel)
  (he':As [o] X.env=(ai,eval o X.env)::As [] X.env:=by rfl) (q_:(Cw pos (As [] X.env)).any (·.1)=ai:=by rfl):
  DF X (.Call (.Name "sorted" p) [o] [] pos) (d3 BQ (br td aX)) (xf wd'):=by
 refine⟨gp N6 hg hm hv (b3 ho.pe dm he') ∎ ∎ he' q_,λC H B σ δ n Q z R q k=>ho.sd C H B σ δ n _ _ R q λv x j g c e s m=>?_⟩;obtain⟨t,rfl,f,l,h⟩:=m;cases(show RdX j B v (.list _)from s)with
 |@lst a y _ d A w i=>
  rw[xQ i]at d;exact⟨a,t,rfl,d,f,l,λD b=>k D _ _ _ g (c.new b) (e.trans (Kp.new b)) (c.was e b) a9 (by rw[Ab];exact dD f) (vG _) h⟩
theorem u6{H:Hp}:∀(ys:List Str),RdAll K H (ys.map V.str) (ys.map .str)
 |[]=>.nil
 |y::ys=>.cons (.str y) (u6 ys)
theorem CO:∀{ys:List Str},(∀y∈ys,Ec y=ah)->Cp (ys.map .str)=ah
 |[],_=>rfl
 |y::ys,h=>by
  rw[Bn,Cp,Bj];exact⟨h y Ap,CO λz a=>h z (Ak _ a)⟩
theorem yL:∀(ys:List Str),F3 (ys.map .str)<=1
 |[]=>A1 _
 |y::ys=>Nat.max_le.mpr ⟨A1 _,yL ys⟩
theorem vf:∀(ys:List Str),Fb (ys.map .str) (ys.map .str)=ah
 |[]=>rfl
 |y::ys=>by
  rw[Bn,Fb,vf ys];simp[C0]
def mC(wa wb:DT):bZ:=λδ n Q=>wa δ n λx n1=>∃ks:List Str,x=.d (.list (ks.map .str))/\ks.length<=1000/\(∀k∈ks,Ec k=ah)/\wb δ n1 λy n2=>∃kvs:List (aC×Ad),y=.dk kvs/\kvs.map (·.1)=ks.map (Dc:Str->aC)/\Q ai n2
theorem RdK.keys{H:Hp}{B:A'->Prop}{l:List (aC×V)}{m:List (aC×Ad)}(h:RdK H B l m):l.map (·.1)=m.map (·.1):=by
 induction h with
 |nil=>rfl
 |cons r _ a=>rw[Bn,Bn,a,r.1]
theorem Lf(hh:X.A.handled=af)(hu:X.A.units+64 < De)(hg:Gl X "sorted")(hm:X.mg "sorted"=af)(ha:DE X a ta wa)(hb:DE X b tb wb)(hK:X.K=K:=by rfl)(hv:Bz "sorted"=ae (.builtin "sorted"):=by decide +kernel)
  (he:As [a] X.env=(ai,eval a X.env)::As [] X.env:=by rfl) (q_:(Cw pos1 (As [] X.env)).any (·.1)=ai:=by rfl) (he2:As [b] X.env=(ai,eval b X.env)::As [] X.env:=by rfl) (hpl2:(Cw pos2 (As [] X.env)).any (·.1)=ai:=by rfl):
  DC X (.Compare (.Call (.Name "sorted" p) [a] [] pos1) [.NotEq] [.Call (.Name "sorted" p2) [b] [] pos2] pos) (fN (cY (n6 K λd e=>ae (!C0 d e)) (d3 (vN X.prog X.w) (br ta aX)) (d3 (vE X.prog X.w) (br tb aX)))) (mC wa wb):=by
 subst hK;refine⟨jc (Lw hu) (gp (P0 hh) hg hm hv (b3 ha.pe dm he) ∎ ∎ he q_) (gp (Qz hh) hg hm hv (b3 hb.pe dm he2) ∎ ∎ he2 hpl2) (jk _),λC H B σ δ n Q Q' R q k=>ha.sd C H B σ δ n _ _ R q λv x Y T j k1 r1 i=>?_⟩;obtain⟨E,rfl,F,J,i⟩:=i;cases(show RdX Y B v (.list _)from r1)with
 |@lst a1 xs _ o e2 e3 W=>
 rw[oY W]at o;refine⟨a1,E,rfl,o,F,λD f S hy r=>hb.sd C _ B σ δ T _ _ (j.new r) i λu y H3 Z O G r3 g=>?_⟩;obtain⟨L,rfl,hk,g⟩:=g;obtain⟨U,l,rfl,N,g2,g3⟩:=r3;refine⟨U,l,E,rfl,N,g3.keys.trans hk,F,λD' I P hy' c=>?_⟩;cases S.once P;have h:D≠C.t:=λz=>by have:=j.tp.ob;simp_all
 have f1:=G _ _ a9 h;have M:upd H3 D' (.lst (f.map V.str)) D=ae (.lst (f.map V.str)):=by rw[aG (bu f1 c)];omega
 have m:C1 (.list (f.map .str))=ah:=CO (S.mem J);have s:E3 (.list (f.map .str))<=20:=by rw[E3];have:=yL f;omega
 refine⟨_,_,_,.lst (SqL.of M) (u6 f),.lst (SqL.of a9) (u6 f),m,m,s,s,?_,_,rfl,k ai _ Z (O.new c) ?_ g⟩
 ·show ae _=ae ai;rw[C0,vf];rfl
 ·exact(k1.trans (Kp.new r)).trans (G.trans (Kp.new c))
end
theorem Rel.drop{C:Ctx}{H:Hp}{B:A'->Prop}{σ:St}{δ:Sl}{n:Int}{i:Nat}{v:Option V}(R:Rel C H B σ δ n):Rel C H B (σ.set i v) (δ.set i af) n:=by
 have g:∀{j:Nat}{x:SV},(δ.set i af)[j]?=ae (ae x)->δ[j]?=ae _/\(σ.set i v)[j]?=σ[j]?:=λ{j x} e=>by
  by_cases z:i=j
  ·subst z;rw[Cz]at e;simp_all
  ·rw[Bh z]at e;exact⟨e,Bh z⟩
 have r:∀(j:Nat) x,(δ.set i af)[j]?=ae _->∃u,(σ.set i v)[j]?=ae _/\SRel C.H0 H B C.t u x:=λj x e=>by
  obtain⟨b,a⟩:=g e;rw[a];exact R.sl j x b
 have s:∀j k (x y:SV) u,(δ.set i af)[j]?=ae _->(δ.set i af)[k]?=ae _->x.isOwn=ah->y.isOwn=ah->(σ.set i v)[j]?=ae _->(σ.set i v)[k]?=ae _->j=k:=λj k x y u b a m f d c=>by
  obtain⟨p,h⟩:=g b;obtain⟨q,l⟩:=g a;rw[h]at d;rw[l]at c;exact R.ow j k x y u p q m f d c
 exact⟨R.tp,R.kp,R.t0,R.l0,R.g0,R.fz,R.bt,R.b0,R.ba,R.a0,r,s,by rw[Cb,Cb];exact R.len⟩
def mn(i:Nat)(Sn:cU)(Sr:aP)(w1 w2:cG):aF:=λδ n K=>i < δ.length/\w1 δ n λxs n1=>Sn xs n1 λds n2=>w2 (δ.set i (↑(.list ds))) n2 λys n3=>Sr ys n3 λb n4=>b=.d (.bool ah)/\K.nx (δ.set i af) n4
section
variable{X:Cx}{e e2:Expr}{es es2:List Expr}{p p' p'' p2 pos pos2 pos3 cp cp2 up rp bp xp ap ccp:Pos}{tR tR2:TA}{wR wR2:cG}{Sn:cU}{Sr:aP}{f g x:Str}{k k2 k' i jb:Nat}{ps ps2:List Str}{aA:List Stmt}{Tr:TS}{Wr:aF}
abbrev qT(K:Ag)(i:Nat)(Sn:cU)(Sr:aP)(tR tR2:TA)(Tr:TS):TS:=dI (bw (eu (jO Sn) [] E0 tR) (c8 i)) (dI (gS (kb (tB (eu (dA Sr) [] E0 tR2))) (fE (tC (.bl ai))) ni) (dI (nY (kA K "list" CG (aI i))) Tr))
theorem JW(hn:HasN X.prog X.w X.K X.mg X.base k f ps Sn)(hq:Has X.prog X.w X.K X.mg X.base k2 g ps2 Sr)(hr:Room k' X.A)(h1:DA X (e::es) tR wR)(h2:DA X (e2::es2) tR2 wR2)(h3:DSs X aA Tr Wr)(hk:k<=k')(hk2:k2<=k')(hg:Gl X f)(hg2:Gl X g)(hN:X.N.Nodup)(hi:X.N[i]?=ae x)(hx:fA X.env.scope x)
  (hs:Cy (.Call (.Name f p) (e::es) [] cp) (ae (.Name x p')) pos.line X.env=pure ai) (hf:X.fn x=ah\/X.env.scope.names.lookup x=ae .local) (hdb:(f==("__debug__":Str))=ai) (he:As (e::es) X.env=(ai,eval e X.env)::As es X.env) (q_:(Cw cp (As es X.env)).any (·.1)=ai)
  (hdb2:(g==("__debug__":Str))=ai) (he2:As (e2::es2) X.env=(ai,eval e2 X.env)::As es2 X.env) (hpl2:(Cw cp2 (As es2 X.env)).any (·.1)=ai)
  (hv:dU X.env.scope x) (hd:(x==("__debug__":Str))=ai) (r_:(x==("__classdict__":Str))=ai)
  (hit:∀(whole:Sem Af),PySem.isTrue (.Call (.Name g p2) (e2::es2) [] cp2) X.env whole=(do
      let v <-whole
      standAt (Expr.Call (.Name g p2) (e2::es2) [] cp2).pos
      holding [v] (truthy v)))
  (hbase:G7 (.Name x xp) "clear" X.env (eval (.Name x xp) X.env)=eval (.Name x xp) X.env) (hline:(ap.endLine==ccp.line)=ah)
  (hsw:Cy (.Call (.Attribute (.Name x xp) "clear" ap) [] [] ccp) af pos3.line X.env=pure ai):
  DSs X (.Assign [.Name x p'] (.Call (.Name f p) (e::es) [] cp) pos::.If (.UnaryOp .Not (.Call (.Name g p2) (e2::es2) [] cp2) up) [.Return (ae (.Constant (.bool ai) jb bp)) rp] [] pos2::.Expr (.Call (.Attribute (.Name x xp) "clear" ap) [] [] ccp) pos3::aA) (qT X.K i Sn Sr tR tR2 Tr) (aq (mn i Sn Sr wR wR2) Wr):=by
 obtain⟨a1,d1,f1,f2,f3,f4⟩:=hn.ex;obtain⟨a2,d2,g1,g2,g3,g4⟩:=hq.ex;refine⟨fg (fG hN hi hx (jg f1 (hr.mono hk) hg f3 f4 f2 .nil ju h1.pa hdb he q_) hs hf) (fg (m8 (xW (CC (jg g1 (hr.mono hk2) hg2 g3 g4 g2 .nil ju h2.pa hdb2 he2 hpl2) hit)) (ku (i0 zb)) mh) (fg (qX (DV Hl PySem.F.slot_list_clear PySem.F.type_list_clear JQ (eY hi hv hd r_) hbase hline) hsw) h3.ps)),λC H B σ δ n K D R q E=>?_⟩;obtain⟨hil,q⟩:=q;refine h1.sd C H B σ δ n _ _ R q λvs xs H1 n1 c k1 r1 q1=>⟨C.t,C.l,_,B,xs,n1,_,c.tp,c.bt,c.ba,(by rw[Bu];omega),q1,λds O q2 m xl G T2 j a S l3 l4=>?_⟩;have Q:=λz=>c.ba m z a;have V:RdX G B _ (.list ds):=.lst S Q l3 (l4.less λb z=>.inl z);have R2:Rel C G B _ (δ.set i (↑_)) O:=(c.step T2 j).set V rfl;refine h2.sd C G B _ _ O _ _ R2 q2 λvs2 ys H3 Y I P r3 q3=>⟨C.t,C.l,_,B,ys,Y,_,I.tp,I.bt,I.ba,by rw[Bu];exact r3,q3,λw4 n4 y v4 u Z M r4=>?_⟩;obtain⟨rfl,y⟩:=y;cases(show RdX u B v4 (.bool ah)from r4);have h:m≠C.t:=λz=>Q (z▸c.bt);have T:=M _ _ (P _ _ S h) h;have r:i < σ.length:=by rw[R.len];omega
 refine⟨_,rfl,⟨_,Dq r,?_⟩⟩;refine⟨.inl ⟨rfl,_,SqL.of T⟩,m,xl,rfl,rfl,T,?_⟩;have T5:Tp (upd u m (.lst [])) C.t C.l C.ns n4:=Z.other (λz=>h z.symm) (bu c.tp.ls a) λz=>bu (c.tp.ag z) a;have k5:Kp C.t H1 (upd u m (.lst [])):=λb o U s=>by
  rw[aG (bu U a)];exact M _ _ (P _ _ (j _ _ U s) s) s
 exact h3.sd C _ B _ _ _ K D (c.step T5 k5).drop y E
end
end DL
namespace L2
open PySem
end L2
namespace DL
open PySem L2 Nb
section
variable{X:Cx}{e:Expr}{es:List Expr}{pos p:Pos}{tR:TA}{wR:cG}
def pV(S:ej)(w:cG):DT:=λδ n Q=>w δ n λxs n1=>S xs n1 λkvs n2=>Q (.dx kvs) n2
theorem K1{k:Nat}{ps:List Str}{S:ej}{f:Str}(h:HasX X.prog X.w X.K X.mg X.base k f ps S)(hr:Room k X.A)(hg:Gl X f)(ha:DA X (e::es) tR wR)
  (hdb:(f==("__debug__":Str))=ai:=by decide) (he:As (e::es) X.env=(ai,eval e X.env)::As es X.env:=by rfl) (q_:(Cw pos (As es X.env)).any (·.1)=ai:=by rfl):
  DE X (.Call (.Name f p) (e::es) [] pos) (eu (mK S) [] E0 tR) (pV S wR):=by
 obtain⟨g,P,v,I,m,F⟩:=h.ex;refine⟨jg v hr hg m F I .nil ju ha.pa hdb he q_,λC H B σ δ n Q U R q M=>ha.sd C H B σ δ n _ _ R q λvs x T u c L E y=>⟨C.t,C.l,_,B,x,u,_,c.tp,c.bt,c.ba,by rw[Bu];exact E,y,λkvs D G a N W J j V i O d=>?_⟩⟩;refine M _ (.dx kvs) _ D (c.step J j) (L.trans j) ⟨a,N,rfl,i,λz=>?_,d.move λb o e s=>⟨e,λz=>s (.inl z)⟩⟩ G;obtain⟨_,_⟩:=c.tp.ob;simp_all
end
end DL
namespace Nb
open PySem L2 DL
def km(Sa:aP):cU:=λws n Q=>∃(pd:Ad)(s0:TK)(N:Nat)(aft:TK->Nat->Option TK)(Gd:TK->Prop)(J:Nat),ws=[.d pd,.d s0.1]/\AfOk Sa pd N aft Gd/\Gd s0/\N < 2 ^ 60/\(Lr aft N s0 J).length<=J/\(Lr aft N s0 J).length<=1000/\Q ((Lr aft N s0 J).map (·.1)) n
theorem Hu(Sa:aP)(ws:List Wv)(n:Int)(Q:List Ad->Int->Prop)(h:km Sa ws n Q):rA (uL (pV (kR Sa) (ao ↥0 (ao ↥1 ak)))) (eE ["programs","stand"] ws) n {nx:=λ_ _=>False,rt:=λ_ _=>False,rn:=Q}:=by
 obtain⟨k,b,N,a,f,J,rfl,A,j,d,i,g,q⟩:=h;refine(⟨k,b,N,a,f,J,rfl,A,j,d,i,g,λm c _ _=>?_⟩);have e:m.map (λp=>p.1.1)=(Lr a N b J).map (·.1):=by rw[<-c,B6];rfl
 refine⟨m,.inl rfl,?_,?_⟩
 ·have:=congrArg Dx c;rw[Ab]at this;omega
 ·rw[e];exact q
def kY:aP:=λws n Q=>∃(s0:TK)(E:List (TK×Nat)),ws=[.d (.list ((E.map (·.1)).map (·.1))),.d s0.1,.ob (.y (fI E))]/\E.length<=900/\(E.map (·.1)).Nodup/\(∀e∈E,(∃ds,e.1.1=.tuple ds)/\Small e.1.1/\Ec e.1.1.shown=ah)/\(∀e∈E,∀e'∈E,e.1.1.shown=e'.1.1.shown->e.1=e'.1)/\(∃m r,E=(s0,m)::r)/\(E.map (·.2)).Pairwise (·<=·)/\Q (.d (.bool ah)) n
def iP(E:List (TK×Nat)):List (aC×Ad):=E.map λe=>(.inr e.1.1.shown,.int (e.2:Nat))
theorem P7{E:List (TK×Nat)}{e:TK×Nat}(h:∀x∈E,x.1.1.shown≠e.1.1.shown):ee (iP E) (.inr e.1.1.shown) (.int (e.2:Nat))=iP (E++[e]):=by
 unfold ee;rw[a_ (λz=>?_),iP,iP,Bd]
 ·rfl
 ·obtain⟨p,c,b⟩:=D4.mp z;obtain⟨x,a,rfl⟩:=Ba.mp c;exact h x a (Sum.inr.inj (e_ b))
theorem ES:∀{E:List (TK×Nat)}{x e:TK×Nat},(E.map (·.1)).Nodup->x∈E->e∈E->x.1=e.1->x=e
 |a::E,x,e,d,g,f,h=>by
  rw[Bn,Dw]at d;rcases Av.mp g with rfl|c<;>rcases Av.mp f with rfl|b
  ·rfl
  ·exact g_ (h▸Ba.mpr ⟨e,b,rfl⟩) d.1
  ·exact g_ (h▸Ba.mpr ⟨x,c,rfl⟩) d.1
  ·exact ES d.2 c b h
theorem PV{E:List (TK×Nat)}{e:TK×Nat}(inj:∀e∈E,∀e'∈E,e.1.1.shown=e'.1.1.shown->e.1=e'.1)(nd:(E.map (·.1)).Nodup)(he:e∈E):bA (iP E) (.inr e.1.1.shown)=ae (.int (e.2:Nat)):=by
 unfold bA iP;rw[List.find?_map];cases q:E.find? ((λkv:aC×Ad=>decide (kv.1=.inr e.1.1.shown)) ∘ λe=>((.inr e.1.1.shown:aC),Fj _))with
 |none=>exact g_ (c_ rfl) (List.find?_eq_none.mp q e he)
 |some x=>
  have c:=List.mem_of_find?_eq_some q;have d:=by simpa using List.find?_some q
  obtain rfl:=ES nd c he (inj x c e he d);rfl
theorem KJ{a b:Nat}{n:Int}{Q:DQ}(h:a=b)(q:Q (.d (.bool ai)) n):d0 (.d (.int (a:Int))) (.d (.int (b:Int))) n Q:=by
 subst h;have:decide (a=(a:Int))=ah:=c_ rfl;show Q _ n;rw[this];exact q
theorem y8:∀(ks:List Int),Fb (ks.map .int) (ks.map .int)=ah
 |[]=>rfl
 |y::a=>by
  rw[Bn,Fb,y8 a];simp[C0]
theorem BO:∀(ks:List Int),Cp (ks.map .int)=ah
 |[]=>rfl
 |y::a=>by
  rw[Bn,Cp,BO a];rfl
theorem BM:∀(ks:List Int),F3 (ks.map .int)<=1
 |[]=>A1 _
 |y::a=>Nat.max_le.mpr ⟨A1 _,BM a⟩
abbrev Rq:aF:=(az (fB (cV "int" ↥0) (nI (cV "bool" ↥0))))
abbrev P5:aF:=(aq (ay 4 (w2 ↥0 ⇑0 aw)) (aq (aM (cT (w2 ↥4 (wC (.str "is")) bf)) (az (w2 (w2 ↥0 ⇑1 aw) ↥1 bf)) aN) (aq (aM (cT (w2 ↥4 (wC (.str "word")) bf)) (az (cV "str" ↥1)) aN) (aq (aM (cT (w2 ↥4 (wC (.str "number")) bf)) (az (cV "int" ↥1)) aN) (aq (aM (cT (w2 ↥4 (wC (.str "as")) bf)) (az (fB (w2 (w2 ↥0 ⇑1 aw) (cQ 2) (dN ai)) (w2 (w2 (cQ 2) (w2 ↥0 ⇑1 aw) fk) ↥1 bf))) aN) (aq (aM (cT (w2 ↥4 (wC (.str "bind")) bf)) (az (BP (w2 (w2 ↥0 ⇑1 aw) (cQ 3) (dN ah)) (w2 (w2 (cQ 3) (w2 ↥0 ⇑1 aw) fk) ↥1 bf))) aN) (az (wC (.bool ah)))))))))
abbrev FT:aF:=(aq (aM (cT (w2 (wB bH (ao ↥0 ak)) (wB bH (ao ↥1 ak)) d0)) (az (wC .none)) aN) (aq (hX 3 (iq ↥2)) (aq (hX 4 iR) (aq (aZ (ma ↥0 ↥1) (ef 2 (bF (aJ 5) (bF (aJ 6) dg))) (aq (aM (dv (cT (aD iQ (ao ↥5 (ao ↥6 (ao (cQ 3) (ao (cQ 4) ak))))))) (az (wC .none)) aN) (aM (cT (w2 (w2 ↥5 ⇑0 aw) (wC (.str "bind")) bf)) (aq (kB 4 (w2 ↥5 ⇑1 aw) ↥6) (kB 3 (w2 ↥5 ⇑1 aw) ↥6)) aN))) (az (wB eJ (ao (bg (vC (cQ 3))) ak)))))))
abbrev JG:aF:=(aq (aM (cT (cV "str" ↥0)) (az ↥0) aN) (az (fF (cT (w2 ↥0 ⇑99 bf)) ⇑0 (w2 ↥0 ⇑1 (cg λi j=>.int (i+j))))))
abbrev OW:aF:=(aq (aM (cT (w2 (w2 ↥0 ⇑0 aw) (wC (.str "is")) bf)) (az (w2 ↥0 ⇑1 aw)) aN) (aq (ay 2 (w2 (cQ 1) (w2 ↥0 ⇑1 aw) fk)) (az (fF (cT (w2 (w2 ↥0 ⇑0 aw) (wC (.str "next")) bf)) (aD sx (ao ↥2 ak)) ↥2))))
abbrev O7:aF:=(aq (hX 2 (iq ↥1)) (az (wB eJ (ao (bg (cK [af,ae 2] (dh ↥0) (aJ 0) bQ (aD mG (ao ↥0 (ao (cQ 1) ak))))) ak))))
abbrev LB:aF:=(az (fB (aD sR (ao ↥0 ak)) (oi nf nf ⇑0 ↥0 ↥1)))
abbrev MO:aF:=(aq (ay 3 (w2 (w2 (w2 ↥1 ⇑0 aw) ↥2 aw) ⇑0 aw)) (aq (ay 4 (w2 (w2 (w2 ↥1 ⇑0 aw) ↥2 aw) ⇑1 aw)) (aq (ay 5 (w2 (w2 (w2 ↥0 ↥2 aw) ↥3 aw) ⇑1 aw)) (az (fF (cT (w2 ↥4 (wB bH (ao ↥5 ak)) fK)) (w2 ↥5 ↥4 aw) (wC .none))))))
abbrev Ze:List Str:=["take","read","look"]
abbrev LY:aF:=(aq (ay 3 (aD nA (ao ↥0 (ao ↥1 (ao ↥2 ak))))) (aq (aM (fW (cT (w2 ↥3 (wC .none) (bK ai))) (cT (qg Ze (w2 ↥3 ⇑0 aw)))) (az (wC .none)) aN) (aq (ay 4 (w2 (w2 (w2 ↥1 ⇑0 aw) ↥2 aw) ⇑2 aw)) (aq (tL 5) (aq (aZ (vo (w2 ↥1 ⇑1 aw)) (ef 2 (bF (aJ 6) (bF (aJ 7) dg))) (aM (cT (oD 5 (w2 ↥7 ⇑0 aw))) (aq (aM (cT (w2 (aD mS (ao (w2 ↥3 ⇑1 aw) (ao (w2 ↥7 ⇑0 aw) (ao ↥4 ak)))) (wC .none) (bK ah))) (az ↥6) aN) (vJ 5 (w2 ↥7 ⇑0 aw) (wC (.bool ah)))) aN)) (az (wC .none)))))))
abbrev Nu:aF:=(az (ax (ao (w2 ↥0 ⇑0 aw) (ao (w2 (w2 ↥0 ⇑1 aw) ⇑1 (cg λi j=>.int (i+j))) (ao ↥1 ak)))))
abbrev EW:aF:=(aq (ay 3 (w2 (w2 ↥0 ↥1 aw) ⇑0 aw)) (az (ax (ao ↥1 (ao ⇑0 (ao (wB eJ (ao (bg (cK [af,ae 3] (dh ↥2) (aJ 0) (cT (w2 (w2 ↥0 ⇑0 aw) ↥1 (gi ai))) ↥0)) ak)) ak))))))
abbrev IS:aF:=(az (w2 (w2 (d4 ↥0 d8 (dG ↥1)) (ax (ao ↥2 ak)) eT) (d4 ↥0 (dG (w2 ↥1 ⇑1 (cg λi j=>.int (i+j)))) d8) eT))
abbrev BE:aF:=(aq (ay 4 (w2 (w2 ↥1 ⇑0 aw) ↥2 aw)) (aq (ay 5 (w2 ↥1 ⇑1 aw)) (aq (ay 6 (aD sf (ao ↥0 (ao ↥1 (ao ↥2 ak))))) (aq (aM (cT (w2 ↥6 (wC .none) (bK ai))) (aq (aM (cT (w2 (w2 ↥3 ⇑0 aw) (wC (.str "look")) d0)) (az (wC .none)) aN) (az (ax (ao (aD iA (ao (w2 ↥1 ⇑0 aw) (ao ↥2 (ao (aD lW (ao (w2 ↥0 ↥2 aw) (ao (w2 ↥3 ⇑2 aw) (ao (w2 ↥4 ⇑2 aw) ak)))) ak)))) (ao ↥5 ak))))) aN) (aq (ay 7 (aD mS (ao (w2 ↥3 ⇑1 aw) (ao (w2 (w2 ↥5 ↥6 aw) ⇑0 aw) (ao (w2 ↥4 ⇑2 aw) ak))))) (aq (aM (cT (w2 (w2 ↥3 ⇑0 aw) (wC (.str "take")) bf)) (ay 5 (w2 (d4 ↥5 d8 (dG ↥6)) (d4 ↥5 (dG (w2 ↥6 ⇑1 (cg λi j=>.int (i+j)))) d8) eT)) aN) (az (ax (ao (aD iA (ao (w2 ↥1 ⇑0 aw) (ao ↥2 (ao (aD lj (ao ↥4 (ao ↥7 ak))) ak)))) (ao ↥5 ak))))))))))
abbrev KQ:aF:=(aq (hX 2 (iq ↥1)) (az (w2 (aD mG (ao (w2 ↥0 ⇑1 aw) (ao (cQ 2) ak))) (aD mG (ao (w2 ↥0 ⇑2 aw) (ao (cQ 2) ak))) bf)))
abbrev Ni:aF:=(aq (ay 3 (aD nA (ao ↥0 (ao ↥1 (ao ↥2 ak))))) (aq (aM (cT (w2 ↥3 (wC .none) (bK ai))) (az (wC .none)) aN) (aq (aM (cT (gJ Ze (w2 ↥3 ⇑0 aw))) (az (aD nT (ao ↥0 (ao ↥1 (ao ↥2 (ao ↥3 ak)))))) aN) (aq (ay 4 (w2 (w2 ↥1 ⇑0 aw) ↥2 aw)) (aq (ay 5 (w2 ↥1 ⇑1 aw)) (aq (ay 6 (w2 ↥4 ⇑2 aw)) (aq (aM (cT (w2 (w2 ↥3 ⇑0 aw) (wC (.str "lay")) bf)) (aq (ay 5 (w2 ↥5 (ax (ao (ax (ao (aD qd (ao (w2 ↥3 ⇑1 aw) (ao ↥6 ak))) (ao (w2 ↥3 ⇑2 aw) ak))) ak)) eT)) (ay 4 (aD lj (ao ↥4 (ao ↥6 ak))))) (aM (dR (cT (w2 (w2 ↥3 ⇑0 aw) (wC (.str "same")) bf)) (cT (aD sG (ao ↥3 (ao ↥6 ak))))) (ay 4 (aD lj (ao ↥4 (ao ↥6 ak)))) (ay 4 (aD lW (ao (w2 ↥0 ↥2 aw) (ao (w2 ↥3 (ij ⇑1) aw) (ao ↥6 ak))))))) (az (ax (ao (aD iA (ao (w2 ↥1 ⇑0 aw) (ao ↥2 (ao ↥4 ak)))) (ao ↥5 ak)))))))))))
abbrev N2:aF:=(az (fF (cT (w2 (w2 ↥0 ⇑1 aw) (wC .none) (bK ai))) ↥0 (ax (ao (w2 ↥0 ⇑0 aw) (ao (w2 (w2 ↥0 ⇑1 aw) ⇑1 (cg λi j=>.int (i-j))) ak)))))
abbrev Pc:aF:=(az (ax (ao (w2 ↥0 ⇑0 aw) (ao (wB eJ (ao (bg (cK [af] (dh (w2 ↥0 ⇑1 aw)) (aJ 0) (cT (w2 (w2 ↥0 ⇑1 aw) ⇑1 d0)) (aD u4 (ao ↥0 ak)))) ak)) ak))))
abbrev Oi:aF:=(aq (ay 3 (wB bH (ao ↥0 ak))) (aq (aM (dv (cT (aD t8 (ao ↥2 (ao ↥3 ak))))) (az (wC .none)) aN) (az (fF (cT (w2 ↥2 ↥3 bf)) (aD tG (ao ↥1 ak)) (aD qJ (ao ↥0 (ao ↥1 (ao ↥2 ak))))))))
abbrev L4:aF:=(aq (m3 2 ↥1 (wC .none)) (aq (bq 3 (aO (ao ↥1 ak))) (aq (mf (kG (cn 3)) (iM d5 0 2 3)) (kL 2))))
abbrev I0:aF:=(rA (uL (pV (kR d5) (ao ↥0 (ao ↥1 ak)))))
abbrev Hq:aF:=(az (w2 (bg (aO (ao (wC (.str "a")) (ao ⇑0 (ao (wC (.str "a")) (ao ⇑1 (ao (wC (.str "ab")) (ao (wC (.str "go")) (ao ⇑99 (ao ⇑0 ak)))))))))) (aD cm (ao ↥0 (ao ⇑8 ak))) aw))
abbrev Mo:aF:=(az (w2 (bg (aO (ao ⇑1 (ao ⇑2 (ao ⇑2 (ao ⇑2 (ao ⇑1 (ao ⇑3 (ao ⇑4 ak))))))))) (aD cm (ao ↥0 (ao ⇑7 ak))) aw))
abbrev Rr:aF:=(aq (bq 2 (aO ak)) (aq (bq 3 (aO ak)) (aq (aZ (eW (aD k7 (ao ↥0 ak))) (aJ 4) (aq (ay 5 (aD cm (ao ↥0 (ao ⇑9 ak)))) (aq (ay 6 (w2 ↥1 (cn 3) ft)) (aM (cT (w2 ↥5 ⇑3 fK)) (aW 2 (ax (ao (wC (.str "is")) (ao (aD gX (ao ↥0 ak)) ak)))) (aM (cT (w2 ↥5 ⇑6 fK)) (aW 2 (w2 (bg (aO (ao (ax (ao (wC (.str "any")) ak)) (ao (ax (ao (wC (.str "word")) ak)) (ao (ax (ao (wC (.str "number")) ak)) ak))))) (w2 ↥5 ⇑3 (cg λi j=>.int (i-j))) aR)) (aM (fW (cT (w2 ↥5 ⇑8 fK)) (cT (w2 ↥6 (bg (aO ak)) bC))) (aq (ay 7 (w2 (bg (aO (ao (wC (.str "n")) (ao (wC (.str "nm")) (ao (wC (.str "go")) (ao (wC (.str "m")) ak)))))) (aD cm (ao ↥0 (ao ⇑4 ak))) aR)) (aq (aW 3 ↥7) (aW 2 (ax (ao (wC (.str "bind")) (ao ↥7 ak)))))) (aW 2 (ax (ao (wC (.str "as")) (ao (w2 ↥6 (aD cm (ao ↥0 (ao (wB dJ (ao ↥6 ak)) ak))) aR) ak)))))))))) (bO 2 (bO 3 (az (ax (ao (wB fH (ao ↥2 ak)) (ao ↥3 ak)))))))))
abbrev Rf:aF:=(aq (bq 2 (aO ak)) (aq (aZ (eW (aD k7 (ao ↥0 ak))) (aJ 3) (aq (ay 4 (aD cm (ao ↥0 (ao ⇑6 ak)))) (aM (fW (cT (w2 ↥4 ⇑3 fK)) (cT (w2 ↥1 (bg (aO ak)) bC))) (aW 2 (ax (ao (wC (.str "is")) (ao (aD gX (ao ↥0 ak)) ak)))) (aW 2 (ax (ao (w2 (bg (aO (ao (wC (.str "as")) (ao (wC (.str "as")) (ao (wC (.str "next")) ak))))) (w2 ↥4 ⇑3 (cg λi j=>.int (i-j))) aR) (ao (w2 ↥1 (aD cm (ao ↥0 (ao (wB dJ (ao ↥1 ak)) ak))) aR) ak))))))) (bO 2 (az (wB fH (ao ↥2 ak))))))
abbrev NK:aF:=(aq (aM (fW (cT (w2 ↥1 (bg (aO ak)) bC)) (cT (w2 (aD cm (ao ↥0 (ao ⇑2 ak))) ⇑0 bC))) (az (ax (ao (wC (.str "is")) (ao (aD gX (ao ↥0 ak)) ak)))) aN) (az (ax (ao (wC (.str "as")) (ao (w2 ↥1 (aD cm (ao ↥0 (ao (wB dJ (ao ↥1 ak)) ak))) aR) ak)))))
abbrev y3:aF:=(aq (ay 3 (aD cm (ao ↥0 (ao ⇑12 ak)))) (aq (aM (cT (w2 ↥3 ⇑4 fK)) (az (ax (ao (ax (ao (wC (.str "lay")) (ao (aD tF (ao ↥0 (ao ↥1 ak))) (ao (w2 (dQ 0) (aD cm (ao ↥0 (ao (wB dJ (ao (dQ 0) ak)) ak))) aR) ak)))) (ao (bg (aO ak)) ak)))) aN) (aq (ay 4 (w2 ↥2 (aD cm (ao ↥0 (ao (wB dJ (ao ↥2 ak)) ak))) aR)) (aq (aM (cT (w2 ↥3 ⇑10 bC)) (az (ax (ao (ax (ao (wC (.str "same")) (ao (aD qf (ao ↥0 (ao ↥1 ak))) (ao (aD qf (ao ↥0 (ao ↥1 ak))) (ao ↥4 ak))))) (ao (bg (aO ak)) ak)))) aN) (aq (aM (cT (w2 ↥3 ⇑11 bC)) (az (ax (ao (ax (ao (wC (.str "go")) (ao ↥4 ak))) (ao (bg (aO ak)) ak)))) aN) (aq (dq (aD rT (ao ↥0 (ao ↥1 ak))) (ef 2 (bF (aJ 5) (bF (aJ 6) dg)))) (aq (aM (cT (w2 ↥3 ⇑7 uE)) (az (ax (ao (ax (ao (wC (.str "look")) (ao ↥5 (ao ↥4 ak)))) (ao ↥6 ak)))) aN) (az (ax (ao (ax (ao (w2 (bg (aO (ao (wC (.str "take")) (ao (wC (.str "take")) (ao (wC (.str "take")) (ao (wC (.str "read")) ak)))))) (w2 ↥3 ⇑4 (cg λi j=>.int (i-j))) aR) (ao ↥5 ak))) (ao ↥6 ak)))))))))))
abbrev Mc:aF:=(aq (bq 1 (aO (ao (ax ak) ak))) (aq (aZ (eW (w2 (bg (aO (ao ⇑0 (ao ⇑1 (ao ⇑0 (ao ⇑1 (ao ⇑2 ak))))))) (aD cm (ao ↥0 (ao ⇑5 ak))) aR)) (aJ 2) (aW 1 (w2 (bg (aO (ao (ax ak) (ao (ax (ao (wC (.str "n")) ak)) (ao (ax (ao (wC (.str "go")) (ao (wC (.str "n")) ak))) (ao (ax (ao (wC (.str "nm")) ak)) (ao (ax ak) ak))))))) (aD cm (ao ↥0 (ao ⇑5 ak))) aR))) (aq (bq 3 (aO ak)) (bO 1 (aq (aZ (e8 ↥1) (aJ 4) (aq (bq 5 (lR ↥4)) (aq (bq 6 (aO ak)) (aq (aZ (eW (w2 (bg (aO (ao ⇑2 (ao ⇑1 (ao ⇑3 (ao ⇑2 (ao ⇑0 (ao ⇑1 (ao ⇑2 (ao ⇑3 ak)))))))))) (aD cm (ao ↥0 (ao ⇑8 ak))) aR)) (aJ 2) (aq (ay 8 (bg (cK [af,ae 5,ae 1] (eW (wB dJ (ao ↥1 ak))) (aJ 0) (cT (w2 (bg (cK [af,ae 1] (dh (w2 ↥2 ↥0 aR)) (aJ 0) (cT (w2 ↥0 ↥1 (dZ ah))) ↥0)) (bg (aO ak)) bC)) ↥0))) (aq (dq (aD nG (ao ↥0 (ao (cn 5) (ao ↥8 ak)))) (ef 2 (bF (aJ 9) (bF (aJ 10) dg)))) (aq (aW 6 ↥9) (aZ (e8 ↥10) (aJ 7) (aM (cT (w2 ↥7 (cn 5) (dZ ah))) (aW 5 ↥7) aN)))))) (bO 6 (aW 3 (ax (ao ↥4 (ao (wB fH (ao ↥6 ak)) ak))))))))) (bO 3 (az (wB fH (ao ↥3 ak)))))))))
abbrev Mv:aF:=(aq (bq 2 (aO ak)) (aq (aZ (eW (aD cm (ao ↥0 (ao (w2 ↥1 ⇑1 (cg λi j=>.int (i+j))) ak)))) (aJ 3) (aq (ay 4 (wB fH (ao (bg (cK [af,ae 0] (eW (aD k7 (ao ↥0 ak))) (aJ 0) bQ (aD gX (ao ↥1 ak)))) ak))) (aW 2 (ax (ao ↥4 (ao (w2 (dQ 0) (aD cm (ao ↥0 (ao (wB dJ (ao (dQ 0) ak)) ak))) aR) ak)))))) (bO 2 (az (wB fH (ao ↥2 ak))))))
abbrev IM:aF:=(aq (bq 3 (lR (w2 (w2 ↥0 ↥1 aw) ⇑0 aw))) (aq (aZ (dh (d4 (w2 (w2 ↥0 ↥1 aw) ⇑1 aw) d8 (dG ↥2))) (aJ 4) (aM (cT (w2 (w2 ↥4 ⇑0 aw) (ax (ao (wC (.str "take")) (ao (wC (.str "read")) (ao (wC (.str "look")) ak)))) (gi ai))) (fq 3 (bg (cK [af] (dh (w2 ↥4 ⇑1 aw)) (aJ 0) (cT (w2 (w2 ↥0 ⇑0 aw) (wC (.str "bind")) bf)) (w2 ↥0 ⇑1 aw)))) aN)) (bO 3 (az (bg (BD ↥3))))))
abbrev HN:aF:=(aq (bq 3 (aO ak)) (aq (aZ (dh ↥1) (aJ 4) (aq (ay 5 (aD cm (ao ↥0 (ao (wB bH (ao ↥4 ak)) ak)))) (aq (ay 6 (aD cm (ao ↥0 (ao (w2 (wB bH (ao (w2 (w2 ↥4 ↥5 aw) ⇑1 aw) ak)) ⇑1 (cg λi j=>.int (i+j))) ak)))) (aq (ay 7 (wB eJ (ao (bg (cK [af,ae 0] (e8 (aD rN (ao ↥4 (ao ↥5 (ao ↥6 ak))))) (aJ 0) bQ (ax (ao ↥0 (ao (aD gX (ao ↥1 ak)) ak))))) ak))) (aW 3 (ax (ao ↥5 (ao ↥6 (ao ↥7 ak))))))))) (bO 3 (az (ax (ao (wB eJ (ao ↥3 ak)) (ao (aD my (ao ↥0 (ao ↥2 ak))) ak)))))))
abbrev z0:aF:=(aq (bq 1 (cK [af,ae 0] (eW (w2 (bg (aO (ao ⇑1 (ao ⇑2 (ao ⇑2 (ao ⇑1 (ao ⇑3 (ao ⇑2 (ao ⇑0 (ao ⇑2 ak)))))))))) (aD cm (ao ↥0 (ao ⇑8 ak))) aR)) (aJ 0) bQ (aD sA (ao ↥1 ak)))) (aq (aM (dR (cT (w2 (wB dJ (ao (cn 1) ak)) ⇑2 bC)) (cT (w2 (aD cm (ao ↥0 (ao ⇑4 ak))) ⇑0 bC))) (jS 1 ⇑1 (w2 (cn 1) ⇑0 aR)) aN) (aq (ay 1 (wB fH (ao (cn 1) ak))) (aq (aM (cT (w2 (aD cm (ao ↥0 (ao ⇑2 ak))) ⇑0 bC)) (bO 1 (az (ax (ao ↥1 (ao (aD oO (ao ↥0 (ao ↥1 (ao ⇑3 ak)))) ak))))) aN) (bO 1 (az (ax (ao ↥1 (ao (ax (ao (wB fH (ao (bg (cK [af] (dh ↥1) (aJ 0) bQ (ax (ao ⇑0 (ao ⇑0 (ao (ax ak) ak)))))) ak)) (ao (aD my (ao ↥0 (ao ⇑4 ak))) ak))) ak)))))))))
abbrev MV:aF:=(aq (aM (cT (w2 (wB bH (ao ↥0 ak)) (wB bH (ao ↥1 ak)) d0)) (az (wC .none)) aN) (aq (hX 3 (iq ↥2)) (aq (bq 4 (aO ak)) (aq (aZ (ma ↥0 ↥1) (ef 2 (bF (aJ 5) (bF (aJ 6) dg))) (aq (ay 7 (wC (.bool ah))) (aq (aM (cT (w2 (w2 ↥5 ⇑0 aw) (wC (.str "is")) bf)) (ay 7 (w2 (w2 ↥5 ⇑1 aw) ↥6 bf)) (aM (cT (w2 (w2 ↥5 ⇑0 aw) (ax (ao (wC (.str "word")) (ao (wC (.str "number")) ak))) (gi ai))) (ay 7 (w2 (cV "str" ↥6) (w2 (w2 ↥5 ⇑0 aw) (wC (.str "word")) bf) bf)) (aM (fW (cT (w2 (w2 ↥5 ⇑0 aw) (wC (.str "as")) bf)) (dR (cT (w2 (w2 ↥5 ⇑0 aw) (wC (.str "bind")) bf)) (cT (ly 4 (w2 ↥5 ⇑1 aw))))) (ay 7 (fB (w2 (w2 ↥5 ⇑1 aw) (cQ 3) (dN ai)) (w2 (w2 (cQ 3) (w2 ↥5 ⇑1 aw) fk) ↥6 bf))) (aM (cT (w2 (w2 ↥5 ⇑0 aw) (wC (.str "bind")) bf)) (aq (aW 4 (w2 ↥5 ⇑1 aw)) (kB 3 (w2 ↥5 ⇑1 aw) ↥6)) aN)))) (aM (dv (cT ↥7)) (az (wC .none)) aN)))) (az (wB eJ (ao (bg (cK [af,ae 3] (e8 (bg (yN (cQ 3)))) (aJ 0) bQ (ax (ao ↥0 (ao (w2 (cQ 1) ↥0 fk) ak))))) ak)))))))
abbrev NZ:aF:=(aq (bq 2 (aO ak)) (aq (aZ (dh ↥0) (aJ 3) (aq (ay 4 (w2 ↥3 ⇑1 aw)) (aq (aM (cT (w2 (w2 ↥3 ⇑0 aw) (wC (.str "is")) d0)) (ay 4 (w2 (kh ↥1) (w2 ↥3 ⇑1 aw) fk)) aN) (aq (aM (dR (cT (w2 (w2 ↥3 ⇑0 aw) (wC (.str "next")) bf)) (dv (cT (cV "str" ↥4)))) (ay 4 (w2 (w2 ↥4 ⇑1 (cg λi j=>.int (i+j))) ⇑100 (gI (λ_ j=>0 < j) λi j=>.int (i % j)))) aN) (aW 2 ↥4))))) (bO 2 (az (wB eJ (ao ↥2 ak))))))
abbrev PF:aF:=(aq (dq (w2 ↥1 ↥2 aw) (ef 3 (bF (aJ 3) (bF (aJ 4) (bF (aJ 5) dg))))) (aq (ay 6 (w2 (w2 (w2 ↥0 ↥2 aw) ↥3 aw) ⇑1 aw)) (az (fF (cT (w2 ↥4 (wB bH (ao ↥6 ak)) fK)) (w2 ↥6 ↥4 aw) (wC .none)))))
abbrev IQ:aF:=(aq (aZ (eW (wB bH (ao ↥1 ak))) (aJ 3) (aq (ay 4 (aD rQ (ao (w2 ↥0 ⇑1 aw) (ao (w2 (w2 ↥1 ↥3 aw) ⇑0 aw) (ao ↥2 ak))))) (aM (cT (w2 ↥4 (wC .none) (bK ah))) (az (ax (ao ↥3 (ao ↥4 ak)))) aN))) (az (wC .none)))
abbrev Qd:aF:=(aq (bq 2 (aO ak)) (aq (aZ (eW (wB bH (ao ↥0 ak))) (aJ 3) (aq (ay 4 (aD uh (ao ↥0 (ao (w2 ↥1 ⇑0 aw) (ao ↥3 ak))))) (aM (cT (w2 ↥4 (wC .none) (bK ah))) (aq (ay 5 (w2 (w2 (w2 ↥1 ⇑0 aw) ↥3 aw) ⇑2 aw)) (aM (fW (cT (w2 (w2 ↥4 ⇑0 aw) (ax (ao (wC (.str "take")) (ao (wC (.str "read")) ak))) (gi ah))) (cT (w2 (aD mB (ao ↥4 (ao (w2 ↥1 ⇑1 aw) (ao ↥5 ak)))) (wC .none) (bK ah)))) (aW 2 ↥3) aN)) aN))) (bO 2 (az (w2 ↥2 (bg (aO (ao (wB bH (ao ↥0 ak)) ak))) ft)))))
abbrev vt:aF:=(aq (dq ↥1 (ef 2 (bF (aJ 3) (bF (aJ 4) dg)))) (aq (aM (cT (w2 ↥2 (wB bH (ao ↥0 ak)) bf)) (az (ax (ao ↥3 (ao (wB eJ (ao (bg (cK [af,af] (dh ↥4) (ef 2 (bF (aJ 0) (bF (aJ 1) dg))) (cT (w2 ↥1 ⇑1 d0)) (ax (ao ↥0 (ao (fF (cT (w2 ↥1 (wC .none) (bK ai))) ↥1 (w2 ↥1 ⇑1 (cg λi j=>.int (i-j)))) ak))))) ak)) ak)))) aN) (aq (dq (w2 ↥3 ↥2 aw) (ef 3 (bF (aJ 5) (bF (aJ 6) (bF (aJ 7) dg))))) (aq (ay 8 (w2 (w2 (w2 (w2 ↥0 ↥2 aw) ↥5 aw) ⇑1 aw) ↥6 aw)) (aq (ay 9 (wC .none)) (aq (aM (cT (w2 (w2 ↥8 ⇑0 aw) (wC (.str "lay")) bf)) (ay 4 (w2 ↥4 (ax (ao (ax (ao (aD sJ (ao (w2 ↥8 ⇑1 aw) (ao ↥7 ak))) (ao (w2 ↥8 ⇑2 aw) ak))) ak)) eT)) (aM (cT (w2 (w2 ↥8 ⇑0 aw) (wC (.str "go")) bf)) (ay 9 (w2 ↥8 ⇑1 aw)) (aM (cT (w2 (w2 ↥8 ⇑0 aw) (wC (.str "same")) bf)) (aq (dq (bg (cK [af,ae 7] (dh (d4 ↥8 (dG ⇑1) (dG ⇑3))) (aJ 0) bQ (fF (cT (w2 (w2 ↥0 ⇑0 aw) (wC (.str "is")) bf)) (w2 ↥0 ⇑1 aw) (w2 (kh ↥1) (w2 ↥0 ⇑1 aw) fk)))) (om 2 (bF (aJ 10) (bF (aJ 11) dg)))) (ay 9 (fF (cT (w2 ↥10 ↥11 bf)) (wC .none) (w2 ↥8 ⇑3 aw)))) (aq (ay 12 (aD mB (ao ↥8 (ao ↥4 (ao ↥7 ak))))) (aM (cT (w2 ↥12 (wC .none) (bK ai))) (ay 9 (w2 ↥8 ⇑2 aw)) (aq (ay 7 (w2 ↥12 ⇑1 aw)) (aM (cT (w2 (w2 ↥8 ⇑0 aw) (wC (.str "take")) bf)) (ay 4 (w2 (d4 ↥4 d8 (dG (w2 ↥12 ⇑0 aw))) (d4 ↥4 (dG (w2 (w2 ↥12 ⇑0 aw) ⇑1 (cg λi j=>.int (i+j)))) d8) eT)) aN))))))) (aq (ay 13 (ax (ao ↥5 (ao (w2 ↥6 ⇑1 (cg λi j=>.int (i+j))) (ao ↥7 ak))))) (aq (aM (cT (w2 ↥9 (wC .none) (bK ah))) (aq (ay 14 (w2 (w2 (w2 ↥0 ↥2 aw) ↥9 aw) ⇑0 aw)) (ay 13 (ax (ao ↥9 (ao ⇑0 (ao (wB eJ (ao (bg (cK [af,ae 14] (dh ↥7) (aJ 0) (cT (w2 (w2 ↥0 ⇑0 aw) ↥1 (gi ai))) ↥0)) ak)) ak)))))) aN) (az (ax (ao (w2 (w2 (d4 ↥3 d8 (dG ↥2)) (ax (ao ↥13 ak)) eT) (d4 ↥3 (dG (w2 ↥2 ⇑1 (cg λi j=>.int (i+j)))) d8) eT) (ao ↥4 ak))))))))))))
abbrev Li:aF:=(aq (m3 3 ↥1 ⇑0) (aq (bq 4 (aO (ao ↥1 ak))) (aq (ay 5 ⇑0) (aq (mf (cT (w2 ↥5 (wB dJ (ao (cn 4) ak)) fK)) (aq (aZ (e8 (aD hG (ao ↥0 (ao (w2 (cn 4) ↥5 aR) ak)))) (aJ 6) (aq (ay 7 (aD gV (ao ↥0 (ao (w2 (cn 4) ↥5 aR) (ao ↥6 ak))))) (aM (cT (w2 ↥7 (d9 3) (i8 ah))) (aq (aM (cT (w2 (wB dJ (ao (cn 4) ak)) ↥2 bC)) (az (wC .none)) aN) (aq (nZ 3 ↥7 (w2 (w2 (d9 3) (w2 (cn 4) ↥5 aR) mD) ⇑1 (cg λi j=>.int (i+j)))) (aW 4 ↥7))) aN))) (ay 5 (w2 ↥5 ⇑1 (cg λi j=>.int (i+j)))))) (kL 3)))))
abbrev FZ:aF:=(aq (aM (fW (dv (cT (cV "list" ↥0))) (fW (cT (w2 (wB bH (ao ↥0 ak)) (wB zy (ao (d9 2) ak)) d0)) (cT (w2 (wB kK (ao (w2 ↥0 ⇑0 aw) ak)) (wB kK (ao ↥1 ak)) d0)))) (az (wC (.bool ai))) aN) (aq (hX 3 iR) (aq (aZ (p6 (d9 2)) (aJ 4) (kB 3 (wB kK (ao ↥4 ak)) (w2 (d9 2) ↥4 mD))) (aq (ay 5 (bg (cK [af] (e8 ↥0) (aJ 0) bQ (wB kK (ao ↥0 ak))))) (aq (aM (mC ↥5 (cQ 3)) (az (wC (.bool ai))) aN) (aq (ay 6 (bg (cK [af,ae 3] (e8 ↥5) (aJ 0) bQ (w2 (cQ 1) ↥0 fk)))) (az (w2 ↥6 (bg (xf ↥6)) (tW λd e=>ae (C0 d e))))))))))
abbrev yr:aF:=(aq (dq (aD rD (ao ↥1 ak)) (ef 2 (bF (aJ 2) (bF (aJ 3) dg)))) (aq (sU 4 (mj hG gV) (ao ↥2 (ao ↥3 (ao ⇑70 ak)))) (sO 4 (aq (aM (cT (w2 (d9 4) (wC .none) (mi ai))) (az (wC (.bool ah))) aN) (aq (mn 5 (km d5) kY (ao ↥2 (ao ↥3 ak)) (ao ↥5 (ao ↥3 (ao (d9 4) ak)))) (az (aD kY (ao (bg (nJ (km d5) (ao ↥2 (ao ↥3 ak)))) (ao ↥3 (ao (d9 4) ak))))))))))
theorem Rv:b7 iQ P5 ["field","value","having","bound","head"]:=λws n Q h=>by
 obtain⟨f,v,l,m,rfl,g,c,p,o,k⟩:=h;cases f with
 |is w=>
  show(match eM w v with|some r=>Q _ n|none=>False);rw[lb (g) c];exact k
 |any=>exact k
 |word=>
  cases v<;>exact k
 |number=>
  show Q _ n;cases v<;>first|cases c|exact k
 |as x=>
  show gm _ (match bA _ (.inr x)with|some d=>(match eM d v with|some r=>Q _ n|none=>False)|none=>False) (Q _ n);rw[iB];unfold fL at k;cases e:look l x with
  |none=>
   simp only[e]at k;exact k
  |some w=>
   simp only[e]at k;show(match eM w v with|some r=>Q _ n|none=>False);rw[lb (p _ (j0 e)).2 c];exact k
 |bind x=>
  show gm _ (Q _ n) (match bA _ (.inr x)with|some d=>(match eM d v with|some r=>Q _ n|none=>False)|none=>False);rw[iB];unfold fL at k;cases e:look m x with
  |none=>
   simp only[e]at k;exact k
  |some w=>
   simp only[e]at k;show(match eM w v with|some r=>Q _ n|none=>False);rw[lb (o _ (j0 e)).2 c];exact k
theorem DW{p:Prop}[Decidable p]{A B:Prop}(h1:p->A)(h2:¬p->B):if decide p=ah then A else B:=by
 by_cases z:p
 ·rw[b_ (c_ z)];exact h1 z
 ·rw[a_ (by rw[d_ z];simp)];exact h2 z
theorem qH:∀ps:Nm,jR (ps.map iX)=ae (bM ps)
 |[]=>rfl
 |p::r=>by
  show(jR _).map _=_;rw[qH r];rfl
theorem Jl{l:Nm}{x:Str}{v:Ad}(h:x∉l.map (·.1)):put l x v=l++[(x,v)]:=by
 unfold put;rw[a_ λz=>by
  obtain⟨p,a,e⟩:=D4.mp z;exact h (Ba.mpr ⟨p,a,e_ e⟩)]
theorem su:∀(r l:Nm),((l++r).map (·.1)).Nodup->pj (bM l) (bM r)=bM (l++r)
 |[],l,_=>by rw[Bu];rfl
 |p::r,l,a=>by
  have e:l++p::r=(l++[p])++r:=by simp
  show pj (ee _ _ p.2) _=_;rw[n7,Jl,e]
  ·exact su r _ (by rw[<-e];omega)
  ·intro z;rw[Bd,Gg]at a;exact a.2.2 _ z _ Ap rfl
theorem oz{δ:Sl}{n:Int}{K:DEnds}{i j:Nat}{ps:Nm}(e:δ[j]?=ae (↑(cF ps)))(ok:okN ps)(k:K.nx (δ.set i (ae (.odk (bM ps)))) n):hX i (iq (aj j)) δ n K:=by
 unfold hX iq;refine av e ?_;unfold cF;simp only[qH];refine⟨by rw[Ab];have:=ok.1;omega,?_⟩;have:=su ps [] (ok.2.1);rw[show([]:List _)=bM []from rfl,this];exact k
section
variable{δ:Sl}{n:Int}{K:DEnds}{W V:aF}{Q:DQ}
theorem Jw{i j n:Int}{Q:DQ}(k:Q (.d (.bool (!decide (i=j)))) n):d0 (.d (.int i)) (.d (.int j)) n Q:=k
theorem yA{xs ys:List Ad}(e0:δ[0]?=ae (↑(.tuple xs)))(e1:δ[1]?=ae (↑(.tuple ys)))(hT:xs.length≠ys.length->W δ n K)(hF:xs.length=ys.length->V δ n K):
  aM (cT (w2 (wB bH (ao ↥0 ak)) (wB bH (ao ↥1 ak)) d0)) W V δ n K:=by
 refine av e0 (av e1 ?_);dsimp only[bH];refine Jw (mU (λh=>hT λz=>?_) λh=>hF ?_)
 ·rw[z,c_ rfl]at h;cases h
 ·by_cases z:(xs.length:Int)=(ys.length:Int)
  ·exact Int.ofNat.inj z
  ·rw[d_ z]at h;cases h
theorem JM{g:Fd}{v:Ad}{hp bp:Nm}(e5:δ[5]?=ae (↑g.d))(e6:δ[6]?=ae (↑v))(e3:δ[3]?=ae (ae (.odk (bM hp))))(e4:δ[4]?=ae (ae (.odk (bM bp))))(gok:g.ok)(hv:bL v=ah)(hh:∀p∈hp,d6 p)(hb:∀p∈bp,d6 p)
  (hT:fL g v hp bp=ai->W δ n K) (hF:fL g v hp bp=ah->V δ n K):aM (dv (cT (aD iQ (ao ↥5 (ao ↥6 (ao (cQ 3) (ao (cQ 4) ak))))))) W V δ n K:=by
 unfold aM dv cT aD ao ak;refine av e5 (av e6 ?_);unfold cQ;simp only[e3,e4];refine⟨g,v,hp,bp,rfl,gok,hv,hh,hb,mU (λh=>hT ?_) λh=>hF ?_⟩
 ·cases q:fL g v hp bp with|false=>rfl|true=>rw[q]at h;cases h
 ·cases q:fL g v hp bp with|true=>rfl|false=>rw[q]at h;cases h
variable{xs:List Ad}{j:Nat}{a b v:Ad}{r:List Ad}
end
def lS(gs:List Fd)(vs:List Ad)(hp:Nm)(hs:List Str)(r:Ad):Prop:=match wk (gs.zip vs) hp hs with
 |none=>r=.none
 |some h=>r=cF (bJ h)
theorem Kb{g:Fd}{v:Ad}{gs:List Fd}{vs:List Ad}{hp bp:Nm}{hs:List Str}(h1:∀x,x∈hs↔(look bp x).isSome=ah)(h2:∀x w,look bp x=ae w->look hp x=ae w)(h:fL g v hp bp=ai):lS (g::gs) (v::vs) hp hs .none:=by
 have c:wk ((g,v)::gs.zip vs) hp hs=af:=by
  cases g with
  |is w=>unfold wk;rw[a_ (by rw[show eR w v=ai from h];simp)]
  |any=>cases h
  |word=>unfold wk;rw[a_ (by rw[show gK v=ai from h];simp)]
  |number=>unfold wk;rw[a_ (by rw[show gz v=ai from h];simp)]
  |as x=>
   unfold wk;unfold fL at h;cases q:look hp x with
   |none=>rfl
   |some w=>
    simp only[q]at h;simp only[h,Hh,if_false]
  |bind x=>
   unfold wk;unfold fL at h;cases q:look bp x with
   |none=>simp only[q]at h;cases h
   |some w=>
    simp_all
 unfold lS;rw[Hf,c]
theorem QA{g:Fd}{v:Ad}{l:List (Fd×Ad)}{hp bp:Nm}{hs:List Str}(ng:∀x,g≠.bind x)(h:fL g v hp bp=ah):wk ((g,v)::l) hp hs=wk l hp hs:=by
 cases g with
 |is w=>rw[wk,b_ (show eR w v=ah from h)]
 |any=>rw[wk]
 |word=>rw[wk,b_ (show gK v=ah from h)]
 |number=>rw[wk,b_ (show gz v=ah from h)]
 |as x=>
  rw[wk];unfold fL at h;cases q:look hp x with
  |none=>simp only[q]at h;cases h
  |some w=>
   simp only[q]at h;simp only[h,if_true]
 |bind x=>exact g_ rfl (ng x)
theorem kI(x:Str):∀hs:List Str,cC (.str x) (hs.map .str)=decide (x∈hs)
 |[]=>by rfl
 |y::r=>by
  show(oW _ _ || cC _ _)=_;rw[kI x r];have e:oW (.str y) (.str x)=decide (x=y):=by
   by_cases z:x=y
   ·subst z;rfl
   ·rw[d_ z];exact beq_eq_false_iff_ne.mpr λw=>z w.symm
  rw[e];by_cases z:x=y
  ·subst z;simp
  ·rw[d_ z,Bool.false_or];by_cases q:x∈r
   ·rw[c_ q,c_ (Ak _ q)]
   ·rw[d_ q,d_ (by simp[z,q])]
theorem tM{hp:Nm}(nd:(hp.map (·.1)).Nodup){p:Str×Ad}(h:p∈hp):look hp p.1=ae p.2:=by
 cases q:look hp p.1 with
 |none=>
  have a:=qj hp p.1;rw[q]at a;have b:(hp.any λq=>decide (q.1=p.1))=ah:=D4.mpr ⟨p,h,c_ rfl⟩;rw[b]at a;cases a
 |some v=>
  obtain⟨i,c⟩:=B1.mp h;obtain⟨j,d⟩:=B1.mp (j0 q);have k:(hp.map (·.1))[i]?=ae p.1:=by rw[Am,c];rfl
  have g:(hp.map (·.1))[j]?=ae p.1:=by rw[Am,d];rfl
  obtain⟨m,e⟩:=Ar.mp k;obtain⟨l,f⟩:=Ar.mp g;have:=(Fq nd).mp (e.trans f.symm);rw[this,d]at c;have:=Bw c;rw[<-this]
theorem J9{δ:Sl}{n:Int}{K:DEnds}{i:Nat}(k:K.nx (δ.set i (ae (.odk (bM [])))) n):hX i iR δ n K:=k
theorem AW{δ:Sl}{n:Int}{K:DEnds}{g:dz}{W:aF}{xs ys:List Ad}(e0:δ[0]?=ae (↑(.tuple xs)))(e1:δ[1]?=ae (↑(.tuple ys)))(hl:xs.length=ys.length)(k:ew g W K (du xs ys) δ n):aZ (ma ↥0 ↥1) g W δ n K:=by
 unfold aZ ma;exact av e0 (av e1 ⟨hl,k⟩)
theorem Ow:b7 mS FT ["pattern","row","names","having","bound","field","value"]:=λws n Q h=>by
 obtain⟨T,row,S,rfl,C,X,A,k0⟩:=h;have k:∀r,nU T row S r->Q _ n:=λr s=>by rw[Nv s];omega
 refine aB (yA rfl rfl (λne=>?_) λel=>?_)
 ·show Q _ n;refine k .none ?_;unfold nU;rw[Ab]at ne;rw[a_ ne]
 ·rw[Ab]at el;dsimp only[aN];refine aB (oz rfl A ?_);dsimp only[A8];refine aB (J9 ?_);dsimp only[A8];refine aB (AW rfl rfl (by rw[Ab];omega) ?_);refine eS (λds δ m=>m=n/\∃(a:List Fd)(c:List Ad)(f j:Nm)(B:List Str)(y z:Option SV),ds=du (a.map Fd.d) c/\a.length=c.length/\δ=[↑(fR T),↑(.tuple row),↑(cF S),ae (.odk (bM f)),ae (.odk (bM j)),y,z] /\
   (∀g∈a,g.ok)/\(∀d∈c,bL d=ah)/\(f.map (·.1)).Nodup/\(∀p∈f,d6 p)/\(∀p∈j,d6 p)/\f.length+a.length<=48/\j.length+a.length<=48/\(∀x,x∈B↔(look j x).isSome=ah)/\(∀x w,look j x=ae w->look f x=ae w)/\∀r,lS a c f B r->Q (.d r) n) ?_ ?_ _ _ _ ?_
  ·rintro δ m ⟨rfl,a,c,f,j,B,y,z,e,O,rfl,u,t,D,b,o,W,l2,G,E,K⟩
   have:a=[]:=by
    cases a with
    |nil=>rfl
    |cons g a=>cases c with|nil=>cases O|cons v c=>cases e
   subst this;rw[List.length_nil]at W;exact⟨f,rfl,by omega,D,λp H=>⟨A5 (b p H).1.1 ∎,EZ (b p H).2⟩,λps' p1 r1=>K _ (by rw[xu D p1 r1];rfl)⟩
  ·rintro d r δ m N ⟨rfl,a,c,f,j,B,y,z,e,O,rfl,u,t,D,b,o,W,l2,G,E,K⟩ Z
   cases a with
   |nil=>cases e
   |cons g a=>
    cases c with
    |nil=>cases O
    |cons v c=>
     have e1:=by have:=congrArg (λl=>l.head?) e;simpa[du]using this
     have e2:r=du (a.map Fd.d) c:=by have:=congrArg List.tail e;assumption
     subst e1 e2;rw[Au]at W l2;rw[Au,Au]at O;have R:=u g Ap;have P:=t v Ap;refine⟨rfl,?_⟩;dsimp only[bF,dg];refine aB (JM rfl rfl rfl rfl R P b o (λff=>?_) λff=>?_)
     ·exact K .none (Kb G E ff)
     ·dsimp only[aN];have I:(∀x,g≠.bind x)->N [ae _,ae _,ae _,ae _,ae _,↑g.d,↑v] m:=λng=>by
       refine Z _ _ ⟨rfl,a,c,f,j,B,_,_,rfl,by omega,rfl,λg V=>u g (Ak _ V),λd U=>t d (Ak _ U),D,b,o,by omega,by omega,G,E,λr s=>K r ?_⟩;unfold lS at s ⊢;rw[Hf,QA ng ff];omega
      cases g with
      |is w=>exact I λx z=>nomatch z
      |any=>exact I λx z=>nomatch z
      |word=>exact I λx z=>nomatch z
      |number=>exact I λx z=>nomatch z
      |as x=>exact I λx z=>nomatch z
      |bind x=>
       refine kl rfl BJ ?_;show(bM j).length < 1000/\(bM f).length < 1000/\N [ae _,ae _,ae _,ae _,ae _,ae _,ae _] m;rw[n7,n7];refine⟨by unfold bM;rw[Ab];omega,by unfold bM;rw[Ab];omega,?_⟩;have p1:=ph f x v;have p2:=ph j x v;refine Z _ _ ⟨rfl,a,c,_,_,if x∈B then B else B++[x],_,_,rfl,by omega,rfl,λg V=>u g (Ak _ V),λd U=>t d (Ak _ U),uY D,l7 b R P,l7 o R P,by omega,by omega,λy=>?_,λy w Y=>?_,λr s=>K r ?_⟩
       ·by_cases q:y=x
        ·subst q;rw[BC];refine⟨λ_=>rfl,λ_=>?_⟩
         split
         ·assumption
         ·exact B2 _ (Bm.mpr rfl)
        ·rw[AX q,<-G]
         split
         ·exact Iff.rfl
         ·simp[q]
       ·by_cases q:y=x
        ·subst q;rw[BC]at Y ⊢;omega
        ·rw[AX q]at Y ⊢;exact E y w Y
       ·unfold lS at s ⊢;rw[Hf,wk];by_cases q:x∈B
        ·rw[b_ q]at s ⊢;cases M:look j x with
         |none=>rw[G,M]at q;cases q
         |some w=>
          have lh:=E x w M;unfold fL at ff;simp only[M]at ff;have wv:=K5 (o _ (j0 M)).2 P ff;subst wv;rw[M0 D lh]at s;simp only[lh,ff,if_true];omega
        ·rw[a_ q]at s ⊢;omega
  ·refine⟨rfl,T,row,S,[],[],_,_,rfl,el,rfl,C.2.2,X.2,A.2.1,A.2.2,λ_ z=>g_ z Bc,by have:=C.2.1;have:=A.1;omega,by have:=C.2.1;simp;omega,λx=>⟨λz=>g_ z Bc,λz=>by cases z⟩,λx w z=>(nomatch z),λr s=>k r ?_⟩;unfold nU;rw[b_ el];trivial
abbrev Zf:List Str:=["_law_tape_here"]
theorem Rw:b7 gX Hq Zf:=λws n Q h=>by
 obtain⟨rfl,f,k⟩:=h;refine bN (au (a7 (Ao ∎ (ic rfl ⋯ ∎ ∎ λr c e=>tT c e λd b=>k d ?_))));simp only[Av,Bc,h_]at b;rcases b with rfl|rfl|rfl|rfl|rfl|rfl|rfl|rfl<;>simp[oH]
theorem K4:b7 k7 Mo Zf:=λws n Q h=>by
 obtain⟨rfl,e,k⟩:=h;refine bN (au (a7 (Ao ∎ ?_)));dsimp only;refine ic rfl ⋯ ∎ ∎ λr b c=>tT b c λd a=>?_;simp only[Av,Bc,h_]at a;rcases a with rfl|rfl|rfl|rfl|rfl|rfl|rfl
 ·exact k 1 ∎ ∎
 ·exact k 2 ∎ ∎
 ·exact k 2 ∎ ∎
 ·exact k 2 ∎ ∎
 ·exact k 1 ∎ ∎
 ·exact k 3 ∎ ∎
 ·exact k 4 ∎ ∎
theorem vS{δ:Sl}{n:Int}{K:DEnds}{W:aF}{g:dz}(e:δ[0]?=ae (ae (.w .tp)))(hn:n < 2 ^ 39)(k:∀m:Nat,1<=m->m<=4->ew g W K (bW 0 m) δ (n+1)):aZ (eW (aD k7 (ao ↥0 ak))) g W δ n K:=by
 refine de (av e (Ao rfl ⟨hn,λm b a=>Ao ⟨by omega,by omega⟩ ?_⟩));exact k m b a
theorem rq{c:bZ}{w:DT}{Q:List Ad->Int->Prop}{aA:Sl}(g:Fe->Option Ad)(hno:∀(f:Fe) (n:Int) (Q':Bool->Int->Prop),g f=af->Q' ai n->c (↑f.d::aA) n Q')
  (hyes:∀(f:Fe)(n:Int)(Q':Bool->Int->Prop)(y:Ad),g f=ae y->Q' ah n->c (↑f.d::aA) n Q') (hw:∀(f:Fe)(n:Int)(Q':DQ)(y:Ad),g f=ae y->Q' (.d y) n->w (↑f.d::aA) n Q'):
  ∀(fs:List Fe)(j_:List Ad)(x:Option SV)(n:Int),Q (j_++fs.filterMap g) n->di (aJ 0) c w Q (fs.map Fe.d) j_ (x::aA) n
 |[],j_,x,n,q=>by
  rw[List.filterMap_nil,Bu]at q;exact q
 |f::r,j_,x,n,q=>by
  rw[Bn];cases e:g f with
  |none=>
   refine hno f n _ e (rq g hno hyes hw r j_ _ n ?_);simp_all
  |some y=>
   refine hyes f n _ y e (hw f n _ y e ?_);refine rq g hno hyes hw r _ _ n ?_;rw[List.filterMap_cons_some e]at q;rw[A2];exact q
def iK(o:Option Str):Option Ad:=o.map .str
theorem Lv(g:Fe->Option Str)(fs:List Fe):fs.filterMap (λf=>iK (g f))=(fs.filterMap g).map .str:=by
 rw[List.map_filterMap];rfl
theorem Kd(f:Fe):cH "bind" (.str f.hd)=f.bd.isSome:=by
 cases f with
 |any=>exact(by rfl)
 |word=>exact(by rfl)
 |num=>exact(by rfl)
 |isv _=>exact(by rfl)
 |bind _=>exact(by rfl)
 |as _=>exact(by rfl)
 |nx _=>exact(by rfl)
theorem Po{f:Fe}{k:Str}(h:f.bd=ae k):f.d=.tuple [.str f.hd,.str k]:=by
 cases f<;>cases h;rfl
theorem xt{o:Option Str}{y:Ad}(h:iK o=ae y):∃k,o=ae k/\y=.str k:=by
 cases o with
 |none=>cases h
 |some k=>cases h;exact⟨k,rfl,rfl⟩
theorem QK{o:Option Str}(h:iK o=af):o=af:=by
 cases o with
 |none=>rfl
 |some k=>cases h
theorem pE{fs:List Fe}(h:dP fs):∀k∈bb fs,fe k:=λk b=>by
 obtain⟨f,a,e⟩:=Hg.mp b;have:=h.2 f a;cases f<;>cases e;trivial
theorem p8{fs:List Fe}(h:dP fs):(bb fs).length<=4:=A5 (List.length_filterMap_le _ _) h.1
theorem Jo{δ:Sl}{n:Int}{Q:DQ}{a b:Ad}(e:δ[0]?=ae (↑(.tuple [a,b])))(k:Q (.d b) n):w2 ↥0 (wC (.int 1)) aw δ n Q:=cO e k
theorem zT{f:Fe}{aA:Sl}{n:Int}{Q':Bool->Int->Prop}(k:Q' f.bd.isSome n):cT (w2 (w2 ↥0 (wC (.int 0)) aw) (wC (.str "bind")) bf) (↑f.d::aA) n Q':=by
 refine eH rfl ?_;rw[Kd];exact k
theorem MM{Q:List Ad->Int->Prop}(fs:List Fe)(n:Int)(k:Q ((bb fs).map .str) n):
  di (aJ 0) (cT (w2 (w2 ↥0 (wC (.int 0)) aw) (wC (.str "bind")) bf)) (w2 ↥0 (wC (.int 1)) aw) Q (fs.map Fe.d) [] [af] n:=by
 refine rq (λf=>iK f.bd) (λf n a e q=>zT ?_) (λf n a y e q=>zT ?_) (λf n a y e q=>?_) fs [] af n ?_
 ·rw[QK e];exact q
 ·obtain⟨x,_⟩:=xt e;simp_all
 ·obtain⟨x,b,rfl⟩:=xt e;exact Jo (by rw[Po b];rfl) q
 ·rw[Lv];exact k
theorem CV{δ:Sl}{n:Int}{hs:List Str}{w:DT}{s:Str}{b:Bool}{Q:Bool->Int->Prop}(hw:∀Q:DQ,Q (.d (.str s)) n->w δ n Q)(e:cC (.str s) (hs.map .str)=b)(q:Q b n):cT (gJ hs w) δ n Q:=hw _ (Ao rfl (by simp_all))
theorem tH{a:Ac}(h:dP a.fs):(∀k∈a.bs,fe k)/\a.bs.length<=4:=by
 cases a with
 |take fs=>exact⟨pE h,p8 h⟩
 |read fs=>exact⟨pE h,p8 h⟩
 |look fs b=>exact⟨pE h,p8 h⟩
 |lay fs b=>exact⟨λk c=>by simp[Ac.bs]at c,by simp[Ac.bs]⟩
 |same f g b=>exact⟨λk c=>by simp[Ac.bs]at c,by simp[Ac.bs]⟩
 |go b=>exact⟨λk c=>by simp[Ac.bs]at c,by simp[Ac.bs]⟩
theorem uZ:∀{ys ks:List Str},ys.Nodup->(∀k∈ys,k∈ks)->ys.length<=ks.length
 |[],_,_,_=>A1 _
 |y::ys,ks,h,b=>by
  obtain⟨f,d⟩:=Dw.mp h;have a:=b y Ap;have:=uZ d λk c=>(List.mem_erase_of_ne (λ(e:k=y)=>f (e▸c))).mpr (b k (Ak _ c));rw[List.length_erase_of_mem a]at this;have:=List.length_pos_of_mem a;rw[Au];omega
structure KnI(w:List Str)(dn:List Ac)(L:List Str):Prop where
 mem:∀k,k∈L↔k∈w++dn.flatMap Ac.bs
 len:L.length<=4+4*dn.length
 ok:∀k∈L,fe k
theorem KnI.first{w:List Str}(h:w.length<=4)(ok:∀k∈w,fe k):KnI w [] w:=⟨λk=>by simp,by simpa using h,ok⟩
theorem KnI.skip{w L:List Str}{dn:List Ac}{a:Ac}(I:KnI w dn L)(e:a.bs=[]):KnI w (dn++[a]) L:=
 ⟨λk=>by rw[I.mem k];simp[e],by rw[An,A4];have:=I.len;omega,I.ok⟩
theorem KnI.more{w L ys:List Str}{dn:List Ac}{a:Ac}(I:KnI w dn L)(h:∀k,k∈ys↔k∈a.bs)(hl:ys.length<=4)(ok:dP a.fs):KnI w (dn++[a]) (L++ys):=
 ⟨λk=>by rw[A7,I.mem k,h k,List.flatMap_append];simp[or_assoc],by rw[An,An,A4];have:=I.len;omega,λk b=>by
  rcases A7.mp b with z|z
  ·exact I.ok k z
  ·exact(tH ok).1 k ((h k).mp z)⟩
theorem nt{v:Ad}(h:v∈oH):bL v=ah:=by
 simp only[oH,Av,Bc,h_]at h;rcases h with rfl|rfl|rfl|rfl|rfl|rfl<;>decide +kernel
theorem QW{v:Wv}{a b:List Ad}{n:Int}{Q:DQ}(hv:fQ v=ae a)(hl:a.length+b.length<=Ay)(q:Q (.d (.list (a++b))) n):ft v (.ln b) n Q:=by
 unfold ft;rw[hv];trivial
theorem AA{δ:Sl}{n:Int}{Q:DQ}(e0:δ[0]?=ae (ae (.w .tp)))(h:n < 2 ^ 39)(k:∀v∈ky,Q (.d v) (n+1)):w2 (dQ 0) (aD cm (ao ↥0 (ao (wB dJ (ao (dQ 0) ak)) ak))) aR δ n Q:=by
 have a:∀n Q,Q (.ln ky) n->dQ 0 δ n Q:=λn Q q=>by unfold dQ;simp_all
 exact au (a _ _ (i6 e0 (λQ q=>aT (a _ _ q)) ⋯ ∎ ∎ λr b c=>uw b c k))
theorem Iz(f:Fe)(r:List Fe):bb (f::r)=f.bd.toList++bb r:=by cases f<;>rfl
theorem OE(fs:List Fe)(f:Fe):bb (fs++[f])=bb fs++f.bd.toList:=by
 unfold bb;rw[List.filterMap_append];rfl
theorem rB:∀{fs:List Fe}{ks:List Str}{f:Fe},rF ks fs->(∀k,f.us=ae k->k∈ks++bb fs)->rF ks (fs++[f])
 |[],ks,f,_,h=>⟨λk a=>by simpa[bb]using h k a,trivial⟩
 |g::r,ks,f,b,c=>⟨b.1,rB b.2 λk a=>by
  have:=c k a;rw[Iz,<-A2]at this;omega⟩
theorem uk{f:Ad}{ks:List Str}(h:f∈ks.map .str):∃s∈ks,f=.str s:=by
 obtain⟨s,a,rfl⟩:=Ba.mp h;exact⟨s,a,rfl⟩
def uU(kv:Wv)(ks:List Str)(n0:Int)(ds:List Ad)(δ:Sl)(n:Int):Prop:=∃(fs:List Fe)(x y z u:Option SV),δ=[ae (.w .tp),ae (.w kv),ae (.own (fs.map Fe.d)),ae (.own ((bb fs).map .str)),x,y,z,u]/\1<=fs.length+ds.length/\fs.length+ds.length<=4/\(∀f∈fs,f.ok/\f.pt=ah)/\rF ks fs/\n+2*(ds.length:Int)<=n0+9
theorem GL:b7 rT Rr ["_law_tape_here","_law_known_here","_law_fields","_law_bound","_law_k","_law_way","_law_some","_law_name"]:=λws n0 Q h=>by
 obtain⟨H,kv,rfl,hkv,hks,hok,hn0,k⟩:=h;refine aB (g6 (aB (g6 ?_)));dsimp only[A8];refine aB (vS rfl ⋯ λm h1 h4=>eS (uU kv H n0) (λδ n I=>?_) (λd r δ n N I kN=>?_) _ _ _ ⟨[],_,_,_,_,rfl,by rw[eQ];simpa using h1,by rw[eQ];simpa using h4,λf P=>(by trivial),trivial,by rw[eQ];omega⟩)
 ·obtain⟨p,x,y,z,u,rfl,J,P,D,W,hn⟩:=I;dsimp only;refine h9 rfl (h9 rfl ?_);exact bN (cy (aT (av rfl (kf (av rfl (Ao (show 2<=1000 by decide) (k p n ⋯ ⟨by simpa using P,λf z=>(D f z).1⟩ (λf z=>(D f z).2) W (by simp_all))))))))
 ·obtain⟨p,x,y,z,u,rfl,J,P,D,W,hn⟩:=I;rw[Au]at J P hn;have A:(p.map Fe.d).length < 1000000:=by rw[Ab];omega
  have hbl:(bb p).length<=4:=A5 (List.length_filterMap_le _ _) ⋯;have hbo:=λs hs=>(A7.mp hs).elim (hok s) λz=>pE ⟨by omega,λf z=>(D f z).1⟩ s z;have R:∀(f:Fe) G y z u (B:List Ad),f.ok/\f.pt=ah->(∀k,f.us=ae k->k∈H++bb p)->G<=n+2->B=(bb p).map .str++f.bd.toList.map .str->N [ae _,ae _,ae (.own (p.map Fe.d++[f.d])),ae _,ae _,y,z,u] G:=λf G y z u B Y Z S hB=>
   kN _ _ ⟨_,↑d,y,z,u,by rw[hB,Bd,OE,Bd];rfl,by rw[An,A4];omega,by rw[An,A4];omega,λg hg=>(A7.mp hg).elim (D g) λz=>by rw[Bm]at z;subst z;exact Y,rB W Z,by omega⟩
  have j:∀(f:Fe) G y z u,f.bd=af->f.ok/\f.pt=ah->(∀k,f.us=ae k->k∈H++bb p)->G<=n+2->N [ae _,ae _,ae _,ae (.own ((bb p).map .str)),ae _,y,z,u] G:=λf G y z u fb Y Z S=>
   R f G y z u _ Y Z S (by rw[fb];simp)
  refine aB (rk rfl ⋯ ∎ ∎ λw w0 w1=>?_);dsimp only[A8];refine aB (bB (λQ q=>au (av rfl (lQ rfl (QW hkv (xq (by rw[Ab];omega) (by rw[Ab];omega)) q)))) ?_);dsimp only[A8];refine jQ rfl (λhw=>?_) (λhw=>?_)
  ·exact iO rfl (cy (aH (de (av rfl (Ao rfl ⟨by omega,λv hv=>Ao (show 2<=1000 by decide) (Ao A (j (.isv v) _ _ _ _ rfl ⟨nt hv,rfl⟩ (λk C=>by cases C) ⋯))⟩)))))
  ·refine jQ rfl (λhw6=>?_) (λhw6=>?_)
   ·refine iO rfl (au (a7 (Ao ∎ (Ao ∎ (Ao ∎ (Ao ∎ (au (av rfl (aH ?_)))))))));dsimp only[cg];refine iC ⋯ (show w-3 < 3 by omega) λf o=>?_;simp only[Av,Bc,h_]at o;rcases o with rfl|rfl|rfl
    ·exact Ao A (j .any _ _ _ _ rfl ⟨trivial,rfl⟩ (λk C=>by cases C) ⋯)
    ·exact Ao A (j .word _ _ _ _ rfl ⟨trivial,rfl⟩ (λk C=>by cases C) ⋯)
    ·exact Ao A (j .num _ _ _ _ rfl ⟨trivial,rfl⟩ (λk C=>by cases C) ⋯)
   ·have F:∀K L,(∀δ n,N δ n->K.nx δ n)->aq (ay 7 (w2 (bg (aO (ao (wC (.str "n")) (ao (wC (.str "nm")) (ao (wC (.str "go")) (ao (wC (.str "m")) ak)))))) _ aR)) (aq (aW 3 ↥7) (aW 2 (ax (ao (wC (.str "bind")) (ao ↥7 ak)))))
      [ae _,ae _,ae _,ae (.own ((bb p).map .str)),ae _,↑(.int w),↑(.list L),u] (n+1) K:=λK L hK=>by
     refine aB (au (a7 (Ao ∎ (ic rfl ⋯ ∎ ∎ λr V r1=>iC V r1 λf o=>?_))));have:∃s:Str,f=.str s/\fe s:=by
      simp only[Av,Bc,h_]at o;rcases o with rfl|rfl|rfl|rfl<;>exact⟨_,rfl,by decide +kernel,by decide +kernel⟩
     obtain⟨s,rfl,so⟩:=this;dsimp only[A8];refine aB (kH rfl (λQ q=>av rfl q) (by rw[Ab];omega) ?_);dsimp only[A8];exact kH rfl (λQ q=>cy (aH (av rfl (Ao (show 2<=1000 by decide) q)))) A (hK _ _ (R (.bind s) _ _ _ _ _ ⟨so,rfl⟩ (λk C=>by cases C) ⋯ rfl))
    by_cases M:w < 8
    ·refine bP (λQ q=>md (λQ q=>aE (λQ q=>au (av rfl (aH ?_))) q) q) (F _ _ λ_ _ z=>z);show Q _ _;simp_all
    ·have E:∀f∈H.map Eg++(bb p).map Eg,∃s∈H++bb p,f=.str s:=λf P=>uk (by rw[Bd];omega);have O:(H.map Eg++(bb p).map Eg).length<=2000:=by rw[An,Ab,Ab];omega
     generalize(H.map Eg++(bb p).map Eg)=L at E O;cases L with
     |nil=>
      refine bP (λQ q=>gf (λQ q=>aE (λQ q=>au (av rfl (aH ?_))) q) (aE (λQ q=>au (av rfl (a7 (Ao (A1 _) q)))) q)) (F _ _ λ_ _ z=>z);show Q (.d (.bool (decide _))) _;rw[d_ M];exact q
     |cons a l=>
      refine bo (λQ q=>gf (λQ q=>aE (λQ q=>au (av rfl (aH ?_))) q) (aE (λQ q=>au (av rfl (a7 (Ao (A1 _) q)))) q)) ?_
      ·show Q (.d (.bool (decide _))) _;rw[d_ M];exact q
      ·refine iO rfl (cy (aH (au (av rfl (i6 rfl (λQ q=>aT (av rfl q)) ⋯ (by simp) ⋯ λr V r1=>iC V r1 λf o=>?_)))));obtain⟨s,hs,rfl⟩:=E f o;exact Ao (show 2<=1000 by decide) (Ao A (j (.as s) _ _ _ _ rfl ⟨hbo s hs,rfl⟩ (λk C=>by cases C;omega) ⋯))
theorem yj{v:Ad}(h:v∈ky):gx v:=by
 simp only[ky,Av,Bc,h_]at h;rcases h with rfl|rfl|rfl|rfl|rfl<;>first|exact .inl rfl|exact .inr ⟨_,rfl,by simp⟩
def uW(ks:List Str)(n0:Int)(ds:List Ad)(δ:Sl)(n:Int):Prop:=∃(fs:List Fe)(x y:Option SV),δ=[ae (.w .tp),ae (.w (.ln (ks.map .str))),ae (.own (fs.map Fe.d)),x,y]/\fs.length+ds.length<=4/\1<=fs.length+ds.length/\(∀f∈fs,f.ok/\f.tm=ah)/\rF ks fs/\n+2*(ds.length:Int)<=n0+9
theorem JB:b7 tF Rf ["_law_tape_here","_law_known_here","_law_fields","_law_k","_law_way"]:=λws n0 Q h=>by
 obtain⟨E,rfl,S,j,R,k⟩:=h;refine aB (g6 ?_);dsimp only[A8];refine aB (vS rfl ⋯ λm Y U=>eS (uW E n0) (λδ n I=>?_) (λd r δ n N I Z=>?_) _ _ _ ⟨[],_,_,rfl,by rw[eQ];simpa using U,by rw[eQ];simpa using Y,λf D=>(by trivial),trivial,by rw[eQ];omega⟩)
 ·obtain⟨u,x,y,rfl,D,A,e,J,P⟩:=I;dsimp only;exact h9 rfl (bN (aT (av rfl (kf (k u n ⋯ ⟨by simpa using D,λf z=>(e f z).1⟩ (λf z=>(e f z).2) J (by simp_all))))))
 ·obtain⟨u,x,y,rfl,D,A,e,J,P⟩:=I;rw[Au]at D A P;have b:(u.map Fe.d).length < 1000000:=by rw[Ab];omega
  have c:∀(f:Fe) H y,f.ok/\f.tm=ah->(∀k,f.us=ae k->k∈E)->H<=n+2->N [ae _,ae _,ae (.own (u.map Fe.d++[f.d])),ae _,y] H:=λf H y W V hn'=>
   Z _ _ ⟨_,↑d,y,by rw[Bd];rfl,by rw[An,A4];omega,by rw[An,A4];omega,λg T=>(A7.mp T).elim (e g) λz=>by rw[Bm]at z;subst z;exact W,rB J λk i=>C3 _ (V k i),by omega⟩
  refine aB (rk rfl ⋯ ∎ ∎ λw w0 w1=>?_);dsimp only[A8];have B:∀K:DEnds,(∀δ n,N δ n->K.nx δ n)->aW 2 (ax (ao (wC (.str "is")) (ao (aD gX (ao ↥0 ak)) ak))) [ae _,ae _,ae _,ae _,↑(.int w)] (n+1) K:=λK hK=>
   iO rfl (cy (aH (de (av rfl (Ao rfl ⟨by omega,λv hv=>Ao (show 2<=1000 by decide) (Ao b (hK _ _ (c (.isv v) _ _ ⟨nt hv,rfl⟩ (λk i=>by trivial) ⋯)))⟩)))))
  by_cases O:w < 3
  ·refine bP (λQ q=>md (λQ q=>aE (λQ q=>au (av rfl (aH ?_))) q) q) (B _ λ_ _ z=>z);show Q _ _;simp_all
  ·have o:∀Q:DQ,Q _ _->w2 ↥4 (wC (.int 3)) fK [ae (.w .tp),ae (.w (.ln (E.map .str))),ae (.own (u.map Fe.d)),↑d,↑(.int w)] (n+1) Q:=λQ q=>au (av rfl (aH (by
    show Q (.d (.bool (decide _))) _;rw[d_ O];exact q)))
   cases E with
   |nil=>exact bP (λQ q=>gf (λQ q=>aE o q) (aE (λQ q=>au (av rfl (jm (ik q)))) q)) (B _ λ_ _ z=>z)
   |cons a l=>
    refine bo (λQ q=>gf (λQ q=>aE o q) (aE (λQ q=>au (av rfl (jm (ik q)))) q)) (iO rfl (cy (au (a7 (Ao ∎ ?_)))));refine au (av rfl (aH ?_));dsimp only[cg];refine iC ⋯ (show w-3 < 3 by omega) λf t=>au (av rfl ?_);have hl:((a::l).map Eg).length<=1000:=by rw[Ab];omega
    refine i6 rfl (λQ q=>aT (av rfl q)) ⋯ (by simp) ⋯ λr X r1=>uw X r1 λf' p=>?_;obtain⟨s,L,rfl⟩:=uk p;simp only[Av,Bc,h_]at t;rcases t with rfl|rfl|rfl
    ·exact Ao (show 2<=1000 by decide) (Ao b (c (.as s) _ _ ⟨j s L,rfl⟩ (λk i=>by cases i;omega) ⋯))
    ·exact Ao (show 2<=1000 by decide) (Ao b (c (.as s) _ _ ⟨j s L,rfl⟩ (λk i=>by cases i;omega) ⋯))
    ·exact Ao (show 2<=1000 by decide) (Ao b (c (.nx s) _ _ ⟨j s L,rfl⟩ (λk i=>by cases i;omega) ⋯))
abbrev Zc:List Str:=["_law_tape_here","_law_known_here"]
theorem Rb:b7 qf NK Zc:=λws n Q h=>by
 obtain⟨p,rfl,f,g,t,k⟩:=h;have c:∀j,j<=n+1->az (ax (ao (wC (.str "is")) (ao (aD gX (ao ↥0 ak)) ak))) [ae _,ae (.w (.ln (p.map .str)))] j {nx:=λ_ n=>Q (.d .none) n,rt:=Q}:=λn' x=>
  bN (cy (aH (de (av rfl (Ao rfl ⟨by omega,λv u=>Ao (show 2<=1000 by decide) (k (.isv v) _ (nt u) rfl (λk i=>by trivial) ⋯)⟩)))))
 cases p with
 |nil=>exact aB (bP (λQ q=>md (λQ q=>aE (λQ q=>au (av rfl (jm (ik q)))) q) q) (c n ⋯))
 |cons a l=>
  refine aB (cM (gf (λQ q=>aE (λQ q=>au (av rfl (jm (ik q)))) q) (au (ic rfl ⋯ ∎ ∎ λr m o=>aH (iu ?_)))));show if decide _=ah then _ else _
  by_cases h:r=0
  ·rw[b_ (c_ h)];exact c _ ⋯
  ·rw[a_ (by simpa using h)];dsimp only[aN];refine bN (cy (aH (au (av rfl ?_))));have z:((a::l).map Eg).length<=1000:=by rw[Ab];exact f
   refine i6 rfl (λQ q=>aT (av rfl q)) ⋯ (by simp) ⋯ λr m o=>uw m o λf' b=>?_;obtain⟨s,y,rfl⟩:=uk b;exact Ao (show 2<=1000 by decide) (k (.as s) _ (g s y) rfl (λk i=>by cases i;omega) ⋯)
theorem Jt:b7 nG y3 ["_law_tape_here","_law_known_here","_law_open_ones","_law_way","_law_block","_law_pattern_here","_law_bound"]:=λws n Q h=>by
 obtain⟨B,os,D,rfl,p,t,ho,V,F,K,k⟩:=h;show y3 [ae _,ae _,ae _,af,af,af,af] n _;refine aB (rk rfl ⋯ ∎ ∎ λw w0 Z=>?_);dsimp only[A8];refine aB (jQ rfl (λhw=>?_) (λhw=>?_))
 ·refine bN (cy (iZ (aH (cb (av rfl (av rfl (Dl B ⟨rfl,p,t,by omega,λfs I l j G i y=>AA rfl ⋯ λv T=>?_⟩)))))));exact Ao (show 3<=1000 by decide) (jm (Ao (show 2<=1000 by decide) (k (.lay fs v) _ ⟨j,G,yj T,l⟩ ⟨i,λb J=>by trivial⟩ ⋯)))
 dsimp only[aN];refine aB (au (av rfl (i6 rfl (λQ q=>aT (av rfl q)) ⋯ (by rw[Ab];omega) (by rw[Ab];omega) λr S U=>iC S U λb J=>?_)));obtain⟨b,E,rfl⟩:=Ba.mp J;have Y:=F b E;dsimp only[A8];refine aB (nQ rfl (λh10=>?_) (λh10=>?_))
 ·refine bN (cy (LC (aH (cb (av rfl (av rfl (Dl B ⟨rfl,p,t,by omega,λf I R O X y=>cb (av rfl (av rfl (Dl B ⟨rfl,p,t,by omega,λg L W M P H=>?_⟩)))⟩)))))));refine av rfl (Ao (show 4<=1000 by decide) (jm (Ao (show 2<=1000 by decide) (k (.same f g b) _ ⟨⟨show 2<=4 by decide,λe C=>?_⟩,O,M⟩ ⟨⟨X,λk N=>C3 _ (P k N),trivial⟩,λb' d=>by cases d;omega⟩ ⋯))));simp only[Ac.fs,Av,Bc,h_]at C;rcases C with rfl|rfl
  ·exact R
  ·exact W
 dsimp only[aN];refine aB (nQ rfl (λh11=>?_) (λh11=>?_))
 ·exact bN (cy (cy (aH (av rfl (Ao (show 2<=1000 by decide) (jm (Ao (show 2<=1000 by decide) (k (.go b) _ ⟨⟨show 0<=4 by decide,λe C=>by trivial⟩,trivial⟩ ⟨trivial,λb' d=>by cases d;omega⟩ ⋯))))))))
 dsimp only[aN];refine aB (cb (av rfl (av rfl (Dl B ⟨_,rfl,rfl,p,t,by omega,λfs I l j o i y=>?_⟩))));refine Ao rfl ?_;dsimp only[bF,aJ];refine aB (tS rfl (λh7=>?_) (λh7=>?_))
 ·exact bN (cy (iZ (aH (av rfl (av rfl (Ao (show 3<=1000 by decide) (av rfl (Ao (show 2<=1000 by decide) (k (.look fs b) _ ⟨j,l,o⟩ ⟨i,λb' d=>by cases d;omega⟩ ⋯)))))))))
 dsimp only[aN];refine bN (cy (cy (au (a7 (Ao ∎ (au (av rfl (aH ?_))))))));dsimp only[cg];refine iC ⋯ (show w-4 < 4 by omega) λf z=>?_;simp only[Av,Bc,h_]at z;rcases z with rfl|rfl|rfl|rfl
 ·exact av rfl (Ao (show 2<=1000 by decide) (av rfl (Ao (show 2<=1000 by decide) (k (.take fs) _ ⟨j,l,o⟩ ⟨i,λb' d=>by trivial⟩ ⋯))))
 ·exact av rfl (Ao (show 2<=1000 by decide) (av rfl (Ao (show 2<=1000 by decide) (k (.take fs) _ ⟨j,l,o⟩ ⟨i,λb' d=>by trivial⟩ ⋯))))
 ·exact av rfl (Ao (show 2<=1000 by decide) (av rfl (Ao (show 2<=1000 by decide) (k (.take fs) _ ⟨j,l,o⟩ ⟨i,λb' d=>by trivial⟩ ⋯))))
 ·exact av rfl (Ao (show 2<=1000 by decide) (av rfl (Ao (show 2<=1000 by decide) (k (.read fs) _ ⟨j,l,o⟩ ⟨i,λb' d=>by trivial⟩ ⋯))))
def f6:List (List Str):=[[],["n"],["go","n"],["nm"]]
theorem MY{w:List Str}(h:w∈f6):w.length<=4/\(∀k∈w,fe k)/\w.Nodup/\ie w:=by
 have c:∀w∈f6,w.length<=4/\(∀k∈w,k.length<=4/\Ec k=ah/\kx 4 (.str k)=ah)/\w.Nodup/\w.Pairwise λa b=>¬b.cps.toList < a.cps.toList:=by decide +kernel
 exact c w h
theorem LS{Q:List Ad->Int->Prop}{n:Int}(ss ks:List Str)(k:Q ((ss.map Eg).filter λx=>!cC x (ks.map .str)) n):
  di (aJ 0) (cT (w2 ↥0 ↥1 (dZ ah))) ↥0 Q (ss.map .str) [] [af,ae (.w (.ln (ks.map .str)))] n:=by
 refine qz (λd=>∃s:Str,d=.str s) (λx=>!cC x (ks.map .str)) id (λd n c b q=>?_) (λd n c b q=>av rfl q) _ [] af n (λd b=>?_) ?_
 ·obtain⟨s,rfl⟩:=b;exact aE (λQ q=>au (av rfl (av rfl (Ao rfl ⟨mY ks,q⟩)))) q
 ·obtain⟨s,_,rfl⟩:=Ba.mp b;exact⟨s,rfl⟩
 ·rw[List.map_id];exact k
theorem HV(ss ks:List Str):((ss.map Eg).filter λx=>!cC x (ks.map .str)).isEmpty=decide (∀k∈ss,k∈ks):=by
 rw[F6,List.isEmpty_iff,List.filter_eq_nil_iff,decide_eq_true_iff]
 constructor
 ·intro h k a;have:=h _ (Ba.mpr ⟨k,a,rfl⟩);rw[kI]at this;simp_all
 ·intro h d b;obtain⟨k,a,rfl⟩:=Ba.mp b;rw[kI,c_ (h k a)];simp
def ue(ws:List (List Str))(ks:List Str):Ad->Bool
 |.int j=>decide (∀k∈ws.getD j.toNat [],k∈ks)
 |_=>ai
def lH(ws:List (List Str))(ks:List Str):List Nat:=(Be ws.length).filter λb=>decide (∀k∈ws.getD b [],k∈ks)
theorem Ng(ws:List (List Str))(ks:List Str):(bW 0 ws.length).filter (ue ws ks)=(lH ws ks).map λb=>.int (b:Nat):=by
 unfold bW lH;rw[List.filter_map];have e:(λi:Nat=>Fj (0+i))=λb=>.int b:=funext λi=>by simp
 rw[e];rfl
theorem NA{Q:List Ad->Int->Prop}{n:Int}(ws:List (List Str))(ks:List Str)(k:Q ((lH ws ks).map λb=>.int (b:Nat)) n):
  di (aJ 0) (cT (w2 (bg (cK [af,ae 1] (dh (w2 ↥2 ↥0 aR)) (aJ 0) (cT (w2 ↥0 ↥1 (dZ ah))) ↥0)) (bg (aO ak)) bC)) ↥0 Q (bW 0 ws.length) [] [af,ae (.w (.ln (ks.map .str))),↑(.list (ws.map eZ))] n:=by
 refine qz (λd=>∃j:Nat,j < ws.length/\d=.int j) (ue ws ks) id (λd n f c q=>?_) (λd n f c q=>av rfl q) _ [] af n (λd c=>?_) ?_
 ·obtain⟨j,e,rfl⟩:=c;have g:(ws.map eZ)[j]?=ae (.tuple (ws[j].map .str)):=by rw[Am,Ah e];rfl
  refine aE (λQ q=>au (a7 (i9 (λQ q=>au (av rfl (av rfl ?_))) (LS ws[j] ks (jm ?_))))) q
  ·show(match cx _ (j:Int)with|some d=>Q (.d d) n|none=>False);rw[d7 g];exact q
  ·have h:ue ws ks (.int j)=((ws[j].map Eg).filter λx=>!cC x (ks.map .str)).isEmpty:=by
    rw[HV];show decide _=_;rw[Cq,List.getD_eq_getElem?_getD,Ah e,Option.getD_some]
   rw[h]at q;exact q
 ·unfold bW at c;obtain⟨j,e,rfl⟩:=Ba.mp c;exact⟨j,Cn.mp e,by simp⟩
 ·rw[List.map_id,Ng];exact k
theorem RF{ws w0:List (List Str)}{ks:List Str}(h:ws=[]::w0):0 < (lH ws ks).length:=
 List.length_pos_of_mem (a:=0) (En.mpr ⟨Cn.mpr (by simp_all),by subst h;simp⟩)
theorem GY{ws:List (List Str)}{ks:List Str}{b:Nat}(h:b∈lH ws ks):∃w,ws[b]?=ae w/\∀k∈w,k∈ks:=by
 obtain⟨d,c⟩:=En.mp h;have a:=Cn.mp d;refine⟨_,Ah a,?_⟩;have:=e_ c;rw[List.getD_eq_getElem?_getD,Ah a,Option.getD_some]at this;omega
theorem EU:∀{fs:List Fe}{ks ks':List Str},(∀k∈ks,k∈ks')->rF ks fs->rF ks' fs
 |[],_,_,_,_=>trivial
 |f::r,ks,ks',h,z=>⟨λk a=>h k (z.1 k a),EU (λk a=>(A7.mp a).elim (λq=>C3 _ (h k q)) λq=>B2 _ q) z.2⟩
theorem Ac.right_mono{ws:List (List Str)}{ks ks':List Str}{a:Ac}(h:∀k∈ks,k∈ks')(z:a.right ws ks):a.right ws ks':=
 ⟨EU h z.1,λb d=>by obtain⟨w,e,c⟩:=z.2 b d;exact⟨w,e,λk f=>h k (c k f)⟩⟩
theorem QB{ws:List (List Str)}{w ks:List Str}{as:List Ac}{a:Ac}(h:jT ws (w,as))(hk:∀k∈ks,k∈w++as.flatMap Ac.bs)(ha:a.right ws ks):jT ws (w,as++[a]):=λp b c=>by
 by_cases d:p < as.length
 ·rw[Fy d]at c;have:=h p b c;unfold kn at this ⊢;rw[List.take_append_of_le_length (Gn d)];omega
 ·rw[List.getElem?_append_right ⋯]at c;have f:p-as.length=0:=by
   by_cases e:p-as.length=0
   ·exact e
   ·rw[Cf (by rw[A4];omega)]at c;trivial
  rw[f]at c;cases c;have g:p=as.length:=by omega
  subst g;refine Ac.right_mono (λk z=>?_) ha;unfold kn;rw[List.take_append_of_le_length (Al _),List.take_length];exact hk k z
structure ActO(ws:List (List Str))(want ks:List Str)(acts:List Ac):Prop where
 mem:∀k,k∈ks↔k∈want++acts.flatMap Ac.bs
 ok:∀k∈ks,fe k
 fs:∀a∈acts,jw a
 ri:jT ws (want,acts)
def nv(ws:List (List Str))(bl:List Ad)(want:List Str)(nb:Int)(ds:List Ad)(δ:Sl)(n:Int):Prop:=∃(ks:List Str)(acts:List Ac)(x2 x7 x8 x9 x10:Option SV),
 δ=[ae (.w .tp),↑(.list (ws.map eZ)),x2,ae (.own bl),↑(eZ want),ae (.own (ks.map .str)),ae (.own (acts.map Ac.d)),x7,x8,x9,x10]/\ActO ws want ks acts/\ks.length+4*ds.length<=40/\acts.length+ds.length<=8/\n+11*(ds.length:Int)<=nb+89
theorem O2{ws w0:List (List Str)}{bl r:List Ad}{want:List Str}{d:Ad}{ks:List Str}{acts:List Ac}{nb n:Int}{x7 x8 x9 x10:Option SV}{K:DEnds}(hw0:ws=[]::w0)(hwl:ws.length<=6)(hnb:nb+89 < 2 ^ 39)(O:ActO ws want ks acts)(hk:ks.length+4*(r.length+1)<=40)(ha:acts.length+(r.length+1)<=8)(hn:n+11*((r.length:Int)+1)<=nb+89)
  (kN:∀δ n,nv ws bl want nb r δ n->K.nx δ n):
  aq (ay 8 (bg (cK [af,ae 5,ae 1] (eW (wB dJ (ao ↥1 ak))) (aJ 0) (cT (w2 (bg (cK [af,ae 1] (dh (w2 ↥2 ↥0 aR)) (aJ 0) (cT (w2 ↥0 ↥1 (dZ ah))) ↥0)) (bg (aO ak)) bC)) ↥0))) (aq (dq (aD nG (ao ↥0 (ao (cn 5) (ao ↥8 ak)))) (ef 2 (bF (aJ 9) (bF (aJ 10) dg)))) (aq (aW 6 ↥9) (aZ (e8 ↥10) (aJ 7) (aM (cT (w2 ↥7 (cn 5) (dZ ah))) (aW 5 ↥7) aN))))
   [ae (.w .tp),↑(.list (ws.map eZ)),↑d,ae (.own bl),↑(eZ want),ae (.own (ks.map .str)),ae (.own (acts.map Ac.d)),x7,x8,x9,x10] n K:=by
 refine aB (a7 (aT (av rfl ?_)));refine Ao ⟨by omega,by rw[Ab];omega⟩ ?_;rw[Ab];refine NA ws ks ?_;dsimp only[A8];refine aB ?_;have P:(lH ws ks).length<=6:=A5 (Gr _ _) (by rw[D9];omega);refine b9 (av rfl (lQ rfl (av rfl (Dl ks (Dl _ (Dl ws ⟨rfl,by omega,O.ok,RF hw0,by omega,λb J=>GY J,by omega,λact G C y H=>?_⟩))))));refine Ao rfl ?_;dsimp only[bF,aJ];refine aB (kH rfl (λQ q=>av rfl q) (by rw[Ab];omega) ?_);dsimp only[A8];unfold aZ e8;refine av rfl ?_;have D:=tH C.1;refine eS (λds δ l=>∃(c o g:List Str)(x7:Option SV),ds=g.map .str/\o++g=act.bs/\(∀k,k∈c↔k∈ks++o)/\l=G/\δ=[ae _,ae _,ae _,ae _,ae _,ae (.own (c.map .str)),ae _,x7,ae _,ae _,ae _]/\c.length+g.length<=ks.length+4)
  (λδ l I=>?_) (λe S δ l N I x=>?_) _ _ _ ⟨ks,[],_,x7,rfl,rfl,λk=>by simp,rfl,rfl,by omega⟩
 ·obtain⟨c,o,g,x7,e,h,p,rfl,rfl,u⟩:=I;cases Dt.mp e.symm;rw[Bu]at h;subst h;have B:∀k,k∈c↔k∈want++(acts++[act]).flatMap Ac.bs:=λk=>by
   rw[p k,A7,O.mem k,List.flatMap_append,<-A2,A7 (s:=want++acts.flatMap Ac.bs)];simp
  refine kN _ _ ⟨c,_,_,_,_,_,_,by rw[Bd];rfl,⟨B,λk z=>?_,λa z=>?_,QB O.ri (λk z=>(O.mem k).mp z) y⟩,by omega,by rw[An,A4];omega⟩
  ·exact(A7.mp ((p k).mp z)).elim (O.ok k) (D.1 k)
  ·rcases A7.mp z with z|z
   ·exact O.fs a z
   ·rw[Bm]at z;simp_all
 ·obtain⟨c,o,g,x7,F,h,p,rfl,rfl,u⟩:=I;obtain⟨s,v,rfl,rfl,rfl⟩:=C4.mp F.symm;rw[Au]at u;have i:(o++[s])++v=act.bs:=by rw[A2];exact h
  refine cM (au (av rfl (lQ rfl (Ao rfl ⟨mY c,mU (λz=>?_) (λz=>?_)⟩))))
  ·refine kH rfl (λQ q=>av rfl q) (by rw[Ab];omega) (x _ _ ⟨c++[s],_,_,↑(.str s),rfl,i,λk=>?_,rfl,?_,by rw[An,A4];omega⟩)
   ·rw[A7,p k,<-A2,A7 (s:=ks++o)]
   ·rw[Bd];rfl
  ·have M:=by
    have E:=z;rw[kI]at E;simpa using E
   refine x _ _ ⟨c,_,_,_,rfl,i,λk=>?_,rfl,rfl,by omega⟩;rw[<-A2,A7,Bm,<-p k];exact⟨.inl,λq=>q.elim id λe=>e▸M⟩
def sI(n0:Int)(ds:List Ad)(δ:Sl)(n:Int):Prop:=∃(more:List (List Str))(x2:Option SV),δ=[ae (.w .tp),ae (.own (([]::more).map eZ)),x2,af,af,af,af,af,af,af,af]/\more.length+ds.length<=5/\(∀w∈more,w∈f6)/\n+(ds.length:Int)<=n0+6
def mP(ws:List (List Str))(n0:Int)(ds:List Ad)(δ:Sl)(n:Int):Prop:=∃(bl:List Bl)(re:List (List Str))(x2 x4 x5 x6 x7 x8 x9 x10:Option SV),
 δ=[ae (.w .tp),↑(.list (ws.map eZ)),x2,ae (.own (bl.map gg)),x4,x5,x6,x7,x8,x9,x10]/\ds=re.map eZ/\bl.map (·.1)++re=ws/\(∀b∈bl,j8 b/\jT ws b)/\n+90*(ds.length:Int)<=n0+600
theorem J6{ws w0 re:List (List Str)}{bl:List Bl}{want:List Str}{n0 n:Int}{x2 x5 x6 x7 x8 x9 x10:Option SV}{K:DEnds}(hw:∀w∈ws,w∈f6)(hw0:ws=[]::w0)(hwl:ws.length<=6)(hn0:n0+600 < 2 ^ 39)(hb:bl.map (·.1)++want::re=ws)(hbo:∀b∈bl,j8 b/\jT ws b)(hn:n+90*((re.length:Int)+1)<=n0+600)
  (kN:∀δ n,mP ws n0 (re.map eZ) δ n->K.nx δ n):
  aq (bq 5 (lR ↥4)) (aq (bq 6 (aO ak)) (aq (aZ (eW (w2 (bg (aO (ao ⇑2 (ao ⇑1 (ao ⇑3 (ao ⇑2 (ao ⇑0 (ao ⇑1 (ao ⇑2 (ao ⇑3 ak)))))))))) (aD cm (ao ↥0 (ao ⇑8 ak))) aR)) (aJ 2) (aq (ay 8 (bg (cK [af,ae 5,ae 1] (eW (wB dJ (ao ↥1 ak))) (aJ 0) (cT (w2 (bg (cK [af,ae 1] (dh (w2 ↥2 ↥0 aR)) (aJ 0) (cT (w2 ↥0 ↥1 (dZ ah))) ↥0)) (bg (aO ak)) bC)) ↥0))) (aq (dq (aD nG (ao ↥0 (ao (cn 5) (ao ↥8 ak)))) (ef 2 (bF (aJ 9) (bF (aJ 10) dg)))) (aq (aW 6 ↥9) (aZ (e8 ↥10) (aJ 7) (aM (cT (w2 ↥7 (cn 5) (dZ ah))) (aW 5 ↥7) aN)))))) (bO 6 (aW 3 (ax (ao ↥4 (ao (wB fH (ao ↥6 ak)) ak)))))))
   [ae (.w .tp),↑(.list (ws.map eZ)),x2,ae (.own (bl.map gg)),↑(eZ want),x5,x6,x7,x8,x9,x10] n K:=by
 obtain⟨m,h,i,o⟩:=MY (hw want (by rw[<-hb];simp));have x:bl.length+(re.length+1)<=6:=by rw[<-hb,An,Ab]at hwl;omega
 refine aB (FQ rfl (aB (g6 ?_)));dsimp only[A8];refine aB (BF (M:=8) rfl (λQ q=>a7 (Ao ∎ q)) ⋯ rfl ∎ ∎ (λd v=>?_) ∎ λj A=>?_)
 ·simp only[Av,Bc,h_]at v;rcases v with rfl|rfl|rfl|rfl|rfl|rfl|rfl|rfl
  ·exact⟨2,by simp⟩
  ·exact⟨1,by simp⟩
  ·exact⟨3,by simp⟩
  ·exact⟨2,by simp⟩
  ·exact⟨0,by simp⟩
  ·exact⟨1,by simp⟩
  ·exact⟨2,by simp⟩
  ·exact⟨3,by simp⟩
 refine eS (nv ws _ want n) (λδ C I=>?_) (λd H δ C N I s=>?_) _ _ _ ⟨_,[],_,_,_,_,_,rfl,⟨λk=>by simp,h,λa e=>by simp at e,λp a e=>by simp at e⟩,by rw[eQ];omega,by rw[eQ];simpa using A,by rw[eQ];omega⟩
 ·obtain⟨F,c,y,D,E,B,r,rfl,O,_,e,f⟩:=I;dsimp only;refine h9 rfl (iO rfl (cy (av rfl (aT (av rfl (kf ?_))))));have l:=by simpa using e
  refine Ao (show 2<=1000 by decide) (Ao (by rw[Ab];omega) (kN _ _ ⟨bl++[(want,c)],re,_,_,_,_,_,_,_,_,by rw[Bd];rfl,rfl,by rw[Bd,A2];exact hb,λb z=>?_,?_⟩))
  ·rcases A7.mp z with z|z
   ·exact hbo b z
   ·rw[Bm]at z;subst z;exact⟨⟨m,h,l,O.fs,i,o⟩,O.ri⟩
  ·have G:=by simpa using f
   rw[Ab];omega
 ·obtain⟨F,c,y,D,E,B,r,rfl,O,u,e,f⟩:=I;rw[Au]at u e f;exact O2 hw0 hwl ⋯ O u e ⋯ s
theorem Qk:b7 sA Mc ["_law_tape_here","_law_wants","_law_k","_law_blocks","_law_want","_law_known_here","_law_acts","_law_name","_law_open_ones","_law_act_here","_law_bound"]:=λws H Q h=>by
 obtain⟨rfl,t,k⟩:=h;refine aB (Ao (A1 _) (Ao ∎ ?_));dsimp only[A8];refine aB (BF (M:=5) rfl (λQ q=>a7 (Ao ∎ q)) ⋯ rfl ∎ ∎ (λd m=>?_) ∎ λj T=>?_)
 ·simp only[Av,Bc,h_]at m;rcases m with rfl|rfl|rfl|rfl|rfl
  ·exact⟨0,by simp⟩
  ·exact⟨1,by simp⟩
  ·exact⟨0,by simp⟩
  ·exact⟨1,by simp⟩
  ·exact⟨2,by simp⟩
 refine eS (sI H) (λδ n I=>?_) (λd r δ n N I x=>?_) _ _ _ ⟨[],_,rfl,by rw[eQ];simpa using T,λd m=>by simp at m,by rw[eQ];omega⟩
 ·obtain⟨c,L,rfl,C,u,y⟩:=I;refine aB (g6 ?_);dsimp only[A8];refine h9 rfl (aB ?_);unfold aZ e8;refine av rfl ?_;have s:∀w∈([]:List Str)::c,w∈f6:=λd m=>by
   rcases Av.mp m with rfl|z
   ·simp[f6]
   ·exact u d z
  have o:(([]:List Str)::c).length<=6:=by rw[Au];omega
  refine eS (mP _ H) (λδ G I=>?_) (λd r δ G N I x=>?_) _ _ _ ⟨[],_,_,_,_,_,_,_,_,_,rfl,rfl,rfl,λb g=>by simp at g,?_⟩
  ·obtain⟨F,E,R,S,W,K,X,Y,U,B,rfl,A,g,i,l⟩:=I;cases Dt.mp A.symm;rw[Bu]at g;dsimp only;refine h9 rfl (bN (aT (av rfl (kf (k F G ⟨by have:=congrArg Dx g;simp at this;omega,?_,λb z=>⟨(i b z).1,by rw[g];exact(i b z).2⟩⟩ ⟨_,g⟩ (by simpa using l))))));rw[<-g,Ab]at o;omega
  ·obtain⟨F,E,R,S,W,K,X,Y,U,B,rfl,A,g,i,l⟩:=I;obtain⟨J,E,rfl,rfl,rfl⟩:=C4.mp A.symm;rw[Au,Ab]at l;exact J6 s rfl o t g i ⋯ x
  ·have Z:=by simpa using y
   simp;omega
 ·obtain⟨c,L,rfl,C,u,y⟩:=I;rw[Au]at C y;dsimp only[aJ];refine iO rfl (au (a7 (Ao ∎ (Ao ∎ (Ao ∎ (Ao ∎ (Ao ∎ (Ao ∎ (ic rfl ⋯ ∎ ∎ λq O V=>iC O V λw s=>?_)))))))));have:∃v∈f6,w=eZ v:=by
   simp only[Av,Bc,h_]at s;rcases s with rfl|rfl|rfl|rfl|rfl
   ·exact⟨[],by simp[f6],rfl⟩
   ·exact⟨["n"],by simp[f6],rfl⟩
   ·exact⟨["go","n"],by simp[f6],rfl⟩
   ·exact⟨["nm"],by simp[f6],rfl⟩
   ·exact⟨[],by simp[f6],rfl⟩
  obtain⟨v,hv,rfl⟩:=this;refine Ao (by rw[Ab,Au];omega) (x _ _ ⟨c++[v],↑d,?_,by rw[An,A4];omega,λe P=>?_,by omega⟩)
  ·rw[show([]::(c++[v]):List _)=([]::c)++[v]from rfl,Bd];rfl
  rcases A7.mp P with z|z
  ·exact u e z
  ·rw[Bm]at z;simp_all
section
variable{δ:Sl}{n:Int}{K:DEnds}{i:Nat}{s a b c:Str}{r:List Ad}{k:Bool}{Q:Bool->Int->Prop}
theorem AK(e:δ[i]?=ae (↑(.tuple (.str s::r))))(h:cC (.str s) [.str a,.str b,.str c]=k)(q:Q k n):cT (w2 (w2 (aj i) (wC (.int 0)) aw) (ax (ao (wC (.str a)) (ao (wC (.str b)) (ao (wC (.str c)) ak)))) (gi ai)) δ n Q:=by
 refine au (dF e ?_);show 3<=1000/\eG _=ah/\_/\Q _ n;exact⟨by decide,rfl,rfl,by simp_all⟩
theorem mO(e:δ[i]?=ae (↑(.tuple (.str s::r))))(h:cC (.str s) [.str a,.str b]=k)(q:Q k n):cT (w2 (w2 (aj i) (wC (.int 0)) aw) (ax (ao (wC (.str a)) (ao (wC (.str b)) ak))) (gi ai)) δ n Q:=by
 refine au (dF e ?_);show 2<=1000/\eG _=ah/\_/\Q _ n;exact⟨by decide,rfl,rfl,by simp_all⟩
theorem qA{A B:bZ}(ha:∀Q:Bool->Int->Prop,Q ai n->A δ n Q)(q:Q ai n):dR A B δ n Q:=ha _ (q)
end
theorem Nz{δ:Sl}{n:Int}{K:DEnds}{i:Nat}{w:DT}{es:List Ad}(e:δ[i]?=ae (ae (.own es)))(k:w δ n λx n1=>match x with
  |.d (.list fs)=>(es.length < 1000000/\fs.length < 1000000)/\K.nx (δ.set i (ae (.own (es++fs)))) n1
  |_=>False):fq i w δ n K:=by
 unfold fq;rw[e];exact k
theorem NR:b7 rN IM ["_law_program_here","_law_block","_law_place","_law_found","_law_act_here"]:=λws n Q h=>by
 obtain⟨Z,i,p,⟨w,u⟩,rfl,hi,⟨D,E,H,B,_,_⟩,hp,k⟩:=h;dsimp only at D E H B hp k;have G:(Z.map gg)[i]?=ae (gg (w,u)):=by rw[Am,hi];rfl
 refine aB (au (au (av rfl (av rfl (bh G (aH (cW ?_)))))));dsimp only[A8];refine aB (au (au (av rfl (av rfl (bh G (aH (e7 ?_)))))));dsimp only[d8];refine av rfl ?_;dsimp only;rw[vL _ (by rw[Ab];omega),<-List.map_take];refine eS (λds δ t=>∃(y o:List Ac)(L:List Str)(x:Option SV),ds=o.map Ac.d/\y++o=u.take p/\t=n/\δ=[ae _,ae _,ae _,ae (.own (L.map .str)),x]/\KnI w y L) (λδ t I=>?_) (λd r δ t N I kN=>?_) _ _ _
  ⟨[],_,w,_,rfl,rfl,rfl,rfl,KnI.first D E⟩
 ·obtain⟨y,o,L,x,e,l,rfl,rfl,I⟩:=I;cases Dt.mp e.symm;rw[Bu]at l;subst l;dsimp only;refine h9 rfl ?_;have hl:(u.take p).length<=8:=A5 (List.length_take_le _ _) ⋯;have hI:=I.len;exact bN (a7 (av rfl (Dl L ⟨.inl rfl,by omega,λx hx=>A5 (I.ok x hx).1 ∎,λys a b c=>k ys a (λz hz=>I.ok z ((b z).mp hz)) c λz=>(b z).trans (I.mem z)⟩)))
 ·obtain⟨y,o,L,x,e,l,rfl,rfl,I⟩:=I;obtain⟨a,o,rfl,rfl,rfl⟩:=C4.mp e.symm;have W:=(B a (List.mem_of_mem_take (by rw[<-l];simp))).1;have U:L.length<=36:=by
   have h1:y.length+(o.length+1)=(u.take p).length:=by rw[<-l,An,Au]
   have h3:=I.len;have h4:(u.take p).length<=u.length:=G1 _ _;omega
  have A:(y++[a])++o=u.take p:=by rw[A2];exact l
  have m:∀L',KnI w _ L'->N [ae _,ae _,ae _,ae _,↑a.d] t:=λL' I'=>kN _ _ ⟨_,o,L',_,rfl,A,rfl,rfl,I'⟩;have v:∀K (C:∀δ n,N δ n->K.nx δ n) s j r,a.d=.tuple (.str s::cz j::r)->cC _ [.str "take",.str "read",.str "look"]=ah->a.bs=bb j->a.fs=j->aM (cT (w2 (w2 ↥4 _ aw) _ _)) (fq 3 (bg (cK [af] (dh (w2 ↥4 _ aw)) _ _ _))) aN
    [ae _,ae _,ae _,ae (.own (L.map .str)),↑a.d] t K:=λK C s j r R P J e4=>by
   rw[R]at m ⊢;refine bP (λQ q=>AK rfl P q) ?_;have hb:=p8 (e4▸W);refine Nz rfl (a7 (i9 (λQ q=>cO rfl q) (MM j t (Ao ⟨by rw[Ab];omega,by rw[Ab];omega⟩ ?_))));have:=m _ (I.more (λk=>by rw[J]) hb W);rw[Bd]at this;exact C _ _ this
  have skip:∀K (C:∀δ n,N δ n->K.nx δ n) s r,a.d=.tuple (.str s::r)->cC _ [.str "take",.str "read",.str "look"]=ai->a.bs=[]->aM (cT (w2 (w2 ↥4 _ aw) _ _)) (fq 3 (bg (cK [af] (dh (w2 ↥4 ⇑1 aw)) (aJ 0) (cT (w2 (w2 ↥0 ⇑0 aw) (wC (.str "bind")) bf)) (w2 ↥0 ⇑1 aw)))) aN
    [ae _,ae _,ae _,ae _,↑a.d] t K:=λK C s r R P J=>by
   rw[R]at m ⊢;refine bo (λQ q=>AK rfl P q) (C _ _ (m L (I.skip J)))
  cases a with
  |lay j O=>exact skip _ (λ_ _ z=>z) "lay" [cz j,O] rfl (by rfl) rfl
  |take j=>exact v _ (λ_ _ z=>z) "take" j [] rfl (by rfl) rfl rfl
  |read j=>exact v _ (λ_ _ z=>z) "read" j [] rfl (by rfl) rfl rfl
  |look j b=>exact v _ (λ_ _ z=>z) "look" j [.int b] rfl (by rfl) rfl rfl
  |same f g b=>exact skip _ (λ_ _ z=>z) "same" [f.d,g.d,.int b] rfl (by rfl) rfl
  |go b=>exact skip _ (λ_ _ z=>z) "go" [.int b] rfl (by rfl) rfl
theorem EK{α:Type}{f:α->Ad}{P:α->Prop}:∀{ds:List Ad},(∀d∈ds,∃x,P x/\d=f x)->∃xs:List α,ds=xs.map f/\∀x∈xs,P x
 |[],_=>⟨[],rfl,λx b=>by simp_all⟩
 |d::r,h=>by
  obtain⟨x,b,rfl⟩:=h d Ap;obtain⟨xs,rfl,a⟩:=EK λe c=>h e (Ak _ c);exact⟨_,rfl,λy g=>(Av.mp g).elim (λe=>e▸b) (a y)⟩
def qZ(m:Nat)(n0:Int)(ds:List Ad)(δ:Sl)(n:Int):Prop:=∃(ns:List Nt)(x y:Option SV),δ=[ae (.w .tp),↑(.int m),ae (.own (ns.map fi)),x,y]/\ns.length+ds.length<=m/\(∀q∈ns,lM q)/\n+6*(ds.length:Int)<=n0+100
theorem IA:b7 my Mv ["_law_tape_here","_law_most","_law_found","_law_k","_law_row"]:=λws A Q h=>by
 obtain⟨m,rfl,C,p,k⟩:=h;refine aB (g6 ?_);dsimp only[A8];refine aB ?_;unfold aZ eW;refine i6 rfl (λQ q=>au (av rfl (aH q))) ⋯ ⋯ ⋯ λr F J=>Ao ⟨by omega,by omega⟩ ?_;have B:r.toNat<=m:=by omega
 refine eS (qZ m A) (λδ n I=>?_) (λd G δ n N I w=>?_) _ _ _ ⟨[],_,_,rfl,by rw[eQ];simpa using B,λd u=>by simp at u,by rw[eQ];omega⟩
 ·obtain⟨g,x,y,rfl,f,a,i⟩:=I;dsimp only;exact h9 rfl (bN (aT (av rfl (kf (k g n ⟨by simpa using f,a⟩ (by simp_all))))))
 ·obtain⟨g,x,y,rfl,f,a,i⟩:=I;rw[Au]at f i;refine aB (aT (a7 (de (av rfl (Ao rfl ⟨by omega,λs K E=>?_⟩)))));refine Ao ⟨by omega,by omega⟩ ?_;rw[Cq];refine uS _ 1 (λd n H i q=>de (av rfl (Ao rfl ⟨by omega,λv j=>q v _ (nt j) ⋯⟩))) _ [] af _ (by rw[eQ];omega) λrow D o b l=>?_;rw[eQ]at o l;refine kf ?_;dsimp only[A8];refine iO rfl (cy (av rfl (AA rfl ⋯ λv j=>Ao (show 2<=1000 by decide) (Ao (by rw[Ab];omega) (w _ _ ⟨g++[(row,v)],_,_,by rw[Bd];rfl,by rw[An,A4];omega,λe t=>?_,by omega⟩)))));rcases A7.mp t with z|z
  ·exact a e z
  ·rw[Bm]at z;subst z;exact⟨⟨⟨by show row.length<=4;omega,by show 1<=row.length;omega⟩,b⟩,yj j⟩
theorem eC{i j n:Int}{Q:DQ}(k:Q (.d (.int (i+j))) n):cg (λi j=>.int (i+j)) (.d (.int i)) (.d (.int j)) n Q:=k
theorem yK{Q:List Ad->Int->Prop}:∀(ys:List Str)(j_:Nm)(x:Option SV)(n:Int),n+(ys.length:Int) < 2 ^ 39->(∀p∈j_,bL p.2=ah)->(∀(nm:Nm)(n':Int),nm.map (·.1)=j_.map (·.1)++ys->(∀p∈nm,bL p.2=ah)->n'<=n+(ys.length:Int)->Q (nm.map iX) n')->
  di (aJ 0) bQ (ax (ao ↥0 (ao (aD gX (ao ↥1 ak)) ak))) Q (ys.map .str) (j_.map iX) [x,ae (.w .tp)] n
 |[],j_,x,n,_,a,q=>q j_ n (by simp) a ⋯
 |y::ys,j_,x,n,f,a,q=>by
  rw[Au]at f q;simp only[Bn,di,aJ,bQ,if_true];refine cy (av rfl (de (av rfl (Ao rfl ⟨by omega,λv g=>Ao (show 2<=1000 by decide) ?_⟩))));have:=yK ys (j_++[(y,v)]) (↑(.str y)) (n+1) ⋯ (λp c=>(A7.mp c).elim (a p) λz=>by rw[Bm.mp z];exact nt g) λnm n' e b h=>q nm n' (by simp_all) b ⋯;rw[Bd]at this;exact this
theorem NL(as:List Ac)(h:∀a∈as,jw a):(as.flatMap Ac.bs).length<=4*as.length:=by
 induction as with
 |nil=>exact A1 _
 |cons a r c=>
  rw[List.flatMap_cons,An,Au];have:=(tH (h a Ap).1).2;have:=c λb d=>h b (Ak _ d);omega
theorem xg{b:Bl}(ob:j8 b)(p:Nat):(kn b.1 b.2 p).length<=36:=by
 unfold kn;rw[An];have:=NL (b.2.take p) λa c=>ob.2.2.2.1 a (List.mem_of_mem_take c);have:=ob.1;have:=ob.2.2.1;have:=G1 p b.2;omega
def JE(ps:Pg)(mm:Nat)(n0:Int)(ds:List Ad)(δ:Sl)(n:Int):Prop:=∃(hs:List Hn)(re:Pg)(x4 x5 x6 x7:Option SV),δ=[ae (.w .tp),↑(cZ ps),↑(.int mm),ae (.own (hs.map cj)),x4,x5,x6,x7]/\ds=re.map gY/\re=ps.drop hs.length/\hs.length<=ps.length /\
 (∀(i:Nat)(P:List Bl),i < hs.length->ps[i]?=ae P->∃(h:Hn)(b:Bl),hs[i]?=ae h/\P[h.1]?=ae b/\okHn b h)/\n+42*(ds.length:Int)<=n0+210
theorem RW:b7 oO HN ["_law_tape_here","_law_programs","_law_most","_law_hands","_law_program_here","_law_block","_law_place","_law_names"]:=λws n0 Q h=>by
 obtain⟨y,Z,rfl,hmm,⟨q_,C⟩,hn0,k⟩:=h;refine aB (g6 ?_);dsimp only[A8];refine aB ?_;unfold aZ dh;refine av rfl (eS (JE y Z n0) (λδ n I=>?_) (λd r δ n N I kN=>?_) _ _ _ ⟨[],y,_,_,_,_,rfl,rfl,rfl,A1 _,λi P s=>g_ s (Nat.not_lt_zero _),by rw[Ab];omega⟩)
 ·obtain⟨o,re,x4,x5,x6,x7,rfl,S,c,T,l,J⟩:=I;rw[(Dt.mp S.symm)]at c;have j':=List.drop_eq_nil_iff.mp c.symm;dsimp only;refine h9 rfl (bN (cy (aT (av rfl (cb (av rfl (av rfl (Dl Z ⟨rfl,by omega,by simp at J;omega,λns n' V O=>?_⟩))))))));exact Ao (show 2<=1000 by decide) (k o ns n' ⟨by omega,λi P s=>l i P (by have:=(Ar.mp s).1;omega) s⟩ V (by grind))
 ·obtain⟨o,re,x4,x5,x6,x7,rfl,S,c,T,l,J⟩:=I;obtain⟨P,K,rfl,rfl,rfl⟩:=C4.mp S.symm;rw[Au,Ab]at J;have M:o.length < y.length:=by
   have:=congrArg Dx c;rw[Au,D3]at this;omega
  have f:=Fz M;rw[<-c]at f;obtain⟨hP,v⟩:=Bt f;have x:y[o.length]?=ae P:=by simp_all
  obtain⟨g1,g2,g3⟩:=C P (A0 x);refine aB (i6 rfl (λQ q=>aT (av rfl q)) ⋯ (by rw[Ab];omega) (by rw[Ab];omega) λr r0 r1=>?_);rw[Ab]at r1;obtain⟨b,hb⟩:∃b:Nat,r=b:=⟨r.toNat,by omega⟩;subst hb;have D:b < P.length:=by omega
  obtain⟨B,a⟩:∃B:Bl,P[b]?=ae B:=⟨_,Ah D⟩;obtain⟨w,t⟩:=B;have W:(P.map gg)[b]?=ae (gg (w,t)):=by rw[Am,a];rfl
  obtain⟨F,_⟩:=g3 _ (A0 a);have has:t.length<=8:=F.2.2.1;dsimp only[A8];refine aB (i6 (m:=((t.map Ac.d).length:Int)+1) rfl (λQ q=>au (aT (au (au (av rfl (av rfl (bh W (aH (e7 ?_)))))))) ) ⋯ ⋯ (by rw[Ab];omega) λr r0' L=>?_)
  ·exact eC q
  rw[Ab]at L;obtain⟨p,hp⟩:∃p:Nat,r=p:=⟨r.toNat,by omega⟩;subst hp;dsimp only[A8];refine aB (aT (a7 (b9 (av rfl (av rfl (av rfl (Dl P ⟨b,p,_,rfl,a,F,by show p<=t.length;omega,λys u R hup g=>?_⟩)))))));have hys:=A5 (uZ u λz hz=>(g z).mp hz) (xg F p);refine yK ys [] af _ ⋯ (λp hp=>by trivial) λnm n' e G O=>?_;rw[List.map_nil,G3]at e;have hnl:nm.length=ys.length:=by rw[<-e,Ab]
  have E:okHn (w,t) (b,p,nm):=⟨by show p<=t.length;omega,by rw[e];exact u,λq Y=>⟨R _ (by rw[<-e];exact Ba.mpr ⟨q,Y,rfl⟩),G q Y⟩,(by have q:ie (nm.map (·.1)):=(by simp_all);unfold ie at q;rw[Fi]at q;exact q),λk=>by rw[e];exact g k,by show nm.length<=40;omega⟩;dsimp only[eJ];refine iO rfl (iZ (av rfl (av rfl (av rfl (Ao (show 3<=1000 by decide) (Ao (by rw[Ab];omega) (kN _ _ ⟨o++[(b,p,nm)],K,_,_,_,_,by rw[Bd];rfl,rfl,by rw[An];exact v,by rw[An,A4];omega,λi P' s j=>?_,by rw[Ab];omega⟩)))))));rw[An,A4]at s;by_cases z:i < o.length
  ·obtain⟨h,b',q1,q2,q3⟩:=l i P' z j;exact⟨h,b',by simp_all⟩
  ·have z':i=o.length:=by omega
   subst z';rw[x]at j;cases j;exact⟨_,_,by simp,a,E⟩
theorem g9{δ:Sl}{n:Int}{Q:DQ}{u:bZ}{v w:DT}{b:Bool}(hu:∀Q:Bool->Int->Prop,Q b n->u δ n Q)(k:if b=ah then v δ n Q else w δ n Q):fF u v w δ n Q:=hu _ k
theorem lC{α:Type}{c:bZ}{w:DT}{Q:List Ad->Int->Prop}{aA:Sl}(f g:α->Ad)(p:α->Bool):∀(xs:List α)(j_:List Ad)(x:Option SV)(n:Int),(∀a∈xs,∀(n:Int)(Q':Bool->Int->Prop),Q' (p a) n->c (↑(f a)::aA) n Q')->(∀a∈xs,∀(n:Int)(Q':DQ),Q' (.d (g a)) n->w (↑(f a)::aA) n Q')->Q (j_++(xs.filter p).map g) n->di (aJ 0) c w Q (xs.map f) j_ (x::aA) n
 |[],j_,x,n,_,_,q=>by rw[List.filter_nil,List.map_nil,Bu]at q;exact q
 |a::r,j_,x,n,j,h,q=>by
  refine j a Ap n _ ?_;cases e:p a with
  |true=>
   refine h a Ap n _ (lC f g p r _ _ n (λb i=>j b (Ak _ i)) (λb i=>h b (Ak _ i)) ?_);rw[Gv,b_ e]at q;rw[A2];exact q
  |false=>
   refine lC f g p r j_ _ n (λb i=>j b (Ak _ i)) (λb i=>h b (Ak _ i)) ?_;simp_all
structure HandAt(ps:Pg)(hs:List Hn)(h:Nat)(P:List Bl)(xb xp:Nat)(nm:Nm)(w:List Str)(as:List Ac):Prop where
 prog:ps[h]?=ae P
 hand:hs[h]?=ae (xb,xp,nm)
 blk:P[xb]?=ae (w,as)
 hn:okHn (w,as) (xb,xp,nm)
theorem gZ{ps:Pg}{hs:List Hn}(ok:okHs ps hs){h:Nat}(hh:h < ps.length):∃P xb xp nm w as,HandAt ps hs h P xb xp nm w as:=by
 have a:=Ah hh;obtain⟨⟨xb,xp,d⟩,⟨w,as⟩,e,c,b⟩:=ok.2 h _ a;exact⟨_,xb,xp,d,w,as,a,e,c,b⟩
section
variable{ps:Pg}{hs:List Hn}{h:Nat}{P:List Bl}{xb xp:Nat}{nm:Nm}{w:List Str}{as:List Ac}
theorem HandAt.act(H:HandAt ps hs h P xb xp nm w as):bx ps hs h=as[xp]?:=by
 unfold bx;rw[H.prog,H.hand];show(P[xb]?.bind λb=>b.2[xp]?)=_;rw[H.blk];rfl
theorem HandAt.nms(H:HandAt ps hs h P xb xp nm w as):okN nm:=H.hn.n
theorem HandAt.nmq(H:HandAt ps hs h P xb xp nm w as):qI hs h=nm:=by unfold qI;rw[H.hand];rfl
theorem HandAt.ok(H:HandAt ps hs h P xb xp nm w as)(ok:cu ps){a:Ac}(e:bx ps hs h=ae a):jw a:=by
 rw[H.act]at e;exact((ok.2 P (A0 H.prog)).2.2 _ (A0 H.blk)).1.2.2.2.1 a (A0 e)
theorem HandAt.hD(H:HandAt ps hs h P xb xp nm w as):(hs.map cj)[h]?=ae (.tuple [.int xb,.int xp,cF nm]):=by rw[Am,H.hand];rfl
theorem HandAt.pD(H:HandAt ps hs h P xb xp nm w as):(ps.map gY)[h]?=ae (.tuple (P.map gg)):=by rw[Am,H.prog];rfl
theorem HandAt.bD(H:HandAt ps hs h P xb xp nm w as):(P.map gg)[xb]?=ae (.tuple [eZ w,.tuple (as.map Ac.d)]):=by rw[Am,H.blk];rfl
end
theorem yI{δ:Sl}{n:Int}{Q:DQ}{i j xp:Nat}{as:List Ac}(e4:δ[j]?=ae (↑(.int xp)))(e5:δ[i]?=ae (↑(.tuple (as.map Ac.d))))(k:Q (.d (p9 as[xp]?)) n):fF (cT (w2 (aj j) (wB bH (ao (aj i) ak)) fK)) (w2 (aj i) (aj j) aw) (wC .none) δ n Q:=by
 refine g9 (λQ q=>aE (λQ q=>au (av e4 (aT (av e5 (uJ q))))) q) ?_;rw[Ab];by_cases z:(xp:Int) < (as.length:Nat)
 ·rw[b_ (c_ z)];have a:xp < as.length:=by omega
  have b:(as.map Ac.d)[xp]?=ae (Ac.d as[xp]):=by rw[Am,Ah a];rfl
  rw[Ah a]at k;exact au (av e5 (av e4 (bh b k)))
 ·rw[a_ (by simpa using z)];rw[Cf ⋯]at k;assumption
theorem Hv:b7 nA MO ["programs","stand","hand","block","place","acts"]:=λws n Q h=>by
 obtain⟨c,i,e,h,rfl,a,b,k⟩:=h;obtain⟨P,j,d,g,w,f,H⟩:=gZ a b;rw[H.act]at k;refine aB (bB (λQ q=>au (au (au (av rfl (aH (cW (av rfl (bh H.hD (aH (cW q)))))))))) ?_);dsimp only[A8];refine aB (bB (λQ q=>au (au (au (av rfl (aH (cW (av rfl (bh H.hD (aH (e7 q)))))))))) ?_);dsimp only[A8];refine aB (bB (λQ q=>au (au (au (av rfl (av rfl (bh H.pD (av rfl (bh H.bD (aH (e7 q)))))))))) ?_);dsimp only[A8];exact bN (yI rfl rfl k)
theorem xB:∀{row:List Ad},(∀d∈row,bL d=ah)->∃k:List aC,row=k.map DL.vD
 |[],_=>⟨[],rfl⟩
 |d::r,h=>by
  obtain⟨k,rfl⟩:=xB λe a=>h e (Ak _ a);have c:=h d Ap;cases d with
  |int i=>exact⟨.inl i::k,rfl⟩
  |str x=>exact⟨.inr x::k,rfl⟩
  |_=>cases c
theorem p7(k:Int)(m:Nat):bW k (m+1)=.int k::bW (k+1) m:=by
 unfold bW;rw[List.range_succ_eq_map,Bn,B6]
 congr 1
 ·rw[show((0:Nat):Int)=0 from rfl,Int.add_zero]
 ·refine Du λi _=>?_;show Fj _=.int _;have:k+((i+1:Nat):Int)=k+1+i:=by omega
  rw[this]
theorem t4{f:Fe}(h:f.pt=ah):(Fe.fd f).d=f.d:=by cases f<;>first|rfl|cases h
theorem l5{fs:List Fe}(ok:dP fs)(h:fO fs):cz fs=fR (fs.map Fe.fd)/\pz (fs.map Fe.fd):=by
 refine⟨?_,by rw[Ab];exact h.1,by rw[Ab];exact ok.1,λg b=>?_⟩
 ·unfold cz fR;rw[B6]
  congr 1
  exact Du λf a=>(t4 (h.2 f a)).symm
 ·obtain⟨f,a,rfl⟩:=Ba.mp b;have:=ok.2 f a;cases f<;>first|exact this|trivial
theorem yq{a:Ac}(h:a.pf=af):a.wt=ai/\∃s r,a.d=.tuple (.str s::r)/\cC (.str s) [.str "take",.str "read",.str "look"]=ai/\cC (.str s) [.str "take",.str "read"]=ai:=by
 cases a with
 |lay c j=>exact⟨rfl,_,_,rfl,by trivial⟩
 |same f g b=>exact⟨rfl,_,_,rfl,by trivial⟩
 |go b=>exact⟨rfl,_,_,rfl,by trivial⟩
 |take c=>cases h
 |read c=>cases h
 |look c b=>cases h
theorem qk{a:Ac}{fs:List Fd}(h:a.pf=ae fs)(ok:jw a):pz fs/\∃s r,a.d=.tuple (.str s::fR fs::r)/\cC (.str s) [.str "take",.str "read",.str "look"]=ah/\cC (.str s) [.str "take",.str "read"]=a.wt:=by
 cases a with
 |lay fs k=>cases h
 |same f g b=>cases h
 |go b=>cases h
 |take c=>
  cases h;obtain⟨e,o⟩:=l5 (fs:=c) ok.1 ok.2;exact⟨o,_,[],by rw[<-e];rfl,by trivial⟩
 |read c=>
  cases h;obtain⟨e,o⟩:=l5 (fs:=c) ok.1 ok.2;exact⟨o,_,[],by rw[<-e];rfl,by trivial⟩
 |look c b=>
  cases h;obtain⟨e,o⟩:=l5 (fs:=c) ok.1 ok.2;exact⟨o,_,_,by rw[<-e];rfl,by trivial⟩
theorem J7(fs:List Fd)(row:List Ad)(nm:Nm):f5 (c9 fs row nm)=!bV fs row nm:=by
 unfold c9;cases bV fs row nm<;>rfl
theorem pF{fs:List Fd}{nm:Nm}{q:Nt}{r:List Nt}:aQ fs nm (q::r)=if bV fs q.1 nm=ah then ae 0 else(aQ fs nm r).map (·+1):=by
 unfold aQ;rw[List.findIdx?_cons]
theorem Q6{m:List (List aC×Ad)}{k k':List aC}{d:Ad}(h:fY (fu m k d) k'=ah):k'=k\/fY m k'=ah:=by
 unfold fu at h
 split at h
 ·unfold fY at h ⊢;rw[List.any_map,D4]at h;obtain⟨p,b,e⟩:=h;refine .inr (D4.mpr ⟨p,b,?_⟩);have a:=e_ e;dsimp only at a;by_cases z:p.1=k
  ·rw[b_ z]at a;exact c_ a
  ·rw[a_ z]at a;exact c_ a
 ·unfold fY at h ⊢;rw[List.any_append,Bool.or_eq_true]at h;rcases h with h|h
  ·exact .inr h
  ·simp at h;exact .inl h.symm
theorem LV{m:List (List aC×Ad)}{k:List aC}{d:Ad}:(fu m k d).length<=m.length+1:=by
 unfold fu
 split
 ·rw[Ab];omega
 ·rw[An];exact Al _
section
variable{δ:Sl}{n:Int}{Q:DQ}{K:DEnds}{W V:aF}{i:Nat}
theorem jd{neg:Bool}{a:Ad}(k:Q (.d (.bool (if neg then !f5 a else f5 a))) n):bK neg (.d a) (.d .none) n Q:=k
theorem Mq{neg:Bool}{a:Ad}(k:Q (.d (.bool (if neg then !f5 a else f5 a))) n):iW neg (.d a) (.d .none) n Q:=.inr k
theorem Lk{neg:Bool}{o:Ob}(k:Q (.d (.bool neg)) n):iW neg (.ob o) (.d .none) n Q:=.inl ⟨o,rfl,rfl,k⟩
theorem xE{s a b:Str}{r:List Ad}{k:Bool}(e:δ[i]?=ae (↑(.tuple (.str s::r))))(h:cC (.str s) [.str a,.str b]=k)(q:Q (.d (.bool !k)) n):w2 (w2 (aj i) (wC (.int 0)) aw) (ax (ao (wC (.str a)) (ao (wC (.str b)) ak))) (gi ah) δ n Q:=by
 refine au (dF e ?_);show 2<=1000/\eG _=ah/\_/\Q _ n;exact⟨by decide,rfl,rfl,by simp_all⟩
theorem EM{s:Str}{hs:List Str}{r:List Ad}{k:Bool}{Q:Bool->Int->Prop}(e:δ[i]?=ae (↑(.tuple (.str s::r))))(h:cC (.str s) (hs.map .str)=k)(q:Q (!k) n):cT (qg hs (w2 (aj i) (wC (.int 0)) aw)) δ n Q:=dF e ⟨_,rfl,rfl,by rw[h];exact q⟩
theorem yx{ps:Pg}{hs:List Hn}{ns:List Nt}{h i j l:Nat}(e0:δ[i]?=ae (↑(cZ ps)))(e1:δ[j]?=ae (↑(bI hs ns)))(e2:δ[l]?=ae (↑(.int h)))(ok:okHs ps hs)(hh:h < ps.length)(k:Q (.d (p9 (bx ps hs h))) n):aD nA (ao (aj i) (ao (aj j) (ao (aj l) ak))) δ n Q:=
 b9 (av e0 (av e1 (av e2 ⟨ps,hs,ns,h,rfl,ok,hh,k⟩)))
end
theorem M5:b7 sf LY ["programs","stand","hand","act","names","tried","place","note"]:=λws n Q h=>by
 obtain⟨X,hs,R,h,rfl,⟨G,C,y⟩,S,k⟩:=h;obtain⟨P,xb,xp,l,w,as,H⟩:=gZ C S;unfold dt at k;rw[H.nmq]at k;refine aB (bB (λQ q=>yx rfl rfl rfl C S q) ?_);dsimp only[A8];cases L:bx X hs h with
 |none=>
  rw[L]at k;assumption
 |some a=>
  rw[L]at k;have k:Q (.d (i7 (a.pf.bind λfs=>aQ fs l R))) n:=k;show aq _ _ [ae _,ae _,ae _,↑a.d,af,af,af,af] n _;cases E:a.pf with
  |none=>
   rw[E]at k;obtain⟨_,s,r,e,F,_⟩:=yq E;rw[e];exact aB (bP (λQ q=>gf (λQ q=>aE (λQ q=>au (av rfl (aH (jd q)))) q) (EM rfl F q)) (bN (aH k)))
  |some fs=>
   rw[E]at k;obtain⟨of,s,r,e,F,_⟩:=qk E (H.ok G L);rw[e];refine aB (bo (λQ q=>gf (λQ q=>aE (λQ q=>au (av rfl (aH (jd q)))) q) (EM rfl F q)) ?_);dsimp only[aN];refine aB (bB (λQ q=>au (au (au (av rfl (aH (cW (av rfl (bh H.hD (aH (fm q)))))))))) ?_);dsimp only[A8];refine aB (?_);unfold tL;dsimp only[A8];refine aB (au (av rfl (aH (e7 ⟨_,rfl,?_⟩))));refine eS (λds δ m=>m=n/\∃(f:List Nt)(j:Nat)(b:List _)(J K:Option SV),ds=iI j (f.map fi)/\δ=[ae _,ae _,ae _,ae _,ae _,ae (.odt b),J,K] /\
    (∀q∈f,lM q)/\b.length+f.length<=100/\(∀c,fY b c=ah->bV fs (c.map DL.vD) l=ai)/\Q (.d (i7 ((aQ fs l f).map (·+j)))) n) (λδ m I=>?_) (λd r' δ m N I kN=>?_) _ _ _ ⟨rfl,R,0,[],_,_,rfl,rfl,y.2,by have:=y.1;simpa using this,λm_ z=>(by cases z),?_⟩
   ·obtain⟨rfl,f,j,b,J,K,p,rfl,_,_,_,D⟩:=I;have:f=[]:=by
     cases f with
     |nil=>rfl
     |cons q f=>rw[Bn]at p;cases p
    subst this;exact(D)
   ·obtain⟨rfl,f,j,b,J,K,p,rfl,v,Y,V,D⟩:=I;cases f with
    |nil=>cases p
    |cons q f=>
     rw[Bn,Ph]at p;obtain⟨rfl,rfl⟩:=Bt p;rw[Au]at Y;have O:=v q Ap;obtain⟨c,M⟩:=xB O.1.2;have A:∀i,i.length<=b.length+1->(∀c,fY i c=ah->bV fs _ l=ai)->bV fs q.1 l=ai->N [ae _,ae _,ae _,ae _,ae _,ae _,↑(.int j),↑(fi q)] m:=λkvs' a1 a2 Z=>by
      refine kN _ _ ⟨rfl,f,j+1,_,_,_,by rw[show((j+1:Nat):Int)=j+1 from rfl],rfl,λx hx=>v x (Ak _ hx),by omega,a2,?_⟩;rw[pF,a_ (by rw[Z];simp)]at D;have:((λx=>x+j) ∘ λx=>x+1)=λx=>x+(j+1):=funext λx=>by show x+1+j=x+(j+1);omega
      simp_all
     refine⟨rfl,?_⟩;dsimp only[bF,dg,A8];refine cM (show oD 5 _ _ _ _ from dF rfl ⟨c,b,by rw[M];rfl,rfl,?_⟩);show if _=ah then _ else _
     cases et:fY b c with
     |true=>
      exact A b ⋯ V (by simp_all)
     |false=>
      refine aB (cM (au (b9 (cO rfl (dF rfl (av rfl ⟨fs,q.1,l,rfl,of,O.1,H.nms,aH (jd ?_)⟩))))));show if (!f5 _)=ah then _ else _
      rw[J7,Bool.not_not];cases W:bV fs q.1 l with
      |true=>
       rw[pF,b_ W,Option.map_some,Nat.zero_add]at D;exact bN (av rfl D)
      |false=>
       rw[a_ Az];dsimp only[aN];refine aH ⟨b,rfl,dF rfl ⟨c,_,rfl,by rw[M];rfl,by omega,A _ LV (λkey' z=>?_) W⟩⟩;rcases Q6 z with rfl|z
       ·rw[<-M];omega
       ·exact V key' z
   ·have:(λx:Nat=>x+0)=id:=rfl;rw[this,Option.map_id];exact k
theorem pU{ps:Pg}{hs:List Hn}{ns:List Nt}{h:Nat}{a:Ac}(e:bx ps hs h=ae a):bU ps hs ns h=(!a.wt || (dt ps hs ns h).isSome):=by unfold bU;simp_all
theorem LN{a:Ac}(oa:jw a):∃s r,a.d=.tuple (.str s::r)/\cC (.str s) [.str "take",.str "read"]=a.wt:=by
 cases c:a.pf with
 |none=>
  obtain⟨f,s,r,e,_,b⟩:=yq c;exact⟨s,r,e,by simp_all⟩
 |some g=>
  obtain⟨_,s,r,e,_,b⟩:=qk c oa;exact⟨s,_,e,b⟩
section
variable{δ:Sl}{n:Int}{Q:DQ}{w u:DT}{ds i j:List Ad}
theorem KP(xs:List Ad){p:Nat}(hp:p<=xs.length):eD xs (ae (p:Int)) af=xs.drop p:=by
 unfold eD;rw[HT.sIx_nat,HT.sIx_none,Nat.min_eq_left hp];exact List.take_of_length_le (by simp)
theorem qh(k:w δ n λx n1=>match gW [x]with
  |some ds=>ds.length<=1000/\Q (.d (.tuple ds)) n1
  |none=>False):ax (ao w ak) δ n Q:=k
theorem pW{p:Nat}(hw:∀Q:DQ,Q (.d (.tuple ds)) n->w δ n Q)(hu:∀Q:DQ,Q (.d (.int p)) n->u δ n Q)(hp:p<=ds.length)(k:Q (.d (.tuple (ds.take p))) n):d4 w d8 (dG u) δ n Q:=by
 refine hw _ (hu _ ?_);dsimp only;rw[vL _ hp];exact k
theorem pC{p:Nat}(hw:∀Q:DQ,Q (.d (.tuple ds)) n->w δ n Q)(hu:∀Q:DQ,Q (.d (.int p)) n->u δ n Q)(hp:p<=ds.length)(k:Q (.d (.tuple (ds.drop p))) n):d4 w (dG u) d8 δ n Q:=by
 refine hw _ ?_;dsimp only[d8];refine hu _ ?_;dsimp only;rw[KP _ hp];exact k
theorem jo(h:i.length+j.length<=1000000)(k:Q (.d (.tuple (i++j))) n):eT (.d (.tuple i)) (.d (.tuple j)) n Q:=by
 cases i with
 |nil=>exact k
 |cons a r=>exact⟨.inl (λz=>nomatch z),A5 h ∎,k⟩
end
theorem NM:b7 sR Rq ["thing"]:=λws n Q h=>by
 obtain⟨i,rfl,k⟩:=h;exact k
theorem Le:b7 t8 LB ["thing","most"]:=λws n Q h=>by
 obtain⟨i,m,rfl,a,b,k⟩:=h;exact bN (NI (λQ q=>de (av rfl ⟨i,rfl,q⟩)) (Qn (λQ q=>aH q) (λQ q=>av rfl q) (λQ q=>av rfl q) a (by rw[c_ b];exact k)))
theorem KO:b7 sx JG ["value"]:=λws n Q h=>by
 obtain⟨v,rfl,a,k⟩:=h;cases v with
 |str x=>exact k
 |int i=>
  have k:Q (.d (if i=99 then Fj 0 else Fj _)) n:=k;show if decide _=ah then Q _ n else Q _ n
  refine DW (λe=>?_) λe=>?_
  ·rw[b_ e]at k;exact k
  ·rw[a_ e]at k;exact k
 |_=>cases a
theorem Lg:b7 mG OW ["field","having","value"]:=λws n Q h=>by
 obtain⟨f,g,rfl,⟨_,i,b⟩,k⟩:=h;cases f with
 |isv d=>exact k
 |as x=>
  obtain⟨v,e,c⟩:=b x rfl;have k:Q (.d ((look g x).getD .none)) n:=k;rw[e]at k;refine aB (dE rfl (by rfl) ?_);dsimp only[aN];refine aB ?_;show(match bA _ (.inr x)with|some d=>_|none=>False);rw[iB,e];exact k
 |nx x=>
  obtain⟨v,e,c⟩:=b x rfl;have k:Q (.d (jr ((look g x).getD .none))) n:=k;rw[e]at k;refine aB (dE rfl (by rfl) ?_);dsimp only[aN];refine aB ?_;show(match bA _ (.inr x)with|some d=>_|none=>False);rw[iB,e];exact⟨v,rfl,c,k⟩
 |_=>cases i
theorem IY{δ:Sl}{n:Int}{Q:Bool->Int->Prop}(q:Q ah n):bQ δ n Q:=q
theorem q7{α:Type}{w:DT}{Q:List Ad->Int->Prop}{aA:Sl}(f g:α->Ad)(xs:List α)(x:Option SV)(n:Int)(h:∀a∈xs,∀(n:Int) (Q':DQ),Q' (.d (g a)) n->w (↑(f a)::aA) n Q')(q:Q (xs.map g) n):di (aJ 0) bQ w Q (xs.map f) [] (x::aA) n:=by
 refine lC f g _ xs [] x n (λa _ n Q' q=>IY q) h ?_;rw[List.filter_eq_self.mpr λ_ _=>rfl];exact q
theorem RH{ds:List Ad}{n:Int}{Q:DQ}(k:Q (.d (.tuple ds)) n):eJ [.d (.list ds)] n Q:=k
theorem ND:b7 qd O7 ["template","names","having"]:=λws n Q h=>by
 obtain⟨g,e,rfl,i,b,a,k⟩:=h;refine aB (oz rfl a ?_);dsimp only[A8];refine bN (aT (a7 (i9 (λQ q=>av rfl q) ?_)));show di _ _ _ _ _ _ [af,ae _] n;exact q7 Fe.d _ g af n (λf c n j q=>cb (av rfl (⟨f,e,rfl,b f c,q⟩))) (RH k)
theorem NP:b7 lj Nu ["place","names"]:=λws n Q h=>by
 obtain⟨x,a,rfl,k⟩:=h;exact bN (iZ (dF rfl (au (cO rfl (aH (eC (av rfl (Ao (show 3<=1000 by decide) k))))))))
theorem Ie:b7 lW EW ["program","block","names","wanted"]:=λws n Q h=>by
 obtain⟨P,b,j,⟨w,e⟩,rfl,g,m,k⟩:=h;have a:(P.map gg)[b]?=ae (.tuple [eZ w,.tuple (e.map Ac.d)]):=by rw[Am,g];rfl
 have i:kJ P b=w:=by unfold kJ;simp_all
 unfold b4 at k;rw[i]at k;refine aB (bB (λQ q=>au (au (av rfl (av rfl (bh a (aH (cW q))))))) ?_);dsimp only[A8];refine bN (iZ (av rfl (aH (aT (a7 (i9 (λQ q=>av rfl q) ?_))))));show di _ _ _ _ _ _ [af,ae _] n;refine lC iX iX (λp=>decide (p.1∈w)) j [] af n (λp _ n f q=>aE (λQ q=>au (dF rfl (av rfl ⟨rfl,mY w,?_⟩))) q) (λp _ n f q=>av rfl q) ?_
 ·show Q _ n;rw[kI];exact q
 ·exact Ao (show 3<=1000 by decide) k
theorem Sz:b7 iA IS ["hands","hand","place"]:=λws n Q h=>by
 obtain⟨c,h,x,rfl,e,f,k⟩:=h;have d:(aU c h x).map cj=((c.map cj).take h++[cj x])++(c.map cj).drop (h+1):=by
  unfold aU;simp
 rw[d]at k;have g:((c.map cj).take h).length<=5:=A5 (G1 _ _) (by rw[Ab];omega);have i:((c.map cj).drop (h+1)).length<=5:=by rw[D3,Ab];omega
 exact bN (au (au (pW (λQ q=>av rfl q) (λQ q=>av rfl q) (by rw[Ab];omega) (qh (av rfl (Ao (show 1<=1000 by decide) (jo (by rw[A4];omega) (pC (p:=h+1) (λQ q=>av rfl q) (λQ q=>au (av rfl (aH (eC q)))) (by rw[Ab];omega) (jo (by rw[An,A4];omega) k)))))))))
theorem Qu:b7 u4 N2 ["note"]:=λws n Q h=>by
 obtain⟨⟨d,a⟩,rfl,e,k⟩:=h;rcases e with rfl|⟨i,rfl,_⟩
 ·exact bN (g9 (λQ q=>aE (k:=ah) (λQ q=>au (cO rfl (aH (jd q)))) q) (by rw[b_ rfl];exact av rfl k))
 ·exact bN (g9 (λQ q=>aE (k:=ai) (λQ q=>au (cO rfl (aH (jd q)))) q) (cy (dF rfl (au (cO rfl (aH (Ao (show 2<=1000 by decide) k)))))))
theorem ER{a:Ad}{n:Int}{Q:DQ}(ha:gx a)(k:Q (.d (.bool (!fP a))) n):d0 (.d a) (.d (.int 1)) n Q:=by
 rcases ha with rfl|⟨i,rfl,_⟩<;>exact k
theorem GH:b7 tG Pc ["stand"]:=λws n Q h=>by
 obtain⟨g,f,rfl,c,k⟩:=h;refine bN (cy (dF rfl (aT (a7 (i9 (λQ q=>cO rfl q) ?_)))));show di _ _ _ _ _ _ [af] n;refine lC fi _ _ f [] af n (λq a n d b=>aE (λQ e=>au (cO rfl (aH (ER (c q a) e)))) b) (λq a n d b=>de (av rfl ⟨q,rfl,c q a,b⟩)) (Ao (show 2<=1000 by decide) ?_);unfold bI eO dy at k;rw[B6]at k;exact k
theorem O1:∀j:Fin 100,bL (.int ((j.val:Nat):Int))=ah:=by trivial
theorem gE{i:Int}(h0:0<=i)(h1:i<=99):bL (.int i)=ah:=by
 have:=O1 ⟨i.toNat,by omega⟩;rw[show((i.toNat:Nat):Int)=i by omega]at this;omega
theorem BL{i:Int}(h:bL (.int i)=ah):0<=i/\i<=99:=by
 simp only[bL,decide_eq_true_eq]at h;simp_all
theorem vd{v:Ad}(h:bL v=ah):bL (jr v)=ah:=by
 cases v with
 |str x=>exact h
 |int i=>
  obtain⟨c,d⟩:=BL h;show bL (if i=99 then .int 0 else .int _)=ah
  split
  ·exact gE ∎ ∎
  ·exact gE ⋯ ⋯
 |_=>cases h
theorem fw{nm:Nm}{f:Fe}(h:dH nm f):bL (eI nm f)=ah:=by
 obtain⟨c,i,b⟩:=h;cases f with
 |isv d=>exact c
 |as k=>obtain⟨v,e,a⟩:=b k rfl;show bL ((look nm k).getD .none)=ah;rw[e];exact a
 |nx k=>obtain⟨v,e,a⟩:=b k rfl;show bL (jr ((look nm k).getD .none))=ah;rw[e];exact vd a
 |_=>cases i
theorem sy{a b:Ad}{n:Int}{Q:DQ}(ha:bL a=ah)(hb:bL b=ah)(k:Q (.d (.bool (eR a b))) n):bf (.d a) (.d b) n Q:=by
 unfold bf;simp only[lb ha hb];exact k
theorem LI:b7 sG KQ ["act","names","having"]:=λws n Q h=>by
 obtain⟨f,g,b,e,rfl,c,d,_,_,a,k⟩:=h;refine aB (oz rfl a ?_);dsimp only[A8];exact bN (au (cb (cO rfl (⟨f,e,rfl,c,cb (au (av rfl (aH (fm (⟨g,e,rfl,d,sy (fw c) (fw d) k⟩)))))⟩))))
theorem uM{fs:List Fd}{nm:Nm}{ns:List Nt}{i:Nat}(h:aQ fs nm ns=ae i):∃q,ns[i]?=ae q/\bV fs q.1 nm=ah:=by
 unfold aQ at h;rw[F9]at h;obtain⟨a,b,_⟩:=h;exact⟨_,Ah a,b⟩
theorem vP{fs:List Fd}{row:List Ad}{nm:Nm}(h:bV fs row nm=ah):c9 fs row nm=cF (bJ (eB fs row nm)):=by unfold c9;rw[b_ h]
theorem lE{ps:Pg}{hs:List Hn}{ns:List Nt}{h:Nat}{P:List Bl}{xb xp:Nat}{nm:Nm}{w:List Str}{as:List Ac}(H:HandAt ps hs h P xb xp nm w as){a:Ac}(e:bx ps hs h=ae a):dw ps hs ns h=(nV P (xb,xp,nm) ns a).map λr=>(aU hs h r.1,r.2):=by
 unfold dw;rw[H.prog,H.hand,e];rfl
theorem hO{fs:List Fe}{x:Hn}{ns:List Nt}(e:aQ (fs.map Fe.fd) x.2.2 ns=af):bj fs x ns=af:=by unfold bj;rw[e];rfl
theorem gU{fs:List Fe}{x:Hn}{ns:List Nt}{i:Nat}(e:aQ (fs.map Fe.fd) x.2.2 ns=ae i):bj fs x ns=ae (i,dY x (bJ (eB (fs.map Fe.fd) (cq ns i) x.2.2))):=by unfold bj;rw[e];rfl
theorem MJ{s h:Str}{n:Int}{Q:DQ}(k:Q (.d (.bool (!cH h (.str s)))) n):d0 (.d (.str s)) (.d (.str h)) n Q:=k
theorem vy(ns:List Nt)(i:Nat):(cw ns i).map fi=(ns.map fi).take i++(ns.map fi).drop (i+1):=by unfold cw;simp
section
variable{ps:Pg}{hs:List Hn}{ns:List Nt}{h:Nat}{P:List Bl}{xb xp:Nat}{nm:Nm}{w:List Str}{as:List Ac}{n:Int}{Q:DQ}
theorem tZ{δ:Sl}{w2':DT}{x:Hn}{i1 i2 i5:Nat}{ns':List Nt}(e1:δ[i1]?=ae (↑(bI hs ns)))(e2:δ[i2]?=ae (↑(.int h)))(e5:δ[i5]?=ae (↑(eO ns')))(hx:∀Q:DQ,Q (.d (cj x)) n->w2' δ n Q)(hh:h < hs.length)(hl:hs.length<=5)(k:Q (.d (bI (aU hs h x) ns')) n):
  ax (ao (aD iA (ao (w2 (aj i1) ⇑0 aw) (ao (aj i2) (ao w2' ak)))) (ao (aj i5) ak)) δ n Q:=
 cy (b9 (dF e1 (av e2 (hx _ ⟨hs,h,x,rfl,hh,hl,av e5 (Ao (show 2<=1000 by decide) k)⟩))))
theorem sj{a:Ac}{s:Str}{gs:List Fe}{r:List Ad}(H:HandAt ps hs h P xb xp nm w as)(k_:cu ps)(o_:okHs ps hs)(p_:c7 100 ns)(hh:h < ps.length)(ea:bx ps hs h=ae a)(ed:a.d=.tuple (.str s::cz gs::r))(hpf:a.pf=ae (gs.map Fe.fd))(hof:dP gs)(hpat:fO gs)
  (kN:aQ (gs.map Fe.fd) nm ns=af->aq (aM (cT (w2 (w2 ↥3 ⇑0 aw) (wC (.str "look")) d0)) (az (wC .none)) aN) (az (ax (ao (aD iA (ao (w2 ↥1 ⇑0 aw) (ao ↥2 (ao (aD lW (ao (w2 ↥0 ↥2 aw) (ao (w2 ↥3 ⇑2 aw) (ao (w2 ↥4 ⇑2 aw) ak)))) ak)))) (ao ↥5 ak))))
   [↑(cZ ps),↑(bI hs ns),↑(.int h),↑(.tuple (.str s::cz gs::r)),↑(cj (xb,xp,nm)),↑(eO ns),ae (.w (.d .none)),af] n {nx:=λ_ _=>True,rt:=Q})
  (kS:∀i ns',aQ (gs.map Fe.fd) nm ns=ae i->ns'=(if cH "take" (.str s)=ah then cw ns i else ns)->Q (.d (bI (aU hs h (dY (xb,xp,nm) (bJ (eB (gs.map Fe.fd) (cq ns i) nm)))) ns')) n):
  BE [↑(cZ ps),↑(bI hs ns),↑(.int h),↑a.d,af,af,af,af] n {nx:=λ_ n=>Q (.d .none) n,rt:=Q}:=by
 rw[ed];obtain⟨v,o⟩:=l5 hof hpat;have m:h < hs.length:=by rw[o_.1];omega
 have l:hs.length<=5:=by rw[o_.1];exact k_.1
 refine aB (bB (λQ q=>au (au (av rfl (aH (cW (av rfl (bh H.hD q))))))) ?_);dsimp only[A8];refine aB (bB (λQ q=>cO rfl q) ?_);dsimp only[A8];have C:dt ps hs ns h=aQ (gs.map Fe.fd) nm ns:=by
  unfold dt;rw[H.nmq];simp_all
 refine aB (bB (x:=i7 (aQ (gs.map Fe.fd) nm ns)) (λQ q=>b9 (av rfl (av rfl (av rfl ⟨ps,hs,ns,h,rfl,⟨k_,o_,p_⟩,hh,by simp_all⟩)))) ?_);dsimp only[A8];cases j:aQ _ nm ns with
 |none=>exact aB (bP (λQ q=>aE (λQ q=>au (av rfl (aH (jd q)))) q) (kN j))
 |some i=>
  obtain⟨⟨b,k⟩,g,A⟩:=uM j;have B:=(Ar.mp g).1;have f:(ns.map fi)[i]?=ae (.tuple [.tuple b,k]):=by rw[Am,g];rfl
  have y:cq ns i=b:=by unfold cq;simp_all
  refine aB (bo (λQ q=>aE (λQ q=>au (av rfl (aH (jd q)))) q) ?_);dsimp only[aN];refine aB (bB (x:=cF (bJ (eB (gs.map Fe.fd) (cq ns i) nm))) (λQ q=>?_) ?_)
  ·refine b9 (cO rfl (au (au (av rfl (av rfl (bh f (aH (cW (au (av rfl (aH (fm ⟨_,b,nm,by rw[v],o,(p_.2 _ (A0 g)).1,H.nms,?_⟩))))))))))));rw[vP A];rw[y]at q;exact q
  dsimp only[A8];have e:∀ns',ns'=(if cH "take" _=ah then cw ns i else ns)->az (ax (ao (aD iA (ao (w2 ↥1 _ aw) (ao ↥2 (ao (aD lj (ao ↥4 (ao ↥7 ak))) ak)))) (ao ↥5 ak)))
    [↑(cZ ps),↑(bI hs ns),ae _,↑(.tuple (.str s::cz gs::r)),ae _,ae _,↑(.int i),ae _] n {nx:=λ_ n=>Q (.d .none) n,rt:=Q}:=λns' u=>
   bN (tZ rfl rfl rfl (λQ q=>cb (av rfl (av rfl ⟨_,_,rfl,q⟩))) m l (kS i ns' j u))
  refine aB (oK rfl (λz=>?_) λz=>?_)
  ·refine bB (x:=eO (cw ns i)) (λQ q=>au (pW (λQ q=>av rfl q) (λQ q=>av rfl q) (by rw[Ab];omega) (pC (p:=i+1) (λQ q=>av rfl q) (λQ q=>au (av rfl (aH (eC q)))) (by rw[Ab];omega) (jo ?_ ?_)))) ?_
   ·have:=p_.1;rw[Ey,D3,Ab];omega
   ·unfold eO at q;rw[vy]at q;exact q
   ·dsimp only[A8];exact e _ (by rw[b_ z])
  ·dsimp only[aN];exact e ns (by rw[a_ (by rw[z];simp)])
end
theorem IP:b7 nT BE ["programs","stand","hand","act","place","notes","number","names"]:=λws n Q h=>by
 obtain⟨R,s,m,h,a,rfl,⟨j,l,u⟩,B,v,C,k⟩:=h;obtain⟨P,W,M,D,w,T,H⟩:=gZ l B;have x:=H.ok j v;rw[lE H v]at k;have F:h < s.length:=by rw[l.1];omega
 have E:s.length<=5:=by rw[l.1];exact j.1
 cases a with
 |lay U N=>cases C
 |same f g b=>cases C
 |go b=>cases C
 |take t=>
  refine sj H j l u B v rfl rfl x.1 x.2 (λe=>?_) λi z e p=>?_
  ·have k:Q (.d (hU (((bj t _ m).map λq=>(q.2,cw m q.1)).map λr=>(aU s h r.1,r.2)))) n:=k;rw[hO e]at k;assumption
  ·rw[b_ (by rfl)]at p;rw[p];have k:Q (.d (hU (((bj t _ m).map λq=>(q.2,cw m q.1)).map λr=>(aU s h r.1,r.2)))) n:=k;rw[gU e]at k;exact k
 |read t=>
  refine sj H j l u B v rfl rfl x.1 x.2 (λe=>?_) λi z e p=>?_
  ·have k:Q (.d (hU (((bj t _ m).map λq=>(q.2,m)).map λr=>(aU s h r.1,r.2)))) n:=k;rw[hO e]at k;assumption
  ·rw[a_ ∅]at p;rw[p];have k:Q (.d (hU (((bj t _ m).map λq=>(q.2,m)).map λr=>(aU s h r.1,r.2)))) n:=k;rw[gU e]at k;exact k
 |look t b=>
  refine sj H j l u B v rfl rfl x.1 x.2 (λe=>?_) λi z e p=>?_
  ·have k:Q (.d (hU ((match bj t _ m with|some q=>ae _|none=>ae (b4 P b D,m):Option _).map λr=>(aU s h r.1,r.2)))) n:=k;rw[hO e]at k;rw[H.act]at v;obtain⟨S,A,_⟩:=(((j.2 P (A0 H.prog)).2.2 _ (A0 H.blk)).2 M _ v).2 b rfl;rw[Am]at A;obtain⟨I,y,_⟩:=E4.mp A;refine aB (bo (λQ q=>aE (λQ q=>au (dF rfl (aH (MJ (by assumption))))) q) ?_);dsimp only[aN];refine bN (tZ rfl rfl rfl (λQ q=>b9 (au (av rfl (av rfl (bh H.pD ?_))))) F E k);exact au (av rfl (aH (fm (au (av rfl (aH (fm ⟨P,b,D,I,rfl,y,(((j.2 P (A0 H.prog)).2.2 I (A0 y)).1).1,q⟩)))))))
  ·rw[a_ ∅]at p;rw[p];have k:Q (.d (hU ((match bj t _ m with|some q=>ae _|none=>ae (b4 P b D,m):Option _).map λr=>(aU s h r.1,r.2)))) n:=k;rw[gU e]at k;exact k
theorem u9{δ:Sl}{n:Int}{Q:DQ}{w w' w'' v:DT}{S:aP}(k:w δ n λx n1=>w' δ n1 λy n2=>w'' δ n2 λz n3=>v δ n3 λu n4=>S [x,y,z,u] n4 Q):aD S (ao w (ao w' (ao w'' (ao v ak)))) δ n Q:=k
theorem Oj{nm:Nm}{k:Str}(h:k∈nm.map (·.1)):∃v,look nm k=ae v:=by
 obtain⟨p,a,e⟩:=Ba.mp h;have:(nm.any λp=>decide (p.1=k))=ah:=D4.mpr ⟨p,a,c_ e⟩;rw[qj]at this;exact D2.mp this
theorem Pa{f:Fe}(h:f.tm=ah):f.bd=af:=by cases f<;>first|rfl|cases h
theorem oU{f:Fe}(h:f.te=ah):f.tm=ah:=by cases f<;>first|rfl|cases h
theorem rG:∀{fs:List Fe}{ks:List Str},rF ks fs->(∀f∈fs,f.tm=ah)->∀f∈fs,∀k,f.us=ae k->k∈ks
 |[],_,_,_,f,a,_,_=>by simp_all
 |g::r,ks,h,c,f,a,k,d=>by
  rcases Av.mp a with rfl|a
  ·exact h.1 k d
  ·have b:=h.2;rw[Pa (c g Ap)]at b;have:=rG b (λx e=>c x (Ak _ e)) f a k d;simp_all
section
variable{ps:Pg}{hs:List Hn}{ns:List Nt}{h:Nat}{P:List Bl}{xb xp:Nat}{nm:Nm}{w:List Str}{as:List Ac}{n:Int}{Q:DQ}
theorem HandAt.okb(H:HandAt ps hs h P xb xp nm w as)(k_:cu ps):j8 (w,as)/\jT (P.map (·.1)) (w,as):=(k_.2 P (A0 H.prog)).2.2 _ (A0 H.blk)
theorem HandAt.right(H:HandAt ps hs h P xb xp nm w as)(k_:cu ps){a:Ac}(e:bx ps hs h=ae a):a.right (P.map (·.1)) (kn w as xp):=by
 rw[H.act]at e;exact(H.okb k_).2 xp a e
theorem HandAt.fv(H:HandAt ps hs h P xb xp nm w as){f:Fe}(ok:f.ok)(tm:f.tm=ah)(us:∀k,f.us=ae k->k∈kn w as xp):dH nm f:=⟨ok,tm,λk a=>by
 obtain⟨v,e⟩:=Oj ((H.hn.mem k).mpr (us k a));exact⟨v,e,(H.hn.ok _ (j0 e)).2⟩⟩
theorem HandAt.lay(H:HandAt ps hs h P xb xp nm w as)(k_:cu ps){fs:List Fe}{age:Ad}(e:bx ps hs h=ae (.lay fs age)):fs.length<=4/\∀f∈fs,dH nm f:=by
 have a:=H.ok k_ e;exact⟨a.1.1,λf b=>H.fv (a.1.2 f b) (a.2.1 f b) (rG ((H.right k_ e).1) a.2.1 f b)⟩
theorem HandAt.same(H:HandAt ps hs h P xb xp nm w as)(k_:cu ps){f g:Fe}{b:Nat}(e:bx ps hs h=ae (.same f g b)):dH nm f/\dH nm g/\f.te=ah/\g.te=ah:=by
 have a:=H.ok k_ e;have r:=rG (H.right k_ e).1 (λx c=>by
  simp only[Ac.fs,Av,Bc,h_]at c;rcases c with rfl|rfl
  ·exact oU a.2.1
  ·exact oU a.2.2)
 exact⟨H.fv (a.1.2 f (by simp[Ac.fs])) (oU a.2.1) (r f (by simp[Ac.fs])),H.fv (a.1.2 g (by simp[Ac.fs])) (oU a.2.2) (r g (by simp[Ac.fs])),a.2.1,a.2.2⟩
theorem HandAt.to(H:HandAt ps hs h P xb xp nm w as)(k_:cu ps){a:Ac}{b:Nat}(e:bx ps hs h=ae a)(hb:a.to=ae b):∃bl:Bl,P[b]?=ae bl/\j8 bl/\∀k∈bl.1,k∈nm.map (·.1):=by
 obtain⟨g,c,f⟩:=(H.right k_ e).2 b hb;rw[Am]at c;obtain⟨bl,d,rfl⟩:=E4.mp c;exact⟨bl,d,((k_.2 P (A0 H.prog)).2.2 bl (A0 d)).1,λk z=>(H.hn.mem k).mpr (f k z)⟩
end
theorem Pw{a b:Ad}{n:Int}{Q:DQ}{δ:Sl}{i:Nat}(e:δ[i]?=ae (↑(.tuple [a,b])))(k:Q (.d b) n):w2 (aj i) (ij (wC (.int 1))) aw δ n Q:=au (av e k)
theorem HW{a b c d:Ad}{n:Int}{Q:DQ}{δ:Sl}{i:Nat}(e:δ[i]?=ae (↑(.tuple [a,b,c,d])))(k:Q (.d d) n):w2 (aj i) (ij (wC (.int 1))) aw δ n Q:=au (av e k)
theorem JA:b7 qJ Ni ["programs","stand","hand","act","place","notes","names"]:=λws n Q h=>by
 obtain⟨B,u,y,h,rfl,⟨c,i,E⟩,M,k⟩:=h;obtain⟨P,Z,T,j,w,as,H⟩:=gZ i M;have N:h < u.length:=by rw[i.1];omega
 have L:u.length<=5:=by rw[i.1];exact c.1
 refine aB (bB (λQ q=>yx rfl rfl rfl i M q) ?_);dsimp only[A8];cases m:bx B u h with
 |none=>
  unfold dw at k;rw[H.prog,H.hand,m]at k;assumption
 |some a=>
  show aq _ _ [ae _,ae _,ae _,↑a.d,af,af,af] n _;cases G:a.pf with
  |some v=>
   obtain⟨of,s,r,e,K,_⟩:=qk G (H.ok c m);have S:Q (.d (hU (dw B u y h))) n->aD nT (ao ↥0 (ao ↥1 (ao ↥2 (ao ↥3 ak)))) [ae _,ae _,ae _,ae _,af,af,af] n Q:=λk=>
    u9 (av rfl (av rfl (av rfl (av rfl ⟨B,u,y,h,a,rfl,⟨c,i,E⟩,M,m,by simp_all⟩))))
   rw[e]at S ⊢;refine aB (bo (λQ q=>aE (λQ q=>au (av rfl (aH (jd q)))) q) ?_);dsimp only[aN];exact aB (bP (λQ q=>CV (λQ q=>dF rfl q) K q) (bN (S k)))
  |none=>
   rw[lE H m]at k;have t:∀(V:aF) s r,a.d=.tuple (.str s::r)->cC _ [.str "take",.str "read",.str "look"]=ai->
     V [ae _,ae _,ae _,↑a.d,ae _,ae _,ae _] n {nx:=λ_ n=>Q _ n,rt:=Q}->
     aq (aM (cT (w2 ↥3 _ (bK ai))) (az (wC .none)) aN) (aq (aM (cT (gJ Ze (w2 ↥3 _ aw))) (az (aD nT (ao ↥0 (ao ↥1 (ao ↥2 (ao ↥3 ak)))))) aN) (aq (ay 4 (w2 (w2 ↥1 _ aw) ↥2 aw)) (aq (ay 5 (w2 ↥1 ⇑1 aw)) (aq (ay 6 (w2 ↥4 ⇑2 aw)) V))))
      [↑(cZ B),↑(bI u y),ae _,↑a.d,af,af,af] n {nx:=λ_ n=>Q (.d .none) n,rt:=Q}:=λV s r e K kk=>by
    rw[e]at kk ⊢;refine aB (bo (λQ q=>aE (λQ q=>au (av rfl (aH (jd q)))) q) ?_);dsimp only[aN];refine aB (bo (λQ q=>CV (λQ q=>dF rfl q) K q) ?_);dsimp only[aN];refine aB (bB (λQ q=>au (au (av rfl (aH (cW (av rfl (bh H.hD q))))))) ?_);assumption
   have l:∀x C d,Q _ n->az (ax (ao (aD iA (ao (w2 ↥1 _ aw) (ao ↥2 (ao ↥4 ak)))) (ao ↥5 ak))) [↑(cZ B),↑(bI u y),ae _,↑d,↑(cj x),↑(eO C),↑(cF j)] n {nx:=λ_ n=>Q (.d .none) n,rt:=Q}:=λx C d q=>
    bN (tZ rfl rfl rfl (λQ q=>av rfl q) N L q)
   cases a with
   |take v=>cases G
   |read v=>cases G
   |look v b=>cases G
   |lay v D=>
    obtain⟨I,O⟩:=H.lay c m;refine t _ "lay" [cz v,D] rfl (by rfl) (aB (kl rfl (by rfl) (aB ?_)));refine bB (x:=eO (y++[(fS v j,D)])) (λQ q=>?_) ?_
    ·refine au (av rfl (qh (cy (cb (cO rfl (av rfl ⟨v,j,rfl,I,O,H.nms,au (av rfl (aH (fm (Ao (show 2<=1000 by decide) (Ao (show 1<=1000 by decide) (jo (by rw[Ab,A4];have:=E.1;omega) ?_))))))⟩))))));unfold eO at q;rw[Bd]at q;exact q
    ·dsimp only[A8];exact bB (λQ q=>cb (av rfl (av rfl ⟨(Z,T,j),j,rfl,q⟩))) (l _ _ _ k)
   |same f g b=>
    obtain⟨hf,hg,tf,tg⟩:=H.same c m;obtain⟨J,o,p,_⟩:=H.to c m rfl;refine t _ "same" [f.d,g.d,.int b] rfl (by rfl) (aB (dE rfl (by rfl) (cM (ql (λQ q=>eH rfl ?_) ?_))))
    ·rw[show cH "same" _=ah by rfl];exact q
    refine(cb (av rfl (av rfl ⟨f,g,b,j,rfl,hf,hg,tf,tg,H.nms,?_⟩)));have k:Q (.d (bI _ y)) n:=k;refine mU (λz=>?_) λz=>?_
    ·rw[b_ z]at k;exact bB (λQ q=>cb (av rfl (av rfl ⟨(Z,T,j),j,rfl,q⟩))) (l _ _ _ k)
    ·rw[a_ (by rw[z];simp)]at k;exact bB (λQ q=>b9 (au (av rfl (av rfl (bh H.pD (HW rfl (av rfl ⟨P,b,j,J,rfl,o,p.1,q⟩))))))) (l _ _ _ k)
   |go b=>
    obtain⟨J,o,p,_⟩:=H.to c m rfl;refine t _ "go" [.int b] rfl (by rfl) (aB (dE rfl (by rfl) (bo (λQ q=>qA (λQ q=>eH rfl ?_) q) ?_)))
    ·rw[show cH "same" _=ai by rfl];exact q
    exact bB (λQ q=>b9 (au (av rfl (av rfl (bh H.pD (Pw rfl (av rfl ⟨P,b,j,J,rfl,o,p.1,q⟩))))))) (l _ _ _ k)
theorem KI{a b n:Int}{Q:DQ}(k:Q (.d (.bool (decide (a=b)))) n):bf (.d (.int a)) (.d (.int b)) n Q:=k
theorem Kl:b7 d5 Oi ["programs","stand","mover","clock"]:=λws n Q h=>by
 obtain⟨d,a,b,m,rfl,c,g,k⟩:=h;refine aB (bB (λQ q=>aT (av rfl (show Q _ n by rw[Ab];exact q))) ?_);dsimp only[A8];refine aB (bo (λQ q=>m5 (λQ q=>aE (λQ q=>cb (av rfl (av rfl ⟨_,_,rfl,by omega,by omega,q⟩))) q) q) ?_);dsimp only[aN];unfold bz at k;refine bN (g9 (λQ q=>aE (λQ q=>au (av rfl (av rfl (KI q)))) q) ?_);by_cases e:m=d.length
 ·rw[b_ e]at k;rw[b_ (c_ ⋯)];exact de (av rfl ⟨a,b,rfl,λq f=>(c.2.2.2 q f).2,k⟩)
 ·rw[a_ e]at k;rw[a_ (by rw[d_ ⋯];simp)];exact b9 (av rfl (av rfl (av rfl ⟨d,a,b,m,rfl,c,by omega,k⟩)))
theorem L0{δ:Sl}{n:Int}{Q:DQ}{i:Nat}{x:Wv}(e:δ[i]?=ae (ae (.w x)))(k:Q x n):cQ i δ n Q:=by unfold cQ;simp_all
theorem ya{δ:Sl}{n:Int}{Q:DQ}{j:Nat}{ps:Nm}(e:δ[j]?=ae (↑(cF ps)))(ok:okN ps)(k:Q (.dk (bM ps)) n):kh (aj j) δ n Q:=by
 unfold kh jI iq;refine av e ?_;unfold cF;simp only[qH];refine⟨by rw[Ab];have:=ok.1;omega,?_⟩;have:=su ps [] (ok.2.1);rw[show([]:List _)=bM []from rfl,this];exact k
theorem Ma{i:Int}(h:bL (.int i)=ah):jr (.int i)=.int ((i+1) % 100):=by
 obtain⟨a,b⟩:=BL h;show(if i=99 then Fj 0 else Fj _)=_
 split
 ·rename_i e;subst e;rfl
 ·rw[Int.emod_eq_of_lt ⋯ ⋯]
theorem wL:∀{xs ys:List Str},xs.Nodup->ys.Nodup->(∀k,k∈xs↔k∈ys)->ie xs->ie ys->xs=ys
 |[],[],_,_,_,_,_=>rfl
 |[],y::ys,_,_,h,_,_=>by have:=(h y).mpr Ap;simp at this
 |x::xs,[],_,_,h,_,_=>by have:=(h x).mp Ap;simp at this
 |x::xs,y::ys,g,f,h,r,o=>by
  obtain⟨s,j⟩:=Dw.mp g;obtain⟨p,d⟩:=Dw.mp f;obtain⟨b,m⟩:=List.pairwise_cons.mp r;obtain⟨i,c⟩:=List.pairwise_cons.mp o;have e:x=y:=by
   rcases Av.mp ((h x).mp Ap)with e|l
   ·exact e
   ·rcases Av.mp ((h y).mpr Ap)with e|n
    ·exact e.symm
    ·exact zR _ _ (i x l) (b y n)
  subst e;rw[wL j d (λk=>⟨λhk=>?_,λhk=>?_⟩) m c]
  ·rcases Av.mp ((h k).mp (Ak _ hk))with e|q
   ·exact g_ (e▸hk) s
   ·exact q
  ·rcases Av.mp ((h k).mpr (Ak _ hk))with e|q
   ·exact g_ (e▸hk) p
   ·exact q
theorem Mw{nm:Nm}{w:List Str}(nd:(nm.map (·.1)).Nodup)(up:iL nm)(wn:w.Nodup)(wu:ie w)(sub:∀k∈w,k∈nm.map (·.1)):nm.filter (λp=>decide (p.1∈w))=w.map λk=>(k,gD nm k):=by
 have d:(nm.filter λp=>decide (p.1∈w)).map (·.1)=w:=by
  refine wL ?_ wn (λk=>⟨λhk=>?_,λhk=>?_⟩) ?_ wu
  ·exact List.Nodup.sublist (List.Sublist.map _ List.filter_sublist) nd
  ·obtain⟨p,a,rfl⟩:=Ba.mp hk;simp_all
  ·obtain⟨p,a,rfl⟩:=Ba.mp (sub k hk);exact Ba.mpr ⟨p,En.mpr ⟨a,c_ hk⟩,rfl⟩
  ·unfold ie;rw[Fi];exact List.Pairwise.sublist List.filter_sublist up
 have c:=by
  have:(nm.filter λp=>decide (p.1∈w)).map id=(nm.filter λp=>decide (p.1∈w)).map λp=>(p.1,gD nm p.1):=by
   refine Du λp a=>?_;have:=tM nd (En.mp a).1;unfold gD;simp_all
  rw[List.map_id]at this;omega
 rw[c]
 conv=>rhs;rw[<-d]
 rw[B6];rfl
theorem Se{fs:List Fd}{row:List Ad}{nm:Nm}(nd:(nm.map (·.1)).Nodup)(h:bV fs row nm=ah):((eB fs row nm).map (·.1)).Nodup/\(wk (fs.zip row) nm []=ae (eB fs row nm)):=by
 unfold bV at h;rw[Bj]at h;unfold eB;obtain⟨x,a⟩:=D2.mp h.2;rw[a];exact⟨jy _ _ _ _ nd a,rfl⟩
theorem pQ:∀(l:List (Fd×Ad))(h:Nm)(hs:List Str)(k:Nm),(∀p∈l,p.1.ok/\bL p.2=ah)->(∀p∈h,d6 p)->wk l h hs=ae k->(∀p∈k,d6 p)/\k.length<=h.length+l.length
 |[],h,hs,k,_,b,e=>by cases e;exact⟨b,Al _⟩
 | (f,v)::r,h,hs,k,i,b,e=>by
  have g:=λp n=>i p (Ak _ n);have a:wk r h hs=ae k->(∀p∈k,d6 p)/\k.length<=h.length+((f,v)::r).length:=λe=>by
   have:=pQ r h hs k g b e;exact⟨this.1,by rw[Au];omega⟩
  cases f with
  |is w=>unfold wk at e;split at e;exact a e;cases e
  |any=>unfold wk at e;exact a e
  |word=>unfold wk at e;split at e;exact a e;cases e
  |number=>unfold wk at e;split at e;exact a e;cases e
  |as x=>
   unfold wk at e
   split at e
   ·split at e
    ·exact a e
    ·cases e
   ·cases e
  |bind x=>
   unfold wk at e
   split at e
   ·split at e
    ·split at e
     ·exact a e
     ·cases e
    ·cases e
   ·have d:=i _ Ap;have:=pQ r (put h x v) _ k g (l7 b d.1 d.2) e;have:=ph h x v;exact⟨by have:=pQ r _ _ k g (l7 b d.1 d.2) e;exact this.1,by rw[Au];omega⟩
theorem OA{fs:List Fd}{row:List Ad}(of:pz fs)(or:qO row):∀p∈fs.zip row,p.1.ok/\bL p.2=ah:=λp a=>⟨of.2.2 _ (F5 a).1,or.2 _ (F5 a).2⟩
def Sm(k w:Nat)(d:Ad):Prop:=C1 d=ah/\E3 d<=k/\Gq d<=w/\PyData.intsShort 13 d=ah/\PyData.showable d=ah
theorem Sm.small{k w:Nat}{d:Ad}(h:Sm k w d)(hk:k<=20)(hw:w<=2 ^ 20):Small d:=⟨h.1,by have:=h.2.1;omega,by have:=h.2.2.1;omega,h.2.2.2⟩
theorem ym{k w:Nat}:∀ds:List Ad,(∀d∈ds,Sm k w d)->Cp ds=ah/\F3 ds<=k/\PyData.weightAll ds<=(w+1)*ds.length/\PyData.intsShortAll 13 ds=ah/\PyData.showableAll ds=ah
 |[],_=>⟨rfl,A1 _,A1 _,rfl,rfl⟩
 |d::r,h=>by
  obtain⟨a,j,l,e,b⟩:=ym r λx i=>h x (Ak _ i);obtain⟨f,m,n,c,g⟩:=h d Ap;refine⟨?_,?_,?_,?_,?_⟩
  ·rw[Cp,a,f];rfl
  ·rw[F3];omega
  ·rw[PyData.weightAll,Au,Nat.mul_succ];omega
  ·rw[PyData.intsShortAll,e,c];rfl
  ·rw[PyData.showableAll,b,g];rfl
theorem lq{k w m:Nat}{ds:List Ad}(h:∀d∈ds,Sm k w d)(hl:ds.length<=m):Sm (k+1) ((w+1)*m) (.tuple ds):=by
 obtain⟨a,b,e,f,c⟩:=ym ds h;have:=Nat.mul_le_mul_left (w+1) hl;refine⟨by exact a,by rw[E3];omega,by rw[Gq];omega,by trivial⟩
theorem Sm.up{k w k' w':Nat}{d:Ad}(h:Sm k w d)(hk:k<=k')(hw:w<=w'):Sm k' w' d:=⟨h.1,A5 h.2.1 hk,A5 h.2.2.1 hw,h.2.2.2⟩
theorem nK{d:Ad}(h:bL d=ah):Sm 0 20 d:=by
 cases d with
 |str x=>
  have h:(decide _&&(Ec x&&decide _))=ah:=h;rw[Bj,Bj]at h;have c:x.cps.size<=8:=e_ h.1;refine⟨?_,Al _,?_,by trivial⟩
  ·rw[C1];exact h.2.1
  ·rw[Gq];omega
 |int i=>
  simp only[bL,Bj,decide_eq_true_eq]at h;exact⟨by rw[C1],Al _,h.2.2.1,h.2.2.2.1,h.2.2.2.2⟩
 |_=>cases h
theorem Jy{x:Str}(h:okX x):Sm 0 20 (.str x):=by
 have a:x.cps.size<=4:=h.1;refine⟨?_,Al _,?_,by trivial⟩
 ·rw[C1];simp_all
 ·rw[Gq];omega
theorem sT{a b:Ad}{k w:Nat}(ha:Sm k w a)(hb:Sm k w b):Sm (k+1) ((w+1)*2) (.tuple [a,b]):=lq (λd c=>by
 simp only[Av,Bc,h_]at c;rcases c with rfl|rfl
 ·exact ha
 ·exact hb) (Al _)
theorem Rp{nm:Nm}(h:∀p∈nm,d6 p)(hl:nm.length<=40):Sm 2 1720 (cF nm):=(lq (λd b=>by
 obtain⟨p,a,rfl⟩:=Ba.mp b;exact sT (Jy (h p a).1) (nK (h p a).2)) (by rw[Ab];omega)).up (Al _) ∎
theorem Oa{d:Ad}(h:gx d):Sm 0 20 d:=by
 rcases h with rfl|⟨i,rfl,b,a⟩
 ·exact⟨rfl,Al _,by trivial⟩
 ·exact nK (gE ⋯ ⋯)
theorem PB{h:Hn}(h1:h.1<=99)(h2:h.2.1<=99)(ho:∀p∈h.2.2,d6 p)(hl:h.2.2.length<=40):Sm 3 5163 (cj h):=lq (w:=1720) (λd a=>by
 simp only[Av,Bc,h_]at a;rcases a with rfl|rfl|rfl
 ·exact(nK (gE ⋯ ⋯)).up ∎ ∎
 ·exact(nK (gE ⋯ ⋯)).up ∎ ∎
 ·exact Rp ho hl) (Al _)
theorem Rj{q:Nt}(h:lM q):Sm 2 170 (fi q):=sT ((lq (λd a=>nK (h.1.2 d a)) h.1.1.1)) ((Oa h.2).up ∎ ∎)
theorem KR{ps:Pg}{hs:List Hn}{ns:List Nt}(k_:cu ps)(o_:okHs ps hs)(p_:c7 101 ns):Small (bI hs ns):=by
 exact(sT (lq (λd e=>by
  obtain⟨h,o,rfl⟩:=Ba.mp e;obtain⟨i,f⟩:=B1.mp o;have m:=(Ar.mp f).1;have a:i < ps.length:=by rw[<-o_.1];omega
  have l:=Ah a;obtain⟨r,b,j,g,c⟩:=o_.2 i _ l;rw[f]at j;cases j;have k:=k_.2 _ (A0 l);have p:=(Ar.mp g).1;have:=c.pl;have:=((k.2.2 b (A0 g)).1).2.2.1;have:=k.2.1;exact PB ⋯ ⋯ c.ok c.ln) (by rw[Ab,o_.1];exact k_.1)) ((lq (λd e=>by
  obtain⟨q,n,rfl⟩:=Ba.mp e;exact Rj (p_.2 q n)) (by rw[Ab];exact p_.1)).up ∎ ∎)).small ∎ ∎
theorem MW{hs:List Hn}{h:Nat}{x:Hn}(hh:h < hs.length):aU hs h x=hs.set h x:=by
 rw[List.set_eq_take_append_cons_drop,b_ hh];rfl
theorem okHs.put{ps:Pg}{hs:List Hn}{h:Nat}{x:Hn}{P:List Bl}{b:Bl}(ok:okHs ps hs)(hP:ps[h]?=ae P)(hb:P[x.1]?=ae b)(hx:okHn b x):okHs ps (aU hs h x):=by
 have c:h < hs.length:=by rw[ok.1];exact(Ar.mp hP).1
 rw[MW c];refine⟨by rw[Cb];exact ok.1,λi f a=>?_⟩;by_cases e:h=i
 ·subst e;rw[hP]at a;cases a;exact⟨x,b,Dq c,hb,hx⟩
 ·obtain⟨d,g,l,k,j⟩:=ok.2 i f a;exact⟨d,g,by rw[Bh e];trivial⟩
theorem wZ{w:List Str}{as:List Ac}{p:Nat}{a:Ac}(h:as[p]?=ae a):kn w as (p+1)=kn w as p++a.bs:=by
 unfold kn;rw[List.take_add_one,h,A2];simp
theorem tY:∀(l:List (Fd×Ad))(h:Nm)(hs:List Str)(k:Nm),(∀x∈hs,x∈h.map (·.1))->wk l h hs=ae k->∀x,x∈k.map (·.1)↔x∈h.map (·.1)\/∃p∈l,p.1=.bind x
 |[],h,hs,k,_,e,x=>by cases e;simp
 | (f,v)::r,h,hs,k,g,e,x=>by
  have a:wk r h hs=ae k->(∀y,f=.bind y->y∈h.map _)->(x∈k.map _↔x∈h.map _\/∃p∈(f,v)::r,p.1=.bind x):=λe m=>by
   rw[tY r h hs k g e x]
   constructor
   ·rintro(q|⟨p,b,q⟩)
    ·exact .inl q
    ·exact .inr ⟨p,Ak _ b,q⟩
   ·rintro(q|⟨p,b,q⟩)
    ·exact .inl q
    ·rcases Av.mp b with rfl|b
     ·exact .inl (m x q)
     ·exact .inr ⟨p,b,q⟩
  cases f with
  |is w=>unfold wk at e;split at e;exact a e (λy z=>by cases z);cases e
  |any=>unfold wk at e;exact a e (λy z=>by cases z)
  |word=>unfold wk at e;split at e;exact a e (λy z=>by cases z);cases e
  |number=>unfold wk at e;split at e;exact a e (λy z=>by cases z);cases e
  |as y=>
   unfold wk at e
   split at e
   ·split at e
    ·exact a e (λy z=>by cases z)
    ·cases e
   ·cases e
  |bind y=>
   unfold wk at e
   split at e
   ·rename_i d
    split at e
    ·split at e
     ·exact a e (λz q=>by cases q;exact g y d)
     ·cases e
    ·cases e
   ·have i:∀z,z∈(put h y v).map _↔z∈h.map _\/z=y:=λz=>by
     rw[xD]
     split
     ·rename_i q;obtain⟨p,b,q⟩:=D4.mp q;have d:=Ba.mpr ⟨p,b,e_ q⟩;exact⟨.inl,λq=>q.elim id λq=>q▸d⟩
     ·rw[A7,Bm]
    rw[tY r _ _ k (λz o=>(i z).mpr ((A7.mp o).elim (λq=>.inl (g z q)) λq=>.inr (Bm.mp q))) e x,i x]
    constructor
    ·rintro((q|rfl)|⟨p,b,q⟩)
     ·exact .inl q
     ·exact .inr ⟨_,Ap,rfl⟩
     ·exact .inr ⟨p,Ak _ b,q⟩
    ·rintro(q|⟨p,b,q⟩)
     ·exact .inl (.inl q)
     ·rcases Av.mp b with rfl|b
      ·cases q;exact .inl (.inr rfl)
      ·exact .inr ⟨p,b,q⟩
theorem Mj{gs:List Fe}{row:List Ad}(hp:∀f∈gs,f.pt=ah)(hl:(gs.map Fe.fd).length=row.length)(x:Str):(∃p∈(gs.map Fe.fd).zip row,p.1=.bind x)↔x∈bb gs:=by
 unfold bb;rw[Hg]
 constructor
 ·rintro⟨⟨a,b⟩,g,e⟩
  obtain⟨f,c,d⟩:=Ba.mp (F5 g).1;refine⟨f,c,?_⟩;have e:a=.bind x:=e;rw[e]at d;cases f<;>first|(cases d;rfl)|cases d
 ·rintro⟨f,c,e⟩
  have j:f=.bind x:=by cases f<;>first|(cases e;rfl)|cases e
  subst j;obtain⟨i,h⟩:=B1.mp c;have k:=(Ar.mp h).1;rw[Ab]at hl;refine⟨(.bind x,row[i]'⋯),B1.mpr ⟨i,?_⟩,rfl⟩;rw[Fx];exact⟨by rw[Am,h];rfl,Ah _⟩
theorem JR{d:Ad}(h:gx d)(h1:fP d=ai):gx (je d):=by
 rcases h with rfl|⟨i,rfl,b,a⟩
 ·exact .inl rfl
 ·have:=by simpa[fP]using h1
  exact .inr ⟨_,rfl,by omega⟩
theorem Nx{m:Nat}{ns:List Nt}(h:c7 m ns):c7 m (dy ns):=by
 unfold dy;refine⟨by rw[Ab];exact A5 (Gr _ _) h.1,λq d=>?_⟩;obtain⟨p,c,rfl⟩:=Ba.mp d;obtain⟨a,b⟩:=En.mp c;exact⟨(h.2 p a).1,JR (h.2 p a).2 (by simpa using b)⟩
theorem zj{ps:Pg}{hs:List Hn}{ns:List Nt}{m M:Nat}{r:List Hn×List Nt}(k_:cu ps)(o_:okHs ps hs)(p_:c7 M ns)(hm:m<=ps.length)(e:bz ps hs ns m=ae r):okHs ps r.1/\c7 (M+1) r.2:=by
 unfold bz at e;by_cases em:m=ps.length
 ·rw[b_ em]at e;cases e;have:=Nx p_;exact⟨o_,Nat.le_succ_of_le this.1,this.2⟩
 rw[a_ em]at e;have hh:m < ps.length:=by omega
 obtain⟨P,xb,J,c,w,as,H⟩:=gZ o_ hh;cases O:bx ps hs m with
 |none=>
  unfold dw at e;simp_all
 |some a=>
 rw[lE H O]at e;have B:=H.ok k_ O;have t:=O;rw[H.act]at t;have L:=(Ar.mp t).1;have h:c7 _ ns:=⟨Nat.le_succ_of_le p_.1,p_.2⟩;have on:a.bs=[]->okHs ps (aU hs m (dY (xb,J,c) c)):=λhb=>o_.put H.prog H.blk ⟨L,H.hn.nd,H.hn.ok,H.hn.up,λk=>by
  show k∈c.map _↔k∈kn w as (J+1);rw[wZ t,hb,Bu];exact H.hn.mem k,H.hn.ln⟩
 have W:∀b,a.to=ae b->okHs ps (aU hs m (b4 P b c)):=λb hb=>by
  obtain⟨G,U,D,sub⟩:=H.to k_ O hb;have R:kJ P b=G.1:=by unfold kJ;simp_all
  refine o_.put H.prog U ?_;have en:(b4 P b c).2.2=G.1.map λk=>(k,gD c k):=by
   unfold b4;rw[R];exact Mw H.hn.nd H.hn.up D.2.2.2.2.1 D.2.2.2.2.2 sub
  have ek:(b4 P b c).2.2.map (·.1)=G.1:=by rw[en,B6];exact List.map_id' _
  have S:(b4 P b c).2.2.Sublist c:=List.filter_sublist;refine⟨A1 _,by rw[ek];exact D.2.2.2.2.1,λp V=>H.hn.ok p (S.subset V),List.Pairwise.sublist S H.hn.up,λk=>by rw[ek];show _↔k∈G.1++(G.2.take 0).flatMap Ac.bs;simp,A5 S.length_le H.hn.ln⟩
 have E:∀gs i,a.pf=ae (gs.map Fe.fd)->a.bs=bb gs->dP gs->fO gs->aQ _ c ns=ae i->okHs ps (aU hs m (dY (xb,J,c) (bJ (eB _ (cq ns i) c)))):=λgs i hpf hbs T y o=>by
  obtain⟨⟨C,Y⟩,n,F⟩:=uM o;have er:cq ns i=C:=by unfold cq;simp_all
  rw[er];obtain⟨ep,op⟩:=l5 T y;obtain⟨nd,R⟩:=Se H.hn.nd F;obtain⟨wo,_⟩:=pQ _ _ _ _ (OA op (p_.2 _ (A0 n)).1) H.hn.ok R;have I:=by
   unfold bV at F;rw[Bj]at F;exact e_ F.1
  have pm:=yk (eB (gs.map Fe.fd) C c);have pk:((bJ _).map _).Perm ((eB _ C c).map (·.1)):=pm.map _;have z:∀k,k∈(bJ _).map _↔k∈kn w as (J+1):=λk=>by
   rw[pk.mem_iff,tY _ _ _ _ (λx hx=>by simp at hx) R k,Mj y.2 I,wZ t,A7,hbs];exact or_congr (H.hn.mem k) Iff.rfl
  have N:=pk.nodup_iff.mpr nd;refine o_.put H.prog H.blk ⟨L,N,λp V=>wo p (pm.mem_iff.mp V),yc _,z,?_⟩;have:=uZ N λk hk=>(z k).mp hk;rw[Ab]at this;exact A5 this (A5 (xg (H.okb k_).1 (J+1)) ∎)
 cases a with
 |lay fs Y=>
  cases e;obtain⟨X,Z⟩:=H.lay k_ O;refine⟨on rfl,by rw[An,A4];have:=p_.1;omega,λq n=>?_⟩;rcases A7.mp n with n|n
  ·exact p_.2 q n
  ·rw[Bm.mp n];exact⟨⟨⟨by unfold fS;rw[Ab];exact X,by unfold fS;rw[Ab];exact B.2.2.2⟩,λd hd=>by
    obtain⟨f,F,rfl⟩:=Ba.mp hd;exact fw (Z f F)⟩,B.2.2.1⟩
 |go b=>cases e;exact⟨W b rfl,h⟩
 |same f g b=>
  cases e;refine⟨?_,h⟩;simp
  split
  ·exact on rfl
  ·exact W b rfl
 |take gs=>
  have e:(((bj gs _ ns).map λq=>(q.2,cw ns q.1)).map λr=>(aU hs m r.1,r.2))=ae r:=e;cases o:aQ _ c ns with
  |none=>rw[hO o]at e;cases e
  |some i=>
   rw[gU o]at e;cases e;refine⟨E gs i rfl rfl B.1 B.2 o,?_,λq n=>?_⟩
   ·show(cw ns i).length<=_;unfold cw;rw[An,Ey,D3];have:=p_.1;omega
   ·rcases A7.mp n with n|n
    ·exact p_.2 q (List.mem_of_mem_take n)
    ·exact p_.2 q (List.mem_of_mem_drop n)
 |read gs=>
  have e:(((bj gs _ ns).map λq=>(q.2,ns)).map λr=>(aU hs m r.1,r.2))=ae r:=e;cases o:aQ _ c ns with
  |none=>rw[hO o]at e;cases e
  |some i=>
   rw[gU o]at e;cases e;exact⟨E gs i rfl rfl B.1 B.2 o,h⟩
 |look gs b=>
  have e:((match bj gs _ ns with|some q=>ae _|none=>ae (b4 P b c,ns):Option _).map λr=>(aU hs m r.1,r.2))=ae r:=e;cases o:aQ _ c ns with
  |none=>
   rw[hO o]at e;cases e;exact⟨W b rfl,h⟩
  |some i=>
   rw[gU o]at e;cases e;exact⟨E gs i rfl rfl B.1 B.2 o,h⟩
theorem Og{ps:Pg}{hs:List Hn}{ns:List Nt}{m:Nat}(o_:okHs ps hs)(hh:m < ps.length)(h:bU ps hs ns m=ah):∃r,bz ps hs ns m=ae r:=by
 obtain⟨P,F,A,l,w,G,H⟩:=gZ o_ hh;unfold bz;rw[a_ ⋯];cases n:bx ps hs m with
 |none=>unfold bU at h;rw[n]at h;cases h
 |some a=>
 rw[pU n]at h;rw[lE H n];have B:∀gs:List Fe,a.pf=ae (gs.map Fe.fd)->dt ps hs ns m=aQ (gs.map Fe.fd) l ns:=λgs C=>by
  unfold dt;rw[H.nmq];simp_all
 have o:∀gs:List Fe,(dt ps hs ns m).isSome=ah->a.pf=ae _->∃q,bj gs (F,A,l) ns=ae q:=λgs t y=>by
  rw[B gs y]at t;obtain⟨i,z⟩:=D2.mp t;exact⟨_,gU z⟩
 cases a with
 |lay I D=>exact⟨_,rfl⟩
 |go b=>exact⟨_,rfl⟩
 |same f g b=>exact⟨_,rfl⟩
 |take gs=>
  obtain⟨q,k⟩:=o gs h rfl;show ∃r,(((bj gs _ ns).map λq=>(q.2,cw ns q.1)).map λr=>(aU hs m r.1,r.2))=ae r;rw[k];simp
 |read gs=>
  obtain⟨q,k⟩:=o gs h rfl;show ∃r,(((bj gs _ ns).map λq=>(q.2,ns)).map λr=>(aU hs m r.1,r.2))=ae r;rw[k];simp
 |look gs b=>
  show ∃r,((match bj gs _ ns with|some q=>ae _|none=>ae (b4 P b l,ns):Option _).map λr=>(aU hs m r.1,r.2))=ae r;cases bj gs _ ns with
  |none=>exact⟨_,rfl⟩
  |some q=>exact⟨_,rfl⟩
theorem uo{α:Type}{w:DT}{Q:List Ad->Int->Prop}{aA:Sl}(f g:α->Ad):∀(xs:List α)(j_:List Ad)(x:Option SV)(n:Int),(∀a∈xs,∀(n:Int)(Q':DQ),Q' (.d (g a)) n->w (↑(f a)::aA) n Q')->Q (j_++xs.map g) n->di (aJ 0) bQ w Q (xs.map f) j_ (x::aA) n
 |[],j_,x,n,_,q=>by rw[List.map_nil,Bu]at q;exact q
 |a::r,j_,x,n,h,q=>by
  refine h a Ap n _ (uo f g r _ _ n (λb c=>h b (Ak _ c)) ?_);rw[A2];exact q
theorem ne_str{s h:Str}{n:Int}{Q:DQ}(k:Q (.d (.bool (!cH h (.str s)))) n):d0 (.d (.str s)) (.d (.str h)) n Q:=k
theorem Jg(a:Ac):f5 a.d=ai:=by cases a<;>rfl
section
variable{δ:Sl}{n:Int}{K:DEnds}{a v:Ad}{r:List Ad}{x:Str}{hp:Nm}{hs:List Str}{W V:aF}
theorem kP{b:Bool}(e:δ[7]?=ae (↑(.bool b)))(kT:b=ah->K.nx δ n)(kF:b=ai->K.rt (.d .none) n):aM (dv (cT ↥7)) (az (wC .none)) aN δ n K:=by
 refine cM (m5 (λQ q=>aE (λQ q=>av e q) q) ?_);cases b with
 |true=>exact kT rfl
 |false=>exact kF rfl
def kU(hp:Nm)(x:Str)(v:Ad):Bool:=match look hp x with
 |some w=>eR w v
 |none=>ai
theorem AI(e5:δ[5]?=ae (↑(.tuple (a::.str x::r))))(e3:δ[3]?=ae (ae (.odk (bM hp))))(e6:δ[6]?=ae (↑v))(hv:bL v=ah)(hok:∀p∈hp,d6 p)(k:K.nx (δ.set 7 (↑(.bool (kU hp x v)))) n):
  ay 7 (fB (w2 (w2 ↥5 (wC (.int 1)) aw) (cQ 3) (dN ai)) (w2 (w2 (cQ 3) (w2 ↥5 (wC (.int 1)) aw) fk) ↥6 bf)) δ n K:=by
 refine au (cO e5 ?_);have c:∀n Q,Q (.dk (bM hp)) n->cQ 3 δ n Q:=λn Q q=>by unfold cQ;simp_all
 refine c _ _ ?_;show gm _ _ _;rw[iB];unfold kU at k;cases q:look hp x with
 |none=>rw[q]at k;exact k
 |some w=>
  rw[q]at k;refine au (au (c _ _ (cO e5 ?_)));unfold fk;simp only[iB,q];refine av e6 ?_;unfold bf;simp only[lb (hok _ (j0 q)).2 hv];exact k
theorem Np(s:Str)(e5:δ[5]?=ae (↑(.tuple (.str s::r))))(h1:cH "as" (.str s)=ai)(h2:cH "bind" (.str s)=ai)(hF:V δ n K):
  aM (fW (cT (w2 (w2 ↥5 (wC (.int 0)) aw) (wC (.str "as")) bf)) (dR (cT (w2 (w2 ↥5 (wC (.int 0)) aw) (wC (.str "bind")) bf)) (cT (ly 4 (w2 ↥5 (wC (.int 1)) aw))))) W V δ n K:=by
 refine bo (λQ q=>gf (λQ q=>eH e5 ?_) (qA (λQ q=>eH e5 ?_) q)) hF
 ·show Q _ n;simp_all
 ·show Q _ n;simp_all
theorem P8(e5:δ[5]?=ae (↑(.tuple [.str "bind",.str x])))(e4:δ[4]?=ae (ae (.own (hs.map .str))))(hT:x∈hs->W δ n K)(hF:x∉hs->V δ n K):
  aM (fW (cT (w2 (w2 ↥5 (wC (.int 0)) aw) (wC (.str "as")) bf)) (dR (cT (w2 (w2 ↥5 (wC (.int 0)) aw) (wC (.str "bind")) bf)) (cT (ly 4 (w2 ↥5 (wC (.int 1)) aw))))) W V δ n K:=by
 refine cM (gf (λQ q=>eH e5 ?_) (ql (λQ q=>eH e5 ?_) ?_))
 ·show Q _ n;assumption
 ·show Q _ n;assumption
 ·unfold cT ly;refine cO e5 ?_;rw[e4];refine⟨rfl,mY hs,?_⟩;show if cC _ _=ah then _ else _
  rw[kI];exact DW hT hF
end
def JY:Option Nm->Ad
 |none=>.none
 |some h=>cF (bJ h)
theorem KU{hp:Nm}{ys:List Str}(nd:(hp.map (·.1)).Nodup)(p:ys.Perm (hp.map (·.1)))(r:ys.Pairwise (λa b=>¬b.cps.toList < a.cps.toList)):bJ hp=ys.map λx=>(x,(look hp x).getD .none):=by
 refine(xu nd ?_ ?_).symm
 ·have h:=p.map λx=>(x,(look hp x).getD PyData.none);have e:hp.map ((λx=>(x,(look hp x).getD PyData.none)) ∘ λp=>p.1)=hp:=by
   conv=>rhs;rw[<-List.map_id hp]
   refine Du λq c=>?_;show(q.1,(look hp q.1).getD .none)=q;rw[tM nd c];rfl
  simp_all
 ·unfold iL;rw[Fi];exact r
theorem P1:b7 rQ MV ["_law_pattern_here","_law_row","_law_names","_law_found","_law_bound","_law_field","_law_value_here","_law_good"]:=λws n Q h=>by
 obtain⟨fs,O,W,rfl,G,Z,F,k⟩:=h;refine aB (yA rfl rfl (λne=>?_) λel=>?_)
 ·show Q _ n;unfold c9 bV at k;simp_all
 ·rw[Ab]at el;dsimp only[aN];refine aB (oz rfl F (aB (g6 ?_)));dsimp only[A8];refine aB (AW rfl rfl (by rw[Ab];omega) ?_);refine eS (λds δ m=>m=n/\∃(o:List Fd)(B:List Ad)(a:Nm)(A:List Str)(y z u:Option SV),ds=du (o.map Fd.d) B/\o.length=B.length/\δ=[↑(fR fs),↑(.tuple O),↑(cF W),ae (.odk (bM a)),ae (.own (A.map .str)),y,z,u] /\
   (∀g∈o,g.ok)/\(∀d∈B,bL d=ah)/\(a.map (·.1)).Nodup/\(∀p∈a,d6 p)/\a.length+o.length<=48/\A.length+o.length<=16/\Q (.d (JY (wk (o.zip B) a A))) n) ?_ ?_ _ _ _ ?_
  ·rintro δ m ⟨rfl,o,B,a,A,y,z,u,e,T,rfl,I,H,C,c,Y,l2,K⟩
   have:o=[]:=by
    cases o with
    |nil=>rfl
    |cons g o=>cases B with|nil=>cases T|cons v B=>cases e
   subst this;rw[List.length_nil]at Y;show ∃ps':Nm,bM a=bM ps'/\ps'.length < 64/\(∀p∈ps',p.1.length<=1000)/\∀ys:List Str,ys.Perm _->ys.Pairwise _->
    di _ bQ _ _ _ [] [af,ae _] m
   refine⟨a,rfl,by omega,λp hp'=>A5 (c p hp').1.1 ∎,λys p1 r1=>wU (λd=>∃x w,d=.str x/\look a x=ae w) (λd=>match d with|.str x=>.tuple [.str x,(look a x).getD .none]|d=>d) (λd n' Q' hP P=>?_) _ _ _ _ (λd X=>?_) ?_⟩
   ·obtain⟨x,w,rfl,lw⟩:=hP;have P:Q' (.d (.tuple [.str x,(look a x).getD .none])) n':=P;rw[lw]at P;show(match bA _ (.inr x)with|some d=>(2:Nat)<=1000/\Q' _ n'|none=>False);rw[iB,lw];exact⟨by decide,P⟩
   ·obtain⟨x,hx,rfl⟩:=Ba.mp X;obtain⟨p,hp',rfl⟩:=Ba.mp (p1.mem_iff.mp hx);exact⟨p.1,p.2,rfl,tM C hp'⟩
   ·rw[G3];have K:Q (.d (cF _)) m:=K;rw[KU C p1 r1]at K;have e:(ys.map Eg).map (λd=>match d with|.str x=>PyData.tuple [.str x,(look a x).getD .none]|d=>d)=(ys.map λx=>(x,(look a x).getD .none)).map iX:=by rw[B6,B6];rfl
    rw[e];exact K
  ·rintro d r δ m N ⟨rfl,o,B,a,A,y,z,u,e,T,rfl,I,H,C,c,Y,l2,K⟩ hN
   cases o with
   |nil=>cases e
   |cons g o=>
    cases B with
    |nil=>cases T
    |cons v B=>
     have e1:=by have:=congrArg (λl=>l.head?) e;simpa[du]using this
     have e2:r=du (o.map Fd.d) B:=by have:=congrArg List.tail e;assumption
     subst e1 e2;rw[Au]at Y l2;rw[Au,Au]at T;have gk:=I g Ap;have L:=H v Ap;rw[Hf]at K;have M:(wk _ a A=af)->Q _ m:=λw=>by rw[w]at K;trivial
     have J:∀hp' D y z u,wk _ a A=wk _ hp' D->(hp'.map _).Nodup->(∀p∈hp',d6 p)->hp'.length<=a.length+1->D.length<=A.length+1->
       N [ae _,ae _,ae _,ae _,ae _,y,z,u] m:=λhp' D y z u hw a1 a2 a3 a4=>
      hN _ _ ⟨rfl,o,B,hp',D,y,z,u,rfl,by omega,rfl,λg hg=>I g (Ak _ hg),λd X=>H d (Ak _ X),a1,a2,by omega,by omega,by rw[<-hw];omega⟩
     refine⟨rfl,aB (bB (λQ q=>aH q) ?_)⟩;dsimp only[A8];cases g with
     |any=>
      refine aB (dE rfl GP (bo (λQ q=>mO rfl (by rfl) q) (Np "any" rfl (by rfl) (by rfl) (dE rfl (by rfl) ?_))));dsimp only[aN];exact kP rfl (λ_=>J a A _ _ _ (by rw[wk]) C c ⋯ ⋯) (λz=>by cases z)
     |is w=>
      refine aB (kl rfl QP (bB (x:=.bool (eR w v)) (λQ q=>au (cO rfl (av rfl ?_))) ?_))
      ·unfold bf;simp only[lb (gk) L];exact q
      dsimp only[A8];exact kP rfl (λz=>J a A _ _ _ (by rw[wk,b_ z]) C c ⋯ ⋯) (λz=>M (by rw[wk,a_ (by rw[z];simp)]))
     |word=>
      refine aB (dE rfl Mh (bP (λQ q=>mO rfl (by rfl) q) (bB (x:=.bool (gK v)) (λQ q=>au ?_) ?_)))
      ·unfold cV;refine av rfl (eH rfl ?_);cases v with
       |str s=>rw[og];exact q
       |int i=>rw[og];exact q
       |_=>cases L
      dsimp only[A8];exact kP rfl (λz=>J a A _ _ _ (by rw[wk,b_ z]) C c ⋯ ⋯) (λz=>M (by rw[wk,a_ (by rw[z];simp)]))
     |number=>
      refine aB (dE rfl Ia (bP (λQ q=>mO rfl (by rfl) q) (bB (x:=.bool (gz v)) (λQ q=>au ?_) ?_)))
      ·unfold cV;refine av rfl (eH rfl ?_);cases v with
       |str s=>rw[og];exact q
       |int i=>rw[og];exact q
       |_=>cases L
      dsimp only[A8];exact kP rfl (λz=>J a A _ _ _ (by rw[wk,b_ z]) C c ⋯ ⋯) (λz=>M (by rw[wk,a_ (by rw[z];simp)]))
     |as x=>
      refine aB (dE rfl wQ (bo (λQ q=>mO rfl (by rfl) q) (bP (λQ q=>md (λQ q=>eH rfl ?_) q) (AI rfl rfl rfl L c ?_))))
      ·show Q _ m;assumption
      dsimp only[A8];refine kP rfl (λz=>J a A _ _ _ ?_ C c ⋯ ⋯) (λz=>M ?_)
      ·unfold kU at z;rw[wk];cases q:look a x with
       |none=>rw[q]at z;cases z
       |some w=>rw[q]at z;simp only[z,if_true]
      ·unfold kU at z;rw[wk];cases q:look a x with
       |none=>rfl
       |some w=>rw[q]at z;simp only[z,Hh,if_false]
     |bind x=>
      refine aB (dE rfl Px (bo (λQ q=>mO rfl (by rfl) q) (P8 rfl rfl (λhx=>AI rfl rfl rfl L c ?_) λhx=>kl rfl BJ ?_)))
      ·dsimp only[A8];refine kP rfl (λz=>J a A _ _ _ ?_ C c ⋯ ⋯) (λz=>M ?_)
       ·unfold kU at z;rw[wk,b_ hx];cases q:look a x with
        |none=>rw[q]at z;cases z
        |some w=>rw[q]at z;simp only[z,if_true]
       ·unfold kU at z;rw[wk,b_ hx];cases q:look a x with
        |none=>rfl
        |some w=>rw[q]at z;simp only[z,Hh,if_false]
      ·refine aB (kH rfl (λQ q=>cO rfl q) (by rw[Ab];omega) ?_);dsimp only[A8];unfold kB;refine av rfl (cO rfl ⟨by unfold bM;rw[Ab];omega,?_⟩);rw[n7];have:=J _ _ (↑(.tuple [.str "bind",.str x])) (↑v) (↑(.bool ah)) (by rw[wk,a_ hx]) (uY C) (l7 c gk L) (ph _ _ _) (by simp);rw[Bd]at this;assumption
  ·refine⟨rfl,fs,O,W,[],_,_,_,rfl,el,rfl,G.2.2,Z.2,F.2.1,F.2.2,by have:=G.2.1;have:=F.1;omega,by have:=G.2.1;simpa using A5 this ∎,?_⟩;unfold c9 bV at k;rw[c_ el]at k;unfold eB at k;cases e:wk _ W []with
   |none=>rw[e]at k;exact k
   |some x=>rw[e]at k;exact k
theorem O5:b7 sJ NZ ["_law_template_here","_law_names","_law_row","_law_field","_law_value_here"]:=λws n Q h=>by
 obtain⟨C,p,rfl,T,R,B,k⟩:=h;refine aB (g6 ?_);dsimp only[A8];refine aB ?_;unfold aZ dh;refine av rfl (eS (λds δ m=>m=n/\∃(l o:List Fe)(x y:Option SV),ds=o.map Fe.d/\l++o=C/\δ=[ae _,ae _,ae (.own (l.map (eI p))),x,y]) (λδ m I=>?_) (λd r δ m N I J=>?_) _ _ _ ⟨rfl,[],C,_,_,rfl,rfl,rfl⟩)
 ·obtain⟨rfl,l,o,x,y,D,u,rfl⟩:=I;cases Dt.mp D.symm;rw[Bu]at u;subst u;assumption
 ·obtain⟨rfl,l,o,x,y,D,u,rfl⟩:=I;obtain⟨f,o,rfl,rfl,rfl⟩:=C4.mp D.symm;have P:=by
   have:=congrArg Dx u;rw[An]at this;omega
  obtain⟨V,L,F⟩:=(R f (by rw[<-u];simp));have c:∀K x v,v=eI p f->(∀δ n,N δ n->K.nx δ n)->aW 2 ↥4 [ae _,ae _,ae (.own (l.map _)),x,↑v] m K:=λK x v e O=>
   kH rfl (λQ q=>av rfl q) (by rw[Ab];omega) (by subst e;exact O _ _ (J _ _ ⟨rfl,l++[f],o,x,_,rfl,by rw[A2];exact u,by rw[Bd];rfl⟩))
  have b:∀K s x v,look p x=ae v->cH "is" (.str s)=ai->(aq _ _) [ae _,ae _,ae _,ae _,ae _] m K->
    aq (aM (cT (w2 (w2 ↥3 _ aw) (wC (.str "is")) d0)) (ay 4 (w2 (kh ↥1) (w2 ↥3 _ aw) fk)) aN) (aq (aM (dR (cT (w2 (w2 ↥3 ⇑0 aw) (wC (.str "next")) bf)) (dv (cT (cV "str" ↥4)))) (ay 4 (w2 (w2 ↥4 ⇑1 (cg λi j=>.int (i+j))) ⇑100 (gI (λ_ j=>0 < j) λi j=>.int (i % j)))) aN) (aW 2 ↥4)) [↑(cz C),ae _,ae (.own (l.map (eI p))),↑(.tuple [.str s,.str x]),↑(.str x)] m K:=λK s x v e Y X=>by
   refine aB (bP (λQ q=>aE (λQ q=>au (dF rfl (aH (ne_str (by simp_all))))) q) (bB (x:=v) (λQ q=>au (ya rfl B (cO rfl ?_))) ?_))
   ·unfold fk;simp only[iB,e];exact q
   ·dsimp only[A8];omega
  cases f with
  |isv d=>
   refine aB (bB (λQ q=>cO rfl q) ?_);dsimp only[A8];refine aB (bo (λQ q=>aE (λQ q=>au (dF rfl (aH (ne_str (by assumption))))) q) ?_);dsimp only[aN];exact aB (bo (λQ q=>qA (λQ q=>eH (a:=.str "is") rfl (q)) q) (c _ _ _ rfl λ_ _ z=>z))
  |as x=>
   obtain⟨v,e,A⟩:=F x rfl;refine aB (bB (λQ q=>cO rfl q) (b _ "as" x v e wQ ?_));exact aB (bo (λQ q=>qA (λQ q=>eH rfl (q)) q) (c _ _ _ (by show v=gD p x;unfold gD;simp_all) λ_ _ z=>z))
  |nx x=>
   obtain⟨v,e,A⟩:=F x rfl;have G:eI p (.nx x)=jr v:=by show jr _=_;unfold gD;simp_all
   refine aB (bB (λQ q=>cO rfl q) (b _ "next" x v e (by rfl) ?_));cases v with
   |str t=>
    exact aB (bo (λQ q=>ql (λQ q=>eH rfl (q)) (m5 (λQ q=>aE (k:=ah) (λQ q=>av rfl (by assumption)) q) q)) (c _ _ _ (by rw[G];rfl) λ_ _ z=>z))
   |int i=>
    refine aB (bP (λQ q=>ql (λQ q=>eH rfl (q)) (m5 (λQ q=>aE (k:=ai) (λQ q=>av rfl (by assumption)) q) q)) (bB (λQ q=>au (au (av rfl (aH (eC (aH ⟨show(0:Int) < 100 by decide,q⟩)))))) ?_));exact c _ _ _ (by rw[G,Ma A]) λ_ _ z=>z
   |_=>cases A
  |_=>cases L
theorem Rm:b7 uh PF ["_law_programs","_law_hands","_law_hand","_law_block","_law_place","_law_names","_law_acts"]:=λws n Q h=>by
 obtain⟨c,g,h,rfl,a,b,k⟩:=h;obtain⟨P,i,d,f,w,e,H⟩:=gZ a b;rw[H.act]at k;refine aB (au (av rfl (av rfl (bh H.hD (Ao rfl ?_)))));dsimp only[bF,aJ];refine aB (bB (λQ q=>au (au (au (av rfl (av rfl (bh H.pD (av rfl (bh H.bD (aH (e7 q)))))))))) ?_);dsimp only[A8];exact bN (yI rfl rfl k)
def xh(fs:List Fd)(nm:Nm)(ns:List Nt):Option Nat->Ad
 |none=>.none
 |some i=>.tuple [.int (i:Nat),cF (bJ (eB fs (cq ns i) nm))]
theorem SO(fs:List Fd)(nm:Nm)(ns:List Nt):fU fs nm ns=xh fs nm ns (aQ fs nm ns):=by rfl
theorem Ql:b7 mB IQ ["_law_act_here","_law_notes_here","_law_names","_law_place","_law_found"]:=λws n Q h=>by
 obtain⟨a,l,g,j,rfl,J,F,p,A,k⟩:=h;obtain⟨H,s,r,e,L,_⟩:=qk F J;rw[e]at *;refine aB (aT (av rfl ?_));refine Ao ⟨by omega,by rw[Ab];have:=p.1;omega⟩ ?_;rw[Ab];refine eS (λds δ m=>m=n/\∃(b c:List Nt)(w y:Option SV),ds=bW (b.length:Nat) c.length/\b++c=g/\δ=[ae _,ae _,ae _,w,y] /\
  Q (.d (xh l j g ((aQ l j c).map λi=>i+b.length))) n) (λδ m I=>?_) (λd M δ m N I G=>?_) _ _ _ ⟨rfl,[],g,_,_,rfl,rfl,rfl,?_⟩
 ·obtain⟨rfl,b,c,w,y,o,z,rfl,f⟩:=I;have:c=[]:=by
   cases c with
   |nil=>rfl
   |cons q c=>rw[Au,p7]at o;cases o
  subst this;exact(f)
 ·obtain⟨rfl,b,c,w,y,o,z,rfl,f⟩:=I;cases c with
  |nil=>cases o
  |cons q c=>
   rw[Au,p7]at o;obtain⟨rfl,rfl⟩:=Bt o;have B:g[b.length]?=ae q:=by rw[<-z];simp
   have v:(g.map fi)[b.length]?=ae (.tuple [.tuple q.1,q.2]):=by rw[Am,B];rfl
   refine aB (bB (x:=c9 l q.1 j) (λQ E=>?_) ?_)
   ·refine b9 (cO rfl (au (au (av rfl (av rfl (bh v (aH (cW (av rfl ?_)))))))));exact⟨l,q.1,j,rfl,H,(p.2 q (A0 B)).1,A,E⟩
   dsimp only[A8];cases u:bV l q.1 j with
   |true=>
    rw[pF,b_ u,Option.map_some,Nat.zero_add]at f;have f:Q (.d (.tuple [.int _,cF _])) m:=f;rw[show cq g b.length=q.1 by unfold cq;simp_all]at f;rw[vP u];exact bP (λQ q=>aE (λQ q=>au (av rfl (aH q))) q) (bN (cy (av rfl (av rfl (Ao (show 2<=1000 by decide) f)))))
   |false=>
    rw[show c9 l q.1 j=.none by unfold c9;rw[a_ (by rw[u];simp)]];refine bo (λQ q=>aE (λQ q=>au (av rfl (aH q))) q) (G _ _ ⟨rfl,b++[q],c,_,_,?_,by rw[A2];exact z,rfl,?_⟩)
    ·rw[An];rfl
    ·rw[pF,a_ (by rw[u];simp),Option.map_map]at f;have:((λi=>i+b.length) ∘ λx=>x+1)=λi=>i+(b++[q]).length:=funext λx=>by
      show x+1+b.length=_;rw[An,A4];omega
     rw[this]at f;omega
 ·rw[show((aQ l j g).map λi=>i+([]:List Nt).length)=aQ l j g by simp];exact k
theorem ON{ps:Pg}{hs:List Hn}{ns:List Nt}{m:Nat}(o_:okHs ps hs)(hh:m < ps.length):(bz ps hs ns m).isSome=bU ps hs ns m:=by
 cases h:bU ps hs ns m with
 |true=>obtain⟨r,e⟩:=Og o_ hh h;simp_all
 |false=>
  obtain⟨P,B,x,k,w,D,H⟩:=gZ o_ hh;unfold bz;rw[a_ ⋯];cases l:bx ps hs m with
  |none=>
   unfold dw;rw[H.prog,H.hand,l];rfl
  |some a=>
  rw[pU l,Bool.or_eq_false_iff]at h;rw[lE H l];have s:∀j:List Fe,a.pf=ae _->bj j (B,x,k) ns=af:=λgs n=>by
   refine hO (?_);have c:=h.2;unfold dt at c;rw[l,H.nmq]at c;have c:(a.pf.bind λfs=>aQ fs k ns).isSome=ai:=c;rw[n]at c;have c:(aQ _ k ns).isSome=ai:=c;cases q:aQ _ k ns with
   |none=>rfl
   |some i=>rw[q]at c;cases c
  cases a with
  |take j=>
   show(((bj j _ ns).map λq=>(q.2,cw ns q.1)).map λr=>(aU hs m r.1,r.2)).isSome=ai;rw[s j rfl];rfl
  |read j=>
   show(((bj j _ ns).map λq=>(q.2,ns)).map λr=>(aU hs m r.1,r.2)).isSome=ai;rw[s j rfl];rfl
  |lay fs y=>cases h.1
  |go b=>cases h.1
  |same f g b=>cases h.1
  |look j b=>cases h.1
theorem OQ{ps:Pg}{hs:List Hn}{ns:List Nt}(o_:okHs ps hs):iz ps hs ns=(Be ps.length).filter (bU ps hs ns)++[ps.length]:=by
 unfold iz;rw[List.range_succ,List.filter_append]
 congr 1
 ·refine List.filter_congr λi b=>?_;rw[ON o_ (Cn.mp b)]
 ·have:bz ps hs ns ps.length=ae (hs,dy ns):=by unfold bz;rw[b_ rfl]
  rw[Gv,this];rfl
theorem ID(fs:List Fd)(nm:Nm)(ns:List Nt):f5 (fU fs nm ns)=!(aQ fs nm ns).isSome:=by
 unfold fU;cases aQ fs nm ns<;>rfl
theorem Rg:b7 hG Qd ["_law_programs","_law_stand_here","_law_found","_law_hand","_law_act_here","_law_names"]:=λws n Q h=>by
 obtain⟨c,g,f,rfl,⟨p,t,F⟩,k⟩:=h;rw[OQ t,Bd]at k;refine aB (g6 ?_);dsimp only[A8];refine aB (aT (av rfl ?_));refine Ao ⟨by omega,by rw[Ab];have:=p.1;omega⟩ ?_;rw[Ab];refine eS (λds δ m=>m=n/\∃(i:Nat)(x3 j l:Option SV),ds=bW i (c.length-i)/\i<=c.length/\δ=[ae _,ae _,ae (.own (((Be i).filter (bU c g f)).map λi=>.int (i:Nat))),x3,j,l]) (λδ m I=>?_) (λd r' δ m N I V=>?_) _ _ _ ⟨rfl,0,_,_,_,rfl,A1 _,rfl⟩
 ·obtain⟨rfl,i,x3,j,l,B,U,rfl⟩:=I;have T:i=c.length:=by
   by_cases z:i=c.length
   ·exact z
   ·rw[show c.length-i=(c.length-i-1)+1 by omega,p7]at B;trivial
  subst T;dsimp only;refine h9 rfl (bN (au (av rfl (a7 ?_))));refine aT (av rfl ?_);show 1<=1000/\_;refine Ao ∎ ⟨?_,?_⟩
  ·rw[Ab];have E:=Gr (bU c g f) (Be c.length);rw[D9]at E;have:=p.1;refine small ?_;show _+1<=_;omega
  ·rw[Ab];exact k
 ·obtain⟨rfl,i,x3,j,l,B,U,rfl⟩:=I;have u:i < c.length:=by
   by_cases z:i < c.length
   ·exact z
   ·rw[show c.length-i=0 by omega]at B;trivial
  rw[show c.length-i=(c.length-i-1)+1 by omega,p7]at B;obtain⟨rfl,rfl⟩:=Bt B;have L:∀x3 j l o,o=((Be _).filter _).map _->N [ae _,ae _,ae _,x3,j,l] m:=λx3 j l o e=>
   V _ _ ⟨rfl,i+1,x3,j,l,by rfl,u,by rw[e]⟩
  have Y:(Be (i+1)).filter (bU c g f)=(Be i).filter (bU c g f)++if bU c g f i=ah then[i]else[]:=by
   rw[List.range_succ,List.filter_append,Gv];rfl
  obtain⟨P,xb,xp,G,w,as,H⟩:=gZ t u;refine aB (bB (λQ q=>b9 (av rfl (au (av rfl (aH (cW (av rfl ⟨c,g,i,rfl,t,u,q⟩))))))) ?_);dsimp only[A8];cases C:bx c g i with
  |none=>
   refine bo (λQ q=>aE (λQ q=>au (av rfl (aH q))) q) (L _ _ _ _ ?_);rw[Y,a_ (by unfold bU;rw[C];simp),Bu]
  |some a=>
   have O:=H.ok p C;refine bP (λQ q=>aE (λQ q=>au (av rfl (aH (by show Q (.d (.bool (!f5 a.d))) m;rw[Jg];exact q)))) q) (aB (bB (λQ q=>au (au (au (av rfl (aH (cW (av rfl (bh H.hD (aH (fm q)))))))))) ?_));dsimp only[A8];obtain⟨s,r,e,D⟩:=LN O;have R:(((Be i).filter (bU c g f)).map λi=>Fj (i:Nat)).length < 1000000:=by
    rw[Ab];have E:=Gr (bU c g f) (Be i);rw[D9]at E;have:=p.1;omega
   have J:bU c g f i=ah->∀K j l,(∀δ n,N δ n->K.nx δ n)->aW 2 ↥3 [ae _,ae _,ae _,↑(.int i),j,l] m K:=λhc K j l W=>
    kH rfl (λQ q=>av rfl q) R (W _ _ (L _ _ _ _ (by simp_all)))
   cases x:a.wt with
   |false=>
    rw[x]at D;exact bP (λQ q=>md (λQ q=>aE (λQ q=>xE (by show ae (ae (SV.w (.d a.d)))=_;rw[e]) D q) q) q) (J (by rw[pU C,x];rfl) _ _ _ λ_ _ z=>z)
   |true=>
    rw[x]at D;obtain⟨fs,y⟩:∃fs,a.pf=ae fs:=by cases a<;>first|exact⟨_,rfl⟩|cases x
    have X:bU c g f i=(aQ fs G f).isSome:=by
     rw[pU C,x];unfold dt;rw[C,H.nmq];show(ai || (a.pf.bind λfs=>aQ fs G f).isSome)=_;rw[y];rfl
    refine cM (gf (λQ q=>aE (λQ q=>xE (by show ae (ae (SV.w (.d a.d)))=_;rw[e]) D q) q) (aE (k:=bU c g f i) (λQ q=>au (b9 (av rfl (au (av rfl (aH (e7 (av rfl ⟨a,fs,f,G,rfl,O,y,F,H.nms,aH ?_⟩)))))))) ?_))
    ·show Q _ m;rw[ID,Bool.not_not,<-X];exact q
    ·cases S:bU c g f i with
     |true=>
      simp_all
     |false=>
      exact L _ _ _ _ (by simp_all)
theorem xC{Q:List Ad->Int->Prop}:∀(ns:List Nt)(j_:List Ad)(x y:Option SV)(n:Int),(∀q∈ns,gx q.2)->Q (j_++(dy ns).map fi) n->
  di (ef 2 (bF (aJ 0) (bF (aJ 1) dg))) (cT (w2 ↥1 ⇑1 d0)) (ax (ao ↥0 (ao (fF (cT (w2 ↥1 (wC .none) (bK ai))) ↥1 (w2 ↥1 ⇑1 (cg λi j=>.int (i-j)))) ak))) Q (ns.map fi) j_ [x,y] n
 |[],j_,x,y,n,_,q=>by
  have:dy []=[]:=rfl;rw[this,List.map_nil,Bu]at q;exact q
 | (f,a)::r,j_,x,y,n,h,q=>by
  have l:=h _ Ap;have g:=λj_ x y n q=>xC (Q:=Q) r j_ x y n (λq o=>h q (Ak _ o)) q;refine(⟨rfl,?_⟩);dsimp only[bF,aJ,A8];refine aE (λQ q=>au (av rfl (aH (ER l q)))) ?_;show if _=ah then _ else _
  have p:dy ((f,a)::r)=(if (!fP a)=ah then[(f,je a)]else[])++dy r:=by
   unfold dy;rw[Gv];dsimp only
   split<;>rfl
  rw[p]at q;cases m:fP a with
  |true=>
   simp_all
  |false=>
   rw[m,Bd,<-A2]at q;rw[b_ ∎];rcases l with rfl|⟨i,rfl,_⟩
   ·exact cy (av rfl (g9 (λQ q=>aE (k:=ah) (λQ q=>au (av rfl (aH q))) q) (by rw[b_ rfl];exact av rfl (Ao (show 2<=1000 by decide) (g _ _ _ _ q)))))
   ·exact cy (av rfl (g9 (λQ q=>aE (k:=ai) (λQ q=>au (av rfl (aH q))) q) (au (av rfl (aH (Ao (show 2<=1000 by decide) (g _ _ _ _ q)))))))
abbrev qP:aF:=aq (ay 13 (ax (ao ↥5 (ao (w2 ↥6 ⇑1 (cg λi j=>.int (i+j))) (ao ↥7 ak))))) (aq (aM (cT (w2 ↥9 (wC .none) (bK ah))) (aq (ay 14 (w2 (w2 (w2 ↥0 ↥2 aw) ↥9 aw) ⇑0 aw)) (ay 13 (ax (ao ↥9 (ao ⇑0 (ao (wB eJ (ao (bg (cK [af,ae 14] (dh ↥7) (aJ 0) (cT (w2 (w2 ↥0 ⇑0 aw) ↥1 (gi ai))) ↥0)) ak)) ak)))))) aN) (az (ax (ao (w2 (w2 (d4 ↥3 d8 (dG ↥2)) (ax (ao ↥13 ak)) eT) (d4 ↥3 (dG (w2 ↥2 ⇑1 (cg λi j=>.int (i+j)))) d8) eT) (ao ↥4 ak)))))
abbrev rV(ps:Pg)(hs:List Hn)(ns ns':List Nt)(m xb xp:Nat)(nm:Nm)(o8 o9 o10 o11 o12 o13 o14:Option SV):Sl:=[↑(cZ ps),↑(bI hs ns),↑(.int m),↑(.tuple (hs.map cj)),↑(eO ns'),↑(.int xb),↑(.int xp),↑(cF nm),o8,o9,o10,o11,o12,o13,o14]
section
variable{ps:Pg}{hs:List Hn}{ns ns':List Nt}{m xb xp:Nat}{nm:Nm}{n:Int}{Q:DQ}
theorem AN(o_:okHs ps hs)(k_:cu ps)(hh:m < ps.length)(x:Hn)(o5 o6 o7 o8 o9 o10 o11 o12 o14:Option SV)(q:Q (.d (bI (aU hs m x) ns')) n):az (ax (ao (w2 (w2 (d4 ↥3 d8 (dG ↥2)) (ax (ao ↥13 ak)) eT) (d4 ↥3 (dG (w2 ↥2 ⇑1 (cg λi j=>.int (i+j)))) d8) eT) (ao ↥4 ak)))
   [↑(cZ ps),↑(bI hs ns),↑(.int m),↑(.tuple (hs.map cj)),↑(eO ns'),o5,o6,o7,o8,o9,o10,o11,o12,↑(cj x),o14] n {nx:=λ_ n=>Q (.d .none) n,rt:=Q}:=by
 have a:m < hs.length:=by rw[o_.1];omega
 have c:hs.length<=5:=by rw[o_.1];exact k_.1
 have b:(aU hs m x).map cj=((hs.map cj).take m++[cj x])++(hs.map cj).drop (m+1):=by
  unfold aU;simp
 unfold bI at q;rw[b]at q;have e:((hs.map cj).take m).length<=5:=A5 (G1 _ _) (by rw[Ab];omega);have f:((hs.map cj).drop (m+1)).length<=5:=by rw[D3,Ab];omega
 exact bN (cy (au (au (pW (λQ q=>av rfl q) (λQ q=>av rfl q) (by rw[Ab];omega) (qh (av rfl (Ao (show 1<=1000 by decide) (jo (by rw[A4];omega) (pC (p:=m+1) (λQ q=>av rfl q) (λQ q=>au (av rfl (aH (eC q)))) (by rw[Ab];omega) (jo (by rw[An,A4];omega) (av rfl (Ao (show 2<=1000 by decide) q))))))))))))
theorem qv(o_:okHs ps hs)(k_:cu ps)(hh:m < ps.length)(o8 o10 o11 o12 o13 o14:Option SV)(q:Q (.d (bI (aU hs m (xb,xp+1,nm)) ns')) n):qP (rV ps hs ns ns' m xb xp nm o8 (ae (.w (.d .none))) o10 o11 o12 o13 o14) n {nx:=λ_ n=>Q (.d .none) n,rt:=Q}:=by
 refine aB (bB (x:=cj (xb,xp+1,nm)) (λQ q=>iZ (av rfl (au (av rfl (aH (eC (av rfl (Ao (show 3<=1000 by decide) q)))))))) ?_);dsimp only[A8];exact aB (bo (λQ q=>aE (λQ q=>au (av rfl (aH q))) q) (AN o_ k_ hh _ _ _ _ _ _ _ _ _ _ q))
theorem uv(o_:okHs ps hs)(k_:cu ps)(hh:m < ps.length){P:List Bl}{b:Nat}{bl:Bl}(hP:(ps.map gY)[m]?=ae (.tuple (P.map gg)))(hb:P[b]?=ae bl)(hbl:bl.1.length<=4)(o8 o10 o11 o12 o13 o14:Option SV)(q:Q (.d (bI (aU hs m (b4 P b nm)) ns')) n):qP (rV ps hs ns ns' m xb xp nm o8 (↑(.int (b:Nat))) o10 o11 o12 o13 o14) n {nx:=λ_ n=>Q (.d .none) n,rt:=Q}:=by
 have g:(P.map gg)[b]?=ae (.tuple [eZ bl.1,.tuple (bl.2.map Ac.d)]):=by rw[Am,hb];rfl
 refine aB (bB (λQ q=>iZ (av rfl (au (av rfl (aH (eC (av rfl (Ao (show 3<=1000 by decide) q)))))))) ?_);dsimp only[A8];refine aB (bP (λQ q=>aE (λQ q=>au (av rfl (aH q))) q) (aB (bB (λQ q=>au (au (au (av rfl (av rfl (bh hP (av rfl (bh g (aH (cW q)))))))))) ?_)));dsimp only[A8];refine bB (x:=cj (b4 P b nm)) (λQ q=>?_) ?_
 ·refine iZ (av rfl (aH (aT (a7 (i9 (λQ q=>av rfl q) (lC iX iX (λp=>decide (p.1∈bl.1)) nm [] af n (λa h n f q=>?_) (λa h n f q=>av rfl q) ?_))))))
  ·refine aE (λQ q=>au (dF rfl (av rfl ⟨rfl,mY bl.1,?_⟩))) q;rw[kI];exact q
  ·rw[G3];refine Ao (show 3<=1000 by decide) ?_;have e:kJ P b=bl.1:=by unfold kJ;rw[hb];rfl
   unfold b4 at q;rw[e]at q;exact q
 ·dsimp only[A8];exact AN o_ k_ hh _ _ _ _ _ _ _ _ _ _ q
end
theorem w6{nm:Nm}{f:Fe}(hf:dH nm f)(te:f.te=ah)(p_:okN nm):∀(n:Int)(Q':DQ),Q' (.d (eI nm f)) n->fF (cT (w2 (w2 ↥0 ⇑0 aw) (wC (.str "is")) bf)) (w2 ↥0 ⇑1 aw) (w2 (kh ↥1) (w2 ↥0 ⇑1 aw) fk) [↑f.d,↑(cF nm)] n Q':=λn Q' q=>by
 cases f with
 |isv d=>exact g9 (b:=ah) (λQ q=>eH rfl (by assumption)) (by assumption)
 |as x=>
  obtain⟨v,e,h⟩:=hf.2.2 x rfl;refine g9 (b:=ai) (λQ q=>eH rfl (by assumption)) (au (ya rfl p_ (cO rfl ?_)));have q:Q' (.d (gD nm x)) n:=q;unfold gD at q;rw[e]at q;unfold fk;simp only[iB,e];exact q
 |_=>cases te
theorem KH(a b c d:Ad):eD [a,b,c,d] (ae 1) (ae 3)=[b,c]:=rfl
theorem Mt:b7 gV vt ["_law_programs","_law_stand_here","_law_mover","_law_hands","_law_notes_here","_law_block","_law_place","_law_names","_law_act_here","_law_target","_law_one","_law_other","_law_got_here","_law_behind","_law_wanted"]:=λws n Q h=>by
 obtain⟨ps,hs,ns,m,r,rfl,⟨k_,o_,p_⟩,hm,e,k⟩:=h;show vt [↑(cZ ps),↑(bI hs ns),↑(.int m),af,af,af,af,af,af,af,af,af,af,af,af] n _;refine aB ?_;unfold dq;refine av rfl (Ao rfl ?_);dsimp only[bF,dg,aJ,A8];unfold bz at e;refine aB (cM (aE (k:=decide ((m:Int)=(ps.length:Nat))) (λQ q=>au (av rfl (aT (av rfl ?_)))) ?_))
 ·show Q (.d (.bool (decide ((m:Int)=((ps.map gY).length:Nat))))) n;rw[Ab];exact q
 by_cases em:m=ps.length
 ·rw[b_ em]at e;cases e;show if decide ((m:Int)=(ps.length:Nat))=ah then _ else _
  rw[b_ (c_ ⋯)];refine bN (cy (av rfl (aT (a7 (i9 (ds:=ns.map fi) (λQ q=>av rfl q) ?_)))));show di _ _ _ _ _ _ [af,af] n;exact xC ns [] af af n (λq hq=>(p_.2 q hq).2) (Ao (show 2<=1000 by decide) k)
 rw[a_ em]at e;show if decide ((m:Int)=(ps.length:Nat))=ah then _ else _
 rw[a_ (by rw[d_ ⋯];exact Az)];dsimp only[aN];have hh:m < ps.length:=by omega
 obtain⟨P,xb,xp,nm,w,as,H⟩:=gZ o_ hh;refine aB ?_;refine au (av rfl (av rfl (bh H.hD (Ao rfl ?_))));dsimp only[bF,dg,aJ,A8];cases ea:bx ps hs m with
 |none=>
  unfold dw at e;rw[H.prog,H.hand,ea]at e;cases e
 |some a=>
 rw[lE H ea]at e;have oa:=H.ok k_ ea;have hA:(as.map Ac.d)[xp]?=ae a.d:=by rw[Am,<-H.act,ea];rfl
 refine aB (bB (x:=a.d) (λQ q=>au (au (au (au (av rfl (av rfl (bh H.pD (av rfl (bh H.bD (aH (e7 (av rfl (bh hA q))))))))))))) ?_);dsimp only[A8];refine aB (bB (x:=.none) (λQ q=>aH q) ?_);dsimp only[A8];have toB:∀(b:Nat),a.to=ae b->∃bl:Bl,P[b]?=ae bl/\bl.1.length<=4:=λb hb=>by
  obtain⟨bl,hbl,obl,sub⟩:=H.to k_ ea hb;exact⟨bl,hbl,obl.1⟩
 have getY:∀(s:Str)(gs:List Fe)(r5:List Ad)(i:Nat),a.d=.tuple (.str s::r5)->a.pf=ae (gs.map Fe.fd)->aQ (gs.map Fe.fd) nm ns=ae i->∀K:DEnds,
   (∀δ n,qP δ n {nx:=λ_ n=>Q (.d .none) n,rt:=Q}->K.nx δ n)->
   Q (.d (bI (aU hs m (dY (xb,xp,nm) (bJ (eB (gs.map Fe.fd) (cq ns i) nm)))) (if cH "take" (.str s)=ah then cw ns i else ns))) n->
   (aq (ay 12 (aD mB (ao ↥8 (ao ↥4 (ao ↥7 ak))))) (aM (cT (w2 ↥12 (wC .none) (bK ai))) (ay 9 (w2 ↥8 ⇑2 aw)) (aq (ay 7 (w2 ↥12 ⇑1 aw)) (aM (cT (w2 (w2 ↥8 ⇑0 aw) (wC (.str "take")) bf)) (ay 4 (w2 (d4 ↥4 d8 (dG (w2 ↥12 ⇑0 aw))) (d4 ↥4 (dG (w2 (w2 ↥12 ⇑0 aw) ⇑1 (cg λi j=>.int (i+j)))) d8) eT)) aN)))) (rV ps hs ns ns m xb xp nm (↑a.d) (ae (.w (.d .none))) af af af af af) n K:=λs gs r5 i ed hpf ei K hK q=>by
  refine aB (bB (x:=.tuple [.int (i:Nat),cF (bJ (eB (gs.map Fe.fd) (cq ns i) nm))]) (λQ q=>b9 (av rfl (av rfl (av rfl ⟨a,_,ns,nm,rfl,oa,hpf,p_,H.nms,?_⟩)))) ?_)
  ·unfold fU;rw[ei];exact q
  dsimp only[A8];refine bo (λQ q=>aE (k:=ai) (λQ q=>au (av rfl (aH q))) q) (aB ?_);refine bB (x:=cF (bJ (eB (gs.map Fe.fd) (cq ns i) nm))) (λQ q=>cO rfl q) ?_;dsimp only[A8];obtain⟨⟨row,age⟩,hq,hf⟩:=uM ei;have hi:i < ns.length:=(Ar.mp hq).1;rw[ed];refine oK rfl (λz=>?_) λz=>?_
  ·rw[b_ z]at q;refine bB (x:=eO (cw ns i)) (λQ q=>au (pW (p:=i) (λQ q=>av rfl q) (λQ q=>dF rfl q) (by rw[Ab];omega) (pC (p:=i+1) (λQ q=>av rfl q) (λQ q=>au (dF rfl (aH (eC q)))) (by rw[Ab];omega) (jo ?_ ?_)))) ?_
   ·have:=p_.1;rw[Ey,D3,Ab];omega
   ·unfold eO at q;rw[vy]at q;exact q
   ·dsimp only[A8];exact hK _ _ (qv o_ k_ hh _ _ _ _ _ _ q)
  ·rw[a_ (by rw[z];exact Az)]at q;exact hK _ _ (qv o_ k_ hh _ _ _ _ _ _ q)
 cases a with
 |lay fs age=>
  obtain⟨hl4,hfv⟩:=H.lay k_ ea;cases e;refine aB (kl (a:=.str "lay") (r:=[cz fs,age]) rfl ∅ ?_);refine bB (x:=eO (ns++[(fS fs nm,age)])) (λQ q=>?_) ?_
  ·refine au (av rfl (qh (cy (cb (cO (a:=.str "lay") (b:=cz fs) (r:=[age]) rfl (av rfl ⟨fs,nm,rfl,hl4,hfv,H.nms,?_⟩))))));refine gN (m:=2) (ds:=[.str "lay",cz fs,age]) rfl rfl (Ao (show 2<=1000 by decide) (Ao (show 1<=1000 by decide) (jo (by rw[Ab,A4];have:=p_.1;omega) ?_)));unfold eO at q;rw[Bd]at q;exact q
  ·dsimp only[A8];exact qv o_ k_ hh _ _ _ _ _ _ k
 |go b=>
  cases e;obtain⟨bl,h1,h2⟩:=toB b rfl;refine aB (dE (a:=.str "go") (r:=[.int b]) rfl ∅ (kl (a:=.str "go") (r:=[.int b]) rfl ∅ ?_));refine bB (x:=.int b) (λQ q=>cO (a:=.str "go") (b:=.int b) (r:=[]) rfl q) ?_;dsimp only[A8];exact uv o_ k_ hh H.pD h1 h2 _ _ _ _ _ _ k
 |same f g b=>
  obtain⟨hf,hg,tf,tg⟩:=H.same k_ ea;obtain⟨bl,h1,h2⟩:=toB b rfl;cases e;refine aB (dE (a:=.str "same") (r:=[f.d,g.d,.int b]) rfl ∅ (dE (a:=.str "same") (r:=[f.d,g.d,.int b]) rfl ∅ (kl (a:=.str "same") (r:=[f.d,g.d,.int b]) rfl ∅ ?_)));refine aB ?_;refine a7 (i9 (ds:=[f.d,g.d]) (λQ q=>?_) ?_)
  ·unfold d4;refine av rfl ?_;dsimp only[Ac.d,dG];refine aH ?_;dsimp only;refine aH ?_;dsimp only;rw[KH];exact q
  refine uo (α:=Fe) Fe.d (eI nm) [f,g] [] af n (λu hu n Q' q=>?_) ?_
  ·rcases Av.mp hu with rfl|hu
   ·exact w6 hf tf H.nms n Q' q
   ·rw[Bm.mp hu]at q ⊢;exact w6 hg tg H.nms n Q' q
  rw[G3];refine Ao rfl ?_;dsimp only[bF,dg,aJ,A8];have k:Q (.d (bI (aU hs m (if eR (eI nm f) (eI nm g)=ah then dY (xb,xp,nm) nm else b4 P b nm)) ns)) n:=k;cases z:eR (eI nm f) (eI nm g)with
  |true=>
   rw[z,b_ rfl]at k;refine bB (x:=.none) (λQ q=>g9 (b:=ah) (λQ q=>aE (k:=ah) (λQ q=>au (av rfl (av rfl (sy (fw hf) (fw hg) (by rw[z];exact q))))) q) (by rw[b_ rfl];exact aH q)) ?_;dsimp only[A8];exact qv o_ k_ hh _ _ _ _ _ _ k
  |false=>
   rw[z,a_ Az]at k;refine bB (x:=.int b) (λQ q=>g9 (b:=ai) (λQ q=>aE (k:=ai) (λQ q=>au (av rfl (av rfl (sy (fw hf) (fw hg) (by rw[z];exact q))))) q) (by rw[a_ Az];exact gN (m:=3) (ds:=[.str "same",f.d,g.d,.int b]) rfl rfl q)) ?_;dsimp only[A8];exact uv o_ k_ hh H.pD h1 h2 _ _ _ _ _ _ k
 |take gs=>
  have e:(((bj gs (xb,xp,nm) ns).map λq=>(q.2,cw ns q.1)).map λr=>(aU hs m r.1,r.2))=ae r:=e;refine aB (dE (a:=.str "take") (r:=[cz gs]) rfl ∅ (dE (a:=.str "take") (r:=[cz gs]) rfl ∅ (dE (a:=.str "take") (r:=[cz gs]) rfl ∅ ?_)));cases ei:aQ (gs.map Fe.fd) nm ns with
  |none=>rw[hO ei]at e;cases e
  |some i=>
   rw[gU ei]at e;cases e;exact getY "take" gs [cz gs] i rfl rfl ei _ (λ_ _ z=>z) (by rw[b_ ∅];exact k)
 |read gs=>
  have e:(((bj gs (xb,xp,nm) ns).map λq=>(q.2,ns)).map λr=>(aU hs m r.1,r.2))=ae r:=e;refine aB (dE (a:=.str "read") (r:=[cz gs]) rfl ∅ (dE (a:=.str "read") (r:=[cz gs]) rfl ∅ (dE (a:=.str "read") (r:=[cz gs]) rfl ∅ ?_)));cases ei:aQ (gs.map Fe.fd) nm ns with
  |none=>rw[hO ei]at e;cases e
  |some i=>
   rw[gU ei]at e;cases e;exact getY "read" gs [cz gs] i rfl rfl ei _ (λ_ _ z=>z) (by rw[a_ ∅];exact k)
 |look gs b=>
  have e:((match bj gs (xb,xp,nm) ns with|some q=>ae (q.2,ns)|none=>ae (b4 P b nm,ns):Option (Hn×List Nt)).map λr=>(aU hs m r.1,r.2))=ae r:=e;refine aB (dE (a:=.str "look") (r:=[cz gs,.int b]) rfl ∅ (dE (a:=.str "look") (r:=[cz gs,.int b]) rfl ∅ (dE (a:=.str "look") (r:=[cz gs,.int b]) rfl ∅ ?_)));cases ei:aQ (gs.map Fe.fd) nm ns with
  |none=>
   rw[hO ei]at e;cases e;obtain⟨bl,h1,h2⟩:=toB b rfl;refine aB (bB (x:=.none) (λQ q=>b9 (av rfl (av rfl (av rfl ⟨.look gs b,_,ns,nm,rfl,oa,rfl,p_,H.nms,?_⟩)))) ?_)
   ·unfold fU;rw[ei];exact q
   dsimp only[A8];refine bP (λQ q=>aE (k:=ah) (λQ q=>au (av rfl (aH q))) q) ?_;refine bB (x:=.int b) (λQ q=>gN (m:=2) (ds:=[.str "look",cz gs,.int b]) rfl rfl q) ?_;dsimp only[A8];exact uv o_ k_ hh H.pD h1 h2 _ _ _ _ _ _ k
  |some i=>
   rw[gU ei]at e;cases e;exact getY "look" gs [cz gs,.int b] i rfl rfl ei _ (λ_ _ z=>z) (by rw[a_ ∅];exact k)
def oM(ps:Pg):List Hn:=ps.map λ_=>(0,0,[])
theorem IV{ps:Pg}(hf:∀P∈ps,iY P):okHs ps (oM ps):=by
 refine⟨Ab _,λi P a=>?_⟩;obtain⟨w,c⟩:=hf P (A0 a);obtain⟨b,r,rfl,d,_⟩:=C4.mp c;refine⟨(0,0,[]),b,?_,rfl,A1 _,List.nodup_nil,λp e=>(by simp_all),List.Pairwise.nil,λk=>?_,A1 _⟩
 ·unfold oM;rw[Am,a];rfl
 ·show k∈([]:List Str)↔k∈kn b.1 b.2 0;unfold kn;rw[d];simp
theorem O0:b7 rD z0 ["_law_tape_here","_law_programs"]:=λws S Q h=>by
 obtain⟨rfl,N,k⟩:=h;show z0 [ae _,af] S _;refine aB (au (a7 (Ao ∎ ?_)));refine ic rfl ⋯ ∎ ∎ λq z B=>iC z B λd K=>?_;have I:∃j:Nat,j<=3/\d=.int j:=by
  simp only[Av,Bc,h_]at K;rcases K with rfl|rfl|rfl|rfl|rfl|rfl|rfl|rfl
  ·exact⟨1,by simp⟩
  ·exact⟨2,by simp⟩
  ·exact⟨2,by simp⟩
  ·exact⟨1,by simp⟩
  ·exact⟨3,by simp⟩
  ·exact⟨2,by simp⟩
  ·exact⟨0,by simp⟩
  ·exact⟨2,by simp⟩
 obtain⟨j,I,rfl⟩:=I;refine Ao ⟨by omega,by omega⟩ ?_;rw[Cq];refine uS (λd=>∃P,(oG P/\iY P)/\d=gY P) 600 (λd n U D q=>de (av rfl (Ao rfl ⟨by omega,λP p m F s=>q _ p ⟨P,⟨m,F⟩,rfl⟩ ⋯⟩))) _ [] af _ (by rw[eQ];omega) λds T u v y=>?_;rw[eQ]at u y;rw[G3];obtain⟨l,rfl,t⟩:=EK v;rw[Ab]at u;dsimp only[A8];have g:∀(ps':Pg) C,ps'.length<=3->(∀P∈ps',oG P/\iY P)->C<=T+1->(aq (ay 1 (wB fH (ao (cn 1) ak))) (aq (aM (cT (w2 (aD cm (ao _ (ao ⇑2 ak))) ⇑0 bC)) (bO 1 (az (ax (ao ↥1 (ao (aD oO (ao ↥0 (ao ↥1 _))) ak))))) aN) (bO 1 (az (ax (ao ↥1 (ao (ax (ao (wB fH (ao (bg (cK [af] (dh ↥1) _ bQ (ax (ao _ (ao _ (ao (ax ak) ak)))))) ak)) (ao (aD my (ao ↥0 _)) ak))) ak))))))) [ae _,ae (.own _)] C {nx:=λ_ n=>Q (.d .none) n,rt:=Q}:=λps' C O o V=>by
  have A:cu ps':=⟨by omega,λP m=>(o P m).1⟩;refine aB (bB (λQ q=>aT (lQ rfl (q))) ?_);dsimp only[A8];refine aB (cM (au (ic rfl ⋯ ∎ ∎ λq z B=>aH (iu ?_))));show if decide _=ah then _ else _
  by_cases r:q=0
  ·rw[b_ (c_ r)];refine(bN (cy (av rfl (b9 (av rfl (av rfl (aH (Dl ps' ⟨3,rfl,by decide,A,by omega,λhs ns p W D s=>?_⟩))))))));exact Ao (show 2<=1000 by decide) (k ps' hs ns p A W ⟨A5 D.1 ∎,D.2⟩ ⋯)
  ·rw[a_ (by simpa using r)];dsimp only[aN];refine(bN (cy (av rfl (cy (aT (a7 (i9 (λQ q=>av rfl q) ?_)))))));refine uo gY (λ_=>cj (0,0,[])) ps' [] af _ (λa ha n U q=>iZ (aH (aH (Ao (A1 _) (Ao ∎ q))))) (kf (cb (av rfl (aH (Dl 4 ⟨rfl,by decide,by omega,λns p G s=>?_⟩)))));have e:(ps'.map λ_=>cj (0,0,[]))=(oM ps').map cj:=by unfold oM;rw[B6];rfl
   rw[e];exact Ao (show 2<=1000 by decide) (Ao (show 2<=1000 by decide) (k ps' _ ns p A (IV λP m=>(o P m).2) G ⋯))
 refine aB (cM (au (aT (lQ rfl (Nd (aH (iu ?_)))))));rw[Ab];show if decide _=ah then _ else _
 by_cases H:(l.length:Int)=2
 ·rw[b_ (c_ H)];refine au (ic rfl ⋯ ∎ ∎ λq z B=>aH (iu ?_));show if decide _=ah then _ else _
  by_cases r:q=0
  ·rw[b_ (c_ r)];have E:=by omega
   obtain⟨P,x,rfl⟩:∃P x,l=[P,x]:=by
    match l,E with
    |[P,x],_=>exact⟨P,x,rfl⟩
   refine(au (lQ rfl (aH (?_))));refine g [P,P] _ (show 2<=3 by decide) (λR Z=>?_) ⋯;simp_all
  ·rw[a_ (by simpa using r)];exact g l _ ⋯ t ⋯
 ·rw[a_ (by simpa using H)];exact g l _ ⋯ t ⋯
theorem EG{n:Nat}:∀{ds:List Ad},(∀d∈ds,cI n d=ah)->ec n ds=ah
 |[],_=>by rw[ec]
 |d::r,h=>by rw[ec,h d Ap,EG λe a=>h e (Ak _ a)];rfl
theorem ji{n:Nat}{ds:List Ad}(h:∀d∈ds,cI n d=ah):cI (n+1) (.tuple ds)=ah:=EG h
theorem pO(n:Nat)(i:Int):cI n (.int i)=ah:=by rfl
theorem yY{n:Nat}{x:Str}(h:Ec x=ah):cI n (.str x)=ah:=by assumption
theorem nS{n:Nat}{d:Ad}(h:bL d=ah):cI n d=ah:=by
 cases d with
 |str x=>
  refine yY ?_;unfold bL at h;simp only[Bj]at h;exact h.2.1
 |int i=>exact pO n i
 |_=>cases h
theorem eV{a b d:Ad}{P:Ad->Prop}(ha:P a)(hb:P b)(h:d∈[a,b]):P d:=by
 rcases Av.mp h with rfl|h
 ·exact ha
 ·rw[Bm.mp h];omega
theorem Qx{n:Nat}{nm:Nm}(h:∀p∈nm,d6 p):cI (n+2) (cF nm)=ah:=ji λd c=>by
 obtain⟨p,a,rfl⟩:=Ba.mp c;exact ji λe b=>eV (P:=λe=>cI n e=ah) (yY (h p a).1.2.1) (nS (h p a).2) b
theorem Q8{n:Nat}{d:Ad}(h:gx d):cI n d=ah:=by
 rcases h with rfl|⟨i,rfl,_⟩
 ·cases n<;>rw[cI]
 ·exact pO n i
theorem yG{ps:Pg}{hs:List Hn}(o_:okHs ps hs):∀h∈hs,∀p∈h.2.2,d6 p:=λh c=>by
 obtain⟨i,d,e⟩:=G5 c;obtain⟨g,b,a,j,f⟩:=o_.2 i _ (Ah (by rw[<-o_.1];omega));rw[Ah d,e]at a;cases a;exact f.ok
theorem zt{ps:Pg}{hs:List Hn}{ns:List Nt}(o_:okHs ps hs)(p_:∀q∈ns,lM q):cI 6 (bI hs ns)=ah:=by
 refine ji λd a=>eV (P:=λd=>cI 5 d=ah) ?_ ?_ a
 ·refine ji λd a=>?_;obtain⟨h,c,rfl⟩:=Ba.mp a;refine ji λd a=>?_;rcases Av.mp a with rfl|a
  ·exact pO _ _
  ·exact eV (P:=λd=>cI 3 d=ah) (pO _ _) (Qx (yG o_ h c)) a
 ·refine ji λd a=>?_;obtain⟨q,b,rfl⟩:=Ba.mp a;exact ji λd a=>eV (P:=λd=>cI 3 d=ah) (ji λd a=>nS ((p_ q b).1.2 d a)) (Q8 (p_ q b).2) a
def jF(ps:Pg)(s:TK):Option (List Hn×List Nt):=open Classical in if h:∃p:List Hn×List Nt,s.1=bI p.1 p.2/\cR ps p.1 p.2 then ae h.choose else af
def BV(d:Ad):Option TK:=if t:cI 6 d=ah then ae ⟨d,t⟩else af
def bR(ps:Pg)(s:TK)(m:Nat):Option TK:=(jF ps s).bind λp=>(bz ps p.1 p.2 m).bind λr=>BV (bI r.1 r.2)
def Gk(ps:Pg)(c:Nat)(s:TK):Prop:=∃hs ns,s.1=bI hs ns/\cR ps hs ns/\ns.length+c<=99
theorem oJ{ps:Pg}{c:Nat}{s:TK}(h:Gk ps c s):∃hs ns,jF ps s=ae (hs,ns)/\s.1=bI hs ns/\cR ps hs ns/\ns.length+c<=99:=by
 obtain⟨hs,ns,e,f,d⟩:=h;have a:∃p:List Hn×List Nt,s.1=bI p.1 p.2/\cR ps p.1 p.2:=⟨(hs,ns),e,f⟩;refine⟨_,_,by unfold jF;rw[dif_pos a],a.choose_spec.1,a.choose_spec.2,?_⟩;have b:=congrArg Dx (PyData.tuple.inj (Bt (Bt (PyData.tuple.inj (e.symm.trans a.choose_spec.1))).2).1);rw[Ab,Ab]at b;exact A5 (Nat.le_of_eq (congrArg (λx=>x+c) b.symm)) d
section
variable{ps:Pg}{s:TK}{hs:List Hn}{ns:List Nt}{m:Nat}
theorem AM(h:ps.length < m):bz ps hs ns m=af:=by
 unfold bz dw;grind
theorem uG(e:jF ps s=ae (hs,ns))(ok:cR ps hs ns){r:List Hn×List Nt}(ea:bz ps hs ns m=ae r):∃b:TK,bR ps s m=ae b/\b.1=bI r.1 r.2:=by
 have a:m<=ps.length:=by
  by_cases z:m<=ps.length
  ·exact z
  ·rw[AM ⋯]at ea;trivial
 obtain⟨d,c⟩:=zj ok.1 ok.2.1 ok.2.2 a ea;have t:=zt d c.2;refine⟨⟨_,t⟩,?_,rfl⟩;unfold bR;rw[e];show((bz ps hs ns m).bind _)=_;rw[ea];unfold BV;simp_all
theorem sr(e:jF ps s=ae (hs,ns))(ea:bz ps hs ns m=af):bR ps s m=af:=by
 unfold bR;rw[e];show((bz ps hs ns m).bind _)=_;rw[ea];rfl
theorem zv(e:jF ps s=ae (hs,ns))(ok:cR ps hs ns){b:TK}(h:bR ps s m=ae b):∃r,bz ps hs ns m=ae r/\b.1=bI r.1 r.2/\m<=ps.length:=by
 cases a:bz ps hs ns m with
 |none=>rw[sr e a]at h;cases h
 |some r=>
  obtain⟨f,c,d⟩:=uG e ok a;rw[h]at c;cases c;refine⟨r,rfl,d,?_⟩;by_cases z:m<=ps.length
  ·exact z
  ·rw[AM ⋯]at a;trivial
theorem Ms(e:jF ps s=ae (hs,ns))(ok:cR ps hs ns):gP (bR ps) ps.length s=iz ps hs ns:=by
 refine List.filter_congr λi _=>?_;cases c:bz ps hs ns i with
 |none=>rw[sr e c];rfl
 |some r=>obtain⟨b,d,_⟩:=uG e ok c;rw[d];rfl
end
theorem uy{ps:Pg}{c:Nat}{s:TK}{n:Int}{R:DQ}(g:Gk ps c s)(r:R (.d (.list ((gP (bR ps) ps.length s).map λi=>.int (i:Nat)))) n):hG [.d (cZ ps),.d s.1] n R:=by
 obtain⟨h,b,e,f,a,_⟩:=oJ g;rw[Ms e a]at r;exact⟨ps,h,b,by rw[f],a,r⟩
theorem sC{ps:Pg}{c:Nat}{s b:TK}{i:Nat}{n:Int}{R:DQ}(g:Gk ps c s)(h:bR ps s i=ae b)(r:R (.d b.1) n):gV [.d (cZ ps),.d s.1,.d (.int (i:Nat))] n R:=by
 obtain⟨m,j,e,k,a,_⟩:=oJ g;obtain⟨q,o,f,l⟩:=zv e a h;rw[f]at r;exact⟨ps,m,j,i,q,by rw[k],a,l,o,r⟩
theorem uf{ps:Pg}{c:Nat}{s:TK}(g:Gk ps c s):∃ds,s.1=.tuple ds:=by
 obtain⟨a,b,e,_⟩:=g;exact⟨_,e⟩
theorem zr{ps:Pg}{c:Nat}{s b:TK}{i:Nat}(g:Gk ps (c+1) s)(h:bR ps s i=ae b):Gk ps c b:=by
 obtain⟨p,n,e,o,a,m⟩:=oJ g;obtain⟨q,l,f,j⟩:=zv e a h;obtain⟨k,d⟩:=zj a.1 a.2.1 ⟨Al _,a.2.2.2⟩ j l;have:=d.1;exact⟨q.1,q.2,f,⟨a.1,k,by omega,d.2⟩,by omega⟩
theorem Pp{ps:Pg}{c:Nat}{s:TK}{i:Nat}{n:Int}{R:DQ}(g:Gk ps c s)(hi:i<=ps.length)(r:R (.d (match bR ps s i with|some b=>b.1|none=>.none)) n):d5 [.d (cZ ps),.d s.1,.d (.int (i:Nat))] n R:=by
 obtain⟨h,a,e,l,k,_⟩:=oJ g;refine⟨ps,h,a,i,by rw[l],k,hi,?_⟩;cases j:bz ps h a i with
 |none=>rw[sr e j]at r;exact r
 |some q=>
  obtain⟨b,m,o⟩:=uG e k j;rw[m]at r;have r:R (.d b.1) n:=r;rw[o]at r;exact r
theorem sq(ps:Pg):GoL hG gV (cZ ps) ps.length (bR ps) (Gk ps) where
 mv:=λ_ _ _ _ g r=>uy g r
 go:=λ_ _ _ _ _ _ g h r=>sC g h r
 tup:=λ_ _ g=>uf g
 good:=λ_ _ _ _ g _ h=>zr g h
section
variable{ps:Pg}{Gd:TK->Prop}(h0:∀k,Gd k->Gk ps 0 k)(hc:∀(s:TK) (i:Nat) (b:TK),Gd s->i<=ps.length->bR ps s i=ae b->Gd b)
include h0 hc
theorem O9:AfOk d5 (cZ ps) ps.length (bR ps) Gd where
 call:=λ_ _ _ _ g a r=>Pp (h0 _ g) a r
 good:=hc
 tup:=λ_ g=>uf (h0 _ g)
 prog:=⟨_,rfl,Ab _⟩
end
section
variable{δ:Sl}{n:Int}{Q:DQ}{i:Nat}
theorem nN{m:List (TK×Ad)}(e:δ[i]?=ae (ae (.w (.ob (.y m)))))(k:Q (.ob (.y m)) n):d9 i δ n Q:=by unfold d9;simp_all
theorem QD{d:Ad}(e:δ[i]?=ae (↑d))(k:Q (.d d) n):d9 i δ n Q:=by unfold d9;simp_all
end
theorem M7(E:List (TK×Nat)):(fI E).map (λp=>p.1.1)=(E.map (·.1)).map (·.1):=by rw[B6,B6];rfl
theorem Ou{s:Str}{n:Int}{Q:DQ}(q:Q (.d (.bool ai)) n):d0 (.d (.str s)) (.d (.str s)) n Q:=ne_str (by rw[show cH s _=ah by simp[cH]];exact q)
theorem HI:∀ws n Q,kY ws n Q->ws.length=3:=λws n Q h=>by obtain⟨_,_,rfl,_⟩:=h;rfl
theorem RJ:b7 kY FZ ["_law_found","_law_stand_here","_law_due","_law_moves","_law_one","_law_told","_law_steps"]:=λws n Q h=>by
 obtain⟨P,E,rfl,hl,l,v,j,⟨V,Z,L⟩,M,q⟩:=h;have u:(fI E).length<=1000:=by rw[Ab];omega
 have o:∀e∈E,∀(n:Int)(g:DQ),g (.d (.str e.1.1.shown)) n->kK [.d e.1.1] n g:=λe b n g i=>by
  obtain⟨⟨ds,z⟩,K,_⟩:=v e b;rw[z]at K i ⊢;exact .inr ⟨K,i⟩
 have N:(P,V)∈E:=by rw[L];simp
 refine aB (bo (λQ q=>gf (λQ q=>m5 (λQ q=>aE (λQ q=>av rfl q) q) q) (gf (λQ q=>aE (λQ q=>au (aT (av rfl (aT (nN rfl ⟨_,_,rfl,.inr rfl,KJ ?_ q⟩))))) q) (aE (λQ q=>au (aT (au (av rfl (aH ?_))))) q))) ?_)
 ·rw[Ab,Ab,Ab]
 ·have S:cx ((E.map (·.1)).map _) ((0:Nat):Int)=ae P.1:=d7 (by rw[L];rfl);refine(show(match cx _ ((0:Nat):Int)with|some d=>kK [.d d] n _|none=>False)from ?_);rw[S];refine o _ N n _ ?_;refine aT (av rfl (o _ N n _ ?_));exact Ou q
 dsimp only[aN];refine aB (show aq (aZ (p6 (d9 2)) _ _) _ [ae _,ae _,ae (.w (.ob (.y _))),ae _,af,af,af] n _ from ?_);refine aB (show p6 _ _ _ _ from nN rfl ⟨_,rfl,u,?_⟩);rw[M7];refine eS (λds δ m=>m=n/\∃(c p:List _)(C:Option SV),ds=(p.map (·.1)).map _/\c++p=E/\δ=[ae _,ae _,ae _,ae (.odk (iP c)),C,af,af]) (λδ m I=>?_) (λd r δ m F I X=>?_) _ _ _ ⟨rfl,[],E,_,rfl,rfl,rfl⟩
 ·obtain⟨rfl,c,p,C,t,f,rfl⟩:=I;cases Dt.mp (Dt.mp t.symm);rw[Bu]at f;subst f;dsimp only;refine aB (a7 ?_);unfold cK e8;refine av rfl ?_;rw[B6];refine q7 _ _ c af m (λe b n g i=>aT (av rfl (o e b n g i))) ?_;dsimp only[A8];refine aB (bo (λQ q=>av rfl ⟨_,by rw[B6];rfl,by rw[Ab];omega,λk A=>?_,?_⟩) ?_)
  ·obtain⟨e,b,rfl⟩:=Ba.mp A;exact(v e b).2.2
  ·refine⟨_,rfl,?_,q⟩;rw[iP,B6,B6];rfl
  ·dsimp only[aN];refine aB (a7 ?_);refine av rfl ?_;refine q7 _ (λe=>.int (e.2:Nat)) c af m (λe b n g i=>au (L0 rfl (av rfl (?_)))) ?_
   ·refine(show(match bA _ (.inr e.1.1.shown)with|some d=>g _ n|none=>False)from ?_);rw[PV j l b];omega
   ·dsimp only[A8];have G:(c.map λe=>Fj (e.2:Nat))=(c.map λe=>((e.2:Nat):Int)).map .int:=by rw[B6];rfl
    refine bN (au (av rfl (a7 (av rfl ⟨_,by rw[G],by rw[Ab];omega,?_,?_⟩))))
    ·rw[Fi]at M ⊢;exact M.imp λh=>Int.ofNat_le.mpr h
    ·have J:C1 (.list ((c.map λe=>((e.2:Nat):Int)).map .int))=ah:=by exact BO _
     have O:E3 (.list ((c.map λe=>((e.2:Nat):Int)).map .int))<=20:=by rw[E3];have:=BM (c.map λe=>((e.2:Nat):Int));omega
     rw[G];refine Ao J ⟨J,O,O,_,?_,q⟩;show ae _=ae ah;rw[C0,y8]
 ·obtain⟨rfl,c,p,C,t,f,rfl⟩:=I;obtain⟨k,R,T,rfl,rfl⟩:=C4.mp t.symm;obtain⟨e,B,rfl,rfl,rfl⟩:=C4.mp T;have b:e∈E:=by rw[<-f];exact B2 _ Ap
  have Y:=λx H z=>by
   have s:x∈E:=by rw[<-f];exact C3 _ H
   have A:=j x s e b z;rw[<-f,Bd,Gg]at l;exact l.2.2 x.1 (Ba.mpr ⟨x,H,rfl⟩) e.1 Ap A
  dsimp only[aJ,A8];refine(?_);refine(au (nN rfl (av rfl ⟨_,_,e.1,_,.inr rfl,rfl,⟨rfl,(v e b).1⟩,AY l b,?_⟩)));refine aT (av rfl (o e b m _ ?_));refine Ao ?_ (X _ _ ⟨rfl,c++[e],B,↑e.1.1,rfl,by rw[<-f,A2];rfl,?_⟩)
  ·have:=congrArg Dx f;rw[An]at this;rw[iP,Ab];omega
  ·rw[P7 Y];rfl
end Nb
namespace KG
open PySem PySem.W PyProof.Rows
def c0(i:Int):List Nat:=(Fj i).shown.cps.toList
mutual
def Cs:Ad->List Nat
 |.none=>[78,111,110,101]
 |.int i=>c0 i
 |.str x=>39::(x.cps.toList++[39])
 |.tuple xs=>40::(match xs with
  |[]=>[41]
  |[x]=>Cs x++[44,41]
  |x::y::r=>Cs x++Cl (y::r))
 |_=>[]
def Cl:List Ad->List Nat
 |[]=>[41]
 |x::r=>44::32::(Cs x++Cl r)
end
mutual
def Pl:Ad->Prop
 |.none=>True
 |.int i=>c0 i≠[]
 |.str x=>39∉x.cps.toList/\(reprText x).cps.toList=39::(x.cps.toList++[39])
 |.tuple xs=>cP xs
 |_=>False
def cP:List Ad->Prop
 |[]=>True
 |x::r=>Pl x/\cP r
end
def mr(r:List Nat):Prop:=r=[]\/∃c t,r=c::t/\(c=44\/c=41)
theorem yo{k:Nat}:∀{a b r r':List Nat},k∉a->k∉b->a++k::r=b++k::r'->a=b/\r=r'
 |[],[],_,_,_,_,h=>⟨rfl,(Bt h).2⟩
 |[],y::b,_,_,_,d,h=>g_ ((Bt h).1▸Ap) d
 |x::a,[],_,_,c,_,h=>g_ ((Bt h).1▸Ap) c
 |x::a,y::b,_,_,c,d,h=>by
  have e:=(Bt h).1;subst e;obtain⟨rfl,rfl⟩:=yo (λm=>c (Ak _ m)) (λm=>d (Ak _ m)) ((Bt h).2);simp
theorem yH:∀{a b r r':List Nat},44∉a->41∉a->44∉b->41∉b->mr r->mr r'->a++r=b++r'->a=b/\r=r'
 |[],[],_,_,_,_,_,_,_,_,h=>⟨rfl,h⟩
 |[],y::b,r,_,_,_,j,g,d,_,h=>by
  rcases d with rfl|⟨c,t,rfl,l⟩
  ·cases h
  ·obtain⟨rfl,_⟩:=Bt h;rcases l with rfl|rfl
   ·exact g_ Ap j
   ·exact g_ Ap g
 |x::a,[],_,r',k,i,_,_,_,d,h=>by
  rcases d with rfl|⟨c,t,rfl,l⟩
  ·cases h
  ·obtain⟨rfl,_⟩:=Bt h;rcases l with rfl|rfl
   ·exact g_ Ap k
   ·exact g_ Ap i
 |x::a,y::b,_,_,k,i,j,g,d,n,h=>by
  have e:=(Bt h).1;subst e;obtain⟨rfl,rfl⟩:=yH (λm=>k (Ak _ m)) (λm=>i (Ak _ m)) (λm=>j (Ak _ m)) (λm=>g (Ak _ m)) d n ((Bt h).2);simp
theorem ME{i:Int}(h:c0 i≠[]):∃c t,c0 i=c::t/\(c=45\/48<=c/\c<=57):=by
 cases e:c0 i with
 |nil=>exact g_ e h
 |cons c t=>
  refine⟨c,t,rfl,?_⟩;by_cases z:c=45\/48<=c/\c<=57
  ·exact z
  ·exact g_ (e▸Ap) (shown_int_free' ⋯ i)
theorem N4{i j:Int}(h:c0 i=c0 j):i=j:=by
 unfold c0 at h;rw[PyData.shown_int,PyData.shown_int,signs_ofString,signs_ofString]at h;exact Int.repr_injective (String.toList_inj.mp ((List.map_inj_right (λa b k=>Char.ext (UInt32.toNat_inj.mp k))).mp h))
theorem lz(xs:List Ad)(r:List Nat):mr (Cl xs++r):=by
 cases xs with
 |nil=>exact .inr ⟨41,r,rfl,.inr rfl⟩
 |cons x l=>exact .inr ⟨44,_,rfl,.inl rfl⟩
def kd(c:Nat):Nat:=if c=78 then 1 else if c=39 then 2 else if c=40 then 3 else if c=45\/48<=c/\c<=57 then 4 else 0
def kin:Ad->Nat
 |.none=>1
 |.str _=>2
 |.tuple _=>3
 |.int _=>4
 |_=>5
theorem rX:∀{d:Ad},Pl d->∃c t,Cs d=c::t/\kd c=kin d
 |.none,_=>⟨78,_,by trivial⟩
 |.str x,_=>⟨39,_,by trivial⟩
 |.tuple [],_=>⟨40,_,by trivial⟩
 |.tuple [x],_=>⟨40,_,by trivial⟩
 |.tuple (x::y::r),_=>⟨40,_,by trivial⟩
 |.int i,p=>by
  obtain⟨c,t,e,a⟩:=ME (by simpa[Pl]using p);refine⟨c,t,by rw[Cs,e],?_⟩;show kd c=4;unfold kd;rw[a_ ⋯,a_ ⋯,a_ ⋯,b_ a]
 |.bool _,p=>by simp[Pl]at p
 |.list _,p=>by simp[Pl]at p
 |.dict _,p=>by simp[Pl]at p
theorem gb{d d':Ad}{r r':List Nat}(p:Pl d)(p':Pl d')(h:Cs d++r=Cs d'++r'):kin d=kin d':=by
 obtain⟨c,t,e,k⟩:=rX p;obtain⟨g,a,b,f⟩:=rX p';simp_all
theorem qB{d:Ad}(p:Pl d){r t:List Nat}(h:Cs d++r=41::t):False:=by
 obtain⟨c,a,e,k⟩:=rX p;rw[e]at h;rw[(Bt h).1]at k;cases d<;>simp[kin,kd]at k
mutual
theorem k9:∀(d d':Ad){r r':List Nat},Pl d->Pl d'->mr r->mr r'->Cs d++r=Cs d'++r'->d=d'/\r=r'
 |.none,.none,r,r',_,_,_,_,h=>⟨rfl,by simpa[Cs]using h⟩
 |.int i,.int j,r,r',_,_,d,d',h=>by
  have f:∀n:Int,44∉c0 n/\41∉c0 n:=λn=>⟨shown_int_free' ∎ n,shown_int_free' ∎ n⟩;obtain⟨e,e2⟩:=yH (f i).1 (f i).2 (f j).1 (f j).2 d d' (by simpa[Cs]using h);exact⟨congrArg _ (N4 e),e2⟩
 |.str x,.str y,r,r',p,p',_,_,h=>by
  rw[Cs,Cs]at h;have h2:(x.cps.toList++[39])++r=(y.cps.toList++[39])++r':=(Bt h).2;rw[A2,A2]at h2;obtain⟨e,e2⟩:=yo (show 39∉x.cps.toList from(by simpa[Pl]using p:_/\_).1) (show 39∉y.cps.toList from(by simpa[Pl]using p':_/\_).1) h2;refine⟨congrArg _ ?_,e2⟩;cases x;cases y;exact congrArg _ (Gt.mp e)
 |.tuple xs,.tuple ys,r,r',p,p',_,_,h=>by
  have p1:cP xs:=by simpa[Pl]using p
  have p2:cP ys:=by simpa[Pl]using p'
  match xs,ys,p1,p2,h with
  |[],[],_,_,h=>exact⟨rfl,by simpa[Cs]using h⟩
  |[],[y],_,p2,h=>
   rw[cP]at p2;rw[Cs,Cs]at h;have h2:41::r=(Cs y++[44,41])++r':=(Bt h).2;rw[A2]at h2;exact(qB p2.1 h2.symm).elim
  |[],y::z::l,_,p2,h=>
   rw[cP]at p2;rw[Cs,Cs]at h;have h2:41::r=(Cs y++Cl (z::l))++r':=(Bt h).2;rw[A2]at h2;exact(qB p2.1 h2.symm).elim
  |[x],[],p1,_,h=>
   rw[cP]at p1;rw[Cs,Cs]at h;have h2:(Cs x++[44,41])++r=41::r':=(Bt h).2;rw[A2]at h2;exact(qB p1.1 h2).elim
  |x::z::l,[],p1,_,h=>
   rw[cP]at p1;rw[Cs,Cs]at h;have h2:(Cs x++Cl (z::l))++r=41::r':=(Bt h).2;rw[A2]at h2;exact(qB p1.1 h2).elim
  |[x],[y],p1,p2,h=>
   rw[cP]at p1 p2;rw[Cs,Cs]at h;have h2:(Cs x++[44,41])++r=(Cs y++[44,41])++r':=(Bt h).2;rw[A2,A2]at h2;obtain⟨e,e2⟩:=k9 x y p1.1 p2.1 (.inr ⟨44,_,rfl,.inl rfl⟩) (.inr ⟨44,_,rfl,.inl rfl⟩) h2;exact⟨by rw[e],by simpa using e2⟩
  |[x],y::z::l,p1,p2,h=>
   rw[cP]at p1 p2;rw[Cs,Cs]at h;have h2:(Cs x++[44,41])++r=(Cs y++Cl (z::l))++r':=(Bt h).2;rw[A2,A2]at h2;obtain⟨e,e2⟩:=k9 x y p1.1 p2.1 (.inr ⟨44,_,rfl,.inl rfl⟩) (lz _ _) h2;simp[Cl]at e2
  |x::z::l,[y],p1,p2,h=>
   rw[cP]at p1 p2;rw[Cs,Cs]at h;have h2:(Cs x++Cl (z::l))++r=(Cs y++[44,41])++r':=(Bt h).2;rw[A2,A2]at h2;obtain⟨e,e2⟩:=k9 x y p1.1 p2.1 (lz _ _) (.inr ⟨44,_,rfl,.inl rfl⟩) h2;simp[Cl]at e2
  |x::z::l,y::z'::l',p1,p2,h=>
   rw[cP]at p1 p2;rw[Cs,Cs]at h;have h2:(Cs x++Cl (z::l))++r=(Cs y++Cl (z'::l'))++r':=(Bt h).2;rw[A2,A2]at h2;obtain⟨e,e2⟩:=k9 x y p1.1 p2.1 (lz _ _) (lz _ _) h2;obtain⟨e3,e4⟩:=xM (z::l) (z'::l') p1.2 p2.2 e2;exact⟨by rw[e,e3],e4⟩
 |.none,.int _,_,_,p,p',_,_,h=>nomatch gb p p' h
 |.none,.str _,_,_,p,p',_,_,h=>nomatch gb p p' h
 |.none,.tuple _,_,_,p,p',_,_,h=>nomatch gb p p' h
 |.int _,.none,_,_,p,p',_,_,h=>nomatch gb p p' h
 |.int _,.str _,_,_,p,p',_,_,h=>nomatch gb p p' h
 |.int _,.tuple _,_,_,p,p',_,_,h=>nomatch gb p p' h
 |.str _,.none,_,_,p,p',_,_,h=>nomatch gb p p' h
 |.str _,.int _,_,_,p,p',_,_,h=>nomatch gb p p' h
 |.str _,.tuple _,_,_,p,p',_,_,h=>nomatch gb p p' h
 |.tuple _,.none,_,_,p,p',_,_,h=>nomatch gb p p' h
 |.tuple _,.int _,_,_,p,p',_,_,h=>nomatch gb p p' h
 |.tuple _,.str _,_,_,p,p',_,_,h=>nomatch gb p p' h
 |.bool _,_,_,_,p,_,_,_,_=>by simp[Pl]at p
 |.list _,_,_,_,p,_,_,_,_=>by simp[Pl]at p
 |.dict _,_,_,_,p,_,_,_,_=>by simp[Pl]at p
 |_,.bool _,_,_,_,p,_,_,_=>by simp[Pl]at p
 |_,.list _,_,_,_,p,_,_,_=>by simp[Pl]at p
 |_,.dict _,_,_,_,p,_,_,_=>by simp[Pl]at p
theorem xM:∀(xs ys:List Ad){r r':List Nat},cP xs->cP ys->Cl xs++r=Cl ys++r'->xs=ys/\r=r'
 |[],[],r,r',_,_,h=>⟨rfl,by simpa[Cl]using h⟩
 |[],_::_,_,_,_,_,h=>by simp[Cl]at h
 |_::_,[],_,_,_,_,h=>by simp[Cl]at h
 |x::xs,y::ys,r,r',p,p',h=>by
  rw[Cl,Cl]at h;have h2:(Cs x++Cl xs)++r=(Cs y++Cl ys)++r':=(Bt (Bt h).2).2;rw[A2,A2]at h2;obtain⟨e,e2⟩:=k9 x y (by simpa[cP]using p.1) (by simpa[cP]using p'.1) (lz _ _) (lz _ _) h2;obtain⟨e3,e4⟩:=xM xs ys (by simpa[cP]using p.2) (by simpa[cP]using p'.2) e2;exact⟨by rw[e,e3],e4⟩
end
mutual
theorem jK:∀(d:Ad),Pl d->d.shown.cps.toList=Cs d
 |.none,_=>by rw[PyData.shown_none,Cs];decide +kernel
 |.int i,_=>by rw[Cs];rfl
 |.str x,p=>by
  rw[Pl]at p;rw[PyData.shown_str,Cs];exact p.2
 |.tuple [],_=>by rw[Cs];decide +kernel
 |.tuple [x],p=>by
  rw[Pl,cP]at p;rw[PyData.shown_tuple,Cs,Ef,Ef,Dg,Dg,join_one,jK x p.1];rfl
 |.tuple (x::y::r),p=>by
  rw[Pl,cP]at p;rw[PyData.shown_tuple,Cs,Ef,Ef,Dg,Dg,join_cons_cons,Ef,Ef,jK x p.1];have j:=CT (y::r) p.2 (λe=>nomatch e);rw[Dg,Cl]at j;rw[Cl,<-show _=Cs y++Cl r from j];simp[signs_ofString]
 |.bool _,p=>by simp[Pl]at p
 |.list _,p=>by simp[Pl]at p
 |.dict _,p=>by simp[Pl]at p
theorem CT:∀(l:List Ad),cP l->l≠[]->(Str.join ", " (Dg l)).cps.toList++[41]=(Cl l).drop 2
 |[],_,h=>g_ rfl h
 |[y],p,_=>by
  rw[cP]at p;rw[Dg,Dg,join_one,jK y p.1,Cl,Cl];rfl
 |y::z::r,p,_=>by
  rw[cP]at p;rw[Dg,Dg,join_cons_cons,Ef,Ef,jK y p.1];have j:=CT (z::r) p.2 (λe=>nomatch e);rw[Dg,Cl]at j;rw[Cl,Cl,<-show _=Cs z++Cl r from j];simp[signs_ofString]
end
theorem shown_inj{d d':Ad}(p:Pl d)(p':Pl d')(h:d.shown=d'.shown):d=d':=
 (k9 d d' p p' (.inl rfl) (.inl rfl) (by rw[<-jK d p,<-jK d' p',h])).1
end KG
namespace KG
open PySem PySem.W PyProof.Rows
theorem FN(i:Int):c0 i≠[]:=by
 unfold c0;rw[PyData.shown_int,signs_ofString];intro h;have h:=Dt.mp h;have:toString i="":=String.toList_inj.mp h
 revert this
 cases i with
 |ofNat n=>
  intro h;have d:(Nat.repr n).length=0:=congrArg String.length h;simp_all
 |negSucc n=>
  intro h;have d:=congrArg String.length (show "-"++Nat.repr _="" from h);simp_all
mutual
theorem oq:∀(d:Ad),Pl d->C1 d=ah->∀c∈Cs d,c < 1114112
 |.none,_,_=>by rw[Cs];decide
 |.int i,_,_=>λc hc=>by
  rw[Cs]at hc;by_cases z:c=45\/48<=c/\c<=57
  ·omega
  ·exact g_ hc (shown_int_free' (k:=c) ⋯ i)
 |.str x,_,h=>λc hc=>by
  rw[C1]at h;rw[Cs]at hc;rcases Av.mp hc with rfl|hc
  ·decide
  ·rcases A7.mp hc with hc|hc
   ·have:=Array.all_eq_true_iff_forall_mem.mp h c (Array.mem_toList_iff.mp hc);exact e_ this
   ·rw[Bm.mp hc];decide
 |.tuple [],_,_=>by rw[Cs];decide
 |.tuple [x],p,h=>λc hc=>by
  rw[Pl,cP]at p;rw[C1,Cp,Bj]at h;rw[Cs]at hc;rcases Av.mp hc with rfl|hc
  ·decide
  ·rcases A7.mp hc with hc|hc
   ·exact oq x p.1 h.1 c hc
   ·have:∀c∈[44,41],c < 1114112:=by decide
    exact this c hc
 |.tuple (x::y::r),p,h=>λc hc=>by
  rw[Pl,cP]at p;rw[C1,Cp,Bj]at h;rw[Cs]at hc;rcases Av.mp hc with rfl|hc
  ·decide
  ·rcases A7.mp hc with hc|hc
   ·exact oq x p.1 h.1 c hc
   ·exact CW (y::r) p.2 h.2 c hc
 |.bool _,p,_=>by simp[Pl]at p
 |.list _,p,_=>by simp[Pl]at p
 |.dict _,p,_=>by simp[Pl]at p
theorem CW:∀(l:List Ad),cP l->Cp l=ah->∀c∈Cl l,c < 1114112
 |[],_,_=>by rw[Cl];decide
 |x::r,p,h=>λc hc=>by
  rw[cP]at p;rw[Cp,Bj]at h;rw[Cl]at hc;rcases Av.mp hc with rfl|hc
  ·decide
  ·rcases Av.mp hc with rfl|hc
   ·decide
   ·rcases A7.mp hc with hc|hc
    ·exact oq x p.1 h.1 c hc
    ·exact CW r p.2 h.2 c hc
end
theorem shown_ok{d:Ad}(p:Pl d)(h:C1 d=ah):Ec d.shown=ah:=by
 refine Array.all_eq_true_iff_forall_mem.mpr λc a=>c_ (oq d p h c ?_);rw[<-jK d p];exact Array.mem_toList_iff.mpr a
end KG
namespace Nb
open PySem L2 DL KG
theorem Qb{c:Nat}(h:pJ c=ah):97<=c/\c<=122:=by
 unfold pJ at h;rw[Bj]at h;have e:("a":Str).cps.toList=[97]:=by rfl
 have d:("z":Str).cps.toList=[122]:=by rfl
 have b:=by simpa using h.1
 have a:=by simpa using h.2
 refine⟨Nat.not_lt.mp λz=>b ?_,Nat.not_lt.mp λz=>a ?_⟩
 ·exact List.Lex.rel z
 ·exact List.Lex.rel z
theorem Qf:∀c,c < 26->Builtin.Str.reprChar 39 (97+c)=[97+c]:=by trivial
theorem y9:∀(l:List Nat)(o:Array Nat),(∀c∈l,Builtin.Str.reprChar 39 c=[c])->(l.foldl (λout c=>out++(Builtin.Str.reprChar 39 c).toArray) o).toList=o.toList++l
 |[],o,_=>by simp
 |c::l,o,h=>by
  rw[Eo,y9 l _ λd a=>h d (Ak _ a),h c Ap];simp
theorem EH{x:Str}(h:x.cps.toList.all pJ=ah):Pl (.str x):=by
 have f:=λc d=>Qb (E1.mp h c d);have b:39∉x.cps.toList:=λz=>by have:=f 39 z;omega
 refine⟨b,?_⟩;have g:reprQuote x=39:=by
  unfold reprQuote;simp_all
 unfold reprText;rw[g,Array.toList_push,<-Array.foldl_toList,y9 _ _ λc d=>?_]
 ·rfl
 ·have:=f c d;have e:=Qf (c-97) ⋯;simp_all
theorem oA(i:Int):Pl (.int i):=FN i
theorem xJ:∀{ds:List Ad},(∀d∈ds,Pl d)->cP ds
 |[],_=>by trivial
 |d::r,h=>⟨h d Ap,xJ λe a=>h e (Ak _ a)⟩
theorem jh{ds:List Ad}(h:∀d∈ds,Pl d):Pl (.tuple ds):=xJ h
theorem me{d:Ad}(h:bL d=ah):Pl d:=by
 cases d with
 |str x=>
  unfold bL at h;simp only[Bj]at h;rcases e_ h.2.2 with rfl|rfl|rfl<;>exact EH (by rfl)
 |int i=>exact oA i
 |_=>cases h
theorem sL{x:Str}(h:okX x):Pl (.str x):=by
 have:=h.2.2;unfold kx at this;rw[Bj,Bj]at this;exact EH this.2.2
theorem KY{ps:Pg}{hs:List Hn}{ns:List Nt}(o_:okHs ps hs)(p_:∀q∈ns,lM q):Pl (bI hs ns):=by
 refine jh λd b=>eV ?_ ?_ b
 ·refine jh λd b=>?_;obtain⟨h,k,rfl⟩:=Ba.mp b;refine jh λd b=>?_;rcases Av.mp b with rfl|b
  ·exact oA _
  ·refine eV (oA _) (jh λd b=>?_) b;obtain⟨p,l,rfl⟩:=Ba.mp b;have o:=yG o_ h k p l;exact jh λe j=>eV (sL o.1) (me o.2) j
 ·refine jh λd b=>?_;obtain⟨q,g,rfl⟩:=Ba.mp b;refine jh λd b=>eV (jh λd b=>me ((p_ q g).1.2 d b)) ?_ b;rcases(p_ q g).2 with e|⟨i,e,_⟩
  ·rw[e];trivial
  ·rw[e];exact oA i
end Nb
namespace Nb
open PySem L2 DL
theorem AO{aft:TK->Nat->Option TK}{N:Nat}{s0:TK}:∀j,((El aft N s0 j).map (·.1)).Nodup
 |0=>by simp[El]
 |j+1=>by
  have d:=AO (aft:=aft) (N:=N) (s0:=s0) j;show(List.map _ (match _[j]? with|some s=>dM aft N _ s|none=>El aft N s0 j)).Nodup;cases(El aft N s0 j)[j]? with
  |none=>exact d
  |some s=>
   have b:∀(a:List Nat) E,(E.map (·.1)).Nodup->((a.foldl (dS aft s) E).map (·.1)).Nodup:=by
    intro a
    induction a with
    |nil=>exact λE h=>h
    |cons i a c=>exact λE h=>c _ (yF h)
   exact b _ _ d
theorem LJ{aft:TK->Nat->Option TK}{N:Nat}{s0:TK}(j:Nat):∃m r,El aft N s0 j=(s0,m)::r:=by
 have p:=jG (aft:=aft) (N:=N) s0 0 j;rw[Nat.zero_add,<-il j]at p;obtain⟨t,e⟩:=p;obtain⟨x,r,b,a,c⟩:=C4.mp e.symm;refine⟨x.2,r,?_⟩;rw[b,<-a]
theorem La:yr (af::ae (.w .tp)::Di 4 af) 0 mV:=by
 show yr [af,ae _,af,af,af,af] 0 mV;refine aB (de (av rfl ⟨rfl,by decide,λps p u n1 K L B S=>?_⟩));refine Ao rfl ?_;dsimp only[bF,dg,A8];have hl:=B.1;obtain⟨c,E⟩:∃c:TK,c.1=bI p u:=⟨⟨_,zt L B.2⟩,rfl⟩;have F:Gk ps 71 c:=⟨p,u,E,⟨K,L,by omega,B.2⟩,by omega⟩;rw[<-E];refine aB (⟨_,c,70,_,_,_,rfl,sq ps,F,by decide,by decide,?_,λJ hJ M=>?_⟩)
 ·dsimp only[Ca];exact aB (bP (λQ q=>aE (λQ q=>au (QD rfl (aH (.inr (Mq q))))) q) rfl)
 ·dsimp only[Ca];refine aB (bo (λQ q=>aE (λQ q=>au (nN rfl (aH (.inr (Lk q))))) q) ?_);dsimp only[aN];have lk:(Lr (bR ps) ps.length c J).length=(El (bR ps) ps.length c J).length:=by rw[<-il,Ab]
  have I:(Lr (bR ps) ps.length c J).length<=J:=by simp_all
  have D:∀e∈El _ ps.length c J,Gk ps 0 e.1:=λe j=>by
   obtain⟨p,u,P,X,Z⟩:=((t7 (Gk:=Gk ps) (λ_ _ _ _ g _ h=>zr g h) F J M) e j).2;exact⟨p,u,P,X,by omega⟩
  have U:∀k∈Lr _ ps.length c J,Gk ps 0 k:=λk G=>by
   rw[<-il]at G;obtain⟨e,j,rfl⟩:=Ba.mp G;exact D e j
  have Y:∀s i b,s∈Lr _ ps.length c J->i<=ps.length->bR ps s i=ae b->b∈Lr _ ps.length c J:=λs i b p T e=>FI I p T e;have O:c∈Lr (bR ps) ps.length c J:=by
   have:=(jG c 0 J).subset (show c∈Lr (bR ps) ps.length c 0 by simp[Lr]);simp_all
  have W:=K.1;have v:∀e∈El _ ps.length c J,KG.Pl e.1.1/\Small e.1.1:=λe j=>by
   obtain⟨p,u,N,t,_⟩:=D e j;rw[N];exact⟨KY t.2.1 t.2.2.2,KR t.1 t.2.1 ⟨A5 t.2.2.1 ∎,t.2.2.2⟩⟩
  have l:∀n (R:DQ),R _ n->kY [.d _,.d c.1,.ob _] n R:=λn R r=>
   ⟨c,El (bR ps) ps.length c J,by rw[il],by omega,AO J,λe j=>⟨uf (D e j),(v e j).2,KG.shown_ok (v e j).1 (v e j).2.1⟩,λe j V z h=>Subtype.ext (KG.shown_inj (v e j).1 (v V z).1 h),LJ J,(CF J).1,r⟩
  have o:∀n (R:List Ad->Int->Prop),R _ n->km d5 [.d _,.d c.1] n R:=λn R r=>
   ⟨_,c,_,_,λk=>k∈Lr _ ps.length c J,J,rfl,O9 U Y,O,by omega,I,by omega,r⟩
  refine aB (⟨show 5 < 6 by decide,?_⟩);dsimp only[ao,ak,aj,d9,Ca];refine o _ _ (l _ _ ⟨rfl,bN (b9 (a7 (?_)))⟩);dsimp only[nJ,ao,ak,aj,Ca];refine o _ _ (nN rfl (l _ _ ?_));rfl
theorem NN:∀ws n Q,kR d5 ws n Q->ws.length=2:=λws n Q h=>by obtain⟨_,_,_,_,_,_,rfl,_⟩:=h;rfl
theorem Ln:∀ws n Q,kR d5 ws n Q->L4 (eE ["programs","stand","steps","stands"] ws) n {nx:=λ_ _=>False,rt:=λ_ _=>False,rx:=Q}:=Q2 d5
theorem Kh:∀ws n Q,km d5 ws n Q->ws.length=2:=λws n Q h=>by obtain⟨_,_,_,_,_,_,rfl,_⟩:=h;rfl
theorem Sf:∀ws n Q,km d5 ws n Q->I0 (eE ["programs","stand"] ws) n {nx:=λ_ _=>False,rt:=λ_ _=>False,rn:=Q}:=Hu d5
theorem Kg:∀ws n Q,mj hG gV ws n Q->ws.length=3:=λws n Q h=>by obtain⟨_,_,_,_,_,_,rfl,_⟩:=h;rfl
theorem Ll:∀ws n Q,mj hG gV ws n Q->Li (eE Za ws) n {nx:=λ_ _=>False,rt:=λw n=>w=.d .none/\Q af n,rx:=λkvs n=>Q (ae kvs) n}:=GO hG gV
end Nb
namespace Nb
open PySem L2
def uO(K:Ag):Sp:=λvs H Q _=>∃(a:A')(ns:List Int),vs=[.ref a]/\SqL K H a (ns.map V.int)/\ns.length<=63 /\
 ∀(t p g:A')(H':Hp),H' t=ae (.lst [.ref p,.int 0,.int 0,.ref g])->H' p=ae (.lst (ns.map V.int))->t≠p->Q (.ref t) H'
abbrev CP:TE:=iN (br (tC .non) (br (tC .non) (br (tC .non) (br (tC (.int 1)) (br (tC (.int 2)) aX)))))
end Nb
namespace DL
open PySem L2 Nb
section
variable{P:A3}{w:Bi}{K:Ag}{mg:Str->Option Af}{base:Heap}
theorem Jn{f:A'}{fd:Ce}{st:Stmt}{N:List Str}{k:Nat}{W:aF}(F:Fun K "law" "law" st f fd)(Sc:FnScope N ["_law_script"] (bE st))
  (hN:∀v,start N [v]=ae v::af::Di (N.length-2) af)
  (hW:W (af::ae (.w .tp)::Di (N.length-2) af) 0 mV)
  (hbody:∀(n_:Af)(A:Bq)(outer:List Env)(s:Ai)(H:Hp)(E:XK),Room k (A.deeper (C2 "law" (bE st) s.heap.objs.size f n_))->
   ∃s0 s1 aA T,ez st=s0::s1::aA/\PS (b6 bS P w K mg base N "law" (bE st) f n_ A outer s H E).nox s0 (bw (eu (uO K) [] E0 (br (aI 0) aX)) (c8 1))/\PS (b6 bS P w K mg base N "law" (bE st) f n_ A outer s H E).nox s1 (bw CP (iT (aI 1) (tC (.int 3)) qy))/\DSs (b6 bS P w K mg base N "law" (bE st) f n_ A outer s H E).nox aA T W):
  FnOk P w K mg base bS (k+1) f fd ["_law_script"] (spLaw K):=by
 refine F.ok Sc (λvs H Q E h=>?_) (λn_ A outer s H S Q E L h=>?_)
 ·obtain⟨a,i,rfl,_⟩:=h;rfl
 ·obtain⟨a,i,rfl,I,o,J⟩:=h;obtain⟨s0,s1,aA,T,e,G,x,d⟩:=hbody n_ A outer s H E L;rw[e];refine⟨_,fg G (fg x d.ps),?_⟩;rw[hN];refine⟨_,rfl,a,i,rfl,I,o,λt p g D y O l=>⟨small ∎,λq u=>?_⟩⟩;have b:q≠t:=λz=>by rw[z,y]at u;cases u
  have j:q≠p:=λz=>by simp_all
  refine⟨_,rfl,t,_,3,3,rfl,rfl,(by rw[aG b.symm];omega),rfl,?_⟩;have C:Tp (upd (upd D q (.lst oS)) t _) t ⟨p,q⟩ i 0:={
   ob:=⟨0,0,a9,Int.le_refl _,Int.le_refl _⟩
   ls:=by rw[aG l.symm,aG j.symm];omega
   len:=o
   ag:=λ_=>by rw[aG b,a9]
   gne:=b}
  refine d.sd _ _ _ _ _ 0 mV _ (Q3 C) hW ⟨?_,?_,?_,?_,λ_ _ _ _ _ _ _ _ _ _ _ _ _ z=>z.elim,λ_ _ _ _ _ _ _ _ _ _ _ _ _ z=>z.elim⟩
  ·exact λ_ _ _ _ _ _ z=>z.elim
  ·intro H B σ δ n v w R r z;subst z;cases(show RdX H B v (.bool ah)from r);exact J H
  ·exact λ_ _ _ _ _ _ z=>z.elim
  ·exact λ_ _ _ _ _ _ z=>z.elim
end
end DL
namespace Nb
open PySem L2 DL
theorem FA{α:Type}{us:List α}(h:us.length=1):∃a,us=[a]:=match us,h with|[a],_=>⟨a,rfl⟩
theorem MG{α:Type}{us:List α}(h:us.length=2):∃a b,us=[a,b]:=match us,h with|[a,b],_=>⟨a,b,rfl⟩
theorem QI{α:Type}{us:List α}(h:us.length=3):∃a b c,us=[a,b,c]:=match us,h with|[a,b,c],_=>⟨a,b,c,rfl⟩
theorem Kk{α:Type}{us:List α}(h:us.length=4):∃a b c d,us=[a,b,c,d]:=match us,h with|[a,b,c,d],_=>⟨a,b,c,d,rfl⟩
theorem IJ{α:Type}{us:List α}(h:us.length=5):∃a b c d e,us=[a,b,c,d,e]:=match us,h with|[a,b,c,d,e],_=>⟨a,b,c,d,e,rfl⟩
theorem lB{N ps:List Str}{S:E9}(h1:S.kind=.function:=by rfl)(h2:S.isCoroutine=ai:=by rfl)(h3:S.isGenerator=ai:=by rfl)(h4:N.Nodup:=by decide +kernel)(h5:N.take ps.length=ps:=by rfl)(h6:∀x∈ps,S.names.lookup x=ae .local\/S.names.lookup x=ae .cell:=by decide +kernel)(h7:∀y∈S.names,y.2≠.free:=by decide +kernel):FnScope N ps S:=⟨h1,h2,h3,h4,h5,h6,h7⟩
theorem tV{X:Cx}{e:Expr}{es:List Expr}{pos p:Pos}{tR:TA}{wR:cG}{k k':Nat}{ps:List Str}{S:aP}{x:Str}(h:Has X.prog X.w X.K X.mg X.base k x ps S)(hr:Room k' X.A)(ha:DA X (e::es) tR wR)(hk:k<=k')(hg:Gl X x)(hdb:(x==("__debug__":Str))=ai)(he:As (e::es) X.env=(ai,eval e X.env)::As es X.env)(q_:(Cw pos (As es X.env)).any (·.1)=ai):DE X (.Call (.Name x p) (e::es) [] pos) (eu (dA S) [] E0 tR) (aD S wR):=zV h (hr.mono hk) hg ha hdb he q_
theorem uK{X:Cx}{e:Expr}{es:List Expr}{pos p:Pos}{tR:TA}{wR:cG}{k k':Nat}{ps:List Str}{S:cU}{x:Str}(h:HasN X.prog X.w X.K X.mg X.base k x ps S)(hr:Room k' X.A)(ha:DA X (e::es) tR wR)(hk:k<=k')(hg:Gl X x)(hdb:(x==("__debug__":Str))=ai)(he:As (e::es) X.env=(ai,eval e X.env)::As es X.env)(q_:(Cw pos (As es X.env)).any (·.1)=ai):DF X (.Call (.Name x p) (e::es) [] pos) (eu (jO S) [] E0 tR) (nJ S wR):=Js h (hr.mono hk) hg ha hdb he q_
theorem GB{X:Cx}{e:Expr}{es:List Expr}{pos p pos' ap:Pos}{tR:TA}{wR:cG}{k k' i:Nat}{ps:List Str}{S:ig}{x y:Str}(h:HasXO X.prog X.w X.K X.mg X.base k x ps S)(hr:Room k' X.A)(ha:DA X (e::es) tR wR)(hk:k<=k')(hg:Gl X x)(hN:X.N.Nodup)(hi:X.N[i]?=ae y)(hx:fA X.env.scope y)(hs:Cy (.Call (.Name x p) (e::es) [] pos) (ae (.Name y pos')) ap.line X.env=pure ai)(hf:X.fn y=ah\/X.env.scope.names.lookup y=ae .local)(hdb:(x==("__debug__":Str))=ai)(he:As (e::es) X.env=(ai,eval e X.env)::As es X.env)(q_:(Cw pos (As es X.env)).any (·.1)=ai):DS X (.Assign [.Name y pos'] (.Call (.Name x p) (e::es) [] pos) ap) (bw (eu (nc S) [] E0 tR) (c8 i)) (sU i S wR):=Rl h (hr.mono hk) hg hN hi hx ha hs hf hdb he q_
theorem uX{X:Cx}{pos p0 p1 p2 p3 p4 cp:Pos}{x0 x1 x2 f:Str}{h i j k k':Nat}{ps:List Str}{Sa:aP}{wR:cG}(F:HasM X.prog X.w X.K X.mg X.base k f ps Sa)(hr:Room k' X.A)(ha:DA X [.Name x0 p1,.Name x1 p2,.Name x2 p3] (br (aI h) (br (aI i) (br (aI j) aX))) wR)(hk:k<=k')(hg:Gl X f)(hN:X.N.Nodup)(h2:X.N[j]?=ae x2)(hx:fA X.env.scope x2)(hij:i≠j)
  (hs:Cy (.Call (.Name f p0) [.Name x0 p1,.Name x1 p2,.Name x2 p3] [] cp) (ae (.Name x2 p4)) pos.line X.env=pure ai) (hf:X.fn x2=ah\/X.env.scope.names.lookup x2=ae .local) (hdb:(f==("__debug__":Str))=ai) (he:As (.Name x0 p1::[.Name x1 p2,.Name x2 p3]) X.env=(ai,eval (.Name x0 p1) X.env)::As [.Name x1 p2,.Name x2 p3] X.env) (q_:(Cw cp (As [.Name x1 p2,.Name x2 p3] X.env)).any (·.1)=ai):
  DS X (.Assign [.Name x2 p4] (.Call (.Name f p0) [.Name x0 p1,.Name x1 p2,.Name x2 p3] [] cp) pos) (bw (eu (qD Sa) [] E0 (br (aI h) (br (aI i) (br (aI j) aX)))) (c8 j)) (iM Sa h i j):=JK F (hr.mono hk) hg hN h2 hx hij ha hs hf hdb he q_
theorem tN{X:Cx}{e:Expr}{es:List Expr}{pos p:Pos}{tR:TA}{wR:cG}{k k':Nat}{ps:List Str}{S:ej}{x:Str}(h:HasX X.prog X.w X.K X.mg X.base k x ps S)(hr:Room k' X.A)(ha:DA X (e::es) tR wR)(hk:k<=k')(hg:Gl X x)(hdb:(x==("__debug__":Str))=ai)(he:As (e::es) X.env=(ai,eval e X.env)::As es X.env)(q_:(Cw pos (As es X.env)).any (·.1)=ai):DE X (.Call (.Name x p) (e::es) [] pos) (eu (mK S) [] E0 tR) (pV S wR):=K1 h (hr.mono hk) hg ha hdb he q_
def Jq:NameKind->Bool
 |.local=>ah
 |_=>ai
def xR:NameKind->Bool
 |.free=>ah
 |_=>ai
def pq(sc:E9):List Str:=(sc.names.filter λy=>xR y.2).map (·.1)
def cN(sc:E9):List Str:=((sc.names.drop 1).filter λy=>Jq y.2).map (·.1)++pq sc
def px(sc:E9)(cells:List (Str×A')):List (Str×A'):=(pq sc).reverse.map λx=>(x,(cells.lookup x).getD 0)
def oB(sc:E9):List (Str×NameKind):=sc.names.map λy=>(y.1,bif xR y.2 then .cell else y.2)
inductive Frs(X:Cx)(sc:E9):List (Option Nat)->List Str->Prop
 |nil:Frs X sc [] []
 |own {f:List (Option Nat)} {x:Str} {N:List Str} (h:Frs X sc f N):Frs X sc (af::f) (x::N)
 |free {f:List (Option Nat)} {x:Str} {N:List Str} {i:Nat} (h1:X.N[i]?=ae x) (h2:dU X.env.scope x) (h3:X.env.kindOf x=ae .cell\/X.env.kindOf x=ae .free) (h4:(oB sc).lookup x=ae .cell\/(oB sc).lookup x=ae .free) (h5:(px sc X.env.cells).lookup x=X.env.cells.lookup x) (h:Frs X sc f N):Frs X sc (ae i::f) (x::N)
theorem Frs.len{X:Cx}{sc:E9}{f:List (Option Nat)}{N:List Str}(h:Frs X sc f N):f.length=N.length:=by
 induction h with
 |nil=>rfl
 |own _ a=>rw[Au,Au,a]
 |free _ _ _ _ _ _ a=>rw[Au,Au,a]
theorem Qi{X:Cx}{sc:E9}{f:List (Option Nat)}(h1:closureFor sc X.env=pure (px sc X.env.cells))(h2:sc.kind=.function)(h3:∀y∈sc.names,y.2≠.cell)(h4:∀y∈sc.names,y.2=.local->sc.names.lookup y.1=ae .local)(h5:((pq sc).all λx=>(X.env.cells.lookup x).isSome)=ah)(h6:(relabel sc X.env).names=oB sc)(h7:∀y∈oB sc,(y.2=.cell\/y.2=.free)->y.1∈(pq sc).reverse)(h8:Frs X sc f (cN sc)):CompSc X (cN sc) sc (px sc X.env.cells) f:=by
 refine⟨h1,h2,h3,h4,FK λy n=>?_,RE _ _ h6 (by unfold px;rw[B6];exact List.map_id' _) h7,h8.len,?_⟩
 ·obtain⟨x,m,rfl⟩:=Ba.mp n;obtain⟨c,o⟩:=D2.mp (E1.mp h5 x (List.mem_reverse.mp m));simp_all
 ·intro j i h;rw[h6];generalize cN sc=N at h8 ⊢
  induction h8 generalizing j with
  |nil=>cases h
  |own _ k=>cases j with
   |zero=>cases h
   |succ j=>exact k j h
  |free a b c d e _ k=>cases j with
   |zero=>cases h;exact⟨_,rfl,a,b,c,d,e⟩
   |succ j=>exact k j h
theorem Rx{X:Cx}{sc:E9}{f:List (Option Nat)}{N:List Str}(h:Frs X sc f N):Frs X sc f N:=h
theorem kC{X:Cx}{N:List Str}{sc:E9}{cl:List (Str×A')}{s:Ai}{H:Hp}{fp:List A'}{K:Ag}(h:X.K=K):(cJ X N sc cl s H fp).K=K:=h
theorem nC{X:Cx}{N:List Str}{sc:E9}{cl:List (Str×A')}{s:Ai}{H:Hp}{fp:List A'}(h:N.Nodup):(cJ X N sc cl s H fp).N.Nodup:=h
def zL:List Str:=["bool","dict","enumerate","int","isinstance","len","list","range","repr","set","sorted","str","tuple","zip"]
theorem zU{mg:Str->Option Af}{x:Str}(z:∀x∈zL,mg x=af)(h:x∈zL):mg x=af:=z x h
theorem Rz:Bz "set"=ae (.type "set"):=by rfl
theorem Mi:Bz "sorted"=ae (.builtin "sorted"):=by rfl
section
variable{P:A3}{w:Bi}{K:Ag}{mg:Str->Option Af}{base:Heap}{fa:A'}{fd:Ce}
theorem JZ{X:Cx}{e:Expr}{t:TE}{w:DT}(h:DE X e t w):DE X e t w:=h
theorem GZ{X:Cx}{e:List Expr}{t:TA}{w:cG}(h:DA X e t w):DA X e t w:=h
theorem M8{X:Cx}{e:Stmt}{t:TS}{w:aF}(h:DS X e t w):DS X e t w:=h
theorem rP{X:Cx}{e:List Stmt}{t:TS}{w:aF}(h:DSs X e t w):DSs X e t w:=h
theorem GU{X:Cx}{e:Expr}{t:TT}{w:bZ}(h:DC X e t w):DC X e t w:=h
theorem Mp{X:Cx}{e:Expr}{t:TE}{w:dO}(h:DF X e t w):DF X e t w:=h
theorem MX{X:Cx}{g e:Expr}{t:TI}{w:fJ}(h:DI X g e t w):DI X g e t w:=h
theorem GR{X:Cx}{b aA:List Stmt}{st:Stmt}{T:TS}{W:aF}(e:b=st::aA)(h:DSs X (st::aA) T W):DSs X b T W:=e▸h
theorem jL{x:Str}{st:Stmt}{ps:List Str}(F:Fun K x x st fa fd)(h:∀(kV doc pm:Af) (an:Option A') (n_ ct:Af) (us:List Af),us.length=ps.length->bindArgs (Fo x x (jW st) (ez st) (bE st) .none kV doc pm an n_ ct) ⟨us,[]⟩=pure (ps.zip us):=by
 intro _ _ _ _ _ _ us hl
 first
  |obtain⟨_,rfl⟩:=FA hl;rfl
  |obtain⟨_,_,rfl⟩:=MG hl;rfl
  |obtain⟨_,_,_,rfl⟩:=QI hl;rfl
  |obtain⟨_,_,_,_,rfl⟩:=Kk hl;rfl
  |obtain⟨_,_,_,_,_,rfl⟩:=IJ hl;rfl):Binds K fd ps []:=F.binds h
def m6(x:Str)(st:Stmt)(ps:List Str):Prop:=∀{K:Ag}{fa:A'}{fd:Ce},Fun K x x st fa fd->Binds K fd ps []
def fV(P:A3)(w:Bi)(K:Ag)(mg:Str->Option Af)(base:Heap)(k:Nat)(x:Str)(i:Nat)(fa:A')(N:List Str)(b:List Stmt)(W:aF):Prop:=N.Nodup->∀(n_:Af)(A:Bq)(outer:List Env)(s:Ai)(H:Hp)(E:XK),Room k (A.deeper (C2 x (bE (b5 i)) s.heap.objs.size fa n_))->∃T,DSs (b6 bS P w K mg base N x (bE (b5 i)) fa n_ A outer s H E).nox b T W
theorem nH{k:Nat}{x:Str}{i:Nat}{N:List Str}{b:List Stmt}{W:aF}(h:N.Nodup->∀(n_:Af) (A:Bq) (outer:List Env) (s:Ai) (H:Hp) (E:XK),Room k (A.deeper (C2 x (bE (b5 i)) s.heap.objs.size fa n_))->∃T,DSs (b6 bS P w K mg base N x (bE (b5 i)) fa n_ A outer s H E).nox b T W:=by
 intro nd n_ A outer s H E hr;apply Dl;apply GR (by exact rfl)
 repeat' first
  |with_reducible first|exact IU|exact Sd|exact Kj|exact xj|exact Gf|exact qK|exact PyProof.Rows.boot_range|exact Qs|exact Rz|exact Mi|exact OY|exact QN
  |with_reducible first|apply Room.units|apply Room.units0|apply Room.hd|apply Room.gd
  |exact rfl
  |exact Ci rfl
  |exact B5 (Ci rfl)
  |exact B5 (B5 rfl)
  |exact B5 rfl
  | (with_reducible apply JZ;with_reducible first|apply gh|apply CY|apply Q9|apply tV|apply LD|apply xA|apply xZ|apply LW|apply Py|apply la (rO ?_) sk ?_ ?_ ?_ ?_ ?_ ?_ ?_ ?_|apply zS|apply RN|apply sZ|apply Ji|apply AB (zG ?_) vj ?_ ?_ ?_ ?_ ?_ ?_ ?_ ?_|apply la (rO ?_) OC ?_ ?_ ?_ ?_ ?_ ?_ ?_ ?_|apply GV|apply Ro|apply OI|apply L3|apply BH (pL ?_ ?_) n8|apply AB (zG ?_) Hr ?_ ?_ ?_ ?_ ?_ ?_ ?_ ?_|apply t6|apply NX|apply IK|apply LL|apply la (call_reprN.or (Ib ?_ ?_ ?_)) J3 ?_ ?_ ?_ ?_ ?_ ?_ ?_ ?_|apply IH|apply yf|apply Kr|apply Sy|apply NY|apply la wA xH ?_ ?_ ?_ ?_ ?_ ?_ ?_ ?_|apply QZ|apply qS|apply Oc|apply LR|apply P6|apply tN|apply BH (QU ?_ ?_) HR|apply FG z5 yi z5 yi ?_ ?_ ?_ ?_|apply PR|apply DF.d)
  | (with_reducible apply GZ;with_reducible first|apply jn|apply lP)
  | ((with_reducible apply M8);first|((with_reducible apply Oh);case hx=>exact rfl)|((with_reducible apply Pn);case hx=>exact rfl)|with_reducible first|apply Kt|apply AH|apply j5|apply qL|apply zF|apply ET|apply Qr|apply Nk|apply Iw|apply yU|apply QL|apply Jp|apply JD|apply IB|apply Kv|apply y6|apply uX|apply Ki|apply Ju|apply OS|apply GB)
  | (with_reducible apply rP;with_reducible first|apply JC|apply SF|apply Ht|apply JW|apply k8|apply ur|apply BK|apply l9)
  | ((with_reducible apply GU);first|(with_reducible apply DCW.cc;with_reducible first|apply cw_and|apply cw_or)|with_reducible first|apply fX (pL ?_ ?_) n8|apply fX (pL ?_ ?_) Oy|apply fX MQ SD|apply fX R7 MI|apply fX z4 xw|apply fX BY EE|apply R8|apply fX (si ?_) j1|apply z3|apply fX (uq ?_) Qt|apply So|apply L9|apply Hy|apply O8|apply K7|apply Lf|apply fX R0 FY|apply fX (uq ?_) j1|apply fX z4 Qa|apply Ko)
  | (with_reducible apply Mp;with_reducible first|apply vq|apply ua|apply IW|apply Rt|apply Jh|apply Hx|apply MB|apply MD|apply uK)
  | (with_reducible apply MX;with_reducible first|apply yX|apply Im|apply GK|apply HU|apply PU|apply BI)
  |with_reducible first|apply rm|apply Iy|apply qR|apply HK|apply Je|apply PH|apply HP|apply Kc|apply cw_or|apply cw_or1|apply Nq|apply cw_and|apply cw_and1|apply CB|apply L8|apply GS|apply P9|apply Qi
  |assumption
  |with_reducible first|apply kC|apply nC
  | ((with_reducible apply Rx);first|apply Frs.nil|apply Frs.own|apply Frs.free)
  |exact jk _
  |exact λ_ _=>rfl
  |exact λ_=>rfl
  |exact zU (by assumption) ∅
  |exact PassesOwn.never
  |exact⟨rfl,rfl,rfl,rfl⟩
  |with_unfolding_all rfl
  |decide
  |decide +kernel
  |exact B5 (B5 (Ci rfl))
  |exact B5 (B5 (B5 (Ci rfl)))
  |exact B5 (B5 (B5 (B5 rfl)))
  |intro(_:Ai) _ _
  |exact(0:Int)):fV P w K mg base k x i fa N b W:=h
theorem aV{i:Nat}{N:List Str}{S:aP}{W:aF}(k p:Nat)(x:Str)(F:Fun K x x (b5 i) fa fd/\mg x=ae (.ref fa))(body:b7 S W N)(len:∀ws n Q,S ws n Q->ws.length=p:=by(intro _ _ _ h;(repeat obtain⟨_,h⟩:=h);subst_vars;rfl))(hp:(N.take p).length=p:=by rfl)(Sc:FnScope N (N.take p) (bE (b5 i)):=by exact lB)(b:m6 x (b5 i) (N.take p):=by intro _ _ _ F;exact jL F)
  (h:fV P w K mg base k x i fa N (ez (b5 i)) W:=by exact nH):Has P w K mg base (k+1) x (N.take p) S:=
 Has.mk' F.1 F.2 (b F.1) (Fun.okD F.1 Sc (λws n Q q=>by rw[hp];exact len ws n Q q) λn_ A a s H E e=>(h Sc.nd n_ A a s H E e).elim λT d=>⟨T,W,d,body⟩)
theorem um{i:Nat}{N:List Str}{S:cU}{W:aF}(k p:Nat)(x:Str)(F:Fun K x x (b5 i) fa fd/\mg x=ae (.ref fa))(body:∀ws n Q,S ws n Q->W (eE N ws) n {nx:=λ_ _=>False,rt:=λ_ _=>False,rn:=Q})(len:∀ws n Q,S ws n Q->ws.length=p:=by(intro _ _ _ h;(repeat obtain⟨_,h⟩:=h);subst_vars;rfl))(hp:(N.take p).length=p:=by rfl)(Sc:FnScope N (N.take p) (bE (b5 i)):=by exact lB)(b:m6 x (b5 i) (N.take p):=by intro _ _ _ F;exact jL F)
  (h:fV P w K mg base k x i fa N (ez (b5 i)) W:=by exact nH):HasN P w K mg base (k+1) x (N.take p) S:=
 HasN.mk' F.1 F.2 (b F.1) (Fun.okN F.1 Sc (λws n Q q=>by rw[hp];exact len ws n Q q) λn_ A a s H E e=>(h Sc.nd n_ A a s H E e).elim λT d=>⟨T,W,d,body⟩)
theorem sV{i p:Nat}{N:List Str}{S:ej}{W:aF}(k:Nat)(x:Str)(F:Fun K x x (b5 i) fa fd/\mg x=ae (.ref fa))(len:∀ws n Q,S ws n Q->ws.length=p)(body:∀ws n Q,S ws n Q->W (eE N ws) n {nx:=λ_ _=>False,rt:=λ_ _=>False,rx:=Q})(hp:(N.take p).length=p:=by rfl)(Sc:FnScope N (N.take p) (bE (b5 i)):=by exact lB)(b:m6 x (b5 i) (N.take p):=by intro _ _ _ F;exact jL F)
  (h:fV P w K mg base k x i fa N (ez (b5 i)) W:=by exact nH):HasX P w K mg base (k+1) x (N.take p) S:=
 HasX.mk' F.1 F.2 (b F.1) (Fun.okX F.1 Sc (λws n Q q=>by rw[hp];exact len ws n Q q) λn_ A a s H E e=>(h Sc.nd n_ A a s H E e).elim λT d=>⟨T,W,d,body⟩)
theorem Lu{i p:Nat}{N:List Str}{S:ig}{W:aF}(k:Nat)(x:Str)(F:Fun K x x (b5 i) fa fd/\mg x=ae (.ref fa))(len:∀ws n Q,S ws n Q->ws.length=p)(body:∀ws n Q,S ws n Q->W (eE N ws) n {nx:=λ_ _=>False,rt:=λw n=>w=.d .none/\Q af n,rx:=λkvs n=>Q (ae kvs) n})(hp:(N.take p).length=p:=by rfl)(Sc:FnScope N (N.take p) (bE (b5 i)):=by exact lB)(b:m6 x (b5 i) (N.take p):=by intro _ _ _ F;exact jL F)
  (h:fV P w K mg base k x i fa N (ez (b5 i)) W:=by exact nH):HasXO P w K mg base (k+1) x (N.take p) S:=
 HasXO.mk' F.1 F.2 (b F.1) (Fun.okXO F.1 Sc (λws n Q q=>by rw[hp];exact len ws n Q q) λn_ A a s H E e=>(h Sc.nd n_ A a s H E e).elim λT d=>⟨T,W,d,body⟩)
abbrev Zb:List Str:=["_law_script"]
theorem uV{i:Nat}{N:List Str}{W:aF}{s0 s1:Stmt}{aA:List Stmt}(k:Nat)(F:Fun K "law" "law" (b5 i) fa fd)(hW:W (af::ae (.w .tp)::Di (N.length-2) af) 0 mV)(e:ez (b5 i)=s0::s1::aA)(h0:N.Nodup->∀(n_:Af) (A:Bq) (outer:List Env) (s:Ai) (H:Hp) (E:XK),Room k (A.deeper (C2 "law" (bE (b5 i)) s.heap.objs.size fa n_))->PS (b6 bS P w K mg base N "law" (bE (b5 i)) fa n_ A outer s H E).nox s0 (bw (eu (uO K) [] E0 (br (aI 0) aX)) (c8 1))/\PS (b6 bS P w K mg base N "law" (bE (b5 i)) fa n_ A outer s H E).nox s1 (bw CP (iT (aI 1) (tC (.int 3)) qy)))(hN:∀v,start N [v]=ae v::af::Di (N.length-2) af:=by intro _;rfl)(Sc:FnScope N Zb (bE (b5 i)):=by exact lB)
  (h:fV P w K mg base k "law" i fa N aA W:=by exact nH):FnOk P w K mg base bS (k+1) fa fd Zb (DL.spLaw K):=
 Jn F Sc hN hW λn_ A outer s H E a=>(h Sc.nd n_ A outer s H E a).elim λT d=>⟨s0,s1,_,T,e,(h0 Sc.nd n_ A outer s H E a).1,(h0 Sc.nd n_ A outer s H E a).2,d⟩
theorem Pr{X:Cx}{b aA:List Stmt}{st:Stmt}{Sa:aP}(e:b=st::aA)(h:j9 X (st::aA) Sa):j9 X b Sa:=e▸h
abbrev Zd:List Str:=["programs","steps","stands"]
theorem uQ{k ka tk:Nat}(F:Fun K "further" "further" (b5 29) fa fd/\mg "further"=ae (.ref fa))(h_after:Has P w K mg base ka "after" ["programs","stand","mover"] d5)(hk:ka<=k)(z_range:mg "range"=af)(z_len:mg "len"=af)(g_MOST_STANDS:mg "MOST_STANDS"=ae (.int 2000 tk))(Sc:FnScope ["programs","steps","stands","fresh","stand","mover","behind"] (Zd:List Str) (bE (b5 29)):=by exact lB)(b:m6 "further" (b5 29) Zd:=by intro _ _ _ F;exact jL F):HasM P w K mg base (k+1) "further" Zd d5:=
 ⟨fa,fd,Fun.okM F.1 Sc rfl ∎ (λn_ A d s H E c=>Pr (by rfl) (by
  have a:=Sc.nd;refine⟨_,_,_,((k8 (ET a rfl (Ci rfl) (vq lP)) (k8 (qL (BI (gh 2)) (rm a rfl (Ci rfl)) (l9 (qL (yX (by rfl) z_range (zS (la (rO (K:=K)) sk (by rfl) z_len Gf (jn (gh 0) lP)) (CY))) (rm a rfl (Ci rfl)) (k8 (AH a rfl (Ci rfl) (zV h_after (c.mono hk) (by rfl) (jn (gh 0) (jn (gh 4) (jn (gh 5) lP))))) (l9 (j5 (DCW.cc (cw_and (fX BY EE (gh 6) (xZ) (jk _)) (cw_and1 (z3 c.units (gh 6) (sZ 1))))) (k8 (j5 (fX (pL c.units0) n8 (la wA xH (by rfl) z_len Gf (jn (sZ 1) lP)) (yf (by rfl) g_MOST_STANDS) (jk _)) BK ur) (k8 (yU c.units rfl (gh 6) (xA (jn (gh 4) (jn (gh 5) lP)))) (l9 (zF rfl (gh 6))))) ur)))))) (l9 (y6 3))))).ps,?_,?_,?_⟩
  ·exact λσ H Q q=>q
  ·exact λx y H Q q=>.inl ⟨rfl,(by rw[show decide _=decide (x=y)from decide_eq_decide.mpr ⟨λz=>V.int.inj z,congrArg V.int⟩];exact q)⟩
  ·intro σ H Q B j l e r q;cases r with
   |tup f m i g=>exact⟨_,e,.inr ⟨_,_,rfl,.inr (SqT.of f),_,_,rfl,rfl,by rw[g.len];exact q⟩⟩)),b F.1,F.2,F.1.kp⟩
end
end Nb
namespace Nb
open PySem L2
section
variable{P:A3}{w:Bi}{K:Ag}{mg:Str->Option Af}{base:Heap}
theorem Jc:FnScope Zb Zb (bE EB):=⟨rfl,rfl,rfl,by decide +kernel,rfl,by decide +kernel,by decide +kernel⟩
theorem Jk{f:A'}{fd:Ce}(F:Fun K "_law_tape" "_law_tape" EB f fd):FnOk P w K mg base bS 1 f fd Zb (uO K):=by
 refine F.ok Jc (λvs H Q E h=>?_) (λn_ A d s H n Q E t h=>?_)
 ·obtain⟨a,m,rfl,_⟩:=h;rfl
 ·obtain⟨a,m,rfl,l,o,k⟩:=h;refine⟨_,ku (i0 (pH (b3 (DH Lz (pv 0) wF (v5 bY)) (b3 bY (b3 bY (b3 (pH (b3 jV (b3 jV (b3 jV (b3 bY (b3 bY (b3 bY (b3 bY dm)))))))) dm)))))),?_⟩;refine⟨_,rfl,_,rfl,a,_,rfl,l,λp r=>⟨small (by simp),λg e=>⟨small (by simp),λq b=>?_⟩⟩⟩;rw[N8 (by rw[Ab];omega)]at e b ⊢;have j:g≠p:=λz=>by rw[z,a9]at e;cases e
  have i:q≠g:=λz=>by rw[z,a9]at b;cases b
  rw[aG i]at b;have c:q≠p:=λz=>by rw[z,a9]at b;cases b
  exact k q p g _ a9 (by rw[aG c.symm,aG j.symm,a9]) c
theorem scDraw:FnScope ["_law_tape_here","_law_many","_law_found","_law_spot","_law_cell","_law_mixed"] ["_law_tape_here","_law_many"] (bE yT):=⟨rfl,rfl,rfl,by decide +kernel,rfl,by decide +kernel,by decide +kernel⟩
theorem Iu{R:Prop}{G:Int->Prop}(use:(∀c,G c)->R)(fin:∀c,G c):R:=use fin
theorem Om{R G:Prop}(use:G->R)(fin:G):R:=use fin
theorem MR{f:A'}{fd:Ce}(F:Fun K "_law_draw" "_law_draw" yT f fd)(zl:mg "len"=af):FnOk P w K mg base bS 1 f fd ["_law_tape_here","_law_many"] vW:=by
 refine F.ok scDraw (λvs H Q E h=>?_) (λn_ A outer s H vs Q E hr h=>?_)
 ·obtain⟨t,l,ns,n,many,rfl,_⟩:=h;rfl
 ·obtain⟨t,l,ns,n,many,rfl,T,hn,hm0,hm1,k⟩:=h;obtain⟨a,b,ht,ha0,ha1⟩:=T.ob;have ntl:=T.ne;have hl:=T.ls;have j':=T.len;refine⟨_,fg (m8 (jc op_gt (f7 ix_list (pv 0) bY (λ_ _=>rfl)) bY (jk _))
    (fg (fG (i:=2) scDraw.nd rfl (Ci rfl) (dC iV (f7 ix_list (pv 0) bY (λ_ _=>rfl)) (pv 1)))
     (fg (lg (dC yn (f7 ix_list (pv 0) bY (λ_ _=>rfl)) (pv 1)) (mw (pv 0) bY nu))
     (ku (i0 (pv 2))))) mh)
   (fg (fG (i:=3) scDraw.nd rfl (Ci rfl) (f7 ix_list (pv 0) bY (λ_ _=>rfl)))
   (fg (lg (dC op_add (pv 3) bY) (mw (pv 0) bY nu))
   (fg (fG (i:=4) scDraw.nd rfl (Ci rfl) bY)
   (fg (m8 (jc op_gt (gp o4 (by rfl) zl Gf (b3 (f7 ix_list (pv 0) bY (λ_ _=>rfl)) dm)) bY (jk _))
    (ku (fG (i:=4) scDraw.nd rfl (Ci rfl) (f7 ix_list (f7 ix_list (pv 0) bY (λ_ _=>rfl))
     (dC iV (pv 3) (gp o4 (by rfl) zl Gf (b3 (f7 ix_list (pv 0) bY (λ_ _=>rfl)) dm))) (λ_ _=>rfl)))) mh)
   (fg (m8 (PW.pt (zw (jc IF (pv 4) (dC Mf bY bY) (jk _))
     (DM (jc op_lt (pv 3) (gp o4 (by rfl) zl Gf (b3 (f7 ix_list (pv 0) bY (λ_ _=>rfl)) dm)) (jk _)))))
    (fg (lg (dC yn (pv 4) (pv 1)) (mw (pv 0) bY nu)) (ku (i0 (dC iV (pv 4) (pv 1))))) mh)
   (fg (fG (i:=5) scDraw.nd rfl (Ci rfl) (dC iV (dC lL (dC op_add (dC op_add (dC iV (pv 4) bY) (dC lL (dC lL bY (pv 3)) (pv 3))) bY) bY) bY))
   (ku (i0 (dC iV (dC iV (dC lL (dC iV (dC op_add (dC lL (pv 5) bY) (dC lL (pv 3) bY)) bY) bY) bY) (pv 1)))))))))),?_⟩
  refine⟨_,rfl,t,_,2,_,rfl,rfl,SqL.of ht,d7 (j:=2) rfl,_,_,rfl,rfl,_,rfl,?_⟩;refine iG (λ_=>?_) (λ_=>?_)
  ·-- found=tape[2] % many;tape[2]=tape[2] // many;return found
   refine⟨_,rfl,t,_,2,_,rfl,rfl,SqL.of ht,d7 (j:=2) rfl,_,rfl,_,_,rfl,rfl,hm0,?_⟩;refine⟨_,rfl,t,_,2,_,rfl,rfl,SqL.of ht,d7 (j:=2) rfl,_,rfl,_,_,rfl,rfl,⟨hm0,hm1⟩,?_⟩;refine⟨_,rfl,t,_,2,2,rfl,rfl,ht,rfl,?_⟩;refine⟨_,rfl,?_⟩;refine k _ _ (Int.emod_nonneg _ ⋯) (Hj _ hm0) ⟨⟨a,b / many,a9,ha0,by omega⟩,by rw[aG ntl.symm];exact hl,j',(λz=>by rw[aG T.gne];exact T.ag z),T.gne⟩ Kp.tape
  ·-- spot=tape[1];tape[1]=spot+1;cell=0
   refine⟨_,rfl,t,_,1,_,rfl,rfl,SqL.of ht,d7 (j:=1) rfl,?_⟩;refine⟨_,rfl,_,_,rfl,rfl,_,rfl,t,_,1,1,rfl,rfl,ht,rfl,?_⟩;have ht1:∀o,upd H t o t=ae o:=λo=>a9;have hl1:∀o,upd H t o l.s=ae (.lst (ns.map V.int)):=λo=>by rw[aG ntl.symm];exact hl
   generalize hH1:upd H t (.lst (((.ref l.s::.int a::.int b::jY l:List V)).set 1 (.int (a+1))))=H1;have g1:H1 t=ae (.lst (.ref l.s::.int (a+1)::.int b::jY l)):=by rw[<-hH1];exact a9
   have g2:H1 l.s=ae (.lst (ns.map V.int)):=by rw[<-hH1];exact hl1 _
   have g3:Kp t H H1:=by rw[<-hH1];exact Kp.tape
   have g4:kW=ah->H1 l.g=ae (.lst oS):=λz=>by rw[<-hH1,aG T.gne];exact T.ag z
   refine⟨_,rfl,t,_,0,_,rfl,rfl,SqL.of g1,d7 (j:=0) rfl,l.s,_,rfl,.inl (SqL.of g2),_,_,rfl,rfl,_,rfl,?_⟩;apply Iu
   case use=>
    intro fin;refine iG (λhp=>?_) (λ_=>?_)
    ·have hpos:(0:Int) < ((ns.map V.int).length:Int):=e_ hp;obtain⟨v,hv,hm⟩:=Lh (xs:=ns.map V.int) (r:=a % ((ns.map V.int).length:Int)) (Int.emod_nonneg _ ⋯) (Hj _ hpos);obtain⟨c,_,rfl⟩:=Ba.mp hm;refine⟨_,rfl,t,_,0,_,rfl,rfl,SqL.of g1,d7 (j:=0) rfl,_,rfl,_,rfl,t,_,0,_,rfl,rfl,SqL.of g1,d7 (j:=0) rfl,l.s,_,rfl,.inl (SqL.of g2),_,_,rfl,rfl,hpos,l.s,_,_,.int c,rfl,rfl,SqL.of g2,hv,?_⟩;exact fin c
    ·exact fin 0
   case fin=>
    intro c;refine⟨_,rfl,_,_,rfl,rfl,⟨by decide,by decide,by decide⟩,_,_,rfl,rfl,_,rfl,?_⟩;apply Om
    case use=>
     intro fin;refine iG (λ_=>?_) (λ_=>?_)
     ·refine⟨_,rfl,_,rfl,t,_,0,_,rfl,rfl,SqL.of g1,d7 (j:=0) rfl,l.s,_,rfl,.inl (SqL.of g2),_,_,rfl,rfl,_,rfl,?_⟩;refine iG (λ_=>?_) (λ_=>fin);refine⟨_,rfl,_,rfl,_,_,rfl,rfl,⟨hm0,hm1⟩,_,rfl,t,_,2,2,rfl,rfl,g1,rfl,_,rfl,_,rfl,_,_,rfl,rfl,hm0,?_⟩;exact k _ _ (Int.emod_nonneg _ ⋯) (Hj _ hm0) ⟨⟨a+1,_,a9,by omega,by omega⟩,by rw[aG ntl.symm];exact g2,j',(λz=>by rw[aG T.gne];exact g4 z),T.gne⟩ (g3.trans Kp.tape)
     ·exact rC fin
    case fin=>
     refine⟨_,rfl,_,_,rfl,rfl,(by show(0:Int) < 999331;decide),_,rfl,_,_,rfl,rfl,.inl ⟨by decide,by decide⟩,_,rfl,_,_,rfl,rfl,.inl ⟨by omega,by omega⟩,_,_,rfl,rfl,_,_,rfl,rfl,_,_,rfl,rfl,.inr ⟨by decide,by decide⟩,_,_,rfl,rfl,(by show(0:Int) < 999961;decide),?_⟩;refine⟨_,rfl,_,_,rfl,rfl,.inr ⟨by decide,by decide⟩,_,rfl,_,_,rfl,rfl,.inr ⟨by decide,by decide⟩,_,_,rfl,rfl,_,_,rfl,rfl,(by show(0:Int) < 999953;decide),_,_,rfl,rfl,.inr ⟨by decide,by decide⟩,_,_,rfl,rfl,(by show(0:Int) < 524287;decide),_,rfl,_,_,rfl,rfl,hm0,?_⟩;exact k _ _ (Int.emod_nonneg _ ⋯) (Hj _ hm0) ⟨⟨a+1,b,g1,by omega,by omega⟩,g2,j',g4,T.gne⟩ g3
end
end Nb
namespace Nb
open PySem L2 DL
theorem zE(P:Params):(zL.map λx=>PySem.W.nsIn (KK P) Eb x)=zL.map λ_=>ae af:=by kernel_rfl
section
variable{P:Params}{h:Heap}{mg:Str->Option Af}(X:(KK P).In h)(G:h.Ns Eb mg)
include X G
theorem yg(j:Nat)(d:Ds)(e:dL[j]?=ae d):(Fun (KK P) d.x d.x (b5 d.i) d.f (jU d)/\mg d.x=ae (.ref d.f))/\Ct (KK P) (.ref d.f)=ah:=by
 obtain⟨b,a⟩:=Prod.mk.inj (vr (Md P) e);obtain⟨a,c⟩:=Prod.mk.inj a;have k:Ct (KK P) (.ref d.f)=ah:=by
  unfold Ct;simp only[a]
 exact⟨⟨Qh a c k,PySem.W.mg_of X G b⟩,k⟩
theorem zK(x:Str)(h:x∈zL):mg x=af:=by
 obtain⟨j,e⟩:=B1.mp h;exact PySem.W.mg_none_of X G (vr (zE P) e)
end
abbrev pR:A3:=PySem.W.OpenLaw.prog PySem.Challenge.rw_noteboard_k39_stands_come_to
structure Cv where
 P:A3
 w:Bi
 K:Ag
 mg:Str->Option Af
 base:Heap
abbrev HH(c:Cv)(k:Nat)(x:Str)(ps:List Str)(S:aP):Prop:=Has c.P c.w c.K c.mg c.base k x ps S
abbrev gF(c:Cv):Prop:=HH c 1 "_law_draw" ["_law_tape_here","_law_many"] cm
abbrev zW(c:Cv):Prop:=HH c 1 "is_whole" ["thing"] sR
abbrev AD(c:Cv):Prop:=HH c 1 "field_fits" ["field","value","having","bound"] iQ
abbrev rZ(c:Cv):Prop:=HH c 2 "fits" ["pattern","row","names"] mS
abbrev xx(c:Cv):Prop:=HH c 1 "next_value" ["value"] sx
abbrev t9(c:Cv):Prop:=HH c 2 "field_value" ["field","having"] mG
abbrev zN(c:Cv):Prop:=HH c 3 "filled" ["template","names"] qd
abbrev xo(c:Cv):Prop:=HH c 2 "is_within" ["thing","most"] t8
abbrev tI(c:Cv):Prop:=HH c 1 "next_act" ["programs","stand","hand"] nA
abbrev z6(c:Cv):Prop:=HH c 3 "gets" ["programs","stand","hand"] sf
abbrev sF(c:Cv):Prop:=HH c 1 "gone_on" ["place","names"] lj
abbrev vc(c:Cv):Prop:=HH c 1 "gone_to" ["program","block","names"] lW
abbrev qG(c:Cv):Prop:=HH c 1 "with_hand" ["hands","hand","place"] iA
abbrev v3(c:Cv):Prop:=HH c 4 "got" ["programs","stand","hand","act"] nT
abbrev w8(c:Cv):Prop:=HH c 3 "is_same_value" ["act","names"] sG
abbrev vg(c:Cv):Prop:=HH c 5 "hand_moved" ["programs","stand","hand"] qJ
abbrev vk(c:Cv):Prop:=HH c 1 "aged" ["note"] u4
abbrev yW(c:Cv):Prop:=HH c 2 "clock_moved" ["stand"] tG
abbrev yC(c:Cv):Prop:=HH c 6 "after" ["programs","stand","mover"] d5
abbrev xI(c:Cv):Prop:=HasM c.P c.w c.K c.mg c.base 7 "further" Zd d5
abbrev xk(c:Cv):Prop:=HasX c.P c.w c.K c.mg c.base 8 "steps_from" ["programs","stand"] (kR d5)
abbrev zx(c:Cv):Prop:=HasN c.P c.w c.K c.mg c.base 9 "reached" ["programs","stand"] (km d5)
abbrev lK(c:Cv):Prop:=HH c 2 "_law_value" Zf gX
abbrev pY(c:Cv):Prop:=HH c 2 "_law_size" Zf k7
abbrev BN(c:Cv):Prop:=HH c 3 "_law_pattern" Zc rT
abbrev AV(c:Cv):Prop:=HH c 3 "_law_template" Zc tF
abbrev vF(c:Cv):Prop:=HH c 3 "_law_term" Zc qf
abbrev yp(c:Cv):Prop:=HH c 4 "_law_act" ["_law_tape_here","_law_known_here","_law_open_ones"] nG
abbrev vU(c:Cv):Prop:=HH c 5 "_law_program" Zf sA
abbrev rL(c:Cv):Prop:=HH c 3 "_law_notes" ["_law_tape_here","_law_most"] my
abbrev vB(c:Cv):Prop:=HH c 1 "_law_known" ["_law_program_here","_law_block","_law_place"] rN
abbrev CN(c:Cv):Prop:=HH c 4 "_law_stand" ["_law_tape_here","_law_programs","_law_most"] oO
abbrev EN(c:Cv):Prop:=HH c 6 "_law_setting" Zf rD
abbrev yJ(c:Cv):Prop:=HH c 1 "_law_fits" ["_law_pattern_here","_law_row","_law_names"] rQ
abbrev AU(c:Cv):Prop:=HH c 1 "_law_filled" ["_law_template_here","_law_names"] sJ
abbrev wz(c:Cv):Prop:=HH c 1 "_law_act_at" ["_law_programs","_law_hands","_law_hand"] uh
abbrev sE(c:Cv):Prop:=HH c 2 "_law_got" ["_law_act_here","_law_notes_here","_law_names"] mB
abbrev vh(c:Cv):Prop:=HH c 3 "_law_movers" ["_law_programs","_law_stand_here"] hG
abbrev yO(c:Cv):Prop:=HH c 3 "_law_moved" ["_law_programs","_law_stand_here","_law_mover"] gV
abbrev yQ(c:Cv):Prop:=HasXO c.P c.w c.K c.mg c.base 4 "_law_gone" ["_law_programs","_law_stand_here","_law_most"] (mj hG gV)
abbrev DZ(c:Cv):Prop:=HH c 1 "_law_right" ["_law_found","_law_stand_here","_law_due"] kY
section
variable{c:Cv}(F:∀(j:Nat) (d:Ds),dL[j]?=ae d->(Fun c.K d.x d.x (b5 d.i) d.f (jU d)/\c.mg d.x=ae (.ref d.f))/\Ct c.K (.ref d.f)=ah)(z:∀x∈zL,c.mg x=af)(u0:c.mg "GREATEST_NUMBER"=ae (.int 99 225))(u1:c.mg "MOST_STANDS"=ae (.int 2000 408))(u2:c.mg "GETTING"=ae (.ref 80))(u3:∀H,SqT c.K H 80 ((Ze:List Str).map V.str))
include F z u0 u1 u2 u3
theorem NF:gF c:=Has.mk' (F 22 _ rfl).1.1 (F 22 _ rfl).1.2 (jL (F 22 _ rfl).1.1) (JH (MR (F 22 _ rfl).1.1 (zU z (by trivial))))
theorem KD:zW c:=aV (i:=5) 0 1 "is_whole" (F 0 _ rfl).1 NM
theorem MF:AD c:=aV (i:=7) 0 4 "field_fits" (F 1 _ rfl).1 Rv
theorem Pk(h0:AD c):rZ c:=aV (i:=8) 1 3 "fits" (F 2 _ rfl).1 Ow
theorem Ry:xx c:=aV (i:=9) 0 1 "next_value" (F 3 _ rfl).1 KO
theorem Qp(h0:xx c):t9 c:=aV (i:=10) 1 2 "field_value" (F 4 _ rfl).1 Lg
theorem Oq(h0:t9 c):zN c:=aV (i:=11) 2 2 "filled" (F 5 _ rfl).1 ND
theorem PL(h0:zW c):xo c:=aV (i:=14) 1 2 "is_within" (F 6 _ rfl).1 Le
theorem L7:tI c:=aV (i:=16) 0 3 "next_act" (F 7 _ rfl).1 Hv
theorem QR(h0:rZ c)(h1:tI c):z6 c:=aV 2 3 "gets" (F 8 _ rfl).1 M5
theorem OM:sF c:=aV (i:=18) 0 2 "gone_on" (F 9 _ rfl).1 NP
theorem HL:vc c:=aV (i:=19) 0 3 "gone_to" (F 10 _ rfl).1 Ie
theorem OR:qG c:=aV (i:=20) 0 3 "with_hand" (F 11 _ rfl).1 Sz
theorem Ov(h0:rZ c)(h1:z6 c)(h2:sF c)(h3:vc c)(h4:qG c):v3 c:=aV 3 4 "got" (F 12 _ rfl).1 IP
theorem QC(h0:t9 c):w8 c:=aV (i:=22) 2 2 "is_same_value" (F 13 _ rfl).1 LI
theorem Q7(h0:zN c)(h1:sF c)(h2:vc c)(h3:v3 c)(h4:w8 c)(h5:tI c)(h6:qG c):vg c:=aV 4 3 "hand_moved" (F 14 _ rfl).1 JA
theorem Pj:vk c:=aV (i:=24) 0 1 "aged" (F 15 _ rfl).1 Qu
theorem EV(h0:vk c):yW c:=aV (i:=25) 1 1 "clock_moved" (F 16 _ rfl).1 GH
theorem MA(h0:yW c)(h1:vg c)(h2:xo c):yC c:=aV (i:=26) 5 3 "after" (F 17 _ rfl).1 Kl
theorem PY(h0:yC c):xI c:=uQ (F 18 _ rfl).1 h0 ∎ (zU z (by trivial)) (zU z (by trivial)) u1
theorem Rn(h0:xI c):xk c:=sV (i:=30) 7 "steps_from" (F 19 _ rfl).1 NN Ln
theorem L5(h0:xk c):zx c:=um (i:=31) 8 2 "reached" (F 20 _ rfl).1 (len:=Kh) Sf
theorem Hw(h0:gF c):lK c:=aV (i:=35) 1 1 "_law_value" (F 23 _ rfl).1 Rw
theorem MK(h0:gF c):pY c:=aV (i:=36) 1 1 "_law_size" (F 24 _ rfl).1 K4
theorem Ox(h0:gF c)(h1:pY c)(h2:lK c):BN c:=aV 2 2 "_law_pattern" (F 25 _ rfl).1 GL
theorem OO(h0:gF c)(h1:pY c)(h2:lK c):AV c:=aV (i:=38) 2 2 "_law_template" (F 26 _ rfl).1 JB
theorem HA(h0:gF c)(h1:lK c):vF c:=aV (i:=39) 2 2 "_law_term" (F 27 _ rfl).1 Rb
theorem PZ(h0:gF c)(h1:BN c)(h2:AV c)(h3:vF c):yp c:=aV 3 3 "_law_act" (F 28 _ rfl).1 Jt
theorem RZ(h0:yp c)(h1:gF c):vU c:=aV 4 1 "_law_program" (F 29 _ rfl).1 Qk
theorem QM(h0:gF c)(h1:pY c)(h2:lK c):rL c:=aV (i:=42) 2 2 "_law_notes" (F 30 _ rfl).1 IA
theorem HZ:vB c:=aV (i:=43) 0 3 "_law_known" (F 31 _ rfl).1 NR
theorem QQ(h0:gF c)(h1:vB c)(h2:rL c)(h3:lK c):CN c:=aV 3 3 "_law_stand" (F 32 _ rfl).1 RW
theorem Ru(h0:gF c)(h1:rL c)(h2:vU c)(h3:CN c):EN c:=aV 5 1 "_law_setting" (F 33 _ rfl).1 O0
theorem RD:yJ c:=aV 0 3 "_law_fits" (F 34 _ rfl).1 P1
theorem Kf:AU c:=aV (i:=47) 0 2 "_law_filled" (F 35 _ rfl).1 O5
theorem Jf:wz c:=aV (i:=48) 0 3 "_law_act_at" (F 36 _ rfl).1 Rm
theorem SA(h0:yJ c):sE c:=aV (i:=49) 1 3 "_law_got" (F 37 _ rfl).1 Ql
theorem QG(h0:wz c)(h1:sE c):vh c:=aV (i:=50) 2 2 "_law_movers" (F 38 _ rfl).1 Rg
theorem Mb(h0:AU c)(h1:sE c):yO c:=aV 2 3 "_law_moved" (F 39 _ rfl).1 Mt
theorem Ku(h0:yO c)(h1:vh c):yQ c:=Lu (i:=52) 3 "_law_gone" (F 40 _ rfl).1 Kg Ll
theorem N7:DZ c:=aV 0 3 "_law_right" (F 41 _ rfl).1 (len:=HI) RJ
theorem Od(h0:yQ c)(h1:DZ c)(h2:EN c)(h3:zx c):FnOk c.P c.w c.K c.mg c.base bS 10 (Ds.f ⟨54,"law",631,349,1,313,ah,640,5⟩) (jU ⟨54,"law",631,349,1,313,ah,640,5⟩) Zb (DL.spLaw c.K):=by
 have bT:=jL (ps:=Zb) (F 21 _ rfl).1.1;have GT:=Jk (P:=c.P) (w:=c.w) (mg:=c.mg) (base:=c.base) (F 21 _ rfl).1.1;exact uV (i:=54) (N:=["_law_script","_law_tape_here","_law_programs","_law_stand_here","_law_due","_law_found"]) 9 (F 42 _ rfl).1.1 La rfl λnd n_ A outer s H E hr=>⟨fG (i:=1) nd rfl (Ci rfl) (jg GT (hr.mono ∎) rfl (F 21 _ rfl).1.2 (F 21 _ rfl).2 bT .nil ju (b3 (pv 0) dm)),lg (pH (b3 jV (b3 jV (b3 jV (b3 bY (b3 bY dm)))))) (mw (pv 1) bY nu)⟩
end
theorem Nn(c:Cv)(F:∀(j:Nat) (d:Ds),dL[j]?=ae d->(Fun c.K d.x d.x (b5 d.i) d.f (jU d)/\c.mg d.x=ae (.ref d.f))/\Ct c.K (.ref d.f)=ah)(z:∀x∈zL,c.mg x=af)(u0:c.mg "GREATEST_NUMBER"=ae (.int 99 225))(u1:c.mg "MOST_STANDS"=ae (.int 2000 408))(u2:c.mg "GETTING"=ae (.ref 80))(u3:∀H,SqT c.K H 80 ((Ze:List Str).map V.str)):FnOk c.P c.w c.K c.mg c.base bS 10 (Ds.f ⟨54,"law",631,349,1,313,ah,640,5⟩) (jU ⟨54,"law",631,349,1,313,ah,640,5⟩) Zb (DL.spLaw c.K):=by
 have J:=by apply NF<;>with_reducible assumption
 have M:=by apply KD<;>with_reducible assumption
 have p:=by apply MF<;>with_reducible assumption
 have a_fits:=by apply Pk<;>with_reducible assumption
 have A:=by apply Ry<;>with_reducible assumption
 have m:=by apply Qp<;>with_reducible assumption
 have X:=by apply Oq<;>with_reducible assumption
 have L:=by apply PL<;>with_reducible assumption
 have O:=by apply L7<;>with_reducible assumption
 have Z:=by apply QR<;>with_reducible assumption
 have U:=by apply OM<;>with_reducible assumption
 have T:=by apply HL<;>with_reducible assumption
 have E:=by apply OR<;>with_reducible assumption
 have a_got:=by apply Ov<;>with_reducible assumption
 have b:=by apply QC<;>with_reducible assumption
 have v:=by apply Q7<;>with_reducible assumption
 have a_aged:=by apply Pj<;>with_reducible assumption
 have l:=by apply EV<;>with_reducible assumption
 have Y:=by apply MA<;>with_reducible assumption
 have S:=by apply PY<;>with_reducible assumption
 have r:=by apply Rn<;>with_reducible assumption
 have R:=by apply L5<;>with_reducible assumption
 have u:=by apply Hw<;>with_reducible assumption
 have G:=by apply MK<;>with_reducible assumption
 have e:=by apply Ox<;>with_reducible assumption
 have a:=by apply OO<;>with_reducible assumption
 have D:=by apply HA<;>with_reducible assumption
 have N:=by apply PZ<;>with_reducible assumption
 have g:=by apply RZ<;>with_reducible assumption
 have t:=by apply QM<;>with_reducible assumption
 have s:=by apply HZ<;>with_reducible assumption
 have B:=by apply QQ<;>with_reducible assumption
 have h:=by apply Ru<;>with_reducible assumption
 have C:=by apply RD<;>with_reducible assumption
 have n:=by apply Kf<;>with_reducible assumption
 have k:=by apply Jf<;>with_reducible assumption
 have Q:=by apply SA<;>with_reducible assumption
 have o:=by apply QG<;>with_reducible assumption
 have q:=by apply Mb<;>with_reducible assumption
 have I:=by apply Ku<;>with_reducible assumption
 have y:=by apply N7<;>with_reducible assumption
 apply Od<;>with_reducible assumption
theorem all_K(w:Bi)(mg:Str->Option Af)(fa:A')(h:Heap)(X:(KK w.params).In h)(G:h.Ns Eb mg)(hfa:mg "law"=ae (.ref fa)):
  ∃fd:Ce,(∀(s:Ai)(u:Af),BindsTo s fd ⟨[u],[]⟩ [("_law_script",u)])/\∀base:Heap,(KK w.params).In base->base.Ns Eb mg->FnOk pR w (KK w.params) mg base bS 10 fa fd Zb (DL.spLaw (KK w.params)):=by
 have e:=hfa.symm.trans (yg X G 42 ⟨54,"law",631,349,1,313,ah,640,5⟩ rfl).1.2;cases e;exact⟨jU ⟨54,"law",631,349,1,313,ah,640,5⟩,λs v=>.of_eq rfl,λbase _ _=>Nn ⟨pR,w,KK w.params,mg,base⟩ (λj d e=>yg X G j d e) (zK X G) (PySem.W.mg_of X G (by kernel_rfl)) (PySem.W.mg_of X G (by kernel_rfl)) (PySem.W.mg_of X G (by kernel_rfl)) (λH=>.inr ⟨_,_,_,(show(KK w.params).lookup 80=ae (oT "tuple" (.seq #[(.str "take" 282),(.str "read" 283),(.str "look" 284)] 0)) by kernel_rfl),rfl,rfl,show 3<=Ay by decide,(.cons ⟨_,rfl⟩ (.cons ⟨_,rfl⟩ (.cons ⟨_,rfl⟩ .nil)))⟩)⟩
theorem walk{l:PySem.W.OpenLaw}{q:A3}{loose:List Str}{XP:(Str->Option Af)->Heap->Prop}{YP:Bi->Heap->Prop}{d:DefRec}{K:Params->Ag}(hn:l.most=ae 63)(hdf:d.params.defaults=[])
  (hY:∀(w:Bi)(h:Heap),YP w h->(K w.params).In h)
  (F:∀(w:Bi)(mg:Str->Option Af)(fa:A')(h:Heap),(K w.params).In h->h.Ns Eb mg->mg d.name=ae (.ref fa)->
   ∃fd:Ce,(∀(s:Ai)(u:Af),BindsTo s fd ⟨[u],[]⟩ [("_law_script",u)])/\∀base:Heap,(K w.params).In base->base.Ns Eb mg->FnOk l.prog w (K w.params) mg base bS 10 fa fd Zb (DL.spLaw (K w.params))):
  PySem.W.WalkO q loose XP YP l.row.toRowW d [] (λf vs=>PySem.call f vs):=
 L2.walk_of hn ∎ hdf ⟨rfl,by decide,by decide,rfl⟩ hY F (λ_ _ a b c _ e=>⟨a,b,rfl,e,c,λ_=>rfl⟩) λ_ _ _ _ _ z=>z
end Nb
open PySem PySem.W PyProof.Rows
set_option maxRecDepth 100000 in
set_option maxHeartbeats 0 in
theorem PySem.Challenge.cw_noteboard_k39_stands_come_to_holds : PySem.Challenge.rw_noteboard_k39_stands_come_to.Holds := by
 refine holds_law Nb.said_ λsaid=>?_;refine holds_open (q:=Nb.qq) (loose:=Nb.lO) (Xt:=Nb.xT) (XP:=XL Nb.qq []) (Yf:=Hook.obs Nb.hK) (Ya:=Hook.val Nb.hK) (YP:=Hook.says Nb.hK) (d:=Nb.dW) (kwd:=[]) (N:=6000) Nb.left_ (Hook.of Nb.hK) (Hook.keeps Nb.hK) (λs e=>xl_of s (Bool.and_eq_true_iff.mp e).1) XL.keeps (by kernel_rfl) (by kernel_rfl) (by kernel_rfl) (λs e=>recFacts_of (Bool.and_eq_true_iff.mp e).2) (by kernel_rfl) said (by decide +kernel) ⟨rfl,rfl,rfl,rfl,rfl,by decide +kernel⟩ ?hw ?hc
 (case hw=>w_witness2)
 exact Nb.walk (l:=PySem.Challenge.rw_noteboard_k39_stands_come_to) (by kernel_rfl) (by kernel_rfl) (λw h Y=>kIn_of Y) Nb.all_K
