import PyProof.Rows.All
import Wide.All
import OpenK.AllK
import Wide.FinOn
import Lean
import PyProof.EqAt
import PyProof.EqKinds
import PyProof.TupleCall
import PyProof.AttrMissHeap
import PyProof.Rows.RegFStrParts
import KE.KRevIter
import KE.KUnpack
import PySem.Challenge.RW_noteboard_k42_ends_come_to
set_option compiler.extract_closed false
set_option Elab.async false
set_option linter.all false
set_option maxRecDepth 100000
open PySem renaming Addr -> A', wpAny_bind -> Aa, PyData -> Ad, Value -> Af, Shared -> Ai, wpAny_pure -> Aj, starEach -> Aq, sizeLine -> Av, Program -> A1, wpAny -> A2, model -> A5, World -> Bh, Around -> Bo, wpAny_callSpecial?_slot -> Bt, bootBuiltins -> Bw, compareOp -> B3, wpAny_newObj_type -> B8, wpAny_call_entry -> B9, wpAny_holding -> Cb, FuncData -> Cc, behindInMarks -> Cm, assignEach -> Cw, swapsWith -> Cy, backTo -> C0, wpAny_setField -> C7, wpAny_mono -> C8, cLine -> Dd, sysModules -> Dk, wpAny_field -> Dn, wpAny_seqItems -> Dz, rawInt -> D6, wpAny_pyIter_tuple -> D8, mainGlobals -> Ec, wpAny_truthy_bool -> Ee, foldedSetIterable -> Ef, wpAny_setEntries_of -> Ei, wpAny_attempt -> En, Builtin -> Es, codeAny_builtin -> Ex, sizeLine_eq -> Ey, wpAny_isInstance -> E8, binaryOp -> E9, Scope -> Fb, strKind -> Fc, wpAny_rule -> Fg, wpAny_passesOwn -> Fi, SetTable -> Fk, wpAny_setState_of -> Fn, mem_of_lookup -> Fs, wpAny_fieldsOf -> Fy, isSubtype_type -> Fz, plainId_quiet -> F8, boot_len -> Gb, wpAny_setField_rec -> Gf, wpAny_typeOf -> Gt, IsPair -> Gu, entryFor_of_tree -> G0, DictEntry -> G3, attributeBase -> G4, wpAny_typeNameOfWhole_keyiter -> G5, wpAny_of_eq -> G6, sliceBounds -> G7
open List renaming length_map -> Ab, getElem?_eq_getElem -> Ah, mem_cons_of_mem -> Ak, getElem?_map -> Am, mem_cons_self -> An, getElem?_eq_some_iff -> Ap, mem_cons -> Ar, length_append -> As, length_cons -> Ax, mem_of_getElem? -> Az, set -> A3, mem_append -> A4, append_assoc -> A6, mem_map -> A7, not_mem_nil -> A8, range -> A9, length_singleton -> Ba, map_append -> Bb, getElem?_set_ne -> Bg, map_cons -> Bk, mem_singleton -> Bm, append_nil -> Br, map_map -> By, mem_iff_getElem? -> Bz, mem_append_right -> B1, size_toArray -> B4, getElem?_cons_zero -> B7, getElem?_eq_none -> Ce, mem_range -> Ci, length_set -> Cu, getElem?_set_self' -> C1, mem_append_left -> C4, replicate -> Dh, any_cons -> Di, map_eq_cons_iff -> Dj, getElem?_set_self -> Dq, map_eq_nil_iff -> Dt, map_congr_left -> Du, nodup_cons -> Dw, mem_filter -> Dx, length -> Dy, getElem?_toArray -> D0, any_eq_true -> D5, pairwise_singleton -> Ea, length_filter_le -> Em, foldl_cons -> Eo, length_range -> Er, prefix_refl -> Ez, length_drop -> E1, getElem_mem -> E2, getElem?_replicate -> E3, all_eq_true -> E4, toArray -> E7, pairwise_map -> Fh, getElem_inj -> Fo, ext_getElem -> Fp, getElem?_zip_eq_some -> Fu, getElem?_append_left -> Fv, drop_eq_getElem_cons -> Fw, of_mem_zip -> F2, findIdx?_eq_some_iff_getElem -> F6, nodup_append -> Gc, foldl_append -> Ge, filter_cons -> Gr, length_take_le' -> Gx, eq_nil_of_length_eq_zero -> Gy, nil_append -> Gz, getElem_of_mem -> G1, filter_sublist -> G2, zip_cons_cons -> Hb, mem_filterMap -> Hd, filter_append -> He, pairwise_iff_getElem -> Hh
open PySem.Heap renaming get?_push_of_some -> Ae, get?_push_size -> Au, lt_size -> Aw, get?_update_self -> Bv, size_push -> Cp, get?_update_other -> C5, SameBut -> C6
open PySem.W renaming Frag -> Ag, keepIn -> Ct, kia_one -> De, fnOf -> Fl
open And renaming intro -> Al
open PyProof.Rows renaming SortSt -> Ao, Keyed -> Bj, pendingOf -> Bq, seqObj -> Ck, envOfC -> C3, wpS_bind -> Dc, wpS_pure -> Dm, oneType' -> Dp, arrOf -> Dv, pairsOf_size -> D9, cps_toList_append -> Eg, slot_tuple_getitem -> Ek, callWith_type1 -> E5, get?_update_seq -> Fj, elem' -> F4, reverseSlice' -> F7, listUpdate_at -> F9, failedOf -> Ga, setPending -> Gg, wpS_forRange -> Gs, seqEpoch_at -> G8
open Bool renaming false_ne_true -> Ay, and_eq_true -> Bi, eq_iff_iff -> F3, false_eq_true -> Hf
open Nat renaming le_trans -> A0, le_refl -> Bc, ne_of_lt -> Bd, zero_le -> Be, lt_of_lt_of_le -> Bn, lt_of_le_of_lt -> D7, lt_succ_of_lt -> Eb, ne_of_gt -> Ft, le_of_lt_succ -> Gh, le_of_lt -> Gi
open PySem.Heap.SameBut renaming update -> Bf
open List.cons renaming inj -> Bp
open Array renaming getElem?_toList -> Bu, length_toList -> Bx, getElem?_eq_getElem -> Cg, size_map -> Ej, toList_inj -> Gp, perm_iff_toList_perm -> G9, getElem?_setIfInBounds_self_of_lt -> Hj
open Option.some renaming inj -> B2
open PySem.Obj renaming data_mapFields -> B5, isFreed_of_fields -> Dg, mapSeq -> Dr, cls_mapFields -> Eu
open Or renaming inr -> B6, inl -> Cj
open PySem.Value renaming none -> Ca, ref -> Co, type -> Et
open PySem.PyData renaming eqv -> Cf, canLay0 -> Cn, canLayAll0 -> Cq, eqvAll -> C2, shownAll -> Df, depth -> D2, strOk -> Ed, str -> Eh, int -> Ep, depthAll -> F0, weight -> Gm
open ForInStep renaming yield -> Cr, done -> D1
open Int renaming toNat_natCast -> Cz, emod_lt_of_pos -> Hg
open PyProof.Rows.SortSt renaming mk' -> C9
open Sum renaming inr -> Da
open Exists renaming intro -> Dl
open PySem.Paired renaming length -> D3
open Option renaming isSome_iff_exists -> D4, map_eq_some_iff -> E6, isSome_map -> Ff
open PySem.SetTable renaming below -> Ew
open PySem.AutoSeq1 renaming wpAny_loadPart' -> Fq
open PySem.F renaming slot_tuple_iterator_next -> Fx, entry_tuple_add -> F1, slot_tuple_add -> F5, plainAttrs_list -> Hi
open ForIn renaming forIn -> Gj
open PySem.Builtin.Tuple renaming tupleItemsOf -> Gn
open True renaming intro -> Gq
open PySem.Builtin.Slice renaming slicePlaces -> Gv, sliceAdjust -> Gw
open Std.Legacy.Range renaming forIn_eq_forIn_range' -> Ha
open Option renaming some -> ae, none -> af
open Bool renaming true -> ah, false -> ai
noncomputable section
def a_:=@if_neg
def b_:=@if_pos
def c_:=@decide_eq_true
def d_:=@decide_eq_false
def e_:=@of_decide_eq_true
def f_:=@of_decide_eq_false
def g_:=@absurd
def h_:=@or_false
local macro_rules|`(tactic|omega)=>`(tactic|lia)
local macro_rules|`(⋯)=>`(by omega)
local macro_rules|`(∅)=>`(by decide +kernel)
local macro_rules|`(∎)=>`(by decide)
local macro_rules|`(↑$x)=>`(Option.some (.w (.d $x)))
set_option maxHeartbeats 4000000
namespace L2
open PySem PySem.Spec PyProof.Rows
def jV(s:Stmt):Arguments:=match s with
 |.FunctionDef _ a _ _ _ _ _ _ _ _=>a
 |_=>{ posonlyargs:=[],args:=[],vararg:=af,kwonlyargs:=[],kw_defaults:=[],kwarg:=af,defaults:=[]}
def ec(s:Stmt):List Stmt:=match s with
 |.FunctionDef _ _ b _ _ _ _ _ _ _=>b
 |_=>[]
def bJ(s:Stmt):Fb:=match s with
 |.FunctionDef _ _ _ _ _ _ sc _ _ _=>sc
 |_=>{ kind:=.function,names:=[],isGenerator:=ai,isCoroutine:=ai}
end L2
namespace Nb
open PySem L2
def b6(i:Nat):Stmt:=PySem.Challenge.pw_noteboard_k42_ends_come_to.main.body.getD i (.Pass ⟨0,0,0,0⟩)
abbrev P1:Stmt:=b6 36
abbrev NM:Stmt:=b6 37
abbrev qo:Stmt:=b6 57
abbrev yA:Stmt:=P1
abbrev yG:Stmt:=NM
abbrev oT(t:String)(d:Data):Obj:=⟨.type t,af,d,#[]⟩
structure Ds where
 i:Nat
 x:Str
 t:Nat
 l:Nat
 n:Nat
 r:Nat
 b:Bool
 v:Nat
 m:Nat
abbrev Ds.c(d:Ds):Nat:=if d.b then d.r+5 else d.r+3
abbrev Ds.f(d:Ds):Nat:=if d.b then d.r+6 else d.r+4
abbrev Qr(m:Nat):Af:=[(.str "noteboard.values" 223),(.str "noteboard.patterns" 234),(.str "noteboard.stands" 286),(.str "noteboard.moving" 296),(.str "noteboard.reaching" 422),(.str "law_noteboard_k42_ends_come_to" 463)].getD m .none
abbrev kQ(d:Ds):Cc:=Fl d.x d.x (jV (b6 d.i)) (ec (b6 d.i)) (bJ (b6 d.i)) .none .none .none (Qr d.m) af (.ref d.c) .none
abbrev oF(d:Ds):Obj:=oT "function" (.func (kQ d))
abbrev oC(d:Ds):Obj:=oT "code" (.fields #[.str d.x d.t,.str d.x (d.t+1),.str "/claim/cut.py" (d.t+2),.int d.l 0,.int d.n 0,.int 0 0,.int 0 0,.int 3 0,.ref d.r,.bool ah,.int 181 0,.ref (d.r+1),.none,if d.b then .ref (d.r+2)else .none,if d.b then .ref (d.r+3)else .none,.ref (if d.b then d.r+4 else d.r+2),.int d.v 0,.int d.l 0,.str "/claim/cut.py" (d.v+1)])
abbrev eN(P:Params)(x:Str)(t:Nat)(v:Af):G3:=⟨PyData.keyHash P x,.str x t,v⟩
abbrev en(P:Params)(d:Ds):G3:=eN P d.x (d.v+2) (.ref d.f)
def dL:List Ds:=[⟨5,"is_whole",227,8,1,40,ah,231,0⟩,⟨7,"field_fits",236,11,4,47,ah,244,1⟩,⟨8,"fits",247,24,3,54,ah,257,1⟩,⟨9,"next_value",260,36,1,61,ah,264,1⟩,⟨10,"field_value",267,40,2,68,ah,273,1⟩,⟨11,"filled",276,45,2,75,ai,279,1⟩,⟨14,"is_within",288,50,2,81,ah,293,2⟩,⟨16,"next_act",298,53,3,88,ah,307,3⟩,⟨17,"gets",310,58,3,95,ah,321,3⟩,⟨18,"is_ready",324,70,3,102,ah,331,3⟩,⟨19,"ready",334,75,2,109,ai,337,3⟩,⟨20,"gone_on",340,77,2,114,ah,345,3⟩,⟨21,"gone_to",348,79,3,121,ai,351,3⟩,⟨22,"with_hand",354,82,3,126,ah,360,3⟩,⟨23,"got",363,84,4,133,ah,374,3⟩,⟨24,"is_same_value",377,96,2,140,ah,383,3⟩,⟨25,"hand_moved",386,99,3,147,ah,396,3⟩,⟨26,"aged",399,116,1,154,ah,403,3⟩,⟨27,"clock_moved",406,118,1,161,ai,409,3⟩,⟨28,"after",412,120,3,166,ah,419,3⟩,⟨31,"further",426,127,3,173,ah,436,4⟩,⟨32,"steps_from",439,138,2,180,ah,446,4⟩,⟨33,"reached",449,144,2,187,ah,454,4⟩,⟨34,"ends",457,146,2,194,ai,460,4⟩,⟨36,"_law_tape",465,149,1,199,ah,469,5⟩,⟨37,"_law_draw",472,151,2,206,ah,481,5⟩,⟨38,"_law_value",484,166,1,213,ah,488,5⟩,⟨39,"_law_size",491,168,1,220,ah,495,5⟩,⟨40,"_law_pattern",498,170,2,227,ah,509,5⟩,⟨41,"_law_template",512,187,2,234,ah,520,5⟩,⟨42,"_law_term",523,196,2,241,ah,528,5⟩,⟨43,"_law_act",531,200,3,248,ah,541,5⟩,⟨44,"_law_program",544,213,1,255,ai,547,5⟩,⟨45,"_law_notes",550,230,2,260,ai,553,5⟩,⟨46,"_law_known",556,236,3,265,ai,559,5⟩,⟨47,"_law_stand",562,242,3,270,ai,565,5⟩,⟨48,"_law_setting",568,250,1,275,ai,571,5⟩,⟨49,"_law_fits",574,258,3,280,ai,577,5⟩,⟨50,"_law_filled",580,277,2,285,ah,588,5⟩,⟨51,"_law_act_at",591,287,3,292,ah,601,5⟩,⟨52,"_law_got",604,291,3,299,ah,612,5⟩,⟨53,"_law_movers",615,297,2,306,ah,624,5⟩,⟨54,"_law_moved",627,306,3,313,ai,630,5⟩,⟨55,"_law_gone",633,333,3,318,ah,644,5⟩,⟨56,"_law_right",647,347,3,325,ai,650,5⟩,⟨57,"law",653,356,1,330,ah,662,5⟩]
def KK(P:Params):Ag:=let e:=eN P
 (3,oT "dict" (.dict ([e "__name__" 165 (.str "law_noteboard_k42_ends_come_to" 463),e "__doc__" 166 .none,e "__package__" 167 .none,e "__loader__" 168 (.builtin "__main__.__loader__#opaque"),e "__spec__" 169 .none,e "__annotations__" 170 (.ref 6),e "__builtins__" 171 (.ref 4),e "__file__" 173 (.str "/claim/cut.py" 172),e "__cached__" 174 .none,e "BoardError" 206 (.ref 24),e "TooMany" 222 (.ref 37),e "GREATEST_NUMBER" 226 (.int 99 225)]++((dL.drop 0).take 6).map (en P)++[e "GETTING" 285 (.ref 80)]++((dL.drop 6).take 14).map (en P)++[e "MOST_STANDS" 425 (.int 2000 424)]++((dL.drop 20).take 26).map (en P)).toArray 60))::(dL.flatMap λd=>[(d.c,oC d),(d.f,oF d)])++[(80,oT "tuple" (.seq #[(.str "take" 282),(.str "read" 283),(.str "look" 284)] 0))]
def aS:List A':=3::(dL.flatMap λd=>[d.c,d.f])++[80]
abbrev pp:A1:=PySem.Challenge.pw_noteboard_k42_ends_come_to
abbrev qq:A1:=PySem.W.view pp [57]
def lO:List Str:=(["BoardError","TooMany","GREATEST_NUMBER","is_whole","field_fits","fits","next_value","field_value","filled","GETTING","is_within","next_act","gets","is_ready","ready","gone_on","gone_to","with_hand","got","is_same_value","hand_moved","aged","clock_moved","after","MOST_STANDS","further","steps_from","reached","ends","_law_tape","_law_draw","_law_value","_law_size","_law_pattern","_law_template","_law_term","_law_act","_law_program","_law_notes","_law_known","_law_stand","_law_setting","_law_fits","_law_filled","_law_act_at","_law_got","_law_movers","_law_moved","_law_gone","_law_right"]:List String).map Str.ofString
abbrev xT:Ai->Bool:=λs=>PySem.W.xlAt qq [] s&&PySem.W.recOk (PySem.W.RowW.records PySem.Challenge.rw_noteboard_k42_ends_come_to.row.toRowW) s
theorem sai_:PySem.W.looksOpen PySem.Challenge.rw_noteboard_k42_ends_come_to.row.prog=ah:=by kernel_rfl
theorem said_:PySem.Challenge.rw_noteboard_k42_ends_come_to.wellSaid=ah:=by unfold PySem.W.OpenLaw.wellSaid PySem.W.OpenRow.wellSaid PySem.W.OpenRow.partSaid;rw[sai_];kernel_rfl
theorem aK:∀P,aS=(KK P).map (·.1):=λP=>by kernel_rfl
abbrev hK:PySem.W.Hook:=PySem.W.kHook KK aS aK
theorem left_:PySem.W.LeftO pp qq lO xT hK.obs hK.val 6000:=λw=>by kernel_rfl
def IS(s:Stmt):Pos:=match s with
 |.FunctionDef _ _ _ _ _ _ _ _ _ p=>p
 |_=>⟨0,0,0,0⟩
def dW:DefRec:=⟨"law",jV qo,ec qo,bJ qo,IS qo⟩
theorem Pf(P:Params):(dL.map λd=>(PySem.W.nsIn (KK P) Ec d.x,(KK P).lookup d.f,PySem.W.codeIn (KK P) (.ref d.c) d.x))=dL.map λd=>(ae (ae (.ref d.f)),ae (oF d),ah):=by kernel_rfl
theorem y3{α β:Type}{f g:α->β}{l:List α}(h:l.map f=l.map g){j:Nat}{a:α}(e:l[j]?=ae a):f a=g a:=by
 have:=congrArg (λl=>l[j]?) h;simp only[Am,e]at this;exact B2 this
end Nb
namespace L2
open PySem PySem.Spec PyProof.Rows
abbrev aC:=Sum Int Str
def i0:aC->Af->Bool
 |.inl k,v=>Value.isInt k v
 |.inr x,v=>Value.isStrOf x v
def kK(w:Bh):aC->Int
 |.inl k=>hashInt k
 |.inr x=>hashStr w x
theorem gi:∀{k:aC}{v:Af},i0 k v=ah->(∃i t,k=Sum.inl i/\v=Value.int i t)\/(∃x t,k=Da x/\v=Value.str x t)
 |.inl i,v,h=>by
  obtain⟨t,e⟩:=Value.isInt_shape h;exact .inl ⟨i,t,rfl,e⟩
 |.inr x,v,h=>by
  obtain⟨t,e⟩:=Value.isStrOf_shape h;exact .inr ⟨x,t,rfl,e⟩
theorem IJ(i:Int)(t:Tok):i0 (.inl i) (.int i t)=ah:=by simp[i0,Value.isInt]
theorem Sz(x:Str)(t:Tok):i0 (.inr x) (.str x t)=ah:=by simp[i0,Value.isStrOf]
theorem Ln(a b:Int):decide ((Sum.inl a:aC)=Sum.inl b)=(a==b):=by
 by_cases e:a=b
 ·subst e;simp
 ·have h:¬(Sum.inl a:aC)=Sum.inl b:=λq=>e (by simp_all);simp_all<;>omega
theorem NC(a b:Str):decide ((Da a:aC)=Da b)=decide (a=b):=by
 by_cases e:a=b
 ·subst e;simp
 ·have h:¬(Da a:aC)=Da b:=λq=>e (by simp_all);simp
theorem PK(a:Int)(b:Str):decide ((Sum.inl a:aC)=Da b)=ai:=d_ (λq=>nomatch q)
theorem K2(a:Str)(b:Int):decide ((Da a:aC)=Sum.inl b)=ai:=d_ (λq=>nomatch q)
def fh(prog:A1)(w:Bh):PySem.KeyKind prog w aC where
 is:=i0
 hash:=kK w
 inj:=λv a b ha hb=>by
  rcases gi ha with⟨i,t,rfl,rfl⟩|⟨x,t,rfl,rfl⟩
  ·rcases gi hb with⟨j,u,rfl,e⟩|⟨y,u,rfl,e⟩
   ·injection e with e1 _;rw[e1]
   ·exact nomatch e
  ·rcases gi hb with⟨j,u,rfl,e⟩|⟨y,u,rfl,e⟩
   ·exact nomatch e
   ·injection e with e1 _;rw[e1]
 byValue:=λk v h=>by
  rcases gi h with⟨i,t,rfl,rfl⟩|⟨x,t,rfl,rfl⟩<;>rfl
 pyHash:=λhv h=>by
  rcases gi hv with⟨i,t,rfl,rfl⟩|⟨x,t,rfl,rfl⟩
  ·exact wpAny_pyHash_int h
  ·exact wpAny_pyHash_str h
 eqBool:=λhu hv h=>by
  rcases gi hu with⟨i,t,rfl,rfl⟩|⟨x,t,rfl,rfl⟩
  ·rcases gi hv with⟨j,u,rfl,rfl⟩|⟨y,u,rfl,rfl⟩
   ·rw[Ln]at h;exact wpAny_eqBool_int h
   ·rw[PK]at h;exact SeqAt.EqAt.int_str i t y u _ _ _ _ h
  ·rcases gi hv with⟨j,u,rfl,rfl⟩|⟨y,u,rfl,rfl⟩
   ·rw[K2]at h;exact SeqAt.EqAt.str_int x t j u _ _ _ _ h
   ·rw[NC]at h;exact wpAny_eqBool_str h
 «strs»:=λk x t v h=>by
  rcases gi h with⟨i,u,rfl,e⟩|⟨y,u,rfl,e⟩
  ·exact nomatch e
  ·injection e with e1 _;subst e1;cases v<;>rfl
theorem AH(prog:A1)(w:Bh)(i:Int)(t:Tok):(fh prog w).is (.inl i) (.int i t)=ah:=IJ i t
theorem DU(prog:A1)(w:Bh)(x:Str)(t:Tok):(fh prog w).is (.inr x) (.str x t)=ah:=Sz x t
mutual
def cM:Nat->Ad->Bool
 |_,.none=>ah
 |_,.int _=>ah
 |_,.str x=>Ed x
 |n+1,.tuple ds=>d4 n ds
 |_,_=>ai
def d4:Nat->List Ad->Bool
 |_,[]=>ah
 |n,d::r=>cM n d&&d4 n r
end
mutual
def mD(w:Bh):Ad->Int
 |.str x=>kK w (.inr x)
 |.int i=>kK w (.inl i)
 |.none=>0xFCA86420
 |.tuple xs=>reduceHash (Builtin.Tuple.tupleHashOf (nB w xs))
 |_=>0
def nB(w:Bh):List Ad->List Int
 |[]=>[]
 |x::r=>mD w x::nB w r
end
mutual
def jn:Ad->Nat
 |.tuple xs=>oM xs+1
 |_=>1
def oM:List Ad->Nat
 |[]=>0
 |x::r=>jn x+oM r
end
theorem gH{n:Nat}{d:Ad}(h:cM n d=ah):d=.none\/(∃i,d=.int i)\/(∃x,d=.str x/\Ed x=ah)\/∃m ds,n=m+1/\d=.tuple ds/\d4 m ds=ah:=by
 cases d with
 |none=>exact .inl rfl
 |int i=>exact .inr (.inl ⟨i,rfl⟩)
 |str x=>exact .inr (.inr (.inl ⟨x,rfl,by assumption⟩))
 |tuple ds=>
  cases n with
  |zero=>rw[cM]at h<;>first|cases h|(intros;rfl)
  |succ m=>exact .inr (.inr (.inr ⟨m,ds,rfl,rfl,by assumption⟩))
 |_=>cases n<;>(rw[cM]at h<;>first|cases h|(intros;rfl))
theorem BI:∀(n:Nat){d:Ad},cM n d=ah->Cn d=ah/\D2 d<=n:=by
 intro n
 induction n with
 |zero=>
  intro d h;rcases gH h with rfl|⟨i,rfl⟩|⟨x,rfl,f⟩|⟨m,b,e,_⟩
  ·exact⟨rfl,Be _⟩
  ·exact⟨rfl,Be _⟩
  ·exact⟨f,Be _⟩
  ·cases e
 |succ n j=>
  intro d h;rcases gH h with rfl|⟨i,rfl⟩|⟨x,rfl,f⟩|⟨m,b,e,rfl,g⟩
  ·exact⟨rfl,Be _⟩
  ·exact⟨rfl,Be _⟩
  ·exact⟨f,Be _⟩
  ·cases e;have:Cq b=ah/\F0 b<=n:=by
    clear h
    induction b with
    |nil=>exact⟨rfl,Be _⟩
    |cons x r c=>
     rw[d4,Bi]at g;obtain⟨l,p⟩:=c g.2;obtain⟨k,o⟩:=j g.1;exact⟨by rw[Cq,l,k];rfl,by rw[F0];omega⟩
   exact⟨by exact this.1,by rw[D2];omega⟩
theorem JB:∀(n:Nat){d e:Ad},cM n d=ah->cM n e=ah->(Cf d e=ah↔d=e):=by
 intro n;have a:∀{d e:Ad},(d=.none\/(∃i,d=.int i)\/∃x,d=.str x)->(e=.none\/(∃i,e=.int i)\/∃x,e=.str x)->(Cf d e=ah↔d=e):=by
  intro d e h g;rcases h with rfl|⟨i,rfl⟩|⟨x,rfl⟩<;>rcases g with rfl|⟨j,rfl⟩|⟨y,rfl⟩<;>simp[Cf]
 induction n with
 |zero=>
  intro d e h g;refine a ?_ ?_
  ·rcases gH h with h|h|⟨x,h,_⟩|⟨m,t,e,_⟩
   ·exact .inl h
   ·exact .inr (.inl h)
   ·exact .inr (.inr ⟨x,h⟩)
   ·cases e
  ·rcases gH g with h|h|⟨x,h,_⟩|⟨m,t,e,_⟩
   ·exact .inl h
   ·exact .inr (.inl h)
   ·exact .inr (.inr ⟨x,h⟩)
   ·cases e
 |succ n z=>
  intro d e h g;have q:∀l c:List Ad,d4 n l=ah->d4 n c=ah->(C2 l c=ah↔l=c):=by
   intro l
   induction l with
   |nil=>intro c _ _;cases c<;>simp[C2]
   |cons x r u=>
    intro c o p;cases c with
    |nil=>simp[C2]
    |cons y s=>
     rw[d4,Bi]at o p;rw[C2,Bi,z o.1 p.1,u s o.2 p.2,List.cons.injEq]
  rcases gH h with rfl|⟨i,rfl⟩|⟨x,rfl,o⟩|⟨m,t,v,rfl,C⟩<;>rcases gH g with rfl|⟨j,rfl⟩|⟨y,rfl,p⟩|⟨k,w,B,rfl,A⟩
  ·exact a (.inl rfl) (.inl rfl)
  ·exact a (.inl rfl) (.inr (.inl ⟨_,rfl⟩))
  ·exact a (.inl rfl) (.inr (.inr ⟨_,rfl⟩))
  ·simp[Cf]
  ·exact a (.inr (.inl ⟨_,rfl⟩)) (.inl rfl)
  ·exact a (.inr (.inl ⟨_,rfl⟩)) (.inr (.inl ⟨_,rfl⟩))
  ·exact a (.inr (.inl ⟨_,rfl⟩)) (.inr (.inr ⟨_,rfl⟩))
  ·simp[Cf]
  ·exact a (.inr (.inr ⟨_,rfl⟩)) (.inl rfl)
  ·exact a (.inr (.inr ⟨_,rfl⟩)) (.inr (.inl ⟨_,rfl⟩))
  ·exact a (.inr (.inr ⟨_,rfl⟩)) (.inr (.inr ⟨_,rfl⟩))
  ·simp[Cf]
  ·simp[Cf]
  ·simp[Cf]
  ·simp[Cf]
  ·cases v;cases B;rw[Cf,q t w C A,PyData.tuple.injEq]
theorem mn{n:Nat}{d:Ad}(h:cM n d=ah):(d=.none\/(∃i,d=.int i)\/∃x,d=.str x)\/∃m ds,n=m+1/\d=.tuple ds/\d4 m ds=ah:=by
 rcases gH h with e|e|⟨x,e,_⟩|e
 ·exact .inl (.inl e)
 ·exact .inl (.inr (.inl e))
 ·exact .inl (.inr (.inr ⟨x,e⟩))
 ·exact .inr e
theorem rP{h:Heap}{v:Af}{d e:Ad}{as bs:List A'}(p:d=.none\/(∃i,d=.int i)\/∃x,d=.str x)(r1:Reads h v d as)(r2:Reads h v e bs):d=e:=by
 rcases p with rfl|⟨i,rfl⟩|⟨x,rfl⟩
 ·cases r1;cases r2;rfl
 ·cases r1;cases r2;rfl
 ·cases r1;cases r2;rfl
theorem FO{h h':Heap}{v:Af}{d:Ad}{as:List A'}(p:d=.none\/(∃i,d=.int i)\/∃x,d=.str x)(r1:Reads h v d as):Reads h' v d as:=by
 rcases p with rfl|⟨i,rfl⟩|⟨x,rfl⟩
 ·cases r1;exact .none
 ·cases r1;exact .int _ _
 ·cases r1;exact .str _ _
theorem Ma:∀(n:Nat){h:Heap}{v:Af}{d e:Ad}{as bs:List A'},cM n d=ah->cM n e=ah->Reads h v d as->Reads h v e bs->d=e:=by
 intro n
 induction n with
 |zero=>
  intro h v d e as bs t B j g;rcases mn t with p|⟨m,F,z,_⟩
  ·exact rP p j g
  ·cases z
 |succ n M=>
  intro h v d e as bs t B j g;rcases mn t with p|⟨m,F,z,rfl,w⟩
  ·exact rP p j g
  ·cases z;rcases mn B with p|⟨m,O,z,rfl,x⟩
   ·exact(rP p g j).symm
   ·cases z;cases j with
    |tuple D N K L=>
     cases g with
     |tuple G P l H=>
      cases B2 (D.symm.trans G);rw[K]at l;injection l with l _;subst l;have:∀{o:List Af}{i f:List Ad}{as bs:List A'},d4 n i=ah->d4 n f=ah->ReadsAll h o i as->ReadsAll h o f bs->i=f:=by
       intro o
       induction o with
       |nil=>intro i f as bs _ _ s A;cases s;cases A;rfl
       |cons v r u=>
        intro i f as bs q y s A;cases s with
        |cons I C=>
         cases A with
         |cons J E=>
          rw[d4,Bi]at q y;rw[M q.1 y.1 I J,u q.2 y.2 C E]
      rw[this w x L H]
theorem PJ:∀(n:Nat){h h':Heap}{v:Af}{d:Ad}{as:List A'}{dd:A'}{o:Obj}{es:Array G3}{ep:Nat},cM n d=ah->Reads h v d as->h.get? dd=ae o->o.data=.dict es ep->C6 dd h h'->Reads h' v d as:=by
 intro n
 induction n with
 |zero=>
  intro h h' v d as dd o es ep q i A g y;rcases mn q with p|⟨m,D,z,_⟩
  ·exact FO p i
  ·cases z
 |succ n I=>
  intro h h' v d as dd o es ep q i A g y;rcases mn q with p|⟨m,D,z,rfl,w⟩
  ·exact FO p i
  ·cases z;cases i with
   |@tuple a J f k _ _ C E G H=>
    have x:a≠dd:=by
     rintro rfl
     simp_all
    have:∀{f:List Af}{e:List Ad}{as:List A'},d4 n e=ah->ReadsAll h f e as->ReadsAll h' f e as:=by
     intro f
     induction f with
     |nil=>intro e as _ l;cases l;exact .nil
     |cons v r s=>
      intro e as j l;cases l with
      |cons F B=>
       rw[d4,Bi]at j;exact .cons (I j.1 F A g y) (s j.2 B)
    exact .tuple ((y.2 a x).trans C) E G (this w H)
section
variable{prog:A1}{w:Bh}{E:Af->Ai->Prop}
theorem yI{n:Nat}(ih:∀{A:Bo} {s:Ai} {v:Af} {d:Ad} {as:List A'} {Q:Int->Ai->Prop},A.units+n < Dd->cM n d=ah->Reads s.heap v d as->Q (mD w d) {s with toks:=s.toks+jn d}->A2 (A5 prog w) A (pyHash v) Q E s):
  ∀(xs:List Ad)(vs:List Af)(as:List A')(A:Bo)(s:Ai)(b:Array Int)(Q:Array Int->Ai->Prop),d4 n xs=ah->ReadsAll s.heap vs xs as->A.units+n < Dd->
  (∀b',b'.toList=b.toList++nB w xs->Q b' {s with toks:=s.toks+oM xs})->
  A2 (A5 prog w) A (Gj vs b λx r=>do let h <-pyHash x;pure PUnit.unit;pure (Cr (r.push h))) Q E s
 |[],_,as,A,s,b,Q,_,x,_,h=>by cases x;exact Aj (h b (by simp[nB]))
 |k::xs,_,as,A,s,b,Q,a,x,c,h=>by
  cases x with
  |cons g e=>
   rw[d4,Bi]at a;rw[List.forIn_cons];refine Aa (Aa (ih c a.1 g (Aa (Aj (Aj ?_)))));refine yI ih xs _ _ A _ _ Q a.2 e c λb' f=>?_;have:=h b' (by simp[f,nB]);rw[oM,<-Nat.add_assoc]at this;omega
theorem Nu:∀(n:Nat){A:Bo}{s:Ai}{v:Af}{d:Ad}{as:List A'}{Q:Int->Ai->Prop},A.units+n < Dd->cM n d=ah->Reads s.heap v d as->Q (mD w d) {s with toks:=s.toks+jn d}->A2 (A5 prog w) A (pyHash v) Q E s:=by
 intro n;have l:∀{A:Bo}{s:Ai}{v:Af}{d:Ad}{as:List A'}{Q:Int->Ai->Prop},A.units < Dd->(d=.none\/(∃i,d=.int i)\/∃x,d=.str x)->Reads s.heap v d as->Q (mD w d) {s with toks:=s.toks+jn d}->A2 (A5 prog w) A (pyHash v) Q E s:=by
  intro A s v d as Q C B r q;rcases B with rfl|⟨i,rfl⟩|⟨x,rfl⟩
  ·cases r;exact W.pyHash_slot rfl F.slot_NoneType_hash F.entry_NoneType_hash (by trivial) ∎ (.inr C) (Aa (Aj (Aa (wpAny_mkInt (Aj ⟨_,_,rfl,by assumption⟩)))))
  ·cases r;rw[jn]at q
   ·exact(fh prog w).pyHash (AH prog w _ _) q
   all_goals (intros;trivial)
  ·cases r;rw[jn]at q
   ·exact(fh prog w).pyHash (DU prog w _ _) q
   all_goals (intros;trivial)
 induction n with
 |zero=>
  intro A s v d as Q C B r q;refine l C ?_ r q;rcases gH B with h|h|⟨x,h,_⟩|⟨m,H,e,_⟩
  ·exact .inl h
  ·exact .inr (.inl h)
  ·exact .inr (.inr ⟨x,h⟩)
  ·cases e
 |succ n M=>
  intro A s v d as Q C B r q;rcases gH B with h|h|⟨x,h,_⟩|⟨m,H,z,rfl,D⟩
  ·exact l ⋯ (.inl h) r q
  ·exact l ⋯ (by simp_all) r q
  ·exact l ⋯ (.inr (.inr ⟨x,h⟩)) r q
  ·cases z;cases r with
   |@tuple a o K k _ _ I O J L=>
    refine W.pyHash_slot ⟨o,I,O⟩ F.slot_tuple_hash F.entry_tuple_hash (F.args_tuple_hash_1 _) ∎ (.inr ⋯) ?_;show A2 _ _ (Gn _>>=_) _ _ s;refine Aa (wpAny_tupleItemsOf I J (Aa ?_));rw[<-Array.forIn_toList];refine yI M H K.toList _ A.in1 s #[] _ D L (by simp;omega) λb N=>?_;show A2 _ _ (retInt _) _ _ _;rw[N];refine Aa (wpAny_mkInt (Aj ⟨_,_,rfl,?_⟩));rw[jn]at q;exact q
theorem Ig:∀(n m:Nat){A:Bo}{s:Ai}{v:Af}{d:Ad}{as:List A'}{Q:Bool->Ai->Prop},n<=m->cM n d=ah->Reads s.heap v d as->Q ah s->A2 (A5 prog w) A (eqIsQuiet m v) Q E s:=by
 intro n;have f:∀{m:Nat}{A:Bo}{s:Ai}{v:Af}{d:Ad}{as:List A'}{Q:Bool->Ai->Prop},(d=.none\/(∃i,d=.int i)\/∃x,d=.str x)->Reads s.heap v d as->Q ah s->A2 (A5 prog w) A (eqIsQuiet m v) Q E s:=by
  intro m A s v d as Q l r q;have P:carriedByValue v=ah:=by
   rcases l with rfl|⟨i,rfl⟩|⟨x,rfl⟩<;>cases r<;>rfl
  rw[eqIsQuiet_byValue _ P];exact Aj q
 induction n with
 |zero=>
  intro m A s v d as Q _ l r q;refine f ?_ r q;rcases gH l with h|h|⟨x,h,_⟩|⟨m,H,e,_⟩
  ·exact .inl h
  ·exact .inr (.inl h)
  ·exact .inr (.inr ⟨x,h⟩)
  ·cases e
 |succ n O=>
  intro m A s v d as Q T l r q;rcases gH l with h|h|⟨x,h,_⟩|⟨X,H,z,rfl,t⟩
  ·exact f (.inl h) r q
  ·exact f (by simp_all) r q
  ·exact f (.inr (.inr ⟨x,h⟩)) r q
  ·cases z;obtain⟨m,rfl⟩:∃k,m=k+1:=⟨m-1,by omega⟩;cases r with
   |@tuple a o U k _ _ K R M N=>
    have G:s.TypeIs (.ref a) "tuple":=⟨o,K,R⟩;unfold eqIsQuiet;refine Aa (wpAny_specialOf G F.slot_tuple_eq.lookup (Aa (E8 G isSubtype_tuple_tuple ?_)));refine Aa (Dz K M (Aa ?_));rw[<-Array.forIn_toList];refine wpAny_forIn_list _ (λaA r B=>r.1=af/\B=s/\∃u I,d4 n u=ah/\ReadsAll s.heap aA u I) _ ?_ ?_ _ _ ⟨rfl,rfl,H,_,t,N⟩
    ·rintro v aA r B ⟨J,rfl,u,I,y,D⟩
     cases D with
     |cons L S=>
      rw[d4,Bi]at y;exact Aa (O m ⋯ y.1 L (Aj ⟨rfl,rfl,_,_,y.2,S⟩))
    ·rintro⟨V,W⟩ B ⟨J,rfl,_⟩
     subst J;exact Aj q
end
def TK:Type:={ d:Ad // cM 6 d=ah}
noncomputable instance:DecidableEq TK:=λ_ _=>Classical.propDecidable _
def m5(prog:A1)(w:Bh):HeapKind prog w TK where
 is:=λh k a=>∃as,Reads h (.ref a) k.1 as
 hash:=λk=>mD w k.1
 draws:=λk=>jn k.1
 room:=λA=>A.units+16 < Dd
 inj:=λ{h a x y} hx hy=>by
  obtain⟨as,r1⟩:=hx;obtain⟨bs,r2⟩:=hy;exact Subtype.ext (Ma 6 x.2 y.2 r1 r2)
 keeps:=λ{h h' k a d o es ep} x ho hd hs=>by
  obtain⟨as,r⟩:=x;exact⟨as,PJ 6 k.2 r ho hd hs⟩
 pyHash:=λ{A E s k a Q} hu hk h=>by
  obtain⟨as,r⟩:=hk;exact Nu 6 ⋯ k.2 r h
 eqBool:=λ{A E s x y a b Q} hu hx hy h=>by
  obtain⟨as,r1⟩:=hx;obtain⟨bs,r2⟩:=hy;have l1:=BI 6 x.2;have l2:=BI 6 y.2;refine SeqAt.eqAt_reads x.1 y.1 A s _ _ _ _ r1 r2 l1.1 l2.1 ⋯ prog w E Q ?_;have e:Cf x.1 y.1=decide (x=y):=by
   rw[F3,JB 6 x.2 y.2,decide_eq_true_iff];exact⟨Subtype.ext,λh=>by rw[h]⟩
  rw[e];exact h
 quiet:=λ{A E s k a Q} hk h=>by
  obtain⟨as,r⟩:=hk;exact Ig 6 8 ∎ k.2 r h
inductive V where
 |non|bl (b:Bool)|int (i:Int)|str (x:Str)|byt (b:Array UInt8)|flt (b:UInt64)|ref (a:A')|ty (n:String)
 deriving DecidableEq
def RelV:V->Af->Prop
 |.non,u=>u=Ca
 |.bl b,u=>u=Value.bool b
 |.int i,u=>∃t,u=Value.int i t
 |.str x,u=>∃t,u=Value.str x t
 |.byt b,u=>∃t,u=Value.bytes b t
 |.flt b,u=>∃t,u=Value.float b t
 |.ref a,u=>u=Co a
 |.ty n,u=>u=Et n
abbrev Vals:List V->List Af->Prop:=Paired RelV
theorem Vals.length{xs:List V}{us:List Af}(r:Vals xs us):xs.length=us.length:=D3 r
theorem Vals.get:∀{xs:List V}{us:List Af}{i:Nat}{x:V},Vals xs us->xs[i]?=ae x->∃u,us[i]?=ae u/\RelV x u
 |_,_,_,_,.nil,e=>by simp at e
 |_,_,0,_,.cons r _,e=>by simp at e;subst e;exact⟨_,rfl,r⟩
 |_,_,i+1,x,.cons _ t,e=>by
  obtain⟨u,b,a⟩:=Vals.get t (by trivial);exact⟨u,by simpa using b,a⟩
theorem Vals.set{x:V}{u:Af}(r:RelV x u):∀{xs:List V}{us:List Af}(i:Nat),Vals xs us->Vals (xs.set i x) (us.set i u)
 |_,_,_,.nil=>.nil
 |_,_,0,.cons _ t=>.cons r t
 |_,_,i+1,.cons q t=>.cons q (Vals.set r i t)
theorem Vals.append:∀{xs ys:List V}{us ws:List Af},Vals xs us->Vals ys ws->Vals (xs++ys) (us++ws)
 |_,_,_,_,.nil,s=>s
 |_,_,_,_,.cons r t,s=>.cons r (Vals.append t s)
theorem Vals.take:∀{xs:List V}{us:List Af}(n:Nat),Vals xs us->Vals (xs.take n) (us.take n)
 |_,_,0,_=>.nil
 |_,_,_+1,.nil=>.nil
 |_,_,n+1,.cons r t=>.cons r (Vals.take n t)
theorem Vals.drop:∀{xs:List V}{us:List Af}(n:Nat),Vals xs us->Vals (xs.drop n) (us.drop n)
 |_,_,0,r=>r
 |_,_,_+1,.nil=>.nil
 |_,_,n+1,.cons _ t=>Vals.drop n t
def RelO:Option V->Option Af->Prop
 |some v,ae u=>RelV v u
 |none,af=>True
 |_,_=>False
def KV{κ:Type}:List (κ×V)->List (κ×Af)->Prop:=Paired λ(p:κ×V)(q:κ×Af)=>p.1=q.1/\RelV p.2 q.2
def kV:aC->V
 |.inl i=>.int i
 |.inr x=>.str x
inductive HO where
 |lst (xs:List V)
 |tup (xs:List V)
 |dK (kvs:List (aC×V))|dT (kvs:List (List aC×V))
 |dX (ps:List (TK×A'×V))
 |set (S:Int->Bool) (n:Nat)
 |ins (C dx:A') (fs:List (Str×V))
 |own (x:A')
 |xd (fs:List (Str×V))
 |met (f x:A')
 |rng (lo hi:Int)
 |frz (o:Obj) (u:HO)
 |tbl (ps:Array Af)
 |ext (φ:Heap->Prop)
abbrev Hp:=A'->Option HO
def upd(H:Hp)(a:A')(o:HO):Hp:=λb=>if b=a then ae o else H b
theorem a9{H:Hp}{a:A'}{o:HO}:upd H a o a=ae o:=by unfold upd;simp
theorem aH{H:Hp}{a b:A'}{o:HO}(h:b≠a):upd H a o b=H b:=by unfold upd;rw[a_ h]
theorem uo{H:Hp}{a:A'}{o u:HO}:upd (upd H a o) a u=upd H a u:=by
 funext b;unfold upd;simp_all
theorem xf{H:Hp}{a b:A'}{o u:HO}(h:H a=ae o)(h':H b=ae u)(d:o≠u):a≠b:=by
 intro e;subst e;rw[h]at h';simp_all
theorem bu{H:Hp}{a b:A'}{o:HO}(h:H a=ae o)(h':H b=af):a≠b:=by
 intro e;simp_all
def IsTupP(h:Heap)(a:A')(items:Array Af):Prop:=∃o,h.get? a=ae o/\o.cls=.type "tuple"/\(∃n,o.data=.seq items n)/\o.dict=af
theorem IsTupP.tup{h:Heap}{a:A'}{items:Array Af}(x:IsTupP h a items):IsTup h a items:=let⟨o,e,c,d,_⟩:=x;⟨o,e,c,d⟩
theorem IsTupP.lt{h:Heap}{a:A'}{items:Array Af}(x:IsTupP h a items):a < h.objs.size:=let⟨_,e,_⟩:=x;Aw e
theorem IsTupP.new(h:Heap)(items:Array Af):IsTupP (h.push {cls:=.type "tuple",data:=.seq items}) h.objs.size items:=⟨_,Au _ rfl,rfl,⟨_,rfl⟩,rfl⟩
section
variable(P:A1)(w:Bh)
def ObjOk(H:Hp)(h:Heap)(a:A'):HO->Prop
 |.lst xs=>xs.length<=Av/\∃(i':List Af)(n:Nat),Vals xs i'/\h.get? a=ae {cls:=.type "list",data:=.seq i'.toArray n}
 |.tup xs=>xs.length<=Av/\∃i':List Af,Vals xs i'/\IsTupP h a i'.toArray
 |.dK kvs=>kvs.length<=Av/\(a==Dk)=ai/\∃vs,KV kvs vs/\h.DictOf (fh P w) a vs
 |.dT kvs=>kvs.length<=Av/\(a==Dk)=ai/\∃xs:List (List aC×A'×Af),
   Paired (λ(p:List aC×V)(q:List aC×A'×Af)=>p.1=q.1/\H q.2.1=ae (.tup (p.1.map kV))/\RelV p.2 q.2.2) kvs xs /\
   ∃o es ep,h.get? a=ae o/\o.ExactDict/\o.data=.dict es ep/\es.toList=xs.map (entryOfKey (tupleKind (fh P w)))/\(xs.map (·.1)).Nodup
 |.dX ps=>ps.length<=Av/\(a==Dk)=ai/\∃xs:List (TK×A'×Af),Paired (λ(p:TK×A'×V)(q:TK×A'×Af)=>p.1=q.1/\p.2.1=q.2.1/\RelV p.2.2 q.2.2) ps xs /\
   ∃o es ep,h.get? a=ae o/\o.ExactDict/\o.data=.dict es ep/\es.toList=xs.map (entryOfKey (m5 P w))/\(xs.map (·.1)).Nodup
 |.set S n=>h.SetOf (intKind P w) a S n
 |.ins C dx fs=>H dx=ae (.own a)/\fs.length<=1000/\dx≠a/\h.get? a=ae (PySem.W.instObj C dx) /\
   ∃mA,h.Ns1 dx mA/\(∀f,RelO (fs.lookup f) (mA f))/\PySem.Within mA (fs.map (·.1))
 |.own _=>∃o,h.get? a=ae o
 |.xd fs=>∃mA,h.Ns1 a mA/\∀f,RelO (fs.lookup f) (mA f)
 |.rng lo hi=>∃t u v,h.get? a=ae {cls:=.type "range",data:=.fields #[.int lo t,.int hi u,.int 1 v]}
 |.frz o u=>h.get? a=ae o/\ObjOk H h a u
 |.tbl ps=>h.get? a=ae {cls:=.none,data:=.fields ps}
 |.met f x=>h.get? a=ae (PySem.W.methodObj (.ref f) (.ref x))
 |.ext φ=>φ h/\(∃o,h.get? a=ae o)/\∀h1 h2:Heap,φ h1->(∀o,h1.get? a=ae o->h2.get? a=ae o)->φ h2
def HOk(H:Hp)(h:Heap):Prop:=∀a o,H a=ae o->ObjOk P w H h a o
end
section
variable{P:A1}{w:Bh}{H H':Hp}{h h':Heap}{a:A'}{o:HO}
theorem ObjOk.lt(x:ObjOk P w H h a o):a < h.objs.size:=by
 cases o with
 |lst q=>obtain⟨_,_,_,_,e⟩:=x;exact Aw e
 |tup q=>obtain⟨_,_,_,p⟩:=x;exact p.lt
 |dK b=>obtain⟨_,_,_,_,o,_,_,e,_⟩:=x;exact Aw e
 |dT b=>obtain⟨_,_,_,_,o,_,_,e,_⟩:=x;exact Aw e
 |dX c=>obtain⟨_,_,_,_,o,_,_,e,_⟩:=x;exact Aw e
 |set S n=>obtain⟨o,_,_,_,e,_⟩:=x;exact Aw e
 |ins C B s=>obtain⟨_,_,_,e,_⟩:=x;exact Aw e
 |own y=>obtain⟨_,e⟩:=x;exact Aw e
 |xd s=>obtain⟨_,⟨_,_,_,e,_⟩,_⟩:=x;exact Aw e
 |rng F v=>obtain⟨_,_,_,e⟩:=x;exact Aw e
 |frz E u=>obtain⟨e,_⟩:=x;exact Aw e
 |tbl c=>exact Aw (x)
 |met f y=>exact Aw (x)
 |ext φ=>obtain⟨_,⟨_,e⟩,_⟩:=x;exact Aw e
theorem Paired.mapP{α β:Type}{F G:α->β->Prop}:∀{w_:List α}{x_:List β},Paired F w_ x_->(∀a b,F a b->G a b)->Paired G w_ x_
 |_,_,.nil,_=>.nil
 |_,_,.cons r t,f=>.cons (f _ _ r) (Paired.mapP t f)
theorem ObjOk.stay(x:ObjOk P w H h a o)(k:∀b u,(b=a\/H b=ae (.own a))->h.get? b=ae u->h'.get? b=ae u)
  (ho:∀b,H b=ae (.own a)->H' b=ae (.own a)) (ht:∀b xs,H b=ae (.tup xs)->H' b=ae (.tup xs)):ObjOk P w H' h' a o:=by
 induction o with
 |lst xs=>obtain⟨z,l,n,r,e⟩:=x;exact⟨z,l,n,r,k _ _ (.inl rfl) e⟩
 |tup xs=>obtain⟨z,l,r,g,e,c⟩:=x;exact⟨z,l,r,g,k _ _ (.inl rfl) e,c⟩
 |dK s=>obtain⟨z,y,I,r,g,i,j,e,c⟩:=x;exact⟨z,y,I,r,g,i,j,k _ _ (.inl rfl) e,c⟩
 |dT s=>
  obtain⟨z,y,xs,r,g,i,j,e,c⟩:=x;exact⟨z,y,xs,Paired.mapP r λp q z=>⟨z.1,ht _ _ z.2.1,z.2.2⟩,g,i,j,k _ _ (.inl rfl) e,c⟩
 |dX D=>
  obtain⟨z,y,xs,r,g,i,j,e,c⟩:=x;exact⟨z,y,xs,r,g,i,j,k _ _ (.inl rfl) e,c⟩
 |set S n=>obtain⟨g,i,j,t,e,c⟩:=x;exact⟨g,i,j,t,k _ _ (.inl rfl) e,c⟩
 |ins C W R=>
  obtain⟨d,z,K,e,m,⟨A,i,j,O,c⟩,r⟩:=x;exact⟨ho _ d,z,K,k _ _ (.inl rfl) e,m,⟨A,i,j,k _ _ (.inr d) O,c⟩,r⟩
 |own y=>obtain⟨g,e⟩:=x;exact⟨g,k _ _ (.inl rfl) e⟩
 |xd R=>obtain⟨m,⟨A,i,j,e,c⟩,r⟩:=x;exact⟨m,⟨A,i,j,k _ _ (.inl rfl) e,c⟩,r⟩
 |rng Y T=>obtain⟨t,u,v,e⟩:=x;exact⟨t,u,v,k _ _ (.inl rfl) e⟩
 |frz g u N=>obtain⟨e,q⟩:=x;exact⟨k _ _ (.inl rfl) e,N q⟩
 |tbl D=>
  have e:=x;exact k a _ (.inl rfl) e
 |met f y=>
  have e:=x;exact k a _ (.inl rfl) e
 |ext φ=>obtain⟨p,⟨o,e⟩,B⟩:=x;exact⟨B _ _ p λo=>k _ _ (.inl rfl),⟨o,k _ _ (.inl rfl) e⟩,B⟩
theorem HOk.lt(x:HOk P w H h)(e:H a=ae o):a < h.objs.size:=(x a o e).lt
theorem HOk.fresh(x:HOk P w H h)(e:h.objs.size<=a):H a=af:=by
 cases q:H a with
 |none=>rfl
 |some u=>exact g_ (Bn (x.lt q) e) (by simp)
theorem HOk.kept(x:HOk P w H h)(k:∀b u,h.get? b=ae u->h'.get? b=ae u):HOk P w H h':=λa o e=>
 (x a o e).stay (λb u _=>k b u) (λ_ q=>q) λ_ _ q=>q
theorem HOk.laid(x:HOk P w H h)(k:∀b u,h.get? b=ae u->h'.get? b=ae u)(hp:h.objs.size<=a)(new:ObjOk P w (upd H a o) h' a o):HOk P w (upd H a o) h':=λb u e=>by
 have d:=x.fresh hp;by_cases f:b=a
 ·subst f;rw[a9]at e;simp_all
 ·rw[aH f]at e;exact(x b u e).stay (λc v _=>k c v) (λc q=>(aH (bu q d))▸q) λc g q=>(aH (bu q d))▸q
end
def Rd(H:Hp)(a:A')(u:HO):Prop:=H a=ae u\/∃o,H a=ae (.frz o u)
theorem Rd.ok{P:A1}{w:Bh}{H:Hp}{h:Heap}{a:A'}{u:HO}(r:Rd H a u)(x:HOk P w H h):ObjOk P w H h a u:=by
 rcases r with r|⟨o,r⟩
 ·exact x a u r
 ·obtain⟨_,q⟩:=x a _ r;exact q
def mK:Option HO->Prop
 |some (.lst _)=>True
 |some (.dK _)=>True
 |some (.dT _)=>True
 |some (.dX _)=>True
 |some (.set _ _)=>True
 |some (.ins _ _ _)=>True
 |some (.ext _)=>True
 |_=>False
section
variable{P:A1}{w:Bh}{H:Hp}{h h':Heap}{x e:A'}{o':HO}
theorem HOk.write(ok:HOk P w H h)(mu:mK (H x))(he:e=x\/H e=ae (.own x))(k:∀b u,b≠e->h.get? b=ae u->h'.get? b=ae u)(heo:∃u,h'.get? e=ae u)
  (new:ObjOk P w (upd H x o') h' x o'):HOk P w (upd H x o') h':=λb u q=>by
 have a:∀c y,H c=ae (.own y)->c≠x:=λc y r z=>by subst z;rw[r]at mu;trivial
 have f:∀c g,H c=ae (.tup g)->c≠x:=λc g r z=>by subst z;rw[r]at mu;trivial
 by_cases j:b=x
 ·subst j;rw[a9]at q;simp_all
 ·rw[aH j]at q;by_cases d:b=e
  ·have l:H b=ae (.own x):=by
    rcases he with z|z
    ·exact g_ (d.trans z) j
    ·rw[d];exact z
   rw[q]at l;cases l;obtain⟨v,m⟩:=heo;exact⟨v,by simp_all⟩
  ·refine(ok b u q).stay (λc v i=>k c v ?_) (λc r=>(aH (a c b r))▸r) λc g r=>by rw[aH (f c g r)];exact r
   rcases i with rfl|i
   ·exact d
   ·rintro rfl
    rcases he with z|z
    ·exact a c b i z
    ·rw[i]at z;simp_all
end
structure Un(fs ex:List A')(H H':Hp)(h h':Heap):Prop where
 keep:∀b o,h.get? b=ae o->H b=af->b∉fs->b∉ex->h'.get? b=ae o
 slot:∀b o,h.get? b=ae o->H b=af->b∈fs->b∉ex->∃sl,h'.get? b=ae {o with slots:=sl}
 free:∀b o,h.get? b=ae o->H b=af->b∉ex->H' b=af
 there:∀b o,h.get? b=ae o->b∉ex->∃o',h'.get? b=ae o'
 tups:∀b xs,H b=ae (.tup xs)->H' b=ae (.tup xs)
 frzs:∀b o u,H b=ae (.frz o u)->H' b=ae (.frz o u)
 tbls:∀b ps,H b=ae (.tbl ps)->∃more,H' b=ae (.tbl (ps++more))
section
variable{fs fs' ex ex':List A'}{H H1 H2:Hp}{h h1 h2 h':Heap}{a x e:A'}{o:HO}
theorem Un.any(u:Un fs ex H H1 h h1){b:A'}{ob:Obj}(q:h.get? b=ae ob)(n:H b=af)(hx:b∉ex):∃sl,h1.get? b=ae {ob with slots:=sl}:=by
 by_cases a:b∈fs
 ·exact u.slot b ob q n a hx
 ·exact⟨_,u.keep b ob q n a hx⟩
theorem Un.kept(k:∀b u,h.get? b=ae u->h'.get? b=ae u):Un fs ex H H h h':=
 ⟨λb a q _ _ _=>k b a q,λb a q _ _ _=>⟨_,k b a q⟩,λ_ _ _ n _=>n,λb a q _=>⟨a,k b a q⟩,λ_ _ q=>q,λ_ _ _ q=>q,λ_ c q=>⟨#[],by rw[q];simp⟩⟩
theorem Un.refl:Un fs ex H H h h:=Un.kept λ_ _ q=>q
theorem Un.laid(k:∀b u,h.get? b=ae u->h'.get? b=ae u)(hp:h.objs.size<=a)(hn:H a=af):Un fs ex H (upd H a o) h h' where
 keep:=λb u q _ _ _=>k b u q
 slot:=λb u q _ _ _=>⟨_,k b u q⟩
 free:=λb u q n _=>(aH (Bd (Bn (Aw q) hp)))▸n
 there:=λb u q _=>⟨u,k b u q⟩
 tups:=λb c q=>(aH (bu q hn))▸q
 frzs:=λb u c q=>(aH (bu q hn))▸q
 tbls:=λb d q=>⟨#[],by rw[aH (bu q hn),q];simp⟩
theorem Un.write(mu:mK (H x))(he:e=x\/H e=ae (.own x))(k:∀b u,b≠e->h.get? b=ae u->h'.get? b=ae u)(heo:∃u,h'.get? e=ae u):Un fs ex H (upd H x o) h h':=by
 have d:∀b,H b=af->b≠x:=λb n z=>by subst z;rw[n]at mu;trivial
 have f:∀b,H b=af->b≠e:=λb n z=>by
  subst z;rcases he with r|r
  ·exact d b n r
  ·rw[n]at r;cases r
 have c:∀b u,H b=ae u->¬mK (ae u)->b≠x:=λb u q i z=>by simp_all
 refine⟨λb u q n _ _=>k b u (f b n) q,λb u q n _ _=>⟨u.slots,k b u (f b n) q⟩,λb u q n _=>by rw[aH (d b n)];exact n,λb u q _=>?_,
  λb g q=>by rw[aH (c b _ q λz=>z)];exact q,λb u g q=>(aH (c b _ q λz=>z))▸q,λb j q=>⟨#[],by rw[aH (c b _ q λz=>z),q];simp⟩⟩
 by_cases a:b=e
 ·subst a;omega
 ·exact⟨u,k b u a q⟩
end
def BR(h:Heap)(H:Hp):List A':=(A9 h.objs.size).filter λa=>(H a).isSome
def ft(h:Heap)(H:Hp):Heap:=PySem.W.hideAll h (BR h H)
theorem QV(h:Heap)(H:Hp):(ft h H).objs.size=h.objs.size:=PySem.W.hideAll_size _ _
theorem Q6{h:Heap}{H:Hp}{b:A'}{o:Obj}(e:h.get? b=ae o)(n:H b=af):(ft h H).get? b=ae o:=
 PySem.W.hideAll_get _ e λhm=>by
  have q:=(Dx.mp hm).2;simp_all
theorem R9{h:Heap}{H:Hp}{b:A'}{o:Obj}(e:(ft h H).get? b=ae o):h.get? b=ae o/\H b=af:=by
 have a:=PySem.W.of_hideAll _ e;refine⟨a,?_⟩;cases q:H b with
 |none=>rfl
 |some x=>
  have d:b∈BR h H:=Dx.mpr ⟨Ci.mpr (Aw a),by simp[q]⟩;have z:(ft h H).get? b=af:=PySem.W.hideAll_none _ d;simp_all<;>omega
def L1(g h:Heap)(L:A'):List (A'×Obj):=(A9 h.objs.size).filterMap λa=>if a=L\/(g.get? a).isSome=ah then af else(h.get? a).map λo=>(a,o)
def aA(g h:Heap)(L d:A'):List (A'×Obj):=(L1 g h L).filter λp=>decide (p.1≠d)
structure Mod(K:Ag)(mg:Str->Option Af)(base:Heap):Prop where
 kin:K.In base
 glob:base.Ns Ec mg
 blt:∃mb,base.Ns builtinsNs mb/\∀x:Str,x≠"__name__"->mb x=Bw x
 nolimit:base.NoLimit
structure Cx where
 prog:A1
 w:Bh
 K:Ag
 mg:Str->Option Af
 base:Heap
 A:Bo
 N:List Str
 s₀:Ai
 H₀:Hp
 env:Env
 outer:List Env
 stack:List Env
 ex:List A'
 fn:Str->Bool
 calm:Bool
 pn:List (A'×Obj)
 xe:Af->Ai->Prop
def gP(l:List Env):List A':=l.filterMap (·.frame)
abbrev Cx.fs(X:Cx):List A':=gP X.outer
def dY(sc:Fb)(x:Str):Prop:=sc.names.lookup x=ae .local\/sc.names.lookup x=ae .cell\/sc.names.lookup x=ae .free
def fA(sc:Fb)(x:Str):Prop:=sc.names.lookup x=ae .local\/sc.names.lookup x=ae .cell
def va(env:Env)(h:Heap)(m:Str->Option Af)(x:Str)(u:Af):Prop:=
 (env.kindOf x=ae .local/\m x=ae u)\/((env.kindOf x=ae .cell\/env.kindOf x=ae .free)/\∃c,env.cells.lookup x=ae c/\h.IsCell c (ae u))
structure Cx.Ok(X:Cx):Prop where
 mod:Mod X.K X.mg X.base
 kind:X.env.scope.kind=.function
 glob:X.env.globals=Ec
 blt:X.env.builtins=builtinsNs
 above:X.s₀.heap.objs.size<=X.env.locals
 inj:∀x y c,X.env.cells.lookup x=ae c->X.env.cells.lookup y=ae c->x=y
 has:∀x,(X.env.kindOf x=ae .cell\/X.env.kindOf x=ae .free)->∃c,X.env.cells.lookup x=ae c
 cab:∀x c,X.fn x=ah->X.env.cells.lookup x=ae c->X.s₀.heap.objs.size<=c
 hd:X.calm=ah->X.A.handled=af
 frames:X.A.frames=ae X.stack
 stk:X.stack=X.outer\/(X.stack=X.env::X.outer/\X.env.frame=ae X.env.locals)
 exf:∀b∈X.ex,b≠X.env.locals/\∀x c,X.env.cells.lookup x=ae c->c≠b
 bs:∀b o,X.base.get? b=ae o->X.s₀.heap.get? b=ae o/\X.H₀ b=af
 bsz:X.base.objs.size<=X.s₀.heap.objs.size
 noex:∀b o,X.base.get? b=ae o->b∉X.ex
 exfs:∀b∈X.ex,b∉X.fs
 funs:X.s₀.heap.FunFrames X.base X.outer
 frf:∀b∈X.fs,X.H₀ b=af
structure Inv(X:Cx)(i_:List (A'×Obj))(σ:List (Option V))(H:Hp)(s:Ai):Prop where
 ok:X.Ok
 os:s.os=X.s₀.os
 bare:AllBare s.gens
 base:Un X.fs X.ex X.H₀ H X.s₀.heap s.heap
 loc:∃m,s.heap.Ns X.env.locals m/\∀(i:Nat)(x:Str)(v:V),X.N[i]?=ae x->σ[i]?=ae (ae v)->dY X.env.scope x->∃u,RelV v u/\va X.env s.heap m x u
 cell:∀x c,X.env.cells.lookup x=ae c->∃v,s.heap.IsCell c v
 free:H X.env.locals=af
 freeC:∀x c,X.env.cells.lookup x=ae c->H c=af
 pin:∀p∈X.pn++i_,s.heap.get? p.1=ae p.2/\H p.1=af/\p.1≠X.env.locals/\p.1∉X.fs/\∀v,p.2.data≠.cell v
 hok:HOk X.prog X.w H s.heap
 len:σ.length=X.N.length
section
variable{X:Cx}{i_:List (A'×Obj)}{σ:List (Option V)}{H H':Hp}{s:Ai}{h':Heap}
theorem Cx.Ok.nofr(ok:X.Ok){b:A'}{o:Obj}(e:X.base.get? b=ae o):b∉X.fs:=λhb=>by
 have:=(ok.funs.mem hb).1;simp_all
theorem Inv.bs(I:Inv X i_ σ H s):∀b o,X.base.get? b=ae o->s.heap.get? b=ae o/\H b=af:=λb o e=>
 ⟨I.base.keep b o (I.ok.bs b o e).1 (I.ok.bs b o e).2 (I.ok.nofr e) (I.ok.noex b o e),I.base.free b o (I.ok.bs b o e).1 (I.ok.bs b o e).2 (I.ok.noex b o e)⟩
theorem Inv.bk(I:Inv X i_ σ H s):∀b o,X.base.get? b=ae o->s.heap.get? b=ae o:=λb o e=>(I.bs b o e).1
theorem Inv.mod(I:Inv X i_ σ H s):Mod X.K X.mg X.base:=I.ok.mod
theorem Inv.kIn(I:Inv X i_ σ H s):X.K.In s.heap:=I.ok.mod.kin.keeps I.bk
theorem Inv.lt(I:Inv X i_ σ H s):X.env.locals < s.heap.objs.size:=let⟨_,a,_⟩:=I.loc;a.lt
theorem Inv.sz(I:Inv X i_ σ H s):X.s₀.heap.objs.size<=s.heap.objs.size:=A0 I.ok.above (Gi I.lt)
theorem Inv.nofs(I:Inv X i_ σ H s){a:A'}(h:s.heap.objs.size<=a):a∉X.fs:=λhb=>by
 obtain⟨_,o,b,_⟩:=I.ok.funs.mem hb;exact g_ (Bn (Aw b) (A0 I.sz h)) (by simp)
theorem Inv.cne(I:Inv X i_ σ H s):∀x c,X.env.cells.lookup x=ae c->c≠X.env.locals:=λx c e z=>by
 obtain⟨v,o,f,h⟩:=I.cell x c e;obtain⟨m,⟨g,d,i,a,b,_⟩,_⟩:=I.loc;simp_all
theorem Inv.funs(I:Inv X i_ σ H s):s.heap.FunFrames X.base X.outer:=by
 have f:∀l,(∀b∈gP l,b∈X.fs)->X.s₀.heap.FunFrames X.base l->s.heap.FunFrames X.base l:=by
  intro l
  induction l with
  |nil=>intro _ _;trivial
  |cons n r q=>
   intro h i;obtain⟨j,⟨L,o,g,p,k,m⟩,t⟩:=i;have c:=h L (by unfold gP;rw[List.filterMap_cons,g];exact An);obtain⟨u,e⟩:=I.base.slot L o k (I.ok.frf L c) c λz=>I.ok.exfs L z c;exact⟨j,⟨L,_,g,p,e,m⟩,q (λb d=>h b (by unfold gP;rw[List.filterMap_cons,g];exact Ak _ d)) t⟩
 exact f X.outer (λ_ d=>d) I.ok.funs
theorem Inv.stack(I:Inv X i_ σ H s):s.heap.FunFrames X.base X.stack:=by
 rcases I.ok.stk with e|⟨e,b⟩
 ·rw[e];exact I.funs
 ·rw[e];obtain⟨m,a,_⟩:=I.loc;exact .cons (by rw[I.ok.kind];decide) b a (Heap.get?_none_of_le (A0 I.ok.bsz I.ok.above)) I.funs
theorem Inv.stkSub(I:Inv X i_ σ H s):∀b∈gP X.stack,b∈X.env.locals::X.fs:=λb a=>by
 rcases I.ok.stk with e|⟨e,c⟩
 ·rw[e]at a;exact Ak _ a
 ·rw[e]at a;unfold gP at a;rw[List.filterMap_cons,c]at a;exact a
theorem Inv.stkFree(I:Inv X i_ σ H s):∀b∈gP X.stack,H b=af:=λb a=>by
 rcases Ar.mp (I.stkSub b a)with e|a
 ·rw[e];exact I.free
 ·obtain⟨_,o,c,_⟩:=I.ok.funs.mem a;exact I.base.free b o c (I.ok.frf b a) λz=>I.ok.exfs b z a
theorem Inv.step{g':Array GenState}{t':Nat}{d':Drawn}{ch:List A'}(I:Inv X i_ σ H s)
  (hch:∀b∈ch,(b∈X.ex\/X.s₀.heap.objs.size<=b)/\b≠X.env.locals/\(∀x c,X.env.cells.lookup x=ae c->c≠b)/\∀p∈X.pn++i_,p.1≠b)
  (keep:∀b o,b≠X.env.locals->b∉X.fs->b∉ch->s.heap.get? b=ae o->H b=af->h'.get? b=ae o)
  (slot:∀b o,b≠X.env.locals->b∈X.fs->b∉ch->s.heap.get? b=ae o->H b=af->∃sl,h'.get? b=ae {o with slots:=sl}) (free:∀b o,b∉ch->s.heap.get? b=ae o->H b=af->H' b=af)
  (there:∀b o,b∉ch->s.heap.get? b=ae o->∃o',h'.get? b=ae o')
  (tups:∀b xs,H b=ae (.tup xs)->H' b=ae (.tup xs)) (frzs:∀b o u,H b=ae (.frz o u)->H' b=ae (.frz o u)) (tbls:∀b ps,H b=ae (.tbl ps)->∃more,H' b=ae (.tbl (ps++more)))
  (ns:∀m,s.heap.Ns X.env.locals m->h'.Ns X.env.locals m) (hok:HOk X.prog X.w H' h') (hg:AllBare g'):
  Inv X i_ σ H' {s with heap:=h',gens:=g',drawn:=d',toks:=t'}:=by
 have A:∀b o,X.s₀.heap.get? b=ae o->b≠X.env.locals:=λb o e=>Bd (Bn (Aw e) I.ok.above);have j:∀b o,X.s₀.heap.get? b=ae o->b∉X.ex->b∉ch:=λb o e a t=>by
  rcases(hch b t).1 with z|z
  ·exact a z
  ·exact g_ (Bn (Aw e) z) (by simp)
 have f:∀x c,X.env.cells.lookup x=ae c->∀v,s.heap.IsCell c v->h'.IsCell c v:=λx c e v w=>by
  obtain⟨o,y,D⟩:=w;have g:=λz=>(hch c z).2.2.1 x c e rfl;by_cases J:c∈X.fs
  ·obtain⟨sl,q⟩:=slot c o (I.cne x c e) J g y (I.freeC x c e);exact⟨_,q,D⟩
  ·exact⟨o,keep c o (I.cne x c e) J g y (I.freeC x c e),D⟩
 refine⟨I.ok,I.os,hg,⟨λb o e n t a=>?_,λb o e n t a=>?_,λb o e n a=>?_,λb o e a=>?_,λb xs e=>tups b xs (I.base.tups b xs e),λb o xs e=>frzs b o xs (I.base.frzs b o xs e),λb ps e=>?_⟩,?_,λx c e=>?_,?_,λx c e=>?_,λp F=>?_,hok,I.len⟩
 ·exact keep b o (A b o e) t (j b o e a) (I.base.keep b o e n t a) (I.base.free b o e n a)
 ·obtain⟨sl,h⟩:=I.base.slot b o e n t a;obtain⟨C,B⟩:=slot b _ (A b o e) t (j b o e a) h (I.base.free b o e n a);exact⟨C,B⟩
 ·obtain⟨o',h⟩:=I.base.there b o e a;exact free b o' (j b o e a) h (I.base.free b o e n a)
 ·obtain⟨o',h⟩:=I.base.there b o e a;exact there b o' (j b o e a) h
 ·obtain⟨O,h⟩:=I.base.tbls b ps e;obtain⟨K,B⟩:=tbls b _ h;exact⟨O++K,by simp_all⟩
 ·obtain⟨m,N,L⟩:=I.loc;refine⟨m,ns m N,λi x v h B M=>?_⟩;obtain⟨u,r,l⟩:=L i x v h B M;refine⟨u,r,?_⟩;rcases l with l|⟨k,c,e,z⟩
  ·exact .inl l
  ·exact .inr ⟨k,c,e,f x c e _ z⟩
 ·obtain⟨v,z⟩:=I.cell x c e;exact⟨v,f x c e v z⟩
 ·obtain⟨m,⟨o,_,_,y,_⟩,_⟩:=I.loc;exact free _ o (λz=>(hch _ z).2.1 rfl) y I.free
 ·obtain⟨v,o,y,D⟩:=I.cell x c e;exact free c o (λz=>(hch c z).2.2.1 x c e rfl) y (I.freeC x c e)
 ·obtain⟨e,n,G,E,d⟩:=I.pin p F;have g:=λz=>(hch p.1 z).2.2.2 p F rfl;exact⟨keep p.1 p.2 G E g e n,free p.1 p.2 g e n,G,E,d⟩
theorem Inv.un{t':Nat}(I:Inv X i_ σ H s)(u:Un X.fs [] H H' s.heap h')(hok:HOk X.prog X.w H' h'):Inv X i_ σ H' {s with heap:=h',toks:=t'}:=by
 obtain⟨m,⟨o,k,p,g,r⟩,_⟩:=id I.loc;obtain⟨q,h⟩:=u.any g I.free (by simp);exact I.step (ch:=[]) (λ_ z=>nomatch z) (λb o _ d _ e n=>u.keep b o e n d (by simp)) (λb o _ d _ e n=>u.slot b o e n d (by simp)) (λb o _ e n=>u.free b o e n (by simp)) (λb o _ e=>u.there b o e (by simp)) u.tups u.frzs u.tbls (λm' i=>by
  obtain⟨l,f,c,a,j⟩:=i;rw[g]at a;cases a;exact⟨_,f,c,h,j⟩) hok I.bare
theorem Inv.call{g':Array GenState}{t':Nat}{d':Drawn}{ch:List A'}(I:Inv X i_ σ H s)(u:Un (gP X.stack) ch H H' s.heap h')(hok:HOk X.prog X.w H' h')(hg:AllBare g')
  (hch:∀b∈ch,(b∈X.ex\/X.s₀.heap.objs.size<=b)/\b≠X.env.locals/\(∀x c,X.env.cells.lookup x=ae c->c≠b)/\∀p∈X.pn++i_,p.1≠b):
  Inv X i_ σ H' {s with heap:=h',gens:=g',drawn:=d',toks:=t'}:=by
 obtain⟨m,⟨o,q,v,i,r⟩,_⟩:=id I.loc;obtain⟨y,f⟩:=u.any i I.free λz=>(hch _ z).2.1 rfl;exact I.step hch (λb o f l a e n=>u.keep b o e n (λz=>(Ar.mp (I.stkSub b z)).elim f l) a) (λb o _ _ a e n=>u.any e n a) (λb o a e n=>u.free b o e n a) (λb o a e=>u.there b o e a) u.tups u.frzs u.tbls (λm' j=>by
  obtain⟨t,h,g,d,k⟩:=j;rw[i]at d;cases d;exact⟨_,h,g,f,k⟩) hok hg
theorem Inv.turned{t':Nat}{it:A'}(I:Inv X i_ σ H s)(k:∀b o,b≠it->s.heap.get? b=ae o->h'.get? b=ae o)(hn:H it=af)(hL:it≠X.env.locals)
  (h1:it∈X.ex\/X.s₀.heap.objs.size<=it) (h2:∀x c,X.env.cells.lookup x=ae c->c≠it) (h3:∀p∈X.pn++i_,p.1≠it):Inv X i_ σ H {s with heap:=h',toks:=t'}:=by
 have d:∀b u,H b=ae u->b≠it:=λb u e z=>by simp_all
 refine I.step (ch:=[it]) (λb j=>?_) (λb o _ _ a e _=>k b o (λz=>a (by simp[z])) e) (λb o _ _ a e _=>⟨_,k b o (λz=>a (by simp[z])) e⟩) (λ_ _ _ _ n=>n)
  (λb o a e=>⟨o,k b o (λz=>a (by simp[z])) e⟩) (λ_ _ e=>e) (λ_ _ _ e=>e) (λb l e=>⟨#[],by rw[e];simp⟩) (λm f=>?_) (λb u e=>?_) I.bare
 ·have e:=by simpa using j
  subst e;exact⟨h1,hL,h2,h3⟩
 ·obtain⟨o,g,i,h,r⟩:=f;exact⟨o,g,i,k _ o (Ne.symm hL) h,r⟩
 ·refine(I.hok b u e).stay (λc v a=>k c v ?_) (λ_ q=>q) λ_ _ q=>q;rcases a with z|z
  ·rw[z];exact d b u e
  ·exact d c _ z
theorem Inv.tok(I:Inv X i_ σ H s)(t:Nat):Inv X i_ σ H {s with toks:=t}:=I.un Un.refl I.hok
theorem Inv.kept{t':Nat}(I:Inv X i_ σ H s)(k:∀b u,s.heap.get? b=ae u->h'.get? b=ae u):Inv X i_ σ H {s with heap:=h',toks:=t'}:=I.un (Un.kept k) (I.hok.kept k)
theorem Inv.laid{a:A'}{o:HO}{t':Nat}(I:Inv X i_ σ H s)(k:∀b u,s.heap.get? b=ae u->h'.get? b=ae u)(hp:s.heap.objs.size<=a)(new:ObjOk X.prog X.w (upd H a o) h' a o):
  Inv X i_ σ (upd H a o) {s with heap:=h',toks:=t'}:=I.un (Un.laid k hp (I.hok.fresh hp)) (I.hok.laid k hp new)
theorem Inv.write{x e:A'}{o:HO}{t':Nat}(I:Inv X i_ σ H s)(mu:mK (H x))(he:e=x\/H e=ae (.own x))(k:∀b u,b≠e->s.heap.get? b=ae u->h'.get? b=ae u)(heo:∃u,h'.get? e=ae u)
  (new:ObjOk X.prog X.w (upd H x o) h' x o):Inv X i_ σ (upd H x o) {s with heap:=h',toks:=t'}:=I.un (Un.write mu he k heo) (I.hok.write mu he k heo new)
theorem Inv.pins_of{pins':List (A'×Obj)}(I:Inv X i_ σ H s)(h:∀p∈pins',s.heap.get? p.1=ae p.2/\H p.1=af/\p.1≠X.env.locals/\p.1∉X.fs/\∀v,p.2.data≠.cell v):Inv X pins' σ H s:=
 ⟨I.ok,I.os,I.bare,I.base,I.loc,I.cell,I.free,I.freeC,λp a=>(A4.mp a).elim (λz=>I.pin p (C4 _ z)) (h p),I.hok,I.len⟩
theorem CA{N:List Str}(hN:N.Nodup){i j:Nat}{x:Str}(a:N[i]?=ae x)(b:N[j]?=ae x):i=j:=by
 obtain⟨f,d⟩:=Ap.mp a;obtain⟨e,c⟩:=Ap.mp b;exact(Fo hN).mp (d.trans c.symm)
theorem y9{M:Model}{A:Bo}{E:Af->Ai->Prop}{i:Nat}{x:Str}{v:V}{u:Af}{Q:Unit->Ai->Prop}(I:Inv X i_ σ H s)(hN:X.N.Nodup)(hi:X.N[i]?=ae x)(hx:fA X.env.scope x)(r:RelV v u)
  (h:∀s',Inv X i_ (σ.set i (ae v)) H s'->(∃a,C6 a s.heap s'.heap/\(a=X.env.locals\/X.env.cells.lookup x=ae a))->Q () s') (hf:X.fn x=ah\/X.env.scope.names.lookup x=ae .local):A2 M A (storeName X.env x u) Q E s:=by
 obtain⟨m,hn,hl⟩:=id I.loc;have O:(X.env.scope.kind==.class || (X.env.scope.kind==.module&&X.env.locals != X.env.globals))=ai:=I.ok.kind▸rfl;have R:i < σ.length:=I.len▸(Ap.mp hi).1;have L:=I.cne;have l:∀{a:A'}{h':Heap},(∃o,s.heap.get? a=ae o/\H a=af)->C6 a s.heap h'->HOk X.prog X.w H h':=λ{a h'} ha f b ob e=>by
  obtain⟨_,_,C⟩:=ha;refine(I.hok b ob e).stay (λc w' B=>(f.2 c ?_).trans) (λ_ q=>q) λ_ _ q=>q
  rintro rfl
  rcases B with rfl|B
  ·rw[C]at e;cases e
  ·rw[C]at B;trivial
 rcases hx with G|G
 ·refine wpAny_storeName_local G hn (λh' hn' f=>?_) O;obtain⟨oL,_,_,hoL,_⟩:=id hn;refine h _ ⟨I.ok,I.os,I.bare,⟨λb o e n K hx=>?_,λb o e n K hx=>?_,I.base.free,λb o e hx=>?_,I.base.tups,I.base.frzs,I.base.tbls⟩,⟨_,hn',λj y v' t D e3=>?_⟩,λy c e=>?_,I.free,I.freeC,λp hp=>?_,l ⟨oL,hoL,I.free⟩ f,by simpa using I.len⟩ ⟨_,f,.inl rfl⟩
  ·exact(f.2 b (Bd (Bn (Aw e) I.ok.above))).trans (I.base.keep b o e n K hx)
  ·obtain⟨sl,t⟩:=I.base.slot b o e n K hx;exact⟨sl,(f.2 b (Bd (Bn (Aw e) I.ok.above))).trans t⟩
  ·obtain⟨o',t⟩:=I.base.there b o e hx;exact⟨o',(f.2 b (Bd (Bn (Aw e) I.ok.above))).trans t⟩
  ·by_cases J:j=i
   ·subst J;rw[hi]at t;cases t;rw[Dq R]at D;cases D;exact⟨u,r,.inl ⟨G,by simp⟩⟩
   ·rw[Bg (Ne.symm J)]at D;obtain⟨Z,r',q⟩:=hl j y v' t D e3;refine⟨Z,r',?_⟩;rcases q with⟨k,e⟩|⟨k,c,e,z⟩
    ·refine .inl ⟨k,?_⟩;have:y≠x:=λe=>J (CA hN t (e▸hi));simp[this,e]
    ·exact .inr ⟨k,c,e,z.sameBut f (L y c e)⟩
  ·obtain⟨w',z⟩:=I.cell y c e;exact⟨w',z.sameBut f (L y c e)⟩
  ·obtain⟨e,n,T,Y,d⟩:=I.pin p hp;exact⟨(f.2 p.1 T).trans e,n,T,Y,d⟩
 ·have F:X.fn x=ah:=by
   rcases hf with z|z
   ·exact z
   ·rw[z]at G;trivial
  obtain⟨c,B⟩:=I.ok.has x (.inl G);obtain⟨w',z⟩:=I.cell x c B;refine wpAny_storeName_cell I.ok.kind G B z (λh' S f=>?_);obtain⟨oc,hoc,hocd⟩:=id z;refine h {s with heap:=h'} ⟨I.ok,I.os,I.bare,⟨λb o e n K hx=>?_,λb o e n K hx=>?_,I.base.free,λb o e hx=>?_,I.base.tups,I.base.frzs,I.base.tbls⟩,⟨m,hn.sameBut f (Ne.symm (L x c B)),λj y v' t D e3=>?_⟩,λy U e=>?_,I.free,I.freeC,λp hp=>?_,l ⟨oc,hoc,I.freeC x c B⟩ f,by simpa using I.len⟩ ⟨c,f,.inr B⟩
  ·exact(f.2 b (Bd (Bn (Aw e) (I.ok.cab x c F B)))).trans (I.base.keep b o e n K hx)
  ·obtain⟨sl,t⟩:=I.base.slot b o e n K hx;exact⟨sl,(f.2 b (Bd (Bn (Aw e) (I.ok.cab x c F B)))).trans t⟩
  ·obtain⟨o',t⟩:=I.base.there b o e hx;exact⟨o',(f.2 b (Bd (Bn (Aw e) (I.ok.cab x c F B)))).trans t⟩
  ·by_cases J:j=i
   ·subst J;rw[hi]at t;cases t;rw[Dq R]at D;cases D;exact⟨u,r,.inr ⟨.inl G,c,B,S⟩⟩
   ·rw[Bg (Ne.symm J)]at D;obtain⟨Z,r',q⟩:=hl j y v' t D e3;refine⟨Z,r',?_⟩;rcases q with q|⟨k,U,e,z'⟩
    ·exact .inl q
    ·refine .inr ⟨k,U,e,z'.sameBut f ?_⟩
     rintro rfl
     exact J (CA hN t (I.ok.inj _ _ _ e B▸hi))
  ·by_cases P:U=c
   ·subst P;exact⟨_,S⟩
   ·obtain⟨w2,z2⟩:=I.cell y U e;exact⟨w2,z2.sameBut f P⟩
  ·obtain⟨e,n,T,Y,d⟩:=I.pin p hp;refine⟨(f.2 p.1 ?_).trans e,n,T,Y,d⟩;intro q;simp_all
theorem zA{M:Model}{A:Bo}{E:Af->Ai->Prop}{i:Nat}{x:Str}{v:V}{u:Af}{Q:Unit->Ai->Prop}(I:Inv X i_ σ H s)(hN:X.N.Nodup)(hi:X.N[i]?=ae x)(hx:fA X.env.scope x)(r:RelV v u)
  (h:∀s',Inv X i_ (σ.set i (ae v)) H s'->Q () s') (hf:X.fn x=ah\/X.env.scope.names.lookup x=ae .local):A2 M A (storeName X.env x u) Q E s:=
 y9 I hN hi hx r (λs' a _=>h s' a) hf
theorem Inv.call'{s':Ai}{ch:List A'}(I:Inv X i_ σ H s)(ho:s'.os=s.os)(u:Un (gP X.stack) ch H H' s.heap s'.heap)(hok:HOk X.prog X.w H' s'.heap)(hg:AllBare s'.gens)
  (hch:∀b∈ch,(b∈X.ex\/X.s₀.heap.objs.size<=b)/\b≠X.env.locals/\(∀x c,X.env.cells.lookup x=ae c->c≠b)/\∀p∈X.pn++i_,p.1≠b):Inv X i_ σ H' s':=by
 obtain⟨a,_⟩:=s';subst ho;exact I.call u hok hg hch
end
abbrev XK:=Af->Option A'->Hp->Prop
abbrev St:=List (Option V)
abbrev VK:=V->Hp->Prop
abbrev TE:=St->Hp->VK->Prop
abbrev TT:=St->Hp->(Bool->Hp->Prop)->Prop
abbrev TA:=St->Hp->(List V->Hp->Prop)->Prop
structure Ends where
 nx:St->Hp->Prop
 rt:VK
 bk:St->Hp->Prop:=λ_ _=>False
 ct:St->Hp->Prop:=λ_ _=>False
abbrev TS:=Ends->St->Hp->Prop
def EP(X:Cx)(i_:List (A'×Obj))(σ:St)(Q:VK)(u:Af)(s':Ai):Prop:=∃v H',Inv X i_ σ H' s'/\RelV v u/\Q v H'
def TP(X:Cx)(i_:List (A'×Obj))(σ:St)(Q:Bool->Hp->Prop)(b:Bool)(s':Ai):Prop:=∃H',Inv X i_ σ H' s'/\Q b H'
def AP(X:Cx)(i_:List (A'×Obj))(σ:St)(Q:List V->Hp->Prop)(us:List Af)(s':Ai):Prop:=∃vs H',Inv X i_ σ H' s'/\Vals vs us/\Q vs H'
def SP(X:Cx)(i_:List (A'×Obj))(D:Ends)(f:Flow)(s':Ai):Prop:=
 match f with
 |.next=>∃σ' H',Inv X i_ σ' H' s'/\D.nx σ' H'
 |.brk=>∃σ' H',Inv X i_ σ' H' s'/\D.bk σ' H'
 |.cont=>∃σ' H',Inv X i_ σ' H' s'/\D.ct σ' H'
 |.ret u=>∃v σ' H',Inv X i_ σ' H' s'/\RelV v u/\D.rt v H'
def PE(X:Cx)(e:Expr)(t:TE):Prop:=
 ∀(i_:List (A'×Obj))(s:Ai)(σ:St)(H:Hp)(Q:VK),Inv X i_ σ H s->t σ H Q->A2 (A5 X.prog X.w) X.A (eval e X.env) (EP X i_ σ Q) X.xe s
def PT(X:Cx)(e:Expr)(t:TT):Prop:=
 ∀(i_:List (A'×Obj))(s:Ai)(σ:St)(H:Hp)(Q:Bool->Hp->Prop),Inv X i_ σ H s->t σ H Q->A2 (A5 X.prog X.w) X.A (isTrue e X.env (eval e X.env)) (TP X i_ σ Q) X.xe s
def PW(X:Cx)(e:Expr)(t:TT):Prop:=
 ∀(whole:Sem Af)(i_:List (A'×Obj))(s:Ai)(σ:St)(H:Hp)(Q:Bool->Hp->Prop),Inv X i_ σ H s->t σ H Q->A2 (A5 X.prog X.w) X.A (isTrue e X.env whole) (TP X i_ σ Q) X.xe s
theorem PW.pt{X:Cx}{e:Expr}{t:TT}(h:PW X e t):PT X e t:=h _
def PA(X:Cx)(es:List Expr)(t:TA):Prop:=
 ∀(pos:Pos)(i_:List (A'×Obj))(s:Ai)(σ:St)(H:Hp)(Q:List V->Hp->Prop),Inv X i_ σ H s->t σ H Q->A2 (A5 X.prog X.w) X.A (spliced (C0 pos (Aq es X.env))) (AP X i_ σ Q) X.xe s
def PS(X:Cx)(st:Stmt)(t:TS):Prop:=
 ∀(i_:List (A'×Obj))(s:Ai)(σ:St)(H:Hp)(D:Ends),Inv X i_ σ H s->t D σ H->A2 (A5 X.prog X.w) X.A (exec st X.env) (SP X i_ D) X.xe s
def PSs(X:Cx)(st:List Stmt)(t:TS):Prop:=
 ∀(i_:List (A'×Obj))(s:Ai)(σ:St)(H:Hp)(D:Ends),Inv X i_ σ H s->t D σ H->A2 (A5 X.prog X.w) X.A (execs st X.env) (SP X i_ D) X.xe s
theorem aL{α:Type}{t:Sem α}{Q Q':α->Ai->Prop}{M:Model}{A:Bo}{E:Af->Ai->Prop}{s:Ai}(h:A2 M A t Q E s)(hQ:∀a s,Q a s->Q' a s):A2 M A t Q' E s:=C8 h hQ λ_ _ x=>x
section
variable{X:Cx}
theorem bin{a b:Expr}{ta tb:TE}(ha:PE X a ta)(hb:PE X b tb){i_:List (A'×Obj)}{s:Ai}{σ:St}{H:Hp}{R:V->V->Hp->Prop}(I:Inv X i_ σ H s)(h:ta σ H λx H1=>tb σ H1 λy H2=>R x y H2)
  {α:Type} {Q:α->Ai->Prop} {f:Af->Af->Sem α}
  (hf:∀v u s2 x y H2,Inv X i_ σ H2 s2->RelV x v->RelV y u->R x y H2->A2 (A5 X.prog X.w) X.A (f v u) Q X.xe s2):
  A2 (A5 X.prog X.w) X.A (eval a X.env) (λv s_=>A2 (A5 X.prog X.w) X.A (eval b X.env) (λu t_=>A2 (A5 X.prog X.w) X.A (f v u) Q X.xe t_) X.xe s_) X.xe s:=by
 refine aL (ha i_ s σ H _ I h) λv g ⟨x,H1,d,i,c⟩=>aL (hb i_ g σ H1 _ d c) λu s2 w=>?_;obtain⟨y,H2,e,k,j⟩:=w;exact hf v u s2 x y H2 e i k j
def aI(i:Nat):TE:=λσ H Q=>∃v,σ[i]?=ae (ae v)/\Q v H
def tC(v:V):TE:=λ_ H Q=>Q v H
theorem eS{i:Nat}{x:Str}{pos:Pos}(hN:X.N[i]?=ae x)(hv:dY X.env.scope x)(hd:(x==("__debug__":Str))=ai)(r_:(x==("__classdict__":Str))=ai):PE X (.Name x pos) (aI i):=by
 intro f s σ H Q I h;obtain⟨v,e,h⟩:=h;obtain⟨m,n,j⟩:=I.loc;obtain⟨u,r,l⟩:=j i x v hN e hv;have d:EP X f σ Q u s:=⟨v,H,I,r,h⟩;rcases l with⟨b,k⟩|⟨b,c,g,a⟩
 ·exact wpAny_Name (wpAny_loadName_local I.ok.kind b n k d) hd
 ·rcases b with b|b
  ·exact wpAny_Name (wpAny_loadName_cell I.ok.kind b g a d) hd
  ·exact wpAny_Name (wpAny_loadName_free I.ok.kind b g a d r_) hd
theorem b4{i j pos}:PE X (.Constant (.int i) j pos) (tC (.int i)):=λ_ _ _ H _ I h=>wpAny_Constant_int ⟨.int i,H,I.tok _,⟨_,rfl⟩,h⟩
theorem AE{b j pos}:PE X (.Constant (.bool b) j pos) (tC (.bl b)):=λ_ _ _ H _ I h=>Constant_bool ⟨.bl b,H,I,rfl,h⟩
theorem kL{j pos}:PE X (.Constant .none j pos) (tC .non):=λ_ _ _ H _ I h=>Constant_none ⟨.non,H,I,rfl,h⟩
theorem MG{x j pos}:PE X (.Constant (.str x) j pos) (tC (.str x)):=λ_ _ _ H _ I h=>Calls.Constant_str ⟨.str x,H,I.tok _,⟨_,rfl⟩,h⟩
def Gl(X:Cx)(x:Str):Prop:=X.env.kindOf x=ae .globalImplicit
theorem wJ{E:Af->Ai->Prop}{i_:List (A'×Obj)}{s:Ai}{σ:St}{H:Hp}{x:Str}{u:Af}{pos:Pos}{Q:Af->Ai->Prop}(I:Inv X i_ σ H s)(hg:Gl X x)(hm:X.mg x=ae u)(h:Q u s)
  (hd:(x==("__debug__":Str))=ai):A2 (A5 X.prog X.w) X.A (eval (.Name x pos) X.env) Q E s:=
 Calls.Name_function_global I.ok.kind hg (Calls.loadGlobal_global (I.ok.glob▸I.mod.glob.keeps I.bk) hm h) hd
theorem k9{E:Af->Ai->Prop}{i_:List (A'×Obj)}{s:Ai}{σ:St}{H:Hp}{x:Str}{u:Af}{pos:Pos}{Q:Af->Ai->Prop}(I:Inv X i_ σ H s)(hg:Gl X x)(hm:X.mg x=af)(hv:Bw x=ae u)(h:Q u s)
  (hn:x≠"__name__":=by decide) (hd:(x==("__debug__":Str))=ai:=by decide):A2 (A5 X.prog X.w) X.A (eval (.Name x pos) X.env) Q E s:=by
 obtain⟨c,b,a⟩:=I.mod.blt;exact Calls.Name_function_global I.ok.kind hg (Calls.loadGlobal_builtin (I.ok.glob▸I.mod.glob.keeps I.bk) hm (I.ok.blt▸b.keeps I.bk) ((a x hn).trans hv) h) hd
theorem v7{x:Str}{v:V}{u:Af}{pos:Pos}(hg:Gl X x)(hm:X.mg x=ae u)(r:RelV v u)(hd:(x==("__debug__":Str))=ai):PE X (.Name x pos) (tC v):=
 λ_ _ _ H _ I h=>wJ I hg hm ⟨v,H,I,r,h⟩ hd
theorem Oi{x:Str}{v:V}{u:Af}{pos:Pos}(hg:Gl X x)(hm:X.mg x=af)(hv:Bw x=ae u)(r:RelV v u)(hn:x≠"__name__")(hd:(x==("__debug__":Str))=ai):PE X (.Name x pos) (tC v):=
 λ_ _ _ H _ I h=>k9 I hg hm hv ⟨v,H,I,r,h⟩ hn hd
variable{a b:Expr}{ta tb:TE}{pos:Pos}
def PC(X:Cx)(op:CmpOp)(a b:Expr)(t:TE):Prop:=
 ∀(i_:List (A'×Obj))(s:Ai)(σ:St)(H:Hp)(Q:VK),Inv X i_ σ H s->t σ H Q->
  A2 (A5 X.prog X.w) X.A (eval a X.env) (λv s_=>A2 (A5 X.prog X.w) X.A (eval b X.env) (λu t_=>A2 (A5 X.prog X.w) X.A (B3 op v u) (EP X i_ σ Q) X.xe t_) X.xe s_) X.xe s
theorem yP(b:Expr){op:CmpOp}(h:op≠.In)(h2:op≠.NotIn):Cm op b=ai:=by
 have c:(op==CmpOp.In)=ai:=by cases op<;>first|rfl|exact g_ rfl h
 have a:(op==CmpOp.NotIn)=ai:=by cases op<;>first|rfl|exact g_ rfl h2
 cases b<;>simp[Cm,c,a]
def tB(t:TE):TT:=λσ H Q=>t σ H λx H1=>∃c,x=.bl c/\Q c H1
theorem yx{op:CmpOp}{t:TE}(h:PC X op a b t)(h1:Cm op b=ai:=by first|exact yP _ ∎ ∎|rfl):PE X (.Compare a [op] [b] pos) t:=λi_ s σ H Q I d=>wpAny_Compare1 (h i_ s σ H Q I d) h1
theorem yb{op:CmpOp}{t:TE}(h:PC X op a b t)(h1:Cm op b=ai:=by first|exact yP _ ∎ ∎|rfl):PT X (.Compare a [op] [b] pos) (tB t):=by
 intro e s σ H Q I k;refine wpAny_isTrue_Compare1 (aL (h e s σ H _ I k) λv n h1=>aL h1 λu m f=>aL f λc o u=>?_) h1;obtain⟨x,i,j,l,g⟩:=u;obtain⟨d,rfl,q⟩:=g;cases l;exact Ee ⟨i,j,q⟩
theorem zR{e:Expr}{t:TE}(h:PE X e t)(he:∀whole,isTrue e X.env whole=(do let v <-whole;standAt e.pos;holding [v] (truthy v))):PT X e (tB t):=by
 intro a s σ H Q I f;refine isTrue_plain (aL (h a s σ H _ I f) λv j u=>?_) (he _);obtain⟨x,i,c,g,b⟩:=u;obtain⟨d,rfl,q⟩:=b;cases g;exact Ee ⟨i,c,q⟩
variable{tA tB':TT}{aA:List Expr}
def jM(t u:TT):TT:=λσ H Q=>t σ H λc H1=>if c=ah then u σ H1 Q else Q ai H1
def BZ(t u:TT):TT:=λσ H Q=>t σ H λc H1=>if c=ah then Q ah H1 else u σ H1 Q
def kD(t:TT):TT:=λσ H Q=>t σ H λc H1=>Q (!c) H1
theorem wO(ha:PT X a tA):PW X (.BoolOp .And [a] pos) tA:=by
 intro d b s σ H Q I h;refine isTrue_and (aL (ha b s σ H Q I h) λc f e=>?_);cases c with
 |true=>exact isTrue_and_nil e
 |false=>exact e
theorem OB(ha:PT X a tA):PW X (.BoolOp .Or [a] pos) tA:=by
 intro d b s σ H Q I h;refine isTrue_or (aL (ha b s σ H Q I h) λc f e=>?_);cases c with
 |false=>exact isTrue_or_nil e
 |true=>exact e
theorem EE(ha:PT X a tA)(hb:PW X (.BoolOp .And (b::aA) pos) tB'):PW X (.BoolOp .And (a::b::aA) pos) (jM tA tB'):=by
 intro i d s σ H Q I h;refine isTrue_and (aL (ha d s σ H _ I h) λc j u=>?_);obtain⟨g,f,e⟩:=u;cases c with
 |true=>exact hb i d j σ g Q f e
 |false=>exact⟨g,f,e⟩
theorem Oc(ha:PT X a tA)(hb:PW X (.BoolOp .Or (b::aA) pos) tB'):PW X (.BoolOp .Or (a::b::aA) pos) (BZ tA tB'):=by
 intro i d s σ H Q I h;refine isTrue_or (aL (ha d s σ H _ I h) λc j u=>?_);obtain⟨g,f,e⟩:=u;cases c with
 |true=>exact⟨g,f,e⟩
 |false=>exact hb i d j σ g Q f e
theorem xV(ha:PT X a tA):PT X (.UnaryOp .Not a pos) (kD tA):=λi_ s σ H Q I h=>isTrue_not (ha i_ s σ H _ I h)
def z8(ta tb:TE):TE:=λσ H Q=>ta σ H λx H1=>∃c,x=.bl c/\if c=ah then tb σ H1 Q else Q (.bl ai) H1
def mR(ta tb:TE):TE:=λσ H Q=>ta σ H λx H1=>∃c,x=.bl c/\if c=ah then Q (.bl ah) H1 else tb σ H1 Q
def BD(ta:TE):TE:=λσ H Q=>ta σ H λx H1=>∃c,x=.bl c/\Q (.bl (!c)) H1
theorem HL{op}{t:TE}(h:PE X a t):PE X (.BoolOp op [a] pos) t:=λi_ s σ H Q I c=>BoolOp_one (h i_ s σ H Q I c)
theorem QT(ha:PE X a ta)(hb:PE X (.BoolOp .And (b::aA) pos) tb):PE X (.BoolOp .And (a::b::aA) pos) (z8 ta tb):=by
 intro d s σ H Q I h;refine BoolOp_and (aL (ha d s σ H _ I h) λv j u=>?_);obtain⟨x,f,g,i,e⟩:=u;obtain⟨c,rfl,e⟩:=e;cases i;refine Ee ?_;cases c with
 |true=>exact hb d j σ f Q g e
 |false=>exact⟨.bl ai,f,g,rfl,e⟩
theorem NR(ha:PE X a ta)(hb:PE X (.BoolOp .Or (b::aA) pos) tb):PE X (.BoolOp .Or (a::b::aA) pos) (mR ta tb):=by
 intro d s σ H Q I h;refine BoolOp_or (aL (ha d s σ H _ I h) λv j u=>?_);obtain⟨x,f,g,i,e⟩:=u;obtain⟨c,rfl,e⟩:=e;cases i;refine Ee ?_;cases c with
 |false=>exact hb d j σ f Q g e
 |true=>exact⟨.bl ah,f,g,rfl,e⟩
theorem QY(ha:PE X a ta):PE X (.UnaryOp .Not a pos) (BD ta):=by
 intro b s σ H Q I h;refine UnaryOp_ (aL (ha b s σ H _ I h) λv i u=>?_);obtain⟨x,g,e,f,d⟩:=u;obtain⟨c,rfl,d⟩:=d;cases f;exact not_of (Ee ⟨.bl _,g,e,rfl,d⟩)
def FC(t:TT)(ta tb:TE):TE:=λσ H Q=>t σ H λc H1=>if c=ah then ta σ H1 Q else tb σ H1 Q
theorem Ph{c:Expr}(hc:PT X c tA)(ha:PE X a ta)(hb:PE X b tb):PE X (.IfExp c a b pos) (FC tA ta tb):=by
 intro e s σ H Q I h;refine wpAny_IfExp (aL (hc e s σ H _ I h) λd i u=>?_);obtain⟨j,g,f⟩:=u;cases d with
 |true=>exact ha e i σ j Q g f
 |false=>exact hb e i σ j Q g f
end
def SqL(K:Ag)(H:Hp)(a:A')(xs:List V):Prop:=
 Rd H a (.lst xs) \/
  ∃(o:Obj)(i':Array Af)(n:Nat),K.lookup a=ae o/\o.cls=.type "list"/\o.dict=af/\o.data=.seq i' n/\i'.size<=Av/\Vals xs i'.toList
def SqT(K:Ag)(H:Hp)(a:A')(xs:List V):Prop:=
 Rd H a (.tup xs) \/
  ∃(o:Obj)(i':Array Af)(n:Nat),K.lookup a=ae o/\o.cls=.type "tuple"/\o.data=.seq i' n/\i'.size<=Av/\Vals xs i'.toList
def vN:Af->Option V
 |.none=>ae .non
 |.bool b=>ae (.bl b)
 |.int i _=>ae (.int i)
 |.str x _=>ae (.str x)
 |.bytes b _=>ae (.byt b)
 |.float b _=>ae (.flt b)
 |.ref a=>ae (.ref a)
 |.type n=>ae (.ty n)
 |_=>af
theorem RelV.abs{x:V}{u:Af}(r:RelV x u):vN u=ae x:=by
 cases x with
 |non=>cases r;rfl
 |bl _=>cases r;rfl
 |int _=>obtain⟨t,rfl⟩:=r;rfl
 |str _=>obtain⟨t,rfl⟩:=r;rfl
 |byt _=>obtain⟨t,rfl⟩:=r;rfl
 |flt _=>obtain⟨t,rfl⟩:=r;rfl
 |ref _=>cases r;rfl
 |ty _=>cases r;rfl
theorem RelV.inj{x y:V}{u:Af}(r:RelV x u)(q:RelV y u):x=y:=B2 (r.abs.symm.trans q.abs)
theorem Vals.inj:∀{xs ys:List V}{us:List Af},Vals xs us->Vals ys us->xs=ys
 |_,_,_,.nil,.nil=>rfl
 |_,_,_,.cons r t,.cons b a=>by rw[r.inj b,Vals.inj t a]
section
variable{X:Cx}{i_:List (A'×Obj)}{σ:St}{H:Hp}{s:Ai}{a:A'}{xs ys:List V}
theorem SqL.of{K:Ag}(h:H a=ae (.lst xs)):SqL K H a xs:=.inl (.inl h)
theorem SqT.of{K:Ag}(h:H a=ae (.tup xs)):SqT K H a xs:=.inl (.inl h)
theorem Inv.list(I:Inv X i_ σ H s)(h:SqL X.K H a xs):∃i':List Af,Vals xs i'/\PlainL s.heap a i'.toArray/\xs.length<=Av:=by
 rcases h with h|⟨o,i',n,d,b,c,f,g,r⟩
 ·obtain⟨z,i',n,r,e⟩:=h.ok I.hok;exact⟨i',r,⟨_,n,e,rfl,rfl,rfl⟩,z⟩
 ·refine⟨_,r,⟨o,n,I.kIn a o d,b,c,by omega⟩,?_⟩;have e:=r.length;simp_all<;>omega
theorem Inv.tuple(I:Inv X i_ σ H s)(h:SqT X.K H a xs):∃i':List Af,Vals xs i'/\IsTup s.heap a i'.toArray/\xs.length<=Av:=by
 rcases h with h|⟨o,i',n,c,b,d,f,r⟩
 ·obtain⟨z,i',r,p⟩:=h.ok I.hok;exact⟨i',r,p.tup,z⟩
 ·refine⟨_,r,⟨o,I.kIn a o c,b,n,by omega⟩,?_⟩;have e:=r.length;simp_all<;>omega
theorem Inv.list_inj(I:Inv X i_ σ H s)(h:SqL X.K H a xs)(h':SqL X.K H a ys):xs=ys:=by
 obtain⟨j,r,⟨o,n,e,_,_,d⟩,_⟩:=I.list h;obtain⟨b,g,⟨k,l,c,_,_,f⟩,_⟩:=I.list h';rw[e]at c;cases c;rw[d]at f;injection f with i _;have:=by simpa using congrArg Array.toList i
 subst this;exact r.inj g
theorem Inv.tuple_inj(I:Inv X i_ σ H s)(h:SqT X.K H a xs)(h':SqT X.K H a ys):xs=ys:=by
 obtain⟨j,r,⟨o,e,_,n,d⟩,_⟩:=I.tuple h;obtain⟨b,g,⟨k,c,_,l,f⟩,_⟩:=I.tuple h';rw[e]at c;cases c;rw[d]at f;injection f with i _;have:=by simpa using congrArg Array.toList i
 subst this;exact r.inj g
end
abbrev Cx.wish(X:Cx)(E:Af->Ai->Prop):Cx:={ X with xe:=E}
abbrev Cx.nox(X:Cx):Cx:=X.wish λ_ _=>False
theorem Cx.Ok.wish{X:Cx}(ok:X.Ok)(E:Af->Ai->Prop):(X.wish E).Ok:=
 ⟨ok.mod,ok.kind,ok.glob,ok.blt,ok.above,ok.inj,ok.has,ok.cab,ok.hd,ok.frames,ok.stk,ok.exf,ok.bs,ok.bsz,ok.noex,ok.exfs,ok.funs,ok.frf⟩
theorem Cx.Ok.unwish{X:Cx}{E:Af->Ai->Prop}(ok:(X.wish E).Ok):X.Ok:=
 ⟨ok.mod,ok.kind,ok.glob,ok.blt,ok.above,ok.inj,ok.has,ok.cab,ok.hd,ok.frames,ok.stk,ok.exf,ok.bs,ok.bsz,ok.noex,ok.exfs,ok.funs,ok.frf⟩
section
variable{X:Cx}{i_:List (A'×Obj)}{σ:St}{H:Hp}{s:Ai}{E:Af->Ai->Prop}
theorem Inv.wish(I:Inv X i_ σ H s)(E:Af->Ai->Prop):Inv (X.wish E) i_ σ H s:=⟨I.ok.wish E,I.os,I.bare,I.base,I.loc,I.cell,I.free,I.freeC,I.pin,I.hok,I.len⟩
theorem Inv.unwish(I:Inv (X.wish E) i_ σ H s):Inv X i_ σ H s:=⟨I.ok.unwish,I.os,I.bare,I.base,I.loc,I.cell,I.free,I.freeC,I.pin,I.hok,I.len⟩
theorem SP.unwish{D:Ends}{f:Flow}{s':Ai}(h:SP (X.wish E) i_ D f s'):SP X i_ D f s':=by
 cases f with
 |next=>obtain⟨b,a,I,q⟩:=h;exact⟨b,a,I.unwish,q⟩
 |brk=>obtain⟨b,a,I,q⟩:=h;exact⟨b,a,I.unwish,q⟩
 |cont=>obtain⟨b,a,I,q⟩:=h;exact⟨b,a,I.unwish,q⟩
 |ret u=>obtain⟨v,b,a,I,r,q⟩:=h;exact⟨v,b,a,I.unwish,r,q⟩
theorem PSs.nox{st:List Stmt}{t:TS}(h:PSs X.nox st t):PSs X st t:=λi_ s σ H D I b=>
 C8 (h i_ s σ H D (I.wish _) b) (λ_ _ q=>q.unwish) λ_ _=>False.elim
end
section
variable{X:Cx}{st:Stmt}{aA:List Stmt}{t u:TS}{e:Expr}{te:TE}{pos:Pos}
def om:TS:=λD σ H=>D.nx σ H
def dO(t u:TS):TS:=λD σ H=>t {D with nx:=u D} σ H
theorem oj:PSs X [] om:=λ_ _ σ H _ I h=>wpAny_execs_nil ⟨σ,H,I,h⟩
theorem fg(h1:PS X st t)(h2:PSs X aA u):PSs X (st::aA) (dO t u):=by
 intro a s σ H D I h;refine wpAny_execs_cons (aL (h1 a s σ H {D with nx:=u D} I h) λf k q=>?_);cases f with
 |next=>
  obtain⟨e,i,j,q⟩:=q;exact h2 a k e i D j q
 |ret v=>exact q
 |brk=>exact q
 |cont=>exact q
theorem kA(h1:PS X st t):PSs X [st] t:=by
 intro a s σ H D I h;refine wpAny_execs_cons (aL (h1 a s σ H D I h) λf g q=>?_);cases f with
 |next=>exact wpAny_execs_nil q
 |ret v=>exact q
 |brk=>exact q
 |cont=>exact q
theorem Inv.quiet{i_:List (A'×Obj)}{σ:St}{H:Hp}{s:Ai}(I:Inv X i_ σ H s):interactive X.env=ai:=by simp[interactive,I.ok.kind]
def mF(te:TE):TS:=λD σ H=>te σ H λ_ H1=>D.nx σ H1
theorem uT(he:PE X e te)(hs:Cy e af pos.line X.env=pure ai):PS X (.Expr e pos) (mF te):=λi_ s σ H D I h=>wpAny_Expr_any (aL (he i_ s σ H _ I h) λv f u=>by obtain⟨x,d,b,g,c⟩:=u;exact ⟨σ,d,b,c⟩) I.quiet hs
def fF(te:TE):TS:=λD σ H=>te σ H D.rt
theorem iV(he:PE X e te):PS X (.Return (ae e) pos) (fF te):=λi_ s σ H D I h=>wpAny_Return_some (aL (he i_ s σ H _ I h) λv g u=>by obtain⟨x,f,b,d,c⟩:=u;exact ⟨x,σ,f,b,d,c⟩)
def gL(c:TT)(t u:TS):TS:=λD σ H=>c σ H λb H1=>if b=ah then t D σ H1 else u D σ H1
theorem mG{c:Expr}{a b:List Stmt}{tc:TT}(hc:PT X c tc)(ha:PSs X a t)(hb:PSs X b u):PS X (.If c a b pos) (gL tc t u):=by
 intro e s σ H D I h;refine wpAny_If (aL (hc e s σ H _ I h) λd i u=>?_);obtain⟨j,g,f⟩:=u;cases d with
 |true=>exact ha e i σ j D g f
 |false=>exact hb e i σ j D g f
end
abbrev TG:=V->St->Hp->(St->Hp->Prop)->Prop
abbrev fm:=List V->St->Hp->(St->Hp->Prop)->Prop
def PG(X:Cx)(target:Expr)(t:TG):Prop:=
 ∀(i_:List (A'×Obj))(s:Ai)(σ:St)(H:Hp)(v:V)(u:Af)(Q:St->Hp->Prop),Inv X i_ σ H s->RelV v u->t v σ H Q->
  A2 (A5 X.prog X.w) X.A (assign target X.env u) (λ_ s'=>∃σ' H',Inv X i_ σ' H' s'/\Q σ' H') X.xe s
def kW(X:Cx)(ts:List Expr)(t:fm):Prop:=
 ∀(i_:List (A'×Obj))(s:Ai)(σ:St)(H:Hp)(vs:List V)(us:List Af)(Q:St->Hp->Prop),Inv X i_ σ H s->Vals vs us->t vs σ H Q->
  A2 (A5 X.prog X.w) X.A (assignInOrder ((Cw ts X.env).map (·.2)) us) (λ_ s'=>∃σ' H',Inv X i_ σ' H' s'/\Q σ' H') X.xe s
abbrev jX:=V->V->V->Hp->(Hp->Prop)->Prop
def nP(X:Cx)(t:jX):Prop:=
 ∀(i_:List (A'×Obj))(s:Ai)(σ:St)(H:Hp)(o i v:V)(ov iv u:Af)(Q:Hp->Prop),Inv X i_ σ H s->RelV o ov->RelV i iv->RelV v u->t o i v H Q->
  A2 (A5 X.prog X.w) X.A (setItem ov iv u) (λ_ s'=>∃H',Inv X i_ σ H' s'/\Q H') X.xe s
section
variable{X:Cx}{pos:Pos}
def dg(i:Nat):TG:=λv σ H Q=>Q (σ.set i (ae v)) H
theorem OY{i:Nat}{x:Str}(hN:X.N.Nodup)(hi:X.N[i]?=ae x)(hx:fA X.env.scope x)(hf:X.fn x=ah\/X.env.scope.names.lookup x=ae .local):PG X (.Name x pos) (dg i):=λi_ s σ H v u Q I r h=>wpAny_assign_Name (zA I hN hi hx r (λs' a=>⟨_,H,a,h⟩) hf)
def nG:fm:=λvs σ H Q=>vs=[]/\Q σ H
def EV(t:TG)(u:fm):fm:=λvs σ H Q=>∃v r,vs=v::r/\t v σ H λσ' H'=>u r σ' H' Q
theorem Ry:kW X [] nG:=by
 intro a s σ H b c Q I r h;obtain⟨e,h⟩:=h;subst e;cases r;exact assignInOrder_nil ⟨σ,H,I,h⟩
theorem SH{e:Expr}{es:List Expr}{t:TG}{u:fm}(h1:PG X e t)(h2:kW X es u)
  (hs:(Cw (e::es) X.env).map (·.2)=assign e X.env::(Cw es X.env).map (·.2)):kW X (e::es) (EV t u):=by
 intro a s σ H k m Q I r h;obtain⟨v,l,j,h⟩:=h;subst j;cases r with
 |cons r c=>
  rw[hs];exact assignInOrder_cons (aL (h1 a s σ H _ _ _ I r h) λ_ i u=>by obtain⟨g,d,f,b⟩:=u;exact h2 a i g d _ _ Q f c b)
def kH(K:Ag)(n:Nat)(t:fm):TG:=λv σ H Q=>∃a xs,v=.ref a/\SqT K H a xs/\xs.length=n/\t xs σ H Q
theorem IQ{es:List Expr}{k:Nat}{t:fm}{n:Nat}(hc:X.calm=ah)(h:kW X es t)
  (hn:(Cw es X.env).length=n) (hst:(Cw es X.env).findIdx? (·.1)=af):PG X (.Tuple es k pos) (kH X.K n t):=by
 intro c s σ H v u Q I r d;obtain⟨a,p,y,l,g,d⟩:=d;subst y;cases r;obtain⟨w,j,i,z⟩:=I.tuple l;refine assign_Tuple_tuple (I.ok.hd hc) i (by simp[hn,<-g,j.length]) hst λh' q=>?_;have m:Inv X c σ H {s with heap:=h'}:=I.kept λb o e=>q b o (Bd (Aw e)) e;exact h c _ σ H p _ Q m ⋯ d
def iA(to ti:TE)(t:jX):TG:=λv σ H Q=>to σ H λo H1=>ti σ H1 λi H2=>t o i v H2 λH3=>Q σ H3
theorem nR{o i:Expr}{to ti:TE}{t:jX}(ho:PE X o to)(hi:PE X i ti)(hs:nP X t)
  (ha:∀v,assign (.Subscript o i pos) X.env v=(do
   let ov <-holding [v] (eval o X.env)
   let iv <-holding [v,ov] (eval i X.env)
   standAt pos
   holding [v,ov,iv] (setItem ov iv v)
   release [v,ov,iv] []):=by intro _;rfl):PG X (.Subscript o i pos) (iA to ti t):=by
 intro a s σ H v u Q I r h;refine Aa (Cb (aL (ho a s σ H _ I h) λov p ⟨x,g,k,m,e⟩=>Aa (Cb (aL (hi a p σ g _ k e) λiv l z=>?_))));obtain⟨y,f,b,n,c⟩:=z;exact Aa (wpAny_standAt (Aa (Cb (aL (hs a l σ f x y v ov iv u _ b m n r c) λ_ w i=>by obtain⟨d,j,q⟩:=i;exact wpAny_release ⟨σ,d,j,q⟩))))
def bw(te:TE)(g:TG):TS:=λD σ H=>te σ H λx H1=>g x σ H1 D.nx
theorem kZ{tg e:Expr}{te:TE}{g:TG}(he:PE X e te)(hg:PG X tg g)(hs:swapsWithSole [tg] e pos.line X.env=pure ai:=by rfl)(hw:swappedStores [tg] e X.env=pure af:=by rfl)
  (h1:(Cw [tg] X.env).map (·.2)=[assign tg X.env]:=by rfl):PS X (.Assign [tg] e pos) (bw te g):=by
 intro a s σ H D I h;refine wpAny_Assign_stores (aL (he a s σ H _ I h) λv d u=>?_) hs hw;obtain⟨x,i,b,f,c⟩:=u;rw[h1];exact aL (hg a d σ i x v _ b f c) λ_ j q=>q
theorem fN{i:Nat}{x:Str}{e:Expr}{te:TE}{pos':Pos}(hN:X.N.Nodup)(hi:X.N[i]?=ae x)(hx:fA X.env.scope x)(he:PE X e te)(hs:Cy e (ae (.Name x pos')) pos.line X.env=pure ai:=by rfl)(hf:X.fn x=ah\/X.env.scope.names.lookup x=ae .local:=by first|exact .inl rfl|exact .inr rfl|assumption):
  PS X (.Assign [.Name x pos'] e pos) (bw te (dg i)):=λi_ s σ H D I h=>wpAny_Assign_Name (aL (he i_ s σ H _ I h) λv j u=>by obtain⟨y,g,c,f,b⟩:=u;exact zA c hN hi hx f (λs2 d=>⟨_,g,d,b⟩) hf) hs
end
section
variable{X:Cx}{pos:Pos}
def yO(c:TT)(tb:TS):TS:=λD σ H=>∃W:Nat->St->Hp->Prop,(∃m,W m σ H)/\∀m σ H,W m σ H->
 c σ H λb H1=>if b=ah then ∃N:St->Hp->Prop,(∀σ' H',N σ' H'->∃m',m' < m/\W m' σ' H')/\tb {D with nx:=N,ct:=N,bk:=D.nx} σ H1 else D.nx σ H1
theorem Nr{c:Expr}{body:List Stmt}{tc:TT}{tb:TS}(hp:PassesOwn (A5 X.prog X.w) X.A X.env X.xe)(hc:PT X c tc)(hb:PSs X body tb):PS X (.While c body [] pos) (yO tc tb):=by
 intro a s σ H D I h;obtain⟨W,⟨G,E⟩,e⟩:=h;refine wpAny_While (codeAny_whileLoop (λn L=>∃σ' H',Inv X a σ' H' L/\W n σ' H') ?_ G ⟨σ,H,I,E⟩)
 rintro n M ⟨j,y,J,B⟩
 refine Fi hp (aL (hc a M j y _ J (e n j y B)) λb K w=>?_);obtain⟨t,r,i⟩:=w;cases b with
 |true=>
  obtain⟨N,u,i⟩:=i;refine Fi hp (aL (hb a K j t _ r i) λf O k=>?_);cases f with
  |next=>
   obtain⟨g,d,p,m⟩:=k;obtain⟨q,o,l⟩:=u g d m;exact⟨q,o,g,d,p,l⟩
  |cont=>
   obtain⟨g,d,p,m⟩:=k;obtain⟨q,o,l⟩:=u g d m;exact⟨q,o,g,d,p,l⟩
  |brk=>exact k
  |ret v=>exact k
 |false=>
  exact wpAny_execs_nil ⟨j,t,r,i⟩
end
structure It where
 go:Nat->Hp->Prop
 yld:Nat->Hp->V->Hp->Prop
 stop:Nat->Hp->Prop
def cJ(X:Cx)(i_:List (A'×Obj))(H:Hp)(b:A'):Prop:=
 H b=af/\b≠X.env.locals/\b∉X.fs/\(b∈X.ex\/X.s₀.heap.objs.size<=b)/\(∀x c,X.env.cells.lookup x=ae c->c≠b)/\∀p∈X.pn++i_,p.1≠b
theorem Inv.fpOk{X:Cx}{i_:List (A'×Obj)}{σ:St}{H H':Hp}{s:Ai}{b:A'}(I:Inv X i_ σ H s)(hb:s.heap.objs.size<=b)(hn:H' b=af):cJ X i_ H' b:=by
 refine⟨hn,Ft (Bn I.lt hb),I.nofs hb,.inr (A0 I.sz hb),λx c e z=>?_,λp a z=>?_⟩
 ·obtain⟨v,q⟩:=I.cell x c e;exact g_ (Bn q.lt (by simp_all)) (Nat.lt_irrefl _)
 ·exact g_ (Bn (Aw (I.pin p a).1) (by simp_all)) (Nat.lt_irrefl _)
structure Turn(P:A1)(w:Bh)(K:Ag)(tg:Expr)(J:It)(fp:List A')(it:A')(tn:Nat->Heap->Prop):Prop where
 mem:it∈fp
 obj:∀i h,tn i h->∀b∈fp,∃o,h.get? b=ae o/\∀v,o.data≠.cell v
 keep:∀i h h',tn i h->(∀b∈fp,∀o,h.get? b=ae o->h'.get? b=ae o)->tn i h'
 item:∀(X:Cx),X.prog=P->X.w=w->X.K=K->X.calm=ah->∀(i:Nat)(i_:List (A'×Obj))(s:Ai)(σ:St)(H:Hp)(E:Af->Ai->Prop),Inv X i_ σ H s->(∀b∈fp,cJ X i_ H b)->tn i s.heap->J.go i H->
  A2 (A5 P w) X.A (pyNext (.ref it)) (λr s1=>∃u,r=ae u /\
   A2 (A5 P w) X.A (letOwnedTupleGo tg (.ref it) u) (λ_ s2=>∃x H',Inv X i_ σ H' s2/\RelV x u/\J.yld i H x H'/\tn (i+1) s2.heap/\∀b∈fp,H' b=af) E s1) E s
 done:∀(X:Cx),X.prog=P->X.w=w->X.K=K->X.calm=ah->∀(i:Nat)(i_:List (A'×Obj))(s:Ai)(σ:St)(H:Hp)(E:Af->Ai->Prop),Inv X i_ σ H s->(∀b∈fp,cJ X i_ H b)->tn i s.heap->J.stop i H->
  A2 (A5 P w) X.A (pyNext (.ref it)) (λr s1=>r=af/\Inv X i_ σ H s1) E s
 self:∀(A:Bo)(i:Nat)(s:Ai)(Q:Af->Ai->Prop)(E:Af->Ai->Prop),tn i s.heap->Q (.ref it) s->A2 (A5 P w) A (pyIter (.ref it)) Q E s
abbrev TI:=St->Hp->(It->Hp->Prop)->Prop
def EC(X:Cx)(i_:List (A'×Obj))(σ:St)(tg:Expr)(R:It->Hp->Prop)(itv:Af)(s2:Ai):Prop:=
 ∃(it:A')(fp:List A')(tn:Nat->Heap->Prop)(J:It)(H':Hp),itv=.ref it/\Inv X i_ σ H' s2/\Turn X.prog X.w X.K tg J fp it tn/\tn 0 s2.heap/\(∀b∈fp,cJ X i_ H' b)/\R J H'
def PI(X:Cx)(tg iter:Expr)(wi:TI):Prop:=
 ∀(i_:List (A'×Obj))(s:Ai)(σ:St)(H:Hp)(R:It->Hp->Prop),Inv X i_ σ H s->wi σ H R->
  A2 (A5 X.prog X.w) X.A (eval iter X.env) (λv s1=>A2 (A5 X.prog X.w) X.A (pyIter v) (EC X i_ σ tg R) X.xe s1) X.xe s
theorem o3{M:Model}{A:Bo}{E:Af->Ai->Prop}{s:Ai}{tg:Expr}{it:A'}{u:Af}{o:Obj}{n:String}{vs:Array Af}{Q:Unit->Ai->Prop}(ho:s.heap.get? it=ae o)(hc:o.cls=.type n)(hd:o.data=.fields vs)
  (hn:["enumerate","zip","dict_itemiterator","dict_reverseitemiterator","odict_iterator","itertools.zip_longest","itertools.pairwise"].contains n=ai) (hQ:Q () s):A2 M A (letOwnedTupleGo tg (.ref it) u) Q E s:=by
 cases tg<;>first
  |exact Aj hQ
  | (cases u<;>first
    |exact Aj hQ
    | (refine Aa (wpAny_load ho ?_)
       rw[hc,hd];show A2 M A (if _=ah then _ else _) Q E s;rw[a_ (by intro h;rw[hn]at h;cases h)];exact Aj hQ))
def EZ(K:Ag)(a:A'):It:=
 ⟨λi H=>∃xs x,SqL K H a xs/\xs[i]?=ae x,λi H x H'=>H'=H/\∀xs,SqL K H a xs->xs[i]?=ae x,λi H=>∃xs,SqL K H a xs/\xs.length<=i⟩
def za(K:Ag)(a:A'):It:=
 ⟨λi H=>∃xs x,SqT K H a xs/\xs[i]?=ae x,λi H x H'=>H'=H/\∀xs,SqT K H a xs->xs[i]?=ae x,λi H=>∃xs,SqT K H a xs/\xs.length<=i⟩
def pC(lo:Int)(n:Nat):It:=⟨λi _=>i < n,λi H x H'=>H'=H/\x=.int (lo+i),λi _=>n<=i⟩
theorem HG{P:A1}{w:Bh}{K:Ag}{tg:Expr}(a it:A'):Turn P w K tg (EZ K a) [it] it (λi h=>h.IsListIter it a i) where
 mem:=by simp
 obj:=λi h f b j=>by
  have e:b=it:=by simp_all
  subst e;obtain⟨o,e,c,d⟩:=f;exact⟨o,e,λv z=>by simp_all⟩
 keep:=λi h h' f k=>f.at (k it (by simp))
 item:=by
  intro X r B F N i g s σ H E I n f q;subst r B F;obtain⟨T,x,m,L⟩:=q;obtain⟨D,A,p,R⟩:=I.list m;obtain⟨u,Y,V⟩:=A.get L;obtain⟨y,C,Q,t,J,G⟩:=n it (by simp);refine wpAny_pyNext_list_item f p.isList (by simpa using Y) λh' l Z=>?_;have S:Inv X g σ H {s with heap:=h'}:=I.turned (λb o j=>(Z.2 b j).trans) y C t J G;obtain⟨o,e,c,d⟩:=id l;exact⟨u,rfl,o3 e c d ∎ ⟨x,H,S,V,⟨rfl,λys U=>by rw[I.list_inj U m];omega⟩,l,λb j=>(n b j).1⟩⟩
 done:=by
  intro X r B F N i g s σ H E I n f q;subst r B F;obtain⟨T,m,L⟩:=q;obtain⟨D,A,p,R⟩:=I.list m;obtain⟨y,C,Q,t,J,G⟩:=n it (by simp);have hl:=A.length;exact wpAny_pyNext_list_end (I.ok.hd N) f p.isList (by simp;omega) λh' O=>⟨rfl,I.turned (O) y C t J G⟩
 self:=λ_ _ _ _ _=>wpAny_pyIter_listiter
theorem Me{P:A1}{w:Bh}{K:Ag}{tg:Expr}(a it:A'):Turn P w K tg (za K a) [it] it (λi h=>h.IsTupleIter it a i) where
 mem:=by simp
 obj:=λi h f b j=>by
  have e:b=it:=by simp_all
  subst e;obtain⟨o,e,c,d⟩:=f;exact⟨o,e,λv z=>by simp_all⟩
 keep:=λi h h' f k=>f.at (k it (by simp))
 item:=by
  intro X r B F N i g s σ H E I n f q;subst r B F;obtain⟨T,x,m,L⟩:=q;obtain⟨D,A,p,R⟩:=I.tuple m;obtain⟨u,Y,V⟩:=A.get L;obtain⟨y,C,Q,t,J,G⟩:=n it (by simp);refine wpAny_pyNext_tuple_item f (p) (by simpa using Y) λh' l Z=>?_;have S:Inv X g σ H {s with heap:=h'}:=I.turned (λb o j=>(Z.2 b j).trans) y C t J G;obtain⟨o,e,c,d⟩:=id l;exact⟨u,rfl,o3 e c d ∎ ⟨x,H,S,V,⟨rfl,λys U=>by rw[I.tuple_inj U m];omega⟩,l,λb j=>(n b j).1⟩⟩
 done:=by
  intro X r B F N i g s σ H E I n f q;subst r B F;obtain⟨T,m,L⟩:=q;obtain⟨D,A,p,R⟩:=I.tuple m;obtain⟨y,C,Q,t,J,G⟩:=n it (by simp);have hl:=A.length;exact wpAny_pyNext_tuple_end (I.ok.hd N) f (p) (by simp;omega) λh' O=>⟨rfl,I.turned (O) y C t J G⟩
 self:=λ_ _ _ _ _=>wpAny_pyIter_tupleiter
theorem Qn{P:A1}{w:Bh}{K:Ag}{tg:Expr}(it:A')(lo:Int)(n:Nat):Turn P w K tg (pC lo n) [it] it (λi h=>IsRangeIter h it (lo+(i:Nat)*1) ((n:Int)-(i:Nat)) 1) where
 mem:=by simp
 obj:=λi h a b d=>by
  have e:b=it:=by simp_all
  subst e;exact⟨_,a,λv z=>by
   trivial⟩
 keep:=λi h C a k=>k it (by simp) _ a
 item:=by
  intro X x y B q i c s σ H E I g a j;subst x y B;obtain⟨m,p,F,l,u,r⟩:=g it (by simp);refine(Walks.range (prog:=X.prog) (w:=X.w) (I.ok.hd q) it lo 1 n).item i s _ _ j a λv C G L f M=>?_;obtain⟨t,rfl⟩:=L;have J:Inv X c σ H {s with heap:=C,toks:=G}:=I.turned (λb o d=>M b o (by simpa using d)) m p l u r;refine⟨_,rfl,o3 f rfl rfl ∎ ⟨.int _,H,J,⟨t,?_⟩,⟨rfl,rfl⟩,f,λb d=>(g b d).1⟩⟩;simp
 done:=by
  intro X x y B q i c s σ H E I g a j;obtain⟨m,p,F,l,u,r⟩:=g it (by simp);exact wpAny_pyNext_range_end (I.ok.hd q) a (by have:n<=i:=j;omega) λh' D=>⟨rfl,I.turned (D) m p l u r⟩
 self:=λ_ _ _ _ _=>wpAny_pyIter_rangeiter
section
variable{X:Cx}{tg:Expr}
def p5(K:Ag)(tl:TE):TI:=λσ H R=>tl σ H λx H1=>∃a,x=.ref a/\(∃xs,SqL K H1 a xs)/\R (EZ K a) H1
def j1(K:Ag)(tl:TE):TI:=λσ H R=>tl σ H λx H1=>∃a,x=.ref a/\(∃xs,SqT K H1 a xs)/\R (za K a) H1
theorem QZ{l:Expr}{tl:TE}(hl:PE X l tl):PI X tg l (p5 X.K tl):=by
 intro c s σ H R I h;refine aL (hl c s σ H _ I h) λv m v=>?_;obtain⟨x,i,d,j,f⟩:=v;obtain⟨a,e,⟨t,g⟩,q⟩:=f;subst e;cases j;obtain⟨k,n,p,r⟩:=d.list g;refine wpAny_pyIter_list p.isList ⟨_,_,_,_,i,rfl,d.kept λb o=>Ae _,HG a _,⟨_,Au _ rfl,rfl,rfl⟩,λb u=>?_,q⟩;have e:b=m.heap.objs.size:=by simp_all
 subst e;exact d.fpOk (by simp) (d.hok.fresh (by simp))
theorem J4{l:Expr}{tl:TE}(hl:PE X l tl):PI X tg l (j1 X.K tl):=by
 intro c s σ H R I h;refine aL (hl c s σ H _ I h) λv m v=>?_;obtain⟨x,i,d,j,f⟩:=v;obtain⟨a,e,⟨t,g⟩,q⟩:=f;subst e;cases j;obtain⟨k,n,p,r⟩:=d.tuple g;refine D8 (p) ⟨_,_,_,_,i,rfl,d.kept λb o=>Ae _,Me a _,⟨_,Au _ rfl,rfl,rfl⟩,λb u=>?_,q⟩;have e:b=m.heap.objs.size:=by simp_all
 subst e;exact d.fpOk (by simp) (d.hok.fresh (by simp))
theorem Pd{i_:List (A'×Obj)}{σ:St}{H:Hp}{s:Ai}{R:It->Hp->Prop}{E:Af->Ai->Prop}{lo hi:Int}{t u v:Tok}{tk:Nat}(I:Inv X i_ σ H s)(h1:-(2 ^ 62)<=lo)(h2:lo < 2 ^ 62)(h3:-(2 ^ 62)<=hi)(h4:hi < 2 ^ 62)
  (q:R (pC lo (hi-lo).toNat) H):A2 (A5 X.prog X.w) X.A (pyIter (.ref s.heap.objs.size)) (EC X i_ σ tg R) E {s with heap:=s.heap.push {cls:=.type "range",data:=.fields #[.int lo t,.int hi u,.int 1 v]},toks:=tk}:=by
 refine wpAny_pyIter_range (IsRange.new ..) (small_one h1 h2 h3 h4) ?_;have a:Inv X i_ σ H {s with heap:=s.heap.push {cls:=.type "range",data:=.fields #[.int lo t,.int hi u,.int 1 v]},toks:=tk}:=I.kept λb o=>Ae _;refine⟨_,_,_,_,H,rfl,
  a.kept λb o=>Ae _,Qn _ lo (hi-lo).toNat,?_,λb d=>?_,q⟩
 ·have f:lo+((0:Nat):Int)*1=lo:=by simp
  have c:(((hi-lo).toNat:Nat):Int)-((0:Nat):Int)=Builtin.Range.rangeSize lo hi 1:=by rw[rangeSize_one];grind
  rw[f,c];exact Au _ rfl
 ·have e:b=(s.heap.push {cls:=.type "range",data:=.fields #[.int lo t,.int hi u,.int 1 v]}).objs.size:=by simpa using d
  subst e;exact a.fpOk (by simp) (a.hok.fresh (by simp))
def pE(ta:TA):TI:=λσ H R=>ta σ H λvs H1=>∃j:Int,vs=[.int j]/\-(2 ^ 62)<=j/\j < 2 ^ 62/\R (pC 0 j.toNat) H1
theorem Jc{a:Expr}{ta:TA}{p pos:Pos}(hg:Gl X "range")(hm:X.mg "range"=af)(ha:PA X [a] ta)(hs:Aq [a] X.env=[(ai,eval a X.env)]:=by rfl):PI X tg (.Call (.Name "range" p) [a] [] pos) (pE ta):=by
 intro b s σ H R I h;refine Call_ (k9 I hg hm boot_range (E5 (aL (ha pos b s σ H _ I h) λus m u=>?_) hs rfl));obtain⟨k,l,g,i,c⟩:=u;obtain⟨j,e,c,d,q⟩:=c;subst e;cases i with
 |cons r f=>
  cases f;obtain⟨t,rfl⟩:=r;exact call_range_1 (Pd g ⋯ ⋯ c d (by simpa using q))
def gY(wi:TI)(g:TG)(tb:TS):TS:=λD σ H=>wi σ H λJ H1=>∃W:Nat->Nat->St->Hp->Prop,(∃m,W 0 m σ H1)/\∀i m σ H,W i m σ H->
 (J.stop i H/\D.nx σ H)\/(J.go i H/\∃N:St->Hp->Prop,(∀σ' H',N σ' H'->∃m',m' < m/\W (i+1) m' σ' H')/\∀x H',J.yld i H x H'->g x σ H' λσ2 H2=>tb {D with nx:=N,ct:=N,bk:=D.nx} σ2 H2)
def qL(fp:List A')(h:Heap):List (A'×Obj):=fp.filterMap λb=>(h.get? b).map λo=>(b,o)
theorem qS{fp:List A'}{h:Heap}{b:A'}{o:Obj}(hb:b∈fp)(e:h.get? b=ae o):(b,o)∈qL fp h:=Hd.mpr ⟨b,hb,e▸rfl⟩
theorem K1{fp:List A'}{h:Heap}{p:A'×Obj}(hp:p∈qL fp h):p.1∈fp/\h.get? p.1=ae p.2:=by
 obtain⟨b,a,e⟩:=Hd.mp hp;cases q:h.get? b with
 |none=>rw[q]at e;cases e
 |some o=>
  rw[q]at e;have c:=B2 e;subst c;exact⟨a,q⟩
theorem Inv.pinned{i_:List (A'×Obj)}{σ:St}{H:Hp}{s:Ai}{fp:List A'}(I:Inv X i_ σ H s)(hf:∀b∈fp,cJ X i_ H b)(ho:∀b∈fp,∃o,s.heap.get? b=ae o/\∀v,o.data≠.cell v):Inv X (i_++qL fp s.heap) σ H s:=
 I.pins_of λp f=>(A4.mp f).elim (λz=>I.pin p (B1 _ z)) λz=>by
  obtain⟨a,e⟩:=K1 z;obtain⟨h,g,i,_⟩:=hf p.1 a;obtain⟨o,c,d⟩:=ho p.1 a;simp_all<;>omega
theorem Inv.unpinned{i_ pl:List (A'×Obj)}{σ:St}{H:Hp}{s:Ai}(I:Inv X (i_++pl) σ H s):Inv X i_ σ H s:=I.pins_of λp a=>I.pin p (B1 _ (C4 _ a))
theorem JC{iter:Expr}{body:List Stmt}{wi:TI}{g:TG}{tb:TS}{pos:Pos}(hp:PassesOwn (A5 X.prog X.w) X.A X.env X.xe)(hc:X.calm=ah)(hi:PI X tg iter wi)(hg:PG X tg g)(hb:PSs X body tb)
  (hs:∀x,Ef iter X.env x=pure x):PS X (.For tg iter body [] pos) (gY wi g tb):=by
 intro c s σ H D I h;refine wpAny_For (aL (hi c s σ H _ I h) λv s1 h1=>aL h1 λitv s2 h2=>?_) hs;obtain⟨it,P,tn,J,H2,e,I2,T,U,f2,W,⟨m0,w0⟩,L⟩:=h2;subst e
 have t:∀{y:Hp},(∀b∈P,y b=af)->∀b∈P,cJ X c y b:=λhn b hb=>⟨hn b hb,(f2 b hb).2⟩;refine codeAny_forLoop_any (λn s'=>∃i σ' y,Inv X c σ' y s'/\tn i s'.heap/\(∀b∈P,y b=af)/\W i n σ' y) ?_ m0 ⟨0,σ,H2,I2,U,λb hb=>(f2 b hb).1,w0⟩
 rintro n s3 ⟨i,M,Q,Z,K,C,w3⟩
 rcases L i n M Q w3 with⟨G,qn⟩|⟨go,N,hN,O⟩
 ·refine Fi hp (aL (T.done X rfl rfl rfl hc i c s3 M Q X.xe Z (t C) K G) λr s4 w=>?_);obtain⟨S,I4⟩:=w;subst S;exact wpAny_execs_nil ⟨M,Q,I4,qn⟩
 ·refine Fi hp (aL (T.item X rfl rfl rfl hc i c s3 M Q X.xe Z (t C) K go) λr s4 a=>?_);obtain⟨u,S,h4⟩:=a;subst S;refine Fi hp (aL h4 λ_ s5 g=>?_);obtain⟨x,Y,I5,r5,y5,B,V⟩:=g;refine Fi hp (aL (hg _ s5 M Y x u _ (I5.pinned (t V) (T.obj _ _ B)) r5 (O x Y y5)) λ_ s6 ⟨σ6,H6,I6,q6⟩=>Fi hp (aL (hb _ s6 σ6 H6 _ I6 q6) λf R z=>?_));have p:∀{l:St}{q:Hp},Inv X _ l q R->N l q->∃m,m < n/\∃i σ' y,Inv X c σ' y R/\tn i R.heap/\(∀b∈P,y b=af)/\W i m σ' y:=λ{l q} k E=>by
   obtain⟨m',hm,w7⟩:=hN l q E;refine⟨m',hm,i+1,l,q,k.unpinned,T.keep _ _ _ B λb hb o e=>(k.pin _ (B1 _ (B1 _ (qS hb e)))).1,λb hb=>?_,w7⟩;obtain⟨o,e,d⟩:=T.obj _ _ B b hb;exact(k.pin _ (B1 _ (B1 _ (qS hb e)))).2.1
  cases f with
  |next=>obtain⟨l,q,k,E⟩:=z;exact p k E
  |cont=>obtain⟨l,q,k,E⟩:=z;exact p k E
  |brk=>obtain⟨l,q,k,z⟩:=z;exact⟨l,q,k.unpinned,z⟩
  |ret v=>obtain⟨x7,l,q,k,r7,z⟩:=z;exact⟨x7,l,q,k.unpinned,r7,z⟩
end
abbrev R2:=V->V->Hp->VK->Prop
def OpR(X:Cx)(f:Af->Af->Sem Af)(r:R2):Prop:=
 ∀(i_:List (A'×Obj))(s:Ai)(σ:St)(H:Hp)(x y:V)(v u:Af)(Q:VK),Inv X i_ σ H s->RelV x v->RelV y u->r x y H Q->
  A2 (A5 X.prog X.w) X.A (f v u) (EP X i_ σ Q) X.xe s
def uy(X:Cx)(f:Af->Sem Af)(r:V->Hp->VK->Prop):Prop:=
 ∀(i_:List (A'×Obj))(s:Ai)(σ:St)(H:Hp)(x:V)(v:Af)(Q:VK),Inv X i_ σ H s->RelV x v->r x H Q->
  A2 (A5 X.prog X.w) X.A (f v) (EP X i_ σ Q) X.xe s
def CallR(X:Cx)(f:Af)(r:List V->Hp->VK->Prop):Prop:=
 ∀(i_:List (A'×Obj))(s:Ai)(σ:St)(H:Hp)(xs:List V)(us:List Af)(Q:VK),Inv X i_ σ H s->Vals xs us->r xs H Q->
  A2 (A5 X.prog X.w) X.A (call f us) (EP X i_ σ Q) X.xe s
def ue(X:Cx)(r:V->Hp->(Bool->Hp->Prop)->Prop):Prop:=
 ∀(i_:List (A'×Obj))(s:Ai)(σ:St)(H:Hp)(x:V)(v:Af)(Q:Bool->Hp->Prop),Inv X i_ σ H s->RelV x v->r x H Q->
  A2 (A5 X.prog X.w) X.A (truthy v) (TP X i_ σ Q) X.xe s
def cZ(r:R2)(ta tb:TE):TE:=λσ H Q=>ta σ H λx H1=>tb σ H1 λy H2=>r x y H2 Q
def xA(r:V->Hp->VK->Prop)(ta:TE):TE:=λσ H Q=>ta σ H λx H1=>r x H1 Q
def rI(C:Int->Int->Prop)(g:Int->Int->V):R2:=λx y H Q=>∃i j,x=.int i/\y=.int j/\C i j/\Q (g i j) H
def fi(g:Int->Int->V):R2:=λx y H Q=>∃i j,x=.int i/\y=.int j/\Q (g i j) H
def rU(g:Int->V):V->Hp->VK->Prop:=λx H Q=>∃i,x=.int i/\Q (g i) H
section
variable{X:Cx}{a b c:Expr}{ta tb tc:TE}{pos:Pos}
theorem jJ(ha:PE X a ta)(hb:PE X b tb){i_:List (A'×Obj)}{s:Ai}{σ:St}{H:Hp}{R:V->V->Hp->Prop}(I:Inv X i_ σ H s)
  (h:ta σ H λx H1=>tb σ H1 λy H2=>R x y H2) {Q:Af->Ai->Prop} {f:Af->Af->Sem Af}
  (hf:∀v u s2 x y H2,Inv X i_ σ H2 s2->RelV x v->RelV y u->R x y H2->A2 (A5 X.prog X.w) X.A (f v u) Q X.xe s2):
  A2 (A5 X.prog X.w) X.A (eval a X.env) (λv s_=>A2 (A5 X.prog X.w) X.A (eval b X.env) (λu t_=>A2 (A5 X.prog X.w) X.A (f v u) Q X.xe t_) X.xe s_) X.xe s:=by
 refine aL (ha i_ s σ H _ I h) λv g ⟨x,H1,d,i,c⟩=>aL (hb i_ g σ H1 _ d c) λu s2 w=>?_;obtain⟨y,H2,e,k,j⟩:=w;exact hf v u s2 x y H2 e i k j
theorem dD{op:Operator}{r:R2}(ho:OpR X (E9 op) r)(ha:PE X a ta)(hb:PE X b tb):PE X (.BinOp a op b pos) (cZ r ta tb):=λi_ s σ H Q I h=>wpAny_BinOp (jJ ha hb I h λv u f x y e=>ho i_ f σ e x y v u Q)
theorem Jd{op:UnaryOp}{r:V->Hp->VK->Prop}(ho:uy X (unaryOp op) r)(ha:PE X a ta):PE X (.UnaryOp op a pos) (xA r ta):=λi_ s σ H Q I h=>UnaryOp_ (aL (ha i_ s σ H _ I h) λv e u=>by obtain⟨x,g,c,f,d⟩:=u;exact ho i_ e σ g x v Q c f d)
theorem qQ{f:Af->Af->Sem Af}{C:Int->Int->Prop}{g:Int->Int->Int}
  (rule:∀(i j:Int)(t u:Tok)(s:Ai)(Q:Af->Ai->Prop)(E:Af->Ai->Prop),C i j->Q (.int (g i j) s.toks) {s with toks:=s.toks+1}->A2 (A5 X.prog X.w) X.A (f (.int i t) (.int j u)) Q E s):
  OpR X f (rI C λi j=>.int (g i j)):=by
 intro a s σ H x y v u Q I b d h;obtain⟨i,j,rfl,rfl,e,q⟩:=h;obtain⟨t,rfl⟩:=b;obtain⟨c,rfl⟩:=d;exact rule i j t c s _ _ e ⟨.int _,H,I.tok _,⟨_,rfl⟩,q⟩
theorem mL{f:Af->Af->Sem Af}{g:Int->Int->Int}
  (rule:∀(i j:Int)(t u:Tok)(s:Ai)(Q:Af->Ai->Prop)(E:Af->Ai->Prop),Q (.int (g i j) s.toks) {s with toks:=s.toks+1}->A2 (A5 X.prog X.w) X.A (f (.int i t) (.int j u)) Q E s):
  OpR X f (fi λi j=>.int (g i j)):=by
 intro a s σ H x y v u Q I b d h;obtain⟨i,j,rfl,rfl,q⟩:=h;obtain⟨t,rfl⟩:=b;obtain⟨c,rfl⟩:=d;exact rule i j t c s _ _ ⟨.int _,H,I.tok _,⟨_,rfl⟩,q⟩
theorem jd{f:Af->Af->Sem Af}{g:Int->Int->Bool}
  (rule:∀(i j:Int)(t u:Tok)(s:Ai)(Q:Af->Ai->Prop)(E:Af->Ai->Prop),Q (.bool (g i j)) s->A2 (A5 X.prog X.w) X.A (f (.int i t) (.int j u)) Q E s):
  OpR X f (fi λi j=>.bl (g i j)):=by
 intro a s σ H x y v u Q I b d h;obtain⟨i,j,rfl,rfl,q⟩:=h;obtain⟨t,rfl⟩:=b;obtain⟨c,rfl⟩:=d;exact rule i j t c s _ _ ⟨.bl _,H,I,rfl,q⟩
def vS(i j:Int):Prop:=0 < j/\j < 1073741824
def uc(i j:Int):Prop:=0<=j/\j<=1000000/\i.natAbs < 2 ^ 64
def CMul(i j:Int):Prop:=(-(2 ^ 64) < i/\i < 2 ^ 64)\/(-(2 ^ 64) < j/\j < 2 ^ 64)
theorem CMul.ok{i j:Int}(h:CMul i j):IntMulOk i j:=by
 rcases h with⟨b,a⟩|⟨b,a⟩
 ·exact .of_left (intBits_le_64 b a)
 ·exact .of_right (intBits_le_64 b a)
theorem op_add:OpR X (E9 .Add) (fi λi j=>.int (i+j)):=mL λ_ _ _ _ _ _ _=>add_int
theorem FZ:OpR X (E9 .Sub) (fi λi j=>.int (i-j)):=mL λ_ _ _ _ _ _ _=>sub_int
theorem lr:OpR X (E9 .Mult) (rI CMul λi j=>.int (i*j)):=qQ λ_ _ _ _ _ _ _ a q=>mul_int q a.ok
theorem zX:OpR X (E9 .FloorDiv) (rI vS λi j=>.int (i / j)):=qQ λi j _ _ _ _ _ a q=>by
 have c:=a.1;have b:=a.2;exact floordiv_int ⋯ (by rw[Int.fdiv_eq_ediv_of_nonneg i ⋯];exact q) (.inl (PyProof.noPylong_small ⋯))
theorem i8:OpR X (E9 .Mod) (rI (λ_ j=>0 < j) λi j=>.int (i % j)):=qQ λi j _ _ _ _ _ a q=>mod_int' ⋯ (by rw[Int.fmod_eq_emod_of_nonneg i ⋯];exact q)
theorem S7:OpR X (E9 .Pow) (rI uc λi j=>.int (i ^ j.toNat)):=qQ λ_ _ _ _ _ _ _ a=>pow_int_small a.1 a.2.1 a.2.2
theorem NX{f:Af->Sem Af}{g:Int->Int}
  (rule:∀(i:Int)(t:Tok)(s:Ai)(Q:Af->Ai->Prop)(E:Af->Ai->Prop),Q (.int (g i) s.toks) {s with toks:=s.toks+1}->A2 (A5 X.prog X.w) X.A (f (.int i t)) Q E s):
  uy X f (rU λi=>.int (g i)):=by
 intro a s σ H x v Q I b h;obtain⟨i,rfl,q⟩:=h;obtain⟨t,rfl⟩:=b;exact rule i t s _ _ ⟨.int _,H,I.tok _,⟨_,rfl⟩,q⟩
theorem N1:uy X (unaryOp .USub) (rU λi=>.int (-i)):=NX λ_ _ _ _ _=>neg_int
end
def mI:V->V->Bool
 |.non,.non=>ah|.non,.int _=>ah|.int _,.non=>ah|.non,.bl _=>ah|.bl _,.non=>ah|.non,.str _=>ah|.str _,.non=>ah
 |.int _,.int _=>ah|.bl _,.bl _=>ah|.str _,.str _=>ah|.byt _,.byt _=>ah
 |.int _,.str _=>ah|.str _,.int _=>ah|.bl _,.str _=>ah|.str _,.bl _=>ah
 |_,_=>ai
def oR:R2:=λx y H Q=>mI x y=ah/\Q (.bl (decide (x=y))) H
def yW:R2:=λx y H Q=>mI x y=ah/\Q (.bl (!decide (x=y))) H
theorem yR{i j:Int}:decide (V.int i=V.int j)=(i==j):=by
 rw[F3];simp
theorem wI{i j:Bool}:decide (V.bl i=V.bl j)=(i==j):=by
 rw[F3];simp
theorem yf{i j:Str}:decide (V.str i=V.str j)=(i==j):=by
 rw[F3];simp
theorem FP{i j:Array UInt8}:decide (V.byt i=V.byt j)=(i.toList==j.toList):=by
 rw[F3];simp
section
variable{X:Cx}{a b c:Expr}{ta tb tc:TE}{pos:Pos}
theorem cf{i_:List (A'×Obj)}{σ:St}{H:Hp}{s:Ai}{Q:VK}{k k':Bool}(I:Inv X i_ σ H s)(q:Q (.bl k) H)(e:k=k'):EP X i_ σ Q (.bool k') s:=by
 subst e;exact⟨.bl k,H,I,rfl,q⟩
theorem op_eq:OpR X (B3 .Eq) oR:=by
 intro m s σ H x y v u Q I g a h;obtain⟨f,q⟩:=h;cases x with
 |non=>
  cases g;cases y with
  |non=>cases a;exact PySem.EqNone.eq_none_none (cf I q (by simp))
  |bl j=>cases a;exact PySem.EqNone.eq_none_bool (cf I q (by simp))
  |int j=>obtain⟨d,rfl⟩:=a;exact PySem.EqNone.eq_none_int (cf I q (by simp))
  |str j=>obtain⟨d,rfl⟩:=a;exact PySem.EqNone.eq_none_str (cf I q (by simp))
  |_=>exact g_ (f) Ay
 |bl i=>
  cases g;cases y with
  |non=>cases a;exact PySem.EqNone.eq_bool_none (cf I q (by simp))
  |bl j=>cases a;exact eq_bool (cf I q wI)
  |str j=>obtain⟨d,rfl⟩:=a;exact PySem.EqMixed.eq_bool_str (cf I q (by simp))
  |_=>exact g_ (f) Ay
 |int i=>
  obtain⟨t,rfl⟩:=g;cases y with
  |non=>cases a;exact PySem.EqNone.eq_int_none (cf I q (by simp))
  |int j=>obtain⟨d,rfl⟩:=a;exact eq_int (cf I q yR)
  |str j=>obtain⟨d,rfl⟩:=a;exact PySem.EqMixed.eq_int_str (cf I q (by simp))
  |_=>exact g_ (f) Ay
 |str i=>
  obtain⟨t,rfl⟩:=g;cases y with
  |non=>cases a;exact PySem.EqNone.eq_str_none (cf I q (by simp))
  |bl j=>cases a;exact PySem.EqMixed.eq_str_bool (cf I q (by simp))
  |int j=>obtain⟨d,rfl⟩:=a;exact PySem.EqMixed.eq_str_int (cf I q (by simp))
  |str j=>obtain⟨d,rfl⟩:=a;exact eq_str (cf I q yf)
  |_=>exact g_ (f) Ay
 |byt i=>
  obtain⟨t,rfl⟩:=g;cases y with
  |byt j=>obtain⟨d,rfl⟩:=a;exact PySem.W.eq_bytes (cf I q FP)
  |_=>exact g_ (f) Ay
 |_=>cases y<;>exact g_ (by assumption) Ay
theorem Jn:OpR X (B3 .NotEq) yW:=by
 intro m s σ H x y v u Q I g a h;obtain⟨f,q⟩:=h;cases x with
 |non=>
  cases g;cases y with
  |non=>cases a;exact PySem.EqNone.ne_none_none (cf I q (by simp))
  |bl j=>cases a;exact PySem.EqNone.ne_none_bool (cf I q (by simp))
  |int j=>obtain⟨d,rfl⟩:=a;exact PySem.EqNone.ne_none_int (cf I q (by simp))
  |str j=>obtain⟨d,rfl⟩:=a;exact PySem.EqNone.ne_none_str (cf I q (by simp))
  |_=>exact g_ (f) Ay
 |bl i=>
  cases g;cases y with
  |non=>cases a;exact PySem.EqNone.ne_bool_none (cf I q (by simp))
  |bl j=>cases a;exact ne_bool (cf I q (congrArg not wI))
  |str j=>obtain⟨d,rfl⟩:=a;exact PySem.EqMixed.ne_bool_str (cf I q (by simp))
  |_=>exact g_ (f) Ay
 |int i=>
  obtain⟨t,rfl⟩:=g;cases y with
  |non=>cases a;exact PySem.EqNone.ne_int_none (cf I q (by simp))
  |int j=>obtain⟨d,rfl⟩:=a;exact ne_int (cf I q (congrArg not yR))
  |str j=>obtain⟨d,rfl⟩:=a;exact PySem.EqMixed.ne_int_str (cf I q (by simp))
  |_=>exact g_ (f) Ay
 |str i=>
  obtain⟨t,rfl⟩:=g;cases y with
  |non=>cases a;exact PySem.EqNone.ne_str_none (cf I q (by simp))
  |bl j=>cases a;exact PySem.EqMixed.ne_str_bool (cf I q (by simp))
  |int j=>obtain⟨d,rfl⟩:=a;exact PySem.EqMixed.ne_str_int (cf I q (by simp))
  |str j=>obtain⟨d,rfl⟩:=a;exact ne_str (cf I q (congrArg not yf))
  |_=>exact g_ (f) Ay
 |byt i=>
  obtain⟨t,rfl⟩:=g;cases y with
  |byt j=>obtain⟨d,rfl⟩:=a;exact PySem.W.ne_bytes (cf I q (congrArg not FP))
  |_=>exact g_ (f) Ay
 |_=>cases y<;>exact g_ (by assumption) Ay
theorem op_lt:OpR X (B3 .Lt) (fi λi j=>.bl (decide (i < j))):=jd λ_ _ _ _ _ _ _=>lt_int
theorem op_le:OpR X (B3 .LtE) (fi λi j=>.bl (decide (i<=j))):=jd λ_ _ _ _ _ _ _=>le_int
theorem op_gt:OpR X (B3 .Gt) (fi λi j=>.bl (decide (j < i))):=jd λ_ _ _ _ _ _ _=>gt_int
theorem Hm:OpR X (B3 .GtE) (fi λi j=>.bl (decide (j<=i))):=jd λ_ _ _ _ _ _ _=>ge_int
theorem Qv:OpR X (B3 .Lt) (λx y H Q=>∃i j,x=.str i/\y=.str j/\Q (.bl (decide (i.cps.toList < j.cps.toList))) H):=by
 intro a s σ H x y v u Q I b c h;obtain⟨i,j,rfl,rfl,q⟩:=h;obtain⟨t,rfl⟩:=b;obtain⟨d,rfl⟩:=c;exact lt_str (cf I q rfl)
theorem DW:OpR X (B3 .Is) (λx y H Q=>y=.non/\Q (.bl (decide (x=.non))) H):=by
 intro b s σ H x y v u Q I a c h;obtain⟨rfl,q⟩:=h;cases c;refine is_none_gen (cf I q ?_);cases x<;>first
  | (cases a;rfl)
  | (obtain⟨t,rfl⟩:=a;rfl)
theorem vW:OpR X (B3 .IsNot) (λx y H Q=>y=.non/\Q (.bl (!decide (x=.non))) H):=by
 intro b s σ H x y v u Q I a c h;obtain⟨rfl,q⟩:=h;cases c;refine isnot_none_gen (cf I q ?_);cases x<;>first
  | (cases a;rfl)
  | (obtain⟨t,rfl⟩:=a;rfl)
theorem OpR.or{f:Af->Af->Sem Af}{r r':R2}(h:OpR X f r)(h':OpR X f r'):OpR X f (λx y H Q=>r x y H Q\/r' x y H Q):=by
 intro a s σ H x y v u Q I c b q;rcases q with q|q
 ·exact h a s σ H x y v u Q I c b q
 ·exact h' a s σ H x y v u Q I c b q
theorem jo(b:Expr){op:CmpOp}(h:op≠.In:=by decide)(h2:op≠.NotIn:=by decide):Cm op b=ai:=by
 have c:(op==CmpOp.In)=ai:=by cases op<;>first|rfl|exact g_ rfl h
 have a:(op==CmpOp.NotIn)=ai:=by cases op<;>first|rfl|exact g_ rfl h2
 cases b<;>simp[Cm,c,a]
theorem Oq{op:CmpOp}{r:R2}(ho:OpR X (B3 op) r)(ha:PE X a ta)(hb:PE X b tb)(hm:Cm op b=ai):PE X (.Compare a [op] [b] pos) (cZ r ta tb):=λi_ s σ H Q I h=>wpAny_Compare1 (jJ ha hb I h λv u f x y e=>ho i_ f σ e x y v u Q) hm
def fQ(t:TE):TT:=λσ H Q=>t σ H λx H'=>∃k,x=.bl k/\Q k H'
theorem ja{op:CmpOp}{r:R2}(ho:OpR X (B3 op) r)(ha:PE X a ta)(hb:PE X b tb)(hm:Cm op b=ai):PT X (.Compare a [op] [b] pos) (fQ (cZ r ta tb)):=by
 intro d s σ H Q I h;refine wpAny_isTrue_Compare1 (aL (ha d s σ H _ I h) λv A ⟨x,m,o,q,j⟩=>aL (hb d A σ m _ o j) λu p ⟨y,l,f,t,g⟩=>
  aL (ho d p σ l x y v u _ f q t g) λc C a=>?_) hm;obtain⟨z,i,n,w,k,e,B⟩:=a
 subst e;cases w;exact Ee ⟨i,n,B⟩
def vY(r r':R2)(ta tb tc:TE):TE:=λσ H Q=>ta σ H λx H1=>tb σ H1 λy H2=>r x y H2 λz H3=>∃k,z=.bl k /\
 (if k=ah then tc σ H3 λw' H4=>r' y w' H4 Q else Q (.bl ai) H3)
theorem QO{op op':CmpOp}{r r':R2}(ho:OpR X (B3 op) r)(ho':OpR X (B3 op') r')(ha:PE X a ta)(hb:PE X b tb)(hc:PE X c tc)
  (hm:lastMarks [op,op'] [b,c]=ai):PE X (.Compare a [op,op'] [b,c] pos) (vY r r' ta tb tc):=by
 intro f s σ H Q I h;refine Compare_chain (aL (ha f s σ H _ I h) λv J ⟨x,w,B,D,q⟩=>chain_link (aL (hb f J σ w _ B q) λu C ⟨y,t,n,j,o⟩=>
  aL (ho f C σ t x y v u _ n D j o) λd K a=>?_)) hm;obtain⟨z,g,i,G,k,e,l⟩:=a
 subst e;cases G;refine Ee ?_;cases k with
 |false=>exact ite_ff ⟨.bl ai,g,i,rfl,l⟩
 |true=>exact ite_tt (chain_last (aL (hc f K σ g _ i l) λw' A b=>by obtain⟨F,L,p,m,E⟩:=b;exact ho' f A σ L y F u w' Q p j m E))
def iQ(K:Ag)(x:V)(H:Hp)(k:Bool):Prop:=
 match x with
 |.non=>k=ai
 |.bl b=>k=b
 |.int i=>k=(i != 0)
 |.str y=>y.length<=Av/\k=((y.length:Int) != 0)
 |.byt y=>y.size<=Av/\k=((y.size:Int) != 0)
 |.ref p=>(∃xs,SqL K H p xs/\k=!xs.isEmpty)\/(∃xs,SqT K H p xs/\k=!xs.isEmpty)\/∃kvs,H p=ae (.dK kvs)/\k=!kvs.isEmpty
 |_=>False
theorem FU{κ:Type}{kvs:List (κ×V)}{vs:List (κ×Af)}(r:KV kvs vs):(!vs.isEmpty)=!kvs.isEmpty:=by
 cases r<;>rfl
theorem yw{xs:List V}{i':List Af}(r:Vals xs i'):(!i'.toArray.isEmpty)=!xs.isEmpty:=by
 cases r<;>simp
theorem lz:(Av:Nat) < 2 ^ 63:=by decide
theorem IZ:ue X (λx H Q=>∃k,iQ X.K x H k/\Q k H):=by
 intro n s σ H x v Q I d h;obtain⟨k,e,q⟩:=h;have J:=Ey;cases x with
 |non=>
  cases d;have a:=e;subst a;exact truthy_none ⟨H,I,q⟩
 |bl b=>
  cases d;have a:=e;subst a;exact Ee ⟨H,I,q⟩
 |int i=>
  obtain⟨t,rfl⟩:=d;have a:=e;subst a;exact PySem.P.truthy_int ⟨H,I,q⟩
 |str y=>
  obtain⟨t,rfl⟩:=d;obtain⟨E,a⟩:=e;subst a;exact PySem.P.truthy_str ⋯ ⟨H,I.tok _,q⟩
 |byt y=>
  obtain⟨t,rfl⟩:=d;obtain⟨E,a⟩:=e;subst a;exact PySem.W.truthy_bytes ⋯ ⟨H,I.tok _,q⟩
 |ref p=>
  cases d;have a:=e;rcases a with⟨z,f,a⟩|⟨z,f,a⟩|⟨u,f,a⟩
  ·subst a;obtain⟨j,r,g,l⟩:=I.list f;have c:=r.length;exact wpAny_truthy_list g.isList (by simp only[B4];omega) ⟨H,I.tok _,(yw r)▸q⟩
  ·subst a;obtain⟨j,r,g,l⟩:=I.tuple f;have c:=r.length;exact truthy_tuple g (by simp only[B4];omega) ⟨H,I.tok _,(yw r)▸q⟩
  ·subst a;obtain⟨l,C,F,r,m⟩:=I.hok p _ f;have c:=D3 r;exact wpAny_truthy_dict C m ⋯ ⟨H,I.tok _,(FU r)▸q⟩
 |_=>exact(e).elim
theorem K0(ha:PE X a ta)(he:∀whole,isTrue a X.env whole=(do let v <-whole;standAt a.pos;holding [v] (truthy v))):
  PT X a (λσ H Q=>ta σ H λx H'=>∃k,iQ X.K x H' k/\Q k H'):=λi_ s σ H Q I h=>isTrue_plain (aL (ha i_ s σ H _ I h) λv e u=>by obtain⟨x,g,c,f,d⟩:=u;exact IZ i_ e σ g x v Q c f d) (he _)
theorem op_add_str:OpR X (E9 .Add) (λx y H Q=>∃i j,x=.str i/\y=.str j/\i.length+j.length<=Av/\Q (.str (i++j)) H):=by
 intro a s σ H x y v u Q I b d h;obtain⟨i,j,rfl,rfl,c,q⟩:=h;obtain⟨t,rfl⟩:=b;obtain⟨f,rfl⟩:=d;exact add_str (λt' e=>⟨.str _,H,I.tok _,⟨_,rfl⟩,q⟩) c
theorem e8{x:V}{us:List Af}(r:Vals [x] us):∃u,us=[u]/\RelV x u:=by
 cases r with
 |cons a b=>cases b;exact⟨_,rfl,a⟩
theorem yp{x y:V}{us:List Af}(r:Vals [x,y] us):∃u w',us=[u,w']/\RelV x u/\RelV y w':=by
 cases r with
 |cons c d=>
  cases d with
  |cons b a=>cases a;exact⟨_,_,rfl,c,b⟩
end
structure ObjM(h:Heap)(x dx C:A')(mA:Str->Option Af):Prop where
 obj:h.get? x=ae (PySem.W.instObj C dx)
 ns:h.Ns1 dx mA
 ne:dx≠x
theorem Jf{h:Heap}{dx:A'}{mA:Str->Option Af}(n:h.Ns1 dx mA):∃od,h.get? dx=ae od/\∀name,PySem.W.lookIn name od=ae (mA name):=by
 obtain⟨o,c,l,f,g,k,_,d⟩:=n;refine⟨o,f,λname=>?_⟩;have e:=d name;unfold nsFind findBy at e;rw[<-Array.find?_toList]at e;unfold PySem.W.lookIn;rw[g];dsimp only
 split
 ·rename_i y q;rw[q]at e;exact congrArg ae e
 ·rename_i q;rw[q]at e;have a:c.toList.any (·.refKey)=ai:=by
   rw[List.any_eq_false];intro y j;obtain⟨z,t,b⟩:=k y (by simp_all);simp[DictEntry.refKey,b]
  have i:¬c.toList.any (·.refKey)=ah:=by rw[a];simp
  rw[a_ i];exact congrArg ae e
theorem ObjM.look{h:Heap}{x dx C:A'}{mA:Str->Option Af}(I:ObjM h x dx C mA):∃od,PySem.W.InstAt h x (PySem.W.instObj C dx) C (ae od)/\∀name,PySem.W.lookIn name od=ae (mA name):=
 let⟨od,b,a⟩:=Jf I.ns
 ⟨od,⟨I.obj,rfl,rfl,b⟩,a⟩
theorem RelO.some_of{v:V}{o:Option Af}(r:RelO (ae v) o):∃u,o=ae u/\RelV v u:=by
 cases o with
 |none=>exact(r).elim
 |some u=>exact⟨u,rfl,r⟩
section
variable{P:A1}{w:Bh}{H H':Hp}{h h':Heap}{a C dx:A'}{fs fs':List (Str×V)}
theorem MJ(hok:HOk P w H h)(e:H a=ae (.ins C dx fs)):∃mA,ObjM h a dx C mA/\(∀f,RelO (fs.lookup f) (mA f))/\PySem.Within mA (fs.map (·.1))/\fs.length<=1000/\H dx=ae (.own a):=by
 obtain⟨d,z,b,c,mA,n,r,q⟩:=(show ObjOk P w H h a (.ins C dx fs)from hok a _ e);exact⟨mA,⟨c,n,b⟩,r,q,z,d⟩
end
structure Cls(K:Ag)(C:A'):Prop where
 pg:PySem.W.plainGet K C Str.empty=ah
 hd:PySem.W.hasDictIn K C=ah
 po:PySem.W.plainOver K C=ah
 sa:PySem.W.findIn K (.ref C) "__setattr__"=ae (ae (.builtin "object.__setattr__"))
theorem Cls.get{K:Ag}{C:A'}(c:Cls K C)(f:Str):PySem.W.plainGet K C f=ah:=c.pg
section
variable{X:Cx}{i_:List (A'×Obj)}{σ:St}{H:Hp}{s:Ai}{A:Bo}{E:Af->Ai->Prop}{Q:Af->Ai->Prop}{c:Af}{b:Bool}
inductive TyOf(K:Ag)(H:Hp):V->Af->Prop where
 |non:TyOf K H .non (.type "NoneType")
 |bl (x:Bool):TyOf K H (.bl x) (.type "bool")
 |int (i:Int):TyOf K H (.int i) (.type "int")
 |str (x:Str):TyOf K H (.str x) (.type "str")
 |flt (x:UInt64):TyOf K H (.flt x) (.type "float")
 |lst {a:A'} {xs:List V} (e:H a=ae (.lst xs)):TyOf K H (.ref a) (.type "list")
 |frz {a:A'} {o:Obj} {xs:List V} (e:H a=ae (.frz o (.lst xs))):TyOf K H (.ref a) (.type "list")
 |tup {a:A'} {xs:List V} (e:H a=ae (.tup xs)):TyOf K H (.ref a) (.type "tuple")
 |dK {a:A'} {kvs:List (aC×V)} (e:H a=ae (.dK kvs)):TyOf K H (.ref a) (.type "dict")
 |dT {a:A'} {kvs:List (List aC×V)} (e:H a=ae (.dT kvs)):TyOf K H (.ref a) (.type "dict")
 |ins {a C dx:A'} {fs:List (Str×V)} (e:H a=ae (.ins C dx fs)) (cl:Cls K C) (ha:PySem.W.findIn K (.ref C) "__class__"=ae (ae (.builtin "object.__class__")))
   (hn:PySem.W.specialIn K (.builtin "object.__class__") "__get__"=ae (ae (.builtin "getset_descriptor.__get__"))) (htk:PySem.W.takesIn K (.builtin "object.__class__")=ae ah)
   (hm:PySem.W.mroIn K C (.type "object")=ae ah):TyOf K H (.ref a) (.ref C)
theorem Lp{x:V}{u t:Af}(I:Inv X i_ σ H s)(rx:RelV x u)(ty:TyOf X.K H x t)(e:PySem.W.kitOne X.K t c=ae b)(h:∀tk,Q (.bool b) {s with toks:=tk}):
  A2 (A5 X.prog X.w) A (call (.builtin "isinstance") [u,c]) Q E s:=by
 cases ty with
 |non=>cases(rx);exact De PySem.W.kitx_none I.kIn Gq e (λz=>nomatch z) h
 |bl y=>cases(rx);exact De PySem.W.kitx_bool I.kIn Gq e (λz=>nomatch z) h
 |int i=>obtain⟨t,q⟩:=(rx);cases q;exact De PySem.W.kitx_int I.kIn Gq e (λz=>nomatch z) h
 |str y=>obtain⟨t,q⟩:=(rx);cases q;exact De PySem.W.kitx_str I.kIn Gq e (λz=>nomatch z) h
 |flt y=>obtain⟨t,q⟩:=(rx);cases q;exact De PySem.W.kitx_float I.kIn Gq e (λz=>nomatch z) h
 |@lst a k d=>
  cases(rx);obtain⟨_,_,n,_,f⟩:=(show ObjOk X.prog X.w H s.heap a (.lst k)from I.hok a _ d);exact De PySem.W.kitx_list I.kIn ⟨_,f,rfl⟩ e (λz=>nomatch z) h
 |@frz a S k d=>
  cases(rx);obtain⟨_,_,_,n,_,f⟩:=(show ObjOk X.prog X.w H s.heap a (.frz S _)from I.hok a _ d);exact De PySem.W.kitx_list I.kIn ⟨_,f,rfl⟩ e (λz=>nomatch z) h
 |@tup a k d=>
  cases(rx);obtain⟨_,_,_,p⟩:=(show ObjOk X.prog X.w H s.heap a (.tup k)from I.hok a _ d);obtain⟨o,f,j,_⟩:=p;exact De PySem.W.kitx_tuple I.kIn ⟨o,f,j⟩ e (λz=>nomatch z) h
 |@dK a g d=>
  cases(rx);obtain⟨_,_,Z,_,p⟩:=(show ObjOk X.prog X.w H s.heap a (.dK g)from I.hok a _ d);obtain⟨o,F,M,f,j,_⟩:=p;exact De PySem.W.kitx_dict I.kIn ⟨o,f,j.1⟩ e (λz=>nomatch z) h
 |@dT a g d=>
  cases(rx);obtain⟨_,_,k,_,o,F,M,f,j,_⟩:=(show ObjOk X.prog X.w H s.heap a (.dT g)from I.hok a _ d);exact De PySem.W.kitx_dict I.kIn ⟨o,f,j.1⟩ e (λz=>nomatch z) h
 |@ins a C dx fs d m U N l D=>
  cases(rx);obtain⟨Y,O,_⟩:=MJ I.hok d;obtain⟨od,J,_⟩:=O.look;exact De (PySem.W.kitx_own (m.get _) m.hd U N l D) I.kIn J e (λz=>nomatch z) h
end
structure Room(k:Nat)(A:Bo):Prop where
 hd:A.handled=af
 dp:A.depth+3*k+5 < recursionLimit
 un:A.units+16*k+200 < Dd
 gd:A.guards=ae []
theorem Room.mono{j k:Nat}{A:Bo}(r:Room k A)(h:j<=k):Room j A:=⟨r.hd,by have:=r.dp;omega,by have:=r.un;omega,r.gd⟩
theorem Room.deeper{k:Nat}{A:Bo}(r:Room (k+1) A)(env:Env):Room k (A.deeper env):=
 ⟨r.hd,by have:=r.dp;show A.depth+1+3*k+5 < _;omega,by have:=r.un;show A.units+3+16*k+200 < _;omega,r.gd⟩
theorem Room.depth{k:Nat}{A:Bo}(r:Room k A):A.depth < recursionLimit:=by have:=r.dp;omega
theorem Room.units{k:Nat}{A:Bo}(r:Room k A):A.units+64 < Dd:=by have:=r.un;omega
theorem Room.units0{k:Nat}{A:Bo}(r:Room k A):A.units < Dd:=by have:=r.un;omega
def aW:TA:=λ_ H Q=>Q [] H
def br(ta:TE)(tr:TA):TA:=λσ H Q=>ta σ H λx H1=>tr σ H1 λxs H2=>Q (x::xs) H2
section
variable{X:Cx}{e:Expr}{es:List Expr}{te:TE}{t:TA}{pos:Pos}
theorem dq:PA X [] aW:=λ_ _ _ _ H Q I h=>Calls.spliced_nil ⟨[],H,I,.nil,h⟩
theorem bZ(ha:PE X e te)(hr:PA X es t)(hs:Aq (e::es) X.env=(ai,eval e X.env)::Aq es X.env:=by rfl):PA X (e::es) (br te t):=by
 intro b a s σ H Q I h;rw[hs];show A2 _ _ (spliced ((ai,eval e X.env)::C0 b _)) _ _ s;exact Calls.spliced_cons (aL (ha a s σ H _ I h) λu m u=>by obtain⟨x,i,j,k,f⟩:=u;exact aL (hr b a m σ i _ j f) λus n v=>by obtain⟨o,g,c,l,d⟩:=v;exact ⟨_,g,c,.cons k l,d⟩)
def j4(t:TA):TE:=λσ H Q=>t σ H λxs H1=>xs.length<=Av/\∀p,H1 p=af->Q (.ref p) (upd H1 p (.tup xs))
def iJ(t:TA):TE:=λσ H Q=>t σ H λxs H1=>xs.length<=Av/\∀p,H1 p=af->Q (.ref p) (upd H1 p (.lst xs))
theorem PL{x1}(h:PA X es t):PE X (.Tuple es x1 pos) (j4 t):=by
 intro a s σ H Q I f;refine wpAny_Tuple_spliced (aL (h pos a s σ H _ I f) λus d ⟨g,j,c,r,z,q⟩=>⟨r.length▸z,?_⟩);refine⟨.ref d.heap.objs.size,_,c.laid (λb u=>Ae _) (by simp) ?_,rfl,q _ (c.hok.fresh (by simp))⟩;exact⟨z,us,r,IsTupP.new _ _⟩
theorem oB(h:PA X es t):PE X (.List es pos) (iJ t):=by
 intro a s σ H Q I f;refine wpAny_List_spliced (aL (h pos a s σ H _ I f) λus d ⟨g,j,c,r,z,q⟩=>⟨r.length▸z,?_⟩);refine⟨.ref d.heap.objs.size,_,c.laid (λb u=>Ae _) (by simp) ?_,rfl,q _ (c.hok.fresh (by simp))⟩;exact⟨z,us,0,r,Au _ rfl⟩
end
abbrev Sp:=List V->Hp->VK->XK->Prop
abbrev gG:=List Env->Hp->Ai->XK->Af->Ai->Prop
structure Env0(P:A1)(w:Bh)(K:Ag)(mg:Str->Option Af)(base:Heap)(A:Bo)(outer:List Env)(s:Ai)(H:Hp):Prop where
 frames:A.frames=ae outer
 mod:Mod K mg base
 bs:∀b o,base.get? b=ae o->s.heap.get? b=ae o/\H b=af
 bsz:base.objs.size<=s.heap.objs.size
 funs:s.heap.FunFrames base outer
 frf:∀b∈gP outer,H b=af
 hok:HOk P w H s.heap
 bare:AllBare s.gens
def CE(outer:List Env)(P:A1)(w:Bh)(H:Hp)(s:Ai)(Q:VK)(u:Af)(s':Ai):Prop:=
 ∃v H',s'.os=s.os/\AllBare s'.gens/\Un (gP outer) [] H H' s.heap s'.heap/\HOk P w H' s'.heap/\RelV v u/\Q v H'
def CR(CX:gG)(outer:List Env)(P:A1)(w:Bh)(H:Hp)(s:Ai)(Q:VK)(E:XK)(r:Result)(s':Ai):Prop:=
 match r with
 |.ok (.ret u)=>CE outer P w H s Q u s'
 |.ok _=>False
 |.error e=>CX outer H s E e s'
structure FnOk(P:A1)(w:Bh)(K:Ag)(mg:Str->Option Af)(base:Heap)(CX:gG)(k:Nat)(f:A')(fd:Cc)(ps:List Str)(sp:Sp):Prop where
 len:∀vs H Q E,sp vs H Q E->vs.length=ps.length
 run:∀(A:Bo)(outer:List Env)(s:Ai)(H:Hp)(args:Args)(us:List Af)(vs:List V)(Q:VK)(E:XK),Room k A->Env0 P w K mg base A outer s H->BindsTo s fd args (ps.zip us)->Vals vs us->sp vs H Q E->
  codeAny (A5 P w) A (.call (.ref f) args) (CR CX outer P w H s Q E) s
theorem FnOk.imp{P:A1}{w:Bh}{K:Ag}{mg:Str->Option Af}{base:Heap}{CX:gG}{k:Nat}{f:A'}{fd:Cc}{ps:List Str}{sp sp':Sp}(F:FnOk P w K mg base CX k f fd ps sp)
  (h:∀vs H Q E,sp' vs H Q E->sp vs H Q E):FnOk P w K mg base CX k f fd ps sp':=
 ⟨λvs H Q E q=>F.len vs H Q E (h _ _ _ _ q),λA a s H b i vs Q E g d e c j=>F.run A a s H b i vs Q E g d e c (h _ _ _ _ j)⟩
section
variable{X:Cx}{i_:List (A'×Obj)}{σ:St}{H:Hp}{s s':Ai}
theorem Inv.env0(I:Inv X i_ σ H s):Env0 X.prog X.w X.K X.mg X.base X.A X.stack s H:=
 ⟨I.ok.frames,I.ok.mod,I.bs,A0 I.ok.bsz I.sz,I.stack,I.stkFree,I.hok,I.bare⟩
theorem Inv.after{Q:VK}{u:Af}(I:Inv X i_ σ H s)(h:CE X.stack X.prog X.w H s Q u s'):EP X i_ σ Q u s':=by
 obtain⟨v,d,e,a,f,c,r,q⟩:=h;obtain⟨g,_⟩:=s';obtain rfl:=e;exact⟨v,d,I.call f c a (λb z=>g_ z (by simp)),r,q⟩
end
def ee(sp:Sp)(dvs:List V)(E:XK)(t:TA):TE:=λσ H Q=>t σ H λvs H1=>sp (vs++dvs) H1 Q E
def Binds(K:Ag)(fd:Cc)(ps:List Str)(ds:List Af):Prop:=
 ∀(s:Ai)(us:List Af),K.In s.heap->(us++ds).length=ps.length->BindsTo s fd ⟨us,[]⟩ (ps.zip (us++ds))
theorem Binds.all{K:Ag}{fd:Cc}{ps:List Str}(h:∀us:List Af,us.length=ps.length->bindArgs fd ⟨us,[]⟩=pure (ps.zip us)):Binds K fd ps []:=λs us _ a=>by
 rw[Br]at a ⊢;exact .of_eq (h us a)
def t9(CX:gG)(X:Cx)(E:XK):Prop:=∀(i_:List (A'×Obj))(σ:St)(H:Hp)(s:Ai)(e:Af)(s':Ai),Inv X i_ σ H s->CX X.stack H s E e s'->X.xe e s'
section
variable{X:Cx}{CX:gG}{k:Nat}{f C:A'}{fd:Cc}{ps:List Str}{sp:Sp}{dvs:List V}{ds:List Af}{E:XK}{x m:Str}{p pos apos:Pos}{e o:Expr}{es:List Expr}{ta:TE}{t:TA}
theorem MZ{i_:List (A'×Obj)}{σ:St}{H:Hp}{s:Ai}{Q:VK}{us:List Af}{vs:List V}(F:FnOk X.prog X.w X.K X.mg X.base CX k f fd ps sp)(hr:Room k X.A)(hb:Binds X.K fd ps ds)(hd:Vals dvs ds)(hx:t9 CX X E)
  (I:Inv X i_ σ H s) (r:Vals vs us) (h:sp (vs++dvs) H Q E):A2 (A5 X.prog X.w) X.A (call (.ref f) us) (EP X i_ σ Q) X.xe s:=by
 have g:=r.append hd;have i:(us++ds).length=ps.length:=g.length▸F.len _ _ _ _ h;refine wpAny_call (codeAny_mono (F.run X.A X.stack s H _ _ _ Q E hr I.env0 (hb s us I.kIn i) g h) λr l a=>?_);cases r with
 |error e=>exact hx i_ σ H s e l I a
 |ok n=>
  cases n with
  |ret u=>exact I.after a
  |next=>exact False.elim a
  |brk=>exact False.elim a
  |cont=>exact False.elim a
theorem jH(F:FnOk X.prog X.w X.K X.mg X.base CX k f fd ps sp)(hr:Room k X.A)(hg:Gl X x)(hm:X.mg x=ae (.ref f))(hk:Ct X.K (.ref f)=ah)(hb:Binds X.K fd ps ds)(hd:Vals dvs ds)(hx:t9 CX X E)
  (ha:PA X (e::es) t) (hdb:(x==("__debug__":Str))=ai:=by decide) (he:Aq (e::es) X.env=(ai,eval e X.env)::Aq es X.env:=by rfl) (q_:(C0 pos (Aq es X.env)).any (·.1)=ai:=by rfl):
  PE X (.Call (.Name x p) (e::es) [] pos) (ee sp dvs E t):=by
 intro a s σ H Q I h;refine wpAny_Call_Name_kw (wJ I hg hm (PySem.W.callWith_K I.ok.mod.kin hk (aL (ha pos a s σ H _ I h) λus d ⟨c,g,b,r,q⟩=>⟨b.kIn,?_⟩) he q_) hdb);exact MZ F hr hb hd hx b r q
end
structure FnScope(N P:List Str)(sc:Fb):Prop where
 kind:sc.kind=.function
 co:sc.isCoroutine=ai
 gen:sc.isGenerator=ai
 nd:N.Nodup
 pre:N.take P.length=P
 par:∀x∈P,sc.names.lookup x=ae .local\/sc.names.lookup x=ae .cell
 nofree:∀y∈sc.names,y.2≠.free
theorem xC{kindOf:Str->Option NameKind}{x:Str}:∀{binds:List (Str×Af)}{m:Str->Option Af},(∀v,(x,v)∉binds)->bindL kindOf binds m x=m x
 |[],_,_=>rfl
 | (n,v)::r,m,h=>by
  unfold bindL;rw[xC λw a=>h w (Ak _ a)]
  split
  ·have:x≠n:=by rintro rfl;exact h v An
   simp[this]
  ·rfl
theorem CF{kindOf:Str->Option NameKind}{x:Str}:∀{binds:List (Str×Af)}{m:Str->Option Af},(∀v,(x,v)∉binds)->bindC kindOf binds m x=m x
 |[],_,_=>rfl
 | (n,v)::r,m,h=>by
  unfold bindC;rw[CF λw a=>h w (Ak _ a)]
  split
  ·rfl
  ·have:x≠n:=by rintro rfl;exact h v An
   simp[this]
theorem zp{kindOf:Str->Option NameKind}{x:Str}{v:Af}:∀{P:List Str}{vs:List Af}{i:Nat}{m:Str->Option Af},P.Nodup->P[i]?=ae x->vs[i]?=ae v->kindOf x=ae .local->
  bindL kindOf (P.zip vs) m x=ae v
 |[],_,_,_,_,h,_,_=>by simp at h
 |_::_,[],_,_,_,_,h,_=>by simp at h
 |p::P,w::vs,0,m,b,c,a,d=>by
  simp at c a;subst c;subst a;show bindL kindOf ((p,w)::P.zip vs) m p=_;unfold bindL;rw[xC λv e=>(Dw.mp b).1 (F2 e).1,b_ d];simp
 |p::P,w::vs,i+1,m,b,c,a,d=>by
  unfold bindL;exact zp (Dw.mp b).2 (by trivial) (by trivial) d
theorem xF{kindOf:Str->Option NameKind}{x:Str}{v:Af}:∀{P:List Str}{vs:List Af}{i:Nat}{m:Str->Option Af},P.Nodup->P[i]?=ae x->vs[i]?=ae v->kindOf x≠ae .local->
  bindC kindOf (P.zip vs) m x=ae v
 |[],_,_,_,_,h,_,_=>by simp at h
 |_::_,[],_,_,_,_,h,_=>by simp at h
 |p::P,w::vs,0,m,b,c,a,d=>by
  simp at c a;subst c;subst a;show bindC kindOf ((p,w)::P.zip vs) m p=_;unfold bindC;rw[CF λv e=>(Dw.mp b).1 (F2 e).1,a_ d];simp
 |p::P,w::vs,i+1,m,b,c,a,d=>by
  unfold bindC;exact xF (Dw.mp b).2 (by trivial) (by trivial) d
def start(N:List Str)(vs:List V):St:=vs.map ae++Dh (N.length-vs.length) af
def b8(CX:gG)(P:A1)(w:Bh)(K:Ag)(mg:Str->Option Af)(base:Heap)(N:List Str)(qual:Str)(scope:Fb)(f:A')(cd:Af)(A:Bo)(outer:List Env)(s:Ai)(H:Hp)(E:XK):Cx where
 prog:=P
 w:=w
 K:=K
 mg:=mg
 base:=base
 A:=A.deeper (envOfC qual scope s.heap.objs.size f cd)
 N:=N
 s₀:=s
 H₀:=H
 env:=envOfC qual scope s.heap.objs.size f cd
 outer:=outer
 stack:=envOfC qual scope s.heap.objs.size f cd::outer
 ex:=[]
 calm:=ah
 fn:=λ_=>ah
 pn:=[]
 xe:=λe s'=>A2 (A5 P w) (A.deeper (envOfC qual scope s.heap.objs.size f cd)) (leaving (envOfC qual scope s.heap.objs.size f cd) e) (λ_ s''=>CX outer H s E e s'') (λe' s''=>CX outer H s E e' s'') s'
theorem zg{sc:Fb}{n:Nat}{x:Str}(h:sc.names.lookup x=ae .cell):∃c,(cellsFrom n sc.names []).lookup x=ae c:=by
 exact D4.mp (PySem.W.cellsFrom_some sc.names n [] (.inl h))
theorem RL{CX:gG}{P:A1}{w:Bh}{K:Ag}{mg:Str->Option Af}{base:Heap}{N ps:List Str}{qual:Str}{scope:Fb}{f:A'}{cd:Af}{A:Bo}{outer:List Env}{s s1:Ai}{H:Hp}{E:XK}{us:List Af}{vs:List V}
  (S:FnScope N ps scope) (hd:A.handled=af) (e0:Env0 P w K mg base A outer s H) (hl:vs.length=ps.length) (r:Vals vs us)
  (x:InCallC s s.heap.objs.size (bindL (envOfC qual scope s.heap.objs.size f cd).kindOf (ps.zip us) λ_=>af) (cellsFrom (s.heap.objs.size+1) scope.names []) (bindC (envOfC qual scope s.heap.objs.size f cd).kindOf (ps.zip us) λ_=>af) s1):
  Inv (b8 CX P w K mg base N qual scope f cd A outer s H E) [] (start N vs) H s1:=by
 have D:ps.length<=N.length:=by have:=congrArg Dy S.pre;simp_all<;>omega
 obtain⟨o,I,rfl,t⟩:=x.done;have j:∀b:A',b∉(b8 CX P w K mg base N qual scope f cd A outer s H E).ex:=λb z=>g_ (show b∈([]:List A')from z) (by simp);refine⟨⟨e0.mod,S.kind,rfl,rfl,Bc _,λy z c o d=>?_,λy g=>?_,λy c _ h=>?_,λ_=>hd,Around.frames_deeper e0.frames,.inr ⟨rfl,rfl⟩,λb z=>g_ z (j b),e0.bs,e0.bsz,λb _ _=>j b,λb z=>g_ z (j b),e0.funs,e0.frf⟩,
  rfl,e0.bare,Un.kept t,⟨_,x.toInCall.ns,λi y v o d G=>?_⟩,λy c h=>⟨_,x.cell y c h⟩,e0.hok.fresh (Bc _),λy c h=>?_,λp m=>g_ (show p∈([]:List _)from m) (by simp),e0.hok.kept t,?_⟩
 ·exact name_of_addr x.apart (Fs o) (Fs d)
 ·have g:=g;rcases g with g|g
  ·exact zg g
  ·exact g_ rfl (S.nofree _ (Fs g))
 ·exact Gi (x.above y c (Fs h))
 ·have n:i < vs.length:=by
   unfold start at d;by_cases n:i < vs.length
   ·exact n
   ·rw[List.getElem?_append_right (by simpa using n)]at d;rw[E3]at d
    simp_all
  have F:vs[i]?=ae v:=by
   unfold start at d;rw[Fv (by simpa using n),Am]at d;cases e:vs[i]? with
   |none=>rw[e]at d;cases d
   |some a=>rw[e]at d;cases d;rfl
  obtain⟨u,B,C⟩:=r.get F;have m:ps[i]?=ae y:=by
   rw[<-S.pre,List.getElem?_take_of_lt ⋯];trivial
  have l:ps.Nodup:=S.pre▸S.nd.sublist (List.take_sublist _ _);refine⟨u,C,?_⟩;rcases S.par y (Az m)with k|k
  ·exact .inl ⟨k,zp l m B k⟩
  ·obtain⟨c,e⟩:=zg k;refine .inr ⟨.inl k,c,e,?_⟩;have q:=x.cell y c e;rw[xF l m B (by show scope.names.lookup y≠_;rw[k];decide)]at q;exact q
 ·exact e0.hok.fresh (Gi (x.above y c (Fs h)))
 ·unfold start;show _=N.length;simp<;>omega
theorem O0{CX:gG}{P:A1}{w:Bh}{K:Ag}{mg:Str->Option Af}{base:Heap}{k:Nat}{f:A'}{name qual:Str}{params:Arguments}{body:List Stmt}{scope:Fb}{dV kV doc pm n_ ct oc:Af}{an od:Option A'}
  {osl:Array (Option Af)} {N ps:List Str} {sp:Sp} (lk:K.lookup f=ae ⟨oc,od,.func (Fl name qual params body scope dV kV doc pm an n_ ct),osl⟩) (r_:PySem.W.codeIn K n_ qual=ah) (S:FnScope N ps scope)
  (len:∀vs H Q E,sp vs H Q E->vs.length=ps.length)
  (hbody:∀(A:Bo)(outer:List Env)(s:Ai)(H:Hp)(vs:List V)(Q:VK)(E:XK),Room k (A.deeper (envOfC qual scope s.heap.objs.size f n_))->sp vs H Q E->
   ∃t,PSs (b8 CX P w K mg base N qual scope f n_ A outer s H E) body t/\t {nx:=λ_ H'=>Q .non H',rt:=Q} (start N vs) H):
  FnOk P w K mg base CX (k+1) f (Fl name qual params body scope dV kV doc pm an n_ ct) ps sp:=by
 refine⟨len,λA outer s H G T vs Q E p h Y r i=>?_⟩;have D:=h.mod.kin.keeps λb o e=>(h.bs b o e).1;have d:∀y∈ps.zip T,scope.names.lookup y.1=ae .local\/(scope.names.lookup y.1=ae .cell/\((cellsFrom (s.heap.objs.size+1) scope.names []).lookup y.1).isSome=ah):=λ⟨n,v⟩ Z=>by
  rcases S.par n (F2 Z).1 with q|q
  ·exact .inl q
  ·exact .inr ⟨q,PySem.W.cellsFrom_some _ _ _ (.inl q)⟩
 refine codeAny_call_function p.depth (D _ _ lk) rfl S.co S.gen rfl (PySem.W.codeRec_of D r_) (Y _ _ _ _ (wpAny_newFunctionEnv_cells S.kind d λenv M L x=>?_));subst M;refine⟨(h.mod.nolimit.keeps λb o e=>(h.bs b o e).1).keeps x.toInCall.keep,codeAny_func ?_⟩;obtain⟨t,R,U⟩:=hbody A outer s H vs Q E (p.deeper _) i;have I:Inv (b8 CX P w K mg base N qual scope f n_ A outer s H E) [] _ H L:=RL S p.hd h (len _ _ _ _ i) r x;refine C8 (R [] L _ H _ I U) (λfl z g=>?_) λe z g=>g;have j:∀{l:St}{H':Hp}{v:V}{u:Af},Inv (b8 CX P w K mg base N qual scope f n_ A outer s H E) [] l H' z->RelV v u->Q v H'->CE outer P w H s Q u z:=
  λ{l H' v u} J m q=>⟨v,H',J.os,J.bare,J.base,J.hok,m,q⟩
 cases fl with
 |ret u=>
  obtain⟨v,l,H',J,m,q⟩:=g;exact j J m q
 |next=>
  obtain⟨l,H',J,q⟩:=g;exact j (v:=V.non) J rfl q
 |brk=>
  obtain⟨_,_,_,q⟩:=g;exact False.elim q
 |cont=>
  obtain⟨_,_,_,q⟩:=g;exact False.elim q
section
variable{X:Cx}{x:Str}{p pos:Pos}{e:Expr}{es:List Expr}{t:TA}{id T:String}{r:List V->Hp->VK->Prop}
def d5(r:List V->Hp->VK->Prop)(t:TA):TE:=λσ H Q=>t σ H λvs H1=>r vs H1 Q
theorem gz(hc:CallR X (.builtin id) r)(hg:Gl X x)(hm:X.mg x=af)(hv:Bw x=ae (.builtin id))(ha:PA X (e::es) t)(hn:x≠"__name__":=by decide)(hdb:(x==("__debug__":Str))=ai:=by decide)
  (he:Aq (e::es) X.env=(ai,eval e X.env)::Aq es X.env:=by rfl) (q_:(C0 pos (Aq es X.env)).any (·.1)=ai:=by rfl):PE X (.Call (.Name x p) (e::es) [] pos) (d5 r t):=λi_ s σ H Q I h=>wpAny_Call_Name_kw (k9 I hg hm hv (PyProof.Rows.callWith_builtin1 (aL (ha pos i_ s σ H _ I h) λus f u=>by obtain⟨d,i,c,g,b⟩:=u;exact hc i_ f σ i d us Q c g b) he q_) hn hdb)
theorem mN(hc:CallR X (.type T) r)(hg:Gl X x)(hm:X.mg x=af)(hv:Bw x=ae (.type T))(ha:PA X (e::es) t)(hn:x≠"__name__")(hdb:(x==("__debug__":Str))=ai)
  (he:Aq (e::es) X.env=(ai,eval e X.env)::Aq es X.env) (q_:(C0 pos (Aq es X.env)).any (·.1)=ai):PE X (.Call (.Name x p) (e::es) [] pos) (d5 r t):=λi_ s σ H Q I h=>wpAny_Call_Name_kw (k9 I hg hm hv (E5 (aL (ha pos i_ s σ H _ I h) λus f u=>by obtain⟨d,i,c,g,b⟩:=u;exact hc i_ f σ i d us Q c g b) he q_) hn hdb)
end
end L2
namespace HT
open PySem PyProof.Rows
section
variable{prog:A1}{w:Bh}{A:Bo}{E:Af->Ai->Prop}{s:Ai}
theorem cat_tup{t b:A'}{vs ws:List Af}{Q:Af->Ai->Prop}(ht:IsTup s.heap t vs.toArray)(hb:IsTup s.heap b ws.toArray)(hv:vs≠[])
  (h1:ws=[]->Q (.ref t) s) (h2:ws≠[]->Q (.ref s.heap.objs.size) {s with heap:=s.heap.push {cls:=.type "tuple",data:=.seq (vs++ws).toArray}})
  (hsz:vs.length+ws.length<=Av):A2 (A5 prog w) A (E9 .Add (.ref t) (.ref b)) Q E s:=by
 obtain⟨⟨cls,j,_,l⟩,h,k,n,m⟩:=id ht;obtain⟨⟨_,g,_,f⟩,a,c,o,d⟩:=id hb;simp only at k m c d;subst k m c d;have e:vs.toArray++ws.toArray=(vs++ws).toArray:=by simp
 by_cases i:ws=[]
 ·exact concat_meets ⟨_,h,rfl⟩ ⟨_,a,rfl⟩ noFill_tuple_add seq_tuple_add F5 F1 (PySem.F.args_tuple_add_2 _ _)
   (tuple_addW1 t b vs.toArray ws.toArray n o j g l f (by simpa using hv) (by simp[i])) ⟨h,a,h1 i⟩
 ·refine concat_meets ⟨_,h,rfl⟩ ⟨_,a,rfl⟩ noFill_tuple_add seq_tuple_add F5 F1 (PySem.F.args_tuple_add_2 _ _)
   (tuple_addW2 t b vs.toArray ws.toArray n o j g l f (by simpa using hv) (by simpa using i) ⋯) ⟨h,a,?_⟩
  rw[e];exact h2 i
def sIx(n d:Nat):Option Int->Nat
 |none=>d
 |some v=>if v < 0 then(v+(n:Int)).toNat else min v.toNat n
theorem sIx_none(n d:Nat):sIx n d af=d:=rfl
theorem sIx_nat(n d k:Nat):sIx n d (ae (k:Int))=min k n:=by
 rfl
theorem Tf(n d:Nat)(hd:d<=n)(o:Option Int):sIx n d o<=n:=by
 cases o with
 |none=>exact hd
 |some v=>
  show(if v < 0 then(v+n).toNat else min v.toNat n)<=n;by_cases a:v < 0
  ·rw[b_ a];omega
  ·rw[a_ a];exact Nat.min_le_right _ _
theorem yt(v:Int)(n d:Nat):(if v < 0 then max (v+(n:Int)) 0 else min v (n:Int))=((sIx n d (ae v):Nat):Int):=by
 show(if v < 0 then max _ 0 else min v _)=(((if v < 0 then(v+n).toNat else min v.toNat n):Nat):Int);by_cases a:v < 0
 ·simp only[b_ a];omega
 ·simp only[a_ a];omega
theorem HV(lo hi:Option Int)(n:Nat):Gw lo hi 1 (n:Int)=(((sIx n 0 lo:Nat):Int),((sIx n n hi:Nat):Int)):=by
 have a:¬((1:Int) < 0):=by omega
 unfold Gw;refine Prod.ext ?_ ?_
 ·cases lo with
  |none=>rfl
  |some v=>exact yt v n 0
 ·cases hi with
  |none=>rfl
  |some v=>exact yt v n n
theorem HB(i j:Nat):Gv (i:Int) (j:Int) 1=j-i:=by
 unfold Gv;have a:(1:Int) > 0:=by omega
 simp
 grind
theorem AO{v:Af}{o:Option Int}{Q:Option Int->Ai->Prop}(p:IsPart v o)(h:Q o s):A2 (A5 prog w) A (Builtin.Slice.slicePartIndex v) Q E s:=by
 cases p with
 |none=>exact slicePart_none h
 |int i t=>exact slicePart_int h
theorem yo{sl:A'}{vl vu:Af}{lo hi:Option Int}{n:Nat}{Q:Int×Int×Nat->Ai->Prop}(hs:s.heap.IsSliceOf sl vl vu .none)(pl:IsPart vl lo)(pu:IsPart vu hi)
  (h:Q (((sIx n 0 lo:Nat):Int),1,sIx n n hi-sIx n 0 lo) s):A2 (A5 prog w) A (Builtin.Slice.sliceApplied (.ref sl) (pure (n:Int))) Q E s:=by
 obtain⟨d,b,c,a⟩:=id hs;refine Aa (Aa (Dn b a (x:=vl) rfl (Aa (Dn b a (x:=vu) rfl (Aa (Dn b a rfl (Aj (Aa (slicePart_none ?_)))))))));refine Aa (AO pl (Aa (AO pu (Aa (Aj ?_)))));show A2 _ _ (match Gw lo hi 1 (n:Int)with|(lo,hi)=>pure (lo,(1:Int),Gv lo hi 1)) _ _ s;rw[HV lo hi n];show A2 _ _ (pure _) _ _ s;rw[HB];exact Aj h
theorem Po(xs:Array Af)(i k:Nat):((A9 k).filterMap λ(m:Nat)=>xs[((i:Int)+(m:Int)*1).toNat]?).toArray=((xs.toList.drop i).take k).toArray:=by
 have e:(λ(m:Nat)=>xs[(i+(m:Int)*1).toNat]?)=λm=>xs[i+m]?:=by
  funext m
  have:(i+(m:Int)*1).toNat=i+m:=by omega
  rw[this]
 rw[e];have:=pick_run xs i k;rw[List.filterMap_map]at this;have a:((λx=>xs[x]?) ∘ λx=>i+x)=λm=>xs[i+m]?:=rfl;simp_all<;>omega
theorem getItem_tuple_cut{t sl:A'}{items:Array Af}{vl vu:Af}{lo hi:Option Int}{Q:Af->Ai->Prop}(ht:IsTup s.heap t items)(hs:s.heap.IsSliceOf sl vl vu .none)(pl:IsPart vl lo)(pu:IsPart vu hi)
  (hw:¬(sIx items.size 0 lo=0/\sIx items.size items.size hi=items.size))
  (h:Q (.ref s.heap.objs.size) {s with heap:=s.heap.push {cls:=.type "tuple",data:=.seq ((items.toList.drop (sIx items.size 0 lo)).take (sIx items.size items.size hi-sIx items.size 0 lo)).toArray}})
  (hsz:items.size<=Av):A2 (A5 prog w) A (getItem (.ref t) (.ref sl)) Q E s:=by
 have a:=by
  show((items.toList.drop (sIx items.size 0 lo)).take (sIx items.size items.size hi-sIx items.size 0 lo)).toArray.size<=Av;simp<;>omega
 obtain⟨f,e,c,g⟩:=id hs;have d:s.TypeIs (.ref sl) "slice":=⟨f,e,c⟩;unfold getItem
 try with_reducible refine Cb ?_
 first|refine Aa _|skip
 refine Aa (wpAny_sequenceKey ht.typeIs ∎ ?_);refine Aa (Bt ht.typeIs Ek
  (B9 Ek ht.typeIs entry_tuple_getitem ?_ (by trivial)))
 show A2 _ _ (Gn _>>=_) _ _ s;refine Aa (tupleItemsOf_ ht (Aa (Gt d ?_)));refine Aa (yo hs pl pu ?_);have b:¬((((sIx items.size 0 lo:Nat):Int)==0&&(1:Int)==1&&(sIx items.size items.size hi-sIx items.size 0 lo)==items.size)=ah):=by
  intro q;rw[Bi,Bi]at q;have i:=eq_of_beq q.1.1;simp_all
 show A2 _ _ (if _=ah then _ else _) _ _ s;rw[a_ b,Po]
 first
  |exact Aa _
  |exact Aa (B8 (Aa (Aj (Aj ⟨_,rfl,Aj h⟩))) a)
  |exact Aa _
  |exact Aa _
end
end HT
namespace L2
open PySem PySem.Spec PyProof.Rows
abbrev TO:=St->Hp->(Option Int->Hp->Prop)->Prop
def PO(X:Cx)(e:Option Expr)(t:TO):Prop:=
 ∀(i_:List (A'×Obj))(s:Ai)(σ:St)(H:Hp)(Q:Option Int->Hp->Prop),Inv X i_ σ H s->t σ H Q->
  A2 (A5 X.prog X.w) X.A (evalPart e X.env) (λu s'=>∃o H',Inv X i_ σ H' s'/\IsPart u o/\Q o H') X.xe s
def ET:TO:=λ_ H Q=>Q af H
def zo(t:TE):TO:=λσ H Q=>t σ H λx H1=>∃i,x=.int i/\Q (ae i) H1
section
variable{X:Cx}{e:Expr}{te:TE}{lo hi:Option Expr}{tl th:TO}{pos p2:Pos}
theorem yv:PO X af ET:=λi_ s σ H Q I h=>Aj ⟨_,H,I,.none,h⟩
theorem xh(h:PE X e te):PO X (ae e) (zo te):=by
 intro a s σ H Q I d;refine aL (h a s σ H _ I d) λu j u=>?_;obtain⟨x,g,c,f,b⟩:=u;obtain⟨i,rfl,q⟩:=b;obtain⟨t,rfl⟩:=f;exact⟨_,g,c,.int i t,q⟩
def SlR(X:Cx)(r:V->Option Int->Option Int->Hp->VK->Prop):Prop:=
 ∀(i_:List (A'×Obj))(s:Ai)(σ:St)(H:Hp)(x:V)(v vl vu:Af)(lo hi:Option Int)(sl:A')(Q:VK),Inv X i_ σ H s->RelV x v->s.heap.IsSliceOf sl vl vu .none->IsPart vl lo->IsPart vu hi->r x lo hi H Q->
  ∃T id,typeLookup (.type T) "__getitem__"=pure (ae (.builtin id))/\s.TypeIs v T/\A2 (A5 X.prog X.w) X.A (getItem v (.ref sl)) (EP X i_ σ Q) X.xe s
theorem SlR.or{r r':V->Option Int->Option Int->Hp->VK->Prop}(h:SlR X r)(h':SlR X r'):SlR X (λx lo hi H Q=>r x lo hi H Q\/r' x lo hi H Q):=by
 intro a s σ H x v g c lo hi i Q I b f d e q;rcases q with q|q
 ·exact h a s σ H x v g c lo hi i Q I b f d e q
 ·exact h' a s σ H x v g c lo hi i Q I b f d e q
def zV(r:V->Option Int->Option Int->Hp->VK->Prop)(te:TE)(tl th:TO):TE:=λσ H Q=>te σ H λx H1=>tl σ H1 λl H2=>th σ H2 λu H3=>r x l u H3 Q
theorem xa{r:V->Option Int->Option Int->Hp->VK->Prop}(hr:SlR X r)(he:PE X e te)(hl:PO X lo tl)(hu:PO X hi th):PE X (.Subscript e (.Slice lo hi af p2) pos) (zV r te tl th):=by
 intro a s σ H Q I h;refine Subscript_ (aL (he a s σ H _ I h) λv G ⟨x,z,B,E,p⟩=>wpAny_Slice (aL (hl a G σ z _ B p) λvl C ⟨l,t,j,y,n⟩=>aL (hu a C σ t _ j n) λvu d b=>?_));obtain⟨u,f,A,D,J⟩:=b;refine Aj ?_;have o:Inv X a σ f {d with heap:=d.heap.push {cls:=.type "slice",data:=.fields #[vl,vu,.none]}}:=A.kept λb K=>Ae _;obtain⟨T,L,k,w,m⟩:=hr a {d with heap:=d.heap.push {cls:=.type "slice",data:=.fields #[vl,vu,.none]}} σ f x v vl vu l u d.heap.objs.size Q o E (Heap.IsSliceOf.new ..) y D J;exact tail_any w k m (by trivial)
def fH(xs:List V)(lo hi:Option Int):List V:=(xs.drop (HT.sIx xs.length 0 lo)).take (HT.sIx xs.length xs.length hi-HT.sIx xs.length 0 lo)
theorem sH(xs:List V)(lo hi:Option Int):(fH xs lo hi).length<=xs.length:=by
 unfold fH;simp<;>omega
def m7(K:Ag):V->Option Int->Option Int->Hp->VK->Prop:=λx lo hi H Q=>∃a xs,x=.ref a/\SqT K H a xs /\
 ¬(HT.sIx xs.length 0 lo=0/\HT.sIx xs.length xs.length hi=xs.length)/\∀p,H p=af->Q (.ref p) (upd H p (.tup (fH xs lo hi)))
theorem sl_tup:SlR X (m7 X.K):=by
 intro g s σ H x v y t p i z Q I j o k m h;obtain⟨a,f,rfl,n,u,q⟩:=h;cases j;obtain⟨d,r,e,l⟩:=I.tuple n;have c:d.toArray.size=f.length:=r.length.symm;refine⟨_,_,PyProof.Rows.slot_tuple_getitem.lookup,e.typeIs,HT.getItem_tuple_cut e o k m (by rw[c];omega) ?_ (by simp_all)⟩;rw[c];refine⟨.ref s.heap.objs.size,_,I.laid (λb w=>Ae _) (by simp) ?_,rfl,q _ (I.hok.fresh (by simp))⟩;exact⟨A0 (sH f p i) l,_,(r.drop _).take _,IsTupP.new _ _⟩
def xr(K:Ag):R2:=λx y H Q=>∃a b xs ys,x=.ref a/\y=.ref b/\SqT K H a xs/\SqT K H b ys/\xs≠[]/\xs.length+ys.length<=Av /\
 (ys=[]->Q (.ref a) H)/\(ys≠[]->∀p,H p=af->Q (.ref p) (upd H p (.tup (xs++ys))))
theorem Vals.nil_iff{xs:List V}{us:List Af}(r:Vals xs us):us=[]↔xs=[]:=by
 cases r with
 |nil=>simp
 |cons _ _=>simp
theorem op_catT:OpR X (E9 .Add) (xr X.K):=by
 intro f s σ H x y v u Q I k m h;obtain⟨a,b,A,C,rfl,rfl,t,o,n,l,j,i⟩:=h;cases k;cases m;obtain⟨p,d,g,_⟩:=I.tuple t;obtain⟨e,c,r,_⟩:=I.tuple o;refine HT.cat_tup g r (λz=>n (d.nil_iff.mp z)) (λz=>⟨.ref a,H,I,rfl,j (c.nil_iff.mp z)⟩) (λz=>⟨.ref s.heap.objs.size,_,I.laid (λb B=>Ae _) (by simp) ?_,rfl,i (λw=>z (c.nil_iff.mpr w)) _ (I.hok.fresh (by simp))⟩) (by rw[<-d.length,<-c.length];omega);exact⟨As▸l,_,d.append c,IsTupP.new _ _⟩
end
def ir(n:Nat)(i:Int):Option Nat:=if 0<=i then(if i < n then ae i.toNat else af)else if -(n:Int)<=i then ae (i+n).toNat else af
def cO{α:Type}(xs:List α)(i:Int):Option α:=(ir xs.length i).bind λj=>xs[j]?
theorem zd{n:Nat}{i:Int}{j:Nat}(h:ir n i=ae j):seqIndex? i n=ae j/\j < n/\-(n:Int)<=i/\i < n:=by
 unfold ir at h;by_cases b:0<=i
 ·rw[b_ b]at h;by_cases a:i < n
  ·rw[b_ a]at h;have e:=B2 h;exact⟨by rw[seqIndex_of b a,e],by grind⟩
  ·rw[a_ a]at h;cases h
 ·rw[a_ b]at h;by_cases a:-n<=i
  ·rw[b_ a]at h;have e:=B2 h;exact⟨by rw[seqIndex_neg ⋯ a,e],by omega⟩
  ·rw[a_ a]at h;cases h
theorem vz{α:Type}{xs:List α}{i:Int}{v:α}(h:cO xs i=ae v):∃j,seqIndex? i xs.length=ae j/\xs[j]?=ae v/\j < xs.length/\-(xs.length:Int)<=i/\i < xs.length:=by
 unfold cO at h;cases e:ir xs.length i with
 |none=>rw[e]at h;cases h
 |some j=>
  rw[e]at h;obtain⟨f,a,b,c⟩:=zd e;exact⟨j,f,h,a,b,c⟩
theorem d9{α:Type}{xs:List α}{j:Nat}{v:α}(h:xs[j]?=ae v):cO xs (j:Int)=ae v:=by
 have b:=(Ap.mp h).1;have e:ir xs.length j=ae j:=by
  unfold ir;simp<;>omega
 unfold cO;rw[e];exact h
def qp(b:Expr):Prop:=∀o i,subscripted b ai o i=operate [o,i] (getItem o i)
def IxR(X:Cx)(r:R2):Prop:=
 ∀(value slice:Expr)(i_:List (A'×Obj))(s:Ai)(σ:St)(H:Hp)(x y:V)(v u:Af)(Q:VK),Inv X i_ σ H s->RelV x v->RelV y u->r x y H Q->
  subscripted slice ai v u=operate [v,u] (getItem v u)->A2 (A5 X.prog X.w) X.A (subscriptTail value slice v u) (EP X i_ σ Q) X.xe s
def si(X:Cx)(id:String)(r:V->List V->Hp->VK->Prop):Prop:=
 ∀(i_:List (A'×Obj))(s:Ai)(σ:St)(H:Hp)(x:V)(xs:List V)(v:Af)(us:List Af)(Q:VK),Inv X i_ σ H s->RelV x v->Vals xs us->r x xs H Q->
  A2 (A5 X.prog X.w) X.A (call (.builtin id) (v::us)) (EP X i_ σ Q) X.xe s
section
variable{X:Cx}{a b:Expr}{ta tb:TE}{pos:Pos}
theorem IxR.or{r r':R2}(h:IxR X r)(h':IxR X r'):IxR X (λx y H Q=>r x y H Q\/r' x y H Q):=by
 intro b a c s σ H x y v u Q I e d q f;rcases q with q|q
 ·exact h b a c s σ H x y v u Q I e d q f
 ·exact h' b a c s σ H x y v u Q I e d q f
theorem gb{r:R2}(hr:IxR X r)(ha:PE X a ta)(hb:PE X b tb)(hs:qp b):PE X (.Subscript a b pos) (cZ r ta tb):=λi_ s σ H Q I h=>Subscript_ (jJ ha hb I h λv u f x y e g i d q=>hr a b i_ f σ e x y v u Q g i d q (hs _ _))
def mj(K:Ag):R2:=λx y H Q=>∃p xs i v,x=.ref p/\y=.int i/\SqL K H p xs/\cO xs i=ae v/\Q v H
def l6(K:Ag):R2:=λx y H Q=>∃p xs i v,x=.ref p/\y=.int i/\SqT K H p xs/\cO xs i=ae v/\Q v H
def oe:R2:=λx y H Q=>∃z i c,x=.str z/\y=.int i/\z.length<=Av/\cO z.cps.toList i=ae c/\Q (.str ⟨#[c]⟩) H
theorem ix_list:IxR X (mj X.K):=by
 intro k g b s σ H x y v u Q I E G h o;obtain⟨p,O,i,z,rfl,rfl,F,C,q⟩:=h;cases E;obtain⟨t,rfl⟩:=G;obtain⟨f,r,e,M⟩:=I.list F;obtain⟨j,m,A,L,D,B⟩:=vz C;obtain⟨w,n,d⟩:=r.get A;have J:=r.length;have N:=lz;have a:EP X b σ Q w s:=⟨z,H,I,d,q⟩;by_cases l:0<=i
 ·have c:i.toNat=j:=by
   rw[seqIndex_of l B]at m;simp_all
  exact item_listR e.isList l ⋯ (by rw[c];simpa using n) a o
 ·have c:(i+(f.toArray.size:Int)).toNat=j:=by
   rw[seqIndex_neg ⋯ D]at m;simp_all
  exact subscriptTail_builtinR e.isList.typeIs slot_list_getitem.lookup
   (wpAny_getItem_list_neg e.isList ⋯ (by simp<;>omega) ⋯ (by rw[c];simpa using n) ⟨rfl,a⟩) o
theorem ix_tup:IxR X (l6 X.K):=by
 intro e d a s σ H x y v u Q I l n h B;obtain⟨p,L,i,z,rfl,rfl,m,k,q⟩:=h;cases l;obtain⟨t,rfl⟩:=n;obtain⟨A,r,f,G⟩:=I.tuple m;obtain⟨j,F,g,D,E,C⟩:=vz k;obtain⟨w,o,b⟩:=r.get g;have J:=lz;have c:EP X a σ Q w s:=⟨z,H,I,b,q⟩;exact subscriptTail_builtinR f.typeIs slot_tuple_getitem.lookup
  (getItem_tuple f ⋯ ⋯ (by rw[B4,<-r.length];omega) (by simpa using o) ⟨rfl,c⟩) B
theorem GZ:IxR X oe:=by
 intro b a e s σ H x y v u Q I n o h r;obtain⟨z,i,c,rfl,rfl,B,l,q⟩:=h;obtain⟨t,rfl⟩:=n;obtain⟨C,rfl⟩:=o;obtain⟨j,d,f,A,m,g⟩:=vz l;have k:z.cps.toList.length=z.length:=by rfl
 rw[k]at d m g;have D:=lz;exact tail_any (by trivial) slot_str_getitem.lookup (getItem_str (by
  simp<;>omega) (by rw[d];simpa using f) ⟨.str _,H,I.tok _,⟨_,rfl⟩,q⟩) r
def kO(K:Ag):R2:=λx y H Q=>mj K x y H Q\/l6 K x y H Q\/oe x y H Q
theorem t6:IxR X (kO X.K):=ix_list.or (ix_tup.or GZ)
theorem Pt(i':List Af)(n j:Nat)(u:Af):Dr (·.setIfInBounds j u) {cls:=.type "list",data:=.seq i'.toArray n}={ cls:=.type "list",data:=.seq (i'.set j u).toArray n}:=by
 simp[Dr]
theorem Inv.lst{i_:List (A'×Obj)}{σ:St}{H:Hp}{s:Ai}{p:A'}{xs:List V}(I:Inv X i_ σ H s)(h:H p=ae (.lst xs)):
  ∃(i':List Af)(n:Nat),Vals xs i'/\s.heap.get? p=ae {cls:=.type "list",data:=.seq i'.toArray n}/\xs.length<=Av:=by
 obtain⟨z,i',n,r,e⟩:=I.hok p _ h;exact⟨i',n,r,e,z⟩
theorem Inv.lstUpd{i_:List (A'×Obj)}{σ:St}{H:Hp}{s:Ai}{p:A'}{xs ys:List V}{i' its':List Af}{n n':Nat}{f:Obj->Obj}(I:Inv X i_ σ H s)(h:H p=ae (.lst xs))
  (ho:s.heap.get? p=ae {cls:=.type "list",data:=.seq i'.toArray n}) (hf:f {cls:=.type "list",data:=.seq i'.toArray n}={ cls:=.type "list",data:=.seq its'.toArray n'}) (r:Vals ys its') (hz:ys.length<=Av) (t:Nat):
  Inv X i_ σ (upd H p (.lst ys)) {s with heap:=s.heap.update p f,toks:=t}:=by
 have e:(s.heap.update p f).get? p=ae {cls:=.type "list",data:=.seq its'.toArray n'}:=by
  rw[Bv f ho (by rw[hf]<;>rfl),hf]
 refine I.write (by rw[h];trivial) (.inl rfl) (λb u a=>(C5 _ _ (Ne.symm a)).trans) ⟨_,e⟩ ?_;exact⟨hz,_,n',r,e⟩
def qK:V->V->V->Hp->(Hp->Prop)->Prop:=λo i v H Q=>∃p xs k j,o=.ref p/\i=.int k/\H p=ae (.lst xs)/\ir xs.length k=ae j/\Q (upd H p (.lst (xs.set j v)))
theorem mh:nP X qK:=by
 intro m s σ H o i v J F u Q I B z A h;obtain⟨p,G,k,j,rfl,rfl,e,y,q⟩:=h;cases B;obtain⟨t,rfl⟩:=z;obtain⟨a,n,r,c,D⟩:=I.lst e;obtain⟨g,C,w,x⟩:=zd y;have d:=r.length;have E:=lz;have l:=
  I.lstUpd e c (Pt a n j u) (r.set A j) (by simp<;>omega) s.toks
 by_cases f:0<=k
 ·have b:k.toNat=j:=by
   rw[seqIndex_of f x]at g;simp_all
  exact PySem.W.ki_setAt c f ⋯ (by simp_all<;>omega) (b▸⟨_,l,q⟩)
 ·have b:(k+(a.toArray.size:Int)).toNat=j:=by
   rw[seqIndex_neg ⋯ w]at g;simp_all
  exact PySem.W.ki_setBack c ⋯ (by simp_all<;>omega) ⋯ (b▸⟨_,l,q⟩)
theorem RQ(lo hi:Option Int)(n:Nat):(G7 lo hi af n).1=((HT.sIx n 0 lo:Nat):Int)/\(G7 lo hi af n).2.1=((HT.sIx n n hi:Nat):Int)/\(G7 lo hi af n).2.2=1:=by
 refine⟨?_,?_,rfl⟩
 ·cases lo with
  |none=>simp[G7,HT.sIx]
  |some i=>
   simp only[G7,HT.sIx,Option.getD_none,show(1:Int) > 0 by decide,if_true];by_cases h:i < 0
   ·simp only[h,if_true]<;>omega
   ·simp only[h,if_false]<;>omega
 ·cases hi with
  |none=>simp[G7,HT.sIx]
  |some i=>
   simp only[G7,HT.sIx,Option.getD_none,show(1:Int) > 0 by decide,if_true];by_cases h:i < 0
   ·simp only[h,if_true]<;>omega
   ·simp only[h,if_false]<;>omega
theorem S9(i':List Af)(lo hi:Option Int):slicePick i'.toArray lo hi af=((i'.drop (HT.sIx i'.length 0 lo)).take (HT.sIx i'.length i'.length hi-HT.sIx i'.length 0 lo)).toArray:=by
 obtain⟨c,a,b⟩:=RQ lo hi i'.toArray.size;unfold slicePick;rw[c,a,b];simp only[sliceRange_one,pick_run]<;>rfl
def sk(K:Ag):V->Option Int->Option Int->Hp->VK->Prop:=λx lo hi H Q=>∃a xs,x=.ref a/\SqL K H a xs/\∀p,H p=af->Q (.ref p) (upd H p (.lst (fH xs lo hi)))
theorem OG:SlR X (sk X.K):=by
 intro e s σ H x v w t p f y Q I g o i k h;obtain⟨a,l,rfl,m,q⟩:=h;cases g;obtain⟨n,r,d,j⟩:=I.list m;have c:=r.length;refine⟨_,_,slot_list_getitem.lookup,d.isList.typeIs,wpAny_getItem_list_slice d.isList o i k .none (by simp) ?_ (by simp<;>omega)⟩;rw[S9,<-c];refine⟨.ref s.heap.objs.size,_,I.laid (λb u=>Ae _) (by simp) ?_,rfl,q _ (I.hok.fresh (by simp))⟩;exact⟨A0 (sH l p f) j,_,0,(r.drop _).take _,Au _ rfl⟩
def gu:V->Bool
 |.non=>ah
 |.bl _=>ah
 |.int _=>ah
 |.str _=>ah
 |_=>ai
def gF:V->V->Bool
 |.non,.non=>ah
 |.bl a,.bl b=>a==b
 |.bl a,.int b=>(if a then 1 else 0)==b
 |.int a,.bl b=>a==(if b then 1 else 0)
 |.int a,.int b=>a==b
 |.str a,.str b=>a==b
 |_,_=>ai
theorem DJ{A:Bo}{s:Ai}{y x:V}{u v:Af}(ry:RelV y u)(rx:RelV x v)(fy:gu y=ah)(fx:gu x=ah):SeqAt.EqAt A s u v (gF y x):=by
 cases y with
 |non=>
  cases ry;cases x with
  |non=>cases rx;exact SeqAt.EqAt.same _
  |bl b=>cases rx;exact SeqAt.EqAt.none_bool b
  |int b=>obtain⟨t,rfl⟩:=rx;exact SeqAt.EqAt.none_int b t
  |str b=>obtain⟨t,rfl⟩:=rx;exact SeqAt.EqAt.none_str b t
  |_=>exact g_ (fx) Ay
 |bl a=>
  cases ry;cases x with
  |non=>cases rx;exact SeqAt.EqAt.bool_none a
  |bl b=>cases rx;exact SeqAt.EqAt.bool_bool a b
  |int b=>obtain⟨t,rfl⟩:=rx;exact SeqAt.EqAt.bool_int a b t
  |str b=>obtain⟨t,rfl⟩:=rx;exact SeqAt.EqAt.bool_str a b t
  |_=>exact g_ (fx) Ay
 |int a=>
  obtain⟨c,rfl⟩:=ry;cases x with
  |non=>cases rx;exact SeqAt.EqAt.int_none a c
  |bl b=>cases rx;exact SeqAt.EqAt.int_bool a c b
  |int b=>obtain⟨t,rfl⟩:=rx;exact SeqAt.EqAt.int_int a c b t
  |str b=>obtain⟨t,rfl⟩:=rx;exact SeqAt.EqAt.int_str a c b t
  |_=>exact g_ (fx) Ay
 |str a=>
  obtain⟨c,rfl⟩:=ry;cases x with
  |non=>cases rx;exact SeqAt.EqAt.str_none a c
  |bl b=>cases rx;exact SeqAt.EqAt.str_bool a c b
  |int b=>obtain⟨t,rfl⟩:=rx;exact SeqAt.EqAt.str_int a c b t
  |str b=>obtain⟨t,rfl⟩:=rx;exact SeqAt.EqAt.str_str a c b t
  |_=>exact g_ (fx) Ay
 |_=>exact g_ (fy) Ay
def jN(x:V)(u:Af):Bool:=match u with
 |.none=>gF .non x
 |.bool b=>gF (.bl b) x
 |.int i _=>gF (.int i) x
 |.str z _=>gF (.str z) x
 |_=>ai
theorem yk{x y:V}{u:Af}(r:RelV y u)(f:gu y=ah):jN x u=gF y x:=by
 cases y with
 |non=>cases r;rfl
 |bl b=>cases r;rfl
 |int i=>obtain⟨t,rfl⟩:=r;rfl
 |str z=>obtain⟨t,rfl⟩:=r;rfl
 |_=>exact g_ (f) Ay
theorem mQ{x:V}:∀{xs:List V}{us:List Af},Vals xs us->xs.all gu=ah->us.any (jN x)=xs.any λy=>gF y x
 |_,_,.nil,_=>rfl
 |y::xs,u::us,.cons r t,f=>by
  rw[List.all_cons,Bi]at f;rw[Di,Di,yk r f.1,mQ t f.2]
theorem nK{A:Bo}{s:Ai}{x:V}{v:Af}(rx:RelV x v)(fx:gu x=ah):∀{xs:List V}{us:List Af},Vals xs us->xs.all gu=ah->∀u∈us,SeqAt.EqAt A s u v (jN x u)
 |_,_,.nil,_=>λu a=>by trivial
 |y::xs,u::us,.cons r t,f=>λu' a=>by
  rw[List.all_cons,Bi]at f;rcases Ar.mp a with rfl|a
  ·rw[yk r f.1];exact DJ r rx f.1 fx
  ·exact nK rx fx t f.2 u' a
def pK(x:V)(xs:List V):Bool:=xs.any λy=>gF y x
def gj(K:Ag)(neg:Bool):R2:=λx y H Q=>∃p xs,y=.ref p/\(SqL K H p xs\/SqT K H p xs)/\gu x=ah/\xs.all gu=ah/\Q (.bl (if neg then !pK x xs else pK x xs)) H
theorem NV:OpR X (B3 .In) (gj X.K ai):=by
 intro g s σ H x y v u Q I f j h;obtain⟨p,l,rfl,b,e,c,q⟩:=h;cases j;rcases b with b|b
 ·obtain⟨a,r,d,i⟩:=I.list b;refine SeqAt.in_listAt _ d.isList (λw k=>nK f e r c w (by simp_all)) ⟨.bl _,H,I,rfl,?_⟩;rw[show a.toArray.any _=a.any (jN x) by simp,mQ r c];exact q
 ·obtain⟨a,r,d,i⟩:=I.tuple b;refine SeqAt.in_tupleAt _ d (λw k=>nK f e r c w (by simp_all)) ⟨.bl _,H,I,rfl,?_⟩;rw[show a.toArray.any _=a.any (jN x) by simp,mQ r c];exact q
theorem Ks:OpR X (B3 .NotIn) (gj X.K ah):=by
 intro g s σ H x y v u Q I f j h;obtain⟨p,l,rfl,b,e,c,q⟩:=h;cases j;rcases b with b|b
 ·obtain⟨a,r,d,i⟩:=I.list b;refine SeqAt.notIn_listAt _ d.isList (λw k=>nK f e r c w (by simp_all)) ⟨.bl _,H,I,rfl,?_⟩;rw[show a.toArray.any _=a.any (jN x) by simp,mQ r c];exact q
 ·obtain⟨a,r,d,i⟩:=I.tuple b;refine SeqAt.notIn_tupleAt _ d (λw k=>nK f e r c w (by simp_all)) ⟨.bl _,H,I,rfl,?_⟩;rw[show a.toArray.any _=a.any (jN x) by simp,mQ r c];exact q
theorem oJ:CallR X (.builtin "len") (λxs H Q=>∃p ys,xs=[.ref p]/\(SqL X.K H p ys\/SqT X.K H p ys)/\Q (.int ys.length) H):=by
 intro f s σ H xs j Q I r h;obtain⟨p,ys,rfl,b,q⟩:=h;obtain⟨u,rfl,g⟩:=e8 r;cases g;have k:=lz;rcases b with b|b
 ·obtain⟨e,d,c,i⟩:=I.list b;have a:=d.length;exact Calls.call_len_list c.isList (by simp only[B4]<;>omega) ⟨.int ys.length,H,I.tok _,⟨_,by rw[B4,a]⟩,q⟩
 ·obtain⟨e,d,c,i⟩:=I.tuple b;have a:=d.length;exact len_tuple c (by simp only[B4]<;>omega) ⟨.int ys.length,H,I.tok _,⟨_,by rw[B4,a]⟩,q⟩
theorem call_len_str:CallR X (.builtin "len") (λxs H Q=>∃z,xs=[.str z]/\z.length<=Av/\Q (.int z.length) H):=by
 intro a s σ H xs c Q I r h;obtain⟨z,rfl,d,q⟩:=h;obtain⟨u,rfl,t,rfl⟩:=e8 r;have b:=lz;exact len_str ⋯ ⟨.int z.length,H,I.tok _,⟨_,rfl⟩,q⟩
theorem CallR.or{f:Af}{r r':List V->Hp->VK->Prop}(h:CallR X f r)(h':CallR X f r'):CallR X f (λxs H Q=>r xs H Q\/r' xs H Q):=by
 intro a s σ H xs b Q I c q;rcases q with q|q
 ·exact h a s σ H xs b Q I c q
 ·exact h' a s σ H xs b Q I c q
theorem Pb:CallR X (.type "list") (λxs H Q=>∃p ys,xs=[.ref p]/\(SqL X.K H p ys\/SqT X.K H p ys)/\∀l,H l=af->Q (.ref l) (upd H l (.lst ys))):=by
 intro t s σ H xs D Q I r h;obtain⟨p,ys,rfl,j,q⟩:=h;obtain⟨u,rfl,C⟩:=e8 r;cases C;have m:∀i',Vals ys i'->ys.length<=Av->∀f d,(∀b o',s.heap.get? b=ae o'->f.get? b=ae o')->
   f.get? s.heap.objs.size=ae {cls:=.type "list",dict:=af,data:=.seq i'.toArray d,slots:=#[]}->EP X t σ Q _ {s with heap:=f}:=λi' c k f d g e=>
  ⟨.ref s.heap.objs.size,_,I.laid g (by simp) (show ObjOk X.prog X.w _ f _ (.lst ys)from⟨k,i',d,c,e⟩),rfl,q _ (I.hok.fresh (by simp))⟩
 rcases j with j|j
 ·obtain⟨i',c,y,k⟩:=I.list j;have i:=c.length;obtain⟨o,v,z,n,x⟩:=y.isList;exact call_list_seq p (.inl rfl) v z x (m i' c k) (by simp<;>omega)
 ·obtain⟨i',c,y,k⟩:=I.tuple j;have i:=c.length;obtain⟨o,v,z,n,x⟩:=y;exact call_list_seq p (.inr rfl) v z x (m i' c k) (by simp<;>omega)
theorem Ta:CallR X (.type "tuple") (λxs H Q=>∃p ys,xs=[.ref p]/\((SqL X.K H p ys/\∀l,H l=af->Q (.ref l) (upd H l (.tup ys)))\/(SqT X.K H p ys/\Q (.ref p) H))):=by
 intro a s σ H xs y Q I r h;obtain⟨p,ys,rfl,h⟩:=h;obtain⟨u,rfl,x⟩:=e8 r;cases x;rcases h with⟨g,q⟩|⟨g,q⟩
 ·obtain⟨c,i,f,n⟩:=I.list g;have m:=i.length;refine call_tuple_list f.isList (λh' v=>?_) (by simp<;>omega);have t:Inv X a σ H {s with heap:=h'}:=I.kept v;have w:Inv X a σ (upd H h'.objs.size (.tup ys)) {s with heap:=h'.push {cls:=.type "tuple",data:=.seq c.toArray}}:=
   t.laid (λb o=>Ae _) (by simp) (⟨n,c,i,IsTupP.new _ _⟩)
  exact⟨.ref h'.objs.size,_,w,rfl,q _ (t.hok.fresh (by simp))⟩
 ·obtain⟨c,i,f,n⟩:=I.tuple g;exact call_tuple_same f ⟨.ref p,H,I,rfl,q⟩
def tL(K:Ag)(T:String)(x:V)(H:Hp):Prop:=match x with
 |.str _=>T="str"
 |.int _=>T="int"
 |.ref p=>(T="list"/\∃xs,SqL K H p xs)\/(T="tuple"/\∃o,K.lookup p=ae o/\o.cls=.type "tuple"/\o.dict=af) \/
   (T="dict"/\((∃kvs,H p=ae (.dK kvs))\/∃kvs,H p=ae (.dT kvs)))\/(T="set"/\∃S n,H p=ae (.set S n))
 |_=>False
theorem zO{i_:List (A'×Obj)}{σ:St}{H:Hp}{s:Ai}{T:String}{x:V}{v:Af}(I:Inv X i_ σ H s)(r:RelV x v)(ty:tL X.K T x H):
  s.TypeIs v T/\∀a,v=.ref a->∃ob,s.heap.get? a=ae ob/\ob.dict=af:=by
 cases x with
 |str z=>
  obtain⟨t,rfl⟩:=r;cases(ty);exact⟨typeIs_str s z t,λ_ e=>nomatch e⟩
 |int i=>
  obtain⟨t,rfl⟩:=r;cases(ty);exact⟨typeIs_int s i t,λ_ e=>nomatch e⟩
 |ref p=>
  cases r;rcases ty with⟨rfl,w,l⟩|⟨rfl,o,b,u,g⟩|⟨rfl,b⟩|⟨rfl,S,n,b⟩
  ·obtain⟨q,_,j,_⟩:=I.list l;refine⟨j.isList.typeIs,λa e=>?_⟩;cases e;obtain⟨o,n,e,c,g,_⟩:=j;exact⟨o,e,g⟩
  ·refine⟨⟨o,I.kIn p o b,u⟩,λa e=>?_⟩;cases e;exact⟨o,I.kIn _ o b,g⟩
  ·have z:∃o,s.heap.get? p=ae o/\o.ExactDict:=by
    rcases b with⟨f,b⟩|⟨f,b⟩
    ·obtain⟨_,_,_,_,o,_,_,e,d,_⟩:=I.hok p _ b;exact⟨o,e,d⟩
    ·obtain⟨_,_,_,_,o,_,_,e,d,_⟩:=I.hok p _ b;exact⟨o,e,d⟩
   obtain⟨o,e,d⟩:=z;refine⟨⟨o,e,d.1⟩,λa h=>?_⟩;cases h;exact⟨o,e,d.2.1⟩
  ·obtain⟨o,_,_,_,e,d,_⟩:=I.hok p _ b;refine⟨⟨o,e,d.1⟩,λa h=>?_⟩;cases h;exact⟨o,e,d.2.1⟩
 |_=>exact False.elim ty
def kJ(K:Ag)(T:String)(r:V->List V->Hp->VK->Prop)(to:TE):TE:=λσ H Q=>to σ H λx H1=>tL K T x H1/\r x [] H1 Q
def px(K:Ag)(T:String)(r:V->List V->Hp->VK->Prop)(to:TE)(t:TA):TE:=λσ H Q=>to σ H λx H1=>tL K T x H1/\t σ H1 λxs H2=>r x xs H2 Q
variable{o e:Expr}{es:List Expr}{to:TE}{t:TA}{name:Str}{apos cpos:Pos}{T id:String}{r:V->List V->Hp->VK->Prop}
theorem FJ(pa:PlainAttrs T)(slot:Slot T name id)(hty:typeOf (.builtin id)=pure (.type "method_descriptor"))(hm:si X id r)(ho:PE X o to)
  (hbase:G4 o name X.env (eval o X.env)=eval o X.env) (hline:(apos.endLine==cpos.line)=ah):PE X (.Call (.Attribute o name apos) [] [] cpos) (kJ X.K T r to):=by
 intro a s σ H Q I h;refine wpAny_Call_method0_late hbase hline (aL (ho a s σ H _ I h) λv g u=>?_);obtain⟨x,i,b,c,e,f⟩:=u;obtain⟨j,d⟩:=zO b c e;exact⟨T,id,pa,slot,hty,j,d,Calls.callWith_builtin rfl (PySem.evalArgs_none (hm a g σ i x [] v [] Q b c .nil f))⟩
theorem BE(pa:PlainAttrs T)(slot:Slot T name id)(hty:typeOf (.builtin id)=pure (.type "method_descriptor"))(hm:si X id r)(ho:PE X o to)(ha:PA X (e::es) t)
  (hbase:G4 o name X.env (eval o X.env)=eval o X.env)
  (hfew:((C0 cpos (Aq (e::es) X.env)).all (λx=>!x.1)&&(backToKw cpos (keywordEach [] X.env)).all (λx=>x.1.isSome)
   && decide ((e::es).length+([]:List Keyword).length+(if ([]:List Keyword).isEmpty then 0 else 1) < 30))=ah)
  (hline:(apos.endLine==cpos.line)=ah) (hs:Aq (e::es) X.env=(ai,eval e X.env)::Aq es X.env) (hplain:(C0 cpos (Aq es X.env)).any (·.1)=ai):
  PE X (.Call (.Attribute o name apos) (e::es) [] cpos) (px X.K T r to t):=by
 intro a s σ H Q I h;refine wpAny_Call_method_late hbase hfew hline rfl (aL (ho a s σ H _ I h) λv w y=>?_);obtain⟨x,m,b,c,p,j⟩:=y;obtain⟨n,f⟩:=zO b c p;refine⟨T,id,pa,slot,hty,n,f,?_⟩;have d:=ha cpos a w σ m _ b j;rw[hs]at d ⊢;exact Calls.callWith_builtin (by assumption) (Calls.evalArgs_plain (aL d λus q z=>by obtain⟨l,k,g,u,i⟩:=z;exact hm a q σ k x l v us Q g c u i))
end
def ux(X:Cx)(id:String)(r:V->List V->Hp->VK->Prop):Prop:=
 ∀(i_:List (A'×Obj))(s:Ai)(σ:St)(H:Hp)(x:V)(xs:List V)(v:Af)(us:List Af)(Q:VK),Inv X i_ σ H s->RelV x v->Vals xs us->r x xs H Q->
  A2 (A5 X.prog X.w) X.A (call (.builtin id) (v::us)) (EP X i_ σ Q) X.xe s
theorem Vals.one:∀{x:V}{us:List Af},Vals [x] us->∃u,us=[u]/\RelV x u
 |_,_,.cons r .nil=>⟨_,rfl,r⟩
theorem Vals.zero:∀{us:List Af},Vals [] us->us=[]
 |_,.nil=>rfl
section
variable{X:Cx}{i_:List (A'×Obj)}{σ:St}{H:Hp}{s:Ai}{l b:A'}{xs ys zs:List V}
theorem Inv.lset{i' its':List Af}{n:Nat}{f:Array Af->Array Af}{t':Nat}(I:Inv X i_ σ H s)(hH:H l=ae (.lst xs))
  (e:s.heap.get? l=ae {cls:=.type "list",data:=.seq i'.toArray n}) (hf:f i'.toArray=its'.toArray) (hv:Vals ys its') (hz:ys.length<=Av):
  Inv X i_ σ (upd H l (.lst ys)) {s with heap:=s.heap.update l (Dr f),toks:=t'}:=by
 have q:=PySem.IsL.update e f;rw[hf]at q;refine I.write (by rw[hH];trivial) (.inl rfl) (λb' u b=>(C5 s.heap _ (Ne.symm b)).trans) ⟨_,q⟩ ?_;exact⟨hz,_,_,hv,q⟩
theorem Inv.lnew{i':List Af}{t':Nat}(I:Inv X i_ σ H s)(hv:Vals ys i')(hz:ys.length<=Av):
  Inv X i_ σ (upd H s.heap.objs.size (.lst ys)) {s with heap:=s.heap.push {cls:=.type "list",data:=.seq i'.toArray},toks:=t'}:=
 I.laid (λ_ _=>Ae _) (by simp) ⟨hz,i',0,hv,Au _ rfl⟩
theorem Inv.fresh(I:Inv X i_ σ H s):H s.heap.objs.size=af:=I.hok.fresh (by simp)
theorem Inv.lstM(I:Inv X i_ σ H s)(hH:H l=ae (.lst xs)):xs.length<=Av/\∃(i':List Af)(n:Nat),Vals xs i'/\xs.length=i'.length/\s.heap.get? l=ae {cls:=.type "list",data:=.seq i'.toArray n}:=by
 obtain⟨z,i',n,r,e⟩:=I.hok l _ hH;exact⟨z,i',n,r,r.length,e⟩
theorem Ow{n:Nat}(h:n<=Av):Builtin.List.listTooLong n=ai:=d_ ⋯
end
section
variable{X:Cx}
def sE:V->List V->Hp->VK->Prop:=λx vs H Q=>∃l xs y,x=.ref l/\vs=[y]/\H l=ae (.lst xs)/\xs.length < Av/\Q .non (upd H l (.lst (xs++[y])))
theorem yU:ux X "list.append" sE:=by
 intro c s σ H x j v k Q I d f h;obtain⟨l,o,y,rfl,rfl,b,m,q⟩:=h;cases d;obtain⟨u,rfl,g⟩:=f.one;obtain⟨z,a,n,r,i,e⟩:=I.lstM b;refine call_meets F.slot_list_append ⟨_,e,rfl⟩ F.entry_list_append (by trivial) (PySem.list_append l a.toArray n u (by simp<;>omega)) ⟨e,⟨.non,_,I.lset b e (by simp) (r.append (.cons g .nil)) ?_,rfl,q⟩⟩;simp<;>omega
def xy:V->List V->Hp->VK->Prop:=λx vs H Q=>∃l b xs zs,x=.ref l/\vs=[.ref b]/\H l=ae (.lst xs)/\H b=ae (.lst zs)/\xs.length+zs.length<=Av/\Q .non (upd H l (.lst (xs++zs)))
theorem Ia:ux X "list.extend" xy:=by
 intro j s σ H x E v G Q I k m h;obtain⟨l,b,K,C,rfl,rfl,i,o,J,q⟩:=h;cases k;obtain⟨u,rfl,A⟩:=m.one;cases A;obtain⟨z,c,n,r,B,e⟩:=I.lstM i;obtain⟨D,a,p,y,t,w⟩:=I.lstM o;have g:c.toArray.size+a.toArray.size<=Av:=by simp<;>omega
 have d:¬(!c.toArray.isEmpty&&Builtin.List.listTooLong (c.toArray.size+a.toArray.size))=ah:=by
  rw[Ow g];simp
 refine call_meets F.slot_list_extend ⟨_,e,rfl⟩ F.entry_list_extend (by trivial)
  (AutoSeq1.list_extend_list_list_0 l c.toArray n b a.toArray p d (by simp_all) ⋯) ⟨e,w,?_⟩
 refine⟨.non,_,I.lset i e (by simp) (r.append y) ?_,rfl,q⟩;simp<;>omega
def zI:V->List V->Hp->VK->Prop:=λx vs H Q=>∃l xs,x=.ref l/\vs=[]/\H l=ae (.lst xs)/\Q .non (upd H l (.lst []))
theorem R3:ux X "list.clear" zI:=by
 intro c s σ H x j v i Q I g f h;obtain⟨l,m,rfl,rfl,d,q⟩:=h;cases g;have a:=f.zero;subst a;obtain⟨z,b,n,r,k,e⟩:=I.lstM d;exact call_meets F.slot_list_clear ⟨_,e,rfl⟩ F.entry_list_clear (by trivial) (AutoSeq1.list_clear_list_0 l b.toArray n (by rw[B4];omega)) ⟨e,⟨.non,_,I.lset d e rfl .nil ∎,rfl,q⟩⟩
def iW:R2:=λx y H Q=>∃l b xs zs,x=.ref l/\y=.ref b/\H l=ae (.lst xs)/\H b=ae (.lst zs)/\xs.length+zs.length<=Av/\∀p,H p=af->Q (.ref p) (upd H p (.lst (xs++zs)))
theorem w6:OpR X (E9 .Add) iW:=by
 intro d s σ H x y v u Q I f i h;obtain⟨l,b,D,w,rfl,rfl,o,g,C,q⟩:=h;cases f;cases i;obtain⟨z,c,n,r,t,e⟩:=I.lstM o;obtain⟨A,a,B,m,j,k⟩:=I.lstM g;refine PySem.P.add_list e k ?_ (by simp<;>omega);have p:c.toArray++a.toArray=(c++a).toArray:=by simp
 rw[p];exact⟨.ref _,_,I.lnew (r.append m) (by simp<;>omega),rfl,q _ I.fresh⟩
end
section
variable{κ:Type}[DecidableEq κ]
def b3(kvs:List (κ×V))(k:κ):Option V:=(kvs.find? λkv=>decide (kv.1=k)).map (·.2)
def bI(kvs:List (κ×V))(k:κ)(v:V):List (κ×V):=
 if (kvs.any λkv=>decide (kv.1=k))=ah then kvs.map (λkv=>if kv.1=k then(kv.1,v)else kv)else kvs++[(k,v)]
theorem uq{p:κ×V}{r:List (κ×V)}{k:κ}(e:p.1=k):b3 (p::r) k=ae p.2:=by simp[b3,e]
theorem t8{p:κ×V}{r:List (κ×V)}{k:κ}(e:¬p.1=k):b3 (p::r) k=b3 r k:=by simp[b3,e]
theorem DK(k:κ):∀kvs:List (κ×V),(kvs.any λkv=>decide (kv.1=k))=(b3 kvs k).isSome
 |[]=>rfl
 |p::r=>by
  rw[Di];by_cases e:p.1=k
  ·simp only[uq e,c_ e,Bool.true_or,Option.isSome_some]
  ·rw[t8 e,d_ e];exact DK k r
theorem pV(kvs:List (κ×V))(k:κ)(v:V):(bI kvs k v).length<=kvs.length+1:=by
 unfold bI
 split
 ·rw[Ab];omega
 ·rw[As,Ax,List.length_nil];omega
theorem RelO.isSome_eq{o:Option V}{u:Option Af}(r:RelO o u):o.isSome=u.isSome:=by
 cases o with
 |none=>cases u with
  |none=>rfl
  |some _=>exact(r).elim
 |some _=>cases u with
  |none=>exact(r).elim
  |some _=>rfl
theorem KV.val{kvs:List (κ×V)}{vs:List (κ×Af)}(r:KV kvs vs)(k:κ):RelO (b3 kvs k) (valueAt vs k):=by
 induction r with
 |nil=>exact Gq
 |@cons p q g c h t i=>
  obtain⟨d,f⟩:=h;by_cases e:p.1=k
  ·have a:=d.symm.trans e;have b:valueAt (q::c) k=ae q.2:=by simp[valueAt,a]
   rw[uq e,b];trivial
  ·have a:¬q.1=k:=λz=>e (d.trans z);have b:valueAt (q::c) k=valueAt c k:=by simp[valueAt,a]
   rw[t8 e,b];omega
theorem KV.any{kvs:List (κ×V)}{vs:List (κ×Af)}(r:KV kvs vs)(k:κ):(kvs.any λkv=>decide (kv.1=k))=vs.any λkv=>decide (kv.1=k):=by
 induction r with
 |nil=>rfl
 |cons h t a=>rw[Di,Di,a,h.1]
theorem KV.repl{kvs:List (κ×V)}{vs:List (κ×Af)}(r:KV kvs vs)(k:κ){y:V}{u:Af}(ry:RelV y u):
  KV (kvs.map λkv=>if kv.1=k then(kv.1,y)else kv) (vs.map λkv=>if kv.1=k then(kv.1,u)else kv):=by
 induction r with
 |nil=>exact .nil
 |@cons p q f d h t b=>
  rw[Bk,Bk];refine .cons ?_ b;obtain⟨a,c⟩:=h;by_cases e:p.1=k
  ·rw[b_ e,b_ (by simp_all)];exact⟨a,ry⟩
  ·rw[a_ e,a_ (λz=>e (a.trans z))];trivial
theorem KV.put{kvs:List (κ×V)}{vs:List (κ×Af)}(r:KV kvs vs)(k:κ){y:V}{u:Af}(ry:RelV y u):KV (bI kvs k y) (stored vs k u):=by
 unfold bI stored;rw[r.any k];by_cases e:(vs.any λkv=>decide (kv.1=k))=ah
 ·rw[b_ e,b_ e];exact r.repl k ry
 ·rw[a_ e,a_ e];exact Paired.snoc r ⟨rfl,ry⟩
theorem KV.length{kvs:List (κ×V)}{vs:List (κ×Af)}(r:KV kvs vs):kvs.length=vs.length:=D3 r
end
theorem ly{P:A1}{w:Bh}{k:aC}{u:Af}(r:RelV (kV k) u):(fh P w).is k u=ah:=by
 cases k with
 |inl i=>obtain⟨t,e⟩:=(r);subst e;exact AH P w i t
 |inr x=>obtain⟨t,e⟩:=(r);subst e;exact DU P w x t
theorem EG{P:A1}{w:Bh}:∀{ks:List aC}{us:List Af},Vals (ks.map kV) us->ItemsAre (fh P w) ks us
 |[],_,r=>by cases r;exact .nil
 |k::ks,_,r=>by
  cases r with
  |cons h t=>exact .cons (ly h) (EG t)
abbrev KT(H:Hp):List (List aC×V)->List (List aC×A'×Af)->Prop:=Paired λp q=>p.1=q.1/\H q.2.1=ae (.tup (p.1.map kV))/\RelV p.2 q.2.2
theorem KT.val{H:Hp}{kvs:List (List aC×V)}{xs:List (List aC×A'×Af)}(r:KT H kvs xs)(k:List aC):RelO (b3 kvs k) ((atKey xs k).map (·.2)):=by
 induction r with
 |nil=>exact Gq
 |@cons p q g c h t i=>
  obtain⟨d,_,f⟩:=h;by_cases e:p.1=k
  ·have a:=d.symm.trans e;have b:atKey (q::c) k=ae q.2:=by simp[atKey,a]
   rw[uq e,b];exact f
  ·have a:¬q.1=k:=λz=>e (d.trans z);have b:atKey (q::c) k=atKey c k:=by simp[atKey,a]
   rw[t8 e,b];omega
theorem KT.repl{H:Hp}{kvs:List (List aC×V)}{xs:List (List aC×A'×Af)}(r:KT H kvs xs)(k:List aC){y:V}{u:Af}(ry:RelV y u):
  KT H (kvs.map λkv=>if kv.1=k then(kv.1,y)else kv) (xs.map (putAt k u)):=by
 induction r with
 |nil=>exact .nil
 |@cons p q f d h t c=>
  rw[Bk];refine .cons ?_ c;obtain⟨a,b,g⟩:=h;unfold putAt;by_cases e:p.1=k
  ·rw[b_ e,b_ (by simp_all)];exact⟨a,b,ry⟩
  ·rw[a_ e,a_ (λz=>e (a.trans z))];trivial
theorem KT.put{H:Hp}{kvs:List (List aC×V)}{xs:List (List aC×A'×Af)}(r:KT H kvs xs)(k:List aC){b:A'}{y:V}{u:Af}(hb:H b=ae (.tup (k.map kV)))(ry:RelV y u):
  KT H (bI kvs k y) (storedH xs k b u):=by
 have e:(kvs.any λkv=>decide (kv.1=k))=(atKey xs k).isSome:=by
  rw[DK,(r.val k).isSome_eq,Ff]
 unfold bI storedH;rw[e];by_cases q:(atKey xs k).isSome=ah
 ·rw[b_ q,b_ q];exact r.repl k ry
 ·rw[a_ q,a_ q];exact Paired.snoc r ⟨rfl,hb,ry⟩
theorem KT.keeps{H H':Hp}{kvs:List (List aC×V)}{xs:List (List aC×A'×Af)}(r:KT H kvs xs)(ht:∀b ys,H b=ae (.tup ys)->H' b=ae (.tup ys)):KT H' kvs xs:=
 Paired.mapP r λ_ _ z=>⟨z.1,ht _ _ z.2.1,z.2.2⟩
section
variable{P:A1}{w:Bh}{H:Hp}{h:Heap}{a:A'}
theorem zj{u:HO}(ok:HOk P w H h)(e:Rd H a u):ObjOk P w H h a u:=e.ok ok
theorem nI{kvs:List (aC×V)}(ok:HOk P w H h)(e:Rd H a (.dK kvs)):kvs.length<=Av/\(a==Dk)=ai/\∃vs,KV kvs vs/\h.DictOf (fh P w) a vs:=
 show ObjOk P w H h a (.dK kvs)from zj ok e
theorem yc{kvs:List (aC×V)}(ok:HOk P w H h)(e:H a=ae (.dK kvs)):kvs.length<=Av/\(a==Dk)=ai/\∃vs,KV kvs vs/\h.DictOf (fh P w) a vs:=nI ok (.inl e)
theorem mw{ks:List aC}(ok:HOk P w H h)(e:H a=ae (.tup (ks.map kV))):(tupleKind (fh P w)).is h ks a:=by
 obtain⟨_,c,r,o,f,b,⟨n,d⟩,_⟩:=(show ObjOk P w H h a (.tup _)from ok a _ e);exact⟨o,_,n,f,b,d,by simpa using EG r⟩
theorem mE{kvs:List (List aC×V)}(ok:HOk P w H h)(e:Rd H a (.dT kvs)):kvs.length<=Av/\(a==Dk)=ai /\
  ∃xs,KT H kvs xs/\h.DictOfH (tupleKind (fh P w)) a xs:=by
 obtain⟨z,y,xs,r,o,j,n,k,d,g,i,f⟩:=(show ObjOk P w H h a (.dT kvs)from zj ok e);refine⟨z,y,xs,r,o,j,n,k,d,g,i,λx b=>?_,f⟩;have c:∀{l:List _}{m:List _},KT H l m->∀x∈m,(tupleKind (fh P w)).is h x.1 x.2.1:=by
  intro l m q
  induction q with
  |nil=>intro x b;trivial
  |@cons p q u A v t s=>
   intro x b;rcases Ar.mp b with e|b
   ·subst e;exact mw ok (by simp_all)
   ·exact s x b
 exact c r x b
theorem Oj{kvs:List (List aC×V)}(ok:HOk P w H h)(e:H a=ae (.dT kvs)):kvs.length<=Av/\(a==Dk)=ai /\
  ∃xs,KT H kvs xs/\h.DictOfH (tupleKind (fh P w)) a xs:=mE ok (.inl e)
end
def DGet(H:Hp)(a:A')(y:V)(r:Option V):Prop:=
 (∃kvs k,Rd H a (.dK kvs)/\y=kV k/\r=b3 kvs k)\/∃kvs k b,Rd H a (.dT kvs)/\y=.ref b/\H b=ae (.tup (k.map kV))/\r=b3 kvs k
def DPut(H:Hp)(a:A')(y v:V)(H':Hp):Prop:=
 (∃kvs k,H a=ae (.dK kvs)/\y=kV k/\kvs.length < Av/\H'=upd H a (.dK (bI kvs k v))) \/
 ∃kvs k b,H a=ae (.dT kvs)/\y=.ref b/\H b=ae (.tup (k.map kV))/\kvs.length < Av/\H'=upd H a (.dT (bI kvs k v))
theorem DGet.t{H:Hp}{a b:A'}{kvs:List (List aC×V)}{k:List aC}(e:H a=ae (.dT kvs))(eb:H b=ae (.tup (k.map kV))):DGet H a (.ref b) (b3 kvs k):=.inr ⟨kvs,k,b,.inl e,rfl,eb,rfl⟩
theorem DPut.k{H:Hp}{a:A'}{kvs:List (aC×V)}{k:aC}{v:V}(e:H a=ae (.dK kvs))(hl:kvs.length < Av):DPut H a (kV k) v (upd H a (.dK (bI kvs k v))):=.inl ⟨kvs,k,e,rfl,hl,rfl⟩
theorem DPut.t{H:Hp}{a b:A'}{kvs:List (List aC×V)}{k:List aC}{v:V}(e:H a=ae (.dT kvs))(eb:H b=ae (.tup (k.map kV)))(hl:kvs.length < Av):
  DPut H a (.ref b) v (upd H a (.dT (bI kvs k v))):=.inr ⟨kvs,k,b,e,rfl,eb,hl,rfl⟩
section
variable{X:Cx}{i_:List (A'×Obj)}{σ:St}{H:Hp}{s:Ai}{a:A'}{y v:V}{u r:Af}{o:Option V}{A:Bo}{E:Af->Ai->Prop}
theorem Inv.big(I:Inv X i_ σ H s):Dk < s.heap.objs.size:=by
 exact Nat.lt_trans ∎ ((I.mod.glob.keeps I.bk).lt)
theorem OZ{Q:Af->Ai->Prop}(hu:A.units+1 < Dd)(I:Inv X i_ σ H s)(g:DGet H a y (ae v))(ry:RelV y u)(h:∀w' s',Inv X i_ σ H s'->RelV v w'->Q w' s'):
  A2 (A5 X.prog X.w) A (getItem (.ref a) u) Q E s:=by
 rcases g with⟨i,k,e,n,l⟩|⟨i,k,b,e,n,o,l⟩
 ·subst n;obtain⟨z,r,t,c,f⟩:=nI I.hok e;obtain⟨w',m,d⟩:=RelO.some_of (l▸c.val k);exact wpAny_getItem_of (ly ry) f.mapOf m (h w' _ (I.tok _) d)
 ·subst n;cases(ry);obtain⟨z,r,x,c,f⟩:=mE I.hok e;obtain⟨w',m,d⟩:=RelO.some_of (l▸c.val k);obtain⟨p,q,j⟩:=E6.mp m;refine wpAny_getItem_heap (by assumption) (mw I.hok o) f q ?_;rw[j];exact h w' _ (I.tok _) d
theorem rj{Q:Af->Ai->Prop}(hu:A.units+1 < Dd)(I:Inv X i_ σ H s)(g:DGet H a y o)(ry:RelV y u)(h:∀s',Inv X i_ σ H s'->Q (.bool o.isSome) s'):
  A2 (A5 X.prog X.w) A (B3 .In u (.ref a)) Q E s:=by
 rcases g with⟨j,k,e,f,l⟩|⟨j,k,b,e,f,m,l⟩
 ·subst f;obtain⟨z,i,p,c,d⟩:=nI I.hok e;refine wpAny_in_of (ly ry) i d.mapOf ?_;rw[<-(c.val k).isSome_eq,<-l];exact h _ (I.tok _)
 ·subst f;cases(ry);obtain⟨z,i,n,c,d⟩:=mE I.hok e;refine wpAny_in_heap (by assumption) (mw I.hok m) i d ?_;have q:=(c.val k).isSome_eq;rw[Ff]at q;rw[<-q,<-l];exact h _ (I.tok _)
theorem OT{Q:Af->Ai->Prop}(hu:A.units+1 < Dd)(I:Inv X i_ σ H s)(g:DGet H a y o)(ry:RelV y u)(h:∀s',Inv X i_ σ H s'->Q (.bool (!o.isSome)) s'):
  A2 (A5 X.prog X.w) A (B3 .NotIn u (.ref a)) Q E s:=by
 rcases g with⟨j,k,e,f,l⟩|⟨j,k,b,e,f,m,l⟩
 ·subst f;obtain⟨z,i,p,c,d⟩:=nI I.hok e;refine wpAny_notIn_of (ly ry) i d.mapOf ?_;rw[<-(c.val k).isSome_eq,<-l];exact h _ (I.tok _)
 ·subst f;cases(ry);obtain⟨z,i,n,c,d⟩:=mE I.hok e;refine wpAny_notIn_heap (by assumption) (mw I.hok m) i d ?_;have q:=(c.val k).isSome_eq;rw[Ff]at q;rw[<-q,<-l];exact h _ (I.tok _)
theorem lP{h':Heap}{t':Nat}{ob:HO}(I:Inv X i_ σ H s)(mu:mK (H a))(hs:C6 a s.heap h')(he:∃q,h'.get? a=ae q)(new:ObjOk X.prog X.w (upd H a ob) h' a ob):
  Inv X i_ σ (upd H a ob) {s with heap:=h',toks:=t'}:=
 I.write mu (.inl rfl) (λb q c=>(hs.2 b c).trans) he new
theorem zv{P:A1}{w:Bh}{H':Hp}{h':Heap}{kvs:List (aC×V)}{vs:List (aC×Af)}(z:kvs.length<=Av)(hd:(a==Dk)=ai)(rel:KV kvs vs)(dd:h'.DictOf (fh P w) a vs):
  ObjOk P w H' h' a (.dK kvs):=⟨z,hd,vs,rel,dd⟩
theorem Lh{H':Hp}{Q:Unit->Ai->Prop}(hu:A.units+1 < Dd)(I:Inv X i_ σ H s)(g:DPut H a y v H')(ry:RelV y u)(rv:RelV v r)(h:∀s',Inv X i_ σ H' s'->Q () s'):
  A2 (A5 X.prog X.w) A (setItem (.ref a) u r) Q E s:=by
 rcases g with⟨d,k,e,t,l,B⟩|⟨d,k,b,e,t,C,l,B⟩
 ·subst t B;obtain⟨z,p,M,f,n⟩:=yc I.hok e;have N:M.length<=Av:=by rw[<-f.length];exact z
  have o:(bI d k v).length<=Av:=by have:=pV d k v;omega
  refine wpAny_setItem_pairs (ly ry) n λh' i x=>h _ ?_;have G:∃q,h'.get? a=ae q:=let⟨q,_,_,m,_⟩:=i;⟨q,m⟩;exact lP I (by rw[e];trivial) x G (zv o p (f.put k rv) i)
 ·subst t B;cases(ry);obtain⟨z,p,P,f,n⟩:=Oj I.hok e;have N:P.length<=Av:=by rw[<-D3 f];exact z
  have o:(bI d k v).length<=Av:=by have:=pV d k v;omega
  refine wpAny_setItem_heap (by assumption) (mw I.hok C) n λh' i x=>h _ ?_;obtain⟨q,L,O,m,D,J,K,_,F⟩:=i;refine lP I (by rw[e];trivial) x ⟨q,m⟩ ⟨o,p,_,(f.put k C rv).keeps λc S R=>?_,q,L,O,m,D,J,K,F⟩;rw[aH (xf R e (λz=>nomatch z))];omega
end
def gV(i:Expr):Prop:=∀ov iv,subscripted i ai ov iv=operate [ov,iv] (getItem ov iv)
theorem AK{prog:A1}{w:Bh}{A:Bo}{E:Af->Ai->Prop}{s:Ai}{env:Env}{value slice:Expr}{pos:Pos}{T id:String}{Q:Af->Ai->Prop}
  (hl:typeLookup (.type T) "__getitem__"=pure (ae (.builtin id))) (hs:gV slice)
  (h:A2 (A5 prog w) A (eval value env) (λo s_=>A2 (A5 prog w) A (eval slice env) (λi t_=>t_.TypeIs o T/\A2 (A5 prog w) A (getItem o i) Q E t_) E s_) E s):
  A2 (A5 prog w) A (eval (.Subscript value slice pos) env) Q E s:=by
 refine Subscript_ (C8 h (λo s_ g=>C8 g (λi t_ c=>?_) λ_ _ x=>x) λ_ _ x=>x);obtain⟨f,c⟩:=c;refine Aa (Aa (wpAny_specialOf f hl ?_));have b:A2 (A5 prog w) A (subscripted slice ai o i) (λr=>A2 (A5 prog w) A (letTemporaryGo value o r>>=λ_=>pure r) Q E) E t_:=(hs o i)▸wpAny_operating (C8 c (λr d e=>Aa (wpAny_letTemporaryGo (Aj e))) λ_ _ x=>x)
 first
  |exact Aj (Aa b)
  |exact Aa _
  |exact Aa b
theorem NA{X:Cx}{i_:List (A'×Obj)}{σ:St}{H:Hp}{s:Ai}{a:A'}{y:V}{o:Option V}(I:Inv X i_ σ H s)(g:DGet H a y o):s.TypeIs (.ref a) "dict":=by
 rcases g with⟨d,k,e,_,_⟩|⟨d,k,b,e,_,_,_⟩
 ·obtain⟨_,_,h,_,c⟩:=nI I.hok e;exact c.typeIs
 ·obtain⟨_,_,f,_,c⟩:=mE I.hok e;exact c.typeIs
def FE(td ty:TE):TE:=λσ H Q=>td σ H λx H1=>ty σ H1 λy H2=>∃a v,x=.ref a/\DGet H2 a y (ae v)/\Q v H2
def jQ(ty td:TE):TE:=λσ H Q=>ty σ H λy H1=>td σ H1 λx H2=>∃a o,x=.ref a/\DGet H2 a y o/\Q (.bl o.isSome) H2
def m4(ty td:TE):TE:=λσ H Q=>ty σ H λy H1=>td σ H1 λx H2=>∃a o,x=.ref a/\DGet H2 a y o/\Q (.bl (!o.isSome)) H2
def uu(td ty tv:TE):TS:=λD σ H=>tv σ H λv H1=>td σ H1 λx H2=>ty σ H2 λy H3=>∃a H4,x=.ref a/\DPut H3 a y v H4/\D.nx σ H4
section
variable{X:Cx}{o i e value:Expr}{pos pos' tpos:Pos}{td ty tv:TE}
theorem Lv(hu:X.A.units+1 < Dd)(ho:PE X o td)(hi:PE X i ty)(hs:gV i):PE X (.Subscript o i pos) (FE td ty):=by
 intro b s σ H Q I h;refine AK PySem.F.slot_dict_getitem.lookup hs (aL (ho b s σ H _ I h) λu r ⟨x,l,p,k,f⟩=>aL (hi b r σ l _ p f) λiv t u=>?_);obtain⟨y,j,d,n,a,v,q,g,e⟩:=u;subst q;obtain rfl:=k;exact⟨NA d g,OZ hu d g n λw' w m c=>⟨v,j,m,c,e⟩⟩
theorem Hv(hu:X.A.units+1 < Dd)(hi:PE X i ty)(ho:PE X o td):PC X .In i o (jQ ty td):=by
 intro b s σ H Q I h;refine aL (hi b s σ H _ I h) λiv q ⟨y,k,n,m,e⟩=>aL (ho b q σ k _ n e) λu t u=>?_;obtain⟨x,f,c,j,a,r,p,g,d⟩:=u;subst p;obtain rfl:=j;exact rj hu c g m λs3 l=>⟨.bl r.isSome,f,l,rfl,d⟩
theorem EK(hu:X.A.units+1 < Dd)(hi:PE X i ty)(ho:PE X o td):PC X .NotIn i o (m4 ty td):=by
 intro b s σ H Q I h;refine aL (hi b s σ H _ I h) λiv q ⟨y,k,n,m,e⟩=>aL (ho b q σ k _ n e) λu r u=>?_;obtain⟨x,f,c,j,a,t,p,g,d⟩:=u;subst p;obtain rfl:=j;exact OT hu c g m λs3 l=>⟨.bl _,f,l,rfl,d⟩
theorem ER(hu:X.A.units+1 < Dd)(ho:PE X o td)(hi:PE X i ty)(hv:PE X value tv)(hs:Cy value (ae (.Subscript o i pos')) pos.line X.env=pure ai):
  PS X (.Assign [.Subscript o i pos'] value pos) (uu td ty tv):=by
 intro b s σ H D I h;refine wpAny_Assign_Subscript (aL (hv b s σ H _ I h) λr z ⟨v,m,q,l,f⟩=>aL (ho b z σ m _ q f) λu t ⟨x,j,c,k,d⟩=>aL (hi b t σ j _ c d) λiv F u=>?_) hs;obtain⟨y,E,n,p,a,B,w,g,C⟩:=u;subst w;obtain rfl:=k;exact Lh hu n g p l λs4 e=>⟨σ,B,e,C⟩
end
theorem DD{P:A1}{w:Bh}{H:Hp}(h:Heap)(hb:Dk < h.objs.size):ObjOk P w H (h.push {cls:=.type "dict",data:=.dict #[]}) h.objs.size (.dK []):=
 ⟨Be _,beq_eq_false_iff_ne.mpr (Ne.symm (Bd hb)),[],.nil,Heap.DictOf.new h⟩
theorem yj{P:A1}{w:Bh}{H:Hp}(h:Heap)(hb:Dk < h.objs.size):ObjOk P w H (h.push {cls:=.type "dict",data:=.dict #[]}) h.objs.size (.dT []):=
 ⟨Be _,beq_eq_false_iff_ne.mpr (Ne.symm (Bd hb)),[],.nil,_,#[],0,Au _ rfl,⟨rfl,rfl,rfl⟩,rfl,rfl,List.nodup_nil⟩
def AD:TE:=λ_ H Q=>∀p,H p=af->Q (.ref p) (upd H p (.dK []))
def AI:TE:=λ_ H Q=>∀p,H p=af->Q (.ref p) (upd H p (.dT []))
section
variable{X:Cx}{pos:Pos}
theorem R0:PE X (.Dict [] [] pos) AD:=λi_ s σ H Q I h=>
 wpAny_Dict_empty ⟨.ref s.heap.objs.size,_,I.laid (λ_ _=>Ae _) (by simp) (DD s.heap I.big),rfl,h _ (I.hok.fresh (by simp))⟩
theorem KO:PE X (.Dict [] [] pos) AI:=λi_ s σ H Q I h=>
 wpAny_Dict_empty ⟨.ref s.heap.objs.size,_,I.laid (λ_ _=>Ae _) (by simp) (yj s.heap I.big),rfl,h _ (I.hok.fresh (by simp))⟩
end
def kf(kvs more:List (aC×V)):List (aC×V):=more.foldl (λj_ kv=>bI j_ kv.1 kv.2) kvs
end L2
namespace Att
open PySem PySem.W PySem.Calls PyProof.Rows
theorem Se{P:Params}{h:Heap}:∀(ns:List Int)(vs:List Af),WellAll P h vs (ns.map WData.int)->IntsAre vs ns:=by
 intro ns
 induction ns with
 |nil=>
  intro vs w;cases w;exact .nil
 |cons n ns c=>
  intro vs w;cases w with
  |cons a b=>
   cases a;exact .cons _ _ (c _ b)
theorem LF{l:OpenLaw}{n:Nat}(hn:l.most=ae n){P:Params}{h:Heap}{args:List WData}{vals:List Af}
  (hpre:l.row.toRowW.claim.pre args=ah) (hwl:WellAll P h vals args):
  ∃a vs ns,vals=[Co a]/\args=[WData.list (ns.map WData.int)]/\h.get? a=ae {cls:=.type "list",data:=.seq vs.toArray}/\IntsAre vs ns/\ns.length<=n:=by
 have i:WShape.hasAll [] args [.list .int]=ah:=(pre_splitW hpre).1;have t:l.pre.holds [] {args:=args}=ah:=(pre_splitW hpre).2;obtain⟨d,r,rfl,s,k⟩:=hasAllW_cons i;obtain rfl:=hasAllW_nil k;obtain⟨v,rfl,p⟩:=hasW_list s;obtain⟨ns,rfl⟩:=items_int p;have c:ns.length<=n:=by
  have g:=by
   have g:=(holds_andW t).1;rw[hn]at g;omega
  have j:=condW_of g (w_not (by trivial));simp
  first
   | (rw[b u]at j;rfl)
   | (simp at j;omega)
 cases hwl with
 |cons m o=>
  cases o;cases m with
  |list q e=>exact⟨_,_,ns,rfl,rfl,q,Se ns _ e,c⟩
theorem MQ(l:OpenLaw)(args:List WData):l.row.toRowW.claim.post args (.bool ah) args=ah:=
 postW_of
  (by rfl)
  (show(WTm.eq .res _).value [] {args:=args,res:=ae _,after:=args}=ae (.bool _)from w_eq_bool (w_res rfl) w_lit) rfl
theorem attach_call{l:OpenLaw}{n:Nat}{q:A1}{loose:List Str}{XP:(Str->Option Af)->Heap->Prop}{YP:Bh->Heap->Prop}{d:DefRec}
  (hn:l.most=ae n) (hdf:d.params.defaults=[])
  (call:∀(w:Bh)(s₀ s_:Ai)(mg mb:Str->Option Af)(fa:A')(o:Obj)(pm cd doc:Af)(a:A')(vs:List Af)(ns:List Int),
   Ground q loose [] XP w s₀ mg mb s_.heap->YP w s_.heap->
   s_.heap.get? fa=ae o->o.data=.func (docDef d.name d.params d.body d.scope pm cd doc)->s_.heap.CodeRec cd d.name->mg d.name=ae (.ref fa)->
   s_.heap.get? a=ae {cls:=.type "list",data:=.seq vs.toArray}->IntsAre vs ns->ns.length<=n->s_.gens=#[]->
   codeAny (A5 l.prog w) callerA (.call (.ref fa) ⟨[.ref a],[]⟩) (λr s'=>r=.ok (.ret (.bool ah))/\OldK s_.heap s'.heap/\s'.os=s_.os/\AllBare s'.gens) s_):
  WalkO q loose XP YP l.row.toRowW d [] (λf vs=>PySem.call f vs):=by
 intro w s₀ s_ mg mb G Y fa o pm cd doc H F z A h s j u p k E g m C i D;obtain rfl:=Dflts.none s hdf;obtain rfl:=Dflts.noKw s;obtain⟨a,vs,ns,rfl,rfl,e,b,c⟩:=LF hn g i;refine enter_call (codeAny_mono (call w s₀ s_ mg mb fa o pm cd doc a vs ns G Y z (fd_plain A) h j e b c u) λr s' B=>?_);obtain⟨rfl,t,v,x⟩:=B;exact⟨.inl ⟨_,_,[],rfl,λ_=>rfl,.bool ah,MQ l _,λ_=>⟨List.Pairwise.nil,λ_ y=>(nomatch y)⟩⟩,t,v,x⟩
end Att
namespace L2
open PySem PySem.Spec PyProof.Rows
theorem yM:∀{vs:List Af}{ns:List Int},IntsAre vs ns->Vals (ns.map V.int) vs
 |_,_,.nil=>.nil
 |_,_,.cons n t h=>.cons ⟨t,rfl⟩ (yM h)
def kM(H:Hp):Prop:=∀b,H b=af\/∃o xs,H b=ae (.frz o (.lst xs))
theorem HW{P:A1}{w:Bh}{K:Ag}{mg mb:Str->Option Af}{CX:gG}{k:Nat}{fa a:A'}{fd:Cc}{x:Str}{sp:Sp}{s_:Ai}{vs:List Af}{ns:List Int}
  (KX:K.In s_.heap) (hns:s_.heap.Ns Ec mg) (hb:s_.heap.Ns builtinsNs mb) (hbb:∀x:Str,x≠"__name__"->mb x=Bw x) (hlim:s_.heap.NoLimit) (hg:s_.gens=#[])
  (ha:s_.heap.get? a=ae {cls:=.type "list",data:=.seq vs.toArray}) (hi:IntsAre vs ns) (hl:ns.length<=Av) (hr:Room k callerA)
  (F:∀base:Heap,K.In base->base.Ns Ec mg->FnOk P w K mg base CX k fa fd [x] sp) (hbind:∀(s:Ai)(u:Af),BindsTo s fd ⟨[u],[]⟩ [(x,u)])
  (hsp:∀H:Hp,kM H->SqL K H a (ns.map V.int)->sp [.ref a] H (λv _=>v=.bl ah) λ_ _ _=>False)
  (hCX:∀H e s',CX [] H s_ (λ_ _ _=>False) e s'->False):
  codeAny (A5 P w) callerA (.call (.ref fa) ⟨[.ref a],[]⟩) (λr s'=>r=.ok (.ret (.bool ah))/\OldK s_.heap s'.heap/\s'.os=s_.os/\AllBare s'.gens) s_:=by
 have U:=yM hi;have p:=hi.length
 have i:∀H:Hp,kM H->SqL K H a (ns.map V.int)->HOk P w H s_.heap->(∀b,H b≠af->b=a)->(H a≠af->K.lookup a=af)->
   codeAny (A5 P w) callerA (.call (.ref fa) ⟨[.ref a],[]⟩) (λr s'=>r=.ok (.ret (.bool ah))/\OldK s_.heap s'.heap/\s'.os=s_.os/\AllBare s'.gens) s_:=by
  intro H M hS t R Z;have c:∀{b:A'}{o:Obj},s_.heap.get? b=ae o->H b=af->(ft s_.heap H).get? b=ae o:=Q6;have L:∀{b:A'}{o:Obj}{B:Array G3}{C:Nat},s_.heap.get? b=ae o->o.data=.dict B C->H b=af:=λ{b o B C} e d=>by
   cases q:H b with
   |none=>rfl
   |some u=>
    have J:=R b (by rw[q];simp);grind
  have f:∀{b:A'}{m:Str->Option Af},s_.heap.Ns b m->(ft s_.heap H).Ns b m:=λ{b m} ⟨o,B,C,e,d,r⟩=>⟨o,B,C,c e (L e d),d,r⟩;have y:=λb o e=>c (KX b o e) (by
   cases q:H b with
   |none=>rfl
   |some u=>
    have J:=R b (by rw[q];simp);grind)
  have hM:Mod K mg (ft s_.heap H):=⟨y,f hns,⟨mb,f hb,hbb⟩,let⟨mc,X,h2⟩:=hlim;⟨mc,f X,h2⟩⟩;have Q:Env0 P w K mg _ callerA [] s_ H:=⟨rfl,hM,λb o=>R9,Nat.le_of_eq (QV _ _),trivial,λb hb=>g_ (show b∈([]:List A')from hb) (by simp),t,.of_eq hg⟩;refine codeAny_mono ((F _ y (f hns)).run callerA [] s_ H _ [.ref a] [.ref a] _ _ hr Q (hbind s_ _) (.cons rfl .nil) (hsp H M hS)) λr s' h=>?_;cases r with
  |error e=>exact(hCX H e s' h).elim
  |ok Y=>
   cases Y with
   |next=>exact False.elim h
   |brk=>exact False.elim h
   |cont=>exact False.elim h
   |ret u=>
    obtain⟨v,H',os,l,S,A,r',q⟩:=h;subst q;obtain rfl:=r';refine⟨rfl,OldK.of_keep λb o e=>?_,os,l⟩;cases q:H b with
    |none=>exact S.keep b o e q (by intro z;trivial) (by simp)
    |some u=>
     rcases M b with z|⟨ob,xs,z⟩
     ·rw[q]at z;cases z
     ·obtain⟨e1,_⟩:=t b _ z;obtain⟨e2,_⟩:=A b _ (S.frzs b ob _ z);simp_all
 cases E:K.lookup a with
 |some o=>
  have e:=KX a o E;rw[ha]at e;cases e;refine i _ (λ_=>.inl rfl) (.inr ⟨_,_,_,E,rfl,rfl,rfl,B4▸p▸hl,by omega⟩) (λb u z=>by trivial) (λb=>g_ rfl) (g_ rfl)
 |none=>
  refine i (λb=>if b=a then ae (.frz {cls:=.type "list",data:=.seq vs.toArray} _)else af) (λb=>?_) (.inl (.inr ⟨_,b_ rfl⟩)) (λb u z=>?_) (λb z=>?_) λ_=>E
  ·by_cases hb:b=a
   ·exact .inr ⟨_,_,b_ hb⟩
   ·exact .inl (a_ hb)
  ·by_cases hb:b=a
   ·have T:=(b_ hb).symm.trans z;cases T;subst hb;exact⟨ha,by simpa using hl,vs,_,U,ha⟩
   ·have T:=(a_ hb).symm.trans z;trivial
  ·by_cases hb:b=a
   ·exact hb
   ·exact g_ (a_ hb) z
theorem walk_of{l:PySem.W.OpenLaw}{n k:Nat}{q:A1}{loose:List Str}{XP:(Str->Option Af)->Heap->Prop}{YP:Bh->Heap->Prop}{d:DefRec}{K:Params->Ag}{CX:Bh->gG}{sp:Bh->Sp}{x:Str}
  (hn:l.most=ae n) (hn2:n<=Av) (hdf:d.params.defaults=[]) (hr:Room k callerA)
  (hY:∀(w:Bh)(h:Heap),YP w h->(K w.params).In h)
  (F:∀(w:Bh)(mg:Str->Option Af)(fa:A')(h:Heap),(K w.params).In h->h.Ns Ec mg->mg d.name=ae (.ref fa)->
   ∃fd:Cc,(∀(s:Ai)(u:Af),BindsTo s fd ⟨[u],[]⟩ [(x,u)]) /\
    ∀base:Heap,(K w.params).In base->base.Ns Ec mg->FnOk l.prog w (K w.params) mg base (CX w) k fa fd [x] (sp w))
  (hsp:∀(w:Bh)(H:Hp)(a:A')(ns:List Int),ns.length<=n->kM H->SqL (K w.params) H a (ns.map V.int)->sp w [.ref a] H (λv _=>v=.bl ah) λ_ _ _=>False)
  (hCX:∀(w:Bh)(H:Hp)(s:Ai)(e:Af)(s':Ai),CX w [] H s (λ_ _ _=>False) e s'->False):
  PySem.W.WalkO q loose XP YP l.row.toRowW d [] (λf vs=>PySem.call f vs):=by
 refine Att.attach_call hn hdf λw L D mg N fa o M J C a vs ns G Y E I y m j i c r=>?_;have p:=hY w _ Y;obtain⟨fd,z,A⟩:=F w mg fa _ p G.T.g m;exact HW p G.T.g G.T.b G.T.builtins G.T.nolimit r j i (A0 c hn2) hr A z (λH=>hsp w H a ns c) λH=>hCX w H D
abbrev bW:gG:=λ_ _ _ _ _ _=>False
abbrev E0:XK:=λ_ _ _=>False
theorem jD{X:Cx}:t9 bW X E0:=λ_ _ _ _ _ _ _ h=>h.elim
structure Fun(K:Ag)(x qual:Str)(st:Stmt)(f:A')(fd:Cc):Prop where
 ex:∃(oc:Af)(od:Option A')(kV doc pm:Af)(an:Option A')(n_ ct:Af)(osl:Array (Option Af)),
  fd=Fl x qual (jV st) (ec st) (bJ st) .none kV doc pm an n_ ct/\K.lookup f=ae ⟨oc,od,.func fd,osl⟩/\PySem.W.codeIn K n_ qual=ah
 kp:Ct K (.ref f)=ah
section
variable{P:A1}{w:Bh}{K:Ag}{mg:Str->Option Af}{base:Heap}
theorem Fun.ok{x qual:Str}{st:Stmt}{f:A'}{fd:Cc}{N ps:List Str}{k:Nat}{sp:Sp}(F:Fun K x qual st f fd)(S:FnScope N ps (bJ st))(len:∀vs H Q E,sp vs H Q E->vs.length=ps.length)
  (hbody:∀(n_:Af)(A:Bo)(outer:List Env)(s:Ai)(H:Hp)(vs:List V)(Q:VK)(E:XK),Room k (A.deeper (envOfC qual (bJ st) s.heap.objs.size f n_))->sp vs H Q E->
   ∃t,PSs (b8 bW P w K mg base N qual (bJ st) f n_ A outer s H E).nox (ec st) t/\t {nx:=λ_ H'=>Q .non H',rt:=Q} (start N vs) H):FnOk P w K mg base bW (k+1) f fd ps sp:=by
 obtain⟨i,l,n,g,m,j,n_,o,c,rfl,d,a⟩:=F.ex;refine O0 d a S len λA outer s H vs Q E e b=>?_;obtain⟨t,h,q⟩:=hbody n_ A outer s H vs Q E e b;exact⟨t,h.nox,q⟩
theorem Fun.binds{x qual:Str}{st:Stmt}{f:A'}{fd:Cc}{ps:List Str}(F:Fun K x qual st f fd)
  (h:∀(kV doc pm:Af)(an:Option A')(n_ ct:Af)(us:List Af),us.length=ps.length->bindArgs (Fl x qual (jV st) (ec st) (bJ st) .none kV doc pm an n_ ct) ⟨us,[]⟩=pure (ps.zip us)):Binds K fd ps []:=by
 obtain⟨d,c,kV,doc,pm,an,n_,ct,a,rfl,e,b⟩:=F.ex;exact .all (h kV doc pm an n_ ct)
theorem Rl{x qual:Str}{st:Stmt}{f:A'}{oc:Af}{od an:Option A'}{osl:Array (Option Af)}{kV doc pm n_ ct:Af}(l:K.lookup f=ae ⟨oc,od,.func (Fl x qual (jV st) (ec st) (bJ st) .none kV doc pm an n_ ct),osl⟩)
  (c:PySem.W.codeIn K n_ qual=ah) (k:Ct K (.ref f)=ah):Fun K x qual st f (Fl x qual (jV st) (ec st) (bJ st) .none kV doc pm an n_ ct):=⟨⟨oc,od,kV,doc,pm,an,n_,ct,osl,rfl,l,c⟩,k⟩
end
theorem EO{n:Nat}(h:n<=1000):n < Av:=D7 h ∎
section
variable{X:Cx}
theorem pv(i:Nat){x:Str}{pos:Pos}(hN:X.N[i]?=ae x:=by rfl)(hv:dY X.env.scope x:=by first|exact Cj rfl|exact B6 (Cj rfl)|exact B6 (B6 rfl))(hd:(x==("__debug__":Str))=ai:=by decide)
  (r_:(x==("__classdict__":Str))=ai:=by decide):PE X (.Name x pos) (aI i):=eS hN hv hd r_
end
theorem uS{A B:Prop}(h:B):if ai=ah then A else B:=h
theorem iI{c A B:Prop}[Decidable c](h1:c->A)(h2:¬c->B):if c then A else B:=by
 by_cases h:c
 ·rw[b_ h];exact h1 h
 ·rw[a_ h];exact h2 h
def gN(H H':Hp):Prop:=∀b o,H b=ae o->H' b=ae o
end L2
namespace L2
open PySem PySem.Spec PyProof.Rows
section
variable{prog:A1}{w:Bh}{A:Bo}{R:Result->Ai->Prop}{s:Ai}
theorem Hq{elt target iter:Expr}{ifs:List Expr}{scope:Fb}{pos:Pos}{it j_:Af}{env:Env}(I:Nat->Ai->Prop)
  (turn:∀n s,I n s->A2 (A5 prog w) A (pyNext it) (λr s_=>match r with
   |none=>R (.ok .next) s_
   |some v=>A2 (A5 prog w) A (letOwnedTupleGo target it v) (λ_ s₁'=>A2 (A5 prog w) A (assign target env v) (λ_ t_=>
     A2 (A5 prog w) A (Gj ifs ah λc r=>if r=ah then do let ok <-isTrue c env (eval c env);pure (Cr ok)else pure (Cr r)) (λok v_=>
      if ok=ah then A2 (A5 prog w) A (eval elt env) (λx y_=>
       A2 (A5 prog w) A (call (.builtin "list.append") [j_,x]) (λ_ z_=>∃m,m < n/\I m z_) (λ_ _=>False) y_) (λ_ _=>False) v_
      else ∃m,m < n/\I m v_) (λ_ _=>False) t_) (λ_ _=>False) s₁') (λ_ _=>False) s_) (λ_ _=>False) s)
  (n:Nat) (h:I n s):codeAny (A5 prog w) A (.compLoop (.ListComp elt [⟨target,iter,ifs,0⟩] scope pos) 0 it j_ env) R s:=by
 refine codeAny_loop rfl I (λn s g=>?_) n h;show A2 _ A _ _ _ s;refine wpAny_noted ?_;rw[compTurn_list];refine Aa (wpAny_standAt (Aa (C8 (turn n s g) (λr s_ d=>?_) λ_ _ f=>f.elim)));cases r with
 |none=>exact Aj d
 |some v=>
  refine Aa (C8 d (λ_ s₁' a=>Aa (C8 a (λ_ t_ j=>Aa (C8 j (λok v_ b=>?_) λ_ _ f=>f.elim)) λ_ _ f=>f.elim)) λ_ _ f=>f.elim);cases ok with
  |false=>exact Aj ⟨rfl,b⟩
  |true=>
   exact Aa (Aa (C8 b (λx y_ i=>Aa (C8 i (λ_ z_ e=>Aj (Aj ⟨rfl,e⟩)) λ_ _ f=>f.elim)) λ_ _ f=>f.elim))
end
def cL(X:Cx)(N:List Str)(scope:Fb)(cl:List (Str×A'))(s:Ai)(H:Hp)(fp:List A'):Cx:=
 { X with N:=N,s₀:=s,H₀:=H,env:=compEnvC scope cl s.heap.objs.size X.env,outer:=X.stack,ex:=fp,fn:=λ_=>ai,pn:=[],xe:=λ_ _=>False}
structure CompSc(X:Cx)(N:List Str)(scope:Fb)(cl:List (Str×A'))(fr:List (Option Nat)):Prop where
 clos:closureFor scope X.env=pure cl
 kind:scope.kind=.function
 nocell:∀y∈scope.names,y.2≠.cell
 names:∀y∈scope.names,y.2=.local->scope.names.lookup y.1=ae .local
 sub:∀x c,cl.lookup x=ae c->X.env.cells.lookup x=ae c
 has:∀x,((relabel scope X.env).names.lookup x=ae .cell\/(relabel scope X.env).names.lookup x=ae .free)->∃c,cl.lookup x=ae c
 len:fr.length=N.length
 fre:∀(j i:Nat),fr[j]?=ae (ae i)->∃x,N[j]?=ae x/\X.N[i]?=ae x/\dY X.env.scope x/\(X.env.kindOf x=ae .cell\/X.env.kindOf x=ae .free) /\
  ((relabel scope X.env).names.lookup x=ae .cell\/(relabel scope X.env).names.lookup x=ae .free)/\cl.lookup x=X.env.cells.lookup x
theorem qC{κ:Type}:∀{l:List (Str×κ)}{x:Str}{k:κ},l.lookup x=ae k->(x,k)∈l
 |[],_,_,h=>nomatch h
 | (y,b)::r,x,k,h=>by
  rw[List.lookup_cons]at h;cases e:x==y with
  |true=>
   rw[e]at h;have a:x=y:=by simp_all
   rw[a,(B2 h)];exact An
  |false=>
   rw[e]at h;exact Ak _ (qC h)
theorem AU{κ:Type}:∀{l:List (Str×κ)}{x:Str},x∈l.map (·.1)->∃k,l.lookup x=ae k
 |[],_,h=>g_ h (by simp)
 | (y,a)::r,x,h=>by
  rw[List.lookup_cons];cases e:x==y with
  |true=>exact⟨a,rfl⟩
  |false=>
   have b:¬x=y:=λz=>by simp_all
   rcases Ar.mp h with z|z
   ·exact g_ z b
   ·exact AU z
theorem Px{X:Cx}{scope:Fb}{cl:List (Str×A')}(nm:List (Str×NameKind))(ks:List Str)(hrel:(relabel scope X.env).names=nm)(hks:cl.map (·.1)=ks)(h3:∀y∈nm,(y.2=.cell\/y.2=.free)->y.1∈ks):
  ∀x,((relabel scope X.env).names.lookup x=ae .cell\/(relabel scope X.env).names.lookup x=ae .free)->∃c,cl.lookup x=ae c:=by
 intro x h;rw[hrel]at h;refine AU ?_;rw[hks];rcases h with h|h
 ·exact h3 _ (qC h) (.inl rfl)
 ·exact h3 _ (qC h) (.inr rfl)
def dz(fr:List (Option Nat))(σ:St):St:=fr.map λo=>o.bind λi=>(σ[i]?).bind id
theorem Ss{fr:List (Option Nat)}{σ:St}{j:Nat}{v:V}(h:(dz fr σ)[j]?=ae (ae v)):∃i,fr[j]?=ae (ae i)/\σ[i]?=ae (ae v):=by
 unfold dz at h;rw[Am]at h;cases e:fr[j]? with
 |none=>rw[e]at h;cases h
 |some o=>
  rw[e]at h;cases o with
  |none=>cases h
  |some i=>
   refine⟨i,rfl,?_⟩;have a:(σ[i]?).bind id=ae v:=B2 h;cases b:σ[i]? with
   |none=>rw[b]at a;cases a
   |some d=>
    rw[b]at a;simp_all<;>omega
def lZ(X:Cx)(ifs:List Expr)(tt:TT):Prop:=
 ∀(i_:List (A'×Obj))(s:Ai)(σ:St)(H:Hp)(Q:Bool->Hp->Prop),Inv X i_ σ H s->tt σ H Q->
  A2 (A5 X.prog X.w) X.A (Gj ifs ah λc r=>if r=ah then do let ok <-isTrue c X.env (eval c X.env);pure (Cr ok)else pure (Cr r)) (TP X i_ σ Q) X.xe s
def BQ:TT:=λ_ H Q=>Q ah H
theorem HJ{X:Cx}:lZ X [] BQ:=λ_ _ _ H _ I h=>wpAny_tests_nil ⟨H,I,h⟩
theorem FV{X:Cx}{c:Expr}{tt:TT}(h:PT X c tt):lZ X [c] tt:=λi_ s σ H Q I q=>wpAny_tests_one (h i_ s σ H Q I q)
def lJ(fr:List (Option Nat))(wi:TI)(g:TG)(tt:TT)(te:TE):TE:=λσ H Q=>wi σ H λJ H1=>∀D,H1 D=af->
 ∃W:Nat->Nat->List V->St->Hp->Prop,(∃m,W 0 m [] (dz fr σ) (upd H1 D (.lst [])))/\∀i m ys τ H,W i m ys τ H->
  ((J.stop i H/\Q (.ref D) H)\/(J.go i H/\ys.length < Av/\∀x H',J.yld i H x H'->g x τ H' λτ2 H2=>tt τ2 H2 λb H3=>
   if b=ah then te τ2 H3 (λy H4=>H4 D=ae (.lst ys)/\∃m',m' < m/\W (i+1) m' (ys++[y]) τ2 (upd H4 D (.lst (ys++[y]))))else ∃m',m' < m/\W (i+1) m' ys τ2 H3))
section
variable{X:Cx}{N:List Str}{scope:Fb}{cl:List (Str×A')}{fr:List (Option Nat)}{i_:List (A'×Obj)}{σ:St}{H:Hp}{s:Ai}{fp:List A'}
theorem S5(S:CompSc X N scope cl fr)(I:Inv X i_ σ H s)(hf:∀b∈fp,cJ X i_ H b)(l_:∀b∈fp,b < s.heap.objs.size):(cL X N scope cl s H fp).Ok where
 mod:=I.ok.mod
 kind:=S.kind
 glob:=I.ok.glob
 blt:=I.ok.blt
 above:=Bc _
 inj:=λx y c a b=>I.ok.inj x y c (S.sub x c a) (S.sub y c b)
 has:=S.has
 cab:=λx c h=>nomatch h
 hd:=I.ok.hd
 frames:=I.ok.frames
 stk:=.inl rfl
 exf:=λb d=>⟨Bd (l_ b d),λx c e=>(hf b d).2.2.2.2.1 x c (S.sub x c e)⟩
 bs:=I.bs
 bsz:=A0 I.ok.bsz I.sz
 noex:=λb o e d=>by
  rcases(hf b d).2.2.2.1 with z|z
  ·exact I.ok.noex b o e z
  ·exact g_ (Bn (Aw (I.ok.bs b o e).1) z) (by simp)
 exfs:=λb d z=>by
  rcases Ar.mp (I.stkSub b z)with e|e
  ·exact(hf b d).2.1 e
  ·exact(hf b d).2.2.1 e
 funs:=I.stack
 frf:=I.stkFree
theorem QG{u_:Heap}{t':Nat}(S:CompSc X N scope cl fr)(I:Inv X i_ σ H s)(hf:∀b∈fp,cJ X i_ H b)(l_:∀b∈fp,b < s.heap.objs.size)
  {ob:Obj} (hsb:C6 s.heap.objs.size (s.heap.push ob) u_) {m:Str->Option Af} (hn:u_.Ns s.heap.objs.size m):
  Inv (cL X N scope cl s H fp) [] (dz fr σ) H {s with heap:=u_,toks:=t'}:=by
 have a:∀b o,s.heap.get? b=ae o->u_.get? b=ae o:=λb o e=>(hsb.2 b (Bd (Aw e))).trans (Ae _ e);refine⟨S5 S I hf l_,rfl,I.bare,Un.kept a,⟨m,hn,λj x v F B K=>?_⟩,λx c e=>?_,I.fresh,λx c e=>I.freeC x c (S.sub x c e),λp t=>?_,I.hok.kept a,?_⟩
 ·obtain⟨i,A,n⟩:=Ss B;obtain⟨y,E,G,D,C,J,w⟩:=S.fre j i A;have d:N[j]?=ae x:=F;rw[E]at d;have f:=B2 d;subst f;obtain⟨L,g,h⟩:=I.loc;obtain⟨u,r,l⟩:=h i y v G n D;refine⟨u,r,.inr ⟨J,?_⟩⟩;rcases l with⟨k,_⟩|⟨k,c,e,z⟩
  ·rcases C with q|q
   ·rw[q]at k;cases k
   ·rw[q]at k;cases k
  ·exact⟨c,w.trans e,z.keeps a⟩
 ·obtain⟨v,z⟩:=I.cell x c (S.sub x c e);exact⟨v,z.keeps a⟩
 ·exact g_ t (by simp[cL])
 ·show(dz fr σ).length=N.length;unfold dz;rw[Ab,S.len]
theorem zH{H':Hp}{τ:St}{s0 s':Ai}{h':Heap}(I:Inv X i_ σ H s0)(hf:∀b∈fp,cJ X i_ H b)(I':Inv (cL X N scope cl s0 H fp) [] τ H' s')(hs:C6 s0.heap.objs.size s'.heap h'):
  Inv X i_ σ H' {s' with heap:=h'}:=by
 have h:H' s0.heap.objs.size=af:=I'.free;have u:=I'.base;have f:∀b o,s0.heap.get? b=ae o->b≠s0.heap.objs.size:=λb o e=>Bd (Aw e);have d:=λb o e=>by
  refine(I'.hok b o e).stay (λc v p=>(hs.2 c ?_).trans) (λ_ z=>z) λ_ _ z=>z
  rintro rfl
  rcases p with z|z
  ·rw[<-z,h]at e;cases e
  ·rw[h]at z;cases z
 refine I.call' (ch:=fp) I'.os ?_ d I'.bare λb l=>?_
 ·refine⟨λb o e n g a=>(hs.2 b (f b o e)).trans (u.keep b o e n g a),λb o e n g a=>?_,u.free,λb o e a=>?_,u.tups,u.frzs,u.tbls⟩
  ·obtain⟨q,z⟩:=u.slot b o e n g a;exact⟨q,(hs.2 b (f b o e)).trans z⟩
  ·obtain⟨j,z⟩:=u.there b o e a;exact⟨j,(hs.2 b (f b o e)).trans z⟩
 ·obtain⟨_,k,_,i,r,m⟩:=hf b l;exact⟨i,k,r,m⟩
end
theorem FN{X:Cx}{elt tg iter:Expr}{ifs:List Expr}{scope:Fb}{cl:List (Str×A')}{cpos:Pos}{N:List Str}{fr:List (Option Nat)}{wi:TI}{g:TG}{tt:TT}{te:TE}{use:Option (Af->Sem Unit)}{R:Af->Ai->Prop}
  (hc:X.calm=ah) (S:CompSc X N scope cl fr) (hi:PI X tg iter wi) (hg:∀s H fp,PG (cL X N scope cl s H fp) tg g) (ht:∀s H fp,lZ (cL X N scope cl s H fp) ifs tt)
  (he:∀s H fp,PE (cL X N scope cl s H fp) elt te) (hs:∀x,Ef iter X.env x=pure x) {i_:List (A'×Obj)} {s:Ai} {σ:St} {H:Hp} {K:V->Hp->Prop} (I:Inv X i_ σ H s) (h:lJ fr wi g tt te σ H K)
  (fin:∀{fp:List A'}{s3 s6:Ai}{H3 Hc:Hp}{τ:St}{a:A'}{mm:Str->Option Af},Inv X i_ σ H3 s3->(∀b∈fp,cJ X i_ H3 b)->Inv (cL X N scope cl s3 H3 fp) [] τ Hc s6->K (.ref a) Hc->s6.heap.Ns s3.heap.objs.size mm->compPost (A5 X.prog X.w) X.A X.xe use R (.ref a) s3.heap.objs.size (.ok .next) s6):
  A2 (A5 X.prog X.w) X.A (comprehension (.ListComp elt [⟨tg,iter,ifs,0⟩] scope cpos) scope X.env (firstIterPos [⟨tg,iter,ifs,0⟩] cpos) (newList []) (firstAsync [⟨tg,iter,ifs,0⟩]) (firstIter [⟨tg,iter,ifs,0⟩] X.env) use) R X.xe s:=by
 refine wpAny_comprehension_free rfl hs S.clos S.kind S.names (aL (hi i_ s σ H _ I h) λv s1 h1=>aL h1 λitv k h2=>?_);obtain⟨it,fp,tn,J,H2,e,I2,T,st2,f2,q⟩:=h2;subst e;refine B8 (wpAny_newFunctionEnv S.nocell (by simp) (λu_ hn B=>?_) S.kind);obtain⟨W,⟨m0,w0⟩,turn⟩:=q k.heap.objs.size I2.fresh
 have G:Inv X i_ σ _ {k with heap:=k.heap.push {cls:=.type "list",dict:=af,data:=.seq ([]:List Af).toArray}}:=I2.lnew .nil ∎;have P:∀s3:Ai,s3={ k with heap:=k.heap.push {cls:=.type "list",dict:=af,data:=.seq ([]:List Af).toArray}}->Inv X i_ σ (upd H2 k.heap.objs.size (.lst [])) s3->
   ∀ob mm,C6 s3.heap.objs.size (s3.heap.push ob) u_->u_.Ns s3.heap.objs.size mm->
   codeAny (A5 X.prog X.w) X.A (.compStart (.ListComp elt [⟨tg,iter,ifs,0⟩] scope cpos) 0 (.ref it) (.ref k.heap.objs.size) (compEnvC scope cl s3.heap.objs.size X.env))
    (compPost (A5 X.prog X.w) X.A X.xe use R (.ref k.heap.objs.size) s3.heap.objs.size) {s3 with heap:=u_,toks:=s3.toks+([]:List (Str×Af)).length}:=?P
 ·exact P _ rfl G _ _ B hn
 intro s3 hs3 G ob mm B hn;have hfp:∀b∈fp,∃o,k.heap.get? b=ae o:=λb f=>let⟨o,e,_⟩:=T.obj _ _ st2 b f;⟨o,e⟩;have up:∀b o,k.heap.get? b=ae o->s3.heap.get? b=ae o:=λb o=>hs3▸Ae _;have f3:∀b∈fp,cJ X i_ (upd H2 k.heap.objs.size (.lst [])) b:=λb f=>by
  obtain⟨o,e⟩:=hfp b f;obtain⟨g0,gr⟩:=f2 b f;exact⟨(aH (Bd (Aw e)))▸g0,gr⟩
 have l_:=λb f=>let⟨o,e⟩:=hfp b f;Aw (up b o e);generalize hH3:upd H2 k.heap.objs.size _=H3 at G f3 w0;have U:=T.keep _ _ _ st2 λb f o e=>(B.2 b (Bd (by simp_all))).trans (Ae _ (up b o e));have t:∀{C:Hp},(∀b∈fp,C b=af)->∀b∈fp,cJ (cL X N scope cl s3 H3 fp) [] C b:=λhn b f=>by
  obtain⟨_,Y,k2,k3,k4,k5⟩:=f3 b f;refine⟨hn b f,Bd (l_ b f),λz=>?_,.inl f,λx c e=>k4 x c (S.sub x c e),λp hp=>g_ hp (by simp[cL])⟩;rcases Ar.mp (G.stkSub b z)with e|e
  ·exact Y e
  ·exact k2 e
 have E:codeAny (A5 X.prog X.w) X.A (.compLoop (.ListComp elt [⟨tg,iter,ifs,0⟩] scope cpos) 0 (.ref it) (.ref k.heap.objs.size) (compEnvC scope cl s3.heap.objs.size X.env))
   (compPost (A5 X.prog X.w) X.A X.xe use R (.ref k.heap.objs.size) s3.heap.objs.size) {s3 with heap:=u_,toks:=s3.toks+([]:List (Str×Af)).length}:=by
  refine Hq (λn s'=>∃i Q τ Hc,Inv _ [] τ Hc s'/\tn i s'.heap/\(∀b∈fp,Hc b=af)/\W i n Q τ Hc) ?_ m0 ⟨0,[],_,H3,(QG (t':=s3.toks+([]:List (Str×Af)).length) S G f3 l_ B hn),U,λb f=>(f3 b f).1,w0⟩
  rintro n s5 ⟨i,Q,τ,Hc,I5,st5,O,w5⟩
  rcases turn i n Q τ Hc w5 with⟨stop,qn⟩|⟨go,hz,Z⟩
  ·refine aL (T.done (cL X N scope cl s3 H3 fp) rfl rfl rfl hc i [] s5 τ Hc _ I5 (t O) st5 stop) λr s6 v=>?_;obtain⟨hr,I6⟩:=v;subst hr;obtain⟨mm,hm,_⟩:=I6.loc;exact fin G f3 I6 qn hm
  ·refine aL (T.item (cL X N scope cl s3 H3 fp) rfl rfl rfl hc i [] s5 τ Hc _ I5 (t O) st5 go) λr s6 a=>?_;obtain⟨u,hr,h6⟩:=a;subst hr;refine aL h6 λ_ s7 g=>?_;obtain⟨x,H7,I7,r7,y7,F,fr7⟩:=g;refine aL (hg s3 H3 fp _ s7 τ H7 x u _ (I7.pinned (t fr7) (T.obj _ _ F)) r7 (Z x H7 y7)) λ_ s8 ⟨L,H8,I8,q8⟩=>aL (ht s3 H3 fp _ s8 L H8 _ I8 q8) λok s9 j=>?_;obtain⟨H9,I9,q9⟩:=j;have D:∀{st:Ai}{τ':St}{C:Hp},Inv (cL X N scope cl s3 H3 fp) ([]++qL fp s7.heap) τ' C st->tn _ st.heap/\∀b∈fp,C b=af:=λ{st τ' C} Ix=>by
    refine⟨T.keep _ _ _ F λb f o e=>(Ix.pin _ (B1 _ (B1 _ (qS f e)))).1,λb f=>?_⟩;obtain⟨o,e,d⟩:=T.obj _ _ F b f;exact(Ix.pin _ (B1 _ (B1 _ (qS f e)))).2.1
   cases ok with
   |false=>
    obtain⟨M,hm,w9⟩:=q9;obtain⟨Y,k2⟩:=D I9;exact⟨M,hm,i+1,Q,L,H9,I9.unpinned,Y,k2,w9⟩
   |true=>
    refine aL (he s3 H3 fp _ s9 L H9 _ I9 q9) λxv s10 ⟨y,H10,I10,r10,hD,M,hm,w10⟩=>aL (yU _ s10 L H10 (.ref k.heap.objs.size) [y] _ [xv] (λz C=>∃M,M < n/\W _ M _ L C) I10 rfl (.cons r10 .nil) ⟨_,Q,y,rfl,rfl,hD,hz,M,hm,w10⟩) λz s11 l=>?_;obtain⟨z',H11,I11,_,m'',hm',w11⟩:=l;obtain⟨Y,k2⟩:=D I11;exact⟨m'',hm',i+1,_,L,H11,I11.unpinned,Y,k2,w11⟩
 exact codeAny_compStart_list E (T.self _ 0 _ _ _ U E)
theorem Lg{X:Cx}{elt tg iter:Expr}{ifs:List Expr}{scope:Fb}{cl:List (Str×A')}{pos:Pos}{N:List Str}{fr:List (Option Nat)}{wi:TI}{g:TG}{tt:TT}{te:TE}
  (hc:X.calm=ah) (S:CompSc X N scope cl fr) (hi:PI X tg iter wi) (hg:∀s H fp,PG (cL X N scope cl s H fp) tg g) (ht:∀s H fp,lZ (cL X N scope cl s H fp) ifs tt)
  (he:∀s H fp,PE (cL X N scope cl s H fp) elt te) (hs:∀x,Ef iter X.env x=pure x):
  PE X (.ListComp elt [⟨tg,iter,ifs,0⟩] scope pos) (lJ fr wi g tt te):=λi_ s σ H Q I h=>FN hc S hi hg ht he hs I h λ{_ _ _ _ _ _ a _} i d e f c=>⟨_,c,λh' b=>⟨.ref a,_,zH i d e b,rfl,f⟩⟩
mutual
inductive RdD(K:Ag)(H:Hp):V->Ad->Prop
 |non:RdD K H .non .none
 |bl (b:Bool):RdD K H (.bl b) (.bool b)
 |int (i:Int):RdD K H (.int i) (.int i)
 |str (x:Str):RdD K H (.str x) (.str x)
 |lst {a:A'} {xs:List V} {ds:List Ad}:SqL K H a xs->RdAll K H xs ds->RdD K H (.ref a) (.list ds)
 |tup {a:A'} {xs:List V} {ds:List Ad}:SqT K H a xs->RdAll K H xs ds->RdD K H (.ref a) (.tuple ds)
inductive RdAll(K:Ag)(H:Hp):List V->List Ad->Prop
 |nil:RdAll K H [] []
 |cons {x:V} {xs:List V} {d:Ad} {ds:List Ad}:RdD K H x d->RdAll K H xs ds->RdAll K H (x::xs) (d::ds)
end
section
variable{X:Cx}{i_:List (A'×Obj)}{σ:St}{H:Hp}{s:Ai}
mutual
theorem RdD.reads(I:Inv X i_ σ H s):∀{v:V}{d:Ad}{u:Af},RdD X.K H v d->RelV v u->∃as,Reads s.heap u d as
 |_,_,u,.non,r=>by
  cases(show u=Ca from r);exact⟨_,.none⟩
 |_,_,u,.bl b,r=>by
  cases(show u=Value.bool b from r);exact⟨_,.bool b⟩
 |_,_,u,.int i,r=>by
  obtain⟨t,rfl⟩:=(show ∃t,u=Value.int i t from r);exact⟨_,.int i t⟩
 |_,_,u,.str x,r=>by
  obtain⟨t,rfl⟩:=(show ∃t,u=Value.str x t from r);exact⟨_,.str x t⟩
 |_,_,u,.lst (a:=a) h1 h2,r=>by
  cases(show u=Co a from r);obtain⟨i',rv,⟨o,n,e,c,_,d⟩,_⟩:=I.list h1;obtain⟨as,ha⟩:=RdAll.reads I h2 rv;exact⟨_,.list e c d (by simpa using ha)⟩
 |_,_,u,.tup (a:=a) h1 h2,r=>by
  cases(show u=Co a from r);obtain⟨i',rv,⟨o,e,c,n,d⟩,_⟩:=I.tuple h1;obtain⟨as,ha⟩:=RdAll.reads I h2 rv;exact⟨_,.tuple e c d (by simpa using ha)⟩
theorem RdAll.reads(I:Inv X i_ σ H s):∀{vs:List V}{ds:List Ad}{us:List Af},RdAll X.K H vs ds->Vals vs us->∃as,ReadsAll s.heap us ds as
 |_,_,_,.nil,.nil=>⟨_,.nil⟩
 |_,_,_,.cons h1 h2,.cons r1 r2=>by
  obtain⟨as,ha⟩:=RdD.reads I h1 r1;obtain⟨bs,hb⟩:=RdAll.reads I h2 r2;exact⟨_,.cons ha hb⟩
end
end
def Small(d:Ad):Prop:=Cn d=ah/\D2 d<=20/\Gm d<=2 ^ 20/\PyData.intsShort 13 d=ah/\PyData.showable d=ah
theorem Small.len{d:Ad}(h:Small d):d.shown.length<=Av:=by
 have a:PyData.layable0 d=ah:=by
  unfold PyData.layable0;rw[h.1,c_ (by have:=h.2.1;omega),c_ h.2.2.1];rfl
 have:=shown_le13 a h.2.2.2.1;rw[Ey];omega
theorem Small.noDict{d:Ad}(h:Small d):d.hasDict=ai:=PyData.hasDict_of_canLay d h.1
theorem PZ{X:Cx}(hg:X.A.guards=ae [])(hu:X.A.units+64 < Dd):CallR X (.builtin "repr") (λxs H Q=>∃a d,xs=[.ref a]/\RdD X.K H (.ref a) d/\Small d/\Q (.str d.shown) H):=by
 intro c s σ H xs l Q I r h;obtain⟨a,d,rfl,k,b,q⟩:=h;obtain⟨u,rfl,j⟩:=e8 r;cases(j);obtain⟨m,g⟩:=RdD.reads I k (by trivial);have i:=b.2.1;exact repr_of_reads' g b.2.2.2.2 (PyData.noDict_hsm b.noDict) hg ⋯ (λ_ _ e=>e) (λh' u n f=>⟨.str d.shown,H,I.kept f,⟨u,rfl⟩,q⟩) b.len
def pO(K:Ag):R2:=λx y H Q=>∃a b xs,x=.ref a/\y=.ref b/\SqL K H a xs/\SqL K H b []/\Q (.bl xs.isEmpty) H
theorem Sf{X:Cx}(hu:X.A.units < Dd):OpR X (B3 .Eq) (pO X.K):=by
 intro i s σ H x y v u Q I k m h;obtain⟨a,b,w,rfl,rfl,t,o,q⟩:=h;cases(k);cases(m);obtain⟨p,f,c,_⟩:=I.list t;obtain⟨d,r,g,_⟩:=I.list o;have n:=Vals.zero r;subst n;cases f with
 |nil=>exact PySem.SeqAt.eq_listAt (e:=λ_=>ah) c.isList g.isList rfl hu (λj l=>g_ l (by simp)) ⟨_,H,I,(by rfl),q⟩
 |cons f z=>exact PySem.SeqAt.eq_list_lengthsAt c.isList g.isList (by simp) hu ⟨.bl ai,H,I,rfl,q⟩
def xM(K:Ag):R2:=λx y H Q=>∃a b xs ys,x=.ref a/\y=.ref b/\SqT K H a xs/\SqT K H b ys/\ys≠[]/\xs.length+ys.length<=Av /\
 (xs=[]->Q (.ref b) H)/\(xs≠[]->∀p,H p=af->Q (.ref p) (upd H p (.tup (xs++ys))))
theorem op_catA{X:Cx}:OpR X (E9 .Add) (xM X.K):=by
 intro f s σ H x y v u Q I p q h;obtain⟨a,b,r,O,rfl,rfl,w,t,L,G,B,C⟩:=h;by_cases g:r=[]
 ·cases(p);cases(q);obtain⟨l,J,z,_⟩:=I.tuple w;obtain⟨c,S,P,_⟩:=I.tuple t;obtain⟨⟨R,A,_,N⟩,o,M,n,D⟩:=id z;obtain⟨⟨_,m,_,k⟩,d,i,E,j⟩:=id P;subst M D i j;exact concat_meets ⟨_,o,rfl⟩ ⟨_,d,rfl⟩ noFill_tuple_add seq_tuple_add F5 F1 (by trivial)
   (tuple_addW0 a b l.toArray c.toArray n E A m N k (by simp[(J.nil_iff.mpr g)])) ⟨o,d,⟨.ref b,H,I,rfl,B g⟩⟩
 ·exact op_catT f s σ H _ _ v u Q I p q ⟨a,b,r,O,rfl,rfl,w,t,g,G,λe=>g_ e L,λ_=>C g⟩
theorem Iq{X:Cx}{T:String}:CallR X (.builtin "isinstance") (λxs H Q=>∃x t b,xs=[x,.ty T]/\TyOf X.K H x t/\PySem.W.kitOne X.K t (.type T)=ae b/\Q (.bl b) H):=by
 intro c s σ H xs i Q I r h;obtain⟨x,t,b,rfl,ty,e,q⟩:=h;obtain⟨u,f,rfl,d,a⟩:=yp r;cases(a);exact Lp I d ty e λtk=>⟨.bl b,H,I.tok tk,rfl,q⟩
section
variable{prog:A1}{w:Bh}{A:Bo}{E:Af->Ai->Prop}{s:Ai}
theorem xW:entryFor table "dict.update.loop"=ae Es.«dict.update.loop»:=G0 (by kernel_rfl)
theorem EI:plainId "dict.update.loop"=ah:=by decide +kernel
theorem L7:typeLookup (.type "tuple") "keys"=pure af:=by rw[typeLookup_type,builtinLookup_eq_fast];kernel_rfl
theorem P2{a:A'}{i':List Af}{Q:List Af->Ai->Prop}(p:IsTup s.heap a i'.toArray)(h:Q i' s):A2 (A5 prog w) A (Builtin.Dict.pairItems (.ref a)) Q E s:=by
 obtain⟨o,b,c,n,d⟩:=id p;refine Aa (Gt (⟨o,b,c⟩) (Aa (Dz b d (Aj ?_))));simpa using h
set_option maxRecDepth 8000 in
theorem S8{a:A'}{o:Obj}{xs:Array Af}{k:Nat}{name:Str}{Q:Option Af->Ai->Prop}
  (hx:s.heap.get? a=ae o) (hc:o.cls=.type "tuple") (hdat:o.data=.seq xs k) (hd:o.dict=af) (hmiss:typeLookup (.type "tuple") name=pure af) (hname:(["__module__","__name__","__qualname__","__doc__","__annotations__"]:List Str).contains name=ai) (hA:A.handled=af)
  (h:∀h' tk e,Heap.NewExcOf s.heap h' e "AttributeError"->Q af {s with heap:=h',toks:=tk}) (hsz:name.length+100<=Av:=by size_fits):
  A2 (A5 prog w) A (getAttr? (.ref a) name) Q E s:=by
 obtain⟨c,u,r,v⟩:=o;simp only at hc hdat hd;subst hc hdat hd;obtain⟨t,g,d,tk,q⟩:=s;have n:∀m,(⟨t,g,d,m,q⟩:Ai).TypeIs (.ref a) "tuple":=λ_=>⟨_,hx,rfl⟩;have C:=sub_AttributeError;have z:=F.slot_tuple_getattribute.lookup;have G:=F.slot_tuple_getattribute.bind (.ref a);have D:=am_tuple_getattr_none;unfold getAttr? getAttrBy? getAttrBy
 repeat (any_goals (first|assumption|exact n _|((with_reducible show A2 _ _ (call _ _ _) _ _ _);refine call_meets F.slot_tuple_getattribute (n _) am_entry_tuple_getattribute (F.args_tuple_getattribute_2 _ _) (meets_getattribute_miss_tuple a xs k v name _ hmiss hname hsz) ⟨hx,hA,λh' m e l=>?_⟩)|wp_step))
 obtain⟨B,y,x⟩:=l.there;show A2 _ _ _ _ _ _;simp
 repeat (any_goals (first|assumption|wp_step))
 exact h _ _ _ l.of
end
section
variable{X:Cx}{i_:List (A'×Obj)}{σ:St}{A:Bo}{R:Result->Ai->Prop}
theorem SqT.upd{K:Ag}{H:Hp}{a d:A'}{xs:List V}{o:HO}(h:H a=ae (.tup xs))(hd:a≠d):(L2.upd H d o) a=ae (.tup xs):=(aH hd)▸h
theorem Lx(hA:A.handled=af){src d it:A'}(ps:List (A'×aC×V)):∀(n i:Nat)(H:Hp)(s:Ai)(kvs:List (aC×V)),n+i=ps.length->Inv X i_ σ H s->H d=ae (.dK kvs)->kvs.length+n<=Av->
  H src=ae (.tup (ps.map λp=>.ref p.1))->(∀p∈ps,H p.1=ae (.tup [kV p.2.1,p.2.2]))->s.heap.IsTupleIter it src i->cJ X i_ H it->
  (∀H' s',Inv X i_ σ H' s'->H'=L2.upd H d (.dK (kf kvs ((ps.drop i).map (·.2))))->R (.ok (.ret .none)) s')->
  codeAny (A5 X.prog X.w) A (.builtin "dict.update.loop" ⟨[.ref d,.ref it,D6 i,.none],[]⟩) R s:=by
 intro n
 induction n with
 |zero=>
  intro i H s kvs hn I x hz l v O f S;obtain⟨G,D,p,_⟩:=I.tuple (SqT.of l);obtain⟨m,C,W,B,y,t⟩:=f;refine Ex xW ?_;have hl:=D.length;rw[Ab]at hl;refine Aa (wpAny_pyNext_tuple_end hA O (p) (by simp;omega) λh' eb=>Aa (Aj (Aj ?_)));refine S H _ (I.turned (eb) m C B y t) ?_;have e1:ps.drop i=[]:=List.drop_eq_nil_of_le ⋯;rw[e1]
  funext b
  unfold L2.upd
  split
  ·rename_i g;rw[g,x];rfl
  ·rfl
 |succ n ih=>
  intro i H s kvs hn I x hz l v O f S;obtain⟨G,D,p,_⟩:=I.tuple (SqT.of l);obtain⟨m,C,W,B,y,t⟩:=id f;have L:i < ps.length:=by omega
  have Q:(ps.map λp=>V.ref p.1)[i]?=ae (V.ref (ps[i]).1):=by simp[L]
  obtain⟨u,hu,ru⟩:=D.get Q;cases(ru);have E:=v _ (E2 L);refine Ex xW (Aa (wpAny_pyNext_tuple_item O (p) (by simpa using hu) λh1 M sb=>?_));have F:Inv X i_ σ H {s with heap:=h1}:=I.turned (λb o g=>(sb.2 b g).trans) m C B y t;obtain⟨T,P,p1,_⟩:=F.tuple (SqT.of E);obtain⟨u1,u2,rfl,r1,r2⟩:=yp P;refine Aa (Cb (Aa (wpAny_tryCatch (P2 p1 ?_))));obtain⟨z,J,vs,c,Z⟩:=yc F.hok x;have hz1:vs.length<=Av:=c.length▸z;have hl1:=pV kvs (ps[i]).2.1 (ps[i]).2.2;refine Cb (wpAny_dictSet_pairs (ly r1) Z λh2 h a=>?_);have N:∃q,h2.get? d=ae q:=let⟨q,_,_,E,_⟩:=h;⟨q,E⟩;have U:∀b Y,H b=ae (.tup Y)->b≠d:=λb Y e z=>by simp_all
  have j:it≠d:=λz=>by simp_all
  have hc:(i+1)=((i+1:Nat):Int):=by push_cast;rfl
  refine Aj ⟨F8 EI _,?_⟩;refine ih (i+1) _ _ _ ⋯ (lP (t':=s.toks+1) F (by rw[x];trivial) a N (zv ⋯ J (c.put (ps[i]).2.1 r2) h)) a9 ⋯ (SqT.upd (K:=X.K) l (U _ _ l)) (λq k=>SqT.upd (K:=X.K) (v q k) (U _ _ (v q k))) (by
   obtain⟨o,e,r⟩:=M;exact⟨o,(a.2 it j).trans e,r⟩) ⟨by rw[aH j];exact m,C,W,B,y,t⟩ λH' s' I' e=>S H' s' I' ?_;rw[e,uo,Fw L];rfl
theorem ej{n:Nat}(h:n<=1000):n<=Av:=Gi (EO h)
theorem Jb(hh:X.A.handled=af):CallR X (.type "dict") (λxs H Q=>∃(src:A')(ps:List (A'×aC×V)),xs=[.ref src]/\H src=ae (.tup (ps.map λp=>V.ref p.1))/\(∀p∈ps,H p.1=ae (.tup [kV p.2.1,p.2.2]))/\ps.length<=1000 /\
  ∀l,H l=af->Q (.ref l) (L2.upd H l (.dK (kf [] (ps.map (·.2)))))):=by
 intro i s σ H xs U Q I r h;obtain⟨src,ps,rfl,J,B,x,q⟩:=h;obtain⟨u,rfl,P⟩:=e8 r;cases(P);refine callType_codes (Q₁:=λobj L=>obj=.ref s.heap.objs.size/\L={ s with heap:=s.heap.push {cls:=.type "dict",data:=.dict #[]}}) F.kt_called_dict (F.kt_typeCall_dict_1 _) F.entry_dict_init (kt_code_dict_new _ ⟨rfl,rfl⟩) ?_
 rintro obj L ⟨rfl,rfl⟩
 have t:=I.fresh;have G:Inv X i σ _ {s with heap:=s.heap.push {cls:=.type "dict",data:=.dict #[]}}:=I.laid (λb o=>Ae _) (by simp) (DD s.heap I.big);have E:∀b xs,H b=ae (.tup xs)->b≠s.heap.objs.size:=λb xs e z=>by simp_all
 have f:=SqT.upd (K:=X.K) (o:=.dK []) J (E _ _ J);obtain⟨S,N,T,o,k,v,⟨n,c⟩,M⟩:=(show ObjOk X.prog X.w _ _ src (.tup _)from G.hok src _ f);have a:(s.heap.push {cls:=.type "dict",data:=.dict #[]}).DictOf (fh X.prog X.w) s.heap.objs.size []:=Heap.DictOf.new s.heap;refine⟨a.typeIs,F.args_dict_init_2 _ _,Aa ?_⟩;refine Aa (wpAny_notOrdered_dict a.typeIs (Aj ?_));show A2 _ _ _ _ _ _;refine Aa (Gt ⟨o,k,v⟩ (Aa (S8 k v c M L7 (by rfl) hh (λh' y e C=>?_))));have j:=G.kept (t':=y) C.keeps;refine Aa (Fg (Aa (D8 ((IsTup.keeps ⟨o,k,v,n,c⟩ C.keeps)) ?_)));refine Aj ⟨F8 EI _,?_⟩;refine Lx (A:=X.A.in1) hh ps ps.length 0 _ _ [] ⋯ (j.kept (t':=y) (λb o=>Ae {cls:=.type "tuple_iterator",data:=.fields #[.ref src,.int 0 0]})) a9 (by simp;exact ej ⋯) f (λq D=>SqT.upd (K:=X.K) (B q D) (E _ _ (B q D))) ⟨_,Au _ rfl,rfl,rfl⟩ (j.fpOk (by simp) j.fresh) λH' Y O e=>?_;refine⟨rfl,.ref s.heap.objs.size,H',O,rfl,?_⟩;rw[e,uo];exact q _ t
end
theorem LQ{X:Cx}:OpR X (B3 .LtE) (λx y H Q=>∃i j,x=.str i/\y=.str j/\Q (.bl (!decide (j.cps.toList < i.cps.toList))) H):=by
 intro a s σ H x y v u Q I b c h;obtain⟨i,j,rfl,rfl,q⟩:=h;obtain⟨t,rfl⟩:=b;obtain⟨d,rfl⟩:=c;exact P.le_str (cf I q rfl)
theorem QU{X:Cx}:OpR X (B3 .Gt) (λx y H Q=>∃i j,x=.str i/\y=.str j/\Q (.bl (decide (j.cps.toList < i.cps.toList))) H):=by
 intro a s σ H x y v u Q I b c h;obtain⟨i,j,rfl,rfl,q⟩:=h;obtain⟨t,rfl⟩:=b;obtain⟨d,rfl⟩:=c;exact P.gt_str (cf I q rfl)
def ou:Ad->String
 |.none=>"NoneType"
 |.bool _=>"bool"
 |.int _=>"int"
 |.str _=>"str"
 |.list _=>"list"
 |.tuple _=>"tuple"
 |.dict _=>"dict"
def iS(T:String)(d:Ad):Bool:=ou d==T || (T=="int"&&ou d=="bool")
def cP(h:Str):Ad->Bool
 |.str x=>decide (x=h)
 |_=>ai
end L2
namespace Nb
open PySem L2
def lU:Bool:=ah
def pT:List V:=[.non,.non,.non,.int 1,.int 2]
def kI:List Ad:=[.none,.none,.none,.int 1,.int 2]
end Nb
set_option Elab.async false
set_option maxRecDepth 100000
namespace Nb
open PySem L2
def Kp(t:A')(H H':Hp):Prop:=∀b o,H b=ae o->b≠t->H' b=ae o
theorem Kp.refl(t:A')(H:Hp):Kp t H H:=λ_ _ h _=>h
theorem Kp.trans{t:A'}{H H1 H2:Hp}(a:Kp t H H1)(b:Kp t H1 H2):Kp t H H2:=λc o h n=>b c o (a c o h n) n
theorem Kp.new{t p:A'}{H:Hp}{o:HO}(h:H p=af):Kp t H (upd H p o):=λc a e _=>(aH (bu e h))▸e
theorem Kp.tape{t:A'}{H:Hp}{o:HO}:Kp t H (upd H t o):=λc a e n=>(aH n)▸e
structure TL where
 s:A'
 g:A'
def j8(l:TL):List V:=if lU=ah then[.ref l.g]else[]
structure Tp(H:Hp)(t:A')(l:TL)(ns:List Int)(n:Int):Prop where
 ob:∃a b:Int,H t=ae (.lst (.ref l.s::.int a::.int b::j8 l))/\0<=a/\a<=n
 ls:H l.s=ae (.lst (ns.map V.int))
 len:ns.length<=63
 ag:lU=ah->H l.g=ae (.lst pT)
 gne:l.g≠t
theorem Tp.ne{H:Hp}{t:A'}{l:TL}{ns:List Int}{n:Int}(T:Tp H t l ns n):t≠l.s:=by
 obtain⟨a,b,h,_⟩:=T.ob;refine xf h T.ls λz=>?_;cases ns with
 |nil=>cases⋯
 |cons m r=>
  simp_all
theorem Tp.other{H:Hp}{t p:A'}{l:TL}{ns:List Int}{n:Int}{o:HO}(T:Tp H t l ns n)(h1:t≠p)(h2:l.s≠p)(h3:lU=ah->l.g≠p):Tp (upd H p o) t l ns n:=by
 obtain⟨a,b,e,h⟩:=T.ob;exact⟨⟨a,b,by rw[aH h1];trivial⟩,by rw[aH h2];exact T.ls,T.len,λz=>(aH (h3 z))▸T.ag z,T.gne⟩
theorem Tp.new{H:Hp}{t p:A'}{l:TL}{ns:List Int}{n:Int}{o:HO}(T:Tp H t l ns n)(h:H p=af):Tp (upd H p o) t l ns n:=by
 obtain⟨a,b,e,_⟩:=T.ob;exact T.other (bu e h) (bu T.ls h) λz=>bu (T.ag z) h
theorem Rn{xs:List V}{r:Int}(h0:0<=r)(h1:r < xs.length):∃v,cO xs r=ae v/\v∈xs:=by
 obtain⟨j,rfl⟩:=Int.eq_ofNat_of_zero_le h0;have a:j < xs.length:=by omega
 exact⟨_,d9 (Ah a),E2 a⟩
theorem small{n:Nat}(h:n<=1000):n<=Av:=Gi (EO h)
theorem GY:Bw "tuple"=ae (.type "tuple"):=by rfl
theorem Hw:Bw "dict"=ae (.type "dict"):=by rfl
theorem Lw:Bw "int"=ae (.type "int"):=by rfl
theorem Kr:Bw "str"=ae (.type "str"):=by rfl
theorem HF:Bw "repr"=ae (.builtin "repr"):=by rfl
theorem AG:Bw "isinstance"=ae (.builtin "isinstance"):=by rfl
theorem tX:Bw "list"=ae (.type "list"):=by rfl
theorem NS:Bw "bool"=ae (.type "bool"):=by rfl
theorem J6{xs:List V}(h:xs.length<=63):fH xs af (ae 63)=xs:=by
 unfold fH;have c:HT.sIx xs.length 0 af=0:=rfl;have b:HT.sIx xs.length xs.length (ae 63)=xs.length:=by
  have e:=HT.sIx_nat xs.length xs.length 63;simp_all
 simp_all
def xY:Sp:=λvs H Q _=>∃(t:A')(l:TL)(ns:List Int)(n many:Int),vs=[.ref t,.int many]/\Tp H t l ns n/\n < 2 ^ 40/\0 < many/\many < 1073741824 /\
 ∀(r:Int)(H':Hp),0<=r->r < many->Tp H' t l ns (n+1)->Kp t H H'->Q (.int r) H'
end Nb
namespace DL
open PySem L2 Nb
abbrev D:=Ad
mutual
inductive RdX(H:Hp)(B:A'->Prop):V->Ad->Prop
 |non:RdX H B .non .none
 |bl (b:Bool):RdX H B (.bl b) (.bool b)
 |int (i:Int):RdX H B (.int i) (.int i)
 |str (x:Str) (h:x.length<=Av):RdX H B (.str x) (.str x)
 |lst {a:A'} {xs:List V} {ds:List Ad}:H a=ae (.lst xs)->¬B a->xs.length<=Av->RdXs H B xs ds->RdX H B (.ref a) (.list ds)
 |tup {a:A'} {xs:List V} {ds:List Ad}:H a=ae (.tup xs)->¬B a->xs.length<=Av->RdXs H B xs ds->RdX H B (.ref a) (.tuple ds)
inductive RdXs(H:Hp)(B:A'->Prop):List V->List Ad->Prop
 |nil:RdXs H B [] []
 |cons {x:V} {xs:List V} {d:Ad} {ds:List Ad}:RdX H B x d->RdXs H B xs ds->RdXs H B (x::xs) (d::ds)
end
mutual
theorem RdX.move{H H':Hp}{B B':A'->Prop}(k:∀b o,H b=ae o->¬B b->H' b=ae o/\¬B' b):∀{v:V}{d:Ad},RdX H B v d->RdX H' B' v d
 |_,_,.non=>.non
 |_,_,.bl b=>.bl b
 |_,_,.int i=>.int i
 |_,_,.str x h=>.str x h
 |_,_,.lst h1 h2 h3 h4=>.lst (k _ _ h1 h2).1 (k _ _ h1 h2).2 h3 (RdXs.move k h4)
 |_,_,.tup h1 h2 h3 h4=>.tup (k _ _ h1 h2).1 (k _ _ h1 h2).2 h3 (RdXs.move k h4)
theorem RdXs.move{H H':Hp}{B B':A'->Prop}(k:∀b o,H b=ae o->¬B b->H' b=ae o/\¬B' b):∀{vs:List V}{ds:List Ad},RdXs H B vs ds->RdXs H' B' vs ds
 |_,_,.nil=>.nil
 |_,_,.cons h1 h2=>.cons (RdX.move k h1) (RdXs.move k h2)
end
section
variable{H H':Hp}{B B':A'->Prop}{v:V}{d:Ad}{vs ws:List V}{ds es:List Ad}{t:A'}
theorem RdX.kp(k:Kp t H H')(ht:B t)(h:RdX H B v d):RdX H' B v d:=h.move λb o e n=>⟨k b o e λz=>n (z▸ht),n⟩
theorem RdXs.kp(k:Kp t H H')(ht:B t)(h:RdXs H B vs ds):RdXs H' B vs ds:=h.move λb o e n=>⟨k b o e λz=>n (z▸ht),n⟩
theorem RdX.less(k:∀b,B' b->B b)(h:RdX H B v d):RdX H B' v d:=h.move λb o e n=>⟨e,λz=>n (k b z)⟩
theorem RdXs.less(k:∀b,B' b->B b)(h:RdXs H B vs ds):RdXs H B' vs ds:=h.move λb o e n=>⟨e,λz=>n (k b z)⟩
theorem RdXs.keep(k:∀b o,H b=ae o->¬B b->H' b=ae o)(h:RdXs H B vs ds):RdXs H' B vs ds:=h.move λb o e n=>⟨k b o e n,n⟩
theorem RdXs.len:∀{vs:List V}{ds:List Ad},RdXs H B vs ds->vs.length=ds.length
 |_,_,.nil=>rfl
 |_,_,.cons _ t=>by rw[Ax,Ax,RdXs.len t]
theorem RdXs.get:∀{vs:List V}{ds:List Ad}{i:Nat}{v:V},RdXs H B vs ds->vs[i]?=ae v->∃d,ds[i]?=ae d/\RdX H B v d
 |_,_,_,_,.nil,e=>by simp at e
 |_,_,0,_,.cons h _,e=>by
  simp at e;subst e;exact⟨_,rfl,h⟩
 |_,_,i+1,v,.cons _ t,e=>by
  obtain⟨d,b,a⟩:=RdXs.get t (by trivial);exact⟨d,by simpa using b,a⟩
theorem RdXs.getD:∀{vs:List V}{ds:List Ad}{i:Nat}{d:Ad},RdXs H B vs ds->ds[i]?=ae d->∃v,vs[i]?=ae v/\RdX H B v d
 |_,_,_,_,.nil,e=>by simp at e
 |_,_,0,_,.cons h _,e=>by
  simp at e;subst e;exact⟨_,rfl,h⟩
 |_,_,i+1,d,.cons _ t,e=>by
  obtain⟨v,b,a⟩:=RdXs.getD t (by trivial);exact⟨v,by simpa using b,a⟩
theorem RdXs.append:∀{vs ws:List V}{ds es:List Ad},RdXs H B vs ds->RdXs H B ws es->RdXs H B (vs++ws) (ds++es)
 |_,_,_,_,.nil,h=>h
 |_,_,_,_,.cons b a,h=>.cons b (RdXs.append a h)
theorem RdXs.set:∀{vs:List V}{ds:List Ad}(i:Nat){v:V}{d:Ad},RdXs H B vs ds->RdX H B v d->RdXs H B (vs.set i v) (ds.set i d)
 |_,_,_,_,_,.nil,_=>.nil
 |_,_,0,_,_,.cons _ t,h=>.cons h t
 |_,_,i+1,_,_,.cons q t,h=>.cons q (RdXs.set i t h)
theorem RdXs.take:∀{vs:List V}{ds:List Ad}(n:Nat),RdXs H B vs ds->RdXs H B (vs.take n) (ds.take n)
 |_,_,0,_=>.nil
 |_,_,_+1,.nil=>.nil
 |_,_,n+1,.cons r t=>.cons r (RdXs.take n t)
theorem RdXs.drop:∀{vs:List V}{ds:List Ad}(n:Nat),RdXs H B vs ds->RdXs H B (vs.drop n) (ds.drop n)
 |_,_,0,r=>r
 |_,_,_+1,.nil=>.nil
 |_,_,n+1,.cons _ t=>RdXs.drop n t
end
mutual
theorem RdX.rd{K:Ag}{H:Hp}{B:A'->Prop}:∀{v:V}{d:Ad},RdX H B v d->RdD K H v d
 |_,_,.non=>.non
 |_,_,.bl b=>.bl b
 |_,_,.int i=>.int i
 |_,_,.str x h=>.str x
 |_,_,.lst h1 h2 h3 h4=>.lst (SqL.of h1) (RdXs.rd h4)
 |_,_,.tup h1 h2 h3 h4=>.tup (SqT.of h1) (RdXs.rd h4)
theorem RdXs.rd{K:Ag}{H:Hp}{B:A'->Prop}:∀{vs:List V}{ds:List Ad},RdXs H B vs ds->RdAll K H vs ds
 |_,_,.nil=>.nil
 |_,_,.cons h1 h2=>.cons (RdX.rd h1) (RdXs.rd h2)
end
inductive Ob where
 |o|p (d:Ad)|k (m:List (aC×Ad))|q (d:Ad) (m:List (aC×Ad))|x (m:List (TK×Ad))|y (m:List (TK×Ad))
inductive Wv where
 |d (x:Ad)|tp|dk (kvs:List (aC×Ad))|ln (ds:List Ad)|ob (o:Ob)|dx (kvs:List (TK×Ad))
def Wv.lent:Wv->Bool
 |.dk _=>ah
 |.dx _=>ah
 |.ln _=>ah
 |_=>ai
inductive SV where
 |w (x:Wv)|own (ds:List Ad)|odk (kvs:List (aC×Ad))|odt (kvs:List (List aC×Ad))|odx (kvs:List (TK×Ad))
abbrev Sl:=List (Option SV)
def RdK(H:Hp)(B:A'->Prop):List (aC×V)->List (aC×Ad)->Prop:=Paired λp q=>p.1=q.1/\RdX H B p.2 q.2
theorem RdK.move{H H':Hp}{B B':A'->Prop}(k:∀b o,H b=ae o->¬B b->H' b=ae o/\¬B' b){l:List (aC×V)}{m:List (aC×Ad)}(h:RdK H B l m):RdK H' B' l m:=
 Paired.mapP h λ_ _ z=>⟨z.1,z.2.move k⟩
def RdT(H:Hp)(B:A'->Prop):List (List aC×V)->List (List aC×Ad)->Prop:=Paired λp q=>p.1=q.1/\RdX H B p.2 q.2
theorem RdT.move{H H':Hp}{B B':A'->Prop}(k:∀b o,H b=ae o->¬B b->H' b=ae o/\¬B' b){l:List (List aC×V)}{m:List (List aC×Ad)}(h:RdT H B l m):RdT H' B' l m:=
 Paired.mapP h λ_ _ z=>⟨z.1,z.2.move k⟩
def RdY(H:Hp)(B:A'->Prop):List (TK×A'×V)->List (TK×Ad)->Prop:=Paired λp q=>p.1=q.1/\RdX H B (.ref p.2.1) p.1.1/\RdX H B p.2.2 q.2
theorem RdY.move{H H':Hp}{B B':A'->Prop}(k:∀b o,H b=ae o->¬B b->H' b=ae o/\¬B' b){l:List (TK×A'×V)}{m:List (TK×Ad)}(h:RdY H B l m):RdY H' B' l m:=
 Paired.mapP h λ_ _ z=>⟨z.1,z.2.1.move k,z.2.2.move k⟩
def ORel(H:Hp)(B:A'->Prop)(v:V):Ob->Prop
 |.o=>∃a,v=.ref a
 |.p d=>∃a x y,v=.ref a/\H a=ae (.tup [x,y])/\¬B a/\RdX H B x d
 |.k m=>∃a l,v=.ref a/\H a=ae (.dK l)/\¬B a/\RdK H B l m
 |.x m=>∃a l,v=.ref a/\H a=ae (.dX l)/\¬B a/\RdY H B l m
 |.y m=>∃a o l,v=.ref a/\H a=ae (.frz o (.dX l))/\¬B a/\RdY H B l m
 |.q d m=>∃a x b l,v=.ref a/\H a=ae (.tup [x,.ref b])/\¬B a/\RdX H B x d/\H b=ae (.dK l)/\¬B b/\RdK H B l m
theorem ORel.move{H H':Hp}{B B':A'->Prop}(k:∀b o,H b=ae o->¬B b->H' b=ae o/\¬B' b){v:V}{o:Ob}(h:ORel H B v o):ORel H' B' v o:=by
 cases o with
 |o=>exact h
 |p d=>
  obtain⟨a,x,y,e,f,c,g⟩:=h;exact⟨a,x,y,e,(k _ _ f c).1,(k _ _ f c).2,g.move k⟩
 |k m=>
  obtain⟨a,l,e,f,c,g⟩:=h;exact⟨a,l,e,(k _ _ f c).1,(k _ _ f c).2,g.move k⟩
 |y m=>
  obtain⟨a,o,l,e,f,c,g⟩:=h;exact⟨a,o,l,e,(k _ _ f c).1,(k _ _ f c).2,g.move k⟩
 |x m=>
  obtain⟨a,l,e,f,c,g⟩:=h;exact⟨a,l,e,(k _ _ f c).1,(k _ _ f c).2,g.move k⟩
 |q d m=>
  obtain⟨a,x,b,l,e,f,c,g,j,i,n⟩:=h;exact⟨a,x,b,l,e,(k _ _ f c).1,(k _ _ f c).2,g.move k,(k _ _ j i).1,(k _ _ j i).2,n.move k⟩
def WRel(H:Hp)(B:A'->Prop)(t:A')(v:V):Wv->Prop
 |.d x=>RdX H B v x
 |.tp=>v=.ref t
 |.dk kvs=>∃a l,v=.ref a/\H a=ae (.dK l)/\a≠t/\RdK H B l kvs
 |.dx kvs=>∃a l,v=.ref a/\H a=ae (.dX l)/\a≠t/\RdY H B l kvs
 |.ln ds=>∃a xs,v=.ref a/\H a=ae (.lst xs)/\a≠t/\xs.length<=Av/\RdXs H B xs ds
 |.ob o=>ORel H B v o
def SRel(H0:Hp)(H:Hp)(B:A'->Prop)(t:A')(v:V):SV->Prop
 |.w x=>WRel H B t v x/\(x.lent=ah->∃a,v=.ref a/\H0 a≠af)
 |.own ds=>∃a xs,v=.ref a/\H a=ae (.lst xs)/\B a/\H0 a=af/\xs.length<=Av/\RdXs H B xs ds
 |.odk kvs=>∃a l,v=.ref a/\H a=ae (.dK l)/\B a/\H0 a=af/\l.length<=1000/\RdK H B l kvs
 |.odt kvs=>∃a l,v=.ref a/\H a=ae (.dT l)/\B a/\H0 a=af/\l.length<=1000/\RdT H B l kvs
 |.odx kvs=>∃a l,v=.ref a/\H a=ae (.dX l)/\B a/\H0 a=af/\l.length<=1000/\RdY H B l kvs
def SV.isOwn:SV->Bool
 |.w _=>ai
 |_=>ah
structure Ctx where
 t:A'
 l:TL
 ns:List Int
 H0:Hp
 B0:A'->Prop
 fz:Hp
structure Rel(C:Ctx)(H:Hp)(B:A'->Prop)(σ:St)(δ:Sl)(n:Int):Prop where
 tp:Tp H C.t C.l C.ns n
 kp:Kp C.t C.H0 H
 t0:C.H0 C.t≠af
 l0:C.H0 C.l.s≠af
 g0:lU=ah->C.H0 C.l.g≠af
 fz:∀b o,C.fz b=ae o->H b=ae o/\¬B b
 bt:B C.t
 b0:∀b,C.B0 b->B b
 ba:∀b,B b->H b≠af
 a0:∀b,C.B0 b->C.H0 b≠af
 sl:∀(i:Nat)(x:SV),δ[i]?=ae (ae x)->∃v,σ[i]?=ae (ae v)/\SRel C.H0 H B C.t v x
 ow:∀(i j:Nat)(x y:SV)(v:V),δ[i]?=ae (ae x)->δ[j]?=ae (ae y)->x.isOwn=ah->y.isOwn=ah->σ[i]?=ae (ae v)->σ[j]?=ae (ae v)->i=j
 len:σ.length=δ.length
theorem WRel.kp{H H':Hp}{B:A'->Prop}{t:A'}{v:V}{x:Wv}(k:Kp t H H')(ht:B t)(h:WRel H B t v x):WRel H' B t v x:=by
 cases x with
 |d x=>exact RdX.kp k ht h
 |tp=>exact h
 |dk i=>
  obtain⟨a,l,e,g,c,f⟩:=h;exact⟨a,l,e,k _ _ g c,c,f.move λb o e n=>⟨k b o e λz=>n (z▸ht),n⟩⟩
 |dx i=>
  obtain⟨a,l,e,g,c,f⟩:=h;exact⟨a,l,e,k _ _ g c,c,f.move λb o e n=>⟨k b o e λz=>n (z▸ht),n⟩⟩
 |ln p=>
  obtain⟨a,l,e,g,c,f,j⟩:=h;exact⟨a,l,e,k _ _ g c,c,f,j.kp k ht⟩
 |ob o=>exact ORel.move (λb o e n=>⟨k b o e λz=>n (z▸ht),n⟩) h
theorem WRel.less{H:Hp}{B B':A'->Prop}{t:A'}{v:V}{x:Wv}(k:∀b,B' b->B b)(h:WRel H B t v x):WRel H B' t v x:=by
 cases x with
 |d x=>exact RdX.less k h
 |tp=>exact h
 |dk i=>
  obtain⟨a,l,e,g,c,f⟩:=h;exact⟨a,l,e,g,c,f.move λb o e n=>⟨e,λz=>n (k b z)⟩⟩
 |dx i=>
  obtain⟨a,l,e,g,c,f⟩:=h;exact⟨a,l,e,g,c,f.move λb o e n=>⟨e,λz=>n (k b z)⟩⟩
 |ln p=>
  obtain⟨a,l,e,g,c,f,j⟩:=h;exact⟨a,l,e,g,c,f,j.less k⟩
 |ob o=>exact ORel.move (λb o e n=>⟨e,λz=>n (k b z)⟩) h
theorem SRel.kp{H0 H H':Hp}{B:A'->Prop}{t:A'}{v:V}{x:SV}(k:Kp t H H')(ht:B t)(t0:H0 t≠af)(h:SRel H0 H B t v x):SRel H0 H' B t v x:=by
 cases x with
 |w x=>exact⟨h.1.kp k ht,h.2⟩
 |own u=>
  obtain⟨a,r,e,i,d,c,g,f⟩:=h;exact⟨a,r,e,k _ _ i (λz=>t0 (z▸c)),d,c,g,f.kp k ht⟩
 |odk j=>
  obtain⟨a,l,e,i,d,c,g,f⟩:=h;exact⟨a,l,e,k _ _ i (λz=>t0 (z▸c)),d,c,g,f.move λb o e n=>⟨k b o e λz=>n (z▸ht),n⟩⟩
 |odt j=>
  obtain⟨a,l,e,i,d,c,g,f⟩:=h;exact⟨a,l,e,k _ _ i (λz=>t0 (z▸c)),d,c,g,f.move λb o e n=>⟨k b o e λz=>n (z▸ht),n⟩⟩
 |odx j=>
  obtain⟨a,l,e,i,d,c,g,f⟩:=h;exact⟨a,l,e,k _ _ i (λz=>t0 (z▸c)),d,c,g,f.move λb o e n=>⟨k b o e λz=>n (z▸ht),n⟩⟩
theorem Rel.step{C:Ctx}{H H':Hp}{B:A'->Prop}{σ:St}{δ:Sl}{n n':Int}(R:Rel C H B σ δ n)(T:Tp H' C.t C.l C.ns n')(k:Kp C.t H H'):Rel C H' B σ δ n' where
 tp:=T
 kp:=R.kp.trans k
 t0:=R.t0
 l0:=R.l0
 g0:=R.g0
 fz:=λb o e=>⟨k b o (R.fz b o e).1 λz=>(R.fz b o e).2 (z▸R.bt),(R.fz b o e).2⟩
 bt:=R.bt
 b0:=R.b0
 ba:=λb c e=>by
  by_cases z:b=C.t
  ·subst z;obtain⟨x,_⟩:=T.ob;simp_all
  ·cases q:H b with
   |none=>exact R.ba b c q
   |some o=>rw[k b o q z]at e;cases e
 a0:=R.a0
 sl:=λi x e=>by
  obtain⟨v,d,a⟩:=R.sl i x e;exact⟨v,d,a.kp k R.bt R.t0⟩
 ow:=R.ow
 len:=R.len
theorem Rel.new{C:Ctx}{H:Hp}{B:A'->Prop}{σ:St}{δ:Sl}{n:Int}{p:A'}{o:HO}(R:Rel C H B σ δ n)(h:H p=af):Rel C (upd H p o) B σ δ n:=R.step (R.tp.new h) (Kp.new h)
theorem Rel.nb{C:Ctx}{H:Hp}{B:A'->Prop}{σ:St}{δ:Sl}{n:Int}{p:A'}(R:Rel C H B σ δ n)(h:H p=af):¬B p:=λz=>R.ba p z h
theorem eH{α:Type}{l:List (Option α)}{i j:Nat}{x y:α}(h:(l.set i (ae x))[j]?=ae (ae y)):(j=i/\y=x)\/(j≠i/\l[j]?=ae (ae y)):=by
 by_cases e:i=j
 ·subst e;rw[C1]at h;simp_all<;>omega
 ·rw[Bg e]at h;exact .inr ⟨λz=>e z.symm,h⟩
theorem oO{α:Type}{l:List (Option α)}{i:Nat}{x y:Option α}(h:(l.set i x)[i]?=ae y):i < l.length:=by
 have:=(Ap.mp h).1;rwa [Cu]at this
theorem oU{α:Type}{l:List (Option α)}{i:Nat}{x:α}(h:i < l.length):(l.set i (ae x))[i]?=ae (ae x):=by simp[h]
theorem jr{α:Type}{l:List (Option α)}{i j:Nat}{x:α}(h:j≠i):(l.set i (ae x))[j]?=l[j]?:=Bg (λz=>h z.symm)
theorem Rel.set{C:Ctx}{H:Hp}{B:A'->Prop}{σ:St}{δ:Sl}{n:Int}{i:Nat}{v:V}{x:Wv}(R:Rel C H B σ δ n)(h:WRel H B C.t v x)(hx:x.lent=ai):Rel C H B (σ.set i (ae v)) (δ.set i (ae (.w x))) n where
 tp:=R.tp
 kp:=R.kp
 t0:=R.t0
 l0:=R.l0
 g0:=R.g0
 fz:=R.fz
 bt:=R.bt
 b0:=R.b0
 ba:=R.ba
 a0:=R.a0
 sl:=λj y e=>by
  rcases eH e with⟨rfl,rfl⟩|⟨s,r⟩
  ·exact⟨v,oU (R.len▸oO e),h,λz=>by simp_all<;>omega⟩
  ·obtain⟨u,_⟩:=R.sl j y r;exact⟨u,by rw[jr s];trivial⟩
 ow:=λj k y z u D A m q p o=>by
  rcases eH D with⟨rfl,rfl⟩|⟨l,f⟩
  ·cases m
  ·rcases eH A with⟨rfl,rfl⟩|⟨d,g⟩
   ·cases q
   ·rw[jr l]at p;rw[jr d]at o;exact R.ow j k y z u f g m q p o
 len:=by simpa using R.len
theorem Rel.mut{C:Ctx}{H:Hp}{B:A'->Prop}{σ:St}{δ:Sl}{n:Int}{a:A'}{o:HO}(R:Rel C H B σ δ n)(hb:B a)(h0:C.H0 a=af)
  (ho:∀(i:Nat)(x:SV),δ[i]?=ae (ae x)->x.isOwn=ah->σ[i]?≠ae (ae (.ref a))):Rel C (upd H a o) B σ δ n where
 tp:=R.tp.other (λz=>R.t0 (z▸h0)) (λz=>R.l0 (z▸h0)) (λe z=>R.g0 e (z▸h0))
 kp:=λb q e=>(aH (bu e h0))▸R.kp b q e
 t0:=R.t0
 l0:=R.l0
 g0:=R.g0
 fz:=λb q e=>⟨(aH λ(z:b=a)=>(R.fz b q e).2 (z▸hb))▸(R.fz b q e).1,(R.fz b q e).2⟩
 bt:=R.bt
 b0:=R.b0
 ba:=λb E e=>by
  by_cases z:b=a
  ·rw[z,a9]at e;cases e
  ·rw[aH z]at e;exact R.ba b E e
 a0:=R.a0
 sl:=λi x e=>by
  obtain⟨v,K,g⟩:=R.sl i x e;have p:∀b q,H b=ae q->¬B b->upd H a o b=ae q/\¬B b:=λb q e n=>⟨(aH λ(z:b=a)=>n (z▸hb))▸e,n⟩;refine⟨v,K,?_⟩;cases x with
  |w x=>
   refine⟨?_,g.2⟩;cases x with
   |d x=>exact g.1.move p
   |tp=>exact g.1
   |dk m=>
    obtain⟨c,l,f,k,h,j⟩:=g.1;obtain⟨D,t,A⟩:=g.2 rfl;rw[f]at t;cases t;exact⟨c,l,f,(aH λ(z:c=a)=>A (z▸h0))▸k,h,j.move p⟩
   |dx m=>
    obtain⟨c,l,f,k,h,j⟩:=g.1;obtain⟨D,t,A⟩:=g.2 rfl;rw[f]at t;cases t;exact⟨c,l,f,(aH λ(z:c=a)=>A (z▸h0))▸k,h,j.move p⟩
   |ln G=>
    obtain⟨c,l,f,k,h,j,r⟩:=g.1;obtain⟨D,t,A⟩:=g.2 rfl;rw[f]at t;cases t;exact⟨c,l,f,(aH λ(z:c=a)=>A (z▸h0))▸k,h,j,r.move p⟩
   |ob o=>exact ORel.move p g.1
  |own G=>
   obtain⟨c,y,f,k,h,j,r,u⟩:=g;have s:c≠a:=λz=>ho i _ e rfl (by simp_all);exact⟨c,y,f,(aH s)▸k,h,j,r,u.move p⟩
  |odk m=>
   obtain⟨c,y,f,k,h,j,r,u⟩:=g;have s:c≠a:=λz=>ho i _ e rfl (by simp_all);exact⟨c,y,f,(aH s)▸k,h,j,r,u.move p⟩
  |odt m=>
   obtain⟨c,y,f,k,h,j,r,u⟩:=g;have s:c≠a:=λz=>ho i _ e rfl (by simp_all);exact⟨c,y,f,(aH s)▸k,h,j,r,u.move p⟩
  |odx m=>
   obtain⟨c,y,f,k,h,j,r,u⟩:=g;have s:c≠a:=λz=>ho i _ e rfl (by simp_all);exact⟨c,y,f,(aH s)▸k,h,j,r,u.move p⟩
 ow:=R.ow
 len:=R.len
theorem Rel.mutOwn{C:Ctx}{H:Hp}{B:A'->Prop}{σ:St}{δ:Sl}{n:Int}{i:Nat}{x x':SV}{a:A'}{o:HO}(R:Rel C H B σ δ n)(hi:δ[i]?=ae (ae x))(hx:x.isOwn=ah)(hσ:σ[i]?=ae (ae (.ref a)))(hb:B a)(h0:C.H0 a=af)
  (h:SRel C.H0 (upd H a o) B C.t (.ref a) x') (hx':x'.isOwn=ah):Rel C (upd H a o) B σ (δ.set i (ae x')) n:=by
 have I:Rel C H B σ (δ.set i af) n:={
  tp:=R.tp,kp:=R.kp,t0:=R.t0,l0:=R.l0,g0:=R.g0,fz:=R.fz,bt:=R.bt,b0:=R.b0,ba:=R.ba,a0:=R.a0
  sl:=λj y e=>by
   by_cases z:i=j
   ·subst z;rw[C1]at e;simp_all
   ·rw[Bg z]at e;exact R.sl j y e
  ow:=λj k y z u F A v D s p=>by
   have g:∀{m:Nat}{w:SV},(δ.set i af)[m]?=ae (ae w)->δ[m]?=ae (ae w):=λ{m w} e=>by
    by_cases q:i=m
    ·subst q;rw[C1,hi]at e;cases e
    ·rwa [Bg q]at e
   exact R.ow j k y z u (g F) (g A) v D s p
  len:=by rw[Cu];exact R.len}
 have d:Rel C (upd H a o) B σ _ n:=I.mut hb h0 λj y e G f=>by
  by_cases z:i=j
  ·subst z;rw[C1,hi]at e;cases e
  ·rw[Bg z]at e;exact z (R.ow i j x y _ hi e hx G hσ f)
 exact{
  tp:=d.tp,kp:=d.kp,t0:=d.t0,l0:=d.l0,g0:=d.g0,fz:=d.fz,bt:=d.bt,b0:=d.b0,ba:=d.ba,a0:=d.a0
  sl:=λj y e=>by
   rcases eH e with⟨rfl,rfl⟩|⟨J,L⟩
   ·exact⟨_,hσ,h⟩
   ·exact d.sl j y (by rw[Bg λz=>J z.symm];omega)
  ow:=λj k y z u F A v D s p=>by
   rcases eH F with⟨rfl,rfl⟩|⟨K,r⟩
   ·rcases eH A with⟨rfl,rfl⟩|⟨E,l⟩
    ·rfl
    ·exact R.ow _ _ x z u hi l hx D s p
   ·rcases eH A with⟨rfl,rfl⟩|⟨E,l⟩
    ·exact R.ow _ _ y x u r hi v hx s p
    ·exact R.ow j k y z u r l v D s p
  len:=by rw[Cu];exact R.len}
theorem Rel.own{C:Ctx}{H H':Hp}{B:A'->Prop}{σ:St}{δ:Sl}{n n':Int}{i:Nat}{a:A'}{x:SV}(R:Rel C H B σ δ n)(R':Rel C H' B σ δ n')(k:Kp C.t H H')(h0:H a=af)(h1:H' a≠af)(hx:x.isOwn=ah)
  (h:SRel C.H0 H' (λb=>B b\/b=a) C.t (.ref a) x):Rel C H' (λb=>B b\/b=a) (σ.set i (ae (.ref a))) (δ.set i (ae x)) n' where
 tp:=R'.tp
 kp:=R'.kp
 t0:=R'.t0
 l0:=R'.l0
 g0:=R'.g0
 fz:=λb o e=>⟨(R'.fz b o e).1,λz=>z.elim (R'.fz b o e).2 (bu (R.fz b o e).1 h0)⟩
 bt:=.inl R.bt
 b0:=λb z=>.inl (R.b0 b z)
 ba:=λb z=>z.elim (R'.ba b) λq=>q▸h1
 a0:=R.a0
 sl:=λj y e=>by
  simp_all
  have I:∀b Q,H b=ae Q->¬B b->H' b=ae Q/\¬(B b\/b=a):=λb Q e n=>⟨k b Q e λz=>n (z▸R.bt),λz=>z.elim n (bu e h0)⟩;rcases eH e with⟨rfl,rfl⟩|⟨ne,e'⟩
  ·exact⟨_,oU (R.len▸oO e),h⟩
  ·obtain⟨v,M,D⟩:=R.sl j y e';refine⟨v,by rw[jr ne];exact M,?_⟩;cases y with
   |w y=>
    refine⟨?_,D.2⟩;cases y with
    |d y=>exact D.1.move I
    |tp=>exact D.1
    |dk G=>
     obtain⟨A,l,r,g,E,s⟩:=D.1;exact⟨A,l,r,k _ _ g E,E,s.move I⟩
    |dx G=>
     obtain⟨A,l,r,g,E,s⟩:=D.1;exact⟨A,l,r,k _ _ g E,E,s.move I⟩
    |ln N=>
     obtain⟨A,l,r,g,E,s,J⟩:=D.1;exact⟨A,l,r,k _ _ g E,E,s,J.move I⟩
    |ob o=>exact ORel.move I D.1
   |own N=>
    obtain⟨A,F,r,g,E,s,J,K⟩:=D;exact⟨A,F,r,k _ _ g (λz=>R.t0 (z▸s)),.inl E,s,J,K.move I⟩
   |odk G=>
    obtain⟨A,F,r,g,E,s,J,K⟩:=D;exact⟨A,F,r,k _ _ g (λz=>R.t0 (z▸s)),.inl E,s,J,K.move I⟩
   |odt G=>
    obtain⟨A,F,r,g,E,s,J,K⟩:=D;exact⟨A,F,r,k _ _ g (λz=>R.t0 (z▸s)),.inl E,s,J,K.move I⟩
   |odx G=>
    obtain⟨A,F,r,g,E,s,J,K⟩:=D;exact⟨A,F,r,k _ _ g (λz=>R.t0 (z▸s)),.inl E,s,J,K.move I⟩
 ow:=λj m y z u r g Z o2 M D=>by
  have out:∀{p:Nat}{w:SV},δ[p]?=ae _->w.isOwn=ah->σ[p]?=ae (ae (.ref a))->False:=λ{p w} e ow f=>by
   obtain⟨v,Y,S⟩:=R.sl p w e;rw[f]at Y;cases Y;cases w with
   |w _=>cases ow
   |own N=>
    obtain⟨A,F,r,g,_⟩:=S;simp_all
   |odk N=>
    obtain⟨A,F,r,g,_⟩:=S;simp_all
   |odt N=>
    obtain⟨A,F,r,g,_⟩:=S;simp_all
   |odx N=>
    obtain⟨A,F,r,g,_⟩:=S;simp_all
  rcases eH r with⟨rfl,rfl⟩|⟨P,V⟩
  ·rcases eH g with⟨rfl,rfl⟩|⟨L,O⟩
   ·rfl
   ·rw[oU (R.len▸oO r)]at M;rw[jr L]at D;simp_all
  ·rcases eH g with⟨rfl,rfl⟩|⟨L,O⟩
   ·rw[oU (R.len▸oO g)]at D;rw[jr P]at M;simp_all
   ·rw[jr P]at M;rw[jr L]at D;exact R.ow j m y z u V O Z o2 M D
 len:=by rw[Cu,Cu];exact R.len
theorem Rel.give{C:Ctx}{H:Hp}{B:A'->Prop}{σ:St}{δ:Sl}{n:Int}{i:Nat}{x:SV}{y:Wv}{a:A'}(R:Rel C H B σ δ n)(hi:δ[i]?=ae (ae x))(ox:x.isOwn=ah)(hv:σ[i]?=ae (ae (.ref a)))(e4:C.H0 a=af)(hy:WRel H (λb=>B b/\b≠a) C.t (.ref a) y)(hl:y.lent=ai):Rel C H (λb=>B b/\b≠a) σ (δ.set i (ae (.w y))) n:=by
 have f:∀b,(B b/\b≠a)->B b:=λb z=>z.1;exact{
  tp:=R.tp,kp:=R.kp,t0:=R.t0,l0:=R.l0,g0:=R.g0
  fz:=λb o e=>⟨(R.fz b o e).1,λz=>(R.fz b o e).2 z.1⟩
  bt:=⟨R.bt,λz=>R.t0 (z▸e4)⟩
  b0:=λb z=>⟨R.b0 b z,λq=>R.a0 b z (q▸e4)⟩
  ba:=λb z=>R.ba b z.1
  a0:=R.a0
  sl:=λj K e=>by
   rcases eH e with⟨rfl,rfl⟩|⟨F,E⟩
   ·exact⟨_,hv,hy,λz=>by rw[hl]at z;cases z⟩
   ·obtain⟨u,m,g⟩:=R.sl j K E;refine⟨u,m,?_⟩;cases K with
    |w y=>exact⟨g.1.less f,g.2⟩
    |own l=>
     obtain⟨p,d,v,A,s,r,D,h⟩:=g;exact⟨p,d,v,A,⟨s,λz=>F (R.ow j i _ _ _ E hi rfl ox m (by simp_all))⟩,r,D,h.less f⟩
    |odk l=>
     obtain⟨p,d,v,A,s,r,D,h⟩:=g;exact⟨p,d,v,A,⟨s,λz=>F (R.ow j i _ _ _ E hi rfl ox m (by simp_all))⟩,r,D,h.move λb o e n=>⟨e,λz=>n z.1⟩⟩
    |odt l=>
     obtain⟨p,d,v,A,s,r,D,h⟩:=g;exact⟨p,d,v,A,⟨s,λz=>F (R.ow j i _ _ _ E hi rfl ox m (by simp_all))⟩,r,D,h.move λb o e n=>⟨e,λz=>n z.1⟩⟩
    |odx l=>
     obtain⟨p,d,v,A,s,r,D,h⟩:=g;exact⟨p,d,v,A,⟨s,λz=>F (R.ow j i _ _ _ E hi rfl ox m (by simp_all))⟩,r,D,h.move λb o e n=>⟨e,λz=>n z.1⟩⟩
  ow:=λj k y z u U Q J L m g=>by
   rcases eH U with⟨rfl,rfl⟩|⟨T,G⟩
   ·cases J
   ·rcases eH Q with⟨rfl,rfl⟩|⟨O,I⟩
    ·cases L
    ·exact R.ow j k y z u G I J L m g
  len:=by rw[Cu];exact R.len}
theorem Rel.frz{C:Ctx}{H:Hp}{B:A'->Prop}{σ:St}{δ:Sl}{n:Int}{i:Nat}{ds:List Ad}(R:Rel C H B σ δ n)(hi:δ[i]?=ae (ae (.own ds))):∃B',Rel C H B' σ (δ.set i (↑(.list ds))) n:=by
 obtain⟨v,c,a,k,rfl,e,j,f,g,h⟩:=R.sl i _ hi;exact⟨_,R.give hi rfl c f (show RdX H _ _ (.list ds)from .lst e (λz=>z.2 rfl) g (h.less λb z=>z.1)) rfl⟩
theorem Rel.frzK{C:Ctx}{H:Hp}{B:A'->Prop}{σ:St}{δ:Sl}{n:Int}{i:Nat}{m:List (aC×Ad)}(R:Rel C H B σ δ n)(hi:δ[i]?=ae (ae (.odk m))):∃B',Rel C H B' σ (δ.set i (ae (.w (.ob (.k m))))) n:=by
 obtain⟨v,c,a,d,rfl,f,j,g,l,h⟩:=R.sl i _ hi;exact⟨_,R.give hi rfl c g ⟨a,d,rfl,f,λz=>z.2 rfl,h.move λb o e n=>⟨e,λz=>n z.1⟩⟩ rfl⟩
theorem Rel.frzX{C:Ctx}{H:Hp}{B:A'->Prop}{σ:St}{δ:Sl}{n:Int}{i:Nat}{m:List (TK×Ad)}(R:Rel C H B σ δ n)(hi:δ[i]?=ae (ae (.odx m))):∃B',Rel C H B' σ (δ.set i (ae (.w (.ob (.x m))))) n:=by
 obtain⟨v,c,a,d,rfl,f,j,g,k,h⟩:=R.sl i _ hi;exact⟨_,R.give hi rfl c g ⟨a,d,rfl,f,λz=>z.2 rfl,h.move λb o e n=>⟨e,λz=>n z.1⟩⟩ rfl⟩
abbrev DQ:=Wv->Int->Prop
abbrev DT:=Sl->Int->DQ->Prop
abbrev b5:=Sl->Int->(Bool->Int->Prop)->Prop
abbrev cK:=Sl->Int->(List Wv->Int->Prop)->Prop
inductive ARel(H:Hp)(B:A'->Prop)(t:A'):List V->List Wv->Prop
 |nil:ARel H B t [] []
 |cons {v:V} {vs:List V} {x:Wv} {xs:List Wv}:WRel H B t v x->ARel H B t vs xs->ARel H B t (v::vs) (x::xs)
theorem ARel.kp{H H':Hp}{B:A'->Prop}{t:A'}(k:Kp t H H')(ht:B t):∀{vs:List V}{xs:List Wv},ARel H B t vs xs->ARel H' B t vs xs
 |_,_,.nil=>.nil
 |_,_,.cons a b=>.cons (a.kp k ht) (ARel.kp k ht b)
theorem ARel.len{H:Hp}{B:A'->Prop}{t:A'}:∀{vs:List V}{xs:List Wv},ARel H B t vs xs->vs.length=xs.length
 |_,_,.nil=>rfl
 |_,_,.cons _ b=>by rw[Ax,Ax,ARel.len b]
def dm(t:TE)(w:DT):Prop:=∀(C:Ctx)(H:Hp)(B:A'->Prop)(σ:St)(δ:Sl)(n:Int)(Q:DQ)(Q':VK),Rel C H B σ δ n->w δ n Q->
 (∀v x H' n',Rel C H' B σ δ n'->Kp C.t H H'->WRel H' B C.t v x->Q x n'->Q' v H')->t σ H Q'
def iK(t:TT)(w:b5):Prop:=∀(C:Ctx)(H:Hp)(B:A'->Prop)(σ:St)(δ:Sl)(n:Int)(Q:Bool->Int->Prop)(Q':Bool->Hp->Prop),Rel C H B σ δ n->w δ n Q->
 (∀b H' n',Rel C H' B σ δ n'->Kp C.t H H'->Q b n'->Q' b H')->t σ H Q'
def jh(t:TA)(w:cK):Prop:=∀(C:Ctx)(H:Hp)(B:A'->Prop)(σ:St)(δ:Sl)(n:Int)(Q:List Wv->Int->Prop)(Q':List V->Hp->Prop),Rel C H B σ δ n->w δ n Q->
 (∀vs xs H' n',Rel C H' B σ δ n'->Kp C.t H H'->ARel H' B C.t vs xs->Q xs n'->Q' vs H')->t σ H Q'
abbrev d0:=Sl->Int->(List Ad->Int->Prop)->Prop
def iq(t:TE)(w:d0):Prop:=∀(C:Ctx)(H:Hp)(B:A'->Prop)(σ:St)(δ:Sl)(n:Int)(Q:List Ad->Int->Prop)(Q':VK),Rel C H B σ δ n->w δ n Q->
 (∀a xs ds H' n',Rel C H' B σ δ n'->Kp C.t H H'->H a=af->H' a=ae (.lst xs)->xs.length<=Av->RdXs H' (λb=>B b\/b=a) xs ds->Q ds n'->Q' (.ref a) H')->t σ H Q'
structure DE(X:Cx)(e:Expr)(t:TE)(w:DT):Prop where
 pe:PE X e t
 sd:dm t w
structure DC(X:Cx)(e:Expr)(t:TT)(w:b5):Prop where
 pt:PT X e t
 sd:iK t w
structure DCW(X:Cx)(e:Expr)(t:TT)(w:b5):Prop where
 pw:PW X e t
 sd:iK t w
structure DA(X:Cx)(es:List Expr)(t:TA)(w:cK):Prop where
 pa:PA X es t
 sd:jh t w
structure DF(X:Cx)(e:Expr)(t:TE)(w:d0):Prop where
 pe:PE X e t
 sd:iq t w
variable{X:Cx}{a b c e:Expr}{ta tb tc te:TE}{wa wb wc we:DT}{pos:Pos}
def aj(i:Nat):DT:=λδ n Q=>match δ[i]? with
 |some (ae (.w x))=>Q x n
 |_=>False
theorem gg(i:Nat){x:Str}{p:Pos}(hN:X.N[i]?=ae x:=by rfl)(hv:dY X.env.scope x:=by first|exact Cj rfl|exact B6 (Cj rfl)|exact B6 (B6 rfl))(hd:(x==("__debug__":Str))=ai:=by decide)
  (r_:(x==("__classdict__":Str))=ai:=by decide):DE X (.Name x p) (aI i) (aj i):=⟨eS hN hv hd r_,λC H B σ δ n Q c R h k=>by
 unfold aj at h
 split at h
 ·rename_i x e;obtain⟨v,b,a⟩:=R.sl i _ e;exact⟨v,b,k v x H n R (Kp.refl _ _) a.1 h⟩
 ·exact h.elim⟩
def wC(d:Ad):DT:=λ_ n Q=>Q (.d d) n
theorem nf{v:V}{d:Ad}(h:∀H B,RdX H B v d):dm (tC v) (wC d):=λC H B σ δ n Q a R q k=>k v (.d d) H n R (Kp.refl _ _) (h H B) q
theorem AZ{i j p}:DE X (.Constant (.int i) j p) (tC (.int i)) (wC (.int i)):=⟨b4,nf λ_ _=>.int i⟩
theorem sy{i j p}:DE X (.Constant (.bool i) j p) (tC (.bl i)) (wC (.bool i)):=⟨AE,nf λ_ _=>.bl i⟩
theorem xj{j p}:DE X (.Constant .none j p) (tC .non) (wC .none):=⟨kL,nf λ_ _=>.non⟩
theorem ID{x j p}(h:Str.length x<=Av):DE X (.Constant (.str x) j p) (tC (.str x)) (wC (.str x)):=⟨MG,nf λ_ _=>.str x h⟩
theorem BX{x:Str}{i:Int}{tk:Tok}{p:Pos}(hg:Gl X x)(hm:X.mg x=ae (.int i tk))(hd:(x==("__debug__":Str))=ai:=by decide):DE X (.Name x p) (tC (.int i)) (wC (.int i)):=⟨v7 hg hm ⟨tk,rfl⟩ hd,nf λ_ _=>.int i⟩
def w2(wa wb:DT)(g:Wv->Wv->Int->DQ->Prop):DT:=λδ n Q=>wa δ n λx n1=>wb δ n1 λy n2=>g x y n2 Q
def a8(r:R2)(g:Wv->Wv->Int->DQ->Prop):Prop:=∀(C:Ctx)(H:Hp)(B:A'->Prop)(σ:St)(δ:Sl)(n:Int)(x y:V)(p q:Wv)(Q:DQ)(Q':VK),Rel C H B σ δ n->WRel H B C.t x p->WRel H B C.t y q->g p q n Q->
 (∀v x H' n',Rel C H' B σ δ n'->Kp C.t H H'->WRel H' B C.t v x->Q x n'->Q' v H')->r x y H Q'
theorem nz{r:R2}{g:Wv->Wv->Int->DQ->Prop}(hr:a8 r g)(ha:dm ta wa)(hb:dm tb wb):dm (cZ r ta tb) (w2 wa wb g):=λC H B σ δ n Q q R h k=>
 ha C H B σ δ n _ _ R h λv x m o b A s f=>hb C m B σ δ o _ _ b f λu y j l R2 a t d=>
  hr C j B σ δ l v u x y Q q R2 (s.kp a b.bt) t d λz p e i D c=>k z p e i D ((A.trans a).trans c)
theorem gU{op:Operator}{r:R2}{g:Wv->Wv->Int->DQ->Prop}(ho:OpR X (E9 op) r)(hr:a8 r g)(ha:DE X a ta wa)(hb:DE X b tb wb):DE X (.BinOp a op b pos) (cZ r ta tb) (w2 wa wb g):=
 ⟨dD ho ha.pe hb.pe,nz hr ha.sd hb.sd⟩
theorem qX{op:CmpOp}{r:R2}{g:Wv->Wv->Int->DQ->Prop}(ho:OpR X (B3 op) r)(hr:a8 r g)(ha:DE X a ta wa)(hb:DE X b tb wb)(hm:Cm op b=ai):DE X (.Compare a [op] [b] pos) (cZ r ta tb) (w2 wa wb g):=
 ⟨Oq ho ha.pe hb.pe hm,nz hr ha.sd hb.sd⟩
def cT(w:DT):b5:=λδ n Q=>w δ n λx n'=>match x with
 |.d (.bool k)=>Q k n'
 |_=>False
theorem wd{H:Hp}{B:A'->Prop}{t:A'}{v:V}{d:Ad}(h:RdX H B v d):WRel H B t v (.d d):=h
theorem kb{t:TE}{w:DT}(h:dm t w):iK (fQ t) (cT w):=λC H B σ δ n Q j R q k=>
 h C H B σ δ n _ _ R q λv x c e d g f a=>by
  split at a
  ·rename_i b;cases(show RdX c B v (.bool b)from f);exact⟨b,rfl,k b c e d g a⟩
  ·exact a.elim
theorem fK{op:CmpOp}{r:R2}{g:Wv->Wv->Int->DQ->Prop}(ho:OpR X (B3 op) r)(hr:a8 r g)(ha:DE X a ta wa)(hb:DE X b tb wb)(hm:Cm op b=ai):DC X (.Compare a [op] [b] pos) (fQ (cZ r ta tb)) (cT (w2 wa wb g)):=
 ⟨ja ho ha.pe hb.pe hm,kb (nz hr ha.sd hb.sd)⟩
theorem K7{t:TE}{w:DT}(h:DE X e t w)(he:∀whole,isTrue e X.env whole=(do let v <-whole;standAt e.pos;holding [v] (truthy v))):DC X e (fQ t) (cT w):=⟨zR h.pe he,kb h.sd⟩
def gf(x:Wv)(A B:Prop):Prop:=match x with
 |.d (.bool ah)=>A
 |.d (.bool ai)=>B
 |_=>False
theorem Iv(b:Bool)(A B:Prop):gf (.d (.bool b)) A B=if b=ah then A else B:=by cases b<;>simp[gf]
def pU(g g':Wv->Wv->Int->DQ->Prop)(wa wb wc:DT):DT:=λδ n Q=>wa δ n λx n1=>wb δ n1 λy n2=>g x y n2 λz n3=>gf z (wc δ n3 λu n4=>g' y u n4 Q) (Q (.d (.bool ai)) n3)
theorem JY{r r':R2}{g g':Wv->Wv->Int->DQ->Prop}(hr:a8 r g)(hr':a8 r' g')(ha:dm ta wa)(hb:dm tb wb)(hc:dm tc wc):dm (vY r r' ta tb tc) (pU g g' wa wb wc):=λC H B σ δ n Q O R h k=>
 ha C H B σ δ n _ _ R h λv x I M l V T E=>hb C I B σ δ M _ _ l E λu y F G R2 i m w=>
  hr C F B σ δ G v u x y _ _ R2 (T.kp i l.bt) m w λz p c j e f o b=>by
   have a:=(V.trans i).trans f;unfold gf at b
   split at b
   ·cases(show RdX c B z (.bool ah)from o);exact⟨_,rfl,hc C c B σ δ j _ _ e b λw0 s N S P q t U=>hr' C N B σ δ S u w0 y s Q O P ((m.kp f R2.bt).kp q e.bt) t U λz p W J D A=>k z p W J D ((a.trans q).trans A)⟩
   ·cases(show RdX c B z (.bool ai)from o);exact⟨_,rfl,k _ _ c j e a ⋯ b⟩
   ·exact b.elim
theorem SM{op op':CmpOp}{r r':R2}{g g':Wv->Wv->Int->DQ->Prop}(ho:OpR X (B3 op) r)(hr:a8 r g)(ho':OpR X (B3 op') r')(hr':a8 r' g')(ha:DE X a ta wa)(hb:DE X b tb wb)(hc:DE X c tc wc)
  (hm:lastMarks [op,op'] [b,c]=ai):DE X (.Compare a [op,op'] [b,c] pos) (vY r r' ta tb tc) (pU g g' wa wb wc):=⟨QO ho ho' ha.pe hb.pe hc.pe hm,JY hr hr' ha.sd hb.sd hc.sd⟩
variable{tA tB':TT}{cA cB:b5}{aA:List Expr}
def dU(u v:b5):b5:=λδ n Q=>u δ n λb n1=>if b=ah then v δ n1 Q else Q ai n1
def f9(u v:b5):b5:=λδ n Q=>u δ n λb n1=>if b=ah then Q ah n1 else v δ n1 Q
def dh(u:b5):b5:=λδ n Q=>u δ n λb n1=>Q (!b) n1
theorem cw_and1(h:DC X a tA cA):DCW X (.BoolOp .And [a] pos) tA cA:=⟨wO h.pt,h.sd⟩
theorem cw_or1(h:DC X a tA cA):DCW X (.BoolOp .Or [a] pos) tA cA:=⟨OB h.pt,h.sd⟩
theorem cw_and(h:DC X a tA cA)(h2:DCW X (.BoolOp .And (b::aA) pos) tB' cB):DCW X (.BoolOp .And (a::b::aA) pos) (jM tA tB') (dU cA cB):=⟨EE h.pt h2.pw,λC H B σ δ n Q p R q k=>
 h.sd C H B σ δ n _ _ R q λb e f d g c=>by
  cases b with
  |true=>
   exact h2.sd C e B σ δ f _ _ d c λb l m o i=>k b l m o (g.trans i)
  |false=>
   exact k ai e f d g c⟩
theorem cw_or(h:DC X a tA cA)(h2:DCW X (.BoolOp .Or (b::aA) pos) tB' cB):DCW X (.BoolOp .Or (a::b::aA) pos) (BZ tA tB') (f9 cA cB):=⟨Oc h.pt h2.pw,λC H B σ δ n Q p R q k=>
 h.sd C H B σ δ n _ _ R q λb e f d g c=>by
  cases b with
  |true=>
   exact k ah e f d g c
  |false=>
   exact h2.sd C e B σ δ f _ _ d c λb l m o i=>k b l m o (g.trans i)⟩
theorem DCW.cc(h:DCW X a tA cA):DC X a tA cA:=⟨h.pw.pt,h.sd⟩
theorem PB(h:DC X a tA cA):DC X (.UnaryOp .Not a pos) (kD tA) (dh cA):=⟨xV h.pt,λC H B σ δ n Q i R q k=>h.sd C H B σ δ n _ _ R q λb=>k _⟩
def fw(u v:DT):DT:=λδ n Q=>u δ n λx n1=>gf x (v δ n1 Q) (Q (.d (.bool ai)) n1)
def uj(u v:DT):DT:=λδ n Q=>u δ n λx n1=>gf x (Q (.d (.bool ah)) n1) (v δ n1 Q)
def nX(u:DT):DT:=λδ n Q=>u δ n λx n1=>match x with
 |.d (.bool b)=>Q (.d (.bool !b)) n1
 |_=>False
theorem Ht{op}(h:DE X a ta wa):DE X (.BoolOp op [a] pos) ta wa:=⟨HL h.pe,h.sd⟩
theorem HY(h:DE X a ta wa)(h2:DE X (.BoolOp .And (b::aA) pos) tb wb):DE X (.BoolOp .And (a::b::aA) pos) (z8 ta tb) (fw wa wb):=⟨QT h.pe h2.pe,λC H B σ δ n Q t R q k=>
 h.sd C H B σ δ n _ _ R q λv x d g f j i c=>by
  unfold gf at c
  split at c
  ·cases(show RdX d B v (.bool ah)from i);exact⟨_,rfl,h2.sd C d B σ δ g _ _ f c λv x o p r l=>k v x o p r (j.trans l)⟩
  ·cases(show RdX d B v (.bool ai)from i);exact⟨_,rfl,k _ _ d g f j ⋯ c⟩
  ·exact c.elim⟩
theorem tu(h:DE X a ta wa)(h2:DE X (.BoolOp .Or (b::aA) pos) tb wb):DE X (.BoolOp .Or (a::b::aA) pos) (mR ta tb) (uj wa wb):=⟨NR h.pe h2.pe,λC H B σ δ n Q t R q k=>
 h.sd C H B σ δ n _ _ R q λv x d g f j i c=>by
  unfold gf at c
  split at c
  ·cases(show RdX d B v (.bool ah)from i);exact⟨_,rfl,k _ _ d g f j ⋯ c⟩
  ·cases(show RdX d B v (.bool ai)from i);exact⟨_,rfl,h2.sd C d B σ δ g _ _ f c λv x o p r l=>k v x o p r (j.trans l)⟩
  ·exact c.elim⟩
theorem Pk(h:DE X a ta wa):DE X (.UnaryOp .Not a pos) (BD ta) (nX wa):=⟨QY h.pe,λC H B σ δ n Q l R q k=>
 h.sd C H B σ δ n _ _ R q λv x d f e j g c=>by
  split at c
  ·rename_i b;cases(show RdX d B v (.bool b)from g);exact⟨b,rfl,k _ _ d f e j (wd (.bl _)) c⟩
  ·exact c.elim⟩
def fM(u:b5)(v w:DT):DT:=λδ n Q=>u δ n λb n1=>if b=ah then v δ n1 Q else w δ n1 Q
theorem Pa(h:DC X c tA cA)(h1:DE X a ta wa)(h2:DE X b tb wb):DE X (.IfExp c a b pos) (FC tA ta tb) (fM cA wa wb):=⟨Ph h.pt h1.pe h2.pe,λC H B σ δ n Q s R q k=>
 h.sd C H B σ δ n _ _ R q λb o p m r l=>by
  cases b with
  |true=>
   exact h1.sd C o B σ δ p _ _ m l λv x f g i d=>k v x f g i (r.trans d)
  |false=>
   exact h2.sd C o B σ δ p _ _ m l λv x f g i d=>k v x f g i (r.trans d)⟩
variable{es:List Expr}{tR:TA}{wR:cK}
def ak:cK:=λ_ n Q=>Q [] n
def ao(w:DT)(r:cK):cK:=λδ n Q=>w δ n λx n1=>r δ n1 λxs n2=>Q (x::xs) n2
theorem kX:DA X [] aW ak:=⟨dq,λC H B σ δ n Q a R q k=>k [] [] H n R (Kp.refl _ _) .nil q⟩
theorem jx(h:DE X e te we)(hr:DA X es tR wR)(hs:Aq (e::es) X.env=(ai,eval e X.env)::Aq es X.env:=by rfl):DA X (e::es) (br te tR) (ao we wR):=⟨bZ h.pe hr.pa hs,λC H B σ δ n Q r R q k=>
 h.sd C H B σ δ n _ _ R q λv x i j b p m d=>hr.sd C i B σ δ j _ _ b d λvs s f g l a o=>k _ _ f g l (p.trans a) (.cons (m.kp a b.bt) o)⟩
def hO:List Wv->Option (List Ad)
 |[]=>ae []
 |.d x::r=>(hO r).map (x::·)
 |_::_=>af
theorem ARel.plain{H:Hp}{B:A'->Prop}{t:A'}:∀{vs:List V}{xs:List Wv}{ds:List Ad},ARel H B t vs xs->hO xs=ae ds->RdXs H B vs ds
 |_,_,_,.nil,h=>by
  cases h;exact .nil
 |_,_,ds,.cons (x:=x) (xs:=xs) a b,h=>by
  cases x with
  |d x=>
   have c:(hO xs).map _=ae ds:=h;cases e:hO xs with
   |none=>rw[e]at c;trivial
   |some f=>
    rw[e]at c;cases c;exact .cons a (ARel.plain b e)
  |tp=>cases h
  |dk _=>cases h
  |dx _=>cases h
  |ln _=>cases h
  |ob _=>cases h
theorem RdXs.fresh{H:Hp}{B:A'->Prop}{vs:List V}{ds:List Ad}{p:A'}{o:HO}(h:RdXs H B vs ds)(hp:H p=af):RdXs (upd H p o) (λb=>B b\/b=p) vs ds:=
 h.move λb a e n=>⟨(aH (bu e hp))▸e,λz=>z.elim n (bu e hp)⟩
def ax(w:cK):DT:=λδ n Q=>w δ n λxs n1=>match hO xs with
 |some ds=>ds.length<=1000/\Q (.d (.tuple ds)) n1
 |none=>False
theorem CT{x1}(h:DA X es tR wR):DE X (.Tuple es x1 pos) (j4 tR) (ax wR):=⟨PL h.pa,λC H B σ δ n Q s R q k=>
 h.sd C H B σ δ n _ _ R q λvs t o g f j i a=>by
  split at a
  ·rename_i l e;have r:=i.plain e;have d:vs.length<=Av:=by rw[r.len];exact small a.1
   exact⟨d,λp c=>k _ _ _ g (f.new c) (j.trans (Kp.new c)) (wd (show RdX _ B _ (.tuple l)from(.tup a9 (f.nb c) d ((r.fresh c).less λb=>.inl)))) a.2⟩
  ·exact a.elim⟩
def aO(w:cK):d0:=λδ n Q=>w δ n λxs n1=>match hO xs with
 |some ds=>ds.length<=1000/\Q ds n1
 |none=>False
theorem z4(h:DA X es tR wR):DF X (.List es pos) (iJ tR) (aO wR):=⟨oB h.pa,λC H B σ δ n Q u R q k=>
 h.sd C H B σ δ n _ _ R q λvs v j m d f s b=>by
  split at b
  ·rename_i g e;have r:=s.plain e;have c:vs.length<=Av:=by rw[r.len];exact small b.1
   have l:∀p,j p=af->H p=af:=λp a=>by
    cases q:H p with
    |none=>rfl
    |some o=>
     by_cases z:p=C.t
     ·subst z;obtain⟨_,_,h,_⟩:=d.tp.ob;simp_all<;>omega
     ·rw[f p o q z]at a;omega
   exact⟨c,λp a=>k p vs g _ m (d.new a) (f.trans (Kp.new a)) (l p a) a9 c (r.fresh a) b.2⟩
  ·exact b.elim⟩
def bb(w:d0):DT:=λδ n Q=>w δ n λds n1=>Q (.d (.list ds)) n1
theorem Ho{t:TE}{w:d0}(h:iq t w):dm t (bb w):=λC H B σ δ n Q p R q k=>
 h C H B σ δ n _ _ R q λa r o c i e m j l d f=>k _ _ c i e m (wd (show RdX c B _ (.list o)from .lst l (R.nb j) d (f.less λb z=>.inl z)))
theorem DF.d{w:d0}{t:TE}(h:DF X e t w):DE X e t (bb w):=⟨h.pe,Ho h.sd⟩
theorem Rel.was{C:Ctx}{H H1:Hp}{B:A'->Prop}{σ:St}{δ:Sl}{n1:Int}(R1:Rel C H1 B σ δ n1)(k1:Kp C.t H H1){p:A'}(hp:H1 p=af):H p=af:=by
 cases q:H p with
 |none=>rfl
 |some o=>
  by_cases z:p=C.t
  ·subst z;obtain⟨_,_,h,_⟩:=R1.tp.ob;simp_all<;>omega
  ·rw[k1 p o q z]at hp;omega
abbrev aP:=List Wv->Int->DQ->Prop
def dv(S:aP):Sp:=λvs H Q _=>∃(t:A')(l:TL)(ns:List Int)(B:A'->Prop)(ws:List Wv)(n:Int)(Q0:DQ),Tp H t l ns n/\B t/\(∀b,B b->H b≠af)/\ARel H B t vs ws/\S ws n Q0 /\
 ∀w n',Q0 w n'->∀v H',Tp H' t l ns n'->Kp t H H'->WRel H' B t v w->Q v H'
section
variable{X:Cx}{e:Expr}{es:List Expr}{pos p:Pos}{tR:TA}{wR:cK}
def aD(S:aP)(w:cK):DT:=λδ n Q=>w δ n λxs n1=>S xs n1 Q
theorem Qx{S:aP}{t:TA}{w:cK}(h:jh t w):dm (ee (dv S) [] E0 t) (aD S w):=λC H B σ δ n Q s R q k=>
 h C H B σ δ n _ _ R q λvs j r f a p o d=>⟨C.t,C.l,_,B,j,f,Q,a.tp,a.bt,a.ba,by simpa using o,d,λw e c v g m b i=>k v w g e (a.step m b) (p.trans b) i c⟩
theorem RX{k:Nat}{f:A'}{fd:Cc}{ps:List Str}{S:aP}{x:Str}(F:FnOk X.prog X.w X.K X.mg X.base bW k f fd ps (dv S))(hr:Room k X.A)(hg:Gl X x)(hm:X.mg x=ae (.ref f))(hk:Ct X.K (.ref f)=ah)(hb:Binds X.K fd ps [])
  (ha:DA X (e::es) tR wR) (hdb:(x==("__debug__":Str))=ai) (he:Aq (e::es) X.env=(ai,eval e X.env)::Aq es X.env) (q_:(C0 pos (Aq es X.env)).any (·.1)=ai):
  DE X (.Call (.Name x p) (e::es) [] pos) (ee (dv S) [] E0 tR) (aD S wR):=⟨jH F hr hg hm hk hb .nil jD ha.pa hdb he q_,Qx ha.sd⟩
def cX(r:List V->Hp->VK->Prop)(g:List Wv->Int->DQ->Prop):Prop:=∀(C:Ctx)(H:Hp)(B:A'->Prop)(σ:St)(δ:Sl)(n:Int)(vs:List V)(xs:List Wv)(Q:DQ)(Q':VK),Rel C H B σ δ n->ARel H B C.t vs xs->g xs n Q->
 (∀v x H' n',Rel C H' B σ δ n'->Kp C.t H H'->WRel H' B C.t v x->Q x n'->Q' v H')->r vs H Q'
def wB(g:List Wv->Int->DQ->Prop)(w:cK):DT:=λδ n Q=>w δ n λxs n1=>g xs n1 Q
theorem xZ{r:List V->Hp->VK->Prop}{g:List Wv->Int->DQ->Prop}{t:TA}{w:cK}(hr:cX r g)(h:jh t w):dm (d5 r t) (wB g w):=λC H B σ δ n Q l R q k=>
 h C H B σ δ n _ _ R q λvs m i j e u p c=>hr C i B σ δ j vs m Q l e p c λv x d f o a=>k v x d f o (u.trans a)
theorem k7{id:String}{x:Str}{r:List V->Hp->VK->Prop}{g:List Wv->Int->DQ->Prop}(hc:CallR X (.builtin id) r)(hr:cX r g)(hg:Gl X x)(hm:X.mg x=af)(hv:Bw x=ae (.builtin id))(ha:DA X (e::es) tR wR)(hn:x≠"__name__":=by decide)(hdb:(x==("__debug__":Str))=ai:=by decide)
  (he:Aq (e::es) X.env=(ai,eval e X.env)::Aq es X.env:=by rfl) (q_:(C0 pos (Aq es X.env)).any (·.1)=ai:=by rfl):DE X (.Call (.Name x p) (e::es) [] pos) (d5 r tR) (wB g wR):=⟨gz hc hg hm hv ha.pa hn hdb he q_,xZ hr ha.sd⟩
theorem xn{T:String}{x:Str}{r:List V->Hp->VK->Prop}{g:List Wv->Int->DQ->Prop}(hc:CallR X (.type T) r)(hr:cX r g)(hg:Gl X x)(hm:X.mg x=af)(hv:Bw x=ae (.type T))(ha:DA X (e::es) tR wR)(hn:x≠"__name__")(hdb:(x==("__debug__":Str))=ai)
  (he:Aq (e::es) X.env=(ai,eval e X.env)::Aq es X.env) (q_:(C0 pos (Aq es X.env)).any (·.1)=ai):DE X (.Call (.Name x p) (e::es) [] pos) (d5 r tR) (wB g wR):=⟨mN hc hg hm hv ha.pa hn hdb he q_,xZ hr ha.sd⟩
end
structure DEnds where
 nx:Sl->Int->Prop
 rt:DQ
 bk:Sl->Int->Prop:=λ_ _=>False
 ct:Sl->Int->Prop:=λ_ _=>False
 rn:List Ad->Int->Prop:=λ_ _=>False
 rx:List (TK×Ad)->Int->Prop:=λ_ _=>False
abbrev aE:=Sl->Int->DEnds->Prop
structure EndsOk(C:Ctx)(K:DEnds)(D:Ends):Prop where
 nx:∀H B σ δ n,Rel C H B σ δ n->K.nx δ n->D.nx σ H
 rt:∀H B σ δ n v w,Rel C H B σ δ n->WRel H B C.t v w->K.rt w n->D.rt v H
 bk:∀H B σ δ n,Rel C H B σ δ n->K.bk δ n->D.bk σ H
 ct:∀H B σ δ n,Rel C H B σ δ n->K.ct δ n->D.ct σ H
 rn:∀H B σ δ n a xs ds,Rel C H B σ δ n->C.H0 a=af->H a=ae (.lst xs)->xs.length<=Av->RdXs H (λb=>B b\/b=a) xs ds->K.rn ds n->D.rt (.ref a) H
 rx:∀H B σ δ n a l kvs,Rel C H B σ δ n->C.H0 a=af->H a=ae (.dX l)->l.length<=1000->RdY H (λb=>B b\/b=a) l kvs->K.rx kvs n->D.rt (.ref a) H
def iE(T:TS)(W:aE):Prop:=∀(C:Ctx)(H:Hp)(B:A'->Prop)(σ:St)(δ:Sl)(n:Int)(K:DEnds)(D:Ends),Rel C H B σ δ n->W δ n K->EndsOk C K D->T D σ H
structure DS(X:Cx)(st:Stmt)(T:TS)(W:aE):Prop where
 ps:PS X st T
 sd:iE T W
structure DSs(X:Cx)(st:List Stmt)(T:TS)(W:aE):Prop where
 ps:PSs X st T
 sd:iE T W
section
variable{X:Cx}{st:Stmt}{aA:List Stmt}{T U:TS}{W V':aE}{e:Expr}{te:TE}{we:DT}{pos:Pos}
def aN:aE:=λδ n K=>K.nx δ n
def aq(W V:aE):aE:=λδ n K=>W δ n {K with nx:=λδ n=>V δ n K}
theorem u7:DSs X [] om aN:=⟨oj,λC H B σ δ n K D R h E=>E.nx H B σ δ n R h⟩
theorem k8(h:DS X st T W)(h2:DSs X aA U V'):DSs X (st::aA) (dO T U) (aq W V'):=⟨fg h.ps h2.ps,λC H B σ δ n K D R q E=>
 h.sd C H B σ δ n _ _ R q ⟨λH B σ δ n R q=>h2.sd C H B σ δ n K D R q E,E.rt,E.bk,E.ct,E.rn,E.rx⟩⟩
theorem nv(h:DS X st T W):DSs X [st] T W:=⟨kA h.ps,h.sd⟩
def az(w:DT):aE:=λδ n K=>w δ n K.rt
theorem Om(h:DE X e te we):DS X (.Return (ae e) pos) (fF te) (az we):=⟨iV h.pe,λC H B σ δ n K D R q E=>
 h.sd C H B σ δ n _ _ R q λv x d c a _=>E.rt d B σ δ c v x a⟩
def aM(c:b5)(W V:aE):aE:=λδ n K=>c δ n λb n1=>if b=ah then W δ n1 K else V δ n1 K
theorem kx{c:Expr}{a b:List Stmt}{tc:TT}{cc:b5}(hc:DC X c tc cc)(ha:DSs X a T W)(hb:DSs X b U V'):DS X (.If c a b pos) (gL tc T U) (aM cc W V'):=⟨mG hc.pt ha.ps hb.ps,λC H B σ δ n K D R q E=>
 hc.sd C H B σ δ n _ _ R q λb f g e _ d=>by
  cases b with
  |true=>
   exact ha.sd C f B σ δ g K D e d E
  |false=>
   exact hb.sd C f B σ δ g K D e d E⟩
def ay(i:Nat)(w:DT):aE:=λδ n K=>w δ n λx n1=>match x with
 |.d d=>K.nx (δ.set i (↑d)) n1
 |.tp=>K.nx (δ.set i (ae (.w .tp))) n1
 |.dk _=>False
 |.dx _=>False
 |.ln _=>False
 |.ob o=>K.nx (δ.set i (ae (.w (.ob o)))) n1
theorem zM{i:Nat}{x:Str}{pos':Pos}(hN:X.N.Nodup)(hi:X.N[i]?=ae x)(hx:fA X.env.scope x)(he:DE X e te we)(hs:Cy e (ae (.Name x pos')) pos.line X.env=pure ai:=by rfl)(hf:X.fn x=ah\/X.env.scope.names.lookup x=ae .local:=by first|exact .inl rfl|exact .inr rfl|assumption):
  DS X (.Assign [.Name x pos'] e pos) (bw te (dg i)) (ay i we):=⟨fN hN hi hx he.pe hs hf,λC H B σ δ n K D R q E=>
 he.sd C H B σ δ n _ _ R q λv x g h b _ c a=>by
  cases x with
  |d d=>exact E.nx _ _ _ _ _ (b.set c rfl) a
  |tp=>exact E.nx _ _ _ _ _ (b.set c rfl) a
  |dk _=>exact a.elim
  |dx _=>exact a.elim
  |ln _=>exact a.elim
  |ob o=>exact E.nx _ _ _ _ _ (b.set c rfl) a⟩
def bo(i:Nat)(w:d0):aE:=λδ n K=>w δ n λds n1=>K.nx (δ.set i (ae (.own ds))) n1
theorem Rel.h0{C:Ctx}{H:Hp}{B:A'->Prop}{σ:St}{δ:Sl}{n:Int}{a:A'}(R:Rel C H B σ δ n)(h:H a=af):C.H0 a=af:=R.was R.kp h
theorem yl{i:Nat}{x:Str}{pos':Pos}{w:d0}(hN:X.N.Nodup)(hi:X.N[i]?=ae x)(hx:fA X.env.scope x)(he:DF X e te w)(hs:Cy e (ae (.Name x pos')) pos.line X.env=pure ai:=by rfl)(hf:X.fn x=ah\/X.env.scope.names.lookup x=ae .local:=by first|exact .inl rfl|exact .inr rfl|assumption):
  DS X (.Assign [.Name x pos'] e pos) (bw te (dg i)) (bo i w):=⟨fN hN hi hx he.pe hs hf,λC H B σ δ n K D R q E=>
 he.sd C H B σ δ n _ _ R q λa j o l m h k b c d f g=>by
  refine E.nx _ _ _ _ _ (R.own h k b (by rw[c];simp) rfl ?_) g;exact⟨a,j,rfl,c,.inr rfl,R.h0 b,d,f⟩⟩
def bU(i:Nat)(W:aE):aE:=λδ n K=>match δ[i]? with
 |some (ae (.own ds))=>W (δ.set i (↑(.list ds))) n K
 |some (ae (.odk m))=>W (δ.set i (ae (.w (.ob (.k m))))) n K
 |some (ae (.odx m))=>W (δ.set i (ae (.w (.ob (.x m))))) n K
 |_=>W δ n K
theorem La(i:Nat){sts:List Stmt}(h:DSs X sts T W):DSs X sts T (bU i W):=⟨h.ps,λC H B σ δ n K D R q E=>by
 unfold bU at q
 split at q
 ·rename_i c e;obtain⟨b,a⟩:=R.frz e;exact h.sd C H b σ _ n K D a q E
 ·rename_i m e;obtain⟨b,a⟩:=R.frzK e;exact h.sd C H b σ _ n K D a q E
 ·rename_i m e;obtain⟨b,a⟩:=R.frzX e;exact h.sd C H b σ _ n K D a q E
 ·exact h.sd C H B σ δ n K D R q E⟩
def aV(i:Nat)(w:DT):aE:=λδ n K=>match δ[i]? with
 |some (ae (.own ds))=>w δ n λx n1=>match x with
  |.d d=>ds.length < 1000000/\K.nx (δ.set i (ae (.own (ds++[d])))) n1
  |_=>False
 |_=>False
theorem wz{n:Nat}(h:n < 1000000):n < Av:=Nat.lt_trans h ∎
theorem yn{i:Nat}{x:Str}{xp ap cp:Pos}(hN:X.N[i]?=ae x)(he:DE X e te we)(hv:dY X.env.scope x:=by first|exact Cj rfl|exact B6 (Cj rfl)|exact B6 (B6 rfl))(hd:(x==("__debug__":Str))=ai:=by decide)
  (r_:(x==("__classdict__":Str))=ai:=by decide)
  (hbase:G4 (.Name x xp) "append" X.env (eval (.Name x xp) X.env)=eval (.Name x xp) X.env:=by rfl)
  (hfew:((C0 cp (Aq [e] X.env)).all (λx=>!x.1)&&(backToKw cp (keywordEach [] X.env)).all (λx=>x.1.isSome)
   && decide ([e].length+([]:List Keyword).length+(if ([]:List Keyword).isEmpty then 0 else 1) < 30))=ah:=by rfl)
  (hline:(ap.endLine==cp.line)=ah:=by rfl) (hs:Aq [e] X.env=[(ai,eval e X.env)]:=by rfl) (hplain:(C0 cp (Aq [] X.env)).any (·.1)=ai:=by rfl)
  (hsw:Cy (.Call (.Attribute (.Name x xp) "append" ap) [e] [] cp) af pos.line X.env=pure ai:=by rfl):
  DS X (.Expr (.Call (.Attribute (.Name x xp) "append" ap) [e] [] cp) pos) (mF (px X.K "list" sE (aI i) (br te aW))) (aV i we):=
 ⟨uT (BE Hi PySem.F.slot_list_append PySem.F.type_list_append yU (eS hN hv hd r_) (bZ he.pe dq hs) hbase hfew hline hs hplain) hsw,λC H B σ δ n K D R q E=>by
  unfold aV at q
  split at q
  ·rename_i A k;obtain⟨v,hv,a,r,rfl,l,g,h,G,f⟩:=R.sl i _ k;refine⟨_,hv,.inl ⟨rfl,_,SqL.of l⟩,he.sd C H B σ δ n _ _ R q λu y I J p m s c=>?_⟩;cases y with
   |d d=>
    have j:a≠C.t:=λz=>R.t0 (z▸h);refine⟨a,r,u,rfl,rfl,(m _ _ l j),wz (f.len▸c.1),E.nx _ _ _ _ _ (p.mutOwn k rfl hv g h ?_ rfl) c.2⟩;refine⟨a,_,rfl,a9,g,h,?_,?_⟩
    ·rw[As,f.len];exact wz c.1
    ·refine RdXs.keep (λb o e n=>?_) ((f.kp m R.bt).append (.cons s .nil));rw[aH λ(z:b=a)=>n (z▸g)];exact e
   |tp=>exact c.elim
   |dk _=>exact c.elim
   |dx _=>exact c.elim
   |ln _=>exact c.elim
   |ob _=>exact c.elim
  ·exact q.elim⟩
end
def dI(N:List Str)(ws:List Wv):Sl:=ws.map (λx=>ae (.w x))++Dh (N.length-ws.length) af
def b9(S:aP)(W:aE)(N:List Str):Prop:=∀ws n Q,S ws n Q->W (dI N ws) n {nx:=λ_ n=>Q (.d .none) n,rt:=Q}
theorem ARel.get{H:Hp}{B:A'->Prop}{t:A'}:∀{vs:List V}{xs:List Wv}{i:Nat}{x:Wv},ARel H B t vs xs->xs[i]?=ae x->∃v,vs[i]?=ae v/\WRel H B t v x
 |_,_,_,_,.nil,e=>by simp at e
 |_,_,0,_,.cons h _,e=>by
  simp at e;subst e;exact⟨_,rfl,h⟩
 |_,_,i+1,x,.cons _ r,e=>by
  obtain⟨v,b,a⟩:=ARel.get r (by trivial);exact⟨v,by simpa using b,a⟩
theorem ot{H:Hp}{t:A'}{l:TL}{ns:List Int}{B:A'->Prop}{vs:List V}{ws:List Wv}{n:Int}{N:List Str}(T:Tp H t l ns n)(bt:B t)(ba:∀b,B b->H b≠af)(r:ARel H B t vs ws):Rel ⟨t,l,ns,H,B,λ_=>af⟩ H B (L2.start N vs) (dI N ws) n where
 tp:=T
 kp:=Kp.refl _ _
 t0:=by
  obtain⟨_,_,h,_⟩:=T.ob;show H t≠af;rw[h];simp
 l0:=by
  show H l.s≠af;rw[T.ls];simp
 g0:=λe=>by
  show H l.g≠af;rw[T.ag e];simp
 fz:=λb o e=>nomatch e
 bt:=bt
 b0:=λ_ z=>z
 ba:=ba
 a0:=ba
 sl:=λi x e=>by
  unfold dI at e;rw[List.getElem?_append]at e
  split at e
  ·rename_i u;rw[Ab]at u;rw[Am]at e;cases q:ws[i]? with
   |none=>rw[q]at e;cases e
   |some y=>
    rw[q]at e;cases e;obtain⟨v,w,m⟩:=r.get q;refine⟨v,?_,m,λz=>?_⟩
    ·unfold L2.start;rw[Fv (by rw[Ab,r.len];omega),Am,w];rfl
    ·cases y with
     |d _=>cases z
     |tp=>cases z
     |dk _=>
      obtain⟨a,p,k,f,_⟩:=m;exact⟨a,k,by show H a≠af;rw[f];simp⟩
     |dx _=>
      obtain⟨a,p,k,f,_⟩:=m;exact⟨a,k,by show H a≠af;rw[f];simp⟩
     |ln _=>
      obtain⟨a,p,k,f,_⟩:=m;exact⟨a,k,by show H a≠af;rw[f];simp⟩
     |ob _=>cases z
  ·rw[E3]at e
   split at e
   ·cases e
   ·cases e
 ow:=λi j x y v c E D J _ _=>by
  unfold dI at c;rw[List.getElem?_append]at c
  split at c
  ·rw[Am]at c;cases q:ws[i]? with
   |none=>rw[q]at c;trivial
   |some y=>
    rw[q]at c;cases c;trivial
  ·rw[E3]at c
   split at c
   ·cases c
   ·cases c
 len:=by
  unfold L2.start dI;rw[As,As,Ab,Ab,List.length_replicate,List.length_replicate,r.len]
section
variable{P:A1}{w:Bh}{K:Ag}{mg:Str->Option Af}{base:Heap}
theorem Fun.okD{x qual:Str}{st:Stmt}{f:A'}{fd:Cc}{N ps:List Str}{k:Nat}{S:aP}(F:Fun K x qual st f fd)(Sc:FnScope N ps (bJ st))(len:∀ws n Q,S ws n Q->ws.length=ps.length)
  (hbody:∀(n_:Af)(A:Bo)(outer:List Env)(s:Ai)(H:Hp)(E:XK),Room k (A.deeper (C3 qual (bJ st) s.heap.objs.size f n_))->
   ∃T W,DSs (b8 bW P w K mg base N qual (bJ st) f n_ A outer s H E).nox (ec st) T W/\∀ws n Q,S ws n Q->W (dI N ws) n {nx:=λ_ n=>Q (.d .none) n,rt:=Q}):FnOk P w K mg base bW (k+1) f fd ps (dv S):=by
 refine F.ok Sc (λvs H Q E h=>?_) (λn_ A outer s H G Q E C h=>?_)
 ·obtain⟨t,l,i,B,ws,n,c,_,_,_,r,q,_⟩:=h;rw[r.len];exact len ws n c q
 ·obtain⟨t,l,i,B,ws,n,c,T,g,p,r,q,e⟩:=h;obtain⟨u,W,d,y⟩:=hbody n_ A outer s H E C;refine⟨u,d.ps,d.sd _ H B _ _ n _ _ (ot T g p r) (y ws n c q) ⟨?_,?_,?_,?_,λ_ _ _ _ _ _ _ _ _ _ _ _ _ z=>z.elim,λ_ _ _ _ _ _ _ _ _ _ _ _ _ z=>z.elim⟩⟩
  ·exact λH' D σ δ j a b=>e _ _ b .non H' a.tp a.kp (.non)
  ·exact λH' D σ δ j v x a o b=>e _ _ b v H' a.tp a.kp (o.less a.b0)
  ·exact λ_ _ _ _ _ _ z=>z.elim
  ·exact λ_ _ _ _ _ _ z=>z.elim
end
section
variable{X:Cx}{a b c e:Expr}{ta tb tc te:TE}{wa wb wc we:DT}{pos p:Pos}
def gI(Cd:Int->Int->Prop)(f:Int->Int->Ad):Wv->Wv->Int->DQ->Prop:=λx y n Q=>match x,y with
 |.d (.int i),.d (.int j)=>Cd i j/\Q (.d (f i j)) n
 |_,_=>False
theorem FQ{Cd:Int->Int->Prop}{g:Int->Int->V}{f:Int->Int->Ad}(h:∀i j H B,RdX H B (g i j) (f i j)):a8 (rI Cd g) (gI Cd f):=λC H B σ δ n x y p q Q d R b c a k=>by
 unfold gI at a
 split at a
 ·rename_i i j;cases(show RdX H B x (.int i)from b);cases(show RdX H B y (.int j)from c);exact⟨i,j,rfl,rfl,a.1,k _ _ H n R (Kp.refl _ _) (wd (h i j H B)) a.2⟩
 ·exact a.elim
def cj(f:Int->Int->Ad):Wv->Wv->Int->DQ->Prop:=λx y n Q=>match x,y with
 |.d (.int i),.d (.int j)=>Q (.d (f i j)) n
 |_,_=>False
theorem z0{g:Int->Int->V}{f:Int->Int->Ad}(h:∀i j H B,RdX H B (g i j) (f i j)):a8 (fi g) (cj f):=λC H B σ δ n x y p q Q d R b c a k=>by
 unfold cj at a
 split at a
 ·rename_i i j;cases(show RdX H B x (.int i)from b);cases(show RdX H B y (.int j)from c);exact⟨i,j,rfl,rfl,k _ _ H n R (Kp.refl _ _) (wd (h i j H B)) a⟩
 ·exact a.elim
theorem R7(ha:DE X a ta wa)(hb:DE X b tb wb):DE X (.BinOp a .Sub b pos) (cZ (fi λi j=>.int (i-j)) ta tb) (w2 wa wb (cj λi j=>.int (i-j))):=gU FZ (z0 λ_ _ _ _=>.int _) ha hb
theorem Kx(ha:DE X a ta wa)(hb:DE X b tb wb):DE X (.BinOp a .Mod b pos) (cZ (rI (λ_ j=>0 < j) λi j=>.int (i % j)) ta tb) (w2 wa wb (gI (λ_ j=>0 < j) λi j=>.int (i % j))):=gU i8 (FQ λ_ _ _ _=>.int _) ha hb
def iX(w:DT):DT:=λδ n Q=>w δ n λx n1=>match x with
 |.d (.int i)=>Q (.d (.int (-i))) n1
 |_=>False
theorem OC(ha:DE X a ta wa):DE X (.UnaryOp .USub a pos) (xA (rU λi=>.int (-i)) ta) (iX wa):=⟨Jd N1 ha.pe,λC H B σ δ n Q j R q k=>ha.sd C H B σ δ n _ _ R q λv x c e d h f b=>by
 split at b
 ·rename_i i;cases(show RdX c B v (.int i)from f);exact⟨i,rfl,k _ _ c e d h (wd (.int _)) b⟩
 ·exact b.elim⟩
def kl:Wv->Wv->Int->DQ->Prop:=λx y n Q=>match x,y with
 |.d (.int i),.d (.int j)=>Q (.d (.int (i+j))) n
 |.d (.str i),.d (.str j)=>i.length+j.length<=Av/\Q (.d (.str (i++j))) n
 |.d (.tuple i),.d (.tuple j)=>(i≠[]\/j≠[])/\i.length+j.length<=Av/\Q (.d (.tuple (i++j))) n
 |.d (.list i),.d (.list j)=>i.length+j.length<=Av/\Q (.d (.list (i++j))) n
 |_,_=>False
def qW(K:Ag):R2:=λx y H Q=>(fi λi j=>.int (i+j)) x y H Q\/(∃i j,x=.str i/\y=.str j/\i.length+j.length<=Av/\Q (.str (i++j)) H)\/xM K x y H Q\/xr K x y H Q\/iW x y H Q
theorem op_addA:OpR X (E9 .Add) (qW X.K):=
 op_add.or (op_add_str.or (op_catA.or (op_catT.or w6)))
theorem OI(i j:Str):(i++j).length=i.length+j.length:=Array.size_append
theorem Rq{K:Ag}:a8 (qW K) kl:=λC H B σ δ n x y p q Q N R u v f k=>by
 unfold kl at f
 split at f
 ·rename_i i j;cases(show RdX H B x (.int i)from u);cases(show RdX H B y (.int j)from v);exact .inl ⟨i,j,rfl,rfl,k _ _ H n R (Kp.refl _ _) (wd (.int _)) f⟩
 ·rename_i i j;cases(show RdX H B x (.str i)from u);cases(show RdX H B y (.str j)from v);exact .inr (.inl ⟨i,j,rfl,rfl,f.1,k _ _ H n R (Kp.refl _ _) (wd (show RdX H B _ (.str _)from .str _ (by rw[OI];simp_all))) f.2⟩)
 ·rename_i i j;cases(show RdX H B x (.tuple i)from u)with
  |@tup s h _ r I G e=>
   cases(show RdX H B y (.tuple j)from v)with
   |@tup t l _ o E F g=>
    obtain⟨O,L,q⟩:=f;have c:h.length+l.length<=Av:=by rw[e.len,g.len];omega
    have m:∀J,H J=af->N _ (upd H J _):=λpn d=>k _ _ _ n (R.new d) (Kp.new d) (wd (show RdX _ B _ (.tuple _)from .tup a9 (R.nb d) (by simp<;>omega) (((e.append g).fresh d).less λb=>.inl))) q;by_cases A:l=[]
    ·have M:h≠[]:=λz=>by
      subst A z;cases e;cases g;trivial
     refine .inr (.inr (.inr (.inl ⟨s,t,h,l,rfl,rfl,SqT.of r,SqT.of o,M,c,λ_=>?_,λ_=>m⟩)));subst A;cases g;rw[Br]at q;exact k _ _ H n R (Kp.refl _ _) ⋯ q
    ·refine .inr (.inr (.inl ⟨s,t,h,l,rfl,rfl,SqT.of r,SqT.of o,A,c,λz=>?_,λ_=>m⟩));subst z;cases e;exact k _ _ H n R (Kp.refl _ _) (by assumption) q
 ·rename_i i j;cases(show RdX H B x (.list i)from u)with
  |@lst s h _ r I G e=>
   cases(show RdX H B y (.list j)from v)with
   |@lst t l _ o E F g=>
    obtain⟨L,q⟩:=f;have c:h.length+l.length<=Av:=by rw[e.len,g.len];omega
    refine .inr (.inr (.inr (.inr ⟨s,t,h,l,rfl,rfl,r,o,c,λpn d=>k _ _ _ n (R.new d) (Kp.new d) (wd (show RdX _ B _ (.list _)from .lst a9 (R.nb d) (by simp<;>omega) ?_)) q⟩)));exact((e.append g).fresh d).less λb=>.inl
 ·exact f.elim
def gA(f:Int->Int->Bool)(h:List Nat->List Nat->Bool):Wv->Wv->Int->DQ->Prop:=λx y n Q=>match x,y with
 |.d (.int i),.d (.int j)=>Q (.d (.bool (f i j))) n
 |.d (.str i),.d (.str j)=>Q (.d (.bool (h i.cps.toList j.cps.toList))) n
 |_,_=>False
theorem vi{f:Int->Int->Bool}{h:List Nat->List Nat->Bool}:a8 (λx y H Q=>(fi λi j=>.bl (f i j)) x y H Q\/∃i j,x=.str i/\y=.str j/\Q (.bl (h i.cps.toList j.cps.toList)) H) (gA f h):=λC H B σ δ n x y p q Q e R c d b k=>by
 unfold gA at b
 split at b
 ·rename_i i j;cases(show RdX H B x (.int i)from c);cases(show RdX H B y (.int j)from d);exact .inl ⟨i,j,rfl,rfl,k _ _ H n R (Kp.refl _ _) (wd (.bl _)) b⟩
 ·rename_i i j;cases(show RdX H B x (.str i)from c);cases(show RdX H B y (.str j)from d);exact .inr ⟨i,j,rfl,rfl,k _ _ H n R (Kp.refl _ _) (wd (.bl _)) b⟩
 ·exact b.elim
abbrev fL:=gA (λi j=>decide (i < j)) (λi j=>decide (i < j))
abbrev mV:=gA (λi j=>decide (i<=j)) (λi j=>!decide (j < i))
abbrev wm:=gA (λi j=>decide (j < i)) (λi j=>decide (j < i))
def mZ:R2:=λx y H Q=>(fi λi j=>.bl (decide (i < j))) x y H Q\/∃i j,x=.str i/\y=.str j/\Q (.bl (decide (i.cps.toList < j.cps.toList))) H
theorem Hu:OpR X (B3 .Lt) mZ:=op_lt.or Qv
def ma:R2:=λx y H Q=>(fi λi j=>.bl (decide (i<=j))) x y H Q\/∃i j,x=.str i/\y=.str j/\Q (.bl (!decide (j.cps.toList < i.cps.toList))) H
theorem CL:OpR X (B3 .LtE) ma:=op_le.or LQ
def ny:R2:=λx y H Q=>(fi λi j=>.bl (decide (j < i))) x y H Q\/∃i j,x=.str i/\y=.str j/\Q (.bl (decide (j.cps.toList < i.cps.toList))) H
theorem IL:OpR X (B3 .Gt) ny:=op_gt.or QU
theorem M6:a8 mZ fL:=vi
theorem EL:a8 ma mV:=vi
theorem Ra:a8 ny wm:=vi
def eU:Ad->Ad->Option Bool
 |.none,.none=>ae ah
 |.none,.int _=>ae ai
 |.int _,.none=>ae ai
 |.none,.bool _=>ae ai
 |.bool _,.none=>ae ai
 |.none,.str _=>ae ai
 |.str _,.none=>ae ai
 |.int i,.int j=>ae (decide (i=j))
 |.bool i,.bool j=>ae (decide (i=j))
 |.str i,.str j=>ae (decide (i=j))
 |.int _,.str _=>ae ai
 |.str _,.int _=>ae ai
 |.bool _,.str _=>ae ai
 |.str _,.bool _=>ae ai
 |.list _,.str _=>ae ai
 |.tuple _,.str _=>ae ai
 |.dict _,.str _=>ae ai
 |.list xs,.list []=>ae xs.isEmpty
 |_,_=>af
def pQ:R2:=λx y H Q=>∃d h B,RdX H B x d/\y=.str h/\Q (.bl (cP h d)) H
theorem sr(x y:Str):decide (V.str x=V.str y)=decide (x=y):=by
 by_cases z:x=y
 ·rw[z,c_ rfl,c_ rfl]
 ·rw[d_ z,d_ λw=>z (V.str.inj w)]
theorem EY(x y:Int):decide (V.int x=V.int y)=decide (x=y):=by
 by_cases z:x=y
 ·rw[z,c_ rfl,c_ rfl]
 ·rw[d_ z,d_ λw=>z (V.int.inj w)]
theorem CJ(x y:Bool):decide (V.bl x=V.bl y)=decide (x=y):=by
 by_cases z:x=y
 ·rw[z,c_ rfl,c_ rfl]
 ·rw[d_ z,d_ λw=>z (V.bl.inj w)]
theorem QQ(hu:X.A.units < Dd):OpR X (B3 .Eq) pQ:=by
 intro c s σ H x y v u Q I e f h;obtain⟨d,g,B,z,rfl,q⟩:=h;cases z with
 |non=>exact op_eq c s σ H _ _ v u Q I e f ⟨rfl,q⟩
 |bl b=>exact op_eq c s σ H _ _ v u Q I e f ⟨rfl,q⟩
 |int i=>exact op_eq c s σ H _ _ v u Q I e f ⟨rfl,q⟩
 |str x J=>
  refine op_eq c s σ H _ _ v u Q I e f ⟨rfl,?_⟩;rw[sr];exact q
 |@lst a C r j l m n=>
  cases(show v=Co a from e);obtain⟨t,rfl⟩:=(show ∃t,u=Value.str g t from f);obtain⟨k,_,p,_⟩:=I.list (SqL.of j);exact PySem.SeqAt.RcAt.list_str g t p.isList hu _ _ _ _ ⟨.bl ai,H,I,rfl,q⟩
 |@tup a C r j l m n=>
  cases(show v=Co a from e);obtain⟨t,rfl⟩:=(show ∃t,u=Value.str g t from f);obtain⟨k,_,p,_⟩:=I.tuple (SqT.of j);exact PySem.SeqAt.RcAt.tuple_str g t (p) hu _ _ _ _ ⟨.bl ai,H,I,rfl,q⟩
def bg:Wv->Wv->Int->DQ->Prop:=λx y n Q=>match x,y with
 |.d a,.d b=>match eU a b with
  |some r=>Q (.d (.bool r)) n
  |none=>False
 |_,_=>False
theorem Rh(hu:X.A.units < Dd):OpR X (B3 .Eq) (λx y H Q=>oR x y H Q\/pQ x y H Q\/pO X.K x y H Q):=op_eq.or ((QQ hu).or (Sf hu))
theorem OE{K:Ag}:a8 (λx y H Q=>oR x y H Q\/pQ x y H Q\/pO K x y H Q) bg:=λC H B σ δ n x y p q Q U R E e b k=>by
 unfold bg at b
 split at b
 ·rename_i X T;have v:=λr=>k _ _ H n R (Kp.refl _ _) (wd (.bl r))
  split at b
  ·rename_i r a;have b:=v r b;cases E with
   |non=>cases e<;>first|(cases a;done)|(cases a;exact .inl ⟨rfl,b⟩)
   |bl i=>cases e<;>first|(cases a;done)|(cases a;exact .inl ⟨rfl,by first|exact b|(rw[CJ];omega)⟩)
   |int i=>cases e<;>first|(cases a;done)|(cases a;exact .inl ⟨rfl,by first|exact b|(rw[EY];omega)⟩)
   |str i M=>cases e<;>first|(cases a;done)|(cases a;exact .inl ⟨rfl,by first|exact b|(rw[sr];omega)⟩)
   |@lst w t z m u s l=>
    cases e with
    |str j D=>cases a;exact .inr (.inl ⟨_,j,B,.lst m u s l,rfl,b⟩)
    |@lst A V P G N O L=>
     cases L with
     |nil=>
      cases a;refine .inr (.inr ⟨w,A,t,rfl,rfl,SqL.of m,SqL.of G,?_⟩);have:t.isEmpty=z.isEmpty:=by cases l<;>rfl
      simp_all
     |cons _ _=>cases a
    |_=>cases a
   |@tup w t z m u s l=>
    cases e with
    |str j D=>cases a;exact .inr (.inl ⟨_,j,B,.tup m u s l,rfl,b⟩)
    |_=>cases a
  ·exact b.elim
 ·exact b.elim
def Rc(a b:Ad):Option Bool:=match a,b with
 |.list _,_=>af
 |.tuple _,_=>af
 |a,b=>(eU a b).map not
def fk:Wv->Wv->Int->DQ->Prop:=λx y n Q=>match x,y with
 |.d a,.d b=>match Rc a b with
  |some r=>Q (.d (.bool r)) n
  |none=>False
 |_,_=>False
theorem GK:a8 yW fk:=λC H B σ δ n x y p q Q z R m g b k=>by
 unfold fk at b
 split at b
 ·rename_i A w;have h:=λr=>k _ _ H n R (Kp.refl _ _) (wd (.bl r))
  split at b
  ·rename_i r c;have b:=h r b;cases m with
   |non=>cases g<;>first|(cases c;done)|(cases c;trivial)
   |bl i=>cases g<;>first|(cases c;done)|(cases c;exact⟨rfl,by first|exact b|(rw[CJ];omega)⟩)
   |int i=>cases g<;>first|(cases c;done)|(cases c;exact⟨rfl,by first|exact b|(rw[EY];omega)⟩)
   |str i u=>cases g<;>first|(cases c;done)|(cases c;exact⟨rfl,by first|exact b|(rw[sr];omega)⟩)
   |lst _ _ _ _=>cases c
   |tup _ _ _ _=>cases c
  ·exact b.elim
 ·exact b.elim
def fY:Ad->Bool
 |.none=>ah
 |_=>ai
def bF(neg:Bool):Wv->Wv->Int->DQ->Prop:=λx y n Q=>match x,y with
 |.d a,.d .none=>Q (.d (.bool (if neg then !fY a else fY a))) n
 |_,_=>False
theorem FA{H:Hp}{B:A'->Prop}{v:V}{d:Ad}(h:RdX H B v d):decide (v=.non)=fY d:=by cases h<;>rfl
theorem BC:a8 (λx y H Q=>y=.non/\Q (.bl (decide (x=.non))) H) (bF ai):=λC H B σ δ n x y p q Q d R c b a k=>by
 unfold bF at a
 split at a
 ·rename_i e;cases(b);exact⟨rfl,k _ _ H n R (Kp.refl _ _) (wd ((FA c)▸.bl _)) a⟩
 ·exact a.elim
theorem sf:a8 (λx y H Q=>y=.non/\Q (.bl (!decide (x=.non))) H) (bF ah):=λC H B σ δ n x y p q Q d R c b a k=>by
 unfold bF at a
 split at a
 ·rename_i e;cases(b);exact⟨rfl,k _ _ H n R (Kp.refl _ _) (wd ((FA c)▸.bl _)) a⟩
 ·exact a.elim
def eG:Ad->Bool
 |.none=>ah
 |.bool _=>ah
 |.int _=>ah
 |.str _=>ah
 |_=>ai
def oN:Ad->Ad->Bool
 |.none,.none=>ah
 |.bool a,.bool b=>a==b
 |.bool a,.int b=>(if a then 1 else 0)==b
 |.int a,.bool b=>a==(if b then 1 else 0)
 |.int a,.int b=>a==b
 |.str a,.str b=>a==b
 |_,_=>ai
def cE(x:Ad)(ds:List Ad):Bool:=ds.any λy=>oN y x
theorem kE{H:Hp}{B:A'->Prop}{v:V}{d:Ad}(h:RdX H B v d)(f:eG d=ah):gu v=ah:=by cases h<;>first|rfl|cases f
theorem jC{H:Hp}{B:A'->Prop}:∀{vs:List V}{ds:List Ad},RdXs H B vs ds->ds.all eG=ah->vs.all gu=ah
 |_,_,.nil,_=>rfl
 |_,_,.cons h r,f=>by
  rw[List.all_cons,Bi]at f ⊢;exact⟨kE h f.1,jC r f.2⟩
theorem Kf{H:Hp}{B:A'->Prop}{v u:V}{d e:Ad}(h:RdX H B v d)(h2:RdX H B u e):gF v u=oN d e:=by cases h<;>cases h2<;>rfl
theorem jO{H:Hp}{B:A'->Prop}{v:V}{d:Ad}(h:RdX H B v d):∀{vs:List V}{ds:List Ad},RdXs H B vs ds->pK v vs=cE d ds
 |_,_,.nil=>rfl
 |_,_,.cons a r=>by
  have:=jO h r;unfold pK cE at this ⊢;rw[Di,Di,this,Kf a h]
def fX(neg:Bool):Wv->Wv->Int->DQ->Prop:=λx y n Q=>match x,y with
 |.d a,.d (.tuple ds)=>eG a=ah/\ds.all eG=ah/\Q (.d (.bool (if neg then !cE a ds else cE a ds))) n
 |.d a,.d (.list ds)=>eG a=ah/\ds.all eG=ah/\Q (.d (.bool (if neg then !cE a ds else cE a ds))) n
 |_,_=>False
theorem jG{K:Ag}{neg:Bool}:a8 (gj K neg) (fX neg):=λC H B σ δ n x y p q Q u R a l c k=>by
 unfold fX at c
 split at c
 ·rename_i t e;obtain⟨g,f,q⟩:=c;have a:=a;cases(show RdX H B y (.tuple e)from l)with
  |@tup d i _ j r o b=>
   refine⟨d,i,rfl,.inr (SqT.of j),kE a g,jC b f,?_⟩;rw[jO a b];exact k _ _ H n R (Kp.refl _ _) (wd (.bl _)) q
 ·rename_i t e;obtain⟨g,f,q⟩:=c;have a:=a;cases(show RdX H B y (.list e)from l)with
  |@lst d i _ j r o b=>
   refine⟨d,i,rfl,.inl (SqL.of j),kE a g,jC b f,?_⟩;rw[jO a b];exact k _ _ H n R (Kp.refl _ _) (wd (.bl _)) q
 ·exact c.elim
def aw:Wv->Wv->Int->DQ->Prop:=λx y n Q=>match x,y with
 |.d (.list ds),.d (.int i)=>match cO ds i with
  |some d=>Q (.d d) n
  |none=>False
 |.d (.tuple ds),.d (.int i)=>match cO ds i with
  |some d=>Q (.d d) n
  |none=>False
 |.d (.str z),.d (.int i)=>match cO z.cps.toList i with
  |some c=>Q (.d (.str ⟨#[c]⟩)) n
  |none=>False
 |_,_=>False
theorem sA{H:Hp}{B:A'->Prop}{vs:List V}{ds:List Ad}{i:Int}{d:Ad}(r:RdXs H B vs ds)(h:cO ds i=ae d):∃v,cO vs i=ae v/\RdX H B v d:=by
 unfold cO at h ⊢;rw[r.len];cases e:ir ds.length i with
 |none=>rw[e]at h;cases h
 |some j=>
  rw[e]at h;exact r.getD h
theorem lS{K:Ag}:a8 (kO K) aw:=λC H B σ δ n x y p q Q F R l m b k=>by
 unfold aw at b
 split at b
 ·rename_i g i
  split at b
  ·rename_i d e;cases(show RdX H B y (.int i)from m);cases(show RdX H B x (.list g)from l)with
   |@lst f r _ s D w j=>
    obtain⟨v,o,h⟩:=sA j e;exact .inl ⟨f,r,i,v,rfl,rfl,SqL.of s,o,k _ _ H n R (Kp.refl _ _) (wd h) b⟩
  ·exact b.elim
 ·rename_i g i
  split at b
  ·rename_i d e;cases(show RdX H B y (.int i)from m);cases(show RdX H B x (.tuple g)from l)with
   |@tup f r _ s D w j=>
    obtain⟨v,o,h⟩:=sA j e;exact .inr (.inl ⟨f,r,i,v,rfl,rfl,SqT.of s,o,k _ _ H n R (Kp.refl _ _) (wd h) b⟩)
  ·exact b.elim
 ·rename_i z i
  split at b
  ·rename_i c e;cases(show RdX H B y (.int i)from m);cases(show RdX H B x (.str z)from l)with
   |str _ A=>exact .inr (.inr ⟨z,i,c,rfl,rfl,A,e,k _ _ H n R (Kp.refl _ _) (wd (show RdX H B _ (.str _)from .str _ (by show 1<=Av;decide))) b⟩)
  ·exact b.elim
 ·exact b.elim
theorem sD(ha:DE X a ta wa)(hb:DE X b tb wb)(hs:qp b:=by exact λ_ _=>rfl):DE X (.Subscript a b pos) (cZ (kO X.K) ta tb) (w2 wa wb aw):=⟨gb t6 ha.pe hb.pe hs,nz lS ha.sd hb.sd⟩
def bC:List Wv->Int->DQ->Prop:=λxs n Q=>match xs with
 |[.d (.str x)]=>Q (.d (.int x.length)) n
 |[.d (.list ds)]=>Q (.d (.int ds.length)) n
 |[.d (.tuple ds)]=>Q (.d (.int ds.length)) n
 |_=>False
theorem R8:CallR X (.builtin "len") (λxs H Q=>(∃z,xs=[.str z]/\z.length<=Av/\Q (.int z.length) H)\/∃p ys,xs=[.ref p]/\(SqL X.K H p ys\/SqT X.K H p ys)/\Q (.int ys.length) H):=call_len_str.or oJ
theorem O6{K:Ag}:cX (λxs H Q=>(∃z,xs=[.str z]/\z.length<=Av/\Q (.int z.length) H)\/∃p ys,xs=[.ref p]/\(SqL K H p ys\/SqT K H p ys)/\Q (.int ys.length) H) bC:=λC H B σ δ n q xs Q s R r h k=>by
 unfold bC at h
 split at h
 ·rename_i x;cases r with
  |cons a b=>
   cases b;cases(show RdX H B _ (.str x)from a)with
   |str _ l=>exact .inl ⟨x,rfl,l,k _ _ H n R (Kp.refl _ _) (wd (.int _)) h⟩
 ·rename_i e;cases r with
  |cons a b=>
   cases b;cases(show RdX H B _ (.list e)from a)with
   |@lst d ys _ g m j f=>
    refine .inr ⟨d,ys,rfl,.inl (SqL.of g),?_⟩;rw[f.len];exact k _ _ H n R (Kp.refl _ _) (wd (.int _)) h
 ·rename_i e;cases r with
  |cons a b=>
   cases b;cases(show RdX H B _ (.tuple e)from a)with
   |@tup d ys _ g m j f=>
    refine .inr ⟨d,ys,rfl,.inr (SqT.of g),?_⟩;rw[f.len];exact k _ _ H n R (Kp.refl _ _) (wd (.int _)) h
 ·exact h.elim
theorem GV{K:Ag}{H:Hp}{B:A'->Prop}{v:V}{d:Ad}(h:RdX H B v d):TyOf K H v (.type (ou d)):=by
 cases h with
 |non=>exact .non
 |bl b=>exact .bl b
 |int i=>exact .int i
 |str x h=>exact .str x
 |lst a c j k=>exact .lst a
 |tup a c j k=>exact .tup a
theorem GH{K:Ag}{H:Hp}{B:A'->Prop}{v:V}{d:Ad}(h:RdX H B v d){T:String}(hT:T="int"\/T="bool"\/T="str"\/T="tuple"\/T="list"):PySem.W.kitOne K (.type (ou d)) (.type T)=ae (iS T d):=by
 cases h<;>rcases hT with rfl|rfl|rfl|rfl|rfl<;>rfl
def cW(T:String)(w:DT):DT:=λδ n Q=>w δ n λx n1=>match x with
 |.d d=>Q (.d (.bool (iS T d))) n1
 |_=>False
theorem Kc{T:String}{x:Str}{p p2:Pos}(hT:T="int"\/T="bool"\/T="str"\/T="tuple"\/T="list")(hg:Gl X "isinstance")(hm:X.mg "isinstance"=af)(hg2:Gl X x)(hm2:X.mg x=af)(hv:Bw x=ae (.type T))(ha:DE X a ta wa)(hn:x≠"__name__")(hdb:(x==("__debug__":Str))=ai)
  (he:Aq [a,.Name x p2] X.env=(ai,eval a X.env)::Aq [.Name x p2] X.env) (he2:Aq [.Name x p2] X.env=(ai,eval (.Name x p2) X.env)::Aq [] X.env) (q_:(C0 pos (Aq [.Name x p2] X.env)).any (·.1)=ai):
  DE X (.Call (.Name "isinstance" p) [a,.Name x p2] [] pos) (d5 (λxs H Q=>∃x t b,xs=[x,.ty T]/\TyOf X.K H x t/\PySem.W.kitOne X.K t (.type T)=ae b/\Q (.bl b) H) (br ta (br (tC (.ty T)) aW))) (cW T wa):=
 ⟨gz (Iq) hg hm AG (bZ ha.pe (bZ (Oi hg2 hm2 hv rfl hn hdb) dq he2) he) ∎ ∎ he q_,λC H B σ δ n Q l R q k=>ha.sd C H B σ δ n _ _ R q λv x g h f i e c=>by
  cases x with
  |d d=>exact⟨v,_,_,rfl,GV e,GH (e) hT,k _ _ g h f i (wd (.bl _)) c⟩
  |tp=>exact c.elim
  |dk _=>exact c.elim
  |dx _=>exact c.elim
  |ln _=>exact c.elim
  |ob _=>exact c.elim⟩
def pq:List Wv->Int->DQ->Prop:=λxs n Q=>match xs with
 |[.d (.list ds)]=>Small (.list ds)/\Q (.d (.str (PyData.shown (.list ds)))) n
 |[.d (.tuple ds)]=>Small (.tuple ds)/\Q (.d (.str (PyData.shown (.tuple ds)))) n
 |_=>False
theorem HP{K:Ag}:cX (λxs H Q=>∃a d,xs=[.ref a]/\RdD K H (.ref a) d/\Small d/\Q (.str d.shown) H) pq:=λC H B σ δ n s xs Q t R r h k=>by
 unfold pq at h
 split at h
 ·rename_i j;cases r with
  |cons m c=>
   cases c;cases(show RdX H B _ (.list j)from m)with
   |@lst f o _ g e i l=>exact⟨f,_,rfl,(RdX.lst g e i l).rd,h.1,k _ _ H n R (Kp.refl _ _) (wd (show RdX H B _ (.str _)from .str _ h.1.len)) h.2⟩
 ·rename_i j;cases r with
  |cons m c=>
   cases c;cases(show RdX H B _ (.tuple j)from m)with
   |@tup f o _ g e i l=>exact⟨f,_,rfl,(RdX.tup g e i l).rd,h.1,k _ _ H n R (Kp.refl _ _) (wd (show RdX H B _ (.str _)from .str _ h.1.len)) h.2⟩
 ·exact h.elim
def eY:List Wv->Int->DQ->Prop:=λxs n Q=>match xs with
 |[.d (.list ds)]=>Q (.d (.tuple ds)) n
 |[.d (.tuple ds)]=>Q (.d (.tuple ds)) n
 |_=>False
theorem Q4{K:Ag}:cX (λxs H Q=>∃p ys,xs=[.ref p]/\((SqL K H p ys/\∀l,H l=af->Q (.ref l) (upd H l (.tup ys)))\/(SqT K H p ys/\Q (.ref p) H))) eY:=λC H B σ δ n s xs Q t R r h k=>by
 unfold eY at h
 split at h
 ·rename_i c;cases r with
  |cons j m=>
   cases m;cases(show RdX H B _ (.list c)from j)with
   |@lst f ys _ e o g i=>
    exact⟨f,ys,rfl,.inl ⟨SqL.of e,λl d=>k _ _ _ n (R.new d) (Kp.new d) (wd (show RdX _ B _ (.tuple c)from .tup a9 (R.nb d) g ((i.fresh d).less λb=>.inl))) h⟩⟩
 ·rename_i c;cases r with
  |cons j m=>
   cases m;cases(show RdX H B _ (.tuple c)from j)with
   |@tup f ys _ e o g i=>exact⟨f,ys,rfl,.inr ⟨SqT.of e,k _ _ H n R (Kp.refl _ _) ⋯ h⟩⟩
 ·exact h.elim
end
structure ItOk(fz:Hp)(J:It)(ds:List Ad):Prop where
 le:ds.length<=Av
 go:∀i H,(∀b o,fz b=ae o->H b=ae o)->i < ds.length->J.go i H
 stop:∀H,(∀b o,fz b=ae o->H b=ae o)->J.stop ds.length H
 yld:∀i H x H' d,(∀b o,fz b=ae o->H b=ae o)->ds[i]?=ae d->J.yld i H x H'->gN H H'/\∀B,(∀b o,fz b=ae o->¬B b)->(∀b,B b->H b≠af)->RdX H' B x d
def m6(H:Hp)(B:A'->Prop)(fz:Hp):Prop:=(∀b o,fz b=ae o->H b=ae o/\¬B b)/\∀b o,H b=ae o->¬B b->fz b=ae o
abbrev fI:=Sl->Int->(List Ad->Int->Prop)->Prop
def v3(wi:TI)(v:fI):Prop:=∀(C:Ctx)(H:Hp)(B:A'->Prop)(σ:St)(δ:Sl)(n:Int)(Q:List Ad->Int->Prop)(Q':It->Hp->Prop),Rel C H B σ δ n->v δ n Q->
 (∀J ds H' n',Rel C H' B σ δ n'->Kp C.t H H'->(∀fz,m6 H' B fz->ItOk fz J ds)->Q ds n'->Q' J H')->wi σ H Q'
structure DI(X:Cx)(tg iter:Expr)(wi:TI)(v:fI):Prop where
 pi:PI X tg iter wi
 sd:v3 wi v
section
variable{X:Cx}{tg a b c e:Expr}{ta tb te:TE}{wa wb we:DT}{pos p:Pos}
def ez(w:DT):fI:=λδ n Q=>w δ n λx n1=>match x with
 |.d (.list ds)=>Q ds n1
 |_=>False
def dj(w:DT):fI:=λδ n Q=>w δ n λx n1=>match x with
 |.d (.tuple ds)=>Q ds n1
 |_=>False
theorem Oa(ha:DE X a ta wa):DI X tg a (p5 X.K ta) (ez wa):=⟨QZ ha.pe,λC H B σ δ n Q U R q k=>ha.sd C H B σ δ n _ _ R q λv x t I G S M h=>by
 split at h
 ·rename_i p;cases(show RdX t B v (.list p)from M)with
  |@lst y m _ w J D g=>
   refine⟨y,rfl,⟨m,SqL.of w⟩,k _ p t I G S (λfz j=>?_) h⟩;have c:=j.2 _ _ w J;refine⟨g.len▸D,λi H f r=>?_,λH f=>?_,λi H x T d f F l=>?_⟩
   ·rw[<-g.len]at r;exact⟨m,_,SqL.of (f _ _ c),Ah r⟩
   ·exact⟨m,SqL.of (f _ _ c),by rw[g.len];simp⟩
   ·obtain⟨rfl,l⟩:=l;refine⟨λ_ _ z=>z,λB' E L=>?_⟩;obtain⟨u,P,O⟩:=g.getD F;have:=l _ (SqL.of (f _ _ c));rw[P]at this;cases this;exact O.move λb o e s=>⟨f _ _ (j.2 _ _ e s),E _ _ (j.2 _ _ e s)⟩
 ·exact h.elim⟩
theorem LD(ha:DE X a ta wa):DI X tg a (j1 X.K ta) (dj wa):=⟨J4 ha.pe,λC H B σ δ n Q U R q k=>ha.sd C H B σ δ n _ _ R q λv x t G F S L h=>by
 split at h
 ·rename_i p;cases(show RdX t B v (.tuple p)from L)with
  |@tup y m _ w I A g=>
   refine⟨y,rfl,⟨m,SqT.of w⟩,k _ p t G F S (λfz j=>?_) h⟩;have c:=j.2 _ _ w I;refine⟨g.len▸A,λi H f r=>?_,λH f=>?_,λi H x T d f E l=>?_⟩
   ·rw[<-g.len]at r;exact⟨m,_,SqT.of (f _ _ c),Ah r⟩
   ·exact⟨m,SqT.of (f _ _ c),by rw[g.len];simp⟩
   ·obtain⟨rfl,l⟩:=l;refine⟨λ_ _ z=>z,λB' D J=>?_⟩;obtain⟨u,O,N⟩:=g.getD E;have:=l _ (SqT.of (f _ _ c));rw[O]at this;cases this;exact N.move λb o e s=>⟨f _ _ (j.2 _ _ e s),D _ _ (j.2 _ _ e s)⟩
 ·exact h.elim⟩
def bL(lo:Int)(n:Nat):List Ad:=(A9 n).map λi=>.int (lo+(i:Nat))
def eI(w:DT):fI:=λδ n Q=>w δ n λx n1=>match x with
 |.d (.int j)=>(-(2 ^ 62)<=j/\j<=1000000)/\Q (bL 0 j.toNat) n1
 |_=>False
theorem IP(fz:Hp)(lo:Int)(n:Nat)(hn:n<=1000000):ItOk fz (pC lo n) (bL lo n):=by
 have b:(bL lo n).length=n:=by unfold bL;simp
 refine⟨?_,λi H c f=>?_,λH c=>?_,λi H y o d c a h=>?_⟩
 ·rw[b];exact A0 hn ∎
 ·rw[b]at f;trivial
 ·show n<=(bL lo n).length;simp_all
 ·obtain⟨rfl,rfl⟩:=h;refine⟨λ_ _ z=>z,λB' l g=>?_⟩;unfold bL at a;rw[Am]at a;cases e:(A9 n)[i]? with
  |none=>rw[e]at a;trivial
  |some j=>
   rw[e]at a;have:j=i:=by
    obtain⟨m,k⟩:=Ap.mp e;simp_all
   subst this;cases a;exact .int _
theorem FD{p:Pos}(hg:Gl X "range")(hm:X.mg "range"=af)(ha:DE X a ta wa)(hs:Aq [a] X.env=[(ai,eval a X.env)]:=by rfl):DI X tg (.Call (.Name "range" p) [a] [] pos) (pE (br ta aW)) (eI wa):=⟨Jc hg hm (bZ ha.pe dq hs) hs,λC H B σ δ n Q i R q k=>ha.sd C H B σ δ n _ _ R q λv x c d g h f b=>by
 split at b
 ·rename_i j;cases(show RdX c B v (.int j)from f);refine⟨j,rfl,b.1.1,by omega,k _ _ c d g h (λfz _=>IP fz 0 j.toNat ⋯) b.2⟩
 ·exact b.elim⟩
end
abbrev dw:=Ad->Sl->(Sl->Prop)->Prop
def uQ(g:TG)(v:dw):Prop:=∀(C:Ctx)(H:Hp)(B:A'->Prop)(σ:St)(δ:Sl)(n:Int)(x:V)(d:Ad)(Q:Sl->Prop)(Q':St->Hp->Prop),Rel C H B σ δ n->RdX H B x d->v d δ Q->
 (∀σ' δ',Rel C H B σ' δ' n->Q δ'->Q' σ' H)->g x σ H Q'
structure DG(X:Cx)(tg:Expr)(g:TG)(v:dw):Prop where
 pg:PG X tg g
 sd:uQ g v
section
variable{X:Cx}{pos:Pos}
def aJ(i:Nat):dw:=λd δ Q=>Q (δ.set i (↑d))
theorem vt{i:Nat}{x:Str}(hN:X.N.Nodup)(hi:X.N[i]?=ae x)(hx:fA X.env.scope x)(hf:X.fn x=ah\/X.env.scope.names.lookup x=ae .local:=by first|exact .inl rfl|exact .inr rfl|assumption):DG X (.Name x pos) (dg i) (aJ i):=
 ⟨OY hN hi hx hf,λC H B σ δ n x d Q a R r q k=>k _ _ (R.set (x:=.d d) r rfl) q⟩
end
def ew(g:dw)(W:aE)(K:DEnds):List Ad->Sl->Int->Prop
 |[],δ,n=>K.nx δ n
 |d::r,δ,n=>g d δ λδ'=>W δ' n {K with nx:=ew g W K r,ct:=ew g W K r,bk:=K.nx}
def aZ(v:fI)(g:dw)(W:aE):aE:=λδ n K=>v δ n λds n1=>ew g W K ds δ n1
def fC(H:Hp)(B:A'->Prop):Hp:=λb=>open Classical in if B b then af else H b
theorem nj(H:Hp)(B:A'->Prop):m6 H B (fC H B):=by
 refine⟨λb o e=>?_,λb o e n=>?_⟩
 ·unfold fC at e
  split at e
  ·cases e
  ·rename_i h;trivial
 ·unfold fC;simp_all<;>omega
theorem Rel.refz{C:Ctx}{H:Hp}{B:A'->Prop}{σ:St}{δ:Sl}{n:Int}(R:Rel C H B σ δ n):Rel {C with fz:=fC H B} H B σ δ n:=
 ⟨R.tp,R.kp,R.t0,R.l0,R.g0,(nj H B).1,R.bt,R.b0,R.ba,R.a0,R.sl,R.ow,R.len⟩
theorem Rel.unfz{C:Ctx}{fz:Hp}{H:Hp}{B:A'->Prop}{σ:St}{δ:Sl}{n:Int}(R:Rel {C with fz:=fz} H B σ δ n)(h:∀b o,C.fz b=ae o->fz b=ae o):Rel C H B σ δ n:=
 ⟨R.tp,R.kp,R.t0,R.l0,R.g0,λb o e=>R.fz b o (h b o e),R.bt,R.b0,R.ba,R.a0,R.sl,R.ow,R.len⟩
theorem Rel.same{C:Ctx}{H H':Hp}{B:A'->Prop}{σ:St}{δ:Sl}{n:Int}(R:Rel C H B σ δ n)(k:gN H H'):Rel C H' B σ δ n:=by
 obtain⟨a,b,e,h⟩:=R.tp.ob;exact R.step ⟨⟨a,b,k _ _ e,h⟩,k _ _ R.tp.ls,R.tp.len,λz=>k _ _ (R.tp.ag z),R.tp.gne⟩ λb o e _=>k b o e
section
variable{X:Cx}{tg iter:Expr}{body:List Stmt}{wi:TI}{v:fI}{g:TG}{gd:dw}{T:TS}{W:aE}{pos:Pos}
theorem sg(hi:DI X tg iter wi v)(hg:DG X tg g gd)(hb:DSs X body T W)(hp:PassesOwn (A5 X.prog X.w) X.A X.env X.xe:=by exact PassesOwn.never)(hc:X.calm=ah:=by rfl)
  (hs:∀x,Ef iter X.env x=pure x:=by intro _;rfl):DS X (.For tg iter body [] pos) (gY wi g T) (aZ v gd W):=⟨JC hp hc hi.pi hg.pg hb.ps hs,λC H B σ δ n K D R q E=>
 hi.sd C H B σ δ n _ _ R q λJ d y Z M k1 I V=>by
  have Q:=I _ (nj y B);have c:∀{H p σ δ n},Rel {C with fz:=fC y B} H p σ δ n->Rel C H p σ δ n:=λR=>R.unfz λb o e=>(nj y B).2 b o (M.fz b o e).1 (M.fz b o e).2;refine⟨λi m σ H=>m=d.length-i/\i<=d.length/\∃p δ n,Rel {C with fz:=fC y B} H p σ δ n/\ew gd W K (d.drop i) δ n,⟨d.length,by simp,Be _,B,δ,Z,M.refz,by simpa using V⟩,?_⟩
  rintro i m S t ⟨rfl,hi,u,U,N,k,s⟩
  have h:=λb o e=>(k.fz b o e).1;by_cases f:i < d.length
  ·rw[Fw f]at s;refine .inr ⟨Q.go i t h f,λσ3 H3=>∃p δ n,_,λσ' F z=>⟨_,by omega,rfl,f,z⟩,λx F hy=>?_⟩;obtain⟨sm,Y⟩:=Q.yld i t x F d[i] h (Ah f) hy;refine hg.sd _ F u S U N x d[i] _ _ (k.same sm) (Y u (λb o e=>(k.fz b o e).2) k.ba) s λσ' G R4 P=>hb.sd _ F u σ' G N _ _ R4 P ⟨?_,?_,?_,?_,λH B σ δ n a O d R=>E.rn H B σ δ n a O d (c R),λH B σ δ n a l L R=>E.rx H B σ δ n a l L (c R)⟩
   ·exact λH B σ δ n R q=>⟨B,δ,n,R,q⟩
   ·exact λH B σ δ n v w R=>E.rt H B σ δ n v w (c R)
   ·exact λH B σ δ n R=>E.nx H B σ δ n (c R)
   ·exact λH B σ δ n R q=>⟨B,δ,n,R,q⟩
  ·have e:i=d.length:=by omega
   subst e;rw[List.drop_length]at s;exact .inl ⟨Q.stop t h,E.nx t u S U N (c k) s⟩⟩
end
def jm(fr:List (Option Nat))(δ:Sl):Sl:=fr.map λo=>o.bind λi=>match δ[i]? with
 |some (ae (.w x))=>ae (.w x)
 |some (ae (.odk kvs))=>ae (.w (.dk kvs))
 |some (ae (.own ds))=>ae (.w (.ln ds))
 |some (ae (.odx kvs))=>ae (.w (.dx kvs))
 |_=>af
def c0(g:dw)(c:b5)(w:DT)(Q:List Ad->Int->Prop):List Ad->List Ad->Sl->Int->Prop
 |[],j_,_,n=>Q j_ n
 |d::r,j_,δ,n=>g d δ λδ'=>c δ' n λb n1=>if b=ah then w δ' n1 λx n2=>match x with
   |.d y=>c0 g c w Q r (j_++[y]) δ' n2
   |_=>False
  else c0 g c w Q r j_ δ' n1
def cg(fr:List (Option Nat))(v:fI)(g:dw)(c:b5)(w:DT):d0:=λδ n Q=>v δ n λds n1=>c0 g c w Q ds [] (jm fr δ) n1
structure DIf(X:Cx)(ifs:List Expr)(t:TT)(c:b5):Prop where
 pf:lZ X ifs t
 sd:iK t c
def bV:b5:=λ_ n Q=>Q ah n
theorem Iw{X:Cx}:DIf X [] BQ bV:=⟨HJ,λC H B σ δ n Q a R q k=>k ah H n R (Kp.refl _ _) q⟩
theorem OW{X:Cx}{c:Expr}{t:TT}{cc:b5}(h:DC X c t cc):DIf X [c] t cc:=⟨FV h.pt,h.sd⟩
theorem FT(fr:List (Option Nat))(σ:St):(dz fr σ).length=fr.length:=by unfold dz;simp
theorem MY(fr:List (Option Nat))(δ:Sl):(jm fr δ).length=fr.length:=by unfold jm;rw[Ab]
theorem uh{fr:List (Option Nat)}{δ:Sl}{j:Nat}{x:SV}(h:(jm fr δ)[j]?=ae (ae x)):∃i y,fr[j]?=ae (ae i)/\δ[i]?=ae (ae y)/\((∃z,x=.w z/\y=.w z)\/(∃kvs,x=.w (.dk kvs)/\y=.odk kvs)\/(∃ds,x=.w (.ln ds)/\y=.own ds)\/∃kvs,x=.w (.dx kvs)/\y=.odx kvs):=by
 unfold jm at h;rw[Am]at h;cases e:fr[j]? with
 |none=>rw[e]at h;cases h
 |some o=>
  rw[e]at h;cases o with
  |none=>cases h
  |some i=>
   have b:=B2 h;dsimp only[Option.bind]at b
   split at b
   ·rename_i z a;cases b;exact⟨i,_,rfl,a,.inl ⟨z,rfl,rfl⟩⟩
   ·rename_i kvs a;cases b;exact⟨i,_,rfl,a,.inr (.inl ⟨kvs,rfl,rfl⟩)⟩
   ·rename_i ds a;cases b;exact⟨i,_,rfl,a,.inr (.inr (.inl ⟨ds,rfl,rfl⟩))⟩
   ·rename_i kvs a;cases b;exact⟨i,_,rfl,a,.inr (.inr (.inr ⟨kvs,rfl,rfl⟩))⟩
   ·cases b
theorem IY{fr:List (Option Nat)}{σ:St}{j i:Nat}{v:V}(h:fr[j]?=ae (ae i))(h2:σ[i]?=ae (ae v)):(dz fr σ)[j]?=ae (ae v):=by
 unfold dz;simp_all<;>omega
theorem Qq{C:Ctx}{H:Hp}{B:A'->Prop}{σ:St}{δ:Sl}{n:Int}{L:A'}{fr:List (Option Nat)}(R:Rel C H B σ δ n)(hL:H L=af):
  Rel ⟨C.t,C.l,C.ns,H,B,fC H B⟩ (upd H L (.lst [])) (λb=>B b\/b=L) (dz fr σ) (jm fr δ) n where
 tp:=R.tp.new hL
 kp:=Kp.new hL
 t0:=R.ba _ R.bt
 l0:=by
  show H C.l.s≠af;rw[R.tp.ls];simp
 g0:=λe=>by
  show H C.l.g≠af;rw[R.tp.ag e];simp
 fz:=λb o e=>by
  obtain⟨u,E⟩:=(nj H B).1 b o e;exact⟨(aH (bu u hL))▸u,λz=>z.elim E (bu u hL)⟩
 bt:=.inl R.bt
 b0:=λb=>.inl
 ba:=λb z e=>by
  by_cases q:b=L
  ·rw[q,a9]at e;cases e
  ·rw[aH q]at e;exact R.ba b (by simp_all) e
 a0:=R.ba
 sl:=λj x e=>by
  have p:∀b F,H b=ae F->¬B b->upd H L (.lst []) b=ae F/\¬(B b\/b=L):=λb F e n=>⟨(aH (bu e hL))▸e,λz=>z.elim n (bu e hL)⟩;obtain⟨i,y,u,E,G⟩:=uh e;obtain⟨v,J,m⟩:=R.sl i y E;refine⟨v,IY u J,?_⟩;rcases G with⟨z,rfl,rfl⟩|⟨h,rfl,rfl⟩|⟨I,rfl,rfl⟩|⟨h,rfl,rfl⟩
  ·cases z with
   |d d=>exact⟨m.1.move p,λz=>by cases z⟩
   |tp=>exact⟨m.1,λz=>by cases z⟩
   |ln I=>
    obtain⟨a,l,f,c,r,k,A⟩:=m.1;exact⟨⟨a,l,f,(aH (bu c hL))▸c,r,k,A.move p⟩,λ_=>⟨a,f,by show H a≠af;rw[c];simp⟩⟩
   |dk h=>
    obtain⟨a,l,f,c,r,k⟩:=m.1;exact⟨⟨a,l,f,(aH (bu c hL))▸c,r,k.move p⟩,λ_=>⟨a,f,by show H a≠af;rw[c];simp⟩⟩
   |dx h=>
    obtain⟨a,l,f,c,r,k⟩:=m.1;exact⟨⟨a,l,f,(aH (bu c hL))▸c,r,k.move p⟩,λ_=>⟨a,f,by show H a≠af;rw[c];simp⟩⟩
   |ob o=>
    exact⟨ORel.move p m.1,λz=>by cases z⟩
  ·obtain⟨a,l,f,c,r,k,A,w⟩:=m;exact⟨⟨a,l,f,(aH (bu c hL))▸c,λz=>R.t0 (z▸k),w.move p⟩,λ_=>⟨a,f,by show H a≠af;rw[c];simp⟩⟩
  ·obtain⟨a,l,f,c,r,k,A,w⟩:=m;exact⟨⟨a,l,f,(aH (bu c hL))▸c,λz=>R.t0 (z▸k),A,w.move p⟩,λ_=>⟨a,f,by show H a≠af;rw[c];simp⟩⟩
  ·obtain⟨a,l,f,c,r,k,A,w⟩:=m;exact⟨⟨a,l,f,(aH (bu c hL))▸c,λz=>R.t0 (z▸k),w.move p⟩,λ_=>⟨a,f,by show H a≠af;rw[c];simp⟩⟩
 ow:=λi j x y v u E D Q _ _=>by
  obtain⟨_,_,_,_,G⟩:=uh u;rcases G with⟨z,rfl,_⟩|⟨h,rfl,_⟩|⟨I,rfl,_⟩|⟨h,rfl,_⟩
  ·cases D
  ·cases D
  ·cases D
  ·cases D
 len:=by rw[FT,MY]
section
variable{X:Cx}{elt tg iter:Expr}{ifs:List Expr}{scope:Fb}{cl:List (Str×A')}{pos:Pos}{N:List Str}{fr:List (Option Nat)}{wi:TI}{v:fI}{g:TG}{gd:dw}{tt:TT}{cc:b5}{te:TE}{we:DT}
def gp(δ:Sl):Prop:=∀(i:Nat)(x:SV),δ[i]?=ae (ae x)->x.isOwn=ai
theorem Qf(fr:List (Option Nat))(δ:Sl):gp (jm fr δ):=λi x e=>by
 obtain⟨_,_,_,_,b⟩:=uh e;rcases b with⟨z,rfl,_⟩|⟨a,rfl,_⟩|⟨c,rfl,_⟩|⟨a,rfl,_⟩<;>rfl
def jT(v:dw):Prop:=∀d δ Q,gp δ->v d δ Q->v d δ λδ'=>gp δ'/\Q δ'
theorem vp(i:Nat):jT (aJ i):=λd δ Q h q=>⟨λj x e=>by
 rcases eH e with⟨_,rfl⟩|⟨_,b⟩
 ·rfl
 ·exact h j x b,q⟩
theorem tE(hc:X.calm=ah)(S:CompSc X N scope cl fr)(hi:DI X tg iter wi v)(hg:∀s H fp,DG (cL X N scope cl s H fp) tg g gd)(ht:∀s H fp,DIf (cL X N scope cl s H fp) ifs tt cc)
  (he:∀s H fp,DE (cL X N scope cl s H fp) elt te we) (hno:jT gd) (hs:∀x,Ef iter X.env x=pure x):
  DF X (.ListComp elt [⟨tg,iter,ifs,0⟩] scope pos) (lJ fr wi g tt te) (cg fr v gd cc we):=by
 refine⟨Lg hc S hi.pi (λs H fp=>(hg s H fp).pg) (λs H fp=>(ht s H fp).pf) (λs H fp=>(he s H fp).pe) hs,λC H B σ δ n Q Q' R q k=>hi.sd C H B σ δ n _ _ R q λJ f H1 n1 K k1 hJ q1=>λL O=>?_⟩;have I:=hJ _ (nj H1 B);have w:L≠C.t:=λz=>K.ba _ K.bt (z▸O);refine⟨λi m A τ H=>m=f.length-i/\i<=f.length/\A.length<=i/\∃δ' n' c,Rel _ H _ τ δ' n'/\gp δ'/\H L=ae (.lst A)/\RdXs H (λb=>B b\/b=L) A c/\c0 gd cc we Q (f.drop i) c δ' n',
  ⟨f.length,by simp,Be _,Be _,_,n1,[],Qq K O,Qf fr δ,a9,.nil,by simpa using q1⟩,?_⟩
 rintro i m A τ T ⟨rfl,hi,G,δ2,V,c,p,no2,M,D,P⟩
 have l:=λb o e=>(p.fz b o e).1;by_cases a:i < f.length
 ·rw[Fw a]at P;refine .inr ⟨I.go i T l a,Bn (D7 G a) I.le,λx W hy=>?_⟩;obtain⟨Y,rd⟩:=I.yld i T x W f[i] l (Ah a) hy;refine((hg X.s₀ X.H₀ []).sd) _ W _ τ δ2 V x f[i] _ _ (p.same Y) (rd _ (λb o e=>(p.fz b o e).2) p.ba) (hno _ _ _ no2 P) λτ3 U R4 ⟨h,q4⟩=>((ht X.s₀ X.H₀ []).sd) _ W _ τ3 U V _ _ R4 q4 λb H4 n4 Z k5 q5=>?_;have E:=k5 _ _ (Y _ _ M) w;have F:=(D.keep λb o e _=>Y b o e).kp k5 R4.bt;cases b with
  |false=>
   exact⟨_,by omega,rfl,a,by omega,U,n4,c,Z,h,E,F,q5⟩
  |true=>
   refine((he X.s₀ X.H₀ []).sd) _ H4 _ τ3 U n4 _ _ Z q5 λu y H5 n5 R6 k6 r6 r=>?_;cases y with
   |d y=>
    refine⟨(k6 _ _ E w),_,by omega,rfl,a,by rw[As,Ba];omega,U,n5,_,R6.mut (.inr rfl) O λj z e o=>g_ (h j z e) (by rw[o];simp),h,a9,RdXs.keep (λb o e n=>?_) ((F.kp k6 Z.bt).append (.cons r6 .nil)),r⟩;rw[aH λz=>n (.inr z)];exact e
   |tp=>exact r.elim
   |dk _=>exact r.elim
   |dx _=>exact r.elim
   |ln _=>exact r.elim
   |ob _=>exact r.elim
 ·have e:i=f.length:=by omega
  subst e;rw[List.drop_length]at P;refine .inl ⟨I.stop T l,k L A c T V (K.step p.tp p.kp) (k1.trans p.kp) (K.was k1 O) M (A0 G I.le) D P⟩
end
abbrev cQ:=List Ad->Sl->(Sl->Prop)->Prop
def IV(g:fm)(v:cQ):Prop:=∀(C:Ctx)(H:Hp)(B:A'->Prop)(σ:St)(δ:Sl)(n:Int)(xs:List V)(ds:List Ad)(Q:Sl->Prop)(Q':St->Hp->Prop),Rel C H B σ δ n->RdXs H B xs ds->v ds δ Q->
 (∀σ' δ',Rel C H B σ' δ' n->Q δ'->Q' σ' H)->g xs σ H Q'
structure DGs(X:Cx)(ts:List Expr)(g:fm)(v:cQ):Prop where
 pg:kW X ts g
 sd:IV g v
def dt:cQ:=λds δ Q=>match ds with
 |[]=>Q δ
 |_=>False
def bK(v:dw)(r:cQ):cQ:=λds δ Q=>match ds with
 |d::ds=>v d δ λδ'=>r ds δ' Q
 |[]=>False
def d8(n:Nat)(r:cQ):dw:=λd δ Q=>match d with
 |.tuple ds=>ds.length=n/\r ds δ Q
 |_=>False
theorem ON:∀ds δ Q,gp δ->dt ds δ Q->dt ds δ λδ'=>gp δ'/\Q δ':=λds δ Q h q=>by
 cases ds with
 |nil=>exact⟨h,q⟩
 |cons _ _=>exact q
theorem DO{v:dw}{r:cQ}(mono:∀d δ (Q Q':Sl->Prop),(∀δ',Q δ'->Q' δ')->v d δ Q->v d δ Q')(hv:jT v)(hr:∀ds δ Q,gp δ->r ds δ Q->r ds δ λδ'=>gp δ'/\Q δ'):∀ds δ Q,gp δ->bK v r ds δ Q->bK v r ds δ λδ'=>gp δ'/\Q δ':=λds δ Q h q=>by
 cases ds with
 |nil=>exact q
 |cons d ds=>exact mono d δ _ _ (λδ' z=>hr ds δ' Q z.1 z.2) (hv d δ _ h q)
theorem HI{n:Nat}{r:cQ}(hr:∀ds δ Q,gp δ->r ds δ Q->r ds δ λδ'=>gp δ'/\Q δ'):jT (d8 n r):=λd δ Q h q=>by
 unfold d8 at q ⊢
 split at q
 ·exact⟨q.1,hr _ _ _ h q.2⟩
 ·exact q.elim
theorem RI(i j n:Nat):jT (d8 n (bK (aJ i) (bK (aJ j) dt))):=
 HI (DO (λ_ _ _ _ h=>h _) (vp i) (DO (λ_ _ _ _ h=>h _) (vp j) ON))
section
variable{X:Cx}{pos:Pos}
theorem Ko:DGs X [] nG dt:=⟨Ry,λC H B σ δ n a c Q b R r q k=>by
 cases r with
 |nil=>exact⟨rfl,k σ δ R q⟩
 |cons _ _=>exact q.elim⟩
end
section
variable{X:Cx}{pos:Pos}
theorem FY{e:Expr}{es:List Expr}{t:TG}{u:fm}{v:dw}{r:cQ}(h1:DG X e t v)(h2:DGs X es u r)
  (hs:(Cw (e::es) X.env).map (·.2)=assign e X.env::(Cw es X.env).map (·.2)):DGs X (e::es) (EV t u) (bK v r):=⟨SH h1.pg h2.pg hs,λC H B σ δ n j h Q l R c q k=>by
 cases c with
 |nil=>exact q.elim
 |cons d f=>exact⟨_,_,rfl,h1.sd C H B σ δ n _ _ _ _ R d q λσ' g a b=>h2.sd C H B σ' g n _ _ _ _ a f b k⟩⟩
theorem Kq{es:List Expr}{k:Nat}{t:fm}{n:Nat}{r:cQ}(h:DGs X es t r)(hc:X.calm=ah)
  (hn:(Cw es X.env).length=n) (hst:(Cw es X.env).findIdx? (·.1)=af):DG X (.Tuple es k pos) (kH X.K n t) (d8 n r):=⟨IQ hc h.pg hn hst,λC H B σ δ e x d Q m R c q k=>by
 unfold d8 at q
 split at q
 ·rename_i j;cases c with
  |@tup b g _ i o l a=>exact⟨b,g,rfl,SqT.of i,a.len▸q.1,h.sd C H B σ δ e _ _ _ _ R a q.2 k⟩
 ·exact q.elim⟩
def jY(i:Nat)(wj w:DT):aE:=λδ n K=>match δ[i]? with
 |some (ae (.own ds))=>w δ n λx n1=>wj δ n1 λj n2=>match x,j with
  |.d d,.d (.int k)=>match ir ds.length k with
   |some m=>K.nx (δ.set i (ae (.own (ds.set m d)))) n2
   |none=>False
  |_,_=>False
 |_=>False
theorem Ju{i:Nat}{x:Str}{xp sp:Pos}{j e:Expr}{tj te:TE}{wj we:DT}(hN:X.N[i]?=ae x)(hj:DE X j tj wj)(he:DE X e te we)(hv:dY X.env.scope x)(hd:(x==("__debug__":Str))=ai)
  (r_:(x==("__classdict__":Str))=ai)
  (ha:∀v,assign (.Subscript (.Name x xp) j sp) X.env v=(do
   let ov <-holding [v] (eval (.Name x xp) X.env)
   let iv <-holding [v,ov] (eval j X.env)
   standAt sp
   holding [v,ov,iv] (setItem ov iv v)
   release [v,ov,iv] []))
  (hs:swapsWithSole [.Subscript (.Name x xp) j sp] e pos.line X.env=pure ai) (hw:swappedStores [.Subscript (.Name x xp) j sp] e X.env=pure af)
  (h1:(Cw [.Subscript (.Name x xp) j sp] X.env).map (·.2)=[assign (.Subscript (.Name x xp) j sp) X.env]):
  DS X (.Assign [.Subscript (.Name x xp) j sp] e pos) (bw te (iA (aI i) tj qK)) (jY i wj we):=
 ⟨kZ he.pe (nR (eS hN hv hd r_) hj.pe mh ha) hs hw h1,λC H B σ δ n K D R q E=>by
  unfold jY at q
  split at q
  ·rename_i W r;refine he.sd C H B σ δ n _ _ R q λu y J L f V Q A=>?_;obtain⟨v,hv,a,M,rfl,O,h,l,I,s⟩:=f.sl i _ r;refine⟨_,hv,hj.sd C J B σ δ L _ _ f A λw z G U P g S c=>?_⟩
   split at c
   ·rename_i d k
    split at c
    ·rename_i m F;cases(show RdX G B w (.int k)from S);have p:a≠C.t:=λz=>R.t0 (z▸l);refine⟨a,M,k,m,rfl,rfl,(g _ _ O p),s.len▸F,E.nx _ _ _ _ _ (P.mutOwn r rfl hv h l ?_ rfl) c⟩;refine⟨a,_,rfl,a9,h,l,by simpa using I,RdXs.keep (λb o e n=>?_) (RdXs.set m (s.kp g f.bt) (Q.kp g f.bt))⟩;rw[aH λ(z:b=a)=>n (z▸h)];exact e
    ·exact c.elim
   ·exact c.elim
  ·exact q.elim⟩
end
structure Has(P:A1)(w:Bh)(K:Ag)(mg:Str->Option Af)(base:Heap)(k:Nat)(x:Str)(ps:List Str)(S:aP):Prop where
 ex:∃(f:A')(fd:Cc),FnOk P w K mg base bW k f fd ps (dv S)/\Binds K fd ps []/\mg x=ae (.ref f)/\Ct K (.ref f)=ah
section
variable{P:A1}{w:Bh}{K:Ag}{mg:Str->Option Af}{base:Heap}
theorem Has.mk'{k:Nat}{x qual:Str}{st:Stmt}{ps:List Str}{S:aP}{f:A'}{fd:Cc}(F:Fun K x qual st f fd)(m:mg x=ae (.ref f))(b:Binds K fd ps [])(h:FnOk P w K mg base bW k f fd ps (dv S)):Has P w K mg base k x ps S:=⟨f,fd,h,b,m,F.kp⟩
end
theorem DY{X:Cx}{e:Expr}{es:List Expr}{pos p:Pos}{tR:TA}{wR:cK}{k:Nat}{ps:List Str}{S:aP}{x:Str}(h:Has X.prog X.w X.K X.mg X.base k x ps S)(hr:Room k X.A)(hg:Gl X x)
  (ha:DA X (e::es) tR wR) (hdb:(x==("__debug__":Str))=ai:=by decide) (he:Aq (e::es) X.env=(ai,eval e X.env)::Aq es X.env:=by rfl) (q_:(C0 pos (Aq es X.env)).any (·.1)=ai:=by rfl):
  DE X (.Call (.Name x p) (e::es) [] pos) (ee (dv S) [] E0 tR) (aD S wR):=by
 obtain⟨f,g,d,a,b,c⟩:=h.ex;exact RX d hr hg b c a ha hdb he q_
theorem Jg{cl cells:List (Str×A')}(h:∀y∈cl,cells.lookup y.1=ae y.2):∀x c,cl.lookup x=ae c->cells.lookup x=ae c:=λx c e=>h _ (qC e)
def cx:aP:=λws n Q=>match ws with
 |[.tp,.d (.int many)]=>(n < 2 ^ 40/\0 < many/\many < 1073741824)/\∀r:Int,0<=r->r < many->Q (.d (.int r)) (n+1)
 |_=>False
section
variable{P:A1}{w:Bh}{K:Ag}{mg:Str->Option Af}{base:Heap}
theorem Lq{k:Nat}{f:A'}{fd:Cc}{ps:List Str}(h:FnOk P w K mg base bW k f fd ps xY):FnOk P w K mg base bW k f fd ps (dv cx):=h.imp λvs H Q E s=>by
 obtain⟨t,l,c,B,z,n,A,T,x,y,r,q,m⟩:=s;unfold cx at q
 split at q
 ·rename_i a;cases r with
  |cons o p=>
   cases p with
   |cons v b=>
    cases b;cases(o);cases(show RdX H B _ (.int a)from v);exact⟨t,l,c,n,_,rfl,T,q.1.1,q.1.2.1,q.1.2.2,λr g d e i j=>m _ _ (q.2 r d e) _ g i j (.int r)⟩
 ·exact q.elim
def spLaw(K:Ag):Sp:=λvs H Q _=>∃(a:A')(ns:List Int),vs=[.ref a]/\SqL K H a (ns.map V.int)/\ns.length<=63/\∀H',Q (.bl ah) H'
def mP:DEnds:={ nx:=λ_ _=>False,rt:=λw _=>w=.d (.bool ah)}
theorem KY{H:Hp}{t:A'}{l:TL}{ns:List Int}{a:V}{k:Nat}(T:Tp H t l ns 0):Rel ⟨t,l,ns,H,λb=>b=t,λ_=>af⟩ H (λb=>b=t) (ae a::ae (.ref t)::Dh k af) (af::ae (.w .tp)::Dh k af) 0 where
 tp:=T
 kp:=Kp.refl _ _
 t0:=by
  obtain⟨_,_,h,_⟩:=T.ob;simp_all<;>omega
 l0:=by
  show H l.s≠af;rw[T.ls];simp
 g0:=λe=>by
  show H l.g≠af;rw[T.ag e];simp
 fz:=λb o e=>nomatch e
 bt:=rfl
 b0:=λ_ z=>z
 ba:=λb z=>by
  obtain⟨_,_,h,_⟩:=T.ob;rw[z,h];simp
 a0:=λb z=>by
  obtain⟨_,_,h,_⟩:=T.ob;simp_all<;>omega
 sl:=λi x e=>by
  rcases i with _|_|i
  ·cases e
  ·cases e;exact⟨_,rfl,rfl,λz=>by cases z⟩
  ·have c:(Dh k _)[i]?=ae (ae x):=e;rw[E3]at c
   split at c
   ·cases c
   ·cases c
 ow:=λi j x y v d p f q n m=>by
  rcases i with _|_|i
  ·cases d
  ·cases d;cases f
  ·have c:(Dh k _)[i]?=ae (ae x):=d;rw[E3]at c
   split at c
   ·cases c
   ·cases c
 len:=by simp
end
end DL
local macro_rules|`(⇑$n:num)=>`(DL.wC (.int $n))
local macro_rules|`(↥$n:num)=>`(DL.aj $n)
namespace Nb
open PySem L2 DL
def oQ(c:Nat):Bool:=!decide ([c] < ("a":Str).cps.toList)&&!decide (("z":Str).cps.toList < [c])
def kc(k:Int):Ad->Bool
 |.str x=>decide ((1:Int)<=(x.length:Int))&&(decide ((x.length:Int)<=k)&&x.cps.toList.all oQ)
 |_=>ai
def Ti:Ad->Bool
 |.int _=>ah
 |_=>ai
theorem EB{w:DT}{Q:List Ad->Int->Prop}{aA:Sl}(P:Ad->Prop)(f:Ad->Ad)(h:∀d n Q',P d->Q' (.d (f d)) n->w (↑d::aA) n Q'):∀(items j_:List Ad)(x:Option SV)(n:Int),(∀d∈items,P d)->Q (j_++items.map f) n->c0 (aJ 0) bV w Q items j_ (x::aA) n
 |[],j_,x,n,a,q=>by
  rw[List.map_nil,Br]at q;exact q
 |d::r,j_,x,n,a,q=>by
  refine h d n _ (a d An) (EB P f h r _ _ n (λe b=>a e (Ak _ b)) ?_);rw[A6];exact q
theorem qc{c:b5}{w:DT}{Q:List Ad->Int->Prop}{aA:Sl}(P:Ad->Prop)(p:Ad->Bool)(f:Ad->Ad)(hp:∀d n Q',P d->Q' (p d) n->c (↑d::aA) n Q')(h:∀d n Q',P d->Q' (.d (f d)) n->w (↑d::aA) n Q'):
  ∀(items j_:List Ad)(x:Option SV)(n:Int),(∀d∈items,P d)->Q (j_++(items.filter p).map f) n->c0 (aJ 0) c w Q items j_ (x::aA) n
 |[],j_,x,n,a,q=>by
  rw[List.filter_nil,List.map_nil,Br]at q;exact q
 |d::r,j_,x,n,a,q=>by
  refine hp d n _ (a d An) ?_;cases e:p d with
  |true=>
   refine h d n _ (a d An) (qc P p f hp h r _ _ n (λe b=>a e (Ak _ b)) ?_);simp_all<;>omega
  |false=>
   refine qc P p f hp h r j_ _ n (λe b=>a e (Ak _ b)) ?_;simp_all
def okD:Ad->Bool
 |.str y=>!decide (y.cps.toList < ("a":Str).cps.toList)&&!decide (("z":Str).cps.toList < y.cps.toList)
 |_=>ai
theorem EJ{α:Type}{xs:List α}{r:Int}(h0:0<=r)(h1:r < xs.length):∃v,cO xs r=ae v/\v∈xs:=by
 obtain⟨j,rfl⟩:=Int.eq_ofNat_of_zero_le h0;have a:j < xs.length:=by omega
 exact⟨_,d9 (Ah a),E2 a⟩
theorem oZ(d:Ad):iS "str" d=match d with|.str _=>ah|_=>ai:=by cases d<;>rfl
theorem To(d:Ad):iS "list" d=match d with|.list _=>ah|_=>ai:=by cases d<;>rfl
theorem ml{b:Bool}{A B:Prop}(h1:b=ah->A)(h2:b=ai->B):if b=ah then A else B:=by
 cases b with
 |true=>rw[b_ rfl];exact h1 rfl
 |false=>rw[a_ Ay];exact h2 rfl
end Nb
namespace DL
open PySem L2 Nb
section
variable{X:Cx}{tg a b c e:Expr}{ta tb tc te:TE}{wa wb wc we:DT}{pos p:Pos}{K:Ag}
theorem RP(ha:DE X a ta wa)(hb:DE X b tb wb)(hK:X.K=K)(hs:qp b:=by exact λ_ _=>rfl):DE X (.Subscript a b pos) (cZ (kO K) ta tb) (w2 wa wb aw):=by subst hK;exact sD ha hb hs
def uW(K:Ag)(T:String):List V->Hp->VK->Prop:=λxs H Q=>∃x t b,xs=[x,.ty T]/\TyOf K H x t/\PySem.W.kitOne K t (.type T)=ae b/\Q (.bl b) H
theorem L3{T:String}{x:Str}{p p2:Pos}(hT:T="int"\/T="bool"\/T="str"\/T="tuple"\/T="list")(hg:Gl X "isinstance")(hm:X.mg "isinstance"=af)(hg2:Gl X x)(hm2:X.mg x=af)(hv:Bw x=ae (.type T))(ha:DE X a ta wa)(hK:X.K=K)(hn:x≠"__name__")(hdb:(x==("__debug__":Str))=ai)
  (he:Aq [a,.Name x p2] X.env=(ai,eval a X.env)::Aq [.Name x p2] X.env) (he2:Aq [.Name x p2] X.env=(ai,eval (.Name x p2) X.env)::Aq [] X.env) (q_:(C0 pos (Aq [.Name x p2] X.env)).any (·.1)=ai):
  DE X (.Call (.Name "isinstance" p) [a,.Name x p2] [] pos) (d5 (uW K T) (br ta (br (tC (.ty T)) aW))) (cW T wa):=by subst hK;exact Kc hT hg hm hg2 hm2 hv ha hn hdb he he2 q_
def kj(K:Ag):R2:=λx y H Q=>oR x y H Q\/pQ x y H Q\/pO K x y H Q
theorem qd(hu:X.A.units < Dd)(hK:X.K=K:=by rfl):OpR X (B3 .Eq) (kj K):=by subst hK;exact Rh hu
theorem p7:a8 (kj K) bg:=OE
theorem t7(hK:X.K=K):OpR X (B3 .In) (gj K ai):=by subst hK;exact NV
theorem oW(hK:X.K=K):OpR X (B3 .NotIn) (gj K ah):=by subst hK;exact Ks
def t4(K:Ag):List V->Hp->VK->Prop:=λxs H Q=>(∃z,xs=[.str z]/\z.length<=Av/\Q (.int z.length) H)\/∃p ys,xs=[.ref p]/\(SqL K H p ys\/SqT K H p ys)/\Q (.int ys.length) H
theorem tw(hK:X.K=K:=by rfl):CallR X (.builtin "len") (t4 K):=by subst hK;exact R8
theorem vP:cX (t4 K) bC:=O6
def wq(K:Ag):List V->Hp->VK->Prop:=λxs H Q=>∃a d,xs=[.ref a]/\RdD K H (.ref a) d/\Small d/\Q (.str d.shown) H
theorem Ka(hg:X.A.guards=ae [])(hu:X.A.units+64 < Dd)(hK:X.K=K):CallR X (.builtin "repr") (wq K):=by subst hK;exact PZ hg hu
theorem Ng:cX (wq K) pq:=HP
def vk(K:Ag):List V->Hp->VK->Prop:=λxs H Q=>∃p ys,xs=[.ref p]/\((SqL K H p ys/\∀l,H l=af->Q (.ref l) (upd H l (.tup ys)))\/(SqT K H p ys/\Q (.ref p) H))
theorem zb(hK:X.K=K):CallR X (.type "tuple") (vk K):=by subst hK;exact Ta
theorem xE:cX (vk K) eY:=Q4
def wH(K:Ag):List V->Hp->VK->Prop:=λxs H Q=>∃p ys,xs=[.ref p]/\(SqL K H p ys\/SqT K H p ys)/\∀l,H l=af->Q (.ref l) (upd H l (.lst ys))
theorem Kn(hK:X.K=K):CallR X (.type "list") (wH K):=by subst hK;exact Pb
theorem xK(ha:DE X a ta wa)(hK:X.K=K:=by rfl):DI X tg a (p5 K ta) (ez wa):=by subst hK;exact Oa ha
theorem Hk(ha:DE X a ta wa)(hK:X.K=K):DI X tg a (j1 K ta) (dj wa):=by subst hK;exact LD ha
theorem LZ{es:List Expr}{k:Nat}{t:fm}{n:Nat}{r:cQ}(h:DGs X es t r)(hc:X.calm=ah)(hK:X.K=K)
  (hn:(Cw es X.env).length=n) (hst:(Cw es X.env).findIdx? (·.1)=af):DG X (.Tuple es k pos) (kH K n t) (d8 n r):=by subst hK;exact Kq h hc hn hst
end
end DL
namespace L2
open PySem PySem.Spec PyProof.Rows
theorem zx{X:Cx}{elt tg iter:Expr}{ifs:List Expr}{scope:Fb}{cl:List (Str×A')}{cpos pos pos':Pos}{N:List Str}{fr:List (Option Nat)}{wi:TI}{g:TG}{tt:TT}{te:TE}{i:Nat}{x:Str}
  (hN:X.N.Nodup) (hix:X.N[i]?=ae x) (hx:X.env.scope.names.lookup x=ae .local)
  (hc:X.calm=ah) (S:CompSc X N scope cl fr) (hi:PI X tg iter wi) (hg:∀s H fp,PG (cL X N scope cl s H fp) tg g) (ht:∀s H fp,lZ (cL X N scope cl s H fp) ifs tt)
  (he:∀s H fp,PE (cL X N scope cl s H fp) elt te) (hs:∀x,Ef iter X.env x=pure x)
  (hsw:Cy (.ListComp elt [⟨tg,iter,ifs,0⟩] scope cpos) (ae (.Name x pos')) pos.line X.env=pure ah):
  PS X (.Assign [.Name x pos'] (.ListComp elt [⟨tg,iter,ifs,0⟩] scope cpos) pos) (bw (lJ fr wi g tt te) (dg i)):=by
 intro k s σ H D I h;rw[exec_Assign_Name_used _ _ _ _ hsw];refine Aa (wpAny_standAt (Aa (Aa ?_)));have O:∀(u:Unit) p,SP X k D .next p->A2 (A5 X.prog X.w) X.A _ _ X.xe p:=λ_ p=>Aj
 refine aL (FN hc S hi hg ht he hs I h λ{fp m s6 H3 F τ a U} E R K qn Y=>?_) λ_ p z=>Aj (Aj z);have r:F m.heap.objs.size=af:=K.free;obtain⟨_,M,_,c3,J,W⟩:=E.fpOk (by simp) r;refine wpAny_assign_Name (y9 (zH E R K (Heap.SameBut.refl _ _)) hN hix (.inl hx) (show RelV (.ref a) (Co a)from rfl) (λs7 y f=>?_) (.inr hx));obtain⟨L,f,t⟩:=f;have B:m.heap.objs.size≠L:=by
  rcases t with z|z
  ·rw[z];omega
  ·exact λq=>J x L z q.symm
 obtain⟨oo,Z,ep,T,Q⟩:=Y;refine⟨U,⟨oo,Z,ep,(f.2 _ B).trans T,Q⟩,λh' d=>⟨_,F,?_,qn⟩⟩;have C:∀b,b∉[m.heap.objs.size]->b≠m.heap.objs.size:=λb z q=>z (by rw[q];simp);have l:=λb o e=>by
  refine(y.hok b o e).stay (λc v hc=>(d.2 c ?_).trans) (λ_ z=>z) λ_ _ z=>z
  rintro rfl
  rcases hc with z|z
  ·rw[<-z,r]at e;cases e
  ·rw[r]at z;cases z
 refine y.call' (ch:=[m.heap.objs.size]) rfl ?_ l y.bare λb P=>?_
 ·exact⟨λb o e n V j=>(d.2 b (C b j)).trans e,λb o e n V j=>⟨_,(d.2 b (C b j)).trans e⟩,λb o e n j=>n,λb o e j=>⟨o,(d.2 b (C b j)).trans e⟩,λ_ _ z=>z,λ_ _ _ z=>z,λb ps z=>⟨#[],z⟩⟩
 ·cases Bm.mp P;exact⟨c3,M,J,W⟩
end L2
namespace DL
open PySem L2 Nb
section
variable{X:Cx}{elt tg iter:Expr}{ifs:List Expr}{scope:Fb}{cl:List (Str×A')}{cpos pos pos':Pos}{N:List Str}{fr:List (Option Nat)}{wi:TI}{v:fI}{g:TG}{gd:dw}{tt:TT}{cc:b5}{te:TE}{we:DT}{i:Nat}{x:Str}
theorem R5{t:TE}{w:d0}(h:iq t w):iE (bw t (dg i)) (bo i w):=λC H B σ δ n K D R q E=>
 h C H B σ δ n _ _ R q λa j o l m g k b c d e f=>by
  refine E.nx _ _ _ _ _ (R.own g k b (by rw[c];simp) rfl ?_) f;exact⟨a,j,rfl,c,.inr rfl,R.h0 b,d,e⟩
theorem Qo{t:TE}{w:DT}(h:dm t w):iE (bw t (dg i)) (ay i w):=λC H B σ δ n K D R q E=>
 h C H B σ δ n _ _ R q λv x f g b _ c a=>by
  cases x with
  |d d=>exact E.nx _ _ _ _ _ (b.set c rfl) a
  |tp=>exact E.nx _ _ _ _ _ (b.set c rfl) a
  |dk _=>exact a.elim
  |dx _=>exact a.elim
  |ln _=>exact a.elim
  |ob _=>exact E.nx _ _ _ _ _ (b.set c rfl) a
theorem Kd(hN:X.N.Nodup)(hix:X.N[i]?=ae x)(hx:X.env.scope.names.lookup x=ae .local)(hc:X.calm=ah)(S:CompSc X N scope cl fr)(hi:DI X tg iter wi v)(hg:∀s H fp,DG (cL X N scope cl s H fp) tg g gd)(ht:∀s H fp,DIf (cL X N scope cl s H fp) ifs tt cc)
  (he:∀s H fp,DE (cL X N scope cl s H fp) elt te we) (hno:jT gd) (hs:∀x,Ef iter X.env x=pure x)
  (hsw:Cy (.ListComp elt [⟨tg,iter,ifs,0⟩] scope cpos) (ae (.Name x pos')) pos.line X.env=pure ah):
  DS X (.Assign [.Name x pos'] (.ListComp elt [⟨tg,iter,ifs,0⟩] scope cpos) pos) (bw (lJ fr wi g tt te) (dg i)) (bo i (cg fr v gd cc we)):=
 ⟨zx hN hix hx hc S hi.pi (λs H fp=>(hg s H fp).pg) (λs H fp=>(ht s H fp).pf) (λs H fp=>(he s H fp).pe) hs hsw,R5 (tE (pos:=cpos) hc S hi hg ht he hno hs).sd⟩
theorem IH(hN:X.N.Nodup)(hix:X.N[i]?=ae x)(hx:X.env.scope.names.lookup x=ae .local)(hc:X.calm=ah)(S:CompSc X N scope cl fr)(hi:DI X tg iter wi v)(hg:∀s H fp,DG (cL X N scope cl s H fp) tg g gd)(ht:∀s H fp,DIf (cL X N scope cl s H fp) ifs tt cc)
  (he:∀s H fp,DE (cL X N scope cl s H fp) elt te we) (hno:jT gd) (hs:∀x,Ef iter X.env x=pure x)
  (hsw:Cy (.ListComp elt [⟨tg,iter,ifs,0⟩] scope cpos) (ae (.Name x pos')) pos.line X.env=pure ah):
  DS X (.Assign [.Name x pos'] (.ListComp elt [⟨tg,iter,ifs,0⟩] scope cpos) pos) (bw (lJ fr wi g tt te) (dg i)) (ay i (bb (cg fr v gd cc we))):=
 ⟨zx hN hix hx hc S hi.pi (λs H fp=>(hg s H fp).pg) (λs H fp=>(ht s H fp).pf) (λs H fp=>(he s H fp).pe) hs hsw,Qo (tE (pos:=cpos) hc S hi hg ht he hno hs).d.sd⟩
end
end DL
namespace KS
open PySem PySem.W PyProof.Rows
def run{α:Type}(c:Nat->Nat->Bool):KasT α->α
 |.ret a=>a
 |.ask i j k=>run c (k (c i j))
theorem lG{α β:Type}(c:Nat->Nat->Bool)(f:α->KasT β):∀t:KasT α,run c (t.bind f)=run c (f (run c t))
 |.ret _=>rfl
 |.ask i j k=>lG c f (k _)
def Wi{α:Type}(n:Nat)(P:α->Prop):KasT α->Prop
 |.ret a=>P a
 |.ask i j k=>i < n/\j < n/\∀b,Wi n P (k b)
theorem Wi.bind{α β:Type}{n:Nat}{P:α->Prop}{R:β->Prop}{f:α->KasT β}(hf:∀a,P a->Wi n R (f a)):∀{t:KasT α},Wi n P t->Wi n R (t.bind f)
 |.ret a,h=>hf a h
 |.ask i j k,h=>⟨h.1,h.2.1,λb=>Wi.bind hf (h.2.2 b)⟩
theorem Wi.out{α:Type}{n:Nat}{P:α->Prop}(c:Nat->Nat->Bool):∀{t:KasT α},Wi n P t->P (run c t)
 |.ret a,h=>h
 |.ask i j k,h=>Wi.out c (t:=k _) (h.2.2 _)
theorem wp_run{α:Type}{n:Nat}{P:α->Prop}{cmp:Nat->Nat->(Bool->Ai->Prop)->Ai->Prop}{c:Nat->Nat->Bool}{St:Ai->Prop}{Q:α->Ai->Prop}
  (hc:∀i j C s,i < n->j < n->St s->(∀s',St s'->C (c i j) s')->cmp i j C s):∀(t:KasT α)(s:Ai),Wi n P t->St s->(∀s',St s'->Q (run c t) s')->t.kasWp cmp Q s
 |.ret a,s,_,d,h=>h s d
 |.ask i j k,s,w,d,h=>hc i j _ s w.1 w.2.1 d λs' b=>wp_run hc _ s' (w.2.2 _) b h
def Lo(n:Nat)(p:Array Nat):Prop:=∀i,p.getD i 0 < n
theorem jw(p:Array Nat)(i:Nat):p.getD i 0=(p[i]?).getD 0:=by simp
theorem Qb{n:Nat}{p:Array Nat}(hn:0 < n)(h:∀x∈p,x < n):Lo n p:=λi=>by
 rw[jw];cases e:p[i]? with
 |none=>exact hn
 |some x=>exact h x (Array.mem_of_getElem? e)
def Pm(n:Nat)(p:Array Nat):Prop:=p.Perm (E7 (A9 n))
theorem Pm.size{n:Nat}{p:Array Nat}(h:Pm n p):p.size=n:=by rw[Array.Perm.size_eq h];simp
theorem Pm.lo{n:Nat}{p:Array Nat}(hn:0 < n)(h:Pm n p):Lo n p:=Qb hn λx a=>by
 have:=(Array.Perm.mem_iff h).mp a;simpa using this
theorem Pm.rev{n:Nat}{p:Array Nat}(h:Pm n p)(i j:Nat):Pm n (kas_rev p i j):=(mirror_perm p i j _).trans h
theorem Pm.bub{n:Nat}{p:Array Nat}(h:Pm n p)(i j:Nat):Pm n (bubble p i j):=(bubble_perm p i j).trans h
section
variable{n:Nat}(hn:0 < n)
include hn
theorem tN{p:Array Nat}(h:Lo n p):∀f m,Wi n (λ_=>True) (kas_asc p f m)
 |0,m=>trivial
 |f+1,m=>⟨h _,h _,λb=>by
  cases b with
  |true=>exact trivial
  |false=>exact tN h f _⟩
theorem pF:∀f (p:Array Nat) m q,Pm n p->Wi n (λr=>Pm n r.1) (kas_desc f p m q)
 |0,p,m,q,h=>h
 |f+1,p,m,q,h=>⟨h.lo hn _,h.lo hn _,λb=>by
  cases b with
  |true=>
   show Wi n _ (if q > 0 then _ else _)
   split
   ·exact pF f _ _ _ (h.rev _ _)
   ·exact pF f _ _ _ h
  |false=>exact⟨h.lo hn _,h.lo hn _,λd=>by
    cases d with
    |true=>exact h
    |false=>exact pF f _ _ _ h⟩⟩
theorem AX(m nrem:Nat){p:Array Nat}(h:Pm n p):Wi n (λr=>Pm n r.2) (kas_tail3 m nrem p):=by
 refine Wi.bind (λa _=>?_) (tN hn ((h.rev 0 m).lo hn) _ _);exact h.rev _ _
theorem FL(m nrem:Nat){p:Array Nat}(h:Pm n p):Wi n (λr=>Pm n r.2) (kas_descPart m nrem p):=
 Wi.bind (λr a=>by
  split
  ·exact AX hn _ _ (Pm.rev a _ _)
  ·exact AX hn _ _ a) (pF hn _ p _ _ h)
theorem RM(nrem:Nat){p:Array Nat}(h:Pm n p):Wi n (λr=>Pm n r.2) (kas_count nrem p):=
 Wi.bind (λm _=>by
  split
  ·exact h
  ·split
   ·exact⟨h.lo hn _,h.lo hn _,λb=>by
     cases b with
     |true=>exact h
     |false=>exact FL hn _ _ (h.rev _ _)⟩
   ·exact FL hn _ _ h) (tN hn (h.lo hn) _ _)
theorem su{p:Array Nat}(h:Lo n p)(k:Nat):∀f l r,Wi n (λ_=>True) (kas_place p k f l r)
 |0,l,r=>trivial
 |f+1,l,r=>by
  show Wi n _ (if l ≥ r then _ else _)
  split
  ·exact trivial
  ·exact⟨h _,h _,λb=>by
    cases b with
    |true=>exact su h k f _ _
    |false=>exact su h k f _ _⟩
theorem CN:∀f (p:Array Nat) k,Pm n p->Wi n (Pm n) (kas_bin f p k)
 |0,p,k,h=>h
 |f+1,p,k,h=>Wi.bind (λl _=>CN f _ _ (h.bub _ _)) (su hn (h.lo hn) k _ _ _)
theorem wi_sort:Wi n (Pm n) (kas_sort n):=
 Wi.bind (λr a=>by
  split
  ·exact CN hn _ _ _ a
  ·exact a) (RM hn n (Array.Perm.refl _))
end
structure Ord(lt:Nat->Nat->Bool):Prop where
 asym:∀i j,lt i j=ah->lt j i=ai
 ltr:∀i j k,lt j i=ai->lt k j=ai->lt k i=ai
section
variable{lt:Nat->Nat->Bool}(O:Ord lt)
def g(p:Array Nat)(i:Nat):Nat:=p.getD i 0
def SP(lt:Nat->Nat->Bool)(p:Array Nat)(n:Nat):Prop:=∀i j,i < j->j < n->lt (g p j) (g p i)=ai
def DP(lt:Nat->Nat->Bool)(p:Array Nat)(n:Nat):Prop:=∀i j,i < j->j < n->lt (g p i) (g p j)=ai
def Sim(lt:Nat->Nat->Bool)(x y:Nat):Prop:=lt x y=ai/\lt y x=ai
include O
theorem iG(i:Nat):lt i i=ai:=by
 cases e:lt i i with
 |false=>rfl
 |true=>exact(O.asym i i e).symm.trans e |>.symm▸rfl
theorem Sim.eq{a b x y:Nat}(h1:Sim lt a x)(h2:Sim lt b y):lt a b=lt x y:=by
 cases e:lt x y with
 |false=>exact O.ltr _ _ _ h2.2 (O.ltr _ _ _ e h1.1)
 |true=>
  cases c:lt a b with
  |true=>rfl
  |false=>
   have:=O.ltr _ _ _ h2.1 (O.ltr _ _ _ c h1.2);simp_all<;>omega
theorem SP.snoc{p:Array Nat}{n:Nat}(h:SP lt p n)(h1:1<=n)(e:lt (g p n) (g p (n-1))=ai):SP lt p (n+1):=λi j a b=>by
 by_cases q:j < n
 ·exact h i j a q
 ·have:j=n:=by omega
  subst this;by_cases r:i=j-1
  ·subst r;exact e
  ·exact O.ltr _ _ _ (h i _ ⋯ ⋯) e
theorem tO{p:Array Nat}:∀f n,1<=n->SP lt p n->n<=run lt (kas_asc p f n)/\run lt (kas_asc p f n)<=n+f/\SP lt p (run lt (kas_asc p f n))/\(run lt (kas_asc p f n)=n+f\/lt (g p (run lt (kas_asc p f n))) (g p (run lt (kas_asc p f n)-1))=ah)
 |0,n,a,h=>⟨Bc _,Bc _,h,.inl rfl⟩
 |f+1,n,a,h=>by
  have e:run lt (kas_asc p (f+1) n)=run lt (if lt (g p n) (g p _)=ah then .ret n else kas_asc p f _):=rfl;rw[e];cases q:lt _ (g p _)with
  |true=>exact⟨Bc _,Nat.le_add_right _ _,h,.inr q⟩
  |false=>
   rw[a_ Ay];obtain⟨i,d,b,c⟩:=tO f _ ⋯ (SP.snoc O h a q);grind
omit O
theorem se{p:Array Nat}{i j:Nat}(hj:j<=p.size)(k:Nat):g (kas_rev p i j) k=if i<=k/\k < j then g p (i+j-1-k)else g p k:=by
 unfold g kas_rev;rw[jw,jw,jw,getElem?_mirror hj _ ⋯];by_cases h:i<=k/\k < j
 ·rw[b_ h];by_cases q:(i<=k/\k < i+(j-i) / 2)\/(j-(j-i) / 2<=k/\k < j)
  ·rw[b_ q]
  ·rw[a_ q];grind
 ·rw[a_ h,a_ ⋯]
include O
theorem rG{p:Array Nat}{i j:Nat}(hj:j<=p.size)(h:∀a b,i<=a->a < j->i<=b->b < j->Sim lt (g p a) (g p b))(k:Nat):Sim lt (g (kas_rev p i j) k) (g p k):=by
 rw[se hj]
 split
 ·rename_i q;grind
 ·exact⟨iG O _,iG O _⟩
theorem DP.sim{p p':Array Nat}{n:Nat}(h:DP lt p n)(s:∀k,Sim lt (g p' k) (g p k)):DP lt p' n:=λi j a b=>(Sim.eq O (s i) (s j)).trans (h i j a b)
theorem DP.snoc{p:Array Nat}{n:Nat}(h:DP lt p n)(h1:1<=n)(e:lt (g p (n-1)) (g p n)=ai):DP lt p (n+1):=λi j a b=>by
 by_cases q:j < n
 ·exact h i j a q
 ·have:j=n:=by omega
  subst this;by_cases r:i=j-1
  ·subst r;exact e
  ·exact O.ltr _ _ _ e (h i _ ⋯ ⋯)
omit O
def rK(lt:Nat->Nat->Bool)(sz n f:Nat)(r:Array Nat×Nat×Nat):Prop:=
 r.1.size=sz/\n<=r.2.1/\r.2.1<=n+f/\r.2.2+1<=r.2.1/\DP lt r.1 r.2.1/\(∀a b,r.2.1-(r.2.2+1)<=a->a < r.2.1->r.2.1-(r.2.2+1)<=b->b < r.2.1->Sim lt (g r.1 a) (g r.1 b))
def iO(lt:Nat->Nat->Bool)(sz nrem:Nat)(r:Nat×Array Nat):Prop:=r.2.size=sz/\1<=r.1/\r.1<=nrem/\SP lt r.2 r.1
def rq(lt:Nat->Nat->Bool)(p:Array Nat)(k m:Nat):Prop:=m<=k/\(∀i,i < m->lt (g p k) (g p i)=ai)/\(∀i,m<=i->i < k->lt (g p k) (g p i)=ah)
include O
theorem qm:∀f (p:Array Nat) n q,q+1<=n->n+f<=p.size->DP lt p n->(∀a b,n-(q+1)<=a->a < n->n-(q+1)<=b->b < n->Sim lt (g p a) (g p b))->
  rK lt p.size n f (run lt (kas_desc f p n q))
 |0,p,n,q,A,K,c,j=>⟨rfl,Bc _,Bc _,A,c,j⟩
 |f+1,p,n,q,A,K,c,j=>by
  have o:∀F m a b,m+1-(0+1)<=a->a < m+1->m+1-(0+1)<=b->b < m+1->Sim lt (g F a) (g F b):=λp' m a b J k E l=>by
   have R:a=m:=by omega
   have P:b=m:=by omega
   rw[R,P];exact⟨iG O _,iG O _⟩
  show rK lt p.size n _ (run lt (if lt (g p n) (g p _)=ah then(if q > 0 then kas_desc f _ _ 0 else kas_desc f p _ 0)else .ask _ _ λd=>if d=ah then .ret (p,n,q)else kas_desc f p _ _));cases w:lt _ (g p _)with
  |true=>
   rw[b_ rfl];by_cases C:q > 0
   ·rw[b_ C];have M:=DP.sim O (DP.snoc O c ⋯ (O.asym _ _ w)) (rG O ⋯ j);have Q:(kas_rev p (n-(q+1)) n).size=p.size:=mirror_size _ _ _ _;obtain⟨u,G,B,r,t,v⟩:=qm f _ _ 0 ⋯ ⋯ M (o _ n);exact⟨u.trans Q,by omega,by omega,r,t,v⟩
   ·rw[a_ C];obtain⟨u,G,B,r,t,v⟩:=qm f p _ 0 ⋯ ⋯ (DP.snoc O c ⋯ (O.asym _ _ w)) (o _ n);exact⟨u,by omega,by omega,r,t,v⟩
  |false=>
   show rK lt p.size n _ (run lt (if lt (g p _) (g p n)=ah then .ret (p,n,q)else kas_desc f p _ _));cases D:lt _ (g p n)with
   |true=>exact⟨rfl,Bc _,by show n<=n+(f+1);omega,A,c,j⟩
   |false=>
    rw[a_ Ay];have T:Sim lt _ (g p _):=⟨w,D⟩;have N:∀{x y z:Nat},Sim lt x y->Sim lt y z->Sim lt x z:=λh H=>⟨O.ltr _ _ _ H.1 h.1,O.ltr _ _ _ h.2 H.2⟩;obtain⟨u,G,B,r,t,v⟩:=qm f p _ (q+1) ⋯ ⋯ (DP.snoc O c ⋯ D) (λa b J k E l=>by
     have i:∀x,n+1-(q+1+1)<=x->x < n+1->Sim lt _ (g p (n-1)):=λx S L=>by
      by_cases e:x=n
      ·rw[e];omega
      ·exact j x _ ⋯ ⋯ ⋯ ⋯
     have I:=i b E l;exact N (i a J k) ⟨I.2,I.1⟩)
    exact⟨u,by omega,by omega,r,t,v⟩
theorem wV{p:Array Nat}{n nrem:Nat}(h1:1<=n)(hn:n<=nrem)(hz:nrem<=p.size)(h:DP lt p n):iO lt p.size nrem (run lt (kas_tail3 n nrem p)):=by
 unfold kas_tail3;rw[lG];have e:(kas_rev p 0 n).size=p.size:=mirror_size _ _ _ _;have c:SP lt (kas_rev p 0 n) n:=λi j d f=>by
  rw[se ⋯,se ⋯,b_ ⟨Be _,f⟩,b_ (by grind)];exact h _ _ ⋯ ⋯
 obtain⟨l,g,b,_⟩:=tO O _ n h1 c;exact⟨e,by show 1<=run lt _;omega,by show run lt _<=nrem;omega,b⟩
theorem DX{p:Array Nat}{n nrem:Nat}(h1:1<=n)(hn:n+1<=nrem)(hz:nrem<=p.size)(h:DP lt p (n+1)):iO lt p.size nrem (run lt (kas_descPart n nrem p)):=by
 unfold kas_descPart;rw[lG];obtain⟨g,t,k,o,f,j⟩:=qm O (nrem-(n+1)) p _ 0 ⋯ ⋯ h (λa b w l v m=>by
  have u:a=n:=by omega
  have q:b=n:=by omega
  rw[u,q];exact⟨iG O _,iG O _⟩)
 generalize run lt _=r at g t k o f j;by_cases i:r.2.2 > 0
 ·rw[b_ i];have s:(kas_rev r.1 (r.2.1-(r.2.2+1)) r.2.1).size=r.1.size:=mirror_size _ _ _ _;obtain⟨e,d⟩:=wV O (nrem:=nrem) ⋯ ⋯ ⋯ (DP.sim O f (rG O ⋯ j));exact⟨e.trans (s.trans g),d⟩
 ·rw[a_ i];obtain⟨e,d⟩:=wV O (nrem:=nrem) ⋯ ⋯ ⋯ f;exact⟨e.trans g,d⟩
theorem OQ{p:Array Nat}{nrem:Nat}(h1:1<=nrem)(hz:nrem<=p.size):iO lt p.size nrem (run lt (kas_count nrem p)):=by
 unfold kas_count;rw[lG];obtain⟨n,B,d,h⟩:=tO O _ 1 ⋯ (λi j l r=>by omega);generalize run lt _=m at n B d h;by_cases q:(m==nrem)=ah
 ·rw[b_ q];exact⟨rfl,n,by show m<=nrem;omega,d⟩
 ·rw[a_ q];have D:m≠nrem:=λz=>q (by rw[z];simp);have h:=h.resolve_left ⋯;by_cases f:m > 1
  ·rw[b_ f];show iO lt p.size nrem (run lt (if lt (g p 0) (g p _)=ah then .ret (m,p)else kas_descPart m nrem _));cases c:lt _ (g p _)with
   |true=>exact⟨rfl,n,by show m<=nrem;omega,d⟩
   |false=>
    have A:(kas_rev p 0 m).size=p.size:=mirror_size _ _ _ _;have s:∀a b,a < m->b < m->lt (g p b) (g p a)=ai:=λa b u o=>by
     simp_all
     have y:lt (g p (m-1)) (g p b)=ai:=by
      by_cases z:b=m-1
      ·rw[z];exact iG O _
      ·exact d b _ ⋯ ⋯
     have v:lt (g p b) (g p 0)=ai:=by
      by_cases z:b=0
      ·rw[z];exact iG O _
      ·exact d 0 b ⋯ o
     have C:lt _ (g p a)=ai:=O.ltr _ _ _ (by
      by_cases z:a=m-1
      ·rw[z];exact iG O _
      ·exact d a _ ⋯ ⋯) c
     exact O.ltr _ _ _ C v
    have t:∀a b,0<=a->a < m->0<=b->b < m->Sim lt _ (g p b):=λa b _ u _ o=>⟨s b a o u,s a b u o⟩;obtain⟨x,w⟩:=DX O (nrem:=nrem) n ⋯ (by simp_all) (DP.sim O (DP.snoc O (λi j l r=>s j i r ⋯) n (O.asym _ _ h)) (rG O ⋯ t));exact⟨x.trans A,w⟩
  ·rw[a_ f];have e:m=1:=by omega
   subst e;exact DX O ⋯ ⋯ hz (DP.snoc O (λi j l r=>by omega) ⋯ (O.asym _ _ h))
theorem sv{p:Array Nat}{k:Nat}(h:SP lt p k):∀f l r,l<=r->r<=k->r-l<=f->(∀i,i < l->lt (g p k) (g p i)=ai)->(∀i,r<=i->i < k->lt (g p k) (g p i)=ah)->
  rq lt p k (run lt (kas_place p k f l r))
 |0,l,r,b,m,o,j,d=>by
  have e:l=r:=by omega
  subst e;trivial
 |f+1,l,r,b,m,o,j,d=>by
  show rq lt p k (run lt (if l ≥ r then .ret l else .ask _ _ λc=>if c=ah then kas_place p k f l ((l+r) / 2)else kas_place p k f _ r));by_cases q:l ≥ r
  ·rw[b_ q];have e:l=r:=by omega
   subst e;trivial
  ·rw[a_ q];show rq lt p k (run lt (if lt (g p k) (g p _)=ah then kas_place p k f l ((l+r) / 2)else kas_place p k f _ r));cases c:lt _ (g p _)with
   |true=>
    refine sv h f l _ ⋯ ⋯ ⋯ j λi n a=>?_;by_cases e:i=(l+r) / 2
    ·rw[e];exact c
    ·cases z:lt _ (g p i)with
     |true=>rfl
     |false=>
      have:=O.ltr _ _ _ (h ((l+r) / 2) i ⋯ a) z;simp_all<;>omega
   |false=>
    refine sv h f _ r ⋯ m ⋯ (λi n=>?_) d;by_cases e:i=(l+r) / 2
    ·rw[e];exact c
    ·exact O.ltr _ _ _ (h i _ ⋯ ⋯) c
omit O
theorem yQ{p:Array Nat}{k l:Nat}(hk:k < p.size)(hl:l<=k)(i:Nat):g (bubble p k (k-l)) i=if i=l then g p k else if l < i/\i<=k then g p (i-1)else g p i:=by
 unfold g;rw[jw,getElem?_bubble hk _ ⋯,jw,jw,jw];have e:k-(k-l)=l:=by omega
 rw[e];by_cases b:i=l
 ·rw[b_ b,b_ b]
 ·rw[a_ b,a_ b];by_cases a:l < i/\i<=k
  ·rw[b_ a,b_ a]
  ·rw[a_ a,a_ a]
include O
theorem wM:∀f (p:Array Nat) k,1<=k->k+f<=p.size->SP lt p k->SP lt (run lt (kas_bin f p k)) (k+f)
 |0,p,k,t,u,h=>h
 |f+1,p,k,t,u,h=>by
  show SP lt (run lt ((kas_place p k k 0 k).bind λl=>kas_bin f _ _)) _;rw[lG];obtain⟨c,s,m⟩:=sv O h k 0 k (by simp) ⋯ ⋯ (λi q=>by omega) (λi q v=>by omega);generalize run lt _=l at c s m;have r:SP lt (bubble p k _) (k+1):=λi j b w=>by
   rw[yQ ⋯ c,yQ ⋯ c];by_cases o:j=l
   ·rw[b_ o,a_ ⋯,a_ ⋯];simp_all
   ·rw[a_ o];by_cases n:l < j/\j<=k
    ·rw[b_ n];by_cases d:i=l
     ·rw[b_ d];exact O.asym _ _ (m _ ⋯ ⋯)
     ·rw[a_ d];by_cases g:l < i/\i<=k
      ·rw[b_ g];exact h _ _ ⋯ ⋯
      ·rw[a_ g];exact h i _ ⋯ ⋯
    ·rw[a_ n,a_ ⋯,a_ ⋯];exact h i j b ⋯
  have:=wM f _ _ ⋯ (by rw[bubble_size];omega) r;have e:k+1+f=k+(f+1):=by omega
  rwa [e]at this
theorem sort_ok{n:Nat}(h1:1<=n):SP lt (run lt (kas_sort n)) n:=by
 unfold kas_sort;rw[lG];obtain⟨g,b,c,a⟩:=OQ O (p:=E7 (A9 n)) h1 (by simp);generalize run lt _=r at g b c a;have h:r.2.size=n:=by simp_all
 by_cases q:r.1 < n
 ·rw[b_ q];have e:max r.1 1=r.1:=by omega
  rw[e];have:=wM O (n-r.1) r.2 r.1 b ⋯ a;have f:r.1+(n-r.1)=n:=by omega
  rwa [f]at this
 ·rw[a_ q];have e:r.1=n:=by omega
  rw[e]at a;trivial
end
end KS
namespace KS
open PySem PySem.W PySem.Calls PyProof.Rows
section
variable{prog:A1}{w:Bh}{A:Bo}{E:Af->Ai->Prop}{s:Ai}{a:A'}{vs:List Af}
theorem ls_sort{n:Nat}{P:PySem.Fin->Ai->Prop}(ho:s.heap.get? a=ae (Ck "list" vs.toArray n))(h2:2<=vs.length)(h64:vs.length < 64)
  (h:∀e1 h',h'.get? a=ae (Ck "list" #[] e1)->(∀b o,b≠a->s.heap.get? b=ae o->h'.get? b=ae o)->
   A2 (A5 prog w) A (keyKind' vs.toArray) (λκ s'=>(kas_sort vs.length).kasWp (kas_ask prog w A κ vs)
    (λp s''=>s''.heap.get? a=ae (Ck "list" #[] e1)/\∀h3 c,C6 a s''.heap h3->h3.get? a=ae (Ck "list" (E7 (p.toList.map λi=>vs.getD i Ca)) c)->P (.done (.ret .none)) {s'' with heap:=h3}) s') (λ_ _=>False) {s with heap:=h'}):
  A2 (A5 prog w) A (Es.«list.sort» ⟨[.ref a],[]⟩) P E s:=by
 obtain⟨e1,g⟩:∃e1,(s.heap.update a _).get? a=ae (Ck "list" #[] e1):=⟨_,Fj ho λ_=>#[]⟩;have t:=h e1 (((s.heap.update a _).push (Ck "tuple" vs.toArray 0)).push (Ck "list" #[] 0)) (Ae _ (Ae _ g))
  λb o B e=>Ae _ (Ae _ (((Bf s.heap a (Dr λ_=>(#[]:Array Af))).2 b B).trans e))
 rw[list_sort_plain];refine Aa (listItems_at ho rfl (Aa (F9 ho rfl ?_ (by rw[B4,Ey];omega) ∎)));refine Aa (G8 g rfl (Aa (wpAny_newTuple ?_ (by show vs.length<=_;rw[Ey];omega))));refine Aa (wpAny_newList (Cb ?_) ∎);have f:¬vs.toArray.size < 2:=by simp<;>omega
 rw[a_ f,a_ f];refine Aa (C8 t (λκ G u=>?_) λ_ _ x=>x.elim);refine Aa (C8 (kat_run (Q:=λst' s'=>∃p:Array Nat,p.size=vs.length/\Dv st'=p.map _/\Ga st'=af/\s'.heap.get? a=ae _/\∀h3 c,C6 a s'.heap h3->h3.get? a=ae _->P _ {s' with heap:=h3})
  rfl h2 h64 (λp' st' s' F C v z=>⟨p',F,C,v,z⟩) u) ?_ λ_ _ e=>e)
 rintro⟨⟨⟩,st'⟩ s' ⟨p,y,r,D,q,k⟩
 dsimp only;have l:(E7 (p.toList.map λi=>vs.getD i Ca)).size=vs.length:=by simp<;>omega
 rw[(kat_snds rfl r)];obtain⟨m,j⟩:∃m,(s'.heap.update a _).get? a=ae (Ck "list" _ m):=⟨_,Fj q λ_=>E7 _⟩;refine Aa (G8 q rfl (Aa (F9 q rfl ?_ ∎ (A0 (Nat.le_of_eq l) (by rw[Ey];omega)))));rw[D];simp only[bne_self_eq_false,if_false];exact Aj (k _ m (Bf s'.heap a (Dr λ_=>E7 (p.toList.map λi=>vs.getD i Ca))) j)
theorem ls_short{n:Nat}{P:PySem.Fin->Ai->Prop}(ho:s.heap.get? a=ae (Ck "list" vs.toArray n))(h2:vs.length < 2)
  (h:∀h' c,h'.get? a=ae (Ck "list" vs.toArray c)->(∀b o,b≠a->s.heap.get? b=ae o->h'.get? b=ae o)->P (.done (.ret .none)) {s with heap:=h'}):
  A2 (A5 prog w) A (Es.«list.sort» ⟨[.ref a],[]⟩) P E s:=by
 obtain⟨i,g⟩:∃i,(s.heap.update a _).get? a=ae (Ck "list" #[] i):=⟨_,Fj ho λ_=>#[]⟩;have d:(((s.heap.update a _).push (Ck "tuple" vs.toArray 0)).push (Ck "list" #[] 0)).get? a=ae (Ck "list" #[] i):=Ae _ (Ae _ g);rw[list_sort_plain];refine Aa (listItems_at ho rfl (Aa (F9 ho rfl ?_ (by rw[B4,Ey];omega) ∎)));refine Aa (G8 g rfl (Aa (wpAny_newTuple ?_ (by show vs.length<=_;rw[Ey];omega))));refine Aa (wpAny_newList (Cb ?_) ∎);dsimp only;have f:vs.toArray.size < 2:=by omega
 rw[b_ f,b_ f];refine Aa (Aj (Aa (Aj ?_)));dsimp only;refine Aa (G8 d rfl (Aa (F9 d rfl ?_ (hsz2:=by rw[Ej];show(pairsOf vs).size<=_;rw[D9,Ey];omega))));simp only[bne_self_eq_false,if_false];have e:=by
  show(vs.toArray.zip vs.toArray).map (·.2)=vs.toArray;apply Gp.mp;simp;exact List.map_snd_zip (by simp)
 have k:=Bf (((s.heap.update a (Dr λ_=>(#[]:Array Af))).push (Ck "tuple" vs.toArray 0)).push (Ck "list" #[] 0)) a (Dr λ_=>(Dv (C9 general' (vs.toArray.zip vs.toArray) #[] 7 af)).map (·.2));refine Aj (h _ _ (by rw[e];exact Fj d λ_=>vs.toArray) λb o j q=>(k.2 b j).trans (Ae _ (Ae _ (((Bf s.heap a (Dr λ_=>(#[]:Array Af))).2 b j).trans q))))
theorem sorted_of{r:Af}{Q:Af->Ai->Prop}{R:List Af->Ai->Prop}(hcol:A2 (A5 prog w) A.in1 (collect r) R E s)
  (h:∀vs s1,R vs s1->vs.length<=Av/\A2 (A5 prog w) A.in1.in1 (Es.«list.sort» ⟨[.ref s1.heap.objs.size],[]⟩) (λf s2=>f=.done (.ret .none)/\Q (.ref s1.heap.objs.size) s2) E {s1 with heap:=s1.heap.push (Ck "list" vs.toArray 0)}):
  A2 (A5 prog w) A (call (.builtin "sorted") [r]) Q E s:=by
 refine Calls.call_function_entry kind_sorted plain_sorted entry_sorted (by trivial) (Aa (Aj ?_));refine Aa (C8 hcol (λvs s1 c=>?_) λ_ _ e=>e);obtain⟨b,i⟩:=h vs s1 c;refine Aa (wpAny_newList ?_ b);have a:(s1.heap.push _).get? s1.heap.objs.size=ae (Ck "list" vs.toArray 0):=Au _ rfl;refine Aa (Cb (B9 slot_list_sort ⟨_,a,rfl⟩ entry_list_sort ?body (by trivial)))
 case body=>
  refine C8 i (λf s2 d=>?_) λ_ _ e=>e;obtain⟨rfl,g⟩:=d;exact⟨_,rfl,Aj ⟨_,rfl,g⟩⟩
def ItsOk(h:Heap)(as:List A')(ks:List Str)(xs:List Af):Prop:=
 as.length=ks.length/\as.length=xs.length/\∀(j:Nat)(a:A'),as[j]?=ae a->∃k t x,ks[j]?=ae k/\xs[j]?=ae x/\h.get? a=ae {cls:=.type "tuple",data:=.seq #[.str k t,x]}
def ltK(ks:List Str)(i j:Nat):Bool:=decide ((ks.getD i ⟨#[]⟩).cps.toList < (ks.getD j ⟨#[]⟩).cps.toList)
theorem HD(x y:List Nat)(h:x < y):¬y < x:=λz=>List.lt_irrefl x (List.lt_trans h z)
theorem ordK(ks:List Str):Ord (ltK ks) where
 asym:=λi j h=>d_ (HD _ _ (e_ h))
 ltr:=λi j k b a=>by
  refine d_ λz=>?_;exact g_ z (List.not_lt.mpr (List.le_trans (List.not_lt.mp (f_ b)) (List.not_lt.mp (f_ a))))
theorem katTups{h:Heap}:∀{as:List A'}{ks:List Str}{xs:List Af},ItsOk h as ks xs->∃fs:List Af,KatTups h (as.map Co) fs/\fs.length=as.length/\∀f∈fs,∃k t,f=.str k t
 |[],ks,xs,_=>⟨[],trivial,rfl,λf c=>nomatch c⟩
 |a::as,ks,xs,I=>by
  obtain⟨e,r,d⟩:=I;obtain⟨k,t,x,s,n,l⟩:=d 0 a rfl;cases ks with
  |nil=>cases s
  |cons B ks=>
   cases xs with
   |nil=>cases n
   |cons v xs=>
    obtain⟨fs,o,g,i⟩:=katTups ⟨by simpa using e,by simpa using r,λj b q=>by
     obtain⟨p,m,u,y,A,w⟩:=d (j+1) b (by assumption);exact⟨p,m,u,by trivial⟩⟩
    refine⟨.str k t::fs,.cons l rfl rfl rfl o,by simp[g],λf c=>?_⟩;rcases Ar.mp c with rfl|z
    ·exact⟨k,t,rfl⟩
    ·exact i f z
end
section
variable{prog:A1}{w:Bh}{A:Bo}{E:Af->Ai->Prop}{s:Ai}{a:A'}{as:List A'}{ks:List Str}{xs:List Af}
theorem ask_items(hI:ItsOk s.heap as ks xs)(nd:ks.Nodup)(hx:∀x∈xs,∀(s:Ai),SeqAt.EqAt A s x x ah){i j:Nat}(hi:i < as.length)(hj:j < as.length){C:Bool->Ai->Prop}(h:C (ltK ks i j) s):
  kas_ask prog w A (tuples' ah) (as.map Co) i j C s:=by
 obtain⟨E,H,f⟩:=hI;obtain⟨b,F,r,v,g,o⟩:=f i as[i] (Ah hi);obtain⟨a,G,D,q,d,n⟩:=f j as[j] (Ah hj);unfold kas_ask;have u:(as.map Co).getD i Ca=.ref as[i]:=by simp[hi]
 have y:(as.map Co).getD j Ca=.ref as[j]:=by simp[hj]
 rw[u,y];have k:ks.getD i ⟨#[]⟩=b:=by simp[v]
 have p:ks.getD j ⟨#[]⟩=a:=by simp[q]
 have t:ltK ks i j=decide (b.cps.toList < a.cps.toList):=by unfold ltK;rw[k,p]
 rw[t]at h;refine kat_lt o rfl n rfl (kat_cons (wpAny_eqBool_str ?_));by_cases e:b=a
 ·rw[c_ e];have c:=by
   have B:i < ks.length:=by omega
   have z:j < ks.length:=by omega
   have m:ks[i]=b:=by simp_all
   have l:ks[j]=a:=by simp_all
   exact(Fo nd).mp (m.trans (e.trans l.symm))
  subst c;rw[g]at d;cases d;refine kat_yes (kat_cons (hx r (Az g) s _ _ _ _ ?_));refine kat_yes (kat_nil ?_);rw[e]at h;have:decide (a.cps.toList < a.cps.toList)=ai:=d_ (by simp);rw[this]at h;exact h
 ·rw[d_ e];exact kat_no (oneLt_str h)
end
end KS
namespace L2
open PySem PySem.Spec PyProof.Rows PySem.W
def ju(d v:A'):HO:=.ext λh=>h.get? v=ae {cls:=.type "dict_items",data:=.fields #[.ref d]}
theorem Nx{X:Cx}:si X "dict.items" (λx vs H Q=>∃d kvs,x=.ref d/\vs=[]/\H d=ae (.dK kvs)/\∀v,H v=af->Q (.ref v) (upd H v (ju d v))):=by
 intro f s σ H x r v p Q I j l h;obtain⟨d,kvs,rfl,rfl,m,q⟩:=h;cases j;cases l.zero;obtain⟨z,a,c,i,g⟩:=I.hok d _ m;refine call_meetsIn PySem.F.slot_dict_items g.typeIs PySem.F.entry_dict_items (by trivial) (meets_dict_items _ d a) ⟨⟨c,g⟩,?_⟩;have e:(s.heap.push _).get? s.heap.objs.size=ae {cls:=.type "dict_items",data:=.fields #[.ref d]}:=Au _ rfl;exact⟨.ref s.heap.objs.size,_,I.laid (o:=ju d s.heap.objs.size) (λb t=>Ae _) (by simp) ⟨e,⟨_,e⟩,λh1 n q k=>k _ q⟩,rfl,q _ (I.hok.fresh (by simp))⟩
def fj(as:List A')(ks:List Str)(xv:List V)(i:Nat):A'×Str×V:=(as.getD i 0,ks.getD i ⟨#[]⟩,xv.getD i .non)
def eW(H:Hp)(D:A')(l:List V)(as:List A')(ks:List Str)(xv:List V):Hp:=λb=>if b=D then ae (.lst l)else match as.idxOf? b with
 |some j=>ae (.tup [.str (ks.getD j ⟨#[]⟩),xv.getD j .non])
 |none=>H b
theorem q7{as:List A'}{b:A'}{j:Nat}(h:as.idxOf? b=ae j):as[j]?=ae b:=by
 obtain⟨a,_⟩:=F6.mp h;simp_all
theorem Qh{as:List A'}{b:A'}(h:as.idxOf? b=af):b∉as:=λhb=>by
 simp_all
theorem Np{as:List A'}(nd:as.Nodup){j:Nat}{a:A'}(h:as[j]?=ae a):as.idxOf? a=ae j:=by
 obtain⟨f,b⟩:=Ap.mp h;cases e:as.idxOf? a with
 |none=>exact g_ (Az h) (Qh e)
 |some i=>
  obtain⟨d,c⟩:=Ap.mp (q7 e);rw[(Fo nd).mp (c.trans b.symm)]
section
variable{X:Cx}{i_:List (A'×Obj)}{σ:St}{H:Hp}{s:Ai}
theorem xN{as:List A'}{ks:List Str}{xv:List V}{xs:List Af}{D:A'}{idx:List Nat}{h3:Heap}{tk c:Nat}{Q:VK}(I:Inv X i_ σ H s)(hk:∀b o,s.heap.get? b=ae o->h3.get? b=ae o)
  (hI:KS.ItsOk h3 as ks xs) (hx:Vals xv xs) (hup:∀a∈as,s.heap.objs.size<=a) (nd:as.Nodup) (hD:∀b o,s.heap.get? b=ae o->b≠D) (hDH:H D=af) (hDa:D∉as) (hl:as.length < 64) (hidx:idx.Perm (A9 as.length))
  (hL:h3.get? D=ae (Ck "list" (E7 (idx.map λi=>(as.map Co).getD i Ca)) c))
  (q:∀H',gN H H'->H D=af->(∀a∈as,H a=af)->H' D=ae (.lst (idx.map λi=>V.ref (fj as ks xv i).1))->(∀i∈idx,H' (fj as ks xv i).1=ae (.tup [.str (fj as ks xv i).2.1,(fj as ks xv i).2.2]))->Q (.ref D) H'):
  EP X i_ σ Q (.ref D) {s with heap:=h3,toks:=tk}:=by
 obtain⟨l1,l2,O⟩:=hI;have lx:=hx.length;have E:∀{b o},H b=ae o->b < s.heap.objs.size:=I.hok.lt;have g:∀i∈idx,i < as.length:=λi v=>Ci.mp (hidx.mem_iff.mp v);have F:idx.length=as.length:=by rw[hidx.length_eq,Er]
 have d:gN H (eW H D (idx.map λi=>V.ref (fj as ks xv i).1) as ks xv):=λb o e=>by
  unfold eW;rw[a_ (λz=>by simp_all)];cases q:as.idxOf? b with
  |none=>exact e
  |some j=>
   have:=hup b (Az (q7 q));exact g_ (E e) (Nat.not_lt.mpr this)
 have h:=by
  have:∀l:List Nat,(∀i∈l,i < as.length)->Vals (l.map λi=>V.ref (fj as ks xv i).1) (l.map λi=>(as.map Co).getD i Ca):=by
   intro l
   induction l with
   |nil=>intro _;exact .nil
   |cons i r R=>
    intro hl;have v:=hl i An;refine .cons ?_ (R λj M=>hl j (Ak _ M));show(as.map Co).getD i Ca=Co (as.getD i 0);simp[v]
  exact this idx g
 have y:HOk X.prog X.w (eW H D _ as ks xv) h3:=λb o e=>by
  by_cases C:b=D
  ·subst C;unfold eW at e;rw[b_ rfl]at e;cases e;refine⟨?_,_,c,h,hL⟩;rw[Ab];exact ej ⋯
  ·have p:=e;unfold eW at p;rw[a_ C]at p;cases B:as.idxOf? b with
   |none=>
    rw[B]at p;refine(I.hok b o p).stay (λcc u _=>hk cc u) (λcc=>d _ _) λcc W=>d _ _
   |some j=>
    rw[B]at p;cases p;obtain⟨k,t,x,Y,K,T⟩:=O j b (q7 B);have A:j < xv.length:=by
     have:=(Ap.mp K).1;omega
    have U:RelV (xv.getD j .non) x:=by
     obtain⟨u,J,ru⟩:=hx.get (Ah A);rw[K]at J;cases J;have:xv.getD j .non=xv[j]:=by simp[A]
     rw[this];omega
    have S:ks.getD j ⟨#[]⟩=k:=by simp[Y]
    exact⟨by show 2<=Av;decide,_,.cons (S▸⟨t,rfl⟩) (.cons U .nil),⟨_,T,rfl,⟨_,rfl⟩,rfl⟩⟩
 refine⟨.ref D,_,I.call' (ch:=[]) rfl ?_ y I.bare (λb C=>nomatch C),rfl,q _ d hDH (λa Z=>I.hok.fresh (hup a Z)) (by unfold eW;simp) λi v=>?_⟩
 ·refine⟨λb o e n _ _=>hk b o e,λb o e n _ _=>⟨_,hk b o e⟩,λb o e n _=>?_,λb o e _=>⟨o,hk b o e⟩,λb W=>d _ _,λb o' u=>d _ _,λb ps z=>⟨#[],d _ _ z⟩⟩;unfold eW;rw[a_ (hD b o e)];cases B:as.idxOf? b with
  |none=>exact n
  |some j=>exact g_ (Aw e) (Nat.not_lt.mpr (hup b (Az (q7 B))))
 ·have m:=g i v;have L:(fj as ks xv i).1=as[i]:=by show as.getD i 0=_;simp[m]
  have P:as[i]≠D:=λz=>hDa (z▸E2 m);rw[L];unfold eW;rw[a_ P,Np nd (Ah m)];rfl
end
def zN:List V->Hp->VK->Prop:=λxs H Q=>∃(v d:A')(ks:List Str)(xv:List V),xs=[.ref v]/\H v=ae (ju d v)/\ks.length=xv.length/\H d=ae (.dK ((ks.zip xv).map λp=>((Da p.1:aC),p.2)))/\ks.length < 64/\ks.Nodup/\xv.all gu=ah /\
 ∀(D:A')(as:List A')(idx:List Nat)(H':Hp),as.length=ks.length->idx.Perm (A9 ks.length)->(idx.map λi=>ks.getD i ⟨#[]⟩).Pairwise (λa b=>¬b.cps.toList < a.cps.toList)->gN H H'->H D=af->(∀a∈as,H a=af)->
  H' D=ae (.lst (idx.map λi=>V.ref (fj as ks xv i).1))->(∀i∈idx,H' (fj as ks xv i).1=ae (.tup [.str (fj as ks xv i).2.1,(fj as ks xv i).2.2]))->Q (.ref D) H'
theorem DZ{xs:List Af}:∀{ks:List Str}{xv:List V}{vs:List (aC×Af)},ks.length=xv.length->KV ((ks.zip xv).map λp=>((Da p.1:aC),p.2)) vs->vs.length=ks.length/\Vals xv (vs.map (·.2))/\vs.map (·.1)=ks.map (Da:Str->aC)
 |[],[],_,_,.nil=>⟨rfl,.nil,rfl⟩
 |k::ks,x::xv,_,e,.cons r b=>by
  obtain⟨d,a,c⟩:=DZ (xs:=xs) (by simp_all) b;refine⟨by simp[d],.cons r.2 a,?_⟩;rw[Bk,Bk,c,<-r.1]
theorem uU{ks:List Str}{p:Array Nat}{n:Nat}(hz:p.size=n)(h:KS.SP (KS.ltK ks) p n):(p.toList.map λi=>ks.getD i ⟨#[]⟩).Pairwise (λa b=>¬b.cps.toList < a.cps.toList):=by
 rw[Hh];intro i j e d c;rw[Ab,Bx,hz]at e d;have:=h i j c d;unfold KS.ltK KS.g at this;have k:p.getD i 0=p[i]:=by simp[hz,e]
 have f:p.getD j 0=p[j]:=by simp[hz,d]
 rw[k,f]at this;simp only[List.getElem_map];exact f_ this
theorem Jm{X:Cx}(hh:X.A.handled=af):CallR X (.builtin "sorted") zN:=by
 intro i_ s σ H xs us Q I r h;obtain⟨v,d,V,xv,rfl,hv,hl,hd,h64,nd,fl,q⟩:=h;obtain⟨u,rfl,ru⟩:=e8 r;cases(ru);obtain⟨z,hsys,F,rel,S⟩:=I.hok d _ hd;obtain⟨ep,hat⟩:=S.dictAt;obtain⟨lv,p,U⟩:=DZ (xs:=[]) hl rel;refine KS.sorted_of (R:=λvs s1=>∃(h':Heap)(tk:Nat)(g:List A'),vs=g.map Co/\s1={ s with heap:=h',toks:=tk}/\(∀b o,s.heap.get? b=ae o->h'.get? b=ae o)/\g.length=F.length/\KdxG _ F s.heap.objs.size h' g)
  (kdx_collect hh ⟨_,((I.hok v _ hv).1),rfl,rfl⟩ hat (by simp_all) λh' tk g hk hl Y=>⟨h',tk,g,rfl,rfl,hk,hl,Y⟩) ?_
 rintro vs s1 ⟨h',tk,g,rfl,rfl,hk,hla,Y⟩
 have m:=hla.trans lv;have P:KS.ItsOk h' g V (F.map (·.2)):=⟨m,by rw[Ab,hla],λj a W=>by
  obtain⟨m_,k,x,Z,e2,e3⟩:=Y.pairs j a W;have G:(F.map (·.1))[j]?=ae k:=(Am)▸Z▸rfl;rw[U,Am]at G;cases eq:V[j]? with
  |none=>rw[eq]at G;cases G
  |some k0=>
   rw[eq]at G;have hk2:=B2 G;subst hk2;rcases gi (show i0 (Da k0) m_=ah from e2)with⟨i,t,z,_⟩|⟨y,t,z,rfl⟩
   ·cases z
   ·cases z;exact⟨k0,t,x,rfl,(Am)▸Z▸rfl,e3⟩⟩
 have hup:=λa W=>Gi (Y.above a W);have ndA:=Y.rise.imp Bd;have O:=λhm=>Nat.lt_irrefl _ (Y.there hm);have E:=λb o e=>Bd (Aw (hk b o e));have hsH:=(I.hok.kept hk).fresh (Bc _);refine⟨by rw[Ab];exact ej ⋯,?_⟩;have hoL:(h'.push _).get? h'.objs.size=ae (Ck "list" (g.map Co).toArray 0):=Au _ rfl;have D:∀h4:Heap,(∀b o,b≠h'.objs.size->(h'.push (Ck "list" (g.map Co).toArray 0)).get? b=ae o->h4.get? b=ae o)->KS.ItsOk h4 g V (F.map _):=λh4 L=>⟨P.1,P.2.1,λj a W=>by
  obtain⟨k,t,x,Z,e2,e3⟩:=P.2.2 j a W;exact⟨k,t,x,Z,e2,L a _ (λz=>O (z▸Az W)) (Ae _ e3)⟩⟩
 have B:∀h4:Heap,(∀b o,b≠h'.objs.size->(h'.push (Ck "list" (g.map Co).toArray 0)).get? b=ae o->h4.get? b=ae o)->∀b o,s.heap.get? b=ae o->h4.get? b=ae o:=λh4 L b o e=>
  L b o (E b o e) (Ae _ (hk b o e))
 by_cases h2:2<=(g.map Co).length
 ·refine KS.ls_sort hoL h2 (by rw[Ab];omega) λe1 h4 K L=>?_;have N:=D h4 L;obtain⟨fs,f1,f2,f3⟩:=KS.katTups N;rw[Ab]at h2;refine kat_kind (T:=Et "str") f1 ⋯ (λf hf=>?_) rfl ?_
  ·obtain⟨k,t,rfl⟩:=f3 f hf;exact .now
  ·rw[Ab];have hn:0 < g.length:=by omega
   have hwi:=KS.wi_sort hn;refine KS.wp_run (c:=KS.ltK V) (λi j C s' hi hj hs hC=>?_) _ _ hwi rfl λs' E=>?_
   ·subst hs;refine KS.ask_items N nd (λx hx s''=>?_) hi hj (hC _ rfl);obtain⟨j,hj⟩:=Bz.mp hx;have hjl:j < xv.length:=by
     have:=(Ap.mp hj).1;rw[Ab]at this;omega
    obtain⟨u,hu,ru⟩:=p.get (Ah hjl);rw[hj]at hu;cases hu;have fx:=E4.mp fl _ (E2 hjl);have:=DJ (A:=X.A.in1.in1) (s:=s'') ru ru fx fx;have Z:gF xv[j] xv[j]=ah:=by
     cases ex:xv[j]<;>simp[gF]<;>(rw[ex]at fx;trivial)
    rw[Z]at this;omega
   ·subst E;refine⟨K,λh3 c sb hL3=>⟨rfl,?_⟩⟩;have hpm:KS.Pm g.length (KS.run (KS.ltK V) _):=KS.Wi.out _ hwi;have hidx:=by
     have:=G9.mp hpm;omega
    have k3:=λb o hb e=>(sb.2 b hb).trans (L b o hb e);exact xN (s:=s) I (B h3 k3) (D h3 k3) p hup ndA E hsH O ⋯ hidx hL3 λH'=>q _ g _ H' m (by rw[<-m];omega) (uU hpm.size (KS.sort_ok (KS.ordK V) hn))
 ·refine KS.ls_short hoL ⋯ λh4 c K L=>⟨rfl,?_⟩;rw[Ab]at h2;have el:g.map Co=(A9 g.length).map λi=>(g.map Co).getD i Ca:=by
   apply Fp (by simp);intro i h1 h2;simp at h1;simp[h1]
  rw[el]at K;refine xN (s:=s) I (B h4 L) (D h4 L) p hup ndA E hsH O ⋯ (by simp) K λH'=>q _ g _ H' m (by rw[<-m]) ?_;have:(A9 g.length).length<=1:=by simp;omega
  match hr:A9 g.length,this with
  |[],_=>exact .nil
  |[i],_=>exact Ea _ _
def TxOk(vs:List Af)(ks:List Str):Prop:=vs.length=ks.length/\∀(j:Nat) v,vs[j]?=ae v->∃k t,ks[j]?=ae k/\v=.str k t
theorem vO{vs:List Af}{ks:List Str}(h:TxOk vs ks):∀(idx:List Nat),(∀i∈idx,i < ks.length)->Vals ((idx.map λi=>ks.getD i ⟨#[]⟩).map V.str) (idx.map λi=>vs.getD i Ca)
 |[],_=>.nil
 |i::r,b=>by
  have f:=b i An;have a:i < vs.length:=by rw[h.1];omega
  obtain⟨k,t,e,c⟩:=h.2 i vs[i] (Ah a);refine .cons ⟨t,?_⟩ (vO h r λj d=>b j (Ak _ d));simp[a,e,c]
theorem CG{ks:List Str}{idx:List Nat}(h:idx.Perm (A9 ks.length)):(idx.map λi=>ks.getD i ⟨#[]⟩).Perm ks:=by
 have b:=h.map λi=>ks.getD i (⟨#[]⟩:Str);have a:(A9 ks.length).map (λi=>ks.getD i (⟨#[]⟩:Str))=ks:=by
  apply Fp (by simp);intro i b a;simp[a]
 rw[a]at b;omega
def EA:List V->Hp->VK->Prop:=λxs H Q=>∃(d:A')(l:List (aC×V))(ks:List Str),xs=[.ref d]/\H d=ae (.dK l)/\l.map (·.1)=ks.map (Da:Str->aC)/\ks.length < 64 /\
 ∀(D:A')(ys:List Str),ys.Perm ks->ys.Pairwise (λa b=>¬b.cps.toList < a.cps.toList)->H D=af->Q (.ref D) (upd H D (.lst (ys.map V.str)))
theorem zi{l:List (aC×V)}{vs:List (aC×Af)}(h:KV l vs):vs.map (·.1)=l.map (·.1):=by
 induction h with
 |nil=>rfl
 |cons r _ a=>rw[Bk,Bk,a,r.1]
theorem Kv{X:Cx}(hh:X.A.handled=af):CallR X (.builtin "sorted") EA:=by
 intro E s σ H xs us Q I r h;obtain⟨d,l,n,rfl,hd,hk,h64,q⟩:=h;obtain⟨u,rfl,ru⟩:=e8 r;cases(ru);obtain⟨z,M,vs',rel,F⟩:=I.hok d _ hd;obtain⟨ep,hat⟩:=F.dictAt;have p:=(zi rel).trans hk;have L:=by have:=congrArg Dy p;simpa using this
 refine KS.sorted_of (R:=λvs s1=>∃(h':Heap)(J:Nat),s1={ s with heap:=h',toks:=J}/\(∀b o,s.heap.get? b=ae o->h'.get? b=ae o)/\TxOk vs n)
  (kdu_collect (kdl_dict M) hh hat (ej ⋯) λh' J j_ hk' hI=>⟨h',J,rfl,hk',?_⟩) ?_
 ·refine⟨by rw[Bx,hI.1,L],λj v N=>?_⟩;obtain⟨k,x,e1,e2⟩:=hI.2 j v (by simp_all);have B:(vs'.map (·.1))[j]?=ae k:=(Am)▸e1▸rfl;rw[p,Am]at B;cases eq:n[j]? with
  |none=>rw[eq]at B;cases B
  |some k0=>
   rw[eq]at B;have hk2:=B2 B;subst hk2;rcases gi (show i0 (Da k0) v=ah from e2)with⟨i,t,z,_⟩|⟨y,t,z,rfl⟩
   ·cases z
   ·cases z;simp
 rintro vs s1 ⟨h',J,rfl,hkp,K⟩
 have hl:=K.1;refine⟨hl▸ej ⋯,?_⟩;have V:(h'.push _).get? h'.objs.size=ae (Ck "list" vs.toArray 0):=Au _ rfl;have U:∀(idx:List Nat) h3 c,idx.Perm _->(idx.map λi=>n.getD i _).Pairwise _->
   (∀b o,b≠h'.objs.size->(h'.push (Ck "list" vs.toArray 0)).get? b=ae o->h3.get? b=ae o)->h3.get? h'.objs.size=ae _->EP X E σ Q _ {s with heap:=h3,toks:=J}:=λidx h3 c hp hw k3 hL=>by
  have I1:Inv X E σ H {s with heap:=h',toks:=J}:=I.kept hkp;have Z:=I1.hok.fresh (Bc _);refine⟨.ref h'.objs.size,_,I1.laid (o:=.lst _) (λb o e=>k3 b o (Bd (Aw e)) (Ae _ e)) (by simp) ⟨?_,_,c,vO K idx (λi Y=>Ci.mp (hp.mem_iff.mp Y)),hL⟩,rfl,q _ _ (CG hp) hw Z⟩;rw[Ab,Ab,hp.length_eq,Er];exact ej ⋯
 by_cases h2:2<=vs.length
 ·refine KS.ls_sort V h2 ⋯ λe1 h4 P k4=>kas_kind (T:=Et "str") h2 (λf hf=>?_) rfl rfl ?_
  ·obtain⟨j,N⟩:=Bz.mp hf;obtain⟨k,t,_,rfl⟩:=K.2 j f N;exact .now
  ·have Z:0 < vs.length:=by omega
   have W:=KS.wi_sort Z;refine KS.wp_run (c:=KS.ltK n) (St:=λs'=>s'={ s with heap:=h4,toks:=J}) (λi j C s' Y N hs hC=>?_) _ _ W rfl λs' hs'=>?_
   ·subst hs;obtain⟨k1,t1,a1,a2⟩:=K.2 i vs[i] (Ah Y);obtain⟨k2,t2,b1,b2⟩:=K.2 j vs[j] (Ah N);unfold kas_ask;have g1:vs.getD i Ca=.str k1 t1:=by simp[Y,a2]
    have g2:vs.getD j Ca=.str k2 t2:=by simp[N,b2]
    rw[g1,g2];have c1:n.getD i ⟨#[]⟩=k1:=by simp[a1]
    have c2:n.getD j ⟨#[]⟩=k2:=by simp[b1]
    have:=hC _ rfl;unfold KS.ltK at this;rw[c1,c2]at this;exact kas_lt_str this
   ·subst hs';refine⟨P,λh3 c sb hL3=>⟨rfl,?_⟩⟩;have O:KS.Pm vs.length (KS.run (KS.ltK n) _):=KS.Wi.out _ W;have hidx:=by
     have:=G9.mp O;omega
    refine U _ h3 c (by grind) (uU O.size (KS.sort_ok (KS.ordK n) Z)) (λb o hb e=>(sb.2 b hb).trans (k4 b o hb e)) hL3
 ·refine KS.ls_short V ⋯ λh4 c P k4=>⟨rfl,?_⟩;have el:vs=(A9 n.length).map λi=>vs.getD i Ca:=by
   apply Fp (by simp[hl]);intro i h1 h2;simp[h1]
  have ha5:h4.get? h'.objs.size=ae (Ck "list" (E7 ((A9 n.length).map λi=>vs.getD i Ca)) c):=by rw[<-el];omega
  refine U _ h4 c (by simp) ?_ k4 ha5;have:(A9 n.length).length<=1:=by simp;omega
  match hr:A9 n.length,this with
  |[],_=>exact .nil
  |[i],_=>exact Ea _ _
end L2
namespace L2
open PySem PySem.Spec PyProof.Rows
section
variable{prog:A1}{w:Bh}{A:Bo}{E:Af->Ai->Prop}{s:Ai}
theorem sL{it t:A'}{i:Nat}{items:Array Af}{x:Af}{Q:Af->Ai->Prop}(hit:s.heap.IsTupleIter it t i)(ht:s.heap.IsTuple t items)(hx:items[i]?=ae x)
  (hQ:∀h',h'.IsTupleIter it t (i+1)->C6 it s.heap h'->Q x {s with heap:=h'}):A2 (A5 prog w) A (Builtin.SmallTypes.nextOf (.ref it)) Q E s:=by
 obtain⟨o,b,e,a⟩:=id hit;obtain⟨f,c,_,g,d⟩:=ht;refine Aa (Bt hit.typeIs Fx
  (B9 Fx hit.typeIs F.entry_tuple_iterator_next ?_ (by trivial)))
 show A2 _ _ (field _ 0>>=_) _ _ s;refine Aa (Dn b a (x:=.ref t) rfl (Aa (Dn b a rfl ?_)));refine Aa (Dz c d ?_);simp only[Cz,hx];refine Aa (C7 b a (by simp) (Aj ⟨x,rfl,Aj (hQ _ ?_ (Bf ..))⟩));exact⟨_,Bv _ b (Dg (B5 a _)),(Eu ..).trans e,by
  rw[B5 a];rfl⟩
theorem CY{it t:A'}{i:Nat}{items:Array Af}{Q:Af->Ai->Prop}(hh:A.handled=af)(hit:s.heap.IsTupleIter it t i)(ht:s.heap.IsTuple t items)(hx:items[i]?=af)
  (hE:∀h' e,Heap.ExtBut it s.heap h'->(∃o,h'.get? e=ae o/\o.cls=.type "StopIteration")->E (.ref e) {s with heap:=h'}):
  A2 (A5 prog w) A (Builtin.SmallTypes.nextOf (.ref it)) Q E s:=by
 obtain⟨o,a,g,b⟩:=id hit;obtain⟨f,c,_,h,d⟩:=ht;refine Aa (Bt hit.typeIs Fx
  (B9 Fx hit.typeIs F.entry_tuple_iterator_next ?_ (F.args_tuple_iterator_next_1 _)))
 show A2 _ _ (field _ 0>>=_) _ _ s;refine Aa (Dn a b (x:=.ref t) rfl (Aa (Dn a b rfl ?_)));refine Aa (Dz c d ?_);simp only[Cz,hx];refine Aa (Fg (Aa (C7 a b (by simp) (Aa ?_))));refine Aa (B8 (Aa (G6 (by rfl) ?_)) (by size_fits));refine B8 (Aa (wpAny_handled ?_)) (by size_fits)
 first|rw[hh]|rw[hh]
 exact Aa (Aj (wpAny_throw (hE _ _ (((Bf ..).extBut.push _).push _) ⟨_,Au _ rfl,rfl⟩)))
theorem Jp{z TI TO i1 i2 l1 l2:A'}{k:Nat}{xs ys:Array Af}{x y a b:Af}{Q:Af->Ai->Prop}(D:ZipApart z TI TO i1 i2 l1 l2)
  (hz:IsZip s.heap z TI TO .none) (hTI:Gu s.heap TI (.ref i1) (.ref i2)) (hTO:Gu s.heap TO a b)
  (h1:s.heap.IsTupleIter i1 l1 k) (h2:s.heap.IsTupleIter i2 l2 k) (hl1:s.heap.IsTuple l1 xs) (hl2:s.heap.IsTuple l2 ys) (hx:xs[k]?=ae x) (hy:ys[k]?=ae y)
  (hQ:∀h',IsZip h' z TI TO (D6 s.heap.objs.size)->Gu h' TO x y->h'.IsTupleIter i1 l1 (k+1)->h'.IsTupleIter i2 l2 (k+1)->Gu h' s.heap.objs.size x y->h'.objs.size=s.heap.objs.size+1->
   (∀c o,c≠z->c≠TO->c≠i1->c≠i2->s.heap.get? c=ae o->h'.get? c=ae o)->Q (.ref s.heap.objs.size) {s with heap:=h'}):
  A2 (A5 prog w) A (Es.«zip.__next__» ⟨[.ref z],[]⟩) (λfin s'=>∃v,fin=.done (.ret v)/\Q v s') E s:=by
 show A2 _ _ (field _ 2>>=_) _ _ _;refine Aa (Dn hz rfl (x:=.bool ai) rfl (Aa (Dn hz rfl rfl ?_)));refine Aa (Dz hTI rfl (Aa ?_));refine Aa (Dn hz rfl rfl (Aj (Aa (Fg ?_))));refine Aa (Dn hz rfl rfl (Aa (Gf hz (by simp) λg1 f g=>?_)))
 replace f:IsZip g1 z TI TO .ellipsis:=f
 refine Aa (Aa (Aa (wpAny_onRaise ?_)));refine Aa (sL (h1.extBut g.extBut D.i1z) (hl1.extBut g.extBut D.l1z) hx λg2 T i=>Aj ?_);have N:=i.extBut _ _ D.TOi1 (g.extBut _ _ D.TOz hTO);refine Aa (Dz N rfl (Aa (wpAny_updateSeq_pair N λg3 u j=>?_)))
 replace u:Gu g3 TO x b:=u
 refine Aa (wpAny_letGo (Aj (Aa (Aa (wpAny_onRaise ?_)))));refine Aa (sL (((h2.extBut g.extBut D.i2z).extBut i.extBut D.i12.symm).extBut j.extBut D.TOi2.symm)
  (((hl2.extBut g.extBut D.l2z).extBut i.extBut D.l2i1).extBut j.extBut D.l2TO) hy λg4 S n=>Aj ?_)
 have K:=n.extBut _ _ D.TOi2 u;refine Aa (Dz K rfl (Aa (wpAny_updateSeq_pair K λg5 q m=>?_)))
 replace q:Gu g5 TO x y:=q
 refine Aa (wpAny_letGo (Aj (Aj (Aa (Dz q rfl ?_)))));refine Aa (wpAny_newTuple ?_);have O:g5.objs.size=s.heap.objs.size:=by rw[m.1,n.1,j.1,i.1,g.1]
 have J:=m.extBut _ _ D.TOz.symm (n.extBut _ _ D.i2z.symm (j.extBut _ _ D.TOz.symm (i.extBut _ _ D.i1z.symm f)));have P:∀c o,c≠z->c≠TO->c≠i1->c≠i2->s.heap.get? c=ae o->g5.get? c=ae o:=λc o d r H G e=>
  m.extBut _ _ r (n.extBut _ _ G (j.extBut _ _ r (i.extBut _ _ H (g.extBut _ _ d e))))
 have l:=Aw J;refine Aa ?_;have R:IsZip (g5.push {cls:=.type "tuple",data:=.seq #[x,y]}) z TI TO .ellipsis:=Ae _ J;refine Aa (Gf R (by simp) λg7 I C=>?_)
 replace I:IsZip g7 z TI TO (D6 g5.objs.size):=I
 refine Gf I (by simp) λg8 p F=>?_
 replace p:IsZip g8 z TI TO (D6 g5.objs.size):=p
 have t:∀c o,c≠z->g5.get? c=ae o->g8.get? c=ae o:=λc o d e=>F.extBut _ _ d (C.extBut _ _ d (Ae _ e));have M:=F.extBut _ _ (Ft l) (C.extBut _ _ (Ft l) (Au _ rfl));have L:g8.objs.size=g5.objs.size+1:=by rw[F.1,C.1,Cp]
 rw[O]at p M L;refine Aj ⟨_,rfl,?_⟩;rw[O];exact hQ g8 p (t _ _ D.TOz q) ((((T.extBut j.extBut D.TOi1.symm).extBut n.extBut D.i12).extBut m.extBut D.TOi1.symm).at λo=>t _ o D.i1z) ((S.extBut m.extBut D.TOi2.symm).at λo=>t _ o D.i2z) M L λc o d r H G e=>t c o d (P c o d r H G e)
theorem Ru{z TI TO i1 i2 l1 l2:A'}{k:Nat}{xs:Array Af}{Q:Fin->Ai->Prop}(hh:A.handled=af)(D:ZipApart z TI TO i1 i2 l1 l2)
  (hz:IsZip s.heap z TI TO .none) (hTI:Gu s.heap TI (.ref i1) (.ref i2)) (h1:s.heap.IsTupleIter i1 l1 k) (hl1:s.heap.IsTuple l1 xs) (hx:xs[k]?=af)
  (hE:∀h' e,(∀c o,c≠z->c≠i1->s.heap.get? c=ae o->h'.get? c=ae o)->(∃o,h'.get? e=ae o/\o.cls=.type "StopIteration")->E (.ref e) {s with heap:=h'}):
  A2 (A5 prog w) A (Es.«zip.__next__» ⟨[.ref z],[]⟩) Q E s:=by
 show A2 _ _ (field _ 2>>=_) _ _ _;refine Aa (Dn hz rfl (x:=.bool ai) rfl (Aa (Dn hz rfl rfl ?_)));refine Aa (Dz hTI rfl (Aa ?_));refine Aa (Dn hz rfl rfl (Aj (Aa (Fg ?_))));refine Aa (Dn hz rfl rfl (Aa (Gf hz (by simp) λg1 b g=>?_)))
 replace b:IsZip g1 z TI TO .ellipsis:=b
 refine Aa (Aa (Aa (wpAny_onRaise ?_)));refine Aa (CY hh (h1.extBut g.extBut D.i1z) (hl1.extBut g.extBut D.l1z) hx λg2 e j m=>?_);obtain⟨n,a,d⟩:=m;have i:=j _ _ D.i1z.symm b;have f:e≠z:=λx=>by grind
 refine Gf i (by simp) λg3 _ l=>hE g3 e (λc o h p x=>l.extBut _ _ h (j _ _ p (g.extBut _ _ h x))) ⟨n,l.extBut _ _ f a,d⟩
theorem HZ{z TI TO i1 i2 l1 l2:A'}{k:Nat}{xs ys:Array Af}{x y a b:Af}{Q:Option Af->Ai->Prop}(D:ZipApart z TI TO i1 i2 l1 l2)
  (hz:IsZip s.heap z TI TO .none) (hTI:Gu s.heap TI (.ref i1) (.ref i2)) (hTO:Gu s.heap TO a b)
  (h1:s.heap.IsTupleIter i1 l1 k) (h2:s.heap.IsTupleIter i2 l2 k) (hl1:s.heap.IsTuple l1 xs) (hl2:s.heap.IsTuple l2 ys) (hx:xs[k]?=ae x) (hy:ys[k]?=ae y)
  (hQ:∀h',IsZip h' z TI TO (D6 s.heap.objs.size)->Gu h' TO x y->h'.IsTupleIter i1 l1 (k+1)->h'.IsTupleIter i2 l2 (k+1)->Gu h' s.heap.objs.size x y->h'.objs.size=s.heap.objs.size+1->
   (∀c o,c≠z->c≠TO->c≠i1->c≠i2->s.heap.get? c=ae o->h'.get? c=ae o)->Q (ae (.ref s.heap.objs.size)) {s with heap:=h'}):
  A2 (A5 prog w) A (pyNext (.ref z)) Q E s:=by
 have d:s.TypeIs (.ref z) "zip":=⟨_,hz,rfl⟩;exact Aa (En (Bt d F.slot_zip_next
  (B9 F.slot_zip_next d F.entry_zip_next
   (Jp D hz hTI hTO h1 h2 hl1 hl2 hx hy λh' h f e j g i l=>Aj (hQ h' h f e j g i l)) (by trivial))))
theorem Lj{z TI TO i1 i2 l1 l2:A'}{k:Nat}{xs:Array Af}{Q:Option Af->Ai->Prop}(hh:A.handled=af)(D:ZipApart z TI TO i1 i2 l1 l2)
  (hz:IsZip s.heap z TI TO .none) (hTI:Gu s.heap TI (.ref i1) (.ref i2)) (h1:s.heap.IsTupleIter i1 l1 k) (hl1:s.heap.IsTuple l1 xs) (hx:xs[k]?=af)
  (hQ:∀h',(∀c o,c≠z->c≠i1->s.heap.get? c=ae o->h'.get? c=ae o)->Q af {s with heap:=h'}):A2 (A5 prog w) A (pyNext (.ref z)) Q E s:=by
 have a:s.TypeIs (.ref z) "zip":=⟨_,hz,rfl⟩;refine Aa (En (Bt a F.slot_zip_next
  (B9 F.slot_zip_next a F.entry_zip_next (Ru hh D hz hTI h1 hl1 hx λh' e g f=>?_) (by trivial))))
 obtain⟨o,d,b⟩:=f;exact Aa (E8 ⟨o,d,b⟩ isSubtype_stop (Aj (hQ _ g)))
end
abbrev pP(h:Heap)(l1:A'):Heap:=h.push {cls:=.type "tuple_iterator",data:=.fields #[.ref l1,.int 0 0]}
abbrev oV(h:Heap)(l1 l2:A'):Heap:=(pP h l1).push {cls:=.type "tuple_iterator",data:=.fields #[.ref l2,.int 0 0]}
abbrev ph(h:Heap)(l1 l2:A'):Heap:=(oV h l1 l2).push {cls:=.type "tuple",data:=.seq #[.ref h.objs.size,.ref (pP h l1).objs.size]}
abbrev oY(h:Heap)(l1 l2:A'):Heap:=(ph h l1 l2).push {cls:=.type "tuple",data:=.seq #[.none,.none]}
abbrev lB(h:Heap)(l1 l2:A'):Heap:=(oY h l1 l2).push {cls:=.type "zip",data:=.fields #[.none,.bool ai,.bool ai,.ref (oV h l1 l2).objs.size,.ref (ph h l1 l2).objs.size]}
theorem PX(l1 l2:A')(xs ys:Array Af):
  Meets (Es.«zip.__new__» ⟨[.type "zip",.ref l1,.ref l2],[]⟩) (λ_ R s=>s.heap.IsTuple l1 xs/\s.heap.IsTuple l2 ys /\
   R (.ok (.ret (.ref (oY s.heap l1 l2).objs.size))) {s with heap:=lB s.heap l1 l2}):=
 .of_wp λprog w A R s h=>by
  obtain⟨k,g,d,m,j⟩:=s;obtain⟨f,e,h⟩:=h;have i:=sub_zip;have c:Heap.IsTuple (Shared.heap ⟨k.push {cls:=.type "tuple_iterator",data:=.fields #[.ref l1,.int 0 0]},g,d,m,j⟩) l2 ys:=Heap.IsTuple.push e _
  wp_walk using D8 f,D8 c
  exact⟨_,rfl,h⟩
section
variable{prog:A1}{w:Bh}{A:Bo}{E:Af->Ai->Prop}{s:Ai}
theorem Ny{l1 l2:A'}{xs ys:Array Af}{Q:Af->Ai->Prop}(hl1:s.heap.IsTuple l1 xs)(hl2:s.heap.IsTuple l2 ys)
  (h:∀h',IsZip h' (s.heap.objs.size+4) (s.heap.objs.size+2) (s.heap.objs.size+3) .none->Gu h' (s.heap.objs.size+2) (.ref s.heap.objs.size) (.ref (s.heap.objs.size+1))->
   Gu h' (s.heap.objs.size+3) .none .none->h'.IsTupleIter s.heap.objs.size l1 0->h'.IsTupleIter (s.heap.objs.size+1) l2 0->
   (∀c o,s.heap.get? c=ae o->h'.get? c=ae o)->Q (.ref (s.heap.objs.size+4)) {s with heap:=h'}):
  A2 (A5 prog w) A (call (.type "zip") [.ref l1,.ref l2]) Q E s:=by
 refine callType_new F.called_zip ∎ (F.typeCall_zip_2 _ _) (F.newCall_zip_2 _ _) (λobj=>F.args_object_init_3 obj _ _) F.entry_zip_new
  (PX l1 l2 xs ys) ⟨hl1,hl2,?_⟩
 have e:(pP s.heap l1).objs.size=s.heap.objs.size+1:=Cp ..;have b:(oV s.heap l1 l2).objs.size=s.heap.objs.size+2:=by rw[Cp,e]
 have g:(ph s.heap l1 l2).objs.size=s.heap.objs.size+3:=by rw[Cp,b]
 have n:(oY s.heap l1 l2).objs.size=s.heap.objs.size+4:=by rw[Cp,g]
 have k:(lB s.heap l1 l2).get? (oY s.heap l1 l2).objs.size=ae _:=Au _ rfl;have l:(lB s.heap l1 l2).get? (ph s.heap l1 l2).objs.size=ae _:=Ae _ (Au _ rfl);have m:(lB s.heap l1 l2).get? (oV s.heap l1 l2).objs.size=ae _:=Ae _ (Ae _ (Au _ rfl));have p:(lB s.heap l1 l2).get? (pP s.heap l1).objs.size=ae _:=Ae _ (Ae _ (Ae _ (Au _ rfl)));have r:(lB s.heap l1 l2).get? s.heap.objs.size=ae _:=Ae _ (Ae _ (Ae _ (Ae _ (Au _ rfl))));rw[b,g,n]at k;rw[e,b]at m;rw[g]at l;rw[e]at p;rw[n];exact⟨⟨_,k,rfl⟩,h _ k m l ⟨_,r,rfl,rfl⟩ ⟨_,p,rfl,rfl⟩ λc o x=>
  Ae _ (Ae _ (Ae _ (Ae _ (Ae _ x))))⟩
end
def CK(K:Ag)(a b:A'):It:=
 ⟨λi H=>∃xs ys x y,SqT K H a xs/\SqT K H b ys/\xs[i]?=ae x/\ys[i]?=ae y,
  λi H v H'=>∃T x y,v=.ref T/\H T=af/\H'=upd H T (.tup [x,y])/\(∀xs,SqT K H a xs->xs[i]?=ae x)/\∀ys,SqT K H b ys->ys[i]?=ae y,
  λi H=>∃xs,SqT K H a xs/\xs.length<=i⟩
theorem Inv.many{X:Cx}{i_:List (A'×Obj)}{σ:St}{H:Hp}{s:Ai}{h':Heap}{t':Nat}{fp:List A'}{a:A'}{o:HO}(I:Inv X i_ σ H s)(hf:∀b∈fp,cJ X i_ H b)(k:∀b u,b∉fp->s.heap.get? b=ae u->h'.get? b=ae u)
  (ha:s.heap.objs.size<=a) (new:ObjOk X.prog X.w (upd H a o) h' a o):Inv X i_ σ (upd H a o) {s with heap:=h',toks:=t'}:=by
 have d:=I.hok.fresh ha;have f:∀b u,H b=ae u->b∉fp:=λb u e z=>by rw[(hf b z).1]at e;cases e
 refine I.call' rfl ⟨λb u q _ _ z=>k b u z q,λb u q _ _ z=>⟨_,k b u z q⟩,λb u q n _=>?_,λb u q z=>⟨u,k b u z q⟩,λb i q=>?_,λb u i q=>?_,λb r q=>⟨#[],?_⟩⟩ (λb u e=>?_) I.bare (λb j=>?_)
 ·rw[aH (Bd (Bn (Aw q) ha))];exact n
 ·rw[aH (bu q d)];exact q
 ·rw[aH (bu q d)];exact q
 ·rw[aH (bu q d),q];simp
 ·by_cases z:b=a
  ·subst z;rw[a9]at e;cases e;omega
  ·rw[aH z]at e;refine(I.hok b u e).stay (λc v m=>k c v ?_) (λc q=>?_) λc y q=>?_
   ·rcases m with z|z
    ·rw[z];exact f b u e
    ·exact f c _ z
   ·rw[aH (bu q d)];exact q
   ·rw[aH (bu q d)];exact q
 ·obtain⟨x,h,t,g,p,l⟩:=hf b j;exact⟨g,h,p,l⟩
theorem Inv.many0{X:Cx}{i_:List (A'×Obj)}{σ:St}{H:Hp}{s:Ai}{h':Heap}{t':Nat}{fp:List A'}(I:Inv X i_ σ H s)(hf:∀b∈fp,cJ X i_ H b)(k:∀b u,b∉fp->s.heap.get? b=ae u->h'.get? b=ae u):Inv X i_ σ H {s with heap:=h',toks:=t'}:=by
 have a:∀b u,H b=ae u->b∉fp:=λb u e z=>by rw[(hf b z).1]at e;cases e
 refine I.call' rfl ⟨λb u q _ _ z=>k b u z q,λb u q _ _ z=>⟨_,k b u z q⟩,λb u q n _=>n,λb u q z=>⟨u,k b u z q⟩,λb g q=>q,λb u g q=>q,λb m q=>⟨#[],by rw[q];simp⟩⟩ (λb u e=>?_) I.bare (λb h=>?_)
 ·refine(I.hok b u e).stay (λc v j=>k c v ?_) (λc q=>q) λc r q=>q;rcases j with z|z
  ·rw[z];exact a b u e
  ·exact a c _ z
 ·obtain⟨p,f,o,d,l,i⟩:=hf b h;exact⟨d,f,l,i⟩
theorem Of{P:A1}{w:Bh}{K:Ag}{elts:List Expr}{kk:Nat}{pos:Pos}{a b z TI TO i1 i2:A'}(D:ZipApart z TI TO i1 i2 a b):Turn P w K (.Tuple elts kk pos) (CK K a b) [z,TI,TO,i1,i2] z
  (λi h=>IsZip h z TI TO .none/\Gu h TI (.ref i1) (.ref i2)/\(∃x y,Gu h TO x y)/\h.IsTupleIter i1 a i/\h.IsTupleIter i2 b i) where
 mem:=by simp
 obj:=λi h j c d=>by
  obtain⟨g,f,⟨x,y,l⟩,⟨o1,e1,c1,d1⟩,⟨o2,e2,c2,d2⟩⟩:=j;simp only[Ar,A8,h_]at d;rcases d with rfl|rfl|rfl|rfl|rfl
  ·exact⟨_,g,λv q=>by trivial⟩
  ·exact⟨_,f,λv q=>by trivial⟩
  ·exact⟨_,l,λv q=>by trivial⟩
  ·exact⟨o1,e1,λv q=>by simp_all⟩
  ·exact⟨o2,e2,λv q=>by simp_all⟩
 keep:=λi h h' j k=>by
  obtain⟨g,f,⟨x,y,l⟩,m,r⟩:=j;exact⟨k z (by simp) _ g,k TI (by simp) _ f,⟨x,y,k TO (by simp) _ l⟩,m.at (k i1 (by simp)),r.at (k i2 (by simp))⟩
 item:=by
  intro X O Q G d i t s σ H E I A j J;subst O Q G;obtain⟨g,f,⟨x0,y0,l⟩,m,r⟩:=j;obtain⟨xs,ys,x,y,S,R,U,ey⟩:=J;obtain⟨F,C,p,_⟩:=I.tuple S;obtain⟨Y,B,p',_⟩:=I.tuple R;obtain⟨u,hu,ru⟩:=C.get U;obtain⟨u',N,L⟩:=B.get ey;refine HZ D g f l m r (p) (p') (by simpa using hu) (by simpa using N) λh' a1 a2 a3 a4 a5 a6 T=>⟨_,rfl,wpAny_letOwnedTupleGo_zip a1 λh'' b1 n=>?_⟩;have V:∀c o,c∉[z,TI,TO,i1,i2]->s.heap.get? c=ae o->h''.get? c=ae o:=λc o d e=>by
   simp only[Ar,A8,h_,not_or]at d;exact n.extBut _ _ d.1 (T c o d.1 d.2.2.1 d.2.2.2.1 d.2.2.2.2 e)
  refine⟨.ref s.heap.objs.size,upd H s.heap.objs.size (.tup [x,y]),I.many A V (by simp) ⟨by show 2<=Av;decide,[u,u'],.cons ru (.cons L .nil),_,(n.extBut _ _ (Ft (Aw g)) a5),rfl,⟨_,rfl⟩,rfl⟩,rfl,⟨_,x,y,rfl,(I.hok.fresh (by simp)),rfl,λzs q=>by rw[I.tuple_inj q S];exact U,λzs q=>by rw[I.tuple_inj q R];omega⟩,
   ⟨b1,n.extBut _ _ D.TIz (T _ _ D.TIz D.TITO D.TIi1 D.TIi2 f),⟨_,_,n.extBut _ _ D.TOz a2⟩,a3.extBut n.extBut D.i1z,a4.extBut n.extBut D.i2z⟩,λc d=>?_⟩
  have M:c < s.heap.objs.size:=by
   simp only[Ar,A8,h_]at d;rcases d with rfl|rfl|rfl|rfl|rfl
   ·exact Aw g
   ·exact Aw f
   ·exact Aw l
   ·obtain⟨_,e,_⟩:=m;exact Aw e
   ·obtain⟨_,e,_⟩:=r;exact Aw e
  rw[aH (Bd M)];exact(A c d).1
 done:=by
  intro X O Q G d i t s σ H E I A j J;subst O Q G;obtain⟨g,f,_,m,r⟩:=j;obtain⟨xs,Z,hx⟩:=J;obtain⟨F,C,p,_⟩:=I.tuple Z;have hl:=C.length;refine Lj (I.ok.hd d) D g f m (p) (by simp;omega) λh' k=>⟨rfl,I.many0 A λc o d e=>?_⟩;simp_all
 self:=λ_ _ _ _ _ j=>wpAny_pyIter_zip j.1
def n7(K:Ag)(ta:TA):TI:=λσ H R=>ta σ H λvs H1=>∃a b,vs=[.ref a,.ref b]/\(∃xs,SqT K H1 a xs)/\(∃ys,SqT K H1 b ys)/\R (CK K a b) H1
theorem J8:Bw "zip"=ae (.type "zip"):=by rfl
theorem Kt{X:Cx}{elts:List Expr}{kk:Nat}{tpos:Pos}{e1 e2:Expr}{ta:TA}{p pos:Pos}(hg:Gl X "zip")(hm:X.mg "zip"=af)(ha:PA X [e1,e2] ta)(hs:Aq [e1,e2] X.env=[(ai,eval e1 X.env),(ai,eval e2 X.env)]:=by rfl)(hs2:Aq [e2] X.env=[(ai,eval e2 X.env)]:=by rfl):
  PI X (.Tuple elts kk tpos) (.Call (.Name "zip" p) [e1,e2] [] pos) (n7 X.K ta):=by
 intro i s σ H R I h;refine Call_ (k9 I hg hm J8 (E5 (aL (ha pos i s σ H _ I h) λus k p=>?_) (by simp_all) (hs2▸rfl)));obtain⟨L,v,d,z,o⟩:=p;obtain⟨a,b,e,⟨M,G⟩,⟨O,C⟩,q⟩:=o;subst e;cases z with
 |cons r j=>
  cases j with
  |cons y j=>
   cases j;cases r;cases y;obtain⟨A,J,l,_⟩:=d.tuple G;obtain⟨n,u,f,_⟩:=d.tuple C;have x:a < k.heap.objs.size:=by obtain⟨_,e,_⟩:=id l;exact Aw e
   have B:b < k.heap.objs.size:=by obtain⟨_,e,_⟩:=id f;exact Aw e
   refine Ny (l) (f) λh' m D t w E F=>wpAny_pyIter_zip m ⟨_,_,_,_,v,rfl,d.kept F,Of (zipApart_new x B),⟨m,D,⟨_,_,t⟩,w,E⟩,λc N=>?_,q⟩;have g:k.heap.objs.size<=c:=by
    grind
   exact d.fpOk g (d.hok.fresh g)
end L2
namespace DL
open PySem L2 Nb
def bA(kvs:List (aC×Ad))(k:aC):Option Ad:=(kvs.find? λkv=>decide (kv.1=k)).map (·.2)
def eu(kvs:List (aC×Ad))(k:aC)(v:Ad):List (aC×Ad):=
 if (kvs.any λkv=>decide (kv.1=k))=ah then kvs.map (λkv=>if kv.1=k then(kv.1,v)else kv)else kvs++[(k,v)]
def pX(kvs more:List (aC×Ad)):List (aC×Ad):=more.foldl (λj_ kv=>eu j_ kv.1 kv.2) kvs
section
variable{H H':Hp}{B B':A'->Prop}{l:List (aC×V)}{m:List (aC×Ad)}{v:V}{d:Ad}{t:A'}
theorem RdK.len(h:RdK H B l m):l.length=m.length:=by
 induction h with
 |nil=>rfl
 |cons _ _ a=>rw[Ax,Ax,a]
theorem RdK.val(h:RdK H B l m)(k:aC):(b3 l k=af/\bA m k=af)\/∃v d,b3 l k=ae v/\bA m k=ae d/\RdX H B v d:=by
 induction h with
 |nil=>exact .inl ⟨rfl,rfl⟩
 |@cons p q b a r _ i=>
  by_cases e:p.1=k
  ·have g:=r.1▸e;exact .inr ⟨p.2,q.2,by simp[b3,e],by simp[bA,g],r.2⟩
  ·have f:b3 (p::b) k=b3 b k:=by simp[b3,e]
   have c:bA (q::a) k=bA a k:=by simp[bA,(r.1▸e)]
   rw[f,c];omega
theorem RdK.any(h:RdK H B l m)(k:aC):(l.any λkv=>decide (kv.1=k))=(m.any λkv=>decide (kv.1=k)):=by
 induction h with
 |nil=>rfl
 |cons r _ a=>rw[Di,Di,a,r.1]
theorem RdK.map(h:RdK H B l m)(r:RdX H B v d)(k:aC):RdK H B (l.map λkv=>if kv.1=k then(kv.1,v)else kv) (m.map λkv=>if kv.1=k then(kv.1,d)else kv):=by
 induction h with
 |nil=>exact .nil
 |@cons p q f c a _ b=>
  rw[Bk,Bk];refine .cons ?_ b;by_cases e:p.1=k
  ·rw[b_ e,b_ (a.1▸e:q.1=k)];exact⟨a.1,r⟩
  ·rw[a_ e,a_ (a.1▸e:¬q.1=k)];omega
theorem RdK.append{l2:List (aC×V)}{m2:List (aC×Ad)}(h:RdK H B l m)(h2:RdK H B l2 m2):RdK H B (l++l2) (m++m2):=by
 induction h with
 |nil=>exact h2
 |cons b _ a=>exact .cons b a
theorem RdK.put(h:RdK H B l m)(r:RdX H B v d)(k:aC):RdK H B (bI l k v) (eu m k d):=by
 unfold bI eu;rw[h.any k]
 split
 ·exact h.map r k
 ·exact h.append (.cons ⟨rfl,r⟩ .nil)
theorem RdK.merge{l2:List (aC×V)}{m2:List (aC×Ad)}(h2:RdK H B l2 m2):∀{l:List (aC×V)}{m:List (aC×Ad)},RdK H B l m->RdK H B (kf l l2) (pX m m2):=by
 induction h2 with
 |nil=>intro l m h;exact h
 |@cons p q b c r _ a=>
  intro l m h;show RdK H B (kf (bI l p.1 p.2) b) _;rw[r.1];exact a (h.put r.2 _)
theorem BK(l:List (aC×V))(k:aC)(v:V):(bI l k v).length<=l.length+1:=by
 unfold bI
 split
 ·rw[Ab];omega
 ·rw[As];exact Bc _
theorem Sh(l2:List (aC×V)):∀l:List (aC×V),(kf l l2).length<=l.length+l2.length:=by
 induction l2 with
 |nil=>exact λl=>Bc _
 |cons p r a=>
  intro l;show(kf (bI l p.1 p.2) r).length<=_;have:=a (bI l p.1 p.2);have:=BK l p.1 p.2;simp<;>omega
end
section
variable{X:Cx}{a b c e o i f:Expr}{ta tb te td ty tx:TE}{wa wb we wd' wy wx:DT}{pos p:Pos}{K:Ag}
def cU(i:Nat):DT:=λδ n Q=>match δ[i]? with
 |some (ae (.odk kvs))=>Q (.dk kvs) n
 |some (ae (.w x))=>Q x n
 |_=>False
theorem IT(i:Nat){x:Str}{p:Pos}(hN:X.N[i]?=ae x)(hv:dY X.env.scope x)(hd:(x==("__debug__":Str))=ai)
  (r_:(x==("__classdict__":Str))=ai):DE X (.Name x p) (aI i) (cU i):=⟨eS hN hv hd r_,λC H B σ δ n Q m R h k=>by
 unfold cU at h
 split at h
 ·rename_i b e;obtain⟨v,c,a,l,rfl,j,o,g,q,f⟩:=R.sl i _ e;exact⟨_,c,k _ (.dk b) H n R (Kp.refl _ _) ⟨a,l,rfl,j,λz=>R.t0 (z▸g),f⟩ h⟩
 ·rename_i x e;obtain⟨v,c,d⟩:=R.sl i _ e;exact⟨v,c,k v x H n R (Kp.refl _ _) d.1 h⟩
 ·exact h.elim⟩
def fe:Wv->Wv->Int->DQ->Prop:=λx y n Q=>match x,y with
 |.dk kvs,.d (.str k)=>match bA kvs (.inr k)with
  |some d=>Q (.d d) n
  |none=>False
 |_,_=>False
theorem KA(hu:X.A.units+64 < Dd)(ho:DE X o td wd')(hi:DE X i ty wy)(hs:gV i:=by exact λ_ _=>rfl):DE X (.Subscript o i pos) (FE td ty) (w2 wd' wy fe):=⟨Lv ⋯ ho.pe hi.pe hs,λC H B σ δ n Q K R h k=>
 ho.sd C H B σ δ n _ _ R h λv x t w j J D q=>hi.sd C t B σ δ w _ _ j q λu y g s z f F c=>by
  unfold fe at c
  split at c
  ·rename_i p b;obtain⟨a,l,rfl,I,L,E⟩:=(D.kp f j.bt);cases(show RdX g B u (.str b)from F);rcases E.val (.inr b)with⟨m,e⟩|⟨v,d,m,e,r⟩
   ·rw[e]at c;exact c.elim
   ·rw[e]at c;exact⟨a,v,rfl,.inl ⟨l,.inr b,.inl I,rfl,m.symm⟩,k v (.d d) g s z (J.trans f) r c⟩
  ·exact c.elim⟩
def dQ(neg:Bool):Wv->Wv->Int->DQ->Prop:=λx y n Q=>match x,y with
 |.d (.str k),.dk kvs=>Q (.d (.bool (if neg then !(bA kvs (.inr k)).isSome else(bA kvs (.inr k)).isSome))) n
 |_,_=>False
theorem Jk(hi:DE X i ty wy)(ho:DE X o td wd'):dm (jQ ty td) (w2 wy wd' (dQ ai)):=λC H B σ δ n Q J R h k=>
 hi.sd C H B σ δ n _ _ R h λv x s t m G z q=>ho.sd C s B σ δ t _ _ m q λu y j r w g D c=>by
  unfold dQ at c
  split at c
  ·rename_i b p;obtain⟨a,l,rfl,F,K,A⟩:=D;cases(show RdX j B v (.str b)from(z.kp g m.bt));refine⟨a,_,rfl,.inl ⟨l,.inr b,.inl F,rfl,rfl⟩,k _ _ j r w (G.trans g) (wd (.bl _)) ?_⟩;rcases A.val (.inr b)with⟨f,e⟩|⟨v,d,f,e,I⟩
   ·rw[f];rw[e]at c;exact c
   ·rw[f];rw[e]at c;exact c
  ·exact c.elim
theorem Nh(hi:DE X i ty wy)(ho:DE X o td wd'):dm (m4 ty td) (w2 wy wd' (dQ ah)):=λC H B σ δ n Q J R h k=>
 hi.sd C H B σ δ n _ _ R h λv x s t m G z q=>ho.sd C s B σ δ t _ _ m q λu y j r w g D c=>by
  unfold dQ at c
  split at c
  ·rename_i b p;obtain⟨a,l,rfl,F,K,A⟩:=D;cases(show RdX j B v (.str b)from(z.kp g m.bt));refine⟨a,_,rfl,.inl ⟨l,.inr b,.inl F,rfl,rfl⟩,k _ _ j r w (G.trans g) (wd (.bl _)) ?_⟩;rcases A.val (.inr b)with⟨f,e⟩|⟨v,d,f,e,I⟩
   ·rw[f];rw[e]at c;exact c
   ·rw[f];rw[e]at c;exact c
  ·exact c.elim
theorem Qm(hu:X.A.units+64 < Dd)(hi:DE X i ty wy)(ho:DE X o td wd')(hm:Cm .In o=ai):DE X (.Compare i [.In] [o] pos) (jQ ty td) (w2 wy wd' (dQ ai)):=⟨yx (Hv ⋯ hi.pe ho.pe) hm,Jk hi ho⟩
theorem So(hu:X.A.units+64 < Dd)(hi:DE X i ty wy)(ho:DE X o td wd')(hm:Cm .NotIn o=ai):DE X (.Compare i [.NotIn] [o] pos) (m4 ty td) (w2 wy wd' (dQ ah)):=⟨yx (EK ⋯ hi.pe ho.pe) hm,Nh hi ho⟩
def Td(wd wy wx:DT):DT:=λδ n Q=>wd δ n λx n1=>match x with
 |.dk kvs=>wy δ n1 λy n2=>wx δ n2 λz n3=>match y,z with
  |.d (.str k),.d z=>Q (.d ((bA kvs (.inr k)).getD z)) n3
  |_,_=>False
 |_=>False
abbrev jy:=Sl->Int->(List (aC×Ad)->Int->Prop)->Prop
def sx(t:TE)(w:jy):Prop:=∀(C:Ctx)(H:Hp)(B:A'->Prop)(σ:St)(δ:Sl)(n:Int)(Q:List (aC×Ad)->Int->Prop)(Q':VK),Rel C H B σ δ n->w δ n Q->
 (∀a l kvs H' n',Rel C H' B σ δ n'->Kp C.t H H'->H a=af->H' a=ae (.dK l)->l.length<=1000->RdK H' (λb=>B b\/b=a) l kvs->Q kvs n'->Q' (.ref a) H')->t σ H Q'
structure DN(X:Cx)(e:Expr)(t:TE)(w:jy):Prop where
 pe:PE X e t
 sd:sx t w
def i6:jy:=λ_ n Q=>Q [] n
theorem OD:DN X (.Dict [] [] pos) AD i6:=⟨R0,λC H B σ δ n Q c R q k=>λa b=>k a [] [] _ n (R.new b) (Kp.new b) b a9 ∎ .nil q⟩
def j0:List Ad->Option (List (aC×Ad))
 |[]=>ae []
 |.tuple [.str k,d]::r=>(j0 r).map ((.inr k,d)::·)
 |_=>af
theorem EN{H:Hp}{B:A'->Prop}:∀{xs:List V}{ds:List Ad}{ps:List (aC×Ad)},RdXs H B xs ds->j0 ds=ae ps->∃qs:List (A'×aC×V),xs=qs.map (λp=>V.ref p.1)/\(∀p∈qs,H p.1=ae (.tup [kV p.2.1,p.2.2]))/\RdK H B (qs.map (·.2)) ps
 |_,_,ps,.nil,h=>by
  cases h;exact⟨[],rfl,λp b=>g_ b A8,Paired.nil⟩
 |_,_,ps,.cons (ds:=ds) j h2,h=>by
  unfold j0 at h
  split at h
  ·rename_i e;cases e
  ·rename_i k t r e;cases e;cases c:j0 ds with
   |none=>rw[c]at h;cases h
   |some f=>
    rw[c]at h;cases h;obtain⟨qs,m,g,i⟩:=EN h2 c;cases j with
    |@tup a v _ q w u n=>
     cases n with
     |cons d l=>
      cases l with
      |cons s o=>
       cases o;cases d;refine⟨(a,.inr k,_)::qs,m▸rfl,λp b=>?_,.cons ⟨rfl,s⟩ i⟩;rcases Ar.mp b with rfl|z
       ·exact q
       ·exact g p z
  ·cases h
def zy:List V->Hp->VK->Prop:=λxs H Q=>∃(src:A')(ps:List (A'×aC×V)),xs=[.ref src]/\H src=ae (.tup (ps.map λp=>V.ref p.1))/\(∀p∈ps,H p.1=ae (.tup [kV p.2.1,p.2.2]))/\ps.length<=1000 /\
  ∀l,H l=af->Q (.ref l) (L2.upd H l (.dK (kf [] (ps.map (·.2)))))
def je(w:DT):jy:=λδ n Q=>w δ n λx n1=>match x with
 |.d (.tuple ds)=>match j0 ds with
  |some ps=>ds.length<=1000/\Q (pX [] ps) n1
  |none=>False
 |_=>False
theorem yz(hh:X.A.handled=af)(hg:Gl X "dict")(hm:X.mg "dict"=af)(he:DE X e te we)(hv:Bw "dict"=ae (.type "dict"))
  (he':Aq [e] X.env=(ai,eval e X.env)::Aq [] X.env) (q_:(C0 pos (Aq [] X.env)).any (·.1)=ai):DN X (.Call (.Name "dict" p) [e] [] pos) (d5 zy (br te aW)) (je we):=
 ⟨mN (Jb hh) hg hm hv (bZ he.pe dq he') ∎ ∎ he' q_,λC H B σ δ n Q K R q k=>
  he.sd C H B σ δ n _ _ R q λv x u y g i E d=>by
   split at d
   ·rename_i m
    split at d
    ·rename_i J w;cases(show RdX u B v (.tuple m)from E)with
     |@tup a M _ I N L h=>
      obtain⟨f,D,r,s⟩:=EN h w;subst D;have j:f.length<=1000:=by have:=h.len;simp_all
      refine⟨a,f,rfl,I,r,j,λl c=>k l _ _ _ y (g.new c) (i.trans (Kp.new c)) (g.was i c) a9 ?_ ?_ d.2⟩
      ·have:=Sh (f.map (·.2)) [];rw[Ab]at this;have z:([]:List (aC×V)).length=0:=rfl;omega
      ·exact RdK.merge (s.move λb o e n=>⟨(aH (bu e c))▸e,λz=>z.elim n (bu e c)⟩) .nil
    ·exact d.elim
   ·exact d.elim⟩
def hG(i:Nat)(w:jy):aE:=λδ n K=>w δ n λkvs n1=>K.nx (δ.set i (ae (.odk kvs))) n1
theorem Lb{i:Nat}{x:Str}{pos':Pos}{w:jy}(hN:X.N.Nodup)(hi:X.N[i]?=ae x)(hx:fA X.env.scope x)(he:DN X e te w)(hs:Cy e (ae (.Name x pos')) pos.line X.env=pure ai)(hf:X.fn x=ah\/X.env.scope.names.lookup x=ae .local):
  DS X (.Assign [.Name x pos'] e pos) (bw te (dg i)) (hG i w):=⟨fN hN hi hx he.pe hs hf,λC H B σ δ n K D R q E=>
 he.sd C H B σ δ n _ _ R q λa l g m o j k b c d f h=>by
  refine E.nx _ _ _ _ _ (R.own j k b (by rw[c];simp) rfl ?_) h;exact⟨a,l,rfl,c,.inr rfl,R.h0 b,d,f⟩⟩
def kz(i:Nat)(wy wv:DT):aE:=λδ n K=>match δ[i]? with
 |some (ae (.odk kvs))=>wv δ n λv n1=>wy δ n1 λy n2=>match v,y with
  |.d d,.d (.str k)=>kvs.length < 1000/\K.nx (δ.set i (ae (.odk (eu kvs (.inr k) d)))) n2
  |_,_=>False
 |_=>False
theorem Kz{i:Nat}{x:Str}{xp sp:Pos}{j e:Expr}{tj te:TE}{wj we:DT}(hu:X.A.units+64 < Dd)(hN:X.N[i]?=ae x)(hj:DE X j tj wj)(he:DE X e te we)(hv:dY X.env.scope x)(hd:(x==("__debug__":Str))=ai)
  (r_:(x==("__classdict__":Str))=ai) (hs:Cy e (ae (.Subscript (.Name x xp) j sp)) pos.line X.env=pure ai):
  DS X (.Assign [.Subscript (.Name x xp) j sp] e pos) (uu (aI i) tj te) (kz i wj we):=
 ⟨ER ⋯ (eS hN hv hd r_) hj.pe he.pe hs,λC H B σ δ n K D R q E=>by
  unfold kz at q
  split at q
  ·rename_i I F;refine he.sd C H B σ δ n _ _ R q λu y O P h Z T L=>?_;obtain⟨v,hv,a,l,rfl,Q,p,r,W,J⟩:=h.sl i _ F;refine⟨_,hv,hj.sd C O B σ δ P _ _ h L λw z M Y S m U g=>?_⟩
   split at g
   ·rename_i d c;cases(show RdX M B w (.str c)from U);have s:a≠C.t:=λz=>R.t0 (z▸r);have f:=J.move λb o e n=>⟨m b o e λz=>n (z▸h.bt),n⟩;have G:l.length < 1000:=by rw[f.len];exact g.1
    refine⟨a,_,rfl,DPut.k (k:=.inr c) (m _ _ Q s) (Bn G ∎),E.nx _ _ _ _ _ (S.mutOwn F rfl hv p r ?_ rfl) g.2⟩;refine⟨a,_,rfl,a9,p,r,?_,?_⟩
    ·have:=BK l (.inr c) u;omega
    ·exact(f.put (T.kp m h.bt) _).move λb o e n=>⟨(aH λ(z:b=a)=>n (z▸p))▸e,n⟩
   ·exact g.elim
  ·exact q.elim⟩
def lg(i:Nat)(w:DT):DT:=λδ n Q=>w δ n λx n1=>match x,δ[i]? with
 |.d a,ae (ae (.own ds))=>eG a=ah/\ds.all eG=ah/\Q (.d (.bool (cE a ds))) n1
 |_,_=>False
theorem Nq{i:Nat}(h:dm ta wa):dm (cZ (gj K ai) ta (aI i)) (lg i wa):=λC H B σ δ n Q r R q k=>
 h C H B σ δ n _ _ R q λv x g l d p f b=>by
  split at b
  ·rename_i w y e;obtain⟨u,j,a,m,rfl,o,t,s,z,c⟩:=d.sl i _ e;refine⟨_,j,a,m,rfl,.inl (SqL.of o),kE f b.1,jC c b.2.1,k _ _ g l d p (wd (.bl _)) ?_⟩;rw[jO f c];exact b.2.2
  ·exact b.elim
theorem MM(i:Nat){x:Str}{xp:Pos}(ha:DE X a ta wa)(hK:X.K=K)(hN:X.N[i]?=ae x)(hv:dY X.env.scope x)(hd:(x==("__debug__":Str))=ai)
  (r_:(x==("__classdict__":Str))=ai) (hm:Cm .In (Expr.Name x xp)=ai):DC X (.Compare a [.In] [.Name x xp] pos) (fQ (cZ (gj K ai) ta (aI i))) (cT (lg i wa)):=
 ⟨ja (t7 hK) ha.pe (eS hN hv hd r_) hm,kb (Nq ha.sd)⟩
end
section
variable{X:Cx}{a b c e o i f:Expr}{ta tb te td ty tx:TE}{wa wb we wd' wy wx:DT}{pos p:Pos}{K:Ag}
def bQ(ps:List (Str×Ad)):List (aC×Ad):=ps.map λp=>(Da p.1,p.2)
def iL(ps:List (Str×Ad)):Prop:=ps.Pairwise λa b=>¬b.1.cps.toList < a.1.cps.toList
def CH(w:DT):d0:=λδ n Q=>w δ n λx n1=>match x with
 |.dk kvs=>∃ps:List (Str×Ad),kvs=bQ ps/\ps.length < 64/\(ps.map (·.1)).Nodup/\(∀p∈ps,p.1.length<=1000/\eG p.2=ah)/\∀ps':List (Str×Ad),ps'.Perm ps->iL ps'->Q (ps'.map λp=>.tuple [.str p.1,p.2]) n1
 |_=>False
theorem vh{H:Hp}{B:A'->Prop}:∀{l:List (aC×V)}{ps:List (Str×Ad)},RdK H B l (bQ ps)->∃xv:List V,xv.length=ps.length/\l=(((ps.map (·.1)).zip xv).map λp=>((Da p.1:aC),p.2))/\RdXs H B xv (ps.map (·.2))
 |[],[],_=>⟨[],rfl,rfl,.nil⟩
 |[],_::_,h=>nomatch h
 |_::_,[],h=>nomatch h
 |q::l,p::ps,.cons r h=>by
  obtain⟨xv,c,b,a⟩:=vh h;refine⟨_,by simp[c],?_,.cons r.2 a⟩;rw[b];have d:q.1=(Da p.1:aC):=r.1;have:q=((Da p.1:aC),q.2):=by rw[<-d]
  rw[this];rfl
def MB:V->List V->Hp->VK->Prop:=λx vs H Q=>∃d kvs,x=.ref d/\vs=[]/\H d=ae (.dK kvs)/\∀v,H v=af->Q (.ref v) (upd H v (ju d v))
theorem yi{α β:Type}{f:α->β}{l:List α}{i:Nat}{x:α}{y:β}(h:i < l.length):(l.map f).getD i y=f (l.getD i x):=by simp[h]
theorem QI{ap ip:Pos}(hh:X.A.handled=af)(hg:Gl X "sorted")(hm:X.mg "sorted"=af)(ho:DE X o td wd')(hv:Bw "sorted"=ae (.builtin "sorted"))(hK:X.K=K)
  (hbase:G4 o "items" X.env (eval o X.env)=eval o X.env) (hline:(ap.endLine==ip.line)=ah)
  (he':Aq [Expr.Call (.Attribute o "items" ap) [] [] ip] X.env=(ai,eval (Expr.Call (.Attribute o "items" ap) [] [] ip) X.env)::Aq [] X.env) (q_:(C0 pos (Aq [] X.env)).any (·.1)=ai):
  DF X (.Call (.Name "sorted" p) [.Call (.Attribute o "items" ap) [] [] ip] [] pos) (d5 zN (br (kJ K "dict" MB td) aW)) (CH wd'):=by
 subst hK;refine⟨gz (Jm hh) hg hm hv (bZ (FJ PySem.F.plainAttrs_dict PySem.F.slot_dict_items PySem.F.type_dict_items Nx ho.pe hbase hline) dq he') ∎ ∎ he' q_,λC H B σ δ n Q Q' R q k=>
  ho.sd C H B σ δ n _ _ R q λv x N n1 R1 k1 r1 J=>?_⟩
 cases x with
 |d _=>exact J.elim
 |tp=>exact J.elim
 |ln _=>exact J.elim
 |ob _=>exact J.elim
 |dx _=>exact J.elim
 |dk kvs=>
  obtain⟨a,l,rfl,Y,g2,g3⟩:=r1;obtain⟨c,rfl,h64,nd,M,kq⟩:=J;obtain⟨E,ex1,ex2,T⟩:=vh g3;refine⟨.inr (.inr (.inl ⟨rfl,.inl ⟨l,Y⟩⟩)),a,l,rfl,rfl,Y,λv hv=>?_⟩;have R2:=R1.new (o:=ju a v) hv;have kp2:Kp C.t N (upd N v (ju a v)):=Kp.new hv;refine⟨v,a,_,E,rfl,a9,by rw[Ab,ex1],by rw[aH (bu Y hv),Y,ex2],by rw[Ab];exact h64,nd,jC T ?_,λD u s U Z g O sm hD has hD' hit=>?_⟩
  ·rw[E4];intro d hd;obtain⟨p,hp,rfl⟩:=A7.mp hd;exact(M p hp).2
  ·rw[Ab]at Z g;have hDn:=R1.was k1 (by
    cases q:N D with
    |none=>rfl
    |some o=>
     have:upd N v (ju a v) D=ae o:=(aH (bu q hv))▸q;rw[hD]at this;cases this)
   have I:∀i∈s,i < c.length:=λi W=>Ci.mp (g.mem_iff.mp W);have lidx:s.length=c.length:=by rw[g.length_eq,Er]
   refine k D _ _ U n1 (R2.same sm) ((k1.trans kp2).trans λb o e _=>sm b o e) hDn hD' (by rw[Ab];exact ej ⋯) ?_ (kq (s.map λi=>c.getD i (⟨#[]⟩,.none)) ?_ ?_)
   ·rw[By];have m_:∀m:List Nat,(∀i∈m,i∈s)->RdXs U (λb=>B b\/b=D) (m.map λi=>V.ref (fj u (c.map (·.1)) E i).1) (m.map ((λp=>PyData.tuple [.str p.1,p.2]) ∘ λi=>c.getD i (⟨#[]⟩,.none))):=by
     intro m
     induction m with
     |nil=>exact λ_=>.nil
     |cons i r ih=>
      intro hm;have W:=hm i An;have w:=I i W;refine .cons ?_ (ih λj hj=>hm j (Ak _ hj));have ht:=hit i W;have L:i < u.length:=by simp_all
      have eA:(fj u (c.map (·.1)) E i).1=u[i]:=by show u.getD i 0=_;simp[L]
      have eK:(fj u (c.map (·.1)) E i).2.1=c[i].1:=by show(c.map (·.1)).getD i _=_;simp[w]
      have S:i < E.length:=by simp_all
      have eX:(fj u (c.map (·.1)) E i).2.2=E[i]:=by show E.getD i .non=_;simp[S]
      rw[eA,eK,eX]at ht;show RdX U _ (.ref (fj u _ E i).1) _;rw[eA];have eP:c.getD i (⟨#[]⟩,.none)=c[i]:=by simp[w]
      show RdX U _ _ (.tuple [.str (c.getD i _).1,(c.getD i _).2]);rw[eP];have nD:u[i]≠D:=λz=>by simp_all
      refine .tup ht (λz=>z.elim (R2.nb (has u[i] (by simp))) nD) (by show 2<=Av;decide) (.cons (.str _ (ej (M c[i] (by simp)).1)) (.cons ?_ .nil));obtain⟨d,f1,f2⟩:=T.get (Ah S);rw[Am,Ah w]at f1;cases f1;exact f2.move λb o e n=>⟨sm b o ((aH (bu e hv))▸e),λz=>z.elim n λq=>by
       have e2:upd N v (ju a v) b=ae o:=(aH (bu e hv))▸e
       simp_all⟩
    exact m_ s λ_ h=>h
   ·have h1:=g.map λi=>c.getD i ((⟨#[]⟩:Str),PyData.none);have h2:(A9 c.length).map (λi=>c.getD i ((⟨#[]⟩:Str),PyData.none))=c:=by
     apply Fp (by simp);intro i h1 h2;simp[h2]
    rw[h2]at h1;omega
   ·unfold iL;rw[Fh];rw[Fh]at O;refine List.Pairwise.imp_of_mem (λ{x y} hx hy h=>?_) O;rw[yi (I x hx),yi (I y hy)]at h;exact h
def BO(w:DT):d0:=λδ n Q=>w δ n λx n1=>match x with
 |.dk kvs=>∃ps:List (Str×Ad),kvs=bQ ps/\ps.length < 64/\(∀p∈ps,p.1.length<=1000)/\∀ys:List Str,ys.Perm (ps.map (·.1))->ys.Pairwise (λa b=>¬b.cps.toList < a.cps.toList)->Q (ys.map .str) n1
 |_=>False
theorem nk{H:Hp}{B:A'->Prop}:∀{ys:List Str},(∀y∈ys,y.length<=1000)->RdXs H B (ys.map V.str) (ys.map .str)
 |[],_=>.nil
 |y::r,h=>.cons (.str _ (ej (h y An))) (nk λz a=>h z (Ak _ a))
theorem Ja(hh:X.A.handled=af)(hg:Gl X "sorted")(hm:X.mg "sorted"=af)(ho:DE X o td wd')(hv:Bw "sorted"=ae (.builtin "sorted"))
  (he':Aq [o] X.env=(ai,eval o X.env)::Aq [] X.env) (q_:(C0 pos (Aq [] X.env)).any (·.1)=ai):
  DF X (.Call (.Name "sorted" p) [o] [] pos) (d5 EA (br td aW)) (BO wd'):=by
 refine⟨gz (Kv hh) hg hm hv (bZ ho.pe dq he') ∎ ∎ he' q_,λC H B σ δ n Q O R q k=>
  ho.sd C H B σ δ n _ _ R q λv x N E s u I b=>?_⟩
 cases x with
 |d _=>exact b.elim
 |tp=>exact b.elim
 |ln _=>exact b.elim
 |ob _=>exact b.elim
 |dx _=>exact b.elim
 |dk z=>
  obtain⟨a,l,rfl,L,V,J⟩:=I;obtain⟨r,rfl,f,i,K⟩:=b;obtain⟨F,j,g,w⟩:=vh J;refine⟨a,l,r.map (·.1),rfl,L,?_,by rw[Ab];exact f,λD t e G m=>?_⟩
  ·rw[g,By];show((r.map _).zip F).map (Da ∘ Prod.fst)=_;rw[<-By,List.map_fst_zip (by rw[j];simp)]
  ·have h:∀y∈t,y.length<=1000:=λy h=>by
    obtain⟨p,c,rfl⟩:=A7.mp (e.mem_iff.mp h);exact i p c
   refine k D _ _ _ E (s.new m) (u.trans (Kp.new m)) (s.was u m) a9 ?_ (nk h) (K t e G);rw[Ab,e.length_eq,Ab];exact ej ⋯
def dB(xs ys:List Ad):List Ad:=List.zipWith (λx y=>.tuple [x,y]) xs ys
def mq(w w':DT):fI:=λδ n Q=>w δ n λx n1=>w' δ n1 λy n2=>match x,y with
 |.d (.tuple xs),.d (.tuple ys)=>xs.length=ys.length/\Q (dB xs ys) n2
 |_,_=>False
theorem K9{elts:List Expr}{kk:Nat}{tpos:Pos}(hg:Gl X "zip")(hm:X.mg "zip"=af)(ha:DE X a ta wa)(hb:DE X b tb wb)(hK:X.K=K)(hs:Aq [a,b] X.env=[(ai,eval a X.env),(ai,eval b X.env)])(hs2:Aq [b] X.env=[(ai,eval b X.env)])
  (he1:Aq [a,b] X.env=(ai,eval a X.env)::Aq [b] X.env) (he2:Aq [b] X.env=(ai,eval b X.env)::Aq [] X.env):
  DI X (.Tuple elts kk tpos) (.Call (.Name "zip" p) [a,b] [] pos) (n7 K (br ta (br tb aW))) (mq wa wb):=by
 subst hK;refine⟨Kt hg hm (bZ ha.pe (bZ hb.pe dq he2) he1) hs hs2,λC H B σ δ n Q Q' R q k=>ha.sd C H B σ δ n _ _ R q λv x H1 n1 R1 k1 r1 q1=>hb.sd C H1 B σ δ n1 _ _ R1 q1 λu y s n2 R2 U r2 g=>?_⟩;have P:=r1.kp U R1.bt
 split at g
 ·rename_i h r;cases(show RdX s B v (.tuple h)from P)with
  |@tup aa w _ e1 e2 e3 t=>
   cases(show RdX s B u (.tuple r)from r2)with
   |@tup ab F _ f1 f2 f3 f4=>
    refine⟨aa,ab,rfl,⟨w,SqT.of e1⟩,⟨F,SqT.of f1⟩,k _ _ s n2 R2 (k1.trans U) (λfz j=>?_) g.2⟩;have I:=j.2 _ _ e1 e2;have Y:=j.2 _ _ f1 f2;have m:(dB h r).length=h.length:=by unfold dB;rw[List.length_zipWith,g.1,Nat.min_self]
    refine⟨m▸t.len▸e3,λi H f l=>?_,λH f=>?_,λi H x H' d f V L=>?_⟩
    ·rw[m]at l;have h1:i < w.length:=by rw[t.len];exact l
     have h2:i < F.length:=by rw[f4.len,<-g.1];omega
     exact⟨w,F,_,_,SqT.of (f _ _ I),SqT.of (f _ _ Y),Ah h1,Ah h2⟩
    ·exact⟨w,SqT.of (f _ _ I),by rw[m,t.len];simp⟩
    ·obtain⟨T,x1,y1,rfl,A,rfl,hx,L⟩:=L;refine⟨λb o e=>(aH (bu e A))▸e,λB' hB E=>?_⟩;have l:i < h.length:=by rw[<-m];exact(Ap.mp V).1
     have N:i < r.length:=by simp_all
     have ed:d=.tuple [h[i],r[i]]:=by
      unfold dB at V;simp_all
     subst ed;obtain⟨u1,D,M⟩:=t.getD (Ah l);obtain⟨u2,S,J⟩:=f4.getD (Ah N);have W:=hx _ (SqT.of (f _ _ I));have t2:=L _ (SqT.of (f _ _ Y));rw[D]at W;rw[S]at t2;cases W;cases t2;have Z:∀b o,s b=ae o->¬B b->upd H T (.tup [x1,y1]) b=ae o/\¬B' b:=λb o e ne=>by
      have:=f _ _ (j.2 _ _ e ne);exact⟨(aH (bu this A))▸this,hB _ _ (j.2 _ _ e ne)⟩
     exact .tup a9 (λz=>E T z A) (by show 2<=Av;decide) (.cons (M.move Z) (.cons (J.move Z) .nil))
 ·exact g.elim
end
end DL
namespace L2
open PySem PySem.Spec PyProof.Rows PySem.SeqAt
end L2
namespace DL
open PySem L2 Nb
section
variable{X:Cx}{K:Ag}
def qU(K:Ag)(f:Ad->Ad->Option Bool):R2:=λx y H Q=>∃d e b,RdD K H x d/\RdD K H y e/\d.canLay0=ah/\e.canLay0=ah/\d.depth<=20/\e.depth<=20/\f d e=ae b/\Q (.bl b) H
theorem wY(hu:X.A.units+64 < Dd)(hK:X.K=K):OpR X (B3 .Eq) (qU K λd e=>ae (Cf d e)):=by
 subst hK;intro a s σ H x y v u Q I i k h;obtain⟨d,e,b,j,c,f,g,o,p,m,q⟩:=h;cases m;obtain⟨t,l⟩:=RdD.reads I j i;obtain⟨r,n⟩:=RdD.reads I c k;exact SeqAt.compareEq_reads l n f g ⋯ ⟨.bl _,H,I,rfl,q⟩
theorem JV(hu:X.A.units+64 < Dd)(hK:X.K=K:=by rfl):OpR X (B3 .NotEq) (qU K λd e=>ae (!Cf d e)):=by
 subst hK;intro a s σ H x y v u Q I k f h;obtain⟨d,e,b,g,m,j,c,t,o,l,q⟩:=h;cases l;obtain⟨p,n⟩:=RdD.reads I g k;obtain⟨r,i⟩:=RdD.reads I m f;exact SeqAt.compareNe_reads n i j c ⋯ ⟨.bl _,H,I,rfl,q⟩
def p6(f:Ad->Ad->Option Bool):Wv->Wv->Int->DQ->Prop:=λx y n Q=>match x,y with
 |.d d,.d e=>d.canLay0=ah/\e.canLay0=ah/\d.depth<=20/\e.depth<=20/\∃b,f d e=ae b/\Q (.d (.bool b)) n
 |_,_=>False
theorem xS{f:Ad->Ad->Option Bool}:a8 (qU K f) (p6 f):=λC H B σ δ n x y p q Q r R g i a k=>by
 unfold p6 at a
 split at a
 ·rename_i d e;obtain⟨m,j,c,h,b,l,o⟩:=a;exact⟨d,e,b,RdX.rd g,RdX.rd i,m,j,c,h,l,k _ _ H n R (Kp.refl _ _) (wd (.bl b)) o⟩
 ·exact a.elim
end
end DL
namespace L2
open PySem PySem.Spec PyProof.Rows PySem.W
section
variable{prog:A1}{w:Bh}{A:Bo}{E:Af->Ai->Prop}{s:Ai}
theorem S6{src:Source}{n:Nat}{Q:Nat->Ai->Prop}(hn:n≠0)(h:∀i dr,i < n->Q i {s with drawn:=dr}):A2 (A5 prog w) A (choose src n) Q E s:=
 λ_ _ _=>⟨hn,h _ _ (Nat.mod_lt _ (Nat.pos_of_ne_zero hn))⟩
theorem vj{α:Type}:∀(l:List α)(i:Nat)(h:i < l.length),(l[i]::l.eraseIdx i).Perm l
 |x::r,0,_=>List.Perm.refl _
 |x::r,i+1,h=>(List.Perm.swap x _ _).trans ((vj r i _).cons x)
theorem yd{α:Type}:∀(n:Nat)(xs:List α)(s:Ai){Q:List α->Ai->Prop},xs.length=n->(∀ys dr,ys.Perm xs->Q ys {s with drawn:=dr})->A2 (A5 prog w) A (drawOrder n xs) Q E s
 |0,xs,s,Q,a,h=>by
  cases Gy a;exact Aj (h [] s.drawn (by simp))
 |n+1,[],s,Q,a,h=>by trivial
 |n+1,x::r,s,Q,a,h=>by
  refine Aa (S6 (by simp) λi dr c=>?_);rw[Ah c];exact Aa (yd n _ _ (by rw[List.length_eraseIdx_of_lt c];simp_all) λys b d=>Aj (h _ b ((d.cons _).trans (vj _ _ c))))
theorem BH{α:Type}(next:Nat->Nat):∀(fuel k:Nat)(left:List α)(out:Array α),left.length=fuel->(pickOrder.go next fuel k left out).toList.Perm (out.toList++left)
 |0,k,left,out,b=>by
  cases Gy b;simp[pickOrder.go]
 |fuel+1,k,left,out,b=>by
  have a:next k % left.length < left.length:=Nat.mod_lt _ ⋯
  unfold pickOrder.go;rw[Ah a];refine(BH next fuel _ _ _ (by grind)).trans ?_;rw[Array.toList_push,A6];exact List.Perm.append_left _ (vj _ _ a)
theorem P8{α:Type}(next:Nat->Nat)(xs:Array α):(pickOrder next xs).toList.Perm xs.toList:=by
 have:=BH next xs.size 0 xs.toList #[] (by simp)
 assumption
def cF(w:Bh):Bool:=w.params.followText "set-order"
theorem pZ{Q:Bool->Ai->Prop}(h:Q (cF w) s):A2 (A5 prog w) A setsByText Q E s:=Aa (wpAny_askSetting (Aj h))
structure SetTb(w:Bh)(h:Heap)(a:A')(es:Array (Int×Af))(ep:Nat)(t:Fk):Prop where
 obj:∃o,h.get? a=ae o/\o.ExactSet/\o.data=.set es ep t
 fits:t.fits es.size=ah
 led:t.led=!cF w
 plain:t.plain=ah->es.size=0
theorem SetTb.move{h h':Heap}{a:A'}{es:Array (Int×Af)}{ep:Nat}{t:Fk}(x:SetTb w h a es ep t)(k:∀o,h.get? a=ae o->h'.get? a=ae o):SetTb w h' a es ep t:=
 ⟨let⟨o,e,r⟩:=x.obj;⟨o,k o e,r⟩,x.fits,x.led,x.plain⟩
theorem SetTb.typeIs{a:A'}{es:Array (Int×Af)}{ep:Nat}{t:Fk}(x:SetTb w s.heap a es ep t):s.TypeIs (.ref a) "set":=let⟨o,e,r,_⟩:=x.obj;⟨o,e,r.1⟩
theorem SetTb.lt{h:Heap}{a:A'}{es:Array (Int×Af)}{ep:Nat}{t:Fk}(x:SetTb w h a es ep t):a < h.objs.size:=let⟨_,e,_⟩:=x.obj;Aw e
theorem N9(t:Fk)(n:Nat):(t.orStandIn n).led=t.led:=by
 unfold SetTable.orStandIn
 split<;>rfl
theorem GA(t:Fk)(es:Array (Int×Af))(h:Int)(x:Af):(layNew t es h x).2.1.led=t.led:=by
 unfold layNew
 split
 ·exact N9 _ _
 ·rfl
theorem HU{t t':Fk}{hs:Array Int}{n:Nat}{ord:Array Nat}(h:t.relaid hs n=ae (t',ord)):t'.led=t.led/\t'.plain=t.plain:=by
 unfold SetTable.relaid SetTable.laid at h;cases a:SetTable.layClean _ hs with
 |none=>rw[a]at h;cases h
 |some b=>
  rw[a]at h;cases h;simp
theorem ym(t:Fk)(es:Array (Int×Af))(n:Nat):(relayAll t es n).2.1.led=t.led/\((relayAll t es n).2.1.plain=ah->t.plain=ah):=by
 unfold relayAll
 split
 ·rename_i e c b;obtain⟨d,a⟩:=HU b;dsimp only
  split
  ·exact⟨d,λz=>a▸z⟩
  ·exact⟨rfl,λz=>by trivial⟩
 ·exact⟨rfl,λz=>by trivial⟩
def fR(v:Af):Str:=match v with
 |.str k _=>k
 |_=>⟨#[]⟩
def cy(es:Array (Int×Af)):List Str:=es.toList.map λe=>fR e.2
def TxEs(w:Bh)(es:Array (Int×Af)):Prop:=∀e∈es.toList,∃k t,e.2=.str k t/\e.1=hashStr w k
theorem TxEs.elems{es:Array (Int×Af)}(h:TxEs w es):ElemsOf (Fc prog w) es.toList:=λe c=>by
 obtain⟨k,t,a,b⟩:=h e c;refine⟨⟨k,?_,b⟩,a▸rfl⟩;rw[a];simp[Fc,Value.isStrOf]
def gM(w:Bh)(h:Heap)(a:A')(seen:List Str):Prop:=∃es ep t,SetTb w h a es ep t/\TxEs w es/\(cy es).Nodup/\(∀k,k∈cy es↔k∈seen)/\es.size<=seen.length
end
theorem yN:entryFor table "set.update.loop"=ae Es.«set.update.loop»:=G0 (by kernel_rfl)
theorem Sq:plainId "set.update.loop"=ah:=by decide +kernel
section
variable{prog:A1}{w:Bh}{A:Bo}{E:Af->Ai->Prop}{s:Ai}
theorem Iy{es es':Array (Int×Af)}{seen:List Str}{k:Str}{tk:Tok}(hx:TxEs w es)(nd:(cy es).Nodup)(hm:∀k,k∈cy es↔k∈seen)(hl:es.size<=seen.length)(hk:k∉cy es)
  (p:es'.toList.Perm (es.toList++[(hashStr w k,.str k tk)])):TxEs w es'/\(cy es').Nodup/\(∀k',k'∈cy es'↔k'∈seen++[k])/\es'.size<=(seen++[k]).length/\es'.size=es.size+1:=by
 have d:(cy es').Perm (cy es++[k]):=by
  have:=p.map λe=>fR e.2;rw[Bb]at this;trivial
 have c:=by
  have:=p.length_eq;simpa using this
 refine⟨λe f=>?_,d.nodup_iff.mpr ?_,λk'=>?_,c▸As▸Nat.succ_le_succ hl,c⟩
 ·rcases A4.mp (p.mem_iff.mp f)with h|h
  ·exact hx e h
  ·rw[Bm]at h;subst h;exact⟨k,tk,rfl,rfl⟩
 ·rw[Gc];exact⟨nd,Ea _ _,λa i b g e=>hk (by rw[Bm]at g;simp_all)⟩
 ·rw[d.mem_iff,A4,A4,hm k']
theorem FH{es es':Array (Int×Af)}(hx:TxEs w es)(nd:(cy es).Nodup)(p:es'.toList.Perm es.toList):TxEs w es'/\(cy es').Nodup/\(∀k',k'∈cy es'↔k'∈cy es)/\es'.size=es.size:=by
 have a:=List.Perm.map (λe:Int×Af=>fR e.2) p;exact⟨λe b=>hx e (p.mem_iff.mp b),a.nodup_iff.mpr nd,λk'=>a.mem_iff,by have:=p.length_eq;omega⟩
theorem Og{a:A'}{k:Str}{tk:Tok}{seen:List Str}{Q:Bool->Ai->Prop}(hS:gM w s.heap a seen)(hb:seen.length < 1000)
  (h:∀b h',C6 a s.heap h'->gM w h' a (seen++[k])->Q b {s with heap:=h'}):A2 (A5 prog w) A (setAddHashed a (.str k tk) (hashStr w k)) Q E s:=by
 obtain⟨D,ep,t,T,hx,nd,hm,hl⟩:=hS;obtain⟨o,O,F,H⟩:=T.obj;have V:ElemsOf (Fc prog w) D.toList:=hx.elems;have hsz:D.size < scanBound:=by unfold scanBound;omega
 have W:(Fc prog w).is k (.str k tk)=ah:=by simp[Fc,Value.isStrOf]
 refine Cb (Aa (Fn O H T.fits ?_));dsimp only;rw[byScan_of rfl hsz V];refine Aa (Aa (Fg (Aa (wpAny_setScan_of W O H T.fits V ?_))));cases hr:D.toList.findIdx? (λe=>(Fc prog w).is k e.2)with
 |some j=>
  obtain⟨hj,hpj,_⟩:=F6.mp hr;have hk:k∈cy D:=by
   obtain⟨u,hu⟩:=Value.isStrOf_shape hpj;exact A7.mpr ⟨_,E2 hj,hu▸rfl⟩
  refine Aj (Aj (h _ s.heap (Heap.SameBut.refl a s.heap) ⟨D,ep,t,T,hx,nd,λk'=>?_,by simp<;>omega⟩));simp_all<;>omega
 |none=>
  have hk:k∉cy D:=λz=>by
   obtain⟨e,he,e2⟩:=A7.mp z;obtain⟨k',t',e3,_⟩:=hx e he;have q:=List.findIdx?_eq_none_iff.mp hr e he;rw[e3]at e2 q;have e2:k'=k:=e2;subst e2;simp[Fc,Value.isStrOf]at q
  have M:∀b {s_:Ai} {Q':Unit->Ai->Prop},Q' () s_->A2 (A5 prog w) A (match b with|true=>rule "set.scan.the-table-gave-way"|false=>pure ()) Q' E s_:=
   λb s_ Q' hq=>by cases b with
    |true=>exact Fg hq
    |false=>exact Aj hq
  have Y:=layNew_perm t D (hashStr w k) (.str k tk);have hf:=layNew_fits t D (hashStr w k) (.str k tk);have G:=GA t D (hashStr w k) (.str k tk);have eh:(Fc prog w).hash k=hashStr w k:=rfl
  try rw[eh]
  generalize layNew t D _ _=L at Y hf G ⊢;obtain⟨c,t1,wd,gave⟩:=L;dsimp only at Y hf G ⊢;rw[Array.toList_push]at Y;obtain⟨x1,Z,m1,l1,z1⟩:=Iy hx nd hm hl hk Y;refine Aa (M _ ?_)
  split
  ·refine Aa (Aj ?_);have n:({t1 with plain:=ai}:Fk).plain=ai:=rfl;have C:=SetTable.fits_plain_off hf;have i:({t1 with plain:=ai}:Fk).led=t.led:=G;simp only[Hf,↓reduceIte];generalize({t1 with plain:=ai}:Fk)=g at n C i ⊢;have J:c.size < scanBound:=by unfold scanBound;omega
   refine Aa (wpAny_storeSet_of O H ?_ (fits_of_scanBound J));have K:=by
    have:=Bv (Obj.putSet c g) O ((putSet_of c g H)▸rfl);rw[putSet_of c g H]at this;omega
   have y:=Bf s.heap a (Obj.putSet c g)
   split
   ·have l:=relayAll_perm g c (SetTable.grown c.size);have m:=relayAll_fits g c (SetTable.grown c.size);obtain⟨p,r⟩:=ym g c _;generalize relayAll g c _=R at l m p r ⊢;obtain⟨x,X,I⟩:=R;dsimp only at l m p r ⊢;obtain⟨x2,n2,m2,z2⟩:=FH x1 Z l;refine Aa (M _ (Aa (wpAny_storeSet_of K rfl ?_ (fits_of_scanBound (by simp_all)))));have g2:=by
     have:=Bv (Obj.putSet x X) K (by rfl);assumption
    refine Aj (Aj (h _ _ (y.trans (Bf _ a _)) ⟨x,_,X,⟨⟨_,g2,F,rfl⟩,m,p▸i▸T.led,λz=>?_⟩,x2,n2,λk'=>(m2 k').trans (m1 k'),by simp_all⟩));simp_all<;>omega
   ·refine Aj (Aj (h _ _ y ⟨c,_,g,⟨⟨_,K,F,rfl⟩,C,i▸T.led,λz=>?_⟩,x1,Z,m1,l1⟩));simp_all<;>omega
  ·rename_i P;have n:=by simpa using P
   have C:=hf;have i:=G;refine Aa (Aj ?_);simp only[↓reduceIte];generalize t1=g at n C i ⊢;have J:c.size < scanBound:=by unfold scanBound;omega
   refine Aa (wpAny_storeSet_of O H ?_ (fits_of_scanBound J));have K:=by
    have:=Bv (Obj.putSet c g) O ((putSet_of c g H)▸rfl);rw[putSet_of c g H]at this;omega
   have y:=Bf s.heap a (Obj.putSet c g)
   split
   ·have l:=relayAll_perm g c (SetTable.grown c.size);have m:=relayAll_fits g c (SetTable.grown c.size);obtain⟨p,r⟩:=ym g c _;generalize relayAll g c _=R at l m p r ⊢;obtain⟨x,X,I⟩:=R;dsimp only at l m p r ⊢;obtain⟨x2,n2,m2,z2⟩:=FH x1 Z l;refine Aa (M _ (Aa (wpAny_storeSet_of K rfl ?_ (fits_of_scanBound (by simp_all)))));have g2:=by
     have:=Bv (Obj.putSet x X) K (by rfl);assumption
    refine Aj (Aj (h _ _ (y.trans (Bf _ a _)) ⟨x,_,X,⟨⟨_,g2,F,rfl⟩,m,p▸i▸T.led,λz=>?_⟩,x2,n2,λk'=>(m2 k').trans (m1 k'),by simp_all⟩));simp_all<;>omega
   ·refine Aj (Aj (h _ _ y ⟨c,_,g,⟨⟨_,K,F,rfl⟩,C,i▸T.led,λz=>?_⟩,x1,Z,m1,l1⟩));simp_all<;>omega
def gX(ks:List Str)(i:Nat)(v:Af):Prop:=∃k t,ks[i]?=ae k/\v=.str k t
theorem Nv{R:Result->Ai->Prop}{I:A'}{fp wr:List A'}{G:Array GenState->Array GenState->Prop}{n:Nat}{St:Nat->Ai->Prop}{ks:List Str}(W:WalksS prog w A.in1 I fp wr G n (gX ks) St)(S:A')(hSf:S∉fp)(hn:ks.length=n)(hb:n < 64):
  ∀(m i:Nat)(s:Ai),n-i=m->i<=n->St i s->gM w s.heap S (ks.take i)->
   (∀s',Moved (S::wr) G s s'->gM w s'.heap S ks->R (.ok (.ret .none)) s')->codeAny (A5 prog w) A (.builtin "set.update.loop" ⟨[.ref S,.ref I],[]⟩) R s:=by
 have p:=λh=>hSf (W.sub _ h);have c:∀b∈wr,b∈S::wr:=λb=>Ak _;have F:∀{h D:Heap}{a:List Str},(∀o,h.get? S=ae o->D.get? S=ae o)->gM w h S a->gM w D S a:=λk x=>by
  obtain⟨M,O,t,T,r⟩:=x;exact⟨M,O,t,T.move k,r⟩
 intro m
 induction m with
 |zero=>
  intro i s K J d z C;have B:i=n:=by omega
  subst B;refine Ex yN (Aa (W.done s _ _ d λs' j=>?_));rw[<-hn,List.take_length]at z;exact Aj (C s' (j.mono c) (F (λo=>j.heap S _ p) z))
 |succ m P=>
  intro i s K J d z C;have u:i < n:=by omega
  refine Ex yN (Aa (W.item i s _ _ u d λv s' L q j=>?_));obtain⟨k,t,E,rfl⟩:=L;refine Aa (Cb (Cb ?_));refine Aa (wpAny_pyHash_str (Og (F (λo=>j.heap S _ p) z) (by simp<;>omega) λb D g l=>?_));have Q:ks.take i++[k]=ks.take (i+1):=List.take_add_one▸E▸rfl;rw[Q]at l;refine Aj ⟨F8 Sq _,P _ _ ⋯ u (W.frame _ s' _ _ q (by simp) λb hb o e=>?_) l λs'' f y=>?_⟩
  ·rw[g.2 b (λh:b=S=>hSf (by grind))];exact e
  ·refine C s'' (Moved.trans W.gtrans ((j.mono c).then_heap (by simp) λb o hb e=>?_) f) y;rw[g.2 b (λh:b=S=>hb (by rw[h];simp))];exact e
end
theorem slot_setit_next:Slot "set_iterator" "__next__" "set_iterator.__next__":=Slot.of (owner:="set_iterator") (n:="__next__") (by rw[typeLookup_type,builtinLookup_eq_fast];kernel_rfl)
 ∅ ∅ ∅ (by first|exact .inl ∅|exact .inr ∅) (by rw[Fz];kernel_rfl)
theorem lH:entryFor table "set_iterator.__next__"=ae Es.«set_iterator.__next__»:=G0 (by kernel_rfl)
theorem uL(a:Af):argsOk "set_iterator.__next__" ⟨[a],[]⟩:=by unfold argsOk;kernel_rfl
theorem yr:Slot "set_iterator" "__iter__" "set_iterator.__iter__":=Slot.of (owner:="set_iterator") (n:="__iter__") (by rw[typeLookup_type,builtinLookup_eq_fast];kernel_rfl)
 ∅ ∅ ∅ (by first|exact .inl ∅|exact .inr ∅) (by rw[Fz];kernel_rfl)
theorem IM:entryFor table "set_iterator.__iter__"=ae Es.«dict_keyiterator.__iter__»:=by exact entryFor_alias (id':="dict_keyiterator.__iter__") (by kernel_rfl) rfl ∅ (by kernel_rfl)
theorem GI(a:Af):argsOk "set_iterator.__iter__" ⟨[a],[]⟩:=by unfold argsOk;kernel_rfl
theorem SO:entryFor table "set.__iter__"=ae Es.«frozenset.__iter__»:=by exact entryFor_alias (id':="frozenset.__iter__") (by kernel_rfl) rfl ∅ (by kernel_rfl)
def SetIt(h:Heap)(I:A')(first:Af)(i:Nat)(a:A')(n ep:Nat):Prop:=∃o,h.get? I=ae o/\o.cls=.type "set_iterator"/\o.data=.fields #[first,.int i 0,.ref a,.int n 0,.int ep 0]
section
variable{prog:A1}{w:Bh}{A:Bo}{E:Af->Ai->Prop}{s:Ai}{I a T:A'}{n ep i j:Nat}{es:Array (Int×Af)}{t:Fk}{first:Af}
theorem SetIt.typeIs(x:SetIt s.heap I first i a n ep):s.TypeIs (.ref I) "set_iterator":=let⟨o,e,c,_⟩:=x;⟨o,e,c⟩
theorem SetIt.move{h h':Heap}(x:SetIt h I first i a n ep)(k:∀o,h.get? I=ae o->h'.get? I=ae o):SetIt h' I first i a n ep:=let⟨o,e,r⟩:=x;⟨o,k o e,r⟩
theorem n6{Q:Af->Ai->Prop}(hit:SetIt s.heap I first i a n ep)(h:Q (.ref I) s):A2 (A5 prog w) A (pyIter (.ref I)) Q E s:=wpAny_pyIter_slot hit.typeIs yr (B9 yr hit.typeIs IM (Aj ⟨_,rfl,_,_,hit.typeIs,slot_setit_next.lookup,h⟩) (GI _))
theorem MD{pl:Array Af}{x:Int×Af}{Q:Option Af->Ai->Prop}(hit:SetIt s.heap I (.ref T) i a n ep)(hs:SetTb w s.heap a es ep t)(hn:es.size=n)(hT:s.heap.IsTuple T pl)(hp:pl[i]?=ae (.int j 0))(hx:es[j]?=ae x)
  (hQ:∀h',SetIt h' I (.ref T) (i+1) a n ep->C6 I s.heap h'->Q (ae x.2) {s with heap:=h'}):A2 (A5 prog w) A (pyNext (.ref I)) Q E s:=by
 obtain⟨o,e,h,d⟩:=id hit;obtain⟨m,c,_,b⟩:=hs.obj;obtain⟨k,g,_,l,f⟩:=hT;refine Aa (En (Bt hit.typeIs slot_setit_next (B9 slot_setit_next hit.typeIs lH ?_ (by trivial))));refine Aa (Aj (Aa (Fy e d ?_)));dsimp only;refine Aa (Ei c b hs.fits ?_);rw[a_ (by rw[hn];simp)];refine Aa (Dz g f ?_);simp only[Cz,hp];refine Aa (Aa (Fn c b hs.fits ?_));simp only[bne_self_eq_false,hx];refine Aj (Aa (C7 e d (by simp) (Aj ⟨x.2,rfl,Aj (hQ _ ?_ (Bf ..))⟩)));exact⟨_,Bv _ e (Dg (B5 d _)),(Eu ..).trans h,by
  rw[B5 d];rfl⟩
theorem MF{pl:Array Af}{Q:Option Af->Ai->Prop}(hh:A.handled=af)(hit:SetIt s.heap I (.ref T) i a n ep)(hs:SetTb w s.heap a es ep t)(hn:es.size=n)(hT:s.heap.IsTuple T pl)(hp:pl[i]?=af)
  (hQ:∀h',Heap.ExtBut I s.heap h'->Q af {s with heap:=h'}):A2 (A5 prog w) A (pyNext (.ref I)) Q E s:=by
 obtain⟨h,e,_,k,f⟩:=hT;obtain⟨o,c,j,b⟩:=id hit;obtain⟨l,g,_,d⟩:=hs.obj;refine Aa (En (Bt hit.typeIs slot_setit_next (B9 slot_setit_next hit.typeIs lH ?_ (uL _))));refine Aa (Aj (Aa (Fy c b ?_)));refine Aa (Ei g d hs.fits ?_);rw[a_ (by rw[hn];simp)];refine Aa (Dz e f ?_);simp only[Cz,hp];refine Aa (C7 c b (by simp) ?_);refine Aa (C7 (Bv (Obj.mapFields (·.setIfInBounds 0 (D6 0))) c (Dg (B5 b _))) (B5 b (·.setIfInBounds 0 (D6 0))) (by simp) (Aa ?_));refine Aa (B8 (Aa (G6 (by rfl) ?_)) (by size_fits));refine B8 (Aa (wpAny_handled ?_)) (by size_fits)
 first|rw[hh]|rw[hh]
 refine Aa (Aj (wpAny_throw ?_));refine Aa (E8 ⟨_,Au _ rfl,rfl⟩ isSubtype_stop ?_);exact Aj (hQ _ (((((Bf ..).trans (Bf ..)).extBut).push _).push _))
def kY(w:Bh)(a:A')(ep:Nat)(es:Array (Int×Af)):Array (Int×Af):=pickOrder (w.params.setOrder a ep) es
theorem zw{Q:Option (Af×Nat)->Ai->Prop}{k:Nat}(hb:cF w=ah)(hs:SetTb w s.heap a es ep t)(h:Q (((kY w a ep es)[i]?).map λe=>(e.2,k)) s):A2 (A5 prog w) A (setNext a k i ep) Q E s:=by
 obtain⟨d,c,_,b⟩:=hs.obj;refine Aa (Fn c b hs.fits (Aa (pZ ?_)));rw[hb];simp;refine Aa (Aa (Fn c b hs.fits ?_));refine Aa (pZ ?_);rw[hb];refine Aa (wpAny_askSetting (Aj (Aj h)))
theorem Hy{x:Int×Af}{Q:Option Af->Ai->Prop}(hb:cF w=ah)(hit:SetIt s.heap I (.int 0 0) i a n ep)(hs:SetTb w s.heap a es ep t)(hn:es.size=n)(hx:(kY w a ep es)[i]?=ae x)
  (hQ:∀h',SetIt h' I (.int 0 0) (i+1) a n ep->C6 I s.heap h'->Q (ae x.2) {s with heap:=h'}):A2 (A5 prog w) A (pyNext (.ref I)) Q E s:=by
 obtain⟨o,e,h,d⟩:=id hit;obtain⟨j,g,_,f⟩:=hs.obj;refine Aa (En (Bt hit.typeIs slot_setit_next (B9 slot_setit_next hit.typeIs lH ?_ (by trivial))));refine Aa (Aj (Aa (Fy e d ?_)));dsimp only;refine Aa (Ei g f hs.fits ?_);rw[a_ (by rw[hn];simp)];refine Aa (zw hb hs ?_);simp only[Cz,hx,Option.map_some];refine Aa (C7 e d (by simp) ?_);have c:=Bv (Obj.mapFields (·.setIfInBounds 0 (D6 ((0:Int).toNat:Nat)))) e (Dg (B5 d _));have b:=B5 d (·.setIfInBounds 0 (D6 ((0:Int).toNat:Nat)));refine Aa (C7 c b (by simp) (Aj ⟨x.2,rfl,Aj (hQ _ ?_ ((Bf ..).trans (Bf ..)))⟩));exact⟨_,Bv _ c (Dg (B5 b _)),(Eu ..).trans ((Eu ..).trans h),by
  rw[B5 b];rfl⟩
theorem KJ{Q:Option Af->Ai->Prop}(hh:A.handled=af)(hb:cF w=ah)(hit:SetIt s.heap I (.int 0 0) i a n ep)(hs:SetTb w s.heap a es ep t)(hn:es.size=n)(hx:(kY w a ep es)[i]?=af)
  (hQ:∀h',Heap.ExtBut I s.heap h'->Q af {s with heap:=h'}):A2 (A5 prog w) A (pyNext (.ref I)) Q E s:=by
 obtain⟨o,d,f,e⟩:=id hit;obtain⟨g,c,_,b⟩:=hs.obj;refine Aa (En (Bt hit.typeIs slot_setit_next (B9 slot_setit_next hit.typeIs lH ?_ (uL _))));refine Aa (Aj (Aa (Fy d e ?_)));dsimp only;refine Aa (Ei c b hs.fits ?_);rw[a_ (by rw[hn];simp)];refine Aa (zw hb hs ?_);simp only[Cz,hx,Option.map_none];refine Aa (C7 d e (by simp) (Aa ?_));refine Aa (B8 (Aa (G6 (by rfl) ?_)) (by size_fits));refine B8 (Aa (wpAny_handled ?_)) (by size_fits)
 first|rw[hh]|rw[hh]
 refine Aa (Aj (wpAny_throw ?_));refine Aa (E8 ⟨_,Au _ rfl,rfl⟩ isSubtype_stop ?_);exact Aj (hQ _ (((Bf ..).extBut.push _).push _))
theorem CU{Q:Option (Af×Nat)->Ai->Prop}{k:Nat}(hb:cF w=ai)(h1:es.size<=1)(hs:SetTb w s.heap a es ep t)
  (h:Q (match es[Ew t.place k]?,t.place[Ew t.place k]? with
   |some (_,x),ae j=>ae (x,j+1)
   |_,_=>af) s):A2 (A5 prog w) A (setNext a k i ep) Q E s:=by
 obtain⟨g,c,_,b⟩:=hs.obj;have e:t.led=ah:=hs.led▸hb▸rfl;refine Aa (Fn c b hs.fits (Aa (pZ ?_)));rw[hb];simp;have f:(!t.plain&&decide (es.size > 1))=ai:=by
  have:decide (es.size > 1)=ai:=d_ ⋯;rw[this,Bool.and_false]
 split
 ·rename_i z;have d:(!t.plain&&decide _)=ah:=z;rw[f]at d;cases d
 ·refine Aa (G6 (a:=()) ?_ (Aj h));show(if _=ah then unsupported "set:maker-not-led" else pure ())=pure ();rw[e];rfl
theorem OX{j:Nat}:Ew #[j] 0=0/\Ew #[j] (j+1)=1:=by
 constructor
 ·simp[Ew,SetTable.below.go]
 ·simp[Ew,SetTable.below.go]
theorem QP{x:Int×Af}{Q:Option Af->Ai->Prop}(hb:cF w=ai)(hp:t.place=#[j])(he:es=#[x])(hit:SetIt s.heap I (.int 0 0) 0 a 1 ep)(hs:SetTb w s.heap a es ep t)
  (hQ:∀h',SetIt h' I (.int ((j+1:Nat):Int) 0) 1 a 1 ep->C6 I s.heap h'->Q (ae x.2) {s with heap:=h'}):A2 (A5 prog w) A (pyNext (.ref I)) Q E s:=by
 have i:es.size=1:=by simp_all
 obtain⟨o,f,k,e⟩:=id hit;obtain⟨l,h,_,g⟩:=hs.obj;refine Aa (En (Bt hit.typeIs slot_setit_next (B9 slot_setit_next hit.typeIs lH ?_ (by trivial))));refine Aa (Aj (Aa (Fy f e ?_)));refine Aa (Ei h g hs.fits ?_);rw[a_ (by rw[i];simp)];refine Aa (CU hb ⋯ hs ?_);have m:Ew t.place (0:Int).toNat=0:=hp▸rfl;rw[hp,he];refine Aa (C7 f e (by simp) ?_);have d:=Bv (Obj.mapFields (·.setIfInBounds 0 (D6 ((j+1:Nat):Int)))) f (Dg (B5 e _));have b:=B5 e (·.setIfInBounds 0 (D6 ((j+1:Nat):Int)));refine Aa (C7 d b (by simp) (Aj ⟨x.2,rfl,Aj (hQ _ ?_ ((Bf ..).trans (Bf ..)))⟩));exact⟨_,Bv _ d (Dg (B5 b _)),(Eu ..).trans ((Eu ..).trans k),by
  rw[B5 b];rfl⟩
theorem EH{k:Nat}{Q:Option Af->Ai->Prop}(hh:A.handled=af)(hb:cF w=ai)(h1:es.size<=1)(hk:es[Ew t.place k]?=af)(hit:SetIt s.heap I (.int (k:Int) 0) i a n ep)(hs:SetTb w s.heap a es ep t)(hn:es.size=n)
  (hQ:∀h',Heap.ExtBut I s.heap h'->Q af {s with heap:=h'}):A2 (A5 prog w) A (pyNext (.ref I)) Q E s:=by
 obtain⟨o,d,f,e⟩:=id hit;obtain⟨g,c,_,b⟩:=hs.obj;refine Aa (En (Bt hit.typeIs slot_setit_next (B9 slot_setit_next hit.typeIs lH ?_ (uL _))));refine Aa (Aj (Aa (Fy d e ?_)));dsimp only;refine Aa (Ei c b hs.fits ?_);rw[a_ (by rw[hn];simp)];refine Aa (CU hb h1 hs ?_);rw[Cz,hk];refine Aa (C7 d e (by simp) (Aa ?_));refine Aa (B8 (Aa (G6 (by rfl) ?_)) (by size_fits));refine B8 (Aa (wpAny_handled ?_)) (by size_fits)
 first|rw[hh]|rw[hh]
 refine Aa (Aj (wpAny_throw ?_));refine Aa (E8 ⟨_,Au _ rfl,rfl⟩ isSubtype_stop ?_);exact Aj (hQ _ (((Bf ..).extBut.push _).push _))
end
section
variable{prog:A1}{w:Bh}{A:Bo}{E:Af->Ai->Prop}{s:Ai}{a:A'}{ep:Nat}{es:Array (Int×Af)}{t:Fk}
def jB(vs:List (Int×Af))(i:Nat)(v:Af):Prop:=∃e,vs[i]?=ae e/\v=e.2
structure SetWk(prog:A1)(w:Bh)(sz:Nat)(h':Heap)(a I:A')(vs:List (Int×Af)):Prop where
 above:sz<=I
 walk:∃(fp:List A')(St:Nat->Heap->Prop),(∀b∈fp,b=a\/sz<=b)/\(∀b∈fp,b < h'.objs.size)/\(∀A:Bo,A.handled=af->Walks prog w A I fp [I] vs.length (jB vs) St)/\St 0 h'
theorem QC{α:Type}{xs:Array α}{j:Nat}{d:α}(h:j < xs.size):xs[j]?=ae (xs.getD j d):=by
 simp[h]
theorem SD{ys:List Nat}{n:Nat}(hp:ys.Perm (A9 n))(hn:es.size=n):(ys.map λj=>es.getD j (0,Ca)).Perm es.toList:=by
 have b:=hp.map λj=>es.getD j ((0:Int),Ca);have a:(A9 n).map (λj=>es.getD j ((0:Int),Ca))=es.toList:=by
  apply Fp (by simp[hn]);intro i b a;simp at a;simp[a]
 rw[a]at b;omega
theorem RZ{I T:A'}{ys:List Nat}{n:Nat}(hne:a≠I)(hTI:T≠I)(hp:ys.Perm (A9 n))(hn:es.size=n)(A:Bo)(hh:A.handled=af):
  Walks prog w A I [I,a,T] [I] (ys.map λj=>es.getD j (0,Ca)).length (jB (ys.map λj=>es.getD j (0,Ca)))
   (λi h=>SetIt h I (.ref T) i a n ep/\SetTb w h a es ep t/\h.IsTuple T (ys.map λ(j:Nat)=>Value.int (j:Int) 0).toArray) where
 sub:=λb g=>by simp at g;simp[g]
 frame:=λ_ _ _ c p=>⟨c.1.move (p I (by simp)),c.2.1.move (p a (by simp)),let⟨o,e,r⟩:=c.2.2;⟨o,p T (by simp) o e,r⟩⟩
 item:=λi s Q E m c k=>by
  rw[Ab]at m;have u:ys[i] < es.size:=hn▸Ci.mp (hp.mem_iff.mp (by simp));refine MD c.1 c.2.1 hn c.2.2 (by simp[m]) (QC (d:=(0,Ca)) u) λh' l f=>k _ h' s.toks ⟨_,by rw[Am,Ah m];rfl,rfl⟩ ⟨l,c.2.1.move λo=>(f.2 a hne).trans,let⟨o,e,r⟩:=c.2.2;⟨o,(f.2 T hTI).trans e,r⟩⟩ λb o g=>f.extBut b o (λh=>g (by simp[h]))
 done:=λs Q E c k=>MF hh c.1 c.2.1 hn c.2.2 (by simp) λh' q=>k h' s.toks λb o g=>q b o (λh=>g (by simp[h]))
 self:=λ_ _ _ _ c=>n6 c.1
theorem L9{I:A'}{n:Nat}(hb:cF w=ah)(hne:a≠I)(hn:es.size=n)(A:Bo)(hh:A.handled=af):
  Walks prog w A I [I,a] [I] (kY w a ep es).toList.length (jB (kY w a ep es).toList) (λi h=>SetIt h I (.int 0 0) i a n ep/\SetTb w h a es ep t) where
 sub:=λb hb=>by simp at hb;simp[hb]
 frame:=λ_ _ _ c k=>⟨c.1.move (k I (by simp)),c.2.move (k a (by simp))⟩
 item:=λi s Q E l c d=>by
  have m:=Cg l;exact Hy hb c.1 c.2 hn m λh' f g=>d _ h' s.toks ⟨_,by rw[Bu];trivial⟩ ⟨f,c.2.move λo=>(g.2 a hne).trans⟩ λb o hb=>g.extBut b o (λh=>hb (by simp[h]))
 done:=λs Q E c d=>KJ hh hb c.1 c.2 hn (by simp) λh' j=>d h' s.toks λb o hb=>j b o (λh=>hb (by simp[h]))
 self:=λ_ _ _ _ c=>n6 c.1
theorem Kw{I:A'}(hb:cF w=ai)(hn:es.size=0)(A:Bo)(hh:A.handled=af):
  Walks prog w A I [I,a] [I] ([]:List (Int×Af)).length (jB []) (λ_ h=>SetIt h I (.int ((0:Nat):Int) 0) 0 a 0 ep/\SetTb w h a es ep t) where
 sub:=λb hb=>by simp at hb;simp[hb]
 frame:=λ_ _ _ c g=>⟨c.1.move (g I (by simp)),c.2.move (g a (by simp))⟩
 item:=λi s Q E k c d=>by simp_all
 done:=λs Q E c d=>EH hh hb ⋯ (by simp<;>omega) c.1 c.2 hn λh' f=>d h' s.toks λb o hb=>f b o (λh=>hb (by simp[h]))
 self:=λ_ _ _ _ c=>n6 c.1
theorem Hs{I:A'}{x:Int×Af}{j:Nat}(hb:cF w=ai)(hne:a≠I)(he:es=#[x])(hp:t.place=#[j])(A:Bo)(hh:A.handled=af):
  Walks prog w A I [I,a] [I] [x].length (jB [x]) (λi h=>((i=0/\SetIt h I (.int 0 0) 0 a 1 ep)\/(i=1/\SetIt h I (.int ((j+1:Nat):Int) 0) 1 a 1 ep))/\SetTb w h a es ep t) where
 sub:=λb hb=>by simp at hb;simp[hb]
 frame:=λ_ _ _ c m=>⟨c.1.imp (λz=>⟨z.1,z.2.move λo e=>m I (by simp) o e⟩) (λz=>⟨z.1,z.2.move λo e=>m I (by simp) o e⟩),c.2.move (m a (by simp))⟩
 item:=λi s Q E r c g=>by
  have n:i=0:=by simp_all
  subst n;rcases c.1 with⟨_,z⟩|⟨z,_⟩
  ·exact QP hb hp he z c.2 λh' k l=>g _ h' s.toks ⟨x,rfl,rfl⟩ ⟨.inr ⟨rfl,k⟩,c.2.move λo=>(l.2 a hne).trans⟩ λb o hb=>l.extBut b o (λh=>hb (by simp[h]))
  ·cases z
 done:=λs Q E c g=>by
  rcases c.1 with⟨z,_⟩|⟨_,z⟩
  ·cases z
  ·refine EH hh hb (by simp_all) ?_ z c.2 (by simp_all) λh' p=>g h' s.toks λb o hb=>p b o (λh=>hb (by simp[h]));rw[hp,OX.2,he];rfl
 self:=λi s Q E c g=>by
  rcases c.1 with⟨_,z⟩|⟨_,z⟩
  ·exact n6 z g
  ·exact n6 z g
theorem JS{Q:Af->Ai->Prop}(hs:SetTb w s.heap a es ep t)(h64:es.size < 64)
  (h:∀(h':Heap)(dr:Drawn)(I:A')(vs:List (Int×Af)),vs.Perm es.toList->(∀b o,s.heap.get? b=ae o->h'.get? b=ae o)->SetWk prog w s.heap.objs.size h' a I vs->Q (.ref I) {s with heap:=h',drawn:=dr}):
  A2 (A5 prog w) A (pyIter (.ref a)) Q E s:=by
 obtain⟨W,g,O,f⟩:=hs.obj;have k:=hs.lt;refine wpAny_pyIter_slot hs.typeIs F.slot_set_iter (B9 F.slot_set_iter hs.typeIs SO (Aa (Aj ?_)) (F.args_set_iter_1 _));refine Aa (Aa (Ei g f hs.fits (Aj (Aa ?_))));refine Aa (Fn g f hs.fits (Aa (pZ ?_)));refine Aj ?_
 split
 ·rename_i J;refine Aa (yd es.size _ s (by simp) λys dr B=>?_);have R:ys.length=es.size:=by rw[B.length_eq,Er]
  refine Aa (wpAny_newTuple ?_ (by rw[Ab,Ey];omega));refine Aa (wpAny_setEpoch_of (Ae ({cls:=.type "tuple",data:=.seq (ys.map λ(i:Nat)=>D6 i).toArray}:Obj) g) f hs.fits (Aa (B8 (Aj ⟨_,rfl,_,_,⟨_,Au _ rfl,rfl⟩,slot_setit_next.lookup,?_⟩))));have M:(s.heap.push _).get? s.heap.objs.size=ae {cls:=.type "tuple",data:=.seq (ys.map λ(i:Nat)=>D6 i).toArray}:=Au _ rfl;refine h _ dr _ _ (SD B rfl) (λb o e=>Ae _ (Ae _ e)) ⟨by rw[Cp];exact Nat.le_succ _,_,_,λb c=>?_,λb c=>?_,(RZ (by rw[Cp];exact Bd (Eb k)) (by simp) B rfl),⟨⟨_,Au _ rfl,rfl,rfl⟩,hs.move λo e=>Ae _ (Ae _ e),⟨_,Ae _ M,rfl,_,rfl⟩⟩⟩
  ·simp only[Ar,A8,h_]at c;rcases c with rfl|rfl|rfl
   ·rw[Cp];simp
   ·exact .inl rfl
   ·exact .inr (by simp)
  ·simp only[Ar,A8,h_]at c;rw[Cp,Cp];rcases c with rfl|rfl|rfl
   ·rw[Cp];simp
   ·exact Eb (Eb k)
   ·exact Eb (by simp)
 ·rename_i J;refine Aa (Aj (Aa (wpAny_setEpoch_of g f hs.fits ?_)));refine Aa (B8 (Aj ⟨_,rfl,_,_,⟨_,Au _ rfl,rfl⟩,slot_setit_next.lookup,?_⟩));have n:SetIt (s.heap.push {cls:=.type "set_iterator",data:=.fields #[D6 0,D6 0,.ref a,D6 es.size,D6 ep]}) s.heap.objs.size (.int 0 0) 0 a es.size ep:=⟨_,Au _ rfl,rfl,rfl⟩;have p:SetTb w (s.heap.push {cls:=.type "set_iterator",data:=.fields #[D6 0,D6 0,.ref a,D6 es.size,D6 ep]}) a es ep t:=hs.move λo=>Ae _;have v:∀b o,s.heap.get? b=ae o->(s.heap.push {cls:=.type "set_iterator",data:=.fields #[D6 0,D6 0,.ref a,D6 es.size,D6 ep]}).get? b=ae o:=λb o=>Ae _;have C:∀b∈[s.heap.objs.size,a],b=a\/s.heap.objs.size<=b:=λb c=>by
   simp only[Ar,A8,h_]at c;rcases c with rfl|rfl
   ·exact .inr (by simp)
   ·exact .inl rfl
  have z:∀b∈[s.heap.objs.size,a],b < (s.heap.push {cls:=.type "set_iterator",data:=.fields #[D6 0,D6 0,.ref a,D6 es.size,D6 ep]}).objs.size:=λb c=>by
   simp only[Ar,A8,h_]at c;rw[Cp];rcases c with rfl|rfl
   ·exact Nat.lt_succ_self _
   ·exact Eb k
  have u:=Bd k;cases c:cF w with
  |true=>exact h _ s.drawn _ (kY w a ep es).toList (P8 _ _) v ⟨Bc _,_,_,C,z,(L9 c u rfl),⟨n,p⟩⟩
  |false=>
   have H:¬((!cF w&&(!t.plain&&decide _))=ah):=J;have m:(!cF w&&(!t.plain&&decide (es.size > 1)))=ai:=by simpa using H
   have V:es.size<=1:=by
    rw[c]at m;by_cases T:es.size<=1
    ·exact T
    ·have N:decide (es.size > 1)=ah:=c_ ⋯;rw[N]at m;have D:=by simpa using m
     have:=hs.plain D;omega
   by_cases K:es.size=0
   ·have S:=Gy ⋯;refine h _ s.drawn _ [] (by rw[S]) v ⟨Bc _,_,_,C,z,(Kw c K),⟨?_,p⟩⟩;rw[K]at n ⊢;omega
   ·have y:es.size=1:=by omega
    obtain⟨x,r⟩:∃x,es=#[x]:=by
     have:=by omega
     obtain⟨x,r⟩:=List.length_eq_one_iff.mp this;exact⟨x,Gp.mp r⟩
    have U:t.place.size=1:=by
     have:=hs.fits;simp only[SetTable.fits,beq_iff_eq]at this;simp_all
    obtain⟨j,P⟩:∃j,t.place=#[j]:=by
     have:=by omega
     obtain⟨x,r⟩:=List.length_eq_one_iff.mp this;exact⟨x,Gp.mp r⟩
    refine h _ s.drawn _ [x] (by rw[r]) v ⟨Bc _,_,_,C,z,(Hs c u r P),⟨.inl ⟨rfl,?_⟩,p⟩⟩;rw[y]at n ⊢;omega
end
theorem Mp:entryFor table "proto.collect"=ae Es.«proto.collect»:=G0 (by kernel_rfl)
theorem L6:entryFor table "list.__iadd__"=ae Es.«list.__iadd__»:=G0 (by kernel_rfl)
section
variable{prog:A1}{w:Bh}{A:Bo}{E:Af->Ai->Prop}{s:Ai}{a:A'}{ep:Nat}{es:Array (Int×Af)}{t:Fk}
theorem KQ{Q:Bool->Ai->Prop}(hT:s.TypeIs (.ref a) "set")(h:Q ai s):A2 (A5 prog w) A (Builtin.List.listLengthHint (.ref a)) Q E s:=by
 unfold Builtin.List.listLengthHint;refine Aa (wpAny_specialOf hT F.slot_set_len.lookup ?_);generalize hid:("set.__len__":String)=id0
 wp_delta
 rw[show splitId id0=ae ("set","__len__")from by subst hid;decide +kernel];subst hid;refine Aa (E8 (T:="set") (b:=ah) hT (by rw[Fz];kernel_rfl) ?_);refine wpAny_ite_split (λhab=>g_ hab ∎) (λ_=>?_);refine wpAny_ite_split (λ_=>?_) (λhab=>g_ ∅ hab);refine Aa (Gt hT ?_);exact Aj h
theorem Ot{R:Result->Ai->Prop}(hh:A.handled=af)(hs:SetTb w s.heap a es ep t)(h64:es.size < 64)(S:A')(hSa:S≠a)(res:Af)(hS:s.heap.get? S=ae {cls:=.type "list",data:=.seq #[]})
  (hR:∀h' tk dr (vs:List (Int×Af)) j_ c,vs.Perm es.toList->(∀b o,b≠S->s.heap.get? b=ae o->h'.get? b=ae o)->h'.get? S=ae {cls:=.type "list",dict:=af,data:=.seq j_ c,slots:=#[]}->ItemsOf (jB vs) j_ vs.length->R (.ok (.ret res)) {s with heap:=h',toks:=tk,drawn:=dr}):
  A2 (A5 prog w) A.in1 (Builtin.List.listExtendWith (.ref S) (.ref a) res)
   (λfin s'=>match fin with|.done f=>R (.ok f) s'|.again c'=>c'.quiet=ah/\codeAny (A5 prog w) A c' R s') (λe s'=>R (.error e) s') s:=by
 refine Aa (Gt hs.typeIs ?_);have P:Builtin.List.listSameRef (.ref S) (.ref a)=ai:=by simp[Builtin.List.listSameRef,hSa]
 have U:(Et "set"==Et "list")=ai:=by decide
 have X:(Et "set"==Et "tuple")=ai:=by decide
 simp only[P,if_false];refine Aa (JS hs h64 λh' dr I vs L x Q=>?_);obtain⟨N,V,St,H,T,W,M⟩:=Q;have v:=λhm=>(H S hm).elim hSa λz=>Nat.lt_irrefl _ (Bn (Aw hS) z);have k:=x S _ hS;have K:vs.length=es.size:=by rw[L.length_eq,Bx]
 have m:∀h J tk,St 0 h->(∀b o,b≠S->s.heap.get? b=ae o->h.get? b=ae o)->
   h.get? S=ae {cls:=.type "list",data:=.seq #[] J}->codeAny (A5 prog w) A (.builtin "list.extend.loop" ⟨[.ref S,.ref I,res],[]⟩) R {s with heap:=h,toks:=tk,drawn:=dr}:=by
  intro h J tk G D B;refine codeAny_extend_loopS (W A.in1 hh).toS (by rw[Ey];omega) S v res vs.length 0 _ #[] J rfl (by simp) G B (ItemsOf.nil _) λs' q c' hm E n=>?_;rw[Moved.eq_with hm];refine hR s'.heap s'.toks dr vs q c' L (λb o l e=>hm.heap b o (λhmem=>?_) (D b o l e)) E n;rcases Ar.mp hmem with O|hmem
  ·exact l O
  ·exact g_ (Aw e) ((Bm.mp hmem)▸Nat.not_lt.mpr N)
 refine Aa (Cb (KQ (hs.move (x a)).typeIs (wpAny_ite_split (λ_=>?_) (λ_=>Aj ⟨F8 PySem.F.plain_extend_loop _,m _ 0 _ M (λb o _=>x b o) k⟩))));refine Aa (Fg (Aa ?_));refine Aa (wpAny_updateSeq k rfl ?_);have p:=Bv (Dr (·.push Ca)) k rfl;refine wpAny_updateSeq p rfl ?_;refine Aj ⟨F8 PySem.F.plain_extend_loop _,m _ _ _ ?_ (λb o l e=>?_) (Bv (Dr (·.pop)) p rfl)⟩
 ·refine(W A hh).frame 0 _ _ M λb l o e=>?_;have r:b≠S:=λh=>v (h▸l);exact(C5 _ _ (Ne.symm r)).trans ((C5 _ _ (Ne.symm r)).trans e)
 ·exact(C5 _ _ (Ne.symm l)).trans ((C5 _ _ (Ne.symm l)).trans (x b o e))
theorem xJ{vs:List (Int×Af)}{j_:Array Af}(h:ItemsOf (jB vs) j_ vs.length):j_.toList=vs.map (·.2):=by
 apply List.ext_getElem?;intro i;by_cases d:i < vs.length
 ·have a:i < j_.size:=by rw[h.1];exact d
  obtain⟨e,c,b⟩:=h.2 i j_[i] (Cg a);rw[Am,c,Bu,Cg a,b];rfl
 ·rw[Ce (by rw[Bx,h.1];omega),Ce (by simp<;>omega)]
theorem Hl{R:List Af->Ai->Prop}(hh:A.handled=af)(hs:SetTb w s.heap a es ep t)(h64:es.size < 64)
  (h:∀(h':Heap)(tk:Nat)(dr:Drawn)(vs:List (Int×Af)),vs.Perm es.toList->(∀b o,s.heap.get? b=ae o->h'.get? b=ae o)->R (vs.map (·.2)) {s with heap:=h',toks:=tk,drawn:=dr}):
  A2 (A5 prog w) A (collect (.ref a)) R E s:=by
 refine Aa (wpAny_runValue (Ex Mp (Aa (B8 ?_))));refine Aj ⟨F8 PySem.F.plain_list_iadd _,Ex L6 ?_⟩;have n:(s.heap.push {cls:=.type "list",data:=.seq ([]:List Af).toArray}).get? s.heap.objs.size=ae {cls:=.type "list",data:=.seq #[]}:=Au _ rfl;have m:=Ot (prog:=prog) (s:={ s with heap:=s.heap.push {cls:=.type "list",data:=.seq ([]:List Af).toArray}})
  (R:=λq r=>∃(h':Heap)(tk:Nat)(dr:Drawn)(vs:List _)(d:Array Af)(l:Nat),q=.ok _/\r={ s with heap:=h',toks:=tk,drawn:=dr}/\vs.Perm es.toList /\
   (∀b o,s.heap.get? b=ae o->h'.get? b=ae o)/\h'.get? s.heap.objs.size=ae {cls:=.type "list",dict:=af,data:=.seq d l,slots:=#[]}/\ItemsOf (jB vs) d vs.length)
  hh (hs.move λo=>Ae _) h64 s.heap.objs.size (Ft hs.lt) (.ref s.heap.objs.size) n
  (λh' tk dr vs d l k j g c=>⟨h',tk,dr,vs,_,l,rfl,rfl,k,λb o e=>j b o (Bd (Aw e)) (Ae _ e),g,c⟩)
 refine C8 m (λfin r x=>?_) λe r x=>?_
 ·cases fin with
  |done f=>
   obtain⟨h',tk,dr,vs,d,l,e,rfl,k,j,g,c⟩:=x;cases e;refine Aa (wpAny_load g (Aj ?_));rw[xJ c];exact h h' tk dr vs k j
  |again C=>
   refine⟨x.1,codeAny_mono x.2 λq B y=>?_⟩;obtain⟨h',tk,dr,vs,d,l,rfl,rfl,k,j,g,c⟩:=y;refine Aa (wpAny_load g (Aj ?_));rw[xJ c];exact h h' tk dr vs k j
 ·obtain⟨_,_,_,_,_,_,z,_⟩:=x;cases z
end
def c7(w:Bh):Obj:={ cls:=.type "set",dict:=af,data:=.set #[] 0 (.fresh 0 0 (!cF w))}
section
variable{prog:A1}{w:Bh}{A:Bo}{E:Af->Ai->Prop}{s:Ai}
theorem Pp{h:Heap}{a:A'}(e:h.get? a=ae (c7 w)):gM w h a []:=
 ⟨#[],0,_,⟨⟨_,e,⟨rfl,rfl,rfl⟩,rfl⟩,rfl,rfl,λ_=>rfl⟩,λe b=>by simp at b,List.Pairwise.nil,λk=>by simp[cy],Bc _⟩
theorem SY(a:Af){Q₁:Af->Ai->Prop}(h:Q₁ (.ref s.heap.objs.size) {s with heap:=s.heap.push (c7 w)}):
  codeAny (A5 prog w) A (.call (.builtin "set.__new__") ⟨[.type "set",a],[]⟩) (wants Q₁ E) s:=by
 refine codeAny_of_tree (Aa (G6 (F.newCall_set_1 a) (Aj ⟨F8 F.plain_set_new _,Ex F.entry_set_new ?_⟩)));unfold Es.«set.__new__» Builtin.Frozenset.newClass;have b:=sub_set_self;dsimp only
 wp_walk
 exact wpAny_askSetting (Aj (Aa (wpAny_alloc (Aj (Aj h)))))
structure TxSrc(prog:A1)(w:Bh)(T:String)(x:A')(ks:List Str)(OK:Heap->Prop):Prop where
 type:∀s:Ai,OK s.heap->s.TypeIs (.ref x) T
 there:∀h:Heap,OK h->x < h.objs.size
 keep:∀h h':Heap,OK h->(∀o,h.get? x=ae o->h'.get? x=ae o)->OK h'
 notSet:isSubtype (.type T) (.type "set")=pure ai
 notFrozen:isSubtype (.type T) (.type "frozenset")=pure ai
 notDict:(Et T==Et "dict")=ai
 iter:∀s:Ai,OK s.heap->∃(oI:Obj)(St:Nat->Heap->Prop),
  (∀(A:Bo)(E:Af->Ai->Prop)(Q:Af->Ai->Prop),Q (.ref s.heap.objs.size) {s with heap:=s.heap.push oI}->A2 (A5 prog w) A (pyIter (.ref x)) Q E s) /\
  (∀A:Bo,A.handled=af->Walks prog w A s.heap.objs.size [s.heap.objs.size,x] [s.heap.objs.size] ks.length (gX ks) St)/\St 0 (s.heap.push oI)
set_option maxHeartbeats 3200000 in
theorem wQ{T:String}{x:A'}{ks:List Str}{OK:Heap->Prop}{Q:Af->Ai->Prop}(K:TxSrc prog w T x ks OK)(hh:A.handled=af)(hok:OK s.heap)(h64:ks.length < 64)
  (h:∀(h':Heap)(tk:Nat),gM w h' s.heap.objs.size ks->(∀b o,b < s.heap.objs.size->s.heap.get? b=ae o->h'.get? b=ae o)->Q (.ref s.heap.objs.size) {s with heap:=h',toks:=tk}):
  A2 (A5 prog w) A (call (.type "set") [.ref x]) Q E s:=by
 obtain⟨c,tl,N⟩:=F.called_set.mro;have z:=F.called_set.made;have U:=F.called_set.sub;refine wpAny_call (codeAny_of_tree ?_);show A2 _ _ (callAny (.type "set") _) _ _ _;refine Aj ⟨Code.quiet_builtin _ ∅,Ex F.entry_type_call ?_⟩;rw[Around.under_plain (weight_type_call_type "set" [.ref x] []) rfl];have h1:=F.called_set.notType;have h2:=F.called_set.canCreate;have hct:=F.typeCall_set_1 (.ref x)
 repeat (any_goals (first|assumption|wp_step))
 refine codeAny_mono (SY (.ref x) (E:=E) (Q₁:=λobj S=>obj=.ref s.heap.objs.size/\S={ s with heap:=s.heap.push (c7 w)}) ⟨rfl,rfl⟩) λr S v=>?_;cases r with
 |error e=>exact v
 |ok fl=>
  cases fl with
  |ret obj=>
   obtain⟨rfl,rfl⟩:=v;have M:(s.heap.push (c7 w)).get? s.heap.objs.size=ae (c7 w):=Au _ rfl;have hT:Shared.TypeIs {s with heap:=s.heap.push (c7 w)} (.ref s.heap.objs.size) "set":=⟨_,M,rfl⟩;have V:=F.called_set.init.lookup;have hbi:=F.called_set.init.bind (.ref s.heap.objs.size)
   repeat (any_goals (first|assumption|wp_step))
   refine codeAny_mono (codeAny_call_builtin (R:=wants (λr O=>r=.none/\∃h' tk,O={ s with heap:=h',toks:=tk}/\gM w h' s.heap.objs.size ks /\
     (∀b o,b < s.heap.objs.size->s.heap.get? b=ae o->h'.get? b=ae o)) E) F.called_set.init.plain F.entry_set_init (check_set_init_1 hT ?_)) λA_ O g=>?_
   ·have f:OK (s.heap.push (c7 w)):=K.keep _ _ hok λo=>Ae _;have X:Shared.TypeIs {s with heap:=s.heap.push (c7 w)} (.ref x) T:=K.type {s with heap:=s.heap.push (c7 w)} f;have L:=K.notSet;have J:=K.notFrozen;have hne:=K.notDict;unfold Es.«set.__init__» noKeywords Builtin.Frozenset.updateFrom;generalize n:pyIter=PI
    wp_walk
    subst n;have q:A.in1.in1.in1.handled=af:=by simp[hh]
    obtain⟨oI,St,p,W,Y⟩:=K.iter {s with heap:=s.heap.push (c7 w)} f;refine p _ _ _ ?_;refine Aa (wpAny_runValue ?_);have u:x < s.heap.objs.size:=K.there _ hok;have B:s.heap.objs.size∉[(s.heap.push (c7 w)).objs.size,x]:=by
     rw[Cp];simp only[Ar,Bm,A8,h_,not_or];exact⟨Bd (Nat.lt_succ_self _),Ft u⟩
    refine Nv (W _ q).toS s.heap.objs.size B rfl h64 (ks.length-0) 0 _ ⋯ (Be _) Y (Pp (Ae _ M)) ?_;intro s' m i;obtain⟨h',g',d',C,H⟩:=s';have eg:g'=s.gens:=m.gens;have ed:d'=s.drawn:=m.drawn;have eo:H=s.os:=m.os;subst eg;subst ed;subst eo;show A2 _ _ _ _ _ _;refine Aj ?_;show A2 _ _ (ret Ca) _ _ _;refine Aj ⟨rfl,h',C,rfl,i,λb o P e=>?_⟩;have y:b≠s.heap.objs.size:=Bd P;have I:b≠(s.heap.push (c7 w)).objs.size:=by
     rw[Cp];exact Bd (Eb P)
    exact m.heap b o (by simp only[Ar,Bm,A8,h_,not_or];exact⟨y,I⟩) (Ae _ (Ae _ e))
   ·cases A_ with
    |error e=>exact g
    |ok t=>
     cases t with
     |ret r=>
      obtain⟨rfl,h',tk,rfl,i,G⟩:=g
      repeat (any_goals (first|assumption|wp_step))
      exact h _ _ i G
     |_=>exact g.elim
  |_=>exact v.elim
theorem IG{x:A'}{ks:List Str}{items:Array Af}(hk:∀i v,items[i]?=ae v->gX ks i v)(hl:items.size=ks.length):TxSrc prog w "list" x ks (λh=>h.IsList x items) where
 type:=λs h=>h.typeIs
 there:=λh hl=>let⟨_,e,_⟩:=hl;Aw e
 keep:=λh h' hl k=>let⟨o,e,r⟩:=hl;⟨o,k o e,r⟩
 notSet:=by rw[Fz];kernel_rfl
 notFrozen:=by rw[Fz];kernel_rfl
 notDict:=by decide
 iter:=λs hok=>⟨_,(λi h=>h.IsListIter s.heap.objs.size x i/\h.IsList x items),(λA E Q hq=>wpAny_pyIter_list hok hq),(λA hh=>by
  have W:=Walks.list (prog:=prog) (w:=w) hh s.heap.objs.size x (Bd (let⟨_,e,_⟩:=hok;Aw e)) items;refine⟨W.sub,W.frame,λi s Q E hi st hQ=>W.item i s Q E (by rw[hl];exact hi) st λv h' tk hv a b=>hQ v h' tk (hk i v hv) a b,?_,W.self⟩;rw[<-hl];exact W.done),⟨⟨_,Au _ rfl,rfl,rfl⟩,hok.push _⟩⟩
theorem Oy{x:A'}{ks:List Str}{items:Array Af}(hk:∀i v,items[i]?=ae v->gX ks i v)(hl:items.size=ks.length):TxSrc prog w "tuple" x ks (λh=>h.IsTuple x items) where
 type:=λs h=>h.typeIs
 there:=λh hl=>let⟨_,e,_⟩:=hl;Aw e
 keep:=λh h' hl k=>let⟨o,e,r⟩:=hl;⟨o,k o e,r⟩
 notSet:=by rw[Fz];kernel_rfl
 notFrozen:=by rw[Fz];kernel_rfl
 notDict:=by decide
 iter:=λs hok=>⟨_,(λi h=>h.IsTupleIter s.heap.objs.size x i/\h.IsTuple x items),(λA E Q hq=>D8 hok hq),(λA hh=>by
  have W:=Walks.tuple (prog:=prog) (w:=w) hh s.heap.objs.size x (Bd (let⟨_,e,_⟩:=hok;Aw e)) items;refine⟨W.sub,W.frame,λi s Q E hi st hQ=>W.item i s Q E (by rw[hl];exact hi) st λv h' tk hv a b=>hQ v h' tk (hk i v hv) a b,?_,W.self⟩;rw[<-hl];exact W.done),⟨⟨_,Au _ rfl,rfl,rfl⟩,hok.push _⟩⟩
end
def gK(w:Bh)(v:A')(ks:List Str):HO:=.ext λh=>gM w h v ks
def uM(w:Bh):List V->Hp->VK->Prop:=λxs H Q=>∃(a:A')(ks:List Str),xs=[.ref a]/\(H a=ae (.lst (ks.map V.str))\/H a=ae (.tup (ks.map V.str)))/\ks.length < 64/\∀v,H v=af->Q (.ref v) (upd H v (gK w v ks))
theorem BP{ks:List Str}{vs:List Af}(h:Vals (ks.map V.str) vs)(i:Nat)(v:Af)(e:vs.toArray[i]?=ae v):gX ks i v:=by
 have c:vs[i]?=ae v:=by simp_all
 have b:=h.length;rw[Ab]at b;have d:i < ks.length:=b▸(Ap.mp c).1;obtain⟨u,a,f⟩:=h.get (by rw[Am,Ah d];rfl);rw[c]at a;cases a;obtain⟨t,g⟩:=f;exact⟨_,t,Ah d,g⟩
theorem AA{ks:List Str}{vs:List Af}(h:Vals (ks.map V.str) vs):vs.toArray.size=ks.length:=by
 have a:=h.length;simp_all<;>omega
theorem NL{X:Cx}(hh:X.A.handled=af):CallR X (.type "set") (uM X.w):=by
 intro i s σ H P O Q I r h;obtain⟨a,C,rfl,j,d,q⟩:=h;obtain⟨u,rfl,L⟩:=e8 r;cases(L);have g:∀h' v,gM X.w h' s.heap.objs.size C->(∀b o,b < s.heap.objs.size->s.heap.get? b=ae o->h'.get? b=ae o)->EP X i σ Q _ {s with heap:=h',toks:=v}:=λh' v z F=>by
  have m:∃o,h'.get? s.heap.objs.size=ae o:=by
   obtain⟨x,y,t,T,_⟩:=z;obtain⟨o,e,_⟩:=T.obj;exact⟨o,e⟩
  refine⟨.ref s.heap.objs.size,_,I.laid (o:=gK X.w s.heap.objs.size C) (λb o e=>F b o (Aw e) e) (by simp) ⟨z,m,λh1 N q k=>?_⟩,rfl,q _ (I.hok.fresh (by simp))⟩;obtain⟨x,y,t,T,r⟩:=q;exact⟨x,y,t,T.move λo=>k _,r⟩
 rcases j with j|j
 ·obtain⟨E,J,c,f,D⟩:=I.hok a _ j;exact wQ (IG (BP f) (AA f)) hh ⟨_,D,rfl,_,rfl⟩ d g
 ·obtain⟨E,J,f,o,G,M,⟨n,K⟩,_⟩:=I.hok a _ j;exact wQ (Oy (BP f) (AA f)) hh ⟨o,G,M,n,K⟩ d g
theorem Inv.drew{X:Cx}{i_:List (A'×Obj)}{σ:St}{H:Hp}{s:Ai}(I:Inv X i_ σ H s)(dr:Drawn):Inv X i_ σ H {s with drawn:=dr}:=⟨I.ok,I.os,I.bare,I.base,I.loc,I.cell,I.free,I.freeC,I.pin,I.hok,I.len⟩
theorem Jw{X:Cx}{i_:List (A'×Obj)}{σ:St}{H:Hp}{s:Ai}{h':Heap}{tk:Nat}{vs:List Af}{ks:List Str}{Q:VK}(I:Inv X i_ σ H s)(hkp:∀b o,s.heap.get? b=ae o->h'.get? b=ae o)(hT:TxOk vs ks)(h64:ks.length < 64)
  (q:∀(D:A')(ys:List Str),ys.Perm ks->ys.Pairwise (λa b=>¬b.cps.toList < a.cps.toList)->H D=af->Q (.ref D) (upd H D (.lst (ys.map V.str)))):
  vs.length<=Av/\A2 (A5 X.prog X.w) X.A.in1.in1 (Es.«list.sort» ⟨[.ref h'.objs.size],[]⟩) (λf s2=>f=.done (.ret .none)/\EP X i_ σ Q (.ref h'.objs.size) s2) X.xe {s with heap:=h'.push (Ck "list" vs.toArray 0),toks:=tk}:=by
 have K:=hT.1;refine⟨K▸ej ⋯,?_⟩;have p:(h'.push _).get? h'.objs.size=ae (Ck "list" vs.toArray 0):=Au _ rfl;have n:∀(idx:List Nat) h3 c,idx.Perm _->(idx.map λi=>ks.getD i _).Pairwise _->
   (∀b o,b≠h'.objs.size->(h'.push (Ck "list" vs.toArray 0)).get? b=ae o->h3.get? b=ae o)->h3.get? h'.objs.size=ae _->EP X i_ σ Q _ {s with heap:=h3,toks:=tk}:=λidx h3 c B hw R S=>by
  have N:Inv X i_ σ H {s with heap:=h',toks:=tk}:=I.kept hkp;have x:=N.hok.fresh (Bc _);refine⟨.ref h'.objs.size,_,N.laid (o:=.lst _) (λb o e=>R b o (Bd (Aw e)) (Ae _ e)) (by simp) ⟨?_,_,c,vO hT idx (λi u=>Ci.mp (B.mem_iff.mp u)),S⟩,rfl,q _ _ (CG B) hw x⟩;rw[Ab,Ab,B.length_eq,Er];exact ej ⋯
 by_cases y:2<=vs.length
 ·refine KS.ls_sort p y ⋯ λe1 h4 m J=>kas_kind (T:=Et "str") y (λf W=>?_) rfl rfl ?_
  ·obtain⟨j,v⟩:=Bz.mp W;obtain⟨k,t,_,rfl⟩:=hT.2 j f v;exact .now
  ·have x:0 < vs.length:=by omega
   have r:=KS.wi_sort x;refine KS.wp_run (c:=KS.ltK ks) (St:=λs'=>s'={ s with heap:=h4,toks:=tk}) (λi j C s' u v hs hC=>?_) _ _ r rfl λs' G=>?_
   ·subst hs;obtain⟨P,t1,a1,a2⟩:=hT.2 i vs[i] (Ah u);obtain⟨L,t2,b1,Y⟩:=hT.2 j vs[j] (Ah v);unfold kas_ask;have g1:vs.getD i Ca=.str P t1:=by simp[u,a2]
    have g2:vs.getD j Ca=.str L t2:=by simp[v,Y]
    rw[g1,g2];have U:ks.getD i ⟨#[]⟩=P:=by simp[a1]
    have c2:ks.getD j ⟨#[]⟩=L:=by simp[b1]
    have:=hC _ rfl;unfold KS.ltK at this;rw[U,c2]at this;exact kas_lt_str this
   ·subst G;refine⟨m,λh3 c sb E=>⟨rfl,?_⟩⟩;have l:KS.Pm vs.length (KS.run (KS.ltK ks) _):=KS.Wi.out _ r;have M:=by
     have:=G9.mp l;omega
    refine n _ h3 c (by grind) (uU l.size (KS.sort_ok (KS.ordK ks) x)) (λb o O e=>(sb.2 b O).trans (J b o O e)) E
 ·refine KS.ls_short p ⋯ λh4 c m J=>⟨rfl,?_⟩;have el:vs=(A9 ks.length).map λi=>vs.getD i Ca:=by
   apply Fp (by simp[K]);intro i Z y;simp[Z]
  have F:h4.get? h'.objs.size=ae (Ck "list" (E7 ((A9 ks.length).map λi=>vs.getD i Ca)) c):=by rw[<-el];omega
  refine n _ h4 c (by simp) ?_ J F;have:(A9 ks.length).length<=1:=by simp;omega
  match hr:A9 ks.length,this with
  |[],_=>exact .nil
  |[i],_=>exact Ea _ _
def ui(w:Bh):List V->Hp->VK->Prop:=λxs H Q=>∃(v:A')(ks:List Str),xs=[.ref v]/\H v=ae (gK w v ks)/\ks.length < 64 /\
 ∀(D:A')(ys:List Str),ys.Nodup->(∀k,k∈ys↔k∈ks)->ys.Pairwise (λa b=>¬b.cps.toList < a.cps.toList)->H D=af->Q (.ref D) (upd H D (.lst (ys.map V.str)))
theorem GN{w:Bh}{es vs:List (Int×Af)}(h:∀e∈es,∃k t,e.2=.str k t/\e.1=hashStr w k)(p:vs.Perm es):TxOk (vs.map (·.2)) (vs.map λe=>fR e.2):=by
 refine⟨by rw[Ab,Ab],λj v a=>?_⟩;rw[Am]at a;cases e:vs[j]? with
 |none=>rw[e]at a;cases a
 |some x=>
  rw[e]at a;obtain⟨k,t,b,_⟩:=h x (p.mem_iff.mp (Az e));refine⟨k,t,?_,(B2 a)▸b⟩;rw[Am,e];show ae (fR x.2)=ae k;rw[b];rfl
theorem KC{X:Cx}(hh:X.A.handled=af):CallR X (.builtin "sorted") (ui X.w):=by
 intro C s σ H Z W Q I r h;obtain⟨v,S,rfl,M,n,q⟩:=h;obtain⟨u,rfl,P⟩:=e8 r;cases(P);obtain⟨V,Y,t,T,N,L,K,E⟩:=(I.hok v _ M).1;have a:=D7 E n;refine KS.sorted_of (R:=λvs B=>∃(h':Heap)(i:Nat)(f:Drawn)(g:List Str),B={ s with heap:=h',toks:=i,drawn:=f}/\(∀b o,s.heap.get? b=ae o->h'.get? b=ae o)/\TxOk vs g/\g.Nodup/\(∀k,k∈g↔k∈S)/\g.length < 64)
  (Hl hh T a λh' i f vs d J=>?_) ?_
 ·have z:=List.Perm.map (λe:Int×Af=>fR e.2) d;exact⟨h',i,f,_,rfl,J,GN N d,z.nodup_iff.mpr L,λk=>z.mem_iff.trans (K k),by rw[Ab,d.length_eq];omega⟩
 rintro vs B ⟨h',i,f,g,rfl,p,G,l,m,a⟩
 exact Jw (s:={ s with drawn:=f}) (I.drew f) p G a λD F d=>q D F (d.nodup_iff.mpr l) (λk=>d.mem_iff.trans (m k))
end L2
namespace DL
open PySem L2 Nb
section
variable{X:Cx}{o:Expr}{td:TE}{wd':DT}{pos p p2 ip:Pos}{W:Bh}
def hX(ys:List Str):Prop:=ys.Pairwise λa b=>¬b.cps.toList < a.cps.toList
def BM(w:DT):d0:=λδ n Q=>w δ n λx n1=>∃ks:List Str,(x=.d (.list (ks.map .str))\/x=.d (.tuple (ks.map .str)))/\ks.length < 64/\(∀k∈ks,k.length<=1000) /\
 ∀ys:List Str,ys.Nodup->(∀k,k∈ys↔k∈ks)->hX ys->Q (ys.map .str) n1
theorem wU{α:Type}:∀{xs ys:List α},xs.Nodup->(∀x∈xs,x∈ys)->xs.length<=ys.length
 |[],_,_,_=>Be _
 |x::xs,ys,d,h=>by
  obtain⟨f,c⟩:=Dw.mp d;obtain⟨l,r,e⟩:=List.append_of_mem (h x An);have:=wU (ys:=l++r) c λz b=>by
   have a:=h z (Ak _ b);rw[e]at a;rcases A4.mp a with q|q
   ·exact C4 _ q
   ·rcases Ar.mp q with q|q
    ·exact g_ (q▸b) f
    ·exact B1 _ q
  simp_all<;>omega
theorem qw{H:Hp}{B:A'->Prop}:∀{xs:List V}{ks:List Str},RdXs H B xs (ks.map .str)->xs=ks.map V.str
 |[],[],_=>rfl
 |_::_,[],h=>nomatch h
 |[],_::_,h=>nomatch h
 |x::xs,k::ks,.cons h t=>by
  cases h;rw[qw t];rfl
theorem GW(hh:X.A.handled=af)(hg:Gl X "sorted")(hm:X.mg "sorted"=af)(hg2:Gl X "set")(hm2:X.mg "set"=af)(ho:DE X o td wd')(hW:X.w=W)(hv:Bw "sorted"=ae (.builtin "sorted"))(hv2:Bw "set"=ae (.type "set"))
  (he2:Aq [o] X.env=(ai,eval o X.env)::Aq [] X.env) (hpl2:(C0 ip (Aq [] X.env)).any (·.1)=ai)
  (he':Aq [Expr.Call (.Name "set" p2) [o] [] ip] X.env=(ai,eval (Expr.Call (.Name "set" p2) [o] [] ip) X.env)::Aq [] X.env) (q_:(C0 pos (Aq [] X.env)).any (·.1)=ai):
  DF X (.Call (.Name "sorted" p) [.Call (.Name "set" p2) [o] [] ip] [] pos) (d5 (ui W) (br (d5 (uM W) (br td aW)) aW)) (BM wd'):=by
 subst hW;refine⟨gz (KC hh) hg hm hv (bZ (mN (NL hh) hg2 hm2 hv2 (bZ ho.pe dq he2) ∎ ∎ he2 hpl2) dq he') ∎ ∎ he' q_,λC H B σ δ n Q M R q k=>
  ho.sd C H B σ δ n _ _ R q λv x b L t F E J=>?_⟩
 obtain⟨h,N,f,I,V⟩:=J;have c:∀a:A',v=.ref a->(b a=ae _\/b a=ae _)->d5 (ui X.w) (br (λσ=>uM X.w [v]) aW) σ b M:=λa G Z=>by
  subst G;refine⟨a,h,rfl,Z,f,λu s=>⟨u,h,rfl,a9,f,λD Y z hm O i=>?_⟩⟩;have j:b D=af:=by
   cases e:b D with
   |none=>rfl
   |some T=>
    have:upd b u (gK X.w u h) D=ae T:=(aH (bu e s))▸e
    simp_all<;>omega
  have g:=λy g=>I y ((hm y).mp g);refine k D _ _ _ L ((t.new (o:=gK X.w u h) s).new i) ((F.trans (Kp.new s)).trans (Kp.new i)) (t.was F j) a9 ?_ (nk g) (V Y z hm O);rw[Ab];have:=wU z λy=>(hm y).mp;exact ej ⋯
 rcases N with rfl|rfl
 ·cases(show RdX b B v (.list _)from E)with
  |@lst a P _ r S K l=>exact c a rfl (.inl (by rw[r,qw l]))
 ·cases(show RdX b B v (.tuple _)from E)with
  |@tup a P _ r S K l=>exact c a rfl (.inr (by rw[r,qw l]))
def nW(c:b5)(W:aE):aE:=λδ n K=>∃I:Nat->Sl->Int->Prop,(∃m,I m δ n)/\∀m δ n,I m δ n->
 c δ n λb n1=>if b=ah then W δ n1 {nx:=λδ n=>∃m',m' < m/\I m' δ n,rt:=K.rt,bk:=K.nx,ct:=λδ n=>∃m',m' < m/\I m' δ n,rn:=K.rn,rx:=K.rx}else K.nx δ n1
theorem Pw{c:Expr}{body:List Stmt}{tc:TT}{tb:TS}{cc:b5}{V':aE}(hc:DC X c tc cc)(hb:DSs X body tb V')(hp:PassesOwn (A5 X.prog X.w) X.A X.env X.xe:=by exact PassesOwn.never):DS X (.While c body [] pos) (yO tc tb) (nW cc V'):=⟨Nr hp hc.pt hb.ps,λC H B σ δ n K D R q E=>by
 obtain⟨I,⟨l,k⟩,a⟩:=q;refine⟨λm σ H=>∃B δ n,Rel C H B σ δ n/\I m δ n,⟨l,B,δ,n,R,k⟩,λm σ H ⟨B,δ,n,R,i⟩=>hc.sd C H B σ δ n _ _ R (a m δ n i) λb h j g p f=>?_⟩;cases b with
 |true=>
  refine⟨λσ' o=>∃d,d < m/\∃B δ n,_,λσ' o z=>z,hb.sd C h B σ δ j _ _ g f ⟨?_,E.rt,?_,?_,E.rn,E.rx⟩⟩
  ·exact λH B σ δ n R ⟨d,e,z⟩=>⟨d,e,B,δ,n,R,z⟩
  ·exact E.nx
  ·exact λH B σ δ n R ⟨d,e,z⟩=>⟨d,e,B,δ,n,R,z⟩
 |false=>
  exact E.nx h B σ δ j g f⟩
variable{a:Expr}{ta:TE}{wa:DT}{K:Ag}
end
section
variable{X:Cx}{a b c e o i f:Expr}{ta tb te td ty tx:TE}{wa wb we wd' wy wx:DT}{pos p:Pos}{K:Ag}
def cv(i:Nat):DT:=λδ n Q=>match δ[i]? with
 |some (ae (.own ds))=>Q (.ln ds) n
 |some (ae (.w x))=>Q x n
 |_=>False
theorem JA(i:Nat){x:Str}{p:Pos}(hN:X.N[i]?=ae x)(hv:dY X.env.scope x)(hd:(x==("__debug__":Str))=ai)
  (r_:(x==("__classdict__":Str))=ai):DE X (.Name x p) (aI i) (cv i):=⟨eS hN hv hd r_,λC H B σ δ n Q o R h k=>by
 unfold cv at h
 split at h
 ·rename_i l e;obtain⟨v,b,a,f,rfl,j,q,g,m,d⟩:=R.sl i _ e;exact⟨_,b,k _ (.ln l) H n R (Kp.refl _ _) ⟨a,f,rfl,j,λz=>R.t0 (z▸g),m,d⟩ h⟩
 ·rename_i x e;obtain⟨v,b,c⟩:=R.sl i _ e;exact⟨v,b,k v x H n R (Kp.refl _ _) c.1 h⟩
 ·exact h.elim⟩
def aQ:Wv->Wv->Int->DQ->Prop:=λx y n Q=>match x with
 |.ln ds=>match y with
  |.d (.int i)=>match cO ds i with
   |some d=>Q (.d d) n
   |none=>False
  |_=>False
 |x=>aw x y n Q
theorem M9:a8 (kO K) aQ:=λC H B σ δ n x y p q Q f R b c a k=>by
 cases p with
 |ln t=>
  unfold aQ at a;simp_all
  split at a
  ·rename_i i
   split at a
   ·rename_i d e;cases(show RdX H B y (.int i)from c);obtain⟨g,o,rfl,r,w,u,j⟩:=b;obtain⟨v,l,h⟩:=sA j e;exact .inl ⟨g,o,i,v,rfl,rfl,SqL.of r,l,k _ _ H n R (Kp.refl _ _) (wd h) a⟩
   ·exact a.elim
  ·exact a.elim
 |d _=>exact lS C H B σ δ n x y _ q Q f R b c a k
 |tp=>exact lS C H B σ δ n x y _ q Q f R b c a k
 |dk _=>exact lS C H B σ δ n x y _ q Q f R b c a k
 |dx _=>exact lS C H B σ δ n x y _ q Q f R b c a k
 |ob _=>exact lS C H B σ δ n x y _ q Q f R b c a k
theorem LA(ha:DE X a ta wa)(hb:DE X b tb wb)(hK:X.K=K)(hs:qp b:=by exact λ_ _=>rfl):DE X (.Subscript a b pos) (cZ (kO K) ta tb) (w2 wa wb aQ):=by
 subst hK;exact⟨gb t6 ha.pe hb.pe hs,nz M9 ha.sd hb.sd⟩
def dG(neg:Bool):Wv->Wv->Int->DQ->Prop:=λx y n Q=>match y with
 |.ln ds=>match x with
  |.d a=>eG a=ah/\ds.all eG=ah/\Q (.d (.bool (if neg then !cE a ds else cE a ds))) n
  |_=>False
 |y=>fX neg x y n Q
theorem QW{neg:Bool}:a8 (gj K neg) (dG neg):=λC H B σ δ n x y p q Q e R b c a k=>by
 cases q with
 |ln o=>
  unfold dG at a;dsimp only at a
  split at a
  ·rename_i z;obtain⟨i,h,q⟩:=a;obtain⟨g,j,rfl,l,s,r,f⟩:=c;refine⟨g,j,rfl,.inl (SqL.of l),kE b i,jC f h,?_⟩;rw[jO b f];exact k _ _ H n R (Kp.refl _ _) (wd (.bl _)) q
  ·exact a.elim
 |d _=>exact jG C H B σ δ n x y p _ Q e R b c a k
 |tp=>exact jG C H B σ δ n x y p _ Q e R b c a k
 |dk _=>exact jG C H B σ δ n x y p _ Q e R b c a k
 |dx _=>exact jG C H B σ δ n x y p _ Q e R b c a k
 |ob _=>exact jG C H B σ δ n x y p _ Q e R b c a k
def dP:List Wv->Int->DQ->Prop:=λxs n Q=>match xs with
 |[.ln ds]=>Q (.d (.int ds.length)) n
 |xs=>bC xs n Q
theorem Mq:cX (t4 K) dP:=λC H B σ δ n c d Q e R r h k=>by
 unfold dP at h
 split at h
 ·rename_i l;cases r with
  |cons f g=>
   cases g;obtain⟨a,i,rfl,j,o,m,b⟩:=f;refine .inr ⟨a,i,rfl,.inl (SqL.of j),?_⟩;rw[b.len];exact k _ _ H n R (Kp.refl _ _) (wd (.int _)) h
 ·exact vP C H B σ δ n c d Q e R r h k
def bG:Wv->Wv->Int->DQ->Prop:=λx y n Q=>match x,y with
 |.ln ds,.d (.list [])=>Q (.d (.bool ds.isEmpty)) n
 |x,y=>bg x y n Q
theorem OV:a8 (kj K) bG:=λC H B σ δ n x y p q Q j R b c a k=>by
 unfold bG at a
 split at a
 ·rename_i g;obtain⟨e,d,rfl,o,v,u,i⟩:=b;cases(show RdX H B y (.list [])from c)with
  |@lst f w _ l s t r=>
   cases r;refine .inr (.inr ⟨e,f,d,rfl,rfl,SqL.of o,SqL.of l,?_⟩);have:d.isEmpty=g.isEmpty:=by cases i<;>rfl
   rw[this];exact k _ _ H n R (Kp.refl _ _) (wd (.bl _)) a
 ·exact p7 C H B σ δ n x y p q Q j R b c a k
def f5:Wv->Option (List Ad)
 |.ln ds=>ae ds
 |.d (.list ds)=>ae ds
 |_=>af
def fu:Wv->Wv->Int->DQ->Prop:=λx y n Q=>match f5 x,f5 y with
 |some i,ae j=>i.length+j.length<=Av/\Q (.d (.list (i++j))) n
 |_,_=>False
theorem vy{H:Hp}{B:A'->Prop}{t:A'}{v:V}{x:Wv}{ds:List Ad}(h:WRel H B t v x)(e:f5 x=ae ds):∃a xs,v=.ref a/\H a=ae (.lst xs)/\xs.length<=Av/\RdXs H B xs ds:=by
 cases x with
 |ln j=>
  cases e;obtain⟨a,xs,l,c,p,g,f⟩:=h;exact⟨a,xs,l,c,g,f⟩
 |d y=>
  cases y with
  |list j=>
   cases e;cases(show RdX H B v (.list ds)from h)with
   |@lst a xs _ n q i k=>exact⟨a,xs,rfl,n,i,k⟩
  |_=>cases e
 |tp=>cases e
 |dk _=>cases e
 |dx _=>cases e
 |ob _=>cases e
theorem Rz:a8 iW fu:=λC H B σ δ n x y p q Q E R s t c k=>by
 unfold fu at c
 split at c
 ·rename_i i j o v;obtain⟨l,f,rfl,w,D,e⟩:=vy s o;obtain⟨r,g,rfl,u,A,h⟩:=vy t v;obtain⟨m,q⟩:=c;have d:f.length+g.length<=Av:=by rw[e.len,h.len];exact m
  refine⟨l,r,f,g,rfl,rfl,w,u,d,λpn a=>k _ _ _ n (R.new a) (Kp.new a) (wd (show RdX _ B _ (.list _)from .lst a9 (R.nb a) (by simp<;>omega) ?_)) q⟩;exact((e.append h).fresh a).less λb=>.inl
 ·exact c.elim
theorem N3(ha:DE X a ta wa)(hb:DE X b tb wb):DE X (.BinOp a .Add b pos) (cZ iW ta tb) (w2 wa wb fu):=gU w6 Rz ha hb
end
section
variable{X:Cx}{a b c e o i f:Expr}{ta tb te td ty tx:TE}{wa wb we wd' wy wx:DT}{pos p:Pos}{K:Ag}
def dC(w:DT)(g:dw):aE:=λδ n K=>w δ n λx n1=>match x with
 |.d d=>g d δ λδ'=>K.nx δ' n1
 |_=>False
theorem ND{tg:Expr}{g:TG}{gd:dw}(he:DE X e te we)(hg:DG X tg g gd)(hs:swapsWithSole [tg] e pos.line X.env=pure ai)(hw:swappedStores [tg] e X.env=pure af)
  (h1:(Cw [tg] X.env).map (·.2)=[assign tg X.env]):DS X (.Assign [tg] e pos) (bw te g) (dC we gd):=⟨kZ he.pe hg.pg hs hw h1,λC H B σ δ n K D R q E=>
 he.sd C H B σ δ n _ _ R q λv x h i f s j a=>by
  cases x with
  |d d=>exact hg.sd C h B σ δ i v d _ _ f j a λσ' o=>E.nx _ _ _ _ _
  |tp=>exact a.elim
  |dk _=>exact a.elim
  |dx _=>exact a.elim
  |ln _=>exact a.elim
  |ob _=>exact a.elim⟩
def mM:Wv->Option (List Ad)
 |.ln ds=>ae ds
 |.d (.list ds)=>ae ds
 |.d (.tuple ds)=>ae ds
 |_=>af
theorem Q7{H:Hp}{B:A'->Prop}{t:A'}{v:V}{x:Wv}{ds:List Ad}(h:WRel H B t v x)(e:mM x=ae ds):∃a xs,v=.ref a/\(SqL K H a xs\/SqT K H a xs)/\xs.length<=Av/\RdXs H B xs ds:=by
 cases x with
 |ln k=>
  cases e;obtain⟨a,xs,p,l,u,n,m⟩:=h;exact⟨a,xs,p,.inl (SqL.of l),n,m⟩
 |d y=>
  cases y with
  |list k=>
   cases e;cases(show RdX H B v (.list ds)from h)with
   |@lst a xs _ i q b c=>exact⟨a,xs,rfl,.inl (SqL.of i),b,c⟩
  |tuple k=>
   cases e;cases(show RdX H B v (.tuple ds)from h)with
   |@tup a xs _ i q b c=>exact⟨a,xs,rfl,.inr (SqT.of i),b,c⟩
  |_=>cases e
 |tp=>cases e
 |dk _=>cases e
 |dx _=>cases e
 |ob _=>cases e
def lQ(w:DT):d0:=λδ n Q=>w δ n λx n1=>match mM x with
 |some ds=>Q ds n1
 |none=>False
theorem RR(hg:Gl X "list")(hm:X.mg "list"=af)(ho:DE X o td wd')(hK:X.K=K)(he:Aq [o] X.env=(ai,eval o X.env)::Aq [] X.env)(q_:(C0 pos (Aq [] X.env)).any (·.1)=ai):
  DF X (.Call (.Name "list" p) [o] [] pos) (d5 (wH K) (br td aW)) (lQ wd'):=
 ⟨mN (Kn hK) hg hm tX (bZ ho.pe dq he) ∎ ∎ he q_,λC H B σ δ n Q u R q k=>ho.sd C H B σ δ n _ _ R q λv x t j d f r c=>by
  split at c
  ·rename_i s m;obtain⟨a,e,rfl,i,g,h⟩:=Q7 r m;exact⟨a,e,rfl,i,λl b=>k l e s _ j (d.new b) (f.trans (Kp.new b)) (d.was f b) a9 g (h.fresh b) c⟩
  ·exact c.elim⟩
def fJ:List Wv->Int->DQ->Prop:=λxs n Q=>match xs with
 |[.ln ds]=>Q (.d (.tuple ds)) n
 |xs=>eY xs n Q
theorem QH:cX (vk K) fJ:=λC H B σ δ n g i Q j R r h k=>by
 unfold fJ at h
 split at h
 ·rename_i d;cases r with
  |cons m o=>
   cases o;obtain⟨c,p,rfl,q,s,e,f⟩:=m;refine⟨c,p,rfl,.inl ⟨SqL.of q,λl a=>k _ _ _ n (R.new a) (Kp.new a) (wd (show RdX _ B _ (.tuple d)from .tup a9 (R.nb a) e ?_)) h⟩⟩;exact(f.fresh a).less λb=>.inl
 ·exact xE C H B σ δ n g i Q j R r h k
def fD(i:Nat)(w:DT):aE:=λδ n K=>match δ[i]? with
 |some (ae (.own ds))=>w δ n λx n1=>match x with
  |.d (.list es)=>(ds.length < 1000000/\es.length < 1000000)/\K.nx (δ.set i (ae (.own (ds++es)))) n1
  |_=>False
 |_=>False
theorem zQ{n m:Nat}(h:n < 1000000)(h':m < 1000000):n+m<=Av:=by
 have:2000000<=Av:=by decide
 omega
theorem NJ{i:Nat}{x:Str}{xp ap cp:Pos}(hN:X.N[i]?=ae x)(he:DE X e te we)(hv:dY X.env.scope x)(hd:(x==("__debug__":Str))=ai)
  (r_:(x==("__classdict__":Str))=ai)
  (hbase:G4 (.Name x xp) "extend" X.env (eval (.Name x xp) X.env)=eval (.Name x xp) X.env)
  (hfew:((C0 cp (Aq [e] X.env)).all (λx=>!x.1)&&(backToKw cp (keywordEach [] X.env)).all (λx=>x.1.isSome)
   && decide ([e].length+([]:List Keyword).length+(if ([]:List Keyword).isEmpty then 0 else 1) < 30))=ah)
  (hline:(ap.endLine==cp.line)=ah) (hs:Aq [e] X.env=[(ai,eval e X.env)]) (hplain:(C0 cp (Aq [] X.env)).any (·.1)=ai)
  (hsw:Cy (.Call (.Attribute (.Name x xp) "extend" ap) [e] [] cp) af pos.line X.env=pure ai):
  DS X (.Expr (.Call (.Attribute (.Name x xp) "extend" ap) [e] [] cp) pos) (mF (px X.K "list" xy (aI i) (br te aW))) (fD i we):=
 ⟨uT (BE Hi PySem.F.slot_list_extend PySem.F.type_list_extend Ia (eS hN hv hd r_) (bZ he.pe dq hs) hbase hfew hline hs hplain) hsw,λC H B σ δ n K D R q E=>by
  unfold fD at q
  split at q
  ·rename_i T k;obtain⟨v,hv,a,m,rfl,p,d,f,Q,l⟩:=R.sl i _ k;refine⟨_,hv,.inl ⟨rfl,_,SqL.of p⟩,he.sd C H B σ δ n _ _ R q λu y I S G r L c=>?_⟩
   split at c
   ·rename_i A;have g:a≠C.t:=λz=>R.t0 (z▸f);cases(show RdX I B u (.list A)from L)with
    |@lst b j _ J O P s=>
     have h:m.length+j.length<=Av:=l.len▸s.len▸zQ c.1.1 c.1.2;refine⟨a,b,m,j,rfl,rfl,(r _ _ p g),J,h,E.nx _ _ _ _ _ (G.mutOwn k rfl hv d f ?_ rfl) c.2⟩;refine⟨a,_,rfl,a9,d,f,As▸h,RdXs.keep (λb o e n=>?_) ((l.kp r R.bt).append s)⟩;rw[aH λ(z:b=a)=>n (z▸d)];exact e
   ·exact c.elim
  ·exact q.elim⟩
theorem FW(H:Hp)(B:A'->Prop):RdXs H B pT kI:=.cons .non (.cons .non (.cons .non (.cons (.int _) (.cons (.int _) .nil))))
def dR(i:Nat):DT:=λδ n Q=>match δ[i]? with
 |some (ae (.w .tp))=>Q (.ln kI) n
 |_=>False
theorem LR(i:Nat){x:Str}{ix:Int}{p p2:Pos}{jj}(hK:X.K=K)(hN:X.N[i]?=ae x)(hv:dY X.env.scope x)(hd:(x==("__debug__":Str))=ai)
  (r_:(x==("__classdict__":Str))=ai):DE X (.Subscript (.Name x p) (.Constant (.int 3) jj p2) pos) (cZ (kO K) (aI i) (tC (.int 3))) (dR i):=by
 subst hK;refine⟨gb t6 (eS hN hv hd r_) b4 (λ_ _=>rfl),λC H B σ δ n Q g R h k=>?_⟩;unfold dR at h
 split at h
 ·rename_i e;obtain⟨v,f,c⟩:=R.sl i _ e;cases(c.1);obtain⟨a,b,d,_⟩:=R.tp.ob;refine⟨_,f,.inl ⟨C.t,_,3,_,rfl,rfl,SqL.of d,d9 rfl,k _ (.ln kI) H n R (Kp.refl _ _) ⟨_,_,rfl,R.tp.ag rfl,R.tp.gne,by decide,FW _ _⟩ h⟩⟩
 ·exact h.elim
end
section
variable{X:Cx}{e:Expr}{st:Stmt}{sts:List Stmt}
def Kj:aE:=λ_ _ _=>False
theorem yF:DSs X sts (λ_ _ _=>False) Kj:=⟨λ_ _ _ _ _ _ h=>h.elim,λ_ _ _ _ _ _ _ _ _ h _=>h.elim⟩
end
end DL
namespace L2
open PySem PySem.Spec PyProof.Rows
end L2
namespace DL
open PySem L2 Nb
end DL
namespace HT
open PySem PyProof.Rows
open PySem.SeqAt
open PySem.AutoSeq1 (wpAny_loadPart')
open PySem.MeetsSeq PySem.MeetsSeq2 PySem.MeetsSeq3
section
variable{prog:A1}{w:Bh}{A:Bo}{E:Af->Ai->Prop}{s:Ai}
theorem getItem_tuple_whole{t sl:A'}{items:Array Af}{vl vu:Af}{lo hi:Option Int}{Q:Af->Ai->Prop}(ht:IsTup s.heap t items)(hs:s.heap.IsSliceOf sl vl vu .none)(pl:IsPart vl lo)(pu:IsPart vu hi)
  (h0:sIx items.size 0 lo=0) (h1:sIx items.size items.size hi=items.size) (h:Q (.ref t) s):A2 (A5 prog w) A (getItem (.ref t) (.ref sl)) Q E s:=by
 obtain⟨e,d,b,f⟩:=id hs;have c:s.TypeIs (.ref sl) "slice":=⟨e,d,b⟩;unfold getItem
 try with_reducible refine Cb ?_
 first|refine Aa _|skip
 refine Aa (wpAny_sequenceKey ht.typeIs ∎ ?_);refine Aa (Bt ht.typeIs Ek
  (B9 Ek ht.typeIs entry_tuple_getitem ?_ (by trivial)))
 show A2 _ _ (Gn _>>=_) _ _ s;refine Aa (tupleItemsOf_ ht (Aa (Gt c ?_)));refine Aa (yo hs pl pu ?_);have a:(((sIx items.size 0 lo:Nat):Int)==0&&(1:Int)==1&&(sIx items.size items.size hi-sIx items.size 0 lo)==items.size)=ah:=by
  rw[h0,h1];simp
 show A2 _ _ (if _=ah then _ else _) _ _ s;rw[b_ a];exact Aa (Aa (Gt ht.typeIs (Aj (Aa (Fg (Aj ⟨_,rfl,Aj h⟩))))))
end
end HT
namespace L2
open PySem PySem.Spec PyProof.Rows
def nM(K:Ag):V->Option Int->Option Int->Hp->VK->Prop:=λx lo hi H Q=>∃a xs,x=.ref a/\SqT K H a xs/\HT.sIx xs.length 0 lo=0/\HT.sIx xs.length xs.length hi=xs.length/\Q (.ref a) H
theorem IA{X:Cx}:SlR X (nM X.K):=by
 intro e s σ H x v w n u m y Q I f l g i h;obtain⟨a,j,rfl,k,o,p,q⟩:=h;cases f;obtain⟨c,r,d,t⟩:=I.tuple k;have b:c.toArray.size=j.length:=r.length.symm;exact⟨_,_,PyProof.Rows.slot_tuple_getitem.lookup,d.typeIs,HT.getItem_tuple_whole d l g i (by rw[b];omega) (by rw[b];omega) ⟨.ref a,H,I,rfl,q⟩⟩
end L2
namespace DL
open PySem L2 Nb
section
variable{X:Cx}{e:Expr}{te:TE}{we:DT}{pos p2:Pos}{K:Ag}{lo hi:Option Expr}
abbrev kR:=Sl->Int->(Option Int->Int->Prop)->Prop
def d7:kR:=λ_ n Q=>Q af n
def dJ(w:DT):kR:=λδ n Q=>w δ n λx n1=>match x with
 |.d (.int i)=>Q (ae i) n1
 |_=>False
def Kh(t:TO)(w:kR):Prop:=∀(C:Ctx)(H:Hp)(B:A'->Prop)(σ:St)(δ:Sl)(n:Int)(Q:Option Int->Int->Prop)(Q':Option Int->Hp->Prop),Rel C H B σ δ n->w δ n Q->
 (∀o H' n',Rel C H' B σ δ n'->Kp C.t H H'->Q o n'->Q' o H')->t σ H Q'
structure DOp(X:Cx)(o:Option Expr)(t:TO)(w:kR):Prop where
 po:PO X o t
 sd:Kh t w
theorem Hx:DOp X af ET d7:=⟨yv,λC H B σ δ n Q a R q k=>k af H n R (Kp.refl _ _) q⟩
theorem S4(h:DE X e te we):DOp X (ae e) (zo te) (dJ we):=⟨xh h.pe,λC H B σ δ n Q l R q k=>h.sd C H B σ δ n _ _ R q λv x b d c j f a=>by
 split at a
 ·rename_i i;cases(show RdX b B v (.int i)from f);exact⟨i,rfl,k _ b d c j a⟩
 ·exact a.elim⟩
def ef(xs:List Ad)(lo hi:Option Int):List Ad:=(xs.drop (HT.sIx xs.length 0 lo)).take (HT.sIx xs.length xs.length hi-HT.sIx xs.length 0 lo)
def d3(w:DT)(l u:kR):DT:=λδ n Q=>w δ n λx n1=>l δ n1 λa n2=>u δ n2 λb n3=>match x with
 |.d (.tuple ds)=>Q (.d (.tuple (ef ds a b))) n3
 |_=>False
def uH(K:Ag):V->Option Int->Option Int->Hp->VK->Prop:=λx lo hi H Q=>m7 K x lo hi H Q\/nM K x lo hi H Q
theorem MS{tl th:TO}{wl wh:kR}(he:DE X e te we)(hl:DOp X lo tl wl)(hh:DOp X hi th wh)(hK:X.K=K):DE X (.Subscript e (.Slice lo hi af p2) pos) (zV (uH K) te tl th) (d3 we wl wh):=by
 subst hK;refine⟨xa (sl_tup.or IA) he.pe hl.po hh.po,λC H B σ δ n Q U R q k=>he.sd C H B σ δ n _ _ R q λv x J L y T O F=>
  hl.sd C J B σ δ L _ _ y F λa G I A s E=>hh.sd C G B σ δ I _ _ A E λb t u j o m=>?_⟩
 split at m
 ·rename_i i;have S:=(O.kp s y.bt).kp o A.bt;cases S with
  |@tup r d _ l N w f=>
   have D:=(T.trans s).trans o;by_cases g:HT.sIx d.length 0 a=0/\HT.sIx d.length d.length b=d.length
   ·refine .inr ⟨r,d,rfl,SqT.of l,g.1,g.2,k _ _ t u j D (wd (show RdX t B _ (.tuple i)from .tup l N w f)) ?_⟩;have:ef i a b=i:=by
     unfold ef;rw[<-f.len,g.1,g.2,List.drop_zero,Nat.sub_zero,f.len,List.take_length]
    simp_all
   ·refine .inl ⟨r,d,rfl,SqT.of l,g,λp h=>k _ _ _ u (j.new h) (D.trans (Kp.new h)) (wd (show RdX _ B _ (.tuple _)from .tup a9 (j.nb h) (A0 (sH d a b) w) ?_)) m⟩;unfold ef fH;rw[<-f.len];exact(((f.drop _).take _).fresh h).less λb=>.inl
 ·exact m.elim
end
end DL
namespace Nb
open PySem L2
end Nb
namespace DL
open PySem L2 Nb
section
variable{X:Cx}{tg a b c e o i f:Expr}{ta tb te td ty tx:TE}{wa wb we wd' wy wx:DT}{pos p:Pos}{K:Ag}
def gy(hs:List Str)(w:DT):DT:=λδ n Q=>w δ n λx n1=>match x with
 |.d a=>eG a=ah/\Q (.d (.bool (cE a (hs.map .str)))) n1
 |_=>False
theorem KP{q:A'}{hs:List Str}(hl:∀h∈hs,h.length<=1000)(hq:∀H,SqT K H q (hs.map V.str))(h:dm ta wa):dm (cZ (gj K ai) ta (tC (.ref q))) (gy hs wa):=λC H B σ δ n Q j R z k=>
 h C H B σ δ n _ _ R z λv x b g f i d a=>by
  split at a
  ·rename_i l;have c:RdXs b B _ (hs.map .str):=nk hl;refine⟨q,_,rfl,.inr (hq b),kE d a.1,jC c ?_,k _ _ b g f i (wd (.bl _)) ?_⟩
   ·rw[List.all_map];exact E4.mpr λ_ _=>rfl
   ·rw[jO d c];exact a.2
  ·exact a.elim
theorem JD{q:A'}{hs:List Str}{x:Str}{xp:Pos}(ha:DE X a ta wa)(hg:Gl X x)(hm:X.mg x=ae (.ref q))(hq:∀H,SqT K H q (hs.map V.str))(hl:∀h∈hs,h.length<=1000)(hK:X.K=K)(hd:(x==("__debug__":Str))=ai)
  (hmk:Cm .In (Expr.Name x xp)=ai):DC X (.Compare a [.In] [.Name x xp] pos) (fQ (cZ (gj K ai) ta (tC (.ref q)))) (cT (gy hs wa)):=
 ⟨ja (t7 hK) ha.pe (v7 hg hm rfl hd) hmk,kb (KP hl hq ha.sd)⟩
end
abbrev cz:=List Wv->Int->(List Ad->Int->Prop)->Prop
def jS(S:cz):Sp:=λvs H Q _=>∃(t:A')(l:TL)(ns:List Int)(B:A'->Prop)(ws:List Wv)(n:Int)(Q0:List Ad->Int->Prop),Tp H t l ns n/\B t/\(∀b,B b->H b≠af)/\ARel H B t vs ws/\S ws n Q0 /\
 ∀ds n',Q0 ds n'->∀a xs H',Tp H' t l ns n'->Kp t H H'->H a=af->H' a=ae (.lst xs)->xs.length<=Av->RdXs H' (λb=>B b\/b=a) xs ds->Q (.ref a) H'
section
variable{X:Cx}{e:Expr}{es:List Expr}{pos p:Pos}{tR:TA}{wR:cK}{te:TE}{we:DT}
def jF(S:cz)(w:cK):d0:=λδ n Q=>w δ n λxs n1=>S xs n1 Q
theorem OL{S:cz}{t:TA}{w:cK}(h:jh t w):iq (ee (jS S) [] E0 t) (jF S w):=λC H B σ δ n Q z R q k=>
 h C H B σ δ n _ _ R q λvs s y p b d v i=>⟨C.t,C.l,_,B,s,p,Q,b.tp,b.bt,b.ba,by rw[Br];exact v,i,λds j f a x r u c m o e g=>k a x ds r j (b.step u c) (d.trans c) (b.was d m) o e g f⟩
structure HasN(P:A1)(w:Bh)(K:Ag)(mg:Str->Option Af)(base:Heap)(k:Nat)(x:Str)(ps:List Str)(S:cz):Prop where
 ex:∃(f:A')(fd:Cc),FnOk P w K mg base bW k f fd ps (jS S)/\Binds K fd ps []/\mg x=ae (.ref f)/\Ct K (.ref f)=ah
theorem HasN.mk'{P:A1}{w:Bh}{K:Ag}{mg:Str->Option Af}{base:Heap}{k:Nat}{x qual:Str}{st:Stmt}{ps:List Str}{S:cz}{f:A'}{fd:Cc}(F:Fun K x qual st f fd)(m:mg x=ae (.ref f))(b:Binds K fd ps [])(h:FnOk P w K mg base bW k f fd ps (jS S)):HasN P w K mg base k x ps S:=⟨f,fd,h,b,m,F.kp⟩
theorem Mf{k:Nat}{ps:List Str}{S:cz}{x:Str}(h:HasN X.prog X.w X.K X.mg X.base k x ps S)(hr:Room k X.A)(hg:Gl X x)
  (ha:DA X (e::es) tR wR) (hdb:(x==("__debug__":Str))=ai) (he:Aq (e::es) X.env=(ai,eval e X.env)::Aq es X.env) (q_:(C0 pos (Aq es X.env)).any (·.1)=ai):
  DF X (.Call (.Name x p) (e::es) [] pos) (ee (jS S) [] E0 tR) (jF S wR):=by
 obtain⟨f,g,d,a,b,c⟩:=h.ex;exact⟨jH d hr hg b c a .nil jD ha.pa hdb he q_,OL ha.sd⟩
def jz(w:d0):aE:=λδ n K=>w δ n K.rn
theorem MX{w:d0}(h:DF X e te w):DS X (.Return (ae e) pos) (fF te) (jz w):=⟨iV h.pe,λC H B σ δ n K D R q E=>
 h.sd C H B σ δ n _ _ R q λa l m k g c o i=>E.rn k B σ δ g a l m c (R.h0 i)⟩
def zW(i:Nat):aE:=λδ n K=>match δ[i]? with
 |some (ae (.own ds))=>K.rn ds n
 |_=>False
theorem yZ(i:Nat){x:Str}{xp:Pos}(hN:X.N[i]?=ae x:=by rfl)(hv:dY X.env.scope x:=by first|exact Cj rfl|exact B6 (Cj rfl)|exact B6 (B6 rfl))(hd:(x==("__debug__":Str))=ai:=by decide)
  (r_:(x==("__classdict__":Str))=ai:=by decide):DS X (.Return (ae (.Name x xp)) pos) (fF (aI i)) (zW i):=⟨iV (eS hN hv hd r_),λC H B σ δ n K D R q E=>by
 unfold zW at q
 split at q
 ·rename_i l c;obtain⟨v,hv,a,j,rfl,k,f,g,h,d⟩:=R.sl i _ c;exact⟨_,hv,E.rn H B σ δ n a j l R g k h (d.less λb z=>z.elim id λe=>e▸f) q⟩
 ·exact q.elim⟩
end
section
variable{P:A1}{w:Bh}{K:Ag}{mg:Str->Option Af}{base:Heap}
theorem Fun.okN{x qual:Str}{st:Stmt}{f:A'}{fd:Cc}{N ps:List Str}{k:Nat}{S:cz}(F:Fun K x qual st f fd)(Sc:FnScope N ps (bJ st))(len:∀ws n Q,S ws n Q->ws.length=ps.length)
  (hbody:∀(n_:Af)(A:Bo)(outer:List Env)(s:Ai)(H:Hp)(E:XK),Room k (A.deeper (C3 qual (bJ st) s.heap.objs.size f n_))->
   ∃T W,DSs (b8 bW P w K mg base N qual (bJ st) f n_ A outer s H E).nox (ec st) T W/\∀ws n Q,S ws n Q->W (dI N ws) n {nx:=λ_ _=>False,rt:=λ_ _=>False,rn:=Q}):FnOk P w K mg base bW (k+1) f fd ps (jS S):=by
 refine F.ok Sc (λvs H Q E h=>?_) (λn_ A outer s H J Q E I h=>?_)
 ·obtain⟨t,l,o,B,ws,n,e,_,_,_,r,q,_⟩:=h;rw[r.len];exact len ws n e q
 ·obtain⟨t,l,o,B,ws,n,e,T,i,v,r,q,G⟩:=h;obtain⟨C,W,d,D⟩:=hbody n_ A outer s H E I;refine⟨C,d.ps,d.sd _ H B _ _ n _ _ (ot T i v r) (D ws n e q) ⟨?_,?_,?_,?_,?_,λ_ _ _ _ _ _ _ _ _ _ _ _ _ z=>z.elim⟩⟩
  ·exact λ_ _ _ _ _ _ z=>z.elim
  ·exact λ_ _ _ _ _ _ _ _ _ z=>z.elim
  ·exact λ_ _ _ _ _ _ z=>z.elim
  ·exact λ_ _ _ _ _ _ z=>z.elim
  ·exact λH' O σ δ L a y R c p u g j m=>G _ _ m a y H' c.tp c.kp p u g (j.less λb z=>z.elim (λz=>.inl (c.b0 b z)) .inr)
end
end DL
namespace Nb
open PySem L2
end Nb
namespace DL
open PySem L2 Nb
section
variable{X:Cx}{a b c e o i f:Expr}{ta tb te ty:TE}{wa wb we wy:DT}{pos p xp:Pos}{K:Ag}{D:List (Str×Str)}{q:A'}{x:Str}
theorem QE{n:Nat}(h:n<=1000):n<=Av:=A0 h ∎
end
end DL
namespace L2
open PySem PySem.Spec PyProof.Rows PySem.SeqAt PySem.W
end L2
namespace L2
open PySem PySem.Spec PyProof.Rows
def DEs(h:Heap)(d:A')(es:Array G3)(ep:Nat):Prop:=∃o,h.get? d=ae o/\o.ExactDict/\o.data=.dict es ep
end L2
namespace L2
open PySem PySem.Spec PyProof.Rows PySem.SeqAt PySem.W
end L2
namespace L2
open PySem PySem.Spec PyProof.Rows PySem.W
section
variable{prog:A1}{w:Bh}{A:Bo}{E:Af->Ai->Prop}{s:Ai}{d it:A'}{es:Array G3}{ep i:Nat}
theorem DEs.ty(x:DEs s.heap d es ep):s.TypeIs (.ref d) "dict":=let⟨o,e,c,_⟩:=x;⟨o,e,c.1⟩
theorem CD{Q:Af->Ai->Prop}(hd:(d==Dk)=ai)(x:DEs s.heap d es ep)
  (k:Q (.ref s.heap.objs.size) {s with heap:=s.heap.push {cls:=.type "dict_keyiterator",data:=.fields #[.ref d,.int 0 0,.int es.size 0,.int ep 0]}}):A2 (A5 prog w) A (pyIter (.ref d)) Q E s:=by
 obtain⟨o,b,c,a⟩:=id x;refine wpAny_pyIter_slot x.ty F.slot_dict_iter (B9 F.slot_dict_iter x.ty F.entry_dict_iter (Aa ?_) (by trivial));refine Aa (wpAny_notOrdered_dict x.ty (Aj ?_));refine(show A2 _ _ (Builtin.Dict.showsAll d>>=_) _ _ s from ?_);unfold Builtin.Dict.showsAll;rw[a_ (by rw[hd];decide)];refine Aa (Aj (Aa (wpAny_dictEntries b a (Aa (wpAny_dictEpoch b a (Aa (B8 (Aj ⟨_,rfl,_,_,⟨_,Au _ rfl,rfl⟩,F.slot_dict_keyiterator_next.lookup,?_⟩))))))));assumption
theorem oS{Q:Option Af->Ai->Prop}(y:s.heap.IsKeyIter it d i es.size ep)(x:DEs s.heap d es ep)
  (hI:i < es.size->∀h',h'.IsKeyIter it d (i+1) es.size ep->C6 it s.heap h'->Q (ae (es.getD i ⟨0,.none,.none⟩).key) {s with heap:=h'})
  (hE:es.size<=i->A.handled=af/\∀h',Heap.ExtBut it s.heap h'->Q af {s with heap:=h'}):A2 (A5 prog w) A (pyNext (.ref it)) Q E s:=by
 obtain⟨u,c,j,b⟩:=id y;obtain⟨o,h,k,g⟩:=id x;refine Aa (En (Bt y.typeIs F.slot_dict_keyiterator_next (B9 F.slot_dict_keyiterator_next y.typeIs F.entry_dict_keyiterator_next ?_ (F.args_dict_keyiterator_next_1 _))));refine Aa (Aj (Aa (Aa ?_)))
 first|refine Aa (G5 y.typeIs (Aj ?_))|refine Aa _
 refine Aa (Fy c b (show A2 _ _ _ _ _ s from ?_));refine Aa (Aj (Aa (wpAny_dictEntries h g ?_)));rw[a_ (by simp)];refine Aa (Aj (Aa (wpAny_dictEpoch h g ?_)));rw[a_ (by simp)];refine Aj ?_;by_cases f:i < es.size
 ·simp only[Cz,Cg f];refine Aa ?_
  first|refine Aa (G5 y.typeIs (Aj ?_))|refine Aa _
  refine Aa (wpAny_isOneOf_keyiter y.typeIs (show A2 _ _ (setField _ 1 _>>=_) _ _ s from Aa (C7 c b (by simp) ?_)));have z:(s.heap.update it (Obj.mapFields (·.setIfInBounds 1 _))).IsKeyIter it d (i+1) es.size ep:=
   ⟨_,Bv _ c (Dg (B5 b _)),(Eu ..).trans j,by rw[B5 b];rfl⟩
  refine Aa (Cb (Aa (wpAny_isOneOf_keyiter z.typeIs ?_)));have e:=hI f _ z (Bf ..);rw[show es.getD i _=es[i] by simp[f]]at e;exact(Aj (Aj ⟨_,rfl,Aj e⟩))
 ·obtain⟨l,e⟩:=hE ⋯;simp only[Cz,Array.getElem?_eq_none (show es.size<=i by omega)];refine Aa ?_
  first|refine Aa (G5 y.typeIs (Aj ?_))|refine Aa _
  refine(show A2 _ _ (setField _ 0 .none>>=_) _ _ s from Aa (C7 c b (by simp) (Aa ?_)));refine Aa (B8 (Aa (G6 (by rfl) (B8 (Aa (wpAny_handled ?_)) (by size_fits)))) (by size_fits));rw[show A.in1.handled=af by omega];refine Aa (Aj (wpAny_throw (?_:A2 _ _ _ _ _ _)));refine Aa (E8 ⟨_,Au _ rfl,rfl⟩ isSubtype_stop (?_:A2 _ _ _ _ _ _));exact Aj (e _ (((Bf ..).extBut.push _).push _))
theorem DEs.keep{h h':Heap}(x:DEs h d es ep)(k:∀o,h.get? d=ae o->h'.get? d=ae o):DEs h' d es ep:=let⟨o,e,r⟩:=x;⟨o,k o e,r⟩
theorem N0(lo:(d==Dk)=ai):KdlSrc prog w "dict" d d es.size (λi v=>(es[i]?).map (·.key)=ae v) (λh=>DEs h d es ep) where
 type:=λ_ x=>x.ty
 there:=λ_ x=>let⟨_,e,_⟩:=x;⟨Aw e,Aw e⟩
 keep:=λ_ _ x k=>x.keep (k d (.inl rfl))
 notList:=by decide
 notTuple:=by decide
 hint:=λ_ _ _ _ x=>kdl_hint_dict x.ty
 iter:=λA s t x=>by
  obtain⟨y,r,u⟩:=id x;refine⟨_,λi h=>h.IsKeyIter s.heap.objs.size d i es.size ep/\DEs h d es ep,λ_ _=>CD lo x,?_,⟨_,Au _ rfl,rfl,rfl⟩,x.keep λo=>Ae _⟩;exact
   { sub:=λb c=>by simp at c;simp[c],frame:=λ_ _ _ a j=>⟨a.1.at (j _ (by simp)),a.2.keep (j d (by simp))⟩,item:=λi s' Q E g a f=>oS a.1 a.2 (λhi' h' z m=>f _ h' s'.toks (by simp[g]) ⟨z,a.2.keep λo=>m.extBut d o (Bd (Aw r))⟩ λb o c=>m.extBut b o (λh=>c (by simp[h]))) (λz=>g_ g ⋯),done:=λs' Q E a f=>oS a.1 a.2 (λz=>g_ z ⋯) (λ_=>⟨t,λh' p=>f h' s'.toks λb o c=>p b o (λh=>c (by simp[h]))⟩),self:=λ_ _ _ _ a=>wpAny_pyIter_keyiter a.1}
end
end L2
namespace L2
open PySem PySem.Spec PyProof.Rows PySem.SeqAt PySem.W
end L2
namespace DL
open PySem L2 Nb
end DL
namespace L2
open PySem PySem.Spec PyProof.Rows PySem.SeqAt PySem.W
end L2
namespace DL
open PySem L2 Nb
end DL
namespace HT
open PySem PyProof.Rows
end HT
namespace L2
open PySem PySem.Spec PyProof.Rows
end L2
namespace DL
open PySem L2 Nb
end DL
namespace L2
open PySem PySem.Spec PyProof.Rows PySem.SeqAt
end L2
namespace DL
open PySem L2 Nb
end DL
namespace L2
open PySem PySem.Spec PyProof.Rows
end L2
namespace DL
open PySem L2 Nb
end DL
namespace L2
open PySem PySem.Spec PyProof.Rows
def ud(K:Ag):R2:=λx y H Q=>∃a b ys,x=.ref a/\y=.ref b/\SqT K H a []/\SqT K H b ys/\Q (.ref b) H
theorem O9{X:Cx}:OpR X (E9 .Add) (ud X.K):=by
 intro o s σ H x y v u Q I t z h;obtain⟨a,b,L,rfl,rfl,G,A,r⟩:=h;cases(t);cases(z);obtain⟨i,B,p,_⟩:=I.tuple G;obtain⟨d,J,D,_⟩:=I.tuple A;obtain⟨⟨E,q,_,C⟩,k,m,n,l⟩:=id p;obtain⟨⟨_,j,_,g⟩,f,c,w,e⟩:=id D;simp only at m l c e;subst m l c e;exact concat_meets ⟨_,k,rfl⟩ ⟨_,f,rfl⟩ noFill_tuple_add seq_tuple_add F5 F1 (by trivial)
  (tuple_addW0 a b i.toArray d.toArray n w q j C g (by simp[(B.nil_iff.mpr rfl)])) ⟨k,f,⟨.ref b,H,I,rfl,r⟩⟩
end L2
namespace DL
open PySem L2 Nb
section
variable{X:Cx}{a b:Expr}{ta tb:TE}{wa wb:DT}{pos p:Pos}{K:Ag}
def eV:Wv->Wv->Int->DQ->Prop:=λx y n Q=>match x,y with
 |.d (.tuple []),.d (.tuple j)=>Q (.d (.tuple j)) n
 |x,y=>kl x y n Q
theorem Tc:a8 (λx y H Q=>qW K x y H Q\/ud K x y H Q) eV:=λC H B σ δ n x y p q Q o R d e b k=>by
 unfold eV at b
 split at b
 ·rename_i j;cases(show RdX H B x (.tuple [])from d)with
  |@tup g v _ s w u m=>
   cases(show RdX H B y (.tuple j)from e)with
   |@tup h r _ f i l t=>
    cases m;exact .inr ⟨g,h,r,rfl,rfl,SqT.of s,SqT.of f,k _ _ H n R (Kp.refl _ _) ⋯ b⟩
 ·exact .inl (Rq C H B σ δ n x y _ _ Q o R d e b k)
theorem JW(ha:DE X a ta wa)(hb:DE X b tb wb)(hK:X.K=K):DE X (.BinOp a .Add b pos) (cZ (λx y H Q=>qW K x y H Q\/ud K x y H Q) ta tb) (w2 wa wb eV):=by
 subst hK;exact gU (op_addA.or O9) Tc ha hb
end
end DL
namespace L2
open PySem PySem.Spec PyProof.Rows
end L2
namespace DL
open PySem L2 Nb
end DL
namespace L2
open PySem PySem.Spec PyProof.Rows
theorem AV:∀{ks:List Str}{i':List Af},Vals (ks.map V.str) i'->TxOk i' ks
 |[],_,h=>by cases h;exact⟨rfl,λj v a=>by simp at a⟩
 |k::ks,_,h=>by
  cases h with
  |cons r t=>
   obtain⟨l,p⟩:=AV t;obtain⟨c,rfl⟩:=(r);refine⟨by rw[Ax,Ax,l],λj v a=>?_⟩;cases j with
   |zero=>
    simp only[B7,Option.some.injEq]at a;exact⟨k,c,rfl,a.symm⟩
   |succ j=>
    obtain⟨b,e,d,f⟩:=p j v (by assumption);exact⟨b,e,by simpa using d,f⟩
end L2
namespace DL
open PySem L2 Nb
end DL
namespace L2
open PySem PySem.Spec PyProof.Rows
end L2
namespace DL
open PySem L2 Nb
end DL
namespace L2
open PySem PySem.Spec PyProof.Rows
end L2
namespace DL
open PySem L2 Nb
end DL
namespace L2
open PySem PySem.Spec PyProof.Rows
end L2
namespace DL
open PySem L2 Nb
section
variable{X:Cx}{o:Expr}{td:TE}{wd':DT}{pos p p2:Pos}{K:Ag}
def vD:aC->Ad
 |.inl i=>.int i
 |.inr x=>.str x
def oq(k:List aC):Ad:=.tuple (k.map vD)
theorem yX{H:Hp}{B:A'->Prop}{k:List aC}:∀{vs:List V},RdXs H B vs (k.map vD)->vs=k.map kV:=by
 induction k with
 |nil=>intro vs h;cases h;rfl
 |cons x k b=>
  intro vs h;cases h with
  |cons h t=>
   rw[b t];cases x with
   |inl i=>cases(show RdX H B _ (.int i)from h);rfl
   |inr x=>cases(show RdX H B _ (.str x)from h);rfl
end
theorem wG{X:Cx}{a b:Expr}{ta tb:TE}{wa wb:DT}{pos:Pos}(ha:DE X a ta wa)(hb:DE X b tb wb):DE X (.BinOp a .Add b pos) (cZ (fi λi j=>.int (i+j)) ta tb) (w2 wa wb (cj λi j=>.int (i+j))):=gU op_add (z0 λ_ _ _ _=>.int _) ha hb
end DL
namespace L2
open PySem PySem.Spec PyProof.Rows
theorem wF{P:A1}{w:Bh}{A:Bo}(hh:A.handled=af)(it t:A')(hne:t≠it)(xs:Array Af):Draws P w A it [it,t] xs.size (λi v=>xs[i]?=ae v) (λi h=>h.IsTupleIter it t i/\h.IsTuple t xs) where
 live:=λ_ _ z=>by obtain⟨⟨o,q,_⟩,_⟩:=z;exact⟨o,q⟩
 frame:=λ_ _ _ z k=>⟨z.1.at (k it (.head _)),z.2.at (k t (.tail _ (.head _)))⟩
 item:=λi s Q E c z k=>sL z.1 z.2 (Cg c) λh' a b=>k _ h' s.toks (Cg c) ⟨a,z.2.extBut b.extBut hne⟩ b
 done:=λs Q E z=>CY hh z.1 z.2 (by simp)
abbrev qi(h:Heap)(l:A'):Heap:=h.push {cls:=.type "tuple_iterator",data:=.fields #[.ref l,.int 0 0]}
abbrev uO(h:Heap)(l:A'):Heap:=(qi h l).push {cls:=.type "enumerate",data:=.fields #[.none,.bool ai,.ref h.objs.size,D6 0,.none,.none]}
theorem LY(l:A')(xs:Array Af)(n:Nat)(dc:Option A')(sl:Array (Option Af)):
  Meets (Es.«enumerate.__new__» ⟨[.type "enumerate",.ref l],[]⟩) (λ_ R s=>s.heap.get? l=ae {cls:=.type "tuple",dict:=dc,data:=.seq xs n,slots:=sl} /\
   R (.ok (.ret (.ref (qi s.heap l).objs.size))) {s with heap:=uO s.heap l}):=
 .of_wp λP w A R s h=>by
  obtain⟨f,_⟩:=s;obtain⟨a,h⟩:=h;have e:=sub_enumerate;have b:Heap.IsTuple _ l xs:=⟨_,a,rfl,n,rfl⟩
  wp_walk using Fq a
  refine wpAny_stack_any λst=>Aj ?_
  split
  ·rename_i c _ _ _ _ _;cases(c==Et "enumerate")
   ·wp_walk using Fq a,D8 b
    exact⟨_,rfl,h⟩
   ·wp_walk using Fq a,D8 b
    exact⟨_,rfl,h⟩
  ·wp_walk using Fq a,D8 b
   exact⟨_,rfl,h⟩
section
variable{prog:A1}{w:Bh}{A:Bo}{E:Af->Ai->Prop}{s:Ai}
theorem GO{l:A'}{xs:Array Af}{Q:Af->Ai->Prop}(hl:s.heap.IsTuple l xs)
  (h:∀h',IsEnum h' (s.heap.objs.size+1) s.heap.objs.size 0 .none->h'.IsTupleIter s.heap.objs.size l 0->(∀c o,s.heap.get? c=ae o->h'.get? c=ae o)->Q (.ref (s.heap.objs.size+1)) {s with heap:=h'}):
  A2 (A5 prog w) A (call (.type "enumerate") [.ref l]) Q E s:=by
 obtain⟨⟨c,k,m,g⟩,hl,f,n,i⟩:=hl;obtain rfl:=f;obtain rfl:=i;refine callType_new F.called_enumerate ∎ (by trivial) (F.newCall_enumerate_1 _) (λo=>F.args_object_init_2 o _) F.entry_enumerate_new (LY l xs n k g) ⟨hl,?_⟩;have e:(qi s.heap l).objs.size=s.heap.objs.size+1:=Cp ..;have a:(uO s.heap l).get? (qi s.heap l).objs.size=ae _:=Au _ rfl;have j:(uO s.heap l).get? s.heap.objs.size=ae _:=Ae _ (Au _ rfl);rw[e]at a ⊢;exact⟨⟨_,a,rfl⟩,h _ a ⟨_,j,rfl,rfl⟩ λc o x=>Ae _ (Ae _ x)⟩
end
def BV(K:Ag)(a:A'):It:=
 ⟨λi H=>∃xs x,SqT K H a xs/\xs[i]?=ae x,
  λi H v H'=>∃T x,v=.ref T/\H T=af/\H'=upd H T (.tup [.int i,x])/\∀xs,SqT K H a xs->xs[i]?=ae x,
  λi H=>∃xs,SqT K H a xs/\xs.length=i⟩
theorem Kk{P:A1}{w:Bh}{K:Ag}{elts:List Expr}{kk:Nat}{pos:Pos}{a e it:A'}(h1:e≠it)(h2:a≠it)(h3:e≠a):Turn P w K (.Tuple elts kk pos) (BV K a) [e,it] e
  (λi h=>(∃old,IsEnum h e it i old)/\h.IsTupleIter it a i) where
 mem:=by simp
 obj:=λi h d c b=>by
  obtain⟨⟨x,g⟩,⟨N,e1,c1,d1⟩⟩:=d;simp only[Ar,A8,h_]at b;rcases b with rfl|rfl
  ·exact⟨_,g,λv q=>by trivial⟩
  ·exact⟨N,e1,λv q=>by simp_all⟩
 keep:=λi h U d k=>⟨d.1.imp λ_=>k e (by simp) _,d.2.at (k it (by simp))⟩
 item:=by
  intro X r D G b i l s σ H E I m d n;subst r D G;obtain⟨⟨old,g⟩,t⟩:=d;obtain⟨S,x,L,T⟩:=n;obtain⟨f,C,p,_⟩:=I.tuple L;obtain⟨u,Z,Y⟩:=C.get T;have j:=by simpa using(Ap.mp Z).1
  have F:e∉[it,a]:=λz=>by
   simp_all
  refine wpAny_pyNext_enum_itemD (wF (A:=X.A.in1) (I.ok.hd b) it a h2 f.toArray) g ⟨t,p⟩ j h1 F λy U J a1 a2 O R a5 a6=>⟨_,rfl,?_⟩;obtain rfl:u=y:=by
   simp_all
  refine wpAny_letOwnedTupleGo_enum a2 λh'' b1 B=>?_;have M:∀c o,c∉[e,it]->s.heap.get? c=ae o->h''.get? c=ae o:=λc o b e=>by
   simp only[Ar,A8,h_,not_or]at b;exact B.extBut _ _ b.1 (a6 c o b.1 b.2 e)
  refine⟨.ref s.heap.objs.size,upd H s.heap.objs.size (.tup [.int i,x]),I.many m M (by simp) ⟨by show 2<=Av;decide,[.int i J,u],.cons ⟨J,rfl⟩ (.cons Y .nil),_,(B.extBut _ _ (Ft (Aw g)) R),rfl,⟨_,rfl⟩,rfl⟩,rfl,⟨_,x,rfl,(I.hok.fresh (by simp)),rfl,λzs q=>by rw[I.tuple_inj q L];omega⟩,
   ⟨⟨u,by simp<;>omega⟩,O.1.extBut B.extBut h1.symm⟩,λc b=>?_⟩
  have j:c < s.heap.objs.size:=by
   simp only[Ar,A8,h_]at b;rcases b with rfl|rfl
   ·exact Aw g
   ·obtain⟨_,e,_⟩:=t;exact Aw e
  rw[aH (Bd j)];exact(m c b).1
 done:=by
  intro X r D G b i l s σ H E I m d n;subst r D G;obtain⟨⟨old,g⟩,t⟩:=d;obtain⟨S,Q,hx⟩:=n;obtain⟨f,C,p,_⟩:=I.tuple Q;have hl:=C.length;have V:f.toArray.size=i:=by simp;omega
  refine wpAny_pyNext_enum_endD (wF (A:=X.A.in1) (I.ok.hd b) it a h2 f.toArray) g (by rw[V];trivial) λh' k=>⟨rfl,I.many0 m λc o b e=>?_⟩;simp only[Ar,A8,h_,not_or]at b;exact k c o b.2 e
 self:=λ_ _ _ _ _ d=>wpAny_pyIter_enum d.1.choose_spec
def xX(K:Ag)(ta:TA):TI:=λσ H R=>ta σ H λvs H1=>∃a,vs=[.ref a]/\(∃xs,SqT K H1 a xs)/\R (BV K a) H1
theorem M4{X:Cx}{elts:List Expr}{kk:Nat}{tpos:Pos}{e1:Expr}{ta:TA}{p pos:Pos}(hg:Gl X "enumerate")(hm:X.mg "enumerate"=af)(ha:PA X [e1] ta)(hs:Aq [e1] X.env=[(ai,eval e1 X.env)]:=by rfl):
  PI X (.Tuple elts kk tpos) (.Call (.Name "enumerate" p) [e1] [] pos) (xX X.K ta):=by
 intro d s σ H R I h;refine Call_ (k9 I hg hm boot_enumerate (E5 (aL (ha pos d s σ H _ I h) λus k p=>?_) (by trivial) rfl));obtain⟨y,o,f,t,l⟩:=p;obtain⟨a,e,⟨z,w⟩,q⟩:=l;subst e;cases t with
 |cons r n=>
  cases n;cases r;obtain⟨u,x,i,_⟩:=f.tuple w;have g:a < k.heap.objs.size:=by obtain⟨_,e,_⟩:=id i;exact Aw e
  refine GO (i) λh' j v m=>wpAny_pyIter_enum j ⟨_,_,_,_,o,rfl,f.kept m,Kk (by simp) (Bd g) (Ft (Eb g)),⟨⟨_,j⟩,v⟩,λc A=>?_,q⟩;have b:k.heap.objs.size<=c:=by
   grind
  exact f.fpOk b (f.hok.fresh b)
end L2
namespace DL
open PySem L2 Nb
section
variable{X:Cx}{a b e o i f:Expr}{ta tb te td ty:TE}{wa wb we wd' wy:DT}{pos p p2:Pos}{K:Ag}
def iT(neg:Bool):Wv->Wv->Int->DQ->Prop:=λx y n Q=>(∃o,x=.ob o/\y=.d .none/\Q (.d (.bool neg)) n)\/bF neg x y n Q
theorem Md{H:Hp}{B:A'->Prop}{t:A'}{v:V}{o:Ob}(h:WRel H B t v (.ob o)):∃a,v=.ref a:=by
 cases o with
 |o=>exact h
 |p d=>obtain⟨a,_,_,e,_⟩:=h;exact⟨a,e⟩
 |k m=>obtain⟨a,_,e,_⟩:=h;exact⟨a,e⟩
 |y m=>obtain⟨a,_,_,e,_⟩:=h;exact⟨a,e⟩
 |x m=>obtain⟨a,_,e,_⟩:=h;exact⟨a,e⟩
 |q d m=>obtain⟨a,_,_,_,e,_⟩:=h;exact⟨a,e⟩
theorem QD:a8 (λx y H Q=>y=.non/\Q (.bl (decide (x=.non))) H) (iT ai):=λC H B σ δ n x y p q Q e R b c d k=>by
 rcases d with⟨o,rfl,rfl,h⟩|h
 ·obtain⟨a,rfl⟩:=Md b;cases(c);exact⟨rfl,k _ _ H n R (Kp.refl _ _) (wd (.bl _)) h⟩
 ·exact BC C H B σ δ n x y p q Q e R b c h k
end
section
variable{X:Cx}{a b e o:Expr}{ta tb te td ty:TE}{wa wb we wd' wy:DT}{pos p p2:Pos}{K:Ag}{H:Hp}{B:A'->Prop}{l:List (List aC×V)}{m:List (List aC×Ad)}
def gm(m:List (List aC×Ad))(k:List aC):Bool:=m.any λkv=>decide (kv.1=k)
def fG(m:List (List aC×Ad))(k:List aC)(d:Ad):List (List aC×Ad):=if gm m k=ah then m.map (λkv=>if kv.1=k then(kv.1,d)else kv)else m++[(k,d)]
theorem RdT.any(h:RdT H B l m)(k:List aC):(l.any λkv=>decide (kv.1=k))=gm m k:=by
 unfold gm
 induction h with
 |nil=>rfl
 |cons r _ a=>rw[Di,Di,a,r.1]
theorem RdT.isSome(h:RdT H B l m)(k:List aC):(b3 l k).isSome=gm m k:=by
 rw[<-h.any k];unfold b3;rw[Ff,List.isSome_find?]
theorem RdT.len(h:RdT H B l m):l.length=m.length:=by
 induction h with
 |nil=>rfl
 |cons _ _ a=>rw[Ax,Ax,a]
theorem RdT.map{v:V}{d:Ad}(h:RdT H B l m)(r:RdX H B v d)(k:List aC):RdT H B (l.map λkv=>if kv.1=k then(kv.1,v)else kv) (m.map λkv=>if kv.1=k then(kv.1,d)else kv):=by
 induction h with
 |nil=>exact .nil
 |@cons p q f c z _ a=>
  rw[Bk,Bk];refine .cons ?_ a;by_cases e:p.1=k
  ·have b:=z.1▸e;rw[b_ e,b_ b];exact⟨z.1,r⟩
  ·rw[a_ e,a_ (z.1▸e)];exact z
theorem RdT.snoc{v:V}{d:Ad}(h:RdT H B l m)(r:RdX H B v d)(k:List aC):RdT H B (l++[(k,v)]) (m++[(k,d)]):=by
 induction h with
 |nil=>exact .cons ⟨rfl,r⟩ .nil
 |cons z _ a=>exact .cons z a
theorem RdT.put{v:V}{d:Ad}(h:RdT H B l m)(r:RdX H B v d)(k:List aC):RdT H B (bI l k v) (fG m k d):=by
 unfold bI fG;rw[h.any k]
 split
 ·exact h.map r k
 ·exact h.snoc r k
def vq(i:Nat):aE:=λδ n K=>K.nx (δ.set i (ae (.odt []))) n
theorem LP{i:Nat}{x:Str}{pos':Pos}(hN:X.N.Nodup)(hi:X.N[i]?=ae x)(hx:fA X.env.scope x)(hs:Cy (.Dict [] [] p) (ae (.Name x pos')) pos.line X.env=pure ai)(hf:X.fn x=ah\/X.env.scope.names.lookup x=ae .local):
  DS X (.Assign [.Name x pos'] (.Dict [] [] p) pos) (bw AI (dg i)) (vq i):=⟨fN hN hi hx KO hs hf,λC H B σ δ n K D R q E=>λa b=>by
  refine E.nx _ _ _ _ _ (R.own (R.new b) (Kp.new b) b (by rw[a9];simp) rfl ?_) q;exact⟨a,[],rfl,a9,.inr rfl,R.h0 b,Be _,.nil⟩⟩
def qD(i:Nat)(w:DT):DT:=λδ n Q=>w δ n λx n1=>∃k kvs,x=.d (oq k)/\δ[i]?=ae (ae (.odt kvs))/\Q (.d (.bool !gm kvs k)) n1
theorem JF{i:Nat}(hi:DE X a ta wa):dm (m4 ta (aI i)) (qD i wa):=λC H B σ δ n Q J R h k=>
 hi.sd C H B σ δ n _ _ R h λv x g u f F y p=>by
  obtain⟨d,m,rfl,e,q⟩:=p;obtain⟨w,s,b,l,rfl,E,L,K,N,r⟩:=f.sl i _ e;refine⟨_,s,?_⟩;cases(show RdX g B v (.tuple _)from y)with
  |@tup c G _ D I M j=>
   have o:=yX j;subst o;refine⟨b,_,rfl,DGet.t E D,k _ _ g u f F (wd (.bl _)) ?_⟩;rw[r.isSome d];exact q
theorem GG{i:Nat}{x:Str}{xp:Pos}(hu:X.A.units+64 < Dd)(hN:X.N[i]?=ae x)(hi:DE X a ta wa)(hv:dY X.env.scope x)(hd:(x==("__debug__":Str))=ai)
  (r_:(x==("__classdict__":Str))=ai) (hm:Cm .NotIn (.Name x xp)=ai):DC X (.Compare a [.NotIn] [.Name x xp] pos) (fQ (m4 ta (aI i))) (cT (qD i wa)):=⟨yb (EK ⋯ hi.pe (eS hN hv hd r_)) hm,kb (JF hi)⟩
def zr(i:Nat)(wy wv:DT):aE:=λδ n K=>wv δ n λv n1=>∃kvs,δ[i]?=ae (ae (.odt kvs))/\wy δ n1 λy n2=>∃k d,v=.d d/\y=.d (oq k)/\kvs.length < 1000/\K.nx (δ.set i (ae (.odt (fG kvs k d)))) n2
theorem OH{i:Nat}{x:Str}{xp sp:Pos}{j e:Expr}{tj te:TE}{wj we:DT}(hu:X.A.units+64 < Dd)(hN:X.N[i]?=ae x)(hj:DE X j tj wj)(he:DE X e te we)(hv:dY X.env.scope x)(hd:(x==("__debug__":Str))=ai)
  (r_:(x==("__classdict__":Str))=ai) (hs:Cy e (ae (.Subscript (.Name x xp) j sp)) pos.line X.env=pure ai):
  DS X (.Assign [.Subscript (.Name x xp) j sp] e pos) (uu (aI i) tj te) (zr i wj we):=
 ⟨ER ⋯ (eS hN hv hd r_) hj.pe he.pe hs,λC H B σ δ n K D R q E=>
  he.sd C H B σ δ n _ _ R q λu y T U g k1 Y p=>by
   obtain⟨O,I,p⟩:=p;obtain⟨v,hv,a,l,rfl,V,r,s,e5,P⟩:=g.sl i _ I;refine⟨_,hv,hj.sd C T B σ δ U _ _ g p λw z S n2 W k Z m=>?_⟩;obtain⟨h,d,rfl,rfl,J,m⟩:=m;have G:a≠C.t:=λz=>R.t0 (z▸s);have f:=P.move λb o e n=>⟨k b o e λz=>n (z▸g.bt),n⟩;have L:l.length < 1000:=by rw[f.len];omega
   cases(show RdX S B w (.tuple _)from Z)with
   |@tup c zs _ i1 i2 i3 M=>
    have Q:=yX M;subst Q;refine⟨a,_,rfl,DPut.t (k _ _ V G) i1 (Bn L ∎),E.nx _ _ _ _ _ (W.mutOwn I rfl hv r s ?_ rfl) m⟩;refine⟨a,_,rfl,a9,r,s,?_,?_⟩
    ·have:=pV l h u;omega
    ·exact(f.put (RdX.kp k g.bt Y) _).move λb o e n=>⟨(aH λ(z:b=a)=>n (z▸r))▸e,n⟩⟩
end
section
variable{X:Cx}{a b e o i f:Expr}{ta tb te td ty:TE}{wa wb we wd' wy:DT}{pos p p2:Pos}{K:Ag}
def i9(k:Int)(xs:List Ad):List Ad:=xs.zipIdx.map λq=>.tuple [.int (k+q.2),q.1]
theorem rk{k:Int}{xs:List Ad}:(i9 k xs).length=xs.length:=by unfold i9;simp
theorem NQ{k:Int}{xs:List Ad}{i:Nat}{d:Ad}(h:(i9 k xs)[i]?=ae d):∃x,xs[i]?=ae x/\d=.tuple [.int (k+i),x]:=by
 unfold i9 at h;rw[Am,List.getElem?_zipIdx]at h;cases e:xs[i]? with
 |none=>rw[e]at h;cases h
 |some x=>
  refine⟨x,rfl,?_⟩;simp_all
theorem JP{k:Int}{x:Ad}{xs:List Ad}:i9 k (x::xs)=.tuple [.int k,x]::i9 (k+1) xs:=by
 refine List.ext_getElem? λi=>?_;unfold i9;cases i with
 |zero=>rw[List.zipIdx_cons,Bk,B7,B7,Int.natCast_zero,Int.add_zero]
 |succ i=>
  rw[List.getElem?_cons_succ,Am,Am,List.getElem?_zipIdx,List.getElem?_zipIdx,List.getElem?_cons_succ];cases xs[i]? with
  |none=>rfl
  |some y=>
   show ae (PyData.tuple [.int _,y])=ae _;have:k+(0+(i+1):Nat)=k+1+(0+i:Nat):=by omega
   rw[this]
def yu(w:DT):fI:=λδ n Q=>w δ n λx n1=>∃xs,x=.d (.tuple xs)/\Q (i9 0 xs) n1
theorem P4{elts:List Expr}{kk:Nat}{tpos:Pos}(hg:Gl X "enumerate")(hm:X.mg "enumerate"=af)(ha:DE X a ta wa)(hK:X.K=K)(hs:Aq [a] X.env=[(ai,eval a X.env)])(he1:Aq [a] X.env=(ai,eval a X.env)::Aq [] X.env):
  DI X (.Tuple elts kk tpos) (.Call (.Name "enumerate" p) [a] [] pos) (xX K (br ta aW)) (yu wa):=by
 subst hK;refine⟨M4 hg hm (bZ ha.pe dq he1) hs,λC H B σ δ n Q Q' R q k=>ha.sd C H B σ δ n _ _ R q λv x m S O k1 Z I=>?_⟩;obtain⟨U,rfl,G⟩:=I;cases(show RdX m B v (.tuple U)from Z)with
 |@tup F g _ E W J f=>
  refine⟨F,rfl,⟨g,SqT.of E⟩,k _ _ m S O k1 (λfz s=>?_) G⟩;have u:=s.2 _ _ E W;refine⟨by rw[rk,<-f.len];exact J,λi H c w=>?_,λH c=>?_,λi H x H' d c N t=>?_⟩
  ·rw[rk]at w;have P:i < g.length:=by rw[f.len];exact w
   exact⟨g,_,SqT.of (c _ _ u),Ah P⟩
  ·exact⟨g,SqT.of (c _ _ u),by rw[rk,f.len]⟩
  ·obtain⟨T,Y,rfl,h,rfl,V⟩:=t;refine⟨λb o e=>(aH (bu e h))▸e,λB' M r=>?_⟩;obtain⟨y,t,rfl⟩:=NQ N;obtain⟨u1,j,l⟩:=f.getD t;have D:=V _ (SqT.of (c _ _ u));rw[j]at D;cases D;have L:∀b o,m b=ae o->¬B b->upd H T (.tup [.int i,Y]) b=ae o/\¬B' b:=λb o e A=>by
    have:=c _ _ (s.2 _ _ e A);exact⟨(aH (bu this h))▸this,M _ _ (s.2 _ _ e A)⟩
   rw[Int.zero_add];exact .tup a9 (λz=>r T z h) (by show 2<=Av;decide) (.cons (.int _) (.cons (l.move L) .nil))
def qe(hs:List Str)(w:DT):DT:=λδ n Q=>w δ n λx n1=>∃a,x=.d a/\eG a=ah/\Q (.d (.bool !cE a (hs.map .str))) n1
theorem O3{q:A'}{hs:List Str}(hl:∀h∈hs,h.length<=1000)(hq:∀H,SqT K H q (hs.map V.str))(h:dm ta wa):dm (cZ (gj K ah) ta (tC (.ref q))) (qe hs wa):=λC H B σ δ n Q j R z k=>
 h C H B σ δ n _ _ R z λv x b g f i d a=>by
  obtain⟨l,rfl,a⟩:=a;have c:RdXs b B _ (hs.map .str):=nk hl;refine⟨q,_,rfl,.inr (hq b),kE d a.1,jC c ?_,k _ _ b g f i (wd (.bl _)) ?_⟩
  ·rw[List.all_map];exact E4.mpr λ_ _=>rfl
  ·rw[jO d c];exact a.2
theorem S3{q:A'}{hs:List Str}{x:Str}{xp:Pos}(ha:DE X a ta wa)(hg:Gl X x)(hm:X.mg x=ae (.ref q))(hq:∀H,SqT K H q (hs.map V.str))(hl:∀h∈hs,h.length<=1000)(hK:X.K=K)(hd:(x==("__debug__":Str))=ai)
  (hmk:Cm .NotIn (Expr.Name x xp)=ai):DC X (.Compare a [.NotIn] [.Name x xp] pos) (fQ (cZ (gj K ah) ta (tC (.ref q)))) (cT (qe hs wa)):=
 ⟨ja (oW hK) ha.pe (v7 hg hm rfl hd) hmk,kb (O3 hl hq ha.sd)⟩
end
section
variable{X:Cx}{e:Expr}{te:TE}{we:DT}{pos p:Pos}
def ko(w:jy):DT:=λδ n Q=>w δ n λkvs n1=>Q (.dk kvs) n1
theorem DN.d{w:jy}(h:DN X e te w):DE X e te (ko w):=⟨h.pe,λC H B σ δ n Q u R q k=>
 h.sd C H B σ δ n _ _ R q λa l c p j f r t m s g i=>by
  refine k _ (.dk c) p j f r ⟨a,l,rfl,m,λz=>?_,g.move λb o e n=>⟨e,λz=>n (.inl z)⟩⟩ i;obtain⟨_,_⟩:=R.tp.ob;simp_all⟩
abbrev ke(w:DT):DT:=ko (je w)
theorem NP(hh:X.A.handled=af)(hg:Gl X "dict")(hm:X.mg "dict"=af)(he:DE X e te we)(he':Aq [e] X.env=(ai,eval e X.env)::Aq [] X.env)(q_:(C0 pos (Aq [] X.env)).any (·.1)=ai):DE X (.Call (.Name "dict" p) [e] [] pos) (d5 zy (br te aW)) (ke we):=
 (yz hh hg hm he (by rfl) he' q_).d
end
end DL
namespace Nb
open PySem L2 DL
theorem Te{n many:Int}{Q:DQ}(h:n < 2 ^ 40)(h0:0 < many)(h1:many < 1073741824)(k:∀r:Int,0<=r->r < many->Q (.d (.int r)) (n+1)):cx [.tp,.d (.int many)] n Q:=⟨⟨h,h0,h1⟩,k⟩
theorem uR{ds:List Ad}{r:Int}{n:Int}{Q:DQ}(h0:0<=r)(h1:r < (ds.length:Int))(k:∀d∈ds,Q (.d d) n):aw (.d (.list ds)) (.d (.int r)) n Q:=by
 obtain⟨v,_⟩:=EJ h0 h1;show match cO ds r with|some d=>Q _ n|none=>False
 simp_all
theorem ML{w:DT}{Q:List Ad->Int->Prop}{aA:Sl}(c:Nat)(h:∀d n Q',n+(c:Int) < 2 ^ 39->(∀y n',n'<=n+(c:Int)->Q' (.d y) n')->w (↑d::aA) n Q'):
  ∀(items j_:List Ad)(x:Option SV)(n:Int),n+(c:Int)*(items.length:Int) < 2 ^ 39->(∀ds n',n'<=n+(c:Int)*(items.length:Int)->Q ds n')->c0 (aJ 0) bV w Q items j_ (x::aA) n
 |[],j_,x,n,b,q=>q j_ n (by simp)
 |d::r,j_,x,n,b,q=>by
  rw[Ax]at b q;have e:c*((r.length+1:Nat):Int)=c*(r.length:Int)+c:=by rfl
  have i:0<=c*(r.length:Int):=Int.mul_nonneg (by simp) (by simp);exact h d n _ ⋯ λy n' f=>ML c h r _ _ n' ⋯ λds a g=>q ds a ⋯
theorem eM(n:Nat):(bL 0 n).length=n:=by unfold bL;simp
theorem sN{w:DT}{Q:List Ad->Int->Prop}{aA:Sl}(P:Ad->Prop)(c:Nat)(h:∀d n Q',n+(c:Int) < 2 ^ 39->(∀y n',P y->n'<=n+(c:Int)->Q' (.d y) n')->w (↑d::aA) n Q'):
  ∀(items j_:List Ad)(x:Option SV)(n:Int),n+(c:Int)*(items.length:Int) < 2 ^ 39->(∀ds n',ds.length=items.length->(∀d∈ds,P d)->n'<=n+(c:Int)*(items.length:Int)->Q (j_++ds) n')->c0 (aJ 0) bV w Q items j_ (x::aA) n
 |[],j_,x,n,f,q=>by
  have:=q [] n rfl (by simp) (by simp);rwa [Br]at this
 |d::r,j_,x,n,f,q=>by
  rw[Ax]at f q;have e:c*((r.length+1:Nat):Int)=c*(r.length:Int)+c:=by rfl
  have m:0<=c*(r.length:Int):=Int.mul_nonneg (by simp) (by simp);refine h d n _ ⋯ λy n' l j=>sN P c h r _ _ n' ⋯ λds a g b k=>?_;rw[A6];refine q (y::ds) a (by simp<;>omega) (λd i=>?_) ⋯;rcases Ar.mp i with rfl|z
  ·exact l
  ·exact b d z
theorem eq_str(a:Ad)(h:Str):eU a (.str h)=ae (cP h a):=by cases a<;>rfl
theorem eq_int(i j:Int):eU (.int i) (.int j)=ae (decide (i=j)):=rfl
theorem MC{α:Type}(a:α)(r:List α):cO (a::r) 0=ae a:=d9 rfl
theorem My{α:Type}(a b:α)(r:List α):cO (a::b::r) 1=ae b:=d9 rfl
section
variable{δ:Sl}{n:Int}{Q:DQ}{K:DEnds}{W V:aE}{i j:Nat}{a b d:Ad}{r ds:List Ad}{h:Str}
theorem aB(h:W δ n {K with nx:=λδ n=>V δ n K}):aq W V δ n K:=h
theorem av{x:Wv}(e:δ[i]?=ae (ae (.w x)))(k:Q x n):aj i δ n Q:=by unfold aj;simp_all
theorem gT{m:Nat}(e:δ[i]?=ae (↑(.tuple ds)))(e2:ds[m]?=ae a)(k:Q (.d a) n):w2 (aj i) (wC (.int (m:Int))) aw δ n Q:=by
 refine av e ?_;unfold wC aw;simp only[d9 e2];exact k
theorem dN(e:δ[i]?=ae (↑(.tuple (a::r))))(k:Q (.d a) n):w2 (aj i) (wC (.int 0)) aw δ n Q:=gT e rfl k
theorem cR(e:δ[i]?=ae (↑(.tuple (a::b::r))))(k:Q (.d b) n):w2 (aj i) (wC (.int 1)) aw δ n Q:=gT e rfl k
theorem eR(e:δ[i]?=ae (↑(.tuple (a::r))))(k:Q (.d (.bool (cP h a))) n):w2 (w2 (aj i) (wC (.int 0)) aw) (wC (.str h)) bg δ n Q:=by
 refine dN e ?_;unfold wC bg;simp only[eq_str];exact k
theorem cG{c:b5}(k:c δ n λb n1=>if b=ah then W δ n1 K else V δ n1 K):aM c W V δ n K:=k
theorem qg(e:δ[i]?=ae (↑(.tuple (a::r))))(hT:cP h a=ah->W δ n K)(hF:cP h a=ai->V δ n K):aM (cT (w2 (w2 (aj i) (wC (.int 0)) aw) (wC (.str h)) bg)) W V δ n K:=eR e (ml hT hF)
theorem dE(e:δ[i]?=ae (↑(.tuple (a::r))))(z:cP h a=ai)(hF:V δ n K):aM (cT (w2 (w2 (aj i) (wC (.int 0)) aw) (wC (.str h)) bg)) W V δ n K:=qg e (λq=>by simp_all) λ_=>hF
theorem jZ(e:δ[i]?=ae (↑(.tuple (a::r))))(z:cP h a=ah)(hT:W δ n K):aM (cT (w2 (w2 (aj i) (wC (.int 0)) aw) (wC (.str h)) bg)) W V δ n K:=qg e (λ_=>hT) λq=>by simp_all
end
theorem SQ:cP "is" (.str "is")=ah:=by rfl
theorem SN:cP "is" (.str "any")=ai:=by rfl
theorem RF:cP "is" (.str "word")=ai:=by rfl
theorem LC:cP "is" (.str "number")=ai:=by rfl
theorem PD:cP "is" (.str "bind")=ai:=by rfl
theorem AR:cP "is" (.str "as")=ai:=by rfl
theorem Tj:cP "word" (.str "word")=ah:=by rfl
theorem Tn:cP "word" (.str "number")=ai:=by rfl
theorem Ts:cP "as" (.str "bind")=ai:=by rfl
theorem Th:cP "as" (.str "as")=ah:=by rfl
theorem BG:cP "bind" (.str "bind")=ah:=by rfl
section
variable{δ:Sl}{n:Int}{Q:DQ}{K:DEnds}{W V:aE}{i j:Nat}{a b d:Ad}{r ds:List Ad}
theorem au{wa wb:DT}{g:Wv->Wv->Int->DQ->Prop}(k:wa δ n λx n1=>wb δ n1 λy n2=>g x y n2 Q):w2 wa wb g δ n Q:=k
theorem bz{w:DT}{x:Ad}(h:∀Q:DQ,Q (.d x) n->w δ n Q)(k:K.nx (δ.set i (↑x)) n):ay i w δ n K:=h _ k
theorem ij(k:K.nx (δ.set i (ae (.own []))) n):bo i (aO ak) δ n K:=⟨Be _,k⟩
theorem cY(k:Q (.d a) n):aw (.d (.tuple (a::r))) (.d (.int 0)) n Q:=by
 show(match cO _ 0 with|some d=>Q (.d d) n|none=>False);rw[MC];exact k
theorem eL(k:Q (.d b) n):aw (.d (.tuple (a::b::r))) (.d (.int 1)) n Q:=by
 show(match cO _ 1 with|some d=>Q (.d d) n|none=>False);rw[My];exact k
theorem fB{c:Ad}(k:Q (.d c) n):aw (.d (.tuple (a::b::c::r))) (.d (.int 2)) n Q:=by
 show(match cO _ 2 with|some d=>Q (.d d) n|none=>False);rw[show cO _ 2=ae c from d9 rfl];exact k
theorem aG{c:Ad}(k:Q (.d c) n):wC c δ n Q:=k
theorem aX{w:DT}{g:List Wv->Int->DQ->Prop}(k:w δ n λx n1=>g [x] n1 Q):wB g (ao w ak) δ n Q:=k
theorem de{w:DT}{S:aP}(k:w δ n λx n1=>S [x] n1 Q):aD S (ao w ak) δ n Q:=k
theorem b7{w w':DT}{S:aP}(k:w δ n λx n1=>w' δ n1 λy n2=>S [x,y] n2 Q):aD S (ao w (ao w' ak)) δ n Q:=k
theorem bS{w w' w'':DT}{S:aP}(k:w δ n λx n1=>w' δ n1 λy n2=>w'' δ n2 λz n3=>S [x,y,z] n3 Q):aD S (ao w (ao w' (ao w'' ak))) δ n Q:=k
theorem a7{w:d0}(k:w δ n λds n1=>Q (.d (.list ds)) n1):bb w δ n Q:=k
theorem iF{fr:List (Option Nat)}{w e:DT}{g:dw}{c:b5}{Q:List Ad->Int->Prop}(hw:∀Q:DQ,Q (.d (.tuple ds)) n->w δ n Q)(k:c0 g c e Q ds [] (jm fr δ) n):cg fr (dj w) g c e δ n Q:=hw _ k
theorem P9(e:δ[i]?=ae (↑(.tuple ds)))(k:Q (.d (.int ds.length)) n):wB bC (ao (aj i) ak) δ n Q:=aX (av e k)
theorem Rt(e:δ[j]?=ae (↑(.tuple ds)))(k:K.nx (δ.set i (ae (.own ds))) n):bo i (lQ (aj j)) δ n K:=by
 unfold bo lQ;exact av e k
theorem bN{w:DT}(k:w δ n K.rt):az w δ n K:=k
theorem JT{wa wb wc:DT}{x y z:Int}(ha:∀Q:DQ,Q (.d (.int x)) n->wa δ n Q)(hb:∀Q:DQ,Q (.d (.int y)) n->wb δ n Q)(hc:∀Q:DQ,Q (.d (.int z)) n->wc δ n Q)(h:x<=y)(k:Q (.d (.bool (decide (y<=z)))) n):pU mV mV wa wb wc δ n Q:=by
 refine ha _ (hb _ ?_);show gf (.d (.bool (decide _))) _ _;rw[c_ h];exact hc _ k
theorem g9(e:δ[i]?=ae (ae (.own ds)))(k:W (δ.set i (↑(.list ds))) n K):bU i W δ n K:=by
 unfold bU;simp_all
theorem JX{u v:DT}(hu:∀Q:DQ,Q (.d (.bool ah)) n->u δ n Q)(hv:v δ n Q):fw u v δ n Q:=hu _ hv
theorem aF{w:DT}{k:Bool}{Q:Bool->Int->Prop}(hw:∀Q':DQ,Q' (.d (.bool k)) n->w δ n Q')(q:Q k n):cT w δ n Q:=hw _ q
theorem bq{C:b5}(hc:∀Q:Bool->Int->Prop,Q ai n->C δ n Q)(hF:V δ n K):aM C W V δ n K:=hc _ (by assumption)
theorem bP{C:b5}(hc:∀Q:Bool->Int->Prop,Q ah n->C δ n Q)(hT:W δ n K):aM C W V δ n K:=hc _ (by assumption)
theorem gv{A B:b5}{Q:Bool->Int->Prop}(ha:∀Q:Bool->Int->Prop,Q ai n->A δ n Q)(hb:B δ n Q):f9 A B δ n Q:=ha _ (by assumption)
theorem nc{A B:b5}{Q:Bool->Int->Prop}(ha:∀Q:Bool->Int->Prop,Q ah n->A δ n Q)(k:Q ah n):f9 A B δ n Q:=ha _ (k)
theorem qH{A B:b5}{Q:Bool->Int->Prop}(ha:∀Q:Bool->Int->Prop,Q ah n->A δ n Q)(hb:B δ n Q):dU A B δ n Q:=ha _ (by assumption)
theorem lR{A:b5}{k:Bool}{Q:Bool->Int->Prop}(ha:∀Q:Bool->Int->Prop,Q k n->A δ n Q)(q:Q (!k) n):dh A δ n Q:=ha _ q
end
theorem eZ{g:dw}{W:aE}{K:DEnds}(I:List Ad->Sl->Int->Prop)(h0:∀δ n,I [] δ n->K.nx δ n)
  (h1:∀d r δ n (N:Sl->Int->Prop),I (d::r) δ n->(∀δ n,I r δ n->N δ n)->g d δ λδ'=>W δ' n {K with nx:=N,ct:=N,bk:=K.nx}):∀ds δ n,I ds δ n->ew g W K ds δ n
 |[],δ,n,h=>h0 δ n h
 |d::r,δ,n,h=>h1 d r δ n _ h (eZ I h0 h1 r)
section
variable{δ:Sl}{n m:Int}{Q:DQ}{K:DEnds}{W V:aE}{i j:Nat}{ds:List Ad}
theorem iu{w:DT}(e0:δ[0]?=ae (ae (.w .tp)))(hw:∀Q:DQ,Q (.d (.int m)) n->w δ n Q)(h:n < 2 ^ 40)(h0:0 < m)(h1:m < 1073741824)(k:∀r:Int,0<=r->r < m->Q (.d (.int r)) (n+1)):aD cx (ao ↥0 (ao w ak)) δ n Q:=
 b7 (av e0 (hw _ (by trivial)))
theorem hV(e0:δ[0]?=ae (ae (.w .tp)))(h:n < 2 ^ 40)(h0:0 < m)(h1:m < 1073741824)(k:∀r:Int,0<=r->r < m->Q (.d (.int r)) (n+1)):aD cx (ao ↥0 (ao (wC (.int m)) ak)) δ n Q:=iu e0 (λQ=>aG) h h0 h1 k
theorem rB(e0:δ[0]?=ae (ae (.w .tp)))(h:n < 2 ^ 40)(h0:0 < m)(h1:m < 1073741824)(k:∀r:Int,0<=r->r < m->K.nx (δ.set i (↑(.int r))) (n+1)):ay i (aD cx (ao ↥0 (ao (wC (.int m)) ak))) δ n K:=hV e0 h h0 h1 k
theorem ug{r:Int}(h0:0<=r)(h1:r < (ds.length:Int))(k:∀d∈ds,Q (.d d) n):aQ (.ln ds) (.d (.int r)) n Q:=by
 obtain⟨v,_⟩:=EJ h0 h1;show(match cO ds r with|some d=>Q _ n|none=>False);simp_all
theorem iM{r:Int}(h0:0<=r)(h1:r < (ds.length:Int))(k:∀d∈ds,Q (.d d) n):aQ (.d (.list ds)) (.d (.int r)) n Q:=uR h0 h1 k
theorem lj(e:δ[i]?=ae (ae (.own ds)))(k:Q (.ln ds) n):cv i δ n Q:=by
 unfold cv;simp_all
theorem jW{w:DT}{x:Ad}{es:List Ad}(e:δ[i]?=ae (ae (.own es)))(hw:∀Q:DQ,Q (.d x) m->w δ n Q)(hl:es.length < 1000000)(k:K.nx (δ.set i (ae (.own (es++[x])))) m):aV i w δ n K:=by
 unfold aV;rw[e];exact hw _ (Al hl k)
theorem iZ{w:DT}{es:List Ad}(e:δ[i]?=ae (ae (.own es)))(k:w δ n λx n1=>match x with
  |.d d=>es.length < 1000000/\K.nx (δ.set i (ae (.own (es++[d])))) n1
  |_=>False):aV i w δ n K:=by
 unfold aV;rw[e];exact k
theorem cC{w w':DT}(k:w δ n λx n1=>w' δ n1 λy n2=>match hO [x,y]with
  |some ds=>ds.length<=1000/\Q (.d (.tuple ds)) n2
  |none=>False):ax (ao w (ao w' ak)) δ n Q:=k
theorem jg{w w' w'':DT}(k:w δ n λx n1=>w' δ n1 λy n2=>w'' δ n2 λz n3=>match hO [x,y,z]with
  |some ds=>ds.length<=1000/\Q (.d (.tuple ds)) n3
  |none=>False):ax (ao w (ao w' (ao w'' ak))) δ n Q:=k
theorem jR(k:Q (.d (.tuple ds)) n):fJ [.d (.list ds)] n Q:=k
theorem tW{a b:Int}(k:Q (.d (.bool (decide (a < b)))) n):fL (.d (.int a)) (.d (.int b)) n Q:=k
theorem j3{a b:Int}(e:δ[i]?=ae (↑(.int a)))(hT:a < b->W δ n K)(hF:¬a < b->V δ n K):aM (cT (w2 (aj i) (wC (.int b)) fL)) W V δ n K:=by
 refine cG (au (av e (aG ?_)));show if decide _=ah then _ else _
 by_cases h:a < b
 ·rw[b_ (c_ h)];exact hT h
 ·rw[a_ (by simpa using h)];exact hF h
end
section
variable{δ:Sl}{n m:Int}{Q:DQ}{K:DEnds}{W V:aE}{i j:Nat}{ds:List Ad}
theorem LL{w w' w'' v:DT}(k:w δ n λx n1=>w' δ n1 λy n2=>w'' δ n2 λz n3=>v δ n3 λu n4=>match hO [x,y,z,u]with
  |some ds=>ds.length<=1000/\Q (.d (.tuple ds)) n4
  |none=>False):ax (ao w (ao w' (ao w'' (ao v ak)))) δ n Q:=k
theorem js(k:Q (.d (.list [])) n):bb (aO ak) δ n Q:=Al ∎ k
theorem iC(k:Q (.d (.bool ds.isEmpty)) n):bG (.ln ds) (.d (.list [])) n Q:=k
theorem iN{a b:Int}(k:Q (.d (.bool (decide (a=b)))) n):bG (.d (.int a)) (.d (.int b)) n Q:=k
theorem mY{a b:Int}(e:δ[i]?=ae (↑(.int a)))(hT:a=b->W δ n K)(hF:¬a=b->V δ n K):aM (cT (w2 (aj i) (wC (.int b)) bG)) W V δ n K:=by
 refine cG (au (av e (aG ?_)));show if decide _=ah then _ else _
 by_cases h:a=b
 ·rw[b_ (c_ h)];exact hT h
 ·rw[a_ (by simpa using h)];exact hF h
theorem tT{a b:Int}(e:δ[i]?=ae (↑(.int a)))(hT:b < a->W δ n K)(hF:¬b < a->V δ n K):aM (cT (w2 (aj i) (wC (.int b)) wm)) W V δ n K:=by
 refine cG (au (av e (aG ?_)));show if decide _=ah then _ else _
 by_cases h:b < a
 ·rw[b_ (c_ h)];exact hT h
 ·rw[a_ (by simpa using h)];exact hF h
end
theorem nZ(hs:List Str):(hs.map Eh).all eG=ah:=by
 rw[E4];intro d a;obtain⟨x,_,rfl⟩:=A7.mp a;rfl
theorem BL{δ:Sl}{n m:Int}{K:DEnds}{W:aE}{g:dw}{L:List Ad}{wl:DT}{M:Nat}(e:δ[0]?=ae (ae (.w .tp)))(hl:∀Q:DQ,Q (.d (.list L)) n->wl δ n Q)(hn:n < 2 ^ 40)(hm:m=L.length)(h0:0 < m)(h1:m < 1000)(hL:∀d∈L,∃j:Nat,j<=M/\d=.int j)(hM:M<=1000)(k:∀j:Nat,j<=M->ew g W K (bL 0 j) δ (n+1)):
  aZ (eI (w2 wl (aD cx (ao ↥0 (ao (wC (.int m)) ak))) aQ)) g W δ n K:=by
 refine au (hl _ (hV e hn h0 ⋯ λr b f=>iM b ⋯ λd a=>?_));obtain⟨j,c,rfl⟩:=hL d a;simp_all<;>omega
theorem NG{ds:List Ad}{n:Int}{Q:DQ}(k:Q (.d (.int ds.length)) n):dP [.ln ds] n Q:=k
theorem bj{n:Int}{Q:DQ}{i:Nat}{x:Ad}{xs:List Ad}(h:xs[i]?=ae x)(k:Q (.d x) n):aw (.d (.tuple xs)) (.d (.int (i:Nat))) n Q:=by
 show(match cO xs (i:Int)with|some d=>Q _ n|none=>False);rw[d9 h];exact k
theorem ES(xs:List Ad){p:Nat}(hp:p<=xs.length):ef xs af (ae (p:Int))=xs.take p:=by
 unfold ef;show(xs.drop 0).take (min p xs.length-0)=_;simp_all
end Nb
namespace DL
open PySem L2 Nb
section
variable{X:Cx}{K:Ag}
def NT:Option Nat->Ad
 |none=>.none
 |some i=>.int i
def sh:Option Nat->Str
 |none=>"None"
 |some i=>toString (i:Int)
def zC:List V->Hp->VK->Prop:=λxs H Q=>(∃i:Nat,xs=[.int i]/\i < 128/\Q (.str (sh (ae i))) H)\/(xs=[.non]/\Q (.str (sh af)) H)
theorem call_reprN:CallR X (.builtin "repr") zC:=by
 intro a s σ H d e Q I r h;rcases h with⟨i,rfl,c,q⟩|⟨rfl,q⟩
 ·obtain⟨u,rfl,t,rfl⟩:=e8 r;refine PySem.P.repr_of_int (D7 (Nat.log2_le_self _) ?_) ⟨.str _,H,I.tok _,⟨_,rfl⟩,q⟩;rw[Int.natAbs_natCast];omega
 ·obtain⟨u,rfl,b⟩:=e8 r;cases(b);exact P.repr_of_none ⟨.str "None",H,I.tok _,⟨_,rfl⟩,q⟩
def m9:List Wv->Int->DQ->Prop:=λxs n Q=>(∃o:Option Nat,xs=[.d (NT o)]/\(∀i,o=ae i->i < 128)/\Q (.d (.str (sh o))) n)\/pq xs n Q
theorem Jt:∀i < 128,(Str.ofString (toString ((i:Nat):Int))).length<=1000:=by decide +kernel
theorem Jx:cX (λxs H Q=>zC xs H Q\/wq K xs H Q) m9:=λC H B σ δ n e xs Q f R r h k=>by
 rcases h with⟨o,rfl,b,q⟩|h
 ·refine .inl ?_;cases r with
  |cons c d=>
   cases d;cases o with
   |none=>
    cases(c);exact .inr ⟨rfl,k _ _ H n R (Kp.refl _ _) (wd (show RdX H B _ (.str _)from .str _ (by trivial))) q⟩
   |some i=>
    cases(show RdX H B _ (.int i)from c);exact .inl ⟨i,rfl,b i rfl,k _ _ H n R (Kp.refl _ _) (wd (.str _ (QE (Jt i (b i rfl))))) q⟩
 ·exact .inr (Ng C H B σ δ n e _ Q f R r h k)
end
end DL
namespace Nb
open PySem L2 DL
abbrev Nm:=List (Str×Ad)
inductive Fd where
 |is (v:Ad)|any|word|number|bind (x:Str)|as (x:Str)
def Fd.d:Fd->Ad
 |.is v=>.tuple [.str "is",v]
 |.any=>.tuple [.str "any"]
 |.word=>.tuple [.str "word"]
 |.number=>.tuple [.str "number"]
 |.bind x=>.tuple [.str "bind",.str x]
 |.as x=>.tuple [.str "as",.str x]
abbrev okX(x:Str):Prop:=x.length<=4/\Ed x=ah/\kc 4 (.str x)=ah
def bO:Ad->Bool
 |.str x=>decide (x.length<=8)&&(Ed x&&decide (x="a"\/x="ab"\/x="go"))
 |.int i=>decide (0<=i)&&(decide (i<=99)&&(decide (Gm (.int i)<=20)&&(PyData.intsShort 13 (.int i)&&PyData.showable (.int i))))
 |_=>ai
def Fd.ok:Fd->Prop
 |.is v=>bO v=ah
 |.bind x=>okX x
 |.as x=>okX x
 |_=>True
def fc(a b:Ad):Bool:=(eU a b).getD ai
theorem lp{a b:Ad}(ha:bO a=ah)(hb:bO b=ah):eU a b=ae (fc a b):=by
 cases a<;>first|cases ha|(cases b<;>first|cases hb|rfl)
theorem Ij{a b:Ad}(ha:bO a=ah)(hb:bO b=ah)(h:fc a b=ah):a=b:=by
 cases a<;>first|cases ha|(cases b<;>first|cases hb|cases h|(rw[e_ h]))
theorem Oh{a:Ad}(ha:bO a=ah):eG a=ah:=by cases a<;>first|cases ha|rfl
def iB:Ad->Bool
 |.str _=>ah
 |_=>ai
def ji:Ad->Bool
 |.int _=>ah
 |_=>ai
def look(ps:Nm)(x:Str):Option Ad:=(ps.find? λp=>decide (p.1=x)).map (·.2)
def put(ps:Nm)(x:Str)(v:Ad):Nm:=if (ps.any λp=>decide (p.1=x))=ah then ps.map (λp=>if p.1=x then(p.1,v)else p)else ps++[(x,v)]
theorem RB(a b:Str):decide ((Da a:aC)=Da b)=decide (a=b):=by
 by_cases z:a=b
 ·rw[z,c_ rfl,c_ rfl]
 ·rw[d_ z,d_ λw=>z (by simp_all)]
theorem iw(ps:Nm)(x:Str):bA (bQ ps) (.inr x)=look ps x:=by
 induction ps with
 |nil=>rfl
 |cons p r c=>
  by_cases e:p.1=x
  ·have b:bA (bQ (p::r)) (.inr x)=ae p.2:=by simp[bA,bQ,e]
   have a:look (p::r) x=ae p.2:=by simp[look,e]
   simp_all
  ·have b:bA (bQ (p::r)) (.inr x)=bA (bQ r) (.inr x):=by simp[bA,bQ,e]
   have a:look (p::r) x=look r x:=by simp[look,e]
   simp_all
theorem HS(ps:Nm)(x:Str):((bQ ps).any λkv=>decide (kv.1=(Da x:aC)))=(ps.any λp=>decide (p.1=x)):=by
 unfold bQ;simp
 congr 1
 funext p
 exact RB _ _
theorem q0(ps:Nm)(x:Str)(v:Ad):eu (bQ ps) (.inr x) v=bQ (put ps x v):=by
 unfold eu put;rw[HS]
 split
 ·unfold bQ;rw[By,By];apply Du;intro p _;show(if _=Da x then _ else _)=_;by_cases e:p.1=x
  ·rw[b_ (congrArg Da e)];show _=(Da (if p.1=x then(p.1,v)else p).1,(if p.1=x then(p.1,v)else p).2);rw[b_ e]
  ·rw[a_ λz=>e (by simp_all)];show _=(Da (if p.1=x then(p.1,v)else p).1,(if p.1=x then(p.1,v)else p).2);rw[a_ e]
 ·unfold bQ;simp
theorem j9{ps:Nm}{x:Str}{v:Ad}(h:look ps x=ae v):(x,v)∈ps:=by
 unfold look at h;cases e:ps.find? λp=>decide (p.1=x)with
 |none=>rw[e]at h;cases h
 |some p=>
  rw[e]at h;have a:=List.find?_some e;have:=List.mem_of_find?_eq_some e;rw[<-(e_ a),<-(B2 h)];omega
theorem qh(ps:Nm)(x:Str):(ps.any λp=>decide (p.1=x))=(look ps x).isSome:=by
 induction ps with
 |nil=>rfl
 |cons p r b=>
  by_cases e:p.1=x
  ·have a:look (p::r) x=ae p.2:=by simp[look,e]
   rw[a,Di,c_ e];rfl
  ·have a:look (p::r) x=look r x:=by simp[look,e]
   rw[a,Di,d_ e,Bool.false_or,b]
theorem ze(ps:Nm)(x:Str)(v:Ad):(put ps x v).map (·.1)=if (ps.any λp=>decide (p.1=x))=ah then ps.map (·.1)else ps.map (·.1)++[x]:=by
 unfold put
 split
 ·rw[By];apply Du;intro p _;show(if p.1=x then(p.1,v)else p).1=p.1
  split<;>rfl
 ·rw[Bb];rfl
theorem rm{ps:Nm}{x:Str}{v:Ad}(h:(ps.map (·.1)).Nodup):((put ps x v).map (·.1)).Nodup:=by
 rw[ze]
 split
 ·exact h
 ·rename_i e;rw[Gc];refine⟨h,by simp,λa f b c z=>?_⟩;have c:=by simpa using c
  obtain⟨p,d,rfl⟩:=A7.mp f;exact e (D5.mpr ⟨p,d,c_ (z.trans c)⟩)
theorem qY(ps:Nm)(x:Str)(v:Ad):(put ps x v).length<=ps.length+1:=by
 unfold put
 split
 ·rw[Ab];omega
 ·rw[As];exact Bc _
def d6(p:Str×Ad):Prop:=okX p.1/\bO p.2=ah
theorem me{ps:Nm}{x:Str}{v:Ad}(h:∀p∈ps,d6 p)(hx:okX x)(hv:bO v=ah):∀p∈put ps x v,d6 p:=by
 intro p a;unfold put at a
 split at a
 ·obtain⟨q,b,rfl⟩:=A7.mp a
  split
  ·exact⟨(h q b).1,hv⟩
  ·exact h q b
 ·rcases A4.mp a with a|a
  ·exact h p a
  ·have:=by simpa using a
   subst this;trivial
theorem MT{ps:Nm}{x:Str}{v:Ad}(nd:(ps.map (·.1)).Nodup)(h:look ps x=ae v):put ps x v=ps:=by
 unfold put;rw[qh,h,b_ (by simp)];have:ps.map (λp=>if p.1=x then(p.1,v)else p)=ps.map id:=by
  apply Du;intro p c
  split
  ·rename_i e;have:p=(x,v):=by
    obtain⟨i,g⟩:=Bz.mp c;obtain⟨j,k⟩:=Bz.mp (j9 h);have f:(ps.map (·.1))[i]?=ae x:=(Am)▸g▸congrArg ae e;have a:(ps.map (·.1))[j]?=ae x:=(Am)▸k▸rfl;obtain⟨l,d⟩:=Ap.mp f;obtain⟨m,b⟩:=Ap.mp a;have:=(Fo nd).mp (d.trans b.symm);simp_all
   rw[this];rfl
  ·rfl
 rw[this,List.map_id]
theorem DR(ps:Nm)(x:Str)(v:Ad):look (put ps x v) x=ae v:=by
 unfold put;rw[qh]
 split
 ·rename_i e
  induction ps with
  |nil=>cases e
  |cons p r c=>
   by_cases z:p.1=x
   ·simp[look,z]
   ·have b:look (p::r) x=look r x:=by simp[look,z]
    rw[b]at e;rw[Bk,a_ z];have a:look (p::r.map λp=>if p.1=x then(p.1,v)else p) x=look (r.map λp=>if p.1=x then(p.1,v)else p) x:=by simp[look,z]
    rw[a];exact c e
 ·rename_i e;have:look ps x=af:=by cases q:look ps x with|none=>rfl|some _=>rw[q]at e;exact g_ rfl e
  unfold look at this ⊢;rw[List.find?_append];cases q:ps.find? λp=>decide (p.1=x)with
  |some p=>rw[q]at this;cases this
  |none=>simp
theorem xt{ps:Nm}{x y:Str}{v:Ad}(h:y≠x):look (put ps x v) y=look ps y:=by
 unfold put
 split
 ·induction ps with
  |nil=>rfl
  |cons p r f=>
   rw[Bk];have a:look (r.map λp=>if p.1=x then(p.1,v)else p) y=look r y:=by
    by_cases q:(r.any λp=>decide (p.1=x))=ah
    ·exact f q
    ·have:r.map (λp=>if p.1=x then(p.1,v)else p)=r.map id:=by
      apply Du;intro p e;rw[a_ λz=>q (D5.mpr ⟨p,e,c_ z⟩)];rfl
     rw[this,List.map_id]
   by_cases z:p.1=x
   ·rw[b_ z];have d:¬p.1=y:=λw=>h (by simp_all);have c:look ((p.1,v)::r.map λp=>if p.1=x then(p.1,v)else p) y=look (r.map λp=>if p.1=x then(p.1,v)else p) y:=by simp[look,d]
    have b:look (p::r) y=look r y:=by simp[look,d]
    rw[c,b,a]
   ·rw[a_ z];by_cases w:p.1=y
    ·simp[look,w]
    ·have c:look (p::r.map λp=>if p.1=x then(p.1,v)else p) y=look (r.map λp=>if p.1=x then(p.1,v)else p) y:=by simp[look,w]
     have b:look (p::r) y=look r y:=by simp[look,w]
     rw[c,b,a]
 ·unfold look;rw[List.find?_append];have:[(x,v)].find? (λp=>decide (p.1=y))=af:=by simp[Ne.symm h]
  rw[this,Option.or_none]
def fU(f:Fd)(v:Ad)(h bs:Nm):Bool:=match f with
 |.is w=>fc w v
 |.any=>ah
 |.word=>iB v
 |.number=>ji v
 |.as x=>match look h x with
  |some w=>fc w v
  |none=>ai
 |.bind x=>match look bs x with
  |some w=>fc w v
  |none=>ah
def wk:List (Fd×Ad)->Nm->List Str->Option Nm
 |[],h,_=>ae h
 | (.is w,v)::r,h,hs=>if fc w v=ah then wk r h hs else af
 | (.any,_)::r,h,hs=>wk r h hs
 | (.word,v)::r,h,hs=>if iB v=ah then wk r h hs else af
 | (.number,v)::r,h,hs=>if ji v=ah then wk r h hs else af
 | (.as x,v)::r,h,hs=>match look h x with
  |some w=>if fc w v=ah then wk r h hs else af
  |none=>af
 | (.bind x,v)::r,h,hs=>if x∈hs then(match look h x with
   |some w=>if fc w v=ah then wk r h hs else af
   |none=>af)else wk r (put h x v) (hs++[x])
def i7(p:Str×Ad):Ad:=.tuple [.str p.1,p.2]
def cI(ps:Nm):Ad:=.tuple (ps.map i7)
def fS(fs:List Fd):Ad:=.tuple (fs.map Fd.d)
def okN(ps:Nm):Prop:=ps.length<=40/\(ps.map (·.1)).Nodup/\∀p∈ps,d6 p
def qJ(fs:List Fd):Prop:=1<=fs.length/\fs.length<=4/\∀f∈fs,f.ok
def vX(row:List Ad):Prop:=(row.length<=4/\1<=row.length)/\∀d∈row,bO d=ah
theorem yH(x y:Str)(h1:¬x.cps.toList < y.cps.toList)(h2:¬y.cps.toList < x.cps.toList):x=y:=by
 have:=List.le_antisymm ⋯ ⋯;cases x;simp_all
theorem O2{h a b:Nm}(nd:(h.map (·.1)).Nodup)(ha:a.Perm h)(hb:b.Perm h)(ra:iL a)(rb:iL b):a=b:=by
 refine List.Perm.eq_of_pairwise (λx y f k l m=>?_) ra rb (ha.trans hb.symm);obtain⟨i,n⟩:=Bz.mp (ha.mem_iff.mp f);obtain⟨j,o⟩:=Bz.mp (hb.mem_iff.mp k);have g:(h.map (·.1))[i]?=ae x.1:=(Am)▸n▸rfl;have c:(h.map (·.1))[j]?=ae x.1:=by rw[Am,o,(yH _ _ m l)];rfl
 obtain⟨p,e⟩:=Ap.mp g;obtain⟨q,d⟩:=Ap.mp c;have:=(Fo nd).mp (e.trans d.symm);simp_all
theorem jl:∀(l:List (Fd×Ad))(h:Nm)(hs:List Str)(k:Nm),(h.map (·.1)).Nodup->wk l h hs=ae k->(k.map (·.1)).Nodup
 |[],h,hs,k,a,e=>by cases e;omega
 | (.is w,v)::r,h,hs,k,a,e=>by unfold wk at e;split at e;exact jl r h hs k a e;cases e
 | (.any,v)::r,h,hs,k,a,e=>jl r h hs k a e
 | (.word,v)::r,h,hs,k,a,e=>by unfold wk at e;split at e;exact jl r h hs k a e;cases e
 | (.number,v)::r,h,hs,k,a,e=>by unfold wk at e;split at e;exact jl r h hs k a e;cases e
 | (.as x,v)::r,h,hs,k,a,e=>by
  unfold wk at e
  split at e
  ·split at e
   ·exact jl r h hs k a e
   ·cases e
  ·cases e
 | (.bind x,v)::r,h,hs,k,a,e=>by
  unfold wk at e
  split at e
  ·split at e
   ·split at e
    ·exact jl r h hs k a e
    ·cases e
   ·cases e
  ·exact jl r _ _ k (rm a) e
def sT(a b:Str×Ad):Bool:=decide (¬b.1.cps.toList < a.1.cps.toList)
def bM(h:Nm):Nm:=h.mergeSort sT
theorem FG(h:Nm):(bM h).Perm h:=List.mergeSort_perm h sT
theorem yL(h:Nm):iL (bM h):=by
 have:=List.pairwise_mergeSort (le:=sT) (λa b c x y=>c_ (List.not_lt.mpr (List.le_trans (List.not_lt.mp (e_ x)) (List.not_lt.mp (e_ y))))) (λa b=>?_) h
 ·exact List.Pairwise.imp (e_) this
 ·rw[Bool.or_eq_true];rcases List.le_total a.1.cps.toList b.1.cps.toList with z|z
  ·exact .inl (c_ ⋯)
  ·exact .inr (c_ ⋯)
theorem EF{h h':Nm}(nd:(h.map (·.1)).Nodup)(p:h'.Perm h)(r:iL h'):h'=bM h:=O2 nd p (FG h) r (yL h)
def eB(fs:List Fd)(row:List Ad)(nm:Nm):Nm:=(wk (fs.zip row) nm []).getD []
def bX(fs:List Fd)(row:List Ad)(nm:Nm):Bool:=decide (fs.length=row.length)&&(wk (fs.zip row) nm []).isSome
def c9(fs:List Fd)(row:List Ad)(nm:Nm):Ad:=if bX fs row nm=ah then cI (bM (eB fs row nm))else .none
def l9(fs:List Fd)(row:List Ad)(ps:Nm)(r:Ad):Prop:=
 if fs.length=row.length then match wk (fs.zip row) ps []with
  |none=>r=.none
  |some h=>r=cI (bM h)
 else r=.none
theorem JI{fs:List Fd}{row:List Ad}{ps:Nm}{r:Ad}(h:l9 fs row ps r):r=c9 fs row ps:=by
 unfold l9 at h;unfold c9 bX eB;by_cases e:fs.length=row.length
 ·rw[b_ e]at h;rw[c_ e];cases q:wk _ ps []with
  |none=>rw[q]at h;exact h
  |some x=>rw[q]at h;exact h
 ·rw[a_ e]at h;rw[d_ e];exact h
def i4:aP:=λws n Q=>∃(f:Fd)(v:Ad)(hp bp:Nm),ws=[.d f.d,.d v,.dk (bQ hp),.dk (bQ bp)]/\f.ok/\bO v=ah/\(∀p∈hp,d6 p)/\(∀p∈bp,d6 p)/\Q (.d (.bool (fU f v hp bp))) n
def oi:aP:=λws n Q=>∃(fs:List Fd)(row:List Ad)(nm:Nm),ws=[.d (fS fs),.d (.tuple row),.d (cI nm)]/\qJ fs/\vX row/\okN nm/\Q (.d (c9 fs row nm)) n
def e9(ys:List Str):Ad:=.tuple (ys.map .str)
def ql:List Ad:=[.str "a",.int 0,.int 1,.str "ab",.str "go",.int 99]
inductive Fe where
 |any|word|num|isv (d:Ad)|bind (k:Str)|as (k:Str)|nx (k:Str)
def Fe.hd:Fe->Str
 |.any=>"any"
 |.word=>"word"
 |.num=>"number"
 |.isv _=>"is"
 |.bind _=>"bind"
 |.as _=>"as"
 |.nx _=>"next"
def Fe.tl:Fe->List Ad
 |.any=>[]
 |.word=>[]
 |.num=>[]
 |.isv d=>[d]
 |.bind k=>[.str k]
 |.as k=>[.str k]
 |.nx k=>[.str k]
def Fe.d(f:Fe):Ad:=.tuple (.str f.hd::f.tl)
abbrev fq(k:Str):Prop:=okX k
def Fe.ok:Fe->Prop
 |.isv d=>bO d=ah
 |.bind k=>fq k
 |.as k=>fq k
 |.nx k=>fq k
 |_=>True
def Fe.bd:Fe->Option Str
 |.bind k=>ae k
 |_=>af
def Fe.us:Fe->Option Str
 |.as k=>ae k
 |.nx k=>ae k
 |_=>af
def bf(fs:List Fe):List Str:=fs.filterMap Fe.bd
def Fe.pt:Fe->Bool
 |.nx _=>ai
 |_=>ah
def Fe.tm:Fe->Bool
 |.isv _=>ah
 |.as _=>ah
 |.nx _=>ah
 |_=>ai
def Fe.te:Fe->Bool
 |.isv _=>ah
 |.as _=>ah
 |_=>ai
def dH(fs:List Fe):Prop:=fs.length<=4/\∀f∈fs,f.ok
def rF:List Str->List Fe->Prop
 |_,[]=>True
 |ks,f::r=>(∀k,f.us=ae k->k∈ks)/\rF (ks++f.bd.toList) r
inductive Ac where
 |lay (fs:List Fe) (age:Ad)|take (fs:List Fe)|read (fs:List Fe)|look (fs:List Fe) (b:Nat)|same (f g:Fe) (b:Nat)|go (b:Nat)
def cD(fs:List Fe):Ad:=.tuple (fs.map Fe.d)
def Ac.d:Ac->Ad
 |.lay fs age=>.tuple [.str "lay",cD fs,age]
 |.take fs=>.tuple [.str "take",cD fs]
 |.read fs=>.tuple [.str "read",cD fs]
 |.look fs b=>.tuple [.str "look",cD fs,.int b]
 |.same f g b=>.tuple [.str "same",f.d,g.d,.int b]
 |.go b=>.tuple [.str "go",.int b]
def Ac.bs:Ac->List Str
 |.take fs=>bf fs
 |.read fs=>bf fs
 |.look fs _=>bf fs
 |_=>[]
def Ac.fs:Ac->List Fe
 |.lay fs _=>fs
 |.take fs=>fs
 |.read fs=>fs
 |.look fs _=>fs
 |.same f g _=>[f,g]
 |.go _=>[]
def Ac.to:Ac->Option Nat
 |.look _ b=>ae b
 |.same _ _ b=>ae b
 |.go b=>ae b
 |_=>af
def Ac.right(wants:List (List Str))(ks:List Str)(a:Ac):Prop:=rF ks a.fs/\∀b,a.to=ae b->∃w,wants[b]?=ae w/\∀k∈w,k∈ks
def gC(d:Ad):Prop:=d=.none\/∃i:Int,d=.int i/\1<=i/\i<=20
def fW(fs:List Fe):Prop:=1<=fs.length/\∀f∈fs,f.pt=ah
def Ac.pat:Ac->Prop
 |.take fs=>fW fs
 |.read fs=>fW fs
 |.look fs _=>fW fs
 |.lay fs age=>(∀f∈fs,f.tm=ah)/\gC age/\1<=fs.length
 |.same f g _=>f.te=ah/\g.te=ah
 |.go _=>True
def jk(a:Ac):Prop:=dH a.fs/\a.pat
abbrev Bl:=List Str×List Ac
def f6(b:Bl):Ad:=.tuple [e9 b.1,.tuple (b.2.map Ac.d)]
def ic(bs:List Bl):Ad:=.tuple (bs.map f6)
def kn(w:List Str)(as:List Ac)(p:Nat):List Str:=w++(as.take p).flatMap Ac.bs
def j2(b:Bl):Prop:=b.1.length<=4/\(∀k∈b.1,fq k)/\b.2.length<=8/\(∀a∈b.2,jk a)/\b.1.Nodup/\hX b.1
def jL(wants:List (List Str))(b:Bl):Prop:=∀(p:Nat)(a:Ac),b.2[p]?=ae a->a.right wants (kn b.1 b.2 p)
def hZ:aP:=λws n Q=>ws=[.tp]/\n < 2 ^ 39/\∀v∈ql,Q (.d v) (n+1)
def lq:aP:=λws n Q=>ws=[.tp]/\n < 2 ^ 39/\∀m:Nat,1<=m->m<=4->Q (.d (.int m)) (n+1)
def rD:aP:=λws n Q=>∃ks:List Str,ws=[.tp,.ln (ks.map .str)]/\ks.length<=1000/\(∀k∈ks,fq k)/\n+9 < 2 ^ 39/\∀(fs:List Fe)(n':Int),1<=fs.length->dH fs->(∀f∈fs,f.tm=ah)->rF ks fs->n'<=n+9->Q (.d (cD fs)) n'
def oK:aP:=λws n Q=>∃ks:List Str,ws=[.tp,.ln (ks.map .str)]/\ks.length<=1000/\(∀k∈ks,fq k)/\n+2 < 2 ^ 39/\∀(f:Fe)(n':Int),f.ok->f.te=ah->(∀k,f.us=ae k->k∈ks)->n'<=n+2->Q (.d f.d) n'
def nV:aP:=λws n Q=>∃(ks:List Str)(os:List Nat)(wants:List (List Str)),ws=[.tp,.ln (ks.map .str),.d (.list (os.map λb=>.int (b:Nat)))]/\ks.length<=1000/\(∀k∈ks,fq k)/\0 < os.length/\os.length<=1000 /\
 (∀b∈os,∃w,wants[b]?=ae w/\∀k∈w,k∈ks)/\n+11 < 2 ^ 39/\∀(a:Ac)(n':Int),jk a->a.right wants ks->n'<=n+11->Q (.d (.tuple [a.d,.list (a.bs.map .str)])) n'
def pG(bs:List Bl):Prop:=1<=bs.length/\bs.length<=6/\∀b∈bs,j2 b/\jL (bs.map (·.1)) b
def sW:aP:=λws n Q=>∃(ks:List Str)(v:Wv),ws=[.tp,v]/\f5 v=ae (ks.map .str)/\ks.length<=1000/\(∀k∈ks,fq k)/\n+9 < 2 ^ 39/\∀(fs:List Fe)(n':Int),1<=fs.length->dH fs->(∀f∈fs,f.pt=ah)->rF ks fs->n'<=n+9->Q (.d (.tuple [cD fs,.list ((bf fs).map .str)])) n'
def iD(bs:List Bl):Prop:=∃w,bs.map (·.1)=[]::w
def tH:aP:=λws n Q=>ws=[.tp]/\n+600 < 2 ^ 39/\∀(bs:List Bl)(n':Int),pG bs->iD bs->n'<=n+600->Q (.d (ic bs)) n'
abbrev Hn:=Nat×Nat×Nm
def ck(h:Hn):Ad:=.tuple [.int h.1,.int h.2.1,cI h.2.2]
abbrev Nt:=List Ad×Ad
def fo(q:Nt):Ad:=.tuple [.tuple q.1,q.2]
def e7(ns:List Nt):Ad:=.tuple (ns.map fo)
def bH(hs:List Hn)(ns:List Nt):Ad:=.tuple [.tuple (hs.map ck),e7 ns]
abbrev Pg:=List (List Bl)
def cH(ps:Pg):Ad:=.tuple (ps.map ic)
def cw(ps:Pg):Prop:=ps.length<=5/\∀P∈ps,pG P
def lT(q:Nt):Prop:=vX q.1/\gC q.2
def c8(m:Nat)(ns:List Nt):Prop:=ns.length<=m/\∀q∈ns,lT q
structure okHn(b:Bl)(h:Hn):Prop where
 pl:h.2.1<=b.2.length
 nd:(h.2.2.map (·.1)).Nodup
 ok:∀p∈h.2.2,d6 p
 up:iL h.2.2
 mem:∀k,k∈h.2.2.map (·.1)↔k∈kn b.1 b.2 h.2.1
 ln:h.2.2.length<=40
theorem okHn.n{b:Bl}{h:Hn}(H:okHn b h):okN h.2.2:=⟨H.ln,H.nd,H.ok⟩
def okHs(ps:Pg)(hs:List Hn):Prop:=hs.length=ps.length/\∀(i:Nat)(P:List Bl),ps[i]?=ae P->∃(h:Hn)(b:Bl),hs[i]?=ae h/\P[h.1]?=ae b/\okHn b h
def bx(ps:Pg)(hs:List Hn)(h:Nat):Option Ac:=ps[h]?.bind λP=>hs[h]?.bind λx=>P[x.1]?.bind λb=>b.2[x.2.1]?
def qr:Option Ac->Ad
 |none=>.none
 |some a=>a.d
def Fe.fd:Fe->Fd
 |.any=>.any
 |.word=>.word
 |.num=>.number
 |.isv d=>.is d
 |.bind k=>.bind k
 |.as k=>.as k
 |.nx _=>.any
def Ac.pf:Ac->Option (List Fd)
 |.take fs=>ae (fs.map Fe.fd)
 |.read fs=>ae (fs.map Fe.fd)
 |.look fs _=>ae (fs.map Fe.fd)
 |_=>af
def Ac.wt:Ac->Bool
 |.take _=>ah
 |.read _=>ah
 |_=>ai
def aT(fs:List Fd)(nm:Nm)(ns:List Nt):Option Nat:=ns.findIdx? λq=>bX fs q.1 nm
def t5(hs:List Hn)(h:Nat):Nm:=(hs[h]?.map (·.2.2)).getD []
def dy(ps:Pg)(hs:List Hn)(ns:List Nt)(h:Nat):Option Nat:=(bx ps hs h).bind λa=>a.pf.bind λfs=>aT fs (t5 hs h) ns
def bE(ps:Pg)(hs:List Hn)(ns:List Nt)(h:Nat):Bool:=((bx ps hs h).map λa=>!a.wt || (dy ps hs ns h).isSome).getD ai
def gx:Option Nat->Ad
 |none=>.none
 |some i=>.int i
def cm(ns:List Nt)(i:Nat):List Ad:=(ns[i]?.map (·.1)).getD []
def cu(ps:Pg)(hs:List Hn)(ns:List Nt):Prop:=cw ps/\okHs ps hs/\c8 100 ns
def jv:Ad->Ad
 |.int i=>if i=99 then .int 0 else .int (i+1)
 |d=>d
def gJ(nm:Nm)(k:Str):Ad:=(look nm k).getD .none
def eQ(nm:Nm):Fe->Ad
 |.isv d=>d
 |.as k=>gJ nm k
 |.nx k=>jv (gJ nm k)
 |_=>.none
def fV(fs:List Fe)(nm:Nm):List Ad:=fs.map (eQ nm)
def kh(P:List Bl)(b:Nat):List Str:=(P[b]?.map (·.1)).getD []
def bY(P:List Bl)(b:Nat)(nm:Nm):Hn:=(b,0,nm.filter λp=>decide (p.1∈kh P b))
def dZ(x:Hn)(nm:Nm):Hn:=(x.1,x.2.1+1,nm)
def aU(hs:List Hn)(h:Nat)(x:Hn):List Hn:=hs.take h++x::hs.drop (h+1)
def iH:Ad->Ad
 |.int i=>.int (i-1)
 |d=>d
def fO:Ad->Bool
 |.int i=>decide (i=1)
 |_=>ai
def dA(ns:List Nt):List Nt:=(ns.filter λq=>!fO q.2).map λq=>(q.1,iH q.2)
def cq(ns:List Nt)(i:Nat):List Nt:=ns.take i++ns.drop (i+1)
def bh(fs:List Fe)(x:Hn)(ns:List Nt):Option (Nat×Hn):=(aT (fs.map Fe.fd) x.2.2 ns).map λi=>(i,dZ x (bM (eB (fs.map Fe.fd) (cm ns i) x.2.2)))
def l5(P:List Bl)(x:Hn)(ns:List Nt):Ac->Option (Hn×List Nt)
 |.lay fs age=>ae (dZ x x.2.2,ns++[(fV fs x.2.2,age)])
 |.go b=>ae (bY P b x.2.2,ns)
 |.same f g b=>ae (if fc (eQ x.2.2 f) (eQ x.2.2 g)=ah then dZ x x.2.2 else bY P b x.2.2,ns)
 |.take fs=>(bh fs x ns).map λq=>(q.2,cq ns q.1)
 |.read fs=>(bh fs x ns).map λq=>(q.2,ns)
 |.look fs b=>match bh fs x ns with
  |some q=>ae (q.2,ns)
  |none=>ae (bY P b x.2.2,ns)
def du(ps:Pg)(hs:List Hn)(ns:List Nt)(h:Nat):Option (List Hn×List Nt):=ps[h]?.bind λP=>hs[h]?.bind λx=>(bx ps hs h).bind λa=>(l5 P x ns a).map λr=>(aU hs h r.1,r.2)
def bB(ps:Pg)(hs:List Hn)(ns:List Nt)(m:Nat):Option (List Hn×List Nt):=if m=ps.length then ae (hs,dA ns)else du ps hs ns m
def il:Option (List Hn×List Nt)->Ad
 |none=>.none
 |some r=>bH r.1 r.2
def dF(nm:Nm)(f:Fe):Prop:=f.ok/\f.tm=ah/\∀k,f.us=ae k->∃v,look nm k=ae v/\bO v=ah
def rH:aP:=λws n Q=>∃i m:Int,ws=[.d (.int i),.d (.int m)]/\0<=i/\i<=m/\Q (.d (.bool ah)) n
def uI:aP:=λws n Q=>∃v,ws=[.d v]/\bO v=ah/\Q (.d (jv v)) n
def mH:aP:=λws n Q=>∃(f:Fe)(nm:Nm),ws=[.d f.d,.dk (bQ nm)]/\dF nm f/\Q (.d (eQ nm f)) n
def qv:aP:=λws n Q=>∃(fs:List Fe)(nm:Nm),ws=[.d (cD fs),.d (cI nm)]/\fs.length<=4/\(∀f∈fs,dF nm f)/\okN nm/\Q (.d (.tuple (fV fs nm))) n
def vd:aP:=λws n Q=>∃(f g:Fe)(b:Nat)(nm:Nm),ws=[.d (Ac.same f g b).d,.d (cI nm)]/\dF nm f/\dF nm g/\f.te=ah/\g.te=ah/\okN nm/\Q (.d (.bool (fc (eQ nm f) (eQ nm g)))) n
def lY:aP:=λws n Q=>∃(x:Hn)(nm:Nm),ws=[.d (ck x),.d (cI nm)]/\Q (.d (ck (dZ x nm))) n
def ni:aP:=λws n Q=>∃(P:List Bl)(b:Nat)(nm:Nm)(w:Bl),ws=[.d (ic P),.d (.int b),.d (cI nm)]/\P[b]?=ae w/\w.1.length<=4/\Q (.d (ck (bY P b nm))) n
def iU:aP:=λws n Q=>∃(hs:List Hn)(h:Nat)(x:Hn),ws=[.d (.tuple (hs.map ck)),.d (.int h),.d (ck x)]/\h < hs.length/\hs.length<=5/\Q (.d (.tuple ((aU hs h x).map ck))) n
def l7:aP:=λws n Q=>∃(ps:Pg)(hs:List Hn)(ns:List Nt)(h:Nat)(a:Ac),ws=[.d (cH ps),.d (bH hs ns),.d (.int h),.d a.d]/\cu ps hs ns/\h < ps.length/\bx ps hs h=ae a/\a.pf.isSome=ah/\Q (.d (il (du ps hs ns h))) n
def tI:aP:=λws n Q=>∃(ps:Pg)(hs:List Hn)(ns:List Nt)(h:Nat),ws=[.d (cH ps),.d (bH hs ns),.d (.int h)]/\cu ps hs ns/\h < ps.length/\Q (.d (il (du ps hs ns h))) n
def tS:aP:=λws n Q=>∃q:Nt,ws=[.d (fo q)]/\gC q.2/\Q (.d (fo (q.1,iH q.2))) n
def vH:aP:=λws n Q=>∃(hs:List Hn)(ns:List Nt),ws=[.d (bH hs ns)]/\(∀q∈ns,gC q.2)/\Q (.d (bH hs (dA ns))) n
def di:aP:=λws n Q=>∃(ps:Pg)(hs:List Hn)(ns:List Nt)(m:Nat),ws=[.d (cH ps),.d (bH hs ns),.d (.int m)]/\cu ps hs ns/\m<=ps.length/\Q (.d (il (bB ps hs ns m))) n
def gZ:aP:=λws n Q=>∃(ps:Pg)(hs:List Hn)(ns:List Nt)(m:Nat)(r:List Hn×List Nt),ws=[.d (cH ps),.d (bH hs ns),.d (.int m)]/\cu ps hs ns/\m<=ps.length/\bB ps hs ns m=ae r/\Q (.d (bH r.1 r.2)) n
def lK:aP:=λws n Q=>∃(ps:Pg)(hs:List Hn)(ns:List Nt)(h:Nat),ws=[.d (cH ps),.d (bH hs ns),.d (.int h)]/\okHs ps hs/\h < ps.length/\Q (.d (qr (bx ps hs h))) n
def qN:aP:=λws n Q=>∃(ps:Pg)(hs:List Hn)(ns:List Nt)(h:Nat),ws=[.d (cH ps),.d (bH hs ns),.d (.int h)]/\cu ps hs ns/\h < ps.length/\Q (.d (gx (dy ps hs ns h))) n
def nr:aP:=λws n Q=>∃m:Nat,ws=[.tp,.d (.int m)]/\m<=12/\n+100 < 2 ^ 39/\∀(ns:List Nt)(n':Int),c8 m ns->n'<=n+100->Q (.d (e7 ns)) n'
def rM:aP:=λws n Q=>∃(P:List Bl)(i p:Nat)(b:Bl),ws=[.d (ic P),.d (.int i),.d (.int p)]/\P[i]?=ae b/\j2 b/\p<=b.2.length/\∀ys:List Str,ys.Nodup->(∀k∈ys,fq k)->hX ys->(∀k,k∈ys↔k∈kn b.1 b.2 p)->Q (.d (.list (ys.map .str))) n
def jK(ps:Pg)(hs:List Hn)(ns:List Nt):List Ad:=((A9 ps.length).filter (bE ps hs ns)).map λh=>.int (h:Nat)
def tV:aP:=λws n Q=>∃i:Int,ws=[.d (.int i)]/\Q (.d (.bool ah)) n
def pH:aP:=λws n Q=>∃(ps:Pg)(m:Nat),ws=[.tp,.d (cH ps),.d (.int m)]/\m<=6/\cw ps/\n+400 < 2 ^ 39/\∀(hs:List Hn)(ns:List Nt)(n':Int),okHs ps hs->c8 m ns->n'<=n+400->Q (.d (bH hs ns)) n'
def uk:aP:=λws n Q=>ws=[.tp]/\n+3000 < 2 ^ 39/\∀(ps:Pg)(hs:List Hn)(ns:List Nt)(n':Int),cw ps->okHs ps hs->c8 4 ns->n'<=n+3000->Q (.d (.tuple [cH ps,bH hs ns])) n'
def rr:aP:=oi
def tZ:aP:=qv
def rQ:aP:=λws n Q=>∃(ps:Pg)(hs:List Hn)(h:Nat),ws=[.d (cH ps),.d (.tuple (hs.map ck)),.d (.int h)]/\okHs ps hs/\h < ps.length/\Q (.d (qr (bx ps hs h))) n
def fT(fs:List Fd)(nm:Nm)(ns:List Nt):Ad:=match aT fs nm ns with
 |none=>.none
 |some i=>.tuple [.int (i:Nat),cI (bM (eB fs (cm ns i) nm))]
def mB:aP:=λws n Q=>∃(a:Ac)(fs:List Fd)(ns:List Nt)(nm:Nm),ws=[.d a.d,.d (e7 ns),.d (cI nm)]/\jk a/\a.pf=ae fs/\c8 100 ns/\okN nm/\Q (.d (fT fs nm ns)) n
def jc(ps:Pg)(hs:List Hn)(ns:List Nt):List Nat:=(A9 (ps.length+1)).filter λi=>(bB ps hs ns i).isSome
def eJ:aP:=λws n Q=>∃(ps:Pg)(hs:List Hn)(ns:List Nt),ws=[.d (cH ps),.d (bH hs ns)]/\cu ps hs ns/\Q (.d (.list ((jc ps hs ns).map λi=>.int (i:Nat)))) n
structure Sd where
 hs:List Hn
 ns:List Nt
inductive Bs where
 |notes (fs:List Fd) (k:Nat)|at(h b p:Nat)|ended (h:Nat)
def holds(fs:List Fd)(row:List Ad):Bool:=bX fs row []
def many(fs:List Fd)(ns:List Nt):Nat:=(ns.filter λq=>holds fs q.1).length
def vr(ps:Pg)(s:Sd)(h:Nat):Bool:=match s.hs[h]?,ps[h]? with
 |some x,ae P=>match P[x.1]? with
  |some b=>decide (x.2.1=b.2.length)
  |none=>ai
 |_,_=>ai
def Bs.see(ps:Pg)(s:Sd):Bs->Bool
 |.notes fs k=>decide (k<=many fs s.ns)
 |.at h b p=>match s.hs[h]? with
  |some x=>decide (x.1=b)&&decide (x.2.1=p)
  |none=>ai
 |.ended h=>vr ps s h
def Sg:Nat->Type
 |0=>Bs
 |t+1=>Bs ⊕ ((Bool×List (Sg t)) ⊕ Sg t)
def Sg.see(ps:Pg)(st:Sd):(t:Nat)->Sg t->Bool
 |0,b=>Bs.see ps st b
 |_+1,.inl b=>Bs.see ps st b
 |t+1,.inr (.inl q)=>if q.1 then q.2.all (Sg.see ps st t)else q.2.any (Sg.see ps st t)
 |t+1,.inr (.inr s)=>!Sg.see ps st t s
end Nb
namespace L2
open PySem PySem.Spec PyProof.Rows
abbrev XP:=TK×A'×V
def cb(ps:List XP)(k:TK):Option V:=(ps.find? λp=>decide (p.1=k)).map (·.2.2)
def cV(ps:List XP)(k:TK)(b:A')(v:V):List XP:=if (cb ps k).isSome=ah then ps.map (λp=>if p.1=k then(p.1,p.2.1,v)else p)else ps++[(k,b,v)]
abbrev KX:List XP->List (TK×A'×Af)->Prop:=Paired λp q=>p.1=q.1/\p.2.1=q.2.1/\RelV p.2.2 q.2.2
theorem KX.val{ps:List XP}{xs:List (TK×A'×Af)}(r:KX ps xs)(k:TK):RelO (cb ps k) ((atKey xs k).map (·.2)):=by
 induction r with
 |nil=>exact Gq
 |@cons p q ps d h t i=>
  obtain⟨f,_,g⟩:=h;by_cases e:p.1=k
  ·have a:=f.symm.trans e;have b:atKey (q::d) k=ae q.2:=by simp[atKey,a]
   have c:cb (p::ps) k=ae p.2.2:=by simp[cb,e]
   rw[c,b];exact g
  ·have a:¬q.1=k:=λz=>e (f.trans z);have b:atKey (q::d) k=atKey d k:=by simp[atKey,a]
   have c:cb (p::ps) k=cb ps k:=by simp[cb,e]
   simp_all
theorem KX.repl{ps:List XP}{xs:List (TK×A'×Af)}(r:KX ps xs)(k:TK){y:V}{u:Af}(ry:RelV y u):KX (ps.map λp=>if p.1=k then(p.1,p.2.1,y)else p) (xs.map (putAt k u)):=by
 induction r with
 |nil=>exact .nil
 |@cons p q ps d h t c=>
  rw[Bk];refine .cons ?_ c;obtain⟨a,b,f⟩:=h;unfold putAt;by_cases e:p.1=k
  ·rw[b_ e,b_ (by simp_all)];exact⟨a,b,ry⟩
  ·rw[a_ e,a_ (λz=>e (a.trans z))];trivial
theorem KX.put{ps:List XP}{xs:List (TK×A'×Af)}(r:KX ps xs)(k:TK){b:A'}{y:V}{u:Af}(ry:RelV y u):KX (cV ps k b y) (storedH xs k b u):=by
 have e:(cb ps k).isSome=(atKey xs k).isSome:=by rw[(r.val k).isSome_eq,Ff]
 unfold cV storedH;rw[e];by_cases q:(atKey xs k).isSome=ah
 ·rw[b_ q,b_ q];exact r.repl k ry
 ·rw[a_ q,a_ q];exact Paired.snoc r ⟨rfl,rfl,ry⟩
theorem vn(ps:List XP)(k:TK)(b:A')(v:V):(cV ps k b v).length<=ps.length+1:=by
 unfold cV
 split
 ·rw[Ab];omega
 ·rw[As,Ba];omega
def gB(K:Ag)(H:Hp)(ps:List XP):Prop:=∀p∈ps,RdD K H (.ref p.2.1) p.1.1
section
variable{X:Cx}{i_:List (A'×Obj)}{σ:St}{H:Hp}{s:Ai}{a b:A'}{v d:V}{u r:Af}{ps:List XP}{k:TK}{A:Bo}{E:Af->Ai->Prop}
theorem mU(I:Inv X i_ σ H s)(e:RdD X.K H (.ref b) k.1):(m5 X.prog X.w).is s.heap k b:=RdD.reads I e (by trivial)
theorem nN(I:Inv X i_ σ H s)(e:Rd H a (.dX ps))(hk:gB X.K H ps):ps.length<=Av/\(a==Dk)=ai/\∃xs,KX ps xs/\s.heap.DictOfH (m5 X.prog X.w) a xs:=by
 obtain⟨z,y,xs,c,o,n,v,u,h,j,k,i⟩:=(show ObjOk X.prog X.w H s.heap a (.dX ps)from e.ok I.hok);refine⟨z,y,xs,c,o,n,v,u,h,j,k,λx b=>?_,i⟩;have d:∀{l:List XP}{m:List _},KX l m->gB X.K H l->∀x∈m,(m5 X.prog X.w).is s.heap x.1 x.2.1:=by
  intro l m q
  induction q with
  |nil=>intro _ x b;trivial
  |@cons p q ps C g t A=>
   intro f x b;rcases Ar.mp b with e|b
   ·subst e;have:=f p An;rw[g.1,g.2.1]at this;exact mU I this
   ·exact A (λp r=>f p (Ak _ r)) x b
 exact d c hk x b
theorem Jj{Q:Af->Ai->Prop}(hu:A.units+64 < Dd)(I:Inv X i_ σ H s)(e:Rd H a (.dX ps))(hk:gB X.K H ps)(eb:RdD X.K H (.ref b) k.1)(l:cb ps k=ae v)(h:∀w' s',Inv X i_ σ H s'->RelV v w'->Q w' s'):
  A2 (A5 X.prog X.w) A (getItem (.ref a) (.ref b)) Q E s:=by
 obtain⟨z,n,m,c,g⟩:=nN I e hk;obtain⟨w',i,f⟩:=RelO.some_of (l▸c.val k);obtain⟨p,j,d⟩:=E6.mp i;refine wpAny_getItem_heap (show A.in1.units+16 < Dd by simp;omega) (mU I eb) g j ?_;rw[d];exact h w' _ (I.tok _) f
theorem Ib{Q:Af->Ai->Prop}(hu:A.units+64 < Dd)(I:Inv X i_ σ H s)(e:Rd H a (.dX ps))(hk:gB X.K H ps)(eb:RdD X.K H (.ref b) k.1)(h:∀s',Inv X i_ σ H s'->Q (.bool (!(cb ps k).isSome)) s'):
  A2 (A5 X.prog X.w) A (B3 .NotIn (.ref b) (.ref a)) Q E s:=by
 obtain⟨z,f,g,c,d⟩:=nN I e hk;refine wpAny_notIn_heap (show A.in1.units+16 < Dd by simp;omega) (mU I eb) f d ?_;have q:=(c.val k).isSome_eq;rw[Ff]at q;rw[<-q];exact h _ (I.tok _)
theorem Qa{Q:Unit->Ai->Prop}(hu:A.units+64 < Dd)(I:Inv X i_ σ H s)(e:H a=ae (.dX ps))(hk:gB X.K H ps)(eb:RdD X.K H (.ref b) k.1)(l:ps.length < Av)(rv:RelV v r)(h:∀s',Inv X i_ σ (upd H a (.dX (cV ps k b v))) s'->Q () s'):
  A2 (A5 X.prog X.w) A (setItem (.ref a) (.ref b) r) Q E s:=by
 obtain⟨z,t,x,c,g⟩:=nN I (.inl e) hk;have B:x.length<=Av:=(D3 c)▸z;have m:(cV ps k b v).length<=Av:=by have:=vn ps k b v;omega
 refine wpAny_setItem_heap (show A.in1.units+16 < Dd by simp;omega) (mU I eb) g λh' d y=>h _ ?_;obtain⟨q,p,u,f,i,n,o,_,j⟩:=d;exact lP I (by rw[e];trivial) y ⟨q,f⟩ ⟨m,t,_,c.put k rv,q,p,u,f,i,n,o,j⟩
end
def XGet(K:Ag)(H:Hp)(a:A')(y:V)(r:Option V):Prop:=∃ps k b,Rd H a (.dX ps)/\gB K H ps/\y=.ref b/\RdD K H (.ref b) k.1/\r=cb ps k
def mW(K:Ag)(H:Hp)(a:A')(y v:V)(H':Hp):Prop:=∃ps k b,H a=ae (.dX ps)/\gB K H ps/\y=.ref b/\RdD K H (.ref b) k.1/\ps.length < Av/\H'=upd H a (.dX (cV ps k b v))
def AF(K:Ag)(H:Hp)(a:A'):Prop:=∃ps,Rd H a (.dX ps)/\gB K H ps
def xU(K:Ag)(td ty:TE):TE:=λσ H Q=>td σ H λx H1=>ty σ H1 λy H2=>∃a v,x=.ref a/\XGet K H2 a y (ae v)/\Q v H2
def qu(K:Ag)(ty td:TE):TE:=λσ H Q=>ty σ H λy H1=>td σ H1 λx H2=>∃a o,x=.ref a/\XGet K H2 a y o/\Q (.bl (!o.isSome)) H2
def rX(K:Ag)(td ty tv:TE):TS:=λD σ H=>tv σ H λv H1=>td σ H1 λx H2=>ty σ H2 λy H3=>∃a H4,x=.ref a/\mW K H3 a y v H4/\D.nx σ H4
section
variable{X:Cx}{i_:List (A'×Obj)}{σ:St}{H:Hp}{s:Ai}{a:A'}
theorem NO(I:Inv X i_ σ H s)(h:AF X.K H a):s.TypeIs (.ref a) "dict":=by
 obtain⟨f,e,c⟩:=h;obtain⟨_,_,d,_,b⟩:=nN I e c;exact b.typeIs
theorem XGet.isX{y:V}{r:Option V}(g:XGet X.K H a y r):AF X.K H a:=let⟨c,_,_,e,b,_⟩:=g;⟨c,e,b⟩
end
section
variable{X:Cx}{o i e f value:Expr}{pos pos' tpos apos cpos:Pos}{td ty tv tx:TE}
theorem Rv(hu:X.A.units+64 < Dd)(ho:PE X o td)(hi:PE X i ty)(hs:gV i):PE X (.Subscript o i pos) (xU X.K td ty):=by
 intro c s σ H Q I h;refine AK PySem.F.slot_dict_getitem.lookup hs (aL (ho c s σ H _ I h) λu D ⟨x,t,B,r,p⟩=>aL (hi c D σ t _ B p) λiv G u=>?_);obtain⟨y,q,f,z,a,v,C,g,j⟩:=u;subst C;obtain rfl:=r;have ty:=NO f g.isX;obtain⟨E,k,b,e,n,rfl,m,l⟩:=g;obtain rfl:=z;exact⟨ty,Jj hu f e n m l.symm λw' J w d=>⟨v,q,w,d,j⟩⟩
theorem MV(hu:X.A.units+64 < Dd)(hi:PE X i ty)(ho:PE X o td):PC X .NotIn i o (qu X.K ty td):=by
 intro c s σ H Q I h;refine aL (hi c s σ H _ I h) λiv z ⟨y,q,v,t,m⟩=>aL (ho c z σ q _ v m) λu C u=>?_;obtain⟨x,n,d,p,a,D,w,g,f⟩:=u;subst w;obtain rfl:=p;obtain⟨B,k,b,e,l,rfl,j,rfl⟩:=g;obtain rfl:=t;exact Ib hu d e l j λs3 r=>⟨.bl _,n,r,rfl,f⟩
theorem ME(hu:X.A.units+64 < Dd)(ho:PE X o td)(hi:PE X i ty)(hv:PE X value tv)(hs:Cy value (ae (.Subscript o i pos')) pos.line X.env=pure ai):
  PS X (.Assign [.Subscript o i pos'] value pos) (rX X.K td ty tv):=by
 intro c s σ H D I h;refine wpAny_Assign_Subscript (aL (hv c s σ H _ I h) λr J ⟨v,z,E,w,p⟩=>aL (ho c J σ z _ E p) λu F ⟨x,q,d,t,f⟩=>aL (hi c F σ q _ d f) λiv O u=>?_) hs;obtain⟨y,N,B,C,a,P,G,g,L⟩:=u;subst G;obtain rfl:=t;obtain⟨M,k,b,e,n,rfl,j,l,rfl⟩:=g;obtain rfl:=C;exact Qa hu B e n j l w λs4 m=>⟨σ,_,m,L⟩
end
end L2
namespace DL
open PySem L2 Nb
def aY(m:List (TK×Ad))(k:TK):Option Ad:=(m.find? λq=>decide (q.1=k)).map (·.2)
def fZ(m:List (TK×Ad))(k:TK)(d:Ad):List (TK×Ad):=if (aY m k).isSome=ah then m.map (λq=>if q.1=k then(q.1,d)else q)else m++[(k,d)]
section
variable{H:Hp}{B:A'->Prop}{l:List (TK×A'×V)}{m:List (TK×Ad)}
theorem RdY.len(h:RdY H B l m):l.length=m.length:=D3 h
theorem RdY.keys{K:Ag}(h:RdY H B l m):gB K H l:=by
 induction h with
 |nil=>exact λp c=>nomatch c
 |@cons p q f e d t b=>
  intro x a;rcases Ar.mp a with rfl|a
  ·exact d.2.1.rd
  ·exact b x a
theorem RdY.val(h:RdY H B l m)(k:TK):(cb l k=af/\aY m k=af)\/∃v d,cb l k=ae v/\aY m k=ae d/\RdX H B v d:=by
 induction h with
 |nil=>exact .inl ⟨rfl,rfl⟩
 |@cons p q c f b t j=>
  by_cases e:p.1=k
  ·have a:=b.1.symm.trans e;exact .inr ⟨_,q.2,by simp[cb,e],by simp[aY,a],b.2.2⟩
  ·have a:¬q.1=k:=λz=>e (b.1.trans z);have g:cb (p::c) k=cb c k:=by simp[cb,e]
   have i:aY (q::f) k=aY f k:=by simp[aY,a]
   rw[g,i];omega
theorem RdY.isSome(h:RdY H B l m)(k:TK):(cb l k).isSome=(aY m k).isSome:=by
 rcases h.val k with⟨b,a⟩|⟨v,d,b,a,_⟩<;>rw[b,a]<;>rfl
theorem RdY.put{v:V}{d:Ad}{b:A'}{k:TK}(h:RdY H B l m)(rb:RdX H B (.ref b) k.1)(r:RdX H B v d):RdY H B (cV l k b v) (fZ m k d):=by
 have e:=h.isSome k;have g:RdY H B (l.map λp=>if p.1=k then(p.1,p.2.1,v)else p) (m.map λq=>if q.1=k then(q.1,d)else q):=by
  clear e
  induction h with
  |nil=>exact .nil
  |@cons p q i j a t f=>
   rw[Bk,Bk];refine .cons ?_ f;by_cases e:p.1=k
   ·rw[b_ e,b_ (a.1.symm.trans e)];exact⟨a.1,a.2.1,r⟩
   ·rw[a_ e,a_ λz=>e (a.1.trans z)];omega
 unfold cV fZ;rw[e];by_cases z:(aY m k).isSome=ah
 ·rw[b_ z,b_ z];omega
 ·rw[a_ z,a_ z];exact Paired.snoc h ⟨rfl,rb,r⟩
end
section
variable{X:Cx}{a b c e o i f:Expr}{ta tb te td ty tx:TE}{wa wb we wd' wy wx:DT}{pos p:Pos}{K:Ag}
def eD(i:Nat):DT:=λδ n Q=>match δ[i]? with
 |some (ae (.odx kvs))=>Q (.dx kvs) n
 |some (ae (.w (.ob (.x kvs))))=>Q (.dx kvs) n
 |some (ae (.w x))=>Q x n
 |_=>False
theorem v8(i:Nat){x:Str}{p:Pos}(hN:X.N[i]?=ae x:=by rfl)(hv:dY X.env.scope x:=by first|exact Cj rfl|exact B6 (Cj rfl)|exact B6 (B6 rfl))(hd:(x==("__debug__":Str))=ai:=by decide)
  (r_:(x==("__classdict__":Str))=ai:=by decide):DE X (.Name x p) (aI i) (eD i):=⟨eS hN hv hd r_,λC H B σ δ n Q o R h k=>by
 unfold eD at h
 split at h
 ·rename_i b e;obtain⟨v,c,a,l,rfl,f,g,m,q,d⟩:=R.sl i _ e;exact⟨_,c,k _ (.dx b) H n R (Kp.refl _ _) ⟨a,l,rfl,f,λz=>R.t0 (z▸m),d⟩ h⟩
 ·rename_i b e;obtain⟨v,c,⟨a,l,rfl,f,g,d⟩,_⟩:=R.sl i _ e;exact⟨_,c,k _ (.dx b) H n R (Kp.refl _ _) ⟨a,l,rfl,f,λz=>g (z▸R.bt),d⟩ h⟩
 ·rename_i x _ e;obtain⟨v,c,j⟩:=R.sl i _ e;exact⟨v,c,k v x H n R (Kp.refl _ _) j.1 h⟩
 ·exact h.elim⟩
def mx(d:Ad)(k:TK):Prop:=d=k.1/\∃ds,d=.tuple ds
theorem nh{H:Hp}{B:A'->Prop}{u:V}{d:Ad}{k:TK}(r:RdX H B u d)(h:mx d k):∃b,u=.ref b/\RdX H B (.ref b) k.1:=by
 obtain⟨rfl,j,e⟩:=h;rw[e]at r;cases r with
 |tup i a f g=>exact⟨_,rfl,e▸.tup i a f g⟩
def gQ(x:Wv)(kvs:List (TK×Ad)):Prop:=x=.dx kvs\/x=.ob (.y kvs)
theorem WRel.rdX{H:Hp}{B:A'->Prop}{t:A'}{v:V}{x:Wv}{kvs:List (TK×Ad)}(ht:B t)(h:gQ x kvs)(r:WRel H B t v x):∃a l,v=.ref a/\Rd H a (.dX l)/\a≠t/\RdY H B l kvs:=by
 rcases h with rfl|rfl
 ·obtain⟨a,l,e,b,d,c⟩:=r;exact⟨a,l,e,.inl b,d,c⟩
 ·obtain⟨a,o,l,e,b,d,c⟩:=(show ORel H B v (.y kvs)from r);exact⟨a,l,e,.inr ⟨o,b⟩,λz=>d (z▸ht),c⟩
def n8:Wv->Wv->Int->DQ->Prop:=λx y n Q=>∃kvs d k v,gQ x kvs/\y=.d d/\mx d k/\aY kvs k=ae v/\Q (.d v) n
theorem Km(hu:X.A.units+64 < Dd)(ho:DE X o td wd')(hi:DE X i ty wy)(hK:X.K=K)(hs:gV i:=by exact λ_ _=>rfl):DE X (.Subscript o i pos) (xU K td ty) (w2 wd' wy n8):=by
 subst hK;exact⟨Rv hu ho.pe hi.pe hs,λC H B σ δ n Q U R h k=>
 ho.sd C H B σ δ n _ _ R h λv x I J j S M D=>hi.sd C I B σ δ J _ _ j D λu y F G m g N s=>by
  obtain⟨t,d,c,w,L,rfl,z,e,q⟩:=s;obtain⟨a,l,rfl,P,V,p⟩:=WRel.rdX m.bt L (M.kp g j.bt);obtain⟨b,rfl,O⟩:=nh (N) z;rcases p.val c with⟨r,f⟩|⟨v,T,r,f,E⟩
  ·rw[f]at e;cases e
  ·rw[f]at e;cases e;exact⟨a,v,rfl,⟨l,c,b,P,p.keys,rfl,O.rd,r.symm⟩,k v (.d _) F G m (S.trans g) E q⟩⟩
def iy(neg:Bool):Wv->Wv->Int->DQ->Prop:=λy x n Q=>∃kvs d k,gQ x kvs/\y=.d d/\mx d k/\Q (.d (.bool (if neg then !(aY kvs k).isSome else(aY kvs k).isSome))) n
theorem Ml(hi:DE X i ty wy)(ho:DE X o td wd'):dm (qu K ty td) (w2 wy wd' (iy ah)):=λC H B σ δ n Q L R h k=>
 hi.sd C H B σ δ n _ _ R h λv x z A f J E s=>ho.sd C z B σ δ A _ _ f s λu y t w g e F m=>by
  obtain⟨p,d,c,D,rfl,r,q⟩:=m;obtain⟨a,l,rfl,I,M,j⟩:=WRel.rdX g.bt D F;obtain⟨b,rfl,G⟩:=nh ((E.kp e f.bt)) r;refine⟨a,_,rfl,⟨l,c,b,I,j.keys,rfl,G.rd,rfl⟩,k _ _ t w g (J.trans e) (wd (.bl _)) ?_⟩;rw[j.isSome c];exact q
theorem zS(hu:X.A.units+64 < Dd)(hi:DE X i ty wy)(ho:DE X o td wd')(hK:X.K=K:=by rfl)(hm:Cm .NotIn o=ai:=by with_unfolding_all rfl):DC X (.Compare i [.NotIn] [o] pos) (fQ (qu K ty td)) (cT (w2 wy wd' (iy ah))):=by
 subst hK;exact⟨yb (MV hu hi.pe ho.pe) hm,kb (Ml hi ho)⟩
def mO(i:Nat)(wy wv:DT):aE:=λδ n K=>wv δ n λv n1=>∃kvs,δ[i]?=ae (ae (.odx kvs))/\wy δ n1 λy n2=>∃k d e,v=.d d/\y=.d e/\mx e k/\kvs.length < 1000/\K.nx (δ.set i (ae (.odx (fZ kvs k d)))) n2
theorem xu{i:Nat}{x:Str}{xp sp:Pos}{j e:Expr}{tj te:TE}{wj we:DT}(hu:X.A.units+64 < Dd)(hN:X.N[i]?=ae x)(hj:DE X j tj wj)(he:DE X e te we)(hK:X.K=K:=by rfl)(hv:dY X.env.scope x:=by first|exact Cj rfl|exact B6 (Cj rfl)|exact B6 (B6 rfl))(hd:(x==("__debug__":Str))=ai:=by decide)
  (r_:(x==("__classdict__":Str))=ai:=by decide) (hs:Cy e (ae (.Subscript (.Name x xp) j sp)) pos.line X.env=pure ai:=by rfl):
  DS X (.Assign [.Subscript (.Name x xp) j sp] e pos) (rX K (aI i) tj te) (mO i wj we):=by
 subst hK;exact⟨ME hu (eS hN hv hd r_) hj.pe he.pe hs,λC H B σ δ n K D R q E=>
  he.sd C H B σ δ n _ _ R q λu y P Q g k1 U m=>by
   obtain⟨L,F,m⟩:=m;obtain⟨v,hv,a,l,rfl,S,p,r,Y,O⟩:=g.sl i _ F;refine⟨_,hv,hj.sd C P B σ δ Q _ _ g m λw z W Z T h V k=>?_⟩;obtain⟨f,d,ek,rfl,rfl,M,I,k⟩:=k;have s:a≠C.t:=λz=>R.t0 (z▸r);have c:=O.move λb o e n=>⟨h b o e λz=>n (z▸g.bt),n⟩;have J:l.length < 1000:=by rw[c.len];omega
   obtain⟨b,rfl,G⟩:=nh (V) M;refine⟨a,_,rfl,⟨l,f,b,(h _ _ S s),c.keys,rfl,G.rd,Bn J ∎,rfl⟩,E.nx _ _ _ _ _ (T.mutOwn F rfl hv p r ?_ rfl) k⟩;refine⟨a,_,rfl,a9,p,r,?_,?_⟩
   ·have:=vn l f b u;omega
   ·exact(c.put G (RdX.kp h g.bt U)).move λb o e n=>⟨(aH λ(z:b=a)=>n (z▸p))▸e,n⟩⟩
end
end DL
namespace L2
open PySem PySem.Spec PyProof.Rows PySem.W
def z3(K:Ag):List V->Hp->VK->Prop:=λxs H Q=>∃a ps,xs=[.ref a]/\Rd H a (.dX ps)/\gB K H ps/\∀l,H l=af->Q (.ref l) (upd H l (.lst (ps.map λp=>V.ref p.2.1)))
theorem yY{ps:List XP}{xs:List (TK×A'×Af)}(r:KX ps xs):Vals (ps.map λp=>V.ref p.2.1) (xs.map λx=>Co x.2.1):=by
 induction r with
 |nil=>exact .nil
 |@cons p q ps b h t a=>exact .cons (show RelV (V.ref p.2.1) _ by rw[h.2.1];rfl) a
theorem OP{X:Cx}(hh:X.A.handled=af):CallR X (.type "list") (z3 X.K):=by
 intro p s σ H R O Q I r h;obtain⟨a,v,rfl,J,M,q⟩:=h;obtain⟨u,rfl,F⟩:=e8 r;cases(F);obtain⟨z,y,G,d,o,n,P,D,t,B,m,L⟩:=(show ObjOk X.prog X.w H s.heap a (.dX v)from J.ok I.hok);have E:=by
  have:=congrArg Dy m;rw[Ab,Bx]at this;omega
 have l:=(D3 d).symm;refine kdl_call (N0 y) hh (⟨o,D,t,B⟩) (by simp_all) λh' N b c i k f=>?_;have e:b=(G.map λx=>Co x.2.1).toArray:=by
  apply Gp.mp;apply List.ext_getElem?;intro j;by_cases C:j < n.size
  ·have g:j < b.toList.length:=by rw[Bx,f.1];exact C
   have this:(n[j]?).map _=ae (b.toList[j]):=f.2 j _ (by simp);rw[<-Bu,m,Am,Option.map_map]at this;rw[Ah g,<-this,Am];rfl
  ·rw[Ce (by rw[Bx,f.1];omega),Ce (by simp;omega)]
 rw[e]at k;refine⟨.ref s.heap.objs.size,_,I.laid (o:=.lst _) i (by simp) ⟨by rw[Ab];exact z,_,c,yY d,k⟩,rfl,q _ (I.hok.fresh (by simp))⟩
def xB(a:A')(o:Obj)(l:List XP):It:=
 ⟨λi H=>H a=ae (.frz o (.dX l))/\i < l.length,λi H x H'=>H'=H/\∃p,l[i]?=ae p/\x=.ref p.2.1,λi H=>H a=ae (.frz o (.dX l))/\l.length<=i⟩
theorem uC{P:A1}{w:Bh}{H:Hp}{h:Heap}{a:A'}{o:Obj}{l:List XP}{es:Array G3}{ep:Nat}(hd:o.data=.dict es ep)(ok:ObjOk P w H h a (.frz o (.dX l))):(a==Dk)=ai/\DEs h a es ep/\es.size=l.length/\∀i p,l[i]?=ae p->(es.getD i ⟨0,.none,.none⟩).key=.ref p.2.1:=by
 obtain⟨g,z,A,m,b,E,C,x,k,s,d,f,D⟩:=ok;rw[g]at k;cases k;rw[hd]at d;cases d;have t:=by
  have:=congrArg Dy f;rw[Ab,Bx]at this;omega
 refine⟨A,⟨o,g,s,hd⟩,t.trans (D3 b).symm,λi p e=>?_⟩;have v:i < m.length:=(D3 b)▸(Ap.mp e).1;obtain⟨q,n⟩:∃q,m[i]?=ae q:=⟨_,Ah v⟩;have j:es[i]?=ae (entryOfKey (m5 P w) q):=by rw[<-Bu,f,Am,n];rfl
 have y:p.2.1=q.2.1:=by
  have:=yY b;obtain⟨u,r,B⟩:=this.get (by rw[Am,e];rfl);rw[Am,n]at r;cases r;exact(Value.ref.inj (B)).symm
 have c:i < es.size:=by simp_all
 rw[show es.getD i _=es[i] by simp[c]];rw[Cg c]at j;rw[B2 j,y];rfl
theorem Ip{P:A1}{w:Bh}{K:Ag}{tg:Expr}{a it:A'}{o:Obj}{l:List XP}{es:Array G3}{ep:Nat}(hd:o.data=.dict es ep):Turn P w K tg (xB a o l) [it] it (λi h=>h.IsKeyIter it a i es.size ep) where
 mem:=by simp
 obj:=λi h f b j=>by
  have e:b=it:=by simp_all
  subst e;obtain⟨o,e,c,d⟩:=f;exact⟨o,e,λv z=>by simp_all⟩
 keep:=λi h L f k=>f.at (k it (by simp))
 item:=by
  intro X O S T J i g s σ H E I n f r;obtain⟨B,D⟩:=r;obtain⟨_,q,M,C⟩:=uC hd (I.hok a _ B);obtain⟨p,F⟩:∃p,l[i]?=ae p:=⟨_,Ah D⟩;obtain⟨u,x,Q,t,A,y⟩:=n it (by simp);refine oS f q (λ_ L m U=>?_) λz=>g_ z ⋯;rw[C i p F];have R:Inv X g σ H {s with heap:=L}:=I.turned (λb o j=>(U.2 b j).trans) u x t A y;obtain⟨Y,e,c,d⟩:=id m;exact⟨_,rfl,o3 e c d ∎ ⟨.ref p.2.1,H,R,rfl,⟨rfl,p,F,rfl⟩,m,λb j=>(n b j).1⟩⟩
 done:=by
  intro X O S T J i g s σ H E I n f r;obtain⟨B,D⟩:=r;obtain⟨_,q,M,C⟩:=uC hd (I.hok a _ B);obtain⟨u,x,Q,t,A,y⟩:=n it (by simp);exact oS f q (λz=>g_ z ⋯) λ_=>⟨I.ok.hd J,λh' N=>⟨rfl,I.turned (N) u x t A y⟩⟩
 self:=λ_ _ _ _ _=>wpAny_pyIter_keyiter
def zT(tl:TE):TI:=λσ H R=>tl σ H λx H1=>∃a o l,x=.ref a/\H1 a=ae (.frz o (.dX l))/\R (xB a o l) H1
theorem SS{X:Cx}{tg l:Expr}{tl:TE}(hl:PE X l tl):PI X tg l (zT tl):=by
 intro c s σ H R I h;refine aL (hl c s σ H _ I h) λv w v=>?_;obtain⟨x,r,d,t,m⟩:=v;obtain⟨a,o,B,e,p,q⟩:=m;subst e;cases t;have j:=d.hok a _ p;obtain⟨g,z,u,G,n,E,D,F,i,y,f,C,A⟩:=id j;rw[g]at i;cases i;obtain⟨_,k,_,_⟩:=uC f j;refine CD u k ⟨_,_,_,_,r,rfl,d.kept λb o=>Ae _,Ip f,⟨_,Au _ rfl,rfl,rfl⟩,λb J=>?_,q⟩;have e:b=w.heap.objs.size:=by simp_all
 subst e;exact d.fpOk (by simp) (d.hok.fresh (by simp))
theorem Inv.freezeX{X:Cx}{i_:List (A'×Obj)}{σ:St}{H:Hp}{s:Ai}{a:A'}{l:List XP}(I:Inv X i_ σ H s)(e:H a=ae (.dX l)):∃o,Inv X i_ σ (upd H a (.frz o (.dX l))) s:=by
 obtain⟨z,k,h,b,o,f,m,c,d,i,j,g⟩:=I.hok a _ e;exact⟨o,lP I (by rw[e];trivial) ⟨rfl,λ_ _=>rfl⟩ ⟨o,c⟩ ⟨c,z,k,h,b,o,f,m,c,d,i,j,g⟩⟩
def j7(T:TS):TS:=λD σ H=>∃a l,H a=ae (.dX l)/\∀o,T D σ (upd H a (.frz o (.dX l)))
theorem CO{X:Cx}{b:List Stmt}{T:TS}(h:PSs X b T):PSs X b (j7 T):=λi_ s σ H D I q=>by
 obtain⟨a,l,e,q⟩:=q;obtain⟨o,d⟩:=I.freezeX e;exact h i_ s σ _ D d (q o)
end L2
namespace DL
open PySem L2 Nb
theorem Rel.fzX{C:Ctx}{H:Hp}{B:A'->Prop}{σ:St}{δ:Sl}{n:Int}{i:Nat}{m:List (TK×Ad)}(R:Rel C H B σ δ n)(hi:δ[i]?=ae (ae (.odx m))):
  ∃a l,σ[i]?=ae (ae (.ref a))/\H a=ae (.dX l)/\B a/\C.H0 a=af/\a≠C.t/\∀o,Rel C (upd H a (.frz o (.dX l))) (λb=>B b/\b≠a) σ (δ.set i (ae (.w (.ob (.y m))))) n:=by
 obtain⟨v,S,a,l,rfl,N,U,M,e5,e6⟩:=R.sl i _ hi;have W:a≠C.t:=λz=>R.t0 (z▸M);refine⟨a,l,S,N,U,M,W,λo=>?_⟩;have Z:Rel C H B σ (δ.set i af) n:={
  tp:=R.tp,kp:=R.kp,t0:=R.t0,l0:=R.l0,g0:=R.g0,fz:=R.fz,bt:=R.bt,b0:=R.b0,ba:=R.ba,a0:=R.a0
  sl:=λj y e=>by
   by_cases z:i=j
   ·subst z;rw[C1]at e;simp_all
   ·rw[Bg z]at e;exact R.sl j y e
  ow:=λj k y z u X N O Q p h=>by
   have g:∀{m:Nat}{w:SV},(δ.set i af)[m]?=ae (ae w)->δ[m]?=ae (ae w):=λ{m w} e=>by
    by_cases q:i=m
    ·subst q;rw[C1,hi]at e;cases e
    ·rwa [Bg q]at e
   exact R.ow j k y z u (g X) (g N) O Q p h
  len:=by rw[Cu];exact R.len}
 have r:Rel C (upd H a (.frz o (.dX l))) B σ _ n:=Z.mut U M λj y e oy f=>by
  by_cases z:i=j
  ·subst z;rw[C1,hi]at e;cases e
  ·rw[Bg z]at e;exact z (R.ow i j _ y _ hi e rfl oy S f)
 have s:∀b,(B b/\b≠a)->B b:=λb z=>z.1;exact{
  tp:=r.tp,kp:=r.kp,t0:=r.t0,l0:=r.l0,g0:=r.g0
  fz:=λb o e=>⟨(r.fz b o e).1,λz=>(r.fz b o e).2 z.1⟩
  bt:=⟨R.bt,λz=>R.t0 (z▸M)⟩
  b0:=λb z=>⟨R.b0 b z,λq=>R.a0 b z (q▸M)⟩
  ba:=λb z=>r.ba b z.1
  a0:=R.a0
  sl:=λj Y e=>by
   rcases eH e with⟨rfl,rfl⟩|⟨L,P⟩
   ·refine⟨_,S,⟨a,o,l,rfl,a9,λz=>z.2 rfl,e6.move λb ob e n=>⟨?_,λz=>n z.1⟩⟩,λz=>by cases z⟩;rw[aH λ(z:b=a)=>n (z▸U)];exact e
   ·obtain⟨u,p,h⟩:=r.sl j Y (by rw[Bg λz=>L z.symm];omega);refine⟨u,p,?_⟩;cases Y with
    |w y=>exact⟨h.1.less s,h.2⟩
    |own x=>
     obtain⟨D,d,G,I,F,E,J,A⟩:=h;exact⟨D,d,G,I,⟨F,λz=>L (R.ow j i _ _ _ P hi rfl rfl p (by simp_all))⟩,E,J,A.less s⟩
    |odk x=>
     obtain⟨D,d,G,I,F,E,J,A⟩:=h;exact⟨D,d,G,I,⟨F,λz=>L (R.ow j i _ _ _ P hi rfl rfl p (by simp_all))⟩,E,J,A.move λb o e n=>⟨e,λz=>n z.1⟩⟩
    |odt x=>
     obtain⟨D,d,G,I,F,E,J,A⟩:=h;exact⟨D,d,G,I,⟨F,λz=>L (R.ow j i _ _ _ P hi rfl rfl p (by simp_all))⟩,E,J,A.move λb o e n=>⟨e,λz=>n z.1⟩⟩
    |odx x=>
     obtain⟨D,d,G,I,F,E,J,A⟩:=h;exact⟨D,d,G,I,⟨F,λz=>L (R.ow j i _ _ _ P hi rfl rfl p (by simp_all))⟩,E,J,A.move λb o e n=>⟨e,λz=>n z.1⟩⟩
  ow:=λj k y z u X N O Q p h=>by
   rcases eH X with⟨rfl,rfl⟩|⟨ne1,T⟩
   ·cases O
   ·rcases eH N with⟨rfl,rfl⟩|⟨ne2,V⟩
    ·cases Q
    ·exact R.ow j k y z u T V O Q p h
  len:=by rw[Cu];exact R.len}
theorem RdY.at{H:Hp}{B:A'->Prop}{l:List (TK×A'×V)}{m:List (TK×Ad)}(h:RdY H B l m):∀{j:Nat}{p:TK×A'×V},l[j]?=ae p->∃q,m[j]?=ae q/\p.1=q.1/\RdX H B (.ref p.2.1) p.1.1/\RdX H B p.2.2 q.2:=by
 induction h with
 |nil=>intro j p e;cases e
 |@cons a b f d r t c=>
  intro j p e;cases j with
  |zero=>cases e;exact⟨b,rfl,r⟩
  |succ j=>exact c e
section
variable{X:Cx}{a b c e o i f tg:Expr}{ta tb te td ty tx:TE}{wa wb we wd' wy wx:DT}{pos p:Pos}{K:Ag}
def my(i:Nat)(W:aE):aE:=λδ n K=>match δ[i]? with
 |some (ae (.odx m))=>W (δ.set i (ae (.w (.ob (.y m))))) n K
 |_=>False
theorem Js(i:Nat){l:List Stmt}{T:TS}{W:aE}(h:DSs X l T W):DSs X l (j7 T) (my i W):=⟨CO h.ps,λC H B σ δ n K D R q E=>by
 unfold my at q
 split at q
 ·rename_i m e;obtain⟨a,l,f,c,j,g,d,b⟩:=R.fzX e;exact⟨a,l,c,λo=>h.sd C _ _ σ _ n K D (b o) q E⟩
 ·exact q.elim⟩
def oE(w:DT):fI:=λδ n Q=>w δ n λx n1=>∃kvs:List (TK×Ad),x=.ob (.y kvs)/\kvs.length<=1000/\Q (kvs.map λp=>p.1.1) n1
theorem QJ(ha:DE X a ta wa):DI X tg a (zT ta) (oE wa):=⟨SS ha.pe,λC H B σ δ n Q U R q k=>ha.sd C H B σ δ n _ _ R q λv x t K I S N F=>by
 obtain⟨i,rfl,A,D⟩:=F;obtain⟨a,o,l,rfl,w,P,u⟩:=(show ORel t B v (.y i)from N);have f:=u.len;refine⟨a,o,l,rfl,w,k _ _ t K I S (λfz m=>?_) D⟩;have g:=m.2 _ _ w P;refine⟨by rw[Ab];exact ej A,λj H h E=>?_,λH h=>?_,λj H x T d h c O=>?_⟩
 ·rw[Ab]at E;exact⟨h _ _ g,by simp_all⟩
 ·exact⟨h _ _ g,by rw[f];simp⟩
 ·obtain⟨rfl,p,L,rfl⟩:=O;refine⟨λ_ _ z=>z,λB' G M=>?_⟩;rw[Am]at c;obtain⟨q,J,r⟩:=RdY.at u L;rw[J]at c;cases c;exact(r.1▸r.2.1).move λb V e s=>⟨h _ _ (m.2 _ _ e s),G _ _ (m.2 _ _ e s)⟩⟩
end
end DL
namespace L2
open PySem PySem.Spec PyProof.Rows PySem.W
section
variable{prog:A1}{w:Bh}{A:Bo}{E:Af->Ai->Prop}{s:Ai}{d:A'}{es:Array G3}{ep:Nat}
theorem GJ(hd:(d==Dk)=ai):MeetsIn prog w (Es.«dict.__len__» ⟨[.ref d],[]⟩) (λ_ R s=>DEs s.heap d es ep/\R (.ok (.ret (.int es.size s.toks))) {s with toks:=s.toks+1}):=
 .of_wp λA R s u=>by
  obtain⟨x,h⟩:=u;obtain⟨o,a,c,b⟩:=x;refine(show A2 _ _ (dictSize d>>=_) _ _ s from(Aa (Aa (wpAny_dictEntries a b (Aj (Aa (wpAny_pendingCount_other hd (wpAny_ret_mkInt ?_))))))));exact h
theorem PF{Q:Af->Ai->Prop}(hd:(d==Dk)=ai)(x:DEs s.heap d es ep)(hf:(es.size:Int) < 2 ^ 63)(h:Q (.int es.size (s.toks+1)) {s with toks:=s.toks+1+1}):A2 (A5 prog w) A (call (.builtin "len") [.ref d]) Q E s:=by
 refine Calls.call_function_entry kind_len plain_len entry_len (args_len1 _) (Aa (Aj (Aa (Bt x.ty F.slot_dict_len (call_meetsIn F.slot_dict_len x.ty F.entry_dict_len (F.args_dict_len_1 _) (GJ hd) ⟨x,?_⟩)))));refine(show A2 _ _ _ _ _ {s with toks:=s.toks+1}from Aa (Cb (Aj (Aa (wpAny_letGo (?_))))));rw[a_ ⋯];refine(?_);rw[a_ ⋯];exact Aa (wpAny_mkInt (Aj ⟨_,rfl,h⟩))
end
theorem yy{X:Cx}:CallR X (.builtin "len") (λxs H Q=>∃a ps,xs=[V.ref a]/\Rd H a (.dX ps)/\Q (.int ps.length) H):=by
 intro e s σ H xs p Q I r h;obtain⟨a,ps,rfl,l,q⟩:=h;obtain⟨u,rfl,k⟩:=e8 r;cases(k);obtain⟨z,y,x,c,o,n,t,j,f,g,i,m⟩:=(show ObjOk X.prog X.w H s.heap a (.dX ps)from l.ok I.hok);have d:=by
  have:=congrArg Dy i;rw[Ab,Bx]at this;exact this.trans (D3 c).symm
 have v:Av=16777216:=by decide
 refine PF y ⟨o,j,f,g⟩ ⋯ ?_;rw[d];exact⟨.int ps.length,H,I.tok _,⟨_,rfl⟩,q⟩
end L2
namespace Nb
open PySem L2 DL
structure AfOk(Sa:aP)(pd:Ad)(N:Nat)(aft:TK->Nat->Option TK)(Gd:TK->Prop):Prop where
 call:∀(k:TK)(m:Nat)(n:Int)(Q:DQ),Gd k->m<=N->Q (.d (match aft k m with|some b=>b.1|none=>.none)) n->Sa [.d pd,.d k.1,.d (.int (m:Nat))] n Q
 good:∀(k:TK)(m:Nat)(b:TK),Gd k->m<=N->aft k m=ae b->Gd b
 tup:∀k:TK,Gd k->∃ds,k.1=.tuple ds
 prog:∃ps:List Ad,pd=.tuple ps/\ps.length=N
abbrev Fm:=List (TK×Ad)×List TK
def stp(aft:TK->Nat->Option TK)(s:TK)(p:Fm)(m:Nat):Fm:=match aft s m with
 |none=>p
 |some b=>if (aY p.1 b).isSome=ah then p else(p.1++[(b,.tuple [s.1,.int (m:Nat)])],p.2++[b])
def stpM(aft:TK->Nat->Option TK)(N:Nat)(p:Fm)(s:TK):Fm:=(A9 (N+1)).foldl (stp aft s) p
def cn(aft:TK->Nat->Option TK)(N:Nat)(p:Fm)(ss:List TK):Fm:=ss.foldl (stpM aft N) p
abbrev Mv:R2:=λx y H Q=>y=.non/\Q (.bl (!decide (x=.non))) H
abbrev CW:List V->Hp->VK->Prop:=λxs H Q=>∃a ps,xs=[V.ref a]/\Rd H a (.dX ps)/\Q (.int ps.length) H
abbrev Ly(K:Ag)(tm:TE)(rE:R2):TS:=dO (gL (fQ (cZ rE (d5 CW (br (aI 1) aW)) tm)) (λ_ _ _=>False) om) (dO (rX K (aI 1) (aI 6) (j4 (br (aI 4) (br (aI 5) aW)))) (mF (px K "list" sE (aI 3) (br (aI 6) aW))))
abbrev vU(K:Ag)(Sa:aP)(tm:TE)(rE:R2):TS:=dO (bw (ee (dv Sa) [] E0 (br (aI 0) (br (aI 4) (br (aI 5) aW)))) (dg 6)) (gL (jM (fQ (cZ Mv (aI 6) (tC .non))) (fQ (qu K (aI 6) (aI 1)))) (Ly K tm rE) om)
abbrev mJ(K:Ag)(Sa:aP)(tm:TE)(rE:R2)(tr:TE):TS:=dO (bw (iJ aW) (dg 3)) (dO (gY (p5 K (aI 2)) (dg 4) (gY (pE (br tr aW)) (dg 5) (vU K Sa tm rE))) (fF (aI 3)))
def KpD(t a:A')(H H':Hp):Prop:=∀b o,H b=ae o->b≠t->b≠a->H' b=ae o
section
variable{t a b:A'}{H H1 H2 H3:Hp}
theorem KpD.refl:KpD t a H H:=λ_ _ e _ _=>e
theorem KpD.kp(k:KpD t a H1 H2)(k2:Kp t H2 H3):KpD t a H1 H3:=λb o e c d=>k2 b o (k b o e c d) c
theorem KpD.new{o:HO}(k:KpD t a H1 H2)(h:H2 b=af):KpD t a H1 (upd H2 b o):=k.kp (Kp.new h)
theorem KpD.put{o:HO}(k:KpD t a H1 H2):KpD t a H1 (upd H2 a o):=λc d e f b=>(aH b)▸k c d e f b
theorem KpD.app{o:HO}(k:KpD t a H1 H2)(hb:H1 b=af):KpD t a H1 (upd H2 b o):=λc f e=>(aH (bu e hb))▸k c f e
end
structure FuI(H0:Hp)(t:A')(l:TL)(ns:List Int)(n:Int)(B:A'->Prop)(a b:A')(p:Fm)(H:Hp):Prop where
 tp:Tp H t l ns n
 kp:KpD t a H0 H
 nb:H0 b=af
 fr:∃xs,H b=ae (.lst xs)/\RdXs H (λc=>B c\/c=b) xs (p.2.map (·.1))
 st:∃l',H a=ae (.dX l')/\RdY H (λc=>B c\/c=b) l' p.1
section
variable{H0 H H':Hp}{t:A'}{l:TL}{ns:List Int}{n:Int}{B:A'->Prop}{a b:A'}{p:Fm}
theorem FuI.out(I:FuI H0 t l ns n B a b p H)(ht:B t)(ha:a≠t)(hb:b≠t)(T:Tp H' t l ns n)(k:Kp t H H'):FuI H0 t l ns n B a b p H':=by
 obtain⟨g,j,i⟩:=I.fr;obtain⟨q,h,m⟩:=I.st;have d:∀c o,H c=ae o->¬(B c\/c=b)->H' c=ae o/\¬(B c\/c=b):=λc o e f=>⟨k c o e λz=>f (.inl (z▸ht)),f⟩;exact⟨T,I.kp.kp k,I.nb,⟨g,k _ _ j hb,i.move d⟩,q,k _ _ h ha,m.move d⟩
end
structure FuC(H0:Hp)(t:A')(l:TL)(B:A'->Prop)(a:A'):Prop where
 bt:B t
 ba:B a
 ex:∀c,B c->H0 c≠af
 at':a≠t
 l0:H0 l.s≠af
 g0:lU=ah->H0 l.g≠af
section
variable{K:Ag}{Sa:aP}{pd:Ad}{N:Nat}{aft:TK->Nat->Option TK}{Gd:TK->Prop}{tm:TE}{rE:R2}{H0 H:Hp}{t:A'}{l:TL}{ns:List Int}{n:Int}{B:A'->Prop}{a b:A'}{p:Fm}
theorem FuI.up{v:V}{d:Ad}(C:FuC H0 t l B a)(I:FuI H0 t l ns n B a b p H)(r:RdX H0 B v d):RdX H (λc=>B c\/c=b) v d:=
 r.move λc o e f=>⟨I.kp c o e (λz=>f (z▸C.bt)) (λz=>f (z▸C.ba)),λz=>z.elim f λq=>by rw[q,I.nb]at e;cases e⟩
theorem Qz(A:AfOk Sa pd N aft Gd)(C:FuC H0 t l B a)(htm:∀(σ:St) (H:Hp) (Q:VK),Q (.int 2000) H->tm σ H Q)(hrE:∀(x y:Int) (H:Hp) (Q:VK),Q (.bl (decide (x=y))) H->rE (.int x) (.int y) H Q)
  {σ:St} {v0 v4:V} {m:Nat} {s:TK} (I:FuI H0 t l ns n B a b p H) (e0:σ[0]?=ae (ae v0)) (e1:σ[1]?=ae (ae (.ref a))) (e3:σ[3]?=ae (ae (.ref b))) (e4:σ[4]?=ae (ae v4)) (e5:σ[5]?=ae (ae (.int (m:Nat)))) (e6:6 < σ.length)
  (r0:RdX H0 B v0 pd) (r4:RdX H0 B v4 s.1) (gd:Gd s) (hm:m<=N) (hl:p.1.length < 2000) (hl2:p.2.length < Av) {D:Ends} (hD:∀v6 H',FuI H0 t l ns n B a b (stp aft s p m) H'->D.nx (σ.set 6 (ae v6)) H'):vU K Sa tm rE D σ H:=by
 have P:b≠t:=λz=>C.ex t C.bt (z▸I.nb);have i:a≠b:=λz=>C.ex a C.ba (z▸I.nb);obtain⟨xs0,eb0,_⟩:=I.fr;have hB':∀c,(B c\/c=b)->H c≠af:=λc z=>by
  rcases z with z|rfl
  ·by_cases G:c=t
   ·subst G;obtain⟨_,_,h,_⟩:=I.tp.ob;rw[h];simp
   ·by_cases E:c=a
    ·subst E;obtain⟨_,h,_⟩:=I.st;rw[h];simp
    ·cases e:H0 c with
     |none=>exact(C.ex c z e).elim
     |some o=>rw[I.kp c o e G E];simp
  ·rw[eb0];simp
 refine⟨v0,e0,v4,e4,_,e5,⟨t,l,ns,λc=>B c\/c=b,[.d pd,.d s.1,.d _],n,λw n'=>n'=n/\w=.d _,I.tp,.inl C.bt,hB',.cons (I.up C r0) (.cons (I.up C r4) (.cons (.int _) .nil)),A.call s m n _ gd hm ⟨rfl,rfl⟩,?_⟩⟩
 rintro w n' ⟨rfl,rfl⟩ v u O k1 W
 have R:=I.out C.bt C.at' P O k1;have M:(σ.set 6 (ae v))[6]?=ae (ae v):=by simp[e6]
 have r:∀j,j≠6->(σ.set 6 (ae v))[j]?=σ[j]?:=λj z=>Bg λq=>z q.symm;have hD:=hD v;cases Y:aft s m with
 |none=>
  rw[Y]at W;have ev:v=.non:=by cases(W);rfl
  subst ev;refine⟨_,M,rfl,ai,by simp,?_⟩;dsimp only;refine hD u ?_;unfold stp;simp_all
 |some k=>
  rw[Y]at W;obtain⟨ds,hds⟩:=A.tup k (A.good s m k gd hm Y);obtain⟨q,rfl,X⟩:=nh (W) ⟨rfl,ds,hds⟩;obtain⟨F,e2,S⟩:=R.st;obtain⟨xs,eb,rx⟩:=R.fr;refine⟨_,M,rfl,ah,by simp,?_⟩;dsimp only;refine⟨_,M,_,(r 1 ∎)▸e1,a,_,rfl,⟨F,k,q,.inl e2,S.keys,rfl,X.rd,rfl⟩,_,rfl,?_⟩;rw[S.isSome k];cases hs:(aY p.1 k).isSome with
  |true=>
   refine hD u ?_;unfold stp;simp_all
  |false=>
   refine⟨_,(r 1 ∎)▸e1,a,F,rfl,.inl e2,htm _ _ _ (hrE _ _ _ _ ⟨_,rfl,?_⟩)⟩;have Z:F.length < 2000:=by rw[S.len];omega
   dsimp only;rw[a_ (by simp;omega)];refine⟨v4,by rw[r 4 ∎];exact e4,_,(r 5 ∎)▸e5,(show 2<=Av by decide),λq' f=>?_⟩;have nq:¬(B q'\/q'=b):=λz=>by
    rcases z with z|rfl
    ·by_cases G:q'=t
     ·subst G;obtain⟨_,_⟩:=O.ob;simp_all
     ·by_cases E:q'=a
      ·subst E;simp_all
      ·cases e:H0 q' with
       |none=>exact C.ex q' z e
       |some o=>rw[R.kp q' o e G E]at f;trivial
    ·rw[eb]at f;trivial
   have qa:a≠q':=λz=>nq (by simp_all);have qb:b≠q':=λz=>nq (by grind);have T:∀c o,u c=ae o->¬(B c\/c=b)->upd u q' (.tup [v4,.int m]) c=ae o/\¬(B c\/c=b):=λc o e L=>⟨(aH (bu e f))▸e,L⟩;refine⟨_,(r 1 ∎)▸e1,_,M,a,_,rfl,⟨F,k,q,by rw[aH qa];exact e2,(S.move T).keys,rfl,(X.move T).rd,Nat.lt_trans Z ∎,rfl⟩,⟨.ref b,by rw[r 3 ∎];exact e3,.inl ⟨rfl,xs,SqL.of (by rw[aH i.symm,aH qb];omega)⟩,_,M,b,xs,_,rfl,rfl,by rw[aH i.symm,aH qb];exact eb,by rw[rx.len,Ab];exact hl2,?_⟩⟩;have J:∀c o,u c=ae o->¬(B c\/c=b)->upd (upd (upd u q' (.tup [v4,.int m])) a (.dX (cV F k q (.ref q')))) b (.lst (xs++[.ref q])) c=ae o/\¬(B c\/c=b):=λc o e L=>
    ⟨(aH λz=>L (.inr z))▸(aH λ(z:c=a)=>L (.inl (z▸C.ba)))▸(aH (bu e f))▸e,L⟩
   refine hD _ ?_;unfold stp;rw[Y];dsimp only;rw[a_ (by rw[hs];decide)];have als:l.s≠a:=λz=>by have:=O.ls;simp_all
   refine⟨((O.new f).other C.at'.symm als λe z=>by have:=O.ag e;simp_all).other P.symm (λz=>C.l0 (z▸I.nb)) (λe z=>C.g0 e (z▸I.nb)),((R.kp.new f).put).app I.nb,I.nb,⟨_,a9,?_⟩,_,by rw[aH i,a9],?_⟩
   ·rw[Bb];exact(rx.move J).append (.cons (X.move J) .nil)
   ·have:=(S.move J).put (X.move J) (.tup (xs:=[v4,.int _]) (by rw[aH qb.symm,aH qa.symm,a9]) nq (show 2<=Av by decide) (.cons ((R.up C r4).move J) (.cons (.int _) .nil)));unfold fZ at this;rw[a_ (by rw[hs];decide)]at this;omega
end
theorem EM(aft:TK->Nat->Option TK)(s:TK)(p:Fm)(m:Nat):p.1.length<=(stp aft s p m).1.length:=by
 unfold stp
 split
 ·exact Bc _
 ·split
  ·exact Bc _
  ·rw[As];simp
theorem yh(aft:TK->Nat->Option TK)(s:TK)(p:Fm)(m:Nat)(h:p.2.length<=p.1.length):(stp aft s p m).2.length<=(stp aft s p m).1.length:=by
 unfold stp
 split
 ·exact h
 ·split
  ·exact h
  ·rw[As,As];exact Nat.succ_le_succ h
theorem p8{α:Type}(f:Fm->α->Fm)(h:∀p x,p.1.length<=(f p x).1.length):∀(l:List α)(p:Fm),p.1.length<=(l.foldl f p).1.length
 |[],_=>Bc _
 |x::l,p=>A0 (h p x) (p8 f h l _)
theorem nE{α:Type}(f:Fm->α->Fm)(h:∀p x,p.2.length<=p.1.length->(f p x).2.length<=(f p x).1.length):∀(l:List α)(p:Fm),p.2.length<=p.1.length->(l.foldl f p).2.length<=(l.foldl f p).1.length
 |[],_,q=>q
 |x::l,p,q=>nE f h l _ (h p x q)
theorem M3(aft:TK->Nat->Option TK)(N:Nat)(p:Fm)(s:TK):p.1.length<=(stpM aft N p s).1.length:=p8 _ (EM aft s) _ _
theorem CP(aft:TK->Nat->Option TK)(N:Nat)(p:Fm)(s:TK)(h:p.2.length<=p.1.length):(stpM aft N p s).2.length<=(stpM aft N p s).1.length:=nE _ (yh aft s) _ _ h
structure FuS(v0:V)(a c b:A')(σ:St):Prop where
 s0:σ[0]?=ae (ae v0)
 s1:σ[1]?=ae (ae (.ref a))
 s2:σ[2]?=ae (ae (.ref c))
 s3:σ[3]?=ae (ae (.ref b))
 ln:6 < σ.length
theorem FuS.set{v0 v:V}{a c b:A'}{σ:St}{j:Nat}(S:FuS v0 a c b σ)(hj:3 < j):FuS v0 a c b (σ.set j (ae v)):=by
 have g:∀i,i<=3->(σ.set j (ae v))[i]?=σ[i]?:=λi h=>Bg ⋯;exact⟨by rw[g 0 ∎];exact S.s0,by rw[g 1 ∎];exact S.s1,by rw[g 2 ∎];exact S.s2,by rw[g 3 ∎];exact S.s3,by rw[Cu];exact S.ln⟩
section
variable{K:Ag}{Sa:aP}{pd:Ad}{N:Nat}{aft:TK->Nat->Option TK}{Gd:TK->Prop}{tm tr:TE}{rE:R2}{H0 H:Hp}{t:A'}{l:TL}{ns:List Int}{n:Int}{B:A'->Prop}{a b c:A'}{p:Fm}{v0:V}
theorem Mb(A:AfOk Sa pd N aft Gd)(C:FuC H0 t l B a)(hN:N < 2 ^ 60)(htm:∀(σ:St) (H:Hp) (Q:VK),Q (.int 2000) H->tm σ H Q)(hrE:∀(x y:Int) (H:Hp) (Q:VK),Q (.bl (decide (x=y))) H->rE (.int x) (.int y) H Q)
  (r0:RdX H0 B v0 pd) (htr:∀(σ:St)(H:Hp)(Q:VK)(B:A'->Prop),σ[0]?=ae (ae v0)->RdX H B v0 pd->Q (.int ((N+1:Nat):Int)) H->tr σ H Q)
  {σ:St} {v4:V} {s:TK} (I:FuI H0 t l ns n B a b p H) (S:FuS v0 a c b σ) (e4:σ[4]?=ae (ae v4)) (r4:RdX H0 B v4 s.1) (gd:Gd s) (hs:p.2.length<=p.1.length) (hl:(stpM aft N p s).1.length < 2000) {D:Ends}
  (hD:∀σ' H',FuS v0 a c b σ'->FuI H0 t l ns n B a b (stpM aft N p s) H'->D.nx σ' H'):gY (pE (br tr aW)) (dg 5) (vU K Sa tm rE) D σ H:=by
 refine htr σ H _ _ S.s0 (I.up C r0) ⟨_,rfl,by omega,by omega,⟨λi m σ' H'=>m=N+1-i/\i<=N+1/\FuS v0 a c b σ'/\σ'[4]?=ae _/\FuI H0 t l ns n B a b ((A9 i).foldl (stp aft s) p) H',⟨_,rfl,Be _,S,e4,I⟩,?_⟩⟩
 rintro i m σ' H' ⟨rfl,E,j,G,r⟩
 by_cases q:i=N+1
 ·subst q;exact .inl ⟨Bc _,hD σ' H' j r⟩
 ·have d:i < N+1:=by omega
  refine .inr ⟨d,λσ2 k=>FuS v0 a c b σ2/\σ2[4]?=ae _/\FuI H0 t l ns n B a b _ k,λσ2 k z=>⟨_,by omega,rfl,d,z⟩,?_⟩
  rintro x k ⟨rfl,rfl⟩
  rw[Int.zero_add];have g:FuS v0 a c b (σ'.set 5 (ae (.int i))):=j.set ∎;have v:(σ'.set 5 (ae (V.int i)))[4]?=ae (ae v4):=by rw[Bg ∎];omega
  have F:(σ'.set 5 _)[5]?=ae (ae (.int i)):=Dq (by have:=j.ln;omega);have e:=List.range_succ (n:=i);have f:((A9 i).foldl (stp aft s) p).1.length < 2000:=by
   refine D7 ?_ hl;unfold stpM;obtain⟨u,o⟩:∃u,A9 (N+1)=A9 i++u:=⟨_,by
    have:(A9 (N+1)).take i=A9 i:=by rw[List.take_range,Nat.min_eq_left E]
    rw[<-this,List.take_append_drop]⟩
   rw[o,Ge];exact p8 _ (EM aft s) _ _
  refine Qz A C htm hrE r g.s0 g.s1 g.s3 v F g.ln r0 r4 gd (Gh d) f (D7 (nE _ (yh aft s) (A9 i) p hs) (Nat.lt_trans f ∎)) λv6 J L=>⟨g.set ∎,by rw[Bg ∎];exact v,?_⟩;simp_all
theorem RO(A:AfOk Sa pd N aft Gd)(C:FuC H0 t l B a)(hN:N < 2 ^ 60)(htm:∀(σ:St) (H:Hp) (Q:VK),Q (.int 2000) H->tm σ H Q)(hrE:∀(x y:Int) (H:Hp) (Q:VK),Q (.bl (decide (x=y))) H->rE (.int x) (.int y) H Q)
  (r0:RdX H0 B v0 pd) (htr:∀(σ:St)(H:Hp)(Q:VK)(B:A'->Prop),σ[0]?=ae (ae v0)->RdX H B v0 pd->Q (.int ((N+1:Nat):Int)) H->tr σ H Q)
  {σ:St} {xs:List V} {ss:List TK} {m0:List (TK×Ad)} {l0:List (TK×A'×V)} (T:Tp H0 t l ns n) (e0:σ[0]?=ae (ae v0)) (e1:σ[1]?=ae (ae (.ref a))) (e2:σ[2]?=ae (ae (.ref c))) (e6:6 < σ.length)
  (ha:H0 a=ae (.dX l0)) (ra:RdY H0 B l0 m0) (hc:H0 c=ae (.lst xs)) (ct:c≠t) (rc:RdXs H0 B xs (ss.map (·.1))) (gd:∀s∈ss,Gd s) (hl:(cn aft N (m0,[]) ss).1.length < 2000) {D:Ends}
  (hD:∀b H',FuI H0 t l ns n B a b (cn aft N (m0,[]) ss) H'->D.rt (.ref b) H'):mJ K Sa tm rE tr D σ H0:=by
 refine⟨Be _,λb v=>?_⟩;have ca:c≠a:=λz=>by simp_all
 have W:∀q o,H0 q=ae o->¬B q->upd H0 b (.lst []) q=ae o/\¬(B q\/q=b):=λq o e X=>⟨(aH (bu e v))▸e,λz=>z.elim X λw=>by simp_all⟩;have S:FuI H0 t l ns n B a b (m0,[]) (upd H0 b _):=⟨T.new v,KpD.refl.new v,v,⟨[],a9,.nil⟩,l0,(aH (bu ha v))▸ha,ra.move W⟩;have R:FuS v0 a c b (σ.set 3 (ae (.ref b))):=by
  have g:∀i,i≠3->(σ.set 3 (ae (V.ref b)))[i]?=σ[i]?:=λi h=>Bg λz=>h z.symm;exact⟨by rw[g 0 ∎];exact e0,by rw[g 1 ∎];exact e1,by rw[g 2 ∎];exact e2,Dq ⋯,by rw[Cu];omega⟩
 have j:∀{p:Fm}{H:Hp},FuI H0 t l ns n B a b p H->SqL K H c xs:=λI=>SqL.of (I.kp c _ hc ct ca);refine⟨_,R.s2,c,rfl,⟨xs,j S⟩,λi m O H'=>m=ss.length-i/\i<=ss.length/\FuS v0 a c b O/\FuI H0 t l ns n B a b ((ss.take i).foldl (stpM aft N) _) H',⟨_,rfl,Be _,R,S⟩,?_⟩;have M:xs.length=ss.length:=by rw[rc.len,Ab]
 rintro i m O H' ⟨rfl,hi,G,r⟩
 by_cases q:i=ss.length
 ·subst q;rw[List.take_length]at r;exact .inl ⟨⟨xs,j r,by omega⟩,_,G.s3,hD b H' r⟩
 ·have k:i < ss.length:=by omega
  obtain⟨x,J⟩:∃x,xs[i]?=ae x:=⟨xs[i],Ah _⟩;obtain⟨d,P,Y⟩:=rc.get J;rw[Am,(Ah k)]at P;cases P;have e:ss.take (i+1)=ss.take i++[ss[i]]:=by simp
  refine .inr ⟨⟨xs,x,j r,J⟩,λσ2 E=>FuS v0 a c b σ2/\FuI H0 t l ns n B a b _ E,λσ2 E z=>⟨_,by omega,rfl,k,z⟩,?_⟩
  rintro y E ⟨rfl,F⟩
  have F:=F xs (j r);rw[J]at F;cases F;have U:(ss.take (i+1)).foldl (stpM aft N) (m0,[])=stpM aft N ((ss.take i).foldl (stpM aft N) (m0,[])) ss[i]:=e▸Ge▸rfl;refine Mb A C hN htm hrE r0 htr r (G.set ∎) (Dq (by have:=G.ln;omega)) Y (by simp_all) (nE _ (CP aft N) (ss.take i) (m0,[]) (by simp)) ?_ λσ2 E Z I2=>⟨Z,by simp_all⟩;refine D7 ?_ hl;rw[<-U];show _<=(ss.foldl _ (m0,[])).1.length
  conv=>rhs;rw[<-List.take_append_drop (i+1) ss,Ge]
  exact p8 _ (M3 aft N) _ _
end
theorem kg(m:List (TK×Ad))(k:TK):((aY m k).isSome=ah)↔k∈m.map (·.1):=by
 unfold aY;simp
section
variable(aft:TK->Nat->Option TK)(N:Nat)
def q1(s:TK)(ks:List TK)(m:Nat):List TK:=match aft s m with
 |none=>ks
 |some b=>if b∈ks then ks else ks++[b]
def qs(ks:List TK)(s:TK):List TK:=(A9 (N+1)).foldl (q1 aft s) ks
def Lr(s0:TK):Nat->List TK
 |0=>[s0]
 |j+1=>match (Lr s0 j)[j]? with
  |some s=>qs aft N (Lr s0 j) s
  |none=>Lr s0 j
end
section
variable{aft:TK->Nat->Option TK}{N:Nat}
theorem lI{α β:Type}(f:List α->β->List α)(h:∀l x,l <+: f l x):∀(xs:List β)(l:List α),l <+: xs.foldl f l
 |[],_=>Ez _
 |x::xs,l=>(h l x).trans (lI f h xs _)
theorem z5(s:TK)(ks:List TK)(m:Nat):ks <+: q1 aft s ks m:=by
 unfold q1
 split
 ·exact Ez _
 ·split
  ·exact Ez _
  ·exact List.prefix_append _ _
theorem Ov(ks:List TK)(s:TK):ks <+: qs aft N ks s:=lI _ (z5 s) _ _
theorem MW{s b:TK}{ks:List TK}{m:Nat}(h:aft s m=ae b):b∈q1 aft s ks m:=by
 unfold q1;simp_all
 split
 ·assumption
 ·simp
theorem RC{s b:TK}{ks:List TK}{m:Nat}(hm:m<=N)(h:aft s m=ae b):b∈qs aft N ks s:=by
 obtain⟨c,a,e⟩:=List.append_of_mem (Ci.mpr (Nat.lt_succ_of_le hm));unfold qs;rw[e,Ge];exact(lI _ (z5 s) a _).subset (MW h)
theorem Jq(s0:TK)(j:Nat):Lr aft N s0 j <+: Lr aft N s0 (j+1):=by
 show _ <+: (match _[j]? with|some s=>qs aft N _ s|none=>Lr aft N s0 j)
 split
 ·exact Ov _ _
 ·exact Ez _
theorem lN(s0:TK)(i k:Nat):Lr aft N s0 i <+: Lr aft N s0 (i+k):=by
 induction k with
 |zero=>exact Ez _
 |succ k a=>exact a.trans (Jq s0 _)
theorem mT{α:Type}{l l':List α}(h:l <+: l'){i:Nat}(hi:i < l.length):l'[i]?=l[i]?:=by
 obtain⟨t,rfl⟩:=h;rw[Fv hi]
theorem CC(s0:TK)(c:Nat):∀k,c+k<=(Lr aft N s0 c).length->Lr aft N s0 (c+k)=(((Lr aft N s0 c).drop c).take k).foldl (qs aft N) (Lr aft N s0 c)
 |0,_=>by simp
 |k+1,h=>by
  have b:=CC s0 c k ⋯;have a:c+k < (Lr aft N s0 c).length:=by omega
  have e:(Lr aft N s0 (c+k))[c+k]?=ae (Lr aft N s0 c)[c+k]:=by rw[mT (lN s0 c k) a];simp
  have d:((Lr aft N s0 c).drop c).take (k+1)=((Lr aft N s0 c).drop c).take k++[(Lr aft N s0 c)[c+k]]:=List.take_succ▸(List.getElem?_drop)▸(Ah a)▸rfl;show(match _[c+k]? with|some s=>qs aft N _ s|none=>Lr aft N s0 _)=_;simp_all
theorem Tb{s:TK}{p:Fm}{m:Nat}{base:List TK}(h:p.1.map (·.1)=base++p.2):(stp aft s p m).1.map (·.1)=base++(stp aft s p m).2/\(stp aft s p m).1.map (·.1)=q1 aft s (p.1.map (·.1)) m:=by
 unfold stp q1;cases e:aft s m with
 |none=>exact⟨h,rfl⟩
 |some b=>
  dsimp only;by_cases z:(aY p.1 b).isSome=ah
  ·rw[b_ z,b_ ((kg _ _).mp z)];exact⟨h,rfl⟩
  ·rw[a_ z,a_ λy=>z ((kg _ _).mpr y)];refine⟨?_,by simp⟩;simp_all
theorem rJ{α:Type}(f:Fm->α->Fm)(g:List TK->α->List TK){base:List TK}(hf:∀p x,p.1.map (·.1)=base++p.2->(f p x).1.map (·.1)=base++(f p x).2/\(f p x).1.map (·.1)=g (p.1.map (·.1)) x):
  ∀(xs:List α)(p:Fm),p.1.map (·.1)=base++p.2->(xs.foldl f p).1.map (·.1)=base++(xs.foldl f p).2/\(xs.foldl f p).1.map (·.1)=xs.foldl g (p.1.map (·.1))
 |[],p,h=>⟨h,rfl⟩
 |x::xs,p,h=>by
  obtain⟨b,a⟩:=hf p x h;have:=rJ f g hf xs _ b;rw[a]at this;exact this
theorem MU{m:List (TK×Ad)}(ss:List TK):(cn aft N (m,[]) ss).1.map (·.1)=m.map (·.1)++(cn aft N (m,[]) ss).2/\(cn aft N (m,[]) ss).1.map (·.1)=ss.foldl (qs aft N) (m.map (·.1)):=
 rJ _ _ (λp s h=>rJ _ _ (λ_ _=>Tb) (A9 _) p h) ss _ (by simp)
structure Lev(aft:TK->Nat->Option TK)(N:Nat)(s0:TK)(c:Nat)(m:List (TK×Ad))(ss:List TK):Prop where
 ks:m.map (·.1)=Lr aft N s0 c
 rs:ss=(Lr aft N s0 c).drop c
 le:c<=(Lr aft N s0 c).length
theorem Lev.next{s0:TK}{c:Nat}{m:List (TK×Ad)}{ss:List TK}(L:Lev aft N s0 c m ss):Lev aft N s0 (Lr aft N s0 c).length (cn aft N (m,[]) ss).1 (cn aft N (m,[]) ss).2:=by
 obtain⟨d,e⟩:=MU ss;have f:c+((Lr aft N s0 c).length-c)=(Lr aft N s0 c).length:=by have:=L.le;omega
 have b:=CC (aft:=aft) (N:=N) s0 c ((Lr aft N s0 c).length-c) ⋯;rw[f,List.take_of_length_le (by simp),<-L.rs,<-L.ks]at b;have a:(cn aft N (m,[]) ss).1.map (·.1)=Lr aft N s0 (m.map (·.1)).length:=by rw[e,<-b]
 rw[L.ks]at a;refine⟨a,?_,?_⟩
 ·rw[<-a,d,L.ks,List.drop_left'];rfl
 ·rw[<-a,d,L.ks,As];omega
theorem Lev.first(s0:TK)(d:Ad):Lev aft N s0 0 [(s0,d)] [s0]:=⟨rfl,rfl,Be _⟩
theorem qA{s0:TK}{J:Nat}(h:(Lr aft N s0 J).length<=J):∀k,Lr aft N s0 (J+k)=Lr aft N s0 J
 |0=>rfl
 |k+1=>by
  show(match (Lr aft N s0 (J+k))[J+k]? with|some s=>qs aft N _ s|none=>Lr aft N s0 (J+k))=_;rw[qA h k,Ce ⋯]
theorem Qs{s0:TK}{J:Nat}(h:(Lr aft N s0 J).length<=J)(c:Nat):(Lr aft N s0 c).length<=(Lr aft N s0 J).length:=by
 by_cases z:c<=J
 ·have:=(lN (aft:=aft) (N:=N) s0 c (J-c)).length_le;rwa [show c+(J-c)=J by omega]at this
 ·have:=qA h (c-J);rw[show J+(c-J)=c by omega]at this;rw[this];simp
theorem K5{s0:TK}{J:Nat}(h:(Lr aft N s0 J).length<=J){s b:TK}{m:Nat}(hs:s∈Lr aft N s0 J)(hm:m<=N)(e:aft s m=ae b):b∈Lr aft N s0 J:=by
 obtain⟨i,d,rfl⟩:=G1 hs;simp_all;have a:=lN (aft:=aft) (N:=N) s0 (i+1) (J-(i+1));rw[show i+1+(J-_)=J by omega]at a;have f:=lN (aft:=aft) (N:=N) s0 i (J-i);rw[show i+(J-i)=J by omega]at f;refine a.subset ?_;show b∈(match _[i]? with|some s=>qs aft N _ s|none=>Lr aft N s0 i);by_cases g:i < (Lr aft N s0 i).length
 ·have:(Lr aft N s0 i)[i]?=ae (Lr aft N s0 J)[i]:=by rw[<-mT f g];exact Ah d
  rw[this];exact RC hm e
 ·have c:=qA (aft:=aft) (N:=N) (s0:=s0) (J:=i) ⋯ (J-i);rw[show i+(J-i)=J by omega]at c;rw[c]at d;trivial
end
section
variable{aft:TK->Nat->Option TK}{N:Nat}{s0:TK}
inductive ParI(aft:TK->Nat->Option TK)(N:Nat)(s0:TK):List (TK×Ad)->Prop
 |one:ParI aft N s0 [(s0,.none)]
 |snoc {m:List (TK×Ad)} {s b:TK} {mv:Nat}:ParI aft N s0 m->s∈m.map (·.1)->mv<=N->aft s mv=ae b->b∉m.map (·.1)->ParI aft N s0 (m++[(b,.tuple [s.1,.int (mv:Nat)])])
inductive Way(m:List (TK×Ad)):TK->List Nat->Prop
 |root {k:TK}:aY m k=ae .none->Way m k []
 |step {k s:TK} {mv:Nat} {ms:List Nat}:aY m k=ae (.tuple [s.1,.int (mv:Nat)])->Way m s ms->Way m k (mv::ms)
theorem yT{m x:List (TK×Ad)}{k:TK}{d:Ad}(h:aY m k=ae d):aY (m++x) k=ae d:=by
 unfold aY at h ⊢;rw[List.find?_append];cases e:m.find? λq=>decide (q.1=k)with
 |none=>rw[e]at h;cases h
 |some q=>rw[e]at h;exact h
theorem HK{m:List (TK×Ad)}{k:TK}{d:Ad}(h:k∉m.map (·.1)):aY (m++[(k,d)]) k=ae d:=by
 have e:aY m k=af:=by
  cases z:aY m k with
  |none=>rfl
  |some d=>exact g_ ((kg m k).mp (by simp_all)) h
 unfold aY at e ⊢;rw[List.find?_append];cases z:m.find? λq=>decide (q.1=k)with
 |none=>simp
 |some q=>rw[z]at e;cases e
theorem Way.app{m x:List (TK×Ad)}{k:TK}{ms:List Nat}(h:Way m k ms):Way (m++x) k ms:=by
 induction h with
 |root e=>exact .root (yT e)
 |step e _ c=>exact .step (yT e) c
theorem ParI.stp{s:TK}{p:Fm}{mv:Nat}(h:ParI aft N s0 p.1)(hs:s∈p.1.map (·.1))(hm:mv<=N):ParI aft N s0 (stp aft s p mv).1:=by
 unfold Nb.stp;cases e:aft s mv with
 |none=>exact h
 |some b=>
  dsimp only;by_cases z:(aY p.1 b).isSome=ah
  ·rw[b_ z];exact h
  ·rw[a_ z];exact .snoc h hs hm e λy=>z ((kg _ _).mpr y)
theorem CB{s b:TK}{p:Fm}{mv:Nat}(h:b∈p.1.map (·.1)):b∈(stp aft s p mv).1.map (·.1):=by
 unfold Nb.stp
 split
 ·exact h
 ·split
  ·exact h
  ·rw[Bb];exact C4 _ h
theorem ParI.stpM{s:TK}:∀(ms:List Nat)(p:Fm),ParI aft N s0 p.1->s∈p.1.map (·.1)->(∀m∈ms,m<=N)->ParI aft N s0 (ms.foldl (Nb.stp aft s) p).1/\∀b∈p.1.map (·.1),b∈(ms.foldl (Nb.stp aft s) p).1.map (·.1)
 |[],_,h,_,_=>⟨h,λ_ z=>z⟩
 |m::ms,p,h,c,a=>by
  obtain⟨g,d⟩:=ParI.stpM ms _ (h.stp c (a m An)) (CB c) λx e=>a x (Ak _ e);exact⟨g,λb f=>d b (CB f)⟩
theorem ParI.fur:∀(ss:List TK)(p:Fm),ParI aft N s0 p.1->(∀s∈ss,s∈p.1.map (·.1))->ParI aft N s0 (cn aft N p ss).1
 |[],_,h,_=>h
 |s::ss,p,h,b=>by
  obtain⟨d,c⟩:=ParI.stpM _ p h (b s An) λx a=>Gh (Ci.mp a);exact ParI.fur ss _ d λx a=>c x (b x (Ak _ a))
end
section
variable(aft:TK->Nat->Option TK)(N:Nat)
def dS(s:TK×Nat)(E:List (TK×Nat))(m:Nat):List (TK×Nat):=match aft s.1 m with
 |none=>E
 |some b=>if b∈E.map (·.1)then E else E++[(b,s.2+1)]
def dM(E:List (TK×Nat))(s:TK×Nat):List (TK×Nat):=(A9 (N+1)).foldl (dS aft s) E
def El(s0:TK):Nat->List (TK×Nat)
 |0=>[(s0,0)]
 |j+1=>match (El s0 j)[j]? with
  |some s=>dM aft N (El s0 j) s
  |none=>El s0 j
def pS(s:TK)(m:List (TK×Ad))(i:Nat):List (TK×Ad):=match aft s i with
 |none=>m
 |some b=>if b∈m.map (·.1)then m else m++[(b,.tuple [s.1,.int (i:Nat)])]
def pM(m:List (TK×Ad))(s:TK):List (TK×Ad):=(A9 (N+1)).foldl (pS aft s) m
end
section
variable{aft:TK->Nat->Option TK}{N:Nat}{s0:TK}
theorem NH(s:TK)(p:Fm)(i:Nat):(stp aft s p i).1=pS aft s p.1 i:=by
 unfold stp pS;cases aft s i with
 |none=>rfl
 |some b=>
  dsimp only;by_cases z:(aY p.1 b).isSome=ah
  ·rw[b_ z,b_ ((kg _ _).mp z)]
  ·rw[a_ z,a_ λy=>z ((kg _ _).mpr y)]
theorem v9{α:Type}(f:Fm->α->Fm)(g:List (TK×Ad)->α->List (TK×Ad))(h:∀p x,(f p x).1=g p.1 x):∀(xs:List α)(p:Fm),(xs.foldl f p).1=xs.foldl g p.1
 |[],_=>rfl
 |x::xs,p=>by rw[Eo,Eo,v9 f g h xs,h]
theorem MO(m:List (TK×Ad))(ss:List TK):(cn aft N (m,[]) ss).1=ss.foldl (pM aft N) m:=v9 _ _ (λp s=>v9 _ _ (NH s) _ p) ss _
structure Syn(m:List (TK×Ad))(E:List (TK×Nat)):Prop where
 ks:m.map (·.1)=E.map (·.1)
 wy:∀e∈E,∃ms,Way m e.1 ms/\ms.length=e.2
theorem Syn.one:Syn [(s0,.none)] [(s0,0)]:=⟨rfl,λe a=>by obtain rfl:e=(s0,0):=(by simp_all);exact⟨[],.root (by simp[aY]),rfl⟩⟩
theorem Syn.st{m:List (TK×Ad)}{E:List (TK×Nat)}{s:TK×Nat}(h:Syn m E)(hs:s∈E)(i:Nat):Syn (pS aft s.1 m i) (dS aft s E i)/\s∈dS aft s E i:=by
 unfold pS dS;cases aft s.1 i with
 |none=>exact⟨h,hs⟩
 |some b=>
  dsimp only;rw[h.ks];by_cases z:b∈E.map (·.1)
  ·rw[b_ z,b_ z];trivial
  ·rw[a_ z,a_ z];refine⟨⟨by rw[Bb,Bb,h.ks];rfl,λe a=>?_⟩,C4 _ hs⟩;rcases A4.mp a with a|a
   ·obtain⟨c,w,l⟩:=h.wy e a;exact⟨c,w.app,l⟩
   ·obtain rfl:=by simpa using a
    obtain⟨c,w,l⟩:=h.wy s hs;exact⟨_,.step (HK (h.ks▸z)) w.app,by rw[Ax,l]⟩
theorem Syn.sM{s:TK×Nat}:∀(is:List Nat)(m:List (TK×Ad))(E:List (TK×Nat)),Syn m E->s∈E->Syn (is.foldl (pS aft s.1) m) (is.foldl (dS aft s) E)
 |[],_,_,h,_=>h
 |i::is,m,E,h,a=>let⟨c,b⟩:=h.st a i;Syn.sM is _ _ c b
theorem GC(s:TK×Nat)(E:List (TK×Nat))(i:Nat):(dS aft s E i).map (·.1)=q1 aft s.1 (E.map (·.1)) i:=by
 unfold dS q1;cases aft s.1 i with
 |none=>rfl
 |some b=>
  dsimp only;by_cases z:b∈E.map (·.1)
  ·rw[b_ z,b_ z]
  ·rw[a_ z,a_ z,Bb];rfl
theorem OS(s:TK×Nat)(E:List (TK×Nat)):(dM aft N E s).map (·.1)=qs aft N (E.map (·.1)) s.1:=by
 unfold dM qs;generalize A9 _=l
 induction l generalizing E with
 |nil=>rfl
 |cons i l b=>rw[Eo,Eo,b,GC]
theorem jA:∀j,(El aft N s0 j).map (·.1)=Lr aft N s0 j
 |0=>rfl
 |j+1=>by
  show List.map _ (match _[j]? with|some s=>dM aft N _ s|none=>El aft N s0 j)=(match _[j]? with|some s=>qs aft N _ s|none=>Lr aft N s0 j);rw[<-(jA j),Am];cases(El aft N s0 j)[j]? with
  |none=>rfl
  |some s=>exact OS s _
structure Grow(E:List (TK×Nat))(n:Nat):Prop where
 so:(E.map (·.2)).Pairwise (·<=·)
 le:∀e∈E,e.2<=n+1
theorem Grow.st{s:TK×Nat}{E:List (TK×Nat)}(h:Grow E s.2)(i:Nat):Grow (dS aft s E i) s.2:=by
 unfold dS;cases aft s.1 i with
 |none=>exact h
 |some b=>
  simp
  split
  ·exact h
  ·refine⟨?_,λe a=>?_⟩
   ·rw[Bb,List.pairwise_append];refine⟨h.so,Ea _ _,λx c y d=>?_⟩;obtain rfl:=by simpa using d
    obtain⟨e,a,rfl⟩:=A7.mp c;exact h.le e a
   ·rcases A4.mp a with a|a
    ·exact h.le e a
    ·obtain rfl:=by simpa using a
     simp
theorem Grow.sM{s:TK×Nat}:∀(is:List Nat)(E:List (TK×Nat)),Grow E s.2->Grow (is.foldl (dS aft s) E) s.2
 |[],_,h=>h
 |i::is,E,h=>Grow.sM is _ (h.st i)
theorem mf(s:TK×Nat)(E:List (TK×Nat))(i:Nat):E <+: dS aft s E i:=by
 unfold dS
 split
 ·exact Ez _
 ·split
  ·exact Ez _
  ·exact List.prefix_append _ _
theorem xq(E:List (TK×Nat))(s:TK×Nat):E <+: dM aft N E s:=lI _ (mf s) _ _
theorem zG:∀j,(((El aft N s0 j).map (·.2)).Pairwise (·<=·))/\∀s,(El aft N s0 j)[j]?=ae s->∀e∈El aft N s0 j,e.2<=s.2+1
 |0=>⟨Ea _ _,λs d e m=>by obtain rfl:=(by simpa[El]using m);simp⟩
 |j+1=>by
  obtain⟨f,o⟩:=zG j;have e:El aft N s0 (j+1)=(match _[j]? with|some s=>dM aft N _ s|none=>El aft N s0 j):=rfl;cases z:(El aft N s0 j)[j]? with
  |none=>
   rw[z]at e;dsimp only at e;rw[e];refine⟨f,λs d=>?_⟩;rw[Ce (by have:=List.getElem?_eq_none_iff.mp z;omega)]at d;cases d
  |some s=>
   rw[z]at e;have g:Grow (dM aft N _ s) s.2:=Grow.sM _ _ ⟨f,o s z⟩;rw[e];refine⟨g.so,λs' b x l=>?_⟩;have n:(dM aft N (El aft N s0 j) s)[j]?=ae s:=by
    rw[mT (xq _ s) (Ap.mp z).1];exact z
   have c:s.2<=s'.2:=by
    obtain⟨r,k⟩:=Ap.mp n;obtain⟨q,i⟩:=Ap.mp b;have:=(Hh.mp g.so) j _ (by rw[Ab];omega) (by rw[Ab];omega) (Nat.lt_succ_self j);rw[List.getElem_map,List.getElem_map,k,i]at this;omega
   exact A0 (g.le x l) (Nat.succ_le_succ c)
theorem Syn.level{c:Nat}{m:List (TK×Ad)}(h:Syn m (El aft N s0 c)):∀k,c+k<=(El aft N s0 c).length->Syn ((((Lr aft N s0 c).drop c).take k).foldl (pM aft N) m) (El aft N s0 (c+k))
 |0,_=>by simpa using h
 |k+1,j=>by
  have f:=Syn.level h k ⋯;have e:(Lr aft N s0 c).length=(El aft N s0 c).length:=by rw[<-jA,Ab]
  have a:c+k < (Lr aft N s0 c).length:=by omega
  have i:((Lr aft N s0 c).drop c).take (k+1)=((Lr aft N s0 c).drop c).take k++[(Lr aft N s0 c)[c+k]]:=List.take_succ▸(List.getElem?_drop)▸(Ah a)▸rfl;have d:(Lr aft N s0 (c+k))[c+k]?=ae (Lr aft N s0 c)[c+k]:=by rw[mT (lN s0 c k) a];simp
  rw[i,Ge];rw[<-jA,Am]at d;obtain⟨s,b,g⟩:=E6.mp d;show Syn _ (match (El aft N s0 (c+k))[c+k]? with|some s=>dM aft N _ s|none=>El aft N s0 _);rw[b,<-g];exact Syn.sM _ _ _ f (Az b)
theorem Syn.next{c:Nat}{m:List (TK×Ad)}{ss:List TK}(h:Syn m (El aft N s0 c))(L:Lev aft N s0 c m ss):Syn (cn aft N (m,[]) ss).1 (El aft N s0 (Lr aft N s0 c).length):=by
 have a:(Lr aft N s0 c).length=(El aft N s0 c).length:=by rw[<-jA,Ab]
 have b:c+((Lr aft N s0 c).length-c)=(Lr aft N s0 c).length:=by have:=L.le;omega
 have:=h.level ((Lr aft N s0 c).length-c) ⋯;rw[b,List.take_of_length_le (by simp),<-L.rs,<-MO]at this;omega
end
end Nb
namespace DL
open PySem L2 Nb
theorem Rel.fur{C:Ctx}{H H':Hp}{B:A'->Prop}{σ:St}{δ:Sl}{n:Int}{i j:Nat}{m:List (TK×Ad)}{a b:A'}{p:Fm}(R:Rel C H B σ δ n)(hi:δ[i]?=ae (ae (.odx m)))(hij:i≠j)(hσ:σ[i]?=ae (ae (.ref a)))
  (I:FuI H C.t C.l C.ns n B a b p H') (hl:p.1.length<=1000) (hl2:p.2.length<=Av):Rel C H' (λc=>B c\/c=b) (σ.set j (ae (.ref b))) ((δ.set j (ae (.own (p.2.map (·.1))))).set i (ae (.odx p.1))) n:=by
 obtain⟨v,w,T,N,rfl,y,k,h,S,O⟩:=R.sl i _ hi;rw[hσ]at w;cases w;have r:a≠C.t:=λz=>R.t0 (z▸h);obtain⟨x,P,A⟩:=I.fr;obtain⟨s,E,M⟩:=I.st;have q:=bu y I.nb
 let f:=upd H' a (.dX N)
 have D:Kp C.t H f:=λc o e K=>by
  by_cases z:c=a
  ·subst z;rw[y]at e;cases e;exact a9
  ·show upd H' a _ c=ae o;rw[aH z];exact I.kp c o e K z
 have J:Tp f C.t C.l C.ns n:=I.tp.other r.symm (λz=>R.l0 (z▸h)) (λe z=>R.g0 e (z▸h));have G:∀c o,H' c=ae o->¬(B c\/c=b)->f c=ae o/\¬(B c\/c=b):=λc o e u=>⟨by show upd H' a _ c=ae o;rw[aH λ(z:c=a)=>u (.inl (z▸k))];exact e,u⟩;have g:f b=ae (.lst x):=by show upd H' a _ b=_;rw[aH q.symm];omega
 have L:Rel C f _ _ (δ.set j (ae (.own _))) n:=
  R.own (R.step J D) D I.nb (by rw[g];simp) rfl ⟨b,x,rfl,g,.inr rfl,R.h0 I.nb,by rw[A.len,Ab];exact hl2,A.move G⟩
 have F:upd f a (.dX s)=H':=by
  rw[uo]
  funext c
  by_cases z:c=a
  ·subst z;rw[a9,E]
  ·rw[aH z]
 have:=L.mutOwn (x':=.odx p.1) (by rw[Bg hij.symm];omega) rfl (by rw[Bg hij.symm];omega) (.inl k) h
  (by rw[F];exact⟨a,s,rfl,E,.inl k,h,by rw[M.len];trivial⟩) rfl
 simp_all
def qy(Sa:aP):Sp:=λvs H Q _=>∃(t:A')(l:TL)(ns:List Int)(n:Int)(B:A'->Prop)(v0:V)(a c:A')(pd:Ad)(N:Nat)(aft:TK->Nat->Option TK)(Gd:TK->Prop)(xs:List V)(ss:List TK)(m0:List (TK×Ad))(l0:List (TK×A'×V)),
 vs=[v0,.ref a,.ref c]/\AfOk Sa pd N aft Gd/\FuC H t l B a/\N < 2 ^ 60/\RdX H B v0 pd/\Tp H t l ns n/\H a=ae (.dX l0)/\RdY H B l0 m0/\H c=ae (.lst xs)/\c≠t/\RdXs H B xs (ss.map (·.1))/\(∀s∈ss,Gd s)/\(cn aft N (m0,[]) ss).1.length < 2000 /\
 ∀b H',FuI H t l ns n B a b (cn aft N (m0,[]) ss) H'->Q (.ref b) H'
structure HasM(P:A1)(w:Bh)(K:Ag)(mg:Str->Option Af)(base:Heap)(k:Nat)(x:Str)(ps:List Str)(Sa:aP):Prop where
 ex:∃(f:A')(fd:Cc),FnOk P w K mg base bW k f fd ps (qy Sa)/\Binds K fd ps []/\mg x=ae (.ref f)/\Ct K (.ref f)=ah
def iR(Sa:aP)(h i j:Nat):aE:=λδ n E=>∃(pd:Ad)(N:Nat)(aft:TK->Nat->Option TK)(Gd:TK->Prop)(m:List (TK×Ad))(ss:List TK),AfOk Sa pd N aft Gd/\N < 2 ^ 60/\δ[h]?=ae (↑pd)/\δ[i]?=ae (ae (.odx m))/\δ[j]?=ae (ae (.own (ss.map (·.1))))/\(∀s∈ss,Gd s)/\(cn aft N (m,[]) ss).1.length<=1000 /\
 E.nx ((δ.set j (ae (.own ((cn aft N (m,[]) ss).2.map (·.1))))).set i (ae (.odx (cn aft N (m,[]) ss).1))) n
section
variable{X:Cx}{pos p0 p1 p2 p3 p4 cp:Pos}
theorem S0{x0 x1 x2 f:Str}{h i j k:Nat}{ps:List Str}{Sa:aP}(F:HasM X.prog X.w X.K X.mg X.base k f ps Sa)(hr:Room k X.A)(hg:Gl X f)(hN:X.N.Nodup)(h2:X.N[j]?=ae x2)(hx:fA X.env.scope x2)(hij:i≠j)
  {wR:cK} (ha:DA X [.Name x0 p1,.Name x1 p2,.Name x2 p3] (br (aI h) (br (aI i) (br (aI j) aW))) wR)
  (hs:Cy (.Call (.Name f p0) [.Name x0 p1,.Name x1 p2,.Name x2 p3] [] cp) (ae (.Name x2 p4)) pos.line X.env=pure ai) (hf:X.fn x2=ah\/X.env.scope.names.lookup x2=ae .local)
  (hdb:(f==("__debug__":Str))=ai)
  (he:Aq (.Name x0 p1::[.Name x1 p2,.Name x2 p3]) X.env=(ai,eval (.Name x0 p1) X.env)::Aq [.Name x1 p2,.Name x2 p3] X.env) (q_:(C0 cp (Aq [.Name x1 p2,.Name x2 p3] X.env)).any (·.1)=ai):
  DS X (.Assign [.Name x2 p4] (.Call (.Name f p0) [.Name x0 p1,.Name x1 p2,.Name x2 p3] [] cp) pos) (bw (ee (qy Sa) [] E0 (br (aI h) (br (aI i) (br (aI j) aW)))) (dg j)) (iR Sa h i j):=by
 obtain⟨g,fd,Z,J,P,f4⟩:=F.ex;refine⟨fN hN h2 hx (jH Z hr hg P f4 J .nil jD ha.pa hdb he q_) hs hf,λC H B σ δ n E D R q G=>?_⟩;obtain⟨M,N,d,p,m,u,A,o,L,v,Q,S,r,q⟩:=q;obtain⟨y,V,U⟩:=R.sl h _ L;obtain⟨_,x,a,l0,rfl,a2,O,T,a5,a6⟩:=R.sl i _ v;obtain⟨_,Y,c,s,rfl,W,c3,c4,c5,c6⟩:=R.sl j _ Q;refine⟨y,V,_,x,_,Y,⟨C.t,C.l,_,n,B,y,a,c,M,N,d,p,s,u,m,l0,rfl,A,⟨R.bt,O,R.ba,λz=>R.t0 (z▸T),?_,?_⟩,o,U.1,R.tp,a2,a6,W,λz=>R.t0 (z▸c4),c6,S,by omega,λb H' I=>?_⟩⟩
 ·rw[R.tp.ls];simp
 ·exact λe=>by rw[R.tp.ag e];simp
 ·exact G.nx _ _ _ _ _ (Rel.fur R v hij x I r (A0 (A0 (nE _ (CP d N) u (m,[]) (by simp)) r) ∎)) q
end
section
variable{P:A1}{w:Bh}{K:Ag}{mg:Str->Option Af}{base:Heap}
def ki(X:Cx)(b:List Stmt)(Sa:aP):Prop:=∃(tm tr:TE)(rE:R2),PSs X b (mJ X.K Sa tm rE tr)/\(∀(σ:St)(H:Hp)(Q:VK),Q (.int 2000) H->tm σ H Q)/\(∀(x y:Int)(H:Hp)(Q:VK),Q (.bl (decide (x=y))) H->rE (.int x) (.int y) H Q) /\
 ∀(σ:St)(H:Hp)(Q:VK)(B:A'->Prop)(v0:V)(ps:List Ad),σ[0]?=ae (ae v0)->RdX H B v0 (.tuple ps)->Q (.int ((ps.length+1:Nat):Int)) H->tr σ H Q
theorem Fun.okM{x qual:Str}{st:Stmt}{f:A'}{fd:Cc}{N ps:List Str}{k:Nat}{Sa:aP}(F:Fun K x qual st f fd)(Sc:FnScope N ps (bJ st))(hps:ps.length=3)(hNl:6 < N.length)
  (hbody:∀(n_:Af)(A:Bo)(outer:List Env)(s:Ai)(H:Hp)(E:XK),Room k (A.deeper (C3 qual (bJ st) s.heap.objs.size f n_))->
   ki (b8 bW P w K mg base N qual (bJ st) f n_ A outer s H E).nox (ec st) Sa):FnOk P w K mg base bW (k+1) f fd ps (qy Sa):=by
 refine F.ok Sc (λvs H Q E h=>?_) (λn_ A outer s H vs Q E V h=>?_)
 ·obtain⟨t,l,L,n,B,p,a,c,I,y,u,Z,S,G,R,q,rfl,_⟩:=h;exact hps.symm
 ·obtain⟨t,l,L,n,B,p,a,c,I,y,u,Z,S,G,R,q,rfl,v,C,m,O,T,e,D,W,X,Y,J,z,U⟩:=h;obtain⟨tm,r,rE,d,i,o,g⟩:=hbody n_ A outer s H E V;obtain⟨M,j,b⟩:=v.prog;subst j b;exact⟨_,d,RO v C m i o O (λσ H Q B=>g σ H Q B p M) T rfl rfl rfl (by show 6 < ([ae p,ae _,ae _]++Dh _ af).length;simp;omega) e D W X Y J z U⟩
end
end DL
namespace L2
open PySem PySem.Spec PyProof.Rows
theorem P7{X:Cx}{i_:List (A'×Obj)}{σ:St}{H:Hp}{s:Ai}{a b:A'}{v:V}{r:Af}{ps:List XP}{k:TK}{A:Bo}{E:Af->Ai->Prop}{Q:Unit->Ai->Prop}(hu:A.units+64 < Dd)(I:Inv X i_ σ H s)(e:H a=ae (.dX ps))(hk:gB X.K H ps)(eb:RdD X.K H (.ref b) k.1)(l:ps.length < Av)(rv:RelV v r)(h:∀s',Inv X i_ σ (upd H a (.dX (cV ps k b v))) s'->Q () s'):
  A2 (A5 X.prog X.w) A (dictSet a (.ref b) r) Q E s:=by
 obtain⟨z,t,x,c,g⟩:=nN I (.inl e) hk;have B:x.length<=Av:=(D3 c)▸z;have m:(cV ps k b v).length<=Av:=by have:=vn ps k b v;omega
 refine wpAny_dictSet_heap (show A.units+16 < Dd by omega) (mU I eb) g λh' d y=>h _ ?_;obtain⟨q,p,u,f,i,n,o,_,j⟩:=d;exact lP I (by rw[e];trivial) y ⟨q,f⟩ ⟨m,t,_,c.put k rv,q,p,u,f,i,n,o,j⟩
def mr(K:Ag)(tk tv:TE):TE:=λσ H Q=>∀p,H p=af->tk σ (upd H p (.dX [])) λy H1=>tv σ H1 λv H2=>∃H3,mW K H2 p y v H3/\Q (.ref p) H3
theorem Jr{X:Cx}{k v:Expr}{tk tv:TE}{pos:Pos}(hu:X.A.units+64 < Dd)(hk:PE X k tk)(hv:PE X v tv):PE X (.Dict [ae k] [v] pos) (mr X.K tk tv):=by
 intro a s σ H Q I h;refine wpAny_Dict_any rfl rfl (by simp) (by simp) ?_;have M:Inv X a σ (upd H s.heap.objs.size (.dX [])) {s with heap:=s.heap.push {cls:=.type "dict",data:=.dict #[]}}:=by
  refine I.laid (λ_ _=>Ae _) (by simp) ?_;obtain⟨z,y,Z,r,o,D,G,F,i,n,p,S⟩:=yj (P:=X.prog) (w:=X.w) (H:=upd H s.heap.objs.size (.dT [])) s.heap I.big;cases r;exact⟨Be _,y,[],.nil,o,D,G,F,i,n,p,List.nodup_nil⟩
 refine Aa (aL (hk a _ σ _ _ M (h _ (I.hok.fresh (by simp)))) λkv R ⟨y,E,m,L,C⟩=>Aa (Cb (Aa (aL (hv a R σ E _ m C) λvv Y ⟨u,W,J,N,U,g,t⟩=>Aa (wpAny_standAt (Aj ?_))))));refine Aa (Cb (Aj (Aj ?_)));obtain⟨T,j,b,e,c,rfl,x,l,rfl⟩:=g;obtain rfl:=L;show A2 _ _ (Gj [(Co b,vv)] PUnit.unit _) _ _ _;rw[List.forIn_cons];refine Aa (Aa (P7 hu J e c x l N λs4 B=>Aj ?_));show A2 _ _ _ _ _ _;exact Aj ⟨.ref s.heap.objs.size,_,B,rfl,t⟩
end L2
namespace DL
open PySem L2 Nb
section
variable{X:Cx}{k v:Expr}{tk tv:TE}{wk wv:DT}{pos p:Pos}
def nL(i:Nat)(wk wv:DT):aE:=λδ n K=>wk δ n λy n1=>wv δ n1 λz n2=>∃m_ d e,z=.d d/\y=.d e/\mx e m_/\K.nx (δ.set i (ae (.odx [(m_,d)]))) n2
theorem Rg{i:Nat}{x:Str}{pos':Pos}(hu:X.A.units+64 < Dd)(hN:X.N.Nodup)(hi:X.N[i]?=ae x)(hx:fA X.env.scope x)(hk:DE X k tk wk)(hv:DE X v tv wv)(hs:Cy (.Dict [ae k] [v] p) (ae (.Name x pos')) pos.line X.env=pure ai)(hf:X.fn x=ah\/X.env.scope.names.lookup x=ae .local):
  DS X (.Assign [.Name x pos'] (.Dict [ae k] [v] p) pos) (bw (mr X.K tk tv) (dg i)) (nL i wk wv):=⟨fN hN hi hx (Jr hu hk.pe hv.pe) hs hf,λC H B σ δ n K D R q E=>λa g=>by
 have T:=by
  have:=R.own (i:=δ.length) (R.new g) (Kp.new g) g (by rw[a9];simp) (x:=.odx []) rfl ⟨a,[],rfl,a9,.inr rfl,R.h0 g,Be _,.nil⟩;rwa [List.set_eq_of_length_le (by rw[R.len];simp),List.set_eq_of_length_le (by simp)]at this
 refine hk.sd C _ _ σ δ n _ _ T q λu y W Y O S r1 U=>hv.sd C W _ σ δ Y _ _ O U λw z m V Z r r2 s=>?_;obtain⟨f,d,e,rfl,rfl,F,s⟩:=s;obtain⟨b,rfl,Q⟩:=nh ((r1.kp r O.bt)) F;have h:a≠C.t:=λz=>by obtain⟨_,_⟩:=R.tp.ob;simp_all
 refine⟨_,⟨[],f,b,(r _ _ (S _ _ a9 h) h),(λp L=>nomatch L),rfl,Q.rd,by decide,rfl⟩,?_⟩;have L:cV [] f b w=[(f,b,w)]:=by rfl
 have G:Kp C.t H (upd m a (.dX [(f,b,w)])):=λc o e P=>(aH (bu e g))▸r _ _ (S _ _ (by rw[aH (bu e g)];exact e) P) P;have T3:Tp (upd m a (.dX [(f,b,w)])) C.t C.l C.ns V:=Z.tp.other h.symm (λz=>by have:=R.tp.ls;simp_all) (λe z=>by have:=R.tp.ag e;simp_all);have J:∀c o,m c=ae o->¬(B c\/c=a)->upd m a (.dX [(f,b,w)]) c=ae o/\¬(B c\/c=a):=λc o e M=>⟨(aH λz=>M (.inr z))▸e,M⟩;refine E.nx _ _ _ _ _ (R.own (x:=.odx [(f,d)]) (R.step T3 G) G g (by rw[a9];simp) rfl ⟨a,_,rfl,a9,.inr rfl,R.h0 g,show 1<=1000 by decide,.cons ⟨rfl,Q.move J,(r2).move J⟩ .nil⟩) s⟩
end
section
variable{X:Cx}{o:Expr}{td:TE}{wd':DT}{pos p:Pos}{K:Ag}
theorem RdY.refs{H:Hp}{B:A'->Prop}{l:List (TK×A'×V)}{m:List (TK×Ad)}(h:RdY H B l m):RdXs H B (l.map λq=>V.ref q.2.1) (m.map λq=>q.1.1):=by
 induction h with
 |nil=>exact .nil
 |@cons p q d c a t b=>exact .cons (show RdX H B _ q.1.1 by rw[<-a.1];exact a.2.1) b
def uf(w:DT):d0:=λδ n Q=>w δ n λx n1=>∃kvs,gQ x kvs/\kvs.length<=1000/\Q (kvs.map (·.1.1)) n1
theorem LX(hh:X.A.handled=af)(hg:Gl X "list")(hm:X.mg "list"=af)(ho:DE X o td wd')(hK:X.K=K)(he:Aq [o] X.env=(ai,eval o X.env)::Aq [] X.env)(q_:(C0 pos (Aq [] X.env)).any (·.1)=ai):
  DF X (.Call (.Name "list" p) [o] [] pos) (d5 (z3 K) (br td aW)) (uf wd'):=by
 subst hK;refine⟨mN (OP hh) hg hm tX (bZ ho.pe dq he) ∎ ∎ he q_,λC H B σ δ n Q t R q k=>ho.sd C H B σ δ n _ _ R q λv x s i d f m c=>?_⟩;obtain⟨h,j,g,c⟩:=c;obtain⟨a,l,rfl,r,u,e⟩:=WRel.rdX d.bt j m;exact⟨a,l,rfl,r,e.keys,λL b=>k L _ _ _ i (d.new b) (f.trans (Kp.new b)) (d.was f b) a9 (by rw[Ab,e.len];exact ej g) (e.refs.fresh b) c⟩
end
end DL
namespace L2
open PySem PySem.Spec PyProof.Rows PySem.W
end L2
namespace DL
open PySem L2 Nb
end DL
namespace L2
open PySem PySem.Spec PyProof.Rows PySem.W
end L2
namespace DL
open PySem L2 Nb
abbrev eE:=List Wv->Int->(List (TK×Ad)->Int->Prop)->Prop
def m3(S:eE):Sp:=λvs H Q _=>∃(t:A')(l:TL)(ns:List Int)(B:A'->Prop)(ws:List Wv)(n:Int)(Q0:List (TK×Ad)->Int->Prop),Tp H t l ns n/\B t/\(∀b,B b->H b≠af)/\ARel H B t vs ws/\S ws n Q0 /\
 ∀kvs n',Q0 kvs n'->∀a l' H',Tp H' t l ns n'->Kp t H H'->H a=af->H' a=ae (.dX l')->l'.length<=1000->RdY H' (λb=>B b\/b=a) l' kvs->Q (.ref a) H'
structure HasX(P:A1)(w:Bh)(K:Ag)(mg:Str->Option Af)(base:Heap)(k:Nat)(x:Str)(ps:List Str)(S:eE):Prop where
 ex:∃(f:A')(fd:Cc),FnOk P w K mg base bW k f fd ps (m3 S)/\Binds K fd ps []/\mg x=ae (.ref f)/\Ct K (.ref f)=ah
theorem HasX.mk'{P:A1}{w:Bh}{K:Ag}{mg:Str->Option Af}{base:Heap}{k:Nat}{x qual:Str}{st:Stmt}{ps:List Str}{S:eE}{f:A'}{fd:Cc}(F:Fun K x qual st f fd)(m:mg x=ae (.ref f))(b:Binds K fd ps [])(h:FnOk P w K mg base bW k f fd ps (m3 S)):HasX P w K mg base k x ps S:=⟨f,fd,h,b,m,F.kp⟩
section
variable{X:Cx}{e:Expr}{es:List Expr}{pos p:Pos}{tR:TA}{wR:cK}
def lE(i:Nat):aE:=λδ n K=>match δ[i]? with
 |some (ae (.odx kvs))=>K.rx kvs n
 |_=>False
theorem Ku(i:Nat){x:Str}{xp:Pos}(hN:X.N[i]?=ae x)(hv:dY X.env.scope x)(hd:(x==("__debug__":Str))=ai)
  (r_:(x==("__classdict__":Str))=ai):DS X (.Return (ae (.Name x xp)) pos) (fF (aI i)) (lE i):=⟨iV (eS hN hv hd r_),λC H B σ δ n K D R q E=>by
 unfold lE at q
 split at q
 ·rename_i c f;obtain⟨v,hv,a,l,rfl,m,h,j,k,g⟩:=R.sl i _ f;exact⟨_,hv,E.rx H B σ δ n a l c R j m k (g.move λb o e d=>⟨e,λz=>z.elim d λq=>d (q▸h)⟩) q⟩
 ·exact q.elim⟩
end
section
variable{P:A1}{w:Bh}{K:Ag}{mg:Str->Option Af}{base:Heap}
theorem Fun.okX{x qual:Str}{st:Stmt}{f:A'}{fd:Cc}{N ps:List Str}{k:Nat}{S:eE}(F:Fun K x qual st f fd)(Sc:FnScope N ps (bJ st))(len:∀ws n Q,S ws n Q->ws.length=ps.length)
  (hbody:∀(n_:Af)(A:Bo)(outer:List Env)(s:Ai)(H:Hp)(E:XK),Room k (A.deeper (C3 qual (bJ st) s.heap.objs.size f n_))->
   ∃T W,DSs (b8 bW P w K mg base N qual (bJ st) f n_ A outer s H E).nox (ec st) T W/\∀ws n Q,S ws n Q->W (dI N ws) n {nx:=λ_ _=>False,rt:=λ_ _=>False,rx:=Q}):FnOk P w K mg base bW (k+1) f fd ps (m3 S):=by
 refine F.ok Sc (λvs H Q E h=>?_) (λn_ A outer s H R Q E O h=>?_)
 ·obtain⟨t,l,C,B,ws,n,g,_,_,_,r,q,_⟩:=h;rw[r.len];exact len ws n g q
 ·obtain⟨t,l,C,B,ws,n,g,T,j,I,r,q,M⟩:=h;obtain⟨J,W,d,L⟩:=hbody n_ A outer s H E O;refine⟨J,d.ps,d.sd _ H B _ _ n _ _ (ot T j I r) (L ws n g q) ⟨?_,?_,?_,?_,?_,?_⟩⟩
  ·exact λ_ _ _ _ _ _ z=>z.elim
  ·exact λ_ _ _ _ _ _ _ _ _ z=>z.elim
  ·exact λ_ _ _ _ _ _ z=>z.elim
  ·exact λ_ _ _ _ _ _ z=>z.elim
  ·exact λ_ _ _ _ _ _ _ _ _ _ _ _ _ z=>z.elim
  ·exact λH' X σ δ U a p v c D G i m u=>M _ _ u a p H' c.tp c.kp D G i (m.move λb o e y=>⟨e,λz=>y (z.elim (λz=>.inl (c.b0 b z)) .inr)⟩)
end
section
variable{X:Cx}{a b:Expr}{ta tb:TE}{wa wb:DT}{pos:Pos}{K:Ag}
def gw(w:DT):b5:=λδ n Q=>w δ n λx n1=>match f5 x with
 |some ds=>Q (!ds.isEmpty) n1
 |none=>False
theorem yB{e:Expr}{te:TE}{we:DT}(h:DE X e te we)(he:∀whole,isTrue e X.env whole=(do let v <-whole;standAt e.pos;holding [v] (truthy v))):DC X e (λσ H Q=>te σ H λx H'=>∃k,iQ X.K x H' k/\Q k H') (gw we):=
 ⟨K0 h.pe he,λC H B σ δ n Q r R q k=>h.sd C H B σ δ n _ _ R q λv x f g d m j b=>by
  split at b
  ·rename_i s o;obtain⟨a,i,rfl,l,p,c⟩:=vy j o;refine⟨_,.inl ⟨i,SqL.of l,?_⟩,k _ f g d m b⟩;cases c<;>rfl
  ·exact b.elim⟩
end
end DL
namespace Nb
open PySem L2 DL
def lM(Sa:aP):eE:=λws n Q=>∃(pd:Ad)(s0:TK)(N:Nat)(aft:TK->Nat->Option TK)(Gd:TK->Prop)(J:Nat),ws=[.d pd,.d s0.1]/\AfOk Sa pd N aft Gd/\Gd s0/\N < 2 ^ 60/\(Lr aft N s0 J).length<=J/\(Lr aft N s0 J).length<=1000 /\
 ∀m,m.map (·.1)=Lr aft N s0 J->ParI aft N s0 m->Syn m (El aft N s0 J)->Q m n
theorem zt{N:Nat}{aft:TK->Nat->Option TK}{Gd:TK->Prop}{s0:TK}(A:∀(s:TK) (i:Nat) (b:TK),Gd s->i<=N->aft s i=ae b->Gd b)(h0:Gd s0):∀j,∀s∈Lr aft N s0 j,Gd s
 |0=>λs a=>by obtain rfl:=(by simpa[Lr]using a);omega
 |j+1=>by
  have k:=zt A h0 j;show ∀s∈(match (Lr aft N s0 j)[j]? with|some s=>qs aft N (Lr aft N s0 j) s|none=>Lr aft N s0 j),Gd s;cases e:(Lr aft N s0 j)[j]? with
  |none=>exact k
  |some t=>
   have f:∀(c:List Nat) l,(∀i∈c,i<=N)->(∀s∈l,Gd s)->∀s∈c.foldl (q1 aft t) l,Gd s:=by
    intro c
    induction c with
    |nil=>exact λks _ h=>h
    |cons i c g=>
     intro l d h;refine g _ (λx n=>d x (Ak _ n)) λs a=>?_;unfold q1 at a;cases m:aft t i with
     |none=>rw[m]at a;simp_all
     |some b=>
      rw[m]at a;dsimp only at a
      split at a
      ·exact h s a
      ·rcases A4.mp a with a|a
       ·exact h s a
       ·obtain rfl:=by simpa using a
        exact A t i s (k t (Az e)) (d i An) m
   exact f _ _ (λi d=>Gh (Ci.mp d)) k
theorem QM(Sa:aP)(ws:List Wv)(n:Int)(Q:List (TK×Ad)->Int->Prop)(h:lM Sa ws n Q):
  (aq (nL 2 ↥1 (wC .none)) (aq (bo 3 (aO (ao ↥1 ak))) (aq (nW (gw (cv 3)) (iR Sa 0 2 3)) (lE 2)))) (dI ["programs","stand","steps","stands"] ws) n {nx:=λ_ _=>False,rt:=λ_ _=>False,rx:=Q}:=by
 obtain⟨F,s0,N,aft,E,J,rfl,A,z,B,x,u,q⟩:=h;obtain⟨p,g⟩:=A.tup s0 z;refine⟨s0,_,_,rfl,rfl,⟨rfl,p,g⟩,⟨show 1<=1000 by decide,?_⟩⟩;refine⟨λk δ y=>∃c m f,k=J+1-c/\y=n/\c<=J/\δ=[ae _,ae _,ae (.odx m),ae (.own (f.map (·.1)))]/\Lev aft N s0 c m f/\ParI aft N s0 m/\Syn m (El aft N s0 c),⟨J+1,0,_,_,rfl,rfl,Be _,rfl,Lev.first s0 _,.one,Syn.one⟩,?_⟩
 rintro k δ y ⟨c,m,f,rfl,rfl,K,rfl,L,P,S⟩
 show(if _=ah then _ else _);have d:f.length=(Lr aft N s0 c).length-c:=by rw[L.rs,E1]
 cases f with
 |nil=>
  have l:(Lr aft N s0 c).length<=c:=by
   simp at d;omega
  have G:Lr aft N s0 c=Lr aft N s0 J:=by
   have:=qA l (J-c);simp_all
  have D:∀k,El aft N s0 (c+k)=El aft N s0 c:=by
   intro k
   induction k with
   |zero=>rfl
   |succ k C=>
    show(match (El aft N s0 (c+k))[c+k]? with|some s=>dM aft N _ s|none=>El aft N s0 (c+k))=_;rw[C,Ce (by have:=congrArg Dy (jA (aft:=aft) (N:=N) (s0:=s0) c);rw[Ab]at this;omega)]
  have I:=D (J-c);exact q m (L.ks.trans G) P (by simp_all)
 |cons t r=>
  have H:=by simp at d;omega
  have v:=Qs x;have e:∀s∈t::r,s∈m.map (·.1):=λs i=>by rw[L.ks];rw[L.rs]at i;exact List.mem_of_mem_drop i
  have w:=L.next;refine⟨F,N,aft,E,m,_,A,B,rfl,rfl,rfl,λs i=>zt A.good z c s (L.ks▸e s i),?_,?_⟩
  ·have:=congrArg Dy w.ks;rw[Ab]at this;rw[this];exact A0 (v _) u
  ·exact⟨_,by omega,_,_,_,rfl,rfl,A0 (v c) x,rfl,w,P.fur _ _ e,S.next L⟩
end Nb
namespace L2
open PySem PySem.Spec PyProof.Rows PySem.W
end L2
namespace DL
open PySem L2 Nb
end DL
namespace Nb
open PySem L2 DL
end Nb
namespace DL
open PySem L2 Nb
abbrev iz:=List Wv->Int->(Option (List (TK×Ad))->Int->Prop)->Prop
def og(S:iz):Sp:=λvs H Q _=>∃(t:A')(l:TL)(ns:List Int)(B:A'->Prop)(ws:List Wv)(n:Int)(Q0:Option (List (TK×Ad))->Int->Prop),Tp H t l ns n/\B t/\(∀b,B b->H b≠af)/\ARel H B t vs ws/\S ws n Q0 /\
 (∀n',Q0 af n'->∀H',Tp H' t l ns n'->Kp t H H'->Q .non H') /\
 ∀kvs n',Q0 (ae kvs) n'->∀a l' H',Tp H' t l ns n'->Kp t H H'->H a=af->H' a=ae (.dX l')->l'.length<=1000->RdY H' (λb=>B b\/b=a) l' kvs->Q (.ref a) H'
structure HasXO(P:A1)(w:Bh)(K:Ag)(mg:Str->Option Af)(base:Heap)(k:Nat)(x:Str)(ps:List Str)(S:iz):Prop where
 ex:∃(f:A')(fd:Cc),FnOk P w K mg base bW k f fd ps (og S)/\Binds K fd ps []/\mg x=ae (.ref f)/\Ct K (.ref f)=ah
theorem HasXO.mk'{P:A1}{w:Bh}{K:Ag}{mg:Str->Option Af}{base:Heap}{k:Nat}{x qual:Str}{st:Stmt}{ps:List Str}{S:iz}{f:A'}{fd:Cc}(F:Fun K x qual st f fd)(m:mg x=ae (.ref f))(b:Binds K fd ps [])(h:FnOk P w K mg base bW k f fd ps (og S)):HasXO P w K mg base k x ps S:=⟨f,fd,h,b,m,F.kp⟩
def r9:Option (List (TK×Ad))->SV
 |none=>.w (.d .none)
 |some kvs=>.odx kvs
section
variable{X:Cx}{e:Expr}{es:List Expr}{pos p:Pos}{tR:TA}{wR:cK}{te:TE}{we:DT}
def rz(i:Nat)(S:iz)(w:cK):aE:=λδ n K=>w δ n λxs n1=>S xs n1 λr n2=>K.nx (δ.set i (ae (r9 r))) n2
theorem GX{i:Nat}{x:Str}{pos' cp:Pos}{k:Nat}{ps:List Str}{S:iz}{f:Str}(h:HasXO X.prog X.w X.K X.mg X.base k f ps S)(hr:Room k X.A)(hg:Gl X f)(hN:X.N.Nodup)(hi:X.N[i]?=ae x)(hx:fA X.env.scope x)(ha:DA X (e::es) tR wR)
  (hs:Cy (.Call (.Name f p) (e::es) [] cp) (ae (.Name x pos')) pos.line X.env=pure ai) (hf:X.fn x=ah\/X.env.scope.names.lookup x=ae .local)
  (hdb:(f==("__debug__":Str))=ai) (he:Aq (e::es) X.env=(ai,eval e X.env)::Aq es X.env) (q_:(C0 cp (Aq es X.env)).any (·.1)=ai):
  DS X (.Assign [.Name x pos'] (.Call (.Name f p) (e::es) [] cp) pos) (bw (ee (og S) [] E0 tR) (dg i)) (rz i S wR):=by
 obtain⟨g,U,J,y,z,F⟩:=h.ex;refine⟨fN hN hi hx (jH J hr hg z F y .nil jD ha.pa hdb he q_) hs hf,λC H B σ δ n K D R q E=>ha.sd C H B σ δ n _ _ R q λvs O T L b u P I=>⟨C.t,C.l,_,B,O,L,_,b.tp,b.bt,b.ba,by rw[Br];exact P,I,λn' m M r j=>?_,λkvs Q m a G M r j v c o s=>?_⟩⟩
 ·exact E.nx _ _ _ _ _ ((b.step r j).set (x:=.d .none) .non rfl) m
 ·refine E.nx _ _ _ _ _ (R.own (b.step r j) (u.trans j) (b.was u v) (by rw[c];simp) rfl ?_) m;exact⟨a,G,rfl,c,.inr rfl,R.h0 (b.was u v),o,s⟩
end
section
variable{P:A1}{w:Bh}{K:Ag}{mg:Str->Option Af}{base:Heap}
theorem Fun.okXO{x qual:Str}{st:Stmt}{f:A'}{fd:Cc}{N ps:List Str}{k:Nat}{S:iz}(F:Fun K x qual st f fd)(Sc:FnScope N ps (bJ st))(len:∀ws n Q,S ws n Q->ws.length=ps.length)
  (hbody:∀(n_:Af)(A:Bo)(outer:List Env)(s:Ai)(H:Hp)(E:XK),Room k (A.deeper (C3 qual (bJ st) s.heap.objs.size f n_))->
   ∃T W,DSs (b8 bW P w K mg base N qual (bJ st) f n_ A outer s H E).nox (ec st) T W/\∀ws n Q,S ws n Q->W (dI N ws) n {nx:=λ_ _=>False,rt:=λw n=>w=.d .none/\Q af n,rx:=λkvs n=>Q (ae kvs) n}):FnOk P w K mg base bW (k+1) f fd ps (og S):=by
 refine F.ok Sc (λvs H Q E h=>?_) (λn_ A outer s H vs Q E V h=>?_)
 ·obtain⟨t,l,G,B,ws,n,i,_,_,_,r,q,_⟩:=h;rw[r.len];exact len ws n i q
 ·obtain⟨t,l,G,B,ws,n,i,T,u,M,r,q,Z,U⟩:=h;obtain⟨O,W,d,R⟩:=hbody n_ A outer s H E V;refine⟨O,d.ps,d.sd _ H B _ _ n _ _ (ot T u M r) (R ws n i q) ⟨?_,?_,?_,?_,?_,?_⟩⟩
  ·exact λ_ _ _ _ _ _ z=>z.elim
  ·intro H' Y σ δ j v w' c L z;obtain⟨rfl,g⟩:=z;have X:v=.non:=by cases(L);rfl
   subst X;exact Z j g H' c.tp c.kp
  ·exact λ_ _ _ _ _ _ z=>z.elim
  ·exact λ_ _ _ _ _ _ z=>z.elim
  ·exact λ_ _ _ _ _ _ _ _ _ _ _ _ _ z=>z.elim
  ·exact λH' Y σ δ j a C kvs c I J p y g=>U _ _ g a C H' c.tp c.kp I J p (y.move λb o e D=>⟨e,λz=>D (z.elim (λz=>.inl (c.b0 b z)) .inr)⟩)
end
def nU(neg:Bool):Wv->Wv->Int->DQ->Prop:=λx y n Q=>(∃kvs,x=.dx kvs/\y=.d .none/\Q (.d (.bool neg)) n)\/iT neg x y n Q
theorem Mj:a8 (λx y H Q=>y=.non/\Q (.bl (decide (x=.non))) H) (nU ai):=λC H B σ δ n x y p q Q f R c d b k=>by
 rcases b with⟨e,rfl,rfl,b⟩|b
 ·obtain⟨a,l,rfl,_⟩:=c;cases(d);exact⟨rfl,k _ _ H n R (Kp.refl _ _) (by exact .bl ai) b⟩
 ·exact QD C H B σ δ n x y p q Q f R c d b k
end DL
namespace Nb
open PySem L2 DL
theorem sQ{ds:List Ad}{i:Int}{d:Ad}{n:Int}{Q:DQ}(h:cO ds i=ae d)(q:Q (.d d) n):aQ (.ln ds) (.d (.int i)) n Q:=by
 show(match cO ds i with|some d=>Q _ n|none=>False);simp_all
theorem zc{a b:Ad}{r:Bool}{n:Int}{Q:DQ}(h:eU a b=ae r)(q:Q (.d (.bool r)) n):bG (.d a) (.d b) n Q:=by
 show(match eU a b with|some r=>Q _ n|none=>False);simp_all
abbrev eT(E:List (TK×Nat)):List (TK×Ad):=E.map λe=>(e.1,.int (e.2:Nat))
abbrev ky(E:List (TK×Nat)):List Ad:=E.map λe=>e.1.1
def gE(aft:TK->Nat->Option TK)(N:Nat)(s:TK):List Nat:=(A9 (N+1)).filter λi=>(aft s i).isSome
structure GoL(Sm Sl:aP)(pd:Ad)(N:Nat)(aft:TK->Nat->Option TK)(Gk:Nat->TK->Prop):Prop where
 mv:∀(c:Nat)(s:TK)(n:Int)(R:DQ),Gk (c+1) s->R (.d (.list ((gE aft N s).map λi=>.int (i:Nat)))) n->Sm [.d pd,.d s.1] n R
 go:∀(c:Nat)(s:TK)(i:Nat)(b:TK)(n:Int)(R:DQ),Gk (c+1) s->aft s i=ae b->R (.d b.1) n->Sl [.d pd,.d s.1,.d (.int (i:Nat))] n R
 tup:∀(c:Nat)(k:TK),Gk c k->∃ds,k.1=.tuple ds
 good:∀(c:Nat)(s:TK)(i:Nat)(b:TK),Gk (c+1) s->i<=N->aft s i=ae b->Gk c b
theorem ve{N M:Nat}{aft:TK->Nat->Option TK}{Gk:Nat->TK->Prop}{s0:TK}(A:∀(c:Nat) (s:TK) (i:Nat) (b:TK),Gk (c+1) s->i<=N->aft s i=ae b->Gk c b)(h0:Gk (M+1) s0):∀j,(El aft N s0 j).length<=M->∀e∈El aft N s0 j,e.2 < (El aft N s0 j).length/\Gk (M+1-e.2) e.1
 |0=>λ_ e a=>by obtain rfl:=(by simpa[El]using a);exact⟨Nat.zero_lt_one,h0⟩
 |j+1=>by
  have p:=ve A h0 j;show(match _[j]? with|some s=>dM aft N _ s|none=>El aft N s0 j).length<=M->∀e∈(match (El aft N s0 j)[j]? with|some s=>dM aft N (El aft N s0 j) s|none=>El aft N s0 j),e.2 < (match (El aft N s0 j)[j]? with|some s=>dM aft N (El aft N s0 j) s|none=>El aft N s0 j).length/\_;cases t:(El aft N s0 j)[j]? with
  |none=>exact p
  |some s=>
   have m:∀(d:List Nat) E,(∀i∈d,i<=N)->s∈E->(d.foldl (dS aft s) E).length<=M->(∀e∈E,e.2 < E.length/\Gk (M+1-e.2) e.1)->∀e∈d.foldl (dS aft s) E,e.2 < (d.foldl (dS aft s) E).length/\Gk (M+1-e.2) e.1:=by
    intro d
    induction d with
    |nil=>exact λE _ _ _ h=>h
    |cons i d n=>
     intro E k q hl h;have u:E <+: dS aft s E i:=mf s E i;refine n _ (λx v=>k x (Ak _ v)) (u.subset q) hl ?_;have g:=A0 (lI _ (mf s) d _).length_le hl;unfold dS at g ⊢;cases r:aft s.1 i with
     |none=>exact h
     |some b=>
      rw[r]at g;dsimp only at g ⊢
      split
      ·exact h
      ·rename_i z;rw[a_ z,As,Ba]at g;rw[As,Ba];intro e a;rcases A4.mp a with a|a
       ·exact⟨by have:=(h e a).1;omega,(h e a).2⟩
       ·obtain rfl:=by simpa using a
        obtain⟨w,o⟩:=h s q;refine⟨by omega,?_⟩;rw[show M+1-s.2=(M+1-(s.2+1))+1 by omega]at o;exact A _ s.1 i b o (by simp_all) r
   exact λhl=>m _ _ (λi k=>Gh (Ci.mp k)) (Az t) hl (p (A0 (xq _ s).length_le hl))
def nT(Sm Sl:aP):iz:=λws n Q=>∃(pd:Ad)(s0:TK)(M:Nat)(N:Nat)(aft:TK->Nat->Option TK)(Gk:Nat->TK->Prop),ws=[.d pd,.d s0.1,.d (.int (M:Nat))]/\GoL Sm Sl pd N aft Gk/\Gk (M+1) s0/\1<=M/\M<=900/\Q af n /\
 ∀J,(El aft N s0 J).length<=J->(El aft N s0 J).length<=M->Q (ae (eT (El aft N s0 J))) n
theorem Nd(E:List (TK×Nat)):(eT E).map (·.1)=E.map (·.1):=by rw[By];rfl
theorem vV{aft:TK->Nat->Option TK}{s:TK×Nat}:∀(is:List Nat)(E:List (TK×Nat)),(is.filter λi=>(aft s.1 i).isSome).foldl (dS aft s) E=is.foldl (dS aft s) E
 |[],_=>rfl
 |i::is,E=>by
  rw[Gr];cases e:aft s.1 i with
  |none=>
   rw[a_ (by simp),Eo,vV is]
   congr 1
   unfold dS;rw[e]
  |some b=>rw[b_ (by simp),Eo,Eo,vV is]
theorem wW{E:List (TK×Nat)}{s:TK×Nat}(nd:(E.map (·.1)).Nodup)(h:s∈E):aY (eT E) s.1=ae (.int (s.2:Nat)):=by
 induction E with
 |nil=>exact nomatch h
 |cons e E a=>
  rw[Bk,Dw]at nd;rcases Ar.mp h with rfl|h
  ·simp[aY]
  ·have b:¬e.1=s.1:=λz=>nd.1 (z▸A7.mpr ⟨s,h,rfl⟩);have:=a nd.2 h;unfold aY at this ⊢;rw[eT,Bk,List.find?_cons];simp only[b,decide_false];omega
theorem AS{aft:TK->Nat->Option TK}{s:TK×Nat}{E:List (TK×Nat)}{i:Nat}(nd:(E.map (·.1)).Nodup):((dS aft s E i).map (·.1)).Nodup:=by
 unfold dS
 split
 ·exact nd
 ·split
  ·exact nd
  ·rename_i z;rw[Bb,Gc];refine⟨nd,by simp,λa d b c=>?_⟩;obtain rfl:=by simpa using c
   exact λe=>z (e▸d)
abbrev vG(Sm Sl:aP):aE:=aq (ay 7 (aD Sl (ao ↥0 (ao (w2 (cv 4) ↥5 aQ) (ao ↥6 ak))))) (aM (cT (w2 ↥7 (eD 3) (iy ah))) (aq (aM (cT (w2 (wB dP (ao (cv 4) ak)) ↥2 bG)) (az (wC .none)) aN) (aq (mO 3 ↥7 (w2 (w2 (eD 3) (w2 (cv 4) ↥5 aQ) n8) ⇑1 (cj λi j=>.int (i+j)))) (aV 4 ↥7))) aN)
abbrev jP(pd:Ad)(s0:TK)(M j:Nat)(E:List (TK×Nat))(o6 o7:Option SV):Sl:=[↑pd,↑s0.1,↑(.int (M:Nat)),ae (.odx (eT E)),ae (.own (ky E)),↑(.int (j:Nat)),o6,o7]
theorem Q1{Sm Sl:aP}{pd:Ad}{N:Nat}{aft:TK->Nat->Option TK}{Gk:Nat->TK->Prop}{c:Nat}(A:GoL Sm Sl pd N aft Gk){s0:TK}{M j i:Nat}{E:List (TK×Nat)}{s:TK×Nat}{b:TK}{o7:Option SV}{n:Int}{K:DEnds}(hs:E[j]?=ae s)(gs:Gk (c+1) s.1)(nd:(E.map (·.1)).Nodup)(hi:i<=N)(e:aft s.1 i=ae b)(hM:E.length<=M)(hM2:M<=900)
  (k0:K.rt (.d .none) n) (k1:∀o,(dS aft s E i).length<=M->K.nx (jP pd s0 M j (dS aft s E i) (↑(.int (i:Nat))) o) n):vG Sm Sl (jP pd s0 M j E (↑(.int (i:Nat))) o7) n K:=by
 have G:cO _ _=ae s.1.1:=d9 (by rw[Am,hs];rfl);have O:=A.good _ s.1 i b gs hi e;show aQ (.ln _) (.d (.int _)) n (λx Y=>Sl [.d pd,x,.d _] Y _);refine sQ G (A.go _ s.1 i b n _ gs e ?_);refine⟨_,b.1,b,.inl rfl,rfl,⟨rfl,A.tup _ b O⟩,?_⟩;have P:(aY (eT E) b).isSome=decide (b∈E.map (·.1)):=by
  have:=kg (eT E) b;rw[Nd]at this;by_cases z:b∈E.map (·.1)
  ·rw[c_ z];simp_all
  ·rw[d_ z];cases q:(aY _ b).isSome with
   |false=>rfl
   |true=>exact g_ (this.mp q) z
 rw[P];by_cases z:b∈E.map (·.1)
 ·rw[c_ z];have J:dS aft s E i=E:=by unfold dS;rw[e];dsimp only;rw[b_ z]
  rw[J]at k1;exact k1 _ hM
 ·rw[d_ z];have J:dS aft s E i=E++[(b,s.2+1)]:=by unfold dS;rw[e];dsimp only;rw[a_ z]
  rw[J]at k1;have F:aq (aM (cT (w2 (wB dP (ao (cv 4) ak)) ↥2 bG)) (az (wC .none)) aN) (aq (mO 3 ↥7 (w2 (w2 (eD 3) (w2 (cv 4) ↥5 aQ) n8) ⇑1 (cj λi j=>.int (i+j)))) (aV 4 ↥7)) (jP pd s0 M j E (↑(.int i)) (↑b.1)) n K:=by
   by_cases U:E.length=M
   ·have:eU (.int ((ky E).length:Int)) (.int M)=ae ah:=by
     rw[Ab,U];simp[eU]
    dsimp only[aq,aM,cT,w2,wB,ao,ak,cv,aj,dP,B7];exact zc this k0
   ·have:eU (.int ((ky E).length:Int)) (.int M)=ae ai:=by
     simp[eU];omega
    dsimp only[aq,aM,cT,w2,wB,ao,ak,cv,aj,dP,B7];refine zc this ?_;dsimp only;rw[a_ Ay];dsimp only[aN,mO,w2,eD,cv,aj,B7];refine sQ G ⟨_,_,s.1,_,.inl rfl,rfl,⟨rfl,A.tup _ s.1 gs⟩,wW nd (Az hs),?_⟩;refine⟨_,rfl,b,_,b.1,rfl,rfl,⟨rfl,A.tup _ b O⟩,by rw[Ab];omega,?_⟩;have W:fZ (eT E) b (.int ((s.2:Nat)+1:Int))=eT (E++[(b,s.2+1)]):=by
     unfold fZ;rw[a_ (by rw[P,d_ z];decide),eT,eT,Bb];rfl
    refine⟨by rw[Ab];omega,?_⟩;have:=k1 (↑b.1) (by rw[As,Ba];omega);rw[jP,ky,Bb]at this;rw[W];exact this
  exact F
theorem FI{Sm Sl:aP}{pd:Ad}{N:Nat}{aft:TK->Nat->Option TK}{Gk:Nat->TK->Prop}{c:Nat}(A:GoL Sm Sl pd N aft Gk){s0:TK}{M j:Nat}{s:TK×Nat}{n:Int}{K:DEnds}(gs:Gk (c+1) s.1)(hM2:M<=900)(k0:K.rt (.d .none) n):
  ∀(is:List Nat)(E:List (TK×Nat))(o6 o7:Option SV),(∀i∈is,i<=N/\(aft s.1 i).isSome=ah)->E[j]?=ae s->(E.map (·.1)).Nodup->E.length<=M->
   (∀o6 o7,(is.foldl (dS aft s) E).length<=M->((is.foldl (dS aft s) E).map (·.1)).Nodup->K.nx (jP pd s0 M j (is.foldl (dS aft s) E) o6 o7) n)->ew (aJ 6) (vG Sm Sl) K (is.map λi=>.int (i:Nat)) (jP pd s0 M j E o6 o7) n
 |[],E,o6,o7,_,_,a,f,g=>g o6 o7 f a
 |i::is,E,o6,o7,h,k,a,f,g=>by
  obtain⟨p,l⟩:=h i An;obtain⟨b,e⟩:=D4.mp l;exact Q1 A k gs a p e f hM2 k0 λo m=>FI A gs hM2 k0 is _ _ o (λx q=>h x (Ak _ q)) (by rw[mT (mf s E i) (Ap.mp k).1];omega) (AS a) m g
abbrev Zb:List Str:=["_law_programs","_law_stand_here","_law_most","_law_found","_law_line","_law_at","_law_mover","_law_behind"]
theorem RW(Sm Sl:aP)(ws:List Wv)(n:Int)(Q:Option (List (TK×Ad))->Int->Prop)(h:nT Sm Sl ws n Q):
  (aq (nL 3 ↥1 ⇑0) (aq (bo 4 (aO (ao ↥1 ak))) (aq (ay 5 ⇑0) (aq (nW (cT (w2 ↥5 (wB dP (ao (cv 4) ak)) fL)) (aq (aZ (ez (aD Sm (ao ↥0 (ao (w2 (cv 4) ↥5 aQ) ak)))) (aJ 6) (vG Sm Sl)) (ay 5 (w2 ↥5 ⇑1 (cj λi j=>.int (i+j)))))) (lE 3)))))
   (dI Zb ws) n {nx:=λ_ _=>False,rt:=λw n=>w=.d .none/\Q af n,rx:=λkvs n=>Q (ae kvs) n}:=by
 obtain⟨H,b,M,N,a,J,rfl,A,B,l,u,F,I⟩:=h;refine⟨b,_,_,rfl,rfl,⟨rfl,A.tup _ b B⟩,⟨show 1<=1000 by decide,?_⟩⟩;refine⟨λk δ o=>∃j o6 g,k=M+1-j/\o=n/\j<=(El a N b j).length/\(El a N b j).length<=M/\((El a N b j).map (·.1)).Nodup/\δ=jP H b M j (El a N b j) o6 g,⟨M+1,0,_,_,rfl,rfl,Be _,l,by simp[El],rfl⟩,?_⟩
 rintro k δ o ⟨j,o6,g,rfl,rfl,O,q,K,rfl⟩
 by_cases z:j < (El a N b j).length
 ·have p:=Ah z;have r:cO (ky _) _=ae (El a N b j)[j].1.1:=d9 (by rw[Am,p];rfl);have C:J ((M-(El a N b j)[j].2)+1) (El a N b j)[j].1:=by
   obtain⟨y,v⟩:=ve A.good B j q _ (E2 z);rw[show M-(El a N b j)[j].2+1=M+1-(El a N b j)[j].2 by omega];omega
  have m:decide (j < ((ky (El a N b j)).length:Int))=ah:=c_ (by rw[Ab];omega);have D:El a N b (j+1)=(gE a N (El a N b j)[j].1).foldl (dS a (El a N b j)[j]) (El a N b j):=by
   show(match _[j]? with|some s=>dM a N _ s|none=>El a N b j)=_;rw[p];unfold gE;rw[vV];rfl
  show(if decide _=ah then _ else _);rw[m,b_ rfl];dsimp only[aq,aZ,ez,aD,ao,w2,cv,aj,B7];refine sQ r (A.mv _ _ o _ C (FI A C u ?_ _ _ _ _ (λi G=>?_) p K q λo6 g x e=>?_))
  ·exact⟨rfl,F⟩
  ·obtain⟨y,v⟩:=Dx.mp G;exact⟨Gh (Ci.mp y),v⟩
  ·rw[<-D]at x e ⊢;have L:(El a N b j).length<=(El a N b (j+1)).length:=by rw[D];exact(lI _ (mf _) _ _).length_le
   exact⟨_,by omega,j+1,o6,g,rfl,rfl,by omega,x,e,rfl⟩
 ·have m:decide (j < ((ky (El a N b j)).length:Int))=ai:=d_ (by rw[Ab];omega);show(if decide _=ah then _ else _);rw[m];exact I j (by simp_all) q
end Nb
namespace DL
open PySem L2 Nb
def EW(T:TS):TS:=λD σ H=>T D σ H\/j7 T D σ H
theorem Ih{X:Cx}{b:List Stmt}{T:TS}(h:PSs X b T):PSs X b (EW T):=λi_ s σ H D I q=>q.elim (h i_ s σ H D I) (CO h i_ s σ H D I)
def sG(i:Nat)(W:aE):aE:=λδ n K=>match δ[i]? with
 |some (ae (.odx m))=>W (δ.set i (ae (.w (.ob (.y m))))) n K
 |some (ae (.w _))=>W δ n K
 |_=>False
theorem JQ{X:Cx}(i:Nat){l:List Stmt}{T:TS}{W:aE}(h:DSs X l T W):DSs X l (EW T) (sG i W):=⟨Ih h.ps,λC H B σ δ n K D R q E=>by
 unfold sG at q
 split at q
 ·rename_i m e;obtain⟨a,l,f,c,j,g,d,b⟩:=R.fzX e;exact .inr ⟨a,l,c,λo=>h.sd C _ _ σ _ n K D (b o) q E⟩
 ·exact .inl (h.sd C H B σ δ n K D R q E)
 ·exact q.elim⟩
def Qc:List Wv->Int->DQ->Prop:=λxs n Q=>∃(x:Wv)(kvs:List (TK×Ad)),xs=[x]/\gQ x kvs/\Q (.d (.int (kvs.length:Int))) n
theorem zP:cX CW Qc:=λC H B σ δ n i j Q m R r g k=>by
 obtain⟨x,b,rfl,c,q⟩:=g;cases r with
 |cons h t=>
  cases t;obtain⟨a,l,rfl,f,o,e⟩:=WRel.rdX R.bt c h;refine⟨a,l,rfl,f,?_⟩;rw[RdY.len e];exact k _ (.d _) H n R (Kp.refl _ _) (.int _) q
end DL
namespace L2
open PySem
section
variable{X:Cx}{pos:Pos}
def jU(K:Ag)(n:Nat)(t:fm):TG:=λv σ H Q=>∃a xs,v=.ref a/\SqL K H a xs/\xs.length=n/\t xs σ H Q
theorem RG{es:List Expr}{k:Nat}{t:fm}{n:Nat}(hc:X.calm=ah)(h:kW X es t)
  (hn:(Cw es X.env).length=n) (hst:(Cw es X.env).findIdx? (·.1)=af):PG X (.Tuple es k pos) (jU X.K n t):=by
 intro c s σ H v u Q I r d;obtain⟨a,w,z,p,j,d⟩:=d;subst z;cases r;obtain⟨g,l,m,A⟩:=I.list p;refine Aa (wpAny_standAt ?_);unfold unpack;have f:(Cw es X.env).length=g.toArray.size:=by simp[hn,<-j,l.length]
 rw[f,hst];refine Aa (Cb (PySem.W.kun_itemsOf (I.ok.hd hc) m.isList λh' x=>?_));have q:Inv X c σ H {s with heap:=h'}:=I.kept λb o e=>x b o (Bd (Aw e)) e;exact h c _ σ H w _ Q q ⋯ d
end
end L2
namespace DL
open PySem L2
def qP(n:Nat)(r:cQ):dw:=λd δ Q=>match d with
 |.list ds=>ds.length=n/\r ds δ Q
 |_=>False
section
variable{X:Cx}{pos:Pos}{K:Ag}
theorem Jz{es:List Expr}{k:Nat}{t:fm}{n:Nat}{r:cQ}(h:DGs X es t r)(hc:X.calm=ah)
  (hn:(Cw es X.env).length=n) (hst:(Cw es X.env).findIdx? (·.1)=af):DG X (.Tuple es k pos) (jU X.K n t) (qP n r):=⟨RG hc h.pg hn hst,λC H B σ δ f x d Q m R e q k=>by
 unfold qP at q
 split at q
 ·rename_i j;cases e with
  |@lst b g _ i o l a=>exact⟨b,g,rfl,SqL.of i,a.len▸q.1,h.sd C H B σ δ f _ _ _ _ R a q.2 k⟩
 ·exact q.elim⟩
theorem OU{es:List Expr}{k:Nat}{t:fm}{n:Nat}{r:cQ}(h:DGs X es t r)(hc:X.calm=ah)(hK:X.K=K)
  (hn:(Cw es X.env).length=n) (hst:(Cw es X.env).findIdx? (·.1)=af):DG X (.Tuple es k pos) (jU K n t) (qP n r):=by subst hK;exact Jz h hc hn hst
end
end DL
namespace KG
open PySem PySem.W PyProof.Rows
section
variable{pw:A1×Bh}{α β:Type}
def W2(pw:A1×Bh)(m1 m2:StateT Ao Sem α)(Q:α->α->Ao->Ao->Prop)(t u:Ao):Prop:=
 ∃a b t' u',Q a b t' u'/\(∀(A:Bo)(E:Af->Ai->Prop)(s:Ai)(P:α->Ao->Prop),P a t'->wpS (A5 pw.1 pw.2) A E s m1 P t)/\∀(A:Bo)(E:Af->Ai->Prop)(s:Ai)(P:α->Ao->Prop),P b u'->wpS (A5 pw.1 pw.2) A E s m2 P u
theorem W2.mono{m1 m2:StateT Ao Sem α}{Q R:α->α->Ao->Ao->Prop}{t u:Ao}(h:W2 pw m1 m2 Q t u)(f:∀a b t u,Q a b t u->R a b t u):W2 pw m1 m2 R t u:=by
 obtain⟨a,b,d,g,q,e,c⟩:=h;exact⟨a,b,d,g,f _ _ _ _ q,e,c⟩
theorem W2.pur{a b:α}{Q:α->α->Ao->Ao->Prop}{t u:Ao}(h:Q a b t u):W2 pw (Pure.pure a) (Pure.pure b) Q t u:=⟨a,b,t,u,h,λ_ _ _ _ p=>Dm p,λ_ _ _ _ p=>Dm p⟩
theorem W2.bind{m1 m2:StateT Ao Sem α}{f g:α->StateT Ao Sem β}{Q:β->β->Ao->Ao->Prop}{t u:Ao}(h:W2 pw m1 m2 (λa b t u=>W2 pw (f a) (g b) Q t u) t u):W2 pw (m1>>=f) (m2>>=g) Q t u:=by
 obtain⟨a,b,n,o,⟨c,d,k,m,q,j,l⟩,i,e⟩:=h;exact⟨c,d,k,m,q,λA E s P p=>Dc (i A E s _ (j A E s P p)),λA E s P p=>Dc (e A E s _ (l A E s P p))⟩
theorem W2.getS{Q:Ao->Ao->Ao->Ao->Prop}{t u:Ao}(h:Q t u t u):W2 pw get get Q t u:=⟨t,u,t,u,h,λ_ _ _ _ p=>wpS_get p,λ_ _ _ _ p=>wpS_get p⟩
theorem W2.modS{f g:Ao->Ao}{Q:PUnit->PUnit->Ao->Ao->Prop}{t u:Ao}(h:Q ⟨⟩ ⟨⟩ (f t) (g u)):W2 pw (modify f) (modify g) Q t u:=⟨⟨⟩,⟨⟩,f t,g u,h,λ_ _ _ _ p=>wpS_modify p,λ_ _ _ _ p=>wpS_modify p⟩
theorem W2.rul{x y:String}{Q:Unit->Unit->Ao->Ao->Prop}{t u:Ao}(h:Q () () t u):W2 pw (liftM (rule x)) (liftM (rule y)) Q t u:=⟨(),(),t,u,h,λ_ _ _ _ p=>wpS_lift (Fg ⟨rfl,p⟩),λ_ _ _ _ p=>wpS_lift (Fg ⟨rfl,p⟩)⟩
theorem W2.one{a b:α}{m1 m2:StateT Ao Sem α}{Q:α->α->Ao->Ao->Prop}{t u t' u':Ao}(h1:∀(A:Bo) (E:Af->Ai->Prop) (s:Ai) (P:α->Ao->Prop),P a t'->wpS (A5 pw.1 pw.2) A E s m1 P t)(h2:∀(A:Bo) (E:Af->Ai->Prop) (s:Ai) (P:α->Ao->Prop),P b u'->wpS (A5 pw.1 pw.2) A E s m2 P u)(h:Q a b t' u'):W2 pw m1 m2 Q t u:=⟨a,b,t',u',h,h1,h2⟩
theorem W2.ifT{c:Prop}{i1 i2:Decidable c}{m1 m2 n1 n2:StateT Ao Sem α}{Q:α->α->Ao->Ao->Prop}{t u:Ao}(z:c)(h:W2 pw m1 m2 Q t u):W2 pw (@ite _ c i1 m1 n1) (@ite _ c i2 m2 n2) Q t u:=by
 simp_all
theorem W2.ifF{c:Prop}{i1 i2:Decidable c}{m1 m2 n1 n2:StateT Ao Sem α}{Q:α->α->Ao->Ao->Prop}{t u:Ao}(z:¬c)(h:W2 pw n1 n2 Q t u):W2 pw (@ite _ c i1 m1 n1) (@ite _ c i2 m2 n2) Q t u:=by
 simp_all
def gn(Q I:β->β->Ao->Ao->Prop):ForInStep β->ForInStep β->Ao->Ao->Prop
 |.done c,.done d,t,u=>Q c d t u
 |.yield c,.yield d,t,u=>I c d t u
 |_,_,_,_=>False
theorem W2.forL{f g:Nat->β->StateT Ao Sem (ForInStep β)}(I:List Nat->β->β->Ao->Ao->Prop){Q:β->β->Ao->Ao->Prop}(step:∀i l c d t u,I (i::l) c d t u->W2 pw (f i c) (g i d) (gn Q (I l)) t u)(fin:∀c d t u,I [] c d t u->Q c d t u):
  ∀(l:List Nat){c d:β}{t u:Ao},I l c d t u->W2 pw (Gj l c f) (Gj l d g) Q t u
 |[],c,d,t,u,h=>W2.pur (fin _ _ _ _ h)
 |i::l,c,d,t,u,h=>by
  rw[List.forIn_cons,List.forIn_cons];refine W2.bind (W2.mono (step i l c d t u h) λr a t u q=>?_)
  match r,a,q with
  |.done c,.done d,q=>exact W2.pur q
  |.yield c,.yield d,q=>exact W2.forL I step fin l q
theorem W2.for{a b:Nat}{f g:Nat->β->StateT Ao Sem (ForInStep β)}(I:Nat->β->β->Ao->Ao->Prop){Q:β->β->Ao->Ao->Prop}(step:∀i c d t u,a<=i->i < b->I i c d t u->W2 pw (f i c) (g i d) (gn Q (I (i+1))) t u)(fin:∀c d t u,I (max a b) c d t u->Q c d t u){c d:β}{t u:Ao}(h:I a c d t u):W2 pw (Gj [a:b] c f) (Gj [a:b] d g) Q t u:=by
 rw[Ha,Ha];have e:[a:b].size=b-a:=by simp
 rw[e];refine W2.forL (λl c d t u=>∃i,a<=i/\l=List.range' i (b-i)/\(l=[]->max a b<=i)/\i<=max a b/\I i c d t u) (λi l c d t u J=>?_) (λc d t u J=>?_) _ ⟨a,Bc _,rfl,λz=>?_,Nat.le_max_left _ _,h⟩
 ·obtain⟨j,o,k,m,s,n⟩:=J;have v:j < b:=by
   by_cases z:j < b
   ·exact z
   ·rw[show b-j=0 by omega]at k;trivial
  rw[show b-j=(b-(j+1))+1 by omega]at k;obtain⟨rfl,rfl⟩:=Bp k;refine W2.mono (step i c d t u o v n) λr p t u q=>?_
  match r,p,q with
  |.done c,.done d,q=>exact q
  |.yield c,.yield d,q=>exact⟨i+1,by omega,rfl,λz=>by rw[List.range'_eq_nil_iff]at z;omega,by omega,q⟩
 ·obtain⟨j,o,k,m,s,n⟩:=J;exact fin c d t u (by rw[show max a b=j by have:=m rfl;omega];omega)
 ·rw[List.range'_eq_nil_iff]at z;omega
end
end KG
namespace KW
open PySem PySem.W PyProof.Rows
def iP:Bool->Bj->Array Bj->Nat->Nat->Nat->StateT Ao Sem (Option Nat):=sortPriv% PySem.Builtin.gallop
def bey(left:Bool)(m_:Bj)(arr:Array Bj)(i:Nat):StateT Ao Sem (Option Bool):=F4 arr i>>=λx=>if left=ah then lt' x m_ else lt' m_ x>>=λr=>pure (r.map (!·))
section
variable{prog:A1}{w:Bh}{A:Bo}{E:Af->Ai->Prop}{s:Ai}
theorem zZ{st:Ao}{arr:Array Bj}{i:Nat}{p:Bj}{Q:Bj->Ao->Prop}(e:arr[i]?=ae p)(h:Q p st):wpS (A5 prog w) A E s (F4 arr i) Q st:=by
 rw[elem'_eq,e];exact Dm h
theorem Tq{st:Ao}{left:Bool}{m_:Bj}{arr:Array Bj}{base n hint T:Nat}{Q:Option Nat->Ao->Prop}(hT:T<=n)(hh:hint < n)
  (hb:∀i,i < n->∀Q':Option Bool->Ao->Prop,Q' (ae (decide (i < T))) st->wpS (A5 prog w) A E s (bey left m_ arr (base+i)) Q' st)
  (h:Q (ae T) st):wpS (A5 prog w) A E s (iP left m_ arr base n hint) Q st:=by
 refine Dc (hb hint hh _ ?_);dsimp only;have k:∀lo j,lo<=T->T<=j->j<=n->wpS _ A E s (Gj [:n] (af,lo,j) λx (b:Option (Option Nat)×Nat×Nat)=>
   if b.2.1 ≥ b.2.2 then pure (D1 (af,b.2.1,b.2.2))
   else bey left m_ arr (base+(b.2.1+(b.2.2-b.2.1) / 2))>>=λr=>match r with
    |some g=>if g=ah then pure (Cr (af,b.2.1+(b.2.2-b.2.1) / 2+1,b.2.2))else pure (Cr (af,b.2.1,b.2.1+(b.2.2-b.2.1) / 2))
    |x=>pure (D1 (ae af,b.2.1,b.2.2))) (λr a=>a=st/\r.1=af/\r.2.2=T) st:=λlo j B D y=>by
  refine Gs (λi c a=>a=st/\c.1=af/\c.2.1<=T/\T<=c.2.2/\c.2.2<=n/\c.2.2-c.2.1<=n-i) (λi c a _ l I=>?_) (λc a I=>?_) ⟨rfl,rfl,B,D,y,by show j-lo<=n-0;omega⟩
  ·obtain⟨rfl,e,d,f,u,C⟩:=I;by_cases z:c.2.1 ≥ c.2.2
   ·rw[b_ z];exact Dm ⟨rfl,rfl,by show c.2.2=T;omega⟩
   ·rw[a_ z];refine Dc (hb _ ⋯ _ ?_);dsimp only;by_cases q:c.2.1+(c.2.2-c.2.1) / 2 < T
    ·rw[c_ q,b_ rfl];exact Dm ⟨rfl,rfl,by show c.2.1+(c.2.2-c.2.1) / 2+1<=T;omega,f,u,by show c.2.2-(c.2.1+(c.2.2-c.2.1) / 2+1)<=n-_;omega⟩
    ·rw[d_ q,a_ Ay];exact Dm ⟨rfl,rfl,d,by show T<=c.2.1+(c.2.2-c.2.1) / 2;omega,by show c.2.1+(c.2.2-c.2.1) / 2<=n;omega,by show c.2.1+(c.2.2-c.2.1) / 2-c.2.1<=n-_;omega⟩
  ·obtain⟨rfl,e,d,f,u,C⟩:=I;exact⟨rfl,e,by omega⟩
 by_cases v:hint < T
 ·rw[c_ v,b_ rfl];refine Dc (wpS_mono (Gs (Q:=λc a=>a=st/\c.1=af/\hint+c.2.1 < T/\T<=hint+min c.2.2 (n-hint)) (λi c a=>a=st/\c.1=af/\hint+c.2.1 < T/\i+1<=c.2.2) (λi c a _ l I=>?_) (λc a I=>?_) ⟨rfl,rfl,by omega,by simp⟩) λc a I=>?_)
  ·obtain⟨rfl,e,d,f⟩:=I;by_cases z:c.2.2 ≥ n-hint
   ·rw[b_ z];exact Dm ⟨rfl,rfl,d,by show T<=hint+min c.2.2 _;omega⟩
   ·rw[a_ z];refine Dc (hb _ ⋯ _ ?_);dsimp only;by_cases q:hint+c.2.2 < T
    ·rw[c_ q,a_ ∎];exact Dm ⟨rfl,rfl,q,by show i+1+1<=2*c.2.2+1;omega⟩
    ·rw[d_ q,b_ ∎];exact Dm ⟨rfl,rfl,d,by show T<=hint+min c.2.2 _;omega⟩
  ·obtain⟨rfl,e,d,f⟩:=I;exact⟨rfl,e,d,by omega⟩
  ·obtain⟨rfl,e,d,f⟩:=I;rw[e];refine Dc (wpS_mono (k _ _ ⋯ f ⋯) λr p I=>?_);obtain⟨rfl,o,t⟩:=I;rw[o];rw[t];exact Dm h
 ·rw[d_ v,a_ Ay];refine Dc (wpS_mono (Gs (Q:=λc a=>a=st/\c.1=af/\T+c.2.1<=hint/\hint+1-min c.2.2 (hint+1)<=T) (λi c a=>a=st/\c.1=af/\T+c.2.1<=hint/\i+1<=c.2.2) (λi c a _ l I=>?_) (λc a I=>?_) ⟨rfl,rfl,by show T+0<=hint;omega,by simp⟩) λc a I=>?_)
  ·obtain⟨rfl,e,d,f⟩:=I;by_cases z:c.2.2 ≥ hint+1
   ·rw[b_ z];exact Dm ⟨rfl,rfl,d,by show hint+1-min c.2.2 (hint+1)<=T;omega⟩
   ·rw[a_ z];refine Dc (hb (hint-c.2.2) ⋯ _ ?_);dsimp only;by_cases q:hint-c.2.2 < T
    ·rw[c_ q,b_ rfl];exact Dm ⟨rfl,rfl,d,by show hint+1-min c.2.2 (hint+1)<=T;omega⟩
    ·rw[d_ q,a_ Ay];exact Dm ⟨rfl,rfl,by show T+c.2.2<=hint;omega,by show i+1+1<=2*c.2.2+1;omega⟩
  ·obtain⟨rfl,e,d,f⟩:=I;exact⟨rfl,e,d,by omega⟩
  ·obtain⟨rfl,e,d,f⟩:=I;rw[e];refine Dc (wpS_mono (k _ _ f ⋯ ⋯) λr p I=>?_);obtain⟨rfl,o,t⟩:=I;rw[o];rw[t];exact Dm h
end
end KW
namespace KW
open PySem PySem.W PyProof.Rows
def qV:Array Bj->Array Bj->StateT Ao Sem (Array Bj):=sortPriv% PySem.Builtin.mergeLo
def pj:Array Bj->Array Bj->StateT Ao Sem (Array Bj):=sortPriv% PySem.Builtin.mergeHi
abbrev ig(st:Ao)(g:Nat):Ao:=C9 (kindOf st) (Dv st) (Bq st) g (Ga st)
def ku:Nat->StateT Ao Sem Unit:=sortPriv% PySem.Builtin.setMinGallop
section
variable{prog:A1}{w:Bh}{A:Bo}{E:Af->Ai->Prop}{s:Ai}
theorem CZ{st:Ao}{g:Nat}{Q:Unit->Ao->Prop}(h:Q () (ig st g)):wpS (A5 prog w) A E s (ku g) Q st:=wpS_modify h
end
end KW
namespace KG
open PySem PySem.W PyProof.Rows KW
variable{G:Str->Tok->Tok->Prop}
def RK(G:Str->Tok->Tok->Prop)(x y:Bj):Prop:=∃(s:Str)(t u:Tok),G s t u/\x=(.str s t,.str s t)/\y=(.str s u,.str s u)
def RA(G:Str->Tok->Tok->Prop)(a b:Array Bj):Prop:=a.size=b.size/\∀i,i < a.size->∃x y,a[i]?=ae x/\b[i]?=ae y/\RK G x y
theorem RA.sz{a b:Array Bj}(h:RA G a b):b.size=a.size:=h.1.symm
theorem RA.get{a b:Array Bj}(h:RA G a b){i:Nat}(hi:i < a.size):∃x y,a[i]?=ae x/\b[i]?=ae y/\RK G x y:=h.2 i hi
theorem RA.one{x y:Bj}(h:RK G x y):RA G #[x] #[y]:=⟨rfl,λi a=>by
 have:=by simp at a;omega
 subst this;exact⟨x,y,rfl,rfl,h⟩⟩
theorem RA.push{a b:Array Bj}(h:RA G a b){x y:Bj}(k:RK G x y):RA G (a.push x) (b.push y):=⟨by simp[h.1],λi g=>by
 rw[Array.size_push]at g;by_cases z:i < a.size
 ·obtain⟨j,f,e,c,d⟩:=h.2 i z;exact⟨j,f,by rw[Array.getElem?_push_lt z,Cg z]at *;rw[<-e],by rw[Array.getElem?_push_lt _];rw[Cg (by rw[<-h.1];exact z)]at c;rw[<-c],d⟩
 ·have:i=a.size:=by omega
  subst this;exact⟨x,y,by simp,by rw[h.1];simp,k⟩⟩
theorem RA.app{a b c d:Array Bj}(h:RA G a b)(k:RA G c d):RA G (a++c) (b++d):=⟨by simp[h.1,k.1],λi e=>by
 rw[Array.size_append]at e;by_cases z:i < a.size
 ·rw[Array.getElem?_append_left z,Array.getElem?_append_left (by rw[<-h.1];exact z)];exact h.2 i z
 ·rw[Array.getElem?_append_right ⋯,Array.getElem?_append_right (by rw[<-h.1];omega),<-h.1];exact k.2 _ ⋯⟩
theorem RA.ex{a b:Array Bj}(h:RA G a b)(i j:Nat):RA G (a.extract i j) (b.extract i j):=⟨by simp[h.1],λk c=>by
 rw[Array.size_extract]at c;rw[Array.getElem?_extract,Array.getElem?_extract,<-h.1,b_ ⋯,b_ ⋯];exact h.2 _ ⋯⟩
theorem RA.rev{a b:Array Bj}(h:RA G a b):RA G a.reverse b.reverse:=⟨by simp[h.1],λi c=>by
 rw[Array.size_reverse]at c;rw[Array.getElem?_reverse c,Array.getElem?_reverse (by rw[<-h.1];omega),<-h.1];exact h.2 _ ⋯⟩
structure RS(G:Str->Tok->Tok->Prop)(t u:Ao):Prop where
 k1:kindOf t=Dp
 k2:kindOf u=Dp
 pd:Bq u=Bq t
 gl:gallopOf u=gallopOf t
 ar:RA G (Dv t) (Dv u)
section
variable{pw:A1×Bh}{α β:Type}
theorem DH{prog:A1}{w:Bh}{A:Bo}{E:Af->Ai->Prop}{s:Ai}{st:Ao}{a b:Str}{t u:Tok}{p q:Af}{Q:Option Bool->Ao->Prop}(hk:kindOf st=Dp)(h:Q (ae (decide (a.cps.toList < b.cps.toList))) st):
  wpS (A5 prog w) A E s (lt' (.str a t,p) (.str b u,q)) Q st:=by
 rw[lt'_eq];refine Dc (wpS_get ?_);rw[hk];exact Dc (wpS_lift (En (oneLt_str ⟨rfl,Dm h⟩)))
theorem W2.ltS{t u:Ao}(R:RS G t u){x x' y y':Bj}(hx:RK G x x')(hy:RK G y y'){Q:Option Bool->Option Bool->Ao->Ao->Prop}(h:∀b,Q (ae b) (ae b) t u):W2 pw (lt' x y) (lt' x' y') Q t u:=by
 obtain⟨s,d,f,_,rfl,rfl⟩:=hx;obtain⟨e,a,c,_,rfl,rfl⟩:=hy;exact W2.one (λ_ _ _ P p=>DH R.k1 p) (λ_ _ _ P p=>DH R.k2 p) (h _)
theorem W2.elS{t u:Ao}{a b:Array Bj}(h:RA G a b){i:Nat}(hi:i < a.size){Q:Bj->Bj->Ao->Ao->Prop}(q:∀x y,RK G x y->Q x y t u):W2 pw (F4 a i) (F4 b i) Q t u:=by
 obtain⟨x,y,c,d,k⟩:=h.get hi;exact W2.one (λ_ _ _ P p=>zZ c p) (λ_ _ _ P p=>zZ d p) (q x y k)
theorem W2.beyS{t u:Ao}(R:RS G t u){left:Bool}{m_ key':Bj}(hk:RK G m_ key'){a b:Array Bj}(h:RA G a b){i:Nat}(hi:i < a.size){Q:Option Bool->Option Bool->Ao->Ao->Prop}(q:∀b,Q (ae b) (ae b) t u):W2 pw (bey left m_ a i) (bey left key' b i) Q t u:=by
 refine W2.bind (W2.elS h hi λx y k=>?_);cases left with
 |true=>exact W2.ltS R k hk q
 |false=>exact W2.bind (W2.ltS R hk k λb=>W2.pur (q _))
theorem W2.galS{t u:Ao}(R:RS G t u){left:Bool}{m_ key':Bj}(hk:RK G m_ key'){a b:Array Bj}(h:RA G a b){base n hint:Nat}(hb:base+n<=a.size)(hh:hint < n){Q:Option Nat->Option Nat->Ao->Ao->Prop}(q:∀k,k<=n->Q (ae k) (ae k) t u):W2 pw (iP left m_ a base n hint) (iP left key' b base n hint) Q t u:=by
 refine W2.bind (W2.beyS R hk h ⋯ λright=>?_);dsimp only;have m:∀E v,v<=n->W2 pw (Gj [:n] _ λx e=>
   if e.2.1 ≥ e.2.2 then pure (D1 _)
   else KW.bey left m_ a _>>=λr=>match r with
    |some more=>if more=ah then pure (Cr _)else pure (Cr _)
    |x=>pure (D1 (ae af,e.2.1,e.2.2)))
   (Gj [:n] (af,E,v) λx e=>
   if e.2.1 ≥ e.2.2 then pure (D1 (af,e.2.1,e.2.2))
   else KW.bey left key' b (base+(e.2.1+(e.2.2-e.2.1) / 2))>>=λr=>match r with
    |some more=>if more=ah then pure (Cr (af,e.2.1+(e.2.2-e.2.1) / 2+1,e.2.2))else pure (Cr (af,e.2.1,e.2.1+(e.2.2-e.2.1) / 2))
    |x=>pure (D1 (ae af,e.2.1,e.2.2))) _ t u:=λlo v C=>by
  refine W2.for (λi (c d:Option (Option Nat)×Nat×Nat) j g=>j=t/\g=u/\c=d/\c.1=af/\c.2.2<=n) (λi c d j g _ _ I=>?_) (λc d j g I=>I) ⟨rfl,rfl,rfl,rfl,C⟩;obtain⟨rfl,rfl,rfl,l,B⟩:=I;by_cases z:c.2.1 ≥ c.2.2
  ·rw[b_ z,b_ z];exact W2.pur ⟨rfl,rfl,rfl,rfl,B⟩
  ·rw[a_ z,a_ z];refine W2.bind (W2.beyS R hk h ⋯ λmore=>?_);cases more with
   |true=>
    exact W2.pur ⟨rfl,rfl,rfl,rfl,B⟩
   |false=>
    exact W2.pur ⟨rfl,rfl,rfl,rfl,by show c.2.1+(c.2.2-c.2.1) / 2<=n;omega⟩
 cases right with
 |true=>
  try rw[b_ rfl]
  refine W2.bind (W2.mono (W2.for (λi c d j g=>j=t/\g=u/\c=d/\c.1=af) (λi c d j g _ _ I=>?_) (λc d j g I=>I) ⟨rfl,rfl,rfl,rfl⟩) λr D j g I=>?_)
  ·obtain⟨rfl,rfl,rfl,l⟩:=I;by_cases z:c.2.2 ≥ n-hint
   ·rw[b_ z,b_ z];exact W2.pur ⟨rfl,rfl,rfl,rfl⟩
   ·rw[a_ z,a_ z];refine W2.bind (W2.beyS R hk h ⋯ λmore=>?_);cases more with
    |true=>
     exact W2.pur ⟨rfl,rfl,rfl,rfl⟩
    |false=>
     exact W2.pur ⟨rfl,rfl,rfl,rfl⟩
  ·obtain⟨rfl,rfl,rfl,l⟩:=I;rw[l];refine W2.bind (W2.mono (m _ _ ⋯) λr2 s H F y=>?_);obtain⟨rfl,rfl,rfl,p,w⟩:=y;rw[p];exact W2.pur (q _ w)
 |false=>
  try rw[a_ Ay]
  refine W2.bind (W2.mono (W2.for (λi c d j g=>j=t/\g=u/\c=d/\c.1=af) (λi c d j g _ _ I=>?_) (λc d j g I=>I) ⟨rfl,rfl,rfl,rfl⟩) λr D j g I=>?_)
  ·obtain⟨rfl,rfl,rfl,l⟩:=I;by_cases z:c.2.2 ≥ hint+1
   ·rw[b_ z,b_ z];exact W2.pur ⟨rfl,rfl,rfl,rfl⟩
   ·rw[a_ z,a_ z];refine W2.bind (W2.beyS R hk h ⋯ λfound=>?_);cases found with
    |true=>
     exact W2.pur ⟨rfl,rfl,rfl,rfl⟩
    |false=>
     exact W2.pur ⟨rfl,rfl,rfl,rfl⟩
  ·obtain⟨rfl,rfl,rfl,l⟩:=I;rw[l];refine W2.bind (W2.mono (m _ _ ⋯) λr2 s H F y=>?_);obtain⟨rfl,rfl,rfl,p,w⟩:=y;rw[p];exact W2.pur (q _ w)
end
end KG
namespace KG
open PySem PySem.W PyProof.Rows KW
variable{G:Str->Tok->Tok->Prop}
section
variable{pw:A1×Bh}{α β:Type}
theorem RS.gal{t u:Ao}(R:RS G t u)(g:Nat):RS G (ig t g) (ig u g):=⟨R.k1,R.k2,R.pd,rfl,R.ar⟩
def SG(t t':Ao):Prop:=kindOf t'=kindOf t/\Dv t'=Dv t/\Bq t'=Bq t/\Ga t'=Ga t
theorem SG.refl(t:Ao):SG t t:=⟨rfl,rfl,rfl,rfl⟩
theorem SG.gal{t t':Ao}(h:SG t t')(g:Nat):SG t (ig t' g):=⟨h.1,h.2.1,h.2.2.1,h.2.2.2⟩
theorem W2.setG{g:Nat}{t u:Ao}{Q:Unit->Unit->Ao->Ao->Prop}(h:Q () () (ig t g) (ig u g)):W2 pw (ku g) (ku g) Q t u:=W2.one (λ_ _ _ P p=>CZ p) (λ_ _ _ P p=>CZ p) h
abbrev LO:=Option (Array Bj)×Array Bj×Nat×Nat×Nat×Nat
abbrev LG:=Option (Array Bj)×Array Bj×Nat×Nat×Nat×Nat×Nat
abbrev LM:=Option (Array Bj)×Array Bj×Nat×Nat×Nat
def df(G:Str->Tok->Tok->Prop)(x y:Option (Array Bj)):Prop:=∃r r',x=ae r/\y=ae r'/\RA G r r'
def loJ3(na nb:Nat)(a b out:Array Bj)(ia ib g ac bc:Nat):StateT Ao Sem (ForInStep LG):=F4 a ia>>=λx=>
 if (ia+1+1==na)=ah then pure (.done (ae (out.push x++b.extract ib nb++a.extract (ia+1) na),out.push x,ia+1,ib,g,ac,bc))else
 if (decide (ac < 7)&&decide (bc < 7))=ah then pure (.done (af,out.push x,ia+1,ib,g,ac,bc))else pure (.yield (af,out.push x,ia+1,ib,g,ac,bc))
def loJ2(na nb:Nat)(a b out:Array Bj)(ia ib g ac bc:Nat):StateT Ao Sem (ForInStep LG):=F4 b ib>>=λx=>
 if (ib+1==nb)=ah then pure (.done (ae (out.push x++a.extract ia na++b.extract (ib+1) nb),out.push x,ia,ib+1,g,ac,bc))else
 F4 a ia>>=λy=>iP ah y b (ib+1) (nb-(ib+1)) 0>>=λr=>match r with
 |some k=>if k > 0 then(if (ib+1+k==nb)=ah then pure (.done (ae (out.push x++b.extract (ib+1) (ib+1+k)++a.extract ia na++b.extract (ib+1+k) nb),out.push x++b.extract (ib+1) (ib+1+k),ia,ib+1+k,g,ac,k))else
   loJ3 na nb a b (out.push x++b.extract (ib+1) (ib+1+k)) ia (ib+1+k) g ac k)else loJ3 na nb a b (out.push x) ia (ib+1) g ac k
 |_=>pure (.done (ae (out.push x++a.extract ia na++b.extract (ib+1) nb),out.push x,ia,ib+1,g,ac,bc))
def loJ1(na nb:Nat)(a b out:Array Bj)(ia ib g ac bc:Nat):StateT Ao Sem (ForInStep LG):=ku g>>=λ_=>F4 b ib>>=λx=>iP ai x a ia (na-ia) 0>>=λr=>match r with
 |some k=>if k > 0 then(if (ia+k+1==na)=ah then pure (.done (ae (out++a.extract ia (ia+k)++b.extract ib nb++a.extract (ia+k) na),out++a.extract ia (ia+k),ia+k,ib,g,k,bc))else
   if (ia+k==na)=ah then pure (.done (ae (out++a.extract ia (ia+k)++a.extract (ia+k) na++b.extract ib nb),out++a.extract ia (ia+k),ia+k,ib,g,k,bc))else
   loJ2 na nb a b (out++a.extract ia (ia+k)) (ia+k) ib g k bc)else loJ2 na nb a b out ia ib g k bc
 |_=>pure (.done (ae (out++a.extract ia na++b.extract ib nb),out,ia,ib,g,ac,bc))
structure PQ(G:Str->Tok->Tok->Prop)(na nb m:Nat)(Q:ForInStep LG->ForInStep LG->Ao->Ao->Prop)(t u:Ao):Prop where
 d:∀{r r':Array Bj}{p p':Array Bj×Nat×Nat×Nat×Nat×Nat},RA G r r'->Q (.done (ae r,p)) (.done (ae r',p')) t u
 n:∀{o o':Array Bj}{ia ib:Nat}{s:Nat×Nat×Nat},RA G o o'->ia+1 < na->ib < nb->m+1<=ia+ib->Q (.done (af,o,ia,ib,s)) (.done (af,o',ia,ib,s)) t u
 y:∀{o o':Array Bj}{ia ib:Nat}{s:Nat×Nat×Nat},RA G o o'->ia+1 < na->ib < nb->m+1<=ia+ib->Q (.yield (af,o,ia,ib,s)) (.yield (af,o',ia,ib,s)) t u
section
variable{t u:Ao}{a a' b b' out out':Array Bj}{Q:ForInStep LG->ForInStep LG->Ao->Ao->Prop}{ia ib g ac bc m:Nat}
theorem W2.loJ3(ha:RA G a a')(hb:RA G b b')(ro:RA G out out')(h3:ia+1 < a.size)(h4:ib < b.size)(h5:m<=ia+ib)(q:PQ G a.size b.size m Q t u):W2 pw (loJ3 a.size b.size a b out ia ib g ac bc) (loJ3 a.size b.size a' b' out' ia ib g ac bc) Q t u:=by
 refine W2.bind (W2.elS ha ⋯ λx y c=>?_);by_cases z:(ia+1+1==a.size)=ah
 ·exact W2.ifT z (W2.pur (q.d (((ro.push c).app (hb.ex _ _)).app (ha.ex _ _))))
 ·have f:¬ia+1+1=a.size:=λy=>z (by simpa using y);refine W2.ifF z ?_;by_cases e:(decide (ac < 7)&&decide (bc < 7))=ah
  ·exact W2.ifT e (W2.pur (q.n (ro.push c) ⋯ h4 ⋯))
  ·exact W2.ifF e (W2.pur (q.y (ro.push c) ⋯ h4 ⋯))
theorem W2.loJ2(R:RS G t u)(ha:RA G a a')(hb:RA G b b')(ro:RA G out out')(h3:ia+1 < a.size)(h4:ib < b.size)(h5:m<=ia+ib)(q:PQ G a.size b.size m Q t u):W2 pw (loJ2 a.size b.size a b out ia ib g ac bc) (loJ2 a.size b.size a' b' out' ia ib g ac bc) Q t u:=by
 refine W2.bind (W2.elS hb h4 λx y c=>?_);by_cases z:(ib+1==b.size)=ah
 ·exact W2.ifT z (W2.pur (q.d (((ro.push c).app (ha.ex _ _)).app (hb.ex _ _))))
 ·have j:¬ib+1=b.size:=λy=>z (by simpa using y);refine W2.ifF z (W2.bind (W2.elS ha ⋯ λx3 i h=>W2.bind (W2.galS R h hb ⋯ ⋯ λk l=>?_)));by_cases f:k > 0
  ·refine W2.ifT f ?_;by_cases e:(ib+1+k==b.size)=ah
   ·exact W2.ifT e (W2.pur (q.d ((((ro.push c).app (hb.ex _ _)).app (ha.ex _ _)).app (hb.ex _ _))))
   ·have n:¬ib+1+k=b.size:=λy=>e (by simpa using y);exact W2.ifF e (W2.loJ3 ha hb ((ro.push c).app (hb.ex _ _)) h3 ⋯ ⋯ q)
  ·exact W2.ifF f (W2.loJ3 ha hb (ro.push c) h3 ⋯ ⋯ q)
theorem W2.loJ1(R:RS G t u)(ha:RA G a a')(hb:RA G b b')(ro:RA G out out')(h3:ia+1 < a.size)(h4:ib < b.size)(h5:m<=ia+ib)(q:PQ G a.size b.size m Q (ig t g) (ig u g)):W2 pw (loJ1 a.size b.size a b out ia ib g ac bc) (loJ1 a.size b.size a' b' out' ia ib g ac bc) Q t u:=by
 refine W2.bind (W2.setG (W2.bind (W2.elS hb h4 λx y h=>W2.bind (W2.galS (R.gal _) h ha ⋯ ⋯ λk j=>?_))));by_cases f:k > 0
 ·refine W2.ifT f ?_;by_cases c:(ia+k+1==a.size)=ah
  ·exact W2.ifT c (W2.pur (q.d (((ro.app (ha.ex _ _)).app (hb.ex _ _)).app (ha.ex _ _))))
  ·refine W2.ifF c ?_;by_cases e:(ia+k==a.size)=ah
   ·exact W2.ifT e (W2.pur (q.d (((ro.app (ha.ex _ _)).app (ha.ex _ _)).app (hb.ex _ _))))
   ·have i:¬ia+k+1=a.size:=λy=>c (by simpa using y);have l:¬ia+k=a.size:=λy=>e (by simpa using y);exact W2.ifF e (W2.loJ2 (R.gal _) ha hb (ro.app (ha.ex _ _)) ⋯ h4 ⋯ q)
 ·exact W2.ifF f (W2.loJ2 (R.gal _) ha hb ro h3 h4 h5 q)
end
def vE(na nb:Nat)(a b:Array Bj)(g:Nat)(_:Nat):LO->StateT Ao Sem (ForInStep LO):=λ(_,out,ia,ib,ac,bc)=>F4 b ib>>=λx=>F4 a ia>>=λy=>lt' x y>>=λr=>match r with
 |some w=>if w=ah then F4 b ib>>=λx=>if (ib+1==nb)=ah then pure (.done (ae (out.push x++a.extract ia na++b.extract (ib+1) nb),out.push x,ia,ib+1,0,bc+1))else
   if bc+1 ≥ g then pure (.done (af,out.push x,ia,ib+1,0,bc+1))else pure (.yield (af,out.push x,ia,ib+1,0,bc+1))
  else F4 a ia>>=λx=>if (ia+1+1==na)=ah then pure (.done (ae (out.push x++b.extract ib nb++a.extract (ia+1) na),out.push x,ia+1,ib,ac+1,0))else
   if ac+1 ≥ g then pure (.done (af,out.push x,ia+1,ib,ac+1,0))else pure (.yield (af,out.push x,ia+1,ib,ac+1,0))
 |_=>pure (.done (ae (out++a.extract ia na++b.extract ib nb),out,ia,ib,ac,bc))
def km(na nb:Nat)(a b:Array Bj)(_:Nat):LG->StateT Ao Sem (ForInStep LG):=λ(_,out,ia,ib,g,ac,bc)=>if g > 1 then loJ1 na nb a b out ia ib (g-1) ac bc else loJ1 na nb a b out ia ib g ac bc
def sY(na nb:Nat)(a b:Array Bj)(_:Nat):LM->StateT Ao Sem (ForInStep LM):=λ(_,out,ia,ib,g)=>Gj [:na+nb] ((af,out,ia,ib,0,0):LO) (vE na nb a b g)>>=λs=>match s.1 with
 |some r=>pure (.done (ae r,s.2.1,s.2.2.1,s.2.2.2.1,g))
 |none=>liftM (rule "list.sort.gallop")>>=λ_=>Gj [:na+nb] ((af,s.2.1,s.2.2.1,s.2.2.2.1,g+1,s.2.2.2.2):LG) (km na nb a b)>>=λs=>match s.1 with
  |some r=>pure (.done (ae r,s.2.1,s.2.2.1,s.2.2.2.1,s.2.2.2.2.1))
  |none=>ku (s.2.2.2.2.1+1)>>=λ_=>pure (.yield (af,s.2.1,s.2.2.1,s.2.2.2.1,s.2.2.2.2.1+1))
theorem BA(a b:Array Bj):qV a b=(liftM (rule "list.sort.merge-lo")>>=λ_=>F4 b 0>>=λx=>if (1==b.size)=ah then pure (#[x]++a.extract 0++b.extract 1)else if (0+1==a.size)=ah then pure (#[x]++b.extract 1++a.extract 0)else
  get>>=λs=>Gj [:a.size+b.size] ((af,#[x],0,1,gallopOf s):LM) (sY a.size b.size a b)>>=λs=>match s.1 with
  |some r=>pure r
  |none=>liftM (unsupported "internal:list.sort.merge-bound")):=by kernel_rfl
structure LoI{σ:Type}(G:Str->Tok->Tok->Prop)(a b:Array Bj)(k:Nat)(c d:Option (Array Bj)×Array Bj×Nat×Nat×σ):Prop where
 e1:c.1=af
 e2:d.1=af
 ro:RA G c.2.1 d.2.1
 e3:c.2.2=d.2.2
 h3:c.2.2.1+1 < a.size
 h4:c.2.2.2.1 < b.size
 h5:k<=c.2.2.1+c.2.2.2.1
theorem LoI.ex{σ:Type}{a b:Array Bj}{k:Nat}{c d:Option (Array Bj)×Array Bj×Nat×Nat×σ}(I:LoI G a b k c d):∃(o o':Array Bj)(s:Nat×Nat×σ),c=(af,o,s)/\d=(af,o',s)/\RA G o o'/\s.1+1 < a.size/\s.2.1 < b.size/\k<=s.1+s.2.1:=by
 obtain⟨m,o,s⟩:=c;obtain⟨p,o',n⟩:=d;obtain⟨f,l,j,e,g,h,i⟩:=I;dsimp only at f l j e g h i;subst f l e;exact⟨o,o',s,rfl,rfl,j,g,h,i⟩
section
variable{t u:Ao}{a a' b b':Array Bj}
theorem W2.loSs{i j g:Nat}{c d:LO}(R':RS G t u)(ha:RA G a a')(hb:RA G b b')(I:LoI G a b (i+1+j) c d):W2 pw (vE a.size b.size a b g j c) (vE a.size b.size a' b' g j d) (gn (λc d t2 u2=>(df G c.1 d.1\/LoI G a b (i+2) c d)/\t2=t/\u2=u) λc d t2 u2=>LoI G a b (i+1+(j+1)) c d/\t2=t/\u2=u) t u:=by
 obtain⟨s,p,⟨e,f,w,v⟩,rfl,rfl,h,o,n,q⟩:=I.ex;dsimp only at o n q;refine W2.bind (W2.elS hb n λx y m=>W2.bind (W2.elS ha ⋯ λx' A k=>?_));refine W2.bind (W2.ltS R' m k λr=>?_);cases r with
 |true=>
  refine W2.ifT (rfl) (W2.bind (W2.elS hb n λx y m=>?_));by_cases z:(f+1==b.size)=ah
  ·exact W2.ifT (z) (W2.pur ⟨.inl ⟨_,_,rfl,rfl,(((h.push m).app (ha.ex _ _)).app (hb.ex _ _))⟩,rfl,rfl⟩)
  ·refine W2.ifF (z) ?_;have:¬f+1=b.size:=λy=>z (by simpa using y);by_cases l:v+1 ≥ g
   ·exact W2.ifT (l) (W2.pur ⟨.inr ⟨rfl,rfl,h.push m,rfl,o,by show f+1 < b.size;omega,by show i+2<=e+(f+1);omega⟩,rfl,rfl⟩)
   ·exact W2.ifF (l) (W2.pur ⟨⟨rfl,rfl,h.push m,rfl,o,by show f+1 < b.size;omega,by show i+1+(j+1)<=e+(f+1);omega⟩,rfl,rfl⟩)
 |false=>
  refine W2.ifF (Ay) (W2.bind (W2.elS ha ⋯ λx y k=>?_));by_cases z:(e+1+1==a.size)=ah
  ·exact W2.ifT (z) (W2.pur ⟨.inl ⟨_,_,rfl,rfl,(((h.push k).app (hb.ex _ _)).app (ha.ex _ _))⟩,rfl,rfl⟩)
  ·refine W2.ifF (z) ?_;have:¬e+1+1=a.size:=λy=>z (by simpa using y);by_cases l:w+1 ≥ g
   ·exact W2.ifT (l) (W2.pur ⟨.inr ⟨rfl,rfl,h.push k,rfl,by show e+1+1 < a.size;omega,n,by show i+2<=e+1+f;omega⟩,rfl,rfl⟩)
   ·exact W2.ifF (l) (W2.pur ⟨⟨rfl,rfl,h.push k,rfl,by show e+1+1 < a.size;omega,n,by show i+1+(j+1)<=e+1+f;omega⟩,rfl,rfl⟩)
theorem W2.loGs{t3 u3:Ao}{i j:Nat}{c d:LG}(ha:RA G a a')(hb:RA G b b')(I:LoI G a b (i+2+j) c d/\RS G t3 u3/\SG t t3/\SG u u3):W2 pw (km a.size b.size a b j c) (km a.size b.size a' b' j d) (gn (λc d t3 u3=>(df G c.1 d.1\/LoI G a b (i+2) c d)/\RS G t3 u3/\SG t t3/\SG u u3) λc d t3 u3=>LoI G a b (i+2+(j+1)) c d/\RS G t3 u3/\SG t t3/\SG u u3) t3 u3:=by
 obtain⟨I,e,l,m⟩:=I;obtain⟨v,r,⟨y,A,g,B,x⟩,rfl,rfl,s,o,q,p⟩:=I.ex;by_cases z:g > 1
 ·exact W2.ifT z (W2.loJ1 e ha hb s o q p ⟨λhr=>⟨.inl ⟨_,_,rfl,rfl,hr⟩,e.gal _,l.gal _,m.gal _⟩,λho h f k=>⟨.inr ⟨rfl,rfl,ho,rfl,h,f,A0 ⋯ k⟩,e.gal _,l.gal _,m.gal _⟩,λho h f k=>⟨⟨rfl,rfl,ho,rfl,h,f,k⟩,e.gal _,l.gal _,m.gal _⟩⟩)
 ·exact W2.ifF z (W2.loJ1 e ha hb s o q p ⟨λhr=>⟨.inl ⟨_,_,rfl,rfl,hr⟩,e.gal _,l.gal _,m.gal _⟩,λho h f k=>⟨.inr ⟨rfl,rfl,ho,rfl,h,f,A0 ⋯ k⟩,e.gal _,l.gal _,m.gal _⟩,λho h f k=>⟨⟨rfl,rfl,ho,rfl,h,f,k⟩,e.gal _,l.gal _,m.gal _⟩⟩)
theorem W2.loOs{t' u':Ao}{i:Nat}{c d:LM}(ha:RA G a a')(hb:RA G b b')(I:LoI G a b (i+1) c d/\RS G t' u'/\SG t t'/\SG u u'):W2 pw (sY a.size b.size a b i c) (sY a.size b.size a' b' i d) (gn (λc d t' u'=>df G c.1 d.1/\RS G t' u'/\SG t t'/\SG u u') λc d t' u'=>LoI G a b (i+1+1) c d/\RS G t' u'/\SG t t'/\SG u u') t' u':=by
 obtain⟨I,v,B,y⟩:=I;obtain⟨m,g,⟨z,_⟩,rfl,rfl,p,l,o,q⟩:=I.ex;refine W2.bind (W2.mono (W2.for (Q:=λc d k h=>(df G c.1 d.1\/LoI G a b (i+2) c d)/\k=t'/\h=u') (λj c d k h=>LoI G a b (i+1+j) c d/\k=t'/\h=u') (λj c d k h _ E I=>?_) (λc d k h I=>?_) ⟨⟨rfl,rfl,p,rfl,l,o,by omega⟩,rfl,rfl⟩) λc d k h I=>?_)
 ·obtain⟨I,rfl,rfl⟩:=I;exact W2.loSs v ha hb I
 ·obtain⟨⟨n,_⟩,rfl,rfl⟩:=I;grind
 ·obtain⟨I,rfl,rfl⟩:=I;rcases I with⟨r,s,n,x,w⟩|I
  ·rw[n,x];exact W2.pur ⟨⟨r,s,rfl,rfl,w⟩,v,B,y⟩
  ·obtain⟨m,g,⟨z,_⟩,rfl,rfl,p,l,o,q⟩:=I.ex;refine W2.bind (W2.rul (W2.bind (W2.mono (W2.for (Q:=λc d f e=>(df G c.1 d.1\/LoI G a b (i+2) c d)/\RS G f e/\SG t f/\SG u e) (λj c d f e=>LoI G a b (i+2+j) c d/\RS G f e/\SG t f/\SG u e) (λj c d f e _ E I=>?_) (λc d f e I=>?_) ⟨⟨rfl,rfl,p,rfl,l,o,by omega⟩,v,B,y⟩) λc d f e I=>?_)))
   ·exact W2.loGs ha hb I
   ·obtain⟨⟨n,_⟩,_⟩:=I;grind
   ·obtain⟨I,A,C,D⟩:=I;rcases I with⟨r,s,n,x,w⟩|I
    ·rw[n,x];exact W2.pur ⟨⟨r,s,rfl,rfl,w⟩,A,C,D⟩
    ·obtain⟨m,g,⟨z,_⟩,rfl,rfl,p,l,o,q⟩:=I.ex;exact W2.bind (W2.setG (W2.pur ⟨⟨rfl,rfl,p,rfl,l,o,q⟩,A.gal _,C.gal _,D.gal _⟩))
end
theorem W2.mLo{t u:Ao}(R:RS G t u){a a' b b':Array Bj}(ha:RA G a a')(hb:RA G b b')(h1:1<=a.size)(h2:1<=b.size){Q:Array Bj->Array Bj->Ao->Ao->Prop}(q:∀r r' t' u',RA G r r'->RS G t' u'->SG t t'->SG u u'->Q r r' t' u'):W2 pw (qV a b) (qV a' b') Q t u:=by
 rw[BA,BA];refine W2.bind (W2.rul (W2.bind (W2.elS hb ⋯ λx y k=>?_)));have B:∀o e i j,RA G o e->RA G _ (e++a'.extract i a.size++b'.extract j b.size):=λo e i j h=>(h.app (ha.ex i _)).app (hb.ex j _);have v:∀o e i j,RA G o e->RA G _ (e++b'.extract j b.size++a'.extract i a.size):=λo e i j h=>(h.app (hb.ex j _)).app (ha.ex i _);rw[<-ha.1,<-hb.1];by_cases l:(1==b.size)=ah
 ·exact W2.ifT (l) (W2.pur (q _ _ _ _ (B _ _ _ _ (RA.one k)) R (SG.refl _) (SG.refl _)))
 ·refine W2.ifF (l) ?_;by_cases n:(0+1==a.size)=ah
  ·exact W2.ifT (n) (W2.pur (q _ _ _ _ (v _ _ _ _ (RA.one k)) R (SG.refl _) (SG.refl _)))
  ·refine W2.ifF (n) ?_;have m:1 < b.size:=by have:¬1=b.size:=λz=>l (by simpa using z);omega
   have f:1 < a.size:=by have:¬1=a.size:=λz=>n (by simpa using z);omega
   refine W2.bind (W2.getS (W2.bind (W2.mono (W2.for (Q:=λc d t' u'=>df G c.1 d.1/\RS G t' u'/\SG t t'/\SG u u') (λi c d t' u'=>LoI G a b (i+1) c d/\RS G t' u'/\SG t t'/\SG u u') (λi c d t' u' _ E I=>?_) (λc d t' u' I=>?_) ⟨⟨rfl,rfl,RA.one k,?_,f,m,Bc _⟩,R,SG.refl _,SG.refl _⟩) λc d t' u' I=>?_)))
   ·exact W2.loOs ha hb I
   ·obtain⟨⟨p,_⟩,_⟩:=I;grind
   ·exact congrArg (λg=>(0,1,g)) R.gl.symm
   ·obtain⟨⟨r,r',p,D,C⟩,A,w,s⟩:=I;rw[p,D];exact W2.pur (q _ _ _ _ C A w s)
end
end KG
namespace KG
open PySem PySem.W PyProof.Rows KW
variable{G:Str->Tok->Tok->Prop}
section
variable{pw:A1×Bh}{α β:Type}
abbrev qB:=Option (Array Bj)×Nat×Nat×Array Bj×Nat×Nat
abbrev gO:=Option (Array Bj)×Nat×Nat×Array Bj×Nat×Nat×Nat
abbrev o4:=Option (Array Bj)×Nat×Nat×Array Bj×Nat
abbrev h9(a b:Array Bj)(na nb:Nat)(out:Array Bj):Array Bj:=a.extract 0 na++b.extract 0 nb++out.reverse
abbrev ll(a b:Array Bj)(na nb:Nat)(out:Array Bj):Array Bj:=b.extract 0 nb++a.extract 0 na++out.reverse
def hiJ3(a b:Array Bj)(na nb:Nat)(out:Array Bj)(g ac bc:Nat):StateT Ao Sem (ForInStep gO):=F4 a (na-1)>>=λx=>
 if (na-1==0)=ah then pure (.done (ae (h9 a b (na-1) nb (out.push x)),na-1,nb,out.push x,g,ac,bc))else
 if (decide (ac < 7)&&decide (bc < 7))=ah then pure (.done (af,na-1,nb,out.push x,g,ac,bc))else pure (.yield (af,na-1,nb,out.push x,g,ac,bc))
def hiJ2(a b:Array Bj)(na nb:Nat)(out:Array Bj)(g ac bc:Nat):StateT Ao Sem (ForInStep gO):=F4 b (nb-1)>>=λx=>
 if (nb-1==1)=ah then pure (.done (ae (ll a b na (nb-1) (out.push x)),na,nb-1,out.push x,g,ac,bc))else
 F4 a (na-1)>>=λy=>iP ah y b 0 (nb-1) (nb-1-1)>>=λr=>match r with
 |some k=>if nb-1-k > 0 then(if (k==1)=ah then pure (.done (ae (ll a b na k (out.push x++(b.extract k (nb-1)).reverse)),na,k,out.push x++(b.extract k (nb-1)).reverse,g,ac,nb-1-k))else
   if (k==0)=ah then pure (.done (ae (h9 a b na k (out.push x++(b.extract k (nb-1)).reverse)),na,k,out.push x++(b.extract k (nb-1)).reverse,g,ac,nb-1-k))else
   hiJ3 a b na k (out.push x++(b.extract k (nb-1)).reverse) g ac (nb-1-k))else hiJ3 a b na (nb-1) (out.push x) g ac (nb-1-k)
 |_=>pure (.done (ae (h9 a b na (nb-1) (out.push x)),na,nb-1,out.push x,g,ac,bc))
def hiJ1(a b:Array Bj)(na nb:Nat)(out:Array Bj)(g ac bc:Nat):StateT Ao Sem (ForInStep gO):=ku g>>=λ_=>F4 b (nb-1)>>=λx=>iP ai x a 0 na (na-1)>>=λr=>match r with
 |some k=>if na-k > 0 then(if (k==0)=ah then pure (.done (ae (h9 a b k nb (out++(a.extract k na).reverse)),k,nb,out++(a.extract k na).reverse,g,na-k,bc))else
   hiJ2 a b k nb (out++(a.extract k na).reverse) g (na-k) bc)else hiJ2 a b na nb out g (na-k) bc
 |_=>pure (.done (ae (h9 a b na nb out),na,nb,out,g,ac,bc))
structure HQ(G:Str->Tok->Tok->Prop)(A B T m:Nat)(Q:ForInStep gO->ForInStep gO->Ao->Ao->Prop)(t u:Ao):Prop where
 d:∀{r r':Array Bj}{p p':Nat×Nat×Array Bj×Nat×Nat×Nat},RA G r r'->Q (.done (ae r,p)) (.done (ae r',p')) t u
 n:∀{o o':Array Bj}{na nb:Nat}{s:Nat×Nat×Nat},RA G o o'->1<=na->na<=A->2<=nb->nb<=B->m+1+(na+nb)<=T->Q (.done (af,na,nb,o,s)) (.done (af,na,nb,o',s)) t u
 y:∀{o o':Array Bj}{na nb:Nat}{s:Nat×Nat×Nat},RA G o o'->1<=na->na<=A->2<=nb->nb<=B->m+1+(na+nb)<=T->Q (.yield (af,na,nb,o,s)) (.yield (af,na,nb,o',s)) t u
section
variable{t u:Ao}{a a' b b' out out':Array Bj}{Q:ForInStep gO->ForInStep gO->Ao->Ao->Prop}{na nb g ac bc m T:Nat}
theorem RA.hD(ha:RA G a a')(hb:RA G b b')(ro:RA G out out'):RA G (h9 a b na nb out) (h9 a' b' na nb out'):=((ha.ex _ _).app (hb.ex _ _)).app ro.rev
theorem RA.hF(ha:RA G a a')(hb:RA G b b')(ro:RA G out out'):RA G (ll a b na nb out) (ll a' b' na nb out'):=((hb.ex _ _).app (ha.ex _ _)).app ro.rev
theorem W2.hiJ3(ha:RA G a a')(hb:RA G b b')(ro:RA G out out')(h3:1<=na)(h4:na<=a.size)(h5:2<=nb)(h6:nb<=b.size)(h7:m+(na+nb)<=T)(q:HQ G a.size b.size T m Q t u):W2 pw (hiJ3 a b na nb out g ac bc) (hiJ3 a' b' na nb out' g ac bc) Q t u:=by
 refine W2.bind (W2.elS ha ⋯ λx y c=>?_);by_cases z:(na-1==0)=ah
 ·exact W2.ifT z (W2.pur (q.d (RA.hD ha hb (ro.push c))))
 ·have f:¬na-1=0:=λy=>z (by simpa using y);refine W2.ifF z ?_;by_cases e:(decide (ac < 7)&&decide (bc < 7))=ah
  ·exact W2.ifT e (W2.pur (q.n (ro.push c) ⋯ ⋯ h5 h6 ⋯))
  ·exact W2.ifF e (W2.pur (q.y (ro.push c) ⋯ ⋯ h5 h6 ⋯))
theorem W2.hiJ2(R:RS G t u)(ha:RA G a a')(hb:RA G b b')(ro:RA G out out')(h3:1<=na)(h4:na<=a.size)(h5:2<=nb)(h6:nb<=b.size)(h7:m+(na+nb)<=T)(q:HQ G a.size b.size T m Q t u):W2 pw (hiJ2 a b na nb out g ac bc) (hiJ2 a' b' na nb out' g ac bc) Q t u:=by
 refine W2.bind (W2.elS hb ⋯ λx y c=>?_);by_cases z:(nb-1==1)=ah
 ·exact W2.ifT z (W2.pur (q.d (RA.hF ha hb (ro.push c))))
 ·have n:¬nb-1=1:=λy=>z (by simpa using y);refine W2.ifF z (W2.bind (W2.elS ha ⋯ λx3 j i=>W2.bind (W2.galS R i hb ⋯ ⋯ λk o=>?_)));by_cases h:nb-1-k > 0
  ·refine W2.ifT h ?_;by_cases f:(k==1)=ah
   ·exact W2.ifT f (W2.pur (q.d (RA.hF ha hb ((ro.push c).app (hb.ex _ _).rev))))
   ·refine W2.ifF f ?_;by_cases e:(k==0)=ah
    ·exact W2.ifT e (W2.pur (q.d (RA.hD ha hb ((ro.push c).app (hb.ex _ _).rev))))
    ·have p:¬k=1:=λy=>f (by simpa using y);have l:¬k=0:=λy=>e (by simpa using y);exact W2.ifF e (W2.hiJ3 ha hb ((ro.push c).app (hb.ex _ _).rev) h3 h4 ⋯ ⋯ ⋯ q)
  ·exact W2.ifF h (W2.hiJ3 ha hb (ro.push c) h3 h4 ⋯ ⋯ ⋯ q)
theorem W2.hiJ1(R:RS G t u)(ha:RA G a a')(hb:RA G b b')(ro:RA G out out')(h3:1<=na)(h4:na<=a.size)(h5:2<=nb)(h6:nb<=b.size)(h7:m+(na+nb)<=T)(q:HQ G a.size b.size T m Q (ig t g) (ig u g)):W2 pw (hiJ1 a b na nb out g ac bc) (hiJ1 a' b' na nb out' g ac bc) Q t u:=by
 refine W2.bind (W2.setG (W2.bind (W2.elS hb ⋯ λx y f=>W2.bind (W2.galS (R.gal _) f ha ⋯ ⋯ λk i=>?_))));by_cases e:na-k > 0
 ·refine W2.ifT e ?_;by_cases c:(k==0)=ah
  ·exact W2.ifT c (W2.pur (q.d (RA.hD ha hb (ro.app (ha.ex _ _).rev))))
  ·have h:¬k=0:=λy=>c (by simpa using y);exact W2.ifF c (W2.hiJ2 (R.gal _) ha hb (ro.app (ha.ex _ _).rev) ⋯ ⋯ h5 h6 ⋯ q)
 ·exact W2.ifF e (W2.hiJ2 (R.gal _) ha hb ro h3 h4 h5 h6 h7 q)
end
def sS(a b:Array Bj)(g:Nat)(_:Nat):qB->StateT Ao Sem (ForInStep qB):=λ(_,na,nb,out,ac,bc)=>F4 b (nb-1)>>=λx=>F4 a (na-1)>>=λy=>lt' x y>>=λr=>match r with
 |some w=>if w=ah then F4 a (na-1)>>=λx=>if (na-1==0)=ah then pure (.done (ae (h9 a b (na-1) nb (out.push x)),na-1,nb,out.push x,ac+1,0))else
   if ac+1 ≥ g then pure (.done (af,na-1,nb,out.push x,ac+1,0))else pure (.yield (af,na-1,nb,out.push x,ac+1,0))
  else F4 b (nb-1)>>=λx=>if (nb-1==1)=ah then pure (.done (ae (ll a b na (nb-1) (out.push x)),na,nb-1,out.push x,0,bc+1))else
   if bc+1 ≥ g then pure (.done (af,na,nb-1,out.push x,0,bc+1))else pure (.yield (af,na,nb-1,out.push x,0,bc+1))
 |_=>pure (.done (ae (h9 a b na nb out),na,nb,out,ac,bc))
def kG(a b:Array Bj)(_:Nat):gO->StateT Ao Sem (ForInStep gO):=λ(_,na,nb,out,g,ac,bc)=>if g > 1 then hiJ1 a b na nb out (g-1) ac bc else hiJ1 a b na nb out g ac bc
def tQ(T:Nat)(a b:Array Bj)(_:Nat):o4->StateT Ao Sem (ForInStep o4):=λ(_,na,nb,out,g)=>Gj [:T] ((af,na,nb,out,0,0):qB) (sS a b g)>>=λs=>match s.1 with
 |some r=>pure (.done (ae r,s.2.1,s.2.2.1,s.2.2.2.1,g))
 |none=>liftM (rule "list.sort.gallop")>>=λ_=>Gj [:T] ((af,s.2.1,s.2.2.1,s.2.2.2.1,g+1,s.2.2.2.2):gO) (kG a b)>>=λs=>match s.1 with
  |some r=>pure (.done (ae r,s.2.1,s.2.2.1,s.2.2.2.1,s.2.2.2.2.1))
  |none=>ku (s.2.2.2.2.1+1)>>=λ_=>pure (.yield (af,s.2.1,s.2.2.1,s.2.2.2.1,s.2.2.2.2.1+1))
theorem yq(a b:Array Bj):pj a b=(liftM (rule "list.sort.merge-hi")>>=λ_=>F4 a (a.size-1)>>=λx=>if (a.size-1==0)=ah then pure (h9 a b (a.size-1) b.size #[x])else if (b.size==1)=ah then pure (ll a b (a.size-1) b.size #[x])else
  get>>=λs=>Gj [:a.size+b.size] ((af,a.size-1,b.size,#[x],gallopOf s):o4) (tQ (a.size+b.size) a b)>>=λs=>match s.1 with
  |some r=>pure r
  |none=>liftM (unsupported "internal:list.sort.merge-bound")):=by kernel_rfl
structure HiI{σ:Type}(G:Str->Tok->Tok->Prop)(a b:Array Bj)(k:Nat)(c d:Option (Array Bj)×Nat×Nat×Array Bj×σ):Prop where
 e1:c.1=af
 e2:d.1=af
 e3:c.2.1=d.2.1
 e4:c.2.2.1=d.2.2.1
 ro:RA G c.2.2.2.1 d.2.2.2.1
 e5:c.2.2.2.2=d.2.2.2.2
 h3:1<=c.2.1
 h4:c.2.1<=a.size
 h5:2<=c.2.2.1
 h6:c.2.2.1<=b.size
 h7:k+(c.2.1+c.2.2.1)<=a.size+b.size
theorem HiI.ex{σ:Type}{a b:Array Bj}{k:Nat}{c d:Option (Array Bj)×Nat×Nat×Array Bj×σ}(I:HiI G a b k c d):∃(na nb:Nat)(o o':Array Bj)(s:σ),c=(af,na,nb,o,s)/\d=(af,na,nb,o',s)/\RA G o o'/\1<=na/\na<=a.size/\2<=nb/\nb<=b.size/\k+(na+nb)<=a.size+b.size:=by
 obtain⟨u,na,nb,o,s⟩:=c;obtain⟨w,r,t,o',v⟩:=d;obtain⟨h,m,e,i,p,q,f,l,g,n,j⟩:=I;dsimp only at h m e i p q f l g n j;subst h m e i q;exact⟨na,nb,o,o',s,rfl,rfl,p,f,l,g,n,j⟩
section
variable{t u:Ao}{a a' b b':Array Bj}
theorem W2.hiSs{i j g:Nat}{c d:qB}(R':RS G t u)(ha:RA G a a')(hb:RA G b b')(I:HiI G a b (i+1+j) c d):W2 pw (sS a b g j c) (sS a' b' g j d) (gn (λc d t2 u2=>(df G c.1 d.1\/HiI G a b (i+2) c d)/\t2=t/\u2=u) λc d t2 u2=>HiI G a b (i+1+(j+1)) c d/\t2=t/\u2=u) t u:=by
 obtain⟨f,e,v,s,⟨B,w⟩,rfl,rfl,h,n,p,o,q,D⟩:=I.ex;refine W2.bind (W2.elS hb ⋯ λx y m=>W2.bind (W2.elS ha ⋯ λx' C k=>?_));refine W2.bind (W2.ltS R' m k λr=>?_);cases r with
 |true=>
  refine W2.ifT (rfl) (W2.bind (W2.elS ha ⋯ λx y k=>?_));by_cases z:(f-1==0)=ah
  ·exact W2.ifT (z) (W2.pur ⟨.inl ⟨_,_,rfl,rfl,RA.hD ha hb (h.push k)⟩,rfl,rfl⟩)
  ·refine W2.ifF (z) ?_;have A:¬f-1=0:=λy=>z (by simpa using y);by_cases l:B+1 ≥ g
   ·exact W2.ifT (l) (W2.pur ⟨.inr ⟨rfl,rfl,rfl,rfl,h.push k,rfl,show 1<=f-1 by omega,show f-1<=a.size by omega,o,q,show i+2+(f-1+e)<=a.size+b.size by omega⟩,rfl,rfl⟩)
   ·exact W2.ifF (l) (W2.pur ⟨⟨rfl,rfl,rfl,rfl,h.push k,rfl,show 1<=f-1 by omega,show f-1<=a.size by omega,o,q,show i+1+(j+1)+(f-1+e)<=a.size+b.size by omega⟩,rfl,rfl⟩)
 |false=>
  refine W2.ifF (Ay) (W2.bind (W2.elS hb ⋯ λx y m=>?_));by_cases z:(e-1==1)=ah
  ·exact W2.ifT (z) (W2.pur ⟨.inl ⟨_,_,rfl,rfl,RA.hF ha hb (h.push m)⟩,rfl,rfl⟩)
  ·refine W2.ifF (z) ?_;have A:¬e-1=1:=λy=>z (by simpa using y);by_cases l:w+1 ≥ g
   ·exact W2.ifT (l) (W2.pur ⟨.inr ⟨rfl,rfl,rfl,rfl,h.push m,rfl,n,p,show 2<=e-1 by omega,show e-1<=b.size by omega,show i+2+(f+(e-1))<=a.size+b.size by omega⟩,rfl,rfl⟩)
   ·exact W2.ifF (l) (W2.pur ⟨⟨rfl,rfl,rfl,rfl,h.push m,rfl,n,p,show 2<=e-1 by omega,show e-1<=b.size by omega,show i+1+(j+1)+(f+(e-1))<=a.size+b.size by omega⟩,rfl,rfl⟩)
theorem W2.hiGs{t3 u3:Ao}{i j:Nat}{c d:gO}(ha:RA G a a')(hb:RA G b b')(I:HiI G a b (i+2+j) c d/\RS G t3 u3/\SG t t3/\SG u u3):W2 pw (kG a b j c) (kG a' b' j d) (gn (λc d t3 u3=>(df G c.1 d.1\/HiI G a b (i+2) c d)/\RS G t3 u3/\SG t t3/\SG u u3) λc d t3 u3=>HiI G a b (i+2+(j+1)) c d/\RS G t3 u3/\SG t t3/\SG u u3) t3 u3:=by
 obtain⟨I,e,n,o⟩:=I;obtain⟨D,C,A,x,⟨g,_⟩,rfl,rfl,y,q,v,r,w,s⟩:=I.ex;by_cases z:g > 1
 ·exact W2.ifT z (W2.hiJ1 e ha hb y q v r w s ⟨λhr=>⟨.inl ⟨_,_,rfl,rfl,hr⟩,e.gal _,n.gal _,o.gal _⟩,λho h f l k m=>⟨.inr ⟨rfl,rfl,rfl,rfl,ho,rfl,h,f,l,k,A0 (Nat.add_le_add_right ⋯ _) m⟩,e.gal _,n.gal _,o.gal _⟩,λho h f l k m=>⟨⟨rfl,rfl,rfl,rfl,ho,rfl,h,f,l,k,m⟩,e.gal _,n.gal _,o.gal _⟩⟩)
 ·exact W2.ifF z (W2.hiJ1 e ha hb y q v r w s ⟨λhr=>⟨.inl ⟨_,_,rfl,rfl,hr⟩,e.gal _,n.gal _,o.gal _⟩,λho h f l k m=>⟨.inr ⟨rfl,rfl,rfl,rfl,ho,rfl,h,f,l,k,A0 (Nat.add_le_add_right ⋯ _) m⟩,e.gal _,n.gal _,o.gal _⟩,λho h f l k m=>⟨⟨rfl,rfl,rfl,rfl,ho,rfl,h,f,l,k,m⟩,e.gal _,n.gal _,o.gal _⟩⟩)
theorem W2.hiOs{t' u':Ao}{i:Nat}{c d:o4}(ha:RA G a a')(hb:RA G b b')(I:HiI G a b (i+1) c d/\RS G t' u'/\SG t t'/\SG u u'):W2 pw (tQ (a.size+b.size) a b i c) (tQ (a.size+b.size) a' b' i d) (gn (λc d t' u'=>df G c.1 d.1/\RS G t' u'/\SG t t'/\SG u u') λc d t' u'=>HiI G a b (i+1+1) c d/\RS G t' u'/\SG t t'/\SG u u') t' u':=by
 obtain⟨I,x,E,C⟩:=I;obtain⟨F,B,o,h,g,rfl,rfl,v,m,q,n,s,y⟩:=I.ex;refine W2.bind (W2.mono (W2.for (Q:=λc d l k=>(df G c.1 d.1\/HiI G a b (i+2) c d)/\l=t'/\k=u') (λj c d l k=>HiI G a b (i+1+j) c d/\l=t'/\k=u') (λj c d l k _ K I=>?_) (λc d l k I=>?_) ⟨⟨rfl,rfl,rfl,rfl,v,rfl,m,q,n,s,by omega⟩,rfl,rfl⟩) λc d l k I=>?_)
 ·obtain⟨I,rfl,rfl⟩:=I;exact W2.hiSs x ha hb I
 ·obtain⟨⟨p,_⟩,rfl,rfl⟩:=I;grind
 ·obtain⟨I,rfl,rfl⟩:=I;rcases I with⟨r,w,p,A,z⟩|I
  ·rw[p,A];exact W2.pur ⟨⟨r,w,rfl,rfl,z⟩,x,E,C⟩
  ·obtain⟨F,B,o,h,⟨M,L⟩,rfl,rfl,v,m,q,n,s,y⟩:=I.ex;refine W2.bind (W2.rul (W2.bind (W2.mono (W2.for (Q:=λc d f e=>(df G c.1 d.1\/HiI G a b (i+2) c d)/\RS G f e/\SG t f/\SG u e) (λj c d f e=>HiI G a b (i+2+j) c d/\RS G f e/\SG t f/\SG u e) (λj c d f e _ K I=>?_) (λc d f e I=>?_) ⟨⟨rfl,rfl,rfl,rfl,v,rfl,m,q,n,s,by omega⟩,x,E,C⟩) λc d f e I=>?_)))
   ·exact W2.hiGs ha hb I
   ·obtain⟨⟨p,_⟩,_⟩:=I;grind
   ·obtain⟨I,D,H,J⟩:=I;rcases I with⟨r,w,p,A,z⟩|I
    ·rw[p,A];exact W2.pur ⟨⟨r,w,rfl,rfl,z⟩,D,H,J⟩
    ·obtain⟨F,B,o,h,⟨g,_⟩,rfl,rfl,v,m,q,n,s,y⟩:=I.ex;exact W2.bind (W2.setG (W2.pur ⟨⟨rfl,rfl,rfl,rfl,v,rfl,m,q,n,s,y⟩,D.gal _,H.gal _,J.gal _⟩))
end
theorem W2.mHi{t u:Ao}(R:RS G t u){a a' b b':Array Bj}(ha:RA G a a')(hb:RA G b b')(h1:1<=a.size)(h2:1<=b.size){Q:Array Bj->Array Bj->Ao->Ao->Prop}(q:∀r r' t' u',RA G r r'->RS G t' u'->SG t t'->SG u u'->Q r r' t' u'):W2 pw (pj a b) (pj a' b') Q t u:=by
 have v:∀o e i j,RA G o e->RA G _ (a'.extract 0 i++b'.extract 0 j++e.reverse):=λo e i j h=>((ha.ex 0 i).app (hb.ex 0 j)).app h.rev;have s:∀o e i j,RA G o e->RA G _ (b'.extract 0 j++a'.extract 0 i++e.reverse):=λo e i j h=>((hb.ex 0 j).app (ha.ex 0 i)).app h.rev;rw[yq,yq];refine W2.bind (W2.rul ?_);rw[<-ha.1,<-hb.1];refine W2.bind (W2.elS ha ⋯ λx y k=>?_);by_cases f:(a.size-1==0)=ah
 ·exact W2.ifT (f) (W2.pur (q _ _ _ _ (v _ _ _ _ (RA.one k)) R (SG.refl _) (SG.refl _)))
 ·refine W2.ifF (f) ?_;by_cases g:(b.size==1)=ah
  ·exact W2.ifT (g) (W2.pur (q _ _ _ _ (s _ _ _ _ (RA.one k)) R (SG.refl _) (SG.refl _)))
  ·refine W2.ifF (g) ?_;have C:¬a.size-1=0:=λz=>f (by simpa using z);have w:¬b.size=1:=λz=>g (by simpa using z);refine W2.bind (W2.getS (W2.bind (W2.mono (W2.for (Q:=λc d t' u'=>df G c.1 d.1/\RS G t' u'/\SG t t'/\SG u u') (λi c d t' u'=>HiI G a b (i+1) c d/\RS G t' u'/\SG t t'/\SG u u') (λi c d t' u' _ D I=>?_) (λc d t' u' I=>?_) ⟨⟨rfl,rfl,rfl,rfl,RA.one k,R.gl.symm,show 1<=a.size-1 by omega,Nat.sub_le _ _,show 2<=b.size by omega,Bc _,show 0+1+(a.size-1+b.size)<=a.size+b.size by omega⟩,R,SG.refl _,SG.refl _⟩) λc d t' u' I=>?_)))
   ·exact W2.hiOs ha hb I
   ·obtain⟨⟨l,_⟩,_⟩:=I;grind
   ·obtain⟨⟨r,r',l,B,A⟩,p,n,m⟩:=I;rw[l,B];exact W2.pur (q _ _ _ _ A p n m)
end
end KG
namespace KG
open PySem PySem.W PyProof.Rows KW
variable{G:Str->Tok->Tok->Prop}
section
variable{pw:A1×Bh}{α β:Type}
theorem N8(i:Nat):mergeAt' i=(do
 let s <-get
 let(ae (sa,na,power),ae (sb,nb,_)):=((Bq s)[i]?,(Bq s)[i+1]?)|liftM (m:=Sem) (unsupported "internal:list.sort.pending")
 set (Gg s (((Bq s).setIfInBounds i (sa,na+nb,power)).eraseIdxIfInBounds (i+1)))
 let ae k <-iP ai (<-F4 (Dv s) sb) (Dv s) sa na 0|return ai
 let(sa,na):=(sa+k,na-k)
 if na==0 then return ah
 let ae nb <-iP ah (<-F4 (Dv s) (sa+na-1)) (Dv s) sb nb (nb-1)|return ai
 if nb==0 then return ah
 let x:=(Dv s).extract sa sb
 let y:=(Dv s).extract sb (sb+nb)
 let merged <-if na<=nb then qV x y else pj x y
 modify λs=>setArr s (merged.toList.zipIdx.foldl (λa (p,j)=>a.setIfInBounds (sa+j) p) (Dv s))
 return(Ga (<-get)).isNone):=rfl
theorem RA.set{a b:Array Bj}(h:RA G a b){x y:Bj}(k:RK G x y)(i:Nat):RA G (a.setIfInBounds i x) (b.setIfInBounds i y):=⟨by simp[h.1],λj c=>by
 rw[Array.size_setIfInBounds]at c;by_cases e:i=j
 ·cases e;exact⟨x,y,by rw[Hj c],by rw[Hj (by rw[h.sz];omega)],k⟩
 ·rw[Array.getElem?_setIfInBounds_ne e,Array.getElem?_setIfInBounds_ne e];exact h.get c⟩
theorem RA.laid(n:Nat):∀(l l':List Bj)(m:Nat){a b:Array Bj},RA G a b->l.length=l'.length->(∀i,i < l.length->∃x y,l[i]?=ae x/\l'[i]?=ae y/\RK G x y)->RA G ((l.zipIdx m).foldl (λa (p,j)=>a.setIfInBounds (n+j) p) a) ((l'.zipIdx m).foldl (λa (p,j)=>a.setIfInBounds (n+j) p) b)
 |[],[],m,a,b,h,_,_=>h
 |p::l,g::l',m,a,b,h,e,k=>by
  obtain⟨x,y,c,f,r⟩:=k 0 (Nat.zero_lt_succ _);cases c;cases f;exact RA.laid n l l' _ (h.set r _) (Nat.succ.inj e) λi d=>k _ (Nat.succ_lt_succ d)
 |[],_::_,_,_,_,_,e,_=>nomatch e
 |_::_,[],_,_,_,_,e,_=>nomatch e
theorem tD(n:Nat):∀(l:List Bj)(m:Nat)(a:Array Bj),((l.zipIdx m).foldl (λa (p,j)=>a.setIfInBounds (n+j) p) a).size=a.size
 |[],_,_=>rfl
 |p::l,m,a=>(tD n l _ _).trans Array.size_setIfInBounds
theorem RA.lay{a b r r':Array Bj}(h:RA G a b)(k:RA G r r')(n:Nat):RA G (r.toList.zipIdx.foldl (λa (p,j)=>a.setIfInBounds (n+j) p) a) (r'.toList.zipIdx.foldl (λa (p,j)=>a.setIfInBounds (n+j) p) b):=
 RA.laid n _ _ 0 h k.1 λi d=>by
  obtain⟨x,y,c,e,q⟩:=k.get d;exact⟨x,y,by rw[Bu];exact c,by rw[Bu];trivial⟩
theorem W2.setS{f g:Ao}{Q:PUnit->PUnit->Ao->Ao->Prop}{t u:Ao}(h:Q ⟨⟩ ⟨⟩ f g):W2 pw (set f) (set g) Q t u:=W2.one (λ_ _ _ P p=>wpS_modify p) (λ_ _ _ P p=>wpS_modify p) h
theorem W2.mAt{t u:Ao}(R:RS G t u)(f1:Ga t=af)(f2:Ga u=af){i sa na pa sb nb pb:Nat}(hp1:(Bq t)[i]?=ae (sa,na,pa))(hp2:(Bq t)[i+1]?=ae (sb,nb,pb))(c:sa+na=sb)(n1:1<=na)(n2:1<=nb)(le:sb+nb<=(Dv t).size){Q:Bool->Bool->Ao->Ao->Prop}
  (q:∀t' u',RS G t' u'->Ga t'=af->Ga u'=af->Bq t'=((Bq t).setIfInBounds i (sa,na+nb,pa)).eraseIdxIfInBounds (i+1)->(Dv t').size=(Dv t).size->Q ah ah t' u'):W2 pw (mergeAt' i) (mergeAt' i) Q t u:=by
 rw[N8];refine W2.bind (W2.getS ?_);rw[R.pd,hp1,hp2];refine W2.bind (W2.setS ?_);have e:RS G (Gg t (((Bq t).setIfInBounds i _).eraseIdxIfInBounds _)) (Gg u (((Bq t).setIfInBounds i (sa,na+nb,pa)).eraseIdxIfInBounds (i+1))):=⟨R.k1,R.k2,rfl,R.gl,R.ar⟩;refine W2.bind (W2.elS R.ar ⋯ λx y k=>W2.bind (W2.galS e k R.ar ⋯ ⋯ λm D=>?_));dsimp only;by_cases z:(na-m==0)=ah
 ·rw[b_ z];try rw[b_ z]
  exact W2.pur (q _ _ e f1 f2 rfl rfl)
 ·rw[a_ z];try rw[a_ z]
  have C:¬na-m=0:=λy=>z (by simpa using y);refine W2.bind (W2.elS R.ar ⋯ λx2 E w=>W2.bind (W2.galS e w R.ar ⋯ ⋯ λm2 A=>?_));dsimp only;by_cases h:(m2==0)=ah
  ·rw[b_ h];try rw[b_ h]
   exact W2.pur (q _ _ e f1 f2 rfl rfl)
  ·rw[a_ h];try rw[a_ h]
   have B:¬m2=0:=λy=>h (by simpa using y);have p:1<=((Dv t).extract (sa+m) sb).size:=by rw[Array.size_extract];omega
   have s:1<=((Dv t).extract sb (sb+m2)).size:=by rw[Array.size_extract];omega
   by_cases j:na-m<=m2
   ·rw[b_ j];try rw[b_ j]
    refine W2.bind (W2.mLo e (R.ar.ex _ _) (R.ar.ex _ _) p s λr v t' u' o b d l=>W2.bind (W2.modS ?_));refine W2.bind (W2.getS ?_);have f:=d.2.2.2.trans f1;have g:=l.2.2.2.trans f2;rw[f,g];exact W2.pur (q _ _ ⟨b.k1,b.k2,b.pd,b.gl,b.ar.lay o _⟩ f g d.2.2.1 ((tD _ _ _ _).trans (congrArg Array.size d.2.1)))
   ·rw[a_ j];try rw[a_ j]
    refine W2.bind (W2.mHi e (R.ar.ex _ _) (R.ar.ex _ _) p s λr v t' u' o b d l=>W2.bind (W2.modS ?_));refine W2.bind (W2.getS ?_);have f:=d.2.2.2.trans f1;have g:=l.2.2.2.trans f2;rw[f,g];exact W2.pur (q _ _ ⟨b.k1,b.k2,b.pd,b.gl,b.ar.lay o _⟩ f g d.2.2.1 ((tD _ _ _ _).trans (congrArg Array.size d.2.1)))
end
end KG
namespace KG
open PySem PySem.W PyProof.Rows KW
variable{G:Str->Tok->Tok->Prop}
theorem RA.swap{a b:Array Bj}(h:RA G a b)(i j:Nat):RA G (a.swapIfInBounds i j) (b.swapIfInBounds i j):=by
 unfold Array.swapIfInBounds;by_cases d:i < a.size
 ·by_cases e:j < a.size
  ·have c:=h.sz▸d;have f:=h.sz▸e;rw[dif_pos d,dif_pos e,dif_pos c,dif_pos f];refine⟨by simp[h.1],λk o=>?_⟩;rw[Array.size_swap]at o;rw[Array.getElem?_swap,Array.getElem?_swap];by_cases g:j=k
   ·rw[b_ g,b_ g];obtain⟨x,y,n,m,r⟩:=h.get d;exact⟨x,y,by rw[<-n,getElem?_pos a i d],by rw[<-m,getElem?_pos b i c],r⟩
   ·rw[a_ g,a_ g];by_cases l:i=k
    ·rw[b_ l,b_ l];obtain⟨x,y,n,m,r⟩:=h.get e;exact⟨x,y,by rw[<-n,getElem?_pos a j e],by rw[<-m,getElem?_pos b j f],r⟩
    ·rw[a_ l,a_ l];exact h.get o
  ·have c:=h.sz▸d;rw[dif_pos d,dif_neg e,dif_pos c,dif_neg (h.sz▸e)];exact h
 ·rw[dif_neg d,dif_neg (h.sz▸d)];exact h
theorem RA.bub{a b:Array Bj}(h:RA G a b)(src:Nat):∀d,RA G (bubble a src d) (bubble b src d)
 |0=>h
 |d+1=>by
  rw[bubble_succ,bubble_succ];exact(h.bub src d).swap _ _
theorem RA.mir{a b:Array Bj}(h:RA G a b)(i j:Nat):∀d,RA G (mirror a i j d) (mirror b i j d)
 |0=>h
 |d+1=>by
  rw[mirror_succ,mirror_succ];exact(h.mir i j d).swap _ _
structure RT(G:Str->Tok->Tok->Prop)(t u:Ao):Prop extends RS G t u where
 f1:Ga t=af
 f2:Ga u=af
theorem RT.arr{t u:Ao}(R:RT G t u){a b:Array Bj}(h:RA G a b):RT G (setArr t a) (setArr u b):=⟨⟨R.k1,R.k2,R.pd,R.gl,h⟩,R.f1,R.f2⟩
def SP(t t':Ao):Prop:=Bq t'=Bq t/\(Dv t').size=(Dv t).size
theorem SP.refl(t:Ao):SP t t:=⟨rfl,rfl⟩
theorem SP.arr{t t':Ao}(h:SP t t'){a:Array Bj}(e:a.size=(Dv t').size):SP t (setArr t' a):=⟨h.1,e.trans h.2⟩
section
variable{pw:A1×Bh}{α β:Type}
theorem W2.ltA{t u:Ao}(R:RT G t u){i j:Nat}(hi:i < (Dv t).size)(hj:j < (Dv t).size){Q:Option Bool->Option Bool->Ao->Ao->Prop}(q:∀b,Q (ae b) (ae b) t u):W2 pw (ltAt' i j) (ltAt' i j) Q t u:=by
 refine W2.bind (W2.getS (W2.bind (W2.elS R.ar hi λx y k=>?_)));exact W2.bind (W2.elS R.ar hj λx2 c a=>W2.ltS R.toRS k a q)
theorem W2.mov{t u:Ao}(R:RT G t u){i j:Nat}{Q:Unit->Unit->Ao->Ao->Prop}(q:∀t' u',RT G t' u'->SP t t'->Q () () t' u'):W2 pw (moveDown' i j) (moveDown' i j) Q t u:=W2.modS (q _ _ (R.arr (R.ar.bub _ _)) ((SP.refl t).arr (bubble_size _ _ _)))
theorem W2.rvs{t u:Ao}(R:RT G t u){i j:Nat}{Q:Unit->Unit->Ao->Ao->Prop}(q:∀t' u',RT G t' u'->SP t t'->Q () () t' u'):W2 pw (F7 i j) (F7 i j) Q t u:=W2.modS (q _ _ (R.arr (R.ar.mir _ _ _)) ((SP.refl t).arr (mirror_size _ _ _ _)))
theorem SP.trans{t t' t'':Ao}(h:SP t t')(k:SP t' t''):SP t t'':=⟨k.1.trans h.1,k.2.trans h.2⟩
theorem W2.bin{t u:Ao}(R:RT G t u){lo n ok:Nat}(hn:lo+n<=(Dv t).size){Q:Bool->Bool->Ao->Ao->Prop}(q:∀t' u',RT G t' u'->SP t t'->Q ah ah t' u'):W2 pw (binarySort' lo n ok) (binarySort' lo n ok) Q t u:=by
 refine W2.bind (W2.mono (W2.for (λ_ c d t' u'=>c=(af,())/\d=(af,())/\RT G t' u'/\SP t t') (λk c d t' u' i j I=>?_) (λc d t' u' I=>I) ⟨rfl,rfl,R,SP.refl t⟩) λc d t' u' I=>?_)
 ·obtain⟨rfl,rfl,g,S⟩:=I;have y:=S.2;refine W2.bind (W2.mono (W2.for (λ_ c d f a=>f=t'/\a=u'/\c=d/\c.1=af/\c.2.2<=k) (Q:=λc d f a=>f=t'/\a=u'/\c=d/\c.1=af) (λx c d f a v p I=>?_) (λc d f a I=>⟨I.1,I.2.1,I.2.2.1,I.2.2.2.1⟩) ⟨rfl,rfl,rfl,rfl,Bc _⟩) λc d f a I=>?_)
  ·obtain⟨rfl,rfl,rfl,e,h⟩:=I;obtain⟨o,l,r⟩:=c;cases e;dsimp only at h ⊢;by_cases z:l ≥ r
   ·rw[b_ z];try rw[b_ z]
    exact W2.pur ⟨rfl,rfl,rfl,rfl⟩
   ·rw[a_ z];try rw[a_ z]
    refine W2.bind (W2.ltA g ⋯ ⋯ λb=>?_);cases b with
    |true=>exact W2.pur ⟨rfl,rfl,rfl,rfl,show(l+r) / 2<=k by omega⟩
    |false=>exact W2.pur ⟨rfl,rfl,rfl,rfl,h⟩
  ·obtain⟨rfl,rfl,rfl,e⟩:=I;obtain⟨o,_⟩:=c;cases e;exact W2.bind (W2.mov g λt3 w m s=>W2.pur ⟨rfl,rfl,m,S.trans s⟩)
 ·obtain⟨rfl,rfl,g,S⟩:=I;exact W2.pur (q _ _ g S)
end
end KG
namespace KG
open PySem PySem.W PyProof.Rows KW
variable{G:Str->Tok->Tok->Prop}
def xR(lo nrem n0:Nat):StateT Ao Sem (Option Nat):=do
 rule "list.sort.descending-run"
 let mut n:=n0+1
 let mut neq:=0
 for _ in [n:nrem] do
  let ae smaller <-ltAt' (lo+n) (lo+n-1)|return af
  if smaller then
   if neq > 0 then F7 (lo+n-(neq+1)) (lo+n)
   neq:=0
  else
   let ae larger <-ltAt' (lo+n-1) (lo+n)|return af
   if larger then break
   neq:=neq+1
  n:=n+1
 if neq > 0 then F7 (lo+n-(neq+1)) (lo+n)
 F7 lo (lo+n)
 for _ in [n:nrem] do
  let ae smaller <-ltAt' (lo+n) (lo+n-1)|return af
  if smaller then break
  n:=n+1
 return ae n
section
variable{pw:A1×Bh}{α β:Type}
theorem W2.asc{t u:Ao}(R:RT G t u){lo a nrem:Nat}(hn:lo+nrem<=(Dv t).size)(ha:1<=a)(han:a<=nrem){Q:Option (Option Nat)×Nat->Option (Option Nat)×Nat->Ao->Ao->Prop}(q:∀n,a<=n->n<=nrem->Q (af,n) (af,n) t u):
  W2 pw (Gj [a:nrem] ((af,a):Option (Option Nat)×Nat) λ_ __s=>have n:=__s.snd;do
   let __x <-ltAt' (lo+n) (lo+n-1)
   match __x with
   |some smaller=>if smaller=ah then pure (D1 (af,n))else have n:=n+1;pure (Cr (af,n))
   |_=>pure (D1 (ae af,n))) (Gj [a:nrem] ((af,a):Option (Option Nat)×Nat) λ_ __s=>have n:=__s.snd;do
   let __x <-ltAt' (lo+n) (lo+n-1)
   match __x with
   |some smaller=>if smaller=ah then pure (D1 (af,n))else have n:=n+1;pure (Cr (af,n))
   |_=>pure (D1 (ae af,n))) Q t u:=by
 refine W2.for (λx c d e f=>c=(af,x)/\d=(af,x)/\e=t/\f=u) (λx c d e f g h I=>?_) (λc d e f I=>?_) ⟨rfl,rfl,rfl,rfl⟩
 ·obtain⟨rfl,rfl,rfl,rfl⟩:=I;refine W2.bind (W2.ltA R ⋯ ⋯ λb=>?_);cases b with
  |true=>exact W2.pur (q x ⋯ ⋯)
  |false=>exact W2.pur ⟨rfl,rfl,rfl,rfl⟩
 ·obtain⟨rfl,_⟩:=I;simp_all
theorem W2.fall{t u:Ao}(R:RT G t u){lo nrem n0:Nat}(hn:lo+nrem<=(Dv t).size)(h:n0+1<=nrem){Q:Option Nat->Option Nat->Ao->Ao->Prop}(q:∀n t' u',1<=n->n<=nrem->RT G t' u'->SP t t'->Q (ae n) (ae n) t' u'):W2 pw (xR lo nrem n0) (xR lo nrem n0) Q t u:=by
 refine W2.bind (W2.rul (W2.bind (W2.mono (W2.for (λx c d t' u'=>c=d/\c.1=af/\c.2.1=x/\RT G t' u'/\SP t t') (Q:=λc d t' u'=>c=d/\c.1=af/\n0+1<=c.2.1/\c.2.1<=nrem/\RT G t' u'/\SP t t') (λx c d t' u' l s I=>?_) (λc d t' u' I=>?_) ⟨rfl,rfl,rfl,R,SP.refl t⟩) λc d t' u' I=>?_)))
 ·obtain⟨rfl,e,p,f,S⟩:=I;obtain⟨B,n,g⟩:=c;cases e;cases p;dsimp only at l s ⊢;have C:=S.2;refine W2.bind (W2.ltA f ⋯ ⋯ λb=>?_);dsimp only;cases b with
  |true=>
   try rw[b_ rfl]
   by_cases z:g > 0
   ·rw[b_ z];try rw[b_ z]
    exact W2.bind (W2.rvs f λt2 k o j=>W2.pur ⟨rfl,rfl,rfl,o,S.trans j⟩)
   ·rw[a_ z];try rw[a_ z]
    exact W2.pur ⟨rfl,rfl,rfl,f,S⟩
  |false=>
   try rw[a_ Ay]
   refine W2.bind (W2.ltA f ⋯ ⋯ λb2=>?_);cases b2 with
   |true=>exact W2.pur ⟨rfl,rfl,l,show n<=nrem by omega,f,S⟩
   |false=>exact W2.pur ⟨rfl,rfl,rfl,f,S⟩
 ·obtain⟨rfl,e,p,f,S⟩:=I;exact⟨rfl,e,by simp_all⟩
 ·obtain⟨rfl,e,p,w,f,S⟩:=I;obtain⟨B,n,g⟩:=c;cases e;dsimp only at p w ⊢;have T:∀r k,RT G r k->SP t r->W2 pw (do
    F7 lo (lo+n)
    let mut n:=n
    for _ in [n:nrem] do
     let ae a <-ltAt' (lo+n) (lo+n-1)|return af
     if a then break
     n:=n+1
    return ae n) (do
    F7 lo (lo+n)
    let mut n:=n
    for _ in [n:nrem] do
     let ae a <-ltAt' (lo+n) (lo+n-1)|return af
     if a then break
     n:=n+1
    return ae n) Q r k:=by
   intro r k o j;refine W2.bind (W2.rvs o λt3 F y A=>?_);have C:=(j.trans A).2;exact W2.bind (W2.asc y ⋯ ⋯ w λm H D=>W2.pur (q m _ _ ⋯ D y (j.trans A)))
  by_cases z:g > 0
  ·rw[b_ z];try rw[b_ z]
   exact W2.bind (W2.rvs f λt2 k o j=>T _ _ o (S.trans j))
  ·rw[a_ z];try rw[a_ z]
   exact T _ _ f S
theorem W2.cnt{t u:Ao}(R:RT G t u){lo nrem:Nat}(hn:lo+nrem<=(Dv t).size)(h:1<=nrem){Q:Option Nat->Option Nat->Ao->Ao->Prop}(q:∀n t' u',1<=n->n<=nrem->RT G t' u'->SP t t'->Q (ae n) (ae n) t' u'):W2 pw (countRun' lo nrem) (countRun' lo nrem) Q t u:=by
 rw[countRun'_eq];refine W2.bind (W2.asc R hn (Bc 1) h λn i j=>?_);dsimp only;by_cases z:(n==nrem)=ah
 ·rw[b_ z];try rw[b_ z]
  exact W2.pur (q n _ _ i j R (SP.refl t))
 ·rw[a_ z];try rw[a_ z]
  have o:¬n=nrem:=λy=>z (by simpa using y);by_cases a:n > 1
  ·rw[b_ a];try rw[b_ a]
   refine W2.bind (W2.ltA R ⋯ ⋯ λb=>?_);dsimp only;cases b with
   |true=>exact W2.pur (q n _ _ i j R (SP.refl t))
   |false=>
    try rw[a_ Ay]
    exact W2.bind (W2.rvs R λt2 l k g=>W2.fall k (by have:=g.2;omega) ⋯ λm t' u' d c e f=>q m t' u' d c e (g.trans f))
  ·rw[a_ a];try rw[a_ a]
   exact W2.fall R hn ⋯ λm t' u' d c e f=>q m t' u' d c e f
end
end KG
namespace KG
open PySem PySem.W PyProof.Rows KW
variable{G:Str->Tok->Tok->Prop}
def gW:List (Nat×Nat×Nat)->Nat->Nat->Prop
 |[],a,b=>a=b
 | (s,n,_)::l,a,b=>s=a/\1<=n/\gW l (a+n) b
theorem wL:∀(l:List (Nat×Nat×Nat)){a b:Nat},gW l a b->a+l.length<=b
 |[],a,b,h=>Nat.le_of_eq h
 | (s,n,p)::l,a,b,h=>by
  have:=wL l h.2.2;have:=h.2.1;rw[Ax];omega
theorem zu:∀(l:List (Nat×Nat×Nat)){a b n p:Nat},gW l a b->1<=n->gW (l++[(b,n,p)]) a (b+n)
 |[],a,b,n,p,h,c=>by cases(h);exact⟨rfl,c,rfl⟩
 | (s,m,d)::l,a,b,n,p,h,c=>⟨h.1,h.2.1,zu l h.2.2 c⟩
theorem BB(pw:Nat):∀(l:List (Nat×Nat×Nat))(i:Nat){a b:Nat},gW l a b->gW (l.modify i λ(st,len,_)=>(st,len,pw)) a b
 |[],i,a,b,h=>by cases i<;>exact h
 | (s,m,c)::l,0,a,b,h=>h
 | (s,m,c)::l,i+1,a,b,h=>⟨h.1,h.2.1,BB pw l i h.2.2⟩
theorem AL:∀(i:Nat)(l:List (Nat×Nat×Nat)){a b:Nat},gW l a b->i+1 < l.length->∃sa na pa sb nb pb,l[i]?=ae (sa,na,pa)/\l[i+1]?=ae (sb,nb,pb)/\sa+na=sb/\1<=na/\1<=nb/\sb+nb<=b/\gW ((l.set i (sa,na+nb,pa)).eraseIdx (i+1)) a b/\((l.set i (sa,na+nb,pa)).eraseIdx (i+1)).length+1=l.length
 |0,(sa,na,pa)::(sb,nb,pb)::l,a,b,h,_=>by
  obtain⟨rfl,j,rfl,r,d⟩:=h;have:=wL _ d;exact⟨_,_,_,_,_,_,rfl,rfl,rfl,j,r,by omega,⟨rfl,by omega,by rw[<-Nat.add_assoc];exact d⟩,rfl⟩
 |i+1,(s,n,p)::l,a,b,h,c=>by
  obtain⟨sa,na,pa,sb,nb,pb,g,q,e,k,t,m,f,o⟩:=AL i l h.2.2 (Nat.lt_of_succ_lt_succ c);exact⟨sa,na,pa,sb,nb,pb,g,q,e,k,t,m,⟨h.1,h.2.1,f⟩,congrArg Nat.succ o⟩
 |0,[_],_,_,_,c=>by simp at c
 |_,[],_,_,_,c=>by simp at c
section
variable{pw:A1×Bh}{α β:Type}
theorem W2.mAtC{t u:Ao}(R:RT G t u){lo i:Nat}(C:gW (Bq t).toList 0 lo)(hl:lo<=(Dv t).size)(hi:i+1 < (Bq t).size){Q:Bool->Bool->Ao->Ao->Prop}
  (q:∀t' u',RT G t' u'->gW (Bq t').toList 0 lo->(Dv t').size=(Dv t).size->(Bq t').size+1=(Bq t).size->Q ah ah t' u'):W2 pw (mergeAt' i) (mergeAt' i) Q t u:=by
 obtain⟨f,e,c,v,a,x,d,h,j,l,r,m,s,w⟩:=AL i _ C ⋯;rw[Bu]at d h;have b:(((Bq t).setIfInBounds i (f,e+a,c)).eraseIdxIfInBounds (i+1)).toList=((Bq t).toList.set i (f,e+a,c)).eraseIdx (i+1):=by simp
 refine W2.mAt R.toRS R.f1 R.f2 d h j l r (A0 m hl) λt' u' n p k g o=>q t' u' ⟨n,p,k⟩ ?_ o ?_
 ·rw[g,b];omega
 ·rw[g,<-Bx,b];omega
theorem QR{c:Prop}[Decidable c]{a n:Nat}(h:a+1 < n):(if c then a-1 else a)+1 < n:=by split<;>omega
structure UW(G:Str->Tok->Tok->Prop)(n lo:Nat)(t u:Ao):Prop where
 rt:RT G t u
 sz:(Dv t).size=n
 ch:gW (Bq t).toList 0 lo
 le:lo<=n
theorem UW.push{m lo n:Nat}{t u:Ao}(U:UW G m lo t u)(h1:1<=n)(h2:lo+n<=m):UW G m (lo+n) (Gg t ((Bq t).push (lo,n,0))) (Gg u ((Bq u).push (lo,n,0))):=
 ⟨⟨⟨U.rt.k1,U.rt.k2,congrArg (λp=>p.push (lo,n,0)) U.rt.pd,U.rt.gl,U.rt.ar⟩,U.rt.f1,U.rt.f2⟩,U.sz,by
  rw[Array.toList_push];exact zu _ U.ch h1,h2⟩
theorem UW.mod{m lo:Nat}{t u:Ao}(U:UW G m lo t u)(pw:Nat):UW G m lo (Gg t ((Bq t).modify ((Bq t).size-1) λx=>(x.fst,x.2.fst,pw))) (Gg u ((Bq u).modify ((Bq u).size-1) λx=>(x.fst,x.2.fst,pw))):=
 ⟨⟨⟨U.rt.k1,U.rt.k2,congrArg (λp:Array (Nat×Nat×Nat)=>p.modify (p.size-1) λx=>(x.fst,x.2.fst,pw)) U.rt.pd,U.rt.gl,U.rt.ar⟩,U.rt.f1,U.rt.f2⟩,U.sz,by
  rw[Array.toList_modify];exact BB pw _ _ U.ch,U.le⟩
abbrev RU:=Option Unit×Unit
def rnM(p:Nat)(_:Nat)(_:RU):StateT Ao Sem (ForInStep RU):=get>>=λs=>match (if (Bq s).size > 1 then(Bq s)[(Bq s).size-2]? else af)with
 |some (_,_,o)=>if o<=p then pure (.done (af,()))else mergeAt' ((Bq s).size-2)>>=λb=>if (!b)=ah then pure (.done (ae (),()))else pure (.yield (af,()))
 |_=>pure (.done (af,()))
def EX(lo n:Nat):StateT Ao Sem (ForInStep (Option Unit×Nat)):=modify (λs=>Gg s ((Bq s).push (lo,n,0)))>>=λ_=>pure (.yield (af,lo+n))
def rnJ(z lo n:Nat):StateT Ao Sem (ForInStep (Option Unit×Nat)):=get>>=λs=>match (Bq s).back? with
 |some (s1,n1,_)=>Gj [:z] ((af,()):RU) (rnM (power' z (2*s1+n1) (2*s1+n1+n1+n) z))>>=λr=>match r.1 with
  |some r=>pure (.done (ae r,lo))
  |none=>modify (λs=>Gg s ((Bq s).modify ((Bq s).size-1) λx=>(x.1,x.2.1,power' z (2*s1+n1) (2*s1+n1+n1+n) z)))>>=λ_=>EX lo n
 |_=>EX lo n
def rnB(z:Nat)(_:Nat)(c:Option Unit×Nat):StateT Ao Sem (ForInStep (Option Unit×Nat)):=if c.2 ≥ z then pure (.done (af,c.2))else countRun' c.2 (z-c.2)>>=λr=>match r with
 |some n=>if n < minRun' z z 0 then liftM (rule "list.sort.binary-insertion")>>=λ_=>binarySort' c.2 (min (z-c.2) (minRun' z z 0)) n>>=λb=>if (!b)=ah then pure (.done (ae (),c.2))else rnJ z c.2 (min (z-c.2) (minRun' z z 0))else rnJ z c.2 n
 |_=>pure (.done (ae (),c.2))
def xo(p:Array (Nat×Nat×Nat)):Nat:=if (Option.any (λx=>decide (x < p[p.size-2+1]?.elim 0 λx=>x.2.1)) (if p.size-2 > 0 then Option.map (λx=>x.2.1) p[p.size-2-1]? else af))=ah then p.size-2-1 else p.size-2
def rnF(_:Nat)(_:RU):StateT Ao Sem (ForInStep RU):=get>>=λs=>if (Bq s).size<=1 then pure (.done (af,()))else mergeAt' (xo (Bq s))>>=λb=>if (!b)=ah then pure (.done (ae (),()))else pure (.yield (af,()))
theorem xI:sortRuns'=(get>>=λs=>Gj [:(Dv s).size] ((af,0):Option Unit×Nat) (rnB (Dv s).size)>>=λr=>match r.1 with
 |some r=>pure r
 |none=>Gj [:(Dv s).size] ((af,()):RU) rnF>>=λr=>match r.1 with
  |some r=>pure r
  |none=>pure ()):=by kernel_rfl
section
variable{t u:Ao}{m lo n:Nat}
theorem W2.rnM{p j:Nat}{c d:RU}(I:c=(af,())/\d=(af,())/\UW G m lo t u):W2 pw (rnM p j c) (rnM p j d) (gn (λc d t' u'=>c=(af,())/\d=(af,())/\UW G m lo t' u') λc d t' u'=>c=(af,())/\d=(af,())/\UW G m lo t' u') t u:=by
 have e:=I.2.2;refine W2.bind (W2.getS ?_);rw[e.rt.pd];by_cases z:(Bq t).size > 1
 ·rw[b_ z];cases(Bq t)[(Bq t).size-2]? with
  |none=>exact W2.pur ⟨rfl,rfl,e⟩
  |some b=>
   by_cases y:b.2.2<=p
   ·exact W2.ifT y (W2.pur ⟨rfl,rfl,e⟩)
   ·exact W2.ifF y (W2.bind (W2.mAtC e.rt e.ch (by rw[e.sz];exact e.le) ⋯ λt2 i g h f _=>W2.pur ⟨rfl,rfl,g,f.trans e.sz,h,e.le⟩))
 ·rw[a_ z];exact W2.pur ⟨rfl,rfl,e⟩
theorem W2.rnJ{i:Nat}(U:UW G m lo t u)(h1:1<=n)(h2:lo+n<=m)(h3:i+1<=lo+n):W2 pw (rnJ m lo n) (rnJ m lo n) (gn (λc d t' u'=>c=d/\c.1=af/\UW G m c.2 t' u'/\c.2=m) λc d t' u'=>c=d/\c.1=af/\i+1<=c.2/\UW G m c.2 t' u') t u:=by
 refine W2.bind (W2.getS ?_);rw[U.rt.pd];cases(Bq t).back? with
 |none=>exact W2.bind (W2.modS (W2.pur ⟨rfl,rfl,h3,U.push h1 h2⟩))
 |some b=>
  refine W2.bind (W2.mono (W2.for (λ_ c d t' u'=>c=(af,())/\d=(af,())/\UW G m lo t' u') (λx c d t' u' _ _ I=>W2.rnM (j:=x) I) (λc d t' u' I=>I) ⟨rfl,rfl,U⟩) λc d t' u' I=>?_);obtain⟨rfl,rfl,e⟩:=I;exact W2.bind (W2.modS (W2.bind (W2.modS (W2.pur ⟨rfl,rfl,h3,(e.mod _).push h1 h2⟩))))
theorem W2.rnB{i:Nat}{c d:Option Unit×Nat}(I:c=d/\c.1=af/\i<=c.2/\UW G m c.2 t u):W2 pw (rnB m i c) (rnB m i d) (gn (λc d t' u'=>c=d/\c.1=af/\UW G m c.2 t' u'/\c.2=m) λc d t' u'=>c=d/\c.1=af/\i+1<=c.2/\UW G m c.2 t' u') t u:=by
 obtain⟨rfl,e,r,U⟩:=I;by_cases z:c.2 ≥ m
 ·exact W2.ifT z (W2.pur ⟨rfl,rfl,U,Nat.le_antisymm U.le z⟩)
 ·have s:=U.sz;refine W2.ifF z (W2.bind (W2.cnt U.rt ⋯ ⋯ λn q l p x h f=>?_));have b:UW G m c.2 q l:=⟨h,f.2.trans U.sz,by rw[f.1];exact U.ch,U.le⟩;by_cases y:n < minRun' m m 0
  ·have w:=b.sz;refine W2.ifT y (W2.bind (W2.rul (W2.bind (W2.bin h ⋯ λt3 j o g=>?_))));have k:UW G m c.2 t3 j:=⟨o,g.2.trans b.sz,by rw[g.1];exact b.ch,U.le⟩;exact W2.ifF ∎ (W2.rnJ k ⋯ ⋯ ⋯)
  ·exact W2.ifF y (W2.rnJ b p ⋯ ⋯)
theorem GP{p:Array (Nat×Nat×Nat)}(h:¬p.size<=1):xo p+1 < p.size:=QR ⋯
theorem W2.rnF{j:Nat}{c d:RU}(I:c=(af,())/\d=(af,())/\UW G m lo t u):W2 pw (rnF j c) (rnF j d) (gn (λc d t' u'=>c=(af,())/\d=(af,())/\UW G m lo t' u') λc d t' u'=>c=(af,())/\d=(af,())/\UW G m lo t' u') t u:=by
 have a:=I.2.2;refine W2.bind (W2.getS ?_);rw[a.rt.pd];by_cases z:(Bq t).size<=1
 ·exact W2.ifT z (W2.pur ⟨rfl,rfl,a⟩)
 ·exact W2.ifF z (W2.bind (W2.mAtC a.rt a.ch (by rw[a.sz];exact a.le) (GP z) λt2 h f g e _=>W2.pur ⟨rfl,rfl,f,e.trans a.sz,g,a.le⟩))
end
theorem W2.runs{t u:Ao}(R:RT G t u)(hp:Bq t=#[]){Q:Unit->Unit->Ao->Ao->Prop}(q:∀t' u',RT G t' u'->(Dv t').size=(Dv t).size->Q () () t' u'):W2 pw sortRuns' sortRuns' Q t u:=by
 rw[xI];refine W2.bind (W2.getS ?_);rw[R.ar.sz];refine W2.bind (W2.mono (W2.for (λx c d t' u'=>c=d/\c.1=af/\x<=c.2/\UW G (Dv t).size c.2 t' u') (λx c d t' u' _ _ I=>W2.rnB I) (λc d t' u' I=>?_) ⟨rfl,rfl,Bc _,R,rfl,by rw[hp];rfl,Be _⟩) λc d t' u' I=>?_)
 ·obtain⟨rfl,e,h,U⟩:=I;exact⟨rfl,e,U,by have:=U.le;omega⟩
 ·obtain⟨rfl,e,U,g⟩:=I;obtain⟨f,b⟩:=c;cases e;refine W2.bind (W2.mono (W2.for (λ_ c d t' u'=>c=(af,())/\d=(af,())/\UW G (Dv t).size b t' u') (λx c d t' u' _ _ I=>W2.rnF (j:=x) I) (λc d t' u' I=>I) ⟨rfl,rfl,U⟩) λc d t' u' I=>?_);obtain⟨rfl,rfl,a⟩:=I;exact W2.pur (q _ _ a.rt a.sz)
end
end KG
namespace KG
open PySem PySem.W PyProof.Rows KW
variable{G:Str->Tok->Tok->Prop}
def LT(G:Str->Tok->Tok->Prop)(xs ys:Array Af):Prop:=xs.size=ys.size/\∀i,i < xs.size->∃(s:Str)(t u:Tok),xs[i]?=ae (.str s t)/\ys[i]?=ae (.str s u)/\G s t u
section
variable{prog:A1}{w:Bh}
def Told(prog:A1)(w:Bh)(vs:List Af)(out:Array Af):Prop:=
 out.size=vs.length/\(vs.length < 2/\out=(pairsOf vs).map (·.2)\/2<=vs.length/\(∀(A:Bo)(E:Af->Ai->Prop)(s:Ai)(Q:SortKind->Ai->Prop),Q Dp s->A2 (A5 prog w) A (keyKind' vs.toArray) Q E s)/\∃e:Ao,Ga e=af/\out=(Dv e).map (·.2) /\
  ∀(A:Bo)(E:Af->Ai->Prop)(s:Ai)(P:Unit->Ao->Prop),P () e->wpS (A5 prog w) A E s sortRuns' P (C9 Dp (pairsOf vs) #[] 7 af))
variable{A:Bo}{E:Af->Ai->Prop}{s:Ai}
theorem srt1{a:A'}{vs:List Af}{out:Array Af}(T:Told prog w vs out)(hl:vs.length<=1000){n:Nat}{P:Fin->Ai->Prop}(ho:s.heap.get? a=ae (Ck "list" vs.toArray n))
  (q:P (.done (.ret .none)) {s with heap:=sortedHeap s.heap a vs out}):A2 (A5 prog w) A (Es.«list.sort» ⟨[.ref a],[]⟩) P E s:=by
 have g:=Aw ho;obtain⟨m,h⟩:∃m,(s.heap.update a (Dr λ_=>#[])).get? a=ae (Ck "list" #[] m):=⟨_,Fj ho _⟩;have d:(((s.heap.update a (Dr λ_=>#[])).push (Ck "tuple" vs.toArray 0)).push (Ck "list" #[] 0)).get? a=ae (Ck "list" #[] m):=by
  rw[Heap.get?_push_ne _ _ _ (by rw[size_push',Heap.size_update];exact Bd (Eb g)),Heap.get?_push_ne _ _ _ (by rw[Heap.size_update];exact Bd g),h]
 have p:=Ey;have k:vs.toArray.size=vs.length:=B4;rw[list_sort_plain];apply Aa;apply listItems_at ho rfl;apply Aa;apply F9 ho rfl;apply Aa;apply G8 h rfl;apply Aa;apply wpAny_newTuple (hsz:=by show vs.length<=Av;omega);apply Aa;apply wpAny_newList (hsz:=Be _);apply Cb;rw[k];show A2 (A5 prog w) A _ P E {s with heap:=((s.heap.update a (Dr λ_=>#[])).push (Ck "tuple" vs.toArray 0)).push (Ck "list" #[] 0)};rcases T with⟨z,⟨c,rfl⟩|⟨c,l,e,j,rfl,f⟩⟩
 ·rw[b_ c];try rw[b_ c]
  apply Aa;apply Aj;dsimp only;rw[StateT.run_pure];apply Aa;apply Aj;dsimp only;apply Aa;apply G8 d rfl;apply Aa;refine F9 d rfl ?_ (hsz2:=?_)
  ·rw[bne_self_eq_false];exact Aj q
  ·exact A0 (Nat.le_of_eq z) ⋯
 ·rw[a_ (Nat.not_lt.mpr c)];try rw[a_ (Nat.not_lt.mpr c)]
  apply Aa;apply l;apply Aa;refine C8 (f A E _ (λ_ i=>i=e) rfl) ?_ λ_ _ x=>x
  rintro⟨⟨⟩,i⟩ o ⟨rfl,rfl⟩
  dsimp only;apply Aa;apply G8 d rfl;apply Aa;refine F9 d rfl ?_ (hsz2:=?_)
  ·rw[j,bne_self_eq_false];exact Aj q
  ·exact A0 (Nat.le_of_eq z) ⋯
end
end KG
namespace KG
open PySem PySem.W PyProof.Rows KW
variable{G:Str->Tok->Tok->Prop}
theorem LT.strs{vs vs':List Af}(h:LT G vs.toArray vs'.toArray):StrsAre vs (vs.map strOf)/\StrsAre vs' (vs'.map strOf):=by
 have c:=by simpa using h.1
 refine⟨strsAre_map _ λv a=>?_,strsAre_map _ λv a=>?_⟩<;>obtain⟨i,b,rfl⟩:=G1 a
 ·obtain⟨s,t,u,e,_⟩:=h.2 i ⋯;rw[D0,Ah b]at e;exact⟨s,t,B2 e⟩
 ·obtain⟨s,t,u,_,e,_⟩:=h.2 i (by rw[B4];omega);rw[D0,Ah b]at e;exact⟨s,u,B2 e⟩
theorem sO(prog:A1)(w:Bh){vs vs':List Af}(h:LT G vs.toArray vs'.toArray):∃out out',LT G out out'/\Told prog w vs out/\Told prog w vs' out':=by
 have e:=by simpa using h.1
 have P:RA G (pairsOf vs) (pairsOf vs'):=⟨by rw[D9,D9,e],λi o=>by
  rw[D9]at o;obtain⟨s,t,u,f,m,g⟩:=h.2 i ⋯;refine⟨_,_,?_,?_,s,t,u,g,rfl,rfl⟩
  ·rw[<-Bu,pairsOf_toList,Fu];rw[D0]at f;exact⟨f,f⟩
  ·rw[<-Bu,pairsOf_toList,Fu];rw[D0]at m;exact⟨m,m⟩⟩
 have M:∀{a b:Array Bj},RA G a b->LT G (a.map (·.2)) (b.map (·.2)):=λ{a b} r=>⟨by rw[Ej,Ej,r.sz],λi o=>by
  rw[Ej]at o;obtain⟨x,y,f,m,s,t,u,g,rfl,rfl⟩:=r.get o;exact⟨s,t,u,by rw[Array.getElem?_map,f];rfl,by rw[Array.getElem?_map,m];rfl,g⟩⟩
 by_cases z:vs.length < 2
 ·exact⟨_,_,M P,⟨by rw[Ej,D9],.inl ⟨z,rfl⟩⟩,by rw[Ej,D9],.inl ⟨e▸z,rfl⟩⟩
 ·obtain⟨K,D⟩:=h.strs;obtain⟨_,_,p,n,⟨R,B⟩,I,J⟩:=W2.runs (pw:=(prog,w)) (t:=C9 Dp (pairsOf vs) #[] 7 af) (u:=C9 Dp (pairsOf vs') #[] 7 af) ⟨⟨rfl,rfl,rfl,rfl,P⟩,rfl,rfl⟩ rfl (Q:=λ_ _ p n=>RT G p n/\(Dv p).size=(pairsOf vs).size) λt' n R z=>⟨R,z⟩;have C:∀{l:List Af}{F:List Str},StrsAre l F->2<=l.length->keyKind' l.toArray=Pure.pure Dp
   |_::_::_,_,k,_=>keyKind_strs k
  refine⟨_,_,M R.ar,⟨?_,.inr ⟨by omega,λA E s Q q=>by rw[C K ⋯];exact Aj q,p,R.f1,rfl,I⟩⟩,?_,.inr ⟨by omega,λA E s Q q=>by rw[C D ⋯];exact Aj q,n,R.f2,rfl,J⟩⟩
  ·rw[Ej,B,D9]
  ·rw[Ej,R.ar.sz,B,D9,e]
end KG
namespace KG
open PySem PySem.W PyProof.Rows KW
theorem Oo{α:Type}{M:Model}{m:Sem α}{a b:α}{s:Ai}(c:Code)(h1:∀A:Bo,A2 M A m (λr _=>r=a) (λ_ _=>False) s)(h2:∀A:Bo,A2 M A m (λr _=>r=b) (λ_ _=>False) s):a=b:=by
 apply Classical.byContradiction;intro p
 let f:=λr=>@ite (Sem PySem.Fin) (r=a) (Classical.propDecidable _) (.pure (.done .next)) (.pure (.done .brk))
 let Γ:=Ctx.of c []
 have j:Γ.In {handled:=Γ.handled,depth:=frameCount Γ.below+Γ.code.weight,units:=Γ.units}:=by
  refine⟨rfl,Bc _,?_,?_,Bc _⟩<;>intro _ z<;>cases z
 have k:∀x i,(f x=.pure (.done i))->(∀A:Bo,A2 M A m (λr _=>r=x) (λ_ _=>False) s)->∃g,Reach M [] s _ c default [] g (.ret _):=λx i e h=>by
  have w:Sem.wp M Γ (m.bind f) (Sem.finPost M Γ λr _=>r=.ok i) (λe _ _=>(Except.error e:Result)=.ok i) default s:=by
   rw[Sem.wp_bind];refine Sem.wp_mono M Γ m (λy v g q=>?_) (λ_ _ _ q=>q.elim) _ _ (h _ Γ default j);cases(q);rw[e];rfl
  obtain⟨r,g,o,rfl⟩:=(Sem.wp_iff_runs ..).mp w;exact⟨g,runs_iff_reach.mp o⟩
 obtain⟨t,n⟩:=k a .next (b_ rfl) h1
 obtain⟨u,l⟩:=k b .brk (a_ λz=>p z.symm) h2;exact nomatch (Reach.det n l).2
variable{prog:A1}{w:Bh}
theorem Told.once{vs:List Af}{o o':Array Af}(h:Told prog w vs o)(h':Told prog w vs o'):o=o':=by
 rcases h with⟨z,⟨t,rfl⟩|⟨t,D,e,v,rfl,c⟩⟩<;>rcases h' with⟨y,⟨l,rfl⟩|⟨l,u,C,p,rfl,f⟩⟩
 ·rfl
 ·omega
 ·omega
 ·have g:∀{e:Ao},(∀A E s P,P () e->wpS _ A E s sortRuns' P _)->∀A:Bo,A2 (A5 prog w) A (sortRuns'.run (C9 Dp (pairsOf vs) #[] 7 af)) (λr _=>r=((),e)) _ {}:=λ{e} c A=>
   C8 (c A (λ_ _=>False) {} (λ_ x=>x=e) rfl) (λr B q=>by obtain⟨⟨⟩,x⟩:=r;exact congrArg _ q.2) λ_ _ x=>x
  have:=Oo default (g c) (g f);simp_all
def SR(prog:A1)(w:Bh)(ks ys:List Str):Prop:=∃(vs:List Af)(out:Array Af),L2.TxOk vs ks/\L2.TxOk out.toList ys/\Told prog w vs out
theorem wA{vs vs':List Af}{ks:List Str}(h:L2.TxOk vs ks)(h':L2.TxOk vs' ks):LT (λ_ _ _=>True) vs.toArray vs'.toArray:=⟨by rw[B4,B4,h.1,h'.1],λi d=>by
 have a:i < vs'.length:=by rw[h'.1,<-h.1];omega
 obtain⟨k,t,e,g⟩:=h.2 i _ (Ah d);obtain⟨j,f,b,c⟩:=h'.2 i _ (Ah a);rw[e]at b;cases b;exact⟨k,t,f,by rw[D0,Ah d,g],by rw[D0,Ah a,c],trivial⟩⟩
theorem SR.once{ks ys ys':List Str}(h:SR prog w ks ys)(h':SR prog w ks ys'):ys=ys':=by
 obtain⟨v,a,p,c,f⟩:=h;obtain⟨g,d,e,b,n⟩:=h';obtain⟨o,x,L,T,l⟩:=sO prog w (wA p e);obtain rfl:=f.once T;obtain rfl:=n.once l;apply List.ext_getElem?;intro i;by_cases z:i < a.size
 ·obtain⟨s,t,u,r,y,_⟩:=L.2 i z;obtain⟨k,_⟩:=c.2 i _ (by rw[Bu];omega);obtain⟨q,_,m,j⟩:=b.2 i _ (by rw[Bu];omega);simp_all
 ·rw[Ce,Ce]
  ·rw[<-b.1,Bx,<-L.1];omega
  ·rw[<-c.1,Bx];omega
theorem SR.ex{vs:List Af}{ks:List Str}(h:L2.TxOk vs ks):∃out ys,Told prog w vs out/\L2.TxOk out.toList ys/\SR prog w ks ys/\ys.length=ks.length:=by
 obtain⟨o,f,L,T,e⟩:=sO prog w (wA h h);have x:L2.TxOk o.toList (o.toList.map strOf):=⟨by rw[Ab],λj v a=>by
  have d:=by
   have:=(Ap.mp a).1;omega
  obtain⟨s,t,u,c,_⟩:=L.2 j d;rw[Bu]at a;rw[a]at c;cases c;exact⟨s,t,by rw[Am,Bu,a];rfl,rfl⟩⟩
 exact⟨o,_,T,x,⟨vs,o,h,x,T⟩,by rw[Ab,Bx,T.1,h.1]⟩
theorem SR.mem{ks ys:List Str}{P:Str->Prop}(h:SR prog w ks ys)(hP:∀k∈ks,P k):∀y∈ys,P y:=λy m=>by
 obtain⟨b,a,r,d,l⟩:=h;have n:LT (λs _ _=>P s) b.toArray b.toArray:=⟨rfl,λi f=>by
  obtain⟨k,t,e,q⟩:=r.2 i _ (Ah f);have c:b.toArray[i]?=ae (.str k t):=by rw[D0,Ah f,q]
  exact⟨k,t,t,c,c,hP k (Az e)⟩⟩
 obtain⟨o,A,L,T,C⟩:=sO prog w n;obtain rfl:=l.once T;obtain⟨j,z,rfl⟩:=G1 m;have p:j < a.size:=by rw[<-Bx,d.1];omega
 obtain⟨s,t,u,e,_,g⟩:=L.2 j p;obtain⟨k,_,B,v⟩:=d.2 j _ (by rw[Bu];omega);simp_all
end KG
namespace KG
open PySem PySem.W PyProof.Rows KW
section
variable{prog:A1}{w:Bh}{A:Bo}{E:Af->Ai->Prop}{s:Ai}
theorem GL{st:Ao}{n:Nat}{k:Nat->Int}{Q:Option Nat->Ao->Prop}(hk:kindOf st=Dp)(hI:∀i,i < n->∃t q,(Dv st)[i]?=ae (.int (k i) t,q))(up:∀i,1<=i->i < n->k (i-1)<=k i)(h1:1<=n)(h:Q (ae n) st):wpS (A5 prog w) A E s (countRun' 0 n) Q st:=by
 refine Dc (wpS_mono (Gs (Q:=λc a=>st=a/\c=(af,n)) (λi c a=>st=a/\c=(af,i)) (λi c a h1 b I=>?_) (λc a I=>?_) ⟨rfl,rfl⟩) λc a I=>?_)
 ·obtain⟨rfl,rfl⟩:=I;obtain⟨t,q,e⟩:=hI i b;obtain⟨f,d,g⟩:=hI (i-1) ⋯;refine Dc (wpS_ltAt hk (by rw[Nat.zero_add];exact e) (by rw[Nat.zero_add];omega) ?_);dsimp only;rw[d_ (by have:=up i h1 b;omega)];exact Dm ⟨rfl,rfl⟩
 ·obtain⟨rfl,rfl⟩:=I;exact⟨rfl,by rw[show max 1 n=n by omega]⟩
 ·obtain⟨rfl,rfl⟩:=I;dsimp only;rw[b_ (by simp)];exact Dm h
theorem I0{st:Ao}{lo m n:Nat}{Q:Bool->Ao->Prop}(hm:m=n)(h1:1<=n)(h:Q ah st):wpS (A5 prog w) A E s (binarySort' lo m n) Q st:=by
 rw[hm];refine Dc (wpS_mono (Gs (λk c a=>st=a/\c=(af,())) (λk c a h1 b I=>?_) (λc a I=>I) ⟨rfl,rfl⟩) λc a I=>?_)
 ·omega
 ·obtain⟨rfl,rfl⟩:=I;exact Dm h
theorem M8{a:Array Bj}{n:Nat}{Q:ForInStep (Option Unit×Nat)->Ao->Prop}(h:Q (.yield (af,0+n)) (C9 Dp a #[(0,n,0)] 7 af)):wpS (A5 prog w) A E s (rnJ a.size 0 n) Q (C9 Dp a #[] 7 af):=Dc (wpS_get (Dc (wpS_modify (Dm h))))
theorem QX{a:Array Bj}{k:Nat->Int}{Q:Unit->Ao->Prop}(hI:∀i,i < a.size->∃t q,a[i]?=ae (.int (k i) t,q))(up:∀i,1<=i->i < a.size->k (i-1)<=k i)(h1:1<=a.size)(h:Q () (C9 Dp a #[(0,a.size,0)] 7 af)):wpS (A5 prog w) A E s sortRuns' Q (C9 Dp a #[] 7 af):=by
 rw[xI];refine Dc (wpS_get (Dc (wpS_mono (Gs (b:=a.size) (Q:=λc d=>c=(af,a.size)/\d=C9 Dp a #[(0,a.size,0)] 7 af) (λx c d=>(x=0/\c=(af,0)/\d=C9 Dp a #[] 7 af)\/(1<=x/\c=(af,a.size)/\d=C9 Dp a #[(0,a.size,0)] 7 af)) (λx c d l o I=>?_) (λc d I=>?_) (.inl ⟨rfl,rfl,rfl⟩)) λc d I=>?_)))
 ·rcases I with⟨rfl,rfl,rfl⟩|⟨m,rfl,rfl⟩
  ·show wpS _ A E s (rnB a.size 0 _) _ _;unfold rnB;rw[a_ ⋯];refine Dc (GL rfl hI up h1 ?_);have f:∀n,n=a.size->wpS (A5 prog w) A E s (rnJ a.size 0 n) (λr d=>match r with
     |.done g=>g=(af,a.size)/\d=C9 Dp a #[(0,a.size,0)] 7 af
     |.yield g=>(0+1=0/\g=(af,0)/\d=C9 Dp a #[] 7 af)\/(1<=0+1/\g=(af,a.size)/\d=C9 Dp a #[(0,a.size,0)] 7 af)) (C9 Dp a #[] 7 af):=λn j=>by
    subst j;exact M8 (.inr ⟨Bc _,by simp⟩)
   by_cases z:a.size-0 < minRun' a.size a.size 0
   ·dsimp only;rw[b_ z];refine Dc (wpS_lift (Fg ⟨rfl,Dc (I0 (show min _ _=a.size by omega) h1 ?_)⟩));exact f _ ⋯
   ·dsimp only;rw[a_ z];exact f _ rfl
  ·show wpS _ A E s _ _ _;unfold rnB;rw[b_ (Bc _)];exact Dm ⟨rfl,rfl⟩
 ·rcases I with⟨h,_⟩|⟨_,rfl,rfl⟩
  ·omega
  ·exact⟨rfl,rfl⟩
 ·obtain⟨rfl,rfl⟩:=I;refine Dc (wpS_mono (Gs (λk c d=>d=C9 Dp a #[(0,a.size,0)] 7 af/\c=(af,())) (λk c d h1 p I=>?_) (λc d I=>I) ⟨rfl,rfl⟩) λc d I=>?_)
  ·obtain⟨rfl,rfl⟩:=I;exact Dc (wpS_get (Dm ⟨rfl,rfl⟩))
  ·obtain⟨rfl,rfl⟩:=I;exact Dm h
theorem told_up{vs:List Af}{k:Nat->Int}(hI:∀i,i < vs.length->∃t,vs[i]?=ae (.int (k i) t))(up:∀i,1<=i->i < vs.length->k (i-1)<=k i):Told prog w vs vs.toArray:=by
 have g:(pairsOf vs).map (·.2)=vs.toArray:=by
  apply Array.ext (by rw[Ej,D9,B4]);intro i c l;simp[pairsOf]
 refine⟨B4,?_⟩;by_cases z:vs.length < 2
 ·exact .inl ⟨z,g.symm⟩
 ·refine .inr ⟨by omega,λA E s Q q=>kas_kind (T:=Et "int") ⋯ (λf h=>?_) rfl rfl q,_,rfl,g.symm,λA E s P p=>QX (λi b=>?_) (λi c b=>up i c (by rw[D9]at b;omega)) (by rw[D9];omega) p⟩
  ·obtain⟨j,d⟩:=Bz.mp h;obtain⟨t,e⟩:=hI j (Ap.mp d).1;rw[d]at e;cases e;exact .now
  ·rw[D9]at b;obtain⟨t,e⟩:=hI i b;refine⟨t,.int (k i) t,?_⟩;rw[<-Bu,pairsOf_toList,Fu];exact⟨e,e⟩
end
theorem sortedH{h:Heap}{a:A'}{vs:List Af}{n:Nat}(out:Array Af)(ho:h.get? a=ae (Ck "list" vs.toArray n)):(∃c,(sortedHeap h a vs out).get? a=ae (Ck "list" out c))/\∀b o,b≠a->h.get? b=ae o->(sortedHeap h a vs out).get? b=ae o:=by
 obtain⟨e,d⟩:∃e,(h.update a _).get? a=ae (Ck "list" #[] e):=⟨_,Fj ho λ_=>#[]⟩;have f:(((h.update a _).push (Ck "tuple" vs.toArray 0)).push (Ck "list" #[] 0)).get? a=ae (Ck "list" #[] e):=Ae _ (Ae _ d);exact⟨⟨_,Fj f λ_=>out⟩,λb o g q=>((Bf (((h.update a (Dr λ_=>(#[]:Array Af))).push (Ck "tuple" vs.toArray 0)).push (Ck "list" #[] 0)) a (Dr λ_=>out)).2 b g).trans (Ae _ (Ae _ (((Bf h a (Dr λ_=>(#[]:Array Af))).2 b g).trans q)))⟩
end KG
namespace L2
open PySem PySem.Spec PyProof.Rows PySem.W
theorem u6:∀{vs:List Af}{ks:List Str},TxOk vs ks->Vals (ks.map V.str) vs
 |[],[],_=>.nil
 |[],_::_,h=>g_ h.1 (by simp)
 |_::_,[],h=>g_ h.1 (by simp)
 |v::vs,k::ks,h=>by
  obtain⟨c,t,e,a⟩:=h.2 0 v rfl;cases e;exact .cons ⟨t,a⟩ (u6 ⟨by simpa using h.1,λj v b=>h.2 (j+1) v b⟩)
theorem uN{X:Cx}{i_:List (A'×Obj)}{σ:St}{H:Hp}{s:Ai}{h':Heap}{tk:Nat}{vs:List Af}{out:Array Af}{zs:List V}{Q:VK}(I:Inv X i_ σ H s)(hkp:∀b o,s.heap.get? b=ae o->h'.get? b=ae o)(T:KG.Told X.prog X.w vs out)(hl:vs.length<=1000)(hz:Vals zs out.toList)
  (q:∀D:A',H D=af->Q (.ref D) (upd H D (.lst zs))):
  vs.length<=Av/\A2 (A5 X.prog X.w) X.A.in1.in1 (Es.«list.sort» ⟨[.ref h'.objs.size],[]⟩) (λf s2=>f=.done (.ret .none)/\EP X i_ σ Q (.ref h'.objs.size) s2) X.xe {s with heap:=h'.push (Ck "list" vs.toArray 0),toks:=tk}:=by
 have a:(h'.push _).get? h'.objs.size=ae (Ck "list" vs.toArray 0):=Au _ rfl;have d:Inv X i_ σ H {s with heap:=h',toks:=tk}:=I.kept hkp;obtain⟨⟨c,h⟩,g⟩:=KG.sortedH out a;refine⟨ej hl,KG.srt1 T hl a ⟨rfl,⟨.ref h'.objs.size,_,d.laid (o:=.lst zs) (λb o e=>g b o (Bd (Aw e)) (Ae _ e)) (Bc _) ⟨?_,out.toList,c,hz,by rw[h]⟩,rfl,q _ (d.hok.fresh (Bc _))⟩⟩⟩;have:=hz.length;rw[this,Bx,T.1];exact ej hl
def xm(P:A1)(w:Bh):List V->Hp->VK->Prop:=λxs H Q=>∃(v:A')(ks:List Str),xs=[.ref v]/\H v=ae (.lst (ks.map V.str))/\ks.length<=1000 /\
 ∀(D:A')(ys:List Str),KG.SR P w ks ys->ys.length=ks.length->H D=af->Q (.ref D) (upd H D (.lst (ys.map V.str)))
theorem PV{X:Cx}(hh:X.A.handled=af):CallR X (.builtin "sorted") (xm X.prog X.w):=by
 intro f s σ H G J Q I r h;obtain⟨v,K,rfl,F,L,q⟩:=h;obtain⟨u,rfl,m⟩:=e8 r;cases(m);obtain⟨z,c,n,B,l,e⟩:=I.lstM F;obtain⟨k,E,T,x,S,y⟩:=KG.SR.ex (AV B);refine KS.sorted_of (R:=λvs g=>vs=c/\∃a d,g={ s with heap:=a,toks:=d}/\∀b o,s.heap.get? b=ae o->a.get? b=ae o) ?_ ?_
 ·refine collect_list (⟨_,e,rfl,_,rfl⟩) ⟨rfl,_,_,rfl,λb o i=>?_⟩ (by simp_all);rw[C5 _ _ (Ne.symm (Bd (Aw i)))];exact Ae _ i
 ·rintro vs g ⟨rfl,a,d,rfl,C⟩
  exact uN (s:=s) I C T (by simp_all) (u6 x) λD t=>q D E S y t
def wD(P:A1)(w:Bh):List V->Hp->VK->Prop:=λxs H Q=>∃(d:A')(l:List (aC×V))(ks:List Str),xs=[.ref d]/\H d=ae (.dK l)/\l.map (·.1)=ks.map (Da:Str->aC)/\ks.length<=1000 /\
 ∀(D:A')(ys:List Str),KG.SR P w ks ys->ys.length=ks.length->H D=af->Q (.ref D) (upd H D (.lst (ys.map V.str)))
theorem LU{X:Cx}(hh:X.A.handled=af):CallR X (.builtin "sorted") (wD X.prog X.w):=by
 intro M s σ H xs us Q I r h;obtain⟨d,l,V,rfl,hd,hk,hl,q⟩:=h;obtain⟨u,rfl,ru⟩:=e8 r;cases(ru);obtain⟨z,m,J,B,g⟩:=I.hok d _ hd;obtain⟨ep,G⟩:=g.dictAt;have c:=(zi B).trans hk;have f:=by have:=congrArg Dy c;simpa using this
 refine KS.sorted_of (R:=λvs O=>∃(h':Heap)(n:Nat),O={ s with heap:=h',toks:=n}/\(∀b o,s.heap.get? b=ae o->h'.get? b=ae o)/\TxOk vs V)
  (kdu_collect (kdl_dict m) hh G (by rw[f];exact ej ⋯) λh' n j_ F P=>⟨h',n,rfl,F,?_⟩) ?_
 ·refine⟨by rw[Bx,P.1,f],λj v hj=>?_⟩;obtain⟨k,x,e1,e2⟩:=P.2 j v (by simp_all);have a:(J.map (·.1))[j]?=ae k:=by rw[Am,e1];rfl
  rw[c,Am]at a;cases W:V[j]? with
  |none=>rw[W]at a;cases a
  |some L=>
   rw[W]at a;have E:=B2 a;subst E;rcases gi (show i0 (Da L) v=ah from e2)with⟨i,t,z,_⟩|⟨y,t,z,rfl⟩
   ·cases z
   ·cases z;exact⟨L,t,rfl,rfl⟩
 rintro vs O ⟨h',n,rfl,K,N⟩
 obtain⟨Y,ys,T,x,S,hy⟩:=KG.SR.ex N;exact uN (s:=s) I K T (by rw[N.1];omega) (u6 x) λD hD=>q D ys S hy hD
def BJ:List V->Hp->VK->Prop:=λxs H Q=>∃(v:A')(ks:List Int),xs=[.ref v]/\H v=ae (.lst (ks.map V.int))/\ks.length<=1000/\ks.Pairwise (·<=·) /\
 ∀D:A',H D=af->Q (.ref D) (upd H D (.lst (ks.map V.int)))
theorem CS:∀{ks:List Int}{vs:List Af},Vals (ks.map V.int) vs->vs.length=ks.length/\∀i,i < vs.length->∃t,vs[i]?=ae (.int (ks.getD i 0) t)
 |[],_,h=>by cases h;exact⟨rfl,λi a=>g_ a (Nat.not_lt_zero _)⟩
 |k::ks,_,h=>by
  cases h with
  |cons r t=>
   obtain⟨l,p⟩:=CS t;obtain⟨b,rfl⟩:=(r);refine⟨by rw[Ax,Ax,l],λi a=>?_⟩;cases i with
   |zero=>exact⟨b,rfl⟩
   |succ i=>exact p i (by simpa using a)
theorem OR{X:Cx}:CallR X (.builtin "sorted") BJ:=by
 intro g s σ H E F Q I r h;obtain⟨v,p,rfl,C,J,w,q⟩:=h;obtain⟨u,rfl,x⟩:=e8 r;cases(x);obtain⟨z,d,n,A,t,e⟩:=I.lstM C;obtain⟨l,a⟩:=CS A;refine KS.sorted_of (R:=λvs j=>vs=d/\∃c f,j={ s with heap:=c,toks:=f}/\∀b o,s.heap.get? b=ae o->c.get? b=ae o) ?_ ?_
 ·refine collect_list (⟨_,e,rfl,_,rfl⟩) ⟨rfl,_,_,rfl,λb o k=>?_⟩ (by simp_all);rw[C5 _ _ (Ne.symm (Bd (Aw k)))];exact Ae _ k
 ·rintro vs j ⟨rfl,c,f,rfl,B⟩
  refine uN (s:=s) I B (KG.told_up a λi D G=>?_) ⋯ ⋯ q;have:=Hh.mp w (i-1) i ⋯ ⋯ ⋯;simpa[show i-1 < p.length by omega,show i < p.length by omega]using this
end L2
namespace DL
open PySem L2 Nb
section
variable{X:Cx}{a b o:Expr}{ta tb td:TE}{wa wb wd':DT}{pos pos1 pos2 p p2:Pos}{K:Ag}
theorem DM{H:Hp}{B:A'->Prop}:∀{ks:List Int}{xs:List V},RdXs H B xs (ks.map .int)->xs=ks.map V.int
 |[],_,.nil=>rfl
 |k::ks,_,.cons b a=>by
  cases b;rw[DM a];rfl
theorem xg{H:Hp}{B:A'->Prop}:∀(ks:List Int),RdXs H B (ks.map V.int) (ks.map .int)
 |[]=>.nil
 |k::ks=>.cons (.int k) (xg ks)
def xw(w:DT):d0:=λδ n Q=>w δ n λx n1=>∃ks:List Int,x=.d (.list (ks.map .int))/\ks.length<=1000/\ks.Pairwise (·<=·)/\Q (ks.map .int) n1
theorem Sb(hg:Gl X "sorted")(hm:X.mg "sorted"=af)(ho:DE X o td wd')(hv:Bw "sorted"=ae (.builtin "sorted"))
  (he':Aq [o] X.env=(ai,eval o X.env)::Aq [] X.env) (q_:(C0 pos (Aq [] X.env)).any (·.1)=ai):
  DF X (.Call (.Name "sorted" p) [o] [] pos) (d5 BJ (br td aW)) (xw wd'):=by
 refine⟨gz OR hg hm hv (bZ ho.pe dq he') ∎ ∎ he' q_,λC H B σ δ n Q z R q k=>ho.sd C H B σ δ n _ _ R q λv x j g c e s m=>?_⟩;obtain⟨t,rfl,f,l,h⟩:=m;cases(show RdX j B v (.list _)from s)with
 |@lst a y _ d A w i=>
  rw[DM i]at d;exact⟨a,t,rfl,d,f,l,λD b=>k D _ _ _ g (c.new b) (e.trans (Kp.new b)) (c.was e b) a9 (by rw[Ab];exact ej f) (xg _) h⟩
theorem rS{H:Hp}:∀(ys:List Str),RdAll K H (ys.map V.str) (ys.map .str)
 |[]=>.nil
 |y::ys=>.cons (.str y) (rS ys)
theorem zJ:∀{ys:List Str},(∀y∈ys,Ed y=ah)->Cq (ys.map .str)=ah
 |[],_=>rfl
 |y::ys,h=>by
  rw[Bk,Cq,Bi];exact⟨h y An,zJ λz a=>h z (Ak _ a)⟩
theorem wN:∀(ys:List Str),F0 (ys.map .str)<=1
 |[]=>Be _
 |y::ys=>Nat.max_le.mpr ⟨Be _,wN ys⟩
theorem y8:∀(ys:List Str),C2 (ys.map .str) (ys.map .str)=ah
 |[]=>rfl
 |y::ys=>by
  rw[Bk,C2,y8 ys];simp[Cf]
def m8(wa wb:DT):b5:=λδ n Q=>wa δ n λx n1=>∃ks:List Str,x=.d (.list (ks.map .str))/\ks.length<=1000/\(∀k∈ks,Ed k=ah)/\wb δ n1 λy n2=>∃kvs:List (aC×Ad),y=.dk kvs/\kvs.map (·.1)=ks.map (Da:Str->aC)/\Q ai n2
theorem RdK.keys{H:Hp}{B:A'->Prop}{l:List (aC×V)}{m:List (aC×Ad)}(h:RdK H B l m):l.map (·.1)=m.map (·.1):=by
 induction h with
 |nil=>rfl
 |cons r _ a=>rw[Bk,Bk,a,r.1]
theorem RD(hh:X.A.handled=af)(hu:X.A.units+64 < Dd)(hg:Gl X "sorted")(hm:X.mg "sorted"=af)(ha:DE X a ta wa)(hb:DE X b tb wb)(hK:X.K=K:=by rfl)(hv:Bw "sorted"=ae (.builtin "sorted"):=by decide +kernel)
  (he:Aq [a] X.env=(ai,eval a X.env)::Aq [] X.env:=by rfl) (q_:(C0 pos1 (Aq [] X.env)).any (·.1)=ai:=by rfl) (he2:Aq [b] X.env=(ai,eval b X.env)::Aq [] X.env:=by rfl) (hpl2:(C0 pos2 (Aq [] X.env)).any (·.1)=ai:=by rfl):
  DC X (.Compare (.Call (.Name "sorted" p) [a] [] pos1) [.NotEq] [.Call (.Name "sorted" p2) [b] [] pos2] pos) (fQ (cZ (qU K λd e=>ae (!Cf d e)) (d5 (xm X.prog X.w) (br ta aW)) (d5 (wD X.prog X.w) (br tb aW)))) (m8 wa wb):=by
 subst hK;refine⟨ja (JV hu) (gz (PV hh) hg hm hv (bZ ha.pe dq he) ∎ ∎ he q_) (gz (LU hh) hg hm hv (bZ hb.pe dq he2) ∎ ∎ he2 hpl2) (jo _),λC H B σ δ n Q Q' R q k=>ha.sd C H B σ δ n _ _ R q λv x Y T j k1 r1 i=>?_⟩;obtain⟨E,rfl,F,J,i⟩:=i;cases(show RdX Y B v (.list _)from r1)with
 |@lst a1 xs _ o e2 e3 W=>
 rw[qw W]at o;refine⟨a1,E,rfl,o,F,λD f S hy r=>hb.sd C _ B σ δ T _ _ (j.new r) i λu y H3 Z O G r3 g=>?_⟩;obtain⟨L,rfl,hk,g⟩:=g;obtain⟨U,l,rfl,N,g2,g3⟩:=r3;refine⟨U,l,E,rfl,N,g3.keys.trans hk,F,λD' I P hy' c=>?_⟩;cases S.once P;have h:D≠C.t:=λz=>by have:=j.tp.ob;simp_all
 have f1:=G _ _ a9 h;have M:upd H3 D' (.lst (f.map V.str)) D=ae (.lst (f.map V.str)):=by rw[aH (bu f1 c)];omega
 have m:Cn (.list (f.map .str))=ah:=zJ (S.mem J);have s:D2 (.list (f.map .str))<=20:=by rw[D2];have:=wN f;omega
 refine⟨_,_,_,.lst (SqL.of M) (rS f),.lst (SqL.of a9) (rS f),m,m,s,s,?_,_,rfl,k ai _ Z (O.new c) ?_ g⟩
 ·show ae _=ae ai;rw[Cf,y8];rfl
 ·exact(k1.trans (Kp.new r)).trans (G.trans (Kp.new c))
end
theorem Rel.drop{C:Ctx}{H:Hp}{B:A'->Prop}{σ:St}{δ:Sl}{n:Int}{i:Nat}{v:Option V}(R:Rel C H B σ δ n):Rel C H B (σ.set i v) (δ.set i af) n:=by
 have g:∀{j:Nat}{x:SV},(δ.set i af)[j]?=ae (ae x)->δ[j]?=ae _/\(σ.set i v)[j]?=σ[j]?:=λ{j x} e=>by
  by_cases z:i=j
  ·subst z;rw[C1]at e;simp_all
  ·rw[Bg z]at e;exact⟨e,Bg z⟩
 have r:∀(j:Nat) x,(δ.set i af)[j]?=ae _->∃u,(σ.set i v)[j]?=ae _/\SRel C.H0 H B C.t u x:=λj x e=>by
  obtain⟨b,a⟩:=g e;rw[a];exact R.sl j x b
 have s:∀j k (x y:SV) u,(δ.set i af)[j]?=ae _->(δ.set i af)[k]?=ae _->x.isOwn=ah->y.isOwn=ah->(σ.set i v)[j]?=ae _->(σ.set i v)[k]?=ae _->j=k:=λj k x y u b a m f d c=>by
  obtain⟨p,h⟩:=g b;obtain⟨q,l⟩:=g a;rw[h]at d;rw[l]at c;exact R.ow j k x y u p q m f d c
 exact⟨R.tp,R.kp,R.t0,R.l0,R.g0,R.fz,R.bt,R.b0,R.ba,R.a0,r,s,by rw[Cu,Cu];exact R.len⟩
def nQ(i:Nat)(Sn:cz)(Sr:aP)(w1 w2:cK):aE:=λδ n K=>i < δ.length/\w1 δ n λxs n1=>Sn xs n1 λds n2=>w2 (δ.set i (↑(.list ds))) n2 λys n3=>Sr ys n3 λb n4=>b=.d (.bool ah)/\K.nx (δ.set i af) n4
section
variable{X:Cx}{e e2:Expr}{es es2:List Expr}{p p' p'' p2 pos pos2 pos3 cp cp2 up rp bp xp ap ccp:Pos}{tR tR2:TA}{wR wR2:cK}{Sn:cz}{Sr:aP}{f g x:Str}{k k2 k' i jb:Nat}{ps ps2:List Str}{aA:List Stmt}{Tr:TS}{Wr:aE}
abbrev vI(K:Ag)(i:Nat)(Sn:cz)(Sr:aP)(tR tR2:TA)(Tr:TS):TS:=dO (bw (ee (jS Sn) [] E0 tR) (dg i)) (dO (gL (kD (tB (ee (dv Sr) [] E0 tR2))) (fF (tC (.bl ai))) om) (dO (mF (kJ K "list" zI (aI i))) Tr))
theorem Nz(hn:HasN X.prog X.w X.K X.mg X.base k f ps Sn)(hq:Has X.prog X.w X.K X.mg X.base k2 g ps2 Sr)(hr:Room k' X.A)(h1:DA X (e::es) tR wR)(h2:DA X (e2::es2) tR2 wR2)(h3:DSs X aA Tr Wr)(hk:k<=k')(hk2:k2<=k')(hg:Gl X f)(hg2:Gl X g)(hN:X.N.Nodup)(hi:X.N[i]?=ae x)(hx:fA X.env.scope x)
  (hs:Cy (.Call (.Name f p) (e::es) [] cp) (ae (.Name x p')) pos.line X.env=pure ai) (hf:X.fn x=ah\/X.env.scope.names.lookup x=ae .local) (hdb:(f==("__debug__":Str))=ai) (he:Aq (e::es) X.env=(ai,eval e X.env)::Aq es X.env) (q_:(C0 cp (Aq es X.env)).any (·.1)=ai)
  (hdb2:(g==("__debug__":Str))=ai) (he2:Aq (e2::es2) X.env=(ai,eval e2 X.env)::Aq es2 X.env) (hpl2:(C0 cp2 (Aq es2 X.env)).any (·.1)=ai)
  (hv:dY X.env.scope x) (hd:(x==("__debug__":Str))=ai) (r_:(x==("__classdict__":Str))=ai)
  (hit:∀(whole:Sem Af),PySem.isTrue (.Call (.Name g p2) (e2::es2) [] cp2) X.env whole=(do
      let v <-whole
      standAt (Expr.Call (.Name g p2) (e2::es2) [] cp2).pos
      holding [v] (truthy v)))
  (hbase:G4 (.Name x xp) "clear" X.env (eval (.Name x xp) X.env)=eval (.Name x xp) X.env) (hline:(ap.endLine==ccp.line)=ah)
  (hsw:Cy (.Call (.Attribute (.Name x xp) "clear" ap) [] [] ccp) af pos3.line X.env=pure ai):
  DSs X (.Assign [.Name x p'] (.Call (.Name f p) (e::es) [] cp) pos::.If (.UnaryOp .Not (.Call (.Name g p2) (e2::es2) [] cp2) up) [.Return (ae (.Constant (.bool ai) jb bp)) rp] [] pos2::.Expr (.Call (.Attribute (.Name x xp) "clear" ap) [] [] ccp) pos3::aA) (vI X.K i Sn Sr tR tR2 Tr) (aq (nQ i Sn Sr wR wR2) Wr):=by
 obtain⟨a1,d1,f1,f2,f3,f4⟩:=hn.ex;obtain⟨a2,d2,g1,g2,g3,g4⟩:=hq.ex;refine⟨fg (fN hN hi hx (jH f1 (hr.mono hk) hg f3 f4 f2 .nil jD h1.pa hdb he q_) hs hf) (fg (mG (xV (zR (jH g1 (hr.mono hk2) hg2 g3 g4 g2 .nil jD h2.pa hdb2 he2 hpl2) hit)) (kA (iV AE)) oj) (fg (uT (FJ Hi PySem.F.slot_list_clear PySem.F.type_list_clear R3 (eS hi hv hd r_) hbase hline) hsw) h3.ps)),λC H B σ δ n K D R q E=>?_⟩;obtain⟨hil,q⟩:=q;refine h1.sd C H B σ δ n _ _ R q λvs xs H1 n1 c k1 r1 q1=>⟨C.t,C.l,_,B,xs,n1,_,c.tp,c.bt,c.ba,(by rw[Br];omega),q1,λds O q2 m xl G T2 j a S l3 l4=>?_⟩;have Q:=λz=>c.ba m z a;have V:RdX G B _ (.list ds):=.lst S Q l3 (l4.less λb z=>.inl z);have R2:Rel C G B _ (δ.set i (↑_)) O:=(c.step T2 j).set V rfl;refine h2.sd C G B _ _ O _ _ R2 q2 λvs2 ys H3 Y I P r3 q3=>⟨C.t,C.l,_,B,ys,Y,_,I.tp,I.bt,I.ba,by rw[Br];exact r3,q3,λw4 n4 y v4 u Z M r4=>?_⟩;obtain⟨rfl,y⟩:=y;cases(show RdX u B v4 (.bool ah)from r4);have h:m≠C.t:=λz=>Q (z▸c.bt);have T:=M _ _ (P _ _ S h) h;have r:i < σ.length:=by rw[R.len];omega
 refine⟨_,rfl,⟨_,Dq r,?_⟩⟩;refine⟨.inl ⟨rfl,_,SqL.of T⟩,m,xl,rfl,rfl,T,?_⟩;have T5:Tp (upd u m (.lst [])) C.t C.l C.ns n4:=Z.other (λz=>h z.symm) (bu c.tp.ls a) λz=>bu (c.tp.ag z) a;have k5:Kp C.t H1 (upd u m (.lst [])):=λb o U s=>by
  rw[aH (bu U a)];exact M _ _ (P _ _ (j _ _ U s) s) s
 exact h3.sd C _ B _ _ _ K D (c.step T5 k5).drop y E
end
end DL
namespace L2
open PySem
end L2
namespace DL
open PySem L2 Nb
section
variable{X:Cx}{e:Expr}{es:List Expr}{pos p:Pos}{tR:TA}{wR:cK}
def pN(S:eE)(w:cK):DT:=λδ n Q=>w δ n λxs n1=>S xs n1 λkvs n2=>Q (.dx kvs) n2
theorem Jh{k:Nat}{ps:List Str}{S:eE}{f:Str}(h:HasX X.prog X.w X.K X.mg X.base k f ps S)(hr:Room k X.A)(hg:Gl X f)(ha:DA X (e::es) tR wR)
  (hdb:(f==("__debug__":Str))=ai) (he:Aq (e::es) X.env=(ai,eval e X.env)::Aq es X.env) (q_:(C0 pos (Aq es X.env)).any (·.1)=ai):
  DE X (.Call (.Name f p) (e::es) [] pos) (ee (m3 S) [] E0 tR) (pN S wR):=by
 obtain⟨g,P,v,I,m,F⟩:=h.ex;refine⟨jH v hr hg m F I .nil jD ha.pa hdb he q_,λC H B σ δ n Q U R q M=>ha.sd C H B σ δ n _ _ R q λvs x T u c L E y=>⟨C.t,C.l,_,B,x,u,_,c.tp,c.bt,c.ba,by rw[Br];exact E,y,λkvs D G a N W J j V i O d=>?_⟩⟩;refine M _ (.dx kvs) _ D (c.step J j) (L.trans j) ⟨a,N,rfl,i,λz=>?_,d.move λb o e s=>⟨e,λz=>s (.inl z)⟩⟩ G;obtain⟨_,_⟩:=c.tp.ob;simp_all
end
end DL
namespace Nb
open PySem L2 DL
def nu(Sa:aP):cz:=λws n Q=>∃(pd:Ad)(s0:TK)(N:Nat)(aft:TK->Nat->Option TK)(Gd:TK->Prop)(J:Nat),ws=[.d pd,.d s0.1]/\AfOk Sa pd N aft Gd/\Gd s0/\N < 2 ^ 60/\(Lr aft N s0 J).length<=J/\(Lr aft N s0 J).length<=1000/\Q ((Lr aft N s0 J).map (·.1)) n
abbrev Za:List Str:=["programs","stand"]
theorem IB(Sa:aP)(ws:List Wv)(n:Int)(Q:List Ad->Int->Prop)(h:nu Sa ws n Q):jz (uf (pN (lM Sa) (ao ↥0 (ao ↥1 ak)))) (dI Za ws) n {nx:=λ_ _=>False,rt:=λ_ _=>False,rn:=Q}:=by
 obtain⟨k,b,N,a,f,J,rfl,A,j,d,i,g,q⟩:=h;refine(⟨k,b,N,a,f,J,rfl,A,j,d,i,g,λm c _ _=>?_⟩);have e:m.map (λp=>p.1.1)=(Lr a N b J).map (·.1):=by rw[<-c,By];rfl
 refine⟨m,.inl rfl,?_,?_⟩
 ·have:=congrArg Dy c;rw[Ab]at this;omega
 ·rw[e];exact q
def gR(E:List (TK×Nat)):List (aC×Ad):=E.map λe=>(.inr e.1.1.shown,.int (e.2:Nat))
theorem Qe{E:List (TK×Nat)}{e:TK×Nat}(h:∀x∈E,x.1.1.shown≠e.1.1.shown):eu (gR E) (.inr e.1.1.shown) (.int (e.2:Nat))=gR (E++[e]):=by
 unfold eu;rw[a_ (λz=>?_),gR,gR,Bb]
 ·rfl
 ·obtain⟨p,c,b⟩:=D5.mp z;obtain⟨x,a,rfl⟩:=A7.mp c;exact h x a (Sum.inr.inj (e_ b))
theorem zh:∀{E:List (TK×Nat)}{x e:TK×Nat},(E.map (·.1)).Nodup->x∈E->e∈E->x.1=e.1->x=e
 |a::E,x,e,d,g,f,h=>by
  rw[Bk,Dw]at d;rcases Ar.mp g with rfl|c<;>rcases Ar.mp f with rfl|b
  ·rfl
  ·exact g_ (h▸A7.mpr ⟨e,b,rfl⟩) d.1
  ·exact g_ (h▸A7.mpr ⟨x,c,rfl⟩) d.1
  ·exact zh d.2 c b h
theorem Mw{E:List (TK×Nat)}{e:TK×Nat}(inj:∀e∈E,∀e'∈E,e.1.1.shown=e'.1.1.shown->e.1=e'.1)(nd:(E.map (·.1)).Nodup)(he:e∈E):bA (gR E) (.inr e.1.1.shown)=ae (.int (e.2:Nat)):=by
 unfold bA gR;rw[List.find?_map];cases q:E.find? ((λkv:aC×Ad=>decide (kv.1=.inr e.1.1.shown)) ∘ λe=>((.inr e.1.1.shown:aC),Ep _))with
 |none=>exact g_ (c_ rfl) (List.find?_eq_none.mp q e he)
 |some x=>
  have c:=List.mem_of_find?_eq_some q;have d:=by simpa using List.find?_some q
  obtain rfl:=zh nd c he (inj x c e he d);rfl
theorem zY:∀(ks:List Int),C2 (ks.map .int) (ks.map .int)=ah
 |[]=>rfl
 |y::a=>by
  rw[Bk,C2,zY a];simp[Cf]
theorem uG:∀(ks:List Int),Cq (ks.map .int)=ah
 |[]=>rfl
 |y::a=>by
  rw[Bk,Cq,uG a];rfl
theorem qZ:∀(ks:List Int),F0 (ks.map .int)<=1
 |[]=>Be _
 |y::a=>Nat.max_le.mpr ⟨Be _,qZ a⟩
def oH:aP:=λws n Q=>∃(ps:Pg)(hs:List Hn)(ns:List Nt)(h:Nat),ws=[.d (cH ps),.d (bH hs ns),.d (.int h)]/\cu ps hs ns/\h < ps.length/\Q (.d (.bool (bE ps hs ns h))) n
def g6:cz:=λws n Q=>∃(ps:Pg)(hs:List Hn)(ns:List Nt),ws=[.d (cH ps),.d (bH hs ns)]/\cu ps hs ns/\Q (jK ps hs ns) n
def lC(Sa:aP)(Sr:cz):cz:=λws n Q=>∃(pd:Ad)(s0:TK)(N:Nat)(aft:TK->Nat->Option TK)(Gd:TK->Prop)(J:Nat)(en:TK->Bool),ws=[.d pd,.d s0.1]/\AfOk Sa pd N aft Gd/\Gd s0/\N < 2 ^ 60/\(Lr aft N s0 J).length<=J/\(Lr aft N s0 J).length<=1000/\(∀k∈Lr aft N s0 J,∀(n:Int)(R:List Ad->Int->Prop),(∀ds:List Ad,ds.isEmpty=en k->R ds n)->Sr [.d pd,.d k.1] n R)/\Q (((Lr aft N s0 J).filter en).map (·.1)) n
def lV(Sm:aP):aP:=λws n Q=>∃(ps:List Ad)(E:List (TK×Nat))(en:TK->Bool),ws=[.d (.tuple ps),.ob (.y (eT E)),.d (.list (((E.map (·.1)).filter en).map (·.1)))]/\ps.length<=100/\E.length<=900/\(E.map (·.1)).Nodup/\(∀e∈E,(∃ds,e.1.1=.tuple ds)/\Small e.1.1/\Ed e.1.1.shown=ah)/\(∀e∈E,∀e'∈E,e.1.1.shown=e'.1.1.shown->e.1=e'.1)/\(E.map (·.2)).Pairwise (·<=·) /\
 (∀e∈E,∀(n:Int)(R:DQ),(∀ms:List Nat,decide (ms=[ps.length])=en e.1->R (.d (.list (ms.map λi=>.int (i:Nat)))) n)->Sm [.d (.tuple ps),.d e.1.1] n R)/\Q (.d (.bool ah)) n
abbrev Sx:aE:=(az (fw (cW "int" ↥0) (nX (cW "bool" ↥0))))
abbrev JZ:aE:=(aq (ay 4 (w2 ↥0 ⇑0 aw)) (aq (aM (cT (w2 ↥4 (wC (.str "is")) bg)) (az (w2 (w2 ↥0 ⇑1 aw) ↥1 bg)) aN) (aq (aM (cT (w2 ↥4 (wC (.str "word")) bg)) (az (cW "str" ↥1)) aN) (aq (aM (cT (w2 ↥4 (wC (.str "number")) bg)) (az (cW "int" ↥1)) aN) (aq (aM (cT (w2 ↥4 (wC (.str "as")) bg)) (az (fw (w2 (w2 ↥0 ⇑1 aw) (cU 2) (dQ ai)) (w2 (w2 (cU 2) (w2 ↥0 ⇑1 aw) fe) ↥1 bg))) aN) (aq (aM (cT (w2 ↥4 (wC (.str "bind")) bg)) (az (uj (w2 (w2 ↥0 ⇑1 aw) (cU 3) (dQ ah)) (w2 (w2 (cU 3) (w2 ↥0 ⇑1 aw) fe) ↥1 bg))) aN) (az (wC (.bool ah)))))))))
abbrev PM:aE:=(aq (aM (cT (w2 (wB bC (ao ↥0 ak)) (wB bC (ao ↥1 ak)) fk)) (az (wC .none)) aN) (aq (hG 3 (je ↥2)) (aq (hG 4 i6) (aq (aZ (mq ↥0 ↥1) (d8 2 (bK (aJ 5) (bK (aJ 6) dt))) (aq (aM (dh (cT (aD i4 (ao ↥5 (ao ↥6 (ao (cU 3) (ao (cU 4) ak))))))) (az (wC .none)) aN) (aM (cT (w2 (w2 ↥5 ⇑0 aw) (wC (.str "bind")) bg)) (aq (kz 4 (w2 ↥5 ⇑1 aw) ↥6) (kz 3 (w2 ↥5 ⇑1 aw) ↥6)) aN))) (az (wB eY (ao (bb (CH (cU 3))) ak)))))))
abbrev QF:aE:=(aq (aM (cT (cW "str" ↥0)) (az ↥0) aN) (az (fM (cT (w2 ↥0 ⇑99 bg)) ⇑0 (w2 ↥0 ⇑1 (cj λi j=>.int (i+j))))))
abbrev HE:aE:=(aq (aM (cT (w2 (w2 ↥0 ⇑0 aw) (wC (.str "is")) bg)) (az (w2 ↥0 ⇑1 aw)) aN) (aq (ay 2 (w2 (cU 1) (w2 ↥0 ⇑1 aw) fe)) (az (fM (cT (w2 (w2 ↥0 ⇑0 aw) (wC (.str "next")) bg)) (aD uI (ao ↥2 ak)) ↥2))))
abbrev MR:aE:=(aq (hG 2 (je ↥1)) (az (wB eY (ao (bb (cg [af,ae 2] (dj ↥0) (aJ 0) bV (aD mH (ao ↥0 (ao (cU 1) ak))))) ak))))
abbrev KD:aE:=(az (fw (aD tV (ao ↥0 ak)) (pU mV mV ⇑0 ↥0 ↥1)))
abbrev Nn:aE:=(aq (ay 3 (w2 (w2 (w2 ↥1 ⇑0 aw) ↥2 aw) ⇑0 aw)) (aq (ay 4 (w2 (w2 (w2 ↥1 ⇑0 aw) ↥2 aw) ⇑1 aw)) (aq (ay 5 (w2 (w2 (w2 ↥0 ↥2 aw) ↥3 aw) ⇑1 aw)) (az (fM (cT (w2 ↥4 (wB bC (ao ↥5 ak)) fL)) (w2 ↥5 ↥4 aw) (wC .none))))))
abbrev Zf:List Str:=["take","read","look"]
abbrev FX:aE:=(aq (ay 3 (aD lK (ao ↥0 (ao ↥1 (ao ↥2 ak))))) (aq (aM (f9 (cT (w2 ↥3 (wC .none) (bF ai))) (cT (qe Zf (w2 ↥3 ⇑0 aw)))) (az (wC .none)) aN) (aq (ay 4 (w2 (w2 (w2 ↥1 ⇑0 aw) ↥2 aw) ⇑2 aw)) (aq (vq 5) (aq (aZ (yu (w2 ↥1 ⇑1 aw)) (d8 2 (bK (aJ 6) (bK (aJ 7) dt))) (aM (cT (qD 5 (w2 ↥7 ⇑0 aw))) (aq (aM (cT (w2 (aD oi (ao (w2 ↥3 ⇑1 aw) (ao (w2 ↥7 ⇑0 aw) (ao ↥4 ak)))) (wC .none) (bF ah))) (az ↥6) aN) (zr 5 (w2 ↥7 ⇑0 aw) (wC (.bool ah)))) aN)) (az (wC .none)))))))
abbrev RY:aE:=(aq (ay 3 (aD lK (ao ↥0 (ao ↥1 (ao ↥2 ak))))) (aq (aM (cT (w2 ↥3 (wC .none) (bF ai))) (az (wC (.bool ai))) aN) (az (uj (w2 (w2 ↥3 ⇑0 aw) (ax (ao (wC (.str "take")) (ao (wC (.str "read")) ak))) (fX ah)) (w2 (aD qN (ao ↥0 (ao ↥1 (ao ↥2 ak)))) (wC .none) (bF ah))))))
abbrev SW:aE:=(jz (cg [af,ae 0,ae 1] (eI (wB bC (ao ↥0 ak))) (aJ 0) (cT (aD oH (ao ↥1 (ao ↥2 (ao ↥0 ak))))) ↥0))
abbrev NN:aE:=(az (ax (ao (w2 ↥0 ⇑0 aw) (ao (w2 (w2 ↥0 ⇑1 aw) ⇑1 (cj λi j=>.int (i+j))) (ao ↥1 ak)))))
abbrev LK:aE:=(aq (ay 3 (w2 (w2 ↥0 ↥1 aw) ⇑0 aw)) (az (ax (ao ↥1 (ao ⇑0 (ao (wB eY (ao (bb (cg [af,ae 3] (dj ↥2) (aJ 0) (cT (w2 (w2 ↥0 ⇑0 aw) ↥1 (fX ai))) ↥0)) ak)) ak))))))
abbrev L4:aE:=(az (w2 (w2 (d3 ↥0 d7 (dJ ↥1)) (ax (ao ↥2 ak)) eV) (d3 ↥0 (dJ (w2 ↥1 ⇑1 (cj λi j=>.int (i+j)))) d7) eV))
abbrev w8:aE:=(aq (ay 4 (w2 (w2 ↥1 ⇑0 aw) ↥2 aw)) (aq (ay 5 (w2 ↥1 ⇑1 aw)) (aq (ay 6 (aD qN (ao ↥0 (ao ↥1 (ao ↥2 ak))))) (aq (aM (cT (w2 ↥6 (wC .none) (bF ai))) (aq (aM (cT (w2 (w2 ↥3 ⇑0 aw) (wC (.str "look")) fk)) (az (wC .none)) aN) (az (ax (ao (aD iU (ao (w2 ↥1 ⇑0 aw) (ao ↥2 (ao (aD ni (ao (w2 ↥0 ↥2 aw) (ao (w2 ↥3 ⇑2 aw) (ao (w2 ↥4 ⇑2 aw) ak)))) ak)))) (ao ↥5 ak))))) aN) (aq (ay 7 (aD oi (ao (w2 ↥3 ⇑1 aw) (ao (w2 (w2 ↥5 ↥6 aw) ⇑0 aw) (ao (w2 ↥4 ⇑2 aw) ak))))) (aq (aM (cT (w2 (w2 ↥3 ⇑0 aw) (wC (.str "take")) bg)) (ay 5 (w2 (d3 ↥5 d7 (dJ ↥6)) (d3 ↥5 (dJ (w2 ↥6 ⇑1 (cj λi j=>.int (i+j)))) d7) eV)) aN) (az (ax (ao (aD iU (ao (w2 ↥1 ⇑0 aw) (ao ↥2 (ao (aD lY (ao ↥4 (ao ↥7 ak))) ak)))) (ao ↥5 ak))))))))))
abbrev L5:aE:=(aq (hG 2 (je ↥1)) (az (w2 (aD mH (ao (w2 ↥0 ⇑1 aw) (ao (cU 2) ak))) (aD mH (ao (w2 ↥0 ⇑2 aw) (ao (cU 2) ak))) bg)))
abbrev MP:aE:=(aq (ay 3 (aD lK (ao ↥0 (ao ↥1 (ao ↥2 ak))))) (aq (aM (cT (w2 ↥3 (wC .none) (bF ai))) (az (wC .none)) aN) (aq (aM (cT (gy Zf (w2 ↥3 ⇑0 aw))) (az (aD l7 (ao ↥0 (ao ↥1 (ao ↥2 (ao ↥3 ak)))))) aN) (aq (ay 4 (w2 (w2 ↥1 ⇑0 aw) ↥2 aw)) (aq (ay 5 (w2 ↥1 ⇑1 aw)) (aq (ay 6 (w2 ↥4 ⇑2 aw)) (aq (aM (cT (w2 (w2 ↥3 ⇑0 aw) (wC (.str "lay")) bg)) (aq (ay 5 (w2 ↥5 (ax (ao (ax (ao (aD qv (ao (w2 ↥3 ⇑1 aw) (ao ↥6 ak))) (ao (w2 ↥3 ⇑2 aw) ak))) ak)) eV)) (ay 4 (aD lY (ao ↥4 (ao ↥6 ak))))) (aM (dU (cT (w2 (w2 ↥3 ⇑0 aw) (wC (.str "same")) bg)) (cT (aD vd (ao ↥3 (ao ↥6 ak))))) (ay 4 (aD lY (ao ↥4 (ao ↥6 ak)))) (ay 4 (aD ni (ao (w2 ↥0 ↥2 aw) (ao (w2 ↥3 (iX ⇑1) aw) (ao ↥6 ak))))))) (az (ax (ao (aD iU (ao (w2 ↥1 ⇑0 aw) (ao ↥2 (ao ↥4 ak)))) (ao ↥5 ak)))))))))))
abbrev GB:aE:=(az (fM (cT (w2 (w2 ↥0 ⇑1 aw) (wC .none) (bF ai))) ↥0 (ax (ao (w2 ↥0 ⇑0 aw) (ao (w2 (w2 ↥0 ⇑1 aw) ⇑1 (cj λi j=>.int (i-j))) ak)))))
abbrev Li:aE:=(az (ax (ao (w2 ↥0 ⇑0 aw) (ao (wB eY (ao (bb (cg [af] (dj (w2 ↥0 ⇑1 aw)) (aJ 0) (cT (w2 (w2 ↥0 ⇑1 aw) ⇑1 fk)) (aD tS (ao ↥0 ak)))) ak)) ak))))
abbrev J0:aE:=(aq (ay 3 (wB bC (ao ↥0 ak))) (aq (aM (dh (cT (aD rH (ao ↥2 (ao ↥3 ak))))) (az (wC .none)) aN) (az (fM (cT (w2 ↥2 ↥3 bg)) (aD vH (ao ↥1 ak)) (aD tI (ao ↥0 (ao ↥1 (ao ↥2 ak))))))))
abbrev KH:aE:=(aq (nL 2 ↥1 (wC .none)) (aq (bo 3 (aO (ao ↥1 ak))) (aq (nW (gw (cv 3)) (iR di 0 2 3)) (lE 2))))
abbrev Q3:aE:=(jz (uf (pN (lM di) (ao ↥0 (ao ↥1 ak)))))
abbrev Qj:aE:=(jz (cg [af,ae 0] (ez (bb (jF (nu di) (ao ↥0 (ao ↥1 ak))))) (aJ 0) (dh (gw (bb (jF g6 (ao ↥1 (ao ↥0 ak)))))) ↥0))
abbrev OJ:aE:=(az (w2 (bb (aO (ao (wC (.str "a")) (ao ⇑0 (ao (wC (.str "a")) (ao ⇑1 (ao (wC (.str "ab")) (ao (wC (.str "go")) (ao ⇑99 (ao ⇑0 ak)))))))))) (aD cx (ao ↥0 (ao ⇑8 ak))) aw))
abbrev M5:aE:=(az (w2 (bb (aO (ao ⇑1 (ao ⇑2 (ao ⇑2 (ao ⇑2 (ao ⇑1 (ao ⇑3 (ao ⇑4 ak))))))))) (aD cx (ao ↥0 (ao ⇑7 ak))) aw))
abbrev J2:aE:=(aq (bo 2 (aO ak)) (aq (bo 3 (aO ak)) (aq (aZ (eI (aD lq (ao ↥0 ak))) (aJ 4) (aq (ay 5 (aD cx (ao ↥0 (ao ⇑9 ak)))) (aq (ay 6 (w2 ↥1 (cv 3) fu)) (aM (cT (w2 ↥5 ⇑3 fL)) (aV 2 (ax (ao (wC (.str "is")) (ao (aD hZ (ao ↥0 ak)) ak)))) (aM (cT (w2 ↥5 ⇑6 fL)) (aV 2 (w2 (bb (aO (ao (ax (ao (wC (.str "any")) ak)) (ao (ax (ao (wC (.str "word")) ak)) (ao (ax (ao (wC (.str "number")) ak)) ak))))) (w2 ↥5 ⇑3 (cj λi j=>.int (i-j))) aQ)) (aM (f9 (cT (w2 ↥5 ⇑8 fL)) (cT (w2 ↥6 (bb (aO ak)) bG))) (aq (ay 7 (w2 (bb (aO (ao (wC (.str "n")) (ao (wC (.str "nm")) (ao (wC (.str "go")) (ao (wC (.str "m")) ak)))))) (aD cx (ao ↥0 (ao ⇑4 ak))) aQ)) (aq (aV 3 ↥7) (aV 2 (ax (ao (wC (.str "bind")) (ao ↥7 ak)))))) (aV 2 (ax (ao (wC (.str "as")) (ao (w2 ↥6 (aD cx (ao ↥0 (ao (wB dP (ao ↥6 ak)) ak))) aQ) ak)))))))))) (bU 2 (bU 3 (az (ax (ao (wB fJ (ao ↥2 ak)) (ao ↥3 ak)))))))))
abbrev HN:aE:=(aq (bo 2 (aO ak)) (aq (aZ (eI (aD lq (ao ↥0 ak))) (aJ 3) (aq (ay 4 (aD cx (ao ↥0 (ao ⇑6 ak)))) (aM (f9 (cT (w2 ↥4 ⇑3 fL)) (cT (w2 ↥1 (bb (aO ak)) bG))) (aV 2 (ax (ao (wC (.str "is")) (ao (aD hZ (ao ↥0 ak)) ak)))) (aV 2 (ax (ao (w2 (bb (aO (ao (wC (.str "as")) (ao (wC (.str "as")) (ao (wC (.str "next")) ak))))) (w2 ↥4 ⇑3 (cj λi j=>.int (i-j))) aQ) (ao (w2 ↥1 (aD cx (ao ↥0 (ao (wB dP (ao ↥1 ak)) ak))) aQ) ak))))))) (bU 2 (az (wB fJ (ao ↥2 ak))))))
abbrev M7:aE:=(aq (aM (f9 (cT (w2 ↥1 (bb (aO ak)) bG)) (cT (w2 (aD cx (ao ↥0 (ao ⇑2 ak))) ⇑0 bG))) (az (ax (ao (wC (.str "is")) (ao (aD hZ (ao ↥0 ak)) ak)))) aN) (az (ax (ao (wC (.str "as")) (ao (w2 ↥1 (aD cx (ao ↥0 (ao (wB dP (ao ↥1 ak)) ak))) aQ) ak)))))
abbrev AB:aE:=(aq (ay 3 (aD cx (ao ↥0 (ao ⇑12 ak)))) (aq (aM (cT (w2 ↥3 ⇑4 fL)) (az (ax (ao (ax (ao (wC (.str "lay")) (ao (aD rD (ao ↥0 (ao ↥1 ak))) (ao (w2 (dR 0) (aD cx (ao ↥0 (ao (wB dP (ao (dR 0) ak)) ak))) aQ) ak)))) (ao (bb (aO ak)) ak)))) aN) (aq (ay 4 (w2 ↥2 (aD cx (ao ↥0 (ao (wB dP (ao ↥2 ak)) ak))) aQ)) (aq (aM (cT (w2 ↥3 ⇑10 bG)) (az (ax (ao (ax (ao (wC (.str "same")) (ao (aD oK (ao ↥0 (ao ↥1 ak))) (ao (aD oK (ao ↥0 (ao ↥1 ak))) (ao ↥4 ak))))) (ao (bb (aO ak)) ak)))) aN) (aq (aM (cT (w2 ↥3 ⇑11 bG)) (az (ax (ao (ax (ao (wC (.str "go")) (ao ↥4 ak))) (ao (bb (aO ak)) ak)))) aN) (aq (dC (aD sW (ao ↥0 (ao ↥1 ak))) (d8 2 (bK (aJ 5) (bK (aJ 6) dt)))) (aq (aM (cT (w2 ↥3 ⇑7 wm)) (az (ax (ao (ax (ao (wC (.str "look")) (ao ↥5 (ao ↥4 ak)))) (ao ↥6 ak)))) aN) (az (ax (ao (ax (ao (w2 (bb (aO (ao (wC (.str "take")) (ao (wC (.str "take")) (ao (wC (.str "take")) (ao (wC (.str "read")) ak)))))) (w2 ↥3 ⇑4 (cj λi j=>.int (i-j))) aQ) (ao ↥5 ak))) (ao ↥6 ak)))))))))))
abbrev MI:aE:=(aq (bo 1 (aO (ao (ax ak) ak))) (aq (aZ (eI (w2 (bb (aO (ao ⇑0 (ao ⇑1 (ao ⇑0 (ao ⇑1 (ao ⇑2 ak))))))) (aD cx (ao ↥0 (ao ⇑5 ak))) aQ)) (aJ 2) (aV 1 (w2 (bb (aO (ao (ax ak) (ao (ax (ao (wC (.str "n")) ak)) (ao (ax (ao (wC (.str "go")) (ao (wC (.str "n")) ak))) (ao (ax (ao (wC (.str "nm")) ak)) (ao (ax ak) ak))))))) (aD cx (ao ↥0 (ao ⇑5 ak))) aQ))) (aq (bo 3 (aO ak)) (bU 1 (aq (aZ (ez ↥1) (aJ 4) (aq (bo 5 (lQ ↥4)) (aq (bo 6 (aO ak)) (aq (aZ (eI (w2 (bb (aO (ao ⇑2 (ao ⇑1 (ao ⇑3 (ao ⇑2 (ao ⇑0 (ao ⇑1 (ao ⇑2 (ao ⇑3 ak)))))))))) (aD cx (ao ↥0 (ao ⇑8 ak))) aQ)) (aJ 2) (aq (ay 8 (bb (cg [af,ae 5,ae 1] (eI (wB dP (ao ↥1 ak))) (aJ 0) (cT (w2 (bb (cg [af,ae 1] (dj (w2 ↥2 ↥0 aQ)) (aJ 0) (cT (w2 ↥0 ↥1 (dG ah))) ↥0)) (bb (aO ak)) bG)) ↥0))) (aq (dC (aD nV (ao ↥0 (ao (cv 5) (ao ↥8 ak)))) (d8 2 (bK (aJ 9) (bK (aJ 10) dt)))) (aq (aV 6 ↥9) (aZ (ez ↥10) (aJ 7) (aM (cT (w2 ↥7 (cv 5) (dG ah))) (aV 5 ↥7) aN)))))) (bU 6 (aV 3 (ax (ao ↥4 (ao (wB fJ (ao ↥6 ak)) ak))))))))) (bU 3 (az (wB fJ (ao ↥3 ak)))))))))
abbrev J1:aE:=(aq (bo 2 (aO ak)) (aq (aZ (eI (aD cx (ao ↥0 (ao (w2 ↥1 ⇑1 (cj λi j=>.int (i+j))) ak)))) (aJ 3) (aq (ay 4 (wB fJ (ao (bb (cg [af,ae 0] (eI (aD lq (ao ↥0 ak))) (aJ 0) bV (aD hZ (ao ↥1 ak)))) ak))) (aV 2 (ax (ao ↥4 (ao (w2 (dR 0) (aD cx (ao ↥0 (ao (wB dP (ao (dR 0) ak)) ak))) aQ) ak)))))) (bU 2 (az (wB fJ (ao ↥2 ak))))))
abbrev M0:aE:=(aq (bo 3 (lQ (w2 (w2 ↥0 ↥1 aw) ⇑0 aw))) (aq (aZ (dj (d3 (w2 (w2 ↥0 ↥1 aw) ⇑1 aw) d7 (dJ ↥2))) (aJ 4) (aM (cT (w2 (w2 ↥4 ⇑0 aw) (ax (ao (wC (.str "take")) (ao (wC (.str "read")) (ao (wC (.str "look")) ak)))) (fX ai))) (fD 3 (bb (cg [af] (dj (w2 ↥4 ⇑1 aw)) (aJ 0) (cT (w2 (w2 ↥0 ⇑0 aw) (wC (.str "bind")) bg)) (w2 ↥0 ⇑1 aw)))) aN)) (bU 3 (az (bb (BM ↥3))))))
abbrev JO:aE:=(aq (bo 3 (aO ak)) (aq (aZ (dj ↥1) (aJ 4) (aq (ay 5 (aD cx (ao ↥0 (ao (wB bC (ao ↥4 ak)) ak)))) (aq (ay 6 (aD cx (ao ↥0 (ao (w2 (wB bC (ao (w2 (w2 ↥4 ↥5 aw) ⇑1 aw) ak)) ⇑1 (cj λi j=>.int (i+j))) ak)))) (aq (ay 7 (wB eY (ao (bb (cg [af,ae 0] (ez (aD rM (ao ↥4 (ao ↥5 (ao ↥6 ak))))) (aJ 0) bV (ax (ao ↥0 (ao (aD hZ (ao ↥1 ak)) ak))))) ak))) (aV 3 (ax (ao ↥5 (ao ↥6 (ao ↥7 ak))))))))) (bU 3 (az (ax (ao (wB eY (ao ↥3 ak)) (ao (aD nr (ao ↥0 (ao ↥2 ak))) ak)))))))
abbrev zz:aE:=(aq (bo 1 (cg [af,ae 0] (eI (w2 (bb (aO (ao ⇑1 (ao ⇑2 (ao ⇑2 (ao ⇑1 (ao ⇑3 (ao ⇑2 (ao ⇑0 (ao ⇑2 ak)))))))))) (aD cx (ao ↥0 (ao ⇑8 ak))) aQ)) (aJ 0) bV (aD tH (ao ↥1 ak)))) (aq (aM (dU (cT (w2 (wB dP (ao (cv 1) ak)) ⇑2 bG)) (cT (w2 (aD cx (ao ↥0 (ao ⇑4 ak))) ⇑0 bG))) (jY 1 ⇑1 (w2 (cv 1) ⇑0 aQ)) aN) (aq (ay 1 (wB fJ (ao (cv 1) ak))) (aq (aM (cT (w2 (aD cx (ao ↥0 (ao ⇑2 ak))) ⇑0 bG)) (bU 1 (az (ax (ao ↥1 (ao (aD pH (ao ↥0 (ao ↥1 (ao ⇑3 ak)))) ak))))) aN) (bU 1 (az (ax (ao ↥1 (ao (ax (ao (wB fJ (ao (bb (cg [af] (dj ↥1) (aJ 0) bV (ax (ao ⇑0 (ao ⇑0 (ao (ax ak) ak)))))) ak)) (ao (aD nr (ao ↥0 (ao ⇑4 ak))) ak))) ak)))))))))
abbrev Mt:aE:=(aq (aM (cT (w2 (wB bC (ao ↥0 ak)) (wB bC (ao ↥1 ak)) fk)) (az (wC .none)) aN) (aq (hG 3 (je ↥2)) (aq (bo 4 (aO ak)) (aq (aZ (mq ↥0 ↥1) (d8 2 (bK (aJ 5) (bK (aJ 6) dt))) (aq (ay 7 (wC (.bool ah))) (aq (aM (cT (w2 (w2 ↥5 ⇑0 aw) (wC (.str "is")) bg)) (ay 7 (w2 (w2 ↥5 ⇑1 aw) ↥6 bg)) (aM (cT (w2 (w2 ↥5 ⇑0 aw) (ax (ao (wC (.str "word")) (ao (wC (.str "number")) ak))) (fX ai))) (ay 7 (w2 (cW "str" ↥6) (w2 (w2 ↥5 ⇑0 aw) (wC (.str "word")) bg) bg)) (aM (f9 (cT (w2 (w2 ↥5 ⇑0 aw) (wC (.str "as")) bg)) (dU (cT (w2 (w2 ↥5 ⇑0 aw) (wC (.str "bind")) bg)) (cT (lg 4 (w2 ↥5 ⇑1 aw))))) (ay 7 (fw (w2 (w2 ↥5 ⇑1 aw) (cU 3) (dQ ai)) (w2 (w2 (cU 3) (w2 ↥5 ⇑1 aw) fe) ↥6 bg))) (aM (cT (w2 (w2 ↥5 ⇑0 aw) (wC (.str "bind")) bg)) (aq (aV 4 (w2 ↥5 ⇑1 aw)) (kz 3 (w2 ↥5 ⇑1 aw) ↥6)) aN)))) (aM (dh (cT ↥7)) (az (wC .none)) aN)))) (az (wB eY (ao (bb (cg [af,ae 3] (ez (bb (BO (cU 3)))) (aJ 0) bV (ax (ao ↥0 (ao (w2 (cU 1) ↥0 fe) ak))))) ak)))))))
abbrev PY:aE:=(aq (bo 2 (aO ak)) (aq (aZ (dj ↥0) (aJ 3) (aq (ay 4 (w2 ↥3 ⇑1 aw)) (aq (aM (cT (w2 (w2 ↥3 ⇑0 aw) (wC (.str "is")) fk)) (ay 4 (w2 (ke ↥1) (w2 ↥3 ⇑1 aw) fe)) aN) (aq (aM (dU (cT (w2 (w2 ↥3 ⇑0 aw) (wC (.str "next")) bg)) (dh (cT (cW "str" ↥4)))) (ay 4 (w2 (w2 ↥4 ⇑1 (cj λi j=>.int (i+j))) ⇑100 (gI (λ_ j=>0 < j) λi j=>.int (i % j)))) aN) (aV 2 ↥4))))) (bU 2 (az (wB eY (ao ↥2 ak))))))
abbrev O8:aE:=(aq (dC (w2 ↥1 ↥2 aw) (d8 3 (bK (aJ 3) (bK (aJ 4) (bK (aJ 5) dt))))) (aq (ay 6 (w2 (w2 (w2 ↥0 ↥2 aw) ↥3 aw) ⇑1 aw)) (az (fM (cT (w2 ↥4 (wB bC (ao ↥6 ak)) fL)) (w2 ↥6 ↥4 aw) (wC .none)))))
abbrev KL:aE:=(aq (aZ (eI (wB bC (ao ↥1 ak))) (aJ 3) (aq (ay 4 (aD rr (ao (w2 ↥0 ⇑1 aw) (ao (w2 (w2 ↥1 ↥3 aw) ⇑0 aw) (ao ↥2 ak))))) (aM (cT (w2 ↥4 (wC .none) (bF ah))) (az (ax (ao ↥3 (ao ↥4 ak)))) aN))) (az (wC .none)))
abbrev LB:aE:=(aq (bo 2 (aO ak)) (aq (aZ (eI (wB bC (ao ↥0 ak))) (aJ 3) (aq (ay 4 (aD rQ (ao ↥0 (ao (w2 ↥1 ⇑0 aw) (ao ↥3 ak))))) (aM (cT (w2 ↥4 (wC .none) (bF ah))) (aq (ay 5 (w2 (w2 (w2 ↥1 ⇑0 aw) ↥3 aw) ⇑2 aw)) (aM (f9 (cT (w2 (w2 ↥4 ⇑0 aw) (ax (ao (wC (.str "take")) (ao (wC (.str "read")) ak))) (fX ah))) (cT (w2 (aD mB (ao ↥4 (ao (w2 ↥1 ⇑1 aw) (ao ↥5 ak)))) (wC .none) (bF ah)))) (aV 2 ↥3) aN)) aN))) (bU 2 (az (w2 ↥2 (bb (aO (ao (wB bC (ao ↥0 ak)) ak))) fu)))))
abbrev z7:aE:=(aq (dC ↥1 (d8 2 (bK (aJ 3) (bK (aJ 4) dt)))) (aq (aM (cT (w2 ↥2 (wB bC (ao ↥0 ak)) bg)) (az (ax (ao ↥3 (ao (wB eY (ao (bb (cg [af,af] (dj ↥4) (d8 2 (bK (aJ 0) (bK (aJ 1) dt))) (cT (w2 ↥1 ⇑1 fk)) (ax (ao ↥0 (ao (fM (cT (w2 ↥1 (wC .none) (bF ai))) ↥1 (w2 ↥1 ⇑1 (cj λi j=>.int (i-j)))) ak))))) ak)) ak)))) aN) (aq (dC (w2 ↥3 ↥2 aw) (d8 3 (bK (aJ 5) (bK (aJ 6) (bK (aJ 7) dt))))) (aq (ay 8 (w2 (w2 (w2 (w2 ↥0 ↥2 aw) ↥5 aw) ⇑1 aw) ↥6 aw)) (aq (ay 9 (wC .none)) (aq (aM (cT (w2 (w2 ↥8 ⇑0 aw) (wC (.str "lay")) bg)) (ay 4 (w2 ↥4 (ax (ao (ax (ao (aD tZ (ao (w2 ↥8 ⇑1 aw) (ao ↥7 ak))) (ao (w2 ↥8 ⇑2 aw) ak))) ak)) eV)) (aM (cT (w2 (w2 ↥8 ⇑0 aw) (wC (.str "go")) bg)) (ay 9 (w2 ↥8 ⇑1 aw)) (aM (cT (w2 (w2 ↥8 ⇑0 aw) (wC (.str "same")) bg)) (aq (dC (bb (cg [af,ae 7] (dj (d3 ↥8 (dJ ⇑1) (dJ ⇑3))) (aJ 0) bV (fM (cT (w2 (w2 ↥0 ⇑0 aw) (wC (.str "is")) bg)) (w2 ↥0 ⇑1 aw) (w2 (ke ↥1) (w2 ↥0 ⇑1 aw) fe)))) (qP 2 (bK (aJ 10) (bK (aJ 11) dt)))) (ay 9 (fM (cT (w2 ↥10 ↥11 bg)) (wC .none) (w2 ↥8 ⇑3 aw)))) (aq (ay 12 (aD mB (ao ↥8 (ao ↥4 (ao ↥7 ak))))) (aM (cT (w2 ↥12 (wC .none) (bF ai))) (ay 9 (w2 ↥8 ⇑2 aw)) (aq (ay 7 (w2 ↥12 ⇑1 aw)) (aM (cT (w2 (w2 ↥8 ⇑0 aw) (wC (.str "take")) bg)) (ay 4 (w2 (d3 ↥4 d7 (dJ (w2 ↥12 ⇑0 aw))) (d3 ↥4 (dJ (w2 (w2 ↥12 ⇑0 aw) ⇑1 (cj λi j=>.int (i+j)))) d7) eV)) aN))))))) (aq (ay 13 (ax (ao ↥5 (ao (w2 ↥6 ⇑1 (cj λi j=>.int (i+j))) (ao ↥7 ak))))) (aq (aM (cT (w2 ↥9 (wC .none) (bF ah))) (aq (ay 14 (w2 (w2 (w2 ↥0 ↥2 aw) ↥9 aw) ⇑0 aw)) (ay 13 (ax (ao ↥9 (ao ⇑0 (ao (wB eY (ao (bb (cg [af,ae 14] (dj ↥7) (aJ 0) (cT (w2 (w2 ↥0 ⇑0 aw) ↥1 (fX ai))) ↥0)) ak)) ak)))))) aN) (az (ax (ao (w2 (w2 (d3 ↥3 d7 (dJ ↥2)) (ax (ao ↥13 ak)) eV) (d3 ↥3 (dJ (w2 ↥2 ⇑1 (cj λi j=>.int (i+j)))) d7) eV) (ao ↥4 ak))))))))))))
abbrev RN:aE:=(aq (nL 3 ↥1 ⇑0) (aq (bo 4 (aO (ao ↥1 ak))) (aq (ay 5 ⇑0) (aq (nW (cT (w2 ↥5 (wB dP (ao (cv 4) ak)) fL)) (aq (aZ (ez (aD eJ (ao ↥0 (ao (w2 (cv 4) ↥5 aQ) ak)))) (aJ 6) (aq (ay 7 (aD gZ (ao ↥0 (ao (w2 (cv 4) ↥5 aQ) (ao ↥6 ak))))) (aM (cT (w2 ↥7 (eD 3) (iy ah))) (aq (aM (cT (w2 (wB dP (ao (cv 4) ak)) ↥2 bG)) (az (wC .none)) aN) (aq (mO 3 ↥7 (w2 (w2 (eD 3) (w2 (cv 4) ↥5 aQ) n8) ⇑1 (cj λi j=>.int (i+j)))) (aV 4 ↥7))) aN))) (ay 5 (w2 ↥5 ⇑1 (cj λi j=>.int (i+j)))))) (lE 3)))))
abbrev Im:aE:=(aq (hG 3 i6) (aq (aZ (oE (eD 1)) (aJ 4) (aM (cT (w2 (aD eJ (ao ↥0 (ao ↥4 ak))) (bb (aO (ao (wB bC (ao ↥0 ak)) ak))) (p6 λd e=>ae (Cf d e)))) (kz 3 (wB m9 (ao ↥4 ak)) (w2 (eD 1) ↥4 n8)) aN)) (aq (aM (f9 (dh (cT (cW "list" ↥2))) (m8 (bb (cg [af] (ez ↥2) (aJ 0) bV (wB m9 (ao ↥0 ak)))) (cU 3))) (az (wC (.bool ai))) aN) (aq (ay 5 (bb (cg [af,ae 3] (ez ↥2) (aJ 0) bV (w2 (cU 1) (wB m9 (ao ↥0 ak)) fe)))) (az (w2 ↥5 (bb (xw ↥5)) (p6 λd e=>ae (Cf d e))))))))
abbrev yg:aE:=(aq (dC (aD uk (ao ↥1 ak)) (d8 2 (bK (aJ 2) (bK (aJ 3) dt)))) (aq (rz 4 (nT eJ gZ) (ao ↥2 (ao ↥3 (ao ⇑70 ak)))) (sG 4 (aq (aM (cT (w2 (eD 4) (wC .none) (nU ai))) (az (wC (.bool ah))) aN) (aq (nQ 5 (lC di g6) (lV eJ) (ao ↥2 (ao ↥3 ak)) (ao ↥2 (ao (eD 4) (ao ↥5 ak)))) (az (aD (lV eJ) (ao ↥2 (ao (eD 4) (ao (bb (jF (lC di g6) (ao ↥2 (ao ↥3 ak)))) ak))))))))))
theorem Mm:b9 i4 JZ ["field","value","having","bound","head"]:=λws n Q h=>by
 obtain⟨f,v,l,m,rfl,g,c,p,o,k⟩:=h;cases f with
 |is w=>
  show(match eU w v with|some r=>Q _ n|none=>False);rw[lp (g) c];exact k
 |any=>exact k
 |word=>
  cases v<;>exact k
 |number=>
  show Q _ n;cases v<;>first|cases c|exact k
 |as x=>
  show gf _ (match bA _ (.inr x)with|some d=>(match eU d v with|some r=>Q _ n|none=>False)|none=>False) (Q _ n);rw[iw];unfold fU at k;cases e:look l x with
  |none=>
   simp only[e]at k;exact k
  |some w=>
   simp only[e]at k;show(match eU w v with|some r=>Q _ n|none=>False);rw[lp (p _ (j9 e)).2 c];exact k
 |bind x=>
  show gf _ (Q _ n) (match bA _ (.inr x)with|some d=>(match eU d v with|some r=>Q _ n|none=>False)|none=>False);rw[iw];unfold fU at k;cases e:look m x with
  |none=>
   simp only[e]at k;exact k
  |some w=>
   simp only[e]at k;show(match eU w v with|some r=>Q _ n|none=>False);rw[lp (o _ (j9 e)).2 c];exact k
theorem zD{p:Prop}[Decidable p]{A B:Prop}(h1:p->A)(h2:¬p->B):if decide p=ah then A else B:=by
 by_cases z:p
 ·rw[b_ (c_ z)];exact h1 z
 ·rw[a_ (by rw[d_ z];simp)];exact h2 z
theorem r8:∀ps:Nm,j0 (ps.map i7)=ae (bQ ps)
 |[]=>rfl
 |p::r=>by
  show(j0 _).map _=_;rw[r8 r];rfl
theorem Qd{l:Nm}{x:Str}{v:Ad}(h:x∉l.map (·.1)):put l x v=l++[(x,v)]:=by
 unfold put;rw[a_ λz=>by
  obtain⟨p,a,e⟩:=D5.mp z;exact h (A7.mpr ⟨p,a,e_ e⟩)]
theorem tY:∀(r l:Nm),((l++r).map (·.1)).Nodup->pX (bQ l) (bQ r)=bQ (l++r)
 |[],l,_=>by rw[Br];rfl
 |p::r,l,a=>by
  have e:l++p::r=(l++[p])++r:=by simp
  show pX (eu _ _ p.2) _=_;rw[q0,Qd,e]
  ·exact tY r _ (by rw[<-e];omega)
  ·intro z;rw[Bb,Gc]at a;exact a.2.2 _ z _ An rfl
theorem oA{δ:Sl}{n:Int}{K:DEnds}{i j:Nat}{ps:Nm}(e:δ[j]?=ae (↑(cI ps)))(ok:okN ps)(k:K.nx (δ.set i (ae (.odk (bQ ps)))) n):hG i (je (aj j)) δ n K:=by
 unfold hG je;refine av e ?_;unfold cI;simp only[r8];refine⟨by rw[Ab];have:=ok.1;omega,?_⟩;have:=tY ps [] (ok.2.1);rw[show([]:List _)=bQ []from rfl,this];exact k
section
variable{δ:Sl}{n:Int}{K:DEnds}{W V:aE}{Q:DQ}
theorem PH{i j n:Int}{Q:DQ}(k:Q (.d (.bool (!decide (i=j)))) n):fk (.d (.int i)) (.d (.int j)) n Q:=k
theorem EU{xs ys:List Ad}(e0:δ[0]?=ae (↑(.tuple xs)))(e1:δ[1]?=ae (↑(.tuple ys)))(hT:xs.length≠ys.length->W δ n K)(hF:xs.length=ys.length->V δ n K):
  aM (cT (w2 (wB bC (ao ↥0 ak)) (wB bC (ao ↥1 ak)) fk)) W V δ n K:=by
 refine av e0 (av e1 ?_);dsimp only[bC];refine PH (ml (λh=>hT λz=>?_) λh=>hF ?_)
 ·rw[z,c_ rfl]at h;cases h
 ·by_cases z:(xs.length:Int)=(ys.length:Int)
  ·exact Int.ofNat.inj z
  ·rw[d_ z]at h;cases h
theorem O5{g:Fd}{v:Ad}{hp bp:Nm}(e5:δ[5]?=ae (↑g.d))(e6:δ[6]?=ae (↑v))(e3:δ[3]?=ae (ae (.odk (bQ hp))))(e4:δ[4]?=ae (ae (.odk (bQ bp))))(gok:g.ok)(hv:bO v=ah)(hh:∀p∈hp,d6 p)(hb:∀p∈bp,d6 p)
  (hT:fU g v hp bp=ai->W δ n K) (hF:fU g v hp bp=ah->V δ n K):aM (dh (cT (aD i4 (ao ↥5 (ao ↥6 (ao (cU 3) (ao (cU 4) ak))))))) W V δ n K:=by
 unfold aM dh cT aD ao ak;refine av e5 (av e6 ?_);unfold cU;simp only[e3,e4];refine⟨g,v,hp,bp,rfl,gok,hv,hh,hb,ml (λh=>hT ?_) λh=>hF ?_⟩
 ·cases q:fU g v hp bp with|false=>rfl|true=>rw[q]at h;cases h
 ·cases q:fU g v hp bp with|true=>rfl|false=>rw[q]at h;cases h
variable{xs:List Ad}{j:Nat}{a b v:Ad}{r:List Ad}
end
def nS(gs:List Fd)(vs:List Ad)(hp:Nm)(hs:List Str)(r:Ad):Prop:=match wk (gs.zip vs) hp hs with
 |none=>r=.none
 |some h=>r=cI (bM h)
theorem LW{g:Fd}{v:Ad}{gs:List Fd}{vs:List Ad}{hp bp:Nm}{hs:List Str}(h1:∀x,x∈hs↔(look bp x).isSome=ah)(h2:∀x w,look bp x=ae w->look hp x=ae w)(h:fU g v hp bp=ai):nS (g::gs) (v::vs) hp hs .none:=by
 have c:wk ((g,v)::gs.zip vs) hp hs=af:=by
  cases g with
  |is w=>unfold wk;rw[a_ (by rw[show fc w v=ai from h];simp)]
  |any=>cases h
  |word=>unfold wk;rw[a_ (by rw[show iB v=ai from h];simp)]
  |number=>unfold wk;rw[a_ (by rw[show ji v=ai from h];simp)]
  |as x=>
   unfold wk;unfold fU at h;cases q:look hp x with
   |none=>rfl
   |some w=>
    simp only[q]at h;simp only[h,Hf,if_false]
  |bind x=>
   unfold wk;unfold fU at h;cases q:look bp x with
   |none=>simp only[q]at h;cases h
   |some w=>
    simp_all
 unfold nS;rw[Hb,c]
theorem QA{g:Fd}{v:Ad}{l:List (Fd×Ad)}{hp bp:Nm}{hs:List Str}(ng:∀x,g≠.bind x)(h:fU g v hp bp=ah):wk ((g,v)::l) hp hs=wk l hp hs:=by
 cases g with
 |is w=>rw[wk,b_ (by assumption)]
 |any=>rw[wk]
 |word=>rw[wk,b_ (by assumption)]
 |number=>rw[wk,b_ (by assumption)]
 |as x=>
  rw[wk];unfold fU at h;cases q:look hp x with
  |none=>simp only[q]at h;cases h
  |some w=>
   simp only[q]at h;simp only[h,if_true]
 |bind x=>exact g_ rfl (ng x)
theorem kB(x:Str):∀hs:List Str,cE (.str x) (hs.map .str)=decide (x∈hs)
 |[]=>by rfl
 |y::r=>by
  show(oN _ _ || cE _ _)=_;rw[kB x r];have e:oN (.str y) (.str x)=decide (x=y):=by
   by_cases z:x=y
   ·subst z;rfl
   ·rw[d_ z];exact beq_eq_false_iff_ne.mpr λw=>z w.symm
  rw[e];by_cases z:x=y
  ·subst z;simp
  ·rw[d_ z,Bool.false_or];by_cases q:x∈r
   ·rw[c_ q,c_ (Ak _ q)]
   ·rw[d_ q,d_ (by simp[z,q])]
theorem uP{hp:Nm}(nd:(hp.map (·.1)).Nodup){p:Str×Ad}(h:p∈hp):look hp p.1=ae p.2:=by
 cases q:look hp p.1 with
 |none=>
  have a:=qh hp p.1;rw[q]at a;have b:(hp.any λq=>decide (q.1=p.1))=ah:=D5.mpr ⟨p,h,c_ rfl⟩;rw[b]at a;cases a
 |some v=>
  obtain⟨i,c⟩:=Bz.mp h;obtain⟨j,d⟩:=Bz.mp (j9 q);have k:(hp.map (·.1))[i]?=ae p.1:=(Am)▸c▸rfl;have g:(hp.map (·.1))[j]?=ae p.1:=(Am)▸d▸rfl;obtain⟨m,e⟩:=Ap.mp k;obtain⟨l,f⟩:=Ap.mp g;have:=(Fo nd).mp (e.trans f.symm);rw[this,d]at c;have:=B2 c;rw[<-this]
theorem Hr{δ:Sl}{n:Int}{K:DEnds}{i:Nat}(k:K.nx (δ.set i (ae (.odk (bQ [])))) n):hG i i6 δ n K:=k
theorem BS{δ:Sl}{n:Int}{K:DEnds}{g:dw}{W:aE}{xs ys:List Ad}(e0:δ[0]?=ae (↑(.tuple xs)))(e1:δ[1]?=ae (↑(.tuple ys)))(hl:xs.length=ys.length)(k:ew g W K (dB xs ys) δ n):aZ (mq ↥0 ↥1) g W δ n K:=by
 unfold aZ mq;exact av e0 (av e1 ⟨hl,k⟩)
theorem JK:b9 oi PM ["pattern","row","names","having","bound","field","value"]:=λws n Q h=>by
 obtain⟨T,row,S,rfl,C,X,A,k0⟩:=h;have k:∀r,l9 T row S r->Q _ n:=λr s=>by rw[JI s];omega
 refine aB (EU rfl rfl (λne=>?_) λel=>?_)
 ·show Q _ n;refine k .none ?_;unfold l9;rw[Ab]at ne;rw[a_ ne]
 ·rw[Ab]at el;dsimp only[aN];refine aB (oA rfl A ?_);dsimp only[A3];refine aB (Hr ?_);dsimp only[A3];refine aB (BS rfl rfl (by rw[Ab];omega) ?_);refine eZ (λds δ m=>m=n/\∃(a:List Fd)(c:List Ad)(f j:Nm)(B:List Str)(y z:Option SV),ds=dB (a.map Fd.d) c/\a.length=c.length/\δ=[↑(fS T),↑(.tuple row),↑(cI S),ae (.odk (bQ f)),ae (.odk (bQ j)),y,z] /\
   (∀g∈a,g.ok)/\(∀d∈c,bO d=ah)/\(f.map (·.1)).Nodup/\(∀p∈f,d6 p)/\(∀p∈j,d6 p)/\f.length+a.length<=48/\j.length+a.length<=48/\(∀x,x∈B↔(look j x).isSome=ah)/\(∀x w,look j x=ae w->look f x=ae w)/\∀r,nS a c f B r->Q (.d r) n) ?_ ?_ _ _ _ ?_
  ·rintro δ m ⟨rfl,a,c,f,j,B,y,z,e,O,rfl,u,t,D,b,o,W,l2,G,E,K⟩
   have:a=[]:=by
    cases a with
    |nil=>rfl
    |cons g a=>cases c with|nil=>cases O|cons v c=>cases e
   subst this;rw[List.length_nil]at W;exact⟨f,rfl,by omega,D,λp H=>⟨A0 (b p H).1.1 ∎,Oh (b p H).2⟩,λps' p1 r1=>K _ (by rw[EF D p1 r1];rfl)⟩
  ·rintro d r δ m N ⟨rfl,a,c,f,j,B,y,z,e,O,rfl,u,t,D,b,o,W,l2,G,E,K⟩ Z
   cases a with
   |nil=>cases e
   |cons g a=>
    cases c with
    |nil=>cases O
    |cons v c=>
     have e1:=by have:=congrArg (λl=>l.head?) e;simpa[dB]using this
     have e2:r=dB (a.map Fd.d) c:=by have:=congrArg List.tail e;assumption
     subst e1 e2;rw[Ax]at W l2;rw[Ax,Ax]at O;have R:=u g An;have P:=t v An;refine⟨rfl,?_⟩;dsimp only[bK,dt];refine aB (O5 rfl rfl rfl rfl R P b o (λff=>?_) λff=>?_)
     ·exact K .none (LW G E ff)
     ·dsimp only[aN];have I:(∀x,g≠.bind x)->N [ae _,ae _,ae _,ae _,ae _,↑g.d,↑v] m:=λng=>by
       refine Z _ _ ⟨rfl,a,c,f,j,B,_,_,rfl,by omega,rfl,λg V=>u g (Ak _ V),λd U=>t d (Ak _ U),D,b,o,by omega,by omega,G,E,λr s=>K r ?_⟩;unfold nS at s ⊢;rw[Hb,QA ng ff];omega
      cases g with
      |is w=>exact I λx z=>nomatch z
      |any=>exact I λx z=>nomatch z
      |word=>exact I λx z=>nomatch z
      |number=>exact I λx z=>nomatch z
      |as x=>exact I λx z=>nomatch z
      |bind x=>
       refine jZ rfl BG ?_;show(bQ j).length < 1000/\(bQ f).length < 1000/\N [ae _,ae _,ae _,ae _,ae _,ae _,ae _] m;rw[q0,q0];refine⟨by unfold bQ;rw[Ab];omega,by unfold bQ;rw[Ab];omega,?_⟩;have p1:=qY f x v;have p2:=qY j x v;refine Z _ _ ⟨rfl,a,c,_,_,if x∈B then B else B++[x],_,_,rfl,by omega,rfl,λg V=>u g (Ak _ V),λd U=>t d (Ak _ U),rm D,me b R P,me o R P,by omega,by omega,λy=>?_,λy w Y=>?_,λr s=>K r ?_⟩
       ·by_cases q:y=x
        ·subst q;rw[DR];refine⟨λ_=>rfl,λ_=>?_⟩
         split
         ·assumption
         ·exact B1 _ (Bm.mpr rfl)
        ·rw[xt q,<-G]
         split
         ·exact Iff.rfl
         ·simp[q]
       ·by_cases q:y=x
        ·subst q;rw[DR]at Y ⊢;omega
        ·rw[xt q]at Y ⊢;exact E y w Y
       ·unfold nS at s ⊢;rw[Hb,wk];by_cases q:x∈B
        ·rw[b_ q]at s ⊢;cases M:look j x with
         |none=>rw[G,M]at q;cases q
         |some w=>
          have lh:=E x w M;unfold fU at ff;simp only[M]at ff;have wv:=Ij (o _ (j9 M)).2 P ff;subst wv;rw[MT D lh]at s;simp only[lh,ff,if_true];omega
        ·rw[a_ q]at s ⊢;omega
  ·refine⟨rfl,T,row,S,[],[],_,_,rfl,el,rfl,C.2.2,X.2,A.2.1,A.2.2,λ_ z=>g_ z A8,by have:=C.2.1;have:=A.1;omega,by have:=C.2.1;simp;omega,λx=>⟨λz=>g_ z A8,λz=>by cases z⟩,λx w z=>(nomatch z),λr s=>k r ?_⟩;unfold l9;rw[b_ el];trivial
abbrev Zg:List Str:=["_law_tape_here"]
theorem GF:b9 hZ OJ Zg:=λws n Q h=>by
 obtain⟨rfl,f,k⟩:=h;refine bN (au (a7 (Al ∎ (hV rfl ⋯ ∎ ∎ λr c e=>uR c e λd b=>k d ?_))));simp only[Ar,A8,h_]at b;rcases b with rfl|rfl|rfl|rfl|rfl|rfl|rfl|rfl<;>simp[ql]
theorem Ol:b9 lq M5 Zg:=λws n Q h=>by
 obtain⟨rfl,e,k⟩:=h;refine bN (au (a7 (Al ∎ ?_)));dsimp only;refine hV rfl ⋯ ∎ ∎ λr b c=>uR b c λd a=>?_;simp only[Ar,A8,h_]at a;rcases a with rfl|rfl|rfl|rfl|rfl|rfl|rfl
 ·exact k 1 ∎ ∎
 ·exact k 2 ∎ ∎
 ·exact k 2 ∎ ∎
 ·exact k 2 ∎ ∎
 ·exact k 1 ∎ ∎
 ·exact k 3 ∎ ∎
 ·exact k 4 ∎ ∎
theorem BF{δ:Sl}{n:Int}{K:DEnds}{W:aE}{g:dw}(e:δ[0]?=ae (ae (.w .tp)))(hn:n < 2 ^ 39)(k:∀m:Nat,1<=m->m<=4->ew g W K (bL 0 m) δ (n+1)):aZ (eI (aD lq (ao ↥0 ak))) g W δ n K:=by
 refine de (av e (Al rfl ⟨hn,λm b a=>Al ⟨by omega,by omega⟩ ?_⟩));exact k m b a
theorem vB{c:b5}{w:DT}{Q:List Ad->Int->Prop}{aA:Sl}(g:Fe->Option Ad)(hno:∀(f:Fe) (n:Int) (Q':Bool->Int->Prop),g f=af->Q' ai n->c (↑f.d::aA) n Q')
  (hyes:∀(f:Fe)(n:Int)(Q':Bool->Int->Prop)(y:Ad),g f=ae y->Q' ah n->c (↑f.d::aA) n Q') (hw:∀(f:Fe)(n:Int)(Q':DQ)(y:Ad),g f=ae y->Q' (.d y) n->w (↑f.d::aA) n Q'):
  ∀(fs:List Fe)(j_:List Ad)(x:Option SV)(n:Int),Q (j_++fs.filterMap g) n->c0 (aJ 0) c w Q (fs.map Fe.d) j_ (x::aA) n
 |[],j_,x,n,q=>by
  rw[List.filterMap_nil,Br]at q;exact q
 |f::r,j_,x,n,q=>by
  rw[Bk];cases e:g f with
  |none=>
   refine hno f n _ e (vB g hno hyes hw r j_ _ n ?_);simp_all
  |some y=>
   refine hyes f n _ y e (hw f n _ y e ?_);refine vB g hno hyes hw r _ _ n ?_;rw[List.filterMap_cons_some e]at q;simp<;>omega
def iY(o:Option Str):Option Ad:=o.map .str
theorem Le(g:Fe->Option Str)(fs:List Fe):fs.filterMap (λf=>iY (g f))=(fs.filterMap g).map .str:=List.map_filterMap▸rfl
theorem Kg(f:Fe):cP "bind" (.str f.hd)=f.bd.isSome:=by
 cases f with
 |any=>exact(by rfl)
 |word=>exact(by rfl)
 |num=>exact(by rfl)
 |isv _=>exact(by rfl)
 |bind _=>exact(by rfl)
 |as _=>exact(by rfl)
 |nx _=>exact(by rfl)
theorem J7{f:Fe}{k:Str}(h:f.bd=ae k):f.d=.tuple [.str f.hd,.str k]:=by
 cases f<;>cases h;rfl
theorem yK{o:Option Str}{y:Ad}(h:iY o=ae y):∃k,o=ae k/\y=.str k:=by
 cases o with
 |none=>cases h
 |some k=>cases h;exact⟨k,rfl,rfl⟩
theorem P0{o:Option Str}(h:iY o=af):o=af:=by
 cases o with
 |none=>rfl
 |some k=>cases h
theorem pY{fs:List Fe}(h:dH fs):∀k∈bf fs,fq k:=λk b=>by
 obtain⟨f,a,e⟩:=Hd.mp b;have:=h.2 f a;cases f<;>cases e;trivial
theorem pA{fs:List Fe}(h:dH fs):(bf fs).length<=4:=A0 (List.length_filterMap_le _ _) h.1
theorem IE{δ:Sl}{n:Int}{Q:DQ}{a b:Ad}(e:δ[0]?=ae (↑(.tuple [a,b])))(k:Q (.d b) n):w2 ↥0 (wC (.int 1)) aw δ n Q:=cR e k
theorem AJ{f:Fe}{aA:Sl}{n:Int}{Q':Bool->Int->Prop}(k:Q' f.bd.isSome n):cT (w2 (w2 ↥0 (wC (.int 0)) aw) (wC (.str "bind")) bg) (↑f.d::aA) n Q':=by
 refine eR rfl ?_;rw[Kg];exact k
theorem L0{Q:List Ad->Int->Prop}(fs:List Fe)(n:Int)(k:Q ((bf fs).map .str) n):
  c0 (aJ 0) (cT (w2 (w2 ↥0 (wC (.int 0)) aw) (wC (.str "bind")) bg)) (w2 ↥0 (wC (.int 1)) aw) Q (fs.map Fe.d) [] [af] n:=by
 refine vB (λf=>iY f.bd) (λf n a e q=>AJ ?_) (λf n a y e q=>AJ ?_) (λf n a y e q=>?_) fs [] af n ?_
 ·rw[P0 e];exact q
 ·obtain⟨x,_⟩:=yK e;simp_all
 ·obtain⟨x,b,rfl⟩:=yK e;exact IE (by rw[J7 b];rfl) q
 ·rw[Le];exact k
theorem wX{δ:Sl}{n:Int}{hs:List Str}{w:DT}{s:Str}{b:Bool}{Q:Bool->Int->Prop}(hw:∀Q:DQ,Q (.d (.str s)) n->w δ n Q)(e:cE (.str s) (hs.map .str)=b)(q:Q b n):cT (gy hs w) δ n Q:=hw _ (Al rfl (by simp_all))
theorem rR{a:Ac}(h:dH a.fs):(∀k∈a.bs,fq k)/\a.bs.length<=4:=by
 cases a with
 |take fs=>exact⟨pY h,pA h⟩
 |read fs=>exact⟨pY h,pA h⟩
 |look fs b=>exact⟨pY h,pA h⟩
 |lay fs b=>exact⟨λk c=>by simp[Ac.bs]at c,by simp[Ac.bs]⟩
 |same f g b=>exact⟨λk c=>by simp[Ac.bs]at c,by simp[Ac.bs]⟩
 |go b=>exact⟨λk c=>by simp[Ac.bs]at c,by simp[Ac.bs]⟩
theorem uz:∀{ys ks:List Str},ys.Nodup->(∀k∈ys,k∈ks)->ys.length<=ks.length
 |[],_,_,_=>Be _
 |y::ys,ks,h,b=>by
  obtain⟨f,d⟩:=Dw.mp h;have a:=b y An;have:=uz d λk c=>(List.mem_erase_of_ne (λ(e:k=y)=>f (e▸c))).mpr (b k (Ak _ c));grind
structure KnI(w:List Str)(dn:List Ac)(L:List Str):Prop where
 mem:∀k,k∈L↔k∈w++dn.flatMap Ac.bs
 len:L.length<=4+4*dn.length
 ok:∀k∈L,fq k
theorem KnI.first{w:List Str}(h:w.length<=4)(ok:∀k∈w,fq k):KnI w [] w:=⟨λk=>by simp,by simpa using h,ok⟩
theorem KnI.skip{w L:List Str}{dn:List Ac}{a:Ac}(I:KnI w dn L)(e:a.bs=[]):KnI w (dn++[a]) L:=
 ⟨λk=>by rw[I.mem k];simp[e],by rw[As,Ba];have:=I.len;omega,I.ok⟩
theorem KnI.more{w L ys:List Str}{dn:List Ac}{a:Ac}(I:KnI w dn L)(h:∀k,k∈ys↔k∈a.bs)(hl:ys.length<=4)(ok:dH a.fs):KnI w (dn++[a]) (L++ys):=
 ⟨λk=>by rw[A4,I.mem k,h k,List.flatMap_append];simp[or_assoc],by rw[As,As,Ba];have:=I.len;omega,λk b=>by
  rcases A4.mp b with z|z
  ·exact I.ok k z
  ·exact(rR ok).1 k ((h k).mp z)⟩
theorem l8{v:Ad}(h:v∈ql):bO v=ah:=by
 simp only[ql,Ar,A8,h_]at h;rcases h with rfl|rfl|rfl|rfl|rfl|rfl<;>decide +kernel
theorem Mi{v:Wv}{a b:List Ad}{n:Int}{Q:DQ}(hv:f5 v=ae a)(hl:a.length+b.length<=Av)(q:Q (.d (.list (a++b))) n):fu v (.ln b) n Q:=by
 unfold fu;rw[hv];trivial
theorem zk{δ:Sl}{n:Int}{Q:DQ}(e0:δ[0]?=ae (ae (.w .tp)))(h:n < 2 ^ 39)(k:∀v∈kI,Q (.d v) (n+1)):w2 (dR 0) (aD cx (ao ↥0 (ao (wB dP (ao (dR 0) ak)) ak))) aQ δ n Q:=by
 have a:∀n Q,Q (.ln kI) n->dR 0 δ n Q:=λn Q q=>by unfold dR;simp_all
 exact au (a _ _ (iu e0 (λQ q=>aX (a _ _ q)) ⋯ ∎ ∎ λr b c=>ug b c k))
theorem Mu(f:Fe)(r:List Fe):bf (f::r)=f.bd.toList++bf r:=by cases f<;>rfl
theorem Mn(fs:List Fe)(f:Fe):bf (fs++[f])=bf fs++f.bd.toList:=by
 unfold bf;rw[List.filterMap_append];rfl
theorem tF:∀{fs:List Fe}{ks:List Str}{f:Fe},rF ks fs->(∀k,f.us=ae k->k∈ks++bf fs)->rF ks (fs++[f])
 |[],ks,f,_,h=>⟨(by simpa[bf]using h),trivial⟩
 |g::r,ks,f,b,c=>⟨b.1,tF b.2 λk a=>by
  have:=c k a;rw[Mu,<-A6]at this;omega⟩
theorem vA{f:Ad}{ks:List Str}(h:f∈ks.map .str):∃s∈ks,f=.str s:=by
 obtain⟨s,a,rfl⟩:=A7.mp h;exact⟨s,a,rfl⟩
def u9(kv:Wv)(ks:List Str)(n0:Int)(ds:List Ad)(δ:Sl)(n:Int):Prop:=∃(fs:List Fe)(x y z u:Option SV),δ=[ae (.w .tp),ae (.w kv),ae (.own (fs.map Fe.d)),ae (.own ((bf fs).map .str)),x,y,z,u]/\1<=fs.length+ds.length/\fs.length+ds.length<=4/\(∀f∈fs,f.ok/\f.pt=ah)/\rF ks fs/\n+2*(ds.length:Int)<=n0+9
theorem JJ:b9 sW J2 ["_law_tape_here","_law_known_here","_law_fields","_law_bound","_law_k","_law_way","_law_some","_law_name"]:=λws n0 Q h=>by
 obtain⟨H,kv,rfl,hkv,hks,hok,hn0,k⟩:=h;refine aB (ij (aB (ij ?_)));dsimp only[A3];refine aB (BF rfl ⋯ λm h1 h4=>eZ (u9 kv H n0) (λδ n I=>?_) (λd r δ n N I kN=>?_) _ _ _ ⟨[],_,_,_,_,rfl,by rw[eM];simpa using h1,by rw[eM];simpa using h4,λf P=>(by trivial),trivial,by rw[eM];omega⟩)
 ·obtain⟨p,x,y,z,u,rfl,J,P,D,W,hn⟩:=I;dsimp only;refine g9 rfl (g9 rfl ?_);exact bN (cC (aX (av rfl (jR (av rfl (Al (show 2<=1000 by decide) (k p n ⋯ ⟨by simpa using P,λf z=>(D f z).1⟩ (λf z=>(D f z).2) W (by simp_all))))))))
 ·obtain⟨p,x,y,z,u,rfl,J,P,D,W,hn⟩:=I;rw[Ax]at J P hn;have A:(p.map Fe.d).length < 1000000:=by rw[Ab];omega
  have hbl:(bf p).length<=4:=A0 (List.length_filterMap_le _ _) ⋯;have hbo:=λs hs=>(A4.mp hs).elim (hok s) λz=>pY ⟨by omega,λf z=>(D f z).1⟩ s z;have R:∀(f:Fe) G y z u (B:List Ad),f.ok/\f.pt=ah->(∀k,f.us=ae k->k∈H++bf p)->G<=n+2->B=(bf p).map .str++f.bd.toList.map .str->N [ae _,ae _,ae (.own (p.map Fe.d++[f.d])),ae _,ae _,y,z,u] G:=λf G y z u B Y Z S hB=>
   kN _ _ ⟨_,↑d,y,z,u,by rw[hB,Bb,Mn,Bb];rfl,by rw[As,Ba];omega,by rw[As,Ba];omega,λg hg=>(A4.mp hg).elim (D g) λz=>by rw[Bm]at z;subst z;exact Y,tF W Z,by omega⟩
  have j:∀(f:Fe) G y z u,f.bd=af->f.ok/\f.pt=ah->(∀k,f.us=ae k->k∈H++bf p)->G<=n+2->N [ae _,ae _,ae _,ae (.own ((bf p).map .str)),ae _,y,z,u] G:=λf G y z u fb Y Z S=>
   R f G y z u _ Y Z S (by rw[fb];simp)
  refine aB (rB rfl ⋯ ∎ ∎ λw w0 w1=>?_);dsimp only[A3];refine aB (bz (λQ q=>au (av rfl (lj rfl (Mi hkv (zQ (by rw[Ab];omega) (by rw[Ab];omega)) q)))) ?_);dsimp only[A3];refine j3 rfl (λhw=>?_) (λhw=>?_)
  ·exact iZ rfl (cC (aG (de (av rfl (Al rfl ⟨by omega,λv hv=>Al (show 2<=1000 by decide) (Al A (j (.isv v) _ _ _ _ rfl ⟨l8 hv,rfl⟩ (λk C=>by cases C) ⋯))⟩)))))
  ·refine j3 rfl (λhw6=>?_) (λhw6=>?_)
   ·refine iZ rfl (au (a7 (Al ∎ (Al ∎ (Al ∎ (Al ∎ (au (av rfl (aG ?_)))))))));dsimp only[cj];refine iM ⋯ (show w-3 < 3 by omega) λf o=>?_;simp only[Ar,A8,h_]at o;rcases o with rfl|rfl|rfl
    ·exact Al A (j .any _ _ _ _ rfl ⟨trivial,rfl⟩ (λk C=>by cases C) ⋯)
    ·exact Al A (j .word _ _ _ _ rfl ⟨trivial,rfl⟩ (λk C=>by cases C) ⋯)
    ·exact Al A (j .num _ _ _ _ rfl ⟨trivial,rfl⟩ (λk C=>by cases C) ⋯)
   ·have F:∀K L,(∀δ n,N δ n->K.nx δ n)->aq (ay 7 (w2 (bb (aO (ao (wC (.str "n")) (ao (wC (.str "nm")) (ao (wC (.str "go")) (ao (wC (.str "m")) ak)))))) _ aQ)) (aq (aV 3 ↥7) (aV 2 (ax (ao (wC (.str "bind")) (ao ↥7 ak)))))
      [ae _,ae _,ae _,ae (.own ((bf p).map .str)),ae _,↑(.int w),↑(.list L),u] (n+1) K:=λK L hK=>by
     refine aB (au (a7 (Al ∎ (hV rfl ⋯ ∎ ∎ λr V r1=>iM V r1 λf o=>?_))));have:∃s:Str,f=.str s/\fq s:=by
      simp only[Ar,A8,h_]at o;rcases o with rfl|rfl|rfl|rfl<;>exact⟨_,rfl,by decide +kernel,by decide +kernel⟩
     obtain⟨s,rfl,so⟩:=this;dsimp only[A3];refine aB (jW rfl (λQ q=>av rfl q) (by rw[Ab];omega) ?_);dsimp only[A3];exact jW rfl (λQ q=>cC (aG (av rfl (Al (show 2<=1000 by decide) q)))) A (hK _ _ (R (.bind s) _ _ _ _ _ ⟨so,rfl⟩ (λk C=>by cases C) ⋯ rfl))
    by_cases M:w < 8
    ·refine bP (λQ q=>nc (λQ q=>aF (λQ q=>au (av rfl (aG ?_))) q) q) (F _ _ λ_ _ z=>z);show Q _ _;simp_all
    ·have E:∀f∈H.map Eh++(bf p).map Eh,∃s∈H++bf p,f=.str s:=λf P=>vA (by rw[Bb];omega);have O:(H.map Eh++(bf p).map Eh).length<=2000:=by rw[As,Ab,Ab];omega
     generalize(H.map Eh++(bf p).map Eh)=L at E O;cases L with
     |nil=>
      refine bP (λQ q=>gv (λQ q=>aF (λQ q=>au (av rfl (aG ?_))) q) (aF (λQ q=>au (av rfl (a7 (Al (Be _) q)))) q)) (F _ _ λ_ _ z=>z);show Q (.d (.bool (decide _))) _;rw[d_ M];exact q
     |cons a l=>
      refine bq (λQ q=>gv (λQ q=>aF (λQ q=>au (av rfl (aG ?_))) q) (aF (λQ q=>au (av rfl (a7 (Al (Be _) q)))) q)) ?_
      ·show Q (.d (.bool (decide _))) _;rw[d_ M];exact q
      ·refine iZ rfl (cC (aG (au (av rfl (iu rfl (λQ q=>aX (av rfl q)) ⋯ (by simp) ⋯ λr V r1=>iM V r1 λf o=>?_)))));obtain⟨s,hs,rfl⟩:=E f o;exact Al (show 2<=1000 by decide) (Al A (j (.as s) _ _ _ _ rfl ⟨hbo s hs,rfl⟩ (λk C=>by cases C;omega) ⋯))
theorem z9{v:Ad}(h:v∈kI):gC v:=by
 simp only[kI,Ar,A8,h_]at h;rcases h with rfl|rfl|rfl|rfl|rfl<;>first|exact .inl rfl|exact .inr ⟨_,rfl,by simp⟩
def vf(ks:List Str)(n0:Int)(ds:List Ad)(δ:Sl)(n:Int):Prop:=∃(fs:List Fe)(x y:Option SV),δ=[ae (.w .tp),ae (.w (.ln (ks.map .str))),ae (.own (fs.map Fe.d)),x,y]/\fs.length+ds.length<=4/\1<=fs.length+ds.length/\(∀f∈fs,f.ok/\f.tm=ah)/\rF ks fs/\n+2*(ds.length:Int)<=n0+9
theorem HA:b9 rD HN ["_law_tape_here","_law_known_here","_law_fields","_law_k","_law_way"]:=λws n0 Q h=>by
 obtain⟨E,rfl,S,j,R,k⟩:=h;refine aB (ij ?_);dsimp only[A3];refine aB (BF rfl ⋯ λm Y U=>eZ (vf E n0) (λδ n I=>?_) (λd r δ n N I Z=>?_) _ _ _ ⟨[],_,_,rfl,by rw[eM];simpa using U,by rw[eM];simpa using Y,λf D=>(by trivial),trivial,by rw[eM];omega⟩)
 ·obtain⟨u,x,y,rfl,D,A,e,J,P⟩:=I;dsimp only;exact g9 rfl (bN (aX (av rfl (jR (k u n ⋯ ⟨by simpa using D,λf z=>(e f z).1⟩ (λf z=>(e f z).2) J (by simp_all))))))
 ·obtain⟨u,x,y,rfl,D,A,e,J,P⟩:=I;rw[Ax]at D A P;have b:(u.map Fe.d).length < 1000000:=by rw[Ab];omega
  have c:∀(f:Fe) H y,f.ok/\f.tm=ah->(∀k,f.us=ae k->k∈E)->H<=n+2->N [ae _,ae _,ae (.own (u.map Fe.d++[f.d])),ae _,y] H:=λf H y W V hn'=>
   Z _ _ ⟨_,↑d,y,by rw[Bb];rfl,by rw[As,Ba];omega,by rw[As,Ba];omega,λg T=>(A4.mp T).elim (e g) λz=>by rw[Bm]at z;subst z;exact W,tF J λk i=>C4 _ (V k i),by omega⟩
  refine aB (rB rfl ⋯ ∎ ∎ λw w0 w1=>?_);dsimp only[A3];have B:∀K:DEnds,(∀δ n,N δ n->K.nx δ n)->aV 2 (ax (ao (wC (.str "is")) (ao (aD hZ (ao ↥0 ak)) ak))) [ae _,ae _,ae _,ae _,↑(.int w)] (n+1) K:=λK hK=>
   iZ rfl (cC (aG (de (av rfl (Al rfl ⟨by omega,λv hv=>Al (show 2<=1000 by decide) (Al b (hK _ _ (c (.isv v) _ _ ⟨l8 hv,rfl⟩ (λk i=>by trivial) ⋯)))⟩)))))
  by_cases O:w < 3
  ·refine bP (λQ q=>nc (λQ q=>aF (λQ q=>au (av rfl (aG ?_))) q) q) (B _ λ_ _ z=>z);show Q _ _;simp_all
  ·have o:∀Q:DQ,Q _ _->w2 ↥4 (wC (.int 3)) fL [ae (.w .tp),ae (.w (.ln (E.map .str))),ae (.own (u.map Fe.d)),↑d,↑(.int w)] (n+1) Q:=λQ q=>au (av rfl (aG (by
    show Q (.d (.bool (decide _))) _;rw[d_ O];exact q)))
   cases E with
   |nil=>exact bP (λQ q=>gv (λQ q=>aF o q) (aF (λQ q=>au (av rfl (js (iC q)))) q)) (B _ λ_ _ z=>z)
   |cons a l=>
    refine bq (λQ q=>gv (λQ q=>aF o q) (aF (λQ q=>au (av rfl (js (iC q)))) q)) (iZ rfl (cC (au (a7 (Al ∎ ?_)))));refine au (av rfl (aG ?_));dsimp only[cj];refine iM ⋯ (show w-3 < 3 by omega) λf t=>au (av rfl ?_);have hl:((a::l).map Eh).length<=1000:=by rw[Ab];omega
    refine iu rfl (λQ q=>aX (av rfl q)) ⋯ (by simp) ⋯ λr X r1=>ug X r1 λf' p=>?_;obtain⟨s,L,rfl⟩:=vA p;simp only[Ar,A8,h_]at t;rcases t with rfl|rfl|rfl
    ·exact Al (show 2<=1000 by decide) (Al b (c (.as s) _ _ ⟨j s L,rfl⟩ (λk i=>by cases i;omega) ⋯))
    ·exact Al (show 2<=1000 by decide) (Al b (c (.as s) _ _ ⟨j s L,rfl⟩ (λk i=>by cases i;omega) ⋯))
    ·exact Al (show 2<=1000 by decide) (Al b (c (.nx s) _ _ ⟨j s L,rfl⟩ (λk i=>by cases i;omega) ⋯))
abbrev Zd:List Str:=["_law_tape_here","_law_known_here"]
theorem Q8:b9 oK M7 Zd:=λws n Q h=>by
 obtain⟨p,rfl,f,g,t,k⟩:=h;have c:∀j,j<=n+1->az (ax (ao (wC (.str "is")) (ao (aD hZ (ao ↥0 ak)) ak))) [ae _,ae (.w (.ln (p.map .str)))] j {nx:=λ_=>Q (.d .none),rt:=Q}:=λn' x=>
  bN (cC (aG (de (av rfl (Al rfl ⟨by omega,λv u=>Al (by simp) (k (.isv v) _ (l8 u) rfl (λk i=>by trivial) ⋯)⟩)))))
 cases p with
 |nil=>exact aB (bP (λQ q=>nc (λQ q=>aF (λQ q=>au (av rfl (js (iC q)))) q) q) (c n ⋯))
 |cons a l=>
  refine aB (cG (gv (λQ q=>aF (λQ q=>au (av rfl (js (iC q)))) q) (au (hV rfl ⋯ ∎ ∎ λr m o=>aG (iN ?_)))));show if decide _=ah then _ else _
  by_cases h:r=0
  ·rw[b_ (c_ h)];exact c _ ⋯
  ·rw[a_ (by simpa using h)];dsimp only[aN];refine bN (cC (aG (au (av rfl ?_))));have z:((a::l).map Eh).length<=1000:=by rw[Ab];exact f
   refine iu rfl (λQ q=>aX (av rfl q)) ⋯ (by simp) ⋯ λr m o=>ug m o λf' b=>?_;obtain⟨s,y,rfl⟩:=vA b;exact Al (by simp) (k (.as s) _ (g s y) rfl (λk i=>by cases i;omega) ⋯)
theorem Qt:b9 nV AB ["_law_tape_here","_law_known_here","_law_open_ones","_law_way","_law_block","_law_pattern_here","_law_bound"]:=λws n Q h=>by
 obtain⟨B,os,D,rfl,p,t,ho,V,F,K,k⟩:=h;show AB [ae _,ae _,ae _,af,af,af,af] n _;refine aB (rB rfl ⋯ ∎ ∎ λw w0 Z=>?_);dsimp only[A3];refine aB (j3 rfl (λhw=>?_) (λhw=>?_))
 ·refine bN (cC (jg (aG (b7 (av rfl (av rfl (Dl B ⟨rfl,p,t,by omega,λfs I l j G i y=>zk rfl ⋯ λv T=>?_⟩)))))));exact Al (show 3<=1000 by decide) (js (Al (show 2<=1000 by decide) (k (.lay fs v) _ ⟨j,G,z9 T,l⟩ ⟨i,λb J=>by trivial⟩ ⋯)))
 dsimp only[aN];refine aB (au (av rfl (iu rfl (λQ q=>aX (av rfl q)) ⋯ (by rw[Ab];omega) (by rw[Ab];omega) λr S U=>iM S U λb J=>?_)));obtain⟨b,E,rfl⟩:=A7.mp J;have Y:=F b E;dsimp only[A3];refine aB (mY rfl (λh10=>?_) (λh10=>?_))
 ·refine bN (cC (LL (aG (b7 (av rfl (av rfl (Dl B ⟨rfl,p,t,by omega,λf I R O X y=>b7 (av rfl (av rfl (Dl B ⟨rfl,p,t,by omega,λg L W M P H=>?_⟩)))⟩)))))));refine av rfl (Al (show 4<=1000 by decide) (js (Al (show 2<=1000 by decide) (k (.same f g b) _ ⟨⟨show 2<=4 by decide,λe C=>?_⟩,O,M⟩ ⟨⟨X,λk N=>C4 _ (P k N),trivial⟩,λb' d=>by cases d;omega⟩ ⋯))));simp only[Ac.fs,Ar,A8,h_]at C;rcases C with rfl|rfl
  ·exact R
  ·exact W
 dsimp only[aN];refine aB (mY rfl (λh11=>?_) (λh11=>?_))
 ·exact bN (cC (cC (aG (av rfl (Al (show 2<=1000 by decide) (js (Al (show 2<=1000 by decide) (k (.go b) _ ⟨⟨show 0<=4 by decide,λe C=>by trivial⟩,trivial⟩ ⟨trivial,λb' d=>by cases d;omega⟩ ⋯))))))))
 dsimp only[aN];refine aB (b7 (av rfl (av rfl (Dl B ⟨_,rfl,rfl,p,t,by omega,λfs I l j o i y=>?_⟩))));refine Al rfl ?_;dsimp only[bK,aJ];refine aB (tT rfl (λh7=>?_) (λh7=>?_))
 ·exact bN (cC (jg (aG (av rfl (av rfl (Al (show 3<=1000 by decide) (av rfl (Al (show 2<=1000 by decide) (k (.look fs b) _ ⟨j,l,o⟩ ⟨i,λb' d=>by cases d;omega⟩ ⋯)))))))))
 dsimp only[aN];refine bN (cC (cC (au (a7 (Al ∎ (au (av rfl (aG ?_))))))));dsimp only[cj];refine iM ⋯ (show w-4 < 4 by omega) λf z=>?_;simp only[Ar,A8,h_]at z;rcases z with rfl|rfl|rfl|rfl
 ·exact av rfl (Al (show 2<=1000 by decide) (av rfl (Al (show 2<=1000 by decide) (k (.take fs) _ ⟨j,l,o⟩ ⟨i,λb' d=>by trivial⟩ ⋯))))
 ·exact av rfl (Al (show 2<=1000 by decide) (av rfl (Al (show 2<=1000 by decide) (k (.take fs) _ ⟨j,l,o⟩ ⟨i,λb' d=>by trivial⟩ ⋯))))
 ·exact av rfl (Al (show 2<=1000 by decide) (av rfl (Al (show 2<=1000 by decide) (k (.take fs) _ ⟨j,l,o⟩ ⟨i,λb' d=>by trivial⟩ ⋯))))
 ·exact av rfl (Al (show 2<=1000 by decide) (av rfl (Al (show 2<=1000 by decide) (k (.read fs) _ ⟨j,l,o⟩ ⟨i,λb' d=>by trivial⟩ ⋯))))
def f7:List (List Str):=[[],["n"],["go","n"],["nm"]]
theorem Qk{w:List Str}(h:w∈f7):w.length<=4/\(∀k∈w,fq k)/\w.Nodup/\hX w:=by
 have c:∀w∈f7,w.length<=4/\(∀k∈w,k.length<=4/\Ed k=ah/\kc 4 (.str k)=ah)/\w.Nodup/\w.Pairwise λa b=>¬b.cps.toList < a.cps.toList:=by decide +kernel
 exact c w h
theorem Rr{Q:List Ad->Int->Prop}{n:Int}(ss ks:List Str)(k:Q ((ss.map Eh).filter λx=>!cE x (ks.map .str)) n):
  c0 (aJ 0) (cT (w2 ↥0 ↥1 (dG ah))) ↥0 Q (ss.map .str) [] [af,ae (.w (.ln (ks.map .str)))] n:=by
 refine qc (λd=>∃s:Str,d=.str s) (λx=>!cE x (ks.map .str)) id (λd n c b q=>?_) (λd n c b=>av rfl) _ [] af n (λd b=>?_) ?_
 ·obtain⟨s,rfl⟩:=b;exact aF (λQ q=>au (av rfl (av rfl (Al rfl ⟨nZ ks,q⟩)))) q
 ·obtain⟨s,_,rfl⟩:=A7.mp b;exact⟨s,rfl⟩
 ·simpa using k
theorem K4(ss ks:List Str):((ss.map Eh).filter λx=>!cE x (ks.map .str)).isEmpty=decide (∀k∈ss,k∈ks):=by
 rw[F3,List.isEmpty_iff,List.filter_eq_nil_iff,decide_eq_true_iff]
 constructor
 ·intro h k a;have:=h _ (A7.mpr ⟨k,a,rfl⟩);rw[kB]at this;simp_all
 ·intro h d b;obtain⟨k,a,rfl⟩:=A7.mp b;rw[kB,c_ (h k a)];simp
def vg(ws:List (List Str))(ks:List Str):Ad->Bool
 |.int j=>decide (∀k∈ws.getD j.toNat [],k∈ks)
 |_=>ai
def lu(ws:List (List Str))(ks:List Str):List Nat:=(A9 ws.length).filter λb=>decide (∀k∈ws.getD b [],k∈ks)
theorem QS(ws:List (List Str))(ks:List Str):(bL 0 ws.length).filter (vg ws ks)=(lu ws ks).map λb=>.int (b:Nat):=by
 unfold bL lu;rw[List.filter_map];have e:(λi:Nat=>Ep (0+i))=λb=>.int b:=funext λi=>by simp
 rw[e];rfl
theorem P5{Q:List Ad->Int->Prop}{n:Int}(ws:List (List Str))(ks:List Str)(k:Q ((lu ws ks).map λb=>.int (b:Nat)) n):
  c0 (aJ 0) (cT (w2 (bb (cg [af,ae 1] (dj (w2 ↥2 ↥0 aQ)) (aJ 0) (cT (w2 ↥0 ↥1 (dG ah))) ↥0)) (bb (aO ak)) bG)) ↥0 Q (bL 0 ws.length) [] [af,ae (.w (.ln (ks.map .str))),↑(.list (ws.map e9))] n:=by
 refine qc (λd=>∃j:Nat,j < ws.length/\d=.int j) (vg ws ks) id (λd n f c q=>?_) (λd n f c=>av rfl) _ [] af n (λd c=>?_) ?_
 ·obtain⟨j,e,rfl⟩:=c;have g:(ws.map e9)[j]?=ae (.tuple (ws[j].map .str)):=by rw[Am,Ah e];rfl
  refine aF (λQ q=>au (a7 (iF (λQ q=>au (av rfl (av rfl ?_))) (Rr ws[j] ks (js ?_))))) q
  ·show(match cO _ (j:Int)with|some d=>Q (.d d) n|none=>False);rw[d9 g];exact q
  ·have h:vg ws ks (.int j)=((ws[j].map Eh).filter λx=>!cE x (ks.map .str)).isEmpty:=by
    rw[K4];show decide _=_;simp_all<;>omega
   rw[h]at q;exact q
 ·unfold bL at c;obtain⟨j,e,rfl⟩:=A7.mp c;exact⟨j,Ci.mp e,by simp⟩
 ·rw[List.map_id,QS];exact k
theorem Su{ws w0:List (List Str)}{ks:List Str}(h:ws=[]::w0):0 < (lu ws ks).length:=
 List.length_pos_of_mem (a:=0) (Dx.mpr ⟨Ci.mpr (by simp_all),by subst h;simp⟩)
theorem Ki{ws:List (List Str)}{ks:List Str}{b:Nat}(h:b∈lu ws ks):∃w,ws[b]?=ae w/\∀k∈w,k∈ks:=by
 obtain⟨d,c⟩:=Dx.mp h;have a:=Ci.mp d;refine⟨_,Ah a,?_⟩;have:=e_ c;rw[List.getD_eq_getElem?_getD,Ah a,Option.getD_some]at this;omega
theorem AN:∀{fs:List Fe}{ks ks':List Str},(∀k∈ks,k∈ks')->rF ks fs->rF ks' fs
 |[],_,_,_,_=>trivial
 |f::r,ks,ks',h,z=>⟨λk a=>h k (z.1 k a),AN (λk a=>(A4.mp a).elim (λq=>C4 _ (h k q)) (B1 _)) z.2⟩
theorem Ac.right_mono{ws:List (List Str)}{ks ks':List Str}{a:Ac}(h:∀k∈ks,k∈ks')(z:a.right ws ks):a.right ws ks':=
 ⟨AN h z.1,λb d=>by obtain⟨w,e,c⟩:=z.2 b d;exact⟨w,e,λk f=>h k (c k f)⟩⟩
theorem Pc{ws:List (List Str)}{w ks:List Str}{as:List Ac}{a:Ac}(h:jL ws (w,as))(hk:∀k∈ks,k∈w++as.flatMap Ac.bs)(ha:a.right ws ks):jL ws (w,as++[a]):=λp b c=>by
 by_cases d:p < as.length
 ·rw[Fv d]at c;have:=h p b c;unfold kn at this ⊢;rw[List.take_append_of_le_length (Gi d)];omega
 ·rw[List.getElem?_append_right ⋯]at c;have f:p-as.length=0:=by
   by_cases e:p-as.length=0
   ·exact e
   ·rw[Ce (by simp<;>omega)]at c;trivial
  rw[f]at c;cases c;have g:p=as.length:=by omega
  subst g;refine Ac.right_mono (λk z=>?_) ha;unfold kn;rw[List.take_append_of_le_length (by simp),List.take_length];exact hk k z
structure ActO(ws:List (List Str))(want ks:List Str)(acts:List Ac):Prop where
 mem:∀k,k∈ks↔k∈want++acts.flatMap Ac.bs
 ok:∀k∈ks,fq k
 fs:∀a∈acts,jk a
 ri:jL ws (want,acts)
def nA(ws:List (List Str))(bl:List Ad)(want:List Str)(nb:Int)(ds:List Ad)(δ:Sl)(n:Int):Prop:=∃(ks:List Str)(acts:List Ac)(x2 x7 x8 x9 x10:Option SV),
 δ=[ae (.w .tp),↑(.list (ws.map e9)),x2,ae (.own bl),↑(e9 want),ae (.own (ks.map .str)),ae (.own (acts.map Ac.d)),x7,x8,x9,x10]/\ActO ws want ks acts/\ks.length+4*ds.length<=40/\acts.length+ds.length<=8/\n+11*(ds.length:Int)<=nb+89
theorem SI{ws w0:List (List Str)}{bl r:List Ad}{want:List Str}{d:Ad}{ks:List Str}{acts:List Ac}{nb n:Int}{x7 x8 x9 x10:Option SV}{K:DEnds}(hw0:ws=[]::w0)(hwl:ws.length<=6)(hnb:nb+89 < 2 ^ 39)(O:ActO ws want ks acts)(hk:ks.length+4*(r.length+1)<=40)(ha:acts.length+(r.length+1)<=8)(hn:n+11*((r.length:Int)+1)<=nb+89)
  (kN:∀δ n,nA ws bl want nb r δ n->K.nx δ n):
  aq (ay 8 (bb (cg [af,ae 5,ae 1] (eI (wB dP (ao ↥1 ak))) (aJ 0) (cT (w2 (bb (cg [af,ae 1] (dj (w2 ↥2 ↥0 aQ)) (aJ 0) (cT (w2 ↥0 ↥1 (dG ah))) ↥0)) (bb (aO ak)) bG)) ↥0))) (aq (dC (aD nV (ao ↥0 (ao (cv 5) (ao ↥8 ak)))) (d8 2 (bK (aJ 9) (bK (aJ 10) dt)))) (aq (aV 6 ↥9) (aZ (ez ↥10) (aJ 7) (aM (cT (w2 ↥7 (cv 5) (dG ah))) (aV 5 ↥7) aN))))
   [ae (.w .tp),↑(.list (ws.map e9)),↑d,ae (.own bl),↑(e9 want),ae (.own (ks.map .str)),ae (.own (acts.map Ac.d)),x7,x8,x9,x10] n K:=by
 refine aB (a7 (aX (av rfl ?_)));refine Al ⟨by omega,by simp<;>omega⟩ ?_;rw[Ab];refine P5 ws ks ?_;dsimp only[A3];refine aB ?_;have P:(lu ws ks).length<=6:=A0 (Em _ _) (by simp<;>omega);refine bS (av rfl (lj rfl (av rfl (Dl ks (Dl _ (Dl ws ⟨rfl,by omega,O.ok,Su hw0,by omega,λb=>Ki,by omega,λact G C y H=>?_⟩))))));refine Al rfl ?_;dsimp only[bK,aJ];refine aB (jW rfl (λQ=>av rfl) (by simp<;>omega) ?_);dsimp only[A3];unfold aZ ez;refine av rfl ?_;have D:=rR C.1;refine eZ (λds δ l=>∃(c o g:List Str)(x7:Option SV),ds=g.map .str/\o++g=act.bs/\(∀k,k∈c↔k∈ks++o)/\l=G/\δ=[ae _,ae _,ae _,ae _,ae _,ae (.own (c.map .str)),ae _,x7,ae _,ae _,ae _]/\c.length+g.length<=ks.length+4)
  (λδ l I=>?_) (λe S δ l N I x=>?_) _ _ _ ⟨ks,[],_,x7,rfl,rfl,λk=>by simp,rfl,rfl,by omega⟩
 ·obtain⟨c,o,g,x7,e,h,p,rfl,rfl,u⟩:=I;cases Dt.mp e.symm;rw[Br]at h;subst h;have B:∀k,k∈c↔k∈want++(acts++[act]).flatMap Ac.bs:=λk=>by
   rw[p k,A4,O.mem k,List.flatMap_append,<-A6,A4 (s:=want++acts.flatMap Ac.bs)];simp
  refine kN _ _ ⟨c,_,_,_,_,_,_,by rw[Bb];rfl,⟨B,λk z=>?_,λa z=>?_,Pc O.ri (λk=>(O.mem k).mp) y⟩,by omega,by simp<;>omega⟩
  ·exact(A4.mp ((p k).mp z)).elim (O.ok k) (D.1 k)
  ·rcases A4.mp z with z|z
   ·exact O.fs a z
   ·rw[Bm]at z;simp_all
 ·obtain⟨c,o,g,x7,F,h,p,rfl,rfl,u⟩:=I;obtain⟨s,v,rfl,rfl,rfl⟩:=Dj.mp F.symm;rw[Ax]at u;have i:(o++[s])++v=act.bs:=by simpa using h
  refine cG (au (av rfl (lj rfl (Al rfl ⟨nZ c,ml (λz=>?_) (λz=>?_)⟩))))
  ·refine jW rfl (λQ=>av rfl) (by simp<;>omega) (x _ _ ⟨c++[s],_,_,↑(.str s),rfl,i,λk=>?_,rfl,?_,by simp<;>omega⟩)
   ·rw[A4,p k,<-A6,A4 (s:=ks++o)]
   ·rw[Bb];rfl
  ·have M:=by
    have E:=z;rw[kB]at E;simpa using E
   refine x _ _ ⟨c,_,_,_,rfl,i,λk=>?_,rfl,rfl,by omega⟩;rw[<-A6,A4,Bm,<-p k];exact⟨.inl,λq=>q.elim id λe=>e▸M⟩
def ur(n0:Int)(ds:List Ad)(δ:Sl)(n:Int):Prop:=∃(more:List (List Str))(x2:Option SV),δ=[ae (.w .tp),ae (.own (([]::more).map e9)),x2,af,af,af,af,af,af,af,af]/\more.length+ds.length<=5/\(∀w∈more,w∈f7)/\n+(ds.length:Int)<=n0+6
def mS(ws:List (List Str))(n0:Int)(ds:List Ad)(δ:Sl)(n:Int):Prop:=∃(bl:List Bl)(re:List (List Str))(x2 x4 x5 x6 x7 x8 x9 x10:Option SV),
 δ=[ae (.w .tp),↑(.list (ws.map e9)),x2,ae (.own (bl.map f6)),x4,x5,x6,x7,x8,x9,x10]/\ds=re.map e9/\bl.map (·.1)++re=ws/\(∀b∈bl,j2 b/\jL ws b)/\n+90*(ds.length:Int)<=n0+600
theorem J3{ws w0 re:List (List Str)}{bl:List Bl}{want:List Str}{n0 n:Int}{x2 x5 x6 x7 x8 x9 x10:Option SV}{K:DEnds}(hw:∀w∈ws,w∈f7)(hw0:ws=[]::w0)(hwl:ws.length<=6)(hn0:n0+600 < 2 ^ 39)(hb:bl.map (·.1)++want::re=ws)(hbo:∀b∈bl,j2 b/\jL ws b)(hn:n+90*((re.length:Int)+1)<=n0+600)
  (kN:∀δ n,mS ws n0 (re.map e9) δ n->K.nx δ n):
  aq (bo 5 (lQ ↥4)) (aq (bo 6 (aO ak)) (aq (aZ (eI (w2 (bb (aO (ao ⇑2 (ao ⇑1 (ao ⇑3 (ao ⇑2 (ao ⇑0 (ao ⇑1 (ao ⇑2 (ao ⇑3 ak)))))))))) (aD cx (ao ↥0 (ao ⇑8 ak))) aQ)) (aJ 2) (aq (ay 8 (bb (cg [af,ae 5,ae 1] (eI (wB dP (ao ↥1 ak))) (aJ 0) (cT (w2 (bb (cg [af,ae 1] (dj (w2 ↥2 ↥0 aQ)) (aJ 0) (cT (w2 ↥0 ↥1 (dG ah))) ↥0)) (bb (aO ak)) bG)) ↥0))) (aq (dC (aD nV (ao ↥0 (ao (cv 5) (ao ↥8 ak)))) (d8 2 (bK (aJ 9) (bK (aJ 10) dt)))) (aq (aV 6 ↥9) (aZ (ez ↥10) (aJ 7) (aM (cT (w2 ↥7 (cv 5) (dG ah))) (aV 5 ↥7) aN)))))) (bU 6 (aV 3 (ax (ao ↥4 (ao (wB fJ (ao ↥6 ak)) ak)))))))
   [ae (.w .tp),↑(.list (ws.map e9)),x2,ae (.own (bl.map f6)),↑(e9 want),x5,x6,x7,x8,x9,x10] n K:=by
 obtain⟨m,h,i,o⟩:=Qk (hw want (by rw[<-hb];simp));have x:bl.length+(re.length+1)<=6:=by rw[<-hb,As,Ab]at hwl;omega
 refine aB (Rt rfl (aB (ij ?_)));dsimp only[A3];refine aB (BL (M:=8) rfl (λQ q=>a7 (Al ∎ q)) ⋯ rfl ∎ ∎ (λd v=>?_) ∎ λj A=>?_)
 ·simp only[Ar,A8,h_]at v;rcases v with rfl|rfl|rfl|rfl|rfl|rfl|rfl|rfl
  ·exact⟨2,by simp⟩
  ·exact⟨1,by simp⟩
  ·exact⟨3,by simp⟩
  ·exact⟨2,by simp⟩
  ·exact⟨0,by simp⟩
  ·exact⟨1,by simp⟩
  ·exact⟨2,by simp⟩
  ·exact⟨3,by simp⟩
 refine eZ (nA ws _ want n) (λδ C I=>?_) (λd H δ C N I s=>?_) _ _ _ ⟨_,[],_,_,_,_,_,rfl,⟨λk=>by simp,h,λa e=>by simp at e,λp a e=>by simp at e⟩,by rw[eM];omega,by rw[eM];simpa using A,by rw[eM];omega⟩
 ·obtain⟨F,c,y,D,E,B,r,rfl,O,_,e,f⟩:=I;dsimp only;refine g9 rfl (iZ rfl (cC (av rfl (aX (av rfl (jR ?_))))));have l:=by simpa using e
  refine Al (show 2<=1000 by decide) (Al (by rw[Ab];omega) (kN _ _ ⟨bl++[(want,c)],re,_,_,_,_,_,_,_,_,by rw[Bb];rfl,rfl,by rw[Bb,A6];exact hb,λb z=>?_,?_⟩))
  ·rcases A4.mp z with z|z
   ·exact hbo b z
   ·rw[Bm]at z;subst z;exact⟨⟨m,h,l,O.fs,i,o⟩,O.ri⟩
  ·have G:=by simpa using f
   rw[Ab];omega
 ·obtain⟨F,c,y,D,E,B,r,rfl,O,u,e,f⟩:=I;rw[Ax]at u e f;exact SI hw0 hwl ⋯ O u e ⋯ s
theorem RJ:b9 tH MI ["_law_tape_here","_law_wants","_law_k","_law_blocks","_law_want","_law_known_here","_law_acts","_law_name","_law_open_ones","_law_act_here","_law_bound"]:=λws H Q h=>by
 obtain⟨rfl,t,k⟩:=h;refine aB (Al (Be _) (Al ∎ ?_));dsimp only[A3];refine aB (BL (M:=5) rfl (λQ q=>a7 (Al ∎ q)) ⋯ rfl ∎ ∎ (λd m=>?_) ∎ λj T=>?_)
 ·simp only[Ar,A8,h_]at m;rcases m with rfl|rfl|rfl|rfl|rfl
  ·exact⟨0,by simp⟩
  ·exact⟨1,by simp⟩
  ·exact⟨0,by simp⟩
  ·exact⟨1,by simp⟩
  ·exact⟨2,by simp⟩
 refine eZ (ur H) (λδ n I=>?_) (λd r δ n N I x=>?_) _ _ _ ⟨[],_,rfl,by rw[eM];simpa using T,λd m=>by simp at m,by rw[eM];omega⟩
 ·obtain⟨c,L,rfl,C,u,y⟩:=I;refine aB (ij ?_);dsimp only[A3];refine g9 rfl (aB ?_);unfold aZ ez;refine av rfl ?_;have s:∀w∈([]:List Str)::c,w∈f7:=λd m=>by
   rcases Ar.mp m with rfl|z
   ·simp[f7]
   ·exact u d z
  have o:(([]:List Str)::c).length<=6:=by rw[Ax];omega
  refine eZ (mS _ H) (λδ G I=>?_) (λd r δ G N I x=>?_) _ _ _ ⟨[],_,_,_,_,_,_,_,_,_,rfl,rfl,rfl,λb g=>by simp at g,?_⟩
  ·obtain⟨F,E,R,S,W,K,X,Y,U,B,rfl,A,g,i,l⟩:=I;cases Dt.mp A.symm;rw[Br]at g;dsimp only;refine g9 rfl (bN (aX (av rfl (jR (k F G ⟨by have:=congrArg Dy g;simp at this;omega,?_,λb z=>⟨(i b z).1,by rw[g];exact(i b z).2⟩⟩ ⟨_,g⟩ (by simpa using l))))));rw[<-g,Ab]at o;omega
  ·obtain⟨F,E,R,S,W,K,X,Y,U,B,rfl,A,g,i,l⟩:=I;obtain⟨J,E,rfl,rfl,rfl⟩:=Dj.mp A.symm;rw[Ax,Ab]at l;exact J3 s rfl o t g i ⋯ x
  ·have Z:=by simpa using y
   simp;omega
 ·obtain⟨c,L,rfl,C,u,y⟩:=I;rw[Ax]at C y;dsimp only[aJ];refine iZ rfl (au (a7 (Al ∎ (Al ∎ (Al ∎ (Al ∎ (Al ∎ (Al ∎ (hV rfl ⋯ ∎ ∎ λq O V=>iM O V λw s=>?_)))))))));have:∃v∈f7,w=e9 v:=by
   simp only[Ar,A8,h_]at s;rcases s with rfl|rfl|rfl|rfl|rfl
   ·exact⟨[],by simp[f7],rfl⟩
   ·exact⟨["n"],by simp[f7],rfl⟩
   ·exact⟨["go","n"],by simp[f7],rfl⟩
   ·exact⟨["nm"],by simp[f7],rfl⟩
   ·exact⟨[],by simp[f7],rfl⟩
  obtain⟨v,hv,rfl⟩:=this;refine Al (by rw[Ab,Ax];omega) (x _ _ ⟨c++[v],↑d,?_,by rw[As,Ba];omega,λe P=>?_,by omega⟩)
  ·rw[show([]::(c++[v]):List _)=([]::c)++[v]from rfl,Bb];rfl
  rcases A4.mp P with z|z
  ·exact u e z
  ·rw[Bm]at z;simp_all
section
variable{δ:Sl}{n:Int}{K:DEnds}{i:Nat}{s a b c:Str}{r:List Ad}{k:Bool}{Q:Bool->Int->Prop}
theorem zm(e:δ[i]?=ae (↑(.tuple (.str s::r))))(h:cE (.str s) [.str a,.str b,.str c]=k)(q:Q k n):cT (w2 (w2 (aj i) (wC (.int 0)) aw) (ax (ao (wC (.str a)) (ao (wC (.str b)) (ao (wC (.str c)) ak)))) (fX ai)) δ n Q:=by
 refine au (dN e ?_);show 3<=1000/\eG _=ah/\_/\Q _ n;exact⟨by decide,rfl,rfl,by simp_all⟩
theorem nO(e:δ[i]?=ae (↑(.tuple (.str s::r))))(h:cE (.str s) [.str a,.str b]=k)(q:Q k n):cT (w2 (w2 (aj i) (wC (.int 0)) aw) (ax (ao (wC (.str a)) (ao (wC (.str b)) ak))) (fX ai)) δ n Q:=by
 refine au (dN e ?_);show 2<=1000/\eG _=ah/\_/\Q _ n;exact⟨by decide,rfl,rfl,by simp_all⟩
theorem qj{A B:b5}(ha:∀Q:Bool->Int->Prop,Q ai n->A δ n Q)(q:Q ai n):dU A B δ n Q:=ha _ (q)
end
theorem LI{δ:Sl}{n:Int}{K:DEnds}{i:Nat}{w:DT}{es:List Ad}(e:δ[i]?=ae (ae (.own es)))(k:w δ n λx n1=>match x with
  |.d (.list fs)=>(es.length < 1000000/\fs.length < 1000000)/\K.nx (δ.set i (ae (.own (es++fs)))) n1
  |_=>False):fD i w δ n K:=by
 unfold fD;rw[e];exact k
theorem Rb:b9 rM M0 ["_law_program_here","_law_block","_law_place","_law_found","_law_act_here"]:=λws n Q h=>by
 obtain⟨Z,i,p,⟨w,u⟩,rfl,hi,⟨D,E,H,B,_,_⟩,hp,k⟩:=h;dsimp only at D E H B hp k;have G:(Z.map f6)[i]?=ae (f6 (w,u)):=by rw[Am,hi];rfl
 refine aB (au (au (av rfl (av rfl (bj G (aG (cY ?_)))))));dsimp only[A3];refine aB (au (au (av rfl (av rfl (bj G (aG (eL ?_)))))));dsimp only[d7];refine av rfl ?_;dsimp only;rw[ES _ (by rw[Ab];omega),<-List.map_take];refine eZ (λds δ t=>∃(y o:List Ac)(L:List Str)(x:Option SV),ds=o.map Ac.d/\y++o=u.take p/\t=n/\δ=[ae _,ae _,ae _,ae (.own (L.map .str)),x]/\KnI w y L) (λδ t I=>?_) (λd r δ t N I kN=>?_) _ _ _
  ⟨[],_,w,_,rfl,rfl,rfl,rfl,KnI.first D E⟩
 ·obtain⟨y,o,L,x,e,l,rfl,rfl,I⟩:=I;cases Dt.mp e.symm;rw[Br]at l;subst l;dsimp only;refine g9 rfl ?_;have hl:(u.take p).length<=8:=A0 (List.length_take_le _ _) ⋯;have hI:=I.len;exact bN (a7 (av rfl (Dl L ⟨.inl rfl,by omega,λx hx=>A0 (I.ok x hx).1 ∎,λys a b c=>k ys a (λz hz=>I.ok z ((b z).mp hz)) c λz=>(b z).trans (I.mem z)⟩)))
 ·obtain⟨y,o,L,x,e,l,rfl,rfl,I⟩:=I;obtain⟨a,o,rfl,rfl,rfl⟩:=Dj.mp e.symm;have W:=(B a (List.mem_of_mem_take (by rw[<-l];simp))).1;have U:L.length<=36:=by
   have h1:y.length+(o.length+1)=(u.take p).length:=by rw[<-l,As,Ax]
   have h3:=I.len;have h4:(u.take p).length<=u.length:=Gx _ _;omega
  have A:(y++[a])++o=u.take p:=by rw[A6];exact l
  have m:∀L',KnI w _ L'->N [ae _,ae _,ae _,ae _,↑a.d] t:=λL' I'=>kN _ _ ⟨_,o,L',_,rfl,A,rfl,rfl,I'⟩;have v:∀K (C:∀δ n,N δ n->K.nx δ n) s j r,a.d=.tuple (.str s::cD j::r)->cE _ [.str "take",.str "read",.str "look"]=ah->a.bs=bf j->a.fs=j->aM (cT (w2 (w2 ↥4 _ aw) _ _)) (fD 3 (bb (cg [af] (dj (w2 ↥4 _ aw)) _ _ _))) aN
    [ae _,ae _,ae _,ae (.own (L.map .str)),↑a.d] t K:=λK C s j r R P J e4=>by
   rw[R]at m ⊢;refine bP (λQ q=>zm rfl P q) ?_;have hb:=pA (e4▸W);refine LI rfl (a7 (iF (λQ q=>cR rfl q) (L0 j t (Al ⟨by rw[Ab];omega,by rw[Ab];omega⟩ ?_))));have:=m _ (I.more (λk=>by rw[J]) hb W);rw[Bb]at this;exact C _ _ this
  have skip:∀K (C:∀δ n,N δ n->K.nx δ n) s r,a.d=.tuple (.str s::r)->cE _ [.str "take",.str "read",.str "look"]=ai->a.bs=[]->aM (cT (w2 (w2 ↥4 _ aw) _ _)) (fD 3 (bb (cg [af] (dj (w2 ↥4 ⇑1 aw)) (aJ 0) (cT (w2 (w2 ↥0 ⇑0 aw) (wC (.str "bind")) bg)) (w2 ↥0 ⇑1 aw)))) aN
    [ae _,ae _,ae _,ae _,↑a.d] t K:=λK C s r R P J=>by
   rw[R]at m ⊢;refine bq (λQ q=>zm rfl P q) (C _ _ (m L (I.skip J)))
  cases a with
  |lay j O=>exact skip _ (λ_ _ z=>z) "lay" [cD j,O] rfl (by rfl) rfl
  |take j=>exact v _ (λ_ _ z=>z) "take" j [] rfl (by rfl) rfl rfl
  |read j=>exact v _ (λ_ _ z=>z) "read" j [] rfl (by rfl) rfl rfl
  |look j b=>exact v _ (λ_ _ z=>z) "look" j [.int b] rfl (by rfl) rfl rfl
  |same f g b=>exact skip _ (λ_ _ z=>z) "same" [f.d,g.d,.int b] rfl (by rfl) rfl
  |go b=>exact skip _ (λ_ _ z=>z) "go" [.int b] rfl (by rfl) rfl
theorem xx{α:Type}{f:α->Ad}{P:α->Prop}:∀{ds:List Ad},(∀d∈ds,∃x,P x/\d=f x)->∃xs:List α,ds=xs.map f/\∀x∈xs,P x
 |[],_=>⟨[],rfl,λx b=>by simp_all⟩
 |d::r,h=>by
  obtain⟨x,b,rfl⟩:=h d An;obtain⟨xs,rfl,a⟩:=xx λe c=>h e (Ak _ c);exact⟨_,rfl,λy g=>(Ar.mp g).elim (λe=>e▸b) (a y)⟩
def vR(m:Nat)(n0:Int)(ds:List Ad)(δ:Sl)(n:Int):Prop:=∃(ns:List Nt)(x y:Option SV),δ=[ae (.w .tp),↑(.int m),ae (.own (ns.map fo)),x,y]/\ns.length+ds.length<=m/\(∀q∈ns,lT q)/\n+6*(ds.length:Int)<=n0+100
theorem SA:b9 nr J1 ["_law_tape_here","_law_most","_law_found","_law_k","_law_row"]:=λws A Q h=>by
 obtain⟨m,rfl,C,p,k⟩:=h;refine aB (ij ?_);dsimp only[A3];refine aB ?_;unfold aZ eI;refine iu rfl (λQ q=>au (av rfl (aG q))) ⋯ ⋯ ⋯ λr F J=>Al ⟨by omega,by omega⟩ ?_;have B:r.toNat<=m:=by omega
 refine eZ (vR m A) (λδ n I=>?_) (λd G δ n N I w=>?_) _ _ _ ⟨[],_,_,rfl,by rw[eM];simpa using B,λd u=>by simp at u,by rw[eM];omega⟩
 ·obtain⟨g,x,y,rfl,f,a,i⟩:=I;dsimp only;exact g9 rfl (bN (aX (av rfl (jR (k g n ⟨by simpa using f,a⟩ (by simp_all))))))
 ·obtain⟨g,x,y,rfl,f,a,i⟩:=I;rw[Ax]at f i;refine aB (aX (a7 (de (av rfl (Al rfl ⟨by omega,λs K E=>?_⟩)))));refine Al ⟨by omega,by omega⟩ ?_;rw[Cz];refine sN _ 1 (λd n H i q=>de (av rfl (Al rfl ⟨by omega,λv j=>q v _ (l8 j) ⋯⟩))) _ [] af _ (by rw[eM];omega) λrow D o b l=>?_;rw[eM]at o l;refine jR ?_;dsimp only[A3];refine iZ rfl (cC (av rfl (zk rfl ⋯ λv j=>Al (show 2<=1000 by decide) (Al (by rw[Ab];omega) (w _ _ ⟨g++[(row,v)],_,_,by rw[Bb];rfl,by rw[As,Ba];omega,λe t=>?_,by omega⟩)))));rcases A4.mp t with z|z
  ·exact a e z
  ·rw[Bm]at z;subst z;exact⟨⟨⟨by show row.length<=4;omega,by show 1<=row.length;omega⟩,b⟩,z9 j⟩
theorem eC{i j n:Int}{Q:DQ}(k:Q (.d (.int (i+j))) n):cj (λi j=>.int (i+j)) (.d (.int i)) (.d (.int j)) n Q:=k
theorem xQ{Q:List Ad->Int->Prop}:∀(ys:List Str)(j_:Nm)(x:Option SV)(n:Int),n+(ys.length:Int) < 2 ^ 39->(∀p∈j_,bO p.2=ah)->(∀(nm:Nm)(n':Int),nm.map (·.1)=j_.map (·.1)++ys->(∀p∈nm,bO p.2=ah)->n'<=n+(ys.length:Int)->Q (nm.map i7) n')->
  c0 (aJ 0) bV (ax (ao ↥0 (ao (aD hZ (ao ↥1 ak)) ak))) Q (ys.map .str) (j_.map i7) [x,ae (.w .tp)] n
 |[],j_,x,n,_,a,q=>q j_ n (by simp) a ⋯
 |y::ys,j_,x,n,f,a,q=>by
  rw[Ax]at f q;simp only[Bk,c0,aJ,bV,if_true];refine cC (av rfl (de (av rfl (Al rfl ⟨by omega,λv g=>Al (show 2<=1000 by decide) ?_⟩))));have:=xQ ys (j_++[(y,v)]) (↑(.str y)) (n+1) ⋯ (λp c=>(A4.mp c).elim (a p) λz=>by rw[Bm.mp z];exact l8 g) λnm n' e b h=>q nm n' (by simp_all) b ⋯;rw[Bb]at this;exact this
theorem K6(as:List Ac)(h:∀a∈as,jk a):(as.flatMap Ac.bs).length<=4*as.length:=by
 induction as with
 |nil=>exact Be _
 |cons a r c=>
  rw[List.flatMap_cons,As,Ax];have:=(rR (h a An).1).2;have:=c λb d=>h b (Ak _ d);omega
theorem xc{b:Bl}(ob:j2 b)(p:Nat):(kn b.1 b.2 p).length<=36:=by
 unfold kn;rw[As];have:=K6 (b.2.take p) λa c=>ob.2.2.2.1 a (List.mem_of_mem_take c);have:=ob.1;have:=ob.2.2.1;have:=Gx p b.2;omega
def N4(ps:Pg)(mm:Nat)(n0:Int)(ds:List Ad)(δ:Sl)(n:Int):Prop:=∃(hs:List Hn)(re:Pg)(x4 x5 x6 x7:Option SV),δ=[ae (.w .tp),↑(cH ps),↑(.int mm),ae (.own (hs.map ck)),x4,x5,x6,x7]/\ds=re.map ic/\re=ps.drop hs.length/\hs.length<=ps.length /\
 (∀(i:Nat)(P:List Bl),i < hs.length->ps[i]?=ae P->∃(h:Hn)(b:Bl),hs[i]?=ae h/\P[h.1]?=ae b/\okHn b h)/\n+42*(ds.length:Int)<=n0+210
theorem GU:b9 pH JO ["_law_tape_here","_law_programs","_law_most","_law_hands","_law_program_here","_law_block","_law_place","_law_names"]:=λws n0 Q h=>by
 obtain⟨y,Z,rfl,hmm,⟨q_,C⟩,hn0,k⟩:=h;refine aB (ij ?_);dsimp only[A3];refine aB ?_;unfold aZ dj;refine av rfl (eZ (N4 y Z n0) (λδ n I=>?_) (λd r δ n N I kN=>?_) _ _ _ ⟨[],y,_,_,_,_,rfl,rfl,rfl,Be _,λi P s=>g_ s (Nat.not_lt_zero _),by rw[Ab];omega⟩)
 ·obtain⟨o,re,x4,x5,x6,x7,rfl,S,c,T,l,J⟩:=I;rw[(Dt.mp S.symm)]at c;have j':=List.drop_eq_nil_iff.mp c.symm;dsimp only;refine g9 rfl (bN (cC (aX (av rfl (b7 (av rfl (av rfl (Dl Z ⟨rfl,by omega,by simp at J;omega,λns n' V O=>?_⟩))))))));exact Al (show 2<=1000 by decide) (k o ns n' ⟨by omega,λi P s=>l i P (by have:=(Ap.mp s).1;omega) s⟩ V (by grind))
 ·obtain⟨o,re,x4,x5,x6,x7,rfl,S,c,T,l,J⟩:=I;obtain⟨P,K,rfl,rfl,rfl⟩:=Dj.mp S.symm;rw[Ax,Ab]at J;have M:o.length < y.length:=by
   have:=congrArg Dy c;rw[Ax,E1]at this;omega
  have f:=Fw M;rw[<-c]at f;obtain⟨hP,v⟩:=Bp f;have x:y[o.length]?=ae P:=by simp_all
  obtain⟨g1,g2,g3⟩:=C P (Az x);refine aB (iu rfl (λQ q=>aX (av rfl q)) ⋯ (by rw[Ab];omega) (by rw[Ab];omega) λr r0 r1=>?_);rw[Ab]at r1;obtain⟨b,hb⟩:∃b:Nat,r=b:=⟨r.toNat,by omega⟩;subst hb;have D:b < P.length:=by omega
  obtain⟨B,a⟩:∃B:Bl,P[b]?=ae B:=⟨_,Ah D⟩;obtain⟨w,t⟩:=B;have W:(P.map f6)[b]?=ae (f6 (w,t)):=by rw[Am,a];rfl
  obtain⟨F,_⟩:=g3 _ (Az a);have has:t.length<=8:=F.2.2.1;dsimp only[A3];refine aB (iu (m:=((t.map Ac.d).length:Int)+1) rfl (λQ q=>au (aX (au (au (av rfl (av rfl (bj W (aG (eL ?_)))))))) ) ⋯ ⋯ (by rw[Ab];omega) λr r0' L=>?_)
  ·exact eC q
  rw[Ab]at L;obtain⟨p,hp⟩:∃p:Nat,r=p:=⟨r.toNat,by omega⟩;subst hp;dsimp only[A3];refine aB (aX (a7 (bS (av rfl (av rfl (av rfl (Dl P ⟨b,p,_,rfl,a,F,by show p<=t.length;omega,λys u R hup g=>?_⟩)))))));have hys:=A0 (uz u λz hz=>(g z).mp hz) (xc F p);refine xQ ys [] af _ ⋯ (λp hp=>by trivial) λnm n' e G O=>?_;rw[List.map_nil,Gz]at e;have hnl:nm.length=ys.length:=by rw[<-e,Ab]
  have E:okHn (w,t) (b,p,nm):=⟨by show p<=t.length;omega,by rw[e];exact u,λq Y=>⟨R _ (by rw[<-e];exact A7.mpr ⟨q,Y,rfl⟩),G q Y⟩,(by have q:hX (nm.map (·.1)):=(by simp_all);unfold hX at q;rw[Fh]at q;exact q),λk=>by rw[e];exact g k,by show nm.length<=40;omega⟩;dsimp only[eY];refine iZ rfl (jg (av rfl (av rfl (av rfl (Al (show 3<=1000 by decide) (Al (by rw[Ab];omega) (kN _ _ ⟨o++[(b,p,nm)],K,_,_,_,_,by rw[Bb];rfl,rfl,by rw[As];exact v,by rw[As,Ba];omega,λi P' s j=>?_,by rw[Ab];omega⟩)))))));rw[As,Ba]at s;by_cases z:i < o.length
  ·obtain⟨h,b',q1,q2,q3⟩:=l i P' z j;exact⟨h,b',by simp_all⟩
  ·have z':i=o.length:=by omega
   subst z';rw[x]at j;cases j;exact⟨_,_,by simp,a,E⟩
theorem hU{δ:Sl}{n:Int}{Q:DQ}{u:b5}{v w:DT}{b:Bool}(hu:∀Q:Bool->Int->Prop,Q b n->u δ n Q)(k:if b=ah then v δ n Q else w δ n Q):fM u v w δ n Q:=hu _ k
theorem jq{α:Type}{c:b5}{w:DT}{Q:List Ad->Int->Prop}{aA:Sl}(f g:α->Ad)(p:α->Bool):∀(xs:List α)(j_:List Ad)(x:Option SV)(n:Int),(∀a∈xs,∀(n:Int)(Q':Bool->Int->Prop),Q' (p a) n->c (↑(f a)::aA) n Q')->(∀a∈xs,∀(n:Int)(Q':DQ),Q' (.d (g a)) n->w (↑(f a)::aA) n Q')->Q (j_++(xs.filter p).map g) n->c0 (aJ 0) c w Q (xs.map f) j_ (x::aA) n
 |[],j_,x,n,_,_,q=>by rw[List.filter_nil,List.map_nil,Br]at q;exact q
 |a::r,j_,x,n,j,h,q=>by
  refine j a An n _ ?_;cases e:p a with
  |true=>
   refine h a An n _ (jq f g p r _ _ n (λb i=>j b (Ak _ i)) (λb i=>h b (Ak _ i)) ?_);rw[Gr,b_ e]at q;rw[A6];exact q
  |false=>
   refine jq f g p r j_ _ n (λb i=>j b (Ak _ i)) (λb i=>h b (Ak _ i)) ?_;simp_all
structure HandAt(ps:Pg)(hs:List Hn)(h:Nat)(P:List Bl)(xb xp:Nat)(nm:Nm)(w:List Str)(as:List Ac):Prop where
 prog:ps[h]?=ae P
 hand:hs[h]?=ae (xb,xp,nm)
 blk:P[xb]?=ae (w,as)
 hn:okHn (w,as) (xb,xp,nm)
theorem gq{ps:Pg}{hs:List Hn}(ok:okHs ps hs){h:Nat}(hh:h < ps.length):∃P xb xp nm w as,HandAt ps hs h P xb xp nm w as:=by
 have a:=Ah hh;obtain⟨⟨xb,xp,d⟩,⟨w,as⟩,e,c,b⟩:=ok.2 h _ a;exact⟨_,xb,xp,d,w,as,a,e,c,b⟩
section
variable{ps:Pg}{hs:List Hn}{h:Nat}{P:List Bl}{xb xp:Nat}{nm:Nm}{w:List Str}{as:List Ac}
theorem HandAt.act(H:HandAt ps hs h P xb xp nm w as):bx ps hs h=as[xp]?:=by
 unfold bx;rw[H.prog,H.hand];show(P[xb]?.bind λb=>b.2[xp]?)=_;rw[H.blk];rfl
theorem HandAt.nms(H:HandAt ps hs h P xb xp nm w as):okN nm:=H.hn.n
theorem HandAt.nmq(H:HandAt ps hs h P xb xp nm w as):t5 hs h=nm:=by unfold t5;rw[H.hand];rfl
theorem HandAt.ok(H:HandAt ps hs h P xb xp nm w as)(ok:cw ps){a:Ac}(e:bx ps hs h=ae a):jk a:=by
 rw[H.act]at e;exact((ok.2 P (Az H.prog)).2.2 _ (Az H.blk)).1.2.2.2.1 a (Az e)
theorem HandAt.hD(H:HandAt ps hs h P xb xp nm w as):(hs.map ck)[h]?=ae (.tuple [.int xb,.int xp,cI nm]):=by rw[Am,H.hand];rfl
theorem HandAt.pD(H:HandAt ps hs h P xb xp nm w as):(ps.map ic)[h]?=ae (.tuple (P.map f6)):=by rw[Am,H.prog];rfl
theorem HandAt.bD(H:HandAt ps hs h P xb xp nm w as):(P.map f6)[xb]?=ae (.tuple [e9 w,.tuple (as.map Ac.d)]):=by rw[Am,H.blk];rfl
end
theorem AQ{δ:Sl}{n:Int}{Q:DQ}{i j xp:Nat}{as:List Ac}(e4:δ[j]?=ae (↑(.int xp)))(e5:δ[i]?=ae (↑(.tuple (as.map Ac.d))))(k:Q (.d (qr as[xp]?)) n):fM (cT (w2 (aj j) (wB bC (ao (aj i) ak)) fL)) (w2 (aj i) (aj j) aw) (wC .none) δ n Q:=by
 refine hU (λQ q=>aF (λQ q=>au (av e4 (aX (av e5 (tW q))))) q) ?_;rw[Ab];by_cases z:(xp:Int) < (as.length:Nat)
 ·rw[b_ (c_ z)];have a:xp < as.length:=by omega
  have b:(as.map Ac.d)[xp]?=ae (Ac.d as[xp]):=by rw[Am,Ah a];rfl
  rw[Ah a]at k;exact au (av e5 (av e4 (bj b k)))
 ·rw[a_ (by simpa using z)];rw[Ce ⋯]at k;assumption
theorem SK:b9 lK Nn ["programs","stand","hand","block","place","acts"]:=λws n Q h=>by
 obtain⟨c,i,e,h,rfl,a,b,k⟩:=h;obtain⟨P,j,d,g,w,f,H⟩:=gq a b;rw[H.act]at k;refine aB (bz (λQ q=>au (au (au (av rfl (aG (cY (av rfl (bj H.hD (aG (cY q)))))))))) ?_);dsimp only[A3];refine aB (bz (λQ q=>au (au (au (av rfl (aG (cY (av rfl (bj H.hD (aG (eL q)))))))))) ?_);dsimp only[A3];refine aB (bz (λQ q=>au (au (au (av rfl (av rfl (bj H.pD (av rfl (bj H.bD (aG (eL q)))))))))) ?_);dsimp only[A3];exact bN (AQ rfl rfl k)
theorem yJ:∀{row:List Ad},(∀d∈row,bO d=ah)->∃k:List aC,row=k.map DL.vD
 |[],_=>⟨[],rfl⟩
 |d::r,h=>by
  obtain⟨k,rfl⟩:=yJ λe a=>h e (Ak _ a);have c:=h d An;cases d with
  |int i=>exact⟨.inl i::k,rfl⟩
  |str x=>exact⟨.inr x::k,rfl⟩
  |_=>cases c
theorem qM(k:Int)(m:Nat):bL k (m+1)=.int k::bL (k+1) m:=by
 unfold bL;rw[List.range_succ_eq_map,Bk,By]
 congr 1
 ·rw[show((0:Nat):Int)=0 from rfl,Int.add_zero]
 ·refine Du λi _=>?_;show Ep _=.int _;have:k+((i+1:Nat):Int)=k+1+i:=by omega
  rw[this]
theorem uw{f:Fe}(h:f.pt=ah):(Fe.fd f).d=f.d:=by cases f<;>first|rfl|cases h
theorem nJ{fs:List Fe}(ok:dH fs)(h:fW fs):cD fs=fS (fs.map Fe.fd)/\qJ (fs.map Fe.fd):=by
 refine⟨?_,by rw[Ab];exact h.1,by rw[Ab];exact ok.1,λg b=>?_⟩
 ·unfold cD fS;rw[By]
  congr 1
  exact Du λf a=>(uw (h.2 f a)).symm
 ·obtain⟨f,a,rfl⟩:=A7.mp b;have:=ok.2 f a;cases f<;>first|exact this|trivial
theorem y6{a:Ac}(h:a.pf=af):a.wt=ai/\∃s r,a.d=.tuple (.str s::r)/\cE (.str s) [.str "take",.str "read",.str "look"]=ai/\cE (.str s) [.str "take",.str "read"]=ai:=by
 cases a with
 |lay c j=>exact⟨rfl,_,_,rfl,by trivial⟩
 |same f g b=>exact⟨rfl,_,_,rfl,by trivial⟩
 |go b=>exact⟨rfl,_,_,rfl,by trivial⟩
 |take c=>cases h
 |read c=>cases h
 |look c b=>cases h
theorem pz{a:Ac}{fs:List Fd}(h:a.pf=ae fs)(ok:jk a):qJ fs/\∃s r,a.d=.tuple (.str s::fS fs::r)/\cE (.str s) [.str "take",.str "read",.str "look"]=ah/\cE (.str s) [.str "take",.str "read"]=a.wt:=by
 cases a with
 |lay fs k=>cases h
 |same f g b=>cases h
 |go b=>cases h
 |take c=>
  cases h;obtain⟨e,o⟩:=nJ (fs:=c) ok.1 ok.2;exact⟨o,_,[],by rw[<-e];rfl,by trivial⟩
 |read c=>
  cases h;obtain⟨e,o⟩:=nJ (fs:=c) ok.1 ok.2;exact⟨o,_,[],by rw[<-e];rfl,by trivial⟩
 |look c b=>
  cases h;obtain⟨e,o⟩:=nJ (fs:=c) ok.1 ok.2;exact⟨o,_,_,by rw[<-e];rfl,by trivial⟩
theorem Pj(fs:List Fd)(row:List Ad)(nm:Nm):fY (c9 fs row nm)=!bX fs row nm:=by
 unfold c9;cases bX fs row nm<;>rfl
theorem pB{fs:List Fd}{nm:Nm}{q:Nt}{r:List Nt}:aT fs nm (q::r)=if bX fs q.1 nm=ah then ae 0 else(aT fs nm r).map (·+1):=by
 unfold aT;rw[List.findIdx?_cons]
theorem Mg{m:List (List aC×Ad)}{k k':List aC}{d:Ad}(h:gm (fG m k d) k'=ah):k'=k\/gm m k'=ah:=by
 unfold fG at h
 split at h
 ·unfold gm at h ⊢;rw[List.any_map,D5]at h;obtain⟨p,b,e⟩:=h;refine .inr (D5.mpr ⟨p,b,?_⟩);have a:=e_ e;dsimp only at a;by_cases z:p.1=k
  ·rw[b_ z]at a;exact c_ a
  ·rw[a_ z]at a;exact c_ a
 ·unfold gm at h ⊢;rw[List.any_append,Bool.or_eq_true]at h;rcases h with h|h
  ·exact .inr h
  ·simp at h;exact .inl h.symm
theorem N2{m:List (List aC×Ad)}{k:List aC}{d:Ad}:(fG m k d).length<=m.length+1:=by
 unfold fG
 split
 ·rw[Ab];omega
 ·rw[As];exact Bc _
section
variable{δ:Sl}{n:Int}{Q:DQ}{K:DEnds}{W V:aE}{i:Nat}
theorem gD{neg:Bool}{a:Ad}(k:Q (.d (.bool (if neg then !fY a else fY a))) n):bF neg (.d a) (.d .none) n Q:=k
theorem KN{neg:Bool}{a:Ad}(k:Q (.d (.bool (if neg then !fY a else fY a))) n):iT neg (.d a) (.d .none) n Q:=.inr k
theorem Mo{neg:Bool}{o:Ob}(k:Q (.d (.bool neg)) n):iT neg (.ob o) (.d .none) n Q:=.inl ⟨o,rfl,rfl,k⟩
theorem u4{s a b:Str}{r:List Ad}{k:Bool}(e:δ[i]?=ae (↑(.tuple (.str s::r))))(h:cE (.str s) [.str a,.str b]=k)(q:Q (.d (.bool !k)) n):w2 (w2 (aj i) (wC (.int 0)) aw) (ax (ao (wC (.str a)) (ao (wC (.str b)) ak))) (fX ah) δ n Q:=by
 refine au (dN e ?_);show 2<=1000/\eG _=ah/\_/\Q _ n;exact⟨by decide,rfl,rfl,by simp_all⟩
theorem DB{s:Str}{hs:List Str}{r:List Ad}{k:Bool}{Q:Bool->Int->Prop}(e:δ[i]?=ae (↑(.tuple (.str s::r))))(h:cE (.str s) (hs.map .str)=k)(q:Q (!k) n):cT (qe hs (w2 (aj i) (wC (.int 0)) aw)) δ n Q:=dN e ⟨_,rfl,rfl,by rw[h];exact q⟩
theorem sC{ps:Pg}{hs:List Hn}{ns:List Nt}{h i j l:Nat}(e0:δ[i]?=ae (↑(cH ps)))(e1:δ[j]?=ae (↑(bH hs ns)))(e2:δ[l]?=ae (↑(.int h)))(ok:okHs ps hs)(hh:h < ps.length)(k:Q (.d (qr (bx ps hs h))) n):aD lK (ao (aj i) (ao (aj j) (ao (aj l) ak))) δ n Q:=
 bS (av e0 (av e1 (av e2 ⟨ps,hs,ns,h,rfl,ok,hh,k⟩)))
end
theorem Ro:b9 qN FX ["programs","stand","hand","act","names","tried","place","note"]:=λws n Q h=>by
 obtain⟨X,hs,R,h,rfl,⟨G,C,y⟩,S,k⟩:=h;obtain⟨P,xb,xp,l,w,as,H⟩:=gq C S;unfold dy at k;rw[H.nmq]at k;refine aB (bz (λQ q=>sC rfl rfl rfl C S q) ?_);dsimp only[A3];cases L:bx X hs h with
 |none=>
  rw[L]at k;assumption
 |some a=>
  rw[L]at k;have k:Q (.d (gx (a.pf.bind λfs=>aT fs l R))) n:=k;show aq _ _ [ae _,ae _,ae _,↑a.d,af,af,af,af] n _;cases E:a.pf with
  |none=>
   rw[E]at k;obtain⟨_,s,r,e,F,_⟩:=y6 E;rw[e];exact aB (bP (λQ q=>gv (λQ q=>aF (λQ q=>au (av rfl (aG (gD q)))) q) (DB rfl F q)) (bN (aG k)))
  |some fs=>
   rw[E]at k;obtain⟨of,s,r,e,F,_⟩:=pz E (H.ok G L);rw[e];refine aB (bq (λQ q=>gv (λQ q=>aF (λQ q=>au (av rfl (aG (gD q)))) q) (DB rfl F q)) ?_);dsimp only[aN];refine aB (bz (λQ q=>au (au (au (av rfl (aG (cY (av rfl (bj H.hD (aG (fB q)))))))))) ?_);dsimp only[A3];refine aB (?_);unfold vq;dsimp only[A3];refine aB (au (av rfl (aG (eL ⟨_,rfl,?_⟩))));refine eZ (λds δ m=>m=n/\∃(f:List Nt)(j:Nat)(b:List _)(J K:Option SV),ds=i9 j (f.map fo)/\δ=[ae _,ae _,ae _,ae _,ae _,ae (.odt b),J,K] /\
    (∀q∈f,lT q)/\b.length+f.length<=100/\(∀c,gm b c=ah->bX fs (c.map DL.vD) l=ai)/\Q (.d (gx ((aT fs l f).map (·+j)))) n) (λδ m I=>?_) (λd r' δ m N I kN=>?_) _ _ _ ⟨rfl,R,0,[],_,_,rfl,rfl,y.2,by have:=y.1;simpa using this,λm_ z=>(by cases z),?_⟩
   ·obtain⟨rfl,f,j,b,J,K,p,rfl,_,_,_,D⟩:=I;have:f=[]:=by
     cases f with
     |nil=>rfl
     |cons q f=>rw[Bk]at p;cases p
    subst this;exact(D)
   ·obtain⟨rfl,f,j,b,J,K,p,rfl,v,Y,V,D⟩:=I;cases f with
    |nil=>cases p
    |cons q f=>
     rw[Bk,JP]at p;obtain⟨rfl,rfl⟩:=Bp p;rw[Ax]at Y;have O:=v q An;obtain⟨c,M⟩:=yJ O.1.2;have A:∀i,i.length<=b.length+1->(∀c,gm i c=ah->bX fs _ l=ai)->bX fs q.1 l=ai->N [ae _,ae _,ae _,ae _,ae _,ae _,↑(.int j),↑(fo q)] m:=λkvs' a1 a2 Z=>by
      refine kN _ _ ⟨rfl,f,j+1,_,_,_,by rw[show((j+1:Nat):Int)=j+1 from rfl],rfl,λx hx=>v x (Ak _ hx),by omega,a2,?_⟩;rw[pB,a_ (by rw[Z];simp)]at D;have:((λx=>x+j) ∘ λx=>x+1)=λx=>x+(j+1):=funext λx=>by show x+1+j=x+(j+1);omega
      simp_all
     refine⟨rfl,?_⟩;dsimp only[bK,dt,A3];refine cG (show qD 5 _ _ _ _ from dN rfl ⟨c,b,by rw[M];rfl,rfl,?_⟩);show if _=ah then _ else _
     cases et:gm b c with
     |true=>
      exact A b ⋯ V (by simp_all)
     |false=>
      refine aB (cG (au (bS (cR rfl (dN rfl (av rfl ⟨fs,q.1,l,rfl,of,O.1,H.nms,aG (gD ?_)⟩))))));show if (!fY _)=ah then _ else _
      rw[Pj,Bool.not_not];cases W:bX fs q.1 l with
      |true=>
       rw[pB,b_ W,Option.map_some,Nat.zero_add]at D;exact bN (av rfl D)
      |false=>
       rw[a_ Ay];dsimp only[aN];refine aG ⟨b,rfl,dN rfl ⟨c,_,rfl,by rw[M];rfl,by omega,A _ N2 (λkey' z=>?_) W⟩⟩;rcases Mg z with rfl|z
       ·rw[<-M];omega
       ·exact V key' z
   ·have:(λx:Nat=>x+0)=id:=rfl;rw[this,Option.map_id];exact k
theorem nH{ps:Pg}{hs:List Hn}{ns:List Nt}{h:Nat}{a:Ac}(e:bx ps hs h=ae a):bE ps hs ns h=(!a.wt || (dy ps hs ns h).isSome):=by unfold bE;simp_all
theorem xO{a:Ac}(oa:jk a):∃s r,a.d=.tuple (.str s::r)/\cE (.str s) [.str "take",.str "read"]=a.wt:=by
 cases c:a.pf with
 |none=>
  obtain⟨f,s,r,e,_,b⟩:=y6 c;exact⟨s,r,e,by simp_all⟩
 |some g=>
  obtain⟨_,s,r,e,_,b⟩:=pz c oa;exact⟨s,_,e,b⟩
theorem Il(o:Option Nat):(!fY (gx o))=o.isSome:=by cases o<;>rfl
section
variable{δ:Sl}{n:Int}{Q:DQ}{w u:DT}{ds i j:List Ad}
theorem Q9(xs:List Ad){p:Nat}(hp:p<=xs.length):ef xs (ae (p:Int)) af=xs.drop p:=by
 unfold ef;rw[HT.sIx_nat,HT.sIx_none,Nat.min_eq_left hp];exact List.take_of_length_le (by simp)
theorem oX(k:w δ n λx n1=>match hO [x]with
  |some ds=>ds.length<=1000/\Q (.d (.tuple ds)) n1
  |none=>False):ax (ao w ak) δ n Q:=k
theorem rf{p:Nat}(hw:∀Q:DQ,Q (.d (.tuple ds)) n->w δ n Q)(hu:∀Q:DQ,Q (.d (.int p)) n->u δ n Q)(hp:p<=ds.length)(k:Q (.d (.tuple (ds.take p))) n):d3 w d7 (dJ u) δ n Q:=by
 refine hw _ (hu _ ?_);dsimp only;rw[ES _ hp];exact k
theorem p9{p:Nat}(hw:∀Q:DQ,Q (.d (.tuple ds)) n->w δ n Q)(hu:∀Q:DQ,Q (.d (.int p)) n->u δ n Q)(hp:p<=ds.length)(k:Q (.d (.tuple (ds.drop p))) n):d3 w (dJ u) d7 δ n Q:=by
 refine hw _ ?_;dsimp only[d7];refine hu _ ?_;dsimp only;rw[Q9 _ hp];exact k
theorem jI(h:i.length+j.length<=1000000)(k:Q (.d (.tuple (i++j))) n):eV (.d (.tuple i)) (.d (.tuple j)) n Q:=by
 cases i with
 |nil=>exact k
 |cons a r=>exact⟨.inl (λz=>nomatch z),A0 h ∎,k⟩
end
theorem Pe:b9 tV Sx ["thing"]:=λws n Q h=>by
 obtain⟨i,rfl,k⟩:=h;exact k
theorem SF:b9 rH KD ["thing","most"]:=λws n Q h=>by
 obtain⟨i,m,rfl,a,b,k⟩:=h;exact bN (JX (λQ q=>de (av rfl ⟨i,rfl,q⟩)) (JT (λQ q=>aG q) (λQ q=>av rfl q) (λQ q=>av rfl q) a (by rw[c_ b];exact k)))
theorem SE:b9 uI QF ["value"]:=λws n Q h=>by
 obtain⟨v,rfl,a,k⟩:=h;cases v with
 |str x=>exact k
 |int i=>
  have k:Q (.d (if i=99 then Ep 0 else Ep _)) n:=k;show if decide _=ah then Q _ n else Q _ n
  refine zD (λe=>?_) λe=>?_
  ·rw[b_ e]at k;exact k
  ·rw[a_ e]at k;exact k
 |_=>cases a
theorem JL:b9 mH HE ["field","having","value"]:=λws n Q h=>by
 obtain⟨f,g,rfl,⟨_,i,b⟩,k⟩:=h;cases f with
 |isv d=>exact k
 |as x=>
  obtain⟨v,e,c⟩:=b x rfl;have k:Q (.d ((look g x).getD .none)) n:=k;rw[e]at k;refine aB (dE rfl (by rfl) ?_);dsimp only[aN];refine aB ?_;show(match bA _ (.inr x)with|some d=>_|none=>False);rw[iw,e];exact k
 |nx x=>
  obtain⟨v,e,c⟩:=b x rfl;have k:Q (.d (jv ((look g x).getD .none))) n:=k;rw[e]at k;refine aB (dE rfl (by rfl) ?_);dsimp only[aN];refine aB ?_;show(match bA _ (.inr x)with|some d=>_|none=>False);rw[iw,e];exact⟨v,rfl,c,k⟩
 |_=>cases i
theorem O1{δ:Sl}{n:Int}{Q:Bool->Int->Prop}(q:Q ah n):bV δ n Q:=q
theorem vZ{α:Type}{w:DT}{Q:List Ad->Int->Prop}{aA:Sl}(f g:α->Ad)(xs:List α)(x:Option SV)(n:Int)(h:∀a∈xs,∀(n:Int) (Q':DQ),Q' (.d (g a)) n->w (↑(f a)::aA) n Q')(q:Q (xs.map g) n):c0 (aJ 0) bV w Q (xs.map f) [] (x::aA) n:=by
 refine jq f g _ xs [] x n (λa _ n Q' q=>O1 q) h ?_;rw[List.filter_eq_self.mpr λ_ _=>rfl];exact q
theorem NY{ds:List Ad}{n:Int}{Q:DQ}(k:Q (.d (.tuple ds)) n):eY [.d (.list ds)] n Q:=k
theorem Nc:b9 qv MR ["template","names","having"]:=λws n Q h=>by
 obtain⟨g,e,rfl,i,b,a,k⟩:=h;refine aB (oA rfl a ?_);dsimp only[A3];refine bN (aX (a7 (iF (λQ q=>av rfl q) ?_)));show c0 _ _ _ _ _ _ [af,ae _] n;exact vZ Fe.d _ g af n (λf c n j q=>b7 (av rfl (⟨f,e,rfl,b f c,q⟩))) (NY k)
theorem GQ:b9 lY NN ["place","names"]:=λws n Q h=>by
 obtain⟨x,a,rfl,k⟩:=h;exact bN (jg (dN rfl (au (cR rfl (aG (eC (av rfl (Al (show 3<=1000 by decide) k))))))))
theorem QB:b9 ni LK ["program","block","names","wanted"]:=λws n Q h=>by
 obtain⟨P,b,j,⟨w,e⟩,rfl,g,m,k⟩:=h;have a:(P.map f6)[b]?=ae (.tuple [e9 w,.tuple (e.map Ac.d)]):=by rw[Am,g];rfl
 have i:kh P b=w:=by unfold kh;simp_all
 unfold bY at k;rw[i]at k;refine aB (bz (λQ q=>au (au (av rfl (av rfl (bj a (aG (cY q))))))) ?_);dsimp only[A3];refine bN (jg (av rfl (aG (aX (a7 (iF (λQ q=>av rfl q) ?_))))));show c0 _ _ _ _ _ _ [af,ae _] n;refine jq i7 i7 (λp=>decide (p.1∈w)) j [] af n (λp _ n f q=>aF (λQ q=>au (dN rfl (av rfl ⟨rfl,nZ w,?_⟩))) q) (λp _ n f q=>av rfl q) ?_
 ·show Q _ n;rw[kB];exact q
 ·exact Al (show 3<=1000 by decide) k
theorem I3:b9 iU L4 ["hands","hand","place"]:=λws n Q h=>by
 obtain⟨c,h,x,rfl,e,f,k⟩:=h;have d:(aU c h x).map ck=((c.map ck).take h++[ck x])++(c.map ck).drop (h+1):=by
  unfold aU;simp
 rw[d]at k;have g:((c.map ck).take h).length<=5:=A0 (Gx _ _) (by rw[Ab];omega);have i:((c.map ck).drop (h+1)).length<=5:=by rw[E1,Ab];omega
 exact bN (au (au (rf (λQ q=>av rfl q) (λQ q=>av rfl q) (by rw[Ab];omega) (oX (av rfl (Al (show 1<=1000 by decide) (jI (by rw[Ba];omega) (p9 (p:=h+1) (λQ q=>av rfl q) (λQ q=>au (av rfl (aG (eC q)))) (by rw[Ab];omega) (jI (by rw[As,Ba];omega) k)))))))))
theorem P6:b9 tS GB ["note"]:=λws n Q h=>by
 obtain⟨⟨d,a⟩,rfl,e,k⟩:=h;rcases e with rfl|⟨i,rfl,_⟩
 ·exact bN (hU (λQ q=>aF (k:=ah) (λQ q=>au (cR rfl (aG (gD q)))) q) (by rw[b_ rfl];exact av rfl k))
 ·exact bN (hU (λQ q=>aF (k:=ai) (λQ q=>au (cR rfl (aG (gD q)))) q) (cC (dN rfl (au (cR rfl (aG (Al (show 2<=1000 by decide) k)))))))
theorem xD{a:Ad}{n:Int}{Q:DQ}(ha:gC a)(k:Q (.d (.bool (!fO a))) n):fk (.d a) (.d (.int 1)) n Q:=by
 rcases ha with rfl|⟨i,rfl,_⟩<;>exact k
theorem Ni:b9 vH Li ["stand"]:=λws n Q h=>by
 obtain⟨g,f,rfl,c,k⟩:=h;refine bN (cC (dN rfl (aX (a7 (iF (λQ q=>cR rfl q) ?_)))));show c0 _ _ _ _ _ _ [af] n;refine jq fo _ _ f [] af n (λq a n d b=>aF (λQ e=>au (cR rfl (aG (xD (c q a) e)))) b) (λq a n d b=>de (av rfl ⟨q,rfl,c q a,b⟩)) (Al (show 2<=1000 by decide) ?_);unfold bH e7 dA at k;rw[By]at k;exact k
theorem Ms:∀j:Fin 100,bO (.int ((j.val:Nat):Int))=ah:=by trivial
theorem gS{i:Int}(h0:0<=i)(h1:i<=99):bO (.int i)=ah:=by
 have:=Ms ⟨i.toNat,by omega⟩;rw[show((i.toNat:Nat):Int)=i by omega]at this;omega
theorem AY{i:Int}(h:bO (.int i)=ah):0<=i/\i<=99:=by
 simp only[bO,decide_eq_true_eq]at h;simp_all
theorem sq{v:Ad}(h:bO v=ah):bO (jv v)=ah:=by
 cases v with
 |str x=>exact h
 |int i=>
  obtain⟨c,d⟩:=AY h;show bO (if i=99 then .int 0 else .int _)=ah
  split
  ·exact gS ∎ ∎
  ·exact gS ⋯ ⋯
 |_=>cases h
theorem fE{nm:Nm}{f:Fe}(h:dF nm f):bO (eQ nm f)=ah:=by
 obtain⟨c,i,b⟩:=h;cases f with
 |isv d=>exact c
 |as k=>obtain⟨v,e,a⟩:=b k rfl;show bO ((look nm k).getD .none)=ah;rw[e];exact a
 |nx k=>obtain⟨v,e,a⟩:=b k rfl;show bO (jv ((look nm k).getD .none))=ah;rw[e];exact sq a
 |_=>cases i
theorem tq{a b:Ad}{n:Int}{Q:DQ}(ha:bO a=ah)(hb:bO b=ah)(k:Q (.d (.bool (fc a b))) n):bg (.d a) (.d b) n Q:=by
 unfold bg;simp only[lp ha hb];exact k
theorem HC:b9 vd L5 ["act","names","having"]:=λws n Q h=>by
 obtain⟨f,g,b,e,rfl,c,d,_,_,a,k⟩:=h;refine aB (oA rfl a ?_);dsimp only[A3];exact bN (au (b7 (cR rfl (⟨f,e,rfl,c,b7 (au (av rfl (aG (fB (⟨g,e,rfl,d,tq (fE c) (fE d) k⟩)))))⟩))))
theorem rl{fs:List Fd}{nm:Nm}{ns:List Nt}{i:Nat}(h:aT fs nm ns=ae i):∃q,ns[i]?=ae q/\bX fs q.1 nm=ah:=by
 unfold aT at h;rw[F6]at h;obtain⟨a,b,_⟩:=h;exact⟨_,Ah a,b⟩
theorem ya{fs:List Fd}{row:List Ad}{nm:Nm}(h:bX fs row nm=ah):c9 fs row nm=cI (bM (eB fs row nm)):=by unfold c9;rw[b_ h]
theorem lX{ps:Pg}{hs:List Hn}{ns:List Nt}{h:Nat}{P:List Bl}{xb xp:Nat}{nm:Nm}{w:List Str}{as:List Ac}(H:HandAt ps hs h P xb xp nm w as){a:Ac}(e:bx ps hs h=ae a):du ps hs ns h=(l5 P (xb,xp,nm) ns a).map λr=>(aU hs h r.1,r.2):=by
 unfold du;rw[H.prog,H.hand,e];rfl
theorem ie{fs:List Fe}{x:Hn}{ns:List Nt}(e:aT (fs.map Fe.fd) x.2.2 ns=af):bh fs x ns=af:=by unfold bh;rw[e];rfl
theorem ik{fs:List Fe}{x:Hn}{ns:List Nt}{i:Nat}(e:aT (fs.map Fe.fd) x.2.2 ns=ae i):bh fs x ns=ae (i,dZ x (bM (eB (fs.map Fe.fd) (cm ns i) x.2.2))):=by unfold bh;rw[e];rfl
theorem IU{s h:Str}{n:Int}{Q:DQ}(k:Q (.d (.bool (!cP h (.str s)))) n):fk (.d (.str s)) (.d (.str h)) n Q:=k
theorem ye(ns:List Nt)(i:Nat):(cq ns i).map fo=(ns.map fo).take i++(ns.map fo).drop (i+1):=by unfold cq;simp
section
variable{ps:Pg}{hs:List Hn}{ns:List Nt}{h:Nat}{P:List Bl}{xb xp:Nat}{nm:Nm}{w:List Str}{as:List Ac}{n:Int}{Q:DQ}
theorem uE{δ:Sl}{w2':DT}{x:Hn}{i1 i2 i5:Nat}{ns':List Nt}(e1:δ[i1]?=ae (↑(bH hs ns)))(e2:δ[i2]?=ae (↑(.int h)))(e5:δ[i5]?=ae (↑(e7 ns')))(hx:∀Q:DQ,Q (.d (ck x)) n->w2' δ n Q)(hh:h < hs.length)(hl:hs.length<=5)(k:Q (.d (bH (aU hs h x) ns')) n):
  ax (ao (aD iU (ao (w2 (aj i1) ⇑0 aw) (ao (aj i2) (ao w2' ak)))) (ao (aj i5) ak)) δ n Q:=
 cC (bS (dN e1 (av e2 (hx _ ⟨hs,h,x,rfl,hh,hl,av e5 (Al (show 2<=1000 by decide) k)⟩))))
theorem vM{a:Ac}{s:Str}{gs:List Fe}{r:List Ad}(H:HandAt ps hs h P xb xp nm w as)(k_:cw ps)(o_:okHs ps hs)(p_:c8 100 ns)(hh:h < ps.length)(ea:bx ps hs h=ae a)(ed:a.d=.tuple (.str s::cD gs::r))(hpf:a.pf=ae (gs.map Fe.fd))(hof:dH gs)(hpat:fW gs)
  (kN:aT (gs.map Fe.fd) nm ns=af->aq (aM (cT (w2 (w2 ↥3 ⇑0 aw) (wC (.str "look")) fk)) (az (wC .none)) aN) (az (ax (ao (aD iU (ao (w2 ↥1 ⇑0 aw) (ao ↥2 (ao (aD ni (ao (w2 ↥0 ↥2 aw) (ao (w2 ↥3 ⇑2 aw) (ao (w2 ↥4 ⇑2 aw) ak)))) ak)))) (ao ↥5 ak))))
   [↑(cH ps),↑(bH hs ns),↑(.int h),↑(.tuple (.str s::cD gs::r)),↑(ck (xb,xp,nm)),↑(e7 ns),ae (.w (.d .none)),af] n {nx:=λ_ _=>True,rt:=Q})
  (kS:∀i ns',aT (gs.map Fe.fd) nm ns=ae i->ns'=(if cP "take" (.str s)=ah then cq ns i else ns)->Q (.d (bH (aU hs h (dZ (xb,xp,nm) (bM (eB (gs.map Fe.fd) (cm ns i) nm)))) ns')) n):
  w8 [↑(cH ps),↑(bH hs ns),↑(.int h),↑a.d,af,af,af,af] n {nx:=λ_ n=>Q (.d .none) n,rt:=Q}:=by
 rw[ed];obtain⟨v,o⟩:=nJ hof hpat;have m:h < hs.length:=by rw[o_.1];omega
 have l:hs.length<=5:=by rw[o_.1];exact k_.1
 refine aB (bz (λQ q=>au (au (av rfl (aG (cY (av rfl (bj H.hD q))))))) ?_);dsimp only[A3];refine aB (bz (λQ q=>cR rfl q) ?_);dsimp only[A3];have C:dy ps hs ns h=aT (gs.map Fe.fd) nm ns:=by
  unfold dy;rw[H.nmq];simp_all
 refine aB (bz (x:=gx (aT (gs.map Fe.fd) nm ns)) (λQ q=>bS (av rfl (av rfl (av rfl ⟨ps,hs,ns,h,rfl,⟨k_,o_,p_⟩,hh,by simp_all⟩)))) ?_);dsimp only[A3];cases j:aT _ nm ns with
 |none=>exact aB (bP (λQ q=>aF (λQ q=>au (av rfl (aG (gD q)))) q) (kN j))
 |some i=>
  obtain⟨⟨b,k⟩,g,A⟩:=rl j;have B:=(Ap.mp g).1;have f:(ns.map fo)[i]?=ae (.tuple [.tuple b,k]):=by rw[Am,g];rfl
  have y:cm ns i=b:=by unfold cm;simp_all
  refine aB (bq (λQ q=>aF (λQ q=>au (av rfl (aG (gD q)))) q) ?_);dsimp only[aN];refine aB (bz (x:=cI (bM (eB (gs.map Fe.fd) (cm ns i) nm))) (λQ q=>?_) ?_)
  ·refine bS (cR rfl (au (au (av rfl (av rfl (bj f (aG (cY (au (av rfl (aG (fB ⟨_,b,nm,by rw[v],o,(p_.2 _ (Az g)).1,H.nms,?_⟩))))))))))));rw[ya A];rw[y]at q;exact q
  dsimp only[A3];have e:∀ns',ns'=(if cP "take" _=ah then cq ns i else ns)->az (ax (ao (aD iU (ao (w2 ↥1 _ aw) (ao ↥2 (ao (aD lY (ao ↥4 (ao ↥7 ak))) ak)))) (ao ↥5 ak)))
    [↑(cH ps),↑(bH hs ns),ae _,↑(.tuple (.str s::cD gs::r)),ae _,ae _,↑(.int i),ae _] n {nx:=λ_ n=>Q (.d .none) n,rt:=Q}:=λns' u=>
   bN (uE rfl rfl rfl (λQ q=>b7 (av rfl (av rfl ⟨_,_,rfl,q⟩))) m l (kS i ns' j u))
  refine aB (qg rfl (λz=>?_) λz=>?_)
  ·refine bz (x:=e7 (cq ns i)) (λQ q=>au (rf (λQ q=>av rfl q) (λQ q=>av rfl q) (by rw[Ab];omega) (p9 (p:=i+1) (λQ q=>av rfl q) (λQ q=>au (av rfl (aG (eC q)))) (by rw[Ab];omega) (jI ?_ ?_)))) ?_
   ·have:=p_.1;rw[List.length_take,E1,Ab];omega
   ·unfold e7 at q;rw[ye]at q;exact q
   ·dsimp only[A3];exact e _ (by rw[b_ z])
  ·dsimp only[aN];exact e ns (by rw[a_ (by rw[z];simp)])
end
theorem Kl:b9 l7 w8 ["programs","stand","hand","act","place","notes","number","names"]:=λws n Q h=>by
 obtain⟨R,s,m,h,a,rfl,⟨j,l,u⟩,B,v,C,k⟩:=h;obtain⟨P,W,M,D,w,T,H⟩:=gq l B;have x:=H.ok j v;rw[lX H v]at k;have F:h < s.length:=by rw[l.1];omega
 have E:s.length<=5:=by rw[l.1];exact j.1
 cases a with
 |lay U N=>cases C
 |same f g b=>cases C
 |go b=>cases C
 |take t=>
  refine vM H j l u B v rfl rfl x.1 x.2 (λe=>?_) λi z e p=>?_
  ·have k:Q (.d (il (((bh t _ m).map λq=>(q.2,cq m q.1)).map λr=>(aU s h r.1,r.2)))) n:=k;rw[ie e]at k;assumption
  ·rw[b_ (by rfl)]at p;rw[p];have k:Q (.d (il (((bh t _ m).map λq=>(q.2,cq m q.1)).map λr=>(aU s h r.1,r.2)))) n:=k;rw[ik e]at k;exact k
 |read t=>
  refine vM H j l u B v rfl rfl x.1 x.2 (λe=>?_) λi z e p=>?_
  ·have k:Q (.d (il (((bh t _ m).map λq=>(q.2,m)).map λr=>(aU s h r.1,r.2)))) n:=k;rw[ie e]at k;assumption
  ·rw[a_ ∅]at p;rw[p];have k:Q (.d (il (((bh t _ m).map λq=>(q.2,m)).map λr=>(aU s h r.1,r.2)))) n:=k;rw[ik e]at k;exact k
 |look t b=>
  refine vM H j l u B v rfl rfl x.1 x.2 (λe=>?_) λi z e p=>?_
  ·have k:Q (.d (il ((match bh t _ m with|some q=>ae _|none=>ae (bY P b D,m):Option _).map λr=>(aU s h r.1,r.2)))) n:=k;rw[ie e]at k;rw[H.act]at v;obtain⟨S,A,_⟩:=(((j.2 P (Az H.prog)).2.2 _ (Az H.blk)).2 M _ v).2 b rfl;rw[Am]at A;obtain⟨I,y,_⟩:=E6.mp A;refine aB (bq (λQ q=>aF (λQ q=>au (dN rfl (aG (IU (by assumption))))) q) ?_);dsimp only[aN];refine bN (uE rfl rfl rfl (λQ q=>bS (au (av rfl (av rfl (bj H.pD ?_))))) F E k);exact au (av rfl (aG (fB (au (av rfl (aG (fB ⟨P,b,D,I,rfl,y,(((j.2 P (Az H.prog)).2.2 I (Az y)).1).1,q⟩)))))))
  ·rw[a_ ∅]at p;rw[p];have k:Q (.d (il ((match bh t _ m with|some q=>ae _|none=>ae (bY P b D,m):Option _).map λr=>(aU s h r.1,r.2)))) n:=k;rw[ik e]at k;exact k
theorem uZ{δ:Sl}{n:Int}{Q:DQ}{w w' w'' v:DT}{S:aP}(k:w δ n λx n1=>w' δ n1 λy n2=>w'' δ n2 λz n3=>v δ n3 λu n4=>S [x,y,z,u] n4 Q):aD S (ao w (ao w' (ao w'' (ao v ak)))) δ n Q:=k
theorem Lf{nm:Nm}{k:Str}(h:k∈nm.map (·.1)):∃v,look nm k=ae v:=by
 obtain⟨p,a,e⟩:=A7.mp h;have:(nm.any λp=>decide (p.1=k))=ah:=D5.mpr ⟨p,a,c_ e⟩;rw[qh]at this;exact D4.mp this
theorem FR{f:Fe}(h:f.tm=ah):f.bd=af:=by cases f<;>first|rfl|cases h
theorem rg{f:Fe}(h:f.te=ah):f.tm=ah:=by cases f<;>first|rfl|cases h
theorem vT:∀{fs:List Fe}{ks:List Str},rF ks fs->(∀f∈fs,f.tm=ah)->∀f∈fs,∀k,f.us=ae k->k∈ks
 |[],_,_,_,f,a,_,_=>by simp_all
 |g::r,ks,h,c,f,a,k,d=>by
  rcases Ar.mp a with rfl|a
  ·exact h.1 k d
  ·have b:=h.2;rw[FR (c g An)]at b;have:=vT b (λx e=>c x (Ak _ e)) f a k d;simp_all
section
variable{ps:Pg}{hs:List Hn}{ns:List Nt}{h:Nat}{P:List Bl}{xb xp:Nat}{nm:Nm}{w:List Str}{as:List Ac}{n:Int}{Q:DQ}
theorem HandAt.okb(H:HandAt ps hs h P xb xp nm w as)(k_:cw ps):j2 (w,as)/\jL (P.map (·.1)) (w,as):=(k_.2 P (Az H.prog)).2.2 _ (Az H.blk)
theorem HandAt.right(H:HandAt ps hs h P xb xp nm w as)(k_:cw ps){a:Ac}(e:bx ps hs h=ae a):a.right (P.map (·.1)) (kn w as xp):=by
 rw[H.act]at e;exact(H.okb k_).2 xp a e
theorem HandAt.fv(H:HandAt ps hs h P xb xp nm w as){f:Fe}(ok:f.ok)(tm:f.tm=ah)(us:∀k,f.us=ae k->k∈kn w as xp):dF nm f:=⟨ok,tm,λk a=>by
 obtain⟨v,e⟩:=Lf ((H.hn.mem k).mpr (us k a));exact⟨v,e,(H.hn.ok _ (j9 e)).2⟩⟩
theorem HandAt.lay(H:HandAt ps hs h P xb xp nm w as)(k_:cw ps){fs:List Fe}{age:Ad}(e:bx ps hs h=ae (.lay fs age)):fs.length<=4/\∀f∈fs,dF nm f:=by
 have a:=H.ok k_ e;exact⟨a.1.1,λf b=>H.fv (a.1.2 f b) (a.2.1 f b) (vT ((H.right k_ e).1) a.2.1 f b)⟩
theorem HandAt.same(H:HandAt ps hs h P xb xp nm w as)(k_:cw ps){f g:Fe}{b:Nat}(e:bx ps hs h=ae (.same f g b)):dF nm f/\dF nm g/\f.te=ah/\g.te=ah:=by
 have a:=H.ok k_ e;have r:=vT (H.right k_ e).1 (λx c=>by
  simp only[Ac.fs,Ar,A8,h_]at c;rcases c with rfl|rfl
  ·exact rg a.2.1
  ·exact rg a.2.2)
 exact⟨H.fv (a.1.2 f (by simp[Ac.fs])) (rg a.2.1) (r f (by simp[Ac.fs])),H.fv (a.1.2 g (by simp[Ac.fs])) (rg a.2.2) (r g (by simp[Ac.fs])),a.2.1,a.2.2⟩
theorem HandAt.to(H:HandAt ps hs h P xb xp nm w as)(k_:cw ps){a:Ac}{b:Nat}(e:bx ps hs h=ae a)(hb:a.to=ae b):∃bl:Bl,P[b]?=ae bl/\j2 bl/\∀k∈bl.1,k∈nm.map (·.1):=by
 obtain⟨g,c,f⟩:=(H.right k_ e).2 b hb;rw[Am]at c;obtain⟨bl,d,rfl⟩:=E6.mp c;exact⟨bl,d,((k_.2 P (Az H.prog)).2.2 bl (Az d)).1,λk z=>(H.hn.mem k).mpr (f k z)⟩
end
theorem QK{a b:Ad}{n:Int}{Q:DQ}{δ:Sl}{i:Nat}(e:δ[i]?=ae (↑(.tuple [a,b])))(k:Q (.d b) n):w2 (aj i) (iX (wC (.int 1))) aw δ n Q:=au (av e k)
theorem PU{a b c d:Ad}{n:Int}{Q:DQ}{δ:Sl}{i:Nat}(e:δ[i]?=ae (↑(.tuple [a,b,c,d])))(k:Q (.d d) n):w2 (aj i) (iX (wC (.int 1))) aw δ n Q:=au (av e k)
theorem Rk:b9 tI MP ["programs","stand","hand","act","place","notes","names"]:=λws n Q h=>by
 obtain⟨B,u,y,h,rfl,⟨c,i,E⟩,M,k⟩:=h;obtain⟨P,Z,T,j,w,as,H⟩:=gq i M;have N:h < u.length:=by rw[i.1];omega
 have L:u.length<=5:=by rw[i.1];exact c.1
 refine aB (bz (λQ q=>sC rfl rfl rfl i M q) ?_);dsimp only[A3];cases m:bx B u h with
 |none=>
  unfold du at k;rw[H.prog,H.hand,m]at k;assumption
 |some a=>
  show aq _ _ [ae _,ae _,ae _,↑a.d,af,af,af] n _;cases G:a.pf with
  |some v=>
   obtain⟨of,s,r,e,K,_⟩:=pz G (H.ok c m);have S:Q (.d (il (du B u y h))) n->aD l7 (ao ↥0 (ao ↥1 (ao ↥2 (ao ↥3 ak)))) [ae _,ae _,ae _,ae _,af,af,af] n Q:=λk=>
    uZ (av rfl (av rfl (av rfl (av rfl ⟨B,u,y,h,a,rfl,⟨c,i,E⟩,M,m,by simp_all⟩))))
   rw[e]at S ⊢;refine aB (bq (λQ q=>aF (λQ q=>au (av rfl (aG (gD q)))) q) ?_);dsimp only[aN];exact aB (bP (λQ q=>wX (λQ q=>dN rfl q) K q) (bN (S k)))
  |none=>
   rw[lX H m]at k;have t:∀(V:aE) s r,a.d=.tuple (.str s::r)->cE _ [.str "take",.str "read",.str "look"]=ai->
     V [ae _,ae _,ae _,↑a.d,ae _,ae _,ae _] n {nx:=λ_ n=>Q _ n,rt:=Q}->
     aq (aM (cT (w2 ↥3 _ (bF ai))) (az (wC .none)) aN) (aq (aM (cT (gy Zf (w2 ↥3 _ aw))) (az (aD l7 (ao ↥0 (ao ↥1 (ao ↥2 (ao ↥3 ak)))))) aN) (aq (ay 4 (w2 (w2 ↥1 _ aw) ↥2 aw)) (aq (ay 5 (w2 ↥1 ⇑1 aw)) (aq (ay 6 (w2 ↥4 ⇑2 aw)) V))))
      [↑(cH B),↑(bH u y),ae _,↑a.d,af,af,af] n {nx:=λ_ n=>Q (.d .none) n,rt:=Q}:=λV s r e K kk=>by
    rw[e]at kk ⊢;refine aB (bq (λQ q=>aF (λQ q=>au (av rfl (aG (gD q)))) q) ?_);dsimp only[aN];refine aB (bq (λQ q=>wX (λQ q=>dN rfl q) K q) ?_);dsimp only[aN];refine aB (bz (λQ q=>au (au (av rfl (aG (cY (av rfl (bj H.hD q))))))) ?_);assumption
   have l:∀x C d,Q _ n->az (ax (ao (aD iU (ao (w2 ↥1 _ aw) (ao ↥2 (ao ↥4 ak)))) (ao ↥5 ak))) [↑(cH B),↑(bH u y),ae _,↑d,↑(ck x),↑(e7 C),↑(cI j)] n {nx:=λ_ n=>Q (.d .none) n,rt:=Q}:=λx C d q=>
    bN (uE rfl rfl rfl (λQ q=>av rfl q) N L q)
   cases a with
   |take v=>cases G
   |read v=>cases G
   |look v b=>cases G
   |lay v D=>
    obtain⟨I,O⟩:=H.lay c m;refine t _ "lay" [cD v,D] rfl (by rfl) (aB (jZ rfl (by rfl) (aB ?_)));refine bz (x:=e7 (y++[(fV v j,D)])) (λQ q=>?_) ?_
    ·refine au (av rfl (oX (cC (b7 (cR rfl (av rfl ⟨v,j,rfl,I,O,H.nms,au (av rfl (aG (fB (Al (show 2<=1000 by decide) (Al (show 1<=1000 by decide) (jI (by rw[Ab,Ba];have:=E.1;omega) ?_))))))⟩))))));unfold e7 at q;rw[Bb]at q;exact q
    ·dsimp only[A3];exact bz (λQ q=>b7 (av rfl (av rfl ⟨(Z,T,j),j,rfl,q⟩))) (l _ _ _ k)
   |same f g b=>
    obtain⟨hf,hg,tf,tg⟩:=H.same c m;obtain⟨J,o,p,_⟩:=H.to c m rfl;refine t _ "same" [f.d,g.d,.int b] rfl (by rfl) (aB (dE rfl (by rfl) (cG (qH (λQ q=>eR rfl ?_) ?_))))
    ·rw[show cP "same" _=ah by rfl];exact q
    refine(b7 (av rfl (av rfl ⟨f,g,b,j,rfl,hf,hg,tf,tg,H.nms,?_⟩)));have k:Q (.d (bH _ y)) n:=k;refine ml (λz=>?_) λz=>?_
    ·rw[b_ z]at k;exact bz (λQ q=>b7 (av rfl (av rfl ⟨(Z,T,j),j,rfl,q⟩))) (l _ _ _ k)
    ·rw[a_ (by rw[z];simp)]at k;exact bz (λQ q=>bS (au (av rfl (av rfl (bj H.pD (PU rfl (av rfl ⟨P,b,j,J,rfl,o,p.1,q⟩))))))) (l _ _ _ k)
   |go b=>
    obtain⟨J,o,p,_⟩:=H.to c m rfl;refine t _ "go" [.int b] rfl (by rfl) (aB (dE rfl (by rfl) (bq (λQ q=>qj (λQ q=>eR rfl ?_) q) ?_)))
    ·rw[show cP "same" _=ai by rfl];exact q
    exact bz (λQ q=>bS (au (av rfl (av rfl (bj H.pD (QK rfl (av rfl ⟨P,b,j,J,rfl,o,p.1,q⟩))))))) (l _ _ _ k)
theorem NW{a b n:Int}{Q:DQ}(k:Q (.d (.bool (decide (a=b)))) n):bg (.d (.int a)) (.d (.int b)) n Q:=k
theorem Q2:b9 di J0 ["programs","stand","mover","clock"]:=λws n Q h=>by
 obtain⟨d,a,b,m,rfl,c,g,k⟩:=h;refine aB (bz (λQ q=>aX (av rfl (show Q _ n by rw[Ab];exact q))) ?_);dsimp only[A3];refine aB (bq (λQ q=>lR (λQ q=>aF (λQ q=>b7 (av rfl (av rfl ⟨_,_,rfl,by omega,by omega,q⟩))) q) q) ?_);dsimp only[aN];unfold bB at k;refine bN (hU (λQ q=>aF (λQ q=>au (av rfl (av rfl (NW q)))) q) ?_);by_cases e:m=d.length
 ·rw[b_ e]at k;rw[b_ (c_ ⋯)];exact de (av rfl ⟨a,b,rfl,λq f=>(c.2.2.2 q f).2,k⟩)
 ·rw[a_ e]at k;rw[a_ (by rw[d_ ⋯];simp)];exact bS (av rfl (av rfl (av rfl ⟨d,a,b,m,rfl,c,by omega,k⟩)))
theorem Sw{δ:Sl}{n:Int}{Q:DQ}{i:Nat}{x:Wv}(e:δ[i]?=ae (ae (.w x)))(k:Q x n):cU i δ n Q:=by unfold cU;simp_all
theorem yE{δ:Sl}{n:Int}{Q:DQ}{j:Nat}{ps:Nm}(e:δ[j]?=ae (↑(cI ps)))(ok:okN ps)(k:Q (.dk (bQ ps)) n):ke (aj j) δ n Q:=by
 unfold ke ko je;refine av e ?_;unfold cI;simp only[r8];refine⟨by rw[Ab];have:=ok.1;omega,?_⟩;have:=tY ps [] (ok.2.1);rw[show([]:List _)=bQ []from rfl,this];exact k
theorem Qu{i:Int}(h:bO (.int i)=ah):jv (.int i)=.int ((i+1) % 100):=by
 obtain⟨a,b⟩:=AY h;show(if i=99 then Ep 0 else Ep _)=_
 split
 ·rename_i e;subst e;rfl
 ·rw[Int.emod_eq_of_lt ⋯ ⋯]
theorem xP:∀{xs ys:List Str},xs.Nodup->ys.Nodup->(∀k,k∈xs↔k∈ys)->hX xs->hX ys->xs=ys
 |[],[],_,_,_,_,_=>rfl
 |[],y::ys,_,_,h,_,_=>by have:=(h y).mpr An;simp at this
 |x::xs,[],_,_,h,_,_=>by have:=(h x).mp An;simp at this
 |x::xs,y::ys,g,f,h,r,o=>by
  obtain⟨s,j⟩:=Dw.mp g;obtain⟨p,d⟩:=Dw.mp f;obtain⟨b,m⟩:=List.pairwise_cons.mp r;obtain⟨i,c⟩:=List.pairwise_cons.mp o;have e:x=y:=by
   rcases Ar.mp ((h x).mp An)with e|l
   ·exact e
   ·rcases Ar.mp ((h y).mpr An)with e|n
    ·exact e.symm
    ·exact yH _ _ (i x l) (b y n)
  subst e;rw[xP j d (λk=>⟨λhk=>?_,λhk=>?_⟩) m c]
  ·rcases Ar.mp ((h k).mp (Ak _ hk))with e|q
   ·exact g_ (e▸hk) s
   ·exact q
  ·rcases Ar.mp ((h k).mpr (Ak _ hk))with e|q
   ·exact g_ (e▸hk) p
   ·exact q
theorem OF{nm:Nm}{w:List Str}(nd:(nm.map (·.1)).Nodup)(up:iL nm)(wn:w.Nodup)(wu:hX w)(sub:∀k∈w,k∈nm.map (·.1)):nm.filter (λp=>decide (p.1∈w))=w.map λk=>(k,gJ nm k):=by
 have d:(nm.filter λp=>decide (p.1∈w)).map (·.1)=w:=by
  refine xP ?_ wn (λk=>⟨λhk=>?_,λhk=>?_⟩) ?_ wu
  ·exact List.Nodup.sublist (List.Sublist.map _ G2) nd
  ·obtain⟨p,a,rfl⟩:=A7.mp hk;simp_all
  ·obtain⟨p,a,rfl⟩:=A7.mp (sub k hk);exact A7.mpr ⟨p,Dx.mpr ⟨a,c_ hk⟩,rfl⟩
  ·unfold hX;rw[Fh];exact List.Pairwise.sublist G2 up
 have c:=by
  have:(nm.filter λp=>decide (p.1∈w)).map id=(nm.filter λp=>decide (p.1∈w)).map λp=>(p.1,gJ nm p.1):=by
   refine Du λp a=>?_;have:=uP nd (Dx.mp a).1;unfold gJ;simp_all
  rw[List.map_id]at this;omega
 rw[c]
 conv=>rhs;rw[<-d]
 rw[By];rfl
theorem Lz{fs:List Fd}{row:List Ad}{nm:Nm}(nd:(nm.map (·.1)).Nodup)(h:bX fs row nm=ah):((eB fs row nm).map (·.1)).Nodup/\(wk (fs.zip row) nm []=ae (eB fs row nm)):=by
 unfold bX at h;rw[Bi]at h;unfold eB;obtain⟨x,a⟩:=D4.mp h.2;rw[a];exact⟨jl _ _ _ _ nd a,rfl⟩
theorem qE:∀(l:List (Fd×Ad))(h:Nm)(hs:List Str)(k:Nm),(∀p∈l,p.1.ok/\bO p.2=ah)->(∀p∈h,d6 p)->wk l h hs=ae k->(∀p∈k,d6 p)/\k.length<=h.length+l.length
 |[],h,hs,k,_,b,e=>by cases e;exact⟨b,Bc _⟩
 | (f,v)::r,h,hs,k,i,b,e=>by
  have g:=λp n=>i p (Ak _ n);have a:wk r h hs=ae k->(∀p∈k,d6 p)/\k.length<=h.length+((f,v)::r).length:=λe=>by
   have:=qE r h hs k g b e;exact⟨this.1,by rw[Ax];omega⟩
  cases f with
  |is w=>unfold wk at e;split at e;exact a e;cases e
  |any=>unfold wk at e;exact a e
  |word=>unfold wk at e;split at e;exact a e;cases e
  |number=>unfold wk at e;split at e;exact a e;cases e
  |as x=>
   unfold wk at e
   split at e
   ·split at e
    ·exact a e
    ·cases e
   ·cases e
  |bind x=>
   unfold wk at e
   split at e
   ·split at e
    ·split at e
     ·exact a e
     ·cases e
    ·cases e
   ·have d:=i _ An;have:=qE r (put h x v) _ k g (me b d.1 d.2) e;have:=qY h x v;exact⟨by have:=qE r _ _ k g (me b d.1 d.2) e;exact this.1,by rw[Ax];omega⟩
theorem Py{fs:List Fd}{row:List Ad}(of:qJ fs)(or:vX row):∀p∈fs.zip row,p.1.ok/\bO p.2=ah:=λp a=>⟨of.2.2 _ (F2 a).1,or.2 _ (F2 a).2⟩
def Sm(k w:Nat)(d:Ad):Prop:=Cn d=ah/\D2 d<=k/\Gm d<=w/\PyData.intsShort 13 d=ah/\PyData.showable d=ah
theorem Sm.small{k w:Nat}{d:Ad}(h:Sm k w d)(hk:k<=20)(hw:w<=2 ^ 20):Small d:=⟨h.1,by have:=h.2.1;omega,by have:=h.2.2.1;omega,h.2.2.2⟩
theorem y4{k w:Nat}:∀ds:List Ad,(∀d∈ds,Sm k w d)->Cq ds=ah/\F0 ds<=k/\PyData.weightAll ds<=(w+1)*ds.length/\PyData.intsShortAll 13 ds=ah/\PyData.showableAll ds=ah
 |[],_=>⟨rfl,Be _,Be _,rfl,rfl⟩
 |d::r,h=>by
  obtain⟨a,j,l,e,b⟩:=y4 r λx i=>h x (Ak _ i);obtain⟨f,m,n,c,g⟩:=h d An;refine⟨?_,?_,?_,?_,?_⟩
  ·rw[Cq,a,f];rfl
  ·rw[F0];omega
  ·rw[PyData.weightAll,Ax,Nat.mul_succ];omega
  ·rw[PyData.intsShortAll,e,c];rfl
  ·rw[PyData.showableAll,b,g];rfl
theorem la{k w m:Nat}{ds:List Ad}(h:∀d∈ds,Sm k w d)(hl:ds.length<=m):Sm (k+1) ((w+1)*m) (.tuple ds):=by
 obtain⟨a,b,e,f,c⟩:=y4 ds h;have:=Nat.mul_le_mul_left (w+1) hl;refine⟨by exact a,by rw[D2];omega,by rw[Gm];omega,by trivial⟩
theorem Sm.up{k w k' w':Nat}{d:Ad}(h:Sm k w d)(hk:k<=k')(hw:w<=w'):Sm k' w' d:=⟨h.1,A0 h.2.1 hk,A0 h.2.2.1 hw,h.2.2.2⟩
theorem mC{d:Ad}(h:bO d=ah):Sm 0 20 d:=by
 cases d with
 |str x=>
  have h:(decide _&&(Ed x&&decide _))=ah:=h;rw[Bi,Bi]at h;have c:x.cps.size<=8:=e_ h.1;refine⟨?_,Bc _,?_,by trivial⟩
  ·rw[Cn];exact h.2.1
  ·rw[Gm];omega
 |int i=>
  simp only[bO,Bi,decide_eq_true_eq]at h;exact⟨by rw[Cn],Bc _,h.2.2.1,h.2.2.2.1,h.2.2.2.2⟩
 |_=>cases h
theorem JG{x:Str}(h:okX x):Sm 0 20 (.str x):=by
 have a:x.cps.size<=4:=h.1;refine⟨?_,Bc _,?_,by trivial⟩
 ·rw[Cn];simp_all
 ·rw[Gm];omega
theorem uA{a b:Ad}{k w:Nat}(ha:Sm k w a)(hb:Sm k w b):Sm (k+1) ((w+1)*2) (.tuple [a,b]):=la (λd c=>by
 simp only[Ar,A8,h_]at c;rcases c with rfl|rfl
 ·exact ha
 ·exact hb) (Bc _)
theorem JE{nm:Nm}(h:∀p∈nm,d6 p)(hl:nm.length<=40):Sm 2 1720 (cI nm):=(la (λd b=>by
 obtain⟨p,a,rfl⟩:=A7.mp b;exact uA (JG (h p a).1) (mC (h p a).2)) (by rw[Ab];omega)).up (Bc _) ∎
theorem Nj{d:Ad}(h:gC d):Sm 0 20 d:=by
 rcases h with rfl|⟨i,rfl,b,a⟩
 ·exact⟨rfl,Bc _,by trivial⟩
 ·exact mC (gS ⋯ ⋯)
theorem Ii{h:Hn}(h1:h.1<=99)(h2:h.2.1<=99)(ho:∀p∈h.2.2,d6 p)(hl:h.2.2.length<=40):Sm 3 5163 (ck h):=la (w:=1720) (λd a=>by
 simp only[Ar,A8,h_]at a;rcases a with rfl|rfl|rfl
 ·exact(mC (gS ⋯ ⋯)).up ∎ ∎
 ·exact(mC (gS ⋯ ⋯)).up ∎ ∎
 ·exact JE ho hl) (Bc _)
theorem MN{q:Nt}(h:lT q):Sm 2 170 (fo q):=uA ((la (λd a=>mC (h.1.2 d a)) h.1.1.1)) ((Nj h.2).up ∎ ∎)
theorem Rw{ps:Pg}{hs:List Hn}{ns:List Nt}(k_:cw ps)(o_:okHs ps hs)(p_:c8 101 ns):Small (bH hs ns):=by
 exact(uA (la (λd e=>by
  obtain⟨h,o,rfl⟩:=A7.mp e;obtain⟨i,f⟩:=Bz.mp o;have m:=(Ap.mp f).1;have a:i < ps.length:=by rw[<-o_.1];omega
  have l:=Ah a;obtain⟨r,b,j,g,c⟩:=o_.2 i _ l;rw[f]at j;cases j;have k:=k_.2 _ (Az l);have p:=(Ap.mp g).1;have:=c.pl;have:=((k.2.2 b (Az g)).1).2.2.1;have:=k.2.1;exact Ii ⋯ ⋯ c.ok c.ln) (by rw[Ab,o_.1];exact k_.1)) ((la (λd e=>by
  obtain⟨q,n,rfl⟩:=A7.mp e;exact MN (p_.2 q n)) (by rw[Ab];exact p_.1)).up ∎ ∎)).small ∎ ∎
theorem Lm{hs:List Hn}{h:Nat}{x:Hn}(hh:h < hs.length):aU hs h x=hs.set h x:=by
 rw[List.set_eq_take_append_cons_drop,b_ hh];rfl
theorem okHs.put{ps:Pg}{hs:List Hn}{h:Nat}{x:Hn}{P:List Bl}{b:Bl}(ok:okHs ps hs)(hP:ps[h]?=ae P)(hb:P[x.1]?=ae b)(hx:okHn b x):okHs ps (aU hs h x):=by
 have c:h < hs.length:=by rw[ok.1];exact(Ap.mp hP).1
 rw[Lm c];refine⟨by rw[Cu];exact ok.1,λi f a=>?_⟩;by_cases e:h=i
 ·subst e;rw[hP]at a;cases a;exact⟨x,b,Dq c,hb,hx⟩
 ·obtain⟨d,g,l,k,j⟩:=ok.2 i f a;exact⟨d,g,by rw[Bg e];trivial⟩
theorem xG{w:List Str}{as:List Ac}{p:Nat}{a:Ac}(h:as[p]?=ae a):kn w as (p+1)=kn w as p++a.bs:=by
 unfold kn;rw[List.take_add_one,h,A6];simp
theorem rZ:∀(l:List (Fd×Ad))(h:Nm)(hs:List Str)(k:Nm),(∀x∈hs,x∈h.map (·.1))->wk l h hs=ae k->∀x,x∈k.map (·.1)↔x∈h.map (·.1)\/∃p∈l,p.1=.bind x
 |[],h,hs,k,_,e,x=>by cases e;simp
 | (f,v)::r,h,hs,k,g,e,x=>by
  have a:wk r h hs=ae k->(∀y,f=.bind y->y∈h.map _)->(x∈k.map _↔x∈h.map _\/∃p∈(f,v)::r,p.1=.bind x):=λe m=>by
   rw[rZ r h hs k g e x]
   constructor
   ·rintro(q|⟨p,b,q⟩)
    ·exact .inl q
    ·exact .inr ⟨p,Ak _ b,q⟩
   ·rintro(q|⟨p,b,q⟩)
    ·exact .inl q
    ·rcases Ar.mp b with rfl|b
     ·exact .inl (m x q)
     ·exact .inr ⟨p,b,q⟩
  cases f with
  |is w=>unfold wk at e;split at e;exact a e (λy z=>by cases z);cases e
  |any=>unfold wk at e;exact a e (λy z=>by cases z)
  |word=>unfold wk at e;split at e;exact a e (λy z=>by cases z);cases e
  |number=>unfold wk at e;split at e;exact a e (λy z=>by cases z);cases e
  |as y=>
   unfold wk at e
   split at e
   ·split at e
    ·exact a e (λy z=>by cases z)
    ·cases e
   ·cases e
  |bind y=>
   unfold wk at e
   split at e
   ·rename_i d
    split at e
    ·split at e
     ·exact a e (λz q=>by cases q;exact g y d)
     ·cases e
    ·cases e
   ·have i:∀z,z∈(put h y v).map _↔z∈h.map _\/z=y:=λz=>by
     rw[ze]
     split
     ·rename_i q;obtain⟨p,b,q⟩:=D5.mp q;have d:=A7.mpr ⟨p,b,e_ q⟩;exact⟨.inl,λq=>q.elim id λq=>q▸d⟩
     ·rw[A4,Bm]
    rw[rZ r _ _ k (λz o=>(i z).mpr ((A4.mp o).elim (λq=>.inl (g z q)) λq=>.inr (Bm.mp q))) e x,i x]
    constructor
    ·rintro((q|rfl)|⟨p,b,q⟩)
     ·exact .inl q
     ·exact .inr ⟨_,An,rfl⟩
     ·exact .inr ⟨p,Ak _ b,q⟩
    ·rintro(q|⟨p,b,q⟩)
     ·exact .inl (.inl q)
     ·rcases Ar.mp b with rfl|b
      ·cases q;exact .inl (.inr rfl)
      ·exact .inr ⟨p,b,q⟩
theorem Pz{gs:List Fe}{row:List Ad}(hp:∀f∈gs,f.pt=ah)(hl:(gs.map Fe.fd).length=row.length)(x:Str):(∃p∈(gs.map Fe.fd).zip row,p.1=.bind x)↔x∈bf gs:=by
 unfold bf;rw[Hd]
 constructor
 ·rintro⟨⟨a,b⟩,g,e⟩
  obtain⟨f,c,d⟩:=A7.mp (F2 g).1;refine⟨f,c,?_⟩;have e:a=.bind x:=e;rw[e]at d;cases f<;>first|(cases d;rfl)|cases d
 ·rintro⟨f,c,e⟩
  have j:f=.bind x:=by cases f<;>first|(cases e;rfl)|cases e
  subst j;obtain⟨i,h⟩:=Bz.mp c;have k:=(Ap.mp h).1;rw[Ab]at hl;refine⟨(.bind x,row[i]'⋯),Bz.mpr ⟨i,?_⟩,rfl⟩;rw[Fu];exact⟨by rw[Am,h];rfl,Ah _⟩
theorem Iu{d:Ad}(h:gC d)(h1:fO d=ai):gC (iH d):=by
 rcases h with rfl|⟨i,rfl,b,a⟩
 ·exact .inl rfl
 ·have:=by simpa[fO]using h1
  exact .inr ⟨_,rfl,by omega⟩
theorem N7{m:Nat}{ns:List Nt}(h:c8 m ns):c8 m (dA ns):=by
 unfold dA;refine⟨by rw[Ab];exact A0 (Em _ _) h.1,λq d=>?_⟩;obtain⟨p,c,rfl⟩:=A7.mp d;obtain⟨a,b⟩:=Dx.mp c;exact⟨(h.2 p a).1,Iu (h.2 p a).2 (by simpa using b)⟩
theorem yD{ps:Pg}{hs:List Hn}{ns:List Nt}{m M:Nat}{r:List Hn×List Nt}(k_:cw ps)(o_:okHs ps hs)(p_:c8 M ns)(hm:m<=ps.length)(e:bB ps hs ns m=ae r):okHs ps r.1/\c8 (M+1) r.2:=by
 unfold bB at e;by_cases em:m=ps.length
 ·rw[b_ em]at e;cases e;have:=N7 p_;exact⟨o_,Nat.le_succ_of_le this.1,this.2⟩
 rw[a_ em]at e;have hh:m < ps.length:=by omega
 obtain⟨P,xb,J,c,w,as,H⟩:=gq o_ hh;cases O:bx ps hs m with
 |none=>
  unfold du at e;simp_all
 |some a=>
 rw[lX H O]at e;have B:=H.ok k_ O;have t:=O;rw[H.act]at t;have L:=(Ap.mp t).1;have h:c8 _ ns:=⟨Nat.le_succ_of_le p_.1,p_.2⟩;have on:a.bs=[]->okHs ps (aU hs m (dZ (xb,J,c) c)):=λhb=>o_.put H.prog H.blk ⟨L,H.hn.nd,H.hn.ok,H.hn.up,λk=>by
  show k∈c.map _↔k∈kn w as (J+1);rw[xG t,hb,Br];exact H.hn.mem k,H.hn.ln⟩
 have W:∀b,a.to=ae b->okHs ps (aU hs m (bY P b c)):=λb hb=>by
  obtain⟨G,U,D,sub⟩:=H.to k_ O hb;have R:kh P b=G.1:=by unfold kh;simp_all
  refine o_.put H.prog U ?_;have en:(bY P b c).2.2=G.1.map λk=>(k,gJ c k):=by
   unfold bY;rw[R];exact OF H.hn.nd H.hn.up D.2.2.2.2.1 D.2.2.2.2.2 sub
  have ek:(bY P b c).2.2.map (·.1)=G.1:=by rw[en,By];exact List.map_id' _
  have S:(bY P b c).2.2.Sublist c:=G2;refine⟨Be _,by rw[ek];exact D.2.2.2.2.1,λp V=>H.hn.ok p (S.subset V),List.Pairwise.sublist S H.hn.up,λk=>by rw[ek];show _↔k∈G.1++(G.2.take 0).flatMap Ac.bs;simp,A0 S.length_le H.hn.ln⟩
 have E:∀gs i,a.pf=ae (gs.map Fe.fd)->a.bs=bf gs->dH gs->fW gs->aT _ c ns=ae i->okHs ps (aU hs m (dZ (xb,J,c) (bM (eB _ (cm ns i) c)))):=λgs i hpf hbs T y o=>by
  obtain⟨⟨C,Y⟩,n,F⟩:=rl o;have er:cm ns i=C:=by unfold cm;simp_all
  rw[er];obtain⟨ep,op⟩:=nJ T y;obtain⟨nd,R⟩:=Lz H.hn.nd F;obtain⟨wo,_⟩:=qE _ _ _ _ (Py op (p_.2 _ (Az n)).1) H.hn.ok R;have I:=by
   unfold bX at F;rw[Bi]at F;exact e_ F.1
  have pm:=FG (eB (gs.map Fe.fd) C c);have pk:((bM _).map _).Perm ((eB _ C c).map (·.1)):=pm.map _;have z:∀k,k∈(bM _).map _↔k∈kn w as (J+1):=λk=>by
   rw[pk.mem_iff,rZ _ _ _ _ (λx hx=>by simp at hx) R k,Pz y.2 I,xG t,A4,hbs];exact or_congr (H.hn.mem k) Iff.rfl
  have N:=pk.nodup_iff.mpr nd;refine o_.put H.prog H.blk ⟨L,N,λp V=>wo p (pm.mem_iff.mp V),yL _,z,?_⟩;have:=uz N λk hk=>(z k).mp hk;rw[Ab]at this;exact A0 this (A0 (xc (H.okb k_).1 (J+1)) ∎)
 cases a with
 |lay fs Y=>
  cases e;obtain⟨X,Z⟩:=H.lay k_ O;refine⟨on rfl,by rw[As,Ba];have:=p_.1;omega,λq n=>?_⟩;rcases A4.mp n with n|n
  ·exact p_.2 q n
  ·rw[Bm.mp n];exact⟨⟨⟨by unfold fV;rw[Ab];exact X,by unfold fV;rw[Ab];exact B.2.2.2⟩,λd hd=>by
    obtain⟨f,F,rfl⟩:=A7.mp hd;exact fE (Z f F)⟩,B.2.2.1⟩
 |go b=>cases e;exact⟨W b rfl,h⟩
 |same f g b=>
  cases e;refine⟨?_,h⟩;simp
  split
  ·exact on rfl
  ·exact W b rfl
 |take gs=>
  have e:(((bh gs _ ns).map λq=>(q.2,cq ns q.1)).map λr=>(aU hs m r.1,r.2))=ae r:=e;cases o:aT _ c ns with
  |none=>rw[ie o]at e;cases e
  |some i=>
   rw[ik o]at e;cases e;refine⟨E gs i rfl rfl B.1 B.2 o,?_,λq n=>?_⟩
   ·show(cq ns i).length<=_;unfold cq;rw[As,List.length_take,E1];have:=p_.1;omega
   ·rcases A4.mp n with n|n
    ·exact p_.2 q (List.mem_of_mem_take n)
    ·exact p_.2 q (List.mem_of_mem_drop n)
 |read gs=>
  have e:(((bh gs _ ns).map λq=>(q.2,ns)).map λr=>(aU hs m r.1,r.2))=ae r:=e;cases o:aT _ c ns with
  |none=>rw[ie o]at e;cases e
  |some i=>
   rw[ik o]at e;cases e;exact⟨E gs i rfl rfl B.1 B.2 o,h⟩
 |look gs b=>
  have e:((match bh gs _ ns with|some q=>ae _|none=>ae (bY P b c,ns):Option _).map λr=>(aU hs m r.1,r.2))=ae r:=e;cases o:aT _ c ns with
  |none=>
   rw[ie o]at e;cases e;exact⟨W b rfl,h⟩
  |some i=>
   rw[ik o]at e;cases e;exact⟨E gs i rfl rfl B.1 B.2 o,h⟩
theorem Nf{ps:Pg}{hs:List Hn}{ns:List Nt}{m:Nat}(o_:okHs ps hs)(hh:m < ps.length)(h:bE ps hs ns m=ah):∃r,bB ps hs ns m=ae r:=by
 obtain⟨P,F,A,l,w,G,H⟩:=gq o_ hh;unfold bB;rw[a_ ⋯];cases n:bx ps hs m with
 |none=>unfold bE at h;rw[n]at h;cases h
 |some a=>
 rw[nH n]at h;rw[lX H n];have B:∀gs:List Fe,a.pf=ae (gs.map Fe.fd)->dy ps hs ns m=aT (gs.map Fe.fd) l ns:=λgs C=>by
  unfold dy;rw[H.nmq];simp_all
 have o:∀gs:List Fe,(dy ps hs ns m).isSome=ah->a.pf=ae _->∃q,bh gs (F,A,l) ns=ae q:=λgs t y=>by
  rw[B gs y]at t;obtain⟨i,z⟩:=D4.mp t;exact⟨_,ik z⟩
 cases a with
 |lay I D=>exact⟨_,rfl⟩
 |go b=>exact⟨_,rfl⟩
 |same f g b=>exact⟨_,rfl⟩
 |take gs=>
  obtain⟨q,k⟩:=o gs h rfl;show ∃r,(((bh gs _ ns).map λq=>(q.2,cq ns q.1)).map λr=>(aU hs m r.1,r.2))=ae r;rw[k];simp
 |read gs=>
  obtain⟨q,k⟩:=o gs h rfl;show ∃r,(((bh gs _ ns).map λq=>(q.2,ns)).map λr=>(aU hs m r.1,r.2))=ae r;rw[k];simp
 |look gs b=>
  show ∃r,((match bh gs _ ns with|some q=>ae _|none=>ae (bY P b l,ns):Option _).map λr=>(aU hs m r.1,r.2))=ae r;cases bh gs _ ns with
  |none=>exact⟨_,rfl⟩
  |some q=>exact⟨_,rfl⟩
theorem sV{α:Type}{w:DT}{Q:List Ad->Int->Prop}{aA:Sl}(f g:α->Ad):∀(xs:List α)(j_:List Ad)(x:Option SV)(n:Int),(∀a∈xs,∀(n:Int)(Q':DQ),Q' (.d (g a)) n->w (↑(f a)::aA) n Q')->Q (j_++xs.map g) n->c0 (aJ 0) bV w Q (xs.map f) j_ (x::aA) n
 |[],j_,x,n,_,q=>by rw[List.map_nil,Br]at q;exact q
 |a::r,j_,x,n,h,q=>by
  refine h a An n _ (sV f g r _ _ n (λb c=>h b (Ak _ c)) ?_);rw[A6];exact q
theorem ne_str{s h:Str}{n:Int}{Q:DQ}(k:Q (.d (.bool (!cP h (.str s)))) n):fk (.d (.str s)) (.d (.str h)) n Q:=k
theorem Qi(a:Ac):fY a.d=ai:=by cases a<;>rfl
section
variable{δ:Sl}{n:Int}{K:DEnds}{a v:Ad}{r:List Ad}{x:Str}{hp:Nm}{hs:List Str}{W V:aE}
theorem kU{b:Bool}(e:δ[7]?=ae (↑(.bool b)))(kT:b=ah->K.nx δ n)(kF:b=ai->K.rt (.d .none) n):aM (dh (cT ↥7)) (az (wC .none)) aN δ n K:=by
 refine cG (lR (λQ q=>aF (λQ q=>av e q) q) ?_);cases b with
 |true=>exact kT rfl
 |false=>exact kF rfl
def lA(hp:Nm)(x:Str)(v:Ad):Bool:=match look hp x with
 |some w=>fc w v
 |none=>ai
theorem BY(e5:δ[5]?=ae (↑(.tuple (a::.str x::r))))(e3:δ[3]?=ae (ae (.odk (bQ hp))))(e6:δ[6]?=ae (↑v))(hv:bO v=ah)(hok:∀p∈hp,d6 p)(k:K.nx (δ.set 7 (↑(.bool (lA hp x v)))) n):
  ay 7 (fw (w2 (w2 ↥5 (wC (.int 1)) aw) (cU 3) (dQ ai)) (w2 (w2 (cU 3) (w2 ↥5 (wC (.int 1)) aw) fe) ↥6 bg)) δ n K:=by
 refine au (cR e5 ?_);have c:∀n Q,Q (.dk (bQ hp)) n->cU 3 δ n Q:=λn Q q=>by unfold cU;simp_all
 refine c _ _ ?_;show gf _ _ _;rw[iw];unfold lA at k;cases q:look hp x with
 |none=>rw[q]at k;exact k
 |some w=>
  rw[q]at k;refine au (au (c _ _ (cR e5 ?_)));unfold fe;simp only[iw,q];refine av e6 ?_;unfold bg;simp only[lp (hok _ (j9 q)).2 hv];exact k
theorem Sk(s:Str)(e5:δ[5]?=ae (↑(.tuple (.str s::r))))(h1:cP "as" (.str s)=ai)(h2:cP "bind" (.str s)=ai)(hF:V δ n K):
  aM (f9 (cT (w2 (w2 ↥5 (wC (.int 0)) aw) (wC (.str "as")) bg)) (dU (cT (w2 (w2 ↥5 (wC (.int 0)) aw) (wC (.str "bind")) bg)) (cT (lg 4 (w2 ↥5 (wC (.int 1)) aw))))) W V δ n K:=by
 refine bq (λQ q=>gv (λQ q=>eR e5 ?_) (qj (λQ q=>eR e5 ?_) q)) hF
 ·show Q _ n;simp_all
 ·show Q _ n;simp_all
theorem Rj(e5:δ[5]?=ae (↑(.tuple [.str "bind",.str x])))(e4:δ[4]?=ae (ae (.own (hs.map .str))))(hT:x∈hs->W δ n K)(hF:x∉hs->V δ n K):
  aM (f9 (cT (w2 (w2 ↥5 (wC (.int 0)) aw) (wC (.str "as")) bg)) (dU (cT (w2 (w2 ↥5 (wC (.int 0)) aw) (wC (.str "bind")) bg)) (cT (lg 4 (w2 ↥5 (wC (.int 1)) aw))))) W V δ n K:=by
 refine cG (gv (λQ q=>eR e5 ?_) (qH (λQ q=>eR e5 ?_) ?_))
 ·show Q _ n;assumption
 ·show Q _ n;assumption
 ·unfold cT lg;refine cR e5 ?_;rw[e4];refine⟨rfl,nZ hs,?_⟩;show if cE _ _=ah then _ else _
  rw[kB];exact zD hT hF
end
def Ox:Option Nm->Ad
 |none=>.none
 |some h=>cI (bM h)
theorem Ou{hp:Nm}{ys:List Str}(nd:(hp.map (·.1)).Nodup)(p:ys.Perm (hp.map (·.1)))(r:ys.Pairwise (λa b=>¬b.cps.toList < a.cps.toList)):bM hp=ys.map λx=>(x,(look hp x).getD .none):=by
 refine(EF nd ?_ ?_).symm
 ·have h:=p.map λx=>(x,(look hp x).getD PyData.none);have e:hp.map ((λx=>(x,(look hp x).getD PyData.none)) ∘ λp=>p.1)=hp:=by
   conv=>rhs;rw[<-List.map_id hp]
   refine Du λq c=>?_;show(q.1,(look hp q.1).getD .none)=q;rw[uP nd c];rfl
  simp_all
 ·unfold iL;rw[Fh];exact r
theorem Rx:b9 rr Mt ["_law_pattern_here","_law_row","_law_names","_law_found","_law_bound","_law_field","_law_value_here","_law_good"]:=λws n Q h=>by
 obtain⟨fs,O,W,rfl,G,Z,F,k⟩:=h;refine aB (EU rfl rfl (λne=>?_) λel=>?_)
 ·show Q _ n;unfold c9 bX at k;simp_all
 ·rw[Ab]at el;dsimp only[aN];refine aB (oA rfl F (aB (ij ?_)));dsimp only[A3];refine aB (BS rfl rfl (by rw[Ab];omega) ?_);refine eZ (λds δ m=>m=n/\∃(o:List Fd)(B:List Ad)(a:Nm)(A:List Str)(y z u:Option SV),ds=dB (o.map Fd.d) B/\o.length=B.length/\δ=[↑(fS fs),↑(.tuple O),↑(cI W),ae (.odk (bQ a)),ae (.own (A.map .str)),y,z,u] /\
   (∀g∈o,g.ok)/\(∀d∈B,bO d=ah)/\(a.map (·.1)).Nodup/\(∀p∈a,d6 p)/\a.length+o.length<=48/\A.length+o.length<=16/\Q (.d (Ox (wk (o.zip B) a A))) n) ?_ ?_ _ _ _ ?_
  ·rintro δ m ⟨rfl,o,B,a,A,y,z,u,e,T,rfl,I,H,C,c,Y,l2,K⟩
   have:o=[]:=by
    cases o with
    |nil=>rfl
    |cons g o=>cases B with|nil=>cases T|cons v B=>cases e
   subst this;rw[List.length_nil]at Y;show ∃ps':Nm,bQ a=bQ ps'/\ps'.length < 64/\(∀p∈ps',p.1.length<=1000)/\∀ys:List Str,ys.Perm _->ys.Pairwise _->
    c0 _ bV _ _ _ [] [af,ae _] m
   refine⟨a,rfl,by omega,λp hp'=>A0 (c p hp').1.1 ∎,λys p1 r1=>EB (λd=>∃x w,d=.str x/\look a x=ae w) (λd=>match d with|.str x=>.tuple [.str x,(look a x).getD .none]|d=>d) (λd n' Q' hP P=>?_) _ _ _ _ (λd X=>?_) ?_⟩
   ·obtain⟨x,w,rfl,lw⟩:=hP;have P:Q' (.d (.tuple [.str x,(look a x).getD .none])) n':=P;rw[lw]at P;show(match bA _ (.inr x)with|some d=>(2:Nat)<=1000/\Q' _ n'|none=>False);rw[iw,lw];exact⟨by decide,P⟩
   ·obtain⟨x,hx,rfl⟩:=A7.mp X;obtain⟨p,hp',rfl⟩:=A7.mp (p1.mem_iff.mp hx);exact⟨p.1,p.2,rfl,uP C hp'⟩
   ·rw[Gz];have K:Q (.d (cI _)) m:=K;rw[Ou C p1 r1]at K;have e:(ys.map Eh).map (λd=>match d with|.str x=>PyData.tuple [.str x,(look a x).getD .none]|d=>d)=(ys.map λx=>(x,(look a x).getD .none)).map i7:=by rw[By,By];rfl
    rw[e];exact K
  ·rintro d r δ m N ⟨rfl,o,B,a,A,y,z,u,e,T,rfl,I,H,C,c,Y,l2,K⟩ hN
   cases o with
   |nil=>cases e
   |cons g o=>
    cases B with
    |nil=>cases T
    |cons v B=>
     have e1:=by have:=congrArg (λl=>l.head?) e;simpa[dB]using this
     have e2:r=dB (o.map Fd.d) B:=by have:=congrArg List.tail e;assumption
     subst e1 e2;rw[Ax]at Y l2;rw[Ax,Ax]at T;have gk:=I g An;have L:=H v An;rw[Hb]at K;have M:(wk _ a A=af)->Q _ m:=λw=>by rw[w]at K;trivial
     have J:∀hp' D y z u,wk _ a A=wk _ hp' D->(hp'.map _).Nodup->(∀p∈hp',d6 p)->hp'.length<=a.length+1->D.length<=A.length+1->
       N [ae _,ae _,ae _,ae _,ae _,y,z,u] m:=λhp' D y z u hw a1 a2 a3 a4=>
      hN _ _ ⟨rfl,o,B,hp',D,y,z,u,rfl,by omega,rfl,λg hg=>I g (Ak _ hg),λd X=>H d (Ak _ X),a1,a2,by omega,by omega,by rw[<-hw];omega⟩
     refine⟨rfl,aB (bz (λQ q=>aG q) ?_)⟩;dsimp only[A3];cases g with
     |any=>
      refine aB (dE rfl SN (bq (λQ q=>nO rfl (by rfl) q) (Sk "any" rfl (by rfl) (by rfl) (dE rfl (by rfl) ?_))));dsimp only[aN];exact kU rfl (λ_=>J a A _ _ _ (by rw[wk]) C c ⋯ ⋯) (λz=>by cases z)
     |is w=>
      refine aB (jZ rfl SQ (bz (x:=.bool (fc w v)) (λQ q=>au (cR rfl (av rfl ?_))) ?_))
      ·unfold bg;simp only[lp (gk) L];exact q
      dsimp only[A3];exact kU rfl (λz=>J a A _ _ _ (by rw[wk,b_ z]) C c ⋯ ⋯) (λz=>M (by rw[wk,a_ (by rw[z];simp)]))
     |word=>
      refine aB (dE rfl RF (bP (λQ q=>nO rfl (by rfl) q) (bz (x:=.bool (iB v)) (λQ q=>au ?_) ?_)))
      ·unfold cW;refine av rfl (eR rfl ?_);cases v with
       |str s=>rw[oZ];exact q
       |int i=>rw[oZ];exact q
       |_=>cases L
      dsimp only[A3];exact kU rfl (λz=>J a A _ _ _ (by rw[wk,b_ z]) C c ⋯ ⋯) (λz=>M (by rw[wk,a_ (by rw[z];simp)]))
     |number=>
      refine aB (dE rfl LC (bP (λQ q=>nO rfl (by rfl) q) (bz (x:=.bool (ji v)) (λQ q=>au ?_) ?_)))
      ·unfold cW;refine av rfl (eR rfl ?_);cases v with
       |str s=>rw[oZ];exact q
       |int i=>rw[oZ];exact q
       |_=>cases L
      dsimp only[A3];exact kU rfl (λz=>J a A _ _ _ (by rw[wk,b_ z]) C c ⋯ ⋯) (λz=>M (by rw[wk,a_ (by rw[z];simp)]))
     |as x=>
      refine aB (dE rfl AR (bq (λQ q=>nO rfl (by rfl) q) (bP (λQ q=>nc (λQ q=>eR rfl ?_) q) (BY rfl rfl rfl L c ?_))))
      ·show Q _ m;assumption
      dsimp only[A3];refine kU rfl (λz=>J a A _ _ _ ?_ C c ⋯ ⋯) (λz=>M ?_)
      ·unfold lA at z;rw[wk];cases q:look a x with
       |none=>rw[q]at z;cases z
       |some w=>rw[q]at z;simp only[z,if_true]
      ·unfold lA at z;rw[wk];cases q:look a x with
       |none=>rfl
       |some w=>rw[q]at z;simp only[z,Hf,if_false]
     |bind x=>
      refine aB (dE rfl PD (bq (λQ q=>nO rfl (by rfl) q) (Rj rfl rfl (λhx=>BY rfl rfl rfl L c ?_) λhx=>jZ rfl BG ?_)))
      ·dsimp only[A3];refine kU rfl (λz=>J a A _ _ _ ?_ C c ⋯ ⋯) (λz=>M ?_)
       ·unfold lA at z;rw[wk,b_ hx];cases q:look a x with
        |none=>rw[q]at z;cases z
        |some w=>rw[q]at z;simp only[z,if_true]
       ·unfold lA at z;rw[wk,b_ hx];cases q:look a x with
        |none=>rfl
        |some w=>rw[q]at z;simp only[z,Hf,if_false]
      ·refine aB (jW rfl (λQ q=>cR rfl q) (by rw[Ab];omega) ?_);dsimp only[A3];unfold kz;refine av rfl (cR rfl ⟨by unfold bQ;rw[Ab];omega,?_⟩);rw[q0];have:=J _ _ (↑(.tuple [.str "bind",.str x])) (↑v) (↑(.bool ah)) (by rw[wk,a_ hx]) (rm C) (me c gk L) (qY _ _ _) (by simp);rw[Bb]at this;assumption
  ·refine⟨rfl,fs,O,W,[],_,_,_,rfl,el,rfl,G.2.2,Z.2,F.2.1,F.2.2,by have:=G.2.1;have:=F.1;omega,by have:=G.2.1;simpa using A0 this ∎,?_⟩;unfold c9 bX at k;rw[c_ el]at k;unfold eB at k;cases e:wk _ W []with
   |none=>rw[e]at k;exact k
   |some x=>rw[e]at k;exact k
theorem Mx:b9 tZ PY ["_law_template_here","_law_names","_law_row","_law_field","_law_value_here"]:=λws n Q h=>by
 obtain⟨C,p,rfl,T,R,B,k⟩:=h;refine aB (ij ?_);dsimp only[A3];refine aB ?_;unfold aZ dj;refine av rfl (eZ (λds δ m=>m=n/\∃(l o:List Fe)(x y:Option SV),ds=o.map Fe.d/\l++o=C/\δ=[ae _,ae _,ae (.own (l.map (eQ p))),x,y]) (λδ m I=>?_) (λd r δ m N I J=>?_) _ _ _ ⟨rfl,[],C,_,_,rfl,rfl,rfl⟩)
 ·obtain⟨rfl,l,o,x,y,D,u,rfl⟩:=I;cases Dt.mp D.symm;rw[Br]at u;subst u;assumption
 ·obtain⟨rfl,l,o,x,y,D,u,rfl⟩:=I;obtain⟨f,o,rfl,rfl,rfl⟩:=Dj.mp D.symm;have P:=by
   have:=congrArg Dy u;rw[As]at this;omega
  obtain⟨V,L,F⟩:=(R f (by rw[<-u];simp));have c:∀K x v,v=eQ p f->(∀δ n,N δ n->K.nx δ n)->aV 2 ↥4 [ae _,ae _,ae (.own (l.map _)),x,↑v] m K:=λK x v e O=>
   jW rfl (λQ q=>av rfl q) (by rw[Ab];omega) (by subst e;exact O _ _ (J _ _ ⟨rfl,l++[f],o,x,_,rfl,by rw[A6];exact u,by rw[Bb];rfl⟩))
  have b:∀K s x v,look p x=ae v->cP "is" (.str s)=ai->(aq _ _) [ae _,ae _,ae _,ae _,ae _] m K->
    aq (aM (cT (w2 (w2 ↥3 _ aw) (wC (.str "is")) fk)) (ay 4 (w2 (ke ↥1) (w2 ↥3 _ aw) fe)) aN) (aq (aM (dU (cT (w2 (w2 ↥3 ⇑0 aw) (wC (.str "next")) bg)) (dh (cT (cW "str" ↥4)))) (ay 4 (w2 (w2 ↥4 ⇑1 (cj λi j=>.int (i+j))) ⇑100 (gI (λ_ j=>0 < j) λi j=>.int (i % j)))) aN) (aV 2 ↥4)) [↑(cD C),ae _,ae (.own (l.map (eQ p))),↑(.tuple [.str s,.str x]),↑(.str x)] m K:=λK s x v e Y X=>by
   refine aB (bP (λQ q=>aF (λQ q=>au (dN rfl (aG (ne_str (by simp_all))))) q) (bz (x:=v) (λQ q=>au (yE rfl B (cR rfl ?_))) ?_))
   ·unfold fe;simp only[iw,e];exact q
   ·dsimp only[A3];omega
  cases f with
  |isv d=>
   refine aB (bz (λQ q=>cR rfl q) ?_);dsimp only[A3];refine aB (bq (λQ q=>aF (λQ q=>au (dN rfl (aG (ne_str (by assumption))))) q) ?_);dsimp only[aN];exact aB (bq (λQ q=>qj (λQ q=>eR (a:=.str "is") rfl (q)) q) (c _ _ _ rfl λ_ _ z=>z))
  |as x=>
   obtain⟨v,e,A⟩:=F x rfl;refine aB (bz (λQ q=>cR rfl q) (b _ "as" x v e AR ?_));exact aB (bq (λQ q=>qj (λQ q=>eR rfl (q)) q) (c _ _ _ (by show v=gJ p x;unfold gJ;simp_all) λ_ _ z=>z))
  |nx x=>
   obtain⟨v,e,A⟩:=F x rfl;have G:eQ p (.nx x)=jv v:=by show jv _=_;unfold gJ;simp_all
   refine aB (bz (λQ q=>cR rfl q) (b _ "next" x v e (by rfl) ?_));cases v with
   |str t=>
    exact aB (bq (λQ q=>qH (λQ q=>eR rfl (q)) (lR (λQ q=>aF (k:=ah) (λQ q=>av rfl (by assumption)) q) q)) (c _ _ _ (by rw[G];rfl) λ_ _ z=>z))
   |int i=>
    refine aB (bP (λQ q=>qH (λQ q=>eR rfl (q)) (lR (λQ q=>aF (k:=ai) (λQ q=>av rfl (by assumption)) q) q)) (bz (λQ q=>au (au (av rfl (aG (eC (aG ⟨show(0:Int) < 100 by decide,q⟩)))))) ?_));exact c _ _ _ (by rw[G,Qu A]) λ_ _ z=>z
   |_=>cases A
  |_=>cases L
theorem Mr:b9 rQ O8 ["_law_programs","_law_hands","_law_hand","_law_block","_law_place","_law_names","_law_acts"]:=λws n Q h=>by
 obtain⟨c,g,h,rfl,a,b,k⟩:=h;obtain⟨P,i,d,f,w,e,H⟩:=gq a b;rw[H.act]at k;refine aB (au (av rfl (av rfl (bj H.hD (Al rfl ?_)))));dsimp only[bK,aJ];refine aB (bz (λQ q=>au (au (au (av rfl (av rfl (bj H.pD (av rfl (bj H.bD (aG (eL q)))))))))) ?_);dsimp only[A3];exact bN (AQ rfl rfl k)
def yV(fs:List Fd)(nm:Nm)(ns:List Nt):Option Nat->Ad
 |none=>.none
 |some i=>.tuple [.int (i:Nat),cI (bM (eB fs (cm ns i) nm))]
theorem Tg(fs:List Fd)(nm:Nm)(ns:List Nt):fT fs nm ns=yV fs nm ns (aT fs nm ns):=by rfl
theorem Si:b9 mB KL ["_law_act_here","_law_notes_here","_law_names","_law_place","_law_found"]:=λws n Q h=>by
 obtain⟨a,l,g,j,rfl,J,F,p,A,k⟩:=h;obtain⟨H,s,r,e,L,_⟩:=pz F J;rw[e]at *;refine aB (aX (av rfl ?_));refine Al ⟨by omega,by rw[Ab];have:=p.1;omega⟩ ?_;rw[Ab];refine eZ (λds δ m=>m=n/\∃(b c:List Nt)(w y:Option SV),ds=bL (b.length:Nat) c.length/\b++c=g/\δ=[ae _,ae _,ae _,w,y] /\
  Q (.d (yV l j g ((aT l j c).map λi=>i+b.length))) n) (λδ m I=>?_) (λd M δ m N I G=>?_) _ _ _ ⟨rfl,[],g,_,_,rfl,rfl,rfl,?_⟩
 ·obtain⟨rfl,b,c,w,y,o,z,rfl,f⟩:=I;have:c=[]:=by
   cases c with
   |nil=>rfl
   |cons q c=>rw[Ax,qM]at o;cases o
  subst this;exact(f)
 ·obtain⟨rfl,b,c,w,y,o,z,rfl,f⟩:=I;cases c with
  |nil=>cases o
  |cons q c=>
   rw[Ax,qM]at o;obtain⟨rfl,rfl⟩:=Bp o;have B:g[b.length]?=ae q:=by rw[<-z];simp
   have v:(g.map fo)[b.length]?=ae (.tuple [.tuple q.1,q.2]):=by rw[Am,B];rfl
   refine aB (bz (x:=c9 l q.1 j) (λQ E=>?_) ?_)
   ·refine bS (cR rfl (au (au (av rfl (av rfl (bj v (aG (cY (av rfl ?_)))))))));exact⟨l,q.1,j,rfl,H,(p.2 q (Az B)).1,A,E⟩
   dsimp only[A3];cases u:bX l q.1 j with
   |true=>
    rw[pB,b_ u,Option.map_some,Nat.zero_add]at f;have f:Q (.d (.tuple [.int _,cI _])) m:=f;rw[show cm g b.length=q.1 by unfold cm;simp_all]at f;rw[ya u];exact bP (λQ q=>aF (λQ q=>au (av rfl (aG q))) q) (bN (cC (av rfl (av rfl (Al (show 2<=1000 by decide) f)))))
   |false=>
    rw[show c9 l q.1 j=.none by unfold c9;rw[a_ (by rw[u];simp)]];refine bq (λQ q=>aF (λQ q=>au (av rfl (aG q))) q) (G _ _ ⟨rfl,b++[q],c,_,_,?_,by rw[A6];exact z,rfl,?_⟩)
    ·rw[As];rfl
    ·rw[pB,a_ (by rw[u];simp),Option.map_map]at f;have:((λi=>i+b.length) ∘ λx=>x+1)=λi=>i+(b++[q]).length:=funext λx=>by
      show x+1+b.length=_;rw[As,Ba];omega
     rw[this]at f;omega
 ·rw[show((aT l j g).map λi=>i+([]:List Nt).length)=aT l j g by simp];exact k
theorem Sy{ps:Pg}{hs:List Hn}{ns:List Nt}{m:Nat}(o_:okHs ps hs)(hh:m < ps.length):(bB ps hs ns m).isSome=bE ps hs ns m:=by
 cases h:bE ps hs ns m with
 |true=>obtain⟨r,e⟩:=Nf o_ hh h;simp_all
 |false=>
  obtain⟨P,B,x,k,w,D,H⟩:=gq o_ hh;unfold bB;rw[a_ ⋯];cases l:bx ps hs m with
  |none=>
   unfold du;rw[H.prog,H.hand,l];rfl
  |some a=>
  rw[nH l,Bool.or_eq_false_iff]at h;rw[lX H l];have s:∀j:List Fe,a.pf=ae _->bh j (B,x,k) ns=af:=λgs n=>by
   refine ie (?_);have c:=h.2;unfold dy at c;rw[l,H.nmq]at c;have c:(a.pf.bind λfs=>aT fs k ns).isSome=ai:=c;rw[n]at c;have c:(aT _ k ns).isSome=ai:=c;cases q:aT _ k ns with
   |none=>rfl
   |some i=>rw[q]at c;cases c
  cases a with
  |take j=>
   show(((bh j _ ns).map λq=>(q.2,cq ns q.1)).map λr=>(aU hs m r.1,r.2)).isSome=ai;rw[s j rfl];rfl
  |read j=>
   show(((bh j _ ns).map λq=>(q.2,ns)).map λr=>(aU hs m r.1,r.2)).isSome=ai;rw[s j rfl];rfl
  |lay fs y=>cases h.1
  |go b=>cases h.1
  |same f g b=>cases h.1
  |look j b=>cases h.1
theorem CM{ps:Pg}{hs:List Hn}{ns:List Nt}(o_:okHs ps hs):jc ps hs ns=(A9 ps.length).filter (bE ps hs ns)++[ps.length]:=by
 unfold jc;rw[List.range_succ,He]
 congr 1
 ·refine List.filter_congr λi b=>?_;rw[Sy o_ (Ci.mp b)]
 ·have:bB ps hs ns ps.length=ae (hs,dA ns):=by unfold bB;rw[b_ rfl]
  rw[Gr,this];rfl
theorem Qw(fs:List Fd)(nm:Nm)(ns:List Nt):fY (fT fs nm ns)=!(aT fs nm ns).isSome:=by
 unfold fT;cases aT fs nm ns<;>rfl
theorem Pn:b9 eJ LB ["_law_programs","_law_stand_here","_law_found","_law_hand","_law_act_here","_law_names"]:=λws n Q h=>by
 obtain⟨c,g,f,rfl,⟨p,t,F⟩,k⟩:=h;rw[CM t,Bb]at k;refine aB (ij ?_);dsimp only[A3];refine aB (aX (av rfl ?_));refine Al ⟨by omega,by rw[Ab];have:=p.1;omega⟩ ?_;rw[Ab];refine eZ (λds δ m=>m=n/\∃(i:Nat)(x3 j l:Option SV),ds=bL i (c.length-i)/\i<=c.length/\δ=[ae _,ae _,ae (.own (((A9 i).filter (bE c g f)).map λi=>.int (i:Nat))),x3,j,l]) (λδ m I=>?_) (λd r' δ m N I V=>?_) _ _ _ ⟨rfl,0,_,_,_,rfl,Be _,rfl⟩
 ·obtain⟨rfl,i,x3,j,l,B,U,rfl⟩:=I;have T:i=c.length:=by
   by_cases z:i=c.length
   ·exact z
   ·rw[show c.length-i=(c.length-i-1)+1 by omega,qM]at B;trivial
  subst T;dsimp only;refine g9 rfl (bN (au (av rfl (a7 ?_))));refine aX (av rfl ?_);show 1<=1000/\_;refine Al ∎ ⟨?_,?_⟩
  ·rw[Ab];have E:=Em (bE c g f) (A9 c.length);rw[Er]at E;have:=p.1;refine small ?_;show _+1<=_;omega
  ·rw[Ab];exact k
 ·obtain⟨rfl,i,x3,j,l,B,U,rfl⟩:=I;have u:i < c.length:=by
   by_cases z:i < c.length
   ·exact z
   ·rw[show c.length-i=0 by omega]at B;trivial
  rw[show c.length-i=(c.length-i-1)+1 by omega,qM]at B;obtain⟨rfl,rfl⟩:=Bp B;have L:∀x3 j l o,o=((A9 _).filter _).map _->N [ae _,ae _,ae _,x3,j,l] m:=λx3 j l o e=>
   V _ _ ⟨rfl,i+1,x3,j,l,by rfl,u,by rw[e]⟩
  have Y:(A9 (i+1)).filter (bE c g f)=(A9 i).filter (bE c g f)++if bE c g f i=ah then[i]else[]:=by
   rw[List.range_succ,He,Gr];rfl
  obtain⟨P,xb,xp,G,w,as,H⟩:=gq t u;refine aB (bz (λQ q=>bS (av rfl (au (av rfl (aG (cY (av rfl ⟨c,g,i,rfl,t,u,q⟩))))))) ?_);dsimp only[A3];cases C:bx c g i with
  |none=>
   refine bq (λQ q=>aF (λQ q=>au (av rfl (aG q))) q) (L _ _ _ _ ?_);rw[Y,a_ (by unfold bE;rw[C];simp),Br]
  |some a=>
   have O:=H.ok p C;refine bP (λQ q=>aF (λQ q=>au (av rfl (aG (by show Q (.d (.bool (!fY a.d))) m;rw[Qi];exact q)))) q) (aB (bz (λQ q=>au (au (au (av rfl (aG (cY (av rfl (bj H.hD (aG (fB q)))))))))) ?_));dsimp only[A3];obtain⟨s,r,e,D⟩:=xO O;have R:(((A9 i).filter (bE c g f)).map λi=>Ep (i:Nat)).length < 1000000:=by
    rw[Ab];have E:=Em (bE c g f) (A9 i);rw[Er]at E;have:=p.1;omega
   have J:bE c g f i=ah->∀K j l,(∀δ n,N δ n->K.nx δ n)->aV 2 ↥3 [ae _,ae _,ae _,↑(.int i),j,l] m K:=λhc K j l W=>
    jW rfl (λQ q=>av rfl q) R (W _ _ (L _ _ _ _ (by simp_all)))
   cases x:a.wt with
   |false=>
    rw[x]at D;exact bP (λQ q=>nc (λQ q=>aF (λQ q=>u4 (by show ae (ae (SV.w (.d a.d)))=_;rw[e]) D q) q) q) (J (by rw[nH C,x];rfl) _ _ _ λ_ _ z=>z)
   |true=>
    rw[x]at D;obtain⟨fs,y⟩:∃fs,a.pf=ae fs:=by cases a<;>first|exact⟨_,rfl⟩|cases x
    have X:bE c g f i=(aT fs G f).isSome:=by
     rw[nH C,x];unfold dy;rw[C,H.nmq];show(ai || (a.pf.bind λfs=>aT fs G f).isSome)=_;rw[y];rfl
    refine cG (gv (λQ q=>aF (λQ q=>u4 (by show ae (ae (SV.w (.d a.d)))=_;rw[e]) D q) q) (aF (k:=bE c g f i) (λQ q=>au (bS (av rfl (au (av rfl (aG (eL (av rfl ⟨a,fs,f,G,rfl,O,y,F,H.nms,aG ?_⟩)))))))) ?_))
    ·show Q _ m;rw[Qw,Bool.not_not,<-X];exact q
    ·cases S:bE c g f i with
     |true=>
      simp_all
     |false=>
      exact L _ _ _ _ (by simp_all)
theorem xk{Q:List Ad->Int->Prop}:∀(ns:List Nt)(j_:List Ad)(x y:Option SV)(n:Int),(∀q∈ns,gC q.2)->Q (j_++(dA ns).map fo) n->
  c0 (d8 2 (bK (aJ 0) (bK (aJ 1) dt))) (cT (w2 ↥1 ⇑1 fk)) (ax (ao ↥0 (ao (fM (cT (w2 ↥1 (wC .none) (bF ai))) ↥1 (w2 ↥1 ⇑1 (cj λi j=>.int (i-j)))) ak))) Q (ns.map fo) j_ [x,y] n
 |[],j_,x,y,n,_,q=>by
  have:dA []=[]:=rfl;rw[this,List.map_nil,Br]at q;exact q
 | (f,a)::r,j_,x,y,n,h,q=>by
  have l:=h _ An;have g:=λj_ x y n q=>xk (Q:=Q) r j_ x y n (λq o=>h q (Ak _ o)) q;refine(⟨rfl,?_⟩);dsimp only[bK,aJ,A3];refine aF (λQ q=>au (av rfl (aG (xD l q)))) ?_;show if _=ah then _ else _
  have p:dA ((f,a)::r)=(if (!fO a)=ah then[(f,iH a)]else[])++dA r:=by
   unfold dA;rw[Gr];dsimp only
   split<;>rfl
  rw[p]at q;cases m:fO a with
  |true=>
   simp_all
  |false=>
   rw[m,Bb,<-A6]at q;rw[b_ ∎];rcases l with rfl|⟨i,rfl,_⟩
   ·exact cC (av rfl (hU (λQ q=>aF (k:=ah) (λQ q=>au (av rfl (aG q))) q) (by rw[b_ rfl];exact av rfl (Al (show 2<=1000 by decide) (g _ _ _ _ q)))))
   ·exact cC (av rfl (hU (λQ q=>aF (k:=ai) (λQ q=>au (av rfl (aG q))) q) (au (av rfl (aG (Al (show 2<=1000 by decide) (g _ _ _ _ q)))))))
abbrev tP:aE:=aq (ay 13 (ax (ao ↥5 (ao (w2 ↥6 ⇑1 (cj λi j=>.int (i+j))) (ao ↥7 ak))))) (aq (aM (cT (w2 ↥9 (wC .none) (bF ah))) (aq (ay 14 (w2 (w2 (w2 ↥0 ↥2 aw) ↥9 aw) ⇑0 aw)) (ay 13 (ax (ao ↥9 (ao ⇑0 (ao (wB eY (ao (bb (cg [af,ae 14] (dj ↥7) (aJ 0) (cT (w2 (w2 ↥0 ⇑0 aw) ↥1 (fX ai))) ↥0)) ak)) ak)))))) aN) (az (ax (ao (w2 (w2 (d3 ↥3 d7 (dJ ↥2)) (ax (ao ↥13 ak)) eV) (d3 ↥3 (dJ (w2 ↥2 ⇑1 (cj λi j=>.int (i+j)))) d7) eV) (ao ↥4 ak)))))
abbrev rA(ps:Pg)(hs:List Hn)(ns ns':List Nt)(m xb xp:Nat)(nm:Nm)(o8 o9 o10 o11 o12 o13 o14:Option SV):Sl:=[↑(cH ps),↑(bH hs ns),↑(.int m),↑(.tuple (hs.map ck)),↑(e7 ns'),↑(.int xb),↑(.int xp),↑(cI nm),o8,o9,o10,o11,o12,o13,o14]
section
variable{ps:Pg}{hs:List Hn}{ns ns':List Nt}{m xb xp:Nat}{nm:Nm}{n:Int}{Q:DQ}
theorem CV(o_:okHs ps hs)(k_:cw ps)(hh:m < ps.length)(x:Hn)(o5 o6 o7 o8 o9 o10 o11 o12 o14:Option SV)(q:Q (.d (bH (aU hs m x) ns')) n):az (ax (ao (w2 (w2 (d3 ↥3 d7 (dJ ↥2)) (ax (ao ↥13 ak)) eV) (d3 ↥3 (dJ (w2 ↥2 ⇑1 (cj λi j=>.int (i+j)))) d7) eV) (ao ↥4 ak)))
   [↑(cH ps),↑(bH hs ns),↑(.int m),↑(.tuple (hs.map ck)),↑(e7 ns'),o5,o6,o7,o8,o9,o10,o11,o12,↑(ck x),o14] n {nx:=λ_ n=>Q (.d .none) n,rt:=Q}:=by
 have a:m < hs.length:=by rw[o_.1];omega
 have c:hs.length<=5:=by rw[o_.1];exact k_.1
 have b:(aU hs m x).map ck=((hs.map ck).take m++[ck x])++(hs.map ck).drop (m+1):=by
  unfold aU;simp
 unfold bH at q;rw[b]at q;have e:((hs.map ck).take m).length<=5:=A0 (Gx _ _) (by rw[Ab];omega);have f:((hs.map ck).drop (m+1)).length<=5:=by rw[E1,Ab];omega
 exact bN (cC (au (au (rf (λQ q=>av rfl q) (λQ q=>av rfl q) (by rw[Ab];omega) (oX (av rfl (Al (show 1<=1000 by decide) (jI (by rw[Ba];omega) (p9 (p:=m+1) (λQ q=>av rfl q) (λQ q=>au (av rfl (aG (eC q)))) (by rw[Ab];omega) (jI (by rw[As,Ba];omega) (av rfl (Al (show 2<=1000 by decide) q))))))))))))
theorem qF(o_:okHs ps hs)(k_:cw ps)(hh:m < ps.length)(o8 o10 o11 o12 o13 o14:Option SV)(q:Q (.d (bH (aU hs m (xb,xp+1,nm)) ns')) n):tP (rA ps hs ns ns' m xb xp nm o8 (ae (.w (.d .none))) o10 o11 o12 o13 o14) n {nx:=λ_ n=>Q (.d .none) n,rt:=Q}:=by
 refine aB (bz (x:=ck (xb,xp+1,nm)) (λQ q=>jg (av rfl (au (av rfl (aG (eC (av rfl (Al (show 3<=1000 by decide) q)))))))) ?_);dsimp only[A3];exact aB (bq (λQ q=>aF (λQ q=>au (av rfl (aG q))) q) (CV o_ k_ hh _ _ _ _ _ _ _ _ _ _ q))
theorem vo(o_:okHs ps hs)(k_:cw ps)(hh:m < ps.length){P:List Bl}{b:Nat}{bl:Bl}(hP:(ps.map ic)[m]?=ae (.tuple (P.map f6)))(hb:P[b]?=ae bl)(hbl:bl.1.length<=4)(o8 o10 o11 o12 o13 o14:Option SV)(q:Q (.d (bH (aU hs m (bY P b nm)) ns')) n):tP (rA ps hs ns ns' m xb xp nm o8 (↑(.int (b:Nat))) o10 o11 o12 o13 o14) n {nx:=λ_ n=>Q (.d .none) n,rt:=Q}:=by
 have g:(P.map f6)[b]?=ae (.tuple [e9 bl.1,.tuple (bl.2.map Ac.d)]):=by rw[Am,hb];rfl
 refine aB (bz (λQ q=>jg (av rfl (au (av rfl (aG (eC (av rfl (Al (show 3<=1000 by decide) q)))))))) ?_);dsimp only[A3];refine aB (bP (λQ q=>aF (λQ q=>au (av rfl (aG q))) q) (aB (bz (λQ q=>au (au (au (av rfl (av rfl (bj hP (av rfl (bj g (aG (cY q)))))))))) ?_)));dsimp only[A3];refine bz (x:=ck (bY P b nm)) (λQ q=>?_) ?_
 ·refine jg (av rfl (aG (aX (a7 (iF (λQ q=>av rfl q) (jq i7 i7 (λp=>decide (p.1∈bl.1)) nm [] af n (λa h n f q=>?_) (λa h n f q=>av rfl q) ?_))))))
  ·refine aF (λQ q=>au (dN rfl (av rfl ⟨rfl,nZ bl.1,?_⟩))) q;rw[kB];exact q
  ·rw[Gz];refine Al (show 3<=1000 by decide) ?_;have e:kh P b=bl.1:=by unfold kh;rw[hb];rfl
   unfold bY at q;rw[e]at q;exact q
 ·dsimp only[A3];exact CV o_ k_ hh _ _ _ _ _ _ _ _ _ _ q
end
theorem zq{nm:Nm}{f:Fe}(hf:dF nm f)(te:f.te=ah)(p_:okN nm):∀(n:Int)(Q':DQ),Q' (.d (eQ nm f)) n->fM (cT (w2 (w2 ↥0 ⇑0 aw) (wC (.str "is")) bg)) (w2 ↥0 ⇑1 aw) (w2 (ke ↥1) (w2 ↥0 ⇑1 aw) fe) [↑f.d,↑(cI nm)] n Q':=λn Q' q=>by
 cases f with
 |isv d=>exact hU (b:=ah) (λQ q=>eR rfl (by assumption)) (by assumption)
 |as x=>
  obtain⟨v,e,h⟩:=hf.2.2 x rfl;refine hU (b:=ai) (λQ q=>eR rfl (by assumption)) (au (yE rfl p_ (cR rfl ?_)));have q:Q' (.d (gJ nm x)) n:=q;unfold gJ at q;rw[e]at q;unfold fe;simp only[iw,e];exact q
 |_=>cases te
theorem Pu(a b c d:Ad):ef [a,b,c,d] (ae 1) (ae 3)=[b,c]:=rfl
theorem NF:b9 gZ z7 ["_law_programs","_law_stand_here","_law_mover","_law_hands","_law_notes_here","_law_block","_law_place","_law_names","_law_act_here","_law_target","_law_one","_law_other","_law_got_here","_law_behind","_law_wanted"]:=λws n Q h=>by
 obtain⟨ps,hs,ns,m,r,rfl,⟨k_,o_,p_⟩,hm,e,k⟩:=h;show z7 [↑(cH ps),↑(bH hs ns),↑(.int m),af,af,af,af,af,af,af,af,af,af,af,af] n _;refine aB ?_;unfold dC;refine av rfl (Al rfl ?_);dsimp only[bK,dt,aJ,A3];unfold bB at e;refine aB (cG (aF (k:=decide ((m:Int)=(ps.length:Nat))) (λQ q=>au (av rfl (aX (av rfl ?_)))) ?_))
 ·show Q (.d (.bool (decide ((m:Int)=((ps.map ic).length:Nat))))) n;rw[Ab];exact q
 by_cases em:m=ps.length
 ·rw[b_ em]at e;cases e;show if decide ((m:Int)=(ps.length:Nat))=ah then _ else _
  rw[b_ (c_ ⋯)];refine bN (cC (av rfl (aX (a7 (iF (ds:=ns.map fo) (λQ q=>av rfl q) ?_)))));show c0 _ _ _ _ _ _ [af,af] n;exact xk ns [] af af n (λq hq=>(p_.2 q hq).2) (Al (show 2<=1000 by decide) k)
 rw[a_ em]at e;show if decide ((m:Int)=(ps.length:Nat))=ah then _ else _
 rw[a_ (by rw[d_ ⋯];exact Ay)];dsimp only[aN];have hh:m < ps.length:=by omega
 obtain⟨P,xb,xp,nm,w,as,H⟩:=gq o_ hh;refine aB ?_;refine au (av rfl (av rfl (bj H.hD (Al rfl ?_))));dsimp only[bK,dt,aJ,A3];cases ea:bx ps hs m with
 |none=>
  unfold du at e;rw[H.prog,H.hand,ea]at e;cases e
 |some a=>
 rw[lX H ea]at e;have oa:=H.ok k_ ea;have hA:(as.map Ac.d)[xp]?=ae a.d:=by rw[Am,<-H.act,ea];rfl
 refine aB (bz (x:=a.d) (λQ q=>au (au (au (au (av rfl (av rfl (bj H.pD (av rfl (bj H.bD (aG (eL (av rfl (bj hA q))))))))))))) ?_);dsimp only[A3];refine aB (bz (x:=.none) (λQ q=>aG q) ?_);dsimp only[A3];have toB:∀(b:Nat),a.to=ae b->∃bl:Bl,P[b]?=ae bl/\bl.1.length<=4:=λb hb=>by
  obtain⟨bl,hbl,obl,sub⟩:=H.to k_ ea hb;exact⟨bl,hbl,obl.1⟩
 have getY:∀(s:Str)(gs:List Fe)(r5:List Ad)(i:Nat),a.d=.tuple (.str s::r5)->a.pf=ae (gs.map Fe.fd)->aT (gs.map Fe.fd) nm ns=ae i->∀K:DEnds,
   (∀δ n,tP δ n {nx:=λ_ n=>Q (.d .none) n,rt:=Q}->K.nx δ n)->
   Q (.d (bH (aU hs m (dZ (xb,xp,nm) (bM (eB (gs.map Fe.fd) (cm ns i) nm)))) (if cP "take" (.str s)=ah then cq ns i else ns))) n->
   (aq (ay 12 (aD mB (ao ↥8 (ao ↥4 (ao ↥7 ak))))) (aM (cT (w2 ↥12 (wC .none) (bF ai))) (ay 9 (w2 ↥8 ⇑2 aw)) (aq (ay 7 (w2 ↥12 ⇑1 aw)) (aM (cT (w2 (w2 ↥8 ⇑0 aw) (wC (.str "take")) bg)) (ay 4 (w2 (d3 ↥4 d7 (dJ (w2 ↥12 ⇑0 aw))) (d3 ↥4 (dJ (w2 (w2 ↥12 ⇑0 aw) ⇑1 (cj λi j=>.int (i+j)))) d7) eV)) aN)))) (rA ps hs ns ns m xb xp nm (↑a.d) (ae (.w (.d .none))) af af af af af) n K:=λs gs r5 i ed hpf ei K hK q=>by
  refine aB (bz (x:=.tuple [.int (i:Nat),cI (bM (eB (gs.map Fe.fd) (cm ns i) nm))]) (λQ q=>bS (av rfl (av rfl (av rfl ⟨a,_,ns,nm,rfl,oa,hpf,p_,H.nms,?_⟩)))) ?_)
  ·unfold fT;rw[ei];exact q
  dsimp only[A3];refine bq (λQ q=>aF (k:=ai) (λQ q=>au (av rfl (aG q))) q) (aB ?_);refine bz (x:=cI (bM (eB (gs.map Fe.fd) (cm ns i) nm))) (λQ q=>cR rfl q) ?_;dsimp only[A3];obtain⟨⟨row,age⟩,hq,hf⟩:=rl ei;have hi:i < ns.length:=(Ap.mp hq).1;rw[ed];refine qg rfl (λz=>?_) λz=>?_
  ·rw[b_ z]at q;refine bz (x:=e7 (cq ns i)) (λQ q=>au (rf (p:=i) (λQ q=>av rfl q) (λQ q=>dN rfl q) (by rw[Ab];omega) (p9 (p:=i+1) (λQ q=>av rfl q) (λQ q=>au (dN rfl (aG (eC q)))) (by rw[Ab];omega) (jI ?_ ?_)))) ?_
   ·have:=p_.1;rw[List.length_take,E1,Ab];omega
   ·unfold e7 at q;rw[ye]at q;exact q
   ·dsimp only[A3];exact hK _ _ (qF o_ k_ hh _ _ _ _ _ _ q)
  ·rw[a_ (by rw[z];exact Ay)]at q;exact hK _ _ (qF o_ k_ hh _ _ _ _ _ _ q)
 cases a with
 |lay fs age=>
  obtain⟨hl4,hfv⟩:=H.lay k_ ea;cases e;refine aB (jZ (a:=.str "lay") (r:=[cD fs,age]) rfl ∅ ?_);refine bz (x:=e7 (ns++[(fV fs nm,age)])) (λQ q=>?_) ?_
  ·refine au (av rfl (oX (cC (b7 (cR (a:=.str "lay") (b:=cD fs) (r:=[age]) rfl (av rfl ⟨fs,nm,rfl,hl4,hfv,H.nms,?_⟩))))));refine gT (m:=2) (ds:=[.str "lay",cD fs,age]) rfl rfl (Al (show 2<=1000 by decide) (Al (show 1<=1000 by decide) (jI (by rw[Ab,Ba];have:=p_.1;omega) ?_)));unfold e7 at q;rw[Bb]at q;exact q
  ·dsimp only[A3];exact qF o_ k_ hh _ _ _ _ _ _ k
 |go b=>
  cases e;obtain⟨bl,h1,h2⟩:=toB b rfl;refine aB (dE (a:=.str "go") (r:=[.int b]) rfl ∅ (jZ (a:=.str "go") (r:=[.int b]) rfl ∅ ?_));refine bz (x:=.int b) (λQ q=>cR (a:=.str "go") (b:=.int b) (r:=[]) rfl q) ?_;dsimp only[A3];exact vo o_ k_ hh H.pD h1 h2 _ _ _ _ _ _ k
 |same f g b=>
  obtain⟨hf,hg,tf,tg⟩:=H.same k_ ea;obtain⟨bl,h1,h2⟩:=toB b rfl;cases e;refine aB (dE (a:=.str "same") (r:=[f.d,g.d,.int b]) rfl ∅ (dE (a:=.str "same") (r:=[f.d,g.d,.int b]) rfl ∅ (jZ (a:=.str "same") (r:=[f.d,g.d,.int b]) rfl ∅ ?_)));refine aB ?_;refine a7 (iF (ds:=[f.d,g.d]) (λQ q=>?_) ?_)
  ·unfold d3;refine av rfl ?_;dsimp only[Ac.d,dJ];refine aG ?_;dsimp only;refine aG ?_;dsimp only;rw[Pu];exact q
  refine sV (α:=Fe) Fe.d (eQ nm) [f,g] [] af n (λu hu n Q' q=>?_) ?_
  ·rcases Ar.mp hu with rfl|hu
   ·exact zq hf tf H.nms n Q' q
   ·rw[Bm.mp hu]at q ⊢;exact zq hg tg H.nms n Q' q
  rw[Gz];refine Al rfl ?_;dsimp only[bK,dt,aJ,A3];have k:Q (.d (bH (aU hs m (if fc (eQ nm f) (eQ nm g)=ah then dZ (xb,xp,nm) nm else bY P b nm)) ns)) n:=k;cases z:fc (eQ nm f) (eQ nm g)with
  |true=>
   rw[z,b_ rfl]at k;refine bz (x:=.none) (λQ q=>hU (b:=ah) (λQ q=>aF (k:=ah) (λQ q=>au (av rfl (av rfl (tq (fE hf) (fE hg) (by rw[z];exact q))))) q) (by rw[b_ rfl];exact aG q)) ?_;dsimp only[A3];exact qF o_ k_ hh _ _ _ _ _ _ k
  |false=>
   rw[z,a_ Ay]at k;refine bz (x:=.int b) (λQ q=>hU (b:=ai) (λQ q=>aF (k:=ai) (λQ q=>au (av rfl (av rfl (tq (fE hf) (fE hg) (by rw[z];exact q))))) q) (by rw[a_ Ay];exact gT (m:=3) (ds:=[.str "same",f.d,g.d,.int b]) rfl rfl q)) ?_;dsimp only[A3];exact vo o_ k_ hh H.pD h1 h2 _ _ _ _ _ _ k
 |take gs=>
  have e:(((bh gs (xb,xp,nm) ns).map λq=>(q.2,cq ns q.1)).map λr=>(aU hs m r.1,r.2))=ae r:=e;refine aB (dE (a:=.str "take") (r:=[cD gs]) rfl ∅ (dE (a:=.str "take") (r:=[cD gs]) rfl ∅ (dE (a:=.str "take") (r:=[cD gs]) rfl ∅ ?_)));cases ei:aT (gs.map Fe.fd) nm ns with
  |none=>rw[ie ei]at e;cases e
  |some i=>
   rw[ik ei]at e;cases e;exact getY "take" gs [cD gs] i rfl rfl ei _ (λ_ _ z=>z) (by rw[b_ ∅];exact k)
 |read gs=>
  have e:(((bh gs (xb,xp,nm) ns).map λq=>(q.2,ns)).map λr=>(aU hs m r.1,r.2))=ae r:=e;refine aB (dE (a:=.str "read") (r:=[cD gs]) rfl ∅ (dE (a:=.str "read") (r:=[cD gs]) rfl ∅ (dE (a:=.str "read") (r:=[cD gs]) rfl ∅ ?_)));cases ei:aT (gs.map Fe.fd) nm ns with
  |none=>rw[ie ei]at e;cases e
  |some i=>
   rw[ik ei]at e;cases e;exact getY "read" gs [cD gs] i rfl rfl ei _ (λ_ _ z=>z) (by rw[a_ ∅];exact k)
 |look gs b=>
  have e:((match bh gs (xb,xp,nm) ns with|some q=>ae (q.2,ns)|none=>ae (bY P b nm,ns):Option (Hn×List Nt)).map λr=>(aU hs m r.1,r.2))=ae r:=e;refine aB (dE (a:=.str "look") (r:=[cD gs,.int b]) rfl ∅ (dE (a:=.str "look") (r:=[cD gs,.int b]) rfl ∅ (dE (a:=.str "look") (r:=[cD gs,.int b]) rfl ∅ ?_)));cases ei:aT (gs.map Fe.fd) nm ns with
  |none=>
   rw[ie ei]at e;cases e;obtain⟨bl,h1,h2⟩:=toB b rfl;refine aB (bz (x:=.none) (λQ q=>bS (av rfl (av rfl (av rfl ⟨.look gs b,_,ns,nm,rfl,oa,rfl,p_,H.nms,?_⟩)))) ?_)
   ·unfold fT;rw[ei];exact q
   dsimp only[A3];refine bP (λQ q=>aF (k:=ah) (λQ q=>au (av rfl (aG q))) q) ?_;refine bz (x:=.int b) (λQ q=>gT (m:=2) (ds:=[.str "look",cD gs,.int b]) rfl rfl q) ?_;dsimp only[A3];exact vo o_ k_ hh H.pD h1 h2 _ _ _ _ _ _ k
  |some i=>
   rw[ik ei]at e;cases e;exact getY "look" gs [cD gs,.int b] i rfl rfl ei _ (λ_ _ z=>z) (by rw[a_ ∅];exact k)
def pI(ps:Pg):List Hn:=ps.map λ_=>(0,0,[])
theorem IX{ps:Pg}(hf:∀P∈ps,iD P):okHs ps (pI ps):=by
 refine⟨Ab _,λi P a=>?_⟩;obtain⟨w,c⟩:=hf P (Az a);obtain⟨b,r,rfl,d,_⟩:=Dj.mp c;refine⟨(0,0,[]),b,?_,rfl,Be _,List.nodup_nil,λp e=>(by simp_all),List.Pairwise.nil,λk=>?_,Be _⟩
 ·unfold pI;rw[Am,a];rfl
 ·show k∈([]:List Str)↔k∈kn b.1 b.2 0;unfold kn;rw[d];simp
theorem Mh:b9 uk zz ["_law_tape_here","_law_programs"]:=λws S Q h=>by
 obtain⟨rfl,N,k⟩:=h;show zz [ae _,af] S _;refine aB (au (a7 (Al ∎ ?_)));refine hV rfl ⋯ ∎ ∎ λq z B=>iM z B λd K=>?_;have I:∃j:Nat,j<=3/\d=.int j:=by
  simp only[Ar,A8,h_]at K;rcases K with rfl|rfl|rfl|rfl|rfl|rfl|rfl|rfl
  ·exact⟨1,by simp⟩
  ·exact⟨2,by simp⟩
  ·exact⟨2,by simp⟩
  ·exact⟨1,by simp⟩
  ·exact⟨3,by simp⟩
  ·exact⟨2,by simp⟩
  ·exact⟨0,by simp⟩
  ·exact⟨2,by simp⟩
 obtain⟨j,I,rfl⟩:=I;refine Al ⟨by omega,by omega⟩ ?_;rw[Cz];refine sN (λd=>∃P,(pG P/\iD P)/\d=ic P) 600 (λd n U D q=>de (av rfl (Al rfl ⟨by omega,λP p m F s=>q _ p ⟨P,⟨m,F⟩,rfl⟩ ⋯⟩))) _ [] af _ (by rw[eM];omega) λds T u v y=>?_;rw[eM]at u y;rw[Gz];obtain⟨l,rfl,t⟩:=xx v;rw[Ab]at u;dsimp only[A3];have g:∀(ps':Pg) C,ps'.length<=3->(∀P∈ps',pG P/\iD P)->C<=T+1->(aq (ay 1 (wB fJ (ao (cv 1) ak))) (aq (aM (cT (w2 (aD cx (ao _ (ao ⇑2 ak))) ⇑0 bG)) (bU 1 (az (ax (ao ↥1 (ao (aD pH (ao ↥0 (ao ↥1 _))) ak))))) aN) (bU 1 (az (ax (ao ↥1 (ao (ax (ao (wB fJ (ao (bb (cg [af] (dj ↥1) _ bV (ax (ao _ (ao _ (ao (ax ak) ak)))))) ak)) (ao (aD nr (ao ↥0 _)) ak))) ak))))))) [ae _,ae (.own _)] C {nx:=λ_ n=>Q (.d .none) n,rt:=Q}:=λps' C O o V=>by
  have A:cw ps':=⟨by omega,λP m=>(o P m).1⟩;refine aB (bz (λQ q=>aX (lj rfl (q))) ?_);dsimp only[A3];refine aB (cG (au (hV rfl ⋯ ∎ ∎ λq z B=>aG (iN ?_))));show if decide _=ah then _ else _
  by_cases r:q=0
  ·rw[b_ (c_ r)];refine(bN (cC (av rfl (bS (av rfl (av rfl (aG (Dl ps' ⟨3,rfl,by decide,A,by omega,λhs ns p W D s=>?_⟩))))))));exact Al (show 2<=1000 by decide) (k ps' hs ns p A W ⟨A0 D.1 ∎,D.2⟩ ⋯)
  ·rw[a_ (by simpa using r)];dsimp only[aN];refine(bN (cC (av rfl (cC (aX (a7 (iF (λQ q=>av rfl q) ?_)))))));refine sV ic (λ_=>ck (0,0,[])) ps' [] af _ (λa ha n U q=>jg (aG (aG (Al (Be _) (Al ∎ q))))) (jR (b7 (av rfl (aG (Dl 4 ⟨rfl,by decide,by omega,λns p G s=>?_⟩)))));have e:(ps'.map λ_=>ck (0,0,[]))=(pI ps').map ck:=by unfold pI;rw[By];rfl
   rw[e];exact Al (show 2<=1000 by decide) (Al (show 2<=1000 by decide) (k ps' _ ns p A (IX λP m=>(o P m).2) G ⋯))
 refine aB (cG (au (aX (lj rfl (NG (aG (iN ?_)))))));rw[Ab];show if decide _=ah then _ else _
 by_cases H:(l.length:Int)=2
 ·rw[b_ (c_ H)];refine au (hV rfl ⋯ ∎ ∎ λq z B=>aG (iN ?_));show if decide _=ah then _ else _
  by_cases r:q=0
  ·rw[b_ (c_ r)];have E:=by omega
   obtain⟨P,x,rfl⟩:∃P x,l=[P,x]:=by
    match l,E with
    |[P,x],_=>exact⟨P,x,rfl⟩
   refine(au (lj rfl (aG (?_))));refine g [P,P] _ (show 2<=3 by decide) (λR Z=>?_) ⋯;simp_all
  ·rw[a_ (by simpa using r)];exact g l _ ⋯ t ⋯
 ·rw[a_ (by simpa using H)];exact g l _ ⋯ t ⋯
theorem yC{n:Nat}:∀{ds:List Ad},(∀d∈ds,cM n d=ah)->d4 n ds=ah
 |[],_=>by rw[d4]
 |d::r,h=>by rw[d4,h d An,yC λe a=>h e (Ak _ a)];rfl
theorem jt{n:Nat}{ds:List Ad}(h:∀d∈ds,cM n d=ah):cM (n+1) (.tuple ds)=ah:=yC h
theorem oz(n:Nat)(i:Int):cM n (.int i)=ah:=by rfl
theorem z6{n:Nat}{x:Str}(h:Ed x=ah):cM n (.str x)=ah:=by assumption
theorem oh{n:Nat}{d:Ad}(h:bO d=ah):cM n d=ah:=by
 cases d with
 |str x=>
  refine z6 ?_;unfold bO at h;simp only[Bi]at h;exact h.2.1
 |int i=>exact oz n i
 |_=>cases h
theorem eO{a b d:Ad}{P:Ad->Prop}(ha:P a)(hb:P b)(h:d∈[a,b]):P d:=by
 rcases Ar.mp h with rfl|h
 ·exact ha
 ·rw[Bm.mp h];omega
theorem KI{n:Nat}{nm:Nm}(h:∀p∈nm,d6 p):cM (n+2) (cI nm)=ah:=jt λd c=>by
 obtain⟨p,a,rfl⟩:=A7.mp c;exact jt λe b=>eO (P:=λe=>cM n e=ah) (z6 (h p a).1.2.1) (oh (h p a).2) b
theorem NZ{n:Nat}{d:Ad}(h:gC d):cM n d=ah:=by
 rcases h with rfl|⟨i,rfl,_⟩
 ·cases n<;>rw[cM]
 ·exact oz n i
theorem zf{ps:Pg}{hs:List Hn}(o_:okHs ps hs):∀h∈hs,∀p∈h.2.2,d6 p:=λh c=>by
 obtain⟨i,d,e⟩:=G1 c;obtain⟨g,b,a,j,f⟩:=o_.2 i _ (Ah (by rw[<-o_.1];omega));rw[Ah d,e]at a;cases a;exact f.ok
theorem CQ{ps:Pg}{hs:List Hn}{ns:List Nt}(o_:okHs ps hs)(p_:∀q∈ns,lT q):cM 6 (bH hs ns)=ah:=by
 refine jt λd a=>eO (P:=λd=>cM 5 d=ah) ?_ ?_ a
 ·refine jt λd a=>?_;obtain⟨h,c,rfl⟩:=A7.mp a;refine jt λd a=>?_;rcases Ar.mp a with rfl|a
  ·exact oz _ _
  ·exact eO (P:=λd=>cM 3 d=ah) (oz _ _) (KI (zf o_ h c)) a
 ·refine jt λd a=>?_;obtain⟨q,b,rfl⟩:=A7.mp a;exact jt λd a=>eO (P:=λd=>cM 3 d=ah) (jt λd a=>oh ((p_ q b).1.2 d a)) (NZ (p_ q b).2) a
def jf(ps:Pg)(s:TK):Option (List Hn×List Nt):=open Classical in if h:∃p:List Hn×List Nt,s.1=bH p.1 p.2/\cu ps p.1 p.2 then ae h.choose else af
def xH(d:Ad):Option TK:=if t:cM 6 d=ah then ae ⟨d,t⟩else af
def bR(ps:Pg)(s:TK)(m:Nat):Option TK:=(jf ps s).bind λp=>(bB ps p.1 p.2 m).bind λr=>xH (bH r.1 r.2)
def Gk(ps:Pg)(c:Nat)(s:TK):Prop:=∃hs ns,s.1=bH hs ns/\cu ps hs ns/\ns.length+c<=99
theorem lb{ps:Pg}{c:Nat}{s:TK}(h:Gk ps c s):∃hs ns,jf ps s=ae (hs,ns)/\s.1=bH hs ns/\cu ps hs ns/\ns.length+c<=99:=by
 obtain⟨hs,ns,e,f,d⟩:=h;have a:∃p:List Hn×List Nt,s.1=bH p.1 p.2/\cu ps p.1 p.2:=⟨(hs,ns),e,f⟩;refine⟨_,_,by unfold jf;rw[dif_pos a],a.choose_spec.1,a.choose_spec.2,?_⟩;have b:=congrArg Dy (PyData.tuple.inj (Bp (Bp (PyData.tuple.inj (e.symm.trans a.choose_spec.1))).2).1);rw[Ab,Ab]at b;exact A0 (Nat.le_of_eq (congrArg (λx=>x+c) b.symm)) d
section
variable{ps:Pg}{s:TK}{hs:List Hn}{ns:List Nt}{m:Nat}
theorem FF(h:ps.length < m):bB ps hs ns m=af:=by
 unfold bB du;grind
theorem sX(e:jf ps s=ae (hs,ns))(ok:cu ps hs ns){r:List Hn×List Nt}(ea:bB ps hs ns m=ae r):∃b:TK,bR ps s m=ae b/\b.1=bH r.1 r.2:=by
 have a:m<=ps.length:=by
  by_cases z:m<=ps.length
  ·exact z
  ·rw[FF ⋯]at ea;trivial
 obtain⟨d,c⟩:=yD ok.1 ok.2.1 ok.2.2 a ea;have t:=CQ d c.2;refine⟨⟨_,t⟩,?_,rfl⟩;unfold bR;rw[e];show((bB ps hs ns m).bind _)=_;rw[ea];unfold xH;simp_all
theorem vC(e:jf ps s=ae (hs,ns))(ea:bB ps hs ns m=af):bR ps s m=af:=by
 unfold bR;rw[e];show((bB ps hs ns m).bind _)=_;rw[ea];rfl
theorem FK(e:jf ps s=ae (hs,ns))(ok:cu ps hs ns){b:TK}(h:bR ps s m=ae b):∃r,bB ps hs ns m=ae r/\b.1=bH r.1 r.2/\m<=ps.length:=by
 cases a:bB ps hs ns m with
 |none=>rw[vC e a]at h;cases h
 |some r=>
  obtain⟨f,c,d⟩:=sX e ok a;rw[h]at c;cases c;refine⟨r,rfl,d,?_⟩;by_cases z:m<=ps.length
  ·exact z
  ·rw[FF ⋯]at a;trivial
theorem DV(e:jf ps s=ae (hs,ns))(ok:cu ps hs ns):gE (bR ps) ps.length s=jc ps hs ns:=by
 refine List.filter_congr λi _=>?_;cases c:bB ps hs ns i with
 |none=>rw[vC e c];rfl
 |some r=>obtain⟨b,d,_⟩:=sX e ok c;rw[d];rfl
end
theorem mX{ps:Pg}{c:Nat}{s:TK}{n:Int}{R:DQ}(g:Gk ps c s)(r:R (.d (.list ((gE (bR ps) ps.length s).map λi=>.int (i:Nat)))) n):eJ [.d (cH ps),.d s.1] n R:=by
 obtain⟨h,b,e,f,a,_⟩:=lb g;rw[DV e a]at r;exact⟨ps,h,b,by rw[f],a,r⟩
theorem rC{ps:Pg}{c:Nat}{s b:TK}{i:Nat}{n:Int}{R:DQ}(g:Gk ps c s)(h:bR ps s i=ae b)(r:R (.d b.1) n):gZ [.d (cH ps),.d s.1,.d (.int (i:Nat))] n R:=by
 obtain⟨m,j,e,k,a,_⟩:=lb g;obtain⟨q,o,f,l⟩:=FK e a h;rw[f]at r;exact⟨ps,m,j,i,q,by rw[k],a,l,o,r⟩
theorem vw{ps:Pg}{c:Nat}{s:TK}(g:Gk ps c s):∃ds,s.1=.tuple ds:=by
 obtain⟨a,b,e,_⟩:=g;exact⟨_,e⟩
theorem zB{ps:Pg}{c:Nat}{s b:TK}{i:Nat}(g:Gk ps (c+1) s)(h:bR ps s i=ae b):Gk ps c b:=by
 obtain⟨p,n,e,o,a,m⟩:=lb g;obtain⟨q,l,f,j⟩:=FK e a h;obtain⟨k,d⟩:=yD a.1 a.2.1 ⟨Bc _,a.2.2.2⟩ j l;have:=d.1;exact⟨q.1,q.2,f,⟨a.1,k,by omega,d.2⟩,by omega⟩
theorem Oz{ps:Pg}{c:Nat}{s:TK}{i:Nat}{n:Int}{R:DQ}(g:Gk ps c s)(hi:i<=ps.length)(r:R (.d (match bR ps s i with|some b=>b.1|none=>.none)) n):di [.d (cH ps),.d s.1,.d (.int (i:Nat))] n R:=by
 obtain⟨h,a,e,l,k,_⟩:=lb g;refine⟨ps,h,a,i,by rw[l],k,hi,?_⟩;cases j:bB ps h a i with
 |none=>rw[vC e j]at r;exact r
 |some q=>
  obtain⟨b,m,o⟩:=sX e k j;rw[m]at r;have r:R (.d b.1) n:=r;rw[o]at r;exact r
theorem rL(ps:Pg):GoL eJ gZ (cH ps) ps.length (bR ps) (Gk ps) where
 mv:=λ_ _ _ _ g r=>mX g r
 go:=λ_ _ _ _ _ _ g h r=>rC g h r
 tup:=λ_ _ g=>vw g
 good:=λ_ _ _ _ g _ h=>zB g h
section
variable{ps:Pg}{Gd:TK->Prop}(h0:∀k,Gd k->Gk ps 0 k)(hc:∀(s:TK) (i:Nat) (b:TK),Gd s->i<=ps.length->bR ps s i=ae b->Gd b)
include h0 hc
theorem Qp:AfOk di (cH ps) ps.length (bR ps) Gd where
 call:=λ_ _ _ _ g a r=>Oz (h0 _ g) a r
 good:=hc
 tup:=λ_ g=>vw (h0 _ g)
 prog:=⟨_,rfl,Ab _⟩
end
def JN(ps:Pg)(g:Sg 2)(s:TK):Bool:=match jf ps s with
 |some p=>Sg.see ps ⟨p.1,p.2⟩ 2 g
 |none=>ai
theorem Lu:b9 oH RY ["programs","stand","hand","act"]:=λws n Q h=>by
 obtain⟨i,j,m,h,rfl,b,c,k⟩:=h;obtain⟨P,v,u,t,w,p,H⟩:=gq b.2.1 c;refine aB (bz (λQ q=>sC rfl rfl rfl b.2.1 c q) ?_);dsimp only[A3];cases f:bx i j h with
 |none=>
  unfold bE at k;rw[f]at k;assumption
 |some a=>
  rw[nH f]at k;obtain⟨s,r,e,o⟩:=xO (H.ok b.1 f);show aq _ _ [ae _,ae _,ae _,↑a.d] n _;rw[e];refine aB (bq (λQ q=>aF (λQ q=>au (av rfl (aG (gD q)))) q) ?_);dsimp only[aN];refine bN (u4 rfl o ?_);rw[Iv];cases g:a.wt with
  |false=>rw[g]at k;exact k
  |true=>
   rw[g]at k;refine au (bS (av rfl (av rfl (av rfl ⟨i,j,m,h,rfl,b,c,aG (gD ?_)⟩))));rw[Il];exact k
theorem Je{Q:List Ad->Int->Prop}{ps:Pg}{hs:List Hn}{ns:List Nt}{n:Int}(ok:cu ps hs ns)(k:Q (jK ps hs ns) n):c0 (aJ 0) (cT (aD oH (ao ↥1 (ao ↥2 (ao ↥0 ak))))) ↥0 Q (bL 0 ps.length) [] [af,↑(cH ps),↑(bH hs ns)] n:=by
 have e:bL 0 ps.length=(A9 ps.length).map λh=>.int h:=by
  unfold bL;simp
 rw[e];exact jq _ _ _ _ [] af n (λh a n b q=>bS (av rfl (av rfl (av rfl ⟨ps,hs,ns,h,rfl,ok,Ci.mp a,q⟩)))) (λh a n b q=>av rfl q) (k)
theorem Ld:∀ws n Q,g6 ws n Q->SW (dI Za ws) n {nx:=λ_ _=>False,rt:=λ_ _=>False,rn:=Q}:=λws n Q h=>by
 obtain⟨b,d,c,rfl,a,k⟩:=h;refine(show jz _ _ _ _ from(aX (av rfl ?_)));refine Al ⟨by omega,by rw[Ab];have:=a.1.1;omega⟩ ?_;rw[Ab];exact Je a k
section
variable{δ:Sl}{n:Int}{Q:DQ}{i:Nat}
theorem rh{m:List (TK×Ad)}(e:δ[i]?=ae (ae (.w (.ob (.y m)))))(k:Q (.ob (.y m)) n):eD i δ n Q:=by unfold eD;simp_all
theorem LH{d:Ad}(e:δ[i]?=ae (↑d))(k:Q (.d d) n):eD i δ n Q:=by unfold eD;simp_all
end
theorem OA(E:List (TK×Nat)):(eT E).map (λp=>p.1.1)=(E.map (·.1)).map (·.1):=by rw[By,By];rfl
theorem KR:∀ws n Q,lC di g6 ws n Q->ws.length=2:=λws n Q h=>by obtain⟨_,_,_,_,_,_,_,rfl,_⟩:=h;rfl
theorem LN:∀ws n Q,lC di g6 ws n Q->Qj (dI Za ws) n {nx:=λ_ _=>False,rt:=λ_ _=>False,rn:=Q}:=λws n Q h=>by
 obtain⟨i,d,N,a,f,J,r,rfl,A,l,m,g,j,o,q⟩:=h;refine(show jz _ _ _ _ from ?_);unfold jz cg ez;refine a7 (?_);dsimp only[B7];refine⟨i,d,N,a,f,J,rfl,A,l,m,g,j,jq _ _ r _ [] af n (λk c n p b=>?_) (λk c n p b=>av rfl b) (q)⟩;refine lR (λQ q=>a7 (?_)) (by rw[Bool.not_not];omega);unfold jF ao ak;refine av rfl (av rfl (o k c n _ λds e=>?_));show Q _ n;simp_all
theorem LS(ms:List Nat)(N:Nat):Cf (.list (ms.map λi=>.int (i:Nat))) (.list [.int (N:Nat)])=decide (ms=[N]):=by
 match ms with
 |[]=>rfl
 |[a]=>
  show C2 [.int _] [.int _]=_;rw[C2,C2,Bool.and_true,Cf];by_cases z:a=N
  ·subst z;simp
  ·rw[d_ λe=>z (Bp e).1];simp;omega
 |a::b::r=>
  show C2 (.int a::.int b::r.map λi=>.int _) [.int _]=_;rw[C2,C2];simp
theorem BW(ms:List Nat):(ms.map λi=>Ep (i:Nat))=(ms.map λi=>((i:Nat):Int)).map .int:=by rw[By];rfl
theorem Ik:∀ws n Q,lV eJ ws n Q->ws.length=3:=λws n Q h=>by obtain⟨_,_,_,rfl,_⟩:=h;rfl
theorem QL:∀ws n Q,lV eJ ws n Q->Im (dI ["_law_programs","_law_due","_law_told","_law_moves","_law_one","_law_steps"] ws) n {nx:=λ_ n=>Q (.d .none) n,rt:=Q}:=λws n Q h=>by
 obtain⟨A,E,g,rfl,hp,hl,B,U,s,up,hm,q⟩:=h;have S:(eT E).length<=1000:=by rw[Ab];omega
 have P:∀e∈E,∀(n:Int)(l:DQ),l (.d (.str e.1.1.shown)) n->m9 [.d e.1.1] n l:=λe b n l u=>by
  obtain⟨⟨ds,z⟩,h1,_⟩:=U e b;rw[z]at h1 u ⊢;exact .inr ⟨h1,u⟩
 have eF:(E.map (·.1)).filter g=(E.filter λe=>g e.1).map (·.1):=by rw[List.filter_map];rfl
 rw[eF];refine aB (show aq (aZ (oE (eD 1)) _ _) _ [ae _,ae (.w (.ob (.y _))),ae _,ae _,af,af] n _ from ?_);refine aB (show oE _ _ _ _ from rh rfl ⟨eT E,rfl,S,?_⟩);rw[OA];refine eZ (λds δ m=>m=n/\∃(f v:List _)(N:Option SV),ds=(v.map (·.1)).map _/\f++v=E/\δ=[ae _,ae _,ae _,ae (.odk (gR (f.filter λe=>g e.1))),N,af]) (λδ m I=>?_) (λd r δ m F I kN=>?_) _ _ _ ⟨rfl,[],E,af,rfl,rfl,rfl⟩
 ·obtain⟨rfl,f,v,N,R,c,rfl⟩:=I;cases Dt.mp (Dt.mp R.symm);rw[Br]at c;subst c;dsimp only;have p:∀e∈f.filter (λe=>g e.1),e∈f:=λe b=>(Dx.mp b).1;have lF:(f.filter λe=>g e.1).length<=900:=A0 (Em _ _) hl;have sF:(f.filter λe=>g e.1).Sublist f:=G2;have nF:=B.sublist (sF.map _);have T:=up.sublist (sF.map _);have W:=λe b X J=>s e (p e b) X (p X J);generalize hF:f.filter _=F at p lF nF T W;refine aB (bq (λQ q=>gv (λQ q=>lR (λQ q=>aF (λQ q=>av rfl q) q) q) (a7 ?_)) ?_)
  ·unfold cg ez;refine av rfl ?_;rw[By];refine vZ _ _ F af m (λe b n l u=>aX (av rfl (P e (p e b) n l u))) ?_;refine⟨F.map λe=>e.1.1.shown,by rw[By];rfl,by rw[Ab];omega,λk M=>?_,gR F,rfl,?_,q⟩
   ·obtain⟨e,b,rfl⟩:=A7.mp M;exact(U e (p e b)).2.2
   ·rw[gR,By,By];rfl
  ·dsimp only[aN];refine aB (a7 ?_);unfold cg ez;refine av rfl ?_;rw[By];refine vZ _ (λe=>.int (e.2:Nat)) F af m (λe b n l u=>au (Sw rfl (aX (av rfl (P e (p e b) n _ (?_)))))) ?_
   ·refine(show(match bA _ (.inr e.1.1.shown)with|some d=>l _ n|none=>False)from ?_);rw[Mw W nF b];omega
   ·dsimp only[A3];have Z:(F.map λe=>Ep (e.2:Nat))=(F.map λe=>((e.2:Nat):Int)).map .int:=by rw[By];rfl
    refine bN (au (av rfl (a7 (av rfl ⟨F.map λe=>((e.2:Nat):Int),by rw[Z],by rw[Ab];omega,?_,?_⟩))))
    ·rw[Fh]at T ⊢;exact T.imp λh=>Int.ofNat_le.mpr h
    ·have Y:Cn (.list ((F.map λe=>((e.2:Nat):Int)).map .int))=ah:=by exact uG _
     have dp:D2 (.list ((F.map λe=>((e.2:Nat):Int)).map .int))<=20:=by rw[D2];have:=qZ (F.map λe=>((e.2:Nat):Int));omega
     rw[Z];refine Al Y ⟨Y,dp,dp,ah,?_,q⟩;show ae (Cf (.list ((F.map λe=>((e.2:Nat):Int)).map .int)) (.list ((F.map λe=>((e.2:Nat):Int)).map .int)))=ae ah;rw[Cf,zY]
 ·obtain⟨rfl,f,v,N,R,c,rfl⟩:=I;obtain⟨k,re',ek,rfl,rfl⟩:=Dj.mp R.symm;obtain⟨e,L,rfl,rfl,rfl⟩:=Dj.mp ek;have b:e∈E:=by rw[<-c];exact B1 _ An
  have nw:=λx C z=>by
   have H:x∈E:=by rw[<-c];exact C4 _ C
   have M:=s x H e b z;rw[<-c,Bb,Gc]at B;exact B.2.2 x.1 (A7.mpr ⟨x,C,rfl⟩) e.1 An M
  have hdl:=by
   have:=congrArg Dy c;rw[As,Ax]at this;omega
  have t:∀o,o=gR ((f++[e]).filter λe=>g e.1)->F [↑(.tuple A),ae (.w (.ob (.y (eT E)))),↑(.list (((E.filter λe=>g e.1).map (·.1)).map (·.1))),ae (.odk o),↑e.1.1,af] m:=λo ho=>
   kN _ _ ⟨rfl,f++[e],L,↑e.1.1,rfl,by rw[<-c,A6];rfl,by rw[ho]⟩
  dsimp only[aJ,A3];refine cG (au (b7 (av rfl (av rfl (hm e b m _ λms O=>?_)))));refine a7 (?_);unfold aO;refine(P9 rfl ?_);refine Al (show 1<=1000 by decide) ?_;have V:Cn (.list (ms.map λi=>.int (i:Nat)))=ah:=by rw[Cn,BW];exact uG _
  have K:D2 (.list (ms.map λi=>.int (i:Nat)))<=20:=by rw[D2,BW];have:=qZ (ms.map λi=>((i:Nat):Int));omega
  have G:D2 (.list [.int ((A.length:Nat):Int)])<=20:=by exact A0 (Nat.add_le_add_right (qZ [((A.length:Nat):Int)]) 1) ∎
  refine Al V ⟨rfl,K,G,g e.1,?_,?_⟩
  ·show ae (Cf (.list (ms.map λi=>.int (i:Nat))) (.list [.int (A.length:Nat)]))=ae (g e.1);rw[LS,O]
  ·show if g e.1=ah then _ else _
   cases z:g e.1 with
   |false=>
    refine t _ ?_;rw[He,List.filter_cons_of_neg (by rw[z];simp)];simp
   |true=>
    rw[b_ rfl];refine(?_);refine(au (rh rfl (av rfl ⟨eT E,e.1.1,e.1,.int (e.2:Nat),.inr rfl,rfl,⟨rfl,(U e b).1⟩,wW B b,?_⟩)));refine aX (av rfl (P e b m _ ?_));refine Al ?_ (t _ ?_)
    ·rw[gR,Ab];exact D7 (Em _ _) ⋯
    ·rw[Qe λx C=>nw x (Dx.mp C).1,He,List.filter_cons_of_pos (by rw[z])];rfl
end Nb
namespace KG
open PySem PySem.W PyProof.Rows
def da(i:Int):List Nat:=(Ep i).shown.cps.toList
mutual
def Cs:Ad->List Nat
 |.none=>[78,111,110,101]
 |.int i=>da i
 |.str x=>39::(x.cps.toList++[39])
 |.tuple xs=>40::(match xs with
  |[]=>[41]
  |[x]=>Cs x++[44,41]
  |x::y::r=>Cs x++Cl (y::r))
 |_=>[]
def Cl:List Ad->List Nat
 |[]=>[41]
 |x::r=>44::32::(Cs x++Cl r)
end
mutual
def Pl:Ad->Prop
 |.none=>True
 |.int i=>da i≠[]
 |.str x=>39∉x.cps.toList/\(reprText x).cps.toList=39::(x.cps.toList++[39])
 |.tuple xs=>cS xs
 |_=>False
def cS:List Ad->Prop
 |[]=>True
 |x::r=>Pl x/\cS r
end
def nt(r:List Nat):Prop:=r=[]\/∃c t,r=c::t/\(c=44\/c=41)
theorem AW{k:Nat}:∀{a b r r':List Nat},k∉a->k∉b->a++k::r=b++k::r'->a=b/\r=r'
 |[],[],_,_,_,_,h=>⟨rfl,(Bp h).2⟩
 |[],y::b,_,_,_,d,h=>g_ ((Bp h).1▸An) d
 |x::a,[],_,_,c,_,h=>g_ ((Bp h).1▸An) c
 |x::a,y::b,_,_,c,d,h=>by
  have e:=(Bp h).1;subst e;obtain⟨rfl,rfl⟩:=AW (λm=>c (Ak _ m)) (λm=>d (Ak _ m)) ((Bp h).2);simp
theorem BU:∀{a b r r':List Nat},44∉a->41∉a->44∉b->41∉b->nt r->nt r'->a++r=b++r'->a=b/\r=r'
 |[],[],_,_,_,_,_,_,_,_,h=>⟨rfl,h⟩
 |[],y::b,r,_,_,_,j,g,d,_,h=>by
  rcases d with rfl|⟨c,t,rfl,l⟩
  ·cases h
  ·obtain⟨rfl,_⟩:=Bp h;rcases l with rfl|rfl
   ·exact g_ An j
   ·exact g_ An g
 |x::a,[],_,r',k,i,_,_,_,d,h=>by
  rcases d with rfl|⟨c,t,rfl,l⟩
  ·cases h
  ·obtain⟨rfl,_⟩:=Bp h;rcases l with rfl|rfl
   ·exact g_ An k
   ·exact g_ An i
 |x::a,y::b,_,_,k,i,j,g,d,n,h=>by
  have e:=(Bp h).1;subst e;obtain⟨rfl,rfl⟩:=BU (λm=>k (Ak _ m)) (λm=>i (Ak _ m)) (λm=>j (Ak _ m)) (λm=>g (Ak _ m)) d n ((Bp h).2);simp
theorem Pr{i:Int}(h:da i≠[]):∃c t,da i=c::t/\(c=45\/48<=c/\c<=57):=by
 cases e:da i with
 |nil=>exact g_ e h
 |cons c t=>
  refine⟨c,t,rfl,?_⟩;by_cases z:c=45\/48<=c/\c<=57
  ·exact z
  ·exact g_ (e▸An) (shown_int_free' ⋯ i)
theorem JR{i j:Int}(h:da i=da j):i=j:=by
 unfold da at h;rw[PyData.shown_int,PyData.shown_int,signs_ofString,signs_ofString]at h;exact Int.repr_injective (String.toList_inj.mp ((List.map_inj_right (λa b k=>Char.ext (UInt32.toNat_inj.mp k))).mp h))
theorem lW(xs:List Ad)(r:List Nat):nt (Cl xs++r):=by
 cases xs with
 |nil=>exact .inr ⟨41,r,rfl,.inr rfl⟩
 |cons x l=>exact .inr ⟨44,_,rfl,.inl rfl⟩
def kd(c:Nat):Nat:=if c=78 then 1 else if c=39 then 2 else if c=40 then 3 else if c=45\/48<=c/\c<=57 then 4 else 0
def kin:Ad->Nat
 |.none=>1
 |.str _=>2
 |.tuple _=>3
 |.int _=>4
 |_=>5
theorem uV:∀{d:Ad},Pl d->∃c t,Cs d=c::t/\kd c=kin d
 |.none,_=>⟨78,_,by trivial⟩
 |.str x,_=>⟨39,_,by trivial⟩
 |.tuple [],_=>⟨40,_,by trivial⟩
 |.tuple [x],_=>⟨40,_,by trivial⟩
 |.tuple (x::y::r),_=>⟨40,_,by trivial⟩
 |.int i,p=>by
  obtain⟨c,t,e,a⟩:=Pr (by simpa[Pl]using p);refine⟨c,t,by rw[Cs,e],?_⟩;show kd c=4;unfold kd;rw[a_ ⋯,a_ ⋯,a_ ⋯,b_ a]
 |.bool _,p=>by simp[Pl]at p
 |.list _,p=>by simp[Pl]at p
 |.dict _,p=>by simp[Pl]at p
theorem gh{d d':Ad}{r r':List Nat}(p:Pl d)(p':Pl d')(h:Cs d++r=Cs d'++r'):kin d=kin d':=by
 obtain⟨c,t,e,k⟩:=uV p;obtain⟨g,a,b,f⟩:=uV p';simp_all
theorem oG{d:Ad}(p:Pl d){r t:List Nat}(h:Cs d++r=41::t):False:=by
 obtain⟨c,a,e,k⟩:=uV p;rw[e]at h;rw[(Bp h).1]at k;cases d<;>simp[kin,kd]at k
mutual
theorem lD:∀(d d':Ad){r r':List Nat},Pl d->Pl d'->nt r->nt r'->Cs d++r=Cs d'++r'->d=d'/\r=r'
 |.none,.none,r,r',_,_,_,_,h=>⟨rfl,by simpa[Cs]using h⟩
 |.int i,.int j,r,r',_,_,d,d',h=>by
  have f:∀n:Int,44∉da n/\41∉da n:=λn=>⟨shown_int_free' ∎ n,shown_int_free' ∎ n⟩;obtain⟨e,e2⟩:=BU (f i).1 (f i).2 (f j).1 (f j).2 d d' (by simpa[Cs]using h);exact⟨congrArg _ (JR e),e2⟩
 |.str x,.str y,r,r',p,p',_,_,h=>by
  rw[Cs,Cs]at h;have h2:(x.cps.toList++[39])++r=(y.cps.toList++[39])++r':=(Bp h).2;rw[A6,A6]at h2;obtain⟨e,e2⟩:=AW (show 39∉x.cps.toList from(by simpa[Pl]using p:_/\_).1) (show 39∉y.cps.toList from(by simpa[Pl]using p':_/\_).1) h2;refine⟨congrArg _ ?_,e2⟩;cases x;cases y;exact congrArg _ (Gp.mp e)
 |.tuple xs,.tuple ys,r,r',p,p',_,_,h=>by
  have p1:cS xs:=by simpa[Pl]using p
  have p2:cS ys:=by simpa[Pl]using p'
  match xs,ys,p1,p2,h with
  |[],[],_,_,h=>exact⟨rfl,by simpa[Cs]using h⟩
  |[],[y],_,p2,h=>
   rw[cS]at p2;rw[Cs,Cs]at h;have h2:41::r=(Cs y++[44,41])++r':=(Bp h).2;rw[A6]at h2;exact(oG p2.1 h2.symm).elim
  |[],y::z::l,_,p2,h=>
   rw[cS]at p2;rw[Cs,Cs]at h;have h2:41::r=(Cs y++Cl (z::l))++r':=(Bp h).2;rw[A6]at h2;exact(oG p2.1 h2.symm).elim
  |[x],[],p1,_,h=>
   rw[cS]at p1;rw[Cs,Cs]at h;have h2:(Cs x++[44,41])++r=41::r':=(Bp h).2;rw[A6]at h2;exact(oG p1.1 h2).elim
  |x::z::l,[],p1,_,h=>
   rw[cS]at p1;rw[Cs,Cs]at h;have h2:(Cs x++Cl (z::l))++r=41::r':=(Bp h).2;rw[A6]at h2;exact(oG p1.1 h2).elim
  |[x],[y],p1,p2,h=>
   rw[cS]at p1 p2;rw[Cs,Cs]at h;have h2:(Cs x++[44,41])++r=(Cs y++[44,41])++r':=(Bp h).2;rw[A6,A6]at h2;obtain⟨e,e2⟩:=lD x y p1.1 p2.1 (.inr ⟨44,_,rfl,.inl rfl⟩) (.inr ⟨44,_,rfl,.inl rfl⟩) h2;exact⟨by rw[e],by simpa using e2⟩
  |[x],y::z::l,p1,p2,h=>
   rw[cS]at p1 p2;rw[Cs,Cs]at h;have h2:(Cs x++[44,41])++r=(Cs y++Cl (z::l))++r':=(Bp h).2;rw[A6,A6]at h2;obtain⟨e,e2⟩:=lD x y p1.1 p2.1 (.inr ⟨44,_,rfl,.inl rfl⟩) (lW _ _) h2;simp[Cl]at e2
  |x::z::l,[y],p1,p2,h=>
   rw[cS]at p1 p2;rw[Cs,Cs]at h;have h2:(Cs x++Cl (z::l))++r=(Cs y++[44,41])++r':=(Bp h).2;rw[A6,A6]at h2;obtain⟨e,e2⟩:=lD x y p1.1 p2.1 (lW _ _) (.inr ⟨44,_,rfl,.inl rfl⟩) h2;simp[Cl]at e2
  |x::z::l,y::z'::l',p1,p2,h=>
   rw[cS]at p1 p2;rw[Cs,Cs]at h;have h2:(Cs x++Cl (z::l))++r=(Cs y++Cl (z'::l'))++r':=(Bp h).2;rw[A6,A6]at h2;obtain⟨e,e2⟩:=lD x y p1.1 p2.1 (lW _ _) (lW _ _) h2;obtain⟨e3,e4⟩:=xi (z::l) (z'::l') p1.2 p2.2 e2;exact⟨by rw[e,e3],e4⟩
 |.none,.int _,_,_,p,p',_,_,h=>nomatch gh p p' h
 |.none,.str _,_,_,p,p',_,_,h=>nomatch gh p p' h
 |.none,.tuple _,_,_,p,p',_,_,h=>nomatch gh p p' h
 |.int _,.none,_,_,p,p',_,_,h=>nomatch gh p p' h
 |.int _,.str _,_,_,p,p',_,_,h=>nomatch gh p p' h
 |.int _,.tuple _,_,_,p,p',_,_,h=>nomatch gh p p' h
 |.str _,.none,_,_,p,p',_,_,h=>nomatch gh p p' h
 |.str _,.int _,_,_,p,p',_,_,h=>nomatch gh p p' h
 |.str _,.tuple _,_,_,p,p',_,_,h=>nomatch gh p p' h
 |.tuple _,.none,_,_,p,p',_,_,h=>nomatch gh p p' h
 |.tuple _,.int _,_,_,p,p',_,_,h=>nomatch gh p p' h
 |.tuple _,.str _,_,_,p,p',_,_,h=>nomatch gh p p' h
 |.bool _,_,_,_,p,_,_,_,_=>by simp[Pl]at p
 |.list _,_,_,_,p,_,_,_,_=>by simp[Pl]at p
 |.dict _,_,_,_,p,_,_,_,_=>by simp[Pl]at p
 |_,.bool _,_,_,_,p,_,_,_=>by simp[Pl]at p
 |_,.list _,_,_,_,p,_,_,_=>by simp[Pl]at p
 |_,.dict _,_,_,_,p,_,_,_=>by simp[Pl]at p
theorem xi:∀(xs ys:List Ad){r r':List Nat},cS xs->cS ys->Cl xs++r=Cl ys++r'->xs=ys/\r=r'
 |[],[],r,r',_,_,h=>⟨rfl,by simpa[Cl]using h⟩
 |[],_::_,_,_,_,_,h=>by simp[Cl]at h
 |_::_,[],_,_,_,_,h=>by simp[Cl]at h
 |x::xs,y::ys,r,r',p,p',h=>by
  rw[Cl,Cl]at h;have h2:(Cs x++Cl xs)++r=(Cs y++Cl ys)++r':=(Bp (Bp h).2).2;rw[A6,A6]at h2;obtain⟨e,e2⟩:=lD x y (by simpa[cS]using p.1) (by simpa[cS]using p'.1) (lW _ _) (lW _ _) h2;obtain⟨e3,e4⟩:=xi xs ys (by simpa[cS]using p.2) (by simpa[cS]using p'.2) e2;exact⟨by rw[e,e3],e4⟩
end
mutual
theorem kr:∀(d:Ad),Pl d->d.shown.cps.toList=Cs d
 |.none,_=>by rw[PyData.shown_none,Cs];decide +kernel
 |.int i,_=>by rw[Cs];rfl
 |.str x,p=>by
  rw[Pl]at p;rw[PyData.shown_str,Cs];exact p.2
 |.tuple [],_=>by rw[Cs];decide +kernel
 |.tuple [x],p=>by
  rw[Pl,cS]at p;rw[PyData.shown_tuple,Cs,Eg,Eg,Df,Df,join_one,kr x p.1];rfl
 |.tuple (x::y::r),p=>by
  rw[Pl,cS]at p;rw[PyData.shown_tuple,Cs,Eg,Eg,Df,Df,join_cons_cons,Eg,Eg,kr x p.1];have j:=BN (y::r) p.2 (λe=>nomatch e);rw[Df,Cl]at j;rw[Cl,<-show _=Cs y++Cl r from j];simp[signs_ofString]
 |.bool _,p=>by simp[Pl]at p
 |.list _,p=>by simp[Pl]at p
 |.dict _,p=>by simp[Pl]at p
theorem BN:∀(l:List Ad),cS l->l≠[]->(Str.join ", " (Df l)).cps.toList++[41]=(Cl l).drop 2
 |[],_,h=>g_ rfl h
 |[y],p,_=>by
  rw[cS]at p;rw[Df,Df,join_one,kr y p.1,Cl,Cl];rfl
 |y::z::r,p,_=>by
  rw[cS]at p;rw[Df,Df,join_cons_cons,Eg,Eg,kr y p.1];have j:=BN (z::r) p.2 (λe=>nomatch e);rw[Df,Cl]at j;rw[Cl,Cl,<-show _=Cs z++Cl r from j];simp[signs_ofString]
end
theorem shown_inj{d d':Ad}(p:Pl d)(p':Pl d')(h:d.shown=d'.shown):d=d':=
 (lD d d' p p' (.inl rfl) (.inl rfl) (by rw[<-kr d p,<-kr d' p',h])).1
end KG
namespace KG
open PySem PySem.W PyProof.Rows
theorem Jo(i:Int):da i≠[]:=by
 unfold da;rw[PyData.shown_int,signs_ofString];intro h;have h:=Dt.mp h;have:toString i="":=String.toList_inj.mp h
 revert this
 cases i with
 |ofNat n=>
  intro h;have d:(Nat.repr n).length=0:=congrArg String.length h;simp_all
 |negSucc n=>
  intro h;have d:=congrArg String.length (show "-"++Nat.repr _="" from h);simp_all
mutual
theorem oP:∀(d:Ad),Pl d->Cn d=ah->∀c∈Cs d,c < 1114112
 |.none,_,_=>by rw[Cs];decide
 |.int i,_,_=>λc hc=>by
  rw[Cs]at hc;by_cases z:c=45\/48<=c/\c<=57
  ·omega
  ·exact g_ hc (shown_int_free' (k:=c) ⋯ i)
 |.str x,_,h=>λc hc=>by
  rw[Cn]at h;rw[Cs]at hc;rcases Ar.mp hc with rfl|hc
  ·decide
  ·rcases A4.mp hc with hc|hc
   ·have:=Array.all_eq_true_iff_forall_mem.mp h c (Array.mem_toList_iff.mp hc);exact e_ this
   ·rw[Bm.mp hc];decide
 |.tuple [],_,_=>by rw[Cs];decide
 |.tuple [x],p,h=>λc hc=>by
  rw[Pl,cS]at p;rw[Cn,Cq,Bi]at h;rw[Cs]at hc;rcases Ar.mp hc with rfl|hc
  ·decide
  ·rcases A4.mp hc with hc|hc
   ·exact oP x p.1 h.1 c hc
   ·have:∀c∈[44,41],c < 1114112:=by decide
    exact this c hc
 |.tuple (x::y::r),p,h=>λc hc=>by
  rw[Pl,cS]at p;rw[Cn,Cq,Bi]at h;rw[Cs]at hc;rcases Ar.mp hc with rfl|hc
  ·decide
  ·rcases A4.mp hc with hc|hc
   ·exact oP x p.1 h.1 c hc
   ·exact y2 (y::r) p.2 h.2 c hc
 |.bool _,p,_=>by simp[Pl]at p
 |.list _,p,_=>by simp[Pl]at p
 |.dict _,p,_=>by simp[Pl]at p
theorem y2:∀(l:List Ad),cS l->Cq l=ah->∀c∈Cl l,c < 1114112
 |[],_,_=>by rw[Cl];decide
 |x::r,p,h=>λc hc=>by
  rw[cS]at p;rw[Cq,Bi]at h;rw[Cl]at hc;rcases Ar.mp hc with rfl|hc
  ·decide
  ·rcases Ar.mp hc with rfl|hc
   ·decide
   ·rcases A4.mp hc with hc|hc
    ·exact oP x p.1 h.1 c hc
    ·exact y2 r p.2 h.2 c hc
end
theorem shown_ok{d:Ad}(p:Pl d)(h:Cn d=ah):Ed d.shown=ah:=by
 refine Array.all_eq_true_iff_forall_mem.mpr λc a=>c_ (oP d p h c ?_);rw[<-kr d p];exact Array.mem_toList_iff.mpr a
end KG
namespace Nb
open PySem L2 DL KG
theorem O4{c:Nat}(h:oQ c=ah):97<=c/\c<=122:=by
 unfold oQ at h;rw[Bi]at h;have e:("a":Str).cps.toList=[97]:=by rfl
 have d:("z":Str).cps.toList=[122]:=by rfl
 have b:=by simpa using h.1
 have a:=by simpa using h.2
 refine⟨Nat.not_lt.mp λz=>b ?_,Nat.not_lt.mp λz=>a ?_⟩
 ·exact List.Lex.rel z
 ·exact List.Lex.rel z
theorem Ji:∀c,c < 26->Builtin.Str.reprChar 39 (97+c)=[97+c]:=by trivial
theorem zF:∀(l:List Nat)(o:Array Nat),(∀c∈l,Builtin.Str.reprChar 39 c=[c])->(l.foldl (λout c=>out++(Builtin.Str.reprChar 39 c).toArray) o).toList=o.toList++l
 |[],o,_=>by simp
 |c::l,o,h=>by
  rw[Eo,zF l _ λd a=>h d (Ak _ a),h c An];simp
theorem yS{x:Str}(h:x.cps.toList.all oQ=ah):Pl (.str x):=by
 have f:=λc d=>O4 (E4.mp h c d);have b:39∉x.cps.toList:=λz=>by have:=f 39 z;omega
 refine⟨b,?_⟩;have g:reprQuote x=39:=by
  unfold reprQuote;simp_all
 unfold reprText;rw[g,Array.toList_push,<-Array.foldl_toList,zF _ _ λc d=>?_]
 ·rfl
 ·have:=f c d;have e:=Ji (c-97) ⋯;simp_all
theorem pL(i:Int):Pl (.int i):=Jo i
theorem AM:∀{ds:List Ad},(∀d∈ds,Pl d)->cS ds
 |[],_=>by trivial
 |d::r,h=>⟨h d An,AM λe a=>h e (Ak _ a)⟩
theorem jE{ds:List Ad}(h:∀d∈ds,Pl d):Pl (.tuple ds):=AM h
theorem mz{d:Ad}(h:bO d=ah):Pl d:=by
 cases d with
 |str x=>
  unfold bO at h;simp only[Bi]at h;rcases e_ h.2.2 with rfl|rfl|rfl<;>exact yS (by rfl)
 |int i=>exact pL i
 |_=>cases h
theorem tJ{x:Str}(h:okX x):Pl (.str x):=by
 have:=h.2.2;unfold kc at this;rw[Bi,Bi]at this;exact yS this.2.2
theorem JU{ps:Pg}{hs:List Hn}{ns:List Nt}(o_:okHs ps hs)(p_:∀q∈ns,lT q):Pl (bH hs ns):=by
 refine jE λd b=>eO ?_ ?_ b
 ·refine jE λd b=>?_;obtain⟨h,k,rfl⟩:=A7.mp b;refine jE λd b=>?_;rcases Ar.mp b with rfl|b
  ·exact pL _
  ·refine eO (pL _) (jE λd b=>?_) b;obtain⟨p,l,rfl⟩:=A7.mp b;have o:=zf o_ h k p l;exact jE λe j=>eO (tJ o.1) (mz o.2) j
 ·refine jE λd b=>?_;obtain⟨q,g,rfl⟩:=A7.mp b;refine jE λd b=>eO (jE λd b=>mz ((p_ q g).1.2 d b)) ?_ b;rcases(p_ q g).2 with e|⟨i,e,_⟩
  ·rw[e];trivial
  ·rw[e];exact pL i
end Nb
namespace Nb
open PySem L2 DL
theorem ED{aft:TK->Nat->Option TK}{N:Nat}{s0:TK}:∀j,((El aft N s0 j).map (·.1)).Nodup
 |0=>by simp[El]
 |j+1=>by
  have d:=ED (aft:=aft) (N:=N) (s0:=s0) j;show(List.map _ (match _[j]? with|some s=>dM aft N _ s|none=>El aft N s0 j)).Nodup;cases(El aft N s0 j)[j]? with
  |none=>exact d
  |some s=>
   have b:∀(a:List Nat) E,(E.map (·.1)).Nodup->((a.foldl (dS aft s) E).map (·.1)).Nodup:=by
    intro a
    induction a with
    |nil=>exact λE h=>h
    |cons i a c=>exact λE h=>c _ (AS h)
   exact b _ _ d
def qt(ps:Pg)(s:TK):Bool:=match jf ps s with
 |some p=>(jK ps p.1 p.2).isEmpty
 |none=>ai
theorem J5{ps:Pg}{c:Nat}{k:TK}{n:Int}{R:List Ad->Int->Prop}(g:Gk ps c k)(r:∀ds:List Ad,ds.isEmpty=qt ps k->R ds n):g6 [.d (cH ps),.d k.1] n R:=by
 obtain⟨h,b,e,a,f,_⟩:=lb g;refine⟨ps,h,b,by rw[a],f,r _ ?_⟩;unfold qt;rw[e]
theorem PN{ps:Pg}{c:Nat}{k:TK}{n:Int}{R:DQ}(g:Gk ps c k)(r:∀ms:List Nat,decide (ms=[ps.length])=qt ps k->R (.d (.list (ms.map λi=>.int (i:Nat)))) n):eJ [.d (cH ps),.d k.1] n R:=by
 obtain⟨m,j,e,o,b,_⟩:=lb g;refine mX g (r _ ?_);unfold qt;rw[e,DV e b,CM b.2.1];show _=(((A9 ps.length).filter _).map λh=>Ep _).isEmpty;cases(A9 ps.length).filter (bE ps m j)with
 |nil=>exact c_ rfl
 |cons a l=>exact d_ λz=>by simp_all
theorem IW:yg (af::ae (.w .tp)::Dh 4 af) 0 mP:=by
 show yg [af,ae _,af,af,af,af] 0 mP;refine aB (de (av rfl ⟨rfl,by decide,λps p u n1 K G C S=>?_⟩));refine Al rfl ?_;dsimp only[bK,dt,A3];have hl:=C.1;obtain⟨c,L⟩:∃c:TK,c.1=bH p u:=⟨⟨_,CQ G C.2⟩,rfl⟩;have I:Gk ps 71 c:=⟨p,u,L,⟨K,G,by omega,C.2⟩,by omega⟩;rw[<-L];refine aB (⟨_,c,70,_,_,_,rfl,rL ps,I,by decide,by decide,?_,λJ Z Y=>?_⟩)
 ·dsimp only[B7];exact aB (bP (λQ q=>aF (λQ q=>au (LH rfl (aG (.inr (KN q))))) q) rfl)
 ·dsimp only[B7];refine aB (bq (λQ q=>aF (λQ q=>au (rh rfl (aG (.inr (Mo q))))) q) ?_);dsimp only[aN];have lk:(Lr (bR ps) ps.length c J).length=(El (bR ps) ps.length c J).length:=by rw[<-jA,Ab]
  have H:(Lr (bR ps) ps.length c J).length<=J:=by simp_all
  have y:∀e∈El _ ps.length c J,Gk ps 0 e.1:=λe j=>by
   obtain⟨p,u,O,P,h3⟩:=((ve (Gk:=Gk ps) (λ_ _ _ _ g _ h=>zB g h) I J Y) e j).2;exact⟨p,u,O,P,by omega⟩
  have M:∀k∈Lr _ ps.length c J,Gk ps 0 k:=λk z=>by
   rw[<-jA]at z;obtain⟨e,j,rfl⟩:=A7.mp z;exact y e j
  have N:∀s i b,s∈Lr _ ps.length c J->i<=ps.length->bR ps s i=ae b->b∈Lr _ ps.length c J:=λs i b p X e=>K5 H p X e;have V:c∈Lr (bR ps) ps.length c J:=by
   have:=(lN c 0 J).subset (show c∈Lr (bR ps) ps.length c 0 by simp[Lr]);simp_all
  have W:=K.1;have v:∀e∈El _ ps.length c J,KG.Pl e.1.1/\Small e.1.1:=λe j=>by
   obtain⟨p,u,T,t,_⟩:=y e j;rw[T];exact⟨JU t.2.1 t.2.2.2,Rw t.1 t.2.1 ⟨A0 t.2.2.1 ∎,t.2.2.2⟩⟩
  have l:∀n (R:DQ),R _ n->lV eJ [.d (cH ps),.ob _,.d _] n R:=λn R r=>
   ⟨_,El (bR ps) ps.length c J,_,by rw[jA];rfl,by rw[Ab];omega,by omega,ED J,λe j=>⟨vw (y e j),(v e j).2,KG.shown_ok (v e j).1 (v e j).2.1⟩,λe j U D h=>Subtype.ext (KG.shown_inj (v e j).1 (v U D).1 h),(zG J).1,λe j n R r=>PN (y e j) (by rw[Ab]at r;exact r),r⟩
  have m:∀n (R:List Ad->Int->Prop),R _ n->lC di g6 [.d _,.d c.1] n R:=λn R r=>
   ⟨_,c,_,_,λk=>k∈Lr _ ps.length c J,J,_,rfl,Qp M N,V,by omega,H,by omega,λk z n R r=>J5 (M k z) r,r⟩
  refine aB (⟨show 5 < 6 by decide,?_⟩);dsimp only[ao,ak,aj,eD,B7];refine m _ _ (l _ _ ⟨rfl,bN (bS (av rfl (rh rfl (a7 (?_)))))⟩);dsimp only[jF,ao,ak,aj,B7];refine m _ _ (l _ _ ?_);rfl
theorem RE:∀ws n Q,lM di ws n Q->ws.length=2:=λws n Q h=>by obtain⟨_,_,_,_,_,_,rfl,_⟩:=h;rfl
theorem Mz:∀ws n Q,lM di ws n Q->KH (dI ["programs","stand","steps","stands"] ws) n {nx:=λ_ _=>False,rt:=λ_ _=>False,rx:=Q}:=QM di
theorem Ls:∀ws n Q,nu di ws n Q->ws.length=2:=λws n Q h=>by obtain⟨_,_,_,_,_,_,rfl,_⟩:=h;rfl
theorem NI:∀ws n Q,nu di ws n Q->Q3 (dI Za ws) n {nx:=λ_ _=>False,rt:=λ_ _=>False,rn:=Q}:=IB di
theorem Oe:∀ws n Q,nT eJ gZ ws n Q->ws.length=3:=λws n Q h=>by obtain⟨_,_,_,_,_,_,rfl,_⟩:=h;rfl
theorem JM:∀ws n Q,nT eJ gZ ws n Q->RN (dI Zb ws) n {nx:=λ_ _=>False,rt:=λw n=>w=.d .none/\Q af n,rx:=λkvs n=>Q (ae kvs) n}:=RW eJ gZ
end Nb
namespace Nb
open PySem L2
def uX(K:Ag):Sp:=λvs H Q _=>∃(a:A')(ns:List Int),vs=[.ref a]/\SqL K H a (ns.map V.int)/\ns.length<=63 /\
 ∀(t p g:A')(H':Hp),H' t=ae (.lst [.ref p,.int 0,.int 0,.ref g])->H' p=ae (.lst (ns.map V.int))->t≠p->Q (.ref t) H'
abbrev wK:TE:=iJ (br (tC .non) (br (tC .non) (br (tC .non) (br (tC (.int 1)) (br (tC (.int 2)) aW)))))
end Nb
namespace DL
open PySem L2 Nb
section
variable{P:A1}{w:Bh}{K:Ag}{mg:Str->Option Af}{base:Heap}
theorem Ri{f:A'}{fd:Cc}{st:Stmt}{N:List Str}{k:Nat}{W:aE}(F:Fun K "law" "law" st f fd)(Sc:FnScope N ["_law_script"] (bJ st))
  (hN:∀v,start N [v]=ae v::af::Dh (N.length-2) af)
  (hW:W (af::ae (.w .tp)::Dh (N.length-2) af) 0 mP)
  (hbody:∀(n_:Af)(A:Bo)(outer:List Env)(s:Ai)(H:Hp)(E:XK),Room k (A.deeper (C3 "law" (bJ st) s.heap.objs.size f n_))->
   ∃s0 s1 aA T,ec st=s0::s1::aA/\PS (b8 bW P w K mg base N "law" (bJ st) f n_ A outer s H E).nox s0 (bw (ee (uX K) [] E0 (br (aI 0) aW)) (dg 1))/\PS (b8 bW P w K mg base N "law" (bJ st) f n_ A outer s H E).nox s1 (bw wK (iA (aI 1) (tC (.int 3)) qK))/\DSs (b8 bW P w K mg base N "law" (bJ st) f n_ A outer s H E).nox aA T W):
  FnOk P w K mg base bW (k+1) f fd ["_law_script"] (spLaw K):=by
 refine F.ok Sc (λvs H Q E h=>?_) (λn_ A outer s H S Q E L h=>?_)
 ·obtain⟨a,i,rfl,_⟩:=h;rfl
 ·obtain⟨a,i,rfl,I,o,J⟩:=h;obtain⟨s0,s1,aA,T,e,G,x,d⟩:=hbody n_ A outer s H E L;rw[e];refine⟨_,fg G (fg x d.ps),?_⟩;rw[hN];refine⟨_,rfl,a,i,rfl,I,o,λt p g D y O l=>⟨small ∎,λq u=>?_⟩⟩;have b:q≠t:=λz=>by rw[z,y]at u;cases u
  have j:q≠p:=λz=>by simp_all
  refine⟨_,rfl,t,_,3,3,rfl,rfl,(by rw[aH b.symm];omega),rfl,?_⟩;have C:Tp (upd (upd D q (.lst pT)) t _) t ⟨p,q⟩ i 0:={
   ob:=⟨0,0,a9,Int.le_refl _,Int.le_refl _⟩
   ls:=by rw[aH l.symm,aH j.symm];omega
   len:=o
   ag:=λ_=>by rw[aH b,a9]
   gne:=b}
  refine d.sd _ _ _ _ _ 0 mP _ (KY C) hW ⟨?_,?_,?_,?_,λ_ _ _ _ _ _ _ _ _ _ _ _ _ z=>z.elim,λ_ _ _ _ _ _ _ _ _ _ _ _ _ z=>z.elim⟩
  ·exact λ_ _ _ _ _ _ z=>z.elim
  ·intro H B σ δ n v w R r z;subst z;cases(show RdX H B v (.bool ah)from r);exact J H
  ·exact λ_ _ _ _ _ _ z=>z.elim
  ·exact λ_ _ _ _ _ _ z=>z.elim
end
theorem S1{X:Cx}{K:Ag}{e:Expr}{te:TE}{we:DT}(h:DE X e te we)(hK:X.K=K)(he:∀whole,isTrue e X.env whole=(do let v <-whole;standAt e.pos;holding [v] (truthy v))):DC X e (λσ H Q=>te σ H λx H'=>∃k,iQ K x H' k/\Q k H') (gw we):=by
 subst hK;exact yB h he
end DL
namespace Nb
open PySem L2 DL
theorem L8{α:Type}{us:List α}(h:us.length=1):∃a,us=[a]:=match us,h with|[a],_=>⟨a,rfl⟩
theorem GR{α:Type}{us:List α}(h:us.length=2):∃a b,us=[a,b]:=match us,h with|[a,b],_=>⟨a,b,rfl⟩
theorem IC{α:Type}{us:List α}(h:us.length=3):∃a b c,us=[a,b,c]:=match us,h with|[a,b,c],_=>⟨a,b,c,rfl⟩
theorem Ie{α:Type}{us:List α}(h:us.length=4):∃a b c d,us=[a,b,c,d]:=match us,h with|[a,b,c,d],_=>⟨a,b,c,d,rfl⟩
theorem IF{α:Type}{us:List α}(h:us.length=5):∃a b c d e,us=[a,b,c,d,e]:=match us,h with|[a,b,c,d,e],_=>⟨a,b,c,d,e,rfl⟩
theorem lL{N ps:List Str}{S:Fb}(h1:S.kind=.function:=by rfl)(h2:S.isCoroutine=ai:=by rfl)(h3:S.isGenerator=ai:=by rfl)(h4:N.Nodup:=by decide +kernel)(h5:N.take ps.length=ps:=by rfl)(h6:∀x∈ps,S.names.lookup x=ae .local\/S.names.lookup x=ae .cell:=by decide +kernel)(h7:∀y∈S.names,y.2≠.free:=by decide +kernel):FnScope N ps S:=⟨h1,h2,h3,h4,h5,h6,h7⟩
theorem ua{X:Cx}{e:Expr}{es:List Expr}{pos p:Pos}{tR:TA}{wR:cK}{k k':Nat}{ps:List Str}{S:aP}{x:Str}(h:Has X.prog X.w X.K X.mg X.base k x ps S)(hr:Room k' X.A)(ha:DA X (e::es) tR wR)(hk:k<=k')(hg:Gl X x)(hdb:(x==("__debug__":Str))=ai)(he:Aq (e::es) X.env=(ai,eval e X.env)::Aq es X.env)(q_:(C0 pos (Aq es X.env)).any (·.1)=ai):DE X (.Call (.Name x p) (e::es) [] pos) (ee (dv S) [] E0 tR) (aD S wR):=DY h (hr.mono hk) hg ha hdb he q_
theorem vb{X:Cx}{e:Expr}{es:List Expr}{pos p:Pos}{tR:TA}{wR:cK}{k k':Nat}{ps:List Str}{S:cz}{x:Str}(h:HasN X.prog X.w X.K X.mg X.base k x ps S)(hr:Room k' X.A)(ha:DA X (e::es) tR wR)(hk:k<=k')(hg:Gl X x)(hdb:(x==("__debug__":Str))=ai)(he:Aq (e::es) X.env=(ai,eval e X.env)::Aq es X.env)(q_:(C0 pos (Aq es X.env)).any (·.1)=ai):DF X (.Call (.Name x p) (e::es) [] pos) (ee (jS S) [] E0 tR) (jF S wR):=Mf h (hr.mono hk) hg ha hdb he q_
theorem O7{X:Cx}{e:Expr}{es:List Expr}{pos p pos' ap:Pos}{tR:TA}{wR:cK}{k k' i:Nat}{ps:List Str}{S:iz}{x y:Str}(h:HasXO X.prog X.w X.K X.mg X.base k x ps S)(hr:Room k' X.A)(ha:DA X (e::es) tR wR)(hk:k<=k')(hg:Gl X x)(hN:X.N.Nodup)(hi:X.N[i]?=ae y)(hx:fA X.env.scope y)(hs:Cy (.Call (.Name x p) (e::es) [] pos) (ae (.Name y pos')) ap.line X.env=pure ai)(hf:X.fn y=ah\/X.env.scope.names.lookup y=ae .local)(hdb:(x==("__debug__":Str))=ai)(he:Aq (e::es) X.env=(ai,eval e X.env)::Aq es X.env)(q_:(C0 pos (Aq es X.env)).any (·.1)=ai):DS X (.Assign [.Name y pos'] (.Call (.Name x p) (e::es) [] pos) ap) (bw (ee (og S) [] E0 tR) (dg i)) (rz i S wR):=GX h (hr.mono hk) hg hN hi hx ha hs hf hdb he q_
theorem vQ{X:Cx}{pos p0 p1 p2 p3 p4 cp:Pos}{x0 x1 x2 f:Str}{h i j k k':Nat}{ps:List Str}{Sa:aP}{wR:cK}(F:HasM X.prog X.w X.K X.mg X.base k f ps Sa)(hr:Room k' X.A)(ha:DA X [.Name x0 p1,.Name x1 p2,.Name x2 p3] (br (aI h) (br (aI i) (br (aI j) aW))) wR)(hk:k<=k')(hg:Gl X f)(hN:X.N.Nodup)(h2:X.N[j]?=ae x2)(hx:fA X.env.scope x2)(hij:i≠j)
  (hs:Cy (.Call (.Name f p0) [.Name x0 p1,.Name x1 p2,.Name x2 p3] [] cp) (ae (.Name x2 p4)) pos.line X.env=pure ai) (hf:X.fn x2=ah\/X.env.scope.names.lookup x2=ae .local) (hdb:(f==("__debug__":Str))=ai) (he:Aq (.Name x0 p1::[.Name x1 p2,.Name x2 p3]) X.env=(ai,eval (.Name x0 p1) X.env)::Aq [.Name x1 p2,.Name x2 p3] X.env) (q_:(C0 cp (Aq [.Name x1 p2,.Name x2 p3] X.env)).any (·.1)=ai):
  DS X (.Assign [.Name x2 p4] (.Call (.Name f p0) [.Name x0 p1,.Name x1 p2,.Name x2 p3] [] cp) pos) (bw (ee (qy Sa) [] E0 (br (aI h) (br (aI i) (br (aI j) aW)))) (dg j)) (iR Sa h i j):=S0 F (hr.mono hk) hg hN h2 hx hij ha hs hf hdb he q_
theorem vK{X:Cx}{e:Expr}{es:List Expr}{pos p:Pos}{tR:TA}{wR:cK}{k k':Nat}{ps:List Str}{S:eE}{x:Str}(h:HasX X.prog X.w X.K X.mg X.base k x ps S)(hr:Room k' X.A)(ha:DA X (e::es) tR wR)(hk:k<=k')(hg:Gl X x)(hdb:(x==("__debug__":Str))=ai)(he:Aq (e::es) X.env=(ai,eval e X.env)::Aq es X.env)(q_:(C0 pos (Aq es X.env)).any (·.1)=ai):DE X (.Call (.Name x p) (e::es) [] pos) (ee (m3 S) [] E0 tR) (pN S wR):=Jh h (hr.mono hk) hg ha hdb he q_
def Rm:NameKind->Bool
 |.local=>ah
 |_=>ai
def wZ:NameKind->Bool
 |.free=>ah
 |_=>ai
def qR(sc:Fb):List Str:=(sc.names.filter λy=>wZ y.2).map (·.1)
def cN(sc:Fb):List Str:=((sc.names.drop 1).filter λy=>Rm y.2).map (·.1)++qR sc
def qG(sc:Fb)(cells:List (Str×A')):List (Str×A'):=(qR sc).reverse.map λx=>(x,(cells.lookup x).getD 0)
def qO(sc:Fb):List (Str×NameKind):=sc.names.map λy=>(y.1,bif wZ y.2 then .cell else y.2)
inductive Frs(X:Cx)(sc:Fb):List (Option Nat)->List Str->Prop
 |nil:Frs X sc [] []
 |own {f:List (Option Nat)} {x:Str} {N:List Str} (h:Frs X sc f N):Frs X sc (af::f) (x::N)
 |free {f:List (Option Nat)} {x:Str} {N:List Str} {i:Nat} (h1:X.N[i]?=ae x) (h2:dY X.env.scope x) (h3:X.env.kindOf x=ae .cell\/X.env.kindOf x=ae .free) (h4:(qO sc).lookup x=ae .cell\/(qO sc).lookup x=ae .free) (h5:(qG sc X.env.cells).lookup x=X.env.cells.lookup x) (h:Frs X sc f N):Frs X sc (ae i::f) (x::N)
theorem Frs.len{X:Cx}{sc:Fb}{f:List (Option Nat)}{N:List Str}(h:Frs X sc f N):f.length=N.length:=by
 induction h with
 |nil=>rfl
 |own _ a=>rw[Ax,Ax,a]
 |free _ _ _ _ _ _ a=>rw[Ax,Ax,a]
theorem Hz{X:Cx}{sc:Fb}{f:List (Option Nat)}(h1:closureFor sc X.env=pure (qG sc X.env.cells))(h2:sc.kind=.function)(h3:∀y∈sc.names,y.2≠.cell)(h4:∀y∈sc.names,y.2=.local->sc.names.lookup y.1=ae .local)(h5:((qR sc).all λx=>(X.env.cells.lookup x).isSome)=ah)(h6:(relabel sc X.env).names=qO sc)(h7:∀y∈qO sc,(y.2=.cell\/y.2=.free)->y.1∈(qR sc).reverse)(h8:Frs X sc f (cN sc)):CompSc X (cN sc) sc (qG sc X.env.cells) f:=by
 refine⟨h1,h2,h3,h4,Jg λy n=>?_,Px _ _ h6 (by unfold qG;rw[By];exact List.map_id' _) h7,h8.len,?_⟩
 ·obtain⟨x,m,rfl⟩:=A7.mp n;obtain⟨c,o⟩:=D4.mp (E4.mp h5 x (by simp_all));simp_all
 ·intro j i h;rw[h6];generalize cN sc=N at h8 ⊢
  induction h8 generalizing j with
  |nil=>cases h
  |own _ k=>cases j with
   |zero=>cases h
   |succ j=>exact k j h
  |free a b c d e _ k=>cases j with
   |zero=>cases h;exact⟨_,rfl,a,b,c,d,e⟩
   |succ j=>exact k j h
theorem NU{X:Cx}{sc:Fb}{f:List (Option Nat)}{N:List Str}(h:Frs X sc f N):Frs X sc f N:=h
theorem kC{X:Cx}{N:List Str}{sc:Fb}{cl:List (Str×A')}{s:Ai}{H:Hp}{fp:List A'}{K:Ag}(h:X.K=K):(cL X N sc cl s H fp).K=K:=h
theorem nC{X:Cx}{N:List Str}{sc:Fb}{cl:List (Str×A')}{s:Ai}{H:Hp}{fp:List A'}(h:N.Nodup):(cL X N sc cl s H fp).N.Nodup:=h
def zL:List Str:=["bool","dict","enumerate","int","isinstance","len","list","range","repr","set","sorted","str","tuple","zip"]
theorem zU{mg:Str->Option Af}{x:Str}(z:∀x∈zL,mg x=af)(h:x∈zL):mg x=af:=z x h
theorem QN:Bw "set"=ae (.type "set"):=by rfl
theorem Ir:Bw "sorted"=ae (.builtin "sorted"):=by rfl
section
variable{P:A1}{w:Bh}{K:Ag}{mg:Str->Option Af}{base:Heap}{fa:A'}{fd:Cc}
theorem Q5{X:Cx}{e:Expr}{t:TE}{w:DT}(h:DE X e t w):DE X e t w:=h
theorem Sv{X:Cx}{e:List Expr}{t:TA}{w:cK}(h:DA X e t w):DA X e t w:=h
theorem Na{X:Cx}{e:Stmt}{t:TS}{w:aE}(h:DS X e t w):DS X e t w:=h
theorem tM{X:Cx}{e:List Stmt}{t:TS}{w:aE}(h:DSs X e t w):DSs X e t w:=h
theorem SJ{X:Cx}{e:Expr}{t:TT}{w:b5}(h:DC X e t w):DC X e t w:=h
theorem Rf{X:Cx}{e:Expr}{t:TE}{w:d0}(h:DF X e t w):DF X e t w:=h
theorem M1{X:Cx}{g e:Expr}{t:TI}{w:fI}(h:DI X g e t w):DI X g e t w:=h
theorem MA{X:Cx}{b aA:List Stmt}{st:Stmt}{T:TS}{W:aE}(e:b=st::aA)(h:DSs X (st::aA) T W):DSs X b T W:=e▸h
theorem j5{x:Str}{st:Stmt}{ps:List Str}(F:Fun K x x st fa fd)(h:∀(kV doc pm:Af) (an:Option A') (n_ ct:Af) (us:List Af),us.length=ps.length->bindArgs (Fl x x (jV st) (ec st) (bJ st) .none kV doc pm an n_ ct) ⟨us,[]⟩=pure (ps.zip us):=by
 intro _ _ _ _ _ _ us hl
 first
  |obtain⟨_,rfl⟩:=L8 hl;rfl
  |obtain⟨_,_,rfl⟩:=GR hl;rfl
  |obtain⟨_,_,_,rfl⟩:=IC hl;rfl
  |obtain⟨_,_,_,_,rfl⟩:=Ie hl;rfl
  |obtain⟨_,_,_,_,_,rfl⟩:=IF hl;rfl):Binds K fd ps []:=F.binds h
def mi(x:Str)(st:Stmt)(ps:List Str):Prop:=∀{K:Ag}{fa:A'}{fd:Cc},Fun K x x st fa fd->Binds K fd ps []
def fP(P:A1)(w:Bh)(K:Ag)(mg:Str->Option Af)(base:Heap)(k:Nat)(x:Str)(i:Nat)(fa:A')(N:List Str)(b:List Stmt)(W:aE):Prop:=N.Nodup->∀(n_:Af)(A:Bo)(outer:List Env)(s:Ai)(H:Hp)(E:XK),Room k (A.deeper (C3 x (bJ (b6 i)) s.heap.objs.size fa n_))->∃T,DSs (b8 bW P w K mg base N x (bJ (b6 i)) fa n_ A outer s H E).nox b T W
theorem n9{k:Nat}{x:Str}{i:Nat}{N:List Str}{b:List Stmt}{W:aE}(h:N.Nodup->∀(n_:Af) (A:Bo) (outer:List Env) (s:Ai) (H:Hp) (E:XK),Room k (A.deeper (C3 x (bJ (b6 i)) s.heap.objs.size fa n_))->∃T,DSs (b8 bW P w K mg base N x (bJ (b6 i)) fa n_ A outer s H E).nox b T W:=by
 intro nd n_ A outer s H E hr;apply Dl;apply MA (by exact rfl)
 repeat' first
  |with_reducible first|exact NS|exact Hw|exact Lw|exact AG|exact Gb|exact tX|exact PyProof.Rows.boot_range|exact HF|exact QN|exact Ir|exact Kr|exact GY
  |with_reducible first|apply Room.units|apply Room.units0|apply Room.hd|apply Room.gd
  |exact rfl
  |exact Cj rfl
  |exact B6 (Cj rfl)
  |exact B6 (B6 rfl)
  |exact B6 rfl
  | (with_reducible apply Q5;with_reducible first|apply gg|apply AZ|apply RP|apply ua|apply ID|apply CT|apply xj|apply LA|apply IT|apply k7 (tw ?_) vP ?_ ?_ ?_ ?_ ?_ ?_ ?_ ?_|apply wG|apply JA|apply MS|apply v8|apply xn (zb ?_) xE ?_ ?_ ?_ ?_ ?_ ?_ ?_ ?_|apply k7 (tw ?_) Mq ?_ ?_ ?_ ?_ ?_ ?_ ?_ ?_|apply Pa|apply L3|apply KA|apply JW|apply qX (qd ?_ ?_) p7|apply xn (zb ?_) QH ?_ ?_ ?_ ?_ ?_ ?_ ?_ ?_|apply sy|apply R7|apply HY|apply LR|apply k7 (call_reprN.or (Ka ?_ ?_ ?_)) Jx ?_ ?_ ?_ ?_ ?_ ?_ ?_ ?_|apply Qm|apply tu|apply BX|apply N3|apply NP|apply Km|apply Pk|apply So|apply OC|apply Kx|apply vK|apply qX (oW ?_) jG|apply qX vW sf|apply qX (wY ?_ ?_) xS|apply k7 yy zP ?_ ?_ ?_ ?_ ?_ ?_ ?_ ?_|apply SM CL EL CL EL ?_ ?_ ?_ ?_|apply Ht|apply DF.d)
  | (with_reducible apply Sv;with_reducible first|apply jx|apply kX)
  | ((with_reducible apply Na);first|((with_reducible apply IH);case hx=>exact rfl)|((with_reducible apply Kd);case hx=>exact rfl)|with_reducible first|apply Om|apply zM|apply kx|apply sg|apply yn|apply yl|apply ND|apply Lb|apply Kz|apply MX|apply xu|apply Rg|apply Pw|apply Ku|apply LP|apply OH|apply yZ|apply vQ|apply NJ|apply Ju|apply O7)
  | (with_reducible apply tM;with_reducible first|apply La|apply Js|apply JQ|apply Nz|apply k8|apply u7|apply yF|apply nv)
  | ((with_reducible apply SJ);first|(with_reducible apply DCW.cc;with_reducible first|apply cw_and|apply cw_or)|with_reducible first|apply fK (qd ?_ ?_) p7|apply fK (qd ?_ ?_) OV|apply fK Hu M6|apply fK DW BC|apply PB|apply fK Jn GK|apply fK vW sf|apply fK (t7 ?_) jG|apply zS|apply fK (oW ?_) QW|apply S3|apply GG|apply JD|apply yB|apply S1|apply MM|apply RD|apply fK IL Ra|apply fK (oW ?_) jG|apply fK (wY ?_ ?_) xS|apply fK DW Mj|apply K7)
  | (with_reducible apply Rf;with_reducible first|apply z4|apply tE|apply vb|apply RR|apply QI|apply LX|apply GW|apply Ja|apply Sb)
  | (with_reducible apply M1;with_reducible first|apply FD|apply K9|apply P4|apply QJ|apply Hk|apply xK)
  |with_reducible first|apply vt|apply FY|apply vp|apply Ko|apply S4|apply LZ|apply Iw|apply OW|apply Hx|apply cw_or|apply cw_or1|apply cw_and|apply cw_and1|apply yz|apply OD|apply RI|apply OU|apply Hz
  |assumption
  |with_reducible first|apply kC|apply nC
  | ((with_reducible apply NU);first|apply Frs.nil|apply Frs.own|apply Frs.free)
  |exact jo _
  |exact λ_ _=>rfl
  |exact λ_=>rfl
  |exact zU (by assumption) ∅
  |exact PassesOwn.never
  |exact⟨rfl,rfl,rfl,rfl⟩
  |with_unfolding_all rfl
  |decide
  |decide +kernel
  |exact B6 (B6 (Cj rfl))
  |exact B6 (B6 (B6 (Cj rfl)))
  |exact B6 (B6 (B6 (B6 rfl)))
  |intro(_:Ai) _ _
  |exact(0:Int)):fP P w K mg base k x i fa N b W:=h
theorem aR{i:Nat}{N:List Str}{S:aP}{W:aE}(k p:Nat)(x:Str)(F:Fun K x x (b6 i) fa fd/\mg x=ae (.ref fa))(body:b9 S W N)(len:∀ws n Q,S ws n Q->ws.length=p:=by(intro _ _ _ h;(repeat obtain⟨_,h⟩:=h);subst_vars;rfl))(hp:(N.take p).length=p:=by rfl)(Sc:FnScope N (N.take p) (bJ (b6 i)):=by exact lL)(b:mi x (b6 i) (N.take p):=by intro _ _ _ F;exact j5 F)
  (h:fP P w K mg base k x i fa N (ec (b6 i)) W:=by exact n9):Has P w K mg base (k+1) x (N.take p) S:=
 Has.mk' F.1 F.2 (b F.1) (Fun.okD F.1 Sc (λws n Q q=>by rw[hp];exact len ws n Q q) λn_ A a s H E e=>(h Sc.nd n_ A a s H E e).elim λT d=>⟨T,W,d,body⟩)
theorem j6{i:Nat}{N:List Str}{S:cz}{W:aE}(k p:Nat)(x:Str)(F:Fun K x x (b6 i) fa fd/\mg x=ae (.ref fa))(body:∀ws n Q,S ws n Q->W (dI N ws) n {nx:=λ_ _=>False,rt:=λ_ _=>False,rn:=Q})(len:∀ws n Q,S ws n Q->ws.length=p:=by(intro _ _ _ h;(repeat obtain⟨_,h⟩:=h);subst_vars;rfl))(hp:(N.take p).length=p:=by rfl)(Sc:FnScope N (N.take p) (bJ (b6 i)):=by exact lL)(b:mi x (b6 i) (N.take p):=by intro _ _ _ F;exact j5 F)
  (h:fP P w K mg base k x i fa N (ec (b6 i)) W:=by exact n9):HasN P w K mg base (k+1) x (N.take p) S:=
 HasN.mk' F.1 F.2 (b F.1) (Fun.okN F.1 Sc (λws n Q q=>by rw[hp];exact len ws n Q q) λn_ A a s H E e=>(h Sc.nd n_ A a s H E e).elim λT d=>⟨T,W,d,body⟩)
theorem rW{i p:Nat}{N:List Str}{S:eE}{W:aE}(k:Nat)(x:Str)(F:Fun K x x (b6 i) fa fd/\mg x=ae (.ref fa))(len:∀ws n Q,S ws n Q->ws.length=p)(body:∀ws n Q,S ws n Q->W (dI N ws) n {nx:=λ_ _=>False,rt:=λ_ _=>False,rx:=Q})(hp:(N.take p).length=p:=by rfl)(Sc:FnScope N (N.take p) (bJ (b6 i)):=by exact lL)(b:mi x (b6 i) (N.take p):=by intro _ _ _ F;exact j5 F)
  (h:fP P w K mg base k x i fa N (ec (b6 i)) W:=by exact n9):HasX P w K mg base (k+1) x (N.take p) S:=
 HasX.mk' F.1 F.2 (b F.1) (Fun.okX F.1 Sc (λws n Q q=>by rw[hp];exact len ws n Q q) λn_ A a s H E e=>(h Sc.nd n_ A a s H E e).elim λT d=>⟨T,W,d,body⟩)
theorem K3{i p:Nat}{N:List Str}{S:iz}{W:aE}(k:Nat)(x:Str)(F:Fun K x x (b6 i) fa fd/\mg x=ae (.ref fa))(len:∀ws n Q,S ws n Q->ws.length=p)(body:∀ws n Q,S ws n Q->W (dI N ws) n {nx:=λ_ _=>False,rt:=λw n=>w=.d .none/\Q af n,rx:=λkvs n=>Q (ae kvs) n})(hp:(N.take p).length=p:=by rfl)(Sc:FnScope N (N.take p) (bJ (b6 i)):=by exact lL)(b:mi x (b6 i) (N.take p):=by intro _ _ _ F;exact j5 F)
  (h:fP P w K mg base k x i fa N (ec (b6 i)) W:=by exact n9):HasXO P w K mg base (k+1) x (N.take p) S:=
 HasXO.mk' F.1 F.2 (b F.1) (Fun.okXO F.1 Sc (λws n Q q=>by rw[hp];exact len ws n Q q) λn_ A a s H E e=>(h Sc.nd n_ A a s H E e).elim λT d=>⟨T,W,d,body⟩)
abbrev Zc:List Str:=["_law_script"]
theorem sU{i:Nat}{N:List Str}{W:aE}{s0 s1:Stmt}{aA:List Stmt}(k:Nat)(F:Fun K "law" "law" (b6 i) fa fd)(hW:W (af::ae (.w .tp)::Dh (N.length-2) af) 0 mP)(e:ec (b6 i)=s0::s1::aA)(h0:N.Nodup->∀(n_:Af) (A:Bo) (outer:List Env) (s:Ai) (H:Hp) (E:XK),Room k (A.deeper (C3 "law" (bJ (b6 i)) s.heap.objs.size fa n_))->PS (b8 bW P w K mg base N "law" (bJ (b6 i)) fa n_ A outer s H E).nox s0 (bw (ee (uX K) [] E0 (br (aI 0) aW)) (dg 1))/\PS (b8 bW P w K mg base N "law" (bJ (b6 i)) fa n_ A outer s H E).nox s1 (bw wK (iA (aI 1) (tC (.int 3)) qK)))(hN:∀v,start N [v]=ae v::af::Dh (N.length-2) af:=by intro _;rfl)(Sc:FnScope N Zc (bJ (b6 i)):=by exact lL)
  (h:fP P w K mg base k "law" i fa N aA W:=by exact n9):FnOk P w K mg base bW (k+1) fa fd Zc (DL.spLaw K):=
 Ri F Sc hN hW λn_ A outer s H E a=>(h Sc.nd n_ A outer s H E a).elim λT d=>⟨s0,s1,_,T,e,(h0 Sc.nd n_ A outer s H E a).1,(h0 Sc.nd n_ A outer s H E a).2,d⟩
theorem LV{X:Cx}{b aA:List Stmt}{st:Stmt}{Sa:aP}(e:b=st::aA)(h:ki X (st::aA) Sa):ki X b Sa:=e▸h
abbrev Ze:List Str:=["programs","steps","stands"]
theorem vx{k ka tk:Nat}(F:Fun K "further" "further" (b6 31) fa fd/\mg "further"=ae (.ref fa))(h_after:Has P w K mg base ka "after" ["programs","stand","mover"] di)(hk:ka<=k)(z_range:mg "range"=af)(z_len:mg "len"=af)(g_MOST_STANDS:mg "MOST_STANDS"=ae (.int 2000 tk))(Sc:FnScope ["programs","steps","stands","fresh","stand","mover","behind"] (Ze:List Str) (bJ (b6 31)):=by exact lL)(b:mi "further" (b6 31) Ze:=by intro _ _ _ F;exact j5 F):HasM P w K mg base (k+1) "further" Ze di:=
 ⟨fa,fd,Fun.okM F.1 Sc rfl ∎ (λn_ A d s H E c=>LV (by rfl) (by
  have a:=Sc.nd;refine⟨_,_,_,((k8 (yl a rfl (Cj rfl) (z4 kX)) (k8 (sg (xK (gg 2)) (vt a rfl (Cj rfl)) (nv (sg (FD (by rfl) z_range (wG (k7 (tw (K:=K)) vP (by rfl) z_len Gb (jx (gg 0) kX)) (AZ))) (vt a rfl (Cj rfl)) (k8 (zM a rfl (Cj rfl) (DY h_after (c.mono hk) (by rfl) (jx (gg 0) (jx (gg 4) (jx (gg 5) kX))))) (nv (kx (DCW.cc (cw_and (fK vW sf (gg 6) (xj) (jo _)) (cw_and1 (zS c.units (gg 6) (v8 1))))) (k8 (kx (fK (qd c.units0) p7 (k7 yy zP (by rfl) z_len Gb (jx (v8 1) kX)) (BX (by rfl) g_MOST_STANDS) (jo _)) yF u7) (k8 (xu c.units rfl (gg 6) (CT (jx (gg 4) (jx (gg 5) kX)))) (nv (yn rfl (gg 6))))) u7)))))) (nv (yZ 3))))).ps,?_,?_,?_⟩
  ·exact λσ H Q q=>q
  ·exact λx y H Q q=>.inl ⟨rfl,(by rw[show decide _=decide (x=y)from decide_eq_decide.mpr ⟨λz=>V.int.inj z,congrArg V.int⟩];exact q)⟩
  ·intro σ H Q B i l e r q;cases r with
   |tup g m j f=>exact⟨_,e,.inr ⟨_,_,rfl,.inr (SqT.of g),_,_,rfl,rfl,by rw[f.len];exact q⟩⟩)),b F.1,F.2,F.1.kp⟩
end
end Nb
namespace Nb
open PySem L2
section
variable{P:A1}{w:Bh}{K:Ag}{mg:Str->Option Af}{base:Heap}
theorem Nk:FnScope Zc Zc (bJ yA):=⟨rfl,rfl,rfl,by decide +kernel,rfl,by decide +kernel,by decide +kernel⟩
theorem RH{f:A'}{fd:Cc}(F:Fun K "_law_tape" "_law_tape" yA f fd):FnOk P w K mg base bW 1 f fd Zc (uX K):=by
 refine F.ok Nk (λvs H Q E h=>?_) (λn_ A d s H n Q E t h=>?_)
 ·obtain⟨a,m,rfl,_⟩:=h;rfl
 ·obtain⟨a,m,rfl,l,o,k⟩:=h;refine⟨_,kA (iV (oB (bZ (xa OG (pv 0) yv (xh b4)) (bZ b4 (bZ b4 (bZ (oB (bZ kL (bZ kL (bZ kL (bZ b4 (bZ b4 (bZ b4 (bZ b4 dq)))))))) dq)))))),?_⟩;refine⟨_,rfl,_,rfl,a,_,rfl,l,λp r=>⟨small (by simp),λg e=>⟨small (by simp),λq b=>?_⟩⟩⟩;rw[J6 (by rw[Ab];omega)]at e b ⊢;have j:g≠p:=λz=>by rw[z,a9]at e;cases e
  have i:q≠g:=λz=>by rw[z,a9]at b;cases b
  rw[aH i]at b;have c:q≠p:=λz=>by rw[z,a9]at b;cases b
  exact k q p g _ a9 (by rw[aH c.symm,aH j.symm,a9]) c
theorem scDraw:FnScope ["_law_tape_here","_law_many","_law_found","_law_spot","_law_cell","_law_mixed"] ["_law_tape_here","_law_many"] (bJ yG):=⟨rfl,rfl,rfl,by decide +kernel,rfl,by decide +kernel,by decide +kernel⟩
theorem Io{R:Prop}{G:Int->Prop}(use:(∀c,G c)->R)(fin:∀c,G c):R:=use fin
theorem II{R G:Prop}(use:G->R)(fin:G):R:=use fin
theorem Kb{f:A'}{fd:Cc}(F:Fun K "_law_draw" "_law_draw" yG f fd)(zl:mg "len"=af):FnOk P w K mg base bW 1 f fd ["_law_tape_here","_law_many"] xY:=by
 refine F.ok scDraw (λvs H Q E h=>?_) (λn_ A N s H vs Q E hr h=>?_)
 ·obtain⟨t,l,D,n,m,rfl,_⟩:=h;rfl
 ·obtain⟨t,l,D,n,m,rfl,T,hn,d,G,k⟩:=h;obtain⟨a,b,B,R,ha1⟩:=T.ob;have x:=T.ne;have U:=T.ls;have p:=T.len;refine⟨_,fg (mG (ja op_gt (gb ix_list (pv 0) b4 (λ_ _=>rfl)) b4 (jo _))
    (fg (fN (i:=2) scDraw.nd rfl (Cj rfl) (dD i8 (gb ix_list (pv 0) b4 (λ_ _=>rfl)) (pv 1)))
     (fg (kZ (dD zX (gb ix_list (pv 0) b4 (λ_ _=>rfl)) (pv 1)) (nR (pv 0) b4 mh))
     (kA (iV (pv 2))))) oj)
   (fg (fN (i:=3) scDraw.nd rfl (Cj rfl) (gb ix_list (pv 0) b4 (λ_ _=>rfl)))
   (fg (kZ (dD op_add (pv 3) b4) (nR (pv 0) b4 mh))
   (fg (fN (i:=4) scDraw.nd rfl (Cj rfl) b4)
   (fg (mG (ja op_gt (gz oJ (by rfl) zl Gb (bZ (gb ix_list (pv 0) b4 (λ_ _=>rfl)) dq)) b4 (jo _))
    (kA (fN (i:=4) scDraw.nd rfl (Cj rfl) (gb ix_list (gb ix_list (pv 0) b4 (λ_ _=>rfl))
     (dD i8 (pv 3) (gz oJ (by rfl) zl Gb (bZ (gb ix_list (pv 0) b4 (λ_ _=>rfl)) dq))) (λ_ _=>rfl)))) oj)
   (fg (mG (PW.pt (EE (ja Hm (pv 4) (dD S7 b4 b4) (jo _))
     (wO (ja op_lt (pv 3) (gz oJ (by rfl) zl Gb (bZ (gb ix_list (pv 0) b4 (λ_ _=>rfl)) dq)) (jo _)))))
    (fg (kZ (dD zX (pv 4) (pv 1)) (nR (pv 0) b4 mh)) (kA (iV (dD i8 (pv 4) (pv 1))))) oj)
   (fg (fN (i:=5) scDraw.nd rfl (Cj rfl) (dD i8 (dD lr (dD op_add (dD op_add (dD i8 (pv 4) b4) (dD lr (dD lr b4 (pv 3)) (pv 3))) b4) b4) b4))
   (kA (iV (dD i8 (dD i8 (dD lr (dD i8 (dD op_add (dD lr (pv 5) b4) (dD lr (pv 3) b4)) b4) b4) b4) (pv 1)))))))))),?_⟩
  refine⟨_,rfl,t,_,2,_,rfl,rfl,SqL.of B,d9 (j:=2) rfl,_,_,rfl,rfl,_,rfl,?_⟩;refine iI (λ_=>?_) (λ_=>?_)
  ·-- found=tape[2] % m;tape[2]=tape[2] // m;return found
   refine⟨_,rfl,t,_,2,_,rfl,rfl,SqL.of B,d9 (j:=2) rfl,_,rfl,_,_,rfl,rfl,d,?_⟩;refine⟨_,rfl,t,_,2,_,rfl,rfl,SqL.of B,d9 (j:=2) rfl,_,rfl,_,_,rfl,rfl,⟨d,G⟩,?_⟩;refine⟨_,rfl,t,_,2,2,rfl,rfl,B,rfl,?_⟩;refine⟨_,rfl,?_⟩;refine k _ _ (Int.emod_nonneg _ ⋯) (Hg _ d) ⟨⟨a,b / m,a9,R,by omega⟩,(aH x.symm)▸U,p,(λz=>by rw[aH T.gne];exact T.ag z),T.gne⟩ Kp.tape
  ·-- spot=tape[1];tape[1]=spot+1;cell=0
   refine⟨_,rfl,t,_,1,_,rfl,rfl,SqL.of B,d9 (j:=1) rfl,?_⟩;refine⟨_,rfl,_,_,rfl,rfl,_,rfl,t,_,1,1,rfl,rfl,B,rfl,?_⟩;have Y:∀o,upd H t o t=ae o:=λo=>a9;have S:∀o,upd H t o l.s=ae (.lst (D.map V.int)):=λo=>(aH x.symm)▸U;generalize q:upd H t (.lst (((.ref l.s::.int a::.int b::j8 l:List V)).set 1 (.int (a+1))))=L;have y:L t=ae (.lst (.ref l.s::.int (a+1)::.int b::j8 l)):=q▸a9;have C:L l.s=ae (.lst (D.map V.int)):=q▸S _;have W:Kp t H L:=q▸Kp.tape;have X:lU=ah->L l.g=ae (.lst pT):=q▸(aH T.gne)▸T.ag;refine⟨_,rfl,t,_,0,_,rfl,rfl,SqL.of y,d9 (j:=0) rfl,l.s,_,rfl,.inl (SqL.of C),_,_,rfl,rfl,_,rfl,?_⟩;apply Io
   case use=>
    intro fin;refine iI (λhp=>?_) (λ_=>?_)
    ·have u:(0:Int) < ((D.map V.int).length:Int):=e_ hp;obtain⟨v,Z,hm⟩:=Rn (xs:=D.map V.int) (r:=a % ((D.map V.int).length:Int)) (Int.emod_nonneg _ ⋯) (Hg _ u);obtain⟨c,_,rfl⟩:=A7.mp hm;refine⟨_,rfl,t,_,0,_,rfl,rfl,SqL.of y,d9 (j:=0) rfl,_,rfl,_,rfl,t,_,0,_,rfl,rfl,SqL.of y,d9 (j:=0) rfl,l.s,_,rfl,.inl (SqL.of C),_,_,rfl,rfl,u,l.s,_,_,.int c,rfl,rfl,SqL.of C,Z,?_⟩;exact fin c
    ·exact fin 0
   case fin=>
    intro c;refine⟨_,rfl,_,_,rfl,rfl,⟨by decide,by decide,by decide⟩,_,_,rfl,rfl,_,rfl,?_⟩;apply II
    case use=>
     intro fin;refine iI (λ_=>?_) (λ_=>?_)
     ·refine⟨_,rfl,_,rfl,t,_,0,_,rfl,rfl,SqL.of y,d9 (j:=0) rfl,l.s,_,rfl,.inl (SqL.of C),_,_,rfl,rfl,_,rfl,?_⟩;refine iI (λ_=>?_) (λ_=>fin);refine⟨_,rfl,_,rfl,_,_,rfl,rfl,⟨d,G⟩,_,rfl,t,_,2,2,rfl,rfl,y,rfl,_,rfl,_,rfl,_,_,rfl,rfl,d,?_⟩;exact k _ _ (Int.emod_nonneg _ ⋯) (Hg _ d) ⟨⟨a+1,_,a9,by omega,by omega⟩,(aH x.symm)▸C,p,(λz=>by rw[aH T.gne];exact X z),T.gne⟩ (W.trans Kp.tape)
     ·exact uS fin
    case fin=>
     refine⟨_,rfl,_,_,rfl,rfl,(by show(0:Int) < 999331;decide),_,rfl,_,_,rfl,rfl,.inl ⟨by decide,by decide⟩,_,rfl,_,_,rfl,rfl,.inl ⟨by omega,by omega⟩,_,_,rfl,rfl,_,_,rfl,rfl,_,_,rfl,rfl,.inr ⟨by decide,by decide⟩,_,_,rfl,rfl,(by show(0:Int) < 999961;decide),?_⟩;refine⟨_,rfl,_,_,rfl,rfl,.inr ⟨by decide,by decide⟩,_,rfl,_,_,rfl,rfl,.inr ⟨by decide,by decide⟩,_,_,rfl,rfl,_,_,rfl,rfl,(by show(0:Int) < 999953;decide),_,_,rfl,rfl,.inr ⟨by decide,by decide⟩,_,_,rfl,rfl,(by show(0:Int) < 524287;decide),_,rfl,_,_,rfl,rfl,d,?_⟩;exact k _ _ (Int.emod_nonneg _ ⋯) (Hg _ d) ⟨⟨a+1,b,y,by omega,by omega⟩,C,p,X,T.gne⟩ W
end
end Nb
namespace Nb
open PySem L2 DL
theorem zE(P:Params):(zL.map λx=>PySem.W.nsIn (KK P) Ec x)=zL.map λ_=>ae af:=by kernel_rfl
section
variable{P:Params}{h:Heap}{mg:Str->Option Af}(X:(KK P).In h)(G:h.Ns Ec mg)
include X G
theorem CI(j:Nat)(d:Ds)(e:dL[j]?=ae d):(Fun (KK P) d.x d.x (b6 d.i) d.f (kQ d)/\mg d.x=ae (.ref d.f))/\Ct (KK P) (.ref d.f)=ah:=by
 obtain⟨b,a⟩:=Prod.mk.inj (y3 (Pf P) e);obtain⟨a,c⟩:=Prod.mk.inj a;have k:Ct (KK P) (.ref d.f)=ah:=by
  unfold Ct;simp only[a]
 exact⟨⟨Rl a c k,PySem.W.mg_of X G b⟩,k⟩
theorem zK(x:Str)(h:x∈zL):mg x=af:=by
 obtain⟨j,e⟩:=Bz.mp h;exact PySem.W.mg_none_of X G (y3 (zE P) e)
end
abbrev pR:A1:=PySem.W.OpenLaw.prog PySem.Challenge.rw_noteboard_k42_ends_come_to
structure Cv where
 P:A1
 w:Bh
 K:Ag
 mg:Str->Option Af
 base:Heap
abbrev HH(c:Cv)(k:Nat)(x:Str)(ps:List Str)(S:aP):Prop:=Has c.P c.w c.K c.mg c.base k x ps S
abbrev gc(c:Cv):Prop:=HH c 1 "_law_draw" ["_law_tape_here","_law_many"] cx
abbrev sI(c:Cv):Prop:=HH c 1 "is_whole" ["thing"] tV
abbrev v5(c:Cv):Prop:=HH c 1 "field_fits" ["field","value","having","bound"] i4
abbrev oD(c:Cv):Prop:=HH c 2 "fits" ["pattern","row","names"] oi
abbrev vJ(c:Cv):Prop:=HH c 1 "next_value" ["value"] uI
abbrev pJ(c:Cv):Prop:=HH c 2 "field_value" ["field","having"] mH
abbrev sP(c:Cv):Prop:=HH c 3 "filled" ["template","names"] qv
abbrev vL(c:Cv):Prop:=HH c 2 "is_within" ["thing","most"] rH
abbrev Zh:List Str:=["programs","stand","hand"]
abbrev md(c:Cv):Prop:=HH c 1 "next_act" Zh lK
abbrev qz(c:Cv):Prop:=HH c 3 "gets" Zh qN
abbrev tG(c:Cv):Prop:=HH c 4 "is_ready" Zh oH
abbrev rY(c:Cv):Prop:=HasN c.P c.w c.K c.mg c.base 5 "ready" Za g6
abbrev qk(c:Cv):Prop:=HH c 1 "gone_on" ["place","names"] lY
abbrev qT(c:Cv):Prop:=HH c 1 "gone_to" ["program","block","names"] ni
abbrev pW(c:Cv):Prop:=HH c 1 "with_hand" ["hands","hand","place"] iU
abbrev uJ(c:Cv):Prop:=HH c 4 "got" ["programs","stand","hand","act"] l7
abbrev u5(c:Cv):Prop:=HH c 3 "is_same_value" ["act","names"] vd
abbrev uK(c:Cv):Prop:=HH c 5 "hand_moved" Zh tI
abbrev vc(c:Cv):Prop:=HH c 1 "aged" ["note"] tS
abbrev sZ(c:Cv):Prop:=HH c 2 "clock_moved" ["stand"] vH
abbrev sj(c:Cv):Prop:=HH c 6 "after" ["programs","stand","mover"] di
abbrev rV(c:Cv):Prop:=HasM c.P c.w c.K c.mg c.base 7 "further" Ze di
abbrev sR(c:Cv):Prop:=HasX c.P c.w c.K c.mg c.base 8 "steps_from" Za (lM di)
abbrev rO(c:Cv):Prop:=HasN c.P c.w c.K c.mg c.base 9 "reached" Za (nu di)
abbrev tK(c:Cv):Prop:=HasN c.P c.w c.K c.mg c.base 10 "ends" Za (lC di g6)
abbrev kP(c:Cv):Prop:=HH c 2 "_law_value" Zg hZ
abbrev nY(c:Cv):Prop:=HH c 2 "_law_size" Zg lq
abbrev um(c:Cv):Prop:=HH c 3 "_law_pattern" Zd sW
abbrev ub(c:Cv):Prop:=HH c 3 "_law_template" Zd rD
abbrev wg(c:Cv):Prop:=HH c 3 "_law_term" Zd oK
abbrev uF(c:Cv):Prop:=HH c 4 "_law_act" ["_law_tape_here","_law_known_here","_law_open_ones"] nV
abbrev uB(c:Cv):Prop:=HH c 5 "_law_program" Zg tH
abbrev qx(c:Cv):Prop:=HH c 3 "_law_notes" ["_law_tape_here","_law_most"] nr
abbrev uD(c:Cv):Prop:=HH c 1 "_law_known" ["_law_program_here","_law_block","_law_place"] rM
abbrev vm(c:Cv):Prop:=HH c 4 "_law_stand" ["_law_tape_here","_law_programs","_law_most"] pH
abbrev rN(c:Cv):Prop:=HH c 6 "_law_setting" Zg uk
abbrev vF(c:Cv):Prop:=HH c 1 "_law_fits" ["_law_pattern_here","_law_row","_law_names"] rr
abbrev uv(c:Cv):Prop:=HH c 1 "_law_filled" ["_law_template_here","_law_names"] tZ
abbrev tU(c:Cv):Prop:=HH c 1 "_law_act_at" ["_law_programs","_law_hands","_law_hand"] rQ
abbrev qf(c:Cv):Prop:=HH c 2 "_law_got" ["_law_act_here","_law_notes_here","_law_names"] mB
abbrev qI(c:Cv):Prop:=HH c 3 "_law_movers" ["_law_programs","_law_stand_here"] eJ
abbrev uY(c:Cv):Prop:=HH c 3 "_law_moved" ["_law_programs","_law_stand_here","_law_mover"] gZ
abbrev rT(c:Cv):Prop:=HasXO c.P c.w c.K c.mg c.base 4 "_law_gone" ["_law_programs","_law_stand_here","_law_most"] (nT eJ gZ)
abbrev sJ(c:Cv):Prop:=HH c 4 "_law_right" ["_law_programs","_law_due","_law_told"] (lV eJ)
section
variable{c:Cv}(F:∀(j:Nat) (d:Ds),dL[j]?=ae d->(Fun c.K d.x d.x (b6 d.i) d.f (kQ d)/\c.mg d.x=ae (.ref d.f))/\Ct c.K (.ref d.f)=ah)(z:∀x∈zL,c.mg x=af)(u0:c.mg "GREATEST_NUMBER"=ae (.int 99 225))(u1:c.mg "MOST_STANDS"=ae (.int 2000 424))(u2:c.mg "GETTING"=ae (.ref 80))(u3:∀H,SqT c.K H 80 ((Zf:List Str).map V.str))
include F z u0 u1 u2 u3
theorem Nw:gc c:=Has.mk' (F 25 _ rfl).1.1 (F 25 _ rfl).1.2 (j5 (F 25 _ rfl).1.1) (Lq (Kb (F 25 _ rfl).1.1 (zU z (by trivial))))
theorem PR:sI c:=aR (i:=5) 0 1 "is_whole" (F 0 _ rfl).1 Pe
theorem Pq:v5 c:=aR (i:=7) 0 4 "field_fits" (F 1 _ rfl).1 Mm
theorem Ke(h0:v5 c):oD c:=aR (i:=8) 1 3 "fits" (F 2 _ rfl).1 JK
theorem HM:vJ c:=aR (i:=9) 0 1 "next_value" (F 3 _ rfl).1 SE
theorem Jl(h0:vJ c):pJ c:=aR (i:=10) 1 2 "field_value" (F 4 _ rfl).1 JL
theorem RV(h0:pJ c):sP c:=aR (i:=11) 2 2 "filled" (F 5 _ rfl).1 Nc
theorem N6(h0:sI c):vL c:=aR (i:=14) 1 2 "is_within" (F 6 _ rfl).1 SF
theorem N5:md c:=aR (i:=16) 0 3 "next_act" (F 7 _ rfl).1 SK
theorem OO(h0:oD c)(h1:md c):qz c:=aR 2 3 "gets" (F 8 _ rfl).1 Ro
theorem Qg(h0:qz c)(h1:md c):tG c:=aR (i:=18) 3 3 "is_ready" (F 9 _ rfl).1 Lu
theorem Sj(h0:tG c):rY c:=j6 (i:=19) 4 2 "ready" (F 10 _ rfl).1 Ld
theorem Jy:qk c:=aR (i:=20) 0 2 "gone_on" (F 11 _ rfl).1 GQ
theorem S2:qT c:=aR (i:=21) 0 3 "gone_to" (F 12 _ rfl).1 QB
theorem J9:pW c:=aR (i:=22) 0 3 "with_hand" (F 13 _ rfl).1 I3
theorem Ic(h0:oD c)(h1:qz c)(h2:qk c)(h3:qT c)(h4:pW c):uJ c:=aR 3 4 "got" (F 14 _ rfl).1 Kl
theorem LJ(h0:pJ c):u5 c:=aR (i:=24) 2 2 "is_same_value" (F 15 _ rfl).1 HC
theorem HR(h0:sP c)(h1:qk c)(h2:qT c)(h3:uJ c)(h4:u5 c)(h5:md c)(h6:pW c):uK c:=aR 4 3 "hand_moved" (F 16 _ rfl).1 Rk
theorem MH:vc c:=aR (i:=26) 0 1 "aged" (F 17 _ rfl).1 P6
theorem GD(h0:vc c):sZ c:=aR (i:=27) 1 1 "clock_moved" (F 18 _ rfl).1 Ni
theorem KU(h0:sZ c)(h1:uK c)(h2:vL c):sj c:=aR (i:=28) 5 3 "after" (F 19 _ rfl).1 Q2
theorem Mc(h0:sj c):rV c:=vx (F 20 _ rfl).1 h0 ∎ (zU z (by trivial)) (zU z (by trivial)) u1
theorem Iz(h0:rV c):sR c:=rW (i:=32) 7 "steps_from" (F 21 _ rfl).1 RE Mz
theorem Ky(h0:sR c):rO c:=j6 (i:=33) 8 2 "reached" (F 22 _ rfl).1 (len:=Ls) NI
theorem IK(h0:rO c)(h1:rY c):tK c:=j6 (i:=34) 9 2 "ends" (F 23 _ rfl).1 (len:=KR) LN
theorem K8(h0:gc c):kP c:=aR (i:=38) 1 1 "_law_value" (F 26 _ rfl).1 GF
theorem NB(h0:gc c):nY c:=aR (i:=39) 1 1 "_law_size" (F 27 _ rfl).1 Ol
theorem Nl(h0:gc c)(h1:nY c)(h2:kP c):um c:=aR 2 2 "_law_pattern" (F 28 _ rfl).1 JJ
theorem Lc(h0:gc c)(h1:nY c)(h2:kP c):ub c:=aR (i:=41) 2 2 "_law_template" (F 29 _ rfl).1 HA
theorem HX(h0:gc c)(h1:kP c):wg c:=aR (i:=42) 2 2 "_law_term" (F 30 _ rfl).1 Q8
theorem NK(h0:gc c)(h1:um c)(h2:ub c)(h3:wg c):uF c:=aR 3 3 "_law_act" (F 31 _ rfl).1 Qt
theorem Ll(h0:uF c)(h1:gc c):uB c:=aR 4 1 "_law_program" (F 32 _ rfl).1 RJ
theorem SX(h0:gc c)(h1:nY c)(h2:kP c):qx c:=aR (i:=45) 2 2 "_law_notes" (F 33 _ rfl).1 SA
theorem MK:uD c:=aR (i:=46) 0 3 "_law_known" (F 34 _ rfl).1 Rb
theorem Od(h0:gc c)(h1:uD c)(h2:qx c)(h3:kP c):vm c:=aR 3 3 "_law_stand" (F 35 _ rfl).1 GU
theorem Rp(h0:gc c)(h1:qx c)(h2:uB c)(h3:vm c):rN c:=aR 5 1 "_law_setting" (F 36 _ rfl).1 Mh
theorem KZ:vF c:=aR 0 3 "_law_fits" (F 37 _ rfl).1 Rx
theorem Ql:uv c:=aR (i:=50) 0 2 "_law_filled" (F 38 _ rfl).1 Mx
theorem JH:tU c:=aR (i:=51) 0 3 "_law_act_at" (F 39 _ rfl).1 Mr
theorem GS(h0:vF c):qf c:=aR (i:=52) 1 3 "_law_got" (F 40 _ rfl).1 Si
theorem Lk(h0:tU c)(h1:qf c):qI c:=aR (i:=53) 2 2 "_law_movers" (F 41 _ rfl).1 Pn
theorem SU(h0:uv c)(h1:qf c):uY c:=aR 2 3 "_law_moved" (F 42 _ rfl).1 NF
theorem Jv(h0:uY c)(h1:qI c):rT c:=K3 (i:=55) 3 "_law_gone" (F 43 _ rfl).1 Oe JM
theorem Mk(h0:qI c):sJ c:=aR (i:=56) 3 3 "_law_right" (F 44 _ rfl).1 (len:=Ik) QL
theorem OM(h0:rT c)(h1:sJ c)(h2:rN c)(h3:tK c):FnOk c.P c.w c.K c.mg c.base bW 11 (Ds.f ⟨57,"law",653,356,1,330,ah,662,5⟩) (kQ ⟨57,"law",653,356,1,330,ah,662,5⟩) Zc (DL.spLaw c.K):=by
 have bT:=j5 (ps:=Zc) (F 24 _ rfl).1.1;have GT:=RH (P:=c.P) (w:=c.w) (mg:=c.mg) (base:=c.base) (F 24 _ rfl).1.1;exact sU (i:=57) (N:=["_law_script","_law_tape_here","_law_programs","_law_stand_here","_law_due","_law_told"]) 10 (F 45 _ rfl).1.1 IW rfl λnd n_ A outer s H E hr=>⟨fN (i:=1) nd rfl (Cj rfl) (jH GT (hr.mono ∎) rfl (F 24 _ rfl).1.2 (F 24 _ rfl).2 bT .nil jD (bZ (pv 0) dq)),kZ (oB (bZ kL (bZ kL (bZ kL (bZ b4 (bZ b4 dq)))))) (nR (pv 1) b4 mh)⟩
end
theorem Qy(c:Cv)(F:∀(j:Nat) (d:Ds),dL[j]?=ae d->(Fun c.K d.x d.x (b6 d.i) d.f (kQ d)/\c.mg d.x=ae (.ref d.f))/\Ct c.K (.ref d.f)=ah)(z:∀x∈zL,c.mg x=af)(u0:c.mg "GREATEST_NUMBER"=ae (.int 99 225))(u1:c.mg "MOST_STANDS"=ae (.int 2000 424))(u2:c.mg "GETTING"=ae (.ref 80))(u3:∀H,SqT c.K H 80 ((Zf:List Str).map V.str)):FnOk c.P c.w c.K c.mg c.base bW 11 (Ds.f ⟨57,"law",653,356,1,330,ah,662,5⟩) (kQ ⟨57,"law",653,356,1,330,ah,662,5⟩) Zc (DL.spLaw c.K):=by
 have a__law_draw:gc c:=by apply Nw<;>with_reducible assumption
 have a_is_whole:sI c:=by apply PR<;>with_reducible assumption
 have a_field_fits:v5 c:=by apply Pq<;>with_reducible assumption
 have a_fits:oD c:=by apply Ke<;>with_reducible assumption
 have a_next_value:vJ c:=by apply HM<;>with_reducible assumption
 have a_field_value:pJ c:=by apply Jl<;>with_reducible assumption
 have a_filled:sP c:=by apply RV<;>with_reducible assumption
 have a_is_within:vL c:=by apply N6<;>with_reducible assumption
 have a_next_act:md c:=by apply N5<;>with_reducible assumption
 have a_gets:qz c:=by apply OO<;>with_reducible assumption
 have a_is_ready:tG c:=by apply Qg<;>with_reducible assumption
 have a_ready:rY c:=by apply Sj<;>with_reducible assumption
 have a_gone_on:qk c:=by apply Jy<;>with_reducible assumption
 have a_gone_to:qT c:=by apply S2<;>with_reducible assumption
 have a_with_hand:pW c:=by apply J9<;>with_reducible assumption
 have a_got:uJ c:=by apply Ic<;>with_reducible assumption
 have a_is_same_value:u5 c:=by apply LJ<;>with_reducible assumption
 have a_hand_moved:uK c:=by apply HR<;>with_reducible assumption
 have a_aged:vc c:=by apply MH<;>with_reducible assumption
 have a_clock_moved:sZ c:=by apply GD<;>with_reducible assumption
 have a_after:sj c:=by apply KU<;>with_reducible assumption
 have a_further:rV c:=by apply Mc<;>with_reducible assumption
 have a_steps_from:sR c:=by apply Iz<;>with_reducible assumption
 have a_reached:rO c:=by apply Ky<;>with_reducible assumption
 have a_ends:tK c:=by apply IK<;>with_reducible assumption
 have a__law_value:kP c:=by apply K8<;>with_reducible assumption
 have a__law_size:nY c:=by apply NB<;>with_reducible assumption
 have a__law_pattern:um c:=by apply Nl<;>with_reducible assumption
 have a__law_template:ub c:=by apply Lc<;>with_reducible assumption
 have a__law_term:wg c:=by apply HX<;>with_reducible assumption
 have a__law_act:uF c:=by apply NK<;>with_reducible assumption
 have a__law_program:uB c:=by apply Ll<;>with_reducible assumption
 have a__law_notes:qx c:=by apply SX<;>with_reducible assumption
 have a__law_known:uD c:=by apply MK<;>with_reducible assumption
 have a__law_stand:vm c:=by apply Od<;>with_reducible assumption
 have a__law_setting:rN c:=by apply Rp<;>with_reducible assumption
 have a__law_fits:vF c:=by apply KZ<;>with_reducible assumption
 have a__law_filled:uv c:=by apply Ql<;>with_reducible assumption
 have a__law_act_at:tU c:=by apply JH<;>with_reducible assumption
 have a__law_got:qf c:=by apply GS<;>with_reducible assumption
 have a__law_movers:qI c:=by apply Lk<;>with_reducible assumption
 have a__law_moved:uY c:=by apply SU<;>with_reducible assumption
 have a__law_gone:rT c:=by apply Jv<;>with_reducible assumption
 have a__law_right:sJ c:=by apply Mk<;>with_reducible assumption
 apply OM<;>with_reducible assumption
theorem all_K(w:Bh)(mg:Str->Option Af)(fa:A')(h:Heap)(X:(KK w.params).In h)(G:h.Ns Ec mg)(hfa:mg "law"=ae (.ref fa)):
  ∃fd:Cc,(∀(s:Ai)(u:Af),BindsTo s fd ⟨[u],[]⟩ [("_law_script",u)])/\∀base:Heap,(KK w.params).In base->base.Ns Ec mg->FnOk pR w (KK w.params) mg base bW 11 fa fd Zc (DL.spLaw (KK w.params)):=by
 have e:=hfa.symm.trans (CI X G 45 ⟨57,"law",653,356,1,330,ah,662,5⟩ rfl).1.2;cases e;exact⟨kQ ⟨57,"law",653,356,1,330,ah,662,5⟩,λs v=>.of_eq rfl,λbase _ _=>Qy ⟨pR,w,KK w.params,mg,base⟩ (λj d e=>CI X G j d e) (zK X G) (PySem.W.mg_of X G (by kernel_rfl)) (PySem.W.mg_of X G (by kernel_rfl)) (PySem.W.mg_of X G (by kernel_rfl)) (λH=>.inr ⟨_,_,_,(show(KK w.params).lookup 80=ae (oT "tuple" (.seq #[(.str "take" 282),(.str "read" 283),(.str "look" 284)] 0)) by kernel_rfl),rfl,rfl,show 3<=Av by decide,(.cons ⟨_,rfl⟩ (.cons ⟨_,rfl⟩ (.cons ⟨_,rfl⟩ .nil)))⟩)⟩
theorem walk{l:PySem.W.OpenLaw}{q:A1}{loose:List Str}{XP:(Str->Option Af)->Heap->Prop}{YP:Bh->Heap->Prop}{d:DefRec}{K:Params->Ag}(hn:l.most=ae 63)(hdf:d.params.defaults=[])
  (hY:∀(w:Bh)(h:Heap),YP w h->(K w.params).In h)
  (F:∀(w:Bh)(mg:Str->Option Af)(fa:A')(h:Heap),(K w.params).In h->h.Ns Ec mg->mg d.name=ae (.ref fa)->
   ∃fd:Cc,(∀(s:Ai)(u:Af),BindsTo s fd ⟨[u],[]⟩ [("_law_script",u)])/\∀base:Heap,(K w.params).In base->base.Ns Ec mg->FnOk l.prog w (K w.params) mg base bW 11 fa fd Zc (DL.spLaw (K w.params))):
  PySem.W.WalkO q loose XP YP l.row.toRowW d [] (λf vs=>PySem.call f vs):=
 L2.walk_of hn ∎ hdf ⟨rfl,by decide,by decide,rfl⟩ hY F (λ_ _ a c e _ b=>⟨a,c,rfl,b,e,λ_=>rfl⟩) λ_ _ _ _ _ z=>z
end Nb
open PySem PySem.W PyProof.Rows
set_option maxRecDepth 100000 in
set_option maxHeartbeats 0 in
theorem PySem.Challenge.cw_noteboard_k42_ends_come_to_holds : PySem.Challenge.rw_noteboard_k42_ends_come_to.Holds := by
 refine holds_law Nb.said_ λsaid=>?_;refine holds_open (q:=Nb.qq) (loose:=Nb.lO) (Xt:=Nb.xT) (XP:=XL Nb.qq []) (Yf:=Hook.obs Nb.hK) (Ya:=Hook.val Nb.hK) (YP:=Hook.says Nb.hK) (d:=Nb.dW) (kwd:=[]) (N:=6000) Nb.left_ (Hook.of Nb.hK) (Hook.keeps Nb.hK) (λs e=>xl_of s (Bool.and_eq_true_iff.mp e).1) XL.keeps (by kernel_rfl) (by kernel_rfl) (by kernel_rfl) (λs e=>recFacts_of (Bool.and_eq_true_iff.mp e).2) (by kernel_rfl) said (by decide +kernel) ⟨rfl,rfl,rfl,rfl,rfl,by decide +kernel⟩ ?hw ?hc
 (case hw=>w_witness2)
 exact Nb.walk (l:=PySem.Challenge.rw_noteboard_k42_ends_come_to) (by kernel_rfl) (by kernel_rfl) (λw h Y=>kIn_of Y) Nb.all_K
