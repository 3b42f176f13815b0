import PyProof.Rows.All
import Wide.All
import OpenK.AllK
import Wide.FinOn
import Lean
import PyProof.EqAt
import PyProof.EqKinds
import PyProof.TupleCall
import PyProof.AttrMissHeap
import PyProof.Rows.RegFStrParts
import KE.KRevIter
import KE.KUnpack
import PySem.Challenge.RW_noteboard_k41_nearest_ways
set_option compiler.extract_closed false
set_option Elab.async false
set_option linter.all false
set_option maxRecDepth 100000
open List renaming length_map -> Aa, getElem?_eq_getElem -> Ae, getElem?_map -> Am, length_append -> An, set -> Ao, mem_cons_of_mem -> Ap, getElem?_eq_some_iff -> Ar, mem_cons_self -> Au, mem_cons -> Ax, length_cons -> Ay, mem_of_getElem? -> A0, size_toArray -> A2, length_singleton -> A3, range -> A5, map_append -> A7, not_mem_nil -> A8, mem_append -> A9, mem_singleton -> Ba, map_cons -> Bc, mem_map -> Bf, find?_cons -> Bg, mem_append_right -> Bk, append_assoc -> Bm, getElem?_set_ne -> Bo, append_nil -> Bp, nil_append -> Bu, mem_iff_getElem? -> Bz, getElem?_cons_zero -> B4, getElem?_cons_succ -> B5, map_map -> B7, mem_range -> Cb, getElem?_eq_none -> Cj, any_cons -> Cm, length_set -> Cp, getElem_mem -> Cq, length_drop -> C1, toArray -> C3, mem_filter -> Da, any_eq_true -> Dc, map_congr_left -> Df, replicate -> Dj, set_cons_zero -> Dl, mem_append_left -> Dn, getElem?_set_self' -> Dp, all_eq_true -> Dq, filter_cons -> D4, length -> D8, pairwise_singleton -> Ea, length_range -> Eb, nodup_cons -> Ee, foldl_cons -> Ef, map_nil -> Ei, getElem?_set_self -> Ej, getElem?_append_left -> Et, map_eq_cons_iff -> Ew, foldl_append -> Ex, prefix_refl -> E6, length_take -> E7, getElem?_replicate -> E8, not_lt -> Fh, getElem_inj -> F3, ext_getElem -> F4, drop_eq_getElem_cons -> F8, map_eq_nil_iff -> Ga, of_mem_zip -> Gg, findIdx?_eq_some_iff_getElem -> Gi, reverse_cons -> Gn, pairwise_map -> Gp, length_filter_le -> Gu, take_length -> Gx, getElem_map -> Gy, map_id -> G1, length_take_le' -> G2, eq_nil_of_length_eq_zero -> G3, flatMap_append -> G7, zip_cons_cons -> Hf, mem_filterMap -> Hg, getD_eq_getElem?_getD -> Hh, pairwise_iff_getElem -> Ho
open PySem renaming wpAny_bind -> Ab, PyData -> Ad, Value -> Ag, wpAny_pure -> Aj, Shared -> Ak, starEach -> Av, sizeLine -> Az, wpAny -> A1, model -> Be, Program -> Bh, World -> Bt, bootBuiltins -> Bv, wpAny_newObj_type -> Bx, wpAny_callSpecial?_slot -> By, Around -> B1, compareOp -> B6, wpAny_call_entry -> Ce, wpAny_holding -> Cf, FuncData -> Cg, behindInMarks -> Ct, rawInt -> Cu, assignEach -> C0, swapsWith -> C5, backTo -> C8, wpAny_setField -> Dd, sysModules -> De, wpAny_truthy_bool -> Dk, wpAny_seqItems -> Dm, wpAny_mono -> Dr, wpAny_field -> Dt, cLine -> Du, mainGlobals -> D1, wpAny_pyIter_tuple -> D9, firstArgMember -> Eg, strKind -> Eh, Builtin -> Ek, wpAny_setEntries_of -> En, wpAny_isInstance -> Er, pyNext -> Eu, codeAny_builtin -> E3, foldedSetIterable -> E5, wpAny_attempt -> E9, isSubtype_type -> Fi, binaryOp -> Fj, SetTable -> Fk, sizeLine_eq -> Fo, Scope -> Fp, wpAny_passesOwn -> Ft, plainId_quiet -> Fv, builtinLookup_eq_fast -> Fy, wpAny_setState_of -> F1, codeAny -> F2, mem_of_lookup -> F6, wpAny_fieldsOf -> Gb, IsPair -> Gc, wpAny_typeOf -> Gf, boot_len -> Gj, wpAny_ite_split -> Gm, wpAny_setField_rec -> Gq, wpAny_Call_Name_kw -> Gr, wpAny_pyIter_list -> Gz, wpAny_rule -> G5, entryFor_of_tree -> G6, DictEntry -> G8, wpAny_typeNameOfWhole_keyiter -> G9, wpAny_of_eq -> Ha, sliceBounds -> Hb, wpAny_specialOf -> Hj, typeLookup_type -> Hk, tupleKind_room_in1 -> Hq, wpAny_typeNameOf_keyiter -> Hr
open PySem.Heap renaming get?_push_of_some -> Af, lt_size -> As, get?_push_size -> Aw, get?_update_self -> Bw, size_push -> Ci, SameBut -> C4, get?_update_other -> Dw
open PySem.W renaming Frag -> Ah, keepIn -> Cw, kia_one -> Dg, kas_rev -> E4, fnOf -> Fu
open Bool renaming false_ne_true -> Ai, false_eq_true -> B3, and_eq_true -> Cc, eq_iff_iff -> Dx
open And renaming intro -> Al
open Nat renaming le_refl -> Aq, zero_le -> A6, ne_of_lt -> Bd, le_trans -> Bj, lt_of_lt_of_le -> Bq, lt_irrefl -> D7, lt_succ_of_lt -> Ed, ne_of_gt -> Em, lt_succ_self -> Eo, lt_of_le_of_lt -> Fl, le_of_lt_succ -> Gs, le_of_lt -> Gt
open PySem.Value renaming ref -> A4, none -> Bi, type -> Dv
open Option.some renaming inj -> Bb
open PySem.Heap.SameBut renaming update -> Bn
open Int renaming toNat_natCast -> Br, natCast_nonneg -> Hl, emod_lt_of_pos -> Hm
open PySem.Obj renaming data_mapFields -> B8, mapSeq -> Cy, isFreed_of_fields -> Di, cls_mapFields -> Ey, putSet -> E2
open Array renaming length_toList -> B9, getElem?_eq_getElem -> Co, getElem?_toList -> Dy, toList_inj -> F0, perm_iff_toList_perm -> He
open Or renaming inr -> Ca, inl -> Cs
open PyProof.Rows renaming seqObj -> Ck, envOfC -> C9, callWith_type1 -> Dh, slot_tuple_getitem -> Ep
open PySem.PyData renaming eqv -> Cn, str -> Dz, canLay0 -> D5, strOk -> Fc, int -> Ff, tuple -> Fw, depth -> Fx
open Exists renaming intro -> Cr
open PySem.Builtin.List renaming listExtendWith -> Cz, listLengthHint -> Fb, listSameRef -> Fs, listTooLong -> G4
open PySem.Builtin.SmallTypes renaming nextOf -> C2, ownedTupleIsFree -> D0, ownedTupleHandOut -> Hi
open Sum renaming inr -> C6
open PySem.Str renaming ofString -> C7
open PySem.Paired renaming length -> D2
open Option renaming isSome_iff_exists -> D3, isSome_map -> Es, map_eq_some_iff -> Fg
open PySem.Around renaming under_plainId -> D6
open True renaming intro -> Ec
open PySem.SetTable renaming grown -> Ez, below -> E1
open PySem.Builtin.Slice renaming slicePlaces -> Fn, sliceAdjust -> G0
open PySem.Builtin.Tuple renaming tupleExact -> Fq, tupleItemsOf -> Gw
open List.cons renaming inj -> Fz
open PySem.AutoSeq1 renaming wpAny_loadPart' -> F5
open PySem.F renaming args_tuple_add_2 -> F7, slot_tuple_iterator_next -> F9, entry_tuple_add -> Ge, slot_tuple_add -> Gh, plain_extend_loop -> Hd
open ForInStep renaming yield -> Gv
open Option renaming some -> ae, none -> af
open Bool renaming true -> ah, false -> ai
noncomputable section
set_option hygiene false
local macro_rules|`(⇑$n:num)=>`(DL.wC (.int $n))
local macro_rules|`(⇑$n:num)=>match n.getNat with|13=>`(Be prog w)|14=>`(Be X.prog X.w)|15=>`(wC .none)|16=>`(Addr×Obj)|17=>`(.d .none)|18=>`(show 2<=1000 by decide)|19=>`(Kp.refl _ _)|20=>`((xb,xp,nm))|21=>`(x==("__debug__":Str))|22=>`(by rw[Aa];omega)|23=>`(bE hs ns)|24=>`(gs.map Fe.fd)|25=>`(.tuple ds)|26=>`(ao ↥1 ak)|27=>`(.inl rfl)|28=>`(ks.map .str)|29=>`(.Name x xp)|30=>`(w2 ↥0 ⇑1 av)|31=>`(λQ q=>au rfl q)|32=>`(.bool ah)|33=>`((ai,eval e X.env))|34=>`(.list ds)|35=>`(.ref s.heap.objs.size)|36=>`(cC λi j=>.int (i+j))|37=>`(ao ↥2 ak)|38=>`(ao ↥4 ak)|39=>`(cQ I q (by simp))|40=>`(ao ↥0 ak)|41=>`(au rfl ?_)|42=>`(w2 ↥0 ⇑0 av)|43=>`(Av es X.env)|44=>`(wd (.bl _))|45=>`(.str "as")|46=>`(x==("__classdict__":Str))|47=>`(.Name x pos')|48=>`(de X N scope cl s H fp)|49=>`(wC (.int 0))|50=>`(El aft N s0 j)|51=>`(ao ↥5 ak)|52=>`(wC ⇑123)|53=>`(w2 ↥1 ⇑0 av)|54=>`(N.take p)|55=>`(ae (.own ds))|56=>`(.bool ai)|57=>`(List Str)|58=>`(Ck "list" vs.toArray 0)|59=>`(.int (i:Nat))|61=>`(λz=>nomatch z)|62=>`(.Call (.Name x p) (e::es) [] pos)|63=>`(.ref s2.heap.objs.size)|64=>`(k1.trans k2)|65=>`(Av [] X.env)|66=>`(ao ↥6 ak)|67=>`(ao ↥3 ak)|68=>`(ao ↥7 ak)|69=>`(EP X pins σ Q)|70=>`(Option Nat)|71=>`(.d (.bool r))|72=>`(bj (aQ ak))|73=>`(wC (.str "is"))|74=>`(w2 ↥3 ⇑0 av)|75=>`(b8 (cu i))|76=>`(upd H a o)|77=>`(ha pins s σ H _ I h)|_=>Lean.Macro.throwUnsupported
local macro_rules|`(⇑$n:num)=>match n.getNat with|78=>`(show ai=ah from hs)|79=>`(by kernel_rfl)|80=>`(ns.map V.int)|81=>`(λ_ _=>False)|82=>`(gh hN hv hd hcd)|83=>`(hs.map .str)|84=>`((ds.length:Int))|85=>`(ao ⇑2 ak)|86=>`(show 3<=1000 by decide)|87=>`((a9 hs m r.1,r.2))|88=>`(.builtin id)|89=>`(I.hok.fresh (Aq _))|90=>`(de X N scope cl s3 H3 fp)|91=>`(.frz o (.dX l))|92=>`(ae (.ref a))|93=>`(λb=>B b\/b=a)|94=>`(cC λi j=>.int (i-j))|95=>`(th.2 _ _ e ne)|96=>`(λa b=>¬b.cps.toList < a.cps.toList)|97=>`(by size_fits)|98=>`(fs.map Fe.fd)|101=>`(wC (.str "take"))|102=>`(λQ q=>ar (au rfl (aF q)))|103=>`(gB rfl ∅ ∅ ∅)|104=>`(.ListComp elt [⟨tg,iter,ifs,0⟩] scope cpos)|105=>`(Cy λ_=>(#[]:Array Ag))|106=>`(λh=>hb (by simp[h]))|107=>`(bb (Al ∎ ?_))|108=>`((ai,eval a X.env))|109=>`(λvs H Q E h=>?_)|110=>`(λcdv A outer s H vs Q E hr h=>?_)|111=>`(.builtin "sorted")|112=>`((a9 hs h r.1,r.2))|113=>`(.w (.ob (.y m)))|114=>`(w2 ↥5 ⇑1 av)|115=>`(w2 ↥0 ↥2 av)|116=>`(w2 ↥2 ⇑1 av)|117=>`(λQ q=>aT (au rfl q))|118=>`(λQ q=>ar (au rfl (aF (iV q))))|119=>`(ie ix_list (pv 0) cG (λ_ _=>rfl))|120=>`(sIx items.size items.size hi-sIx items.size 0 lo)|121=>`(p.toList.map λi=>vs.getD i Bi)|122=>`(Ck "list" (as.map A4).toArray 0)|123=>`(.str "bind")|124=>`(.tuple (hs.map bM))|125=>`(w2 (cS 4) ↥5 aV)|126=>`(j2 λd e=>ae (Cn d e))|127=>`(λk hk=>by cases hk)|128=>`(El (aO ps) ps.length s0 J)|129=>`(.inr (.inl ⟨_,rfl⟩))|130=>`(.inr (.inr ⟨_,rfl⟩))|131=>`(.Compare a [op] [b] pos)|132=>`(ha pos pins s σ H _ I h)|133=>`(Bk _ (Bk _ (mC hb e)))|134=>`(upd H2 s2.heap.objs.size (.lst []))|135=>`((∀b o,s.heap.get? b=ae o->h'.get? b=ae o))|136=>`(Dd ho hd (by simp) ?_)|137=>`(E9 (By (name:=C7 "__next__") hit.typeIs slot_setit_next (Ce slot_setit_next hit.typeIs mZ ?_ (mP _))))|138=>`(En hoa hda hs.fits ?_)|139=>`(show s.heap.IsTuple a its.toArray from p)|140=>`(((sIx items.size 0 lo:Nat):Int))|141=>`(kvs.any λkv=>decide (kv.1=k))|142=>`(A.deeper (C9 qual (b8 st) s.heap.objs.size f cdv))|143=>`(idx.map λi=>V.ref (fO as ks xv i).1)|_=>Lean.Macro.throwUnsupported
local macro_rules|`(⇑$n:num)=>match n.getNat with|144=>`(by first|rfl|(simp only[Eg];rfl))|145=>`((El (aO ps) ps.length s0 J).map λe=>e.1.1)|146=>`(.Call (.Name f p0) [.Name x0 p1,.Name x1 p2,.Name x2 p3] [] cp)|147=>`(bj (cg [af,ae 1] (c9 (w2 ↥2 ↥0 aV)) (aD 0) (cT (w2 ↥0 ↥1 (e9 ah))) ↥0))|_=>Lean.Macro.throwUnsupported
local macro_rules|`(tactic|sleep $n)=>match n.getNat with|0=>`(tactic|(dsimp only[Ao]))|1=>`(tactic|(dsimp only[aG]))|2=>`(tactic|(exact q1.elim))|3=>`(tactic|(obtain⟨t,rfl⟩:=rx))|4=>`(tactic|(obtain⟨t',rfl⟩:=ry))|5=>`(tactic|(decide +kernel))|6=>`(tactic|(intro pins s σ H Q I h))|7=>`(tactic|(rw[if_neg Ai]))|8=>`(tactic|(intro pins s σ H x y v u Q I rx ry h))|9=>`(tactic|(exact h1.elim))|10=>`(tactic|(rw[if_pos rfl]))|11=>`(tactic|(intro pins s σ H xs us Q I r h))|12=>`(tactic|(exact λz=>nomatch z))|13=>`(tactic|(dsimp only[aD,Ao]))|14=>`(tactic|(exact λ_ _ _ _ _ _ z=>z.elim))|15=>`(tactic|(dsimp only[bG,cM,aD,Ao]))|16=>`(tactic|(intro pins s σ H D I h))|17=>`(tactic|(intro X hP hw hK hc i pins s σ H E I hf st hg;subst hP hw hK))|18=>`(tactic|(obtain⟨u,rfl,ru⟩:=gU r))|19=>`(tactic|(dsimp only;refine iu rfl ?_))|20=>`(tactic|(exact⟨2,by decide,rfl⟩))|21=>`(tactic|(obtain⟨f0,f1,f2,f3,f4,f5⟩:=hf it (by simp)))|22=>`(tactic|(subst ex;obtain rfl:u=A4 a:=rx))|23=>`(tactic|(have hat:a≠C.t:=λz=>R.t0 (z▸e4)))|24=>`(tactic|(simp only[Ax,A8,or_false]at hd))|25=>`(tactic|(obtain⟨P,xb,xp,nm,w,as,H⟩:=iQ okh hh))|26=>`(tactic|(obtain⟨a',xs',g1,g2,g3,g4,g5,g6⟩:=f2;refine⟨a',xs',g1,g2,⟨g3,λz=>?_⟩,g4,g5,g6.move λb o e n=>⟨e,λz=>n z.1⟩⟩))|27=>`(tactic|(refine Al ⟨by omega,by omega⟩ ?_))|28=>`(tactic|(simp only[raiseNew];refine Ab (wpAny_handled ?_)))|29=>`(tactic|(exact md C H B σ δ n x y _ q Q Q' R rx ry h1 k))|30=>`(tactic|(exact jV C H B σ δ n x y p _ Q Q' R rx ry h1 k))|31=>`(tactic|(obtain⟨a',xs,e1,e2,e3,e4,e5,e6⟩:=h2;have ne:a'≠a:=λz=>ho i _ e rfl (by rw[h1,e1,z]);exact⟨a',xs,e1,by rw[aN ne];exact e2,e3,e4,e5,e6.move mv⟩))|32=>`(tactic|(obtain⟨a',xs,e1,e2,e3,e4,e5,e6⟩:=f2;exact⟨a',xs,e1,k _ _ e2 (λz=>R.t0 (z▸e4)),.inl e3,e4,e5,e6.move mv⟩))|_=>Lean.Macro.throwUnsupported
set_option hygiene true
local macro_rules|`(tactic|omega)=>`(tactic|lia)
local macro_rules|`(⋯)=>`(by omega)
local macro_rules|`(∅)=>`(by decide +kernel)
local macro_rules|`(∎)=>`(by decide)
local macro_rules|`(↑$x)=>`(Option.some (.w (.d $x)))
set_option maxHeartbeats 4000000
namespace L2
open PySem PySem.Spec PyProof.Rows
def kP(s:Stmt):Arguments:=match s with
 |.FunctionDef _ a _ _ _ _ _ _ _ _=>a
 |_=>{ posonlyargs:=[],args:=[],vararg:=af,kwonlyargs:=[],kw_defaults:=[],kwarg:=af,defaults:=[]}
def fA(s:Stmt):List Stmt:=match s with
 |.FunctionDef _ _ b _ _ _ _ _ _ _=>b
 |_=>[]
def b8(s:Stmt):Fp:=match s with
 |.FunctionDef _ _ _ _ _ _ sc _ _ _=>sc
 |_=>{ kind:=.function,names:=[],isGenerator:=ai,isCoroutine:=ai}
end L2
namespace Nb
open PySem L2
def cu(i:Nat):Stmt:=PySem.Challenge.pw_noteboard_k41_nearest_ways.main.body.getD i (.Pass ⟨0,0,0,0⟩)
abbrev Ly:Stmt:=cu 39
abbrev Qd:Stmt:=cu 40
abbrev qm:Stmt:=cu 64
abbrev BF:Stmt:=Ly
abbrev EA:Stmt:=Qd
abbrev oT(t:String)(d:Data):Obj:=⟨.type t,af,d,#[]⟩
structure Ds where
 i:Nat
 x:Str
 t:Nat
 l:Nat
 n:Nat
 r:Nat
 b:Bool
 v:Nat
 m:Nat
abbrev Ds.c(d:Ds):Nat:=if d.b then d.r+5 else d.r+3
abbrev Ds.f(d:Ds):Nat:=if d.b then d.r+6 else d.r+4
abbrev Py(m:Nat):Ag:=[(.str "noteboard.values" 223),(.str "noteboard.patterns" 234),(.str "noteboard.stands" 286),(.str "noteboard.moving" 296),(.str "noteboard.sights" 406),(.str "noteboard.reaching" 427),(.str "law_noteboard_k41_nearest_ways" 485)].getD m .none
abbrev kM(d:Ds):Cg:=Fu d.x d.x (kP (cu d.i)) (fA (cu d.i)) (b8 (cu d.i)) .none .none .none (Py d.m) af (.ref d.c) .none
abbrev oF(d:Ds):Obj:=oT "function" (.func (kM d))
abbrev oC(d:Ds):Obj:=oT "code" (.fields #[.str d.x d.t,.str d.x (d.t+1),.str "/claim/cut.py" (d.t+2),.int d.l 0,.int d.n 0,.int 0 0,.int 0 0,.int 3 0,.ref d.r,.bool ah,.int 181 0,.ref (d.r+1),.none,if d.b then .ref (d.r+2)else .none,if d.b then .ref (d.r+3)else .none,.ref (if d.b then d.r+4 else d.r+2),.int d.v 0,.int d.l 0,.str "/claim/cut.py" (d.v+1)])
abbrev eN(P:Params)(x:Str)(t:Nat)(v:Ag):G8:=⟨PyData.keyHash P x,.str x t,v⟩
abbrev en(P:Params)(d:Ds):G8:=eN P d.x (d.v+2) (.ref d.f)
def dL:List Ds:=[⟨5,"is_whole",227,8,1,40,ah,231,0⟩,⟨7,"field_fits",236,11,4,47,ah,244,1⟩,⟨8,"fits",247,24,3,54,ah,257,1⟩,⟨9,"next_value",260,36,1,61,ah,264,1⟩,⟨10,"field_value",267,40,2,68,ah,273,1⟩,⟨11,"filled",276,45,2,75,ai,279,1⟩,⟨14,"is_within",288,50,2,81,ah,293,2⟩,⟨16,"next_act",298,53,3,88,ah,307,3⟩,⟨17,"gets",310,58,3,95,ah,321,3⟩,⟨18,"gone_on",324,70,2,102,ah,329,3⟩,⟨19,"gone_to",332,72,3,109,ai,335,3⟩,⟨20,"with_hand",338,75,3,114,ah,344,3⟩,⟨21,"got",347,77,4,121,ah,358,3⟩,⟨22,"is_same_value",361,89,2,128,ah,367,3⟩,⟨23,"hand_moved",370,92,3,135,ah,380,3⟩,⟨24,"aged",383,109,1,142,ah,387,3⟩,⟨25,"clock_moved",390,111,1,149,ai,393,3⟩,⟨26,"after",396,113,3,154,ah,403,3⟩,⟨28,"others_in",408,119,1,161,ah,412,4⟩,⟨29,"how_many_fit",415,123,2,168,ai,418,4⟩,⟨30,"sees",421,125,3,173,ai,424,4⟩,⟨33,"further",431,139,3,178,ah,441,5⟩,⟨34,"steps_from",444,150,2,185,ah,451,5⟩,⟨35,"way_along",454,156,2,192,ah,461,5⟩,⟨36,"first_seeing",464,163,3,199,ah,471,5⟩,⟨37,"way_to",474,168,3,206,ah,482,5⟩,⟨39,"_law_tape",487,173,1,213,ah,491,6⟩,⟨40,"_law_draw",494,175,2,220,ah,503,6⟩,⟨41,"_law_value",506,190,1,227,ah,510,6⟩,⟨42,"_law_size",513,192,1,234,ah,517,6⟩,⟨43,"_law_pattern",520,194,2,241,ah,531,6⟩,⟨44,"_law_template",534,211,2,248,ah,542,6⟩,⟨45,"_law_term",545,220,2,255,ah,550,6⟩,⟨46,"_law_act",553,224,3,262,ah,563,6⟩,⟨47,"_law_program",566,237,1,269,ai,569,6⟩,⟨48,"_law_notes",572,254,2,274,ai,575,6⟩,⟨49,"_law_known",578,260,3,279,ai,581,6⟩,⟨50,"_law_stand",584,266,3,284,ai,587,6⟩,⟨51,"_law_setting",590,274,1,289,ai,593,6⟩,⟨52,"_law_fits",596,282,3,294,ai,599,6⟩,⟨53,"_law_filled",602,301,2,299,ah,610,6⟩,⟨54,"_law_act_at",613,311,3,306,ah,623,6⟩,⟨55,"_law_got",626,315,3,313,ah,634,6⟩,⟨56,"_law_movers",637,321,2,320,ah,646,6⟩,⟨57,"_law_moved",649,330,3,327,ai,652,6⟩,⟨58,"_law_gone",655,357,3,332,ah,666,6⟩,⟨59,"_law_sight",669,371,3,339,ai,672,6⟩,⟨60,"_law_seen",675,386,3,344,ai,678,6⟩,⟨61,"_law_walked",681,398,3,349,ah,688,6⟩,⟨62,"_law_aim",691,404,3,356,ai,694,6⟩,⟨63,"_law_right",697,411,5,361,ai,700,6⟩,⟨64,"law",703,419,1,366,ah,714,6⟩]
def KK(P:Params):Ah:=let e:=eN P
 (3,oT "dict" (.dict ([e "__name__" 165 (.str "law_noteboard_k41_nearest_ways" 485),e "__doc__" 166 .none,e "__package__" 167 .none,e "__loader__" 168 (.builtin "__main__.__loader__#opaque"),e "__spec__" 169 .none,e "__annotations__" 170 (.ref 6),e "__builtins__" 171 (.ref 4),e "__file__" 173 (.str "/claim/cut.py" 172),e "__cached__" 174 .none,e "BoardError" 206 (.ref 24),e "TooMany" 222 (.ref 37),e "GREATEST_NUMBER" 226 (.int 99 225)]++((dL.drop 0).take 6).map (en P)++[e "GETTING" 285 (.ref 80)]++((dL.drop 6).take 15).map (en P)++[e "MOST_STANDS" 430 (.int 2000 429)]++((dL.drop 21).take 31).map (en P)).toArray 66))::(dL.flatMap λd=>[(d.c,oC d),(d.f,oF d)])++[(80,oT "tuple" (.seq #[(.str "take" 282),(.str "read" 283),(.str "look" 284)] 0))]
def aS:List Addr:=3::(dL.flatMap λd=>[d.c,d.f])++[80]
abbrev pp:Bh:=PySem.Challenge.pw_noteboard_k41_nearest_ways
abbrev qq:Bh:=PySem.W.view pp [64]
def lO:List Str:=(["BoardError","TooMany","GREATEST_NUMBER","is_whole","field_fits","fits","next_value","field_value","filled","GETTING","is_within","next_act","gets","gone_on","gone_to","with_hand","got","is_same_value","hand_moved","aged","clock_moved","after","others_in","how_many_fit","sees","MOST_STANDS","further","steps_from","way_along","first_seeing","way_to","_law_tape","_law_draw","_law_value","_law_size","_law_pattern","_law_template","_law_term","_law_act","_law_program","_law_notes","_law_known","_law_stand","_law_setting","_law_fits","_law_filled","_law_act_at","_law_got","_law_movers","_law_moved","_law_gone","_law_sight","_law_seen","_law_walked","_law_aim","_law_right"]:List String).map C7
abbrev xT:Ak->Bool:=λs=>PySem.W.xlAt qq [] s&&PySem.W.recOk (PySem.W.RowW.records PySem.Challenge.rw_noteboard_k41_nearest_ways.row.toRowW) s
theorem said_:PySem.Challenge.rw_noteboard_k41_nearest_ways.wellSaid=ah:=by kernel_rfl
theorem aK:∀P,aS=(KK P).map (·.1):=λP=>by kernel_rfl
abbrev hK:PySem.W.Hook:=PySem.W.kHook KK aS aK
theorem left_:PySem.W.LeftO pp qq lO xT hK.obs hK.val 6000:=λw=>by kernel_rfl
def LN(s:Stmt):Pos:=match s with
 |.FunctionDef _ _ _ _ _ _ _ _ _ p=>p
 |_=>⟨0,0,0,0⟩
def dW:DefRec:=⟨"law",kP qm,fA qm,b8 qm,LN qm⟩
theorem LF(P):(dL.map λd=>(PySem.W.nsIn (KK P) D1 d.x,(KK P).lookup d.f,PySem.W.codeIn (KK P) (.ref d.c) d.x))=dL.map λd=>(ae (ae (.ref d.f)),ae (oF d),ah):=by kernel_rfl
theorem zV{α β:Type}{f g:α->β}{l:List α}(h:l.map f=l.map g){j:Nat}{a:α}(e:l[j]?=ae a):f a=g a:=by
 have:=congrArg (λl=>l[j]?) h;simp only[Am,e,Option.map_some]at this;exact Bb this
end Nb
namespace L2
open PySem PySem.Spec PyProof.Rows
abbrev aH:=Sum Int Str
def kg:aH->Ag->Bool
 |.inl k,v=>Value.isInt k v
 |.inr x,v=>Value.isStrOf x v
def kK(w:Bt):aH->Int
 |.inl k=>hashInt k
 |.inr x=>hashStr w x
theorem iE:∀{k:aH}{v:Ag},kg k v=ah->(∃i t,k=Sum.inl i/\v=Value.int i t)\/(∃x t,k=C6 x/\v=Value.str x t)
 |.inl i,v,h=>by
  obtain⟨t,e⟩:=Value.isInt_shape (k:=i) (v:=v) h;exact .inl ⟨i,t,rfl,e⟩
 |.inr x,v,h=>by
  obtain⟨t,e⟩:=Value.isStrOf_shape (x:=x) (v:=v) h;exact .inr ⟨x,t,rfl,e⟩
theorem Uy(i)(t):kg (.inl i) (.int i t)=ah:=by simp[kg,Value.isInt]
theorem M3(x)(t):kg (.inr x) (.str x t)=ah:=by simp[kg,Value.isStrOf]
theorem OB(a b):decide ((Sum.inl a:aH)=Sum.inl b)=(a==b):=by
 by_cases e:a=b
 ·subst e;simp
 ·have h:¬(Sum.inl a:aH)=Sum.inl b:=λq=>e (Sum.inl.inj q);rw[decide_eq_false h];exact(beq_eq_false_iff_ne.mpr e).symm
theorem Sy(a b):decide ((C6 a:aH)=C6 b)=decide (a=b):=by
 by_cases e:a=b
 ·subst e;simp
 ·have h:¬(C6 a:aH)=C6 b:=λq=>e (Sum.inr.inj q);rw[decide_eq_false h,decide_eq_false e]
theorem Na(a)(b):decide ((Sum.inl a:aH)=C6 b)=ai:=decide_eq_false (λq=>nomatch q)
theorem JI(a)(b):decide ((C6 a:aH)=Sum.inl b)=ai:=decide_eq_false (λq=>nomatch q)
def fj(prog:Bh)(w:Bt):PySem.KeyKind prog w aH where
 is:=kg
 hash:=kK w
 inj:=λv a b ha hb=>by
  rcases iE ha with⟨i,t,rfl,rfl⟩|⟨x,t,rfl,rfl⟩
  ·rcases iE hb with⟨j,u,rfl,e⟩|⟨y,u,rfl,e⟩
   ·injection e with e1 _;rw[e1]
   ·exact nomatch e
  ·rcases iE hb with⟨j,u,rfl,e⟩|⟨y,u,rfl,e⟩
   ·exact nomatch e
   ·injection e with e1 _;rw[e1]
 byValue:=λk v h=>by
  rcases iE h with⟨i,t,rfl,rfl⟩|⟨x,t,rfl,rfl⟩<;>rfl
 pyHash:=λhv h=>by
  rcases iE hv with⟨i,t,rfl,rfl⟩|⟨x,t,rfl,rfl⟩
  ·exact wpAny_pyHash_int h
  ·exact wpAny_pyHash_str h
 eqBool:=λhu hv h=>by
  rcases iE hu with⟨i,t,rfl,rfl⟩|⟨x,t,rfl,rfl⟩
  ·rcases iE hv with⟨j,u,rfl,rfl⟩|⟨y,u,rfl,rfl⟩
   ·rw[OB]at h;exact wpAny_eqBool_int h
   ·rw[Na]at h;exact SeqAt.EqAt.int_str i t y u _ _ _ _ h
  ·rcases iE hv with⟨j,u,rfl,rfl⟩|⟨y,u,rfl,rfl⟩
   ·rw[JI]at h;exact SeqAt.EqAt.str_int x t j u _ _ _ _ h
   ·rw[Sy]at h;exact wpAny_eqBool_str h
 «strs»:=λk x t v h=>by
  rcases iE h with⟨i,u,rfl,e⟩|⟨y,u,rfl,e⟩
  ·exact nomatch e
  ·injection e with e1 _;subst e1;cases v<;>rfl
theorem yT(prog)(w)(i)(t):(fj prog w).is (.inl i) (.int i t)=ah:=Uy i t
theorem FI(prog)(w)(x)(t):(fj prog w).is (.inr x) (.str x t)=ah:=M3 x t
mutual
def cX:Nat->Ad->Bool
 |_,.none=>ah
 |_,.int _=>ah
 |_,.str x=>Fc x
 |n+1,.tuple ds=>fH n ds
 |_,_=>ai
def fH:Nat->List Ad->Bool
 |_,[]=>ah
 |n,d::r=>cX n d&&fH n r
end
mutual
def jM(w:Bt):Ad->Int
 |.str x=>kK w (.inr x)
 |.int i=>kK w (.inl i)
 |.none=>0xFCA86420
 |.tuple xs=>reduceHash (Builtin.Tuple.tupleHashOf (pz w xs))
 |_=>0
def pz(w:Bt):List Ad->List Int
 |[]=>[]
 |x::r=>jM w x::pz w r
end
mutual
def jD:Ad->Nat
 |.tuple xs=>qk xs+1
 |_=>1
def qk:List Ad->Nat
 |[]=>0
 |x::r=>jD x+qk r
end
theorem gG(h:cX n d=ah):d=.none\/(∃i,d=.int i)\/(∃x,d=.str x/\Fc x=ah)\/∃m ds,n=m+1/\d=.tuple ds/\fH m ds=ah:=by
 cases d with
 |none=>exact .inl rfl
 |int i=>exact .inr (.inl ⟨i,rfl⟩)
 |str x=>exact .inr (.inr (.inl ⟨x,rfl,by cases n<;>(rw[cX]at h;exact h)⟩))
 |tuple ds=>
  cases n with
  |zero=>rw[cX]at h<;>first|cases h|(intros;simp_all)
  |succ m=>exact .inr (.inr (.inr ⟨m,ds,rfl,rfl,by rw[cX]at h;exact h⟩))
 |_=>cases n<;>(rw[cX]at h<;>first|cases h|(intros;simp_all))
theorem GY:∀(n:Nat){d:Ad},cX n d=ah->D5 d=ah/\Fx d<=n:=by
 intro n
 induction n with
 |zero=>
  intro d h;rcases gG h with rfl|⟨i,rfl⟩|⟨x,rfl,hx⟩|⟨m,ds,e,_⟩
  ·exact⟨rfl,A6 _⟩
  ·exact⟨rfl,A6 _⟩
  ·exact⟨by rw[D5];exact hx,A6 _⟩
  ·cases e
 |succ n ih=>
  intro d h;rcases gG h with rfl|⟨i,rfl⟩|⟨x,rfl,hx⟩|⟨m,ds,e,rfl,ha⟩
  ·exact⟨rfl,A6 _⟩
  ·exact⟨rfl,A6 _⟩
  ·exact⟨by rw[D5];exact hx,A6 _⟩
  ·cases e;have:PyData.canLayAll0 ds=ah/\PyData.depthAll ds<=n:=by
    clear h
    induction ds with
    |nil=>exact⟨rfl,A6 _⟩
    |cons x r ih2=>
     rw[fH,Cc]at ha;obtain⟨a1,a2⟩:=ih2 ha.2;obtain⟨b1,b2⟩:=ih ha.1;exact⟨by rw[PyData.canLayAll0,a1,b1];rfl,by rw[PyData.depthAll];omega⟩
   exact⟨by rw[D5];exact this.1,by rw[Fx];omega⟩
theorem L3:∀(n:Nat){d e:Ad},cX n d=ah->cX n e=ah->(Cn d e=ah↔d=e):=by
 intro n;have base:∀{d e:Ad},(d=.none\/(∃i,d=.int i)\/∃x,d=.str x)->(e=.none\/(∃i,e=.int i)\/∃x,e=.str x)->(Cn d e=ah↔d=e):=by
  intro d e h g;rcases h with rfl|⟨i,rfl⟩|⟨x,rfl⟩<;>rcases g with rfl|⟨j,rfl⟩|⟨y,rfl⟩<;>simp[Cn]
 induction n with
 |zero=>
  intro d e h g;refine base ?_ ?_
  ·rcases gG h with h|h|⟨x,h,_⟩|⟨m,ds,e,_⟩
   ·exact .inl h
   ·exact .inr (.inl h)
   ·exact .inr (.inr ⟨x,h⟩)
   ·cases e
  ·rcases gG g with h|h|⟨x,h,_⟩|⟨m,ds,e,_⟩
   ·exact .inl h
   ·exact .inr (.inl h)
   ·exact .inr (.inr ⟨x,h⟩)
   ·cases e
 |succ n ih=>
  intro d e h g;have key:∀xs ys:List Ad,fH n xs=ah->fH n ys=ah->(PyData.eqvAll xs ys=ah↔xs=ys):=by
   intro xs
   induction xs with
   |nil=>intro ys _ _;cases ys<;>simp[PyData.eqvAll]
   |cons x r ih2=>
    intro ys hx hy;cases ys with
    |nil=>simp[PyData.eqvAll]
    |cons y s=>
     rw[fH,Cc]at hx hy;rw[PyData.eqvAll,Cc,ih hx.1 hy.1,ih2 s hx.2 hy.2,List.cons.injEq]
  rcases gG h with rfl|⟨i,rfl⟩|⟨x,rfl,hx⟩|⟨m,ds,em,rfl,ha⟩<;>rcases gG g with rfl|⟨j,rfl⟩|⟨y,rfl,hy⟩|⟨k,es,ek,rfl,hb⟩
  ·exact base ⇑27 ⇑27
  ·exact base ⇑27 ⇑129
  ·exact base ⇑27 ⇑130
  ·simp[Cn]
  ·exact base ⇑129 ⇑27
  ·exact base ⇑129 ⇑129
  ·exact base ⇑129 ⇑130
  ·simp[Cn]
  ·exact base ⇑130 ⇑27
  ·exact base ⇑130 ⇑129
  ·exact base ⇑130 ⇑130
  ·simp[Cn]
  ·simp[Cn]
  ·simp[Cn]
  ·simp[Cn]
  ·cases em;cases ek;rw[Cn,key ds es ha hb,PyData.tuple.injEq]
theorem R9:∀(n:Nat){h:Heap}{v:Ag}{d e:Ad}{as bs:List Addr},cX n d=ah->cX n e=ah->Reads h v d as->Reads h v e bs->d=e:=by
 intro n
 induction n with
 |zero=>
  intro h v d e as bs hd he r1 r2;rcases gG hd with rfl|⟨i,rfl⟩|⟨x,rfl,_⟩|⟨m,ds,z,_⟩
  ·cases r1;cases r2;rfl
  ·cases r1;cases r2;rfl
  ·cases r1;cases r2;rfl
  ·cases z
 |succ n ih=>
  intro h v d e as bs hd he r1 r2;rcases gG hd with rfl|⟨i,rfl⟩|⟨x,rfl,_⟩|⟨m,ds,z,rfl,hds⟩
  ·cases r1;cases r2;rfl
  ·cases r1;cases r2;rfl
  ·cases r1;cases r2;rfl
  ·cases z;rcases gG he with rfl|⟨i,rfl⟩|⟨x,rfl,_⟩|⟨m,es,z,rfl,hes⟩
   ·cases r2;cases r1
   ·cases r2;cases r1
   ·cases r2;cases r1
   ·cases z;cases r1 with
    |tuple a1 a2 a3 a4=>
     cases r2 with
     |tuple b1 b2 b3 b4=>
      cases Bb (a1.symm.trans b1);rw[a3]at b3;injection b3 with b3 _;subst b3;have:∀{vs:List Ag}{xs ys:List Ad}{as bs:List Addr},fH n xs=ah->fH n ys=ah->ReadsAll h vs xs as->ReadsAll h vs ys bs->xs=ys:=by
       intro vs
       induction vs with
       |nil=>intro xs ys as bs _ _ q1 q2;cases q1;cases q2;rfl
       |cons v r ih2=>
        intro xs ys as bs t1 t2 q1 q2;cases q1 with
        |cons p1 p2=>
         cases q2 with
         |cons s1 s2=>
          rw[fH,Cc]at t1 t2;rw[ih t1.1 t2.1 p1 s1,ih2 t1.2 t2.2 p2 s2]
      rw[this hds hes a4 b4]
theorem N4:∀(n:Nat){h h':Heap}{v:Ag}{d:Ad}{as:List Addr}{dd:Addr}{o:Obj}{es:Array G8}{ep:Nat},cX n d=ah->Reads h v d as->h.get? dd=ae o->o.data=.dict es ep->C4 dd h h'->Reads h' v d as:=by
 intro n
 induction n with
 |zero=>
  intro h h' v d as dd o es ep hd r1 ho hdt hs;rcases gG hd with rfl|⟨i,rfl⟩|⟨x,rfl,_⟩|⟨m,ds,z,_⟩
  ·cases r1;exact .none
  ·cases r1;exact .int _ _
  ·cases r1;exact .str _ _
  ·cases z
 |succ n ih=>
  intro h h' v d as dd o es ep hd r1 ho hdt hs;rcases gG hd with rfl|⟨i,rfl⟩|⟨x,rfl,_⟩|⟨m,ds,z,rfl,hds⟩
  ·cases r1;exact .none
  ·cases r1;exact .int _ _
  ·cases r1;exact .str _ _
  ·cases z;cases r1 with
   |@tuple a o' vs k _ _ a1 a2 a3 a4=>
    have hne:a≠dd:=by
     rintro rfl
     cases Bb (a1.symm.trans ho);rw[hdt]at a3;exact nomatch a3
    have:∀{vs:List Ag}{xs:List Ad}{as:List Addr},fH n xs=ah->ReadsAll h vs xs as->ReadsAll h' vs xs as:=by
     intro vs
     induction vs with
     |nil=>intro xs as _ q1;cases q1;exact .nil
     |cons v r ih2=>
      intro xs as t1 q1;cases q1 with
      |cons p1 p2=>
       rw[fH,Cc]at t1;exact .cons (ih t1.1 p1 ho hdt hs) (ih2 t1.2 p2)
    exact .tuple ((hs.2 a hne).trans a1) a2 a3 (this hds a4)
section
variable{prog:Bh}{w:Bt}{E:Ag->Ak->Prop}
theorem GB(ih:∀{A:B1} {s:Ak} {v:Ag} {d:Ad} {as:List Addr} {Q:Int->Ak->Prop},A.units+n < Du->cX n d=ah->Reads s.heap v d as->Q (jM w d) {s with toks:=s.toks+jD d}->A1 ⇑13 A (pyHash v) Q E s):
  ∀(xs:List Ad)(vs:List Ag)(as:List Addr)(A:B1)(s:Ak)(b:Array Int)(Q:Array Int->Ak->Prop),fH n xs=ah->ReadsAll s.heap vs xs as->A.units+n < Du->
  (∀b',b'.toList=b.toList++pz w xs->Q b' {s with toks:=s.toks+qk xs})->
  A1 ⇑13 A (forIn vs b λx r=>do let h <-pyHash x;pure PUnit.unit;pure (Gv (r.push h))) Q E s
 |[],_,as,A,s,b,Q,_,x,_,h=>by cases x;exact Aj (h b (by simp[pz]))
 |k::xs,_,as,A,s,b,Q,hk,x,hu,h=>by
  cases x with
  |cons x1 x2=>
   rw[fH,Cc]at hk;rw[List.forIn_cons];refine Ab (Ab (ih hu hk.1 x1 ?_));refine Ab (Aj (Aj ?_));refine GB ih xs _ _ A _ _ Q hk.2 x2 hu λb' hb=>?_;have:=h b' (by simp[hb,pz]);rw[qk,<-Nat.add_assoc]at this;exact this
theorem LB:∀(n:Nat){A:B1}{s:Ak}{v:Ag}{d:Ad}{as:List Addr}{Q:Int->Ak->Prop},A.units+n < Du->cX n d=ah->Reads s.heap v d as->Q (jM w d) {s with toks:=s.toks+jD d}->A1 ⇑13 A (pyHash v) Q E s:=by
 intro n;have leaf:∀{A:B1}{s:Ak}{v:Ag}{d:Ad}{as:List Addr}{Q:Int->Ak->Prop},A.units < Du->(d=.none\/(∃i,d=.int i)\/∃x,d=.str x)->Reads s.heap v d as->Q (jM w d) {s with toks:=s.toks+jD d}->A1 ⇑13 A (pyHash v) Q E s:=by
  intro A s v d as Q hu hd r q;rcases hd with rfl|⟨i,rfl⟩|⟨x,rfl⟩
  ·cases r;exact W.pyHash_slot (T:="NoneType") rfl F.slot_NoneType_hash F.entry_NoneType_hash (F.args_NoneType_hash_1 _) (beq_builtin_none _) (.inr hu) (Ab (Aj (Ab (wpAny_mkInt (Aj ⟨_,_,rfl,by rw[jM,jD]at q<;>first|exact q|(intros;simp_all)⟩)))))
  ·cases r;rw[jM,jD]at q
   ·exact(fj prog w).pyHash (k:=.inl i) (yT prog w _ _) q
   all_goals (intros;simp_all)
  ·cases r;rw[jM,jD]at q
   ·exact(fj prog w).pyHash (k:=.inr x) (FI prog w _ _) q
   all_goals (intros;simp_all)
 induction n with
 |zero=>
  intro A s v d as Q hu hd r q;refine leaf hu ?_ r q;rcases gG hd with h|h|⟨x,h,_⟩|⟨m,ds,e,_⟩
  ·exact .inl h
  ·exact .inr (.inl h)
  ·exact .inr (.inr ⟨x,h⟩)
  ·cases e
 |succ n ih=>
  intro A s v d as Q hu hd r q;rcases gG hd with h|h|⟨x,h,_⟩|⟨m,ds,z,rfl,hds⟩
  ·exact leaf ⋯ (.inl h) r q
  ·exact leaf ⋯ (.inr (.inl h)) r q
  ·exact leaf ⋯ (.inr (.inr ⟨x,h⟩)) r q
  ·cases z;cases r with
   |@tuple a o vs k _ _ a1 a2 a3 a4=>
    refine W.pyHash_slot (T:="tuple") ⟨o,a1,a2⟩ F.slot_tuple_hash F.entry_tuple_hash (F.args_tuple_hash_1 _) (beq_builtin_none _) (.inr ⋯) ?_;show A1 _ _ (Gw (.ref a)>>=_) _ _ s;refine Ab (wpAny_tupleItemsOf a1 a3 ?_);refine Ab ?_;rw[<-Array.forIn_toList];refine GB ih ds vs.toList _ A.in1 s #[] _ hds a4 (by simp only[Around.in1_units];omega) λb hb=>?_;show A1 _ _ (retInt (Builtin.Tuple.tupleHashOf b.toList)) _ _ _;rw[hb];refine Ab (wpAny_mkInt (Aj ⟨_,_,rfl,?_⟩));rw[jM,jD]at q;rw[<-Nat.add_assoc]at q;exact q
theorem Jl:∀(n m:Nat){A:B1}{s:Ak}{v:Ag}{d:Ad}{as:List Addr}{Q:Bool->Ak->Prop},n<=m->cX n d=ah->Reads s.heap v d as->Q ah s->A1 ⇑13 A (eqIsQuiet m v) Q E s:=by
 intro n;have leaf:∀{m:Nat}{A:B1}{s:Ak}{v:Ag}{d:Ad}{as:List Addr}{Q:Bool->Ak->Prop},(d=.none\/(∃i,d=.int i)\/∃x,d=.str x)->Reads s.heap v d as->Q ah s->A1 ⇑13 A (eqIsQuiet m v) Q E s:=by
  intro m A s v d as Q hd r q;have hb:carriedByValue v=ah:=by
   rcases hd with rfl|⟨i,rfl⟩|⟨x,rfl⟩<;>cases r<;>rfl
  rw[eqIsQuiet_byValue _ hb];exact Aj q
 induction n with
 |zero=>
  intro m A s v d as Q _ hd r q;refine leaf ?_ r q;rcases gG hd with h|h|⟨x,h,_⟩|⟨m,ds,e,_⟩
  ·exact .inl h
  ·exact .inr (.inl h)
  ·exact .inr (.inr ⟨x,h⟩)
  ·cases e
 |succ n ih=>
  intro m A s v d as Q hm hd r q;rcases gG hd with h|h|⟨x,h,_⟩|⟨m',ds,z,rfl,hds⟩
  ·exact leaf (.inl h) r q
  ·exact leaf (.inr (.inl h)) r q
  ·exact leaf (.inr (.inr ⟨x,h⟩)) r q
  ·cases z;obtain⟨m,rfl⟩:∃k,m=k+1:=⟨m-1,by omega⟩;cases r with
   |@tuple a o vs k _ _ a1 a2 a3 a4=>
    have hT:s.TypeIs (.ref a) "tuple":=⟨o,a1,a2⟩;unfold eqIsQuiet;refine Ab (Hj hT F.slot_tuple_eq.lookup ?_);show A1 _ _ (isInstance (.ref a) (.type "tuple")>>=_) _ _ s;refine Ab (Er hT isSubtype_tuple_tuple ?_);simp only[Bool.not_true,B3,if_false];refine Ab (Dm a1 a3 ?_);refine Ab ?_;show A1 _ _ (forIn vs _ _) _ _ s;rw[<-Array.forIn_toList];refine wpAny_forIn_list _ (λaE r s'=>r.1=af/\s'=s/\∃xs bs,fH n xs=ah/\ReadsAll s.heap aE xs bs) _ ?_ ?_ _ _ ⟨rfl,rfl,ds,_,hds,a4⟩
    ·rintro v aE r s' ⟨hr,rfl,xs,bs,hx,hr2⟩
     cases hr2 with
     |cons p1 p2=>
      rw[fH,Cc]at hx;refine Ab (ih m ⋯ hx.1 p1 ?_);simp only[Bool.not_true,B3,if_false];exact Aj ⟨rfl,rfl,_,_,hx.2,p2⟩
    ·rintro⟨r1,r2⟩ s' ⟨hr,rfl,_⟩
     simp only at hr;subst hr;exact Aj q
end
def TK:Type:={ d:Ad // cX 6 d=ah}
instance:DecidableEq TK:=λ_ _=>Classical.propDecidable _
def jy(prog:Bh)(w:Bt):HeapKind prog w TK where
 is:=λh k a=>∃as,Reads h (.ref a) k.1 as
 hash:=λk=>jM w k.1
 draws:=λk=>jD k.1
 room:=λA=>A.units+16 < Du
 inj:=λ{h a x y} hx hy=>by
  obtain⟨as,r1⟩:=hx;obtain⟨bs,r2⟩:=hy;exact Subtype.ext (R9 6 x.2 y.2 r1 r2)
 keeps:=λ{h h' k a d o es ep} x ho hd hs=>by
  obtain⟨as,r⟩:=x;exact⟨as,N4 6 k.2 r ho hd hs⟩
 pyHash:=λ{A E s k a Q} hu hk h=>by
  obtain⟨as,r⟩:=hk;exact LB 6 ⋯ k.2 r h
 eqBool:=λ{A E s x y a b Q} hu hx hy h=>by
  obtain⟨as,r1⟩:=hx;obtain⟨bs,r2⟩:=hy;have l1:=GY 6 x.2;have l2:=GY 6 y.2;refine SeqAt.eqAt_reads x.1 y.1 A s _ _ _ _ r1 r2 l1.1 l2.1 ⋯ prog w E Q ?_;have e:Cn x.1 y.1=decide (x=y):=by
   rw[Dx,L3 6 x.2 y.2,decide_eq_true_iff];exact⟨Subtype.ext,λh=>by rw[h]⟩
  rw[e];exact h
 quiet:=λ{A E s k a Q} hk h=>by
  obtain⟨as,r⟩:=hk;exact Jl 6 8 ∎ k.2 r h
inductive V where
 |non|bl (b:Bool)|int (i:Int)|str (x:Str)|byt (b:Array UInt8)|flt (b:UInt64)|ref (a:Addr)|ty (n:String)
 deriving DecidableEq
def RelV:V->Ag->Prop
 |.non,u=>u=Bi
 |.bl b,u=>u=Value.bool b
 |.int i,u=>∃t,u=Value.int i t
 |.str x,u=>∃t,u=Value.str x t
 |.byt b,u=>∃t,u=Value.bytes b t
 |.flt b,u=>∃t,u=Value.float b t
 |.ref a,u=>u=A4 a
 |.ty n,u=>u=Dv n
abbrev Vals:List V->List Ag->Prop:=Paired RelV
theorem Vals.length(r:Vals xs us):xs.length=us.length:=D2 r
theorem Vals.get:∀{xs:List V}{us:List Ag}{i:Nat}{x:V},Vals xs us->xs[i]?=ae x->∃u,us[i]?=ae u/\RelV x u
 |_,_,_,_,.nil,e=>by simp at e
 |_,_,0,_,.cons r _,e=>by simp at e;subst e;exact⟨_,rfl,r⟩
 |_,_,i+1,x,.cons _ t,e=>by
  obtain⟨u,h1,h2⟩:=Vals.get (i:=i) (x:=x) t (by simpa using e);exact⟨u,by simpa using h1,h2⟩
theorem Vals.set(r:RelV x u):∀{xs:List V}{us:List Ag}(i:Nat),Vals xs us->Vals (xs.set i x) (us.set i u)
 |_,_,_,.nil=>.nil
 |_,_,0,.cons _ t=>.cons r t
 |_,_,i+1,.cons q t=>.cons q (Vals.set r i t)
theorem Vals.append:∀{xs ys:List V}{us ws:List Ag},Vals xs us->Vals ys ws->Vals (xs++ys) (us++ws)
 |_,_,_,_,.nil,s=>s
 |_,_,_,_,.cons r t,s=>.cons r (Vals.append t s)
theorem Vals.take:∀{xs:List V}{us:List Ag}(n:Nat),Vals xs us->Vals (xs.take n) (us.take n)
 |_,_,0,_=>.nil
 |_,_,_+1,.nil=>.nil
 |_,_,n+1,.cons r t=>.cons r (Vals.take n t)
theorem Vals.drop:∀{xs:List V}{us:List Ag}(n:Nat),Vals xs us->Vals (xs.drop n) (us.drop n)
 |_,_,0,r=>r
 |_,_,_+1,.nil=>.nil
 |_,_,n+1,.cons _ t=>Vals.drop n t
def RelO:Option V->Option Ag->Prop
 |some v,ae u=>RelV v u
 |none,af=>True
 |_,_=>False
def KV{κ:Type}:List (κ×V)->List (κ×Ag)->Prop:=Paired λ(p:κ×V)(q:κ×Ag)=>p.1=q.1/\RelV p.2 q.2
def kV:aH->V
 |.inl i=>.int i
 |.inr x=>.str x
inductive HO where
 |lst (xs:List V)
 |tup (xs:List V)
 |dK (kvs:List (aH×V))|dT (kvs:List (List aH×V))
 |dX (ps:List (TK×Addr×V))
 |set (S:Int->Bool) (n:Nat)
 |ins (C dx:Addr) (fs:List (Str×V))
 |own (x:Addr)
 |xd (fs:List (Str×V))
 |met (f x:Addr)
 |rng (lo hi:Int)
 |frz (o:Obj) (u:HO)
 |tbl (ps:Array Ag)
 |ext (φ:Heap->Prop)
abbrev Hp:=Addr->Option HO
def upd(H:Hp)(a:Addr)(o:HO):Hp:=λb=>if b=a then ae o else H b
theorem bH:upd H a o a=ae o:=by unfold upd;sleep 10
theorem aN(h:b≠a):upd H a o b=H b:=by unfold upd;rw[if_neg h]
theorem uo:upd ⇑76 a u=upd H a u:=by
 funext b;unfold upd;split<;>rfl
theorem CL{H:Hp}(h:H a=ae o)(h':H b=ae u)(d:o≠u):a≠b:=by
 intro e;subst e;rw[h]at h';exact d (Bb h')
theorem bY{H:Hp}(h:H a=ae o)(h':H b=af):a≠b:=by
 intro e;subst e;rw[h]at h';cases h'
def IsTupP(h:Heap)(a:Addr)(items:Array Ag):Prop:=∃o,h.get? a=ae o/\o.cls=.type "tuple"/\(∃n,o.data=.seq items n)/\o.dict=af
theorem IsTupP.tup(x:IsTupP h a items):IsTup h a items:=let⟨o,e,c,d,_⟩:=x;⟨o,e,c,d⟩
theorem IsTupP.lt(x:IsTupP h a items):a < h.objs.size:=let⟨_,e,_⟩:=x;As e
theorem IsTupP.new(h:Heap)(items):IsTupP (h.push {cls:=.type "tuple",data:=.seq items}) h.objs.size items:=⟨_,Aw _ rfl,rfl,⟨_,rfl⟩,rfl⟩
section
variable(P:Bh)(w:Bt)
def ObjOk(H:Hp)(h:Heap)(a:Addr):HO->Prop
 |.lst xs=>xs.length<=Az/\∃(its:List Ag)(n:Nat),Vals xs its/\h.get? a=ae {cls:=.type "list",data:=.seq its.toArray n}
 |.tup xs=>xs.length<=Az/\∃its:List Ag,Vals xs its/\IsTupP h a its.toArray
 |.dK kvs=>kvs.length<=Az/\(a==De)=ai/\∃vs,KV kvs vs/\h.DictOf (fj P w) a vs
 |.dT kvs=>kvs.length<=Az/\(a==De)=ai/\∃xs:List (List aH×Addr×Ag),
   Paired (λ(p:List aH×V)(q:List aH×Addr×Ag)=>p.1=q.1/\H q.2.1=ae (.tup (p.1.map kV))/\RelV p.2 q.2.2) kvs xs /\
   ∃o es ep,h.get? a=ae o/\o.ExactDict/\o.data=.dict es ep/\es.toList=xs.map (entryOfKey (tupleKind (fj P w)))/\(xs.map (·.1)).Nodup
 |.dX ps=>ps.length<=Az/\(a==De)=ai/\∃xs:List (TK×Addr×Ag),Paired (λ(p:TK×Addr×V)(q:TK×Addr×Ag)=>p.1=q.1/\p.2.1=q.2.1/\RelV p.2.2 q.2.2) ps xs /\
   ∃o es ep,h.get? a=ae o/\o.ExactDict/\o.data=.dict es ep/\es.toList=xs.map (entryOfKey (jy P w))/\(xs.map (·.1)).Nodup
 |.set S n=>h.SetOf (intKind P w) a S n
 |.ins C dx fs=>H dx=ae (.own a)/\fs.length<=1000/\dx≠a/\h.get? a=ae (PySem.W.instObj C dx) /\
   ∃mA,h.Ns1 dx mA/\(∀f,RelO (fs.lookup f) (mA f))/\PySem.Within mA (fs.map (·.1))
 |.own _=>∃o,h.get? a=ae o
 |.xd fs=>∃mA,h.Ns1 a mA/\∀f,RelO (fs.lookup f) (mA f)
 |.rng lo hi=>∃t u v,h.get? a=ae {cls:=.type "range",data:=.fields #[.int lo t,.int hi u,.int 1 v]}
 |.frz o u=>h.get? a=ae o/\ObjOk H h a u
 |.tbl ps=>h.get? a=ae {cls:=.none,data:=.fields ps}
 |.met f x=>h.get? a=ae (PySem.W.methodObj (.ref f) (.ref x))
 |.ext φ=>φ h/\(∃o,h.get? a=ae o)/\∀h1 h2:Heap,φ h1->(∀o,h1.get? a=ae o->h2.get? a=ae o)->φ h2
def HOk(H:Hp)(h:Heap):Prop:=∀a o,H a=ae o->ObjOk P w H h a o
end
section
variable{P:Bh}{w:Bt}{H H':Hp}{h h':Heap}{a:Addr}{o:HO}
theorem ObjOk.lt(x:ObjOk P w H h a o):a < h.objs.size:=by
 cases o with
 |lst xs=>obtain⟨_,_,_,_,e⟩:=x;exact As e
 |tup xs=>obtain⟨_,_,_,p⟩:=x;exact p.lt
 |dK kvs=>obtain⟨_,_,_,_,o,_,_,e,_⟩:=x;exact As e
 |dT kvs=>obtain⟨_,_,_,_,o,_,_,e,_⟩:=x;exact As e
 |dX ps=>obtain⟨_,_,_,_,o,_,_,e,_⟩:=x;exact As e
 |set S n=>obtain⟨o,_,_,_,e,_⟩:=x;exact As e
 |ins C dx fs=>obtain⟨_,_,_,e,_⟩:=x;exact As e
 |own y=>obtain⟨_,e⟩:=x;exact As e
 |xd fs=>obtain⟨_,⟨_,_,_,e,_⟩,_⟩:=x;exact As e
 |rng lo hi=>obtain⟨_,_,_,e⟩:=x;exact As e
 |frz ob u=>obtain⟨e,_⟩:=x;exact As e
 |tbl ps=>exact As (show h.get? a=ae _ from x)
 |met f y=>exact As (show h.get? a=ae _ from x)
 |ext φ=>obtain⟨_,⟨_,e⟩,_⟩:=x;exact As e
theorem Paired.mapP:∀{l₁:List α}{l₂:List β},Paired F l₁ l₂->(∀a b,F a b->G a b)->Paired G l₁ l₂
 |_,_,.nil,_=>.nil
 |_,_,.cons r t,f=>.cons (f _ _ r) (Paired.mapP t f)
theorem ObjOk.stay(x:ObjOk P w H h a o)(k:∀b u,(b=a\/H b=ae (.own a))->h.get? b=ae u->h'.get? b=ae u)
  (ho:∀b,H b=ae (.own a)->H' b=ae (.own a)) (ht:∀b xs,H b=ae (.tup xs)->H' b=ae (.tup xs)):ObjOk P w H' h' a o:=by
 induction o with
 |lst xs=>obtain⟨z,its,n,r,e⟩:=x;exact⟨z,its,n,r,k _ _ ⇑27 e⟩
 |tup xs=>obtain⟨z,its,r,ob,e,c⟩:=x;exact⟨z,its,r,ob,k _ _ ⇑27 e,c⟩
 |dK kvs=>obtain⟨z,y,vs,r,ob,es,ep,e,c⟩:=x;exact⟨z,y,vs,r,ob,es,ep,k _ _ ⇑27 e,c⟩
 |dT kvs=>
  obtain⟨z,y,xs,r,ob,es,ep,e,c⟩:=x;exact⟨z,y,xs,Paired.mapP r λp q z=>⟨z.1,ht _ _ z.2.1,z.2.2⟩,ob,es,ep,k _ _ ⇑27 e,c⟩
 |dX ps=>
  obtain⟨z,y,xs,r,ob,es,ep,e,c⟩:=x;exact⟨z,y,xs,r,ob,es,ep,k _ _ ⇑27 e,c⟩
 |set S n=>obtain⟨ob,es,ep,t,e,c⟩:=x;exact⟨ob,es,ep,t,k _ _ ⇑27 e,c⟩
 |ins C dx fs=>
  obtain⟨d,z,ne,e,mA,⟨od,es,ep,e2,c⟩,r⟩:=x;exact⟨ho _ d,z,ne,k _ _ ⇑27 e,mA,⟨od,es,ep,k _ _ (.inr d) e2,c⟩,r⟩
 |own y=>obtain⟨ob,e⟩:=x;exact⟨ob,k _ _ ⇑27 e⟩
 |xd fs=>obtain⟨mA,⟨od,es,ep,e,c⟩,r⟩:=x;exact⟨mA,⟨od,es,ep,k _ _ ⇑27 e,c⟩,r⟩
 |rng lo hi=>obtain⟨t,u,v,e⟩:=x;exact⟨t,u,v,k _ _ ⇑27 e⟩
 |frz ob u ih=>obtain⟨e,q⟩:=x;exact⟨k _ _ ⇑27 e,ih q⟩
 |tbl ps=>
  have e:h.get? a=ae {cls:=.none,data:=.fields ps}:=x;show h'.get? a=ae {cls:=.none,data:=.fields ps};exact k a _ ⇑27 e
 |met f y=>
  have e:h.get? a=ae (PySem.W.methodObj (.ref f) (.ref y)):=x;show h'.get? a=ae (PySem.W.methodObj (.ref f) (.ref y));exact k a _ ⇑27 e
 |ext φ=>obtain⟨p,⟨o,e⟩,st⟩:=x;exact⟨st _ _ p λo q=>k _ _ ⇑27 q,⟨o,k _ _ ⇑27 e⟩,st⟩
theorem HOk.lt(x:HOk P w H h)(e:H a=ae o):a < h.objs.size:=(x a o e).lt
theorem HOk.fresh(x:HOk P w H h)(e:h.objs.size<=a):H a=af:=by
 cases q:H a with
 |none=>rfl
 |some u=>exact absurd (Bq (x.lt q) e) (D7 _)
theorem HOk.kept(x:HOk P w H h)(k:∀b u,h.get? b=ae u->h'.get? b=ae u):HOk P w H h':=λa o e=>
 (x a o e).stay (λb u _ q=>k b u q) (λ_ q=>q) λ_ _ q=>q
theorem HOk.laid(x:HOk P w H h)(k:∀b u,h.get? b=ae u->h'.get? b=ae u)(hp:h.objs.size<=a)(new:ObjOk P w ⇑76 h' a o):HOk P w ⇑76 h':=λb u e=>by
 have hn:=x.fresh hp;by_cases hb:b=a
 ·subst hb;rw[bH]at e;cases e;exact new
 ·rw[aN hb]at e;exact(x b u e).stay (λc v _ q=>k c v q) (λc q=>by rw[aN (bY q hn)];exact q) λc xs q=>by rw[aN (bY q hn)];exact q
end
def Rd(H:Hp)(a:Addr)(u:HO):Prop:=H a=ae u\/∃o,H a=ae (.frz o u)
theorem Rd.ok(r:Rd H a u)(x:HOk P w H h):ObjOk P w H h a u:=by
 rcases r with r|⟨o,r⟩
 ·exact x a u r
 ·obtain⟨_,q⟩:=x a _ r;exact q
def pV:Option HO->Prop
 |some (.lst _)=>True
 |some (.dK _)=>True
 |some (.dT _)=>True
 |some (.dX _)=>True
 |some (.set _ _)=>True
 |some (.ins _ _ _)=>True
 |some (.ext _)=>True
 |_=>False
section
variable{P:Bh}{w:Bt}{H:Hp}{h h':Heap}{x e:Addr}{o':HO}
theorem HOk.write(ok:HOk P w H h)(mu:pV (H x))(he:e=x\/H e=ae (.own x))(k:∀b u,b≠e->h.get? b=ae u->h'.get? b=ae u)(heo:∃u,h'.get? e=ae u)
  (new:ObjOk P w (upd H x o') h' x o'):HOk P w (upd H x o') h':=λb u q=>by
 have nown:∀c y,H c=ae (.own y)->c≠x:=λc y r z=>by subst z;rw[r]at mu;exact mu
 have ntup:∀c xs,H c=ae (.tup xs)->c≠x:=λc xs r z=>by subst z;rw[r]at mu;exact mu
 by_cases hb:b=x
 ·subst hb;rw[bH]at q;cases q;exact new
 ·rw[aN hb]at q;by_cases hbe:b=e
  ·have q':H b=ae (.own x):=by
    rcases he with z|z
    ·exact absurd (hbe.trans z) hb
    ·rw[hbe];exact z
   rw[q]at q';cases q';obtain⟨v,hv⟩:=heo;exact⟨v,by rw[hbe];exact hv⟩
  ·refine(ok b u q).stay (λc v hc r=>k c v ?_ r) (λc r=>by rw[aN (nown c b r)];exact r) λc xs r=>by rw[aN (ntup c xs r)];exact r
   rcases hc with rfl|hc
   ·exact hbe
   ·rintro rfl
    rcases he with z|z
    ·exact nown c b hc z
    ·rw[hc]at z;cases z;exact hb rfl
end
structure Un(fs ex:List Addr)(H H':Hp)(h h':Heap):Prop where
 keep:∀b o,h.get? b=ae o->H b=af->b∉fs->b∉ex->h'.get? b=ae o
 slot:∀b o,h.get? b=ae o->H b=af->b∈fs->b∉ex->∃sl,h'.get? b=ae {o with slots:=sl}
 free:∀b o,h.get? b=ae o->H b=af->b∉ex->H' b=af
 there:∀b o,h.get? b=ae o->b∉ex->∃o',h'.get? b=ae o'
 tups:∀b xs,H b=ae (.tup xs)->H' b=ae (.tup xs)
 frzs:∀b o u,H b=ae (.frz o u)->H' b=ae (.frz o u)
 tbls:∀b ps,H b=ae (.tbl ps)->∃more,H' b=ae (.tbl (ps++more))
section
variable{fs fs' ex ex':List Addr}{H H1 H2:Hp}{h h1 h2 h':Heap}{a x e:Addr}{o:HO}
theorem Un.any(u:Un fs ex H H1 h h1)(q:h.get? b=ae ob)(n:H b=af)(hx:b∉ex):∃sl,h1.get? b=ae {ob with slots:=sl}:=by
 by_cases hb:b∈fs
 ·exact u.slot b ob q n hb hx
 ·exact⟨ob.slots,u.keep b ob q n hb hx⟩
theorem Un.kept(k:∀b u,h.get? b=ae u->h'.get? b=ae u):Un fs ex H H h h':=
 ⟨λb ob q _ _ _=>k b ob q,λb ob q _ _ _=>⟨ob.slots,k b ob q⟩,λ_ _ _ n _=>n,λb ob q _=>⟨ob,k b ob q⟩,λ_ _ q=>q,λ_ _ _ q=>q,λ_ ps q=>⟨#[],by rw[q];simp⟩⟩
theorem Un.refl:Un fs ex H H h h:=Un.kept λ_ _ q=>q
theorem Un.laid(k:∀b u,h.get? b=ae u->h'.get? b=ae u)(hp:h.objs.size<=a)(hn:H a=af):Un fs ex H ⇑76 h h' where
 keep:=λb u q _ _ _=>k b u q
 slot:=λb u q _ _ _=>⟨u.slots,k b u q⟩
 free:=λb u q n _=>by rw[aN (Bd (Bq (As q) hp))];exact n
 there:=λb u q _=>⟨u,k b u q⟩
 tups:=λb xs q=>by rw[aN (bY q hn)];exact q
 frzs:=λb u xs q=>by rw[aN (bY q hn)];exact q
 tbls:=λb ps q=>⟨#[],by rw[aN (bY q hn),q];simp⟩
theorem Un.write(mu:pV (H x))(he:e=x\/H e=ae (.own x))(k:∀b u,b≠e->h.get? b=ae u->h'.get? b=ae u)(heo:∃u,h'.get? e=ae u):Un fs ex H (upd H x o) h h':=by
 have hx:∀b,H b=af->b≠x:=λb n z=>by subst z;rw[n]at mu;exact mu
 have hb:∀b,H b=af->b≠e:=λb n z=>by
  subst z;rcases he with r|r
  ·exact hx b n r
  ·rw[n]at r;cases r
 have hm:∀b u,H b=ae u->¬pV (ae u)->b≠x:=λb u q nm z=>by subst z;rw[q]at mu;exact nm mu
 refine⟨λb u q n _ _=>k b u (hb b n) q,λb u q n _ _=>⟨u.slots,k b u (hb b n) q⟩,λb u q n _=>by rw[aN (hx b n)];exact n,λb u q _=>?_,
  λb xs q=>by rw[aN (hm b _ q λz=>z)];exact q,λb u xs q=>by rw[aN (hm b _ q λz=>z)];exact q,λb ps q=>⟨#[],by rw[aN (hm b _ q λz=>z),q];simp⟩⟩
 by_cases hbe:b=e
 ·subst hbe;exact heo
 ·exact⟨u,k b u hbe q⟩
end
def sy(h:Heap)(H:Hp):List Addr:=(A5 h.objs.size).filter λa=>(H a).isSome
def fK(h:Heap)(H:Hp):Heap:=PySem.W.hideAll h (sy h H)
theorem TB(h:Heap)(H):(fK h H).objs.size=h.objs.size:=PySem.W.hideAll_size _ _
theorem Nx(e:h.get? b=ae o)(n:H b=af):(fK h H).get? b=ae o:=
 PySem.W.hideAll_get _ e λhm=>by
  have q:(H b).isSome=ah:=(Da.mp hm).2;rw[n]at q;simp at q
theorem Sn(e:(fK h H).get? b=ae o):h.get? b=ae o/\H b=af:=by
 have e':h.get? b=ae o:=PySem.W.of_hideAll (sy h H) e;refine⟨e',?_⟩;cases q:H b with
 |none=>rfl
 |some x=>
  have hm:b∈sy h H:=Da.mpr ⟨Cb.mpr (As e'),by simp[q]⟩;have z:(fK h H).get? b=af:=PySem.W.hideAll_none (sy h H) hm;rw[z]at e;cases e
def OF(g h:Heap)(L:Addr):List ⇑16:=(A5 h.objs.size).filterMap λa=>if a=L\/(g.get? a).isSome=ah then af else(h.get? a).map λo=>(a,o)
def aE(g h:Heap)(L d:Addr):List ⇑16:=(OF g h L).filter λp=>decide (p.1≠d)
structure Mod(K:Ah)(mg:Str->Option Ag)(base:Heap):Prop where
 kin:K.In base
 glob:base.Ns D1 mg
 blt:∃mb,base.Ns builtinsNs mb/\∀x:Str,x≠"__name__"->mb x=Bv x
 nolimit:base.NoLimit
structure Cx where
 prog:Bh
 w:Bt
 K:Ah
 mg:Str->Option Ag
 base:Heap
 A:B1
 N:List Str
 s₀:Ak
 H₀:Hp
 env:Env
 outer:List Env
 stack:List Env
 ex:List Addr
 fn:Str->Bool
 calm:Bool
 pn:List ⇑16
 xe:Ag->Ak->Prop
def iw(l:List Env):List Addr:=l.filterMap (·.frame)
abbrev Cx.fs(X:Cx):List Addr:=iw X.outer
def fC(sc:Fp)(x:Str):Prop:=sc.names.lookup x=ae .local\/sc.names.lookup x=ae .cell\/sc.names.lookup x=ae .free
def gc(sc:Fp)(x:Str):Prop:=sc.names.lookup x=ae .local\/sc.names.lookup x=ae .cell
def xK(env:Env)(h:Heap)(m:Str->Option Ag)(x:Str)(u:Ag):Prop:=
 (env.kindOf x=ae .local/\m x=ae u)\/((env.kindOf x=ae .cell\/env.kindOf x=ae .free)/\∃c,env.cells.lookup x=ae c/\h.IsCell c (ae u))
structure Cx.Ok(X:Cx):Prop where
 mod:Mod X.K X.mg X.base
 kind:X.env.scope.kind=.function
 glob:X.env.globals=D1
 blt:X.env.builtins=builtinsNs
 above:X.s₀.heap.objs.size<=X.env.locals
 inj:∀x y c,X.env.cells.lookup x=ae c->X.env.cells.lookup y=ae c->x=y
 has:∀x,(X.env.kindOf x=ae .cell\/X.env.kindOf x=ae .free)->∃c,X.env.cells.lookup x=ae c
 cab:∀x c,X.fn x=ah->X.env.cells.lookup x=ae c->X.s₀.heap.objs.size<=c
 hd:X.calm=ah->X.A.handled=af
 frames:X.A.frames=ae X.stack
 stk:X.stack=X.outer\/(X.stack=X.env::X.outer/\X.env.frame=ae X.env.locals)
 exf:∀b∈X.ex,b≠X.env.locals/\∀x c,X.env.cells.lookup x=ae c->c≠b
 bs:∀b o,X.base.get? b=ae o->X.s₀.heap.get? b=ae o/\X.H₀ b=af
 bsz:X.base.objs.size<=X.s₀.heap.objs.size
 noex:∀b o,X.base.get? b=ae o->b∉X.ex
 exfs:∀b∈X.ex,b∉X.fs
 funs:X.s₀.heap.FunFrames X.base X.outer
 frf:∀b∈X.fs,X.H₀ b=af
structure Inv(X:Cx)(pins:List ⇑16)(σ:List (Option V))(H:Hp)(s:Ak):Prop where
 ok:X.Ok
 os:s.os=X.s₀.os
 bare:AllBare s.gens
 base:Un X.fs X.ex X.H₀ H X.s₀.heap s.heap
 loc:∃m,s.heap.Ns X.env.locals m/\∀(i:Nat)(x:Str)(v:V),X.N[i]?=ae x->σ[i]?=ae (ae v)->fC X.env.scope x->∃u,RelV v u/\xK X.env s.heap m x u
 cell:∀x c,X.env.cells.lookup x=ae c->∃v,s.heap.IsCell c v
 free:H X.env.locals=af
 freeC:∀x c,X.env.cells.lookup x=ae c->H c=af
 pin:∀p∈X.pn++pins,s.heap.get? p.1=ae p.2/\H p.1=af/\p.1≠X.env.locals/\p.1∉X.fs/\∀v,p.2.data≠.cell v
 hok:HOk X.prog X.w H s.heap
 len:σ.length=X.N.length
section
variable{X:Cx}{pins:List ⇑16}{σ:List (Option V)}{H H':Hp}{s:Ak}{h':Heap}
theorem Cx.Ok.nofr(ok:X.Ok)(e:X.base.get? b=ae o):b∉X.fs:=λhb=>by
 have:=(ok.funs.mem hb).1;rw[e]at this;cases this
theorem Inv.bs(I:Inv X pins σ H s):∀b o,X.base.get? b=ae o->s.heap.get? b=ae o/\H b=af:=λb o e=>
 ⟨I.base.keep b o (I.ok.bs b o e).1 (I.ok.bs b o e).2 (I.ok.nofr e) (I.ok.noex b o e),I.base.free b o (I.ok.bs b o e).1 (I.ok.bs b o e).2 (I.ok.noex b o e)⟩
theorem Inv.bk(I:Inv X pins σ H s):∀b o,X.base.get? b=ae o->s.heap.get? b=ae o:=λb o e=>(I.bs b o e).1
theorem Inv.mod(I:Inv X pins σ H s):Mod X.K X.mg X.base:=I.ok.mod
theorem Inv.kIn(I:Inv X pins σ H s):X.K.In s.heap:=I.ok.mod.kin.keeps I.bk
theorem Inv.lt(I:Inv X pins σ H s):X.env.locals < s.heap.objs.size:=let⟨_,hn,_⟩:=I.loc;hn.lt
theorem Inv.sz(I:Inv X pins σ H s):X.s₀.heap.objs.size<=s.heap.objs.size:=Bj I.ok.above (Gt I.lt)
theorem Inv.nofs(I:Inv X pins σ H s){a:Addr}(h:s.heap.objs.size<=a):a∉X.fs:=λhb=>by
 obtain⟨_,o,ho,_⟩:=I.ok.funs.mem hb;exact absurd (Bq (As ho) (Bj I.sz h)) (D7 _)
theorem Inv.cne(I:Inv X pins σ H s):∀x c,X.env.cells.lookup x=ae c->c≠X.env.locals:=λx c e z=>by
 obtain⟨v,o,ho,hd⟩:=I.cell x c e;obtain⟨m,⟨o',es,ep,ho',hd',_⟩,_⟩:=I.loc;rw[z,ho']at ho;cases ho;rw[hd']at hd;cases hd
theorem Inv.funs(I:Inv X pins σ H s):s.heap.FunFrames X.base X.outer:=by
 have all:∀(l:List Env),(∀b∈iw l,b∈X.fs)->X.s₀.heap.FunFrames X.base l->s.heap.FunFrames X.base l:=by
  intro l
  induction l with
  |nil=>intro _ _;trivial
  |cons env r ih=>
   intro hs hl;obtain⟨hk,⟨L,o,hf,hn,ho,hd⟩,hr⟩:=hl;have hL:L∈X.fs:=hs L (by unfold iw;rw[List.filterMap_cons,hf];exact Au);obtain⟨sl,e⟩:=I.base.slot L o ho (I.ok.frf L hL) hL λz=>I.ok.exfs L z hL;exact⟨hk,⟨L,_,hf,hn,e,hd⟩,ih (λb hb=>hs b (by unfold iw;rw[List.filterMap_cons,hf];exact Ap _ hb)) hr⟩
 exact all X.outer (λ_ hb=>hb) I.ok.funs
theorem Inv.stack(I:Inv X pins σ H s):s.heap.FunFrames X.base X.stack:=by
 rcases I.ok.stk with e|⟨e,hf⟩
 ·rw[e];exact I.funs
 ·rw[e];obtain⟨m,hn,_⟩:=I.loc;refine .cons (by rw[I.ok.kind];decide) hf hn ?_ I.funs;exact Heap.get?_none_of_le (Bj I.ok.bsz I.ok.above)
theorem Inv.stkSub(I:Inv X pins σ H s):∀b∈iw X.stack,b∈X.env.locals::X.fs:=λb hb=>by
 rcases I.ok.stk with e|⟨e,hf⟩
 ·rw[e]at hb;exact Ap _ hb
 ·rw[e]at hb;unfold iw at hb;rw[List.filterMap_cons,hf]at hb;exact hb
theorem Inv.stkFree(I:Inv X pins σ H s):∀b∈iw X.stack,H b=af:=λb hb=>by
 rcases Ax.mp (I.stkSub b hb)with e|hb
 ·rw[e];exact I.free
 ·obtain⟨_,o,ho,_⟩:=I.ok.funs.mem hb;exact I.base.free b o ho (I.ok.frf b hb) λz=>I.ok.exfs b z hb
theorem Inv.step{d':Drawn}{ch:List Addr}(I:Inv X pins σ H s)
  (hch:∀b∈ch,(b∈X.ex\/X.s₀.heap.objs.size<=b)/\b≠X.env.locals/\(∀x c,X.env.cells.lookup x=ae c->c≠b)/\∀p∈X.pn++pins,p.1≠b)
  (keep:∀b o,b≠X.env.locals->b∉X.fs->b∉ch->s.heap.get? b=ae o->H b=af->h'.get? b=ae o)
  (slot:∀b o,b≠X.env.locals->b∈X.fs->b∉ch->s.heap.get? b=ae o->H b=af->∃sl,h'.get? b=ae {o with slots:=sl}) (free:∀b o,b∉ch->s.heap.get? b=ae o->H b=af->H' b=af)
  (there:∀b o,b∉ch->s.heap.get? b=ae o->∃o',h'.get? b=ae o')
  (tups:∀b xs,H b=ae (.tup xs)->H' b=ae (.tup xs)) (frzs:∀b o u,H b=ae (.frz o u)->H' b=ae (.frz o u)) (tbls:∀b ps,H b=ae (.tbl ps)->∃more,H' b=ae (.tbl (ps++more)))
  (ns:∀m,s.heap.Ns X.env.locals m->h'.Ns X.env.locals m) (hok:HOk X.prog X.w H' h') (hg:AllBare g'):
  Inv X pins σ H' {s with heap:=h',gens:=g',drawn:=d',toks:=t'}:=by
 have neL:∀b o,X.s₀.heap.get? b=ae o->b≠X.env.locals:=λb o e=>Bd (Bq (As e) I.ok.above);have neC:∀b o,X.s₀.heap.get? b=ae o->b∉X.ex->b∉ch:=λb o e hx hb=>by
  rcases(hch b hb).1 with z|z
  ·exact hx z
  ·exact absurd (Bq (As e) z) (D7 _)
 have cellK:∀x c,X.env.cells.lookup x=ae c->∀v,s.heap.IsCell c v->h'.IsCell c v:=λx c e v ⟨o,ho,hd⟩=>by
  have nch:c∉ch:=λz=>(hch c z).2.2.1 x c e rfl;by_cases hc:c∈X.fs
  ·obtain⟨sl,q⟩:=slot c o (I.cne x c e) hc nch ho (I.freeC x c e);exact⟨_,q,hd⟩
  ·exact⟨o,keep c o (I.cne x c e) hc nch ho (I.freeC x c e),hd⟩
 refine⟨I.ok,I.os,hg,⟨λb o e n hb hx=>?_,λb o e n hb hx=>?_,λb o e n hx=>?_,λb o e hx=>?_,λb xs e=>tups b xs (I.base.tups b xs e),λb o xs e=>frzs b o xs (I.base.frzs b o xs e),λb ps e=>?_⟩,?_,λx c e=>?_,?_,λx c e=>?_,λp hp=>?_,hok,I.len⟩
 ·exact keep b o (neL b o e) hb (neC b o e hx) (I.base.keep b o e n hb hx) (I.base.free b o e n hx)
 ·obtain⟨sl,e1⟩:=I.base.slot b o e n hb hx;obtain⟨sl',e2⟩:=slot b _ (neL b o e) hb (neC b o e hx) e1 (I.base.free b o e n hx);exact⟨sl',e2⟩
 ·obtain⟨o',e1⟩:=I.base.there b o e hx;exact free b o' (neC b o e hx) e1 (I.base.free b o e n hx)
 ·obtain⟨o',e1⟩:=I.base.there b o e hx;exact there b o' (neC b o e hx) e1
 ·obtain⟨m1,e1⟩:=I.base.tbls b ps e;obtain⟨m2,e2⟩:=tbls b _ e1;exact⟨m1++m2,by rw[e2,Array.append_assoc]⟩
 ·obtain⟨m,hn,hl⟩:=I.loc;refine⟨m,ns m hn,λi x v e1 e2 e3=>?_⟩;obtain⟨u,r,l⟩:=hl i x v e1 e2 e3;refine⟨u,r,?_⟩;rcases l with l|⟨k,c,e,z⟩
  ·exact .inl l
  ·exact .inr ⟨k,c,e,cellK x c e _ z⟩
 ·obtain⟨v,z⟩:=I.cell x c e;exact⟨v,cellK x c e v z⟩
 ·obtain⟨m,⟨o,_,_,ho,_⟩,_⟩:=I.loc;exact free _ o (λz=>(hch _ z).2.1 rfl) ho I.free
 ·obtain⟨v,o,ho,hd⟩:=I.cell x c e;exact free c o (λz=>(hch c z).2.2.1 x c e rfl) ho (I.freeC x c e)
 ·obtain⟨e,n,ne,nf,d⟩:=I.pin p hp;have nch:p.1∉ch:=λz=>(hch p.1 z).2.2.2 p hp rfl;exact⟨keep p.1 p.2 ne nf nch e n,free p.1 p.2 nch e n,ne,nf,d⟩
theorem Inv.un(I:Inv X pins σ H s)(u:Un X.fs [] H H' s.heap h')(hok:HOk X.prog X.w H' h'):Inv X pins σ H' {s with heap:=h',toks:=t'}:=by
 obtain⟨m,⟨o,es,ep,ho,r⟩,_⟩:=id I.loc;obtain⟨sl,hL⟩:=u.any ho I.free (by simp);exact I.step (g':=s.gens) (d':=s.drawn) (ch:=[]) (λ_ z=>nomatch z) (λb o _ hb _ e n=>u.keep b o e n hb (by simp)) (λb o _ hb _ e n=>u.slot b o e n hb (by simp)) (λb o _ e n=>u.free b o e n (by simp)) (λb o _ e=>u.there b o e (by simp)) u.tups u.frzs u.tbls (λm' hm=>by
  obtain⟨o',es',ep',ho',r'⟩:=hm;rw[ho]at ho';cases ho';exact⟨_,es',ep',hL,r'⟩) hok I.bare
theorem Inv.call(I:Inv X pins σ H s)(u:Un (iw X.stack) ch H H' s.heap h')(hok:HOk X.prog X.w H' h')(hg:AllBare g')
  (hch:∀b∈ch,(b∈X.ex\/X.s₀.heap.objs.size<=b)/\b≠X.env.locals/\(∀x c,X.env.cells.lookup x=ae c->c≠b)/\∀p∈X.pn++pins,p.1≠b):
  Inv X pins σ H' {s with heap:=h',gens:=g',drawn:=d',toks:=t'}:=by
 obtain⟨m,⟨o,es,ep,ho,r⟩,_⟩:=id I.loc;obtain⟨sl,hL⟩:=u.any ho I.free λz=>(hch _ z).2.1 rfl;exact I.step (ch:=ch) hch (λb o hL hb hc e n=>u.keep b o e n (λz=>(Ax.mp (I.stkSub b z)).elim hL hb) hc) (λb o _ _ hc e n=>u.any e n hc) (λb o hc e n=>u.free b o e n hc) (λb o hc e=>u.there b o e hc) u.tups u.frzs u.tbls (λm' hm=>by
  obtain⟨o',es',ep',ho',r'⟩:=hm;rw[ho]at ho';cases ho';exact⟨_,es',ep',hL,r'⟩) hok hg
theorem Inv.turned(I:Inv X pins σ H s)(k:∀b o,b≠it->s.heap.get? b=ae o->h'.get? b=ae o)(hn:H it=af)(hL:it≠X.env.locals)
  (h1:it∈X.ex\/X.s₀.heap.objs.size<=it) (h2:∀x c,X.env.cells.lookup x=ae c->c≠it) (h3:∀p∈X.pn++pins,p.1≠it):Inv X pins σ H {s with heap:=h',toks:=t'}:=by
 have nit:∀b u,H b=ae u->b≠it:=λb u e z=>by rw[z,hn]at e;cases e
 refine I.step (g':=s.gens) (d':=s.drawn) (ch:=[it]) (λb hb=>?_) (λb o _ _ hc e _=>k b o (λz=>hc (by simp[z])) e) (λb o _ _ hc e _=>⟨o.slots,k b o (λz=>hc (by simp[z])) e⟩) (λ_ _ _ _ n=>n)
  (λb o hc e=>⟨o,k b o (λz=>hc (by simp[z])) e⟩) (λ_ _ e=>e) (λ_ _ _ e=>e) (λb ps e=>⟨#[],by rw[e];simp⟩) (λm hm=>?_) (λb u e=>?_) I.bare
 ·have e:b=it:=by simpa using hb
  subst e;exact⟨h1,hL,h2,h3⟩
 ·obtain⟨o,es,ep,ho,r⟩:=hm;exact⟨o,es,ep,k _ o (Ne.symm hL) ho,r⟩
 ·refine(I.hok b u e).stay (λc v hc q=>k c v ?_ q) (λ_ q=>q) λ_ _ q=>q;rcases hc with z|z
  ·rw[z];exact nit b u e
  ·exact nit c _ z
theorem Inv.tok(I:Inv X pins σ H s)(t):Inv X pins σ H {s with toks:=t}:=I.un (h':=s.heap) (t':=t) Un.refl I.hok
theorem Inv.kept(I:Inv X pins σ H s)(k:∀b u,s.heap.get? b=ae u->h'.get? b=ae u):Inv X pins σ H {s with heap:=h',toks:=t'}:=I.un (Un.kept k) (I.hok.kept k)
theorem Inv.laid{a:Addr}(I:Inv X pins σ H s)(k:∀b u,s.heap.get? b=ae u->h'.get? b=ae u)(hp:s.heap.objs.size<=a)(new:ObjOk X.prog X.w ⇑76 h' a o):
  Inv X pins σ ⇑76 {s with heap:=h',toks:=t'}:=I.un (Un.laid k hp (I.hok.fresh hp)) (I.hok.laid k hp new)
theorem Inv.write(I:Inv X pins σ H s)(mu:pV (H x))(he:e=x\/H e=ae (.own x))(k:∀b u,b≠e->s.heap.get? b=ae u->h'.get? b=ae u)(heo:∃u,h'.get? e=ae u)
  (new:ObjOk X.prog X.w (upd H x o) h' x o):Inv X pins σ (upd H x o) {s with heap:=h',toks:=t'}:=I.un (Un.write mu he k heo) (I.hok.write mu he k heo new)
theorem Inv.pins_of(I:Inv X pins σ H s)(h:∀p∈pins',s.heap.get? p.1=ae p.2/\H p.1=af/\p.1≠X.env.locals/\p.1∉X.fs/\∀v,p.2.data≠.cell v):Inv X pins' σ H s:=
 ⟨I.ok,I.os,I.bare,I.base,I.loc,I.cell,I.free,I.freeC,λp hp=>(A9.mp hp).elim (λz=>I.pin p (Dn _ z)) (h p),I.hok,I.len⟩
theorem yj{N:List Str}(hN:N.Nodup){i j:Nat}(a:N[i]?=ae x)(b:N[j]?=ae x):i=j:=by
 obtain⟨h1,e1⟩:=Ar.mp a;obtain⟨h2,e2⟩:=Ar.mp b;exact(F3 hN).mp (e1.trans e2.symm)
theorem GI(I:Inv X pins σ H s)(hN:X.N.Nodup)(hi:X.N[i]?=ae x)(hx:gc X.env.scope x)(r:RelV v u)
  (h:∀s',Inv X pins (σ.set i (ae v)) H s'->(∃a,C4 a s.heap s'.heap/\(a=X.env.locals\/X.env.cells.lookup x=ae a))->Q () s') (hf:X.fn x=ah\/X.env.scope.names.lookup x=ae .local:=by first|exact .inl rfl|exact .inr rfl|assumption):A1 M A (storeName X.env x u) Q E s:=by
 obtain⟨m,hn,hl⟩:=id I.loc;have hcls:(X.env.scope.kind==.class || (X.env.scope.kind==.module&&X.env.locals != X.env.globals))=ai:=by rw[I.ok.kind];rfl
 have hiσ:i < σ.length:=by rw[I.len];exact(Ar.mp hi).1
 have cne:=I.cne;have tracked:∀{a:Addr}{h':Heap},(∃o,s.heap.get? a=ae o/\H a=af)->C4 a s.heap h'->HOk X.prog X.w H h':=λ{a h'} ha hs b ob e=>by
  obtain⟨_,_,hfree⟩:=ha;refine(I.hok b ob e).stay (λc w' hc q=>(hs.2 c ?_).trans q) (λ_ q=>q) λ_ _ q=>q
  rintro rfl
  rcases hc with rfl|hc
  ·rw[hfree]at e;cases e
  ·rw[hfree]at hc;cases hc
 rcases hx with hk|hk
 ·refine wpAny_storeName_local hk hn (λh' hn' hs=>?_) hcls;obtain⟨oL,_,_,hoL,_⟩:=id hn;refine h _ ⟨I.ok,I.os,I.bare,⟨λb o e n hb hx=>?_,λb o e n hb hx=>?_,I.base.free,λb o e hx=>?_,I.base.tups,I.base.frzs,I.base.tbls⟩,⟨_,hn',λj y v' e1 e2 e3=>?_⟩,λy c e=>?_,I.free,I.freeC,λp hp=>?_,tracked ⟨oL,hoL,I.free⟩ hs,by simpa using I.len⟩ ⟨_,hs,.inl rfl⟩
  ·exact(hs.2 b (Bd (Bq (As e) I.ok.above))).trans (I.base.keep b o e n hb hx)
  ·obtain⟨sl,e1⟩:=I.base.slot b o e n hb hx;exact⟨sl,(hs.2 b (Bd (Bq (As e) I.ok.above))).trans e1⟩
  ·obtain⟨o',e1⟩:=I.base.there b o e hx;exact⟨o',(hs.2 b (Bd (Bq (As e) I.ok.above))).trans e1⟩
  ·by_cases hj:j=i
   ·subst hj;rw[hi]at e1;cases e1;rw[Ej hiσ]at e2;cases e2;exact⟨u,r,.inl ⟨hk,by simp⟩⟩
   ·rw[Bo (Ne.symm hj)]at e2;obtain⟨u',r',q⟩:=hl j y v' e1 e2 e3;refine⟨u',r',?_⟩;rcases q with⟨k,e⟩|⟨k,c,e,z⟩
    ·refine .inl ⟨k,?_⟩;have:y≠x:=λe=>hj (yj hN e1 (e▸hi));simp[this,e]
    ·exact .inr ⟨k,c,e,z.sameBut hs (cne y c e)⟩
  ·obtain⟨w',z⟩:=I.cell y c e;exact⟨w',z.sameBut hs (cne y c e)⟩
  ·obtain⟨e,n,ne,nf,d⟩:=I.pin p hp;exact⟨(hs.2 p.1 ne).trans e,n,ne,nf,d⟩
 ·have hfn:X.fn x=ah:=by
   rcases hf with z|z
   ·exact z
   ·rw[z]at hk;cases hk
  obtain⟨c,hc⟩:=I.ok.has x (.inl hk);obtain⟨w',z⟩:=I.cell x c hc;refine wpAny_storeName_cell I.ok.kind hk hc z (λh' hc' hs=>?_);obtain⟨oc,hoc,hocd⟩:=id z;refine h {s with heap:=h'} ⟨I.ok,I.os,I.bare,⟨λb o e n hb hx=>?_,λb o e n hb hx=>?_,I.base.free,λb o e hx=>?_,I.base.tups,I.base.frzs,I.base.tbls⟩,⟨m,hn.sameBut hs (Ne.symm (cne x c hc)),λj y v' e1 e2 e3=>?_⟩,λy c' e=>?_,I.free,I.freeC,λp hp=>?_,tracked ⟨oc,hoc,I.freeC x c hc⟩ hs,by simpa using I.len⟩ ⟨c,hs,.inr hc⟩
  ·exact(hs.2 b (Bd (Bq (As e) (I.ok.cab x c hfn hc)))).trans (I.base.keep b o e n hb hx)
  ·obtain⟨sl,e1⟩:=I.base.slot b o e n hb hx;exact⟨sl,(hs.2 b (Bd (Bq (As e) (I.ok.cab x c hfn hc)))).trans e1⟩
  ·obtain⟨o',e1⟩:=I.base.there b o e hx;exact⟨o',(hs.2 b (Bd (Bq (As e) (I.ok.cab x c hfn hc)))).trans e1⟩
  ·by_cases hj:j=i
   ·subst hj;rw[hi]at e1;cases e1;rw[Ej hiσ]at e2;cases e2;exact⟨u,r,.inr ⟨.inl hk,c,hc,hc'⟩⟩
   ·rw[Bo (Ne.symm hj)]at e2;obtain⟨u',r',q⟩:=hl j y v' e1 e2 e3;refine⟨u',r',?_⟩;rcases q with q|⟨k,c',e,z'⟩
    ·exact .inl q
    ·refine .inr ⟨k,c',e,z'.sameBut hs ?_⟩
     rintro rfl
     exact hj (yj hN e1 (I.ok.inj _ _ _ e hc▸hi))
  ·by_cases hcc:c'=c
   ·subst hcc;exact⟨_,hc'⟩
   ·obtain⟨w2,z2⟩:=I.cell y c' e;exact⟨w2,z2.sameBut hs hcc⟩
  ·obtain⟨e,n,ne,nf,d⟩:=I.pin p hp;refine⟨(hs.2 p.1 ?_).trans e,n,ne,nf,d⟩;intro q;rw[q,hoc]at e;have q':oc=p.2:=Bb e;exact d w' (by rw[<-q'];exact hocd)
theorem CF(I:Inv X pins σ H s)(hN:X.N.Nodup)(hi:X.N[i]?=ae x)(hx:gc X.env.scope x)(r:RelV v u)
  (h:∀s',Inv X pins (σ.set i (ae v)) H s'->Q () s') (hf:X.fn x=ah\/X.env.scope.names.lookup x=ae .local:=by first|exact .inl rfl|exact .inr rfl|assumption):A1 M A (storeName X.env x u) Q E s:=
 GI I hN hi hx r (λs' I' _=>h s' I') hf
theorem Inv.call'(I:Inv X pins σ H s)(ho:s'.os=s.os)(u:Un (iw X.stack) ch H H' s.heap s'.heap)(hok:HOk X.prog X.w H' s'.heap)(hg:AllBare s'.gens)
  (hch:∀b∈ch,(b∈X.ex\/X.s₀.heap.objs.size<=b)/\b≠X.env.locals/\(∀x c,X.env.cells.lookup x=ae c->c≠b)/\∀p∈X.pn++pins,p.1≠b):Inv X pins σ H' s':=by
 obtain⟨h',g',d',t',o'⟩:=s';have e:o'=s.os:=ho;subst e;exact I.call (g':=g') (t':=t') (d':=d') u hok hg hch
end
abbrev XK:=Ag->Option Addr->Hp->Prop
abbrev St:=List (Option V)
abbrev VK:=V->Hp->Prop
abbrev TE:=St->Hp->VK->Prop
abbrev TT:=St->Hp->(Bool->Hp->Prop)->Prop
abbrev TA:=St->Hp->(List V->Hp->Prop)->Prop
structure Ends where
 nx:St->Hp->Prop
 rt:VK
 bk:St->Hp->Prop:=λ_ _=>False
 ct:St->Hp->Prop:=λ_ _=>False
abbrev TS:=Ends->St->Hp->Prop
def EP(X:Cx)(pins:List ⇑16)(σ:St)(Q:VK)(u:Ag)(s':Ak):Prop:=∃v H',Inv X pins σ H' s'/\RelV v u/\Q v H'
def TP(X:Cx)(pins:List ⇑16)(σ:St)(Q:Bool->Hp->Prop)(b:Bool)(s':Ak):Prop:=∃H',Inv X pins σ H' s'/\Q b H'
def AP(X:Cx)(pins:List ⇑16)(σ:St)(Q:List V->Hp->Prop)(us:List Ag)(s':Ak):Prop:=∃vs H',Inv X pins σ H' s'/\Vals vs us/\Q vs H'
def SP(X:Cx)(pins:List ⇑16)(D:Ends)(f:Flow)(s':Ak):Prop:=
 match f with
 |.next=>∃σ' H',Inv X pins σ' H' s'/\D.nx σ' H'
 |.brk=>∃σ' H',Inv X pins σ' H' s'/\D.bk σ' H'
 |.cont=>∃σ' H',Inv X pins σ' H' s'/\D.ct σ' H'
 |.ret u=>∃v σ' H',Inv X pins σ' H' s'/\RelV v u/\D.rt v H'
def PE(X:Cx)(e:Expr)(t:TE):Prop:=
 ∀(pins:List ⇑16)(s:Ak)(σ:St)(H:Hp)(Q:VK),Inv X pins σ H s->t σ H Q->A1 ⇑14 X.A (eval e X.env) ⇑69 X.xe s
def PT(X:Cx)(e:Expr)(t:TT):Prop:=
 ∀(pins:List ⇑16)(s:Ak)(σ:St)(H:Hp)(Q:Bool->Hp->Prop),Inv X pins σ H s->t σ H Q->A1 ⇑14 X.A (isTrue e X.env (eval e X.env)) (TP X pins σ Q) X.xe s
def PW(X:Cx)(e:Expr)(t:TT):Prop:=
 ∀(whole:Sem Ag)(pins:List ⇑16)(s:Ak)(σ:St)(H:Hp)(Q:Bool->Hp->Prop),Inv X pins σ H s->t σ H Q->A1 ⇑14 X.A (isTrue e X.env whole) (TP X pins σ Q) X.xe s
theorem PW.pt(h:PW X e t):PT X e t:=h _
def PA(X:Cx)(es:List Expr)(t:TA):Prop:=
 ∀(pos:Pos)(pins:List ⇑16)(s:Ak)(σ:St)(H:Hp)(Q:List V->Hp->Prop),Inv X pins σ H s->t σ H Q->A1 ⇑14 X.A (spliced (C8 pos ⇑43)) (AP X pins σ Q) X.xe s
def PS(X:Cx)(st:Stmt)(t:TS):Prop:=
 ∀(pins:List ⇑16)(s:Ak)(σ:St)(H:Hp)(D:Ends),Inv X pins σ H s->t D σ H->A1 ⇑14 X.A (exec st X.env) (SP X pins D) X.xe s
def PSs(X:Cx)(st:List Stmt)(t:TS):Prop:=
 ∀(pins:List ⇑16)(s:Ak)(σ:St)(H:Hp)(D:Ends),Inv X pins σ H s->t D σ H->A1 ⇑14 X.A (execs st X.env) (SP X pins D) X.xe s
theorem aP(h:A1 M A t Q E s)(hQ:∀a s,Q a s->Q' a s):A1 M A t Q' E s:=Dr h hQ λ_ _ x=>x
section
variable{X:Cx}
theorem UN(ha:PE X a ta)(hb:PE X b tb){σ:St}{R:V->V->Hp->Prop}(I:Inv X pins σ H s)(h:ta σ H λx H1=>tb σ H1 λy H2=>R x y H2)
   {Q:α->Ak->Prop} {f:Ag->Ag->Sem α}
  (hf:∀v u s2 x y H2,Inv X pins σ H2 s2->RelV x v->RelV y u->R x y H2->A1 ⇑14 X.A (f v u) Q X.xe s2):
  A1 ⇑14 X.A (eval a X.env) (λv s₁=>A1 ⇑14 X.A (eval b X.env) (λu s₂=>A1 ⇑14 X.A (f v u) Q X.xe s₂) X.xe s₁) X.xe s:=by
 refine aP ⇑77 λv s1 ⟨x,H1,I1,r1,q1⟩=>?_;refine aP (hb pins s1 σ H1 _ I1 q1) λu s2 ⟨y,H2,I2,r2,q2⟩=>?_;exact hf v u s2 x y H2 I2 r1 r2 q2
def aM(i:Nat):TE:=λσ H Q=>∃v,σ[i]?=ae (ae v)/\Q v H
def tC(v:V):TE:=λ_ H Q=>Q v H
theorem gh{pos:Pos}(hN:X.N[i]?=ae x)(hv:fC X.env.scope x)(hd:⇑21=ai:=by decide)(hcd:⇑46=ai:=by decide):PE X (.Name x pos) (aM i):=by
 sleep 6;obtain⟨v,e,h⟩:=h;obtain⟨m,hn,hl⟩:=I.loc;obtain⟨u,r,l⟩:=hl i x v hN e hv;have fin:EP X pins σ Q u s:=⟨v,H,I,r,h⟩;rcases l with⟨hk,hm⟩|⟨hk,c,hc,hcell⟩
 ·exact wpAny_Name (wpAny_loadName_local I.ok.kind hk hn hm fin) hd
 ·rcases hk with hk|hk
  ·exact wpAny_Name (wpAny_loadName_cell I.ok.kind hk hc hcell fin) hd
  ·exact wpAny_Name (wpAny_loadName_free I.ok.kind hk hc hcell fin hcd) hd
theorem cG{i j pos}:PE X (.Constant (.int i) j pos) (tC (.int i)):=λ_ _ _ H _ I h=>wpAny_Constant_int ⟨.int i,H,I.tok _,⟨_,rfl⟩,h⟩
theorem Rw{b j pos}:PE X (.Constant (.bool b) j pos) (tC (.bl b)):=λ_ _ _ H _ I h=>Constant_bool ⟨.bl b,H,I,rfl,h⟩
theorem lR{j pos}:PE X (.Constant .none j pos) (tC .non):=λ_ _ _ H _ I h=>Constant_none ⟨.non,H,I,rfl,h⟩
theorem Ll{x j pos}:PE X (.Constant (.str x) j pos) (tC (.str x)):=λ_ _ _ H _ I h=>Calls.Constant_str ⟨.str x,H,I.tok _,⟨_,rfl⟩,h⟩
def Gl(X:Cx)(x:Str):Prop:=X.env.kindOf x=ae .globalImplicit
theorem FT{σ:St}(I:Inv X pins σ H s)(hg:Gl X x)(hm:X.mg x=ae u)(h:Q u s)
  (hd:⇑21=ai:=by decide):A1 ⇑14 X.A (eval (.Name x pos) X.env) Q E s:=
 Calls.Name_function_global I.ok.kind hg (Calls.loadGlobal_global (by rw[I.ok.glob];exact I.mod.glob.keeps I.bk) hm h) hd
theorem kH{E:Ag->Ak->Prop}{σ:St}{pos:Pos}{Q:Ag->Ak->Prop}(I:Inv X pins σ H s)(hg:Gl X x)(hm:X.mg x=af)(hv:Bv x=ae u)(h:Q u s)
  (hn:x≠"__name__":=by decide) (hd:⇑21=ai:=by decide):A1 ⇑14 X.A (eval (.Name x pos) X.env) Q E s:=by
 obtain⟨mb,h1,h2⟩:=I.mod.blt;exact Calls.Name_function_global I.ok.kind hg (Calls.loadGlobal_builtin (by rw[I.ok.glob];exact I.mod.glob.keeps I.bk) hm (by rw[I.ok.blt];exact h1.keeps I.bk) ((h2 x hn).trans hv) h) hd
theorem vL(hg:Gl X x)(hm:X.mg x=ae u)(r:RelV v u)(hd:⇑21=ai:=by decide):PE X (.Name x pos) (tC v):=
 λ_ _ _ H _ I h=>FT I hg hm ⟨v,H,I,r,h⟩ hd
theorem Mr{pos:Pos}(hg:Gl X x)(hm:X.mg x=af)(hv:Bv x=ae u)(r:RelV v u)(hn:x≠"__name__":=by decide)(hd:⇑21=ai:=by decide):PE X (.Name x pos) (tC v):=
 λ_ _ _ H _ I h=>kH I hg hm hv ⟨v,H,I,r,h⟩ hn hd
variable{a b:Expr}{ta tb:TE}{pos:Pos}
def PC(X:Cx)(op:CmpOp)(a b:Expr)(t:TE):Prop:=
 ∀(pins:List ⇑16)(s:Ak)(σ:St)(H:Hp)(Q:VK),Inv X pins σ H s->t σ H Q->
  A1 ⇑14 X.A (eval a X.env) (λv s₁=>A1 ⇑14 X.A (eval b X.env) (λu s₂=>A1 ⇑14 X.A (B6 op v u) ⇑69 X.xe s₂) X.xe s₁) X.xe s
theorem CY(b)(h:op≠.In)(h2:op≠.NotIn):Ct op b=ai:=by
 have e1:(op==CmpOp.In)=ai:=by cases op<;>first|rfl|exact absurd rfl h
 have e2:(op==CmpOp.NotIn)=ai:=by cases op<;>first|rfl|exact absurd rfl h2
 cases b<;>simp[Ct,e1,e2]
def tB(t:TE):TT:=λσ H Q=>t σ H λx H1=>∃c,x=.bl c/\Q c H1
theorem EL(h:PC X op a b t)(h1:Ct op b=ai:=by first|exact CY _ ∎ ∎|rfl):PE X ⇑131 t:=λpins s σ H Q I hw=>wpAny_Compare1 (h pins s σ H Q I hw) h1
theorem GH(h:PC X op a b t)(h1:Ct op b=ai:=by first|exact CY _ ∎ ∎|rfl):PT X ⇑131 (tB t):=by
 intro pins s σ H Q I hw;refine wpAny_isTrue_Compare1 (aP (h pins s σ H _ I hw) λv s1 h1=>aP h1 λu s2 h2=>aP h2 λc s3 ⟨x,H1,I1,r1,q1⟩=>?_) h1;obtain⟨d,rfl,q⟩:=q1;cases r1;exact Dk ⟨H1,I1,q⟩
theorem LQ(h:PE X e t)(he:∀whole,isTrue e X.env whole=(do let v <-whole;standAt e.pos;holding [v] (truthy v)):=by intro _;rfl):PT X e (tB t):=by
 intro pins s σ H Q I hw;refine isTrue_plain (aP (h pins s σ H _ I hw) λv s1 ⟨x,H1,I1,r1,q1⟩=>?_) (he _);obtain⟨d,rfl,q⟩:=q1;cases r1;exact Dk ⟨H1,I1,q⟩
variable{tA tB':TT}{aE:List Expr}
def jt(t u:TT):TT:=λσ H Q=>t σ H λc H1=>if c=ah then u σ H1 Q else Q ai H1
def zO(t u:TT):TT:=λσ H Q=>t σ H λc H1=>if c=ah then Q ah H1 else u σ H1 Q
def ni(t:TT):TT:=λσ H Q=>t σ H λc H1=>Q (!c) H1
theorem zX(ha:PT X a tA):PW X (.BoolOp .And [a] pos) tA:=by
 intro wh pins s σ H Q I h;refine isTrue_and (aP (ha pins s σ H Q I h) λc s1 e=>?_);cases c with
 |true=>exact isTrue_and_nil e
 |false=>exact e
theorem UK(ha:PT X a tA):PW X (.BoolOp .Or [a] pos) tA:=by
 intro wh pins s σ H Q I h;refine isTrue_or (aP (ha pins s σ H Q I h) λc s1 e=>?_);cases c with
 |false=>exact isTrue_or_nil e
 |true=>exact e
theorem GK(ha:PT X a tA)(hb:PW X (.BoolOp .And (b::aE) pos) tB'):PW X (.BoolOp .And (a::b::aE) pos) (jt tA tB'):=by
 intro wh pins s σ H Q I h;refine isTrue_and (aP ⇑77 λc s1 ⟨H1,I1,q1⟩=>?_);cases c with
 |true=>exact hb wh pins s1 σ H1 Q I1 q1
 |false=>exact⟨H1,I1,q1⟩
theorem Uu(ha:PT X a tA)(hb:PW X (.BoolOp .Or (b::aE) pos) tB'):PW X (.BoolOp .Or (a::b::aE) pos) (zO tA tB'):=by
 intro wh pins s σ H Q I h;refine isTrue_or (aP ⇑77 λc s1 ⟨H1,I1,q1⟩=>?_);cases c with
 |true=>exact⟨H1,I1,q1⟩
 |false=>exact hb wh pins s1 σ H1 Q I1 q1
theorem Ma(ha:PT X a tA):PT X (.UnaryOp .Not a pos) (ni tA):=by
 sleep 6;exact isTrue_not (ha pins s σ H (λc H1=>Q (!c) H1) I h)
def AV(ta tb:TE):TE:=λσ H Q=>ta σ H λx H1=>∃c,x=.bl c/\if c=ah then tb σ H1 Q else Q (.bl ai) H1
def oj(ta tb:TE):TE:=λσ H Q=>ta σ H λx H1=>∃c,x=.bl c/\if c=ah then Q (.bl ah) H1 else tb σ H1 Q
def yq(ta:TE):TE:=λσ H Q=>ta σ H λx H1=>∃c,x=.bl c/\Q (.bl (!c)) H1
theorem Ua{op}(h:PE X a t):PE X (.BoolOp op [a] pos) t:=λpins s σ H Q I hw=>BoolOp_one (h pins s σ H Q I hw)
theorem Pj(ha:PE X a ta)(hb:PE X (.BoolOp .And (b::aE) pos) tb):PE X (.BoolOp .And (a::b::aE) pos) (AV ta tb):=by
 sleep 6;refine BoolOp_and (aP ⇑77 λv s1 ⟨x,H1,I1,r1,q1⟩=>?_);obtain⟨c,rfl,q1⟩:=q1;cases r1;refine Dk ?_;cases c with
 |true=>exact hb pins s1 σ H1 Q I1 q1
 |false=>exact⟨.bl ai,H1,I1,rfl,q1⟩
theorem L9(ha:PE X a ta)(hb:PE X (.BoolOp .Or (b::aE) pos) tb):PE X (.BoolOp .Or (a::b::aE) pos) (oj ta tb):=by
 sleep 6;refine BoolOp_or (aP ⇑77 λv s1 ⟨x,H1,I1,r1,q1⟩=>?_);obtain⟨c,rfl,q1⟩:=q1;cases r1;refine Dk ?_;cases c with
 |false=>exact hb pins s1 σ H1 Q I1 q1
 |true=>exact⟨.bl ah,H1,I1,rfl,q1⟩
theorem JR(ha:PE X a ta):PE X (.UnaryOp .Not a pos) (yq ta):=by
 sleep 6;refine UnaryOp_ (aP ⇑77 λv s1 ⟨x,H1,I1,r1,q1⟩=>?_);obtain⟨c,rfl,q1⟩:=q1;cases r1;exact not_of (Dk ⟨.bl (!c),H1,I1,rfl,q1⟩)
def GL(t:TT)(ta tb:TE):TE:=λσ H Q=>t σ H λc H1=>if c=ah then ta σ H1 Q else tb σ H1 Q
theorem RP(hc:PT X c tA)(ha:PE X a ta)(hb:PE X b tb):PE X (.IfExp c a b pos) (GL tA ta tb):=by
 sleep 6;refine wpAny_IfExp (aP (hc pins s σ H _ I h) λd s1 ⟨H1,I1,q1⟩=>?_);cases d with
 |true=>exact ha pins s1 σ H1 Q I1 q1
 |false=>exact hb pins s1 σ H1 Q I1 q1
end
def SqL(K:Ah)(H:Hp)(a:Addr)(xs:List V):Prop:=
 Rd H a (.lst xs) \/
  ∃(o:Obj)(its:Array Ag)(n:Nat),K.lookup a=ae o/\o.cls=.type "list"/\o.dict=af/\o.data=.seq its n/\its.size<=Az/\Vals xs its.toList
def SqT(K:Ah)(H:Hp)(a:Addr)(xs:List V):Prop:=
 Rd H a (.tup xs) \/
  ∃(o:Obj)(its:Array Ag)(n:Nat),K.lookup a=ae o/\o.cls=.type "tuple"/\o.data=.seq its n/\its.size<=Az/\Vals xs its.toList
def tI:Ag->Option V
 |.none=>ae .non
 |.bool b=>ae (.bl b)
 |.int i _=>ae (.int i)
 |.str x _=>ae (.str x)
 |.bytes b _=>ae (.byt b)
 |.float b _=>ae (.flt b)
 |.ref a=>ae (.ref a)
 |.type n=>ae (.ty n)
 |_=>af
theorem RelV.abs(r:RelV x u):tI u=ae x:=by
 cases x with
 |non=>cases r;rfl
 |bl _=>cases r;rfl
 |int _=>obtain⟨t,rfl⟩:=r;rfl
 |str _=>obtain⟨t,rfl⟩:=r;rfl
 |byt _=>obtain⟨t,rfl⟩:=r;rfl
 |flt _=>obtain⟨t,rfl⟩:=r;rfl
 |ref _=>cases r;rfl
 |ty _=>cases r;rfl
theorem RelV.inj(r:RelV x u)(q:RelV y u):x=y:=Bb (r.abs.symm.trans q.abs)
theorem Vals.inj:∀{xs ys:List V}{us:List Ag},Vals xs us->Vals ys us->xs=ys
 |_,_,_,.nil,.nil=>rfl
 |_,_,_,.cons r t,.cons r' t'=>by rw[r.inj r',Vals.inj t t']
section
variable{X:Cx}{pins:List ⇑16}{σ:St}{H:Hp}{s:Ak}{a:Addr}{xs ys:List V}
theorem SqL.of{K:Ah}(h:H a=ae (.lst xs)):SqL K H a xs:=.inl (.inl h)
theorem SqT.of{K:Ah}(h:H a=ae (.tup xs)):SqT K H a xs:=.inl (.inl h)
theorem Inv.list(I:Inv X pins σ H s)(h:SqL X.K H a xs):∃its:List Ag,Vals xs its/\PlainL s.heap a its.toArray/\xs.length<=Az:=by
 rcases h with h|⟨o,its,n,hk,hc,hd,hs,hz,r⟩
 ·obtain⟨z,its,n,r,e⟩:=h.ok I.hok;exact⟨its,r,⟨_,n,e,rfl,rfl,rfl⟩,z⟩
 ·refine⟨its.toList,r,⟨o,n,I.kIn a o hk,hc,hd,by simpa using hs⟩,?_⟩;have e:=r.length;simp only[B9]at e;omega
theorem Inv.tuple(I:Inv X pins σ H s)(h:SqT X.K H a xs):∃its:List Ag,Vals xs its/\IsTup s.heap a its.toArray/\xs.length<=Az:=by
 rcases h with h|⟨o,its,n,hk,hc,hs,hz,r⟩
 ·obtain⟨z,its,r,p⟩:=h.ok I.hok;exact⟨its,r,p.tup,z⟩
 ·refine⟨its.toList,r,⟨o,I.kIn a o hk,hc,n,by simpa using hs⟩,?_⟩;have e:=r.length;simp only[B9]at e;omega
theorem Inv.list_inj(I:Inv X pins σ H s)(h:SqL X.K H a xs)(h':SqL X.K H a ys):xs=ys:=by
 obtain⟨its,r,⟨o,n,e,_,_,d⟩,_⟩:=I.list h;obtain⟨its',r',⟨o',n',e',_,_,d'⟩,_⟩:=I.list h';rw[e]at e';cases e';rw[d]at d';injection d' with d1 _;have:its=its':=by simpa using congrArg Array.toList d1
 subst this;exact r.inj r'
theorem Inv.tuple_inj(I:Inv X pins σ H s)(h:SqT X.K H a xs)(h':SqT X.K H a ys):xs=ys:=by
 obtain⟨its,r,⟨o,e,_,n,d⟩,_⟩:=I.tuple h;obtain⟨its',r',⟨o',e',_,n',d'⟩,_⟩:=I.tuple h';rw[e]at e';cases e';rw[d]at d';injection d' with d1 _;have:its=its':=by simpa using congrArg Array.toList d1
 subst this;exact r.inj r'
end
abbrev Cx.wish(X:Cx)(E:Ag->Ak->Prop):Cx:={ X with xe:=E}
abbrev Cx.nox(X:Cx):Cx:=X.wish λ_ _=>False
theorem Cx.Ok.wish{X:Cx}(ok:X.Ok)(E):(X.wish E).Ok:=
 ⟨ok.mod,ok.kind,ok.glob,ok.blt,ok.above,ok.inj,ok.has,ok.cab,ok.hd,ok.frames,ok.stk,ok.exf,ok.bs,ok.bsz,ok.noex,ok.exfs,ok.funs,ok.frf⟩
theorem Cx.Ok.unwish{X:Cx}(ok:(X.wish E).Ok):X.Ok:=
 ⟨ok.mod,ok.kind,ok.glob,ok.blt,ok.above,ok.inj,ok.has,ok.cab,ok.hd,ok.frames,ok.stk,ok.exf,ok.bs,ok.bsz,ok.noex,ok.exfs,ok.funs,ok.frf⟩
section
variable{X:Cx}{pins:List ⇑16}{σ:St}{H:Hp}{s:Ak}{E:Ag->Ak->Prop}
theorem Inv.wish(I:Inv X pins σ H s)(E):Inv (X.wish E) pins σ H s:=⟨I.ok.wish E,I.os,I.bare,I.base,I.loc,I.cell,I.free,I.freeC,I.pin,I.hok,I.len⟩
theorem Inv.unwish(I:Inv (X.wish E) pins σ H s):Inv X pins σ H s:=⟨I.ok.unwish,I.os,I.bare,I.base,I.loc,I.cell,I.free,I.freeC,I.pin,I.hok,I.len⟩
theorem SP.unwish(h:SP (X.wish E) pins D f s'):SP X pins D f s':=by
 cases f with
 |next=>obtain⟨σ',H',I,q⟩:=h;exact⟨σ',H',I.unwish,q⟩
 |brk=>obtain⟨σ',H',I,q⟩:=h;exact⟨σ',H',I.unwish,q⟩
 |cont=>obtain⟨σ',H',I,q⟩:=h;exact⟨σ',H',I.unwish,q⟩
 |ret u=>obtain⟨v,σ',H',I,r,q⟩:=h;exact⟨v,σ',H',I.unwish,r,q⟩
theorem PSs.nox{st:List Stmt}(h:PSs X.nox st t):PSs X st t:=λpins s σ H D I hw=>
 Dr (h pins s σ H D (I.wish _) hw) (λ_ _ q=>q.unwish) λ_ _ z=>False.elim z
end
section
variable{X:Cx}{st:Stmt}{aE:List Stmt}{t u:TS}{e:Expr}{te:TE}{pos:Pos}
def oM:TS:=λD σ H=>D.nx σ H
def gK(t u:TS):TS:=λD σ H=>t {D with nx:=u D} σ H
theorem rQ:PSs X [] oM:=λ_ _ σ H _ I h=>wpAny_execs_nil ⟨σ,H,I,h⟩
theorem hZ(h1:PS X st t)(h2:PSs X aE u):PSs X (st::aE) (gK t u):=by
 sleep 16;refine wpAny_execs_cons (aP (h1 pins s σ H {D with nx:=u D} I h) λf s1 q=>?_);cases f with
 |next=>
  obtain⟨σ',H',I',q⟩:=q;exact h2 pins s1 σ' H' D I' q
 |ret v=>exact q
 |brk=>exact q
 |cont=>exact q
theorem mz(h1:PS X st t):PSs X [st] t:=by
 sleep 16;refine wpAny_execs_cons (aP (h1 pins s σ H D I h) λf s1 q=>?_);cases f with
 |next=>exact wpAny_execs_nil q
 |ret v=>exact q
 |brk=>exact q
 |cont=>exact q
theorem Inv.quiet{σ:St}(I:Inv X pins σ H s):interactive X.env=ai:=by simp[interactive,I.ok.kind]
def r8(te:TE):TS:=λD σ H=>te σ H λ_ H1=>D.nx σ H1
theorem AS(he:PE X e te)(hs:C5 e af pos.line X.env=pure ai:=by rfl):PS X (.Expr e pos) (r8 te):=by
 sleep 16;exact wpAny_Expr_any (aP (he pins s σ H _ I h) λv s1 ⟨x,H1,I1,r1,q1⟩=>⟨σ,H1,I1,q1⟩) I.quiet hs
def gw(te:TE):TS:=λD σ H=>te σ H D.rt
theorem kA(he:PE X e te):PS X (.Return (ae e) pos) (gw te):=by
 sleep 16;exact wpAny_Return_some (aP (he pins s σ H _ I h) λv s1 ⟨x,H1,I1,r1,q1⟩=>⟨x,σ,H1,I1,r1,q1⟩)
def iA(c:TT)(t u:TS):TS:=λD σ H=>c σ H λb H1=>if b=ah then t D σ H1 else u D σ H1
theorem rV(hc:PT X c tc)(ha:PSs X a t)(hb:PSs X b u):PS X (.If c a b pos) (iA tc t u):=by
 sleep 16;refine wpAny_If (aP (hc pins s σ H _ I h) λd s1 ⟨H1,I1,q1⟩=>?_);cases d with
 |true=>exact ha pins s1 σ H1 D I1 q1
 |false=>exact hb pins s1 σ H1 D I1 q1
end
abbrev TG:=V->St->Hp->(St->Hp->Prop)->Prop
abbrev gj:=List V->St->Hp->(St->Hp->Prop)->Prop
def PG(X:Cx)(target:Expr)(t:TG):Prop:=
 ∀(pins:List ⇑16)(s:Ak)(σ:St)(H:Hp)(v:V)(u:Ag)(Q:St->Hp->Prop),Inv X pins σ H s->RelV v u->t v σ H Q->
  A1 ⇑14 X.A (assign target X.env u) (λ_ s'=>∃σ' H',Inv X pins σ' H' s'/\Q σ' H') X.xe s
def mO(X:Cx)(ts:List Expr)(t:gj):Prop:=
 ∀(pins:List ⇑16)(s:Ak)(σ:St)(H:Hp)(vs:List V)(us:List Ag)(Q:St->Hp->Prop),Inv X pins σ H s->Vals vs us->t vs σ H Q->
  A1 ⇑14 X.A (assignInOrder ((C0 ts X.env).map (·.2)) us) (λ_ s'=>∃σ' H',Inv X pins σ' H' s'/\Q σ' H') X.xe s
abbrev kR:=V->V->V->Hp->(Hp->Prop)->Prop
def n6(X:Cx)(t:kR):Prop:=
 ∀(pins:List ⇑16)(s:Ak)(σ:St)(H:Hp)(o i v:V)(ov iv u:Ag)(Q:Hp->Prop),Inv X pins σ H s->RelV o ov->RelV i iv->RelV v u->t o i v H Q->
  A1 ⇑14 X.A (setItem ov iv u) (λ_ s'=>∃H',Inv X pins σ H' s'/\Q H') X.xe s
section
variable{X:Cx}{pos:Pos}
def dH(i:Nat):TG:=λv σ H Q=>Q (σ.set i (ae v)) H
theorem LW(hN:X.N.Nodup)(hi:X.N[i]?=ae x)(hx:gc X.env.scope x)(hf:X.fn x=ah\/X.env.scope.names.lookup x=ae .local:=by first|exact .inl rfl|exact .inr rfl|assumption):PG X (.Name x pos) (dH i):=by
 intro pins s σ H v u Q I r h;exact wpAny_assign_Name (CF I hN hi hx r (λs' I'=>⟨_,H,I',h⟩) hf)
def oO:gj:=λvs σ H Q=>vs=[]/\Q σ H
def Ij(t:TG)(u:gj):gj:=λvs σ H Q=>∃v r,vs=v::r/\t v σ H λσ' H'=>u r σ' H' Q
theorem II:mO X [] oO:=by
 intro pins s σ H vs us Q I r h;obtain⟨e,h⟩:=h;subst e;cases r;exact assignInOrder_nil ⟨σ,H,I,h⟩
theorem MA(h1:PG X e t)(h2:mO X es u)
  (hs:(C0 (e::es) X.env).map (·.2)=assign e X.env::(C0 es X.env).map (·.2):=by rfl):mO X (e::es) (Ij t u):=by
 intro pins s σ H vs us Q I r h;obtain⟨v,vr,e1,h⟩:=h;subst e1;cases r with
 |cons r rr=>
  rw[hs];refine assignInOrder_cons (aP (h1 pins s σ H _ _ _ I r h) λ_ s1 ⟨σ1,H1,I1,q1⟩=>?_);exact h2 pins s1 σ1 H1 _ _ Q I1 rr q1
def l7(K:Ah)(n:Nat)(t:gj):TG:=λv σ H Q=>∃a xs,v=.ref a/\SqT K H a xs/\xs.length=n/\t xs σ H Q
theorem RH{k:Nat}(hc:X.calm=ah)(h:mO X es t)
  (hn:(C0 es X.env).length=n:=by rfl) (hst:(C0 es X.env).findIdx? (·.1)=af:=by rfl):PG X (.Tuple es k pos) (l7 X.K n t):=by
 intro pins s σ H v u Q I r hw;obtain⟨a,xs,e1,hq,hl,hw⟩:=hw;subst e1;cases r;obtain⟨its,rv,ht,hz⟩:=I.tuple hq;refine assign_Tuple_tuple (I.ok.hd hc) ht (by simp[hn,<-hl,rv.length]) hst λh' hx=>?_;have I1:Inv X pins σ H {s with heap:=h'}:=I.kept (t':=s.toks) λb o e=>hx b o (Bd (As e)) e;exact h pins _ σ H xs _ Q I1 (by simpa using rv) hw
def j5(to ti:TE)(t:kR):TG:=λv σ H Q=>to σ H λo H1=>ti σ H1 λi H2=>t o i v H2 λH3=>Q σ H3
theorem oE(ho:PE X o to)(hi:PE X i ti)(hs:n6 X t)
  (ha:∀v,assign (.Subscript o i pos) X.env v=(do
   let ov <-holding [v] (eval o X.env)
   let iv <-holding [v,ov] (eval i X.env)
   standAt pos
   holding [v,ov,iv] (setItem ov iv v)
   release [v,ov,iv] []):=by intro _;rfl):PG X (.Subscript o i pos) (j5 to ti t):=by
 intro pins s σ H v u Q I r h;rw[ha];refine Ab (Cf (aP (ho pins s σ H _ I h) λov s1 ⟨x,H1,I1,r1,q1⟩=>?_));refine Ab (Cf (aP (hi pins s1 σ H1 _ I1 q1) λiv s2 ⟨y,H2,I2,r2,q2⟩=>?_));refine Ab (wpAny_standAt (Ab (Cf (aP (hs pins s2 σ H2 x y v ov iv u _ I2 r1 r2 r q2) λ_ s3 ⟨H3,I3,q3⟩=>?_))));exact wpAny_release ⟨σ,H3,I3,q3⟩
def bQ(te:TE)(g:TG):TS:=λD σ H=>te σ H λx H1=>g x σ H1 D.nx
theorem l8(he:PE X e te)(hg:PG X tg g)(hs:swapsWithSole [tg] e pos.line X.env=pure ai:=by rfl)(hw:swappedStores [tg] e X.env=pure af:=by rfl)
  (h1:(C0 [tg] X.env).map (·.2)=[assign tg X.env]:=by rfl):PS X (.Assign [tg] e pos) (bQ te g):=by
 sleep 16;refine wpAny_Assign_stores (aP (he pins s σ H _ I h) λv s1 ⟨x,H1,I1,r1,q1⟩=>?_) hs hw;rw[h1];exact aP (hg pins s1 σ H1 x v _ I1 r1 q1) λ_ s2 q=>q
theorem gV(hN:X.N.Nodup)(hi:X.N[i]?=ae x)(hx:gc X.env.scope x)(he:PE X e te)(hs:C5 e (ae ⇑47) pos.line X.env=pure ai:=by rfl)(hf:X.fn x=ah\/X.env.scope.names.lookup x=ae .local:=by first|exact .inl rfl|exact .inr rfl|assumption):
  PS X (.Assign [.Name x pos'] e pos) (bQ te (dH i)):=by
 sleep 16;refine wpAny_Assign_Name (aP (he pins s σ H _ I h) λv s1 ⟨y,H1,I1,r1,q1⟩=>?_) hs;exact CF I1 hN hi hx r1 (λs2 I2=>⟨_,H1,I2,q1⟩) hf
end
section
variable{X:Cx}{pos:Pos}
def yR(c:TT)(tb:TS):TS:=λD σ H=>∃W:Nat->St->Hp->Prop,(∃m,W m σ H)/\∀m σ H,W m σ H->
 c σ H λb H1=>if b=ah then ∃N:St->Hp->Prop,(∀σ' H',N σ' H'->∃m',m' < m/\W m' σ' H')/\tb {D with nx:=N,ct:=N,bk:=D.nx} σ H1 else D.nx σ H1
theorem UI(hp:PassesOwn ⇑14 X.A X.env X.xe)(hc:PT X c tc)(hb:PSs X body tb):PS X (.While c body [] pos) (yR tc tb):=by
 sleep 16;obtain⟨W,⟨m0,w0⟩,turn⟩:=h;refine wpAny_While (codeAny_whileLoop (λn s'=>∃σ' H',Inv X pins σ' H' s'/\W n σ' H') ?_ m0 ⟨σ,H,I,w0⟩)
 rintro n s1 ⟨σ1,H1,I1,w1⟩
 refine Ft hp (aP (hc pins s1 σ1 H1 _ I1 (turn n σ1 H1 w1)) λb s2 ⟨H2,I2,q2⟩=>?_);cases b with
 |true=>
  obtain⟨N,hN,q2⟩:=q2;sleep 10;refine Ft hp (aP (hb pins s2 σ1 H2 _ I2 q2) λf s3 q3=>?_);cases f with
  |next=>
   obtain⟨σ3,H3,I3,n3⟩:=q3;obtain⟨m',hm,w3⟩:=hN σ3 H3 n3;exact⟨m',hm,σ3,H3,I3,w3⟩
  |cont=>
   obtain⟨σ3,H3,I3,n3⟩:=q3;obtain⟨m',hm,w3⟩:=hN σ3 H3 n3;exact⟨m',hm,σ3,H3,I3,w3⟩
  |brk=>exact q3
  |ret v=>exact q3
 |false=>
  sleep 7;exact wpAny_execs_nil ⟨σ1,H2,I2,q2⟩
end
structure It where
 go:Nat->Hp->Prop
 yld:Nat->Hp->V->Hp->Prop
 stop:Nat->Hp->Prop
def cZ(X:Cx)(pins:List ⇑16)(H:Hp)(b:Addr):Prop:=
 H b=af/\b≠X.env.locals/\b∉X.fs/\(b∈X.ex\/X.s₀.heap.objs.size<=b)/\(∀x c,X.env.cells.lookup x=ae c->c≠b)/\∀p∈X.pn++pins,p.1≠b
theorem Inv.fpOk{σ:St}{b:Addr}(I:Inv X pins σ H s)(hb:s.heap.objs.size<=b)(hn:H' b=af):cZ X pins H' b:=by
 refine⟨hn,Em (Bq I.lt hb),I.nofs hb,.inr (Bj I.sz hb),λx c e z=>?_,λp hp z=>?_⟩
 ·obtain⟨v,q⟩:=I.cell x c e;exact absurd (Bq q.lt (by rw[z];exact hb)) (D7 _)
 ·exact absurd (Bq (As (I.pin p hp).1) (by rw[z];exact hb)) (D7 _)
structure Turn(P:Bh)(w:Bt)(K:Ah)(tg:Expr)(J:It)(fp:List Addr)(it:Addr)(tn:Nat->Heap->Prop):Prop where
 mem:it∈fp
 obj:∀i h,tn i h->∀b∈fp,∃o,h.get? b=ae o/\∀v,o.data≠.cell v
 keep:∀i h h',tn i h->(∀b∈fp,∀o,h.get? b=ae o->h'.get? b=ae o)->tn i h'
 item:∀(X:Cx),X.prog=P->X.w=w->X.K=K->X.calm=ah->∀(i:Nat)(pins:List ⇑16)(s:Ak)(σ:St)(H:Hp)(E:Ag->Ak->Prop),Inv X pins σ H s->(∀b∈fp,cZ X pins H b)->tn i s.heap->J.go i H->
  A1 (Be P w) X.A (Eu (.ref it)) (λr s1=>∃u,r=ae u /\
   A1 (Be P w) X.A (letOwnedTupleGo tg (.ref it) u) (λ_ s2=>∃x H',Inv X pins σ H' s2/\RelV x u/\J.yld i H x H'/\tn (i+1) s2.heap/\∀b∈fp,H' b=af) E s1) E s
 done:∀(X:Cx),X.prog=P->X.w=w->X.K=K->X.calm=ah->∀(i:Nat)(pins:List ⇑16)(s:Ak)(σ:St)(H:Hp)(E:Ag->Ak->Prop),Inv X pins σ H s->(∀b∈fp,cZ X pins H b)->tn i s.heap->J.stop i H->
  A1 (Be P w) X.A (Eu (.ref it)) (λr s1=>r=af/\Inv X pins σ H s1) E s
 self:∀(A:B1)(i:Nat)(s:Ak)(Q:Ag->Ak->Prop)(E:Ag->Ak->Prop),tn i s.heap->Q (.ref it) s->A1 (Be P w) A (pyIter (.ref it)) Q E s
abbrev TI:=St->Hp->(It->Hp->Prop)->Prop
def Iz(X:Cx)(pins:List ⇑16)(σ:St)(tg:Expr)(R:It->Hp->Prop)(itv:Ag)(s2:Ak):Prop:=
 ∃(it:Addr)(fp:List Addr)(tn:Nat->Heap->Prop)(J:It)(H':Hp),itv=.ref it/\Inv X pins σ H' s2/\Turn X.prog X.w X.K tg J fp it tn/\tn 0 s2.heap/\(∀b∈fp,cZ X pins H' b)/\R J H'
def PI(X:Cx)(tg iter:Expr)(wi:TI):Prop:=
 ∀(pins:List ⇑16)(s:Ak)(σ:St)(H:Hp)(R:It->Hp->Prop),Inv X pins σ H s->wi σ H R->
  A1 ⇑14 X.A (eval iter X.env) (λv s1=>A1 ⇑14 X.A (pyIter v) (Iz X pins σ tg R) X.xe s1) X.xe s
theorem qO(ho:s.heap.get? it=ae o)(hc:o.cls=.type n)(hd:o.data=.fields vs)
  (hn:["enumerate","zip","dict_itemiterator","dict_reverseitemiterator","odict_iterator","itertools.zip_longest","itertools.pairwise"].contains n=ai) (hQ:Q () s):A1 M A (letOwnedTupleGo tg (.ref it) u) Q E s:=by
 unfold letOwnedTupleGo;cases tg<;>first
  |exact Aj hQ
  | (cases u<;>first
    |exact Aj hQ
    | (refine Ab (wpAny_load ho ?_)
       rw[hc,hd];show A1 M A (if (["enumerate","zip","dict_itemiterator","dict_reverseitemiterator","odict_iterator","itertools.zip_longest","itertools.pairwise"].contains n&&vs[0]?==ae (Cu _))=ah then _ else _) Q E s;rw[if_neg (by intro h;rw[hn,Bool.false_and]at h;cases h)];exact Aj hQ))
def FC(K:Ah)(a:Addr):It:=
 ⟨λi H=>∃xs x,SqL K H a xs/\xs[i]?=ae x,λi H x H'=>H'=H/\∀xs,SqL K H a xs->xs[i]?=ae x,λi H=>∃xs,SqL K H a xs/\xs.length<=i⟩
def yy(K:Ah)(a:Addr):It:=
 ⟨λi H=>∃xs x,SqT K H a xs/\xs[i]?=ae x,λi H x H'=>H'=H/\∀xs,SqT K H a xs->xs[i]?=ae x,λi H=>∃xs,SqT K H a xs/\xs.length<=i⟩
def rG(lo:Int)(n:Nat):It:=⟨λi _=>i < n,λi H x H'=>H'=H/\x=.int (lo+i),λi _=>n<=i⟩
theorem Kh{K:Ah}(a it):Turn P w K tg (FC K a) [it] it (λi h=>h.IsListIter it a i) where
 mem:=by simp
 obj:=λi h st b hb=>by
  have e:b=it:=by simpa using hb
  subst e;obtain⟨o,e,c,d⟩:=st;exact⟨o,e,λv z=>by rw[d]at z;cases z⟩
 keep:=λi h h' st k=>st.at λo e=>k it (by simp) o e
 item:=by
  sleep 17;obtain⟨xs,x,hq,hx⟩:=hg;obtain⟨its,rv,p,hz⟩:=I.list hq;obtain⟨u,hu,ru⟩:=rv.get hx;sleep 21;refine wpAny_pyNext_list_item st p.isList (x:=u) (by simpa using hu) λh' st' sb=>?_;have I1:Inv X pins σ H {s with heap:=h'}:=I.turned (t':=s.toks) (λb o hb e=>(sb.2 b hb).trans e) f0 f1 f3 f4 f5;obtain⟨o,e,c,d⟩:=id st';exact⟨u,rfl,qO (s:={ s with heap:=h'}) e c d ∎ ⟨x,H,I1,ru,⟨rfl,λys hy=>by rw[I.list_inj hy hq];exact hx⟩,st',λb hb=>(hf b hb).1⟩⟩
 done:=by
  sleep 17;obtain⟨xs,hq,hx⟩:=hg;obtain⟨its,rv,p,hz⟩:=I.list hq;sleep 21;have hl:=rv.length;exact wpAny_pyNext_list_end (I.ok.hd hc) st p.isList (by simp;omega) λh' eb=>⟨rfl,I.turned (t':=s.toks) (λb o hb e=>eb b o hb e) f0 f1 f3 f4 f5⟩
 self:=λ_ _ _ _ _ st h=>wpAny_pyIter_listiter st h
theorem JZ{K:Ah}(a it):Turn P w K tg (yy K a) [it] it (λi h=>h.IsTupleIter it a i) where
 mem:=by simp
 obj:=λi h st b hb=>by
  have e:b=it:=by simpa using hb
  subst e;obtain⟨o,e,c,d⟩:=st;exact⟨o,e,λv z=>by rw[d]at z;cases z⟩
 keep:=λi h h' st k=>st.at λo e=>k it (by simp) o e
 item:=by
  sleep 17;obtain⟨xs,x,hq,hx⟩:=hg;obtain⟨its,rv,p,hz⟩:=I.tuple hq;obtain⟨u,hu,ru⟩:=rv.get hx;sleep 21;refine wpAny_pyNext_tuple_item st ⇑139 (x:=u) (by simpa using hu) λh' st' sb=>?_;have I1:Inv X pins σ H {s with heap:=h'}:=I.turned (t':=s.toks) (λb o hb e=>(sb.2 b hb).trans e) f0 f1 f3 f4 f5;obtain⟨o,e,c,d⟩:=id st';exact⟨u,rfl,qO (s:={ s with heap:=h'}) e c d ∎ ⟨x,H,I1,ru,⟨rfl,λys hy=>by rw[I.tuple_inj hy hq];exact hx⟩,st',λb hb=>(hf b hb).1⟩⟩
 done:=by
  sleep 17;obtain⟨xs,hq,hx⟩:=hg;obtain⟨its,rv,p,hz⟩:=I.tuple hq;sleep 21;have hl:=rv.length;exact wpAny_pyNext_tuple_end (I.ok.hd hc) st ⇑139 (by simp;omega) λh' eb=>⟨rfl,I.turned (t':=s.toks) (λb o hb e=>eb b o hb e) f0 f1 f3 f4 f5⟩
 self:=λ_ _ _ _ _ st h=>wpAny_pyIter_tupleiter st h
theorem Oc{K:Ah}(it)(lo)(n):Turn P w K tg (rG lo n) [it] it (λi h=>IsRangeIter h it (lo+(i:Nat)*1) ((n:Int)-(i:Nat)) 1) where
 mem:=by simp
 obj:=λi h st b hb=>by
  have e:b=it:=by simpa using hb
  subst e;exact⟨_,st,λv z=>by
   have z':Data.fields _=Data.cell v:=z;cases z'⟩
 keep:=λi h h' st k=>k it (by simp) _ st
 item:=by
  sleep 17;sleep 21;have W:=Walks.range (prog:=X.prog) (w:=X.w) (I.ok.hd hc) it lo 1 n;refine W.item i s _ _ hg st λv h' tk hv st' kk=>?_;obtain⟨t,rfl⟩:=hv;have I1:Inv X pins σ H {s with heap:=h',toks:=tk}:=I.turned (λb o hb e=>kk b o (by simpa using hb) e) f0 f1 f3 f4 f5;refine⟨_,rfl,qO (s:={ s with heap:=h',toks:=tk}) (n:="range_iterator") st' rfl rfl ∎ ⟨.int (lo+i),H,I1,⟨t,?_⟩,⟨rfl,rfl⟩,st',λb hb=>(hf b hb).1⟩⟩;rw[Int.mul_one]
 done:=by
  sleep 17;sleep 21;exact wpAny_pyNext_range_end (I.ok.hd hc) st (by have:n<=i:=hg;omega) λh' eb=>⟨rfl,I.turned (t':=s.toks) (λb o hb e=>eb b o hb e) f0 f1 f3 f4 f5⟩
 self:=λ_ _ _ _ _ st h=>wpAny_pyIter_rangeiter st h
section
variable{X:Cx}{tg:Expr}
def nQ(K:Ah)(tl:TE):TI:=λσ H R=>tl σ H λx H1=>∃a,x=.ref a/\(∃xs,SqL K H1 a xs)/\R (FC K a) H1
def ll(K:Ah)(tl:TE):TI:=λσ H R=>tl σ H λx H1=>∃a,x=.ref a/\(∃xs,SqT K H1 a xs)/\R (yy K a) H1
theorem Pk(hl:PE X l tl):PI X tg l (nQ X.K tl):=by
 intro pins s σ H R I h;refine aP (hl pins s σ H _ I h) λv s1 ⟨x,H1,I1,r1,q1⟩=>?_;obtain⟨a,e,⟨xs,hq⟩,q⟩:=q1;subst e;cases r1;obtain⟨its,rv,p,hz⟩:=I1.list hq;refine Gz p.isList ?_;refine⟨s1.heap.objs.size,[s1.heap.objs.size],_,_,H1,rfl,I1.kept (t':=s1.toks) λb o e=>Af _ e,Kh a _,⟨_,Aw _ rfl,rfl,rfl⟩,λb hb=>?_,q⟩;have e:b=s1.heap.objs.size:=by simpa using hb
 subst e;exact I1.fpOk (Aq _) (I1.hok.fresh (Aq _))
theorem Sz(hl:PE X l tl):PI X tg l (ll X.K tl):=by
 intro pins s σ H R I h;refine aP (hl pins s σ H _ I h) λv s1 ⟨x,H1,I1,r1,q1⟩=>?_;obtain⟨a,e,⟨xs,hq⟩,q⟩:=q1;subst e;cases r1;obtain⟨its,rv,p,hz⟩:=I1.tuple hq;refine D9 (show s1.heap.IsTuple a its.toArray from p) ?_;refine⟨s1.heap.objs.size,[s1.heap.objs.size],_,_,H1,rfl,I1.kept (t':=s1.toks) λb o e=>Af _ e,JZ a _,⟨_,Aw _ rfl,rfl,rfl⟩,λb hb=>?_,q⟩;have e:b=s1.heap.objs.size:=by simpa using hb
 subst e;exact I1.fpOk (Aq _) (I1.hok.fresh (Aq _))
theorem QF{σ:St}{lo hi:Int}(I:Inv X pins σ H s)(h1:-(2 ^ 62)<=lo)(h2:lo < 2 ^ 62)(h3:-(2 ^ 62)<=hi)(h4:hi < 2 ^ 62)
  (q:R (rG lo (hi-lo).toNat) H):A1 ⇑14 X.A (pyIter ⇑35) (Iz X pins σ tg R) E {s with heap:=s.heap.push {cls:=.type "range",data:=.fields #[.int lo t,.int hi u,.int 1 v]},toks:=tk}:=by
 refine wpAny_pyIter_range (IsRange.new ..) (small_one h1 h2 h3 h4) ?_;have I1:Inv X pins σ H {s with heap:=s.heap.push {cls:=.type "range",data:=.fields #[.int lo t,.int hi u,.int 1 v]},toks:=tk}:=I.kept λb o e=>Af _ e;refine⟨(s.heap.push {cls:=.type "range",data:=.fields #[.int lo t,.int hi u,.int 1 v]}).objs.size,[(s.heap.push {cls:=.type "range",data:=.fields #[.int lo t,.int hi u,.int 1 v]}).objs.size],_,_,H,rfl,
  I1.kept (t':=tk) λb o e=>Af _ e,Oc _ lo (hi-lo).toNat,?_,λb hb=>?_,q⟩
 ·have e1:lo+((0:Nat):Int)*1=lo:=by simp
  have e2:(((hi-lo).toNat:Nat):Int)-((0:Nat):Int)=Builtin.Range.rangeSize lo hi 1:=by rw[rangeSize_one];split<;>omega
  show IsRangeIter _ _ (lo+((0:Nat):Int)*1) ((((hi-lo).toNat:Nat):Int)-((0:Nat):Int)) 1;rw[e1,e2];exact Aw _ rfl
 ·have e:b=(s.heap.push {cls:=.type "range",data:=.fields #[.int lo t,.int hi u,.int 1 v]}).objs.size:=by simpa using hb
  subst e;exact I1.fpOk (Aq _) (I1.hok.fresh (Aq _))
def nT(ta:TA):TI:=λσ H R=>ta σ H λvs H1=>∃j:Int,vs=[.int j]/\-(2 ^ 62)<=j/\j < 2 ^ 62/\R (rG 0 j.toNat) H1
theorem M1(hg:Gl X "range")(hm:X.mg "range"=af)(ha:PA X [a] ta)(hs:Av [a] X.env=[⇑108]:=by rfl):PI X tg (.Call (.Name "range" p) [a] [] pos) (nT ta):=by
 intro pins s σ H R I h;refine Call_ (kH I hg hm boot_range (Dh (aP ⇑132 λus s1 ⟨vs,H1,I1,r1,q1⟩=>?_) hs rfl));obtain⟨j,e,q1,q2,q⟩:=q1;subst e;cases r1 with
 |cons r rr=>
  cases rr;obtain⟨t,rfl⟩:=r;exact call_range_1 (QF I1 ⋯ ⋯ q1 q2 (by simpa using q))
def gq(wi:TI)(g:TG)(tb:TS):TS:=λD σ H=>wi σ H λJ H1=>∃W:Nat->Nat->St->Hp->Prop,(∃m,W 0 m σ H1)/\∀i m σ H,W i m σ H->
 (J.stop i H/\D.nx σ H)\/(J.go i H/\∃N:St->Hp->Prop,(∀σ' H',N σ' H'->∃m',m' < m/\W (i+1) m' σ' H')/\∀x H',J.yld i H x H'->g x σ H' λσ2 H2=>tb {D with nx:=N,ct:=N,bk:=D.nx} σ2 H2)
def mD(fp:List Addr)(h:Heap):List ⇑16:=fp.filterMap λb=>(h.get? b).map λo=>(b,o)
theorem mC(hb:b∈fp)(e:h.get? b=ae o):(b,o)∈mD fp h:=Hg.mpr ⟨b,hb,by rw[e];rfl⟩
theorem Px(hp:p∈mD fp h):p.1∈fp/\h.get? p.1=ae p.2:=by
 obtain⟨b,hb,e⟩:=Hg.mp hp;cases q:h.get? b with
 |none=>rw[q]at e;cases e
 |some o=>
  rw[q]at e;have e':(b,o)=p:=Bb e;subst e';exact⟨hb,q⟩
theorem Inv.pinned{σ:St}(I:Inv X pins σ H s)(hf:∀b∈fp,cZ X pins H b)(ho:∀b∈fp,∃o,s.heap.get? b=ae o/\∀v,o.data≠.cell v):Inv X (pins++mD fp s.heap) σ H s:=
 I.pins_of λp hp=>(A9.mp hp).elim (λz=>I.pin p (Bk _ z)) λz=>by
  obtain⟨hb,e⟩:=Px z;obtain⟨f0,f1,f2,_⟩:=hf p.1 hb;obtain⟨o,e',d⟩:=ho p.1 hb;rw[e]at e';cases e';exact⟨e,f0,f1,f2,d⟩
theorem Inv.unpinned{σ:St}(I:Inv X (pins++pl) σ H s):Inv X pins σ H s:=I.pins_of λp hp=>I.pin p (Bk _ (Dn _ hp))
theorem Kn(hp:PassesOwn ⇑14 X.A X.env X.xe)(hc:X.calm=ah)(hi:PI X tg iter wi)(hg:PG X tg g)(hb:PSs X body tb)
  (hs:∀x,E5 iter X.env x=pure x:=by intro _;rfl):PS X (.For tg iter body [] pos) (gq wi g tb):=by
 sleep 16;refine wpAny_For (aP (hi pins s σ H _ I h) λv s1 h1=>aP h1 λitv s2 h2=>?_) hs;obtain⟨it,fp,tn,J,H2,e,I2,T,st2,f2,W,⟨m0,w0⟩,turn⟩:=h2;subst e
 have stat:∀{H':Hp},(∀b∈fp,H' b=af)->∀b∈fp,cZ X pins H' b:=λhn b hb=>⟨hn b hb,(f2 b hb).2⟩;refine codeAny_forLoop_any (λn s'=>∃i σ' H',Inv X pins σ' H' s'/\tn i s'.heap/\(∀b∈fp,H' b=af)/\W i n σ' H') ?_ m0 ⟨0,σ,H2,I2,st2,λb hb=>(f2 b hb).1,w0⟩
 rintro n s3 ⟨i,σ3,H3,I3,st3,fr3,w3⟩
 rcases turn i n σ3 H3 w3 with⟨stop,qn⟩|⟨go,N,hN,step⟩
 ·refine Ft hp (aP (T.done X rfl rfl rfl hc i pins s3 σ3 H3 X.xe I3 (stat fr3) st3 stop) λr s4 ⟨hr,I4⟩=>?_);subst hr;exact wpAny_execs_nil ⟨σ3,H3,I4,qn⟩
 ·refine Ft hp (aP (T.item X rfl rfl rfl hc i pins s3 σ3 H3 X.xe I3 (stat fr3) st3 go) λr s4 ⟨u,hr,h4⟩=>?_);subst hr;refine Ft hp (aP h4 λ_ s5 ⟨x,H5,I5,r5,y5,st5,fr5⟩=>?_);have I5':=I5.pinned (stat fr5) (T.obj _ _ st5);refine Ft hp (aP (hg _ s5 σ3 H5 x u _ I5' r5 (step x H5 y5)) λ_ s6 ⟨σ6,H6,I6,q6⟩=>?_);refine Ft hp (aP (hb _ s6 σ6 H6 _ I6 q6) λf s7 q7=>?_);have again:∀{σ7:St}{H7:Hp},Inv X (pins++mD fp s5.heap) σ7 H7 s7->N σ7 H7->∃m,m < n/\∃i σ' H',Inv X pins σ' H' s7/\tn i s7.heap/\(∀b∈fp,H' b=af)/\W i m σ' H':=λ{σ7 H7} I7 n7=>by
   obtain⟨m',hm,w7⟩:=hN σ7 H7 n7;refine⟨m',hm,i+1,σ7,H7,I7.unpinned,T.keep _ _ _ st5 λb hb o e=>(I7.pin (b,o) ⇑133).1,λb hb=>?_,w7⟩;obtain⟨o,e,d⟩:=T.obj _ _ st5 b hb;exact(I7.pin (b,o) ⇑133).2.1
  cases f with
  |next=>obtain⟨σ7,H7,I7,n7⟩:=q7;exact again I7 n7
  |cont=>obtain⟨σ7,H7,I7,n7⟩:=q7;exact again I7 n7
  |brk=>obtain⟨σ7,H7,I7,q7⟩:=q7;exact⟨σ7,H7,I7.unpinned,q7⟩
  |ret v=>obtain⟨x7,σ7,H7,I7,r7,q7⟩:=q7;exact⟨x7,σ7,H7,I7.unpinned,r7,q7⟩
end
abbrev R2:=V->V->Hp->VK->Prop
def OpR(X:Cx)(f:Ag->Ag->Sem Ag)(r:R2):Prop:=
 ∀(pins:List ⇑16)(s:Ak)(σ:St)(H:Hp)(x y:V)(v u:Ag)(Q:VK),Inv X pins σ H s->RelV x v->RelV y u->r x y H Q->
  A1 ⇑14 X.A (f v u) ⇑69 X.xe s
def xm(X:Cx)(f:Ag->Sem Ag)(r:V->Hp->VK->Prop):Prop:=
 ∀(pins:List ⇑16)(s:Ak)(σ:St)(H:Hp)(x:V)(v:Ag)(Q:VK),Inv X pins σ H s->RelV x v->r x H Q->
  A1 ⇑14 X.A (f v) ⇑69 X.xe s
def CallR(X:Cx)(f:Ag)(r:List V->Hp->VK->Prop):Prop:=
 ∀(pins:List ⇑16)(s:Ak)(σ:St)(H:Hp)(xs:List V)(us:List Ag)(Q:VK),Inv X pins σ H s->Vals xs us->r xs H Q->
  A1 ⇑14 X.A (call f us) ⇑69 X.xe s
def xc(X:Cx)(r:V->Hp->(Bool->Hp->Prop)->Prop):Prop:=
 ∀(pins:List ⇑16)(s:Ak)(σ:St)(H:Hp)(x:V)(v:Ag)(Q:Bool->Hp->Prop),Inv X pins σ H s->RelV x v->r x H Q->
  A1 ⇑14 X.A (truthy v) (TP X pins σ Q) X.xe s
def d3(r:R2)(ta tb:TE):TE:=λσ H Q=>ta σ H λx H1=>tb σ H1 λy H2=>r x y H2 Q
def DZ(r:V->Hp->VK->Prop)(ta:TE):TE:=λσ H Q=>ta σ H λx H1=>r x H1 Q
def rI(C:Int->Int->Prop)(g:Int->Int->V):R2:=λx y H Q=>∃i j,x=.int i/\y=.int j/\C i j/\Q (g i j) H
def fQ(g:Int->Int->V):R2:=λx y H Q=>∃i j,x=.int i/\y=.int j/\Q (g i j) H
def rU(g:Int->V):V->Hp->VK->Prop:=λx H Q=>∃i,x=.int i/\Q (g i) H
section
variable{X:Cx}{a b c:Expr}{ta tb tc:TE}{pos:Pos}
theorem kQ(ha:PE X a ta)(hb:PE X b tb){σ:St}{R:V->V->Hp->Prop}(I:Inv X pins σ H s)
  (h:ta σ H λx H1=>tb σ H1 λy H2=>R x y H2)  {f:Ag->Ag->Sem Ag}
  (hf:∀v u s2 x y H2,Inv X pins σ H2 s2->RelV x v->RelV y u->R x y H2->A1 ⇑14 X.A (f v u) Q X.xe s2):
  A1 ⇑14 X.A (eval a X.env) (λv s₁=>A1 ⇑14 X.A (eval b X.env) (λu s₂=>A1 ⇑14 X.A (f v u) Q X.xe s₂) X.xe s₁) X.xe s:=by
 refine aP ⇑77 λv s1 ⟨x,H1,I1,r1,q1⟩=>?_;refine aP (hb pins s1 σ H1 _ I1 q1) λu s2 ⟨y,H2,I2,r2,q2⟩=>?_;exact hf v u s2 x y H2 I2 r1 r2 q2
theorem eT(ho:OpR X (Fj op) r)(ha:PE X a ta)(hb:PE X b tb):PE X (.BinOp a op b pos) (d3 r ta tb):=by
 sleep 6;exact wpAny_BinOp (kQ ha hb I h λv u s2 x y H2 I2 rx ry q=>ho pins s2 σ H2 x y v u Q I2 rx ry q)
theorem OG(ho:xm X (unaryOp op) r)(ha:PE X a ta):PE X (.UnaryOp op a pos) (DZ r ta):=by
 sleep 6;exact UnaryOp_ (aP ⇑77 λv s1 ⟨x,H1,I1,r1,q1⟩=>ho pins s1 σ H1 x v Q I1 r1 q1)
theorem qv{g:Int->Int->Int}
  (rule:∀(i j:Int)(t u:Tok)(s:Ak)(Q:Ag->Ak->Prop)(E:Ag->Ak->Prop),C i j->Q (.int (g i j) s.toks) {s with toks:=s.toks+1}->A1 ⇑14 X.A (f (.int i t) (.int j u)) Q E s):
  OpR X f (rI C λi j=>.int (g i j)):=by
 sleep 8;obtain⟨i,j,rfl,rfl,hc,q⟩:=h;sleep 3;sleep 4;exact rule i j t t' s _ _ hc ⟨.int (g i j),H,I.tok _,⟨_,rfl⟩,q⟩
theorem pO{g:Int->Int->Int}
  (rule:∀(i j:Int)(t u:Tok)(s:Ak)(Q:Ag->Ak->Prop)(E:Ag->Ak->Prop),Q (.int (g i j) s.toks) {s with toks:=s.toks+1}->A1 ⇑14 X.A (f (.int i t) (.int j u)) Q E s):
  OpR X f (fQ λi j=>.int (g i j)):=by
 sleep 8;obtain⟨i,j,rfl,rfl,q⟩:=h;sleep 3;sleep 4;exact rule i j t t' s _ _ ⟨.int (g i j),H,I.tok _,⟨_,rfl⟩,q⟩
theorem jB{g:Int->Int->Bool}
  (rule:∀(i j:Int)(t u:Tok)(s:Ak)(Q:Ag->Ak->Prop)(E:Ag->Ak->Prop),Q (.bool (g i j)) s->A1 ⇑14 X.A (f (.int i t) (.int j u)) Q E s):
  OpR X f (fQ λi j=>.bl (g i j)):=by
 sleep 8;obtain⟨i,j,rfl,rfl,q⟩:=h;sleep 3;sleep 4;exact rule i j t t' s _ _ ⟨.bl (g i j),H,I,rfl,q⟩
def tY(i j:Int):Prop:=0 < j/\j < 1073741824
def xG(i j:Int):Prop:=0<=j/\j<=1000000/\i.natAbs < 2 ^ 64
def CMul(i j:Int):Prop:=(-(2 ^ 64) < i/\i < 2 ^ 64)\/(-(2 ^ 64) < j/\j < 2 ^ 64)
theorem CMul.ok(h:CMul i j):IntMulOk i j:=by
 rcases h with⟨h1,h2⟩|⟨h1,h2⟩
 ·exact .of_left (intBits_le_64 h1 h2)
 ·exact .of_right (intBits_le_64 h1 h2)
theorem op_add:OpR X (Fj .Add) (fQ λi j=>.int (i+j)):=pO λ_ _ _ _ _ _ _ q=>add_int q
theorem Rm:OpR X (Fj .Sub) (fQ λi j=>.int (i-j)):=pO λ_ _ _ _ _ _ _ q=>sub_int q
theorem m7:OpR X (Fj .Mult) (rI CMul λi j=>.int (i*j)):=qv λ_ _ _ _ _ _ _ hc q=>mul_int q hc.ok
theorem AA:OpR X (Fj .FloorDiv) (rI tY λi j=>.int (i / j)):=qv λi j _ _ _ _ _ hc q=>by
 have h1:(0:Int) < j:=hc.1;have h2:j < 1073741824:=hc.2;exact floordiv_int ⋯ (by rw[Int.fdiv_eq_ediv_of_nonneg i ⋯];exact q) (.inl (PyProof.noPylong_small ⋯))
theorem jq:OpR X (Fj .Mod) (rI (λ_ j=>0 < j) λi j=>.int (i % j)):=qv λi j _ _ _ _ _ hc q=>by
 have h1:(0:Int) < j:=hc;exact mod_int' ⋯ (by rw[Int.fmod_eq_emod_of_nonneg i ⋯];exact q)
theorem Lg:OpR X (Fj .Pow) (rI xG λi j=>.int (i ^ j.toNat)):=qv λ_ _ _ _ _ _ _ hc q=>pow_int_small hc.1 hc.2.1 hc.2.2 q
theorem Ms{g:Int->Int}
  (rule:∀(i:Int)(t:Tok)(s:Ak)(Q:Ag->Ak->Prop)(E:Ag->Ak->Prop),Q (.int (g i) s.toks) {s with toks:=s.toks+1}->A1 ⇑14 X.A (f (.int i t)) Q E s):
  xm X f (rU λi=>.int (g i)):=by
 intro pins s σ H x v Q I rx h;obtain⟨i,rfl,q⟩:=h;sleep 3;exact rule i t s _ _ ⟨.int (g i),H,I.tok _,⟨_,rfl⟩,q⟩
theorem Pa:xm X (unaryOp .USub) (rU λi=>.int (-i)):=Ms λ_ _ _ _ _ q=>neg_int q
end
def pL:V->V->Bool
 |.non,.non=>ah|.non,.int _=>ah|.int _,.non=>ah|.non,.bl _=>ah|.bl _,.non=>ah|.non,.str _=>ah|.str _,.non=>ah
 |.int _,.int _=>ah|.bl _,.bl _=>ah|.str _,.str _=>ah|.byt _,.byt _=>ah
 |.int _,.str _=>ah|.str _,.int _=>ah|.bl _,.str _=>ah|.str _,.bl _=>ah
 |_,_=>ai
def qJ:R2:=λx y H Q=>pL x y=ah/\Q (.bl (decide (x=y))) H
def FW:R2:=λx y H Q=>pL x y=ah/\Q (.bl (!decide (x=y))) H
theorem BO:decide (V.int i=V.int j)=(i==j):=by
 rw[Dx];simp
theorem yr:decide (V.bl i=V.bl j)=(i==j):=by
 rw[Dx];simp
theorem Il:decide (V.str i=V.str j)=(i==j):=by
 rw[Dx];simp
theorem zj:decide (V.byt i=V.byt j)=(i.toList==j.toList):=by
 rw[Dx];cases i;cases j;simp
section
variable{X:Cx}{a b c:Expr}{ta tb tc:TE}{pos:Pos}
theorem cQ{σ:St}(I:Inv X pins σ H s)(q:Q (.bl k) H)(e:k=k'):EP X pins σ Q (.bool k') s:=by
 subst e;exact⟨.bl k,H,I,rfl,q⟩
theorem op_eq:OpR X (B6 .Eq) qJ:=by
 sleep 8;obtain⟨hs,q⟩:=h;cases x with
 |non=>
  cases rx;cases y with
  |non=>cases ry;exact PySem.EqNone.eq_none_none ⇑39
  |bl j=>cases ry;exact PySem.EqNone.eq_none_bool ⇑39
  |int j=>sleep 4;exact PySem.EqNone.eq_none_int ⇑39
  |str j=>sleep 4;exact PySem.EqNone.eq_none_str ⇑39
  |_=>exact absurd ⇑78 Ai
 |bl i=>
  cases rx;cases y with
  |non=>cases ry;exact PySem.EqNone.eq_bool_none ⇑39
  |bl j=>cases ry;exact eq_bool (cQ I q yr)
  |str j=>sleep 4;exact PySem.EqMixed.eq_bool_str ⇑39
  |_=>exact absurd ⇑78 Ai
 |int i=>
  sleep 3;cases y with
  |non=>cases ry;exact PySem.EqNone.eq_int_none ⇑39
  |int j=>sleep 4;exact eq_int (cQ I q BO)
  |str j=>sleep 4;exact PySem.EqMixed.eq_int_str ⇑39
  |_=>exact absurd ⇑78 Ai
 |str i=>
  sleep 3;cases y with
  |non=>cases ry;exact PySem.EqNone.eq_str_none ⇑39
  |bl j=>cases ry;exact PySem.EqMixed.eq_str_bool ⇑39
  |int j=>sleep 4;exact PySem.EqMixed.eq_str_int ⇑39
  |str j=>sleep 4;exact eq_str (cQ I q Il)
  |_=>exact absurd ⇑78 Ai
 |byt i=>
  sleep 3;cases y with
  |byt j=>sleep 4;exact PySem.W.eq_bytes (cQ I q zj)
  |_=>exact absurd ⇑78 Ai
 |_=>cases y<;>exact absurd ⇑78 Ai
theorem PF:OpR X (B6 .NotEq) FW:=by
 sleep 8;obtain⟨hs,q⟩:=h;cases x with
 |non=>
  cases rx;cases y with
  |non=>cases ry;exact PySem.EqNone.ne_none_none ⇑39
  |bl j=>cases ry;exact PySem.EqNone.ne_none_bool ⇑39
  |int j=>sleep 4;exact PySem.EqNone.ne_none_int ⇑39
  |str j=>sleep 4;exact PySem.EqNone.ne_none_str ⇑39
  |_=>exact absurd ⇑78 Ai
 |bl i=>
  cases rx;cases y with
  |non=>cases ry;exact PySem.EqNone.ne_bool_none ⇑39
  |bl j=>cases ry;exact ne_bool (cQ I q (congrArg not yr))
  |str j=>sleep 4;exact PySem.EqMixed.ne_bool_str ⇑39
  |_=>exact absurd ⇑78 Ai
 |int i=>
  sleep 3;cases y with
  |non=>cases ry;exact PySem.EqNone.ne_int_none ⇑39
  |int j=>sleep 4;exact ne_int (cQ I q (congrArg not BO))
  |str j=>sleep 4;exact PySem.EqMixed.ne_int_str ⇑39
  |_=>exact absurd ⇑78 Ai
 |str i=>
  sleep 3;cases y with
  |non=>cases ry;exact PySem.EqNone.ne_str_none ⇑39
  |bl j=>cases ry;exact PySem.EqMixed.ne_str_bool ⇑39
  |int j=>sleep 4;exact PySem.EqMixed.ne_str_int ⇑39
  |str j=>sleep 4;exact ne_str (cQ I q (congrArg not Il))
  |_=>exact absurd ⇑78 Ai
 |byt i=>
  sleep 3;cases y with
  |byt j=>sleep 4;exact PySem.W.ne_bytes (cQ I q (congrArg not zj))
  |_=>exact absurd ⇑78 Ai
 |_=>cases y<;>exact absurd ⇑78 Ai
theorem op_lt:OpR X (B6 .Lt) (fQ λi j=>.bl (decide (i < j))):=jB λ_ _ _ _ _ _ _ q=>lt_int q
theorem op_le:OpR X (B6 .LtE) (fQ λi j=>.bl (decide (i<=j))):=jB λ_ _ _ _ _ _ _ q=>le_int q
theorem op_gt:OpR X (B6 .Gt) (fQ λi j=>.bl (decide (j < i))):=jB λ_ _ _ _ _ _ _ q=>gt_int q
theorem op_ge:OpR X (B6 .GtE) (fQ λi j=>.bl (decide (j<=i))):=jB λ_ _ _ _ _ _ _ q=>ge_int q
theorem NC:OpR X (B6 .Lt) (λx y H Q=>∃i j,x=.str i/\y=.str j/\Q (.bl (decide (i.cps.toList < j.cps.toList))) H):=by
 sleep 8;obtain⟨i,j,rfl,rfl,q⟩:=h;sleep 3;sleep 4;exact lt_str (cQ I q rfl)
theorem wz:OpR X (B6 .Is) (λx y H Q=>y=.non/\Q (.bl (decide (x=.non))) H):=by
 sleep 8;obtain⟨rfl,q⟩:=h;cases ry;refine is_none_gen (cQ I q ?_);cases x<;>first
  | (cases rx;rfl)
  | (obtain⟨t,rfl⟩:=rx;rfl)
theorem uW:OpR X (B6 .IsNot) (λx y H Q=>y=.non/\Q (.bl (!decide (x=.non))) H):=by
 sleep 8;obtain⟨rfl,q⟩:=h;cases ry;refine isnot_none_gen (cQ I q ?_);cases x<;>first
  | (cases rx;rfl)
  | (obtain⟨t,rfl⟩:=rx;rfl)
theorem OpR.or(h:OpR X f r)(h':OpR X f r'):OpR X f (λx y H Q=>r x y H Q\/r' x y H Q):=by
 intro pins s σ H x y v u Q I rx ry q;rcases q with q|q
 ·exact h pins s σ H x y v u Q I rx ry q
 ·exact h' pins s σ H x y v u Q I rx ry q
theorem kO(b)(h:op≠.In:=by decide)(h2:op≠.NotIn:=by decide):Ct op b=ai:=by
 have e1:(op==CmpOp.In)=ai:=by cases op<;>first|rfl|exact absurd rfl h
 have e2:(op==CmpOp.NotIn)=ai:=by cases op<;>first|rfl|exact absurd rfl h2
 cases b<;>simp[Ct,e1,e2]
theorem KH(ho:OpR X (B6 op) r)(ha:PE X a ta)(hb:PE X b tb)(hm:Ct op b=ai):PE X ⇑131 (d3 r ta tb):=by
 sleep 6;exact wpAny_Compare1 (kQ ha hb I h λv u s2 x y H2 I2 rx ry q=>ho pins s2 σ H2 x y v u Q I2 rx ry q) hm
def gP(t:TE):TT:=λσ H Q=>t σ H λx H'=>∃k,x=.bl k/\Q k H'
theorem kB(ho:OpR X (B6 op) r)(ha:PE X a ta)(hb:PE X b tb)(hm:Ct op b=ai):PT X ⇑131 (gP (d3 r ta tb)):=by
 intro pins s σ H Q I h;refine wpAny_isTrue_Compare1 (aP ⇑77 λv s1 ⟨x,H1,I1,r1,q1⟩=>aP (hb pins s1 σ H1 _ I1 q1) λu s2 ⟨y,H2,I2,r2,q2⟩=>
  aP (ho pins s2 σ H2 x y v u _ I2 r1 r2 q2) λc s3 ⟨z,H3,I3,r3,k,e,q3⟩=>?_) hm
 subst e;cases r3;exact Dk ⟨H3,I3,q3⟩
def xI(r r':R2)(ta tb tc:TE):TE:=λσ H Q=>ta σ H λx H1=>tb σ H1 λy H2=>r x y H2 λz H3=>∃k,z=.bl k /\
 (if k=ah then tc σ H3 λw' H4=>r' y w' H4 Q else Q (.bl ai) H3)
theorem K7(ho:OpR X (B6 op) r)(ho':OpR X (B6 op') r')(ha:PE X a ta)(hb:PE X b tb)(hc:PE X c tc)
  (hm:lastMarks [op,op'] [b,c]=ai:=by with_unfolding_all rfl):PE X (.Compare a [op,op'] [b,c] pos) (xI r r' ta tb tc):=by
 intro pins s σ H Q I h;refine Compare_chain (aP ⇑77 λv s1 ⟨x,H1,I1,r1,q1⟩=>chain_link (aP (hb pins s1 σ H1 _ I1 q1) λu s2 ⟨y,H2,I2,r2,q2⟩=>
  aP (ho pins s2 σ H2 x y v u _ I2 r1 r2 q2) λd s3 ⟨z,H3,I3,r3,k,e,q3⟩=>?_)) hm
 subst e;cases r3;refine Dk ?_;cases k with
 |false=>exact ite_ff ⟨.bl ai,H3,I3,rfl,q3⟩
 |true=>exact ite_tt (chain_last (aP (hc pins s3 σ H3 _ I3 q3) λw' s4 ⟨z',H4,I4,r4,q4⟩=>ho' pins s4 σ H4 y z' u w' Q I4 r2 r4 q4))
def lL(K:Ah)(x:V)(H:Hp)(k:Bool):Prop:=
 match x with
 |.non=>k=ai
 |.bl b=>k=b
 |.int i=>k=(i != 0)
 |.str y=>y.length<=Az/\k=((y.length:Int) != 0)
 |.byt y=>y.size<=Az/\k=((y.size:Int) != 0)
 |.ref p=>(∃xs,SqL K H p xs/\k=!xs.isEmpty)\/(∃xs,SqT K H p xs/\k=!xs.isEmpty)\/∃kvs,H p=ae (.dK kvs)/\k=!kvs.isEmpty
 |_=>False
theorem IF{vs:List (κ×Ag)}(r:KV kvs vs):(!vs.isEmpty)=!kvs.isEmpty:=by
 cases r<;>rfl
theorem AF(r:Vals xs its):(!its.toArray.isEmpty)=!xs.isEmpty:=by
 cases r<;>simp
theorem k9:(Az:Nat) < 2 ^ 63:=by rw[Fo];decide
theorem JY:xc X (λx H Q=>∃k,lL X.K x H k/\Q k H):=by
 intro pins s σ H x v Q I rx h;obtain⟨k,e,q⟩:=h;have hl:=k9;have hs:Az=16777216:=Fo;cases x with
 |non=>
  cases rx;have e':k=ai:=e;subst e';exact truthy_none ⟨H,I,q⟩
 |bl b=>
  cases rx;have e':k=b:=e;subst e';exact Dk ⟨H,I,q⟩
 |int i=>
  sleep 3;have e':k=(i != 0):=e;subst e';exact PySem.P.truthy_int ⟨H,I,q⟩
 |str y=>
  sleep 3;obtain⟨hy,e'⟩:y.length<=Az/\k=((y.length:Int) != 0):=e;subst e';exact PySem.P.truthy_str ⋯ ⟨H,I.tok _,q⟩
 |byt y=>
  sleep 3;obtain⟨hy,e'⟩:y.size<=Az/\k=((y.size:Int) != 0):=e;subst e';exact PySem.W.truthy_bytes ⋯ ⟨H,I.tok _,q⟩
 |ref p=>
  cases rx;have e':(∃xs,SqL X.K H p xs/\k=!xs.isEmpty)\/(∃xs,SqT X.K H p xs/\k=!xs.isEmpty)\/∃kvs,H p=ae (.dK kvs)/\k=!kvs.isEmpty:=e;rcases e' with⟨xs,hx,e'⟩|⟨xs,hx,e'⟩|⟨kvs,hx,e'⟩
  ·subst e';obtain⟨its,r,pl,hz⟩:=I.list hx;have hlen:=r.length;exact wpAny_truthy_list pl.isList (by simp only[A2];omega) ⟨H,I.tok _,by rw[AF r];exact q⟩
  ·subst e';obtain⟨its,r,pl,hz⟩:=I.tuple hx;have hlen:=r.length;exact truthy_tuple pl (by simp only[A2];omega) ⟨H,I.tok _,by rw[AF r];exact q⟩
  ·subst e';obtain⟨hz,hS,vs,r,m⟩:kvs.length<=Az/\(p==De)=ai/\∃vs,KV kvs vs/\s.heap.DictOf (fj X.prog X.w) p vs:=I.hok p _ hx;have hlen:kvs.length=vs.length:=D2 r;exact wpAny_truthy_dict hS m ⋯ ⟨H,I.tok _,by rw[IF r];exact q⟩
 |_=>exact(show False from e).elim
theorem NK(ha:PE X a ta)(he:∀whole,isTrue a X.env whole=(do let v <-whole;standAt a.pos;holding [v] (truthy v))):
  PT X a (λσ H Q=>ta σ H λx H'=>∃k,lL X.K x H' k/\Q k H'):=by
 sleep 6;exact isTrue_plain (aP ⇑77 λv s1 ⟨x,H1,I1,r1,q1⟩=>JY pins s1 σ H1 x v Q I1 r1 q1) (he _)
theorem op_add_str:OpR X (Fj .Add) (λx y H Q=>∃i j,x=.str i/\y=.str j/\i.length+j.length<=Az/\Q (.str (i++j)) H):=by
 sleep 8;obtain⟨i,j,rfl,rfl,hz,q⟩:=h;sleep 3;sleep 4;exact add_str (λt' tk=>⟨.str (i++j),H,I.tok _,⟨_,rfl⟩,q⟩) hz
theorem gU(r:Vals [x] us):∃u,us=[u]/\RelV x u:=by
 cases r with
 |cons r1 r2=>cases r2;exact⟨_,rfl,r1⟩
theorem DH(r:Vals [x,y] us):∃u w',us=[u,w']/\RelV x u/\RelV y w':=by
 cases r with
 |cons r1 r2=>
  cases r2 with
  |cons r3 r4=>cases r4;exact⟨_,_,rfl,r1,r3⟩
end
structure ObjM(h:Heap)(x dx C:Addr)(mA:Str->Option Ag):Prop where
 obj:h.get? x=ae (PySem.W.instObj C dx)
 ns:h.Ns1 dx mA
 ne:dx≠x
theorem Lv{h:Heap}(n:h.Ns1 dx mA):∃od,h.get? dx=ae od/\∀name,PySem.W.lookIn name od=ae (mA name):=by
 obtain⟨o,es,ep,ho,hd,hk,_,hm⟩:=n;refine⟨o,ho,λname=>?_⟩;have e:=hm name;unfold nsFind findBy at e;rw[<-Array.find?_toList]at e;unfold PySem.W.lookIn;rw[hd];dsimp only
 split
 ·rename_i y q;rw[q]at e;exact congrArg ae e
 ·rename_i q;rw[q]at e;have a:es.toList.any (·.refKey)=ai:=by
   rw[List.any_eq_false];intro y hy;obtain⟨z,t,hkey⟩:=hk y (Array.mem_toList_iff.mp hy);simp[DictEntry.refKey,hkey]
  have a':¬es.toList.any (·.refKey)=ah:=by rw[a];exact Ai
  rw[if_neg a'];exact congrArg ae e
theorem ObjM.look(I:ObjM h x dx C mA):∃od,PySem.W.InstAt h x (PySem.W.instObj C dx) C (ae od)/\∀name,PySem.W.lookIn name od=ae (mA name):=
 let⟨od,ho,hl⟩:=Lv I.ns
 ⟨od,⟨I.obj,rfl,rfl,ho⟩,hl⟩
theorem RelO.some_of(r:RelO (ae v) o):∃u,o=ae u/\RelV v u:=by
 cases o with
 |none=>exact(show False from r).elim
 |some u=>exact⟨u,rfl,r⟩
section
variable{P:Bh}{w:Bt}{H H':Hp}{h h':Heap}{a C dx:Addr}{fs fs':List (Str×V)}
theorem K1(hok:HOk P w H h)(e:H a=ae (.ins C dx fs)):∃mA,ObjM h a dx C mA/\(∀f,RelO (fs.lookup f) (mA f))/\PySem.Within mA (fs.map (·.1))/\fs.length<=1000/\H dx=ae (.own a):=by
 obtain⟨d,z,ne,ob,mA,n,r,q⟩:=(show ObjOk P w H h a (.ins C dx fs)from hok a _ e);exact⟨mA,⟨ob,n,ne⟩,r,q,z,d⟩
end
structure Cls(K:Ah)(C:Addr):Prop where
 pg:PySem.W.plainGet K C Str.empty=ah
 hd:PySem.W.hasDictIn K C=ah
 po:PySem.W.plainOver K C=ah
 sa:PySem.W.findIn K (.ref C) "__setattr__"=ae (ae (.builtin "object.__setattr__"))
theorem Cls.get{K:Ah}(c:Cls K C)(f):PySem.W.plainGet K C f=ah:=c.pg
section
variable{X:Cx}{pins:List ⇑16}{σ:St}{H:Hp}{s:Ak}{A:B1}{E:Ag->Ak->Prop}{Q:Ag->Ak->Prop}{c:Ag}{b:Bool}
inductive TyOf(K:Ah)(H:Hp):V->Ag->Prop where
 |non:TyOf K H .non (.type "NoneType")
 |bl (x:Bool):TyOf K H (.bl x) (.type "bool")
 |int (i:Int):TyOf K H (.int i) (.type "int")
 |str (x:Str):TyOf K H (.str x) (.type "str")
 |flt (x:UInt64):TyOf K H (.flt x) (.type "float")
 |lst {a:Addr} {xs:List V} (e:H a=ae (.lst xs)):TyOf K H (.ref a) (.type "list")
 |frz {a:Addr} {o:Obj} {xs:List V} (e:H a=ae (.frz o (.lst xs))):TyOf K H (.ref a) (.type "list")
 |tup {a:Addr} {xs:List V} (e:H a=ae (.tup xs)):TyOf K H (.ref a) (.type "tuple")
 |dK {a:Addr} {kvs:List (aH×V)} (e:H a=ae (.dK kvs)):TyOf K H (.ref a) (.type "dict")
 |dT {a:Addr} {kvs:List (List aH×V)} (e:H a=ae (.dT kvs)):TyOf K H (.ref a) (.type "dict")
 |ins {a C dx:Addr} {fs:List (Str×V)} (e:H a=ae (.ins C dx fs)) (cl:Cls K C) (ha:PySem.W.findIn K (.ref C) "__class__"=ae (ae (.builtin "object.__class__")))
   (hn:PySem.W.specialIn K (.builtin "object.__class__") "__get__"=ae (ae (.builtin "getset_descriptor.__get__"))) (htk:PySem.W.takesIn K (.builtin "object.__class__")=ae ah)
   (hm:PySem.W.mroIn K C (.type "object")=ae ah):TyOf K H (.ref a) (.ref C)
theorem PB(I:Inv X pins σ H s)(rx:RelV x u)(ty:TyOf X.K H x t)(e:PySem.W.kitOne X.K t c=ae b)(h:∀tk,Q (.bool b) {s with toks:=tk}):
  A1 ⇑14 A (call (.builtin "isinstance") [u,c]) Q E s:=by
 cases ty with
 |non=>cases(show u=Bi from rx);exact Dg PySem.W.kitx_none I.kIn Ec e ⇑61 h
 |bl y=>cases(show u=Value.bool y from rx);exact Dg PySem.W.kitx_bool I.kIn Ec e ⇑61 h
 |int i=>obtain⟨t,q⟩:=(show ∃t,u=Value.int i t from rx);cases q;exact Dg PySem.W.kitx_int I.kIn Ec e ⇑61 h
 |str y=>obtain⟨t,q⟩:=(show ∃t,u=Value.str y t from rx);cases q;exact Dg PySem.W.kitx_str I.kIn Ec e ⇑61 h
 |flt y=>obtain⟨t,q⟩:=(show ∃t,u=Value.float y t from rx);cases q;exact Dg PySem.W.kitx_float I.kIn Ec e ⇑61 h
 |@lst a xs ea=>
  cases(show u=A4 a from rx);obtain⟨_,_,n,_,h1⟩:=(show ObjOk X.prog X.w H s.heap a (.lst xs)from I.hok a _ ea);exact Dg PySem.W.kitx_list I.kIn ⟨_,h1,rfl⟩ e ⇑61 h
 |@frz a ob xs ea=>
  cases(show u=A4 a from rx);obtain⟨_,_,_,n,_,h1⟩:=(show ObjOk X.prog X.w H s.heap a (.frz ob (.lst xs))from I.hok a _ ea);exact Dg PySem.W.kitx_list I.kIn ⟨_,h1,rfl⟩ e ⇑61 h
 |@tup a xs ea=>
  cases(show u=A4 a from rx);obtain⟨_,_,_,p⟩:=(show ObjOk X.prog X.w H s.heap a (.tup xs)from I.hok a _ ea);obtain⟨o,h1,h2,_⟩:=p;exact Dg PySem.W.kitx_tuple I.kIn ⟨o,h1,h2⟩ e ⇑61 h
 |@dK a kvs ea=>
  cases(show u=A4 a from rx);obtain⟨_,_,vs,_,p⟩:=(show ObjOk X.prog X.w H s.heap a (.dK kvs)from I.hok a _ ea);obtain⟨o,es,ep,h1,h2,_⟩:=p;exact Dg PySem.W.kitx_dict I.kIn ⟨o,h1,h2.1⟩ e ⇑61 h
 |@dT a kvs ea=>
  cases(show u=A4 a from rx);obtain⟨_,_,xs,_,o,es,ep,h1,h2,_⟩:=(show ObjOk X.prog X.w H s.heap a (.dT kvs)from I.hok a _ ea);exact Dg PySem.W.kitx_dict I.kIn ⟨o,h1,h2.1⟩ e ⇑61 h
 |@ins a C dx fs ea cl ha hn htk hm=>
  cases(show u=A4 a from rx);obtain⟨mA,O,_⟩:=K1 I.hok ea;obtain⟨od,J,_⟩:=O.look;exact Dg (PySem.W.kitx_own (cl.get _) cl.hd ha hn htk hm) I.kIn J e ⇑61 h
end
structure Room(k:Nat)(A:B1):Prop where
 hd:A.handled=af
 dp:A.depth+3*k+5 < recursionLimit
 un:A.units+16*k+200 < Du
 gd:A.guards=ae []
theorem Room.mono(r:Room k A)(h:j<=k):Room j A:=⟨r.hd,by have:=r.dp;omega,by have:=r.un;omega,r.gd⟩
theorem Room.deeper(r:Room (k+1) A)(env):Room k (A.deeper env):=
 ⟨r.hd,by have:=r.dp;show A.depth+1+3*k+5 < _;omega,by have:=r.un;show A.units+3+16*k+200 < _;omega,r.gd⟩
theorem Room.depth(r:Room k A):A.depth < recursionLimit:=by have:=r.dp;omega
theorem Room.units(r:Room k A):A.units+64 < Du:=by have:=r.un;omega
theorem Room.units0(r:Room k A):A.units < Du:=by have:=r.un;omega
def bq:TA:=λ_ H Q=>Q [] H
def bU(ta:TE)(tr:TA):TA:=λσ H Q=>ta σ H λx H1=>tr σ H1 λxs H2=>Q (x::xs) H2
section
variable{X:Cx}{e:Expr}{es:List Expr}{te:TE}{t:TA}{pos:Pos}
theorem fh:PA X [] bq:=λ_ _ _ _ H Q I h=>Calls.spliced_nil ⟨[],H,I,.nil,h⟩
theorem cR(ha:PE X e te)(hr:PA X es t)(hs:Av (e::es) X.env=⇑33::Av es X.env:=by rfl):PA X (e::es) (bU te t):=by
 intro pos pins s σ H Q I h;rw[hs];show A1 _ _ (spliced (⇑33::C8 pos ⇑43)) _ _ s;refine Calls.spliced_cons (aP ⇑77 λu s1 ⟨x,H1,I1,r1,q1⟩=>?_);exact aP (hr pos pins s1 σ H1 _ I1 q1) λus s2 ⟨xs,H2,I2,r2,q2⟩=>⟨x::xs,H2,I2,.cons r1 r2,q2⟩
def lY(t:TA):TE:=λσ H Q=>t σ H λxs H1=>xs.length<=Az/\∀p,H1 p=af->Q (.ref p) (upd H1 p (.tup xs))
def jw(t:TA):TE:=λσ H Q=>t σ H λxs H1=>xs.length<=Az/\∀p,H1 p=af->Q (.ref p) (upd H1 p (.lst xs))
theorem Um{x1}(h:PA X es t):PE X (.Tuple es x1 pos) (lY t):=by
 intro pins s σ H Q I hq;refine wpAny_Tuple_spliced (aP (h pos pins s σ H _ I hq) λus s1 ⟨xs,H1,I1,r,z,q⟩=>⟨by rw[<-r.length];exact z,?_⟩);have hf:H1 s1.heap.objs.size=af:=I1.hok.fresh (Aq _);refine⟨.ref s1.heap.objs.size,upd H1 s1.heap.objs.size (.tup xs),I1.laid (t':=s1.toks) (λb u e=>Af _ e) (Aq _) ?_,rfl,q _ hf⟩;exact⟨z,us,r,IsTupP.new _ _⟩
theorem sr(h:PA X es t):PE X (.List es pos) (jw t):=by
 intro pins s σ H Q I hq;refine wpAny_List_spliced (aP (h pos pins s σ H _ I hq) λus s1 ⟨xs,H1,I1,r,z,q⟩=>⟨by rw[<-r.length];exact z,?_⟩);have hf:H1 s1.heap.objs.size=af:=I1.hok.fresh (Aq _);refine⟨.ref s1.heap.objs.size,upd H1 s1.heap.objs.size (.lst xs),I1.laid (t':=s1.toks) (λb u e=>Af _ e) (Aq _) ?_,rfl,q _ hf⟩;exact⟨z,us,0,r,Aw _ rfl⟩
end
abbrev Sp:=List V->Hp->VK->XK->Prop
abbrev iU:=List Env->Hp->Ak->XK->Ag->Ak->Prop
structure Env0(P:Bh)(w:Bt)(K:Ah)(mg:Str->Option Ag)(base:Heap)(A:B1)(outer:List Env)(s:Ak)(H:Hp):Prop where
 frames:A.frames=ae outer
 mod:Mod K mg base
 bs:∀b o,base.get? b=ae o->s.heap.get? b=ae o/\H b=af
 bsz:base.objs.size<=s.heap.objs.size
 funs:s.heap.FunFrames base outer
 frf:∀b∈iw outer,H b=af
 hok:HOk P w H s.heap
 bare:AllBare s.gens
def CE(outer:List Env)(P:Bh)(w:Bt)(H:Hp)(s:Ak)(Q:VK)(u:Ag)(s':Ak):Prop:=
 ∃v H',s'.os=s.os/\AllBare s'.gens/\Un (iw outer) [] H H' s.heap s'.heap/\HOk P w H' s'.heap/\RelV v u/\Q v H'
def CR(CX:iU)(outer:List Env)(P:Bh)(w:Bt)(H:Hp)(s:Ak)(Q:VK)(E:XK)(r:Result)(s':Ak):Prop:=
 match r with
 |.ok (.ret u)=>CE outer P w H s Q u s'
 |.ok _=>False
 |.error e=>CX outer H s E e s'
structure FnOk(P:Bh)(w:Bt)(K:Ah)(mg:Str->Option Ag)(base:Heap)(CX:iU)(k:Nat)(f:Addr)(fd:Cg)(ps:List Str)(sp:Sp):Prop where
 len:∀vs H Q E,sp vs H Q E->vs.length=ps.length
 run:∀(A:B1)(outer:List Env)(s:Ak)(H:Hp)(args:Args)(us:List Ag)(vs:List V)(Q:VK)(E:XK),Room k A->Env0 P w K mg base A outer s H->BindsTo s fd args (ps.zip us)->Vals vs us->sp vs H Q E->
  F2 (Be P w) A (.call (.ref f) args) (CR CX outer P w H s Q E) s
theorem FnOk.imp{K:Ah}(F:FnOk P w K mg base CX k f fd ps sp)
  (h:∀vs H Q E,sp' vs H Q E->sp vs H Q E):FnOk P w K mg base CX k f fd ps sp':=
 ⟨λvs H Q E q=>F.len vs H Q E (h _ _ _ _ q),λA outer s H args us vs Q E hr he hb hv hs=>F.run A outer s H args us vs Q E hr he hb hv (h _ _ _ _ hs)⟩
section
variable{X:Cx}{pins:List ⇑16}{σ:St}{H:Hp}{s s':Ak}
theorem Inv.env0(I:Inv X pins σ H s):Env0 X.prog X.w X.K X.mg X.base X.A X.stack s H:=
 ⟨I.ok.frames,I.ok.mod,I.bs,Bj I.ok.bsz I.sz,I.stack,I.stkFree,I.hok,I.bare⟩
theorem Inv.after(I:Inv X pins σ H s)(h:CE X.stack X.prog X.w H s Q u s'):EP X pins σ Q u s':=by
 obtain⟨v,H',os,bare,un,hok,r,q⟩:=h;obtain⟨hh,g,d,t,os'⟩:=s';obtain rfl:os'=s.os:=os;exact⟨v,H',I.call (h':=hh) (g':=g) (d':=d) (t':=t) (ch:=[]) un hok bare (λb z=>absurd z (by simp)),r,q⟩
end
def fU(sp:Sp)(dvs:List V)(E:XK)(t:TA):TE:=λσ H Q=>t σ H λvs H1=>sp (vs++dvs) H1 Q E
def Binds(K:Ah)(fd:Cg)(ps:List Str)(ds:List Ag):Prop:=
 ∀(s:Ak)(us:List Ag),K.In s.heap->(us++ds).length=ps.length->BindsTo s fd ⟨us,[]⟩ (ps.zip (us++ds))
theorem Binds.all{K:Ah}(h:∀us:List Ag,us.length=ps.length->bindArgs fd ⟨us,[]⟩=pure (ps.zip us)):Binds K fd ps []:=λs us _ hl=>by
 rw[Bp]at hl ⊢;exact .of_eq (h us hl)
def uO(CX:iU)(X:Cx)(E:XK):Prop:=∀(pins:List ⇑16)(σ:St)(H:Hp)(s:Ak)(e:Ag)(s':Ak),Inv X pins σ H s->CX X.stack H s E e s'->X.xe e s'
section
variable{X:Cx}{CX:iU}{k:Nat}{f C:Addr}{fd:Cg}{ps:List Str}{sp:Sp}{dvs:List V}{ds:List Ag}{E:XK}{x m:Str}{p pos apos:Pos}{e o:Expr}{es:List Expr}{ta:TE}{t:TA}
theorem RJ{σ:St}(F:FnOk X.prog X.w X.K X.mg X.base CX k f fd ps sp)(hr:Room k X.A)(hb:Binds X.K fd ps ds)(hd:Vals dvs ds)(hx:uO CX X E)
  (I:Inv X pins σ H s) (r:Vals vs us) (h:sp (vs++dvs) H Q E):A1 ⇑14 X.A (call (.ref f) us) ⇑69 X.xe s:=by
 have r2:Vals (vs++dvs) (us++ds):=r.append hd;have hl:(us++ds).length=ps.length:=by rw[<-r2.length];exact F.len _ _ _ _ h
 refine wpAny_call (codeAny_mono (F.run X.A X.stack s H ⟨us,[]⟩ (us++ds) (vs++dvs) Q E hr I.env0 (hb s us I.kIn hl) r2 h) λr s' hq=>?_);cases r with
 |error e=>exact hx pins σ H s e s' I hq
 |ok fl=>
  cases fl with
  |ret u=>exact I.after hq
  |next=>exact False.elim hq
  |brk=>exact False.elim hq
  |cont=>exact False.elim hq
theorem m9(F:FnOk X.prog X.w X.K X.mg X.base CX k f fd ps sp)(hr:Room k X.A)(hg:Gl X x)(hm:X.mg x=ae (.ref f))(hk:Cw X.K (.ref f)=ah)(hb:Binds X.K fd ps ds)(hd:Vals dvs ds)(hx:uO CX X E)
  (ha:PA X (e::es) t) (hdb:⇑21=ai:=by decide) (he:Av (e::es) X.env=⇑33::Av es X.env:=by rfl) (hpl:(C8 pos ⇑43).any (·.1)=ai:=by rfl):
  PE X ⇑62 (fU sp dvs E t):=by
 sleep 6;refine Gr (FT I hg hm ?_ hdb);refine PySem.W.callWith_K (h₀:=X.base) I.ok.mod.kin hk (aP ⇑132 λus s1 ⟨vs,H1,I1,r,q⟩=>⟨I1.kIn,?_⟩) he hpl;exact RJ F hr hb hd hx I1 r q
end
structure FnScope(N P:List Str)(sc:Fp):Prop where
 kind:sc.kind=.function
 co:sc.isCoroutine=ai
 gen:sc.isGenerator=ai
 nd:N.Nodup
 pre:N.take P.length=P
 par:∀x∈P,sc.names.lookup x=ae .local\/sc.names.lookup x=ae .cell
 nofree:∀y∈sc.names,y.2≠.free
theorem zv{kindOf:Str->Option NameKind}:∀{binds:List (Str×Ag)}{m:Str->Option Ag},(∀v,(x,v)∉binds)->bindL kindOf binds m x=m x
 |[],_,_=>rfl
 | (n,v)::r,m,h=>by
  unfold bindL;rw[zv λw hw=>h w (Ap _ hw)]
  split
  ·have:x≠n:=by rintro rfl;exact h v Au
   simp[this]
  ·rfl
theorem zp{kindOf:Str->Option NameKind}:∀{binds:List (Str×Ag)}{m:Str->Option Ag},(∀v,(x,v)∉binds)->bindC kindOf binds m x=m x
 |[],_,_=>rfl
 | (n,v)::r,m,h=>by
  unfold bindC;rw[zp λw hw=>h w (Ap _ hw)]
  split
  ·rfl
  ·have:x≠n:=by rintro rfl;exact h v Au
   simp[this]
theorem FL{kindOf:Str->Option NameKind}:∀{P:List Str}{vs:List Ag}{i:Nat}{m:Str->Option Ag},P.Nodup->P[i]?=ae x->vs[i]?=ae v->kindOf x=ae .local->
  bindL kindOf (P.zip vs) m x=ae v
 |[],_,_,_,_,h,_,_=>by simp at h
 |_::_,[],_,_,_,_,h,_=>by simp at h
 |p::P,w::vs,0,m,nd,h1,h2,hk=>by
  simp at h1 h2;subst h1;subst h2;show bindL kindOf ((p,w)::P.zip vs) m p=_;unfold bindL;rw[zv λv hv=>(Ee.mp nd).1 (Gg hv).1,if_pos hk];simp
 |p::P,w::vs,i+1,m,nd,h1,h2,hk=>by
  show bindL kindOf ((p,w)::P.zip vs) m x=_;unfold bindL;exact FL (i:=i) (Ee.mp nd).2 (by simpa using h1) (by simpa using h2) hk
theorem HM{kindOf:Str->Option NameKind}:∀{P:List Str}{vs:List Ag}{i:Nat}{m:Str->Option Ag},P.Nodup->P[i]?=ae x->vs[i]?=ae v->kindOf x≠ae .local->
  bindC kindOf (P.zip vs) m x=ae v
 |[],_,_,_,_,h,_,_=>by simp at h
 |_::_,[],_,_,_,_,h,_=>by simp at h
 |p::P,w::vs,0,m,nd,h1,h2,hk=>by
  simp at h1 h2;subst h1;subst h2;show bindC kindOf ((p,w)::P.zip vs) m p=_;unfold bindC;rw[zp λv hv=>(Ee.mp nd).1 (Gg hv).1,if_neg hk];simp
 |p::P,w::vs,i+1,m,nd,h1,h2,hk=>by
  show bindC kindOf ((p,w)::P.zip vs) m x=_;unfold bindC;exact HM (i:=i) (Ee.mp nd).2 (by simpa using h1) (by simpa using h2) hk
def start(N:List Str)(vs:List V):St:=vs.map ae++Dj (N.length-vs.length) af
def cO(CX:iU)(P:Bh)(w:Bt)(K:Ah)(mg:Str->Option Ag)(base:Heap)(N:List Str)(qual:Str)(scope:Fp)(f:Addr)(cd:Ag)(A:B1)(outer:List Env)(s:Ak)(H:Hp)(E:XK):Cx where
 prog:=P
 w:=w
 K:=K
 mg:=mg
 base:=base
 A:=A.deeper (envOfC qual scope s.heap.objs.size f cd)
 N:=N
 s₀:=s
 H₀:=H
 env:=envOfC qual scope s.heap.objs.size f cd
 outer:=outer
 stack:=envOfC qual scope s.heap.objs.size f cd::outer
 ex:=[]
 calm:=ah
 fn:=λ_=>ah
 pn:=[]
 xe:=λe s'=>A1 (Be P w) (A.deeper (envOfC qual scope s.heap.objs.size f cd)) (leaving (envOfC qual scope s.heap.objs.size f cd) e) (λ_ s''=>CX outer H s E e s'') (λe' s''=>CX outer H s E e' s'') s'
theorem CH{sc:Fp}(h:sc.names.lookup x=ae .cell):∃c,(cellsFrom n sc.names []).lookup x=ae c:=by
 have q:=PySem.W.cellsFrom_some sc.names n [] (.inl h);exact D3.mp q
theorem Ow{K:Ah}
  (S:FnScope N ps scope) (hd:A.handled=af) (e0:Env0 P w K mg base A outer s H) (hl:vs.length=ps.length) (r:Vals vs us)
  (x:InCallC s s.heap.objs.size (bindL (envOfC qual scope s.heap.objs.size f cd).kindOf (ps.zip us) λ_=>af) (cellsFrom (s.heap.objs.size+1) scope.names []) (bindC (envOfC qual scope s.heap.objs.size f cd).kindOf (ps.zip us) λ_=>af) s1):
  Inv (cO CX P w K mg base N qual scope f cd A outer s H E) [] (start N vs) H s1:=by
 have hpl:ps.length<=N.length:=by have:=congrArg D8 S.pre;rw[E7]at this;omega
 obtain⟨h1,tk,rfl,hk⟩:=x.done;have noA:∀b:Addr,b∉(cO CX P w K mg base N qual scope f cd A outer s H E).ex:=λb z=>absurd (show b∈([]:List Addr)from z) (by simp);refine⟨⟨e0.mod,S.kind,rfl,rfl,Aq _,λy z c h1 h2=>?_,λy hy=>?_,λy c _ h=>?_,λ_=>hd,Around.frames_deeper e0.frames,.inr ⟨rfl,rfl⟩,λb z=>absurd z (noA b),e0.bs,e0.bsz,λb _ _=>noA b,λb z=>absurd z (noA b),e0.funs,e0.frf⟩,
  rfl,e0.bare,Un.kept hk,⟨_,x.toInCall.ns,λi y v h1 h2 h3=>?_⟩,λy c h=>⟨_,x.cell y c h⟩,e0.hok.fresh (Aq _),λy c h=>?_,λp hp=>absurd (show p∈([]:List ⇑16)from hp) (by simp),e0.hok.kept hk,?_⟩
 ·exact name_of_addr x.apart (F6 h1) (F6 h2)
 ·have hy:scope.names.lookup y=ae .cell\/scope.names.lookup y=ae .free:=hy;rcases hy with hy|hy
  ·exact CH hy
  ·exact absurd rfl (S.nofree _ (F6 hy))
 ·exact Gt (x.above y c (F6 h))
 ·have hi:i < vs.length:=by
   unfold start at h2;by_cases hi:i < vs.length
   ·exact hi
   ·rw[List.getElem?_append_right (by simpa using hi)]at h2;rw[E8]at h2
    split at h2<;>cases h2
  have ha:vs[i]?=ae v:=by
   unfold start at h2;rw[Et (by simpa using hi),Am]at h2;cases e:vs[i]? with
   |none=>rw[e]at h2;cases h2
   |some a=>rw[e]at h2;cases h2;rfl
  obtain⟨u,hu,rv⟩:=r.get ha;have hp:ps[i]?=ae y:=by
   rw[<-S.pre,List.getElem?_take_of_lt ⋯];exact h1
  have ndP:ps.Nodup:=by rw[<-S.pre];exact S.nd.sublist (List.take_sublist _ _)
  refine⟨u,rv,?_⟩;rcases S.par y (A0 hp)with k|k
  ·exact .inl ⟨k,FL ndP hp hu k⟩
  ·obtain⟨c,e⟩:=CH (n:=s.heap.objs.size+1) k;refine .inr ⟨.inl k,c,e,?_⟩;have q:=x.cell y c e;rw[HM ndP hp hu (by show scope.names.lookup y≠_;rw[k];decide)]at q;exact q
 ·exact e0.hok.fresh (Gt (x.above y c (F6 h)))
 ·unfold start;show _=N.length;rw[An,Aa,List.length_replicate];omega
theorem Pt{K:Ah}{dV kV doc pm cdv ct oc:Ag}
     (lk:K.lookup f=ae ⟨oc,od,.func (Fu name qual params body scope dV kV doc pm an cdv ct),osl⟩) (hcd:PySem.W.codeIn K cdv qual=ah) (S:FnScope N ps scope)
  (len:∀vs H Q E,sp vs H Q E->vs.length=ps.length)
  (hbody:∀(A:B1)(outer:List Env)(s:Ak)(H:Hp)(vs:List V)(Q:VK)(E:XK),Room k (A.deeper (envOfC qual scope s.heap.objs.size f cdv))->sp vs H Q E->
   ∃t,PSs (cO CX P w K mg base N qual scope f cdv A outer s H E) body t/\t {nx:=λ_ H'=>Q .non H',rt:=Q} (start N vs) H):
  FnOk P w K mg base CX (k+1) f (Fu name qual params body scope dV kV doc pm an cdv ct) ps sp:=by
 refine⟨len,λA outer s H args us vs Q E hr e0 hb r hsp=>?_⟩;have hl:=len _ _ _ _ hsp;have KX:K.In s.heap:=e0.mod.kin.keeps λb o e=>(e0.bs b o e).1;have lim:s.heap.NoLimit:=e0.mod.nolimit.keeps λb o e=>(e0.bs b o e).1;have hkind:∀y∈ps.zip us,scope.names.lookup y.1=ae .local\/(scope.names.lookup y.1=ae .cell/\((cellsFrom (s.heap.objs.size+1) scope.names []).lookup y.1).isSome=ah):=λ⟨n,v⟩ hy=>by
  rcases S.par n (Gg hy).1 with q|q
  ·exact .inl q
  ·exact .inr ⟨q,PySem.W.cellsFrom_some _ _ _ (.inl q)⟩
 refine codeAny_call_function hr.depth (KX _ _ lk) rfl S.co S.gen rfl (PySem.W.codeRec_of KX hcd) (hb _ _ _ _ ?_);refine wpAny_newFunctionEnv_cells S.kind hkind λenv he s1 x=>?_;subst he;refine⟨lim.keeps x.toInCall.keep,codeAny_func ?_⟩;obtain⟨t,ht,hq⟩:=hbody A outer s H vs Q E (hr.deeper _) hsp;have I:Inv (cO CX P w K mg base N qual scope f cdv A outer s H E) [] (start N vs) H s1:=Ow S hr.hd e0 hl r x;refine Dr (ht [] s1 (start N vs) H _ I hq) (λfl s' hs=>?_) λe s' hs=>hs;have fin:∀{σ':St}{H':Hp}{v:V}{u:Ag},Inv (cO CX P w K mg base N qual scope f cdv A outer s H E) [] σ' H' s'->RelV v u->Q v H'->CE outer P w H s Q u s':=
  λ{σ' H' v u} J rv q=>⟨v,H',J.os,J.bare,J.base,J.hok,rv,q⟩
 cases fl with
 |ret u=>
  obtain⟨v,σ',H',J,rv,q⟩:=hs;exact fin J rv q
 |next=>
  obtain⟨σ',H',J,q⟩:=hs;exact fin (v:=V.non) (u:=Bi) J rfl q
 |brk=>
  obtain⟨_,_,_,q⟩:=hs;exact False.elim q
 |cont=>
  obtain⟨_,_,_,q⟩:=hs;exact False.elim q
section
variable{X:Cx}{x:Str}{p pos:Pos}{e:Expr}{es:List Expr}{t:TA}{id T:String}{r:List V->Hp->VK->Prop}
def fZ(r:List V->Hp->VK->Prop)(t:TA):TE:=λσ H Q=>t σ H λvs H1=>r vs H1 Q
theorem kE(hc:CallR X ⇑88 r)(hg:Gl X x)(hm:X.mg x=af)(hv:Bv x=ae ⇑88)(ha:PA X (e::es) t)(hn:x≠"__name__":=by decide)(hdb:⇑21=ai:=by decide)
  (he:Av (e::es) X.env=⇑33::Av es X.env:=by rfl) (hpl:(C8 pos ⇑43).any (·.1)=ai:=by rfl):PE X ⇑62 (fZ r t):=by
 sleep 6;refine Gr (kH I hg hm hv ?_ hn hdb);exact PyProof.Rows.callWith_builtin1 (aP ⇑132 λus s1 ⟨vs,H1,I1,r1,q1⟩=>hc pins s1 σ H1 vs us Q I1 r1 q1) he hpl
theorem om(hc:CallR X (.type T) r)(hg:Gl X x)(hm:X.mg x=af)(hv:Bv x=ae (.type T))(ha:PA X (e::es) t)(hn:x≠"__name__":=by decide)(hdb:⇑21=ai:=by decide)
  (he:Av (e::es) X.env=⇑33::Av es X.env:=by rfl) (hpl:(C8 pos ⇑43).any (·.1)=ai:=by rfl):PE X ⇑62 (fZ r t):=by
 sleep 6;refine Gr (kH I hg hm hv ?_ hn hdb);exact Dh (aP ⇑132 λus s1 ⟨vs,H1,I1,r1,q1⟩=>hc pins s1 σ H1 vs us Q I1 r1 q1) he hpl
end
end L2
namespace HT
open PySem PyProof.Rows
section
variable{prog:Bh}{w:Bt}{A:B1}{E:Ag->Ak->Prop}{s:Ak}
theorem cat_tup(ht:IsTup s.heap t vs.toArray)(hb:IsTup s.heap b ws.toArray)(hv:vs≠[])
  (h1:ws=[]->Q (.ref t) s) (h2:ws≠[]->Q ⇑35 {s with heap:=s.heap.push {cls:=.type "tuple",data:=.seq (vs++ws).toArray}})
  (hsz:vs.length+ws.length<=Az):A1 ⇑13 A (Fj .Add (.ref t) (.ref b)) Q E s:=by
 obtain⟨⟨cls,dd,data,sl⟩,ho,hc,n,hd⟩:=id ht;obtain⟨⟨cls2,dd2,data2,sl2⟩,ho2,hc2,n2,hd2⟩:=id hb;simp only at hc hd hc2 hd2;subst hc hd hc2 hd2;have e:vs.toArray++ws.toArray=(vs++ws).toArray:=by simp
 by_cases hw:ws=[]
 ·exact concat_meets ⟨_,ho,rfl⟩ ⟨_,ho2,rfl⟩ noFill_tuple_add seq_tuple_add Gh Ge (F7 _ _)
   (tuple_addW1 t b vs.toArray ws.toArray n n2 dd dd2 sl sl2 (by simpa using hv) (by simp[hw])) ⟨ho,ho2,h1 hw⟩
 ·refine concat_meets ⟨_,ho,rfl⟩ ⟨_,ho2,rfl⟩ noFill_tuple_add seq_tuple_add Gh Ge (F7 _ _)
   (tuple_addW2 t b vs.toArray ws.toArray n n2 dd dd2 sl sl2 (by simpa using hv) (by simpa using hw) (by rw[A2,A2];exact hsz)) ⟨ho,ho2,?_⟩
  rw[e];exact h2 hw
def sIx(n d:Nat):Option Int->Nat
 |none=>d
 |some v=>if v < 0 then(v+(n:Int)).toNat else min v.toNat n
theorem sIx_none(n d):sIx n d af=d:=rfl
theorem sIx_nat(n d k:Nat):sIx n d (ae (k:Int))=min k n:=by
 show(if (k:Int) < 0 then((k:Int)+(n:Int)).toNat else min (k:Int).toNat n)=min k n;rw[if_neg ⋯,Br]
theorem M5(n d)(hd:d<=n)(o):sIx n d o<=n:=by
 cases o with
 |none=>exact hd
 |some v=>
  show(if v < 0 then(v+(n:Int)).toNat else min v.toNat n)<=n;by_cases hv:v < 0
  ·rw[if_pos hv];omega
  ·rw[if_neg hv];exact Nat.min_le_right _ _
theorem Ii(v)(n d:Nat):(if v < 0 then max (v+(n:Int)) 0 else min v (n:Int))=((sIx n d (ae v):Nat):Int):=by
 show(if v < 0 then max (v+(n:Int)) 0 else min v (n:Int))=(((if v < 0 then(v+(n:Int)).toNat else min v.toNat n):Nat):Int);by_cases hv:v < 0
 ·simp only[if_pos hv];omega
 ·simp only[if_neg hv];omega
theorem NI(lo hi)(n:Nat):G0 lo hi 1 (n:Int)=(((sIx n 0 lo:Nat):Int),((sIx n n hi:Nat):Int)):=by
 have h1:¬((1:Int) < 0):=by omega
 unfold G0;simp only[h1,if_false];refine Prod.ext ?_ ?_
 ·cases lo with
  |none=>rfl
  |some v=>exact Ii v n 0
 ·cases hi with
  |none=>rfl
  |some v=>exact Ii v n n
theorem Jk(i j:Nat):Fn (i:Int) (j:Int) 1=j-i:=by
 unfold Fn;have h1:(1:Int) > 0:=by omega
 simp only[h1,if_true,Int.ediv_one]
 split<;>omega
theorem zY(p:IsPart v o)(h:Q o s):A1 ⇑13 A (Builtin.Slice.slicePartIndex v) Q E s:=by
 cases p with
 |none=>exact slicePart_none h
 |int i t=>exact slicePart_int h
theorem HY{lo hi:Option Int}{Q:Int×Int×Nat->Ak->Prop}(hs:s.heap.IsSliceOf sl vl vu .none)(pl:IsPart vl lo)(pu:IsPart vu hi)
  (h:Q (((sIx n 0 lo:Nat):Int),1,sIx n n hi-sIx n 0 lo) s):A1 ⇑13 A (Builtin.Slice.sliceApplied (.ref sl) (pure (n:Int))) Q E s:=by
 obtain⟨os,hos,hcs,hds⟩:=id hs;unfold Builtin.Slice.sliceApplied Builtin.Slice.sliceFields;refine Ab (Ab (Dt hos hds (x:=vl) rfl (Ab (Dt hos hds (x:=vu) rfl (Ab (Dt hos hds (x:=.none) rfl (Aj ?_)))))));refine Ab (slicePart_none ?_);show A1 _ _ (if ((1:Int)==0)=ah then _ else _) _ _ s;rw[if_neg ∎];refine Ab (zY pl (Ab (zY pu (Ab (Aj ?_)))));show A1 _ _ (match G0 lo hi 1 (n:Int)with|(lo,hi)=>pure (lo,(1:Int),Fn lo hi 1)) _ _ s;rw[NI lo hi n];show A1 _ _ (pure (((sIx n 0 lo:Nat):Int),(1:Int),Fn ((sIx n 0 lo:Nat):Int) ((sIx n n hi:Nat):Int) 1)) _ _ s;rw[Jk];exact Aj h
theorem IQ(xs:Array Ag)(i k:Nat):((A5 k).filterMap λ(m:Nat)=>xs[((i:Int)+(m:Int)*1).toNat]?).toArray=((xs.toList.drop i).take k).toArray:=by
 have e:(λ(m:Nat)=>xs[((i:Int)+(m:Int)*1).toNat]?)=λm=>xs[i+m]?:=by
  funext m
  have:((i:Int)+(m:Int)*1).toNat=i+m:=by omega
  rw[this]
 rw[e];have:=pick_run xs i k;rw[List.filterMap_map]at this;have e2:((λx=>xs[x]?) ∘ λx=>i+x)=λm=>xs[i+m]?:=rfl;rw[e2]at this;rw[this]
theorem getItem_tuple_cut{lo hi:Option Int}(ht:IsTup s.heap t items)(hs:s.heap.IsSliceOf sl vl vu .none)(pl:IsPart vl lo)(pu:IsPart vu hi)
  (hw:¬(sIx items.size 0 lo=0/\sIx items.size items.size hi=items.size))
  (h:Q ⇑35 {s with heap:=s.heap.push {cls:=.type "tuple",data:=.seq ((items.toList.drop (sIx items.size 0 lo)).take ⇑120).toArray}})
  (hsz:items.size<=Az):A1 ⇑13 A (getItem (.ref t) (.ref sl)) Q E s:=by
 have htake:sizeOk (.seq ((items.toList.drop (sIx items.size 0 lo)).take ⇑120).toArray):=by
  show((items.toList.drop (sIx items.size 0 lo)).take ⇑120).toArray.size<=Az;rw[A2,E7,C1,B9];omega
 have hj:sIx items.size items.size hi<=items.size:=M5 _ _ (Aq _) hi;obtain⟨os,hos,hcs,hds⟩:=id hs;have hTs:s.TypeIs (.ref sl) "slice":=⟨os,hos,hcs⟩;unfold getItem
 try with_reducible refine Cf ?_
 first|refine Ab (Aj ?_)|skip
 refine Ab (wpAny_sequenceKey ht.typeIs ∎ ?_);refine Ab (By (name:=C7 "__getitem__") ht.typeIs Ep
  (Ce Ep ht.typeIs entry_tuple_getitem ?_ (args_tuple_getitem _ _)))
 show A1 _ _ (Gw (.ref t)>>=_) _ _ s;refine Ab (tupleItemsOf_ ht ?_);refine Ab (Gf hTs ?_);rw[if_pos ∎];refine Ab (HY hs pl pu ?_);have hno:¬((⇑140==0&&(1:Int)==1&&⇑120==items.size)=ah):=by
  intro q;rw[Cc,Cc]at q;have q1:⇑140=0:=eq_of_beq q.1.1;have q2:sIx items.size items.size hi-sIx items.size 0 lo=items.size:=eq_of_beq q.2;exact hw ⟨by omega,by omega⟩
 show A1 _ _ (if (⇑140==0&&(1:Int)==1&&⇑120==items.size)=ah then _ else _) _ _ s;rw[if_neg hno,IQ]
 first
  |exact Ab (m:=Fq _) (Bx (Aj ⟨_,rfl,Aj h⟩) htake)
  |exact Ab (m:=Fq _) (Bx (Ab (Aj (Aj ⟨_,rfl,Aj h⟩))) htake)
  |exact Ab (Ab (m:=Fq _) (Bx (Aj (Aj ⟨_,rfl,Aj h⟩)) htake))
  |exact Ab (Ab (m:=Fq _) (Bx (Aj ⟨_,rfl,Aj h⟩) htake))
end
end HT
namespace L2
open PySem PySem.Spec PyProof.Rows
abbrev TO:=St->Hp->(Option Int->Hp->Prop)->Prop
def PO(X:Cx)(e:Option Expr)(t:TO):Prop:=
 ∀(pins:List ⇑16)(s:Ak)(σ:St)(H:Hp)(Q:Option Int->Hp->Prop),Inv X pins σ H s->t σ H Q->
  A1 ⇑14 X.A (evalPart e X.env) (λu s'=>∃o H',Inv X pins σ H' s'/\IsPart u o/\Q o H') X.xe s
def ze:TO:=λ_ H Q=>Q af H
def Ia(t:TE):TO:=λσ H Q=>t σ H λx H1=>∃i,x=.int i/\Q (ae i) H1
section
variable{X:Cx}{e:Expr}{te:TE}{lo hi:Option Expr}{tl th:TO}{pos p2:Pos}
theorem GN:PO X af ze:=by
 sleep 6;rw[evalPart_none];exact Aj ⟨af,H,I,.none,h⟩
theorem Iv(h:PE X e te):PO X (ae e) (Ia te):=by
 intro pins s σ H Q I hw;rw[evalPart_some];refine aP (h pins s σ H _ I hw) λu s1 ⟨x,H1,I1,r1,q1⟩=>?_;obtain⟨i,rfl,q⟩:=q1;obtain⟨t,rfl⟩:=r1;exact⟨ae i,H1,I1,.int i t,q⟩
def SlR(X:Cx)(r:V->Option Int->Option Int->Hp->VK->Prop):Prop:=
 ∀(pins:List ⇑16)(s:Ak)(σ:St)(H:Hp)(x:V)(v vl vu:Ag)(lo hi:Option Int)(sl:Addr)(Q:VK),Inv X pins σ H s->RelV x v->s.heap.IsSliceOf sl vl vu .none->IsPart vl lo->IsPart vu hi->r x lo hi H Q->
  ∃T id,typeLookup (.type T) "__getitem__"=pure (ae ⇑88)/\s.TypeIs v T/\A1 ⇑14 X.A (getItem v (.ref sl)) ⇑69 X.xe s
theorem SlR.or(h:SlR X r)(h':SlR X r'):SlR X (λx lo hi H Q=>r x lo hi H Q\/r' x lo hi H Q):=by
 intro pins s σ H x v vl vu lo hi sl Q I rx hs pl pu q;rcases q with q|q
 ·exact h pins s σ H x v vl vu lo hi sl Q I rx hs pl pu q
 ·exact h' pins s σ H x v vl vu lo hi sl Q I rx hs pl pu q
def Ih(r:V->Option Int->Option Int->Hp->VK->Prop)(te:TE)(tl th:TO):TE:=λσ H Q=>te σ H λx H1=>tl σ H1 λl H2=>th σ H2 λu H3=>r x l u H3 Q
theorem zS(hr:SlR X r)(he:PE X e te)(hl:PO X lo tl)(hu:PO X hi th):PE X (.Subscript e (.Slice lo hi af p2) pos) (Ih r te tl th):=by
 sleep 6;refine Subscript_ (aP (he pins s σ H _ I h) λv s1 ⟨x,H1,I1,r1,q1⟩=>?_);refine wpAny_Slice (aP (hl pins s1 σ H1 _ I1 q1) λvl s2 ⟨l,H2,I2,pl,q2⟩=>aP (hu pins s2 σ H2 _ I2 q2) λvu s3 ⟨u,H3,I3,pu,q3⟩=>?_);rw[evalPart_none];refine Aj ?_;have I4:Inv X pins σ H3 {s3 with heap:=s3.heap.push {cls:=.type "slice",data:=.fields #[vl,vu,.none]}}:=I3.kept (t':=s3.toks) λb ob q=>Af _ q;obtain⟨T,id,hT,ht,hg⟩:=hr pins {s3 with heap:=s3.heap.push {cls:=.type "slice",data:=.fields #[vl,vu,.none]}} σ H3 x v vl vu l u s3.heap.objs.size Q I4 r1 (Heap.IsSliceOf.new ..) pl pu q3;show A1 ⇑14 X.A (subscriptTail e (.Slice lo hi af p2) v (.ref s3.heap.objs.size)) ⇑69 X.xe {s3 with heap:=s3.heap.push {cls:=.type "slice",data:=.fields #[vl,vu,.none]}};exact tail_any (ops:=[.ref s3.heap.objs.size,v]) ht hT hg (by with_unfolding_all rfl)
def fD(xs:List V)(lo hi:Option Int):List V:=(xs.drop (HT.sIx xs.length 0 lo)).take (HT.sIx xs.length xs.length hi-HT.sIx xs.length 0 lo)
theorem tQ(xs:List V)(lo hi):(fD xs lo hi).length<=xs.length:=by
 unfold fD;rw[E7,C1];omega
def nj(K:Ah):V->Option Int->Option Int->Hp->VK->Prop:=λx lo hi H Q=>∃a xs,x=.ref a/\SqT K H a xs /\
 ¬(HT.sIx xs.length 0 lo=0/\HT.sIx xs.length xs.length hi=xs.length)/\∀p,H p=af->Q (.ref p) (upd H p (.tup (fD xs lo hi)))
theorem sl_tup:SlR X (nj X.K):=by
 intro pins s σ H x v vl vu lo hi sl Q I rx hs pl pu h;obtain⟨a,xs,rfl,hx,hw,q⟩:=h;cases rx;obtain⟨its,r,ht,hz⟩:=I.tuple hx;have hlen:its.toArray.size=xs.length:=by rw[A2];exact r.length.symm
 refine⟨"tuple",_,PyProof.Rows.slot_tuple_getitem.lookup,ht.typeIs,?_⟩;refine HT.getItem_tuple_cut ht hs pl pu (by rw[hlen];exact hw) ?_ (by rw[hlen];exact hz);rw[hlen];refine⟨.ref s.heap.objs.size,_,I.laid (t':=s.toks) (o:=.tup (fD xs lo hi)) (λb ob q=>Af _ q) (Aq _) ?_,rfl,q _ ⇑89⟩;exact⟨Bj (tQ xs lo hi) hz,_,(r.drop (HT.sIx xs.length 0 lo)).take (HT.sIx xs.length xs.length hi-HT.sIx xs.length 0 lo),IsTupP.new _ _⟩
def EV(K:Ah):R2:=λx y H Q=>∃a b xs ys,x=.ref a/\y=.ref b/\SqT K H a xs/\SqT K H b ys/\xs≠[]/\xs.length+ys.length<=Az /\
 (ys=[]->Q (.ref a) H)/\(ys≠[]->∀p,H p=af->Q (.ref p) (upd H p (.tup (xs++ys))))
theorem Vals.nil_iff(r:Vals xs us):us=[]↔xs=[]:=by
 cases r with
 |nil=>simp
 |cons _ _=>simp
theorem op_catT:OpR X (Fj .Add) (EV X.K):=by
 sleep 8;obtain⟨a,b,xs,ys,rfl,rfl,ha,hb,hx,hz,q1,q2⟩:=h;cases rx;cases ry;obtain⟨its,r1,p1,_⟩:=I.tuple ha;obtain⟨its2,r2,p2,_⟩:=I.tuple hb;refine HT.cat_tup p1 p2 (λz=>hx (r1.nil_iff.mp z)) (λz=>⟨.ref a,H,I,rfl,q1 (r2.nil_iff.mp z)⟩) (λz=>?_) (by rw[<-r1.length,<-r2.length];exact hz);refine⟨.ref s.heap.objs.size,_,I.laid (t':=s.toks) (o:=.tup (xs++ys)) (λb ob q=>Af _ q) (Aq _) ?_,rfl,q2 (λw=>z (r2.nil_iff.mpr w)) _ ⇑89⟩;exact⟨by rw[An];exact hz,_,r1.append r2,IsTupP.new _ _⟩
end
def jP(n:Nat)(i:Int):Option Nat:=if 0<=i then(if i < n then ae i.toNat else af)else if -(n:Int)<=i then ae (i+n).toNat else af
def dv{α:Type}(xs:List α)(i:Int):Option α:=(jP xs.length i).bind λj=>xs[j]?
theorem DX(h:jP n i=ae j):seqIndex? i n=ae j/\j < n/\-(n:Int)<=i/\i < n:=by
 unfold jP at h;by_cases h0:0<=i
 ·rw[if_pos h0]at h;by_cases h1:i < n
  ·rw[if_pos h1]at h;have e:i.toNat=j:=Bb h;exact⟨by rw[seqIndex_of h0 h1,e],by omega,by omega,h1⟩
  ·rw[if_neg h1]at h;cases h
 ·rw[if_neg h0]at h;by_cases h1:-(n:Int)<=i
  ·rw[if_pos h1]at h;have e:(i+n).toNat=j:=Bb h;exact⟨by rw[seqIndex_neg ⋯ h1,e],by omega,h1,by omega⟩
  ·rw[if_neg h1]at h;cases h
theorem tO(h:dv xs i=ae v):∃j,seqIndex? i xs.length=ae j/\xs[j]?=ae v/\j < xs.length/\-(xs.length:Int)<=i/\i < xs.length:=by
 unfold dv at h;cases e:jP xs.length i with
 |none=>rw[e]at h;cases h
 |some j=>
  rw[e]at h;obtain⟨h1,h2,h3,h4⟩:=DX e;exact⟨j,h1,h,h2,h3,h4⟩
theorem fL{j:Nat}(h:xs[j]?=ae v):dv xs (j:Int)=ae v:=by
 have hj:j < xs.length:=(Ar.mp h).1;have e:jP xs.length (j:Int)=ae j:=by
  unfold jP;rw[if_pos ⋯,if_pos ⋯];simp
 unfold dv;rw[e];exact h
def qK(b:Expr):Prop:=∀o i,subscripted b ai o i=operate [o,i] (getItem o i)
def IxR(X:Cx)(r:R2):Prop:=
 ∀(value slice:Expr)(pins:List ⇑16)(s:Ak)(σ:St)(H:Hp)(x y:V)(v u:Ag)(Q:VK),Inv X pins σ H s->RelV x v->RelV y u->r x y H Q->
  subscripted slice ai v u=operate [v,u] (getItem v u)->A1 ⇑14 X.A (subscriptTail value slice v u) ⇑69 X.xe s
def vw(X:Cx)(id:String)(r:V->List V->Hp->VK->Prop):Prop:=
 ∀(pins:List ⇑16)(s:Ak)(σ:St)(H:Hp)(x:V)(xs:List V)(v:Ag)(us:List Ag)(Q:VK),Inv X pins σ H s->RelV x v->Vals xs us->r x xs H Q->
  A1 ⇑14 X.A (call ⇑88 (v::us)) ⇑69 X.xe s
section
variable{X:Cx}{a b:Expr}{ta tb:TE}{pos:Pos}
theorem IxR.or(h:IxR X r)(h':IxR X r'):IxR X (λx y H Q=>r x y H Q\/r' x y H Q):=by
 intro value slice pins s σ H x y v u Q I rx ry q hs;rcases q with q|q
 ·exact h value slice pins s σ H x y v u Q I rx ry q hs
 ·exact h' value slice pins s σ H x y v u Q I rx ry q hs
theorem ie(hr:IxR X r)(ha:PE X a ta)(hb:PE X b tb)(hs:qK b):PE X (.Subscript a b pos) (d3 r ta tb):=by
 sleep 6;exact Subscript_ (kQ ha hb I h λv u s2 x y H2 I2 rx ry q=>hr a b pins s2 σ H2 x y v u Q I2 rx ry q (hs _ _))
def ou(K:Ah):R2:=λx y H Q=>∃p xs i v,x=.ref p/\y=.int i/\SqL K H p xs/\dv xs i=ae v/\Q v H
def pN(K:Ah):R2:=λx y H Q=>∃p xs i v,x=.ref p/\y=.int i/\SqT K H p xs/\dv xs i=ae v/\Q v H
def og:R2:=λx y H Q=>∃z i c,x=.str z/\y=.int i/\z.length<=Az/\dv z.cps.toList i=ae c/\Q (.str ⟨#[c]⟩) H
theorem ix_list:IxR X (ou X.K):=by
 intro value slice pins s σ H x y v u Q I rx ry h hs;obtain⟨p,xs,i,z,rfl,rfl,hq,he,q⟩:=h;cases rx;obtain⟨t,rfl⟩:=ry;obtain⟨its,r,pl,hz⟩:=I.list hq;obtain⟨j,h1,h2,h3,h4,h5⟩:=tO he;obtain⟨w,ew,rw'⟩:=r.get h2;have hl:=r.length;have hn:=k9;have fin:EP X pins σ Q w s:=⟨z,H,I,rw',q⟩;by_cases h0:0<=i
 ·have hj:i.toNat=j:=by
   rw[seqIndex_of h0 h5]at h1;exact Bb h1
  exact item_listR pl.isList h0 ⋯ (by rw[hj];simpa using ew) fin hs
 ·have hj:(i+(its.toArray.size:Int)).toNat=j:=by
   rw[seqIndex_neg ⋯ h4]at h1;rw[A2,<-hl];exact Bb h1
  exact subscriptTail_builtinR (x:=w) pl.isList.typeIs slot_list_getitem.lookup
   (wpAny_getItem_list_neg (Q:=λr s'=>r=w/\EP X pins σ Q r s') pl.isList ⋯ (by rw[A2]<;>omega) ⋯ (by rw[hj];simpa using ew) ⟨rfl,fin⟩) hs
theorem ix_tup:IxR X (pN X.K):=by
 intro value slice pins s σ H x y v u Q I rx ry h hs;obtain⟨p,xs,i,z,rfl,rfl,hq,he,q⟩:=h;cases rx;obtain⟨t,rfl⟩:=ry;obtain⟨its,r,pl,hz⟩:=I.tuple hq;obtain⟨j,h1,h2,h3,h4,h5⟩:=tO he;obtain⟨w,ew,rw'⟩:=r.get h2;have hl:=r.length;have hn:=k9;have fin:EP X pins σ Q w s:=⟨z,H,I,rw',q⟩;exact subscriptTail_builtinR (x:=w) pl.typeIs slot_tuple_getitem.lookup
  (getItem_tuple (j:=j) (Q:=λr s'=>r=w/\EP X pins σ Q r s') pl ⋯ ⋯ (by rw[A2,<-hl];exact h1) (by simpa using ew) ⟨rfl,fin⟩) hs
theorem OL:IxR X og:=by
 intro value slice pins s σ H x y v u Q I rx ry h hs;obtain⟨z,i,c,rfl,rfl,hz,he,q⟩:=h;sleep 3;sleep 4;obtain⟨j,h1,h2,h3,h4,h5⟩:=tO he;have hl:z.cps.toList.length=z.length:=by simp[Str.length]
 rw[hl]at h1 h4 h5;have hn:=k9;exact tail_any (typeIs_str s z t) slot_str_getitem.lookup (getItem_str (c:=c) (by
  have e1:decide (i < -(2 ^ 63:Int))=ai:=decide_eq_false ⋯;have e2:decide (i ≥ 2 ^ 63)=ai:=decide_eq_false ⋯;rw[e1,e2,Bool.or_false]) (by rw[h1];simpa using h2) ⟨.str ⟨#[c]⟩,H,I.tok _,⟨_,rfl⟩,q⟩) hs
def lr(K:Ah):R2:=λx y H Q=>ou K x y H Q\/pN K x y H Q\/og x y H Q
theorem xl:IxR X (lr X.K):=ix_list.or (ix_tup.or OL)
theorem K2(its:List Ag)(n j)(u):Cy (·.setIfInBounds j u) {cls:=.type "list",data:=.seq its.toArray n}={ cls:=.type "list",data:=.seq (its.set j u).toArray n}:=by
 simp[Cy]
theorem Inv.lst{σ:St}{H:Hp}{s:Ak}{p:Addr}{xs:List V}(I:Inv X pins σ H s)(h:H p=ae (.lst xs)):
  ∃(its:List Ag)(n:Nat),Vals xs its/\s.heap.get? p=ae {cls:=.type "list",data:=.seq its.toArray n}/\xs.length<=Az:=by
 obtain⟨z,its,n,r,e⟩:=I.hok p _ h;exact⟨its,n,r,e,z⟩
theorem Inv.lstUpd{σ:St}{its its':List Ag}(I:Inv X pins σ H s)(h:H p=ae (.lst xs))
  (ho:s.heap.get? p=ae {cls:=.type "list",data:=.seq its.toArray n}) (hf:f {cls:=.type "list",data:=.seq its.toArray n}={ cls:=.type "list",data:=.seq its'.toArray n'}) (r:Vals ys its') (hz:ys.length<=Az) (t):
  Inv X pins σ (upd H p (.lst ys)) {s with heap:=s.heap.update p f,toks:=t}:=by
 have e:(s.heap.update p f).get? p=ae {cls:=.type "list",data:=.seq its'.toArray n'}:=by
  rw[Bw f ho (by rw[hf]<;>rfl),hf]
 refine I.write (x:=p) (e:=p) (by rw[h];trivial) ⇑27 (λb u hb q=>(Dw _ _ (Ne.symm hb)).trans q) ⟨_,e⟩ ?_;exact⟨hz,its',n',r,e⟩
def sj:V->V->V->Hp->(Hp->Prop)->Prop:=λo i v H Q=>∃p xs k j,o=.ref p/\i=.int k/\H p=ae (.lst xs)/\jP xs.length k=ae j/\Q (upd H p (.lst (xs.set j v)))
theorem n8:n6 X sj:=by
 intro pins s σ H o i v ov iv u Q I ro ri rv h;obtain⟨p,xs,k,j,rfl,rfl,hp,hj,q⟩:=h;cases ro;obtain⟨t,rfl⟩:=ri;obtain⟨its,n,r,ho,hz⟩:=I.lst hp;obtain⟨h1,h2,h3,h4⟩:=DX hj;have hl:=r.length;have hn:=k9;have I':Inv X pins σ (upd H p (.lst (xs.set j v))) {s with heap:=s.heap.update p (Cy (·.setIfInBounds j u))}:=
  I.lstUpd hp ho (K2 its n j u) (r.set rv j) (by rw[Cp];exact hz) s.toks
 by_cases h0:0<=k
 ·have hk:k.toNat=j:=by
   rw[seqIndex_of h0 h4]at h1;exact Bb h1
  exact PySem.W.ki_setAt ho h0 ⋯ (by rw[A2,<-hl];exact h4) (by rw[hk];exact⟨_,I',q⟩)
 ·have hk:(k+(its.toArray.size:Int)).toNat=j:=by
   rw[seqIndex_neg ⋯ h3]at h1;rw[A2,<-hl];exact Bb h1
  exact PySem.W.ki_setBack ho ⋯ (by rw[A2,<-hl];exact h3) ⋯ (by rw[hk];exact⟨_,I',q⟩)
theorem Tr(lo hi)(n):(Hb lo hi af n).1=((HT.sIx n 0 lo:Nat):Int)/\(Hb lo hi af n).2.1=((HT.sIx n n hi:Nat):Int)/\(Hb lo hi af n).2.2=1:=by
 refine⟨?_,?_,rfl⟩
 ·cases lo with
  |none=>simp[Hb,HT.sIx]
  |some i=>
   simp only[Hb,HT.sIx,Option.getD_none,show(1:Int) > 0 by decide,if_true];by_cases h:i < 0
   ·simp only[h,if_true]<;>omega
   ·simp only[h,if_false]<;>omega
 ·cases hi with
  |none=>simp[Hb,HT.sIx]
  |some i=>
   simp only[Hb,HT.sIx,Option.getD_none,show(1:Int) > 0 by decide,if_true];by_cases h:i < 0
   ·simp only[h,if_true]<;>omega
   ·simp only[h,if_false]<;>omega
theorem Mj(its:List Ag)(lo hi):slicePick its.toArray lo hi af=((its.drop (HT.sIx its.length 0 lo)).take (HT.sIx its.length its.length hi-HT.sIx its.length 0 lo)).toArray:=by
 obtain⟨h1,h2,h3⟩:=Tr lo hi its.toArray.size;unfold slicePick;rw[h1,h2,h3];simp only[sliceRange_one,pick_run,A2]<;>rfl
def xr(K:Ah):V->Option Int->Option Int->Hp->VK->Prop:=λx lo hi H Q=>∃a xs,x=.ref a/\SqL K H a xs/\∀p,H p=af->Q (.ref p) (upd H p (.lst (fD xs lo hi)))
theorem OI:SlR X (xr X.K):=by
 intro pins s σ H x v vl vu lo hi sl Q I rx hs pl pu h;obtain⟨a,xs,rfl,hx,q⟩:=h;cases rx;obtain⟨its,r,ht,hz⟩:=I.list hx;have hlen:=r.length;refine⟨"list",_,slot_list_getitem.lookup,ht.isList.typeIs,?_⟩;refine wpAny_getItem_list_slice ht.isList hs pl pu .none (by simp) ?_ (by rw[A2]<;>omega);rw[Mj,<-hlen];refine⟨.ref s.heap.objs.size,_,I.laid (t':=s.toks) (o:=.lst (fD xs lo hi)) (λb ob q=>Af _ q) (Aq _) ?_,rfl,q _ ⇑89⟩;exact⟨Bj (tQ xs lo hi) hz,_,0,(r.drop (HT.sIx xs.length 0 lo)).take (HT.sIx xs.length xs.length hi-HT.sIx xs.length 0 lo),Aw _ rfl⟩
def ib:V->Bool
 |.non=>ah
 |.bl _=>ah
 |.int _=>ah
 |.str _=>ah
 |_=>ai
def iW:V->V->Bool
 |.non,.non=>ah
 |.bl a,.bl b=>a==b
 |.bl a,.int b=>(if a then 1 else 0)==b
 |.int a,.bl b=>a==(if b then 1 else 0)
 |.int a,.int b=>a==b
 |.str a,.str b=>a==b
 |_,_=>ai
theorem zr(ry:RelV y u)(rx:RelV x v)(fy:ib y=ah)(fx:ib x=ah):SeqAt.EqAt A s u v (iW y x):=by
 cases y with
 |non=>
  cases ry;cases x with
  |non=>cases rx;exact SeqAt.EqAt.same _
  |bl b=>cases rx;exact SeqAt.EqAt.none_bool b
  |int b=>sleep 3;exact SeqAt.EqAt.none_int b t
  |str b=>sleep 3;exact SeqAt.EqAt.none_str b t
  |_=>exact absurd (show ai=ah from fx) Ai
 |bl a=>
  cases ry;cases x with
  |non=>cases rx;exact SeqAt.EqAt.bool_none a
  |bl b=>cases rx;exact SeqAt.EqAt.bool_bool a b
  |int b=>sleep 3;exact SeqAt.EqAt.bool_int a b t
  |str b=>sleep 3;exact SeqAt.EqAt.bool_str a b t
  |_=>exact absurd (show ai=ah from fx) Ai
 |int a=>
  sleep 4;cases x with
  |non=>cases rx;exact SeqAt.EqAt.int_none a t'
  |bl b=>cases rx;exact SeqAt.EqAt.int_bool a t' b
  |int b=>sleep 3;exact SeqAt.EqAt.int_int a t' b t
  |str b=>sleep 3;exact SeqAt.EqAt.int_str a t' b t
  |_=>exact absurd (show ai=ah from fx) Ai
 |str a=>
  sleep 4;cases x with
  |non=>cases rx;exact SeqAt.EqAt.str_none a t'
  |bl b=>cases rx;exact SeqAt.EqAt.str_bool a t' b
  |int b=>sleep 3;exact SeqAt.EqAt.str_int a t' b t
  |str b=>sleep 3;exact SeqAt.EqAt.str_str a t' b t
  |_=>exact absurd (show ai=ah from fx) Ai
 |_=>exact absurd (show ai=ah from fy) Ai
def gz(x:V)(u:Ag):Bool:=match u with
 |.none=>iW .non x
 |.bool b=>iW (.bl b) x
 |.int i _=>iW (.int i) x
 |.str z _=>iW (.str z) x
 |_=>ai
theorem yP(r:RelV y u)(f:ib y=ah):gz x u=iW y x:=by
 cases y with
 |non=>cases r;rfl
 |bl b=>cases r;rfl
 |int i=>obtain⟨t,rfl⟩:=r;rfl
 |str z=>obtain⟨t,rfl⟩:=r;rfl
 |_=>exact absurd (show ai=ah from f) Ai
theorem pC:∀{xs:List V}{us:List Ag},Vals xs us->xs.all ib=ah->us.any (gz x)=xs.any λy=>iW y x
 |_,_,.nil,_=>rfl
 |y::xs,u::us,.cons r t,f=>by
  rw[List.all_cons,Cc]at f;rw[Cm,Cm,yP r f.1,pC t f.2]
theorem oz(rx:RelV x v)(fx:ib x=ah):∀{xs:List V}{us:List Ag},Vals xs us->xs.all ib=ah->∀u∈us,SeqAt.EqAt A s u v (gz x u)
 |_,_,.nil,_=>λu hu=>by cases hu
 |y::xs,u::us,.cons r t,f=>λu' hu=>by
  rw[List.all_cons,Cc]at f;rcases Ax.mp hu with rfl|hu
  ·rw[yP r f.1];exact zr r rx f.1 fx
  ·exact oz rx fx t f.2 u' hu
def qo(x:V)(xs:List V):Bool:=xs.any λy=>iW y x
def ij(K:Ah)(neg:Bool):R2:=λx y H Q=>∃p xs,y=.ref p/\(SqL K H p xs\/SqT K H p xs)/\ib x=ah/\xs.all ib=ah/\Q (.bl (if neg then !qo x xs else qo x xs)) H
theorem Tc:OpR X (B6 .In) (ij X.K ai):=by
 sleep 8;obtain⟨p,xs,rfl,hq,fx,fs,q⟩:=h;cases ry;rcases hq with hq|hq
 ·obtain⟨its,r,pl,hz⟩:=I.list hq;refine SeqAt.in_listAt (gz x) pl.isList (λw hw=>oz rx fx r fs w (by simpa using hw)) ⟨.bl _,H,I,rfl,?_⟩;rw[show its.toArray.any (gz x)=its.any (gz x) by simp,pC r fs];exact q
 ·obtain⟨its,r,pl,hz⟩:=I.tuple hq;refine SeqAt.in_tupleAt (gz x) pl (λw hw=>oz rx fx r fs w (by simpa using hw)) ⟨.bl _,H,I,rfl,?_⟩;rw[show its.toArray.any (gz x)=its.any (gz x) by simp,pC r fs];exact q
theorem LR:OpR X (B6 .NotIn) (ij X.K ah):=by
 sleep 8;obtain⟨p,xs,rfl,hq,fx,fs,q⟩:=h;cases ry;rcases hq with hq|hq
 ·obtain⟨its,r,pl,hz⟩:=I.list hq;refine SeqAt.notIn_listAt (gz x) pl.isList (λw hw=>oz rx fx r fs w (by simpa using hw)) ⟨.bl _,H,I,rfl,?_⟩;rw[show its.toArray.any (gz x)=its.any (gz x) by simp,pC r fs];exact q
 ·obtain⟨its,r,pl,hz⟩:=I.tuple hq;refine SeqAt.notIn_tupleAt (gz x) pl (λw hw=>oz rx fx r fs w (by simpa using hw)) ⟨.bl _,H,I,rfl,?_⟩;rw[show its.toArray.any (gz x)=its.any (gz x) by simp,pC r fs];exact q
theorem rM:CallR X (.builtin "len") (λxs H Q=>∃p ys,xs=[.ref p]/\(SqL X.K H p ys\/SqT X.K H p ys)/\Q (.int ys.length) H):=by
 sleep 11;obtain⟨p,ys,rfl,hq,q⟩:=h;obtain⟨u,rfl,rx⟩:=gU r;cases rx;have hn:=k9;rcases hq with hq|hq
 ·obtain⟨its,r',pl,hz⟩:=I.list hq;have hlen:=r'.length;exact Calls.call_len_list pl.isList (by simp only[A2]<;>omega) ⟨.int ys.length,H,I.tok _,⟨s.toks+1,by rw[A2,hlen]⟩,q⟩
 ·obtain⟨its,r',pl,hz⟩:=I.tuple hq;have hlen:=r'.length;exact len_tuple pl (by simp only[A2]<;>omega) ⟨.int ys.length,H,I.tok _,⟨s.toks+1,by rw[A2,hlen]⟩,q⟩
theorem call_len_str:CallR X (.builtin "len") (λxs H Q=>∃z,xs=[.str z]/\z.length<=Az/\Q (.int z.length) H):=by
 sleep 11;obtain⟨z,rfl,hz,q⟩:=h;obtain⟨u,rfl,t,rfl⟩:=gU r;have hn:=k9;exact len_str ⋯ ⟨.int z.length,H,I.tok _,⟨_,rfl⟩,q⟩
theorem CallR.or(h:CallR X f r)(h':CallR X f r'):CallR X f (λxs H Q=>r xs H Q\/r' xs H Q):=by
 intro pins s σ H xs us Q I rs q;rcases q with q|q
 ·exact h pins s σ H xs us Q I rs q
 ·exact h' pins s σ H xs us Q I rs q
theorem QA:CallR X (.type "list") (λxs H Q=>∃p ys,xs=[.ref p]/\(SqL X.K H p ys\/SqT X.K H p ys)/\∀l,H l=af->Q (.ref l) (upd H l (.lst ys))):=by
 sleep 11;obtain⟨p,ys,rfl,hq,q⟩:=h;obtain⟨u,rfl,rx⟩:=gU r;cases rx;have fin:∀(its:List Ag),Vals ys its->ys.length<=Az->∀(h':Heap)(c':Nat),(∀b o',s.heap.get? b=ae o'->h'.get? b=ae o')->
   h'.get? s.heap.objs.size=ae {cls:=.type "list",dict:=af,data:=.seq its.toArray c',slots:=#[]}->EP X pins σ Q ⇑35 {s with heap:=h'}:=λits r' hz h' c' kp e=>
  ⟨.ref s.heap.objs.size,_,I.laid (t':=s.toks) kp (Aq _) (show ObjOk X.prog X.w _ h' _ (.lst ys)from⟨hz,its,c',r',e⟩),rfl,q _ ⇑89⟩
 rcases hq with hq|hq
 ·obtain⟨its,r',pl,hz⟩:=I.list hq;have hlen:=r'.length;obtain⟨o,ho,hc,n,hd⟩:=pl.isList;exact call_list_seq p ⇑27 ho hc hd (λh' c' kp e=>fin its r' hz h' c' kp e) (by simp only[A2]<;>omega)
 ·obtain⟨its,r',pl,hz⟩:=I.tuple hq;have hlen:=r'.length;obtain⟨o,ho,hc,n,hd⟩:=pl;exact call_list_seq p (.inr rfl) ho hc hd (λh' c' kp e=>fin its r' hz h' c' kp e) (by simp only[A2]<;>omega)
theorem LU:CallR X (.type "tuple") (λxs H Q=>∃p ys,xs=[.ref p]/\((SqL X.K H p ys/\∀l,H l=af->Q (.ref l) (upd H l (.tup ys)))\/(SqT X.K H p ys/\Q (.ref p) H))):=by
 sleep 11;obtain⟨p,ys,rfl,h⟩:=h;obtain⟨u,rfl,rx⟩:=gU r;cases rx;rcases h with⟨hq,q⟩|⟨hq,q⟩
 ·obtain⟨its,r',pl,hz⟩:=I.list hq;have hlen:=r'.length;refine call_tuple_list pl.isList (λh' kp=>?_) (by simp only[A2]<;>omega);have I1:Inv X pins σ H {s with heap:=h'}:=I.kept (t':=s.toks) kp;have I2:Inv X pins σ (upd H h'.objs.size (.tup ys)) {s with heap:=h'.push {cls:=.type "tuple",data:=.seq its.toArray}}:=
   I1.laid (t':=s.toks) (λb o e=>Af _ e) (Aq _) (show ObjOk X.prog X.w _ _ _ (.tup ys)from⟨hz,its,r',IsTupP.new _ _⟩)
  exact⟨.ref h'.objs.size,_,I2,rfl,q _ (I1.hok.fresh (Aq _))⟩
 ·obtain⟨its,r',pl,hz⟩:=I.tuple hq;exact call_tuple_same pl ⟨.ref p,H,I,rfl,q⟩
def xS(K:Ah)(T:String)(x:V)(H:Hp):Prop:=match x with
 |.str _=>T="str"
 |.int _=>T="int"
 |.ref p=>(T="list"/\∃xs,SqL K H p xs)\/(T="tuple"/\∃o,K.lookup p=ae o/\o.cls=.type "tuple"/\o.dict=af) \/
   (T="dict"/\((∃kvs,H p=ae (.dK kvs))\/∃kvs,H p=ae (.dT kvs)))\/(T="set"/\∃S n,H p=ae (.set S n))
 |_=>False
theorem FQ{σ:St}(I:Inv X pins σ H s)(r:RelV x v)(ty:xS X.K T x H):
  s.TypeIs v T/\∀a,v=.ref a->∃ob,s.heap.get? a=ae ob/\ob.dict=af:=by
 cases x with
 |str z=>
  obtain⟨t,rfl⟩:=r;cases(show T="str" from ty);exact⟨typeIs_str s z t,λ_ e=>nomatch e⟩
 |int i=>
  obtain⟨t,rfl⟩:=r;cases(show T="int" from ty);exact⟨typeIs_int s i t,λ_ e=>nomatch e⟩
 |ref p=>
  cases r;rcases ty with⟨rfl,xs,hq⟩|⟨rfl,o,hk,hc,hd⟩|⟨rfl,hk⟩|⟨rfl,S,n,hk⟩
  ·obtain⟨its,_,pl,_⟩:=I.list hq;refine⟨pl.isList.typeIs,λa e=>?_⟩;cases e;obtain⟨o,n,e,c,hd,_⟩:=pl;exact⟨o,e,hd⟩
  ·refine⟨⟨o,I.kIn p o hk,hc⟩,λa e=>?_⟩;cases e;exact⟨o,I.kIn _ o hk,hd⟩
  ·have z:∃o,s.heap.get? p=ae o/\o.ExactDict:=by
    rcases hk with⟨kvs,hk⟩|⟨kvs,hk⟩
    ·obtain⟨_,_,_,_,o,_,_,e,ex,_⟩:=I.hok p _ hk;exact⟨o,e,ex⟩
    ·obtain⟨_,_,_,_,o,_,_,e,ex,_⟩:=I.hok p _ hk;exact⟨o,e,ex⟩
   obtain⟨o,e,ex⟩:=z;refine⟨⟨o,e,ex.1⟩,λa e2=>?_⟩;cases e2;exact⟨o,e,ex.2.1⟩
  ·obtain⟨o,_,_,_,e,ex,_⟩:=I.hok p _ hk;refine⟨⟨o,e,ex.1⟩,λa e2=>?_⟩;cases e2;exact⟨o,e,ex.2.1⟩
 |_=>exact False.elim ty
def nv(K:Ah)(T:String)(r:V->List V->Hp->VK->Prop)(to:TE):TE:=λσ H Q=>to σ H λx H1=>xS K T x H1/\r x [] H1 Q
def rB(K:Ah)(T:String)(r:V->List V->Hp->VK->Prop)(to:TE)(t:TA):TE:=λσ H Q=>to σ H λx H1=>xS K T x H1/\t σ H1 λxs H2=>r x xs H2 Q
variable{o e:Expr}{es:List Expr}{to:TE}{t:TA}{name:Str}{apos cpos:Pos}{T id:String}{r:V->List V->Hp->VK->Prop}
theorem Up(pa:PlainAttrs T)(slot:Slot T name id)(hty:typeOf ⇑88=pure (.type "method_descriptor"))(hm:vw X id r)(ho:PE X o to)
  (hbase:attributeBase o name X.env (eval o X.env)=eval o X.env:=by rfl) (hline:(apos.endLine==cpos.line)=ah:=by rfl):PE X (.Call (.Attribute o name apos) [] [] cpos) (nv X.K T r to):=by
 sleep 6;refine wpAny_Call_method0_late hbase hline (aP (ho pins s σ H _ I h) λv s1 ⟨x,H1,I1,r1,ty,q1⟩=>?_);obtain⟨h1,h2⟩:=FQ I1 r1 ty;exact⟨T,id,pa,slot,hty,h1,h2,Calls.callWith_builtin rfl (PySem.evalArgs_none (hm pins s1 σ H1 x [] v [] Q I1 r1 .nil q1))⟩
theorem yU(pa:PlainAttrs T)(slot:Slot T name id)(hty:typeOf ⇑88=pure (.type "method_descriptor"))(hm:vw X id r)(ho:PE X o to)(ha:PA X (e::es) t)
  (hbase:attributeBase o name X.env (eval o X.env)=eval o X.env:=by rfl)
  (hfew:((C8 cpos (Av (e::es) X.env)).all (λx=>!x.1)&&(backToKw cpos (keywordEach [] X.env)).all (λx=>x.1.isSome)
   && decide ((e::es).length+([]:List Keyword).length+(if ([]:List Keyword).isEmpty then 0 else 1) < 30))=ah:=by rfl)
  (hline:(apos.endLine==cpos.line)=ah:=by rfl) (hs:Av (e::es) X.env=⇑33::Av es X.env:=by rfl) (hplain:(C8 cpos ⇑43).any (·.1)=ai:=by rfl):
  PE X (.Call (.Attribute o name apos) (e::es) [] cpos) (rB X.K T r to t):=by
 sleep 6;refine wpAny_Call_method_late hbase hfew hline rfl (aP (ho pins s σ H _ I h) λv s1 ⟨x,H1,I1,r1,ty,q1⟩=>?_);obtain⟨h1,h2⟩:=FQ I1 r1 ty;refine⟨T,id,pa,slot,hty,h1,h2,?_⟩;have hA:=ha cpos pins s1 σ H1 _ I1 q1;rw[hs]at hA ⊢;refine Calls.callWith_builtin (by show(ai || (C8 cpos ⇑43).any (·.1))=ai;rw[hplain]<;>rfl) (Calls.evalArgs_plain ?_);exact aP hA λus s2 ⟨vs,H2,I2,r2,q2⟩=>hm pins s2 σ H2 x vs v us Q I2 r1 r2 q2
end
def HS(X:Cx)(id:String)(r:V->List V->Hp->VK->Prop):Prop:=
 ∀(pins:List ⇑16)(s:Ak)(σ:St)(H:Hp)(x:V)(xs:List V)(v:Ag)(us:List Ag)(Q:VK),Inv X pins σ H s->RelV x v->Vals xs us->r x xs H Q->
  A1 ⇑14 X.A (call ⇑88 (v::us)) ⇑69 X.xe s
theorem Vals.one:∀{x:V}{us:List Ag},Vals [x] us->∃u,us=[u]/\RelV x u
 |_,_,.cons r .nil=>⟨_,rfl,r⟩
theorem Vals.zero:∀{us:List Ag},Vals [] us->us=[]
 |_,.nil=>rfl
theorem Vals.reverse(h:Vals xs us):Vals xs.reverse us.reverse:=by
 induction h with
 |nil=>exact .nil
 |cons r t ih=>rw[Gn,Gn];exact Vals.append ih (.cons r .nil)
section
variable{X:Cx}{pins:List ⇑16}{σ:St}{H:Hp}{s:Ak}{l b:Addr}{xs ys zs:List V}
theorem Inv.lset{its its':List Ag}(I:Inv X pins σ H s)(hH:H l=ae (.lst xs))
  (e:s.heap.get? l=ae {cls:=.type "list",data:=.seq its.toArray n}) (hf:f its.toArray=its'.toArray) (hv:Vals ys its') (hz:ys.length<=Az):
  Inv X pins σ (upd H l (.lst ys)) {s with heap:=s.heap.update l (Cy f),toks:=t'}:=by
 have q:=PySem.IsL.update e f;rw[hf]at q;refine I.write (x:=l) (e:=l) (by rw[hH];exact trivial) ⇑27 (λb' u hb hu=>(Dw s.heap (Cy f) (Ne.symm hb)).trans hu) ⟨_,q⟩ ?_;exact⟨hz,its',_,hv,q⟩
theorem Inv.lnew(I:Inv X pins σ H s)(hv:Vals ys its)(hz:ys.length<=Az):
  Inv X pins σ (upd H s.heap.objs.size (.lst ys)) {s with heap:=s.heap.push {cls:=.type "list",data:=.seq its.toArray},toks:=t'}:=
 I.laid (λ_ _ q=>Af _ q) (Aq _) ⟨hz,its,0,hv,Aw _ rfl⟩
theorem Inv.fresh(I:Inv X pins σ H s):H s.heap.objs.size=af:=I.hok.fresh (Aq _)
theorem Inv.lstM(I:Inv X pins σ H s)(hH:H l=ae (.lst xs)):xs.length<=Az/\∃(its:List Ag)(n:Nat),Vals xs its/\xs.length=its.length/\s.heap.get? l=ae {cls:=.type "list",data:=.seq its.toArray n}:=by
 obtain⟨z,its,n,r,e⟩:=I.hok l _ hH;exact⟨z,its,n,r,r.length,e⟩
theorem LX(h:n<=Az):G4 n=ai:=by
 unfold G4;exact decide_eq_false ⋯
end
section
variable{X:Cx}
def uv:V->List V->Hp->VK->Prop:=λx vs H Q=>∃l xs y,x=.ref l/\vs=[y]/\H l=ae (.lst xs)/\xs.length < Az/\Q .non (upd H l (.lst (xs++[y])))
theorem xM:HS X "list.append" uv:=by
 intro pins s σ H x vs v us Q I rx rv h;obtain⟨l,xs,y,rfl,rfl,hH,hz,q⟩:=h;cases rx;obtain⟨u,rfl,ru⟩:=rv.one;obtain⟨z,its,n,r,hl,e⟩:=I.lstM hH;refine call_meets F.slot_list_append ⟨_,e,rfl⟩ F.entry_list_append (F.args_list_append_2 _ _) (PySem.list_append l its.toArray n u (by rw[A2];omega)) ⟨e,?_⟩;refine⟨.non,_,I.lset (its':=its++[u]) hH e (by simp) (r.append (.cons ru .nil)) ?_,rfl,q⟩;rw[An,A3];omega
def AD:V->List V->Hp->VK->Prop:=λx vs H Q=>∃l b xs zs,x=.ref l/\vs=[.ref b]/\H l=ae (.lst xs)/\H b=ae (.lst zs)/\xs.length+zs.length<=Az/\Q .non (upd H l (.lst (xs++zs)))
theorem SK:HS X "list.extend" AD:=by
 intro pins s σ H x vs v us Q I rx rv h;obtain⟨l,b,xs,zs,rfl,rfl,hH,hB,hz,q⟩:=h;cases rx;obtain⟨u,rfl,ru⟩:=rv.one;cases ru;obtain⟨z,its,n,r,hl,e⟩:=I.lstM hH;obtain⟨z2,its2,n2,r2,hl2,e2⟩:=I.lstM hB;have hsz:its.toArray.size+its2.toArray.size<=Az:=by rw[A2,A2];omega
 have hlong:¬(!its.toArray.isEmpty&&G4 (its.toArray.size+its2.toArray.size))=ah:=by
  rw[LX hsz,Bool.and_false];exact Ai
 refine call_meets F.slot_list_extend ⟨_,e,rfl⟩ F.entry_list_extend (F.args_list_extend_2 _ _)
  (AutoSeq1.list_extend_list_list_0 l its.toArray n b its2.toArray n2 hlong (by rw[A2];omega) ⋯) ⟨e,e2,?_⟩
 refine⟨.non,_,I.lset (its':=its++its2) hH e (by simp) (r.append r2) ?_,rfl,q⟩;rw[An];omega
def jY:R2:=λx y H Q=>∃l b xs zs,x=.ref l/\y=.ref b/\H l=ae (.lst xs)/\H b=ae (.lst zs)/\xs.length+zs.length<=Az/\∀p,H p=af->Q (.ref p) (upd H p (.lst (xs++zs)))
theorem EF:OpR X (Fj .Add) jY:=by
 sleep 8;obtain⟨l,b,xs,zs,rfl,rfl,hH,hB,hz,q⟩:=h;cases rx;cases ry;obtain⟨z,its,n,r,hl,e⟩:=I.lstM hH;obtain⟨z2,its2,n2,r2,hl2,e2⟩:=I.lstM hB;refine PySem.P.add_list e e2 ?_ (by rw[A2,A2];omega);have ea:its.toArray++its2.toArray=(its++its2).toArray:=by simp
 rw[ea];exact⟨.ref _,_,I.lnew (t':=s.toks) (r.append r2) (by rw[An];omega),rfl,q _ I.fresh⟩
end
section
variable{κ:Type}[DecidableEq κ]
def cb(kvs:List (κ×V))(k:κ):Option V:=(kvs.find? λkv=>decide (kv.1=k)).map (·.2)
def b6(kvs:List (κ×V))(k:κ)(v:V):List (κ×V):=
 if ⇑141=ah then kvs.map (λkv=>if kv.1=k then(kv.1,v)else kv)else kvs++[(k,v)]
theorem vb{p:κ×V}(e:p.1=k):cb (p::r) k=ae p.2:=by simp[cb,Bg,e]
theorem xt{p:κ×V}(e:¬p.1=k):cb (p::r) k=cb r k:=by simp[cb,Bg,e]
theorem GX(k):∀kvs:List (κ×V),⇑141=(cb kvs k).isSome
 |[]=>rfl
 |p::r=>by
  rw[Cm];by_cases e:p.1=k
  ·simp only[vb e,decide_eq_true e,Bool.true_or,Option.isSome_some]
  ·rw[xt e,decide_eq_false e,Bool.false_or];exact GX k r
theorem sh(kvs:List (κ×V))(k)(v):(b6 kvs k v).length<=kvs.length+1:=by
 unfold b6
 split
 ·rw[Aa];omega
 ·rw[An,Ay,List.length_nil];omega
theorem RelO.isSome_eq(r:RelO o u):o.isSome=u.isSome:=by
 cases o with
 |none=>cases u with
  |none=>rfl
  |some _=>exact(show False from r).elim
 |some _=>cases u with
  |none=>exact(show False from r).elim
  |some _=>rfl
theorem KV.val(r:KV kvs vs)(k:κ):RelO (cb kvs k) (valueAt vs k):=by
 unfold KV at r
 induction r with
 |nil=>exact Ec
 |@cons p q ps qs h t ih=>
  obtain⟨h1,h2⟩:=h;by_cases e:p.1=k
  ·have e':q.1=k:=h1.symm.trans e;have b:valueAt (q::qs) k=ae q.2:=by simp[valueAt,Bg,e']
   rw[vb e,b];exact h2
  ·have e':¬q.1=k:=λz=>e (h1.trans z);have b:valueAt (q::qs) k=valueAt qs k:=by simp[valueAt,Bg,e']
   rw[xt e,b];exact ih
theorem KV.any(r:KV kvs vs)(k:κ):⇑141=vs.any λkv=>decide (kv.1=k):=by
 unfold KV at r
 induction r with
 |nil=>rfl
 |cons h t ih=>rw[Cm,Cm,ih,h.1]
theorem KV.repl(r:KV kvs vs)(k:κ)(ry:RelV y u):
  KV (kvs.map λkv=>if kv.1=k then(kv.1,y)else kv) (vs.map λkv=>if kv.1=k then(kv.1,u)else kv):=by
 unfold KV at r ⊢
 induction r with
 |nil=>exact .nil
 |@cons p q ps qs h t ih=>
  rw[Bc,Bc];refine .cons ?_ ih;obtain⟨h1,h2⟩:=h;by_cases e:p.1=k
  ·rw[if_pos e,if_pos (h1.symm.trans e)];exact⟨h1,ry⟩
  ·rw[if_neg e,if_neg (λz=>e (h1.trans z))];exact⟨h1,h2⟩
theorem KV.put(r:KV kvs vs)(k:κ)(ry:RelV y u):KV (b6 kvs k y) (stored vs k u):=by
 unfold b6 stored;rw[r.any k];by_cases e:(vs.any λkv=>decide (kv.1=k))=ah
 ·rw[if_pos e,if_pos e];exact r.repl k ry
 ·rw[if_neg e,if_neg e];exact Paired.snoc r ⟨rfl,ry⟩
theorem KV.length{vs:List (κ×Ag)}(r:KV kvs vs):kvs.length=vs.length:=D2 r
end
theorem mx(r:RelV (kV k) u):(fj P w).is k u=ah:=by
 cases k with
 |inl i=>obtain⟨t,e⟩:=(show ∃t,u=Value.int i t from r);subst e;exact yT P w i t
 |inr x=>obtain⟨t,e⟩:=(show ∃t,u=Value.str x t from r);subst e;exact FI P w x t
theorem EH:∀{ks:List aH}{us:List Ag},Vals (ks.map kV) us->ItemsAre (fj P w) ks us
 |[],_,r=>by rw[Ei]at r;cases r;exact .nil
 |k::ks,_,r=>by
  rw[Bc]at r;cases r with
  |cons h t=>exact .cons (mx h) (EH t)
abbrev KT(H:Hp):List (List aH×V)->List (List aH×Addr×Ag)->Prop:=Paired λp q=>p.1=q.1/\H q.2.1=ae (.tup (p.1.map kV))/\RelV p.2 q.2.2
theorem KT.val(r:KT H kvs xs)(k):RelO (cb kvs k) ((atKey xs k).map (·.2)):=by
 induction r with
 |nil=>exact Ec
 |@cons p q ps qs h t ih=>
  obtain⟨h1,_,h2⟩:=h;by_cases e:p.1=k
  ·have e':q.1=k:=h1.symm.trans e;have b:atKey (q::qs) k=ae q.2:=by simp[atKey,Bg,e']
   rw[vb e,b];exact h2
  ·have e':¬q.1=k:=λz=>e (h1.trans z);have b:atKey (q::qs) k=atKey qs k:=by simp[atKey,Bg,e']
   rw[xt e,b];exact ih
theorem KT.repl(r:KT H kvs xs)(k)(ry:RelV y u):
  KT H (kvs.map λkv=>if kv.1=k then(kv.1,y)else kv) (xs.map (putAt k u)):=by
 induction r with
 |nil=>exact .nil
 |@cons p q ps qs h t ih=>
  rw[Bc,Bc];refine .cons ?_ ih;obtain⟨h1,h2,h3⟩:=h;unfold putAt;by_cases e:p.1=k
  ·rw[if_pos e,if_pos (h1.symm.trans e)];exact⟨h1,h2,ry⟩
  ·rw[if_neg e,if_neg (λz=>e (h1.trans z))];exact⟨h1,h2,h3⟩
theorem KT.put(r:KT H kvs xs)(k:List aH)(hb:H b=ae (.tup (k.map kV)))(ry:RelV y u):
  KT H (b6 kvs k y) (storedH xs k b u):=by
 have e:⇑141=(atKey xs k).isSome:=by
  rw[GX,(r.val k).isSome_eq,Es]
 unfold b6 storedH;rw[e];by_cases q:(atKey xs k).isSome=ah
 ·rw[if_pos q,if_pos q];exact r.repl k ry
 ·rw[if_neg q,if_neg q];exact Paired.snoc r ⟨rfl,hb,ry⟩
theorem KT.keeps(r:KT H kvs xs)(ht:∀b ys,H b=ae (.tup ys)->H' b=ae (.tup ys)):KT H' kvs xs:=
 Paired.mapP r λ_ _ z=>⟨z.1,ht _ _ z.2.1,z.2.2⟩
section
variable{P:Bh}{w:Bt}{H:Hp}{h:Heap}{a:Addr}
theorem FP(ok:HOk P w H h)(e:Rd H a u):ObjOk P w H h a u:=e.ok ok
theorem nR(ok:HOk P w H h)(e:Rd H a (.dK kvs)):kvs.length<=Az/\(a==De)=ai/\∃vs,KV kvs vs/\h.DictOf (fj P w) a vs:=
 show ObjOk P w H h a (.dK kvs)from FP ok e
theorem GJ(ok:HOk P w H h)(e:H a=ae (.dK kvs)):kvs.length<=Az/\(a==De)=ai/\∃vs,KV kvs vs/\h.DictOf (fj P w) a vs:=nR ok (.inl e)
theorem qc(ok:HOk P w H h)(e:H a=ae (.tup (ks.map kV))):(tupleKind (fj P w)).is h ks a:=by
 obtain⟨_,its,r,o,h1,h2,⟨n,h3⟩,_⟩:=(show ObjOk P w H h a (.tup (ks.map kV))from ok a _ e);exact⟨o,its.toArray,n,h1,h2,h3,by simpa using EH r⟩
theorem pP(ok:HOk P w H h)(e:Rd H a (.dT kvs)):kvs.length<=Az/\(a==De)=ai /\
  ∃xs,KT H kvs xs/\h.DictOfH (tupleKind (fj P w)) a xs:=by
 obtain⟨z,y,xs,r,o,es,ep,h1,h2,h3,h4,h5⟩:=(show ObjOk P w H h a (.dT kvs)from FP ok e);refine⟨z,y,xs,r,o,es,ep,h1,h2,h3,h4,λx hx=>?_,h5⟩;have all:∀{l:List (List aH×V)}{m:List (List aH×Addr×Ag)},KT H l m->∀x∈m,(tupleKind (fj P w)).is h x.1 x.2.1:=by
  intro l m q
  induction q with
  |nil=>intro x hx;exact nomatch hx
  |@cons p q ps qs hq t ih=>
   intro x hx;rcases Ax.mp hx with e|hx
   ·subst e;exact qc ok (by rw[<-hq.1];exact hq.2.1)
   ·exact ih x hx
 exact all r x hx
theorem Qm(ok:HOk P w H h)(e:H a=ae (.dT kvs)):kvs.length<=Az/\(a==De)=ai /\
  ∃xs,KT H kvs xs/\h.DictOfH (tupleKind (fj P w)) a xs:=pP ok (.inl e)
end
def DGet(H:Hp)(a:Addr)(y:V)(r:Option V):Prop:=
 (∃kvs k,Rd H a (.dK kvs)/\y=kV k/\r=cb kvs k)\/∃kvs k b,Rd H a (.dT kvs)/\y=.ref b/\H b=ae (.tup (k.map kV))/\r=cb kvs k
def DPut(H:Hp)(a:Addr)(y v:V)(H':Hp):Prop:=
 (∃kvs k,H a=ae (.dK kvs)/\y=kV k/\kvs.length < Az/\H'=upd H a (.dK (b6 kvs k v))) \/
 ∃kvs k b,H a=ae (.dT kvs)/\y=.ref b/\H b=ae (.tup (k.map kV))/\kvs.length < Az/\H'=upd H a (.dT (b6 kvs k v))
theorem DGet.t(e:H a=ae (.dT kvs))(eb:H b=ae (.tup (k.map kV))):DGet H a (.ref b) (cb kvs k):=.inr ⟨kvs,k,b,.inl e,rfl,eb,rfl⟩
theorem DPut.k{k:aH}(e:H a=ae (.dK kvs))(hl:kvs.length < Az):DPut H a (kV k) v (upd H a (.dK (b6 kvs k v))):=.inl ⟨kvs,k,e,rfl,hl,rfl⟩
theorem DPut.t{k:List aH}(e:H a=ae (.dT kvs))(eb:H b=ae (.tup (k.map kV)))(hl:kvs.length < Az):
  DPut H a (.ref b) v (upd H a (.dT (b6 kvs k v))):=.inr ⟨kvs,k,b,e,rfl,eb,hl,rfl⟩
section
variable{X:Cx}{pins:List ⇑16}{σ:St}{H:Hp}{s:Ak}{a:Addr}{y v:V}{u r:Ag}{o:Option V}{A:B1}{E:Ag->Ak->Prop}
theorem Inv.big(I:Inv X pins σ H s):De < s.heap.objs.size:=by
 have h:D1 < s.heap.objs.size:=(I.mod.glob.keeps I.bk).lt;exact Nat.lt_trans ∎ h
theorem Me(hu:A.units+1 < Du)(I:Inv X pins σ H s)(g:DGet H a y (ae v))(ry:RelV y u)(h:∀w' s',Inv X pins σ H s'->RelV v w'->Q w' s'):
  A1 ⇑14 A (getItem (.ref a) u) Q E s:=by
 rcases g with⟨kvs,k,e,ey,l⟩|⟨kvs,k,b,e,ey,eb,l⟩
 ·subst ey;obtain⟨z,hd,vs,rel,dd⟩:=nR I.hok e;obtain⟨w',hw,rw'⟩:=RelO.some_of (v:=v) (o:=valueAt vs k) (by rw[l];exact rel.val k);exact wpAny_getItem_of (mx ry) dd.mapOf hw (h w' _ (I.tok _) rw')
 ·subst ey;cases(show u=A4 b from ry);obtain⟨z,hd,xs,rel,dd⟩:=pP I.hok e;obtain⟨w',hw,rw'⟩:=RelO.some_of (v:=v) (o:=(atKey xs k).map (·.2)) (by rw[l];exact rel.val k);obtain⟨p,hp,hp2⟩:=Fg.mp hw;refine wpAny_getItem_heap (Hq hu) (qc I.hok eb) dd hp ?_;rw[hp2];exact h w' _ (I.tok _) rw'
theorem xh(hu:A.units+1 < Du)(I:Inv X pins σ H s)(g:DGet H a y o)(ry:RelV y u)(h:∀s',Inv X pins σ H s'->Q (.bool o.isSome) s'):
  A1 ⇑14 A (B6 .In u (.ref a)) Q E s:=by
 rcases g with⟨kvs,k,e,ey,l⟩|⟨kvs,k,b,e,ey,eb,l⟩
 ·subst ey;obtain⟨z,hd,vs,rel,dd⟩:=nR I.hok e;refine wpAny_in_of (mx ry) hd dd.mapOf ?_;rw[<-(rel.val k).isSome_eq,<-l];exact h _ (I.tok _)
 ·subst ey;cases(show u=A4 b from ry);obtain⟨z,hd,xs,rel,dd⟩:=pP I.hok e;refine wpAny_in_heap (Hq hu) (qc I.hok eb) hd dd ?_;have q:=(rel.val k).isSome_eq;rw[Es]at q;rw[<-q,<-l];exact h _ (I.tok _)
theorem OQ(hu:A.units+1 < Du)(I:Inv X pins σ H s)(g:DGet H a y o)(ry:RelV y u)(h:∀s',Inv X pins σ H s'->Q (.bool (!o.isSome)) s'):
  A1 ⇑14 A (B6 .NotIn u (.ref a)) Q E s:=by
 rcases g with⟨kvs,k,e,ey,l⟩|⟨kvs,k,b,e,ey,eb,l⟩
 ·subst ey;obtain⟨z,hd,vs,rel,dd⟩:=nR I.hok e;refine wpAny_notIn_of (mx ry) hd dd.mapOf ?_;rw[<-(rel.val k).isSome_eq,<-l];exact h _ (I.tok _)
 ·subst ey;cases(show u=A4 b from ry);obtain⟨z,hd,xs,rel,dd⟩:=pP I.hok e;refine wpAny_notIn_heap (Hq hu) (qc I.hok eb) hd dd ?_;have q:=(rel.val k).isSome_eq;rw[Es]at q;rw[<-q,<-l];exact h _ (I.tok _)
theorem mV(I:Inv X pins σ H s)(mu:pV (H a))(hs:C4 a s.heap h')(he:∃q,h'.get? a=ae q)(new:ObjOk X.prog X.w (upd H a ob) h' a ob):
  Inv X pins σ (upd H a ob) {s with heap:=h',toks:=t'}:=
 I.write (x:=a) (e:=a) mu ⇑27 (λb q hb z=>(hs.2 b hb).trans z) he new
theorem zg(z:kvs.length<=Az)(hd:(a==De)=ai)(rel:KV kvs vs)(dd:h'.DictOf (fj P w) a vs):
  ObjOk P w H' h' a (.dK kvs):=⟨z,hd,vs,rel,dd⟩
theorem Jg(hu:A.units+1 < Du)(I:Inv X pins σ H s)(g:DPut H a y v H')(ry:RelV y u)(rv:RelV v r)(h:∀s',Inv X pins σ H' s'->Q () s'):
  A1 ⇑14 A (setItem (.ref a) u r) Q E s:=by
 rcases g with⟨kvs,k,e,ey,l,eH⟩|⟨kvs,k,b,e,ey,eb,l,eH⟩
 ·subst ey eH;obtain⟨z,hd,vs,rel,dd⟩:=GJ I.hok e;have hz:vs.length<=Az:=by rw[<-rel.length];exact z
  have hl:(b6 kvs k v).length<=Az:=by have:=sh kvs k v;omega
  refine wpAny_setItem_pairs (hsz:=hz) (mx ry) dd λh' dd' hs=>h _ ?_;have he:∃q,h'.get? a=ae q:=let⟨q,_,_,hq,_⟩:=dd';⟨q,hq⟩;exact mV I (by rw[e];exact Ec) hs he (zg hl hd (rel.put k rv) dd')
 ·subst ey eH;cases(show u=A4 b from ry);obtain⟨z,hd,xs,rel,dd⟩:=Qm I.hok e;have hz:xs.length<=Az:=by rw[<-D2 rel];exact z
  have hl:(b6 kvs k v).length<=Az:=by have:=sh kvs k v;omega
  refine wpAny_setItem_heap (hsz:=hz) (Hq hu) (qc I.hok eb) dd λh' dd' hs=>h _ ?_;obtain⟨q,es,ep,hq,h2,h3,h4,_,h5⟩:=dd';refine mV I (by rw[e];exact Ec) hs ⟨q,hq⟩ ⟨hl,hd,_,(rel.put k eb rv).keeps λc ys ec=>?_,q,es,ep,hq,h2,h3,h4,h5⟩;rw[aN (CL ec e ⇑61)];exact ec
end
def iL(i:Expr):Prop:=∀ov iv,subscripted i ai ov iv=operate [ov,iv] (getItem ov iv)
theorem zh{T id:String}
  (hl:typeLookup (.type T) "__getitem__"=pure (ae ⇑88)) (hs:iL slice)
  (h:A1 ⇑13 A (eval value env) (λo s₁=>A1 ⇑13 A (eval slice env) (λi s₂=>s₂.TypeIs o T/\A1 ⇑13 A (getItem o i) Q E s₂) E s₁) E s):
  A1 ⇑13 A (eval (.Subscript value slice pos) env) Q E s:=by
 refine Subscript_ (Dr h (λo s₁ h₁=>Dr h₁ (λi s₂ h₂=>?_) λ_ _ x=>x) λ_ _ x=>x);obtain⟨hT,h₂⟩:=h₂;unfold subscriptTail;refine Ab ?_;rw[getitemInPython_of_ne hT.not_modules];refine Ab (Hj hT hl ?_);have fin:A1 ⇑13 A (subscripted slice ai o i) (λr s₃=>A1 ⇑13 A (letTemporaryGo value o r>>=λ_=>pure r) Q E s₃) E s₂:=by
  rw[hs o i];exact wpAny_operating (Dr h₂ (λr s₃ h₃=>Ab (wpAny_letTemporaryGo (Aj h₃))) λ_ _ x=>x)
 first
  |exact Aj (Ab fin)
  |exact Ab (Aj (Ab fin))
  |exact Ab fin
theorem J6{σ:St}(I:Inv X pins σ H s)(g:DGet H a y o):s.TypeIs (.ref a) "dict":=by
 rcases g with⟨kvs,k,e,_,_⟩|⟨kvs,k,b,e,_,_,_⟩
 ·obtain⟨_,_,vs,_,dd⟩:=nR I.hok e;exact dd.typeIs
 ·obtain⟨_,_,xs,_,dd⟩:=pP I.hok e;exact dd.typeIs
def yf(td ty:TE):TE:=λσ H Q=>td σ H λx H1=>ty σ H1 λy H2=>∃a v,x=.ref a/\DGet H2 a y (ae v)/\Q v H2
def lJ(ty td:TE):TE:=λσ H Q=>ty σ H λy H1=>td σ H1 λx H2=>∃a o,x=.ref a/\DGet H2 a y o/\Q (.bl o.isSome) H2
def nz(ty td:TE):TE:=λσ H Q=>ty σ H λy H1=>td σ H1 λx H2=>∃a o,x=.ref a/\DGet H2 a y o/\Q (.bl (!o.isSome)) H2
def uS(td ty tv:TE):TS:=λD σ H=>tv σ H λv H1=>td σ H1 λx H2=>ty σ H2 λy H3=>∃a H4,x=.ref a/\DPut H3 a y v H4/\D.nx σ H4
section
variable{X:Cx}{o i e value:Expr}{pos pos' tpos:Pos}{td ty tv:TE}
theorem KD(hu:X.A.units+1 < Du)(ho:PE X o td)(hi:PE X i ty)(hs:iL i):PE X (.Subscript o i pos) (yf td ty):=by
 sleep 6;refine zh PySem.F.slot_dict_getitem.lookup hs (aP (ho pins s σ H _ I h) λu s1 ⟨x,H1,I1,rx,q1⟩=>aP (hi pins s1 σ H1 _ I1 q1) λiv s2 ⟨y,H2,I2,ry,a,v,ex,g,q2⟩=>?_);sleep 22;exact⟨J6 I2 g,Me hu I2 g ry λw' s3 I3 rw'=>⟨v,H2,I3,rw',q2⟩⟩
theorem QT(hu:X.A.units+1 < Du)(hi:PE X i ty)(ho:PE X o td):PC X .In i o (lJ ty td):=by
 sleep 6;refine aP (hi pins s σ H _ I h) λiv s1 ⟨y,H1,I1,ry,q1⟩=>aP (ho pins s1 σ H1 _ I1 q1) λu s2 ⟨x,H2,I2,rx,a,ov,ex,g,q2⟩=>?_;sleep 22;exact xh hu I2 g ry λs3 I3=>⟨.bl ov.isSome,H2,I3,rfl,q2⟩
theorem ET(hu:X.A.units+1 < Du)(hi:PE X i ty)(ho:PE X o td):PC X .NotIn i o (nz ty td):=by
 sleep 6;refine aP (hi pins s σ H _ I h) λiv s1 ⟨y,H1,I1,ry,q1⟩=>aP (ho pins s1 σ H1 _ I1 q1) λu s2 ⟨x,H2,I2,rx,a,ov,ex,g,q2⟩=>?_;sleep 22;exact OQ hu I2 g ry λs3 I3=>⟨.bl (!ov.isSome),H2,I3,rfl,q2⟩
theorem Hy(hu:X.A.units+1 < Du)(ho:PE X o td)(hi:PE X i ty)(hv:PE X value tv)(hs:C5 value (ae (.Subscript o i pos')) pos.line X.env=pure ai):
  PS X (.Assign [.Subscript o i pos'] value pos) (uS td ty tv):=by
 sleep 16;refine wpAny_Assign_Subscript (aP (hv pins s σ H _ I h) λr s1 ⟨v,H1,I1,rv,q1⟩=>aP (ho pins s1 σ H1 _ I1 q1) λu s2 ⟨x,H2,I2,rx,q2⟩=>aP (hi pins s2 σ H2 _ I2 q2) λiv s3 ⟨y,H3,I3,ry,a,H4,ex,g,q3⟩=>?_) hs;sleep 22;exact Jg hu I3 g ry rv λs4 I4=>⟨σ,H4,I4,q3⟩
end
theorem Ip(h:Heap)(hb:De < h.objs.size):ObjOk P w H (h.push {cls:=.type "dict",data:=.dict #[]}) h.objs.size (.dK []):=
 ⟨A6 _,beq_eq_false_iff_ne.mpr (Ne.symm (Bd hb)),[],.nil,Heap.DictOf.new h⟩
theorem yk(h:Heap)(hb:De < h.objs.size):ObjOk P w H (h.push {cls:=.type "dict",data:=.dict #[]}) h.objs.size (.dT []):=
 ⟨A6 _,beq_eq_false_iff_ne.mpr (Ne.symm (Bd hb)),[],.nil,_,#[],0,Aw _ rfl,⟨rfl,rfl,rfl⟩,rfl,rfl,List.nodup_nil⟩
def AZ:TE:=λ_ H Q=>∀p,H p=af->Q (.ref p) (upd H p (.dK []))
def BP:TE:=λ_ H Q=>∀p,H p=af->Q (.ref p) (upd H p (.dT []))
section
variable{X:Cx}{pos:Pos}
theorem ML:PE X (.Dict [] [] pos) AZ:=λpins s σ H Q I h=>
 wpAny_Dict_empty ⟨.ref s.heap.objs.size,_,I.laid (a:=s.heap.objs.size) (o:=.dK []) (t':=s.toks) (λ_ _ q=>Af _ q) (Aq _) (Ip s.heap I.big),rfl,h _ ⇑89⟩
theorem SM:PE X (.Dict [] [] pos) BP:=λpins s σ H Q I h=>
 wpAny_Dict_empty ⟨.ref s.heap.objs.size,_,I.laid (a:=s.heap.objs.size) (o:=.dT []) (t':=s.toks) (λ_ _ q=>Af _ q) (Aq _) (yk s.heap I.big),rfl,h _ ⇑89⟩
end
def lI(kvs more:List (aH×V)):List (aH×V):=more.foldl (λacc kv=>b6 acc kv.1 kv.2) kvs
end L2
namespace Att
open PySem PySem.W PySem.Calls PyProof.Rows
theorem RD:∀(ns:List Int)(vs:List Ag),WellAll P h vs (ns.map WData.int)->IntsAre vs ns:=by
 intro ns
 induction ns with
 |nil=>
  intro vs w;rw[Ei]at w;cases w;exact .nil
 |cons n ns ih=>
  intro vs w;rw[Bc]at w;cases w with
  |cons a b=>
   cases a;exact .cons _ _ (ih _ b)
theorem SE{l:OpenLaw}(hn:l.most=ae n)
  (hpre:l.row.toRowW.claim.pre args=ah) (hwl:WellAll P h vals args):
  ∃a vs ns,vals=[A4 a]/\args=[WData.list (ns.map WData.int)]/\h.get? a=ae {cls:=.type "list",data:=.seq vs.toArray}/\IntsAre vs ns/\ns.length<=n:=by
 have hsh:WShape.hasAll [] args [.list .int]=ah:=(pre_splitW hpre).1;have hc:l.pre.holds [] {args:=args}=ah:=(pre_splitW hpre).2;obtain⟨d,r,rfl,h1,h2⟩:=hasAllW_cons hsh;obtain rfl:=hasAllW_nil h2;obtain⟨xs,rfl,h3⟩:=hasW_list h1;obtain⟨ns,rfl⟩:=items_int h3;have hlen:ns.length<=n:=by
  unfold OpenLaw.pre at hc;have h4:(WTm.not (.lt (.lit (.int (n:Int))) (.len (.arg 0)))).holds [] {args:=[.list (ns.map .int)]}=ah:=by
   have h4:=(holds_andW hc).1;rw[hn]at h4;exact h4
  have h5:=condW_of h4 (w_not (w_lt w_lit (w_len_list (w_arg rfl))));rw[Aa]at h5;refine Nat.le_of_not_lt λq=>?_;have q':(n:Int) < ((ns.length:Nat):Int):=by omega
  first
   | (rw[decide_eq_true q']at h5;exact absurd h5 ∎)
   | (simp at h5;omega)
 cases hwl with
 |cons w1 w2=>
  cases w2;cases w1 with
  |list ho hall=>exact⟨_,_,ns,rfl,rfl,ho,RD ns _ hall,hlen⟩
theorem T5(l:OpenLaw)(args):l.row.toRowW.claim.post args ⇑32 args=ah:=
 postW_of (r:=l.row.toRowW) (X:=(ah==ah))
  (show WShape.has [] ⇑32 .bool=ah by first|rfl|decide|simp[WShape.has,WShape.arms,WShape.armsAll])
  (show(WTm.eq .res (.lit ⇑32)).value [] {args:=args,res:=ae ⇑32,after:=args}=ae (.bool (ah==ah))from w_eq_bool (w_res rfl) w_lit) rfl
theorem attach_call{l:OpenLaw}
  (hn:l.most=ae n) (hdf:d.params.defaults=[])
  (call:∀(w:Bt)(s₀ s₁:Ak)(mg mb:Str->Option Ag)(fa:Addr)(o:Obj)(pm cd doc:Ag)(a:Addr)(vs:List Ag)(ns:List Int),
   Ground q loose [] XP w s₀ mg mb s₁.heap->YP w s₁.heap->
   s₁.heap.get? fa=ae o->o.data=.func (docDef d.name d.params d.body d.scope pm cd doc)->s₁.heap.CodeRec cd d.name->mg d.name=ae (.ref fa)->
   s₁.heap.get? a=ae {cls:=.type "list",data:=.seq vs.toArray}->IntsAre vs ns->ns.length<=n->s₁.gens=#[]->
   F2 (Be l.prog w) callerA (.call (.ref fa) ⟨[.ref a],[]⟩) (λr s'=>r=.ok (.ret ⇑32)/\OldK s₁.heap s'.heap/\s'.os=s₁.os/\AllBare s'.gens) s₁):
  WalkO q loose XP YP l.row.toRowW d [] (λf vs=>PySem.call f vs):=by
 intro w s₀ s₁ mg mb G Y fa o pm cd doc dV kV ho hd hcd hD hmg hg args vals as hpre hlay hrd hwl hlo;obtain rfl:dV=.none:=Dflts.none hD hdf;obtain rfl:kV=.none:=Dflts.noKw hD;obtain⟨a,vs,ns,rfl,rfl,hobj,hints,hlen⟩:=SE hn hpre hwl;refine enter_call (codeAny_mono (call w s₀ s₁ mg mb fa o pm cd doc a vs ns G Y ho (fd_plain hd) hcd hmg hobj hints hlen hg) λr s' hq=>?_);obtain⟨rfl,h2,h3,h4⟩:=hq;exact⟨.inl ⟨.bool ah,.bool ah,[],rfl,λ_=>rfl,.bool ah,T5 l _,λ_=>⟨List.Pairwise.nil,λ_ hm=>(nomatch hm)⟩⟩,h2,h3,h4⟩
end Att
namespace L2
open PySem PySem.Spec PyProof.Rows
theorem DR:∀{vs:List Ag}{ns:List Int},IntsAre vs ns->Vals ⇑80 vs
 |_,_,.nil=>.nil
 |_,_,.cons n t h=>.cons ⟨t,rfl⟩ (DR h)
def lu(H:Hp):Prop:=∀b,H b=af\/∃o xs,H b=ae (.frz o (.lst xs))
theorem UL{K:Ah}
  (KX:K.In s₁.heap) (hns:s₁.heap.Ns D1 mg) (hb:s₁.heap.Ns builtinsNs mb) (hbb:∀x:Str,x≠"__name__"->mb x=Bv x) (hlim:s₁.heap.NoLimit) (hg:s₁.gens=#[])
  (ha:s₁.heap.get? a=ae {cls:=.type "list",data:=.seq vs.toArray}) (hi:IntsAre vs ns) (hl:ns.length<=Az) (hr:Room k callerA)
  (F:∀base:Heap,K.In base->base.Ns D1 mg->FnOk P w K mg base CX k fa fd [x] sp) (hbind:∀(s:Ak)(u:Ag),BindsTo s fd ⟨[u],[]⟩ [(x,u)])
  (hsp:∀H:Hp,lu H->SqL K H a ⇑80->sp [.ref a] H (λv _=>v=.bl ah) λ_ _ _=>False)
  (hCX:∀H e s',CX [] H s₁ (λ_ _ _=>False) e s'->False):
  F2 (Be P w) callerA (.call (.ref fa) ⟨[.ref a],[]⟩) (λr s'=>r=.ok (.ret ⇑32)/\OldK s₁.heap s'.heap/\s'.os=s₁.os/\AllBare s'.gens) s₁:=by
 have rv:=DR hi;have lenV:=hi.length
 have core:∀H:Hp,lu H->SqL K H a ⇑80->HOk P w H s₁.heap->(∀b,H b≠af->b=a)->(H a≠af->K.lookup a=af)->
   F2 (Be P w) callerA (.call (.ref fa) ⟨[.ref a],[]⟩) (λr s'=>r=.ok (.ret ⇑32)/\OldK s₁.heap s'.heap/\s'.os=s₁.os/\AllBare s'.gens) s₁:=by
  intro H hO hS hok hA hK;have base_of:∀{b:Addr}{o:Obj},s₁.heap.get? b=ae o->H b=af->(fK s₁.heap H).get? b=ae o:=λe n=>Nx e n;have noA:∀{b:Addr}{o:Obj}{es:Array G8}{ep:Nat},s₁.heap.get? b=ae o->o.data=.dict es ep->H b=af:=λ{b o es ep} e d=>by
   cases q:H b with
   |none=>rfl
   |some u=>
    have e':b=a:=hA b (by rw[q];simp);subst e';rw[ha]at e;cases e;have d':Data.seq vs.toArray _=Data.dict es ep:=d;cases d'
  have nsK:∀{b:Addr}{m:Str->Option Ag},s₁.heap.Ns b m->(fK s₁.heap H).Ns b m:=λ{b m} ⟨o,es,ep,e,d,r⟩=>⟨o,es,ep,base_of e (noA e d),d,r⟩;have hKb:K.In (fK s₁.heap H):=λb o e=>base_of (KX b o e) (by
   cases q:H b with
   |none=>rfl
   |some u=>
    have e':b=a:=hA b (by rw[q];simp);subst e';rw[hK (by rw[q];simp)]at e;cases e)
  have hM:Mod K mg (fK s₁.heap H):=⟨hKb,nsK hns,⟨mb,nsK hb,hbb⟩,let⟨mc,h1,h2⟩:=hlim;⟨mc,nsK h1,h2⟩⟩;have e0:Env0 P w K mg (fK s₁.heap H) callerA [] s₁ H:=⟨rfl,hM,λb o e=>Sn e,Nat.le_of_eq (TB _ _),trivial,λb hb=>absurd (show b∈([]:List Addr)from hb) (by simp),hok,.of_eq hg⟩;refine codeAny_mono ((F _ hKb (nsK hns)).run callerA [] s₁ H ⟨[.ref a],[]⟩ [.ref a] [.ref a] _ _ hr e0 (hbind s₁ (.ref a)) (.cons rfl .nil) (hsp H hO hS)) λr s' h=>?_;cases r with
  |error e=>exact(hCX H e s' h).elim
  |ok fl=>
   cases fl with
   |next=>exact False.elim h
   |brk=>exact False.elim h
   |cont=>exact False.elim h
   |ret u=>
    obtain⟨v,H',os,bare,un,hok',r',q⟩:=h;have q':v=.bl ah:=q;subst q';obtain rfl:u=Value.bool ah:=r';refine⟨rfl,OldK.of_keep λb o e=>?_,os,bare⟩;cases q:H b with
    |none=>exact un.keep b o e q (by intro z;exact absurd (show b∈([]:List Addr)from z) (by simp)) (by simp)
    |some u=>
     rcases hO b with z|⟨ob,xs,z⟩
     ·rw[q]at z;cases z
     ·have z2:=un.frzs b ob _ z;obtain⟨e1,_⟩:=hok b _ z;obtain⟨e2,_⟩:=hok' b _ z2;rw[e]at e1;cases e1;exact e2
 cases hk:K.lookup a with
 |some o=>
  have e:=KX a o hk;rw[ha]at e;cases e;refine core (λ_=>af) (λ_=>.inl rfl) (.inr ⟨_,vs.toArray,_,hk,rfl,rfl,rfl,by rw[A2,lenV];exact hl,by simpa using rv⟩) (λb u z=>by have z':(af:Option HO)=ae u:=z;cases z') (λb z=>absurd rfl z) λz=>absurd rfl z
 |none=>
  refine core (λb=>if b=a then ae (.frz {cls:=.type "list",data:=.seq vs.toArray} (.lst ⇑80))else af) (λb=>?_) (.inl (.inr ⟨{cls:=.type "list",data:=.seq vs.toArray},if_pos rfl⟩)) (λb u z=>?_) (λb z=>?_) λ_=>hk
  ·by_cases hb:b=a
   ·exact .inr ⟨_,_,if_pos hb⟩
   ·exact .inl (if_neg hb)
  ·by_cases hb:b=a
   ·have z':=(if_pos hb).symm.trans z;cases z';subst hb;exact⟨ha,by rw[Aa];exact hl,vs,_,rv,ha⟩
   ·have z':=(if_neg hb).symm.trans z;cases z'
  ·by_cases hb:b=a
   ·exact hb
   ·exact absurd (if_neg hb) z
theorem walk_of{l:PySem.W.OpenLaw}{K:Params->Ah}{CX:Bt->iU}{sp:Bt->Sp}
  (hn:l.most=ae n) (hn2:n<=Az) (hdf:d.params.defaults=[]) (hr:Room k callerA)
  (hY:∀(w:Bt)(h:Heap),YP w h->(K w.params).In h)
  (F:∀(w:Bt)(mg:Str->Option Ag)(fa:Addr)(h:Heap),(K w.params).In h->h.Ns D1 mg->mg d.name=ae (.ref fa)->
   ∃fd:Cg,(∀(s:Ak)(u:Ag),BindsTo s fd ⟨[u],[]⟩ [(x,u)]) /\
    ∀base:Heap,(K w.params).In base->base.Ns D1 mg->FnOk l.prog w (K w.params) mg base (CX w) k fa fd [x] (sp w))
  (hsp:∀(w:Bt)(H:Hp)(a:Addr)(ns:List Int),ns.length<=n->lu H->SqL (K w.params) H a ⇑80->sp w [.ref a] H (λv _=>v=.bl ah) λ_ _ _=>False)
  (hCX:∀(w:Bt)(H:Hp)(s:Ak)(e:Ag)(s':Ak),CX w [] H s (λ_ _ _=>False) e s'->False):
  PySem.W.WalkO q loose XP YP l.row.toRowW d [] (λf vs=>PySem.call f vs):=by
 refine Att.attach_call hn hdf λw s₀ s₁ mg mb fa o pm cd doc a vs ns G Y ho hd hcd hmg hobj hints hlen hg=>?_;have KX:=hY w _ Y;obtain⟨fd,hb,hF⟩:=F w mg fa _ KX G.T.g hmg;exact UL KX G.T.g G.T.b G.T.builtins G.T.nolimit hg hobj hints (Bj hlen hn2) hr hF hb (λH hO hS=>hsp w H a ns hlen hO hS) λH e s'=>hCX w H s₁ e s'
abbrev cx:iU:=λ_ _ _ _ _ _=>False
abbrev E0:XK:=λ_ _ _=>False
theorem mn:uO cx X E0:=λ_ _ _ _ _ _ _ h=>h.elim
structure Fun(K:Ah)(x qual:Str)(st:Stmt)(f:Addr)(fd:Cg):Prop where
 ex:∃(oc:Ag)(od:Option Addr)(kV doc pm:Ag)(an:Option Addr)(cdv ct:Ag)(osl:Array (Option Ag)),
  fd=Fu x qual (kP st) (fA st) (b8 st) .none kV doc pm an cdv ct/\K.lookup f=ae ⟨oc,od,.func fd,osl⟩/\PySem.W.codeIn K cdv qual=ah
 kp:Cw K (.ref f)=ah
section
variable{P:Bh}{w:Bt}{K:Ah}{mg:Str->Option Ag}{base:Heap}
theorem Fun.ok{st:Stmt}(F:Fun K x qual st f fd)(S:FnScope N ps (b8 st))(len:∀vs H Q E,sp vs H Q E->vs.length=ps.length)
  (hbody:∀(cdv:Ag)(A:B1)(outer:List Env)(s:Ak)(H:Hp)(vs:List V)(Q:VK)(E:XK),Room k (A.deeper (envOfC qual (b8 st) s.heap.objs.size f cdv))->sp vs H Q E->
   ∃t,PSs (cO cx P w K mg base N qual (b8 st) f cdv A outer s H E).nox (fA st) t/\t {nx:=λ_ H'=>Q .non H',rt:=Q} (start N vs) H):FnOk P w K mg base cx (k+1) f fd ps sp:=by
 obtain⟨oc,od,kV,doc,pm,an,cdv,ct,osl,rfl,lk,hcd⟩:=F.ex;refine Pt lk hcd S len λA outer s H vs Q E hr hsp=>?_;obtain⟨t,h,q⟩:=hbody cdv A outer s H vs Q E hr hsp;exact⟨t,h.nox,q⟩
theorem Fun.binds{st:Stmt}(F:Fun K x qual st f fd)
  (h:∀(kV doc pm:Ag)(an:Option Addr)(cdv ct:Ag)(us:List Ag),us.length=ps.length->bindArgs (Fu x qual (kP st) (fA st) (b8 st) .none kV doc pm an cdv ct) ⟨us,[]⟩=pure (ps.zip us)):Binds K fd ps []:=by
 obtain⟨oc,od,kV,doc,pm,an,cdv,ct,osl,rfl,lk,hcd⟩:=F.ex;exact .all (h kV doc pm an cdv ct)
theorem QX{st:Stmt}{kV doc pm cdv ct:Ag}(l:K.lookup f=ae ⟨oc,od,.func (Fu x qual (kP st) (fA st) (b8 st) .none kV doc pm an cdv ct),osl⟩)
  (c:PySem.W.codeIn K cdv qual=ah) (k:Cw K (.ref f)=ah):Fun K x qual st f (Fu x qual (kP st) (fA st) (b8 st) .none kV doc pm an cdv ct):=⟨⟨oc,od,kV,doc,pm,an,cdv,ct,osl,rfl,l,c⟩,k⟩
end
theorem BC(h:n<=1000):n < Az:=Fl h ∎
section
variable{X:Cx}
theorem pv(i){pos:Pos}(hN:X.N[i]?=ae x:=by rfl)(hv:fC X.env.scope x:=by first|exact Cs rfl|exact Ca (Cs rfl)|exact Ca (Ca rfl))(hd:⇑21=ai:=by decide)
  (hcd:⇑46=ai:=by decide):PE X (.Name x pos) (aM i):=gh hN hv hd hcd
end
theorem u5{A B:Prop}(h:B):if ai=ah then A else B:=by
 sleep 7;exact h
theorem ju{c A B:Prop}[Decidable c](h1:c->A)(h2:¬c->B):if c then A else B:=by
 by_cases h:c
 ·rw[if_pos h];exact h1 h
 ·rw[if_neg h];exact h2 h
def iG(H H':Hp):Prop:=∀b o,H b=ae o->H' b=ae o
end L2
namespace L2
open PySem PySem.Spec PyProof.Rows
section
variable{prog:Bh}{w:Bt}{A:B1}{R:Result->Ak->Prop}{s:Ak}
theorem ES(I:Nat->Ak->Prop)
  (turn:∀n s,I n s->A1 ⇑13 A (Eu it) (λr s₁=>match r with
   |none=>R (.ok .next) s₁
   |some v=>A1 ⇑13 A (letOwnedTupleGo target it v) (λ_ s₁'=>A1 ⇑13 A (assign target env v) (λ_ s₂=>
     A1 ⇑13 A (forIn ifs ah λc r=>if r=ah then do let ok <-isTrue c env (eval c env);pure (Gv ok)else pure (Gv r)) (λok s₃=>
      if ok=ah then A1 ⇑13 A (eval elt env) (λx s₄=>
       A1 ⇑13 A (call (.builtin "list.append") [acc,x]) (λ_ s₅=>∃m,m < n/\I m s₅) ⇑81 s₄) ⇑81 s₃
      else ∃m,m < n/\I m s₃) ⇑81 s₂) ⇑81 s₁') ⇑81 s₁) ⇑81 s)
  (n) (h:I n s):F2 ⇑13 A (.compLoop (.ListComp elt [⟨target,iter,ifs,0⟩] scope pos) 0 it acc env) R s:=by
 refine codeAny_loop rfl I (λn s hI=>?_) n h;show A1 _ A ((compTurn (.ListComp elt [⟨target,iter,ifs,0⟩] scope pos) 0 it acc env).onRaise (λx=>do noteFrame x env;theTreesLotGoes x)) _ _ s;refine wpAny_noted ?_;rw[compTurn_list];refine Ab (wpAny_standAt (Ab (Dr (turn n s hI) (λr s₁ h₁=>?_) λ_ _ f=>f.elim)));cases r with
 |none=>exact Aj h₁
 |some v=>
  refine Ab (Dr h₁ (λ_ s₁' h₁'=>?_) λ_ _ f=>f.elim);refine Ab (Dr h₁' (λ_ s₂ h₂=>Ab (Dr h₂ (λok s₃ h₃=>?_) λ_ _ f=>f.elim)) λ_ _ f=>f.elim);cases ok with
  |false=>exact Aj ⟨rfl,h₃⟩
  |true=>
   exact Ab (Ab (Dr h₃ (λx s₄ h₄=>Ab (Dr h₄ (λ_ s₅ h₅=>Aj (Aj ⟨rfl,h₅⟩)) λ_ _ f=>f.elim)) λ_ _ f=>f.elim))
end
def de(X:Cx)(N:List Str)(scope:Fp)(cl:List (Str×Addr))(s:Ak)(H:Hp)(fp:List Addr):Cx:=
 { X with N:=N,s₀:=s,H₀:=H,env:=compEnvC scope cl s.heap.objs.size X.env,outer:=X.stack,ex:=fp,fn:=λ_=>ai,pn:=[],xe:=λ_ _=>False}
structure CompSc(X:Cx)(N:List Str)(scope:Fp)(cl:List (Str×Addr))(fr:List ⇑70):Prop where
 clos:closureFor scope X.env=pure cl
 kind:scope.kind=.function
 nocell:∀y∈scope.names,y.2≠.cell
 names:∀y∈scope.names,y.2=.local->scope.names.lookup y.1=ae .local
 sub:∀x c,cl.lookup x=ae c->X.env.cells.lookup x=ae c
 has:∀x,((relabel scope X.env).names.lookup x=ae .cell\/(relabel scope X.env).names.lookup x=ae .free)->∃c,cl.lookup x=ae c
 len:fr.length=N.length
 fre:∀(j i:Nat),fr[j]?=ae (ae i)->∃x,N[j]?=ae x/\X.N[i]?=ae x/\fC X.env.scope x/\(X.env.kindOf x=ae .cell\/X.env.kindOf x=ae .free) /\
  ((relabel scope X.env).names.lookup x=ae .cell\/(relabel scope X.env).names.lookup x=ae .free)/\cl.lookup x=X.env.cells.lookup x
theorem rH{κ:Type}:∀{l:List (Str×κ)}{x:Str}{k:κ},l.lookup x=ae k->(x,k)∈l
 |[],_,_,h=>nomatch h
 | (y,k')::r,x,k,h=>by
  rw[List.lookup_cons]at h;cases e:x==y with
  |true=>
   rw[e]at h;have e':x=y:=by simpa using e
   have h':k'=k:=Bb h;rw[e',h'];exact Au
  |false=>
   rw[e]at h;exact Ap _ (rH h)
theorem FJ{κ:Type}:∀{l:List (Str×κ)}{x:Str},x∈l.map (·.1)->∃k,l.lookup x=ae k
 |[],_,h=>absurd h (by simp)
 | (y,k')::r,x,h=>by
  rw[List.lookup_cons];cases e:x==y with
  |true=>exact⟨k',rfl⟩
  |false=>
   have ne:¬x=y:=λz=>by rw[z]at e;simp at e
   have h':x∈y::r.map (·.1):=h;rcases Ax.mp h' with z|z
   ·exact absurd z ne
   ·exact FJ z
theorem Rq{X:Cx}{cl:List (Str×Addr)}(nm)(ks)(hrel:(relabel scope X.env).names=nm)(hks:cl.map (·.1)=ks)(h3:∀y∈nm,(y.2=.cell\/y.2=.free)->y.1∈ks):
  ∀x,((relabel scope X.env).names.lookup x=ae .cell\/(relabel scope X.env).names.lookup x=ae .free)->∃c,cl.lookup x=ae c:=by
 intro x h;rw[hrel]at h;refine FJ ?_;rw[hks];rcases h with h|h
 ·exact h3 _ (rH h) ⇑27
 ·exact h3 _ (rH h) (.inr rfl)
def dY(fr:List ⇑70)(σ:St):St:=fr.map λo=>o.bind λi=>(σ[i]?).bind id
theorem OT{j:Nat}(h:(dY fr σ)[j]?=ae (ae v)):∃i,fr[j]?=ae (ae i)/\σ[i]?=ae (ae v):=by
 unfold dY at h;rw[Am]at h;cases e:fr[j]? with
 |none=>rw[e]at h;cases h
 |some o=>
  rw[e]at h;cases o with
  |none=>cases h
  |some i=>
   refine⟨i,rfl,?_⟩;have h':(σ[i]?).bind id=ae v:=Bb h;cases e2:σ[i]? with
   |none=>rw[e2]at h';cases h'
   |some o2=>
    rw[e2]at h';have h2:o2=ae v:=h';rw[h2]
def nJ(X:Cx)(ifs:List Expr)(tt:TT):Prop:=
 ∀(pins:List ⇑16)(s:Ak)(σ:St)(H:Hp)(Q:Bool->Hp->Prop),Inv X pins σ H s->tt σ H Q->
  A1 ⇑14 X.A (forIn ifs ah λc r=>if r=ah then do let ok <-isTrue c X.env (eval c X.env);pure (Gv ok)else pure (Gv r)) (TP X pins σ Q) X.xe s
def DK:TT:=λ_ H Q=>Q ah H
theorem Rx:nJ X [] DK:=λ_ _ _ H _ I h=>wpAny_tests_nil ⟨H,I,h⟩
theorem L8(h:PT X c tt):nJ X [c] tt:=λpins s σ H Q I q=>wpAny_tests_one (h pins s σ H Q I q)
def ot(fr:List ⇑70)(wi:TI)(g:TG)(tt:TT)(te:TE):TE:=λσ H Q=>wi σ H λJ H1=>∀D,H1 D=af->
 ∃W:Nat->Nat->List V->St->Hp->Prop,(∃m,W 0 m [] (dY fr σ) (upd H1 D (.lst [])))/\∀i m ys τ H,W i m ys τ H->
  ((J.stop i H/\Q (.ref D) H)\/(J.go i H/\ys.length < Az/\∀x H',J.yld i H x H'->g x τ H' λτ2 H2=>tt τ2 H2 λb H3=>
   if b=ah then te τ2 H3 (λy H4=>H4 D=ae (.lst ys)/\∃m',m' < m/\W (i+1) m' (ys++[y]) τ2 (upd H4 D (.lst (ys++[y]))))else ∃m',m' < m/\W (i+1) m' ys τ2 H3))
section
variable{X:Cx}{N:List Str}{scope:Fp}{cl:List (Str×Addr)}{fr:List ⇑70}{pins:List ⇑16}{σ:St}{H:Hp}{s:Ak}{fp:List Addr}
theorem LD(S:CompSc X N scope cl fr)(I:Inv X pins σ H s)(hf:∀b∈fp,cZ X pins H b)(hlt:∀b∈fp,b < s.heap.objs.size):(de X N scope cl s H fp).Ok where
 mod:=I.ok.mod
 kind:=S.kind
 glob:=I.ok.glob
 blt:=I.ok.blt
 above:=Aq _
 inj:=λx y c a b=>I.ok.inj x y c (S.sub x c a) (S.sub y c b)
 has:=λx h=>S.has x h
 cab:=λx c h=>nomatch h
 hd:=I.ok.hd
 frames:=I.ok.frames
 stk:=.inl rfl
 exf:=λb hb=>⟨Bd (hlt b hb),λx c e=>(hf b hb).2.2.2.2.1 x c (S.sub x c e)⟩
 bs:=I.bs
 bsz:=Bj I.ok.bsz I.sz
 noex:=λb o e hb=>by
  rcases(hf b hb).2.2.2.1 with z|z
  ·exact I.ok.noex b o e z
  ·exact absurd (Bq (As (I.ok.bs b o e).1) z) (D7 _)
 exfs:=λb hb z=>by
  rcases Ax.mp (I.stkSub b z)with e|e
  ·exact(hf b hb).2.1 e
  ·exact(hf b hb).2.2.1 e
 funs:=I.stack
 frf:=I.stkFree
theorem yu(S:CompSc X N scope cl fr)(I:Inv X pins σ H s)(hf:∀b∈fp,cZ X pins H b)(hlt:∀b∈fp,b < s.heap.objs.size)
   (hsb:C4 s.heap.objs.size (s.heap.push ob) h₁)  (hn:h₁.Ns s.heap.objs.size m):
  Inv ⇑48 [] (dY fr σ) H {s with heap:=h₁,toks:=t'}:=by
 have old:∀b o,s.heap.get? b=ae o->h₁.get? b=ae o:=λb o e=>(hsb.2 b (Bd (As e))).trans (Af _ e);refine⟨LD S I hf hlt,rfl,I.bare,Un.kept old,⟨m,hn,λj x v e1 e2 e3=>?_⟩,λx c e=>?_,I.fresh,λx c e=>I.freeC x c (S.sub x c e),λp hp=>?_,I.hok.kept old,?_⟩
 ·obtain⟨i,f1,f2⟩:=OT e2;obtain⟨y,g1,g2,g3,g4,g5,g6⟩:=S.fre j i f1;have e1':N[j]?=ae x:=e1;rw[g1]at e1';have exy:y=x:=Bb e1';subst exy;obtain⟨m0,hn0,hl⟩:=I.loc;obtain⟨u,r,l⟩:=hl i y v g2 f2 g3;refine⟨u,r,.inr ⟨g5,?_⟩⟩;rcases l with⟨k,_⟩|⟨k,c,e,z⟩
  ·rcases g4 with q|q
   ·rw[q]at k;cases k
   ·rw[q]at k;cases k
  ·exact⟨c,g6.trans e,z.keeps old⟩
 ·obtain⟨v,z⟩:=I.cell x c (S.sub x c e);exact⟨v,z.keeps old⟩
 ·exact absurd hp (by simp[de])
 ·show(dY fr σ).length=N.length;unfold dY;rw[Aa,S.len]
theorem FY{τ:St}(I:Inv X pins σ H s0)(hf:∀b∈fp,cZ X pins H b)(I':Inv (de X N scope cl s0 H fp) [] τ H' s')(hs:C4 s0.heap.objs.size s'.heap h'):
  Inv X pins σ H' {s' with heap:=h'}:=by
 have hC:H' s0.heap.objs.size=af:=I'.free;have u:Un (iw X.stack) fp H H' s0.heap s'.heap:=I'.base;have ne:∀b o,s0.heap.get? b=ae o->b≠s0.heap.objs.size:=λb o e=>Bd (As e);have hok':HOk X.prog X.w H' h':=λb o e=>by
  have q:ObjOk X.prog X.w H' s'.heap b o:=I'.hok b o e;refine q.stay (λc v hc z=>(hs.2 c ?_).trans z) (λ_ z=>z) λ_ _ z=>z
  rintro rfl
  rcases hc with z|z
  ·rw[<-z,hC]at e;cases e
  ·rw[hC]at z;cases z
 refine I.call' (s':={ s' with heap:=h'}) (ch:=fp) I'.os ?_ hok' I'.bare λb hb=>?_
 ·refine⟨λb o e n h1 h2=>(hs.2 b (ne b o e)).trans (u.keep b o e n h1 h2),λb o e n h1 h2=>?_,u.free,λb o e h2=>?_,u.tups,u.frzs,u.tbls⟩
  ·obtain⟨sl,z⟩:=u.slot b o e n h1 h2;exact⟨sl,(hs.2 b (ne b o e)).trans z⟩
  ·obtain⟨o',z⟩:=u.there b o e h2;exact⟨o',(hs.2 b (ne b o e)).trans z⟩
 ·obtain⟨_,f1,_,f3,f4,f5⟩:=hf b hb;exact⟨f3,f1,f4,f5⟩
end
theorem Ru
  (hc:X.calm=ah) (S:CompSc X N scope cl fr) (hi:PI X tg iter wi) (hg:∀s H fp,PG ⇑48 tg g) (ht:∀s H fp,nJ ⇑48 ifs tt)
  (he:∀s H fp,PE ⇑48 elt te) (hs:∀x,E5 iter X.env x=pure x:=by intro _;rfl):
  PE X (.ListComp elt [⟨tg,iter,ifs,0⟩] scope pos) (ot fr wi g tt te):=by
 sleep 6;rw[eval_ListComp];refine wpAny_comprehension_free (use:=af) (cl:=cl) rfl hs S.clos S.kind S.names (aP (hi pins s σ H _ I h) λv s1 h1=>aP h1 λitv s2 h2=>?_);obtain⟨it,fp,tn,J,H2,e,I2,T,st2,f2,q⟩:=h2;subst e;refine Bx (wpAny_newFunctionEnv S.nocell (by intro y hy;simp at hy) (λh₁ hn hsb=>?_) S.kind);dsimp only at hn hsb ⊢;obtain⟨W,⟨m0,w0⟩,turn⟩:=q s2.heap.objs.size I2.fresh
 have I3:Inv X pins σ ⇑134 {s2 with heap:=s2.heap.push {cls:=.type "list",dict:=af,data:=.seq ([]:List Ag).toArray}}:=I2.lnew (its:=[]) (t':=s2.toks) .nil (A6 _);have key:∀s3:Ak,s3={ s2 with heap:=s2.heap.push {cls:=.type "list",dict:=af,data:=.seq ([]:List Ag).toArray}}->Inv X pins σ ⇑134 s3->
   ∀(ob:Obj)(mm:Str->Option Ag),C4 s3.heap.objs.size (s3.heap.push ob) h₁->h₁.Ns s3.heap.objs.size mm->
   F2 ⇑14 X.A (.compStart (.ListComp elt [⟨tg,iter,ifs,0⟩] scope pos) 0 (.ref it) ⇑63 (compEnvC scope cl s3.heap.objs.size X.env))
    (compPost ⇑14 X.A X.xe af ⇑69 ⇑63 s3.heap.objs.size) {s3 with heap:=h₁,toks:=s3.toks+([]:List (Str×Ag)).length}:=?key
 ·exact key _ rfl I3 _ _ hsb hn
 clear I3 hn hsb;intro s3 hs3 I3 ob mm hsb hn;have hfp:∀b∈fp,∃o,s2.heap.get? b=ae o:=λb hb=>let⟨o,e,_⟩:=T.obj _ _ st2 b hb;⟨o,e⟩;have up:∀b o,s2.heap.get? b=ae o->s3.heap.get? b=ae o:=λb o e=>by rw[hs3];exact Af _ e
 have f3:∀b∈fp,cZ X pins ⇑134 b:=λb hb=>by
  obtain⟨o,e⟩:=hfp b hb;obtain⟨g0,gr⟩:=f2 b hb;exact⟨by rw[aN (Bd (As e))];exact g0,gr⟩
 have hlt:∀b∈fp,b < s3.heap.objs.size:=λb hb=>let⟨o,e⟩:=hfp b hb;As (up b o e);generalize hH3:upd H2 s2.heap.objs.size (.lst [])=H3 at I3 f3 w0;have I4:=yu (t':=s3.toks+([]:List (Str×Ag)).length) S I3 f3 hlt hsb hn;have st4:tn 0 h₁:=T.keep _ _ _ st2 λb hb o e=>(hsb.2 b (Bd (As (up b o e)))).trans (Af _ (up b o e));have stat:∀{H':Hp},(∀b∈fp,H' b=af)->∀b∈fp,cZ ⇑90 [] H' b:=λhn b hb=>by
  obtain⟨_,k1,k2,k3,k4,k5⟩:=f3 b hb;refine⟨hn b hb,Bd (hlt b hb),λz=>?_,.inl hb,λx c e=>k4 x c (S.sub x c e),λp hp=>absurd hp (by simp[de])⟩;rcases Ax.mp (I3.stkSub b z)with e|e
  ·exact k1 e
  ·exact k2 e
 have loop:F2 ⇑14 X.A (.compLoop (.ListComp elt [⟨tg,iter,ifs,0⟩] scope pos) 0 (.ref it) ⇑63 (compEnvC scope cl s3.heap.objs.size X.env))
   (compPost ⇑14 X.A X.xe af ⇑69 ⇑63 s3.heap.objs.size) {s3 with heap:=h₁,toks:=s3.toks+([]:List (Str×Ag)).length}:=by
  refine ES (λn s'=>∃i ys τ Hc,Inv ⇑90 [] τ Hc s'/\tn i s'.heap/\(∀b∈fp,Hc b=af)/\W i n ys τ Hc) ?_ m0 ⟨0,[],dY fr σ,H3,I4,st4,λb hb=>(f3 b hb).1,w0⟩
  rintro n s5 ⟨i,ys,τ,Hc,I5,st5,fr5,w5⟩
  rcases turn i n ys τ Hc w5 with⟨stop,qn⟩|⟨go,hz,step⟩
  ·refine aP (T.done ⇑90 rfl rfl rfl hc i [] s5 τ Hc ⇑81 I5 (stat fr5) st5 stop) λr s6 ⟨hr,I6⟩=>?_;subst hr;obtain⟨mm,hm,_⟩:=I6.loc;exact⟨mm,hm,λh' hs'=>⟨.ref s2.heap.objs.size,Hc,FY I3 f3 I6 hs',rfl,qn⟩⟩
  ·refine aP (T.item ⇑90 rfl rfl rfl hc i [] s5 τ Hc ⇑81 I5 (stat fr5) st5 go) λr s6 ⟨u,hr,h6⟩=>?_;subst hr;refine aP h6 λ_ s7 ⟨x,H7,I7,r7,y7,st7,fr7⟩=>?_;have I7':=I7.pinned (stat fr7) (T.obj _ _ st7);refine aP (hg s3 H3 fp _ s7 τ H7 x u _ I7' r7 (step x H7 y7)) λ_ s8 ⟨τ8,H8,I8,q8⟩=>?_;refine aP (ht s3 H3 fp _ s8 τ8 H8 _ I8 q8) λok s9 ⟨H9,I9,q9⟩=>?_;have keep:∀{st:Ak}{τ':St}{H':Hp},Inv ⇑90 ([]++mD fp s7.heap) τ' H' st->tn (i+1) st.heap/\∀b∈fp,H' b=af:=λ{st τ' H'} Ix=>by
    refine⟨T.keep _ _ _ st7 λb hb o e=>(Ix.pin (b,o) ⇑133).1,λb hb=>?_⟩;obtain⟨o,e,d⟩:=T.obj _ _ st7 b hb;exact(Ix.pin (b,o) ⇑133).2.1
   cases ok with
   |false=>
    rw[if_neg Ai]at q9 ⊢;obtain⟨m',hm,w9⟩:=q9;obtain⟨k1,k2⟩:=keep I9;exact⟨m',hm,i+1,ys,τ8,H9,I9.unpinned,k1,k2,w9⟩
   |true=>
    rw[if_pos rfl]at q9 ⊢;refine aP (he s3 H3 fp _ s9 τ8 H9 _ I9 q9) λxv s10 ⟨y,H10,I10,r10,hD,m',hm,w10⟩=>?_;refine aP (xM _ s10 τ8 H10 ⇑63 [y] ⇑63 [xv] (λz H'=>∃m',m' < n/\W (i+1) m' (ys++[y]) τ8 H') I10 rfl (.cons r10 .nil) ⟨_,ys,y,rfl,rfl,hD,hz,m',hm,w10⟩) λz s11 ⟨z',H11,I11,_,m'',hm',w11⟩=>?_;obtain⟨k1,k2⟩:=keep I11;exact⟨m'',hm',i+1,ys++[y],τ8,H11,I11.unpinned,k1,k2,w11⟩
 exact codeAny_compStart_list loop (T.self _ 0 _ _ _ st4 loop)
mutual
inductive RdD(K:Ah)(H:Hp):V->Ad->Prop
 |non:RdD K H .non .none
 |bl (b:Bool):RdD K H (.bl b) (.bool b)
 |int (i:Int):RdD K H (.int i) (.int i)
 |str (x:Str):RdD K H (.str x) (.str x)
 |lst {a:Addr} {xs:List V} {ds:List Ad}:SqL K H a xs->RdAll K H xs ds->RdD K H (.ref a) ⇑34
 |tup {a:Addr} {xs:List V} {ds:List Ad}:SqT K H a xs->RdAll K H xs ds->RdD K H (.ref a) ⇑25
inductive RdAll(K:Ah)(H:Hp):List V->List Ad->Prop
 |nil:RdAll K H [] []
 |cons {x:V} {xs:List V} {d:Ad} {ds:List Ad}:RdD K H x d->RdAll K H xs ds->RdAll K H (x::xs) (d::ds)
end
section
variable{X:Cx}{pins:List ⇑16}{σ:St}{H:Hp}{s:Ak}
mutual
theorem RdD.reads(I:Inv X pins σ H s):∀{v:V}{d:Ad}{u:Ag},RdD X.K H v d->RelV v u->∃as,Reads s.heap u d as
 |_,_,u,.non,r=>by
  cases(show u=Bi from r);exact⟨_,.none⟩
 |_,_,u,.bl b,r=>by
  cases(show u=Value.bool b from r);exact⟨_,.bool b⟩
 |_,_,u,.int i,r=>by
  obtain⟨t,rfl⟩:=(show ∃t,u=Value.int i t from r);exact⟨_,.int i t⟩
 |_,_,u,.str x,r=>by
  obtain⟨t,rfl⟩:=(show ∃t,u=Value.str x t from r);exact⟨_,.str x t⟩
 |_,_,u,.lst (a:=a) h1 h2,r=>by
  cases(show u=A4 a from r);obtain⟨its,rv,⟨o,n,e,c,_,d⟩,_⟩:=I.list h1;obtain⟨as,ha⟩:=RdAll.reads I h2 rv;exact⟨_,.list e c d (by simpa using ha)⟩
 |_,_,u,.tup (a:=a) h1 h2,r=>by
  cases(show u=A4 a from r);obtain⟨its,rv,⟨o,e,c,n,d⟩,_⟩:=I.tuple h1;obtain⟨as,ha⟩:=RdAll.reads I h2 rv;exact⟨_,.tuple e c d (by simpa using ha)⟩
theorem RdAll.reads(I:Inv X pins σ H s):∀{vs:List V}{ds:List Ad}{us:List Ag},RdAll X.K H vs ds->Vals vs us->∃as,ReadsAll s.heap us ds as
 |_,_,_,.nil,.nil=>⟨_,.nil⟩
 |_,_,_,.cons h1 h2,.cons r1 r2=>by
  obtain⟨as,ha⟩:=RdD.reads I h1 r1;obtain⟨bs,hb⟩:=RdAll.reads I h2 r2;exact⟨_,.cons ha hb⟩
end
end
def zZ(d:Ad):Prop:=D5 d=ah/\Fx d<=20/\PyData.weight d<=2 ^ 20/\PyData.intsShort 13 d=ah/\PyData.showable d=ah
def sf(K:Ah):R2:=λx y H Q=>∃a b xs,x=.ref a/\y=.ref b/\SqL K H a xs/\SqL K H b []/\Q (.bl xs.isEmpty) H
theorem N1(hu:X.A.units < Du):OpR X (B6 .Eq) (sf X.K):=by
 sleep 8;obtain⟨a,b,xs,rfl,rfl,ha,hb,q⟩:=h;cases(show v=A4 a from rx);cases(show u=A4 b from ry);obtain⟨its,r1,p1,_⟩:=I.list ha;obtain⟨its2,r2,p2,_⟩:=I.list hb;have e2:its2=[]:=Vals.zero r2;subst e2;cases r1 with
 |nil=>exact PySem.SeqAt.eq_listAt (e:=λ_=>ah) p1.isList p2.isList rfl hu (λj h1=>absurd h1 (by simp)) ⟨.bl ah,H,I,(by rfl),q⟩
 |cons r1 r3=>exact PySem.SeqAt.eq_list_lengthsAt p1.isList p2.isList (by simp) hu ⟨.bl ai,H,I,rfl,q⟩
def CI(K:Ah):R2:=λx y H Q=>∃a b xs ys,x=.ref a/\y=.ref b/\SqT K H a xs/\SqT K H b ys/\ys≠[]/\xs.length+ys.length<=Az /\
 (xs=[]->Q (.ref b) H)/\(xs≠[]->∀p,H p=af->Q (.ref p) (upd H p (.tup (xs++ys))))
theorem op_catA:OpR X (Fj .Add) (CI X.K):=by
 sleep 8;obtain⟨a,b,xs,ys,rfl,rfl,ha,hb,hy,hz,q0,q2⟩:=h;by_cases hx:xs=[]
 ·cases(show v=A4 a from rx);cases(show u=A4 b from ry);obtain⟨its,r1,p1,_⟩:=I.tuple ha;obtain⟨its2,r2,p2,_⟩:=I.tuple hb;obtain⟨⟨cls,dd,data,sl⟩,ho,hc,n,hd⟩:=id p1;obtain⟨⟨cls2,dd2,data2,sl2⟩,ho2,hc2,n2,hd2⟩:=id p2;simp only at hc hd hc2 hd2;subst hc hd hc2 hd2;have hi:its=[]:=r1.nil_iff.mpr hx;exact concat_meets ⟨_,ho,rfl⟩ ⟨_,ho2,rfl⟩ noFill_tuple_add seq_tuple_add Gh Ge (F7 _ _)
   (tuple_addW0 a b its.toArray its2.toArray n n2 dd dd2 sl sl2 (by simp[hi])) ⟨ho,ho2,⟨.ref b,H,I,rfl,q0 hx⟩⟩
 ·exact op_catT pins s σ H (.ref a) (.ref b) v u Q I rx ry ⟨a,b,xs,ys,rfl,rfl,ha,hb,hx,hz,λe=>absurd e hy,λ_=>q2 hx⟩
theorem Jp:CallR X (.builtin "isinstance") (λxs H Q=>∃x t b,xs=[x,.ty T]/\TyOf X.K H x t/\PySem.W.kitOne X.K t (.type T)=ae b/\Q (.bl b) H):=by
 sleep 11;obtain⟨x,t,b,rfl,ty,e,q⟩:=h;obtain⟨u,u',rfl,ru,ru'⟩:=DH r;cases(show u'=Dv T from ru');exact PB I ru ty e λtk=>⟨.bl b,H,I.tok tk,rfl,q⟩
section
variable{prog:Bh}{w:Bt}{A:B1}{E:Ag->Ak->Prop}{s:Ak}
theorem AU:entryFor table "dict.update.loop"=ae Ek.«dict.update.loop»:=G6 ⇑79
theorem rp:plainId "dict.update.loop"=ah:=by sleep 5
theorem SG:typeLookup (.type "tuple") "keys"=pure af:=by rw[Hk,Fy];kernel_rfl
theorem Mf(p:IsTup s.heap a its.toArray)(h:Q its s):A1 ⇑13 A (Builtin.Dict.pairItems (.ref a)) Q E s:=by
 obtain⟨o,ho,hc,n,hd⟩:=id p;unfold Builtin.Dict.pairItems;refine Ab (Gf (show s.TypeIs (.ref a) "tuple" from⟨o,ho,hc⟩) ?_);rw[if_pos ∎];refine Ab (Dm ho hd (Aj ?_));simpa using h
set_option maxRecDepth 8000 in
theorem JJ
  (hx:s.heap.get? a=ae o) (hc:o.cls=.type "tuple") (hdat:o.data=.seq xs k) (hd:o.dict=af) (hmiss:typeLookup (.type "tuple") name=pure af) (hname:(["__module__","__name__","__qualname__","__doc__","__annotations__"]:List Str).contains name=ai) (hA:A.handled=af)
  (h:∀h' tk e,Heap.NewExcOf s.heap h' e "AttributeError"->Q af {s with heap:=h',toks:=tk}) (hsz:name.length+100<=Az:=by size_fits):
  A1 ⇑13 A (getAttr? (.ref a) name) Q E s:=by
 obtain⟨c,dct,dat,sl⟩:=o;simp only at hc hdat hd;subst hc hdat hd;obtain⟨hp,g,d,tk,os⟩:=s;have hT:∀tk',(⟨hp,g,d,tk',os⟩:Ak).TypeIs (.ref a) "tuple":=λ_=>⟨_,hx,rfl⟩;have f1:=sub_AttributeError;have f3:=F.slot_tuple_getattribute.lookup;have f4:=F.slot_tuple_getattribute.bind (.ref a);have f5:=am_tuple_getattr_none;unfold getAttr? getAttrBy? getAttrBy
 repeat (any_goals (first|assumption|exact hT _|((with_reducible show A1 _ _ (call (Value.builtin "tuple.__getattribute__") _ _) _ _ _);refine call_meets F.slot_tuple_getattribute (hT _) am_entry_tuple_getattribute (F.args_tuple_getattribute_2 _ _) (meets_getattribute_miss_tuple a xs k sl name _ hmiss hname hsz) ⟨hx,hA,λh' tk' e hx'=>?_⟩)|wp_step))
 obtain⟨t',u',he⟩:=hx'.there;show A1 _ _ (getattributeRaised _ _ _ _ _ _ _) _ _ _;unfold getattributeRaised
 repeat (any_goals (first|assumption|wp_step))
 exact h _ _ _ hx'.of
end
section
variable{X:Cx}{pins:List ⇑16}{σ:St}{A:B1}{R:Result->Ak->Prop}
theorem SqT.upd{K:Ah}(h:H a=ae (.tup xs))(hd:a≠d):(L2.upd H d o) a=ae (.tup xs):=by rw[aN hd];exact h
theorem MZ(hA:A.handled=af)(ps:List (Addr×aH×V)):∀(n i:Nat)(H:Hp)(s:Ak)(kvs:List (aH×V)),n+i=ps.length->Inv X pins σ H s->H d=ae (.dK kvs)->kvs.length+n<=Az->
  H src=ae (.tup (ps.map λp=>.ref p.1))->(∀p∈ps,H p.1=ae (.tup [kV p.2.1,p.2.2]))->s.heap.IsTupleIter it src i->cZ X pins H it->
  (∀H' s',Inv X pins σ H' s'->H'=L2.upd H d (.dK (lI kvs ((ps.drop i).map (·.2))))->R (.ok (.ret .none)) s')->
  F2 ⇑14 A (.builtin "dict.update.loop" ⟨[.ref d,.ref it,Cu i,.none],[]⟩) R s:=by
 intro n
 induction n with
 |zero=>
  intro i H s kvs hn I hd hz hs hp st f hR;obtain⟨its,rv,p,_⟩:=I.tuple (SqT.of (K:=X.K) hs);obtain⟨f0,f1,f2,f3,f4,f5⟩:=f;refine E3 AU ?_;rw[D6 rp _];show A1 _ _ (Eu (.ref it)>>=_) _ _ s;have hl:=rv.length;rw[Aa]at hl;refine Ab (wpAny_pyNext_tuple_end (A:=A.in1) hA st (show s.heap.IsTuple src its.toArray from p) (by simp;omega) λh' eb=>?_);show A1 _ _ (Builtin.Dict.addKeywords d []>>=_) _ _ _;refine Ab (Aj (Aj ?_));refine hR H _ (I.turned (t':=s.toks) (λb o hb e=>eb b o hb e) f0 f1 f3 f4 f5) ?_;have e1:ps.drop i=[]:=List.drop_eq_nil_of_le ⋯;rw[e1]
  funext b
  unfold L2.upd
  split
  ·rename_i hb;rw[hb,hd];rfl
  ·rfl
 |succ n ih=>
  intro i H s kvs hn I hd hz hs hp st f hR;obtain⟨its,rv,p,_⟩:=I.tuple (SqT.of (K:=X.K) hs);obtain⟨f0,f1,f2,f3,f4,f5⟩:=id f;have hi:i < ps.length:=by omega
  have hpi:(ps.map λp=>V.ref p.1)[i]?=ae (V.ref (ps[i]).1):=by simp[hi]
  obtain⟨u,hu,ru⟩:=rv.get hpi;cases(show u=A4 (ps[i]).1 from ru);have hmem:ps[i]∈ps:=Cq hi;have hq:=hp _ hmem;refine E3 AU ?_;rw[D6 rp _];show A1 _ _ (Eu (.ref it)>>=_) _ _ s;refine Ab (wpAny_pyNext_tuple_item st (show s.heap.IsTuple src its.toArray from p) (x:=A4 (ps[i]).1) (by simpa using hu) λh1 st1 sb=>?_);have I1:Inv X pins σ H {s with heap:=h1}:=I.turned (t':=s.toks) (λb o hb e=>(sb.2 b hb).trans e) f0 f1 f3 f4 f5;obtain⟨its1,rv1,p1,_⟩:=I1.tuple (SqT.of (K:=X.K) hq);obtain⟨u1,u2,rfl,r1,r2⟩:=DH rv1;refine Ab (Cf ?_);refine Ab (wpAny_tryCatch (Mf p1 ?_));obtain⟨z,hdS,vs,rel,dd⟩:=GJ I1.hok hd;have hz1:vs.length<=Az:=by rw[<-rel.length];exact z
  have hl1:=sh kvs (ps[i]).2.1 (ps[i]).2.2;refine Cf (wpAny_dictSet_pairs (hsz:=hz1) (mx r1) dd λh2 dd2 hs2=>?_);have he2:∃q,h2.get? d=ae q:=let⟨q,_,_,hq,_⟩:=dd2;⟨q,hq⟩;have I2:=mV (t':=s.toks+1) I1 (by rw[hd];exact Ec) hs2 he2 (zg ⋯ hdS (rel.put (ps[i]).2.1 r2) dd2);have nd:∀b xs,H b=ae (.tup xs)->b≠d:=λb xs e z=>by rw[z,hd]at e;cases e
  have nit:it≠d:=λz=>by rw[z,hd]at f0;cases f0
  have hc:((i:Int)+1)=((i+1:Nat):Int):=by push_cast;rfl
  show A1 _ _ (pure (Fin.again (.builtin "dict.update.loop" ⟨[.ref d,.ref it,Cu ((i:Int)+1),.none],[]⟩))) _ _ _;refine Aj ⟨Fv rp _,?_⟩;rw[hc];refine ih (i+1) _ _ (b6 kvs (ps[i]).2.1 (ps[i]).2.2) ⋯ I2 bH ⋯ (SqT.upd (K:=X.K) hs (nd _ _ hs)) (λq hq'=>SqT.upd (K:=X.K) (hp q hq') (nd _ _ (hp q hq'))) (by
   obtain⟨o,e,r⟩:=st1;exact⟨o,(hs2.2 it nit).trans e,r⟩) ⟨by rw[aN nit];exact f0,f1,f2,f3,f4,f5⟩ λH' s' I' e=>?_
  refine hR H' s' I' ?_;rw[e,uo,F8 hi];rfl
theorem fG(h:n<=1000):n<=Az:=Gt (BC h)
theorem Jo(hh:X.A.handled=af):CallR X (.type "dict") (λxs H Q=>∃(src:Addr)(ps:List (Addr×aH×V)),xs=[.ref src]/\H src=ae (.tup (ps.map λp=>V.ref p.1))/\(∀p∈ps,H p.1=ae (.tup [kV p.2.1,p.2.2]))/\ps.length<=1000 /\
  ∀l,H l=af->Q (.ref l) (L2.upd H l (.dK (lI [] (ps.map (·.2)))))):=by
 sleep 11;obtain⟨src,ps,rfl,hs,hp,hlen,q⟩:=h;sleep 18;cases(show u=A4 src from ru);have big:=I.big;refine callType_codes (Q₁:=λobj s₁=>obj=.ref s.heap.objs.size/\s₁={ s with heap:=s.heap.push {cls:=.type "dict",data:=.dict #[]}}) F.kt_called_dict (F.kt_typeCall_dict_1 _) F.entry_dict_init (kt_code_dict_new _ ⟨rfl,rfl⟩) ?_
 rintro obj s₁ ⟨rfl,rfl⟩
 have hfr:H s.heap.objs.size=af:=I.fresh;have I1:Inv X pins σ (L2.upd H s.heap.objs.size (.dK [])) {s with heap:=s.heap.push {cls:=.type "dict",data:=.dict #[]}}:=I.laid (t':=s.toks) (λb o e=>Af _ e) (Aq _) (Ip s.heap big);have nd:∀b xs,H b=ae (.tup xs)->b≠s.heap.objs.size:=λb xs e z=>by rw[z,hfr]at e;cases e
 have hs1:=SqT.upd (K:=X.K) (o:=.dK []) hs (nd _ _ hs);obtain⟨zz,its,rv,o,ho,hc,⟨n,hdat⟩,hd⟩:=(show ObjOk X.prog X.w _ _ src (.tup _)from I1.hok src _ hs1);have hnew:(s.heap.push {cls:=.type "dict",data:=.dict #[]}).DictOf (fj X.prog X.w) s.heap.objs.size []:=Heap.DictOf.new s.heap;refine⟨hnew.typeIs,F.args_dict_init_2 _ _,?_⟩;unfold Ek.«dict.__init__»;refine Ab ?_;unfold Builtin.Dict.selfAndRest;refine Ab (wpAny_notOrdered_dict hnew.typeIs ?_);show A1 _ _ (pure (s.heap.objs.size,[A4 src])) _ _ _;refine Aj ?_;show A1 _ _ (Builtin.Dict.updateFrom "dict.__init__" s.heap.objs.size (.ref src) [] .none) _ _ _;unfold Builtin.Dict.updateFrom;refine Ab (Gf (T:="tuple") ⟨o,ho,hc⟩ ?_);rw[if_pos ∎];refine Ab (JJ ho hc hdat hd SG ∅ hh (λh' tk e ne=>?_));have I2:=I1.kept (t':=tk) ne.keeps;have p2:IsTup h' src its.toArray:=IsTup.keeps ⟨o,ho,hc,n,hdat⟩ ne.keeps;show A1 _ _ (rule _>>=_) _ _ _;refine Ab (G5 ?_);refine Ab (D9 (show Heap.IsTuple h' src its.toArray from p2) ?_);refine Aj ⟨Fv rp _,?_⟩;have I3:=I2.kept (t':=tk) (λb o e=>Af {cls:=.type "tuple_iterator",data:=.fields #[.ref src,.int 0 0]} e);refine MZ (A:=X.A.in1) hh ps ps.length 0 _ _ [] ⋯ I3 bH (by simp only[List.length_nil];exact fG ⋯) hs1 (λq hq=>SqT.upd (K:=X.K) (hp q hq) (nd _ _ (hp q hq))) ⟨_,Aw _ rfl,rfl,rfl⟩ (I2.fpOk (Aq _) I2.fresh) λH' s' I' e=>?_;refine⟨rfl,.ref s.heap.objs.size,H',I',rfl,?_⟩;rw[e,uo];exact q _ hfr
end
theorem Uo(bs:List Bool):((A5 bs.length).all λi=>(bs[i]?).getD ah)=bs.all id:=by
 rw[Dx,Dq,Dq]
 constructor
 ·intro h b hb;obtain⟨i,hi,rfl⟩:=List.mem_iff_getElem.mp hb;have:=h i (Cb.mpr hi);rw[Ae hi]at this;exact this
 ·intro h i hi;have hi':=Cb.mp hi;rw[Ae hi'];exact h _ (Cq hi')
theorem SH(hh:X.A.handled=af):CallR X (.builtin "all") (λxs H Q=>∃(p:Addr)(bs:List Bool),xs=[.ref p]/\H p=ae (.lst (bs.map V.bl))/\Q (.bl (bs.all id)) H):=by
 sleep 11;obtain⟨p,bs,rfl,hp,q⟩:=h;sleep 18;cases(show u=A4 p from ru);obtain⟨its,rv,pl,_⟩:=I.list (SqL.of (K:=X.K) hp);have hl:s.heap.IsList p its.toArray:=pl.isList;have hlt:p < s.heap.objs.size:=by obtain⟨_,e,_⟩:=hl;exact As e
 have hlen:bs.length=its.length:=by have:=rv.length;rwa [Aa]at this
 refine call_all_walk (Gz hl ?_);refine⟨s.heap.objs.size,[s.heap.objs.size,p],[s.heap.objs.size],its.toArray.size,_,_,λi=>(bs[i]?).getD ah,rfl,Walks.list (A:=X.A.in1) hh _ p (Bd hlt) its.toArray,
  ⟨⟨_,Aw _ rfl,rfl,rfl⟩,hl.push _⟩,λi v s' Q' E' hP hQ=>?_,λh' tk hk=>?_⟩
 ·have hi:its[i]?=ae v:=by simpa using hP
  have hib:i < bs.length:=by rw[hlen];exact(Ar.mp hi).1
  have hx:(bs.map V.bl)[i]?=ae (V.bl bs[i]):=by simp[hib]
  obtain⟨u,hu,ru⟩:=rv.get hx;rw[hi]at hu;cases(Bb hu);cases(show v=Value.bool bs[i]from ru);dsimp only at hQ;rw[Ae hib,Option.getD_some]at hQ;exact Dk hQ
 ·have e:((A5 its.toArray.size).all λi=>(bs[i]?).getD ah)=bs.all id:=by
   rw[A2,<-hlen];exact Uo bs
  rw[e];refine⟨.bl (bs.all id),H,I.kept λb x e=>hk b x (λhm=>?_) (Af _ e),rfl,q⟩;rw[Ba.mp hm]at e;exact D7 _ (As e)
theorem Kz:OpR X (B6 .LtE) (λx y H Q=>∃i j,x=.str i/\y=.str j/\Q (.bl (!decide (j.cps.toList < i.cps.toList))) H):=by
 sleep 8;obtain⟨i,j,rfl,rfl,q⟩:=h;sleep 3;sleep 4;exact P.le_str (cQ I q rfl)
theorem Ji:OpR X (B6 .Gt) (λx y H Q=>∃i j,x=.str i/\y=.str j/\Q (.bl (decide (j.cps.toList < i.cps.toList))) H):=by
 sleep 8;obtain⟨i,j,rfl,rfl,q⟩:=h;sleep 3;sleep 4;exact P.gt_str (cQ I q rfl)
def rJ:Ad->String
 |.none=>"NoneType"
 |.bool _=>"bool"
 |.int _=>"int"
 |.str _=>"str"
 |.list _=>"list"
 |.tuple _=>"tuple"
 |.dict _=>"dict"
def fX(T:String)(d:Ad):Bool:=rJ d==T || (T=="int"&&rJ d=="bool")
def bz(h:Str):Ad->Bool
 |.str x=>decide (x=h)
 |_=>ai
end L2
namespace Nb
open PySem L2
def mT:Bool:=ah
def oB:List V:=[.non,.non,.non,.int 1,.int 2]
def k8:List Ad:=[.none,.none,.none,.int 1,.int 2]
end Nb
set_option Elab.async false
set_option maxRecDepth 100000
namespace Nb
open PySem L2
def Kp(t:Addr)(H H':Hp):Prop:=∀b o,H b=ae o->b≠t->H' b=ae o
theorem Kp.refl(t)(H):Kp t H H:=λ_ _ h _=>h
theorem Kp.trans(a:Kp t H H1)(b:Kp t H1 H2):Kp t H H2:=λc o h n=>b c o (a c o h n) n
theorem Kp.new(h:H p=af):Kp t H (upd H p o):=λc o' e _=>by
 rw[aN (bY e h)];exact e
theorem Kp.tape:Kp t H (upd H t o):=λc o' e n=>by
 rw[aN n];exact e
structure TL where
 s:Addr
 g:Addr
def jv(l:TL):List V:=if mT=ah then[.ref l.g]else[]
structure Tp(H:Hp)(t:Addr)(l:TL)(ns:List Int)(n:Int):Prop where
 ob:∃a b:Int,H t=ae (.lst (.ref l.s::.int a::.int b::jv l))/\0<=a/\a<=n
 ls:H l.s=ae (.lst ⇑80)
 len:ns.length<=63
 ag:mT=ah->H l.g=ae (.lst oB)
 gne:l.g≠t
theorem Tp.ne(T:Tp H t l ns n):t≠l.s:=by
 obtain⟨a,b,h,_⟩:=T.ob;refine CL h T.ls λz=>?_;have z':(.ref l.s::.int a::.int b::jv l:List V)=ns.map V.int:=HO.lst.inj z;cases ns with
 |nil=>cases z'
 |cons m r=>
  rw[Bc]at z';have:=(Fz z').1;cases this
theorem Tp.other(T:Tp H t l ns n)(h1:t≠p)(h2:l.s≠p)(h3:mT=ah->l.g≠p):Tp (upd H p o) t l ns n:=by
 obtain⟨a,b,e,h⟩:=T.ob;exact⟨⟨a,b,by rw[aN h1];exact e,h⟩,by rw[aN h2];exact T.ls,T.len,λz=>by rw[aN (h3 z)];exact T.ag z,T.gne⟩
theorem Tp.new(T:Tp H t l ns n)(h:H p=af):Tp (upd H p o) t l ns n:=by
 obtain⟨a,b,e,_⟩:=T.ob;exact T.other (bY e h) (bY T.ls h) λz=>bY (T.ag z) h
theorem JQ{xs:List V}{r:Int}(h0:0<=r)(h1:r < xs.length):∃v,dv xs r=ae v/\v∈xs:=by
 obtain⟨j,rfl⟩:=Int.eq_ofNat_of_zero_le h0;have hj:j < xs.length:=by omega
 exact⟨xs[j],fL (Ae hj),Cq hj⟩
theorem mS(h:n<=1000):n<=Az:=Gt (BC h)
theorem Jc:Bv "tuple"=ae (.type "tuple"):=by sleep 5
theorem Od:Bv "dict"=ae (.type "dict"):=by sleep 5
theorem Tg:Bv "int"=ae (.type "int"):=by sleep 5
theorem KA:Bv "str"=ae (.type "str"):=by sleep 5
theorem yJ:Bv "isinstance"=ae (.builtin "isinstance"):=by sleep 5
theorem Ut:Bv "all"=ae (.builtin "all"):=by sleep 5
theorem sH:Bv "list"=ae (.type "list"):=by sleep 5
theorem IX:Bv "bool"=ae (.type "bool"):=by sleep 5
theorem UH(h:xs.length<=63):fD xs af (ae 63)=xs:=by
 unfold fD;have e1:HT.sIx xs.length 0 af=0:=rfl;have e2:HT.sIx xs.length xs.length (ae 63)=xs.length:=by
  have e:=HT.sIx_nat xs.length xs.length 63;rw[show((63:Nat):Int)=63 from rfl]at e;rw[e];omega
 rw[e1,e2,List.drop_zero,Nat.sub_zero,Gx]
def zx:Sp:=λvs H Q _=>∃(t:Addr)(l:TL)(ns:List Int)(n many:Int),vs=[.ref t,.int many]/\Tp H t l ns n/\n < 2 ^ 40/\0 < many/\many < 1073741824 /\
 ∀(r:Int)(H':Hp),0<=r->r < many->Tp H' t l ns (n+1)->Kp t H H'->Q (.int r) H'
end Nb
namespace DL
open PySem L2 Nb
abbrev D:=Ad
mutual
inductive RdX(H:Hp)(B:Addr->Prop):V->Ad->Prop
 |non:RdX H B .non .none
 |bl (b:Bool):RdX H B (.bl b) (.bool b)
 |int (i:Int):RdX H B (.int i) (.int i)
 |str (x:Str) (h:x.length<=Az):RdX H B (.str x) (.str x)
 |lst {a:Addr} {xs:List V} {ds:List Ad}:H a=ae (.lst xs)->¬B a->xs.length<=Az->RdXs H B xs ds->RdX H B (.ref a) ⇑34
 |tup {a:Addr} {xs:List V} {ds:List Ad}:H a=ae (.tup xs)->¬B a->xs.length<=Az->RdXs H B xs ds->RdX H B (.ref a) ⇑25
inductive RdXs(H:Hp)(B:Addr->Prop):List V->List Ad->Prop
 |nil:RdXs H B [] []
 |cons {x:V} {xs:List V} {d:Ad} {ds:List Ad}:RdX H B x d->RdXs H B xs ds->RdXs H B (x::xs) (d::ds)
end
mutual
theorem RdX.move{H H':Hp}{B B':Addr->Prop}(k:∀b o,H b=ae o->¬B b->H' b=ae o/\¬B' b):∀{v:V}{d:Ad},RdX H B v d->RdX H' B' v d
 |_,_,.non=>.non
 |_,_,.bl b=>.bl b
 |_,_,.int i=>.int i
 |_,_,.str x h=>.str x h
 |_,_,.lst h1 h2 h3 h4=>.lst (k _ _ h1 h2).1 (k _ _ h1 h2).2 h3 (RdXs.move k h4)
 |_,_,.tup h1 h2 h3 h4=>.tup (k _ _ h1 h2).1 (k _ _ h1 h2).2 h3 (RdXs.move k h4)
theorem RdXs.move{H H':Hp}{B B':Addr->Prop}(k:∀b o,H b=ae o->¬B b->H' b=ae o/\¬B' b):∀{vs:List V}{ds:List Ad},RdXs H B vs ds->RdXs H' B' vs ds
 |_,_,.nil=>.nil
 |_,_,.cons h1 h2=>.cons (RdX.move k h1) (RdXs.move k h2)
end
section
variable{H H':Hp}{B B':Addr->Prop}{v:V}{d:Ad}{vs ws:List V}{ds es:List Ad}{t:Addr}
theorem RdX.kp(k:Kp t H H')(ht:B t)(h:RdX H B v d):RdX H' B v d:=h.move λb o e n=>⟨k b o e λz=>n (z▸ht),n⟩
theorem RdXs.kp(k:Kp t H H')(ht:B t)(h:RdXs H B vs ds):RdXs H' B vs ds:=h.move λb o e n=>⟨k b o e λz=>n (z▸ht),n⟩
theorem RdX.less(k:∀b,B' b->B b)(h:RdX H B v d):RdX H B' v d:=h.move λb o e n=>⟨e,λz=>n (k b z)⟩
theorem RdXs.less(k:∀b,B' b->B b)(h:RdXs H B vs ds):RdXs H B' vs ds:=h.move λb o e n=>⟨e,λz=>n (k b z)⟩
theorem RdXs.keep(k:∀b o,H b=ae o->¬B b->H' b=ae o)(h:RdXs H B vs ds):RdXs H' B vs ds:=h.move λb o e n=>⟨k b o e n,n⟩
theorem RdXs.len:∀{vs:List V}{ds:List Ad},RdXs H B vs ds->vs.length=ds.length
 |_,_,.nil=>rfl
 |_,_,.cons _ t=>by rw[Ay,Ay,RdXs.len t]
theorem RdXs.get:∀{vs:List V}{ds:List Ad}{i:Nat}{v:V},RdXs H B vs ds->vs[i]?=ae v->∃d,ds[i]?=ae d/\RdX H B v d
 |_,_,_,_,.nil,e=>by simp at e
 |_,_,0,_,.cons h _,e=>by
  simp at e;subst e;exact⟨_,rfl,h⟩
 |_,_,i+1,v,.cons _ t,e=>by
  obtain⟨d,h1,h2⟩:=RdXs.get (i:=i) (v:=v) t (by simpa using e);exact⟨d,by simpa using h1,h2⟩
theorem RdXs.getD:∀{vs:List V}{ds:List Ad}{i:Nat}{d:Ad},RdXs H B vs ds->ds[i]?=ae d->∃v,vs[i]?=ae v/\RdX H B v d
 |_,_,_,_,.nil,e=>by simp at e
 |_,_,0,_,.cons h _,e=>by
  simp at e;subst e;exact⟨_,rfl,h⟩
 |_,_,i+1,d,.cons _ t,e=>by
  obtain⟨v,h1,h2⟩:=RdXs.getD (i:=i) (d:=d) t (by simpa using e);exact⟨v,by simpa using h1,h2⟩
theorem RdXs.append:∀{vs ws:List V}{ds es:List Ad},RdXs H B vs ds->RdXs H B ws es->RdXs H B (vs++ws) (ds++es)
 |_,_,_,_,.nil,h=>h
 |_,_,_,_,.cons h1 h2,h=>.cons h1 (RdXs.append h2 h)
theorem RdXs.set:∀{vs:List V}{ds:List Ad}(i:Nat){v:V}{d:Ad},RdXs H B vs ds->RdX H B v d->RdXs H B (vs.set i v) (ds.set i d)
 |_,_,_,_,_,.nil,_=>.nil
 |_,_,0,_,_,.cons _ t,h=>.cons h t
 |_,_,i+1,_,_,.cons q t,h=>.cons q (RdXs.set i t h)
theorem RdXs.take:∀{vs:List V}{ds:List Ad}(n:Nat),RdXs H B vs ds->RdXs H B (vs.take n) (ds.take n)
 |_,_,0,_=>.nil
 |_,_,_+1,.nil=>.nil
 |_,_,n+1,.cons r t=>.cons r (RdXs.take n t)
theorem RdXs.drop:∀{vs:List V}{ds:List Ad}(n:Nat),RdXs H B vs ds->RdXs H B (vs.drop n) (ds.drop n)
 |_,_,0,r=>r
 |_,_,_+1,.nil=>.nil
 |_,_,n+1,.cons _ t=>RdXs.drop n t
end
mutual
theorem RdX.rd{K:Ah}{H:Hp}{B:Addr->Prop}:∀{v:V}{d:Ad},RdX H B v d->RdD K H v d
 |_,_,.non=>.non
 |_,_,.bl b=>.bl b
 |_,_,.int i=>.int i
 |_,_,.str x h=>.str x
 |_,_,.lst h1 h2 h3 h4=>.lst (SqL.of h1) (RdXs.rd h4)
 |_,_,.tup h1 h2 h3 h4=>.tup (SqT.of h1) (RdXs.rd h4)
theorem RdXs.rd{K:Ah}{H:Hp}{B:Addr->Prop}:∀{vs:List V}{ds:List Ad},RdXs H B vs ds->RdAll K H vs ds
 |_,_,.nil=>.nil
 |_,_,.cons h1 h2=>.cons (RdX.rd h1) (RdXs.rd h2)
end
inductive Ob where
 |o|p (d:Ad)|k (m:List (aH×Ad))|q (d:Ad) (m:List (aH×Ad))|x (m:List (TK×Ad))|y (m:List (TK×Ad))
inductive Wv where
 |d (x:Ad)|tp|dk (kvs:List (aH×Ad))|ln (ds:List Ad)|ob (o:Ob)|dx (kvs:List (TK×Ad))
def Wv.lent:Wv->Bool
 |.dk _=>ah
 |.dx _=>ah
 |.ln _=>ah
 |_=>ai
inductive SV where
 |w (x:Wv)|own (ds:List Ad)|odk (kvs:List (aH×Ad))|odt (kvs:List (List aH×Ad))|odx (kvs:List (TK×Ad))
abbrev Sl:=List (Option SV)
def RdK(H:Hp)(B:Addr->Prop):List (aH×V)->List (aH×Ad)->Prop:=Paired λp q=>p.1=q.1/\RdX H B p.2 q.2
theorem RdK.move(k:∀b o,H b=ae o->¬B b->H' b=ae o/\¬B' b)(h:RdK H B l m):RdK H' B' l m:=
 Paired.mapP h λ_ _ z=>⟨z.1,z.2.move k⟩
def RdT(H:Hp)(B:Addr->Prop):List (List aH×V)->List (List aH×Ad)->Prop:=Paired λp q=>p.1=q.1/\RdX H B p.2 q.2
theorem RdT.move(k:∀b o,H b=ae o->¬B b->H' b=ae o/\¬B' b)(h:RdT H B l m):RdT H' B' l m:=
 Paired.mapP h λ_ _ z=>⟨z.1,z.2.move k⟩
def RdY(H:Hp)(B:Addr->Prop):List (TK×Addr×V)->List (TK×Ad)->Prop:=Paired λp q=>p.1=q.1/\RdX H B (.ref p.2.1) p.1.1/\RdX H B p.2.2 q.2
theorem RdY.move(k:∀b o,H b=ae o->¬B b->H' b=ae o/\¬B' b)(h:RdY H B l m):RdY H' B' l m:=
 Paired.mapP h λ_ _ z=>⟨z.1,z.2.1.move k,z.2.2.move k⟩
def ORel(H:Hp)(B:Addr->Prop)(v:V):Ob->Prop
 |.o=>∃a,v=.ref a
 |.p d=>∃a x y,v=.ref a/\H a=ae (.tup [x,y])/\¬B a/\RdX H B x d
 |.k m=>∃a l,v=.ref a/\H a=ae (.dK l)/\¬B a/\RdK H B l m
 |.x m=>∃a l,v=.ref a/\H a=ae (.dX l)/\¬B a/\RdY H B l m
 |.y m=>∃a o l,v=.ref a/\H a=ae ⇑91/\¬B a/\RdY H B l m
 |.q d m=>∃a x b l,v=.ref a/\H a=ae (.tup [x,.ref b])/\¬B a/\RdX H B x d/\H b=ae (.dK l)/\¬B b/\RdK H B l m
theorem ORel.move(k:∀b o,H b=ae o->¬B b->H' b=ae o/\¬B' b)(h:ORel H B v o):ORel H' B' v o:=by
 cases o with
 |o=>exact h
 |p d=>
  obtain⟨a,x,y,e,h1,h2,h3⟩:=h;exact⟨a,x,y,e,(k _ _ h1 h2).1,(k _ _ h1 h2).2,h3.move k⟩
 |k m=>
  obtain⟨a,l,e,h1,h2,h3⟩:=h;exact⟨a,l,e,(k _ _ h1 h2).1,(k _ _ h1 h2).2,h3.move k⟩
 |y m=>
  obtain⟨a,o,l,e,h1,h2,h3⟩:=h;exact⟨a,o,l,e,(k _ _ h1 h2).1,(k _ _ h1 h2).2,h3.move k⟩
 |x m=>
  obtain⟨a,l,e,h1,h2,h3⟩:=h;exact⟨a,l,e,(k _ _ h1 h2).1,(k _ _ h1 h2).2,h3.move k⟩
 |q d m=>
  obtain⟨a,x,b,l,e,h1,h2,h3,h4,h5,h6⟩:=h;exact⟨a,x,b,l,e,(k _ _ h1 h2).1,(k _ _ h1 h2).2,h3.move k,(k _ _ h4 h5).1,(k _ _ h4 h5).2,h6.move k⟩
def WRel(H:Hp)(B:Addr->Prop)(t:Addr)(v:V):Wv->Prop
 |.d x=>RdX H B v x
 |.tp=>v=.ref t
 |.dk kvs=>∃a l,v=.ref a/\H a=ae (.dK l)/\a≠t/\RdK H B l kvs
 |.dx kvs=>∃a l,v=.ref a/\H a=ae (.dX l)/\a≠t/\RdY H B l kvs
 |.ln ds=>∃a xs,v=.ref a/\H a=ae (.lst xs)/\a≠t/\xs.length<=Az/\RdXs H B xs ds
 |.ob o=>ORel H B v o
def SRel(H0:Hp)(H:Hp)(B:Addr->Prop)(t:Addr)(v:V):SV->Prop
 |.w x=>WRel H B t v x/\(x.lent=ah->∃a,v=.ref a/\H0 a≠af)
 |.own ds=>∃a xs,v=.ref a/\H a=ae (.lst xs)/\B a/\H0 a=af/\xs.length<=Az/\RdXs H B xs ds
 |.odk kvs=>∃a l,v=.ref a/\H a=ae (.dK l)/\B a/\H0 a=af/\l.length<=1000/\RdK H B l kvs
 |.odt kvs=>∃a l,v=.ref a/\H a=ae (.dT l)/\B a/\H0 a=af/\l.length<=1000/\RdT H B l kvs
 |.odx kvs=>∃a l,v=.ref a/\H a=ae (.dX l)/\B a/\H0 a=af/\l.length<=1000/\RdY H B l kvs
def SV.isOwn:SV->Bool
 |.w _=>ai
 |_=>ah
structure Ctx where
 t:Addr
 l:TL
 ns:List Int
 H0:Hp
 B0:Addr->Prop
 fz:Hp
structure Rel(C:Ctx)(H:Hp)(B:Addr->Prop)(σ:St)(δ:Sl)(n:Int):Prop where
 tp:Tp H C.t C.l C.ns n
 kp:Kp C.t C.H0 H
 t0:C.H0 C.t≠af
 l0:C.H0 C.l.s≠af
 g0:mT=ah->C.H0 C.l.g≠af
 fz:∀b o,C.fz b=ae o->H b=ae o/\¬B b
 bt:B C.t
 b0:∀b,C.B0 b->B b
 ba:∀b,B b->H b≠af
 a0:∀b,C.B0 b->C.H0 b≠af
 sl:∀(i:Nat)(x:SV),δ[i]?=ae (ae x)->∃v,σ[i]?=ae (ae v)/\SRel C.H0 H B C.t v x
 ow:∀(i j:Nat)(x y:SV)(v:V),δ[i]?=ae (ae x)->δ[j]?=ae (ae y)->x.isOwn=ah->y.isOwn=ah->σ[i]?=ae (ae v)->σ[j]?=ae (ae v)->i=j
 len:σ.length=δ.length
theorem WRel.kp(k:Kp t H H')(ht:B t)(h:WRel H B t v x):WRel H' B t v x:=by
 cases x with
 |d x=>exact RdX.kp k ht h
 |tp=>exact h
 |dk kvs=>
  obtain⟨a,l,e,h1,h2,h3⟩:=h;exact⟨a,l,e,k _ _ h1 h2,h2,h3.move λb o e n=>⟨k b o e λz=>n (z▸ht),n⟩⟩
 |dx kvs=>
  obtain⟨a,l,e,h1,h2,h3⟩:=h;exact⟨a,l,e,k _ _ h1 h2,h2,h3.move λb o e n=>⟨k b o e λz=>n (z▸ht),n⟩⟩
 |ln ds=>
  obtain⟨a,l,e,h1,h2,h3,h4⟩:=h;exact⟨a,l,e,k _ _ h1 h2,h2,h3,h4.kp k ht⟩
 |ob o=>exact ORel.move (λb o e n=>⟨k b o e λz=>n (z▸ht),n⟩) h
theorem WRel.less(k:∀b,B' b->B b)(h:WRel H B t v x):WRel H B' t v x:=by
 cases x with
 |d x=>exact RdX.less k h
 |tp=>exact h
 |dk kvs=>
  obtain⟨a,l,e,h1,h2,h3⟩:=h;exact⟨a,l,e,h1,h2,h3.move λb o e n=>⟨e,λz=>n (k b z)⟩⟩
 |dx kvs=>
  obtain⟨a,l,e,h1,h2,h3⟩:=h;exact⟨a,l,e,h1,h2,h3.move λb o e n=>⟨e,λz=>n (k b z)⟩⟩
 |ln ds=>
  obtain⟨a,l,e,h1,h2,h3,h4⟩:=h;exact⟨a,l,e,h1,h2,h3,h4.less k⟩
 |ob o=>exact ORel.move (λb o e n=>⟨e,λz=>n (k b z)⟩) h
theorem SRel.kp(k:Kp t H H')(ht:B t)(t0:H0 t≠af)(h:SRel H0 H B t v x):SRel H0 H' B t v x:=by
 cases x with
 |w x=>exact⟨h.1.kp k ht,h.2⟩
 |own ds=>
  obtain⟨a,xs,e,h1,h2,h3,h4,h5⟩:=h;exact⟨a,xs,e,k _ _ h1 (λz=>t0 (z▸h3)),h2,h3,h4,h5.kp k ht⟩
 |odk kvs=>
  obtain⟨a,l,e,h1,h2,h3,h4,h5⟩:=h;exact⟨a,l,e,k _ _ h1 (λz=>t0 (z▸h3)),h2,h3,h4,h5.move λb o e n=>⟨k b o e λz=>n (z▸ht),n⟩⟩
 |odt kvs=>
  obtain⟨a,l,e,h1,h2,h3,h4,h5⟩:=h;exact⟨a,l,e,k _ _ h1 (λz=>t0 (z▸h3)),h2,h3,h4,h5.move λb o e n=>⟨k b o e λz=>n (z▸ht),n⟩⟩
 |odx kvs=>
  obtain⟨a,l,e,h1,h2,h3,h4,h5⟩:=h;exact⟨a,l,e,k _ _ h1 (λz=>t0 (z▸h3)),h2,h3,h4,h5.move λb o e n=>⟨k b o e λz=>n (z▸ht),n⟩⟩
theorem Rel.step{H H':Hp}{B:Addr->Prop}{σ:St}{δ:Sl}{n n':Int}(R:Rel C H B σ δ n)(T:Tp H' C.t C.l C.ns n')(k:Kp C.t H H'):Rel C H' B σ δ n' where
 tp:=T
 kp:=R.kp.trans k
 t0:=R.t0
 l0:=R.l0
 g0:=R.g0
 fz:=λb o e=>⟨k b o (R.fz b o e).1 λz=>(R.fz b o e).2 (z▸R.bt),(R.fz b o e).2⟩
 bt:=R.bt
 b0:=R.b0
 ba:=λb hb e=>by
  by_cases z:b=C.t
  ·subst z;obtain⟨x,y,h,_⟩:=T.ob;rw[h]at e;cases e
  ·cases q:H b with
   |none=>exact R.ba b hb q
   |some o=>rw[k b o q z]at e;cases e
 a0:=R.a0
 sl:=λi x e=>by
  obtain⟨v,h1,h2⟩:=R.sl i x e;exact⟨v,h1,h2.kp k R.bt R.t0⟩
 ow:=R.ow
 len:=R.len
theorem Rel.new(R:Rel C H B σ δ n)(h:H p=af):Rel C (upd H p o) B σ δ n:=R.step (R.tp.new h) (Kp.new h)
theorem Rel.nb(R:Rel C H B σ δ n)(h:H p=af):¬B p:=λz=>R.ba p z h
theorem fP{α:Type}{l:List (Option α)}{x y:α}(h:(l.set i (ae x))[j]?=ae (ae y)):(j=i/\y=x)\/(j≠i/\l[j]?=ae (ae y)):=by
 by_cases e:i=j
 ·subst e;rw[Dp]at h;cases q:l[i]? with
  |none=>rw[q]at h;cases h
  |some z=>
   rw[q]at h;exact .inl ⟨rfl,(Bb (Bb h)).symm⟩
 ·rw[Bo e]at h;exact .inr ⟨λz=>e z.symm,h⟩
theorem qD{α:Type}{l:List (Option α)}{x y:Option α}(h:(l.set i x)[i]?=ae y):i < l.length:=by
 have:=(Ar.mp h).1;rwa [Cp]at this
theorem qR{α:Type}{l:List (Option α)}{x:α}(h:i < l.length):(l.set i (ae x))[i]?=ae (ae x):=by simp[h]
theorem kl{α:Type}{l:List (Option α)}{x:α}(h:j≠i):(l.set i (ae x))[j]?=l[j]?:=Bo (λz=>h z.symm)
theorem Rel.set(R:Rel C H B σ δ n)(h:WRel H B C.t v x)(hx:x.lent=ai):Rel C H B (σ.set i (ae v)) (δ.set i (ae (.w x))) n where
 tp:=R.tp
 kp:=R.kp
 t0:=R.t0
 l0:=R.l0
 g0:=R.g0
 fz:=R.fz
 bt:=R.bt
 b0:=R.b0
 ba:=R.ba
 a0:=R.a0
 sl:=λj y e=>by
  rcases fP e with⟨rfl,rfl⟩|⟨ne,e'⟩
  ·exact⟨v,qR (by rw[R.len];exact qD e),h,λz=>by rw[hx]at z;cases z⟩
  ·obtain⟨u,h1,h2⟩:=R.sl j y e';exact⟨u,by rw[kl ne];exact h1,h2⟩
 ow:=λj k y z u e1 e2 o1 o2 f1 f2=>by
  rcases fP e1 with⟨rfl,rfl⟩|⟨ne1,e1'⟩
  ·cases o1
  ·rcases fP e2 with⟨rfl,rfl⟩|⟨ne2,e2'⟩
   ·cases o2
   ·rw[kl ne1]at f1;rw[kl ne2]at f2;exact R.ow j k y z u e1' e2' o1 o2 f1 f2
 len:=by rw[Cp,Cp];exact R.len
theorem Rel.mut(R:Rel C H B σ δ n)(hb:B a)(h0:C.H0 a=af)
  (ho:∀(i:Nat)(x:SV),δ[i]?=ae (ae x)->x.isOwn=ah->σ[i]?≠ae ⇑92):Rel C ⇑76 B σ δ n where
 tp:=R.tp.other (λz=>R.t0 (z▸h0)) (λz=>R.l0 (z▸h0)) (λe z=>R.g0 e (z▸h0))
 kp:=λb o' e ne=>by
  rw[aN (bY e h0)];exact R.kp b o' e ne
 t0:=R.t0
 l0:=R.l0
 g0:=R.g0
 fz:=λb o' e=>⟨by rw[aN λ(z:b=a)=>(R.fz b o' e).2 (z▸hb)];exact(R.fz b o' e).1,(R.fz b o' e).2⟩
 bt:=R.bt
 b0:=R.b0
 ba:=λb hb' e=>by
  by_cases z:b=a
  ·rw[z,bH]at e;cases e
  ·rw[aN z]at e;exact R.ba b hb' e
 a0:=R.a0
 sl:=λi x e=>by
  obtain⟨v,h1,h2⟩:=R.sl i x e;have mv:∀b o',H b=ae o'->¬B b->upd H a o b=ae o'/\¬B b:=λb o' e n=>⟨by rw[aN λ(z:b=a)=>n (z▸hb)];exact e,n⟩;refine⟨v,h1,?_⟩;cases x with
  |w x=>
   refine⟨?_,h2.2⟩;cases x with
   |d x=>exact h2.1.move mv
   |tp=>exact h2.1
   |dk kvs=>
    obtain⟨a',l,e1,e2,e3,e4⟩:=h2.1;obtain⟨a'',f1,f2⟩:=h2.2 rfl;rw[e1]at f1;cases f1;exact⟨a',l,e1,by rw[aN λ(z:a'=a)=>f2 (z▸h0)];exact e2,e3,e4.move mv⟩
   |dx kvs=>
    obtain⟨a',l,e1,e2,e3,e4⟩:=h2.1;obtain⟨a'',f1,f2⟩:=h2.2 rfl;rw[e1]at f1;cases f1;exact⟨a',l,e1,by rw[aN λ(z:a'=a)=>f2 (z▸h0)];exact e2,e3,e4.move mv⟩
   |ln ds=>
    obtain⟨a',l,e1,e2,e3,e4,e5⟩:=h2.1;obtain⟨a'',f1,f2⟩:=h2.2 rfl;rw[e1]at f1;cases f1;exact⟨a',l,e1,by rw[aN λ(z:a'=a)=>f2 (z▸h0)];exact e2,e3,e4,e5.move mv⟩
   |ob o=>exact ORel.move mv h2.1
  |own ds=>
   sleep 31
  |odk kvs=>
   sleep 31
  |odt kvs=>
   sleep 31
  |odx kvs=>
   sleep 31
 ow:=R.ow
 len:=R.len
theorem Rel.mutOwn(R:Rel C H B σ δ n)(hi:δ[i]?=ae (ae x))(hx:x.isOwn=ah)(hσ:σ[i]?=ae ⇑92)(hb:B a)(h0:C.H0 a=af)
  (h:SRel C.H0 ⇑76 B C.t (.ref a) x') (hx':x'.isOwn=ah):Rel C ⇑76 B σ (δ.set i (ae x')) n:=by
 have R1:Rel C H B σ (δ.set i af) n:={
  tp:=R.tp,kp:=R.kp,t0:=R.t0,l0:=R.l0,g0:=R.g0,fz:=R.fz,bt:=R.bt,b0:=R.b0,ba:=R.ba,a0:=R.a0
  sl:=λj y e=>by
   by_cases z:i=j
   ·subst z;rw[Dp]at e;rw[hi]at e;cases e
   ·rw[Bo z]at e;exact R.sl j y e
  ow:=λj k y z u e1 e2 o1 o2 f1 f2=>by
   have g:∀{m:Nat}{w:SV},(δ.set i af)[m]?=ae (ae w)->δ[m]?=ae (ae w):=λ{m w} e=>by
    by_cases q:i=m
    ·subst q;rw[Dp,hi]at e;cases e
    ·rwa [Bo q]at e
   exact R.ow j k y z u (g e1) (g e2) o1 o2 f1 f2
  len:=by rw[Cp];exact R.len}
 have R2:Rel C ⇑76 B σ (δ.set i af) n:=R1.mut hb h0 λj y e oy f=>by
  by_cases z:i=j
  ·subst z;rw[Dp,hi]at e;cases e
  ·rw[Bo z]at e;exact z (R.ow i j x y _ hi e hx oy hσ f)
 have hlt:i < δ.length:=(Ar.mp hi).1;exact{
  tp:=R2.tp,kp:=R2.kp,t0:=R2.t0,l0:=R2.l0,g0:=R2.g0,fz:=R2.fz,bt:=R2.bt,b0:=R2.b0,ba:=R2.ba,a0:=R2.a0
  sl:=λj y e=>by
   rcases fP e with⟨rfl,rfl⟩|⟨ne,e'⟩
   ·exact⟨_,hσ,h⟩
   ·exact R2.sl j y (by rw[Bo λz=>ne z.symm];exact e')
  ow:=λj k y z u e1 e2 o1 o2 f1 f2=>by
   rcases fP e1 with⟨rfl,rfl⟩|⟨ne1,e1'⟩
   ·rcases fP e2 with⟨rfl,rfl⟩|⟨ne2,e2'⟩
    ·rfl
    ·exact R.ow _ _ x z u hi e2' hx o2 f1 f2
   ·rcases fP e2 with⟨rfl,rfl⟩|⟨ne2,e2'⟩
    ·exact R.ow _ _ y x u e1' hi o1 hx f1 f2
    ·exact R.ow j k y z u e1' e2' o1 o2 f1 f2
  len:=by rw[Cp];exact R.len}
theorem Rel.own(R:Rel C H B σ δ n)(R':Rel C H' B σ δ n')(k:Kp C.t H H')(h0:H a=af)(h1:H' a≠af)(hx:x.isOwn=ah)
  (h:SRel C.H0 H' ⇑93 C.t (.ref a) x):Rel C H' ⇑93 (σ.set i ⇑92) (δ.set i (ae x)) n' where
 tp:=R'.tp
 kp:=R'.kp
 t0:=R'.t0
 l0:=R'.l0
 g0:=R'.g0
 fz:=λb o e=>⟨(R'.fz b o e).1,λz=>z.elim (R'.fz b o e).2 λq=>bY (R.fz b o e).1 h0 q⟩
 bt:=.inl R.bt
 b0:=λb z=>.inl (R.b0 b z)
 ba:=λb z=>z.elim (R'.ba b) λq=>q▸h1
 a0:=R.a0
 sl:=λj y e=>by
  have hta:C.t≠a:=λz=>by
   obtain⟨_,_,q,_⟩:=R.tp.ob;rw[z,h0]at q;cases q
  have mv:∀b o',H b=ae o'->¬B b->H' b=ae o'/\¬(B b\/b=a):=λb o' e n=>⟨k b o' e λz=>n (z▸R.bt),λz=>z.elim n λq=>bY e h0 q⟩;rcases fP e with⟨rfl,rfl⟩|⟨ne,e'⟩
  ·exact⟨_,qR (by rw[R.len];exact qD e),h⟩
  ·obtain⟨v,f1,f2⟩:=R.sl j y e';refine⟨v,by rw[kl ne];exact f1,?_⟩;cases y with
   |w y=>
    refine⟨?_,f2.2⟩;cases y with
    |d y=>exact f2.1.move mv
    |tp=>exact f2.1
    |dk kvs=>
     obtain⟨a',l,e1,e2,e3,e4⟩:=f2.1;exact⟨a',l,e1,k _ _ e2 e3,e3,e4.move mv⟩
    |dx kvs=>
     obtain⟨a',l,e1,e2,e3,e4⟩:=f2.1;exact⟨a',l,e1,k _ _ e2 e3,e3,e4.move mv⟩
    |ln ds=>
     obtain⟨a',l,e1,e2,e3,e4,e5⟩:=f2.1;exact⟨a',l,e1,k _ _ e2 e3,e3,e4,e5.move mv⟩
    |ob o=>exact ORel.move mv f2.1
   |own ds=>
    sleep 32
   |odk kvs=>
    sleep 32
   |odt kvs=>
    sleep 32
   |odx kvs=>
    sleep 32
 ow:=λj m y z u e1 e2 o1 o2 f1 f2=>by
  have out:∀{p:Nat}{w:SV},δ[p]?=ae (ae w)->w.isOwn=ah->σ[p]?=ae ⇑92->False:=λ{p w} e ow f=>by
   obtain⟨v,g1,g2⟩:=R.sl p w e;rw[f]at g1;cases g1;cases w with
   |w _=>cases ow
   |own ds=>
    obtain⟨a',xs,e1,e2,_⟩:=g2;cases e1;rw[h0]at e2;cases e2
   |odk ds=>
    obtain⟨a',xs,e1,e2,_⟩:=g2;cases e1;rw[h0]at e2;cases e2
   |odt ds=>
    obtain⟨a',xs,e1,e2,_⟩:=g2;cases e1;rw[h0]at e2;cases e2
   |odx ds=>
    obtain⟨a',xs,e1,e2,_⟩:=g2;cases e1;rw[h0]at e2;cases e2
  rcases fP e1 with⟨rfl,rfl⟩|⟨ne1,e1'⟩
  ·rcases fP e2 with⟨rfl,rfl⟩|⟨ne2,e2'⟩
   ·rfl
   ·rw[qR (by rw[R.len];exact qD e1)]at f1;rw[kl ne2]at f2;cases f1;exact(out e2' o2 f2).elim
  ·rcases fP e2 with⟨rfl,rfl⟩|⟨ne2,e2'⟩
   ·rw[qR (by rw[R.len];exact qD e2)]at f2;rw[kl ne1]at f1;cases f2;exact(out e1' o1 f1).elim
   ·rw[kl ne1]at f1;rw[kl ne2]at f2;exact R.ow j m y z u e1' e2' o1 o2 f1 f2
 len:=by rw[Cp,Cp];exact R.len
theorem Rel.give(R:Rel C H B σ δ n)(hi:δ[i]?=ae (ae x))(ox:x.isOwn=ah)(hv:σ[i]?=ae ⇑92)(e4:C.H0 a=af)(hy:WRel H (λb=>B b/\b≠a) C.t (.ref a) y)(hl:y.lent=ai):Rel C H (λb=>B b/\b≠a) σ (δ.set i (ae (.w y))) n:=by
 have less:∀b,(B b/\b≠a)->B b:=λb z=>z.1;exact{
  tp:=R.tp,kp:=R.kp,t0:=R.t0,l0:=R.l0,g0:=R.g0
  fz:=λb o e=>⟨(R.fz b o e).1,λz=>(R.fz b o e).2 z.1⟩
  bt:=⟨R.bt,λz=>R.t0 (z▸e4)⟩
  b0:=λb z=>⟨R.b0 b z,λq=>R.a0 b z (q▸e4)⟩
  ba:=λb z=>R.ba b z.1
  a0:=R.a0
  sl:=λj y' e=>by
   rcases fP e with⟨rfl,rfl⟩|⟨ne,e'⟩
   ·exact⟨_,hv,hy,λz=>by rw[hl]at z;cases z⟩
   ·obtain⟨u,f1,f2⟩:=R.sl j y' e';refine⟨u,f1,?_⟩;cases y' with
    |w y=>exact⟨f2.1.less less,f2.2⟩
    |own ds'=>
     obtain⟨a',xs',g1,g2,g3,g4,g5,g6⟩:=f2;refine⟨a',xs',g1,g2,⟨g3,λz=>?_⟩,g4,g5,g6.less less⟩;exact ne (R.ow j i _ _ _ e' hi rfl ox f1 (by rw[hv,g1,z]))
    |odk ds'=>
     sleep 26;exact ne (R.ow j i _ _ _ e' hi rfl ox f1 (by rw[hv,g1,z]))
    |odt ds'=>
     sleep 26;exact ne (R.ow j i _ _ _ e' hi rfl ox f1 (by rw[hv,g1,z]))
    |odx ds'=>
     sleep 26;exact ne (R.ow j i _ _ _ e' hi rfl ox f1 (by rw[hv,g1,z]))
  ow:=λj k y z u e1 e2 o1 o2 f1 f2=>by
   rcases fP e1 with⟨rfl,rfl⟩|⟨ne1,e1'⟩
   ·cases o1
   ·rcases fP e2 with⟨rfl,rfl⟩|⟨ne2,e2'⟩
    ·cases o2
    ·exact R.ow j k y z u e1' e2' o1 o2 f1 f2
  len:=by rw[Cp];exact R.len}
theorem Rel.frz{n:Int}{i:Nat}{ds:List Ad}(R:Rel C H B σ δ n)(hi:δ[i]?=ae ⇑55):∃B',Rel C H B' σ (δ.set i (↑⇑34)) n:=by
 obtain⟨v,hv,a,xs,rfl,e2,e3,e4,e5,e6⟩:=R.sl i _ hi;exact⟨_,R.give hi rfl hv e4 (show RdX H _ (.ref a) (.list ds)from .lst e2 (λz=>z.2 rfl) e5 (e6.less λb z=>z.1)) rfl⟩
theorem Rel.frzK(R:Rel C H B σ δ n)(hi:δ[i]?=ae (ae (.odk m))):∃B',Rel C H B' σ (δ.set i (ae (.w (.ob (.k m))))) n:=by
 obtain⟨v,hv,a,xs,rfl,e2,e3,e4,e5,e6⟩:=R.sl i _ hi;exact⟨_,R.give hi rfl hv e4 ⟨a,xs,rfl,e2,λz=>z.2 rfl,e6.move λb o e n=>⟨e,λz=>n z.1⟩⟩ rfl⟩
theorem Rel.frzX(R:Rel C H B σ δ n)(hi:δ[i]?=ae (ae (.odx m))):∃B',Rel C H B' σ (δ.set i (ae (.w (.ob (.x m))))) n:=by
 obtain⟨v,hv,a,xs,rfl,e2,e3,e4,e5,e6⟩:=R.sl i _ hi;exact⟨_,R.give hi rfl hv e4 ⟨a,xs,rfl,e2,λz=>z.2 rfl,e6.move λb o e n=>⟨e,λz=>n z.1⟩⟩ rfl⟩
abbrev DQ:=Wv->Int->Prop
abbrev DT:=Sl->Int->DQ->Prop
abbrev cz:=Sl->Int->(Bool->Int->Prop)->Prop
abbrev dI:=Sl->Int->(List Wv->Int->Prop)->Prop
inductive ARel(H:Hp)(B:Addr->Prop)(t:Addr):List V->List Wv->Prop
 |nil:ARel H B t [] []
 |cons {v:V} {vs:List V} {x:Wv} {xs:List Wv}:WRel H B t v x->ARel H B t vs xs->ARel H B t (v::vs) (x::xs)
theorem ARel.kp(k:Kp t H H')(ht:B t):∀{vs:List V}{xs:List Wv},ARel H B t vs xs->ARel H' B t vs xs
 |_,_,.nil=>.nil
 |_,_,.cons a b=>.cons (a.kp k ht) (ARel.kp k ht b)
theorem ARel.len:∀{vs:List V}{xs:List Wv},ARel H B t vs xs->vs.length=xs.length
 |_,_,.nil=>rfl
 |_,_,.cons _ b=>by rw[Ay,Ay,ARel.len b]
def eF(t:TE)(w:DT):Prop:=∀(C:Ctx)(H:Hp)(B:Addr->Prop)(σ:St)(δ:Sl)(n:Int)(Q:DQ)(Q':VK),Rel C H B σ δ n->w δ n Q->
 (∀v x H' n',Rel C H' B σ δ n'->Kp C.t H H'->WRel H' B C.t v x->Q x n'->Q' v H')->t σ H Q'
def jT(t:TT)(w:cz):Prop:=∀(C:Ctx)(H:Hp)(B:Addr->Prop)(σ:St)(δ:Sl)(n:Int)(Q:Bool->Int->Prop)(Q':Bool->Hp->Prop),Rel C H B σ δ n->w δ n Q->
 (∀b H' n',Rel C H' B σ δ n'->Kp C.t H H'->Q b n'->Q' b H')->t σ H Q'
def jr(t:TA)(w:dI):Prop:=∀(C:Ctx)(H:Hp)(B:Addr->Prop)(σ:St)(δ:Sl)(n:Int)(Q:List Wv->Int->Prop)(Q':List V->Hp->Prop),Rel C H B σ δ n->w δ n Q->
 (∀vs xs H' n',Rel C H' B σ δ n'->Kp C.t H H'->ARel H' B C.t vs xs->Q xs n'->Q' vs H')->t σ H Q'
abbrev fg:=Sl->Int->(List Ad->Int->Prop)->Prop
def jK(t:TE)(w:fg):Prop:=∀(C:Ctx)(H:Hp)(B:Addr->Prop)(σ:St)(δ:Sl)(n:Int)(Q:List Ad->Int->Prop)(Q':VK),Rel C H B σ δ n->w δ n Q->
 (∀a xs ds H' n',Rel C H' B σ δ n'->Kp C.t H H'->H a=af->H' a=ae (.lst xs)->xs.length<=Az->RdXs H' ⇑93 xs ds->Q ds n'->Q' (.ref a) H')->t σ H Q'
structure DE(X:Cx)(e:Expr)(t:TE)(w:DT):Prop where
 pe:PE X e t
 sd:eF t w
structure DC(X:Cx)(e:Expr)(t:TT)(w:cz):Prop where
 pt:PT X e t
 sd:jT t w
structure DCW(X:Cx)(e:Expr)(t:TT)(w:cz):Prop where
 pw:PW X e t
 sd:jT t w
structure DA(X:Cx)(es:List Expr)(t:TA)(w:dI):Prop where
 pa:PA X es t
 sd:jr t w
structure DF(X:Cx)(e:Expr)(t:TE)(w:fg):Prop where
 pe:PE X e t
 sd:jK t w
variable{X:Cx}{a b c e:Expr}{ta tb tc te:TE}{wa wb wc we:DT}{pos:Pos}
def aj(i:Nat):DT:=λδ n Q=>match δ[i]? with
 |some (ae (.w x))=>Q x n
 |_=>False
theorem iy(i){p:Pos}(hN:X.N[i]?=ae x:=by rfl)(hv:fC X.env.scope x:=by first|exact Cs rfl|exact Ca (Cs rfl)|exact Ca (Ca rfl))(hd:⇑21=ai:=by decide)
  (hcd:⇑46=ai:=by decide):DE X (.Name x p) (aM i) (aj i):=⟨gh hN hv hd hcd,λC H B σ δ n Q Q' R h k=>by
 unfold aj at h
 split at h
 ·rename_i x e;obtain⟨v,h1,h2⟩:=R.sl i _ e;exact⟨v,h1,k v x H n R ⇑19 h2.1 h⟩
 ·exact h.elim⟩
def wC(d:Ad):DT:=λ_ n Q=>Q (.d d) n
theorem pE(h:∀H B,RdX H B v d):eF (tC v) (wC d):=λC H B σ δ n Q Q' R q k=>k v (.d d) H n R ⇑19 (h H B) q
theorem yX{i j p}:DE X (.Constant (.int i) j p) (tC (.int i)) (wC (.int i)):=⟨cG,pE λ_ _=>.int i⟩
theorem xi{i j p}:DE X (.Constant (.bool i) j p) (tC (.bl i)) (wC (.bool i)):=⟨Rw,pE λ_ _=>.bl i⟩
theorem HR{j p}:DE X (.Constant .none j p) (tC .non) ⇑15:=⟨lR,pE λ_ _=>.non⟩
theorem M4{x j p}(h:Str.length x<=Az:=by decide +kernel):DE X (.Constant (.str x) j p) (tC (.str x)) (wC (.str x)):=⟨Ll,pE λ_ _=>.str x h⟩
theorem CG(hg:Gl X x)(hm:X.mg x=ae (.int i tk))(hd:⇑21=ai:=by decide):DE X (.Name x p) (tC (.int i)) (wC (.int i)):=⟨vL hg hm ⟨tk,rfl⟩ hd,pE λ_ _=>.int i⟩
def w2(wa wb:DT)(g:Wv->Wv->Int->DQ->Prop):DT:=λδ n Q=>wa δ n λx n1=>wb δ n1 λy n2=>g x y n2 Q
def bB(r:R2)(g:Wv->Wv->Int->DQ->Prop):Prop:=∀(C:Ctx)(H:Hp)(B:Addr->Prop)(σ:St)(δ:Sl)(n:Int)(x y:V)(p q:Wv)(Q:DQ)(Q':VK),Rel C H B σ δ n->WRel H B C.t x p->WRel H B C.t y q->g p q n Q->
 (∀v x H' n',Rel C H' B σ δ n'->Kp C.t H H'->WRel H' B C.t v x->Q x n'->Q' v H')->r x y H Q'
theorem nP(hr:bB r g)(ha:eF ta wa)(hb:eF tb wb):eF (d3 r ta tb) (w2 wa wb g):=λC H B σ δ n Q Q' R h k=>
 ha C H B σ δ n _ _ R h λv x H1 n1 R1 k1 r1 q1=>hb C H1 B σ δ n1 _ _ R1 q1 λu y H2 n2 R2 k2 r2 q2=>
  hr C H2 B σ δ n2 v u x y Q Q' R2 (r1.kp k2 R1.bt) r2 q2 λz p H3 n3 R3 k3 r3 q3=>k z p H3 n3 R3 ((k1.trans k2).trans k3) r3 q3
theorem iZ(ho:OpR X (Fj op) r)(hr:bB r g)(ha:DE X a ta wa)(hb:DE X b tb wb):DE X (.BinOp a op b pos) (d3 r ta tb) (w2 wa wb g):=
 ⟨eT ho ha.pe hb.pe,nP hr ha.sd hb.sd⟩
theorem lV(ho:OpR X (B6 op) r)(hr:bB r g)(ha:DE X a ta wa)(hb:DE X b tb wb)(hm:Ct op b=ai):DE X ⇑131 (d3 r ta tb) (w2 wa wb g):=
 ⟨KH ho ha.pe hb.pe hm,nP hr ha.sd hb.sd⟩
def cT(w:DT):cz:=λδ n Q=>w δ n λx n'=>match x with
 |.d (.bool k)=>Q k n'
 |_=>False
theorem wd(h:RdX H B v d):WRel H B t v (.d d):=h
theorem lZ(h:eF t w):jT (gP t) (cT w):=λC H B σ δ n Q Q' R q k=>
 h C H B σ δ n _ _ R q λv x H' n' R' k' r' q'=>by
  split at q'
  ·rename_i b;cases(show RdX H' B v (.bool b)from r');exact⟨b,rfl,k b H' n' R' k' q'⟩
  ·exact q'.elim
theorem gT(ho:OpR X (B6 op) r)(hr:bB r g)(ha:DE X a ta wa)(hb:DE X b tb wb)(hm:Ct op b=ai):DC X ⇑131 (gP (d3 r ta tb)) (cT (w2 wa wb g)):=
 ⟨kB ho ha.pe hb.pe hm,lZ (nP hr ha.sd hb.sd)⟩
theorem JS(h:DE X e t w)(he:∀whole,isTrue e X.env whole=(do let v <-whole;standAt e.pos;holding [v] (truthy v)):=by intro _;rfl):DC X e (gP t) (cT w):=⟨LQ h.pe he,lZ h.sd⟩
def iq(x:Wv)(A B:Prop):Prop:=match x with
 |.d ⇑32=>A
 |.d ⇑56=>B
 |_=>False
theorem JX(b)(A B):iq (.d (.bool b)) A B=if b=ah then A else B:=by cases b<;>simp[iq]
def qp(g g':Wv->Wv->Int->DQ->Prop)(wa wb wc:DT):DT:=λδ n Q=>wa δ n λx n1=>wb δ n1 λy n2=>g x y n2 λz n3=>iq z (wc δ n3 λu n4=>g' y u n4 Q) (Q (.d ⇑56) n3)
theorem S3(hr:bB r g)(hr':bB r' g')(ha:eF ta wa)(hb:eF tb wb)(hc:eF tc wc):eF (xI r r' ta tb tc) (qp g g' wa wb wc):=λC H B σ δ n Q Q' R h k=>
 ha C H B σ δ n _ _ R h λv x H1 n1 R1 k1 r1 q1=>hb C H1 B σ δ n1 _ _ R1 q1 λu y H2 n2 R2 k2 r2 q2=>
  hr C H2 B σ δ n2 v u x y _ _ R2 (r1.kp k2 R1.bt) r2 q2 λz p H3 n3 R3 k3 r3 q3=>by
   have k13:=(k1.trans k2).trans k3;unfold iq at q3
   split at q3
   ·cases(show RdX H3 B z (.bool ah)from r3);refine⟨ah,rfl,?_⟩;sleep 10;exact hc C H3 B σ δ n3 _ _ R3 q3 λw0 x0 H4 n4 R4 k4 r4 q4=>hr' C H4 B σ δ n4 u w0 y x0 Q Q' R4 ((r2.kp k3 R2.bt).kp k4 R3.bt) r4 q4 λz p H5 n5 R5 k5 r5 q5=>k z p H5 n5 R5 ((k13.trans k4).trans k5) r5 q5
   ·cases(show RdX H3 B z (.bool ai)from r3);refine⟨ai,rfl,?_⟩;sleep 7;exact k _ _ H3 n3 R3 k13 (wd (.bl ai)) q3
   ·exact q3.elim
theorem Ql(ho:OpR X (B6 op) r)(hr:bB r g)(ho':OpR X (B6 op') r')(hr':bB r' g')(ha:DE X a ta wa)(hb:DE X b tb wb)(hc:DE X c tc wc)
  (hm:lastMarks [op,op'] [b,c]=ai:=by with_unfolding_all rfl):DE X (.Compare a [op,op'] [b,c] pos) (xI r r' ta tb tc) (qp g g' wa wb wc):=⟨K7 ho ho' ha.pe hb.pe hc.pe hm,S3 hr hr' ha.sd hb.sd hc.sd⟩
variable{tA tB':TT}{cA cB:cz}{aE:List Expr}
def dq(u v:cz):cz:=λδ n Q=>u δ n λb n1=>if b=ah then v δ n1 Q else Q ai n1
def ft(u v:cz):cz:=λδ n Q=>u δ n λb n1=>if b=ah then Q ah n1 else v δ n1 Q
def cy(u:cz):cz:=λδ n Q=>u δ n λb n1=>Q (!b) n1
theorem cw_and1(h:DC X a tA cA):DCW X (.BoolOp .And [a] pos) tA cA:=⟨zX h.pt,h.sd⟩
theorem cw_or1(h:DC X a tA cA):DCW X (.BoolOp .Or [a] pos) tA cA:=⟨UK h.pt,h.sd⟩
theorem cw_and(h:DC X a tA cA)(h2:DCW X (.BoolOp .And (b::aE) pos) tB' cB):DCW X (.BoolOp .And (a::b::aE) pos) (jt tA tB') (dq cA cB):=⟨GK h.pt h2.pw,λC H B σ δ n Q Q' R q k=>
 h.sd C H B σ δ n _ _ R q λb H1 n1 R1 k1 q1=>by
  cases b with
  |true=>
   rw[if_pos rfl]at q1 ⊢;exact h2.sd C H1 B σ δ n1 _ _ R1 q1 λb H2 n2 R2 k2 q2=>k b H2 n2 R2 ⇑64 q2
  |false=>
   rw[if_neg Ai]at q1 ⊢;exact k ai H1 n1 R1 k1 q1⟩
theorem cw_or(h:DC X a tA cA)(h2:DCW X (.BoolOp .Or (b::aE) pos) tB' cB):DCW X (.BoolOp .Or (a::b::aE) pos) (zO tA tB') (ft cA cB):=⟨Uu h.pt h2.pw,λC H B σ δ n Q Q' R q k=>
 h.sd C H B σ δ n _ _ R q λb H1 n1 R1 k1 q1=>by
  cases b with
  |true=>
   rw[if_pos rfl]at q1 ⊢;exact k ah H1 n1 R1 k1 q1
  |false=>
   rw[if_neg Ai]at q1 ⊢;exact h2.sd C H1 B σ δ n1 _ _ R1 q1 λb H2 n2 R2 k2 q2=>k b H2 n2 R2 ⇑64 q2⟩
theorem DCW.cc(h:DCW X a tA cA):DC X a tA cA:=⟨h.pw.pt,h.sd⟩
theorem Mo(h:DC X a tA cA):DC X (.UnaryOp .Not a pos) (ni tA) (cy cA):=⟨Ma h.pt,λC H B σ δ n Q Q' R q k=>h.sd C H B σ δ n _ _ R q λb H1 n1 R1 k1 q1=>k (!b) H1 n1 R1 k1 q1⟩
def dC(u v:DT):DT:=λδ n Q=>u δ n λx n1=>iq x (v δ n1 Q) (Q (.d ⇑56) n1)
def CV(u v:DT):DT:=λδ n Q=>u δ n λx n1=>iq x (Q (.d ⇑32) n1) (v δ n1 Q)
def iR(u:DT):DT:=λδ n Q=>u δ n λx n1=>match x with
 |.d (.bool b)=>Q (.d (.bool !b)) n1
 |_=>False
theorem O6{op}(h:DE X a ta wa):DE X (.BoolOp op [a] pos) ta wa:=⟨Ua h.pe,h.sd⟩
theorem IT(h:DE X a ta wa)(h2:DE X (.BoolOp .And (b::aE) pos) tb wb):DE X (.BoolOp .And (a::b::aE) pos) (AV ta tb) (dC wa wb):=⟨Pj h.pe h2.pe,λC H B σ δ n Q Q' R q k=>
 h.sd C H B σ δ n _ _ R q λv x H1 n1 R1 k1 r1 q1=>by
  unfold iq at q1
  split at q1
  ·cases(show RdX H1 B v (.bool ah)from r1);refine⟨ah,rfl,?_⟩;sleep 10;exact h2.sd C H1 B σ δ n1 _ _ R1 q1 λv x H2 n2 R2 k2 r2 q2=>k v x H2 n2 R2 ⇑64 r2 q2
  ·cases(show RdX H1 B v (.bool ai)from r1);refine⟨ai,rfl,?_⟩;sleep 7;exact k _ _ H1 n1 R1 k1 (wd (.bl ai)) q1
  ·exact q1.elim⟩
theorem uj(h:DE X a ta wa)(h2:DE X (.BoolOp .Or (b::aE) pos) tb wb):DE X (.BoolOp .Or (a::b::aE) pos) (oj ta tb) (CV wa wb):=⟨L9 h.pe h2.pe,λC H B σ δ n Q Q' R q k=>
 h.sd C H B σ δ n _ _ R q λv x H1 n1 R1 k1 r1 q1=>by
  unfold iq at q1
  split at q1
  ·cases(show RdX H1 B v (.bool ah)from r1);refine⟨ah,rfl,?_⟩;sleep 10;exact k _ _ H1 n1 R1 k1 (wd (.bl ah)) q1
  ·cases(show RdX H1 B v (.bool ai)from r1);refine⟨ai,rfl,?_⟩;sleep 7;exact h2.sd C H1 B σ δ n1 _ _ R1 q1 λv x H2 n2 R2 k2 r2 q2=>k v x H2 n2 R2 ⇑64 r2 q2
  ·exact q1.elim⟩
theorem MK(h:DE X a ta wa):DE X (.UnaryOp .Not a pos) (yq ta) (iR wa):=⟨JR h.pe,λC H B σ δ n Q Q' R q k=>
 h.sd C H B σ δ n _ _ R q λv x H1 n1 R1 k1 r1 q1=>by
  split at q1
  ·rename_i b;cases(show RdX H1 B v (.bool b)from r1);exact⟨b,rfl,k _ _ H1 n1 R1 k1 ⇑44 q1⟩
  ·exact q1.elim⟩
def eu(u:cz)(v w:DT):DT:=λδ n Q=>u δ n λb n1=>if b=ah then v δ n1 Q else w δ n1 Q
theorem Js(h:DC X c tA cA)(h1:DE X a ta wa)(h2:DE X b tb wb):DE X (.IfExp c a b pos) (GL tA ta tb) (eu cA wa wb):=⟨RP h.pt h1.pe h2.pe,λC H B σ δ n Q Q' R q k=>
 h.sd C H B σ δ n _ _ R q λb H1 n1 R1 k1 q1=>by
  cases b with
  |true=>
   rw[if_pos rfl]at q1 ⊢;exact h1.sd C H1 B σ δ n1 _ _ R1 q1 λv x H2 n2 R2 k2 r2 q2=>k v x H2 n2 R2 ⇑64 r2 q2
  |false=>
   rw[if_neg Ai]at q1 ⊢;exact h2.sd C H1 B σ δ n1 _ _ R1 q1 λv x H2 n2 R2 k2 r2 q2=>k v x H2 n2 R2 ⇑64 r2 q2⟩
variable{es:List Expr}{tR:TA}{wR:dI}
def ak:dI:=λ_ n Q=>Q [] n
def ao(w:DT)(r:dI):dI:=λδ n Q=>w δ n λx n1=>r δ n1 λxs n2=>Q (x::xs) n2
theorem m6:DA X [] bq ak:=⟨fh,λC H B σ δ n Q Q' R q k=>k [] [] H n R ⇑19 .nil q⟩
theorem kh(h:DE X e te we)(hr:DA X es tR wR)(hs:Av (e::es) X.env=⇑33::Av es X.env:=by rfl):DA X (e::es) (bU te tR) (ao we wR):=⟨cR h.pe hr.pa hs,λC H B σ δ n Q Q' R q k=>
 h.sd C H B σ δ n _ _ R q λv x H1 n1 R1 k1 r1 q1=>hr.sd C H1 B σ δ n1 _ _ R1 q1 λvs xs H2 n2 R2 k2 r2 q2=>k (v::vs) (x::xs) H2 n2 R2 ⇑64 (.cons (r1.kp k2 R1.bt) r2) q2⟩
def jc:List Wv->Option (List Ad)
 |[]=>ae []
 |.d x::r=>(jc r).map (x::·)
 |_::_=>af
theorem ARel.plain:∀{vs:List V}{xs:List Wv}{ds:List Ad},ARel H B t vs xs->jc xs=ae ds->RdXs H B vs ds
 |_,_,_,.nil,h=>by
  cases h;exact .nil
 |_,_,ds,.cons (x:=x) (xs:=xs) a b,h=>by
  cases x with
  |d x=>
   have h':(jc xs).map (x::·)=ae ds:=h;cases e:jc xs with
   |none=>rw[e]at h';cases h'
   |some es=>
    rw[e]at h';cases h';exact .cons a (ARel.plain b e)
  |tp=>cases h
  |dk _=>cases h
  |dx _=>cases h
  |ln _=>cases h
  |ob _=>cases h
theorem RdXs.fresh(h:RdXs H B vs ds)(hp:H p=af):RdXs (upd H p o) (λb=>B b\/b=p) vs ds:=
 h.move λb o' e n=>⟨by rw[aN (bY e hp)];exact e,λz=>z.elim n λq=>bY e hp q⟩
def aA(w:dI):DT:=λδ n Q=>w δ n λxs n1=>match jc xs with
 |some ds=>ds.length<=1000/\Q (.d ⇑25) n1
 |none=>False
theorem yS{x1}(h:DA X es tR wR):DE X (.Tuple es x1 pos) (lY tR) (aA wR):=⟨Um h.pa,λC H B σ δ n Q Q' R q k=>
 h.sd C H B σ δ n _ _ R q λvs xs H1 n1 R1 k1 r1 q1=>by
  split at q1
  ·rename_i ds e;have r:=r1.plain e;have hl:vs.length<=Az:=by rw[r.len];exact mS q1.1
   refine⟨hl,λp hp=>k _ _ _ n1 (R1.new hp) (k1.trans (Kp.new hp)) (wd (show RdX _ B (.ref p) (.tuple ds)from ?_)) q1.2⟩;exact .tup bH (R1.nb hp) hl ((r.fresh hp).less λb z=>.inl z)
  ·exact q1.elim⟩
def aQ(w:dI):fg:=λδ n Q=>w δ n λxs n1=>match jc xs with
 |some ds=>ds.length<=1000/\Q ds n1
 |none=>False
theorem FX(h:DA X es tR wR):DF X (.List es pos) (jw tR) (aQ wR):=⟨sr h.pa,λC H B σ δ n Q Q' R q k=>
 h.sd C H B σ δ n _ _ R q λvs xs H1 n1 R1 k1 r1 q1=>by
  split at q1
  ·rename_i ds e;have r:=r1.plain e;have hl:vs.length<=Az:=by rw[r.len];exact mS q1.1
   have hn:∀p,H1 p=af->H p=af:=λp hp=>by
    cases q:H p with
    |none=>rfl
    |some o=>
     by_cases z:p=C.t
     ·subst z;obtain⟨_,_,h,_⟩:=R1.tp.ob;rw[h]at hp;cases hp
     ·rw[k1 p o q z]at hp;cases hp
   exact⟨hl,λp hp=>k p vs ds _ n1 (R1.new hp) (k1.trans (Kp.new hp)) (hn p hp) bH hl (r.fresh hp) q1.2⟩
  ·exact q1.elim⟩
def bj(w:fg):DT:=λδ n Q=>w δ n λds n1=>Q (.d ⇑34) n1
theorem UA(h:jK t w):eF t (bj w):=λC H B σ δ n Q Q' R q k=>
 h C H B σ δ n _ _ R q λa xs ds H' n' R' k' h0 h1 h2 h3 q'=>k _ _ H' n' R' k' (wd (show RdX H' B (.ref a) (.list ds)from .lst h1 (R.nb h0) h2 (h3.less λb z=>.inl z))) q'
theorem DF.d(h:DF X e t w):DE X e t (bj w):=⟨h.pe,UA h.sd⟩
theorem Rel.was(R1:Rel C H1 B σ δ n1)(k1:Kp C.t H H1)(hp:H1 p=af):H p=af:=by
 cases q:H p with
 |none=>rfl
 |some o=>
  by_cases z:p=C.t
  ·subst z;obtain⟨_,_,h,_⟩:=R1.tp.ob;rw[h]at hp;cases hp
  ·rw[k1 p o q z]at hp;cases hp
abbrev aR:=List Wv->Int->DQ->Prop
def fi(S:aR):Sp:=λvs H Q _=>∃(t:Addr)(l:TL)(ns:List Int)(B:Addr->Prop)(ws:List Wv)(n:Int)(Q0:DQ),Tp H t l ns n/\B t/\(∀b,B b->H b≠af)/\ARel H B t vs ws/\S ws n Q0 /\
 ∀w n',Q0 w n'->∀v H',Tp H' t l ns n'->Kp t H H'->WRel H' B t v w->Q v H'
section
variable{X:Cx}{e:Expr}{es:List Expr}{pos p:Pos}{tR:TA}{wR:dI}
def aC(S:aR)(w:dI):DT:=λδ n Q=>w δ n λxs n1=>S xs n1 Q
theorem T7(h:jr t w):eF (fU (fi S) [] E0 t) (aC S w):=λC H B σ δ n Q Q' R q k=>
 h C H B σ δ n _ _ R q λvs xs H1 n1 R1 k1 r1 q1=>by
  refine⟨C.t,C.l,C.ns,B,xs,n1,Q,R1.tp,R1.bt,R1.ba,by rw[Bp];exact r1,q1,λw n' q2 v H' T' k' r'=>?_⟩;exact k v w H' n' (R1.step T' k') (k1.trans k') r' q2
theorem RU(F:FnOk X.prog X.w X.K X.mg X.base cx k f fd ps (fi S))(hr:Room k X.A)(hg:Gl X x)(hm:X.mg x=ae (.ref f))(hk:Cw X.K (.ref f)=ah)(hb:Binds X.K fd ps [])
  (ha:DA X (e::es) tR wR) (hdb:⇑21=ai:=by decide) (he:Av (e::es) X.env=⇑33::Av es X.env:=by rfl) (hpl:(C8 pos ⇑43).any (·.1)=ai:=by rfl):
  DE X ⇑62 (fU (fi S) [] E0 tR) (aC S wR):=⟨m9 F hr hg hm hk hb .nil mn ha.pa hdb he hpl,T7 ha.sd⟩
def dU(r:List V->Hp->VK->Prop)(g:List Wv->Int->DQ->Prop):Prop:=∀(C:Ctx)(H:Hp)(B:Addr->Prop)(σ:St)(δ:Sl)(n:Int)(vs:List V)(xs:List Wv)(Q:DQ)(Q':VK),Rel C H B σ δ n->ARel H B C.t vs xs->g xs n Q->
 (∀v x H' n',Rel C H' B σ δ n'->Kp C.t H H'->WRel H' B C.t v x->Q x n'->Q' v H')->r vs H Q'
def wB(g:List Wv->Int->DQ->Prop)(w:dI):DT:=λδ n Q=>w δ n λxs n1=>g xs n1 Q
theorem HW(hr:dU r g)(h:jr t w):eF (fZ r t) (wB g w):=λC H B σ δ n Q Q' R q k=>
 h C H B σ δ n _ _ R q λvs xs H1 n1 R1 k1 r1 q1=>hr C H1 B σ δ n1 vs xs Q Q' R1 r1 q1 λv x H2 n2 R2 k2 r2 q2=>k v x H2 n2 R2 ⇑64 r2 q2
theorem kx{id:String}(hc:CallR X ⇑88 r)(hr:dU r g)(hg:Gl X x)(hm:X.mg x=af)(hv:Bv x=ae ⇑88)(ha:DA X (e::es) tR wR)(hn:x≠"__name__":=by decide)(hdb:⇑21=ai:=by decide)
  (he:Av (e::es) X.env=⇑33::Av es X.env:=by rfl) (hpl:(C8 pos ⇑43).any (·.1)=ai:=by rfl):DE X ⇑62 (fZ r tR) (wB g wR):=⟨kE hc hg hm hv ha.pa hn hdb he hpl,HW hr ha.sd⟩
theorem EM(hc:CallR X (.type T) r)(hr:dU r g)(hg:Gl X x)(hm:X.mg x=af)(hv:Bv x=ae (.type T))(ha:DA X (e::es) tR wR)(hn:x≠"__name__":=by decide)(hdb:⇑21=ai:=by decide)
  (he:Av (e::es) X.env=⇑33::Av es X.env:=by rfl) (hpl:(C8 pos ⇑43).any (·.1)=ai:=by rfl):DE X ⇑62 (fZ r tR) (wB g wR):=⟨om hc hg hm hv ha.pa hn hdb he hpl,HW hr ha.sd⟩
end
structure DEnds where
 nx:Sl->Int->Prop
 rt:DQ
 bk:Sl->Int->Prop:=λ_ _=>False
 ct:Sl->Int->Prop:=λ_ _=>False
 rn:List Ad->Int->Prop:=λ_ _=>False
 rx:List (TK×Ad)->Int->Prop:=λ_ _=>False
abbrev aJ:=Sl->Int->DEnds->Prop
structure EndsOk(C:Ctx)(K:DEnds)(D:Ends):Prop where
 nx:∀H B σ δ n,Rel C H B σ δ n->K.nx δ n->D.nx σ H
 rt:∀H B σ δ n v w,Rel C H B σ δ n->WRel H B C.t v w->K.rt w n->D.rt v H
 bk:∀H B σ δ n,Rel C H B σ δ n->K.bk δ n->D.bk σ H
 ct:∀H B σ δ n,Rel C H B σ δ n->K.ct δ n->D.ct σ H
 rn:∀H B σ δ n a xs ds,Rel C H B σ δ n->C.H0 a=af->H a=ae (.lst xs)->xs.length<=Az->RdXs H ⇑93 xs ds->K.rn ds n->D.rt (.ref a) H
 rx:∀H B σ δ n a l kvs,Rel C H B σ δ n->C.H0 a=af->H a=ae (.dX l)->l.length<=1000->RdY H ⇑93 l kvs->K.rx kvs n->D.rt (.ref a) H
def jA(T:TS)(W:aJ):Prop:=∀(C:Ctx)(H:Hp)(B:Addr->Prop)(σ:St)(δ:Sl)(n:Int)(K:DEnds)(D:Ends),Rel C H B σ δ n->W δ n K->EndsOk C K D->T D σ H
structure DS(X:Cx)(st:Stmt)(T:TS)(W:aJ):Prop where
 ps:PS X st T
 sd:jA T W
structure DSs(X:Cx)(st:List Stmt)(T:TS)(W:aJ):Prop where
 ps:PSs X st T
 sd:jA T W
section
variable{X:Cx}{st:Stmt}{aE:List Stmt}{T U:TS}{W V':aJ}{e:Expr}{te:TE}{we:DT}{pos:Pos}
def aG:aJ:=λδ n K=>K.nx δ n
def aq(W V:aJ):aJ:=λδ n K=>W δ n {K with nx:=λδ n=>V δ n K}
theorem ug:DSs X [] oM aG:=⟨rQ,λC H B σ δ n K D R h E=>E.nx H B σ δ n R h⟩
theorem mU(h:DS X st T W)(h2:DSs X aE U V'):DSs X (st::aE) (gK T U) (aq W V'):=⟨hZ h.ps h2.ps,λC H B σ δ n K D R q E=>
 h.sd C H B σ δ n _ _ R q ⟨λH B σ δ n R q=>h2.sd C H B σ δ n K D R q E,E.rt,E.bk,E.ct,E.rn,E.rx⟩⟩
theorem oX(h:DS X st T W):DSs X [st] T W:=⟨mz h.ps,h.sd⟩
def az(w:DT):aJ:=λδ n K=>w δ n K.rt
theorem LA(h:DE X e te we):DS X (.Return (ae e) pos) (gw te) (az we):=⟨kA h.pe,λC H B σ δ n K D R q E=>
 h.sd C H B σ δ n _ _ R q λv x H' n' R' _ r' q'=>E.rt H' B σ δ n' v x R' r' q'⟩
def aL(c:cz)(W V:aJ):aJ:=λδ n K=>c δ n λb n1=>if b=ah then W δ n1 K else V δ n1 K
theorem lg{a b:List Stmt}{tc:TT}(hc:DC X c tc cc)(ha:DSs X a T W)(hb:DSs X b U V'):DS X (.If c a b pos) (iA tc T U) (aL cc W V'):=⟨rV hc.pt ha.ps hb.ps,λC H B σ δ n K D R q E=>
 hc.sd C H B σ δ n _ _ R q λb H1 n1 R1 _ q1=>by
  cases b with
  |true=>
   rw[if_pos rfl]at q1 ⊢;exact ha.sd C H1 B σ δ n1 K D R1 q1 E
  |false=>
   rw[if_neg Ai]at q1 ⊢;exact hb.sd C H1 B σ δ n1 K D R1 q1 E⟩
def aw(i:Nat)(w:DT):aJ:=λδ n K=>w δ n λx n1=>match x with
 |.d d=>K.nx (δ.set i (↑d)) n1
 |.tp=>K.nx (δ.set i (ae (.w .tp))) n1
 |.dk _=>False
 |.dx _=>False
 |.ln _=>False
 |.ob o=>K.nx (δ.set i (ae (.w (.ob o)))) n1
theorem Hu(hN:X.N.Nodup)(hi:X.N[i]?=ae x)(hx:gc X.env.scope x)(he:DE X e te we)(hs:C5 e (ae ⇑47) pos.line X.env=pure ai:=by rfl)(hf:X.fn x=ah\/X.env.scope.names.lookup x=ae .local:=by first|exact .inl rfl|exact .inr rfl|assumption):
  DS X (.Assign [.Name x pos'] e pos) (bQ te (dH i)) (aw i we):=⟨gV hN hi hx he.pe hs hf,λC H B σ δ n K D R q E=>
 he.sd C H B σ δ n _ _ R q λv x H1 n1 R1 _ r1 q1=>by
  cases x with
  |d d=>exact E.nx _ _ _ _ _ (R1.set r1 rfl) q1
  |tp=>exact E.nx _ _ _ _ _ (R1.set r1 rfl) q1
  |dk _=>sleep 2
  |dx _=>sleep 2
  |ln _=>sleep 2
  |ob o=>exact E.nx _ _ _ _ _ (R1.set r1 rfl) q1⟩
def bo(i:Nat)(w:fg):aJ:=λδ n K=>w δ n λds n1=>K.nx (δ.set i ⇑55) n1
theorem Rel.h0{a:Addr}(R:Rel C H B σ δ n)(h:H a=af):C.H0 a=af:=R.was R.kp h
theorem zF(hN:X.N.Nodup)(hi:X.N[i]?=ae x)(hx:gc X.env.scope x)(he:DF X e te w)(hs:C5 e (ae ⇑47) pos.line X.env=pure ai:=by rfl)(hf:X.fn x=ah\/X.env.scope.names.lookup x=ae .local:=by first|exact .inl rfl|exact .inr rfl|assumption):
  DS X (.Assign [.Name x pos'] e pos) (bQ te (dH i)) (bo i w):=⟨gV hN hi hx he.pe hs hf,λC H B σ δ n K D R q E=>
 he.sd C H B σ δ n _ _ R q λa xs ds H1 n1 R1 k1 h0 h1 h2 h3 q1=>by
  refine E.nx _ _ _ _ _ (R.own R1 k1 h0 (by rw[h1];exact λz=>nomatch z) rfl ?_) q1;exact⟨a,xs,rfl,h1,.inr rfl,R.h0 h0,h2,h3⟩⟩
def bW(i:Nat)(W:aJ):aJ:=λδ n K=>match δ[i]? with
 |some ⇑55=>W (δ.set i (↑⇑34)) n K
 |some (ae (.odk m))=>W (δ.set i (ae (.w (.ob (.k m))))) n K
 |some (ae (.odx m))=>W (δ.set i (ae (.w (.ob (.x m))))) n K
 |_=>W δ n K
theorem QV(i)(h:DSs X sts T W):DSs X sts T (bW i W):=⟨h.ps,λC H B σ δ n K D R q E=>by
 unfold bW at q
 split at q
 ·rename_i ds e;obtain⟨B',R'⟩:=R.frz e;exact h.sd C H B' σ _ n K D R' q E
 ·rename_i m e;obtain⟨B',R'⟩:=R.frzK e;exact h.sd C H B' σ _ n K D R' q E
 ·rename_i m e;obtain⟨B',R'⟩:=R.frzX e;exact h.sd C H B' σ _ n K D R' q E
 ·exact h.sd C H B σ δ n K D R q E⟩
def a8(i:Nat)(w:DT):aJ:=λδ n K=>match δ[i]? with
 |some ⇑55=>w δ n λx n1=>match x with
  |.d d=>ds.length < 1000000/\K.nx (δ.set i (ae (.own (ds++[d])))) n1
  |_=>False
 |_=>False
theorem zi(h:n < 1000000):n < Az:=Nat.lt_trans h ∎
theorem AR{xp ap cp:Pos}(hN:X.N[i]?=ae x)(he:DE X e te we)(hv:fC X.env.scope x:=by first|exact Cs rfl|exact Ca (Cs rfl)|exact Ca (Ca rfl))(hd:⇑21=ai:=by decide)
  (hcd:⇑46=ai:=by decide)
  (hbase:attributeBase ⇑29 "append" X.env (eval ⇑29 X.env)=eval ⇑29 X.env:=by rfl)
  (hfew:((C8 cp (Av [e] X.env)).all (λx=>!x.1)&&(backToKw cp (keywordEach [] X.env)).all (λx=>x.1.isSome)
   && decide ([e].length+([]:List Keyword).length+(if ([]:List Keyword).isEmpty then 0 else 1) < 30))=ah:=by rfl)
  (hline:(ap.endLine==cp.line)=ah:=by rfl) (hs:Av [e] X.env=[⇑33]:=by rfl) (hplain:(C8 cp ⇑65).any (·.1)=ai:=by rfl)
  (hsw:C5 (.Call (.Attribute ⇑29 "append" ap) [e] [] cp) af pos.line X.env=pure ai:=by rfl):
  DS X (.Expr (.Call (.Attribute ⇑29 "append" ap) [e] [] cp) pos) (r8 (rB X.K "list" uv (aM i) (bU te bq))) (a8 i we):=
 ⟨AS (yU PySem.F.plainAttrs_list PySem.F.slot_list_append PySem.F.type_list_append xM ⇑82 (cR he.pe fh hs) hbase hfew hline hs hplain) hsw,λC H B σ δ n K D R q E=>by
  unfold a8 at q
  split at q
  ·rename_i ds ei;obtain⟨v,hv,a,xs,rfl,e2,e3,e4,e5,e6⟩:=R.sl i _ ei;refine⟨_,hv,.inl ⟨rfl,_,SqL.of e2⟩,he.sd C H B σ δ n _ _ R q λu y H1 n1 R1 k1 r1 q1=>?_⟩;cases y with
   |d d=>
    sleep 23;have e2':=k1 _ _ e2 hat;refine⟨a,xs,u,rfl,rfl,e2',zi (by rw[e6.len];exact q1.1),?_⟩;refine E.nx _ _ _ _ _ (R1.mutOwn ei rfl hv e3 e4 ?_ rfl) q1.2;refine⟨a,xs++[u],rfl,bH,e3,e4,?_,?_⟩
    ·rw[An,e6.len];exact zi q1.1
    ·refine RdXs.keep (λb o e n=>?_) ((e6.kp k1 R.bt).append (.cons r1 .nil));rw[aN λ(z:b=a)=>n (z▸e3)];exact e
   |tp=>sleep 2
   |dk _=>sleep 2
   |dx _=>sleep 2
   |ln _=>sleep 2
   |ob _=>sleep 2
  ·exact q.elim⟩
end
def dw(N:List Str)(ws:List Wv):Sl:=ws.map (λx=>ae (.w x))++Dj (N.length-ws.length) af
def cD(S:aR)(W:aJ)(N:List Str):Prop:=∀ws n Q,S ws n Q->W (dw N ws) n {nx:=λ_ n=>Q ⇑17 n,rt:=Q}
theorem ARel.get:∀{vs:List V}{xs:List Wv}{i:Nat}{x:Wv},ARel H B t vs xs->xs[i]?=ae x->∃v,vs[i]?=ae v/\WRel H B t v x
 |_,_,_,_,.nil,e=>by simp at e
 |_,_,0,_,.cons h _,e=>by
  simp at e;subst e;exact⟨_,rfl,h⟩
 |_,_,i+1,x,.cons _ r,e=>by
  obtain⟨v,h1,h2⟩:=ARel.get (i:=i) (x:=x) r (by simpa using e);exact⟨v,by simpa using h1,h2⟩
theorem rX(T:Tp H t l ns n)(bt:B t)(ba:∀b,B b->H b≠af)(r:ARel H B t vs ws):Rel ⟨t,l,ns,H,B,λ_=>af⟩ H B (L2.start N vs) (dw N ws) n where
 tp:=T
 kp:=Kp.refl _ _
 t0:=by
  obtain⟨_,_,h,_⟩:=T.ob;show H t≠af;rw[h];sleep 12
 l0:=by
  show H l.s≠af;rw[T.ls];sleep 12
 g0:=λe=>by
  show H l.g≠af;rw[T.ag e];sleep 12
 fz:=λb o e=>nomatch e
 bt:=bt
 b0:=λ_ z=>z
 ba:=ba
 a0:=ba
 sl:=λi x e=>by
  have hl:=r.len;unfold dw at e;rw[List.getElem?_append]at e
  split at e
  ·rename_i hi;rw[Aa]at hi;rw[Am]at e;cases q:ws[i]? with
   |none=>rw[q]at e;cases e
   |some y=>
    rw[q]at e;cases e;obtain⟨v,h1,h2⟩:=r.get q;refine⟨v,?_,h2,λz=>?_⟩
    ·unfold L2.start;rw[Et (by rw[Aa,hl];exact hi),Am,h1];rfl
    ·cases y with
     |d _=>cases z
     |tp=>cases z
     |dk _=>
      obtain⟨a,l',f1,f2,_⟩:=h2;exact⟨a,f1,by show H a≠af;rw[f2];exact λz=>nomatch z⟩
     |dx _=>
      obtain⟨a,l',f1,f2,_⟩:=h2;exact⟨a,f1,by show H a≠af;rw[f2];exact λz=>nomatch z⟩
     |ln _=>
      obtain⟨a,l',f1,f2,_⟩:=h2;exact⟨a,f1,by show H a≠af;rw[f2];exact λz=>nomatch z⟩
     |ob _=>cases z
  ·rw[E8]at e
   split at e
   ·cases e
   ·cases e
 ow:=λi j x y v e1 e2 o1 o2 _ _=>by
  unfold dw at e1;rw[List.getElem?_append]at e1
  split at e1
  ·rw[Am]at e1;cases q:ws[i]? with
   |none=>rw[q]at e1;cases e1
   |some y=>
    rw[q]at e1;cases e1;cases o1
  ·rw[E8]at e1
   split at e1
   ·cases e1
   ·cases e1
 len:=by
  unfold L2.start dw;rw[An,An,Aa,Aa,List.length_replicate,List.length_replicate,r.len]
section
variable{P:Bh}{w:Bt}{K:Ah}{mg:Str->Option Ag}{base:Heap}
theorem Fun.okD(F:Fun K x qual st f fd)(Sc:FnScope N ps (b8 st))(len:∀ws n Q,S ws n Q->ws.length=ps.length)
  (hbody:∀(cdv:Ag)(A:B1)(outer:List Env)(s:Ak)(H:Hp)(E:XK),Room k ⇑142->
   ∃T W,DSs (cO cx P w K mg base N qual (b8 st) f cdv A outer s H E).nox (fA st) T W/\∀ws n Q,S ws n Q->W (dw N ws) n {nx:=λ_ n=>Q ⇑17 n,rt:=Q}):FnOk P w K mg base cx (k+1) f fd ps (fi S):=by
 refine F.ok Sc ⇑109 ⇑110
 ·obtain⟨t,l,ns,B,ws,n,Q0,_,_,_,r,q,_⟩:=h;rw[r.len];exact len ws n Q0 q
 ·obtain⟨t,l,ns,B,ws,n,Q0,T,bt,ba,r,q,kk⟩:=h;obtain⟨T',W,d,hw⟩:=hbody cdv A outer s H E hr;refine⟨T',d.ps,d.sd ⟨t,l,ns,H,B,λ_=>af⟩ H B _ _ n _ _ (rX T bt ba r) (hw ws n Q0 q) ⟨?_,?_,?_,?_,λ_ _ _ _ _ _ _ _ _ _ _ _ _ z=>z.elim,λ_ _ _ _ _ _ _ _ _ _ _ _ _ z=>z.elim⟩⟩
  ·exact λH' B' σ δ n' R' q'=>kk _ _ q' .non H' R'.tp R'.kp (show RdX H' B .non .none from .non)
  ·exact λH' B' σ δ n' v x R' r' q'=>kk _ _ q' v H' R'.tp R'.kp (r'.less R'.b0)
  ·sleep 14
  ·sleep 14
end
section
variable{X:Cx}{a b c e:Expr}{ta tb tc te:TE}{wa wb wc we:DT}{pos p:Pos}
def gI(Cd:Int->Int->Prop)(f:Int->Int->Ad):Wv->Wv->Int->DQ->Prop:=λx y n Q=>match x,y with
 |.d (.int i),.d (.int j)=>Cd i j/\Q (.d (f i j)) n
 |_,_=>False
theorem NP(h:∀i j H B,RdX H B (g i j) (f i j)):bB (rI Cd g) (gI Cd f):=λC H B σ δ n x y p q Q Q' R rx ry h1 k=>by
 unfold gI at h1
 split at h1
 ·rename_i i j;cases(show RdX H B x (.int i)from rx);cases(show RdX H B y (.int j)from ry);exact⟨i,j,rfl,rfl,h1.1,k _ _ H n R ⇑19 (wd (h i j H B)) h1.2⟩
 ·sleep 9
def cC(f:Int->Int->Ad):Wv->Wv->Int->DQ->Prop:=λx y n Q=>match x,y with
 |.d (.int i),.d (.int j)=>Q (.d (f i j)) n
 |_,_=>False
theorem GF(h:∀i j H B,RdX H B (g i j) (f i j)):bB (fQ g) (cC f):=λC H B σ δ n x y p q Q Q' R rx ry h1 k=>by
 unfold cC at h1
 split at h1
 ·rename_i i j;cases(show RdX H B x (.int i)from rx);cases(show RdX H B y (.int j)from ry);exact⟨i,j,rfl,rfl,k _ _ H n R ⇑19 (wd (h i j H B)) h1⟩
 ·sleep 9
theorem JH(ha:DE X a ta wa)(hb:DE X b tb wb):DE X (.BinOp a .Sub b pos) (d3 (fQ λi j=>.int (i-j)) ta tb) (w2 wa wb ⇑94):=iZ Rm (GF λ_ _ _ _=>.int _) ha hb
theorem JK(ha:DE X a ta wa)(hb:DE X b tb wb):DE X (.BinOp a .Mod b pos) (d3 (rI (λ_ j=>0 < j) λi j=>.int (i % j)) ta tb) (w2 wa wb (gI (λ_ j=>0 < j) λi j=>.int (i % j))):=iZ jq (NP λ_ _ _ _=>.int _) ha hb
def jz(w:DT):DT:=λδ n Q=>w δ n λx n1=>match x with
 |.d (.int i)=>Q (.d (.int (-i))) n1
 |_=>False
theorem O8(ha:DE X a ta wa):DE X (.UnaryOp .USub a pos) (DZ (rU λi=>.int (-i)) ta) (jz wa):=⟨OG Pa ha.pe,λC H B σ δ n Q Q' R q k=>ha.sd C H B σ δ n _ _ R q λv x H1 n1 R1 k1 r1 q1=>by
 split at q1
 ·rename_i i;cases(show RdX H1 B v (.int i)from r1);exact⟨i,rfl,k _ _ H1 n1 R1 k1 (wd (.int _)) q1⟩
 ·exact q1.elim⟩
def lT:Wv->Wv->Int->DQ->Prop:=λx y n Q=>match x,y with
 |.d (.int i),.d (.int j)=>Q (.d (.int (i+j))) n
 |.d (.str i),.d (.str j)=>i.length+j.length<=Az/\Q (.d (.str (i++j))) n
 |.d (.tuple i),.d (.tuple j)=>(i≠[]\/j≠[])/\i.length+j.length<=Az/\Q (.d (.tuple (i++j))) n
 |.d (.list i),.d (.list j)=>i.length+j.length<=Az/\Q (.d (.list (i++j))) n
 |_,_=>False
def qx(K:Ah):R2:=λx y H Q=>(fQ λi j=>.int (i+j)) x y H Q\/(∃i j,x=.str i/\y=.str j/\i.length+j.length<=Az/\Q (.str (i++j)) H)\/CI K x y H Q\/EV K x y H Q\/jY x y H Q
theorem op_addA:OpR X (Fj .Add) (qx X.K):=
 op_add.or (op_add_str.or (op_catA.or (op_catT.or EF)))
theorem NZ(i j:Str):(i++j).length=i.length+j.length:=Array.size_append
theorem Ts:bB (qx K) lT:=λC H B σ δ n x y p q Q Q' R rx ry h1 k=>by
 unfold lT at h1
 split at h1
 ·rename_i i j;cases(show RdX H B x (.int i)from rx);cases(show RdX H B y (.int j)from ry);exact .inl ⟨i,j,rfl,rfl,k _ _ H n R ⇑19 (wd (.int _)) h1⟩
 ·rename_i i j;cases(show RdX H B x (.str i)from rx);cases(show RdX H B y (.str j)from ry);exact .inr (.inl ⟨i,j,rfl,rfl,h1.1,k _ _ H n R ⇑19 (wd (show RdX H B _ (.str (i++j))from .str _ (by rw[NZ];exact h1.1))) h1.2⟩)
 ·rename_i i j;cases(show RdX H B x (.tuple i)from rx)with
  |@tup ax xs _ e1 e2 e3 e4=>
   cases(show RdX H B y (.tuple j)from ry)with
   |@tup ay ys _ f1 f2 f3 f4=>
    obtain⟨ne,hl,q⟩:=h1;have hl':xs.length+ys.length<=Az:=by rw[e4.len,f4.len];exact hl
    have new:∀pn,H pn=af->Q' (.ref pn) (upd H pn (.tup (xs++ys))):=λpn hp=>by
     refine k _ _ _ n (R.new hp) (Kp.new hp) (wd (show RdX _ B _ (.tuple (i++j))from .tup bH (R.nb hp) (by rw[An];exact hl') ?_)) q;exact((e4.append f4).fresh hp).less λb z=>.inl z
    by_cases hy:ys=[]
    ·have hx:xs≠[]:=λz=>by
      subst hy z;cases e4;cases f4;exact ne.elim (λq=>q rfl) λq=>q rfl
     refine .inr (.inr (.inr (.inl ⟨ax,ay,xs,ys,rfl,rfl,SqT.of e1,SqT.of f1,hx,hl',λ_=>?_,λ_=>new⟩)));subst hy;cases f4;rw[Bp]at q;exact k _ _ H n R ⇑19 (wd (show RdX H B _ (.tuple i)from .tup e1 e2 e3 e4)) q
    ·refine .inr (.inr (.inl ⟨ax,ay,xs,ys,rfl,rfl,SqT.of e1,SqT.of f1,hy,hl',λz=>?_,λ_=>new⟩));subst z;cases e4;exact k _ _ H n R ⇑19 (wd (show RdX H B _ (.tuple j)from .tup f1 f2 f3 f4)) q
 ·rename_i i j;cases(show RdX H B x (.list i)from rx)with
  |@lst ax xs _ e1 e2 e3 e4=>
   cases(show RdX H B y (.list j)from ry)with
   |@lst ay ys _ f1 f2 f3 f4=>
    obtain⟨hl,q⟩:=h1;have hl':xs.length+ys.length<=Az:=by rw[e4.len,f4.len];exact hl
    refine .inr (.inr (.inr (.inr ⟨ax,ay,xs,ys,rfl,rfl,e1,f1,hl',λpn hp=>?_⟩)));refine k _ _ _ n (R.new hp) (Kp.new hp) (wd (show RdX _ B _ (.list (i++j))from .lst bH (R.nb hp) (by rw[An];exact hl') ?_)) q;exact((e4.append f4).fresh hp).less λb z=>.inl z
 ·sleep 9
def hV(f:Int->Int->Bool)(h:List Nat->List Nat->Bool):Wv->Wv->Int->DQ->Prop:=λx y n Q=>match x,y with
 |.d (.int i),.d (.int j)=>Q (.d (.bool (f i j))) n
 |.d (.str i),.d (.str j)=>Q (.d (.bool (h i.cps.toList j.cps.toList))) n
 |_,_=>False
theorem sE:bB (λx y H Q=>(fQ λi j=>.bl (f i j)) x y H Q\/∃i j,x=.str i/\y=.str j/\Q (.bl (h i.cps.toList j.cps.toList)) H) (hV f h):=λC H B σ δ n x y p q Q Q' R rx ry h1 k=>by
 unfold hV at h1
 split at h1
 ·rename_i i j;cases(show RdX H B x (.int i)from rx);cases(show RdX H B y (.int j)from ry);exact .inl ⟨i,j,rfl,rfl,k _ _ H n R ⇑19 ⇑44 h1⟩
 ·rename_i i j;cases(show RdX H B x (.str i)from rx);cases(show RdX H B y (.str j)from ry);exact .inr ⟨i,j,rfl,rfl,k _ _ H n R ⇑19 ⇑44 h1⟩
 ·sleep 9
theorem Q2:OpR X (B6 .GtE) (λx y H Q=>∃i j,x=.str i/\y=.str j/\Q (.bl (!decide (i.cps.toList < j.cps.toList))) H):=by
 sleep 8;obtain⟨i,j,rfl,rfl,q⟩:=h;sleep 3;sleep 4;exact P.ge_str (cQ I q rfl)
abbrev gf:=hV (λi j=>decide (i < j)) (λi j=>decide (i < j))
abbrev m3:=hV (λi j=>decide (i<=j)) (λi j=>!decide (j < i))
abbrev jG:=hV (λi j=>decide (j < i)) (λi j=>decide (j < i))
abbrev sI:=hV (λi j=>decide (j<=i)) (λi j=>!decide (i < j))
def oA:R2:=λx y H Q=>(fQ λi j=>.bl (decide (i < j))) x y H Q\/∃i j,x=.str i/\y=.str j/\Q (.bl (decide (i.cps.toList < j.cps.toList))) H
theorem PU:OpR X (B6 .Lt) oA:=op_lt.or NC
def oU:R2:=λx y H Q=>(fQ λi j=>.bl (decide (i<=j))) x y H Q\/∃i j,x=.str i/\y=.str j/\Q (.bl (!decide (j.cps.toList < i.cps.toList))) H
theorem Hv:OpR X (B6 .LtE) oU:=op_le.or Kz
def oV:R2:=λx y H Q=>(fQ λi j=>.bl (decide (j < i))) x y H Q\/∃i j,x=.str i/\y=.str j/\Q (.bl (decide (j.cps.toList < i.cps.toList))) H
theorem Uw:OpR X (B6 .Gt) oV:=op_gt.or Ji
def nu:R2:=λx y H Q=>(fQ λi j=>.bl (decide (j<=i))) x y H Q\/∃i j,x=.str i/\y=.str j/\Q (.bl (!decide (i.cps.toList < j.cps.toList))) H
theorem Ol:OpR X (B6 .GtE) nu:=op_ge.or Q2
theorem Jh:bB oA gf:=sE (f:=λi j=>decide (i < j)) (h:=λi j=>decide (i < j))
theorem yd:bB oU m3:=sE (f:=λi j=>decide (i<=j)) (h:=λi j=>!decide (j < i))
theorem PN:bB oV jG:=sE (f:=λi j=>decide (j < i)) (h:=λi j=>decide (j < i))
theorem L5:bB nu sI:=sE (f:=λi j=>decide (j<=i)) (h:=λi j=>!decide (i < j))
def fM:Ad->Ad->Option Bool
 |.none,.none=>ae ah
 |.none,.int _=>ae ai
 |.int _,.none=>ae ai
 |.none,.bool _=>ae ai
 |.bool _,.none=>ae ai
 |.none,.str _=>ae ai
 |.str _,.none=>ae ai
 |.int i,.int j=>ae (decide (i=j))
 |.bool i,.bool j=>ae (decide (i=j))
 |.str i,.str j=>ae (decide (i=j))
 |.int _,.str _=>ae ai
 |.str _,.int _=>ae ai
 |.bool _,.str _=>ae ai
 |.str _,.bool _=>ae ai
 |.list _,.str _=>ae ai
 |.tuple _,.str _=>ae ai
 |.dict _,.str _=>ae ai
 |.list xs,.list []=>ae xs.isEmpty
 |_,_=>af
def sA:R2:=λx y H Q=>∃d h B,RdX H B x d/\y=.str h/\Q (.bl (bz h d)) H
theorem yb(x y):decide (V.str x=V.str y)=decide (x=y):=by
 by_cases z:x=y
 ·rw[z,decide_eq_true rfl,decide_eq_true rfl]
 ·rw[decide_eq_false z,decide_eq_false λw=>z (V.str.inj w)]
theorem yV(x y):decide (V.int x=V.int y)=decide (x=y):=by
 by_cases z:x=y
 ·rw[z,decide_eq_true rfl,decide_eq_true rfl]
 ·rw[decide_eq_false z,decide_eq_false λw=>z (V.int.inj w)]
theorem BB(x y):decide (V.bl x=V.bl y)=decide (x=y):=by
 by_cases z:x=y
 ·rw[z,decide_eq_true rfl,decide_eq_true rfl]
 ·rw[decide_eq_false z,decide_eq_false λw=>z (V.bl.inj w)]
theorem Sb(hu:X.A.units < Du):OpR X (B6 .Eq) sA:=by
 sleep 8;obtain⟨d,hh,B,hd,rfl,q⟩:=h;cases hd with
 |non=>exact op_eq pins s σ H _ _ v u Q I rx ry ⟨rfl,q⟩
 |bl b=>exact op_eq pins s σ H _ _ v u Q I rx ry ⟨rfl,q⟩
 |int i=>exact op_eq pins s σ H _ _ v u Q I rx ry ⟨rfl,q⟩
 |str x hx=>
  refine op_eq pins s σ H _ _ v u Q I rx ry ⟨rfl,?_⟩;rw[yb];exact q
 |@lst a xs ds h1 h2 h3 h4=>
  cases(show v=A4 a from rx);obtain⟨t,rfl⟩:=(show ∃t,u=Value.str hh t from ry);obtain⟨its,_,p,_⟩:=I.list (SqL.of (K:=X.K) h1);exact PySem.SeqAt.RcAt.list_str hh t p.isList hu _ _ _ _ ⟨.bl ai,H,I,rfl,q⟩
 |@tup a xs ds h1 h2 h3 h4=>
  cases(show v=A4 a from rx);obtain⟨t,rfl⟩:=(show ∃t,u=Value.str hh t from ry);obtain⟨its,_,p,_⟩:=I.tuple (SqT.of (K:=X.K) h1);exact PySem.SeqAt.RcAt.tuple_str hh t ⇑139 hu _ _ _ _ ⟨.bl ai,H,I,rfl,q⟩
def aZ:Wv->Wv->Int->DQ->Prop:=λx y n Q=>match x,y with
 |.d a,.d b=>match fM a b with
  |some r=>Q ⇑71 n
  |none=>False
 |_,_=>False
theorem QO(hu:X.A.units < Du):OpR X (B6 .Eq) (λx y H Q=>qJ x y H Q\/sA x y H Q\/sf X.K x y H Q):=op_eq.or ((Sb hu).or (N1 hu))
theorem Oz:bB (λx y H Q=>qJ x y H Q\/sA x y H Q\/sf K x y H Q) aZ:=λC H B σ δ n x y p q Q Q' R rx ry h1 k=>by
 unfold aZ at h1
 split at h1
 ·rename_i da db;have rx:RdX H B x da:=rx;have ry:RdX H B y db:=ry;have fin:∀r:Bool,Q ⇑71 n->Q' (.bl r) H:=λr q=>k _ _ H n R ⇑19 (wd (.bl r)) q
  split at h1
  ·rename_i r er;have h1:=fin r h1;cases rx with
   |non=>cases ry<;>first|(cases er;done)|(cases er;exact .inl ⟨rfl,h1⟩)
   |bl i=>cases ry<;>first|(cases er;done)|(cases er;exact .inl ⟨rfl,by first|exact h1|(rw[BB];exact h1)⟩)
   |int i=>cases ry<;>first|(cases er;done)|(cases er;exact .inl ⟨rfl,by first|exact h1|(rw[yV];exact h1)⟩)
   |str i hi=>cases ry<;>first|(cases er;done)|(cases er;exact .inl ⟨rfl,by first|exact h1|(rw[yb];exact h1)⟩)
   |@lst ax xs ds e1 e2 e3 e4=>
    cases ry with
    |str j hj=>cases er;exact .inr (.inl ⟨_,j,B,.lst e1 e2 e3 e4,rfl,h1⟩)
    |@lst ay ys es f1 f2 f3 f4=>
     cases f4 with
     |nil=>
      have er:ae ds.isEmpty=ae r:=er;cases er;refine .inr (.inr ⟨ax,ay,xs,rfl,rfl,SqL.of e1,SqL.of f1,?_⟩);have:xs.isEmpty=ds.isEmpty:=by cases e4<;>rfl
      rw[this];exact h1
     |cons _ _=>cases er
    |_=>cases er
   |@tup ax xs ds e1 e2 e3 e4=>
    cases ry with
    |str j hj=>cases er;exact .inr (.inl ⟨_,j,B,.tup e1 e2 e3 e4,rfl,h1⟩)
    |_=>cases er
  ·sleep 9
 ·sleep 9
def pF(a b:Ad):Option Bool:=match a,b with
 |.list _,_=>af
 |.tuple _,_=>af
 |a,b=>(fM a b).map not
def fF:Wv->Wv->Int->DQ->Prop:=λx y n Q=>match x,y with
 |.d a,.d b=>match pF a b with
  |some r=>Q ⇑71 n
  |none=>False
 |_,_=>False
theorem Mm:bB FW fF:=λC H B σ δ n x y p q Q Q' R rx ry h1 k=>by
 unfold fF at h1
 split at h1
 ·rename_i da db;have rx:RdX H B x da:=rx;have ry:RdX H B y db:=ry;have fin:∀r:Bool,Q ⇑71 n->Q' (.bl r) H:=λr q=>k _ _ H n R ⇑19 (wd (.bl r)) q
  split at h1
  ·rename_i r er;have h1:=fin r h1;cases rx with
   |non=>cases ry<;>first|(cases er;done)|(cases er;exact⟨rfl,h1⟩)
   |bl i=>cases ry<;>first|(cases er;done)|(cases er;exact⟨rfl,by first|exact h1|(rw[BB];exact h1)⟩)
   |int i=>cases ry<;>first|(cases er;done)|(cases er;exact⟨rfl,by first|exact h1|(rw[yV];exact h1)⟩)
   |str i hi=>cases ry<;>first|(cases er;done)|(cases er;exact⟨rfl,by first|exact h1|(rw[yb];exact h1)⟩)
   |lst _ _ _ _=>cases er
   |tup _ _ _ _=>cases er
  ·sleep 9
 ·sleep 9
def eU:Ad->Bool
 |.none=>ah
 |_=>ai
def bh(neg:Bool):Wv->Wv->Int->DQ->Prop:=λx y n Q=>match x,y with
 |.d a,.d .none=>Q (.d (.bool (if neg then !eU a else eU a))) n
 |_,_=>False
theorem zD(h:RdX H B v d):decide (v=.non)=eU d:=by cases h<;>rfl
theorem tJ:bB (λx y H Q=>y=.non/\Q (.bl (decide (x=.non))) H) (bh ai):=λC H B σ δ n x y p q Q Q' R rx ry h1 k=>by
 unfold bh at h1
 split at h1
 ·rename_i da;cases(show RdX H B y .none from ry);exact⟨rfl,k _ _ H n R ⇑19 (wd (show RdX H B _ (.bool (eU da))from by rw[zD rx];exact .bl _)) h1⟩
 ·sleep 9
theorem vA:bB (λx y H Q=>y=.non/\Q (.bl (!decide (x=.non))) H) (bh ah):=λC H B σ δ n x y p q Q Q' R rx ry h1 k=>by
 unfold bh at h1
 split at h1
 ·rename_i da;cases(show RdX H B y .none from ry);exact⟨rfl,k _ _ H n R ⇑19 (wd (show RdX H B _ (.bool (!eU da))from by rw[zD rx];exact .bl _)) h1⟩
 ·sleep 9
def fB:Ad->Bool
 |.none=>ah
 |.bool _=>ah
 |.int _=>ah
 |.str _=>ah
 |_=>ai
def qf:Ad->Ad->Bool
 |.none,.none=>ah
 |.bool a,.bool b=>a==b
 |.bool a,.int b=>(if a then 1 else 0)==b
 |.int a,.bool b=>a==(if b then 1 else 0)
 |.int a,.int b=>a==b
 |.str a,.str b=>a==b
 |_,_=>ai
def bS(x:Ad)(ds:List Ad):Bool:=ds.any λy=>qf y x
theorem lC(h:RdX H B v d)(f:fB d=ah):ib v=ah:=by cases h<;>first|rfl|cases f
theorem kG:∀{vs:List V}{ds:List Ad},RdXs H B vs ds->ds.all fB=ah->vs.all ib=ah
 |_,_,.nil,_=>rfl
 |_,_,.cons h r,f=>by
  rw[List.all_cons,Cc]at f ⊢;exact⟨lC h f.1,kG r f.2⟩
theorem S9{d e:Ad}(h:RdX H B v d)(h2:RdX H B u e):iW v u=qf d e:=by cases h<;>cases h2<;>rfl
theorem kY(h:RdX H B v d):∀{vs:List V}{ds:List Ad},RdXs H B vs ds->qo v vs=bS d ds
 |_,_,.nil=>rfl
 |_,_,.cons h1 r=>by
  have:=kY h r;unfold qo bS at this ⊢;rw[Cm,Cm,this,S9 h1 h]
def fc(neg:Bool):Wv->Wv->Int->DQ->Prop:=λx y n Q=>match x,y with
 |.d a,.d ⇑25=>fB a=ah/\ds.all fB=ah/\Q (.d (.bool (if neg then !bS a ds else bS a ds))) n
 |.d a,.d ⇑34=>fB a=ah/\ds.all fB=ah/\Q (.d (.bool (if neg then !bS a ds else bS a ds))) n
 |_,_=>False
theorem jV:bB (ij K neg) (fc neg):=λC H B σ δ n x y p q Q Q' R rx ry h1 k=>by
 unfold fc at h1
 split at h1
 ·rename_i da ds;obtain⟨f1,f2,q⟩:=h1;have rx:RdX H B x da:=rx;cases(show RdX H B y (.tuple ds)from ry)with
  |@tup ay ys _ e1 e2 e3 e4=>
   refine⟨ay,ys,rfl,.inr (SqT.of e1),lC rx f1,kG e4 f2,?_⟩;rw[kY rx e4];exact k _ _ H n R ⇑19 ⇑44 q
 ·rename_i da ds;obtain⟨f1,f2,q⟩:=h1;have rx:RdX H B x da:=rx;cases(show RdX H B y (.list ds)from ry)with
  |@lst ay ys _ e1 e2 e3 e4=>
   refine⟨ay,ys,rfl,.inl (SqL.of e1),lC rx f1,kG e4 f2,?_⟩;rw[kY rx e4];exact k _ _ H n R ⇑19 ⇑44 q
 ·sleep 9
def av:Wv->Wv->Int->DQ->Prop:=λx y n Q=>match x,y with
 |.d ⇑34,.d (.int i)=>match dv ds i with
  |some d=>Q (.d d) n
  |none=>False
 |.d ⇑25,.d (.int i)=>match dv ds i with
  |some d=>Q (.d d) n
  |none=>False
 |.d (.str z),.d (.int i)=>match dv z.cps.toList i with
  |some c=>Q (.d (.str ⟨#[c]⟩)) n
  |none=>False
 |_,_=>False
theorem wW(r:RdXs H B vs ds)(h:dv ds i=ae d):∃v,dv vs i=ae v/\RdX H B v d:=by
 unfold dv at h ⊢;rw[r.len];cases e:jP ds.length i with
 |none=>rw[e]at h;cases h
 |some j=>
  rw[e]at h;exact r.getD h
theorem md:bB (lr K) av:=λC H B σ δ n x y p q Q Q' R rx ry h1 k=>by
 unfold av at h1
 split at h1
 ·rename_i ds i
  split at h1
  ·rename_i d e;cases(show RdX H B y (.int i)from ry);cases(show RdX H B x (.list ds)from rx)with
   |@lst ay ys _ e1 e2 e3 e4=>
    obtain⟨v,f1,f2⟩:=wW e4 e;exact .inl ⟨ay,ys,i,v,rfl,rfl,SqL.of e1,f1,k _ _ H n R ⇑19 (wd f2) h1⟩
  ·sleep 9
 ·rename_i ds i
  split at h1
  ·rename_i d e;cases(show RdX H B y (.int i)from ry);cases(show RdX H B x (.tuple ds)from rx)with
   |@tup ay ys _ e1 e2 e3 e4=>
    obtain⟨v,f1,f2⟩:=wW e4 e;exact .inr (.inl ⟨ay,ys,i,v,rfl,rfl,SqT.of e1,f1,k _ _ H n R ⇑19 (wd f2) h1⟩)
  ·sleep 9
 ·rename_i z i
  split at h1
  ·rename_i c e;cases(show RdX H B y (.int i)from ry);cases(show RdX H B x (.str z)from rx)with
   |str _ hz=>exact .inr (.inr ⟨z,i,c,rfl,rfl,hz,e,k _ _ H n R ⇑19 (wd (show RdX H B _ (.str ⟨#[c]⟩)from .str _ (by show 1<=Az;decide))) h1⟩)
  ·sleep 9
 ·sleep 9
theorem vq(ha:DE X a ta wa)(hb:DE X b tb wb)(hs:qK b:=by exact λ_ _=>rfl):DE X (.Subscript a b pos) (d3 (lr X.K) ta tb) (w2 wa wb av):=⟨ie xl ha.pe hb.pe hs,nP md ha.sd hb.sd⟩
def bg:List Wv->Int->DQ->Prop:=λxs n Q=>match xs with
 |[.d (.str x)]=>Q (.d (.int x.length)) n
 |[.d ⇑34]=>Q (.d (.int ds.length)) n
 |[.d ⇑25]=>Q (.d (.int ds.length)) n
 |_=>False
theorem Mt:CallR X (.builtin "len") (λxs H Q=>(∃z,xs=[.str z]/\z.length<=Az/\Q (.int z.length) H)\/∃p ys,xs=[.ref p]/\(SqL X.K H p ys\/SqT X.K H p ys)/\Q (.int ys.length) H):=call_len_str.or rM
theorem Ny:dU (λxs H Q=>(∃z,xs=[.str z]/\z.length<=Az/\Q (.int z.length) H)\/∃p ys,xs=[.ref p]/\(SqL K H p ys\/SqT K H p ys)/\Q (.int ys.length) H) bg:=λC H B σ δ n vs xs Q Q' R r h k=>by
 unfold bg at h
 split at h
 ·rename_i x;cases r with
  |cons r1 r2=>
   cases r2;cases(show RdX H B _ (.str x)from r1)with
   |str _ hz=>exact .inl ⟨x,rfl,hz,k _ _ H n R ⇑19 (wd (.int _)) h⟩
 ·rename_i ds;cases r with
  |cons r1 r2=>
   cases r2;cases(show RdX H B _ (.list ds)from r1)with
   |@lst ay ys _ e1 e2 e3 e4=>
    refine .inr ⟨ay,ys,rfl,.inl (SqL.of e1),?_⟩;rw[e4.len];exact k _ _ H n R ⇑19 (wd (.int _)) h
 ·rename_i ds;cases r with
  |cons r1 r2=>
   cases r2;cases(show RdX H B _ (.tuple ds)from r1)with
   |@tup ay ys _ e1 e2 e3 e4=>
    refine .inr ⟨ay,ys,rfl,.inr (SqT.of e1),?_⟩;rw[e4.len];exact k _ _ H n R ⇑19 (wd (.int _)) h
 ·exact h.elim
theorem RI(h:RdX H B v d):TyOf K H v (.type (rJ d)):=by
 cases h with
 |non=>exact .non
 |bl b=>exact .bl b
 |int i=>exact .int i
 |str x h=>exact .str x
 |lst h1 h2 h3 h4=>exact .lst h1
 |tup h1 h2 h3 h4=>exact .tup h1
theorem OV(h:RdX H B v d)(hT:T="int"\/T="bool"\/T="str"\/T="tuple"\/T="list"):PySem.W.kitOne K (.type (rJ d)) (.type T)=ae (fX T d):=by
 cases h<;>rcases hT with rfl|rfl|rfl|rfl|rfl<;>rfl
def bV(T:String)(w:DT):DT:=λδ n Q=>w δ n λx n1=>match x with
 |.d d=>Q (.d (.bool (fX T d))) n1
 |_=>False
theorem Sq{p p2:Pos}(hT:T="int"\/T="bool"\/T="str"\/T="tuple"\/T="list")(hg:Gl X "isinstance")(hm:X.mg "isinstance"=af)(hg2:Gl X x)(hm2:X.mg x=af)(hv:Bv x=ae (.type T))(ha:DE X a ta wa)(hn:x≠"__name__":=by decide)(hdb:⇑21=ai:=by decide)
  (he:Av [a,.Name x p2] X.env=⇑108::Av [.Name x p2] X.env:=by rfl) (he2:Av [.Name x p2] X.env=(ai,eval (.Name x p2) X.env)::Av [] X.env:=by rfl) (hpl:(C8 pos (Av [.Name x p2] X.env)).any (·.1)=ai:=by rfl):
  DE X (.Call (.Name "isinstance" p) [a,.Name x p2] [] pos) (fZ (λxs H Q=>∃x t b,xs=[x,.ty T]/\TyOf X.K H x t/\PySem.W.kitOne X.K t (.type T)=ae b/\Q (.bl b) H) (bU ta (bU (tC (.ty T)) bq))) (bV T wa):=
 ⟨kE (Jp (T:=T)) hg hm yJ (cR ha.pe (cR (Mr (v:=.ty T) hg2 hm2 hv rfl hn hdb) fh he2) he) ∎ ∎ he hpl,λC H B σ δ n Q Q' R q k=>ha.sd C H B σ δ n _ _ R q λv x H1 n1 R1 k1 r1 q1=>by
  cases x with
  |d d=>exact⟨v,_,_,rfl,RI r1,OV (show RdX H1 B v d from r1) hT,k _ _ H1 n1 R1 k1 ⇑44 q1⟩
  |tp=>sleep 2
  |dk _=>sleep 2
  |dx _=>sleep 2
  |ln _=>sleep 2
  |ob _=>exact q1.elim⟩
def UO:List Wv->Int->DQ->Prop:=λxs n Q=>match xs with
 |[.d ⇑34]=>zZ ⇑34/\Q (.d (.str (PyData.shown ⇑34))) n
 |[.d ⇑25]=>zZ ⇑25/\Q (.d (.str (PyData.shown ⇑25))) n
 |_=>False
def jf:List Ad->Option (List Bool)
 |[]=>ae []
 |.bool b::r=>(jf r).map (b::·)
 |_::_=>af
theorem xf:∀{vs:List V}{ds:List Ad}{bs:List Bool},RdXs H B vs ds->jf ds=ae bs->vs=bs.map V.bl
 |_,_,bs,.nil,h=>by
  cases h;rfl
 |_,_,bs,.cons (d:=d) (ds:=ds) h1 h2,h=>by
  cases h1 with
  |bl b=>
   have h':(jf ds).map (b::·)=ae bs:=h;cases e:jf ds with
   |none=>rw[e]at h';cases h'
   |some cs=>
    rw[e]at h';cases h';rw[xf h2 e];rfl
  |_=>cases h
def jU:List Wv->Int->DQ->Prop:=λxs n Q=>match xs with
 |[.d ⇑34]=>match jf ds with
  |some bs=>Q (.d (.bool (bs.all id))) n
  |none=>False
 |_=>False
theorem RB:dU (λxs H Q=>∃(p:Addr)(bs:List Bool),xs=[.ref p]/\H p=ae (.lst (bs.map V.bl))/\Q (.bl (bs.all id)) H) jU:=λC H B σ δ n vs xs Q Q' R r h k=>by
 unfold jU at h
 split at h
 ·rename_i ds
  split at h
  ·rename_i bs e;cases r with
   |cons r1 r2=>
    cases r2;cases(show RdX H B _ (.list ds)from r1)with
    |@lst ay ys _ e1 e2 e3 e4=>
     exact⟨ay,bs,rfl,by rw[<-xf e4 e];exact e1,k _ _ H n R ⇑19 ⇑44 h⟩
  ·exact h.elim
 ·exact h.elim
def eG:List Wv->Int->DQ->Prop:=λxs n Q=>match xs with
 |[.d ⇑34]=>Q (.d ⇑25) n
 |[.d ⇑25]=>Q (.d ⇑25) n
 |_=>False
theorem N8:dU (λxs H Q=>∃p ys,xs=[.ref p]/\((SqL K H p ys/\∀l,H l=af->Q (.ref l) (upd H l (.tup ys)))\/(SqT K H p ys/\Q (.ref p) H))) eG:=λC H B σ δ n vs xs Q Q' R r h k=>by
 unfold eG at h
 split at h
 ·rename_i ds;cases r with
  |cons r1 r2=>
   cases r2;cases(show RdX H B _ (.list ds)from r1)with
   |@lst ay ys _ e1 e2 e3 e4=>
    refine⟨ay,ys,rfl,.inl ⟨SqL.of e1,λl hl=>?_⟩⟩;exact k _ _ _ n (R.new hl) (Kp.new hl) (wd (show RdX _ B _ (.tuple ds)from .tup bH (R.nb hl) e3 ((e4.fresh hl).less λb z=>.inl z))) h
 ·rename_i ds;cases r with
  |cons r1 r2=>
   cases r2;cases(show RdX H B _ (.tuple ds)from r1)with
   |@tup ay ys _ e1 e2 e3 e4=>exact⟨ay,ys,rfl,.inr ⟨SqT.of e1,k _ _ H n R ⇑19 (wd (show RdX H B _ (.tuple ds)from .tup e1 e2 e3 e4)) h⟩⟩
 ·exact h.elim
end
structure ItOk(fz:Hp)(J:It)(ds:List Ad):Prop where
 le:ds.length<=Az
 go:∀i H,(∀b o,fz b=ae o->H b=ae o)->i < ds.length->J.go i H
 stop:∀H,(∀b o,fz b=ae o->H b=ae o)->J.stop ds.length H
 yld:∀i H x H' d,(∀b o,fz b=ae o->H b=ae o)->ds[i]?=ae d->J.yld i H x H'->iG H H'/\∀B,(∀b o,fz b=ae o->¬B b)->(∀b,B b->H b≠af)->RdX H' B x d
def p8(H:Hp)(B:Addr->Prop)(fz:Hp):Prop:=(∀b o,fz b=ae o->H b=ae o/\¬B b)/\∀b o,H b=ae o->¬B b->fz b=ae o
abbrev gR:=Sl->Int->(List Ad->Int->Prop)->Prop
def um(wi:TI)(v:gR):Prop:=∀(C:Ctx)(H:Hp)(B:Addr->Prop)(σ:St)(δ:Sl)(n:Int)(Q:List Ad->Int->Prop)(Q':It->Hp->Prop),Rel C H B σ δ n->v δ n Q->
 (∀J ds H' n',Rel C H' B σ δ n'->Kp C.t H H'->(∀fz,p8 H' B fz->ItOk fz J ds)->Q ds n'->Q' J H')->wi σ H Q'
structure DI(X:Cx)(tg iter:Expr)(wi:TI)(v:gR):Prop where
 pi:PI X tg iter wi
 sd:um wi v
section
variable{X:Cx}{tg a b c e:Expr}{ta tb te:TE}{wa wb we:DT}{pos p:Pos}
def gm(w:DT):gR:=λδ n Q=>w δ n λx n1=>match x with
 |.d ⇑34=>Q ds n1
 |_=>False
def c9(w:DT):gR:=λδ n Q=>w δ n λx n1=>match x with
 |.d ⇑25=>Q ds n1
 |_=>False
theorem PY(ha:DE X a ta wa):DI X tg a (nQ X.K ta) (gm wa):=⟨Pk ha.pe,λC H B σ δ n Q Q' R q k=>ha.sd C H B σ δ n _ _ R q λv x H1 n1 R1 k1 r1 q1=>by
 split at q1
 ·rename_i ds;cases(show RdX H1 B v (.list ds)from r1)with
  |@lst ay ys _ e1 e2 e3 e4=>
   refine⟨ay,rfl,⟨ys,SqL.of e1⟩,k _ ds H1 n1 R1 k1 (λfz th=>?_) q1⟩;have hfz:fz ay=ae (.lst ys):=th.2 _ _ e1 e2;refine⟨by rw[<-e4.len];exact e3,λi H hH hi=>?_,λH hH=>?_,λi H x H' d hH hd hy=>?_⟩
   ·rw[<-e4.len]at hi;exact⟨ys,ys[i],SqL.of (hH _ _ hfz),Ae hi⟩
   ·exact⟨ys,SqL.of (hH _ _ hfz),by rw[e4.len];exact Aq _⟩
   ·obtain⟨rfl,hy⟩:=hy;refine⟨λ_ _ z=>z,λB' hB hBa=>?_⟩;obtain⟨u,hu,ru⟩:=e4.getD hd;have:=hy _ (SqL.of (hH _ _ hfz));rw[hu]at this;cases this;exact ru.move λb o e ne=>⟨hH _ _ ⇑95,hB _ _ ⇑95⟩
 ·exact q1.elim⟩
theorem ON(ha:DE X a ta wa):DI X tg a (ll X.K ta) (c9 wa):=⟨Sz ha.pe,λC H B σ δ n Q Q' R q k=>ha.sd C H B σ δ n _ _ R q λv x H1 n1 R1 k1 r1 q1=>by
 split at q1
 ·rename_i ds;cases(show RdX H1 B v (.tuple ds)from r1)with
  |@tup ay ys _ e1 e2 e3 e4=>
   refine⟨ay,rfl,⟨ys,SqT.of e1⟩,k _ ds H1 n1 R1 k1 (λfz th=>?_) q1⟩;have hfz:fz ay=ae (.tup ys):=th.2 _ _ e1 e2;refine⟨by rw[<-e4.len];exact e3,λi H hH hi=>?_,λH hH=>?_,λi H x H' d hH hd hy=>?_⟩
   ·rw[<-e4.len]at hi;exact⟨ys,ys[i],SqT.of (hH _ _ hfz),Ae hi⟩
   ·exact⟨ys,SqT.of (hH _ _ hfz),by rw[e4.len];exact Aq _⟩
   ·obtain⟨rfl,hy⟩:=hy;refine⟨λ_ _ z=>z,λB' hB hBa=>?_⟩;obtain⟨u,hu,ru⟩:=e4.getD hd;have:=hy _ (SqT.of (hH _ _ hfz));rw[hu]at this;cases this;exact ru.move λb o e ne=>⟨hH _ _ ⇑95,hB _ _ ⇑95⟩
 ·exact q1.elim⟩
def cm(lo:Int)(n:Nat):List Ad:=(A5 n).map λi=>.int (lo+(i:Nat))
def dF(w:DT):gR:=λδ n Q=>w δ n λx n1=>match x with
 |.d (.int j)=>(-(2 ^ 62)<=j/\j<=1000000)/\Q (cm 0 j.toNat) n1
 |_=>False
theorem O1(fz)(lo)(n)(hn:n<=1000000):ItOk fz (rG lo n) (cm lo n):=by
 have hl:(cm lo n).length=n:=by unfold cm;simp
 refine⟨?_,λi H hH hi=>?_,λH hH=>?_,λi H y H' d hH hd hy=>?_⟩
 ·rw[hl];exact Bj hn ∎
 ·rw[hl]at hi;exact hi
 ·show n<=(cm lo n).length;rw[hl];exact Aq _
 ·obtain⟨rfl,rfl⟩:=hy;refine⟨λ_ _ z=>z,λB' hB hBa=>?_⟩;unfold cm at hd;rw[Am]at hd;cases e:(A5 n)[i]? with
  |none=>rw[e]at hd;cases hd
  |some j=>
   rw[e]at hd;have:j=i:=by
    obtain⟨h1,h2⟩:=Ar.mp e;rw[List.getElem_range]at h2;exact h2.symm
   subst this;cases hd;exact .int _
theorem zJ(hg:Gl X "range")(hm:X.mg "range"=af)(ha:DE X a ta wa)(hs:Av [a] X.env=[⇑108]:=by rfl):DI X tg (.Call (.Name "range" p) [a] [] pos) (nT (bU ta bq)) (dF wa):=⟨M1 hg hm (cR ha.pe fh hs) hs,λC H B σ δ n Q Q' R q k=>ha.sd C H B σ δ n _ _ R q λv x H1 n1 R1 k1 r1 q1=>by
 split at q1
 ·rename_i j;cases(show RdX H1 B v (.int j)from r1);refine⟨j,rfl,q1.1.1,by have:=q1.1.2;have:(2:Int)^62=4611686018427387904:=∎;omega,k _ (cm 0 j.toNat) H1 n1 R1 k1 (λfz _=>O1 fz 0 j.toNat (by have:=q1.1.2;omega)) q1.2⟩
 ·exact q1.elim⟩
end
abbrev eQ:=Ad->Sl->(Sl->Prop)->Prop
def vE(g:TG)(v:eQ):Prop:=∀(C:Ctx)(H:Hp)(B:Addr->Prop)(σ:St)(δ:Sl)(n:Int)(x:V)(d:Ad)(Q:Sl->Prop)(Q':St->Hp->Prop),Rel C H B σ δ n->RdX H B x d->v d δ Q->
 (∀σ' δ',Rel C H B σ' δ' n->Q δ'->Q' σ' H)->g x σ H Q'
structure DG(X:Cx)(tg:Expr)(g:TG)(v:eQ):Prop where
 pg:PG X tg g
 sd:vE g v
section
variable{X:Cx}{pos:Pos}
def aD(i:Nat):eQ:=λd δ Q=>Q (δ.set i (↑d))
theorem uN(hN:X.N.Nodup)(hi:X.N[i]?=ae x)(hx:gc X.env.scope x)(hf:X.fn x=ah\/X.env.scope.names.lookup x=ae .local:=by first|exact .inl rfl|exact .inr rfl|assumption):DG X (.Name x pos) (dH i) (aD i):=
 ⟨LW hN hi hx hf,λC H B σ δ n x d Q Q' R r q k=>k _ _ (R.set (x:=.d d) r rfl) q⟩
end
def c8(g:eQ)(W:aJ)(K:DEnds):List Ad->Sl->Int->Prop
 |[],δ,n=>K.nx δ n
 |d::r,δ,n=>g d δ λδ'=>W δ' n {K with nx:=c8 g W K r,ct:=c8 g W K r,bk:=K.nx}
def aU(v:gR)(g:eQ)(W:aJ):aJ:=λδ n K=>v δ n λds n1=>c8 g W K ds δ n1
def dP(H:Hp)(B:Addr->Prop):Hp:=λb=>open Classical in if B b then af else H b
theorem pY(H)(B):p8 H B (dP H B):=by
 refine⟨λb o e=>?_,λb o e n=>?_⟩
 ·unfold dP at e
  split at e
  ·cases e
  ·rename_i h;exact⟨e,h⟩
 ·unfold dP;rw[if_neg n];exact e
theorem Rel.refz(R:Rel C H B σ δ n):Rel {C with fz:=dP H B} H B σ δ n:=
 ⟨R.tp,R.kp,R.t0,R.l0,R.g0,(pY H B).1,R.bt,R.b0,R.ba,R.a0,R.sl,R.ow,R.len⟩
theorem Rel.unfz{fz:Hp}(R:Rel {C with fz:=fz} H B σ δ n)(h:∀b o,C.fz b=ae o->fz b=ae o):Rel C H B σ δ n:=
 ⟨R.tp,R.kp,R.t0,R.l0,R.g0,λb o e=>R.fz b o (h b o e),R.bt,R.b0,R.ba,R.a0,R.sl,R.ow,R.len⟩
theorem Rel.same(R:Rel C H B σ δ n)(k:iG H H'):Rel C H' B σ δ n:=by
 obtain⟨a,b,e,h⟩:=R.tp.ob;exact R.step ⟨⟨a,b,k _ _ e,h⟩,k _ _ R.tp.ls,R.tp.len,λz=>k _ _ (R.tp.ag z),R.tp.gne⟩ λb o e _=>k b o e
section
variable{X:Cx}{tg iter:Expr}{body:List Stmt}{wi:TI}{v:gR}{g:TG}{gd:eQ}{T:TS}{W:aJ}{pos:Pos}
theorem vX(hi:DI X tg iter wi v)(hg:DG X tg g gd)(hb:DSs X body T W)(hp:PassesOwn ⇑14 X.A X.env X.xe:=by exact PassesOwn.never)(hc:X.calm=ah:=by rfl)
  (hs:∀x,E5 iter X.env x=pure x:=by intro _;rfl):DS X (.For tg iter body [] pos) (gq wi g T) (aU v gd W):=⟨Kn hp hc hi.pi hg.pg hb.ps hs,λC H B σ δ n K D R q E=>
 hi.sd C H B σ δ n _ _ R q λJ ds H1 n1 R1 k1 hJ q1=>by
  have ok:=hJ (dP H1 B) (pY H1 B);have R1':=R1.refz;have back:∀{H B' σ δ n},Rel {C with fz:=dP H1 B} H B' σ δ n->Rel C H B' σ δ n:=λR=>R.unfz λb o e=>(pY H1 B).2 b o (R1.fz b o e).1 (R1.fz b o e).2;refine⟨λi m σ H=>m=ds.length-i/\i<=ds.length/\∃B' δ n,Rel {C with fz:=dP H1 B} H B' σ δ n/\c8 gd W K (ds.drop i) δ n,⟨ds.length,by simp,A6 _,B,δ,n1,R1',by simpa using q1⟩,?_⟩
  rintro i m σ2 H2 ⟨rfl,hi,B2,δ2,n2,R2,q2⟩
  have hfz:∀b o,dP H1 B b=ae o->H2 b=ae o:=λb o e=>(R2.fz b o e).1;by_cases hlt:i < ds.length
  ·rw[F8 hlt]at q2;refine .inr ⟨ok.go i H2 hfz hlt,λσ3 H3=>∃B' δ n,Rel {C with fz:=dP H1 B} H3 B' σ3 δ n/\c8 gd W K (ds.drop (i+1)) δ n,λσ' H' z=>⟨ds.length-(i+1),by omega,rfl,hlt,z⟩,λx H' hy=>?_⟩;obtain⟨sm,rd⟩:=ok.yld i H2 x H' ds[i] hfz (Ae hlt) hy;have R3:=R2.same sm;refine hg.sd _ H' B2 σ2 δ2 n2 x ds[i] _ _ R3 (rd B2 (λb o e=>(R2.fz b o e).2) R2.ba) q2 λσ' δ' R4 q4=>?_;refine hb.sd _ H' B2 σ' δ' n2 _ _ R4 q4 ⟨?_,?_,?_,?_,λH B σ δ n a xs ds R h0 h1 h2 h3 q=>E.rn H B σ δ n a xs ds (back R) h0 h1 h2 h3 q,λH B σ δ n a l kvs R h0 h1 h2 h3 q=>E.rx H B σ δ n a l kvs (back R) h0 h1 h2 h3 q⟩
   ·exact λH B σ δ n R q=>⟨B,δ,n,R,q⟩
   ·exact λH B σ δ n v w R r q=>E.rt H B σ δ n v w (back R) r q
   ·exact λH B σ δ n R q=>E.nx H B σ δ n (back R) q
   ·exact λH B σ δ n R q=>⟨B,δ,n,R,q⟩
  ·have e:i=ds.length:=by omega
   subst e;rw[List.drop_length]at q2;exact .inl ⟨ok.stop H2 hfz,E.nx H2 B2 σ2 δ2 n2 (back R2) q2⟩⟩
end
def jl(fr:List ⇑70)(δ:Sl):Sl:=fr.map λo=>o.bind λi=>match δ[i]? with
 |some (ae (.w x))=>ae (.w x)
 |some (ae (.odk kvs))=>ae (.w (.dk kvs))
 |some ⇑55=>ae (.w (.ln ds))
 |some (ae (.odx kvs))=>ae (.w (.dx kvs))
 |_=>af
def cJ(g:eQ)(c:cz)(w:DT)(Q:List Ad->Int->Prop):List Ad->List Ad->Sl->Int->Prop
 |[],acc,_,n=>Q acc n
 |d::r,acc,δ,n=>g d δ λδ'=>c δ' n λb n1=>if b=ah then w δ' n1 λx n2=>match x with
   |.d y=>cJ g c w Q r (acc++[y]) δ' n2
   |_=>False
  else cJ g c w Q r acc δ' n1
def cg(fr:List ⇑70)(v:gR)(g:eQ)(c:cz)(w:DT):fg:=λδ n Q=>v δ n λds n1=>cJ g c w Q ds [] (jl fr δ) n1
structure DIf(X:Cx)(ifs:List Expr)(t:TT)(c:cz):Prop where
 pf:nJ X ifs t
 sd:jT t c
def bJ:cz:=λ_ n Q=>Q ah n
theorem Qj:DIf X [] DK bJ:=⟨Rx,λC H B σ δ n Q Q' R q k=>k ah H n R ⇑19 q⟩
theorem Je(h:DC X c t cc):DIf X [c] t cc:=⟨L8 h.pt,h.sd⟩
theorem NM(fr:List ⇑70)(σ):(dY fr σ).length=fr.length:=by unfold dY;rw[Aa]
theorem Jm(fr:List ⇑70)(δ):(jl fr δ).length=fr.length:=by unfold jl;rw[Aa]
theorem uX{j:Nat}(h:(jl fr δ)[j]?=ae (ae x)):∃i y,fr[j]?=ae (ae i)/\δ[i]?=ae (ae y)/\((∃z,x=.w z/\y=.w z)\/(∃kvs,x=.w (.dk kvs)/\y=.odk kvs)\/(∃ds,x=.w (.ln ds)/\y=.own ds)\/∃kvs,x=.w (.dx kvs)/\y=.odx kvs):=by
 unfold jl at h;rw[Am]at h;cases e:fr[j]? with
 |none=>rw[e]at h;cases h
 |some o=>
  rw[e]at h;cases o with
  |none=>cases h
  |some i=>
   have h':=Bb h;dsimp only[Option.bind]at h'
   split at h'
   ·rename_i z ez;cases h';exact⟨i,_,rfl,ez,.inl ⟨z,rfl,rfl⟩⟩
   ·rename_i kvs ez;cases h';exact⟨i,_,rfl,ez,.inr (.inl ⟨kvs,rfl,rfl⟩)⟩
   ·rename_i ds ez;cases h';exact⟨i,_,rfl,ez,.inr (.inr (.inl ⟨ds,rfl,rfl⟩))⟩
   ·rename_i kvs ez;cases h';exact⟨i,_,rfl,ez,.inr (.inr (.inr ⟨kvs,rfl,rfl⟩))⟩
   ·cases h'
theorem T4{j i:Nat}(h:fr[j]?=ae (ae i))(h2:σ[i]?=ae (ae v)):(dY fr σ)[j]?=ae (ae v):=by
 unfold dY;rw[Am,h];show ae ((σ[i]?).bind id)=_;rw[h2];rfl
theorem MC(R:Rel C H B σ δ n)(hL:H L=af):
  Rel ⟨C.t,C.l,C.ns,H,B,dP H B⟩ (upd H L (.lst [])) (λb=>B b\/b=L) (dY fr σ) (jl fr δ) n where
 tp:=R.tp.new hL
 kp:=Kp.new hL
 t0:=R.ba _ R.bt
 l0:=by
  show H C.l.s≠af;rw[R.tp.ls];sleep 12
 g0:=λe=>by
  show H C.l.g≠af;rw[R.tp.ag e];sleep 12
 fz:=λb o e=>by
  obtain⟨e1,e2⟩:=(pY H B).1 b o e;exact⟨by rw[aN (bY e1 hL)];exact e1,λz=>z.elim e2 λq=>bY e1 hL q⟩
 bt:=.inl R.bt
 b0:=λb z=>.inl z
 ba:=λb z e=>by
  by_cases q:b=L
  ·rw[q,bH]at e;cases e
  ·rw[aN q]at e;exact R.ba b (z.resolve_right q) e
 a0:=R.ba
 sl:=λj x e=>by
  have mv:∀b o',H b=ae o'->¬B b->upd H L (.lst []) b=ae o'/\¬(B b\/b=L):=λb o' e n=>⟨by rw[aN (bY e hL)];exact e,λz=>z.elim n λq=>bY e hL q⟩;obtain⟨i,y,e1,e2,hy⟩:=uX e;obtain⟨v,f1,f2⟩:=R.sl i y e2;refine⟨v,T4 e1 f1,?_⟩;rcases hy with⟨z,rfl,rfl⟩|⟨kvs,rfl,rfl⟩|⟨ds,rfl,rfl⟩|⟨kvs,rfl,rfl⟩
  ·cases z with
   |d d=>exact⟨f2.1.move mv,λz=>by cases z⟩
   |tp=>exact⟨f2.1,λz=>by cases z⟩
   |ln ds=>
    obtain⟨a,l,g1,g2,g3,g4,g5⟩:=f2.1;exact⟨⟨a,l,g1,by rw[aN (bY g2 hL)];exact g2,g3,g4,g5.move mv⟩,λ_=>⟨a,g1,by show H a≠af;rw[g2];exact λz=>nomatch z⟩⟩
   |dk kvs=>
    obtain⟨a,l,g1,g2,g3,g4⟩:=f2.1;exact⟨⟨a,l,g1,by rw[aN (bY g2 hL)];exact g2,g3,g4.move mv⟩,λ_=>⟨a,g1,by show H a≠af;rw[g2];exact λz=>nomatch z⟩⟩
   |dx kvs=>
    obtain⟨a,l,g1,g2,g3,g4⟩:=f2.1;exact⟨⟨a,l,g1,by rw[aN (bY g2 hL)];exact g2,g3,g4.move mv⟩,λ_=>⟨a,g1,by show H a≠af;rw[g2];exact λz=>nomatch z⟩⟩
   |ob o=>
    refine⟨?_,λz=>by cases z⟩;exact ORel.move mv f2.1
  ·obtain⟨a,l,g1,g2,g3,g4,g5,g6⟩:=f2;exact⟨⟨a,l,g1,by rw[aN (bY g2 hL)];exact g2,λz=>R.t0 (z▸g4),g6.move mv⟩,λ_=>⟨a,g1,by show H a≠af;rw[g2];exact λz=>nomatch z⟩⟩
  ·obtain⟨a,l,g1,g2,g3,g4,g5,g6⟩:=f2;exact⟨⟨a,l,g1,by rw[aN (bY g2 hL)];exact g2,λz=>R.t0 (z▸g4),g5,g6.move mv⟩,λ_=>⟨a,g1,by show H a≠af;rw[g2];exact λz=>nomatch z⟩⟩
  ·obtain⟨a,l,g1,g2,g3,g4,g5,g6⟩:=f2;exact⟨⟨a,l,g1,by rw[aN (bY g2 hL)];exact g2,λz=>R.t0 (z▸g4),g6.move mv⟩,λ_=>⟨a,g1,by show H a≠af;rw[g2];exact λz=>nomatch z⟩⟩
 ow:=λi j x y v e1 e2 o1 o2 _ _=>by
  obtain⟨_,_,_,_,hy⟩:=uX e1;rcases hy with⟨z,rfl,_⟩|⟨kvs,rfl,_⟩|⟨ds,rfl,_⟩|⟨kvs,rfl,_⟩
  ·cases o1
  ·cases o1
  ·cases o1
  ·cases o1
 len:=by rw[NM,Jm]
section
variable{X:Cx}{elt tg iter:Expr}{ifs:List Expr}{scope:Fp}{cl:List (Str×Addr)}{pos:Pos}{N:List Str}{fr:List ⇑70}{wi:TI}{v:gR}{g:TG}{gd:eQ}{tt:TT}{cc:cz}{te:TE}{we:DT}
def ik(δ:Sl):Prop:=∀(i:Nat)(x:SV),δ[i]?=ae (ae x)->x.isOwn=ai
theorem Qc(fr)(δ):ik (jl fr δ):=λi x e=>by
 obtain⟨_,_,_,_,hy⟩:=uX e;rcases hy with⟨z,rfl,_⟩|⟨kvs,rfl,_⟩|⟨ds,rfl,_⟩|⟨kvs,rfl,_⟩<;>rfl
def l6(v:eQ):Prop:=∀d δ Q,ik δ->v d δ Q->v d δ λδ'=>ik δ'/\Q δ'
theorem wU(i):l6 (aD i):=λd δ Q h q=>⟨λj x e=>by
 rcases fP e with⟨_,rfl⟩|⟨_,e'⟩
 ·rfl
 ·exact h j x e',q⟩
theorem vG(hc:X.calm=ah)(S:CompSc X N scope cl fr)(hi:DI X tg iter wi v)(hg:∀s H fp,DG ⇑48 tg g gd)(ht:∀s H fp,DIf ⇑48 ifs tt cc)
  (he:∀s H fp,DE ⇑48 elt te we) (hno:l6 gd) (hs:∀x,E5 iter X.env x=pure x:=by intro _;rfl):
  DF X (.ListComp elt [⟨tg,iter,ifs,0⟩] scope pos) (ot fr wi g tt te) (cg fr v gd cc we):=by
 refine⟨Ru hc S hi.pi (λs H fp=>(hg s H fp).pg) (λs H fp=>(ht s H fp).pf) (λs H fp=>(he s H fp).pe) hs,λC H B σ δ n Q Q' R q k=>hi.sd C H B σ δ n _ _ R q λJ ds H1 n1 R1 k1 hJ q1=>λL hL=>?_⟩;have sg:=(hg X.s₀ X.H₀ []).sd;have st:=(ht X.s₀ X.H₀ []).sd;have se:=(he X.s₀ X.H₀ []).sd;have ok:=hJ (dP H1 B) (pY H1 B);have hLt:L≠C.t:=λz=>R1.ba _ R1.bt (z▸hL);refine⟨λi m ys τ H=>m=ds.length-i/\i<=ds.length/\ys.length<=i/\∃δ' n' acc,Rel ⟨C.t,C.l,C.ns,H1,B,dP H1 B⟩ H (λb=>B b\/b=L) τ δ' n'/\ik δ'/\H L=ae (.lst ys)/\RdXs H (λb=>B b\/b=L) ys acc/\cJ gd cc we Q (ds.drop i) acc δ' n',
  ⟨ds.length,by simp,A6 _,A6 _,jl fr δ,n1,[],MC R1 hL,Qc fr δ,bH,.nil,by simpa using q1⟩,?_⟩
 rintro i m ys τ H2 ⟨rfl,hi,hys,δ2,n2,acc,R2,no2,hL2,rd2,q2⟩
 have hfz:∀b o,dP H1 B b=ae o->H2 b=ae o:=λb o e=>(R2.fz b o e).1;by_cases hlt:i < ds.length
 ·rw[F8 hlt]at q2;refine .inr ⟨ok.go i H2 hfz hlt,Bq (Fl hys hlt) ok.le,λx H' hy=>?_⟩;obtain⟨sm,rd⟩:=ok.yld i H2 x H' ds[i] hfz (Ae hlt) hy;have R3:=R2.same sm;refine sg _ H' _ τ δ2 n2 x ds[i] _ _ R3 (rd _ (λb o e=>(R2.fz b o e).2) R2.ba) (hno _ _ _ no2 q2) λτ3 δ3 R4 ⟨no3,q4⟩=>?_;refine st _ H' _ τ3 δ3 n2 _ _ R4 q4 λb H4 n4 R5 k5 q5=>?_;have hL4:H4 L=ae (.lst ys):=k5 _ _ (sm _ _ hL2) hLt;have rd4:RdXs H4 (λb=>B b\/b=L) ys acc:=(rd2.keep λb o e _=>sm b o e).kp k5 R4.bt;cases b with
  |false=>
   rw[if_neg Ai]at q5 ⊢;exact⟨ds.length-(i+1),by omega,rfl,hlt,by omega,δ3,n4,acc,R5,no3,hL4,rd4,q5⟩
  |true=>
   rw[if_pos rfl]at q5 ⊢;refine se _ H4 _ τ3 δ3 n4 _ _ R5 q5 λu y H5 n5 R6 k6 r6 q6=>?_;cases y with
   |d y=>
    have hL5:H5 L=ae (.lst ys):=k6 _ _ hL4 hLt;refine⟨hL5,ds.length-(i+1),by omega,rfl,hlt,by rw[An,A3];omega,δ3,n5,acc++[y],R6.mut (.inr rfl) hL λj z e o=>absurd (no3 j z e) (by rw[o];exact λq=>nomatch q),no3,bH,?_,q6⟩;refine RdXs.keep (λb o e n=>?_) ((rd4.kp k6 R5.bt).append (.cons r6 .nil));rw[aN λ(z:b=L)=>n (.inr z)];exact e
   |tp=>exact q6.elim
   |dk _=>exact q6.elim
   |dx _=>exact q6.elim
   |ln _=>exact q6.elim
   |ob _=>exact q6.elim
 ·have e:i=ds.length:=by omega
  subst e;rw[List.drop_length]at q2;refine .inl ⟨ok.stop H2 hfz,k L ys acc H2 n2 (R1.step R2.tp R2.kp) (k1.trans R2.kp) (R1.was k1 hL) hL2 (Bj hys ok.le) rd2 q2⟩
end
abbrev dB:=List Ad->Sl->(Sl->Prop)->Prop
def SF(g:gj)(v:dB):Prop:=∀(C:Ctx)(H:Hp)(B:Addr->Prop)(σ:St)(δ:Sl)(n:Int)(xs:List V)(ds:List Ad)(Q:Sl->Prop)(Q':St->Hp->Prop),Rel C H B σ δ n->RdXs H B xs ds->v ds δ Q->
 (∀σ' δ',Rel C H B σ' δ' n->Q δ'->Q' σ' H)->g xs σ H Q'
structure DGs(X:Cx)(ts:List Expr)(g:gj)(v:dB):Prop where
 pg:mO X ts g
 sd:SF g v
def cM:dB:=λds δ Q=>match ds with
 |[]=>Q δ
 |_=>False
def bG(v:eQ)(r:dB):dB:=λds δ Q=>match ds with
 |d::ds=>v d δ λδ'=>r ds δ' Q
 |[]=>False
def eC(n:Nat)(r:dB):eQ:=λd δ Q=>match d with
 |.tuple ds=>ds.length=n/\r ds δ Q
 |_=>False
theorem IH:∀ds δ Q,ik δ->cM ds δ Q->cM ds δ λδ'=>ik δ'/\Q δ':=λds δ Q h q=>by
 cases ds with
 |nil=>exact⟨h,q⟩
 |cons _ _=>exact q
theorem zq(mono:∀d δ (Q Q':Sl->Prop),(∀δ',Q δ'->Q' δ')->v d δ Q->v d δ Q')(hv:l6 v)(hr:∀ds δ Q,ik δ->r ds δ Q->r ds δ λδ'=>ik δ'/\Q δ'):∀ds δ Q,ik δ->bG v r ds δ Q->bG v r ds δ λδ'=>ik δ'/\Q δ':=λds δ Q h q=>by
 cases ds with
 |nil=>exact q
 |cons d ds=>exact mono d δ _ _ (λδ' z=>hr ds δ' Q z.1 z.2) (hv d δ _ h q)
theorem J1(hr:∀ds δ Q,ik δ->r ds δ Q->r ds δ λδ'=>ik δ'/\Q δ'):l6 (eC n r):=λd δ Q h q=>by
 unfold eC at q ⊢
 split at q
 ·exact⟨q.1,hr _ _ _ h q.2⟩
 ·exact q.elim
theorem Lh(i j n):l6 (eC n (bG (aD i) (bG (aD j) cM))):=
 J1 (zq (λ_ _ _ _ h q=>h _ q) (wU i) (zq (λ_ _ _ _ h q=>h _ q) (wU j) IH))
section
variable{X:Cx}{pos:Pos}
theorem O0:DGs X [] oO cM:=⟨II,λC H B σ δ n xs ds Q Q' R r q k=>by
 cases r with
 |nil=>exact⟨rfl,k σ δ R q⟩
 |cons _ _=>exact q.elim⟩
end
section
variable{X:Cx}{pos:Pos}
theorem OZ(h1:DG X e t v)(h2:DGs X es u r)
  (hs:(C0 (e::es) X.env).map (·.2)=assign e X.env::(C0 es X.env).map (·.2):=by rfl):DGs X (e::es) (Ij t u) (bG v r):=⟨MA h1.pg h2.pg hs,λC H B σ δ n xs ds Q Q' R rr q k=>by
 cases rr with
 |nil=>exact q.elim
 |cons r1 r2=>exact⟨_,_,rfl,h1.sd C H B σ δ n _ _ _ _ R r1 q λσ' δ' R' q'=>h2.sd C H B σ' δ' n _ _ _ _ R' r2 q' k⟩⟩
theorem Po{k:Nat}{n:Nat}(h:DGs X es t r)(hc:X.calm=ah:=by rfl)
  (hn:(C0 es X.env).length=n:=by rfl) (hst:(C0 es X.env).findIdx? (·.1)=af:=by rfl):DG X (.Tuple es k pos) (l7 X.K n t) (eC n r):=⟨RH hc h.pg hn hst,λC H B σ δ n' x d Q Q' R rr q k=>by
 unfold eC at q
 split at q
 ·rename_i ds;cases rr with
  |@tup ay ys _ e1 e2 e3 e4=>exact⟨ay,ys,rfl,SqT.of e1,by rw[e4.len];exact q.1,h.sd C H B σ δ n' _ _ _ _ R e4 q.2 k⟩
 ·exact q.elim⟩
def v5:List Ad->Option ⇑57
 |[]=>ae []
 |.str b::r=>(v5 r).map (b::·)
 |_::_=>af
def UM(w w':DT):DT:=λδ n Q=>w δ n λx n1=>match x with
 |.d (.str z)=>w' δ n1 λy n2=>match y with
  |.d ⇑34=>match v5 ds with
   |some ys=>(ys.map (·.length)).sum+ys.length*z.length<=16777216/\Q (.d (.str (Txt.join z ys))) n2
   |none=>False
  |.d ⇑25=>match v5 ds with
   |some ys=>(ys.map (·.length)).sum+ys.length*z.length<=16777216/\Q (.d (.str (Txt.join z ys))) n2
   |none=>False
  |_=>False
 |_=>False
def j1(i:Nat)(wj w:DT):aJ:=λδ n K=>match δ[i]? with
 |some ⇑55=>w δ n λx n1=>wj δ n1 λj n2=>match x,j with
  |.d d,.d (.int k)=>match jP ds.length k with
   |some m=>K.nx (δ.set i (ae (.own (ds.set m d)))) n2
   |none=>False
  |_,_=>False
 |_=>False
theorem S4{xp sp:Pos}(hN:X.N[i]?=ae x)(hj:DE X j tj wj)(he:DE X e te we)(hv:fC X.env.scope x:=by first|exact Cs rfl|exact Ca (Cs rfl)|exact Ca (Ca rfl))(hd:⇑21=ai:=by decide)
  (hcd:⇑46=ai:=by decide)
  (ha:∀v,assign (.Subscript ⇑29 j sp) X.env v=(do
   let ov <-holding [v] (eval ⇑29 X.env)
   let iv <-holding [v,ov] (eval j X.env)
   standAt sp
   holding [v,ov,iv] (setItem ov iv v)
   release [v,ov,iv] []):=by intro _;rfl)
  (hs:swapsWithSole [.Subscript ⇑29 j sp] e pos.line X.env=pure ai:=by rfl) (hw:swappedStores [.Subscript ⇑29 j sp] e X.env=pure af:=by rfl)
  (h1:(C0 [.Subscript ⇑29 j sp] X.env).map (·.2)=[assign (.Subscript ⇑29 j sp) X.env]:=by rfl):
  DS X (.Assign [.Subscript ⇑29 j sp] e pos) (bQ te (j5 (aM i) tj sj)) (j1 i wj we):=
 ⟨l8 he.pe (oE ⇑82 hj.pe n8 ha) hs hw h1,λC H B σ δ n K D R q E=>by
  unfold j1 at q
  split at q
  ·rename_i ds ei;refine he.sd C H B σ δ n _ _ R q λu y H1 n1 R1 k1 r1 q1=>?_;obtain⟨v,hv,a,xs,rfl,e2,e3,e4,e5,e6⟩:=R1.sl i _ ei;refine⟨_,hv,hj.sd C H1 B σ δ n1 _ _ R1 q1 λw z H2 n2 R2 k2 r2 q2=>?_⟩
   split at q2
   ·rename_i d k
    split at q2
    ·rename_i m em;cases(show RdX H2 B w (.int k)from r2);sleep 23;have e2':=k2 _ _ e2 hat;have r1':RdX H2 B u d:=r1.kp k2 R1.bt;refine⟨a,xs,k,m,rfl,rfl,e2',by rw[e6.len];exact em,?_⟩;refine E.nx _ _ _ _ _ (R2.mutOwn ei rfl hv e3 e4 ?_ rfl) q2;refine⟨a,xs.set m u,rfl,bH,e3,e4,by rw[Cp];exact e5,?_⟩;refine RdXs.keep (λb o e n=>?_) (RdXs.set m (e6.kp k2 R1.bt) r1');rw[aN λ(z:b=a)=>n (z▸e3)];exact e
    ·exact q2.elim
   ·exact q2.elim
  ·exact q.elim⟩
end
structure Has(P:Bh)(w:Bt)(K:Ah)(mg:Str->Option Ag)(base:Heap)(k:Nat)(x:Str)(ps:List Str)(S:aR):Prop where
 ex:∃(f:Addr)(fd:Cg),FnOk P w K mg base cx k f fd ps (fi S)/\Binds K fd ps []/\mg x=ae (.ref f)/\Cw K (.ref f)=ah
section
variable{P:Bh}{w:Bt}{K:Ah}{mg:Str->Option Ag}{base:Heap}
theorem Has.mk'(F:Fun K x qual st f fd)(m:mg x=ae (.ref f))(b:Binds K fd ps [])(h:FnOk P w K mg base cx k f fd ps (fi S)):Has P w K mg base k x ps S:=⟨f,fd,h,b,m,F.kp⟩
end
theorem Hz{pos p:Pos}(h:Has X.prog X.w X.K X.mg X.base k x ps S)(hr:Room k X.A)(hg:Gl X x)
  (ha:DA X (e::es) tR wR) (hdb:⇑21=ai:=by decide) (he:Av (e::es) X.env=⇑33::Av es X.env:=by rfl) (hpl:(C8 pos ⇑43).any (·.1)=ai:=by rfl):
  DE X ⇑62 (fU (fi S) [] E0 tR) (aC S wR):=by
 obtain⟨f,fd,h1,h2,h3,h4⟩:=h.ex;exact RU h1 hr hg h3 h4 h2 ha hdb he hpl
theorem Mi{cl cells:List (Str×Addr)}(h:∀y∈cl,cells.lookup y.1=ae y.2):∀x c,cl.lookup x=ae c->cells.lookup x=ae c:=λx c e=>h _ (rH e)
def b9:aR:=λws n Q=>match ws with
 |[.tp,.d (.int many)]=>(n < 2 ^ 40/\0 < many/\many < 1073741824)/\∀r:Int,0<=r->r < many->Q (.d (.int r)) (n+1)
 |_=>False
section
variable{P:Bh}{w:Bt}{K:Ah}{mg:Str->Option Ag}{base:Heap}
theorem Oq(h:FnOk P w K mg base cx k f fd ps zx):FnOk P w K mg base cx k f fd ps (fi b9):=h.imp λvs H Q E hs=>by
 obtain⟨t,l,ns,B,ws,n,Q0,T,bt,ba,r,q,kk⟩:=hs;unfold b9 at q
 split at q
 ·rename_i many;cases r with
  |cons r1 r2=>
   cases r2 with
   |cons r3 r4=>
    cases r4;cases(show _=V.ref t from r1);cases(show RdX H B _ (.int many)from r3);exact⟨t,l,ns,n,many,rfl,T,q.1.1,q.1.2.1,q.1.2.2,λr H' h0 h1 T' k'=>kk _ _ (q.2 r h0 h1) _ H' T' k' (.int r)⟩
 ·exact q.elim
def spLaw(K:Ah):Sp:=λvs H Q _=>∃(a:Addr)(ns:List Int),vs=[.ref a]/\SqL K H a ⇑80/\ns.length<=63/\∀H',Q (.bl ah) H'
def pH:DEnds:={ nx:=λ_ _=>False,rt:=λw _=>w=.d ⇑32}
theorem R8{a:V}(T:Tp H t l ns 0):Rel ⟨t,l,ns,H,λb=>b=t,λ_=>af⟩ H (λb=>b=t) (ae a::ae (.ref t)::Dj k af) (af::ae (.w .tp)::Dj k af) 0 where
 tp:=T
 kp:=Kp.refl _ _
 t0:=by
  obtain⟨_,_,h,_⟩:=T.ob;show H t≠af;rw[h];sleep 12
 l0:=by
  show H l.s≠af;rw[T.ls];sleep 12
 g0:=λe=>by
  show H l.g≠af;rw[T.ag e];sleep 12
 fz:=λb o e=>nomatch e
 bt:=rfl
 b0:=λ_ z=>z
 ba:=λb z=>by
  obtain⟨_,_,h,_⟩:=T.ob;rw[z,h];sleep 12
 a0:=λb z=>by
  obtain⟨_,_,h,_⟩:=T.ob;show H b≠af;rw[show b=t from z,h];sleep 12
 sl:=λi x e=>by
  rcases i with _|_|i
  ·cases e
  ·cases e;exact⟨_,rfl,rfl,λz=>by cases z⟩
  ·have e':(Dj k (af:Option SV))[i]?=ae (ae x):=e;rw[E8]at e'
   split at e'
   ·cases e'
   ·cases e'
 ow:=λi j x y v e1 e2 o1 o2 f1 f2=>by
  rcases i with _|_|i
  ·cases e1
  ·cases e1;cases o1
  ·have e':(Dj k (af:Option SV))[i]?=ae (ae x):=e1;rw[E8]at e'
   split at e'
   ·cases e'
   ·cases e'
 len:=by simp
end
end DL
local macro_rules|`(↥$n:num)=>`(DL.aj $n)
namespace Nb
open PySem L2 DL
def RY(c:Nat):Bool:=!decide ([c] < ("a":Str).cps.toList)&&!decide (("z":Str).cps.toList < [c])
def nZ(k:Int):Ad->Bool
 |.str x=>decide ((1:Int)<=(x.length:Int))&&(decide ((x.length:Int)<=k)&&x.cps.toList.all RY)
 |_=>ai
theorem GO{aE:Sl}(P:Ad->Prop)(f)(h:∀d n Q',P d->Q' (.d (f d)) n->w (↑d::aE) n Q'):∀(items acc:List Ad)(x:Option SV)(n:Int),(∀d∈items,P d)->Q (acc++items.map f) n->cJ (aD 0) bJ w Q items acc (x::aE) n
 |[],acc,x,n,hP,q=>by
  rw[Ei,Bp]at q;exact q
 |d::r,acc,x,n,hP,q=>by
  simp only[cJ,aD,bJ,if_true,Dl];refine h d n _ (hP d Au) ?_;refine GO P f h r (acc++[f d]) _ n (λe he=>hP e (Ap _ he)) ?_;rw[Bm];exact q
theorem qw{aE:Sl}(P:Ad->Prop)(p)(f)(hp:∀d n Q',P d->Q' (p d) n->c (↑d::aE) n Q')(h:∀d n Q',P d->Q' (.d (f d)) n->w (↑d::aE) n Q'):
  ∀(items acc:List Ad)(x:Option SV)(n:Int),(∀d∈items,P d)->Q (acc++(items.filter p).map f) n->cJ (aD 0) c w Q items acc (x::aE) n
 |[],acc,x,n,hP,q=>by
  rw[List.filter_nil,Ei,Bp]at q;exact q
 |d::r,acc,x,n,hP,q=>by
  simp only[cJ,aD,Dl];refine hp d n _ (hP d Au) ?_;cases e:p d with
  |true=>
   sleep 10;refine h d n _ (hP d Au) ?_;refine qw P p f hp h r (acc++[f d]) _ n (λe he=>hP e (Ap _ he)) ?_;rw[List.filter_cons_of_pos e]at q;rw[Bm];exact q
  |false=>
   sleep 7;refine qw P p f hp h r acc _ n (λe he=>hP e (Ap _ he)) ?_;rw[List.filter_cons_of_neg (by rw[e];exact Ai)]at q;exact q
def okD:Ad->Bool
 |.str y=>!decide (y.cps.toList < ("a":Str).cps.toList)&&!decide (("z":Str).cps.toList < y.cps.toList)
 |_=>ai
theorem vZ{α:Type}(f):∀l:List α,jf (l.map λa=>.bool (f a))=ae (l.map f)
 |[]=>rfl
 |a::r=>by
  show(jf (r.map λa=>.bool (f a))).map _=_;rw[vZ f r];rfl
theorem zA{r:Int}(h0:0<=r)(h1:r < xs.length):∃v,dv xs r=ae v/\v∈xs:=by
 obtain⟨j,rfl⟩:=Int.eq_ofNat_of_zero_le h0;have hj:j < xs.length:=by omega
 exact⟨xs[j],fL (Ae hj),Cq hj⟩
theorem my(d):fX "str" d=match d with|.str _=>ah|_=>ai:=by cases d<;>rfl
theorem o3{A B:Prop}(h1:b=ah->A)(h2:b=ai->B):if b=ah then A else B:=by
 cases b with
 |true=>sleep 10;exact h1 rfl
 |false=>sleep 7;exact h2 rfl
end Nb
namespace DL
open PySem L2 Nb
section
variable{X:Cx}{tg a b c e:Expr}{ta tb tc te:TE}{wa wb wc we:DT}{pos p:Pos}{K:Ah}
theorem Pl(ha:DE X a ta wa)(hb:DE X b tb wb)(hK:X.K=K:=by rfl)(hs:qK b:=by exact λ_ _=>rfl):DE X (.Subscript a b pos) (d3 (lr K) ta tb) (w2 wa wb av):=by subst hK;exact vq ha hb hs
def v3(K:Ah)(T:String):List V->Hp->VK->Prop:=λxs H Q=>∃x t b,xs=[x,.ty T]/\TyOf K H x t/\PySem.W.kitOne K t (.type T)=ae b/\Q (.bl b) H
theorem Ky{p p2:Pos}(hT:T="int"\/T="bool"\/T="str"\/T="tuple"\/T="list")(hg:Gl X "isinstance")(hm:X.mg "isinstance"=af)(hg2:Gl X x)(hm2:X.mg x=af)(hv:Bv x=ae (.type T))(ha:DE X a ta wa)(hK:X.K=K:=by rfl)(hn:x≠"__name__":=by decide)(hdb:⇑21=ai:=by decide)
  (he:Av [a,.Name x p2] X.env=⇑108::Av [.Name x p2] X.env:=by rfl) (he2:Av [.Name x p2] X.env=(ai,eval (.Name x p2) X.env)::Av [] X.env:=by rfl) (hpl:(C8 pos (Av [.Name x p2] X.env)).any (·.1)=ai:=by rfl):
  DE X (.Call (.Name "isinstance" p) [a,.Name x p2] [] pos) (fZ (v3 K T) (bU ta (bU (tC (.ty T)) bq))) (bV T wa):=by subst hK;exact Sq hT hg hm hg2 hm2 hv ha hn hdb he he2 hpl
def kJ(K:Ah):R2:=λx y H Q=>qJ x y H Q\/sA x y H Q\/sf K x y H Q
theorem qA(hu:X.A.units < Du)(hK:X.K=K:=by rfl):OpR X (B6 .Eq) (kJ K):=by subst hK;exact QO hu
theorem qV:bB (kJ K) aZ:=Oz
theorem qS(hK:X.K=K:=by rfl):OpR X (B6 .In) (ij K ai):=by subst hK;exact Tc
theorem qU(hK:X.K=K:=by rfl):OpR X (B6 .NotIn) (ij K ah):=by subst hK;exact LR
def uk(K:Ah):List V->Hp->VK->Prop:=λxs H Q=>(∃z,xs=[.str z]/\z.length<=Az/\Q (.int z.length) H)\/∃p ys,xs=[.ref p]/\(SqL K H p ys\/SqT K H p ys)/\Q (.int ys.length) H
theorem wg(hK:X.K=K:=by rfl):CallR X (.builtin "len") (uk K):=by subst hK;exact Mt
theorem wI:dU (uk K) bg:=Ny
def wm(K:Ah):List V->Hp->VK->Prop:=λxs H Q=>∃p ys,xs=[.ref p]/\((SqL K H p ys/\∀l,H l=af->Q (.ref l) (upd H l (.tup ys)))\/(SqT K H p ys/\Q (.ref p) H))
theorem IE(hK:X.K=K:=by rfl):CallR X (.type "tuple") (wm K):=by subst hK;exact LU
theorem FF:dU (wm K) eG:=N8
def zd(K:Ah):List V->Hp->VK->Prop:=λxs H Q=>∃p ys,xs=[.ref p]/\(SqL K H p ys\/SqT K H p ys)/\∀l,H l=af->Q (.ref l) (upd H l (.lst ys))
theorem SQ(hK:X.K=K:=by rfl):CallR X (.type "list") (zd K):=by subst hK;exact QA
theorem zG(ha:DE X a ta wa)(hK:X.K=K:=by rfl):DI X tg a (nQ K ta) (gm wa):=by subst hK;exact PY ha
theorem To(ha:DE X a ta wa)(hK:X.K=K:=by rfl):DI X tg a (ll K ta) (c9 wa):=by subst hK;exact ON ha
theorem Mx{k:Nat}{n:Nat}(h:DGs X es t r)(hc:X.calm=ah:=by rfl)(hK:X.K=K:=by rfl)
  (hn:(C0 es X.env).length=n:=by rfl) (hst:(C0 es X.env).findIdx? (·.1)=af:=by rfl):DG X (.Tuple es k pos) (l7 K n t) (eC n r):=by subst hK;exact Po h hc hn hst
end
end DL
namespace L2
open PySem PySem.Spec PyProof.Rows
theorem GP{cpos pos pos':Pos}
  (hN:X.N.Nodup) (hix:X.N[i]?=ae x) (hx:X.env.scope.names.lookup x=ae .local)
  (hc:X.calm=ah) (S:CompSc X N scope cl fr) (hi:PI X tg iter wi) (hg:∀s H fp,PG ⇑48 tg g) (ht:∀s H fp,nJ ⇑48 ifs tt)
  (he:∀s H fp,PE ⇑48 elt te) (hs:∀x,E5 iter X.env x=pure x:=by intro _;rfl)
  (hsw:C5 ⇑104 (ae ⇑47) pos.line X.env=pure ah:=by rfl):
  PS X (.Assign [.Name x pos'] ⇑104 pos) (bQ (ot fr wi g tt te) (dH i)):=by
 sleep 16;rw[exec_Assign_Name_used _ _ _ _ hsw];refine Ab (wpAny_standAt (Ab ?_));show A1 _ _ (do let _ <-comprehension ⇑104 scope X.env (firstIterPos [⟨tg,iter,ifs,0⟩] cpos) (newList []) (firstAsync [⟨tg,iter,ifs,0⟩]) (firstIter [⟨tg,iter,ifs,0⟩] X.env) (ae (assign ⇑47 X.env))) _ _ s;refine Ab ?_;have fin:∀(u:Unit)(s':Ak),SP X pins D .next s'->A1 ⇑14 X.A (pure Flow.next) (SP X pins D) X.xe s':=λ_ s' z=>Aj z
 refine aP (Q:=λ_ s'=>SP X pins D .next s') ?_ λ_ s' z=>Aj (Aj z);refine wpAny_comprehension_free (use:=ae (assign ⇑47 X.env)) (cl:=cl) rfl hs S.clos S.kind S.names (aP (hi pins s σ H _ I h) λv s1 h1=>aP h1 λitv s2 h2=>?_);obtain⟨it,fp,tn,J,H2,e,I2,T,st2,f2,q⟩:=h2;subst e;refine Bx (wpAny_newFunctionEnv S.nocell (by intro y hy;simp at hy) (λh₁ hn hsb=>?_) S.kind);dsimp only at hn hsb ⊢;obtain⟨W,⟨m0,w0⟩,turn⟩:=q s2.heap.objs.size I2.fresh
 have I3:Inv X pins σ ⇑134 {s2 with heap:=s2.heap.push {cls:=.type "list",dict:=af,data:=.seq ([]:List Ag).toArray}}:=I2.lnew (its:=[]) (t':=s2.toks) .nil (A6 _);have key:∀s3:Ak,s3={ s2 with heap:=s2.heap.push {cls:=.type "list",dict:=af,data:=.seq ([]:List Ag).toArray}}->Inv X pins σ ⇑134 s3->
   ∀(ob:Obj)(mm:Str->Option Ag),C4 s3.heap.objs.size (s3.heap.push ob) h₁->h₁.Ns s3.heap.objs.size mm->
   F2 ⇑14 X.A (.compStart ⇑104 0 (.ref it) ⇑63 (compEnvC scope cl s3.heap.objs.size X.env))
    (compPost ⇑14 X.A X.xe (ae (assign ⇑47 X.env)) (λ_ s'=>SP X pins D .next s') ⇑63 s3.heap.objs.size) {s3 with heap:=h₁,toks:=s3.toks+([]:List (Str×Ag)).length}:=?key
 ·exact key _ rfl I3 _ _ hsb hn
 clear I3 hn hsb;intro s3 hs3 I3 ob mm hsb hn;have hfp:∀b∈fp,∃o,s2.heap.get? b=ae o:=λb hb=>let⟨o,e,_⟩:=T.obj _ _ st2 b hb;⟨o,e⟩;have up:∀b o,s2.heap.get? b=ae o->s3.heap.get? b=ae o:=λb o e=>by rw[hs3];exact Af _ e
 have f3:∀b∈fp,cZ X pins ⇑134 b:=λb hb=>by
  obtain⟨o,e⟩:=hfp b hb;obtain⟨g0,gr⟩:=f2 b hb;exact⟨by rw[aN (Bd (As e))];exact g0,gr⟩
 have hlt:∀b∈fp,b < s3.heap.objs.size:=λb hb=>let⟨o,e⟩:=hfp b hb;As (up b o e);generalize hH3:upd H2 s2.heap.objs.size (.lst [])=H3 at I3 f3 w0;have I4:=yu (t':=s3.toks+([]:List (Str×Ag)).length) S I3 f3 hlt hsb hn;have st4:tn 0 h₁:=T.keep _ _ _ st2 λb hb o e=>(hsb.2 b (Bd (As (up b o e)))).trans (Af _ (up b o e));have stat:∀{H':Hp},(∀b∈fp,H' b=af)->∀b∈fp,cZ ⇑90 [] H' b:=λhn b hb=>by
  obtain⟨_,k1,k2,k3,k4,k5⟩:=f3 b hb;refine⟨hn b hb,Bd (hlt b hb),λz=>?_,.inl hb,λx c e=>k4 x c (S.sub x c e),λp hp=>absurd hp (by simp[de])⟩;rcases Ax.mp (I3.stkSub b z)with e|e
  ·exact k1 e
  ·exact k2 e
 have loop:F2 ⇑14 X.A (.compLoop ⇑104 0 (.ref it) ⇑63 (compEnvC scope cl s3.heap.objs.size X.env))
   (compPost ⇑14 X.A X.xe (ae (assign ⇑47 X.env)) (λ_ s'=>SP X pins D .next s') ⇑63 s3.heap.objs.size) {s3 with heap:=h₁,toks:=s3.toks+([]:List (Str×Ag)).length}:=by
  refine ES (λn s'=>∃i ys τ Hc,Inv ⇑90 [] τ Hc s'/\tn i s'.heap/\(∀b∈fp,Hc b=af)/\W i n ys τ Hc) ?_ m0 ⟨0,[],dY fr σ,H3,I4,st4,λb hb=>(f3 b hb).1,w0⟩
  rintro n s5 ⟨i,ys,τ,Hc,I5,st5,fr5,w5⟩
  rcases turn i n ys τ Hc w5 with⟨stop,qn⟩|⟨go,hz,step⟩
  ·refine aP (T.done ⇑90 rfl rfl rfl hc i [] s5 τ Hc ⇑81 I5 (stat fr5) st5 stop) λr s6 ⟨hr,I6⟩=>?_;subst hr;obtain⟨mm,hm,_⟩:=I6.loc;have I6x:Inv X pins σ Hc s6:=FY I3 f3 I6 (Heap.SameBut.refl _ _);have hC:Hc s3.heap.objs.size=af:=I6.free;obtain⟨_,c1,_,c3,c4,c5⟩:=I3.fpOk (H':=Hc) (Aq _) hC;show A1 ⇑14 X.A (assign ⇑47 X.env ⇑63) _ X.xe s6;refine wpAny_assign_Name (GI I6x hN hix (.inl hx) (show RelV ⇑63 (A4 s2.heap.objs.size)from rfl) (λs7 I7 hsb=>?_) (.inr hx));obtain⟨ad,hsb,had⟩:=hsb;have hne:s3.heap.objs.size≠ad:=by
    rcases had with z|z
    ·rw[z];exact c1
    ·exact λq=>c4 x ad z q.symm
   obtain⟨oo,es,ep,ho,rr⟩:=hm;refine⟨mm,⟨oo,es,ep,(hsb.2 _ hne).trans ho,rr⟩,λh' hs'=>⟨_,Hc,?_,qn⟩⟩;have ne:∀b,b∉[s3.heap.objs.size]->b≠s3.heap.objs.size:=λb z q=>z (by rw[q];exact Ba.mpr rfl);have hok':HOk X.prog X.w Hc h':=λb o e=>by
    refine(I7.hok b o e).stay (λc v hc z=>(hs'.2 c ?_).trans z) (λ_ z=>z) λ_ _ z=>z
    rintro rfl
    rcases hc with z|z
    ·rw[<-z,hC]at e;cases e
    ·rw[hC]at z;cases z
   refine I7.call' (s':={ s7 with heap:=h'}) (ch:=[s3.heap.objs.size]) rfl ?_ hok' I7.bare λb hb=>?_
   ·exact⟨λb o e n h1 h2=>(hs'.2 b (ne b h2)).trans e,λb o e n h1 h2=>⟨o.slots,(hs'.2 b (ne b h2)).trans e⟩,λb o e n h2=>n,λb o e h2=>⟨o,(hs'.2 b (ne b h2)).trans e⟩,λ_ _ z=>z,λ_ _ _ z=>z,λb ps z=>⟨#[],by rw[Array.append_empty];exact z⟩⟩
   ·cases Ba.mp hb;exact⟨c3,c1,c4,c5⟩
  ·refine aP (T.item ⇑90 rfl rfl rfl hc i [] s5 τ Hc ⇑81 I5 (stat fr5) st5 go) λr s6 ⟨u,hr,h6⟩=>?_;subst hr;refine aP h6 λ_ s7 ⟨x,H7,I7,r7,y7,st7,fr7⟩=>?_;have I7':=I7.pinned (stat fr7) (T.obj _ _ st7);refine aP (hg s3 H3 fp _ s7 τ H7 x u _ I7' r7 (step x H7 y7)) λ_ s8 ⟨τ8,H8,I8,q8⟩=>?_;refine aP (ht s3 H3 fp _ s8 τ8 H8 _ I8 q8) λok s9 ⟨H9,I9,q9⟩=>?_;have keep:∀{st:Ak}{τ':St}{H':Hp},Inv ⇑90 ([]++mD fp s7.heap) τ' H' st->tn (i+1) st.heap/\∀b∈fp,H' b=af:=λ{st τ' H'} Ix=>by
    refine⟨T.keep _ _ _ st7 λb hb o e=>(Ix.pin (b,o) ⇑133).1,λb hb=>?_⟩;obtain⟨o,e,d⟩:=T.obj _ _ st7 b hb;exact(Ix.pin (b,o) ⇑133).2.1
   cases ok with
   |false=>
    rw[if_neg Ai]at q9 ⊢;obtain⟨m',hm,w9⟩:=q9;obtain⟨k1,k2⟩:=keep I9;exact⟨m',hm,i+1,ys,τ8,H9,I9.unpinned,k1,k2,w9⟩
   |true=>
    rw[if_pos rfl]at q9 ⊢;refine aP (he s3 H3 fp _ s9 τ8 H9 _ I9 q9) λxv s10 ⟨y,H10,I10,r10,hD,m',hm,w10⟩=>?_;refine aP (xM _ s10 τ8 H10 ⇑63 [y] ⇑63 [xv] (λz H'=>∃m',m' < n/\W (i+1) m' (ys++[y]) τ8 H') I10 rfl (.cons r10 .nil) ⟨_,ys,y,rfl,rfl,hD,hz,m',hm,w10⟩) λz s11 ⟨z',H11,I11,_,m'',hm',w11⟩=>?_;obtain⟨k1,k2⟩:=keep I11;exact⟨m'',hm',i+1,ys++[y],τ8,H11,I11.unpinned,k1,k2,w11⟩
 exact codeAny_compStart_list loop (T.self _ 0 _ _ _ st4 loop)
end L2
namespace DL
open PySem L2 Nb
section
variable{X:Cx}{elt tg iter:Expr}{ifs:List Expr}{scope:Fp}{cl:List (Str×Addr)}{cpos pos pos':Pos}{N:List Str}{fr:List ⇑70}{wi:TI}{v:gR}{g:TG}{gd:eQ}{tt:TT}{cc:cz}{te:TE}{we:DT}{i:Nat}{x:Str}
theorem Qx(h:jK t w):jA (bQ t (dH i)) (bo i w):=λC H B σ δ n K D R q E=>
 h C H B σ δ n _ _ R q λa xs ds H1 n1 R1 k1 h0 h1 h2 h3 q1=>by
  refine E.nx _ _ _ _ _ (R.own R1 k1 h0 (by rw[h1];exact λz=>nomatch z) rfl ?_) q1;exact⟨a,xs,rfl,h1,.inr rfl,R.h0 h0,h2,h3⟩
theorem Uz(h:eF t w):jA (bQ t (dH i)) (aw i w):=λC H B σ δ n K D R q E=>
 h C H B σ δ n _ _ R q λv x H1 n1 R1 _ r1 q1=>by
  cases x with
  |d d=>exact E.nx _ _ _ _ _ (R1.set r1 rfl) q1
  |tp=>exact E.nx _ _ _ _ _ (R1.set r1 rfl) q1
  |dk _=>sleep 2
  |dx _=>sleep 2
  |ln _=>sleep 2
  |ob _=>exact E.nx _ _ _ _ _ (R1.set r1 rfl) q1
theorem Oo(hN:X.N.Nodup)(hix:X.N[i]?=ae x)(hx:X.env.scope.names.lookup x=ae .local)(hc:X.calm=ah)(S:CompSc X N scope cl fr)(hi:DI X tg iter wi v)(hg:∀s H fp,DG ⇑48 tg g gd)(ht:∀s H fp,DIf ⇑48 ifs tt cc)
  (he:∀s H fp,DE ⇑48 elt te we) (hno:l6 gd) (hs:∀x,E5 iter X.env x=pure x:=by intro _;rfl)
  (hsw:C5 ⇑104 (ae ⇑47) pos.line X.env=pure ah:=by rfl):
  DS X (.Assign [.Name x pos'] ⇑104 pos) (bQ (ot fr wi g tt te) (dH i)) (bo i (cg fr v gd cc we)):=
 ⟨GP hN hix hx hc S hi.pi (λs H fp=>(hg s H fp).pg) (λs H fp=>(ht s H fp).pf) (λs H fp=>(he s H fp).pe) hs hsw,Qx (vG (pos:=cpos) hc S hi hg ht he hno hs).sd⟩
theorem Kx(hN:X.N.Nodup)(hix:X.N[i]?=ae x)(hx:X.env.scope.names.lookup x=ae .local)(hc:X.calm=ah)(S:CompSc X N scope cl fr)(hi:DI X tg iter wi v)(hg:∀s H fp,DG ⇑48 tg g gd)(ht:∀s H fp,DIf ⇑48 ifs tt cc)
  (he:∀s H fp,DE ⇑48 elt te we) (hno:l6 gd) (hs:∀x,E5 iter X.env x=pure x:=by intro _;rfl)
  (hsw:C5 ⇑104 (ae ⇑47) pos.line X.env=pure ah:=by rfl):
  DS X (.Assign [.Name x pos'] ⇑104 pos) (bQ (ot fr wi g tt te) (dH i)) (aw i (bj (cg fr v gd cc we))):=
 ⟨GP hN hix hx hc S hi.pi (λs H fp=>(hg s H fp).pg) (λs H fp=>(ht s H fp).pf) (λs H fp=>(he s H fp).pe) hs hsw,Uz (vG (pos:=cpos) hc S hi hg ht he hno hs).d.sd⟩
end
end DL
namespace KS
open PySem PySem.W PyProof.Rows
def run{α:Type}(c:Nat->Nat->Bool):KasT α->α
 |.ret a=>a
 |.ask i j k=>run c (k (c i j))
theorem mI(c)(f:α->KasT β):∀t:KasT α,run c (t.bind f)=run c (f (run c t))
 |.ret _=>rfl
 |.ask i j k=>mI c f (k (c i j))
def Wi{α:Type}(n:Nat)(P:α->Prop):KasT α->Prop
 |.ret a=>P a
 |.ask i j k=>i < n/\j < n/\∀b,Wi n P (k b)
theorem Wi.bind{f:α->KasT β}(hf:∀a,P a->Wi n R (f a)):∀{t:KasT α},Wi n P t->Wi n R (t.bind f)
 |.ret a,h=>hf a h
 |.ask i j k,h=>⟨h.1,h.2.1,λb=>Wi.bind hf (h.2.2 b)⟩
theorem Wi.out(c):∀{t:KasT α},Wi n P t->P (run c t)
 |.ret a,h=>h
 |.ask i j k,h=>Wi.out c (t:=k (c i j)) (h.2.2 (c i j))
theorem wp_run{St:Ak->Prop}
  (hc:∀i j C s,i < n->j < n->St s->(∀s',St s'->C (c i j) s')->cmp i j C s):∀(t:KasT α)(s:Ak),Wi n P t->St s->(∀s',St s'->Q (run c t) s')->t.kasWp cmp Q s
 |.ret a,s,_,hs,h=>h s hs
 |.ask i j k,s,w,hs,h=>hc i j _ s w.1 w.2.1 hs λs' hs'=>wp_run hc (k (c i j)) s' (w.2.2 _) hs' h
def Lo(n:Nat)(p:Array Nat):Prop:=∀i,p.getD i 0 < n
theorem j6(p:Array Nat)(i):p.getD i 0=(p[i]?).getD 0:=by simp
theorem LO(hn:0 < n)(h:∀x∈p,x < n):Lo n p:=λi=>by
 rw[j6];cases e:p[i]? with
 |none=>exact hn
 |some x=>exact h x (Array.mem_of_getElem? e)
def Pm(n:Nat)(p:Array Nat):Prop:=p.Perm (C3 (A5 n))
theorem Pm.size(h:Pm n p):p.size=n:=by rw[Array.Perm.size_eq h];simp
theorem Pm.lo(hn:0 < n)(h:Pm n p):Lo n p:=LO hn λx hx=>by
 have:x∈C3 (A5 n):=(Array.Perm.mem_iff h).mp hx;simpa using this
theorem Pm.rev(h:Pm n p)(i j):Pm n (E4 p i j):=(mirror_perm p i j _).trans h
theorem Pm.bub(h:Pm n p)(i j):Pm n (bubble p i j):=(bubble_perm p i j).trans h
section
variable{n:Nat}(hn:0 < n)
include hn
theorem w8(h:Lo n p):∀f m,Wi n (λ_=>True) (kas_asc p f m)
 |0,m=>trivial
 |f+1,m=>⟨h _,h _,λb=>by
  cases b with
  |true=>exact trivial
  |false=>exact w8 h f (m+1)⟩
theorem qB:∀f (p:Array Nat) m q,Pm n p->Wi n (λr=>Pm n r.1) (kas_desc f p m q)
 |0,p,m,q,h=>h
 |f+1,p,m,q,h=>⟨h.lo hn _,h.lo hn _,λb=>by
  cases b with
  |true=>
   show Wi n _ (if q > 0 then _ else _)
   split
   ·exact qB f _ _ _ (h.rev _ _)
   ·exact qB f _ _ _ h
  |false=>exact⟨h.lo hn _,h.lo hn _,λd=>by
    cases d with
    |true=>exact h
    |false=>exact qB f _ _ _ h⟩⟩
theorem ye(m nrem)(h:Pm n p):Wi n (λr=>Pm n r.2) (kas_tail3 m nrem p):=by
 unfold kas_tail3;refine Wi.bind (P:=λ_=>True) (λa _=>?_) (w8 hn ((h.rev 0 m).lo hn) _ _);show Pm n (E4 p 0 m);exact h.rev _ _
theorem HZ(m nrem)(h:Pm n p):Wi n (λr=>Pm n r.2) (kas_descPart m nrem p):=
 Wi.bind (λr hr=>by
  show Wi n _ (if r.2.2 > 0 then _ else _)
  split
  ·exact ye hn _ _ (Pm.rev hr _ _)
  ·exact ye hn _ _ hr) (qB hn _ p _ _ h)
theorem RC(nrem)(h:Pm n p):Wi n (λr=>Pm n r.2) (kas_count nrem p):=
 Wi.bind (λm _=>by
  show Wi n _ (if (m==nrem)=ah then _ else if m > 1 then _ else _)
  split
  ·exact h
  ·split
   ·exact⟨h.lo hn _,h.lo hn _,λb=>by
     cases b with
     |true=>exact h
     |false=>exact HZ hn _ _ (h.rev _ _)⟩
   ·exact HZ hn _ _ h) (w8 hn (h.lo hn) _ _)
theorem vz(h:Lo n p)(k):∀f l r,Wi n (λ_=>True) (kas_place p k f l r)
 |0,l,r=>trivial
 |f+1,l,r=>by
  show Wi n _ (if l ≥ r then _ else _)
  split
  ·exact trivial
  ·exact⟨h _,h _,λb=>by
    cases b with
    |true=>exact vz h k f _ _
    |false=>exact vz h k f _ _⟩
theorem CT:∀f (p:Array Nat) k,Pm n p->Wi n (Pm n) (kas_bin f p k)
 |0,p,k,h=>h
 |f+1,p,k,h=>Wi.bind (λl _=>CT f _ _ (h.bub _ _)) (vz hn (h.lo hn) k _ _ _)
theorem wi_sort:Wi n (Pm n) (kas_sort n):=
 Wi.bind (λr hr=>by
  show Wi n _ (if r.1 < n then _ else _)
  split
  ·exact CT hn _ _ _ hr
  ·exact hr) (RC hn n (Array.Perm.refl _))
end
structure Ord(lt:Nat->Nat->Bool):Prop where
 asym:∀i j,lt i j=ah->lt j i=ai
 ltr:∀i j k,lt j i=ai->lt k j=ai->lt k i=ai
section
variable{lt:Nat->Nat->Bool}(O:Ord lt)
def g(p:Array Nat)(i:Nat):Nat:=p.getD i 0
def SP(lt:Nat->Nat->Bool)(p:Array Nat)(n:Nat):Prop:=∀i j,i < j->j < n->lt (g p j) (g p i)=ai
def DP(lt:Nat->Nat->Bool)(p:Array Nat)(n:Nat):Prop:=∀i j,i < j->j < n->lt (g p i) (g p j)=ai
def Sim(lt:Nat->Nat->Bool)(x y:Nat):Prop:=lt x y=ai/\lt y x=ai
include O
theorem gM(i):lt i i=ai:=by
 cases e:lt i i with
 |false=>rfl
 |true=>exact(O.asym i i e).symm.trans e |>.symm▸rfl
theorem Sim.eq(h1:Sim lt a x)(h2:Sim lt b y):lt a b=lt x y:=by
 cases e:lt x y with
 |false=>exact O.ltr _ _ _ h2.2 (O.ltr _ _ _ e h1.1)
 |true=>
  cases e2:lt a b with
  |true=>rfl
  |false=>
   have:lt x y=ai:=O.ltr _ _ _ h2.1 (O.ltr _ _ _ e2 h1.2);rw[this]at e;cases e
theorem SP.snoc(h:SP lt p n)(h1:1<=n)(e:lt (g p n) (g p (n-1))=ai):SP lt p (n+1):=λi j hij hj=>by
 by_cases q:j < n
 ·exact h i j hij q
 ·have:j=n:=by omega
  subst this;by_cases r:i=j-1
  ·subst r;exact e
  ·exact O.ltr _ _ _ (h i (j-1) ⋯ ⋯) e
theorem vo:∀f n,1<=n->SP lt p n->n<=run lt (kas_asc p f n)/\run lt (kas_asc p f n)<=n+f/\SP lt p (run lt (kas_asc p f n))/\(run lt (kas_asc p f n)=n+f\/lt (g p (run lt (kas_asc p f n))) (g p (run lt (kas_asc p f n)-1))=ah)
 |0,n,h1,h=>⟨Aq _,Aq _,h,.inl rfl⟩
 |f+1,n,h1,h=>by
  have e:run lt (kas_asc p (f+1) n)=run lt (if lt (g p n) (g p (n-1))=ah then .ret n else kas_asc p f (n+1)):=rfl;rw[e];cases q:lt (g p n) (g p (n-1))with
  |true=>exact⟨Aq _,Nat.le_add_right _ _,h,.inr q⟩
  |false=>
   sleep 7;obtain⟨a1,a2,a3,a4⟩:=vo f (n+1) ⋯ (SP.snoc O h h1 q);exact⟨by omega,by omega,a3,a4.imp (λz=>by omega) id⟩
omit O
theorem uR(hj:j<=p.size)(k):g (E4 p i j) k=if i<=k/\k < j then g p (i+j-1-k)else g p k:=by
 unfold g E4;rw[j6,j6,j6,getElem?_mirror hj _ ⋯];by_cases h:i<=k/\k < j
 ·rw[if_pos h];by_cases q:(i<=k/\k < i+(j-i) / 2)\/(j-(j-i) / 2<=k/\k < j)
  ·rw[if_pos q]
  ·rw[if_neg q];have:i+j-1-k=k:=by omega
   rw[this]
 ·rw[if_neg h,if_neg ⋯]
include O
theorem uH(hj:j<=p.size)(h:∀a b,i<=a->a < j->i<=b->b < j->Sim lt (g p a) (g p b))(k):Sim lt (g (E4 p i j) k) (g p k):=by
 rw[uR hj]
 split
 ·rename_i q;exact h _ _ ⋯ ⋯ q.1 q.2
 ·exact⟨gM O _,gM O _⟩
theorem DP.sim(h:DP lt p n)(s:∀k,Sim lt (g p' k) (g p k)):DP lt p' n:=λi j hij hj=>(Sim.eq O (s i) (s j)).trans (h i j hij hj)
theorem DP.snoc(h:DP lt p n)(h1:1<=n)(e:lt (g p (n-1)) (g p n)=ai):DP lt p (n+1):=λi j hij hj=>by
 by_cases q:j < n
 ·exact h i j hij q
 ·have:j=n:=by omega
  subst this;by_cases r:i=j-1
  ·subst r;exact e
  ·exact O.ltr _ _ _ e (h i (j-1) ⋯ ⋯)
omit O
def vd(lt:Nat->Nat->Bool)(sz n f:Nat)(r:Array Nat×Nat×Nat):Prop:=
 r.1.size=sz/\n<=r.2.1/\r.2.1<=n+f/\r.2.2+1<=r.2.1/\DP lt r.1 r.2.1/\(∀a b,r.2.1-(r.2.2+1)<=a->a < r.2.1->r.2.1-(r.2.2+1)<=b->b < r.2.1->Sim lt (g r.1 a) (g r.1 b))
def jE(lt:Nat->Nat->Bool)(sz nrem:Nat)(r:Nat×Array Nat):Prop:=r.2.size=sz/\1<=r.1/\r.1<=nrem/\SP lt r.2 r.1
def uf(lt:Nat->Nat->Bool)(p:Array Nat)(k m:Nat):Prop:=m<=k/\(∀i,i < m->lt (g p k) (g p i)=ai)/\(∀i,m<=i->i < k->lt (g p k) (g p i)=ah)
include O
theorem qZ:∀f (p:Array Nat) n q,q+1<=n->n+f<=p.size->DP lt p n->(∀a b,n-(q+1)<=a->a < n->n-(q+1)<=b->b < n->Sim lt (g p a) (g p b))->
  vd lt p.size n f (run lt (kas_desc f p n q))
 |0,p,n,q,h1,h2,h3,h4=>⟨rfl,Aq _,Aq _,h1,h3,h4⟩
 |f+1,p,n,q,h1,h2,h3,h4=>by
  have one:∀(p':Array Nat)(m:Nat)(a b:Nat),m+1-(0+1)<=a->a < m+1->m+1-(0+1)<=b->b < m+1->Sim lt (g p' a) (g p' b):=λp' m a b ha ha' hb hb'=>by
   have e1:a=m:=by omega
   have e2:b=m:=by omega
   rw[e1,e2];exact⟨gM O _,gM O _⟩
  show vd lt p.size n (f+1) (run lt (if lt (g p n) (g p (n-1))=ah then(if q > 0 then kas_desc f (E4 p (n-(q+1)) n) (n+1) 0 else kas_desc f p (n+1) 0)else .ask (p.getD (n-1) 0) (p.getD n 0) λd=>if d=ah then .ret (p,n,q)else kas_desc f p (n+1) (q+1)));cases c1:lt (g p n) (g p (n-1))with
  |true=>
   sleep 10;by_cases hq:q > 0
   ·rw[if_pos hq];have sim:=uH O (p:=p) (i:=n-(q+1)) (j:=n) ⋯ h4;have hd:DP lt (E4 p (n-(q+1)) n) (n+1):=DP.sim O (DP.snoc O h3 ⋯ (O.asym _ _ c1)) sim;have hs:(E4 p (n-(q+1)) n).size=p.size:=mirror_size _ _ _ _;obtain⟨a1,a2,a3,a4,a5,a6⟩:=qZ f (E4 p (n-(q+1)) n) (n+1) 0 ⋯ (by rw[hs];omega) hd (one _ n);exact⟨a1.trans hs,by omega,by omega,a4,a5,a6⟩
   ·rw[if_neg hq];obtain⟨a1,a2,a3,a4,a5,a6⟩:=qZ f p (n+1) 0 ⋯ ⋯ (DP.snoc O h3 ⋯ (O.asym _ _ c1)) (one _ n);exact⟨a1,by omega,by omega,a4,a5,a6⟩
  |false=>
   sleep 7;show vd lt p.size n (f+1) (run lt (if lt (g p (n-1)) (g p n)=ah then .ret (p,n,q)else kas_desc f p (n+1) (q+1)));cases c2:lt (g p (n-1)) (g p n)with
   |true=>exact⟨rfl,Aq _,by show n<=n+(f+1);omega,h1,h3,h4⟩
   |false=>
    rw[if_neg Ai];have s1:Sim lt (g p n) (g p (n-1)):=⟨c1,c2⟩;have tr:∀{x y z:Nat},Sim lt x y->Sim lt y z->Sim lt x z:=λh h'=>⟨O.ltr _ _ _ h'.1 h.1,O.ltr _ _ _ h.2 h'.2⟩;obtain⟨a1,a2,a3,a4,a5,a6⟩:=qZ f p (n+1) (q+1) ⋯ ⋯ (DP.snoc O h3 ⋯ c2) (λa b ha ha' hb hb'=>by
     have key:∀x,n+1-(q+1+1)<=x->x < n+1->Sim lt (g p x) (g p (n-1)):=λx hx hx'=>by
      by_cases e:x=n
      ·rw[e];exact s1
      ·exact h4 x (n-1) ⋯ ⋯ ⋯ ⋯
     have kb:=key b hb hb';exact tr (key a ha ha') ⟨kb.2,kb.1⟩)
    exact⟨a1,by omega,by omega,a4,a5,a6⟩
theorem ER(h1:1<=n)(hn:n<=nrem)(hz:nrem<=p.size)(h:DP lt p n):jE lt p.size nrem (run lt (kas_tail3 n nrem p)):=by
 unfold kas_tail3;rw[mI];have hs:(E4 p 0 n).size=p.size:=mirror_size _ _ _ _;have sp:SP lt (E4 p 0 n) n:=λi j hij hj=>by
  rw[uR ⋯,uR ⋯,if_pos ⟨A6 _,hj⟩,if_pos ⟨A6 _,by omega⟩];exact h _ _ ⋯ ⋯
 obtain⟨a1,a2,a3,_⟩:=vo O (p:=E4 p 0 n) (nrem-n) n h1 sp;exact⟨hs,by show 1<=run lt (kas_asc (E4 p 0 n) (nrem-n) n);omega,by show run lt (kas_asc (E4 p 0 n) (nrem-n) n)<=nrem;omega,a3⟩
theorem yw(h1:1<=n)(hn:n+1<=nrem)(hz:nrem<=p.size)(h:DP lt p (n+1)):jE lt p.size nrem (run lt (kas_descPart n nrem p)):=by
 unfold kas_descPart;rw[mI];obtain⟨a1,a2,a3,a4,a5,a6⟩:=qZ O (nrem-(n+1)) p (n+1) 0 ⋯ ⋯ h (λa b ha ha' hb hb'=>by
  have e1:a=n:=by omega
  have e2:b=n:=by omega
  rw[e1,e2];exact⟨gM O _,gM O _⟩)
 generalize run lt (kas_desc (nrem-(n+1)) p (n+1) 0)=r at a1 a2 a3 a4 a5 a6;by_cases hq:r.2.2 > 0
 ·rw[if_pos hq];have hs:(E4 r.1 (r.2.1-(r.2.2+1)) r.2.1).size=r.1.size:=mirror_size _ _ _ _;obtain⟨b1,b2⟩:=ER O (p:=E4 r.1 (r.2.1-(r.2.2+1)) r.2.1) (n:=r.2.1) (nrem:=nrem) ⋯ ⋯ (by rw[hs];omega) (DP.sim O a5 (uH O ⋯ a6));exact⟨b1.trans (hs.trans a1),b2⟩
 ·rw[if_neg hq];obtain⟨b1,b2⟩:=ER O (p:=r.1) (n:=r.2.1) (nrem:=nrem) ⋯ ⋯ ⋯ a5;exact⟨b1.trans a1,b2⟩
theorem IW(h1:1<=nrem)(hz:nrem<=p.size):jE lt p.size nrem (run lt (kas_count nrem p)):=by
 unfold kas_count;rw[mI];obtain⟨a1,a2,a3,a4⟩:=vo O (p:=p) (nrem-1) 1 (Aq _) (λi j hij hj=>by omega);generalize run lt (kas_asc p (nrem-1) 1)=m at a1 a2 a3 a4;by_cases q:(m==nrem)=ah
 ·rw[if_pos q];exact⟨rfl,a1,by show m<=nrem;omega,a3⟩
 ·rw[if_neg q];have hm:m≠nrem:=λz=>q (by rw[z];exact beq_self_eq_true _);have a4:lt (g p m) (g p (m-1))=ah:=a4.resolve_left ⋯;by_cases hm1:m > 1
  ·rw[if_pos hm1];show jE lt p.size nrem (run lt (if lt (g p 0) (g p (m-1))=ah then .ret (m,p)else kas_descPart m nrem (E4 p 0 m)));cases c:lt (g p 0) (g p (m-1))with
   |true=>exact⟨rfl,a1,by show m<=nrem;omega,a3⟩
   |false=>
    sleep 7;have hs:(E4 p 0 m).size=p.size:=mirror_size _ _ _ _;have up:∀a b,a < m->b < m->lt (g p b) (g p a)=ai:=λa b ha hb=>by
     have le0:lt (g p a) (g p 0)=ai:=by
      by_cases z:a=0
      ·rw[z];exact gM O _
      ·exact a3 0 a ⋯ ha
     have leb:lt (g p (m-1)) (g p b)=ai:=by
      by_cases z:b=m-1
      ·rw[z];exact gM O _
      ·exact a3 b (m-1) ⋯ ⋯
     have l1:lt (g p b) (g p 0)=ai:=by
      by_cases z:b=0
      ·rw[z];exact gM O _
      ·exact a3 0 b ⋯ hb
     have l2:lt (g p 0) (g p a)=ai:=O.ltr _ _ _ (by
      by_cases z:a=m-1
      ·rw[z];exact gM O _
      ·exact a3 a (m-1) ⋯ ⋯) c
     exact O.ltr _ _ _ l2 l1
    have all:∀a b,0<=a->a < m->0<=b->b < m->Sim lt (g p a) (g p b):=λa b _ ha _ hb=>⟨up b a hb ha,up a b ha hb⟩;have sim:=uH O (p:=p) (i:=0) (j:=m) ⋯ all;have dp:DP lt p (m+1):=DP.snoc O (λi j hij hj=>up j i hj ⋯) a1 (O.asym _ _ a4);obtain⟨b1,b2⟩:=yw O (p:=E4 p 0 m) (n:=m) (nrem:=nrem) a1 ⋯ (by rw[hs];omega) (DP.sim O dp sim);exact⟨b1.trans hs,b2⟩
  ·rw[if_neg hm1];have e:m=1:=by omega
   subst e;exact yw O (p:=p) (Aq _) ⋯ hz (DP.snoc O (λi j hij hj=>by omega) (Aq _) (O.asym _ _ a4))
theorem xa(h:SP lt p k):∀f l r,l<=r->r<=k->r-l<=f->(∀i,i < l->lt (g p k) (g p i)=ai)->(∀i,r<=i->i < k->lt (g p k) (g p i)=ah)->
  uf lt p k (run lt (kas_place p k f l r))
 |0,l,r,hlr,hr,hf,h1,h2=>by
  have e:l=r:=by omega
  subst e;exact⟨hr,h1,h2⟩
 |f+1,l,r,hlr,hr,hf,h1,h2=>by
  show uf lt p k (run lt (if l ≥ r then .ret l else .ask (p.getD k 0) (p.getD ((l+r) / 2) 0) λc=>if c=ah then kas_place p k f l ((l+r) / 2)else kas_place p k f ((l+r) / 2+1) r));by_cases q:l ≥ r
  ·rw[if_pos q];have e:l=r:=by omega
   subst e;exact⟨hr,h1,h2⟩
  ·rw[if_neg q];show uf lt p k (run lt (if lt (g p k) (g p ((l+r) / 2))=ah then kas_place p k f l ((l+r) / 2)else kas_place p k f ((l+r) / 2+1) r));cases c:lt (g p k) (g p ((l+r) / 2))with
   |true=>
    sleep 10;refine xa h f l ((l+r) / 2) ⋯ ⋯ ⋯ h1 λi hi hik=>?_;by_cases e:i=(l+r) / 2
    ·rw[e];exact c
    ·cases z:lt (g p k) (g p i)with
     |true=>rfl
     |false=>
      have:=O.ltr _ _ _ (h ((l+r) / 2) i ⋯ hik) z;rw[this]at c;cases c
   |false=>
    sleep 7;refine xa h f ((l+r) / 2+1) r ⋯ hr ⋯ (λi hi=>?_) h2;by_cases e:i=(l+r) / 2
    ·rw[e];exact c
    ·exact O.ltr _ _ _ (h i ((l+r) / 2) ⋯ ⋯) c
omit O
theorem GG(hk:k < p.size)(hl:l<=k)(i):g (bubble p k (k-l)) i=if i=l then g p k else if l < i/\i<=k then g p (i-1)else g p i:=by
 unfold g;rw[j6,getElem?_bubble hk _ ⋯,j6,j6,j6];have e:k-(k-l)=l:=by omega
 rw[e];by_cases h1:i=l
 ·rw[if_pos h1,if_pos h1]
 ·rw[if_neg h1,if_neg h1];by_cases h2:l < i/\i<=k
  ·rw[if_pos h2,if_pos h2]
  ·rw[if_neg h2,if_neg h2]
include O
theorem zk:∀f (p:Array Nat) k,1<=k->k+f<=p.size->SP lt p k->SP lt (run lt (kas_bin f p k)) (k+f)
 |0,p,k,h1,hz,h=>h
 |f+1,p,k,h1,hz,h=>by
  show SP lt (run lt ((kas_place p k k 0 k).bind λl=>kas_bin f (bubble p k (k-l)) (k+1))) (k+(f+1));rw[mI];obtain⟨b1,b2,b3⟩:=xa O h k 0 k (A6 _) (Aq _) ⋯ (λi hi=>by omega) (λi hi hi'=>by omega);generalize run lt (kas_place p k k 0 k)=l at b1 b2 b3;have sp:SP lt (bubble p k (k-l)) (k+1):=λi j hij hj=>by
   rw[GG ⋯ b1,GG ⋯ b1];by_cases e1:j=l
   ·rw[if_pos e1,if_neg ⋯,if_neg ⋯];exact b2 i ⋯
   ·rw[if_neg e1];by_cases e2:l < j/\j<=k
    ·rw[if_pos e2];by_cases e3:i=l
     ·rw[if_pos e3];exact O.asym _ _ (b3 (j-1) ⋯ ⋯)
     ·rw[if_neg e3];by_cases e4:l < i/\i<=k
      ·rw[if_pos e4];exact h (i-1) (j-1) ⋯ ⋯
      ·rw[if_neg e4];exact h i (j-1) ⋯ ⋯
    ·rw[if_neg e2,if_neg ⋯,if_neg ⋯];exact h i j hij ⋯
  have:=zk f (bubble p k (k-l)) (k+1) ⋯ (by rw[bubble_size];omega) sp;have e:k+1+f=k+(f+1):=by omega
  rwa [e]at this
theorem sort_ok(h1:1<=n):SP lt (run lt (kas_sort n)) n:=by
 unfold kas_sort;rw[mI];obtain⟨a1,a2,a3,a4⟩:=IW O (p:=C3 (A5 n)) (nrem:=n) h1 (by simp);generalize run lt (kas_count n (C3 (A5 n)))=r at a1 a2 a3 a4;have hs:r.2.size=n:=by rw[a1];simp
 by_cases q:r.1 < n
 ·rw[if_pos q];have e:max r.1 1=r.1:=by omega
  rw[e];have:=zk O (n-r.1) r.2 r.1 a2 ⋯ a4;have e2:r.1+(n-r.1)=n:=by omega
  rwa [e2]at this
 ·rw[if_neg q];have e:r.1=n:=by omega
  rw[e]at a4;exact a4
end
end KS
namespace KS
open PySem PySem.W PySem.Calls PyProof.Rows
section
variable{prog:Bh}{w:Bt}{A:B1}{E:Ag->Ak->Prop}{s:Ak}{a:Addr}{vs:List Ag}
theorem ls_sort(ho:s.heap.get? a=ae (Ck "list" vs.toArray n))(h2:2<=vs.length)(h64:vs.length < 64)
  (h:∀e1 h',h'.get? a=ae (Ck "list" #[] e1)->(∀b o,b≠a->s.heap.get? b=ae o->h'.get? b=ae o)->
   A1 ⇑13 A (keyKind' vs.toArray) (λκ s'=>(kas_sort vs.length).kasWp (kas_ask prog w A κ vs)
    (λp s''=>s''.heap.get? a=ae (Ck "list" #[] e1)/\∀h3 c,C4 a s''.heap h3->h3.get? a=ae (Ck "list" (C3 ⇑121) c)->P (.done (.ret .none)) {s'' with heap:=h3}) s') ⇑81 {s with heap:=h'}):
  A1 ⇑13 A (Ek.«list.sort» ⟨[.ref a],[]⟩) P E s:=by
 have ha:a < s.heap.objs.size:=As ho;have s1:=Bn s.heap a ⇑105;obtain⟨e1,ho1⟩:∃e1,(s.heap.update a ⇑105).get? a=ae (Ck "list" #[] e1):=⟨_,get?_update_seq ho λ_=>#[]⟩;have ask:=h e1 (((s.heap.update a ⇑105).push (Ck "tuple" vs.toArray 0)).push (Ck "list" #[] 0)) (Af _ (Af _ ho1))
  λb o hb e=>Af _ (Af _ ((s1.2 b hb).trans e))
 rw[list_sort_plain];refine Ab (listItems_at ho rfl ?_);refine Ab (listUpdate_at ho rfl ?_ (by rw[A2,Fo];omega) (A6 _));refine Ab (seqEpoch_at ho1 rfl ?_);refine Ab (wpAny_newTuple ?_ (by show vs.length<=_;rw[Fo];omega));refine Ab (wpAny_newList ?_ (A6 _));refine Cf ?_;show A1 ⇑13 A _ P E {s with heap:=((s.heap.update a ⇑105).push (Ck "tuple" vs.toArray 0)).push (Ck "list" #[] 0)};dsimp only;have hn2:¬vs.toArray.size < 2:=by rw[A2];omega
 rw[if_neg hn2,if_neg hn2];refine Ab (Dr ask (λκ s0 hk=>?_) λ_ _ x=>x.elim);refine Ab (Dr (kat_run (Q:=λst' s'=>∃p:Array Nat,p.size=vs.length/\arrOf st'=p.map (kas_item (vs.toArray.zip vs.toArray))/\failedOf st'=af/\s'.heap.get? a=ae (Ck "list" #[] e1)/\∀h3 c,C4 a s'.heap h3->h3.get? a=ae (Ck "list" (C3 ⇑121) c)->P (.done (.ret .none)) {s' with heap:=h3})
  rfl h2 h64 (λp' st' s' a1 a2 a3 a4=>⟨p',a1,a2,a3,a4⟩) hk) ?_ λ_ _ e=>e)
 rintro⟨⟨⟩,st'⟩ s' ⟨p,hp,har,hf,na,k⟩
 dsimp only;have hout:=kat_snds rfl har;have hsz:(C3 ⇑121).size=vs.length:=by rw[A2,Aa,B9,hp]
 rw[hout];have s2:=Bn s'.heap a (Cy λ_=>C3 ⇑121);obtain⟨c2,hc2⟩:∃c2,(s'.heap.update a (Cy λ_=>C3 ⇑121)).get? a=ae (Ck "list" (C3 ⇑121) c2):=⟨_,get?_update_seq na λ_=>C3 ⇑121⟩;refine Ab (seqEpoch_at na rfl ?_);refine Ab (listUpdate_at na rfl ?_ (A6 _) (Bj (Nat.le_of_eq hsz) (by rw[Fo];omega)));rw[hf];simp only[bne_self_eq_false,B3,if_false];exact Aj (k _ c2 s2 hc2)
theorem ls_short(ho:s.heap.get? a=ae (Ck "list" vs.toArray n))(h2:vs.length < 2)
  (h:∀h' c,h'.get? a=ae (Ck "list" vs.toArray c)->(∀b o,b≠a->s.heap.get? b=ae o->h'.get? b=ae o)->P (.done (.ret .none)) {s with heap:=h'}):
  A1 ⇑13 A (Ek.«list.sort» ⟨[.ref a],[]⟩) P E s:=by
 have ha:a < s.heap.objs.size:=As ho;have s1:=Bn s.heap a ⇑105;obtain⟨e1,ho1⟩:∃e1,(s.heap.update a ⇑105).get? a=ae (Ck "list" #[] e1):=⟨_,get?_update_seq ho λ_=>#[]⟩;have ho6:(((s.heap.update a ⇑105).push (Ck "tuple" vs.toArray 0)).push (Ck "list" #[] 0)).get? a=ae (Ck "list" #[] e1):=Af _ (Af _ ho1);rw[list_sort_plain];refine Ab (listItems_at ho rfl ?_);refine Ab (listUpdate_at ho rfl ?_ (by rw[A2,Fo];omega) (A6 _));refine Ab (seqEpoch_at ho1 rfl ?_);refine Ab (wpAny_newTuple ?_ (by show vs.length<=_;rw[Fo];omega));refine Ab (wpAny_newList ?_ (A6 _));refine Cf ?_;show A1 ⇑13 A _ P E {s with heap:=((s.heap.update a ⇑105).push (Ck "tuple" vs.toArray 0)).push (Ck "list" #[] 0)};dsimp only;have hn2:vs.toArray.size < 2:=by rw[A2];omega
 rw[if_pos hn2,if_pos hn2];refine Ab (Aj ?_);rw[StateT.run_pure];refine Ab (Aj ?_);dsimp only;refine Ab (seqEpoch_at ho6 rfl ?_);refine Ab (listUpdate_at ho6 rfl ?_ (hsz2:=by rw[Array.size_map];show(pairsOf vs).size<=_;rw[pairsOf_size,Fo];omega));simp only[bne_self_eq_false,B3,if_false];have e:(arrOf (SortSt.mk' general' (vs.toArray.zip vs.toArray) #[] 7 af)).map (·.2)=vs.toArray:=by
  show(vs.toArray.zip vs.toArray).map (·.2)=vs.toArray;apply F0.mp;simp only[Array.toList_map,Array.toList_zip];exact List.map_snd_zip (Aq _)
 have s2:=Bn (((s.heap.update a ⇑105).push (Ck "tuple" vs.toArray 0)).push (Ck "list" #[] 0)) a (Cy λ_=>(arrOf (SortSt.mk' general' (vs.toArray.zip vs.toArray) #[] 7 af)).map (·.2));refine Aj (h _ _ (by rw[e];exact get?_update_seq ho6 λ_=>vs.toArray) λb o hb q=>(s2.2 b hb).trans (Af _ (Af _ ((s1.2 b hb).trans q))))
theorem sorted_of(hcol:A1 ⇑13 A.in1 (collect r) R E s)
  (h:∀vs s1,R vs s1->vs.length<=Az/\A1 ⇑13 A.in1.in1 (Ek.«list.sort» ⟨[.ref s1.heap.objs.size],[]⟩) (λf s2=>f=.done (.ret .none)/\Q (.ref s1.heap.objs.size) s2) E {s1 with heap:=s1.heap.push ⇑58}):
  A1 ⇑13 A (call ⇑111 [r]) Q E s:=by
 refine Calls.call_function_entry kind_sorted plain_sorted entry_sorted (args_sorted1 _) ?_;unfold Ek.«sorted»;refine Ab (m:=checkCount "sorted" 1 1 _) (Aj ?_);refine Ab (Dr hcol (λvs s1 hr=>?_) λ_ _ e=>e);obtain⟨hl,hs⟩:=h vs s1 hr;refine Ab (wpAny_newList ?_ hl);have hoL:(s1.heap.push ⇑58).get? s1.heap.objs.size=ae ⇑58:=Aw _ rfl;refine Ab (Cf (Ce (s:={ s1 with heap:=s1.heap.push ⇑58}) slot_list_sort ⟨_,hoL,rfl⟩ entry_list_sort ?body (args_list_sort _)))
 case body=>
  refine Dr hs (λf s2 hf=>?_) λ_ _ e=>e;obtain⟨rfl,hq⟩:=hf;exact⟨_,rfl,Aj ⟨_,rfl,hq⟩⟩
def ItsOk(h:Heap)(as:List Addr)(ks:List Str)(xs:List Ag):Prop:=
 as.length=ks.length/\as.length=xs.length/\∀(j:Nat)(a:Addr),as[j]?=ae a->∃k t x,ks[j]?=ae k/\xs[j]?=ae x/\h.get? a=ae {cls:=.type "tuple",data:=.seq #[.str k t,x]}
def ltK(ks:List Str)(i j:Nat):Bool:=decide ((ks.getD i ⟨#[]⟩).cps.toList < (ks.getD j ⟨#[]⟩).cps.toList)
theorem NF(x y:List Nat)(h:x < y):¬y < x:=λz=>List.lt_irrefl x (List.lt_trans h z)
theorem ordK(ks):Ord (ltK ks) where
 asym:=λi j h=>by
  unfold ltK at h ⊢;exact decide_eq_false (NF _ _ (of_decide_eq_true h))
 ltr:=λi j k h1 h2=>by
  unfold ltK at h1 h2 ⊢;have h1:=of_decide_eq_false h1;have h2:=of_decide_eq_false h2;refine decide_eq_false λz=>?_;have l1:=Fh.mp h1;have l2:=Fh.mp h2;exact absurd z (Fh.mpr (List.le_trans l1 l2))
theorem katTups:∀{as:List Addr}{ks:List Str}{xs:List Ag},ItsOk h as ks xs->∃fs:List Ag,KatTups h (as.map A4) fs/\fs.length=as.length/\∀f∈fs,∃k t,f=.str k t
 |[],ks,xs,_=>⟨[],trivial,rfl,λf hf=>nomatch hf⟩
 |a::as,ks,xs,I=>by
  obtain⟨l1,l2,hp⟩:=I;obtain⟨k,t,x,e1,e2,e3⟩:=hp 0 a rfl;cases ks with
  |nil=>cases e1
  |cons k0 ks=>
   cases xs with
   |nil=>cases e2
   |cons x0 xs=>
    obtain⟨fs,f1,f2,f3⟩:=katTups (h:=h) (as:=as) (ks:=ks) (xs:=xs) ⟨by simpa using l1,by simpa using l2,λj b hb=>by
     obtain⟨k',t',x',g1,g2,g3⟩:=hp (j+1) b (by simpa using hb);exact⟨k',t',x',by simpa using g1,by simpa using g2,g3⟩⟩
    refine⟨.str k t::fs,.cons e3 rfl rfl rfl f1,by simp[f2],λf hf=>?_⟩;rcases Ax.mp hf with rfl|z
    ·exact⟨k,t,rfl⟩
    ·exact f3 f z
end
section
variable{prog:Bh}{w:Bt}{A:B1}{E:Ag->Ak->Prop}{s:Ak}{a:Addr}{as:List Addr}{ks:List Str}{xs:List Ag}
theorem ask_items(hI:ItsOk s.heap as ks xs)(nd:ks.Nodup)(hx:∀x∈xs,∀(s:Ak),SeqAt.EqAt A s x x ah)(hi:i < as.length)(hj:j < as.length)(h:C (ltK ks i j) s):
  kas_ask prog w A (tuples' ah) (as.map A4) i j C s:=by
 obtain⟨l1,l2,hp⟩:=hI;obtain⟨k1,t1,x1,e1,e2,e3⟩:=hp i as[i] (Ae hi);obtain⟨k2,t2,x2,f1,f2,f3⟩:=hp j as[j] (Ae hj);unfold kas_ask;have g1:(as.map A4).getD i Bi=.ref as[i]:=by simp[hi]
 have g2:(as.map A4).getD j Bi=.ref as[j]:=by simp[hj]
 rw[g1,g2];have c1:ks.getD i ⟨#[]⟩=k1:=by simp[e1]
 have c2:ks.getD j ⟨#[]⟩=k2:=by simp[f1]
 have hc:ltK ks i j=decide (k1.cps.toList < k2.cps.toList):=by unfold ltK;rw[c1,c2]
 rw[hc]at h;refine kat_lt e3 rfl f3 rfl ?_;refine kat_cons (wpAny_eqBool_str ?_);by_cases e:k1=k2
 ·rw[decide_eq_true e];have hij:i=j:=by
   have hi':i < ks.length:=by omega
   have hj':j < ks.length:=by omega
   have q1:ks[i]=k1:=by have:=Ae hi';rw[e1]at this;exact(Bb this).symm
   have q2:ks[j]=k2:=by have:=Ae hj';rw[f1]at this;exact(Bb this).symm
   exact(F3 nd).mp (q1.trans (e.trans q2.symm))
  subst hij;rw[e2]at f2;cases f2;refine kat_yes (kat_cons ?_);refine hx x1 (A0 e2) s _ _ _ _ ?_;refine kat_yes (kat_nil ?_);rw[e]at h;have:decide (k2.cps.toList < k2.cps.toList)=ai:=decide_eq_false (List.lt_irrefl _);rw[this]at h;exact h
 ·rw[decide_eq_false e];exact kat_no (oneLt_str h)
end
end KS
namespace L2
open PySem PySem.Spec PyProof.Rows PySem.W
def kr(d v:Addr):HO:=.ext λh=>h.get? v=ae {cls:=.type "dict_items",data:=.fields #[.ref d]}
theorem Kf:vw X "dict.items" (λx vs H Q=>∃d kvs,x=.ref d/\vs=[]/\H d=ae (.dK kvs)/\∀v,H v=af->Q (.ref v) (upd H v (kr d v))):=by
 intro pins s σ H x xs v us Q I rx rv h;obtain⟨d,kvs,rfl,rfl,hd,q⟩:=h;cases rx;cases rv.zero;obtain⟨z,hsys,vs',rel,hD⟩:=I.hok d _ hd;refine call_meetsIn PySem.F.slot_dict_items hD.typeIs PySem.F.entry_dict_items (PySem.F.args_dict_items_1 _) (meets_dict_items (fj X.prog X.w) d hsys) ⟨⟨vs',hD⟩,?_⟩;have e:(s.heap.push ({cls:=.type "dict_items",data:=.fields #[.ref d]}:Obj)).get? s.heap.objs.size=ae {cls:=.type "dict_items",data:=.fields #[.ref d]}:=Aw _ rfl;exact⟨.ref s.heap.objs.size,_,I.laid (t':=s.toks) (o:=kr d s.heap.objs.size) (λb ob q=>Af _ q) (Aq _) ⟨e,⟨_,e⟩,λh1 h2 q k=>k _ q⟩,rfl,q _ ⇑89⟩
def fO(as:List Addr)(ks:List Str)(xv:List V)(i:Nat):Addr×Str×V:=(as.getD i 0,ks.getD i ⟨#[]⟩,xv.getD i .non)
def fW(H:Hp)(D:Addr)(l:List V)(as:List Addr)(ks:List Str)(xv:List V):Hp:=λb=>if b=D then ae (.lst l)else match as.idxOf? b with
 |some j=>ae (.tup [.str (ks.getD j ⟨#[]⟩),xv.getD j .non])
 |none=>H b
theorem su{as:List Addr}(h:as.idxOf? b=ae j):as[j]?=ae b:=by
 unfold List.idxOf? at h;obtain⟨h1,h2,_⟩:=Gi.mp h;rw[Ae h1];rw[beq_iff_eq]at h2;rw[h2]
theorem Ph{as:List Addr}(h:as.idxOf? b=af):b∉as:=λhb=>by
 unfold List.idxOf? at h;rw[List.findIdx?_eq_none_iff]at h;have:=h b hb;simp at this
theorem QN{as:List Addr}(nd:as.Nodup)(h:as[j]?=ae a):as.idxOf? a=ae j:=by
 obtain⟨h1,h2⟩:=Ar.mp h;cases e:as.idxOf? a with
 |none=>exact absurd (A0 h) (Ph e)
 |some i=>
  have e':=su e;obtain⟨h3,h4⟩:=Ar.mp e';rw[(F3 nd).mp (h4.trans h2.symm)]
section
variable{X:Cx}{pins:List ⇑16}{σ:St}{H:Hp}{s:Ak}
theorem HE{idx:List Nat}(I:Inv X pins σ H s)(hk:∀b o,s.heap.get? b=ae o->h3.get? b=ae o)
  (hI:KS.ItsOk h3 as ks xs) (hx:Vals xv xs) (hup:∀a∈as,s.heap.objs.size<=a) (nd:as.Nodup) (hD:∀b o,s.heap.get? b=ae o->b≠D) (hDH:H D=af) (hDa:D∉as) (hl:as.length < 64) (hidx:idx.Perm (A5 as.length))
  (hL:h3.get? D=ae (Ck "list" (C3 (idx.map λi=>(as.map A4).getD i Bi)) c))
  (q:∀H',iG H H'->H D=af->(∀a∈as,H a=af)->H' D=ae (.lst ⇑143)->(∀i∈idx,H' (fO as ks xv i).1=ae (.tup [.str (fO as ks xv i).2.1,(fO as ks xv i).2.2]))->Q (.ref D) H'):
  EP X pins σ Q (.ref D) {s with heap:=h3,toks:=tk}:=by
 obtain⟨l1,l2,hp⟩:=hI;have lx:=hx.length;have old:∀{b o},H b=ae o->b < s.heap.objs.size:=λe=>I.hok.lt e;have hidlt:∀i∈idx,i < as.length:=λi hi=>Cb.mp (hidx.mem_iff.mp hi);have hlen:idx.length=as.length:=by rw[hidx.length_eq,Eb]
 have hsame:iG H (fW H D ⇑143 as ks xv):=λb o e=>by
  unfold fW;rw[if_neg (λz=>by rw[z,hDH]at e;cases e)];cases q:as.idxOf? b with
  |none=>exact e
  |some j=>
   have:=hup b (A0 (su q));exact absurd (old e) (Nat.not_lt.mpr this)
 have hvals:Vals ⇑143 (idx.map λi=>(as.map A4).getD i Bi):=by
  have:∀l:List Nat,(∀i∈l,i < as.length)->Vals (l.map λi=>V.ref (fO as ks xv i).1) (l.map λi=>(as.map A4).getD i Bi):=by
   intro l
   induction l with
   |nil=>intro _;exact .nil
   |cons i r ih=>
    intro hl;have hi:=hl i Au;refine .cons ?_ (ih λj hj=>hl j (Ap _ hj));show(as.map A4).getD i Bi=A4 (as.getD i 0);simp[hi]
  exact this idx hidlt
 have hnew:HOk X.prog X.w (fW H D ⇑143 as ks xv) h3:=λb o e=>by
  by_cases hb:b=D
  ·subst hb;unfold fW at e;rw[if_pos rfl]at e;cases e;refine⟨?_,_,c,hvals,hL⟩;rw[Aa,hlen];exact fG ⋯
  ·have e2:=e;unfold fW at e2;rw[if_neg hb]at e2;cases qi:as.idxOf? b with
   |none=>
    rw[qi]at e2;refine(I.hok b o e2).stay (λcc u _ z=>hk cc u z) (λcc z=>hsame _ _ z) λcc ys z=>hsame _ _ z
   |some j=>
    rw[qi]at e2;cases e2;obtain⟨k,t,x,g1,g2,g3⟩:=hp j b (su qi);have hjl:j < xv.length:=by
     have:=(Ar.mp g2).1;omega
    have ev:RelV (xv.getD j .non) x:=by
     obtain⟨u,hu,ru⟩:=hx.get (Ae hjl);rw[g2]at hu;cases hu;have:xv.getD j .non=xv[j]:=by simp[hjl]
     rw[this];exact ru
    have ek:ks.getD j ⟨#[]⟩=k:=by simp[g1]
    refine⟨by show 2<=Az;decide,[.str k t,x],.cons (by rw[ek];exact⟨t,rfl⟩) (.cons ev .nil),?_⟩;exact⟨_,g3,rfl,⟨_,rfl⟩,rfl⟩
 refine⟨.ref D,_,I.call' (s':={ s with heap:=h3,toks:=tk}) (ch:=[]) rfl ?_ hnew I.bare (λb hb=>nomatch hb),rfl,q _ hsame hDH (λa ha=>I.hok.fresh (hup a ha)) (by unfold fW;rw[if_pos rfl]) λi hi=>?_⟩
 ·refine⟨λb o e n _ _=>hk b o e,λb o e n _ _=>⟨o.slots,hk b o e⟩,λb o e n _=>?_,λb o e _=>⟨o,hk b o e⟩,λb ys z=>hsame _ _ z,λb o' u z=>hsame _ _ z,λb ps z=>⟨#[],by rw[Array.append_empty];exact hsame _ _ z⟩⟩;have hlt:=As e;unfold fW;rw[if_neg (hD b o e)];cases qi:as.idxOf? b with
  |none=>exact n
  |some j=>exact absurd hlt (Nat.not_lt.mpr (hup b (A0 (su qi))))
 ·have hi':=hidlt i hi;have ea:(fO as ks xv i).1=as[i]:=by show as.getD i 0=_;simp[hi']
  have eg:as[i]?=ae as[i]:=Ae hi';have ne:as[i]≠D:=λz=>hDa (z▸Cq hi');rw[ea];unfold fW;rw[if_neg ne,QN nd eg];rfl
end
def BU:List V->Hp->VK->Prop:=λxs H Q=>∃(v d:Addr)(ks:List Str)(xv:List V),xs=[.ref v]/\H v=ae (kr d v)/\ks.length=xv.length/\H d=ae (.dK ((ks.zip xv).map λp=>((C6 p.1:aH),p.2)))/\ks.length < 64/\ks.Nodup/\xv.all ib=ah /\
 ∀(D:Addr)(as:List Addr)(idx:List Nat)(H':Hp),as.length=ks.length->idx.Perm (A5 ks.length)->(idx.map λi=>ks.getD i ⟨#[]⟩).Pairwise ⇑96->iG H H'->H D=af->(∀a∈as,H a=af)->
  H' D=ae (.lst ⇑143)->(∀i∈idx,H' (fO as ks xv i).1=ae (.tup [.str (fO as ks xv i).2.1,(fO as ks xv i).2.2]))->Q (.ref D) H'
theorem yh{xs:List Ag}:∀{ks:List Str}{xv:List V}{vs:List (aH×Ag)},ks.length=xv.length->KV ((ks.zip xv).map λp=>((C6 p.1:aH),p.2)) vs->vs.length=ks.length/\Vals xv (vs.map (·.2))/\vs.map (·.1)=ks.map (C6:Str->aH)
 |[],[],_,_,.nil=>⟨rfl,.nil,rfl⟩
 |k::ks,x::xv,_,hl,.cons r rr=>by
  obtain⟨h1,h2,h3⟩:=yh (xs:=xs) (ks:=ks) (xv:=xv) (by simpa using hl) rr;refine⟨by simp[h1],.cons r.2 h2,?_⟩;rw[Bc,Bc,h3,<-r.1]
theorem xP(hz:p.size=n)(h:KS.SP (KS.ltK ks) p n):(p.toList.map λi=>ks.getD i ⟨#[]⟩).Pairwise ⇑96:=by
 rw[Ho];intro i j hi hj hij;rw[Aa,B9,hz]at hi hj;have:=h i j hij hj;unfold KS.ltK KS.g at this;have e1:p.getD i 0=p[i]:=by simp[hz,hi]
 have e2:p.getD j 0=p[j]:=by simp[hz,hj]
 rw[e1,e2]at this;simp only[Gy,Array.getElem_toList];exact of_decide_eq_false this
theorem LV(hh:X.A.handled=af):CallR X ⇑111 BU:=by
 sleep 11;obtain⟨v,d,ks,xv,rfl,hv,hl,hd,h64,nd,fl,q⟩:=h;sleep 18;cases(show u=A4 v from ru);have ov:s.heap.get? v=ae {cls:=.type "dict_items",data:=.fields #[.ref d]}:=(I.hok v _ hv).1;obtain⟨z,hsys,vs',rel,hDict⟩:=I.hok d _ hd;obtain⟨ep,hat⟩:=hDict.dictAt;obtain⟨lv,hvals,hkeys⟩:=yh (xs:=[]) hl rel;refine KS.sorted_of (R:=λvs s1=>∃(h':Heap)(tk:Nat)(as:List Addr),vs=as.map A4/\s1={ s with heap:=h',toks:=tk}/\⇑135/\as.length=vs'.length/\KdxG (fj X.prog X.w) vs' s.heap.objs.size h' as)
  (kdx_collect (knd:=fj X.prog X.w) (kvs:=vs') (ep:=ep) hh ⟨_,ov,rfl,rfl⟩ hat (by rw[lv];exact fG ⋯) λh' tk as hk hl hG=>⟨h',tk,as,rfl,rfl,hk,hl,hG⟩) ?_
 rintro vs s1 ⟨h',tk,as,rfl,rfl,hk,hla,hG⟩
 have hlen:as.length=ks.length:=hla.trans lv;have its:KS.ItsOk h' as ks (vs'.map (·.2)):=⟨hlen,by rw[Aa,hla],λj a ha=>by
  obtain⟨key,k,x,e1,e2,e3⟩:=hG.pairs j a ha;have hk1:(vs'.map (·.1))[j]?=ae k:=by rw[Am,e1];rfl
  rw[hkeys,Am]at hk1;cases eq:ks[j]? with
  |none=>rw[eq]at hk1;cases hk1
  |some k0=>
   rw[eq]at hk1;have hk2:(C6 k0:aH)=k:=Bb hk1;subst hk2;rcases iE (k:=C6 k0) (v:=key) (show kg (C6 k0) key=ah from e2)with⟨i,t,z,_⟩|⟨y,t,z,rfl⟩
   ·cases z
   ·cases z;exact⟨k0,t,x,rfl,by rw[Am,e1];rfl,e3⟩⟩
 have hup:∀a∈as,s.heap.objs.size<=a:=λa ha=>Gt (hG.above a ha);have ndA:as.Nodup:=hG.rise.imp λh=>Bd h;have hDa:h'.objs.size∉as:=λhm=>D7 _ (hG.there hm);have hs':∀b o,s.heap.get? b=ae o->b≠h'.objs.size:=λb o e=>Bd (As (hk b o e));have hsH:H h'.objs.size=af:=(I.hok.kept hk).fresh (Aq _);refine⟨by rw[Aa,hlen];exact fG ⋯,?_⟩;have hoL:(h'.push ⇑122).get? h'.objs.size=ae ⇑122:=Aw _ rfl;have its2:∀h4:Heap,(∀b o,b≠h'.objs.size->(h'.push ⇑122).get? b=ae o->h4.get? b=ae o)->KS.ItsOk h4 as ks (vs'.map (·.2)):=λh4 k4=>⟨its.1,its.2.1,λj a ha=>by
  obtain⟨k,t,x,e1,e2,e3⟩:=its.2.2 j a ha;exact⟨k,t,x,e1,e2,k4 a _ (λz=>hDa (z▸A0 ha)) (Af _ e3)⟩⟩
 have keep4:∀h4:Heap,(∀b o,b≠h'.objs.size->(h'.push ⇑122).get? b=ae o->h4.get? b=ae o)->∀b o,s.heap.get? b=ae o->h4.get? b=ae o:=λh4 k4 b o e=>
  k4 b o (hs' b o e) (Af _ (hk b o e))
 by_cases h2:2<=(as.map A4).length
 ·refine KS.ls_sort (s:={ s with heap:=h'.push ⇑122,toks:=tk}) hoL h2 ⇑22 λe1 h4 ha4 k4=>?_;have its4:=its2 h4 k4;obtain⟨fs,f1,f2,f3⟩:=KS.katTups its4;rw[Aa]at h2;refine kat_kind (s:={ s with heap:=h4,toks:=tk}) (T:=Dv "str") f1 ⋯ (λf hf=>?_) rfl ?_
  ·obtain⟨k,t,rfl⟩:=f3 f hf;exact .now
  ·rw[Aa];have hn:0 < as.length:=by omega
   have hwi:=KS.wi_sort hn;refine KS.wp_run (n:=as.length) (P:=KS.Pm as.length) (c:=KS.ltK ks) (St:=λs'=>s'={ s with heap:=h4,toks:=tk}) (λi j C s' hi hj hs hC=>?_) _ _ hwi rfl λs' hs'=>?_
   ·subst hs;refine KS.ask_items its4 nd (λx hx s''=>?_) hi hj (hC _ rfl);obtain⟨j,hj⟩:=Bz.mp hx;have hjl:j < xv.length:=by
     have:=(Ar.mp hj).1;rw[Aa]at this;omega
    obtain⟨u,hu,ru⟩:=hvals.get (Ae hjl);rw[hj]at hu;cases hu;have fx:ib xv[j]=ah:=Dq.mp fl _ (Cq hjl);have:=zr (A:=X.A.in1.in1) (s:=s'') ru ru fx fx;have e1:iW xv[j] xv[j]=ah:=by
     cases ex:xv[j]<;>simp[iW]<;>(rw[ex]at fx;cases fx)
    rw[e1]at this;exact this
   ·subst hs';refine⟨ha4,λh3 c sb hL3=>⟨rfl,?_⟩⟩;have hpm:KS.Pm as.length (KS.run (KS.ltK ks) (kas_sort as.length)):=KS.Wi.out _ hwi;have hsp:=KS.sort_ok (KS.ordK ks) (n:=as.length) hn;have hsz:=hpm.size;have hidx:(KS.run (KS.ltK ks) (kas_sort as.length)).toList.Perm (A5 as.length):=by
     have:=He.mp hpm;simpa using this
    have k3:∀b o,b≠h'.objs.size->(h'.push ⇑122).get? b=ae o->h3.get? b=ae o:=λb o hb e=>(sb.2 b hb).trans (k4 b o hb e);exact HE (s:=s) (tk:=tk) (xv:=xv) I (keep4 h3 k3) (its2 h3 k3) hvals hup ndA hs' hsH hDa ⋯ hidx hL3 λH' a1 a2 a3 a4 a5=>q _ as _ H' hlen (by rw[<-hlen];exact hidx) (xP hsz hsp) a1 a2 a3 a4 a5
 ·refine KS.ls_short (s:={ s with heap:=h'.push ⇑122,toks:=tk}) hoL ⋯ λh4 c ha4 k4=>⟨rfl,?_⟩;rw[Aa]at h2;have el:as.map A4=(A5 as.length).map λi=>(as.map A4).getD i Bi:=by
   apply F4 (by simp);intro i h1 h2;simp at h1;simp[h1]
  rw[el]at ha4;refine HE (s:=s) (tk:=tk) (xv:=xv) (idx:=A5 as.length) I (keep4 h4 k4) (its2 h4 k4) hvals hup ndA hs' hsH hDa ⋯ (List.Perm.refl _) ha4 λH' a1 a2 a3 a4 a5=>q _ as _ H' hlen (by rw[<-hlen]) ?_ a1 a2 a3 a4 a5;have:(A5 as.length).length<=1:=by simp;omega
  match hr:A5 as.length,this with
  |[],_=>exact .nil
  |[i],_=>exact Ea _ _
def iM(vs:List Ag)(ks:List Str):Prop:=vs.length=ks.length/\∀(j:Nat) v,vs[j]?=ae v->∃k t,ks[j]?=ae k/\v=.str k t
theorem vU(h:iM vs ks):∀(idx:List Nat),(∀i∈idx,i < ks.length)->Vals ((idx.map λi=>ks.getD i ⟨#[]⟩).map V.str) (idx.map λi=>vs.getD i Bi)
 |[],_=>.nil
 |i::r,hi=>by
  have h1:=hi i Au;have h2:i < vs.length:=by rw[h.1];exact h1
  obtain⟨k,t,e1,e2⟩:=h.2 i vs[i] (Ae h2);refine .cons ⟨t,?_⟩ (vU h r λj hj=>hi j (Ap _ hj));simp[h2,e1,e2]
theorem HV{ks:List Str}{idx:List Nat}(h:idx.Perm (A5 ks.length)):(idx.map λi=>ks.getD i ⟨#[]⟩).Perm ks:=by
 have h1:=h.map λi=>ks.getD i (⟨#[]⟩:Str);have h2:(A5 ks.length).map (λi=>ks.getD i (⟨#[]⟩:Str))=ks:=by
  apply F4 (by simp);intro i h1 h2;simp[h2]
 rw[h2]at h1;exact h1
def yx:List V->Hp->VK->Prop:=λxs H Q=>∃(d:Addr)(l:List (aH×V))(ks:List Str),xs=[.ref d]/\H d=ae (.dK l)/\l.map (·.1)=ks.map (C6:Str->aH)/\ks.length < 64 /\
 ∀(D:Addr)(ys:List Str),ys.Perm ks->ys.Pairwise ⇑96->H D=af->Q (.ref D) (upd H D (.lst (ys.map V.str)))
theorem S7{vs:List (aH×Ag)}(h:KV l vs):vs.map (·.1)=l.map (·.1):=by
 unfold KV at h
 induction h with
 |nil=>rfl
 |cons r _ ih=>rw[Bc,Bc,ih,r.1]
theorem Ov(hh:X.A.handled=af):CallR X ⇑111 yx:=by
 sleep 11;obtain⟨d,l,ks,rfl,hd,hk,h64,q⟩:=h;sleep 18;cases(show u=A4 d from ru);obtain⟨z,hsys,vs',rel,hDict⟩:=I.hok d _ hd;obtain⟨ep,hat⟩:=hDict.dictAt;have hkeys:vs'.map (·.1)=ks.map (C6:Str->aH):=(S7 rel).trans hk;have hlen:vs'.length=ks.length:=by have:=congrArg D8 hkeys;simpa using this
 refine KS.sorted_of (R:=λvs s1=>∃(h':Heap)(tk:Nat),s1={ s with heap:=h',toks:=tk}/\⇑135/\iM vs ks)
  (kdu_collect (kdl_dict (knd:=fj X.prog X.w) (kvs:=vs') (ep:=ep) hsys) hh hat (by rw[hlen];exact fG ⋯) λh' tk acc hk' hI=>⟨h',tk,rfl,hk',?_⟩) ?_
 ·refine⟨by rw[B9,hI.1,hlen],λj v hj=>?_⟩;obtain⟨k,x,e1,e2⟩:=hI.2 j v (by simpa using hj);have hk1:(vs'.map (·.1))[j]?=ae k:=by rw[Am,e1];rfl
  rw[hkeys,Am]at hk1;cases eq:ks[j]? with
  |none=>rw[eq]at hk1;cases hk1
  |some k0=>
   rw[eq]at hk1;have hk2:(C6 k0:aH)=k:=Bb hk1;subst hk2;rcases iE (k:=C6 k0) (v:=v) (show kg (C6 k0) v=ah from e2)with⟨i,t,z,_⟩|⟨y,t,z,rfl⟩
   ·cases z
   ·cases z;exact⟨k0,t,rfl,rfl⟩
 rintro vs s1 ⟨h',tk,rfl,hkp,hT⟩
 have hl:=hT.1;refine⟨by rw[hl];exact fG ⋯,?_⟩;have hoL:(h'.push ⇑58).get? h'.objs.size=ae ⇑58:=Aw _ rfl;have hs':∀b o,s.heap.get? b=ae o->b≠h'.objs.size:=λb o e=>Bd (As (hkp b o e));have fin:∀(idx:List Nat)(h3:Heap)(c:Nat),idx.Perm (A5 ks.length)->(idx.map λi=>ks.getD i ⟨#[]⟩).Pairwise ⇑96->
   (∀b o,b≠h'.objs.size->(h'.push ⇑58).get? b=ae o->h3.get? b=ae o)->h3.get? h'.objs.size=ae (Ck "list" (C3 (idx.map λi=>vs.getD i Bi)) c)->EP X pins σ Q (.ref h'.objs.size) {s with heap:=h3,toks:=tk}:=λidx h3 c hp hw k3 hL=>by
  have I1:Inv X pins σ H {s with heap:=h',toks:=tk}:=I.kept hkp;have hn:H h'.objs.size=af:=I1.hok.fresh (Aq _);refine⟨.ref h'.objs.size,_,I1.laid (t':=tk) (h':=h3) (o:=.lst ((idx.map λi=>ks.getD i ⟨#[]⟩).map V.str)) (λb o e=>k3 b o (Bd (As e)) (Af _ e)) (Aq _) ⟨?_,_,c,vU hT idx (λi hi=>Cb.mp (hp.mem_iff.mp hi)),hL⟩,rfl,q _ _ (HV hp) hw hn⟩;rw[Aa,Aa,hp.length_eq,Eb];exact fG ⋯
 by_cases h2:2<=vs.length
 ·refine KS.ls_sort (s:={ s with heap:=h'.push ⇑58,toks:=tk}) hoL h2 ⋯ λe1 h4 ha4 k4=>?_;refine kas_kind (s:={ s with heap:=h4,toks:=tk}) (T:=Dv "str") h2 (λf hf=>?_) rfl rfl ?_
  ·obtain⟨j,hj⟩:=Bz.mp hf;obtain⟨k,t,_,rfl⟩:=hT.2 j f hj;exact .now
  ·have hn:0 < vs.length:=by omega
   have hwi:=KS.wi_sort hn;refine KS.wp_run (n:=vs.length) (P:=KS.Pm vs.length) (c:=KS.ltK ks) (St:=λs'=>s'={ s with heap:=h4,toks:=tk}) (λi j C s' hi hj hs hC=>?_) _ _ hwi rfl λs' hs'=>?_
   ·subst hs;obtain⟨k1,t1,a1,a2⟩:=hT.2 i vs[i] (Ae hi);obtain⟨k2,t2,b1,b2⟩:=hT.2 j vs[j] (Ae hj);unfold kas_ask;have g1:vs.getD i Bi=.str k1 t1:=by simp[hi,a2]
    have g2:vs.getD j Bi=.str k2 t2:=by simp[hj,b2]
    rw[g1,g2];have c1:ks.getD i ⟨#[]⟩=k1:=by simp[a1]
    have c2:ks.getD j ⟨#[]⟩=k2:=by simp[b1]
    have:=hC _ rfl;unfold KS.ltK at this;rw[c1,c2]at this;exact kas_lt_str this
   ·subst hs';refine⟨ha4,λh3 c sb hL3=>⟨rfl,?_⟩⟩;have hpm:KS.Pm vs.length (KS.run (KS.ltK ks) (kas_sort vs.length)):=KS.Wi.out _ hwi;have hsp:=KS.sort_ok (KS.ordK ks) (n:=vs.length) hn;have hsz:=hpm.size;have hidx:(KS.run (KS.ltK ks) (kas_sort vs.length)).toList.Perm (A5 vs.length):=by
     have:=He.mp hpm;simpa using this
    refine fin _ h3 c (by rw[<-hl];exact hidx) (xP hsz hsp) (λb o hb e=>(sb.2 b hb).trans (k4 b o hb e)) hL3
 ·refine KS.ls_short (s:={ s with heap:=h'.push ⇑58,toks:=tk}) hoL ⋯ λh4 c ha4 k4=>⟨rfl,?_⟩;have el:vs=(A5 ks.length).map λi=>vs.getD i Bi:=by
   apply F4 (by simp[hl]);intro i h1 h2;simp[h1]
  have ha5:h4.get? h'.objs.size=ae (Ck "list" (C3 ((A5 ks.length).map λi=>vs.getD i Bi)) c):=by rw[<-el];exact ha4
  refine fin (A5 ks.length) h4 c (List.Perm.refl _) ?_ k4 ha5;have:(A5 ks.length).length<=1:=by simp;omega
  match hr:A5 ks.length,this with
  |[],_=>exact .nil
  |[i],_=>exact Ea _ _
end L2
namespace L2
open PySem PySem.Spec PyProof.Rows
section
variable{prog:Bh}{w:Bt}{A:B1}{E:Ag->Ak->Prop}{s:Ak}
theorem tS(hit:s.heap.IsTupleIter it t i)(ht:s.heap.IsTuple t items)(hx:items[i]?=ae x)
  (hQ:∀h',h'.IsTupleIter it t (i+1)->C4 it s.heap h'->Q x {s with heap:=h'}):A1 ⇑13 A (C2 (.ref it)) Q E s:=by
 obtain⟨o,ho,hc,hd⟩:=id hit;obtain⟨ol,hol,_,nl,hdl⟩:=ht;unfold C2;refine Ab (By (name:=C7 "__next__") hit.typeIs F9
  (Ce F9 hit.typeIs F.entry_tuple_iterator_next ?_ (F.args_tuple_iterator_next_1 _)))
 show A1 _ _ (field (.ref it) 0>>=_) _ _ s;refine Ab (Dt ho hd (x:=.ref t) rfl ?_);show A1 _ _ (if (A4 t==Bi)=ah then _ else _) _ _ s;rw[if_neg (show ¬((A4 t==Bi)=ah)from Ai)];show A1 _ _ (field (.ref it) 1>>=_) _ _ s;refine Ab (Dt ho hd (x:=.int i 0) rfl ?_);show A1 _ _ (seqItems? (.ref t)>>=_) _ _ s;refine Ab (Dm hol hdl ?_);simp only[Br,hx];refine Ab (Dd ho hd (by simp) (Aj ⟨x,rfl,Aj (hQ _ ?_ (Bn ..))⟩));exact⟨_,Bw _ ho (Di (B8 hd _)),(Ey ..).trans hc,by
  rw[B8 hd];simp[Cu]⟩
theorem BG(hh:A.handled=af)(hit:s.heap.IsTupleIter it t i)(ht:s.heap.IsTuple t items)(hx:items[i]?=af)
  (hE:∀h' e,Heap.ExtBut it s.heap h'->(∃o,h'.get? e=ae o/\o.cls=.type "StopIteration")->E (.ref e) {s with heap:=h'}):
  A1 ⇑13 A (C2 (.ref it)) Q E s:=by
 obtain⟨o,ho,hc,hd⟩:=id hit;obtain⟨ol,hol,_,nl,hdl⟩:=ht;unfold C2;refine Ab (By (name:=C7 "__next__") hit.typeIs F9
  (Ce F9 hit.typeIs F.entry_tuple_iterator_next ?_ (F.args_tuple_iterator_next_1 _)))
 show A1 _ _ (field (.ref it) 0>>=_) _ _ s;refine Ab (Dt ho hd (x:=.ref t) rfl ?_);show A1 _ _ (if (A4 t==Bi)=ah then _ else _) _ _ s;rw[if_neg (show ¬((A4 t==Bi)=ah)from Ai)];show A1 _ _ (field (.ref it) 1>>=_) _ _ s;refine Ab (Dt ho hd (x:=.int i 0) rfl ?_);show A1 _ _ (seqItems? (.ref t)>>=_) _ _ s;refine Ab (Dm hol hdl ?_);simp only[Br,hx];refine Ab (G5 (Ab ⇑136));show A1 _ _ (newExc (.type "StopIteration") []>>=_) _ _ _;refine Ab ?_;simp only[newExc,newTuple];refine Ab (Bx ?_ ⇑97);refine Ab (m:=Eg _ _) (Ha (a:=Bi) ⇑144 ?_);refine Bx ?_ ⇑97;sleep 28
 first|rw[show A.in1.handled=af from hh]|rw[hh]
 refine Ab (Aj (wpAny_throw ?_));exact hE _ _ (((Bn ..).extBut.push _).push _) ⟨_,Aw _ rfl,rfl⟩
theorem T9{z TI TO i1 i2 l1 l2:Addr}{Q:Ag->Ak->Prop}(D:ZipApart z TI TO i1 i2 l1 l2)
  (hz:IsZip s.heap z TI TO .none) (hTI:Gc s.heap TI (.ref i1) (.ref i2)) (hTO:Gc s.heap TO a b)
  (h1:s.heap.IsTupleIter i1 l1 k) (h2:s.heap.IsTupleIter i2 l2 k) (hl1:s.heap.IsTuple l1 xs) (hl2:s.heap.IsTuple l2 ys) (hx:xs[k]?=ae x) (hy:ys[k]?=ae y)
  (hQ:∀h',IsZip h' z TI TO (Cu s.heap.objs.size)->Gc h' TO x y->h'.IsTupleIter i1 l1 (k+1)->h'.IsTupleIter i2 l2 (k+1)->Gc h' s.heap.objs.size x y->h'.objs.size=s.heap.objs.size+1->
   (∀c o,c≠z->c≠TO->c≠i1->c≠i2->s.heap.get? c=ae o->h'.get? c=ae o)->Q ⇑35 {s with heap:=h'}):
  A1 ⇑13 A (Ek.«zip.__next__» ⟨[.ref z],[]⟩) (λfin s'=>∃v,fin=.done (.ret v)/\Q v s') E s:=by
 show A1 _ _ (field (.ref z) 2>>=_) _ _ _;refine Ab (Dt hz rfl (x:=.bool ai) rfl ?_);show A1 _ _ (field (.ref z) 3>>=_) _ _ _;refine Ab (Dt hz rfl (x:=.ref TI) rfl ?_);refine Ab (Dm hTI rfl ?_);show A1 _ _ (D0 (.ref z)>>=_) _ _ _;refine Ab ?_;unfold D0;refine Ab (Dt hz rfl (x:=.none) rfl (Aj ?_));simp only[if_true];refine Ab (G5 ?_);refine Ab (Dt hz rfl (x:=.ref TO) rfl ?_);refine Ab (Gq hz (by simp) λg1 hz1 s1=>?_)
 replace hz1:IsZip g1 z TI TO .ellipsis:=hz1
 refine Ab ?_;simp only[List.zipIdx_cons,List.zipIdx_nil,List.forIn_cons,List.forIn_nil];refine Ab (Ab (wpAny_onRaise ?_));show A1 _ _ (C2 (.ref i1)>>=_) _ _ _;refine Ab (tS (h1.extBut s1.extBut D.i1z) (hl1.extBut s1.extBut D.l1z) hx λg2 t2 s2=>Aj ?_);have p2:Gc g2 TO a b:=s2.extBut _ _ D.TOi1 (s1.extBut _ _ D.TOz hTO);refine Ab (Dm p2 rfl ?_);refine Ab (wpAny_updateSeq_pair p2 λg3 p3 s3=>?_)
 replace p3:Gc g3 TO x b:=p3
 refine Ab (wpAny_letGo (Aj ?_));refine Ab (Ab (wpAny_onRaise ?_));show A1 _ _ (C2 (.ref i2)>>=_) _ _ _;refine Ab (tS (((h2.extBut s1.extBut D.i2z).extBut s2.extBut D.i12.symm).extBut s3.extBut D.TOi2.symm)
  (((hl2.extBut s1.extBut D.l2z).extBut s2.extBut D.l2i1).extBut s3.extBut D.l2TO) hy λg4 t4 s4=>Aj ?_)
 have p4:Gc g4 TO x b:=s4.extBut _ _ D.TOi2 p3;refine Ab (Dm p4 rfl ?_);refine Ab (wpAny_updateSeq_pair p4 λg5 p5 s5=>?_)
 replace p5:Gc g5 TO x y:=p5
 refine Ab (wpAny_letGo (Aj (Aj ?_)));refine Ab (Dm p5 rfl ?_);refine Ab (wpAny_newTuple ?_);have sz:g5.objs.size=s.heap.objs.size:=by rw[s5.1,s4.1,s3.1,s2.1,s1.1]
 have z5:IsZip g5 z TI TO .ellipsis:=s5.extBut _ _ D.TOz.symm (s4.extBut _ _ D.i2z.symm (s3.extBut _ _ D.TOz.symm (s2.extBut _ _ D.i1z.symm hz1)));have k5:∀c o,c≠z->c≠TO->c≠i1->c≠i2->s.heap.get? c=ae o->g5.get? c=ae o:=λc o c1 c2 c3 c4 e=>
  s5.extBut _ _ c2 (s4.extBut _ _ c4 (s3.extBut _ _ c2 (s2.extBut _ _ c3 (s1.extBut _ _ c1 e))))
 have u1:g5.IsTupleIter i1 l1 (k+1):=((t2.extBut s3.extBut D.TOi1.symm).extBut s4.extBut D.i12).extBut s5.extBut D.TOi1.symm;have u2:g5.IsTupleIter i2 l2 (k+1):=t4.extBut s5.extBut D.TOi2.symm;have zlt:z < g5.objs.size:=As z5;show A1 _ _ (Hi (.ref z) (.ref g5.objs.size)>>=_) _ _ _;refine Ab ?_;unfold Hi;have z6:IsZip (g5.push {cls:=.type "tuple",data:=.seq #[x,y]}) z TI TO .ellipsis:=Af _ z5;refine Ab (Gq z6 (by simp) λg7 z7 s7=>?_)
 replace z7:IsZip g7 z TI TO (Cu g5.objs.size):=z7
 refine Gq z7 (by simp) λg8 z8 s8=>?_
 replace z8:IsZip g8 z TI TO (Cu g5.objs.size):=z8
 have up:∀c o,c≠z->g5.get? c=ae o->g8.get? c=ae o:=λc o c1 e=>s8.extBut _ _ c1 (s7.extBut _ _ c1 (Af _ e));have T8:Gc g8 g5.objs.size x y:=s8.extBut _ _ (Em zlt) (s7.extBut _ _ (Em zlt) (Aw _ rfl));have e8:g8.objs.size=g5.objs.size+1:=by rw[s8.1,s7.1,Ci]
 rw[sz]at z8 T8 e8;refine Aj ⟨_,rfl,?_⟩;show Q (.ref g5.objs.size) _;rw[sz];exact hQ g8 z8 (up _ _ D.TOz p5) (u1.at λo e=>up _ o D.i1z e) (u2.at λo e=>up _ o D.i2z e) T8 e8 λc o c1 c2 c3 c4 e=>up c o c1 (k5 c o c1 c2 c3 c4 e)
theorem P1{z TI TO i1 i2 l1 l2:Addr}(hh:A.handled=af)(D:ZipApart z TI TO i1 i2 l1 l2)
  (hz:IsZip s.heap z TI TO .none) (hTI:Gc s.heap TI (.ref i1) (.ref i2)) (h1:s.heap.IsTupleIter i1 l1 k) (hl1:s.heap.IsTuple l1 xs) (hx:xs[k]?=af)
  (hE:∀h' e,(∀c o,c≠z->c≠i1->s.heap.get? c=ae o->h'.get? c=ae o)->(∃o,h'.get? e=ae o/\o.cls=.type "StopIteration")->E (.ref e) {s with heap:=h'}):
  A1 ⇑13 A (Ek.«zip.__next__» ⟨[.ref z],[]⟩) Q E s:=by
 show A1 _ _ (field (.ref z) 2>>=_) _ _ _;refine Ab (Dt hz rfl (x:=.bool ai) rfl ?_);show A1 _ _ (field (.ref z) 3>>=_) _ _ _;refine Ab (Dt hz rfl (x:=.ref TI) rfl ?_);refine Ab (Dm hTI rfl ?_);show A1 _ _ (D0 (.ref z)>>=_) _ _ _;refine Ab ?_;unfold D0;refine Ab (Dt hz rfl (x:=.none) rfl (Aj ?_));simp only[if_true];refine Ab (G5 ?_);refine Ab (Dt hz rfl (x:=.ref TO) rfl ?_);refine Ab (Gq hz (by simp) λg1 hz1 s1=>?_)
 replace hz1:IsZip g1 z TI TO .ellipsis:=hz1
 refine Ab ?_;simp only[List.zipIdx_cons,List.zipIdx_nil,List.forIn_cons,List.forIn_nil];refine Ab (Ab (wpAny_onRaise ?_));show A1 _ _ (C2 (.ref i1)>>=_) _ _ _;refine Ab (BG hh (h1.extBut s1.extBut D.i1z) (hl1.extBut s1.extBut D.l1z) hx λg2 e s2 he=>?_);obtain⟨oe,hoe,hce⟩:=he;have z2:IsZip g2 z TI TO .ellipsis:=s2 _ _ D.i1z.symm hz1;have hez:e≠z:=λx=>by subst x;rw[z2]at hoe;cases hoe;simp at hce
 refine Gq z2 (by simp) λg3 _ s3=>hE g3 e (λc o c1 c3 x=>s3.extBut _ _ c1 (s2 _ _ c3 (s1.extBut _ _ c1 x))) ⟨oe,s3.extBut _ _ hez hoe,hce⟩
theorem Nr{z TI TO i1 i2 l1 l2:Addr}(D:ZipApart z TI TO i1 i2 l1 l2)
  (hz:IsZip s.heap z TI TO .none) (hTI:Gc s.heap TI (.ref i1) (.ref i2)) (hTO:Gc s.heap TO a b)
  (h1:s.heap.IsTupleIter i1 l1 k) (h2:s.heap.IsTupleIter i2 l2 k) (hl1:s.heap.IsTuple l1 xs) (hl2:s.heap.IsTuple l2 ys) (hx:xs[k]?=ae x) (hy:ys[k]?=ae y)
  (hQ:∀h',IsZip h' z TI TO (Cu s.heap.objs.size)->Gc h' TO x y->h'.IsTupleIter i1 l1 (k+1)->h'.IsTupleIter i2 l2 (k+1)->Gc h' s.heap.objs.size x y->h'.objs.size=s.heap.objs.size+1->
   (∀c o,c≠z->c≠TO->c≠i1->c≠i2->s.heap.get? c=ae o->h'.get? c=ae o)->Q (ae ⇑35) {s with heap:=h'}):
  A1 ⇑13 A (Eu (.ref z)) Q E s:=by
 have hT:s.TypeIs (.ref z) "zip":=⟨_,hz,rfl⟩;unfold Eu;exact Ab (E9 (By (name:=C7 "__next__") hT F.slot_zip_next
  (Ce F.slot_zip_next hT F.entry_zip_next
   (T9 D hz hTI hTO h1 h2 hl1 hl2 hx hy λh' a1 a2 a3 a4 a5 a6 a7=>Aj (hQ h' a1 a2 a3 a4 a5 a6 a7)) (F.args_zip_next_1 _))))
theorem OY{z TI TO i1 i2 l1 l2:Addr}(hh:A.handled=af)(D:ZipApart z TI TO i1 i2 l1 l2)
  (hz:IsZip s.heap z TI TO .none) (hTI:Gc s.heap TI (.ref i1) (.ref i2)) (h1:s.heap.IsTupleIter i1 l1 k) (hl1:s.heap.IsTuple l1 xs) (hx:xs[k]?=af)
  (hQ:∀h',(∀c o,c≠z->c≠i1->s.heap.get? c=ae o->h'.get? c=ae o)->Q af {s with heap:=h'}):A1 ⇑13 A (Eu (.ref z)) Q E s:=by
 have hT:s.TypeIs (.ref z) "zip":=⟨_,hz,rfl⟩;unfold Eu;refine Ab (E9 (By (name:=C7 "__next__") hT F.slot_zip_next
  (Ce F.slot_zip_next hT F.entry_zip_next (P1 hh D hz hTI h1 hl1 hx λh' e hk he=>?_) (F.args_zip_next_1 _))))
 obtain⟨o,ho,hc⟩:=he;refine Ab (Er (T:="StopIteration") (b:=ah) ⟨o,ho,hc⟩ isSubtype_stop ?_);exact Aj (hQ _ hk)
end
abbrev qW(h:Heap)(l1:Addr):Heap:=h.push {cls:=.type "tuple_iterator",data:=.fields #[.ref l1,.int 0 0]}
abbrev rz(h:Heap)(l1 l2:Addr):Heap:=(qW h l1).push {cls:=.type "tuple_iterator",data:=.fields #[.ref l2,.int 0 0]}
abbrev rN(h:Heap)(l1 l2:Addr):Heap:=(rz h l1 l2).push {cls:=.type "tuple",data:=.seq #[.ref h.objs.size,.ref (qW h l1).objs.size]}
abbrev rm(h:Heap)(l1 l2:Addr):Heap:=(rN h l1 l2).push {cls:=.type "tuple",data:=.seq #[.none,.none]}
abbrev ma(h:Heap)(l1 l2:Addr):Heap:=(rm h l1 l2).push {cls:=.type "zip",data:=.fields #[.none,.bool ai,.bool ai,.ref (rz h l1 l2).objs.size,.ref (rN h l1 l2).objs.size]}
theorem SD(l1 l2)(xs ys):
  Meets (Ek.«zip.__new__» ⟨[.type "zip",.ref l1,.ref l2],[]⟩) (λ_ R s=>s.heap.IsTuple l1 xs/\s.heap.IsTuple l2 ys /\
   R (.ok (.ret (.ref (rm s.heap l1 l2).objs.size))) {s with heap:=ma s.heap l1 l2}):=
 .of_wp λprog w A R s h=>by
  obtain⟨hp,g,d,tk,os⟩:=s;obtain⟨hl1,hl2,h⟩:=h;have hsub:=sub_zip;have hL1:Heap.IsTuple (Shared.heap ⟨hp,g,d,tk,os⟩) l1 xs:=hl1;have hL2:Heap.IsTuple (Shared.heap ⟨hp.push {cls:=.type "tuple_iterator",data:=.fields #[.ref l1,.int 0 0]},g,d,tk,os⟩) l2 ys:=Heap.IsTuple.push hl2 _
  wp_walk using D9 hL1,D9 hL2
  exact⟨_,rfl,h⟩
section
variable{prog:Bh}{w:Bt}{A:B1}{E:Ag->Ak->Prop}{s:Ak}
theorem Tv(hl1:s.heap.IsTuple l1 xs)(hl2:s.heap.IsTuple l2 ys)
  (h:∀h',IsZip h' (s.heap.objs.size+4) (s.heap.objs.size+2) (s.heap.objs.size+3) .none->Gc h' (s.heap.objs.size+2) ⇑35 (.ref (s.heap.objs.size+1))->
   Gc h' (s.heap.objs.size+3) .none .none->h'.IsTupleIter s.heap.objs.size l1 0->h'.IsTupleIter (s.heap.objs.size+1) l2 0->
   (∀c o,s.heap.get? c=ae o->h'.get? c=ae o)->Q (.ref (s.heap.objs.size+4)) {s with heap:=h'}):
  A1 ⇑13 A (call (.type "zip") [.ref l1,.ref l2]) Q E s:=by
 refine callType_new F.called_zip ∎ (F.typeCall_zip_2 _ _) (F.newCall_zip_2 _ _) (λobj=>F.args_object_init_3 obj _ _) F.entry_zip_new
  (SD l1 l2 xs ys) ⟨hl1,hl2,?_⟩
 have z1:(qW s.heap l1).objs.size=s.heap.objs.size+1:=Ci ..;have z2:(rz s.heap l1 l2).objs.size=s.heap.objs.size+2:=by rw[Ci,z1]
 have z3:(rN s.heap l1 l2).objs.size=s.heap.objs.size+3:=by rw[Ci,z2]
 have z4:(rm s.heap l1 l2).objs.size=s.heap.objs.size+4:=by rw[Ci,z3]
 have g5:(ma s.heap l1 l2).get? (rm s.heap l1 l2).objs.size=ae _:=Aw _ rfl;have g4:(ma s.heap l1 l2).get? (rN s.heap l1 l2).objs.size=ae _:=Af _ (Aw _ rfl);have g3:(ma s.heap l1 l2).get? (rz s.heap l1 l2).objs.size=ae _:=Af _ (Af _ (Aw _ rfl));have g2:(ma s.heap l1 l2).get? (qW s.heap l1).objs.size=ae _:=Af _ (Af _ (Af _ (Aw _ rfl)));have g1:(ma s.heap l1 l2).get? s.heap.objs.size=ae _:=Af _ (Af _ (Af _ (Af _ (Aw _ rfl))));show _/\_;rw[z2,z3,z4]at g5;rw[z1,z2]at g3;rw[z3]at g4;rw[z1]at g2;rw[z4];exact⟨⟨_,g5,rfl⟩,h _ g5 g3 g4 ⟨_,g1,rfl,rfl⟩ ⟨_,g2,rfl,rfl⟩ λc o x=>
  Af _ (Af _ (Af _ (Af _ (Af _ x))))⟩
end
def EY(K:Ah)(a b:Addr):It:=
 ⟨λi H=>∃xs ys x y,SqT K H a xs/\SqT K H b ys/\xs[i]?=ae x/\ys[i]?=ae y,
  λi H v H'=>∃T x y,v=.ref T/\H T=af/\H'=upd H T (.tup [x,y])/\(∀xs,SqT K H a xs->xs[i]?=ae x)/\∀ys,SqT K H b ys->ys[i]?=ae y,
  λi H=>∃xs,SqT K H a xs/\xs.length<=i⟩
theorem Inv.many{σ:St}{s:Ak}{h':Heap}{fp:List Addr}{a:Addr}(I:Inv X pins σ H s)(hf:∀b∈fp,cZ X pins H b)(k:∀b u,b∉fp->s.heap.get? b=ae u->h'.get? b=ae u)
  (ha:s.heap.objs.size<=a) (new:ObjOk X.prog X.w ⇑76 h' a o):Inv X pins σ ⇑76 {s with heap:=h',toks:=t'}:=by
 have hn:H a=af:=I.hok.fresh ha;have nf:∀b u,H b=ae u->b∉fp:=λb u e z=>by rw[(hf b z).1]at e;cases e
 refine I.call' (s':={ s with heap:=h',toks:=t'}) (ch:=fp) rfl ⟨λb u q _ _ z=>k b u z q,λb u q _ _ z=>⟨u.slots,k b u z q⟩,λb u q n _=>?_,λb u q z=>⟨u,k b u z q⟩,λb xs q=>?_,λb u xs q=>?_,λb ps q=>⟨#[],?_⟩⟩ (λb u e=>?_) I.bare (λb hb=>?_)
 ·rw[aN (Bd (Bq (As q) ha))];exact n
 ·rw[aN (bY q hn)];exact q
 ·rw[aN (bY q hn)];exact q
 ·rw[aN (bY q hn),q];simp
 ·by_cases z:b=a
  ·subst z;rw[bH]at e;cases e;exact new
  ·rw[aN z]at e;refine(I.hok b u e).stay (λc v hc q=>k c v ?_ q) (λc q=>?_) λc ys q=>?_
   ·rcases hc with z|z
    ·rw[z];exact nf b u e
    ·exact nf c _ z
   ·rw[aN (bY q hn)];exact q
   ·rw[aN (bY q hn)];exact q
 ·obtain⟨f0,f1,f2,f3,f4,f5⟩:=hf b hb;exact⟨f3,f1,f4,f5⟩
theorem Inv.many0{σ:St}{fp:List Addr}(I:Inv X pins σ H s)(hf:∀b∈fp,cZ X pins H b)(k:∀b u,b∉fp->s.heap.get? b=ae u->h'.get? b=ae u):Inv X pins σ H {s with heap:=h',toks:=t'}:=by
 have nf:∀b u,H b=ae u->b∉fp:=λb u e z=>by rw[(hf b z).1]at e;cases e
 refine I.call' (s':={ s with heap:=h',toks:=t'}) (ch:=fp) rfl ⟨λb u q _ _ z=>k b u z q,λb u q _ _ z=>⟨u.slots,k b u z q⟩,λb u q n _=>n,λb u q z=>⟨u,k b u z q⟩,λb xs q=>q,λb u xs q=>q,λb ps q=>⟨#[],by rw[q];simp⟩⟩ (λb u e=>?_) I.bare (λb hb=>?_)
 ·refine(I.hok b u e).stay (λc v hc q=>k c v ?_ q) (λc q=>q) λc ys q=>q;rcases hc with z|z
  ·rw[z];exact nf b u e
  ·exact nf c _ z
 ·obtain⟨f0,f1,f2,f3,f4,f5⟩:=hf b hb;exact⟨f3,f1,f4,f5⟩
theorem NJ{K:Ah}{a b z TI TO i1 i2:Addr}(D:ZipApart z TI TO i1 i2 a b):Turn P w K (.Tuple elts kk pos) (EY K a b) [z,TI,TO,i1,i2] z
  (λi h=>IsZip h z TI TO .none/\Gc h TI (.ref i1) (.ref i2)/\(∃x y,Gc h TO x y)/\h.IsTupleIter i1 a i/\h.IsTupleIter i2 b i) where
 mem:=by simp
 obj:=λi h st c hc=>by
  obtain⟨hz,hI,⟨x,y,hO⟩,⟨o1,e1,c1,d1⟩,⟨o2,e2,c2,d2⟩⟩:=st;simp only[Ax,A8,or_false]at hc;rcases hc with rfl|rfl|rfl|rfl|rfl
  ·exact⟨_,hz,λv q=>by have q':Data.fields _=Data.cell v:=q;cases q'⟩
  ·exact⟨_,hI,λv q=>by have q':Data.seq _ _=Data.cell v:=q;cases q'⟩
  ·exact⟨_,hO,λv q=>by have q':Data.seq _ _=Data.cell v:=q;cases q'⟩
  ·exact⟨o1,e1,λv q=>by rw[d1]at q;cases q⟩
  ·exact⟨o2,e2,λv q=>by rw[d2]at q;cases q⟩
 keep:=λi h h' st k=>by
  obtain⟨hz,hI,⟨x,y,hO⟩,h1,h2⟩:=st;exact⟨k z (by simp) _ hz,k TI (by simp) _ hI,⟨x,y,k TO (by simp) _ hO⟩,h1.at λo e=>k i1 (by simp) o e,h2.at λo e=>k i2 (by simp) o e⟩
 item:=by
  sleep 17;obtain⟨hz,hI,⟨x0,y0,hO⟩,h1,h2⟩:=st;obtain⟨xs,ys,x,y,qa,qb,ex,ey⟩:=hg;obtain⟨its,rv,p,_⟩:=I.tuple qa;obtain⟨jts,rw',p',_⟩:=I.tuple qb;obtain⟨u,hu,ru⟩:=rv.get ex;obtain⟨u',hu',ru'⟩:=rw'.get ey;refine Nr D hz hI hO h1 h2 ⇑139 (show s.heap.IsTuple b jts.toArray from p') (x:=u) (y:=u') (by simpa using hu) (by simpa using hu') λh' a1 a2 a3 a4 a5 a6 a7=>⟨_,rfl,?_⟩;refine wpAny_letOwnedTupleGo_zip (s:={ s with heap:=h'}) a1 λh'' b1 b2=>?_;have T:h''.get? s.heap.objs.size=ae {cls:=.type "tuple",data:=.seq #[u,u']}:=b2.extBut _ _ (Em (As hz)) a5;have Tn:H s.heap.objs.size=af:=I.hok.fresh (Aq _);have kp:∀c o,c∉[z,TI,TO,i1,i2]->s.heap.get? c=ae o->h''.get? c=ae o:=λc o hc e=>by
   simp only[Ax,A8,or_false,not_or]at hc;exact b2.extBut _ _ hc.1 (a7 c o hc.1 hc.2.2.1 hc.2.2.2.1 hc.2.2.2.2 e)
  refine⟨.ref s.heap.objs.size,upd H s.heap.objs.size (.tup [x,y]),I.many (t':=s.toks) hf kp (Aq _) ⟨by show 2<=Az;decide,[u,u'],.cons ru (.cons ru' .nil),_,T,rfl,⟨_,rfl⟩,rfl⟩,rfl,⟨_,x,y,rfl,Tn,rfl,λzs q=>by rw[I.tuple_inj q qa];exact ex,λzs q=>by rw[I.tuple_inj q qb];exact ey⟩,
   ⟨b1,b2.extBut _ _ D.TIz (a7 _ _ D.TIz D.TITO D.TIi1 D.TIi2 hI),⟨_,_,b2.extBut _ _ D.TOz a2⟩,a3.extBut b2.extBut D.i1z,a4.extBut b2.extBut D.i2z⟩,λc hc=>?_⟩
  have hlt:c < s.heap.objs.size:=by
   simp only[Ax,A8,or_false]at hc;rcases hc with rfl|rfl|rfl|rfl|rfl
   ·exact As hz
   ·exact As hI
   ·exact As hO
   ·obtain⟨_,e,_⟩:=h1;exact As e
   ·obtain⟨_,e,_⟩:=h2;exact As e
  rw[aN (Bd hlt)];exact(hf c hc).1
 done:=by
  sleep 17;obtain⟨hz,hI,_,h1,h2⟩:=st;obtain⟨xs,hq,hx⟩:=hg;obtain⟨its,rv,p,_⟩:=I.tuple hq;have hl:=rv.length;refine OY (I.ok.hd hc) D hz hI h1 ⇑139 (by simp;omega) λh' k=>⟨rfl,I.many0 (t':=s.toks) hf λc o hc e=>?_⟩;simp only[Ax,A8,or_false,not_or]at hc;exact k c o hc.1 hc.2.2.2.1 e
 self:=λ_ _ _ _ _ st h=>wpAny_pyIter_zip st.1 h
def nG(K:Ah)(ta:TA):TI:=λσ H R=>ta σ H λvs H1=>∃a b,vs=[.ref a,.ref b]/\(∃xs,SqT K H1 a xs)/\(∃ys,SqT K H1 b ys)/\R (EY K a b) H1
theorem Rg:Bv "zip"=ae (.type "zip"):=by sleep 5
theorem Lk{elts:List Expr}{kk:Nat}{tpos:Pos}{p pos:Pos}(hg:Gl X "zip")(hm:X.mg "zip"=af)(ha:PA X [e1,e2] ta)(hs:Av [e1,e2] X.env=[(ai,eval e1 X.env),(ai,eval e2 X.env)]:=by rfl)(hs2:Av [e2] X.env=[(ai,eval e2 X.env)]:=by rfl):
  PI X (.Tuple elts kk tpos) (.Call (.Name "zip" p) [e1,e2] [] pos) (nG X.K ta):=by
 intro pins s σ H R I h;refine Call_ (kH I hg hm Rg (Dh (aP ⇑132 λus s1 ⟨vs,H1,I1,r1,q1⟩=>?_) (by rw[hs,hs2]) (by rw[hs2];rfl)));obtain⟨a,b,e,⟨xs,qa⟩,⟨ys,qb⟩,q⟩:=q1;subst e;cases r1 with
 |cons r rr=>
  cases rr with
  |cons r' rr=>
   cases rr;cases r;cases r';obtain⟨its,rv,pp,_⟩:=I1.tuple qa;obtain⟨jts,rw',pp',_⟩:=I1.tuple qb;have la:a < s1.heap.objs.size:=by obtain⟨_,e,_⟩:=id pp;exact As e
   have lb:b < s1.heap.objs.size:=by obtain⟨_,e,_⟩:=id pp';exact As e
   refine Tv (show s1.heap.IsTuple a its.toArray from pp) (show s1.heap.IsTuple b jts.toArray from pp') λh' a1 a2 a3 a4 a5 a6=>wpAny_pyIter_zip (s:={ s1 with heap:=h'}) a1 ?_;refine⟨_,_,_,_,H1,rfl,I1.kept (t':=s1.toks) a6,NJ (zipApart_new la lb),⟨a1,a2,⟨_,_,a3⟩,a4,a5⟩,λc hc=>?_,q⟩;have hlt:s1.heap.objs.size<=c:=by
    simp only[Ax,A8,or_false]at hc;rcases hc with rfl|rfl|rfl|rfl|rfl<;>omega
   exact I1.fpOk hlt (I1.hok.fresh hlt)
end L2
namespace DL
open PySem L2 Nb
def bZ(kvs:List (aH×Ad))(k:aH):Option Ad:=(kvs.find? λkv=>decide (kv.1=k)).map (·.2)
def fk(kvs:List (aH×Ad))(k:aH)(v:Ad):List (aH×Ad):=
 if ⇑141=ah then kvs.map (λkv=>if kv.1=k then(kv.1,v)else kv)else kvs++[(k,v)]
def mX(kvs more:List (aH×Ad)):List (aH×Ad):=more.foldl (λacc kv=>fk acc kv.1 kv.2) kvs
section
variable{H H':Hp}{B B':Addr->Prop}{l:List (aH×V)}{m:List (aH×Ad)}{v:V}{d:Ad}{t:Addr}
theorem RdK.len(h:RdK H B l m):l.length=m.length:=by
 unfold RdK at h
 induction h with
 |nil=>rfl
 |cons _ _ ih=>rw[Ay,Ay,ih]
theorem RdK.val(h:RdK H B l m)(k):(cb l k=af/\bZ m k=af)\/∃v d,cb l k=ae v/\bZ m k=ae d/\RdX H B v d:=by
 unfold RdK at h
 induction h with
 |nil=>exact .inl ⟨rfl,rfl⟩
 |@cons p q ps qs r _ ih=>
  by_cases e:p.1=k
  ·have e':q.1=k:=r.1▸e;exact .inr ⟨p.2,q.2,by simp[cb,Bg,e],by simp[bZ,Bg,e'],r.2⟩
  ·have e':¬q.1=k:=r.1▸e;have a1:cb (p::ps) k=cb ps k:=by simp[cb,Bg,e]
   have a2:bZ (q::qs) k=bZ qs k:=by simp[bZ,Bg,e']
   rw[a1,a2];exact ih
theorem RdK.any(h:RdK H B l m)(k):(l.any λkv=>decide (kv.1=k))=(m.any λkv=>decide (kv.1=k)):=by
 unfold RdK at h
 induction h with
 |nil=>rfl
 |cons r _ ih=>rw[Cm,Cm,ih,r.1]
theorem RdK.map(h:RdK H B l m)(r:RdX H B v d)(k):RdK H B (l.map λkv=>if kv.1=k then(kv.1,v)else kv) (m.map λkv=>if kv.1=k then(kv.1,d)else kv):=by
 unfold RdK at h ⊢
 induction h with
 |nil=>exact .nil
 |@cons p q ps qs r' _ ih=>
  rw[Bc,Bc];refine .cons ?_ ih;by_cases e:p.1=k
  ·rw[if_pos e,if_pos (r'.1▸e:q.1=k)];exact⟨r'.1,r⟩
  ·rw[if_neg e,if_neg (r'.1▸e:¬q.1=k)];exact r'
theorem RdK.append(h:RdK H B l m)(h2:RdK H B l2 m2):RdK H B (l++l2) (m++m2):=by
 unfold RdK at h ⊢
 induction h with
 |nil=>exact h2
 |cons r' _ ih=>exact .cons r' ih
theorem RdK.put(h:RdK H B l m)(r:RdX H B v d)(k):RdK H B (b6 l k v) (fk m k d):=by
 unfold b6 fk;rw[h.any k]
 split
 ·exact h.map r k
 ·exact h.append (.cons ⟨rfl,r⟩ .nil)
theorem RdK.merge(h2:RdK H B l2 m2):∀{l:List (aH×V)}{m:List (aH×Ad)},RdK H B l m->RdK H B (lI l l2) (mX m m2):=by
 unfold RdK at h2
 induction h2 with
 |nil=>intro l m h;exact h
 |@cons p q ps qs r _ ih=>
  intro l m h;show RdK H B (lI (b6 l p.1 p.2) ps) (mX (fk m q.1 q.2) qs);rw[r.1];exact ih (h.put r.2 _)
theorem BX(l:List (aH×V))(k)(v):(b6 l k v).length<=l.length+1:=by
 unfold b6
 split
 ·rw[Aa];omega
 ·rw[An];exact Aq _
theorem SX(l2:List (aH×V)):∀l:List (aH×V),(lI l l2).length<=l.length+l2.length:=by
 induction l2 with
 |nil=>intro l;exact Aq _
 |cons p r ih=>
  intro l;show(lI (b6 l p.1 p.2) r).length<=_;have:=ih (b6 l p.1 p.2);have:=BX l p.1 p.2;rw[Ay];omega
end
section
variable{X:Cx}{a b c e o i f:Expr}{ta tb te td ty tx:TE}{wa wb we wd' wy wx:DT}{pos p:Pos}{K:Ah}
def dG(i:Nat):DT:=λδ n Q=>match δ[i]? with
 |some (ae (.odk kvs))=>Q (.dk kvs) n
 |some (ae (.w x))=>Q x n
 |_=>False
theorem RF(i)(hN:X.N[i]?=ae x:=by rfl)(hv:fC X.env.scope x:=by first|exact Cs rfl|exact Ca (Cs rfl)|exact Ca (Ca rfl))(hd:⇑21=ai:=by decide)
  (hcd:⇑46=ai:=by decide):DE X (.Name x p) (aM i) (dG i):=⟨gh hN hv hd hcd,λC H B σ δ n Q Q' R h k=>by
 unfold dG at h
 split at h
 ·rename_i kvs e;obtain⟨v,h1,a,l,rfl,g2,g3,g4,g5,g6⟩:=R.sl i _ e;exact⟨_,h1,k _ (.dk kvs) H n R ⇑19 ⟨a,l,rfl,g2,λz=>R.t0 (z▸g4),g6⟩ h⟩
 ·rename_i x e;obtain⟨v,h1,h2⟩:=R.sl i _ e;exact⟨v,h1,k v x H n R ⇑19 h2.1 h⟩
 ·exact h.elim⟩
def gi:Wv->Wv->Int->DQ->Prop:=λx y n Q=>match x,y with
 |.dk kvs,.d (.str k)=>match bZ kvs (.inr k)with
  |some d=>Q (.d d) n
  |none=>False
 |_,_=>False
theorem Pn(hu:X.A.units+64 < Du)(ho:DE X o td wd')(hi:DE X i ty wy)(hs:iL i:=by exact λ_ _=>rfl):DE X (.Subscript o i pos) (yf td ty) (w2 wd' wy gi):=⟨KD ⋯ ho.pe hi.pe hs,λC H B σ δ n Q Q' R h k=>
 ho.sd C H B σ δ n _ _ R h λv x H1 n1 R1 k1 r1 q1=>hi.sd C H1 B σ δ n1 _ _ R1 q1 λu y H2 n2 R2 k2 r2 q2=>by
  have r1':=r1.kp k2 R1.bt;unfold gi at q2
  split at q2
  ·rename_i kvs key;obtain⟨a,l,rfl,g1,g2,g3⟩:=r1';cases(show RdX H2 B u (.str key)from r2);rcases g3.val (.inr key)with⟨e1,e2⟩|⟨v,d,e1,e2,e3⟩
   ·rw[e2]at q2;exact q2.elim
   ·rw[e2]at q2;exact⟨a,v,rfl,.inl ⟨l,.inr key,.inl g1,rfl,e1.symm⟩,k v (.d d) H2 n2 R2 ⇑64 e3 q2⟩
  ·exact q2.elim⟩
def fe(neg:Bool):Wv->Wv->Int->DQ->Prop:=λx y n Q=>match x,y with
 |.d (.str k),.dk kvs=>Q (.d (.bool (if neg then !(bZ kvs (.inr k)).isSome else(bZ kvs (.inr k)).isSome))) n
 |_,_=>False
theorem Qf(hi:DE X i ty wy)(ho:DE X o td wd'):eF (lJ ty td) (w2 wy wd' (fe ai)):=λC H B σ δ n Q Q' R h k=>
 hi.sd C H B σ δ n _ _ R h λv x H1 n1 R1 k1 r1 q1=>ho.sd C H1 B σ δ n1 _ _ R1 q1 λu y H2 n2 R2 k2 r2 q2=>by
  have r1':=r1.kp k2 R1.bt;unfold fe at q2
  split at q2
  ·rename_i key kvs;obtain⟨a,l,rfl,g1,g2,g3⟩:=r2;cases(show RdX H2 B v (.str key)from r1');refine⟨a,cb l (.inr key),rfl,.inl ⟨l,.inr key,.inl g1,rfl,rfl⟩,k _ _ H2 n2 R2 ⇑64 ⇑44 ?_⟩;rcases g3.val (.inr key)with⟨e1,e2⟩|⟨v,d,e1,e2,e3⟩
   ·rw[e1];rw[e2]at q2;exact q2
   ·rw[e1];rw[e2]at q2;exact q2
  ·exact q2.elim
theorem TM(hi:DE X i ty wy)(ho:DE X o td wd'):eF (nz ty td) (w2 wy wd' (fe ah)):=λC H B σ δ n Q Q' R h k=>
 hi.sd C H B σ δ n _ _ R h λv x H1 n1 R1 k1 r1 q1=>ho.sd C H1 B σ δ n1 _ _ R1 q1 λu y H2 n2 R2 k2 r2 q2=>by
  have r1':=r1.kp k2 R1.bt;unfold fe at q2
  split at q2
  ·rename_i key kvs;obtain⟨a,l,rfl,g1,g2,g3⟩:=r2;cases(show RdX H2 B v (.str key)from r1');refine⟨a,cb l (.inr key),rfl,.inl ⟨l,.inr key,.inl g1,rfl,rfl⟩,k _ _ H2 n2 R2 ⇑64 ⇑44 ?_⟩;rcases g3.val (.inr key)with⟨e1,e2⟩|⟨v,d,e1,e2,e3⟩
   ·rw[e1];rw[e2]at q2;exact q2
   ·rw[e1];rw[e2]at q2;exact q2
  ·exact q2.elim
theorem NW(hu:X.A.units+64 < Du)(hi:DE X i ty wy)(ho:DE X o td wd')(hm:Ct .In o=ai:=by with_unfolding_all rfl):DE X (.Compare i [.In] [o] pos) (lJ ty td) (w2 wy wd' (fe ai)):=⟨EL (QT ⋯ hi.pe ho.pe) hm,Qf hi ho⟩
theorem TF(hu:X.A.units+64 < Du)(hi:DE X i ty wy)(ho:DE X o td wd')(hm:Ct .NotIn o=ai:=by with_unfolding_all rfl):DE X (.Compare i [.NotIn] [o] pos) (nz ty td) (w2 wy wd' (fe ah)):=⟨EL (ET ⋯ hi.pe ho.pe) hm,TM hi ho⟩
abbrev kz:=Sl->Int->(List (aH×Ad)->Int->Prop)->Prop
def uA(t:TE)(w:kz):Prop:=∀(C:Ctx)(H:Hp)(B:Addr->Prop)(σ:St)(δ:Sl)(n:Int)(Q:List (aH×Ad)->Int->Prop)(Q':VK),Rel C H B σ δ n->w δ n Q->
 (∀a l kvs H' n',Rel C H' B σ δ n'->Kp C.t H H'->H a=af->H' a=ae (.dK l)->l.length<=1000->RdK H' ⇑93 l kvs->Q kvs n'->Q' (.ref a) H')->t σ H Q'
structure DN(X:Cx)(e:Expr)(t:TE)(w:kz):Prop where
 pe:PE X e t
 sd:uA t w
def lP:kz:=λ_ n Q=>Q [] n
theorem Og:DN X (.Dict [] [] pos) AZ lP:=⟨ML,λC H B σ δ n Q Q' R q k=>λa ha=>k a [] [] _ n (R.new ha) (Kp.new ha) ha bH (A6 _) .nil q⟩
def lK:List Ad->Option (List (aH×Ad))
 |[]=>ae []
 |.tuple [.str k,d]::r=>(lK r).map ((.inr k,d)::·)
 |_=>af
theorem HL:∀{xs:List V}{ds:List Ad}{ps:List (aH×Ad)},RdXs H B xs ds->lK ds=ae ps->∃qs:List (Addr×aH×V),xs=qs.map (λp=>V.ref p.1)/\(∀p∈qs,H p.1=ae (.tup [kV p.2.1,p.2.2]))/\RdK H B (qs.map (·.2)) ps
 |_,_,ps,.nil,h=>by
  cases h;exact⟨[],rfl,λp (hp:p∈[])=>absurd hp A8,Paired.nil⟩
 |_,_,ps,.cons (d:=d) (ds:=ds) h1 h2,h=>by
  unfold lK at h
  split at h
  ·rename_i e;cases e
  ·rename_i k d' r e;cases e;cases e2:lK ds with
   |none=>rw[e2]at h;cases h
   |some ps'=>
    rw[e2]at h;cases h;obtain⟨qs,f1,f2,f3⟩:=HL h2 e2;cases h1 with
    |@tup a ys _ g1 g2 g3 g4=>
     cases g4 with
     |cons c1 c2=>
      cases c2 with
      |cons c3 c4=>
       cases c4;cases c1;refine⟨(a,.inr k,_)::qs,by rw[f1];rfl,λp hp=>?_,.cons ⟨rfl,c3⟩ f3⟩;rcases Ax.mp hp with rfl|z
       ·exact g1
       ·exact f2 p z
  ·cases h
def zI:List V->Hp->VK->Prop:=λxs H Q=>∃(src:Addr)(ps:List (Addr×aH×V)),xs=[.ref src]/\H src=ae (.tup (ps.map λp=>V.ref p.1))/\(∀p∈ps,H p.1=ae (.tup [kV p.2.1,p.2.2]))/\ps.length<=1000 /\
  ∀l,H l=af->Q (.ref l) (L2.upd H l (.dK (lI [] (ps.map (·.2)))))
def j3(w:DT):kz:=λδ n Q=>w δ n λx n1=>match x with
 |.d ⇑25=>match lK ds with
  |some ps=>ds.length<=1000/\Q (mX [] ps) n1
  |none=>False
 |_=>False
theorem BL(hh:X.A.handled=af)(hg:Gl X "dict")(hm:X.mg "dict"=af)(he:DE X e te we)(hv:Bv "dict"=ae (.type "dict"):=by decide +kernel)
  (he':Av [e] X.env=⇑33::Av [] X.env:=by rfl) (hpl:(C8 pos ⇑65).any (·.1)=ai:=by rfl):DN X (.Call (.Name "dict" p) [e] [] pos) (fZ zI (bU te bq)) (j3 we):=
 ⟨om (Jo hh) hg hm hv (cR he.pe fh he') ∎ ∎ he' hpl,λC H B σ δ n Q Q' R q k=>
  he.sd C H B σ δ n _ _ R q λv x H1 n1 R1 k1 r1 q1=>by
   split at q1
   ·rename_i ds
    split at q1
    ·rename_i ps ep;cases(show RdX H1 B v (.tuple ds)from r1)with
     |@tup a ys _ g1 g2 g3 g4=>
      obtain⟨qs,f1,f2,f3⟩:=HL g4 ep;subst f1;have hl:qs.length<=1000:=by have:=g4.len;rw[Aa]at this;rw[this];exact q1.1
      refine⟨a,qs,rfl,g1,f2,hl,λl hl0=>?_⟩;refine k l _ (mX [] ps) _ n1 (R1.new hl0) (k1.trans (Kp.new hl0)) (R1.was k1 hl0) bH ?_ ?_ q1.2
      ·have:=SX (qs.map (·.2)) [];rw[Aa]at this;have z:([]:List (aH×V)).length=0:=rfl;omega
      ·refine RdK.merge ?_ .nil;exact f3.move λb o e n=>⟨by rw[aN (bY e hl0)];exact e,λz=>z.elim n λq=>bY e hl0 q⟩
    ·sleep 2
   ·exact q1.elim⟩
def jZ(i:Nat)(w:kz):aJ:=λδ n K=>w δ n λkvs n1=>K.nx (δ.set i (ae (.odk kvs))) n1
theorem Si{i:Nat}(hN:X.N.Nodup)(hi:X.N[i]?=ae x)(hx:gc X.env.scope x)(he:DN X e te w)(hs:C5 e (ae ⇑47) pos.line X.env=pure ai:=by rfl)(hf:X.fn x=ah\/X.env.scope.names.lookup x=ae .local:=by first|exact .inl rfl|exact .inr rfl|assumption):
  DS X (.Assign [.Name x pos'] e pos) (bQ te (dH i)) (jZ i w):=⟨gV hN hi hx he.pe hs hf,λC H B σ δ n K D R q E=>
 he.sd C H B σ δ n _ _ R q λa l kvs H1 n1 R1 k1 h0 h1 h2 h3 q1=>by
  refine E.nx _ _ _ _ _ (R.own R1 k1 h0 (by rw[h1];exact λz=>nomatch z) rfl ?_) q1;exact⟨a,l,rfl,h1,.inr rfl,R.h0 h0,h2,h3⟩⟩
def m5(i:Nat)(wy wv:DT):aJ:=λδ n K=>match δ[i]? with
 |some (ae (.odk kvs))=>wv δ n λv n1=>wy δ n1 λy n2=>match v,y with
  |.d d,.d (.str k)=>kvs.length < 1000/\K.nx (δ.set i (ae (.odk (fk kvs (.inr k) d)))) n2
  |_,_=>False
 |_=>False
theorem Nw{i:Nat}{xp sp:Pos}(hu:X.A.units+64 < Du)(hN:X.N[i]?=ae x)(hj:DE X j tj wj)(he:DE X e te we)(hv:fC X.env.scope x:=by first|exact Cs rfl|exact Ca (Cs rfl)|exact Ca (Ca rfl))(hd:⇑21=ai:=by decide)
  (hcd:⇑46=ai:=by decide) (hs:C5 e (ae (.Subscript ⇑29 j sp)) pos.line X.env=pure ai:=by rfl):
  DS X (.Assign [.Subscript ⇑29 j sp] e pos) (uS (aM i) tj te) (m5 i wj we):=
 ⟨Hy ⋯ ⇑82 hj.pe he.pe hs,λC H B σ δ n K D R q E=>by
  unfold m5 at q
  split at q
  ·rename_i kvs ei;refine he.sd C H B σ δ n _ _ R q λu y H1 n1 R1 k1 r1 q1=>?_;obtain⟨v,hv,a,l,rfl,e2,e3,e4,e5,e6⟩:=R1.sl i _ ei;refine⟨_,hv,hj.sd C H1 B σ δ n1 _ _ R1 q1 λw z H2 n2 R2 k2 r2 q2=>?_⟩
   split at q2
   ·rename_i d key;cases(show RdX H2 B w (.str key)from r2);sleep 23;have e2':=k2 _ _ e2 hat;have r1':RdX H2 B u d:=r1.kp k2 R1.bt;have e6':RdK H2 B l kvs:=e6.move λb o e n=>⟨k2 b o e λz=>n (z▸R1.bt),n⟩;have hl:l.length < 1000:=by rw[e6'.len];exact q2.1
    refine⟨a,_,rfl,DPut.k (k:=.inr key) e2' (Bq hl (fG (Aq _))),?_⟩;refine E.nx _ _ _ _ _ (R2.mutOwn ei rfl hv e3 e4 ?_ rfl) q2.2;refine⟨a,_,rfl,bH,e3,e4,?_,?_⟩
    ·have:=BX l (.inr key) u;omega
    ·exact(e6'.put r1' _).move λb o e n=>⟨by rw[aN λ(z:b=a)=>n (z▸e3)];exact e,n⟩
   ·exact q2.elim
  ·exact q.elim⟩
def UQ(i:Nat):DT:=λδ n Q=>match δ[i]? with
 |some ⇑55=>Q (.d (.int ds.length)) n
 |_=>False
def mN(i:Nat)(w:DT):DT:=λδ n Q=>w δ n λx n1=>match x,δ[i]? with
 |.d a,ae ⇑55=>fB a=ah/\ds.all fB=ah/\Q (.d (.bool (bS a ds))) n1
 |_,_=>False
theorem Td{i:Nat}(h:eF ta wa):eF (d3 (ij K ai) ta (aM i)) (mN i wa):=λC H B σ δ n Q Q' R q k=>
 h C H B σ δ n _ _ R q λv x H1 n1 R1 k1 r1 q1=>by
  split at q1
  ·rename_i da ds e;have r1:RdX H1 B v da:=r1;obtain⟨u,h1,a,xs,rfl,g2,g3,g4,g5,g6⟩:=R1.sl i _ e;refine⟨_,h1,a,xs,rfl,.inl (SqL.of g2),lC r1 q1.1,kG g6 q1.2.1,k _ _ H1 n1 R1 k1 ⇑44 ?_⟩;rw[kY r1 g6];exact q1.2.2
  ·sleep 2
theorem Q1(i){x:Str}{xp:Pos}(ha:DE X a ta wa)(hK:X.K=K:=by rfl)(hN:X.N[i]?=ae x:=by rfl)(hv:fC X.env.scope x:=by first|exact Cs rfl|exact Ca (Cs rfl)|exact Ca (Ca rfl))(hd:⇑21=ai:=by decide)
  (hcd:⇑46=ai:=by decide) (hm:Ct .In (Expr.Name x xp)=ai:=by with_unfolding_all rfl):DC X (.Compare a [.In] [.Name x xp] pos) (gP (d3 (ij K ai) ta (aM i))) (cT (mN i wa)):=
 ⟨kB (qS hK) ha.pe ⇑82 hm,lZ (Td ha.sd)⟩
end
section
variable{X:Cx}{a b c e o i f:Expr}{ta tb te td ty tx:TE}{wa wb we wd' wy wx:DT}{pos p:Pos}{K:Ah}
def bA(ps:List (Str×Ad)):List (aH×Ad):=ps.map λp=>(C6 p.1,p.2)
def jO(ps:List (Str×Ad)):Prop:=ps.Pairwise λa b=>¬b.1.cps.toList < a.1.cps.toList
def yo(w:DT):fg:=λδ n Q=>w δ n λx n1=>match x with
 |.dk kvs=>∃ps:List (Str×Ad),kvs=bA ps/\ps.length < 64/\(ps.map (·.1)).Nodup/\(∀p∈ps,p.1.length<=1000/\fB p.2=ah)/\∀ps':List (Str×Ad),ps'.Perm ps->jO ps'->Q (ps'.map λp=>.tuple [.str p.1,p.2]) n1
 |_=>False
theorem uM:∀{l:List (aH×V)}{ps:List (Str×Ad)},RdK H B l (bA ps)->∃xv:List V,xv.length=ps.length/\l=(((ps.map (·.1)).zip xv).map λp=>((C6 p.1:aH),p.2))/\RdXs H B xv (ps.map (·.2))
 |[],[],_=>⟨[],rfl,rfl,.nil⟩
 |[],_::_,h=>nomatch h
 |_::_,[],h=>nomatch h
 |q::l,p::ps,.cons r h=>by
  obtain⟨xv,e1,e2,e3⟩:=uM (l:=l) (ps:=ps) h;refine⟨q.2::xv,by simp[e1],?_,.cons r.2 e3⟩;rw[e2];have r1:q.1=(C6 p.1:aH):=r.1;have:q=((C6 p.1:aH),q.2):=by rw[<-r1]
  rw[this];rfl
def IS:V->List V->Hp->VK->Prop:=λx vs H Q=>∃d kvs,x=.ref d/\vs=[]/\H d=ae (.dK kvs)/\∀v,H v=af->Q (.ref v) (upd H v (kr d v))
theorem DW{α β:Type}{f:α->β}{l:List α}{i:Nat}{x:α}{y:β}(h:i < l.length):(l.map f).getD i y=f (l.getD i x):=by simp[h]
theorem P5{ap ip:Pos}(hh:X.A.handled=af)(hg:Gl X "sorted")(hm:X.mg "sorted"=af)(ho:DE X o td wd')(hv:Bv "sorted"=ae ⇑111:=by decide +kernel)(hK:X.K=K:=by rfl)
  (hbase:attributeBase o "items" X.env (eval o X.env)=eval o X.env:=by rfl) (hline:(ap.endLine==ip.line)=ah:=by rfl)
  (he':Av [Expr.Call (.Attribute o "items" ap) [] [] ip] X.env=(ai,eval (Expr.Call (.Attribute o "items" ap) [] [] ip) X.env)::Av [] X.env:=by rfl) (hpl:(C8 pos ⇑65).any (·.1)=ai:=by rfl):
  DF X (.Call (.Name "sorted" p) [.Call (.Attribute o "items" ap) [] [] ip] [] pos) (fZ BU (bU (nv K "dict" IS td) bq)) (yo wd'):=by
 subst hK;refine⟨kE (LV hh) hg hm hv (cR (Up PySem.F.plainAttrs_dict PySem.F.slot_dict_items PySem.F.type_dict_items Kf ho.pe hbase hline) fh he') ∎ ∎ he' hpl,λC H B σ δ n Q Q' R q k=>
  ho.sd C H B σ δ n _ _ R q λv x H1 n1 R1 k1 r1 q1=>?_⟩
 cases x with
 |d _=>sleep 2
 |tp=>sleep 2
 |ln _=>sleep 2
 |ob _=>sleep 2
 |dx _=>sleep 2
 |dk kvs=>
  obtain⟨a,l,rfl,g1,g2,g3⟩:=r1;obtain⟨ps,rfl,h64,nd,hps,kq⟩:=q1;obtain⟨xv,ex1,ex2,ex3⟩:=uM g3;refine⟨.inr (.inr (.inl ⟨rfl,.inl ⟨l,g1⟩⟩)),a,l,rfl,rfl,g1,λv hv=>?_⟩;have R2:=R1.new (o:=kr a v) hv;have kp2:Kp C.t H1 (upd H1 v (kr a v)):=Kp.new hv;have hne:a≠v:=bY g1 hv;refine⟨v,a,ps.map (·.1),xv,rfl,bH,by rw[Aa,ex1],by rw[aN hne,g1,ex2],by rw[Aa];exact h64,nd,kG ex3 ?_,λD as idx H' hla hidx hpw sm hD has hD' hit=>?_⟩
  ·rw[Dq];intro d hd;obtain⟨p,hp,rfl⟩:=Bf.mp hd;exact(hps p hp).2
  ·rw[Aa]at hla hidx;have R3:=R2.same sm;have k3:Kp C.t H H':=(k1.trans kp2).trans λb o e _=>sm b o e;have hDn:H D=af:=R1.was k1 (by
    cases q:H1 D with
    |none=>rfl
    |some o=>
     have:upd H1 v (kr a v) D=ae o:=by rw[aN (bY q hv)];exact q
     rw[hD]at this;cases this)
   have hlt:∀i∈idx,i < ps.length:=λi hi=>Cb.mp (hidx.mem_iff.mp hi);have lidx:idx.length=ps.length:=by rw[hidx.length_eq,Eb]
   refine k D _ _ H' n1 R3 k3 hDn hD' (by rw[Aa,lidx];exact fG ⋯) ?_ (kq (idx.map λi=>ps.getD i (⟨#[]⟩,.none)) ?_ ?_)
   ·rw[B7];have key:∀m:List Nat,(∀i∈m,i∈idx)->RdXs H' (λb=>B b\/b=D) (m.map λi=>V.ref (fO as (ps.map (·.1)) xv i).1) (m.map ((λp=>Fw [.str p.1,p.2]) ∘ λi=>ps.getD i (⟨#[]⟩,.none))):=by
     intro m
     induction m with
     |nil=>intro _;exact .nil
     |cons i r ih=>
      intro hm;have hi:=hm i Au;have hil:=hlt i hi;refine .cons ?_ (ih λj hj=>hm j (Ap _ hj));have ht:=hit i hi;have hia:i < as.length:=by rw[hla];exact hil
      have eA:(fO as (ps.map (·.1)) xv i).1=as[i]:=by show as.getD i 0=_;simp[hia]
      have eK:(fO as (ps.map (·.1)) xv i).2.1=ps[i].1:=by show(ps.map (·.1)).getD i ⟨#[]⟩=_;simp[hil]
      have hix:i < xv.length:=by rw[ex1];exact hil
      have eX:(fO as (ps.map (·.1)) xv i).2.2=xv[i]:=by show xv.getD i .non=_;simp[hix]
      rw[eA,eK,eX]at ht;show RdX H' _ (.ref (fO as (ps.map (·.1)) xv i).1) _;rw[eA];have eP:ps.getD i (⟨#[]⟩,.none)=ps[i]:=by simp[hil]
      show RdX H' _ (.ref as[i]) (.tuple [.str (ps.getD i (⟨#[]⟩,.none)).1,(ps.getD i (⟨#[]⟩,.none)).2]);rw[eP];have hAn:=has as[i] (Cq hia);have nB:¬B as[i]:=R2.nb hAn;have nD:as[i]≠D:=λz=>by rw[z,hD']at ht;cases ht
      refine .tup ht (λz=>z.elim nB nD) (by show 2<=Az;decide) (.cons (.str _ (fG (hps ps[i] (Cq hil)).1)) (.cons ?_ .nil));obtain⟨d,f1,f2⟩:=ex3.get (Ae hix);rw[Am,Ae hil]at f1;cases f1;exact f2.move λb o e n=>⟨sm b o (by rw[aN (bY e hv)];exact e),λz=>z.elim n λq=>by
       have e2:upd H1 v (kr a v) b=ae o:=by rw[aN (bY e hv)];exact e
       rw[q,hD]at e2;cases e2⟩
    exact key idx λ_ h=>h
   ·have h1:=hidx.map λi=>ps.getD i ((⟨#[]⟩:Str),PyData.none);have h2:(A5 ps.length).map (λi=>ps.getD i ((⟨#[]⟩:Str),PyData.none))=ps:=by
     apply F4 (by simp);intro i h1 h2;simp[h2]
    rw[h2]at h1;exact h1
   ·unfold jO;rw[Gp];rw[Gp]at hpw;refine List.Pairwise.imp_of_mem (λ{x y} hx hy h=>?_) hpw;rw[DW (x:=((⟨#[]⟩:Str),PyData.none)) (hlt x hx),DW (x:=((⟨#[]⟩:Str),PyData.none)) (hlt y hy)]at h;exact h
def DD(w:DT):fg:=λδ n Q=>w δ n λx n1=>match x with
 |.dk kvs=>∃ps:List (Str×Ad),kvs=bA ps/\ps.length < 64/\(∀p∈ps,p.1.length<=1000)/\∀ys:List Str,ys.Perm (ps.map (·.1))->ys.Pairwise ⇑96->Q (ys.map .str) n1
 |_=>False
theorem nU:∀{ys:List Str},(∀y∈ys,y.length<=1000)->RdXs H B (ys.map V.str) (ys.map .str)
 |[],_=>.nil
 |y::r,h=>.cons (.str _ (fG (h y Au))) (nU λz hz=>h z (Ap _ hz))
theorem LK(hh:X.A.handled=af)(hg:Gl X "sorted")(hm:X.mg "sorted"=af)(ho:DE X o td wd')(hv:Bv "sorted"=ae ⇑111:=by decide +kernel)
  (he':Av [o] X.env=(ai,eval o X.env)::Av [] X.env:=by rfl) (hpl:(C8 pos ⇑65).any (·.1)=ai:=by rfl):
  DF X (.Call (.Name "sorted" p) [o] [] pos) (fZ yx (bU td bq)) (DD wd'):=by
 refine⟨kE (Ov hh) hg hm hv (cR ho.pe fh he') ∎ ∎ he' hpl,λC H B σ δ n Q Q' R q k=>
  ho.sd C H B σ δ n _ _ R q λv x H1 n1 R1 k1 r1 q1=>?_⟩
 cases x with
 |d _=>sleep 2
 |tp=>sleep 2
 |ln _=>sleep 2
 |ob _=>sleep 2
 |dx _=>sleep 2
 |dk kvs=>
  obtain⟨a,l,rfl,g1,g2,g3⟩:=r1;obtain⟨ps,rfl,h64,hps,kq⟩:=q1;obtain⟨xv,ex1,ex2,ex3⟩:=uM g3;refine⟨a,l,ps.map (·.1),rfl,g1,?_,by rw[Aa];exact h64,λD ys hp hw hD=>?_⟩
  ·rw[ex2,B7];show((ps.map (·.1)).zip xv).map (C6 ∘ Prod.fst)=_;rw[<-B7,List.map_fst_zip (by rw[Aa,ex1];exact Aq _)]
  ·have hy:∀y∈ys,y.length<=1000:=λy hy=>by
    obtain⟨p,hp',rfl⟩:=Bf.mp (hp.mem_iff.mp hy);exact hps p hp'
   refine k D _ _ _ n1 (R1.new hD) (k1.trans (Kp.new hD)) (R1.was k1 hD) bH ?_ (nU hy) (kq ys hp hw);rw[Aa,hp.length_eq,Aa];exact fG ⋯
def IG:List Wv->Int->DQ->Prop:=λxs n Q=>match xs with
 |[.d (.int i)]=>Q (.d (.int i)) n
 |[.d (.bool b)]=>Q (.d (.int (if b then 1 else 0))) n
 |_=>False
def dE(xs ys:List Ad):List Ad:=List.zipWith (λx y=>.tuple [x,y]) xs ys
def p6(w w':DT):gR:=λδ n Q=>w δ n λx n1=>w' δ n1 λy n2=>match x,y with
 |.d (.tuple xs),.d (.tuple ys)=>xs.length=ys.length/\Q (dE xs ys) n2
 |_,_=>False
theorem QM{elts:List Expr}{kk:Nat}{tpos:Pos}(hg:Gl X "zip")(hm:X.mg "zip"=af)(ha:DE X a ta wa)(hb:DE X b tb wb)(hK:X.K=K:=by rfl)(hs:Av [a,b] X.env=[⇑108,(ai,eval b X.env)]:=by rfl)(hs2:Av [b] X.env=[(ai,eval b X.env)]:=by rfl)
  (he1:Av [a,b] X.env=⇑108::Av [b] X.env:=by rfl) (he2:Av [b] X.env=(ai,eval b X.env)::Av [] X.env:=by rfl):
  DI X (.Tuple elts kk tpos) (.Call (.Name "zip" p) [a,b] [] pos) (nG K (bU ta (bU tb bq))) (p6 wa wb):=by
 subst hK;refine⟨Lk hg hm (cR ha.pe (cR hb.pe fh he2) he1) hs hs2,λC H B σ δ n Q Q' R q k=>ha.sd C H B σ δ n _ _ R q λv x H1 n1 R1 k1 r1 q1=>hb.sd C H1 B σ δ n1 _ _ R1 q1 λu y H2 n2 R2 k2 r2 q2=>?_⟩;have r1':=r1.kp k2 R1.bt
 split at q2
 ·rename_i xs ys;cases(show RdX H2 B v (.tuple xs)from r1')with
  |@tup aa vs _ e1 e2 e3 e4=>
   cases(show RdX H2 B u (.tuple ys)from r2)with
   |@tup ab ws _ f1 f2 f3 f4=>
    refine⟨aa,ab,rfl,⟨vs,SqT.of e1⟩,⟨ws,SqT.of f1⟩,k _ (dE xs ys) H2 n2 R2 ⇑64 (λfz th=>?_) q2.2⟩;have za:fz aa=ae (.tup vs):=th.2 _ _ e1 e2;have zb:fz ab=ae (.tup ws):=th.2 _ _ f1 f2;have lz:(dE xs ys).length=xs.length:=by unfold dE;rw[List.length_zipWith,q2.1,Nat.min_self]
    refine⟨by rw[lz,<-e4.len];exact e3,λi H hH hi=>?_,λH hH=>?_,λi H x H' d hH hd hy=>?_⟩
    ·rw[lz]at hi;have h1:i < vs.length:=by rw[e4.len];exact hi
     have h2:i < ws.length:=by rw[f4.len,<-q2.1];exact hi
     exact⟨vs,ws,vs[i],ws[i],SqT.of (hH _ _ za),SqT.of (hH _ _ zb),Ae h1,Ae h2⟩
    ·exact⟨vs,SqT.of (hH _ _ za),by rw[lz,e4.len];exact Aq _⟩
    ·obtain⟨T,x1,y1,rfl,hT,rfl,hx,hy⟩:=hy;refine⟨λb o e=>by rw[aN (bY e hT)];exact e,λB' hB hBa=>?_⟩;have hi:i < xs.length:=by rw[<-lz];exact(Ar.mp hd).1
     have hi2:i < ys.length:=by rw[<-q2.1];exact hi
     have ed:d=.tuple [xs[i],ys[i]]:=by
      unfold dE at hd;rw[List.getElem?_zipWith,Ae hi,Ae hi2]at hd;exact(Bb hd).symm
     subst ed;obtain⟨u1,hu1,ru1⟩:=e4.getD (Ae hi);obtain⟨u2,hu2,ru2⟩:=f4.getD (Ae hi2);have t1:=hx _ (SqT.of (hH _ _ za));have t2:=hy _ (SqT.of (hH _ _ zb));rw[hu1]at t1;rw[hu2]at t2;cases t1;cases t2;have mv:∀b o,H2 b=ae o->¬B b->upd H T (.tup [x1,y1]) b=ae o/\¬B' b:=λb o e ne=>by
      have:=hH _ _ ⇑95;exact⟨by rw[aN (bY this hT)];exact this,hB _ _ ⇑95⟩
     exact .tup bH (λz=>hBa T z hT) (by show 2<=Az;decide) (.cons (ru1.move mv) (.cons (ru2.move mv) .nil))
 ·exact q2.elim
end
end DL
namespace L2
open PySem PySem.Spec PyProof.Rows PySem.SeqAt
end L2
namespace DL
open PySem L2 Nb
section
variable{X:Cx}{K:Ah}
def Hw(K:Ah)(f:Ad->Ad->Option Bool):R2:=λx y H Q=>∃d e b,RdD K H x d/\RdD K H y e/\d.canLay0=ah/\e.canLay0=ah/\d.depth<=20/\e.depth<=20/\f d e=ae b/\Q (.bl b) H
theorem EB(hu:X.A.units+64 < Du)(hK:X.K=K:=by rfl):OpR X (B6 .Eq) (Hw K λd e=>ae (Cn d e)):=by
 subst hK;sleep 8;obtain⟨d,e,b,h1,h2,h3,h4,h5,h6,h7,q⟩:=h;cases h7;obtain⟨as,r1⟩:=RdD.reads I h1 rx;obtain⟨bs,r2⟩:=RdD.reads I h2 ry;exact SeqAt.compareEq_reads r1 r2 h3 h4 ⋯ ⟨.bl _,H,I,rfl,q⟩
def j2(f:Ad->Ad->Option Bool):Wv->Wv->Int->DQ->Prop:=λx y n Q=>match x,y with
 |.d d,.d e=>d.canLay0=ah/\e.canLay0=ah/\d.depth<=20/\e.depth<=20/\∃b,f d e=ae b/\Q (.d (.bool b)) n
 |_,_=>False
theorem EN:bB (Hw K f) (j2 f):=λC H B σ δ n x y p q Q Q' R rx ry h1 k=>by
 unfold j2 at h1
 split at h1
 ·rename_i d e;obtain⟨a1,a2,a3,a4,b,a5,a6⟩:=h1;exact⟨d,e,b,RdX.rd rx,RdX.rd ry,a1,a2,a3,a4,a5,k _ _ H n R ⇑19 (wd (.bl b)) a6⟩
 ·sleep 9
end
end DL
namespace L2
open PySem PySem.Spec PyProof.Rows PySem.W
section
variable{prog:Bh}{w:Bt}{A:B1}{E:Ag->Ak->Prop}{s:Ak}
theorem Pd(hn:n≠0)(h:∀i dr,i < n->Q i {s with drawn:=dr}):A1 ⇑13 A (choose src n) Q E s:=
 λ_ _ _=>⟨hn,h _ _ (Nat.mod_lt _ (Nat.pos_of_ne_zero hn))⟩
theorem ui{α:Type}:∀(l:List α)(i:Nat)(h:i < l.length),(l[i]::l.eraseIdx i).Perm l
 |x::r,0,_=>List.Perm.refl _
 |x::r,i+1,h=>(List.Perm.swap x (r[i]'(Nat.lt_of_succ_lt_succ h)) (r.eraseIdx i)).trans ((ui r i (Nat.lt_of_succ_lt_succ h)).cons x)
theorem CZ:∀(n:Nat)(xs:List α)(s:Ak){Q:List α->Ak->Prop},xs.length=n->(∀ys dr,ys.Perm xs->Q ys {s with drawn:=dr})->A1 ⇑13 A (drawOrder n xs) Q E s
 |0,xs,s,Q,hl,h=>by
  cases G3 hl;exact Aj (h [] s.drawn (List.Perm.refl _))
 |n+1,[],s,Q,hl,h=>by cases hl
 |n+1,x::r,s,Q,hl,h=>by
  unfold drawOrder;refine Ab (Pd (by simp) λi dr hi=>?_);rw[Ae hi];dsimp only;refine Ab (CZ n _ _ (by rw[List.length_eraseIdx_of_lt hi];simp at hl ⊢;omega) λys dr' hp=>Aj (h _ dr' ?_));exact(hp.cons _).trans (ui _ _ hi)
theorem BY(next):∀(fuel k:Nat)(left:List α)(out:Array α),left.length=fuel->(pickOrder.go next fuel k left out).toList.Perm (out.toList++left)
 |0,k,left,out,hl=>by
  cases G3 hl;simp[pickOrder.go]
 |fuel+1,k,left,out,hl=>by
  have hi:next k % left.length < left.length:=Nat.mod_lt _ ⋯
  unfold pickOrder.go;rw[Ae hi];dsimp only;refine(BY next fuel (k+1) _ _ (by rw[List.length_eraseIdx_of_lt hi];omega)).trans ?_;rw[Array.toList_push,Bm];exact List.Perm.append_left _ (ui _ _ hi)
theorem SW(next)(xs:Array α):(pickOrder next xs).toList.Perm xs.toList:=by
 have:=BY next xs.size 0 xs.toList #[] (by simp)
 simpa[pickOrder]using this
def c7(w:Bt):Bool:=w.params.followText "set-order"
theorem rA(h:Q (c7 w) s):A1 ⇑13 A setsByText Q E s:=by
 unfold setsByText;exact Ab (wpAny_askSetting (Aj h))
structure SetTb(w:Bt)(h:Heap)(a:Addr)(es:Array (Int×Ag))(ep:Nat)(t:Fk):Prop where
 obj:∃o,h.get? a=ae o/\o.ExactSet/\o.data=.set es ep t
 fits:t.fits es.size=ah
 led:t.led=!c7 w
 plain:t.plain=ah->es.size=0
theorem SetTb.move(x:SetTb w h a es ep t)(k:∀o,h.get? a=ae o->h'.get? a=ae o):SetTb w h' a es ep t:=
 ⟨let⟨o,e,r⟩:=x.obj;⟨o,k o e,r⟩,x.fits,x.led,x.plain⟩
theorem SetTb.typeIs(x:SetTb w s.heap a es ep t):s.TypeIs (.ref a) "set":=let⟨o,e,r,_⟩:=x.obj;⟨o,e,r.1⟩
theorem SetTb.lt(x:SetTb w h a es ep t):a < h.objs.size:=let⟨_,e,_⟩:=x.obj;As e
theorem RM(t:Fk)(n):(t.orStandIn n).led=t.led:=by
 unfold SetTable.orStandIn
 split<;>rfl
theorem Qe(t:Fk)(es)(h)(x):(layNew t es h x).2.1.led=t.led:=by
 unfold layNew
 split
 ·exact RM _ _
 ·rfl
theorem Ot{t t':Fk}(h:t.relaid hs n=ae (t',ord)):t'.led=t.led/\t'.plain=t.plain:=by
 unfold SetTable.relaid SetTable.laid at h;cases hc:SetTable.layClean (SetTable.sizeAbove n-1) hs with
 |none=>rw[hc]at h;cases h
 |some ow=>
  rw[hc]at h;cases h;exact⟨rfl,rfl⟩
theorem Im(t:Fk)(es)(n):(relayAll t es n).2.1.led=t.led/\((relayAll t es n).2.1.plain=ah->t.plain=ah):=by
 unfold relayAll
 split
 ·rename_i t' ord he;obtain⟨h1,h2⟩:=Ot he;dsimp only
  split
  ·exact⟨h1,λz=>h2▸z⟩
  ·exact⟨rfl,λz=>by simp[SetTable.standIn]at z⟩
 ·exact⟨rfl,λz=>by simp[SetTable.standIn]at z⟩
def fR(v:Ag):Str:=match v with
 |.str k _=>k
 |_=>⟨#[]⟩
def cI(es:Array (Int×Ag)):List Str:=es.toList.map λe=>fR e.2
def TxEs(w:Bt)(es:Array (Int×Ag)):Prop:=∀e∈es.toList,∃k t,e.2=.str k t/\e.1=hashStr w k
theorem TxEs.elems(h:TxEs w es):ElemsOf (Eh prog w) es.toList:=λe he=>by
 obtain⟨k,t,e1,e2⟩:=h e he;refine⟨⟨k,?_,e2⟩,by rw[e1];rfl⟩;rw[e1];simp[Eh,Value.isStrOf]
def iH(w:Bt)(h:Heap)(a:Addr)(seen:List Str):Prop:=∃es ep t,SetTb w h a es ep t/\TxEs w es/\(cI es).Nodup/\(∀k,k∈cI es↔k∈seen)/\es.size<=seen.length
end
theorem FR:entryFor table "set.update.loop"=ae Ek.«set.update.loop»:=G6 ⇑79
theorem tG:plainId "set.update.loop"=ah:=by sleep 5
section
variable{prog:Bh}{w:Bt}{A:B1}{E:Ag->Ak->Prop}{s:Ak}
theorem Ti{seen:List Str}(hx:TxEs w es)(nd:(cI es).Nodup)(hm:∀k,k∈cI es↔k∈seen)(hl:es.size<=seen.length)(hk:k∉cI es)
  (p:es'.toList.Perm (es.toList++[(hashStr w k,.str k tk)])):TxEs w es'/\(cI es').Nodup/\(∀k',k'∈cI es'↔k'∈seen++[k])/\es'.size<=(seen++[k]).length/\es'.size=es.size+1:=by
 have pk:(cI es').Perm (cI es++[k]):=by
  have:=p.map λe=>fR e.2;rw[A7]at this;exact this
 have hz:es'.size=es.size+1:=by
  have:=p.length_eq;simpa using this
 refine⟨λe he=>?_,pk.nodup_iff.mpr ?_,λk'=>?_,by rw[hz,An];exact Nat.succ_le_succ hl,hz⟩
 ·rcases A9.mp (p.mem_iff.mp he)with h|h
  ·exact hx e h
  ·rw[Ba]at h;subst h;exact⟨k,tk,rfl,rfl⟩
 ·rw[List.nodup_append];exact⟨nd,Ea _ _,λa ha b hb e=>hk (by rw[Ba]at hb;rw[<-hb,<-e];exact ha)⟩
 ·rw[pk.mem_iff,A9,A9,hm k']
theorem BQ(hx:TxEs w es)(nd:(cI es).Nodup)(p:es'.toList.Perm es.toList):TxEs w es'/\(cI es').Nodup/\(∀k',k'∈cI es'↔k'∈cI es)/\es'.size=es.size:=by
 have pk:(cI es').Perm (cI es):=List.Perm.map (λe:Int×Ag=>fR e.2) p;exact⟨λe he=>hx e (p.mem_iff.mp he),pk.nodup_iff.mpr nd,λk'=>pk.mem_iff,by have:=p.length_eq;simpa using this⟩
theorem Rr{seen:List Str}(hS:iH w s.heap a seen)(hb:seen.length < 1000)
  (h:∀b h',C4 a s.heap h'->iH w h' a (seen++[k])->Q b {s with heap:=h'}):A1 ⇑13 A (setAddHashed a (.str k tk) (hashStr w k)) Q E s:=by
 obtain⟨es,ep,t,T,hx,nd,hm,hl⟩:=hS;obtain⟨o,ho,hex,hd⟩:=T.obj;have hel:ElemsOf (Eh prog w) es.toList:=hx.elems;have hsz:es.size < scanBound:=by unfold scanBound;omega
 have hkey:(Eh prog w).is k (.str k tk)=ah:=by simp[Eh,Value.isStrOf]
 unfold setAddHashed setAddHashedIn;refine Cf (Ab (F1 ho hd T.fits ?_));dsimp only;rw[byScan_of (knd:=Eh prog w) (x:=.str k tk) rfl hsz hel];simp only[↓reduceIte];unfold setAddByScan;refine Ab (Ab (G5 (Ab (wpAny_setScan_of (knd:=Eh prog w) (k:=k) hkey ho hd T.fits hel ?_))));cases hr:es.toList.findIdx? (λe=>(Eh prog w).is k e.2)with
 |some j=>
  dsimp only;obtain⟨hj,hpj,_⟩:=Gi.mp hr;have hk:k∈cI es:=by
   obtain⟨u,hu⟩:=Value.isStrOf_shape hpj;exact Bf.mpr ⟨es.toList[j],Cq hj,by rw[hu];rfl⟩
  refine Aj (Aj (h _ s.heap (Heap.SameBut.refl a s.heap) ⟨es,ep,t,T,hx,nd,λk'=>?_,by rw[An];omega⟩));rw[hm k',A9,Ba];exact⟨.inl,λz=>z.elim id λe=>e▸(hm k).mp hk⟩
 |none=>
  dsimp only;have hk:k∉cI es:=λz=>by
   obtain⟨e,he,e2⟩:=Bf.mp z;obtain⟨k',t',e3,_⟩:=hx e he;have q:=List.findIdx?_eq_none_iff.mp hr e he;rw[e3]at e2 q;have e2:k'=k:=e2;subst e2;simp[Eh,Value.isStrOf]at q
  have hgw:∀(b:Bool){s₁:Ak}{Q':Unit->Ak->Prop},Q' () s₁->A1 ⇑13 A (match b with|true=>rule "set.scan.the-table-gave-way"|false=>pure ()) Q' E s₁:=
   λb s₁ Q' hq=>by cases b with
    |true=>exact G5 hq
    |false=>exact Aj hq
  have hp:=layNew_perm t es (hashStr w k) (.str k tk);have hf:=layNew_fits t es (hashStr w k) (.str k tk);have hle:=Qe t es (hashStr w k) (.str k tk);have eh:(Eh prog w).hash k=hashStr w k:=rfl
  try rw[eh]
  generalize layNew t es (hashStr w k) (.str k tk)=L at hp hf hle ⊢;obtain⟨es1,t1,wd,gave⟩:=L;dsimp only at hp hf hle ⊢;rw[Array.toList_push]at hp;obtain⟨x1,n1,m1,l1,z1⟩:=Ti hx nd hm hl hk hp;refine Ab (hgw _ ?_)
  split
  ·refine Ab ?_;rw[hashByValue_scannable 8 rfl];refine Aj ?_;have hpl:({t1 with plain:=ai}:Fk).plain=ai:=rfl;have hft:({t1 with plain:=ai}:Fk).fits es1.size=ah:=SetTable.fits_plain_off hf;have hld:({t1 with plain:=ai}:Fk).led=t.led:=hle;simp only[plainKind,B3,↓reduceIte];generalize({t1 with plain:=ai}:Fk)=t2 at hpl hft hld ⊢;have hb1:es1.size < scanBound:=by unfold scanBound;omega
   refine Ab (wpAny_storeSet_of ho hd ?_ (fits_of_scanBound hb1));have g1:(s.heap.update a (E2 es1 t2)).get? a=ae {o with data:=.set es1 (ep+1) t2}:=by
    have:=Bw (E2 es1 t2) ho (by rw[putSet_of es1 t2 hd];rfl);rw[putSet_of es1 t2 hd]at this;exact this
   have sb1:=Bn s.heap a (E2 es1 t2)
   split
   ·have hp2:=relayAll_perm t2 es1 (Ez es1.size);have hf2:=relayAll_fits t2 es1 (Ez es1.size);obtain⟨hl2,hq2⟩:=Im t2 es1 (Ez es1.size);generalize relayAll t2 es1 (Ez es1.size)=R at hp2 hf2 hl2 hq2 ⊢;obtain⟨es2,t3,gave2⟩:=R;dsimp only at hp2 hf2 hl2 hq2 ⊢;obtain⟨x2,n2,m2,z2⟩:=BQ x1 n1 hp2;refine Ab (hgw _ ?_);refine Ab (wpAny_storeSet_of g1 rfl ?_ (fits_of_scanBound (by rw[z2];exact hb1)));have g2:((s.heap.update a (E2 es1 t2)).update a (E2 es2 t3)).get? a=ae {o with data:=.set es2 (ep+1+1) t3}:=by
     have:=Bw (E2 es2 t3) g1 (by rw[putSet_of es2 t3 rfl];rfl);rw[putSet_of es2 t3 rfl]at this;exact this
    refine Aj (Aj (h _ _ (sb1.trans (Bn _ a _)) ⟨es2,ep+1+1,t3,⟨⟨_,g2,hex,rfl⟩,hf2,by rw[hl2,hld];exact T.led,λz=>?_⟩,x2,n2,λk'=>(m2 k').trans (m1 k'),by rw[z2];exact l1⟩));have:=hq2 z;rw[hpl]at this;cases this
   ·refine Aj (Aj (h _ _ sb1 ⟨es1,ep+1,t2,⟨⟨_,g1,hex,rfl⟩,hft,by rw[hld];exact T.led,λz=>?_⟩,x1,n1,m1,l1⟩));rw[hpl]at z;cases z
  ·rename_i hpl0;have hpl:t1.plain=ai:=by simpa using hpl0
   have hft:=hf;have hld:=hle;refine Ab (Aj ?_);simp only[↓reduceIte];clear hf hle hpl0;generalize t1=t2 at hpl hft hld ⊢;have hb1:es1.size < scanBound:=by unfold scanBound;omega
   refine Ab (wpAny_storeSet_of ho hd ?_ (fits_of_scanBound hb1));have g1:(s.heap.update a (E2 es1 t2)).get? a=ae {o with data:=.set es1 (ep+1) t2}:=by
    have:=Bw (E2 es1 t2) ho (by rw[putSet_of es1 t2 hd];rfl);rw[putSet_of es1 t2 hd]at this;exact this
   have sb1:=Bn s.heap a (E2 es1 t2)
   split
   ·have hp2:=relayAll_perm t2 es1 (Ez es1.size);have hf2:=relayAll_fits t2 es1 (Ez es1.size);obtain⟨hl2,hq2⟩:=Im t2 es1 (Ez es1.size);generalize relayAll t2 es1 (Ez es1.size)=R at hp2 hf2 hl2 hq2 ⊢;obtain⟨es2,t3,gave2⟩:=R;dsimp only at hp2 hf2 hl2 hq2 ⊢;obtain⟨x2,n2,m2,z2⟩:=BQ x1 n1 hp2;refine Ab (hgw _ ?_);refine Ab (wpAny_storeSet_of g1 rfl ?_ (fits_of_scanBound (by rw[z2];exact hb1)));have g2:((s.heap.update a (E2 es1 t2)).update a (E2 es2 t3)).get? a=ae {o with data:=.set es2 (ep+1+1) t3}:=by
     have:=Bw (E2 es2 t3) g1 (by rw[putSet_of es2 t3 rfl];rfl);rw[putSet_of es2 t3 rfl]at this;exact this
    refine Aj (Aj (h _ _ (sb1.trans (Bn _ a _)) ⟨es2,ep+1+1,t3,⟨⟨_,g2,hex,rfl⟩,hf2,by rw[hl2,hld];exact T.led,λz=>?_⟩,x2,n2,λk'=>(m2 k').trans (m1 k'),by rw[z2];exact l1⟩));have:=hq2 z;rw[hpl]at this;cases this
   ·refine Aj (Aj (h _ _ sb1 ⟨es1,ep+1,t2,⟨⟨_,g1,hex,rfl⟩,hft,by rw[hld];exact T.led,λz=>?_⟩,x1,n1,m1,l1⟩));rw[hpl]at z;cases z
def iX(ks:List Str)(i:Nat)(v:Ag):Prop:=∃k t,ks[i]?=ae k/\v=.str k t
theorem SR{St:Nat->Ak->Prop}(W:WalksS prog w A.in1 I fp wr G n (iX ks) St)(S)(hSf:S∉fp)(hn:ks.length=n)(hb:n < 64):
  ∀(m i:Nat)(s:Ak),n-i=m->i<=n->St i s->iH w s.heap S (ks.take i)->
   (∀s',Moved (S::wr) G s s'->iH w s'.heap S ks->R (.ok (.ret .none)) s')->F2 ⇑13 A (.builtin "set.update.loop" ⟨[.ref S,.ref I],[]⟩) R s:=by
 have hSw:S∉wr:=λh=>hSf (W.sub _ h);have hsub:∀b∈wr,b∈S::wr:=λb hb=>Ap _ hb;have mv:∀{h h':Heap}{seen:List Str},(∀o,h.get? S=ae o->h'.get? S=ae o)->iH w h S seen->iH w h' S seen:=λk x=>by
  obtain⟨es,ep,t,T,r⟩:=x;exact⟨es,ep,t,T.move k,r⟩
 intro m
 induction m with
 |zero=>
  intro i s hk hi hst hS hR;have hin:i=n:=by omega
  subst hin;refine E3 FR ?_;rw[D6 tG _];show A1 _ A.in1 (Eu (.ref I)>>=_) _ _ s;refine Ab (W.done s _ _ hst λs' hm=>?_);show A1 _ A.in1 (ret Bi) _ _ s';rw[<-hn,Gx]at hS;exact Aj (hR s' (hm.mono hsub) (mv (λo e=>hm.heap S _ hSw e) hS))
 |succ m ih=>
  intro i s hk hi hst hS hR;have hlt:i < n:=by omega
  refine E3 FR ?_;rw[D6 tG _];show A1 _ A.in1 (Eu (.ref I)>>=_) _ _ s;refine Ab (W.item i s _ _ hlt hst λv s' hP hst' hm=>?_);obtain⟨k,t,hk1,rfl⟩:=hP;have hS':=mv (λo e=>hm.heap S _ hSw e) hS;show A1 _ A.in1 (holding [Value.str k t] (setAdd S (.str k t))>>=_) _ _ s';refine Ab (Cf ?_);unfold setAdd;refine Cf ?_;refine Ab (wpAny_pyHash_str ?_);refine Rr (s:={ s' with toks:=s'.toks+1}) hS' (by rw[E7];omega) λb h' hsb hS2=>?_;have et:ks.take i++[k]=ks.take (i+1):=by
   rw[List.take_add_one,hk1];rfl
  rw[et]at hS2;refine Aj ⟨Fv tG _,ih (i+1) _ ⋯ hlt (W.frame _ s' _ _ hst' (Nat.le_succ _) λb hb o e=>?_) hS2 λs'' hm'' hS''=>?_⟩
  ·rw[hsb.2 b (λh:b=S=>hSf (by rw[<-h];exact hb))];exact e
  ·refine hR s'' (Moved.trans W.gtrans ((hm.mono hsub).then_heap (Nat.le_succ _) λb o hb e=>?_) hm'') hS'';rw[hsb.2 b (λh:b=S=>hb (by rw[h];exact Au))];exact e
end
theorem slot_setit_next:Slot "set_iterator" "__next__" "set_iterator.__next__":=Slot.of (owner:="set_iterator") (n:="__next__") (by rw[Hk,Fy];kernel_rfl)
 ∅ ∅ ∅ (by first|exact .inl ∅|exact .inr ∅) (by rw[Fi];kernel_rfl)
theorem mZ:entryFor table "set_iterator.__next__"=ae Ek.«set_iterator.__next__»:=G6 ⇑79
theorem mP(a):argsOk "set_iterator.__next__" ⟨[a],[]⟩:=by unfold argsOk;kernel_rfl
theorem GC:Slot "set_iterator" "__iter__" "set_iterator.__iter__":=Slot.of (owner:="set_iterator") (n:="__iter__") (by rw[Hk,Fy];kernel_rfl)
 ∅ ∅ ∅ (by first|exact .inl ∅|exact .inr ∅) (by rw[Fi];kernel_rfl)
theorem Kg:entryFor table "set_iterator.__iter__"=ae Ek.«dict_keyiterator.__iter__»:=by exact entryFor_alias (id':="dict_keyiterator.__iter__") ⇑79 rfl ∅ ⇑79
theorem Kv(a):argsOk "set_iterator.__iter__" ⟨[a],[]⟩:=by unfold argsOk;kernel_rfl
theorem Qy:entryFor table "set.__iter__"=ae Ek.«frozenset.__iter__»:=by exact entryFor_alias (id':="frozenset.__iter__") ⇑79 rfl ∅ ⇑79
def SetIt(h:Heap)(I:Addr)(first:Ag)(i:Nat)(a:Addr)(n ep:Nat):Prop:=∃o,h.get? I=ae o/\o.cls=.type "set_iterator"/\o.data=.fields #[first,.int i 0,.ref a,.int n 0,.int ep 0]
section
variable{prog:Bh}{w:Bt}{A:B1}{E:Ag->Ak->Prop}{s:Ak}{I a T:Addr}{n ep i j:Nat}{es:Array (Int×Ag)}{t:Fk}{first:Ag}
theorem SetIt.typeIs(x:SetIt s.heap I first i a n ep):s.TypeIs (.ref I) "set_iterator":=let⟨o,e,c,_⟩:=x;⟨o,e,c⟩
theorem SetIt.move(x:SetIt h I first i a n ep)(k:∀o,h.get? I=ae o->h'.get? I=ae o):SetIt h' I first i a n ep:=let⟨o,e,r⟩:=x;⟨o,k o e,r⟩
theorem nX(hit:SetIt s.heap I first i a n ep)(h:Q (.ref I) s):A1 ⇑13 A (pyIter (.ref I)) Q E s:=by
 refine wpAny_pyIter_slot hit.typeIs GC (Ce GC hit.typeIs Kg ?_ (Kv _));show A1 _ _ (ret (.ref I)) _ _ s;exact Aj ⟨_,rfl,"set_iterator",_,hit.typeIs,slot_setit_next.lookup,h⟩
theorem Jb(hit:SetIt s.heap I (.ref T) i a n ep)(hs:SetTb w s.heap a es ep t)(hn:es.size=n)(hT:s.heap.IsTuple T pl)(hp:pl[i]?=ae (.int j 0))(hx:es[j]?=ae x)
  (hQ:∀h',SetIt h' I (.ref T) (i+1) a n ep->C4 I s.heap h'->Q (ae x.2) {s with heap:=h'}):A1 ⇑13 A (Eu (.ref I)) Q E s:=by
 obtain⟨o,ho,hc,hd⟩:=id hit;obtain⟨oa,hoa,_,hda⟩:=hs.obj;obtain⟨ol,hol,_,nl,hdl⟩:=hT;unfold Eu;refine Ab ⇑137;refine Ab (Aj ?_);refine Ab (Gb ho hd ?_);dsimp only;refine Ab ⇑138;rw[if_neg (by rw[hn];simp)];refine Ab (Dm hol hdl ?_);simp only[Br,hp];refine Ab ?_;unfold setNextDrawn;refine Ab (F1 hoa hda hs.fits ?_);simp only[Br,bne_self_eq_false,B3,if_false,hx];refine Aj ?_;refine Ab (Dd ho hd (by simp) (Aj ⟨x.2,rfl,Aj (hQ _ ?_ (Bn ..))⟩));exact⟨_,Bw _ ho (Di (B8 hd _)),(Ey ..).trans hc,by
  rw[B8 hd];simp[Cu]⟩
theorem Ml(hh:A.handled=af)(hit:SetIt s.heap I (.ref T) i a n ep)(hs:SetTb w s.heap a es ep t)(hn:es.size=n)(hT:s.heap.IsTuple T pl)(hp:pl[i]?=af)
  (hQ:∀h',Heap.ExtBut I s.heap h'->Q af {s with heap:=h'}):A1 ⇑13 A (Eu (.ref I)) Q E s:=by
 obtain⟨ol,hol,_,nl,hdl⟩:=hT;obtain⟨o,ho,hc,hd⟩:=id hit;obtain⟨oa,hoa,_,hda⟩:=hs.obj;unfold Eu;refine Ab ⇑137;refine Ab (Aj ?_);refine Ab (Gb ho hd ?_);dsimp only;refine Ab ⇑138;rw[if_neg (by rw[hn];simp)];refine Ab (Dm hol hdl ?_);simp only[Br,hp];refine Ab ⇑136;have ho2:=Bw (Obj.mapFields (·.setIfInBounds 0 (Cu 0))) ho (Di (B8 hd _));have hd2:=B8 hd (·.setIfInBounds 0 (Cu 0));refine Ab (Dd ho2 hd2 (by simp) ?_);refine Ab ?_;simp only[newExc,newTuple];refine Ab (Bx ?_ ⇑97);refine Ab (m:=Eg _ _) (Ha (a:=Bi) ⇑144 ?_);refine Bx ?_ ⇑97;sleep 28
 first|rw[show A.in1.handled=af from hh]|rw[hh]
 refine Ab (Aj (wpAny_throw ?_));refine Ab (Er (T:="StopIteration") (b:=ah) ⟨_,Aw _ rfl,rfl⟩ isSubtype_stop ?_);exact Aj (hQ _ (((((Bn ..).trans (Bn ..)).extBut).push _).push _))
def j7(w:Bt)(a:Addr)(ep:Nat)(es:Array (Int×Ag)):Array (Int×Ag):=pickOrder (w.params.setOrder a ep) es
theorem yY(hb:c7 w=ah)(hs:SetTb w s.heap a es ep t)(h:Q (((j7 w a ep es)[i]?).map λe=>(e.2,k)) s):A1 ⇑13 A (setNext a k i ep) Q E s:=by
 obtain⟨oa,hoa,_,hda⟩:=hs.obj;unfold setNext;refine Ab (F1 hoa hda hs.fits ?_);dsimp only;refine Ab (rA ?_);rw[hb];simp only[↓reduceIte,bne_self_eq_false,B3,if_false];refine Ab ?_;unfold setWalk;refine Ab (F1 hoa hda hs.fits ?_);dsimp only;refine Ab (rA ?_);rw[hb];simp only[↓reduceIte];refine Ab (wpAny_askSetting (Aj (Aj h)))
theorem UB(hb:c7 w=ah)(hit:SetIt s.heap I (.int 0 0) i a n ep)(hs:SetTb w s.heap a es ep t)(hn:es.size=n)(hx:(j7 w a ep es)[i]?=ae x)
  (hQ:∀h',SetIt h' I (.int 0 0) (i+1) a n ep->C4 I s.heap h'->Q (ae x.2) {s with heap:=h'}):A1 ⇑13 A (Eu (.ref I)) Q E s:=by
 obtain⟨o,ho,hc,hd⟩:=id hit;obtain⟨oa,hoa,_,hda⟩:=hs.obj;unfold Eu;refine Ab ⇑137;refine Ab (Aj ?_);refine Ab (Gb ho hd ?_);dsimp only;refine Ab ⇑138;rw[if_neg (by rw[hn];simp)];refine Ab (yY hb hs ?_);simp only[Br,hx,Option.map_some];refine Ab ⇑136;have ho2:=Bw (Obj.mapFields (·.setIfInBounds 0 (Cu ((0:Int).toNat:Nat)))) ho (Di (B8 hd _));have hd2:=B8 hd (·.setIfInBounds 0 (Cu ((0:Int).toNat:Nat)));refine Ab (Dd ho2 hd2 (by simp) (Aj ⟨x.2,rfl,Aj (hQ _ ?_ ((Bn ..).trans (Bn ..)))⟩));exact⟨_,Bw _ ho2 (Di (B8 hd2 _)),(Ey ..).trans ((Ey ..).trans hc),by
  rw[B8 hd2];simp[Cu]⟩
theorem Li(hh:A.handled=af)(hb:c7 w=ah)(hit:SetIt s.heap I (.int 0 0) i a n ep)(hs:SetTb w s.heap a es ep t)(hn:es.size=n)(hx:(j7 w a ep es)[i]?=af)
  (hQ:∀h',Heap.ExtBut I s.heap h'->Q af {s with heap:=h'}):A1 ⇑13 A (Eu (.ref I)) Q E s:=by
 obtain⟨o,ho,hc,hd⟩:=id hit;obtain⟨oa,hoa,_,hda⟩:=hs.obj;unfold Eu;refine Ab ⇑137;refine Ab (Aj ?_);refine Ab (Gb ho hd ?_);dsimp only;refine Ab ⇑138;rw[if_neg (by rw[hn];simp)];refine Ab (yY hb hs ?_);simp only[Br,hx,Option.map_none];refine Ab ⇑136;refine Ab ?_;simp only[newExc,newTuple];refine Ab (Bx ?_ ⇑97);refine Ab (m:=Eg _ _) (Ha (a:=Bi) ⇑144 ?_);refine Bx ?_ ⇑97;sleep 28
 first|rw[show A.in1.handled=af from hh]|rw[hh]
 refine Ab (Aj (wpAny_throw ?_));refine Ab (Er (T:="StopIteration") (b:=ah) ⟨_,Aw _ rfl,rfl⟩ isSubtype_stop ?_);exact Aj (hQ _ (((Bn ..).extBut.push _).push _))
theorem FN(hb:c7 w=ai)(h1:es.size<=1)(hs:SetTb w s.heap a es ep t)
  (h:Q (match es[E1 t.place k]?,t.place[E1 t.place k]? with
   |some (_,x),ae j=>ae (x,j+1)
   |_,_=>af) s):A1 ⇑13 A (setNext a k i ep) Q E s:=by
 obtain⟨oa,hoa,_,hda⟩:=hs.obj;have hl:t.led=ah:=by rw[hs.led,hb];rfl
 unfold setNext;refine Ab (F1 hoa hda hs.fits ?_);dsimp only;refine Ab (rA ?_);rw[hb];simp only[B3,↓reduceIte];have hd:(!t.plain&&decide (es.size > 1))=ai:=by
  have:decide (es.size > 1)=ai:=decide_eq_false ⋯;rw[this,Bool.and_false]
 split
 ·rename_i z;have z':(!t.plain&&decide (es.size > 1))=ah:=z;rw[hd]at z';cases z'
 ·refine Ab (Ha (a:=()) ?_ (Aj h));show(if (!t.led&&!es.isEmpty)=ah then unsupported "set:maker-not-led" else pure ())=pure ();rw[hl];rfl
theorem BK:E1 #[j] 0=0/\E1 #[j] (j+1)=1:=by
 constructor
 ·simp[E1,SetTable.below.go]
 ·simp[E1,SetTable.below.go]
theorem QS(hb:c7 w=ai)(hp:t.place=#[j])(he:es=#[x])(hit:SetIt s.heap I (.int 0 0) 0 a 1 ep)(hs:SetTb w s.heap a es ep t)
  (hQ:∀h',SetIt h' I (.int ((j+1:Nat):Int) 0) 1 a 1 ep->C4 I s.heap h'->Q (ae x.2) {s with heap:=h'}):A1 ⇑13 A (Eu (.ref I)) Q E s:=by
 have hn:es.size=1:=by rw[he];rfl
 obtain⟨o,ho,hc,hd⟩:=id hit;obtain⟨oa,hoa,_,hda⟩:=hs.obj;unfold Eu;refine Ab ⇑137;refine Ab (Aj ?_);refine Ab (Gb ho hd ?_);dsimp only;refine Ab ⇑138;rw[if_neg (by rw[hn];simp)];refine Ab (FN hb ⋯ hs ?_);have b1:E1 t.place (0:Int).toNat=0:=by rw[hp];exact BK.1
 rw[b1,hp,he];show A1 _ _ (setField (.ref I) 0 (Cu ((j+1:Nat):Int))>>=_) _ _ _;refine Ab ⇑136;have ho2:=Bw (Obj.mapFields (·.setIfInBounds 0 (Cu ((j+1:Nat):Int)))) ho (Di (B8 hd _));have hd2:=B8 hd (·.setIfInBounds 0 (Cu ((j+1:Nat):Int)));refine Ab (Dd ho2 hd2 (by simp) (Aj ⟨x.2,rfl,Aj (hQ _ ?_ ((Bn ..).trans (Bn ..)))⟩));exact⟨_,Bw _ ho2 (Di (B8 hd2 _)),(Ey ..).trans ((Ey ..).trans hc),by
  rw[B8 hd2];simp[Cu]⟩
theorem zP(hh:A.handled=af)(hb:c7 w=ai)(h1:es.size<=1)(hk:es[E1 t.place k]?=af)(hit:SetIt s.heap I (.int (k:Int) 0) i a n ep)(hs:SetTb w s.heap a es ep t)(hn:es.size=n)
  (hQ:∀h',Heap.ExtBut I s.heap h'->Q af {s with heap:=h'}):A1 ⇑13 A (Eu (.ref I)) Q E s:=by
 obtain⟨o,ho,hc,hd⟩:=id hit;obtain⟨oa,hoa,_,hda⟩:=hs.obj;unfold Eu;refine Ab ⇑137;refine Ab (Aj ?_);refine Ab (Gb ho hd ?_);dsimp only;refine Ab ⇑138;rw[if_neg (by rw[hn];simp)];refine Ab (FN hb h1 hs ?_);rw[Br,hk];dsimp only;refine Ab ⇑136;refine Ab ?_;simp only[newExc,newTuple];refine Ab (Bx ?_ ⇑97);refine Ab (m:=Eg _ _) (Ha (a:=Bi) ⇑144 ?_);refine Bx ?_ ⇑97;sleep 28
 first|rw[show A.in1.handled=af from hh]|rw[hh]
 refine Ab (Aj (wpAny_throw ?_));refine Ab (Er (T:="StopIteration") (b:=ah) ⟨_,Aw _ rfl,rfl⟩ isSubtype_stop ?_);exact Aj (hQ _ (((Bn ..).extBut.push _).push _))
end
section
variable{prog:Bh}{w:Bt}{A:B1}{E:Ag->Ak->Prop}{s:Ak}{a:Addr}{ep:Nat}{es:Array (Int×Ag)}{t:Fk}
def ku(vs:List (Int×Ag))(i:Nat)(v:Ag):Prop:=∃e,vs[i]?=ae e/\v=e.2
structure SetWk(prog:Bh)(w:Bt)(sz:Nat)(h':Heap)(a I:Addr)(vs:List (Int×Ag)):Prop where
 above:sz<=I
 walk:∃(fp:List Addr)(St:Nat->Heap->Prop),(∀b∈fp,b=a\/sz<=b)/\(∀b∈fp,b < h'.objs.size)/\(∀A:B1,A.handled=af->Walks prog w A I fp [I] vs.length (ku vs) St)/\St 0 h'
theorem Sj{α:Type}{xs:Array α}{d:α}(h:j < xs.size):xs[j]?=ae (xs.getD j d):=by
 simp[h]
theorem LC{ys:List Nat}(hp:ys.Perm (A5 n))(hn:es.size=n):(ys.map λj=>es.getD j (0,Bi)).Perm es.toList:=by
 have h1:=hp.map λj=>es.getD j ((0:Int),Bi);have h2:(A5 n).map (λj=>es.getD j ((0:Int),Bi))=es.toList:=by
  apply F4 (by simp[hn]);intro i h1 h2;simp at h2;simp[h2]
 rw[h2]at h1;exact h1
theorem SJ{ys:List Nat}(hne:a≠I)(hTI:T≠I)(hp:ys.Perm (A5 n))(hn:es.size=n)(A:B1)(hh:A.handled=af):
  Walks prog w A I [I,a,T] [I] (ys.map λj=>es.getD j (0,Bi)).length (ku (ys.map λj=>es.getD j (0,Bi)))
   (λi h=>SetIt h I (.ref T) i a n ep/\SetTb w h a es ep t/\h.IsTuple T (ys.map λ(j:Nat)=>Value.int (j:Int) 0).toArray) where
 sub:=λb hb=>by simp at hb;simp[hb]
 frame:=λ_ _ _ st hk=>⟨st.1.move λo e=>hk I (by simp) o e,st.2.1.move λo e=>hk a (by simp) o e,let⟨o,e,r⟩:=st.2.2;⟨o,hk T (by simp) o e,r⟩⟩
 item:=λi s Q E hi st hQ=>by
  rw[Aa]at hi;have hj:ys[i] < es.size:=by rw[hn];exact Cb.mp (hp.mem_iff.mp (Cq hi))
  refine Jb (j:=ys[i]) st.1 st.2.1 hn st.2.2 (by simp[hi]) (Sj (d:=(0,Bi)) hj) λh' hit' hs'=>?_;refine hQ _ h' s.toks ⟨_,by rw[Am,Ae hi];rfl,rfl⟩ ⟨hit',st.2.1.move λo e=>(hs'.2 a hne).trans e,let⟨o,e,r⟩:=st.2.2;⟨o,(hs'.2 T hTI).trans e,r⟩⟩ λb o hb e=>hs'.extBut b o ⇑106 e
 done:=λs Q E st hQ=>Ml hh st.1 st.2.1 hn st.2.2 (by simp) λh' he'=>hQ h' s.toks λb o hb e=>he' b o ⇑106 e
 self:=λ_ _ _ _ st hQ=>nX st.1 hQ
theorem Kq(hb:c7 w=ah)(hne:a≠I)(hn:es.size=n)(A:B1)(hh:A.handled=af):
  Walks prog w A I [I,a] [I] (j7 w a ep es).toList.length (ku (j7 w a ep es).toList) (λi h=>SetIt h I (.int 0 0) i a n ep/\SetTb w h a es ep t) where
 sub:=λb hb=>by simp at hb;simp[hb]
 frame:=λ_ _ _ st hk=>⟨st.1.move λo e=>hk I (by simp) o e,st.2.move λo e=>hk a (by simp) o e⟩
 item:=λi s Q E hi st hQ=>by
  rw[B9]at hi;have hx:(j7 w a ep es)[i]?=ae (j7 w a ep es)[i]:=Co hi;refine UB hb st.1 st.2 hn hx λh' hit' hs'=>?_;exact hQ _ h' s.toks ⟨_,by rw[Dy];exact hx,rfl⟩ ⟨hit',st.2.move λo e=>(hs'.2 a hne).trans e⟩ λb o hb e=>hs'.extBut b o ⇑106 e
 done:=λs Q E st hQ=>Li hh hb st.1 st.2 hn (by simp) λh' he'=>hQ h' s.toks λb o hb e=>he' b o ⇑106 e
 self:=λ_ _ _ _ st hQ=>nX st.1 hQ
theorem N2(hb:c7 w=ai)(hn:es.size=0)(A:B1)(hh:A.handled=af):
  Walks prog w A I [I,a] [I] ([]:List (Int×Ag)).length (ku []) (λ_ h=>SetIt h I (.int ((0:Nat):Int) 0) 0 a 0 ep/\SetTb w h a es ep t) where
 sub:=λb hb=>by simp at hb;simp[hb]
 frame:=λ_ _ _ st hk=>⟨st.1.move λo e=>hk I (by simp) o e,st.2.move λo e=>hk a (by simp) o e⟩
 item:=λi s Q E hi st hQ=>by simp at hi
 done:=λs Q E st hQ=>zP (k:=0) hh hb ⋯ (by rw[Array.getElem?_eq_none];omega) st.1 st.2 hn λh' he'=>hQ h' s.toks λb o hb e=>he' b o ⇑106 e
 self:=λ_ _ _ _ st hQ=>nX st.1 hQ
theorem QG(hb:c7 w=ai)(hne:a≠I)(he:es=#[x])(hp:t.place=#[j])(A:B1)(hh:A.handled=af):
  Walks prog w A I [I,a] [I] [x].length (ku [x]) (λi h=>((i=0/\SetIt h I (.int 0 0) 0 a 1 ep)\/(i=1/\SetIt h I (.int ((j+1:Nat):Int) 0) 1 a 1 ep))/\SetTb w h a es ep t) where
 sub:=λb hb=>by simp at hb;simp[hb]
 frame:=λ_ _ _ st hk=>⟨st.1.imp (λz=>⟨z.1,z.2.move λo e=>hk I (by simp) o e⟩) (λz=>⟨z.1,z.2.move λo e=>hk I (by simp) o e⟩),st.2.move λo e=>hk a (by simp) o e⟩
 item:=λi s Q E hi st hQ=>by
  have hi0:i=0:=by simpa using hi
  subst hi0;rcases st.1 with⟨_,z⟩|⟨z,_⟩
  ·refine QS hb hp he z st.2 λh' hit' hs'=>?_;exact hQ _ h' s.toks ⟨x,rfl,rfl⟩ ⟨.inr ⟨rfl,hit'⟩,st.2.move λo e=>(hs'.2 a hne).trans e⟩ λb o hb e=>hs'.extBut b o ⇑106 e
  ·cases z
 done:=λs Q E st hQ=>by
  rcases st.1 with⟨z,_⟩|⟨_,z⟩
  ·cases z
  ·refine zP (k:=j+1) hh hb (by rw[he];exact Aq 1) ?_ z st.2 (by rw[he];rfl) λh' he'=>hQ h' s.toks λb o hb e=>he' b o ⇑106 e;rw[hp,BK.2,he];rfl
 self:=λi s Q E st hQ=>by
  rcases st.1 with⟨_,z⟩|⟨_,z⟩
  ·exact nX z hQ
  ·exact nX z hQ
theorem Oe(hs:SetTb w s.heap a es ep t)(h64:es.size < 64)
  (h:∀(h':Heap)(dr:Drawn)(I:Addr)(vs:List (Int×Ag)),vs.Perm es.toList->⇑135->SetWk prog w s.heap.objs.size h' a I vs->Q (.ref I) {s with heap:=h',drawn:=dr}):
  A1 ⇑13 A (pyIter (.ref a)) Q E s:=by
 obtain⟨oa,hoa,hex,hda⟩:=hs.obj;have hlt:=hs.lt;refine wpAny_pyIter_slot hs.typeIs F.slot_set_iter (Ce F.slot_set_iter hs.typeIs Qy ?_ (F.args_set_iter_1 _));refine Ab (Aj ?_);refine Ab (Ab (En hoa hda hs.fits (Aj ?_)));refine Ab ?_;unfold setDrawn;refine Ab (F1 hoa hda hs.fits ?_);dsimp only;refine Ab (rA ?_);refine Aj ?_
 split
 ·rename_i hd;refine Ab (CZ es.size (A5 es.size) s (by simp) λys dr hp=>?_);have hly:ys.length=es.size:=by rw[hp.length_eq,Eb]
  refine Ab (wpAny_newTuple ?_ (by rw[Aa,hly,Fo];omega));have hoa1:=Af ({cls:=.type "tuple",data:=.seq (ys.map λ(i:Nat)=>Cu i).toArray}:Obj) hoa;refine Ab (wpAny_setEpoch_of hoa1 hda hs.fits ?_);refine Ab (Bx (Aj ⟨_,rfl,"set_iterator",_,⟨_,Aw _ rfl,rfl⟩,slot_setit_next.lookup,?_⟩));have hT:(s.heap.push ({cls:=.type "tuple",data:=.seq (ys.map λ(i:Nat)=>Cu i).toArray}:Obj)).get? s.heap.objs.size=ae {cls:=.type "tuple",data:=.seq (ys.map λ(i:Nat)=>Cu i).toArray}:=Aw _ rfl;refine h _ dr _ (ys.map λj=>es.getD j (0,Bi)) (LC hp rfl) (λb o e=>Af _ (Af _ e)) ⟨by rw[Ci];exact Nat.le_succ _,[_,a,s.heap.objs.size],_,λb hb=>?_,λb hb=>?_,λA hh=>SJ (t:=t) (ep:=ep) (T:=s.heap.objs.size) (by rw[Ci];exact Bd (Ed hlt)) (by rw[Ci];exact Bd (Eo _)) hp rfl A hh,⟨⟨_,Aw _ rfl,rfl,rfl⟩,hs.move λo e=>Af _ (Af _ e),⟨_,Af _ hT,rfl,_,rfl⟩⟩⟩
  ·simp only[Ax,A8,or_false]at hb;rcases hb with rfl|rfl|rfl
   ·rw[Ci];exact .inr (Nat.le_succ _)
   ·exact .inl rfl
   ·exact .inr (Aq _)
  ·simp only[Ax,A8,or_false]at hb;rw[Ci,Ci];rcases hb with rfl|rfl|rfl
   ·rw[Ci];exact Eo _
   ·exact Ed (Ed hlt)
   ·exact Ed (Eo _)
 ·rename_i hd;refine Ab (Aj ?_);refine Ab (wpAny_setEpoch_of hoa hda hs.fits ?_);refine Ab (Bx (Aj ⟨_,rfl,"set_iterator",_,⟨_,Aw _ rfl,rfl⟩,slot_setit_next.lookup,?_⟩));have hit:SetIt (s.heap.push {cls:=.type "set_iterator",data:=.fields #[Cu 0,Cu 0,.ref a,Cu es.size,Cu ep]}) s.heap.objs.size (.int 0 0) 0 a es.size ep:=⟨_,Aw _ rfl,rfl,rfl⟩;have hst:SetTb w (s.heap.push {cls:=.type "set_iterator",data:=.fields #[Cu 0,Cu 0,.ref a,Cu es.size,Cu ep]}) a es ep t:=hs.move λo e=>Af _ e;have kp:∀b o,s.heap.get? b=ae o->(s.heap.push {cls:=.type "set_iterator",data:=.fields #[Cu 0,Cu 0,.ref a,Cu es.size,Cu ep]}).get? b=ae o:=λb o e=>Af _ e;have f1:∀b∈[s.heap.objs.size,a],b=a\/s.heap.objs.size<=b:=λb hb=>by
   simp only[Ax,A8,or_false]at hb;rcases hb with rfl|rfl
   ·exact .inr (Aq _)
   ·exact .inl rfl
  have f2:∀b∈[s.heap.objs.size,a],b < (s.heap.push {cls:=.type "set_iterator",data:=.fields #[Cu 0,Cu 0,.ref a,Cu es.size,Cu ep]}).objs.size:=λb hb=>by
   simp only[Ax,A8,or_false]at hb;rw[Ci];rcases hb with rfl|rfl
   ·exact Eo _
   ·exact Ed hlt
  have hne:a≠s.heap.objs.size:=Bd hlt;cases hb:c7 w with
  |true=>exact h _ s.drawn _ (j7 w a ep es).toList (SW _ _) kp ⟨Aq _,[s.heap.objs.size,a],_,f1,f2,λA hh=>Kq (t:=t) hb hne rfl A hh,⟨hit,hst⟩⟩
  |false=>
   have hd0:¬((!c7 w&&(!t.plain&&decide (es.size > 1)))=ah):=hd;have hd':(!c7 w&&(!t.plain&&decide (es.size > 1)))=ai:=by simpa using hd0
   have h1:es.size<=1:=by
    rw[hb]at hd';by_cases hz:es.size<=1
    ·exact hz
    ·have hg:decide (es.size > 1)=ah:=decide_eq_true ⋯;rw[hg]at hd';have hpl:t.plain=ah:=by simpa using hd'
     have:=hs.plain hpl;omega
   by_cases h0:es.size=0
   ·have e0:es.toList=[]:=G3 (by simpa using h0);refine h _ s.drawn _ [] (by rw[e0]) kp ⟨Aq _,[s.heap.objs.size,a],_,f1,f2,λA hh=>N2 (t:=t) (ep:=ep) hb h0 A hh,⟨?_,hst⟩⟩;rw[h0]at hit ⊢;exact hit
   ·have h1':es.size=1:=by omega
    obtain⟨x,hx⟩:∃x,es=#[x]:=by
     have:es.toList.length=1:=by simpa using h1'
     obtain⟨x,hx⟩:=List.length_eq_one_iff.mp this;exact⟨x,F0.mp hx⟩
    have hps:t.place.size=1:=by
     have:=hs.fits;simp only[SetTable.fits,Cc,beq_iff_eq]at this;rw[this.1,h1']
    obtain⟨j,hj⟩:∃j,t.place=#[j]:=by
     have:t.place.toList.length=1:=by simpa using hps
     obtain⟨x,hx⟩:=List.length_eq_one_iff.mp this;exact⟨x,F0.mp hx⟩
    refine h _ s.drawn _ [x] (by rw[hx]) kp ⟨Aq _,[s.heap.objs.size,a],_,f1,f2,λA hh=>QG (t:=t) (ep:=ep) hb hne hx hj A hh,⟨.inl ⟨rfl,?_⟩,hst⟩⟩;rw[h1']at hit ⊢;exact hit
end
theorem Km:entryFor table "proto.collect"=ae Ek.«proto.collect»:=G6 ⇑79
theorem Ln:entryFor table "list.__iadd__"=ae Ek.«list.__iadd__»:=G6 ⇑79
section
variable{prog:Bh}{w:Bt}{A:B1}{E:Ag->Ak->Prop}{s:Ak}{a:Addr}{ep:Nat}{es:Array (Int×Ag)}{t:Fk}
theorem IU(hT:s.TypeIs (.ref a) "set")(h:Q ai s):A1 ⇑13 A (Fb (.ref a)) Q E s:=by
 unfold Fb;refine Ab (Hj hT F.slot_set_len.lookup ?_);generalize hid:("set.__len__":String)=id0
 wp_delta
 rw[show splitId id0=ae ("set","__len__")from by subst hid;decide +kernel];subst hid;refine Ab (Er (T:="set") (b:=ah) hT (by rw[Fi];kernel_rfl) ?_);refine Gm (λhab=>absurd hab ∎) (λ_=>?_);refine Gm (λ_=>?_) (λhab=>absurd ∅ hab);refine Ab (Gf hT ?_);exact Aj h
theorem Mb(hh:A.handled=af)(hs:SetTb w s.heap a es ep t)(h64:es.size < 64)(S)(hSa:S≠a)(res)(hS:s.heap.get? S=ae {cls:=.type "list",data:=.seq #[]})
  (hR:∀h' tk dr (vs:List (Int×Ag)) acc c,vs.Perm es.toList->(∀b o,b≠S->s.heap.get? b=ae o->h'.get? b=ae o)->h'.get? S=ae {cls:=.type "list",dict:=af,data:=.seq acc c,slots:=#[]}->ItemsOf (ku vs) acc vs.length->R (.ok (.ret res)) {s with heap:=h',toks:=tk,drawn:=dr}):
  A1 ⇑13 A.in1 (Cz (.ref S) (.ref a) res)
   (λfin s'=>match fin with|.done f=>R (.ok f) s'|.again c'=>c'.quiet=ah/\F2 ⇑13 A c' R s') (λe s'=>R (.error e) s') s:=by
 unfold Cz;refine Ab (Gf (T:="set") hs.typeIs ?_);have h1:Fs (.ref S) (.ref a)=ai:=by simp[Fs,hSa]
 have h2:(Dv "set"==Dv "list")=ai:=by decide
 have h3:(Dv "set"==Dv "tuple")=ai:=by decide
 simp only[h1,h2,h3,Bool.or_false,B3,if_false];refine Ab (Oe (A:=A.in1) hs h64 λh' dr I vs hp hk hw=>?_);obtain⟨hI,fp,St,hf1,hf2,W,st⟩:=hw;have hSlt:S < s.heap.objs.size:=As hS;have hSf:S∉fp:=λhm=>(hf1 S hm).elim hSa λz=>D7 _ (Bq hSlt z);have hS1:=hk S _ hS;have hlen:vs.length=es.size:=by rw[hp.length_eq,B9]
 have key:∀(h:Heap)(c₁ tk:Nat),St 0 h->(∀b o,b≠S->s.heap.get? b=ae o->h.get? b=ae o)->
   h.get? S=ae {cls:=.type "list",data:=.seq #[] c₁}->F2 ⇑13 A (.builtin "list.extend.loop" ⟨[.ref S,.ref I,res],[]⟩) R {s with heap:=h,toks:=tk,drawn:=dr}:=by
  intro h c₁ tk hst hk2 hS₁;refine codeAny_extend_loopS (W A.in1 hh).toS (by rw[hlen,Fo];omega) S hSf res vs.length 0 _ #[] c₁ rfl (A6 _) hst hS₁ (ItemsOf.nil _) λs' acc' c' hm hS' hacc=>?_;rw[Moved.eq_with hm];refine hR s'.heap s'.toks dr vs acc' c' hp (λb o hb e=>hm.heap b o (λhmem=>?_) (hk2 b o hb e)) hS' hacc;rcases Ax.mp hmem with e'|hmem
  ·exact hb e'
  ·have hbI:=Ba.mp hmem;exact absurd (As e) (by rw[hbI];exact Nat.not_lt.mpr hI)
 refine Ab (Cf (IU (s:={ s with heap:=h',drawn:=dr}) (hs.move λo e=>hk a o e).typeIs ?_));refine Gm (λ_=>?_) (λ_=>Aj ⟨Fv Hd _,key _ 0 _ st (λb o _ e=>hk b o e) hS1⟩);refine Ab (G5 ?_);refine Ab ?_;show A1 _ _ (updateSeq S (·.push .none)>>=λ_=>updateSeq S (·.pop)) _ _ _;refine Ab (wpAny_updateSeq hS1 rfl ?_);have hS₂:=Bw (Cy (·.push Bi)) hS1 rfl;refine wpAny_updateSeq (hz:=by seq_fits) hS₂ rfl ?_;have hS₃:=Bw (Cy (·.pop)) hS₂ rfl;refine Aj ⟨Fv Hd _,key _ _ _ ?_ (λb o hb e=>?_) hS₃⟩
 ·refine(W A hh).frame 0 _ _ st λb hb o e=>?_;have hbS:b≠S:=λh=>hSf (h▸hb);exact(Dw _ _ (Ne.symm hbS)).trans ((Dw _ _ (Ne.symm hbS)).trans e)
 ·exact(Dw _ _ (Ne.symm hb)).trans ((Dw _ _ (Ne.symm hb)).trans (hk b o e))
theorem CB(h:ItemsOf (ku vs) acc vs.length):acc.toList=vs.map (·.2):=by
 apply List.ext_getElem?;intro i;by_cases hi:i < vs.length
 ·have hi2:i < acc.size:=by rw[h.1];exact hi
  obtain⟨e,e1,e2⟩:=h.2 i acc[i] (Co hi2);rw[Am,e1,Dy,Co hi2,e2];rfl
 ·rw[Cj (by rw[B9,h.1];omega),Cj ⇑22]
theorem OX(hh:A.handled=af)(hs:SetTb w s.heap a es ep t)(h64:es.size < 64)
  (h:∀(h':Heap)(tk:Nat)(dr:Drawn)(vs:List (Int×Ag)),vs.Perm es.toList->⇑135->R (vs.map (·.2)) {s with heap:=h',toks:=tk,drawn:=dr}):
  A1 ⇑13 A (collect (.ref a)) R E s:=by
 unfold collect;refine Ab (wpAny_runValue (E3 Km ?_));rw[D6 PySem.F.plain_proto_collect _];show A1 _ A.in1 (newList []>>=λl=>again (.builtin "list.__iadd__" ⟨[l,.ref a],[]⟩)) _ _ s;refine Ab (Bx ?_);refine Aj ⟨Fv PySem.F.plain_list_iadd _,E3 Ln ?_⟩;rw[D6 PySem.F.plain_list_iadd _];have hS₁:(s.heap.push {cls:=.type "list",data:=.seq ([]:List Ag).toArray}).get? s.heap.objs.size=ae {cls:=.type "list",data:=.seq #[]}:=Aw _ rfl;show A1 _ A.in1 (Cz ⇑35 (.ref a) ⇑35) _ _ _;have key:=Mb (prog:=prog) (A:=A) (s:={ s with heap:=s.heap.push {cls:=.type "list",data:=.seq ([]:List Ag).toArray}})
  (R:=λ(q:Result)(s':Ak)=>∃(h':Heap)(tk:Nat)(dr:Drawn)(vs:List (Int×Ag))(acc':Array Ag)(c':Nat),q=.ok (.ret ⇑35)/\s'={ s with heap:=h',toks:=tk,drawn:=dr}/\vs.Perm es.toList /\
   ⇑135/\h'.get? s.heap.objs.size=ae {cls:=.type "list",dict:=af,data:=.seq acc' c',slots:=#[]}/\ItemsOf (ku vs) acc' vs.length)
  hh (hs.move λo e=>Af _ e) h64 s.heap.objs.size (Em hs.lt) ⇑35 hS₁
  (λh' tk dr vs acc' c' hp hk hS' hacc=>⟨h',tk,dr,vs,acc',c',rfl,rfl,hp,λb o e=>hk b o (Bd (As e)) (Af _ e),hS',hacc⟩)
 refine Dr key (λfin s' x=>?_) λe s' x=>?_
 ·cases fin with
  |done f=>
   obtain⟨h',tk,dr,vs,acc',c',e,rfl,hp,hk,hS',hacc⟩:=x;cases e;show A1 _ A (load s.heap.objs.size>>=_) _ _ _;refine Ab (wpAny_load hS' ?_);refine Aj ?_;rw[CB hacc];exact h h' tk dr vs hp hk
  |again c₁=>
   refine⟨x.1,codeAny_mono x.2 λq s₂ y=>?_⟩;obtain⟨h',tk,dr,vs,acc',c',rfl,rfl,hp,hk,hS',hacc⟩:=y;show A1 _ A (load s.heap.objs.size>>=_) _ _ _;refine Ab (wpAny_load hS' ?_);refine Aj ?_;rw[CB hacc];exact h h' tk dr vs hp hk
 ·obtain⟨_,_,_,_,_,_,z,_⟩:=x;cases z
end
def d7(w:Bt):Obj:={ cls:=.type "set",dict:=af,data:=.set #[] 0 (.fresh 0 0 (!c7 w))}
section
variable{prog:Bh}{w:Bt}{A:B1}{E:Ag->Ak->Prop}{s:Ak}
theorem Lw(e:h.get? a=ae (d7 w)):iH w h a []:=
 ⟨#[],0,.fresh 0 0 (!c7 w),⟨⟨_,e,⟨rfl,rfl,rfl⟩,rfl⟩,rfl,rfl,λ_=>rfl⟩,λe he=>by simp at he,List.Pairwise.nil,λk=>by simp[cI],Aq _⟩
theorem L6(a)(h:Q₁ ⇑35 {s with heap:=s.heap.push (d7 w)}):
  F2 ⇑13 A (.call (.builtin "set.__new__") ⟨[.type "set",a],[]⟩) (wants Q₁ E) s:=by
 refine codeAny_of_tree ?_;show A1 _ A.in1 (do checkBuiltinCall "set.__new__" ⟨[.type "set",a],[]⟩;again (.builtin "set.__new__" ⟨[.type "set",a],[]⟩)) _ _ s;refine Ab (Ha (F.newCall_set_1 a) (Aj ⟨Fv F.plain_set_new _,E3 F.entry_set_new ?_⟩));rw[D6 F.plain_set_new _];unfold Ek.«set.__new__» Builtin.Frozenset.newClass;have hsub:=sub_set_self;obtain⟨hp,g,d,tk,os⟩:=s;dsimp only
 wp_walk
 refine wpAny_askSetting (Aj ?_);dsimp only;simp only[newObj];exact Ab (wpAny_alloc (Aj (Aj h)))
structure TxSrc(prog:Bh)(w:Bt)(T:String)(x:Addr)(ks:List Str)(OK:Heap->Prop):Prop where
 type:∀s:Ak,OK s.heap->s.TypeIs (.ref x) T
 there:∀h:Heap,OK h->x < h.objs.size
 keep:∀h h':Heap,OK h->(∀o,h.get? x=ae o->h'.get? x=ae o)->OK h'
 notSet:isSubtype (.type T) (.type "set")=pure ai
 notFrozen:isSubtype (.type T) (.type "frozenset")=pure ai
 notDict:(Dv T==Dv "dict")=ai
 iter:∀s:Ak,OK s.heap->∃(oI:Obj)(St:Nat->Heap->Prop),
  (∀(A:B1)(E:Ag->Ak->Prop)(Q:Ag->Ak->Prop),Q ⇑35 {s with heap:=s.heap.push oI}->A1 ⇑13 A (pyIter (.ref x)) Q E s) /\
  (∀A:B1,A.handled=af->Walks prog w A s.heap.objs.size [s.heap.objs.size,x] [s.heap.objs.size] ks.length (iX ks) St)/\St 0 (s.heap.push oI)
set_option maxHeartbeats 3200000 in
theorem IA(K:TxSrc prog w T x ks OK)(hh:A.handled=af)(hok:OK s.heap)(h64:ks.length < 64)
  (h:∀(h':Heap)(tk:Nat),iH w h' s.heap.objs.size ks->(∀b o,b < s.heap.objs.size->s.heap.get? b=ae o->h'.get? b=ae o)->Q ⇑35 {s with heap:=h',toks:=tk}):
  A1 ⇑13 A (call (.type "set") [.ref x]) Q E s:=by
 obtain⟨c,tl,hmro⟩:=F.called_set.mro;have hmade:=F.called_set.made;have hsub:=F.called_set.sub;refine wpAny_call (codeAny_of_tree ?_);show A1 _ _ (callAny (.type "set") _) _ _ _;refine Aj ⟨Code.quiet_builtin _ ∅,E3 F.entry_type_call ?_⟩;rw[Around.under_plain (weight_type_call_type "set" [.ref x] []) rfl];have h1:=F.called_set.notType;have h2:=F.called_set.canCreate;have hct:=F.typeCall_set_1 (.ref x)
 repeat (any_goals (first|assumption|wp_step))
 refine codeAny_mono (L6 (.ref x) (E:=E) (Q₁:=λobj s₁=>obj=.ref s.heap.objs.size/\s₁={ s with heap:=s.heap.push (d7 w)}) ⟨rfl,rfl⟩) λr s₁ hr=>?_;cases r with
 |error e=>exact hr
 |ok fl=>
  cases fl with
  |ret obj=>
   obtain⟨rfl,rfl⟩:=hr;have hS:(s.heap.push (d7 w)).get? s.heap.objs.size=ae (d7 w):=Aw _ rfl;have hT:Shared.TypeIs {s with heap:=s.heap.push (d7 w)} ⇑35 "set":=⟨_,hS,rfl⟩;have hli:=F.called_set.init.lookup;have hbi:=F.called_set.init.bind ⇑35
   repeat (any_goals (first|assumption|wp_step))
   refine codeAny_mono (codeAny_call_builtin (R:=wants (λr s₂=>r=.none/\∃h' tk,s₂={ s with heap:=h',toks:=tk}/\iH w h' s.heap.objs.size ks /\
     (∀b o,b < s.heap.objs.size->s.heap.get? b=ae o->h'.get? b=ae o)) E) F.called_set.init.plain F.entry_set_init (check_set_init_1 hT ?_)) λr₂ s₂ hr₂=>?_
   ·have hok1:OK (s.heap.push (d7 w)):=K.keep _ _ hok λo e=>Af _ e;have hTx:Shared.TypeIs {s with heap:=s.heap.push (d7 w)} (.ref x) T:=K.type {s with heap:=s.heap.push (d7 w)} hok1;have hsls:=K.notSet;have hslf:=K.notFrozen;have hne:=K.notDict;unfold Ek.«set.__init__» noKeywords Builtin.Frozenset.updateFrom;generalize hPI:pyIter=PI
    wp_walk
    subst hPI;have hh3:A.in1.in1.in1.handled=af:=by simp[hh]
    obtain⟨oI,St,hit,W,st⟩:=K.iter {s with heap:=s.heap.push (d7 w)} hok1;refine hit _ _ _ ?_;refine Ab (wpAny_runValue ?_);have hxS:x < s.heap.objs.size:=K.there _ hok;have hSf:s.heap.objs.size∉[(s.heap.push (d7 w)).objs.size,x]:=by
     rw[Ci];simp only[Ax,Ba,A8,or_false,not_or];exact⟨Bd (Eo _),Em hxS⟩
    refine SR (W _ hh3).toS s.heap.objs.size hSf rfl h64 (ks.length-0) 0 _ ⋯ (A6 _) st (Lw (Af _ hS)) ?_;intro s' hm hS';obtain⟨h',g',d',tk',os'⟩:=s';have eg:g'=s.gens:=hm.gens;have ed:d'=s.drawn:=hm.drawn;have eo:os'=s.os:=hm.os;subst eg;subst ed;subst eo;show A1 _ _ _ _ _ _;refine Aj ?_;show A1 _ _ (ret Bi) _ _ _;refine Aj ⟨rfl,h',tk',rfl,hS',λb o hb e=>?_⟩;have hb1:b≠s.heap.objs.size:=Bd hb;have hb2:b≠(s.heap.push (d7 w)).objs.size:=by
     rw[Ci];exact Bd (Ed hb)
    exact hm.heap b o (by simp only[Ax,Ba,A8,or_false,not_or];exact⟨hb1,hb2⟩) (Af _ (Af _ e))
   ·cases r₂ with
    |error e=>exact hr₂
    |ok fl₂=>
     cases fl₂ with
     |ret r=>
      obtain⟨rfl,h',tk,rfl,hS',hk'⟩:=hr₂
      repeat (any_goals (first|assumption|wp_step))
      exact h _ _ hS' hk'
     |_=>exact hr₂.elim
  |_=>exact hr.elim
theorem Nz(hk:∀i v,items[i]?=ae v->iX ks i v)(hl:items.size=ks.length):TxSrc prog w "list" x ks (λh=>h.IsList x items) where
 type:=λs h=>h.typeIs
 there:=λh hl=>let⟨_,e,_⟩:=hl;As e
 keep:=λh h' hl k=>let⟨o,e,r⟩:=hl;⟨o,k o e,r⟩
 notSet:=by rw[Fi];kernel_rfl
 notFrozen:=by rw[Fi];kernel_rfl
 notDict:=by decide
 iter:=λs hok=>⟨_,(λi h=>h.IsListIter s.heap.objs.size x i/\h.IsList x items),(λA E Q hq=>Gz hok hq),(λA hh=>by
  have W:=Walks.list (prog:=prog) (w:=w) hh s.heap.objs.size x (Bd (let⟨_,e,_⟩:=hok;As e)) items;refine⟨W.sub,W.frame,λi s Q E hi st hQ=>W.item i s Q E (by rw[hl];exact hi) st λv h' tk hv a b=>hQ v h' tk (hk i v hv) a b,?_,W.self⟩;rw[<-hl];exact W.done),⟨⟨_,Aw _ rfl,rfl,rfl⟩,hok.push _⟩⟩
theorem Nc(hk:∀i v,items[i]?=ae v->iX ks i v)(hl:items.size=ks.length):TxSrc prog w "tuple" x ks (λh=>h.IsTuple x items) where
 type:=λs h=>h.typeIs
 there:=λh hl=>let⟨_,e,_⟩:=hl;As e
 keep:=λh h' hl k=>let⟨o,e,r⟩:=hl;⟨o,k o e,r⟩
 notSet:=by rw[Fi];kernel_rfl
 notFrozen:=by rw[Fi];kernel_rfl
 notDict:=by decide
 iter:=λs hok=>⟨_,(λi h=>h.IsTupleIter s.heap.objs.size x i/\h.IsTuple x items),(λA E Q hq=>D9 hok hq),(λA hh=>by
  have W:=Walks.tuple (prog:=prog) (w:=w) hh s.heap.objs.size x (Bd (let⟨_,e,_⟩:=hok;As e)) items;refine⟨W.sub,W.frame,λi s Q E hi st hQ=>W.item i s Q E (by rw[hl];exact hi) st λv h' tk hv a b=>hQ v h' tk (hk i v hv) a b,?_,W.self⟩;rw[<-hl];exact W.done),⟨⟨_,Aw _ rfl,rfl,rfl⟩,hok.push _⟩⟩
end
def iC(w:Bt)(v:Addr)(ks:List Str):HO:=.ext λh=>iH w h v ks
def wJ(w:Bt):List V->Hp->VK->Prop:=λxs H Q=>∃(a:Addr)(ks:List Str),xs=[.ref a]/\(H a=ae (.lst (ks.map V.str))\/H a=ae (.tup (ks.map V.str)))/\ks.length < 64/\∀v,H v=af->Q (.ref v) (upd H v (iC w v ks))
theorem yv(h:Vals (ks.map V.str) vs)(i)(v)(e:vs.toArray[i]?=ae v):iX ks i v:=by
 have e':vs[i]?=ae v:=by simpa using e
 have hl:=h.length;rw[Aa]at hl;have hi:i < ks.length:=by rw[hl];exact(Ar.mp e').1
 obtain⟨u,hu,ru⟩:=h.get (show(ks.map V.str)[i]?=ae (V.str ks[i]) by rw[Am,Ae hi];rfl);rw[e']at hu;cases hu;obtain⟨t,ht⟩:=ru;exact⟨ks[i],t,Ae hi,ht⟩
theorem zc{ks:List Str}(h:Vals (ks.map V.str) vs):vs.toArray.size=ks.length:=by
 have hl:=h.length;rw[Aa]at hl;rw[A2,<-hl]
theorem MY(hh:X.A.handled=af):CallR X (.type "set") (wJ X.w):=by
 sleep 11;obtain⟨a,ks,rfl,ha,h64,q⟩:=h;sleep 18;cases(show u=A4 a from ru);have fin:∀(h':Heap)(tk:Nat),iH X.w h' s.heap.objs.size ks->(∀b o,b < s.heap.objs.size->s.heap.get? b=ae o->h'.get? b=ae o)->EP X pins σ Q ⇑35 {s with heap:=h',toks:=tk}:=λh' tk hS hk=>by
  have hob:∃o,h'.get? s.heap.objs.size=ae o:=by
   obtain⟨es,ep,t,T,_⟩:=hS;obtain⟨o,e,_⟩:=T.obj;exact⟨o,e⟩
  refine⟨.ref s.heap.objs.size,_,I.laid (t':=tk) (o:=iC X.w s.heap.objs.size ks) (λb o e=>hk b o (As e) e) (Aq _) ⟨hS,hob,λh1 h2 q k=>?_⟩,rfl,q _ ⇑89⟩;obtain⟨es,ep,t,T,r⟩:=q;exact⟨es,ep,t,T.move λo e=>k _ e,r⟩
 rcases ha with ha|ha
 ·obtain⟨hl,vs,c,hv,hL⟩:=I.hok a _ ha;exact IA (Nz (yv hv) (zc hv)) hh ⟨_,hL,rfl,_,rfl⟩ h64 fin
 ·obtain⟨hl,vs,hv,o,ho,hc,⟨n,hd⟩,_⟩:=I.hok a _ ha;exact IA (Nc (yv hv) (zc hv)) hh ⟨o,ho,hc,n,hd⟩ h64 fin
theorem Inv.drew{σ:St}(I:Inv X pins σ H s)(dr):Inv X pins σ H {s with drawn:=dr}:=⟨I.ok,I.os,I.bare,I.base,I.loc,I.cell,I.free,I.freeC,I.pin,I.hok,I.len⟩
theorem Kd{σ:St}{h':Heap}(I:Inv X pins σ H s)(hkp:∀b o,s.heap.get? b=ae o->h'.get? b=ae o)(hT:iM vs ks)(h64:ks.length < 64)
  (q:∀(D:Addr)(ys:List Str),ys.Perm ks->ys.Pairwise ⇑96->H D=af->Q (.ref D) (upd H D (.lst (ys.map V.str)))):
  vs.length<=Az/\A1 ⇑14 X.A.in1.in1 (Ek.«list.sort» ⟨[.ref h'.objs.size],[]⟩) (λf s2=>f=.done (.ret .none)/\EP X pins σ Q (.ref h'.objs.size) s2) X.xe {s with heap:=h'.push ⇑58,toks:=tk}:=by
 have hl:=hT.1;refine⟨by rw[hl];exact fG ⋯,?_⟩;have hoL:(h'.push ⇑58).get? h'.objs.size=ae ⇑58:=Aw _ rfl;have hs':∀b o,s.heap.get? b=ae o->b≠h'.objs.size:=λb o e=>Bd (As (hkp b o e));have fin:∀(idx:List Nat)(h3:Heap)(c:Nat),idx.Perm (A5 ks.length)->(idx.map λi=>ks.getD i ⟨#[]⟩).Pairwise ⇑96->
   (∀b o,b≠h'.objs.size->(h'.push ⇑58).get? b=ae o->h3.get? b=ae o)->h3.get? h'.objs.size=ae (Ck "list" (C3 (idx.map λi=>vs.getD i Bi)) c)->EP X pins σ Q (.ref h'.objs.size) {s with heap:=h3,toks:=tk}:=λidx h3 c hp hw k3 hL=>by
  have I1:Inv X pins σ H {s with heap:=h',toks:=tk}:=I.kept hkp;have hn:H h'.objs.size=af:=I1.hok.fresh (Aq _);refine⟨.ref h'.objs.size,_,I1.laid (t':=tk) (h':=h3) (o:=.lst ((idx.map λi=>ks.getD i ⟨#[]⟩).map V.str)) (λb o e=>k3 b o (Bd (As e)) (Af _ e)) (Aq _) ⟨?_,_,c,vU hT idx (λi hi=>Cb.mp (hp.mem_iff.mp hi)),hL⟩,rfl,q _ _ (HV hp) hw hn⟩;rw[Aa,Aa,hp.length_eq,Eb];exact fG ⋯
 by_cases h2:2<=vs.length
 ·refine KS.ls_sort (s:={ s with heap:=h'.push ⇑58,toks:=tk}) hoL h2 ⋯ λe1 h4 ha4 k4=>?_;refine kas_kind (s:={ s with heap:=h4,toks:=tk}) (T:=Dv "str") h2 (λf hf=>?_) rfl rfl ?_
  ·obtain⟨j,hj⟩:=Bz.mp hf;obtain⟨k,t,_,rfl⟩:=hT.2 j f hj;exact .now
  ·have hn:0 < vs.length:=by omega
   have hwi:=KS.wi_sort hn;refine KS.wp_run (n:=vs.length) (P:=KS.Pm vs.length) (c:=KS.ltK ks) (St:=λs'=>s'={ s with heap:=h4,toks:=tk}) (λi j C s' hi hj hs hC=>?_) _ _ hwi rfl λs' hs'=>?_
   ·subst hs;obtain⟨k1,t1,a1,a2⟩:=hT.2 i vs[i] (Ae hi);obtain⟨k2,t2,b1,b2⟩:=hT.2 j vs[j] (Ae hj);unfold kas_ask;have g1:vs.getD i Bi=.str k1 t1:=by simp[hi,a2]
    have g2:vs.getD j Bi=.str k2 t2:=by simp[hj,b2]
    rw[g1,g2];have c1:ks.getD i ⟨#[]⟩=k1:=by simp[a1]
    have c2:ks.getD j ⟨#[]⟩=k2:=by simp[b1]
    have:=hC _ rfl;unfold KS.ltK at this;rw[c1,c2]at this;exact kas_lt_str this
   ·subst hs';refine⟨ha4,λh3 c sb hL3=>⟨rfl,?_⟩⟩;have hpm:KS.Pm vs.length (KS.run (KS.ltK ks) (kas_sort vs.length)):=KS.Wi.out _ hwi;have hsp:=KS.sort_ok (KS.ordK ks) (n:=vs.length) hn;have hsz:=hpm.size;have hidx:(KS.run (KS.ltK ks) (kas_sort vs.length)).toList.Perm (A5 vs.length):=by
     have:=He.mp hpm;simpa using this
    refine fin _ h3 c (by rw[<-hl];exact hidx) (xP hsz hsp) (λb o hb e=>(sb.2 b hb).trans (k4 b o hb e)) hL3
 ·refine KS.ls_short (s:={ s with heap:=h'.push ⇑58,toks:=tk}) hoL ⋯ λh4 c ha4 k4=>⟨rfl,?_⟩;have el:vs=(A5 ks.length).map λi=>vs.getD i Bi:=by
   apply F4 (by simp[hl]);intro i h1 h2;simp[h1]
  have ha5:h4.get? h'.objs.size=ae (Ck "list" (C3 ((A5 ks.length).map λi=>vs.getD i Bi)) c):=by rw[<-el];exact ha4
  refine fin (A5 ks.length) h4 c (List.Perm.refl _) ?_ k4 ha5;have:(A5 ks.length).length<=1:=by simp;omega
  match hr:A5 ks.length,this with
  |[],_=>exact .nil
  |[i],_=>exact Ea _ _
def wL(w:Bt):List V->Hp->VK->Prop:=λxs H Q=>∃(v:Addr)(ks:List Str),xs=[.ref v]/\H v=ae (iC w v ks)/\ks.length < 64 /\
 ∀(D:Addr)(ys:List Str),ys.Nodup->(∀k,k∈ys↔k∈ks)->ys.Pairwise ⇑96->H D=af->Q (.ref D) (upd H D (.lst (ys.map V.str)))
theorem OW{es vs:List (Int×Ag)}(h:∀e∈es,∃k t,e.2=.str k t/\e.1=hashStr w k)(p:vs.Perm es):iM (vs.map (·.2)) (vs.map λe=>fR e.2):=by
 refine⟨by rw[Aa,Aa],λj v hj=>?_⟩;rw[Am]at hj;cases e:vs[j]? with
 |none=>rw[e]at hj;cases hj
 |some x=>
  rw[e]at hj;obtain⟨k,t,e1,_⟩:=h x (p.mem_iff.mp (A0 e));have hv:x.2=v:=Bb hj;refine⟨k,t,?_,hv▸e1⟩;rw[Am,e];show ae (fR x.2)=ae k;rw[e1];rfl
theorem P9(hh:X.A.handled=af):CallR X ⇑111 (wL X.w):=by
 sleep 11;obtain⟨v,ks,rfl,hv,h64,q⟩:=h;sleep 18;cases(show u=A4 v from ru);obtain⟨es,ep,t,T,hx,nd,hm,hl⟩:=(I.hok v _ hv).1;have h64':es.size < 64:=Fl hl h64;refine KS.sorted_of (R:=λvs s1=>∃(h':Heap)(tk:Nat)(dr:Drawn)(ys:List Str),s1={ s with heap:=h',toks:=tk,drawn:=dr}/\⇑135/\iM vs ys/\ys.Nodup/\(∀k,k∈ys↔k∈ks)/\ys.length < 64)
  (OX hh T h64' λh' tk dr vs hp hk=>?_) ?_
 ·have pk:(vs.map λe=>fR e.2).Perm (cI es):=List.Perm.map (λe:Int×Ag=>fR e.2) hp;exact⟨h',tk,dr,vs.map λe=>fR e.2,rfl,hk,OW hx hp,pk.nodup_iff.mpr nd,λk=>pk.mem_iff.trans (hm k),by rw[Aa,hp.length_eq,B9];exact h64'⟩
 rintro vs s1 ⟨h',tk,dr,ys,rfl,hkp,hT,nd',hm',h64'⟩
 exact Kd (s:={ s with drawn:=dr}) (I.drew dr) hkp hT h64' λD zs hp hw hD=>q D zs (hp.nodup_iff.mpr nd') (λk=>hp.mem_iff.trans (hm' k)) hw hD
theorem zQ{α:Type}(lt:α->α->Prop)[∀a b,Decidable (lt a b)](gM:∀a,¬lt a a)(tr:∀a b c,lt a c->lt c b->lt a b)(f:Nat->α):∀k,argBest (λi j=>decide (lt (f i) (f j))) k<=k/\∀j,j<=k->¬lt (f j) (f (argBest (λi j=>decide (lt (f i) (f j))) k))
 |0=>⟨Aq _,λj hj=>by cases Nat.le_zero.mp hj;exact gM _⟩
 |k+1=>by
  obtain⟨h1,h2⟩:=zQ lt gM tr f k;unfold argBest;by_cases hc:lt (f (k+1)) (f (argBest (λi j=>decide (lt (f i) (f j))) k))
  ·rw[if_pos (decide_eq_true hc)];refine⟨Aq _,λj hj=>?_⟩;by_cases e:j=k+1
   ·subst e;exact gM _
   ·exact λz=>h2 j ⋯ (tr _ _ _ z hc)
  ·rw[if_neg (by simpa using hc)];refine⟨Nat.le_succ_of_le h1,λj hj=>?_⟩;by_cases e:j=k+1
   ·subst e;exact hc
   ·exact h2 j ⋯
end L2
namespace DL
open PySem L2 Nb
section
variable{X:Cx}{o:Expr}{td:TE}{wd':DT}{pos p p2 ip:Pos}{W:Bt}
def i8(ys:List Str):Prop:=ys.Pairwise λa b=>¬b.cps.toList < a.cps.toList
def xB(w:DT):fg:=λδ n Q=>w δ n λx n1=>∃ks:List Str,(x=.d (.list ⇑28)\/x=.d (.tuple ⇑28))/\ks.length < 64/\(∀k∈ks,k.length<=1000) /\
 ∀ys:List Str,ys.Nodup->(∀k,k∈ys↔k∈ks)->i8 ys->Q (ys.map .str) n1
theorem AW{α:Type}:∀{xs ys:List α},xs.Nodup->(∀x∈xs,x∈ys)->xs.length<=ys.length
 |[],_,_,_=>A6 _
 |x::xs,ys,nd,h=>by
  obtain⟨h1,h2⟩:=Ee.mp nd;obtain⟨l,r,e⟩:=List.append_of_mem (h x Au);have:=AW (ys:=l++r) h2 λz hz=>by
   have hm:=h z (Ap _ hz);rw[e]at hm;rcases A9.mp hm with q|q
   ·exact Dn _ q
   ·rcases Ax.mp q with q|q
    ·exact absurd (q▸hz) h1
    ·exact Bk _ q
  rw[e];simp only[Ay,An]at this ⊢;omega
theorem xy:∀{xs:List V}{ks:List Str},RdXs H B xs ⇑28->xs=ks.map V.str
 |[],[],_=>rfl
 |_::_,[],h=>nomatch h
 |[],_::_,h=>nomatch h
 |x::xs,k::ks,.cons h t=>by
  cases h;rw[xy t];rfl
theorem Lf(hh:X.A.handled=af)(hg:Gl X "sorted")(hm:X.mg "sorted"=af)(hg2:Gl X "set")(hm2:X.mg "set"=af)(ho:DE X o td wd')(hW:X.w=W:=by rfl)(hv:Bv "sorted"=ae ⇑111:=by decide +kernel)(hv2:Bv "set"=ae (.type "set"):=by decide +kernel)
  (he2:Av [o] X.env=(ai,eval o X.env)::Av [] X.env:=by rfl) (hpl2:(C8 ip ⇑65).any (·.1)=ai:=by rfl)
  (he':Av [Expr.Call (.Name "set" p2) [o] [] ip] X.env=(ai,eval (Expr.Call (.Name "set" p2) [o] [] ip) X.env)::Av [] X.env:=by rfl) (hpl:(C8 pos ⇑65).any (·.1)=ai:=by rfl):
  DF X (.Call (.Name "sorted" p) [.Call (.Name "set" p2) [o] [] ip] [] pos) (fZ (wL W) (bU (fZ (wJ W) (bU td bq)) bq)) (xB wd'):=by
 subst hW;refine⟨kE (P9 hh) hg hm hv (cR (om (MY hh) hg2 hm2 hv2 (cR ho.pe fh he2) ∎ ∎ he2 hpl2) fh he') ∎ ∎ he' hpl,λC H B σ δ n Q Q' R q k=>
  ho.sd C H B σ δ n _ _ R q λv x H1 n1 R1 k1 r1 q1=>?_⟩
 obtain⟨ks,hx,h64,hk,kq⟩:=q1;have key:∀a:Addr,v=.ref a->(H1 a=ae (.lst (ks.map V.str))\/H1 a=ae (.tup (ks.map V.str)))->fZ (wL X.w) (bU (λσ H Q=>wJ X.w [v] H Q) bq) σ H1 Q':=λa ea ha=>by
  subst ea;refine⟨a,ks,rfl,ha,h64,λu hu=>⟨u,ks,rfl,bH,h64,λD ys nd hm hw hD=>?_⟩⟩;have R2:=R1.new (o:=iC X.w u ks) hu;have hD1:H1 D=af:=by
   cases e:H1 D with
   |none=>rfl
   |some ob=>
    have:upd H1 u (iC X.w u ks) D=ae ob:=by rw[aN (bY e hu)];exact e
    rw[hD]at this;cases this
  have hy:∀y∈ys,y.length<=1000:=λy hy=>hk y ((hm y).mp hy);refine k D _ _ _ n1 (R2.new hD) ((k1.trans (Kp.new hu)).trans (Kp.new hD)) (R1.was k1 hD1) bH ?_ (nU hy) (kq ys nd hm hw);rw[Aa];have:ys.length<=ks.length:=AW nd λy hy=>(hm y).mp hy;exact fG ⋯
 rcases hx with rfl|rfl
 ·cases(show RdX H1 B v (.list ⇑28)from r1)with
  |@lst a xs _ e1 e2 e3 e4=>exact key a rfl (.inl (by rw[e1,xy e4]))
 ·cases(show RdX H1 B v (.tuple ⇑28)from r1)with
  |@tup a xs _ e1 e2 e3 e4=>exact key a rfl (.inr (by rw[e1,xy e4]))
def jb(c:cz)(W:aJ):aJ:=λδ n K=>∃I:Nat->Sl->Int->Prop,(∃m,I m δ n)/\∀m δ n,I m δ n->
 c δ n λb n1=>if b=ah then W δ n1 {nx:=λδ n=>∃m',m' < m/\I m' δ n,rt:=K.rt,bk:=K.nx,ct:=λδ n=>∃m',m' < m/\I m' δ n,rn:=K.rn,rx:=K.rx}else K.nx δ n1
theorem Mn(hc:DC X c tc cc)(hb:DSs X body tb V')(hp:PassesOwn ⇑14 X.A X.env X.xe:=by exact PassesOwn.never):DS X (.While c body [] pos) (yR tc tb) (jb cc V'):=⟨UI hp hc.pt hb.ps,λC H B σ δ n K D R q E=>by
 obtain⟨I,⟨m0,i0⟩,turn⟩:=q;refine⟨λm σ H=>∃B δ n,Rel C H B σ δ n/\I m δ n,⟨m0,B,δ,n,R,i0⟩,λm σ H ⟨B,δ,n,R,i⟩=>?_⟩;refine hc.sd C H B σ δ n _ _ R (turn m δ n i) λb H1 n1 R1 k1 q1=>?_;cases b with
 |true=>
  rw[if_pos rfl]at q1 ⊢;refine⟨λσ' H'=>∃m',m' < m/\∃B δ n,Rel C H' B σ' δ n/\I m' δ n,λσ' H' z=>z,?_⟩;refine hb.sd C H1 B σ δ n1 _ _ R1 q1 ⟨?_,E.rt,?_,?_,E.rn,E.rx⟩
  ·exact λH B σ δ n R ⟨m',hm,z⟩=>⟨m',hm,B,δ,n,R,z⟩
  ·exact E.nx
  ·exact λH B σ δ n R ⟨m',hm,z⟩=>⟨m',hm,B,δ,n,R,z⟩
 |false=>
  rw[if_neg Ai]at q1 ⊢;exact E.nx H1 B σ δ n1 R1 q1⟩
variable{a:Expr}{ta:TE}{wa:DT}{K:Ah}
end
section
variable{X:Cx}{a b c e o i f:Expr}{ta tb te td ty tx:TE}{wa wb we wd' wy wx:DT}{pos p:Pos}{K:Ah}
def cS(i:Nat):DT:=λδ n Q=>match δ[i]? with
 |some ⇑55=>Q (.ln ds) n
 |some (ae (.w x))=>Q x n
 |_=>False
theorem JE(i)(hN:X.N[i]?=ae x:=by rfl)(hv:fC X.env.scope x:=by first|exact Cs rfl|exact Ca (Cs rfl)|exact Ca (Ca rfl))(hd:⇑21=ai:=by decide)
  (hcd:⇑46=ai:=by decide):DE X (.Name x p) (aM i) (cS i):=⟨gh hN hv hd hcd,λC H B σ δ n Q Q' R h k=>by
 unfold cS at h
 split at h
 ·rename_i ds e;obtain⟨v,h1,a,xs,rfl,g2,g3,g4,g5,g6⟩:=R.sl i _ e;exact⟨_,h1,k _ (.ln ds) H n R ⇑19 ⟨a,xs,rfl,g2,λz=>R.t0 (z▸g4),g5,g6⟩ h⟩
 ·rename_i x e;obtain⟨v,h1,h2⟩:=R.sl i _ e;exact⟨v,h1,k v x H n R ⇑19 h2.1 h⟩
 ·exact h.elim⟩
def aV:Wv->Wv->Int->DQ->Prop:=λx y n Q=>match x with
 |.ln ds=>match y with
  |.d (.int i)=>match dv ds i with
   |some d=>Q (.d d) n
   |none=>False
  |_=>False
 |x=>av x y n Q
theorem Pu:bB (lr K) aV:=λC H B σ δ n x y p q Q Q' R rx ry h1 k=>by
 cases p with
 |ln ds=>
  unfold aV at h1;dsimp only at h1
  split at h1
  ·rename_i i
   split at h1
   ·rename_i d e;cases(show RdX H B y (.int i)from ry);obtain⟨ay,ys,rfl,e1,e2,e3,e4⟩:=rx;obtain⟨v,f1,f2⟩:=wW e4 e;exact .inl ⟨ay,ys,i,v,rfl,rfl,SqL.of e1,f1,k _ _ H n R ⇑19 (wd f2) h1⟩
   ·sleep 9
  ·sleep 9
 |d _=>sleep 29
 |tp=>sleep 29
 |dk _=>sleep 29
 |dx _=>sleep 29
 |ob _=>sleep 29
theorem Ox(ha:DE X a ta wa)(hb:DE X b tb wb)(hK:X.K=K:=by rfl)(hs:qK b:=by exact λ_ _=>rfl):DE X (.Subscript a b pos) (d3 (lr K) ta tb) (w2 wa wb aV):=by
 subst hK;exact⟨ie xl ha.pe hb.pe hs,nP Pu ha.sd hb.sd⟩
def e9(neg:Bool):Wv->Wv->Int->DQ->Prop:=λx y n Q=>match y with
 |.ln ds=>match x with
  |.d a=>fB a=ah/\ds.all fB=ah/\Q (.d (.bool (if neg then !bS a ds else bS a ds))) n
  |_=>False
 |y=>fc neg x y n Q
theorem ME:bB (ij K neg) (e9 neg):=λC H B σ δ n x y p q Q Q' R rx ry h1 k=>by
 cases q with
 |ln ds=>
  unfold e9 at h1;dsimp only at h1
  split at h1
  ·rename_i da;obtain⟨f1,f2,q⟩:=h1;have rx:RdX H B x da:=rx;obtain⟨ay,ys,rfl,e1,e2,e3,e4⟩:=ry;refine⟨ay,ys,rfl,.inl (SqL.of e1),lC rx f1,kG e4 f2,?_⟩;rw[kY rx e4];exact k _ _ H n R ⇑19 ⇑44 q
  ·sleep 9
 |d _=>sleep 30
 |tp=>sleep 30
 |dk _=>sleep 30
 |dx _=>sleep 30
 |ob _=>sleep 30
def eZ:List Wv->Int->DQ->Prop:=λxs n Q=>match xs with
 |[.ln ds]=>Q (.d (.int ds.length)) n
 |xs=>bg xs n Q
theorem Tb:dU (uk K) eZ:=λC H B σ δ n vs xs Q Q' R r h k=>by
 unfold eZ at h
 split at h
 ·rename_i ds;cases r with
  |cons r1 r2=>
   cases r2;obtain⟨ay,ys,rfl,e1,e2,e3,e4⟩:=r1;refine .inr ⟨ay,ys,rfl,.inl (SqL.of e1),?_⟩;rw[e4.len];exact k _ _ H n R ⇑19 (wd (.int _)) h
 ·exact wI C H B σ δ n vs xs Q Q' R r h k
def b7:Wv->Wv->Int->DQ->Prop:=λx y n Q=>match x,y with
 |.ln ds,.d (.list [])=>Q (.d (.bool ds.isEmpty)) n
 |x,y=>aZ x y n Q
theorem Ls:bB (kJ K) b7:=λC H B σ δ n x y p q Q Q' R rx ry h1 k=>by
 unfold b7 at h1
 split at h1
 ·rename_i ds;obtain⟨ax,xs,rfl,e1,e2,e3,e4⟩:=rx;cases(show RdX H B y (.list [])from ry)with
  |@lst ay ys _ f1 f2 f3 f4=>
   cases f4;refine .inr (.inr ⟨ax,ay,xs,rfl,rfl,SqL.of e1,SqL.of f1,?_⟩);have:xs.isEmpty=ds.isEmpty:=by cases e4<;>rfl
   rw[this];exact k _ _ H n R ⇑19 ⇑44 h1
 ·exact qV C H B σ δ n x y p q Q Q' R rx ry h1 k
def gX:Wv->Option (List Ad)
 |.ln ds=>ae ds
 |.d ⇑34=>ae ds
 |_=>af
def gp:Wv->Wv->Int->DQ->Prop:=λx y n Q=>match gX x,gX y with
 |some i,ae j=>i.length+j.length<=Az/\Q (.d (.list (i++j))) n
 |_,_=>False
theorem uI(h:WRel H B t v x)(e:gX x=ae ds):∃a xs,v=.ref a/\H a=ae (.lst xs)/\xs.length<=Az/\RdXs H B xs ds:=by
 cases x with
 |ln es=>
  cases e;obtain⟨a,xs,h1,h2,h3,h4,h5⟩:=h;exact⟨a,xs,h1,h2,h4,h5⟩
 |d y=>
  cases y with
  |list es=>
   cases e;cases(show RdX H B v (.list ds)from h)with
   |@lst a xs _ e1 e2 e3 e4=>exact⟨a,xs,rfl,e1,e3,e4⟩
  |_=>cases e
 |tp=>cases e
 |dk _=>cases e
 |dx _=>cases e
 |ob _=>cases e
theorem TJ:bB jY gp:=λC H B σ δ n x y p q Q Q' R rx ry h1 k=>by
 unfold gp at h1
 split at h1
 ·rename_i i j ei ej;obtain⟨ax,xs,rfl,e1,e3,e4⟩:=uI rx ei;obtain⟨ay,ys,rfl,f1,f3,f4⟩:=uI ry ej;obtain⟨hl,q⟩:=h1;have hl':xs.length+ys.length<=Az:=by rw[e4.len,f4.len];exact hl
  refine⟨ax,ay,xs,ys,rfl,rfl,e1,f1,hl',λpn hp=>?_⟩;refine k _ _ _ n (R.new hp) (Kp.new hp) (wd (show RdX _ B _ (.list (i++j))from .lst bH (R.nb hp) (by rw[An];exact hl') ?_)) q;exact((e4.append f4).fresh hp).less λb z=>.inl z
 ·sleep 9
theorem Jz(ha:DE X a ta wa)(hb:DE X b tb wb):DE X (.BinOp a .Add b pos) (d3 jY ta tb) (w2 wa wb gp):=iZ EF TJ ha hb
end
section
variable{X:Cx}{a b c e o i f:Expr}{ta tb te td ty tx:TE}{wa wb we wd' wy wx:DT}{pos p:Pos}{K:Ah}
def cw(w:DT)(g:eQ):aJ:=λδ n K=>w δ n λx n1=>match x with
 |.d d=>g d δ λδ'=>K.nx δ' n1
 |_=>False
theorem Tz(he:DE X e te we)(hg:DG X tg g gd)(hs:swapsWithSole [tg] e pos.line X.env=pure ai:=by rfl)(hw:swappedStores [tg] e X.env=pure af:=by rfl)
  (h1:(C0 [tg] X.env).map (·.2)=[assign tg X.env]:=by rfl):DS X (.Assign [tg] e pos) (bQ te g) (cw we gd):=⟨l8 he.pe hg.pg hs hw h1,λC H B σ δ n K D R q E=>
 he.sd C H B σ δ n _ _ R q λv x H1 n1 R1 k1 r1 q1=>by
  cases x with
  |d d=>exact hg.sd C H1 B σ δ n1 v d _ _ R1 r1 q1 λσ' δ' R' q'=>E.nx _ _ _ _ _ R' q'
  |tp=>sleep 2
  |dk _=>sleep 2
  |dx _=>sleep 2
  |ln _=>sleep 2
  |ob _=>exact q1.elim⟩
def nk:Wv->Option (List Ad)
 |.ln ds=>ae ds
 |.d ⇑34=>ae ds
 |.d ⇑25=>ae ds
 |_=>af
theorem ND(h:WRel H B t v x)(e:nk x=ae ds):∃a xs,v=.ref a/\(SqL K H a xs\/SqT K H a xs)/\xs.length<=Az/\RdXs H B xs ds:=by
 cases x with
 |ln es=>
  cases e;obtain⟨a,xs,h1,h2,h3,h4,h5⟩:=h;exact⟨a,xs,h1,.inl (SqL.of h2),h4,h5⟩
 |d y=>
  cases y with
  |list es=>
   cases e;cases(show RdX H B v (.list ds)from h)with
   |@lst a xs _ e1 e2 e3 e4=>exact⟨a,xs,rfl,.inl (SqL.of e1),e3,e4⟩
  |tuple es=>
   cases e;cases(show RdX H B v (.tuple ds)from h)with
   |@tup a xs _ e1 e2 e3 e4=>exact⟨a,xs,rfl,.inr (SqT.of e1),e3,e4⟩
  |_=>cases e
 |tp=>cases e
 |dk _=>cases e
 |dx _=>cases e
 |ob _=>cases e
def ly(w:DT):fg:=λδ n Q=>w δ n λx n1=>match nk x with
 |some ds=>Q ds n1
 |none=>False
theorem Sv(hg:Gl X "list")(hm:X.mg "list"=af)(ho:DE X o td wd')(hK:X.K=K:=by rfl)(he:Av [o] X.env=(ai,eval o X.env)::Av [] X.env:=by rfl)(hpl:(C8 pos ⇑65).any (·.1)=ai:=by rfl):
  DF X (.Call (.Name "list" p) [o] [] pos) (fZ (zd K) (bU td bq)) (ly wd'):=
 ⟨om (SQ hK) hg hm sH (cR ho.pe fh he) ∎ ∎ he hpl,λC H B σ δ n Q Q' R q k=>ho.sd C H B σ δ n _ _ R q λv x H1 n1 R1 k1 r1 q1=>by
  split at q1
  ·rename_i ds ex;obtain⟨a,xs,rfl,h1,h2,h3⟩:=ND (K:=K) r1 ex;refine⟨a,xs,rfl,h1,λl hl=>?_⟩;exact k l xs ds _ n1 (R1.new hl) (k1.trans (Kp.new hl)) (R1.was k1 hl) bH h2 (h3.fresh hl) q1
  ·exact q1.elim⟩
def gC:List Wv->Int->DQ->Prop:=λxs n Q=>match xs with
 |[.ln ds]=>Q (.d ⇑25) n
 |xs=>eG xs n Q
theorem NY:dU (wm K) gC:=λC H B σ δ n vs xs Q Q' R r h k=>by
 unfold gC at h
 split at h
 ·rename_i ds;cases r with
  |cons r1 r2=>
   cases r2;obtain⟨ay,ys,rfl,e1,e2,e3,e4⟩:=r1;refine⟨ay,ys,rfl,.inl ⟨SqL.of e1,λl hl=>?_⟩⟩;refine k _ _ _ n (R.new hl) (Kp.new hl) (wd (show RdX _ B _ (.tuple ds)from .tup bH (R.nb hl) e3 ?_)) h;exact(e4.fresh hl).less λb z=>.inl z
 ·exact FF C H B σ δ n vs xs Q Q' R r h k
def gv(i:Nat)(w:DT):aJ:=λδ n K=>match δ[i]? with
 |some ⇑55=>w δ n λx n1=>match x with
  |.d (.list es)=>(ds.length < 1000000/\es.length < 1000000)/\K.nx (δ.set i (ae (.own (ds++es)))) n1
  |_=>False
 |_=>False
theorem yn(h:n < 1000000)(h':m < 1000000):n+m<=Az:=by
 have:2000000<=Az:=by decide
 omega
theorem Rh{i:Nat}{xp ap cp:Pos}(hN:X.N[i]?=ae x)(he:DE X e te we)(hv:fC X.env.scope x:=by first|exact Cs rfl|exact Ca (Cs rfl)|exact Ca (Ca rfl))(hd:⇑21=ai:=by decide)
  (hcd:⇑46=ai:=by decide)
  (hbase:attributeBase ⇑29 "extend" X.env (eval ⇑29 X.env)=eval ⇑29 X.env:=by rfl)
  (hfew:((C8 cp (Av [e] X.env)).all (λx=>!x.1)&&(backToKw cp (keywordEach [] X.env)).all (λx=>x.1.isSome)
   && decide ([e].length+([]:List Keyword).length+(if ([]:List Keyword).isEmpty then 0 else 1) < 30))=ah:=by rfl)
  (hline:(ap.endLine==cp.line)=ah:=by rfl) (hs:Av [e] X.env=[⇑33]:=by rfl) (hplain:(C8 cp ⇑65).any (·.1)=ai:=by rfl)
  (hsw:C5 (.Call (.Attribute ⇑29 "extend" ap) [e] [] cp) af pos.line X.env=pure ai:=by rfl):
  DS X (.Expr (.Call (.Attribute ⇑29 "extend" ap) [e] [] cp) pos) (r8 (rB X.K "list" AD (aM i) (bU te bq))) (gv i we):=
 ⟨AS (yU PySem.F.plainAttrs_list PySem.F.slot_list_extend PySem.F.type_list_extend SK ⇑82 (cR he.pe fh hs) hbase hfew hline hs hplain) hsw,λC H B σ δ n K D R q E=>by
  unfold gv at q
  split at q
  ·rename_i ds ei;obtain⟨v,hv,a,xs,rfl,e2,e3,e4,e5,e6⟩:=R.sl i _ ei;refine⟨_,hv,.inl ⟨rfl,_,SqL.of e2⟩,he.sd C H B σ δ n _ _ R q λu y H1 n1 R1 k1 r1 q1=>?_⟩
   split at q1
   ·rename_i es;sleep 23;have e2':=k1 _ _ e2 hat;cases(show RdX H1 B u (.list es)from r1)with
    |@lst b zs _ f1 f2 f3 f4=>
     have hl:xs.length+zs.length<=Az:=by rw[e6.len,f4.len];exact yn q1.1.1 q1.1.2
     refine⟨a,b,xs,zs,rfl,rfl,e2',f1,hl,?_⟩;refine E.nx _ _ _ _ _ (R1.mutOwn ei rfl hv e3 e4 ?_ rfl) q1.2;refine⟨a,xs++zs,rfl,bH,e3,e4,by rw[An];exact hl,?_⟩;refine RdXs.keep (λb o e n=>?_) ((e6.kp k1 R.bt).append f4);rw[aN λ(z:b=a)=>n (z▸e3)];exact e
   ·sleep 2
  ·exact q.elim⟩
theorem JG(H)(B):RdXs H B oB k8:=.cons .non (.cons .non (.cons .non (.cons (.int _) (.cons (.int _) .nil))))
def eW(i:Nat):DT:=λδ n Q=>match δ[i]? with
 |some (ae (.w .tp))=>Q (.ln k8) n
 |_=>False
theorem P4(i){x:Str}{ix:Int}{p p2:Pos}{jj}(hK:X.K=K:=by rfl)(hN:X.N[i]?=ae x:=by rfl)(hv:fC X.env.scope x:=by first|exact Cs rfl|exact Ca (Cs rfl)|exact Ca (Ca rfl))(hd:⇑21=ai:=by decide)
  (hcd:⇑46=ai:=by decide):DE X (.Subscript (.Name x p) (.Constant (.int 3) jj p2) pos) (d3 (lr K) (aM i) (tC (.int 3))) (eW i):=by
 subst hK;refine⟨ie xl ⇑82 cG (λ_ _=>rfl),λC H B σ δ n Q Q' R h k=>?_⟩;unfold eW at h
 split at h
 ·rename_i e;obtain⟨v,h1,h2⟩:=R.sl i _ e;cases(show v=.ref C.t from h2.1);obtain⟨a,b,ho,_⟩:=R.tp.ob;refine⟨_,h1,.inl ⟨C.t,_,3,.ref C.l.g,rfl,rfl,SqL.of ho,fL (j:=3) rfl,k _ (.ln k8) H n R ⇑19 ⟨C.l.g,oB,rfl,R.tp.ag rfl,R.tp.gne,by decide,JG _ _⟩ h⟩⟩
 ·exact h.elim
end
section
variable{X:Cx}{e:Expr}{st:Stmt}{sts:List Stmt}
def RK:aJ:=λ_ _ _=>False
theorem zm:DSs X sts (λ_ _ _=>False) RK:=⟨λ_ _ _ _ _ _ h=>h.elim,λ_ _ _ _ _ _ _ _ _ h _=>h.elim⟩
end
end DL
namespace L2
open PySem PySem.Spec PyProof.Rows
end L2
namespace DL
open PySem L2 Nb
end DL
namespace HT
open PySem PyProof.Rows
open PySem.SeqAt
open PySem.AutoSeq1 (wpAny_loadPart')
open PySem.MeetsSeq PySem.MeetsSeq2 PySem.MeetsSeq3
section
variable{prog:Bh}{w:Bt}{A:B1}{E:Ag->Ak->Prop}{s:Ak}
theorem getItem_tuple_whole{lo hi:Option Int}(ht:IsTup s.heap t items)(hs:s.heap.IsSliceOf sl vl vu .none)(pl:IsPart vl lo)(pu:IsPart vu hi)
  (h0:sIx items.size 0 lo=0) (h1:sIx items.size items.size hi=items.size) (h:Q (.ref t) s):A1 ⇑13 A (getItem (.ref t) (.ref sl)) Q E s:=by
 obtain⟨os,hos,hcs,hds⟩:=id hs;have hTs:s.TypeIs (.ref sl) "slice":=⟨os,hos,hcs⟩;unfold getItem
 try with_reducible refine Cf ?_
 first|refine Ab (Aj ?_)|skip
 refine Ab (wpAny_sequenceKey ht.typeIs ∎ ?_);refine Ab (By (name:=C7 "__getitem__") ht.typeIs Ep
  (Ce Ep ht.typeIs entry_tuple_getitem ?_ (args_tuple_getitem _ _)))
 show A1 _ _ (Gw (.ref t)>>=_) _ _ s;refine Ab (tupleItemsOf_ ht ?_);refine Ab (Gf hTs ?_);rw[if_pos ∎];refine Ab (HY hs pl pu ?_);have hyes:(⇑140==0&&(1:Int)==1&&⇑120==items.size)=ah:=by
  rw[h0,h1];simp
 show A1 _ _ (if (⇑140==0&&(1:Int)==1&&⇑120==items.size)=ah then _ else _) _ _ s;rw[if_pos hyes];unfold Builtin.Tuple.tupleIsExact;refine Ab (Ab (Gf ht.typeIs (Aj ?_)));rw[if_pos ∎];exact Ab (G5 (Aj ⟨_,rfl,Aj h⟩))
end
end HT
namespace L2
open PySem PySem.Spec PyProof.Rows
def nF(K:Ah):V->Option Int->Option Int->Hp->VK->Prop:=λx lo hi H Q=>∃a xs,x=.ref a/\SqT K H a xs/\HT.sIx xs.length 0 lo=0/\HT.sIx xs.length xs.length hi=xs.length/\Q (.ref a) H
theorem SI:SlR X (nF X.K):=by
 intro pins s σ H x v vl vu lo hi sl Q I rx hs pl pu h;obtain⟨a,xs,rfl,hx,h0,h1,q⟩:=h;cases rx;obtain⟨its,r,ht,hz⟩:=I.tuple hx;have hlen:its.toArray.size=xs.length:=by rw[A2];exact r.length.symm
 refine⟨"tuple",_,PyProof.Rows.slot_tuple_getitem.lookup,ht.typeIs,?_⟩;exact HT.getItem_tuple_whole ht hs pl pu (by rw[hlen];exact h0) (by rw[hlen];exact h1) ⟨.ref a,H,I,rfl,q⟩
end L2
namespace DL
open PySem L2 Nb
section
variable{X:Cx}{e:Expr}{te:TE}{we:DT}{pos p2:Pos}{K:Ah}{lo hi:Option Expr}
abbrev mE:=Sl->Int->(Option Int->Int->Prop)->Prop
def eB:mE:=λ_ n Q=>Q af n
def dJ(w:DT):mE:=λδ n Q=>w δ n λx n1=>match x with
 |.d (.int i)=>Q (ae i) n1
 |_=>False
def Mu(t:TO)(w:mE):Prop:=∀(C:Ctx)(H:Hp)(B:Addr->Prop)(σ:St)(δ:Sl)(n:Int)(Q:Option Int->Int->Prop)(Q':Option Int->Hp->Prop),Rel C H B σ δ n->w δ n Q->
 (∀o H' n',Rel C H' B σ δ n'->Kp C.t H H'->Q o n'->Q' o H')->t σ H Q'
structure DOp(X:Cx)(o:Option Expr)(t:TO)(w:mE):Prop where
 po:PO X o t
 sd:Mu t w
theorem TX:DOp X af ze eB:=⟨GN,λC H B σ δ n Q Q' R q k=>k af H n R ⇑19 q⟩
theorem Jq(h:DE X e te we):DOp X (ae e) (Ia te) (dJ we):=⟨Iv h.pe,λC H B σ δ n Q Q' R q k=>h.sd C H B σ δ n _ _ R q λv x H1 n1 R1 k1 r1 q1=>by
 split at q1
 ·rename_i i;cases(show RdX H1 B v (.int i)from r1);exact⟨i,rfl,k (ae i) H1 n1 R1 k1 q1⟩
 ·exact q1.elim⟩
def d6(xs:List Ad)(lo hi:Option Int):List Ad:=(xs.drop (HT.sIx xs.length 0 lo)).take (HT.sIx xs.length xs.length hi-HT.sIx xs.length 0 lo)
def d4(w:DT)(l u:mE):DT:=λδ n Q=>w δ n λx n1=>l δ n1 λa n2=>u δ n2 λb n3=>match x with
 |.d ⇑25=>Q (.d (.tuple (d6 ds a b))) n3
 |_=>False
def xO(K:Ah):V->Option Int->Option Int->Hp->VK->Prop:=λx lo hi H Q=>nj K x lo hi H Q\/nF K x lo hi H Q
theorem NR(he:DE X e te we)(hl:DOp X lo tl wl)(hh:DOp X hi th wh)(hK:X.K=K:=by rfl):DE X (.Subscript e (.Slice lo hi af p2) pos) (Ih (xO K) te tl th) (d4 we wl wh):=by
 subst hK;refine⟨zS (sl_tup.or SI) he.pe hl.po hh.po,λC H B σ δ n Q Q' R q k=>he.sd C H B σ δ n _ _ R q λv x H1 n1 R1 k1 r1 q1=>
  hl.sd C H1 B σ δ n1 _ _ R1 q1 λa H2 n2 R2 k2 q2=>hh.sd C H2 B σ δ n2 _ _ R2 q2 λb H3 n3 R3 k3 q3=>?_⟩
 split at q3
 ·rename_i ds;have r3:RdX H3 B v ⇑25:=(r1.kp k2 R1.bt).kp k3 R2.bt;cases r3 with
  |@tup aa xs _ e1 e2 e3 e4=>
   have kk:=(k1.trans k2).trans k3;by_cases hw:HT.sIx xs.length 0 a=0/\HT.sIx xs.length xs.length b=xs.length
   ·refine .inr ⟨aa,xs,rfl,SqT.of e1,hw.1,hw.2,k _ _ H3 n3 R3 kk (wd (show RdX H3 B _ (.tuple ds)from .tup e1 e2 e3 e4)) ?_⟩;have:d6 ds a b=ds:=by
     unfold d6;rw[<-e4.len,hw.1,hw.2,List.drop_zero,Nat.sub_zero,e4.len,Gx]
    rw[this]at q3;exact q3
   ·refine .inl ⟨aa,xs,rfl,SqT.of e1,hw,λp hp=>?_⟩;refine k _ _ _ n3 (R3.new hp) (kk.trans (Kp.new hp)) (wd (show RdX _ B _ (.tuple (d6 ds a b))from .tup bH (R3.nb hp) (Bj (tQ xs a b) e3) ?_)) q3;unfold d6 fD;rw[<-e4.len];exact(((e4.drop _).take _).fresh hp).less λb z=>.inl z
 ·exact q3.elim
end
end DL
namespace Nb
open PySem L2
end Nb
namespace DL
open PySem L2 Nb
section
variable{X:Cx}{tg a b c e o i f:Expr}{ta tb te td ty tx:TE}{wa wb we wd' wy wx:DT}{pos p:Pos}{K:Ah}
def UP(i:Nat)(w:DT):aJ:=λδ n K=>match δ[i]? with
 |some ⇑55=>w δ n λx n1=>match x with
  |.d (.tuple es)=>(ds.length < 1000000/\es.length < 1000000)/\K.nx (δ.set i (ae (.own (ds++es)))) n1
  |_=>False
 |_=>False
def iK(hs:List Str)(w:DT):DT:=λδ n Q=>w δ n λx n1=>match x with
 |.d a=>fB a=ah/\Q (.d (.bool (bS a ⇑83))) n1
 |_=>False
theorem RA(hl:∀h∈hs,h.length<=1000)(hq:∀H,SqT K H q (hs.map V.str))(h:eF ta wa):eF (d3 (ij K ai) ta (tC (.ref q))) (iK hs wa):=λC H B σ δ n Q Q' R z k=>
 h C H B σ δ n _ _ R z λv x H1 n1 R1 k1 r1 q1=>by
  split at q1
  ·rename_i da;have r1:RdX H1 B v da:=r1;have rs:RdXs H1 B (hs.map V.str) ⇑83:=nU hl;refine⟨q,_,rfl,.inr (hq H1),lC r1 q1.1,kG rs ?_,k _ _ H1 n1 R1 k1 ⇑44 ?_⟩
   ·rw[List.all_map];exact Dq.mpr λ_ _=>rfl
   ·rw[kY r1 rs];exact q1.2
  ·sleep 2
theorem Ul{xp:Pos}(ha:DE X a ta wa)(hg:Gl X x)(hm:X.mg x=ae (.ref q))(hq:∀H,SqT K H q (hs.map V.str))(hl:∀h∈hs,h.length<=1000:=by decide +kernel)(hK:X.K=K:=by rfl)(hd:⇑21=ai:=by decide)
  (hmk:Ct .In (Expr.Name x xp)=ai:=by with_unfolding_all rfl):DC X (.Compare a [.In] [.Name x xp] pos) (gP (d3 (ij K ai) ta (tC (.ref q)))) (cT (iK hs wa)):=
 ⟨kB (qS hK) ha.pe (vL hg hm rfl hd) hmk,lZ (RA hl hq ha.sd)⟩
end
abbrev e7:=List Wv->Int->(List Ad->Int->Prop)->Prop
def mB(S:e7):Sp:=λvs H Q _=>∃(t:Addr)(l:TL)(ns:List Int)(B:Addr->Prop)(ws:List Wv)(n:Int)(Q0:List Ad->Int->Prop),Tp H t l ns n/\B t/\(∀b,B b->H b≠af)/\ARel H B t vs ws/\S ws n Q0 /\
 ∀ds n',Q0 ds n'->∀a xs H',Tp H' t l ns n'->Kp t H H'->H a=af->H' a=ae (.lst xs)->xs.length<=Az->RdXs H' ⇑93 xs ds->Q (.ref a) H'
section
variable{X:Cx}{e:Expr}{es:List Expr}{pos p:Pos}{tR:TA}{wR:dI}{te:TE}{we:DT}
def mj(S:e7)(w:dI):fg:=λδ n Q=>w δ n λxs n1=>S xs n1 Q
theorem QI(h:jr t w):jK (fU (mB S) [] E0 t) (mj S w):=λC H B σ δ n Q Q' R q k=>
 h C H B σ δ n _ _ R q λvs xs H1 n1 R1 k1 r1 q1=>by
  refine⟨C.t,C.l,C.ns,B,xs,n1,Q,R1.tp,R1.bt,R1.ba,by rw[Bp];exact r1,q1,λds n' q2 a ys H' T' k' h0 h1 h2 h3=>?_⟩;exact k a ys ds H' n' (R1.step T' k') (k1.trans k') (R1.was k1 h0) h1 h2 h3 q2
structure HasN(P:Bh)(w:Bt)(K:Ah)(mg:Str->Option Ag)(base:Heap)(k:Nat)(x:Str)(ps:List Str)(S:e7):Prop where
 ex:∃(f:Addr)(fd:Cg),FnOk P w K mg base cx k f fd ps (mB S)/\Binds K fd ps []/\mg x=ae (.ref f)/\Cw K (.ref f)=ah
theorem HasN.mk'(F:Fun K x qual st f fd)(m:mg x=ae (.ref f))(b:Binds K fd ps [])(h:FnOk P w K mg base cx k f fd ps (mB S)):HasN P w K mg base k x ps S:=⟨f,fd,h,b,m,F.kp⟩
theorem Ka(h:HasN X.prog X.w X.K X.mg X.base k x ps S)(hr:Room k X.A)(hg:Gl X x)
  (ha:DA X (e::es) tR wR) (hdb:⇑21=ai:=by decide) (he:Av (e::es) X.env=⇑33::Av es X.env:=by rfl) (hpl:(C8 pos ⇑43).any (·.1)=ai:=by rfl):
  DF X ⇑62 (fU (mB S) [] E0 tR) (mj S wR):=by
 obtain⟨f,fd,h1,h2,h3,h4⟩:=h.ex;exact⟨m9 h1 hr hg h3 h4 h2 .nil mn ha.pa hdb he hpl,QI ha.sd⟩
def vg(w:fg):aJ:=λδ n K=>w δ n K.rn
theorem N3(h:DF X e te w):DS X (.Return (ae e) pos) (gw te) (vg w):=⟨kA h.pe,λC H B σ δ n K D R q E=>
 h.sd C H B σ δ n _ _ R q λa xs ds H' n' R' k' h0 h1 h2 h3 q'=>E.rn H' B σ δ n' a xs ds R' (R.h0 h0) h1 h2 h3 q'⟩
def IB(i:Nat):aJ:=λδ n K=>match δ[i]? with
 |some ⇑55=>K.rn ds n
 |_=>False
theorem EI(i){xp:Pos}(hN:X.N[i]?=ae x:=by rfl)(hv:fC X.env.scope x:=by first|exact Cs rfl|exact Ca (Cs rfl)|exact Ca (Ca rfl))(hd:⇑21=ai:=by decide)
  (hcd:⇑46=ai:=by decide):DS X (.Return (ae ⇑29) pos) (gw (aM i)) (IB i):=⟨kA ⇑82,λC H B σ δ n K D R q E=>by
 unfold IB at q
 split at q
 ·rename_i ds ei;obtain⟨v,hv,a,xs,rfl,e2,e3,e4,e5,e6⟩:=R.sl i _ ei;exact⟨_,hv,E.rn H B σ δ n a xs ds R e4 e2 e5 (e6.less λb z=>z.elim id λe=>e▸e3) q⟩
 ·exact q.elim⟩
theorem RdXs.rev:∀{vs:List V}{ds:List Ad},RdXs H B vs ds->RdXs H B vs.reverse ds.reverse
 |_,_,.nil=>.nil
 |_,_,.cons h r=>by
  rw[Gn,Gn];exact(RdXs.rev r).append (.cons h .nil)
end
section
variable{P:Bh}{w:Bt}{K:Ah}{mg:Str->Option Ag}{base:Heap}
theorem Fun.okN(F:Fun K x qual st f fd)(Sc:FnScope N ps (b8 st))(len:∀ws n Q,S ws n Q->ws.length=ps.length)
  (hbody:∀(cdv:Ag)(A:B1)(outer:List Env)(s:Ak)(H:Hp)(E:XK),Room k ⇑142->
   ∃T W,DSs (cO cx P w K mg base N qual (b8 st) f cdv A outer s H E).nox (fA st) T W/\∀ws n Q,S ws n Q->W (dw N ws) n {nx:=λ_ _=>False,rt:=λ_ _=>False,rn:=Q}):FnOk P w K mg base cx (k+1) f fd ps (mB S):=by
 refine F.ok Sc ⇑109 ⇑110
 ·obtain⟨t,l,ns,B,ws,n,Q0,_,_,_,r,q,_⟩:=h;rw[r.len];exact len ws n Q0 q
 ·obtain⟨t,l,ns,B,ws,n,Q0,T,bt,ba,r,q,kk⟩:=h;obtain⟨T',W,d,hw⟩:=hbody cdv A outer s H E hr;refine⟨T',d.ps,d.sd ⟨t,l,ns,H,B,λ_=>af⟩ H B _ _ n _ _ (rX T bt ba r) (hw ws n Q0 q) ⟨?_,?_,?_,?_,?_,λ_ _ _ _ _ _ _ _ _ _ _ _ _ z=>z.elim⟩⟩
  ·sleep 14
  ·exact λ_ _ _ _ _ _ _ _ _ z=>z.elim
  ·sleep 14
  ·sleep 14
  ·exact λH' B' σ δ n' a xs ds R' h0 h1 h2 h3 q'=>kk _ _ q' a xs H' R'.tp R'.kp h0 h1 h2 (h3.less λb z=>z.elim (λz=>.inl (R'.b0 b z)) .inr)
end
end DL
namespace Nb
open PySem L2
end Nb
namespace DL
open PySem L2 Nb
end DL
namespace L2
open PySem PySem.Spec PyProof.Rows PySem.SeqAt PySem.W
end L2
namespace L2
open PySem PySem.Spec PyProof.Rows
def DEs(h:Heap)(d:Addr)(es:Array G8)(ep:Nat):Prop:=∃o,h.get? d=ae o/\o.ExactDict/\o.data=.dict es ep
end L2
namespace L2
open PySem PySem.Spec PyProof.Rows PySem.SeqAt PySem.W
end L2
namespace L2
open PySem PySem.Spec PyProof.Rows PySem.W
section
variable{prog:Bh}{w:Bt}{A:B1}{E:Ag->Ak->Prop}{s:Ak}{d it:Addr}{es:Array G8}{ep i:Nat}
theorem DEs.ty(x:DEs s.heap d es ep):s.TypeIs (.ref d) "dict":=let⟨o,e,c,_⟩:=x;⟨o,e,c.1⟩
theorem yg(hd:(d==De)=ai)(x:DEs s.heap d es ep)
  (k:Q ⇑35 {s with heap:=s.heap.push {cls:=.type "dict_keyiterator",data:=.fields #[.ref d,.int 0 0,.int es.size 0,.int ep 0]}}):A1 ⇑13 A (pyIter (.ref d)) Q E s:=by
 obtain⟨o,x1,x2,x3⟩:=id x;refine wpAny_pyIter_slot x.ty F.slot_dict_iter (Ce F.slot_dict_iter x.ty F.entry_dict_iter ?_ (F.args_dict_iter_1 _));unfold Ek.«dict.__iter__»;refine Ab ?_;unfold Builtin.Dict.dictSlotNone;refine Ab (wpAny_notOrdered_dict x.ty ?_);refine(show A1 _ _ (pure (A4 d)) _ _ s from Aj ?_);refine(show A1 _ _ (Builtin.Dict.showsAll d>>=_) _ _ s from ?_);unfold Builtin.Dict.showsAll;rw[if_neg (show ¬(d==De)=ah by rw[hd];decide)];refine Ab (Aj (Ab (wpAny_dictEntries x1 x3 (Ab (wpAny_dictEpoch x1 x3 ?_)))));refine Ab (Bx (Aj ⟨_,rfl,"dict_keyiterator",_,⟨_,Aw _ rfl,rfl⟩,F.slot_dict_keyiterator_next.lookup,?_⟩));simpa[Cu]using k
theorem qh(y:s.heap.IsKeyIter it d i es.size ep)(x:DEs s.heap d es ep)
  (hI:i < es.size->∀h',h'.IsKeyIter it d (i+1) es.size ep->C4 it s.heap h'->Q (ae (es.getD i ⟨0,.none,.none⟩).key) {s with heap:=h'})
  (hE:es.size<=i->A.handled=af/\∀h',Heap.ExtBut it s.heap h'->Q af {s with heap:=h'}):A1 ⇑13 A (Eu (.ref it)) Q E s:=by
 obtain⟨u,y1,y2,y3⟩:=id y;obtain⟨o,x1,x2,x3⟩:=id x;unfold Eu;refine Ab (E9 (By (name:=C7 "__next__") y.typeIs F.slot_dict_keyiterator_next (Ce F.slot_dict_keyiterator_next y.typeIs F.entry_dict_keyiterator_next ?_ (F.args_dict_keyiterator_next_1 _))));refine Ab (Aj (Ab (Ab ?_)))
 first|refine Ab (G9 y.typeIs (Aj ?_))|refine Ab (Hr y.typeIs (Aj ?_))
 refine Ab (Gb y1 y3 ?_);simp only[show Builtin.Dict_items.ownsTuple "dict_keyiterator"=ai by decide,B3,if_false];refine(show A1 _ _ (if (A4 d==Bi)=ah then _ else _) _ _ s from ?_);rw[if_neg (show ¬((A4 d==Bi)=ah) by exact Ai)];refine Ab (Aj (Ab (wpAny_dictEntries x1 x3 ?_)));rw[if_neg (show ¬_ by simp)];refine Ab (Aj (Ab (wpAny_dictEpoch x1 x3 ?_)));rw[if_neg (show ¬_ by simp)];refine Aj ?_;by_cases hi:i < es.size
 ·simp only[show ¬((i:Int) < 0) by omega,if_false,Br,Co hi];refine Ab ?_
  first|refine Ab (G9 y.typeIs (Aj ?_))|refine Ab (Hr y.typeIs (Aj ?_))
  refine Ab (wpAny_isOneOf_keyiter y.typeIs ?_);refine(show A1 _ _ (setField (.ref it) 1 (Cu ((i:Int)+1))>>=_) _ _ s from Ab (Dd y1 y3 (by simp) ?_));have z:(s.heap.update it (Obj.mapFields (·.setIfInBounds 1 (Cu ((i:Int)+1))))).IsKeyIter it d (i+1) es.size ep:=
   ⟨_,Bw _ y1 (Di (B8 y3 _)),(Ey ..).trans y2,by rw[B8 y3];simp[Cu]⟩
  refine Ab (Cf (Ab (wpAny_isOneOf_keyiter (s:={ s with heap:=s.heap.update it (Obj.mapFields (·.setIfInBounds 1 (Cu ((i:Int)+1))))}) z.typeIs ?_)));have kk:=hI hi _ z (Bn ..);rw[show es.getD i ⟨0,.none,.none⟩=es[i] by simp[hi]]at kk;exact(show A1 _ _ (pure es[i].key) _ _ _ from Aj (Aj ⟨_,rfl,Aj kk⟩))
 ·obtain⟨hh,kk⟩:=hE ⋯;simp only[show ¬((i:Int) < 0) by omega,if_false,Br,Array.getElem?_eq_none (show es.size<=i by omega)];refine Ab ?_
  first|refine Ab (G9 y.typeIs (Aj ?_))|refine Ab (Hr y.typeIs (Aj ?_))
  refine(show A1 _ _ (setField (.ref it) 0 .none>>=_) _ _ s from Ab (Dd y1 y3 (by simp) ?_));refine(show A1 _ _ (newExc (.type "StopIteration") []>>=_) _ _ _ from Ab ?_);simp only[newExc,newTuple];refine Ab (Bx (Ab (m:=Eg _ _) (Ha (a:=Bi) ⇑144 (Bx ?_ ⇑97))) ⇑97);sleep 28;rw[show A.in1.handled=af by exact hh];refine Ab (Aj (wpAny_throw (?_:A1 _ _ _ _ _ _)));refine Ab (Er (T:="StopIteration") (b:=ah) ⟨_,Aw _ rfl,rfl⟩ isSubtype_stop (?_:A1 _ _ _ _ _ _));exact Aj (kk _ (((Bn ..).extBut.push _).push _))
theorem DEs.keep(x:DEs h d es ep)(k:∀o,h.get? d=ae o->h'.get? d=ae o):DEs h' d es ep:=let⟨o,e,r⟩:=x;⟨o,k o e,r⟩
theorem Qt(lo:(d==De)=ai):KdlSrc prog w "dict" d d es.size (λi v=>(es[i]?).map (·.key)=ae v) (λh=>DEs h d es ep) where
 type:=λ_ x=>x.ty
 there:=λ_ x=>let⟨_,e,_⟩:=x;⟨As e,As e⟩
 keep:=λ_ _ x k=>x.keep λo e=>k d ⇑27 o e
 notList:=by decide
 notTuple:=by decide
 hint:=λ_ _ _ _ x q=>kdl_hint_dict x.ty q
 iter:=λA s hh x=>by
  obtain⟨ob,x1,x2⟩:=id x;have hlt:d < s.heap.objs.size:=As x1;refine⟨{cls:=.type "dict_keyiterator",data:=.fields #[.ref d,.int 0 0,.int es.size 0,.int ep 0]},λi h=>h.IsKeyIter s.heap.objs.size d i es.size ep/\DEs h d es ep,λ_ _ q=>yg lo x q,?_,⟨_,Aw _ rfl,rfl,rfl⟩,x.keep λo e=>Af _ e⟩;exact
   { sub:=λb hb=>by simp at hb;simp[hb],frame:=λ_ _ _ st hk=>⟨st.1.at λo e=>hk _ (by simp) o e,st.2.keep λo e=>hk d (by simp) o e⟩,item:=λi s' Q E hi st hQ=>qh st.1 st.2 (λhi' h' z sb=>hQ _ h' s'.toks (by simp[hi]) ⟨z,st.2.keep λo e=>sb.extBut d o (Bd hlt) e⟩ λb o hb e=>sb.extBut b o ⇑106 e) (λz=>absurd hi ⋯),done:=λs' Q E st hQ=>qh st.1 st.2 (λz=>absurd z ⋯) (λ_=>⟨hh,λh' he=>hQ h' s'.toks λb o hb e=>he b o ⇑106 e⟩),self:=λ_ _ _ _ st hQ=>wpAny_pyIter_keyiter st.1 hQ}
end
end L2
namespace L2
open PySem PySem.Spec PyProof.Rows PySem.SeqAt PySem.W
end L2
namespace DL
open PySem L2 Nb
end DL
namespace L2
open PySem PySem.Spec PyProof.Rows PySem.SeqAt PySem.W
end L2
namespace DL
open PySem L2 Nb
end DL
namespace HT
open PySem PyProof.Rows
end HT
namespace L2
open PySem PySem.Spec PyProof.Rows
end L2
namespace DL
open PySem L2 Nb
end DL
namespace L2
open PySem PySem.Spec PyProof.Rows PySem.SeqAt
end L2
namespace DL
open PySem L2 Nb
end DL
namespace L2
open PySem PySem.Spec PyProof.Rows
end L2
namespace DL
open PySem L2 Nb
end DL
namespace L2
open PySem PySem.Spec PyProof.Rows
def vN(K:Ah):R2:=λx y H Q=>∃a b ys,x=.ref a/\y=.ref b/\SqT K H a []/\SqT K H b ys/\Q (.ref b) H
theorem M0:OpR X (Fj .Add) (vN X.K):=by
 sleep 8;obtain⟨a,b,ys,rfl,rfl,ha,hb,q0⟩:=h;cases(show v=A4 a from rx);cases(show u=A4 b from ry);obtain⟨its,r1,p1,_⟩:=I.tuple ha;obtain⟨its2,r2,p2,_⟩:=I.tuple hb;obtain⟨⟨cls,dd,data,sl⟩,ho,hc,n,hd⟩:=id p1;obtain⟨⟨cls2,dd2,data2,sl2⟩,ho2,hc2,n2,hd2⟩:=id p2;simp only at hc hd hc2 hd2;subst hc hd hc2 hd2;have hi:its=[]:=r1.nil_iff.mpr rfl;exact concat_meets ⟨_,ho,rfl⟩ ⟨_,ho2,rfl⟩ noFill_tuple_add seq_tuple_add Gh Ge (F7 _ _)
  (tuple_addW0 a b its.toArray its2.toArray n n2 dd dd2 sl sl2 (by simp[hi])) ⟨ho,ho2,⟨.ref b,H,I,rfl,q0⟩⟩
end L2
namespace DL
open PySem L2 Nb
section
variable{X:Cx}{a b:Expr}{ta tb:TE}{wa wb:DT}{pos p:Pos}{K:Ah}
def f6:Wv->Wv->Int->DQ->Prop:=λx y n Q=>match x,y with
 |.d (.tuple []),.d (.tuple j)=>Q (.d (.tuple j)) n
 |x,y=>lT x y n Q
theorem Md:bB (λx y H Q=>qx K x y H Q\/vN K x y H Q) f6:=λC H B σ δ n x y p q Q Q' R rx ry h1 k=>by
 unfold f6 at h1
 split at h1
 ·rename_i j;cases(show RdX H B x (.tuple [])from rx)with
  |@tup ax xs _ e1 e2 e3 e4=>
   cases(show RdX H B y (.tuple j)from ry)with
   |@tup ay ys _ f1 f2 f3 f4=>
    cases e4;exact .inr ⟨ax,ay,ys,rfl,rfl,SqT.of e1,SqT.of f1,k _ _ H n R ⇑19 (wd (show RdX H B _ (.tuple j)from .tup f1 f2 f3 f4)) h1⟩
 ·exact .inl (Ts C H B σ δ n x y _ _ Q Q' R rx ry h1 k)
theorem K5(ha:DE X a ta wa)(hb:DE X b tb wb)(hK:X.K=K:=by rfl):DE X (.BinOp a .Add b pos) (d3 (λx y H Q=>qx K x y H Q\/vN K x y H Q) ta tb) (w2 wa wb f6):=by
 subst hK;exact iZ (op_addA.or M0) Md ha hb
end
end DL
namespace L2
open PySem PySem.Spec PyProof.Rows
end L2
namespace DL
open PySem L2 Nb
end DL
namespace L2
open PySem PySem.Spec PyProof.Rows
end L2
namespace DL
open PySem L2 Nb
end DL
namespace L2
open PySem PySem.Spec PyProof.Rows
theorem LI(bs:List Bool):((A5 bs.length).any λi=>(bs[i]?).getD ah)=bs.any id:=by
 apply Dx.mpr;rw[Dc,Dc]
 constructor
 ·rintro⟨i,hi,e⟩
  have hi':=Cb.mp hi;rw[Ae hi']at e;exact⟨_,Cq hi',e⟩
 ·rintro⟨b,hb,e⟩
  obtain⟨i,hi⟩:=Bz.mp hb;exact⟨i,Cb.mpr (Ar.mp hi).1,by rw[hi];exact e⟩
theorem JP(hh:X.A.handled=af):CallR X (.builtin "any") (λxs H Q=>∃(p:Addr)(bs:List Bool),xs=[.ref p]/\H p=ae (.lst (bs.map V.bl))/\Q (.bl (bs.any id)) H):=by
 sleep 11;obtain⟨p,bs,rfl,hp,q⟩:=h;sleep 18;cases(show u=A4 p from ru);obtain⟨its,rv,pl,_⟩:=I.list (SqL.of (K:=X.K) hp);have hl:s.heap.IsList p its.toArray:=pl.isList;have hlt:p < s.heap.objs.size:=by obtain⟨_,e,_⟩:=hl;exact As e
 have hlen:bs.length=its.length:=by have:=rv.length;rwa [Aa]at this
 refine call_any_walk (Gz hl ?_);refine⟨s.heap.objs.size,[s.heap.objs.size,p],[s.heap.objs.size],its.toArray.size,_,_,λi=>(bs[i]?).getD ah,rfl,Walks.list (A:=X.A.in1) hh _ p (Bd hlt) its.toArray,
  ⟨⟨_,Aw _ rfl,rfl,rfl⟩,hl.push _⟩,λi v s' Q' E' hP hQ=>?_,λh' tk hk=>?_⟩
 ·have hi:its[i]?=ae v:=by simpa using hP
  have hib:i < bs.length:=by rw[hlen];exact(Ar.mp hi).1
  have hx:(bs.map V.bl)[i]?=ae (V.bl bs[i]):=by simp[hib]
  obtain⟨u,hu,ru⟩:=rv.get hx;rw[hi]at hu;cases(Bb hu);cases(show v=Value.bool bs[i]from ru);dsimp only at hQ;rw[Ae hib,Option.getD_some]at hQ;exact Dk hQ
 ·have e:((A5 its.toArray.size).any λi=>(bs[i]?).getD ah)=bs.any id:=by
   rw[A2,<-hlen];exact LI bs
  rw[e];refine⟨.bl (bs.any id),H,I.kept λb x e=>hk b x (λhm=>?_) (Af _ e),rfl,q⟩;rw[Ba.mp hm]at e;exact D7 _ (As e)
end L2
namespace DL
open PySem L2 Nb
def jR:List Wv->Int->DQ->Prop:=λxs n Q=>match xs with
 |[.d ⇑34]=>match jf ds with
  |some bs=>Q (.d (.bool (bs.any id))) n
  |none=>False
 |_=>False
theorem O2:dU (λxs H Q=>∃(p:Addr)(bs:List Bool),xs=[.ref p]/\H p=ae (.lst (bs.map V.bl))/\Q (.bl (bs.any id)) H) jR:=λC H B σ δ n vs xs Q Q' R r h k=>by
 unfold jR at h
 split at h
 ·rename_i ds
  split at h
  ·rename_i bs e;cases r with
   |cons r1 r2=>
    cases r2;cases(show RdX H B _ (.list ds)from r1)with
    |@lst ay ys _ e1 e2 e3 e4=>
     exact⟨ay,bs,rfl,by rw[<-xf e4 e];exact e1,k _ _ H n R ⇑19 ⇑44 h⟩
  ·exact h.elim
 ·exact h.elim
theorem Qp:Bv "any"=ae (.builtin "any"):=by sleep 5
end DL
namespace L2
open PySem PySem.Spec PyProof.Rows
end L2
namespace DL
open PySem L2 Nb
end DL
namespace L2
open PySem PySem.Spec PyProof.Rows
end L2
namespace DL
open PySem L2 Nb
section
variable{X:Cx}{o:Expr}{td:TE}{wd':DT}{pos p p2:Pos}{K:Ah}
def vD:aH->Ad
 |.inl i=>.int i
 |.inr x=>.str x
def oK(k:List aH):Ad:=.tuple (k.map vD)
theorem DJ{k:List aH}:∀{vs:List V},RdXs H B vs (k.map vD)->vs=k.map kV:=by
 induction k with
 |nil=>intro vs h;cases h;rfl
 |cons x k ih=>
  intro vs h;cases h with
  |cons h t=>
   rw[ih t];cases x with
   |inl i=>cases(show RdX H B _ (.int i)from h);rfl
   |inr x=>cases(show RdX H B _ (.str x)from h);rfl
end
theorem zt(ha:DE X a ta wa)(hb:DE X b tb wb):DE X (.BinOp a .Add b pos) (d3 (fQ λi j=>.int (i+j)) ta tb) (w2 wa wb ⇑36):=iZ op_add (GF λ_ _ _ _=>.int _) ha hb
end DL
namespace L2
open PySem PySem.Spec PyProof.Rows
theorem CN(hh:A.handled=af)(it t)(hne:t≠it)(xs:Array Ag):Draws P w A it [it,t] xs.size (λi v=>xs[i]?=ae v) (λi h=>h.IsTupleIter it t i/\h.IsTuple t xs) where
 live:=λ_ _ z=>by obtain⟨⟨o,q,_⟩,_⟩:=z;exact⟨o,q⟩
 frame:=λ_ _ _ z k=>⟨z.1.at λo e=>k it (.head _) o e,z.2.at λo e=>k t (.tail _ (.head _)) o e⟩
 item:=λi s Q E hi z k=>tS z.1 z.2 (x:=xs[i]) (Co hi) λh' a b=>k _ h' s.toks (Co hi) ⟨a,z.2.extBut b.extBut hne⟩ b
 done:=λs Q E z k=>BG hh z.1 z.2 (by simp) k
abbrev sC(h:Heap)(l:Addr):Heap:=h.push {cls:=.type "tuple_iterator",data:=.fields #[.ref l,.int 0 0]}
abbrev tU(h:Heap)(l:Addr):Heap:=(sC h l).push {cls:=.type "enumerate",data:=.fields #[.none,.bool ai,.ref h.objs.size,Cu 0,.none,.none]}
theorem Qi(l)(xs)(n)(dc)(sl):
  Meets (Ek.«enumerate.__new__» ⟨[.type "enumerate",.ref l],[]⟩) (λ_ R s=>s.heap.get? l=ae {cls:=.type "tuple",dict:=dc,data:=.seq xs n,slots:=sl} /\
   R (.ok (.ret (.ref (sC s.heap l).objs.size))) {s with heap:=tU s.heap l}):=
 .of_wp λP w A R s h=>by
  obtain⟨hp,g,d,tk,os⟩:=s;obtain⟨hl,h⟩:=h;have hsub:=sub_enumerate;have hT:Heap.IsTuple (Shared.heap ⟨hp,g,d,tk,os⟩) l xs:=⟨_,hl,rfl,n,rfl⟩
  wp_walk using F5 hl
  refine wpAny_stack_any λst=>Aj ?_
  split
  ·rename_i c _ _ _ _ _;cases(c==Dv "enumerate")
   ·wp_walk using F5 hl,D9 hT
    exact⟨_,rfl,h⟩
   ·wp_walk using F5 hl,D9 hT
    exact⟨_,rfl,h⟩
  ·wp_walk using F5 hl,D9 hT
   exact⟨_,rfl,h⟩
section
variable{prog:Bh}{w:Bt}{A:B1}{E:Ag->Ak->Prop}{s:Ak}
theorem LM(hl:s.heap.IsTuple l xs)
  (h:∀h',IsEnum h' (s.heap.objs.size+1) s.heap.objs.size 0 .none->h'.IsTupleIter s.heap.objs.size l 0->(∀c o,s.heap.get? c=ae o->h'.get? c=ae o)->Q (.ref (s.heap.objs.size+1)) {s with heap:=h'}):
  A1 ⇑13 A (call (.type "enumerate") [.ref l]) Q E s:=by
 obtain⟨⟨c,dc,dt,sl⟩,hl,hc,n,hd⟩:=hl;obtain rfl:c=.type "tuple":=hc;obtain rfl:dt=.seq xs n:=hd;refine callType_new F.called_enumerate ∎ (F.typeCall_enumerate_1 _) (F.newCall_enumerate_1 _) (λo=>F.args_object_init_2 o _) F.entry_enumerate_new (Qi l xs n dc sl) ⟨hl,?_⟩;have z1:(sC s.heap l).objs.size=s.heap.objs.size+1:=Ci ..;have g2:(tU s.heap l).get? (sC s.heap l).objs.size=ae _:=Aw _ rfl;have g1:(tU s.heap l).get? s.heap.objs.size=ae _:=Af _ (Aw _ rfl);show _/\_;rw[z1]at g2 ⊢;exact⟨⟨_,g2,rfl⟩,h _ g2 ⟨_,g1,rfl,rfl⟩ λc o x=>Af _ (Af _ x)⟩
end
def FV(K:Ah)(a:Addr):It:=
 ⟨λi H=>∃xs x,SqT K H a xs/\xs[i]?=ae x,
  λi H v H'=>∃T x,v=.ref T/\H T=af/\H'=upd H T (.tup [.int i,x])/\∀xs,SqT K H a xs->xs[i]?=ae x,
  λi H=>∃xs,SqT K H a xs/\xs.length=i⟩
theorem JM{K:Ah}(h1:e≠it)(h2:a≠it)(h3:e≠a):Turn P w K (.Tuple elts kk pos) (FV K a) [e,it] e
  (λi h=>(∃old,IsEnum h e it i old)/\h.IsTupleIter it a i) where
 mem:=by simp
 obj:=λi h st c hc=>by
  obtain⟨⟨x,he⟩,⟨o1,e1,c1,d1⟩⟩:=st;simp only[Ax,A8,or_false]at hc;rcases hc with rfl|rfl
  ·exact⟨_,he,λv q=>by have q':Data.fields _=Data.cell v:=q;cases q'⟩
  ·exact⟨o1,e1,λv q=>by rw[d1]at q;cases q⟩
 keep:=λi h h' st k=>⟨st.1.imp λ_ q=>k e (by simp) _ q,st.2.at λo q=>k it (by simp) o q⟩
 item:=by
  sleep 17;obtain⟨⟨old,he⟩,hi⟩:=st;obtain⟨xs,x,qa,ex⟩:=hg;obtain⟨its,rv,p,_⟩:=I.tuple qa;obtain⟨u,hu,ru⟩:=rv.get ex;have hlt:i < its.toArray.size:=by simpa using(Ar.mp hu).1
  have hef:e∉[it,a]:=λz=>by
   simp only[Ax,A8,or_false]at z;exact z.elim h1 h3
  refine wpAny_pyNext_enum_itemD (CN (A:=X.A.in1) (I.ok.hd hc) it a h2 its.toArray) he ⟨hi,show s.heap.IsTuple a its.toArray from p⟩ hlt h1 hef λy h' tk a1 a2 a3 a4 a5 a6=>⟨_,rfl,?_⟩;obtain rfl:u=y:=by
   rw[List.getElem?_toArray,hu]at a1;cases a1;rfl
  refine wpAny_letOwnedTupleGo_enum (s:={ s with heap:=h',toks:=tk+1}) a2 λh'' b1 b2=>?_;have T:h''.get? s.heap.objs.size=ae {cls:=.type "tuple",data:=.seq #[.int i tk,u]}:=b2.extBut _ _ (Em (As he)) a4;have Tn:H s.heap.objs.size=af:=I.hok.fresh (Aq _);have kp:∀c o,c∉[e,it]->s.heap.get? c=ae o->h''.get? c=ae o:=λc o hc e=>by
   simp only[Ax,A8,or_false,not_or]at hc;exact b2.extBut _ _ hc.1 (a6 c o hc.1 hc.2 e)
  refine⟨.ref s.heap.objs.size,upd H s.heap.objs.size (.tup [.int i,x]),I.many (t':=tk+1) hf kp (Aq _) ⟨by show 2<=Az;decide,[.int i tk,u],.cons ⟨tk,rfl⟩ (.cons ru .nil),_,T,rfl,⟨_,rfl⟩,rfl⟩,rfl,⟨_,x,rfl,Tn,rfl,λzs q=>by rw[I.tuple_inj q qa];exact ex⟩,
   ⟨⟨u,by rw[show((i+1:Nat):Int)=(i:Int)+1 from rfl];exact b1⟩,a3.1.extBut b2.extBut h1.symm⟩,λc hc=>?_⟩
  have hlt:c < s.heap.objs.size:=by
   simp only[Ax,A8,or_false]at hc;rcases hc with rfl|rfl
   ·exact As he
   ·obtain⟨_,e,_⟩:=hi;exact As e
  rw[aN (Bd hlt)];exact(hf c hc).1
 done:=by
  sleep 17;obtain⟨⟨old,he⟩,hi⟩:=st;obtain⟨xs,hq,hx⟩:=hg;obtain⟨its,rv,p,_⟩:=I.tuple hq;have hl:=rv.length;have hs:its.toArray.size=i:=by simp;omega
  refine wpAny_pyNext_enum_endD (CN (A:=X.A.in1) (I.ok.hd hc) it a h2 its.toArray) he (by rw[hs];exact⟨hi,p⟩) λh' k=>⟨rfl,I.many0 (t':=s.toks) hf λc o hc e=>?_⟩;simp only[Ax,A8,or_false,not_or]at hc;exact k c o hc.2 e
 self:=λ_ _ _ _ _ st h=>wpAny_pyIter_enum st.1.choose_spec h
def FU(K:Ah)(ta:TA):TI:=λσ H R=>ta σ H λvs H1=>∃a,vs=[.ref a]/\(∃xs,SqT K H1 a xs)/\R (FV K a) H1
theorem Pb(hg:Gl X "enumerate")(hm:X.mg "enumerate"=af)(ha:PA X [e1] ta)(hs:Av [e1] X.env=[(ai,eval e1 X.env)]:=by rfl):
  PI X (.Tuple elts kk tpos) (.Call (.Name "enumerate" p) [e1] [] pos) (FU X.K ta):=by
 intro pins s σ H R I h;refine Call_ (kH I hg hm boot_enumerate (Dh (aP ⇑132 λus s1 ⟨vs,H1,I1,r1,q1⟩=>?_) (by rw[hs];rfl) rfl));obtain⟨a,e,⟨xs,qa⟩,q⟩:=q1;subst e;cases r1 with
 |cons r rr=>
  cases rr;cases r;obtain⟨its,rv,pp,_⟩:=I1.tuple qa;have la:a < s1.heap.objs.size:=by obtain⟨_,e,_⟩:=id pp;exact As e
  refine LM (show s1.heap.IsTuple a its.toArray from pp) λh' a1 a2 a3=>wpAny_pyIter_enum (s:={ s1 with heap:=h'}) a1 ?_;refine⟨_,_,_,_,H1,rfl,I1.kept (t':=s1.toks) a3,JM (Nat.succ_ne_self _) (Bd la) (Em (Ed la)),⟨⟨_,a1⟩,a2⟩,λc hc=>?_,q⟩;have hlt:s1.heap.objs.size<=c:=by
   simp only[Ax,A8,or_false]at hc;rcases hc with rfl|rfl<;>omega
  exact I1.fpOk hlt (I1.hok.fresh hlt)
end L2
namespace DL
open PySem L2 Nb
section
variable{X:Cx}{a b e o i f:Expr}{ta tb te td ty:TE}{wa wb we wd' wy:DT}{pos p p2:Pos}{K:Ah}
def jx(neg:Bool):Wv->Wv->Int->DQ->Prop:=λx y n Q=>(∃o,x=.ob o/\y=.d .none/\Q (.d (.bool neg)) n)\/bh neg x y n Q
theorem Ko{o:Ob}(h:WRel H B t v (.ob o)):∃a,v=.ref a:=by
 cases o with
 |o=>exact h
 |p d=>obtain⟨a,_,_,e,_⟩:=h;exact⟨a,e⟩
 |k m=>obtain⟨a,_,e,_⟩:=h;exact⟨a,e⟩
 |y m=>obtain⟨a,_,_,e,_⟩:=h;exact⟨a,e⟩
 |x m=>obtain⟨a,_,e,_⟩:=h;exact⟨a,e⟩
 |q d m=>obtain⟨a,_,_,_,e,_⟩:=h;exact⟨a,e⟩
theorem MW:bB (λx y H Q=>y=.non/\Q (.bl (decide (x=.non))) H) (jx ai):=λC H B σ δ n x y p q Q Q' R rx ry h1 k=>by
 rcases h1 with⟨o,rfl,rfl,h⟩|h
 ·obtain⟨a,rfl⟩:=Ko rx;cases(show RdX H B y .none from ry);exact⟨rfl,k _ _ H n R ⇑19 ⇑44 h⟩
 ·exact tJ C H B σ δ n x y p q Q Q' R rx ry h k
end
section
variable{X:Cx}{a b e o:Expr}{ta tb te td ty:TE}{wa wb we wd' wy:DT}{pos p p2:Pos}{K:Ah}{H:Hp}{B:Addr->Prop}{l:List (List aH×V)}{m:List (List aH×Ad)}
def h9(m:List (List aH×Ad))(k:List aH):Bool:=m.any λkv=>decide (kv.1=k)
def gH(m:List (List aH×Ad))(k:List aH)(d:Ad):List (List aH×Ad):=if h9 m k=ah then m.map (λkv=>if kv.1=k then(kv.1,d)else kv)else m++[(k,d)]
theorem RdT.any(h:RdT H B l m)(k):(l.any λkv=>decide (kv.1=k))=h9 m k:=by
 unfold RdT at h;unfold h9
 induction h with
 |nil=>rfl
 |cons r _ ih=>rw[Cm,Cm,ih,r.1]
theorem RdT.isSome(h:RdT H B l m)(k):(cb l k).isSome=h9 m k:=by
 rw[<-h.any k];unfold cb;rw[Es,List.isSome_find?]
theorem RdT.len(h:RdT H B l m):l.length=m.length:=by
 unfold RdT at h
 induction h with
 |nil=>rfl
 |cons _ _ ih=>rw[Ay,Ay,ih]
theorem RdT.map(h:RdT H B l m)(r:RdX H B v d)(k):RdT H B (l.map λkv=>if kv.1=k then(kv.1,v)else kv) (m.map λkv=>if kv.1=k then(kv.1,d)else kv):=by
 unfold RdT at h ⊢
 induction h with
 |nil=>exact .nil
 |@cons p q ps qs z _ ih=>
  rw[Bc,Bc];refine .cons ?_ ih;by_cases e:p.1=k
  ·have e':q.1=k:=z.1▸e;rw[if_pos e,if_pos e'];exact⟨z.1,r⟩
  ·have e':¬q.1=k:=z.1▸e;rw[if_neg e,if_neg e'];exact z
theorem RdT.snoc(h:RdT H B l m)(r:RdX H B v d)(k):RdT H B (l++[(k,v)]) (m++[(k,d)]):=by
 unfold RdT at h ⊢
 induction h with
 |nil=>exact .cons ⟨rfl,r⟩ .nil
 |cons z _ ih=>exact .cons z ih
theorem RdT.put(h:RdT H B l m)(r:RdX H B v d)(k):RdT H B (b6 l k v) (gH m k d):=by
 unfold b6 gH;rw[h.any k]
 split
 ·exact h.map r k
 ·exact h.snoc r k
def ql(i:Nat):aJ:=λδ n K=>K.nx (δ.set i (ae (.odt []))) n
theorem NN(hN:X.N.Nodup)(hi:X.N[i]?=ae x)(hx:gc X.env.scope x)(hs:C5 (.Dict [] [] p) (ae ⇑47) pos.line X.env=pure ai:=by rfl)(hf:X.fn x=ah\/X.env.scope.names.lookup x=ae .local:=by first|exact .inl rfl|exact .inr rfl|assumption):
  DS X (.Assign [.Name x pos'] (.Dict [] [] p) pos) (bQ BP (dH i)) (ql i):=⟨gV hN hi hx SM hs hf,λC H B σ δ n K D R q E=>λa ha=>by
  refine E.nx _ _ _ _ _ (R.own (R.new ha) (Kp.new ha) ha (by rw[bH];exact λz=>nomatch z) rfl ?_) q;exact⟨a,[],rfl,bH,.inr rfl,R.h0 ha,A6 _,.nil⟩⟩
def qr(i:Nat)(w:DT):DT:=λδ n Q=>w δ n λx n1=>∃k kvs,x=.d (oK k)/\δ[i]?=ae (ae (.odt kvs))/\Q (.d (.bool !h9 kvs k)) n1
theorem Ro(hi:DE X a ta wa):eF (nz ta (aM i)) (qr i wa):=λC H B σ δ n Q Q' R h k=>
 hi.sd C H B σ δ n _ _ R h λv x H1 n1 R1 k1 r1 q1=>by
  obtain⟨key,kvs,rfl,e,q⟩:=q1;obtain⟨w,h1,b,l,rfl,g2,g3,g4,g5,g6⟩:=R1.sl i _ e;refine⟨_,h1,?_⟩;cases(show RdX H1 B v (.tuple (key.map vD))from r1)with
  |@tup c zs _ i1 i2 i3 i4=>
   have ez:=DJ i4;subst ez;refine⟨b,cb l key,rfl,DGet.t g2 i1,k _ _ H1 n1 R1 k1 ⇑44 ?_⟩;rw[g6.isSome key];exact q
theorem NU{xp:Pos}(hu:X.A.units+64 < Du)(hN:X.N[i]?=ae x)(hi:DE X a ta wa)(hv:fC X.env.scope x:=by first|exact Cs rfl|exact Ca (Cs rfl)|exact Ca (Ca rfl))(hd:⇑21=ai:=by decide)
  (hcd:⇑46=ai:=by decide) (hm:Ct .NotIn ⇑29=ai:=by with_unfolding_all rfl):DC X (.Compare a [.NotIn] [.Name x xp] pos) (gP (nz ta (aM i))) (cT (qr i wa)):=⟨GH (ET ⋯ hi.pe ⇑82) hm,lZ (Ro hi)⟩
def DB(i:Nat)(wy wv:DT):aJ:=λδ n K=>wv δ n λv n1=>∃kvs,δ[i]?=ae (ae (.odt kvs))/\wy δ n1 λy n2=>∃k d,v=.d d/\y=.d (oK k)/\kvs.length < 1000/\K.nx (δ.set i (ae (.odt (gH kvs k d)))) n2
theorem QY{xp sp:Pos}(hu:X.A.units+64 < Du)(hN:X.N[i]?=ae x)(hj:DE X j tj wj)(he:DE X e te we)(hv:fC X.env.scope x:=by first|exact Cs rfl|exact Ca (Cs rfl)|exact Ca (Ca rfl))(hd:⇑21=ai:=by decide)
  (hcd:⇑46=ai:=by decide) (hs:C5 e (ae (.Subscript ⇑29 j sp)) pos.line X.env=pure ai:=by rfl):
  DS X (.Assign [.Subscript ⇑29 j sp] e pos) (uS (aM i) tj te) (DB i wj we):=
 ⟨Hy ⋯ ⇑82 hj.pe he.pe hs,λC H B σ δ n K D R q E=>
  he.sd C H B σ δ n _ _ R q λu y H1 n1 R1 k1 r1 q1=>by
   obtain⟨kvs,ei,q1⟩:=q1;obtain⟨v,hv,a,l,rfl,e2,e3,e4,e5,e6⟩:=R1.sl i _ ei;refine⟨_,hv,hj.sd C H1 B σ δ n1 _ _ R1 q1 λw z H2 n2 R2 k2 r2 q2=>?_⟩;obtain⟨key,d,rfl,rfl,hl0,q2⟩:=q2;sleep 23;have e2':=k2 _ _ e2 hat;have r1':RdX H2 B u d:=RdX.kp k2 R1.bt r1;have e6':RdT H2 B l kvs:=e6.move λb o e n=>⟨k2 b o e λz=>n (z▸R1.bt),n⟩;have hl:l.length < 1000:=by rw[e6'.len];exact hl0
   cases(show RdX H2 B w (.tuple (key.map vD))from r2)with
   |@tup c zs _ i1 i2 i3 i4=>
    have ez:=DJ i4;subst ez;refine⟨a,_,rfl,DPut.t e2' i1 (Bq hl (fG (Aq _))),?_⟩;refine E.nx _ _ _ _ _ (R2.mutOwn ei rfl hv e3 e4 ?_ rfl) q2;refine⟨a,_,rfl,bH,e3,e4,?_,?_⟩
    ·have:=sh l key u;omega
    ·exact(e6'.put r1' _).move λb o e n=>⟨by rw[aN λ(z:b=a)=>n (z▸e3)];exact e,n⟩⟩
end
section
variable{X:Cx}{a b e o i f:Expr}{ta tb te td ty:TE}{wa wb we wd' wy:DT}{pos p p2:Pos}{K:Ah}
def ja(k:Int)(xs:List Ad):List Ad:=xs.zipIdx.map λq=>.tuple [.int (k+q.2),q.1]
theorem vW:(ja k xs).length=xs.length:=by unfold ja;rw[Aa,List.length_zipIdx]
theorem N0{i:Nat}(h:(ja k xs)[i]?=ae d):∃x,xs[i]?=ae x/\d=.tuple [.int (k+i),x]:=by
 unfold ja at h;rw[Am,List.getElem?_zipIdx]at h;cases e:xs[i]? with
 |none=>rw[e]at h;cases h
 |some x=>
  rw[e]at h;refine⟨x,rfl,?_⟩;have:=Bb h;rw[<-this,Nat.zero_add]
theorem GQ:ja k (x::xs)=.tuple [.int k,x]::ja (k+1) xs:=by
 refine List.ext_getElem? λi=>?_;unfold ja;cases i with
 |zero=>rw[List.zipIdx_cons,Bc,B4,B4,Int.natCast_zero,Int.add_zero]
 |succ i=>
  rw[B5,Am,Am,List.getElem?_zipIdx,List.getElem?_zipIdx,B5];cases xs[i]? with
  |none=>rfl
  |some y=>
   show ae (Fw [.int (k+(0+(i+1):Nat)),y])=ae (.tuple [.int (k+1+(0+i:Nat)),y]);have:k+(0+(i+1):Nat)=k+1+(0+i:Nat):=by omega
   rw[this]
def uT(w:DT):gR:=λδ n Q=>w δ n λx n1=>∃xs,x=.d (.tuple xs)/\Q (ja 0 xs) n1
theorem NG{elts:List Expr}{kk:Nat}{tpos:Pos}(hg:Gl X "enumerate")(hm:X.mg "enumerate"=af)(ha:DE X a ta wa)(hK:X.K=K:=by rfl)(hs:Av [a] X.env=[⇑108]:=by rfl)(he1:Av [a] X.env=⇑108::Av [] X.env:=by rfl):
  DI X (.Tuple elts kk tpos) (.Call (.Name "enumerate" p) [a] [] pos) (FU K (bU ta bq)) (uT wa):=by
 subst hK;refine⟨Pb hg hm (cR ha.pe fh he1) hs,λC H B σ δ n Q Q' R q k=>ha.sd C H B σ δ n _ _ R q λv x H1 n1 R1 k1 r1 q1=>?_⟩;obtain⟨xs,rfl,q2⟩:=q1;cases(show RdX H1 B v (.tuple xs)from r1)with
 |@tup aa vs _ e1 e2 e3 e4=>
  refine⟨aa,rfl,⟨vs,SqT.of e1⟩,k _ (ja 0 xs) H1 n1 R1 k1 (λfz th=>?_) q2⟩;have za:fz aa=ae (.tup vs):=th.2 _ _ e1 e2;refine⟨by rw[vW,<-e4.len];exact e3,λi H hH hi=>?_,λH hH=>?_,λi H x H' d hH hd hy=>?_⟩
  ·rw[vW]at hi;have h1:i < vs.length:=by rw[e4.len];exact hi
   exact⟨vs,vs[i],SqT.of (hH _ _ za),Ae h1⟩
  ·exact⟨vs,SqT.of (hH _ _ za),by rw[vW,e4.len]⟩
  ·obtain⟨T,x1,rfl,hT,rfl,hx⟩:=hy;refine⟨λb o e=>by rw[aN (bY e hT)];exact e,λB' hB hBa=>?_⟩;obtain⟨y,hy,rfl⟩:=N0 hd;obtain⟨u1,hu1,ru1⟩:=e4.getD hy;have t1:=hx _ (SqT.of (hH _ _ za));rw[hu1]at t1;cases t1;have mv:∀b o,H1 b=ae o->¬B b->upd H T (.tup [.int i,x1]) b=ae o/\¬B' b:=λb o e ne=>by
    have:=hH _ _ ⇑95;exact⟨by rw[aN (bY this hT)];exact this,hB _ _ ⇑95⟩
   rw[Int.zero_add];exact .tup bH (λz=>hBa T z hT) (by show 2<=Az;decide) (.cons (.int _) (.cons (ru1.move mv) .nil))
def nK(hs:List Str)(w:DT):DT:=λδ n Q=>w δ n λx n1=>∃a,x=.d a/\fB a=ah/\Q (.d (.bool !bS a ⇑83)) n1
theorem JT(hl:∀h∈hs,h.length<=1000)(hq:∀H,SqT K H q (hs.map V.str))(h:eF ta wa):eF (d3 (ij K ah) ta (tC (.ref q))) (nK hs wa):=λC H B σ δ n Q Q' R z k=>
 h C H B σ δ n _ _ R z λv x H1 n1 R1 k1 r1 q1=>by
  obtain⟨da,rfl,q1⟩:=q1;have r1:RdX H1 B v da:=r1;have rs:RdXs H1 B (hs.map V.str) ⇑83:=nU hl;refine⟨q,_,rfl,.inr (hq H1),lC r1 q1.1,kG rs ?_,k _ _ H1 n1 R1 k1 ⇑44 ?_⟩
  ·rw[List.all_map];exact Dq.mpr λ_ _=>rfl
  ·rw[kY r1 rs];exact q1.2
theorem NH{xp:Pos}(ha:DE X a ta wa)(hg:Gl X x)(hm:X.mg x=ae (.ref q))(hq:∀H,SqT K H q (hs.map V.str))(hl:∀h∈hs,h.length<=1000:=by decide +kernel)(hK:X.K=K:=by rfl)(hd:⇑21=ai:=by decide)
  (hmk:Ct .NotIn (Expr.Name x xp)=ai:=by with_unfolding_all rfl):DC X (.Compare a [.NotIn] [.Name x xp] pos) (gP (d3 (ij K ah) ta (tC (.ref q)))) (cT (nK hs wa)):=
 ⟨kB (qU hK) ha.pe (vL hg hm rfl hd) hmk,lZ (JT hl hq ha.sd)⟩
end
section
variable{X:Cx}{e:Expr}{te:TE}{we:DT}{pos p:Pos}
def lq(w:kz):DT:=λδ n Q=>w δ n λkvs n1=>Q (.dk kvs) n1
theorem DN.d(h:DN X e te w):DE X e te (lq w):=⟨h.pe,λC H B σ δ n Q Q' R q k=>
 h.sd C H B σ δ n _ _ R q λa l kvs H' n' R' k' h0 h1 h2 h3 q1=>by
  refine k _ (.dk kvs) H' n' R' k' ⟨a,l,rfl,h1,λz=>?_,h3.move λb o e n=>⟨e,λz=>n (.inl z)⟩⟩ q1;obtain⟨_,_,q,_⟩:=R.tp.ob;rw[<-z,h0]at q;cases q⟩
abbrev kL(w:DT):DT:=lq (j3 w)
theorem Pc(hh:X.A.handled=af)(hg:Gl X "dict")(hm:X.mg "dict"=af)(he:DE X e te we)(he':Av [e] X.env=⇑33::Av [] X.env:=by rfl)(hpl:(C8 pos ⇑65).any (·.1)=ai:=by rfl):DE X (.Call (.Name "dict" p) [e] [] pos) (fZ zI (bU te bq)) (kL we):=
 (BL hh hg hm he ∅ he' hpl).d
end
end DL
namespace Nb
open PySem L2 DL
theorem xY(h:n < 2 ^ 40)(h0:0 < many)(h1:many < 1073741824)(k:∀r:Int,0<=r->r < many->Q (.d (.int r)) (n+1)):b9 [.tp,.d (.int many)] n Q:=⟨⟨h,h0,h1⟩,k⟩
theorem l3(h0:0<=r)(h1:r < ⇑84)(k:∀d∈ds,Q (.d d) n):av (.d ⇑34) (.d (.int r)) n Q:=by
 obtain⟨v,hv,hm⟩:=zA h0 h1;show match dv ds r with|some d=>Q (.d d) n|none=>False
 simp only[hv];exact k v hm
theorem QE{aE:Sl}(c:Nat)(h:∀d n Q',n+(c:Int) < 2 ^ 39->(∀y n',n'<=n+(c:Int)->Q' (.d y) n')->w (↑d::aE) n Q'):
  ∀(items acc:List Ad)(x:Option SV)(n:Int),n+(c:Int)*(items.length:Int) < 2 ^ 39->(∀ds n',n'<=n+(c:Int)*(items.length:Int)->Q ds n')->cJ (aD 0) bJ w Q items acc (x::aE) n
 |[],acc,x,n,hn,q=>q acc n (by simp)
 |d::r,acc,x,n,hn,q=>by
  simp only[cJ,aD,bJ,if_true,Dl];rw[Ay]at hn q;have e:(c:Int)*((r.length+1:Nat):Int)=(c:Int)*(r.length:Int)+c:=by rw[Int.natCast_add,Int.mul_add];simp
  rw[e]at hn q;have hc:0<=(c:Int)*(r.length:Int):=Int.mul_nonneg (Hl _) (Hl _);refine h d n _ ⋯ λy n' hn'=>?_;exact QE c h r (acc++[y]) _ n' ⋯ λds n'' h''=>q ds n'' ⋯
theorem fw(n):(cm 0 n).length=n:=by unfold cm;simp
theorem qT{aE:Sl}(P:Ad->Prop)(c:Nat)(h:∀d n Q',n+(c:Int) < 2 ^ 39->(∀y n',P y->n'<=n+(c:Int)->Q' (.d y) n')->w (↑d::aE) n Q'):
  ∀(items acc:List Ad)(x:Option SV)(n:Int),n+(c:Int)*(items.length:Int) < 2 ^ 39->(∀ds n',ds.length=items.length->(∀d∈ds,P d)->n'<=n+(c:Int)*(items.length:Int)->Q (acc++ds) n')->cJ (aD 0) bJ w Q items acc (x::aE) n
 |[],acc,x,n,hn,q=>by
  have:=q [] n rfl (by simp) (by simp);rwa [Bp]at this
 |d::r,acc,x,n,hn,q=>by
  simp only[cJ,aD,bJ,if_true,Dl];rw[Ay]at hn q;have e:(c:Int)*((r.length+1:Nat):Int)=(c:Int)*(r.length:Int)+c:=by rw[Int.natCast_add,Int.mul_add];simp
  rw[e]at hn q;have hc:0<=(c:Int)*(r.length:Int):=Int.mul_nonneg (Hl _) (Hl _);refine h d n _ ⋯ λy n' hy hn'=>?_;refine qT P c h r (acc++[y]) _ n' ⋯ λds n'' hl hds h''=>?_;rw[Bm];refine q (y::ds) n'' (by rw[Ay,hl]) (λd hd=>?_) ⋯;rcases Ax.mp hd with rfl|z
  ·exact hy
  ·exact hds d z
theorem eq_str(a)(h):fM a (.str h)=ae (bz h a):=by cases a<;>rfl
theorem eq_int(i j):fM (.int i) (.int j)=ae (decide (i=j)):=rfl
theorem J2(a)(r:List α):dv (a::r) 0=ae a:=fL (j:=0) rfl
theorem NT(a b)(r:List α):dv (a::b::r) 1=ae b:=fL (j:=1) rfl
section
variable{δ:Sl}{n:Int}{Q:DQ}{K:DEnds}{W V:aJ}{i j:Nat}{a b d:Ad}{r ds:List Ad}{h:Str}
theorem aB(h:W δ n {K with nx:=λδ n=>V δ n K}):aq W V δ n K:=h
theorem au(e:δ[i]?=ae (ae (.w x)))(k:Q x n):aj i δ n Q:=by unfold aj;rw[e];exact k
theorem fJ{m:Nat}(e:δ[i]?=ae (↑⇑25))(e2:ds[m]?=ae a)(k:Q (.d a) n):w2 (aj i) (wC (.int (m:Int))) av δ n Q:=by
 unfold w2;refine au e ?_;unfold wC av;simp only[fL e2];exact k
theorem df(e:δ[i]?=ae (↑(.tuple (a::r))))(k:Q (.d a) n):w2 (aj i) ⇑49 av δ n Q:=fJ (m:=0) e rfl k
theorem cj(e:δ[i]?=ae (↑(.tuple (a::b::r))))(k:Q (.d b) n):w2 (aj i) (wC (.int 1)) av δ n Q:=fJ (m:=1) e rfl k
theorem eV(e:δ[i]?=ae (↑(.tuple (a::r))))(k:Q (.d (.bool (bz h a))) n):w2 (w2 (aj i) ⇑49 av) (wC (.str h)) aZ δ n Q:=by
 show w2 (aj i) ⇑49 av δ n λx n1=>wC (.str h) δ n1 λy n2=>aZ x y n2 Q;refine df e ?_;unfold wC aZ;simp only[eq_str];exact k
theorem cV(k:c δ n λb n1=>if b=ah then W δ n1 K else V δ n1 K):aL c W V δ n K:=k
theorem sD(e:δ[i]?=ae (↑(.tuple (a::r))))(hT:bz h a=ah->W δ n K)(hF:bz h a=ai->V δ n K):aL (cT (w2 (w2 (aj i) ⇑49 av) (wC (.str h)) aZ)) W V δ n K:=by
 unfold aL cT;exact eV e (o3 hT hF)
theorem dz(e:δ[i]?=ae (↑(.tuple (a::r))))(z:bz h a=ai)(hF:V δ n K):aL (cT (w2 (w2 (aj i) ⇑49 av) (wC (.str h)) aZ)) W V δ n K:=sD e (λq=>by rw[z]at q;cases q) λ_=>hF
theorem jh(e:δ[i]?=ae (↑(.tuple (a::r))))(z:bz h a=ah)(hT:W δ n K):aL (cT (w2 (w2 (aj i) ⇑49 av) (wC (.str h)) aZ)) W V δ n K:=sD e (λ_=>hT) λq=>by rw[z]at q;cases q
end
theorem u4:bz "is" (.str "is")=ah:=by sleep 5
theorem N5:bz "is" (.str "any")=ai:=by sleep 5
theorem PR:bz "is" (.str "word")=ai:=by sleep 5
theorem MG:bz "is" (.str "number")=ai:=by sleep 5
theorem So:bz "is" ⇑123=ai:=by sleep 5
theorem vM:bz "is" ⇑45=ai:=by sleep 5
theorem Nv:bz "word" (.str "word")=ah:=by sleep 5
theorem L0:bz "word" (.str "number")=ai:=by sleep 5
theorem RO:bz "as" ⇑123=ai:=by sleep 5
theorem HA:bz "as" ⇑45=ah:=by sleep 5
theorem uu:bz "bind" ⇑123=ah:=by sleep 5
section
variable{δ:Sl}{n:Int}{Q:DQ}{K:DEnds}{W V:aJ}{i j:Nat}{a b d:Ad}{r ds:List Ad}
theorem ar(k:wa δ n λx n1=>wb δ n1 λy n2=>g x y n2 Q):w2 wa wb g δ n Q:=k
theorem bK(h:∀Q:DQ,Q (.d x) n->w δ n Q)(k:K.nx (δ.set i (↑x)) n):aw i w δ n K:=h _ k
theorem i7(k:K.nx (δ.set i (ae (.own []))) n):bo i (aQ ak) δ n K:=⟨A6 _,k⟩
theorem cY(k:Q (.d a) n):av (.d (.tuple (a::r))) (.d (.int 0)) n Q:=by
 show(match dv (a::r) 0 with|some d=>Q (.d d) n|none=>False);rw[J2];exact k
theorem eS(k:Q (.d b) n):av (.d (.tuple (a::b::r))) (.d (.int 1)) n Q:=by
 show(match dv (a::b::r) 1 with|some d=>Q (.d d) n|none=>False);rw[NT];exact k
theorem fV(k:Q (.d c) n):av (.d (.tuple (a::b::c::r))) (.d (.int 2)) n Q:=by
 show(match dv (a::b::c::r) 2 with|some d=>Q (.d d) n|none=>False);rw[show dv (a::b::c::r) 2=ae c from fL (j:=2) rfl];exact k
theorem aF(k:Q (.d c) n):wC c δ n Q:=k
theorem aT(k:w δ n λx n1=>g [x] n1 Q):wB g (ao w ak) δ n Q:=k
theorem dQ(k:w δ n λx n1=>S [x] n1 Q):aC S (ao w ak) δ n Q:=k
theorem cq(k:w δ n λx n1=>w' δ n1 λy n2=>S [x,y] n2 Q):aC S (ao w (ao w' ak)) δ n Q:=k
theorem bF(k:w δ n λx n1=>w' δ n1 λy n2=>w'' δ n2 λz n3=>S [x,y,z] n3 Q):aC S (ao w (ao w' (ao w'' ak))) δ n Q:=k
theorem bb(k:w δ n λds n1=>Q (.d ⇑34) n1):bj w δ n Q:=k
theorem gD{Q:List Ad->Int->Prop}(hw:∀Q:DQ,Q (.d ⇑25) n->w δ n Q)(k:cJ g c e Q ds [] (jl fr δ) n):cg fr (c9 w) g c e δ n Q:=by
 unfold cg c9;exact hw _ k
theorem BZ(e:δ[i]?=ae (↑⇑25))(k:Q (.d (.int ds.length)) n):wB bg (ao (aj i) ak) δ n Q:=aT (au e k)
theorem IJ(e:δ[j]?=ae (↑⇑25))(k:K.nx (δ.set i ⇑55) n):bo i (ly (aj j)) δ n K:=by
 unfold bo ly;exact au e k
theorem bx(k:w δ n K.rt):az w δ n K:=k
theorem R7(ha:∀Q:DQ,Q (.d (.int x)) n->wa δ n Q)(hb:∀Q:DQ,Q (.d (.int y)) n->wb δ n Q)(hc:∀Q:DQ,Q (.d (.int z)) n->wc δ n Q)(h:x<=y)(k:Q (.d (.bool (decide (y<=z)))) n):qp m3 m3 wa wb wc δ n Q:=by
 refine ha _ (hb _ ?_);show iq (.d (.bool (decide (x<=y)))) (wc δ n λu n4=>m3 (.d (.int y)) u n4 Q) (Q (.d ⇑56) n);rw[decide_eq_true h];exact hc _ k
theorem iu(e:δ[i]?=ae ⇑55)(k:W (δ.set i (↑⇑34)) n K):bW i W δ n K:=by
 unfold bW;rw[e];exact k
theorem QB(hu:∀Q:DQ,Q (.d ⇑32) n->u δ n Q)(hv:v δ n Q):dC u v δ n Q:=hu _ hv
theorem aI{Q:Bool->Int->Prop}(hw:∀Q':DQ,Q' (.d (.bool k)) n->w δ n Q')(q:Q k n):cT w δ n Q:=hw _ q
theorem aX(hc:∀Q:Bool->Int->Prop,Q ai n->C δ n Q)(hF:V δ n K):aL C W V δ n K:=hc _ (by show if ai=ah then _ else _;rw[if_neg Ai];exact hF)
theorem bC(hc:∀Q:Bool->Int->Prop,Q ah n->C δ n Q)(hT:W δ n K):aL C W V δ n K:=hc _ (by show if ah=ah then _ else _;rw[if_pos rfl];exact hT)
theorem i9{Q:Bool->Int->Prop}(ha:∀Q:Bool->Int->Prop,Q ai n->A δ n Q)(hb:B δ n Q):ft A B δ n Q:=ha _ (by show if ai=ah then _ else _;rw[if_neg Ai];exact hb)
theorem mF{Q:Bool->Int->Prop}(ha:∀Q:Bool->Int->Prop,Q ah n->A δ n Q)(k:Q ah n):ft A B δ n Q:=ha _ (by show if ah=ah then _ else _;rw[if_pos rfl];exact k)
theorem mM{Q:Bool->Int->Prop}(ha:∀Q:Bool->Int->Prop,Q ah n->A δ n Q)(hb:B δ n Q):dq A B δ n Q:=ha _ (by show if ah=ah then _ else _;rw[if_pos rfl];exact hb)
theorem pU{Q:Bool->Int->Prop}(ha:∀Q:Bool->Int->Prop,Q k n->A δ n Q)(q:Q (!k) n):cy A δ n Q:=ha _ q
end
theorem f7(I:List Ad->Sl->Int->Prop)(h0:∀δ n,I [] δ n->K.nx δ n)
  (h1:∀d r δ n (N:Sl->Int->Prop),I (d::r) δ n->(∀δ n,I r δ n->N δ n)->g d δ λδ'=>W δ' n {K with nx:=N,ct:=N,bk:=K.nx}):∀ds δ n,I ds δ n->c8 g W K ds δ n
 |[],δ,n,h=>h0 δ n h
 |d::r,δ,n,h=>h1 d r δ n (c8 g W K r) h (f7 I h0 h1 r)
section
variable{δ:Sl}{n m:Int}{Q:DQ}{K:DEnds}{W V:aJ}{i j:Nat}{ds:List Ad}
theorem gO(e0:δ[0]?=ae (ae (.w .tp)))(hw:∀Q:DQ,Q (.d (.int m)) n->w δ n Q)(h:n < 2 ^ 40)(h0:0 < m)(h1:m < 1073741824)(k:∀r:Int,0<=r->r < m->Q (.d (.int r)) (n+1)):aC b9 (ao ↥0 (ao w ak)) δ n Q:=
 cq (au e0 (hw _ (xY h h0 h1 k)))
theorem ia(e0:δ[0]?=ae (ae (.w .tp)))(h:n < 2 ^ 40)(h0:0 < m)(h1:m < 1073741824)(k:∀r:Int,0<=r->r < m->Q (.d (.int r)) (n+1)):aC b9 (ao ↥0 (ao (wC (.int m)) ak)) δ n Q:=gO e0 (λQ q=>aF q) h h0 h1 k
theorem qC(e0:δ[0]?=ae (ae (.w .tp)))(h:n < 2 ^ 40)(h0:0 < m)(h1:m < 1073741824)(k:∀r:Int,0<=r->r < m->K.nx (δ.set i (↑(.int r))) (n+1)):aw i (aC b9 (ao ↥0 (ao (wC (.int m)) ak))) δ n K:=ia e0 h h0 h1 k
theorem xw(h0:0<=r)(h1:r < ⇑84)(k:∀d∈ds,Q (.d d) n):aV (.ln ds) (.d (.int r)) n Q:=by
 obtain⟨v,hv,hm⟩:=zA h0 h1;show(match dv ds r with|some d=>Q (.d d) n|none=>False);rw[hv];exact k v hm
theorem jC(h0:0<=r)(h1:r < ⇑84)(k:∀d∈ds,Q (.d d) n):aV (.d ⇑34) (.d (.int r)) n Q:=l3 h0 h1 k
theorem nh(e:δ[i]?=ae ⇑55)(k:Q (.ln ds) n):cS i δ n Q:=by
 unfold cS;rw[e];exact k
theorem lN(e:δ[i]?=ae (ae (.own es)))(hw:∀Q:DQ,Q (.d x) m->w δ n Q)(hl:es.length < 1000000)(k:K.nx (δ.set i (ae (.own (es++[x])))) m):a8 i w δ n K:=by
 unfold a8;rw[e];exact hw _ (Al hl k)
theorem jd(e:δ[i]?=ae (ae (.own es)))(k:w δ n λx n1=>match x with
  |.d d=>es.length < 1000000/\K.nx (δ.set i (ae (.own (es++[d])))) n1
  |_=>False):a8 i w δ n K:=by
 unfold a8;rw[e];exact k
theorem cK(k:w δ n λx n1=>w' δ n1 λy n2=>match jc [x,y]with
  |some ds=>ds.length<=1000/\Q (.d ⇑25) n2
  |none=>False):aA (ao w (ao w' ak)) δ n Q:=k
theorem i6(k:w δ n λx n1=>w' δ n1 λy n2=>w'' δ n2 λz n3=>match jc [x,y,z]with
  |some ds=>ds.length<=1000/\Q (.d ⇑25) n3
  |none=>False):aA (ao w (ao w' (ao w'' ak))) δ n Q:=k
theorem l4(k:Q (.d ⇑25) n):gC [.d ⇑34] n Q:=k
theorem uB(k:Q (.d (.bool (decide (a < b)))) n):gf (.d (.int a)) (.d (.int b)) n Q:=k
theorem lA(e:δ[i]?=ae (↑(.int a)))(hT:a < b->W δ n K)(hF:¬a < b->V δ n K):aL (cT (w2 (aj i) (wC (.int b)) gf)) W V δ n K:=by
 refine cV (ar (au e (aF ?_)));show if decide (a < b)=ah then _ else _
 by_cases h:a < b
 ·rw[if_pos (decide_eq_true h)];exact hT h
 ·rw[if_neg (by simpa using h)];exact hF h
end
section
variable{δ:Sl}{n m:Int}{Q:DQ}{K:DEnds}{W V:aJ}{i j:Nat}{ds:List Ad}
theorem wQ(k:w δ n λx n1=>w' δ n1 λy n2=>w'' δ n2 λz n3=>v δ n3 λu n4=>match jc [x,y,z,u]with
  |some ds=>ds.length<=1000/\Q (.d ⇑25) n4
  |none=>False):aA (ao w (ao w' (ao w'' (ao v ak)))) δ n Q:=k
theorem jX(k:Q (.d (.list [])) n):bj (aQ ak) δ n Q:=Al (A6 _) k
theorem jJ(k:Q (.d (.bool ds.isEmpty)) n):b7 (.ln ds) (.d (.list [])) n Q:=k
theorem jH(k:Q (.d (.bool (decide (a=b)))) n):b7 (.d (.int a)) (.d (.int b)) n Q:=k
theorem nL(e:δ[i]?=ae (↑(.int a)))(hT:a=b->W δ n K)(hF:¬a=b->V δ n K):aL (cT (w2 (aj i) (wC (.int b)) b7)) W V δ n K:=by
 refine cV (ar (au e (aF ?_)));show if decide (a=b)=ah then _ else _
 by_cases h:a=b
 ·rw[if_pos (decide_eq_true h)];exact hT h
 ·rw[if_neg (by simpa using h)];exact hF h
theorem xU(e:δ[i]?=ae (↑(.int a)))(hT:b < a->W δ n K)(hF:¬b < a->V δ n K):aL (cT (w2 (aj i) (wC (.int b)) jG)) W V δ n K:=by
 refine cV (ar (au e (aF ?_)));show if decide (b < a)=ah then _ else _
 by_cases h:b < a
 ·rw[if_pos (decide_eq_true h)];exact hT h
 ·rw[if_neg (by simpa using h)];exact hF h
end
theorem qg(hs:List Str):(hs.map Dz).all fB=ah:=by
 rw[Dq];intro d hd;obtain⟨x,_,rfl⟩:=Bf.mp hd;rfl
theorem GS{n m:Int}(e:δ[0]?=ae (ae (.w .tp)))(hl:∀Q:DQ,Q (.d (.list L)) n->wl δ n Q)(hn:n < 2 ^ 40)(hm:m=L.length)(h0:0 < m)(h1:m < 1000)(hL:∀d∈L,∃j:Nat,j<=M/\d=.int j)(hM:M<=1000)(k:∀j:Nat,j<=M->c8 g W K (cm 0 j) δ (n+1)):
  aU (dF (w2 wl (aC b9 (ao ↥0 (ao (wC (.int m)) ak))) aV)) g W δ n K:=by
 unfold aU dF;refine ar (hl _ (ia e hn h0 ⋯ λr r0 r1=>jC r0 ⋯ λd hd=>?_));obtain⟨j,hj,rfl⟩:=hL d hd;sleep 27;rw[Br];exact k j hj
theorem L7(k:Q (.d (.int ds.length)) n):eZ [.ln ds] n Q:=k
theorem bf(h:xs[i]?=ae x)(k:Q (.d x) n):av (.d (.tuple xs)) (.d ⇑59) n Q:=by
 show(match dv xs ((i:Nat):Int)with|some d=>Q (.d d) n|none=>False);rw[fL h];exact k
theorem uK(xs:List Ad)(hp:p<=xs.length):d6 xs af (ae (p:Int))=xs.take p:=by
 unfold d6;rw[HT.sIx_nat];show(xs.drop 0).take (min p xs.length-0)=_;rw[List.drop_zero,Nat.sub_zero,Nat.min_eq_left hp]
end Nb
namespace DL
open PySem L2 Nb
end DL
namespace Nb
open PySem L2 DL
abbrev Nm:=List (Str×Ad)
inductive Fd where
 |is (v:Ad)|any|word|number|bind (x:Str)|as (x:Str)
def Fd.d:Fd->Ad
 |.is v=>.tuple [.str "is",v]
 |.any=>.tuple [.str "any"]
 |.word=>.tuple [.str "word"]
 |.number=>.tuple [.str "number"]
 |.bind x=>.tuple [.str "bind",.str x]
 |.as x=>.tuple [.str "as",.str x]
abbrev okX(x:Str):Prop:=x.length<=4/\Fc x=ah/\nZ 4 (.str x)=ah
def cv:Ad->Bool
 |.str x=>decide (x.length<=8)&&(Fc x&&decide (x="a"\/x="ab"\/x="go"))
 |.int i=>decide (0<=i)&&(decide (i<=99)&&(decide (PyData.weight (.int i)<=20)&&(PyData.intsShort 13 (.int i)&&PyData.showable (.int i))))
 |_=>ai
def Fd.ok:Fd->Prop
 |.is v=>cv v=ah
 |.bind x=>okX x
 |.as x=>okX x
 |_=>True
def eL(a b:Ad):Bool:=(fM a b).getD ai
theorem mJ(ha:cv a=ah)(hb:cv b=ah):fM a b=ae (eL a b):=by
 cases a<;>first|cases ha|(cases b<;>first|cases hb|rfl)
theorem Qu(ha:cv a=ah)(hb:cv b=ah)(h:eL a b=ah):a=b:=by
 cases a<;>first|cases ha|(cases b<;>first|cases hb|cases h|(rw[show _=_ from of_decide_eq_true h]))
theorem P6(ha:cv a=ah):fB a=ah:=by cases a<;>first|cases ha|rfl
def iP:Ad->Bool
 |.str _=>ah
 |_=>ai
def iT:Ad->Bool
 |.int _=>ah
 |_=>ai
def look(ps:Nm)(x:Str):Option Ad:=(ps.find? λp=>decide (p.1=x)).map (·.2)
def put(ps:Nm)(x:Str)(v:Ad):Nm:=if (ps.any λp=>decide (p.1=x))=ah then ps.map (λp=>if p.1=x then(p.1,v)else p)else ps++[(x,v)]
theorem KO(a b):decide ((C6 a:aH)=C6 b)=decide (a=b):=by
 by_cases z:a=b
 ·rw[z,decide_eq_true rfl,decide_eq_true rfl]
 ·rw[decide_eq_false z,decide_eq_false λw=>z (Sum.inr.inj w)]
theorem jQ(ps:Nm)(x):bZ (bA ps) (.inr x)=look ps x:=by
 induction ps with
 |nil=>rfl
 |cons p r ih=>
  by_cases e:p.1=x
  ·have a1:bZ (bA (p::r)) (.inr x)=ae p.2:=by simp[bZ,bA,Bg,e]
   have a2:look (p::r) x=ae p.2:=by simp[look,Bg,e]
   rw[a1,a2]
  ·have a1:bZ (bA (p::r)) (.inr x)=bZ (bA r) (.inr x):=by simp[bZ,bA,Bg,e]
   have a2:look (p::r) x=look r x:=by simp[look,Bg,e]
   rw[a1,a2,ih]
theorem Mc(ps:Nm)(x):((bA ps).any λkv=>decide (kv.1=(C6 x:aH)))=(ps.any λp=>decide (p.1=x)):=by
 unfold bA;rw[List.any_map]
 congr 1
 funext p
 exact KO _ _
theorem sq(ps:Nm)(x)(v):fk (bA ps) (.inr x) v=bA (put ps x v):=by
 unfold fk put;rw[Mc]
 split
 ·unfold bA;rw[B7,B7];apply Df;intro p _;show(if (C6 p.1:aH)=C6 x then _ else _)=_;by_cases e:p.1=x
  ·rw[if_pos (congrArg C6 e)];show _=(C6 (if p.1=x then(p.1,v)else p).1,(if p.1=x then(p.1,v)else p).2);rw[if_pos e]
  ·rw[if_neg λz=>e (Sum.inr.inj z)];show _=(C6 (if p.1=x then(p.1,v)else p).1,(if p.1=x then(p.1,v)else p).2);rw[if_neg e]
 ·unfold bA;rw[A7];rfl
theorem k7(h:look ps x=ae v):(x,v)∈ps:=by
 unfold look at h;cases e:ps.find? λp=>decide (p.1=x)with
 |none=>rw[e]at h;cases h
 |some p=>
  rw[e]at h;have h1:=List.find?_some e;have h2:p.1=x:=of_decide_eq_true h1;have h3:p.2=v:=Bb h;have:=List.mem_of_find?_eq_some e;rw[<-h2,<-h3];exact this
theorem rD(ps:Nm)(x):(ps.any λp=>decide (p.1=x))=(look ps x).isSome:=by
 induction ps with
 |nil=>rfl
 |cons p r ih=>
  by_cases e:p.1=x
  ·have a2:look (p::r) x=ae p.2:=by simp[look,Bg,e]
   rw[a2,Cm,decide_eq_true e];rfl
  ·have a2:look (p::r) x=look r x:=by simp[look,Bg,e]
   rw[a2,Cm,decide_eq_false e,Bool.false_or,ih]
theorem HU(ps:Nm)(x)(v):(put ps x v).map (·.1)=if (ps.any λp=>decide (p.1=x))=ah then ps.map (·.1)else ps.map (·.1)++[x]:=by
 unfold put
 split
 ·rw[B7];apply Df;intro p _;show(if p.1=x then(p.1,v)else p).1=p.1
  split<;>rfl
 ·rw[A7];rfl
theorem t8(h:(ps.map (·.1)).Nodup):((put ps x v).map (·.1)).Nodup:=by
 rw[HU]
 split
 ·exact h
 ·rename_i e;rw[List.nodup_append];refine⟨h,by simp,λa ha b hb z=>?_⟩;have hb:b=x:=by simpa using hb
  obtain⟨p,hp,rfl⟩:=Bf.mp ha;exact e (Dc.mpr ⟨p,hp,decide_eq_true (z.trans hb)⟩)
theorem sG(ps:Nm)(x)(v):(put ps x v).length<=ps.length+1:=by
 unfold put
 split
 ·rw[Aa];omega
 ·rw[An];exact Aq _
def fN(p:Str×Ad):Prop:=okX p.1/\cv p.2=ah
theorem oR(h:∀p∈ps,fN p)(hx:okX x)(hv:cv v=ah):∀p∈put ps x v,fN p:=by
 intro p hp;unfold put at hp
 split at hp
 ·obtain⟨q,hq,rfl⟩:=Bf.mp hp
  split
  ·exact⟨(h q hq).1,hv⟩
  ·exact h q hq
 ·rcases A9.mp hp with hp|hp
  ·exact h p hp
  ·have:p=(x,v):=by simpa using hp
   subst this;exact⟨hx,hv⟩
theorem JB(nd:(ps.map (·.1)).Nodup)(h:look ps x=ae v):put ps x v=ps:=by
 unfold put;rw[rD,h,if_pos (show(ae v).isSome=ah from rfl)];have hm:=k7 h;have:ps.map (λp=>if p.1=x then(p.1,v)else p)=ps.map id:=by
  apply Df;intro p hp
  split
  ·rename_i e;have:p=(x,v):=by
    obtain⟨i,hi⟩:=Bz.mp hp;obtain⟨j,hj⟩:=Bz.mp hm;have a1:(ps.map (·.1))[i]?=ae x:=by rw[Am,hi];exact congrArg ae e
    have a2:(ps.map (·.1))[j]?=ae x:=by rw[Am,hj];rfl
    obtain⟨b1,b2⟩:=Ar.mp a1;obtain⟨c1,c2⟩:=Ar.mp a2;have:=(F3 nd).mp (b2.trans c2.symm);rw[this,hj]at hi;exact(Bb hi).symm
   rw[this];rfl
  ·rfl
 rw[this,G1]
theorem EG(ps)(x)(v):look (put ps x v) x=ae v:=by
 unfold put;rw[rD]
 split
 ·rename_i e
  induction ps with
  |nil=>cases e
  |cons p r ih=>
   by_cases z:p.1=x
   ·simp[look,Bg,z]
   ·have a2:look (p::r) x=look r x:=by simp[look,Bg,z]
    rw[a2]at e;rw[Bc,if_neg z];have a3:look (p::r.map λp=>if p.1=x then(p.1,v)else p) x=look (r.map λp=>if p.1=x then(p.1,v)else p) x:=by simp[look,Bg,z]
    rw[a3];exact ih e
 ·rename_i e;have:look ps x=af:=by cases q:look ps x with|none=>rfl|some _=>rw[q]at e;exact absurd rfl e
  unfold look at this ⊢;rw[List.find?_append];cases q:ps.find? λp=>decide (p.1=x)with
  |some p=>rw[q]at this;cases this
  |none=>simp
theorem CK(h:y≠x):look (put ps x v) y=look ps y:=by
 unfold put
 split
 ·induction ps with
  |nil=>rfl
  |cons p r ih=>
   rw[Bc];have key:look (r.map λp=>if p.1=x then(p.1,v)else p) y=look r y:=by
    rename_i e;by_cases q:(r.any λp=>decide (p.1=x))=ah
    ·exact ih q
    ·have:r.map (λp=>if p.1=x then(p.1,v)else p)=r.map id:=by
      apply Df;intro p hp;rw[if_neg λz=>q (Dc.mpr ⟨p,hp,decide_eq_true z⟩)];rfl
     rw[this,G1]
   by_cases z:p.1=x
   ·rw[if_pos z];have n1:¬p.1=y:=λw=>h (w.symm.trans z);have a1:look ((p.1,v)::r.map λp=>if p.1=x then(p.1,v)else p) y=look (r.map λp=>if p.1=x then(p.1,v)else p) y:=by simp[look,Bg,n1]
    have a2:look (p::r) y=look r y:=by simp[look,Bg,n1]
    rw[a1,a2,key]
   ·rw[if_neg z];by_cases w:p.1=y
    ·simp[look,Bg,w]
    ·have a1:look (p::r.map λp=>if p.1=x then(p.1,v)else p) y=look (r.map λp=>if p.1=x then(p.1,v)else p) y:=by simp[look,Bg,w]
     have a2:look (p::r) y=look r y:=by simp[look,Bg,w]
     rw[a1,a2,key]
 ·unfold look;rw[List.find?_append];have:[(x,v)].find? (λp=>decide (p.1=y))=af:=by simp[λz=>h (Eq.symm z),Ne.symm h]
  rw[this,Option.or_none]
def hU(f:Fd)(v:Ad)(h bs:Nm):Bool:=match f with
 |.is w=>eL w v
 |.any=>ah
 |.word=>iP v
 |.number=>iT v
 |.as x=>match look h x with
  |some w=>eL w v
  |none=>ai
 |.bind x=>match look bs x with
  |some w=>eL w v
  |none=>ah
def wk:List (Fd×Ad)->Nm->List Str->Option Nm
 |[],h,_=>ae h
 | (.is w,v)::r,h,hs=>if eL w v=ah then wk r h hs else af
 | (.any,_)::r,h,hs=>wk r h hs
 | (.word,v)::r,h,hs=>if iP v=ah then wk r h hs else af
 | (.number,v)::r,h,hs=>if iT v=ah then wk r h hs else af
 | (.as x,v)::r,h,hs=>match look h x with
  |some w=>if eL w v=ah then wk r h hs else af
  |none=>af
 | (.bind x,v)::r,h,hs=>if x∈hs then(match look h x with
   |some w=>if eL w v=ah then wk r h hs else af
   |none=>af)else wk r (put h x v) (hs++[x])
def gN(p:Str×Ad):Ad:=.tuple [.str p.1,p.2]
def bO(ps:Nm):Ad:=.tuple (ps.map gN)
def bN(fs:List Fd):Ad:=.tuple (fs.map Fd.d)
def okN(ps:Nm):Prop:=ps.length<=40/\(ps.map (·.1)).Nodup/\∀p∈ps,fN p
def nc(fs:List Fd):Prop:=1<=fs.length/\fs.length<=4/\∀f∈fs,f.ok
def uy(row:List Ad):Prop:=(row.length<=4/\1<=row.length)/\∀d∈row,cv d=ah
theorem HC(x y:Str)(h1:¬x.cps.toList < y.cps.toList)(h2:¬y.cps.toList < x.cps.toList):x=y:=by
 have:x.cps.toList=y.cps.toList:=List.le_antisymm (Fh.mp h2) (Fh.mp h1);have e:=F0.mp this;cases x;cases y;simp only at e;rw[e]
theorem SO{h a b:Nm}(nd:(h.map (·.1)).Nodup)(ha:a.Perm h)(hb:b.Perm h)(ra:jO a)(rb:jO b):a=b:=by
 refine List.Perm.eq_of_pairwise (λx y hx hy l1 l2=>?_) ra rb (ha.trans hb.symm);have e:x.1=y.1:=HC _ _ l2 l1;have hx':=ha.mem_iff.mp hx;have hy':=hb.mem_iff.mp hy;obtain⟨i,hi⟩:=Bz.mp hx';obtain⟨j,hj⟩:=Bz.mp hy';have a1:(h.map (·.1))[i]?=ae x.1:=by rw[Am,hi];rfl
 have a2:(h.map (·.1))[j]?=ae x.1:=by rw[Am,hj,e];rfl
 obtain⟨b1,b2⟩:=Ar.mp a1;obtain⟨c1,c2⟩:=Ar.mp a2;have:=(F3 nd).mp (b2.trans c2.symm);rw[this,hj]at hi;exact(Bb hi).symm
theorem j8:∀(l:List (Fd×Ad))(h:Nm)(hs:List Str)(k:Nm),(h.map (·.1)).Nodup->wk l h hs=ae k->(k.map (·.1)).Nodup
 |[],h,hs,k,nd,e=>by cases e;exact nd
 | (.is w,v)::r,h,hs,k,nd,e=>by unfold wk at e;split at e;exact j8 r h hs k nd e;cases e
 | (.any,v)::r,h,hs,k,nd,e=>by unfold wk at e;exact j8 r h hs k nd e
 | (.word,v)::r,h,hs,k,nd,e=>by unfold wk at e;split at e;exact j8 r h hs k nd e;cases e
 | (.number,v)::r,h,hs,k,nd,e=>by unfold wk at e;split at e;exact j8 r h hs k nd e;cases e
 | (.as x,v)::r,h,hs,k,nd,e=>by
  unfold wk at e
  split at e
  ·split at e
   ·exact j8 r h hs k nd e
   ·cases e
  ·cases e
 | (.bind x,v)::r,h,hs,k,nd,e=>by
  unfold wk at e
  split at e
  ·split at e
   ·split at e
    ·exact j8 r h hs k nd e
    ·cases e
   ·cases e
  ·exact j8 r _ _ k (t8 nd) e
def uY(a b:Str×Ad):Bool:=decide (¬b.1.cps.toList < a.1.cps.toList)
def bP(h:Nm):Nm:=h.mergeSort uY
theorem HG(h):(bP h).Perm h:=List.mergeSort_perm h uY
theorem yK(h):jO (bP h):=by
 have:=List.pairwise_mergeSort (le:=uY) (λa b c x y=>decide_eq_true (Fh.mpr (List.le_trans (Fh.mp (of_decide_eq_true x)) (Fh.mp (of_decide_eq_true y))))) (λa b=>?_) h
 ·exact List.Pairwise.imp (λx=>of_decide_eq_true x) this
 ·rw[Bool.or_eq_true];rcases List.le_total a.1.cps.toList b.1.cps.toList with z|z
  ·exact .inl (decide_eq_true (Fh.mpr z))
  ·exact .inr (decide_eq_true (Fh.mpr z))
theorem GV{h h':Nm}(nd:(h.map (·.1)).Nodup)(p:h'.Perm h)(r:jO h'):h'=bP h:=SO nd p (HG h) r (yK h)
def ee(fs:List Fd)(row:List Ad)(nm:Nm):Nm:=(wk (fs.zip row) nm []).getD []
def cF(fs:List Fd)(row:List Ad)(nm:Nm):Bool:=decide (fs.length=row.length)&&(wk (fs.zip row) nm []).isSome
def dm(fs:List Fd)(row:List Ad)(nm:Nm):Ad:=if cF fs row nm=ah then bO (bP (ee fs row nm))else .none
def nE(fs:List Fd)(row:List Ad)(ps:Nm)(r:Ad):Prop:=
 if fs.length=row.length then match wk (fs.zip row) ps []with
  |none=>r=.none
  |some h=>r=bO (bP h)
 else r=.none
theorem J4(h:nE fs row ps r):r=dm fs row ps:=by
 unfold nE at h;unfold dm cF ee;by_cases e:fs.length=row.length
 ·rw[if_pos e]at h;rw[decide_eq_true e,Bool.true_and];cases q:wk (fs.zip row) ps []with
  |none=>rw[q]at h;rw[if_neg (by rw[Option.isSome_none];exact Ai)];exact h
  |some x=>rw[q]at h;rw[if_pos (show(ae x).isSome=ah from rfl)];exact h
 ·rw[if_neg e]at h;rw[decide_eq_false e,if_neg (by rw[Bool.false_and];exact Ai)];exact h
def jI:aR:=λws n Q=>∃(f:Fd)(v:Ad)(hp bp:Nm),ws=[.d f.d,.d v,.dk (bA hp),.dk (bA bp)]/\f.ok/\cv v=ah/\(∀p∈hp,fN p)/\(∀p∈bp,fN p)/\Q (.d (.bool (hU f v hp bp))) n
def mw:aR:=λws n Q=>∃(fs:List Fd)(row:List Ad)(nm:Nm),ws=[.d (bN fs),.d (.tuple row),.d (bO nm)]/\nc fs/\uy row/\okN nm/\Q (.d (dm fs row nm)) n
def dA(ys:List Str):Ad:=.tuple (ys.map .str)
def qI:List Ad:=[.str "a",.int 0,.int 1,.str "ab",.str "go",.int 99]
inductive Fe where
 |any|word|num|isv (d:Ad)|bind (k:Str)|as (k:Str)|nx (k:Str)
def Fe.hd:Fe->Str
 |.any=>"any"
 |.word=>"word"
 |.num=>"number"
 |.isv _=>"is"
 |.bind _=>"bind"
 |.as _=>"as"
 |.nx _=>"next"
def Fe.tl:Fe->List Ad
 |.any=>[]
 |.word=>[]
 |.num=>[]
 |.isv d=>[d]
 |.bind k=>[.str k]
 |.as k=>[.str k]
 |.nx k=>[.str k]
def Fe.d(f:Fe):Ad:=.tuple (.str f.hd::f.tl)
abbrev fY(k:Str):Prop:=okX k
def Fe.ok:Fe->Prop
 |.isv d=>cv d=ah
 |.bind k=>fY k
 |.as k=>fY k
 |.nx k=>fY k
 |_=>True
def Fe.bd:Fe->Option Str
 |.bind k=>ae k
 |_=>af
def Fe.us:Fe->Option Str
 |.as k=>ae k
 |.nx k=>ae k
 |_=>af
def bu(fs:List Fe):List Str:=fs.filterMap Fe.bd
def Fe.pt:Fe->Bool
 |.nx _=>ai
 |_=>ah
def Fe.tm:Fe->Bool
 |.isv _=>ah
 |.as _=>ah
 |.nx _=>ah
 |_=>ai
def Fe.te:Fe->Bool
 |.isv _=>ah
 |.as _=>ah
 |_=>ai
def eR(fs:List Fe):Prop:=fs.length<=4/\∀f∈fs,f.ok
def rF:List Str->List Fe->Prop
 |_,[]=>True
 |ks,f::r=>(∀k,f.us=ae k->k∈ks)/\rF (ks++f.bd.toList) r
inductive Ac where
 |lay (fs:List Fe) (age:Ad)|take (fs:List Fe)|read (fs:List Fe)|look (fs:List Fe) (b:Nat)|same (f g:Fe) (b:Nat)|go (b:Nat)
def cE(fs:List Fe):Ad:=.tuple (fs.map Fe.d)
def Ac.d:Ac->Ad
 |.lay fs age=>.tuple [.str "lay",cE fs,age]
 |.take fs=>.tuple [.str "take",cE fs]
 |.read fs=>.tuple [.str "read",cE fs]
 |.look fs b=>.tuple [.str "look",cE fs,.int b]
 |.same f g b=>.tuple [.str "same",f.d,g.d,.int b]
 |.go b=>.tuple [.str "go",.int b]
def Ac.bs:Ac->List Str
 |.take fs=>bu fs
 |.read fs=>bu fs
 |.look fs _=>bu fs
 |_=>[]
def Ac.fs:Ac->List Fe
 |.lay fs _=>fs
 |.take fs=>fs
 |.read fs=>fs
 |.look fs _=>fs
 |.same f g _=>[f,g]
 |.go _=>[]
def Ac.to:Ac->Option Nat
 |.look _ b=>ae b
 |.same _ _ b=>ae b
 |.go b=>ae b
 |_=>af
def Ac.right(wants:List ⇑57)(ks:List Str)(a:Ac):Prop:=rF ks a.fs/\∀b,a.to=ae b->∃w,wants[b]?=ae w/\∀k∈w,k∈ks
def iB(d:Ad):Prop:=d=.none\/∃i:Int,d=.int i/\1<=i/\i<=20
def hX(fs:List Fe):Prop:=1<=fs.length/\∀f∈fs,f.pt=ah
def Ac.pat:Ac->Prop
 |.take fs=>hX fs
 |.read fs=>hX fs
 |.look fs _=>hX fs
 |.lay fs age=>(∀f∈fs,f.tm=ah)/\iB age/\1<=fs.length
 |.same f g _=>f.te=ah/\g.te=ah
 |.go _=>True
def kc(a:Ac):Prop:=eR a.fs/\a.pat
abbrev Bl:=List Str×List Ac
def d9(b:Bl):Ad:=.tuple [dA b.1,.tuple (b.2.map Ac.d)]
def dR(bs:List Bl):Ad:=.tuple (bs.map d9)
def kn(w:List Str)(as:List Ac)(p:Nat):List Str:=w++(as.take p).flatMap Ac.bs
def kU(b:Bl):Prop:=b.1.length<=4/\(∀k∈b.1,fY k)/\b.2.length<=8/\(∀a∈b.2,kc a)/\b.1.Nodup/\i8 b.1
def kX(wants:List ⇑57)(b:Bl):Prop:=∀(p:Nat)(a:Ac),b.2[p]?=ae a->a.right wants (kn b.1 b.2 p)
def jk:aR:=λws n Q=>ws=[.tp]/\n < 2 ^ 39/\∀v∈qI,Q (.d v) (n+1)
def m4:aR:=λws n Q=>ws=[.tp]/\n < 2 ^ 39/\∀m:Nat,1<=m->m<=4->Q (.d (.int m)) (n+1)
def uD:aR:=λws n Q=>∃ks:List Str,ws=[.tp,.ln ⇑28]/\ks.length<=1000/\(∀k∈ks,fY k)/\n+9 < 2 ^ 39/\∀(fs:List Fe)(n':Int),1<=fs.length->eR fs->(∀f∈fs,f.tm=ah)->rF ks fs->n'<=n+9->Q (.d (cE fs)) n'
def r9:aR:=λws n Q=>∃ks:List Str,ws=[.tp,.ln ⇑28]/\ks.length<=1000/\(∀k∈ks,fY k)/\n+2 < 2 ^ 39/\∀(f:Fe)(n':Int),f.ok->f.te=ah->(∀k,f.us=ae k->k∈ks)->n'<=n+2->Q (.d f.d) n'
def oG:aR:=λws n Q=>∃(ks:List Str)(os:List Nat)(wants:List ⇑57),ws=[.tp,.ln ⇑28,.d (.list (os.map λb=>.int (b:Nat)))]/\ks.length<=1000/\(∀k∈ks,fY k)/\0 < os.length/\os.length<=1000 /\
 (∀b∈os,∃w,wants[b]?=ae w/\∀k∈w,k∈ks)/\n+11 < 2 ^ 39/\∀(a:Ac)(n':Int),kc a->a.right wants ks->n'<=n+11->Q (.d (.tuple [a.d,.list (a.bs.map .str)])) n'
def qz(bs:List Bl):Prop:=1<=bs.length/\bs.length<=6/\∀b∈bs,kU b/\kX (bs.map (·.1)) b
def sN:aR:=λws n Q=>∃(ks:List Str)(v:Wv),ws=[.tp,v]/\gX v=ae ⇑28/\ks.length<=1000/\(∀k∈ks,fY k)/\n+9 < 2 ^ 39/\∀(fs:List Fe)(n':Int),1<=fs.length->eR fs->(∀f∈fs,f.pt=ah)->rF ks fs->n'<=n+9->Q (.d (.tuple [cE fs,.list ((bu fs).map .str)])) n'
def jS(bs:List Bl):Prop:=∃w,bs.map (·.1)=[]::w
def uV:aR:=λws n Q=>ws=[.tp]/\n+600 < 2 ^ 39/\∀(bs:List Bl)(n':Int),qz bs->jS bs->n'<=n+600->Q (.d (dR bs)) n'
abbrev Hn:=Nat×Nat×Nm
def bM(h:Hn):Ad:=.tuple [.int h.1,.int h.2.1,bO h.2.2]
abbrev Nt:=List Ad×Ad
def dy(q:Nt):Ad:=.tuple [.tuple q.1,q.2]
def dN(ns:List Nt):Ad:=.tuple (ns.map dy)
def bE(hs:List Hn)(ns:List Nt):Ad:=.tuple [.tuple (hs.map bM),dN ns]
abbrev Pg:=List (List Bl)
def bw(ps:Pg):Ad:=.tuple (ps.map dR)
def cf(ps:Pg):Prop:=ps.length<=5/\∀P∈ps,qz P
def qM(q:Nt):Prop:=uy q.1/\iB q.2
def dO(m:Nat)(ns:List Nt):Prop:=ns.length<=m/\∀q∈ns,qM q
structure okHn(b:Bl)(h:Hn):Prop where
 pl:h.2.1<=b.2.length
 nd:(h.2.2.map (·.1)).Nodup
 ok:∀p∈h.2.2,fN p
 up:jO h.2.2
 mem:∀k,k∈h.2.2.map (·.1)↔k∈kn b.1 b.2 h.2.1
 ln:h.2.2.length<=40
theorem okHn.n(H:okHn b h):okN h.2.2:=⟨H.ln,H.nd,H.ok⟩
def okHs(ps:Pg)(hs:List Hn):Prop:=hs.length=ps.length/\∀(i:Nat)(P:List Bl),ps[i]?=ae P->∃(h:Hn)(b:Bl),hs[i]?=ae h/\P[h.1]?=ae b/\okHn b h
def bI(ps:Pg)(hs:List Hn)(h:Nat):Option Ac:=ps[h]?.bind λP=>hs[h]?.bind λx=>P[x.1]?.bind λb=>b.2[x.2.1]?
def kI:Option Ac->Ad
 |none=>.none
 |some a=>a.d
def Fe.fd:Fe->Fd
 |.any=>.any
 |.word=>.word
 |.num=>.number
 |.isv d=>.is d
 |.bind k=>.bind k
 |.as k=>.as k
 |.nx _=>.any
def Ac.pf:Ac->Option (List Fd)
 |.take fs=>ae ⇑98
 |.read fs=>ae ⇑98
 |.look fs _=>ae ⇑98
 |_=>af
def Ac.wt:Ac->Bool
 |.take _=>ah
 |.read _=>ah
 |_=>ai
def aY(fs:List Fd)(nm:Nm)(ns:List Nt):Option Nat:=ns.findIdx? λq=>cF fs q.1 nm
def vO(hs:List Hn)(h:Nat):Nm:=(hs[h]?.map (·.2.2)).getD []
def eO(ps:Pg)(hs:List Hn)(ns:List Nt)(h:Nat):Option Nat:=(bI ps hs h).bind λa=>a.pf.bind λfs=>aY fs (vO hs h) ns
def cn(ps:Pg)(hs:List Hn)(ns:List Nt)(h:Nat):Bool:=((bI ps hs h).map λa=>!a.wt || (eO ps hs ns h).isSome).getD ai
def iI:Option Nat->Ad
 |none=>.none
 |some i=>.int i
def cH(ns:List Nt)(i:Nat):List Ad:=(ns[i]?.map (·.1)).getD []
def dZ(ps:Pg)(hs:List Hn)(ns:List Nt):Prop:=cf ps/\okHs ps hs/\dO 100 ns
def ko:Ad->Ad
 |.int i=>if i=99 then .int 0 else .int (i+1)
 |d=>d
def gQ(nm:Nm)(k:Str):Ad:=(look nm k).getD .none
def eD(nm:Nm):Fe->Ad
 |.isv d=>d
 |.as k=>gQ nm k
 |.nx k=>ko (gQ nm k)
 |_=>.none
def fT(fs:List Fe)(nm:Nm):List Ad:=fs.map (eD nm)
def lW(P:List Bl)(b:Nat):List Str:=(P[b]?.map (·.1)).getD []
def bR(P:List Bl)(b:Nat)(nm:Nm):Hn:=(b,0,nm.filter λp=>decide (p.1∈lW P b))
def cW(x:Hn)(nm:Nm):Hn:=(x.1,x.2.1+1,nm)
def a9(hs:List Hn)(h:Nat)(x:Hn):List Hn:=hs.take h++x::hs.drop (h+1)
def iS:Ad->Ad
 |.int i=>.int (i-1)
 |d=>d
def fE:Ad->Bool
 |.int i=>decide (i=1)
 |_=>ai
def eM(ns:List Nt):List Nt:=(ns.filter λq=>!fE q.2).map λq=>(q.1,iS q.2)
def cU(ns:List Nt)(i:Nat):List Nt:=ns.take i++ns.drop (i+1)
def bL(fs:List Fe)(x:Hn)(ns:List Nt):Option (Nat×Hn):=(aY ⇑98 x.2.2 ns).map λi=>(i,cW x (bP (ee ⇑98 (cH ns i) x.2.2)))
def nA(P:List Bl)(x:Hn)(ns:List Nt):Ac->Option (Hn×List Nt)
 |.lay fs age=>ae (cW x x.2.2,ns++[(fT fs x.2.2,age)])
 |.go b=>ae (bR P b x.2.2,ns)
 |.same f g b=>ae (if eL (eD x.2.2 f) (eD x.2.2 g)=ah then cW x x.2.2 else bR P b x.2.2,ns)
 |.take fs=>(bL fs x ns).map λq=>(q.2,cU ns q.1)
 |.read fs=>(bL fs x ns).map λq=>(q.2,ns)
 |.look fs b=>match bL fs x ns with
  |some q=>ae (q.2,ns)
  |none=>ae (bR P b x.2.2,ns)
def eI(ps:Pg)(hs:List Hn)(ns:List Nt)(h:Nat):Option (List Hn×List Nt):=ps[h]?.bind λP=>hs[h]?.bind λx=>(bI ps hs h).bind λa=>(nA P x ns a).map λr=>⇑112
def bX(ps:Pg)(hs:List Hn)(ns:List Nt)(m:Nat):Option (List Hn×List Nt):=if m=ps.length then ae (hs,eM ns)else eI ps hs ns m
def ji:Option (List Hn×List Nt)->Ad
 |none=>.none
 |some r=>bE r.1 r.2
def eY(nm:Nm)(f:Fe):Prop:=f.ok/\f.tm=ah/\∀k,f.us=ae k->∃v,look nm k=ae v/\cv v=ah
def sZ:aR:=λws n Q=>∃i m:Int,ws=[.d (.int i),.d (.int m)]/\0<=i/\i<=m/\Q (.d ⇑32) n
def wX:aR:=λws n Q=>∃v,ws=[.d v]/\cv v=ah/\Q (.d (ko v)) n
def oS:aR:=λws n Q=>∃(f:Fe)(nm:Nm),ws=[.d f.d,.dk (bA nm)]/\eY nm f/\Q (.d (eD nm f)) n
def rZ:aR:=λws n Q=>∃(fs:List Fe)(nm:Nm),ws=[.d (cE fs),.d (bO nm)]/\fs.length<=4/\(∀f∈fs,eY nm f)/\okN nm/\Q (.d (.tuple (fT fs nm))) n
def vm:aR:=λws n Q=>∃(f g:Fe)(b:Nat)(nm:Nm),ws=[.d (Ac.same f g b).d,.d (bO nm)]/\eY nm f/\eY nm g/\f.te=ah/\g.te=ah/\okN nm/\Q (.d (.bool (eL (eD nm f) (eD nm g)))) n
def mR:aR:=λws n Q=>∃(x:Hn)(nm:Nm),ws=[.d (bM x),.d (bO nm)]/\Q (.d (bM (cW x nm))) n
def nS:aR:=λws n Q=>∃(P:List Bl)(b:Nat)(nm:Nm)(w:Bl),ws=[.d (dR P),.d (.int b),.d (bO nm)]/\P[b]?=ae w/\w.1.length<=4/\Q (.d (bM (bR P b nm))) n
def jW:aR:=λws n Q=>∃(hs:List Hn)(h:Nat)(x:Hn),ws=[.d ⇑124,.d (.int h),.d (bM x)]/\h < hs.length/\hs.length<=5/\Q (.d (.tuple ((a9 hs h x).map bM))) n
def nW:aR:=λws n Q=>∃(ps:Pg)(hs:List Hn)(ns:List Nt)(h:Nat)(a:Ac),ws=[.d (bw ps),.d ⇑23,.d (.int h),.d a.d]/\dZ ps hs ns/\h < ps.length/\bI ps hs h=ae a/\a.pf.isSome=ah/\Q (.d (ji (eI ps hs ns h))) n
def wD:aR:=λws n Q=>∃(ps:Pg)(hs:List Hn)(ns:List Nt)(h:Nat),ws=[.d (bw ps),.d ⇑23,.d (.int h)]/\dZ ps hs ns/\h < ps.length/\Q (.d (ji (eI ps hs ns h))) n
def uG:aR:=λws n Q=>∃q:Nt,ws=[.d (dy q)]/\iB q.2/\Q (.d (dy (q.1,iS q.2))) n
def vc:aR:=λws n Q=>∃(hs:List Hn)(ns:List Nt),ws=[.d ⇑23]/\(∀q∈ns,iB q.2)/\Q (.d (bE hs (eM ns))) n
def fq:aR:=λws n Q=>∃(ps:Pg)(hs:List Hn)(ns:List Nt)(m:Nat),ws=[.d (bw ps),.d ⇑23,.d (.int m)]/\dZ ps hs ns/\m<=ps.length/\Q (.d (ji (bX ps hs ns m))) n
def d8:aR:=λws n Q=>∃(ps:Pg)(hs:List Hn)(ns:List Nt)(m:Nat)(r:List Hn×List Nt),ws=[.d (bw ps),.d ⇑23,.d (.int m)]/\dZ ps hs ns/\m<=ps.length/\bX ps hs ns m=ae r/\Q (.d (bE r.1 r.2)) n
def mq:aR:=λws n Q=>∃(ps:Pg)(hs:List Hn)(ns:List Nt)(h:Nat),ws=[.d (bw ps),.d ⇑23,.d (.int h)]/\okHs ps hs/\h < ps.length/\Q (.d (kI (bI ps hs h))) n
def vS:aR:=λws n Q=>∃(ps:Pg)(hs:List Hn)(ns:List Nt)(h:Nat),ws=[.d (bw ps),.d ⇑23,.d (.int h)]/\dZ ps hs ns/\h < ps.length/\Q (.d (iI (eO ps hs ns h))) n
def nM:aR:=λws n Q=>∃m:Nat,ws=[.tp,.d (.int m)]/\m<=12/\n+100 < 2 ^ 39/\∀(ns:List Nt)(n':Int),dO m ns->n'<=n+100->Q (.d (dN ns)) n'
def uJ:aR:=λws n Q=>∃(P:List Bl)(i p:Nat)(b:Bl),ws=[.d (dR P),.d (.int i),.d (.int p)]/\P[i]?=ae b/\kU b/\p<=b.2.length/\∀ys:List Str,ys.Nodup->(∀k∈ys,fY k)->i8 ys->(∀k,k∈ys↔k∈kn b.1 b.2 p)->Q (.d (.list (ys.map .str))) n
def w6:aR:=λws n Q=>∃i:Int,ws=[.d (.int i)]/\Q (.d ⇑32) n
def rT:aR:=λws n Q=>∃(ps:Pg)(m:Nat),ws=[.tp,.d (bw ps),.d (.int m)]/\m<=6/\cf ps/\n+400 < 2 ^ 39/\∀(hs:List Hn)(ns:List Nt)(n':Int),okHs ps hs->dO m ns->n'<=n+400->Q (.d ⇑23) n'
def ud:aR:=λws n Q=>ws=[.tp]/\n+3000 < 2 ^ 39/\∀(ps:Pg)(hs:List Hn)(ns:List Nt)(n':Int),cf ps->okHs ps hs->dO 4 ns->n'<=n+3000->Q (.d (.tuple [bw ps,bE hs ns])) n'
def sO:aR:=mw
def v7:aR:=rZ
def tF:aR:=λws n Q=>∃(ps:Pg)(hs:List Hn)(h:Nat),ws=[.d (bw ps),.d ⇑124,.d (.int h)]/\okHs ps hs/\h < ps.length/\Q (.d (kI (bI ps hs h))) n
def fS(fs:List Fd)(nm:Nm)(ns:List Nt):Ad:=match aY fs nm ns with
 |none=>.none
 |some i=>.tuple [.int (i:Nat),bO (bP (ee fs (cH ns i) nm))]
def oi:aR:=λws n Q=>∃(a:Ac)(fs:List Fd)(ns:List Nt)(nm:Nm),ws=[.d a.d,.d (dN ns),.d (bO nm)]/\kc a/\a.pf=ae fs/\dO 100 ns/\okN nm/\Q (.d (fS fs nm ns)) n
def iY(ps:Pg)(hs:List Hn)(ns:List Nt):List Nat:=(A5 (ps.length+1)).filter λi=>(bX ps hs ns i).isSome
def d5:aR:=λws n Q=>∃(ps:Pg)(hs:List Hn)(ns:List Nt),ws=[.d (bw ps),.d ⇑23]/\dZ ps hs ns/\Q (.d (.list ((iY ps hs ns).map λi=>.int (i:Nat)))) n
structure Sd where
 hs:List Hn
 ns:List Nt
def Sd.d(s:Sd):Ad:=bE s.hs s.ns
def gF(ps:Pg)(s:Sd):Prop:=okHs ps s.hs/\dO 100 s.ns
inductive Bs where
 |notes (fs:List Fd) (k:Nat)|at(h b p:Nat)|ended (h:Nat)
def Bs.d:Bs->Ad
 |.notes fs k=>.tuple [.str "notes",bN fs,.int k]
 |.at h b p=>.tuple [.str "at",.int h,.int b,.int p]
 |.ended h=>.tuple [.str "ended",.int h]
def Bs.ok(ps:Pg):Bs->Prop
 |.notes fs _=>nc fs
 |.at h b p=>h < ps.length/\b<=100/\p<=100
 |.ended h=>h < ps.length
def holds(fs:List Fd)(row:List Ad):Bool:=cF fs row []
def many(fs:List Fd)(ns:List Nt):Nat:=(ns.filter λq=>holds fs q.1).length
def gW(ps:Pg)(s:Sd)(h:Nat):Bool:=match s.hs[h]?,ps[h]? with
 |some x,ae P=>match P[x.1]? with
  |some b=>decide (x.2.1=b.2.length)
  |none=>ai
 |_,_=>ai
def Bs.see(ps:Pg)(s:Sd):Bs->Bool
 |.notes fs k=>decide (k<=many fs s.ns)
 |.at h b p=>match s.hs[h]? with
  |some x=>decide (x.1=b)&&decide (x.2.1=p)
  |none=>ai
 |.ended h=>gW ps s h
def Sg:Nat->Type
 |0=>Bs
 |t+1=>Bs ⊕ ((Bool×List (Sg t)) ⊕ Sg t)
def ig(k:Bool):Str:=if k then "all" else "some"
def Sg.d:(t:Nat)->Sg t->Ad
 |0,b=>Bs.d b
 |_+1,.inl b=>Bs.d b
 |t+1,.inr (.inl q)=>.tuple [.str (ig q.1),.tuple (q.2.map (Sg.d t))]
 |t+1,.inr (.inr s)=>.tuple [.str "not",Sg.d t s]
def Sg.ok(ps:Pg):(t:Nat)->Sg t->Prop
 |0,b=>Bs.ok ps b
 |_+1,.inl b=>Bs.ok ps b
 |t+1,.inr (.inl q)=>∀s∈q.2,Sg.ok ps t s
 |t+1,.inr (.inr s)=>Sg.ok ps t s
def Sg.see(ps:Pg)(st:Sd):(t:Nat)->Sg t->Bool
 |0,b=>Bs.see ps st b
 |_+1,.inl b=>Bs.see ps st b
 |t+1,.inr (.inl q)=>if q.1 then q.2.all (Sg.see ps st t)else q.2.any (Sg.see ps st t)
 |t+1,.inr (.inr s)=>!Sg.see ps st t s
def Sg.subs:(t:Nat)->Sg t->List Ad
 |0,_=>[]
 |_+1,.inl _=>[]
 |t+1,.inr (.inl q)=>q.2.map (Sg.d t)
 |t+1,.inr (.inr s)=>[Sg.d t s]
def Sg.bs:(t:Nat)->Bs->Sg t
 |0,b=>b
 |_+1,b=>.inl b
theorem MB(t)(b:Bs):Sg.d t (Sg.bs t b)=b.d:=by cases t<;>rfl
theorem AJ(ps)(t)(b:Bs)(h:b.ok ps):Sg.ok ps t (Sg.bs t b):=by cases t<;>exact h
def rg:aR:=λws n Q=>∃(t:Nat)(g:Sg t),ws=[.d (Sg.d t g)]/\Q (.d (.tuple (Sg.subs t g))) n
def wM:aR:=λws n Q=>∃(fs:List Fd)(ns:List Nt),ws=[.d (bN fs),.d (dN ns)]/\nc fs/\dO 100 ns/\Q (.d (.int (many fs ns))) n
def cP:Nat->aR
 |0=>λ_ _ _=>False
 |t+1=>λws n Q=>∃(ps:Pg)(s:Sd)(g:Sg t),ws=[.d (bw ps),.d s.d,.d (Sg.d t g)]/\cf ps/\gF ps s/\Sg.ok ps t g/\Q (.d (.bool (Sg.see ps s t g))) n
def gZ:Nat->Int
 |0=>20
 |t+1=>4*gZ t
def j0:Nat->aR
 |0=>λ_ _ _=>False
 |t+1=>λws n Q=>∃ps:Pg,ws=[.tp,.d (bw ps),.d (.int t)]/\cf ps/\n+gZ t < 2 ^ 39/\∀(g:Sg t)(n':Int),Sg.ok ps t g->n'<=n+gZ t->Q (.d (Sg.d t g)) n'
def qP:aR:=λws n Q=>∃(ps:Pg)(ss:List Sd),ws=[.tp,.d (bw ps),.d (.list (ss.map Sd.d))]/\0 < ss.length/\ss.length<=1000/\cf ps/\(∀s∈ss,gF ps s)/\n+20 < 2 ^ 39/\∀(g:Sg 2)(n':Int),Sg.ok ps 2 g->n'<=n+20->Q (.d (Sg.d 2 g)) n'
end Nb
namespace L2
open PySem PySem.Spec PyProof.Rows
abbrev XP:=TK×Addr×V
def ck(ps:List XP)(k:TK):Option V:=(ps.find? λp=>decide (p.1=k)).map (·.2.2)
def du(ps:List XP)(k:TK)(b:Addr)(v:V):List XP:=if (ck ps k).isSome=ah then ps.map (λp=>if p.1=k then(p.1,p.2.1,v)else p)else ps++[(k,b,v)]
abbrev KX:List XP->List (TK×Addr×Ag)->Prop:=Paired λp q=>p.1=q.1/\p.2.1=q.2.1/\RelV p.2.2 q.2.2
theorem KX.val(r:KX ps xs)(k):RelO (ck ps k) ((atKey xs k).map (·.2)):=by
 induction r with
 |nil=>exact Ec
 |@cons p q ps qs h t ih=>
  obtain⟨h1,_,h2⟩:=h;by_cases e:p.1=k
  ·have e':q.1=k:=h1.symm.trans e;have b:atKey (q::qs) k=ae q.2:=by simp[atKey,Bg,e']
   have c:ck (p::ps) k=ae p.2.2:=by simp[ck,Bg,e]
   rw[c,b];exact h2
  ·have e':¬q.1=k:=λz=>e (h1.trans z);have b:atKey (q::qs) k=atKey qs k:=by simp[atKey,Bg,e']
   have c:ck (p::ps) k=ck ps k:=by simp[ck,Bg,e]
   rw[c,b];exact ih
theorem KX.repl(r:KX ps xs)(k)(ry:RelV y u):KX (ps.map λp=>if p.1=k then(p.1,p.2.1,y)else p) (xs.map (putAt k u)):=by
 induction r with
 |nil=>exact .nil
 |@cons p q ps qs h t ih=>
  rw[Bc,Bc];refine .cons ?_ ih;obtain⟨h1,h2,h3⟩:=h;unfold putAt;by_cases e:p.1=k
  ·rw[if_pos e,if_pos (h1.symm.trans e)];exact⟨h1,h2,ry⟩
  ·rw[if_neg e,if_neg (λz=>e (h1.trans z))];exact⟨h1,h2,h3⟩
theorem KX.put(r:KX ps xs)(k)(ry:RelV y u):KX (du ps k b y) (storedH xs k b u):=by
 have e:(ck ps k).isSome=(atKey xs k).isSome:=by rw[(r.val k).isSome_eq,Es]
 unfold du storedH;rw[e];by_cases q:(atKey xs k).isSome=ah
 ·rw[if_pos q,if_pos q];exact r.repl k ry
 ·rw[if_neg q,if_neg q];exact Paired.snoc r ⟨rfl,rfl,ry⟩
theorem uF(ps:List XP)(k)(b)(v):(du ps k b v).length<=ps.length+1:=by
 unfold du
 split
 ·rw[Aa];omega
 ·rw[An,A3];omega
def iN(K:Ah)(H:Hp)(ps:List XP):Prop:=∀p∈ps,RdD K H (.ref p.2.1) p.1.1
section
variable{X:Cx}{pins:List ⇑16}{σ:St}{H:Hp}{s:Ak}{a b:Addr}{v d:V}{u r:Ag}{ps:List XP}{k:TK}{A:B1}{E:Ag->Ak->Prop}
theorem p7(I:Inv X pins σ H s)(e:RdD X.K H (.ref b) k.1):(jy X.prog X.w).is s.heap k b:=RdD.reads I e (show RelV (.ref b) (.ref b)from rfl)
theorem n9(I:Inv X pins σ H s)(e:Rd H a (.dX ps))(hk:iN X.K H ps):ps.length<=Az/\(a==De)=ai/\∃xs,KX ps xs/\s.heap.DictOfH (jy X.prog X.w) a xs:=by
 obtain⟨z,y,xs,rel,o,es,ep,h1,h2,h3,h4,h5⟩:=(show ObjOk X.prog X.w H s.heap a (.dX ps)from e.ok I.hok);refine⟨z,y,xs,rel,o,es,ep,h1,h2,h3,h4,λx hx=>?_,h5⟩;have all:∀{l:List XP}{m:List (TK×Addr×Ag)},KX l m->iN X.K H l->∀x∈m,(jy X.prog X.w).is s.heap x.1 x.2.1:=by
  intro l m q
  induction q with
  |nil=>intro _ x hx;exact nomatch hx
  |@cons p q ps qs hq t ih=>
   intro hl x hx;rcases Ax.mp hx with e|hx
   ·subst e;have:=hl p Au;rw[hq.1,hq.2.1]at this;exact p7 I this
   ·exact ih (λp hp=>hl p (Ap _ hp)) x hx
 exact all rel hk x hx
theorem Lp(hu:A.units+64 < Du)(I:Inv X pins σ H s)(e:Rd H a (.dX ps))(hk:iN X.K H ps)(eb:RdD X.K H (.ref b) k.1)(l:ck ps k=ae v)(h:∀w' s',Inv X pins σ H s'->RelV v w'->Q w' s'):
  A1 ⇑14 A (getItem (.ref a) (.ref b)) Q E s:=by
 obtain⟨z,hd,xs,rel,dd⟩:=n9 I e hk;obtain⟨w',hw,rw'⟩:=RelO.some_of (v:=v) (o:=(atKey xs k).map (·.2)) (by rw[<-l];exact rel.val k);obtain⟨p,hp,hp2⟩:=Fg.mp hw;refine wpAny_getItem_heap (knd:=jy X.prog X.w) (show A.in1.units+16 < Du by simp only[Around.in1_units];omega) (p7 I eb) dd hp ?_;rw[hp2];exact h w' _ (I.tok _) rw'
theorem Q8(hu:A.units+64 < Du)(I:Inv X pins σ H s)(e:Rd H a (.dX ps))(hk:iN X.K H ps)(eb:RdD X.K H (.ref b) k.1)(h:∀s',Inv X pins σ H s'->Q (.bool (!(ck ps k).isSome)) s'):
  A1 ⇑14 A (B6 .NotIn (.ref b) (.ref a)) Q E s:=by
 obtain⟨z,hd,xs,rel,dd⟩:=n9 I e hk;refine wpAny_notIn_heap (knd:=jy X.prog X.w) (show A.in1.units+16 < Du by simp only[Around.in1_units];omega) (p7 I eb) hd dd ?_;have q:=(rel.val k).isSome_eq;rw[Es]at q;rw[<-q];exact h _ (I.tok _)
theorem MX(hu:A.units+64 < Du)(I:Inv X pins σ H s)(e:H a=ae (.dX ps))(hk:iN X.K H ps)(eb:RdD X.K H (.ref b) k.1)(l:ps.length < Az)(rv:RelV v r)(h:∀s',Inv X pins σ (upd H a (.dX (du ps k b v))) s'->Q () s'):
  A1 ⇑14 A (setItem (.ref a) (.ref b) r) Q E s:=by
 obtain⟨z,hd,xs,rel,dd⟩:=n9 I (.inl e) hk;have hz:xs.length<=Az:=by rw[<-D2 rel];exact z
 have hl:(du ps k b v).length<=Az:=by have:=uF ps k b v;omega
 refine wpAny_setItem_heap (knd:=jy X.prog X.w) (hsz:=hz) (show A.in1.units+16 < Du by simp only[Around.in1_units];omega) (p7 I eb) dd λh' dd' hs=>h _ ?_;obtain⟨q,es,ep,hq,h2,h3,h4,_,h5⟩:=dd';exact mV I (by rw[e];exact Ec) hs ⟨q,hq⟩ ⟨hl,hd,_,rel.put k rv,q,es,ep,hq,h2,h3,h4,h5⟩
end
def XGet(K:Ah)(H:Hp)(a:Addr)(y:V)(r:Option V):Prop:=∃ps k b,Rd H a (.dX ps)/\iN K H ps/\y=.ref b/\RdD K H (.ref b) k.1/\r=ck ps k
def oY(K:Ah)(H:Hp)(a:Addr)(y v:V)(H':Hp):Prop:=∃ps k b,H a=ae (.dX ps)/\iN K H ps/\y=.ref b/\RdD K H (.ref b) k.1/\ps.length < Az/\H'=upd H a (.dX (du ps k b v))
def HX(K:Ah)(H:Hp)(a:Addr):Prop:=∃ps,Rd H a (.dX ps)/\iN K H ps
def AQ(K:Ah)(td ty:TE):TE:=λσ H Q=>td σ H λx H1=>ty σ H1 λy H2=>∃a v,x=.ref a/\XGet K H2 a y (ae v)/\Q v H2
def pj(K:Ah)(ty td:TE):TE:=λσ H Q=>ty σ H λy H1=>td σ H1 λx H2=>∃a o,x=.ref a/\XGet K H2 a y o/\Q (.bl (!o.isSome)) H2
def xo(K:Ah)(td ty tv:TE):TS:=λD σ H=>tv σ H λv H1=>td σ H1 λx H2=>ty σ H2 λy H3=>∃a H4,x=.ref a/\oY K H3 a y v H4/\D.nx σ H4
section
variable{X:Cx}{pins:List ⇑16}{σ:St}{H:Hp}{s:Ak}{a:Addr}
theorem Qw(I:Inv X pins σ H s)(h:HX X.K H a):s.TypeIs (.ref a) "dict":=by
 obtain⟨ps,e,hk⟩:=h;obtain⟨_,_,xs,_,dd⟩:=n9 I e hk;exact dd.typeIs
theorem XGet.isX(g:XGet X.K H a y r):HX X.K H a:=let⟨ps,_,_,e,hk,_⟩:=g;⟨ps,e,hk⟩
end
section
variable{X:Cx}{o i e f value:Expr}{pos pos' tpos apos cpos:Pos}{td ty tv tx:TE}
theorem Jf(hu:X.A.units+64 < Du)(ho:PE X o td)(hi:PE X i ty)(hs:iL i):PE X (.Subscript o i pos) (AQ X.K td ty):=by
 sleep 6;refine zh PySem.F.slot_dict_getitem.lookup hs (aP (ho pins s σ H _ I h) λu s1 ⟨x,H1,I1,rx,q1⟩=>aP (hi pins s1 σ H1 _ I1 q1) λiv s2 ⟨y,H2,I2,ry,a,v,ex,g,q2⟩=>?_);sleep 22;have ty:=Qw I2 g.isX;obtain⟨ps,k,b,e,hk,rfl,eb,l⟩:=g;obtain rfl:iv=A4 b:=ry;exact⟨ty,Lp hu I2 e hk eb l.symm λw' s3 I3 rw'=>⟨v,H2,I3,rw',q2⟩⟩
theorem LY(hu:X.A.units+64 < Du)(hi:PE X i ty)(ho:PE X o td):PC X .NotIn i o (pj X.K ty td):=by
 sleep 6;refine aP (hi pins s σ H _ I h) λiv s1 ⟨y,H1,I1,ry,q1⟩=>aP (ho pins s1 σ H1 _ I1 q1) λu s2 ⟨x,H2,I2,rx,a,ov,ex,g,q2⟩=>?_;sleep 22;obtain⟨ps,k,b,e,hk,rfl,eb,rfl⟩:=g;obtain rfl:iv=A4 b:=ry;exact Q8 hu I2 e hk eb λs3 I3=>⟨.bl _,H2,I3,rfl,q2⟩
theorem Mg(hu:X.A.units+64 < Du)(ho:PE X o td)(hi:PE X i ty)(hv:PE X value tv)(hs:C5 value (ae (.Subscript o i pos')) pos.line X.env=pure ai):
  PS X (.Assign [.Subscript o i pos'] value pos) (xo X.K td ty tv):=by
 sleep 16;refine wpAny_Assign_Subscript (aP (hv pins s σ H _ I h) λr s1 ⟨v,H1,I1,rv,q1⟩=>aP (ho pins s1 σ H1 _ I1 q1) λu s2 ⟨x,H2,I2,rx,q2⟩=>aP (hi pins s2 σ H2 _ I2 q2) λiv s3 ⟨y,H3,I3,ry,a,H4,ex,g,q3⟩=>?_) hs;sleep 22;obtain⟨ps,k,b,e,hk,rfl,eb,l,rfl⟩:=g;obtain rfl:iv=A4 b:=ry;exact MX hu I3 e hk eb l rv λs4 I4=>⟨σ,_,I4,q3⟩
end
end L2
namespace DL
open PySem L2 Nb
def bc(m:List (TK×Ad))(k:TK):Option Ad:=(m.find? λq=>decide (q.1=k)).map (·.2)
def g9(m:List (TK×Ad))(k:TK)(d:Ad):List (TK×Ad):=if (bc m k).isSome=ah then m.map (λq=>if q.1=k then(q.1,d)else q)else m++[(k,d)]
section
variable{H:Hp}{B:Addr->Prop}{l:List (TK×Addr×V)}{m:List (TK×Ad)}
theorem RdY.len(h:RdY H B l m):l.length=m.length:=D2 h
theorem RdY.keys(h:RdY H B l m):iN K H l:=by
 induction h with
 |nil=>exact λp hp=>nomatch hp
 |@cons p q ps qs hq t ih=>
  intro x hx;rcases Ax.mp hx with rfl|hx
  ·exact hq.2.1.rd
  ·exact ih x hx
theorem RdY.val(h:RdY H B l m)(k):(ck l k=af/\bc m k=af)\/∃v d,ck l k=ae v/\bc m k=ae d/\RdX H B v d:=by
 induction h with
 |nil=>exact .inl ⟨rfl,rfl⟩
 |@cons p q ps qs hq t ih=>
  by_cases e:p.1=k
  ·have e':q.1=k:=hq.1.symm.trans e;exact .inr ⟨p.2.2,q.2,by simp[ck,Bg,e],by simp[bc,Bg,e'],hq.2.2⟩
  ·have e':¬q.1=k:=λz=>e (hq.1.trans z);have c1:ck (p::ps) k=ck ps k:=by simp[ck,Bg,e]
   have c2:bc (q::qs) k=bc qs k:=by simp[bc,Bg,e']
   rw[c1,c2];exact ih
theorem RdY.isSome(h:RdY H B l m)(k):(ck l k).isSome=(bc m k).isSome:=by
 rcases h.val k with⟨e1,e2⟩|⟨v,d,e1,e2,_⟩<;>rw[e1,e2]<;>rfl
theorem RdY.put(h:RdY H B l m)(rb:RdX H B (.ref b) k.1)(r:RdX H B v d):RdY H B (du l k b v) (g9 m k d):=by
 have e:=h.isSome k;have rep:RdY H B (l.map λp=>if p.1=k then(p.1,p.2.1,v)else p) (m.map λq=>if q.1=k then(q.1,d)else q):=by
  clear e
  induction h with
  |nil=>exact .nil
  |@cons p q ps qs hq t ih=>
   rw[Bc,Bc];refine .cons ?_ ih;by_cases e:p.1=k
   ·rw[if_pos e,if_pos (hq.1.symm.trans e)];exact⟨hq.1,hq.2.1,r⟩
   ·rw[if_neg e,if_neg λz=>e (hq.1.trans z)];exact hq
 unfold du g9;rw[e];by_cases z:(bc m k).isSome=ah
 ·rw[if_pos z,if_pos z];exact rep
 ·rw[if_neg z,if_neg z];exact Paired.snoc h ⟨rfl,rb,r⟩
end
section
variable{X:Cx}{a b c e o i f:Expr}{ta tb te td ty tx:TE}{wa wb we wd' wy wx:DT}{pos p:Pos}{K:Ah}
def dg(i:Nat):DT:=λδ n Q=>match δ[i]? with
 |some (ae (.odx kvs))=>Q (.dx kvs) n
 |some (ae (.w (.ob (.x kvs))))=>Q (.dx kvs) n
 |some (ae (.w x))=>Q x n
 |_=>False
theorem ua(i)(hN:X.N[i]?=ae x:=by rfl)(hv:fC X.env.scope x:=by first|exact Cs rfl|exact Ca (Cs rfl)|exact Ca (Ca rfl))(hd:⇑21=ai:=by decide)
  (hcd:⇑46=ai:=by decide):DE X (.Name x p) (aM i) (dg i):=⟨gh hN hv hd hcd,λC H B σ δ n Q Q' R h k=>by
 unfold dg at h
 split at h
 ·rename_i kvs e;obtain⟨v,h1,a,l,rfl,g2,g3,g4,g5,g6⟩:=R.sl i _ e;exact⟨_,h1,k _ (.dx kvs) H n R ⇑19 ⟨a,l,rfl,g2,λz=>R.t0 (z▸g4),g6⟩ h⟩
 ·rename_i kvs e;obtain⟨v,h1,⟨a,l,rfl,g2,g3,g6⟩,_⟩:=R.sl i _ e;exact⟨_,h1,k _ (.dx kvs) H n R ⇑19 ⟨a,l,rfl,g2,λz=>g3 (z▸R.bt),g6⟩ h⟩
 ·rename_i x _ e;obtain⟨v,h1,h2⟩:=R.sl i _ e;exact⟨v,h1,k v x H n R ⇑19 h2.1 h⟩
 ·exact h.elim⟩
def pb(d:Ad)(k:TK):Prop:=d=k.1/\∃ds,d=.tuple ds
theorem oN(r:RdX H B u d)(h:pb d k):∃b,u=.ref b/\RdX H B (.ref b) k.1:=by
 obtain⟨rfl,ds,e⟩:=h;rw[e]at r;cases r with
 |tup h1 h2 h3 h4=>exact⟨_,rfl,by rw[e];exact .tup h1 h2 h3 h4⟩
def iJ(x:Wv)(kvs:List (TK×Ad)):Prop:=x=.dx kvs\/x=.ob (.y kvs)
theorem WRel.rdX(ht:B t)(h:iJ x kvs)(r:WRel H B t v x):∃a l,v=.ref a/\Rd H a (.dX l)/\a≠t/\RdY H B l kvs:=by
 rcases h with rfl|rfl
 ·obtain⟨a,l,e,g1,g2,g3⟩:=r;exact⟨a,l,e,.inl g1,g2,g3⟩
 ·obtain⟨a,o,l,e,g1,g2,g3⟩:=(show ORel H B v (.y kvs)from r);exact⟨a,l,e,.inr ⟨o,g1⟩,λz=>g2 (z▸ht),g3⟩
def iO:Wv->Wv->Int->DQ->Prop:=λx y n Q=>∃kvs d k v,iJ x kvs/\y=.d d/\pb d k/\bc kvs k=ae v/\Q (.d v) n
theorem MT(hu:X.A.units+64 < Du)(ho:DE X o td wd')(hi:DE X i ty wy)(hK:X.K=K:=by rfl)(hs:iL i:=by exact λ_ _=>rfl):DE X (.Subscript o i pos) (AQ K td ty) (w2 wd' wy iO):=by
 subst hK;exact⟨Jf hu ho.pe hi.pe hs,λC H B σ δ n Q Q' R h k=>
 ho.sd C H B σ δ n _ _ R h λv x H1 n1 R1 k1 r1 q1=>hi.sd C H1 B σ δ n1 _ _ R1 q1 λu y H2 n2 R2 k2 r2 q2=>by
  have r1':=r1.kp k2 R1.bt;obtain⟨kvs,d,key,w,hx,rfl,hk,hv,q⟩:=q2;obtain⟨a,l,rfl,g1,g2,g3⟩:=WRel.rdX R2.bt hx r1';obtain⟨b,rfl,rb⟩:=oN (show RdX H2 B u d from r2) hk;rcases g3.val key with⟨e1,e2⟩|⟨v,d',e1,e2,e3⟩
  ·rw[e2]at hv;cases hv
  ·rw[e2]at hv;cases hv;exact⟨a,v,rfl,⟨l,key,b,g1,g3.keys,rfl,rb.rd,e1.symm⟩,k v (.d _) H2 n2 R2 ⇑64 e3 q⟩⟩
def jn(neg:Bool):Wv->Wv->Int->DQ->Prop:=λy x n Q=>∃kvs d k,iJ x kvs/\y=.d d/\pb d k/\Q (.d (.bool (if neg then !(bc kvs k).isSome else(bc kvs k).isSome))) n
theorem Uv(hi:DE X i ty wy)(ho:DE X o td wd'):eF (pj K ty td) (w2 wy wd' (jn ah)):=λC H B σ δ n Q Q' R h k=>
 hi.sd C H B σ δ n _ _ R h λv x H1 n1 R1 k1 r1 q1=>ho.sd C H1 B σ δ n1 _ _ R1 q1 λu y H2 n2 R2 k2 r2 q2=>by
  have r1':=r1.kp k2 R1.bt;obtain⟨kvs,d,key,hx,rfl,hk,q⟩:=q2;obtain⟨a,l,rfl,g1,g2,g3⟩:=WRel.rdX R2.bt hx r2;obtain⟨b,rfl,rb⟩:=oN (show RdX H2 B v d from r1') hk;refine⟨a,ck l key,rfl,⟨l,key,b,g1,g3.keys,rfl,rb.rd,rfl⟩,k _ _ H2 n2 R2 ⇑64 ⇑44 ?_⟩;rw[g3.isSome key];exact q
theorem BD(hu:X.A.units+64 < Du)(hi:DE X i ty wy)(ho:DE X o td wd')(hK:X.K=K:=by rfl)(hm:Ct .NotIn o=ai:=by with_unfolding_all rfl):DC X (.Compare i [.NotIn] [o] pos) (gP (pj K ty td)) (cT (w2 wy wd' (jn ah))):=by
 subst hK;exact⟨GH (LY hu hi.pe ho.pe) hm,lZ (Uv hi ho)⟩
def nH(i:Nat)(wy wv:DT):aJ:=λδ n K=>wv δ n λv n1=>∃kvs,δ[i]?=ae (ae (.odx kvs))/\wy δ n1 λy n2=>∃k d e,v=.d d/\y=.d e/\pb e k/\kvs.length < 1000/\K.nx (δ.set i (ae (.odx (g9 kvs k d)))) n2
theorem FE{i:Nat}{xp sp:Pos}(hu:X.A.units+64 < Du)(hN:X.N[i]?=ae x)(hj:DE X j tj wj)(he:DE X e te we)(hK:X.K=K:=by rfl)(hv:fC X.env.scope x:=by first|exact Cs rfl|exact Ca (Cs rfl)|exact Ca (Ca rfl))(hd:⇑21=ai:=by decide)
  (hcd:⇑46=ai:=by decide) (hs:C5 e (ae (.Subscript ⇑29 j sp)) pos.line X.env=pure ai:=by rfl):
  DS X (.Assign [.Subscript ⇑29 j sp] e pos) (xo K (aM i) tj te) (nH i wj we):=by
 subst hK;exact⟨Mg hu ⇑82 hj.pe he.pe hs,λC H B σ δ n K D R q E=>
  he.sd C H B σ δ n _ _ R q λu y H1 n1 R1 k1 r1 q1=>by
   obtain⟨kvs,ei,q1⟩:=q1;obtain⟨v,hv,a,l,rfl,e2,e3,e4,e5,e6⟩:=R1.sl i _ ei;refine⟨_,hv,hj.sd C H1 B σ δ n1 _ _ R1 q1 λw z H2 n2 R2 k2 r2 q2=>?_⟩;obtain⟨key,d,ek,rfl,rfl,hk,hl0,q2⟩:=q2;sleep 23;have e2':=k2 _ _ e2 hat;have r1':RdX H2 B u d:=RdX.kp k2 R1.bt r1;have e6':RdY H2 B l kvs:=e6.move λb o e n=>⟨k2 b o e λz=>n (z▸R1.bt),n⟩;have hl:l.length < 1000:=by rw[e6'.len];exact hl0
   obtain⟨b,rfl,rb⟩:=oN (show RdX H2 B w ek from r2) hk;refine⟨a,_,rfl,⟨l,key,b,e2',e6'.keys,rfl,rb.rd,Bq hl (fG (Aq _)),rfl⟩,?_⟩;refine E.nx _ _ _ _ _ (R2.mutOwn ei rfl hv e3 e4 ?_ rfl) q2;refine⟨a,_,rfl,bH,e3,e4,?_,?_⟩
   ·have:=uF l key b u;omega
   ·exact(e6'.put rb r1').move λb o e n=>⟨by rw[aN λ(z:b=a)=>n (z▸e3)];exact e,n⟩⟩
end
end DL
namespace L2
open PySem PySem.Spec PyProof.Rows PySem.W
def BW(K:Ah):List V->Hp->VK->Prop:=λxs H Q=>∃a ps,xs=[.ref a]/\Rd H a (.dX ps)/\iN K H ps/\∀l,H l=af->Q (.ref l) (upd H l (.lst (ps.map λp=>V.ref p.2.1)))
theorem zw(r:KX ps xs):Vals (ps.map λp=>V.ref p.2.1) (xs.map λx=>A4 x.2.1):=by
 induction r with
 |nil=>exact .nil
 |@cons p q ps qs h t ih=>exact .cons (show RelV (V.ref p.2.1) (A4 q.2.1) by rw[h.2.1];rfl) ih
theorem Jw(hh:X.A.handled=af):CallR X (.type "list") (BW X.K):=by
 sleep 11;obtain⟨a,ps,rfl,ha,hk,q⟩:=h;sleep 18;cases(show u=A4 a from ru);obtain⟨z,y,ys,rel,o,es,ep,h1,h2,h3,h4,h5⟩:=(show ObjOk X.prog X.w H s.heap a (.dX ps)from ha.ok I.hok);have hsz:es.size=ys.length:=by
  have:=congrArg D8 h4;rw[Aa,B9]at this;exact this
 have hlen:ys.length=ps.length:=(D2 rel).symm;refine kdl_call (Qt (es:=es) (ep:=ep) y) hh (show DEs s.heap a es ep from⟨o,h1,h2,h3⟩) (by rw[hsz,hlen];exact z) λh' tk acc c hkp hL hI=>?_;have eacc:acc=(ys.map λx=>A4 x.2.1).toArray:=by
  apply F0.mp;apply List.ext_getElem?;intro j;by_cases hj:j < es.size
  ·have hja:j < acc.toList.length:=by rw[B9,hI.1];exact hj
   have this:(es[j]?).map (·.key)=ae (acc.toList[j]):=hI.2 j (acc.toList[j]) (by rw[<-Dy,Ae hja]);rw[<-Dy,h4,Am,Option.map_map]at this;rw[Ae hja,<-this,Am];rfl
  ·rw[Cj (by rw[B9,hI.1];omega),Cj (by simp only[Aa];omega)]
 rw[eacc]at hL;refine⟨.ref s.heap.objs.size,_,I.laid (t':=tk) (h':=h') (o:=.lst (ps.map λp=>V.ref p.2.1)) hkp (Aq _) ⟨by rw[Aa];exact z,_,c,zw rel,hL⟩,rfl,q _ ⇑89⟩
def zT(a:Addr)(o:Obj)(l:List XP):It:=
 ⟨λi H=>H a=ae ⇑91/\i < l.length,λi H x H'=>H'=H/\∃p,l[i]?=ae p/\x=.ref p.2.1,λi H=>H a=ae ⇑91/\l.length<=i⟩
theorem xW{l:List XP}(hd:o.data=.dict es ep)(ok:ObjOk P w H h a ⇑91):(a==De)=ai/\DEs h a es ep/\es.size=l.length/\∀i p,l[i]?=ae p->(es.getD i ⟨0,.none,.none⟩).key=.ref p.2.1:=by
 obtain⟨g,z,hs,xs,rel,o',es',ep',h1,h2,h3,h4,h5⟩:=ok;rw[g]at h1;cases h1;rw[hd]at h3;cases h3;have hl:es.size=xs.length:=by
  have:=congrArg D8 h4;rw[Aa,B9]at this;exact this
 refine⟨hs,⟨o,g,h2,hd⟩,hl.trans (D2 rel).symm,λi p e=>?_⟩;have hi:i < xs.length:=by rw[<-D2 rel];exact(Ar.mp e).1
 obtain⟨q,e2⟩:∃q,xs[i]?=ae q:=⟨xs[i],Ae hi⟩;have e3:es[i]?=ae (entryOfKey (jy P w) q):=by rw[<-Dy,h4,Am,e2];rfl
 have pk:p.2.1=q.2.1:=by
  have:=zw (ps:=l) (xs:=xs) rel;obtain⟨u,hu,ru⟩:=this.get (show(l.map λp=>V.ref p.2.1)[i]?=ae (V.ref p.2.1) by rw[Am,e];rfl);rw[Am,e2]at hu;cases hu;exact(Value.ref.inj (show A4 q.2.1=A4 p.2.1 from ru)).symm
 have hlt:i < es.size:=by rw[hl];exact hi
 rw[show es.getD i ⟨0,.none,.none⟩=es[i] by simp[hlt]];rw[Co hlt]at e3;rw[Bb e3,pk];rfl
theorem Ub{K:Ah}(hd:o.data=.dict es ep):Turn P w K tg (zT a o l) [it] it (λi h=>h.IsKeyIter it a i es.size ep) where
 mem:=by simp
 obj:=λi h st b hb=>by
  have e:b=it:=by simpa using hb
  subst e;obtain⟨o,e,c,d⟩:=st;exact⟨o,e,λv z=>by rw[d]at z;cases z⟩
 keep:=λi h h' st k=>st.at λo e=>k it (by simp) o e
 item:=by
  sleep 17;obtain⟨ha,hi⟩:=hg;obtain⟨_,dd,hl,ke⟩:=xW hd (I.hok a _ ha);obtain⟨p,hx⟩:∃p,l[i]?=ae p:=⟨l[i],Ae hi⟩;sleep 21;refine qh st dd (λ_ h' st' sb=>?_) λz=>absurd z ⋯;rw[ke i p hx];have I1:Inv X pins σ H {s with heap:=h'}:=I.turned (t':=s.toks) (λb o hb e=>(sb.2 b hb).trans e) f0 f1 f3 f4 f5;obtain⟨o',e,c,d⟩:=id st';exact⟨_,rfl,qO (s:={ s with heap:=h'}) e c d ∎ ⟨.ref p.2.1,H,I1,rfl,⟨rfl,p,hx,rfl⟩,st',λb hb=>(hf b hb).1⟩⟩
 done:=by
  sleep 17;obtain⟨ha,hi⟩:=hg;obtain⟨_,dd,hl,ke⟩:=xW hd (I.hok a _ ha);sleep 21;exact qh st dd (λz=>absurd z ⋯) λ_=>⟨I.ok.hd hc,λh' eb=>⟨rfl,I.turned (t':=s.toks) (λb o hb e=>eb b o hb e) f0 f1 f3 f4 f5⟩⟩
 self:=λ_ _ _ _ _ st h=>wpAny_pyIter_keyiter st h
def FD(tl:TE):TI:=λσ H R=>tl σ H λx H1=>∃a o l,x=.ref a/\H1 a=ae ⇑91/\R (zT a o l) H1
theorem Kr(hl:PE X l tl):PI X tg l (FD tl):=by
 intro pins s σ H R I h;refine aP (hl pins s σ H _ I h) λv s1 ⟨x,H1,I1,r1,q1⟩=>?_;obtain⟨a,o,ls,e,hq,q⟩:=q1;subst e;cases r1;have ok:=I1.hok a _ hq;obtain⟨g,z,hs,xs,rel,o',es,ep,h1,h2,h3,h4,h5⟩:=id ok;rw[g]at h1;cases h1;obtain⟨_,dd,_,_⟩:=xW h3 ok;refine yg hs dd ?_;refine⟨s1.heap.objs.size,[s1.heap.objs.size],_,_,H1,rfl,I1.kept (t':=s1.toks) λb o e=>Af _ e,Ub (l:=ls) h3,⟨_,Aw _ rfl,rfl,rfl⟩,λb hb=>?_,q⟩;have e:b=s1.heap.objs.size:=by simpa using hb
 subst e;exact I1.fpOk (Aq _) (I1.hok.fresh (Aq _))
theorem Inv.freezeX{σ:St}{l:List XP}(I:Inv X pins σ H s)(e:H a=ae (.dX l)):∃o,Inv X pins σ (upd H a ⇑91) s:=by
 obtain⟨z,hs,xs,rel,o,es,ep,h1,h2,h3,h4,h5⟩:=I.hok a _ e;exact⟨o,mV (h':=s.heap) (t':=s.toks) I (by rw[e];exact Ec) ⟨rfl,λ_ _=>rfl⟩ ⟨o,h1⟩ ⟨h1,z,hs,xs,rel,o,es,ep,h1,h2,h3,h4,h5⟩⟩
def kW(T:TS):TS:=λD σ H=>∃a l,H a=ae (.dX l)/\∀o,T D σ (upd H a ⇑91)
theorem DV(h:PSs X b T):PSs X b (kW T):=λpins s σ H D I q=>by
 obtain⟨a,l,ha,q⟩:=q;obtain⟨o,I1⟩:=I.freezeX ha;exact h pins s σ _ D I1 (q o)
end L2
namespace DL
open PySem L2 Nb
theorem Rel.fzX(R:Rel C H B σ δ n)(hi:δ[i]?=ae (ae (.odx m))):
  ∃a l,σ[i]?=ae ⇑92/\H a=ae (.dX l)/\B a/\C.H0 a=af/\a≠C.t/\∀o,Rel C (upd H a ⇑91) (λb=>B b/\b≠a) σ (δ.set i (ae ⇑113)) n:=by
 obtain⟨v,hσ,a,l,rfl,e2,hb,h0,e5,e6⟩:=R.sl i _ hi;have hat:a≠C.t:=λz=>R.t0 (z▸h0);refine⟨a,l,hσ,e2,hb,h0,hat,λo=>?_⟩;have R1:Rel C H B σ (δ.set i af) n:={
  tp:=R.tp,kp:=R.kp,t0:=R.t0,l0:=R.l0,g0:=R.g0,fz:=R.fz,bt:=R.bt,b0:=R.b0,ba:=R.ba,a0:=R.a0
  sl:=λj y e=>by
   by_cases z:i=j
   ·subst z;rw[Dp]at e;rw[hi]at e;cases e
   ·rw[Bo z]at e;exact R.sl j y e
  ow:=λj k y z u e1 e2 o1 o2 f1 f2=>by
   have g:∀{m:Nat}{w:SV},(δ.set i af)[m]?=ae (ae w)->δ[m]?=ae (ae w):=λ{m w} e=>by
    by_cases q:i=m
    ·subst q;rw[Dp,hi]at e;cases e
    ·rwa [Bo q]at e
   exact R.ow j k y z u (g e1) (g e2) o1 o2 f1 f2
  len:=by rw[Cp];exact R.len}
 have R2:Rel C (upd H a ⇑91) B σ (δ.set i af) n:=R1.mut hb h0 λj y e oy f=>by
  by_cases z:i=j
  ·subst z;rw[Dp,hi]at e;cases e
  ·rw[Bo z]at e;exact z (R.ow i j _ y _ hi e rfl oy hσ f)
 have less:∀b,(B b/\b≠a)->B b:=λb z=>z.1;exact{
  tp:=R2.tp,kp:=R2.kp,t0:=R2.t0,l0:=R2.l0,g0:=R2.g0
  fz:=λb o e=>⟨(R2.fz b o e).1,λz=>(R2.fz b o e).2 z.1⟩
  bt:=⟨R.bt,λz=>R.t0 (z▸h0)⟩
  b0:=λb z=>⟨R.b0 b z,λq=>R.a0 b z (q▸h0)⟩
  ba:=λb z=>R2.ba b z.1
  a0:=R.a0
  sl:=λj y' e=>by
   rcases fP e with⟨rfl,rfl⟩|⟨ne,e'⟩
   ·refine⟨_,hσ,⟨a,o,l,rfl,bH,λz=>z.2 rfl,e6.move λb ob e n=>⟨?_,λz=>n z.1⟩⟩,λz=>by cases z⟩;rw[aN λ(z:b=a)=>n (z▸hb)];exact e
   ·obtain⟨u,f1,f2⟩:=R2.sl j y' (by rw[Bo λz=>ne z.symm];exact e');refine⟨u,f1,?_⟩;cases y' with
    |w y=>exact⟨f2.1.less less,f2.2⟩
    |own ds'=>
     obtain⟨a',xs',g1,g2,g3,g4,g5,g6⟩:=f2;refine⟨a',xs',g1,g2,⟨g3,λz=>?_⟩,g4,g5,g6.less less⟩;exact ne (R.ow j i _ _ _ e' hi rfl rfl f1 (by rw[hσ,g1,z]))
    |odk ds'=>
     sleep 26;exact ne (R.ow j i _ _ _ e' hi rfl rfl f1 (by rw[hσ,g1,z]))
    |odt ds'=>
     sleep 26;exact ne (R.ow j i _ _ _ e' hi rfl rfl f1 (by rw[hσ,g1,z]))
    |odx ds'=>
     sleep 26;exact ne (R.ow j i _ _ _ e' hi rfl rfl f1 (by rw[hσ,g1,z]))
  ow:=λj k y z u e1 e2 o1 o2 f1 f2=>by
   rcases fP e1 with⟨rfl,rfl⟩|⟨ne1,e1'⟩
   ·cases o1
   ·rcases fP e2 with⟨rfl,rfl⟩|⟨ne2,e2'⟩
    ·cases o2
    ·exact R.ow j k y z u e1' e2' o1 o2 f1 f2
  len:=by rw[Cp];exact R.len}
theorem RdY.at(h:RdY H B l m):∀{j:Nat}{p:TK×Addr×V},l[j]?=ae p->∃q,m[j]?=ae q/\p.1=q.1/\RdX H B (.ref p.2.1) p.1.1/\RdX H B p.2.2 q.2:=by
 induction h with
 |nil=>intro j p e;cases e
 |@cons a b ps qs r t ih=>
  intro j p e;cases j with
  |zero=>cases e;exact⟨b,rfl,r⟩
  |succ j=>exact ih e
section
variable{X:Cx}{a b c e o i f tg:Expr}{ta tb te td ty tx:TE}{wa wb we wd' wy wx:DT}{pos p:Pos}{K:Ah}
def js(i:Nat)(W:aJ):aJ:=λδ n K=>match δ[i]? with
 |some (ae (.odx m))=>W (δ.set i (ae ⇑113)) n K
 |_=>False
theorem KC(i)(h:DSs X l T W):DSs X l (kW T) (js i W):=⟨DV h.ps,λC H B σ δ n K D R q E=>by
 unfold js at q
 split at q
 ·rename_i m e;obtain⟨a,l,hσ,e2,hb,h0,hat,rf⟩:=R.fzX e;exact⟨a,l,e2,λo=>h.sd C _ _ σ _ n K D (rf o) q E⟩
 ·exact q.elim⟩
def p9(w:DT):gR:=λδ n Q=>w δ n λx n1=>∃kvs:List (TK×Ad),x=.ob (.y kvs)/\kvs.length<=1000/\Q (kvs.map λp=>p.1.1) n1
theorem Le(ha:DE X a ta wa):DI X tg a (FD ta) (p9 wa):=⟨Kr ha.pe,λC H B σ δ n Q Q' R q k=>ha.sd C H B σ δ n _ _ R q λv x H1 n1 R1 k1 r1 q1=>by
 obtain⟨kvs,rfl,hl,q2⟩:=q1;obtain⟨a,o,l,rfl,g1,g2,g3⟩:=(show ORel H1 B v (.y kvs)from r1);have hlen:l.length=kvs.length:=g3.len;refine⟨a,o,l,rfl,g1,k _ _ H1 n1 R1 k1 (λfz th=>?_) q2⟩;have hfz:fz a=ae ⇑91:=th.2 _ _ g1 g2;refine⟨by rw[Aa];exact fG hl,λj H hH hj=>?_,λH hH=>?_,λj H x H' d hH hd' hy=>?_⟩
 ·rw[Aa]at hj;exact⟨hH _ _ hfz,by rw[hlen];exact hj⟩
 ·exact⟨hH _ _ hfz,by rw[Aa,hlen];exact Aq _⟩
 ·obtain⟨rfl,p,hx,rfl⟩:=hy;refine⟨λ_ _ z=>z,λB' hB hBa=>?_⟩;rw[Am]at hd';obtain⟨q,hq,r⟩:=RdY.at g3 hx;rw[hq]at hd';cases hd';have r2:RdX H1 B (.ref p.2.1) q.1.1:=r.1▸r.2.1;exact r2.move λb ob e ne=>⟨hH _ _ ⇑95,hB _ _ ⇑95⟩⟩
end
end DL
namespace L2
open PySem PySem.Spec PyProof.Rows PySem.W
section
variable{prog:Bh}{w:Bt}{A:B1}{E:Ag->Ak->Prop}{s:Ak}{d:Addr}{es:Array G8}{ep:Nat}
theorem MI(hd:(d==De)=ai):MeetsIn prog w (Ek.«dict.__len__» ⟨[.ref d],[]⟩) (λ_ R s=>DEs s.heap d es ep/\R (.ok (.ret (.int es.size s.toks))) {s with toks:=s.toks+1}):=
 .of_wp λA R s ⟨x,h⟩=>by
  obtain⟨o,x1,x2,x3⟩:=x;refine(show A1 _ _ (dictSize d>>=_) _ _ s from ?_);unfold dictSize;refine Ab (Ab (wpAny_dictEntries x1 x3 (Aj (show A1 _ _ (Builtin.Dict.pendingCount d>>=_) _ _ s from Ab (wpAny_pendingCount_other hd (wpAny_ret_mkInt ?_))))));rw[Nat.add_zero];exact h
theorem Tt(hd:(d==De)=ai)(x:DEs s.heap d es ep)(hf:(es.size:Int) < 2 ^ 63)(h:Q (.int es.size (s.toks+1)) {s with toks:=s.toks+1+1}):A1 ⇑13 A (call (.builtin "len") [.ref d]) Q E s:=by
 refine Calls.call_function_entry kind_len plain_len entry_len (args_len1 _) ?_;unfold Ek.«len»;refine Ab (m:=oneArg "len" _) (Aj (Ab (m:=callSpecial? (.ref d) (C7 "__len__")) (By (name:=C7 "__len__") x.ty F.slot_dict_len (call_meetsIn F.slot_dict_len x.ty F.entry_dict_len (F.args_dict_len_1 _) (MI (es:=es) (ep:=ep) hd) ⟨x,?_⟩))));refine(show A1 _ _ _ _ _ {s with toks:=s.toks+1}from Ab (Cf (Aj (Ab (wpAny_letGo ?_)))));refine(show A1 _ _ (if ((es.size:Nat):Int) < 0 then _ else _) _ _ _ from ?_);rw[if_neg ⋯];refine(show A1 _ _ (if ((es.size:Nat):Int) ≥ 2 ^ 63 then _ else _) _ _ _ from ?_);rw[if_neg ⋯];exact Ab (wpAny_mkInt (Aj ⟨_,rfl,h⟩))
end
theorem HD:CallR X (.builtin "len") (λxs H Q=>∃a ps,xs=[V.ref a]/\Rd H a (.dX ps)/\Q (.int ps.length) H):=by
 sleep 11;obtain⟨a,ps,rfl,ha,q⟩:=h;sleep 18;cases(show u=A4 a from ru);obtain⟨z,y,ys,rel,o,es,ep,h1,h2,h3,h4,h5⟩:=(show ObjOk X.prog X.w H s.heap a (.dX ps)from ha.ok I.hok);have hsz:es.size=ps.length:=by
  have:=congrArg D8 h4;rw[Aa,B9]at this;exact this.trans (D2 rel).symm
 have hs:Az=16777216:=by decide
 refine Tt (es:=es) (ep:=ep) y ⟨o,h1,h2,h3⟩ (by rw[hsz];omega) ?_;rw[hsz];exact⟨.int ps.length,H,I.tok _,⟨_,rfl⟩,q⟩
end L2
namespace Nb
open PySem L2 DL
structure AfOk(Sa:aR)(pd:Ad)(N:Nat)(aft:TK->Nat->Option TK)(Gd:TK->Prop):Prop where
 call:∀(k:TK)(m:Nat)(n:Int)(Q:DQ),Gd k->m<=N->Q (.d (match aft k m with|some b=>b.1|none=>.none)) n->Sa [.d pd,.d k.1,.d (.int (m:Nat))] n Q
 good:∀(k:TK)(m:Nat)(b:TK),Gd k->m<=N->aft k m=ae b->Gd b
 tup:∀k:TK,Gd k->∃ds,k.1=.tuple ds
 prog:∃ps:List Ad,pd=.tuple ps/\ps.length=N
abbrev Fm:=List (TK×Ad)×List TK
def stp(aft:TK->Nat->Option TK)(s:TK)(p:Fm)(m:Nat):Fm:=match aft s m with
 |none=>p
 |some b=>if (bc p.1 b).isSome=ah then p else(p.1++[(b,.tuple [s.1,.int (m:Nat)])],p.2++[b])
def stpM(aft:TK->Nat->Option TK)(N:Nat)(p:Fm)(s:TK):Fm:=(A5 (N+1)).foldl (stp aft s) p
def cL(aft:TK->Nat->Option TK)(N:Nat)(p:Fm)(ss:List TK):Fm:=ss.foldl (stpM aft N) p
abbrev FG:R2:=λx y H Q=>y=.non/\Q (.bl (!decide (x=.non))) H
abbrev AG:List V->Hp->VK->Prop:=λxs H Q=>∃a ps,xs=[V.ref a]/\Rd H a (.dX ps)/\Q (.int ps.length) H
abbrev EW(K:Ah)(tm:TE)(rE:R2):TS:=gK (iA (gP (d3 rE (fZ AG (bU (aM 1) bq)) tm)) (λ_ _ _=>False) oM) (gK (xo K (aM 1) (aM 6) (lY (bU (aM 4) (bU (aM 5) bq)))) (r8 (rB K "list" uv (aM 3) (bU (aM 6) bq))))
abbrev rL(K:Ah)(Sa:aR)(tm:TE)(rE:R2):TS:=gK (bQ (fU (fi Sa) [] E0 (bU (aM 0) (bU (aM 4) (bU (aM 5) bq)))) (dH 6)) (iA (jt (gP (d3 FG (aM 6) (tC .non))) (gP (pj K (aM 6) (aM 1)))) (EW K tm rE) oM)
abbrev lE(K:Ah)(Sa:aR)(tm:TE)(rE:R2)(tr:TE):TS:=gK (bQ (jw bq) (dH 3)) (gK (gq (nQ K (aM 2)) (dH 4) (gq (nT (bU tr bq)) (dH 5) (rL K Sa tm rE))) (gw (aM 3)))
def KpD(t a:Addr)(H H':Hp):Prop:=∀b o,H b=ae o->b≠t->b≠a->H' b=ae o
section
variable{t a b:Addr}{H H1 H2 H3:Hp}
theorem KpD.refl:KpD t a H H:=λ_ _ e _ _=>e
theorem KpD.kp(k:KpD t a H1 H2)(k2:Kp t H2 H3):KpD t a H1 H3:=λb o e h1 h2=>k2 b o (k b o e h1 h2) h1
theorem KpD.new(k:KpD t a H1 H2)(h:H2 b=af):KpD t a H1 (upd H2 b o):=k.kp (Kp.new h)
theorem KpD.put(k:KpD t a H1 H2):KpD t a H1 (upd H2 a o):=λc o' e h1 h2=>by rw[aN h2];exact k c o' e h1 h2
theorem KpD.app(k:KpD t a H1 H2)(hb:H1 b=af):KpD t a H1 (upd H2 b o):=λc o' e h1 h2=>by rw[aN (bY e hb)];exact k c o' e h1 h2
end
structure FuI(H0:Hp)(t:Addr)(l:TL)(ns:List Int)(n:Int)(B:Addr->Prop)(a b:Addr)(p:Fm)(H:Hp):Prop where
 tp:Tp H t l ns n
 kp:KpD t a H0 H
 nb:H0 b=af
 fr:∃xs,H b=ae (.lst xs)/\RdXs H (λc=>B c\/c=b) xs (p.2.map (·.1))
 st:∃l',H a=ae (.dX l')/\RdY H (λc=>B c\/c=b) l' p.1
section
variable{H0 H H':Hp}{t:Addr}{l:TL}{ns:List Int}{n:Int}{B:Addr->Prop}{a b:Addr}{p:Fm}
theorem FuI.out(I:FuI H0 t l ns n B a b p H)(ht:B t)(ha:a≠t)(hb:b≠t)(T:Tp H' t l ns n)(k:Kp t H H'):FuI H0 t l ns n B a b p H':=by
 obtain⟨xs,e1,r1⟩:=I.fr;obtain⟨l',e2,r2⟩:=I.st;have mv:∀c o,H c=ae o->¬(B c\/c=b)->H' c=ae o/\¬(B c\/c=b):=λc o e nb=>⟨k c o e λz=>nb (.inl (z▸ht)),nb⟩;exact⟨T,I.kp.kp k,I.nb,⟨xs,k _ _ e1 hb,r1.move mv⟩,l',k _ _ e2 ha,r2.move mv⟩
end
structure FuC(H0:Hp)(t:Addr)(l:TL)(B:Addr->Prop)(a:Addr):Prop where
 bt:B t
 ba:B a
 ex:∀c,B c->H0 c≠af
 at':a≠t
 l0:H0 l.s≠af
 g0:mT=ah->H0 l.g≠af
section
variable{K:Ah}{Sa:aR}{pd:Ad}{N:Nat}{aft:TK->Nat->Option TK}{Gd:TK->Prop}{tm:TE}{rE:R2}{H0 H:Hp}{t:Addr}{l:TL}{ns:List Int}{n:Int}{B:Addr->Prop}{a b:Addr}{p:Fm}
theorem FuI.up(C:FuC H0 t l B a)(I:FuI H0 t l ns n B a b p H)(r:RdX H0 B v d):RdX H (λc=>B c\/c=b) v d:=
 r.move λc o e nb=>⟨I.kp c o e (λz=>nb (z▸C.bt)) (λz=>nb (z▸C.ba)),λz=>z.elim nb λq=>by rw[q,I.nb]at e;cases e⟩
theorem Pp(A:AfOk Sa pd N aft Gd)(C:FuC H0 t l B a)(htm:∀(σ:St) (H:Hp) (Q:VK),Q (.int 2000) H->tm σ H Q)(hrE:∀(x y:Int) (H:Hp) (Q:VK),Q (.bl (decide (x=y))) H->rE (.int x) (.int y) H Q)
      (I:FuI H0 t l ns n B a b p H) (e0:σ[0]?=ae (ae v0)) (e1:σ[1]?=ae ⇑92) (e3:σ[3]?=ae (ae (.ref b))) (e4:σ[4]?=ae (ae v4)) (e5:σ[5]?=ae (ae (.int (m:Nat)))) (e6:6 < σ.length)
  (r0:RdX H0 B v0 pd) (r4:RdX H0 B v4 s.1) (gd:Gd s) (hm:m<=N) (hl:p.1.length < 2000) (hl2:p.2.length < Az) {D:Ends} (hD:∀v6 H',FuI H0 t l ns n B a b (stp aft s p m) H'->D.nx (σ.set 6 (ae v6)) H'):rL K Sa tm rE D σ H:=by
 have bt0:b≠t:=λz=>C.ex t C.bt (z▸I.nb);have ab0:a≠b:=λz=>C.ex a C.ba (z▸I.nb);obtain⟨xs0,eb0,_⟩:=I.fr;have hB':∀c,(B c\/c=b)->H c≠af:=λc z=>by
  rcases z with z|rfl
  ·by_cases q1:c=t
   ·subst q1;obtain⟨_,_,h,_⟩:=I.tp.ob;rw[h];sleep 12
   ·by_cases q2:c=a
    ·subst q2;obtain⟨_,h,_⟩:=I.st;rw[h];sleep 12
    ·cases e:H0 c with
     |none=>exact(C.ex c z e).elim
     |some o=>rw[I.kp c o e q1 q2];sleep 12
  ·rw[eb0];sleep 12
 refine⟨v0,e0,v4,e4,.int (m:Nat),e5,?_⟩;refine⟨t,l,ns,λc=>B c\/c=b,[.d pd,.d s.1,.d (.int (m:Nat))],n,λw n'=>n'=n/\w=.d (match aft s m with|some b=>b.1|none=>.none),I.tp,.inl C.bt,hB',.cons (I.up C r0) (.cons (I.up C r4) (.cons (.int _) .nil)),A.call s m n _ gd hm ⟨rfl,rfl⟩,?_⟩
 rintro w n' ⟨rfl,rfl⟩ v H1 T1 k1 r1
 have I1:=I.out C.bt C.at' bt0 T1 k1;have g6:(σ.set 6 (ae v))[6]?=ae (ae v):=by simp[e6]
 have gn:∀j,j≠6->(σ.set 6 (ae v))[j]?=σ[j]?:=λj z=>Bo λq=>z q.symm;show iA (jt (gP (d3 FG (aM 6) (tC .non))) (gP (pj K (aM 6) (aM 1)))) (EW K tm rE) oM D (σ.set 6 (ae v)) H1;have hD:=hD v;cases ea:aft s m with
 |none=>
  rw[ea]at r1;have ev:v=.non:=by cases(show RdX H1 _ v .none from r1);rfl
  subst ev;refine⟨.non,g6,rfl,ai,by simp,?_⟩;dsimp only;rw[if_neg ∎,if_neg ∎];refine hD H1 ?_;unfold stp;rw[ea];exact I1
 |some k=>
  rw[ea]at r1;have gk:=A.good s m k gd hm ea;obtain⟨ds,hds⟩:=A.tup k gk;obtain⟨q,rfl,rb⟩:=oN (show RdX H1 _ v k.1 from r1) ⟨rfl,ds,hds⟩;obtain⟨l',e2,r2⟩:=I1.st;obtain⟨xs,eb,rx⟩:=I1.fr;refine⟨.ref q,g6,rfl,ah,by simp,?_⟩;dsimp only;sleep 10;refine⟨.ref q,g6,.ref a,by rw[gn 1 ∎];exact e1,a,ck l' k,rfl,⟨l',k,q,.inl e2,r2.keys,rfl,rb.rd,rfl⟩,_,rfl,?_⟩;rw[r2.isSome k];cases hs:(bc p.1 k).isSome with
  |true=>
   rw[if_neg ∎];refine hD H1 ?_;unfold stp;rw[ea];dsimp only;rw[if_pos hs];exact I1
  |false=>
   rw[if_pos ∎];refine⟨.ref a,by rw[gn 1 ∎];exact e1,a,l',rfl,.inl e2,htm _ _ _ (hrE _ _ _ _ ⟨_,rfl,?_⟩)⟩;have hl':l'.length < 2000:=by rw[r2.len];exact hl
   dsimp only;rw[if_neg (by simp;omega)];refine⟨v4,by rw[gn 4 ∎];exact e4,.int (m:Nat),by rw[gn 5 ∎];exact e5,(show 2<=Az by decide),λq' hq'=>?_⟩;have nq:¬(B q'\/q'=b):=λz=>by
    rcases z with z|rfl
    ·by_cases q1:q'=t
     ·subst q1;obtain⟨_,_,h,_⟩:=T1.ob;rw[h]at hq';cases hq'
     ·by_cases q2:q'=a
      ·subst q2;rw[e2]at hq';cases hq'
      ·cases e:H0 q' with
       |none=>exact C.ex q' z e
       |some o=>rw[I1.kp q' o e q1 q2]at hq';cases hq'
    ·rw[eb]at hq';cases hq'
   have qa:a≠q':=λz=>nq (.inl (z▸C.ba));have qb:b≠q':=λz=>nq (.inr z.symm);have mv2:∀c o,H1 c=ae o->¬(B c\/c=b)->upd H1 q' (.tup [v4,.int (m:Nat)]) c=ae o/\¬(B c\/c=b):=λc o e nb=>⟨by rw[aN (bY e hq')];exact e,nb⟩;refine⟨.ref a,by rw[gn 1 ∎];exact e1,.ref q,g6,a,_,rfl,⟨l',k,q,by rw[aN qa];exact e2,(r2.move mv2).keys,rfl,(rb.move mv2).rd,Nat.lt_trans hl' ∎,rfl⟩,?_⟩;refine⟨.ref b,by rw[gn 3 ∎];exact e3,.inl ⟨rfl,xs,SqL.of (by rw[aN ab0.symm,aN qb];exact eb)⟩,.ref q,g6,b,xs,.ref q,rfl,rfl,by rw[aN ab0.symm,aN qb];exact eb,by rw[rx.len,Aa];exact hl2,?_⟩;have mv:∀c o,H1 c=ae o->¬(B c\/c=b)->upd (upd (upd H1 q' (.tup [v4,.int (m:Nat)])) a (.dX (du l' k q (.ref q')))) b (.lst (xs++[.ref q])) c=ae o/\¬(B c\/c=b):=λc o e nb=>
    ⟨by rw[aN λ(z:c=b)=>nb (.inr z),aN λ(z:c=a)=>nb (.inl (z▸C.ba)),aN (bY e hq')];exact e,nb⟩
   refine hD _ ?_;unfold stp;rw[ea];dsimp only;rw[if_neg (by rw[hs];decide)];have als:l.s≠a:=λz=>by have:=T1.ls;rw[z,e2]at this;cases this
   refine⟨((T1.new hq').other C.at'.symm als λe z=>by have:=T1.ag e;rw[z,e2]at this;cases this).other bt0.symm (λz=>C.l0 (z▸I.nb)) (λe z=>C.g0 e (z▸I.nb)),((I1.kp.new hq').put).app I.nb,I.nb,⟨_,bH,?_⟩,du l' k q (.ref q'),by rw[aN ab0,bH],?_⟩
   ·rw[A7];exact(rx.move mv).append (.cons (rb.move mv) .nil)
   ·have:=(r2.move mv).put (rb.move mv) (v:=.ref q') (d:=.tuple [s.1,.int (m:Nat)]) (.tup (xs:=[v4,.int (m:Nat)]) (by rw[aN qb.symm,aN qa.symm,bH]) nq (show 2<=Az by decide) (.cons ((I1.up C r4).move mv) (.cons (.int _) .nil)));unfold g9 at this;rw[if_neg (by rw[hs];decide)]at this;exact this
end
theorem AM(aft)(s)(p:Fm)(m):p.1.length<=(stp aft s p m).1.length:=by
 unfold stp
 split
 ·exact Aq _
 ·split
  ·exact Aq _
  ·rw[An];exact Nat.le_add_right _ _
theorem ym(aft)(s)(p:Fm)(m)(h:p.2.length<=p.1.length):(stp aft s p m).2.length<=(stp aft s p m).1.length:=by
 unfold stp
 split
 ·exact h
 ·split
  ·exact h
  ·rw[An,An];exact Nat.succ_le_succ h
theorem qX{α:Type}(f)(h:∀p x,p.1.length<=(f p x).1.length):∀(l:List α)(p:Fm),p.1.length<=(l.foldl f p).1.length
 |[],_=>Aq _
 |x::l,p=>Bj (h p x) (qX f h l (f p x))
theorem pT{α:Type}(f)(h:∀p x,p.2.length<=p.1.length->(f p x).2.length<=(f p x).1.length):∀(l:List α)(p:Fm),p.2.length<=p.1.length->(l.foldl f p).2.length<=(l.foldl f p).1.length
 |[],_,q=>q
 |x::l,p,q=>pT f h l (f p x) (h p x q)
theorem Qa(aft)(N)(p:Fm)(s):p.1.length<=(stpM aft N p s).1.length:=qX _ (AM aft s) _ _
theorem HK(aft)(N)(p:Fm)(s)(h:p.2.length<=p.1.length):(stpM aft N p s).2.length<=(stpM aft N p s).1.length:=pT _ (λp m=>ym aft s p m) _ _ h
structure FuS(v0:V)(a c b:Addr)(σ:St):Prop where
 s0:σ[0]?=ae (ae v0)
 s1:σ[1]?=ae ⇑92
 s2:σ[2]?=ae (ae (.ref c))
 s3:σ[3]?=ae (ae (.ref b))
 ln:6 < σ.length
theorem FuS.set(S:FuS v0 a c b σ)(hj:3 < j):FuS v0 a c b (σ.set j (ae v)):=by
 have g:∀i,i<=3->(σ.set j (ae v))[i]?=σ[i]?:=λi h=>Bo ⋯;exact⟨by rw[g 0 ∎];exact S.s0,by rw[g 1 ∎];exact S.s1,by rw[g 2 ∎];exact S.s2,by rw[g 3 ∎];exact S.s3,by rw[Cp];exact S.ln⟩
section
variable{K:Ah}{Sa:aR}{pd:Ad}{N:Nat}{aft:TK->Nat->Option TK}{Gd:TK->Prop}{tm tr:TE}{rE:R2}{H0 H:Hp}{t:Addr}{l:TL}{ns:List Int}{n:Int}{B:Addr->Prop}{a b c:Addr}{p:Fm}{v0:V}
theorem Om(A:AfOk Sa pd N aft Gd)(C:FuC H0 t l B a)(hN:N < 2 ^ 60)(htm:∀(σ:St) (H:Hp) (Q:VK),Q (.int 2000) H->tm σ H Q)(hrE:∀(x y:Int) (H:Hp) (Q:VK),Q (.bl (decide (x=y))) H->rE (.int x) (.int y) H Q)
  (r0:RdX H0 B v0 pd) (htr:∀(σ:St)(H:Hp)(Q:VK)(B:Addr->Prop),σ[0]?=ae (ae v0)->RdX H B v0 pd->Q (.int ((N+1:Nat):Int)) H->tr σ H Q)
     (I:FuI H0 t l ns n B a b p H) (S:FuS v0 a c b σ) (e4:σ[4]?=ae (ae v4)) (r4:RdX H0 B v4 s.1) (gd:Gd s) (hs:p.2.length<=p.1.length) (hl:(stpM aft N p s).1.length < 2000) {D:Ends}
  (hD:∀σ' H',FuS v0 a c b σ'->FuI H0 t l ns n B a b (stpM aft N p s) H'->D.nx σ' H'):gq (nT (bU tr bq)) (dH 5) (rL K Sa tm rE) D σ H:=by
 refine htr σ H _ _ S.s0 (I.up C r0) ⟨((N+1:Nat):Int),rfl,by omega,by omega,?_⟩;rw[Br];refine⟨λi m σ' H'=>m=N+1-i/\i<=N+1/\FuS v0 a c b σ'/\σ'[4]?=ae (ae v4)/\FuI H0 t l ns n B a b ((A5 i).foldl (stp aft s) p) H',⟨_,rfl,A6 _,S,e4,I⟩,?_⟩
 rintro i m σ' H' ⟨rfl,hi,S',e4',I'⟩
 by_cases q:i=N+1
 ·subst q;exact .inl ⟨Aq _,hD σ' H' S' I'⟩
 ·have hi':i < N+1:=by omega
  refine .inr ⟨hi',λσ2 H2=>FuS v0 a c b σ2/\σ2[4]?=ae (ae v4)/\FuI H0 t l ns n B a b ((A5 (i+1)).foldl (stp aft s) p) H2,λσ2 H2 z=>⟨N+1-(i+1),by omega,rfl,hi',z⟩,?_⟩
  rintro x H2 ⟨rfl,rfl⟩
  rw[Int.zero_add];have S5:FuS v0 a c b (σ'.set 5 (ae ⇑59)):=S'.set ∎;have f4:(σ'.set 5 (ae (V.int (i:Nat))))[4]?=ae (ae v4):=by rw[Bo ∎];exact e4'
  have f5:(σ'.set 5 (ae (V.int (i:Nat))))[5]?=ae (ae ⇑59):=Ej (by have:=S'.ln;omega);have e:=List.range_succ (n:=i);have low:((A5 i).foldl (stp aft s) p).1.length < 2000:=by
   refine Fl ?_ hl;unfold stpM;obtain⟨l2,hl2⟩:∃l2,A5 (N+1)=A5 i++l2:=⟨(A5 (N+1)).drop i,by
    have:(A5 (N+1)).take i=A5 i:=by rw[List.take_range,Nat.min_eq_left hi]
    rw[<-this,List.take_append_drop]⟩
   rw[hl2,Ex];exact qX _ (AM aft s) _ _
  have sub:=pT _ (λp m=>ym aft s p m) (A5 i) p hs;refine Pp (K:=K) A C htm hrE I' S5.s0 S5.s1 S5.s3 f4 f5 S5.ln r0 r4 gd (Gs hi') low (Fl sub (Nat.lt_trans low ∎)) λv6 H3 I3=>⟨S5.set ∎,by rw[Bo ∎];exact f4,?_⟩;rw[e,Ex];exact I3
theorem IM(A:AfOk Sa pd N aft Gd)(C:FuC H0 t l B a)(hN:N < 2 ^ 60)(htm:∀(σ:St) (H:Hp) (Q:VK),Q (.int 2000) H->tm σ H Q)(hrE:∀(x y:Int) (H:Hp) (Q:VK),Q (.bl (decide (x=y))) H->rE (.int x) (.int y) H Q)
  (r0:RdX H0 B v0 pd) (htr:∀(σ:St)(H:Hp)(Q:VK)(B:Addr->Prop),σ[0]?=ae (ae v0)->RdX H B v0 pd->Q (.int ((N+1:Nat):Int)) H->tr σ H Q)
       (T:Tp H0 t l ns n) (e0:σ[0]?=ae (ae v0)) (e1:σ[1]?=ae ⇑92) (e2:σ[2]?=ae (ae (.ref c))) (e6:6 < σ.length)
  (ha:H0 a=ae (.dX l0)) (ra:RdY H0 B l0 m0) (hc:H0 c=ae (.lst xs)) (ct:c≠t) (rc:RdXs H0 B xs (ss.map (·.1))) (gd:∀s∈ss,Gd s) (hl:(cL aft N (m0,[]) ss).1.length < 2000) {D:Ends}
  (hD:∀b H',FuI H0 t l ns n B a b (cL aft N (m0,[]) ss) H'->D.rt (.ref b) H'):lE K Sa tm rE tr D σ H0:=by
 refine⟨A6 _,λb hb=>?_⟩;have bt0:b≠t:=λz=>C.ex t C.bt (z▸hb);have ca:c≠a:=λz=>by rw[z,ha]at hc;cases hc
 have mv:∀q o,H0 q=ae o->¬B q->upd H0 b (.lst []) q=ae o/\¬(B q\/q=b):=λq o e nb=>⟨by rw[aN (bY e hb)];exact e,λz=>z.elim nb λw=>by rw[w,hb]at e;cases e⟩;have I0:FuI H0 t l ns n B a b (m0,[]) (upd H0 b (.lst [])):=⟨T.new hb,KpD.refl.new hb,hb,⟨[],bH,.nil⟩,l0,by rw[aN (bY ha hb)];exact ha,ra.move mv⟩;have S0:FuS v0 a c b (σ.set 3 (ae (.ref b))):=by
  have g:∀i,i≠3->(σ.set 3 (ae (V.ref b)))[i]?=σ[i]?:=λi h=>Bo λz=>h z.symm;exact⟨by rw[g 0 ∎];exact e0,by rw[g 1 ∎];exact e1,by rw[g 2 ∎];exact e2,Ej ⋯,by rw[Cp];exact e6⟩
 show gq (nQ K (aM 2)) (dH 4) (gq (nT (bU tr bq)) (dH 5) (rL K Sa tm rE)) {D with nx:=gw (aM 3) D} (σ.set 3 (ae (.ref b))) (upd H0 b (.lst []));have cat:∀{p:Fm}{H:Hp},FuI H0 t l ns n B a b p H->SqL K H c xs:=λI=>SqL.of (I.kp c _ hc ct ca);refine⟨.ref c,S0.s2,c,rfl,⟨xs,cat I0⟩,λi m σ' H'=>m=ss.length-i/\i<=ss.length/\FuS v0 a c b σ'/\FuI H0 t l ns n B a b ((ss.take i).foldl (stpM aft N) (m0,[])) H',⟨_,rfl,A6 _,S0,I0⟩,?_⟩;have hlen:xs.length=ss.length:=by rw[rc.len,Aa]
 rintro i m σ' H' ⟨rfl,hi,S',I'⟩
 by_cases q:i=ss.length
 ·subst q;rw[Gx]at I';exact .inl ⟨⟨xs,cat I',by omega⟩,.ref b,S'.s3,hD b H' I'⟩
 ·have hi':i < ss.length:=by omega
  obtain⟨x,hx⟩:∃x,xs[i]?=ae x:=⟨xs[i],Ae ⋯⟩;have hs:ss[i]?=ae ss[i]:=Ae hi';obtain⟨d,hd,rx⟩:=rc.get hx;rw[Am,hs]at hd;cases hd;have e:ss.take (i+1)=ss.take i++[ss[i]]:=by rw[List.take_succ,hs];rfl
  refine .inr ⟨⟨xs,x,cat I',hx⟩,λσ2 H2=>FuS v0 a c b σ2/\FuI H0 t l ns n B a b ((ss.take (i+1)).foldl (stpM aft N) (m0,[])) H2,λσ2 H2 z=>⟨ss.length-(i+1),by omega,rfl,hi',z⟩,?_⟩
  rintro y H2 ⟨rfl,hy⟩
  have hy:=hy xs (cat I');rw[hx]at hy;cases hy;have sub:=pT _ (λp s=>HK aft N p s) (ss.take i) (m0,[]) (A6 _);have e':(ss.take (i+1)).foldl (stpM aft N) (m0,[])=stpM aft N ((ss.take i).foldl (stpM aft N) (m0,[])) ss[i]:=by rw[e,Ex];rfl
  refine Om (K:=K) A C hN htm hrE r0 htr I' (S'.set (j:=4) ∎) (Ej (by have:=S'.ln;omega)) rx (gd _ (Cq hi')) sub ?_ λσ2 H2 S2 I2=>⟨S2,by rw[e'];exact I2⟩;refine Fl ?_ hl;rw[<-e'];show _<=(ss.foldl (stpM aft N) (m0,[])).1.length
  conv=>rhs;rw[<-List.take_append_drop (i+1) ss,Ex]
  exact qX _ (Qa aft N) _ _
end
theorem kj(m:List (TK×Ad))(k):((bc m k).isSome=ah)↔k∈m.map (·.1):=by
 unfold bc;rw[Es,List.find?_isSome];simp
section
variable(aft:TK->Nat->Option TK)(N:Nat)
def q1(s:TK)(ks:List TK)(m:Nat):List TK:=match aft s m with
 |none=>ks
 |some b=>if b∈ks then ks else ks++[b]
def qs(ks:List TK)(s:TK):List TK:=(A5 (N+1)).foldl (q1 aft s) ks
def Lr(s0:TK):Nat->List TK
 |0=>[s0]
 |j+1=>match (Lr s0 j)[j]? with
  |some s=>qs aft N (Lr s0 j) s
  |none=>Lr s0 j
end
section
variable{aft:TK->Nat->Option TK}{N:Nat}
theorem mH{α β:Type}(f)(h:∀l x,l <+: f l x):∀(xs:List β)(l:List α),l <+: xs.foldl f l
 |[],_=>E6 _
 |x::xs,l=>(h l x).trans (mH f h xs (f l x))
theorem yC(s)(ks)(m):ks <+: q1 aft s ks m:=by
 unfold q1
 split
 ·exact E6 _
 ·split
  ·exact E6 _
  ·exact List.prefix_append _ _
theorem JV(ks)(s):ks <+: qs aft N ks s:=mH _ (yC s) _ _
theorem JF(h:aft s m=ae b):b∈q1 aft s ks m:=by
 unfold q1;rw[h];dsimp only
 split
 ·assumption
 ·simp
theorem P7(hm:m<=N)(h:aft s m=ae b):b∈qs aft N ks s:=by
 obtain⟨l1,l2,e⟩:=List.append_of_mem (Cb.mpr (Nat.lt_succ_of_le hm));unfold qs;rw[show N.succ=N+1 from rfl]at e;rw[e,Ex,Ef];exact(mH _ (yC s) l2 _).subset (JF h)
theorem KU(s0)(j):Lr aft N s0 j <+: Lr aft N s0 (j+1):=by
 show _ <+: (match (Lr aft N s0 j)[j]? with|some s=>qs aft N (Lr aft N s0 j) s|none=>Lr aft N s0 j)
 split
 ·exact JV _ _
 ·exact E6 _
theorem mW(s0)(i k):Lr aft N s0 i <+: Lr aft N s0 (i+k):=by
 induction k with
 |zero=>exact E6 _
 |succ k ih=>exact ih.trans (KU s0 (i+k))
theorem nY{α:Type}{l l':List α}(h:l <+: l')(hi:i < l.length):l'[i]?=l[i]?:=by
 obtain⟨t,rfl⟩:=h;rw[Et hi]
theorem yF(s0)(c):∀k,c+k<=(Lr aft N s0 c).length->Lr aft N s0 (c+k)=(((Lr aft N s0 c).drop c).take k).foldl (qs aft N) (Lr aft N s0 c)
 |0,_=>by simp
 |k+1,h=>by
  have ih:=yF s0 c k ⋯;have hlt:c+k < (Lr aft N s0 c).length:=by omega
  have e1:(Lr aft N s0 (c+k))[c+k]?=ae (Lr aft N s0 c)[c+k]:=by rw[nY (mW s0 c k) hlt];exact Ae hlt
  have e2:((Lr aft N s0 c).drop c).take (k+1)=((Lr aft N s0 c).drop c).take k++[(Lr aft N s0 c)[c+k]]:=by
   rw[List.take_succ,List.getElem?_drop,Ae hlt];rfl
  show(match (Lr aft N s0 (c+k))[c+k]? with|some s=>qs aft N (Lr aft N s0 (c+k)) s|none=>Lr aft N s0 (c+k))=_;rw[e1,e2,Ex,<-ih];rfl
theorem KN(h:p.1.map (·.1)=base++p.2):(stp aft s p m).1.map (·.1)=base++(stp aft s p m).2/\(stp aft s p m).1.map (·.1)=q1 aft s (p.1.map (·.1)) m:=by
 unfold stp q1;cases e:aft s m with
 |none=>exact⟨h,rfl⟩
 |some b=>
  dsimp only;by_cases z:(bc p.1 b).isSome=ah
  ·rw[if_pos z,if_pos ((kj _ _).mp z)];exact⟨h,rfl⟩
  ·rw[if_neg z,if_neg λy=>z ((kj _ _).mpr y)];refine⟨?_,by simp⟩;simp only[A7,Bc,Ei];rw[h,Bm]
theorem wN{α:Type}(f)(g)(hf:∀p x,p.1.map (·.1)=base++p.2->(f p x).1.map (·.1)=base++(f p x).2/\(f p x).1.map (·.1)=g (p.1.map (·.1)) x):
  ∀(xs:List α)(p:Fm),p.1.map (·.1)=base++p.2->(xs.foldl f p).1.map (·.1)=base++(xs.foldl f p).2/\(xs.foldl f p).1.map (·.1)=xs.foldl g (p.1.map (·.1))
 |[],p,h=>⟨h,rfl⟩
 |x::xs,p,h=>by
  obtain⟨h1,h2⟩:=hf p x h;have:=wN f g hf xs (f p x) h1;rw[h2]at this;exact this
theorem SN(ss:List TK):(cL aft N (m,[]) ss).1.map (·.1)=m.map (·.1)++(cL aft N (m,[]) ss).2/\(cL aft N (m,[]) ss).1.map (·.1)=ss.foldl (qs aft N) (m.map (·.1)):=
 wN _ _ (λp s h=>wN _ _ (λ_ _ h=>KN h) (A5 (N+1)) p h) ss (m,[]) (by simp)
structure Lev(aft:TK->Nat->Option TK)(N:Nat)(s0:TK)(c:Nat)(m:List (TK×Ad))(ss:List TK):Prop where
 ks:m.map (·.1)=Lr aft N s0 c
 rs:ss=(Lr aft N s0 c).drop c
 le:c<=(Lr aft N s0 c).length
theorem Lev.next(L:Lev aft N s0 c m ss):Lev aft N s0 (Lr aft N s0 c).length (cL aft N (m,[]) ss).1 (cL aft N (m,[]) ss).2:=by
 obtain⟨h1,h2⟩:=SN (aft:=aft) (N:=N) (m:=m) ss;have hk:c+((Lr aft N s0 c).length-c)=(Lr aft N s0 c).length:=by have:=L.le;omega
 have hr:=yF (aft:=aft) (N:=N) s0 c ((Lr aft N s0 c).length-c) ⋯;rw[hk,List.take_of_length_le (by rw[C1];omega),<-L.rs,<-L.ks]at hr;have e1:(cL aft N (m,[]) ss).1.map (·.1)=Lr aft N s0 (m.map (·.1)).length:=by rw[h2,<-hr]
 rw[L.ks]at e1;refine⟨e1,?_,?_⟩
 ·rw[<-e1,h1,L.ks,List.drop_left'];rfl
 ·rw[<-e1,h1,L.ks,An];omega
theorem Lev.first(s0)(d):Lev aft N s0 0 [(s0,d)] [s0]:=⟨rfl,rfl,A6 _⟩
theorem rP(h:(Lr aft N s0 J).length<=J):∀k,Lr aft N s0 (J+k)=Lr aft N s0 J
 |0=>rfl
 |k+1=>by
  show(match (Lr aft N s0 (J+k))[J+k]? with|some s=>qs aft N (Lr aft N s0 (J+k)) s|none=>Lr aft N s0 (J+k))=_;rw[rP h k,Cj ⋯]
theorem QD(h:(Lr aft N s0 J).length<=J)(c):(Lr aft N s0 c).length<=(Lr aft N s0 J).length:=by
 by_cases z:c<=J
 ·have:=(mW (aft:=aft) (N:=N) s0 c (J-c)).length_le;rwa [show c+(J-c)=J by omega]at this
 ·have:=rP h (c-J);rw[show J+(c-J)=c by omega]at this;rw[this];exact Aq _
theorem Ou(h:(Lr aft N s0 J).length<=J)(hs:s∈Lr aft N s0 J)(hm:m<=N)(e:aft s m=ae b):b∈Lr aft N s0 J:=by
 obtain⟨i,hi,rfl⟩:=List.getElem_of_mem hs;have hi':i < J:=by omega
 have hb:=mW (aft:=aft) (N:=N) s0 (i+1) (J-(i+1));rw[show i+1+(J-(i+1))=J by omega]at hb;have ha:=mW (aft:=aft) (N:=N) s0 i (J-i);rw[show i+(J-i)=J by omega]at ha;refine hb.subset ?_;show b∈(match (Lr aft N s0 i)[i]? with|some s=>qs aft N (Lr aft N s0 i) s|none=>Lr aft N s0 i);by_cases hl:i < (Lr aft N s0 i).length
 ·have:(Lr aft N s0 i)[i]?=ae (Lr aft N s0 J)[i]:=by rw[<-nY ha hl];exact Ae hi
  rw[this];exact P7 hm e
 ·have e1:=rP (aft:=aft) (N:=N) (s0:=s0) (J:=i) ⋯ (J-i);rw[show i+(J-i)=J by omega]at e1;rw[e1]at hi;exact absurd hi hl
end
section
variable{aft:TK->Nat->Option TK}{N:Nat}{s0:TK}
def gY(aft:TK->Nat->Option TK):TK->List Nat->Option TK
 |s,[]=>ae s
 |s,m::r=>(aft s m).bind λb=>gY aft b r
theorem CA(aft):∀(s:TK)(r:List Nat)(m:Nat),gY aft s (r++[m])=(gY aft s r).bind λb=>aft b m
 |s,[],m=>by show(aft s m).bind (λb=>ae b)=aft s m;cases aft s m<;>rfl
 |s,x::r,m=>by
  show(aft s x).bind (λb=>gY aft b (r++[m]))=((aft s x).bind λb=>gY aft b r).bind λb=>aft b m;cases aft s x with
  |none=>rfl
  |some b=>exact CA aft b r m
inductive ParI(aft:TK->Nat->Option TK)(N:Nat)(s0:TK):List (TK×Ad)->Prop
 |one:ParI aft N s0 [(s0,.none)]
 |snoc {m:List (TK×Ad)} {s b:TK} {mv:Nat}:ParI aft N s0 m->s∈m.map (·.1)->mv<=N->aft s mv=ae b->b∉m.map (·.1)->ParI aft N s0 (m++[(b,.tuple [s.1,.int (mv:Nat)])])
inductive Way(m:List (TK×Ad)):TK->List Nat->Prop
 |root {k:TK}:bc m k=ae .none->Way m k []
 |step {k s:TK} {mv:Nat} {ms:List Nat}:bc m k=ae (.tuple [s.1,.int (mv:Nat)])->Way m s ms->Way m k (mv::ms)
theorem CQ(h:bc m k=ae d):bc (m++x) k=ae d:=by
 unfold bc at h ⊢;rw[List.find?_append];cases e:m.find? λq=>decide (q.1=k)with
 |none=>rw[e]at h;cases h
 |some q=>rw[e]at h;exact h
theorem Ir(h:k∉m.map (·.1)):bc (m++[(k,d)]) k=ae d:=by
 have e:bc m k=af:=by
  cases z:bc m k with
  |none=>rfl
  |some d=>exact absurd ((kj m k).mp (by rw[z];rfl)) h
 unfold bc at e ⊢;rw[List.find?_append];cases z:m.find? λq=>decide (q.1=k)with
 |none=>simp
 |some q=>rw[z]at e;cases e
theorem Way.app(h:Way m k ms):Way (m++x) k ms:=by
 induction h with
 |root e=>exact .root (CQ e)
 |step e _ ih=>exact .step (CQ e) ih
theorem PD(h:ParI aft N s0 m):∀k∈m.map (·.1),∃ms,Way m k ms/\gY aft s0 ms.reverse=ae k/\ms.length < m.length/\∀x∈ms,x<=N:=by
 induction h with
 |one=>
  intro k hk;obtain rfl:k=s0:=by simpa using hk
  exact⟨[],.root (by simp[bc]),rfl,Nat.zero_lt_one,λx hx=>nomatch hx⟩
 |@snoc m s b mv hp hs hm ha hb ih=>
  intro k hk;rw[A7,A9]at hk;rcases hk with hk|hk
  ·obtain⟨ms,w,e,l,f⟩:=ih k hk;exact⟨ms,w.app,e,by rw[An];omega,f⟩
  ·obtain rfl:k=b:=by simpa using hk
   obtain⟨ms,w,e,l,f⟩:=ih s hs;refine⟨mv::ms,.step (Ir hb) w.app,?_,by rw[An,Ay,A3];omega,λx hx=>(Ax.mp hx).elim (λz=>z▸hm) (f x)⟩;rw[Gn,CA,e];exact ha
theorem ParI.stp(h:ParI aft N s0 p.1)(hs:s∈p.1.map (·.1))(hm:mv<=N):ParI aft N s0 (stp aft s p mv).1:=by
 unfold Nb.stp;cases e:aft s mv with
 |none=>exact h
 |some b=>
  dsimp only;by_cases z:(bc p.1 b).isSome=ah
  ·rw[if_pos z];exact h
  ·rw[if_neg z];exact .snoc h hs hm e λy=>z ((kj _ _).mpr y)
theorem BA(h:b∈p.1.map (·.1)):b∈(stp aft s p mv).1.map (·.1):=by
 unfold Nb.stp
 split
 ·exact h
 ·split
  ·exact h
  ·rw[A7];exact Dn _ h
theorem ParI.stpM:∀(ms:List Nat)(p:Fm),ParI aft N s0 p.1->s∈p.1.map (·.1)->(∀m∈ms,m<=N)->ParI aft N s0 (ms.foldl (Nb.stp aft s) p).1/\∀b∈p.1.map (·.1),b∈(ms.foldl (Nb.stp aft s) p).1.map (·.1)
 |[],_,h,_,_=>⟨h,λ_ z=>z⟩
 |m::ms,p,h,hs,hm=>by
  obtain⟨h1,h2⟩:=ParI.stpM ms (Nb.stp aft s p m) (h.stp hs (hm m Au)) (BA hs) λx hx=>hm x (Ap _ hx);exact⟨h1,λb hb=>h2 b (BA hb)⟩
theorem ParI.fur:∀(ss:List TK)(p:Fm),ParI aft N s0 p.1->(∀s∈ss,s∈p.1.map (·.1))->ParI aft N s0 (cL aft N p ss).1
 |[],_,h,_=>h
 |s::ss,p,h,hs=>by
  obtain⟨h1,h2⟩:=ParI.stpM (A5 (N+1)) p h (hs s Au) λx hx=>Gs (Cb.mp hx);exact ParI.fur ss (Nb.stpM aft N p s) h1 λx hx=>h2 x (hs x (Ap _ hx))
theorem Way.uniq(h:Way m k ms)(h':Way m k ms'):ms=ms':=by
 induction h generalizing ms' with
 |root e=>
  cases h' with
  |root _=>rfl
  |step e' _=>rw[e]at e';cases e'
 |step e _ ih=>
  cases h' with
  |root e'=>rw[e]at e';cases e'
  |step e' w=>
   rw[e]at e';injection e' with e';injection e' with e';injection e' with e1 e2;injection e2 with e2 _;injection e2 with e2;have hs:=Subtype.ext e1;subst hs;rw[Int.ofNat.inj e2,ih w]
end
section
variable(aft:TK->Nat->Option TK)(N:Nat)
def dS(s:TK×Nat)(E:List (TK×Nat))(m:Nat):List (TK×Nat):=match aft s.1 m with
 |none=>E
 |some b=>if b∈E.map (·.1)then E else E++[(b,s.2+1)]
def dM(E:List (TK×Nat))(s:TK×Nat):List (TK×Nat):=(A5 (N+1)).foldl (dS aft s) E
def El(s0:TK):Nat->List (TK×Nat)
 |0=>[(s0,0)]
 |j+1=>match (El s0 j)[j]? with
  |some s=>dM aft N (El s0 j) s
  |none=>El s0 j
def pS(s:TK)(m:List (TK×Ad))(i:Nat):List (TK×Ad):=match aft s i with
 |none=>m
 |some b=>if b∈m.map (·.1)then m else m++[(b,.tuple [s.1,.int (i:Nat)])]
def pM(m:List (TK×Ad))(s:TK):List (TK×Ad):=(A5 (N+1)).foldl (pS aft s) m
end
section
variable{aft:TK->Nat->Option TK}{N:Nat}{s0:TK}
theorem KZ(s)(p:Fm)(i):(stp aft s p i).1=pS aft s p.1 i:=by
 unfold stp pS;cases aft s i with
 |none=>rfl
 |some b=>
  dsimp only;by_cases z:(bc p.1 b).isSome=ah
  ·rw[if_pos z,if_pos ((kj _ _).mp z)]
  ·rw[if_neg z,if_neg λy=>z ((kj _ _).mpr y)]
theorem uc{α:Type}(f)(g)(h:∀p x,(f p x).1=g p.1 x):∀(xs:List α)(p:Fm),(xs.foldl f p).1=xs.foldl g p.1
 |[],_=>rfl
 |x::xs,p=>by rw[Ef,Ef,uc f g h xs,h]
theorem N9(m)(ss:List TK):(cL aft N (m,[]) ss).1=ss.foldl (pM aft N) m:=uc _ _ (λp s=>uc _ _ (KZ s) _ p) ss (m,[])
structure Syn(m:List (TK×Ad))(E:List (TK×Nat)):Prop where
 ks:m.map (·.1)=E.map (·.1)
 wy:∀e∈E,∃ms,Way m e.1 ms/\ms.length=e.2
theorem Syn.one:Syn [(s0,.none)] [(s0,0)]:=⟨rfl,λe he=>by obtain rfl:e=(s0,0):=(by simpa using he);exact⟨[],.root (by simp[bc]),rfl⟩⟩
theorem Syn.st(h:Syn m E)(hs:s∈E)(i):Syn (pS aft s.1 m i) (dS aft s E i)/\s∈dS aft s E i:=by
 unfold pS dS;cases aft s.1 i with
 |none=>exact⟨h,hs⟩
 |some b=>
  dsimp only;rw[h.ks];by_cases z:b∈E.map (·.1)
  ·rw[if_pos z,if_pos z];exact⟨h,hs⟩
  ·rw[if_neg z,if_neg z];refine⟨⟨by rw[A7,A7,h.ks];rfl,λe he=>?_⟩,Dn _ hs⟩;rcases A9.mp he with he|he
   ·obtain⟨ms,w,l⟩:=h.wy e he;exact⟨ms,w.app,l⟩
   ·obtain rfl:e=(b,s.2+1):=by simpa using he
    obtain⟨ms,w,l⟩:=h.wy s hs;exact⟨i::ms,.step (Ir (by rw[h.ks];exact z)) w.app,by rw[Ay,l]⟩
theorem Syn.sM:∀(is:List Nat)(m:List (TK×Ad))(E:List (TK×Nat)),Syn m E->s∈E->Syn (is.foldl (pS aft s.1) m) (is.foldl (dS aft s) E)
 |[],_,_,h,_=>h
 |i::is,m,E,h,hs=>let⟨h1,h2⟩:=h.st (aft:=aft) hs i;Syn.sM is _ _ h1 h2
theorem KJ(s:TK×Nat)(E:List (TK×Nat))(i):(dS aft s E i).map (·.1)=q1 aft s.1 (E.map (·.1)) i:=by
 unfold dS q1;cases aft s.1 i with
 |none=>rfl
 |some b=>
  dsimp only;by_cases z:b∈E.map (·.1)
  ·rw[if_pos z,if_pos z]
  ·rw[if_neg z,if_neg z,A7];rfl
theorem N7(s:TK×Nat)(E:List (TK×Nat)):(dM aft N E s).map (·.1)=qs aft N (E.map (·.1)) s.1:=by
 unfold dM qs;generalize A5 (N+1)=l
 induction l generalizing E with
 |nil=>rfl
 |cons i l ih=>rw[Ef,Ef,ih,KJ]
theorem jo:∀j,(El aft N s0 j).map (·.1)=Lr aft N s0 j
 |0=>rfl
 |j+1=>by
  have ih:=jo j;show List.map (λe:TK×Nat=>e.1) (match (El aft N s0 j)[j]? with|some s=>dM aft N ⇑50 s|none=>El aft N s0 j)=(match (Lr aft N s0 j)[j]? with|some s=>qs aft N (Lr aft N s0 j) s|none=>Lr aft N s0 j);rw[<-ih,Am];cases(El aft N s0 j)[j]? with
  |none=>rfl
  |some s=>exact N7 s _
structure Grow(E:List (TK×Nat))(n:Nat):Prop where
 so:(E.map (·.2)).Pairwise (·<=·)
 le:∀e∈E,e.2<=n+1
theorem Grow.st(h:Grow E s.2)(i):Grow (dS aft s E i) s.2:=by
 unfold dS;cases aft s.1 i with
 |none=>exact h
 |some b=>
  dsimp only
  split
  ·exact h
  ·refine⟨?_,λe he=>?_⟩
   ·rw[A7,List.pairwise_append];refine⟨h.so,Ea _ _,λx hx y hy=>?_⟩;obtain rfl:y=s.2+1:=by simpa using hy
    obtain⟨e,he,rfl⟩:=Bf.mp hx;exact h.le e he
   ·rcases A9.mp he with he|he
    ·exact h.le e he
    ·obtain rfl:e=(b,s.2+1):=by simpa using he
     exact Aq _
theorem Grow.sM:∀(is:List Nat)(E:List (TK×Nat)),Grow E s.2->Grow (is.foldl (dS aft s) E) s.2
 |[],_,h=>h
 |i::is,E,h=>Grow.sM is _ (h.st i)
theorem nt(s)(E)(i):E <+: dS aft s E i:=by
 unfold dS
 split
 ·exact E6 _
 ·split
  ·exact E6 _
  ·exact List.prefix_append _ _
theorem Io(E)(s):E <+: dM aft N E s:=mH _ (nt s) _ _
theorem AO:∀j,(((El aft N s0 j).map (·.2)).Pairwise (·<=·))/\∀s,(El aft N s0 j)[j]?=ae s->∀e∈El aft N s0 j,e.2<=s.2+1
 |0=>⟨Ea _ _,λs hs e he=>by obtain rfl:e=(s0,0):=(by simpa[El]using he);exact A6 _⟩
 |j+1=>by
  obtain⟨h1,h2⟩:=AO j;have e:El aft N s0 (j+1)=(match (El aft N s0 j)[j]? with|some s=>dM aft N ⇑50 s|none=>El aft N s0 j):=rfl;cases z:(El aft N s0 j)[j]? with
  |none=>
   rw[z]at e;dsimp only at e;rw[e];refine⟨h1,λs hs=>?_⟩;rw[Cj (by have:=List.getElem?_eq_none_iff.mp z;omega)]at hs;cases hs
  |some s=>
   rw[z]at e;dsimp only at e;have g:Grow (dM aft N ⇑50 s) s.2:=Grow.sM _ _ ⟨h1,h2 s z⟩;rw[e];refine⟨g.so,λs' hs' x hx=>?_⟩;have hj:(dM aft N ⇑50 s)[j]?=ae s:=by
    rw[nY (Io _ s) (Ar.mp z).1];exact z
   have hle:s.2<=s'.2:=by
    have hp:=Ho.mp g.so;obtain⟨a1,a2⟩:=Ar.mp hj;obtain⟨b1,b2⟩:=Ar.mp hs';have:=hp j (j+1) (by rw[Aa];exact a1) (by rw[Aa];exact b1) (Eo j);rw[Gy,Gy,a2,b2]at this;exact this
   exact Bj (g.le x hx) (Nat.succ_le_succ hle)
theorem Syn.level(h:Syn m (El aft N s0 c)):∀k,c+k<=(El aft N s0 c).length->Syn ((((Lr aft N s0 c).drop c).take k).foldl (pM aft N) m) (El aft N s0 (c+k))
 |0,_=>by simpa using h
 |k+1,hk=>by
  have ih:=Syn.level h k ⋯;have hlen:(Lr aft N s0 c).length=(El aft N s0 c).length:=by rw[<-jo,Aa]
  have hlt:c+k < (Lr aft N s0 c).length:=by omega
  have e2:((Lr aft N s0 c).drop c).take (k+1)=((Lr aft N s0 c).drop c).take k++[(Lr aft N s0 c)[c+k]]:=by
   rw[List.take_succ,List.getElem?_drop,Ae hlt];rfl
  have e1:(Lr aft N s0 (c+k))[c+k]?=ae (Lr aft N s0 c)[c+k]:=by rw[nY (mW s0 c k) hlt];exact Ae hlt
  rw[e2,Ex];rw[<-jo,Am]at e1;obtain⟨s,hs,es⟩:=Fg.mp e1;show Syn (pM aft N _ (Lr aft N s0 c)[c+k]) (match (El aft N s0 (c+k))[c+k]? with|some s=>dM aft N (El aft N s0 (c+k)) s|none=>El aft N s0 (c+k));rw[hs,<-es];exact Syn.sM _ _ _ ih (A0 hs)
theorem Syn.next(h:Syn m (El aft N s0 c))(L:Lev aft N s0 c m ss):Syn (cL aft N (m,[]) ss).1 (El aft N s0 (Lr aft N s0 c).length):=by
 have hlen:(Lr aft N s0 c).length=(El aft N s0 c).length:=by rw[<-jo,Aa]
 have hk:c+((Lr aft N s0 c).length-c)=(Lr aft N s0 c).length:=by have:=L.le;omega
 have:=h.level ((Lr aft N s0 c).length-c) ⋯;rw[hk,List.take_of_length_le (by rw[C1];omega),<-L.rs,<-N9]at this;exact this
end
end Nb
namespace DL
open PySem L2 Nb
theorem Rel.fur(R:Rel C H B σ δ n)(hi:δ[i]?=ae (ae (.odx m)))(hij:i≠j)(hσ:σ[i]?=ae ⇑92)
  (I:FuI H C.t C.l C.ns n B a b p H') (hl:p.1.length<=1000) (hl2:p.2.length<=Az):Rel C H' (λc=>B c\/c=b) (σ.set j (ae (.ref b))) ((δ.set j (ae (.own (p.2.map (·.1))))).set i (ae (.odx p.1))) n:=by
 obtain⟨v,hv,a',l0,rfl,e2,e3,e4,e5,e6⟩:=R.sl i _ hi;rw[hσ]at hv;cases hv;sleep 23;obtain⟨xs,fb,fr⟩:=I.fr;obtain⟨l',ga,gr⟩:=I.st;have hab:a≠b:=bY e2 I.nb
 let H1:=upd H' a (.dX l0)
 have k1:Kp C.t H H1:=λc o e ne=>by
  by_cases z:c=a
  ·subst z;rw[e2]at e;cases e;exact bH
  ·show upd H' a (.dX l0) c=ae o;rw[aN z];exact I.kp c o e ne z
 have T1:Tp H1 C.t C.l C.ns n:=I.tp.other hat.symm (λz=>R.l0 (z▸e4)) (λe z=>R.g0 e (z▸e4));have R1:Rel C H1 B σ δ n:=R.step T1 k1;have mv:∀c o,H' c=ae o->¬(B c\/c=b)->H1 c=ae o/\¬(B c\/c=b):=λc o e nb=>⟨by show upd H' a (.dX l0) c=ae o;rw[aN λ(z:c=a)=>nb (.inl (z▸e3))];exact e,nb⟩;have fb1:H1 b=ae (.lst xs):=by show upd H' a (.dX l0) b=_;rw[aN hab.symm];exact fb
 have R2:Rel C H1 (λc=>B c\/c=b) (σ.set j (ae (.ref b))) (δ.set j (ae (.own (p.2.map (·.1))))) n:=
  R.own R1 k1 I.nb (by rw[fb1];exact λz=>nomatch z) rfl ⟨b,xs,rfl,fb1,.inr rfl,R.h0 I.nb,by rw[fr.len,Aa];exact hl2,fr.move mv⟩
 have he:upd H1 a (.dX l')=H':=by
  show upd (upd H' a (.dX l0)) a (.dX l')=H';rw[uo]
  funext c
  by_cases z:c=a
  ·subst z;rw[bH,ga]
  ·rw[aN z]
 have:=R2.mutOwn (i:=i) (x:=.odx m) (x':=.odx p.1) (a:=a) (o:=.dX l') (by rw[Bo hij.symm];exact hi) rfl (by rw[Bo hij.symm];exact hσ) (.inl e3) e4
  (by rw[he];exact⟨a,l',rfl,ga,.inl e3,e4,by rw[gr.len];exact hl,gr⟩) rfl
 rw[he]at this;exact this
def sJ(Sa:aR):Sp:=λvs H Q _=>∃(t:Addr)(l:TL)(ns:List Int)(n:Int)(B:Addr->Prop)(v0:V)(a c:Addr)(pd:Ad)(N:Nat)(aft:TK->Nat->Option TK)(Gd:TK->Prop)(xs:List V)(ss:List TK)(m0:List (TK×Ad))(l0:List (TK×Addr×V)),
 vs=[v0,.ref a,.ref c]/\AfOk Sa pd N aft Gd/\FuC H t l B a/\N < 2 ^ 60/\RdX H B v0 pd/\Tp H t l ns n/\H a=ae (.dX l0)/\RdY H B l0 m0/\H c=ae (.lst xs)/\c≠t/\RdXs H B xs (ss.map (·.1))/\(∀s∈ss,Gd s)/\(cL aft N (m0,[]) ss).1.length < 2000 /\
 ∀b H',FuI H t l ns n B a b (cL aft N (m0,[]) ss) H'->Q (.ref b) H'
structure HasM(P:Bh)(w:Bt)(K:Ah)(mg:Str->Option Ag)(base:Heap)(k:Nat)(x:Str)(ps:List Str)(Sa:aR):Prop where
 ex:∃(f:Addr)(fd:Cg),FnOk P w K mg base cx k f fd ps (sJ Sa)/\Binds K fd ps []/\mg x=ae (.ref f)/\Cw K (.ref f)=ah
def iD(Sa:aR)(h i j:Nat):aJ:=λδ n E=>∃(pd:Ad)(N:Nat)(aft:TK->Nat->Option TK)(Gd:TK->Prop)(m:List (TK×Ad))(ss:List TK),AfOk Sa pd N aft Gd/\N < 2 ^ 60/\δ[h]?=ae (↑pd)/\δ[i]?=ae (ae (.odx m))/\δ[j]?=ae (ae (.own (ss.map (·.1))))/\(∀s∈ss,Gd s)/\(cL aft N (m,[]) ss).1.length<=1000 /\
 E.nx ((δ.set j (ae (.own ((cL aft N (m,[]) ss).2.map (·.1))))).set i (ae (.odx (cL aft N (m,[]) ss).1))) n
section
variable{X:Cx}{pos p0 p1 p2 p3 p4 cp:Pos}
theorem MF(F:HasM X.prog X.w X.K X.mg X.base k f ps Sa)(hr:Room k X.A)(hg:Gl X f)(hN:X.N.Nodup)(h2:X.N[j]?=ae x2)(hx:gc X.env.scope x2)(hij:i≠j)
   (ha:DA X [.Name x0 p1,.Name x1 p2,.Name x2 p3] (bU (aM h) (bU (aM i) (bU (aM j) bq))) wR)
  (hs:C5 ⇑146 (ae (.Name x2 p4)) pos.line X.env=pure ai:=by rfl) (hf:X.fn x2=ah\/X.env.scope.names.lookup x2=ae .local:=by first|exact .inl rfl|exact .inr rfl|assumption)
  (hdb:(f==("__debug__":Str))=ai:=by decide)
  (he:Av (.Name x0 p1::[.Name x1 p2,.Name x2 p3]) X.env=(ai,eval (.Name x0 p1) X.env)::Av [.Name x1 p2,.Name x2 p3] X.env:=by rfl) (hpl:(C8 cp (Av [.Name x1 p2,.Name x2 p3] X.env)).any (·.1)=ai:=by rfl):
  DS X (.Assign [.Name x2 p4] ⇑146 pos) (bQ (fU (sJ Sa) [] E0 (bU (aM h) (bU (aM i) (bU (aM j) bq)))) (dH j)) (iD Sa h i j):=by
 obtain⟨g,fd,f1,f2,f3,f4⟩:=F.ex;refine⟨gV hN h2 hx (m9 f1 hr hg f3 f4 f2 .nil mn ha.pa hdb he hpl) hs hf,λC H B σ δ n E D R q EO=>?_⟩;obtain⟨pd,N,aft,Gd,m,ss,A,hN',dh,di,dj,gd,hl,q⟩:=q;obtain⟨u0,s0,r0⟩:=R.sl h _ dh;obtain⟨_,s1,a,l0,rfl,a2,a3,a4,a5,a6⟩:=R.sl i _ di;obtain⟨_,s2,c,xs,rfl,c2,c3,c4,c5,c6⟩:=R.sl j _ dj;refine⟨u0,s0,.ref a,s1,.ref c,s2,?_⟩;refine⟨C.t,C.l,C.ns,n,B,u0,a,c,pd,N,aft,Gd,xs,ss,m,l0,rfl,A,⟨R.bt,a3,R.ba,λz=>R.t0 (z▸a4),?_,?_⟩,hN',r0.1,R.tp,a2,a6,c2,λz=>R.t0 (z▸c4),c6,gd,by omega,λb H' I=>?_⟩
 ·rw[R.tp.ls];sleep 12
 ·exact λe=>by rw[R.tp.ag e];exact λz=>nomatch z
 ·have sub:(cL aft N (m,[]) ss).2.length<=(cL aft N (m,[]) ss).1.length:=pT _ (λp s=>HK aft N p s) ss (m,[]) (A6 _);exact EO.nx _ _ _ _ _ (Rel.fur R di hij s1 I hl (Bj (Bj sub hl) ∎)) q
end
section
variable{P:Bh}{w:Bt}{K:Ah}{mg:Str->Option Ag}{base:Heap}
def lp(X:Cx)(b:List Stmt)(Sa:aR):Prop:=∃(tm tr:TE)(rE:R2),PSs X b (lE X.K Sa tm rE tr)/\(∀(σ:St)(H:Hp)(Q:VK),Q (.int 2000) H->tm σ H Q)/\(∀(x y:Int)(H:Hp)(Q:VK),Q (.bl (decide (x=y))) H->rE (.int x) (.int y) H Q) /\
 ∀(σ:St)(H:Hp)(Q:VK)(B:Addr->Prop)(v0:V)(ps:List Ad),σ[0]?=ae (ae v0)->RdX H B v0 (.tuple ps)->Q (.int ((ps.length+1:Nat):Int)) H->tr σ H Q
theorem Fun.okM(F:Fun K x qual st f fd)(Sc:FnScope N ps (b8 st))(hps:ps.length=3)(hNl:6 < N.length)
  (hbody:∀(cdv:Ag)(A:B1)(outer:List Env)(s:Ak)(H:Hp)(E:XK),Room k ⇑142->
   lp (cO cx P w K mg base N qual (b8 st) f cdv A outer s H E).nox (fA st) Sa):FnOk P w K mg base cx (k+1) f fd ps (sJ Sa):=by
 refine F.ok Sc ⇑109 ⇑110
 ·obtain⟨t,l,ns,n,B,v0,a,c,pd,N',aft,Gd,xs,ss,m0,l0,rfl,_⟩:=h;exact hps.symm
 ·obtain⟨t,l,ns,n,B,v0,a,c,pd,N',aft,Gd,xs,ss,m0,l0,rfl,A',C,hN',r0,T,ha,ra,hc,ct,rc,gd,hl,kk⟩:=h;obtain⟨tm,tr,rE,d,htm,hrE,htr⟩:=hbody cdv A outer s H E hr;obtain⟨pl,epd,elen⟩:=A'.prog;subst epd elen;exact⟨_,d,IM A' C hN' htm hrE r0 (λσ H Q B e r q=>htr σ H Q B v0 pl e r q) T rfl rfl rfl (by show 6 < ([ae v0,ae (.ref a),ae (.ref c)]++Dj (N.length-3) af).length;simp;omega) ha ra hc ct rc gd hl kk⟩
end
end DL
namespace L2
open PySem PySem.Spec PyProof.Rows
theorem Sh{σ:St}{ps:List XP}(hu:A.units+64 < Du)(I:Inv X pins σ H s)(e:H a=ae (.dX ps))(hk:iN X.K H ps)(eb:RdD X.K H (.ref b) k.1)(l:ps.length < Az)(rv:RelV v r)(h:∀s',Inv X pins σ (upd H a (.dX (du ps k b v))) s'->Q () s'):
  A1 ⇑14 A (dictSet a (.ref b) r) Q E s:=by
 obtain⟨z,hd,xs,rel,dd⟩:=n9 I (.inl e) hk;have hz:xs.length<=Az:=by rw[<-D2 rel];exact z
 have hl:(du ps k b v).length<=Az:=by have:=uF ps k b v;omega
 refine wpAny_dictSet_heap (knd:=jy X.prog X.w) (hsz:=hz) (show A.units+16 < Du by omega) (p7 I eb) dd λh' dd' hs=>h _ ?_;obtain⟨q,es,ep,hq,h2,h3,h4,_,h5⟩:=dd';exact mV I (by rw[e];exact Ec) hs ⟨q,hq⟩ ⟨hl,hd,_,rel.put k rv,q,es,ep,hq,h2,h3,h4,h5⟩
def pq(K:Ah)(tk tv:TE):TE:=λσ H Q=>∀p,H p=af->tk σ (upd H p (.dX [])) λy H1=>tv σ H1 λv H2=>∃H3,oY K H2 p y v H3/\Q (.ref p) H3
theorem Ri(hu:X.A.units+64 < Du)(hk:PE X k tk)(hv:PE X v tv):PE X (.Dict [ae k] [v] pos) (pq X.K tk tv):=by
 sleep 6;refine wpAny_Dict_any rfl rfl (by simp) (show 1<=15 by decide) ?_;have I1:Inv X pins σ (upd H s.heap.objs.size (.dX [])) {s with heap:=s.heap.push {cls:=.type "dict",data:=.dict #[]}}:=by
  refine I.laid (a:=s.heap.objs.size) (o:=.dX []) (t':=s.toks) (λ_ _ q=>Af _ q) (Aq _) ?_;obtain⟨z,y,xs,r,o,es,ep,h1,h2,h3,h4,h5⟩:=yk (P:=X.prog) (w:=X.w) (H:=upd H s.heap.objs.size (.dT [])) s.heap I.big;cases r;exact⟨A6 _,y,[],.nil,o,es,ep,h1,h2,h3,h4,List.nodup_nil⟩
 have h:=h _ ⇑89;show A1 _ _ (evalPairs [(eval k X.env,do let x <-eval v X.env;standAt pos;pure x)]) _ _ _;unfold evalPairs;refine Ab (aP (hk pins _ σ _ _ I1 h) λkv s1 ⟨y,H1,I2,ry,q1⟩=>?_);refine Ab (Cf (Ab (aP (hv pins s1 σ H1 _ I2 q1) λvv s2 ⟨u,H2,I3,ru,H3,g,q2⟩=>Ab (wpAny_standAt (Aj ?_)))));unfold evalPairs;refine Ab (Cf (Aj (Aj ?_)));obtain⟨ps,key,b,e,hks,rfl,eb,l,rfl⟩:=g;obtain rfl:kv=A4 b:=ry;show A1 _ _ (forIn [(A4 b,vv)] PUnit.unit _) _ _ _;rw[List.forIn_cons];refine Ab (Ab (Sh hu I3 e hks eb l ru λs4 I4=>Aj ?_));show A1 _ _ (forIn [] PUnit.unit _) _ _ _;rw[List.forIn_nil];exact Aj ⟨.ref s.heap.objs.size,_,I4,rfl,q2⟩
end L2
namespace DL
open PySem L2 Nb
section
variable{X:Cx}{k v:Expr}{tk tv:TE}{wk wv:DT}{pos p:Pos}
def ph(i:Nat)(wk wv:DT):aJ:=λδ n K=>wk δ n λy n1=>wv δ n1 λz n2=>∃key d e,z=.d d/\y=.d e/\pb e key/\K.nx (δ.set i (ae (.odx [(key,d)]))) n2
theorem Ks(hu:X.A.units+64 < Du)(hN:X.N.Nodup)(hi:X.N[i]?=ae x)(hx:gc X.env.scope x)(hk:DE X k tk wk)(hv:DE X v tv wv)(hs:C5 (.Dict [ae k] [v] p) (ae ⇑47) pos.line X.env=pure ai:=by rfl)(hf:X.fn x=ah\/X.env.scope.names.lookup x=ae .local:=by first|exact .inl rfl|exact .inr rfl|assumption):
  DS X (.Assign [.Name x pos'] (.Dict [ae k] [v] p) pos) (bQ (pq X.K tk tv) (dH i)) (ph i wk wv):=⟨gV hN hi hx (Ri hu hk.pe hv.pe) hs hf,λC H B σ δ n K D R q E=>λa ha=>by
 have R0:Rel C (upd H a (.dX [])) ⇑93 σ δ n:=by
  have:=R.own (i:=δ.length) (R.new ha) (Kp.new ha) ha (by rw[bH];exact λz=>nomatch z) (x:=.odx []) rfl ⟨a,[],rfl,bH,.inr rfl,R.h0 ha,A6 _,.nil⟩;rwa [List.set_eq_of_length_le (by rw[R.len];exact Aq _),List.set_eq_of_length_le (Aq _)]at this
 refine hk.sd C _ _ σ δ n _ _ R0 q λu y H1 n1 R1 k1 r1 q1=>hv.sd C H1 _ σ δ n1 _ _ R1 q1 λw z H2 n2 R2 k2 r2 q2=>?_;have r1':=r1.kp k2 R1.bt;obtain⟨key,d,e,rfl,rfl,hk',q2⟩:=q2;obtain⟨b,rfl,rb⟩:=oN (show RdX H2 _ u e from r1') hk';have hat:a≠C.t:=λz=>by obtain⟨_,_,q,_⟩:=R.tp.ob;rw[<-z,ha]at q;cases q
 have e2:H2 a=ae (.dX []):=k2 _ _ (k1 _ _ bH hat) hat;refine⟨_,⟨[],key,b,e2,(λp hp=>nomatch hp),rfl,rb.rd,show 0 < Az by decide,rfl⟩,?_⟩;have hp:du [] key b w=[(key,b,w)]:=by simp[du,ck]
 rw[hp];have k3:Kp C.t H (upd H2 a (.dX [(key,b,w)])):=λc o e ne=>by
  rw[aN (bY e ha)];exact k2 _ _ (k1 _ _ (by rw[aN (bY e ha)];exact e) ne) ne
 have T3:Tp (upd H2 a (.dX [(key,b,w)])) C.t C.l C.ns n2:=R2.tp.other hat.symm (λz=>by have:=R.tp.ls;rw[z,ha]at this;cases this) (λe z=>by have:=R.tp.ag e;rw[z,ha]at this;cases this);have mv:∀c o,H2 c=ae o->¬(B c\/c=a)->upd H2 a (.dX [(key,b,w)]) c=ae o/\¬(B c\/c=a):=λc o e nb=>⟨by rw[aN λ(z:c=a)=>nb (.inr z)];exact e,nb⟩;refine E.nx _ _ _ _ _ (R.own (x:=.odx [(key,d)]) (R.step T3 k3) k3 ha (by rw[bH];exact λz=>nomatch z) rfl ⟨a,_,rfl,bH,.inr rfl,R.h0 ha,show 1<=1000 by decide,.cons ⟨rfl,rb.move mv,(show RdX H2 _ w d from r2).move mv⟩ .nil⟩) q2⟩
end
section
variable{X:Cx}{o:Expr}{td:TE}{wd':DT}{pos p:Pos}{K:Ah}
theorem RdY.refs(h:RdY H B l m):RdXs H B (l.map λq=>V.ref q.2.1) (m.map λq=>q.1.1):=by
 induction h with
 |nil=>exact .nil
 |@cons p q ps qs hq t ih=>exact .cons (show RdX H B (.ref p.2.1) q.1.1 by rw[<-hq.1];exact hq.2.1) ih
def wY(w:DT):fg:=λδ n Q=>w δ n λx n1=>∃kvs,iJ x kvs/\kvs.length<=1000/\Q (kvs.map (·.1.1)) n1
theorem OC(hh:X.A.handled=af)(hg:Gl X "list")(hm:X.mg "list"=af)(ho:DE X o td wd')(hK:X.K=K:=by rfl)(he:Av [o] X.env=(ai,eval o X.env)::Av [] X.env:=by rfl)(hpl:(C8 pos ⇑65).any (·.1)=ai:=by rfl):
  DF X (.Call (.Name "list" p) [o] [] pos) (fZ (BW K) (bU td bq)) (wY wd'):=by
 subst hK;refine⟨om (Jw hh) hg hm sH (cR ho.pe fh he) ∎ ∎ he hpl,λC H B σ δ n Q Q' R q k=>ho.sd C H B σ δ n _ _ R q λv x H1 n1 R1 k1 r1 q1=>?_⟩;obtain⟨kvs,hx,hl,q1⟩:=q1;obtain⟨a,l,rfl,g1,g2,g3⟩:=WRel.rdX R1.bt hx r1;refine⟨a,l,rfl,g1,g3.keys,λL hL=>?_⟩;exact k L _ _ _ n1 (R1.new hL) (k1.trans (Kp.new hL)) (R1.was k1 hL) bH (by rw[Aa,g3.len];exact fG hl) (g3.refs.fresh hL) q1
end
end DL
namespace L2
open PySem PySem.Spec PyProof.Rows PySem.W
end L2
namespace DL
open PySem L2 Nb
end DL
namespace L2
open PySem PySem.Spec PyProof.Rows PySem.W
end L2
namespace DL
open PySem L2 Nb
abbrev fI:=List Wv->Int->(List (TK×Ad)->Int->Prop)->Prop
def nN(S:fI):Sp:=λvs H Q _=>∃(t:Addr)(l:TL)(ns:List Int)(B:Addr->Prop)(ws:List Wv)(n:Int)(Q0:List (TK×Ad)->Int->Prop),Tp H t l ns n/\B t/\(∀b,B b->H b≠af)/\ARel H B t vs ws/\S ws n Q0 /\
 ∀kvs n',Q0 kvs n'->∀a l' H',Tp H' t l ns n'->Kp t H H'->H a=af->H' a=ae (.dX l')->l'.length<=1000->RdY H' ⇑93 l' kvs->Q (.ref a) H'
structure HasX(P:Bh)(w:Bt)(K:Ah)(mg:Str->Option Ag)(base:Heap)(k:Nat)(x:Str)(ps:List Str)(S:fI):Prop where
 ex:∃(f:Addr)(fd:Cg),FnOk P w K mg base cx k f fd ps (nN S)/\Binds K fd ps []/\mg x=ae (.ref f)/\Cw K (.ref f)=ah
theorem HasX.mk'(F:Fun K x qual st f fd)(m:mg x=ae (.ref f))(b:Binds K fd ps [])(h:FnOk P w K mg base cx k f fd ps (nN S)):HasX P w K mg base k x ps S:=⟨f,fd,h,b,m,F.kp⟩
section
variable{X:Cx}{e:Expr}{es:List Expr}{pos p:Pos}{tR:TA}{wR:dI}
def mG(i:Nat):aJ:=λδ n K=>match δ[i]? with
 |some (ae (.odx kvs))=>K.rx kvs n
 |_=>False
theorem OP(i){xp:Pos}(hN:X.N[i]?=ae x:=by rfl)(hv:fC X.env.scope x:=by first|exact Cs rfl|exact Ca (Cs rfl)|exact Ca (Ca rfl))(hd:⇑21=ai:=by decide)
  (hcd:⇑46=ai:=by decide):DS X (.Return (ae ⇑29) pos) (gw (aM i)) (mG i):=⟨kA ⇑82,λC H B σ δ n K D R q E=>by
 unfold mG at q
 split at q
 ·rename_i kvs ei;obtain⟨v,hv,a,l,rfl,e2,e3,e4,e5,e6⟩:=R.sl i _ ei;exact⟨_,hv,E.rx H B σ δ n a l kvs R e4 e2 e5 (e6.move λb o e nb=>⟨e,λz=>z.elim nb λq=>nb (q▸e3)⟩) q⟩
 ·exact q.elim⟩
def qE(i:Nat)(S:fI)(w:dI):aJ:=λδ n K=>w δ n λxs n1=>S xs n1 λkvs n2=>K.nx (δ.set i (ae (.odx kvs))) n2
theorem PL(h:HasX X.prog X.w X.K X.mg X.base k f ps S)(hr:Room k X.A)(hg:Gl X f)(hN:X.N.Nodup)(hi:X.N[i]?=ae x)(hx:gc X.env.scope x)(ha:DA X (e::es) tR wR)
  (hs:C5 (.Call (.Name f p) (e::es) [] cp) (ae ⇑47) pos.line X.env=pure ai:=by rfl) (hf:X.fn x=ah\/X.env.scope.names.lookup x=ae .local:=by first|exact .inl rfl|exact .inr rfl|assumption)
  (hdb:(f==("__debug__":Str))=ai:=by decide) (he:Av (e::es) X.env=⇑33::Av es X.env:=by rfl) (hpl:(C8 cp ⇑43).any (·.1)=ai:=by rfl):
  DS X (.Assign [.Name x pos'] (.Call (.Name f p) (e::es) [] cp) pos) (bQ (fU (nN S) [] E0 tR) (dH i)) (qE i S wR):=by
 obtain⟨g,fd,h1,h2,h3,h4⟩:=h.ex;refine⟨gV hN hi hx (m9 h1 hr hg h3 h4 h2 .nil mn ha.pa hdb he hpl) hs hf,λC H B σ δ n K D R q E=>ha.sd C H B σ δ n _ _ R q λvs xs H1 n1 R1 k1 r1 q1=>?_⟩;refine⟨C.t,C.l,C.ns,B,xs,n1,_,R1.tp,R1.bt,R1.ba,by rw[Bp];exact r1,q1,λkvs n' q2 a l' H' T' k' h0 h1' h2' h3'=>?_⟩;refine E.nx _ _ _ _ _ (R.own (R1.step T' k') (k1.trans k') (R1.was k1 h0) (by rw[h1'];exact λz=>nomatch z) rfl ?_) q2;exact⟨a,l',rfl,h1',.inr rfl,R.h0 (R1.was k1 h0),h2',h3'⟩
end
section
variable{P:Bh}{w:Bt}{K:Ah}{mg:Str->Option Ag}{base:Heap}
theorem Fun.okX(F:Fun K x qual st f fd)(Sc:FnScope N ps (b8 st))(len:∀ws n Q,S ws n Q->ws.length=ps.length)
  (hbody:∀(cdv:Ag)(A:B1)(outer:List Env)(s:Ak)(H:Hp)(E:XK),Room k ⇑142->
   ∃T W,DSs (cO cx P w K mg base N qual (b8 st) f cdv A outer s H E).nox (fA st) T W/\∀ws n Q,S ws n Q->W (dw N ws) n {nx:=λ_ _=>False,rt:=λ_ _=>False,rx:=Q}):FnOk P w K mg base cx (k+1) f fd ps (nN S):=by
 refine F.ok Sc ⇑109 ⇑110
 ·obtain⟨t,l,ns,B,ws,n,Q0,_,_,_,r,q,_⟩:=h;rw[r.len];exact len ws n Q0 q
 ·obtain⟨t,l,ns,B,ws,n,Q0,T,bt,ba,r,q,kk⟩:=h;obtain⟨T',W,d,hw⟩:=hbody cdv A outer s H E hr;refine⟨T',d.ps,d.sd ⟨t,l,ns,H,B,λ_=>af⟩ H B _ _ n _ _ (rX T bt ba r) (hw ws n Q0 q) ⟨?_,?_,?_,?_,?_,?_⟩⟩
  ·sleep 14
  ·exact λ_ _ _ _ _ _ _ _ _ z=>z.elim
  ·sleep 14
  ·sleep 14
  ·exact λ_ _ _ _ _ _ _ _ _ _ _ _ _ z=>z.elim
  ·exact λH' B' σ δ n' a l' kvs R' h0 h1 h2 h3 q'=>kk _ _ q' a l' H' R'.tp R'.kp h0 h1 h2 (h3.move λb o e nb=>⟨e,λz=>nb (z.elim (λz=>.inl (R'.b0 b z)) .inr)⟩)
end
section
variable{X:Cx}{a b:Expr}{ta tb:TE}{wa wb:DT}{pos:Pos}{K:Ah}
def jN(w:DT):cz:=λδ n Q=>w δ n λx n1=>match gX x with
 |some ds=>Q (!ds.isEmpty) n1
 |none=>False
theorem S6(h:DE X e te we)(he:∀whole,isTrue e X.env whole=(do let v <-whole;standAt e.pos;holding [v] (truthy v)):=by intro _;rfl):DC X e (λσ H Q=>te σ H λx H'=>∃k,lL X.K x H' k/\Q k H') (jN we):=
 ⟨NK h.pe he,λC H B σ δ n Q Q' R q k=>h.sd C H B σ δ n _ _ R q λv x H1 n1 R1 k1 r1 q1=>by
  split at q1
  ·rename_i ds el;obtain⟨a,xs,rfl,e1,e3,e4⟩:=uI r1 el;refine⟨!ds.isEmpty,.inl ⟨xs,SqL.of e1,?_⟩,k _ H1 n1 R1 k1 q1⟩;cases e4<;>rfl
  ·exact q1.elim⟩
end
end DL
namespace Nb
open PySem L2 DL
def me(Sa:aR):fI:=λws n Q=>∃(pd:Ad)(s0:TK)(N:Nat)(aft:TK->Nat->Option TK)(Gd:TK->Prop)(J:Nat),ws=[.d pd,.d s0.1]/\AfOk Sa pd N aft Gd/\Gd s0/\N < 2 ^ 60/\(Lr aft N s0 J).length<=J/\(Lr aft N s0 J).length<=1000 /\
 ∀m,m.map (·.1)=Lr aft N s0 J->ParI aft N s0 m->Syn m (El aft N s0 J)->Q m n
theorem vn{Gd:TK->Prop}(A:∀(s:TK) (i:Nat) (b:TK),Gd s->i<=N->aft s i=ae b->Gd b)(h0:Gd s0):∀j,∀s∈Lr aft N s0 j,Gd s
 |0=>λs hs=>by obtain rfl:s=s0:=(by simpa[Lr]using hs);exact h0
 |j+1=>by
  have ih:=vn A h0 j;show ∀s∈(match (Lr aft N s0 j)[j]? with|some s=>qs aft N (Lr aft N s0 j) s|none=>Lr aft N s0 j),Gd s;cases e:(Lr aft N s0 j)[j]? with
  |none=>exact ih
  |some t=>
   have ht:=ih t (A0 e);have key:∀(is:List Nat)(ks:List TK),(∀i∈is,i<=N)->(∀s∈ks,Gd s)->∀s∈is.foldl (q1 aft t) ks,Gd s:=by
    intro is
    induction is with
    |nil=>exact λks _ h=>h
    |cons i is ih2=>
     intro ks hi h;refine ih2 _ (λx hx=>hi x (Ap _ hx)) λs hs=>?_;unfold q1 at hs;cases ea:aft t i with
     |none=>rw[ea]at hs;exact h s hs
     |some b=>
      rw[ea]at hs;dsimp only at hs
      split at hs
      ·exact h s hs
      ·rcases A9.mp hs with hs|hs
       ·exact h s hs
       ·obtain rfl:s=b:=by simpa using hs
        exact A t i s ht (hi i Au) ea
   exact key _ _ (λi hi=>Gs (Cb.mp hi)) ih
theorem Nd(Sa)(ws)(n)(Q)(h:me Sa ws n Q):
  (aq (ph 2 ↥1 ⇑15) (aq (bo 3 (aQ ⇑26)) (aq (jb (jN (cS 3)) (iD Sa 0 2 3)) (mG 2)))) (dw ["programs","stand","steps","stands"] ws) n {nx:=λ_ _=>False,rt:=λ_ _=>False,rx:=Q}:=by
 obtain⟨pd,s0,N,aft,Gd,J,rfl,A,g0,hN,hJ,hJ2,q⟩:=h;obtain⟨ds0,hds0⟩:=A.tup s0 g0;refine⟨s0,.none,s0.1,rfl,rfl,⟨rfl,ds0,hds0⟩,?_⟩;refine⟨show 1<=1000 by decide,?_⟩;show jb (jN (cS 3)) (iD Sa 0 2 3) [↑pd,↑s0.1,ae (.odx [(s0,.none)]),ae (.own [s0.1])] n _;refine⟨λk δ n'=>∃c m ss,k=J+1-c/\n'=n/\c<=J/\δ=[↑pd,↑s0.1,ae (.odx m),ae (.own (ss.map (·.1)))]/\Lev aft N s0 c m ss/\ParI aft N s0 m/\Syn m (El aft N s0 c),⟨J+1,0,[(s0,.none)],[s0],rfl,rfl,A6 _,rfl,Lev.first s0 _,.one,Syn.one⟩,?_⟩
 rintro k δ n' ⟨c,m,ss,rfl,rfl,hc,rfl,L,P,S⟩
 show(if (!(ss.map (·.1)).isEmpty)=ah then _ else _);have hlen:ss.length=(Lr aft N s0 c).length-c:=by rw[L.rs,C1]
 cases ss with
 |nil=>
  rw[if_neg (by simp)];have hcl:(Lr aft N s0 c).length<=c:=by
   have:=L.le;simp at hlen;omega
  have eJ:Lr aft N s0 c=Lr aft N s0 J:=by
   have:=rP hcl (J-c);rw[show c+(J-c)=J by omega]at this;exact this.symm
  have eE:∀k,El aft N s0 (c+k)=El aft N s0 c:=by
   intro k
   induction k with
   |zero=>rfl
   |succ k ih=>
    show(match (El aft N s0 (c+k))[c+k]? with|some s=>dM aft N (El aft N s0 (c+k)) s|none=>El aft N s0 (c+k))=_;rw[ih,Cj (by have:=congrArg D8 (jo (aft:=aft) (N:=N) (s0:=s0) c);rw[Aa]at this;omega)]
  have eE':=eE (J-c);rw[show c+(J-c)=J by omega]at eE';exact q m (L.ks.trans eJ) P (by rw[eE'];exact S)
 |cons t r=>
  rw[if_pos (by simp)];have hlt:c < (Lr aft N s0 c).length:=by simp at hlen;omega
  have hb:=QD (aft:=aft) (N:=N) (s0:=s0) hJ;have sub:∀s∈t::r,s∈m.map (·.1):=λs hs=>by rw[L.ks];rw[L.rs]at hs;exact List.mem_of_mem_drop hs
  have L2:=L.next;refine⟨pd,N,aft,Gd,m,t::r,A,hN,rfl,rfl,rfl,λs hs=>vn A.good g0 c s (by rw[<-L.ks];exact sub s hs),?_,?_⟩
  ·have:=congrArg D8 L2.ks;rw[Aa]at this;rw[this];exact Bj (hb _) hJ2
  ·exact⟨J+1-(Lr aft N s0 c).length,by have:=hb c;omega,(Lr aft N s0 c).length,_,_,rfl,rfl,Bj (hb c) hJ,rfl,L2,P.fur (t::r) (m,[]) sub,S.next L⟩
end Nb
namespace L2
open PySem PySem.Spec PyProof.Rows PySem.W
section
variable{prog:Bh}{w:Bt}{A:B1}{E:Ag->Ak->Prop}{s:Ak}{R:Result->Ak->Prop}
theorem T2:typeLookup (.type "list_reverseiterator") "__len__"=pure af:=by rw[Hk,Fy];kernel_rfl
theorem QQ:typeLookup (.type "list_reverseiterator") "__length_hint__"=pure (ae (.builtin "list_reverseiterator.__length_hint__")):=by rw[Hk,Fy];kernel_rfl
theorem T6(ty:s.TypeIs (.ref r) "list_reverseiterator")(h:Q ai s):A1 ⇑13 A (Fb (.ref r)) Q E s:=by
 unfold Fb;refine Ab (Hj ty T2 ?_)
 wp_delta
 refine Ab (Hj ty QQ ?_);generalize hid:("list_reverseiterator.__length_hint__":String)=id0
 wp_delta
 rw[show splitId id0=ae ("list_reverseiterator","__length_hint__")from by subst hid;decide +kernel];subst hid;refine Ab (Er (T:="list_reverseiterator") (b:=ah) ty (by rw[Fi];kernel_rfl) ?_);refine Gm (λz=>absurd z ∎) (λ_=>?_);refine Gm (λ_=>?_) (λz=>absurd ∅ z);exact Aj h
abbrev yG(items:Array Ag):Nat->Ag->Prop:=λi v=>items[items.size-1-i]?=ae v
theorem Ug(hh:A.handled=af)(hit:s.heap.IsRevIter I l ((items.size:Int)-1))(hl:s.heap.IsList l items)(hne:l≠I)(hSI:S≠I)(hSl:S≠l)(hS:s.heap.get? S=ae {cls:=.type "list",data:=.seq #[] c0})(hn:items.size<=Az)
  (fin:∀h' tk acc c,(∀b o,b≠S->b≠I->s.heap.get? b=ae o->h'.get? b=ae o)->h'.get? S=ae {cls:=.type "list",dict:=af,data:=.seq acc c,slots:=#[]}->ItemsOf (yG items) acc items.size->R (.ok (.ret res)) {s with heap:=h',toks:=tk}):
  A1 ⇑13 A.in1 (Cz (.ref S) (.ref I) res) (λfin s'=>match fin with|.done f=>R (.ok f) s'|.again c'=>c'.quiet=ah/\F2 ⇑13 A c' R s') (λe s'=>R (.error e) s') s:=by
 have W:=Walks.listRev (prog:=prog) (w:=w) (A:=A.in1) hh I l hne items;have nf:S∉[I,l]:=by simp[hSI,hSl]
 have st0:∀{h:Heap},h.IsRevIter I l ((items.size:Int)-1)->h.IsList l items->(0<=items.size/\h.IsRevIter I l ((items.size:Int)-1-((0:Nat):Int))/\h.IsList l items):=λa b=>⟨A6 _,by simpa using a,b⟩;have go:∀(h:Heap)(c1 tk:Nat),h.IsRevIter I l ((items.size:Int)-1)->h.IsList l items->(∀b o,b≠S->b≠I->s.heap.get? b=ae o->h.get? b=ae o)->h.get? S=ae {cls:=.type "list",data:=.seq #[] c1}->F2 ⇑13 A (.builtin "list.extend.loop" ⟨[.ref S,.ref I,res],[]⟩) R {s with heap:=h,toks:=tk}:=by
  intro h c1 tk a1 a2 a3 a4;refine codeAny_extend_loopS W.toS hn S nf res items.size 0 _ #[] c1 rfl (A6 _) (st0 a1 a2) a4 (ItemsOf.nil _) λs' acc c mv b4 b5=>?_;rw[Moved.eq_with mv];refine fin s'.heap s'.toks acc c (λb o n1 n2 e=>mv.heap b o (λz=>?_) (a3 b o n1 n2 e)) b4 b5;rcases Ax.mp z with z|z
  ·exact n1 z
  ·exact n2 (Ba.mp z)
 unfold Cz;refine Ab (Gf hit.typeIs ?_);have f1:Fs (.ref S) (.ref I)=ai:=by simp[Fs,hSI]
 have f2:(Dv "list_reverseiterator"==Dv "list")=ai:=by decide
 have f3:(Dv "list_reverseiterator"==Dv "tuple")=ai:=by decide
 simp only[f1,f2,f3,Bool.or_false,B3,if_false];refine Ab (wpAny_pyIter_revIter hit ?_);refine Ab (Cf (T6 hit.typeIs ?_));refine Gm (λz=>?_) (λ_=>Aj ⟨Fv Hd _,go _ c0 _ hit hl (λ_ _ _ _ e=>e) hS⟩);exact absurd z ∅
theorem MP(hh:A.handled=af)(hit:s.heap.IsRevIter I l ((items.size:Int)-1))(hl:s.heap.IsList l items)(hne:l≠I)(hn:items.size<=Az)
  (fin:∀h' tk acc c,(∀b o,b≠I->s.heap.get? b=ae o->h'.get? b=ae o)->h'.get? s.heap.objs.size=ae {cls:=.type "list",dict:=af,data:=.seq acc c,slots:=#[]}->ItemsOf (yG items) acc items.size->Q ⇑35 {s with heap:=h',toks:=tk}):
  A1 ⇑13 A (call (.type "list") [.ref I]) Q E s:=by
 refine callType_codes (Q₁:=λv s1=>v=.ref s.heap.objs.size/\s1={ s with heap:=s.heap.push {cls:=.type "list",data:=.seq #[]}}) PySem.F.called_list (PySem.F.typeCall_list_1 _) PySem.F.entry_list_init (code_list_new _ ⟨rfl,rfl⟩) λv s1 z=>?_;obtain⟨rfl,rfl⟩:=z;have gS:(s.heap.push {cls:=.type "list",data:=.seq #[]}).get? s.heap.objs.size=ae {cls:=.type "list",data:=.seq #[]}:=Aw _ rfl;have nI:s.heap.objs.size≠I:=let⟨_,e,_⟩:=hit;Em (As e);have nl:s.heap.objs.size≠l:=let⟨_,e,_⟩:=hl;Em (As e);refine⟨⟨_,gS,rfl⟩,PySem.F.args_list_init_2 _ _,?_⟩;show A1 _ _ (do let old <-Builtin.List.listItems ⇑35;Builtin.List.listUpdate ⇑35 (λ_=>#[]);letGo old.toList.reverse;Cz ⇑35 (.ref I) .none) _ _ _;refine Ab ?_;unfold Builtin.List.listItems;refine Ab (Dm gS rfl (Aj ?_));show A1 _ _ (updateSeq s.heap.objs.size (λ_=>#[])>>=λ_=>letGo (#[]:Array Ag).toList.reverse>>=λ_=>Cz ⇑35 (.ref I) .none) _ _ _;refine Ab (wpAny_updateSeq gS rfl ?_);have gS2:=Bw (Cy (λ_=>(#[]:Array Ag))) gS rfl;have up:∀b o,s.heap.get? b=ae o->((s.heap.push {cls:=.type "list",data:=.seq #[]}).update s.heap.objs.size (Cy (λ_=>(#[]:Array Ag)))).get? b=ae o:=
  λb o e=>(Dw _ _ (Em (As e))).trans (Af _ e)
 refine Ab (wpAny_letGo ?_);refine Ug (A:=A.in1) hh (hit.at λo e=>up _ o e) (hl.at λo e=>up _ o e) hne nI nl gS2 hn λh' tk acc c k1 k2 k3=>?_;exact⟨rfl,fin h' tk acc c (λb o n e=>k1 b o (Bd (As e)) n (up b o e)) k2 k3⟩
end
def AL(te:TE):TE:=λσ H Q=>te σ H λx H1=>∃a xs,x=.ref a/\H1 a=ae (.lst xs)/\∀l,H1 l=af->Q (.ref l) (upd H1 l (.lst xs.reverse))
theorem K4{p1 p2 pos1 pos2:Pos}(hh:X.A.handled=af)(gl:Gl X "list")(ml:X.mg "list"=af)(gr:Gl X "reversed")(mr:X.mg "reversed"=af)(bl:Bv "list"=ae (.type "list"))(br:Bv "reversed"=ae (.type "reversed"))(he:PE X e te)
  (h1:Av [e] X.env=⇑33::Av [] X.env:=by rfl) (h2:(C8 pos2 ⇑65).any (·.1)=ai:=by rfl)
  (h3:Av [.Call (.Name "reversed" p2) [e] [] pos2] X.env=(ai,eval (.Call (.Name "reversed" p2) [e] [] pos2) X.env)::Av [] X.env:=by rfl) (h4:(C8 pos1 ⇑65).any (·.1)=ai:=by rfl):
  PE X (.Call (.Name "list" p1) [.Call (.Name "reversed" p2) [e] [] pos2] [] pos1) (AL te):=by
 sleep 6;refine Gr (kH I gl ml bl ?_ ∎ ∎);refine Dh (Calls.spliced_cons ?_) h3 h4;refine Gr (kH I gr mr br ?_ ∎ ∎);refine Dh ?_ h1 h2;rw[h1];show A1 _ _ (spliced (⇑33::[])) _ _ s;refine Calls.spliced_cons (aP (he pins s σ H _ I h) λu s1 ⟨x,H1,I1,rx,q⟩=>Calls.spliced_nil ?_);obtain⟨a,xs,rfl,ha,q⟩:=q;obtain rfl:u=A4 a:=rx;obtain⟨z,its,n,rv,hl,eo⟩:=I1.lstM ha;have isl:s1.heap.IsList a its.toArray:=⟨_,eo,rfl,_,rfl⟩;refine call_reversed_list isl ?_;show A1 _ _ (spliced []) _ _ _;refine Calls.spliced_nil ?_;have ne:a≠s1.heap.objs.size:=Bd (As eo);refine MP hh (I:=s1.heap.objs.size) (l:=a) (items:=its.toArray) ⟨_,Aw _ rfl,rfl,rfl⟩ (isl.at λo e=>Af _ e) ne (by rw[A2,<-hl];exact z) λh' tk acc c k1 k2 k3=>?_;have sz:(s1.heap.push (revObj a ((its.toArray.size:Int)-1))).objs.size=s1.heap.objs.size+1:=by simp[Heap.push]
 have eacc:acc=its.reverse.toArray:=by
  apply F0.mp;apply List.ext_getElem?;intro j;by_cases hj:j < its.length
  ·have hja:j < acc.size:=by rw[k3.1];simpa using hj
   have:=k3.2 j acc[j] (Co hja);rw[Dy,Co hja,<-this];simp[hj]
  ·rw[Dy,Array.getElem?_eq_none (by rw[k3.1];simp;omega)];simp;omega
 rw[eacc]at k2;refine⟨.ref _,_,I1.laid (t':=tk) (h':=h') (o:=.lst xs.reverse) (λb o e=>k1 b o (Bd (As e)) (Af _ e)) (by rw[sz];exact Nat.le_succ _) ⟨by rw[List.length_reverse];exact z,its.reverse,c,rv.reverse,k2⟩,rfl,q _ (I1.hok.fresh (by rw[sz];exact Nat.le_succ _))⟩
end L2
namespace DL
open PySem L2 Nb
section
variable{X:Cx}{o:Expr}{td:TE}{wd':DT}
def sR(w:DT):fg:=λδ n Q=>w δ n λx n1=>∃ds,x=.ln ds/\Q ds.reverse n1
theorem Qr{p1 p2 pos1 pos2:Pos}(hh:X.A.handled=af)(gl:Gl X "list")(ml:X.mg "list"=af)(gr:Gl X "reversed")(mr:X.mg "reversed"=af)(ho:DE X o td wd')
  (h1:Av [o] X.env=(ai,eval o X.env)::Av [] X.env:=by rfl) (h2:(C8 pos2 ⇑65).any (·.1)=ai:=by rfl)
  (h3:Av [.Call (.Name "reversed" p2) [o] [] pos2] X.env=(ai,eval (.Call (.Name "reversed" p2) [o] [] pos2) X.env)::Av [] X.env:=by rfl) (h4:(C8 pos1 ⇑65).any (·.1)=ai:=by rfl):
  DF X (.Call (.Name "list" p1) [.Call (.Name "reversed" p2) [o] [] pos2] [] pos1) (AL td) (sR wd'):=by
 refine⟨K4 hh gl ml gr mr sH rfl ho.pe h1 h2 h3 h4,λC H B σ δ n Q Q' R q k=>ho.sd C H B σ δ n _ _ R q λv x H1 n1 R1 k1 r1 q1=>?_⟩;obtain⟨ds,rfl,q1⟩:=q1;obtain⟨a,xs,rfl,g1,g2,g3,g4⟩:=r1;refine⟨a,xs,rfl,g1,λL hL=>?_⟩;exact k L _ _ _ n1 (R1.new hL) (k1.trans (Kp.new hL)) (R1.was k1 hL) bH (by rw[List.length_reverse];exact g3) ((RdXs.rev g4).fresh hL) q1
end
end DL
namespace Nb
open PySem L2 DL
def lQ:e7:=λws n Q=>∃(m:List (TK×Ad))(k:TK)(ms:List Nat),ws=[.ob (.y m),.d k.1]/\Way m k ms/\ms.length < 1000/\(∀j d,bc m j=ae d->∃ds,j.1=.tuple ds)/\Q (ms.reverse.map λi=>.int (i:Nat)) n
theorem Way.val(w:Way m k ms):∃d,bc m k=ae d:=by
 cases w with
 |root e=>exact⟨_,e⟩
 |step e _=>exact⟨_,e⟩
theorem Ur(ws)(n)(Q)(h:lQ ws n Q):
  (aq (bo 2 (aQ ak)) (aq (aw 3 (w2 (dg 0) ↥1 iO)) (aq (jb (cT (w2 ↥3 ⇑15 (bh ah))) (aq (a8 2 (w2 ↥3 ⇑1 aV)) (aw 3 (w2 (dg 0) (w2 ↥3 ⇑0 aV) iO)))) (vg (sR (cS 2)))))) (dw ["steps","stand","movers","step"] ws) n {nx:=λ_ _=>False,rt:=λ_ _=>False,rn:=Q}:=by
 obtain⟨m,k,ms,rfl,w,hl,ht,q⟩:=h;obtain⟨d0,e0⟩:=w.val;refine⟨A6 _,?_⟩;refine⟨m,k.1,k,d0,.inr rfl,rfl,⟨rfl,ht k d0 e0⟩,e0,?_⟩;show jb _ _ [ae ⇑113,↑k.1,ae (.own []),↑d0] n _;refine⟨λz δ n'=>∃(dn rs:List Nat)(s:TK)(d:Ad),z=rs.length/\n'=n/\ms=dn++rs/\Way m s rs/\bc m s=ae d/\δ=[ae ⇑113,↑k.1,ae (.own (dn.map λi=>.int (i:Nat))),↑d],⟨ms.length,[],ms,k,d0,rfl,rfl,rfl,w,e0,rfl⟩,?_⟩
 rintro z δ n' ⟨dn,rs,s,d,rfl,rfl,rfl,w,e,rfl⟩
 cases w with
 |root e'=>
  rw[e]at e';cases e';refine⟨dn.map λi=>.int (i:Nat),rfl,?_⟩;rw[Bp]at q;rw[<-List.map_reverse];exact q
 |@step _ s' mv rs e' w'=>
  rw[e]at e';cases e';obtain⟨d',e2⟩:=w'.val;show(dn.map λi=>Ff (i:Nat)).length < 1000000/\_;refine⟨by rw[Aa];rw[An]at hl;omega,?_⟩;refine⟨m,s'.1,s',d',.inr rfl,rfl,⟨rfl,ht s' d' e2⟩,e2,?_⟩;exact⟨rs.length,Eo _,dn++[mv],rs,s',d',rfl,rfl,by simp,w',e2,by rw[A7];rfl⟩
def mh(Ss:aR):aR:=λws n Q=>∃(pd:Ad)(m:List (TK×Ad))(sg:Ad)(see:TK->Bool),ws=[.d pd,.ob (.y m),.d sg]/\m.length<=1000/\(∀k∈m.map (·.1),∀(n:Int)(R:DQ),R (.d (.bool (see k))) n->Ss [.d pd,.d k.1,.d sg] n R) /\
 Q (.d (match (m.map (·.1)).find? see with|some k=>k.1|none=>.none)) n
theorem MM(Ss)(ws)(n)(Q)(h:mh Ss ws n Q):
  (aq (aU (p9 ↥1) (aD 3) (aL (cT (aC Ss (ao ↥0 (ao ↥3 ⇑37)))) (az ↥3) aG)) (az ⇑15)) (dw ["programs","stands","sight","stand"] ws) n {nx:=λ_ _=>False,rt:=Q}:=by
 obtain⟨pd,m,sg,see,rfl,hl,hs,q⟩:=h;refine⟨m,rfl,hl,?_⟩;have e:(m.map λp=>p.1.1)=(m.map (·.1)).map (·.1):=by rw[B7];rfl
 rw[e];have loop:∀(ks:List TK)(o:Option SV),(∀k∈ks,∀(n:Int)(R:DQ),R (.d (.bool (see k))) n->Ss [.d pd,.d k.1,.d sg] n R)->Q (.d (match ks.find? see with|some k=>k.1|none=>.none)) n->
   c8 (aD 3) (aL (cT (aC Ss (ao ↥0 (ao ↥3 ⇑37)))) (az ↥3) aG) {nx:=λδ n=>az ⇑15 δ n {nx:=λ_ _=>False,rt:=Q},rt:=Q} (ks.map (·.1)) [↑pd,ae ⇑113,↑sg,o] n:=by
  intro ks
  induction ks with
  |nil=>intro o _ q;exact q
  |cons k ks ih=>
   intro o hk q;rw[Bc];show Ss [.d pd,.d k.1,.d sg] n _;refine hk k Au n _ ?_;rw[Bg]at q;cases z:see k with
   |true=>
    rw[z]at q;exact q
   |false=>
    rw[z]at q;exact ih (↑k.1) (λj hj=>hk j (Ap _ hj)) q
 exact loop _ af hs q
def lD(Sa Ss:aR):aR:=λws n Q=>∃(pd:Ad)(s0:TK)(sg:Ad)(N:Nat)(aft:TK->Nat->Option TK)(Gd:TK->Prop)(J:Nat)(see:TK->Bool),ws=[.d pd,.d s0.1,.d sg]/\AfOk Sa pd N aft Gd/\Gd s0/\N < 2 ^ 60/\(Lr aft N s0 J).length<=J/\(Lr aft N s0 J).length<=1000 /\
 (∀k∈Lr aft N s0 J,∀(n:Int)(R:DQ),R (.d (.bool (see k))) n->Ss [.d pd,.d k.1,.d sg] n R) /\
 ((∀k∈Lr aft N s0 J,see k=ai)->Q ⇑17 n) /\
 ∀(i:Nat)(e:TK×Nat)(ms:List Nat),(El aft N s0 J)[i]?=ae e->see e.1=ah->(∀j x,j < i->(El aft N s0 J)[j]?=ae x->see x.1=ai)->ms.length=e.2->gY aft s0 ms=ae e.1->(∀x∈ms,x<=N)->Q (.d (.list (ms.map λi=>.int (i:Nat)))) n
theorem Nk(Sa Ss)(ws)(n)(Q)(h:lD Sa Ss ws n Q):
  (aq (qE 3 (me Sa) (ao ↥0 ⇑26)) (js 3 (aq (aw 4 (aC (mh Ss) (ao ↥0 (ao (dg 3) ⇑37)))) (az (eu (cT (w2 ↥4 ⇑15 (bh ai))) ⇑15 (bj (mj lQ (ao (dg 3) ⇑38)))))))) (dw ["programs","stand","sight","steps","one"] ws) n {nx:=λ_ _=>False,rt:=Q}:=by
 obtain⟨pd,s0,sg,N,aft,Gd,J,see,rfl,A,g0,hN,hJ,hJ2,hs,q0,q1⟩:=h;refine⟨pd,s0,N,aft,Gd,J,rfl,A,g0,hN,hJ,hJ2,λm hk P S=>?_⟩;have hlen:m.length<=1000:=by have:=congrArg D8 hk;rw[Aa]at this;omega
 refine⟨pd,m,sg,see,rfl,hlen,by rw[hk];exact hs,?_⟩;cases z:(m.map (·.1)).find? see with
 |none=>
  refine q0 λk hk'=>?_;have:=List.find?_eq_none.mp z k (by rw[hk];exact hk');simpa using this
 |some k=>
  obtain⟨hp,i,hi,hx,hb⟩:=List.find?_eq_some_iff_getElem.mp z;have km:k∈m.map (·.1):=List.mem_of_find?_eq_some z;have kd:∀j∈m.map (·.1),∃ds,j.1=.tuple ds:=λj hj=>A.tup j (vn A.good g0 J j (by rw[<-hk];exact hj));obtain⟨ms,w,wk,wl,wn⟩:=PD P k km;have key:∀d:Ad,(∃ds,d=.tuple ds)->eU d=ai:=by rintro d ⟨ds,rfl⟩;rfl
  show eu (cT (w2 ↥4 ⇑15 (bh ai))) ⇑15 (bj (mj lQ (ao (dg 3) ⇑38))) [↑pd,↑s0.1,↑sg,ae ⇑113,↑k.1] n Q;have nn:=key _ (kd k km);dsimp only[eu,cT,w2,aj,bh,B5,B4,wC];rw[nn];rw[if_neg ∎];refine⟨m,k,ms,rfl,w,by omega,λj d hj=>kd j ((kj m j).mp (by rw[hj];rfl)),?_⟩;have hE:(El aft N s0 J).map (·.1)=m.map (·.1):=S.ks.symm;have hiE:i < (El aft N s0 J).length:=by have:=congrArg D8 hE;rw[Aa,Aa]at this;rw[Aa]at hi;omega
  have ek:((El aft N s0 J)[i]).1=k:=by
   have:((El aft N s0 J).map (·.1))[i]?=ae k:=by rw[hE,Ae hi,hx]
   rw[Am,Ae hiE]at this;exact Bb this
  obtain⟨ms',w',l'⟩:=S.wy _ (Cq hiE);rw[ek]at w';have em:=w.uniq w';refine q1 i (El aft N s0 J)[i] ms.reverse (Ae hiE) (by rw[ek];exact hp) (λj x hj hx'=>?_) (by rw[List.length_reverse,em];exact l') (by rw[ek];exact wk) λx hx'=>wn x (List.mem_reverse.mp hx');have hjm:j < (m.map (·.1)).length:=Nat.lt_trans hj hi;have h1:=hb j hj;have h2:(m.map (·.1))[j]?=ae x.1:=by rw[<-hE,Am,hx'];rfl
  rw[Ae hjm]at h2;rw[Bb h2]at h1;simpa using h1
end Nb
namespace DL
open PySem L2 Nb
abbrev j4:=List Wv->Int->(Option (List (TK×Ad))->Int->Prop)->Prop
def nr(S:j4):Sp:=λvs H Q _=>∃(t:Addr)(l:TL)(ns:List Int)(B:Addr->Prop)(ws:List Wv)(n:Int)(Q0:Option (List (TK×Ad))->Int->Prop),Tp H t l ns n/\B t/\(∀b,B b->H b≠af)/\ARel H B t vs ws/\S ws n Q0 /\
 (∀n',Q0 af n'->∀H',Tp H' t l ns n'->Kp t H H'->Q .non H') /\
 ∀kvs n',Q0 (ae kvs) n'->∀a l' H',Tp H' t l ns n'->Kp t H H'->H a=af->H' a=ae (.dX l')->l'.length<=1000->RdY H' ⇑93 l' kvs->Q (.ref a) H'
structure HasXO(P:Bh)(w:Bt)(K:Ah)(mg:Str->Option Ag)(base:Heap)(k:Nat)(x:Str)(ps:List Str)(S:j4):Prop where
 ex:∃(f:Addr)(fd:Cg),FnOk P w K mg base cx k f fd ps (nr S)/\Binds K fd ps []/\mg x=ae (.ref f)/\Cw K (.ref f)=ah
theorem HasXO.mk'(F:Fun K x qual st f fd)(m:mg x=ae (.ref f))(b:Binds K fd ps [])(h:FnOk P w K mg base cx k f fd ps (nr S)):HasXO P w K mg base k x ps S:=⟨f,fd,h,b,m,F.kp⟩
def lU:Option (List (TK×Ad))->SV
 |none=>.w ⇑17
 |some kvs=>.odx kvs
section
variable{X:Cx}{e:Expr}{es:List Expr}{pos p:Pos}{tR:TA}{wR:dI}{te:TE}{we:DT}
def px(i:Nat)(S:j4)(w:dI):aJ:=λδ n K=>w δ n λxs n1=>S xs n1 λr n2=>K.nx (δ.set i (ae (lU r))) n2
theorem Rj(h:HasXO X.prog X.w X.K X.mg X.base k f ps S)(hr:Room k X.A)(hg:Gl X f)(hN:X.N.Nodup)(hi:X.N[i]?=ae x)(hx:gc X.env.scope x)(ha:DA X (e::es) tR wR)
  (hs:C5 (.Call (.Name f p) (e::es) [] cp) (ae ⇑47) pos.line X.env=pure ai:=by rfl) (hf:X.fn x=ah\/X.env.scope.names.lookup x=ae .local:=by first|exact .inl rfl|exact .inr rfl|assumption)
  (hdb:(f==("__debug__":Str))=ai:=by decide) (he:Av (e::es) X.env=⇑33::Av es X.env:=by rfl) (hpl:(C8 cp ⇑43).any (·.1)=ai:=by rfl):
  DS X (.Assign [.Name x pos'] (.Call (.Name f p) (e::es) [] cp) pos) (bQ (fU (nr S) [] E0 tR) (dH i)) (px i S wR):=by
 obtain⟨g,fd,h1,h2,h3,h4⟩:=h.ex;refine⟨gV hN hi hx (m9 h1 hr hg h3 h4 h2 .nil mn ha.pa hdb he hpl) hs hf,λC H B σ δ n K D R q E=>ha.sd C H B σ δ n _ _ R q λvs xs H1 n1 R1 k1 r1 q1=>?_⟩;refine⟨C.t,C.l,C.ns,B,xs,n1,_,R1.tp,R1.bt,R1.ba,by rw[Bp];exact r1,q1,λn' q2 H' T' k'=>?_,λkvs n' q2 a l' H' T' k' h0 h1' h2' h3'=>?_⟩
 ·exact E.nx _ _ _ _ _ ((R1.step T' k').set (x:=.d .none) .non rfl) q2
 ·refine E.nx _ _ _ _ _ (R.own (x:=.odx kvs) (R1.step T' k') (k1.trans k') (R1.was k1 h0) (by rw[h1'];exact λz=>nomatch z) rfl ?_) q2;exact⟨a,l',rfl,h1',.inr rfl,R.h0 (R1.was k1 h0),h2',h3'⟩
end
section
variable{P:Bh}{w:Bt}{K:Ah}{mg:Str->Option Ag}{base:Heap}
theorem Fun.okXO(F:Fun K x qual st f fd)(Sc:FnScope N ps (b8 st))(len:∀ws n Q,S ws n Q->ws.length=ps.length)
  (hbody:∀(cdv:Ag)(A:B1)(outer:List Env)(s:Ak)(H:Hp)(E:XK),Room k ⇑142->
   ∃T W,DSs (cO cx P w K mg base N qual (b8 st) f cdv A outer s H E).nox (fA st) T W/\∀ws n Q,S ws n Q->W (dw N ws) n {nx:=λ_ _=>False,rt:=λw n=>w=.d .none/\Q af n,rx:=λkvs n=>Q (ae kvs) n}):FnOk P w K mg base cx (k+1) f fd ps (nr S):=by
 refine F.ok Sc ⇑109 ⇑110
 ·obtain⟨t,l,ns,B,ws,n,Q0,_,_,_,r,q,_⟩:=h;rw[r.len];exact len ws n Q0 q
 ·obtain⟨t,l,ns,B,ws,n,Q0,T,bt,ba,r,q,kn,kk⟩:=h;obtain⟨T',W,d,hw⟩:=hbody cdv A outer s H E hr;refine⟨T',d.ps,d.sd ⟨t,l,ns,H,B,λ_=>af⟩ H B _ _ n _ _ (rX T bt ba r) (hw ws n Q0 q) ⟨?_,?_,?_,?_,?_,?_⟩⟩
  ·sleep 14
  ·intro H' B' σ δ n' v w' R' r' z;obtain⟨rfl,q'⟩:=z;have ev:v=.non:=by cases(show RdX H' B' v .none from r');rfl
   subst ev;exact kn n' q' H' R'.tp R'.kp
  ·sleep 14
  ·sleep 14
  ·exact λ_ _ _ _ _ _ _ _ _ _ _ _ _ z=>z.elim
  ·exact λH' B' σ δ n' a l' kvs R' h0 h1 h2 h3 q'=>kk _ _ q' a l' H' R'.tp R'.kp h0 h1 h2 (h3.move λb o e nb=>⟨e,λz=>nb (z.elim (λz=>.inl (R'.b0 b z)) .inr)⟩)
end
def pI(neg:Bool):Wv->Wv->Int->DQ->Prop:=λx y n Q=>(∃kvs,x=.dx kvs/\y=.d .none/\Q (.d (.bool neg)) n)\/jx neg x y n Q
theorem Lb:bB (λx y H Q=>y=.non/\Q (.bl (decide (x=.non))) H) (pI ai):=λC H B σ δ n x y p q Q Q' R rx ry h1 k=>by
 rcases h1 with⟨kvs,rfl,rfl,h1⟩|h1
 ·obtain⟨a,l,rfl,_⟩:=rx;cases(show RdX H B y .none from ry);exact⟨rfl,k _ (.d ⇑56) H n R ⇑19 (by rw[decide_eq_false ⇑61];exact .bl ai) h1⟩
 ·exact MW C H B σ δ n x y p q Q Q' R rx ry h1 k
end DL
namespace Nb
open PySem L2 DL
theorem tV(h:dv ds i=ae d)(q:Q (.d d) n):aV (.ln ds) (.d (.int i)) n Q:=by
 show(match dv ds i with|some d=>Q (.d d) n|none=>False);rw[h];exact q
theorem yO(h:fM a b=ae r)(q:Q ⇑71 n):b7 (.d a) (.d b) n Q:=by
 show(match fM a b with|some r=>Q ⇑71 n|none=>False);rw[h];exact q
abbrev dD(E:List (TK×Nat)):List (TK×Ad):=E.map λe=>(e.1,.int (e.2:Nat))
abbrev iz(E:List (TK×Nat)):List Ad:=E.map λe=>e.1.1
def f9(aft:TK->Nat->Option TK)(N:Nat)(s:TK):List Nat:=(A5 (N+1)).filter λi=>(aft s i).isSome
structure GoOk(Sm Sl:aR)(pd:Ad)(N:Nat)(aft:TK->Nat->Option TK)(Gd:TK->Prop):Prop where
 mv:∀(s:TK)(n:Int)(R:DQ),Gd s->R (.d (.list ((f9 aft N s).map λi=>.int (i:Nat)))) n->Sm [.d pd,.d s.1] n R
 go:∀(s:TK)(i:Nat)(b:TK)(n:Int)(R:DQ),Gd s->aft s i=ae b->R (.d b.1) n->Sl [.d pd,.d s.1,.d ⇑59] n R
 tup:∀k:TK,Gd k->∃ds,k.1=.tuple ds
 good:∀(s:TK)(i:Nat)(b:TK),Gd s->i<=N->aft s i=ae b->Gd b
structure GoL(Sm Sl:aR)(pd:Ad)(N:Nat)(aft:TK->Nat->Option TK)(Gk:Nat->TK->Prop):Prop where
 mv:∀(c:Nat)(s:TK)(n:Int)(R:DQ),Gk (c+1) s->R (.d (.list ((f9 aft N s).map λi=>.int (i:Nat)))) n->Sm [.d pd,.d s.1] n R
 go:∀(c:Nat)(s:TK)(i:Nat)(b:TK)(n:Int)(R:DQ),Gk (c+1) s->aft s i=ae b->R (.d b.1) n->Sl [.d pd,.d s.1,.d ⇑59] n R
 tup:∀(c:Nat)(k:TK),Gk c k->∃ds,k.1=.tuple ds
 good:∀(c:Nat)(s:TK)(i:Nat)(b:TK),Gk (c+1) s->i<=N->aft s i=ae b->Gk c b
theorem xE{Gk:Nat->TK->Prop}(A:∀(c:Nat) (s:TK) (i:Nat) (b:TK),Gk (c+1) s->i<=N->aft s i=ae b->Gk c b)(h0:Gk (M+1) s0):∀j,(El aft N s0 j).length<=M->∀e∈El aft N s0 j,e.2 < (El aft N s0 j).length/\Gk (M+1-e.2) e.1
 |0=>λ_ e he=>by obtain rfl:e=(s0,0):=(by simpa[El]using he);exact⟨Nat.zero_lt_one,h0⟩
 |j+1=>by
  have ih:=xE A h0 j;show(match (El aft N s0 j)[j]? with|some s=>dM aft N ⇑50 s|none=>El aft N s0 j).length<=M->∀e∈(match (El aft N s0 j)[j]? with|some s=>dM aft N ⇑50 s|none=>El aft N s0 j),e.2 < (match (El aft N s0 j)[j]? with|some s=>dM aft N ⇑50 s|none=>El aft N s0 j).length/\_;cases es:(El aft N s0 j)[j]? with
  |none=>exact ih
  |some s=>
   dsimp only;have key:∀(is:List Nat)(E:List (TK×Nat)),(∀i∈is,i<=N)->s∈E->(is.foldl (dS aft s) E).length<=M->(∀e∈E,e.2 < E.length/\Gk (M+1-e.2) e.1)->∀e∈is.foldl (dS aft s) E,e.2 < (is.foldl (dS aft s) E).length/\Gk (M+1-e.2) e.1:=by
    intro is
    induction is with
    |nil=>exact λE _ _ _ h=>h
    |cons i is ih2=>
     intro E hi hs hl h;rw[Ef]at hl ⊢;have hp:E <+: dS aft s E i:=nt s E i;refine ih2 _ (λx hx=>hi x (Ap _ hx)) (hp.subset hs) hl ?_;have hE:(dS aft s E i).length<=M:=Bj (mH _ (nt s) is _).length_le hl;unfold dS at hE ⊢;cases ea:aft s.1 i with
     |none=>exact h
     |some b=>
      rw[ea]at hE;dsimp only at hE ⊢
      split
      ·exact h
      ·rename_i z;rw[if_neg z,An,A3]at hE;rw[An,A3];intro e he;rcases A9.mp he with he|he
       ·exact⟨by have:=(h e he).1;omega,(h e he).2⟩
       ·obtain rfl:e=(b,s.2+1):=by simpa using he
        obtain⟨h1,h2⟩:=h s hs;refine⟨by show s.2+1 < _;omega,?_⟩;rw[show M+1-s.2=(M+1-(s.2+1))+1 by omega]at h2;exact A _ s.1 i b h2 (hi i Au) ea
   intro hl;exact key _ _ (λi hi=>Gs (Cb.mp hi)) (A0 es) hl (ih (Bj (Io _ s).length_le hl))
def pQ(Sm Sl:aR):j4:=λws n Q=>∃(pd:Ad)(s0:TK)(M:Nat)(N:Nat)(aft:TK->Nat->Option TK)(Gk:Nat->TK->Prop),ws=[.d pd,.d s0.1,.d (.int (M:Nat))]/\GoL Sm Sl pd N aft Gk/\Gk (M+1) s0/\1<=M/\M<=900/\Q af n /\
 ∀J,(El aft N s0 J).length<=J->(El aft N s0 J).length<=M->Q (ae (dD (El aft N s0 J))) n
theorem P8(E:List (TK×Nat)):(dD E).map (·.1)=E.map (·.1):=by rw[B7];rfl
theorem tq:∀(is:List Nat)(E:List (TK×Nat)),(is.filter λi=>(aft s.1 i).isSome).foldl (dS aft s) E=is.foldl (dS aft s) E
 |[],_=>rfl
 |i::is,E=>by
  rw[D4];cases e:aft s.1 i with
  |none=>
   rw[if_neg (by simp),Ef,tq is]
   congr 1
   unfold dS;rw[e]
  |some b=>rw[if_pos (by simp),Ef,Ef,tq is]
theorem yD(nd:(E.map (·.1)).Nodup)(h:s∈E):bc (dD E) s.1=ae (.int (s.2:Nat)):=by
 induction E with
 |nil=>exact nomatch h
 |cons e E ih=>
  rw[Bc,Ee]at nd;rcases Ax.mp h with rfl|h
  ·simp[bc,dD]
  ·have ne:¬e.1=s.1:=λz=>nd.1 (z▸Bf.mpr ⟨s,h,rfl⟩);have:=ih nd.2 h;unfold bc at this ⊢;rw[dD,Bc,Bg];simp only[ne,decide_false];exact this
theorem Ib(nd:(E.map (·.1)).Nodup):((dS aft s E i).map (·.1)).Nodup:=by
 unfold dS
 split
 ·exact nd
 ·split
  ·exact nd
  ·rename_i z;rw[A7,List.nodup_append];refine⟨nd,by simp,λa ha b hb=>?_⟩;obtain rfl:=by simpa using hb
   exact λe=>z (e▸ha)
abbrev mY(Sm Sl:aR):aJ:=aq (aw 7 (aC Sl (ao ↥0 (ao ⇑125 ⇑66)))) (aL (cT (w2 ↥7 (dg 3) (jn ah))) (aq (aL (cT (w2 (wB eZ (ao (cS 4) ak)) ↥2 b7)) (az ⇑15) aG) (aq (nH 3 ↥7 (w2 (w2 (dg 3) ⇑125 iO) ⇑1 ⇑36)) (a8 4 ↥7))) aG)
abbrev ic(pd:Ad)(s0:TK)(M j:Nat)(E:List (TK×Nat))(o6 o7:Option SV):Sl:=[↑pd,↑s0.1,↑(.int (M:Nat)),ae (.odx (dD E)),ae (.own (iz E)),↑(.int (j:Nat)),o6,o7]
theorem JU{Sm Sl:aR}(A:GoL Sm Sl pd N aft Gk)(hs:E[j]?=ae s)(gs:Gk (c+1) s.1)(nd:(E.map (·.1)).Nodup)(hi:i<=N)(e:aft s.1 i=ae b)(hM:E.length<=M)(hM2:M<=900)
  (k0:K.rt ⇑17 n) (k1:∀o,(dS aft s E i).length<=M->K.nx (ic pd s0 M j (dS aft s E i) (↑⇑59) o) n):mY Sm Sl (ic pd s0 M j E (↑⇑59) o7) n K:=by
 have hat:dv (iz E) (j:Int)=ae s.1.1:=fL (by rw[Am,hs];rfl);have gb:=A.good _ s.1 i b gs hi e;show aV (.ln (iz E)) (.d (.int (j:Nat))) n (λx n1=>Sl [.d pd,x,.d ⇑59] n1 _);refine tV hat ?_;refine A.go _ s.1 i b n _ gs e ?_;refine⟨dD E,b.1,b,.inl rfl,rfl,⟨rfl,A.tup _ b gb⟩,?_⟩;have hd:(bc (dD E) b).isSome=decide (b∈E.map (·.1)):=by
  have:=kj (dD E) b;rw[P8]at this;by_cases z:b∈E.map (·.1)
  ·rw[decide_eq_true z];exact this.mpr z
  ·rw[decide_eq_false z];cases q:(bc (dD E) b).isSome with
   |false=>rfl
   |true=>exact absurd (this.mp q) z
 rw[hd];by_cases z:b∈E.map (·.1)
 ·rw[decide_eq_true z];have ed:dS aft s E i=E:=by unfold dS;rw[e];dsimp only;rw[if_pos z]
  rw[ed]at k1;exact k1 _ hM
 ·rw[decide_eq_false z];have ed:dS aft s E i=E++[(b,s.2+1)]:=by unfold dS;rw[e];dsimp only;rw[if_neg z]
  rw[ed]at k1;have step:aq (aL (cT (w2 (wB eZ (ao (cS 4) ak)) ↥2 b7)) (az ⇑15) aG) (aq (nH 3 ↥7 (w2 (w2 (dg 3) ⇑125 iO) ⇑1 ⇑36)) (a8 4 ↥7)) (ic pd s0 M j E (↑⇑59) (↑b.1)) n K:=by
   by_cases hl:E.length=M
   ·have:fM (.int ((iz E).length:Int)) (.int (M:Nat))=ae ah:=by
     rw[Aa,hl];simp[fM]
    dsimp only[aq,aL,cT,w2,wB,ao,ak,cS,aj,ic,eZ,B5,B4];refine yO this ?_;exact k0
   ·have:fM (.int ((iz E).length:Int)) (.int (M:Nat))=ae ai:=by
     rw[Aa];simp[fM];omega
    dsimp only[aq,aL,cT,w2,wB,ao,ak,cS,aj,ic,eZ,B5,B4];refine yO this ?_;dsimp only;sleep 7;dsimp only[aG,nH,w2,dg,cS,aj,B5,B4];refine tV hat ?_;refine⟨dD E,s.1.1,s.1,.int (s.2:Nat),.inl rfl,rfl,⟨rfl,A.tup _ s.1 gs⟩,yD nd (A0 hs),?_⟩;refine⟨dD E,rfl,b,_,b.1,rfl,rfl,⟨rfl,A.tup _ b gb⟩,by rw[Aa];omega,?_⟩;have ep:g9 (dD E) b (.int ((s.2:Nat)+1:Int))=dD (E++[(b,s.2+1)]):=by
     unfold g9;rw[if_neg (by rw[hd,decide_eq_false z];decide),dD,dD,A7];rfl
    show(iz E).length < 1000000/\_;refine⟨by rw[Aa];omega,?_⟩;have:=k1 (↑b.1) (by rw[An,A3];omega);rw[ic,iz,A7]at this;rw[ep];exact this
  exact step
theorem DO{Sm Sl:aR}(A:GoL Sm Sl pd N aft Gk)(gs:Gk (c+1) s.1)(hM2:M<=900)(k0:K.rt ⇑17 n):
  ∀(is:List Nat)(E:List (TK×Nat))(o6 o7:Option SV),(∀i∈is,i<=N/\(aft s.1 i).isSome=ah)->E[j]?=ae s->(E.map (·.1)).Nodup->E.length<=M->
   (∀o6 o7,(is.foldl (dS aft s) E).length<=M->((is.foldl (dS aft s) E).map (·.1)).Nodup->K.nx (ic pd s0 M j (is.foldl (dS aft s) E) o6 o7) n)->c8 (aD 6) (mY Sm Sl) K (is.map λi=>.int (i:Nat)) (ic pd s0 M j E o6 o7) n
 |[],E,o6,o7,_,_,nd,hM,k1=>k1 o6 o7 hM nd
 |i::is,E,o6,o7,hi,hs,nd,hM,k1=>by
  obtain⟨h1,h2⟩:=hi i Au;obtain⟨b,e⟩:=D3.mp h2;show mY Sm Sl (ic pd s0 M j E (↑⇑59) o7) n {K with nx:=c8 (aD 6) (mY Sm Sl) K (is.map λi=>.int (i:Nat)),ct:=c8 (aD 6) (mY Sm Sl) K (is.map λi=>.int (i:Nat)),bk:=K.nx};refine JU A hs gs nd h1 e hM hM2 k0 λo hl=>?_;exact DO A gs hM2 k0 is _ _ o (λx hx=>hi x (Ap _ hx)) (by rw[nY (nt s E i) (Ar.mp hs).1];exact hs) (Ib nd) hl k1
abbrev Za:List Str:=["_law_programs","_law_stand_here","_law_most","_law_found","_law_line","_law_at","_law_mover","_law_behind"]
theorem MH(Sm Sl)(ws)(n)(Q)(h:pQ Sm Sl ws n Q):
  (aq (ph 3 ↥1 ⇑0) (aq (bo 4 (aQ ⇑26)) (aq (aw 5 ⇑0) (aq (jb (cT (w2 ↥5 (wB eZ (ao (cS 4) ak)) gf)) (aq (aU (gm (aC Sm (ao ↥0 (ao ⇑125 ak)))) (aD 6) (mY Sm Sl)) (aw 5 (w2 ↥5 ⇑1 ⇑36)))) (mG 3)))))
   (dw Za ws) n {nx:=λ_ _=>False,rt:=λw n=>w=.d .none/\Q af n,rx:=λkvs n=>Q (ae kvs) n}:=by
 obtain⟨pd,s0,M,N,aft,Gk,rfl,A,g0,hM1,hM2,q0,q1⟩:=h;refine⟨s0,.int 0,s0.1,rfl,rfl,⟨rfl,A.tup _ s0 g0⟩,?_⟩;refine⟨show 1<=1000 by decide,?_⟩;show jb _ _ (ic pd s0 M 0 (El aft N s0 0) af af) n _;refine⟨λk δ n'=>∃j o6 o7,k=M+1-j/\n'=n/\j<=(El aft N s0 j).length/\(El aft N s0 j).length<=M/\((El aft N s0 j).map (·.1)).Nodup/\δ=ic pd s0 M j ⇑50 o6 o7,⟨M+1,0,af,af,rfl,rfl,A6 _,hM1,by simp[El],rfl⟩,?_⟩
 rintro k δ n' ⟨j,o6,o7,rfl,rfl,hj,hM,nd,rfl⟩
 by_cases z:j < (El aft N s0 j).length
 ·have hs:(El aft N s0 j)[j]?=ae (El aft N s0 j)[j]:=Ae z;have hat:dv (iz ⇑50) (j:Int)=ae (El aft N s0 j)[j].1.1:=fL (by rw[Am,hs];rfl);have gs:Gk ((M-(El aft N s0 j)[j].2)+1) (El aft N s0 j)[j].1:=by
   obtain⟨h1,h2⟩:=xE A.good g0 j hM _ (Cq z);rw[show M-(El aft N s0 j)[j].2+1=M+1-(El aft N s0 j)[j].2 by omega];exact h2
  have ht:decide ((j:Int) < ((iz ⇑50).length:Int))=ah:=decide_eq_true ⇑22;have eN:El aft N s0 (j+1)=(f9 aft N (El aft N s0 j)[j].1).foldl (dS aft (El aft N s0 j)[j]) ⇑50:=by
   show(match (El aft N s0 j)[j]? with|some s=>dM aft N ⇑50 s|none=>El aft N s0 j)=_;rw[hs];unfold f9;rw[tq];rfl
  show(if decide ((j:Int) < ((iz ⇑50).length:Int))=ah then _ else _);rw[ht,if_pos rfl];dsimp only[aq,aU,gm,aC,ao,ak,w2,cS,aj,ic,B5,B4];refine tV hat (A.mv _ _ n' _ gs ?_);refine DO A gs hM2 ?_ _ _ _ _ (λi hi=>?_) hs nd hM λo6 o7 hl nd'=>?_
  ·exact⟨rfl,q0⟩
  ·obtain⟨h1,h2⟩:=Da.mp hi;exact⟨Gs (Cb.mp h1),h2⟩
  ·rw[<-eN]at hl nd' ⊢;have hle:(El aft N s0 j).length<=(El aft N s0 (j+1)).length:=by rw[eN];exact(mH _ (nt _) _ _).length_le
   exact⟨M+1-(j+1),by omega,j+1,o6,o7,rfl,rfl,by omega,hl,nd',rfl⟩
 ·have ht:decide ((j:Int) < ((iz ⇑50).length:Int))=ai:=decide_eq_false ⇑22;show(if decide ((j:Int) < ((iz ⇑50).length:Int))=ah then _ else _);rw[ht,if_neg ∎];exact q1 j (Nat.le_of_not_lt z) hM
def m8(Sm Sl:aR):aR:=λws n Q=>∃(pd:Ad)(s b:TK)(ms:List Nat)(N:Nat)(aft:TK->Nat->Option TK)(Gd:TK->Prop),ws=[.d pd,.d s.1,.d (.list (ms.map λi=>.int (i:Nat)))]/\GoOk Sm Sl pd N aft Gd/\Gd s/\(∀i∈ms,i<=N)/\gY aft s ms=ae b/\Q (.d b.1) n
theorem JA{is:List Nat}(h:i∈is):bS ⇑59 (is.map λi=>.int (i:Nat))=ah:=by
 unfold bS;rw[List.any_map,Dc];exact⟨i,h,by simp[qf]⟩
theorem OJ(is:List Nat):(is.map λi=>Ff (i:Nat)).all fB=ah:=by
 rw[List.all_map,Dq];exact λ_ _=>rfl
abbrev Zh:List Str:=["_law_programs","_law_stand_here","_law_movers_here","_law_mover"]
theorem Uq(Sm Sl)(ws)(n)(Q)(h:m8 Sm Sl ws n Q):
  (aq (aU (gm ↥2) (aD 3) (aq (aL (ft (cT (bV "bool" ↥3)) (ft (cy (cT (bV "int" ↥3))) (cT (w2 ↥3 (aC Sm (ao ↥0 ⇑26)) (fc ah))))) (az ⇑15) aG) (aw 1 (aC Sl (ao ↥0 (ao ↥1 ⇑67)))))) (az ↥1)) (dw Zh ws) n {nx:=λ_ _=>False,rt:=Q}:=by
 obtain⟨pd,s,b,ms,N,aft,Gd,rfl,A,gs,hm,hw,q⟩:=h;have loop:∀(is:List Nat)(s:TK)(d2:Ad)(o:Option SV),Gd s->(∀i∈is,i<=N)->gY aft s is=ae b->
   c8 (aD 3) (aq (aL (ft (cT (bV "bool" ↥3)) (ft (cy (cT (bV "int" ↥3))) (cT (w2 ↥3 (aC Sm (ao ↥0 ⇑26)) (fc ah))))) (az ⇑15) aG) (aw 1 (aC Sl (ao ↥0 (ao ↥1 ⇑67))))) {nx:=λδ n=>az ↥1 δ n {nx:=λ_ _=>False,rt:=Q},rt:=Q} (is.map λi=>.int (i:Nat)) [↑pd,↑s.1,↑d2,o] n:=by
  intro is
  induction is with
  |nil=>
   intro s d2 o _ _ hw;have e:s=b:=Bb hw;subst e;exact q
  |cons i is ih=>
   intro s d2 o gs hm hw;cases e:aft s i with
   |none=>rw[gY,e]at hw;cases hw
   |some c=>
    rw[gY,e]at hw;have hi:i<=N:=hm i Au;have mem:i∈f9 aft N s:=Da.mpr ⟨Cb.mpr (Nat.lt_succ_of_le hi),by rw[e];rfl⟩;rw[Bc];dsimp only[c8,aD,aq,aL,ft,cT,bV,aj,cy,w2,aC,ao,ak,Ao,B5,B4,fX];refine A.mv s n _ gs ?_;refine⟨rfl,OJ _,?_⟩;rw[JA mem];refine A.go s i c n _ gs e ?_;exact ih c d2 _ (A.good s i c gs hi e) (λx hx=>hm x (Ap _ hx)) hw
 exact loop ms s _ af gs hm hw
end Nb
namespace L2
open PySem PySem.Spec PyProof.Rows PySem.W
def lG(is:List Int)(i:Nat)(v:Ag):Prop:=∃k t,is[i]?=ae k/\v=.int k t
theorem Ja(h:Vals (is.map V.int) vs)(i)(v)(e:vs.toArray[i]?=ae v):lG is i v:=by
 have e':vs[i]?=ae v:=by simpa using e
 have hl:=h.length;rw[Aa]at hl;have hi:i < is.length:=by rw[hl];exact(Ar.mp e').1
 obtain⟨u,hu,ru⟩:=h.get (show(is.map V.int)[i]?=ae (V.int is[i]) by rw[Am,Ae hi];rfl);rw[e']at hu;cases hu;obtain⟨t,rfl⟩:=ru;exact⟨is[i],t,Ae hi,rfl⟩
def yp:List V->Hp->VK->Prop:=λxs H Q=>∃(a:Addr)(is:List Int),xs=[.ref a]/\H a=ae (.lst (is.map V.int))/\0 < is.length/\∀m,m∈is->(∀k∈is,m<=k)->Q (.int m) H
theorem Kk:CmpOf prog w A .Lt (lG is) (λi j=>decide (is.getD i 0 < is.getD j 0)):=by
 intro i j vi vj s Q E hi hj hQ;obtain⟨k,t,e1,rfl⟩:=hi;obtain⟨k',t',e2,rfl⟩:=hj;have c1:is.getD i 0=k:=by simp[e1]
 have c2:is.getD j 0=k':=by simp[e2]
 dsimp only at hQ;rw[c1,c2]at hQ;exact PyProof.Rows.lt_int hQ
theorem IP(hh:X.A.handled=af):CallR X (.builtin "min") yp:=by
 sleep 11;obtain⟨a,is,rfl,ha,h0,q⟩:=h;sleep 18;cases(show u=A4 a from ru);obtain⟨hl,vs,c,hv,hL⟩:=I.hok a _ ha;have hsz:vs.toArray.size=is.length:=by have:=hv.length;rw[Aa]at this;rw[A2,<-this]
 have il:s.heap.IsList a vs.toArray:=⟨_,hL,rfl,_,rfl⟩;have lt:a < s.heap.objs.size:=As hL;refine call_min_walk (Gz il ?_);have W:=Walks.list (prog:=X.prog) (w:=X.w) (A:=X.A.in1) hh s.heap.objs.size a (Bd lt) vs.toArray;refine⟨_,_,_,_,lG is,_,_,rfl,⟨W.sub,W.frame,λi s Q E hi st hQ=>W.item i s Q E hi st λv h' tk z a b=>hQ v h' tk (Ja hv i v z) a b,W.done,W.self⟩,⟨⟨_,Aw _ rfl,rfl,rfl⟩,il.push _⟩,λb hb=>?_,by rw[hsz];exact h0,Kk,λv h' tk hP hk=>?_⟩
 ·rw[Ci];rcases Ax.mp hb with rfl|hb
  ·exact Eo _
  ·rw[Ba.mp hb];exact Ed lt
 ·obtain⟨b1,b2⟩:=zQ (λa b:Int=>a < b) (λa=>Int.lt_irrefl a) (λa b c h1 h2=>Int.lt_trans h1 h2) (λi=>is.getD i 0) (vs.toArray.size-1);obtain⟨k,t,e1,rfl⟩:=hP;have kp:∀b o,s.heap.get? b=ae o->h'.get? b=ae o:=λb o e=>hk b o (λz=>D7 _ (by have:=As e;rw[Ba.mp z]at this;exact this)) (Af _ e);refine⟨.int k,H,I.kept kp,⟨t,rfl⟩,q k (A0 e1) λk' hk'=>?_⟩;obtain⟨j,hj⟩:=Bz.mp hk';have hjl:=(Ar.mp hj).1;have:=b2 j (by rw[hsz];omega);have c1:is.getD j 0=k':=by simp[hj]
  have c2:is.getD (argBest (λi j=>decide (is.getD i 0 < is.getD j 0)) (vs.toArray.size-1)) 0=k:=by rw[Hh,e1];rfl
  rw[c1,c2]at this;exact Int.not_lt.mp this
end L2
namespace DL
open PySem L2 Nb
def uQ:List Wv->Int->DQ->Prop:=λxs n Q=>∃is:List Int,xs=[.d (.list (is.map .int))]/\0 < is.length/\∀m,m∈is->(∀k∈is,m<=k)->Q (.d (.int m)) n
theorem yI:∀{xs:List V}{is:List Int},RdXs H B xs (is.map .int)->xs=is.map V.int
 |_,[],.nil=>rfl
 |_::_,i::is,.cons h t=>by cases h;rw[yI t];rfl
theorem Qg:dU yp uQ:=λC H B σ δ n vs xs Q Q' R r h k=>by
 obtain⟨is,rfl,h0,q⟩:=h;cases r with
 |@cons v _ _ _ h t=>
  cases t;cases(show RdX H B v (.list (is.map .int))from h)with
  |@lst a ys _ e1 e2 e3 e4=>
   refine⟨a,is,rfl,by rw[e1,yI e4],h0,λm hm hk=>k _ (.d (.int m)) H n R ⇑19 (.int m) (q m hm hk)⟩
end DL
namespace Nb
open PySem L2 DL
theorem ue{see:TK->Bool}(nd:(E.map (·.1)).Nodup)(tp:∀e∈E,∃ds,e.1.1=.tuple ds)(hs:∀e∈E,∀(n:Int) (R:DQ),R (.d (.bool (see e.1))) n->Ss [.d pd,.d e.1.1,.d sg] n R):
  ∀(es:List (TK×Nat))(acc:List Ad)(o:Option SV),(∀e∈es,e∈E)->Q (acc++(es.filter λe=>see e.1).map λe=>.int (e.2:Nat)) n->
   cJ (aD 0) (cT (aC Ss (ao ↥2 (ao ↥0 ⇑67)))) (w2 (dg 1) ↥0 iO) Q (es.map λe=>e.1.1) acc [o,ae (.w (.ob (.y (dD E)))),↑pd,↑sg] n
 |[],acc,o,_,q=>by rw[List.filter_nil,Ei,Bp]at q;exact q
 |e::es,acc,o,hE,q=>by
  rw[Bc];dsimp only[cJ,aD,cT,aC,ao,ak,aj,Ao,B5,B4];have he:=hE e Au;refine hs e he n _ ?_;rw[D4]at q;cases z:see e.1 with
  |false=>
   rw[z,if_neg ∎]at q;exact ue nd tp hs es acc _ (λx hx=>hE x (Ap _ hx)) q
  |true=>
   rw[z,if_pos rfl]at q;refine⟨dD E,e.1.1,e.1,.int (e.2:Nat),.inr rfl,rfl,⟨rfl,tp e he⟩,yD nd he,?_⟩;refine ue nd tp hs es _ _ (λx hx=>hE x (Ap _ hx)) ?_;rw[Bm];exact q
def j9(Ss Sm Sl:aR):aR:=λws n Q=>∃(pd:Ad)(s0:TK)(sg told:Ad)(E:List (TK×Nat))(N:Nat)(aft:TK->Nat->Option TK)(Gd:TK->Prop)(see:TK->Bool),ws=[.d pd,.d s0.1,.d sg,.ob (.y (dD E)),.d told]/\GoOk Sm Sl pd N aft Gd/\Gd s0/\E.length<=900/\(E.map (·.1)).Nodup/\(∀e∈E,Gd e.1)/\(E.map (·.2)).Pairwise (·<=·) /\
 (∀e∈E,∀(n:Int)(R:DQ),R (.d (.bool (see e.1))) n->Ss [.d pd,.d e.1.1,.d sg] n R) /\
 ((told=.none/\∀e∈E,see e.1=ai)\/∃(i:Nat)(e:TK×Nat)(ms:List Nat),told=.list (ms.map λi=>.int (i:Nat))/\E[i]?=ae e/\see e.1=ah/\(∀j x,j < i->E[j]?=ae x->see x.1=ai)/\ms.length=e.2/\gY aft s0 ms=ae e.1/\∀x∈ms,x<=N)/\Q (.d ⇑32) n
theorem OS(h:pF a b=ae r)(q:Q ⇑71 n):fF (.d a) (.d b) n Q:=by
 show(match pF a b with|some r=>Q ⇑71 n|none=>False);rw[h];exact q
abbrev Zb:List Str:=["_law_programs","_law_stand_here","_law_sight_here","_law_due","_law_told","_law_moves","_law_last"]
theorem Sx(Ss Sm Sl)(ws)(n)(Q)(h:j9 Ss Sm Sl ws n Q):
  (aq (aw 5 (bj (cg [af,ae 3,ae 0,ae 2] (p9 (dg 3)) (aD 0) (cT (aC Ss (ao ↥2 (ao ↥0 ⇑67)))) (w2 (dg 1) ↥0 iO)))) (aq (aL (cT (w2 ↥5 ⇑72 aZ)) (az (w2 ↥4 ⇑15 (bh ai))) aG) (aq (aL (ft (cy (cT (bV "list" ↥4))) (cT (w2 (wB bg ⇑38) (wB uQ ⇑51) fF))) (az (wC ⇑56)) aG) (aq (aw 6 (aC (m8 Sm Sl) (ao ↥0 (ao ↥1 ⇑38)))) (az (dC (w2 ↥6 ⇑15 (bh ah)) (aC Ss (ao ↥0 (ao ↥6 ⇑37))))))))) (dw Zb ws) n {nx:=λ_ _=>False,rt:=Q}:=by
 obtain⟨pd,s0,sg,told,E,N,aft,Gd,see,rfl,A,g0,hl,nd,gd,so,hs,hc,q⟩:=h;refine⟨dD E,rfl,by rw[Aa];omega,?_⟩;have em:((dD E).map λp=>p.1.1)=E.map λe=>e.1.1:=by rw[B7];rfl
 rw[em];refine ue nd (λe he=>A.tup e.1 (gd e he)) hs E [] af (λ_ h=>h) ?_;rw[Bu];rcases hc with⟨rfl,hf⟩|⟨i,e,ms,rfl,hi,hse,hb,hms,hw,hN⟩
 ·have:(E.filter λe=>see e.1)=[]:=List.filter_eq_nil_iff.mpr λe he=>by rw[hf e he];decide
  rw[this];exact⟨A6 _,q⟩
 ·have he:e∈E.filter λe=>see e.1:=Da.mpr ⟨A0 hi,hse⟩;generalize hF:(E.filter λe=>see e.1)=F at he;have hle:∀x∈F,e.2<=x.2:=λx hx=>by
   rw[<-hF]at hx;obtain⟨hx1,hx2⟩:=Da.mp hx;obtain⟨j,hj⟩:=Bz.mp hx1;by_cases z:j < i
   ·rw[hb j x z hj]at hx2;cases hx2
   ·obtain⟨a1,a2⟩:=Ar.mp hi;obtain⟨b1,b2⟩:=Ar.mp hj;by_cases y:i=j
    ·subst y;rw[<-a2,<-b2];exact Aq _
    ·have:=Ho.mp so i j (by rw[Aa];exact a1) (by rw[Aa];exact b1) ⋯;rw[Gy,Gy,a2,b2]at this;exact this
  cases F with
  |nil=>exact nomatch he
  |cons f F=>
   refine⟨A6 _,?_⟩;refine⟨(f::F).map λe=>((e.2:Nat):Int),by rw[B7];rfl,by simp,λm hm hk=>?_⟩;have e1:m=((e.2:Nat):Int):=by
    have h1:=hk _ (Bf.mpr ⟨e,he,rfl⟩);obtain⟨x,hx,rfl⟩:=Bf.mp hm;have h2:=hle x hx;omega
   subst e1;have e2:pF (.int ((ms.map λi=>Ff (i:Nat)).length:Int)) (.int ((e.2:Nat):Int))=ae ai:=by
    rw[Aa,hms];simp[pF,fM]
   refine OS e2 ?_;refine⟨pd,s0,e.1,ms,N,aft,Gd,rfl,A,g0,hN,hw,?_⟩;obtain⟨ds,hds⟩:=A.tup e.1 (gd e (A0 hi));have nn:eU e.1.1=ai:=by rw[hds];rfl
   show az (dC (w2 ↥6 ⇑15 (bh ah)) (aC Ss (ao ↥0 (ao ↥6 ⇑37)))) [↑pd,↑s0.1,↑sg,ae (.w (.ob (.y (dD E)))),↑(.list (ms.map λi=>.int (i:Nat))),↑(.list ((f::F).map λe=>.int (e.2:Nat))),↑e.1.1] n {nx:=λ_ _=>False,rt:=Q};dsimp only[az,dC,w2,aj,bh,wC,aC,ao,ak,Ao,B5,B4];rw[nn];refine hs e (A0 hi) n _ ?_;rw[hse];exact q
end Nb
namespace DL
open PySem L2 Nb
def GR(T:TS):TS:=λD σ H=>T D σ H\/kW T D σ H
theorem M6(h:PSs X b T):PSs X b (GR T):=λpins s σ H D I q=>q.elim (h pins s σ H D I) (DV h pins s σ H D I)
def pG(i:Nat)(W:aJ):aJ:=λδ n K=>match δ[i]? with
 |some (ae (.odx m))=>W (δ.set i (ae ⇑113)) n K
 |some (ae (.w _))=>W δ n K
 |_=>False
theorem Q5(i)(h:DSs X l T W):DSs X l (GR T) (pG i W):=⟨M6 h.ps,λC H B σ δ n K D R q E=>by
 unfold pG at q
 split at q
 ·rename_i m e;obtain⟨a,l,hσ,e2,hb,h0,hat,rf⟩:=R.fzX e;exact .inr ⟨a,l,e2,λo=>h.sd C _ _ σ _ n K D (rf o) q E⟩
 ·exact .inl (h.sd C H B σ δ n K D R q E)
 ·exact q.elim⟩
def PM:List Wv->Int->DQ->Prop:=λxs n Q=>∃(x:Wv)(kvs:List (TK×Ad)),xs=[x]/\iJ x kvs/\Q (.d (.int (kvs.length:Int))) n
theorem CW:dU AG PM:=λC H B σ δ n vs xs Q Q' R r g k=>by
 obtain⟨x,kvs,rfl,hx,q⟩:=g;cases r with
 |cons h t=>
  cases t;obtain⟨a,l,rfl,g1,g2,g3⟩:=WRel.rdX R.bt hx h;refine⟨a,l,rfl,g1,?_⟩;rw[RdY.len g3];exact k _ (.d (.int _)) H n R ⇑19 (.int _) q
end DL
namespace L2
open PySem
section
variable{X:Cx}{pos:Pos}
def lS(K:Ah)(n:Nat)(t:gj):TG:=λv σ H Q=>∃a xs,v=.ref a/\SqL K H a xs/\xs.length=n/\t xs σ H Q
theorem Rf{k:Nat}(hc:X.calm=ah)(h:mO X es t)
  (hn:(C0 es X.env).length=n:=by rfl) (hst:(C0 es X.env).findIdx? (·.1)=af:=by rfl):PG X (.Tuple es k pos) (lS X.K n t):=by
 intro pins s σ H v u Q I r hw;obtain⟨a,xs,e1,hq,hl,hw⟩:=hw;subst e1;cases r;obtain⟨its,rv,pl,hz⟩:=I.list hq;rw[PyProof.Rows.assign_Tuple];refine Ab (wpAny_standAt ?_);unfold unpack;have hn':(C0 es X.env).length=its.toArray.size:=by simp[hn,<-hl,rv.length]
 rw[hn',hst];refine Ab (Cf (PySem.W.kun_itemsOf (I.ok.hd hc) pl.isList λh' hx=>?_));have I1:Inv X pins σ H {s with heap:=h'}:=I.kept (t':=s.toks) λb o e=>hx b o (Bd (As e)) e;exact h pins _ σ H xs _ Q I1 (by simpa using rv) hw
end
end L2
namespace DL
open PySem L2
def sk(n:Nat)(r:dB):eQ:=λd δ Q=>match d with
 |.list ds=>ds.length=n/\r ds δ Q
 |_=>False
section
variable{X:Cx}{pos:Pos}{K:Ah}
theorem Oh{k:Nat}{n:Nat}(h:DGs X es t r)(hc:X.calm=ah:=by rfl)
  (hn:(C0 es X.env).length=n:=by rfl) (hst:(C0 es X.env).findIdx? (·.1)=af:=by rfl):DG X (.Tuple es k pos) (lS X.K n t) (sk n r):=⟨Rf hc h.pg hn hst,λC H B σ δ n' x d Q Q' R rr q k=>by
 unfold sk at q
 split at q
 ·rename_i ds;cases rr with
  |@lst ay ys _ e1 e2 e3 e4=>exact⟨ay,ys,rfl,SqL.of e1,by rw[e4.len];exact q.1,h.sd C H B σ δ n' _ _ _ _ R e4 q.2 k⟩
 ·exact q.elim⟩
theorem QW{k:Nat}{n:Nat}(h:DGs X es t r)(hc:X.calm=ah:=by rfl)(hK:X.K=K:=by rfl)
  (hn:(C0 es X.env).length=n:=by rfl) (hst:(C0 es X.env).findIdx? (·.1)=af:=by rfl):DG X (.Tuple es k pos) (lS K n t) (sk n r):=by subst hK;exact Oh h hc hn hst
end
end DL
namespace Nb
open PySem L2 DL
abbrev TZ:aJ:=(az (dC (bV "int" ↥0) (iR (bV "bool" ↥0))))
abbrev z9:aJ:=(aq (aw 4 ⇑42) (aq (aL (cT (w2 ↥4 ⇑73 aZ)) (az (w2 ⇑30 ↥1 aZ)) aG) (aq (aL (cT (w2 ↥4 (wC (.str "word")) aZ)) (az (bV "str" ↥1)) aG) (aq (aL (cT (w2 ↥4 (wC (.str "number")) aZ)) (az (bV "int" ↥1)) aG) (aq (aL (cT (w2 ↥4 (wC ⇑45) aZ)) (az (dC (w2 ⇑30 (dG 2) (fe ai)) (w2 (w2 (dG 2) ⇑30 gi) ↥1 aZ))) aG) (aq (aL (cT (w2 ↥4 ⇑52 aZ)) (az (CV (w2 ⇑30 (dG 3) (fe ah)) (w2 (w2 (dG 3) ⇑30 gi) ↥1 aZ))) aG) (az (wC ⇑32))))))))
abbrev xH:aJ:=(aq (aL (cT (w2 (wB bg ⇑40) (wB bg ⇑26) fF)) (az ⇑15) aG) (aq (jZ 3 (j3 ↥2)) (aq (jZ 4 lP) (aq (aU (p6 ↥0 ↥1) (eC 2 (bG (aD 5) (bG (aD 6) cM))) (aq (aL (cy (cT (aC jI (ao ↥5 (ao ↥6 (ao (dG 3) (ao (dG 4) ak))))))) (az ⇑15) aG) (aL (cT (w2 (w2 ↥5 ⇑0 av) ⇑52 aZ)) (aq (m5 4 ⇑114 ↥6) (m5 3 ⇑114 ↥6)) aG))) (az (wB eG (ao (bj (yo (dG 3))) ak)))))))
abbrev zB:aJ:=(aq (aL (cT (bV "str" ↥0)) (az ↥0) aG) (az (eu (cT (w2 ↥0 ⇑99 aZ)) ⇑0 (w2 ↥0 ⇑1 ⇑36))))
abbrev CC:aJ:=(aq (aL (cT (w2 ⇑42 ⇑73 aZ)) (az ⇑30) aG) (aq (aw 2 (w2 (dG 1) ⇑30 gi)) (az (eu (cT (w2 ⇑42 (wC (.str "next")) aZ)) (aC wX ⇑37) ↥2))))
abbrev Ik:aJ:=(aq (jZ 2 (j3 ↥1)) (az (wB eG (ao (bj (cg [af,ae 2] (c9 ↥0) (aD 0) bJ (aC oS (ao ↥0 (ao (dG 1) ak))))) ak))))
abbrev yW:aJ:=(az (dC (aC w6 ⇑40) (qp m3 m3 ⇑0 ↥0 ↥1)))
abbrev zu:aJ:=(aq (aw 3 (w2 (w2 ⇑53 ↥2 av) ⇑0 av)) (aq (aw 4 (w2 (w2 ⇑53 ↥2 av) ⇑1 av)) (aq (aw 5 (w2 (w2 ⇑115 ↥3 av) ⇑1 av)) (az (eu (cT (w2 ↥4 (wB bg ⇑51) gf)) (w2 ↥5 ↥4 av) ⇑15)))))
abbrev Zf:List Str:=["take","read","look"]
abbrev HN:aJ:=(aq (aw 3 (aC mq (ao ↥0 (ao ↥1 ⇑37)))) (aq (aL (ft (cT (w2 ↥3 ⇑15 (bh ai))) (cT (nK Zf ⇑74))) (az ⇑15) aG) (aq (aw 4 (w2 (w2 ⇑53 ↥2 av) ⇑2 av)) (aq (ql 5) (aq (aU (uT (w2 ↥1 ⇑1 av)) (eC 2 (bG (aD 6) (bG (aD 7) cM))) (aL (cT (qr 5 (w2 ↥7 ⇑0 av))) (aq (aL (cT (w2 (aC mw (ao (w2 ↥3 ⇑1 av) (ao (w2 ↥7 ⇑0 av) ⇑38))) ⇑15 (bh ah))) (az ↥6) aG) (DB 5 (w2 ↥7 ⇑0 av) (wC ⇑32))) aG)) (az ⇑15))))))
abbrev yZ:aJ:=(az (aA (ao ⇑42 (ao (w2 ⇑30 ⇑1 ⇑36) ⇑26))))
abbrev BN:aJ:=(aq (aw 3 (w2 (w2 ↥0 ↥1 av) ⇑0 av)) (az (aA (ao ↥1 (ao ⇑0 (ao (wB eG (ao (bj (cg [af,ae 3] (c9 ↥2) (aD 0) (cT (w2 ⇑42 ↥1 (fc ai))) ↥0)) ak)) ak))))))
abbrev zH:aJ:=(az (w2 (w2 (d4 ↥0 eB (dJ ↥1)) (aA ⇑37) f6) (d4 ↥0 (dJ (w2 ↥1 ⇑1 ⇑36)) eB) f6))
abbrev v8:aJ:=(aq (aw 4 (w2 ⇑53 ↥2 av)) (aq (aw 5 (w2 ↥1 ⇑1 av)) (aq (aw 6 (aC vS (ao ↥0 (ao ↥1 ⇑37)))) (aq (aL (cT (w2 ↥6 ⇑15 (bh ai))) (aq (aL (cT (w2 ⇑74 (wC (.str "look")) fF)) (az ⇑15) aG) (az (aA (ao (aC jW (ao ⇑53 (ao ↥2 (ao (aC nS (ao ⇑115 (ao (w2 ↥3 ⇑2 av) (ao (w2 ↥4 ⇑2 av) ak)))) ak)))) ⇑51)))) aG) (aq (aw 7 (aC mw (ao (w2 ↥3 ⇑1 av) (ao (w2 (w2 ↥5 ↥6 av) ⇑0 av) (ao (w2 ↥4 ⇑2 av) ak))))) (aq (aL (cT (w2 ⇑74 ⇑101 aZ)) (aw 5 (w2 (d4 ↥5 eB (dJ ↥6)) (d4 ↥5 (dJ (w2 ↥6 ⇑1 ⇑36)) eB) f6)) aG) (az (aA (ao (aC jW (ao ⇑53 (ao ↥2 (ao (aC mR (ao ↥4 ⇑68)) ak)))) ⇑51)))))))))
abbrev AE:aJ:=(aq (jZ 2 (j3 ↥1)) (az (w2 (aC oS (ao ⇑30 (ao (dG 2) ak))) (aC oS (ao (w2 ↥0 ⇑2 av) (ao (dG 2) ak))) aZ)))
abbrev FZ:aJ:=(aq (aw 3 (aC mq (ao ↥0 (ao ↥1 ⇑37)))) (aq (aL (cT (w2 ↥3 ⇑15 (bh ai))) (az ⇑15) aG) (aq (aL (cT (iK Zf ⇑74)) (az (aC nW (ao ↥0 (ao ↥1 (ao ↥2 ⇑67))))) aG) (aq (aw 4 (w2 ⇑53 ↥2 av)) (aq (aw 5 (w2 ↥1 ⇑1 av)) (aq (aw 6 (w2 ↥4 ⇑2 av)) (aq (aL (cT (w2 ⇑74 (wC (.str "lay")) aZ)) (aq (aw 5 (w2 ↥5 (aA (ao (aA (ao (aC rZ (ao (w2 ↥3 ⇑1 av) ⇑66)) (ao (w2 ↥3 ⇑2 av) ak))) ak)) f6)) (aw 4 (aC mR (ao ↥4 ⇑66)))) (aL (dq (cT (w2 ⇑74 (wC (.str "same")) aZ)) (cT (aC vm (ao ↥3 ⇑66)))) (aw 4 (aC mR (ao ↥4 ⇑66))) (aw 4 (aC nS (ao ⇑115 (ao (w2 ↥3 (jz ⇑1) av) ⇑66)))))) (az (aA (ao (aC jW (ao ⇑53 (ao ↥2 ⇑38))) ⇑51))))))))))
abbrev zW:aJ:=(az (eu (cT (w2 ⇑30 ⇑15 (bh ai))) ↥0 (aA (ao ⇑42 (ao (w2 ⇑30 ⇑1 ⇑94) ak)))))
abbrev CJ:aJ:=(az (aA (ao ⇑42 (ao (wB eG (ao (bj (cg [af] (c9 ⇑30) (aD 0) (cT (w2 ⇑30 ⇑1 fF)) (aC uG ⇑40))) ak)) ak))))
abbrev CP:aJ:=(aq (aw 3 (wB bg ⇑40)) (aq (aL (cy (cT (aC sZ (ao ↥2 ⇑67)))) (az ⇑15) aG) (az (eu (cT (w2 ↥2 ↥3 aZ)) (aC vc ⇑26) (aC wD (ao ↥0 (ao ↥1 ⇑37)))))))
abbrev qQ:aJ:=(aq (aL (cT (w2 ⇑42 (aA (ao (wC (.str "all")) (ao (wC (.str "some")) ak))) (fc ai))) (az ⇑30) aG) (az (eu (cT (w2 ⇑42 (wC (.str "not")) aZ)) (aA (ao ⇑30 ak)) (aA ak))))
abbrev GD:aJ:=(az (wB bg (ao (bj (cg [af,ae 0] (c9 ↥1) (aD 0) (cT (w2 (aC mw (ao ↥1 (ao ⇑42 (ao (aA ak) ak)))) ⇑15 (bh ah))) ↥0)) ak)))
abbrev ve(Sf:aR):aJ:=(aq (aw 3 (w2 ↥2 ⇑0 av)) (aq (aL (cT (w2 ↥3 (wC (.str "notes")) ⇑126)) (az (w2 (aC wM (ao ⇑116 (ao (w2 ↥1 ⇑1 av) ak))) (w2 ↥2 ⇑2 av) sI)) aG) (aq (aL (cT (w2 ↥3 (wC (.str "at")) ⇑126)) (az (w2 (d4 (w2 ⇑53 ⇑116 av) eB (dJ ⇑2)) (d4 ↥2 (dJ ⇑2) eB) ⇑126)) aG) (aq (aL (cT (w2 ↥3 (wC (.str "ended")) ⇑126)) (az (w2 (aC mq (ao ↥0 (ao ↥1 (ao ⇑116 ak)))) ⇑15 (bh ai))) aG) (aq (aw 4 (bj (cg [af,ae 0,ae 1] (c9 (aC rg ⇑37)) (aD 0) bJ (aC Sf (ao ↥1 (ao ↥2 ⇑40)))))) (aq (aL (cT (w2 ↥3 (wC (.str "not")) ⇑126)) (az (iR (w2 ↥4 ⇑0 av))) aG) (az (eu (cT (w2 ↥3 (wC (.str "all")) ⇑126)) (wB jU ⇑38) (wB jR ⇑38)))))))))
abbrev Q9:aJ:=(aq (ph 2 ↥1 ⇑15) (aq (bo 3 (aQ ⇑26)) (aq (jb (jN (cS 3)) (iD fq 0 2 3)) (mG 2))))
abbrev QK:aJ:=(aq (bo 2 (aQ ak)) (aq (aw 3 (w2 (dg 0) ↥1 iO)) (aq (jb (cT (w2 ↥3 ⇑15 (bh ah))) (aq (a8 2 (w2 ↥3 ⇑1 aV)) (aw 3 (w2 (dg 0) (w2 ↥3 ⇑0 aV) iO)))) (vg (sR (cS 2))))))
abbrev Qo:aJ:=(aq (aU (p9 ↥1) (aD 3) (aL (cT (aC (cP 3) (ao ↥0 (ao ↥3 ⇑37)))) (az ↥3) aG)) (az ⇑15))
abbrev OE:aJ:=(aq (qE 3 (me fq) (ao ↥0 ⇑26)) (js 3 (aq (aw 4 (aC (mh (cP 3)) (ao ↥0 (ao (dg 3) ⇑37)))) (az (eu (cT (w2 ↥4 ⇑15 (bh ai))) ⇑15 (bj (mj lQ (ao (dg 3) ⇑38))))))))
abbrev AB:aJ:=(az (w2 (bj (aQ (ao (wC (.str "a")) (ao ⇑0 (ao (wC (.str "a")) (ao ⇑1 (ao (wC (.str "ab")) (ao (wC (.str "go")) (ao ⇑99 (ao ⇑0 ak)))))))))) (aC b9 (ao ↥0 (ao ⇑8 ak))) av))
abbrev FA:aJ:=(az (w2 (bj (aQ (ao ⇑1 (ao ⇑2 (ao ⇑2 (ao ⇑2 (ao ⇑1 (ao ⇑3 (ao ⇑4 ak))))))))) (aC b9 (ao ↥0 (ao ⇑7 ak))) av))
abbrev BH:aJ:=(aq (bo 2 (aQ ak)) (aq (bo 3 (aQ ak)) (aq (aU (dF (aC m4 ⇑40)) (aD 4) (aq (aw 5 (aC b9 (ao ↥0 (ao ⇑9 ak)))) (aq (aw 6 (w2 ↥1 (cS 3) gp)) (aL (cT (w2 ↥5 ⇑3 gf)) (a8 2 (aA (ao ⇑73 (ao (aC jk ⇑40) ak)))) (aL (cT (w2 ↥5 ⇑6 gf)) (a8 2 (w2 (bj (aQ (ao (aA (ao (wC (.str "any")) ak)) (ao (aA (ao (wC (.str "word")) ak)) (ao (aA (ao (wC (.str "number")) ak)) ak))))) (w2 ↥5 ⇑3 ⇑94) aV)) (aL (ft (cT (w2 ↥5 ⇑8 gf)) (cT (w2 ↥6 ⇑72 b7))) (aq (aw 7 (w2 (bj (aQ (ao (wC (.str "n")) (ao (wC (.str "nm")) (ao (wC (.str "go")) (ao (wC (.str "m")) ak)))))) (aC b9 (ao ↥0 (ao ⇑4 ak))) aV)) (aq (a8 3 ↥7) (a8 2 (aA (ao ⇑52 ⇑68))))) (a8 2 (aA (ao (wC ⇑45) (ao (w2 ↥6 (aC b9 (ao ↥0 (ao (wB eZ ⇑66) ak))) aV) ak)))))))))) (bW 2 (bW 3 (az (aA (ao (wB gC ⇑37) ⇑67))))))))
abbrev GA:aJ:=(aq (bo 2 (aQ ak)) (aq (aU (dF (aC m4 ⇑40)) (aD 3) (aq (aw 4 (aC b9 (ao ↥0 (ao ⇑6 ak)))) (aL (ft (cT (w2 ↥4 ⇑3 gf)) (cT (w2 ↥1 ⇑72 b7))) (a8 2 (aA (ao ⇑73 (ao (aC jk ⇑40) ak)))) (a8 2 (aA (ao (w2 (bj (aQ (ao (wC ⇑45) (ao (wC ⇑45) (ao (wC (.str "next")) ak))))) (w2 ↥4 ⇑3 ⇑94) aV) (ao (w2 ↥1 (aC b9 (ao ↥0 (ao (wB eZ ⇑26) ak))) aV) ak))))))) (bW 2 (az (wB gC ⇑37)))))
abbrev Ht:aJ:=(aq (aL (ft (cT (w2 ↥1 ⇑72 b7)) (cT (w2 (aC b9 (ao ↥0 ⇑85)) ⇑0 b7))) (az (aA (ao ⇑73 (ao (aC jk ⇑40) ak)))) aG) (az (aA (ao (wC ⇑45) (ao (w2 ↥1 (aC b9 (ao ↥0 (ao (wB eZ ⇑26) ak))) aV) ak)))))
abbrev AN:aJ:=(aq (aw 3 (aC b9 (ao ↥0 (ao ⇑12 ak)))) (aq (aL (cT (w2 ↥3 ⇑4 gf)) (az (aA (ao (aA (ao (wC (.str "lay")) (ao (aC uD (ao ↥0 ⇑26)) (ao (w2 (eW 0) (aC b9 (ao ↥0 (ao (wB eZ (ao (eW 0) ak)) ak))) aV) ak)))) (ao ⇑72 ak)))) aG) (aq (aw 4 (w2 ↥2 (aC b9 (ao ↥0 (ao (wB eZ ⇑37) ak))) aV)) (aq (aL (cT (w2 ↥3 ⇑10 b7)) (az (aA (ao (aA (ao (wC (.str "same")) (ao (aC r9 (ao ↥0 ⇑26)) (ao (aC r9 (ao ↥0 ⇑26)) ⇑38)))) (ao ⇑72 ak)))) aG) (aq (aL (cT (w2 ↥3 ⇑11 b7)) (az (aA (ao (aA (ao (wC (.str "go")) ⇑38)) (ao ⇑72 ak)))) aG) (aq (cw (aC sN (ao ↥0 ⇑26)) (eC 2 (bG (aD 5) (bG (aD 6) cM)))) (aq (aL (cT (w2 ↥3 ⇑7 jG)) (az (aA (ao (aA (ao (wC (.str "look")) (ao ↥5 ⇑38))) ⇑66))) aG) (az (aA (ao (aA (ao (w2 (bj (aQ (ao ⇑101 (ao ⇑101 (ao ⇑101 (ao (wC (.str "read")) ak)))))) (w2 ↥3 ⇑4 ⇑94) aV) ⇑51)) ⇑66))))))))))
abbrev ED:aJ:=(aq (bo 1 (aQ (ao (aA ak) ak))) (aq (aU (dF (w2 (bj (aQ (ao ⇑0 (ao ⇑1 (ao ⇑0 (ao ⇑1 ⇑85)))))) (aC b9 (ao ↥0 (ao ⇑5 ak))) aV)) (aD 2) (a8 1 (w2 (bj (aQ (ao (aA ak) (ao (aA (ao (wC (.str "n")) ak)) (ao (aA (ao (wC (.str "go")) (ao (wC (.str "n")) ak))) (ao (aA (ao (wC (.str "nm")) ak)) (ao (aA ak) ak))))))) (aC b9 (ao ↥0 (ao ⇑5 ak))) aV))) (aq (bo 3 (aQ ak)) (bW 1 (aq (aU (gm ↥1) (aD 4) (aq (bo 5 (ly ↥4)) (aq (bo 6 (aQ ak)) (aq (aU (dF (w2 (bj (aQ (ao ⇑2 (ao ⇑1 (ao ⇑3 (ao ⇑2 (ao ⇑0 (ao ⇑1 (ao ⇑2 (ao ⇑3 ak)))))))))) (aC b9 (ao ↥0 (ao ⇑8 ak))) aV)) (aD 2) (aq (aw 8 (bj (cg [af,ae 5,ae 1] (dF (wB eZ ⇑26)) (aD 0) (cT (w2 ⇑147 ⇑72 b7)) ↥0))) (aq (cw (aC oG (ao ↥0 (ao (cS 5) (ao ↥8 ak)))) (eC 2 (bG (aD 9) (bG (aD 10) cM)))) (aq (a8 6 ↥9) (aU (gm ↥10) (aD 7) (aL (cT (w2 ↥7 (cS 5) (e9 ah))) (a8 5 ↥7) aG)))))) (bW 6 (a8 3 (aA (ao ↥4 (ao (wB gC ⇑66) ak))))))))) (bW 3 (az (wB gC ⇑67))))))))
abbrev zf:aJ:=(aq (bo 2 (aQ ak)) (aq (aU (dF (aC b9 (ao ↥0 (ao (w2 ↥1 ⇑1 ⇑36) ak)))) (aD 3) (aq (aw 4 (wB gC (ao (bj (cg [af,ae 0] (dF (aC m4 ⇑40)) (aD 0) bJ (aC jk ⇑26))) ak))) (a8 2 (aA (ao ↥4 (ao (w2 (eW 0) (aC b9 (ao ↥0 (ao (wB eZ (ao (eW 0) ak)) ak))) aV) ak)))))) (bW 2 (az (wB gC ⇑37)))))
abbrev AI:aJ:=(aq (bo 3 (ly (w2 (w2 ↥0 ↥1 av) ⇑0 av))) (aq (aU (c9 (d4 (w2 (w2 ↥0 ↥1 av) ⇑1 av) eB (dJ ↥2))) (aD 4) (aL (cT (w2 (w2 ↥4 ⇑0 av) (aA (ao ⇑101 (ao (wC (.str "read")) (ao (wC (.str "look")) ak)))) (fc ai))) (gv 3 (bj (cg [af] (c9 (w2 ↥4 ⇑1 av)) (aD 0) (cT (w2 ⇑42 ⇑52 aZ)) ⇑30))) aG)) (bW 3 (az (bj (xB ↥3))))))
abbrev Iu:aJ:=(aq (bo 3 (aQ ak)) (aq (aU (c9 ↥1) (aD 4) (aq (aw 5 (aC b9 (ao ↥0 (ao (wB bg ⇑38) ak)))) (aq (aw 6 (aC b9 (ao ↥0 (ao (w2 (wB bg (ao (w2 (w2 ↥4 ↥5 av) ⇑1 av) ak)) ⇑1 ⇑36) ak)))) (aq (aw 7 (wB eG (ao (bj (cg [af,ae 0] (gm (aC uJ (ao ↥4 (ao ↥5 ⇑66)))) (aD 0) bJ (aA (ao ↥0 (ao (aC jk ⇑26) ak))))) ak))) (a8 3 (aA (ao ↥5 (ao ↥6 ⇑68)))))))) (bW 3 (az (aA (ao (wB eG ⇑67) (ao (aC nM (ao ↥0 ⇑37)) ak)))))))
abbrev BS:aJ:=(aq (bo 1 (cg [af,ae 0] (dF (w2 (bj (aQ (ao ⇑1 (ao ⇑2 (ao ⇑2 (ao ⇑1 (ao ⇑3 (ao ⇑2 (ao ⇑0 ⇑85))))))))) (aC b9 (ao ↥0 (ao ⇑8 ak))) aV)) (aD 0) bJ (aC uV ⇑26))) (aq (aL (dq (cT (w2 (wB eZ (ao (cS 1) ak)) ⇑2 b7)) (cT (w2 (aC b9 (ao ↥0 (ao ⇑4 ak))) ⇑0 b7))) (j1 1 ⇑1 (w2 (cS 1) ⇑0 aV)) aG) (aq (aw 1 (wB gC (ao (cS 1) ak))) (aq (aL (cT (w2 (aC b9 (ao ↥0 ⇑85)) ⇑0 b7)) (bW 1 (az (aA (ao ↥1 (ao (aC rT (ao ↥0 (ao ↥1 (ao ⇑3 ak)))) ak))))) aG) (bW 1 (az (aA (ao ↥1 (ao (aA (ao (wB gC (ao (bj (cg [af] (c9 ↥1) (aD 0) bJ (aA (ao ⇑0 (ao ⇑0 (ao (aA ak) ak)))))) ak)) (ao (aC nM (ao ↥0 (ao ⇑4 ak))) ak))) ak)))))))))
abbrev sY:aJ:=(aq (aL (cT (w2 (wB bg ⇑40) (wB bg ⇑26) fF)) (az ⇑15) aG) (aq (jZ 3 (j3 ↥2)) (aq (bo 4 (aQ ak)) (aq (aU (p6 ↥0 ↥1) (eC 2 (bG (aD 5) (bG (aD 6) cM))) (aq (aw 7 (wC ⇑32)) (aq (aL (cT (w2 (w2 ↥5 ⇑0 av) ⇑73 aZ)) (aw 7 (w2 ⇑114 ↥6 aZ)) (aL (cT (w2 (w2 ↥5 ⇑0 av) (aA (ao (wC (.str "word")) (ao (wC (.str "number")) ak))) (fc ai))) (aw 7 (w2 (bV "str" ↥6) (w2 (w2 ↥5 ⇑0 av) (wC (.str "word")) aZ) aZ)) (aL (ft (cT (w2 (w2 ↥5 ⇑0 av) (wC ⇑45) aZ)) (dq (cT (w2 (w2 ↥5 ⇑0 av) ⇑52 aZ)) (cT (mN 4 ⇑114)))) (aw 7 (dC (w2 ⇑114 (dG 3) (fe ai)) (w2 (w2 (dG 3) ⇑114 gi) ↥6 aZ))) (aL (cT (w2 (w2 ↥5 ⇑0 av) ⇑52 aZ)) (aq (a8 4 ⇑114) (m5 3 ⇑114 ↥6)) aG)))) (aL (cy (cT ↥7)) (az ⇑15) aG)))) (az (wB eG (ao (bj (cg [af,ae 3] (gm (bj (DD (dG 3)))) (aD 0) bJ (aA (ao ↥0 (ao (w2 (dG 1) ↥0 gi) ak))))) ak)))))))
abbrev Iq:aJ:=(aq (bo 2 (aQ ak)) (aq (aU (c9 ↥0) (aD 3) (aq (aw 4 (w2 ↥3 ⇑1 av)) (aq (aL (cT (w2 ⇑74 ⇑73 fF)) (aw 4 (w2 (kL ↥1) (w2 ↥3 ⇑1 av) gi)) aG) (aq (aL (dq (cT (w2 ⇑74 (wC (.str "next")) aZ)) (cy (cT (bV "str" ↥4)))) (aw 4 (w2 (w2 ↥4 ⇑1 ⇑36) ⇑100 (gI (λ_ j=>0 < j) λi j=>.int (i % j)))) aG) (a8 2 ↥4))))) (bW 2 (az (wB eG ⇑37)))))
abbrev EJ:aJ:=(aq (cw (w2 ↥1 ↥2 av) (eC 3 (bG (aD 3) (bG (aD 4) (bG (aD 5) cM))))) (aq (aw 6 (w2 (w2 ⇑115 ↥3 av) ⇑1 av)) (az (eu (cT (w2 ↥4 (wB bg ⇑66) gf)) (w2 ↥6 ↥4 av) ⇑15))))
abbrev GZ:aJ:=(aq (aU (dF (wB bg ⇑26)) (aD 3) (aq (aw 4 (aC sO (ao ⇑30 (ao (w2 (w2 ↥1 ↥3 av) ⇑0 av) ⇑37)))) (aL (cT (w2 ↥4 ⇑15 (bh ah))) (az (aA (ao ↥3 ⇑38))) aG))) (az ⇑15))
abbrev zC:aJ:=(aq (bo 2 (aQ ak)) (aq (aU (dF (wB bg ⇑40)) (aD 3) (aq (aw 4 (aC tF (ao ↥0 (ao ⇑53 ⇑67)))) (aL (cT (w2 ↥4 ⇑15 (bh ah))) (aq (aw 5 (w2 (w2 ⇑53 ↥3 av) ⇑2 av)) (aL (ft (cT (w2 (w2 ↥4 ⇑0 av) (aA (ao ⇑101 (ao (wC (.str "read")) ak))) (fc ah))) (cT (w2 (aC oi (ao ↥4 (ao (w2 ↥1 ⇑1 av) ⇑51))) ⇑15 (bh ah)))) (a8 2 ↥3) aG)) aG))) (bW 2 (az (w2 ↥2 (bj (aQ (ao (wB bg ⇑40) ak))) gp)))))
abbrev AH:aJ:=(aq (cw ↥1 (eC 2 (bG (aD 3) (bG (aD 4) cM)))) (aq (aL (cT (w2 ↥2 (wB bg ⇑40) aZ)) (az (aA (ao ↥3 (ao (wB eG (ao (bj (cg [af,af] (c9 ↥4) (eC 2 (bG (aD 0) (bG (aD 1) cM))) (cT (w2 ↥1 ⇑1 fF)) (aA (ao ↥0 (ao (eu (cT (w2 ↥1 ⇑15 (bh ai))) ↥1 (w2 ↥1 ⇑1 ⇑94)) ak))))) ak)) ak)))) aG) (aq (cw (w2 ↥3 ↥2 av) (eC 3 (bG (aD 5) (bG (aD 6) (bG (aD 7) cM))))) (aq (aw 8 (w2 (w2 (w2 ⇑115 ↥5 av) ⇑1 av) ↥6 av)) (aq (aw 9 ⇑15) (aq (aL (cT (w2 (w2 ↥8 ⇑0 av) (wC (.str "lay")) aZ)) (aw 4 (w2 ↥4 (aA (ao (aA (ao (aC v7 (ao (w2 ↥8 ⇑1 av) ⇑68)) (ao (w2 ↥8 ⇑2 av) ak))) ak)) f6)) (aL (cT (w2 (w2 ↥8 ⇑0 av) (wC (.str "go")) aZ)) (aw 9 (w2 ↥8 ⇑1 av)) (aL (cT (w2 (w2 ↥8 ⇑0 av) (wC (.str "same")) aZ)) (aq (cw (bj (cg [af,ae 7] (c9 (d4 ↥8 (dJ ⇑1) (dJ ⇑3))) (aD 0) bJ (eu (cT (w2 ⇑42 ⇑73 aZ)) ⇑30 (w2 (kL ↥1) ⇑30 gi)))) (sk 2 (bG (aD 10) (bG (aD 11) cM)))) (aw 9 (eu (cT (w2 ↥10 ↥11 aZ)) ⇑15 (w2 ↥8 ⇑3 av)))) (aq (aw 12 (aC oi (ao ↥8 (ao ↥4 ⇑68)))) (aL (cT (w2 ↥12 ⇑15 (bh ai))) (aw 9 (w2 ↥8 ⇑2 av)) (aq (aw 7 (w2 ↥12 ⇑1 av)) (aL (cT (w2 (w2 ↥8 ⇑0 av) ⇑101 aZ)) (aw 4 (w2 (d4 ↥4 eB (dJ (w2 ↥12 ⇑0 av))) (d4 ↥4 (dJ (w2 (w2 ↥12 ⇑0 av) ⇑1 ⇑36)) eB) f6)) aG))))))) (aq (aw 13 (aA (ao ↥5 (ao (w2 ↥6 ⇑1 ⇑36) ⇑68)))) (aq (aL (cT (w2 ↥9 ⇑15 (bh ah))) (aq (aw 14 (w2 (w2 ⇑115 ↥9 av) ⇑0 av)) (aw 13 (aA (ao ↥9 (ao ⇑0 (ao (wB eG (ao (bj (cg [af,ae 14] (c9 ↥7) (aD 0) (cT (w2 ⇑42 ↥1 (fc ai))) ↥0)) ak)) ak)))))) aG) (az (aA (ao (w2 (w2 (d4 ↥3 eB (dJ ↥2)) (aA (ao ↥13 ak)) f6) (d4 ↥3 (dJ (w2 ↥2 ⇑1 ⇑36)) eB) f6) ⇑38)))))))))))
abbrev LP:aJ:=(aq (ph 3 ↥1 ⇑0) (aq (bo 4 (aQ ⇑26)) (aq (aw 5 ⇑0) (aq (jb (cT (w2 ↥5 (wB eZ (ao (cS 4) ak)) gf)) (aq (aU (gm (aC d5 (ao ↥0 (ao ⇑125 ak)))) (aD 6) (aq (aw 7 (aC d8 (ao ↥0 (ao ⇑125 ⇑66)))) (aL (cT (w2 ↥7 (dg 3) (jn ah))) (aq (aL (cT (w2 (wB eZ (ao (cS 4) ak)) ↥2 b7)) (az ⇑15) aG) (aq (nH 3 ↥7 (w2 (w2 (dg 3) ⇑125 iO) ⇑1 ⇑36)) (a8 4 ↥7))) aG))) (aw 5 (w2 ↥5 ⇑1 ⇑36)))) (mG 3)))))
abbrev EZ(Sf:aR):aJ:=(aq (aw 3 (aC b9 (ao ↥0 (ao ⇑8 ak)))) (aq (aL (dq (cT (w2 ↥2 ⇑0 jG)) (cT (w2 ↥3 ⇑0 aZ))) (az (aA (ao (wC (.str "not")) (ao (aC Sf (ao ↥0 (ao ↥1 (ao (w2 ↥2 ⇑1 ⇑94) ak)))) ak)))) aG) (aq (aL (dq (cT (w2 ↥2 ⇑0 jG)) (cT (w2 ↥3 ⇑3 gf))) (aq (aw 4 (bj (cg [af,ae 2,ae 1,ae 0] (dF (w2 (bj (aQ (ao ⇑2 (ao ⇑0 (ao ⇑1 (ao ⇑3 ak)))))) (aC b9 (ao ↥0 (ao ⇑4 ak))) av)) (aD 0) bJ (aC Sf (ao ↥3 (ao ↥2 (ao (w2 ↥1 ⇑1 ⇑94) ak))))))) (az (aA (ao (w2 (bj (aQ (ao (wC (.str "all")) (ao (wC (.str "some")) ak)))) (w2 ↥3 ⇑1 ⇑94) av) (ao (wB eG ⇑38) ak))))) aG) (aq (aL (dq (cT (w2 (wB bg ⇑26) ⇑0 jG)) (cT (w2 ↥3 ⇑5 jG))) (aq (aw 5 (aC b9 (ao ↥0 (ao (wB bg ⇑26) ak)))) (aq (aL (cT (w2 ↥3 ⇑6 aZ)) (az (aA (ao (wC (.str "ended")) ⇑51))) aG) (aq (aw 6 (aC b9 (ao ↥0 (ao (wB bg (ao (w2 ↥1 ↥5 av) ak)) ak)))) (az (aA (ao (wC (.str "at")) (ao ↥5 (ao ↥6 (ao (aC b9 (ao ↥0 (ao (w2 (wB bg (ao (w2 (w2 (w2 ↥1 ↥5 av) ↥6 av) ⇑1 av) ak)) ⇑1 ⇑36) ak))) ak))))))))) aG) (aq (aw 7 (bj (cg [af] (c9 (w2 (aC sN (ao ↥0 (ao ⇑72 ak))) ⇑0 av)) (aD 0) bJ (eu (cT (w2 ⇑42 (wC ⇑45) aZ)) (aA (ao ⇑52 (ao ⇑30 ak))) ↥0)))) (az (aA (ao (wC (.str "notes")) (ao (wB eG ⇑68) (ao (w2 (bj (aQ (ao ⇑1 (ao ⇑2 (ao ⇑1 (ao ⇑3 (ao ⇑9 ak))))))) (aC b9 (ao ↥0 (ao ⇑5 ak))) av) ak))))))))))
abbrev xC(Sf:aR):aJ:=(aq (aL (cT (w2 (w2 ↥2 ⇑0 av) (wC (.str "notes")) aZ)) (az (w2 (wB bg (ao (bj (cg [af,af,ae 2] (c9 (w2 ↥1 ⇑1 av)) (eC 2 (bG (aD 0) (bG (aD 1) cM))) (cT (w2 (aC sO (ao ⇑116 (ao ↥0 (ao (aA ak) ak)))) ⇑15 (bh ah))) ↥0)) ak)) (w2 ↥2 ⇑2 av) sI)) aG) (aq (aL (cT (w2 (w2 ↥2 ⇑0 av) (wC (.str "not")) aZ)) (az (iR (aC Sf (ao ↥0 (ao ↥1 (ao ⇑116 ak)))))) aG) (aq (aL (cT (w2 (w2 ↥2 ⇑0 av) (aA (ao (wC (.str "all")) (ao (wC (.str "some")) ak))) (fc ai))) (aq (aw 3 (bj (cg [af,ae 0,ae 1] (c9 ⇑116) (aD 0) bJ (aC Sf (ao ↥1 (ao ↥2 ⇑40)))))) (az (eu (cT (w2 (w2 ↥2 ⇑0 av) (wC (.str "all")) aZ)) (w2 (wC ⇑56) ↥3 (fc ah)) (w2 (wC ⇑32) ↥3 (fc ai))))) aG) (aq (cw (w2 ⇑53 ⇑116 av) (eC 3 (bG (aD 4) (bG (aD 5) (bG (aD 6) cM))))) (aq (aL (cT (w2 (w2 ↥2 ⇑0 av) (wC (.str "at")) aZ)) (az (dC (w2 ↥4 (w2 ↥2 ⇑2 av) aZ) (w2 ↥5 (w2 ↥2 ⇑3 av) aZ))) aG) (az (w2 ↥5 (wB bg (ao (w2 (w2 (w2 ↥0 ⇑116 av) ↥4 av) ⇑1 av) ak)) aZ)))))))
abbrev Jr:aJ:=(aq (aU (gm ↥2) (aD 3) (aq (aL (ft (cT (bV "bool" ↥3)) (ft (cy (cT (bV "int" ↥3))) (cT (w2 ↥3 (aC d5 (ao ↥0 ⇑26)) (fc ah))))) (az ⇑15) aG) (aw 1 (aC d8 (ao ↥0 (ao ↥1 ⇑67)))))) (az ↥1))
abbrev HB:aJ:=(aq (cw (w2 ↥2 (aC b9 (ao ↥0 (ao (wB bg ⇑37) ak))) av) (eC 2 (bG (aD 3) (bG (aD 4) cM)))) (aq (bo 5 (cg [af,ae 3,ae 0] (dF (wB bg ⇑26)) (aD 0) (cT (w2 (aC b9 (ao ↥2 ⇑85)) ⇑0 aZ)) (aA (ao (wC (.str "at")) (ao ↥0 (ao (w2 (w2 ↥1 ↥0 av) ⇑0 av) (ao (w2 (w2 ↥1 ↥0 av) ⇑1 av) ak))))))) (aq (aL (cT (w2 (wB bg ⇑38) ⇑0 jG)) (aq (aw 6 (w2 (w2 ↥4 (aC b9 (ao ↥0 (ao (wB bg ⇑38) ak))) av) ⇑0 av)) (a8 5 (aA (ao (wC (.str "notes")) (ao (wB eG (ao (bj (cg [af] (c9 ↥6) (aD 0) bJ (aA (ao ⇑73 ⇑40)))) ak)) (ao ⇑1 ak)))))) aG) (bW 5 (az (aA (ao (wC (.str "all")) (ao (wB eG ⇑51) ak))))))))
abbrev Jj:aJ:=(aq (aw 5 (bj (cg [af,ae 3,ae 0,ae 2] (p9 (dg 3)) (aD 0) (cT (aC (cP 3) (ao ↥2 (ao ↥0 ⇑67)))) (w2 (dg 1) ↥0 iO)))) (aq (aL (cT (w2 ↥5 ⇑72 aZ)) (az (w2 ↥4 ⇑15 (bh ai))) aG) (aq (aL (ft (cy (cT (bV "list" ↥4))) (cT (w2 (wB bg ⇑38) (wB uQ ⇑51) fF))) (az (wC ⇑56)) aG) (aq (aw 6 (aC (m8 d5 d8) (ao ↥0 (ao ↥1 ⇑38)))) (az (dC (w2 ↥6 ⇑15 (bh ah)) (aC (cP 3) (ao ↥0 (ao ↥6 ⇑37)))))))))
abbrev yA:aJ:=(aq (cw (aC ud ⇑26) (eC 2 (bG (aD 2) (bG (aD 3) cM)))) (aq (px 4 (pQ d5 d8) (ao ↥2 (ao ↥3 (ao ⇑60 ak)))) (pG 4 (aq (aL (cT (w2 (dg 4) ⇑15 (pI ai))) (az (wC ⇑32)) aG) (aq (aw 5 (bj (wY (dg 4)))) (aq (aU (dF ⇑4) (aD 6) (aq (aw 7 (aC (j0 3) (ao ↥1 (ao ↥2 ⇑85)))) (aq (aL (cT (w2 (aC b9 (ao ↥1 ⇑85)) ⇑0 aZ)) (aw 7 (aC qP (ao ↥1 (ao ↥2 ⇑51)))) aG) (aL (cy (cT (aC (j9 (cP 3) d5 d8) (ao ↥2 (ao ↥3 (ao ↥7 (ao (dg 4) (ao (aC (lD fq (cP 3)) (ao ↥2 (ao ↥3 ⇑68))) ak)))))))) (az (wC ⇑56)) aG)))) (az (wC ⇑32))))))))
theorem Tj:cD jI z9 ["field","value","having","bound","head"]:=λws n Q h=>by
 obtain⟨f,v,hp,bp,rfl,fok,hv,hh,hb,k⟩:=h;show z9 [↑f.d,↑v,ae (.w (.dk (bA hp))),ae (.w (.dk (bA bp))),af] n {nx:=λ_ n=>Q ⇑17 n,rt:=Q};cases f with
 |is w=>
  show(match fM w v with|some r=>Q ⇑71 n|none=>False);rw[mJ (show cv w=ah from fok) hv];exact k
 |any=>exact k
 |word=>
  show Q (.d (.bool (fX "str" v))) n;cases v<;>exact k
 |number=>
  show Q (.d (.bool (fX "int" v))) n;cases v<;>first|cases hv|exact k
 |as x=>
  show iq (.d (.bool (bZ (bA hp) (.inr x)).isSome)) (match bZ (bA hp) (.inr x)with|some d=>(match fM d v with|some r=>Q ⇑71 n|none=>False)|none=>False) (Q (.d ⇑56) n);rw[jQ];unfold hU at k;cases e:look hp x with
  |none=>
   simp only[e]at k;exact k
  |some w=>
   simp only[e]at k;show(match fM w v with|some r=>Q ⇑71 n|none=>False);rw[mJ (hh _ (k7 e)).2 hv];exact k
 |bind x=>
  show iq (.d (.bool (!(bZ (bA bp) (.inr x)).isSome))) (Q (.d ⇑32) n) (match bZ (bA bp) (.inr x)with|some d=>(match fM d v with|some r=>Q ⇑71 n|none=>False)|none=>False);rw[jQ];unfold hU at k;cases e:look bp x with
  |none=>
   simp only[e]at k;exact k
  |some w=>
   simp only[e]at k;show(match fM w v with|some r=>Q ⇑71 n|none=>False);rw[mJ (hb _ (k7 e)).2 hv];exact k
theorem yi[Decidable p]{A B:Prop}(h1:p->A)(h2:¬p->B):if decide p=ah then A else B:=by
 by_cases z:p
 ·rw[if_pos (decide_eq_true z)];exact h1 z
 ·rw[if_neg (by rw[decide_eq_false z];exact Ai)];exact h2 z
theorem vR:∀ps:Nm,lK (ps.map gN)=ae (bA ps)
 |[]=>rfl
 |p::r=>by
  show(lK (r.map gN)).map _=_;rw[vR r];rfl
theorem Of(h:x∉l.map (·.1)):put l x v=l++[(x,v)]:=by
 unfold put;rw[if_neg λz=>by
  obtain⟨p,hp,e⟩:=Dc.mp z;exact h (Bf.mpr ⟨p,hp,of_decide_eq_true e⟩)]
theorem tH:∀(r l:Nm),((l++r).map (·.1)).Nodup->mX (bA l) (bA r)=bA (l++r)
 |[],l,_=>by rw[Bp];rfl
 |p::r,l,nd=>by
  have e:l++p::r=(l++[p])++r:=by simp
  show mX (fk (bA l) (.inr p.1) p.2) (bA r)=_;rw[sq,Of,e]
  ·exact tH r (l++[p]) (by rw[<-e];exact nd)
  ·intro z;rw[A7,Bc,List.nodup_append]at nd;exact nd.2.2 _ z _ Au rfl
theorem si(e:δ[j]?=ae (↑(bO ps)))(ok:okN ps)(k:K.nx (δ.set i (ae (.odk (bA ps)))) n):jZ i (j3 (aj j)) δ n K:=by
 unfold jZ j3;refine au e ?_;unfold bO;simp only[vR];refine⟨by rw[Aa];have:=ok.1;omega,?_⟩;have:=tH ps [] (by rw[Bu];exact ok.2.1);rw[Bu]at this;rw[show([]:List (aH×Ad))=bA []from rfl,this];exact k
section
variable{δ:Sl}{n:Int}{K:DEnds}{W V:aJ}{Q:DQ}
theorem JL(k:Q (.d (.bool (!decide (i=j)))) n):fF (.d (.int i)) (.d (.int j)) n Q:=k
theorem yH(e0:δ[0]?=ae (↑(.tuple xs)))(e1:δ[1]?=ae (↑(.tuple ys)))(hT:xs.length≠ys.length->W δ n K)(hF:xs.length=ys.length->V δ n K):
  aL (cT (w2 (wB bg ⇑40) (wB bg ⇑26) fF)) W V δ n K:=by
 unfold aL cT w2 wB ao ak;refine au e0 ?_;show aj 1 δ n _;refine au e1 ?_;dsimp only[bg];refine JL ?_;refine o3 (λh=>hT λz=>?_) λh=>hF ?_
 ·rw[z,decide_eq_true rfl]at h;cases h
 ·by_cases z:(xs.length:Int)=(ys.length:Int)
  ·exact Int.ofNat.inj z
  ·rw[decide_eq_false z]at h;cases h
theorem Rl(e5:δ[5]?=ae (↑g.d))(e6:δ[6]?=ae (↑v))(e3:δ[3]?=ae (ae (.odk (bA hp))))(e4:δ[4]?=ae (ae (.odk (bA bp))))(gok:g.ok)(hv:cv v=ah)(hh:∀p∈hp,fN p)(hb:∀p∈bp,fN p)
  (hT:hU g v hp bp=ai->W δ n K) (hF:hU g v hp bp=ah->V δ n K):aL (cy (cT (aC jI (ao ↥5 (ao ↥6 (ao (dG 3) (ao (dG 4) ak))))))) W V δ n K:=by
 unfold aL cy cT aC ao ak;refine au e5 ?_;refine au e6 ?_;unfold dG;simp only[e3,e4];refine⟨g,v,hp,bp,rfl,gok,hv,hh,hb,?_⟩;refine o3 (λh=>hT ?_) λh=>hF ?_
 ·cases q:hU g v hp bp with|false=>rfl|true=>rw[q]at h;cases h
 ·cases q:hU g v hp bp with|true=>rfl|false=>rw[q]at h;cases h
variable{xs:List Ad}{j:Nat}{a b v:Ad}{r:List Ad}
end
def pA(gs:List Fd)(vs:List Ad)(hp:Nm)(hs:List Str)(r:Ad):Prop:=match wk (gs.zip vs) hp hs with
 |none=>r=.none
 |some h=>r=bO (bP h)
theorem Rn(h1:∀x,x∈hs↔(look bp x).isSome=ah)(h2:∀x w,look bp x=ae w->look hp x=ae w)(h:hU g v hp bp=ai):pA (g::gs) (v::vs) hp hs .none:=by
 have key:wk ((g,v)::gs.zip vs) hp hs=af:=by
  cases g with
  |is w=>unfold wk;rw[if_neg (by rw[show eL w v=ai from h];exact Ai)]
  |any=>cases h
  |word=>unfold wk;rw[if_neg (by rw[show iP v=ai from h];exact Ai)]
  |number=>unfold wk;rw[if_neg (by rw[show iT v=ai from h];exact Ai)]
  |as x=>
   unfold wk;unfold hU at h;cases q:look hp x with
   |none=>rfl
   |some w=>
    simp only[q]at h;simp only[h,B3,if_false]
  |bind x=>
   unfold wk;unfold hU at h;cases q:look bp x with
   |none=>simp only[q]at h;cases h
   |some w=>
    simp only[q]at h;rw[if_pos ((h1 x).mpr (by rw[q];rfl)),h2 x w q];simp only[h,B3,if_false]
 unfold pA;rw[Hf,key]
theorem Uh(ng:∀x,g≠.bind x)(h:hU g v hp bp=ah):wk ((g,v)::l) hp hs=wk l hp hs:=by
 cases g with
 |is w=>rw[wk,if_pos (show eL w v=ah from h)]
 |any=>rw[wk]
 |word=>rw[wk,if_pos (show iP v=ah from h)]
 |number=>rw[wk,if_pos (show iT v=ah from h)]
 |as x=>
  rw[wk];unfold hU at h;cases q:look hp x with
  |none=>simp only[q]at h;cases h
  |some w=>
   simp only[q]at h;simp only[h,if_true]
 |bind x=>exact absurd rfl (ng x)
theorem lF(x):∀hs:List Str,bS (.str x) ⇑83=decide (x∈hs)
 |[]=>by simp[bS]
 |y::r=>by
  show(qf (.str y) (.str x) || bS (.str x) (r.map .str))=_;rw[lF x r];have e:qf (.str y) (.str x)=decide (x=y):=by
   show(y==x)=_;by_cases z:x=y
   ·subst z;rw[decide_eq_true rfl];exact beq_self_eq_true _
   ·rw[decide_eq_false z];exact beq_eq_false_iff_ne.mpr λw=>z w.symm
  rw[e];by_cases z:x=y
  ·subst z;simp
  ·rw[decide_eq_false z,Bool.false_or];by_cases q:x∈r
   ·rw[decide_eq_true q,decide_eq_true (Ap _ q)]
   ·rw[decide_eq_false q,decide_eq_false (by simp[z,q])]
theorem u6(nd:(hp.map (·.1)).Nodup)(h:p∈hp):look hp p.1=ae p.2:=by
 cases q:look hp p.1 with
 |none=>
  have a:=rD hp p.1;rw[q]at a;have b:(hp.any λq=>decide (q.1=p.1))=ah:=Dc.mpr ⟨p,h,decide_eq_true rfl⟩;rw[b]at a;cases a
 |some v=>
  have hm:=k7 q;obtain⟨i,hi⟩:=Bz.mp h;obtain⟨j,hj⟩:=Bz.mp hm;have a1:(hp.map (·.1))[i]?=ae p.1:=by rw[Am,hi];rfl
  have a2:(hp.map (·.1))[j]?=ae p.1:=by rw[Am,hj];rfl
  obtain⟨b1,b2⟩:=Ar.mp a1;obtain⟨c1,c2⟩:=Ar.mp a2;have:=(F3 nd).mp (b2.trans c2.symm);rw[this,hj]at hi;have:=Bb hi;rw[<-this]
theorem TV(k:K.nx (δ.set i (ae (.odk (bA [])))) n):jZ i lP δ n K:=k
theorem IC(e0:δ[0]?=ae (↑(.tuple xs)))(e1:δ[1]?=ae (↑(.tuple ys)))(hl:xs.length=ys.length)(k:c8 g W K (dE xs ys) δ n):aU (p6 ↥0 ↥1) g W δ n K:=by
 unfold aU p6;exact au e0 (au e1 ⟨hl,k⟩)
theorem JC:cD mw xH ["pattern","row","names","having","bound","field","value"]:=λws n Q h=>by
 obtain⟨fs,row,nm,rfl,okp,okr,okn,k0⟩:=h;have k:∀r,nE fs row nm r->Q (.d r) n:=λr hr=>by rw[J4 hr];exact k0
 show xH [↑(bN fs),↑(.tuple row),↑(bO nm),af,af,af,af] n {nx:=λ_ n=>Q ⇑17 n,rt:=Q};unfold xH;refine aB (yH (xs:=fs.map Fd.d) (ys:=row) rfl rfl (λne=>?_) λel=>?_)
 ·show Q ⇑17 n;refine k .none ?_;unfold nE;rw[Aa]at ne;rw[if_neg ne]
 ·rw[Aa]at el;dsimp only[aG];refine aB (si rfl okn ?_);dsimp only[Ao];refine aB (TV ?_);dsimp only[Ao];refine aB (IC (xs:=fs.map Fd.d) (ys:=row) rfl rfl (by rw[Aa];exact el) ?_);refine f7 (λds δ m=>m=n/\∃(gs:List Fd)(vs:List Ad)(hp bp:Nm)(hs:List Str)(y z:Option SV),ds=dE (gs.map Fd.d) vs/\gs.length=vs.length/\δ=[↑(bN fs),↑(.tuple row),↑(bO nm),ae (.odk (bA hp)),ae (.odk (bA bp)),y,z] /\
   (∀g∈gs,g.ok)/\(∀d∈vs,cv d=ah)/\(hp.map (·.1)).Nodup/\(∀p∈hp,fN p)/\(∀p∈bp,fN p)/\hp.length+gs.length<=48/\bp.length+gs.length<=48/\(∀x,x∈hs↔(look bp x).isSome=ah)/\(∀x w,look bp x=ae w->look hp x=ae w)/\∀r,pA gs vs hp hs r->Q (.d r) n) ?_ ?_ _ _ _ ?_
  ·rintro δ m ⟨rfl,gs,vs,hp,bp,hs,y,z,e,hl,rfl,gok,vok,nd,hok,bok,l1,l2,i1,i2,kq⟩
   have:gs=[]:=by
    cases gs with
    |nil=>rfl
    |cons g gs=>cases vs with|nil=>cases hl|cons v vs=>cases e
   subst this;rw[List.length_nil]at l1;show ∃ps':Nm,bA hp=bA ps'/\_;refine⟨hp,rfl,by omega,nd,λp hp'=>⟨Bj (hok p hp').1.1 ∎,P6 (hok p hp').2⟩,λps' p1 r1=>?_⟩;exact kq (.tuple (ps'.map gN)) (by show Fw (ps'.map gN)=bO (bP hp);rw[GV nd p1 r1];rfl)
  ·rintro d r δ m N ⟨rfl,gs,vs,hp,bp,hs,y,z,e,hl,rfl,gok,vok,nd,hok,bok,l1,l2,i1,i2,kq⟩ hN
   cases gs with
   |nil=>cases e
   |cons g gs=>
    cases vs with
    |nil=>cases hl
    |cons v vs=>
     have e1:d=.tuple [g.d,v]:=by have:=congrArg (λl=>l.head?) e;simpa[dE]using this
     have e2:r=dE (gs.map Fd.d) vs:=by have:=congrArg List.tail e;simpa[dE]using this
     subst e1 e2;rw[Ay]at l1 l2;rw[Ay,Ay]at hl;have gk:=gok g Au;have vk:=vok v Au;refine⟨rfl,?_⟩;dsimp only[bG,aD,cM,Ao];refine aB (Rl rfl rfl rfl rfl gk vk hok bok (λff=>?_) λff=>?_)
     ·exact kq .none (Rn i1 i2 ff)
     ·sleep 1;have go:(∀x,g≠.bind x)->N [↑(bN fs),↑(.tuple row),↑(bO nm),ae (.odk (bA hp)),ae (.odk (bA bp)),↑g.d,↑v] m:=λng=>by
       refine hN _ _ ⟨rfl,gs,vs,hp,bp,hs,_,_,rfl,by omega,rfl,λg hg=>gok g (Ap _ hg),λd hd=>vok d (Ap _ hd),nd,hok,bok,by omega,by omega,i1,i2,λr hr=>kq r ?_⟩;unfold pA at hr ⊢;rw[Hf,Uh ng ff];exact hr
      cases g with
      |is w=>exact go λx z=>nomatch z
      |any=>exact go λx z=>nomatch z
      |word=>exact go λx z=>nomatch z
      |number=>exact go λx z=>nomatch z
      |as x=>exact go λx z=>nomatch z
      |bind x=>
       refine jh (a:=.str "bind") (r:=[.str x]) rfl uu ?_;show(bA bp).length < 1000/\(bA hp).length < 1000/\N [↑(bN fs),↑(.tuple row),↑(bO nm),ae (.odk (fk (bA hp) (.inr x) v)),ae (.odk (fk (bA bp) (.inr x) v)),↑(Fd.d (.bind x)),↑v] m;rw[sq,sq];refine⟨by unfold bA;rw[Aa];omega,by unfold bA;rw[Aa];omega,?_⟩;have p1:=sG hp x v;have p2:=sG bp x v;refine hN _ _ ⟨rfl,gs,vs,put hp x v,put bp x v,if x∈hs then hs else hs++[x],_,_,rfl,by omega,rfl,λg hg=>gok g (Ap _ hg),λd hd=>vok d (Ap _ hd),t8 nd,oR hok gk vk,oR bok gk vk,by omega,by omega,λy=>?_,λy w hw=>?_,λr hr=>kq r ?_⟩
       ·by_cases q:y=x
        ·subst q;rw[EG];refine⟨λ_=>rfl,λ_=>?_⟩
         split
         ·assumption
         ·exact Bk _ (Ba.mpr rfl)
        ·rw[CK q,<-i1]
         split
         ·exact Iff.rfl
         ·simp[q]
       ·by_cases q:y=x
        ·subst q;rw[EG]at hw ⊢;exact hw
        ·rw[CK q]at hw ⊢;exact i2 y w hw
       ·unfold pA at hr ⊢;rw[Hf,wk];by_cases q:x∈hs
        ·rw[if_pos q]at hr ⊢;cases lb:look bp x with
         |none=>rw[i1,lb]at q;cases q
         |some w=>
          have lh:=i2 x w lb;unfold hU at ff;simp only[lb]at ff;have wv:w=v:=Qu (bok _ (k7 lb)).2 vk ff;subst wv;rw[JB nd lh]at hr;simp only[lh,ff,if_true];exact hr
        ·rw[if_neg q]at hr ⊢;exact hr
  ·refine⟨rfl,fs,row,nm,[],[],af,af,rfl,el,rfl,okp.2.2,okr.2,okn.2.1,okn.2.2,λ_ z=>absurd z A8,by have:=okp.2.1;have:=okn.1;omega,by have:=okp.2.1;simp;omega,λx=>⟨λz=>absurd z A8,λz=>by cases z⟩,λx w z=>(nomatch z),λr hr=>k r ?_⟩;unfold nE;rw[if_pos el];exact hr
abbrev Zg:List Str:=["_law_tape_here"]
theorem RS:cD jk AB Zg:=λws n Q h=>by
 obtain⟨rfl,hn,k⟩:=h;show AB [ae (.w .tp)] n _;refine bx (ar ⇑107);dsimp only;refine ia (m:=8) rfl ⋯ ∎ ∎ λr h0 h1=>l3 (ds:=[.str "a",.int 0,.str "a",.int 1,.str "ab",.str "go",.int 99,.int 0]) h0 h1 λd hd=>k d ?_;sleep 24;rcases hd with rfl|rfl|rfl|rfl|rfl|rfl|rfl|rfl<;>simp[qI]
theorem S1:cD m4 FA Zg:=λws n Q h=>by
 obtain⟨rfl,hn,k⟩:=h;show FA [ae (.w .tp)] n _;refine bx (ar ⇑107);dsimp only;refine ia (m:=7) rfl ⋯ ∎ ∎ λr h0 h1=>l3 (ds:=[.int 1,.int 2,.int 2,.int 2,.int 1,.int 3,.int 4]) h0 h1 λd hd=>?_;sleep 24;rcases hd with rfl|rfl|rfl|rfl|rfl|rfl|rfl
 ·exact k 1 ∎ ∎
 ·exact k 2 ∎ ∎
 ·exact k 2 ∎ ∎
 ·exact k 2 ∎ ∎
 ·exact k 1 ∎ ∎
 ·exact k 3 ∎ ∎
 ·exact k 4 ∎ ∎
theorem HP(e:δ[0]?=ae (ae (.w .tp)))(hn:n < 2 ^ 39)(k:∀m:Nat,1<=m->m<=4->c8 g W K (cm 0 m) δ (n+1)):aU (dF (aC m4 ⇑40)) g W δ n K:=by
 unfold aU dF;refine dQ (au e (Al rfl ⟨hn,λm h1 h4=>?_⟩));sleep 27;rw[Br];exact k m h1 h4
theorem tL{aE:Sl}(g)(hno:∀(f:Fe) (n:Int) (Q':Bool->Int->Prop),g f=af->Q' ai n->c (↑f.d::aE) n Q')
  (hyes:∀(f:Fe)(n:Int)(Q':Bool->Int->Prop)(y:Ad),g f=ae y->Q' ah n->c (↑f.d::aE) n Q') (hw:∀(f:Fe)(n:Int)(Q':DQ)(y:Ad),g f=ae y->Q' (.d y) n->w (↑f.d::aE) n Q'):
  ∀(fs:List Fe)(acc:List Ad)(x:Option SV)(n:Int),Q (acc++fs.filterMap g) n->cJ (aD 0) c w Q (fs.map Fe.d) acc (x::aE) n
 |[],acc,x,n,q=>by
  rw[List.filterMap_nil,Bp]at q;exact q
 |f::r,acc,x,n,q=>by
  rw[Bc];simp only[cJ,aD,Dl];cases e:g f with
  |none=>
   refine hno f n _ e ?_;sleep 7;refine tL g hno hyes hw r acc _ n ?_;rw[List.filterMap_cons_none e]at q;exact q
  |some y=>
   refine hyes f n _ y e ?_;sleep 10;refine hw f n _ y e ?_;refine tL g hno hyes hw r (acc++[y]) _ n ?_;rw[List.filterMap_cons_some e]at q;rw[Bm];exact q
def jL(o:Option Str):Option Ad:=o.map .str
theorem Q3(g)(fs:List Fe):fs.filterMap (λf=>jL (g f))=(fs.filterMap g).map .str:=by
 rw[List.map_filterMap];rfl
theorem Rc(f:Fe):bz "bind" (.str f.hd)=f.bd.isSome:=by
 cases f with
 |any=>exact(show bz "bind" (.str "any")=ai by decide +kernel)
 |word=>exact(show bz "bind" (.str "word")=ai by decide +kernel)
 |num=>exact(show bz "bind" (.str "number")=ai by decide +kernel)
 |isv _=>exact(show bz "bind" (.str "is")=ai by decide +kernel)
 |bind _=>exact(show bz "bind" ⇑123=ah by decide +kernel)
 |as _=>exact(show bz "bind" ⇑45=ai by decide +kernel)
 |nx _=>exact(show bz "bind" (.str "next")=ai by decide +kernel)
theorem RV{f:Fe}(h:f.bd=ae k):f.d=.tuple [.str f.hd,.str k]:=by
 cases f<;>cases h;rfl
theorem zy(h:jL o=ae y):∃k,o=ae k/\y=.str k:=by
 cases o with
 |none=>cases h
 |some k=>cases h;exact⟨k,rfl,rfl⟩
theorem Ki(h:jL o=af):o=af:=by
 cases o with
 |none=>rfl
 |some k=>cases h
theorem qL(h:eR fs):∀k∈bu fs,fY k:=λk hk=>by
 obtain⟨f,hf,e⟩:=Hg.mp hk;have:=h.2 f hf;cases f<;>cases e;exact this
theorem rO(h:eR fs):(bu fs).length<=4:=Bj (List.length_filterMap_le _ _) h.1
theorem TQ(e:δ[0]?=ae (↑(.tuple [a,b])))(k:Q (.d b) n):w2 ↥0 (wC (.int 1)) av δ n Q:=cj (r:=[]) e k
theorem CS{f:Fe}{aE:Sl}(k:Q' f.bd.isSome n):cT (w2 (w2 ↥0 ⇑49 av) ⇑52 aZ) (↑f.d::aE) n Q':=by
 refine eV (i:=0) (a:=.str f.hd) (r:=f.tl) rfl ?_;show Q' (bz "bind" (.str f.hd)) n;rw[Rc];exact k
theorem Pq(fs:List Fe)(n)(k:Q ((bu fs).map .str) n):
  cJ (aD 0) (cT (w2 (w2 ↥0 ⇑49 av) ⇑52 aZ)) (w2 ↥0 (wC (.int 1)) av) Q (fs.map Fe.d) [] [af] n:=by
 refine tL (λf=>jL f.bd) (λf n Q' e q=>CS ?_) (λf n Q' y e q=>CS ?_) (λf n Q' y e q=>?_) fs [] af n ?_
 ·rw[Ki e];exact q
 ·obtain⟨x,e1,_⟩:=zy e;rw[e1];exact q
 ·obtain⟨x,e1,rfl⟩:=zy e;exact TQ (by rw[RV e1];rfl) q
 ·rw[Q3];exact k
theorem DM(hw:∀Q:DQ,Q (.d (.str s)) n->w δ n Q)(e:bS (.str s) ⇑83=b)(q:Q b n):cT (iK hs w) δ n Q:=hw _ (Al rfl (by show Q (bS (.str s) ⇑83) n;rw[e];exact q))
theorem vP{a:Ac}(h:eR a.fs):(∀k∈a.bs,fY k)/\a.bs.length<=4:=by
 cases a with
 |take fs=>exact⟨qL h,rO h⟩
 |read fs=>exact⟨qL h,rO h⟩
 |look fs b=>exact⟨qL h,rO h⟩
 |lay fs b=>exact⟨λk hk=>by simp[Ac.bs]at hk,by simp[Ac.bs]⟩
 |same f g b=>exact⟨λk hk=>by simp[Ac.bs]at hk,by simp[Ac.bs]⟩
 |go b=>exact⟨λk hk=>by simp[Ac.bs]at hk,by simp[Ac.bs]⟩
theorem yc:∀{ys ks:List Str},ys.Nodup->(∀k∈ys,k∈ks)->ys.length<=ks.length
 |[],_,_,_=>A6 _
 |y::ys,ks,h,hs=>by
  obtain⟨h1,h2⟩:=Ee.mp h;have hm:=hs y Au;have:=yc (ks:=ks.erase y) h2 λk hk=>(List.mem_erase_of_ne (λ(e:k=y)=>h1 (e▸hk))).mpr (hs k (Ap _ hk));rw[List.length_erase_of_mem hm]at this;have:=List.length_pos_of_mem hm;rw[Ay];omega
structure KnI(w:List Str)(dn:List Ac)(L:List Str):Prop where
 mem:∀k,k∈L↔k∈w++dn.flatMap Ac.bs
 len:L.length<=4+4*dn.length
 ok:∀k∈L,fY k
theorem KnI.first(h:w.length<=4)(ok:∀k∈w,fY k):KnI w [] w:=⟨λk=>by simp,by simpa using h,ok⟩
theorem KnI.skip(I:KnI w dn L)(e:a.bs=[]):KnI w (dn++[a]) L:=
 ⟨λk=>by rw[I.mem k,G7];simp[e],by rw[An,A3];have:=I.len;omega,I.ok⟩
theorem KnI.more(I:KnI w dn L)(h:∀k,k∈ys↔k∈a.bs)(hl:ys.length<=4)(ok:eR a.fs):KnI w (dn++[a]) (L++ys):=
 ⟨λk=>by rw[A9,I.mem k,h k,G7,<-Bm];simp[or_assoc],by rw[An,An,A3];have:=I.len;omega,λk hk=>by
  rcases A9.mp hk with z|z
  ·exact I.ok k z
  ·exact(vP ok).1 k ((h k).mp z)⟩
theorem pX(h:v∈qI):cv v=ah:=by
 simp only[qI,Ax,A8,or_false]at h;rcases h with rfl|rfl|rfl|rfl|rfl|rfl<;>decide +kernel
theorem OA(hv:gX v=ae a)(hl:a.length+b.length<=Az)(q:Q (.d (.list (a++b))) n):gp v (.ln b) n Q:=by
 unfold gp;rw[hv];exact⟨hl,q⟩
theorem zN(e0:δ[0]?=ae (ae (.w .tp)))(h:n < 2 ^ 39)(k:∀v∈k8,Q (.d v) (n+1)):w2 (eW 0) (aC b9 (ao ↥0 (ao (wB eZ (ao (eW 0) ak)) ak))) aV δ n Q:=by
 have ht:∀(n:Int)(Q:DQ),Q (.ln k8) n->eW 0 δ n Q:=λn Q q=>by unfold eW;rw[e0];exact q
 exact ar (ht _ _ (gO (m:=5) e0 (λQ q=>aT (ht _ _ q)) ⋯ ∎ ∎ λr h0 h1=>xw h0 h1 k))
theorem OR(f:Fe)(r):bu (f::r)=f.bd.toList++bu r:=by cases f<;>rfl
theorem Us(fs)(f:Fe):bu (fs++[f])=bu fs++f.bd.toList:=by
 unfold bu;rw[List.filterMap_append];cases f<;>rfl
theorem vH:∀{fs:List Fe}{ks:List Str}{f:Fe},rF ks fs->(∀k,f.us=ae k->k∈ks++bu fs)->rF ks (fs++[f])
 |[],ks,f,_,h=>⟨λk hk=>by simpa[bu]using h k hk,trivial⟩
 |g::r,ks,f,h1,h2=>⟨h1.1,vH h1.2 λk hk=>by
  have:=h2 k hk;rw[OR,<-Bm]at this;exact this⟩
theorem vy{f:Ad}{ks:List Str}(h:f∈ks.map .str):∃s∈ks,f=.str s:=by
 obtain⟨s,hs,rfl⟩:=Bf.mp h;exact⟨s,hs,rfl⟩
def tX(kv:Wv)(ks:List Str)(n0:Int)(ds:List Ad)(δ:Sl)(n:Int):Prop:=∃(fs:List Fe)(x y z u:Option SV),δ=[ae (.w .tp),ae (.w kv),ae (.own (fs.map Fe.d)),ae (.own ((bu fs).map .str)),x,y,z,u]/\1<=fs.length+ds.length/\fs.length+ds.length<=4/\(∀f∈fs,f.ok/\f.pt=ah)/\rF ks fs/\n+2*⇑84<=n0+9
theorem SS:cD sN BH ["_law_tape_here","_law_known_here","_law_fields","_law_bound","_law_k","_law_way","_law_some","_law_name"]:=λws n0 Q h=>by
 obtain⟨ks,kv,rfl,hkv,hks,hok,hn0,k⟩:=h;show BH [ae (.w .tp),ae (.w kv),af,af,af,af,af,af] n0 _;refine aB (i7 ?_);sleep 0;refine aB (i7 ?_);sleep 0;refine aB (HP rfl ⋯ λm h1 h4=>?_);refine f7 (tX kv ks n0) (λδ n I=>?_) (λd r δ n N I kN=>?_) _ _ _ ⟨[],af,af,af,af,rfl,by rw[fw];simpa using h1,by rw[fw];simpa using h4,λf hf=>(by simp at hf),trivial,by rw[fw];omega⟩
 ·obtain⟨fs,x,y,z,u,rfl,hf1,hf,hfo,hr,hn⟩:=I;sleep 19;sleep 0;refine iu rfl ?_;sleep 0;exact bx (cK (aT (au rfl (l4 (au rfl (Al ⇑18 (k fs n (by simpa using hf1) ⟨by simpa using hf,λf z=>(hfo f z).1⟩ (λf z=>(hfo f z).2) hr (by simpa using hn))))))))
 ·obtain⟨fs,x,y,z,u,rfl,hf1,hf,hfo,hr,hn⟩:=I;rw[Ay]at hf1 hf hn;sleep 13;have hfl:(fs.map Fe.d).length < 1000000:=by rw[Aa];omega
  have hbl:(bu fs).length<=4:=Bj (List.length_filterMap_le _ _) ⋯;have hbo:∀s∈ks++bu fs,fY s:=λs hs=>(A9.mp hs).elim (hok s) λz=>qL (fs:=fs) ⟨by omega,λf z=>(hfo f z).1⟩ s z;have nxt:∀(f:Fe)(n':Int)(y z u:Option SV)(B:List Ad),f.ok/\f.pt=ah->(∀k,f.us=ae k->k∈ks++bu fs)->n'<=n+2->B=(bu fs).map .str++f.bd.toList.map .str->N [ae (.w .tp),ae (.w kv),ae (.own (fs.map Fe.d++[f.d])),ae (.own B),↑d,y,z,u] n':=λf n' y z u B fo fu hn' hB=>
   kN _ _ ⟨fs++[f],↑d,y,z,u,by rw[hB,A7,Us,A7];rfl,by rw[An,A3];omega,by rw[An,A3];omega,λg hg=>(A9.mp hg).elim (hfo g) λz=>by rw[Ba]at z;subst z;exact fo,vH hr fu,by omega⟩
  have nxtN:∀(f:Fe)(n':Int)(y z u:Option SV),f.bd=af->f.ok/\f.pt=ah->(∀k,f.us=ae k->k∈ks++bu fs)->n'<=n+2->N [ae (.w .tp),ae (.w kv),ae (.own (fs.map Fe.d++[f.d])),ae (.own ((bu fs).map .str)),↑d,y,z,u] n':=λf n' y z u fb fo fu hn'=>
   nxt f n' y z u _ fo fu hn' (by rw[fb];exact(Bp _).symm)
  refine aB (qC (m:=9) rfl ⋯ ∎ ∎ λw w0 w1=>?_);sleep 0;refine aB (bK (x:=.list (ks.map .str++(bu fs).map .str)) (λQ q=>ar (au rfl (nh rfl (OA hkv (yn ⇑22 ⇑22) q)))) ?_);sleep 0;refine lA rfl (λhw=>?_) (λhw=>?_)
  ·refine jd rfl (cK (aF (dQ (au rfl (Al rfl ⟨by omega,λv hv=>?_⟩)))));exact Al ⇑18 (Al hfl (nxtN (.isv v) _ _ _ _ rfl ⟨pX hv,rfl⟩ ⇑127 ⋯))
  ·refine lA rfl (λhw6=>?_) (λhw6=>?_)
   ·refine jd rfl (ar (bb (Al ∎ (Al ∎ (Al ∎ (Al ∎ ?_))))));dsimp only;refine ar (au rfl (aF ?_));dsimp only[cC];refine jC (ds:=[.tuple [.str "any"],.tuple [.str "word"],.tuple [.str "number"]]) (r:=w-3) ⋯ (show w-3 < 3 by omega) λf hf'=>?_;simp only[Ax,A8,or_false]at hf';rcases hf' with rfl|rfl|rfl
    ·exact Al hfl (nxtN .any _ _ _ _ rfl ⟨trivial,rfl⟩ ⇑127 ⋯)
    ·exact Al hfl (nxtN .word _ _ _ _ rfl ⟨trivial,rfl⟩ ⇑127 ⋯)
    ·exact Al hfl (nxtN .num _ _ _ _ rfl ⟨trivial,rfl⟩ ⇑127 ⋯)
   ·have bind:∀(K:DEnds)(L:List Ad),(∀δ n,N δ n->K.nx δ n)->aq (aw 7 (w2 (bj (aQ (ao (wC (.str "n")) (ao (wC (.str "nm")) (ao (wC (.str "go")) (ao (wC (.str "m")) ak)))))) (aC b9 (ao ↥0 (ao ⇑4 ak))) aV)) (aq (a8 3 ↥7) (a8 2 (aA (ao ⇑52 ⇑68))))
      [ae (.w .tp),ae (.w kv),ae (.own (fs.map Fe.d)),ae (.own ((bu fs).map .str)),↑d,↑(.int w),↑(.list L),u] (n+1) K:=λK L hK=>by
     refine aB (show w2 _ _ _ _ _ _ from ar ⇑107);dsimp only;refine ia (m:=4) rfl ⋯ ∎ ∎ λr r0 r1=>jC (ds:=[.str "n",.str "nm",.str "go",.str "m"]) r0 r1 λf hf'=>?_;have:∃s:Str,f=.str s/\fY s:=by
      simp only[Ax,A8,or_false]at hf';rcases hf' with rfl|rfl|rfl|rfl<;>exact⟨_,rfl,by decide +kernel,by decide +kernel⟩
     obtain⟨s,rfl,so⟩:=this;sleep 0;refine aB (lN rfl ⇑31 ⇑22 ?_);sleep 0;refine lN (x:=.tuple [.str "bind",.str s]) rfl (λQ q=>cK (aF (au rfl (Al ⇑18 q)))) hfl (hK _ _ ?_);exact nxt (.bind s) (n+1+1) _ _ _ _ ⟨so,rfl⟩ ⇑127 ⋯ rfl
    by_cases hw8:w < 8
    ·refine bC (λQ q=>mF (λQ q=>aI (k:=ah) (λQ q=>ar (au rfl (aF ?_))) q) q) (bind _ _ λ_ _ z=>z);show Q (.d (.bool (decide (w < 8)))) _;rw[decide_eq_true hw8];exact q
    ·have hmem:∀f∈ks.map Dz++(bu fs).map Dz,∃s∈ks++bu fs,f=.str s:=λf hf=>vy (by rw[A7];exact hf);have hlen:(ks.map Dz++(bu fs).map Dz).length<=2000:=by rw[An,Aa,Aa];omega
     generalize(ks.map Dz++(bu fs).map Dz)=L at hmem hlen;cases L with
     |nil=>
      refine bC (λQ q=>i9 (λQ q=>aI (k:=ai) (λQ q=>ar (au rfl (aF ?_))) q) (aI (k:=ah) (λQ q=>ar (au rfl (bb (Al (A6 _) q)))) q)) (bind _ _ λ_ _ z=>z);show Q (.d (.bool (decide (w < 8)))) _;rw[decide_eq_false hw8];exact q
     |cons a l=>
      refine aX (λQ q=>i9 (λQ q=>aI (k:=ai) (λQ q=>ar (au rfl (aF ?_))) q) (aI (k:=ai) (λQ q=>ar (au rfl (bb (Al (A6 _) q)))) q)) ?_
      ·show Q (.d (.bool (decide (w < 8)))) _;rw[decide_eq_false hw8];exact q
      ·refine jd rfl (cK (aF (ar ⇑41)));refine gO (m:=(a::l).length) rfl ⇑117 ⋯ (by rw[Ay];omega) ⋯ λr r0 r1=>jC r0 r1 λf hf'=>?_;obtain⟨s,hs,rfl⟩:=hmem f hf';exact Al ⇑18 (Al hfl (nxtN (.as s) _ _ _ _ rfl ⟨hbo s hs,rfl⟩ (λk hk=>by cases hk;exact hs) ⋯))
theorem AY(h:v∈k8):iB v:=by
 simp only[k8,Ax,A8,or_false]at h;rcases h with rfl|rfl|rfl|rfl|rfl<;>first|exact .inl rfl|exact .inr ⟨_,rfl,by decide,by decide⟩
def xk(ks:List Str)(n0:Int)(ds:List Ad)(δ:Sl)(n:Int):Prop:=∃(fs:List Fe)(x y:Option SV),δ=[ae (.w .tp),ae (.w (.ln ⇑28)),ae (.own (fs.map Fe.d)),x,y]/\fs.length+ds.length<=4/\1<=fs.length+ds.length/\(∀f∈fs,f.ok/\f.tm=ah)/\rF ks fs/\n+2*⇑84<=n0+9
theorem Oi:cD uD GA ["_law_tape_here","_law_known_here","_law_fields","_law_k","_law_way"]:=λws n0 Q h=>by
 obtain⟨ks,rfl,hks,hok,hn0,k⟩:=h;show GA [ae (.w .tp),ae (.w (.ln ⇑28)),af,af,af] n0 _;refine aB (i7 ?_);sleep 0;refine aB (HP rfl ⋯ λm h1 h4=>?_);refine f7 (xk ks n0) (λδ n I=>?_) (λd r δ n N I kN=>?_) _ _ _ ⟨[],af,af,rfl,by rw[fw];simpa using h4,by rw[fw];simpa using h1,λf hf=>(by simp at hf),trivial,by rw[fw];omega⟩
 ·obtain⟨fs,x,y,rfl,hf,hf1,hfo,hr,hn⟩:=I;sleep 19;sleep 0;exact bx (aT (au rfl (l4 (k fs n (by simpa using hf1) ⟨by simpa using hf,λf z=>(hfo f z).1⟩ (λf z=>(hfo f z).2) hr (by simpa using hn)))))
 ·obtain⟨fs,x,y,rfl,hf,hf1,hfo,hr,hn⟩:=I;rw[Ay]at hf hf1 hn;sleep 13;have hfl:(fs.map Fe.d).length < 1000000:=by rw[Aa];omega
  have nxt:∀(f:Fe)(n':Int)(y:Option SV),f.ok/\f.tm=ah->(∀k,f.us=ae k->k∈ks)->n'<=n+2->N [ae (.w .tp),ae (.w (.ln ⇑28)),ae (.own (fs.map Fe.d++[f.d])),↑d,y] n':=λf n' y fo fu hn'=>
   kN _ _ ⟨fs++[f],↑d,y,by rw[A7];rfl,by rw[An,A3];omega,by rw[An,A3];omega,λg hg=>(A9.mp hg).elim (hfo g) λz=>by rw[Ba]at z;subst z;exact fo,vH hr λk hk=>Dn _ (fu k hk),by omega⟩
  refine aB (qC (m:=6) rfl ⋯ ∎ ∎ λw w0 w1=>?_);sleep 0;have isv:∀K:DEnds,(∀δ n,N δ n->K.nx δ n)->a8 2 (aA (ao ⇑73 (ao (aC jk ⇑40) ak))) [ae (.w .tp),ae (.w (.ln ⇑28)),ae (.own (fs.map Fe.d)),↑d,↑(.int w)] (n+1) K:=λK hK=>
   jd rfl (cK (aF (dQ (au rfl (Al rfl ⟨by omega,λv hv=>Al ⇑18 (Al hfl (hK _ _ (nxt (.isv v) _ _ ⟨pX hv,rfl⟩ ⇑127 ⋯)))⟩)))))
  by_cases hw3:w < 3
  ·refine bC (λQ q=>mF (λQ q=>aI (k:=ah) (λQ q=>ar (au rfl (aF ?_))) q) q) (isv _ λ_ _ z=>z);show Q (.d (.bool (decide (w < 3)))) _;rw[decide_eq_true hw3];exact q
  ·have ct3:∀Q:DQ,Q (.d ⇑56) (n+1)->w2 ↥4 (wC (.int 3)) gf [ae (.w .tp),ae (.w (.ln ⇑28)),ae (.own (fs.map Fe.d)),↑d,↑(.int w)] (n+1) Q:=λQ q=>ar (au rfl (aF (by
    show Q (.d (.bool (decide (w < 3)))) _;rw[decide_eq_false hw3];exact q)))
   cases ks with
   |nil=>exact bC (λQ q=>i9 (λQ q=>aI (k:=ai) ct3 q) (aI (k:=ah) (λQ q=>ar (au rfl (jX (jJ q)))) q)) (isv _ λ_ _ z=>z)
   |cons a l=>
    refine aX (λQ q=>i9 (λQ q=>aI (k:=ai) ct3 q) (aI (k:=ai) (λQ q=>ar (au rfl (jX (jJ q)))) q)) ?_;refine jd rfl (cK (ar ⇑107));dsimp only;refine ar (au rfl (aF ?_));dsimp only[cC];refine jC (ds:=[.str "as",.str "as",.str "next"]) (r:=w-3) ⋯ (show w-3 < 3 by omega) λf hf'=>?_;refine ar ⇑41;have hl:((a::l).map Dz).length<=1000:=by rw[Aa];exact hks
    refine gO (m:=((a::l).map Dz).length) rfl ⇑117 ⋯ (by rw[Aa,Ay];omega) ⋯ λr r0 r1=>xw r0 r1 λf' hf''=>?_;obtain⟨s,hs,rfl⟩:=vy hf'';simp only[Ax,A8,or_false]at hf';rcases hf' with rfl|rfl|rfl
    ·exact Al ⇑18 (Al hfl (nxt (.as s) _ _ ⟨hok s hs,rfl⟩ (λk hk=>by cases hk;exact hs) ⋯))
    ·exact Al ⇑18 (Al hfl (nxt (.as s) _ _ ⟨hok s hs,rfl⟩ (λk hk=>by cases hk;exact hs) ⋯))
    ·exact Al ⇑18 (Al hfl (nxt (.nx s) _ _ ⟨hok s hs,rfl⟩ (λk hk=>by cases hk;exact hs) ⋯))
abbrev Zc:List Str:=["_law_tape_here","_law_known_here"]
theorem O5:cD r9 Ht Zc:=λws n Q h=>by
 obtain⟨ks,rfl,hks,hok,hn0,k⟩:=h;show Ht [ae (.w .tp),ae (.w (.ln ⇑28))] n _;have isv:∀n',n'<=n+1->az (aA (ao ⇑73 (ao (aC jk ⇑40) ak))) [ae (.w .tp),ae (.w (.ln ⇑28))] n' {nx:=λ_ n=>Q ⇑17 n,rt:=Q}:=λn' hn'=>
  bx (cK (aF (dQ (au rfl (Al rfl ⟨by omega,λv hv=>Al ⇑18 (k (.isv v) _ (pX hv) rfl ⇑127 ⋯)⟩)))))
 cases ks with
 |nil=>exact aB (bC (λQ q=>mF (λQ q=>aI (k:=ah) (λQ q=>ar (au rfl (jX (jJ q)))) q) q) (isv n ⋯))
 |cons a l=>
  refine aB (cV (i9 (λQ q=>aI (k:=ai) (λQ q=>ar (au rfl (jX (jJ q)))) q) ?_));refine ar (ia (m:=2) rfl ⋯ ∎ ∎ λr r0 r1=>aF (jH ?_));show if decide (r=0)=ah then _ else _
  by_cases h:r=0
  ·rw[if_pos (decide_eq_true h)];exact isv (n+1) ⋯
  ·rw[if_neg (by simpa using h)];sleep 1;refine bx (cK (aF (ar ⇑41)));have hl:((a::l).map Dz).length<=1000:=by rw[Aa];exact hks
   refine gO (m:=((a::l).map Dz).length) rfl ⇑117 ⋯ (by rw[Aa,Ay];omega) ⋯ λr r0 r1=>xw r0 r1 λf' hf''=>?_;obtain⟨s,hs,rfl⟩:=vy hf'';exact Al ⇑18 (k (.as s) _ (hok s hs) rfl (λk hk=>by cases hk;exact hs) ⋯)
theorem Jy:cD oG AN ["_law_tape_here","_law_known_here","_law_open_ones","_law_way","_law_block","_law_pattern_here","_law_bound"]:=λws n Q h=>by
 obtain⟨ks,os,wants,rfl,hks,hok,ho,ho',hop,hn0,k⟩:=h;show AN [ae (.w .tp),ae (.w (.ln ⇑28)),↑(.list (os.map λb=>.int (b:Nat))),af,af,af,af] n _;refine aB (qC (m:=12) rfl ⋯ ∎ ∎ λw w0 w1=>?_);sleep 0;refine aB (lA rfl (λhw=>?_) (λhw=>?_))
 ·refine bx (cK (i6 (aF (cq (au rfl (au rfl (Cr ks ⟨rfl,hks,hok,by omega,λfs n' hf1 hfs htm hrf hn'=>?_⟩)))))));refine zN rfl ⋯ λv hv=>?_;exact Al ⇑86 (jX (Al ⇑18 (k (.lay fs v) _ ⟨hfs,htm,AY hv,hf1⟩ ⟨hrf,λb hb=>by cases hb⟩ ⋯)))
 sleep 1;refine aB (show aw 4 _ _ _ _ from ar ⇑41);refine gO (m:=(os.map λb:Nat=>Ff (b:Nat)).length) rfl ⇑117 ⋯ ⇑22 ⇑22 λr r0 r1=>jC r0 r1 λb hb=>?_;obtain⟨b,hbo,rfl⟩:=Bf.mp hb;have hto:=hop b hbo;sleep 0;refine aB (nL rfl (λh10=>?_) (λh10=>?_))
 ·refine bx (cK (wQ (aF (cq (au rfl (au rfl (Cr ks ⟨rfl,hks,hok,by omega,λf n' fo fb fu hn'=>?_⟩)))))));refine cq (au rfl (au rfl (Cr ks ⟨rfl,hks,hok,by omega,λg n'' go gb gu hn''=>?_⟩)));refine au rfl (Al (show 4<=1000 by decide) (jX (Al ⇑18 (k (.same f g b) _ ⟨⟨show 2<=4 by decide,λe he=>?_⟩,fb,gb⟩ ⟨⟨fu,λk hk=>Dn _ (gu k hk),trivial⟩,λb' hb'=>by cases hb';exact hto⟩ ⋯))));simp only[Ac.fs,Ax,A8,or_false]at he;rcases he with rfl|rfl
  ·exact fo
  ·exact go
 sleep 1;refine aB (nL rfl (λh11=>?_) (λh11=>?_))
 ·exact bx (cK (cK (aF (au rfl (Al ⇑18 (jX (Al ⇑18 (k (.go b) _ ⟨⟨show 0<=4 by decide,λe he=>by simp[Ac.fs]at he⟩,trivial⟩ ⟨trivial,λb' hb'=>by cases hb';exact hto⟩ ⋯))))))))
 sleep 1;refine aB ?_;unfold cw;refine cq (au rfl (au rfl (Cr ks ⟨.ln ⇑28,rfl,rfl,hks,hok,by omega,λfs n' hf1 hfs hpt hrf hn'=>?_⟩)));refine Al rfl ?_;sleep 15;refine aB (xU rfl (λh7=>?_) (λh7=>?_))
 ·exact bx (cK (i6 (aF (au rfl (au rfl (Al ⇑86 (au rfl (Al ⇑18 (k (.look fs b) _ ⟨hfs,hf1,hpt⟩ ⟨hrf,λb' hb'=>by cases hb';exact hto⟩ ⋯)))))))))
 sleep 1;refine bx (cK (cK (ar ⇑107)));dsimp only;refine ar (au rfl (aF ?_));dsimp only[cC];refine jC (ds:=[.str "take",.str "take",.str "take",.str "read"]) (r:=w-4) ⋯ (show w-4 < 4 by omega) λf hf'=>?_;simp only[Ax,A8,or_false]at hf';rcases hf' with rfl|rfl|rfl|rfl
 ·exact au rfl (Al ⇑18 (au rfl (Al ⇑18 (k (.take fs) _ ⟨hfs,hf1,hpt⟩ ⟨hrf,λb' hb'=>by cases hb'⟩ ⋯))))
 ·exact au rfl (Al ⇑18 (au rfl (Al ⇑18 (k (.take fs) _ ⟨hfs,hf1,hpt⟩ ⟨hrf,λb' hb'=>by cases hb'⟩ ⋯))))
 ·exact au rfl (Al ⇑18 (au rfl (Al ⇑18 (k (.take fs) _ ⟨hfs,hf1,hpt⟩ ⟨hrf,λb' hb'=>by cases hb'⟩ ⋯))))
 ·exact au rfl (Al ⇑18 (au rfl (Al ⇑18 (k (.read fs) _ ⟨hfs,hf1,hpt⟩ ⟨hrf,λb' hb'=>by cases hb'⟩ ⋯))))
def ir:List ⇑57:=[[],["n"],["go","n"],["nm"]]
theorem NA(h:w∈ir):w.length<=4/\(∀k∈w,fY k)/\w.Nodup/\i8 w:=by
 have key:∀w∈ir,w.length<=4/\(∀k∈w,k.length<=4/\Fc k=ah/\nZ 4 (.str k)=ah)/\w.Nodup/\w.Pairwise λa b=>¬b.cps.toList < a.cps.toList:=by decide +kernel
 exact key w h
theorem Tw(ss ks:List Str)(k:Q ((ss.map Dz).filter λx=>!bS x ⇑28) n):
  cJ (aD 0) (cT (w2 ↥0 ↥1 (e9 ah))) ↥0 Q (ss.map .str) [] [af,ae (.w (.ln ⇑28))] n:=by
 refine qw (λd=>∃s:Str,d=.str s) (λx=>!bS x ⇑28) id (λd n Q' hd q=>?_) (λd n Q' hd q=>au rfl q) _ [] af n (λd hd=>?_) ?_
 ·obtain⟨s,rfl⟩:=hd;exact aI (k:=!bS (.str s) ⇑28) (λQ q=>ar (au rfl (au rfl (Al rfl ⟨qg ks,q⟩)))) q
 ·obtain⟨s,_,rfl⟩:=Bf.mp hd;exact⟨s,rfl⟩
 ·rw[Bu,G1];exact k
theorem K6(ss ks:List Str):((ss.map Dz).filter λx=>!bS x ⇑28).isEmpty=decide (∀k∈ss,k∈ks):=by
 rw[Dx,List.isEmpty_iff,List.filter_eq_nil_iff,decide_eq_true_iff]
 constructor
 ·intro h k hk;have:=h (.str k) (Bf.mpr ⟨k,hk,rfl⟩);rw[lF]at this;simpa using this
 ·intro h d hd;obtain⟨k,hk,rfl⟩:=Bf.mp hd;rw[lF,decide_eq_true (h k hk)];simp
def sv(ws:List ⇑57)(ks:List Str):Ad->Bool
 |.int j=>decide (∀k∈ws.getD j.toNat [],k∈ks)
 |_=>ai
def kD(ws:List ⇑57)(ks:List Str):List Nat:=(A5 ws.length).filter λb=>decide (∀k∈ws.getD b [],k∈ks)
theorem P0(ws:List ⇑57)(ks):(cm 0 ws.length).filter (sv ws ks)=(kD ws ks).map λb=>.int (b:Nat):=by
 unfold cm kD;rw[List.filter_map];have e:(λi:Nat=>Ff (0+(i:Int)))=λb=>.int (b:Nat):=funext λi=>by rw[Int.zero_add]
 rw[e];rfl
theorem RL(ws:List ⇑57)(ks:List Str)(k:Q ((kD ws ks).map λb=>.int (b:Nat)) n):
  cJ (aD 0) (cT (w2 ⇑147 ⇑72 b7)) ↥0 Q (cm 0 ws.length) [] [af,ae (.w (.ln ⇑28)),↑(.list (ws.map dA))] n:=by
 refine qw (λd=>∃j:Nat,j < ws.length/\d=.int j) (sv ws ks) id (λd n Q' hd q=>?_) (λd n Q' hd q=>au rfl q) _ [] af n (λd hd=>?_) ?_
 ·obtain⟨j,hj,rfl⟩:=hd;have hg:(ws.map dA)[j]?=ae (.tuple (ws[j].map .str)):=by rw[Am,Ae hj];rfl
  refine aI (k:=sv ws ks (.int j)) (λQ q=>ar (bb (gD (ds:=ws[j].map .str) (λQ q=>ar (au rfl ⇑41)) (Tw ws[j] ks (jX ?_))))) q
  ·show(match dv (ws.map dA) (j:Int)with|some d=>Q (.d d) n|none=>False);rw[fL hg];exact q
  ·have eo:sv ws ks (.int j)=((ws[j].map Dz).filter λx=>!bS x ⇑28).isEmpty:=by
    rw[K6];show decide (∀k∈ws.getD (j:Int).toNat [],k∈ks)=_;rw[Br,Hh,Ae hj,Option.getD_some]
   rw[eo]at q;exact q
 ·unfold cm at hd;obtain⟨j,hj,rfl⟩:=Bf.mp hd;exact⟨j,Cb.mp hj,by rw[Int.zero_add]⟩
 ·rw[Bu,G1,P0];exact k
theorem TR(h:ws=[]::w0):0 < (kD ws ks).length:=
 List.length_pos_of_mem (a:=0) (Da.mpr ⟨Cb.mpr (by rw[h];simp),by subst h;simp⟩)
theorem QU(h:b∈kD ws ks):∃w,ws[b]?=ae w/\∀k∈w,k∈ks:=by
 obtain⟨h1,h2⟩:=Da.mp h;have hj:=Cb.mp h1;refine⟨ws[b],Ae hj,?_⟩;have:=of_decide_eq_true h2;rw[Hh,Ae hj,Option.getD_some]at this;exact this
theorem zR:∀{fs:List Fe}{ks ks':List Str},(∀k∈ks,k∈ks')->rF ks fs->rF ks' fs
 |[],_,_,_,_=>trivial
 |f::r,ks,ks',h,z=>⟨λk hk=>h k (z.1 k hk),zR (λk hk=>(A9.mp hk).elim (λq=>Dn _ (h k q)) λq=>Bk _ q) z.2⟩
theorem Ac.right_mono{a:Ac}(h:∀k∈ks,k∈ks')(z:a.right ws ks):a.right ws ks':=
 ⟨zR h z.1,λb hb=>by obtain⟨w,h1,h2⟩:=z.2 b hb;exact⟨w,h1,λk hk=>h k (h2 k hk)⟩⟩
theorem NB(h:kX ws (w,as))(hk:∀k∈ks,k∈w++as.flatMap Ac.bs)(ha:a.right ws ks):kX ws (w,as++[a]):=λp b hb=>by
 dsimp only at hb ⊢;by_cases hp:p < as.length
 ·rw[Et hp]at hb;have:=h p b hb;unfold kn at this ⊢;rw[List.take_append_of_le_length (Gt hp)];exact this
 ·rw[List.getElem?_append_right ⋯]at hb;have e0:p-as.length=0:=by
   by_cases e:p-as.length=0
   ·exact e
   ·rw[Cj (by rw[A3];omega)]at hb;cases hb
  rw[e0]at hb;cases hb;have ep:p=as.length:=by omega
  subst ep;refine Ac.right_mono (λk z=>?_) ha;unfold kn;rw[List.take_append_of_le_length (Aq _),Gx];exact hk k z
structure ActO(ws:List ⇑57)(want ks:List Str)(acts:List Ac):Prop where
 mem:∀k,k∈ks↔k∈want++acts.flatMap Ac.bs
 ok:∀k∈ks,fY k
 fs:∀a∈acts,kc a
 ri:kX ws (want,acts)
def oW(ws:List ⇑57)(bl:List Ad)(want:List Str)(nb:Int)(ds:List Ad)(δ:Sl)(n:Int):Prop:=∃(ks:List Str)(acts:List Ac)(x2 x7 x8 x9 x10:Option SV),
 δ=[ae (.w .tp),↑(.list (ws.map dA)),x2,ae (.own bl),↑(dA want),ae (.own ⇑28),ae (.own (acts.map Ac.d)),x7,x8,x9,x10]/\ActO ws want ks acts/\ks.length+4*ds.length<=40/\acts.length+ds.length<=8/\n+11*⇑84<=nb+89
theorem KQ(hw0:ws=[]::w0)(hwl:ws.length<=6)(hnb:nb+89 < 2 ^ 39)(O:ActO ws want ks acts)(hk:ks.length+4*(r.length+1)<=40)(ha:acts.length+(r.length+1)<=8)(hn:n+11*((r.length:Int)+1)<=nb+89)
  (kN:∀δ n,oW ws bl want nb r δ n->K.nx δ n):
  aq (aw 8 (bj (cg [af,ae 5,ae 1] (dF (wB eZ ⇑26)) (aD 0) (cT (w2 ⇑147 ⇑72 b7)) ↥0))) (aq (cw (aC oG (ao ↥0 (ao (cS 5) (ao ↥8 ak)))) (eC 2 (bG (aD 9) (bG (aD 10) cM)))) (aq (a8 6 ↥9) (aU (gm ↥10) (aD 7) (aL (cT (w2 ↥7 (cS 5) (e9 ah))) (a8 5 ↥7) aG))))
   [ae (.w .tp),↑(.list (ws.map dA)),↑d,ae (.own bl),↑(dA want),ae (.own ⇑28),ae (.own (acts.map Ac.d)),x7,x8,x9,x10] n K:=by
 refine aB (show aw 8 _ _ _ _ from bb ?_);unfold cg dF;refine aT ⇑41;refine Al ⟨by omega,by rw[Aa];omega⟩ ?_;rw[Br,Aa];refine RL ws ks ?_;sleep 0;refine aB ?_;unfold cw;have ol:(kD ws ks).length<=6:=Bj (Gu _ _) (by rw[Eb];exact hwl);refine bF (au rfl (nh rfl ⇑41));refine Cr ks (Cr (kD ws ks) (Cr ws ⟨rfl,by omega,O.ok,TR hw0,by omega,λb hb=>QU hb,by omega,λact n' hfs hri hn'=>?_⟩));refine Al rfl ?_;sleep 15;refine aB (lN rfl ⇑31 ⇑22 ?_);sleep 0;unfold aU gm;refine au rfl ?_;dsimp only;have hbs:=vP hfs.1;refine f7 (λds δ n''=>∃(ks' dn bs':List Str)(x7:Option SV),ds=bs'.map .str/\dn++bs'=act.bs/\(∀k,k∈ks'↔k∈ks++dn)/\n''=n'/\δ=[ae (.w .tp),↑(.list (ws.map dA)),↑d,ae (.own bl),↑(dA want),ae (.own (ks'.map .str)),ae (.own (acts.map Ac.d++[act.d])),x7,↑(.list ((kD ws ks).map λb=>.int (b:Nat))),↑act.d,↑(.list (act.bs.map .str))]/\ks'.length+bs'.length<=ks.length+4)
  (λδ n'' I=>?_) (λe r' δ n'' N I kN'=>?_) _ _ _ ⟨ks,[],act.bs,x7,rfl,rfl,λk=>by simp,rfl,rfl,by have:=hbs.2;omega⟩
 ·obtain⟨ks',dn,bs',x7,e,hdn,hm,rfl,rfl,hk'⟩:=I;cases Ga.mp e.symm;rw[Bp]at hdn;subst hdn;have hm':∀k,k∈ks'↔k∈want++(acts++[act]).flatMap Ac.bs:=λk=>by
   rw[hm k,A9,O.mem k,G7,<-Bm,A9 (s:=want++acts.flatMap Ac.bs)];simp
  refine kN _ _ ⟨ks',acts++[act],_,_,_,_,_,by rw[A7];rfl,⟨hm',λk z=>?_,λa z=>?_,NB O.ri (λk z=>(O.mem k).mp z) hri⟩,by omega,by rw[An,A3];omega,by omega⟩
  ·exact(A9.mp ((hm k).mp z)).elim (O.ok k) (hbs.1 k)
  ·rcases A9.mp z with z|z
   ·exact O.fs a z
   ·rw[Ba]at z;subst z;exact hfs
 ·obtain⟨ks',dn,bs',x7,e',hdn,hm,rfl,rfl,hk'⟩:=I;obtain⟨s,bs'',rfl,rfl,rfl⟩:=Ew.mp e'.symm;rw[Ay]at hk';sleep 13;have hdn':(dn++[s])++bs''=act.bs:=by rw[Bm];exact hdn
  refine cV (ar (au rfl (nh rfl (Al rfl ⟨qg ks',?_⟩))));refine o3 (λz=>?_) (λz=>?_)
  ·refine lN rfl ⇑31 ⇑22 (kN' _ _ ⟨ks'++[s],dn++[s],bs'',↑(.str s),rfl,hdn',λk=>?_,rfl,?_,by rw[An,A3];omega⟩)
   ·rw[A9,hm k,<-Bm,A9 (s:=ks++dn)]
   ·rw[A7];rfl
  ·have hs:s∈ks':=by
    have z':(!bS (.str s) (ks'.map .str))=ai:=z;rw[lF]at z';simpa using z'
   refine kN' _ _ ⟨ks',dn++[s],bs'',↑(.str s),rfl,hdn',λk=>?_,rfl,rfl,by omega⟩;rw[<-Bm,A9 (s:=ks++dn),Ba,<-hm k];exact⟨.inl,λq=>q.elim id λe=>e▸hs⟩
def xD(n0:Int)(ds:List Ad)(δ:Sl)(n:Int):Prop:=∃(more:List ⇑57)(x2:Option SV),δ=[ae (.w .tp),ae (.own (([]::more).map dA)),x2,af,af,af,af,af,af,af,af]/\more.length+ds.length<=5/\(∀w∈more,w∈ir)/\n+⇑84<=n0+6
def pW(ws:List ⇑57)(n0:Int)(ds:List Ad)(δ:Sl)(n:Int):Prop:=∃(bl:List Bl)(re:List ⇑57)(x2 x4 x5 x6 x7 x8 x9 x10:Option SV),
 δ=[ae (.w .tp),↑(.list (ws.map dA)),x2,ae (.own (bl.map d9)),x4,x5,x6,x7,x8,x9,x10]/\ds=re.map dA/\bl.map (·.1)++re=ws/\(∀b∈bl,kU b/\kX ws b)/\n+90*⇑84<=n0+600
theorem PQ{bl:List Bl}(hw:∀w∈ws,w∈ir)(hw0:ws=[]::w0)(hwl:ws.length<=6)(hn0:n0+600 < 2 ^ 39)(hb:bl.map (·.1)++want::re=ws)(hbo:∀b∈bl,kU b/\kX ws b)(hn:n+90*((re.length:Int)+1)<=n0+600)
  (kN:∀δ n,pW ws n0 (re.map dA) δ n->K.nx δ n):
  aq (bo 5 (ly ↥4)) (aq (bo 6 (aQ ak)) (aq (aU (dF (w2 (bj (aQ (ao ⇑2 (ao ⇑1 (ao ⇑3 (ao ⇑2 (ao ⇑0 (ao ⇑1 (ao ⇑2 (ao ⇑3 ak)))))))))) (aC b9 (ao ↥0 (ao ⇑8 ak))) aV)) (aD 2) (aq (aw 8 (bj (cg [af,ae 5,ae 1] (dF (wB eZ ⇑26)) (aD 0) (cT (w2 ⇑147 ⇑72 b7)) ↥0))) (aq (cw (aC oG (ao ↥0 (ao (cS 5) (ao ↥8 ak)))) (eC 2 (bG (aD 9) (bG (aD 10) cM)))) (aq (a8 6 ↥9) (aU (gm ↥10) (aD 7) (aL (cT (w2 ↥7 (cS 5) (e9 ah))) (a8 5 ↥7) aG)))))) (bW 6 (a8 3 (aA (ao ↥4 (ao (wB gC ⇑66) ak)))))))
   [ae (.w .tp),↑(.list (ws.map dA)),x2,ae (.own (bl.map d9)),↑(dA want),x5,x6,x7,x8,x9,x10] n K:=by
 obtain⟨hss,hso,hnd,hup⟩:=NA (hw want (by rw[<-hb];exact Bk _ Au));have hbl:bl.length+(re.length+1)<=6:=by rw[<-hb,An,Aa,Ay]at hwl;exact hwl
 refine aB (IJ (ds:=want.map .str) rfl ?_);sleep 0;refine aB (i7 ?_);sleep 0;refine aB (GS (L:=[.int 2,.int 1,.int 3,.int 2,.int 0,.int 1,.int 2,.int 3]) (M:=8) rfl (λQ q=>bb (Al ∎ q)) ⋯ rfl ∎ ∎ (λd hd=>?_) ∎ λj hj=>?_)
 ·sleep 24;rcases hd with rfl|rfl|rfl|rfl|rfl|rfl|rfl|rfl
  ·sleep 20
  ·exact⟨1,by decide,rfl⟩
  ·exact⟨3,by decide,rfl⟩
  ·sleep 20
  ·exact⟨0,by decide,rfl⟩
  ·exact⟨1,by decide,rfl⟩
  ·sleep 20
  ·exact⟨3,by decide,rfl⟩
 refine f7 (oW ws (bl.map d9) want n) (λδ n' I=>?_) (λd r' δ n' N I kN'=>?_) _ _ _ ⟨want,[],_,_,_,_,_,rfl,⟨λk=>by simp,hso,λa ha=>by simp at ha,λp a ha=>by simp at ha⟩,by rw[fw];omega,by rw[fw];simpa using hj,by rw[fw];omega⟩
 ·obtain⟨ks,acts,y2,y7,y8,y9,y10,rfl,O,_,ha,hn'⟩:=I;sleep 19;sleep 0;refine jd rfl (cK (au rfl (aT (au rfl (l4 ?_)))));have ha':acts.length<=8:=by simpa using ha
  refine Al ⇑18 (Al ⇑22 (kN _ _ ⟨bl++[(want,acts)],re,_,_,_,_,_,_,_,_,by rw[A7];rfl,rfl,by rw[A7,Bm];exact hb,λb z=>?_,?_⟩))
  ·rcases A9.mp z with z|z
   ·exact hbo b z
   ·rw[Ba]at z;subst z;exact⟨⟨hss,hso,ha',O.fs,hnd,hup⟩,O.ri⟩
  ·have h0:n'<=n+89:=by simpa using hn'
   rw[Aa];omega
 ·obtain⟨ks,acts,y2,y7,y8,y9,y10,rfl,O,hk,ha,hn'⟩:=I;rw[Ay]at hk ha hn';sleep 13;exact KQ hw0 hwl ⋯ O hk ha ⋯ kN'
theorem M8:cD uV ED ["_law_tape_here","_law_wants","_law_k","_law_blocks","_law_want","_law_known_here","_law_acts","_law_name","_law_open_ones","_law_act_here","_law_bound"]:=λws n0 Q h=>by
 obtain⟨rfl,hn0,k⟩:=h;show ED [ae (.w .tp),af,af,af,af,af,af,af,af,af,af] n0 _;refine aB (show bo 1 _ _ _ _ from Al (A6 _) (Al ∎ ?_));sleep 0;refine aB (GS (L:=[.int 0,.int 1,.int 0,.int 1,.int 2]) (M:=5) rfl (λQ q=>bb (Al ∎ q)) ⋯ rfl ∎ ∎ (λd hd=>?_) ∎ λj hj=>?_)
 ·sleep 24;rcases hd with rfl|rfl|rfl|rfl|rfl
  ·exact⟨0,by decide,rfl⟩
  ·exact⟨1,by decide,rfl⟩
  ·exact⟨0,by decide,rfl⟩
  ·exact⟨1,by decide,rfl⟩
  ·sleep 20
 refine f7 (xD n0) (λδ n I=>?_) (λd r δ n N I kN=>?_) _ _ _ ⟨[],af,rfl,by rw[fw];simpa using hj,λd hd=>by simp at hd,by rw[fw];omega⟩
 ·obtain⟨more,x2,rfl,hl,hm,hn⟩:=I;dsimp only;refine aB (i7 ?_);sleep 0;refine iu rfl ?_;sleep 0;refine aB ?_;unfold aU gm;refine au rfl ?_;dsimp only;have hw:∀w∈([]:List Str)::more,w∈ir:=λd hd=>by
   rcases Ax.mp hd with rfl|z
   ·simp[ir]
   ·exact hm d z
  have hwl:(([]:List Str)::more).length<=6:=by rw[Ay];simp at hl;omega
  refine f7 (pW ([]::more) n0) (λδ n' I=>?_) (λd r δ n' N I kN=>?_) _ _ _ ⟨[],[]::more,_,_,_,_,_,_,_,_,rfl,rfl,rfl,λb hb=>by simp at hb,?_⟩
  ·obtain⟨bl,re,y2,y4,y5,y6,y7,y8,y9,y10,rfl,er,hb,hbo,hn'⟩:=I;cases Ga.mp er.symm;rw[Bp]at hb;sleep 19;sleep 0;refine bx (aT (au rfl (l4 (k bl n' ⟨by have:=congrArg D8 hb;simp at this;omega,?_,λb z=>⟨(hbo b z).1,by rw[hb];exact(hbo b z).2⟩⟩ ⟨_,hb⟩ (by simpa using hn')))));rw[<-hb,Aa]at hwl;exact hwl
  ·obtain⟨bl,re,y2,y4,y5,y6,y7,y8,y9,y10,rfl,er,hb,hbo,hn'⟩:=I;obtain⟨want,re,rfl,rfl,rfl⟩:=Ew.mp er.symm;rw[Ay,Aa]at hn';sleep 13;exact PQ hw rfl hwl hn0 hb hbo ⋯ kN
  ·have h1:n<=n0+6:=by simpa using hn
   have h2:(((([]:List Str)::more).map dA).length:Int)<=6:=by rw[Aa];omega
   omega
 ·obtain⟨more,x2,rfl,hl,hm,hn⟩:=I;rw[Ay]at hl hn;sleep 13;refine jd rfl (ar (bb (Al ∎ (Al ∎ (Al ∎ (Al ∎ (Al ∎ (Al ∎ ?_))))))));dsimp only;refine ia (m:=5) rfl ⋯ ∎ ∎ λq q0 q1=>jC (ds:=[dA [],dA ["n"],dA ["go","n"],dA ["nm"],dA []]) q0 q1 λw hw=>?_;have:∃v∈ir,w=dA v:=by
   simp only[Ax,A8,or_false]at hw;rcases hw with rfl|rfl|rfl|rfl|rfl
   ·exact⟨[],by simp[ir],rfl⟩
   ·exact⟨["n"],by simp[ir],rfl⟩
   ·exact⟨["go","n"],by simp[ir],rfl⟩
   ·exact⟨["nm"],by simp[ir],rfl⟩
   ·exact⟨[],by simp[ir],rfl⟩
  obtain⟨v,hv,rfl⟩:=this;refine Al (by rw[Aa,Ay];omega) (kN _ _ ⟨more++[v],↑d,?_,by rw[An,A3];omega,λe he=>?_,by omega⟩)
  ·rw[show([]::(more++[v]):List ⇑57)=([]::more)++[v]from rfl,A7];rfl
  rcases A9.mp he with z|z
  ·exact hm e z
  ·rw[Ba]at z;subst z;exact hv
section
variable{δ:Sl}{n:Int}{K:DEnds}{i:Nat}{s a b c:Str}{r:List Ad}{k:Bool}{Q:Bool->Int->Prop}
theorem DU(e:δ[i]?=ae (↑(.tuple (.str s::r))))(h:bS (.str s) [.str a,.str b,.str c]=k)(q:Q k n):cT (w2 (w2 (aj i) ⇑49 av) (aA (ao (wC (.str a)) (ao (wC (.str b)) (ao (wC (.str c)) ak)))) (fc ai)) δ n Q:=by
 refine ar (df e ?_);show 3<=1000/\fB (.str s)=ah/\_/\Q (bS (.str s) [.str a,.str b,.str c]) n;exact⟨by decide,rfl,rfl,by rw[h];exact q⟩
theorem iF(e:δ[i]?=ae (↑(.tuple (.str s::r))))(h:bS (.str s) [.str a,.str b]=k)(q:Q k n):cT (w2 (w2 (aj i) ⇑49 av) (aA (ao (wC (.str a)) (ao (wC (.str b)) ak))) (fc ai)) δ n Q:=by
 refine ar (df e ?_);show 2<=1000/\fB (.str s)=ah/\_/\Q (bS (.str s) [.str a,.str b]) n;exact⟨by decide,rfl,rfl,by rw[h];exact q⟩
theorem oD(ha:∀Q:Bool->Int->Prop,Q ai n->A δ n Q)(q:Q ai n):dq A B δ n Q:=ha _ (by show if ai=ah then _ else _;rw[if_neg Ai];exact q)
end
theorem LL(e:δ[i]?=ae (ae (.own es)))(k:w δ n λx n1=>match x with
  |.d (.list fs)=>(es.length < 1000000/\fs.length < 1000000)/\K.nx (δ.set i (ae (.own (es++fs)))) n1
  |_=>False):gv i w δ n K:=by
 unfold gv;rw[e];exact k
theorem IZ:cD uJ AI ["_law_program_here","_law_block","_law_place","_law_found","_law_act_here"]:=λws n Q h=>by
 obtain⟨bs,i,p,⟨w,as⟩,rfl,hi,⟨hb1,hb2,hb3,hb4,_,_⟩,hp,k⟩:=h;dsimp only at hb1 hb2 hb3 hb4 hp k;have hi':(bs.map d9)[i]?=ae (d9 (w,as)):=by rw[Am,hi];rfl
 show AI [↑(.tuple (bs.map d9)),↑(.int i),↑(.int p),af,af] n _;refine aB (show bo 3 (ly _) _ _ _ from ar (ar (au rfl (au rfl (bf hi' (aF (cY ?_)))))));dsimp only[dA,Ao];refine aB ?_;unfold aU c9 d4;refine ar (ar (au rfl (au rfl (bf hi' (aF (eS ?_))))));dsimp only[eB,dJ];refine au rfl ?_;dsimp only;rw[uK _ (by rw[Aa];exact hp),<-List.map_take];refine f7 (λds δ n'=>∃(dn re:List Ac)(L:List Str)(x:Option SV),ds=re.map Ac.d/\dn++re=as.take p/\n'=n/\δ=[↑(.tuple (bs.map d9)),↑(.int i),↑(.int p),ae (.own (L.map .str)),x]/\KnI w dn L) (λδ n' I=>?_) (λd r δ n' N I kN=>?_) _ _ _
  ⟨[],as.take p,w,af,rfl,rfl,rfl,rfl,KnI.first hb1 hb2⟩
 ·obtain⟨dn,re,L,x,e,hdn,rfl,rfl,I⟩:=I;cases Ga.mp e.symm;rw[Bp]at hdn;subst hdn;sleep 19;sleep 0;have hl:(as.take p).length<=8:=Bj (List.length_take_le _ _) ⋯;have hI:=I.len;refine bx (bb (show xB _ _ _ _ from au rfl ?_));exact Cr L ⟨.inl rfl,by omega,λx hx=>Bj (I.ok x hx).1 ∎,λys a b c=>k ys a (λz hz=>I.ok z ((b z).mp hz)) c λz=>(b z).trans (I.mem z)⟩
 ·obtain⟨dn,re,L,x,e,hdn,rfl,rfl,I⟩:=I;obtain⟨a,re,rfl,rfl,rfl⟩:=Ew.mp e.symm;sleep 13;have ha:eR a.fs:=(hb4 a (List.mem_of_mem_take (i:=p) (by rw[<-hdn];exact Bk _ Au))).1;have hlen:L.length<=36:=by
   have h1:dn.length+(re.length+1)=(as.take p).length:=by rw[<-hdn,An,Ay]
   have h3:=I.len;have h4:(as.take p).length<=as.length:=G2 _ _;omega
  have hdn':(dn++[a])++re=as.take p:=by rw[Bm];exact hdn
  have nxt:∀L',KnI w (dn++[a]) L'->N [↑(.tuple (bs.map d9)),↑(.int i),↑(.int p),ae (.own (L'.map .str)),↑a.d] n':=λL' I'=>kN _ _ ⟨dn++[a],re,L',_,rfl,hdn',rfl,rfl,I'⟩;have get:∀(K:DEnds)(hK:∀δ n,N δ n->K.nx δ n)(s:Str)(fs:List Fe)(r:List Ad),a.d=.tuple (.str s::cE fs::r)->bS (.str s) [.str "take",.str "read",.str "look"]=ah->a.bs=bu fs->a.fs=fs->aL (cT (w2 (w2 ↥4 ⇑0 av) (aA (ao ⇑101 (ao (wC (.str "read")) (ao (wC (.str "look")) ak)))) (fc ai))) (gv 3 (bj (cg [af] (c9 (w2 ↥4 ⇑1 av)) (aD 0) (cT (w2 ⇑42 ⇑52 aZ)) ⇑30))) aG
    [↑(.tuple (bs.map d9)),↑(.int i),↑(.int p),ae (.own (L.map .str)),↑a.d] n' K:=λK hK s fs r e1 e2 e3 e4=>by
   rw[e1]at nxt ⊢;refine bC (λQ q=>DU rfl e2 q) ?_;have hb:(bu fs).length<=4:=rO (e4▸ha);refine LL rfl (bb (gD (ds:=fs.map Fe.d) (λQ q=>cj rfl q) (Pq fs n' ?_)));refine Al ⟨by rw[Aa];omega,by rw[Aa];omega⟩ ?_;have:=nxt (L++bu fs) (I.more (λk=>by rw[e3]) hb ha);rw[A7]at this;exact hK _ _ this
  have skip:∀(K:DEnds)(hK:∀δ n,N δ n->K.nx δ n)(s:Str)(r:List Ad),a.d=.tuple (.str s::r)->bS (.str s) [.str "take",.str "read",.str "look"]=ai->a.bs=[]->aL (cT (w2 (w2 ↥4 ⇑0 av) (aA (ao ⇑101 (ao (wC (.str "read")) (ao (wC (.str "look")) ak)))) (fc ai))) (gv 3 (bj (cg [af] (c9 (w2 ↥4 ⇑1 av)) (aD 0) (cT (w2 ⇑42 ⇑52 aZ)) ⇑30))) aG
    [↑(.tuple (bs.map d9)),↑(.int i),↑(.int p),ae (.own (L.map .str)),↑a.d] n' K:=λK hK s r e1 e2 e3=>by
   rw[e1]at nxt ⊢;refine aX (λQ q=>DU rfl e2 q) (hK _ _ (nxt L (I.skip e3)))
  cases a with
  |lay fs age=>exact skip _ (λ_ _ z=>z) "lay" [cE fs,age] rfl ∅ rfl
  |take fs=>exact get _ (λ_ _ z=>z) "take" fs [] rfl ∅ rfl rfl
  |read fs=>exact get _ (λ_ _ z=>z) "read" fs [] rfl ∅ rfl rfl
  |look fs b=>exact get _ (λ_ _ z=>z) "look" fs [.int b] rfl ∅ rfl rfl
  |same f g b=>exact skip _ (λ_ _ z=>z) "same" [f.d,g.d,.int b] rfl ∅ rfl
  |go b=>exact skip _ (λ_ _ z=>z) "go" [.int b] rfl ∅ rfl
theorem xQ{α:Type}{f:α->Ad}{P:α->Prop}:∀{ds:List Ad},(∀d∈ds,∃x,P x/\d=f x)->∃xs:List α,ds=xs.map f/\∀x∈xs,P x
 |[],_=>⟨[],rfl,λx hx=>by simp at hx⟩
 |d::r,h=>by
  obtain⟨x,hx,rfl⟩:=h d Au;obtain⟨xs,rfl,hxs⟩:=xQ λe he=>h e (Ap _ he);exact⟨x::xs,rfl,λy hy=>(Ax.mp hy).elim (λe=>e▸hx) (hxs y)⟩
def tP(m:Nat)(n0:Int)(ds:List Ad)(δ:Sl)(n:Int):Prop:=∃(ns:List Nt)(x y:Option SV),δ=[ae (.w .tp),↑(.int m),ae (.own (ns.map dy)),x,y]/\ns.length+ds.length<=m/\(∀q∈ns,qM q)/\n+6*⇑84<=n0+100
theorem N6:cD nM zf ["_law_tape_here","_law_most","_law_found","_law_k","_law_row"]:=λws n0 Q h=>by
 obtain⟨m,rfl,hm,hn0,k⟩:=h;show zf [ae (.w .tp),↑(.int m),af,af,af] n0 _;refine aB (i7 ?_);sleep 0;refine aB ?_;unfold aU dF;refine gO (m:=(m:Int)+1) rfl ⇑102 ⋯ ⋯ ⋯ λr r0 r1=>?_;sleep 27;have hr:r.toNat<=m:=by omega
 refine f7 (tP m n0) (λδ n I=>?_) (λd r' δ n N I kN=>?_) _ _ _ ⟨[],af,af,rfl,by rw[fw];simpa using hr,λd hd=>by simp at hd,by rw[fw];omega⟩
 ·obtain⟨ns,x,y,rfl,hl,hns,hn⟩:=I;sleep 19;sleep 0;exact bx (aT (au rfl (l4 (k ns n ⟨by simpa using hl,hns⟩ (by simpa using hn)))))
 ·obtain⟨ns,x,y,rfl,hl,hns,hn⟩:=I;rw[Ay]at hl hn;sleep 13;refine aB (show aw 4 _ _ _ _ from aT (bb ?_));unfold cg;dsimp only;refine dQ (au rfl (Al rfl ⟨by omega,λs s1 s4=>?_⟩));sleep 27;rw[Br];refine qT (λv=>cv v=ah) 1 (λd n Q' hn q=>dQ (au rfl (Al rfl ⟨by omega,λv hv=>q v _ (pX hv) ⋯⟩))) _ [] af _ (by rw[fw];omega) λrow n' hrl hrow hn'=>?_;rw[fw]at hrl hn';rw[Bu];refine l4 ?_;sleep 0;refine jd rfl (cK (au rfl (zN rfl ⋯ λv hv=>?_)));refine Al ⇑18 (Al ⇑22 (kN _ _ ⟨ns++[(row,v)],_,_,by rw[A7];rfl,by rw[An,A3];omega,λe he=>?_,by omega⟩));rcases A9.mp he with z|z
  ·exact hns e z
  ·rw[Ba]at z;subst z;exact⟨⟨⟨by show row.length<=4;omega,by show 1<=row.length;omega⟩,hrow⟩,AY hv⟩
theorem fm(k:Q (.d (.int (i+j))) n):cC (λi j=>.int (i+j)) (.d (.int i)) (.d (.int j)) n Q:=k
theorem AX:∀(ys:List Str)(acc:Nm)(x:Option SV)(n:Int),n+(ys.length:Int) < 2 ^ 39->(∀p∈acc,cv p.2=ah)->(∀(nm:Nm)(n':Int),nm.map (·.1)=acc.map (·.1)++ys->(∀p∈nm,cv p.2=ah)->n'<=n+(ys.length:Int)->Q (nm.map gN) n')->
  cJ (aD 0) bJ (aA (ao ↥0 (ao (aC jk ⇑26) ak))) Q (ys.map .str) (acc.map gN) [x,ae (.w .tp)] n
 |[],acc,x,n,_,ha,q=>q acc n (by rw[Bp]) ha ⋯
 |y::ys,acc,x,n,hn,ha,q=>by
  rw[Ay]at hn q;simp only[Bc,cJ,aD,bJ,if_true,Dl];refine cK (au rfl (dQ (au rfl (Al rfl ⟨by omega,λv hv=>Al ⇑18 ?_⟩))));have:=AX (Q:=Q) ys (acc++[(y,v)]) (↑(.str y)) (n+1) ⋯ (λp hp=>(A9.mp hp).elim (ha p) λz=>by rw[Ba.mp z];exact pX hv) λnm n' e hm hn'=>q nm n' (by rw[e,A7,Bm];rfl) hm ⋯;rw[A7]at this;exact this
theorem Qk(as:List Ac)(h:∀a∈as,kc a):(as.flatMap Ac.bs).length<=4*as.length:=by
 induction as with
 |nil=>exact A6 _
 |cons a r ih=>
  rw[List.flatMap_cons,An,Ay];have:=(vP (h a Au).1).2;have:=ih λb hb=>h b (Ap _ hb);omega
theorem FO(ob:kU b)(p):(kn b.1 b.2 p).length<=36:=by
 unfold kn;rw[An];have:=Qk (b.2.take p) λa ha=>ob.2.2.2.1 a (List.mem_of_mem_take ha);have:=List.length_take_le p b.2;have:=ob.1;have:=ob.2.2.1;have:=G2 p b.2;omega
def PJ(ps:Pg)(mm:Nat)(n0:Int)(ds:List Ad)(δ:Sl)(n:Int):Prop:=∃(hs:List Hn)(re:Pg)(x4 x5 x6 x7:Option SV),δ=[ae (.w .tp),↑(bw ps),↑(.int mm),ae (.own (hs.map bM)),x4,x5,x6,x7]/\ds=re.map dR/\re=ps.drop hs.length/\hs.length<=ps.length /\
 (∀(i:Nat)(P:List Bl),i < hs.length->ps[i]?=ae P->∃(h:Hn)(b:Bl),hs[i]?=ae h/\P[h.1]?=ae b/\okHn b h)/\n+42*⇑84<=n0+210
theorem TU:cD rT Iu ["_law_tape_here","_law_programs","_law_most","_law_hands","_law_program_here","_law_block","_law_place","_law_names"]:=λws n0 Q h=>by
 obtain⟨ps,mm,rfl,hmm,⟨hpl,hps⟩,hn0,k⟩:=h;show Iu [ae (.w .tp),↑(bw ps),↑(.int mm),af,af,af,af,af] n0 _;refine aB (i7 ?_);sleep 0;refine aB ?_;unfold aU c9;refine au rfl ?_;dsimp only[bw];refine f7 (PJ ps mm n0) (λδ n I=>?_) (λd r δ n N I kN=>?_) _ _ _ ⟨[],ps,af,af,af,af,rfl,rfl,rfl,A6 _,λi P hi=>absurd hi (Nat.not_lt_zero _),by rw[Aa];omega⟩
 ·obtain⟨hs,re,x4,x5,x6,x7,rfl,er,hre,hle,hok,hn⟩:=I;have e0:=Ga.mp er.symm;rw[e0]at hre;have hlen:ps.length<=hs.length:=List.drop_eq_nil_iff.mp hre.symm;sleep 19;sleep 0;refine bx (cK (aT (au rfl (cq (au rfl (au rfl (Cr mm ⟨rfl,by omega,by simp at hn;omega,λns n' hns hn'=>?_⟩)))))));exact Al ⇑18 (k hs ns n' ⟨by omega,λi P hi=>hok i P (by have:=(Ar.mp hi).1;omega) hi⟩ hns (by simp at hn;omega))
 ·obtain⟨hs,re,x4,x5,x6,x7,rfl,er,hre,hle,hok,hn⟩:=I;obtain⟨P,re',rfl,rfl,rfl⟩:=Ew.mp er.symm;rw[Ay,Aa]at hn;have hlt:hs.length < ps.length:=by
   have:=congrArg D8 hre;rw[Ay,C1]at this;omega
  have hcons:=F8 hlt;rw[<-hre]at hcons;obtain⟨hP,hre'⟩:=Fz hcons;have hPg:ps[hs.length]?=ae P:=by rw[Ae hlt,hP]
  obtain⟨g1,g2,g3⟩:=hps P (A0 hPg);sleep 13;refine aB (show aw 5 _ _ _ _ from gO (m:=(P.map d9).length) rfl ⇑117 ⋯ ⇑22 ⇑22 λr r0 r1=>?_);rw[Aa]at r1;obtain⟨b,hb⟩:∃b:Nat,r=(b:Int):=⟨r.toNat,by omega⟩;subst hb;have hbl:b < P.length:=by omega
  obtain⟨bl,hbl'⟩:∃bl:Bl,P[b]?=ae bl:=⟨P[b],Ae hbl⟩;obtain⟨w,as⟩:=bl;have hi':(P.map d9)[b]?=ae (d9 (w,as)):=by rw[Am,hbl'];rfl
  obtain⟨ob,_⟩:=g3 (w,as) (A0 hbl');have has:as.length<=8:=ob.2.2.1;sleep 0;refine aB (show aw 6 _ _ _ _ from gO (m:=((as.map Ac.d).length:Int)+1) rfl (λQ q=>ar (aT (ar (ar (au rfl (au rfl (bf hi' (aF (eS ?_)))))))) ) ⋯ ⋯ ⇑22 λr r0' r1'=>?_)
  ·exact fm q
  rw[Aa]at r1';obtain⟨p,hp⟩:∃p:Nat,r=(p:Int):=⟨r.toNat,by omega⟩;subst hp;sleep 0;refine aB (show aw 7 _ _ _ _ from aT (bb ?_));unfold cg gm;dsimp only;refine bF (au rfl (au rfl (au rfl (Cr P ⟨b,p,(w,as),rfl,hbl',ob,by show p<=as.length;omega,λys hnd hyo hup hmem=>?_⟩))));have hys:ys.length<=36:=Bj (yc hnd λz hz=>(hmem z).mp hz) (FO ob p);dsimp only;refine AX ys [] af _ ⋯ (λp hp=>by simp at hp) λnm n' hnm hnv hn'=>?_;rw[Ei,Bu]at hnm;have hnl:nm.length=ys.length:=by rw[<-hnm,Aa]
  have onm:okHn (w,as) (b,p,nm):=⟨by show p<=as.length;omega,by show(nm.map (·.1)).Nodup;rw[hnm];exact hnd,λq hq=>⟨hyo _ (by rw[<-hnm];exact Bf.mpr ⟨q,hq,rfl⟩),hnv q hq⟩,(by have q:i8 (nm.map (·.1)):=(by rw[hnm];exact hup);unfold i8 at q;rw[Gp]at q;exact q),λk=>by show k∈nm.map (·.1)↔_;rw[hnm];exact hmem k,by show nm.length<=40;omega⟩;dsimp only[eG,Ao];refine jd rfl (i6 (au rfl (au rfl ⇑41)));refine Al ⇑86 (Al ⇑22 (kN _ _ ⟨hs++[(b,p,nm)],re',_,_,_,_,by rw[A7];rfl,rfl,by rw[An,A3];exact hre',by rw[An,A3];omega,λi P' hi hP'=>?_,by rw[Aa];omega⟩));rw[An,A3]at hi;by_cases z:i < hs.length
  ·obtain⟨h,b',q1,q2,q3⟩:=hok i P' z hP';exact⟨h,b',by rw[Et z];exact q1,q2,q3⟩
  ·have z':i=hs.length:=by omega
   subst z';rw[hPg]at hP';cases hP';exact⟨(b,p,nm),(w,as),by simp,hbl',onm⟩
theorem gg(hu:∀Q:Bool->Int->Prop,Q b n->u δ n Q)(k:if b=ah then v δ n Q else w δ n Q):eu u v w δ n Q:=hu _ k
theorem l5{α:Type}{aE:Sl}(f g)(p):∀(xs:List α)(acc:List Ad)(x:Option SV)(n:Int),(∀a∈xs,∀(n:Int)(Q':Bool->Int->Prop),Q' (p a) n->c (↑(f a)::aE) n Q')->(∀a∈xs,∀(n:Int)(Q':DQ),Q' (.d (g a)) n->w (↑(f a)::aE) n Q')->Q (acc++(xs.filter p).map g) n->cJ (aD 0) c w Q (xs.map f) acc (x::aE) n
 |[],acc,x,n,_,_,q=>by rw[List.filter_nil,Ei,Bp]at q;exact q
 |a::r,acc,x,n,hp,h,q=>by
  simp only[Bc,cJ,aD,Dl];refine hp a Au n _ ?_;cases e:p a with
  |true=>
   simp only[if_true];refine h a Au n _ (l5 f g p r (acc++[g a]) _ n (λb hb=>hp b (Ap _ hb)) (λb hb=>h b (Ap _ hb)) ?_);rw[D4,if_pos e,Bc]at q;rw[Bm];exact q
  |false=>
   simp only[B3,if_false];refine l5 f g p r acc _ n (λb hb=>hp b (Ap _ hb)) (λb hb=>h b (Ap _ hb)) ?_;rw[D4,if_neg (by rw[e];exact Ai)]at q;exact q
structure HandAt(ps:Pg)(hs:List Hn)(h:Nat)(P:List Bl)(xb xp:Nat)(nm:Nm)(w:List Str)(as:List Ac):Prop where
 prog:ps[h]?=ae P
 hand:hs[h]?=ae ⇑20
 blk:P[xb]?=ae (w,as)
 hn:okHn (w,as) ⇑20
theorem iQ(ok:okHs ps hs)(hh:h < ps.length):∃P xb xp nm w as,HandAt ps hs h P xb xp nm w as:=by
 have hP:ps[h]?=ae ps[h]:=Ae hh;obtain⟨⟨xb,xp,xn⟩,⟨w,as⟩,e1,e2,e3⟩:=ok.2 h _ hP;exact⟨_,xb,xp,xn,w,as,hP,e1,e2,e3⟩
section
variable{ps:Pg}{hs:List Hn}{h:Nat}{P:List Bl}{xb xp:Nat}{nm:Nm}{w:List Str}{as:List Ac}
theorem HandAt.act(H:HandAt ps hs h P xb xp nm w as):bI ps hs h=as[xp]?:=by
 unfold bI;rw[H.prog,H.hand];show(P[xb]?.bind λb=>b.2[xp]?)=_;rw[H.blk];rfl
theorem HandAt.nms(H:HandAt ps hs h P xb xp nm w as):okN nm:=H.hn.n
theorem HandAt.nmq(H:HandAt ps hs h P xb xp nm w as):vO hs h=nm:=by unfold vO;rw[H.hand];rfl
theorem HandAt.ok(H:HandAt ps hs h P xb xp nm w as)(ok:cf ps)(e:bI ps hs h=ae a):kc a:=by
 rw[H.act]at e;have hP:=(ok.2 P (A0 H.prog)).2.2 (w,as) (A0 H.blk);exact hP.1.2.2.2.1 a (A0 e)
theorem HandAt.hD(H:HandAt ps hs h P xb xp nm w as):(hs.map bM)[h]?=ae (.tuple [.int xb,.int xp,bO nm]):=by rw[Am,H.hand];rfl
theorem HandAt.pD(H:HandAt ps hs h P xb xp nm w as):(ps.map dR)[h]?=ae (.tuple (P.map d9)):=by rw[Am,H.prog];rfl
theorem HandAt.bD(H:HandAt ps hs h P xb xp nm w as):(P.map d9)[xb]?=ae (.tuple [dA w,.tuple (as.map Ac.d)]):=by rw[Am,H.blk];rfl
end
theorem HQ{i j xp:Nat}{as:List Ac}(e4:δ[j]?=ae (↑(.int xp)))(e5:δ[i]?=ae (↑(.tuple (as.map Ac.d))))(k:Q (.d (kI as[xp]?)) n):eu (cT (w2 (aj j) (wB bg (ao (aj i) ak)) gf)) (w2 (aj i) (aj j) av) ⇑15 δ n Q:=by
 refine gg (b:=decide ((xp:Int) < ((as.map Ac.d).length:Nat))) (λQ q=>aI (λQ q=>ar (au e4 (aT (au e5 (uB q))))) q) ?_;rw[Aa];by_cases z:(xp:Int) < (as.length:Nat)
 ·rw[if_pos (decide_eq_true z)];have zl:xp < as.length:=by omega
  have ha:(as.map Ac.d)[xp]?=ae (Ac.d as[xp]):=by rw[Am,Ae zl];rfl
  rw[Ae zl]at k;exact ar (au e5 (au e4 (bf ha k)))
 ·rw[if_neg (by simpa using z)];rw[Cj ⋯]at k;exact aF k
theorem M7:cD mq zu ["programs","stand","hand","block","place","acts"]:=λws n Q h=>by
 obtain⟨ps,hs,ns,h,rfl,hok,hh,k⟩:=h;obtain⟨P,xb,xp,nm,w,as,H⟩:=iQ hok hh;rw[H.act]at k;show zu [↑(bw ps),↑⇑23,↑(.int h),af,af,af] n _;refine aB (bK (x:=.int xb) (λQ q=>ar (ar (ar (au rfl (aF (cY (au rfl (bf H.hD (aF (cY q)))))))))) ?_);sleep 0;refine aB (bK (x:=.int xp) (λQ q=>ar (ar (ar (au rfl (aF (cY (au rfl (bf H.hD (aF (eS q)))))))))) ?_);sleep 0;refine aB (bK (x:=.tuple (as.map Ac.d)) (λQ q=>ar (ar (ar (au rfl (au rfl (bf H.pD (au rfl (bf H.bD (aF (eS q)))))))))) ?_);sleep 0;exact bx (HQ rfl rfl k)
theorem BE:∀{row:List Ad},(∀d∈row,cv d=ah)->∃k:List aH,row=k.map DL.vD
 |[],_=>⟨[],rfl⟩
 |d::r,h=>by
  obtain⟨k,rfl⟩:=BE λe he=>h e (Ap _ he);have hd:=h d Au;cases d with
  |int i=>exact⟨.inl i::k,rfl⟩
  |str x=>exact⟨.inr x::k,rfl⟩
  |_=>cases hd
theorem oZ(k)(m):cm k (m+1)=.int k::cm (k+1) m:=by
 unfold cm;rw[List.range_succ_eq_map,Bc,B7]
 congr 1
 ·rw[show((0:Nat):Int)=0 from rfl,Int.add_zero]
 ·refine Df λi _=>?_;show Ff (k+((i+1:Nat):Int))=.int (k+1+(i:Int));have:k+((i+1:Nat):Int)=k+1+(i:Int):=by omega
  rw[this]
theorem xV(h:f.pt=ah):(Fe.fd f).d=f.d:=by cases f<;>first|rfl|cases h
theorem oJ(ok:eR fs)(h:hX fs):cE fs=bN ⇑98/\nc ⇑98:=by
 refine⟨?_,by rw[Aa];exact h.1,by rw[Aa];exact ok.1,λg hg=>?_⟩
 ·unfold cE bN;rw[B7]
  congr 1
  exact Df λf hf=>(xV (h.2 f hf)).symm
 ·obtain⟨f,hf,rfl⟩:=Bf.mp hg;have:=ok.2 f hf;cases f<;>first|exact this|trivial
theorem yN{a:Ac}(h:a.pf=af):a.wt=ai/\∃s r,a.d=.tuple (.str s::r)/\bS (.str s) [.str "take",.str "read",.str "look"]=ai/\bS (.str s) [.str "take",.str "read"]=ai:=by
 cases a with
 |lay fs age=>exact⟨rfl,"lay",_,rfl,by decide +kernel,by decide +kernel⟩
 |same f g b=>exact⟨rfl,"same",_,rfl,by decide +kernel,by decide +kernel⟩
 |go b=>exact⟨rfl,"go",_,rfl,by decide +kernel,by decide +kernel⟩
 |take fs=>cases h
 |read fs=>cases h
 |look fs b=>cases h
theorem qY(h:a.pf=ae fs)(ok:kc a):nc fs/\∃s r,a.d=.tuple (.str s::bN fs::r)/\bS (.str s) [.str "take",.str "read",.str "look"]=ah/\bS (.str s) [.str "take",.str "read"]=a.wt:=by
 cases a with
 |lay fs age=>cases h
 |same f g b=>cases h
 |go b=>cases h
 |take gs=>
  cases h;obtain⟨e,o⟩:=oJ (fs:=gs) ok.1 ok.2;exact⟨o,"take",[],by rw[<-e];rfl,by decide +kernel,show bS (.str "take") [.str "take",.str "read"]=ah by decide +kernel⟩
 |read gs=>
  cases h;obtain⟨e,o⟩:=oJ (fs:=gs) ok.1 ok.2;exact⟨o,"read",[],by rw[<-e];rfl,by decide +kernel,show bS (.str "read") [.str "take",.str "read"]=ah by decide +kernel⟩
 |look gs b=>
  cases h;obtain⟨e,o⟩:=oJ (fs:=gs) ok.1 ok.2;exact⟨o,"look",[.int b],by rw[<-e];rfl,by decide +kernel,show bS (.str "look") [.str "take",.str "read"]=ai by decide +kernel⟩
theorem uU(fs)(row)(nm):eU (dm fs row nm)=!cF fs row nm:=by
 unfold dm;cases cF fs row nm<;>rfl
theorem qG:aY fs nm (q::r)=if cF fs q.1 nm=ah then ae 0 else(aY fs nm r).map (·+1):=by
 unfold aY;rw[List.findIdx?_cons]
theorem NL(h:h9 (gH m k d) k'=ah):k'=k\/h9 m k'=ah:=by
 unfold gH at h
 split at h
 ·unfold h9 at h ⊢;rw[List.any_map,Dc]at h;obtain⟨p,hp,e⟩:=h;refine .inr (Dc.mpr ⟨p,hp,?_⟩);have e':=of_decide_eq_true e;dsimp only at e';by_cases z:p.1=k
  ·rw[if_pos z]at e';exact decide_eq_true e'
  ·rw[if_neg z]at e';exact decide_eq_true e'
 ·unfold h9 at h ⊢;rw[List.any_append,Bool.or_eq_true]at h;rcases h with h|h
  ·exact .inr h
  ·simp at h;exact .inl h.symm
theorem MN:(gH m k d).length<=m.length+1:=by
 unfold gH
 split
 ·rw[Aa];omega
 ·rw[An];exact Aq _
section
variable{δ:Sl}{n:Int}{Q:DQ}{K:DEnds}{W V:aJ}{i:Nat}
theorem iV{neg:Bool}(k:Q (.d (.bool (if neg then !eU a else eU a))) n):bh neg (.d a) ⇑17 n Q:=k
theorem La{neg:Bool}(k:Q (.d (.bool (if neg then !eU a else eU a))) n):jx neg (.d a) ⇑17 n Q:=.inr k
theorem KI(k:Q (.d (.bool neg)) n):jx neg (.ob o) ⇑17 n Q:=.inl ⟨o,rfl,rfl,k⟩
theorem DY(e:δ[i]?=ae (↑(.tuple (.str s::r))))(h:bS (.str s) [.str a,.str b]=k)(q:Q (.d (.bool !k)) n):w2 (w2 (aj i) ⇑49 av) (aA (ao (wC (.str a)) (ao (wC (.str b)) ak))) (fc ah) δ n Q:=by
 refine ar (df e ?_);show 2<=1000/\fB (.str s)=ah/\_/\Q (.d (.bool !bS (.str s) [.str a,.str b])) n;exact⟨by decide,rfl,rfl,by rw[h];exact q⟩
theorem yB{Q:Bool->Int->Prop}(e:δ[i]?=ae (↑(.tuple (.str s::r))))(h:bS (.str s) ⇑83=k)(q:Q (!k) n):cT (nK hs (w2 (aj i) ⇑49 av)) δ n Q:=by
 unfold cT nK;exact df e ⟨_,rfl,rfl,by rw[h];exact q⟩
theorem GU(e0:δ[i]?=ae (↑(bw ps)))(e1:δ[j]?=ae (↑⇑23))(e2:δ[l]?=ae (↑(.int h)))(ok:okHs ps hs)(hh:h < ps.length)(k:Q (.d (kI (bI ps hs h))) n):aC mq (ao (aj i) (ao (aj j) (ao (aj l) ak))) δ n Q:=
 bF (au e0 (au e1 (au e2 ⟨ps,hs,ns,h,rfl,ok,hh,k⟩)))
end
theorem Kj:cD vS HN ["programs","stand","hand","act","names","tried","place","note"]:=λws n Q h=>by
 obtain⟨ps,hs,ns,h,rfl,⟨okp,okh,okn⟩,hh,k⟩:=h;sleep 25;unfold eO at k;rw[H.nmq]at k;show HN [↑(bw ps),↑⇑23,↑(.int h),af,af,af,af,af] n _;refine aB (bK (λQ q=>GU rfl rfl rfl okh hh q) ?_);sleep 0;cases ea:bI ps hs h with
 |none=>
  rw[ea]at k;exact aB (bC (λQ q=>mF (λQ q=>aI (k:=ah) ⇑118 q) q) (bx (aF k)))
 |some a=>
  rw[ea]at k;have k:Q (.d (iI (a.pf.bind λfs=>aY fs nm ns))) n:=k;have oa:=H.ok okp ea;show aq _ _ [↑(bw ps),↑⇑23,↑(.int h),↑a.d,af,af,af,af] n _;have g1:∀(s:Str)(r:List Ad),eU (Fw (.str s::r))=ai:=λ_ _=>rfl;cases ef:a.pf with
  |none=>
   rw[ef]at k;obtain⟨_,s,r,e,h1,_⟩:=yN ef;rw[e];exact aB (bC (λQ q=>i9 (λQ q=>aI (k:=ai) ⇑118 q) (yB rfl h1 q)) (bx (aF k)))
  |some fs=>
   rw[ef]at k;have k:Q (.d (iI (aY fs nm ns))) n:=k;obtain⟨of,s,r,e,h1,_⟩:=qY ef oa;rw[e];refine aB (aX (λQ q=>i9 (λQ q=>aI (k:=ai) ⇑118 q) (yB rfl h1 q)) ?_);dsimp only[aG];refine aB (bK (x:=bO nm) (λQ q=>ar (ar (ar (au rfl (aF (cY (au rfl (bf H.hD (aF (fV q)))))))))) ?_);dsimp only[Ao];refine aB (show ql 5 _ _ _ from ?_);unfold ql;dsimp only[Ao];refine aB ?_;unfold aU uT;refine ar (au rfl (aF (eS ⟨ns.map dy,rfl,?_⟩)));refine f7 (λds δ m=>m=n/\∃(re:List Nt)(j:Nat)(kvs:List (List aH×Ad))(x6 x7:Option SV),ds=ja j (re.map dy)/\δ=[↑(bw ps),↑⇑23,↑(.int h),↑(.tuple (.str s::bN fs::r)),↑(bO nm),ae (.odt kvs),x6,x7] /\
    (∀q∈re,qM q)/\kvs.length+re.length<=100/\(∀key,h9 kvs key=ah->cF fs (key.map DL.vD) nm=ai)/\Q (.d (iI ((aY fs nm re).map (·+j)))) n) (λδ m I=>?_) (λd r' δ m N I kN=>?_) _ _ _ ⟨rfl,ns,0,[],af,af,rfl,rfl,okn.2,by have:=okn.1;simpa using this,λkey z=>(by cases z),?_⟩
   ·obtain⟨rfl,re,j,kvs,x6,x7,ed,rfl,_,_,_,kq⟩:=I;have:re=[]:=by
     cases re with
     |nil=>rfl
     |cons q re=>rw[Bc,GQ]at ed;cases ed
    subst this;exact(show Q ⇑17 m from kq)
   ·obtain⟨rfl,re,j,kvs,x6,x7,ed,rfl,hre,hl,ht,kq⟩:=I;cases re with
    |nil=>cases ed
    |cons q re=>
     rw[Bc,GQ]at ed;obtain⟨rfl,rfl⟩:=Fz ed;rw[Ay]at hl;have oq:=hre q Au;obtain⟨key,ek⟩:=BE oq.1.2;have nxt:∀kvs',kvs'.length<=kvs.length+1->(∀key,h9 kvs' key=ah->cF fs (key.map DL.vD) nm=ai)->cF fs q.1 nm=ai->N [↑(bw ps),↑⇑23,↑(.int h),↑(.tuple (.str s::bN fs::r)),↑(bO nm),ae (.odt kvs'),↑(.int j),↑(dy q)] m:=λkvs' a1 a2 a3=>by
      refine kN _ _ ⟨rfl,re,j+1,kvs',_,_,by rw[show((j+1:Nat):Int)=(j:Int)+1 from rfl],rfl,λx hx=>hre x (Ap _ hx),by omega,a2,?_⟩;rw[qG,if_neg (by rw[a3];exact Ai),Option.map_map]at kq;have:((λx=>x+j) ∘ λx=>x+1)=λx=>x+(j+1):=funext λx=>by show x+1+j=x+(j+1);omega
      rw[this]at kq;exact kq
     refine⟨rfl,?_⟩;sleep 15;refine cV (show qr 5 _ _ _ _ from df rfl ⟨key,kvs,by rw[ek];rfl,rfl,?_⟩);show if (!h9 kvs key)=ah then _ else _
     cases et:h9 kvs key with
     |true=>
      rw[if_neg (by rw[Bool.not_true];exact Ai)];exact nxt kvs ⋯ ht (by rw[ek];exact ht key et)
     |false=>
      rw[if_pos (show(!ai)=ah from rfl)];refine aB (cV (ar (bF (cj rfl (df rfl (au rfl ⟨fs,q.1,nm,rfl,of,oq.1,H.nms,?_⟩))))));refine aF (iV ?_);show if (!eU (dm fs q.1 nm))=ah then _ else _
      rw[uU,Bool.not_not];cases eb:cF fs q.1 nm with
      |true=>
       sleep 10;rw[qG,if_pos eb,Option.map_some,Nat.zero_add]at kq;exact bx (au rfl kq)
      |false=>
       sleep 7;sleep 1;refine aF ⟨kvs,rfl,df rfl ⟨key,.bool ah,rfl,by rw[ek];rfl,by omega,?_⟩⟩;sleep 0;refine nxt _ MN (λkey' z=>?_) eb;rcases NL z with rfl|z
       ·rw[<-ek];exact eb
       ·exact ht key' z
   ·have:(λx:Nat=>x+0)=id:=rfl;rw[this,Option.map_id];exact k
theorem qy(e:bI ps hs h=ae a):cn ps hs ns h=(!a.wt || (eO ps hs ns h).isSome):=by unfold cn;rw[e];rfl
theorem Nq(oa:kc a):∃s r,a.d=.tuple (.str s::r)/\bS (.str s) [.str "take",.str "read"]=a.wt:=by
 cases ef:a.pf with
 |none=>
  obtain⟨hw,s,r,e,_,h2⟩:=yN ef;exact⟨s,r,e,by rw[h2,hw]⟩
 |some fs=>
  obtain⟨_,s,r,e,_,h2⟩:=qY ef oa;exact⟨s,_,e,h2⟩
section
variable{δ:Sl}{n:Int}{Q:DQ}{w u:DT}{ds i j:List Ad}
theorem BV(xs:List Ad)(hp:p<=xs.length):d6 xs (ae (p:Int)) af=xs.drop p:=by
 unfold d6;rw[HT.sIx_nat,HT.sIx_none,Nat.min_eq_left hp];exact List.take_of_length_le (by rw[C1];exact Aq _)
theorem rY(k:w δ n λx n1=>match jc [x]with
  |some ds=>ds.length<=1000/\Q (.d ⇑25) n1
  |none=>False):aA (ao w ak) δ n Q:=k
theorem qt{p:Nat}(hw:∀Q:DQ,Q (.d ⇑25) n->w δ n Q)(hu:∀Q:DQ,Q (.d (.int p)) n->u δ n Q)(hp:p<=ds.length)(k:Q (.d (.tuple (ds.take p))) n):d4 w eB (dJ u) δ n Q:=by
 unfold d4;refine hw _ ?_;dsimp only[eB,dJ];refine hu _ ?_;dsimp only;rw[uK _ hp];exact k
theorem qH{p:Nat}(hw:∀Q:DQ,Q (.d ⇑25) n->w δ n Q)(hu:∀Q:DQ,Q (.d (.int p)) n->u δ n Q)(hp:p<=ds.length)(k:Q (.d (.tuple (ds.drop p))) n):d4 w (dJ u) eB δ n Q:=by
 unfold d4;refine hw _ ?_;dsimp only[eB,dJ];refine hu _ ?_;dsimp only;rw[BV _ hp];exact k
theorem ki(h:i.length+j.length<=1000000)(k:Q (.d (.tuple (i++j))) n):f6 (.d (.tuple i)) (.d (.tuple j)) n Q:=by
 cases i with
 |nil=>exact k
 |cons a r=>exact⟨.inl ⇑61,Bj h ∎,k⟩
end
theorem MD:cD w6 TZ ["thing"]:=λws n Q h=>by
 obtain⟨i,rfl,k⟩:=h;exact k
theorem KR:cD sZ yW ["thing","most"]:=λws n Q h=>by
 obtain⟨i,m,rfl,h0,h1,k⟩:=h;show yW [↑(.int i),↑(.int m)] n _;exact bx (QB (λQ q=>dQ (au rfl ⟨i,rfl,q⟩)) (R7 (λQ q=>aF q) ⇑31 ⇑31 h0 (by rw[decide_eq_true h1];exact k)))
theorem Lj:cD wX zB ["value"]:=λws n Q h=>by
 obtain⟨v,rfl,hv,k⟩:=h;show zB [↑v] n {nx:=λ_ n=>Q ⇑17 n,rt:=Q};cases v with
 |str x=>exact k
 |int i=>
  have k:Q (.d (if i=99 then Ff 0 else Ff (i+1))) n:=k;show if decide (i=99)=ah then Q (.d (.int 0)) n else Q (.d (.int (i+1))) n
  refine yi (λe=>?_) λe=>?_
  ·rw[if_pos e]at k;exact k
  ·rw[if_neg e]at k;exact k
 |_=>cases hv
theorem Tu:cD oS CC ["field","having","value"]:=λws n Q h=>by
 obtain⟨f,nm,rfl,⟨_,tm,us⟩,k⟩:=h;show CC [↑f.d,ae (.w (.dk (bA nm))),af] n {nx:=λ_ n=>Q ⇑17 n,rt:=Q};cases f with
 |isv d=>exact k
 |as x=>
  obtain⟨v,e,hv⟩:=us x rfl;have k:Q (.d ((look nm x).getD .none)) n:=k;rw[e]at k;refine aB (dz (h:="is") (a:=.str "as") rfl ∅ ?_);sleep 1;refine aB ?_;show(match bZ (bA nm) (.inr x)with|some d=>_|none=>False);rw[jQ,e];exact k
 |nx x=>
  obtain⟨v,e,hv⟩:=us x rfl;have k:Q (.d (ko ((look nm x).getD .none))) n:=k;rw[e]at k;refine aB (dz (h:="is") (a:=.str "next") rfl ∅ ?_);sleep 1;refine aB ?_;show(match bZ (bA nm) (.inr x)with|some d=>_|none=>False);rw[jQ,e];exact⟨v,rfl,hv,k⟩
 |_=>cases tm
theorem Nh(q:Q ah n):bJ δ n Q:=q
theorem yQ{α:Type}{aE:Sl}(f g)(xs:List α)(x)(n)(h:∀a∈xs,∀(n:Int) (Q':DQ),Q' (.d (g a)) n->w (↑(f a)::aE) n Q')(q:Q (xs.map g) n):cJ (aD 0) bJ w Q (xs.map f) [] (x::aE) n:=by
 refine l5 f g (λ_=>ah) xs [] x n (λa _ n Q' q=>Nh q) h ?_;rw[Bu,List.filter_eq_self.mpr λ_ _=>rfl];exact q
theorem rl(k:Q (.d ⇑25) n):eG [.d ⇑34] n Q:=k
theorem QR:cD rZ Ik ["template","names","having"]:=λws n Q h=>by
 obtain⟨fs,nm,rfl,hl,ok,okn,k⟩:=h;show Ik [↑(cE fs),↑(bO nm),af] n {nx:=λ_ n=>Q ⇑17 n,rt:=Q};refine aB (si rfl okn ?_);sleep 0;refine bx (aT (bb (gD (ds:=fs.map Fe.d) ⇑31 ?_)));show cJ _ _ _ _ _ _ [af,ae (.w (.dk (bA nm)))] n;exact yQ Fe.d (eD nm) fs af n (λf hf n Q' q=>cq (au rfl (show dG 1 _ _ _ from⟨f,nm,rfl,ok f hf,q⟩))) (rl k)
theorem Mq:cD mR yZ ["place","names"]:=λws n Q h=>by
 obtain⟨x,nm,rfl,k⟩:=h;show yZ [↑(bM x),↑(bO nm)] n _;exact bx (i6 (df rfl (ar (cj rfl (aF (fm (au rfl (Al ⇑86 k))))))))
theorem Qs:cD nS BN ["program","block","names","wanted"]:=λws n Q h=>by
 obtain⟨P,b,nm,⟨w,as⟩,rfl,hb,hw,k⟩:=h;have hbD:(P.map d9)[b]?=ae (.tuple [dA w,.tuple (as.map Ac.d)]):=by rw[Am,hb];rfl
 have ew:lW P b=w:=by unfold lW;rw[hb];rfl
 unfold bR at k;rw[ew]at k;show BN [↑(dR P),↑(.int b),↑(bO nm),af] n _;refine aB (bK (x:=dA w) (λQ q=>ar (ar (au rfl (au rfl (bf hbD (aF (cY q))))))) ?_);sleep 0;refine bx (i6 (au rfl (aF (aT (bb (gD (ds:=nm.map gN) ⇑31 ?_))))));show cJ _ _ _ _ _ _ [af,↑(dA w)] n;refine l5 gN gN (λp=>decide (p.1∈w)) nm [] af n (λp _ n Q' q=>aI (k:=decide (p.1∈w)) (λQ q=>ar (df rfl (au rfl ⟨rfl,qg w,?_⟩))) q) (λp _ n Q' q=>au rfl q) ?_
 ·show Q (.d (.bool (bS (.str p.1) (w.map .str)))) n;rw[lF];exact q
 ·exact Al ⇑86 k
theorem Q4:cD jW zH ["hands","hand","place"]:=λws n Q h=>by
 obtain⟨hs,h,x,rfl,hh,hl,k⟩:=h;show zH [↑⇑124,↑(.int h),↑(bM x)] n _;have hd:(a9 hs h x).map bM=((hs.map bM).take h++[bM x])++(hs.map bM).drop (h+1):=by
  unfold a9;rw[A7,Bc,List.map_take,List.map_drop,Bm];rfl
 rw[hd]at k;have l1:((hs.map bM).take h).length<=5:=Bj (G2 _ _) (by rw[Aa];exact hl);have l2:((hs.map bM).drop (h+1)).length<=5:=by rw[C1,Aa];omega
 refine bx (ar (ar (qt (p:=h) ⇑31 ⇑31 ⇑22 (rY (au rfl (Al (show 1<=1000 by decide) (ki (by rw[A3];omega) ?_)))))));exact qH (p:=h+1) ⇑31 (λQ q=>ar (au rfl (aF (fm q)))) ⇑22 (ki (by rw[An,A3];omega) k)
theorem Pf:cD uG zW ["note"]:=λws n Q h=>by
 obtain⟨⟨row,a⟩,rfl,ha,k⟩:=h;show zW [↑(dy (row,a))] n _;rcases ha with rfl|⟨i,rfl,_⟩
 ·exact bx (gg (b:=ah) (λQ q=>aI (k:=ah) (λQ q=>ar (cj rfl (aF (iV q)))) q) (by rw[if_pos rfl];exact au rfl k))
 ·exact bx (gg (b:=ai) (λQ q=>aI (k:=ai) (λQ q=>ar (cj rfl (aF (iV q)))) q) (by rw[if_neg Ai];exact cK (df rfl (ar (cj rfl (aF (Al ⇑18 k)))))))
theorem Hs(ha:iB a)(k:Q (.d (.bool (!fE a))) n):fF (.d a) (.d (.int 1)) n Q:=by
 rcases ha with rfl|⟨i,rfl,_⟩<;>exact k
theorem Oa:cD vc CJ ["stand"]:=λws n Q h=>by
 obtain⟨hs,ns,rfl,ha,k⟩:=h;show CJ [↑⇑23] n _;refine bx (cK (df rfl (aT (bb (gD (ds:=ns.map dy) (λQ q=>cj rfl q) ?_)))));show cJ _ _ _ _ _ _ [af] n;refine l5 dy (λq=>dy (q.1,iS q.2)) (λq=>!fE q.2) ns [] af n (λq hq n Q' k'=>aI (λQ q'=>ar (cj rfl (aF (Hs (ha q hq) q')))) k') (λq hq n Q' k'=>dQ (au rfl ⟨q,rfl,ha q hq,k'⟩)) ?_;refine Al ⇑18 ?_;unfold bE dN eM at k;rw[B7]at k;exact k
theorem Jv:∀j:Fin 100,cv (.int ((j.val:Nat):Int))=ah:=by sleep 5
theorem oH(h0:0<=i)(h1:i<=99):cv (.int i)=ah:=by
 have:=Jv ⟨i.toNat,by omega⟩;rw[show((i.toNat:Nat):Int)=i by omega]at this;exact this
theorem EE(h:cv (.int i)=ah):0<=i/\i<=99:=by
 simp only[cv,Cc,decide_eq_true_eq]at h;exact⟨h.1,h.2.1⟩
theorem tM(h:cv v=ah):cv (ko v)=ah:=by
 cases v with
 |str x=>exact h
 |int i=>
  obtain⟨h0,h1⟩:=EE h;show cv (if i=99 then .int 0 else .int (i+1))=ah
  split
  ·exact oH ∎ ∎
  ·exact oH ⋯ ⋯
 |_=>cases h
theorem gA(h:eY nm f):cv (eD nm f)=ah:=by
 obtain⟨ok,tm,us⟩:=h;cases f with
 |isv d=>exact ok
 |as k=>obtain⟨v,e,hv⟩:=us k rfl;show cv ((look nm k).getD .none)=ah;rw[e];exact hv
 |nx k=>obtain⟨v,e,hv⟩:=us k rfl;show cv (ko ((look nm k).getD .none))=ah;rw[e];exact tM hv
 |_=>cases tm
theorem ur(ha:cv a=ah)(hb:cv b=ah)(k:Q (.d (.bool (eL a b))) n):aZ (.d a) (.d b) n Q:=by
 unfold aZ;simp only[mJ ha hb];exact k
theorem UE:cD vm AE ["act","names","having"]:=λws n Q h=>by
 obtain⟨f,g,b,nm,rfl,hf,hg,_,_,okn,k⟩:=h;show AE [↑(.tuple [.str "same",f.d,g.d,.int b]),↑(bO nm),af] n _;refine aB (si rfl okn ?_);sleep 0;exact bx (ar (cq (cj rfl (show dG 2 _ _ _ from⟨f,nm,rfl,hf,cq (ar (au rfl (aF (fV (show dG 2 _ _ _ from⟨g,nm,rfl,hg,ur (gA hf) (gA hg) k⟩)))))⟩))))
theorem xj(h:aY fs nm ns=ae i):∃q,ns[i]?=ae q/\cF fs q.1 nm=ah:=by
 unfold aY at h;rw[Gi]at h;obtain⟨hl,h1,_⟩:=h;exact⟨ns[i],Ae hl,h1⟩
theorem CU(h:cF fs row nm=ah):dm fs row nm=bO (bP (ee fs row nm)):=by unfold dm;rw[if_pos h]
theorem mK(H:HandAt ps hs h P xb xp nm w as)(e:bI ps hs h=ae a):eI ps hs ns h=(nA P ⇑20 ns a).map λr=>⇑112:=by
 unfold eI;rw[H.prog,H.hand,e];rfl
theorem je(e:aY ⇑98 x.2.2 ns=af):bL fs x ns=af:=by unfold bL;rw[e];rfl
theorem jg(e:aY ⇑98 x.2.2 ns=ae i):bL fs x ns=ae (i,cW x (bP (ee ⇑98 (cH ns i) x.2.2))):=by unfold bL;rw[e];rfl
theorem v9(k:Q (.d (.bool (!bz h (.str s)))) n):fF (.d (.str s)) (.d (.str h)) n Q:=k
theorem BJ(ns:List Nt)(i):(cU ns i).map dy=(ns.map dy).take i++(ns.map dy).drop (i+1):=by unfold cU;rw[A7,List.map_take,List.map_drop]
section
variable{ps:Pg}{hs:List Hn}{ns:List Nt}{h:Nat}{P:List Bl}{xb xp:Nat}{nm:Nm}{w:List Str}{as:List Ac}{n:Int}{Q:DQ}
theorem vT(e1:δ[i1]?=ae (↑⇑23))(e2:δ[i2]?=ae (↑(.int h)))(e5:δ[i5]?=ae (↑(dN ns')))(hx:∀Q:DQ,Q (.d (bM x)) n->w2' δ n Q)(hh:h < hs.length)(hl:hs.length<=5)(k:Q (.d (bE (a9 hs h x) ns')) n):
  aA (ao (aC jW (ao (w2 (aj i1) ⇑0 av) (ao (aj i2) (ao w2' ak)))) (ao (aj i5) ak)) δ n Q:=
 cK (bF (df e1 (au e2 (hx _ ⟨hs,h,x,rfl,hh,hl,au e5 (Al ⇑18 k)⟩))))
theorem xq(H:HandAt ps hs h P xb xp nm w as)(okp:cf ps)(okh:okHs ps hs)(okn:dO 100 ns)(hh:h < ps.length)(ea:bI ps hs h=ae a)(ed:a.d=.tuple (.str s::cE gs::r))(hpf:a.pf=ae ⇑24)(hof:eR gs)(hpat:hX gs)
  (kN:aY ⇑24 nm ns=af->aq (aL (cT (w2 ⇑74 (wC (.str "look")) fF)) (az ⇑15) aG) (az (aA (ao (aC jW (ao ⇑53 (ao ↥2 (ao (aC nS (ao ⇑115 (ao (w2 ↥3 ⇑2 av) (ao (w2 ↥4 ⇑2 av) ak)))) ak)))) ⇑51)))
   [↑(bw ps),↑⇑23,↑(.int h),↑(.tuple (.str s::cE gs::r)),↑(bM ⇑20),↑(dN ns),ae (.w ⇑17),af] n {nx:=λ_ _=>True,rt:=Q})
  (kS:∀i ns',aY ⇑24 nm ns=ae i->ns'=(if bz "take" (.str s)=ah then cU ns i else ns)->Q (.d (bE (a9 hs h (cW ⇑20 (bP (ee ⇑24 (cH ns i) nm)))) ns')) n):
  v8 [↑(bw ps),↑⇑23,↑(.int h),↑a.d,af,af,af,af] n {nx:=λ_ n=>Q ⇑17 n,rt:=Q}:=by
 rw[ed];obtain⟨ep,op⟩:=oJ hof hpat;have hlt:h < hs.length:=by rw[okh.1];exact hh
 have hl5:hs.length<=5:=by rw[okh.1];exact okp.1
 refine aB (bK (x:=bM ⇑20) (λQ q=>ar (ar (au rfl (aF (cY (au rfl (bf H.hD q))))))) ?_);sleep 0;refine aB (bK (x:=dN ns) (λQ q=>cj rfl q) ?_);sleep 0;have eg:eO ps hs ns h=aY ⇑24 nm ns:=by
  unfold eO;rw[ea,H.nmq];show(a.pf.bind _)=_;rw[hpf];rfl
 refine aB (bK (x:=iI (aY ⇑24 nm ns)) (λQ q=>bF (au rfl (au rfl (au rfl ⟨ps,hs,ns,h,rfl,⟨okp,okh,okn⟩,hh,by rw[eg];exact q⟩)))) ?_);sleep 0;cases eq:aY ⇑24 nm ns with
 |none=>exact aB (bC (λQ q=>aI (k:=ah) ⇑118 q) (kN eq))
 |some i=>
  obtain⟨⟨row,age⟩,hq,hf⟩:=xj eq;have hi:i < ns.length:=(Ar.mp hq).1;have hq':(ns.map dy)[i]?=ae (.tuple [.tuple row,age]):=by rw[Am,hq];rfl
  have er:cH ns i=row:=by unfold cH;rw[hq];rfl
  have oq:=okn.2 _ (A0 hq);refine aB (aX (λQ q=>aI (k:=ai) ⇑118 q) ?_);sleep 1;refine aB (bK (x:=bO (bP (ee ⇑24 (cH ns i) nm))) (λQ q=>?_) ?_)
  ·refine bF (cj rfl (ar (ar (au rfl (au rfl (bf hq' (aF (cY ?_))))))));refine ar (au rfl (aF (fV ⟨gs.map Fe.fd,row,nm,by rw[ep],op,oq.1,H.nms,?_⟩)));rw[CU hf];rw[er]at q;exact q
  sleep 0;have fin:∀ns',ns'=(if bz "take" (.str s)=ah then cU ns i else ns)->az (aA (ao (aC jW (ao ⇑53 (ao ↥2 (ao (aC mR (ao ↥4 ⇑68)) ak)))) ⇑51))
    [↑(bw ps),↑⇑23,↑(.int h),↑(.tuple (.str s::cE gs::r)),↑(bM ⇑20),↑(dN ns'),↑(.int i),↑(bO (bP (ee ⇑24 (cH ns i) nm)))] n {nx:=λ_ n=>Q ⇑17 n,rt:=Q}:=λns' e'=>
   bx (vT (x:=cW ⇑20 (bP (ee ⇑24 (cH ns i) nm))) rfl rfl rfl (λQ q=>cq (au rfl (au rfl ⟨⇑20,_,rfl,q⟩))) hlt hl5 (kS i ns' eq e'))
  refine aB (sD rfl (λz=>?_) λz=>?_)
  ·refine bK (x:=dN (cU ns i)) (λQ q=>ar (qt (p:=i) ⇑31 ⇑31 ⇑22 (qH (p:=i+1) ⇑31 (λQ q=>ar (au rfl (aF (fm q)))) ⇑22 (ki ?_ ?_)))) ?_
   ·have:=okn.1;rw[E7,C1,Aa];omega
   ·unfold dN at q;rw[BJ]at q;exact q
   ·sleep 0;exact fin (cU ns i) (by rw[if_pos z])
  ·sleep 1;exact fin ns (by rw[if_neg (by rw[z];exact Ai)])
end
theorem JN:cD nW v8 ["programs","stand","hand","act","place","notes","number","names"]:=λws n Q h=>by
 obtain⟨ps,hs,ns,h,a,rfl,⟨okp,okh,okn⟩,hh,ea,hp,k⟩:=h;sleep 25;have oa:=H.ok okp ea;rw[mK H ea]at k;have hlt:h < hs.length:=by rw[okh.1];exact hh
 have hl5:hs.length<=5:=by rw[okh.1];exact okp.1
 show v8 [↑(bw ps),↑⇑23,↑(.int h),↑a.d,af,af,af,af] n _;cases a with
 |lay fs age=>cases hp
 |same f g b=>cases hp
 |go b=>cases hp
 |take gs=>
  refine xq (s:="take") (gs:=gs) (r:=[]) H okp okh okn hh ea rfl rfl oa.1 oa.2 (λe=>?_) λi ns' e e'=>?_
  ·have k:Q (.d (ji (((bL gs ⇑20 ns).map λq=>(q.2,cU ns q.1)).map λr=>⇑112))) n:=k;rw[je e]at k;exact aB (bC (λQ q=>aI (k:=ah) (λQ q=>ar (df rfl (aF (v9 (by rw[show bz "look" (.str "take")=ai by decide +kernel];exact q))))) q) (bx (aF k)))
  ·rw[if_pos ∅]at e';rw[e'];have k:Q (.d (ji (((bL gs ⇑20 ns).map λq=>(q.2,cU ns q.1)).map λr=>⇑112))) n:=k;rw[jg e]at k;exact k
 |read gs=>
  refine xq (s:="read") (gs:=gs) (r:=[]) H okp okh okn hh ea rfl rfl oa.1 oa.2 (λe=>?_) λi ns' e e'=>?_
  ·have k:Q (.d (ji (((bL gs ⇑20 ns).map λq=>(q.2,ns)).map λr=>⇑112))) n:=k;rw[je e]at k;exact aB (bC (λQ q=>aI (k:=ah) (λQ q=>ar (df rfl (aF (v9 (by rw[show bz "look" (.str "read")=ai by decide +kernel];exact q))))) q) (bx (aF k)))
  ·rw[if_neg ∅]at e';rw[e'];have k:Q (.d (ji (((bL gs ⇑20 ns).map λq=>(q.2,ns)).map λr=>⇑112))) n:=k;rw[jg e]at k;exact k
 |look gs b=>
  refine xq (s:="look") (gs:=gs) (r:=[.int b]) H okp okh okn hh ea rfl rfl oa.1 oa.2 (λe=>?_) λi ns' e e'=>?_
  ·have k:Q (.d (ji ((match bL gs ⇑20 ns with|some q=>ae (q.2,ns)|none=>ae (bR P b nm,ns):Option (Hn×List Nt)).map λr=>⇑112))) n:=k;rw[je e]at k;have hr:=(okp.2 P (A0 H.prog)).2.2 (w,as) (A0 H.blk);rw[H.act]at ea;obtain⟨wb,hwb,_⟩:=(hr.2 xp _ ea).2 b rfl;rw[Am]at hwb;obtain⟨bl,hbl,_⟩:=Fg.mp hwb;have obl:=((okp.2 P (A0 H.prog)).2.2 bl (A0 hbl)).1;refine aB (aX (λQ q=>aI (k:=ai) (λQ q=>ar (df rfl (aF (v9 (by rw[show bz "look" (.str "look")=ah by decide +kernel];exact q))))) q) ?_);sleep 1;refine bx (vT (x:=bR P b nm) rfl rfl rfl (λQ q=>?_) hlt hl5 k);refine bF (ar (au rfl (au rfl (bf H.pD ?_))));refine ar (au rfl (aF (fV ?_)));exact ar (au rfl (aF (fV ⟨P,b,nm,bl,rfl,hbl,obl.1,q⟩)))
  ·rw[if_neg ∅]at e';rw[e'];have k:Q (.d (ji ((match bL gs ⇑20 ns with|some q=>ae (q.2,ns)|none=>ae (bR P b nm,ns):Option (Hn×List Nt)).map λr=>⇑112))) n:=k;rw[jg e]at k;exact k
theorem t7(k:w δ n λx n1=>w' δ n1 λy n2=>w'' δ n2 λz n3=>v δ n3 λu n4=>S [x,y,z,u] n4 Q):aC S (ao w (ao w' (ao w'' (ao v ak)))) δ n Q:=k
theorem PH(h:k∈nm.map (·.1)):∃v,look nm k=ae v:=by
 obtain⟨p,hp,e⟩:=Bf.mp h;have:(nm.any λp=>decide (p.1=k))=ah:=Dc.mpr ⟨p,hp,decide_eq_true e⟩;rw[rD]at this;exact D3.mp this
theorem RQ{f:Fe}(h:f.tm=ah):f.bd=af:=by cases f<;>first|rfl|cases h
theorem rC{f:Fe}(h:f.te=ah):f.tm=ah:=by cases f<;>first|rfl|cases h
theorem uZ:∀{fs:List Fe}{ks:List Str},rF ks fs->(∀f∈fs,f.tm=ah)->∀f∈fs,∀k,f.us=ae k->k∈ks
 |[],_,_,_,f,hf,_,_=>by simp at hf
 |g::r,ks,h,ht,f,hf,k,hk=>by
  rcases Ax.mp hf with rfl|hf
  ·exact h.1 k hk
  ·have h2:=h.2;rw[RQ (ht g Au)]at h2;have:=uZ h2 (λx hx=>ht x (Ap _ hx)) f hf k hk;simpa using this
section
variable{ps:Pg}{hs:List Hn}{ns:List Nt}{h:Nat}{P:List Bl}{xb xp:Nat}{nm:Nm}{w:List Str}{as:List Ac}{n:Int}{Q:DQ}
theorem HandAt.okb(H:HandAt ps hs h P xb xp nm w as)(okp:cf ps):kU (w,as)/\kX (P.map (·.1)) (w,as):=(okp.2 P (A0 H.prog)).2.2 (w,as) (A0 H.blk)
theorem HandAt.right(H:HandAt ps hs h P xb xp nm w as)(okp:cf ps)(e:bI ps hs h=ae a):a.right (P.map (·.1)) (kn w as xp):=by
 rw[H.act]at e;exact(H.okb okp).2 xp a e
theorem HandAt.fv(H:HandAt ps hs h P xb xp nm w as)(ok:f.ok)(tm:f.tm=ah)(us:∀k,f.us=ae k->k∈kn w as xp):eY nm f:=⟨ok,tm,λk hk=>by
 obtain⟨v,e⟩:=PH ((H.hn.mem k).mpr (us k hk));exact⟨v,e,(H.hn.ok _ (k7 e)).2⟩⟩
theorem HandAt.lay(H:HandAt ps hs h P xb xp nm w as)(okp:cf ps)(e:bI ps hs h=ae (.lay fs age)):fs.length<=4/\∀f∈fs,eY nm f:=by
 have oa:=H.ok okp e;have r:=(H.right okp e).1;exact⟨oa.1.1,λf hf=>H.fv (oa.1.2 f hf) (oa.2.1 f hf) (uZ r oa.2.1 f hf)⟩
theorem HandAt.same(H:HandAt ps hs h P xb xp nm w as)(okp:cf ps)(e:bI ps hs h=ae (.same f g b)):eY nm f/\eY nm g/\f.te=ah/\g.te=ah:=by
 have oa:=H.ok okp e;have r:=uZ (H.right okp e).1 (λx hx=>by
  simp only[Ac.fs,Ax,A8,or_false]at hx;rcases hx with rfl|rfl
  ·exact rC oa.2.1
  ·exact rC oa.2.2)
 exact⟨H.fv (oa.1.2 f (by simp[Ac.fs])) (rC oa.2.1) (r f (by simp[Ac.fs])),H.fv (oa.1.2 g (by simp[Ac.fs])) (rC oa.2.2) (r g (by simp[Ac.fs])),oa.2.1,oa.2.2⟩
theorem HandAt.to(H:HandAt ps hs h P xb xp nm w as)(okp:cf ps)(e:bI ps hs h=ae a)(hb:a.to=ae b):∃bl:Bl,P[b]?=ae bl/\kU bl/\∀k∈bl.1,k∈nm.map (·.1):=by
 obtain⟨wb,hwb,hk⟩:=(H.right okp e).2 b hb;rw[Am]at hwb;obtain⟨bl,hbl,rfl⟩:=Fg.mp hwb;exact⟨bl,hbl,((okp.2 P (A0 H.prog)).2.2 bl (A0 hbl)).1,λk z=>(H.hn.mem k).mpr (hk k z)⟩
end
theorem IV(e:δ[i]?=ae (↑(.tuple [a,b])))(k:Q (.d b) n):w2 (aj i) (jz (wC (.int 1))) av δ n Q:=ar (au e k)
theorem J8(e:δ[i]?=ae (↑(.tuple [a,b,c,d])))(k:Q (.d d) n):w2 (aj i) (jz (wC (.int 1))) av δ n Q:=ar (au e k)
theorem PV:cD wD FZ ["programs","stand","hand","act","place","notes","names"]:=λws n Q h=>by
 obtain⟨ps,hs,ns,h,rfl,⟨okp,okh,okn⟩,hh,k⟩:=h;sleep 25;have hlt:h < hs.length:=by rw[okh.1];exact hh
 have hl5:hs.length<=5:=by rw[okh.1];exact okp.1
 show FZ [↑(bw ps),↑⇑23,↑(.int h),af,af,af,af] n _;refine aB (bK (λQ q=>GU rfl rfl rfl okh hh q) ?_);sleep 0;cases ea:bI ps hs h with
 |none=>
  unfold eI at k;rw[H.prog,H.hand,ea]at k;exact aB (bC (λQ q=>aI (k:=ah) ⇑118 q) (bx (aF k)))
 |some a=>
  have oa:=H.ok okp ea;show aq _ _ [↑(bw ps),↑⇑23,↑(.int h),↑a.d,af,af,af] n _;cases ef:a.pf with
  |some fs=>
   obtain⟨of,s,r,e,h1,_⟩:=qY ef oa;have ha:Q (.d (ji (eI ps hs ns h))) n->aC nW (ao ↥0 (ao ↥1 (ao ↥2 ⇑67))) [↑(bw ps),↑⇑23,↑(.int h),↑a.d,af,af,af] n Q:=λk=>
    t7 (au rfl (au rfl (au rfl (au rfl ⟨ps,hs,ns,h,a,rfl,⟨okp,okh,okn⟩,hh,ea,by rw[ef];rfl,k⟩))))
   rw[e]at ha ⊢;refine aB (aX (λQ q=>aI (k:=ai) ⇑118 q) ?_);sleep 1;exact aB (bC (λQ q=>DM (λQ q=>df rfl q) h1 q) (bx (ha k)))
  |none=>
   rw[mK H ea]at k;have pre:∀(V:aJ)(s:Str)(r:List Ad),a.d=.tuple (.str s::r)->bS (.str s) [.str "take",.str "read",.str "look"]=ai->
     V [↑(bw ps),↑⇑23,↑(.int h),↑a.d,↑(bM ⇑20),↑(dN ns),↑(bO nm)] n {nx:=λ_ n=>Q ⇑17 n,rt:=Q}->
     aq (aL (cT (w2 ↥3 ⇑15 (bh ai))) (az ⇑15) aG) (aq (aL (cT (iK Zf ⇑74)) (az (aC nW (ao ↥0 (ao ↥1 (ao ↥2 ⇑67))))) aG) (aq (aw 4 (w2 ⇑53 ↥2 av)) (aq (aw 5 (w2 ↥1 ⇑1 av)) (aq (aw 6 (w2 ↥4 ⇑2 av)) V))))
      [↑(bw ps),↑⇑23,↑(.int h),↑a.d,af,af,af] n {nx:=λ_ n=>Q ⇑17 n,rt:=Q}:=λV s r e h1 kk=>by
    rw[e]at kk ⊢;refine aB (aX (λQ q=>aI (k:=ai) ⇑118 q) ?_);sleep 1;refine aB (aX (λQ q=>DM (λQ q=>df rfl q) h1 q) ?_);sleep 1;refine aB (bK (x:=bM ⇑20) (λQ q=>ar (ar (au rfl (aF (cY (au rfl (bf H.hD q))))))) ?_);sleep 0;refine aB (bK (x:=dN ns) (λQ q=>cj rfl q) ?_);sleep 0;refine aB (bK (x:=bO nm) (λQ q=>ar (au rfl (aF (fV q)))) ?_);sleep 0;exact kk
   have fin:∀(x:Hn)(ns':List Nt)(d:Ad),Q (.d (bE (a9 hs h x) ns')) n->az (aA (ao (aC jW (ao ⇑53 (ao ↥2 ⇑38))) ⇑51)) [↑(bw ps),↑⇑23,↑(.int h),↑d,↑(bM x),↑(dN ns'),↑(bO nm)] n {nx:=λ_ n=>Q ⇑17 n,rt:=Q}:=λx ns' d q=>
    bx (vT (x:=x) rfl rfl rfl ⇑31 hlt hl5 q)
   cases a with
   |take fs=>cases ef
   |read fs=>cases ef
   |look fs b=>cases ef
   |lay fs age=>
    obtain⟨hl4,hfv⟩:=H.lay okp ea;refine pre _ "lay" [cE fs,age] rfl ∅ ?_;refine aB (jh (a:=.str "lay") rfl ∅ (aB ?_));refine bK (x:=dN (ns++[(fT fs nm,age)])) (λQ q=>?_) ?_
    ·refine ar (au rfl (rY (cK (cq (cj rfl (au rfl ⟨fs,nm,rfl,hl4,hfv,H.nms,?_⟩))))));refine ar (au rfl (aF (fV (Al ⇑18 (Al (show 1<=1000 by decide) (ki (by rw[Aa,A3];have:=okn.1;omega) ?_))))));unfold dN at q;rw[A7]at q;exact q
    ·sleep 0;refine bK (x:=bM (cW ⇑20 nm)) (λQ q=>cq (au rfl (au rfl ⟨⇑20,nm,rfl,q⟩))) ?_;sleep 0;exact fin _ _ _ k
   |same f g b=>
    obtain⟨hf,hg,tf,tg⟩:=H.same okp ea;obtain⟨bl,hbl,obl,_⟩:=H.to okp ea (b:=b) rfl;refine pre _ "same" [f.d,g.d,.int b] rfl ∅ ?_;refine aB (dz (a:=.str "same") rfl ∅ (cV (mM (λQ q=>eV (a:=.str "same") rfl ?_) ?_)))
    ·rw[show bz "same" (.str "same")=ah by decide +kernel];exact q
    refine(show cT _ _ _ _ from cq (au rfl (au rfl ⟨f,g,b,nm,rfl,hf,hg,tf,tg,H.nms,?_⟩)));have k:Q (.d (bE (a9 hs h (if eL (eD nm f) (eD nm g)=ah then cW ⇑20 nm else bR P b nm)) ns)) n:=k;refine o3 (λz=>?_) λz=>?_
    ·rw[if_pos z]at k;refine bK (x:=bM (cW ⇑20 nm)) (λQ q=>cq (au rfl (au rfl ⟨⇑20,nm,rfl,q⟩))) ?_;sleep 0;exact fin _ _ _ k
    ·rw[if_neg (by rw[z];exact Ai)]at k;refine bK (x:=bM (bR P b nm)) (λQ q=>bF (ar (au rfl (au rfl (bf H.pD (J8 rfl (au rfl ⟨P,b,nm,bl,rfl,hbl,obl.1,q⟩))))))) ?_;sleep 0;exact fin _ _ _ k
   |go b=>
    obtain⟨bl,hbl,obl,_⟩:=H.to okp ea (b:=b) rfl;refine pre _ "go" [.int b] rfl ∅ ?_;refine aB (dz (a:=.str "go") rfl ∅ (aX (λQ q=>oD (λQ q=>eV (a:=.str "go") rfl ?_) q) ?_))
    ·rw[show bz "same" (.str "go")=ai by decide +kernel];exact q
    refine bK (x:=bM (bR P b nm)) (λQ q=>bF (ar (au rfl (au rfl (bf H.pD (IV rfl (au rfl ⟨P,b,nm,bl,rfl,hbl,obl.1,q⟩))))))) ?_;sleep 0;exact fin _ _ _ k
theorem sV(k:Q (.d (.bool (decide (a=b)))) n):aZ (.d (.int a)) (.d (.int b)) n Q:=k
theorem S8:cD fq CP ["programs","stand","mover","clock"]:=λws n Q h=>by
 obtain⟨ps,hs,ns,m,rfl,ok,hm,k⟩:=h;show CP [↑(bw ps),↑⇑23,↑(.int m),af] n _;refine aB (bK (x:=.int ps.length) (λQ q=>aT (au rfl (show Q (.d (.int ((ps.map dR).length:Nat))) n by rw[Aa];exact q))) ?_);sleep 0;refine aB (aX (λQ q=>pU (k:=ah) (λQ q=>aI (k:=ah) (λQ q=>cq (au rfl (au rfl ⟨_,_,rfl,by omega,by omega,q⟩))) q) q) ?_);sleep 1;unfold bX at k;refine bx (gg (b:=decide ((m:Int)=ps.length)) (λQ q=>aI (λQ q=>ar (au rfl (au rfl (sV q)))) q) ?_);by_cases e:m=ps.length
 ·rw[if_pos e]at k;rw[if_pos (decide_eq_true ⋯)];exact dQ (au rfl ⟨hs,ns,rfl,λq hq=>(ok.2.2.2 q hq).2,k⟩)
 ·rw[if_neg e]at k;rw[if_neg (by rw[decide_eq_false ⋯];exact Ai)];exact bF (au rfl (au rfl (au rfl ⟨ps,hs,ns,m,rfl,ok,by omega,k⟩)))
theorem BM(e:δ[j]?=ae (↑(bO ps)))(ok:okN ps)(k:Q (.dk (bA ps)) n):kL (aj j) δ n Q:=by
 unfold kL lq j3;refine au e ?_;unfold bO;simp only[vR];refine⟨by rw[Aa];have:=ok.1;omega,?_⟩;have:=tH ps [] (by rw[Bu];exact ok.2.1);rw[Bu]at this;rw[show([]:List (aH×Ad))=bA []from rfl,this];exact k
theorem Kt(h:cv (.int i)=ah):ko (.int i)=.int ((i+1) % 100):=by
 obtain⟨h0,h1⟩:=EE h;show(if i=99 then Ff 0 else Ff (i+1))=_
 split
 ·rename_i e;subst e;rfl
 ·rw[Int.emod_eq_of_lt ⋯ ⋯]
theorem HI:∀{xs ys:List Str},xs.Nodup->ys.Nodup->(∀k,k∈xs↔k∈ys)->i8 xs->i8 ys->xs=ys
 |[],[],_,_,_,_,_=>rfl
 |[],y::ys,_,_,h,_,_=>by have:=(h y).mpr Au;simp at this
 |x::xs,[],_,_,h,_,_=>by have:=(h x).mp Au;simp at this
 |x::xs,y::ys,n1,n2,h,u1,u2=>by
  obtain⟨a1,b1⟩:=Ee.mp n1;obtain⟨a2,b2⟩:=Ee.mp n2;obtain⟨c1,d1⟩:=List.pairwise_cons.mp u1;obtain⟨c2,d2⟩:=List.pairwise_cons.mp u2;have e:x=y:=by
   rcases Ax.mp ((h x).mp Au)with e|hx
   ·exact e
   ·rcases Ax.mp ((h y).mpr Au)with e|hy
    ·exact e.symm
    ·exact HC _ _ (c2 x hx) (c1 y hy)
  subst e;rw[HI b1 b2 (λk=>⟨λhk=>?_,λhk=>?_⟩) d1 d2]
  ·rcases Ax.mp ((h k).mp (Ap _ hk))with e|q
   ·exact absurd (e▸hk) a1
   ·exact q
  ·rcases Ax.mp ((h k).mpr (Ap _ hk))with e|q
   ·exact absurd (e▸hk) a2
   ·exact q
theorem Nl{nm:Nm}(nd:(nm.map (·.1)).Nodup)(up:jO nm)(wn:w.Nodup)(wu:i8 w)(sub:∀k∈w,k∈nm.map (·.1)):nm.filter (λp=>decide (p.1∈w))=w.map λk=>(k,gQ nm k):=by
 have ek:(nm.filter λp=>decide (p.1∈w)).map (·.1)=w:=by
  refine HI ?_ wn (λk=>⟨λhk=>?_,λhk=>?_⟩) ?_ wu
  ·exact List.Nodup.sublist (List.Sublist.map _ List.filter_sublist) nd
  ·obtain⟨p,hp,rfl⟩:=Bf.mp hk;exact of_decide_eq_true (Da.mp hp).2
  ·obtain⟨p,hp,rfl⟩:=Bf.mp (sub k hk);exact Bf.mpr ⟨p,Da.mpr ⟨hp,decide_eq_true hk⟩,rfl⟩
  ·unfold i8;rw[Gp];exact List.Pairwise.sublist List.filter_sublist up
 have e2:(nm.filter λp=>decide (p.1∈w))=(nm.filter λp=>decide (p.1∈w)).map λp=>(p.1,gQ nm p.1):=by
  have:(nm.filter λp=>decide (p.1∈w)).map id=(nm.filter λp=>decide (p.1∈w)).map λp=>(p.1,gQ nm p.1):=by
   refine Df λp hp=>?_;have:=u6 nd (Da.mp hp).1;show p=(p.1,gQ nm p.1);unfold gQ;rw[this];rfl
  rw[G1]at this;exact this
 rw[e2]
 conv=>rhs;rw[<-ek]
 rw[B7];rfl
theorem LJ(nd:(nm.map (·.1)).Nodup)(h:cF fs row nm=ah):((ee fs row nm).map (·.1)).Nodup/\(wk (fs.zip row) nm []=ae (ee fs row nm)):=by
 unfold cF at h;rw[Cc]at h;unfold ee;obtain⟨x,hx⟩:=D3.mp h.2;rw[hx];exact⟨j8 _ _ _ _ nd hx,rfl⟩
theorem qN:∀(l:List (Fd×Ad))(h:Nm)(hs:List Str)(k:Nm),(∀p∈l,p.1.ok/\cv p.2=ah)->(∀p∈h,fN p)->wk l h hs=ae k->(∀p∈k,fN p)/\k.length<=h.length+l.length
 |[],h,hs,k,_,ho,e=>by cases e;exact⟨ho,Aq _⟩
 | (f,v)::r,h,hs,k,hl,ho,e=>by
  have hr:∀p∈r,p.1.ok/\cv p.2=ah:=λp hp=>hl p (Ap _ hp);have same:wk r h hs=ae k->(∀p∈k,fN p)/\k.length<=h.length+((f,v)::r).length:=λe=>by
   have:=qN r h hs k hr ho e;exact⟨this.1,by rw[Ay];omega⟩
  cases f with
  |is w=>unfold wk at e;split at e;exact same e;cases e
  |any=>unfold wk at e;exact same e
  |word=>unfold wk at e;split at e;exact same e;cases e
  |number=>unfold wk at e;split at e;exact same e;cases e
  |as x=>
   unfold wk at e
   split at e
   ·split at e
    ·exact same e
    ·cases e
   ·cases e
  |bind x=>
   unfold wk at e
   split at e
   ·split at e
    ·split at e
     ·exact same e
     ·cases e
    ·cases e
   ·have hb:=hl _ Au;have:=qN r (put h x v) (hs++[x]) k hr (oR ho hb.1 hb.2) e;have:=sG h x v;exact⟨by have:=qN r (put h x v) (hs++[x]) k hr (oR ho hb.1 hb.2) e;exact this.1,by rw[Ay];omega⟩
theorem PK(of:nc fs)(or:uy row):∀p∈fs.zip row,p.1.ok/\cv p.2=ah:=λp hp=>by
 obtain⟨p1,p2⟩:=p;exact⟨of.2.2 _ (Gg hp).1,or.2 _ (Gg hp).2⟩
def Sm(k w:Nat)(d:Ad):Prop:=D5 d=ah/\Fx d<=k/\PyData.weight d<=w/\PyData.intsShort 13 d=ah/\PyData.showable d=ah
theorem RW(hh:h < hs.length):a9 hs h x=hs.set h x:=by
 rw[List.set_eq_take_append_cons_drop,if_pos hh];rfl
theorem okHs.put(ok:okHs ps hs)(hP:ps[h]?=ae P)(hb:P[x.1]?=ae b)(hx:okHn b x):okHs ps (a9 hs h x):=by
 have hh:h < hs.length:=by rw[ok.1];exact(Ar.mp hP).1
 rw[RW hh];refine⟨by rw[Cp];exact ok.1,λi P' hi=>?_⟩;by_cases e:h=i
 ·subst e;rw[hP]at hi;cases hi;exact⟨x,b,Ej hh,hb,hx⟩
 ·obtain⟨h',b',e1,e2,e3⟩:=ok.2 i P' hi;exact⟨h',b',by rw[Bo e];exact e1,e2,e3⟩
theorem FH(h:as[p]?=ae a):kn w as (p+1)=kn w as p++a.bs:=by
 unfold kn;rw[List.take_add_one,h,G7,Bm];simp
theorem vK:∀(l:List (Fd×Ad))(h:Nm)(hs:List Str)(k:Nm),(∀x∈hs,x∈h.map (·.1))->wk l h hs=ae k->∀x,x∈k.map (·.1)↔x∈h.map (·.1)\/∃p∈l,p.1=.bind x
 |[],h,hs,k,_,e,x=>by cases e;simp
 | (f,v)::r,h,hs,k,hh,e,x=>by
  have same:wk r h hs=ae k->(∀y,f=.bind y->y∈h.map (·.1))->(x∈k.map (·.1)↔x∈h.map (·.1)\/∃p∈(f,v)::r,p.1=.bind x):=λe nb=>by
   rw[vK r h hs k hh e x]
   constructor
   ·rintro(q|⟨p,hp,q⟩)
    ·exact .inl q
    ·exact .inr ⟨p,Ap _ hp,q⟩
   ·rintro(q|⟨p,hp,q⟩)
    ·exact .inl q
    ·rcases Ax.mp hp with rfl|hp
     ·exact .inl (nb x q)
     ·exact .inr ⟨p,hp,q⟩
  cases f with
  |is w=>unfold wk at e;split at e;exact same e (λy z=>by cases z);cases e
  |any=>unfold wk at e;exact same e (λy z=>by cases z)
  |word=>unfold wk at e;split at e;exact same e (λy z=>by cases z);cases e
  |number=>unfold wk at e;split at e;exact same e (λy z=>by cases z);cases e
  |as y=>
   unfold wk at e
   split at e
   ·split at e
    ·exact same e (λy z=>by cases z)
    ·cases e
   ·cases e
  |bind y=>
   unfold wk at e
   split at e
   ·rename_i hy
    split at e
    ·split at e
     ·exact same e (λz q=>by cases q;exact hh y hy)
     ·cases e
    ·cases e
   ·have pk:∀z,z∈(put h y v).map (·.1)↔z∈h.map (·.1)\/z=y:=λz=>by
     rw[HU]
     split
     ·rename_i q;obtain⟨p,hp,q⟩:=Dc.mp q;have hy:y∈h.map (·.1):=Bf.mpr ⟨p,hp,of_decide_eq_true q⟩;exact⟨.inl,λq=>q.elim id λq=>q▸hy⟩
     ·rw[A9,Ba]
    rw[vK r (put h y v) (hs++[y]) k (λz hz=>(pk z).mpr ((A9.mp hz).elim (λq=>.inl (hh z q)) λq=>.inr (Ba.mp q))) e x,pk x]
    constructor
    ·rintro((q|rfl)|⟨p,hp,q⟩)
     ·exact .inl q
     ·exact .inr ⟨_,Au,rfl⟩
     ·exact .inr ⟨p,Ap _ hp,q⟩
    ·rintro(q|⟨p,hp,q⟩)
     ·exact .inl (.inl q)
     ·rcases Ax.mp hp with rfl|hp
      ·cases q;exact .inl (.inr rfl)
      ·exact .inr ⟨p,hp,q⟩
theorem O3{row:List Ad}(hp:∀f∈gs,f.pt=ah)(hl:(gs.map Fe.fd).length=row.length)(x):(∃p∈(gs.map Fe.fd).zip row,p.1=.bind x)↔x∈bu gs:=by
 unfold bu;rw[Hg]
 constructor
 ·rintro⟨⟨a,b⟩,hp',e⟩
  obtain⟨f,hf,e'⟩:=Bf.mp (Gg hp').1;refine⟨f,hf,?_⟩;have e:a=.bind x:=e;rw[e]at e';cases f<;>first|(cases e';rfl)|cases e'
 ·rintro⟨f,hf,e⟩
  have ef:f=.bind x:=by cases f<;>first|(cases e;rfl)|cases e
  subst ef;obtain⟨i,hi⟩:=Bz.mp hf;have hil:=(Ar.mp hi).1;rw[Aa]at hl;refine⟨(.bind x,row[i]'⋯),Bz.mpr ⟨i,?_⟩,rfl⟩;rw[List.getElem?_zip_eq_some];exact⟨by rw[Am,hi];rfl,Ae ⋯⟩
theorem KG(h:iB d)(h1:fE d=ai):iB (iS d):=by
 rcases h with rfl|⟨i,rfl,h0,h2⟩
 ·exact .inl rfl
 ·have:¬i=1:=by simpa[fE]using h1
  exact .inr ⟨i-1,rfl,by omega,by omega⟩
theorem NX(h:dO m ns):dO m (eM ns):=by
 unfold eM;refine⟨by rw[Aa];exact Bj (Gu _ _) h.1,λq hq=>?_⟩;obtain⟨p,hp,rfl⟩:=Bf.mp hq;obtain⟨h1,h2⟩:=Da.mp hp;exact⟨(h.2 p h1).1,KG (h.2 p h1).2 (by simpa using h2)⟩
theorem AK(okp:cf ps)(okh:okHs ps hs)(okn:dO M ns)(hm:m<=ps.length)(e:bX ps hs ns m=ae r):okHs ps r.1/\dO (M+1) r.2:=by
 unfold bX at e;by_cases em:m=ps.length
 ·rw[if_pos em]at e;cases e;have:=NX okn;exact⟨okh,Nat.le_succ_of_le this.1,this.2⟩
 rw[if_neg em]at e;have hh:m < ps.length:=by omega
 sleep 25;cases ea:bI ps hs m with
 |none=>
  unfold eI at e;rw[H.prog,H.hand,ea]at e;cases e
 |some a=>
 rw[mK H ea]at e;have oa:=H.ok okp ea;have ea':=ea;rw[H.act]at ea';have hxp:xp < as.length:=(Ar.mp ea').1;have okn':dO (M+1) ns:=⟨Nat.le_succ_of_le okn.1,okn.2⟩;have on:a.bs=[]->okHs ps (a9 hs m (cW ⇑20 nm)):=λhb=>okh.put H.prog (x:=cW ⇑20 nm) H.blk ⟨hxp,H.hn.nd,H.hn.ok,H.hn.up,λk=>by
  show k∈nm.map (·.1)↔k∈kn w as (xp+1);rw[FH ea',hb,Bp];exact H.hn.mem k,H.hn.ln⟩
 have to:∀b,a.to=ae b->okHs ps (a9 hs m (bR P b nm)):=λb hb=>by
  obtain⟨bl,hbl,obl,sub⟩:=H.to okp ea hb;have ew:lW P b=bl.1:=by unfold lW;rw[hbl];rfl
  refine okh.put H.prog (x:=bR P b nm) hbl ?_;have en:(bR P b nm).2.2=bl.1.map λk=>(k,gQ nm k):=by
   unfold bR;rw[ew];exact Nl H.hn.nd H.hn.up obl.2.2.2.2.1 obl.2.2.2.2.2 sub
  have ek:(bR P b nm).2.2.map (·.1)=bl.1:=by rw[en,B7];exact List.map_id' _
  have sl:(bR P b nm).2.2.Sublist nm:=List.filter_sublist;refine⟨A6 _,by rw[ek];exact obl.2.2.2.2.1,λp hp=>H.hn.ok p (sl.subset hp),List.Pairwise.sublist sl H.hn.up,λk=>by rw[ek];unfold kn;show _↔k∈bl.1++(bl.2.take 0).flatMap Ac.bs;simp,Bj sl.length_le H.hn.ln⟩
 have get:∀(gs:List Fe)(i:Nat),a.pf=ae ⇑24->a.bs=bu gs->eR gs->hX gs->aY ⇑24 nm ns=ae i->okHs ps (a9 hs m (cW ⇑20 (bP (ee ⇑24 (cH ns i) nm)))):=λgs i hpf hbs hof hpat ei=>by
  obtain⟨⟨row,age⟩,hq,hf⟩:=xj ei;have er:cH ns i=row:=by unfold cH;rw[hq];rfl
  rw[er];have oq:=okn.2 _ (A0 hq);obtain⟨ep,op⟩:=oJ hof hpat;obtain⟨nd,ew⟩:=LJ H.hn.nd hf;obtain⟨wo,_⟩:=qN _ _ _ _ (PK op oq.1) H.hn.ok ew;have hlen:(gs.map Fe.fd).length=row.length:=by
   unfold cF at hf;rw[Cc]at hf;exact of_decide_eq_true hf.1
  have pm:=HG (ee ⇑24 row nm);have pk:((bP (ee ⇑24 row nm)).map (·.1)).Perm ((ee ⇑24 row nm).map (·.1)):=pm.map _;have hmem:∀k,k∈(bP (ee ⇑24 row nm)).map (·.1)↔k∈kn w as (xp+1):=λk=>by
   rw[pk.mem_iff,vK _ _ _ _ (λx hx=>by simp at hx) ew k,O3 hpat.2 hlen,FH ea',A9,hbs];exact or_congr (H.hn.mem k) Iff.rfl
  have nd':=pk.nodup_iff.mpr nd;refine okh.put H.prog (x:=cW ⇑20 _) H.blk ⟨hxp,nd',λp hp=>wo p (pm.mem_iff.mp hp),yK _,hmem,?_⟩;have:=yc nd' (ks:=kn w as (xp+1)) λk hk=>(hmem k).mp hk;rw[Aa]at this;have h36:=FO (H.okb okp).1 (xp+1);exact Bj this (Bj h36 ∎)
 cases a with
 |lay fs age=>
  cases e;obtain⟨hl4,hfv⟩:=H.lay okp ea;refine⟨on rfl,by rw[An,A3];have:=okn.1;omega,λq hq=>?_⟩;rcases A9.mp hq with hq|hq
  ·exact okn.2 q hq
  ·rw[Ba.mp hq];exact⟨⟨⟨by show(fT fs nm).length<=4;unfold fT;rw[Aa];exact hl4,by show 1<=(fT fs nm).length;unfold fT;rw[Aa];exact oa.2.2.2⟩,λd hd=>by
    obtain⟨f,hf,rfl⟩:=Bf.mp hd;exact gA (hfv f hf)⟩,oa.2.2.1⟩
 |go b=>cases e;exact⟨to b rfl,okn'⟩
 |same f g b=>
  cases e;refine⟨?_,okn'⟩;show okHs ps (a9 hs m (if eL (eD nm f) (eD nm g)=ah then cW ⇑20 nm else bR P b nm))
  split
  ·exact on rfl
  ·exact to b rfl
 |take gs=>
  have e:(((bL gs ⇑20 ns).map λq=>(q.2,cU ns q.1)).map λr=>⇑87)=ae r:=e;cases ei:aY ⇑24 nm ns with
  |none=>rw[je ei]at e;cases e
  |some i=>
   rw[jg ei]at e;cases e;refine⟨get gs i rfl rfl oa.1 oa.2 ei,?_,λq hq=>?_⟩
   ·show(cU ns i).length<=_;unfold cU;rw[An,E7,C1];have:=okn.1;omega
   ·rcases A9.mp hq with hq|hq
    ·exact okn.2 q (List.mem_of_mem_take hq)
    ·exact okn.2 q (List.mem_of_mem_drop hq)
 |read gs=>
  have e:(((bL gs ⇑20 ns).map λq=>(q.2,ns)).map λr=>⇑87)=ae r:=e;cases ei:aY ⇑24 nm ns with
  |none=>rw[je ei]at e;cases e
  |some i=>
   rw[jg ei]at e;cases e;exact⟨get gs i rfl rfl oa.1 oa.2 ei,okn'⟩
 |look gs b=>
  have e:((match bL gs ⇑20 ns with|some q=>ae (q.2,ns)|none=>ae (bR P b nm,ns):Option (Hn×List Nt)).map λr=>⇑87)=ae r:=e;cases ei:aY ⇑24 nm ns with
  |none=>
   rw[je ei]at e;cases e;exact⟨to b rfl,okn'⟩
  |some i=>
   rw[jg ei]at e;cases e;exact⟨get gs i rfl rfl oa.1 oa.2 ei,okn'⟩
theorem Uj(okh:okHs ps hs)(hh:m < ps.length)(h:cn ps hs ns m=ah):∃r,bX ps hs ns m=ae r:=by
 sleep 25;unfold bX;rw[if_neg ⋯];cases ea:bI ps hs m with
 |none=>unfold cn at h;rw[ea]at h;cases h
 |some a=>
 rw[qy ea]at h;rw[mK H ea];have eg:∀gs:List Fe,a.pf=ae ⇑24->eO ps hs ns m=aY ⇑24 nm ns:=λgs hpf=>by
  unfold eO;rw[ea,H.nmq];show(a.pf.bind _)=_;rw[hpf];rfl
 have gt:∀gs:List Fe,(eO ps hs ns m).isSome=ah->a.pf=ae ⇑24->∃q,bL gs ⇑20 ns=ae q:=λgs h1 h2=>by
  rw[eg gs h2]at h1;obtain⟨i,hi⟩:=D3.mp h1;exact⟨_,jg hi⟩
 cases a with
 |lay fs age=>exact⟨_,rfl⟩
 |go b=>exact⟨_,rfl⟩
 |same f g b=>exact⟨_,rfl⟩
 |take gs=>
  obtain⟨q,hq⟩:=gt gs h rfl;show ∃r,(((bL gs ⇑20 ns).map λq=>(q.2,cU ns q.1)).map λr=>⇑87)=ae r;rw[hq];exact⟨_,rfl⟩
 |read gs=>
  obtain⟨q,hq⟩:=gt gs h rfl;show ∃r,(((bL gs ⇑20 ns).map λq=>(q.2,ns)).map λr=>⇑87)=ae r;rw[hq];exact⟨_,rfl⟩
 |look gs b=>
  show ∃r,((match bL gs ⇑20 ns with|some q=>ae (q.2,ns)|none=>ae (bR P b nm,ns):Option (Hn×List Nt)).map λr=>⇑87)=ae r;cases bL gs ⇑20 ns with
  |none=>exact⟨_,rfl⟩
  |some q=>exact⟨_,rfl⟩
theorem QP(hw:∀Q:DQ,Q (.d x) n->w δ n Q)(k:Q (.d (.tuple [x])) n):aA (ao w ak) δ n Q:=hw _ (Al (show 1<=1000 by decide) k)
theorem lM{α:Type}{aE:Sl}(f g):∀(xs:List α)(acc:List Ad)(x:Option SV)(n:Int),(∀a∈xs,∀(n:Int)(Q':DQ),Q' (.d (g a)) n->w (↑(f a)::aE) n Q')->Q (acc++xs.map g) n->cJ (aD 0) bJ w Q (xs.map f) acc (x::aE) n
 |[],acc,x,n,_,q=>by rw[Ei,Bp]at q;exact q
 |a::r,acc,x,n,h,q=>by
  simp only[Bc,cJ,aD,bJ,if_true,Dl];refine h a Au n _ (lM f g r (acc++[g a]) _ n (λb hb=>h b (Ap _ hb)) ?_);rw[Bm];exact q
theorem UD{α:Type}{xs:List α}{p:α->Bool}(k:Q (.d (.bool (xs.all p))) n):jU [.d (.list (xs.map λa=>.bool (p a)))] n Q:=by
 show(match jf (xs.map λa=>.bool (p a))with|some bs=>Q (.d (.bool (bs.all id))) n|none=>False);rw[vZ p xs];show Q (.d (.bool ((xs.map p).all id))) n;rw[List.all_map];exact k
theorem PZ{α:Type}{xs:List α}{p:α->Bool}(k:Q (.d (.bool (xs.any p))) n):jR [.d (.list (xs.map λa=>.bool (p a)))] n Q:=by
 show(match jf (xs.map λa=>.bool (p a))with|some bs=>Q (.d (.bool (bs.any id))) n|none=>False);rw[vZ p xs];show Q (.d (.bool ((xs.map p).any id))) n;rw[List.any_map];exact k
theorem K9(b:Bs):∃(s:Str)(r:List Ad),b.d=.tuple (.str s::r)/\bS (.str s) [.str "all",.str "some"]=ai/\bz "not" (.str s)=ai:=by
 cases b with
 |notes fs k=>exact⟨"notes",_,rfl,by decide +kernel,by decide +kernel⟩
 |«at» h b p=>exact⟨"at",_,rfl,by decide +kernel,by decide +kernel⟩
 |ended h=>exact⟨"ended",_,rfl,by decide +kernel,by decide +kernel⟩
theorem EX(k):bS (.str (ig k)) [.str "all",.str "some"]=ah:=by cases k<;>decide +kernel
theorem LG:cD rg qQ ["sight"]:=λws n Q h=>by
 obtain⟨t,g,rfl,k⟩:=h;have base:∀b:Bs,Q (.d (.tuple [])) n->qQ [↑b.d] n {nx:=λ_ n=>Q ⇑17 n,rt:=Q}:=λb q=>by
  obtain⟨s,r,e,h1,h2⟩:=K9 b;rw[e];refine aB (aX (λQ q=>iF rfl h1 q) ?_);sleep 1;refine bx (gg (b:=ai) (λQ q=>eV (i:=0) (a:=.str s) (r:=r) rfl (by show Q (bz "not" (.str s)) n;rw[h2];exact q)) ?_);sleep 7;exact Al (A6 _) q
 cases t with
 |zero=>exact base g k
 |succ t=>
  match g,k with
  |.inl b,k=>exact base b k
  |.inr (.inl q),k=>
   show qQ [↑(.tuple [.str (ig q.1),.tuple (q.2.map (Sg.d t))])] n _;exact aB (bC (λQ q'=>iF rfl (EX q.1) q') (bx (cj rfl k)))
  |.inr (.inr s),k=>
   show qQ [↑(.tuple [.str "not",Sg.d t s])] n _;refine aB (aX (λQ q=>iF rfl ∅ q) ?_);sleep 1;refine bx (gg (b:=ah) (λQ q=>eV (i:=0) (a:=.str "not") (r:=[Sg.d t s]) rfl (by show Q (bz "not" (.str "not")) n;rw[show bz "not" (.str "not")=ah by decide +kernel];exact q)) ?_);sleep 10;exact QP (λQ q=>cj rfl q) k
theorem ne_str(k:Q (.d (.bool (!bz h (.str s)))) n):fF (.d (.str s)) (.d (.str h)) n Q:=k
theorem Kc(hu:∀Q:DQ,Q (.d (.bool b)) n->u δ n Q)(k:if b=ah then v δ n Q else Q (.d ⇑56) n):dC u v δ n Q:=hu _ (by cases b<;>exact k)
theorem yz(e:δ[i]?=ae (↑(Sg.d t g)))(q:Q (.d (.tuple (Sg.subs t g))) n):aC rg (ao (aj i) ak) δ n Q:=dQ (au e ⟨t,g,rfl,q⟩)
theorem TN:cD wM GD ["pattern","notes"]:=λws n Q h=>by
 obtain⟨fs,ns,rfl,hf,hns,k⟩:=h;show GD [↑(bN fs),↑(dN ns)] n _;refine bx (aT (bb (gD (ds:=ns.map dy) ⇑31 ?_)));refine l5 dy dy (λq=>holds fs q.1) ns [] af n (λa ha n Q' q=>?_) (λa ha n Q' q=>au rfl q) ?_
 ·refine aI (k:=holds fs a.1) (λQ q=>ar (bF (au rfl (df (a:=.tuple a.1) (r:=[a.2]) rfl (Al (A6 _) ?_))))) q;refine Cr fs ⟨a.1,[],rfl,hf,(hns.2 a ha).1,⟨A6 _,by simp,λp hp=>by simp at hp⟩,aF ?_⟩;show Q (.d (.bool (!eU (dm fs a.1 [])))) n;rw[uU,Bool.not_not];exact q
 ·rw[Bu];show Q (.d (.int ((ns.filter λq=>holds fs q.1).map dy).length)) n;rw[Aa];exact k
theorem RX(s h):Cn (.str s) (.str h)=bz h (.str s):=by
 simp only[Cn,bz];rw[Dx];simp
theorem gB(e:δ[i]?=ae (↑(.str s)))(h1:Fc s=ah)(h2:Fc h=ah)(h3:bz h (.str s)=b):∀Q:Bool->Int->Prop,Q b n->cT (w2 (aj i) (wC (.str h)) ⇑126) δ n Q:=λQ q=>by
 refine aI (k:=b) (λQ q=>ar (au e (aF ?_))) q;refine⟨by simp only[D5];exact h1,by simp only[D5];exact h2,by simp[Fx],by simp[Fx],b,?_,q⟩;show ae (Cn (.str s) (.str h))=ae b;rw[RX,h3]
theorem TC(a b c):d6 [a,b,c] af (ae 2)=[a,b]:=uK [a,b,c] (p:=2) (by simp)
theorem Mh(a b c d):d6 [a,b,c,d] (ae 2) af=[c,d]:=BV [a,b,c,d] (p:=2) (by simp)
theorem pZ(k:Q (.d (.bool (decide (b<=a)))) n):sI (.d (.int a)) (.d (.int b)) n Q:=k
theorem zo:∀d ws n Q,cP d ws n Q->ws.length=3:=λd ws n Q h=>by
 cases d with
 |zero=>exact h.elim
 |succ t=>obtain⟨_,_,_,rfl,_⟩:=h;rfl
theorem EK{s:Sd}{h b p xb xp:Nat}(e:s.hs[h]?=ae (xb,xp,xn)):Bs.see ps s (.at h b p)=(decide (xb=b)&&decide (xp=p)):=by
 show(match s.hs[h]? with|some x=>decide (x.1=b)&&decide (x.2.1=p)|none=>ai)=_;rw[e]
theorem qF(hs:gF ps s)(hh:h < ps.length):∃(P:List Bl)(xb xp:Nat)(xn:Nm)(w:List Str)(as:List Ac),ps[h]?=ae P/\s.hs[h]?=ae (xb,xp,xn)/\P[xb]?=ae (w,as)/\xp<=as.length:=by
 have hP:ps[h]?=ae ps[h]:=Ae hh;obtain⟨⟨xb,xp,xn⟩,⟨w,as⟩,e1,e2,e3⟩:=hs.1.2 h _ hP;exact⟨_,xb,xp,xn,w,as,hP,e1,e2,e3.pl⟩
theorem BR(k m:Nat):decide ((k:Int)<=(m:Int))=decide (k<=m):=decide_eq_decide.mpr Int.ofNat_le
theorem SY(a b c d:Nat):Cn (.tuple [.int a,.int b]) (.tuple [.int c,.int d])=(decide (a=c)&&decide (b=d)):=by
 simp only[Cn,PyData.eqvAll,Bool.and_true];rw[Dx];simp;omega
theorem yt(a:Ac):eU a.d=ai:=by cases a<;>rfl
theorem Qh(hs:gF ps s)(hh:h < ps.length):eU (kI (bI ps s.hs h))=gW ps s h:=by
 obtain⟨P,xb,xp,xn,w,as,e0,e1,e2,e3⟩:=qF hs hh;have ea:bI ps s.hs h=as[xp]?:=by
  unfold bI;rw[e0,e1];show(P[xb]?.bind λb=>b.2[xp]?)=_;rw[e2];rfl
 have eb:gW ps s h=decide (xp=as.length):=by
  unfold gW;rw[e1,e0];show(match P[xb]? with|some b=>decide (xp=b.2.length)|none=>ai)=_;rw[e2]
 rw[ea,eb];by_cases z:xp < as.length
 ·rw[Ae z,decide_eq_false ⋯];exact yt _
 ·rw[Cj ⋯,decide_eq_true ⋯];rfl
theorem z0{b:Bs}(hp:cf ps)(hs:gF ps s)(hb:b.ok ps)(k:Q (.d (.bool (b.see ps s))) n):
  ve Sf [↑(bw ps),↑s.d,↑b.d,af,af] n {nx:=λ_ n=>Q ⇑17 n,rt:=Q}:=by
 cases b with
 |notes fs j=>
  refine aB (bK (x:=.str "notes") (λQ q=>df rfl q) ?_);sleep 0;refine aB (bC ⇑103 ?_);refine bx (ar (cq (cj rfl (cj rfl (Cr fs ⟨s.ns,rfl,hb,hs.2,?_⟩)))));refine fJ (m:=2) (ds:=[.str "notes",bN fs,.int j]) rfl rfl (pZ ?_);rw[BR];exact k
 |«at» h b p=>
  obtain⟨P,xb,xp,xn,w,as,e0,e1,e2,e3⟩:=qF hs hb.1;rw[EK e1]at k;have hs':(s.hs.map bM)[h]?=ae (bM (xb,xp,xn)):=by rw[Am,e1];rfl
  refine aB (bK (x:=.str "at") (λQ q=>df rfl q) ?_);sleep 0;refine aB (aX ⇑103 ?_);sleep 1;refine aB (bC ⇑103 ?_);refine bx (ar ?_);unfold d4;refine ar (df rfl (cj rfl (bf hs' ?_)));dsimp only[eB,dJ,bM];refine aF ?_;dsimp only;rw[TC];refine au rfl ?_;dsimp only[Bs.d];refine aF ?_;dsimp only;rw[Mh];refine⟨by simp[D5,PyData.canLayAll0],by simp[D5,PyData.canLayAll0],by simp[Fx,PyData.depthAll],by simp[Fx,PyData.depthAll],_,rfl,?_⟩;rw[SY];exact k
 |ended h=>
  refine aB (bK (x:=.str "ended") (λQ q=>df rfl q) ?_);sleep 0;refine aB (aX ⇑103 ?_);sleep 1;refine aB (aX ⇑103 ?_);sleep 1;refine aB (bC ⇑103 ?_);refine bx (ar (bF (au rfl (au rfl (cj rfl (Cr ps ⟨s.hs,s.ns,h,rfl,hs.1,hb,aF ?_⟩))))));show Q (.d (.bool (eU (kI (bI ps s.hs h))))) n;rw[Qh hs hb];exact k
theorem mi(k)(h)(e:h∈(["notes","at","ended","not"]:List Str)):bz h (.str (ig k))=ai:=by
 simp only[Ax,A8,or_false]at e;rcases e with rfl|rfl|rfl|rfl<;>cases k<;>decide +kernel
theorem nV(k):Fc (ig k)=ah:=by cases k<;>decide +kernel
theorem EC(k):bz "all" (.str (ig k))=k:=by cases k<;>decide +kernel
theorem KL:∀d ws n Q,cP (d+1) ws n Q->ve (cP d) (dw ["programs","stand","sight","head","seen"] ws) n {nx:=λ_ n=>Q ⇑17 n,rt:=Q}:=λt ws n Q h=>by
 obtain⟨ps,s,g,rfl,hp,hs,hg,k⟩:=h;show ve (cP t) [↑(bw ps),↑s.d,↑(Sg.d t g),af,af] n _;cases t with
 |zero=>exact z0 hp hs hg k
 |succ t=>
  match g,hg,k with
  |.inl b,hg,k=>exact z0 hp hs hg k
  |.inr (.inl q),hg,k=>
   refine aB (bK (x:=.str (ig q.1)) (λQ q'=>df rfl q') ?_);sleep 0;refine aB (aX (gB rfl (nV q.1) ∅ (mi q.1 _ (by simp))) ?_);sleep 1;refine aB (aX (gB rfl (nV q.1) ∅ (mi q.1 _ (by simp))) ?_);sleep 1;refine aB (aX (gB rfl (nV q.1) ∅ (mi q.1 _ (by simp))) ?_);sleep 1;refine aB (show aw 4 _ _ _ _ from bb (gD (ds:=Sg.subs (t+1) (.inr (.inl q))) (λQ q'=>yz (t:=t+1) (g:=.inr (.inl q)) rfl q') ?_));refine lM (Sg.d t) (λu=>.bool (Sg.see ps s t u)) q.2 [] af n (λu hu n Q' q'=>bF (au rfl (au rfl (au rfl ⟨ps,s,u,rfl,hp,hs,hg u hu,q'⟩)))) ?_;rw[Bu];sleep 0;refine aB (aX (gB rfl (nV q.1) ∅ (mi q.1 _ (by simp))) ?_);sleep 1;refine bx (gg (b:=q.1) (gB rfl (nV q.1) ∅ (EC q.1)) ?_);have k:Q (.d (.bool (if q.1 then q.2.all (Sg.see ps s t)else q.2.any (Sg.see ps s t)))) n:=k;cases e:q.1 with
   |true=>rw[e]at k;sleep 10;exact aT (au rfl (UD k))
   |false=>rw[e]at k;sleep 7;exact aT (au rfl (PZ k))
  |.inr (.inr u),hg,k=>
   refine aB (bK (x:=.str "not") (λQ q'=>df rfl q') ?_);sleep 0;refine aB (aX ⇑103 ?_);sleep 1;refine aB (aX ⇑103 ?_);sleep 1;refine aB (aX ⇑103 ?_);sleep 1;refine aB (show aw 4 _ _ _ _ from bb (gD (ds:=Sg.subs (t+1) (.inr (.inr u))) (λQ q'=>yz (t:=t+1) (g:=.inr (.inr u)) rfl q') ?_));refine lM (Sg.d t) (λu=>.bool (Sg.see ps s t u)) [u] [] af n (λv hv n Q' q'=>bF (au rfl (au rfl (au rfl ⟨ps,s,v,rfl,hp,hs,by rw[Ba.mp hv];exact hg,q'⟩)))) ?_;rw[Bu];sleep 0;refine aB (bC ⇑103 ?_);exact bx k
theorem wF(p):∀(ns:List Nt)(acc:List Ad)(x y:Option SV)(n:Int),(∀a∈ns,∀(n:Int)(Q':Bool->Int->Prop),Q' (p a) n->c [↑(.tuple a.1),↑a.2,z] n Q')->Q (acc++(ns.filter p).map λq=>.tuple q.1) n->
  cJ (eC 2 (bG (aD 0) (bG (aD 1) cM))) c ↥0 Q (ns.map dy) acc [x,y,z] n
 |[],acc,x,y,n,_,q=>by rw[List.filter_nil,Ei,Bp]at q;exact q
 |a::r,acc,x,y,n,hp,q=>by
  rw[Bc];refine Al rfl ?_;sleep 15;refine hp a Au n _ ?_;cases e:p a with
  |true=>
   simp only[if_true];refine au rfl (wF p r (acc++[.tuple a.1]) _ _ n (λb hb=>hp b (Ap _ hb)) ?_);rw[D4,if_pos e,Bc]at q;rw[Bm];exact q
  |false=>
   simp only[B3,if_false];refine wF p r acc _ _ n (λb hb=>hp b (Ap _ hb)) ?_;rw[D4,if_neg (by rw[e];exact Ai)]at q;exact q
theorem wO{α:Type}(b)(p:α->Bool):∀xs:List α,bS (.bool b) (xs.map λa=>.bool (p a))=xs.any λa=>p a==b
 |[]=>rfl
 |a::r=>by
  have ih:=wO b p r;unfold bS at ih ⊢;rw[Bc,Cm,Cm,ih]
  congr 1
theorem GW{α:Type}(p:α->Bool)(xs:List α):(xs.map λa=>PyData.bool (p a)).all fB=ah:=by
 rw[Dq];intro d hd;obtain⟨x,_,rfl⟩:=Bf.mp hd;rfl
theorem Hx{α:Type}(p):∀xs:List α,(!(xs.any λa=>p a==ai))=xs.all p
 |[]=>rfl
 |a::r=>by
  rw[Cm,List.all_cons,<-Hx p r];cases p a<;>simp
theorem Ig{α:Type}(p):∀xs:List α,(xs.any λa=>p a==ah)=xs.any p
 |[]=>rfl
 |a::r=>by
  rw[Cm,Cm,<-Ig p r];cases p a<;>simp
theorem vC{a b:Nat}(k:Q (.d (.bool (decide (a=b)))) n):aZ (.d (.int a)) (.d (.int b)) n Q:=by
 show Q (.d (.bool (decide ((a:Int)=(b:Int))))) n;rw[show decide ((a:Int)=(b:Int))=decide (a=b)from decide_eq_decide.mpr Int.ofNat_inj];exact k
theorem Lm:∀d ws n Q,cP d ws n Q->ws.length=3:=zo
theorem CO{b:Bs}(hp:cf ps)(hs:gF ps s)(hb:b.ok ps)(k:Q (.d (.bool (b.see ps s))) n):
  xC Sf [↑(bw ps),↑s.d,↑b.d,af,af,af,af] n {nx:=λ_ n=>Q ⇑17 n,rt:=Q}:=by
 cases b with
 |notes fs j=>
  refine aB (jh (a:=.str "notes") (r:=[bN fs,.int j]) rfl ∅ ?_);refine bx (ar (aT (bb (gD (ds:=s.ns.map dy) (λQ q=>cj rfl q) ?_))));refine wF (λq=>holds fs q.1) s.ns [] af af n (λa ha n Q' q=>?_) ?_
  ·refine aI (k:=holds fs a.1) (λQ q=>ar (bF (cj (a:=.str "notes") (b:=bN fs) (r:=[.int j]) rfl (au rfl (Al (A6 _) ?_))))) q;refine Cr fs ⟨a.1,[],rfl,hb,(hs.2.2 a ha).1,⟨A6 _,by simp,λp hp=>by simp at hp⟩,aF ?_⟩;show Q (.d (.bool (!eU (dm fs a.1 [])))) n;rw[uU,Bool.not_not];exact q
  ·rw[Bu];dsimp only[bg];refine fJ (m:=2) (ds:=[.str "notes",bN fs,.int j]) rfl rfl (pZ ?_);rw[Aa,BR];exact k
 |«at» h b p=>
  obtain⟨P,xb,xp,xn,w,as,e0,e1,e2,e3⟩:=qF hs hb.1;rw[EK e1]at k;have hs':(s.hs.map bM)[h]?=ae (bM (xb,xp,xn)):=by rw[Am,e1];rfl
  refine aB (dz (a:=.str "at") (r:=[.int h,.int b,.int p]) rfl ∅ ?_);sleep 1;refine aB (dz (a:=.str "at") (r:=[.int h,.int b,.int p]) rfl ∅ ?_);sleep 1;refine aB (aX (λQ q=>iF (s:="at") (r:=[.int h,.int b,.int p]) rfl ∅ q) ?_);sleep 1;refine aB ?_;unfold cw;refine ar (df rfl (cj rfl (bf hs' ?_)));refine Al rfl ?_;sleep 15;refine aB (jh (a:=.str "at") (r:=[.int h,.int b,.int p]) rfl ∅ ?_);refine bx (Kc (b:=decide (xb=b)) (λQ q=>ar (au rfl (fJ (m:=2) (ds:=[.str "at",.int h,.int b,.int p]) rfl rfl (vC q)))) ?_);cases z:decide (xb=b)with
  |true=>
   sleep 10;rw[z,Bool.true_and]at k;exact ar (au rfl (fJ (m:=3) (ds:=[.str "at",.int h,.int b,.int p]) rfl rfl (vC k)))
  |false=>
   sleep 7;rw[z,Bool.false_and]at k;exact k
 |ended h=>
  obtain⟨P,xb,xp,xn,w,as,e0,e1,e2,e3⟩:=qF hs hb;have hs':(s.hs.map bM)[h]?=ae (bM (xb,xp,xn)):=by rw[Am,e1];rfl
  have hp':(ps.map dR)[h]?=ae (dR P):=by rw[Am,e0];rfl
  have hb':(P.map d9)[xb]?=ae (d9 (w,as)):=by rw[Am,e2];rfl
  have he:Bs.see ps s (.ended h)=decide (xp=as.length):=by
   show gW ps s h=_;unfold gW;rw[e1,e0];show(match P[xb]? with|some b=>decide (xp=b.2.length)|none=>ai)=_;rw[e2]
  rw[he]at k;refine aB (dz (a:=.str "ended") (r:=[.int h]) rfl ∅ ?_);sleep 1;refine aB (dz (a:=.str "ended") (r:=[.int h]) rfl ∅ ?_);sleep 1;refine aB (aX (λQ q=>iF (s:="ended") (r:=[.int h]) rfl ∅ q) ?_);sleep 1;refine aB ?_;unfold cw;refine ar (df rfl (cj rfl (bf hs' ?_)));refine Al rfl ?_;sleep 15;refine aB (dz (a:=.str "ended") (r:=[.int h]) rfl ∅ ?_);sleep 1;refine bx (ar (au rfl (aT (ar (ar (ar (au rfl (cj rfl (bf hp' (au rfl (bf hb' (aF (eS ?_)))))))))))));dsimp only[bg];rw[Aa];exact vC k
theorem Q7:∀d ws n Q,cP (d+1) ws n Q->xC (cP d) (dw ["_law_programs","_law_stand_here","_law_sight_here","_law_told","_law_block","_law_place","_law_names"] ws) n {nx:=λ_ n=>Q ⇑17 n,rt:=Q}:=λt ws n Q h=>by
 obtain⟨ps,s,g,rfl,hp,hs,hg,k⟩:=h;show xC (cP t) [↑(bw ps),↑s.d,↑(Sg.d t g),af,af,af,af] n _;cases t with
 |zero=>exact CO hp hs hg k
 |succ t=>
  match g,hg,k with
  |.inl b,hg,k=>exact CO hp hs hg k
  |.inr (.inl q),hg,k=>
   refine aB (dz (a:=.str (ig q.1)) (r:=[.tuple (q.2.map (Sg.d t))]) rfl (mi q.1 _ (by simp)) ?_);sleep 1;refine aB (dz (a:=.str (ig q.1)) (r:=[.tuple (q.2.map (Sg.d t))]) rfl (mi q.1 _ (by simp)) ?_);sleep 1;refine aB (bC (λQ q'=>iF (s:=ig q.1) (r:=[.tuple (q.2.map (Sg.d t))]) rfl (EX q.1) q') ?_);refine aB (show aw 3 _ _ _ _ from bb (gD (ds:=q.2.map (Sg.d t)) (λQ q'=>cj rfl q') ?_));refine lM (Sg.d t) (λu=>.bool (Sg.see ps s t u)) q.2 [] af n (λu hu n Q' q'=>bF (au rfl (au rfl (au rfl ⟨ps,s,u,rfl,hp,hs,hg u hu,q'⟩)))) ?_;rw[Bu];sleep 0;refine bx (gg (b:=q.1) (λQ q'=>eV (i:=2) (a:=.str (ig q.1)) (r:=[.tuple (q.2.map (Sg.d t))]) rfl (by show Q (bz "all" (.str (ig q.1))) n;rw[EC];exact q')) ?_);have k:Q (.d (.bool (if q.1 then q.2.all (Sg.see ps s t)else q.2.any (Sg.see ps s t)))) n:=k;cases e:q.1 with
   |true=>
    rw[e]at k;sleep 10;refine ar (aF (au rfl ⟨rfl,GW _ _,?_⟩));show Q (.d (.bool (!bS ⇑56 (q.2.map λu=>.bool (Sg.see ps s t u))))) n;rw[wO,Hx];exact k
   |false=>
    rw[e]at k;sleep 7;refine ar (aF (au rfl ⟨rfl,GW _ _,?_⟩));show Q (.d (.bool (bS ⇑32 (q.2.map λu=>.bool (Sg.see ps s t u))))) n;rw[wO,Ig];exact k
  |.inr (.inr u),hg,k=>
   refine aB (dz (a:=.str "not") (r:=[Sg.d t u]) rfl ∅ ?_);sleep 1;refine aB (jh (a:=.str "not") (r:=[Sg.d t u]) rfl ∅ ?_);exact bx (show iR _ _ _ _ from bF (au rfl (au rfl (cj rfl ⟨ps,s,u,rfl,hp,hs,hg,k⟩))))
section
variable{δ:Sl}{n:Int}{K:DEnds}{a v:Ad}{r:List Ad}{x:Str}{hp:Nm}{hs:List Str}{W V:aJ}
theorem kZ(e:δ[7]?=ae (↑(.bool b)))(kT:b=ah->K.nx δ n)(kF:b=ai->K.rt ⇑17 n):aL (cy (cT ↥7)) (az ⇑15) aG δ n K:=by
 refine cV (pU (k:=b) (λQ q=>aI (λQ q=>au e q) q) ?_);cases b with
 |true=>exact kT rfl
 |false=>exact kF rfl
def mf(hp:Nm)(x:Str)(v:Ad):Bool:=match look hp x with
 |some w=>eL w v
 |none=>ai
theorem yL(e5:δ[5]?=ae (↑(.tuple (a::.str x::r))))(e3:δ[3]?=ae (ae (.odk (bA hp))))(e6:δ[6]?=ae (↑v))(hv:cv v=ah)(hok:∀p∈hp,fN p)(k:K.nx (δ.set 7 (↑(.bool (mf hp x v)))) n):
  aw 7 (dC (w2 (w2 ↥5 (wC (.int 1)) av) (dG 3) (fe ai)) (w2 (w2 (dG 3) (w2 ↥5 (wC (.int 1)) av) gi) ↥6 aZ)) δ n K:=by
 unfold aw dC;refine ar (cj e5 ?_);have pk:∀(n:Int)(Q:DQ),Q (.dk (bA hp)) n->dG 3 δ n Q:=λn Q q=>by unfold dG;rw[e3];exact q
 refine pk _ _ ?_;show iq (.d (.bool (bZ (bA hp) (.inr x)).isSome)) _ _;rw[jQ];unfold mf at k;cases q:look hp x with
 |none=>rw[q]at k;exact k
 |some w=>
  rw[q]at k;rw[Option.isSome_some,JX,if_pos rfl];refine ar (ar (pk _ _ (cj e5 ?_)));unfold gi;simp only[jQ,q];refine au e6 ?_;unfold aZ;simp only[mJ (hok _ (k7 q)).2 hv];exact k
theorem Ld(s)(e5:δ[5]?=ae (↑(.tuple (.str s::r))))(h1:bz "as" (.str s)=ai)(h2:bz "bind" (.str s)=ai)(hF:V δ n K):
  aL (ft (cT (w2 (w2 ↥5 ⇑49 av) (wC ⇑45) aZ)) (dq (cT (w2 (w2 ↥5 ⇑49 av) ⇑52 aZ)) (cT (mN 4 (w2 ↥5 (wC (.int 1)) av))))) W V δ n K:=by
 refine aX (λQ q=>i9 (λQ q=>eV e5 ?_) (oD (λQ q=>eV e5 ?_) q)) hF
 ·show Q (bz "as" (.str s)) n;rw[h1];exact q
 ·show Q (bz "bind" (.str s)) n;rw[h2];exact q
theorem Jd(e5:δ[5]?=ae (↑(.tuple [.str "bind",.str x])))(e4:δ[4]?=ae (ae (.own ⇑83)))(hT:x∈hs->W δ n K)(hF:x∉hs->V δ n K):
  aL (ft (cT (w2 (w2 ↥5 ⇑49 av) (wC ⇑45) aZ)) (dq (cT (w2 (w2 ↥5 ⇑49 av) ⇑52 aZ)) (cT (mN 4 (w2 ↥5 (wC (.int 1)) av))))) W V δ n K:=by
 refine cV (i9 (λQ q=>eV e5 ?_) (mM (λQ q=>eV e5 ?_) ?_))
 ·show Q (bz "as" ⇑123) n;rw[RO];exact q
 ·show Q (bz "bind" ⇑123) n;rw[uu];exact q
 ·unfold cT mN;refine cj e5 ?_;rw[e4];refine⟨rfl,qg hs,?_⟩;show if bS (.str x) ⇑83=ah then _ else _
  rw[lF];exact yi hT hF
end
def K8:Option Nm->Ad
 |none=>.none
 |some h=>bO (bP h)
theorem L1{ys:List Str}(nd:(hp.map (·.1)).Nodup)(p:ys.Perm (hp.map (·.1)))(r:ys.Pairwise ⇑96):bP hp=ys.map λx=>(x,(look hp x).getD .none):=by
 refine(GV nd ?_ ?_).symm
 ·have h:=p.map λx=>(x,(look hp x).getD PyData.none);rw[B7]at h;have e:hp.map ((λx=>(x,(look hp x).getD PyData.none)) ∘ λp=>p.1)=hp:=by
   conv=>rhs;rw[<-G1 hp]
   refine Df λq hq=>?_;show(q.1,(look hp q.1).getD .none)=q;rw[u6 nd hq];rfl
  rw[e]at h;exact h
 ·unfold jO;rw[Gp];exact r
theorem Ni:cD sO sY ["_law_pattern_here","_law_row","_law_names","_law_found","_law_bound","_law_field","_law_value_here","_law_good"]:=λws n Q h=>by
 obtain⟨fs,row,nm,rfl,okp,okr,okn,k⟩:=h;show sY [↑(bN fs),↑(.tuple row),↑(bO nm),af,af,af,af,af] n {nx:=λ_ n=>Q ⇑17 n,rt:=Q};unfold sY;refine aB (yH (xs:=fs.map Fd.d) (ys:=row) rfl rfl (λne=>?_) λel=>?_)
 ·show Q ⇑17 n;rw[Aa]at ne;unfold dm cF at k;rw[decide_eq_false ne,Bool.false_and,if_neg Ai]at k;exact k
 ·rw[Aa]at el;dsimp only[aG];refine aB (si rfl okn ?_);dsimp only[Ao];refine aB (i7 ?_);dsimp only[Ao];refine aB (IC (xs:=fs.map Fd.d) (ys:=row) rfl rfl (by rw[Aa];exact el) ?_);refine f7 (λds δ m=>m=n/\∃(gs:List Fd)(vs:List Ad)(hp:Nm)(hs:List Str)(y z u:Option SV),ds=dE (gs.map Fd.d) vs/\gs.length=vs.length/\δ=[↑(bN fs),↑(.tuple row),↑(bO nm),ae (.odk (bA hp)),ae (.own ⇑83),y,z,u] /\
   (∀g∈gs,g.ok)/\(∀d∈vs,cv d=ah)/\(hp.map (·.1)).Nodup/\(∀p∈hp,fN p)/\hp.length+gs.length<=48/\hs.length+gs.length<=16/\Q (.d (K8 (wk (gs.zip vs) hp hs))) n) ?_ ?_ _ _ _ ?_
  ·rintro δ m ⟨rfl,gs,vs,hp,hs,y,z,u,e,hl,rfl,gok,vok,nd,hok,l1,l2,kq⟩
   have:gs=[]:=by
    cases gs with
    |nil=>rfl
    |cons g gs=>cases vs with|nil=>cases hl|cons v vs=>cases e
   subst this;rw[List.length_nil]at l1;show ∃ps':Nm,bA hp=bA ps'/\ps'.length < 64/\(∀p∈ps',p.1.length<=1000)/\∀ys:List Str,ys.Perm (ps'.map (·.1))->ys.Pairwise ⇑96->
    cJ (aD 0) bJ (aA (ao ↥0 (ao (w2 (dG 1) ↥0 gi) ak))) (λds n1=>Q (.d ⇑25) n1) (ys.map .str) [] [af,ae (.w (.dk (bA hp)))] m
   refine⟨hp,rfl,by omega,λp hp'=>Bj (hok p hp').1.1 ∎,λys p1 r1=>?_⟩;refine GO (λd=>∃x w,d=.str x/\look hp x=ae w) (λd=>match d with|.str x=>.tuple [.str x,(look hp x).getD .none]|d=>d) (λd n' Q' hP hq=>?_) _ _ _ _ (λd hd=>?_) ?_
   ·obtain⟨x,w,rfl,lw⟩:=hP;have hq:Q' (.d (.tuple [.str x,(look hp x).getD .none])) n':=hq;rw[lw]at hq;show(match bZ (bA hp) (.inr x)with|some d=>(2:Nat)<=1000/\Q' (.d (.tuple [.str x,d])) n'|none=>False);rw[jQ,lw];exact⟨by decide,hq⟩
   ·obtain⟨x,hx,rfl⟩:=Bf.mp hd;obtain⟨p,hp',rfl⟩:=Bf.mp (p1.mem_iff.mp hx);exact⟨p.1,p.2,rfl,u6 nd hp'⟩
   ·rw[Bu];have kq:Q (.d (bO (bP hp))) m:=kq;rw[L1 nd p1 r1]at kq;have e:(ys.map Dz).map (λd=>match d with|.str x=>Fw [.str x,(look hp x).getD .none]|d=>d)=(ys.map λx=>(x,(look hp x).getD .none)).map gN:=by rw[B7,B7];rfl
    rw[e];exact kq
  ·rintro d r δ m N ⟨rfl,gs,vs,hp,hs,y,z,u,e,hl,rfl,gok,vok,nd,hok,l1,l2,kq⟩ hN
   cases gs with
   |nil=>cases e
   |cons g gs=>
    cases vs with
    |nil=>cases hl
    |cons v vs=>
     have e1:d=.tuple [g.d,v]:=by have:=congrArg (λl=>l.head?) e;simpa[dE]using this
     have e2:r=dE (gs.map Fd.d) vs:=by have:=congrArg List.tail e;simpa[dE]using this
     subst e1 e2;rw[Ay]at l1 l2;rw[Ay,Ay]at hl;have gk:=gok g Au;have vk:=vok v Au;rw[Hf]at kq;have no:(wk ((g,v)::gs.zip vs) hp hs=af)->Q ⇑17 m:=λw=>by rw[w]at kq;exact kq
     have go:∀(hp':Nm)(hs':List Str)(y z u:Option SV),wk ((g,v)::gs.zip vs) hp hs=wk (gs.zip vs) hp' hs'->(hp'.map (·.1)).Nodup->(∀p∈hp',fN p)->hp'.length<=hp.length+1->hs'.length<=hs.length+1->
       N [↑(bN fs),↑(.tuple row),↑(bO nm),ae (.odk (bA hp')),ae (.own (hs'.map .str)),y,z,u] m:=λhp' hs' y z u hw a1 a2 a3 a4=>
      hN _ _ ⟨rfl,gs,vs,hp',hs',y,z,u,rfl,by omega,rfl,λg hg=>gok g (Ap _ hg),λd hd=>vok d (Ap _ hd),a1,a2,by omega,by omega,by rw[<-hw];exact kq⟩
     refine⟨rfl,?_⟩;dsimp only[bG,aD,cM,Ao];refine aB (bK (x:=.bool ah) (λQ q=>aF q) ?_);sleep 0;cases g with
     |any=>
      refine aB (dz (a:=.str "any") (r:=[]) rfl N5 (aX (λQ q=>iF (s:="any") (r:=[]) rfl ∅ q) (Ld (r:=[]) "any" rfl ∅ ∅ (dz (a:=.str "any") (r:=[]) rfl ∅ ?_))));sleep 1;exact kZ (b:=ah) rfl (λ_=>go hp hs _ _ _ (by rw[wk]) nd hok ⋯ ⋯) (λz=>by cases z)
     |is w=>
      refine aB (jh (a:=.str "is") (r:=[w]) rfl u4 (bK (x:=.bool (eL w v)) (λQ q=>ar (cj (a:=.str "is") (b:=w) (r:=[]) rfl ⇑41)) ?_))
      ·unfold aZ;simp only[mJ (show cv w=ah from gk) vk];exact q
      sleep 0;exact kZ rfl (λz=>go hp hs _ _ _ (by rw[wk,if_pos z]) nd hok ⋯ ⋯) (λz=>no (by rw[wk,if_neg (by rw[z];exact Ai)]))
     |word=>
      refine aB (dz (a:=.str "word") (r:=[]) rfl PR (bC (λQ q=>iF (s:="word") (r:=[]) rfl ∅ q) (bK (x:=.bool (iP v)) (λQ q=>ar ?_) ?_)))
      ·unfold bV;refine au rfl (eV (a:=.str "word") (r:=[]) rfl ?_);rw[Nv];cases v with
       |str s=>rw[my];exact q
       |int i=>rw[my];exact q
       |_=>cases vk
      sleep 0;exact kZ rfl (λz=>go hp hs _ _ _ (by rw[wk,if_pos z]) nd hok ⋯ ⋯) (λz=>no (by rw[wk,if_neg (by rw[z];exact Ai)]))
     |number=>
      refine aB (dz (a:=.str "number") (r:=[]) rfl MG (bC (λQ q=>iF (s:="number") (r:=[]) rfl ∅ q) (bK (x:=.bool (iT v)) (λQ q=>ar ?_) ?_)))
      ·unfold bV;refine au rfl (eV (a:=.str "number") (r:=[]) rfl ?_);rw[L0];cases v with
       |str s=>rw[my];exact q
       |int i=>rw[my];exact q
       |_=>cases vk
      sleep 0;exact kZ rfl (λz=>go hp hs _ _ _ (by rw[wk,if_pos z]) nd hok ⋯ ⋯) (λz=>no (by rw[wk,if_neg (by rw[z];exact Ai)]))
     |as x=>
      refine aB (dz (a:=.str "as") (r:=[.str x]) rfl vM (aX (λQ q=>iF (s:="as") (r:=[.str x]) rfl ∅ q) (bC (λQ q=>mF (λQ q=>eV (a:=.str "as") (r:=[.str x]) rfl ?_) q) (yL rfl rfl rfl vk hok ?_))))
      ·show Q (bz "as" ⇑45) m;rw[HA];exact q
      sleep 0;refine kZ rfl (λz=>go hp hs _ _ _ ?_ nd hok ⋯ ⋯) (λz=>no ?_)
      ·unfold mf at z;rw[wk];cases q:look hp x with
       |none=>rw[q]at z;cases z
       |some w=>rw[q]at z;simp only[show eL w v=ah from z,if_true]
      ·unfold mf at z;rw[wk];cases q:look hp x with
       |none=>rfl
       |some w=>rw[q]at z;simp only[show eL w v=ai from z,B3,if_false]
     |bind x=>
      refine aB (dz (a:=.str "bind") (r:=[.str x]) rfl So (aX (λQ q=>iF (s:="bind") (r:=[.str x]) rfl ∅ q) (Jd (hs:=hs) rfl rfl (λhx=>yL rfl rfl rfl vk hok ?_) λhx=>jh (a:=.str "bind") (r:=[.str x]) rfl uu ?_)))
      ·sleep 0;refine kZ rfl (λz=>go hp hs _ _ _ ?_ nd hok ⋯ ⋯) (λz=>no ?_)
       ·unfold mf at z;rw[wk,if_pos hx];cases q:look hp x with
        |none=>rw[q]at z;cases z
        |some w=>rw[q]at z;simp only[show eL w v=ah from z,if_true]
       ·unfold mf at z;rw[wk,if_pos hx];cases q:look hp x with
        |none=>rfl
        |some w=>rw[q]at z;simp only[show eL w v=ai from z,B3,if_false]
      ·refine aB (lN (x:=.str x) (es:=hs.map .str) rfl (λQ q=>cj (a:=.str "bind") (b:=.str x) (r:=[]) rfl q) ⇑22 ?_);sleep 0;unfold m5;refine(show(match ae (ae (SV.odk (bA hp)))with|some (ae (.odk kvs))=>_|_=>False)from ?_);refine au rfl (cj (a:=.str "bind") (b:=.str x) (r:=[]) rfl ⟨by unfold bA;rw[Aa];omega,?_⟩);rw[sq];sleep 0;have:=go (put hp x v) (hs++[x]) (↑(.tuple [.str "bind",.str x])) (↑v) (↑⇑32) (by rw[wk,if_neg hx]) (t8 nd) (oR hok gk vk) (sG _ _ _) (by rw[An];exact Aq _);rw[A7]at this;exact kZ (b:=ah) rfl (λ_=>this) (λz=>by cases z)
  ·refine⟨rfl,fs,row,nm,[],af,af,af,rfl,el,rfl,okp.2.2,okr.2,okn.2.1,okn.2.2,by have:=okp.2.1;have:=okn.1;omega,by have:=okp.2.1;simpa using Bj this ∎,?_⟩;unfold dm cF at k;rw[decide_eq_true el,Bool.true_and]at k;unfold ee at k;cases e:wk (fs.zip row) nm []with
   |none=>rw[e]at k;exact k
   |some x=>rw[e]at k;exact k
theorem Uc{w1 w2:DT}(h1:∀Q:DQ,Q (.d a) n->w1 δ n Q)(h2:∀Q:DQ,Q (.d b) n->w2 δ n Q)(k:Q (.d (.tuple [a,b])) n):aA (ao w1 (ao w2 ak)) δ n Q:=h1 _ (h2 _ (Al ⇑18 k))
theorem sx:∀t,20<=gZ t
 |0=>by decide
 |t+1=>by have:=sx t;show 20<=4*gZ t;omega
def Fe.sg:Fe->Fd
 |.any=>.any
 |.word=>.word
 |.num=>.number
 |.isv d=>.is d
 |.bind k=>.bind k
 |.as k=>.bind k
 |.nx _=>.any
theorem L4{f:Fe}(h:f.ok):f.sg.ok:=by cases f<;>first|exact h|exact trivial
section
variable{δ:Sl}{n:Int}{Q:DQ}{i:Nat}
theorem wq(e:δ[i]?=ae (↑(.int a))):∀Q:Bool->Int->Prop,Q (decide (b < a)) n->cT (w2 (aj i) (wC (.int b)) jG) δ n Q:=λQ q=>ar (au e (aF q))
theorem J9(e:δ[i]?=ae (↑(.int a))):∀Q:Bool->Int->Prop,Q (decide (a < b)) n->cT (w2 (aj i) (wC (.int b)) gf) δ n Q:=λQ q=>ar (au e (aF q))
theorem yM(e:δ[i]?=ae (↑(.int a))):∀Q:Bool->Int->Prop,Q (decide (a=b)) n->cT (w2 (aj i) (wC (.int b)) aZ) δ n Q:=λQ q=>ar (au e (aF q))
theorem vf{W V:aJ}(ha:∀Q:Bool->Int->Prop,Q a n->A δ n Q)(hb:∀Q:Bool->Int->Prop,Q b n->B δ n Q)(hT:a=ah->b=ah->W δ n K)(hF:(a&&b)=ai->V δ n K):aL (dq A B) W V δ n K:=by
 cases a with
 |false=>exact aX (λQ q=>oD ha q) (hF rfl)
 |true=>
  cases b with
  |false=>exact aX (λQ q=>mM ha (hb _ q)) (hF rfl)
  |true=>exact bC (λQ q=>mM ha (hb _ q)) (hT rfl rfl)
theorem lH(k:Q (.d (.int (a-b))) n):cC (λi j=>.int (i-j)) (.d (.int a)) (.d (.int b)) n Q:=k
end
theorem Rb{f:Fe}(h:f.pt=ah):∀(n:Int)(Q':DQ),Q' (.d f.sg.d) n->eu (cT (w2 ⇑42 (wC ⇑45) aZ)) (aA (ao ⇑52 (ao ⇑30 ak))) ↥0 [↑f.d] n Q':=λn Q' q=>by
 have no:∀(s:Str)(r:List Ad),f.d=.tuple (.str s::r)->bz "as" (.str s)=ai->f.sg.d=f.d->eu (cT (w2 ⇑42 (wC ⇑45) aZ)) (aA (ao ⇑52 (ao ⇑30 ak))) ↥0 [↑f.d] n Q':=λs r e h1 h2=>by
  refine gg (b:=ai) (λQ q=>eV (a:=.str s) (r:=r) (by rw[e];rfl) (by show Q (bz "as" (.str s)) n;rw[h1];exact q)) ?_;sleep 7;refine au rfl ?_;rw[<-h2];exact q
 cases f with
 |any=>exact no "any" _ rfl ∅ rfl
 |word=>exact no "word" _ rfl ∅ rfl
 |num=>exact no "number" _ rfl ∅ rfl
 |isv d=>exact no "is" _ rfl ∅ rfl
 |bind k=>exact no "bind" _ rfl ∅ rfl
 |nx k=>cases h
 |as k=>
  refine gg (b:=ah) (λQ q=>eV (a:=.str "as") (r:=[.str k]) rfl (by show Q (bz "as" ⇑45) n;rw[HA];exact q)) ?_;sleep 10;exact Uc (λQ q=>aF q) (λQ q=>cj (a:=.str "as") (b:=.str k) (r:=[]) rfl q) q
theorem UJ:∀d ws n Q,j0 d ws n Q->ws.length=3:=λd ws n Q h=>by
 cases d with
 |zero=>exact h.elim
 |succ t=>obtain⟨_,rfl,_⟩:=h;rfl
theorem Pw:∀d ws n Q,j0 (d+1) ws n Q->EZ (j0 d) (dw ["_law_tape_here","_law_programs","_law_deep","_law_way","_law_some","_law_hand","_law_block","_law_fields"] ws) n {nx:=λ_ n=>Q ⇑17 n,rt:=Q}:=λt ws n Q h=>by
 obtain⟨ps,rfl,⟨hp5,hps⟩,hn,k⟩:=h;have g20:=sx t;have fin:∀(b:Bs)(n':Int),b.ok ps->n'<=n+20->Q (.d b.d) n':=λb n' hb hn'=>by
  have:=k (Sg.bs t b) n' (AJ ps t b hb) ⋯;rw[MB]at this;exact this
 show EZ (j0 t) [ae (.w .tp),↑(bw ps),↑(.int t),af,af,af,af,af] n _;refine aB (qC (m:=8) rfl ⋯ ∎ ∎ λw w0 w1=>?_);sleep 0;have inner:∀u,t=u+1->∀(n1:Int)(Q':DQ),n1+gZ u < 2 ^ 39->(∀(g:Sg u)(n':Int),Sg.ok ps u g->n'<=n1+gZ u->Q' (.d (Sg.d u g)) n')->j0 t [.tp,.d (bw ps),.d (.int ((t:Int)-1))] n1 Q':=λu e n1 Q' hn1 q=>by
  subst e;exact⟨ps,by rw[show((u+1:Nat):Int)-1=(u:Int) by omega],⟨hp5,hps⟩,hn1,q⟩
 refine aB (vf (wq rfl) (yM rfl) (λha hb=>?_) λhw0=>?_)
 ·have ha:=of_decide_eq_true ha;cases t with
  |zero=>exact absurd ha ∎
  |succ u=>
   have g20':=sx u;have e4:gZ (u+1)=4*gZ u:=rfl;refine bx (cK (aF (bF (au rfl (au rfl (ar (au rfl (aF (lH (inner u rfl (n+1) _ ⋯ λg n' hg hn'=>?_))))))))));exact Al ⇑18 (k (.inr (.inr g)) n' hg ⋯)
 sleep 1;refine aB (vf (wq rfl) (J9 rfl) (λha hb=>?_) λ_=>?_)
 ·have ha:=of_decide_eq_true ha;have hb:=of_decide_eq_true hb;cases t with
  |zero=>exact absurd ha ∎
  |succ u=>
   have g20':=sx u;have e4:gZ (u+1)=4*gZ u:=rfl;refine aB (show aw 4 _ _ _ _ from bb ?_);unfold cg dF;refine ar ⇑107;dsimp only;refine ia (m:=4) rfl ⋯ ∎ ∎ λq q0 q1=>l3 (ds:=[.int 2,.int 0,.int 1,.int 3]) q0 q1 λd hd=>?_;have hj:∃j:Nat,j<=3/\d=.int j:=by
    sleep 24;rcases hd with rfl|rfl|rfl|rfl
    ·sleep 20
    ·exact⟨0,by decide,rfl⟩
    ·exact⟨1,by decide,rfl⟩
    ·exact⟨3,by decide,rfl⟩
   obtain⟨j,hj,rfl⟩:=hj;sleep 27;rw[Br];obtain⟨c,hc⟩:∃c:Nat,gZ u=(c:Int):=⟨(gZ u).toNat,by omega⟩;have hm:(c:Int)*(j:Int)<=3*(c:Int):=by
    rw[Int.mul_comm];exact Int.mul_le_mul_of_nonneg_right ⋯ ⋯
   refine qT (λd=>∃g,Sg.ok ps u g/\d=Sg.d u g) c (λd n Q' hn q=>bF (au rfl (au rfl (ar (au rfl (aF (lH (inner u rfl n _ ⋯ λg n' hg hn'=>q _ n' ⟨g,hg,rfl⟩ ⋯)))))))) _ [] af _ (by rw[fw];omega) λds n' hl hds hn'=>?_;rw[fw]at hl hn';rw[Bu];obtain⟨gs,rfl,hgs⟩:=xQ hds;sleep 0;refine bx (cK (ar ⇑107));dsimp only;refine ar (au rfl (aF (lH ?_)));refine l3 (ds:=[.str "all",.str "some"]) (r:=w-1) ?_ ?_ λf hf=>?_
   ·have:w≠0:=λz=>by rw[decide_eq_true ha,decide_eq_true z]at hw0;cases hw0
    omega
   ·show w-1 < 2;omega
   refine aT ⇑41;dsimp only[eG];simp only[Ax,A8,or_false]at hf;rcases hf with rfl|rfl
   ·exact Al ⇑18 (k (.inr (.inl (ah,gs))) n' hgs ⋯)
   ·exact Al ⇑18 (k (.inr (.inl (ai,gs))) n' hgs ⋯)
 sleep 1;refine aB (vf (a:=decide ((0:Int) < (ps.map dR).length)) (λQ q=>aI (k:=decide ((0:Int) < (ps.map dR).length)) (λQ q=>ar (BZ (ds:=ps.map dR) rfl (aF q))) q) (wq rfl) (λha hb=>?_) λ_=>?_)
 ·have ha:=of_decide_eq_true ha;have hb:=of_decide_eq_true hb;rw[Aa]at ha;refine aB (show aw 5 _ _ _ _ from gO (m:=(ps.map dR).length) rfl ⇑117 ⋯ ⇑22 ⇑22 λr r0 r1=>?_);rw[Aa]at r1;obtain⟨h,hh⟩:∃b:Nat,r=(b:Int):=⟨r.toNat,by omega⟩;subst hh;have hlt:h < ps.length:=by omega
  sleep 0;refine aB (cV (yM rfl _ ?_));by_cases h6:w=6
  ·rw[if_pos (decide_eq_true h6)];exact bx (cK (aF (au rfl (Al ⇑18 (fin (.ended h) _ hlt ⋯)))))
  rw[if_neg (by simpa using h6)];sleep 1;have hP:ps[h]?=ae ps[h]:=Ae hlt;generalize ps[h]=P at hP;have hp':(ps.map dR)[h]?=ae (dR P):=by rw[Am,hP];rfl
  obtain⟨g1,g2,g3⟩:=hps P (A0 hP);refine aB (show aw 6 _ _ _ _ from gO (m:=(P.map d9).length) rfl (λQ q=>aT (ar (au rfl (au rfl (bf hp' q))))) ⋯ ⇑22 ⇑22 λr r0 r1=>?_);rw[Aa]at r1;obtain⟨b,hb⟩:∃b:Nat,r=(b:Int):=⟨r.toNat,by omega⟩;subst hb;have hbl:b < P.length:=by omega
  obtain⟨bl,hbl'⟩:∃bl:Bl,P[b]?=ae bl:=⟨P[b],Ae hbl⟩;obtain⟨wn,as⟩:=bl;have hi':(P.map d9)[b]?=ae (d9 (wn,as)):=by rw[Am,hbl'];rfl
  obtain⟨ob,_⟩:=g3 (wn,as) (A0 hbl');have has:as.length<=8:=ob.2.2.1;sleep 0;refine bx (wQ (aF (au rfl ⇑41)));refine gO (m:=((as.map Ac.d).length:Int)+1) rfl (λQ q=>ar (aT (ar (ar (ar (au rfl (au rfl (bf hp' (au rfl (bf hi' (aF (eS ?_))))))))))))  ⋯ ⋯ ⇑22 λr r0' r1'=>?_
  ·exact fm q
  rw[Aa]at r1';obtain⟨p,hp⟩:∃p:Nat,r=(p:Int):=⟨r.toNat,by omega⟩;subst hp;exact Al (show 4<=1000 by decide) (fin (.at h b p) _ ⟨hlt,by omega,by omega⟩ ⋯)
 sleep 1;refine aB (show aw 7 _ _ _ _ from bb ?_);unfold cg c9;dsimp only;refine ar (cq (au rfl (jX (Cr [] ⟨.d (.list []),rfl,rfl,by decide,λk hk=>by simp at hk,by omega,λfs n' hf1 hfs hpt _ hn'=>?_⟩))));refine aF (cY ?_);dsimp only[cE];refine lM Fe.d (λf=>f.sg.d) fs [] af n' (λf hf n Q' q=>Rb (hpt f hf) n Q' q) ?_;rw[Bu];sleep 0;refine bx (i6 (aF (aT ⇑41)));dsimp only[eG];refine ar ⇑107;dsimp only;refine ia (m:=5) rfl ⋯ ∎ ∎ λq q0 q1=>l3 (ds:=[.int 1,.int 2,.int 1,.int 3,.int 9]) q0 q1 λd hd=>?_;have hj:∃j:Nat,d=.int j:=by
  sleep 24;rcases hd with rfl|rfl|rfl|rfl|rfl
  ·exact⟨1,rfl⟩
  ·exact⟨2,rfl⟩
  ·exact⟨1,rfl⟩
  ·exact⟨3,rfl⟩
  ·exact⟨9,rfl⟩
 obtain⟨j,rfl⟩:=hj;have:=fin (.notes (fs.map Fe.sg) j) (n'+1) ⟨by rw[Aa];exact hf1,by rw[Aa];exact hfs.1,λf hf=>by obtain⟨e,he,rfl⟩:=Bf.mp hf;exact L4 (hfs.2 e he)⟩ ⋯;have e:bN (fs.map Fe.sg)=.tuple (fs.map λf=>f.sg.d):=by unfold bN;rw[B7];rfl
 refine Al ⇑86 ?_;have t2:Bs.d (.notes (fs.map Fe.sg) j)=.tuple [.str "notes",.tuple (fs.map λf=>f.sg.d),.int j]:=by show Fw [.str "notes",bN (fs.map Fe.sg),.int j]=_;rw[e]
 rw[t2]at this;exact this
theorem O4:cD v7 Iq ["_law_template_here","_law_names","_law_row","_law_field","_law_value_here"]:=λws n Q h=>by
 obtain⟨fs,nm,rfl,hl,ok,okn,k⟩:=h;show Iq [↑(cE fs),↑(bO nm),af,af,af] n _;refine aB (i7 ?_);sleep 0;refine aB ?_;unfold aU c9;refine au rfl ?_;dsimp only[cE];refine f7 (λds δ m=>m=n/\∃(dn re:List Fe)(x y:Option SV),ds=re.map Fe.d/\dn++re=fs/\δ=[↑(cE fs),↑(bO nm),ae (.own (dn.map (eD nm))),x,y]) (λδ m I=>?_) (λd r δ m N I kN=>?_) _ _ _ ⟨rfl,[],fs,af,af,rfl,rfl,rfl⟩
 ·obtain⟨rfl,dn,re,x,y,ed,en,rfl⟩:=I;cases Ga.mp ed.symm;rw[Bp]at en;subst en;sleep 19;sleep 0;exact bx (aT (au rfl (rl k)))
 ·obtain⟨rfl,dn,re,x,y,ed,en,rfl⟩:=I;obtain⟨f,re,rfl,rfl,rfl⟩:=Ew.mp ed.symm;have hf:=ok f (by rw[<-en];exact Bk _ Au);have hdn:dn.length < 1000000:=by
   have:=congrArg D8 en;rw[An]at this;omega
  obtain⟨fo,tm,us⟩:=hf;have app:∀(K:DEnds)(x:Option SV)(v:Ad),v=eD nm f->(∀δ n,N δ n->K.nx δ n)->a8 2 ↥4 [↑(cE fs),↑(bO nm),ae (.own (dn.map (eD nm))),x,↑v] m K:=λK x v e hK=>
   lN rfl ⇑31 (by rw[Aa];exact hdn) (by subst e;exact hK _ _ (kN _ _ ⟨rfl,dn++[f],re,x,_,rfl,by rw[Bm];exact en,by rw[A7];rfl⟩))
  have named:∀(K:DEnds)(s x:Str)(v:Ad),look nm x=ae v->bz "is" (.str s)=ai->(aq (aL (dq (cT (w2 ⇑74 (wC (.str "next")) aZ)) (cy (cT (bV "str" ↥4)))) (aw 4 (w2 (w2 ↥4 ⇑1 ⇑36) ⇑100 (gI (λ_ j=>0 < j) λi j=>.int (i % j)))) aG) (a8 2 ↥4)) [↑(cE fs),↑(bO nm),ae (.own (dn.map (eD nm))),↑(.tuple [.str s,.str x]),↑v] m K->
    aq (aL (cT (w2 ⇑74 ⇑73 fF)) (aw 4 (w2 (kL ↥1) (w2 ↥3 ⇑1 av) gi)) aG) (aq (aL (dq (cT (w2 ⇑74 (wC (.str "next")) aZ)) (cy (cT (bV "str" ↥4)))) (aw 4 (w2 (w2 ↥4 ⇑1 ⇑36) ⇑100 (gI (λ_ j=>0 < j) λi j=>.int (i % j)))) aG) (a8 2 ↥4)) [↑(cE fs),↑(bO nm),ae (.own (dn.map (eD nm))),↑(.tuple [.str s,.str x]),↑(.str x)] m K:=λK s x v e hs kk=>by
   refine aB (bC (λQ q=>aI (k:=ah) (λQ q=>ar (df (a:=.str s) (r:=[.str x]) rfl (aF (ne_str (by rw[hs];exact q))))) q) ?_);refine bK (x:=v) (λQ q=>ar (BM rfl okn (cj (a:=.str s) (b:=.str x) (r:=[]) rfl ?_))) ?_
   ·unfold gi;simp only[jQ,e];exact q
   ·sleep 0;exact kk
  cases f with
  |isv d=>
   sleep 13;refine aB (bK (x:=d) (λQ q=>cj (a:=.str "is") (b:=d) (r:=[]) rfl q) ?_);sleep 0;refine aB (aX (λQ q=>aI (k:=ai) (λQ q=>ar (df (a:=.str "is") (r:=[d]) rfl (aF (ne_str (by rw[u4];exact q))))) q) ?_);sleep 1;refine aB (aX (λQ q=>oD (λQ q=>eV (a:=.str "is") (r:=[d]) rfl (by rw[show bz "next" (.str "is")=ai by decide +kernel];exact q)) q) ?_);sleep 1;exact app _ _ _ rfl λ_ _ z=>z
  |as x=>
   obtain⟨v,e,hv⟩:=us x rfl;sleep 13;refine aB (bK (x:=.str x) (λQ q=>cj (a:=.str "as") (b:=.str x) (r:=[]) rfl q) ?_);sleep 0;refine named _ "as" x v e vM ?_;refine aB (aX (λQ q=>oD (λQ q=>eV (a:=.str "as") (r:=[.str x]) rfl (by rw[show bz "next" ⇑45=ai by decide +kernel];exact q)) q) ?_);sleep 1;exact app _ _ _ (by show v=gQ nm x;unfold gQ;rw[e];rfl) λ_ _ z=>z
  |nx x=>
   obtain⟨v,e,hv⟩:=us x rfl;have ev:eD nm (.nx x)=ko v:=by show ko (gQ nm x)=_;unfold gQ;rw[e];rfl
   sleep 13;refine aB (bK (x:=.str x) (λQ q=>cj (a:=.str "next") (b:=.str x) (r:=[]) rfl q) ?_);sleep 0;refine named _ "next" x v e ∅ ?_;cases v with
   |str t=>
    refine aB (aX (λQ q=>mM (λQ q=>eV (a:=.str "next") (r:=[.str x]) rfl (by rw[show bz "next" (.str "next")=ah by decide +kernel];exact q)) (pU (k:=ah) (λQ q=>aI (k:=ah) (λQ q=>show bV _ _ _ _ _ from au rfl (show Q (.d (.bool (fX "str" (.str t)))) m by rw[my];exact q)) q) q)) ?_);sleep 1;exact app _ _ _ (by rw[ev];rfl) λ_ _ z=>z
   |int i=>
    refine aB (bC (λQ q=>mM (λQ q=>eV (a:=.str "next") (r:=[.str x]) rfl (by rw[show bz "next" (.str "next")=ah by decide +kernel];exact q)) (pU (k:=ai) (λQ q=>aI (k:=ai) (λQ q=>show bV _ _ _ _ _ from au rfl (show Q (.d (.bool (fX "str" (.int i)))) m by rw[my];exact q)) q) q)) ?_);refine bK (x:=.int ((i+1) % 100)) (λQ q=>ar (ar (au rfl (aF (fm (aF ⟨show(0:Int) < 100 by decide,q⟩)))))) ?_;sleep 0;exact app _ _ _ (by rw[ev,Kt hv]) λ_ _ z=>z
   |_=>cases hv
  |_=>cases tm
theorem IY:cD tF EJ ["_law_programs","_law_hands","_law_hand","_law_block","_law_place","_law_names","_law_acts"]:=λws n Q h=>by
 obtain⟨ps,hs,h,rfl,hok,hh,k⟩:=h;obtain⟨P,xb,xp,nm,w,as,H⟩:=iQ hok hh;rw[H.act]at k;show EJ [↑(bw ps),↑⇑124,↑(.int h),af,af,af,af] n _;refine aB ?_;unfold cw;refine ar (au rfl (au rfl (bf H.hD (Al rfl ?_))));sleep 15;refine aB (bK (x:=.tuple (as.map Ac.d)) (λQ q=>ar (ar (ar (au rfl (au rfl (bf H.pD (au rfl (bf H.bD (aF (eS q)))))))))) ?_);sleep 0;exact bx (HQ rfl rfl k)
def xx(fs:List Fd)(nm:Nm)(ns:List Nt):Option Nat->Ad
 |none=>.none
 |some i=>.tuple [.int (i:Nat),bO (bP (ee fs (cH ns i) nm))]
theorem Uk(fs)(nm)(ns):fS fs nm ns=xx fs nm ns (aY fs nm ns):=by unfold fS xx;cases aY fs nm ns<;>rfl
theorem PX:cD oi GZ ["_law_act_here","_law_notes_here","_law_names","_law_place","_law_found"]:=λws n Q h=>by
 obtain⟨a,fs,ns,nm,rfl,oa,ef,okn,okm,k⟩:=h;obtain⟨of,s,r,e,h1,_⟩:=qY ef oa;rw[e,Uk]at *;show GZ [↑(.tuple (.str s::bN fs::r)),↑(dN ns),↑(bO nm),af,af] n _;refine aB ?_;unfold aU dF;refine aT ⇑41;refine Al ⟨by omega,by rw[Aa];have:=okn.1;omega⟩ ?_;rw[Br,Aa];refine f7 (λds δ m=>m=n/\∃(dn re:List Nt)(x6 x7:Option SV),ds=cm (dn.length:Nat) re.length/\dn++re=ns/\δ=[↑(.tuple (.str s::bN fs::r)),↑(dN ns),↑(bO nm),x6,x7] /\
  Q (.d (xx fs nm ns ((aY fs nm re).map λi=>i+dn.length))) n) (λδ m I=>?_) (λd r' δ m N I kN=>?_) _ _ _ ⟨rfl,[],ns,af,af,rfl,rfl,rfl,?_⟩
 ·obtain⟨rfl,dn,re,x6,x7,ed,en,rfl,kq⟩:=I;have:re=[]:=by
   cases re with
   |nil=>rfl
   |cons q re=>rw[Ay,oZ]at ed;cases ed
  subst this;exact(show Q ⇑17 m from kq)
 ·obtain⟨rfl,dn,re,x6,x7,ed,en,rfl,kq⟩:=I;cases re with
  |nil=>cases ed
  |cons q re=>
   rw[Ay,oZ]at ed;obtain⟨rfl,rfl⟩:=Fz ed;have hq:ns[dn.length]?=ae q:=by rw[<-en];simp
   have oq:=okn.2 q (A0 hq);have hq':(ns.map dy)[dn.length]?=ae (.tuple [.tuple q.1,q.2]):=by rw[Am,hq];rfl
   sleep 13;refine aB (bK (x:=dm fs q.1 nm) (λQ q'=>?_) ?_)
   ·refine bF (cj rfl ?_);refine ar (ar (au rfl (au rfl (bf hq' (aF (cY ⇑41))))));exact⟨fs,q.1,nm,rfl,of,oq.1,okm,q'⟩
   sleep 0;cases eb:cF fs q.1 nm with
   |true=>
    rw[qG,if_pos eb,Option.map_some,Nat.zero_add]at kq;have kq:Q (.d (.tuple [.int (dn.length:Nat),bO (bP (ee fs (cH ns dn.length) nm))])) m:=kq;rw[show cH ns dn.length=q.1 by unfold cH;rw[hq];rfl]at kq;rw[CU eb];exact bC (λQ q=>aI (k:=ah) ⇑102 q) (bx (cK (au rfl (au rfl (Al ⇑18 kq)))))
   |false=>
    rw[show dm fs q.1 nm=.none by unfold dm;rw[if_neg (by rw[eb];exact Ai)]];refine aX (λQ q=>aI (k:=ai) ⇑102 q) (kN _ _ ⟨rfl,dn++[q],re,_,_,?_,by rw[Bm];exact en,rfl,?_⟩)
    ·rw[An,A3];rw[show((dn.length+1:Nat):Int)=(dn.length:Int)+1 from rfl]
    ·rw[qG,if_neg (by rw[eb];exact Ai),Option.map_map]at kq;have:((λi=>i+dn.length) ∘ λx=>x+1)=λi=>i+(dn++[q]).length:=funext λx=>by
      show x+1+dn.length=_;rw[An,A3];omega
     rw[this]at kq;exact kq
 ·rw[show((aY fs nm ns).map λi=>i+([]:List Nt).length)=aY fs nm ns by cases aY fs nm ns<;>rfl];exact k
theorem Su(okh:okHs ps hs)(hh:m < ps.length):(bX ps hs ns m).isSome=cn ps hs ns m:=by
 cases h:cn ps hs ns m with
 |true=>obtain⟨r,e⟩:=Uj okh hh h;rw[e];rfl
 |false=>
  sleep 25;unfold bX;rw[if_neg ⋯];cases ea:bI ps hs m with
  |none=>
   unfold eI;rw[H.prog,H.hand,ea];rfl
  |some a=>
  rw[qy ea,Bool.or_eq_false_iff,Bool.not_eq_false']at h;rw[mK H ea];have eg:∀gs:List Fe,a.pf=ae ⇑24->bL gs ⇑20 ns=af:=λgs hpf=>by
   refine je (show aY ⇑24 nm ns=af from ?_);have h2:=h.2;unfold eO at h2;rw[ea,H.nmq]at h2;have h2:(a.pf.bind λfs=>aY fs nm ns).isSome=ai:=h2;rw[hpf]at h2;have h2:(aY ⇑24 nm ns).isSome=ai:=h2;cases q:aY ⇑24 nm ns with
   |none=>rfl
   |some i=>rw[q]at h2;cases h2
  cases a with
  |take gs=>
   show(((bL gs ⇑20 ns).map λq=>(q.2,cU ns q.1)).map λr=>⇑87).isSome=ai;rw[eg gs rfl];rfl
  |read gs=>
   show(((bL gs ⇑20 ns).map λq=>(q.2,ns)).map λr=>⇑87).isSome=ai;rw[eg gs rfl];rfl
  |lay fs age=>cases h.1
  |go b=>cases h.1
  |same f g b=>cases h.1
  |look gs b=>cases h.1
theorem MR(okh:okHs ps hs):iY ps hs ns=(A5 ps.length).filter (cn ps hs ns)++[ps.length]:=by
 unfold iY;rw[List.range_succ,List.filter_append]
 congr 1
 ·refine List.filter_congr λi hi=>?_;rw[Su okh (Cb.mp hi)]
 ·have:bX ps hs ns ps.length=ae (hs,eM ns):=by unfold bX;rw[if_pos rfl]
  rw[D4,this];rfl
theorem Ud(fs)(nm)(ns):eU (fS fs nm ns)=!(aY fs nm ns).isSome:=by
 unfold fS;cases aY fs nm ns<;>rfl
theorem Rz:cD d5 zC ["_law_programs","_law_stand_here","_law_found","_law_hand","_law_act_here","_law_names"]:=λws n Q h=>by
 obtain⟨ps,hs,ns,rfl,⟨okp,okh,okn⟩,k⟩:=h;rw[MR okh,A7]at k;show zC [↑(bw ps),↑⇑23,af,af,af,af] n _;refine aB (i7 ?_);sleep 0;refine aB ?_;unfold aU dF;refine aT ⇑41;refine Al ⟨by omega,by rw[Aa];have:=okp.1;omega⟩ ?_;rw[Br,Aa];refine f7 (λds δ m=>m=n/\∃(i:Nat)(x3 x4 x5:Option SV),ds=cm (i:Nat) (ps.length-i)/\i<=ps.length/\δ=[↑(bw ps),↑⇑23,ae (.own (((A5 i).filter (cn ps hs ns)).map λi=>.int (i:Nat))),x3,x4,x5]) (λδ m I=>?_) (λd r' δ m N I kN=>?_) _ _ _ ⟨rfl,0,af,af,af,rfl,A6 _,rfl⟩
 ·obtain⟨rfl,i,x3,x4,x5,ed,hi,rfl⟩:=I;have ei:i=ps.length:=by
   by_cases z:i=ps.length
   ·exact z
   ·rw[show ps.length-i=(ps.length-i-1)+1 by omega,oZ]at ed;cases ed
  subst ei;sleep 19;sleep 0;refine bx (ar (au rfl (bb ?_)));refine aT ⇑41;show 1<=1000/\_;refine Al ∎ ⟨?_,?_⟩
  ·rw[Aa];have h1:=Gu (cn ps hs ns) (A5 ps.length);rw[Eb]at h1;have:=okp.1;refine mS ?_;show _+1<=_;omega
  ·rw[Aa];exact k
 ·obtain⟨rfl,i,x3,x4,x5,ed,hi,rfl⟩:=I;have hlt:i < ps.length:=by
   by_cases z:i < ps.length
   ·exact z
   ·rw[show ps.length-i=0 by omega]at ed;cases ed
  rw[show ps.length-i=(ps.length-i-1)+1 by omega,oZ]at ed;obtain⟨rfl,rfl⟩:=Fz ed;have nx:∀(x3 x4 x5:Option SV)(o:List Ad),o=((A5 (i+1)).filter (cn ps hs ns)).map (λi=>.int (i:Nat))->N [↑(bw ps),↑⇑23,ae (.own o),x3,x4,x5] m:=λx3 x4 x5 o e=>
   kN _ _ ⟨rfl,i+1,x3,x4,x5,by rw[show ps.length-i-1=ps.length-(i+1) by omega];rfl,hlt,by rw[e]⟩
  have er:(A5 (i+1)).filter (cn ps hs ns)=(A5 i).filter (cn ps hs ns)++if cn ps hs ns i=ah then[i]else[]:=by
   rw[List.range_succ,List.filter_append,D4];rfl
  obtain⟨P,xb,xp,nm,w,as,H⟩:=iQ okh hlt;sleep 13;refine aB (bK (x:=kI (bI ps hs i)) (λQ q=>bF (au rfl (ar (au rfl (aF (cY (au rfl ⟨ps,hs,i,rfl,okh,hlt,q⟩))))))) ?_);sleep 0;cases ea:bI ps hs i with
  |none=>
   refine aX (λQ q=>aI (k:=ai) ⇑102 q) ?_;refine nx _ _ _ _ ?_;rw[er,if_neg (by unfold cn;rw[ea];exact Ai),Bp]
  |some a=>
   have oa:=H.ok okp ea;refine bC (λQ q=>aI (k:=ah) (λQ q=>ar (au rfl (aF (by show Q (.d (.bool (!eU a.d))) m;rw[yt];exact q)))) q) ?_;refine aB (bK (x:=bO nm) (λQ q=>ar (ar (ar (au rfl (aF (cY (au rfl (bf H.hD (aF (fV q)))))))))) ?_);sleep 0;obtain⟨s,r,e,hw⟩:=Nq oa;have hl:(((A5 i).filter (cn ps hs ns)).map λi=>Ff (i:Nat)).length < 1000000:=by
    rw[Aa];have h1:=Gu (cn ps hs ns) (A5 i);rw[Eb]at h1;have:=okp.1;omega
   have yes:cn ps hs ns i=ah->∀(K:DEnds)(x4 x5:Option SV),(∀δ n,N δ n->K.nx δ n)->a8 2 ↥3 [↑(bw ps),↑⇑23,ae (.own (((A5 i).filter (cn ps hs ns)).map λi=>.int (i:Nat))),↑⇑59,x4,x5] m K:=λhc K x4 x5 hK=>
    lN rfl ⇑31 hl (hK _ _ (nx _ _ _ _ (by rw[er,if_pos hc,A7];rfl)))
   cases wt:a.wt with
   |false=>
    rw[wt]at hw;refine bC (λQ q=>mF (λQ q=>aI (k:=ah) (λQ q=>DY (s:=s) (r:=r) (by show ae (ae (SV.w (.d a.d)))=_;rw[e]) hw q) q) q) ?_;exact yes (by rw[qy ea,wt];rfl) _ _ _ λ_ _ z=>z
   |true=>
    rw[wt]at hw;obtain⟨fs,hfs⟩:∃fs,a.pf=ae fs:=by cases a<;>first|exact⟨_,rfl⟩|cases wt
    have hc:cn ps hs ns i=(aY fs nm ns).isSome:=by
     rw[qy ea,wt];unfold eO;rw[ea,H.nmq];show(ai || (a.pf.bind λfs=>aY fs nm ns).isSome)=_;rw[hfs];rfl
    refine cV (i9 (λQ q=>aI (k:=ai) (λQ q=>DY (s:=s) (r:=r) (by show ae (ae (SV.w (.d a.d)))=_;rw[e]) hw q) q) (aI (k:=cn ps hs ns i) (λQ q=>ar (bF (au rfl (ar (au rfl (aF (eS (au rfl ⟨a,fs,ns,nm,rfl,oa,hfs,okn,H.nms,aF ?_⟩)))))))) ?_))
    ·show Q (.d (.bool (!eU (fS fs nm ns)))) m;rw[Ud,Bool.not_not,<-hc];exact q
    ·cases hcb:cn ps hs ns i with
     |true=>
      sleep 10;exact yes hcb _ _ _ λ_ _ z=>z
     |false=>
      sleep 7;exact nx _ _ _ _ (by rw[er,hcb,if_neg Ai,Bp])
theorem Iy:∀(ns:List Nt)(acc:List Ad)(x y:Option SV)(n:Int),(∀q∈ns,iB q.2)->Q (acc++(eM ns).map dy) n->
  cJ (eC 2 (bG (aD 0) (bG (aD 1) cM))) (cT (w2 ↥1 ⇑1 fF)) (aA (ao ↥0 (ao (eu (cT (w2 ↥1 ⇑15 (bh ai))) ↥1 (w2 ↥1 ⇑1 ⇑94)) ak))) Q (ns.map dy) acc [x,y] n
 |[],acc,x,y,n,_,q=>by
  have:eM []=[]:=rfl;rw[this,Ei,Bp]at q;exact q
 | (row,a)::r,acc,x,y,n,h,q=>by
  have ha:iB a:=h (row,a) Au;have ih:=λacc x y n q=>Iy (Q:=Q) r acc x y n (λq hq=>h q (Ap _ hq)) q;rw[Bc];refine(show eC 2 _ (dy (row,a)) [x,y] _ from⟨rfl,?_⟩);sleep 15;refine aI (k:=!fE a) (λQ q=>ar (au rfl (aF (Hs ha q)))) ?_;show if (!fE a)=ah then _ else _
  have e0:eM ((row,a)::r)=(if (!fE a)=ah then[(row,iS a)]else[])++eM r:=by
   unfold eM;rw[D4];dsimp only
   split<;>rfl
  rw[e0]at q;cases hi:fE a with
  |true=>
   rw[hi,if_neg ∎,Bu]at q;rw[if_neg ∎];exact ih _ _ _ _ q
  |false=>
   rw[hi,if_pos ∎,A7,<-Bm]at q;rw[if_pos ∎];rcases ha with rfl|⟨i,rfl,_⟩
   ·exact cK (au rfl (gg (b:=ah) (λQ q=>aI (k:=ah) ⇑102 q) (by rw[if_pos rfl];exact au rfl (Al ⇑18 (ih _ _ _ _ q)))))
   ·exact cK (au rfl (gg (b:=ai) (λQ q=>aI (k:=ai) ⇑102 q) (by rw[if_neg Ai];exact ar (au rfl (aF (Al ⇑18 (ih _ _ _ _ q)))))))
abbrev tE:aJ:=aq (aw 13 (aA (ao ↥5 (ao (w2 ↥6 ⇑1 ⇑36) ⇑68)))) (aq (aL (cT (w2 ↥9 ⇑15 (bh ah))) (aq (aw 14 (w2 (w2 ⇑115 ↥9 av) ⇑0 av)) (aw 13 (aA (ao ↥9 (ao ⇑0 (ao (wB eG (ao (bj (cg [af,ae 14] (c9 ↥7) (aD 0) (cT (w2 ⇑42 ↥1 (fc ai))) ↥0)) ak)) ak)))))) aG) (az (aA (ao (w2 (w2 (d4 ↥3 eB (dJ ↥2)) (aA (ao ↥13 ak)) f6) (d4 ↥3 (dJ (w2 ↥2 ⇑1 ⇑36)) eB) f6) ⇑38))))
abbrev ya(ps:Pg)(hs:List Hn)(ns ns':List Nt)(m xb xp:Nat)(nm:Nm)(o8 o9 o10 o11 o12 o13 o14:Option SV):Sl:=[↑(bw ps),↑⇑23,↑(.int m),↑⇑124,↑(dN ns'),↑(.int xb),↑(.int xp),↑(bO nm),o8,o9,o10,o11,o12,o13,o14]
section
variable{ps:Pg}{hs:List Hn}{ns ns':List Nt}{m xb xp:Nat}{nm:Nm}{n:Int}{Q:DQ}
theorem CM(okh:okHs ps hs)(okp:cf ps)(hh:m < ps.length)(x)(o5 o6 o7 o8 o9 o10 o11 o12 o14)(q:Q (.d (bE (a9 hs m x) ns')) n):az (aA (ao (w2 (w2 (d4 ↥3 eB (dJ ↥2)) (aA (ao ↥13 ak)) f6) (d4 ↥3 (dJ (w2 ↥2 ⇑1 ⇑36)) eB) f6) ⇑38))
   [↑(bw ps),↑⇑23,↑(.int m),↑⇑124,↑(dN ns'),o5,o6,o7,o8,o9,o10,o11,o12,↑(bM x),o14] n {nx:=λ_ n=>Q ⇑17 n,rt:=Q}:=by
 have hlt:m < hs.length:=by rw[okh.1];exact hh
 have hl5:hs.length<=5:=by rw[okh.1];exact okp.1
 have hd:(a9 hs m x).map bM=((hs.map bM).take m++[bM x])++(hs.map bM).drop (m+1):=by
  unfold a9;rw[A7,Bc,List.map_take,List.map_drop,Bm];rfl
 unfold bE at q;rw[hd]at q;have l1:((hs.map bM).take m).length<=5:=Bj (G2 _ _) (by rw[Aa];exact hl5);have l2:((hs.map bM).drop (m+1)).length<=5:=by rw[C1,Aa];omega
 refine bx (cK (ar (ar (qt (p:=m) ⇑31 ⇑31 ⇑22 (rY (au rfl (Al (show 1<=1000 by decide) (ki (by rw[A3];omega) ?_))))))));exact qH (p:=m+1) ⇑31 (λQ q=>ar (au rfl (aF (fm q)))) ⇑22 (ki (by rw[An,A3];omega) (au rfl (Al ⇑18 q)))
theorem rj(okh:okHs ps hs)(okp:cf ps)(hh:m < ps.length)(o8 o10 o11 o12 o13 o14)(q:Q (.d (bE (a9 hs m (xb,xp+1,nm)) ns')) n):tE (ya ps hs ns ns' m xb xp nm o8 (ae (.w ⇑17)) o10 o11 o12 o13 o14) n {nx:=λ_ n=>Q ⇑17 n,rt:=Q}:=by
 refine aB (bK (x:=bM (xb,xp+1,nm)) (λQ q=>i6 (au rfl (ar (au rfl (aF (fm (au rfl (Al ⇑86 q)))))))) ?_);sleep 0;refine aB (aX (λQ q=>aI (k:=ai) ⇑102 q) ?_);sleep 1;exact CM okh okp hh _ _ _ _ _ _ _ _ _ _ q
theorem tK(okh:okHs ps hs)(okp:cf ps)(hh:m < ps.length)(hP:(ps.map dR)[m]?=ae (.tuple (P.map d9)))(hb:P[b]?=ae bl)(hbl:bl.1.length<=4)(o8 o10 o11 o12 o13 o14)(q:Q (.d (bE (a9 hs m (bR P b nm)) ns')) n):tE (ya ps hs ns ns' m xb xp nm o8 (↑(.int (b:Nat))) o10 o11 o12 o13 o14) n {nx:=λ_ n=>Q ⇑17 n,rt:=Q}:=by
 have hB:(P.map d9)[b]?=ae (.tuple [dA bl.1,.tuple (bl.2.map Ac.d)]):=by rw[Am,hb];rfl
 refine aB (bK (x:=bM (xb,xp+1,nm)) (λQ q=>i6 (au rfl (ar (au rfl (aF (fm (au rfl (Al ⇑86 q)))))))) ?_);sleep 0;refine aB (bC (λQ q=>aI (k:=ah) ⇑102 q) ?_);refine aB (bK (x:=dA bl.1) (λQ q=>ar (ar (ar (au rfl (au rfl (bf hP (au rfl (bf hB (aF (cY q)))))))))) ?_);sleep 0;refine bK (x:=bM (bR P b nm)) (λQ q=>?_) ?_
 ·refine i6 (au rfl (aF (aT (bb (gD (ds:=nm.map gN) ⇑31 ?_)))));refine l5 gN gN (λp=>decide (p.1∈bl.1)) nm [] af n (λa ha n Q' q=>?_) (λa ha n Q' q=>au rfl q) ?_
  ·refine aI (k:=decide (a.1∈bl.1)) (λQ q=>ar (df (a:=.str a.1) (r:=[a.2]) rfl ⇑41)) q;refine⟨rfl,qg bl.1,?_⟩;show Q (.d (.bool (bS (.str a.1) (bl.1.map .str)))) n;rw[lF];exact q
  ·rw[Bu];refine Al ⇑86 ?_;have e:lW P b=bl.1:=by unfold lW;rw[hb];rfl
   unfold bR at q;rw[e]at q;exact q
 ·sleep 0;exact CM okh okp hh _ _ _ _ _ _ _ _ _ _ q
end
theorem yl(hf:eY nm f)(te:f.te=ah)(okn:okN nm):∀(n:Int)(Q':DQ),Q' (.d (eD nm f)) n->eu (cT (w2 ⇑42 ⇑73 aZ)) ⇑30 (w2 (kL ↥1) ⇑30 gi) [↑f.d,↑(bO nm)] n Q':=λn Q' q=>by
 cases f with
 |isv d=>exact gg (b:=ah) (λQ q=>eV (a:=.str "is") (r:=[d]) rfl (by show Q (bz "is" (.str "is")) n;rw[u4];exact q)) (by rw[if_pos rfl];exact cj (a:=.str "is") (b:=d) (r:=[]) rfl q)
 |as x=>
  obtain⟨v,e,hv⟩:=hf.2.2 x rfl;refine gg (b:=ai) (λQ q=>eV (a:=.str "as") (r:=[.str x]) rfl (by show Q (bz "is" ⇑45) n;rw[vM];exact q)) ?_;sleep 7;refine ar (BM rfl okn (cj (a:=.str "as") (b:=.str x) (r:=[]) rfl ?_));have q:Q' (.d (gQ nm x)) n:=q;unfold gQ at q;rw[e]at q;unfold gi;simp only[jQ,e];exact q
 |_=>cases te
theorem Qq(a b c d):d6 [a,b,c,d] (ae 1) (ae 3)=[b,c]:=rfl
theorem Pr:cD d8 AH ["_law_programs","_law_stand_here","_law_mover","_law_hands","_law_notes_here","_law_block","_law_place","_law_names","_law_act_here","_law_target","_law_one","_law_other","_law_got_here","_law_behind","_law_wanted"]:=λws n Q h=>by
 obtain⟨ps,hs,ns,m,r,rfl,⟨okp,okh,okn⟩,hm,e,k⟩:=h;show AH [↑(bw ps),↑⇑23,↑(.int m),af,af,af,af,af,af,af,af,af,af,af,af] n _;refine aB ?_;unfold cw;refine au rfl (Al rfl ?_);sleep 15;unfold bX at e;refine aB (cV (aI (k:=decide ((m:Int)=(ps.length:Nat))) (λQ q=>ar (au rfl (aT ⇑41))) ?_))
 ·show Q (.d (.bool (decide ((m:Int)=((ps.map dR).length:Nat))))) n;rw[Aa];exact q
 by_cases em:m=ps.length
 ·rw[if_pos em]at e;cases e;show if decide ((m:Int)=(ps.length:Nat))=ah then _ else _
  rw[if_pos (decide_eq_true ⋯)];refine bx (cK (au rfl (aT (bb (gD (ds:=ns.map dy) ⇑31 ?_)))));show cJ _ _ _ _ _ _ [af,af] n;exact Iy ns [] af af n (λq hq=>(okn.2 q hq).2) (Al ⇑18 k)
 rw[if_neg em]at e;show if decide ((m:Int)=(ps.length:Nat))=ah then _ else _
 rw[if_neg (by rw[decide_eq_false ⋯];exact Ai)];sleep 1;have hh:m < ps.length:=by omega
 sleep 25;refine aB ?_;refine ar (au rfl (au rfl (bf H.hD (Al rfl ?_))));sleep 15;cases ea:bI ps hs m with
 |none=>
  unfold eI at e;rw[H.prog,H.hand,ea]at e;cases e
 |some a=>
 rw[mK H ea]at e;have oa:=H.ok okp ea;have hA:(as.map Ac.d)[xp]?=ae a.d:=by rw[Am,<-H.act,ea];rfl
 refine aB (bK (x:=a.d) (λQ q=>ar (ar (ar (ar (au rfl (au rfl (bf H.pD (au rfl (bf H.bD (aF (eS (au rfl (bf hA q))))))))))))) ?_);sleep 0;refine aB (bK (x:=.none) (λQ q=>aF q) ?_);sleep 0;have toB:∀(b:Nat),a.to=ae b->∃bl:Bl,P[b]?=ae bl/\bl.1.length<=4:=λb hb=>by
  obtain⟨bl,hbl,obl,sub⟩:=H.to okp ea hb;exact⟨bl,hbl,obl.1⟩
 have getY:∀(s:Str)(gs:List Fe)(r5:List Ad)(i:Nat),a.d=.tuple (.str s::r5)->a.pf=ae ⇑24->aY ⇑24 nm ns=ae i->∀K:DEnds,
   (∀δ n,tE δ n {nx:=λ_ n=>Q ⇑17 n,rt:=Q}->K.nx δ n)->
   Q (.d (bE (a9 hs m (cW ⇑20 (bP (ee ⇑24 (cH ns i) nm)))) (if bz "take" (.str s)=ah then cU ns i else ns))) n->
   (aq (aw 12 (aC oi (ao ↥8 (ao ↥4 ⇑68)))) (aL (cT (w2 ↥12 ⇑15 (bh ai))) (aw 9 (w2 ↥8 ⇑2 av)) (aq (aw 7 (w2 ↥12 ⇑1 av)) (aL (cT (w2 (w2 ↥8 ⇑0 av) ⇑101 aZ)) (aw 4 (w2 (d4 ↥4 eB (dJ (w2 ↥12 ⇑0 av))) (d4 ↥4 (dJ (w2 (w2 ↥12 ⇑0 av) ⇑1 ⇑36)) eB) f6)) aG)))) (ya ps hs ns ns m xb xp nm (↑a.d) (ae (.w ⇑17)) af af af af af) n K:=λs gs r5 i ed hpf ei K hK q=>by
  refine aB (bK (x:=.tuple [.int (i:Nat),bO (bP (ee ⇑24 (cH ns i) nm))]) (λQ q=>bF (au rfl (au rfl (au rfl ⟨a,_,ns,nm,rfl,oa,hpf,okn,H.nms,?_⟩)))) ?_)
  ·unfold fS;rw[ei];exact q
  sleep 0;refine aX (λQ q=>aI (k:=ai) ⇑102 q) (aB ?_);refine bK (x:=bO (bP (ee ⇑24 (cH ns i) nm))) (λQ q=>cj rfl q) ?_;sleep 0;obtain⟨⟨row,age⟩,hq,hf⟩:=xj ei;have hi:i < ns.length:=(Ar.mp hq).1;rw[ed];refine sD rfl (λz=>?_) λz=>?_
  ·rw[if_pos z]at q;refine bK (x:=dN (cU ns i)) (λQ q=>ar (qt (p:=i) ⇑31 (λQ q=>df rfl q) ⇑22 (qH (p:=i+1) ⇑31 (λQ q=>ar (df rfl (aF (fm q)))) ⇑22 (ki ?_ ?_)))) ?_
   ·have:=okn.1;rw[E7,C1,Aa];omega
   ·unfold dN at q;rw[BJ]at q;exact q
   ·sleep 0;exact hK _ _ (rj okh okp hh _ _ _ _ _ _ q)
  ·rw[if_neg (by rw[z];exact Ai)]at q;exact hK _ _ (rj okh okp hh _ _ _ _ _ _ q)
 cases a with
 |lay fs age=>
  obtain⟨hl4,hfv⟩:=H.lay okp ea;cases e;refine aB (jh (a:=.str "lay") (r:=[cE fs,age]) rfl ∅ ?_);refine bK (x:=dN (ns++[(fT fs nm,age)])) (λQ q=>?_) ?_
  ·refine ar (au rfl (rY (cK (cq (cj (a:=.str "lay") (b:=cE fs) (r:=[age]) rfl (au rfl ⟨fs,nm,rfl,hl4,hfv,H.nms,?_⟩))))));refine fJ (m:=2) (ds:=[.str "lay",cE fs,age]) rfl rfl (Al ⇑18 (Al (show 1<=1000 by decide) (ki (by rw[Aa,A3];have:=okn.1;omega) ?_)));unfold dN at q;rw[A7]at q;exact q
  ·sleep 0;exact rj okh okp hh _ _ _ _ _ _ k
 |go b=>
  cases e;obtain⟨bl,h1,h2⟩:=toB b rfl;refine aB (dz (a:=.str "go") (r:=[.int b]) rfl ∅ (jh (a:=.str "go") (r:=[.int b]) rfl ∅ ?_));refine bK (x:=.int b) (λQ q=>cj (a:=.str "go") (b:=.int b) (r:=[]) rfl q) ?_;sleep 0;exact tK okh okp hh H.pD h1 h2 _ _ _ _ _ _ k
 |same f g b=>
  obtain⟨hf,hg,tf,tg⟩:=H.same okp ea;obtain⟨bl,h1,h2⟩:=toB b rfl;cases e;refine aB (dz (a:=.str "same") (r:=[f.d,g.d,.int b]) rfl ∅ (dz (a:=.str "same") (r:=[f.d,g.d,.int b]) rfl ∅ (jh (a:=.str "same") (r:=[f.d,g.d,.int b]) rfl ∅ ?_)));refine aB ?_;refine bb (gD (ds:=[f.d,g.d]) (λQ q=>?_) ?_)
  ·unfold d4;refine au rfl ?_;dsimp only[Ac.d,dJ];refine aF ?_;dsimp only;refine aF ?_;dsimp only;rw[Qq];exact q
  refine lM (α:=Fe) Fe.d (eD nm) [f,g] [] af n (λu hu n Q' q=>?_) ?_
  ·rcases Ax.mp hu with rfl|hu
   ·exact yl hf tf H.nms n Q' q
   ·rw[Ba.mp hu]at q ⊢;exact yl hg tg H.nms n Q' q
  rw[Bu];refine Al rfl ?_;sleep 15;have k:Q (.d (bE (a9 hs m (if eL (eD nm f) (eD nm g)=ah then cW ⇑20 nm else bR P b nm)) ns)) n:=k;cases z:eL (eD nm f) (eD nm g)with
  |true=>
   rw[z,if_pos rfl]at k;refine bK (x:=.none) (λQ q=>gg (b:=ah) (λQ q=>aI (k:=ah) (λQ q=>ar (au rfl (au rfl (ur (gA hf) (gA hg) (by rw[z];exact q))))) q) (by rw[if_pos rfl];exact aF q)) ?_;sleep 0;exact rj okh okp hh _ _ _ _ _ _ k
  |false=>
   rw[z,if_neg Ai]at k;refine bK (x:=.int b) (λQ q=>gg (b:=ai) (λQ q=>aI (k:=ai) (λQ q=>ar (au rfl (au rfl (ur (gA hf) (gA hg) (by rw[z];exact q))))) q) (by rw[if_neg Ai];exact fJ (m:=3) (ds:=[.str "same",f.d,g.d,.int b]) rfl rfl q)) ?_;sleep 0;exact tK okh okp hh H.pD h1 h2 _ _ _ _ _ _ k
 |take gs=>
  have e:(((bL gs ⇑20 ns).map λq=>(q.2,cU ns q.1)).map λr=>⇑87)=ae r:=e;refine aB (dz (a:=.str "take") (r:=[cE gs]) rfl ∅ (dz (a:=.str "take") (r:=[cE gs]) rfl ∅ (dz (a:=.str "take") (r:=[cE gs]) rfl ∅ ?_)));cases ei:aY ⇑24 nm ns with
  |none=>rw[je ei]at e;cases e
  |some i=>
   rw[jg ei]at e;cases e;exact getY "take" gs [cE gs] i rfl rfl ei _ (λ_ _ z=>z) (by rw[if_pos ∅];exact k)
 |read gs=>
  have e:(((bL gs ⇑20 ns).map λq=>(q.2,ns)).map λr=>⇑87)=ae r:=e;refine aB (dz (a:=.str "read") (r:=[cE gs]) rfl ∅ (dz (a:=.str "read") (r:=[cE gs]) rfl ∅ (dz (a:=.str "read") (r:=[cE gs]) rfl ∅ ?_)));cases ei:aY ⇑24 nm ns with
  |none=>rw[je ei]at e;cases e
  |some i=>
   rw[jg ei]at e;cases e;exact getY "read" gs [cE gs] i rfl rfl ei _ (λ_ _ z=>z) (by rw[if_neg ∅];exact k)
 |look gs b=>
  have e:((match bL gs ⇑20 ns with|some q=>ae (q.2,ns)|none=>ae (bR P b nm,ns):Option (Hn×List Nt)).map λr=>⇑87)=ae r:=e;refine aB (dz (a:=.str "look") (r:=[cE gs,.int b]) rfl ∅ (dz (a:=.str "look") (r:=[cE gs,.int b]) rfl ∅ (dz (a:=.str "look") (r:=[cE gs,.int b]) rfl ∅ ?_)));cases ei:aY ⇑24 nm ns with
  |none=>
   rw[je ei]at e;cases e;obtain⟨bl,h1,h2⟩:=toB b rfl;refine aB (bK (x:=.none) (λQ q=>bF (au rfl (au rfl (au rfl ⟨.look gs b,_,ns,nm,rfl,oa,rfl,okn,H.nms,?_⟩)))) ?_)
   ·unfold fS;rw[ei];exact q
   sleep 0;refine bC (λQ q=>aI (k:=ah) ⇑102 q) ?_;refine bK (x:=.int b) (λQ q=>fJ (m:=2) (ds:=[.str "look",cE gs,.int b]) rfl rfl q) ?_;sleep 0;exact tK okh okp hh H.pD h1 h2 _ _ _ _ _ _ k
  |some i=>
   rw[jg ei]at e;cases e;exact getY "look" gs [cE gs,.int b] i rfl rfl ei _ (λ_ _ z=>z) (by rw[if_neg ∅];exact k)
def oQ(ps:Pg):List Hn:=ps.map λ_=>(0,0,[])
theorem KW(hf:∀P∈ps,jS P):okHs ps (oQ ps):=by
 refine⟨Aa _,λi P hi=>?_⟩;obtain⟨w,hw⟩:=hf P (A0 hi);obtain⟨b,r,rfl,hb,_⟩:=Ew.mp hw;refine⟨(0,0,[]),b,?_,rfl,A6 _,List.nodup_nil,λp hp=>(by simp at hp),List.Pairwise.nil,λk=>?_,A6 _⟩
 ·unfold oQ;rw[Am,hi];rfl
 ·show k∈([]:List Str)↔k∈kn b.1 b.2 0;unfold kn;rw[hb];simp
theorem OU:cD ud BS ["_law_tape_here","_law_programs"]:=λws n0 Q h=>by
 obtain⟨rfl,hn0,k⟩:=h;show BS [ae (.w .tp),af] n0 _;refine aB (show bo 1 _ _ _ _ from ?_);unfold bo cg dF;refine ar ⇑107;dsimp only;refine ia (m:=8) rfl ⋯ ∎ ∎ λq q0 q1=>jC (ds:=[.int 1,.int 2,.int 2,.int 1,.int 3,.int 2,.int 0,.int 2]) q0 q1 λd hd=>?_;have hj:∃j:Nat,j<=3/\d=.int j:=by
  sleep 24;rcases hd with rfl|rfl|rfl|rfl|rfl|rfl|rfl|rfl
  ·exact⟨1,by decide,rfl⟩
  ·sleep 20
  ·sleep 20
  ·exact⟨1,by decide,rfl⟩
  ·exact⟨3,by decide,rfl⟩
  ·sleep 20
  ·exact⟨0,by decide,rfl⟩
  ·sleep 20
 obtain⟨j,hj,rfl⟩:=hj;sleep 27;rw[Br];refine qT (λd=>∃P,(qz P/\jS P)/\d=dR P) 600 (λd n Q' hn q=>dQ (au rfl (Al rfl ⟨by omega,λP n' hP hP' hn'=>q (dR P) n' ⟨P,⟨hP,hP'⟩,rfl⟩ ⋯⟩))) _ [] af _ (by rw[fw];omega) λds n1 hpl hps0 hn1=>?_;rw[fw]at hpl hn1;rw[Bu];obtain⟨ps,rfl,hps⟩:=xQ hps0;clear hps0;rw[Aa]at hpl;sleep 0;have aE:∀(ps':Pg)(n2:Int),ps'.length<=3->(∀P∈ps',qz P/\jS P)->n2<=n1+1->(aq (aw 1 (wB gC (ao (cS 1) ak))) (aq (aL (cT (w2 (aC b9 (ao ↥0 ⇑85)) ⇑0 b7)) (bW 1 (az (aA (ao ↥1 (ao (aC rT (ao ↥0 (ao ↥1 (ao ⇑3 ak)))) ak))))) aG) (bW 1 (az (aA (ao ↥1 (ao (aA (ao (wB gC (ao (bj (cg [af] (c9 ↥1) (aD 0) bJ (aA (ao ⇑0 (ao ⇑0 (ao (aA ak) ak)))))) ak)) (ao (aC nM (ao ↥0 (ao ⇑4 ak))) ak))) ak))))))) [ae (.w .tp),ae (.own (ps'.map dR))] n2 {nx:=λ_ n=>Q ⇑17 n,rt:=Q}:=λps' n2 hl' hp' hn2=>by
  have op:cf ps':=⟨by omega,λP hP=>(hp' P hP).1⟩;refine aB (bK (x:=bw ps') (λQ q=>aT (nh rfl (show gC [.ln (ps'.map dR)] n2 Q from q))) ?_);sleep 0;refine aB (cV ?_);refine(show cT _ _ _ _ from ar (ia (m:=2) rfl ⋯ ∎ ∎ λq q0 q1=>aF (jH ?_)));show if decide (q=0)=ah then _ else _
  by_cases hq:q=0
  ·rw[if_pos (decide_eq_true hq)];refine(show bW 1 _ _ _ _ from ?_);refine bx (cK (au rfl (bF (au rfl (au rfl (aF (Cr ps' ⟨3,rfl,by decide,op,by omega,λhs ns n' hh hn hn'=>?_⟩)))))));exact Al ⇑18 (k ps' hs ns n' op hh ⟨Bj hn.1 ∎,hn.2⟩ ⋯)
  ·rw[if_neg (by simpa using hq)];sleep 1;refine(show bW 1 _ _ _ _ from ?_);refine bx (cK (au rfl (cK (aT (bb (gD (ds:=ps'.map dR) ⇑31 ?_))))));refine lM dR (λ_=>bM (0,0,[])) ps' [] af _ (λa ha n Q' q=>i6 (aF (aF (Al (A6 _) (Al ⇑86 q))))) ?_;rw[Bu];refine l4 (cq (au rfl (aF (Cr 4 ⟨rfl,by decide,by omega,λns n' hns hn'=>?_⟩))));have e:(ps'.map λ_=>bM (0,0,[]))=(oQ ps').map bM:=by unfold oQ;rw[B7];rfl
   rw[e];exact Al ⇑18 (Al ⇑18 (k ps' (oQ ps') ns n' op (KW λP hP=>(hp' P hP).2) hns ⋯))
 refine aB (cV ?_);refine(show cT _ _ _ _ from ar (aT (nh rfl (L7 (aF (jH ?_))))));rw[Aa];show if decide ((ps.length:Int)=2)=ah then _ else _
 by_cases h2:(ps.length:Int)=2
 ·rw[if_pos (decide_eq_true h2)];refine ar (ia (m:=4) rfl ⋯ ∎ ∎ λq q0 q1=>aF (jH ?_));show if decide (q=0)=ah then _ else _
  by_cases hq:q=0
  ·rw[if_pos (decide_eq_true hq)];have hl2:ps.length=2:=by omega
   obtain⟨P,P',rfl⟩:∃P P',ps=[P,P']:=by
    match ps,hl2 with
    |[P,P'],_=>exact⟨P,P',rfl⟩
   refine(show j1 1 _ _ _ _ _ from ar (nh rfl (aF ?_)));refine(show aV (.ln [dR P,dR P']) (.d (.int 0)) _ _ from ?_);refine aE [P,P] _ (show 2<=3 by decide) (λR hR=>?_) ⋯;simp only[Ax,A8,or_false,or_self]at hR;subst hR;exact hps _ Au
  ·rw[if_neg (by simpa using hq)];exact aE ps _ ⋯ hps ⋯
 ·rw[if_neg (by simpa using h2)];exact aE ps _ ⋯ hps ⋯
theorem IK{aE:Sl}(g)(xs:List Ad)(x)(n)(h:∀a∈xs,∀(n:Int) (Q':DQ),Q' (.d (g a)) n->w (↑a::aE) n Q')(q:Q (xs.map g) n):cJ (aD 0) bJ w Q xs [] (x::aE) n:=by
 have:=yQ id g xs x n h q;rw[G1]at this;exact this
theorem tN(okp:cf ps)(okh:okHs ps hs):∀(k i:Nat)(bs:List Bs)(x:Option SV)(n:Int),i+k=ps.length->n+(k:Int) < 2 ^ 39->(∀b∈bs,b.ok ps)->bs.length<=i->(∀(bs':List Bs)(n':Int),(∀b∈bs',b.ok ps)->bs'.length<=ps.length->n'<=n+(k:Int)->Q (bs'.map Bs.d) n')->
  cJ (aD 0) (cT (w2 (aC b9 (ao ↥2 ⇑85)) ⇑0 aZ)) (aA (ao (wC (.str "at")) (ao ↥0 (ao (w2 (w2 ↥1 ↥0 av) ⇑0 av) (ao (w2 (w2 ↥1 ↥0 av) ⇑1 av) ak))))) Q (cm (i:Nat) k) (bs.map Bs.d) [x,↑⇑124,ae (.w .tp)] n
 |0,i,bs,x,n,hi,hn,hb,hl,q=>q bs n hb ⋯ ⋯
 |k+1,i,bs,x,n,hi,hn,hb,hl,q=>by
  rw[oZ];obtain⟨P,xb,xp,nm,w,as,H⟩:=iQ okh (show i < ps.length by omega);have oP:=okp.2 P (A0 H.prog);have ob:=(oP.2.2 _ (A0 H.blk)).1;have hxb:xb<=100:=by have:=(Ar.mp H.blk).1;have:=oP.2.1;omega
  have hxp:xp<=100:=by have h1:xp<=as.length:=H.hn.pl;have h2:as.length<=8:=ob.2.2.1;omega
  simp only[cJ,aD,Dl];refine(show cT _ _ _ _ from ar (cq (au rfl (aF (xY ⋯ ∎ ∎ λr r0 r1=>aF (sV ?_))))));show if decide (r=0)=ah then _ else _
  rw[show((i:Nat):Int)+1=((i+1:Nat):Int)from rfl];by_cases hr:r=0
  ·rw[if_pos (decide_eq_true hr)];refine wQ (aF (au rfl (ar (ar (au rfl (au rfl (bf H.hD (aF (cY (ar (ar (au rfl (au rfl (bf H.hD (aF (eS (Al (show 4<=1000 by decide) ?_)))))))))))))))));have:=tN okp okh (Q:=Q) k (i+1) (bs++[.at i xb xp]) (↑⇑59) (n+1) ⋯ ⋯ (λb hb'=>(A9.mp hb').elim (hb b) λz=>by rw[Ba.mp z];exact⟨by omega,hxb,hxp⟩) (by rw[An,A3];omega) λbs' n' h1 h2 h3=>q bs' n' h1 h2 ⋯;rw[A7]at this;exact this
  ·rw[if_neg (by simpa using hr)];exact tN okp okh (Q:=Q) k (i+1) bs _ (n+1) ⋯ ⋯ hb ⋯ λbs' n' h1 h2 h3=>q bs' n' h1 h2 ⋯
theorem MS:cD qP HB ["_law_tape_here","_law_programs","_law_some","_law_hands","_law_notes_here","_law_parts","_law_row"]:=λws n Q h=>by
 obtain⟨ps,ss,rfl,h0,h1,okp,oks,hn,k⟩:=h;have hp5:=okp.1;show HB [ae (.w .tp),↑(bw ps),↑(.list (ss.map Sd.d)),af,af,af,af] n _;refine aB ?_;unfold cw;refine ar (au rfl (gO (m:=(ss.map Sd.d).length) rfl ⇑117 ⋯ ⇑22 ⇑22 λr r0 r1=>l3 r0 r1 λd hd=>?_));obtain⟨s,hs,rfl⟩:=Bf.mp hd;obtain⟨okh,okn⟩:=oks s hs;refine Al rfl ?_;sleep 15;refine aB (show bo 5 _ _ _ _ from ?_);unfold bo cg dF;refine aT ⇑41;refine Al ⟨by omega,by rw[Aa];omega⟩ ?_;rw[Br,Aa];refine tN okp okh ps.length 0 [] af (n+1) ⋯ ⋯ (λb hb=>by simp at hb) (Aq _) λbs n1 hb hl hn1=>?_;sleep 0;have fin:∀(bs:List Bs)(n2:Int)(x6:Option SV),(∀b∈bs,b.ok ps)->n2<=n+20->bW 5 (az (aA (ao (wC (.str "all")) (ao (wB eG ⇑51) ak)))) [ae (.w .tp),↑(bw ps),↑(.list (ss.map Sd.d)),↑(.tuple (s.hs.map bM)),↑(dN s.ns),ae (.own (bs.map Bs.d)),x6] n2 {nx:=λ_ n=>Q ⇑17 n,rt:=Q}:=λbs n2 x6 hb hn2=>by
  refine iu rfl ?_;sleep 0;refine bx (cK (aF (aT (au rfl (rl (Al ⇑18 ?_))))));have:=k (.inr (.inl (ah,bs.map (Sg.bs 1)))) n2 (λu hu=>by obtain⟨b,hb',rfl⟩:=Bf.mp hu;exact AJ ps 1 b (hb b hb')) hn2;have e:Sg.d 2 (.inr (.inl (ah,bs.map (Sg.bs 1))))=.tuple [.str "all",.tuple (bs.map Bs.d)]:=by
   show Fw [.str "all",.tuple ((bs.map (Sg.bs 1)).map (Sg.d 1))]=_;rw[B7];rfl
  rw[e]at this;exact this
 refine aB (cV (show cT _ _ _ _ from ar (BZ (ds:=s.ns.map dy) rfl (aF ?_))));show if decide ((0:Int) < ((s.ns.map dy).length:Nat))=ah then _ else _
 rw[Aa];by_cases z:(0:Int) < (s.ns.length:Nat)
 ·rw[if_pos (decide_eq_true z)];have hl100:=okn.1;refine aB (show aw 6 _ _ _ _ from ar (ar (au rfl (gO (m:=(s.ns.map dy).length) rfl ⇑117 ⋯ ⇑22 ⇑22 λr r0 r1=>?_))));obtain⟨j,hj⟩:∃j:Nat,r=(j:Int):=⟨r.toNat,by omega⟩;subst hj;rw[Aa]at r1;have hjl:j < s.ns.length:=by omega
  have hq:s.ns[j]?=ae s.ns[j]:=Ae hjl;generalize s.ns[j]=q at hq;have hq':(s.ns.map dy)[j]?=ae (.tuple [.tuple q.1,q.2]):=by rw[Am,hq];rfl
  have oq:=okn.2 q (A0 hq);refine bf hq' (aF (cY ?_));dsimp only[Ao];refine jd rfl (i6 (aF (aT (bb (gD (ds:=q.1) ⇑31 ?_)))));refine IK (λv=>(Fd.is v).d) q.1 af _ (λa ha n Q' q=>cK (aF (au rfl (Al ⇑18 q)))) (rl (aF ?_));refine Al ⇑86 (Al ⇑22 ?_);dsimp only[Ao];have:=fin (bs++[.notes (q.1.map Fd.is) 1]) (n1+1) (↑(.tuple q.1)) (λb hb'=>(A9.mp hb').elim (hb b) λz=>by
   rw[Ba.mp z];exact⟨by rw[Aa];exact oq.1.1.2,by rw[Aa];exact oq.1.1.1,λf hf=>by obtain⟨v,hv,rfl⟩:=Bf.mp hf;exact oq.1.2 v hv⟩) ⋯
  rw[A7]at this;have e:Bs.d (.notes (q.1.map Fd.is) 1)=.tuple [.str "notes",.tuple (q.1.map λv=>(Fd.is v).d),.int 1]:=by
   show Fw [.str "notes",bN (q.1.map Fd.is),.int 1]=_;unfold bN;rw[B7];rfl
  rw[List.map_singleton,e]at this;exact this
 ·rw[if_neg (by simpa using z)];sleep 1;exact fin bs n1 af hb ⋯
theorem Iw:∀{ds:List Ad},(∀d∈ds,cX n d=ah)->fH n ds=ah
 |[],_=>by rw[fH]
 |d::r,h=>by rw[fH,h d Au,Iw λe he=>h e (Ap _ he)];rfl
theorem ky(h:∀d∈ds,cX n d=ah):cX (n+1) ⇑25=ah:=by rw[cX];exact Iw h
theorem rq(n)(i):cX n (.int i)=ah:=by cases n<;>rw[cX]
theorem EU(h:Fc x=ah):cX n (.str x)=ah:=by cases n<;>(rw[cX];exact h)
theorem pJ(h:cv d=ah):cX n d=ah:=by
 cases d with
 |str x=>
  refine EU ?_;unfold cv at h;simp only[Cc]at h;exact h.2.1
 |int i=>exact rq n i
 |_=>cases h
theorem jF{P:Ad->Prop}(ha:P a)(hb:P b)(h:d∈[a,b]):P d:=by
 rcases Ax.mp h with rfl|h
 ·exact ha
 ·rw[Ba.mp h];exact hb
theorem NO(h:∀p∈nm,fN p):cX (n+2) (bO nm)=ah:=ky λd hd=>by
 obtain⟨p,hp,rfl⟩:=Bf.mp hd;exact ky λe he=>jF (P:=λe=>cX n e=ah) (EU (h p hp).1.2.1) (pJ (h p hp).2) he
theorem OD(h:iB d):cX n d=ah:=by
 rcases h with rfl|⟨i,rfl,_⟩
 ·cases n<;>rw[cX]
 ·exact rq n i
theorem Ng(okh:okHs ps hs):∀h∈hs,∀p∈h.2.2,fN p:=λh hh=>by
 obtain⟨i,hi,e⟩:=List.getElem_of_mem hh;obtain⟨h',b,q1,q2,q3⟩:=okh.2 i _ (Ae (by rw[<-okh.1];exact hi));rw[Ae hi,e]at q1;cases q1;exact q3.ok
theorem CD(okh:okHs ps hs)(okn:∀q∈ns,qM q):cX 6 ⇑23=ah:=by
 refine ky λd hd=>jF (P:=λd=>cX 5 d=ah) ?_ ?_ hd
 ·refine ky λd hd=>?_;obtain⟨h,hh,rfl⟩:=Bf.mp hd;refine ky λd hd=>?_;rcases Ax.mp hd with rfl|hd
  ·exact rq _ _
  ·exact jF (P:=λd=>cX 3 d=ah) (rq _ _) (NO (Ng okh h hh)) hd
 ·refine ky λd hd=>?_;obtain⟨q,hq,rfl⟩:=Bf.mp hd;refine ky λd hd=>jF (P:=λd=>cX 3 d=ah) ?_ (OD (okn q hq).2) hd;exact ky λd hd=>pJ ((okn q hq).1.2 d hd)
def jm(ps:Pg)(s:TK):Option (List Hn×List Nt):=open Classical in if h:∃p:List Hn×List Nt,s.1=bE p.1 p.2/\dZ ps p.1 p.2 then ae h.choose else af
def tT(d:Ad):Option TK:=if t:cX 6 d=ah then ae ⟨d,t⟩else af
def aO(ps:Pg)(s:TK)(m:Nat):Option TK:=(jm ps s).bind λp=>(bX ps p.1 p.2 m).bind λr=>tT (bE r.1 r.2)
def Gk(ps:Pg)(c:Nat)(s:TK):Prop:=∃hs ns,s.1=bE hs ns/\dZ ps hs ns/\ns.length+c<=99
theorem mL(h:Gk ps c s):∃hs ns,jm ps s=ae (hs,ns)/\s.1=bE hs ns/\dZ ps hs ns/\ns.length+c<=99:=by
 obtain⟨hs,ns,e,ok,hl⟩:=h;have hx:∃p:List Hn×List Nt,s.1=bE p.1 p.2/\dZ ps p.1 p.2:=⟨(hs,ns),e,ok⟩;refine⟨hx.choose.1,hx.choose.2,by unfold jm;rw[dif_pos hx],hx.choose_spec.1,hx.choose_spec.2,?_⟩;have e2:=e.symm.trans hx.choose_spec.1;unfold bE dN at e2;have e3:=congrArg D8 (PyData.tuple.inj (Fz (Fz (PyData.tuple.inj e2)).2).1);rw[Aa,Aa]at e3;exact Bj (Nat.le_of_eq (congrArg (λx=>x+c) e3.symm)) hl
section
variable{ps:Pg}{s:TK}{hs:List Hn}{ns:List Nt}{m:Nat}
theorem HJ(h:ps.length < m):bX ps hs ns m=af:=by
 unfold bX eI;rw[if_neg ⋯,Cj ⋯];rfl
theorem wK(e:jm ps s=ae (hs,ns))(ok:dZ ps hs ns)(ea:bX ps hs ns m=ae r):∃b:TK,aO ps s m=ae b/\b.1=bE r.1 r.2:=by
 have hm:m<=ps.length:=by
  by_cases z:m<=ps.length
  ·exact z
  ·rw[HJ ⋯]at ea;cases ea
 obtain⟨k1,k2⟩:=AK ok.1 ok.2.1 ok.2.2 hm ea;have t:=CD k1 k2.2;refine⟨⟨_,t⟩,?_,rfl⟩;unfold aO;rw[e];show((bX ps hs ns m).bind _)=_;rw[ea];show tT _=_;unfold tT;rw[dif_pos t]
theorem xZ(e:jm ps s=ae (hs,ns))(ea:bX ps hs ns m=af):aO ps s m=af:=by
 unfold aO;rw[e];show((bX ps hs ns m).bind _)=_;rw[ea];rfl
theorem yE(e:jm ps s=ae (hs,ns))(ok:dZ ps hs ns)(h:aO ps s m=ae b):∃r,bX ps hs ns m=ae r/\b.1=bE r.1 r.2/\m<=ps.length:=by
 cases ea:bX ps hs ns m with
 |none=>rw[xZ e ea]at h;cases h
 |some r=>
  obtain⟨b',h1,h2⟩:=wK e ok ea;rw[h]at h1;cases h1;refine⟨r,rfl,h2,?_⟩;by_cases z:m<=ps.length
  ·exact z
  ·rw[HJ ⋯]at ea;cases ea
theorem MQ(e:jm ps s=ae (hs,ns))(ok:dZ ps hs ns):f9 (aO ps) ps.length s=iY ps hs ns:=by
 unfold f9 iY;refine List.filter_congr λi _=>?_;cases ea:bX ps hs ns i with
 |none=>rw[xZ e ea];rfl
 |some r=>obtain⟨b,h1,_⟩:=wK e ok ea;rw[h1];rfl
end
theorem pK(g:Gk ps c s)(r:R (.d (.list ((f9 (aO ps) ps.length s).map λi=>.int (i:Nat)))) n):d5 [.d (bw ps),.d s.1] n R:=by
 obtain⟨hs,ns,e,e1,ok,_⟩:=mL g;rw[MQ e ok]at r;exact⟨ps,hs,ns,by rw[e1],ok,r⟩
theorem qe(g:Gk ps c s)(h:aO ps s i=ae b)(r:R (.d b.1) n):d8 [.d (bw ps),.d s.1,.d ⇑59] n R:=by
 obtain⟨hs,ns,e,e1,ok,_⟩:=mL g;obtain⟨q,h1,h2,h3⟩:=yE e ok h;rw[h2]at r;exact⟨ps,hs,ns,i,q,by rw[e1],ok,h3,h1,r⟩
theorem vI(g:Gk ps c s):∃ds,s.1=.tuple ds:=by
 obtain⟨hs,ns,e,_⟩:=g;exact⟨_,e⟩
theorem FK(g:Gk ps (c+1) s)(h:aO ps s i=ae b):Gk ps c b:=by
 obtain⟨hs,ns,e,e1,ok,hl⟩:=mL g;obtain⟨q,h1,h2,h3⟩:=yE e ok h;obtain⟨k1,k2⟩:=AK (M:=ns.length) ok.1 ok.2.1 ⟨Aq _,ok.2.2.2⟩ h3 h1;have:=k2.1;exact⟨q.1,q.2,h2,⟨ok.1,k1,by omega,k2.2⟩,by omega⟩
theorem Qz(g:Gk ps c s)(hi:i<=ps.length)(r:R (.d (match aO ps s i with|some b=>b.1|none=>.none)) n):fq [.d (bw ps),.d s.1,.d ⇑59] n R:=by
 obtain⟨hs,ns,e,e1,ok,_⟩:=mL g;refine⟨ps,hs,ns,i,by rw[e1],ok,hi,?_⟩;cases ea:bX ps hs ns i with
 |none=>rw[xZ e ea]at r;exact r
 |some q=>
  obtain⟨b,h1,h2⟩:=wK e ok ea;rw[h1]at r;have r:R (.d b.1) n:=r;rw[h2]at r;exact r
theorem uE(ps:Pg):GoL d5 d8 (bw ps) ps.length (aO ps) (Gk ps) where
 mv:=λ_ _ _ _ g r=>pK g r
 go:=λ_ _ _ _ _ _ g h r=>qe g h r
 tup:=λ_ _ g=>vI g
 good:=λ_ _ _ _ g _ h=>FK g h
section
variable{ps:Pg}{Gd:TK->Prop}(h0:∀k,Gd k->Gk ps 0 k)(hc:∀(s:TK) (i:Nat) (b:TK),Gd s->i<=ps.length->aO ps s i=ae b->Gd b)
include h0 hc
theorem QC:GoOk d5 d8 (bw ps) ps.length (aO ps) Gd where
 mv:=λ_ _ _ g r=>pK (h0 _ g) r
 go:=λ_ _ _ _ _ g h r=>qe (h0 _ g) h r
 tup:=λ_ g=>vI (h0 _ g)
 good:=hc
theorem MO:AfOk fq (bw ps) ps.length (aO ps) Gd where
 call:=λ_ _ _ _ g hi r=>Qz (h0 _ g) hi r
 good:=hc
 tup:=λ_ g=>vI (h0 _ g)
 prog:=⟨ps.map dR,rfl,Aa _⟩
end
def gJ(ps:Pg)(g:Sg 2)(s:TK):Bool:=match jm ps s with
 |some p=>Sg.see ps ⟨p.1,p.2⟩ 2 g
 |none=>ai
theorem Ic(gs:Gk ps c s)(hg:Sg.ok ps 2 g)(r:R (.d (.bool (gJ ps g s))) n):cP 3 [.d (bw ps),.d s.1,.d (Sg.d 2 g)] n R:=by
 obtain⟨hs,ns,e,e1,ok,_⟩:=mL gs;unfold gJ at r;rw[e]at r;exact⟨ps,⟨hs,ns⟩,g,by rw[e1];rfl,ok.1,⟨ok.2.1,ok.2.2⟩,hg,r⟩
theorem HF:∀j,((El aft N s0 j).map (·.1)).Nodup
 |0=>by simp[El]
 |j+1=>by
  have ih:=HF (aft:=aft) (N:=N) (s0:=s0) j;show(List.map (λe:TK×Nat=>e.1) (match (El aft N s0 j)[j]? with|some s=>dM aft N ⇑50 s|none=>El aft N s0 j)).Nodup;cases(El aft N s0 j)[j]? with
  |none=>exact ih
  |some s=>
   have key:∀(is:List Nat)(E:List (TK×Nat)),(E.map (·.1)).Nodup->((is.foldl (dS aft s) E).map (·.1)).Nodup:=by
    intro is
    induction is with
    |nil=>exact λE h=>h
    |cons i is ih2=>exact λE h=>ih2 _ (Ib h)
   exact key _ _ ih
section
variable{δ:Sl}{n:Int}{Q:DQ}{i:Nat}
theorem vB(e:δ[i]?=ae (ae ⇑113))(k:Q (.ob (.y m)) n):dg i δ n Q:=by unfold dg;rw[e];exact k
theorem Kw(e:δ[i]?=ae (↑d))(k:Q (.d d) n):dg i δ n Q:=by unfold dg;rw[e];exact k
theorem vQ{w1 w2 w3 w4 w5:DT}(k:w1 δ n λx n=>w2 δ n λy n=>w3 δ n λz n=>w4 δ n λu n=>w5 δ n λv n=>S [x,y,z,u,v] n Q):aC S (ao w1 (ao w2 (ao w3 (ao w4 (ao w5 ak))))) δ n Q:=k
end
def rK(ps:Pg)(s:TK):Sd:=match jm ps s with
 |some p=>⟨p.1,p.2⟩
 |none=>⟨[],[]⟩
theorem ID(g:Gk ps c s):s.1=(rK ps s).d/\gF ps (rK ps s):=by
 obtain⟨hs,ns,e,e1,ok,_⟩:=mL g;unfold rK;rw[e];exact⟨e1,ok.2.1,ok.2.2⟩
abbrev xN:aJ:=aq (aw 7 (aC (j0 3) (ao ↥1 (ao ↥2 ⇑85)))) (aq (aL (cT (w2 (aC b9 (ao ↥1 ⇑85)) ⇑0 aZ)) (aw 7 (aC qP (ao ↥1 (ao ↥2 ⇑51)))) aG) (aL (cy (cT (aC (j9 (cP 3) d5 d8) (ao ↥2 (ao ↥3 (ao ↥7 (ao (dg 4) (ao (aC (lD fq (cP 3)) (ao ↥2 (ao ↥3 ⇑68))) ak)))))))) (az (wC ⇑56)) aG))
theorem Sw(op:cf ps)(g0:Gk ps 61 s0)(hJ:(El (aO ps) ps.length s0 J).length<=J)(hM:(El (aO ps) ps.length s0 J).length<=60)(hn:n+400 < 2 ^ 39)
  (kN:∀(x7:Option SV)(n':Int),n'<=n+400->K.nx [af,ae (.w .tp),↑(bw ps),↑s0.1,ae (.w (.ob (.y (dD ⇑128)))),↑(.list ⇑145),x6,x7] n'):
  xN [af,ae (.w .tp),↑(bw ps),↑s0.1,ae (.w (.ob (.y (dD ⇑128)))),↑(.list ⇑145),x6,x7] n K:=by
 have gk:=xE (Gk:=Gk ps) (M:=60) (λ_ _ _ _ g _ h=>FK g h) g0 J hM;have gE:∀e∈El (aO ps) ps.length s0 J,Gk ps 0 e.1:=λe he=>by
  obtain⟨hs,ns,h1,h2,h3⟩:=(gk e he).2;exact⟨hs,ns,h1,h2,by omega⟩
 have lk:(Lr (aO ps) ps.length s0 J).length=(El (aO ps) ps.length s0 J).length:=by rw[<-jo,Aa]
 have hL:(Lr (aO ps) ps.length s0 J).length<=J:=by rw[lk];exact hJ
 have gL:∀k∈Lr (aO ps) ps.length s0 J,Gk ps 0 k:=λk hk=>by
  rw[<-jo]at hk;obtain⟨e,he,rfl⟩:=Bf.mp hk;exact gE e he
 have hc:∀(s:TK)(i:Nat)(b:TK),s∈Lr (aO ps) ps.length s0 J->i<=ps.length->aO ps s i=ae b->b∈Lr (aO ps) ps.length s0 J:=λs i b hs hi e=>Ou hL hs hi e;have d0:s0∈Lr (aO ps) ps.length s0 J:=by
  have:=(mW (aft:=aO ps) (N:=ps.length) s0 0 J).subset (show s0∈Lr (aO ps) ps.length s0 0 by simp[Lr]);rw[Nat.zero_add]at this;exact this
 have hp5:=op.1;have fin:∀(g:Sg 2)(n':Int),Sg.ok ps 2 g->n'<=n+400->aL (cy (cT (aC (j9 (cP 3) d5 d8) (ao ↥2 (ao ↥3 (ao ↥7 (ao (dg 4) (ao (aC (lD fq (cP 3)) (ao ↥2 (ao ↥3 ⇑68))) ak)))))))) (az (wC ⇑56)) aG [af,ae (.w .tp),↑(bw ps),↑s0.1,ae (.w (.ob (.y (dD ⇑128)))),↑(.list ⇑145),x6,↑(Sg.d 2 g)] n' K:=λg n' hg hn'=>by
  have right:∀told:Ad,((told=.none/\∀e∈El (aO ps) ps.length s0 J,gJ ps g e.1=ai)\/∃(i:Nat)(e:TK×Nat)(ms:List Nat),told=.list (ms.map λi=>.int (i:Nat))/\(El (aO ps) ps.length s0 J)[i]?=ae e/\gJ ps g e.1=ah/\(∀j x,j < i->(El (aO ps) ps.length s0 J)[j]?=ae x->gJ ps g x.1=ai)/\ms.length=e.2/\gY (aO ps) s0 ms=ae e.1/\∀x∈ms,x<=ps.length)->∀R:DQ,R (.d ⇑32) n'->j9 (cP 3) d5 d8 [.d (bw ps),.d s0.1,.d (Sg.d 2 g),.ob (.y (dD ⇑128)),.d told] n' R:=λtold ht R r=>
   ⟨bw ps,s0,Sg.d 2 g,told,El (aO ps) ps.length s0 J,ps.length,aO ps,λk=>k∈Lr (aO ps) ps.length s0 J,gJ ps g,rfl,QC gL hc,d0,by omega,HF J,λe he=>by rw[<-jo];exact Bf.mpr ⟨e,he,rfl⟩,(AO J).1,λe he n R r=>Ic (gE e he) hg r,ht,r⟩
  refine aX (λQ q=>pU (k:=ah) (λQ q=>aI (k:=ah) (λQ q=>?_) q) q) (kN _ _ hn');refine vQ (au rfl (au rfl (au rfl (vB rfl (bF (au rfl (au rfl ⇑41)))))));refine⟨bw ps,s0,Sg.d 2 g,ps.length,aO ps,λk=>k∈Lr (aO ps) ps.length s0 J,J,gJ ps g,rfl,MO gL hc,d0,by omega,hL,by omega,λk hk n R r=>Ic (gL k hk) hg r,λhf=>?_,λi e ms h1 h2 h3 h4 h5 h6=>?_⟩
  ·exact right .none (.inl ⟨rfl,λe he=>hf e.1 (by rw[<-jo];exact Bf.mpr ⟨e,he,rfl⟩)⟩) _ q
  ·exact right _ (.inr ⟨i,e,ms,rfl,h1,h2,h3,h4,h5,h6⟩) _ q
 refine aB (show aw 7 _ _ _ _ from bF (au rfl (au rfl (aF (Cr ps ⟨rfl,op,by show n+320 < _;omega,λg n1 hg hn1=>?_⟩)))));have hn1:n1<=n+320:=hn1;sleep 0;refine aB (cV (show cT _ _ _ _ from ar (cq (au rfl (aF (xY ⋯ ∎ ∎ λr r0 r1=>aF (sV ?_)))))));show if decide (r=0)=ah then _ else _
 by_cases z:r=0
 ·rw[if_pos (decide_eq_true z)];have e:⇑145=((El (aO ps) ps.length s0 J).map λe=>rK ps e.1).map Sd.d:=by
   rw[B7];exact Df λe he=>(ID (gE e he)).1
  have hpos:0 < (El (aO ps) ps.length s0 J).length:=by
   rw[<-lk];exact List.length_pos_of_mem d0
  refine(show aw 7 _ _ _ _ from bF (au rfl (au rfl ⇑41)));refine⟨ps,_,by rw[e],by rw[Aa];exact hpos,by rw[Aa];omega,op,λs hs=>?_,by omega,λg' n2 hg' hn2=>?_⟩
  ·obtain⟨e,he,rfl⟩:=Bf.mp hs;exact(ID (gE e he)).2
  ·sleep 0;exact fin g' n2 hg' ⋯
 ·rw[if_neg (by simpa using z)];sleep 1;exact fin g _ hg ⋯
theorem UC:yA (af::ae (.w .tp)::Dj 6 af) 0 pH:=by
 show yA [af,ae (.w .tp),af,af,af,af,af,af] 0 pH;refine aB ?_;unfold cw;refine dQ (au rfl ⟨rfl,by decide,λps hs ns n1 op oh on hn1=>?_⟩);refine Al rfl ?_;sleep 15;have hl:=on.1;obtain⟨s0,e0⟩:∃s0:TK,s0.1=bE hs ns:=⟨⟨_,CD oh on.2⟩,rfl⟩;have g0:Gk ps 61 s0:=⟨hs,ns,e0,⟨op,oh,by omega,on.2⟩,by omega⟩;rw[<-e0];refine aB (show px 4 _ _ _ _ _ from ?_);dsimp only[px,ao,ak,aj,wC,B5,B4];refine⟨bw ps,s0,60,ps.length,aO ps,Gk ps,rfl,uE ps,g0,by decide,by decide,?_,λJ hJ hM=>?_⟩
 ·dsimp only[lU,Ao,pG,B5,B4];exact aB (bC (λQ q=>aI (k:=ah) (λQ q=>ar (Kw rfl (aF (.inr (La q))))) q) rfl)
 ·dsimp only[lU,Ao,pG,B5,B4];refine aB (aX (λQ q=>aI (k:=ai) (λQ q=>ar (vB rfl (aF (.inr (KI q))))) q) ?_);sleep 1;have el:(dD ⇑128).map (λp=>p.1.1)=(El (aO ps) ps.length s0 J).map λe=>e.1.1:=by rw[B7];rfl
  refine aB (show aw 5 _ _ _ _ from bb (show wY (dg 4) _ _ _ from vB rfl ⟨dD ⇑128,.inr rfl,by rw[Aa];omega,?_⟩));rw[el];sleep 0;refine aB ?_;unfold aU dF;refine aF (Al ⟨by decide,by decide⟩ ?_);refine f7 (λds δ n=>n+400*⇑84<=n1+1600/\∃x6 x7,δ=[af,ae (.w .tp),↑(bw ps),↑s0.1,ae (.w (.ob (.y (dD ⇑128)))),↑(.list ⇑145),x6,x7]) (λδ n I=>?_) (λd r δ n N I kN=>?_) _ _ _ ⟨?_,af,af,rfl⟩
  ·rfl
  ·obtain⟨hn,x6,x7,rfl⟩:=I;rw[Ay]at hn;sleep 13;exact Sw op g0 hJ hM ⋯ λx7 n' hn'=>kN _ _ ⟨by omega,_,x7,rfl⟩
  ·rw[fw];show n1+400*4<=_;omega
theorem Tx:∀ws n Q,me fq ws n Q->ws.length=2:=λws n Q h=>by obtain⟨_,_,_,_,_,_,rfl,_⟩:=h;rfl
theorem Mv:∀ws n Q,me fq ws n Q->Q9 (dw ["programs","stand","steps","stands"] ws) n {nx:=λ_ _=>False,rt:=λ_ _=>False,rx:=Q}:=Nd fq
theorem Sk:∀ws n Q,lQ ws n Q->ws.length=2:=λws n Q h=>by obtain⟨_,_,_,rfl,_⟩:=h;rfl
theorem OH:∀ws n Q,lQ ws n Q->QK (dw ["steps","stand","movers","step"] ws) n {nx:=λ_ _=>False,rt:=λ_ _=>False,rn:=Q}:=Ur
theorem Tf:∀ws n Q,mh (cP 3) ws n Q->ws.length=3:=λws n Q h=>by obtain⟨_,_,_,_,rfl,_⟩:=h;rfl
theorem QZ:∀ws n Q,mh (cP 3) ws n Q->Qo (dw ["programs","stands","sight","stand"] ws) n {nx:=λ_ n=>Q ⇑17 n,rt:=Q}:=MM (cP 3)
theorem O7:∀ws n Q,lD fq (cP 3) ws n Q->ws.length=3:=λws n Q h=>by obtain⟨_,_,_,_,_,_,_,_,rfl,_⟩:=h;rfl
theorem Jt:∀ws n Q,lD fq (cP 3) ws n Q->OE (dw ["programs","stand","sight","steps","one"] ws) n {nx:=λ_ n=>Q ⇑17 n,rt:=Q}:=Nk fq (cP 3)
theorem J5:∀ws n Q,pQ d5 d8 ws n Q->ws.length=3:=λws n Q h=>by obtain⟨_,_,_,_,_,_,rfl,_⟩:=h;rfl
theorem Kl:∀ws n Q,pQ d5 d8 ws n Q->LP (dw Za ws) n {nx:=λ_ _=>False,rt:=λw n=>w=.d .none/\Q af n,rx:=λkvs n=>Q (ae kvs) n}:=MH d5 d8
theorem Lq:∀ws n Q,m8 d5 d8 ws n Q->ws.length=3:=λws n Q h=>by obtain⟨_,_,_,_,_,_,_,rfl,_⟩:=h;rfl
theorem Ue:∀ws n Q,m8 d5 d8 ws n Q->Jr (dw Zh ws) n {nx:=λ_ n=>Q ⇑17 n,rt:=Q}:=Uq d5 d8
theorem Jx:∀ws n Q,j9 (cP 3) d5 d8 ws n Q->ws.length=5:=λws n Q h=>by obtain⟨_,_,_,_,_,_,_,_,_,rfl,_⟩:=h;rfl
theorem JD:∀ws n Q,j9 (cP 3) d5 d8 ws n Q->Jj (dw Zb ws) n {nx:=λ_ n=>Q ⇑17 n,rt:=Q}:=Sx (cP 3) d5 d8
end Nb
namespace Nb
open PySem L2
def xJ(K:Ah):Sp:=λvs H Q _=>∃(a:Addr)(ns:List Int),vs=[.ref a]/\SqL K H a ⇑80/\ns.length<=63 /\
 ∀(t p g:Addr)(H':Hp),H' t=ae (.lst [.ref p,.int 0,.int 0,.ref g])->H' p=ae (.lst ⇑80)->t≠p->Q (.ref t) H'
abbrev zM:TE:=jw (bU (tC .non) (bU (tC .non) (bU (tC .non) (bU (tC (.int 1)) (bU (tC (.int 2)) bq)))))
end Nb
namespace DL
open PySem L2 Nb
section
variable{P:Bh}{w:Bt}{K:Ah}{mg:Str->Option Ag}{base:Heap}
theorem M9(F:Fun K "law" "law" st f fd)(Sc:FnScope N ["_law_script"] (b8 st))
  (hN:∀v,start N [v]=ae v::af::Dj (N.length-2) af)
  (hW:W (af::ae (.w .tp)::Dj (N.length-2) af) 0 pH)
  (hbody:∀(cdv:Ag)(A:B1)(outer:List Env)(s:Ak)(H:Hp)(E:XK),Room k (A.deeper (C9 "law" (b8 st) s.heap.objs.size f cdv))->
   ∃s0 s1 aE T,fA st=s0::s1::aE/\PS (cO cx P w K mg base N "law" (b8 st) f cdv A outer s H E).nox s0 (bQ (fU (xJ K) [] E0 (bU (aM 0) bq)) (dH 1))/\PS (cO cx P w K mg base N "law" (b8 st) f cdv A outer s H E).nox s1 (bQ zM (j5 (aM 1) (tC (.int 3)) sj))/\DSs (cO cx P w K mg base N "law" (b8 st) f cdv A outer s H E).nox aE T W):
  FnOk P w K mg base cx (k+1) f fd ["_law_script"] (spLaw K):=by
 refine F.ok Sc ⇑109 ⇑110
 ·obtain⟨a,ns,rfl,_⟩:=h;rfl
 ·obtain⟨a,ns,rfl,hS,hl,kk⟩:=h;obtain⟨s0,s1,aE,T,e,p0,p1,d⟩:=hbody cdv A outer s H E hr;rw[e];refine⟨_,hZ p0 (hZ p1 d.ps),?_⟩;rw[hN];refine⟨_,rfl,a,ns,rfl,hS,hl,λt p g H1 ht hp ntp=>?_⟩;refine⟨mS ∎,λq hq=>?_⟩;have hqt:q≠t:=λz=>by rw[z,ht]at hq;cases hq
  have hqp:q≠p:=λz=>by rw[z,hp]at hq;cases hq
  refine⟨_,rfl,t,_,3,3,rfl,rfl,(by rw[aN hqt.symm];exact ht),rfl,?_⟩;have T1:Tp (upd (upd H1 q (.lst oB)) t (.lst [.ref p,.int 0,.int 0,.ref q])) t ⟨p,q⟩ ns 0:={
   ob:=⟨0,0,bH,Int.le_refl _,Int.le_refl _⟩
   ls:=by rw[aN ntp.symm,aN hqp.symm];exact hp
   len:=hl
   ag:=λ_=>by rw[aN hqt,bH]
   gne:=hqt}
  refine d.sd ⟨t,⟨p,q⟩,ns,_,λb=>b=t,λ_=>af⟩ _ (λb=>b=t) _ _ 0 pH _ (R8 (a:=.ref a) (k:=N.length-2) T1) hW ⟨?_,?_,?_,?_,λ_ _ _ _ _ _ _ _ _ _ _ _ _ z=>z.elim,λ_ _ _ _ _ _ _ _ _ _ _ _ _ z=>z.elim⟩
  ·sleep 14
  ·intro H B σ δ n v w R r z;have z:w=.d ⇑32:=z;subst z;cases(show RdX H B v (.bool ah)from r);exact kk H
  ·sleep 14
  ·sleep 14
end
end DL
namespace Nb
open PySem L2
section
variable{P:Bh}{w:Bt}{K:Ah}{mg:Str->Option Ag}{base:Heap}
abbrev Zd:List Str:=["_law_script"]
theorem Tq:FnScope Zd Zd (b8 BF):=⟨rfl,rfl,rfl,by decide +kernel,rfl,by decide +kernel,by decide +kernel⟩
theorem MV(F:Fun K "_law_tape" "_law_tape" BF f fd):FnOk P w K mg base cx 1 f fd Zd (xJ K):=by
 refine F.ok Tq ⇑109 ⇑110
 ·obtain⟨a,ns,rfl,_⟩:=h;rfl
 ·obtain⟨a,ns,rfl,hS,hl,k⟩:=h;refine⟨_,mz (kA (sr (cR (zS OI (pv 0) GN (Iv cG)) (cR cG (cR cG (cR (sr (cR lR (cR lR (cR lR (cR cG (cR cG (cR cG (cR cG fh)))))))) fh)))))),?_⟩;refine⟨_,rfl,_,rfl,a,_,rfl,hS,λp hp=>⟨mS (by simp),λg hg=>⟨mS (by simp),λq hq=>?_⟩⟩⟩;rw[UH (by rw[Aa];exact hl)]at hg hq ⊢;have hgp:g≠p:=λz=>by rw[z,bH]at hg;cases hg
  have hqg:q≠g:=λz=>by rw[z,bH]at hq;cases hq
  rw[aN hqg]at hq;have hqp:q≠p:=λz=>by rw[z,bH]at hq;cases hq
  exact k q p g _ bH (by rw[aN hqp.symm,aN hgp.symm,bH]) hqp
abbrev Zi:List Str:=["_law_tape_here","_law_many"]
theorem scDraw:FnScope ["_law_tape_here","_law_many","_law_found","_law_spot","_law_cell","_law_mixed"] Zi (b8 EA):=⟨rfl,rfl,rfl,by decide +kernel,rfl,by decide +kernel,by decide +kernel⟩
theorem Oj{R:Prop}{G:Int->Prop}(use:(∀c,G c)->R)(fin:∀c,G c):R:=use fin
theorem QH{R G:Prop}(use:G->R)(fin:G):R:=use fin
theorem J3(F:Fun K "_law_draw" "_law_draw" EA f fd)(zl:mg "len"=af):FnOk P w K mg base cx 1 f fd Zi zx:=by
 refine F.ok scDraw ⇑109 ⇑110
 ·obtain⟨t,l,ns,n,many,rfl,_⟩:=h;rfl
 ·obtain⟨t,l,ns,n,many,rfl,T,hn,hm0,hm1,k⟩:=h;obtain⟨a,b,ht,ha0,ha1⟩:=T.ob;have ntl:=T.ne;have hl:=T.ls;have hlen:=T.len;refine⟨_,hZ (rV (kB op_gt ⇑119 cG (kO _))
    (hZ (gV (i:=2) scDraw.nd rfl (Cs rfl) (eT jq ⇑119 (pv 1)))
     (hZ (l8 (eT AA ⇑119 (pv 1)) (oE (pv 0) cG n8))
     (mz (kA (pv 2))))) rQ)
   (hZ (gV (i:=3) scDraw.nd rfl (Cs rfl) ⇑119)
   (hZ (l8 (eT op_add (pv 3) cG) (oE (pv 0) cG n8))
   (hZ (gV (i:=4) scDraw.nd rfl (Cs rfl) cG)
   (hZ (rV (kB op_gt (kE rM (by rfl) zl Gj (cR ⇑119 fh)) cG (kO _))
    (mz (gV (i:=4) scDraw.nd rfl (Cs rfl) (ie ix_list ⇑119
     (eT jq (pv 3) (kE rM (by rfl) zl Gj (cR ⇑119 fh))) (λ_ _=>rfl)))) rQ)
   (hZ (rV (PW.pt (GK (kB op_ge (pv 4) (eT Lg cG cG) (kO _))
     (zX (kB op_lt (pv 3) (kE rM (by rfl) zl Gj (cR ⇑119 fh)) (kO _)))))
    (hZ (l8 (eT AA (pv 4) (pv 1)) (oE (pv 0) cG n8)) (mz (kA (eT jq (pv 4) (pv 1))))) rQ)
   (hZ (gV (i:=5) scDraw.nd rfl (Cs rfl) (eT jq (eT m7 (eT op_add (eT op_add (eT jq (pv 4) cG) (eT m7 (eT m7 cG (pv 3)) (pv 3))) cG) cG) cG))
   (mz (kA (eT jq (eT jq (eT m7 (eT jq (eT op_add (eT m7 (pv 5) cG) (eT m7 (pv 3) cG)) cG) cG) cG) (pv 1)))))))))),?_⟩
  refine⟨_,rfl,t,_,2,_,rfl,rfl,SqL.of ht,fL (j:=2) rfl,_,_,rfl,rfl,_,rfl,?_⟩;refine ju (λ_=>?_) (λ_=>?_)
  ·-- found=tape[2] % many;tape[2]=tape[2] // many;return found
   refine⟨_,rfl,t,_,2,_,rfl,rfl,SqL.of ht,fL (j:=2) rfl,_,rfl,_,_,rfl,rfl,hm0,?_⟩;refine⟨_,rfl,t,_,2,_,rfl,rfl,SqL.of ht,fL (j:=2) rfl,_,rfl,_,_,rfl,rfl,⟨hm0,hm1⟩,?_⟩;refine⟨_,rfl,t,_,2,2,rfl,rfl,ht,rfl,?_⟩;refine⟨_,rfl,?_⟩;refine k _ _ (Int.emod_nonneg _ ⋯) (Hm _ hm0) ⟨⟨a,b / many,bH,ha0,by omega⟩,by rw[aN ntl.symm];exact hl,hlen,(λz=>by rw[aN T.gne];exact T.ag z),T.gne⟩ Kp.tape
  ·-- spot=tape[1];tape[1]=spot+1;cell=0
   refine⟨_,rfl,t,_,1,_,rfl,rfl,SqL.of ht,fL (j:=1) rfl,?_⟩;refine⟨_,rfl,_,_,rfl,rfl,_,rfl,t,_,1,1,rfl,rfl,ht,rfl,?_⟩;have ht1:∀o,upd H t o t=ae o:=λo=>bH;have hl1:∀o,upd H t o l.s=ae (.lst ⇑80):=λo=>by rw[aN ntl.symm];exact hl
   generalize hH1:upd H t (.lst (((.ref l.s::.int a::.int b::jv l:List V)).set 1 (.int (a+1))))=H1;have g1:H1 t=ae (.lst (.ref l.s::.int (a+1)::.int b::jv l)):=by rw[<-hH1];exact bH
   have g2:H1 l.s=ae (.lst ⇑80):=by rw[<-hH1];exact hl1 _
   have g3:Kp t H H1:=by rw[<-hH1];exact Kp.tape
   have g4:mT=ah->H1 l.g=ae (.lst oB):=λz=>by rw[<-hH1,aN T.gne];exact T.ag z
   refine⟨_,rfl,t,_,0,_,rfl,rfl,SqL.of g1,fL (j:=0) rfl,l.s,_,rfl,.inl (SqL.of g2),_,_,rfl,rfl,_,rfl,?_⟩;apply Oj
   case use=>
    intro fin;refine ju (λhp=>?_) (λ_=>?_)
    ·have hpos:(0:Int) < ((ns.map V.int).length:Int):=of_decide_eq_true hp;obtain⟨v,hv,hm⟩:=JQ (xs:=ns.map V.int) (r:=a % ((ns.map V.int).length:Int)) (Int.emod_nonneg _ ⋯) (Hm _ hpos);obtain⟨c,_,rfl⟩:=Bf.mp hm;refine⟨_,rfl,t,_,0,_,rfl,rfl,SqL.of g1,fL (j:=0) rfl,_,rfl,_,rfl,t,_,0,_,rfl,rfl,SqL.of g1,fL (j:=0) rfl,l.s,_,rfl,.inl (SqL.of g2),_,_,rfl,rfl,hpos,l.s,_,_,.int c,rfl,rfl,SqL.of g2,hv,?_⟩;exact fin c
    ·exact fin 0
   case fin=>
    intro c;refine⟨_,rfl,_,_,rfl,rfl,⟨by decide,by decide,by decide⟩,_,_,rfl,rfl,_,rfl,?_⟩;apply QH
    case use=>
     intro fin;refine ju (λ_=>?_) (λ_=>?_)
     ·refine⟨_,rfl,_,rfl,t,_,0,_,rfl,rfl,SqL.of g1,fL (j:=0) rfl,l.s,_,rfl,.inl (SqL.of g2),_,_,rfl,rfl,_,rfl,?_⟩;refine ju (λ_=>?_) (λ_=>fin);refine⟨_,rfl,_,rfl,_,_,rfl,rfl,⟨hm0,hm1⟩,_,rfl,t,_,2,2,rfl,rfl,g1,rfl,_,rfl,_,rfl,_,_,rfl,rfl,hm0,?_⟩;exact k _ _ (Int.emod_nonneg _ ⋯) (Hm _ hm0) ⟨⟨a+1,_,bH,by omega,by omega⟩,by rw[aN ntl.symm];exact g2,hlen,(λz=>by rw[aN T.gne];exact g4 z),T.gne⟩ (g3.trans Kp.tape)
     ·exact u5 fin
    case fin=>
     refine⟨_,rfl,_,_,rfl,rfl,(by show(0:Int) < 999331;decide),_,rfl,_,_,rfl,rfl,.inl ⟨by decide,by decide⟩,_,rfl,_,_,rfl,rfl,.inl ⟨by omega,by omega⟩,_,_,rfl,rfl,_,_,rfl,rfl,_,_,rfl,rfl,.inr ⟨by decide,by decide⟩,_,_,rfl,rfl,(by show(0:Int) < 999961;decide),?_⟩;refine⟨_,rfl,_,_,rfl,rfl,.inr ⟨by decide,by decide⟩,_,rfl,_,_,rfl,rfl,.inr ⟨by decide,by decide⟩,_,_,rfl,rfl,_,_,rfl,rfl,(by show(0:Int) < 999953;decide),_,_,rfl,rfl,.inr ⟨by decide,by decide⟩,_,_,rfl,rfl,(by show(0:Int) < 524287;decide),_,rfl,_,_,rfl,rfl,hm0,?_⟩;exact k _ _ (Int.emod_nonneg _ ⋯) (Hm _ hm0) ⟨⟨a+1,b,g1,by omega,by omega⟩,g2,hlen,g4,T.gne⟩ g3
end
end Nb
namespace Nb
open PySem L2 DL
theorem Nj{α:Type}{us:List α}(h:us.length=1):∃a,us=[a]:=match us,h with|[a],_=>⟨a,rfl⟩
theorem LH{α:Type}{us:List α}(h:us.length=2):∃a b,us=[a,b]:=match us,h with|[a,b],_=>⟨a,b,rfl⟩
theorem Ry{α:Type}{us:List α}(h:us.length=3):∃a b c,us=[a,b,c]:=match us,h with|[a,b,c],_=>⟨a,b,c,rfl⟩
theorem Pe{α:Type}{us:List α}(h:us.length=4):∃a b c d,us=[a,b,c,d]:=match us,h with|[a,b,c,d],_=>⟨a,b,c,d,rfl⟩
theorem NV{α:Type}{us:List α}(h:us.length=5):∃a b c d e,us=[a,b,c,d,e]:=match us,h with|[a,b,c,d,e],_=>⟨a,b,c,d,e,rfl⟩
theorem lB{N ps:List Str}{S:Fp}(h1:S.kind=.function:=by rfl)(h2:S.isCoroutine=ai:=by rfl)(h3:S.isGenerator=ai:=by rfl)(h4:N.Nodup:=by decide +kernel)(h5:N.take ps.length=ps:=by rfl)(h6:∀x∈ps,S.names.lookup x=ae .local\/S.names.lookup x=ae .cell:=by decide +kernel)(h7:∀y∈S.names,y.2≠.free:=by decide +kernel):FnScope N ps S:=⟨h1,h2,h3,h4,h5,h6,h7⟩
theorem vp(h:Has X.prog X.w X.K X.mg X.base k x ps S)(hr:Room k' X.A)(ha:DA X (e::es) tR wR)(hk:k<=k')(hg:Gl X x)(hdb:⇑21=ai)(he:Av (e::es) X.env=⇑33::Av es X.env)(hpl:(C8 pos ⇑43).any (·.1)=ai):DE X ⇑62 (fU (fi S) [] E0 tR) (aC S wR):=Hz h (hr.mono hk) hg ha hdb he hpl
theorem tZ(h:HasN X.prog X.w X.K X.mg X.base k x ps S)(hr:Room k' X.A)(ha:DA X (e::es) tR wR)(hk:k<=k')(hg:Gl X x)(hdb:⇑21=ai)(he:Av (e::es) X.env=⇑33::Av es X.env)(hpl:(C8 pos ⇑43).any (·.1)=ai):DF X ⇑62 (fU (mB S) [] E0 tR) (mj S wR):=Ka h (hr.mono hk) hg ha hdb he hpl
theorem xR(h:HasX X.prog X.w X.K X.mg X.base k x ps S)(hr:Room k' X.A)(ha:DA X (e::es) tR wR)(hk:k<=k')(hg:Gl X x)(hN:X.N.Nodup)(hi:X.N[i]?=ae y)(hx:gc X.env.scope y)(hs:C5 ⇑62 (ae (.Name y pos')) ap.line X.env=pure ai)(hf:X.fn y=ah\/X.env.scope.names.lookup y=ae .local)(hdb:⇑21=ai)(he:Av (e::es) X.env=⇑33::Av es X.env)(hpl:(C8 pos ⇑43).any (·.1)=ai):DS X (.Assign [.Name y pos'] ⇑62 ap) (bQ (fU (nN S) [] E0 tR) (dH i)) (qE i S wR):=PL h (hr.mono hk) hg hN hi hx ha hs hf hdb he hpl
theorem OM(h:HasXO X.prog X.w X.K X.mg X.base k x ps S)(hr:Room k' X.A)(ha:DA X (e::es) tR wR)(hk:k<=k')(hg:Gl X x)(hN:X.N.Nodup)(hi:X.N[i]?=ae y)(hx:gc X.env.scope y)(hs:C5 ⇑62 (ae (.Name y pos')) ap.line X.env=pure ai)(hf:X.fn y=ah\/X.env.scope.names.lookup y=ae .local)(hdb:⇑21=ai)(he:Av (e::es) X.env=⇑33::Av es X.env)(hpl:(C8 pos ⇑43).any (·.1)=ai):DS X (.Assign [.Name y pos'] ⇑62 ap) (bQ (fU (nr S) [] E0 tR) (dH i)) (px i S wR):=Rj h (hr.mono hk) hg hN hi hx ha hs hf hdb he hpl
theorem wG(F:HasM X.prog X.w X.K X.mg X.base k f ps Sa)(hr:Room k' X.A)(ha:DA X [.Name x0 p1,.Name x1 p2,.Name x2 p3] (bU (aM h) (bU (aM i) (bU (aM j) bq))) wR)(hk:k<=k')(hg:Gl X f)(hN:X.N.Nodup)(h2:X.N[j]?=ae x2)(hx:gc X.env.scope x2)(hij:i≠j)
  (hs:C5 ⇑146 (ae (.Name x2 p4)) pos.line X.env=pure ai) (hf:X.fn x2=ah\/X.env.scope.names.lookup x2=ae .local) (hdb:(f==("__debug__":Str))=ai) (he:Av (.Name x0 p1::[.Name x1 p2,.Name x2 p3]) X.env=(ai,eval (.Name x0 p1) X.env)::Av [.Name x1 p2,.Name x2 p3] X.env) (hpl:(C8 cp (Av [.Name x1 p2,.Name x2 p3] X.env)).any (·.1)=ai):
  DS X (.Assign [.Name x2 p4] ⇑146 pos) (bQ (fU (sJ Sa) [] E0 (bU (aM h) (bU (aM i) (bU (aM j) bq)))) (dH j)) (iD Sa h i j):=MF F (hr.mono hk) hg hN h2 hx hij ha hs hf hdb he hpl
def Ra:NameKind->Bool
 |.local=>ah
 |_=>ai
def Ie:NameKind->Bool
 |.free=>ah
 |_=>ai
def o4(sc:Fp):List Str:=(sc.names.filter λy=>Ie y.2).map (·.1)
def cN(sc:Fp):List Str:=((sc.names.drop 1).filter λy=>Ra y.2).map (·.1)++o4 sc
def ny(sc:Fp)(cells:List (Str×Addr)):List (Str×Addr):=(o4 sc).reverse.map λx=>(x,(cells.lookup x).getD 0)
def rS(sc:Fp):List (Str×NameKind):=sc.names.map λy=>(y.1,bif Ie y.2 then .cell else y.2)
inductive Frs(X:Cx)(sc:Fp):List ⇑70->List Str->Prop
 |nil:Frs X sc [] []
 |own {f:List ⇑70} {x:Str} {N:List Str} (h:Frs X sc f N):Frs X sc (af::f) (x::N)
 |free {f:List ⇑70} {x:Str} {N:List Str} {i:Nat} (h1:X.N[i]?=ae x) (h2:fC X.env.scope x) (h3:X.env.kindOf x=ae .cell\/X.env.kindOf x=ae .free) (h4:(rS sc).lookup x=ae .cell\/(rS sc).lookup x=ae .free) (h5:(ny sc X.env.cells).lookup x=X.env.cells.lookup x) (h:Frs X sc f N):Frs X sc (ae i::f) (x::N)
theorem Frs.len(h:Frs X sc f N):f.length=N.length:=by
 induction h with
 |nil=>rfl
 |own _ ih=>rw[Ay,Ay,ih]
 |free _ _ _ _ _ _ ih=>rw[Ay,Ay,ih]
theorem Ta(h1:closureFor sc X.env=pure (ny sc X.env.cells))(h2:sc.kind=.function)(h3:∀y∈sc.names,y.2≠.cell)(h4:∀y∈sc.names,y.2=.local->sc.names.lookup y.1=ae .local)(h5:((o4 sc).all λx=>(X.env.cells.lookup x).isSome)=ah)(h6:(relabel sc X.env).names=rS sc)(h7:∀y∈rS sc,(y.2=.cell\/y.2=.free)->y.1∈(o4 sc).reverse)(h8:Frs X sc f (cN sc)):CompSc X (cN sc) sc (ny sc X.env.cells) f:=by
 refine⟨h1,h2,h3,h4,Mi λy hy=>?_,Rq _ _ h6 (show(ny sc X.env.cells).map (·.1)=(o4 sc).reverse by unfold ny;rw[B7];exact List.map_id' _) h7,h8.len,?_⟩
 ·obtain⟨x,hx,rfl⟩:=Bf.mp hy;obtain⟨c,hc⟩:=D3.mp (Dq.mp h5 x (List.mem_reverse.mp hx));show X.env.cells.lookup x=ae ((X.env.cells.lookup x).getD 0);rw[hc];rfl
 ·intro j i h;rw[h6];clear h1 h2 h3 h4 h5 h6 h7;generalize cN sc=N at h8 ⊢
  induction h8 generalizing j with
  |nil=>cases h
  |own _ ih=>cases j with
   |zero=>cases h
   |succ j=>exact ih j h
  |free a b c d e _ ih=>cases j with
   |zero=>cases h;exact⟨_,rfl,a,b,c,d,e⟩
   |succ j=>exact ih j h
theorem Rp(h:Frs X sc f N):Frs X sc f N:=h
theorem kC(h:X.K=K):(de X N sc cl s H fp).K=K:=h
theorem nC(h:N.Nodup):(de X N sc cl s H fp).N.Nodup:=h
def zL:List Str:=["all","any","bool","dict","enumerate","int","isinstance","len","list","min","range","reversed","set","sorted","str","tuple","zip"]
theorem zU{mg:Str->Option Ag}(z:∀x∈zL,mg x=af)(h:x∈zL):mg x=af:=z x h
theorem Nu:Bv "min"=ae (.builtin "min"):=by sleep 5
theorem SA:Bv "set"=ae (.type "set"):=by sleep 5
theorem Oy:Bv "sorted"=ae ⇑111:=by sleep 5
section
variable{P:Bh}{w:Bt}{K:Ah}{mg:Str->Option Ag}{base:Heap}{fa:Addr}{fd:Cg}
theorem OO{w:DT}(h:DE X e t w):DE X e t w:=h
theorem RE{w:dI}(h:DA X e t w):DA X e t w:=h
theorem Ux{w:aJ}(h:DS X e t w):DS X e t w:=h
theorem vF{w:aJ}(h:DSs X e t w):DSs X e t w:=h
theorem Rk{w:cz}(h:DC X e t w):DC X e t w:=h
theorem UG{w:fg}(h:DF X e t w):DF X e t w:=h
theorem Te{w:gR}(h:DI X g e t w):DI X g e t w:=h
theorem Np{b aE:List Stmt}(e:b=st::aE)(h:DSs X (st::aE) T W):DSs X b T W:=e▸h
theorem kf(F:Fun K x x st fa fd)(h:∀(kV doc pm:Ag) (an:Option Addr) (cdv ct:Ag) (us:List Ag),us.length=ps.length->bindArgs (Fu x x (kP st) (fA st) (b8 st) .none kV doc pm an cdv ct) ⟨us,[]⟩=pure (ps.zip us):=by
 intro _ _ _ _ _ _ us hl
 first
  |obtain⟨_,rfl⟩:=Nj hl;rfl
  |obtain⟨_,_,rfl⟩:=LH hl;rfl
  |obtain⟨_,_,_,rfl⟩:=Ry hl;rfl
  |obtain⟨_,_,_,_,rfl⟩:=Pe hl;rfl
  |obtain⟨_,_,_,_,_,rfl⟩:=NV hl;rfl):Binds K fd ps []:=F.binds h
def mQ(x:Str)(st:Stmt)(ps:List Str):Prop:=∀{K:Ah}{fa:Addr}{fd:Cg},Fun K x x st fa fd->Binds K fd ps []
def gy(P:Bh)(w:Bt)(K:Ah)(mg:Str->Option Ag)(base:Heap)(k:Nat)(x:Str)(i:Nat)(fa:Addr)(N:List Str)(b:List Stmt)(W:aJ):Prop:=N.Nodup->∀(cdv:Ag)(A:B1)(outer:List Env)(s:Ak)(H:Hp)(E:XK),Room k (A.deeper (C9 x ⇑75 s.heap.objs.size fa cdv))->∃T,DSs (cO cx P w K mg base N x ⇑75 fa cdv A outer s H E).nox b T W
theorem l9{N:List Str}{b:List Stmt}{W:aJ}(h:N.Nodup->∀(cdv:Ag) (A:B1) (outer:List Env) (s:Ak) (H:Hp) (E:XK),Room k (A.deeper (C9 x ⇑75 s.heap.objs.size fa cdv))->∃T,DSs (cO cx P w K mg base N x ⇑75 fa cdv A outer s H E).nox b T W:=by
 intro nd cdv A outer s H E hr;apply Cr;apply Np (by exact rfl)
 repeat' first
  |with_reducible first|exact Ut|exact Qp|exact IX|exact Od|exact Tg|exact yJ|exact Gj|exact sH|exact Nu|exact PyProof.Rows.boot_range|exact SA|exact Oy|exact KA|exact Jc
  |with_reducible first|apply Room.units|apply Room.units0|apply Room.hd|apply Room.gd
  |exact rfl
  |exact Cs rfl
  |exact Ca (Cs rfl)
  |exact Ca (Ca rfl)
  |exact Ca rfl
  | (with_reducible apply OO;with_reducible first|apply iy|apply yX|apply Pl|apply vp|apply M4|apply yS|apply HR|apply kx (wg ?_) wI ?_ ?_ ?_ ?_ ?_ ?_ ?_ ?_|apply Ox|apply RF|apply Js|apply zt|apply ua|apply JE|apply EM (IE ?_) FF ?_ ?_ ?_ ?_ ?_ ?_ ?_ ?_|apply NR|apply lV (qA ?_ ?_) qV|apply Ky|apply kx (wg ?_) Tb ?_ ?_ ?_ ?_ ?_ ?_ ?_ ?_|apply xi|apply K5|apply JH|apply EM (IE ?_) NY ?_ ?_ ?_ ?_ ?_ ?_ ?_ ?_|apply Pn|apply IT|apply MT|apply P4|apply MK|apply NW|apply CG|apply Jz|apply Pc|apply lV Ol L5|apply lV wz tJ|apply uj|apply TF|apply O8|apply JK|apply lV (EB ?_ ?_) EN|apply lV (qU ?_) jV|apply lV (qS ?_) jV|apply lV uW vA|apply kx (SH ?_) RB ?_ ?_ ?_ ?_ ?_ ?_ ?_ ?_|apply kx (JP ?_) O2 ?_ ?_ ?_ ?_ ?_ ?_ ?_ ?_|apply kx HD CW ?_ ?_ ?_ ?_ ?_ ?_ ?_ ?_|apply kx (IP ?_) Qg ?_ ?_ ?_ ?_ ?_ ?_ ?_ ?_|apply Ql Hv yd Hv yd ?_ ?_ ?_ ?_|apply O6|apply DF.d)
  | (with_reducible apply RE;with_reducible first|apply kh|apply m6)
  | ((with_reducible apply Ux);first|((with_reducible apply Kx);case hx=>exact rfl)|((with_reducible apply Oo);case hx=>exact rfl)|with_reducible first|apply LA|apply lg|apply Hu|apply vX|apply AR|apply zF|apply Tz|apply Si|apply Nw|apply Mn|apply FE|apply Ks|apply OP|apply NN|apply QY|apply EI|apply wG|apply N3|apply Rh|apply S4|apply OM|apply xR)
  | (with_reducible apply vF;with_reducible first|apply QV|apply KC|apply Q5|apply mU|apply ug|apply zm|apply oX)
  | ((with_reducible apply Rk);first|(with_reducible apply DCW.cc;with_reducible first|apply cw_and|apply cw_or)|with_reducible first|apply gT (qA ?_ ?_) qV|apply gT (qA ?_ ?_) Ls|apply gT PU Jh|apply gT uW vA|apply Mo|apply gT PF Mm|apply gT wz tJ|apply gT (qS ?_) jV|apply gT Uw PN|apply gT (EB ?_ ?_) EN|apply BD|apply gT (qU ?_) ME|apply gT (qU ?_) jV|apply NH|apply NU|apply Ul|apply S6|apply Q1|apply gT wz Lb|apply JS)
  | (with_reducible apply UG;with_reducible first|apply FX|apply vG|apply Sv|apply P5|apply Qr|apply Lf|apply LK|apply OC|apply tZ)
  | (with_reducible apply Te;with_reducible first|apply zJ|apply QM|apply Le|apply NG|apply To|apply zG)
  |with_reducible first|apply uN|apply OZ|apply wU|apply O0|apply Mx|apply Jq|apply Qj|apply Je|apply TX|apply cw_or|apply cw_or1|apply cw_and|apply cw_and1|apply BL|apply Lh|apply Og|apply QW|apply Ta
  |assumption
  |with_reducible first|apply kC|apply nC
  | ((with_reducible apply Rp);first|apply Frs.nil|apply Frs.own|apply Frs.free)
  |exact kO _
  |exact λ_ _=>rfl
  |exact λ_=>rfl
  |exact zU (by assumption) ∅
  |exact PassesOwn.never
  |exact⟨rfl,rfl,rfl,rfl⟩
  |with_unfolding_all rfl
  |decide
  |decide +kernel
  |omega
  |exact Ca (Ca (Cs rfl))
  |exact Ca (Ca (Ca (Cs rfl)))
  |exact Ca (Ca (Ca (Ca rfl)))
  |intro(_:Ak) _ _
  |exact(0:Int)):gy P w K mg base k x i fa N b W:=h
theorem aW(k p)(x)(F:Fun K x x (cu i) fa fd/\mg x=ae (.ref fa))(body:cD S W N)(len:∀ws n Q,S ws n Q->ws.length=p:=by(intro _ _ _ h;(repeat obtain⟨_,h⟩:=h);subst_vars;rfl))(hp:(N.take p).length=p:=by rfl)(Sc:FnScope N ⇑54 ⇑75:=by exact lB)(b:mQ x (cu i) ⇑54:=by intro _ _ _ F;exact kf F)
  (h:gy P w K mg base k x i fa N (fA (cu i)) W:=by exact l9):Has P w K mg base (k+1) x ⇑54 S:=
 Has.mk' F.1 F.2 (b F.1) (Fun.okD F.1 Sc (λws n Q q=>by rw[hp];exact len ws n Q q) λcdv A outer s H E hr=>(h Sc.nd cdv A outer s H E hr).elim λT d=>⟨T,W,d,body⟩)
theorem va{N:List Str}(k p)(x)(F:Fun K x x (cu i) fa fd/\mg x=ae (.ref fa))(body:∀ws n Q,S ws n Q->W (dw N ws) n {nx:=λ_ _=>False,rt:=λ_ _=>False,rn:=Q})(len:∀ws n Q,S ws n Q->ws.length=p:=by(intro _ _ _ h;(repeat obtain⟨_,h⟩:=h);subst_vars;rfl))(hp:(N.take p).length=p:=by rfl)(Sc:FnScope N ⇑54 ⇑75:=by exact lB)(b:mQ x (cu i) ⇑54:=by intro _ _ _ F;exact kf F)
  (h:gy P w K mg base k x i fa N (fA (cu i)) W:=by exact l9):HasN P w K mg base (k+1) x ⇑54 S:=
 HasN.mk' F.1 F.2 (b F.1) (Fun.okN F.1 Sc (λws n Q q=>by rw[hp];exact len ws n Q q) λcdv A outer s H E hr=>(h Sc.nd cdv A outer s H E hr).elim λT d=>⟨T,W,d,body⟩)
theorem sS{N:List Str}(k)(x)(F:Fun K x x (cu i) fa fd/\mg x=ae (.ref fa))(len:∀ws n Q,S ws n Q->ws.length=p)(body:∀ws n Q,S ws n Q->W (dw N ws) n {nx:=λ_ _=>False,rt:=λ_ _=>False,rx:=Q})(hp:(N.take p).length=p:=by rfl)(Sc:FnScope N ⇑54 ⇑75:=by exact lB)(b:mQ x (cu i) ⇑54:=by intro _ _ _ F;exact kf F)
  (h:gy P w K mg base k x i fa N (fA (cu i)) W:=by exact l9):HasX P w K mg base (k+1) x ⇑54 S:=
 HasX.mk' F.1 F.2 (b F.1) (Fun.okX F.1 Sc (λws n Q q=>by rw[hp];exact len ws n Q q) λcdv A outer s H E hr=>(h Sc.nd cdv A outer s H E hr).elim λT d=>⟨T,W,d,body⟩)
theorem Ui{N:List Str}(k)(x)(F:Fun K x x (cu i) fa fd/\mg x=ae (.ref fa))(len:∀ws n Q,S ws n Q->ws.length=p)(body:∀ws n Q,S ws n Q->W (dw N ws) n {nx:=λ_ _=>False,rt:=λw n=>w=.d .none/\Q af n,rx:=λkvs n=>Q (ae kvs) n})(hp:(N.take p).length=p:=by rfl)(Sc:FnScope N ⇑54 ⇑75:=by exact lB)(b:mQ x (cu i) ⇑54:=by intro _ _ _ F;exact kf F)
  (h:gy P w K mg base k x i fa N (fA (cu i)) W:=by exact l9):HasXO P w K mg base (k+1) x ⇑54 S:=
 HasXO.mk' F.1 F.2 (b F.1) (Fun.okXO F.1 Sc (λws n Q q=>by rw[hp];exact len ws n Q q) λcdv A outer s H E hr=>(h Sc.nd cdv A outer s H E hr).elim λT d=>⟨T,W,d,body⟩)
theorem lX{S:Nat->aR}{W:aR->aJ}(c0)(x)(F:Fun K x x (cu i) fa fd/\mg x=ae (.ref fa))(len:∀d ws n Q,S d ws n Q->ws.length=p)(z:∀ws n Q,¬S 0 ws n Q)(body:∀d ws n Q,S (d+1) ws n Q->W (S d) (dw N ws) n {nx:=λ_ n=>Q ⇑17 n,rt:=Q})(D)(hp:(N.take p).length=p:=by rfl)(Sc:FnScope N ⇑54 ⇑75:=by exact lB)(b:mQ x (cu i) ⇑54:=by intro _ _ _ F;exact kf F)
  (h:∀k d:Nat,c0<=k->Has P w K mg base k x ⇑54 (S d)->gy P w K mg base k x i fa N (fA (cu i)) (W (S d)):=by intro k d hk hS;exact l9):Has P w K mg base (c0+D) x ⇑54 (S D):=by
 induction D with
 |zero=>exact Has.mk' F.1 F.2 (b F.1) ⟨λvs H Q E h=>(by obtain⟨_,_,_,_,_,_,_,_,_,_,_,q,_⟩:=h;exact absurd q (z _ _ _)),λA outer s H args us vs Q E hr he hb hv h=>(by obtain⟨_,_,_,_,_,_,_,_,_,_,_,q,_⟩:=h;exact absurd q (z _ _ _))⟩
 |succ d ih=>exact Has.mk' F.1 F.2 (b F.1) (Fun.okD F.1 Sc (λws n Q q=>by rw[hp];exact len (d+1) ws n Q q) λcdv A outer s H E hr=>(h (c0+d) d (Nat.le_add_right _ _) ih Sc.nd cdv A outer s H E hr).elim λT e=>⟨T,W (S d),e,body d⟩)
theorem ux{aE:List Stmt}(k)(F:Fun K "law" "law" (cu i) fa fd)(hW:W (af::ae (.w .tp)::Dj (N.length-2) af) 0 pH)(e:fA (cu i)=s0::s1::aE)(h0:N.Nodup->∀(cdv:Ag) (A:B1) (outer:List Env) (s:Ak) (H:Hp) (E:XK),Room k (A.deeper (C9 "law" ⇑75 s.heap.objs.size fa cdv))->PS (cO cx P w K mg base N "law" ⇑75 fa cdv A outer s H E).nox s0 (bQ (fU (xJ K) [] E0 (bU (aM 0) bq)) (dH 1))/\PS (cO cx P w K mg base N "law" ⇑75 fa cdv A outer s H E).nox s1 (bQ zM (j5 (aM 1) (tC (.int 3)) sj)))(hN:∀v,start N [v]=ae v::af::Dj (N.length-2) af:=by intro _;rfl)(Sc:FnScope N Zd ⇑75:=by exact lB)
  (h:gy P w K mg base k "law" i fa N aE W:=by exact l9):FnOk P w K mg base cx (k+1) fa fd Zd (DL.spLaw K):=
 M9 F Sc hN hW λcdv A outer s H E hr=>(h Sc.nd cdv A outer s H E hr).elim λT d=>⟨s0,s1,aE,T,e,(h0 Sc.nd cdv A outer s H E hr).1,(h0 Sc.nd cdv A outer s H E hr).2,d⟩
theorem J0{b aE:List Stmt}(e:b=st::aE)(h:lp X (st::aE) Sa):lp X b Sa:=e▸h
abbrev Ze:List Str:=["programs","steps","stands"]
theorem xu{k ka tk:Nat}(F:Fun K "further" "further" (cu 33) fa fd/\mg "further"=ae (.ref fa))(h_after:Has P w K mg base ka "after" ["programs","stand","mover"] fq)(hk:ka<=k)(z_range:mg "range"=af)(z_len:mg "len"=af)(g_MOST_STANDS:mg "MOST_STANDS"=ae (.int 2000 tk))(Sc:FnScope ["programs","steps","stands","fresh","stand","mover","behind"] (Ze:List Str) (b8 (cu 33)):=by exact lB)(b:mQ "further" (cu 33) Ze:=by intro _ _ _ F;exact kf F):HasM P w K mg base (k+1) "further" Ze fq:=
 ⟨fa,fd,Fun.okM F.1 Sc rfl ∎ (λcdv A outer s H E hr=>J0 (by exact rfl) (by
  have nd:=Sc.nd;refine⟨_,_,_,(show DSs _ _ (lE _ _ _ _ _) _ from(mU (zF (i:=3) nd rfl (Cs rfl) (FX m6)) (mU (vX (zG (K:=K) (iy 2)) (uN (i:=4) nd rfl (Cs rfl)) (oX (vX (zJ (by rfl) z_range (zt (kx (wg (K:=K)) wI (by rfl) z_len Gj (kh (iy 0) m6)) (yX))) (uN (i:=5) nd rfl (Cs rfl)) (mU (Hu (i:=6) nd rfl (Cs rfl) (Hz h_after (hr.mono hk) (by rfl) (kh (iy 0) (kh (iy 4) (kh (iy 5) m6))))) (oX (lg (DCW.cc (cw_and (gT uW vA (iy 6) (HR) (kO _)) (cw_and1 (BD (K:=K) hr.units (iy 6) (ua 1))))) (mU (lg (gT (qA (K:=K) hr.units0) qV (kx HD CW (by rfl) z_len Gj (kh (ua 1) m6)) (CG (by rfl) g_MOST_STANDS) (kO _)) zm ug) (mU (FE (K:=K) (i:=1) hr.units rfl (iy 6) (yS (kh (iy 4) (kh (iy 5) m6)))) (oX (AR (i:=3) rfl (iy 6))))) ug)))))) (oX (EI 3))))).ps,?_,?_,?_⟩
  ·exact λσ H Q q=>q
  ·exact λx y H Q q=>.inl ⟨rfl,(by rw[show decide (V.int x=V.int y)=decide (x=y)from decide_eq_decide.mpr ⟨λz=>V.int.inj z,congrArg V.int⟩];exact q)⟩
  ·intro σ H Q B v0 ps e r q;cases r with
   |tup e1 e2 e3 e4=>exact⟨_,e,.inr ⟨_,_,rfl,.inr (SqT.of e1),_,_,rfl,rfl,by rw[e4.len];exact q⟩⟩)),b F.1,F.2,F.1.kp⟩
end
theorem zE(P):(zL.map λx=>PySem.W.nsIn (KK P) D1 x)=zL.map λ_=>ae af:=by kernel_rfl
section
variable{P:Params}{h:Heap}{mg:Str->Option Ag}(X:(KK P).In h)(G:h.Ns D1 mg)
include X G
theorem BI(j:Nat)(d:Ds)(e:dL[j]?=ae d):(Fun (KK P) d.x d.x (cu d.i) d.f (kM d)/\mg d.x=ae (.ref d.f))/\Cw (KK P) (.ref d.f)=ah:=by
 have q:=zV (LF P) e;obtain⟨q1,q2⟩:=Prod.mk.inj q;obtain⟨q2,q3⟩:=Prod.mk.inj q2;have k:Cw (KK P) (.ref d.f)=ah:=by
  unfold Cw;simp only[q2]
 exact⟨⟨QX q2 q3 k,PySem.W.mg_of X G q1⟩,k⟩
theorem zK(x)(h:x∈zL):mg x=af:=by
 obtain⟨j,e⟩:=Bz.mp h;exact PySem.W.mg_none_of X G (zV (zE P) e)
end
abbrev pR:Bh:=PySem.W.OpenLaw.prog PySem.Challenge.rw_noteboard_k41_nearest_ways
structure Cv where
 P:Bh
 w:Bt
 K:Ah
 mg:Str->Option Ag
 base:Heap
abbrev HH(c:Cv)(k:Nat)(x:Str)(ps:List Str)(S:aR):Prop:=Has c.P c.w c.K c.mg c.base k x ps S
abbrev gx(c:Cv):Prop:=HH c 1 "_law_draw" Zi b9
abbrev uw(c:Cv):Prop:=HH c 1 "is_whole" ["thing"] w6
abbrev u9(c:Cv):Prop:=HH c 1 "field_fits" ["field","value","having","bound"] jI
abbrev qd(c:Cv):Prop:=HH c 2 "fits" ["pattern","row","names"] mw
abbrev tD(c:Cv):Prop:=HH c 1 "next_value" ["value"] wX
abbrev rk(c:Cv):Prop:=HH c 2 "field_value" ["field","having"] oS
abbrev tW(c:Cv):Prop:=HH c 3 "filled" ["template","names"] rZ
abbrev uz(c:Cv):Prop:=HH c 2 "is_within" ["thing","most"] sZ
abbrev pB(c:Cv):Prop:=HH c 1 "next_act" ["programs","stand","hand"] mq
abbrev sX(c:Cv):Prop:=HH c 3 "gets" ["programs","stand","hand"] vS
abbrev rW(c:Cv):Prop:=HH c 1 "gone_on" ["place","names"] mR
abbrev sQ(c:Cv):Prop:=HH c 1 "gone_to" ["program","block","names"] nS
abbrev rR(c:Cv):Prop:=HH c 1 "with_hand" ["hands","hand","place"] jW
abbrev wH(c:Cv):Prop:=HH c 4 "got" ["programs","stand","hand","act"] nW
abbrev vx(c:Cv):Prop:=HH c 3 "is_same_value" ["act","names"] vm
abbrev t6(c:Cv):Prop:=HH c 5 "hand_moved" ["programs","stand","hand"] wD
abbrev wA(c:Cv):Prop:=HH c 1 "aged" ["note"] uG
abbrev t9(c:Cv):Prop:=HH c 2 "clock_moved" ["stand"] vc
abbrev vY(c:Cv):Prop:=HH c 6 "after" ["programs","stand","mover"] fq
abbrev vh(c:Cv):Prop:=HH c 1 "others_in" ["sight"] rg
abbrev wZ(c:Cv):Prop:=HH c 3 "how_many_fit" ["pattern","notes"] wM
abbrev ub(c:Cv):Prop:=HH c 7 "sees" ["programs","stand","sight"] (cP 3)
abbrev xA(c:Cv):Prop:=HasM c.P c.w c.K c.mg c.base 7 "further" Ze fq
abbrev t5(c:Cv):Prop:=HasX c.P c.w c.K c.mg c.base 8 "steps_from" ["programs","stand"] (me fq)
abbrev sU(c:Cv):Prop:=HasN c.P c.w c.K c.mg c.base 1 "way_along" ["steps","stand"] lQ
abbrev xX(c:Cv):Prop:=HH c 8 "first_seeing" ["programs","stands","sight"] (mh (cP 3))
abbrev tu(c:Cv):Prop:=HH c 9 "way_to" ["programs","stand","sight"] (lD fq (cP 3))
abbrev lj(c:Cv):Prop:=HH c 2 "_law_value" Zg jk
abbrev nO(c:Cv):Prop:=HH c 2 "_law_size" Zg m4
abbrev rh(c:Cv):Prop:=HH c 3 "_law_pattern" Zc sN
abbrev vV(c:Cv):Prop:=HH c 3 "_law_template" Zc uD
abbrev u7(c:Cv):Prop:=HH c 3 "_law_term" Zc r9
abbrev sW(c:Cv):Prop:=HH c 4 "_law_act" ["_law_tape_here","_law_known_here","_law_open_ones"] oG
abbrev xg(c:Cv):Prop:=HH c 5 "_law_program" Zg uV
abbrev sL(c:Cv):Prop:=HH c 3 "_law_notes" ["_law_tape_here","_law_most"] nM
abbrev vJ(c:Cv):Prop:=HH c 1 "_law_known" ["_law_program_here","_law_block","_law_place"] uJ
abbrev uq(c:Cv):Prop:=HH c 4 "_law_stand" ["_law_tape_here","_law_programs","_law_most"] rT
abbrev uP(c:Cv):Prop:=HH c 6 "_law_setting" Zg ud
abbrev sF(c:Cv):Prop:=HH c 1 "_law_fits" ["_law_pattern_here","_law_row","_law_names"] sO
abbrev uh(c:Cv):Prop:=HH c 1 "_law_filled" ["_law_template_here","_law_names"] v7
abbrev tw(c:Cv):Prop:=HH c 1 "_law_act_at" ["_law_programs","_law_hands","_law_hand"] tF
abbrev qj(c:Cv):Prop:=HH c 2 "_law_got" ["_law_act_here","_law_notes_here","_law_names"] oi
abbrev sP(c:Cv):Prop:=HH c 3 "_law_movers" ["_law_programs","_law_stand_here"] d5
abbrev qu(c:Cv):Prop:=HH c 3 "_law_moved" ["_law_programs","_law_stand_here","_law_mover"] d8
abbrev uL(c:Cv):Prop:=HasXO c.P c.w c.K c.mg c.base 4 "_law_gone" ["_law_programs","_law_stand_here","_law_most"] (pQ d5 d8)
abbrev uC(c:Cv):Prop:=HH c 7 "_law_sight" ["_law_tape_here","_law_programs","_law_deep"] (j0 3)
abbrev sT(c:Cv):Prop:=HH c 5 "_law_seen" ["_law_programs","_law_stand_here","_law_sight_here"] (cP 3)
abbrev wV(c:Cv):Prop:=HH c 4 "_law_walked" ["_law_programs","_law_stand_here","_law_movers_here"] (m8 d5 d8)
abbrev vt(c:Cv):Prop:=HH c 2 "_law_aim" ["_law_tape_here","_law_programs","_law_some"] qP
abbrev xF(c:Cv):Prop:=HH c 6 "_law_right" ["_law_programs","_law_stand_here","_law_sight_here","_law_due","_law_told"] (j9 (cP 3) d5 d8)
section
variable{c:Cv}(F:∀(j:Nat) (d:Ds),dL[j]?=ae d->(Fun c.K d.x d.x (cu d.i) d.f (kM d)/\c.mg d.x=ae (.ref d.f))/\Cw c.K (.ref d.f)=ah)(z:∀x∈zL,c.mg x=af)(u0:c.mg "GREATEST_NUMBER"=ae (.int 99 225))(u1:c.mg "MOST_STANDS"=ae (.int 2000 429))(u2:c.mg "GETTING"=ae (.ref 80))(u3:∀H,SqT c.K H 80 ((Zf:List Str).map V.str))
include F z u0 u1 u2 u3
theorem Lx:gx c:=Has.mk' (F 27 _ rfl).1.1 (F 27 _ rfl).1.2 (kf (F 27 _ rfl).1.1) (Oq (J3 (F 27 _ rfl).1.1 (zU z ∅)))
theorem Qv:uw c:=aW (i:=5) 0 1 "is_whole" (F 0 _ rfl).1 MD
theorem Nn:u9 c:=aW (i:=7) 0 4 "field_fits" (F 1 _ rfl).1 Tj
theorem LZ(h0:u9 c):qd c:=aW (i:=8) 1 3 "fits" (F 2 _ rfl).1 JC
theorem Jn:tD c:=aW (i:=9) 0 1 "next_value" (F 3 _ rfl).1 Lj
theorem J7(h0:tD c):rk c:=aW (i:=10) 1 2 "field_value" (F 4 _ rfl).1 Tu
theorem Sr(h0:rk c):tW c:=aW (i:=11) 2 2 "filled" (F 5 _ rfl).1 QR
theorem Mp(h0:uw c):uz c:=aW (i:=14) 1 2 "is_within" (F 6 _ rfl).1 KR
theorem SU:pB c:=aW (i:=16) 0 3 "next_act" (F 7 _ rfl).1 M7
theorem RR(h0:qd c)(h1:pB c):sX c:=aW (i:=17) 2 3 "gets" (F 8 _ rfl).1 Kj
theorem Ju:rW c:=aW (i:=18) 0 2 "gone_on" (F 9 _ rfl).1 Mq
theorem TH:sQ c:=aW (i:=19) 0 3 "gone_to" (F 10 _ rfl).1 Qs
theorem Qb:rR c:=aW (i:=20) 0 3 "with_hand" (F 11 _ rfl).1 Q4
theorem Lc(h0:qd c)(h1:sX c)(h2:rW c)(h3:sQ c)(h4:rR c):wH c:=aW (i:=21) 3 4 "got" (F 12 _ rfl).1 JN
theorem Q6(h0:rk c):vx c:=aW (i:=22) 2 2 "is_same_value" (F 13 _ rfl).1 UE
theorem QL(h0:tW c)(h1:rW c)(h2:sQ c)(h3:wH c)(h4:vx c)(h5:pB c)(h6:rR c):t6 c:=aW (i:=23) 4 3 "hand_moved" (F 14 _ rfl).1 PV
theorem NS:wA c:=aW (i:=24) 0 1 "aged" (F 15 _ rfl).1 Pf
theorem P2(h0:wA c):t9 c:=aW (i:=25) 1 1 "clock_moved" (F 16 _ rfl).1 Oa
theorem K0(h0:t9 c)(h1:t6 c)(h2:uz c):vY c:=aW (i:=26) 5 3 "after" (F 17 _ rfl).1 S8
theorem Pz:vh c:=aW (i:=28) 0 1 "others_in" (F 18 _ rfl).1 LG
theorem TY(h0:qd c):wZ c:=aW (i:=29) 2 2 "how_many_fit" (F 19 _ rfl).1 TN
theorem MU(h0:wZ c)(h1:pB c)(h2:vh c):ub c:=lX (S:=cP) (i:=30) 4 "sees" (F 20 _ rfl).1 zo (λ_ _ _ h=>h) KL 3
theorem K3(h0:vY c):xA c:=xu (F 21 _ rfl).1 h0 ∎ (zU z ∅) (zU z ∅) u1
theorem KP(h0:xA c):t5 c:=sS (i:=34) 7 "steps_from" (F 22 _ rfl).1 Tx Mv
theorem Qn:sU c:=va (i:=35) 0 2 "way_along" (F 23 _ rfl).1 (len:=Sk) OH
theorem NQ(h0:ub c):xX c:=aW (i:=36) 7 3 "first_seeing" (F 24 _ rfl).1 (len:=Tf) QZ
theorem Ku(h0:xX c)(h1:t5 c)(h2:sU c):tu c:=aW (i:=37) 8 3 "way_to" (F 25 _ rfl).1 (len:=O7) Jt
theorem Lz(h0:gx c):lj c:=aW (i:=41) 1 1 "_law_value" (F 28 _ rfl).1 RS
theorem LS(h0:gx c):nO c:=aW (i:=42) 1 1 "_law_size" (F 29 _ rfl).1 S1
theorem My(h0:gx c)(h1:nO c)(h2:lj c):rh c:=aW (i:=43) 2 2 "_law_pattern" (F 30 _ rfl).1 SS
theorem Th(h0:gx c)(h1:nO c)(h2:lj c):vV c:=aW (i:=44) 2 2 "_law_template" (F 31 _ rfl).1 Oi
theorem Mk(h0:gx c)(h1:lj c):u7 c:=aW (i:=45) 2 2 "_law_term" (F 32 _ rfl).1 O5
theorem Rv(h0:gx c)(h1:rh c)(h2:vV c)(h3:u7 c):sW c:=aW (i:=46) 3 3 "_law_act" (F 33 _ rfl).1 Jy
theorem RZ(h0:sW c)(h1:gx c):xg c:=aW (i:=47) 4 1 "_law_program" (F 34 _ rfl).1 M8
theorem Mz(h0:gx c)(h1:nO c)(h2:lj c):sL c:=aW (i:=48) 2 2 "_law_notes" (F 35 _ rfl).1 N6
theorem Se:vJ c:=aW (i:=49) 0 3 "_law_known" (F 36 _ rfl).1 IZ
theorem RG(h0:gx c)(h1:vJ c)(h2:sL c)(h3:lj c):uq c:=aW (i:=50) 3 3 "_law_stand" (F 37 _ rfl).1 TU
theorem IL(h0:gx c)(h1:sL c)(h2:xg c)(h3:uq c):uP c:=aW (i:=51) 5 1 "_law_setting" (F 38 _ rfl).1 OU
theorem Kb:sF c:=aW (i:=52) 0 3 "_law_fits" (F 39 _ rfl).1 Ni
theorem JO:uh c:=aW (i:=53) 0 2 "_law_filled" (F 40 _ rfl).1 O4
theorem RN:tw c:=aW (i:=54) 0 3 "_law_act_at" (F 41 _ rfl).1 IY
theorem Nf(h0:sF c):qj c:=aW (i:=55) 1 3 "_law_got" (F 42 _ rfl).1 PX
theorem Ke(h0:tw c)(h1:qj c):sP c:=aW (i:=56) 2 2 "_law_movers" (F 43 _ rfl).1 Rz
theorem O9(h0:uh c)(h1:qj c):qu c:=aW (i:=57) 2 3 "_law_moved" (F 44 _ rfl).1 Pr
theorem Mw(h0:qu c)(h1:sP c):uL c:=Ui (i:=58) 3 "_law_gone" (F 45 _ rfl).1 J5 Kl
theorem MJ(h0:gx c)(h1:rh c):uC c:=lX (S:=j0) (i:=59) 4 "_law_sight" (F 46 _ rfl).1 UJ (λ_ _ _ h=>h) Pw 3
theorem RT(h0:sF c):sT c:=lX (S:=cP) (i:=60) 2 "_law_seen" (F 47 _ rfl).1 Lm (λ_ _ _ h=>h) Q7 3
theorem Rt(h0:qu c)(h1:sP c):wV c:=aW (i:=61) 3 3 "_law_walked" (F 48 _ rfl).1 (len:=Lq) Ue
theorem KY(h0:gx c):vt c:=aW (i:=62) 1 3 "_law_aim" (F 49 _ rfl).1 MS
theorem QJ(h0:sT c)(h1:wV c):xF c:=aW (i:=63) 5 5 "_law_right" (F 50 _ rfl).1 (len:=Jx) JD
theorem Lu(h0:vt c)(h1:gx c)(h2:uL c)(h3:xF c)(h4:uP c)(h5:uC c)(h6:tu c):FnOk c.P c.w c.K c.mg c.base cx 10 (Ds.f ⟨64,"law",703,419,1,366,ah,714,6⟩) (kM ⟨64,"law",703,419,1,366,ah,714,6⟩) Zd (DL.spLaw c.K):=by
 have bT:=kf (ps:=Zd) (F 26 _ rfl).1.1;have GT:=MV (P:=c.P) (w:=c.w) (mg:=c.mg) (base:=c.base) (F 26 _ rfl).1.1;exact ux (i:=64) (N:=["_law_script","_law_tape_here","_law_programs","_law_stand_here","_law_due","_law_some","_law_k","_law_sight_here"]) 9 (F 51 _ rfl).1.1 UC rfl λnd cdv A outer s H E hr=>⟨gV (i:=1) nd rfl (Cs rfl) (m9 GT (hr.mono ∎) rfl (F 26 _ rfl).1.2 (F 26 _ rfl).2 bT .nil mn (cR (pv 0) fh)),l8 (sr (cR lR (cR lR (cR lR (cR cG (cR cG fh)))))) (oE (pv 1) cG n8)⟩
end
theorem JW(c:Cv)(F:∀(j:Nat) (d:Ds),dL[j]?=ae d->(Fun c.K d.x d.x (cu d.i) d.f (kM d)/\c.mg d.x=ae (.ref d.f))/\Cw c.K (.ref d.f)=ah)(z:∀x∈zL,c.mg x=af)(u0:c.mg "GREATEST_NUMBER"=ae (.int 99 225))(u1:c.mg "MOST_STANDS"=ae (.int 2000 429))(u2:c.mg "GETTING"=ae (.ref 80))(u3:∀H,SqT c.K H 80 ((Zf:List Str).map V.str)):FnOk c.P c.w c.K c.mg c.base cx 10 (Ds.f ⟨64,"law",703,419,1,366,ah,714,6⟩) (kM ⟨64,"law",703,419,1,366,ah,714,6⟩) Zd (DL.spLaw c.K):=by
 have a__law_draw:gx c:=by apply Lx<;>with_reducible assumption
 have a_is_whole:uw c:=by apply Qv<;>with_reducible assumption
 have a_field_fits:u9 c:=by apply Nn<;>with_reducible assumption
 have a_fits:qd c:=by apply LZ<;>with_reducible assumption
 have a_next_value:tD c:=by apply Jn<;>with_reducible assumption
 have a_field_value:rk c:=by apply J7<;>with_reducible assumption
 have a_filled:tW c:=by apply Sr<;>with_reducible assumption
 have a_is_within:uz c:=by apply Mp<;>with_reducible assumption
 have a_next_act:pB c:=by apply SU<;>with_reducible assumption
 have a_gets:sX c:=by apply RR<;>with_reducible assumption
 have a_gone_on:rW c:=by apply Ju<;>with_reducible assumption
 have a_gone_to:sQ c:=by apply TH<;>with_reducible assumption
 have a_with_hand:rR c:=by apply Qb<;>with_reducible assumption
 have a_got:wH c:=by apply Lc<;>with_reducible assumption
 have a_is_same_value:vx c:=by apply Q6<;>with_reducible assumption
 have a_hand_moved:t6 c:=by apply QL<;>with_reducible assumption
 have a_aged:wA c:=by apply NS<;>with_reducible assumption
 have a_clock_moved:t9 c:=by apply P2<;>with_reducible assumption
 have a_after:vY c:=by apply K0<;>with_reducible assumption
 have a_others_in:vh c:=by apply Pz<;>with_reducible assumption
 have a_how_many_fit:wZ c:=by apply TY<;>with_reducible assumption
 have a_sees:ub c:=by apply MU<;>with_reducible assumption
 have a_further:xA c:=by apply K3<;>with_reducible assumption
 have a_steps_from:t5 c:=by apply KP<;>with_reducible assumption
 have a_way_along:sU c:=by apply Qn<;>with_reducible assumption
 have a_first_seeing:xX c:=by apply NQ<;>with_reducible assumption
 have a_way_to:tu c:=by apply Ku<;>with_reducible assumption
 have a__law_value:lj c:=by apply Lz<;>with_reducible assumption
 have a__law_size:nO c:=by apply LS<;>with_reducible assumption
 have a__law_pattern:rh c:=by apply My<;>with_reducible assumption
 have a__law_template:vV c:=by apply Th<;>with_reducible assumption
 have a__law_term:u7 c:=by apply Mk<;>with_reducible assumption
 have a__law_act:sW c:=by apply Rv<;>with_reducible assumption
 have a__law_program:xg c:=by apply RZ<;>with_reducible assumption
 have a__law_notes:sL c:=by apply Mz<;>with_reducible assumption
 have a__law_known:vJ c:=by apply Se<;>with_reducible assumption
 have a__law_stand:uq c:=by apply RG<;>with_reducible assumption
 have a__law_setting:uP c:=by apply IL<;>with_reducible assumption
 have a__law_fits:sF c:=by apply Kb<;>with_reducible assumption
 have a__law_filled:uh c:=by apply JO<;>with_reducible assumption
 have a__law_act_at:tw c:=by apply RN<;>with_reducible assumption
 have a__law_got:qj c:=by apply Nf<;>with_reducible assumption
 have a__law_movers:sP c:=by apply Ke<;>with_reducible assumption
 have a__law_moved:qu c:=by apply O9<;>with_reducible assumption
 have a__law_gone:uL c:=by apply Mw<;>with_reducible assumption
 have a__law_sight:uC c:=by apply MJ<;>with_reducible assumption
 have a__law_seen:sT c:=by apply RT<;>with_reducible assumption
 have a__law_walked:wV c:=by apply Rt<;>with_reducible assumption
 have a__law_aim:vt c:=by apply KY<;>with_reducible assumption
 have a__law_right:xF c:=by apply QJ<;>with_reducible assumption
 apply Lu<;>with_reducible assumption
theorem all_K(w:Bt)(mg)(fa)(h:Heap)(X:(KK w.params).In h)(G:h.Ns D1 mg)(hfa:mg "law"=ae (.ref fa)):
  ∃fd:Cg,(∀(s:Ak)(u:Ag),BindsTo s fd ⟨[u],[]⟩ [("_law_script",u)])/\∀base:Heap,(KK w.params).In base->base.Ns D1 mg->FnOk pR w (KK w.params) mg base cx 10 fa fd Zd (DL.spLaw (KK w.params)):=by
 have e:=hfa.symm.trans (BI X G 51 ⟨64,"law",703,419,1,366,ah,714,6⟩ rfl).1.2;cases e;exact⟨kM ⟨64,"law",703,419,1,366,ah,714,6⟩,λs v=>.of_eq rfl,λbase _ _=>JW ⟨pR,w,KK w.params,mg,base⟩ (λj d e=>BI X G j d e) (zK X G) (PySem.W.mg_of X G ⇑79) (PySem.W.mg_of X G ⇑79) (PySem.W.mg_of X G ⇑79) (λH=>.inr ⟨_,_,_,(show(KK w.params).lookup 80=ae (oT "tuple" (.seq #[(.str "take" 282),(.str "read" 283),(.str "look" 284)] 0)) by kernel_rfl),rfl,rfl,show 3<=Az by decide,(.cons ⟨_,rfl⟩ (.cons ⟨_,rfl⟩ (.cons ⟨_,rfl⟩ .nil)))⟩)⟩
theorem walk{l:PySem.W.OpenLaw}{XP:(Str->Option Ag)->Heap->Prop}{K:Params->Ah}(hn:l.most=ae 63)(hdf:d.params.defaults=[])
  (hY:∀(w:Bt)(h:Heap),YP w h->(K w.params).In h)
  (F:∀(w:Bt)(mg:Str->Option Ag)(fa:Addr)(h:Heap),(K w.params).In h->h.Ns D1 mg->mg d.name=ae (.ref fa)->
   ∃fd:Cg,(∀(s:Ak)(u:Ag),BindsTo s fd ⟨[u],[]⟩ [("_law_script",u)])/\∀base:Heap,(K w.params).In base->base.Ns D1 mg->FnOk l.prog w (K w.params) mg base cx 10 fa fd Zd (DL.spLaw (K w.params))):
  PySem.W.WalkO q loose XP YP l.row.toRowW d [] (λf vs=>PySem.call f vs):=
 L2.walk_of (n:=63) (k:=10) (x:="_law_script") (CX:=λ_=>cx) (sp:=λw=>DL.spLaw (K w.params)) hn ∎ hdf ⟨rfl,by decide,by decide,rfl⟩ hY F (λ_ _ a ns hl _ hS=>⟨a,ns,rfl,hS,hl,λ_=>rfl⟩) λ_ _ _ _ _ z=>z
end Nb
open PySem PySem.W PyProof.Rows
set_option maxRecDepth 100000 in
set_option maxHeartbeats 0 in
theorem PySem.Challenge.cw_noteboard_k41_nearest_ways_holds : PySem.Challenge.rw_noteboard_k41_nearest_ways.Holds := by
 refine holds_law Nb.said_ λsaid=>?_;refine holds_open (q:=Nb.qq) (loose:=Nb.lO) (Xt:=Nb.xT) (XP:=XL Nb.qq []) (Yf:=Hook.obs Nb.hK) (Ya:=Hook.val Nb.hK) (YP:=Hook.says Nb.hK) (d:=Nb.dW) (kwd:=[]) (N:=6000) Nb.left_ (Hook.of Nb.hK) (Hook.keeps Nb.hK) (λs e=>xl_of s (Bool.and_eq_true_iff.mp e).1) XL.keeps (by kernel_rfl) (by kernel_rfl) (by kernel_rfl) (λs e=>recFacts_of (Bool.and_eq_true_iff.mp e).2) (by kernel_rfl) said (by decide +kernel) ⟨rfl,rfl,rfl,rfl,rfl,by decide +kernel⟩ ?hw ?hc
 (case hw=>w_witness2)
 exact Nb.walk (l:=PySem.Challenge.rw_noteboard_k41_nearest_ways) (by kernel_rfl) (by kernel_rfl) (λw h Y=>kIn_of Y) Nb.all_K
